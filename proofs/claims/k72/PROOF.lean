import PyProof.Rows.All
import Wide.All
import OpenK.AllK
import Wide.FinOn
import Lean
import PyProof.EqAt
import PyProof.EqKinds
import PyProof.TupleCall
import PySem.Challenge.RW_rightname_k72_entered
set_option Elab.async false
set_option linter.all false
set_option maxRecDepth 100000
namespace L2
open PySem PySem.Spec PyProof.Rows
abbrev Key:=Sum Int Str
def iT:Key → Value → Bool
 | .inl k,v=>Value.isInt k v
 | .inr x,v=>Value.isStrOf x v
def yp (w:World):Key → Int
 | .inl k=>hashInt k
 | .inr x=>hashStr w x
theorem bw:∀ {k:Key} {v:Value},iT k v = true → (∃ i t,k = Sum.inl i ∧ v = Value.int i t) ∨ (∃ x t,k = Sum.inr x ∧ v = Value.str x t)
 | .inl i,v,h=>by
  obtain ⟨t,e⟩:=Value.isInt_shape (k:=i) (v:=v) h
  exact .inl ⟨i,t,rfl,e⟩
 | .inr x,v,h=>by
  obtain ⟨t,e⟩:=Value.isStrOf_shape (x:=x) (v:=v) h
  exact .inr ⟨x,t,rfl,e⟩
theorem q9 (i:Int) (t:Tok):iT (.inl i) (.int i t) = true:=by simp [iT,Value.isInt]
theorem jJ (x:Str) (t:Tok):iT (.inr x) (.str x t) = true:=by simp [iT,Value.isStrOf]
theorem we (a b:Int):decide ((Sum.inl a:Key) = Sum.inl b) = (a == b):=by
 by_cases e:a = b
 ·subst e; simp
 ·have h:¬ (Sum.inl a:Key) = Sum.inl b:=fun q=>e (Sum.inl.inj q)
  rw [decide_eq_false h]
  exact (beq_eq_false_iff_ne.mpr e).symm
theorem vw (a b:Str):decide ((Sum.inr a:Key) = Sum.inr b) = decide (a = b):=by
 by_cases e:a = b
 ·subst e; simp
 ·have h:¬ (Sum.inr a:Key) = Sum.inr b:=fun q=>e (Sum.inr.inj q)
  rw [decide_eq_false h,decide_eq_false e]
theorem vz (a:Int) (b:Str):decide ((Sum.inl a:Key) = Sum.inr b) = false:=decide_eq_false (fun q=>nomatch q)
theorem vy (a:Str) (b:Int):decide ((Sum.inr a:Key) = Sum.inl b) = false:=decide_eq_false (fun q=>nomatch q)
def ae (prog:Program) (w:World):PySem.KeyKind prog w Key where
 is:=iT
 hash:=yp w
 inj:=fun v a b ha hb=>by
  rcases bw ha with ⟨i,t,rfl,rfl⟩ | ⟨x,t,rfl,rfl⟩
  ·rcases bw hb with ⟨j,u,rfl,e⟩ | ⟨y,u,rfl,e⟩
   ·injection e with e1 _; rw [e1]
   ·exact nomatch e
  ·rcases bw hb with ⟨j,u,rfl,e⟩ | ⟨y,u,rfl,e⟩
   ·exact nomatch e
   ·injection e with e1 _; rw [e1]
 byValue:=fun k v h=>by
  rcases bw h with ⟨i,t,rfl,rfl⟩ | ⟨x,t,rfl,rfl⟩ <;> rfl
 pyHash:=fun hv h=>by
  rcases bw hv with ⟨i,t,rfl,rfl⟩ | ⟨x,t,rfl,rfl⟩
  ·exact wpAny_pyHash_int h
  ·exact wpAny_pyHash_str h
 eqBool:=fun hu hv h=>by
  rcases bw hu with ⟨i,t,rfl,rfl⟩ | ⟨x,t,rfl,rfl⟩
  ·rcases bw hv with ⟨j,u,rfl,rfl⟩ | ⟨y,u,rfl,rfl⟩
   ·rw [we] at h; exact wpAny_eqBool_int h
   ·rw [vz] at h; exact SeqAt.EqAt.int_str i t y u _ _ _ _ h
  ·rcases bw hv with ⟨j,u,rfl,rfl⟩ | ⟨y,u,rfl,rfl⟩
   ·rw [vy] at h; exact SeqAt.EqAt.str_int x t j u _ _ _ _ h
   ·rw [vw] at h; exact wpAny_eqBool_str h
 «strs»:=fun k x t v h=>by
  rcases bw h with ⟨i,u,rfl,e⟩ | ⟨y,u,rfl,e⟩
  ·exact nomatch e
  ·injection e with e1 _
   subst e1
   cases v <;> rfl
theorem mn (prog:Program) (w:World) (i:Int) (t:Tok):(ae prog w).is (.inl i) (.int i t) = true:=q9 i t
theorem mZ (prog:Program) (w:World) (x:Str) (t:Tok):(ae prog w).is (.inr x) (.str x t) = true:=jJ x t
end L2
namespace L2
open PySem PySem.Spec PyProof.Rows
inductive V where
 | ax | bl (b:Bool) | int (i:Int) | str (x:Str) | byt (b:Array UInt8) | flt (b:UInt64) | ref (a:Addr) | ty (n:String)
 deriving DecidableEq
def RelV:V → Value → Prop
 | .ax,u=>u = Value.none
 | .bl b,u=>u = Value.bool b
 | .int i,u=>∃ t,u = Value.int i t
 | .str x,u=>∃ t,u = Value.str x t
 | .byt b,u=>∃ t,u = Value.bytes b t
 | .flt b,u=>∃ t,u = Value.float b t
 | .ref a,u=>u = Value.ref a
 | .ty n,u=>u = Value.type n
abbrev Vals:List V → List Value → Prop:=Paired RelV
theorem Vals.length {xs:List V} {us:List Value} (r:Vals xs us):xs.length = us.length:=Paired.length r
theorem Vals.get:∀ {xs:List V} {us:List Value} {i:Nat} {x:V},Vals xs us → xs[i]? = some x → ∃ u,us[i]? = some u ∧ RelV x u
 | _,_,_,_,.nil,e=>by simp at e
 | _,_,0,_,.cons r _,e=>by simp at e; subst e; exact ⟨_,rfl,r⟩
 | _,_,i + 1,x,.cons _ t,e=>by
  obtain ⟨u,h1,h2⟩:=Vals.get (i:=i) (x:=x) t (by simpa using e)
  exact ⟨u,by simpa using h1,h2⟩
theorem Vals.set {x:V} {u:Value} (r:RelV x u):∀ {xs:List V} {us:List Value} (i:Nat),Vals xs us → Vals (xs.set i x) (us.set i u)
 | _,_,_,.nil=>.nil
 | _,_,0,.cons _ t=>.cons r t
 | _,_,i + 1,.cons q t=>.cons q (Vals.set r i t)
theorem Vals.append:∀ {xs ys:List V} {us ws:List Value},Vals xs us → Vals ys ws → Vals (xs ++ ys) (us ++ ws)
 | _,_,_,_,.nil,s=>s
 | _,_,_,_,.cons r t,s=>.cons r (Vals.append t s)
theorem Vals.take:∀ {xs:List V} {us:List Value} (n:Nat),Vals xs us → Vals (xs.take n) (us.take n)
 | _,_,0,_=>.nil
 | _,_,_ + 1,.nil=>.nil
 | _,_,n + 1,.cons r t=>.cons r (Vals.take n t)
theorem Vals.drop:∀ {xs:List V} {us:List Value} (n:Nat),Vals xs us → Vals (xs.drop n) (us.drop n)
 | _,_,0,r=>r
 | _,_,_ + 1,.nil=>.nil
 | _,_,n + 1,.cons _ t=>Vals.drop n t
theorem Vals.none_of:∀ {xs:List V} {us:List Value} {i:Nat},Vals xs us → xs[i]? = none → us[i]? = none:=fun {xs us i} r e=>by
 have h1:=r.length
 have h2:xs.length ≤ i:=List.getElem?_eq_none_iff.mp e
 exact List.getElem?_eq_none_iff.mpr (by omega)
def eg:Option V → Option Value → Prop
 | some v,some u=>RelV v u
 | none,none=>True
 | _,_=>False
def KV {κ:Type}:List (κ × V) → List (κ × Value) → Prop:=Paired fun (p:κ × V) (q:κ × Value)=>p.1 = q.1 ∧ RelV p.2 q.2
def kV:Key → V
 | .inl i=>.int i
 | .inr x=>.str x
inductive HO where
  | lst (xs:List V)
  | tup (xs:List V)
  | dK (kvs:List (Key × V)) | dT (kvs:List (List Key × V))
  | set (S:Int → Bool) (n:Nat)
  | ins (C dx:Addr) (fs:List (Str × V))
  | own (x:Addr)
  | xd (fs:List (Str × V))
  | met (f x:Addr)
  | rng (lo hi:Int)
  | frz (o:Obj) (u:HO)
  | tbl (ps:Array Value)
  | ext (φ:Heap → Prop)
abbrev Hp:=Addr → Option HO
def upd (H:Hp) (a:Addr) (o:HO):Hp:=fun b=>if b = a then some o else H b
theorem aC {H:Hp} {a:Addr} {o:HO}:upd H a o a = some o:=by unfold upd; rw [if_pos rfl]
theorem aH {H:Hp} {a b:Addr} {o:HO} (h:b ≠ a):upd H a o b = H b:=by unfold upd; rw [if_neg h]
theorem eS {H:Hp} {a:Addr} {o u:HO}:upd (upd H a o) a u = upd H a u:=by
 funext b; unfold upd; split <;> rfl
theorem aX {H:Hp} {a b:Addr} {o u:HO} (h:H a = some o) (h':H b = some u) (d:o ≠ u):a ≠ b:=by
 intro e; subst e; rw [h] at h'; exact d (Option.some.inj h')
theorem aK {H:Hp} {a b:Addr} {o:HO} (h:H a = some o) (h':H b = none):a ≠ b:=by
 intro e; subst e; rw [h] at h'; cases h'
section
variable (P:Program) (w:World)
def bX (H:Hp) (h:Heap) (a:Addr):HO → Prop
 | .lst xs=>xs.length ≤ sizeLine ∧ ∃ (its:List Value) (n:Nat),Vals xs its ∧ h.get? a = some { cls:=.type "list",data:=.seq its.toArray n }
 | .tup xs=>xs.length ≤ sizeLine ∧ ∃ its:List Value,Vals xs its ∧ IsTup h a its.toArray
 | .dK kvs=>kvs.length ≤ sizeLine ∧ (a == sysModules) = false ∧ ∃ vs,KV kvs vs ∧ h.DictOf (ae P w) a vs
 | .dT kvs=>kvs.length ≤ sizeLine ∧ (a == sysModules) = false ∧ ∃ xs:List (List Key × Addr × Value),
   Paired (fun (p:List Key × V) (q:List Key × Addr × Value)=>p.1 = q.1 ∧ H q.2.1 = some (.tup (p.1.map kV)) ∧ RelV p.2 q.2.2) kvs xs ∧
   ∃ o es ep,h.get? a = some o ∧ o.ExactDict ∧ o.data = .dict es ep ∧ es.toList = xs.map (entryOfKey (tupleKind (ae P w))) ∧ (xs.map (·.1)).Nodup
 | .set S n=>h.SetOf (intKind P w) a S n
 | .ins C dx fs=>H dx = some (.own a) ∧ fs.length ≤ 1000 ∧ dx ≠ a ∧ h.get? a = some (PySem.W.instObj C dx) ∧
   ∃ mA,h.Ns1 dx mA ∧ (∀ f,eg (fs.lookup f) (mA f)) ∧ PySem.Within mA (fs.map (·.1))
 | .own _=>∃ o,h.get? a = some o
 | .xd fs=>∃ mA,h.Ns1 a mA ∧ ∀ f,eg (fs.lookup f) (mA f)
 | .rng lo hi=>∃ t u v,h.get? a = some { cls:=.type "range",data:=.fields #[.int lo t,.int hi u,.int 1 v] }
 | .frz o u=>h.get? a = some o ∧ bX H h a u
 | .tbl ps=>h.get? a = some { cls:=.none,data:=.fields ps }
 | .met f x=>h.get? a = some (PySem.W.methodObj (.ref f) (.ref x))
 | .ext φ=>φ h ∧ (∃ o,h.get? a = some o) ∧ ∀ h1 h2:Heap,φ h1 → (∀ o,h1.get? a = some o → h2.get? a = some o) → φ h2
def fF (H:Hp) (h:Heap):Prop:=∀ a o,H a = some o → bX P w H h a o
end
section
variable {P:Program} {w:World} {H H':Hp} {h h':Heap} {a:Addr} {o:HO}
theorem bX.lt (x:bX P w H h a o):a < h.objs.size:=by
 cases o with
 | lst xs=>obtain ⟨_,_,_,_,e⟩:=x; exact Heap.lt_size e
 | tup xs=>obtain ⟨_,_,_,p⟩:=x; exact p.lt
 | dK kvs=>obtain ⟨_,_,_,_,o,_,_,e,_⟩:=x; exact Heap.lt_size e
 | dT kvs=>obtain ⟨_,_,_,_,o,_,_,e,_⟩:=x; exact Heap.lt_size e
 | set S n=>obtain ⟨o,_,_,_,e,_⟩:=x; exact Heap.lt_size e
 | ins C dx fs=>obtain ⟨_,_,_,e,_⟩:=x; exact Heap.lt_size e
 | own y=>obtain ⟨_,e⟩:=x; exact Heap.lt_size e
 | xd fs=>obtain ⟨_,⟨_,_,_,e,_⟩,_⟩:=x; exact Heap.lt_size e
 | rng lo hi=>obtain ⟨_,_,_,e⟩:=x; exact Heap.lt_size e
 | frz ob u=>obtain ⟨e,_⟩:=x; exact Heap.lt_size e
 | tbl ps=>exact Heap.lt_size (show h.get? a = some _ from x)
 | met f y=>exact Heap.lt_size (show h.get? a = some _ from x)
 | ext φ=>obtain ⟨_,⟨_,e⟩,_⟩:=x; exact Heap.lt_size e
theorem Paired.eJ {α β:Type} {F G:α → β → Prop}:∀ {l₁:List α} {l₂:List β},Paired F l₁ l₂ → (∀ a b,F a b → G a b) → Paired G l₁ l₂
 | _,_,.nil,_=>.nil
 | _,_,.cons r t,f=>.cons (f _ _ r) (Paired.eJ t f)
theorem bX.mG (x:bX P w H h a o) (k:∀ b u,(b = a ∨ H b = some (.own a)) → h.get? b = some u → h'.get? b = some u)
  (ho:∀ b,H b = some (.own a) → H' b = some (.own a)) (ht:∀ b xs,H b = some (.tup xs) → H' b = some (.tup xs)):bX P w H' h' a o:=by
 induction o with
 | lst xs=>obtain ⟨z,its,n,r,e⟩:=x; exact ⟨z,its,n,r,k _ _ (.inl rfl) e⟩
 | tup xs=>obtain ⟨z,its,r,ob,e,c⟩:=x; exact ⟨z,its,r,ob,k _ _ (.inl rfl) e,c⟩
 | dK kvs=>obtain ⟨z,y,vs,r,ob,es,ep,e,c⟩:=x; exact ⟨z,y,vs,r,ob,es,ep,k _ _ (.inl rfl) e,c⟩
 | dT kvs =>
  obtain ⟨z,y,xs,r,ob,es,ep,e,c⟩:=x
  exact ⟨z,y,xs,Paired.eJ r fun p q z=>⟨z.1,ht _ _ z.2.1,z.2.2⟩,ob,es,ep,k _ _ (.inl rfl) e,c⟩
 | set S n=>obtain ⟨ob,es,ep,t,e,c⟩:=x; exact ⟨ob,es,ep,t,k _ _ (.inl rfl) e,c⟩
 | ins C dx fs =>
  obtain ⟨d,z,ne,e,mA,⟨od,es,ep,e2,c⟩,r⟩:=x
  exact ⟨ho _ d,z,ne,k _ _ (.inl rfl) e,mA,⟨od,es,ep,k _ _ (.inr d) e2,c⟩,r⟩
 | own y=>obtain ⟨ob,e⟩:=x; exact ⟨ob,k _ _ (.inl rfl) e⟩
 | xd fs=>obtain ⟨mA,⟨od,es,ep,e,c⟩,r⟩:=x; exact ⟨mA,⟨od,es,ep,k _ _ (.inl rfl) e,c⟩,r⟩
 | rng lo hi=>obtain ⟨t,u,v,e⟩:=x; exact ⟨t,u,v,k _ _ (.inl rfl) e⟩
 | frz ob u ih=>obtain ⟨e,q⟩:=x; exact ⟨k _ _ (.inl rfl) e,ih q⟩
 | tbl ps =>
  have e:h.get? a = some { cls:=.none,data:=.fields ps }:=x
  show h'.get? a = some { cls:=.none,data:=.fields ps }
  exact k a _ (.inl rfl) e
 | met f y =>
  have e:h.get? a = some (PySem.W.methodObj (.ref f) (.ref y)):=x
  show h'.get? a = some (PySem.W.methodObj (.ref f) (.ref y))
  exact k a _ (.inl rfl) e
 | ext φ=>obtain ⟨p,⟨o,e⟩,st⟩:=x; exact ⟨st _ _ p fun o q=>k _ _ (.inl rfl) q,⟨o,k _ _ (.inl rfl) e⟩,st⟩
theorem fF.lt (x:fF P w H h) (e:H a = some o):a < h.objs.size:=(x a o e).lt
theorem fF.fresh (x:fF P w H h) (e:h.objs.size ≤ a):H a = none:=by
 cases q:H a with
 | none=>rfl
 | some u=>exact absurd (Nat.lt_of_lt_of_le (x.lt q) e) (Nat.lt_irrefl _)
theorem fF.kept (x:fF P w H h) (k:∀ b u,h.get? b = some u → h'.get? b = some u):fF P w H h':=fun a o e =>
 (x a o e).mG (fun b u _ q=>k b u q) (fun _ q=>q) fun _ _ q=>q
theorem fF.laid (x:fF P w H h) (k:∀ b u,h.get? b = some u → h'.get? b = some u) (hp:h.objs.size ≤ a) (new:bX P w (upd H a o) h' a o):fF P w (upd H a o) h':=fun b u e=>by
 have hn:=x.fresh hp
 by_cases hb:b = a
 ·subst hb; rw [aC] at e; cases e; exact new
 ·rw [aH hb] at e
  exact (x b u e).mG (fun c v _ q=>k c v q) (fun c q=>by rw [aH (aK q hn)]; exact q) fun c xs q=>by rw [aH (aK q hn)]; exact q
end
def Rd (H:Hp) (a:Addr) (u:HO):Prop:=H a = some u ∨ ∃ o,H a = some (.frz o u)
theorem Rd.of {H:Hp} {a:Addr} {u:HO} (h:H a = some u):Rd H a u:=.inl h
theorem Rd.ok {P:Program} {w:World} {H:Hp} {h:Heap} {a:Addr} {u:HO} (r:Rd H a u) (x:fF P w H h):bX P w H h a u:=by
 rcases r with r | ⟨o,r⟩
 ·exact x a u r
 ·obtain ⟨_,q⟩:=x a _ r
  exact q
def xx:Option HO → Prop
 | some (.lst _)=>True
 | some (.dK _)=>True
 | some (.dT _)=>True
 | some (.set _ _)=>True
 | some (.ins _ _ _)=>True
 | some (.ext _)=>True
 | _=>False
section
variable {P:Program} {w:World} {H:Hp} {h h':Heap} {x e:Addr} {o':HO}
theorem fF.write (ok:fF P w H h) (mu:xx (H x)) (he:e = x ∨ H e = some (.own x)) (k:∀ b u,b ≠ e → h.get? b = some u → h'.get? b = some u) (heo:∃ u,h'.get? e = some u)
  (new:bX P w (upd H x o') h' x o'):fF P w (upd H x o') h':=fun b u q=>by
 have nown:∀ c y,H c = some (.own y) → c ≠ x:=fun c y r z=>by subst z; rw [r] at mu; exact mu
 have ntup:∀ c xs,H c = some (.tup xs) → c ≠ x:=fun c xs r z=>by subst z; rw [r] at mu; exact mu
 by_cases hb:b = x
 ·subst hb; rw [aC] at q; cases q; exact new
 ·rw [aH hb] at q
  by_cases hbe:b = e
  ·have q':H b = some (.own x):=by
    rcases he with z | z
    ·exact absurd (hbe.trans z) hb
    ·rw [hbe]; exact z
   rw [q] at q'; cases q'
   obtain ⟨v,hv⟩:=heo
   exact ⟨v,by rw [hbe]; exact hv⟩
  ·refine (ok b u q).mG (fun c v hc r=>k c v ?_ r) (fun c r=>by rw [aH (nown c b r)]; exact r) fun c xs r=>by rw [aH (ntup c xs r)]; exact r
   rcases hc with rfl | hc
   ·exact hbe
   ·rintro rfl
    rcases he with z | z
    ·exact nown c b hc z
    ·rw [hc] at z; cases z; exact hb rfl
end
structure Un (fs ex:List Addr) (H H':Hp) (h h':Heap):Prop where
 keep:∀ b o,h.get? b = some o → H b = none → b ∉ fs → b ∉ ex → h'.get? b = some o
 slot:∀ b o,h.get? b = some o → H b = none → b ∈ fs → b ∉ ex → ∃ sl,h'.get? b = some { o with slots:=sl }
 free:∀ b o,h.get? b = some o → H b = none → b ∉ ex → H' b = none
 there:∀ b o,h.get? b = some o → b ∉ ex → ∃ o',h'.get? b = some o'
 tups:∀ b xs,H b = some (.tup xs) → H' b = some (.tup xs)
 frzs:∀ b o u,H b = some (.frz o u) → H' b = some (.frz o u)
 tbls:∀ b ps,H b = some (.tbl ps) → ∃ more,H' b = some (.tbl (ps ++ more))
section
variable {fs fs' ex ex':List Addr} {H H1 H2:Hp} {h h1 h2 h':Heap} {a x e:Addr} {o:HO}
theorem Un.any (u:Un fs ex H H1 h h1) {b:Addr} {ob:Obj} (q:h.get? b = some ob) (n:H b = none) (hx:b ∉ ex):∃ sl,h1.get? b = some { ob with slots:=sl }:=by
 by_cases hb:b ∈ fs
 ·exact u.slot b ob q n hb hx
 ·exact ⟨ob.slots,u.keep b ob q n hb hx⟩
theorem Un.trans (a:Un fs ex H H1 h h1) (b:Un fs ex H1 H2 h1 h2):Un fs ex H H2 h h2 where
 keep:=fun c ob q n hc hx=>b.keep c ob (a.keep c ob q n hc hx) (a.free c ob q n hx) hc hx
 slot:=fun c ob q n hc hx=>by
  obtain ⟨sl,e1⟩:=a.slot c ob q n hc hx
  obtain ⟨sl',e2⟩:=b.slot c _ e1 (a.free c ob q n hx) hc hx
  exact ⟨sl',e2⟩
 free:=fun c ob q n hx=>by
  obtain ⟨o',e1⟩:=a.there c ob q hx
  exact b.free c o' e1 (a.free c ob q n hx) hx
 there:=fun c ob q hx=>by
  obtain ⟨o',e1⟩:=a.there c ob q hx
  exact b.there c o' e1 hx
 tups:=fun c xs q=>b.tups c xs (a.tups c xs q)
 frzs:=fun c ob xs q=>b.frzs c ob xs (a.frzs c ob xs q)
 tbls:=fun c ps q=>by
  obtain ⟨m1,e1⟩:=a.tbls c ps q
  obtain ⟨m2,e2⟩:=b.tbls c _ e1
  exact ⟨m1 ++ m2,by rw [e2,Array.append_assoc]⟩
theorem Un.kept (k:∀ b u,h.get? b = some u → h'.get? b = some u):Un fs ex H H h h' :=
 ⟨fun b ob q _ _ _=>k b ob q,fun b ob q _ _ _=>⟨ob.slots,k b ob q⟩,fun _ _ _ n _=>n,fun b ob q _=>⟨ob,k b ob q⟩,fun _ _ q=>q,fun _ _ _ q=>q,fun _ ps q=>⟨#[],by rw [q]; simp⟩⟩
theorem Un.refl:Un fs ex H H h h:=Un.kept fun _ _ q=>q
theorem Un.laid (k:∀ b u,h.get? b = some u → h'.get? b = some u) (hp:h.objs.size ≤ a) (hn:H a = none):Un fs ex H (upd H a o) h h' where
 keep:=fun b u q _ _ _=>k b u q
 slot:=fun b u q _ _ _=>⟨u.slots,k b u q⟩
 free:=fun b u q n _=>by rw [aH (Nat.ne_of_lt (Nat.lt_of_lt_of_le (Heap.lt_size q) hp))]; exact n
 there:=fun b u q _=>⟨u,k b u q⟩
 tups:=fun b xs q=>by rw [aH (aK q hn)]; exact q
 frzs:=fun b u xs q=>by rw [aH (aK q hn)]; exact q
 tbls:=fun b ps q=>⟨#[],by rw [aH (aK q hn),q]; simp⟩
theorem Un.write (mu:xx (H x)) (he:e = x ∨ H e = some (.own x)) (k:∀ b u,b ≠ e → h.get? b = some u → h'.get? b = some u) (heo:∃ u,h'.get? e = some u):Un fs ex H (upd H x o) h h':=by
 have hx:∀ b,H b = none → b ≠ x:=fun b n z=>by subst z; rw [n] at mu; exact mu
 have hb:∀ b,H b = none → b ≠ e:=fun b n z=>by
  subst z
  rcases he with r | r
  ·exact hx b n r
  ·rw [n] at r; cases r
 have hm:∀ b u,H b = some u → ¬ xx (some u) → b ≠ x:=fun b u q nm z=>by subst z; rw [q] at mu; exact nm mu
 refine ⟨fun b u q n _ _=>k b u (hb b n) q,fun b u q n _ _=>⟨u.slots,k b u (hb b n) q⟩,fun b u q n _=>by rw [aH (hx b n)]; exact n,fun b u q _=>?_,
  fun b xs q=>by rw [aH (hm b _ q fun z=>z)]; exact q,fun b u xs q=>by rw [aH (hm b _ q fun z=>z)]; exact q,fun b ps q=>⟨#[],by rw [aH (hm b _ q fun z=>z),q]; simp⟩⟩
 by_cases hbe:b = e
 ·subst hbe; exact heo
 ·exact ⟨u,k b u hbe q⟩
theorem Un.mono (u:Un fs ex H H1 h h1) (hs:∀ b ∈ fs,b ∈ fs') (hx:∀ b ∈ ex,b ∈ ex'):Un fs' ex' H H1 h h1 :=
 ⟨fun b ob q n hb he=>u.keep b ob q n (fun z=>hb (hs b z)) fun z=>he (hx b z),fun _ _ q n _ he=>u.any q n fun z=>he (hx _ z),fun b ob q n he=>u.free b ob q n fun z=>he (hx b z),fun b ob q he=>u.there b ob q fun z=>he (hx b z),u.tups,u.frzs,u.tbls⟩
end
def yY (h:Heap) (H:Hp):List Addr:=(List.range h.objs.size).filter fun a=>(H a).isSome
def mM (h:Heap) (H:Hp):Heap:=PySem.W.hideAll h (yY h H)
theorem qp (h:Heap) (H:Hp):(mM h H).objs.size = h.objs.size:=PySem.W.hideAll_size _ _
theorem sF {h:Heap} {H:Hp} {b:Addr} {o:Obj} (e:h.get? b = some o) (n:H b = none):(mM h H).get? b = some o :=
 PySem.W.hideAll_get _ e fun hm=>by
  have q:(H b).isSome = true:=(List.mem_filter.mp hm).2
  rw [n] at q; simp at q
theorem u7 {h:Heap} {H:Hp} {b:Addr} {o:Obj} (e:(mM h H).get? b = some o):h.get? b = some o ∧ H b = none:=by
 have e':h.get? b = some o:=PySem.W.of_hideAll (yY h H) e
 refine ⟨e',?_⟩
 cases q:H b with
 | none=>rfl
 | some x =>
  have hm:b ∈ yY h H:=List.mem_filter.mpr ⟨List.mem_range.mpr (Heap.lt_size e'),by simp [q]⟩
  have z:(mM h H).get? b = none:=PySem.W.hideAll_none (yY h H) hm
  rw [z] at e; cases e
def vB (g h:Heap) (L:Addr):List (Addr × Obj):=(List.range h.objs.size).filterMap fun a=>if a = L ∨ (g.get? a).isSome = true then none else (h.get? a).map fun o=>(a,o)
def rest (g h:Heap) (L d:Addr):List (Addr × Obj):=(vB g h L).filter fun p=>decide (p.1 ≠ d)
end L2
namespace L2
open PySem PySem.Spec PyProof.Rows
structure Mod (K:PySem.W.Frag) (mg:Str → Option Value) (base:Heap):Prop where
 kin:K.In base
 glob:base.Ns mainGlobals mg
 blt:∃ mb,base.Ns builtinsNs mb ∧ ∀ x:Str,x ≠ "__name__" → mb x = bootBuiltins x
 nolimit:base.NoLimit
/- the context: a def's body (or a comprehension's block) running. base: fixed through the whole law; s₀, H₀: the entry; outer: the frames whose slots others may change (a def's callers); stack: all frames that run;
   ex: iterators that were made ahead of the entry and are walked here (a comprehension's); fn: the names whose cells were made at the entry (a def: all; a comprehension's block: its own); calm: not within an except suite; pn: pins that every state bears; xe: what is wanted of an exception that leaves the code -/
set_option genInjectivity false in
set_option genSizeOfSpec false in
set_option genSizeOf false in
structure Cx where
 prog:Program
 w:World
 K:PySem.W.Frag
 mg:Str → Option Value
 base:Heap
 A:Around
 N:List Str
 s₀:Shared
 H₀:Hp
 env:Env
 outer:List Env
 stack:List Env
 ex:List Addr
 fn:Str → Bool
 calm:Bool
 pn:List (Addr × Obj)
 xe:Value → Shared → Prop
def fM (l:List Env):List Addr:=l.filterMap (·.frame)
abbrev Cx.fs (X:Cx):List Addr:=fM X.outer
def yc (sc:Scope) (x:Str):Prop:=sc.names.lookup x = some .local ∨ sc.names.lookup x = some .cell ∨ sc.names.lookup x = some .free
def Loc (sc:Scope) (x:Str):Prop:=sc.names.lookup x = some .local ∨ sc.names.lookup x = some .cell
def Look (env:Env) (h:Heap) (m:Str → Option Value) (x:Str) (u:Value):Prop :=
 (env.kindOf x = some .local ∧ m x = some u) ∨ ((env.kindOf x = some .cell ∨ env.kindOf x = some .free) ∧ ∃ c,env.cells.lookup x = some c ∧ h.IsCell c (some u))
structure Cx.Ok (X:Cx):Prop where
 mod:Mod X.K X.mg X.base
 kind:X.env.scope.kind = .function
 glob:X.env.globals = mainGlobals
 blt:X.env.builtins = builtinsNs
 above:X.s₀.heap.objs.size ≤ X.env.locals
 inj:∀ x y c,X.env.cells.lookup x = some c → X.env.cells.lookup y = some c → x = y
 has:∀ x,(X.env.kindOf x = some .cell ∨ X.env.kindOf x = some .free) → ∃ c,X.env.cells.lookup x = some c
 cab:∀ x c,X.fn x = true → X.env.cells.lookup x = some c → X.s₀.heap.objs.size ≤ c
 hd:X.calm = true → X.A.handled = none
 frames:X.A.frames = some X.stack
 stk:X.stack = X.outer ∨ (X.stack = X.env :: X.outer ∧ X.env.frame = some X.env.locals)
 exf:∀ b ∈ X.ex,b ≠ X.env.locals ∧ ∀ x c,X.env.cells.lookup x = some c → c ≠ b
 bs:∀ b o,X.base.get? b = some o → X.s₀.heap.get? b = some o ∧ X.H₀ b = none
 bsz:X.base.objs.size ≤ X.s₀.heap.objs.size
 noex:∀ b o,X.base.get? b = some o → b ∉ X.ex
 exfs:∀ b ∈ X.ex,b ∉ X.fs
 gN:X.s₀.heap.FunFrames X.base X.outer
 frf:∀ b ∈ X.fs,X.H₀ b = none
structure Inv (X:Cx) (pins:List (Addr × Obj)) (σ:List (Option V)) (H:Hp) (s:Shared):Prop where
 ok:X.Ok
 os:s.os = X.s₀.os
 bare:AllBare s.gens
 base:Un X.fs X.ex X.H₀ H X.s₀.heap s.heap
 loc:∃ m,s.heap.Ns X.env.locals m ∧ ∀ (i:Nat) (x:Str) (v:V),X.N[i]? = some x → σ[i]? = some (some v) → yc X.env.scope x → ∃ u,RelV v u ∧ Look X.env s.heap m x u
 cell:∀ x c,X.env.cells.lookup x = some c → ∃ v,s.heap.IsCell c v
 free:H X.env.locals = none
 freeC:∀ x c,X.env.cells.lookup x = some c → H c = none
 pin:∀ p ∈ X.pn ++ pins,s.heap.get? p.1 = some p.2 ∧ H p.1 = none ∧ p.1 ≠ X.env.locals ∧ p.1 ∉ X.fs ∧ ∀ v,p.2.data ≠ .cell v
 hok:fF X.prog X.w H s.heap
 len:σ.length = X.N.length
section
variable {X:Cx} {pins:List (Addr × Obj)} {σ:List (Option V)} {H H':Hp} {s:Shared} {h':Heap}
theorem Cx.Ok.zD (ok:X.Ok) {b:Addr} {o:Obj} (e:X.base.get? b = some o):b ∉ X.fs:=fun hb=>by
 have:=(ok.gN.mem hb).1
 rw [e] at this; cases this
theorem Inv.bs (I:Inv X pins σ H s):∀ b o,X.base.get? b = some o → s.heap.get? b = some o ∧ H b = none:=fun b o e =>
 ⟨I.base.keep b o (I.ok.bs b o e).1 (I.ok.bs b o e).2 (I.ok.zD e) (I.ok.noex b o e),I.base.free b o (I.ok.bs b o e).1 (I.ok.bs b o e).2 (I.ok.noex b o e)⟩
theorem Inv.bk (I:Inv X pins σ H s):∀ b o,X.base.get? b = some o → s.heap.get? b = some o:=fun b o e=>(I.bs b o e).1
theorem Inv.mod (I:Inv X pins σ H s):Mod X.K X.mg X.base:=I.ok.mod
theorem Inv.dk (I:Inv X pins σ H s):X.K.In s.heap:=I.ok.mod.kin.keeps I.bk
theorem Inv.nolimit (I:Inv X pins σ H s):s.heap.NoLimit:=I.ok.mod.nolimit.keeps I.bk
theorem Inv.lt (I:Inv X pins σ H s):X.env.locals < s.heap.objs.size:=let ⟨_,hn,_⟩:=I.loc; hn.lt
theorem Inv.sz (I:Inv X pins σ H s):X.s₀.heap.objs.size ≤ s.heap.objs.size:=Nat.le_trans I.ok.above (Nat.le_of_lt I.lt)
theorem Inv.xf (I:Inv X pins σ H s) {a:Addr} (h:s.heap.objs.size ≤ a):a ∉ X.fs:=fun hb=>by
 obtain ⟨_,o,ho,_⟩:=I.ok.gN.mem hb
 exact absurd (Nat.lt_of_lt_of_le (Heap.lt_size ho) (Nat.le_trans I.sz h)) (Nat.lt_irrefl _)
theorem Inv.uW (I:Inv X pins σ H s):∀ x c,X.env.cells.lookup x = some c → c ≠ X.env.locals:=fun x c e z=>by
 obtain ⟨v,o,ho,hd⟩:=I.cell x c e
 obtain ⟨m,⟨o',es,ep,ho',hd',_⟩,_⟩:=I.loc
 rw [z,ho'] at ho; cases ho; rw [hd'] at hd; cases hd
theorem Inv.gN (I:Inv X pins σ H s):s.heap.FunFrames X.base X.outer:=by
 have all:∀ (l:List Env),(∀ b ∈ fM l,b ∈ X.fs) → X.s₀.heap.FunFrames X.base l → s.heap.FunFrames X.base l:=by
  intro l
  induction l with
  | nil=>intro _ _; trivial
  | cons env r ih =>
   intro hs hl
   obtain ⟨hk,⟨L,o,hf,hn,ho,hd⟩,hr⟩:=hl
   have hL:L ∈ X.fs:=hs L (by unfold fM; rw [List.filterMap_cons,hf]; exact List.mem_cons_self)
   obtain ⟨sl,e⟩:=I.base.slot L o ho (I.ok.frf L hL) hL fun z=>I.ok.exfs L z hL
   exact ⟨hk,⟨L,_,hf,hn,e,hd⟩,ih (fun b hb=>hs b (by unfold fM; rw [List.filterMap_cons,hf]; exact List.mem_cons_of_mem _ hb)) hr⟩
 exact all X.outer (fun _ hb=>hb) I.ok.gN
theorem Inv.stack (I:Inv X pins σ H s):s.heap.FunFrames X.base X.stack:=by
 rcases I.ok.stk with e | ⟨e,hf⟩
 ·rw [e]; exact I.gN
 ·rw [e]
  obtain ⟨m,hn,_⟩:=I.loc
  refine .cons (by rw [I.ok.kind]; decide) hf hn ?_ I.gN
  exact Heap.get?_none_of_le (Nat.le_trans I.ok.bsz I.ok.above)
theorem Inv.oR (I:Inv X pins σ H s):∀ b ∈ fM X.stack,b ∈ X.env.locals :: X.fs:=fun b hb=>by
 rcases I.ok.stk with e | ⟨e,hf⟩
 ·rw [e] at hb; exact List.mem_cons_of_mem _ hb
 ·rw [e] at hb
  unfold fM at hb
  rw [List.filterMap_cons,hf] at hb
  exact hb
theorem Inv.fH (I:Inv X pins σ H s):∀ b ∈ fM X.stack,H b = none:=fun b hb=>by
 rcases List.mem_cons.mp (I.oR b hb) with e | hb
 ·rw [e]; exact I.free
 ·obtain ⟨_,o,ho,_⟩:=I.ok.gN.mem hb
  exact I.base.free b o ho (I.ok.frf b hb) fun z=>I.ok.exfs b z hb
theorem Inv.step {g':Array GenState} {t':Nat} {d':Drawn} {ch:List Addr} (I:Inv X pins σ H s)
  (hch:∀ b ∈ ch,(b ∈ X.ex ∨ X.s₀.heap.objs.size ≤ b) ∧ b ≠ X.env.locals ∧ (∀ x c,X.env.cells.lookup x = some c → c ≠ b) ∧ ∀ p ∈ X.pn ++ pins,p.1 ≠ b)
  (keep:∀ b o,b ≠ X.env.locals → b ∉ X.fs → b ∉ ch → s.heap.get? b = some o → H b = none → h'.get? b = some o)
  (slot:∀ b o,b ≠ X.env.locals → b ∈ X.fs → b ∉ ch → s.heap.get? b = some o → H b = none → ∃ sl,h'.get? b = some { o with slots:=sl }) (free:∀ b o,b ∉ ch → s.heap.get? b = some o → H b = none → H' b = none)
  (there:∀ b o,b ∉ ch → s.heap.get? b = some o → ∃ o',h'.get? b = some o')
  (tups:∀ b xs,H b = some (.tup xs) → H' b = some (.tup xs)) (frzs:∀ b o u,H b = some (.frz o u) → H' b = some (.frz o u)) (tbls:∀ b ps,H b = some (.tbl ps) → ∃ more,H' b = some (.tbl (ps ++ more)))
  (ns:∀ m,s.heap.Ns X.env.locals m → h'.Ns X.env.locals m) (hok:fF X.prog X.w H' h') (hg:AllBare g') :
  Inv X pins σ H' { s with heap:=h',gens:=g',drawn:=d',toks:=t' }:=by
 have neL:∀ b o,X.s₀.heap.get? b = some o → b ≠ X.env.locals:=fun b o e=>Nat.ne_of_lt (Nat.lt_of_lt_of_le (Heap.lt_size e) I.ok.above)
 have neC:∀ b o,X.s₀.heap.get? b = some o → b ∉ X.ex → b ∉ ch:=fun b o e hx hb=>by
  rcases (hch b hb).1 with z | z
  ·exact hx z
  ·exact absurd (Nat.lt_of_lt_of_le (Heap.lt_size e) z) (Nat.lt_irrefl _)
 have cellK:∀ x c,X.env.cells.lookup x = some c → ∀ v,s.heap.IsCell c v → h'.IsCell c v:=fun x c e v ⟨o,ho,hd⟩=>by
  have nch:c ∉ ch:=fun z=>(hch c z).2.2.1 x c e rfl
  by_cases hc:c ∈ X.fs
  ·obtain ⟨sl,q⟩:=slot c o (I.uW x c e) hc nch ho (I.freeC x c e)
   exact ⟨_,q,hd⟩
  ·exact ⟨o,keep c o (I.uW x c e) hc nch ho (I.freeC x c e),hd⟩
 refine ⟨I.ok,I.os,hg,⟨fun b o e n hb hx=>?_,fun b o e n hb hx=>?_,fun b o e n hx=>?_,fun b o e hx=>?_,fun b xs e=>tups b xs (I.base.tups b xs e),fun b o xs e=>frzs b o xs (I.base.frzs b o xs e),fun b ps e=>?_⟩,?_,fun x c e=>?_,?_,fun x c e=>?_,fun p hp=>?_,hok,I.len⟩
 ·exact keep b o (neL b o e) hb (neC b o e hx) (I.base.keep b o e n hb hx) (I.base.free b o e n hx)
 ·obtain ⟨sl,e1⟩:=I.base.slot b o e n hb hx
  obtain ⟨sl',e2⟩:=slot b _ (neL b o e) hb (neC b o e hx) e1 (I.base.free b o e n hx)
  exact ⟨sl',e2⟩
 ·obtain ⟨o',e1⟩:=I.base.there b o e hx
  exact free b o' (neC b o e hx) e1 (I.base.free b o e n hx)
 ·obtain ⟨o',e1⟩:=I.base.there b o e hx
  exact there b o' (neC b o e hx) e1
 ·obtain ⟨m1,e1⟩:=I.base.tbls b ps e
  obtain ⟨m2,e2⟩:=tbls b _ e1
  exact ⟨m1 ++ m2,by rw [e2,Array.append_assoc]⟩
 ·obtain ⟨m,hn,hl⟩:=I.loc
  refine ⟨m,ns m hn,fun i x v e1 e2 e3=>?_⟩
  obtain ⟨u,r,l⟩:=hl i x v e1 e2 e3
  refine ⟨u,r,?_⟩
  rcases l with l | ⟨k,c,e,z⟩
  ·exact .inl l
  ·exact .inr ⟨k,c,e,cellK x c e _ z⟩
 ·obtain ⟨v,z⟩:=I.cell x c e
  exact ⟨v,cellK x c e v z⟩
 ·obtain ⟨m,⟨o,_,_,ho,_⟩,_⟩:=I.loc
  exact free _ o (fun z=>(hch _ z).2.1 rfl) ho I.free
 ·obtain ⟨v,o,ho,hd⟩:=I.cell x c e
  exact free c o (fun z=>(hch c z).2.2.1 x c e rfl) ho (I.freeC x c e)
 ·obtain ⟨e,n,ne,nf,d⟩:=I.pin p hp
  have nch:p.1 ∉ ch:=fun z=>(hch p.1 z).2.2.2 p hp rfl
  exact ⟨keep p.1 p.2 ne nf nch e n,free p.1 p.2 nch e n,ne,nf,d⟩
theorem Inv.un {t':Nat} (I:Inv X pins σ H s) (u:Un X.fs [] H H' s.heap h') (hok:fF X.prog X.w H' h'):Inv X pins σ H' { s with heap:=h',toks:=t' }:=by
 obtain ⟨m,⟨o,es,ep,ho,r⟩,_⟩:=id I.loc
 obtain ⟨sl,hL⟩:=u.any ho I.free (by simp)
 exact I.step (g':=s.gens) (d':=s.drawn) (ch:=[]) (fun _ z=>nomatch z) (fun b o _ hb _ e n=>u.keep b o e n hb (by simp)) (fun b o _ hb _ e n=>u.slot b o e n hb (by simp)) (fun b o _ e n=>u.free b o e n (by simp)) (fun b o _ e=>u.there b o e (by simp)) u.tups u.frzs u.tbls (fun m' hm=>by
  obtain ⟨o',es',ep',ho',r'⟩:=hm
  rw [ho] at ho'; cases ho'
  exact ⟨_,es',ep',hL,r'⟩) hok I.bare
theorem Inv.call {g':Array GenState} {t':Nat} {d':Drawn} {ch:List Addr} (I:Inv X pins σ H s) (u:Un (fM X.stack) ch H H' s.heap h') (hok:fF X.prog X.w H' h') (hg:AllBare g')
  (hch:∀ b ∈ ch,(b ∈ X.ex ∨ X.s₀.heap.objs.size ≤ b) ∧ b ≠ X.env.locals ∧ (∀ x c,X.env.cells.lookup x = some c → c ≠ b) ∧ ∀ p ∈ X.pn ++ pins,p.1 ≠ b) :
  Inv X pins σ H' { s with heap:=h',gens:=g',drawn:=d',toks:=t' }:=by
 obtain ⟨m,⟨o,es,ep,ho,r⟩,_⟩:=id I.loc
 obtain ⟨sl,hL⟩:=u.any ho I.free fun z=>(hch _ z).2.1 rfl
 exact I.step (ch:=ch) hch (fun b o hL hb hc e n=>u.keep b o e n (fun z=>(List.mem_cons.mp (I.oR b z)).elim hL hb) hc) (fun b o _ _ hc e n=>u.any e n hc) (fun b o hc e n=>u.free b o e n hc) (fun b o hc e=>u.there b o e hc) u.tups u.frzs u.tbls (fun m' hm=>by
  obtain ⟨o',es',ep',ho',r'⟩:=hm
  rw [ho] at ho'; cases ho'
  exact ⟨_,es',ep',hL,r'⟩) hok hg
theorem Inv.turned {t':Nat} {it:Addr} (I:Inv X pins σ H s) (k:∀ b o,b ≠ it → s.heap.get? b = some o → h'.get? b = some o) (hn:H it = none) (hL:it ≠ X.env.locals)
  (h1:it ∈ X.ex ∨ X.s₀.heap.objs.size ≤ it) (h2:∀ x c,X.env.cells.lookup x = some c → c ≠ it) (h3:∀ p ∈ X.pn ++ pins,p.1 ≠ it):Inv X pins σ H { s with heap:=h',toks:=t' }:=by
 have nit:∀ b u,H b = some u → b ≠ it:=fun b u e z=>by rw [z,hn] at e; cases e
 refine I.step (g':=s.gens) (d':=s.drawn) (ch:=[it]) (fun b hb=>?_) (fun b o _ _ hc e _=>k b o (fun z=>hc (by simp [z])) e) (fun b o _ _ hc e _=>⟨o.slots,k b o (fun z=>hc (by simp [z])) e⟩) (fun _ _ _ _ n=>n)
  (fun b o hc e=>⟨o,k b o (fun z=>hc (by simp [z])) e⟩) (fun _ _ e=>e) (fun _ _ _ e=>e) (fun b ps e=>⟨#[],by rw [e]; simp⟩) (fun m hm=>?_) (fun b u e=>?_) I.bare
 ·have e:b = it:=by simpa using hb
  subst e
  exact ⟨h1,hL,h2,h3⟩
 ·obtain ⟨o,es,ep,ho,r⟩:=hm
  exact ⟨o,es,ep,k _ o (Ne.symm hL) ho,r⟩
 ·refine (I.hok b u e).mG (fun c v hc q=>k c v ?_ q) (fun _ q=>q) fun _ _ q=>q
  rcases hc with z | z
  ·rw [z]; exact nit b u e
  ·exact nit c _ z
theorem Inv.tok (I:Inv X pins σ H s) (t:Nat):Inv X pins σ H { s with toks:=t }:=I.un (h':=s.heap) (t':=t) Un.refl I.hok
theorem Inv.kept {t':Nat} (I:Inv X pins σ H s) (k:∀ b u,s.heap.get? b = some u → h'.get? b = some u):Inv X pins σ H { s with heap:=h',toks:=t' }:=I.un (Un.kept k) (I.hok.kept k)
theorem Inv.laid {a:Addr} {o:HO} {t':Nat} (I:Inv X pins σ H s) (k:∀ b u,s.heap.get? b = some u → h'.get? b = some u) (hp:s.heap.objs.size ≤ a) (new:bX X.prog X.w (upd H a o) h' a o) :
  Inv X pins σ (upd H a o) { s with heap:=h',toks:=t' }:=I.un (Un.laid k hp (I.hok.fresh hp)) (I.hok.laid k hp new)
theorem Inv.write {x e:Addr} {o:HO} {t':Nat} (I:Inv X pins σ H s) (mu:xx (H x)) (he:e = x ∨ H e = some (.own x)) (k:∀ b u,b ≠ e → s.heap.get? b = some u → h'.get? b = some u) (heo:∃ u,h'.get? e = some u)
  (new:bX X.prog X.w (upd H x o) h' x o):Inv X pins σ (upd H x o) { s with heap:=h',toks:=t' }:=I.un (Un.write mu he k heo) (I.hok.write mu he k heo new)
theorem Inv.pd {pins':List (Addr × Obj)} (I:Inv X pins σ H s) (h:∀ p ∈ pins',s.heap.get? p.1 = some p.2 ∧ H p.1 = none ∧ p.1 ≠ X.env.locals ∧ p.1 ∉ X.fs ∧ ∀ v,p.2.data ≠ .cell v):Inv X pins' σ H s :=
 ⟨I.ok,I.os,I.bare,I.base,I.loc,I.cell,I.free,I.freeC,fun p hp=>(List.mem_append.mp hp).elim (fun z=>I.pin p (List.mem_append_left _ z)) (h p),I.hok,I.len⟩
theorem kE {N:List Str} (hN:N.Nodup) {i j:Nat} {x:Str} (a:N[i]? = some x) (b:N[j]? = some x):i = j:=by
 obtain ⟨h1,e1⟩:=List.getElem?_eq_some_iff.mp a
 obtain ⟨h2,e2⟩:=List.getElem?_eq_some_iff.mp b
 exact (List.getElem_inj hN).mp (e1.trans e2.symm)
theorem lU {M:Model} {A:Around} {E:Value → Shared → Prop} {i:Nat} {x:Str} {v:V} {u:Value} {Q:Unit → Shared → Prop} (I:Inv X pins σ H s) (hN:X.N.Nodup) (hi:X.N[i]? = some x) (hx:Loc X.env.scope x) (r:RelV v u)
  (h:∀ s',Inv X pins (σ.set i (some v)) H s' → (∃ a,Heap.SameBut a s.heap s'.heap ∧ (a = X.env.locals ∨ X.env.cells.lookup x = some a)) → Q () s') (hf:X.fn x = true ∨ X.env.scope.names.lookup x = some .local:=by first | exact .inl rfl | exact .inr rfl | assumption):wpAny M A (storeName X.env x u) Q E s:=by
 obtain ⟨m,hn,hl⟩:=id I.loc
 have hcls:(X.env.scope.kind == .class || (X.env.scope.kind == .module && X.env.locals != X.env.globals)) = false:=by rw [I.ok.kind]; rfl
 have hiσ:i < σ.length:=by rw [I.len]; exact (List.getElem?_eq_some_iff.mp hi).1
 have uW:=I.uW
 have tracked:∀ {a:Addr} {h':Heap},(∃ o,s.heap.get? a = some o ∧ H a = none) → Heap.SameBut a s.heap h' → fF X.prog X.w H h':=fun {a h'} ha hs b ob e=>by
  obtain ⟨_,_,hfree⟩:=ha
  refine (I.hok b ob e).mG (fun c w' hc q=>(hs.2 c ?_).trans q) (fun _ q=>q) fun _ _ q=>q
  rintro rfl
  rcases hc with rfl | hc
  ·rw [hfree] at e; cases e
  ·rw [hfree] at hc; cases hc
 rcases hx with hk | hk
 ·refine wpAny_storeName_local hk hn (fun h' hn' hs=>?_) hcls
  obtain ⟨oL,_,_,hoL,_⟩:=id hn
  refine h _ ⟨I.ok,I.os,I.bare,⟨fun b o e n hb hx=>?_,fun b o e n hb hx=>?_,I.base.free,fun b o e hx=>?_,I.base.tups,I.base.frzs,I.base.tbls⟩,⟨_,hn',fun j y v' e1 e2 e3=>?_⟩,fun y c e=>?_,I.free,I.freeC,fun p hp=>?_,tracked ⟨oL,hoL,I.free⟩ hs,by simpa using I.len⟩ ⟨_,hs,.inl rfl⟩
  ·exact (hs.2 b (Nat.ne_of_lt (Nat.lt_of_lt_of_le (Heap.lt_size e) I.ok.above))).trans (I.base.keep b o e n hb hx)
  ·obtain ⟨sl,e1⟩:=I.base.slot b o e n hb hx
   exact ⟨sl,(hs.2 b (Nat.ne_of_lt (Nat.lt_of_lt_of_le (Heap.lt_size e) I.ok.above))).trans e1⟩
  ·obtain ⟨o',e1⟩:=I.base.there b o e hx
   exact ⟨o',(hs.2 b (Nat.ne_of_lt (Nat.lt_of_lt_of_le (Heap.lt_size e) I.ok.above))).trans e1⟩
  ·by_cases hj:j = i
   ·subst hj
    rw [hi] at e1; cases e1
    rw [List.getElem?_set_self hiσ] at e2
    cases e2
    exact ⟨u,r,.inl ⟨hk,by simp⟩⟩
   ·rw [List.getElem?_set_ne (Ne.symm hj)] at e2
    obtain ⟨u',r',q⟩:=hl j y v' e1 e2 e3
    refine ⟨u',r',?_⟩
    rcases q with ⟨k,e⟩ | ⟨k,c,e,z⟩
    ·refine .inl ⟨k,?_⟩
     have:y ≠ x:=fun e=>hj (kE hN e1 (e ▸ hi))
     simp [this,e]
    ·exact .inr ⟨k,c,e,z.sameBut hs (uW y c e)⟩
  ·obtain ⟨w',z⟩:=I.cell y c e
   exact ⟨w',z.sameBut hs (uW y c e)⟩
  ·obtain ⟨e,n,ne,nf,d⟩:=I.pin p hp
   exact ⟨(hs.2 p.1 ne).trans e,n,ne,nf,d⟩
 ·have hfn:X.fn x = true:=by
   rcases hf with z | z
   ·exact z
   ·rw [z] at hk; cases hk
  obtain ⟨c,hc⟩:=I.ok.has x (.inl hk)
  obtain ⟨w',z⟩:=I.cell x c hc
  refine wpAny_storeName_cell I.ok.kind hk hc z (fun h' hc' hs=>?_)
  obtain ⟨oc,hoc,hocd⟩:=id z
  refine h { s with heap:=h' } ⟨I.ok,I.os,I.bare,⟨fun b o e n hb hx=>?_,fun b o e n hb hx=>?_,I.base.free,fun b o e hx=>?_,I.base.tups,I.base.frzs,I.base.tbls⟩,⟨m,hn.sameBut hs (Ne.symm (uW x c hc)),fun j y v' e1 e2 e3=>?_⟩,fun y c' e=>?_,I.free,I.freeC,fun p hp=>?_,tracked ⟨oc,hoc,I.freeC x c hc⟩ hs,by simpa using I.len⟩ ⟨c,hs,.inr hc⟩
  ·exact (hs.2 b (Nat.ne_of_lt (Nat.lt_of_lt_of_le (Heap.lt_size e) (I.ok.cab x c hfn hc)))).trans (I.base.keep b o e n hb hx)
  ·obtain ⟨sl,e1⟩:=I.base.slot b o e n hb hx
   exact ⟨sl,(hs.2 b (Nat.ne_of_lt (Nat.lt_of_lt_of_le (Heap.lt_size e) (I.ok.cab x c hfn hc)))).trans e1⟩
  ·obtain ⟨o',e1⟩:=I.base.there b o e hx
   exact ⟨o',(hs.2 b (Nat.ne_of_lt (Nat.lt_of_lt_of_le (Heap.lt_size e) (I.ok.cab x c hfn hc)))).trans e1⟩
  ·by_cases hj:j = i
   ·subst hj
    rw [hi] at e1; cases e1
    rw [List.getElem?_set_self hiσ] at e2
    cases e2
    exact ⟨u,r,.inr ⟨.inl hk,c,hc,hc'⟩⟩
   ·rw [List.getElem?_set_ne (Ne.symm hj)] at e2
    obtain ⟨u',r',q⟩:=hl j y v' e1 e2 e3
    refine ⟨u',r',?_⟩
    rcases q with q | ⟨k,c',e,z'⟩
    ·exact .inl q
    ·refine .inr ⟨k,c',e,z'.sameBut hs ?_⟩
     rintro rfl
     exact hj (kE hN e1 (I.ok.inj _ _ _ e hc ▸ hi))
  ·by_cases hcc:c' = c
   ·subst hcc; exact ⟨_,hc'⟩
   ·obtain ⟨w2,z2⟩:=I.cell y c' e
    exact ⟨w2,z2.sameBut hs hcc⟩
  ·obtain ⟨e,n,ne,nf,d⟩:=I.pin p hp
   refine ⟨(hs.2 p.1 ?_).trans e,n,ne,nf,d⟩
   intro q
   rw [q,hoc] at e
   have q':oc = p.2:=Option.some.inj e
   exact d w' (by rw [← q']; exact hocd)
theorem kK {M:Model} {A:Around} {E:Value → Shared → Prop} {i:Nat} {x:Str} {v:V} {u:Value} {Q:Unit → Shared → Prop} (I:Inv X pins σ H s) (hN:X.N.Nodup) (hi:X.N[i]? = some x) (hx:Loc X.env.scope x) (r:RelV v u)
  (h:∀ s',Inv X pins (σ.set i (some v)) H s' → Q () s') (hf:X.fn x = true ∨ X.env.scope.names.lookup x = some .local:=by first | exact .inl rfl | exact .inr rfl | assumption):wpAny M A (storeName X.env x u) Q E s :=
 lU I hN hi hx r (fun s' I' _=>h s' I') hf
theorem Inv.vS {s':Shared} {ch:List Addr} (I:Inv X pins σ H s) (ho:s'.os = s.os) (u:Un (fM X.stack) ch H H' s.heap s'.heap) (hok:fF X.prog X.w H' s'.heap) (hg:AllBare s'.gens)
  (hch:∀ b ∈ ch,(b ∈ X.ex ∨ X.s₀.heap.objs.size ≤ b) ∧ b ≠ X.env.locals ∧ (∀ x c,X.env.cells.lookup x = some c → c ≠ b) ∧ ∀ p ∈ X.pn ++ pins,p.1 ≠ b):Inv X pins σ H' s':=by
 obtain ⟨h',g',d',t',o'⟩:=s'
 have e:o' = s.os:=ho
 subst e
 exact I.call (g':=g') (t':=t') (d':=d') u hok hg hch
end
abbrev XK:=Value → Option Addr → Hp → Prop
abbrev St:=List (Option V)
abbrev VK:=V → Hp → Prop
abbrev TE:=St → Hp → VK → Prop
abbrev TT:=St → Hp → (Bool → Hp → Prop) → Prop
abbrev TA:=St → Hp → (List V → Hp → Prop) → Prop
/- what is wanted behind a statement -/
set_option genInjectivity false in
set_option genSizeOfSpec false in
set_option genSizeOf false in
structure Ends where
 nx:St → Hp → Prop
 rt:VK
 bk:St → Hp → Prop:=fun _ _=>False
 ct:St → Hp → Prop:=fun _ _=>False
abbrev TS:=Ends → St → Hp → Prop
def EP (X:Cx) (pins:List (Addr × Obj)) (σ:St) (Q:VK) (u:Value) (s':Shared):Prop:=∃ v H',Inv X pins σ H' s' ∧ RelV v u ∧ Q v H'
def TP (X:Cx) (pins:List (Addr × Obj)) (σ:St) (Q:Bool → Hp → Prop) (b:Bool) (s':Shared):Prop:=∃ H',Inv X pins σ H' s' ∧ Q b H'
def AP (X:Cx) (pins:List (Addr × Obj)) (σ:St) (Q:List V → Hp → Prop) (us:List Value) (s':Shared):Prop:=∃ vs H',Inv X pins σ H' s' ∧ Vals vs us ∧ Q vs H'
def SP (X:Cx) (pins:List (Addr × Obj)) (D:Ends) (f:Flow) (s':Shared):Prop :=
 match f with
 | .next=>∃ σ' H',Inv X pins σ' H' s' ∧ D.nx σ' H'
 | .brk=>∃ σ' H',Inv X pins σ' H' s' ∧ D.bk σ' H'
 | .cont=>∃ σ' H',Inv X pins σ' H' s' ∧ D.ct σ' H'
 | .ret u=>∃ v σ' H',Inv X pins σ' H' s' ∧ RelV v u ∧ D.rt v H'
@[irreducible] def PE (X:Cx) (e:Expr) (t:TE):Prop :=
 ∀ (pins:List (Addr × Obj)) (s:Shared) (σ:St) (H:Hp) (Q:VK),Inv X pins σ H s → t σ H Q → wpAny (model X.prog X.w) X.A (eval e X.env) (EP X pins σ Q) X.xe s
@[irreducible] def PT (X:Cx) (e:Expr) (t:TT):Prop :=
 ∀ (pins:List (Addr × Obj)) (s:Shared) (σ:St) (H:Hp) (Q:Bool → Hp → Prop),Inv X pins σ H s → t σ H Q → wpAny (model X.prog X.w) X.A (isTrue e X.env (eval e X.env)) (TP X pins σ Q) X.xe s
@[irreducible] def PW (X:Cx) (e:Expr) (t:TT):Prop :=
 ∀ (whole:Sem Value) (pins:List (Addr × Obj)) (s:Shared) (σ:St) (H:Hp) (Q:Bool → Hp → Prop),Inv X pins σ H s → t σ H Q → wpAny (model X.prog X.w) X.A (isTrue e X.env whole) (TP X pins σ Q) X.xe s
theorem PW.pt {X:Cx} {e:Expr} {t:TT} (h:PW X e t):PT X e t:=by
 first
 | exact (h _)
 | (unfold PT at *; unfold PW at *; exact (h _))
@[irreducible] def PA (X:Cx) (es:List Expr) (t:TA):Prop :=
 ∀ (pos:Pos) (pins:List (Addr × Obj)) (s:Shared) (σ:St) (H:Hp) (Q:List V → Hp → Prop),Inv X pins σ H s → t σ H Q → wpAny (model X.prog X.w) X.A (spliced (backTo pos (starEach es X.env))) (AP X pins σ Q) X.xe s
@[irreducible] def PS (X:Cx) (st:Stmt) (t:TS):Prop :=
 ∀ (pins:List (Addr × Obj)) (s:Shared) (σ:St) (H:Hp) (D:Ends),Inv X pins σ H s → t D σ H → wpAny (model X.prog X.w) X.A (exec st X.env) (SP X pins D) X.xe s
@[irreducible] def iD (X:Cx) (st:List Stmt) (t:TS):Prop :=
 ∀ (pins:List (Addr × Obj)) (s:Shared) (σ:St) (H:Hp) (D:Ends),Inv X pins σ H s → t D σ H → wpAny (model X.prog X.w) X.A (execs st X.env) (SP X pins D) X.xe s
theorem bQ {α:Type} {t:Sem α} {Q Q':α → Shared → Prop} {M:Model} {A:Around} {E:Value → Shared → Prop} {s:Shared} (h:wpAny M A t Q E s) (hQ:∀ a s,Q a s → Q' a s):wpAny M A t Q' E s:=wpAny_mono h hQ fun _ _ x=>x
end L2
namespace L2
open PySem PySem.Spec PyProof.Rows
section
variable {X:Cx}
def xW (i:Nat):TE:=fun σ H Q=>∃ v,σ[i]? = some (some v) ∧ Q v H
def tC (v:V):TE:=fun _ H Q=>Q v H
theorem sX {i:Nat} {x:Str} {pos:Pos} (hN:X.N[i]? = some x) (hv:yc X.env.scope x) (hd:(x == ("__debug__" : Str)) = false:=by decide) (hcd:(x == ("__classdict__" : Str)) = false:=by decide):PE X (.Name x pos) (xW i):=by
 unfold PE at *
 exact by
  intro pins s σ H Q I h
  obtain ⟨v,e,h⟩:=h
  obtain ⟨m,hn,hl⟩:=I.loc
  obtain ⟨u,r,l⟩:=hl i x v hN e hv
  have fin:EP X pins σ Q u s:=⟨v,H,I,r,h⟩
  rcases l with ⟨hk,hm⟩ | ⟨hk,c,hc,hcell⟩
  ·exact wpAny_Name (wpAny_loadName_local I.ok.kind hk hn hm fin) hd
  ·rcases hk with hk | hk
   ·exact wpAny_Name (wpAny_loadName_cell I.ok.kind hk hc hcell fin) hd
   ·exact wpAny_Name (wpAny_loadName_free I.ok.kind hk hc hcell fin hcd) hd
theorem aB {i j pos}:PE X (.Constant (.int i) j pos) (tC (.int i)):=by
 first
 | exact (fun _ _ _ H _ I h=>wpAny_Constant_int ⟨.int i,H,I.tok _,⟨_,rfl⟩,h⟩)
 | (unfold PE at *; exact (fun _ _ _ H _ I h=>wpAny_Constant_int ⟨.int i,H,I.tok _,⟨_,rfl⟩,h⟩))
theorem dE {b j pos}:PE X (.Constant (.bool b) j pos) (tC (.bl b)):=by
 first
 | exact (fun _ _ _ H _ I h=>Constant_bool ⟨.bl b,H,I,rfl,h⟩)
 | (unfold PE at *; exact (fun _ _ _ H _ I h=>Constant_bool ⟨.bl b,H,I,rfl,h⟩))
theorem dg {j pos}:PE X (.Constant .none j pos) (tC .ax):=by
 first
 | exact (fun _ _ _ H _ I h=>Constant_none ⟨.ax,H,I,rfl,h⟩)
 | (unfold PE at *; exact (fun _ _ _ H _ I h=>Constant_none ⟨.ax,H,I,rfl,h⟩))
theorem aZ {x j pos}:PE X (.Constant (.str x) j pos) (tC (.str x)):=by
 first
 | exact (fun _ _ _ H _ I h=>Calls.Constant_str ⟨.str x,H,I.tok _,⟨_,rfl⟩,h⟩)
 | (unfold PE at *; exact (fun _ _ _ H _ I h=>Calls.Constant_str ⟨.str x,H,I.tok _,⟨_,rfl⟩,h⟩))
def Gl (X:Cx) (x:Str):Prop:=X.env.kindOf x = some .globalImplicit
theorem dS {E:Value → Shared → Prop} {pins:List (Addr × Obj)} {s:Shared} {σ:St} {H:Hp} {x:Str} {u:Value} {pos:Pos} {Q:Value → Shared → Prop} (I:Inv X pins σ H s) (hg:Gl X x) (hm:X.mg x = some u) (h:Q u s)
  (hd:(x == ("__debug__" : Str)) = false:=by decide):wpAny (model X.prog X.w) X.A (eval (.Name x pos) X.env) Q E s :=
 Calls.Name_function_global I.ok.kind hg (Calls.loadGlobal_global (by rw [I.ok.glob]; exact I.mod.glob.keeps I.bk) hm h) hd
theorem iK {E:Value → Shared → Prop} {pins:List (Addr × Obj)} {s:Shared} {σ:St} {H:Hp} {x:Str} {u:Value} {pos:Pos} {Q:Value → Shared → Prop} (I:Inv X pins σ H s) (hg:Gl X x) (hm:X.mg x = none) (hv:bootBuiltins x = some u) (h:Q u s)
  (hn:x ≠ "__name__" := by decide) (hd:(x == ("__debug__" : Str)) = false:=by decide):wpAny (model X.prog X.w) X.A (eval (.Name x pos) X.env) Q E s:=by
 obtain ⟨mb,h1,h2⟩:=I.mod.blt
 exact Calls.Name_function_global I.ok.kind hg (Calls.loadGlobal_builtin (by rw [I.ok.glob]; exact I.mod.glob.keeps I.bk) hm (by rw [I.ok.blt]; exact h1.keeps I.bk) ((h2 x hn).trans hv) h) hd
theorem cW {x:Str} {v:V} {u:Value} {pos:Pos} (hg:Gl X x) (hm:X.mg x = some u) (r:RelV v u) (hd:(x == ("__debug__" : Str)) = false:=by decide):PE X (.Name x pos) (tC v):=by
 first
 | exact (fun _ _ _ H _ I h=>dS I hg hm ⟨v,H,I,r,h⟩ hd)
 | (unfold PE at *; exact (fun _ _ _ H _ I h=>dS I hg hm ⟨v,H,I,r,h⟩ hd))
theorem eT {x:Str} {v:V} {u:Value} {pos:Pos} (hg:Gl X x) (hm:X.mg x = none) (hv:bootBuiltins x = some u) (r:RelV v u) (hn:x ≠ "__name__" := by decide) (hd:(x == ("__debug__" : Str)) = false:=by decide):PE X (.Name x pos) (tC v):=by
 first
 | exact (fun _ _ _ H _ I h=>iK I hg hm hv ⟨v,H,I,r,h⟩ hn hd)
 | (unfold PE at *; exact (fun _ _ _ H _ I h=>iK I hg hm hv ⟨v,H,I,r,h⟩ hn hd))
variable {a b:Expr} {ta tb:TE} {pos:Pos}
@[irreducible] def PC (X:Cx) (op:CmpOp) (a b:Expr) (t:TE):Prop :=
 ∀ (pins:List (Addr × Obj)) (s:Shared) (σ:St) (H:Hp) (Q:VK),Inv X pins σ H s → t σ H Q →
  wpAny (model X.prog X.w) X.A (eval a X.env) (fun v s₁=>wpAny (model X.prog X.w) X.A (eval b X.env) (fun u s₂=>wpAny (model X.prog X.w) X.A (compareOp op v u) (EP X pins σ Q) X.xe s₂) X.xe s₁) X.xe s
theorem nZ (b:Expr) {op:CmpOp} (h:op ≠ .In) (h2:op ≠ .NotIn):behindInMarks op b = false:=by
 have e1:(op == CmpOp.In) = false:=by cases op <;> first | rfl | exact absurd rfl h
 have e2:(op == CmpOp.NotIn) = false:=by cases op <;> first | rfl | exact absurd rfl h2
 cases b <;> simp [behindInMarks,e1,e2]
def yn (ta:TE):TE:=fun σ H Q=>ta σ H fun x H1=>Q (.bl (decide (x = .ax))) H1
def xl (ta:TE):TE:=fun σ H Q=>ta σ H fun x H1=>Q (.bl (!decide (x = .ax))) H1
theorem RelV.m7 {x:V} {v:Value} (r:RelV x v):(v == Value.none) = decide (x = .ax):=by
 cases x with
 | ax=>cases r; rfl
 | bl _=>cases r; rfl
 | int _=>obtain ⟨t,rfl⟩:=r; rfl
 | str _=>obtain ⟨t,rfl⟩:=r; rfl
 | byt _=>obtain ⟨t,rfl⟩:=r; rfl
 | flt _=>obtain ⟨t,rfl⟩:=r; rfl
 | ref _=>cases r; rfl
 | ty _=>cases r; rfl
theorem dA {j pos'} (ha:PE X a ta):PC X .Is a (.Constant .none j pos') (yn ta):=by
 unfold PE at *; unfold PC at *
 exact by
  intro pins s σ H Q I h
  refine bQ (ha pins s σ H _ I h) fun v s1 ⟨x,H1,I1,r1,q1⟩=>?_
  exact Constant_none (is_none_gen ⟨.bl _,H1,I1,by rw [r1.m7]; rfl,q1⟩)
theorem gC {j pos'} (ha:PE X a ta):PC X .IsNot a (.Constant .none j pos') (xl ta):=by
 unfold PE at *; unfold PC at *
 exact by
  intro pins s σ H Q I h
  refine bQ (ha pins s σ H _ I h) fun v s1 ⟨x,H1,I1,r1,q1⟩=>?_
  exact Constant_none (isnot_none_gen ⟨.bl _,H1,I1,by rw [r1.m7]; rfl,q1⟩)
def tB (t:TE):TT:=fun σ H Q=>t σ H fun x H1=>∃ c,x = .bl c ∧ Q c H1
theorem kS {op:CmpOp} {t:TE} (h:PC X op a b t) (h1:behindInMarks op b = false:=by first | exact nZ _ (by decide) (by decide) | rfl):PE X (.Compare a [op] [b] pos) t:=by
 first
 | exact (fun pins s σ H Q I hw=>wpAny_Compare1 (h pins s σ H Q I hw) h1)
 | (unfold PE at *; unfold PC at *; exact (fun pins s σ H Q I hw=>wpAny_Compare1 (h pins s σ H Q I hw) h1))
theorem cC {op:CmpOp} {t:TE} (h:PC X op a b t) (h1:behindInMarks op b = false:=by first | exact nZ _ (by decide) (by decide) | rfl):PT X (.Compare a [op] [b] pos) (tB t):=by
 unfold PT at *; unfold PC at *
 exact by
  intro pins s σ H Q I hw
  refine wpAny_isTrue_Compare1 (bQ (h pins s σ H _ I hw) fun v s1 h1=>bQ h1 fun u s2 h2=>bQ h2 fun c s3 ⟨x,H1,I1,r1,q1⟩=>?_) h1
  obtain ⟨d,rfl,q⟩:=q1
  cases r1
  exact wpAny_truthy_bool ⟨H1,I1,q⟩
theorem bT {e:Expr} {t:TE} (h:PE X e t) (he:∀ whole,isTrue e X.env whole = (do let v ← whole; standAt e.pos; holding [v] (truthy v)):=by intro _; rfl):PT X e (tB t):=by
 unfold PE at *; unfold PT at *
 exact by
  intro pins s σ H Q I hw
  refine isTrue_plain (bQ (h pins s σ H _ I hw) fun v s1 ⟨x,H1,I1,r1,q1⟩=>?_) (he _)
  obtain ⟨d,rfl,q⟩:=q1
  cases r1
  exact wpAny_truthy_bool ⟨H1,I1,q⟩
variable {tA tB':TT} {rest:List Expr}
def yl (t u:TT):TT:=fun σ H Q=>t σ H fun c H1=>if c = true then u σ H1 Q else Q false H1
def zi (t u:TT):TT:=fun σ H Q=>t σ H fun c H1=>if c = true then Q true H1 else u σ H1 Q
def zG (t:TT):TT:=fun σ H Q=>t σ H fun c H1=>Q (!c) H1
theorem dG (ha:PT X a tA):PW X (.BoolOp .And [a] pos) tA:=by
 unfold PT at *; unfold PW at *
 exact by
  intro wh pins s σ H Q I h
  refine isTrue_and (bQ (ha pins s σ H Q I h) fun c s1 e=>?_)
  cases c with
  | true=>exact isTrue_and_nil e
  | false=>exact e
theorem d7 (ha:PT X a tA):PW X (.BoolOp .Or [a] pos) tA:=by
 unfold PT at *; unfold PW at *
 exact by
  intro wh pins s σ H Q I h
  refine isTrue_or (bQ (ha pins s σ H Q I h) fun c s1 e=>?_)
  cases c with
  | false=>exact isTrue_or_nil e
  | true=>exact e
theorem eF (ha:PT X a tA) (hb:PW X (.BoolOp .And (b :: rest) pos) tB'):PW X (.BoolOp .And (a :: b :: rest) pos) (yl tA tB'):=by
 unfold PT at *; unfold PW at *
 exact by
  intro wh pins s σ H Q I h
  refine isTrue_and (bQ (ha pins s σ H _ I h) fun c s1 ⟨H1,I1,q1⟩=>?_)
  cases c with
  | true=>exact hb wh pins s1 σ H1 Q I1 q1
  | false=>exact ⟨H1,I1,q1⟩
theorem eN (ha:PT X a tA) (hb:PW X (.BoolOp .Or (b :: rest) pos) tB'):PW X (.BoolOp .Or (a :: b :: rest) pos) (zi tA tB'):=by
 unfold PT at *; unfold PW at *
 exact by
  intro wh pins s σ H Q I h
  refine isTrue_or (bQ (ha pins s σ H _ I h) fun c s1 ⟨H1,I1,q1⟩=>?_)
  cases c with
  | true=>exact ⟨H1,I1,q1⟩
  | false=>exact hb wh pins s1 σ H1 Q I1 q1
theorem bo (ha:PT X a tA):PT X (.UnaryOp .Not a pos) (zG tA):=by
 unfold PT at *
 exact by
  intro pins s σ H Q I h
  exact isTrue_not (ha pins s σ H (fun c H1=>Q (!c) H1) I h)
def yB (ta tb:TE):TE:=fun σ H Q=>ta σ H fun x H1=>∃ c,x = .bl c ∧ if c = true then tb σ H1 Q else Q (.bl false) H1
def zI (ta tb:TE):TE:=fun σ H Q=>ta σ H fun x H1=>∃ c,x = .bl c ∧ if c = true then Q (.bl true) H1 else tb σ H1 Q
def xy (ta:TE):TE:=fun σ H Q=>ta σ H fun x H1=>∃ c,x = .bl c ∧ Q (.bl (!c)) H1
theorem et {op} {t:TE} (h:PE X a t):PE X (.BoolOp op [a] pos) t:=by
 first
 | exact (fun pins s σ H Q I hw=>BoolOp_one (h pins s σ H Q I hw))
 | (unfold PE at *; exact (fun pins s σ H Q I hw=>BoolOp_one (h pins s σ H Q I hw)))
theorem eE (ha:PE X a ta) (hb:PE X (.BoolOp .And (b :: rest) pos) tb):PE X (.BoolOp .And (a :: b :: rest) pos) (yB ta tb):=by
 unfold PE at *
 exact by
  intro pins s σ H Q I h
  refine BoolOp_and (bQ (ha pins s σ H _ I h) fun v s1 ⟨x,H1,I1,r1,q1⟩=>?_)
  obtain ⟨c,rfl,q1⟩:=q1
  cases r1
  refine wpAny_truthy_bool ?_
  cases c with
  | true=>exact hb pins s1 σ H1 Q I1 q1
  | false=>exact ⟨.bl false,H1,I1,rfl,q1⟩
theorem xt (ha:PE X a ta) (hb:PE X (.BoolOp .Or (b :: rest) pos) tb):PE X (.BoolOp .Or (a :: b :: rest) pos) (zI ta tb):=by
 unfold PE at *
 exact by
  intro pins s σ H Q I h
  refine BoolOp_or (bQ (ha pins s σ H _ I h) fun v s1 ⟨x,H1,I1,r1,q1⟩=>?_)
  obtain ⟨c,rfl,q1⟩:=q1
  cases r1
  refine wpAny_truthy_bool ?_
  cases c with
  | false=>exact hb pins s1 σ H1 Q I1 q1
  | true=>exact ⟨.bl true,H1,I1,rfl,q1⟩
theorem tN (ha:PE X a ta):PE X (.UnaryOp .Not a pos) (xy ta):=by
 unfold PE at *
 exact by
  intro pins s σ H Q I h
  refine UnaryOp_ (bQ (ha pins s σ H _ I h) fun v s1 ⟨x,H1,I1,r1,q1⟩=>?_)
  obtain ⟨c,rfl,q1⟩:=q1
  cases r1
  exact not_of (wpAny_truthy_bool ⟨.bl (!c),H1,I1,rfl,q1⟩)
end
end L2
namespace L2
open PySem PySem.Spec PyProof.Rows
def aj (K:PySem.W.Frag) (H:Hp) (a:Addr) (xs:List V):Prop :=
 Rd H a (.lst xs) ∨
  ∃ (o:Obj) (its:Array Value) (n:Nat),K.lookup a = some o ∧ o.cls = .type "list" ∧ o.dict = none ∧ o.data = .seq its n ∧ its.size ≤ sizeLine ∧ Vals xs its.toList
def eX (K:PySem.W.Frag) (H:Hp) (a:Addr) (xs:List V):Prop :=
 Rd H a (.tup xs) ∨
  ∃ (o:Obj) (its:Array Value) (n:Nat),K.lookup a = some o ∧ o.cls = .type "tuple" ∧ o.data = .seq its n ∧ its.size ≤ sizeLine ∧ Vals xs its.toList
def ym:Value → Option V
 | .none=>some .ax
 | .bool b=>some (.bl b)
 | .int i _=>some (.int i)
 | .str x _=>some (.str x)
 | .bytes b _=>some (.byt b)
 | .float b _=>some (.flt b)
 | .ref a=>some (.ref a)
 | .type n=>some (.ty n)
 | _=>none
theorem RelV.abs {x:V} {u:Value} (r:RelV x u):ym u = some x:=by
 cases x with
 | ax=>cases r; rfl
 | bl _=>cases r; rfl
 | int _=>obtain ⟨t,rfl⟩:=r; rfl
 | str _=>obtain ⟨t,rfl⟩:=r; rfl
 | byt _=>obtain ⟨t,rfl⟩:=r; rfl
 | flt _=>obtain ⟨t,rfl⟩:=r; rfl
 | ref _=>cases r; rfl
 | ty _=>cases r; rfl
theorem RelV.inj {x y:V} {u:Value} (r:RelV x u) (q:RelV y u):x = y:=Option.some.inj (r.abs.symm.trans q.abs)
theorem Vals.inj:∀ {xs ys:List V} {us:List Value},Vals xs us → Vals ys us → xs = ys
 | _,_,_,.nil,.nil=>rfl
 | _,_,_,.cons r t,.cons r' t'=>by rw [r.inj r',Vals.inj t t']
section
variable {X:Cx} {pins:List (Addr × Obj)} {σ:St} {H:Hp} {s:Shared} {a:Addr} {xs ys:List V}
theorem aj.of {K:PySem.W.Frag} (h:H a = some (.lst xs)):aj K H a xs:=.inl (.inl h)
theorem eX.of {K:PySem.W.Frag} (h:H a = some (.tup xs)):eX K H a xs:=.inl (.inl h)
theorem Inv.list (I:Inv X pins σ H s) (h:aj X.K H a xs):∃ its:List Value,Vals xs its ∧ PlainL s.heap a its.toArray ∧ xs.length ≤ sizeLine:=by
 rcases h with h | ⟨o,its,n,hk,hc,hd,hs,hz,r⟩
 ·obtain ⟨z,its,n,r,e⟩:=h.ok I.hok
  exact ⟨its,r,⟨_,n,e,rfl,rfl,rfl⟩,z⟩
 ·refine ⟨its.toList,r,⟨o,n,I.dk a o hk,hc,hd,by simpa using hs⟩,?_⟩
  have e:=r.length
  simp only [Array.length_toList] at e
  omega
theorem Inv.tuple (I:Inv X pins σ H s) (h:eX X.K H a xs):∃ its:List Value,Vals xs its ∧ IsTup s.heap a its.toArray ∧ xs.length ≤ sizeLine:=by
 rcases h with h | ⟨o,its,n,hk,hc,hs,hz,r⟩
 ·obtain ⟨z,its,r,p⟩:=h.ok I.hok
  exact ⟨its,r,p,z⟩
 ·refine ⟨its.toList,r,⟨o,I.dk a o hk,hc,n,by simpa using hs⟩,?_⟩
  have e:=r.length
  simp only [Array.length_toList] at e
  omega
theorem Inv.jm (I:Inv X pins σ H s) (h:aj X.K H a xs) (h':aj X.K H a ys):xs = ys:=by
 obtain ⟨its,r,⟨o,n,e,_,_,d⟩,_⟩:=I.list h
 obtain ⟨its',r',⟨o',n',e',_,_,d'⟩,_⟩:=I.list h'
 rw [e] at e'; cases e'
 rw [d] at d'
 injection d' with d1 _
 have:its = its':=by simpa using congrArg Array.toList d1
 subst this
 exact r.inj r'
theorem Inv.qo (I:Inv X pins σ H s) (h:eX X.K H a xs) (h':eX X.K H a ys):xs = ys:=by
 obtain ⟨its,r,⟨o,e,_,n,d⟩,_⟩:=I.tuple h
 obtain ⟨its',r',⟨o',e',_,n',d'⟩,_⟩:=I.tuple h'
 rw [e] at e'; cases e'
 rw [d] at d'
 injection d' with d1 _
 have:its = its':=by simpa using congrArg Array.toList d1
 subst this
 exact r.inj r'
end
abbrev Cx.jZ (X:Cx) (E:Value → Shared → Prop):Cx:={ X with xe:=E }
abbrev Cx.tf (X:Cx):Cx:=X.jZ fun _ _=>False
theorem Cx.Ok.jZ {X:Cx} (ok:X.Ok) (E:Value → Shared → Prop):(X.jZ E).Ok :=
 ⟨ok.mod,ok.kind,ok.glob,ok.blt,ok.above,ok.inj,ok.has,ok.cab,ok.hd,ok.frames,ok.stk,ok.exf,ok.bs,ok.bsz,ok.noex,ok.exfs,ok.gN,ok.frf⟩
theorem Cx.Ok.fO {X:Cx} {E:Value → Shared → Prop} (ok:(X.jZ E).Ok):X.Ok :=
 ⟨ok.mod,ok.kind,ok.glob,ok.blt,ok.above,ok.inj,ok.has,ok.cab,ok.hd,ok.frames,ok.stk,ok.exf,ok.bs,ok.bsz,ok.noex,ok.exfs,ok.gN,ok.frf⟩
section
variable {X:Cx} {pins:List (Addr × Obj)} {σ:St} {H:Hp} {s:Shared} {E:Value → Shared → Prop}
theorem Inv.jZ (I:Inv X pins σ H s) (E:Value → Shared → Prop):Inv (X.jZ E) pins σ H s:=⟨I.ok.jZ E,I.os,I.bare,I.base,I.loc,I.cell,I.free,I.freeC,I.pin,I.hok,I.len⟩
theorem Inv.fO (I:Inv (X.jZ E) pins σ H s):Inv X pins σ H s:=⟨I.ok.fO,I.os,I.bare,I.base,I.loc,I.cell,I.free,I.freeC,I.pin,I.hok,I.len⟩
theorem SP.fO {D:Ends} {f:Flow} {s':Shared} (h:SP (X.jZ E) pins D f s'):SP X pins D f s':=by
 cases f with
 | next=>obtain ⟨σ',H',I,q⟩:=h; exact ⟨σ',H',I.fO,q⟩
 | brk=>obtain ⟨σ',H',I,q⟩:=h; exact ⟨σ',H',I.fO,q⟩
 | cont=>obtain ⟨σ',H',I,q⟩:=h; exact ⟨σ',H',I.fO,q⟩
 | ret u=>obtain ⟨v,σ',H',I,r,q⟩:=h; exact ⟨v,σ',H',I.fO,r,q⟩
theorem PE.tf {e:Expr} {t:TE} (h:PE X.tf e t):PE X e t:=by
 unfold PE at *
 exact (fun pins s σ H Q I hw =>
  wpAny_mono (h pins s σ H Q (I.jZ _) hw) (fun _ _ ⟨v,H',I',r,q⟩=>⟨v,H',I'.fO,r,q⟩) fun _ _ z=>False.elim z)
theorem PT.tf {e:Expr} {t:TT} (h:PT X.tf e t):PT X e t:=by
 unfold PT at *
 exact (fun pins s σ H Q I hw =>
  wpAny_mono (h pins s σ H Q (I.jZ _) hw) (fun _ _ ⟨H',I',q⟩=>⟨H',I'.fO,q⟩) fun _ _ z=>False.elim z)
theorem iD.tf {st:List Stmt} {t:TS} (h:iD X.tf st t):iD X st t:=by
 unfold iD at *
 exact (fun pins s σ H D I hw =>
  wpAny_mono (h pins s σ H D (I.jZ _) hw) (fun _ _ q=>q.fO) fun _ _ z=>False.elim z)
end
section
variable {X:Cx} {st:Stmt} {rest:List Stmt} {t u:TS} {e:Expr} {te:TE} {pos:Pos}
def xg:TS:=fun D σ H=>D.nx σ H
def yx (t u:TS):TS:=fun D σ H=>t { D with nx:=u D } σ H
theorem aP:iD X [] xg:=by
 first
 | exact (fun _ _ σ H _ I h=>wpAny_execs_nil ⟨σ,H,I,h⟩)
 | (unfold iD at *; exact (fun _ _ σ H _ I h=>wpAny_execs_nil ⟨σ,H,I,h⟩))
theorem aE (h1:PS X st t) (h2:iD X rest u):iD X (st :: rest) (yx t u):=by
 unfold PS at *; unfold iD at *
 exact by
  intro pins s σ H D I h
  refine wpAny_execs_cons (bQ (h1 pins s σ H { D with nx:=u D } I h) fun f s1 q=>?_)
  cases f with
  | next =>
   obtain ⟨σ',H',I',q⟩:=q
   exact h2 pins s1 σ' H' D I' q
  | ret v=>exact q
  | brk=>exact q
  | cont=>exact q
theorem aG (h1:PS X st t):iD X [st] t:=by
 unfold PS at *; unfold iD at *
 exact by
  intro pins s σ H D I h
  refine wpAny_execs_cons (bQ (h1 pins s σ H D I h) fun f s1 q=>?_)
  cases f with
  | next=>exact wpAny_execs_nil q
  | ret v=>exact q
  | brk=>exact q
  | cont=>exact q
theorem Inv.quiet {pins:List (Addr × Obj)} {σ:St} {H:Hp} {s:Shared} (I:Inv X pins σ H s):interactive X.env = false:=by simp [interactive,I.ok.kind]
def xZ (te:TE):TS:=fun D σ H=>te σ H fun _ H1=>D.nx σ H1
theorem cD (he:PE X e te) (hs:swapsWith e none pos.line X.env = pure false:=by rfl):PS X (.Expr e pos) (xZ te):=by
 unfold PE at *; unfold PS at *
 exact by
  intro pins s σ H D I h
  exact wpAny_Expr_any (bQ (he pins s σ H _ I h) fun v s1 ⟨x,H1,I1,r1,q1⟩=>⟨σ,H1,I1,q1⟩) I.quiet hs
def yg (te:TE):TS:=fun D σ H=>te σ H D.rt
theorem aS (he:PE X e te):PS X (.Return (some e) pos) (yg te):=by
 unfold PE at *; unfold PS at *
 exact by
  intro pins s σ H D I h
  exact wpAny_Return_some (bQ (he pins s σ H _ I h) fun v s1 ⟨x,H1,I1,r1,q1⟩=>⟨x,σ,H1,I1,r1,q1⟩)
def ye (c:TT) (t u:TS):TS:=fun D σ H=>c σ H fun b H1=>if b = true then t D σ H1 else u D σ H1
theorem ao {c:Expr} {a b:List Stmt} {tc:TT} (hc:PT X c tc) (ha:iD X a t) (hb:iD X b u):PS X (.If c a b pos) (ye tc t u):=by
 unfold PT at *; unfold PS at *; unfold iD at *
 exact by
  intro pins s σ H D I h
  refine wpAny_If (bQ (hc pins s σ H _ I h) fun d s1 ⟨H1,I1,q1⟩=>?_)
  cases d with
  | true=>exact ha pins s1 σ H1 D I1 q1
  | false=>exact hb pins s1 σ H1 D I1 q1
def vv:TS:=fun _ _ _=>False
theorem sW:PS X st vv:=by
 first
 | exact (fun _ _ _ _ _ _ h=>h.elim)
 | (unfold PS at *; exact (fun _ _ _ _ _ _ h=>h.elim))
end
abbrev TG:=V → St → Hp → (St → Hp → Prop) → Prop
abbrev wc:=List V → St → Hp → (St → Hp → Prop) → Prop
@[irreducible] def PG (X:Cx) (target:Expr) (t:TG):Prop :=
 ∀ (pins:List (Addr × Obj)) (s:Shared) (σ:St) (H:Hp) (v:V) (u:Value) (Q:St → Hp → Prop),Inv X pins σ H s → RelV v u → t v σ H Q →
  wpAny (model X.prog X.w) X.A (assign target X.env u) (fun _ s'=>∃ σ' H',Inv X pins σ' H' s' ∧ Q σ' H') X.xe s
@[irreducible] def xB (X:Cx) (ts:List Expr) (t:wc):Prop :=
 ∀ (pins:List (Addr × Obj)) (s:Shared) (σ:St) (H:Hp) (vs:List V) (us:List Value) (Q:St → Hp → Prop),Inv X pins σ H s → Vals vs us → t vs σ H Q →
  wpAny (model X.prog X.w) X.A (assignInOrder ((assignEach ts X.env).map (·.2)) us) (fun _ s'=>∃ σ' H',Inv X pins σ' H' s' ∧ Q σ' H') X.xe s
section
variable {X:Cx} {pos:Pos}
def sJ (i:Nat):TG:=fun v σ H Q=>Q (σ.set i (some v)) H
theorem bG {i:Nat} {x:Str} (hN:X.N.Nodup) (hi:X.N[i]? = some x) (hx:Loc X.env.scope x) (hf:X.fn x = true ∨ X.env.scope.names.lookup x = some .local:=by first | exact .inl rfl | exact .inr rfl | assumption):PG X (.Name x pos) (sJ i):=by
 unfold PG at *
 exact by
  intro pins s σ H v u Q I r h
  exact wpAny_assign_Name (kK I hN hi hx r (fun s' I'=>⟨_,H,I',h⟩) hf)
def y7:wc:=fun vs σ H Q=>vs = [] ∧ Q σ H
def xr (t:TG) (u:wc):wc:=fun vs σ H Q=>∃ v r,vs = v :: r ∧ t v σ H fun σ' H'=>u r σ' H' Q
theorem vG:xB X [] y7:=by
 unfold xB at *
 exact by
  intro pins s σ H vs us Q I r h
  obtain ⟨e,h⟩:=h
  subst e
  cases r
  exact assignInOrder_nil ⟨σ,H,I,h⟩
theorem nQ {e:Expr} {es:List Expr} {t:TG} {u:wc} (h1:PG X e t) (h2:xB X es u)
  (hs:(assignEach (e :: es) X.env).map (·.2) = assign e X.env :: (assignEach es X.env).map (·.2):=by rfl):xB X (e :: es) (xr t u):=by
 unfold PG at *; unfold xB at *
 exact by
  intro pins s σ H vs us Q I r h
  obtain ⟨v,vr,e1,h⟩:=h
  subst e1
  cases r with
  | cons r rr =>
   rw [hs]
   refine assignInOrder_cons (bQ (h1 pins s σ H _ _ _ I r h) fun _ s1 ⟨σ1,H1,I1,q1⟩=>?_)
   exact h2 pins s1 σ1 H1 _ _ Q I1 rr q1
def zF (K:PySem.W.Frag) (n:Nat) (t:wc):TG:=fun v σ H Q=>∃ a xs,v = .ref a ∧ eX K H a xs ∧ xs.length = n ∧ t xs σ H Q
theorem wG {es:List Expr} {k:Nat} {t:wc} {n:Nat} (hc:X.calm = true) (h:xB X es t)
  (hn:(assignEach es X.env).length = n:=by rfl) (hst:(assignEach es X.env).findIdx? (·.1) = none:=by rfl):PG X (.Tuple es k pos) (zF X.K n t):=by
 unfold PG at *; unfold xB at *
 exact by
  intro pins s σ H v u Q I r hw
  obtain ⟨a,xs,e1,hq,hl,hw⟩:=hw
  subst e1
  cases r
  obtain ⟨its,rv,ht,hz⟩:=I.tuple hq
  refine assign_Tuple_tuple (I.ok.hd hc) ht (by simp [hn,← hl,rv.length]) hst fun h' hx=>?_
  have I1:Inv X pins σ H { s with heap:=h' }:=I.kept (t':=s.toks) fun b o e=>hx b o (Nat.ne_of_lt (Heap.lt_size e)) e
  exact h pins _ σ H xs _ Q I1 (by simpa using rv) hw
def vx (te:TE) (g:TG):TS:=fun D σ H=>te σ H fun x H1=>g x σ H1 D.nx
theorem wK {tg e:Expr} {te:TE} {g:TG} (he:PE X e te) (hg:PG X tg g) (hs:swapsWithSole [tg] e pos.line X.env = pure false:=by rfl) (hw:swappedStores [tg] e X.env = pure none:=by rfl)
  (h1:(assignEach [tg] X.env).map (·.2) = [assign tg X.env]:=by rfl):PS X (.Assign [tg] e pos) (vx te g):=by
 unfold PE at *; unfold PS at *; unfold PG at *
 exact by
  intro pins s σ H D I h
  refine wpAny_Assign_stores (bQ (he pins s σ H _ I h) fun v s1 ⟨x,H1,I1,r1,q1⟩=>?_) hs hw
  rw [h1]
  exact bQ (hg pins s1 σ H1 x v _ I1 r1 q1) fun _ s2 q=>q
theorem aO {i:Nat} {x:Str} {e:Expr} {te:TE} {pos':Pos} (hN:X.N.Nodup) (hi:X.N[i]? = some x) (hx:Loc X.env.scope x) (he:PE X e te) (hs:swapsWith e (some (.Name x pos')) pos.line X.env = pure false:=by rfl) (hf:X.fn x = true ∨ X.env.scope.names.lookup x = some .local:=by first | exact .inl rfl | exact .inr rfl | assumption) :
  PS X (.Assign [.Name x pos'] e pos) (vx te (sJ i)):=by
 unfold PE at *; unfold PS at *
 exact by
  intro pins s σ H D I h
  refine wpAny_Assign_Name (bQ (he pins s σ H _ I h) fun v s1 ⟨y,H1,I1,r1,q1⟩=>?_) hs
  exact kK I1 hN hi hx r1 (fun s2 I2=>⟨_,H1,I2,q1⟩) hf
end
section
variable {X:Cx} {pos:Pos}
def vk (c:TT) (tb:TS):TS:=fun D σ H=>∃ W:Nat → St → Hp → Prop,(∃ m,W m σ H) ∧ ∀ m σ H,W m σ H →
 c σ H fun b H1=>if b = true then ∃ N:St → Hp → Prop,(∀ σ' H',N σ' H' → ∃ m',m' < m ∧ W m' σ' H') ∧ tb { D with nx:=N,ct:=N,bk:=D.nx } σ H1 else D.nx σ H1
theorem nF {c:Expr} {body:List Stmt} {tc:TT} {tb:TS} (hp:PassesOwn (model X.prog X.w) X.A X.env X.xe) (hc:PT X c tc) (hb:iD X body tb):PS X (.While c body [] pos) (vk tc tb):=by
 unfold PT at *; unfold PS at *; unfold iD at *
 exact by
  intro pins s σ H D I h
  obtain ⟨W,⟨m0,w0⟩,turn⟩:=h
  refine wpAny_While (codeAny_whileLoop (fun n s'=>∃ σ' H',Inv X pins σ' H' s' ∧ W n σ' H') ?_ m0 ⟨σ,H,I,w0⟩)
  rintro n s1 ⟨σ1,H1,I1,w1⟩
  refine wpAny_passesOwn hp (bQ (hc pins s1 σ1 H1 _ I1 (turn n σ1 H1 w1)) fun b s2 ⟨H2,I2,q2⟩=>?_)
  cases b with
  | true =>
   obtain ⟨N,hN,q2⟩:=q2
   rw [if_pos rfl]
   refine wpAny_passesOwn hp (bQ (hb pins s2 σ1 H2 _ I2 q2) fun f s3 q3=>?_)
   cases f with
   | next =>
    obtain ⟨σ3,H3,I3,n3⟩:=q3
    obtain ⟨m',hm,w3⟩:=hN σ3 H3 n3
    exact ⟨m',hm,σ3,H3,I3,w3⟩
   | cont =>
    obtain ⟨σ3,H3,I3,n3⟩:=q3
    obtain ⟨m',hm,w3⟩:=hN σ3 H3 n3
    exact ⟨m',hm,σ3,H3,I3,w3⟩
   | brk=>exact q3
   | ret v=>exact q3
  | false =>
   rw [if_neg Bool.false_ne_true]
   exact wpAny_execs_nil ⟨σ1,H2,I2,q2⟩
end
/- at turn i: it yields x (the heap may grow),or it stops -/
set_option genInjectivity false in
set_option genSizeOfSpec false in
set_option genSizeOf false in
structure It where
 go:Nat → Hp → Prop
 yld:Nat → Hp → V → Hp → Prop
 stop:Nat → Hp → Prop
def jw (X:Cx) (pins:List (Addr × Obj)) (H:Hp) (b:Addr):Prop :=
 H b = none ∧ b ≠ X.env.locals ∧ b ∉ X.fs ∧ (b ∈ X.ex ∨ X.s₀.heap.objs.size ≤ b) ∧ (∀ x c,X.env.cells.lookup x = some c → c ≠ b) ∧ ∀ p ∈ X.pn ++ pins,p.1 ≠ b
theorem Inv.xA {X:Cx} {pins:List (Addr × Obj)} {σ:St} {H H':Hp} {s:Shared} {b:Addr} (I:Inv X pins σ H s) (hb:s.heap.objs.size ≤ b) (hn:H' b = none):jw X pins H' b:=by
 refine ⟨hn,Nat.ne_of_gt (Nat.lt_of_lt_of_le I.lt hb),I.xf hb,.inr (Nat.le_trans I.sz hb),fun x c e z=>?_,fun p hp z=>?_⟩
 ·obtain ⟨v,q⟩:=I.cell x c e
  exact absurd (Nat.lt_of_lt_of_le q.lt (by rw [z]; exact hb)) (Nat.lt_irrefl _)
 ·exact absurd (Nat.lt_of_lt_of_le (Heap.lt_size (I.pin p hp).1) (by rw [z]; exact hb)) (Nat.lt_irrefl _)
structure Turn (P:Program) (w:World) (K:PySem.W.Frag) (tg:Expr) (J:It) (fp:List Addr) (it:Addr) (tn:Nat → Heap → Prop):Prop where
 mem:it ∈ fp
 obj:∀ i h,tn i h → ∀ b ∈ fp,∃ o,h.get? b = some o ∧ ∀ v,o.data ≠ .cell v
 keep:∀ i h h',tn i h → (∀ b ∈ fp,∀ o,h.get? b = some o → h'.get? b = some o) → tn i h'
 item:∀ (X:Cx),X.prog = P → X.w = w → X.K = K → X.calm = true → ∀ (i:Nat) (pins:List (Addr × Obj)) (s:Shared) (σ:St) (H:Hp) (E:Value → Shared → Prop),Inv X pins σ H s → (∀ b ∈ fp,jw X pins H b) → tn i s.heap → J.go i H →
  wpAny (model P w) X.A (pyNext (.ref it)) (fun r s1=>∃ u,r = some u ∧
   wpAny (model P w) X.A (letOwnedTupleGo tg (.ref it) u) (fun _ s2=>∃ x H',Inv X pins σ H' s2 ∧ RelV x u ∧ J.yld i H x H' ∧ tn (i + 1) s2.heap ∧ ∀ b ∈ fp,H' b = none) E s1) E s
 done:∀ (X:Cx),X.prog = P → X.w = w → X.K = K → X.calm = true → ∀ (i:Nat) (pins:List (Addr × Obj)) (s:Shared) (σ:St) (H:Hp) (E:Value → Shared → Prop),Inv X pins σ H s → (∀ b ∈ fp,jw X pins H b) → tn i s.heap → J.stop i H →
  wpAny (model P w) X.A (pyNext (.ref it)) (fun r s1=>r = none ∧ Inv X pins σ H s1) E s
 self:∀ (A:Around) (i:Nat) (s:Shared) (Q:Value → Shared → Prop) (E:Value → Shared → Prop),tn i s.heap → Q (.ref it) s → wpAny (model P w) A (pyIter (.ref it)) Q E s
abbrev TI:=St → Hp → (It → Hp → Prop) → Prop
def zZ (X:Cx) (pins:List (Addr × Obj)) (σ:St) (tg:Expr) (R:It → Hp → Prop) (itv:Value) (s2:Shared):Prop :=
 ∃ (it:Addr) (fp:List Addr) (tn:Nat → Heap → Prop) (J:It) (H':Hp),itv = .ref it ∧ Inv X pins σ H' s2 ∧ Turn X.prog X.w X.K tg J fp it tn ∧ tn 0 s2.heap ∧ (∀ b ∈ fp,jw X pins H' b) ∧ R J H'
@[irreducible] def PI (X:Cx) (tg iter:Expr) (wi:TI):Prop :=
 ∀ (pins:List (Addr × Obj)) (s:Shared) (σ:St) (H:Hp) (R:It → Hp → Prop),Inv X pins σ H s → wi σ H R →
  wpAny (model X.prog X.w) X.A (eval iter X.env) (fun v s1=>wpAny (model X.prog X.w) X.A (pyIter v) (zZ X pins σ tg R) X.xe s1) X.xe s
theorem tR {M : Model} {A : Around} {E : Value → Shared → Prop} {s : Shared} {tg : Expr} {it : Addr} {u : Value} {o : Obj} {n : String} {vs : Array Value} {Q : Unit → Shared → Prop} (ho : s.heap.get? it = some o) (hc : o.cls = .type n) (hd : o.data = .fields vs)
    (hn : ["enumerate", "zip", "dict_itemiterator", "dict_reverseitemiterator", "odict_iterator", "itertools.zip_longest", "itertools.pairwise"].contains n = false) (hQ : Q () s) : wpAny M A (letOwnedTupleGo tg (.ref it) u) Q E s := by
  unfold letOwnedTupleGo
  cases tg <;> first
    | exact wpAny_pure hQ
    | (cases u <;> first
        | exact wpAny_pure hQ
        | (refine wpAny_bind (wpAny_load ho ?_)
           rw [hc, hd]
           show wpAny M A (if (["enumerate", "zip", "dict_itemiterator", "dict_reverseitemiterator", "odict_iterator", "itertools.zip_longest", "itertools.pairwise"].contains n && vs[0]? == some (rawInt _)) = true then _ else _) Q E s
           rw [if_neg (by intro h; rw [hn, Bool.false_and] at h; cases h)]
           exact wpAny_pure hQ))
def xP (K:PySem.W.Frag) (a:Addr):It :=
 ⟨fun i H=>∃ xs x,aj K H a xs ∧ xs[i]? = some x,fun i H x H'=>H' = H ∧ ∀ xs,aj K H a xs → xs[i]? = some x,fun i H=>∃ xs,aj K H a xs ∧ xs.length ≤ i⟩
def vV (lo:Int) (n:Nat):It:=⟨fun i _=>i < n,fun i H x H'=>H' = H ∧ x = .int (lo + i),fun i _=>n ≤ i⟩
theorem qZ {P:Program} {w:World} {K:PySem.W.Frag} {tg:Expr} (a it:Addr):Turn P w K tg (xP K a) [it] it (fun i h=>h.IsListIter it a i) where
 mem:=by simp
 obj:=fun i h st b hb=>by
  have e:b = it:=by simpa using hb
  subst e
  obtain ⟨o,e,c,d⟩:=st
  exact ⟨o,e,fun v z=>by rw [d] at z; cases z⟩
 keep:=fun i h h' st k=>st.at fun o e=>k it (by simp) o e
 item:=by
  intro X hP hw hK hc i pins s σ H E I hf st hg
  subst hP hw hK
  obtain ⟨xs,x,hq,hx⟩:=hg
  obtain ⟨its,rv,p,hz⟩:=I.list hq
  obtain ⟨u,hu,ru⟩:=rv.get hx
  obtain ⟨f0,f1,f2,f3,f4,f5⟩:=hf it (by simp)
  refine wpAny_pyNext_list_item st p.isList (x:=u) (by simpa using hu) fun h' st' sb=>?_
  have I1:Inv X pins σ H { s with heap:=h' }:=I.turned (t':=s.toks) (fun b o hb e=>(sb.2 b hb).trans e) f0 f1 f3 f4 f5
  obtain ⟨o,e,c,d⟩:=id st'
  exact ⟨u,rfl,tR (s:={ s with heap:=h' }) e c d (by decide) ⟨x,H,I1,ru,⟨rfl,fun ys hy=>by rw [I.jm hy hq]; exact hx⟩,st',fun b hb=>(hf b hb).1⟩⟩
 done:=by
  intro X hP hw hK hc i pins s σ H E I hf st hg
  subst hP hw hK
  obtain ⟨xs,hq,hx⟩:=hg
  obtain ⟨its,rv,p,hz⟩:=I.list hq
  obtain ⟨f0,f1,f2,f3,f4,f5⟩:=hf it (by simp)
  have hl:=rv.length
  exact wpAny_pyNext_list_end (I.ok.hd hc) st p.isList (by simp; omega) fun h' eb=>⟨rfl,I.turned (t':=s.toks) (fun b o hb e=>eb b o hb e) f0 f1 f3 f4 f5⟩
 self:=fun _ _ _ _ _ st h=>wpAny_pyIter_listiter st h
theorem oU {P:Program} {w:World} {K:PySem.W.Frag} {tg:Expr} (it:Addr) (lo:Int) (n:Nat):Turn P w K tg (vV lo n) [it] it (fun i h=>IsRangeIter h it (lo + (i:Nat) * 1) ((n:Int) - (i:Nat)) 1) where
 mem:=by simp
 obj:=fun i h st b hb=>by
  have e:b = it:=by simpa using hb
  subst e
  exact ⟨_,st,fun v z=>by
   have z':Data.fields _ = Data.cell v:=z
   cases z'⟩
 keep:=fun i h h' st k=>k it (by simp) _ st
 item:=by
  intro X hP hw hK hc i pins s σ H E I hf st hg
  subst hP hw hK
  obtain ⟨f0,f1,f2,f3,f4,f5⟩:=hf it (by simp)
  have W:=Walks.range (prog:=X.prog) (w:=X.w) (I.ok.hd hc) it lo 1 n
  refine W.item i s _ _ hg st fun v h' tk hv st' kk=>?_
  obtain ⟨t,rfl⟩:=hv
  have I1:Inv X pins σ H { s with heap:=h',toks:=tk }:=I.turned (fun b o hb e=>kk b o (by simpa using hb) e) f0 f1 f3 f4 f5
  refine ⟨_,rfl,tR (s:={ s with heap:=h',toks:=tk }) (n := "range_iterator") st' rfl rfl (by decide) ⟨.int (lo + i),H,I1,⟨t,?_⟩,⟨rfl,rfl⟩,st',fun b hb=>(hf b hb).1⟩⟩
  rw [Int.mul_one]
 done:=by
  intro X hP hw hK hc i pins s σ H E I hf st hg
  subst hP hw hK
  obtain ⟨f0,f1,f2,f3,f4,f5⟩:=hf it (by simp)
  exact wpAny_pyNext_range_end (I.ok.hd hc) st (by have:n ≤ i:=hg; omega) fun h' eb=>⟨rfl,I.turned (t':=s.toks) (fun b o hb e=>eb b o hb e) f0 f1 f3 f4 f5⟩
 self:=fun _ _ _ _ _ st h=>wpAny_pyIter_rangeiter st h
end L2
namespace L2
open PySem PySem.Spec PyProof.Rows
section
variable {X:Cx} {tg:Expr}
def xh (K:PySem.W.Frag) (tl:TE):TI:=fun σ H R=>tl σ H fun x H1=>∃ a,x = .ref a ∧ (∃ xs,aj K H1 a xs) ∧ R (xP K a) H1
theorem dF {l:Expr} {tl:TE} (hl:PE X l tl):PI X tg l (xh X.K tl):=by
 unfold PE at *; unfold PI at *
 exact by
  intro pins s σ H R I h
  refine bQ (hl pins s σ H _ I h) fun v s1 ⟨x,H1,I1,r1,q1⟩=>?_
  obtain ⟨a,e,⟨xs,hq⟩,q⟩:=q1
  subst e
  cases r1
  obtain ⟨its,rv,p,hz⟩:=I1.list hq
  refine wpAny_pyIter_list p.isList ?_
  refine ⟨s1.heap.objs.size,[s1.heap.objs.size],_,_,H1,rfl,I1.kept (t':=s1.toks) fun b o e=>Heap.get?_push_of_some _ e,qZ a _,⟨_,Heap.get?_push_size _ rfl,rfl,rfl⟩,fun b hb=>?_,q⟩
  have e:b = s1.heap.objs.size:=by simpa using hb
  subst e
  exact I1.xA (Nat.le_refl _) (I1.hok.fresh (Nat.le_refl _))
theorem ng {pins:List (Addr × Obj)} {σ:St} {H:Hp} {s:Shared} {R:It → Hp → Prop} {E:Value → Shared → Prop} {lo hi:Int} {t u v:Tok} {tk:Nat} (I:Inv X pins σ H s) (h1:-(2 ^ 62) ≤ lo) (h2:lo < 2 ^ 62) (h3:-(2 ^ 62) ≤ hi) (h4:hi < 2 ^ 62)
  (q:R (vV lo (hi - lo).toNat) H):wpAny (model X.prog X.w) X.A (pyIter (.ref s.heap.objs.size)) (zZ X pins σ tg R) E { s with heap:=s.heap.push { cls:=.type "range",data:=.fields #[.int lo t,.int hi u,.int 1 v] },toks:=tk }:=by
 refine wpAny_pyIter_range (IsRange.new ..) (small_one h1 h2 h3 h4) ?_
 have I1:Inv X pins σ H { s with heap:=s.heap.push { cls:=.type "range",data:=.fields #[.int lo t,.int hi u,.int 1 v] },toks:=tk }:=I.kept fun b o e=>Heap.get?_push_of_some _ e
 refine ⟨(s.heap.push { cls:=.type "range",data:=.fields #[.int lo t,.int hi u,.int 1 v] }).objs.size,[(s.heap.push { cls:=.type "range",data:=.fields #[.int lo t,.int hi u,.int 1 v] }).objs.size],_,_,H,rfl,
  I1.kept (t':=tk) fun b o e=>Heap.get?_push_of_some _ e,oU _ lo (hi - lo).toNat,?_,fun b hb=>?_,q⟩
 ·have e1:lo + ((0:Nat):Int) * 1 = lo:=by simp
  have e2:(((hi - lo).toNat:Nat):Int) - ((0:Nat):Int) = Builtin.Range.rangeSize lo hi 1:=by rw [rangeSize_one]; split <;> omega
  show IsRangeIter _ _ (lo + ((0:Nat):Int) * 1) ((((hi - lo).toNat:Nat):Int) - ((0:Nat):Int)) 1
  rw [e1,e2]
  exact Heap.get?_push_size _ rfl
 ·have e:b = (s.heap.push { cls:=.type "range",data:=.fields #[.int lo t,.int hi u,.int 1 v] }).objs.size:=by simpa using hb
  subst e
  exact I1.xA (Nat.le_refl _) (I1.hok.fresh (Nat.le_refl _))
def yR (ta:TA):TI:=fun σ H R=>ta σ H fun vs H1=>∃ j:Int,vs = [.int j] ∧ -(2 ^ 62) ≤ j ∧ j < 2 ^ 62 ∧ R (vV 0 j.toNat) H1
def xU (ta:TA):TI:=fun σ H R=>ta σ H fun vs H1=>∃ i j:Int,vs = [.int i,.int j] ∧ (-(2 ^ 62) ≤ i ∧ i < 2 ^ 62 ∧ -(2 ^ 62) ≤ j ∧ j < 2 ^ 62) ∧ R (vV i (j - i).toNat) H1
theorem dO {a:Expr} {ta:TA} {p pos:Pos} (hg:Gl X "range") (hm:X.mg "range" = none) (ha:PA X [a] ta) (hs:starEach [a] X.env = [(false,eval a X.env)]:=by rfl):PI X tg (.Call (.Name "range" p) [a] [] pos) (yR ta):=by
 unfold PA at *; unfold PI at *
 exact by
  intro pins s σ H R I h
  refine Call_ (iK I hg hm boot_range (PyProof.Rows.callWith_type1 (bQ (ha pos pins s σ H _ I h) fun us s1 ⟨vs,H1,I1,r1,q1⟩=>?_) hs rfl))
  obtain ⟨j,e,q1,q2,q⟩:=q1
  subst e
  cases r1 with
  | cons r rr =>
   cases rr
   obtain ⟨t,rfl⟩:=r
   exact call_range_1 (ng I1 (by omega) (by omega) q1 q2 (by simpa using q))
theorem q8 {a b:Expr} {ta:TA} {p pos:Pos} (hg:Gl X "range") (hm:X.mg "range" = none) (ha:PA X [a,b] ta) (hs:starEach [a,b] X.env = [(false,eval a X.env),(false,eval b X.env)]:=by rfl) (hs2:starEach [b] X.env = [(false,eval b X.env)]:=by rfl) :
  PI X tg (.Call (.Name "range" p) [a,b] [] pos) (xU ta):=by
 unfold PA at *; unfold PI at *
 exact by
  intro pins s σ H R I h
  refine Call_ (iK I hg hm boot_range (PyProof.Rows.callWith_type1 (bQ (ha pos pins s σ H _ I h) fun us s1 ⟨vs,H1,I1,r1,q1⟩=>?_) (by rw [hs,hs2]) (by rw [hs2]; rfl)))
  obtain ⟨i,j,e,⟨q1,q2,q3,q4⟩,q⟩:=q1
  subst e
  cases r1 with
  | cons r rr =>
   cases rr with
   | cons r' rr =>
    cases rr
    obtain ⟨t,rfl⟩:=r
    obtain ⟨t',rfl⟩:=r'
    exact call_range_2 (ng I1 q1 q2 q3 q4 q)
def zE (wi:TI) (g:TG) (tb:TS):TS:=fun D σ H=>wi σ H fun J H1=>∃ W:Nat → Nat → St → Hp → Prop,(∃ m,W 0 m σ H1) ∧ ∀ i m σ H,W i m σ H →
 (J.stop i H ∧ D.nx σ H) ∨ (J.go i H ∧ ∃ N:St → Hp → Prop,(∀ σ' H',N σ' H' → ∃ m',m' < m ∧ W (i + 1) m' σ' H') ∧ ∀ x H',J.yld i H x H' → g x σ H' fun σ2 H2=>tb { D with nx:=N,ct:=N,bk:=D.nx } σ2 H2)
def kF (fp:List Addr) (h:Heap):List (Addr × Obj):=fp.filterMap fun b=>(h.get? b).map fun o=>(b,o)
theorem gB {fp:List Addr} {h:Heap} {b:Addr} {o:Obj} (hb:b ∈ fp) (e:h.get? b = some o):(b,o) ∈ kF fp h:=List.mem_filterMap.mpr ⟨b,hb,by rw [e]; rfl⟩
theorem qN {fp:List Addr} {h:Heap} {p:Addr × Obj} (hp:p ∈ kF fp h):p.1 ∈ fp ∧ h.get? p.1 = some p.2:=by
 obtain ⟨b,hb,e⟩:=List.mem_filterMap.mp hp
 cases q:h.get? b with
 | none=>rw [q] at e; cases e
 | some o =>
  rw [q] at e
  have e':(b,o) = p:=Option.some.inj e
  subst e'
  exact ⟨hb,q⟩
theorem Inv.pinned {pins:List (Addr × Obj)} {σ:St} {H:Hp} {s:Shared} {fp:List Addr} (I:Inv X pins σ H s) (hf:∀ b ∈ fp,jw X pins H b) (ho:∀ b ∈ fp,∃ o,s.heap.get? b = some o ∧ ∀ v,o.data ≠ .cell v):Inv X (pins ++ kF fp s.heap) σ H s :=
 I.pd fun p hp=>(List.mem_append.mp hp).elim (fun z=>I.pin p (List.mem_append_right _ z)) fun z=>by
  obtain ⟨hb,e⟩:=qN z
  obtain ⟨f0,f1,f2,_⟩:=hf p.1 hb
  obtain ⟨o,e',d⟩:=ho p.1 hb
  rw [e] at e'; cases e'
  exact ⟨e,f0,f1,f2,d⟩
theorem Inv.i7 {pins pl:List (Addr × Obj)} {σ:St} {H:Hp} {s:Shared} (I:Inv X (pins ++ pl) σ H s):Inv X pins σ H s:=I.pd fun p hp=>I.pin p (List.mem_append_right _ (List.mem_append_left _ hp))
theorem fN {iter:Expr} {body:List Stmt} {wi:TI} {g:TG} {tb:TS} {pos:Pos} (hp:PassesOwn (model X.prog X.w) X.A X.env X.xe) (hc:X.calm = true) (hi:PI X tg iter wi) (hg:PG X tg g) (hb:iD X body tb)
  (hs:∀ x,foldedSetIterable iter X.env x = pure x:=by intro _; rfl):PS X (.For tg iter body [] pos) (zE wi g tb):=by
 unfold PS at *; unfold iD at *; unfold PG at *; unfold PI at *
 exact by
  intro pins s σ H D I h
  refine wpAny_For (bQ (hi pins s σ H _ I h) fun v s1 h1=>bQ h1 fun itv s2 h2=>?_) hs
  obtain ⟨it,fp,tn,J,H2,e,I2,T,st2,f2,W,⟨m0,w0⟩,turn⟩:=h2
  subst e
  -- what stays true of the iterator's objects through the loop
  have stat:∀ {H':Hp},(∀ b ∈ fp,H' b = none) → ∀ b ∈ fp,jw X pins H' b:=fun hn b hb=>⟨hn b hb,(f2 b hb).2⟩
  refine codeAny_forLoop_any (fun n s'=>∃ i σ' H',Inv X pins σ' H' s' ∧ tn i s'.heap ∧ (∀ b ∈ fp,H' b = none) ∧ W i n σ' H') ?_ m0 ⟨0,σ,H2,I2,st2,fun b hb=>(f2 b hb).1,w0⟩
  rintro n s3 ⟨i,σ3,H3,I3,st3,fr3,w3⟩
  rcases turn i n σ3 H3 w3 with ⟨stop,qn⟩ | ⟨go,N,hN,step⟩
  ·refine wpAny_passesOwn hp (bQ (T.done X rfl rfl rfl hc i pins s3 σ3 H3 X.xe I3 (stat fr3) st3 stop) fun r s4 ⟨hr,I4⟩=>?_)
   subst hr
   exact wpAny_execs_nil ⟨σ3,H3,I4,qn⟩
  ·refine wpAny_passesOwn hp (bQ (T.item X rfl rfl rfl hc i pins s3 σ3 H3 X.xe I3 (stat fr3) st3 go) fun r s4 ⟨u,hr,h4⟩=>?_)
   subst hr
   refine wpAny_passesOwn hp (bQ h4 fun _ s5 ⟨x,H5,I5,r5,y5,st5,fr5⟩=>?_)
   have I5':=I5.pinned (stat fr5) (T.obj _ _ st5)
   refine wpAny_passesOwn hp (bQ (hg _ s5 σ3 H5 x u _ I5' r5 (step x H5 y5)) fun _ s6 ⟨σ6,H6,I6,q6⟩=>?_)
   refine wpAny_passesOwn hp (bQ (hb _ s6 σ6 H6 _ I6 q6) fun f s7 q7=>?_)
   have again:∀ {σ7:St} {H7:Hp},Inv X (pins ++ kF fp s5.heap) σ7 H7 s7 → N σ7 H7 → ∃ m,m < n ∧ ∃ i σ' H',Inv X pins σ' H' s7 ∧ tn i s7.heap ∧ (∀ b ∈ fp,H' b = none) ∧ W i m σ' H':=fun {σ7 H7} I7 n7=>by
    obtain ⟨m',hm,w7⟩:=hN σ7 H7 n7
    refine ⟨m',hm,i + 1,σ7,H7,I7.i7,T.keep _ _ _ st5 fun b hb o e=>(I7.pin (b,o) (List.mem_append_right _ (List.mem_append_right _ (gB hb e)))).1,fun b hb=>?_,w7⟩
    obtain ⟨o,e,d⟩:=T.obj _ _ st5 b hb
    exact (I7.pin (b,o) (List.mem_append_right _ (List.mem_append_right _ (gB hb e)))).2.1
   cases f with
   | next=>obtain ⟨σ7,H7,I7,n7⟩:=q7; exact again I7 n7
   | cont=>obtain ⟨σ7,H7,I7,n7⟩:=q7; exact again I7 n7
   | brk=>obtain ⟨σ7,H7,I7,q7⟩:=q7; exact ⟨σ7,H7,I7.i7,q7⟩
   | ret v=>obtain ⟨x7,σ7,H7,I7,r7,q7⟩:=q7; exact ⟨x7,σ7,H7,I7.i7,r7,q7⟩
end
theorem oC {K:PySem.W.Frag} {a:Addr} {xs:List V} {g:TG} {tb:TS} {D:Ends} {σ:St} {H:Hp} (Pv:Nat → St → Hp → Prop) (h0:Pv 0 σ H) (hl:∀ i σ H,i ≤ xs.length → Pv i σ H → aj K H a xs)
  (hs:∀ i x σ H,xs[i]? = some x → Pv i σ H → g x σ H fun σ2 H2=>tb { D with nx:=Pv (i + 1),ct:=Pv (i + 1),bk:=D.nx } σ2 H2) (hd:∀ σ H,Pv xs.length σ H → D.nx σ H) :
  ∃ W:Nat → Nat → St → Hp → Prop,(∃ m,W 0 m σ H) ∧ ∀ i m σ H,W i m σ H →
   ((xP K a).stop i H ∧ D.nx σ H) ∨ ((xP K a).go i H ∧ ∃ N:St → Hp → Prop,(∀ σ' H',N σ' H' → ∃ m',m' < m ∧ W (i + 1) m' σ' H') ∧ ∀ x H',(xP K a).yld i H x H' → g x σ H' fun σ2 H2=>tb { D with nx:=N,ct:=N,bk:=D.nx } σ2 H2):=by
 refine ⟨fun i m σ H=>m = xs.length - i ∧ i ≤ xs.length ∧ Pv i σ H,⟨xs.length,by simp,Nat.zero_le _,h0⟩,?_⟩
 rintro i m σ H ⟨rfl,hi,p⟩
 have q:=hl i σ H hi p
 by_cases hlt:i < xs.length
 ·refine .inr ⟨⟨xs,xs[i],q,by simp [hlt]⟩,Pv (i + 1),fun σ' H' p'=>⟨xs.length - (i + 1),by omega,rfl,hlt,p'⟩,fun x H' y=>?_⟩
  obtain ⟨e,y⟩:=y
  subst e
  exact hs i x σ _ (y xs q) p
 ·have e:i = xs.length:=by omega
  subst e
  exact .inl ⟨⟨xs,q,Nat.le_refl _⟩,hd σ H p⟩
theorem dJ {lo:Int} {n:Nat} {g:TG} {tb:TS} {D:Ends} {σ:St} {H:Hp} (Pv:Nat → St → Hp → Prop) (h0:Pv 0 σ H)
  (hs:∀ i σ H,i < n → Pv i σ H → g (.int (lo + i)) σ H fun σ2 H2=>tb { D with nx:=Pv (i + 1),ct:=Pv (i + 1),bk:=D.nx } σ2 H2) (hd:∀ σ H,Pv n σ H → D.nx σ H) :
  ∃ W:Nat → Nat → St → Hp → Prop,(∃ m,W 0 m σ H) ∧ ∀ i m σ H,W i m σ H →
   ((vV lo n).stop i H ∧ D.nx σ H) ∨ ((vV lo n).go i H ∧ ∃ N:St → Hp → Prop,(∀ σ' H',N σ' H' → ∃ m',m' < m ∧ W (i + 1) m' σ' H') ∧ ∀ x H',(vV lo n).yld i H x H' → g x σ H' fun σ2 H2=>tb { D with nx:=N,ct:=N,bk:=D.nx } σ2 H2):=by
 refine ⟨fun i m σ H=>m = n - i ∧ i ≤ n ∧ Pv i σ H,⟨n,by simp,Nat.zero_le _,h0⟩,?_⟩
 rintro i m σ H ⟨rfl,hi,p⟩
 by_cases hlt:i < n
 ·refine .inr ⟨hlt,Pv (i + 1),fun σ' H' p'=>⟨n - (i + 1),by omega,rfl,hlt,p'⟩,fun x H' y=>?_⟩
  obtain ⟨e,y⟩:=y
  subst e y
  exact hs i σ _ hlt p
 ·have e:i = n:=by omega
  subst e
  exact .inl ⟨Nat.le_refl _,hd σ H p⟩
end L2
namespace L2
open PySem PySem.Spec PyProof.Rows
abbrev R2:=V → V → Hp → VK → Prop
@[irreducible] def cZ (X:Cx) (f:Value → Value → Sem Value) (r:R2):Prop :=
 ∀ (pins:List (Addr × Obj)) (s:Shared) (σ:St) (H:Hp) (x y:V) (v u:Value) (Q:VK),Inv X pins σ H s → RelV x v → RelV y u → r x y H Q →
  wpAny (model X.prog X.w) X.A (f v u) (EP X pins σ Q) X.xe s
@[irreducible] def xQ (X:Cx) (f:Value → Sem Value) (r:V → Hp → VK → Prop):Prop :=
 ∀ (pins:List (Addr × Obj)) (s:Shared) (σ:St) (H:Hp) (x:V) (v:Value) (Q:VK),Inv X pins σ H s → RelV x v → r x H Q →
  wpAny (model X.prog X.w) X.A (f v) (EP X pins σ Q) X.xe s
@[irreducible] def bc (X:Cx) (f:Value) (r:List V → Hp → VK → Prop):Prop :=
 ∀ (pins:List (Addr × Obj)) (s:Shared) (σ:St) (H:Hp) (xs:List V) (us:List Value) (Q:VK),Inv X pins σ H s → Vals xs us → r xs H Q →
  wpAny (model X.prog X.w) X.A (call f us) (EP X pins σ Q) X.xe s
@[irreducible] def wo (X:Cx) (r:V → Hp → (Bool → Hp → Prop) → Prop):Prop :=
 ∀ (pins:List (Addr × Obj)) (s:Shared) (σ:St) (H:Hp) (x:V) (v:Value) (Q:Bool → Hp → Prop),Inv X pins σ H s → RelV x v → r x H Q →
  wpAny (model X.prog X.w) X.A (truthy v) (TP X pins σ Q) X.xe s
def yV (r:R2) (ta tb:TE):TE:=fun σ H Q=>ta σ H fun x H1=>tb σ H1 fun y H2=>r x y H2 Q
def zc (r:V → Hp → VK → Prop) (ta:TE):TE:=fun σ H Q=>ta σ H fun x H1=>r x H1 Q
def rI (C:Int → Int → Prop) (g:Int → Int → V):R2:=fun x y H Q=>∃ i j,x = .int i ∧ y = .int j ∧ C i j ∧ Q (g i j) H
def ve (g:Int → Int → V):R2:=fun x y H Q=>∃ i j,x = .int i ∧ y = .int j ∧ Q (g i j) H
def rU (g:Int → V):V → Hp → VK → Prop:=fun x H Q=>∃ i,x = .int i ∧ Q (g i) H
section
variable {X:Cx} {a b c:Expr} {ta tb tc:TE} {pos:Pos}
theorem xJ (ha:PE X a ta) (hb:PE X b tb) {pins:List (Addr × Obj)} {s:Shared} {σ:St} {H:Hp} {R:V → V → Hp → Prop} (I:Inv X pins σ H s)
  (h:ta σ H fun x H1=>tb σ H1 fun y H2=>R x y H2) {Q:Value → Shared → Prop} {f:Value → Value → Sem Value}
  (hf:∀ v u s2 x y H2,Inv X pins σ H2 s2 → RelV x v → RelV y u → R x y H2 → wpAny (model X.prog X.w) X.A (f v u) Q X.xe s2) :
  wpAny (model X.prog X.w) X.A (eval a X.env) (fun v s₁=>wpAny (model X.prog X.w) X.A (eval b X.env) (fun u s₂=>wpAny (model X.prog X.w) X.A (f v u) Q X.xe s₂) X.xe s₁) X.xe s:=by
 unfold PE at *
 exact by
  refine bQ (ha pins s σ H _ I h) fun v s1 ⟨x,H1,I1,r1,q1⟩=>?_
  refine bQ (hb pins s1 σ H1 _ I1 q1) fun u s2 ⟨y,H2,I2,r2,q2⟩=>?_
  exact hf v u s2 x y H2 I2 r1 r2 q2
theorem aL {op:Operator} {r:R2} (ho:cZ X (binaryOp op) r) (ha:PE X a ta) (hb:PE X b tb):PE X (.BinOp a op b pos) (yV r ta tb):=by
 unfold PE; unfold cZ at ho
 exact by
  intro pins s σ H Q I h
  exact wpAny_BinOp (xJ ha hb I h fun v u s2 x y H2 I2 rx ry q=>ho pins s2 σ H2 x y v u Q I2 rx ry q)
theorem kP {op:UnaryOp} {r:V → Hp → VK → Prop} (ho:xQ X (unaryOp op) r) (ha:PE X a ta):PE X (.UnaryOp op a pos) (zc r ta):=by
 unfold PE at *; unfold xQ at *
 exact by
  intro pins s σ H Q I h
  exact UnaryOp_ (bQ (ha pins s σ H _ I h) fun v s1 ⟨x,H1,I1,r1,q1⟩=>ho pins s1 σ H1 x v Q I1 r1 q1)
theorem wA {f:Value → Value → Sem Value} {C:Int → Int → Prop} {g:Int → Int → Int}
  (rule:∀ (i j:Int) (t u:Tok) (s:Shared) (Q:Value → Shared → Prop) (E:Value → Shared → Prop),C i j → Q (.int (g i j) s.toks) { s with toks:=s.toks + 1 } → wpAny (model X.prog X.w) X.A (f (.int i t) (.int j u)) Q E s) :
  cZ X f (rI C fun i j=>.int (g i j)):=by
 unfold cZ at *
 exact by
  intro pins s σ H x y v u Q I rx ry h
  obtain ⟨i,j,rfl,rfl,hc,q⟩:=h
  obtain ⟨t,rfl⟩:=rx
  obtain ⟨t',rfl⟩:=ry
  exact rule i j t t' s _ _ hc ⟨.int (g i j),H,I.tok _,⟨_,rfl⟩,q⟩
theorem tw {f:Value → Value → Sem Value} {g:Int → Int → Int}
  (rule:∀ (i j:Int) (t u:Tok) (s:Shared) (Q:Value → Shared → Prop) (E:Value → Shared → Prop),Q (.int (g i j) s.toks) { s with toks:=s.toks + 1 } → wpAny (model X.prog X.w) X.A (f (.int i t) (.int j u)) Q E s) :
  cZ X f (ve fun i j=>.int (g i j)):=by
 unfold cZ at *
 exact by
  intro pins s σ H x y v u Q I rx ry h
  obtain ⟨i,j,rfl,rfl,q⟩:=h
  obtain ⟨t,rfl⟩:=rx
  obtain ⟨t',rfl⟩:=ry
  exact rule i j t t' s _ _ ⟨.int (g i j),H,I.tok _,⟨_,rfl⟩,q⟩
theorem mr {f:Value → Value → Sem Value} {g:Int → Int → Bool}
  (rule:∀ (i j:Int) (t u:Tok) (s:Shared) (Q:Value → Shared → Prop) (E:Value → Shared → Prop),Q (.bool (g i j)) s → wpAny (model X.prog X.w) X.A (f (.int i t) (.int j u)) Q E s) :
  cZ X f (ve fun i j=>.bl (g i j)):=by
 unfold cZ at *
 exact by
  intro pins s σ H x y v u Q I rx ry h
  obtain ⟨i,j,rfl,rfl,q⟩:=h
  obtain ⟨t,rfl⟩:=rx
  obtain ⟨t',rfl⟩:=ry
  exact rule i j t t' s _ _ ⟨.bl (g i j),H,I,rfl,q⟩
def xj (i j:Int):Prop:=0 < j ∧ j < 1073741824
def xi (i j:Int):Prop:=0 ≤ j ∧ j ≤ 1000000 ∧ i.natAbs < 2 ^ 64
def tE (i j:Int):Prop:=(-(2 ^ 64) < i ∧ i < 2 ^ 64) ∨ (-(2 ^ 64) < j ∧ j < 2 ^ 64)
theorem tE.ok {i j:Int} (h:tE i j):IntMulOk i j:=by
 rcases h with ⟨h1,h2⟩ | ⟨h1,h2⟩
 ·exact .of_left (intBits_le_64 h1 h2)
 ·exact .of_right (intBits_le_64 h1 h2)
theorem bH:cZ X (binaryOp .Add) (ve fun i j=>.int (i + j)):=by
 first
 | exact (tw fun _ _ _ _ _ _ _ q=>add_int q)
 | (unfold cZ at *; exact (tw fun _ _ _ _ _ _ _ q=>add_int q))
theorem rD:cZ X (binaryOp .Sub) (ve fun i j=>.int (i - j)):=by
 first
 | exact (tw fun _ _ _ _ _ _ _ q=>sub_int q)
 | (unfold cZ at *; exact (tw fun _ _ _ _ _ _ _ q=>sub_int q))
theorem dU:cZ X (binaryOp .Mult) (rI tE fun i j=>.int (i * j)):=by
 first
 | exact (wA fun _ _ _ _ _ _ _ hc q=>mul_int q hc.ok)
 | (unfold cZ at *; exact (wA fun _ _ _ _ _ _ _ hc q=>mul_int q hc.ok))
theorem bA:cZ X (binaryOp .FloorDiv) (rI xj fun i j=>.int (i / j)):=wA fun i j _ _ _ _ _ hc q=>by
 have h1:(0:Int) < j:=hc.1
 have h2:j < 1073741824:=hc.2
 exact floordiv_int (by omega) (by rw [Int.fdiv_eq_ediv_of_nonneg i (by omega)]; exact q) (.inl (PyProof.noPylong_small (by omega)))
theorem ak:cZ X (binaryOp .Mod) (rI (fun _ j=>0 < j) fun i j=>.int (i % j)):=wA fun i j _ _ _ _ _ hc q=>by
 have h1:(0:Int) < j:=hc
 exact mod_int' (by omega) (by rw [Int.fmod_eq_emod_of_nonneg i (by omega)]; exact q)
theorem d6:cZ X (binaryOp .Pow) (rI xi fun i j=>.int (i ^ j.toNat)):=by
 first
 | exact (wA fun _ _ _ _ _ _ _ hc q=>pow_int_small hc.1 hc.2.1 hc.2.2 q)
 | (unfold cZ at *; exact (wA fun _ _ _ _ _ _ _ hc q=>pow_int_small hc.1 hc.2.1 hc.2.2 q))
theorem zT {f:Value → Sem Value} {g:Int → Int}
  (rule:∀ (i:Int) (t:Tok) (s:Shared) (Q:Value → Shared → Prop) (E:Value → Shared → Prop),Q (.int (g i) s.toks) { s with toks:=s.toks + 1 } → wpAny (model X.prog X.w) X.A (f (.int i t)) Q E s) :
  xQ X f (rU fun i=>.int (g i)):=by
 unfold xQ at *
 exact by
  intro pins s σ H x v Q I rx h
  obtain ⟨i,rfl,q⟩:=h
  obtain ⟨t,rfl⟩:=rx
  exact rule i t s _ _ ⟨.int (g i),H,I.tok _,⟨_,rfl⟩,q⟩
theorem iJ:xQ X (unaryOp .USub) (rU fun i=>.int (-i)):=by
 first
 | exact (zT fun _ _ _ _ _ q=>neg_int q)
 | (unfold xQ at *; exact (zT fun _ _ _ _ _ q=>neg_int q))
end
def xT:V → V → Bool
 | .ax,.ax=>true | .ax,.int _=>true | .int _,.ax=>true | .ax,.bl _=>true | .bl _,.ax=>true | .ax,.str _=>true | .str _,.ax=>true
 | .int _,.int _=>true | .bl _,.bl _=>true | .str _,.str _=>true | .byt _,.byt _=>true
 | .int _,.str _=>true | .str _,.int _=>true | .bl _,.str _=>true | .str _,.bl _=>true
 | _,_=>false
def z4:R2:=fun x y H Q=>xT x y = true ∧ Q (.bl (decide (x = y))) H
def zg:R2:=fun x y H Q=>xT x y = true ∧ Q (.bl (!decide (x = y))) H
theorem pT {i j:Int}:decide (V.int i = V.int j) = (i == j):=by
 rw [Bool.eq_iff_iff]
 simp
theorem tH {i j:Bool}:decide (V.bl i = V.bl j) = (i == j):=by
 rw [Bool.eq_iff_iff]
 simp
theorem qG {i j:Str}:decide (V.str i = V.str j) = (i == j):=by
 rw [Bool.eq_iff_iff]
 simp
theorem pz {i j:Array UInt8}:decide (V.byt i = V.byt j) = (i.toList == j.toList):=by
 rw [Bool.eq_iff_iff]
 cases i
 cases j
 simp
section
variable {X:Cx} {a b c:Expr} {ta tb tc:TE} {pos:Pos}
theorem ay {pins:List (Addr × Obj)} {σ:St} {H:Hp} {s:Shared} {Q:VK} {k k':Bool} (I:Inv X pins σ H s) (q:Q (.bl k) H) (e:k = k'):EP X pins σ Q (.bool k') s:=by
 subst e
 exact ⟨.bl k,H,I,rfl,q⟩
theorem cP:cZ X (compareOp .Eq) z4:=by
 unfold cZ at *
 exact by
  intro pins s σ H x y v u Q I rx ry h
  obtain ⟨hs,q⟩:=h
  cases x with
  | ax =>
   cases rx
   cases y with
   | ax=>cases ry; exact PySem.EqNone.eq_none_none (ay I q (by simp))
   | bl j=>cases ry; exact PySem.EqNone.eq_none_bool (ay I q (by simp))
   | int j=>obtain ⟨t',rfl⟩:=ry; exact PySem.EqNone.eq_none_int (ay I q (by simp))
   | str j=>obtain ⟨t',rfl⟩:=ry; exact PySem.EqNone.eq_none_str (ay I q (by simp))
   | _=>exact absurd (show false = true from hs) Bool.false_ne_true
  | bl i =>
   cases rx
   cases y with
   | ax=>cases ry; exact PySem.EqNone.eq_bool_none (ay I q (by simp))
   | bl j=>cases ry; exact eq_bool (ay I q tH)
   | str j=>obtain ⟨t',rfl⟩:=ry; exact PySem.EqMixed.eq_bool_str (ay I q (by simp))
   | _=>exact absurd (show false = true from hs) Bool.false_ne_true
  | int i =>
   obtain ⟨t,rfl⟩:=rx
   cases y with
   | ax=>cases ry; exact PySem.EqNone.eq_int_none (ay I q (by simp))
   | int j=>obtain ⟨t',rfl⟩:=ry; exact eq_int (ay I q pT)
   | str j=>obtain ⟨t',rfl⟩:=ry; exact PySem.EqMixed.eq_int_str (ay I q (by simp))
   | _=>exact absurd (show false = true from hs) Bool.false_ne_true
  | str i =>
   obtain ⟨t,rfl⟩:=rx
   cases y with
   | ax=>cases ry; exact PySem.EqNone.eq_str_none (ay I q (by simp))
   | bl j=>cases ry; exact PySem.EqMixed.eq_str_bool (ay I q (by simp))
   | int j=>obtain ⟨t',rfl⟩:=ry; exact PySem.EqMixed.eq_str_int (ay I q (by simp))
   | str j=>obtain ⟨t',rfl⟩:=ry; exact eq_str (ay I q qG)
   | _=>exact absurd (show false = true from hs) Bool.false_ne_true
  | byt i =>
   obtain ⟨t,rfl⟩:=rx
   cases y with
   | byt j=>obtain ⟨t',rfl⟩:=ry; exact PySem.W.eq_bytes (ay I q pz)
   | _=>exact absurd (show false = true from hs) Bool.false_ne_true
  | _=>cases y <;> exact absurd (show false = true from hs) Bool.false_ne_true
theorem gQ:cZ X (compareOp .NotEq) zg:=by
 unfold cZ at *
 exact by
  intro pins s σ H x y v u Q I rx ry h
  obtain ⟨hs,q⟩:=h
  cases x with
  | ax =>
   cases rx
   cases y with
   | ax=>cases ry; exact PySem.EqNone.ne_none_none (ay I q (by simp))
   | bl j=>cases ry; exact PySem.EqNone.ne_none_bool (ay I q (by simp))
   | int j=>obtain ⟨t',rfl⟩:=ry; exact PySem.EqNone.ne_none_int (ay I q (by simp))
   | str j=>obtain ⟨t',rfl⟩:=ry; exact PySem.EqNone.ne_none_str (ay I q (by simp))
   | _=>exact absurd (show false = true from hs) Bool.false_ne_true
  | bl i =>
   cases rx
   cases y with
   | ax=>cases ry; exact PySem.EqNone.ne_bool_none (ay I q (by simp))
   | bl j=>cases ry; exact ne_bool (ay I q (congrArg not tH))
   | str j=>obtain ⟨t',rfl⟩:=ry; exact PySem.EqMixed.ne_bool_str (ay I q (by simp))
   | _=>exact absurd (show false = true from hs) Bool.false_ne_true
  | int i =>
   obtain ⟨t,rfl⟩:=rx
   cases y with
   | ax=>cases ry; exact PySem.EqNone.ne_int_none (ay I q (by simp))
   | int j=>obtain ⟨t',rfl⟩:=ry; exact ne_int (ay I q (congrArg not pT))
   | str j=>obtain ⟨t',rfl⟩:=ry; exact PySem.EqMixed.ne_int_str (ay I q (by simp))
   | _=>exact absurd (show false = true from hs) Bool.false_ne_true
  | str i =>
   obtain ⟨t,rfl⟩:=rx
   cases y with
   | ax=>cases ry; exact PySem.EqNone.ne_str_none (ay I q (by simp))
   | bl j=>cases ry; exact PySem.EqMixed.ne_str_bool (ay I q (by simp))
   | int j=>obtain ⟨t',rfl⟩:=ry; exact PySem.EqMixed.ne_str_int (ay I q (by simp))
   | str j=>obtain ⟨t',rfl⟩:=ry; exact ne_str (ay I q (congrArg not qG))
   | _=>exact absurd (show false = true from hs) Bool.false_ne_true
  | byt i =>
   obtain ⟨t,rfl⟩:=rx
   cases y with
   | byt j=>obtain ⟨t',rfl⟩:=ry; exact PySem.W.ne_bytes (ay I q (congrArg not pz))
   | _=>exact absurd (show false = true from hs) Bool.false_ne_true
  | _=>cases y <;> exact absurd (show false = true from hs) Bool.false_ne_true
theorem qF:cZ X (compareOp .Lt) (ve fun i j=>.bl (decide (i < j))):=by
 first
 | exact (mr fun _ _ _ _ _ _ _ q=>lt_int q)
 | (unfold cZ at *; exact (mr fun _ _ _ _ _ _ _ q=>lt_int q))
theorem iS:cZ X (compareOp .LtE) (ve fun i j=>.bl (decide (i ≤ j))):=by
 first
 | exact (mr fun _ _ _ _ _ _ _ q=>le_int q)
 | (unfold cZ at *; exact (mr fun _ _ _ _ _ _ _ q=>le_int q))
theorem vQ:cZ X (compareOp .Gt) (ve fun i j=>.bl (decide (j < i))):=by
 first
 | exact (mr fun _ _ _ _ _ _ _ q=>gt_int q)
 | (unfold cZ at *; exact (mr fun _ _ _ _ _ _ _ q=>gt_int q))
theorem vP:cZ X (compareOp .GtE) (ve fun i j=>.bl (decide (j ≤ i))):=by
 first
 | exact (mr fun _ _ _ _ _ _ _ q=>ge_int q)
 | (unfold cZ at *; exact (mr fun _ _ _ _ _ _ _ q=>ge_int q))
theorem cZ.or {f:Value → Value → Sem Value} {r r':R2} (h:cZ X f r) (h':cZ X f r'):cZ X f (fun x y H Q=>r x y H Q ∨ r' x y H Q):=by
 unfold cZ at *
 exact by
  intro pins s σ H x y v u Q I rx ry q
  rcases q with q | q
  ·exact h pins s σ H x y v u Q I rx ry q
  ·exact h' pins s σ H x y v u Q I rx ry q
theorem aa (b:Expr) {op:CmpOp} (h:op ≠ .In:=by decide) (h2:op ≠ .NotIn:=by decide):behindInMarks op b = false:=by
 have e1:(op == CmpOp.In) = false:=by cases op <;> first | rfl | exact absurd rfl h
 have e2:(op == CmpOp.NotIn) = false:=by cases op <;> first | rfl | exact absurd rfl h2
 cases b <;> simp [behindInMarks,e1,e2]
theorem cO {op:CmpOp} {r:R2} (ho:cZ X (compareOp op) r) (ha:PE X a ta) (hb:PE X b tb) (hm:behindInMarks op b = false):PE X (.Compare a [op] [b] pos) (yV r ta tb):=by
 unfold PE; unfold cZ at ho
 exact by
  intro pins s σ H Q I h
  exact wpAny_Compare1 (xJ ha hb I h fun v u s2 x y H2 I2 rx ry q=>ho pins s2 σ H2 x y v u Q I2 rx ry q) hm
def vR (t:TE):TT:=fun σ H Q=>t σ H fun x H'=>∃ k,x = .bl k ∧ Q k H'
theorem aV {op:CmpOp} {r:R2} (ho:cZ X (compareOp op) r) (ha:PE X a ta) (hb:PE X b tb) (hm:behindInMarks op b = false):PT X (.Compare a [op] [b] pos) (vR (yV r ta tb)):=by
 unfold PE at *; unfold PT at *; unfold cZ at *
 exact by
  intro pins s σ H Q I h
  refine wpAny_isTrue_Compare1 (bQ (ha pins s σ H _ I h) fun v s1 ⟨x,H1,I1,r1,q1⟩=>bQ (hb pins s1 σ H1 _ I1 q1) fun u s2 ⟨y,H2,I2,r2,q2⟩ =>
   bQ (ho pins s2 σ H2 x y v u _ I2 r1 r2 q2) fun c s3 ⟨z,H3,I3,r3,k,e,q3⟩=>?_) hm
  subst e
  cases r3
  exact wpAny_truthy_bool ⟨H3,I3,q3⟩
def rq (r r':R2) (ta tb tc:TE):TE:=fun σ H Q=>ta σ H fun x H1=>tb σ H1 fun y H2=>r x y H2 fun z H3=>∃ k,z = .bl k ∧
 (if k = true then tc σ H3 fun w' H4=>r' y w' H4 Q else Q (.bl false) H3)
theorem jh {op op':CmpOp} {r r':R2} (ho:cZ X (compareOp op) r) (ho':cZ X (compareOp op') r') (ha:PE X a ta) (hb:PE X b tb) (hc:PE X c tc)
  (hm:lastMarks [op,op'] [b,c] = false:=by with_unfolding_all rfl):PE X (.Compare a [op,op'] [b,c] pos) (rq r r' ta tb tc):=by
 unfold PE at *; unfold cZ at *
 exact by
  intro pins s σ H Q I h
  refine Compare_chain (bQ (ha pins s σ H _ I h) fun v s1 ⟨x,H1,I1,r1,q1⟩=>chain_link (bQ (hb pins s1 σ H1 _ I1 q1) fun u s2 ⟨y,H2,I2,r2,q2⟩ =>
   bQ (ho pins s2 σ H2 x y v u _ I2 r1 r2 q2) fun d s3 ⟨z,H3,I3,r3,k,e,q3⟩=>?_)) hm
  subst e
  cases r3
  refine wpAny_truthy_bool ?_
  cases k with
  | false=>exact ite_ff ⟨.bl false,H3,I3,rfl,q3⟩
  | true=>exact ite_tt (chain_last (bQ (hc pins s3 σ H3 _ I3 q3) fun w' s4 ⟨z',H4,I4,r4,q4⟩=>ho' pins s4 σ H4 y z' u w' Q I4 r2 r4 q4))
theorem tL {op op':CmpOp} {r r':R2} (ho:cZ X (compareOp op) r) (ho':cZ X (compareOp op') r') (ha:PE X a ta) (hb:PE X b tb) (hc:PE X c tc)
  (hm:lastMarks [op,op'] [b,c] = false:=by with_unfolding_all rfl):PT X (.Compare a [op,op'] [b,c] pos) (vR (rq r r' ta tb tc)):=by
 unfold PE at *; unfold PT at *; unfold cZ at *
 exact by
  intro pins s σ H Q I h
  refine isTrue_chain (bQ (ha pins s σ H _ I h) fun v s1 ⟨x,H1,I1,r1,q1⟩=>test_link (bQ (hb pins s1 σ H1 _ I1 q1) fun u s2 ⟨y,H2,I2,r2,q2⟩ =>
   bQ (ho pins s2 σ H2 x y v u _ I2 r1 r2 q2) fun d s3 ⟨z,H3,I3,r3,k,e,q3⟩=>?_)) hm
  subst e
  cases r3
  refine wpAny_truthy_bool ?_
  cases k with
  | false =>
   obtain ⟨k',e',q'⟩:=q3
   cases e'
   exact ite_ff ⟨H3,I3,q'⟩
  | true =>
   refine ite_tt (test_last (bQ (hc pins s3 σ H3 _ I3 q3) fun w' s4 ⟨z',H4,I4,r4,q4⟩=>bQ (ho' pins s4 σ H4 y z' u w' _ I4 r2 r4 q4) fun d' s5 ⟨z2,H5,I5,r5,k2,e2,q5⟩=>?_))
   subst e2
   cases r5
   exact wpAny_truthy_bool ⟨H5,I5,q5⟩
def yP (K:PySem.W.Frag) (x:V) (H:Hp) (k:Bool):Prop :=
 match x with
 | .ax=>k = false
 | .bl b=>k = b
 | .int i=>k = (i != 0)
 | .str y=>y.length ≤ sizeLine ∧ k = ((y.length:Int) != 0)
 | .byt y=>y.size ≤ sizeLine ∧ k = ((y.size:Int) != 0)
 | .ref p=>(∃ xs,aj K H p xs ∧ k = !xs.isEmpty) ∨ (∃ xs,eX K H p xs ∧ k = !xs.isEmpty) ∨ ∃ kvs,H p = some (.dK kvs) ∧ k = !kvs.isEmpty
 | _=>False
theorem oM {κ:Type} {kvs:List (κ × V)} {vs:List (κ × Value)} (r:KV kvs vs):(!vs.isEmpty) = !kvs.isEmpty:=by
 cases r <;> rfl
theorem jo {xs:List V} {its:List Value} (r:Vals xs its):(!its.toArray.isEmpty) = !xs.isEmpty:=by
 cases r <;> simp
theorem jE:(sizeLine:Nat) < 2 ^ 63:=by rw [sizeLine_eq]; decide
theorem mY:wo X (fun x H Q=>∃ k,yP X.K x H k ∧ Q k H):=by
 unfold wo at *
 exact by
  intro pins s σ H x v Q I rx h
  obtain ⟨k,e,q⟩:=h
  have hl:=jE
  have hs:sizeLine = 16777216:=sizeLine_eq
  cases x with
  | ax =>
   cases rx
   have e':k = false:=e
   subst e'
   exact truthy_none ⟨H,I,q⟩
  | bl b =>
   cases rx
   have e':k = b:=e
   subst e'
   exact wpAny_truthy_bool ⟨H,I,q⟩
  | int i =>
   obtain ⟨t,rfl⟩:=rx
   have e':k = (i != 0):=e
   subst e'
   exact PySem.P.truthy_int ⟨H,I,q⟩
  | str y =>
   obtain ⟨t,rfl⟩:=rx
   obtain ⟨hy,e'⟩:y.length ≤ sizeLine ∧ k = ((y.length:Int) != 0):=e
   subst e'
   exact PySem.P.truthy_str (by omega) ⟨H,I.tok _,q⟩
  | byt y =>
   obtain ⟨t,rfl⟩:=rx
   obtain ⟨hy,e'⟩:y.size ≤ sizeLine ∧ k = ((y.size:Int) != 0):=e
   subst e'
   exact PySem.W.truthy_bytes (by omega) ⟨H,I.tok _,q⟩
  | ref p =>
   cases rx
   have e':(∃ xs,aj X.K H p xs ∧ k = !xs.isEmpty) ∨ (∃ xs,eX X.K H p xs ∧ k = !xs.isEmpty) ∨ ∃ kvs,H p = some (.dK kvs) ∧ k = !kvs.isEmpty:=e
   rcases e' with ⟨xs,hx,e'⟩ | ⟨xs,hx,e'⟩ | ⟨kvs,hx,e'⟩
   ·subst e'
    obtain ⟨its,r,pl,hz⟩:=I.list hx
    have hlen:=r.length
    exact wpAny_truthy_list pl.isList (by simp only [List.size_toArray]; omega) ⟨H,I.tok _,by rw [jo r]; exact q⟩
   ·subst e'
    obtain ⟨its,r,pl,hz⟩:=I.tuple hx
    have hlen:=r.length
    exact truthy_tuple pl (by simp only [List.size_toArray]; omega) ⟨H,I.tok _,by rw [jo r]; exact q⟩
   ·subst e'
    obtain ⟨hz,hS,vs,r,m⟩:kvs.length ≤ sizeLine ∧ (p == sysModules) = false ∧ ∃ vs,KV kvs vs ∧ s.heap.DictOf (ae X.prog X.w) p vs:=I.hok p _ hx
    have hlen:kvs.length = vs.length:=Paired.length r
    exact wpAny_truthy_dict hS m (by omega) ⟨H,I.tok _,by rw [oM r]; exact q⟩
  | _=>exact (show False from e).elim
theorem nD (ha:PE X a ta) (he:∀ whole,isTrue a X.env whole = (do let v ← whole; standAt a.pos; holding [v] (truthy v))) :
  PT X a (fun σ H Q=>ta σ H fun x H'=>∃ k,yP X.K x H' k ∧ Q k H'):=by
 unfold PE at *; unfold PT at *; have mY:=mY (X:=X); unfold wo at mY
 exact by
  intro pins s σ H Q I h
  exact isTrue_plain (bQ (ha pins s σ H _ I h) fun v s1 ⟨x,H1,I1,r1,q1⟩=>mY pins s1 σ H1 x v Q I1 r1 q1) (he _)
theorem iI:cZ X (binaryOp .Add) (fun x y H Q=>∃ i j,x = .str i ∧ y = .str j ∧ i.length + j.length ≤ sizeLine ∧ Q (.str (i ++ j)) H):=by
 unfold cZ at *
 exact by
  intro pins s σ H x y v u Q I rx ry h
  obtain ⟨i,j,rfl,rfl,hz,q⟩:=h
  obtain ⟨t,rfl⟩:=rx
  obtain ⟨t',rfl⟩:=ry
  exact add_str (fun t' tk=>⟨.str (i ++ j),H,I.tok _,⟨_,rfl⟩,q⟩) hz
theorem vals1 {x:V} {us:List Value} (r:Vals [x] us):∃ u,us = [u] ∧ RelV x u:=by
 cases r with
 | cons r1 r2=>cases r2; exact ⟨_,rfl,r1⟩
theorem vals2 {x y:V} {us:List Value} (r:Vals [x,y] us):∃ u w',us = [u,w'] ∧ RelV x u ∧ RelV y w':=by
 cases r with
 | cons r1 r2 =>
  cases r2 with
  | cons r3 r4=>cases r4; exact ⟨_,_,rfl,r1,r3⟩
theorem lF (hc:X.calm = true):bc X (.builtin "max") (fun xs H Q=>∃ i j,xs = [.int i,.int j] ∧ Q (.int (if j > i then j else i)) H):=by
 unfold bc at *
 exact by
  intro pins s σ H xs us Q I r h
  obtain ⟨i,j,rfl,q⟩:=h
  obtain ⟨u,w',rfl,⟨t,rfl⟩,⟨t',rfl⟩⟩:=vals2 r
  refine max_two_ints (I.ok.hd hc) fun h' tk k=>⟨_,H,I.kept k,?_,q⟩
  by_cases hj:j > i
  ·rw [if_pos hj,if_pos hj]; exact ⟨_,rfl⟩
  ·rw [if_neg hj,if_neg hj]; exact ⟨_,rfl⟩
theorem jG (hc:X.calm = true):bc X (.builtin "min") (fun xs H Q=>∃ i j,xs = [.int i,.int j] ∧ Q (.int (if j < i then j else i)) H):=by
 unfold bc at *
 exact by
  intro pins s σ H xs us Q I r h
  obtain ⟨i,j,rfl,q⟩:=h
  obtain ⟨u,w',rfl,⟨t,rfl⟩,⟨t',rfl⟩⟩:=vals2 r
  refine min_two_ints (I.ok.hd hc) fun h' tk k=>⟨_,H,I.kept k,?_,q⟩
  by_cases hj:j < i
  ·rw [if_pos hj,if_pos hj]; exact ⟨_,rfl⟩
  ·rw [if_neg hj,if_neg hj]; exact ⟨_,rfl⟩
theorem jB:bc X (.type "int") (fun xs H Q=>(∃ i,xs = [.int i] ∧ Q (.int i) H) ∨ ∃ k,xs = [.bl k] ∧ Q (.int (if k then 1 else 0)) H):=by
 unfold bc at *
 exact by
  intro pins s σ H xs us Q I r h
  rcases h with ⟨i,rfl,q⟩ | ⟨k,rfl,q⟩
  ·obtain ⟨u,rfl,t,rfl⟩:=vals1 r
   exact call_int_int ⟨.int i,H,I,⟨_,rfl⟩,q⟩
  ·obtain ⟨u,rfl,r1⟩:=vals1 r
   cases r1
   exact call_int_bool ⟨.int (if k then 1 else 0),H,I.tok _,⟨_,rfl⟩,q⟩
end
end L2
namespace L2
open PySem PySem.Spec PyProof.Rows
structure pD (h:Heap) (x dx C:Addr) (mA:Str → Option Value):Prop where
 obj:h.get? x = some (PySem.W.instObj C dx)
 ns:h.Ns1 dx mA
 ne:dx ≠ x
theorem lg {h:Heap} {dx:Addr} {mA:Str → Option Value} (n:h.Ns1 dx mA):∃ od,h.get? dx = some od ∧ ∀ name,PySem.W.lookIn name od = some (mA name):=by
 obtain ⟨o,es,ep,ho,hd,hk,_,hm⟩:=n
 refine ⟨o,ho,fun name=>?_⟩
 have e:=hm name
 unfold nsFind findBy at e
 rw [← Array.find?_toList] at e
 unfold PySem.W.lookIn
 rw [hd]
 dsimp only
 split
 ·rename_i y q
  rw [q] at e
  exact congrArg some e
 ·rename_i q
  rw [q] at e
  have a:es.toList.any (·.refKey) = false:=by
   rw [List.any_eq_false]
   intro y hy
   obtain ⟨z,t,hkey⟩:=hk y (Array.mem_toList_iff.mp hy)
   simp [DictEntry.refKey,hkey]
  have a':¬ es.toList.any (·.refKey) = true:=by rw [a]; exact Bool.false_ne_true
  rw [if_neg a']
  exact congrArg some e
theorem pD.look {h:Heap} {x dx C:Addr} {mA:Str → Option Value} (I:pD h x dx C mA):∃ od,PySem.W.InstAt h x (PySem.W.instObj C dx) C (some od) ∧ ∀ name,PySem.W.lookIn name od = some (mA name) :=
 let ⟨od,ho,hl⟩:=lg I.ns
 ⟨od,⟨I.obj,rfl,rfl,ho⟩,hl⟩
section
variable {prog:Program} {w:World} {A:Around} {E:Value → Shared → Prop} {s:Shared} {K:PySem.W.Frag} {x dx C f:Addr} {mA:Str → Option Value} {name:Str} {v:Value}
theorem get_map {expr:Bool} {Q:Value → Shared → Prop} (X:K.In s.heap) (I:pD s.heap x dx C mA) (hg:PySem.W.plainGet K C name = true) (hh:PySem.W.hasDictIn K C = true)
  (ha:PySem.W.findIn K (.ref C) name = some none) (hv:mA name = some v) (hv':PySem.W.handedIn v = true) (h:Q v { s with toks:=s.toks + 1 }) :
  wpAny (model prog w) A (getAttr (.ref x) name expr) Q E s:=by
 obtain ⟨od,J,hl⟩:=I.look
 exact PySem.W.get_value X J (PySem.W.plainGet_of hg).1 (PySem.W.findObj_own hh ha rfl (by rw [hl,hv])) hv' h
theorem r9 {pl:Sem Bool} {Q:Value × List Value → Shared → Prop} (X:K.In s.heap) (I:pD s.heap x dx C mA) (hg:PySem.W.plainGet K C name = true)
  (hf:PySem.W.findIn K (.ref C) name = some (some (.ref f))) (ht:PySem.W.isFn K (.ref f) = true) (hv:mA name = none) (h:Q (.ref f,[.ref x]) s) :
  wpAny (model prog w) A (getMethod (.ref x) name pl) Q E s:=by
 obtain ⟨od,J,hl⟩:=I.look
 exact PySem.W.method_fn X J (PySem.W.plainGet_of hg).1 (PySem.W.plainGet_of hg).2 hf (beq_iff_eq.mp ht) (by show (PySem.W.lookIn name od).map (·.isSome) = some false; rw [hl,hv]; rfl) h
theorem uT {ns:List Str} {Q:Unit → Shared → Prop} (X:K.In s.heap) (I:pD s.heap x dx C mA)
  (hs:PySem.W.findIn K (.ref C) "__setattr__" = some (some (.builtin "object.__setattr__"))) (hp:PySem.W.plainOver K C = true) (ht:PySem.W.takerIn K C name = some none) (hh:PySem.W.hasDictIn K C = true)
  (hw:PySem.Within mA ns) (hsz:ns.length ≤ sizeLine)
  (h:∀ h',pD h' x dx C (fun y=>if y = name then some v else mA y) → Heap.SameBut dx s.heap h' → Q () { s with heap:=h',toks:=s.toks + 2 }) :
  wpAny (model prog w) A (setAttr (.ref x) name v) Q E s:=by
 obtain ⟨od,J,hl⟩:=I.look
 refine PySem.W.set_plain X J hs (PySem.W.osa_open (s:={ s with toks:=s.toks + 1 }) (r:=none) X J hp ht fun b=>?_)
 obtain ⟨cd,hc,hd'⟩:=PySem.W.any_some hh
 have hx:s.heap.get? x = some ⟨.ref C,some dx,.plain,#[]⟩:=I.obj
 refine wpAny_bind (wpAny_pure (wpAny_bind (wpAny_bind (wpAny_loadPart hx (wpAny_bind (PySem.W.Looks.here (s:={ s with toks:=s.toks + 1 }) (PySem.W.looks_clsIn X hc) ?_))))))
 rw [hd']
 refine wpAny_pure (a:=some dx) (wpAny_bind (wpAny_pure (wpAny_bind ?_)))
 refine wpAny_nsSet1 (s:={ s with toks:=s.toks + 1 }) I.ns fun h' hn2 hs2=>?_
 obtain ⟨oD,esD,epD,hoD,hdD,hcD⟩:=hn2.count (PySem.Within.cons name v hw)
 refine wpAny_bind (wpAny_lookBehind hoD (by rw [hdD]; exact pastItsLine_dict (Nat.le_trans hcD (by rw [List.length_cons]; omega))) ?_)
 exact wpAny_pure (h _ ⟨(hs2.2 _ (Ne.symm I.ne)).trans I.obj,hn2,I.ne⟩ hs2)
theorem nR {R:Result → Shared → Prop} {vs:List Value} {kw:List (Str × Value)} (X:K.In s.heap) (hm:PySem.W.makesIn K C = true)
  (hi:PySem.W.findIn K (.ref C) "__init__" = some (some (.ref f))) (hf:PySem.W.typeIn K (.ref f) = some (.type "function"))
  (h:codeAny (model prog w) (A.under (.builtin "type.__call__" ⟨.ref C :: vs,kw⟩)) (.call (.ref f) ⟨.ref (s.heap.objs.size + 1) :: vs,kw⟩) (PySem.W.InitBack (s.heap.objs.size + 1) R)
   { s with heap:=(s.heap.push PySem.W.emptyDict).push (PySem.W.instObj C s.heap.objs.size) }) :
  codeAny (model prog w) A (.call (.ref C) ⟨vs,kw⟩) R s:=by
 obtain ⟨hh,g,d,t,os⟩:=s
 exact PySem.W.make_core (PySem.W.makes_of X hm) (PySem.W.looks_findIn X hi) (fun self=>PySem.W.bind_fn X self hf) (.inl rfl) h
end
def e6 (f:Str) (v:V):List (Str × V) → List (Str × V)
 | []=>[(f,v)]
 | (g,x) :: r=>if g = f then (g,v) :: r else (g,x) :: e6 f v r
theorem jU (f g:Str) (v:V):∀ fs:List (Str × V),(e6 f v fs).lookup g = if g = f then some v else fs.lookup g
 | []=>by
  show List.lookup g [(f,v)] = _
  by_cases h:g = f
  ·have hb:(g == f) = true:=beq_iff_eq.mpr h
   simp only [List.lookup,hb,if_pos h]
  ·have hb:(g == f) = false:=beq_eq_false_iff_ne.mpr h
   simp only [List.lookup,hb,if_neg h]
 | (k,x) :: r=>by
  have ih:=jU f g v r
  rw [show e6 f v ((k,x) :: r) = (if k = f then (k,v) :: r else (k,x) :: e6 f v r) from rfl]
  by_cases hk:k = f
  ·rw [if_pos hk]
   by_cases h:g = k
   ·have hb:(g == k) = true:=beq_iff_eq.mpr h
    simp only [List.lookup,hb,if_pos (h.trans hk)]
   ·have hb:(g == k) = false:=beq_eq_false_iff_ne.mpr h
    simp only [List.lookup,hb,if_neg (fun e:g = f=>h (e.trans hk.symm))]
  ·rw [if_neg hk]
   by_cases h:g = k
   ·have hb:(g == k) = true:=beq_iff_eq.mpr h
    simp only [List.lookup,hb,if_neg (fun e:g = f=>hk (h.symm.trans e))]
   ·have hb:(g == k) = false:=beq_eq_false_iff_ne.mpr h
    simp only [List.lookup,hb]
    exact ih
theorem ip (f:Str) (v:V):∀ fs:List (Str × V),f ∈ (e6 f v fs).map (·.1) ∧ ∀ g,g ∈ fs.map (·.1) → g ∈ (e6 f v fs).map (·.1)
 | []=>⟨by simp [e6],fun g h=>by simp at h⟩
 | (k,x) :: r=>by
  obtain ⟨i1,i2⟩:=ip f v r
  rw [show e6 f v ((k,x) :: r) = (if k = f then (k,v) :: r else (k,x) :: e6 f v r) from rfl]
  by_cases hk:k = f
  ·rw [if_pos hk]
   subst hk
   exact ⟨by simp,fun g h=>by simpa using h⟩
  ·rw [if_neg hk]
   refine ⟨?_,fun g h=>?_⟩
   ·rw [List.map_cons]
    exact List.mem_cons_of_mem _ i1
   ·rw [List.map_cons] at h ⊢
    rcases List.mem_cons.mp h with e | e
    ·exact List.mem_cons.mpr (.inl e)
    ·exact List.mem_cons_of_mem _ (i2 g e)
theorem jX (f:Str) (v:V):∀ fs:List (Str × V),(e6 f v fs).length ≤ fs.length + 1
 | []=>by simp [e6]
 | (k,x) :: r=>by
  have ih:=jX f v r
  rw [show e6 f v ((k,x) :: r) = (if k = f then (k,v) :: r else (k,x) :: e6 f v r) from rfl]
  by_cases hk:k = f
  ·rw [if_pos hk,List.length_cons,List.length_cons]; omega
  ·rw [if_neg hk,List.length_cons,List.length_cons]; omega
theorem eg.some_of {v:V} {o:Option Value} (r:eg (some v) o):∃ u,o = some u ∧ RelV v u:=by
 cases o with
 | none=>exact (show False from r).elim
 | some u=>exact ⟨u,rfl,r⟩
theorem eg.none_of {o:Option Value} (r:eg none o):o = none:=by
 cases o with
 | none=>rfl
 | some u=>exact (show False from r).elim
theorem lL {v:V} {u:Value} (r:RelV v u):PySem.W.handedIn u = true:=by
 cases v with
 | ax=>cases (show u = Value.none from r); rfl
 | bl b=>cases (show u = Value.bool b from r); rfl
 | int i=>obtain ⟨t,e⟩:=(show ∃ t,u = Value.int i t from r); cases e; rfl
 | str x=>obtain ⟨t,e⟩:=(show ∃ t,u = Value.str x t from r); cases e; rfl
 | byt b=>obtain ⟨t,e⟩:=(show ∃ t,u = Value.bytes b t from r); cases e; rfl
 | flt b=>obtain ⟨t,e⟩:=(show ∃ t,u = Value.float b t from r); cases e; rfl
 | ref a=>cases (show u = Value.ref a from r); rfl
 | ty n=>cases (show u = Value.type n from r); rfl
section
variable {P:Program} {w:World} {H H':Hp} {h h':Heap} {a C dx:Addr} {fs fs':List (Str × V)}
theorem j9 (hok:fF P w H h) (e:H a = some (.ins C dx fs)):∃ mA,pD h a dx C mA ∧ (∀ f,eg (fs.lookup f) (mA f)) ∧ PySem.Within mA (fs.map (·.1)) ∧ fs.length ≤ 1000 ∧ H dx = some (.own a):=by
 obtain ⟨d,z,ne,ob,mA,n,r,q⟩:=(show bX P w H h a (.ins C dx fs) from hok a _ e)
 exact ⟨mA,⟨ob,n,ne⟩,r,q,z,d⟩
end
structure oF (K:PySem.W.Frag) (C:Addr):Prop where
 pg:PySem.W.plainGet K C Str.empty = true
 hd:PySem.W.hasDictIn K C = true
 po:PySem.W.plainOver K C = true
 sa:PySem.W.findIn K (.ref C) "__setattr__" = some (some (.builtin "object.__setattr__"))
theorem oF.get {K:PySem.W.Frag} {C:Addr} (c:oF K C) (f:Str):PySem.W.plainGet K C f = true:=c.pg
def bZ (K:PySem.W.Frag) (C:Addr) (f:Str):Prop:=PySem.W.findIn K (.ref C) f = some none
theorem bZ.xp {K:PySem.W.Frag} {C:Addr} {f:Str} (n:bZ K C f):PySem.W.takerIn K C f = some none:=by
 unfold PySem.W.takerIn
 rw [show PySem.W.findIn K (.ref C) f = some none from n]
 rfl
structure Meth (K:PySem.W.Frag) (C:Addr) (m:Str) (f:Addr):Prop where
 at_:PySem.W.findIn K (.ref C) m = some (some (.ref f))
 fn:PySem.W.isFn K (.ref f) = true
 kp:PySem.W.keepIn K (.ref f) = true
section
variable {X:Cx} {pins:List (Addr × Obj)} {σ:St} {H:Hp} {s:Shared} {a C dx:Addr} {fs:List (Str × V)} {f:Str} {v:V} {A:Around} {E:Value → Shared → Prop}
theorem pJ {b:Bool} {Q:Value → Shared → Prop} (I:Inv X pins σ H s) (e:H a = some (.ins C dx fs)) (c:oF X.K C) (n:bZ X.K C f) (l:fs.lookup f = some v)
  (h:∀ u s',Inv X pins σ H s' → RelV v u → Q u s'):wpAny (model X.prog X.w) A (getAttr (.ref a) f b) Q E s:=by
 obtain ⟨mA,O,r,_,_,_⟩:=j9 I.hok e
 obtain ⟨u,hu,ru⟩:=eg.some_of (v:=v) (o:=mA f) (by rw [← l]; exact r f)
 exact get_map I.dk O (c.get f) c.hd n hu (lL ru) (h u _ (I.tok _) ru)
theorem iR {m:Str} {g:Addr} {pl:Sem Bool} {Q:Value × List Value → Shared → Prop} (I:Inv X pins σ H s) (e:H a = some (.ins C dx fs)) (c:oF X.K C) (k:Meth X.K C m g) (l:fs.lookup m = none)
  (h:Q (.ref g,[.ref a]) s):wpAny (model X.prog X.w) A (getMethod (.ref a) m pl) Q E s:=by
 obtain ⟨mA,O,r,_,_,_⟩:=j9 I.hok e
 have hn:mA m = none:=eg.none_of (by rw [← l]; exact r m)
 exact r9 I.dk O (c.get m) k.at_ k.fn hn h
theorem pK {y:V} {u:Value} {Q:Unit → Shared → Prop} (I:Inv X pins σ H s) (e:H a = some (.ins C dx fs)) (c:oF X.K C) (n:bZ X.K C f) (hl:fs.length < 1000) (ry:RelV y u)
  (h:∀ s',Inv X pins σ (upd H a (.ins C dx (e6 f y fs))) s' → Q () s'):wpAny (model X.prog X.w) A (setAttr (.ref a) f u) Q E s:=by
 obtain ⟨mA,O,r,wi,_,ho⟩:=j9 I.hok e
 have hz:(fs.map (·.1)).length ≤ sizeLine:=by rw [List.length_map,sizeLine_eq]; omega
 refine uT I.dk O c.sa c.po n.xp c.hd wi hz fun h' O' sb=>h _ ?_
 have hd:∃ o,h'.get? dx = some o:=let ⟨o,_,_,e',_⟩:=O'.ns; ⟨o,e'⟩
 refine I.write (x:=a) (e:=dx) (by rw [e]; exact True.intro) (.inr ho) (fun b q hb z=>(sb.2 b hb).trans z) hd ?_
 refine ⟨by rw [aH O.ne]; exact ho,?_,O.ne,O'.obj,_,O'.ns,fun g=>?_,fun g hg=>?_⟩
 ·have:=jX f y fs; omega
 ·show eg ((e6 f y fs).lookup g) (if g = f then some u else mA g)
  rw [jU]
  by_cases q:g = f
  ·rw [if_pos q,if_pos q]; exact ry
  ·rw [if_neg q,if_neg q]; exact r g
 ·by_cases q:g = f
  ·rw [q]; exact (ip f y fs).1
  ·refine (ip f y fs).2 g (wi g fun z=>hg ?_)
   show (if g = f then some u else mA g) = none
   rw [if_neg q]; exact z
theorem Inv.made (I:Inv X pins σ H s):Inv X pins σ (upd (upd H s.heap.objs.size (.own (s.heap.objs.size + 1))) (s.heap.objs.size + 1) (.ins C s.heap.objs.size []))
  { s with heap:=(s.heap.push PySem.W.emptyDict).push (PySem.W.instObj C s.heap.objs.size) }:=by
 have e1:(s.heap.push PySem.W.emptyDict).get? s.heap.objs.size = some PySem.W.emptyDict:=Heap.get?_push_size s.heap rfl
 have e2:((s.heap.push PySem.W.emptyDict).push (PySem.W.instObj C s.heap.objs.size)).get? (s.heap.objs.size + 1) = some (PySem.W.instObj C s.heap.objs.size):=by
  have:=Heap.get?_push_size (s.heap.push PySem.W.emptyDict) (o:=PySem.W.instObj C s.heap.objs.size) rfl
  rwa [Heap.size_push] at this
 have e3:(s.heap.push PySem.W.emptyDict).Ns s.heap.objs.size (fun _=>none):=⟨PySem.W.emptyDict,#[],_,e1,rfl,(fun e he=>absurd he (by simp)),fun _=>rfl⟩
 have I1:=I.laid (a:=s.heap.objs.size) (o:=.own (s.heap.objs.size + 1)) (h':=s.heap.push PySem.W.emptyDict) (t':=s.toks) (fun b u q=>Heap.get?_push_of_some _ q) (Nat.le_refl _) ⟨_,e1⟩
 refine I1.laid (a:=s.heap.objs.size + 1) (o:=.ins C s.heap.objs.size []) (t':=s.toks) (fun b u q=>Heap.get?_push_of_some _ q) (Nat.le_of_eq (Heap.size_push _ _)) ?_
 have ne:s.heap.objs.size ≠ s.heap.objs.size + 1:=Nat.ne_of_lt (Nat.lt_succ_self _)
 refine ⟨by rw [aH ne,aC],Nat.zero_le _,ne,e2,fun _=>none,(Heap.Ns1.of_empty e3).at fun o q=>Heap.get?_push_of_some _ q,fun _=>True.intro,fun y hy=>absurd rfl hy⟩
theorem qD {prog:Program} {w:World} {env:Env} {e:Expr} {f:Str} {pos:Pos} {s:Shared} {Q:Value → Shared → Prop} (hb:attributeBase e f env (eval e env) = eval e env)
  (h:wpAny (model prog w) A (eval e env) (fun o s₁=>wpAny (model prog w) A (getAttr o f true) Q E s₁) E s):wpAny (model prog w) A (eval (.Attribute e f pos) env) Q E s :=
 Attribute_any_ h (by rw [arm_eval_Attribute,hb])
end
def zH (K:PySem.W.Frag) (ta:TE) (f:Str):TE:=fun σ H Q=>ta σ H fun x H1=>∃ a C dx fs v,x = .ref a ∧ H1 a = some (.ins C dx fs) ∧ oF K C ∧ bZ K C f ∧ fs.lookup f = some v ∧ Q v H1
def yt (K:PySem.W.Frag) (ta tv:TE) (f:Str):TS:=fun D σ H=>tv σ H fun y H1=>ta σ H1 fun x H2=>∃ a C dx fs,x = .ref a ∧ H2 a = some (.ins C dx fs) ∧ oF K C ∧ bZ K C f ∧ fs.length < 1000 ∧
 D.nx σ (upd H2 a (.ins C dx (e6 f y fs)))
section
variable {X:Cx} {o e value:Expr} {f:Str} {pos pos' tpos:Pos} {ta tv:TE}
theorem ah (he:PE X e ta) (hb:attributeBase e f X.env (eval e X.env) = eval e X.env):PE X (.Attribute e f pos) (zH X.K ta f):=by
 unfold PE at *
 exact by
  intro pins s σ H Q I h
  refine qD hb (bQ (he pins s σ H _ I h) fun u s1 ⟨x,H1,I1,rx,a,C,dx,fs,v,ex,ea,c,n,l,q⟩=>?_)
  subst ex
  obtain rfl:u = Value.ref a:=rx
  exact pJ I1 ea c n l fun u' s2 I2 ru=>⟨v,H1,I2,ru,q⟩
theorem cJ (ha:PE X o ta) (hv:PE X value tv) (hs:swapsWith value (some (.Attribute o f pos')) pos.line X.env = pure false):PS X (.Assign [.Attribute o f pos'] value pos) (yt X.K ta tv f):=by
 unfold PE at *; unfold PS at *
 exact by
  intro pins s σ H D I h
  refine plainObj_wpAny_Assign_Attribute (bQ (hv pins s σ H _ I h) fun u s1 ⟨y,H1,I1,ry,q⟩=>bQ (ha pins s1 σ H1 _ I1 q) fun ov s2 ⟨x,H2,I2,rx,a,C,dx,fs,ex,ea,c,n,l,q2⟩=>?_) hs
  subst ex
  obtain rfl:ov = Value.ref a:=rx
  exact pK I2 ea c n l ry fun s3 I3=>⟨σ,_,I3,q2⟩
end
section
variable {X:Cx} {pins:List (Addr × Obj)} {σ:St} {H:Hp} {s:Shared} {A:Around} {E:Value → Shared → Prop} {Q:Value → Shared → Prop} {c:Value} {b:Bool}
inductive dZ (K:PySem.W.Frag) (H:Hp):V → Value → Prop where
 | ax:dZ K H .ax (.type "NoneType")
 | bl (x:Bool):dZ K H (.bl x) (.type "bool")
 | int (i:Int):dZ K H (.int i) (.type "int")
 | str (x:Str):dZ K H (.str x) (.type "str")
 | flt (x:UInt64):dZ K H (.flt x) (.type "float")
 | lst {a:Addr} {xs:List V} (e:H a = some (.lst xs)):dZ K H (.ref a) (.type "list")
 | frz {a:Addr} {o:Obj} {xs:List V} (e:H a = some (.frz o (.lst xs))):dZ K H (.ref a) (.type "list")
 | tup {a:Addr} {xs:List V} (e:H a = some (.tup xs)):dZ K H (.ref a) (.type "tuple")
 | dK {a:Addr} {kvs:List (Key × V)} (e:H a = some (.dK kvs)):dZ K H (.ref a) (.type "dict")
 | dT {a:Addr} {kvs:List (List Key × V)} (e:H a = some (.dT kvs)):dZ K H (.ref a) (.type "dict")
 | ins {a C dx:Addr} {fs:List (Str × V)} (e:H a = some (.ins C dx fs)) (cl:oF K C) (ha:PySem.W.findIn K (.ref C) "__class__" = some (some (.builtin "object.__class__")))
   (hn:PySem.W.specialIn K (.builtin "object.__class__") "__get__" = some (some (.builtin "getset_descriptor.__get__"))) (htk:PySem.W.takesIn K (.builtin "object.__class__") = some true)
   (hm:PySem.W.mroIn K C (.type "object") = some true):dZ K H (.ref a) (.ref C)
theorem qL {x:V} {u t:Value} (I:Inv X pins σ H s) (rx:RelV x u) (ty:dZ X.K H x t) (e:PySem.W.kitOne X.K t c = some b) (h:∀ tk,Q (.bool b) { s with toks:=tk }) :
  wpAny (model X.prog X.w) A (call (.builtin "isinstance") [u,c]) Q E s:=by
 cases ty with
 | ax=>cases (show u = Value.none from rx); exact PySem.W.kia_one PySem.W.kitx_none I.dk True.intro e (fun z=>nomatch z) h
 | bl y=>cases (show u = Value.bool y from rx); exact PySem.W.kia_one PySem.W.kitx_bool I.dk True.intro e (fun z=>nomatch z) h
 | int i=>obtain ⟨t,q⟩:=(show ∃ t,u = Value.int i t from rx); cases q; exact PySem.W.kia_one PySem.W.kitx_int I.dk True.intro e (fun z=>nomatch z) h
 | str y=>obtain ⟨t,q⟩:=(show ∃ t,u = Value.str y t from rx); cases q; exact PySem.W.kia_one PySem.W.kitx_str I.dk True.intro e (fun z=>nomatch z) h
 | flt y=>obtain ⟨t,q⟩:=(show ∃ t,u = Value.float y t from rx); cases q; exact PySem.W.kia_one PySem.W.kitx_float I.dk True.intro e (fun z=>nomatch z) h
 | @lst a xs ea =>
  cases (show u = Value.ref a from rx)
  obtain ⟨_,_,n,_,h1⟩:=(show bX X.prog X.w H s.heap a (.lst xs) from I.hok a _ ea)
  exact PySem.W.kia_one PySem.W.kitx_list I.dk ⟨_,h1,rfl⟩ e (fun z=>nomatch z) h
 | @frz a ob xs ea =>
  cases (show u = Value.ref a from rx)
  obtain ⟨_,_,_,n,_,h1⟩:=(show bX X.prog X.w H s.heap a (.frz ob (.lst xs)) from I.hok a _ ea)
  exact PySem.W.kia_one PySem.W.kitx_list I.dk ⟨_,h1,rfl⟩ e (fun z=>nomatch z) h
 | @tup a xs ea =>
  cases (show u = Value.ref a from rx)
  obtain ⟨_,_,_,p⟩:=(show bX X.prog X.w H s.heap a (.tup xs) from I.hok a _ ea)
  obtain ⟨o,h1,h2,_⟩:=p
  exact PySem.W.kia_one PySem.W.kitx_tuple I.dk ⟨o,h1,h2⟩ e (fun z=>nomatch z) h
 | @dK a kvs ea =>
  cases (show u = Value.ref a from rx)
  obtain ⟨_,_,vs,_,p⟩:=(show bX X.prog X.w H s.heap a (.dK kvs) from I.hok a _ ea)
  obtain ⟨o,es,ep,h1,h2,_⟩:=p
  exact PySem.W.kia_one PySem.W.kitx_dict I.dk ⟨o,h1,h2.1⟩ e (fun z=>nomatch z) h
 | @dT a kvs ea =>
  cases (show u = Value.ref a from rx)
  obtain ⟨_,_,xs,_,o,es,ep,h1,h2,_⟩:=(show bX X.prog X.w H s.heap a (.dT kvs) from I.hok a _ ea)
  exact PySem.W.kia_one PySem.W.kitx_dict I.dk ⟨o,h1,h2.1⟩ e (fun z=>nomatch z) h
 | @ins a C dx fs ea cl ha hn htk hm =>
  cases (show u = Value.ref a from rx)
  obtain ⟨mA,O,_⟩:=j9 I.hok ea
  obtain ⟨od,J,_⟩:=O.look
  exact PySem.W.kia_one (PySem.W.kitx_own (cl.get _) cl.hd ha hn htk hm) I.dk J e (fun z=>nomatch z) h
end
end L2
namespace L2
open PySem PySem.Spec PyProof.Rows
structure bx (k:Nat) (A:Around):Prop where
 hd:A.handled = none
 dp:A.depth + 3 * k + 5 < recursionLimit
 un:A.units + 16 * k + 200 < cLine
theorem bx.mono {j k:Nat} {A:Around} (r:bx k A) (h:j ≤ k):bx j A:=⟨r.hd,by have:=r.dp; omega,by have:=r.un; omega⟩
theorem bx.deeper {k:Nat} {A:Around} (r:bx (k + 1) A) (env:Env):bx k (A.deeper env) :=
 ⟨r.hd,by have:=r.dp; show A.depth + 1 + 3 * k + 5 < _; omega,by have:=r.un; show A.units + 3 + 16 * k + 200 < _; omega⟩
theorem bx.in1 {k:Nat} {A:Around} (r:bx (k + 1) A):bx k A.in1 :=
 ⟨r.hd,by have:=r.dp; show A.depth + 3 * k + 5 < _; omega,by have:=r.un; show A.units + 1 + 16 * k + 200 < _; omega⟩
theorem oQ {A:Around} {C:Addr} {us:List Value} {kw:List (Str × Value)}:(A.under (.builtin "type.__call__" ⟨.ref C :: us,kw⟩)).depth = A.depth + 1:=by
 first | rfl | simp [Around.under,Code.weight,Code.isCreation,Code.isGuard,Code.isCaller,Code.frames,Code.isFrame,guardIds]
theorem pE {A:Around} {C:Addr} {us:List Value} {kw:List (Str × Value)}:(A.under (.builtin "type.__call__" ⟨.ref C :: us,kw⟩)).units = A.units + 1:=by
 first | rfl | simp [Around.under,Code.cUnits,Code.frames,Code.isFrame]
theorem bx.make {k:Nat} {A:Around} (r:bx (k + 1) A) (C:Addr) (us:List Value) (kw:List (Str × Value)):bx k (A.under (.builtin "type.__call__" ⟨.ref C :: us,kw⟩)) :=
 ⟨r.hd,by have:=r.dp; rw [oQ]; omega,by have:=r.un; rw [pE]; omega⟩
theorem bx.depth {k:Nat} {A:Around} (r:bx k A):A.depth < recursionLimit:=by have:=r.dp; omega
theorem bx.units {k:Nat} {A:Around} (r:bx k A):A.units + 64 < cLine:=by have:=r.un; omega
theorem bx.vt {k:Nat} {A:Around} (r:bx k A):A.units < cLine:=by have:=r.un; omega
def uE:TA:=fun _ H Q=>Q [] H
def vh (ta:TE) (tr:TA):TA:=fun σ H Q=>ta σ H fun x H1=>tr σ H1 fun xs H2=>Q (x :: xs) H2
section
variable {X:Cx} {e:Expr} {es:List Expr} {te:TE} {t:TA} {pos:Pos}
theorem aD:PA X [] uE:=by
 first
 | exact (fun _ _ _ _ H Q I h=>Calls.spliced_nil ⟨[],H,I,.nil,h⟩)
 | (unfold PA at *; exact (fun _ _ _ _ H Q I h=>Calls.spliced_nil ⟨[],H,I,.nil,h⟩))
theorem aA (ha:PE X e te) (hr:PA X es t) (hs:starEach (e :: es) X.env = (false,eval e X.env) :: starEach es X.env:=by rfl):PA X (e :: es) (vh te t):=by
 unfold PE at *; unfold PA at *
 exact by
  intro pos pins s σ H Q I h
  rw [hs]
  show wpAny _ _ (spliced ((false,eval e X.env) :: backTo pos (starEach es X.env))) _ _ s
  refine Calls.spliced_cons (bQ (ha pins s σ H _ I h) fun u s1 ⟨x,H1,I1,r1,q1⟩=>?_)
  exact bQ (hr pos pins s1 σ H1 _ I1 q1) fun us s2 ⟨xs,H2,I2,r2,q2⟩=>⟨x :: xs,H2,I2,.cons r1 r2,q2⟩
def zA (t:TA):TE:=fun σ H Q=>t σ H fun xs H1=>xs.length ≤ sizeLine ∧ ∀ p,H1 p = none → Q (.ref p) (upd H1 p (.tup xs))
def yw (t:TA):TE:=fun σ H Q=>t σ H fun xs H1=>xs.length ≤ sizeLine ∧ ∀ p,H1 p = none → Q (.ref p) (upd H1 p (.lst xs))
theorem fB {x1} (h:PA X es t):PE X (.Tuple es x1 pos) (zA t):=by
 unfold PE at *; unfold PA at *
 exact by
  intro pins s σ H Q I hq
  refine wpAny_Tuple_spliced (bQ (h pos pins s σ H _ I hq) fun us s1 ⟨xs,H1,I1,r,z,q⟩=>⟨by rw [← r.length]; exact z,?_⟩)
  have hf:H1 s1.heap.objs.size = none:=I1.hok.fresh (Nat.le_refl _)
  refine ⟨.ref s1.heap.objs.size,upd H1 s1.heap.objs.size (.tup xs),I1.laid (t':=s1.toks) (fun b u e=>Heap.get?_push_of_some _ e) (Nat.le_refl _) ?_,rfl,q _ hf⟩
  exact ⟨z,us,r,⟨_,Heap.get?_push_size _ rfl,rfl,_,rfl⟩⟩
theorem az (h:PA X es t):PE X (.List es pos) (yw t):=by
 unfold PE at *; unfold PA at *
 exact by
  intro pins s σ H Q I hq
  refine wpAny_List_spliced (bQ (h pos pins s σ H _ I hq) fun us s1 ⟨xs,H1,I1,r,z,q⟩=>⟨by rw [← r.length]; exact z,?_⟩)
  have hf:H1 s1.heap.objs.size = none:=I1.hok.fresh (Nat.le_refl _)
  refine ⟨.ref s1.heap.objs.size,upd H1 s1.heap.objs.size (.lst xs),I1.laid (t':=s1.toks) (fun b u e=>Heap.get?_push_of_some _ e) (Nat.le_refl _) ?_,rfl,q _ hf⟩
  exact ⟨z,us,0,r,Heap.get?_push_size _ rfl⟩
end
abbrev Sp:=List V → Hp → VK → XK → Prop
abbrev ja:=List Env → Hp → Shared → XK → Value → Shared → Prop
structure j2 (P:Program) (w:World) (K:PySem.W.Frag) (mg:Str → Option Value) (base:Heap) (A:Around) (outer:List Env) (s:Shared) (H:Hp):Prop where
 frames:A.frames = some outer
 mod:Mod K mg base
 bs:∀ b o,base.get? b = some o → s.heap.get? b = some o ∧ H b = none
 bsz:base.objs.size ≤ s.heap.objs.size
 gN:s.heap.FunFrames base outer
 frf:∀ b ∈ fM outer,H b = none
 hok:fF P w H s.heap
 bare:AllBare s.gens
def CE (outer:List Env) (P:Program) (w:World) (H:Hp) (s:Shared) (Q:VK) (u:Value) (s':Shared):Prop :=
 ∃ v H',s'.os = s.os ∧ AllBare s'.gens ∧ Un (fM outer) [] H H' s.heap s'.heap ∧ fF P w H' s'.heap ∧ RelV v u ∧ Q v H'
def CR (CX:ja) (outer:List Env) (P:Program) (w:World) (H:Hp) (s:Shared) (Q:VK) (E:XK) (r:Result) (s':Shared):Prop :=
 match r with
 | .ok (.ret u)=>CE outer P w H s Q u s'
 | .ok _=>False
 | .error e=>CX outer H s E e s'
structure aw (P:Program) (w:World) (K:PySem.W.Frag) (mg:Str → Option Value) (base:Heap) (CX:ja) (k:Nat) (f:Addr) (fd:FuncData) (ps:List Str) (sp:Sp):Prop where
 len:∀ vs H Q E,sp vs H Q E → vs.length = ps.length
 run:∀ (A:Around) (outer:List Env) (s:Shared) (H:Hp) (args:Args) (us:List Value) (vs:List V) (Q:VK) (E:XK),bx k A → j2 P w K mg base A outer s H → BindsTo s fd args (ps.zip us) → Vals vs us → sp vs H Q E →
  codeAny (model P w) A (.call (.ref f) args) (CR CX outer P w H s Q E) s
theorem aw.mono {P:Program} {w:World} {K:PySem.W.Frag} {mg:Str → Option Value} {base:Heap} {CX:ja} {j k:Nat} {f:Addr} {fd:FuncData} {ps:List Str} {sp:Sp} (F:aw P w K mg base CX j f fd ps sp) (h:j ≤ k) :
  aw P w K mg base CX k f fd ps sp:=⟨F.len,fun A outer s H args us vs Q E hr=>F.run A outer s H args us vs Q E (hr.mono h)⟩
theorem aw.imp {P:Program} {w:World} {K:PySem.W.Frag} {mg:Str → Option Value} {base:Heap} {CX:ja} {k:Nat} {f:Addr} {fd:FuncData} {ps:List Str} {sp sp':Sp} (F:aw P w K mg base CX k f fd ps sp)
  (h:∀ vs H Q E,sp' vs H Q E → sp vs H Q E):aw P w K mg base CX k f fd ps sp' :=
 ⟨fun vs H Q E q=>F.len vs H Q E (h _ _ _ _ q),fun A outer s H args us vs Q E hr he hb hv hs=>F.run A outer s H args us vs Q E hr he hb hv (h _ _ _ _ hs)⟩
theorem j2.make {P:Program} {w:World} {K:PySem.W.Frag} {mg:Str → Option Value} {base:Heap} {A:Around} {outer:List Env} {s:Shared} {H:Hp} (e:j2 P w K mg base A outer s H) (C:Addr) (us:List Value) (kw:List (Str × Value)) :
  j2 P w K mg base (A.under (.builtin "type.__call__" ⟨.ref C :: us,kw⟩)) outer s H:=⟨by first | exact e.frames | (simpa [Around.under,Code.envs,Code.isFrame,pushEnvs] using e.frames),e.mod,e.bs,e.bsz,e.gN,e.frf,e.hok,e.bare⟩
theorem j2.in1 {P:Program} {w:World} {K:PySem.W.Frag} {mg:Str → Option Value} {base:Heap} {A:Around} {outer:List Env} {s:Shared} {H:Hp} (e:j2 P w K mg base A outer s H) :
  j2 P w K mg base A.in1 outer s H:=⟨e.frames,e.mod,e.bs,e.bsz,e.gN,e.frf,e.hok,e.bare⟩
section
variable {X:Cx} {pins:List (Addr × Obj)} {σ:St} {H:Hp} {s s':Shared}
theorem Inv.qQ (I:Inv X pins σ H s):j2 X.prog X.w X.K X.mg X.base X.A X.stack s H :=
 ⟨I.ok.frames,I.ok.mod,I.bs,Nat.le_trans I.ok.bsz I.sz,I.stack,I.fH,I.hok,I.bare⟩
theorem Inv.after {Q:VK} {u:Value} (I:Inv X pins σ H s) (h:CE X.stack X.prog X.w H s Q u s'):EP X pins σ Q u s':=by
 obtain ⟨v,H',os,bare,un,hok,r,q⟩:=h
 obtain ⟨hh,g,d,t,os'⟩:=s'
 obtain rfl:os' = s.os:=os
 exact ⟨v,H',I.call (h':=hh) (g':=g) (d':=d) (t':=t) (ch:=[]) un hok bare (fun b z=>absurd z (by simp)),r,q⟩
end
def vM (sp:Sp) (dvs:List V) (E:XK) (t:TA):TE:=fun σ H Q=>t σ H fun vs H1=>sp (vs ++ dvs) H1 Q E
def vj (C:Addr) (m:Str) (sp:Sp) (dvs:List V) (E:XK) (ta:TE) (t:TA):TE:=fun σ H Q=>ta σ H fun x H1=>∃ a dx fs,x = .ref a ∧ H1 a = some (.ins C dx fs) ∧ fs.lookup m = none ∧
 t σ H1 fun vs H2=>sp (x :: (vs ++ dvs)) H2 Q E
def yD (C:Addr) (sp:Sp) (dvs:List V) (E:XK) (t:TA):TE:=fun σ H Q=>t σ H fun vs H1=>∀ x dx,H1 x = none → H1 dx = none → dx ≠ x →
 sp (.ref x :: (vs ++ dvs)) (upd (upd H1 dx (.own x)) x (.ins C dx [])) (fun v H2=>v = .ax ∧ Q (.ref x) H2) E
def Binds (K:PySem.W.Frag) (fd:FuncData) (ps:List Str) (ds:List Value):Prop :=
 ∀ (s:Shared) (us:List Value),K.In s.heap → (us ++ ds).length = ps.length → BindsTo s fd ⟨us,[]⟩ (ps.zip (us ++ ds))
theorem Binds.all {K:PySem.W.Frag} {fd:FuncData} {ps:List Str} (h:∀ us:List Value,us.length = ps.length → bindArgs fd ⟨us,[]⟩ = pure (ps.zip us)):Binds K fd ps []:=fun s us _ hl=>by
 rw [List.append_nil] at hl ⊢
 exact .of_eq (h us hl)
def Passes (CX:ja) (X:Cx) (E:XK):Prop:=∀ (pins:List (Addr × Obj)) (σ:St) (H:Hp) (s:Shared) (e:Value) (s':Shared),Inv X pins σ H s → CX X.stack H s E e s' → X.xe e s'
section
variable {X:Cx} {CX:ja} {k:Nat} {f C:Addr} {fd:FuncData} {ps:List Str} {sp:Sp} {dvs:List V} {ds:List Value} {E:XK} {x m:Str} {p pos apos:Pos} {e o:Expr} {es:List Expr} {ta:TE} {t:TA}
theorem ot {pins:List (Addr × Obj)} {σ:St} {H:Hp} {s:Shared} {Q:VK} {us:List Value} {vs:List V} (F:aw X.prog X.w X.K X.mg X.base CX k f fd ps sp) (hr:bx k X.A) (hb:Binds X.K fd ps ds) (hd:Vals dvs ds) (hx:Passes CX X E)
  (I:Inv X pins σ H s) (r:Vals vs us) (h:sp (vs ++ dvs) H Q E):wpAny (model X.prog X.w) X.A (call (.ref f) us) (EP X pins σ Q) X.xe s:=by
 have r2:Vals (vs ++ dvs) (us ++ ds):=r.append hd
 have hl:(us ++ ds).length = ps.length:=by rw [← r2.length]; exact F.len _ _ _ _ h
 refine wpAny_call (codeAny_mono (F.run X.A X.stack s H ⟨us,[]⟩ (us ++ ds) (vs ++ dvs) Q E hr I.qQ (hb s us I.dk hl) r2 h) fun r s' hq=>?_)
 cases r with
 | error e=>exact hx pins σ H s e s' I hq
 | ok fl =>
  cases fl with
  | ret u=>exact I.after hq
  | next=>exact False.elim hq
  | brk=>exact False.elim hq
  | cont=>exact False.elim hq
theorem ag (F:aw X.prog X.w X.K X.mg X.base CX k f fd ps sp) (hr:bx k X.A) (hg:Gl X x) (hm:X.mg x = some (.ref f)) (hk:PySem.W.keepIn X.K (.ref f) = true) (hb:Binds X.K fd ps ds) (hd:Vals dvs ds) (hx:Passes CX X E)
  (ha:PA X (e :: es) t) (hdb:(x == ("__debug__" : Str)) = false:=by decide) (he:starEach (e :: es) X.env = (false,eval e X.env) :: starEach es X.env:=by rfl) (hpl:(backTo pos (starEach es X.env)).any (·.1) = false:=by rfl) :
  PE X (.Call (.Name x p) (e :: es) [] pos) (vM sp dvs E t):=by
 unfold PE at *; unfold PA at *
 exact by
  intro pins s σ H Q I h
  refine wpAny_Call_Name_kw (dS I hg hm ?_ hdb)
  refine PySem.W.callWith_K (h₀:=X.base) I.ok.mod.kin hk (bQ (ha pos pins s σ H _ I h) fun us s1 ⟨vs,H1,I1,r,q⟩=>⟨I1.dk,?_⟩) he hpl
  exact ot F hr hb hd hx I1 r q
theorem mW {pl:Sem Bool} (he:PE X o ta) (c:oF X.K C) (hm:Meth X.K C m f) (F:aw X.prog X.w X.K X.mg X.base CX k f fd ps sp) (hr:bx k X.A) (hb:Binds X.K fd ps ds) (hd:Vals dvs ds) (hx:Passes CX X E) (ha:PA X (e :: es) t)
  (hst:starEach (e :: es) X.env = (false,eval e X.env) :: starEach es X.env:=by rfl) (hpl:(backTo pos (starEach es X.env)).any (·.1) = false:=by rfl)
  (ht:eval (.Call (.Attribute o m apos) (e :: es) [] pos) X.env = (do
   let ov ← eval o X.env
   standAt apos.atName
   let (f,first) ← holding [ov] (getMethod ov m pl)
   callWith pos f first (backTo pos (starEach (e :: es) X.env)) (backToKw pos (keywordEach [] X.env))):=by rfl) :
  PE X (.Call (.Attribute o m apos) (e :: es) [] pos) (vj C m sp dvs E ta t):=by
 unfold PE at *; unfold PA at *
 exact by
  intro pins s σ H Q I h
  refine PySem.W.methodCall_KW (pl:=pl) (bQ (he pins s σ H _ I h) fun u s1 ⟨x,H1,I1,rx,a,dx,fs,ex,ea,l,q⟩=>?_) ht
  subst ex
  obtain rfl:u = Value.ref a:=rx
  refine iR I1 ea c hm l ?_
  refine PySem.W.callWith_K (first:=[.ref a]) (h₀:=X.base) I.ok.mod.kin hm.kp (bQ (ha pos pins s1 σ H1 _ I1 q) fun us s2 ⟨vs,H2,I2,r,q2⟩=>⟨I2.dk,?_⟩) hst hpl
  exact ot (us:=.ref a :: us) (vs:=.ref a :: vs) F hr hb hd hx I2 (.cons rfl r) q2
theorem iY {pl:Sem Bool} (he:PE X o ta) (c:oF X.K C) (hm:Meth X.K C m f) (F:aw X.prog X.w X.K X.mg X.base CX k f fd ps sp) (hr:bx k X.A) (hb:Binds X.K fd ps ds) (hd:Vals dvs ds) (hx:Passes CX X E)
  (ht:eval (.Call (.Attribute o m apos) [] [] pos) X.env = (do
   let ov ← eval o X.env
   standAt apos.atName
   let (f,first) ← holding [ov] (getMethod ov m pl)
   callWith pos f first (backTo pos (starEach [] X.env)) (backToKw pos (keywordEach [] X.env))):=by rfl) :
  PE X (.Call (.Attribute o m apos) [] [] pos) (vj C m sp dvs E ta uE):=by
 unfold PE at *
 exact by
  intro pins s σ H Q I h
  refine PySem.W.methodCall_KW (pl:=pl) (bQ (he pins s σ H _ I h) fun u s1 ⟨x,H1,I1,rx,a,dx,fs,ex,ea,l,q⟩=>?_) ht
  subst ex
  obtain rfl:u = Value.ref a:=rx
  refine iR I1 ea c hm l ?_
  exact PySem.W.callWith_K0 (first:=[.ref a]) I1.dk hm.kp (ot (us:=[.ref a]) (vs:=[.ref a]) F hr hb hd hx I1 (.cons rfl .nil) q)
structure Mk (K:PySem.W.Frag) (C f:Addr):Prop where
 makes:PySem.W.makesIn K C = true
 init:PySem.W.findIn K (.ref C) "__init__" = some (some (.ref f))
 fn:PySem.W.isFn K (.ref f) = true
 kp:PySem.W.keepIn K (.ref C) = true
theorem ro {pins:List (Addr × Obj)} {σ:St} {H:Hp} {s:Shared} {Q:VK} {us:List Value} {vs:List V} (M:Mk X.K C f) (F:aw X.prog X.w X.K X.mg X.base CX k f fd ps sp) (hr:bx (k + 1) X.A) (hb:Binds X.K fd ps ds) (hd:Vals dvs ds)
  (hx:Passes CX X E) (I:Inv X pins σ H s) (r:Vals vs us)
  (h:∀ x dx,H x = none → H dx = none → dx ≠ x → sp (.ref x :: (vs ++ dvs)) (upd (upd H dx (.own x)) x (.ins C dx [])) (fun v H2=>v = .ax ∧ Q (.ref x) H2) E) :
  wpAny (model X.prog X.w) X.A (call (.ref C) us) (EP X pins σ Q) X.xe s:=by
 have hq:=h (s.heap.objs.size + 1) s.heap.objs.size (I.hok.fresh (Nat.le_succ _)) (I.hok.fresh (Nat.le_refl _)) (Nat.ne_of_lt (Nat.lt_succ_self _))
 have I2:=Inv.made (C:=C) I
 have r2:Vals (V.ref (s.heap.objs.size + 1) :: (vs ++ dvs)) (Value.ref (s.heap.objs.size + 1) :: (us ++ ds)):=.cons rfl (r.append hd)
 have hl:(Value.ref (s.heap.objs.size + 1) :: us ++ ds).length = ps.length:=by
  have e:=r2.length
  rw [F.len _ _ _ _ hq] at e
  exact e.symm
 refine wpAny_call (nR (f:=f) I.dk M.makes M.init (beq_iff_eq.mp M.fn) (codeAny_mono (F.run _ X.stack _ _ ⟨Value.ref (s.heap.objs.size + 1) :: us,[]⟩ (Value.ref (s.heap.objs.size + 1) :: (us ++ ds)) _ _ E (hr.make C us [])
  (I2.qQ.make C us []) (hb _ (Value.ref (s.heap.objs.size + 1) :: us) I2.dk hl) r2 hq) fun r s' hq'=>?_))
 cases r with
 | error e=>exact hx pins σ _ _ e s' I2 hq'
 | ok fl =>
  cases fl with
  | ret u =>
   obtain ⟨v,H',I3,rv,ev,q3⟩:=I2.after hq'
   subst ev
   exact ⟨rv,⟨V.ref (s.heap.objs.size + 1),H',I3,rfl,q3⟩⟩
  | next=>exact False.elim hq'
  | brk=>exact False.elim hq'
  | cont=>exact False.elim hq'
theorem nH (M:Mk X.K C f) (F:aw X.prog X.w X.K X.mg X.base CX k f fd ps sp) (hr:bx (k + 1) X.A) (hg:Gl X x) (hm:X.mg x = some (.ref C)) (hb:Binds X.K fd ps ds) (hd:Vals dvs ds) (hx:Passes CX X E)
  (hdb:(x == ("__debug__" : Str)) = false:=by decide):PE X (.Call (.Name x p) [] [] pos) (yD C sp dvs E uE):=by
 unfold PE at *
 exact by
  intro pins s σ H Q I h
  refine wpAny_Call_Name_kw (dS I hg hm ?_ hdb)
  exact PySem.W.callWith_K0 I.dk M.kp (ro (us:=[]) M F hr hb hd hx I .nil h)
end
@[irreducible] def PK (X:Cx) (kws:List Keyword) (t:TA):Prop :=
 ∀ (pos:Pos) (pins:List (Addr × Obj)) (s:Shared) (σ:St) (H:Hp) (Q:List V → Hp → Prop),Inv X pins σ H s → t σ H Q → wpAny (model X.prog X.w) X.A (evalAll ((backToKw pos (keywordEach kws X.env)).map (·.2))) (AP X pins σ Q) X.xe s
section
variable {X:Cx} {CX:ja} {k:Nat} {f C:Addr} {fd:FuncData} {ps ks:List Str} {sp:Sp} {E:XK} {x m:Str} {p pos apos kpos:Pos} {e o:Expr} {es:List Expr} {kws:List Keyword} {te ta:TE} {t tk:TA} {nm:Option Str}
theorem jL:PK X [] uE:=by
 first
 | exact (fun _ _ _ _ H Q I h=>wpAny_evalAll_nil ⟨[],H,I,.nil,h⟩)
 | (unfold PK at *; exact (fun _ _ _ _ H Q I h=>wpAny_evalAll_nil ⟨[],H,I,.nil,h⟩))
theorem ui (ha:PE X e te) (hr:PK X kws t):PK X (⟨nm,e,kpos⟩ :: kws) (vh te t):=by
 unfold PE at *; unfold PK at *
 exact by
  intro pos pins s σ H Q I h
  show wpAny _ _ (evalAll ((do let v ← eval e X.env; standAt pos; pure v) :: (backToKw pos (keywordEach kws X.env)).map (·.2))) _ _ s
  refine wpAny_evalAll_cons (wpAny_bind (bQ (ha pins s σ H _ I h) fun u s1 ⟨x,H1,I1,r1,q1⟩=>wpAny_bind (wpAny_standAt (wpAny_pure ?_))))
  exact bQ (hr pos pins s1 σ H1 _ I1 q1) fun us s2 ⟨xs,H2,I2,r2,q2⟩=>⟨x :: xs,H2,I2,.cons r1 r2,q2⟩
variable {g:List Value → List Value → List Value} {gV:List V → List V → List V}
end
structure aU (N P:List Str) (sc:Scope):Prop where
 kind:sc.kind = .function
 co:sc.isCoroutine = false
 gen:sc.isGenerator = false
 nd:N.Nodup
 pre:N.take P.length = P
 par:∀ x ∈ P,sc.names.lookup x = some .local ∨ sc.names.lookup x = some .cell
 nofree:∀ y ∈ sc.names,y.2 ≠ .free
theorem lS {kindOf:Str → Option NameKind} {x:Str}:∀ {binds:List (Str × Value)} {m:Str → Option Value},(∀ v,(x,v) ∉ binds) → bindL kindOf binds m x = m x
 | [],_,_=>rfl
 | (n,v) :: r,m,h=>by
  unfold bindL
  rw [lS fun w hw=>h w (List.mem_cons_of_mem _ hw)]
  split
  ·have:x ≠ n:=by rintro rfl; exact h v List.mem_cons_self
   simp [this]
  ·rfl
theorem lG {kindOf:Str → Option NameKind} {x:Str}:∀ {binds:List (Str × Value)} {m:Str → Option Value},(∀ v,(x,v) ∉ binds) → bindC kindOf binds m x = m x
 | [],_,_=>rfl
 | (n,v) :: r,m,h=>by
  unfold bindC
  rw [lG fun w hw=>h w (List.mem_cons_of_mem _ hw)]
  split
  ·rfl
  ·have:x ≠ n:=by rintro rfl; exact h v List.mem_cons_self
   simp [this]
theorem iy {kindOf:Str → Option NameKind} {x:Str} {v:Value}:∀ {P:List Str} {vs:List Value} {i:Nat} {m:Str → Option Value},P.Nodup → P[i]? = some x → vs[i]? = some v → kindOf x = some .local →
  bindL kindOf (P.zip vs) m x = some v
 | [],_,_,_,_,h,_,_=>by simp at h
 | _ :: _,[],_,_,_,_,h,_=>by simp at h
 | p :: P,w :: vs,0,m,nd,h1,h2,hk=>by
  simp at h1 h2; subst h1; subst h2
  show bindL kindOf ((p,w) :: P.zip vs) m p = _
  unfold bindL
  rw [lS fun v hv=>(List.nodup_cons.mp nd).1 (List.of_mem_zip hv).1,if_pos hk]
  simp
 | p :: P,w :: vs,i + 1,m,nd,h1,h2,hk=>by
  show bindL kindOf ((p,w) :: P.zip vs) m x = _
  unfold bindL
  exact iy (i:=i) (List.nodup_cons.mp nd).2 (by simpa using h1) (by simpa using h2) hk
theorem jC {kindOf:Str → Option NameKind} {x:Str} {v:Value}:∀ {P:List Str} {vs:List Value} {i:Nat} {m:Str → Option Value},P.Nodup → P[i]? = some x → vs[i]? = some v → kindOf x ≠ some .local →
  bindC kindOf (P.zip vs) m x = some v
 | [],_,_,_,_,h,_,_=>by simp at h
 | _ :: _,[],_,_,_,_,h,_=>by simp at h
 | p :: P,w :: vs,0,m,nd,h1,h2,hk=>by
  simp at h1 h2; subst h1; subst h2
  show bindC kindOf ((p,w) :: P.zip vs) m p = _
  unfold bindC
  rw [lG fun v hv=>(List.nodup_cons.mp nd).1 (List.of_mem_zip hv).1,if_neg hk]
  simp
 | p :: P,w :: vs,i + 1,m,nd,h1,h2,hk=>by
  show bindC kindOf ((p,w) :: P.zip vs) m x = _
  unfold bindC
  exact jC (i:=i) (List.nodup_cons.mp nd).2 (by simpa using h1) (by simpa using h2) hk
def start (N:List Str) (vs:List V):St:=vs.map some ++ List.replicate (N.length - vs.length) none
def kI (CX:ja) (P:Program) (w:World) (K:PySem.W.Frag) (mg:Str → Option Value) (base:Heap) (N:List Str) (qual:Str) (scope:Scope) (f:Addr) (cd:Value) (A:Around) (outer:List Env) (s:Shared) (H:Hp) (E:XK):Cx where
 prog:=P
 w:=w
 K:=K
 mg:=mg
 base:=base
 A:=A.deeper (envOfC qual scope s.heap.objs.size f cd)
 N:=N
 s₀:=s
 H₀:=H
 env:=envOfC qual scope s.heap.objs.size f cd
 outer:=outer
 stack:=envOfC qual scope s.heap.objs.size f cd :: outer
 ex:=[]
 calm:=true
 fn:=fun _=>true
 pn:=[]
 xe:=fun e s'=>wpAny (model P w) (A.deeper (envOfC qual scope s.heap.objs.size f cd)) (leaving (envOfC qual scope s.heap.objs.size f cd) e) (fun _ s''=>CX outer H s E e s'') (fun e' s''=>CX outer H s E e' s'') s'
theorem iU {sc:Scope} {n:Nat} {x:Str} (h:sc.names.lookup x = some .cell):∃ c,(cellsFrom n sc.names []).lookup x = some c:=by
 have q:=PySem.W.cellsFrom_some sc.names n [] (.inl h)
 exact Option.isSome_iff_exists.mp q
theorem qh {CX:ja} {P:Program} {w:World} {K:PySem.W.Frag} {mg:Str → Option Value} {base:Heap} {N ps:List Str} {qual:Str} {scope:Scope} {f:Addr} {cd:Value} {A:Around} {outer:List Env} {s s1:Shared} {H:Hp} {E:XK} {us:List Value} {vs:List V}
  (S:aU N ps scope) (hd:A.handled = none) (e0:j2 P w K mg base A outer s H) (hl:vs.length = ps.length) (r:Vals vs us)
  (x:InCallC s s.heap.objs.size (bindL (envOfC qual scope s.heap.objs.size f cd).kindOf (ps.zip us) fun _=>none) (cellsFrom (s.heap.objs.size + 1) scope.names []) (bindC (envOfC qual scope s.heap.objs.size f cd).kindOf (ps.zip us) fun _=>none) s1) :
  Inv (kI CX P w K mg base N qual scope f cd A outer s H E) [] (start N vs) H s1:=by
 have hpl:ps.length ≤ N.length:=by have:=congrArg List.length S.pre; rw [List.length_take] at this; omega
 obtain ⟨h1,tk,rfl,hk⟩:=x.done
 have noA:∀ b:Addr,b ∉ (kI CX P w K mg base N qual scope f cd A outer s H E).ex:=fun b z=>absurd (show b ∈ ([]:List Addr) from z) (by simp)
 refine ⟨⟨e0.mod,S.kind,rfl,rfl,Nat.le_refl _,fun y z c h1 h2=>?_,fun y hy=>?_,fun y c _ h=>?_,fun _=>hd,Around.frames_deeper e0.frames,.inr ⟨rfl,rfl⟩,fun b z=>absurd z (noA b),e0.bs,e0.bsz,fun b _ _=>noA b,fun b z=>absurd z (noA b),e0.gN,e0.frf⟩,
  rfl,e0.bare,Un.kept hk,⟨_,x.toInCall.ns,fun i y v h1 h2 h3=>?_⟩,fun y c h=>⟨_,x.cell y c h⟩,e0.hok.fresh (Nat.le_refl _),fun y c h=>?_,fun p hp=>absurd (show p ∈ ([]:List (Addr × Obj)) from hp) (by simp),e0.hok.kept hk,?_⟩
 ·exact name_of_addr x.apart (PySem.mem_of_lookup h1) (PySem.mem_of_lookup h2)
 ·have hy:scope.names.lookup y = some .cell ∨ scope.names.lookup y = some .free:=hy
  rcases hy with hy | hy
  ·exact iU hy
  ·exact absurd rfl (S.nofree _ (PySem.mem_of_lookup hy))
 ·exact Nat.le_of_lt (x.above y c (PySem.mem_of_lookup h))
 ·have hi:i < vs.length:=by
   unfold start at h2
   by_cases hi:i < vs.length
   ·exact hi
   ·rw [List.getElem?_append_right (by simpa using hi)] at h2
    rw [List.getElem?_replicate] at h2
    split at h2 <;> cases h2
  have ha:vs[i]? = some v:=by
   unfold start at h2
   rw [List.getElem?_append_left (by simpa using hi),List.getElem?_map] at h2
   cases e:vs[i]? with
   | none=>rw [e] at h2; cases h2
   | some a=>rw [e] at h2; cases h2; rfl
  obtain ⟨u,hu,rv⟩:=r.get ha
  have hp:ps[i]? = some y:=by
   rw [← S.pre,List.getElem?_take_of_lt (by omega)]; exact h1
  have ndP:ps.Nodup:=by rw [← S.pre]; exact S.nd.sublist (List.take_sublist _ _)
  refine ⟨u,rv,?_⟩
  rcases S.par y (List.mem_of_getElem? hp) with k | k
  ·exact .inl ⟨k,iy ndP hp hu k⟩
  ·obtain ⟨c,e⟩:=iU (n:=s.heap.objs.size + 1) k
   refine .inr ⟨.inl k,c,e,?_⟩
   have q:=x.cell y c e
   rw [jC ndP hp hu (by show scope.names.lookup y ≠ _; rw [k]; decide)] at q
   exact q
 ·exact e0.hok.fresh (Nat.le_of_lt (x.above y c (PySem.mem_of_lookup h)))
 ·unfold start
  show _ = N.length
  rw [List.length_append,List.length_map,List.length_replicate]
  omega
theorem rh {CX:ja} {P:Program} {w:World} {K:PySem.W.Frag} {mg:Str → Option Value} {base:Heap} {k:Nat} {f:Addr} {name qual:Str} {params:Arguments} {body:List Stmt} {scope:Scope} {dV kV doc pm cdv ct oc:Value} {an od:Option Addr}
  {osl:Array (Option Value)} {N ps:List Str} {sp:Sp} (lk:K.lookup f = some ⟨oc,od,.func (PySem.W.fnOf name qual params body scope dV kV doc pm an cdv ct),osl⟩) (hcd:PySem.W.codeIn K cdv qual = true) (S:aU N ps scope)
  (len:∀ vs H Q E,sp vs H Q E → vs.length = ps.length)
  (hbody:∀ (A:Around) (outer:List Env) (s:Shared) (H:Hp) (vs:List V) (Q:VK) (E:XK),bx k (A.deeper (envOfC qual scope s.heap.objs.size f cdv)) → sp vs H Q E →
   ∃ t,iD (kI CX P w K mg base N qual scope f cdv A outer s H E) body t ∧ t { nx:=fun _ H'=>Q .ax H',rt:=Q } (start N vs) H) :
  aw P w K mg base CX (k + 1) f (PySem.W.fnOf name qual params body scope dV kV doc pm an cdv ct) ps sp:=by
 unfold iD at *
 exact by
  refine ⟨len,fun A outer s H args us vs Q E hr e0 hb r hsp=>?_⟩
  have hl:=len _ _ _ _ hsp
  have KX:K.In s.heap:=e0.mod.kin.keeps fun b o e=>(e0.bs b o e).1
  have lim:s.heap.NoLimit:=e0.mod.nolimit.keeps fun b o e=>(e0.bs b o e).1
  have hkind:∀ y ∈ ps.zip us,scope.names.lookup y.1 = some .local ∨ (scope.names.lookup y.1 = some .cell ∧ ((cellsFrom (s.heap.objs.size + 1) scope.names []).lookup y.1).isSome = true):=fun ⟨n,v⟩ hy=>by
   rcases S.par n (List.of_mem_zip hy).1 with q | q
   ·exact .inl q
   ·exact .inr ⟨q,PySem.W.cellsFrom_some _ _ _ (.inl q)⟩
  refine codeAny_call_function hr.depth (KX _ _ lk) rfl S.co S.gen rfl (PySem.W.codeRec_of KX hcd) (hb _ _ _ _ ?_)
  refine wpAny_newFunctionEnv_cells S.kind hkind fun env he s1 x=>?_
  subst he
  refine ⟨lim.keeps x.toInCall.keep,codeAny_func ?_⟩
  obtain ⟨t,ht,hq⟩:=hbody A outer s H vs Q E (hr.deeper _) hsp
  have I:Inv (kI CX P w K mg base N qual scope f cdv A outer s H E) [] (start N vs) H s1:=qh S hr.hd e0 hl r x
  refine wpAny_mono (ht [] s1 (start N vs) H _ I hq) (fun fl s' hs=>?_) fun e s' hs=>hs
  have fin:∀ {σ':St} {H':Hp} {v:V} {u:Value},Inv (kI CX P w K mg base N qual scope f cdv A outer s H E) [] σ' H' s' → RelV v u → Q v H' → CE outer P w H s Q u s' :=
   fun {σ' H' v u} J rv q=>⟨v,H',J.os,J.bare,J.base,J.hok,rv,q⟩
  cases fl with
  | ret u =>
   obtain ⟨v,σ',H',J,rv,q⟩:=hs
   exact fin J rv q
  | next =>
   obtain ⟨σ',H',J,q⟩:=hs
   exact fin (v:=V.ax) (u:=Value.none) J rfl q
  | brk =>
   obtain ⟨_,_,_,q⟩:=hs
   exact False.elim q
  | cont =>
   obtain ⟨_,_,_,q⟩:=hs
   exact False.elim q
end L2
namespace L2
open PySem PySem.Spec PyProof.Rows
section
variable {X:Cx} {x:Str} {p pos:Pos} {e:Expr} {es:List Expr} {t:TA} {id T:String} {r:List V → Hp → VK → Prop}
def zY (r:List V → Hp → VK → Prop) (t:TA):TE:=fun σ H Q=>t σ H fun vs H1=>r vs H1 Q
theorem aW (hc:bc X (.builtin id) r) (hg:Gl X x) (hm:X.mg x = none) (hv:bootBuiltins x = some (.builtin id)) (ha:PA X (e :: es) t) (hn:x ≠ "__name__" := by decide) (hdb:(x == ("__debug__" : Str)) = false:=by decide)
  (he:starEach (e :: es) X.env = (false,eval e X.env) :: starEach es X.env:=by rfl) (hpl:(backTo pos (starEach es X.env)).any (·.1) = false:=by rfl):PE X (.Call (.Name x p) (e :: es) [] pos) (zY r t):=by
 unfold PE at *; unfold PA at *; unfold bc at *
 exact by
  intro pins s σ H Q I h
  refine wpAny_Call_Name_kw (iK I hg hm hv ?_ hn hdb)
  exact PyProof.Rows.callWith_builtin1 (bQ (ha pos pins s σ H _ I h) fun us s1 ⟨vs,H1,I1,r1,q1⟩=>hc pins s1 σ H1 vs us Q I1 r1 q1) he hpl
theorem ft (hc:bc X (.type T) r) (hg:Gl X x) (hm:X.mg x = none) (hv:bootBuiltins x = some (.type T)) (ha:PA X (e :: es) t) (hn:x ≠ "__name__" := by decide) (hdb:(x == ("__debug__" : Str)) = false:=by decide)
  (he:starEach (e :: es) X.env = (false,eval e X.env) :: starEach es X.env:=by rfl) (hpl:(backTo pos (starEach es X.env)).any (·.1) = false:=by rfl):PE X (.Call (.Name x p) (e :: es) [] pos) (zY r t):=by
 unfold PE at *; unfold PA at *; unfold bc at *
 exact by
  intro pins s σ H Q I h
  refine wpAny_Call_Name_kw (iK I hg hm hv ?_ hn hdb)
  exact PyProof.Rows.callWith_type1 (bQ (ha pos pins s σ H _ I h) fun us s1 ⟨vs,H1,I1,r1,q1⟩=>hc pins s1 σ H1 vs us Q I1 r1 q1) he hpl
end
end L2
namespace HT
open PySem PyProof.Rows
def lexLt:List Int → List Int → Bool
 | [],[]=>false
 | [],_ :: _=>true
 | _ :: _,[]=>false
 | x :: xs,y :: ys=>if x = y then lexLt xs ys else decide (x < y)
theorem oq (x y:Int) (xs ys:List Int):lexLt (x :: xs) (y :: ys) = if x = y then lexLt xs ys else decide (x < y):=rfl
theorem lC:lexLt [] [] = false:=rfl
theorem jx (y:Int) (ys:List Int):lexLt [] (y :: ys) = true:=rfl
theorem kD (x:Int) (xs:List Int):lexLt (x :: xs) [] = false:=rfl
theorem tJ (A:Around) (s:Shared) (a:Int) (t:Tok) (c:Int) (u:Tok):∃ e,SeqAt.EqAt A s (.int a t) (.int c u) e ∧ (e = true ↔ a = c) :=
 ⟨(a == c),SeqAt.EqAt.int_int a t c u,by simp⟩
theorem sS (A:Around) (s:Shared) (a:Int) (t:Tok) (c:Int) (u:Tok) (prog:Program) (w:World) (E:Value → Shared → Prop) (Q:Value → Shared → Prop) (h:Q (.bool (decide (a < c))) s) :
  wpAny (model prog w) A (richCompare .Lt (.int a t) (.int c u)) Q E s :=
 (PyProof.Rows.lt_int h:wpAny (model prog w) A (compareOp .Lt (.int a t) (.int c u)) Q E s)
section
open PySem.SeqAt
open PySem.AutoSeq1 (wpAny_loadPart')
open PySem.MeetsSeq PySem.MeetsSeq2 PySem.MeetsSeq3
theorem kx (l b:Addr) (items items2:Array Value) (n n2:Nat) (dd dd2:Option Addr) (sl sl2:Array (Option Value)) (ns ms:List Int) (hi:IntsAre items.toList ns) (hj:IntsAre items2.toList ms) :
  Meets (Builtin.«tuple.__lt__» ⟨[.ref l,.ref b],[]⟩)
   (fun _ R s=>s.heap.get? l = some { cls:=.type "tuple",dict:=dd,data:=.seq items n,slots:=sl } ∧ s.heap.get? b = some { cls:=.type "tuple",dict:=dd2,data:=.seq items2 n2,slots:=sl2 } ∧
    R (.ok (.ret (.bool (lexLt ns ms)))) s) :=
 .of_wp fun prog w A R s h=>by
  obtain ⟨hp,g,d,tk,os⟩:=s; obtain ⟨hl,hb,h⟩:=h
  have f2:=AutoSeq1.sub_tuple_tuple
  have z1:items.size = ns.length:=by rw [← hi.length]; simp
  have z2:items2.size = ms.length:=by rw [← hj.length]; simp
  wp_walk using wpAny_loadPart' hl,wpAny_loadPart' hb,wpAny_forIn_list _ (fun rest b s'=>b.1 = none ∧ s' = ⟨hp,g,d,tk,os⟩ ∧ ∃ (vs ws:List Value) (ns' ms':List Int),rest = vs.zip ws ∧
   IntsAre vs ns' ∧ IntsAre ws ms' ∧ ns'.length + items2.size = ms'.length + items.size ∧ R (.ok (.ret (.bool (lexLt ns' ms')))) ⟨hp,g,d,tk,os⟩) _
  case turn =>
   rintro ⟨y,x⟩ rest b s' ⟨hb',rfl,vs,ws,ns',ms',hz,hvi,hwi,hlen,hR⟩
   cases hvi with
   | nil=>rw [List.zip_nil_left] at hz; cases hz
   | cons a t hvi' =>
    cases hwi with
    | nil=>rw [List.zip_nil_right] at hz; cases hz
    | cons c u hwi' =>
     rw [List.zip_cons_cons] at hz
     injection hz with hyx hrest
     injection hyx with hy hx
     subst hy hx
     rw [oq] at hR
     simp only [List.length_cons] at hlen
     obtain ⟨e,he,hiff⟩:=tJ A.in1 ⟨hp,g,d,tk,os⟩ a t c u
     refine wpAny_bind (he prog w _ _ ?_)
     cases e with
     | true =>
      rw [if_pos (hiff.mp rfl)] at hR
      wp_walk
      exact ⟨rfl,rfl,_,_,_,_,hrest,hvi',hwi',by omega,hR⟩
     | false =>
      rw [if_neg (fun q=>absurd (hiff.mpr q) Bool.false_ne_true)] at hR
      have hri:=sS A.in1 ⟨hp,g,d,tk,os⟩ a t c u prog w
      wp_walk using hri
      exact ⟨_,rfl,by simpa using hR⟩
  case fin =>
   rintro ⟨b1,b2⟩ s' ⟨hb',rfl,vs,ws,ns',ms',hz,hvi,hwi,hlen,hR⟩
   simp only at hb'
   subst hb'
   have hv:lexLt ns' ms' = decide (items.size < items2.size):=by
    cases hvi with
    | nil =>
     cases hwi with
     | nil =>
      simp only [List.length_nil] at hlen
      rw [lC]
      exact (decide_eq_false (by omega)).symm
     | cons c u hw =>
      simp only [List.length_nil,List.length_cons] at hlen
      rw [jx]
      exact (decide_eq_true (by omega)).symm
    | cons a t hv =>
     cases hwi with
     | nil =>
      simp only [List.length_nil,List.length_cons] at hlen
      rw [kD]
      exact (decide_eq_false (by omega)).symm
     | cons c u hw =>
      rw [List.zip_cons_cons] at hz
      cases hz
   rw [hv] at hR
   wp_walk
   exact ⟨_,rfl,by simpa [Builtin.Tuple.tupleCompareSizes] using hR⟩
  case h =>
   exact ⟨rfl,rfl,items.toList,items2.toList,ns,ms,rfl,hi,hj,by omega,h⟩
end
section
variable {prog:Program} {w:World} {A:Around} {E:Value → Shared → Prop} {s:Shared}
theorem oV {l b:Addr} {items items2:Array Value} {ns ms:List Int} {Q:Value → Shared → Prop} (hl:IsTup s.heap l items) (hb:IsTup s.heap b items2) (hi:IntsAre items.toList ns) (hj:IntsAre items2.toList ms)
  (hu:A.units < cLine) (h:Q (.bool (lexLt ns ms)) s):wpAny (model prog w) A (compareOp .Lt (.ref l) (.ref b)) Q E s:=by
 obtain ⟨⟨cls,dd,data,sl⟩,ho,hc,n,hd⟩:=id hl
 obtain ⟨⟨cls2,dd2,data2,sl2⟩,ho2,hc2,n2,hd2⟩:=id hb
 simp only at hc hd hc2 hd2
 subst hc hd hc2 hd2
 exact richCompare_meets_room (op:=.Lt) ⟨_,ho,rfl⟩ ⟨_,ho2,rfl⟩ PySem.F.slot_tuple_lt PySem.F.entry_tuple_lt (PySem.F.args_tuple_lt_2 _ _) (kx l b items items2 n n2 dd dd2 sl sl2 ns ms hi hj)
  ⟨ho,ho2,show Value.bool (lexLt ns ms) ≠ Value.notImplemented ∧ Q (.bool (lexLt ns ms)) s from ⟨(fun x=>nomatch x),h⟩⟩ hu
theorem uu {t b:Addr} {vs ws:List Value} {Q:Value → Shared → Prop} (ht:IsTup s.heap t vs.toArray) (hb:IsTup s.heap b ws.toArray) (hv:vs ≠ [])
  (h1:ws = [] → Q (.ref t) s) (h2:ws ≠ [] → Q (.ref s.heap.objs.size) { s with heap:=s.heap.push { cls:=.type "tuple",data:=.seq (vs ++ ws).toArray } })
  (hsz:vs.length + ws.length ≤ sizeLine):wpAny (model prog w) A (binaryOp .Add (.ref t) (.ref b)) Q E s:=by
 obtain ⟨⟨cls,dd,data,sl⟩,ho,hc,n,hd⟩:=id ht
 obtain ⟨⟨cls2,dd2,data2,sl2⟩,ho2,hc2,n2,hd2⟩:=id hb
 simp only at hc hd hc2 hd2
 subst hc hd hc2 hd2
 have e:vs.toArray ++ ws.toArray = (vs ++ ws).toArray:=by simp
 by_cases hw:ws = []
 ·exact concat_meets ⟨_,ho,rfl⟩ ⟨_,ho2,rfl⟩ noFill_tuple_add seq_tuple_add PySem.F.slot_tuple_add PySem.F.entry_tuple_add (PySem.F.args_tuple_add_2 _ _)
   (tuple_addW1 t b vs.toArray ws.toArray n n2 dd dd2 sl sl2 (by simpa using hv) (by simp [hw])) ⟨ho,ho2,h1 hw⟩
 ·refine concat_meets ⟨_,ho,rfl⟩ ⟨_,ho2,rfl⟩ noFill_tuple_add seq_tuple_add PySem.F.slot_tuple_add PySem.F.entry_tuple_add (PySem.F.args_tuple_add_2 _ _)
   (tuple_addW2 t b vs.toArray ws.toArray n n2 dd dd2 sl sl2 (by simpa using hv) (by simpa using hw) (by rw [List.size_toArray,List.size_toArray]; exact hsz)) ⟨ho,ho2,?_⟩
  rw [e]
  exact h2 hw
def md (n d:Nat):Option Int → Nat
 | none=>d
 | some v=>if v < 0 then (v + (n:Int)).toNat else min v.toNat n
theorem m6 (n d:Nat):md n d none = d:=rfl
theorem qA (n d k:Nat):md n d (some (k:Int)) = min k n:=by
 show (if (k:Int) < 0 then ((k:Int) + (n:Int)).toNat else min (k:Int).toNat n) = min k n
 rw [if_neg (by omega),Int.toNat_natCast]
end
end HT
namespace L2
open PySem PySem.Spec PyProof.Rows
abbrev TO:=St → Hp → (Option Int → Hp → Prop) → Prop
@[irreducible] def PO (X:Cx) (e:Option Expr) (t:TO):Prop :=
 ∀ (pins:List (Addr × Obj)) (s:Shared) (σ:St) (H:Hp) (Q:Option Int → Hp → Prop),Inv X pins σ H s → t σ H Q →
  wpAny (model X.prog X.w) X.A (evalPart e X.env) (fun u s'=>∃ o H',Inv X pins σ H' s' ∧ IsPart u o ∧ Q o H') X.xe s
def uU:TO:=fun _ H Q=>Q none H
def yO (t:TE):TO:=fun σ H Q=>t σ H fun x H1=>∃ i,x = .int i ∧ Q (some i) H1
theorem intsAre_of {ns:List Int}:∀ {us:List Value},Vals (ns.map V.int) us → IntsAre us ns:=by
 induction ns with
 | nil=>intro us r; rw [List.map_nil] at r; cases r; exact .nil
 | cons n ns ih =>
  intro us r
  rw [List.map_cons] at r
  cases r with
  | cons r1 r2 =>
   obtain ⟨t,e⟩:=r1
   subst e
   exact .cons n t (ih r2)
section
variable {X:Cx} {e:Expr} {te:TE} {lo hi:Option Expr} {tl th:TO} {pos p2:Pos}
theorem pZ:PO X none uU:=by
 unfold PO at *
 exact by
  intro pins s σ H Q I h
  rw [evalPart_none]
  exact wpAny_pure ⟨none,H,I,.none,h⟩
theorem qI (h:PE X e te):PO X (some e) (yO te):=by
 unfold PE at *; unfold PO at *
 exact by
  intro pins s σ H Q I hw
  rw [evalPart_some]
  refine bQ (h pins s σ H _ I hw) fun u s1 ⟨x,H1,I1,r1,q1⟩=>?_
  obtain ⟨i,rfl,q⟩:=q1
  obtain ⟨t,rfl⟩:=r1
  exact ⟨some i,H1,I1,.int i t,q⟩
@[irreducible] def ti (X:Cx) (r:V → Option Int → Option Int → Hp → VK → Prop):Prop :=
 ∀ (pins:List (Addr × Obj)) (s:Shared) (σ:St) (H:Hp) (x:V) (v vl vu:Value) (lo hi:Option Int) (sl:Addr) (Q:VK),Inv X pins σ H s → RelV x v → s.heap.IsSliceOf sl vl vu .none → IsPart vl lo → IsPart vu hi → r x lo hi H Q →
  ∃ T id,typeLookup (.type T) "__getitem__" = pure (some (.builtin id)) ∧ s.TypeIs v T ∧ wpAny (model X.prog X.w) X.A (getItem v (.ref sl)) (EP X pins σ Q) X.xe s
theorem ti.or {r r':V → Option Int → Option Int → Hp → VK → Prop} (h:ti X r) (h':ti X r'):ti X (fun x lo hi H Q=>r x lo hi H Q ∨ r' x lo hi H Q):=by
 unfold ti at *
 exact by
  intro pins s σ H x v vl vu lo hi sl Q I rx hs pl pu q
  rcases q with q | q
  ·exact h pins s σ H x v vl vu lo hi sl Q I rx hs pl pu q
  ·exact h' pins s σ H x v vl vu lo hi sl Q I rx hs pl pu q
def zl (r:V → Option Int → Option Int → Hp → VK → Prop) (te:TE) (tl th:TO):TE:=fun σ H Q=>te σ H fun x H1=>tl σ H1 fun l H2=>th σ H2 fun u H3=>r x l u H3 Q
theorem n5 {r:V → Option Int → Option Int → Hp → VK → Prop} (hr:ti X r) (he:PE X e te) (hl:PO X lo tl) (hu:PO X hi th):PE X (.Subscript e (.Slice lo hi none p2) pos) (zl r te tl th):=by
 unfold PE at *; unfold PO at *; unfold ti at *
 exact by
  intro pins s σ H Q I h
  refine Subscript_ (bQ (he pins s σ H _ I h) fun v s1 ⟨x,H1,I1,r1,q1⟩=>?_)
  refine wpAny_Slice (bQ (hl pins s1 σ H1 _ I1 q1) fun vl s2 ⟨l,H2,I2,pl,q2⟩=>bQ (hu pins s2 σ H2 _ I2 q2) fun vu s3 ⟨u,H3,I3,pu,q3⟩=>?_)
  rw [evalPart_none]
  refine wpAny_pure ?_
  have I4:Inv X pins σ H3 { s3 with heap:=s3.heap.push { cls:=.type "slice",data:=.fields #[vl,vu,.none] } }:=I3.kept (t':=s3.toks) fun b ob q=>Heap.get?_push_of_some _ q
  obtain ⟨T,id,hT,ht,hg⟩:=hr pins { s3 with heap:=s3.heap.push { cls:=.type "slice",data:=.fields #[vl,vu,.none] } } σ H3 x v vl vu l u s3.heap.objs.size Q I4 r1 (Heap.IsSliceOf.new ..) pl pu q3
  show wpAny (model X.prog X.w) X.A (subscriptTail e (.Slice lo hi none p2) v (.ref s3.heap.objs.size)) (EP X pins σ Q) X.xe { s3 with heap:=s3.heap.push { cls:=.type "slice",data:=.fields #[vl,vu,.none] } }
  exact tail_any (ops:=[.ref s3.heap.objs.size,v]) ht hT hg (by with_unfolding_all rfl)
def lB (xs:List V) (lo hi:Option Int):List V:=(xs.drop (HT.md xs.length 0 lo)).take (HT.md xs.length xs.length hi - HT.md xs.length 0 lo)
theorem my (xs:List V) (lo hi:Option Int):(lB xs lo hi).length ≤ xs.length:=by
 unfold lB
 rw [List.length_take,List.length_drop]
 omega
def y8 (K:PySem.W.Frag):R2:=fun x y H Q=>∃ a b ns ms,x = .ref a ∧ y = .ref b ∧ eX K H a (ns.map V.int) ∧ eX K H b (ms.map V.int) ∧ Q (.bl (HT.lexLt ns ms)) H
theorem wZ (hu:X.A.units < cLine):cZ X (compareOp .Lt) (y8 X.K):=by
 unfold cZ at *
 exact by
  intro pins s σ H x y v u Q I rx ry h
  obtain ⟨a,b,ns,ms,rfl,rfl,ha,hb,q⟩:=h
  cases rx
  cases ry
  obtain ⟨its,r1,p1,_⟩:=I.tuple ha
  obtain ⟨its2,r2,p2,_⟩:=I.tuple hb
  have i1:IntsAre its.toArray.toList ns:=intsAre_of r1
  have i2:IntsAre its2.toArray.toList ms:=intsAre_of r2
  exact HT.oV p1 p2 i1 i2 hu ⟨.bl (HT.lexLt ns ms),H,I,rfl,q⟩
def xw (K:PySem.W.Frag):R2:=fun x y H Q=>∃ a b xs ys,x = .ref a ∧ y = .ref b ∧ eX K H a xs ∧ eX K H b ys ∧ xs ≠ [] ∧ xs.length + ys.length ≤ sizeLine ∧
 (ys = [] → Q (.ref a) H) ∧ (ys ≠ [] → ∀ p,H p = none → Q (.ref p) (upd H p (.tup (xs ++ ys))))
theorem Vals.jd {xs:List V} {us:List Value} (r:Vals xs us):us = [] ↔ xs = []:=by
 cases r with
 | nil=>simp
 | cons _ _=>simp
theorem vH:cZ X (binaryOp .Add) (xw X.K):=by
 unfold cZ at *
 exact by
  intro pins s σ H x y v u Q I rx ry h
  obtain ⟨a,b,xs,ys,rfl,rfl,ha,hb,hx,hz,q1,q2⟩:=h
  cases rx
  cases ry
  obtain ⟨its,r1,p1,_⟩:=I.tuple ha
  obtain ⟨its2,r2,p2,_⟩:=I.tuple hb
  refine HT.uu p1 p2 (fun z=>hx (r1.jd.mp z)) (fun z=>⟨.ref a,H,I,rfl,q1 (r2.jd.mp z)⟩) (fun z=>?_) (by rw [← r1.length,← r2.length]; exact hz)
  refine ⟨.ref s.heap.objs.size,_,I.laid (t':=s.toks) (o:=.tup (xs ++ ys)) (fun b ob q=>Heap.get?_push_of_some _ q) (Nat.le_refl _) ?_,rfl,q2 (fun w=>z (r2.jd.mpr w)) _ (I.hok.fresh (Nat.le_refl _))⟩
  exact ⟨by rw [List.length_append]; exact hz,_,r1.append r2,IsTup.new _ _⟩
end
end L2
namespace L2
open PySem PySem.Spec PyProof.Rows
def t9 (n:Nat) (i:Int):Option Nat:=if 0 ≤ i then (if i < n then some i.toNat else none) else if -(n:Int) ≤ i then some (i + n).toNat else none
def cb {α:Type} (xs:List α) (i:Int):Option α:=(t9 xs.length i).bind fun j=>xs[j]?
theorem uj {n:Nat} {i:Int} {j:Nat} (h:t9 n i = some j):seqIndex? i n = some j ∧ j < n ∧ -(n:Int) ≤ i ∧ i < n:=by
 unfold t9 at h
 by_cases h0:0 ≤ i
 ·rw [if_pos h0] at h
  by_cases h1:i < n
  ·rw [if_pos h1] at h
   have e:i.toNat = j:=Option.some.inj h
   exact ⟨by rw [seqIndex_of h0 h1,e],by omega,by omega,h1⟩
  ·rw [if_neg h1] at h; cases h
 ·rw [if_neg h0] at h
  by_cases h1:-(n:Int) ≤ i
  ·rw [if_pos h1] at h
   have e:(i + n).toNat = j:=Option.some.inj h
   exact ⟨by rw [seqIndex_neg (by omega) h1,e],by omega,h1,by omega⟩
  ·rw [if_neg h1] at h; cases h
theorem mU {α:Type} {xs:List α} {i:Int} {v:α} (h:cb xs i = some v):∃ j,seqIndex? i xs.length = some j ∧ xs[j]? = some v ∧ j < xs.length ∧ -(xs.length:Int) ≤ i ∧ i < xs.length:=by
 unfold cb at h
 cases e:t9 xs.length i with
 | none=>rw [e] at h; cases h
 | some j =>
  rw [e] at h
  obtain ⟨h1,h2,h3,h4⟩:=uj e
  exact ⟨j,h1,h,h2,h3,h4⟩
theorem aQ {α:Type} {xs:List α} {j:Nat} {v:α} (h:xs[j]? = some v):cb xs (j:Int) = some v:=by
 have hj:j < xs.length:=(List.getElem?_eq_some_iff.mp h).1
 have e:t9 xs.length (j:Int) = some j:=by
  unfold t9
  rw [if_pos (by omega),if_pos (by omega)]; simp
 unfold cb; rw [e]; exact h
theorem jt {α:Type} (xs:List α) (v:α):cb (xs ++ [v]) (-1) = some v:=by
 have hl:(xs ++ [v]).length = xs.length + 1:=by simp
 have e:t9 (xs ++ [v]).length (-1) = some xs.length:=by
  unfold t9
  rw [hl,if_neg (by decide),if_pos (by omega)]
  congr 1
  omega
 unfold cb
 rw [e]
 show (xs ++ [v])[xs.length]? = some v
 simp
def vE (b:Expr):Prop:=∀ o i,subscripted b false o i = operate [o,i] (getItem o i)
@[irreducible] def pG (X:Cx) (r:R2):Prop :=
 ∀ (value slice:Expr) (pins:List (Addr × Obj)) (s:Shared) (σ:St) (H:Hp) (x y:V) (v u:Value) (Q:VK),Inv X pins σ H s → RelV x v → RelV y u → r x y H Q →
  subscripted slice false v u = operate [v,u] (getItem v u) → wpAny (model X.prog X.w) X.A (subscriptTail value slice v u) (EP X pins σ Q) X.xe s
@[irreducible] def rC (X:Cx) (id:String) (r:V → List V → Hp → VK → Prop):Prop :=
 ∀ (pins:List (Addr × Obj)) (s:Shared) (σ:St) (H:Hp) (x:V) (xs:List V) (v:Value) (us:List Value) (Q:VK),Inv X pins σ H s → RelV x v → Vals xs us → r x xs H Q →
  wpAny (model X.prog X.w) X.A (call (.builtin id) (v :: us)) (EP X pins σ Q) X.xe s
section
variable {X:Cx} {a b:Expr} {ta tb:TE} {pos:Pos}
theorem pG.or {r r':R2} (h:pG X r) (h':pG X r'):pG X (fun x y H Q=>r x y H Q ∨ r' x y H Q):=by
 unfold pG at *
 exact by
  intro value slice pins s σ H x y v u Q I rx ry q hs
  rcases q with q | q
  ·exact h value slice pins s σ H x y v u Q I rx ry q hs
  ·exact h' value slice pins s σ H x y v u Q I rx ry q hs
theorem rC.or {id:String} {r r':V → List V → Hp → VK → Prop} (h:rC X id r) (h':rC X id r'):rC X id (fun x xs H Q=>r x xs H Q ∨ r' x xs H Q):=by
 unfold rC at *
 exact by
  intro pins s σ H x xs v us Q I rx rs q
  rcases q with q | q
  ·exact h pins s σ H x xs v us Q I rx rs q
  ·exact h' pins s σ H x xs v us Q I rx rs q
theorem aN {r:R2} (hr:pG X r) (ha:PE X a ta) (hb:PE X b tb) (hs:vE b):PE X (.Subscript a b pos) (yV r ta tb):=by
 unfold PE; unfold pG at hr
 exact by
  intro pins s σ H Q I h
  exact Subscript_ (xJ ha hb I h fun v u s2 x y H2 I2 rx ry q=>hr a b pins s2 σ H2 x y v u Q I2 rx ry q (hs _ _))
def zB (K:PySem.W.Frag):R2:=fun x y H Q=>∃ p xs i v,x = .ref p ∧ y = .int i ∧ aj K H p xs ∧ cb xs i = some v ∧ Q v H
def zL (K:PySem.W.Frag):R2:=fun x y H Q=>∃ p xs i v,x = .ref p ∧ y = .int i ∧ eX K H p xs ∧ cb xs i = some v ∧ Q v H
def y9:R2:=fun x y H Q=>∃ z i c,x = .str z ∧ y = .int i ∧ z.length ≤ sizeLine ∧ cb z.cps.toList i = some c ∧ Q (.str ⟨#[c]⟩) H
theorem aJ:pG X (zB X.K):=by
 unfold pG at *
 exact by
  intro value slice pins s σ H x y v u Q I rx ry h hs
  obtain ⟨p,xs,i,z,rfl,rfl,hq,he,q⟩:=h
  cases rx
  obtain ⟨t,rfl⟩:=ry
  obtain ⟨its,r,pl,hz⟩:=I.list hq
  obtain ⟨j,h1,h2,h3,h4,h5⟩:=mU he
  obtain ⟨w,ew,rw'⟩:=r.get h2
  have hl:=r.length
  have hn:=jE
  have fin:EP X pins σ Q w s:=⟨z,H,I,rw',q⟩
  by_cases h0:0 ≤ i
  ·have hj:i.toNat = j:=by
    rw [seqIndex_of h0 h5] at h1
    exact Option.some.inj h1
   exact item_listR pl.isList h0 (by omega) (by rw [hj]; simpa using ew) fin hs
  ·have hj:(i + (its.toArray.size:Int)).toNat = j:=by
    rw [seqIndex_neg (by omega) h4] at h1
    rw [List.size_toArray,← hl]
    exact Option.some.inj h1
   exact subscriptTail_builtinR (x:=w) pl.isList.typeIs slot_list_getitem.lookup
    (wpAny_getItem_list_neg (Q:=fun r s'=>r = w ∧ EP X pins σ Q r s') pl.isList (by omega) (by rw [List.size_toArray] <;> omega) (by omega) (by rw [hj]; simpa using ew) ⟨rfl,fin⟩) hs
theorem fP:pG X (zL X.K):=by
 unfold pG at *
 exact by
  intro value slice pins s σ H x y v u Q I rx ry h hs
  obtain ⟨p,xs,i,z,rfl,rfl,hq,he,q⟩:=h
  cases rx
  obtain ⟨t,rfl⟩:=ry
  obtain ⟨its,r,pl,hz⟩:=I.tuple hq
  obtain ⟨j,h1,h2,h3,h4,h5⟩:=mU he
  obtain ⟨w,ew,rw'⟩:=r.get h2
  have hl:=r.length
  have hn:=jE
  have fin:EP X pins σ Q w s:=⟨z,H,I,rw',q⟩
  exact subscriptTail_builtinR (x:=w) pl.typeIs slot_tuple_getitem.lookup
   (getItem_tuple (j:=j) (Q:=fun r s'=>r = w ∧ EP X pins σ Q r s') pl (by omega) (by omega) (by rw [List.size_toArray,← hl]; exact h1) (by simpa using ew) ⟨rfl,fin⟩) hs
theorem mP:pG X y9:=by
 unfold pG at *
 exact by
  intro value slice pins s σ H x y v u Q I rx ry h hs
  obtain ⟨z,i,c,rfl,rfl,hz,he,q⟩:=h
  obtain ⟨t,rfl⟩:=rx
  obtain ⟨t',rfl⟩:=ry
  obtain ⟨j,h1,h2,h3,h4,h5⟩:=mU he
  have hl:z.cps.toList.length = z.length:=by simp [Str.length]
  rw [hl] at h1 h4 h5
  have hn:=jE
  exact tail_any (typeIs_str s z t) slot_str_getitem.lookup (getItem_str (c:=c) (by
   have e1:decide (i < -(2 ^ 63:Int)) = false:=decide_eq_false (by omega)
   have e2:decide (i ≥ 2 ^ 63) = false:=decide_eq_false (by omega)
   rw [e1,e2,Bool.or_false]) (by rw [h1]; simpa using h2) ⟨.str ⟨#[c]⟩,H,I.tok _,⟨_,rfl⟩,q⟩) hs
theorem Inv.lst {pins:List (Addr × Obj)} {σ:St} {H:Hp} {s:Shared} {p:Addr} {xs:List V} (I:Inv X pins σ H s) (h:H p = some (.lst xs)) :
  ∃ (its:List Value) (n:Nat),Vals xs its ∧ s.heap.get? p = some { cls:=.type "list",data:=.seq its.toArray n } ∧ xs.length ≤ sizeLine:=by
 obtain ⟨z,its,n,r,e⟩:=I.hok p _ h
 exact ⟨its,n,r,e,z⟩
theorem mV (lo hi:Option Int) (n:Nat):(sliceBounds lo hi none n).1 = ((HT.md n 0 lo:Nat):Int) ∧ (sliceBounds lo hi none n).2.1 = ((HT.md n n hi:Nat):Int) ∧ (sliceBounds lo hi none n).2.2 = 1:=by
 refine ⟨?_,?_,rfl⟩
 ·cases lo with
  | none=>simp [sliceBounds,HT.md]
  | some i =>
   simp only [sliceBounds,HT.md,Option.getD_none,show (1:Int) > 0 by decide,if_true]
   by_cases h:i < 0
   ·simp only [h,if_true] <;> omega
   ·simp only [h,if_false] <;> omega
 ·cases hi with
  | none=>simp [sliceBounds,HT.md]
  | some i =>
   simp only [sliceBounds,HT.md,Option.getD_none,show (1:Int) > 0 by decide,if_true]
   by_cases h:i < 0
   ·simp only [h,if_true] <;> omega
   ·simp only [h,if_false] <;> omega
theorem lA (its:List Value) (lo hi:Option Int):slicePick its.toArray lo hi none = ((its.drop (HT.md its.length 0 lo)).take (HT.md its.length its.length hi - HT.md its.length 0 lo)).toArray:=by
 obtain ⟨h1,h2,h3⟩:=mV lo hi its.toArray.size
 unfold slicePick
 rw [h1,h2,h3]
 simp only [sliceRange_one,pick_run,List.size_toArray] <;> rfl
def yu (K:PySem.W.Frag):V → Option Int → Option Int → Hp → VK → Prop:=fun x lo hi H Q=>∃ a xs,x = .ref a ∧ aj K H a xs ∧ ∀ p,H p = none → Q (.ref p) (upd H p (.lst (lB xs lo hi)))
theorem pS:ti X (yu X.K):=by
 unfold ti at *
 exact by
  intro pins s σ H x v vl vu lo hi sl Q I rx hs pl pu h
  obtain ⟨a,xs,rfl,hx,q⟩:=h
  cases rx
  obtain ⟨its,r,ht,hz⟩:=I.list hx
  have hlen:=r.length
  refine ⟨"list",_,slot_list_getitem.lookup,ht.isList.typeIs,?_⟩
  refine wpAny_getItem_list_slice ht.isList hs pl pu .none (by simp) ?_ (by rw [List.size_toArray] <;> omega)
  rw [lA,← hlen]
  refine ⟨.ref s.heap.objs.size,_,I.laid (t':=s.toks) (o:=.lst (lB xs lo hi)) (fun b ob q=>Heap.get?_push_of_some _ q) (Nat.le_refl _) ?_,rfl,q _ (I.hok.fresh (Nat.le_refl _))⟩
  exact ⟨Nat.le_trans (my xs lo hi) hz,_,0,(r.drop (HT.md xs.length 0 lo)).take (HT.md xs.length xs.length hi - HT.md xs.length 0 lo),Heap.get?_push_size _ rfl⟩
def bf:V → Bool
 | .ax=>true
 | .bl _=>true
 | .int _=>true
 | .str _=>true
 | _=>false
def hX:V → V → Bool
 | .ax,.ax=>true
 | .bl a,.bl b=>a == b
 | .bl a,.int b=>(if a then 1 else 0) == b
 | .int a,.bl b=>a == (if b then 1 else 0)
 | .int a,.int b=>a == b
 | .str a,.str b=>a == b
 | _,_=>false
theorem o5 {A:Around} {s:Shared} {y x:V} {u v:Value} (ry:RelV y u) (rx:RelV x v) (fy:bf y = true) (fx:bf x = true):SeqAt.EqAt A s u v (hX y x):=by
 cases y with
 | ax =>
  cases ry
  cases x with
  | ax=>cases rx; exact SeqAt.EqAt.same _
  | bl b=>cases rx; exact SeqAt.EqAt.none_bool b
  | int b=>obtain ⟨t,rfl⟩:=rx; exact SeqAt.EqAt.none_int b t
  | str b=>obtain ⟨t,rfl⟩:=rx; exact SeqAt.EqAt.none_str b t
  | _=>exact absurd (show false = true from fx) Bool.false_ne_true
 | bl a =>
  cases ry
  cases x with
  | ax=>cases rx; exact SeqAt.EqAt.bool_none a
  | bl b=>cases rx; exact SeqAt.EqAt.bool_bool a b
  | int b=>obtain ⟨t,rfl⟩:=rx; exact SeqAt.EqAt.bool_int a b t
  | str b=>obtain ⟨t,rfl⟩:=rx; exact SeqAt.EqAt.bool_str a b t
  | _=>exact absurd (show false = true from fx) Bool.false_ne_true
 | int a =>
  obtain ⟨t',rfl⟩:=ry
  cases x with
  | ax=>cases rx; exact SeqAt.EqAt.int_none a t'
  | bl b=>cases rx; exact SeqAt.EqAt.int_bool a t' b
  | int b=>obtain ⟨t,rfl⟩:=rx; exact SeqAt.EqAt.int_int a t' b t
  | str b=>obtain ⟨t,rfl⟩:=rx; exact SeqAt.EqAt.int_str a t' b t
  | _=>exact absurd (show false = true from fx) Bool.false_ne_true
 | str a =>
  obtain ⟨t',rfl⟩:=ry
  cases x with
  | ax=>cases rx; exact SeqAt.EqAt.str_none a t'
  | bl b=>cases rx; exact SeqAt.EqAt.str_bool a t' b
  | int b=>obtain ⟨t,rfl⟩:=rx; exact SeqAt.EqAt.str_int a t' b t
  | str b=>obtain ⟨t,rfl⟩:=rx; exact SeqAt.EqAt.str_str a t' b t
  | _=>exact absurd (show false = true from fx) Bool.false_ne_true
 | _=>exact absurd (show false = true from fy) Bool.false_ne_true
def oz (x:V) (u:Value):Bool:=match u with
 | .none=>hX .ax x
 | .bool b=>hX (.bl b) x
 | .int i _=>hX (.int i) x
 | .str z _=>hX (.str z) x
 | _=>false
theorem rE {x y:V} {u:Value} (r:RelV y u) (f:bf y = true):oz x u = hX y x:=by
 cases y with
 | ax=>cases r; rfl
 | bl b=>cases r; rfl
 | int i=>obtain ⟨t,rfl⟩:=r; rfl
 | str z=>obtain ⟨t,rfl⟩:=r; rfl
 | _=>exact absurd (show false = true from f) Bool.false_ne_true
theorem iW {x:V}:∀ {xs:List V} {us:List Value},Vals xs us → xs.all bf = true → us.any (oz x) = xs.any fun y=>hX y x
 | _,_,.nil,_=>rfl
 | y :: xs,u :: us,.cons r t,f=>by
  rw [List.all_cons,Bool.and_eq_true] at f
  rw [List.any_cons,List.any_cons,rE r f.1,iW t f.2]
theorem gM {A:Around} {s:Shared} {x:V} {v:Value} (rx:RelV x v) (fx:bf x = true):∀ {xs:List V} {us:List Value},Vals xs us → xs.all bf = true → ∀ u ∈ us,SeqAt.EqAt A s u v (oz x u)
 | _,_,.nil,_=>fun u hu=>by cases hu
 | y :: xs,u :: us,.cons r t,f=>fun u' hu=>by
  rw [List.all_cons,Bool.and_eq_true] at f
  rcases List.mem_cons.mp hu with rfl | hu
  ·rw [rE r f.1]; exact o5 r rx f.1 fx
  ·exact gM rx fx t f.2 u' hu
def pe (x:V) (xs:List V):Bool:=xs.any fun y=>hX y x
def zO (K:PySem.W.Frag) (neg:Bool):R2:=fun x y H Q=>∃ p xs,y = .ref p ∧ (aj K H p xs ∨ eX K H p xs) ∧ bf x = true ∧ xs.all bf = true ∧ Q (.bl (if neg then !pe x xs else pe x xs)) H
theorem gs:cZ X (compareOp .In) (zO X.K false):=by
 unfold cZ at *
 exact by
  intro pins s σ H x y v u Q I rx ry h
  obtain ⟨p,xs,rfl,hq,fx,fs,q⟩:=h
  cases ry
  rcases hq with hq | hq
  ·obtain ⟨its,r,pl,hz⟩:=I.list hq
   refine SeqAt.in_listAt (oz x) pl.isList (fun w hw=>gM rx fx r fs w (by simpa using hw)) ⟨.bl _,H,I,rfl,?_⟩
   rw [show its.toArray.any (oz x) = its.any (oz x) by simp,iW r fs]
   exact q
  ·obtain ⟨its,r,pl,hz⟩:=I.tuple hq
   refine SeqAt.in_tupleAt (oz x) pl (fun w hw=>gM rx fx r fs w (by simpa using hw)) ⟨.bl _,H,I,rfl,?_⟩
   rw [show its.toArray.any (oz x) = its.any (oz x) by simp,iW r fs]
   exact q
theorem mX:cZ X (compareOp .NotIn) (zO X.K true):=by
 unfold cZ at *
 exact by
  intro pins s σ H x y v u Q I rx ry h
  obtain ⟨p,xs,rfl,hq,fx,fs,q⟩:=h
  cases ry
  rcases hq with hq | hq
  ·obtain ⟨its,r,pl,hz⟩:=I.list hq
   refine SeqAt.notIn_listAt (oz x) pl.isList (fun w hw=>gM rx fx r fs w (by simpa using hw)) ⟨.bl _,H,I,rfl,?_⟩
   rw [show its.toArray.any (oz x) = its.any (oz x) by simp,iW r fs]
   exact q
  ·obtain ⟨its,r,pl,hz⟩:=I.tuple hq
   refine SeqAt.notIn_tupleAt (oz x) pl (fun w hw=>gM rx fx r fs w (by simpa using hw)) ⟨.bl _,H,I,rfl,?_⟩
   rw [show its.toArray.any (oz x) = its.any (oz x) by simp,iW r fs]
   exact q
theorem ar:bc X (.builtin "len") (fun xs H Q=>∃ p ys,xs = [.ref p] ∧ (aj X.K H p ys ∨ eX X.K H p ys) ∧ Q (.int ys.length) H):=by
 unfold bc at *
 exact by
  intro pins s σ H xs us Q I r h
  obtain ⟨p,ys,rfl,hq,q⟩:=h
  obtain ⟨u,rfl,rx⟩:=vals1 r
  cases rx
  have hn:=jE
  rcases hq with hq | hq
  ·obtain ⟨its,r',pl,hz⟩:=I.list hq
   have hlen:=r'.length
   exact Calls.call_len_list pl.isList (by simp only [List.size_toArray] <;> omega) ⟨.int ys.length,H,I.tok _,⟨s.toks + 1,by rw [List.size_toArray,hlen]⟩,q⟩
  ·obtain ⟨its,r',pl,hz⟩:=I.tuple hq
   have hlen:=r'.length
   exact len_tuple pl (by simp only [List.size_toArray] <;> omega) ⟨.int ys.length,H,I.tok _,⟨s.toks + 1,by rw [List.size_toArray,hlen]⟩,q⟩
theorem mC:bc X (.builtin "len") (fun xs H Q=>∃ z,xs = [.str z] ∧ z.length ≤ sizeLine ∧ Q (.int z.length) H):=by
 unfold bc at *
 exact by
  intro pins s σ H xs us Q I r h
  obtain ⟨z,rfl,hz,q⟩:=h
  obtain ⟨u,rfl,t,rfl⟩:=vals1 r
  have hn:=jE
  exact len_str (by omega) ⟨.int z.length,H,I.tok _,⟨_,rfl⟩,q⟩
theorem bc.or {f:Value} {r r':List V → Hp → VK → Prop} (h:bc X f r) (h':bc X f r'):bc X f (fun xs H Q=>r xs H Q ∨ r' xs H Q):=by
 unfold bc at *
 exact by
  intro pins s σ H xs us Q I rs q
  rcases q with q | q
  ·exact h pins s σ H xs us Q I rs q
  ·exact h' pins s σ H xs us Q I rs q
theorem i6:bc X (.type "list") (fun xs H Q=>∃ p ys,xs = [.ref p] ∧ (aj X.K H p ys ∨ eX X.K H p ys) ∧ ∀ l,H l = none → Q (.ref l) (upd H l (.lst ys))):=by
 unfold bc at *
 exact by
  intro pins s σ H xs us Q I r h
  obtain ⟨p,ys,rfl,hq,q⟩:=h
  obtain ⟨u,rfl,rx⟩:=vals1 r
  cases rx
  have fin:∀ (its:List Value),Vals ys its → ys.length ≤ sizeLine → ∀ (h':Heap) (c':Nat),(∀ b o',s.heap.get? b = some o' → h'.get? b = some o') →
    h'.get? s.heap.objs.size = some { cls:=.type "list",dict:=none,data:=.seq its.toArray c',slots:=#[] } → EP X pins σ Q (.ref s.heap.objs.size) { s with heap:=h' }:=fun its r' hz h' c' kp e =>
   ⟨.ref s.heap.objs.size,_,I.laid (t':=s.toks) kp (Nat.le_refl _) (show bX X.prog X.w _ h' _ (.lst ys) from ⟨hz,its,c',r',e⟩),rfl,q _ (I.hok.fresh (Nat.le_refl _))⟩
  rcases hq with hq | hq
  ·obtain ⟨its,r',pl,hz⟩:=I.list hq
   have hlen:=r'.length
   obtain ⟨o,ho,hc,n,hd⟩:=pl.isList
   exact call_list_seq p (.inl rfl) ho hc hd (fun h' c' kp e=>fin its r' hz h' c' kp e) (by simp only [List.size_toArray] <;> omega)
  ·obtain ⟨its,r',pl,hz⟩:=I.tuple hq
   have hlen:=r'.length
   obtain ⟨o,ho,hc,n,hd⟩:=pl
   exact call_list_seq p (.inr rfl) ho hc hd (fun h' c' kp e=>fin its r' hz h' c' kp e) (by simp only [List.size_toArray] <;> omega)
def z0 (K:PySem.W.Frag) (T:String) (x:V) (H:Hp):Prop:=match x with
 | .str _=>T = "str"
 | .int _=>T = "int"
 | .ref p=>(T = "list" ∧ ∃ xs,aj K H p xs) ∨ (T = "tuple" ∧ ∃ o,K.lookup p = some o ∧ o.cls = .type "tuple" ∧ o.dict = none) ∨
   (T = "dict" ∧ ((∃ kvs,H p = some (.dK kvs)) ∨ ∃ kvs,H p = some (.dT kvs))) ∨ (T = "set" ∧ ∃ S n,H p = some (.set S n))
 | _=>False
theorem wC {pins:List (Addr × Obj)} {σ:St} {H:Hp} {s:Shared} {T:String} {x:V} {v:Value} (I:Inv X pins σ H s) (r:RelV x v) (ty:z0 X.K T x H) :
  s.TypeIs v T ∧ ∀ a,v = .ref a → ∃ ob,s.heap.get? a = some ob ∧ ob.dict = none:=by
 cases x with
 | str z =>
  obtain ⟨t,rfl⟩:=r
  cases (show T = "str" from ty)
  exact ⟨typeIs_str s z t,fun _ e=>nomatch e⟩
 | int i =>
  obtain ⟨t,rfl⟩:=r
  cases (show T = "int" from ty)
  exact ⟨typeIs_int s i t,fun _ e=>nomatch e⟩
 | ref p =>
  cases r
  rcases ty with ⟨rfl,xs,hq⟩ | ⟨rfl,o,hk,hc,hd⟩ | ⟨rfl,hk⟩ | ⟨rfl,S,n,hk⟩
  ·obtain ⟨its,_,pl,_⟩:=I.list hq
   refine ⟨pl.isList.typeIs,fun a e=>?_⟩
   cases e
   obtain ⟨o,n,e,c,hd,_⟩:=pl
   exact ⟨o,e,hd⟩
  ·refine ⟨⟨o,I.dk p o hk,hc⟩,fun a e=>?_⟩
   cases e
   exact ⟨o,I.dk _ o hk,hd⟩
  ·have z:∃ o,s.heap.get? p = some o ∧ o.ExactDict:=by
    rcases hk with ⟨kvs,hk⟩ | ⟨kvs,hk⟩
    ·obtain ⟨_,_,_,_,o,_,_,e,ex,_⟩:=I.hok p _ hk
     exact ⟨o,e,ex⟩
    ·obtain ⟨_,_,_,_,o,_,_,e,ex,_⟩:=I.hok p _ hk
     exact ⟨o,e,ex⟩
   obtain ⟨o,e,ex⟩:=z
   refine ⟨⟨o,e,ex.1⟩,fun a e2=>?_⟩
   cases e2
   exact ⟨o,e,ex.2.1⟩
  ·obtain ⟨o,_,_,_,e,ex,_⟩:=I.hok p _ hk
   refine ⟨⟨o,e,ex.1⟩,fun a e2=>?_⟩
   cases e2
   exact ⟨o,e,ex.2.1⟩
 | _=>exact False.elim ty
def zq (K:PySem.W.Frag) (T:String) (r:V → List V → Hp → VK → Prop) (to:TE) (t:TA):TE:=fun σ H Q=>to σ H fun x H1=>z0 K T x H1 ∧ t σ H1 fun xs H2=>r x xs H2 Q
variable {o e:Expr} {es:List Expr} {to:TE} {t:TA} {name:Str} {apos cpos:Pos} {T id:String} {r:V → List V → Hp → VK → Prop}
theorem gI (pa:PlainAttrs T) (slot:Slot T name id) (hty:typeOf (.builtin id) = pure (.type "method_descriptor")) (hm:rC X id r) (ho:PE X o to) (ha:PA X (e :: es) t)
  (hbase:attributeBase o name X.env (eval o X.env) = eval o X.env:=by rfl)
  (hfew:((backTo cpos (starEach (e :: es) X.env)).all (fun x=>!x.1) && (backToKw cpos (keywordEach [] X.env)).all (fun x=>x.1.isSome)
   && decide ((e :: es).length + ([]:List Keyword).length + (if ([]:List Keyword).isEmpty then 0 else 1) < 30)) = true:=by rfl)
  (hline:(apos.endLine == cpos.line) = true:=by rfl) (hs:starEach (e :: es) X.env = (false,eval e X.env) :: starEach es X.env:=by rfl) (hplain:(backTo cpos (starEach es X.env)).any (·.1) = false:=by rfl) :
  PE X (.Call (.Attribute o name apos) (e :: es) [] cpos) (zq X.K T r to t):=by
 unfold PE at *; unfold PA at *; unfold rC at *
 exact by
  intro pins s σ H Q I h
  refine wpAny_Call_method_late hbase hfew hline rfl (bQ (ho pins s σ H _ I h) fun v s1 ⟨x,H1,I1,r1,ty,q1⟩=>?_)
  obtain ⟨h1,h2⟩:=wC I1 r1 ty
  refine ⟨T,id,pa,slot,hty,h1,h2,?_⟩
  have hA:=ha cpos pins s1 σ H1 _ I1 q1
  rw [hs] at hA ⊢
  refine Calls.callWith_builtin (by show (false || (backTo cpos (starEach es X.env)).any (·.1)) = false; rw [hplain] <;> rfl) (Calls.evalArgs_plain ?_)
  exact bQ hA fun us s2 ⟨vs,H2,I2,r2,q2⟩=>hm pins s2 σ H2 x vs v us Q I2 r1 r2 q2
/- xs.append(e),list.index on a module's tuple .. are rC facts of 06m -/
end
end L2
namespace L2
open PySem PySem.Spec PyProof.Rows
@[irreducible] def nu (X:Cx) (id:String) (r:V → List V → Hp → VK → Prop):Prop :=
 ∀ (pins:List (Addr × Obj)) (s:Shared) (σ:St) (H:Hp) (x:V) (xs:List V) (v:Value) (us:List Value) (Q:VK),Inv X pins σ H s → RelV x v → Vals xs us → r x xs H Q →
  wpAny (model X.prog X.w) X.A (call (.builtin id) (v :: us)) (EP X pins σ Q) X.xe s
theorem Vals.one:∀ {x:V} {us:List Value},Vals [x] us → ∃ u,us = [u] ∧ RelV x u
 | _,_,.cons r .nil=>⟨_,rfl,r⟩
theorem Vals.two:∀ {x y:V} {us:List Value},Vals [x,y] us → ∃ u v,us = [u,v] ∧ RelV x u ∧ RelV y v
 | _,_,_,.cons r (.cons q .nil)=>⟨_,_,rfl,r,q⟩
theorem Vals.reverse {xs:List V} {us:List Value} (h:Vals xs us):Vals xs.reverse us.reverse:=by
 induction h with
 | nil=>exact .nil
 | cons r t ih=>rw [List.reverse_cons,List.reverse_cons]; exact Vals.append ih (.cons r .nil)
section
variable {X:Cx} {pins:List (Addr × Obj)} {σ:St} {H:Hp} {s:Shared} {l b:Addr} {xs ys zs:List V}
theorem Inv.yr {its its':List Value} {n:Nat} {f:Array Value → Array Value} {t':Nat} (I:Inv X pins σ H s) (hH:H l = some (.lst xs))
  (e:s.heap.get? l = some { cls:=.type "list",data:=.seq its.toArray n }) (hf:f its.toArray = its'.toArray) (hv:Vals ys its') (hz:ys.length ≤ sizeLine) :
  Inv X pins σ (upd H l (.lst ys)) { s with heap:=s.heap.update l (Obj.mapSeq f),toks:=t' }:=by
 have q:=PySem.IsL.update e f
 rw [hf] at q
 refine I.write (x:=l) (e:=l) (by rw [hH]; exact trivial) (.inl rfl) (fun b' u hb hu=>(Heap.get?_update_other s.heap (Obj.mapSeq f) (Ne.symm hb)).trans hu) ⟨_,q⟩ ?_
 exact ⟨hz,its',_,hv,q⟩
theorem Inv.yS {its:List Value} {t':Nat} (I:Inv X pins σ H s) (hv:Vals ys its) (hz:ys.length ≤ sizeLine) :
  Inv X pins σ (upd H s.heap.objs.size (.lst ys)) { s with heap:=s.heap.push { cls:=.type "list",data:=.seq its.toArray },toks:=t' } :=
 I.laid (fun _ _ q=>Heap.get?_push_of_some _ q) (Nat.le_refl _) ⟨hz,its,0,hv,Heap.get?_push_size _ rfl⟩
theorem Inv.fresh (I:Inv X pins σ H s):H s.heap.objs.size = none:=I.hok.fresh (Nat.le_refl _)
theorem Inv.wN (I:Inv X pins σ H s) (hH:H l = some (.lst xs)):xs.length ≤ sizeLine ∧ ∃ (its:List Value) (n:Nat),Vals xs its ∧ xs.length = its.length ∧ s.heap.get? l = some { cls:=.type "list",data:=.seq its.toArray n }:=by
 obtain ⟨z,its,n,r,e⟩:=I.hok l _ hH
 exact ⟨z,its,n,r,r.length,e⟩
end
section
variable {X:Cx}
def tm:V → List V → Hp → VK → Prop:=fun x vs H Q=>∃ l xs y,x = .ref l ∧ vs = [y] ∧ H l = some (.lst xs) ∧ xs.length < sizeLine ∧ Q .ax (upd H l (.lst (xs ++ [y])))
theorem bu:nu X "list.append" tm:=by
 unfold nu at *
 exact by
  intro pins s σ H x vs v us Q I rx rv h
  obtain ⟨l,xs,y,rfl,rfl,hH,hz,q⟩:=h
  cases rx
  obtain ⟨u,rfl,ru⟩:=rv.one
  obtain ⟨z,its,n,r,hl,e⟩:=I.wN hH
  refine call_meets F.slot_list_append ⟨_,e,rfl⟩ F.entry_list_append (F.args_list_append_2 _ _) (PySem.list_append l its.toArray n u (by rw [List.size_toArray]; omega)) ⟨e,?_⟩
  refine ⟨.ax,_,I.yr (its':=its ++ [u]) hH e (by simp) (r.append (.cons ru .nil)) ?_,rfl,q⟩
  rw [List.length_append,List.length_singleton]
  omega
def yi:R2:=fun x y H Q=>∃ l b xs zs,x = .ref l ∧ y = .ref b ∧ H l = some (.lst xs) ∧ H b = some (.lst zs) ∧ xs.length + zs.length ≤ sizeLine ∧ ∀ p,H p = none → Q (.ref p) (upd H p (.lst (xs ++ zs)))
theorem tK:cZ X (binaryOp .Add) yi:=by
 unfold cZ at *
 exact by
  intro pins s σ H x y v u Q I rx ry h
  obtain ⟨l,b,xs,zs,rfl,rfl,hH,hB,hz,q⟩:=h
  cases rx
  cases ry
  obtain ⟨z,its,n,r,hl,e⟩:=I.wN hH
  obtain ⟨z2,its2,n2,r2,hl2,e2⟩:=I.wN hB
  refine PySem.P.add_list e e2 ?_ (by rw [List.size_toArray,List.size_toArray]; omega)
  have ea:its.toArray ++ its2.toArray = (its ++ its2).toArray:=by simp
  rw [ea]
  exact ⟨.ref _,_,I.yS (t':=s.toks) (r.append r2) (by rw [List.length_append]; omega),rfl,q _ I.fresh⟩
end
section
variable {prog:Program} {w:World} {A:Around} {E:Value → Shared → Prop} {s:Shared}
set_option maxRecDepth 100000 in
end
section
variable {X:Cx}
end
end L2
namespace L2
open PySem PySem.Spec PyProof.Rows
section
variable {κ:Type} [DecidableEq κ]
def bg (kvs:List (κ × V)) (k:κ):Option V:=(kvs.find? fun kv=>decide (kv.1 = k)).map (·.2)
def putK (kvs:List (κ × V)) (k:κ) (v:V):List (κ × V) :=
 if (kvs.any fun kv=>decide (kv.1 = k)) = true then kvs.map (fun kv=>if kv.1 = k then (kv.1,v) else kv) else kvs ++ [(k,v)]
def vJ (kvs:List (κ × V)) (k:κ):List (κ × V):=kvs.filter fun kv=>decide (kv.1 ≠ k)
theorem bO {p:κ × V} {r:List (κ × V)} {k:κ} (e:p.1 = k):bg (p :: r) k = some p.2:=by simp [bg,List.find?_cons,e]
theorem bC {p:κ × V} {r:List (κ × V)} {k:κ} (e:¬ p.1 = k):bg (p :: r) k = bg r k:=by simp [bg,List.find?_cons,e]
theorem iZ (k:κ):∀ kvs:List (κ × V),(kvs.any fun kv=>decide (kv.1 = k)) = (bg kvs k).isSome
 | []=>rfl
 | p :: r=>by
  rw [List.any_cons]
  by_cases e:p.1 = k
  ·simp only [bO e,decide_eq_true e,Bool.true_or,Option.isSome_some]
  ·rw [bC e,decide_eq_false e,Bool.false_or]; exact iZ k r
theorem jA (k j:κ) (y:V):∀ kvs:List (κ × V),bg kvs k = none → bg (kvs ++ [(k,y)]) j = if j = k then some y else bg kvs j
 | [],_=>by
  by_cases e:k = j
  ·rw [if_pos e.symm]; exact bO (p:=(k,y)) e
  ·rw [if_neg (fun z=>e z.symm)]; exact bC (p:=(k,y)) e
 | p :: r,hn=>by
  rw [List.cons_append]
  have hk:¬ p.1 = k:=fun z=>by rw [bO z] at hn; cases hn
  rw [bC hk] at hn
  have ih:=jA k j y r hn
  by_cases e:p.1 = j
  ·rw [bO e,bO e,if_neg (fun z=>hk (e.trans z))]
  ·rw [bC e,bC e,ih]
theorem gZ (kvs:List (κ × V)) (k:κ) (v:V):(putK kvs k v).length ≤ kvs.length + 1:=by
 unfold putK
 split
 ·rw [List.length_map]; omega
 ·rw [List.length_append,List.length_cons,List.length_nil]; omega
theorem dW {kvs:List (κ × V)} {k:κ} (v:V) (h:bg kvs k = none):putK kvs k v = kvs ++ [(k,v)]:=by
 unfold putK
 rw [iZ,h]
 exact if_neg (by decide)
theorem eg.jN {o:Option V} {u:Option Value} (r:eg o u):o.isSome = u.isSome:=by
 cases o with
 | none=>cases u with
  | none=>rfl
  | some _=>exact (show False from r).elim
 | some _=>cases u with
  | none=>exact (show False from r).elim
  | some _=>rfl
theorem eg.getD {o:Option V} {u:Option Value} {d:V} {d':Value} (r:eg o u) (rd:RelV d d'):RelV (o.getD d) (u.getD d'):=by
 cases o with
 | none=>cases u with
  | none=>exact rd
  | some _=>exact (show False from r).elim
 | some _=>cases u with
  | none=>exact (show False from r).elim
  | some _=>exact r
theorem KV.val {kvs:List (κ × V)} {vs:List (κ × Value)} (r:KV kvs vs) (k:κ):eg (bg kvs k) (valueAt vs k):=by
 unfold KV at r
 induction r with
 | nil=>exact True.intro
 | @cons p q ps qs h t ih =>
  obtain ⟨h1,h2⟩:=h
  by_cases e:p.1 = k
  ·have e':q.1 = k:=h1.symm.trans e
   have b:valueAt (q :: qs) k = some q.2:=by simp [valueAt,List.find?_cons,e']
   rw [bO e,b]; exact h2
  ·have e':¬ q.1 = k:=fun z=>e (h1.trans z)
   have b:valueAt (q :: qs) k = valueAt qs k:=by simp [valueAt,List.find?_cons,e']
   rw [bC e,b]; exact ih
theorem KV.any {kvs:List (κ × V)} {vs:List (κ × Value)} (r:KV kvs vs) (k:κ):(kvs.any fun kv=>decide (kv.1 = k)) = vs.any fun kv=>decide (kv.1 = k):=by
 unfold KV at r
 induction r with
 | nil=>rfl
 | cons h t ih=>rw [List.any_cons,List.any_cons,ih,h.1]
theorem KV.xN {kvs:List (κ × V)} {vs:List (κ × Value)} (r:KV kvs vs) (k:κ) {y:V} {u:Value} (ry:RelV y u) :
  KV (kvs.map fun kv=>if kv.1 = k then (kv.1,y) else kv) (vs.map fun kv=>if kv.1 = k then (kv.1,u) else kv):=by
 unfold KV at r ⊢
 induction r with
 | nil=>exact .nil
 | @cons p q ps qs h t ih =>
  rw [List.map_cons,List.map_cons]
  refine .cons ?_ ih
  obtain ⟨h1,h2⟩:=h
  by_cases e:p.1 = k
  ·rw [if_pos e,if_pos (h1.symm.trans e)]; exact ⟨h1,ry⟩
  ·rw [if_neg e,if_neg (fun z=>e (h1.trans z))]; exact ⟨h1,h2⟩
theorem KV.put {kvs:List (κ × V)} {vs:List (κ × Value)} (r:KV kvs vs) (k:κ) {y:V} {u:Value} (ry:RelV y u):KV (putK kvs k y) (stored vs k u):=by
 unfold putK stored
 rw [r.any k]
 by_cases e:(vs.any fun kv=>decide (kv.1 = k)) = true
 ·rw [if_pos e,if_pos e]; exact r.xN k ry
 ·rw [if_neg e,if_neg e]; exact Paired.snoc r ⟨rfl,ry⟩
theorem KV.drop {kvs:List (κ × V)} {vs:List (κ × Value)} (r:KV kvs vs) (k:κ):KV (vJ kvs k) (without vs k):=by
 unfold KV at r ⊢
 unfold vJ without
 induction r with
 | nil=>exact .nil
 | @cons p q ps qs h t ih =>
  obtain ⟨h1,h2⟩:=h
  rw [List.filter_cons,List.filter_cons]
  by_cases e:p.1 = k
  ·have a:¬ decide (p.1 ≠ k) = true:=by simp [e]
   have b:¬ decide (q.1 ≠ k) = true:=by simp [h1.symm.trans e]
   rw [if_neg a,if_neg b]; exact ih
  ·have e':¬ q.1 = k:=fun z=>e (h1.trans z)
   have a:decide (p.1 ≠ k) = true:=by simp [e]
   have b:decide (q.1 ≠ k) = true:=by simp [e']
   rw [if_pos a,if_pos b]; exact .cons ⟨h1,h2⟩ ih
theorem KV.length {kvs:List (κ × V)} {vs:List (κ × Value)} (r:KV kvs vs):kvs.length = vs.length:=Paired.length r
end
theorem jP {P:Program} {w:World} {k:Key} {u:Value} (r:RelV (kV k) u):(ae P w).is k u = true:=by
 cases k with
 | inl i=>obtain ⟨t,e⟩:=(show ∃ t,u = Value.int i t from r); subst e; exact mn P w i t
 | inr x=>obtain ⟨t,e⟩:=(show ∃ t,u = Value.str x t from r); subst e; exact mZ P w x t
theorem lV {P:Program} {w:World}:∀ {ks:List Key} {us:List Value},Vals (ks.map kV) us → ItemsAre (ae P w) ks us
 | [],_,r=>by rw [List.map_nil] at r; cases r; exact .nil
 | k :: ks,_,r=>by
  rw [List.map_cons] at r
  cases r with
  | cons h t=>exact .cons (jP h) (lV t)
abbrev KT (H:Hp):List (List Key × V) → List (List Key × Addr × Value) → Prop:=Paired fun p q=>p.1 = q.1 ∧ H q.2.1 = some (.tup (p.1.map kV)) ∧ RelV p.2 q.2.2
theorem KT.val {H:Hp} {kvs:List (List Key × V)} {xs:List (List Key × Addr × Value)} (r:KT H kvs xs) (k:List Key):eg (bg kvs k) ((atKey xs k).map (·.2)):=by
 induction r with
 | nil=>exact True.intro
 | @cons p q ps qs h t ih =>
  obtain ⟨h1,_,h2⟩:=h
  by_cases e:p.1 = k
  ·have e':q.1 = k:=h1.symm.trans e
   have b:atKey (q :: qs) k = some q.2:=by simp [atKey,List.find?_cons,e']
   rw [bO e,b]; exact h2
  ·have e':¬ q.1 = k:=fun z=>e (h1.trans z)
   have b:atKey (q :: qs) k = atKey qs k:=by simp [atKey,List.find?_cons,e']
   rw [bC e,b]; exact ih
theorem KT.xN {H:Hp} {kvs:List (List Key × V)} {xs:List (List Key × Addr × Value)} (r:KT H kvs xs) (k:List Key) {y:V} {u:Value} (ry:RelV y u) :
  KT H (kvs.map fun kv=>if kv.1 = k then (kv.1,y) else kv) (xs.map (putAt k u)):=by
 induction r with
 | nil=>exact .nil
 | @cons p q ps qs h t ih =>
  rw [List.map_cons,List.map_cons]
  refine .cons ?_ ih
  obtain ⟨h1,h2,h3⟩:=h
  unfold putAt
  by_cases e:p.1 = k
  ·rw [if_pos e,if_pos (h1.symm.trans e)]; exact ⟨h1,h2,ry⟩
  ·rw [if_neg e,if_neg (fun z=>e (h1.trans z))]; exact ⟨h1,h2,h3⟩
theorem KT.put {H:Hp} {kvs:List (List Key × V)} {xs:List (List Key × Addr × Value)} (r:KT H kvs xs) (k:List Key) {b:Addr} {y:V} {u:Value} (hb:H b = some (.tup (k.map kV))) (ry:RelV y u) :
  KT H (putK kvs k y) (storedH xs k b u):=by
 have e:(kvs.any fun kv=>decide (kv.1 = k)) = (atKey xs k).isSome:=by
  rw [iZ,(r.val k).jN,Option.isSome_map]
 unfold putK storedH
 rw [e]
 by_cases q:(atKey xs k).isSome = true
 ·rw [if_pos q,if_pos q]; exact r.xN k ry
 ·rw [if_neg q,if_neg q]; exact Paired.snoc r ⟨rfl,hb,ry⟩
theorem KT.keeps {H H':Hp} {kvs:List (List Key × V)} {xs:List (List Key × Addr × Value)} (r:KT H kvs xs) (ht:∀ b ys,H b = some (.tup ys) → H' b = some (.tup ys)):KT H' kvs xs :=
 Paired.eJ r fun _ _ z=>⟨z.1,ht _ _ z.2.1,z.2.2⟩
section
variable {P:Program} {w:World} {H:Hp} {h:Heap} {a:Addr}
theorem vf {u:HO} (ok:fF P w H h) (e:Rd H a u):bX P w H h a u:=e.ok ok
theorem jQ {kvs:List (Key × V)} (ok:fF P w H h) (e:Rd H a (.dK kvs)):kvs.length ≤ sizeLine ∧ (a == sysModules) = false ∧ ∃ vs,KV kvs vs ∧ h.DictOf (ae P w) a vs :=
 show bX P w H h a (.dK kvs) from vf ok e
theorem vT {kvs:List (Key × V)} (ok:fF P w H h) (e:H a = some (.dK kvs)):kvs.length ≤ sizeLine ∧ (a == sysModules) = false ∧ ∃ vs,KV kvs vs ∧ h.DictOf (ae P w) a vs:=jQ ok (.inl e)
theorem iq {ks:List Key} (ok:fF P w H h) (e:H a = some (.tup (ks.map kV))):(tupleKind (ae P w)).is h ks a:=by
 obtain ⟨_,its,r,o,h1,h2,n,h3⟩:=(show bX P w H h a (.tup (ks.map kV)) from ok a _ e)
 exact ⟨o,its.toArray,n,h1,h2,h3,by simpa using lV r⟩
theorem lW {kvs:List (List Key × V)} (ok:fF P w H h) (e:Rd H a (.dT kvs)):kvs.length ≤ sizeLine ∧ (a == sysModules) = false ∧
  ∃ xs,KT H kvs xs ∧ h.DictOfH (tupleKind (ae P w)) a xs:=by
 obtain ⟨z,y,xs,r,o,es,ep,h1,h2,h3,h4,h5⟩:=(show bX P w H h a (.dT kvs) from vf ok e)
 refine ⟨z,y,xs,r,o,es,ep,h1,h2,h3,h4,fun x hx=>?_,h5⟩
 have all:∀ {l:List (List Key × V)} {m:List (List Key × Addr × Value)},KT H l m → ∀ x ∈ m,(tupleKind (ae P w)).is h x.1 x.2.1:=by
  intro l m q
  induction q with
  | nil=>intro x hx; exact nomatch hx
  | @cons p q ps qs hq t ih =>
   intro x hx
   rcases List.mem_cons.mp hx with e | hx
   ·subst e
    exact iq ok (by rw [← hq.1]; exact hq.2.1)
   ·exact ih x hx
 exact all r x hx
theorem xX {kvs:List (List Key × V)} (ok:fF P w H h) (e:H a = some (.dT kvs)):kvs.length ≤ sizeLine ∧ (a == sysModules) = false ∧
  ∃ xs,KT H kvs xs ∧ h.DictOfH (tupleKind (ae P w)) a xs:=lW ok (.inl e)
end
def du (H:Hp) (a:Addr) (y:V) (r:Option V):Prop :=
 (∃ kvs k,Rd H a (.dK kvs) ∧ y = kV k ∧ r = bg kvs k) ∨ ∃ kvs k b,Rd H a (.dT kvs) ∧ y = .ref b ∧ H b = some (.tup (k.map kV)) ∧ r = bg kvs k
def ie (H:Hp) (a:Addr) (y v:V) (H':Hp):Prop :=
 (∃ kvs k,H a = some (.dK kvs) ∧ y = kV k ∧ kvs.length < sizeLine ∧ H' = upd H a (.dK (putK kvs k v))) ∨
 ∃ kvs k b,H a = some (.dT kvs) ∧ y = .ref b ∧ H b = some (.tup (k.map kV)) ∧ kvs.length < sizeLine ∧ H' = upd H a (.dT (putK kvs k v))
theorem du.k {H:Hp} {a:Addr} {kvs:List (Key × V)} {k:Key} (e:H a = some (.dK kvs)):du H a (kV k) (bg kvs k):=.inl ⟨kvs,k,.inl e,rfl,rfl⟩
theorem du.t {H:Hp} {a b:Addr} {kvs:List (List Key × V)} {k:List Key} (e:H a = some (.dT kvs)) (eb:H b = some (.tup (k.map kV))):du H a (.ref b) (bg kvs k):=.inr ⟨kvs,k,b,.inl e,rfl,eb,rfl⟩
theorem ie.k {H:Hp} {a:Addr} {kvs:List (Key × V)} {k:Key} {v:V} (e:H a = some (.dK kvs)) (hl:kvs.length < sizeLine):ie H a (kV k) v (upd H a (.dK (putK kvs k v))):=.inl ⟨kvs,k,e,rfl,hl,rfl⟩
theorem ie.t {H:Hp} {a b:Addr} {kvs:List (List Key × V)} {k:List Key} {v:V} (e:H a = some (.dT kvs)) (eb:H b = some (.tup (k.map kV))) (hl:kvs.length < sizeLine) :
  ie H a (.ref b) v (upd H a (.dT (putK kvs k v))):=.inr ⟨kvs,k,b,e,rfl,eb,hl,rfl⟩
section
variable {X:Cx} {pins:List (Addr × Obj)} {σ:St} {H:Hp} {s:Shared} {a:Addr} {y v:V} {u r:Value} {o:Option V} {A:Around} {E:Value → Shared → Prop}
theorem Inv.big (I:Inv X pins σ H s):sysModules < s.heap.objs.size:=by
 have h:mainGlobals < s.heap.objs.size:=(I.mod.glob.keeps I.bk).lt
 exact Nat.lt_trans (by decide) h
theorem qO {Q:Value → Shared → Prop} (hu:A.units + 1 < cLine) (I:Inv X pins σ H s) (g:du H a y (some v)) (ry:RelV y u) (h:∀ w' s',Inv X pins σ H s' → RelV v w' → Q w' s') :
  wpAny (model X.prog X.w) A (getItem (.ref a) u) Q E s:=by
 rcases g with ⟨kvs,k,e,ey,l⟩ | ⟨kvs,k,b,e,ey,eb,l⟩
 ·subst ey
  obtain ⟨z,hd,vs,rel,dd⟩:=jQ I.hok e
  obtain ⟨w',hw,rw'⟩:=eg.some_of (v:=v) (o:=valueAt vs k) (by rw [l]; exact rel.val k)
  exact wpAny_getItem_of (jP ry) dd.mapOf hw (h w' _ (I.tok _) rw')
 ·subst ey
  cases (show u = Value.ref b from ry)
  obtain ⟨z,hd,xs,rel,dd⟩:=lW I.hok e
  obtain ⟨w',hw,rw'⟩:=eg.some_of (v:=v) (o:=(atKey xs k).map (·.2)) (by rw [l]; exact rel.val k)
  obtain ⟨p,hp,hp2⟩:=Option.map_eq_some_iff.mp hw
  refine wpAny_getItem_heap (tupleKind_room_in1 hu) (iq I.hok eb) dd hp ?_
  rw [hp2]
  exact h w' _ (I.tok _) rw'
theorem yj {Q:Value → Shared → Prop} (hu:A.units + 1 < cLine) (I:Inv X pins σ H s) (g:du H a y o) (ry:RelV y u) (h:∀ s',Inv X pins σ H s' → Q (.bool o.isSome) s') :
  wpAny (model X.prog X.w) A (compareOp .In u (.ref a)) Q E s:=by
 rcases g with ⟨kvs,k,e,ey,l⟩ | ⟨kvs,k,b,e,ey,eb,l⟩
 ·subst ey
  obtain ⟨z,hd,vs,rel,dd⟩:=jQ I.hok e
  refine wpAny_in_of (jP ry) hd dd.mapOf ?_
  rw [← (rel.val k).jN,← l]
  exact h _ (I.tok _)
 ·subst ey
  cases (show u = Value.ref b from ry)
  obtain ⟨z,hd,xs,rel,dd⟩:=lW I.hok e
  refine wpAny_in_heap (tupleKind_room_in1 hu) (iq I.hok eb) hd dd ?_
  have q:=(rel.val k).jN
  rw [Option.isSome_map] at q
  rw [← q,← l]
  exact h _ (I.tok _)
theorem mR {h':Heap} {t':Nat} {ob:HO} (I:Inv X pins σ H s) (mu:xx (H a)) (hs:Heap.SameBut a s.heap h') (he:∃ q,h'.get? a = some q) (new:bX X.prog X.w (upd H a ob) h' a ob) :
  Inv X pins σ (upd H a ob) { s with heap:=h',toks:=t' } :=
 I.write (x:=a) (e:=a) mu (.inl rfl) (fun b q hb z=>(hs.2 b hb).trans z) he new
theorem sN {P:Program} {w:World} {H':Hp} {h':Heap} {kvs:List (Key × V)} {vs:List (Key × Value)} (z:kvs.length ≤ sizeLine) (hd:(a == sysModules) = false) (rel:KV kvs vs) (dd:h'.DictOf (ae P w) a vs) :
  bX P w H' h' a (.dK kvs):=⟨z,hd,vs,rel,dd⟩
theorem qr {H':Hp} {Q:Unit → Shared → Prop} (hu:A.units + 1 < cLine) (I:Inv X pins σ H s) (g:ie H a y v H') (ry:RelV y u) (rv:RelV v r) (h:∀ s',Inv X pins σ H' s' → Q () s') :
  wpAny (model X.prog X.w) A (setItem (.ref a) u r) Q E s:=by
 rcases g with ⟨kvs,k,e,ey,l,eH⟩ | ⟨kvs,k,b,e,ey,eb,l,eH⟩
 ·subst ey eH
  obtain ⟨z,hd,vs,rel,dd⟩:=vT I.hok e
  have hz:vs.length ≤ sizeLine:=by rw [← rel.length]; exact z
  have hl:(putK kvs k v).length ≤ sizeLine:=by have:=gZ kvs k v; omega
  refine wpAny_setItem_pairs (hsz:=hz) (jP ry) dd fun h' dd' hs=>h _ ?_
  have he:∃ q,h'.get? a = some q:=let ⟨q,_,_,hq,_⟩:=dd'; ⟨q,hq⟩
  exact mR I (by rw [e]; exact True.intro) hs he (sN hl hd (rel.put k rv) dd')
 ·subst ey eH
  cases (show u = Value.ref b from ry)
  obtain ⟨z,hd,xs,rel,dd⟩:=xX I.hok e
  have hz:xs.length ≤ sizeLine:=by rw [← Paired.length rel]; exact z
  have hl:(putK kvs k v).length ≤ sizeLine:=by have:=gZ kvs k v; omega
  refine wpAny_setItem_heap (hsz:=hz) (tupleKind_room_in1 hu) (iq I.hok eb) dd fun h' dd' hs=>h _ ?_
  obtain ⟨q,es,ep,hq,h2,h3,h4,_,h5⟩:=dd'
  refine mR I (by rw [e]; exact True.intro) hs ⟨q,hq⟩ ⟨hl,hd,_,(rel.put k eb rv).keeps fun c ys ec=>?_,q,es,ep,hq,h2,h3,h4,h5⟩
  rw [aH (aX ec e (fun z=>nomatch z))]
  exact ec
end
section
variable {X:Cx} {pins:List (Addr × Obj)} {σ:St} {H:Hp} {s:Shared} {a:Addr} {kvs:List (Key × V)} {k:Key} {u:Value} {A:Around} {E:Value → Shared → Prop}
end
def yM (i:Expr):Prop:=∀ ov iv,subscripted i false ov iv = operate [ov,iv] (getItem ov iv)
theorem vA {prog:Program} {w:World} {A:Around} {E:Value → Shared → Prop} {s:Shared} {env:Env} {value slice:Expr} {pos:Pos} {T id:String} {Q:Value → Shared → Prop}
  (hl:typeLookup (.type T) "__getitem__" = pure (some (.builtin id))) (hs:yM slice)
  (h:wpAny (model prog w) A (eval value env) (fun o s₁=>wpAny (model prog w) A (eval slice env) (fun i s₂=>s₂.TypeIs o T ∧ wpAny (model prog w) A (getItem o i) Q E s₂) E s₁) E s) :
  wpAny (model prog w) A (eval (.Subscript value slice pos) env) Q E s:=by
 refine Subscript_ (wpAny_mono h (fun o s₁ h₁=>wpAny_mono h₁ (fun i s₂ h₂=>?_) fun _ _ x=>x) fun _ _ x=>x)
 obtain ⟨hT,h₂⟩:=h₂
 unfold subscriptTail
 refine wpAny_bind ?_
 rw [getitemInPython_of_ne hT.not_modules]
 refine wpAny_bind (wpAny_specialOf hT hl ?_)
 have fin:wpAny (model prog w) A (subscripted slice false o i) (fun r s₃=>wpAny (model prog w) A (letTemporaryGo value o r >>= fun _=>pure r) Q E s₃) E s₂:=by
  rw [hs o i]
  exact wpAny_operating (wpAny_mono h₂ (fun r s₃ h₃=>wpAny_bind (wpAny_letTemporaryGo (wpAny_pure h₃))) fun _ _ x=>x)
 first
  | exact wpAny_pure (wpAny_bind fin)
  | exact wpAny_bind (wpAny_pure (wpAny_bind fin))
  | exact wpAny_bind fin
theorem nY {X:Cx} {pins:List (Addr × Obj)} {σ:St} {H:Hp} {s:Shared} {a:Addr} {y:V} {o:Option V} (I:Inv X pins σ H s) (g:du H a y o):s.TypeIs (.ref a) "dict" := by
 rcases g with ⟨kvs,k,e,_,_⟩ | ⟨kvs,k,b,e,_,_,_⟩
 ·obtain ⟨_,_,vs,_,dd⟩:=jQ I.hok e
  exact dd.typeIs
 ·obtain ⟨_,_,xs,_,dd⟩:=lW I.hok e
  exact dd.typeIs
def xk (td ty:TE):TE:=fun σ H Q=>td σ H fun x H1=>ty σ H1 fun y H2=>∃ a v,x = .ref a ∧ du H2 a y (some v) ∧ Q v H2
def yq (ty td:TE):TE:=fun σ H Q=>ty σ H fun y H1=>td σ H1 fun x H2=>∃ a o,x = .ref a ∧ du H2 a y o ∧ Q (.bl o.isSome) H2
def yE (td ty tv:TE):TS:=fun D σ H=>tv σ H fun v H1=>td σ H1 fun x H2=>ty σ H2 fun y H3=>∃ a H4,x = .ref a ∧ ie H3 a y v H4 ∧ D.nx σ H4
section
variable {X:Cx} {o i e value:Expr} {pos pos' tpos:Pos} {td ty tv:TE}
theorem hV (hu:X.A.units + 1 < cLine) (ho:PE X o td) (hi:PE X i ty) (hs:yM i):PE X (.Subscript o i pos) (xk td ty):=by
 unfold PE at *
 exact by
  intro pins s σ H Q I h
  refine vA PySem.F.slot_dict_getitem.lookup hs (bQ (ho pins s σ H _ I h) fun u s1 ⟨x,H1,I1,rx,q1⟩=>bQ (hi pins s1 σ H1 _ I1 q1) fun iv s2 ⟨y,H2,I2,ry,a,v,ex,g,q2⟩=>?_)
  subst ex
  obtain rfl:u = Value.ref a:=rx
  exact ⟨nY I2 g,qO hu I2 g ry fun w' s3 I3 rw'=>⟨v,H2,I3,rw',q2⟩⟩
theorem oG (hu:X.A.units + 1 < cLine) (hi:PE X i ty) (ho:PE X o td):PC X .In i o (yq ty td):=by
 unfold PE at *; unfold PC at *
 exact by
  intro pins s σ H Q I h
  refine bQ (hi pins s σ H _ I h) fun iv s1 ⟨y,H1,I1,ry,q1⟩=>bQ (ho pins s1 σ H1 _ I1 q1) fun u s2 ⟨x,H2,I2,rx,a,ov,ex,g,q2⟩=>?_
  subst ex
  obtain rfl:u = Value.ref a:=rx
  exact yj hu I2 g ry fun s3 I3=>⟨.bl ov.isSome,H2,I3,rfl,q2⟩
theorem fJ (hu:X.A.units + 1 < cLine) (ho:PE X o td) (hi:PE X i ty) (hv:PE X value tv) (hs:swapsWith value (some (.Subscript o i pos')) pos.line X.env = pure false) :
  PS X (.Assign [.Subscript o i pos'] value pos) (yE td ty tv):=by
 unfold PE at *; unfold PS at *
 exact by
  intro pins s σ H D I h
  refine wpAny_Assign_Subscript (bQ (hv pins s σ H _ I h) fun r s1 ⟨v,H1,I1,rv,q1⟩=>bQ (ho pins s1 σ H1 _ I1 q1) fun u s2 ⟨x,H2,I2,rx,q2⟩=>bQ (hi pins s2 σ H2 _ I2 q2) fun iv s3 ⟨y,H3,I3,ry,a,H4,ex,g,q3⟩=>?_) hs
  subst ex
  obtain rfl:u = Value.ref a:=rx
  exact qr hu I3 g ry rv fun s4 I4=>⟨σ,H4,I4,q3⟩
end
theorem ma {P:Program} {w:World} {H:Hp} (h:Heap) (hb:sysModules < h.objs.size):bX P w H (h.push { cls:=.type "dict",data:=.dict #[] }) h.objs.size (.dK []) :=
 ⟨Nat.zero_le _,beq_eq_false_iff_ne.mpr (Ne.symm (Nat.ne_of_lt hb)),[],.nil,Heap.DictOf.new h⟩
theorem sT {P:Program} {w:World} {H:Hp} (h:Heap) (hb:sysModules < h.objs.size):bX P w H (h.push { cls:=.type "dict",data:=.dict #[] }) h.objs.size (.dT []) :=
 ⟨Nat.zero_le _,beq_eq_false_iff_ne.mpr (Ne.symm (Nat.ne_of_lt hb)),[],.nil,_,#[],0,Heap.get?_push_size _ rfl,⟨rfl,rfl,rfl⟩,rfl,rfl,List.nodup_nil⟩
def w6:TE:=fun _ H Q=>∀ p,H p = none → Q (.ref p) (upd H p (.dK []))
def wX:TE:=fun _ H Q=>∀ p,H p = none → Q (.ref p) (upd H p (.dT []))
section
variable {X:Cx} {pos:Pos}
theorem fW:PE X (.Dict [] [] pos) w6:=by
 unfold PE at *
 exact (fun pins s σ H Q I h =>
  wpAny_Dict_empty ⟨.ref s.heap.objs.size,_,I.laid (a:=s.heap.objs.size) (o:=.dK []) (t':=s.toks) (fun _ _ q=>Heap.get?_push_of_some _ q) (Nat.le_refl _) (ma s.heap I.big),rfl,h _ (I.hok.fresh (Nat.le_refl _))⟩)
theorem nc:PE X (.Dict [] [] pos) wX:=by
 unfold PE at *
 exact (fun pins s σ H Q I h =>
  wpAny_Dict_empty ⟨.ref s.heap.objs.size,_,I.laid (a:=s.heap.objs.size) (o:=.dT []) (t':=s.toks) (fun _ _ q=>Heap.get?_push_of_some _ q) (Nat.le_refl _) (sT s.heap I.big),rfl,h _ (I.hok.fresh (Nat.le_refl _))⟩)
end
def oP:List (TE × TE) → St → Hp → (List (V × V) → Hp → Prop) → Prop
 | [],_,H,Q=>Q [] H
 | (tk,tv) :: r,σ,H,Q=>tk σ H fun x H1=>tv σ H1 fun y H2=>oP r σ H2 fun ps H3=>Q ((x,y) :: ps) H3
abbrev VV:List (V × V) → List (Value × Value) → Prop:=Paired fun p q=>RelV p.1 q.1 ∧ RelV p.2 q.2
def yU (X:Cx) (pos:Pos) (keys:List (Option Expr)) (values:List Expr) (trs:List (TE × TE)):Prop :=
 ∀ (pins:List (Addr × Obj)) (s:Shared) (σ:St) (H:Hp) (Q:List (V × V) → Hp → Prop),Inv X pins σ H s → oP trs σ H Q →
  wpAny (model X.prog X.w) X.A (evalPairs (pairTrees keys values X.env pos)) (fun vs s'=>∃ ps H',Inv X pins σ H' s' ∧ VV ps vs ∧ Q ps H') X.xe s
theorem uM {X:Cx} {pos:Pos}:yU X pos [] [] []:=fun pins s σ H Q I h=>pairTrees_nil_walk ⟨[],H,I,.nil,h⟩
theorem kR {X:Cx} {pos:Pos} {k v:Expr} {ks:List (Option Expr)} {vs:List Expr} {tk tv:TE} {trs:List (TE × TE)} (hk:PE X k tk) (hv:PE X v tv) (hr:yU X pos ks vs trs) :
  yU X pos (some k :: ks) (v :: vs) ((tk,tv) :: trs):=by
 unfold PE at *
 exact (fun pins s σ H Q I h =>
  pairTrees_cons_walk (bQ (hk pins s σ H _ I h) fun u s1 ⟨x,H1,I1,rx,q1⟩=>bQ (hv pins s1 σ H1 _ I1 q1) fun w2 s2 ⟨y,H2,I2,ry,q2⟩ =>
   bQ (hr pins s2 σ H2 _ I2 q2) fun ws s3 ⟨ps,H3,I3,rel,q3⟩=>⟨(x,y) :: ps,H3,I3,.cons ⟨rx,ry⟩ rel,q3⟩))
def iP (kvs more:List (Key × V)):List (Key × V):=more.foldl (fun acc kv=>putK acc kv.1 kv.2) kvs
theorem KV.merge:∀ {more:List (Key × V)} {rs:List (Key × Value)} {kvs:List (Key × V)} {vs:List (Key × Value)},KV more rs → KV kvs vs → KV (iP kvs more) (merged vs rs):=by
 intro more rs kvs vs r
 unfold KV at r
 induction r generalizing kvs vs with
 | nil=>intro q; exact q
 | @cons p q ps qs h t ih =>
  intro r0
  have e:KV (putK kvs p.1 p.2) (stored vs q.1 q.2):=by
   have:=r0.put p.1 h.2
   rw [← h.1]; exact this
  exact ih e
theorem hZ:∀ (more kvs:List (Key × V)),(iP kvs more).length ≤ kvs.length + more.length
 | [],kvs=>by show kvs.length ≤ kvs.length + 0; omega
 | p :: r,kvs=>by
  have h1:=hZ r (putK kvs p.1 p.2)
  have h2:=gZ kvs p.1 p.2
  show (iP (putK kvs p.1 p.2) r).length ≤ _
  rw [List.length_cons]; omega
theorem jn {P:Program} {w:World}:∀ {kvs:List (Key × V)} {ws:List (Value × Value)},VV (kvs.map fun kv=>(kV kv.1,kv.2)) ws → ∃ rs,Carries (ae P w) ws rs ∧ KV kvs rs
 | [],_,r=>by rw [List.map_nil] at r; cases r; exact ⟨[],True.intro,.nil⟩
 | p :: kvs,_,r=>by
  rw [List.map_cons] at r
  cases r with
  | @cons a b as bs h t =>
   obtain ⟨rs,c,q⟩:=jn (P:=P) (w:=w) t
   obtain ⟨b1,b2⟩:=b
   exact ⟨(p.1,b2) :: rs,⟨jP h.1,rfl,c⟩,.cons ⟨rfl,h.2⟩ q⟩
def yJ (trs:List (TE × TE)):TE:=fun σ H Q=>∀ p,H p = none → oP trs σ (upd H p (.dK [])) fun ps H2=>H2 p = some (.dK []) ∧ ∃ kvs:List (Key × V),ps = kvs.map (fun kv=>(kV kv.1,kv.2)) ∧ kvs.length ≤ 15 ∧ Q (.ref p) (upd H2 p (.dK (iP [] kvs)))
theorem vD {X:Cx} {pos:Pos} {keys:List (Option Expr)} {values:List Expr} {trs:List (TE × TE)} (h:yU X pos keys values trs) (hall:keys.all (·.isSome) = true) (hl:keys.length = values.length) (h0:keys ≠ [])
  (h15:keys.length ≤ 15):PE X (.Dict keys values pos) (yJ trs):=by
 unfold PE at *
 exact by
  intro pins s σ H Q I q
  have hn:=I.hok.fresh (Nat.le_refl s.heap.objs.size)
  have I1:=I.laid (a:=s.heap.objs.size) (o:=.dK []) (h':=s.heap.push { cls:=.type "dict",data:=.dict #[] }) (t':=s.toks) (fun _ _ q=>Heap.get?_push_of_some _ q) (Nat.le_refl _) (ma s.heap I.big)
  refine wpAny_Dict_walk (knd:=ae X.prog X.w) hall hl h0 h15 (bQ (h pins _ σ _ _ I1 (q _ hn)) fun ws s2 ⟨ps,H2,I2,rel,e,kvs,ep,lk,q2⟩=>?_)
  subst ep
  obtain ⟨rs,c,rk⟩:=jn (P:=X.prog) (w:=X.w) rel
  obtain ⟨z,hd,vs0,r0,dd⟩:=vT I2.hok e
  cases r0
  refine ⟨rs,c,dd,fun h' dd' hs=>⟨.ref s.heap.objs.size,_,?_,rfl,q2⟩⟩
  have hz:(iP [] kvs).length ≤ sizeLine:=by
   have h1:=hZ kvs []
   rw [List.length_nil] at h1
   rw [sizeLine_eq]; omega
  have he:∃ q,h'.get? s.heap.objs.size = some q:=let ⟨q,_,_,hq,_⟩:=dd'; ⟨q,hq⟩
  exact mR I2 (by rw [e]; exact True.intro) hs he (sN hz hd (rk.merge .nil) dd')
structure M1 (X:Cx) (o:Expr) (m:Str) (apos:Pos) (e:Expr) (cpos:Pos):Prop where
 base:attributeBase o m X.env (eval o X.env) = eval o X.env
 few:((backTo cpos (starEach [e] X.env)).all (fun x=>!x.1) && (backToKw cpos (keywordEach [] X.env)).all (fun x=>x.1.isSome)
  && decide (([e]:List Expr).length + ([]:List Keyword).length + (if ([]:List Keyword).isEmpty then 0 else 1) < 30)) = true
 line:(apos.endLine == cpos.line) = true
 trees:backTo cpos (starEach [e] X.env) = [(false,eval e X.env)]
def zS (H:Hp) (a:Addr):Prop:=(∃ kvs,Rd H a (.dK kvs)) ∨ ∃ kvs,Rd H a (.dT kvs)
theorem wB {X:Cx} {pins:List (Addr × Obj)} {σ:St} {H:Hp} {s:Shared} {a:Addr} (I:Inv X pins σ H s) (d:zS H a) :
  s.TypeIs (.ref a) "dict" ∧ (∀ b,Value.ref a = .ref b → ∃ ob,s.heap.get? b = some ob ∧ ob.dict = none) ∧ (a == sysModules) = false:=by
 rcases d with ⟨kvs,e⟩ | ⟨kvs,e⟩
 ·obtain ⟨_,hd,vs,_,dd⟩:=jQ I.hok e
  refine ⟨dd.typeIs,fun b q=>?_,hd⟩
  cases q
  obtain ⟨ob,_,_,h1,h2,_⟩:=dd
  exact ⟨ob,h1,h2.2.1⟩
 ·obtain ⟨_,hd,xs,_,dd⟩:=lW I.hok e
  refine ⟨dd.typeIs,fun b q=>?_,hd⟩
  cases q
  obtain ⟨ob,_,_,h1,h2,_⟩:=dd
  exact ⟨ob,h1,h2.2.1⟩
section
variable {X:Cx} {pins:List (Addr × Obj)} {σ:St} {H:Hp} {s:Shared} {a:Addr} {y d:V} {u r:Value} {o:Option V} {A:Around} {E:Value → Shared → Prop}
theorem wx {Q:Value → Shared → Prop} (hu:A.units + 1 < cLine) (I:Inv X pins σ H s) (g:du H a y o) (ry:RelV y u) (h:∀ w' s',Inv X pins σ H s' → RelV (o.getD .ax) w' → Q w' s') :
  wpAny (model X.prog X.w) A (call (.builtin "dict.get") [.ref a,u]) Q E s:=by
 rcases g with ⟨kvs,k,e,ey,l⟩ | ⟨kvs,k,b,e,ey,eb,l⟩
 ·subst ey
  obtain ⟨z,hd,vs,rel,dd⟩:=jQ I.hok e
  refine call_meetsIn PySem.F.slot_dict_get dd.typeIs PySem.F.entry_dict_get (PySem.F.args_dict_get_2 _ _) (meets_dict_get (ae X.prog X.w) a (jP ry) hd) ⟨_,dd.mapOf,h _ _ (I.tok _) ?_⟩
  rw [l]
  exact (rel.val k).getD rfl
 ·subst ey
  cases (show u = Value.ref b from ry)
  obtain ⟨z,hd,xs,rel,dd⟩:=lW I.hok e
  refine call_meetsIn PySem.F.slot_dict_get dd.typeIs PySem.F.entry_dict_get (PySem.F.args_dict_get_2 _ _) (meetsH_dict_get (tupleKind (ae X.prog X.w)) a b hd) ⟨tupleKind_room_in1 hu,k,xs,iq I.hok eb,dd,h _ _ (I.tok _) ?_⟩
  rw [l]
  exact (rel.val k).getD rfl
end
def wW (td ty:TE):TE:=fun σ H Q=>td σ H fun x H1=>∃ a,x = .ref a ∧ zS H1 a ∧ ty σ H1 fun y H2=>∃ o,du H2 a y o ∧ Q (o.getD .ax) H2
section
variable {X:Cx} {o e f:Expr} {apos cpos:Pos} {td ty tx:TE}
theorem gS (hu:X.A.units + 1 < cLine) (ho:PE X o td) (he:PE X e ty) (m:M1 X o "get" apos e cpos):PE X (.Call (.Attribute o "get" apos) [e] [] cpos) (wW td ty):=by
 unfold PE at *
 exact by
  intro pins s σ H Q I h
  refine wpAny_Call_method m.base m.few m.line PySem.F.plainAttrs_dict PySem.F.slot_dict_get PySem.F.type_dict_get (bQ (ho pins s σ H _ I h) fun u s1 ⟨x,H1,I1,rx,a,ex,d,q1⟩=>?_)
  subst ex
  obtain rfl:u = Value.ref a:=rx
  obtain ⟨t1,t2,_⟩:=wB I1 d
  refine ⟨t1,t2,?_⟩
  rw [m.trees]
  refine Calls.callWith_builtin rfl (Calls.evalArgs_plain (Calls.spliced_cons (bQ (he pins s1 σ H1 _ I1 q1) fun iv s2 ⟨y,H2,I2,ry,ov,g,q2⟩=>Calls.spliced_nil ?_)))
  exact wx hu I2 g ry fun w' s3 I3 rw'=>⟨_,H2,I3,rw',q2⟩
end
section
variable {X:Cx} {pins:List (Addr × Obj)} {σ:St} {H:Hp} {s:Shared} {a:Addr} {kvs:List (Key × V)} {A:Around} {E:Value → Shared → Prop}
end
section
variable {X:Cx} {pins:List (Addr × Obj)} {σ:St} {H:Hp} {s:Shared} {a:Addr} {y:V} {u:Value} {A:Around} {E:Value → Shared → Prop}
end
end L2
namespace Att
open PySem PySem.W PySem.Calls PyProof.Rows
theorem j5 {P:Params} {h:Heap}:∀ (ns:List Int) (vs:List Value),WellAll P h vs (ns.map WData.int) → IntsAre vs ns:=by
 intro ns
 induction ns with
 | nil =>
  intro vs w
  rw [List.map_nil] at w
  cases w
  exact .nil
 | cons n ns ih =>
  intro vs w
  rw [List.map_cons] at w
  cases w with
  | cons a b =>
   cases a
   exact .cons _ _ (ih _ b)
theorem qc {l:OpenLaw} {n:Nat} (hn:l.most = some n) {P:Params} {h:Heap} {args:List WData} {vals:List Value}
  (hpre:l.row.toRowW.claim.pre args = true) (hwl:WellAll P h vals args) :
  ∃ a vs ns,vals = [Value.ref a] ∧ args = [WData.list (ns.map WData.int)] ∧ h.get? a = some { cls:=.type "list",data:=.seq vs.toArray } ∧ IntsAre vs ns ∧ ns.length ≤ n:=by
 have hsh:WShape.hasAll [] args [.list .int] = true:=(pre_splitW hpre).1
 have hc:l.pre.holds [] { args:=args } = true:=(pre_splitW hpre).2
 obtain ⟨d,r,rfl,h1,h2⟩:=hasAllW_cons hsh
 obtain rfl:=hasAllW_nil h2
 obtain ⟨xs,rfl,h3⟩:=hasW_list h1
 obtain ⟨ns,rfl⟩:=items_int h3
 have hlen:ns.length ≤ n:=by
  unfold OpenLaw.pre at hc
  have h4:(WTm.not (.lt (.lit (.int (n:Int))) (.len (.arg 0)))).holds [] { args:=[.list (ns.map .int)] } = true:=by
   have h4:=(holds_andW hc).1
   rw [hn] at h4
   exact h4
  have h5:=condW_of h4 (w_not (w_lt w_lit (w_len_list (w_arg rfl))))
  rw [List.length_map] at h5
  refine Nat.le_of_not_lt fun q=>?_
  have q':(n:Int) < ((ns.length:Nat):Int):=by omega
  first
   | (rw [decide_eq_true q'] at h5; exact absurd h5 (by decide))
   | (simp at h5; omega)
 cases hwl with
 | cons w1 w2 =>
  cases w2
  cases w1 with
  | list ho hall=>exact ⟨_,_,ns,rfl,rfl,ho,j5 ns _ hall,hlen⟩
theorem qi (l:OpenLaw) (args:List WData):l.row.toRowW.claim.post args (.bool true) args = true :=
 postW_of (r:=l.row.toRowW) (X:=(true == true))
  (show WShape.has [] (.bool true) .bool = true by first | rfl | decide | simp [WShape.has,WShape.arms,WShape.armsAll])
  (show (WTm.eq .res (.lit (.bool true))).value [] { args:=args,res:=some (.bool true),after:=args } = some (.bool (true == true)) from w_eq_bool (w_res rfl) w_lit) rfl
theorem me {l:OpenLaw} {n:Nat} {q:Program} {loose:List Str} {XP:(Str → Option Value) → Heap → Prop} {YP:World → Heap → Prop} {d:DefRec}
  (hn:l.most = some n) (hdf:d.params.defaults = [])
  (call:∀ (w:World) (s₀ s₁:Shared) (mg mb:Str → Option Value) (fa:Addr) (o:Obj) (pm cd doc:Value) (a:Addr) (vs:List Value) (ns:List Int),
   Ground q loose [] XP w s₀ mg mb s₁.heap → YP w s₁.heap →
   s₁.heap.get? fa = some o → o.data = .func (docDef d.name d.params d.body d.scope pm cd doc) → s₁.heap.CodeRec cd d.name → mg d.name = some (.ref fa) →
   s₁.heap.get? a = some { cls:=.type "list",data:=.seq vs.toArray } → IntsAre vs ns → ns.length ≤ n → s₁.gens = #[] →
   codeAny (model l.prog w) callerA (.call (.ref fa) ⟨[.ref a],[]⟩) (fun r s'=>r = .ok (.ret (.bool true)) ∧ OldK s₁.heap s'.heap ∧ s'.os = s₁.os ∧ AllBare s'.gens) s₁) :
  WalkO q loose XP YP l.row.toRowW d [] (fun f vs=>PySem.call f vs):=by
 intro w s₀ s₁ mg mb G Y fa o pm cd doc dV kV ho hd hcd hD hmg hg args vals as hpre hlay hrd hwl hlo
 obtain rfl:dV = .none:=Dflts.none hD hdf
 obtain rfl:kV = .none:=Dflts.noKw hD
 obtain ⟨a,vs,ns,rfl,rfl,hobj,hints,hlen⟩:=qc hn hpre hwl
 refine enter_call (codeAny_mono (call w s₀ s₁ mg mb fa o pm cd doc a vs ns G Y ho (fd_plain hd) hcd hmg hobj hints hlen hg) fun r s' hq=>?_)
 obtain ⟨rfl,h2,h3,h4⟩:=hq
 exact ⟨.inl ⟨.bool true,.bool true,[],rfl,fun _=>rfl,.bool true,qi l _,fun _=>⟨List.Pairwise.nil,fun _ hm=>(nomatch hm)⟩⟩,h2,h3,h4⟩
section
variable {prog:Program} {w:World} {A:Around} {E:Value → Shared → Prop} {s:Shared} {K:Frag}
def ledger (h:Heap) (L d:Addr):List (Addr × Obj):=(List.range h.objs.size).filterMap fun a=>if a = L ∨ a = d then none else (h.get? a).map fun o=>(a,o)
end
end Att
namespace L2
open PySem PySem.Spec PyProof.Rows
theorem lX:∀ {vs:List Value} {ns:List Int},IntsAre vs ns → Vals (ns.map V.int) vs
 | _,_,.nil=>.nil
 | _,_,.cons n t h=>.cons ⟨t,rfl⟩ (lX h)
def u9 (H:Hp):Prop:=∀ b,H b = none ∨ ∃ o xs,H b = some (.frz o (.lst xs))
theorem sD {P:Program} {w:World} {K:PySem.W.Frag} {mg mb:Str → Option Value} {CX:ja} {k:Nat} {fa a:Addr} {fd:FuncData} {x:Str} {sp:Sp} {s₁:Shared} {vs:List Value} {ns:List Int}
  (KX:K.In s₁.heap) (hns:s₁.heap.Ns mainGlobals mg) (hb:s₁.heap.Ns builtinsNs mb) (hbb:∀ x:Str,x ≠ "__name__" → mb x = bootBuiltins x) (hlim:s₁.heap.NoLimit) (hg:s₁.gens = #[])
  (ha:s₁.heap.get? a = some { cls:=.type "list",data:=.seq vs.toArray }) (hi:IntsAre vs ns) (hl:ns.length ≤ sizeLine) (hr:bx k callerA)
  (F:∀ base:Heap,K.In base → base.Ns mainGlobals mg → aw P w K mg base CX k fa fd [x] sp) (hbind:∀ (s:Shared) (u:Value),BindsTo s fd ⟨[u],[]⟩ [(x,u)])
  (hsp:∀ H:Hp,u9 H → aj K H a (ns.map V.int) → sp [.ref a] H (fun v _=>v = .bl true) fun _ _ _=>False)
  (hCX:∀ H e s',CX [] H s₁ (fun _ _ _=>False) e s' → False) :
  codeAny (model P w) callerA (.call (.ref fa) ⟨[.ref a],[]⟩) (fun r s'=>r = .ok (.ret (.bool true)) ∧ OldK s₁.heap s'.heap ∧ s'.os = s₁.os ∧ AllBare s'.gens) s₁:=by
 have rv:=lX hi
 have lenV:=hi.length
 -- from an abstract heap in which nothing but the script may be tracked
 have core:∀ H:Hp,u9 H → aj K H a (ns.map V.int) → fF P w H s₁.heap → (∀ b,H b ≠ none → b = a) → (H a ≠ none → K.lookup a = none) →
   codeAny (model P w) callerA (.call (.ref fa) ⟨[.ref a],[]⟩) (fun r s'=>r = .ok (.ret (.bool true)) ∧ OldK s₁.heap s'.heap ∧ s'.os = s₁.os ∧ AllBare s'.gens) s₁:=by
  intro H hO hS hok hA hK
  have base_of:∀ {b:Addr} {o:Obj},s₁.heap.get? b = some o → H b = none → (mM s₁.heap H).get? b = some o:=fun e n=>sF e n
  have noA:∀ {b:Addr} {o:Obj} {es:Array DictEntry} {ep:Nat},s₁.heap.get? b = some o → o.data = .dict es ep → H b = none:=fun {b o es ep} e d=>by
   cases q:H b with
   | none=>rfl
   | some u =>
    have e':b = a:=hA b (by rw [q]; simp)
    subst e'
    rw [ha] at e; cases e
    have d':Data.seq vs.toArray _ = Data.dict es ep:=d
    cases d'
  have nsK:∀ {b:Addr} {m:Str → Option Value},s₁.heap.Ns b m → (mM s₁.heap H).Ns b m:=fun {b m} ⟨o,es,ep,e,d,r⟩=>⟨o,es,ep,base_of e (noA e d),d,r⟩
  have hKb:K.In (mM s₁.heap H):=fun b o e=>base_of (KX b o e) (by
   cases q:H b with
   | none=>rfl
   | some u =>
    have e':b = a:=hA b (by rw [q]; simp)
    subst e'
    rw [hK (by rw [q]; simp)] at e; cases e)
  have hM:Mod K mg (mM s₁.heap H):=⟨hKb,nsK hns,⟨mb,nsK hb,hbb⟩,let ⟨mc,h1,h2⟩:=hlim; ⟨mc,nsK h1,h2⟩⟩
  have e0:j2 P w K mg (mM s₁.heap H) callerA [] s₁ H:=⟨rfl,hM,fun b o e=>u7 e,Nat.le_of_eq (qp _ _),trivial,fun b hb=>absurd (show b ∈ ([]:List Addr) from hb) (by simp),hok,.of_eq hg⟩
  refine codeAny_mono ((F _ hKb (nsK hns)).run callerA [] s₁ H ⟨[.ref a],[]⟩ [.ref a] [.ref a] _ _ hr e0 (hbind s₁ (.ref a)) (.cons rfl .nil) (hsp H hO hS)) fun r s' h=>?_
  cases r with
  | error e=>exact (hCX H e s' h).elim
  | ok fl =>
   cases fl with
   | next=>exact False.elim h
   | brk=>exact False.elim h
   | cont=>exact False.elim h
   | ret u =>
    obtain ⟨v,H',os,bare,un,hok',r',q⟩:=h
    have q':v = .bl true:=q
    subst q'
    obtain rfl:u = Value.bool true:=r'
    refine ⟨rfl,OldK.of_keep fun b o e=>?_,os,bare⟩
    cases q:H b with
    | none=>exact un.keep b o e q (by intro z; exact absurd (show b ∈ ([]:List Addr) from z) (by simp)) (by simp)
    | some u =>
     rcases hO b with z | ⟨ob,xs,z⟩
     ·rw [q] at z; cases z
     ·have z2:=un.frzs b ob _ z
      obtain ⟨e1,_⟩:=hok b _ z
      obtain ⟨e2,_⟩:=hok' b _ z2
      rw [e] at e1; cases e1
      exact e2
 cases hk:K.lookup a with
 | some o =>
  -- the script is one of the module's own objects
  have e:=KX a o hk
  rw [ha] at e
  cases e
  refine core (fun _=>none) (fun _=>.inl rfl) (.inr ⟨_,vs.toArray,_,hk,rfl,rfl,rfl,by rw [List.size_toArray,lenV]; exact hl,by simpa using rv⟩) (fun b u z=>by have z':(none:Option HO) = some u:=z; cases z') (fun b z=>absurd rfl z) fun z=>absurd rfl z
 | none =>
  refine core (fun b=>if b = a then some (.frz { cls:=.type "list",data:=.seq vs.toArray } (.lst (ns.map V.int))) else none) (fun b=>?_) (.inl (.inr ⟨{ cls:=.type "list",data:=.seq vs.toArray },if_pos rfl⟩)) (fun b u z=>?_) (fun b z=>?_) fun _=>hk
  ·by_cases hb:b = a
   ·exact .inr ⟨_,_,if_pos hb⟩
   ·exact .inl (if_neg hb)
  ·by_cases hb:b = a
   ·have z':=(if_pos hb).symm.trans z
    cases z'
    subst hb
    exact ⟨ha,by rw [List.length_map]; exact hl,vs,_,rv,ha⟩
   ·have z':=(if_neg hb).symm.trans z
    cases z'
  ·by_cases hb:b = a
   ·exact hb
   ·exact absurd (if_neg hb) z
end L2
namespace L2
open PySem PySem.Spec PyProof.Rows
theorem uD {l:PySem.W.OpenLaw} {n k:Nat} {q:Program} {loose:List Str} {XP:(Str → Option Value) → Heap → Prop} {YP:World → Heap → Prop} {d:DefRec} {K:Params → PySem.W.Frag} {CX:World → ja} {sp:World → Sp} {x:Str}
  (hn:l.most = some n) (hn2:n ≤ sizeLine) (hdf:d.params.defaults = []) (hr:bx k callerA)
  (hY:∀ (w:World) (h:Heap),YP w h → (K w.params).In h)
  (F:∀ (w:World) (mg:Str → Option Value) (fa:Addr) (h:Heap),(K w.params).In h → h.Ns mainGlobals mg → mg d.name = some (.ref fa) →
   ∃ fd:FuncData,(∀ (s:Shared) (u:Value),BindsTo s fd ⟨[u],[]⟩ [(x,u)]) ∧
    ∀ base:Heap,(K w.params).In base → base.Ns mainGlobals mg → aw l.prog w (K w.params) mg base (CX w) k fa fd [x] (sp w))
  (hsp:∀ (w:World) (H:Hp) (a:Addr) (ns:List Int),ns.length ≤ n → u9 H → aj (K w.params) H a (ns.map V.int) → sp w [.ref a] H (fun v _=>v = .bl true) fun _ _ _=>False)
  (hCX:∀ (w:World) (H:Hp) (s:Shared) (e:Value) (s':Shared),CX w [] H s (fun _ _ _=>False) e s' → False) :
  PySem.W.WalkO q loose XP YP l.row.toRowW d [] (fun f vs=>PySem.call f vs):=by
 refine Att.me hn hdf fun w s₀ s₁ mg mb fa o pm cd doc a vs ns G Y ho hd hcd hmg hobj hints hlen hg=>?_
 have KX:=hY w _ Y
 obtain ⟨fd,hb,hF⟩:=F w mg fa _ KX G.T.g hmg
 exact sD KX G.T.g G.T.b G.T.builtins G.T.nolimit hg hobj hints (Nat.le_trans hlen hn2) hr hF hb (fun H hO hS=>hsp w H a ns hlen hO hS) fun H e s'=>hCX w H s₁ e s'
theorem sg {l:PySem.W.OpenLaw} {n k:Nat} {q:Program} {loose:List Str} {XP:(Str → Option Value) → Heap → Prop} {YP:World → Heap → Prop} {d:DefRec} {K:Params → PySem.W.Frag} {CX:ja} {sp:PySem.W.Frag → Sp} {x:Str}
  (hn:l.most = some n) (hn2:n ≤ sizeLine) (hdf:d.params.defaults = []) (hr:bx k callerA)
  (hY:∀ (w:World) (h:Heap),YP w h → (K w.params).In h)
  (F:∀ (w:World) (mg:Str → Option Value) (fa:Addr) (h:Heap),(K w.params).In h → h.Ns mainGlobals mg → mg d.name = some (.ref fa) →
   ∃ fd:FuncData,(∀ (s:Shared) (u:Value),BindsTo s fd ⟨[u],[]⟩ [(x,u)]) ∧
    ∀ base:Heap,(K w.params).In base → base.Ns mainGlobals mg → aw l.prog w (K w.params) mg base CX k fa fd [x] (sp (K w.params)))
  (hsp:∀ (K:PySem.W.Frag) (H:Hp) (a:Addr) (ns:List Int),ns.length ≤ n → u9 H → aj K H a (ns.map V.int) → sp K [.ref a] H (fun v _=>v = .bl true) fun _ _ _=>False)
  (hCX:∀ (H:Hp) (s:Shared) (e:Value) (s':Shared),CX [] H s (fun _ _ _=>False) e s' → False) :
  PySem.W.WalkO q loose XP YP l.row.toRowW d [] (fun f vs=>PySem.call f vs) :=
 uD (K:=K) (CX:=fun _=>CX) (sp:=fun w=>sp (K w.params)) hn hn2 hdf hr hY F (fun w H a ns h1 h2 h3=>hsp (K w.params) H a ns h1 h2 h3) fun _ H s e s'=>hCX H s e s'
end L2
/- THE LAST THEOREM (shape; LID, My.* are yours):
   My.Adr: a structure of the addresses that your layer names (classes, functions); My.Txt K t: a structure (Prop) of the equations over K;
   My.txt_mk : {K} {implicit addresses ..} (e1 : nsIn K mainGlobals "law" = some (some (.ref f))) (e2 : K.lookup f = some ⟨oc, od, .func (fnOf "law" "law" params body scope dV kV doc pm an cdv ct), sl⟩) (e3 : codeIn K cdv "law" = true) .. : ∃ t, My.Txt K t
set_option maxRecDepth 100000 in
set_option maxHeartbeats 0 in
(the tactic k_is has no namespace: write k_is) -/
namespace L2
open PySem PySem.Spec PyProof.Rows
def inClass (s:Stmt) (j:Nat):Stmt:=match s with
 | .ClassDef _ _ _ body _ _ _ _ _ _ _=>body.getD j (.Pass ⟨0,0,0,0⟩)
 | _=>.Pass ⟨0,0,0,0⟩
def aT (s:Stmt):Arguments:=match s with
 | .FunctionDef _ a _ _ _ _ _ _ _ _=>a
 | _=>{ posonlyargs:=[],args:=[],vararg:=none,kwonlyargs:=[],kw_defaults:=[],kwarg:=none,defaults:=[] }
def aR (s:Stmt):List Stmt:=match s with
 | .FunctionDef _ _ b _ _ _ _ _ _ _=>b
 | _=>[]
def aF (s:Stmt):Scope:=match s with
 | .FunctionDef _ _ _ _ _ _ sc _ _ _=>sc
 | _=>{ kind:=.function,names:=[],isGenerator:=false,isCoroutine:=false }
abbrev fD:ja:=fun _ _ _ _ _ _=>False
abbrev E0:XK:=fun _ _ _=>False
theorem au {X:Cx}:Passes fD X E0:=fun _ _ _ _ _ _ _ h=>h.elim
structure lq (K:PySem.W.Frag) (x qual:Str) (st:Stmt) (f:Addr) (fd:FuncData):Prop where
 ex:∃ (oc:Value) (od:Option Addr) (kV doc pm:Value) (an:Option Addr) (cdv ct:Value) (osl:Array (Option Value)),
  fd = PySem.W.fnOf x qual (aT st) (aR st) (aF st) .none kV doc pm an cdv ct ∧ K.lookup f = some ⟨oc,od,.func fd,osl⟩ ∧ PySem.W.codeIn K cdv qual = true
 kp:PySem.W.keepIn K (.ref f) = true
section
variable {P:Program} {w:World} {K:PySem.W.Frag} {mg:Str → Option Value} {base:Heap}
theorem lq.ok {x qual:Str} {st:Stmt} {f:Addr} {fd:FuncData} {N ps:List Str} {k:Nat} {sp:Sp} (F:lq K x qual st f fd) (S:aU N ps (aF st)) (len:∀ vs H Q E,sp vs H Q E → vs.length = ps.length)
  (hbody:∀ (cdv:Value) (A:Around) (outer:List Env) (s:Shared) (H:Hp) (vs:List V) (Q:VK) (E:XK),bx k (A.deeper (envOfC qual (aF st) s.heap.objs.size f cdv)) → sp vs H Q E →
   ∃ t,iD (kI fD P w K mg base N qual (aF st) f cdv A outer s H E).tf (aR st) t ∧ t { nx:=fun _ H'=>Q .ax H',rt:=Q } (start N vs) H):aw P w K mg base fD (k + 1) f fd ps sp:=by
 obtain ⟨oc,od,kV,doc,pm,an,cdv,ct,osl,rfl,lk,hcd⟩:=F.ex
 refine rh lk hcd S len fun A outer s H vs Q E hr hsp=>?_
 obtain ⟨t,h,q⟩:=hbody cdv A outer s H vs Q E hr hsp
 exact ⟨t,h.tf,q⟩
theorem lq.binds {x qual:Str} {st:Stmt} {f:Addr} {fd:FuncData} {ps:List Str} (F:lq K x qual st f fd)
  (h:∀ (kV doc pm:Value) (an:Option Addr) (cdv ct:Value) (us:List Value),us.length = ps.length → bindArgs (PySem.W.fnOf x qual (aT st) (aR st) (aF st) .none kV doc pm an cdv ct) ⟨us,[]⟩ = pure (ps.zip us)):Binds K fd ps []:=by
 obtain ⟨oc,od,kV,doc,pm,an,cdv,ct,osl,rfl,lk,hcd⟩:=F.ex
 exact .all (h kV doc pm an cdv ct)
theorem ai {x qual:Str} {st:Stmt} {f:Addr} {oc:Value} {od an:Option Addr} {osl:Array (Option Value)} {kV doc pm cdv ct:Value} (l:K.lookup f = some ⟨oc,od,.func (PySem.W.fnOf x qual (aT st) (aR st) (aF st) .none kV doc pm an cdv ct),osl⟩)
  (c:PySem.W.codeIn K cdv qual = true) (k:PySem.W.keepIn K (.ref f) = true):lq K x qual st f (PySem.W.fnOf x qual (aT st) (aR st) (aF st) .none kV doc pm an cdv ct):=⟨⟨oc,od,kV,doc,pm,an,cdv,ct,osl,rfl,l,c⟩,k⟩
end
theorem cx {A:Around} {k:Nat} (hr:bx k A):A.units + 1 < cLine:=Nat.lt_of_le_of_lt (Nat.add_le_add_left (by decide:1 ≤ 64) _) hr.units
section
variable {X:Cx}
theorem pv (i:Nat) {x:Str} {pos:Pos} (hN:X.N[i]? = some x:=by rfl) (hv:yc X.env.scope x:=by first | exact Or.inl rfl | exact Or.inr (Or.inl rfl) | exact Or.inr (Or.inr rfl)) (hd:(x == ("__debug__" : Str)) = false:=by decide)
  (hcd:(x == ("__classdict__" : Str)) = false:=by decide):PE X (.Name x pos) (xW i):=by
 first
 | exact (sX hN hv hd hcd)
 | (unfold PE at *; exact (sX hN hv hd hcd))
end
theorem bB {A B:Prop} (h:B):if false = true then A else B:=by
 rw [if_neg Bool.false_ne_true]
 exact h
theorem bV {A B:Prop} (h:A):if true = true then A else B:=by
 rw [if_pos rfl]
 exact h
theorem cQ {c A B:Prop} [Decidable c] (h1:c → A) (h2:¬ c → B):if c then A else B:=by
 by_cases h:c
 ·rw [if_pos h]
  exact h1 h
 ·rw [if_neg h]
  exact h2 h
def aI (H H':Hp):Prop:=∀ b o,H b = some o → H' b = some o
theorem aI.refl (H:Hp):aI H H:=fun _ _ h=>h
theorem aI.trans {H H1 H2:Hp} (a:aI H H1) (b:aI H1 H2):aI H H2:=fun c o h=>b c o (a c o h)
theorem aI.free {H H':Hp} (e:aI H H') {l:Addr} (h:H' l = Option.none):H l = Option.none:=by
 cases q:H l with
 | none=>rfl
 | some o =>
  rw [e l o q] at h
  cases h
theorem aI.seq {K:PySem.W.Frag} {H H':Hp} {a:Addr} {xs:List V} (e:aI H H') (h:aj K H a xs):aj K H' a xs:=by
 rcases h with (h | ⟨o,h⟩) | h
 ·exact .inl (.inl (e _ _ h))
 ·exact .inl (.inr ⟨o,e _ _ h⟩)
 ·exact .inr h
section
variable {κ:Type} [DecidableEq κ]
end
end L2
set_option maxHeartbeats 4000000
namespace L2
open PySem PySem.Spec PyProof.Rows
section
variable {X:Cx} {a b c:Expr} {ta tb tc:TE} {pos:Pos}
inductive t6:V → Value → Prop where
 | ty (n:String):t6 (.ty n) (.type n)
 | own (C:Addr):t6 (.ref C) (.ref C)
def xo (K:PySem.W.Frag):List V → Hp → VK → Prop:=fun xs H Q=>∃ x c cv t b,xs = [x,c] ∧ t6 c cv ∧ dZ K H x t ∧ PySem.W.kitOne K t cv = some b ∧ Q (.bl b) H
theorem nG:bc X (.builtin "isinstance") (xo X.K):=by
 unfold bc at *
 exact by
  intro pins s σ H xs us Q I rv h
  obtain ⟨x,c,cv,t,b,rfl,hc,ty,e,q⟩:=h
  obtain ⟨u,cu,rfl,ru,rc⟩:=rv.two
  have ec:cu = cv:=by cases hc <;> exact rc
  subst ec
  exact qL I ru ty e fun tk=>⟨.bl b,H,I.tok tk,rfl,q⟩
theorem RelV.nI {x:V} {v:Value} {k:Bool} (r:RelV x v):(v == Value.bool k) = decide (x = .bl k):=by
 cases x with
 | bl j=>cases r; cases j <;> cases k <;> rfl
 | ax=>cases r; rfl
 | int _=>obtain ⟨t,rfl⟩:=r; rfl
 | str _=>obtain ⟨t,rfl⟩:=r; rfl
 | byt _=>obtain ⟨t,rfl⟩:=r; rfl
 | flt _=>obtain ⟨t,rfl⟩:=r; rfl
 | ref _=>cases r; rfl
 | ty _=>cases r; rfl
theorem jV {M:Model} {A:Around} {E:Value → Shared → Prop} {s:Shared} {x:V} {v:Value} {k:Bool} {Q:Bool → Shared → Prop} (r:RelV x v) (h:Q (v == Value.bool k) s):wpAny M A (isSame v (.bool k)) Q E s:=by
 unfold isSame
 cases x <;> first
  | (cases r; exact wpAny_pure h)
  | (obtain ⟨t,rfl⟩:=r; exact wpAny_pure h)
def yz:R2:=fun x y H Q=>∃ k,y = .bl k ∧ Q (.bl (decide (x = .bl k))) H
def xS:R2:=fun x y H Q=>∃ k,y = .bl k ∧ Q (.bl (!decide (x = .bl k))) H
theorem rj:cZ X (compareOp .Is) yz:=by
 unfold cZ at *
 exact by
  intro pins s σ H x y v u Q I rx ry h
  obtain ⟨k,rfl,q⟩:=h
  cases ry
  show wpAny _ _ (do return Value.bool (← isSame v (.bool k))) _ _ _
  exact wpAny_bind (jV rx (wpAny_pure (ay I q (by rw [rx.nI]))))
theorem qJ:cZ X (compareOp .IsNot) xS:=by
 unfold cZ at *
 exact by
  intro pins s σ H x y v u Q I rx ry h
  obtain ⟨k,rfl,q⟩:=h
  cases ry
  show wpAny _ _ (do return Value.bool (!(← isSame v (.bool k)))) _ _ _
  exact wpAny_bind (jV rx (wpAny_pure (ay I q (by rw [rx.nI]))))
end
end L2
namespace L2
open PySem PySem.Spec PyProof.Rows
/- what a block's context hangs on: the closure's cells,the state and abstract heap ahead of the block,the iterator's records -/
set_option genInjectivity false in
set_option genSizeOfSpec false in
set_option genSizeOf false in
structure Bk where
 cl:List (Str × Addr)
 s2:Shared
 H2:Hp
 fp:List Addr
def cE (X:Cx) (scope:Scope) (N':List Str) (B:Bk):Cx :=
 { X with N:=N',s₀:=B.s2,H₀:=B.H2,env:=compEnvC scope B.cl B.s2.heap.objs.size X.env,outer:=X.stack,stack:=X.stack,ex:=B.fp,fn:=fun _=>false,pn:=[],xe:=fun _ _=>False }
def wa (js:List (Option Nat)) (σ:St):St:=js.map fun o=>o.bind fun j=>(σ[j]?).join
structure xO (X:Cx) (scope:Scope) (N':List Str) (js:List (Option Nat)):Prop where
 len:js.length = N'.length
 ok:∀ (i j:Nat) (x:Str),js[i]? = some (some j) → N'[i]? = some x → X.N[j]? = some x ∧ scope.names.lookup x = some .free ∧ (X.env.kindOf x = some .cell ∨ X.env.kindOf x = some .free)
theorem oI {env : Env} : ∀ (names : List (Str × NameKind)) (cs : List (Str × Addr)), (∀ x ∈ names, x.2 = .free → ∃ c, env.cells.lookup x.1 = some c) → (∀ x c, cs.lookup x = some c → env.cells.lookup x = some c) →
    ∃ cl, (forIn names cs (fun (x : Str × NameKind) (r : List (Str × Addr)) => match x with
      | (name, kind) => if (kind == NameKind.free) = true then (do let y ← cellOf env name; pure (ForInStep.yield ((name, y) :: r))) else pure (ForInStep.yield r)) : Sem (List (Str × Addr))) = pure cl ∧
      (∀ x c, cl.lookup x = some c → env.cells.lookup x = some c) ∧ (∀ x c, cs.lookup x = some c → ∃ c', cl.lookup x = some c') ∧ ∀ x, (x, NameKind.free) ∈ names → ∃ c, cl.lookup x = some c := by
  intro names
  induction names with
  | nil => intro cs _ h2; exact ⟨cs, rfl, h2, fun x c e => ⟨c, e⟩, fun x hx => absurd hx (by simp)⟩
  | cons y r ih =>
    intro cs h1 h2
    obtain ⟨n, k⟩ := y
    have h1r : ∀ x ∈ r, x.2 = .free → ∃ c, env.cells.lookup x.1 = some c := fun x hx => h1 x (List.mem_cons_of_mem _ hx)
    by_cases hk : k = .free
    · subst hk
      obtain ⟨c, hc⟩ := h1 (n, .free) List.mem_cons_self rfl
      have h2' : ∀ x d, List.lookup x ((n, c) :: cs) = some d → env.cells.lookup x = some d := fun x d e => by
        by_cases hx : x = n
        · subst hx
          simp only [List.lookup_cons, beq_self_eq_true] at e
          rw [hc]; exact e
        · have hb : (x == n) = false := by simpa using hx
          simp only [List.lookup_cons, hb] at e
          exact h2 x d e
      obtain ⟨cl, e1, e2, e3, e4⟩ := ih ((n, c) :: cs) h1r h2'
      refine ⟨cl, ?_, e2, fun x d e => ?_, fun x hx => ?_⟩
      · rw [List.forIn_cons]
        have q : cellOf env n = pure c := by unfold cellOf; rw [hc]
        show ((if (NameKind.free == NameKind.free) = true then (do let y ← cellOf env n; pure (ForInStep.yield ((n, y) :: cs))) else pure (ForInStep.yield cs)) >>= _) = _
        rw [if_pos (by decide), q]
        exact e1
      · by_cases hx : x = n
        · exact e3 x c (by subst hx; simp [List.lookup_cons])
        · exact e3 x d (by have hb : (x == n) = false := by simpa using hx
                           simp only [List.lookup_cons, hb]; exact e)
      · rcases List.mem_cons.mp hx with z | z
        · injection z with z1 _
          exact e3 x c (by subst z1; simp [List.lookup_cons])
        · exact e4 x z
    · obtain ⟨cl, e1, e2, e3, e4⟩ := ih cs h1r h2
      refine ⟨cl, ?_, e2, e3, fun x hx => ?_⟩
      · rw [List.forIn_cons]
        have hb : (k == NameKind.free) = false := by simpa using hk
        show ((if (k == NameKind.free) = true then _ else pure (ForInStep.yield cs)) >>= _) = _
        rw [if_neg (by rw [hb]; decide)]
        exact e1
      · rcases List.mem_cons.mp hx with z | z
        · injection z with _ z2
          exact absurd z2.symm hk
        · exact e4 x z
theorem kT {scope:Scope} {env:Env} (h:∀ x ∈ scope.names,x.2 = .free → ∃ c,env.cells.lookup x.1 = some c) :
  ∃ cl,closureFor scope env = pure cl ∧ (∀ x c,cl.lookup x = some c → env.cells.lookup x = some c) ∧ ∀ x,(x,NameKind.free) ∈ scope.names → ∃ c,cl.lookup x = some c:=by
 obtain ⟨cl,e1,e2,_,e4⟩:=oI (env:=env) scope.names [] h (fun x c e=>by simp at e)
 refine ⟨cl,?_,e2,e4⟩
 have q:closureFor scope env = (forIn scope.names [] (fun (x:Str × NameKind) (r:List (Str × Addr))=>match x with
   | (name,kind)=>if (kind == NameKind.free) = true then (do let y ← cellOf env name; pure (ForInStep.yield ((name,y) :: r))) else pure (ForInStep.yield r)):Sem (List (Str × Addr))) >>= fun r=>pure r:=rfl
 rw [q,e1]
 rfl
theorem ij {env:Env}:∀ {names:List (Str × NameKind)} {x:Str},names.lookup x = some .free →
  (names.map fun (n,k)=>if (k == NameKind.free && env.scope.kind == .function && env.kindOf n == some .cell) then (n,NameKind.cell) else (n,k)).lookup x = some .cell ∨
  (names.map fun (n,k)=>if (k == NameKind.free && env.scope.kind == .function && env.kindOf n == some .cell) then (n,NameKind.cell) else (n,k)).lookup x = some .free
 | [],_,h=>by simp at h
 | (n,k) :: r,x,h=>by
  have ih:=@ij env r x
  simp only [List.map_cons]
  cases hx:x == n with
  | true =>
   simp only [List.lookup_cons,hx] at h
   cases h
   by_cases hc:(NameKind.free == NameKind.free && env.scope.kind == .function && env.kindOf n == some .cell) = true
   ·rw [if_pos hc]; left; simp only [List.lookup_cons,hx]
   ·rw [if_neg hc]; right; simp only [List.lookup_cons,hx]
  | false =>
   simp only [List.lookup_cons,hx] at h
   by_cases hc:(k == NameKind.free && env.scope.kind == .function && env.kindOf n == some .cell) = true
   ·rw [if_pos hc]; simp only [List.lookup_cons,hx]; exact ih h
   ·rw [if_neg hc]; simp only [List.lookup_cons,hx]; exact ih h
theorem jR {env:Env}:∀ {names:List (Str × NameKind)} {x:Str},
  ((names.map fun (n,k)=>if (k == NameKind.free && env.scope.kind == .function && env.kindOf n == some .cell) then (n,NameKind.cell) else (n,k)).lookup x = some .cell ∨
  (names.map fun (n,k)=>if (k == NameKind.free && env.scope.kind == .function && env.kindOf n == some .cell) then (n,NameKind.cell) else (n,k)).lookup x = some .free) →
  names.lookup x = some .cell ∨ names.lookup x = some .free
 | [],_,h=>by simp at h
 | (n,k) :: r,x,h=>by
  have ih:=@jR env r x
  simp only [List.map_cons] at h
  cases hx:x == n with
  | true =>
   simp only [List.lookup_cons,hx]
   by_cases hc:(k == NameKind.free && env.scope.kind == .function && env.kindOf n == some .cell) = true
   ·right
    have:k = .free:=by
     simp only [Bool.and_eq_true] at hc
     simpa using hc.1.1
    rw [this]
   ·rw [if_neg hc] at h
    simp only [List.lookup_cons,hx] at h
    exact h
  | false =>
   simp only [List.lookup_cons,hx]
   apply ih
   by_cases hc:(k == NameKind.free && env.scope.kind == .function && env.kindOf n == some .cell) = true
   ·rw [if_pos hc] at h; simp only [List.lookup_cons,hx] at h; exact h
   ·rw [if_neg hc] at h; simp only [List.lookup_cons,hx] at h; exact h
theorem oi {X:Cx} {pins:List (Addr × Obj)} {σ:St} {H2:Hp} {s2:Shared} {scope:Scope} {cl:List (Str × Addr)} {N':List Str} {js:List (Option Nat)} {fp:List Addr} {h':Heap} {t':Nat} {m0:Str → Option Value}
  (I:Inv X pins σ H2 s2) (hk:scope.kind = .function) (hcell:∀ y ∈ scope.names,y.2 ≠ .cell)
  (hf:∀ b ∈ fp,jw X pins H2 b) (ho:∀ b ∈ fp,∃ o,s2.heap.get? b = some o)
  (c1:∀ x c,cl.lookup x = some c → X.env.cells.lookup x = some c) (c2:∀ x,(x,NameKind.free) ∈ scope.names → ∃ c,cl.lookup x = some c)
  (cap:xO X scope N' js) (ns:h'.Ns s2.heap.objs.size m0) (sb:∀ b o,s2.heap.get? b = some o → h'.get? b = some o) :
  Inv (cE X scope N' ⟨cl,s2,H2,fp⟩) [] (wa js σ) H2 { s2 with heap:=h',toks:=t' }:=by
 have isc:∀ c v,s2.heap.IsCell c v → h'.IsCell c v:=fun c v ⟨o,e,d⟩=>⟨o,sb _ _ e,d⟩
 refine ⟨⟨I.ok.mod,hk,I.ok.glob,I.ok.blt,Nat.le_refl _,fun x y c h1 h2=>I.ok.inj x y c (c1 x c h1) (c1 y c h2),fun x hx=>?_,fun x c h=>absurd h (by simp [cE]),I.ok.hd,I.ok.frames,.inl rfl,fun b hb=>⟨?_,fun x c e=>?_⟩,I.bs,Nat.le_trans I.ok.bsz I.sz,
  fun b o e hb=>?_,fun b hb hs=>?_,I.stack,I.fH⟩,rfl,I.bare,Un.kept sb,⟨m0,ns,fun i x v e1 e2 e3=>?_⟩,fun x c e=>?_,I.hok.fresh (Nat.le_refl _),fun x c e=>I.freeC x c (c1 x c e),fun p hp=>absurd hp (by simp [cE]),I.hok.kept sb,?_⟩
 ·have hx':=jR (env:=X.env) (names:=scope.names) (x:=x) hx
  rcases hx' with z | z
  ·exact absurd rfl (hcell _ (PySem.mem_of_lookup z))
  ·exact c2 x (PySem.mem_of_lookup z)
 ·obtain ⟨o,e⟩:=ho b hb
  exact Nat.ne_of_lt (Heap.lt_size e)
 ·exact (hf b hb).2.2.2.2.1 x c (c1 x c e)
 ·rcases (hf b hb).2.2.2.1 with z | z
  ·exact I.ok.noex b o e z
  ·exact absurd (Nat.lt_of_lt_of_le (Heap.lt_size e) (Nat.le_trans I.ok.bsz z)) (Nat.lt_irrefl _)
 ·rcases List.mem_cons.mp (I.oR b hs) with z | z
  ·exact (hf b hb).2.1 z
  ·exact (hf b hb).2.2.1 z
 ·have e2':((js.map fun o=>o.bind fun j=>(σ[j]?).join):St)[i]? = some (some v):=e2
  rw [List.getElem?_map] at e2'
  cases q:js[i]? with
  | none=>rw [q] at e2'; cases e2'
  | some o =>
   rw [q] at e2'
   cases o with
   | none=>simp at e2'
   | some j =>
    have q2:(σ[j]?).join = some v:=by simpa using e2'
    have q3:σ[j]? = some (some v):=by
     cases z:σ[j]? with
     | none=>rw [z] at q2; cases q2
     | some w=>rw [z] at q2; exact congrArg some q2
    obtain ⟨n1,n2,n3⟩:=cap.ok i j x q e1
    obtain ⟨m,hm,hl⟩:=I.loc
    obtain ⟨u,r,l⟩:=hl j x v n1 q3 (.inr n3)
    refine ⟨u,r,.inr ⟨ij (env:=X.env) n2,?_⟩⟩
    obtain ⟨c,hc⟩:=c2 x (PySem.mem_of_lookup n2)
    refine ⟨c,hc,?_⟩
    rcases l with ⟨l,_⟩ | ⟨_,c',e',z'⟩
    ·rcases n3 with n3 | n3 <;> (rw [n3] at l; cases l)
    ·have:=c1 x c hc
     rw [e'] at this; cases this
     exact isc _ _ z'
 ·obtain ⟨v,z⟩:=I.cell x c (c1 x c e)
  exact ⟨v,isc _ _ z⟩
 ·show (js.map _).length = N'.length
  rw [List.length_map]; exact cap.len
@[irreducible] def mj (X:Cx) (ifs:List Expr) (t:TT):Prop :=
 ∀ (pins:List (Addr × Obj)) (s:Shared) (σ:St) (H:Hp) (Q:Bool → Hp → Prop),Inv X pins σ H s → t σ H Q →
  wpAny (model X.prog X.w) X.A (forIn ifs true fun c r=>if r = true then do let ok ← isTrue c X.env (eval c X.env); pure (ForInStep.yield ok) else pure (ForInStep.yield r)) (TP X pins σ Q) X.xe s
def yH:TT:=fun _ H Q=>Q true H
theorem fA {X:Cx}:mj X [] yH:=by
 first
 | exact (fun _ _ _ H _ I h=>wpAny_tests_nil ⟨H,I,h⟩)
 | (unfold mj at *; exact (fun _ _ _ H _ I h=>wpAny_tests_nil ⟨H,I,h⟩))
theorem gU {X:Cx} {c:Expr} {t:TT} (hc:PT X c t):mj X [c] t:=by
 first
 | exact (fun pins s σ H Q I h=>wpAny_tests_one (hc pins s σ H Q I h))
 | (unfold PT at *; unfold mj at *; exact (fun pins s σ H Q I h=>wpAny_tests_one (hc pins s σ H Q I h)))
section
variable {prog:Program} {w:World} {A:Around} {R:Result → Shared → Prop} {s:Shared}
theorem mi {elt target iter:Expr} {ifs:List Expr} {scope:Scope} {pos:Pos} {it acc:Value} {env:Env} (I:Nat → Shared → Prop)
  (turn:∀ n s,I n s → wpAny (model prog w) A (pyNext it) (fun r s₁=>match r with
   | none=>R (.ok .next) s₁
   | some v=>wpAny (model prog w) A (letOwnedTupleGo target it v) (fun _ s₁=>wpAny (model prog w) A (assign target env v) (fun _ s₂ =>
     wpAny (model prog w) A (forIn ifs true fun c r=>if r = true then do let ok ← isTrue c env (eval c env); pure (ForInStep.yield ok) else pure (ForInStep.yield r)) (fun ok s₃ =>
      if ok = true then wpAny (model prog w) A (eval elt env) (fun x s₄ =>
       wpAny (model prog w) A (call (.builtin "list.append") [acc,x]) (fun _ s₅=>∃ m,m < n ∧ I m s₅) (fun _ _=>False) s₄) (fun _ _=>False) s₃
      else ∃ m,m < n ∧ I m s₃) (fun _ _=>False) s₂) (fun _ _=>False) s₁) (fun _ _=>False) s₁) (fun _ _=>False) s)
  (n:Nat) (h:I n s) :
  codeAny (model prog w) A (.compLoop (.ListComp elt [⟨target,iter,ifs,0⟩] scope pos) 0 it acc env) R s:=by
 refine codeAny_loop rfl I (fun n s hI=>?_) n h
 show wpAny _ A ((compTurn (.ListComp elt [⟨target,iter,ifs,0⟩] scope pos) 0 it acc env).onRaise (fun x=>do noteFrame x env; theTreesLotGoes x)) _ _ s
 refine wpAny_noted ?_
 rw [compTurn_list]
 refine wpAny_bind (wpAny_standAt (wpAny_bind (wpAny_mono (turn n s hI) (fun r s₁ h₁=>?_) fun _ _ h'=>h'.elim)))
 cases r with
 | none=>exact wpAny_pure h₁
 | some v =>
  refine wpAny_bind (wpAny_mono h₁ (fun _ s₁ h₁=>?_) fun _ _ h'=>h'.elim)
  refine wpAny_bind (wpAny_mono h₁ (fun _ s₂ h₂=>wpAny_bind (wpAny_mono h₂ (fun ok s₃ h₃=>?_) fun _ _ h'=>h'.elim)) fun _ _ h'=>h'.elim)
  cases ok with
  | false=>exact wpAny_pure ⟨rfl,h₃⟩
  | true =>
   exact wpAny_bind (wpAny_bind (wpAny_mono h₃ (fun x s₄ h₄=>wpAny_bind (wpAny_mono h₄ (fun _ s₅ h₅=>wpAny_pure (wpAny_pure ⟨rfl,h₅⟩)) fun _ _ h'=>h'.elim)) fun _ _ h'=>h'.elim))
end
def nU (J:It) (l:Addr) (g:TG) (tc:TT) (te:TE) (σ:St) (H:Hp) (Q:VK):Prop :=
 ∃ W:Nat → Nat → St → List V → Hp → Prop,(∃ m,W 0 m σ [] H) ∧ ∀ i m σ acc H,W i m σ acc H → H l = some (.lst acc) ∧ ((J.stop i H ∧ Q (.ref l) H) ∨
  (J.go i H ∧ acc.length < sizeLine ∧ ∀ x H',J.yld i H x H' → g x σ H' fun σ2 H2=>tc σ2 H2 fun b H3=>if b = true then
   te σ2 H3 fun v H4=>H4 l = some (.lst acc) ∧ ∃ m',m' < m ∧ W (i + 1) m' σ2 (acc ++ [v]) (upd H4 l (.lst (acc ++ [v])))
   else ∃ m',m' < m ∧ W (i + 1) m' σ2 acc H3))
def vN (js:List (Option Nat)) (wi:TI) (g:Bk → TG) (tc:Bk → TT) (te:Bk → TE):TE:=fun σ H Q=>wi σ H fun J H1=>∀ l B,H1 l = none → nU J l (g B) (tc B) (te B) (wa js σ) (upd H1 l (.lst [])) Q
section
variable {X:Cx} {elt tg iter:Expr} {ifs:List Expr} {scope:Scope} {pos:Pos} {N':List Str} {js:List (Option Nat)} {wi:TI} {g:Bk → TG} {tc:Bk → TT} {te:Bk → TE}
theorem je {pins:List (Addr × Obj)} {σ:St} {H1:Hp} {s1:Shared} {it:Addr} {fp:List Addr} {tn:Nat → Heap → Prop} {J:It} {cl:List (Str × Addr)} {Q:VK} {RR:Value → Addr → Result → Shared → Prop}
  (hc:X.calm = true) (hk:scope.kind = .function) (hcell:∀ y ∈ scope.names,y.2 ≠ .cell) (cap:xO X scope N' js)
  (blk:∀ B,PG (cE X scope N' B) tg (g B) ∧ mj (cE X scope N' B) ifs (tc B) ∧ PE (cE X scope N' B) elt (te B))
  (c1:∀ x c,cl.lookup x = some c → X.env.cells.lookup x = some c) (c2:∀ x,(x,NameKind.free) ∈ scope.names → ∃ c,cl.lookup x = some c)
  (I:Inv X pins σ H1 s1) (T:Turn X.prog X.w X.K tg J fp it tn) (st:tn 0 s1.heap) (hf:∀ b ∈ fp,jw X pins H1 b)
  (h:∀ l B,H1 l = none → nU J l (g B) (tc B) (te B) (wa js σ) (upd H1 l (.lst [])) Q)
  (hRR:∀ l C H' s' (m':Str → Option Value),Inv X pins σ H' s' → Q (.ref l) H' → s'.heap.Ns C m' → H' C = none → C ≠ X.env.locals → (∀ x c,X.env.cells.lookup x = some c → c ≠ C) → C ∉ X.fs → X.s₀.heap.objs.size ≤ C → (∀ p ∈ X.pn ++ pins,p.1 ≠ C) →
   RR (.ref l) C (.ok .next) s') :
  wpAny (model X.prog X.w) X.A (newList []) (fun acc s₃=>wpAny (model X.prog X.w) X.A (newFunctionEnv scope X.env.globals cl [] X.env.qual none .none (some X.env)) (fun cenv s₄ =>
   codeAny (model X.prog X.w) X.A (.compStart (.ListComp elt [⟨tg,iter,ifs,0⟩] scope pos) 0 (.ref it) acc { cenv with scope:=relabel scope X.env }) (RR acc cenv.locals) s₄) X.xe s₃) X.xe s1:=by
 unfold PE at *; unfold PG at *; unfold mj at *
 exact by
  refine wpAny_newObj_type ?_
  have I2:Inv X pins σ (upd H1 s1.heap.objs.size (.lst [])) { s1 with heap:=s1.heap.push { cls:=.type "list",data:=.seq ([]:List Value).toArray } }:=I.yS (t':=s1.toks) .nil (Nat.zero_le _)
  have hl:H1 s1.heap.objs.size = none:=I.fresh
  generalize es2:({ s1 with heap:=s1.heap.push { cls:=.type "list",data:=.seq ([]:List Value).toArray } }:Shared) = s2 at I2 ⊢
  generalize el:s1.heap.objs.size = l at *
  have ne_fp:∀ b ∈ fp,b ≠ l:=fun b hb=>by
   obtain ⟨o,e,_⟩:=T.obj _ _ st b hb
   rw [← el]
   exact Nat.ne_of_lt (Heap.lt_size e)
  have hf2:∀ b ∈ fp,jw X pins (upd H1 l (.lst [])) b:=fun b hb=>⟨by rw [aH (ne_fp b hb)]; exact (hf b hb).1,(hf b hb).2⟩
  have kp:∀ b o,s1.heap.get? b = some o → s2.heap.get? b = some o:=fun b o e=>by rw [← es2]; exact Heap.get?_push_of_some _ e
  have st2:tn 0 s2.heap:=T.keep _ _ _ st fun b _ o e=>kp b o e
  refine wpAny_newFunctionEnv hcell (by intro y hy; simp at hy) (fun h' ns sb=>?_) hk
  have kp2:∀ b o,s2.heap.get? b = some o → h'.get? b = some o:=fun b o e=>(sb.2 b (Nat.ne_of_lt (Heap.lt_size e))).trans (Heap.get?_push_of_some _ e)
  have st3:tn 0 h':=T.keep _ _ _ st2 fun b _ o e=>kp2 b o e
  have I3:=oi (t':=s2.toks + ([]:List (Str × Value)).length) (m0:=fun x=>([]:List (Str × Value)).reverse.lookup x) I2 hk hcell hf2 (fun b hb=>by obtain ⟨o,e,_⟩:=T.obj _ _ st2 b hb; exact ⟨o,e⟩) c1 c2 cap ns kp2
  obtain ⟨pg,pif,pel⟩:=blk ⟨cl,s2,upd H1 l (.lst []),fp⟩
  obtain ⟨W,⟨m0,w0⟩,turn⟩:=h l ⟨cl,s2,upd H1 l (.lst []),fp⟩ hl
  have fpY:∀ {H':Hp},(∀ b ∈ fp,H' b = none) → ∀ b ∈ fp,jw (cE X scope N' ⟨cl,s2,upd H1 l (.lst []),fp⟩) [] H' b:=fun {H'} hn b hb =>
   ⟨hn b hb,(I3.ok.exf b hb).1,I3.ok.exfs b hb,.inl hb,(I3.ok.exf b hb).2,fun p hp=>absurd hp (by simp [cE])⟩
  have loop:codeAny (model X.prog X.w) X.A (.compLoop (.ListComp elt [⟨tg,iter,ifs,0⟩] scope pos) 0 (.ref it) (.ref l) (compEnvC scope cl s2.heap.objs.size X.env)) (RR (.ref l) s2.heap.objs.size) { s2 with heap:=h',toks:=s2.toks + ([]:List (Str × Value)).length }:=by
   refine mi (fun n s'=>∃ i σ' acc H',Inv (cE X scope N' ⟨cl,s2,upd H1 l (.lst []),fp⟩) [] σ' H' s' ∧ tn i s'.heap ∧ (∀ b ∈ fp,H' b = none) ∧ W i n σ' acc H') ?_ m0 ⟨0,_,_,_,I3,st3,fun b hb=>(hf2 b hb).1,w0⟩
   rintro n s3 ⟨i,σ3,acc,H3,J3,t3,f3,w3⟩
   obtain ⟨hacc,alt⟩:=turn i n σ3 acc H3 w3
   rcases alt with ⟨stop,q⟩ | ⟨go,hz,step⟩
   ·refine bQ (T.done (cE X scope N' ⟨cl,s2,upd H1 l (.lst []),fp⟩) rfl rfl rfl hc i [] s3 σ3 H3 (fun _ _=>False) J3 (fpY f3) t3 stop) fun r s4 ⟨hr,J4⟩=>?_
    subst hr
    have IX:Inv X pins σ H3 s4:=I2.vS (ch:=fp) J4.os J4.base J4.hok J4.bare fun b hb=>⟨(hf2 b hb).2.2.2.1,(hf2 b hb).2.1,(hf2 b hb).2.2.2.2.1,(hf2 b hb).2.2.2.2.2⟩
    obtain ⟨m',hn',_⟩:=J4.loc
    refine hRR l s2.heap.objs.size H3 s4 m' IX q hn' J4.free (Nat.ne_of_gt I2.lt) (fun x c e=>?_) (I2.xf (Nat.le_refl _)) I2.sz fun p hp=>Nat.ne_of_lt (Heap.lt_size (I2.pin p hp).1)
    obtain ⟨v,z⟩:=I2.cell x c e
    exact Nat.ne_of_lt z.lt
   ·refine bQ (T.item (cE X scope N' ⟨cl,s2,upd H1 l (.lst []),fp⟩) rfl rfl rfl hc i [] s3 σ3 H3 (fun _ _=>False) J3 (fpY f3) t3 go) fun r s4 ⟨u,hr,h4⟩=>?_
    subst hr
    refine bQ h4 fun _ s5 ⟨x,H5,J5,r5,y5,t5,f5⟩=>?_
    have J5':=J5.pinned (fpY f5) (T.obj _ _ t5)
    refine bQ (pg _ s5 σ3 H5 x u _ J5' r5 (step x H5 y5)) fun _ s6 ⟨σ6,H6,J6,q6⟩=>?_
    refine bQ (pif _ s6 σ6 H6 _ J6 q6) fun ok s7 ⟨H7,J7,q7⟩=>?_
    have again:∀ {σ8:St} {H8:Hp} {s8:Shared} {acc8:List V},Inv (cE X scope N' ⟨cl,s2,upd H1 l (.lst []),fp⟩) ([] ++ kF fp s5.heap) σ8 H8 s8 → (∃ m',m' < n ∧ W (i + 1) m' σ8 acc8 H8) →
      ∃ m,m < n ∧ ∃ i σ' acc H',Inv (cE X scope N' ⟨cl,s2,upd H1 l (.lst []),fp⟩) [] σ' H' s8 ∧ tn i s8.heap ∧ (∀ b ∈ fp,H' b = none) ∧ W i m σ' acc H':=fun {σ8 H8 s8 acc8} J8 hw=>by
     obtain ⟨m',hm,w8⟩:=hw
     refine ⟨m',hm,i + 1,σ8,acc8,H8,J8.i7,T.keep _ _ _ t5 fun b hb o e=>(J8.pin (b,o) (List.mem_append_right _ (List.mem_append_right _ (gB hb e)))).1,fun b hb=>?_,w8⟩
     obtain ⟨o,e,d⟩:=T.obj _ _ t5 b hb
     exact (J8.pin (b,o) (List.mem_append_right _ (List.mem_append_right _ (gB hb e)))).2.1
    cases ok with
    | false=>exact again J7 q7
    | true =>
     refine bQ (pel _ s7 σ6 H7 _ J7 q7) fun xv s8 ⟨v,H8,J8,r8,hl8,m',hm,w8⟩=>?_
     have mtq:=bu (X:=cE X scope N' ⟨cl,s2,upd H1 l (.lst []),fp⟩)
     unfold nu at mtq
     refine bQ (mtq _ s8 σ6 H8 (.ref l) [v] (.ref l) [xv] (fun _ H9=>H9 = upd H8 l (.lst (acc ++ [v]))) J8 rfl (.cons r8 .nil) ⟨l,acc,v,rfl,rfl,hl8,hz,rfl⟩) fun _ s9 ⟨v9,H9,J9,_,e9⟩=>?_
     subst e9
     exact again J9 ⟨m',hm,w8⟩
  exact codeAny_compStart_list loop (T.self X.A 0 _ _ _ st3 loop)
theorem gF (hc:X.calm = true) (hk:scope.kind = .function) (hcell:∀ y ∈ scope.names,y.2 ≠ .cell) (hnames:∀ y ∈ scope.names,y.2 = .local → scope.names.lookup y.1 = some .local)
  (hfree:∀ y ∈ scope.names,y.2 = .free → (X.env.kindOf y.1 = some .cell ∨ X.env.kindOf y.1 = some .free)) (cap:xO X scope N' js) (hi:PI X tg iter wi)
  (blk:∀ B,PG (cE X scope N' B) tg (g B) ∧ mj (cE X scope N' B) ifs (tc B) ∧ PE (cE X scope N' B) elt (te B))
  (hs:∀ x,foldedSetIterable iter X.env x = pure x:=by intro _; rfl):PE X (.ListComp elt [⟨tg,iter,ifs,0⟩] scope pos) (vN js wi g tc te):=by
 unfold PE; unfold PI at hi
 exact by
  intro pins s σ H Q I h
  obtain ⟨cl,hcl,c1,c2⟩:=kT (scope:=scope) (env:=X.env) fun x hx hxf=>I.ok.has x.1 (hfree x hx hxf)
  rw [eval_ListComp]
  refine wpAny_comprehension_free (use:=none) rfl hs hcl hk hnames (bQ (hi pins s σ H _ I h) fun v s1 h1=>bQ h1 fun itv s2 h2=>?_)
  obtain ⟨it,fp,tn,J,H2,e,I2,T,st2,f2,hloop⟩:=h2
  subst e
  refine je (RR:=fun acc C=>compPost (model X.prog X.w) X.A X.xe none (EP X pins σ Q) acc C) hc hk hcell cap blk c1 c2 I2 T st2 f2 hloop ?_
  intro l C H' s' m' I' q ns fC hL hcl' hfs hs0 hpin
  exact ⟨m',ns,fun h'' sb=>⟨.ref l,H',I'.turned (t':=s'.toks) (fun b o hb e=>(sb.2 b hb).trans e) fC hL (.inr hs0) hcl' hpin,rfl,q⟩⟩
theorem e8 {i:Nat} {y:Str} {py spos:Pos} (hN:X.N.Nodup) (hy:X.N[i]? = some y) (hyk:X.env.kindOf y = some .local) (hc:X.calm = true) (hk:scope.kind = .function) (hcell:∀ y ∈ scope.names,y.2 ≠ .cell)
  (hnames:∀ y ∈ scope.names,y.2 = .local → scope.names.lookup y.1 = some .local)
  (hfree:∀ y ∈ scope.names,y.2 = .free → (X.env.kindOf y.1 = some .cell ∨ X.env.kindOf y.1 = some .free)) (cap:xO X scope N' js) (hi:PI X tg iter wi)
  (blk:∀ B,PG (cE X scope N' B) tg (g B) ∧ mj (cE X scope N' B) ifs (tc B) ∧ PE (cE X scope N' B) elt (te B))
  (hsw:swapsWith (.ListComp elt [⟨tg,iter,ifs,0⟩] scope pos) (some (.Name y py)) spos.line X.env = pure true:=by rfl)
  (hs:∀ x,foldedSetIterable iter X.env x = pure x:=by intro _; rfl):PS X (.Assign [.Name y py] (.ListComp elt [⟨tg,iter,ifs,0⟩] scope pos) spos) (vx (vN js wi g tc te) (sJ i)):=by
 unfold PS; unfold PI at hi
 exact by
  intro pins s σ H D I h
  obtain ⟨cl,hcl,c1,c2⟩:=kT (scope:=scope) (env:=X.env) fun x hx hxf=>I.ok.has x.1 (hfree x hx hxf)
  rw [exec_Assign_Name_used _ _ _ _ hsw]
  refine wpAny_bind (wpAny_standAt (wpAny_bind ?_))
  show wpAny _ X.A (do let _ ← comprehension (.ListComp elt [⟨tg,iter,ifs,0⟩] scope pos) scope X.env _ (newList []) false (eval iter X.env) (some (assign (.Name y py) X.env))) _ _ s
  refine wpAny_bind (wpAny_mono (wpAny_comprehension_free (use:=some (assign (.Name y py) X.env)) (Q:=fun _ s'=>SP X pins D .next s') rfl hs hcl hk hnames
   (bQ (hi pins s σ H _ I h) fun v s1 h1=>bQ h1 fun itv s2 h2=>?_)) (fun _ s' hq=>wpAny_pure (wpAny_pure hq)) fun _ _ e=>e)
  obtain ⟨it,fp,tn,J,H2,e,I2,T,st2,f2,hloop⟩:=h2
  subst e
  refine je (RR:=fun acc C=>compPost (model X.prog X.w) X.A X.xe (some (assign (.Name y py) X.env)) (fun _ s'=>SP X pins D .next s') acc C) hc hk hcell cap blk c1 c2 I2 T st2 f2 hloop ?_
  intro l C H' s' m' I' q ns fC hL hcl' hfs hs0 hpin
  show wpAny _ X.A (assign (.Name y py) X.env (.ref l)) _ _ _
  refine wpAny_assign_Name (lU (v:=.ref l) I' hN hy (.inl hyk) rfl (fun s'' I'' sb=>?_) (.inr hyk))
  obtain ⟨a,sb,ha⟩:=sb
  have hCa:C ≠ a:=by
   rcases ha with z | z
   ·rw [z]; exact hL
   ·exact fun z'=>hcl' y a z z'.symm
  refine ⟨m',ns.sameBut sb hCa,fun h'' sb2=>?_⟩
  exact ⟨σ.set i (some (.ref l)),H',I''.turned (t':=s''.toks) (fun b o hb e=>(sb2.2 b hb).trans e) fC hL (.inr hs0) hcl' hpin,q⟩
end
end L2
namespace L2
open PySem PySem.Spec PyProof.Rows
theorem bX.there {P:Program} {w:World} {H:Hp} {h:Heap} {a:Addr} {o:HO} (x:bX P w H h a o):∃ ob,h.get? a = some ob:=by
 cases o with
 | lst xs=>obtain ⟨_,_,_,_,e⟩:=x; exact ⟨_,e⟩
 | tup xs=>obtain ⟨_,_,_,ob,e,_⟩:=x; exact ⟨_,e⟩
 | dK kvs=>obtain ⟨_,_,_,_,o,_,_,e,_⟩:=x; exact ⟨_,e⟩
 | dT kvs=>obtain ⟨_,_,_,_,o,_,_,e,_⟩:=x; exact ⟨_,e⟩
 | set S n=>obtain ⟨o,_,_,_,e,_⟩:=x; exact ⟨_,e⟩
 | ins C dx fs=>obtain ⟨_,_,_,e,_⟩:=x; exact ⟨_,e⟩
 | own y=>obtain ⟨_,e⟩:=x; exact ⟨_,e⟩
 | xd fs=>obtain ⟨_,⟨_,_,_,e,_⟩,_⟩:=x; exact ⟨_,e⟩
 | rng lo hi=>obtain ⟨_,_,_,e⟩:=x; exact ⟨_,e⟩
 | frz ob u=>obtain ⟨e,_⟩:=x; exact ⟨_,e⟩
 | tbl ps=>exact ⟨_,(show h.get? a = some _ from x)⟩
 | met f y=>exact ⟨_,(show h.get? a = some _ from x)⟩
 | ext φ=>obtain ⟨_,⟨_,e⟩,_⟩:=x; exact ⟨_,e⟩
theorem fF.nE {P:Program} {w:World} {H:Hp} {h h':Heap} (x:fF P w H h) (k:∀ b u o,H b = some u → h.get? b = some o → h'.get? b = some o):fF P w H h':=fun a o e =>
 (x a o e).mG (fun b u hb q=>by
  rcases hb with z | z
  ·subst z; exact k _ _ _ e q
  ·exact k _ _ _ z q) (fun _ q=>q) fun _ _ q=>q
theorem lN (o:Obj) (f:Array Value → Array Value):(Obj.mapFields f o).dict = o.dict:=by
 obtain ⟨c,d,dt,sl⟩:=o
 cases dt <;> rfl
def kZ (h:Heap) (e:Addr) (C:Value) (dd:Option Addr) (t1:Value):Prop:=∃ oe vs,h.get? e = some oe ∧ oe.cls = C ∧ oe.dict = dd ∧ oe.data = .fields vs ∧ vs[1]? = some t1
def oB (h:Heap) (T:Addr) (fl:Value):Prop:=∃ oT ts,h.get? T = some oT ∧ oT.data = .fields ts ∧ ts[3]? = some fl
structure Moved (fs:List Addr) (e:Addr) (T0:Option Addr) (h h':Heap):Prop where
 keep:∀ b o,b ≠ e → some b ≠ T0 → b ∉ fs → h.get? b = some o → h'.get? b = some o
 slot:∀ b o,b ∈ fs → h.get? b = some o → ∃ sl,h'.get? b = some { o with slots:=sl }
 there:∀ b o,h.get? b = some o → ∃ o',h'.get? b = some o'
section
variable {M:Model} {A:Around} {E:Value → Shared → Prop} {s:Shared}
theorem gr {h:Heap} {a:Addr} {o:Obj} {vs:Array Value} {f:Array Value → Array Value} (e:h.get? a = some o) (hd:o.data = .fields vs):(h.update a (Obj.mapFields f)).get? a = some (Obj.mapFields f o) :=
 Heap.get?_update_self _ e (Obj.isFreed_of_fields (Obj.data_mapFields hd _))
theorem nj {base:Heap} {env:Env} {outer:List Env} {L e:Addr} {C:Value} {dd:Option Addr} {t1 head:Value} {hadNext:Bool} {Q:Unit → Shared → Prop}
  (hfr:A.frames = some (env :: outer)) (hl:s.heap.FunFrames base (env :: outer)) (hf:env.frame = some L) (X:kZ s.heap e C dd t1)
  (h:∀ h' T,kZ h' e C dd (.ref T) → oB h' T (rawInt L) → s.heap.objs.size ≤ T → T ≠ e → Moved (fM (env :: outer)) e none s.heap h' → Q () { s with heap:=h' }) :
  wpAny M A (do let a ← frameOf env; let pl ← entryPlaceOf L hadNext; let b ← EntryCells.newEntry head a .none (rawInt L) .none pl; setField (.ref e) 1 b) Q E s:=by
 obtain ⟨oe,vs,he,hC,hdd,hd,h1⟩:=X
 have ne:e ∉ fM (env :: outer):=fun hm=>by
  obtain ⟨_,o,ho,hnf⟩:=hl.mem hm
  rw [he] at ho; cases ho
  exact hnf vs hd
 refine wpAny_bind (wpAny_frameOf_fun hfr hl hf fun g so=>?_)
 refine wpAny_bind (wpAny_entryPlaceOf fun pl hpl=>?_)
 unfold EntryCells.newEntry newFields
 refine wpAny_bind (wpAny_newObj_type ?_ (hpl.sizeOk5 _ _ _ _ _))
 have hg:g.get? e = some oe:=(so.2.1 e ne).trans he
 have hsz:=(Array.getElem?_eq_some_iff.mp h1).1
 refine wpAny_setField (Heap.get?_push_of_some _ hg) hd hsz ?_
 have nT:g.objs.size ≠ e:=Nat.ne_of_gt (Heap.lt_size hg)
 refine h _ g.objs.size ⟨_,_,gr (Heap.get?_push_of_some _ hg) hd,(Obj.cls_mapFields _ _).trans hC,(lN _ _).trans hdd,Obj.data_mapFields hd _,by simp [hsz]⟩
  ⟨_,_,(Heap.get?_update_other _ _ (Ne.symm nT)).trans (Heap.get?_push_size g rfl),rfl,?_⟩ (Nat.le_of_eq so.1.symm) nT ⟨fun b o h1 _ h3 q=>?_,fun b o hb q=>?_,fun b o q=>?_⟩
 ·rcases hpl with rfl | ⟨_,_,_,_,_,_,_,rfl⟩ <;> simp
 ·rw [Heap.get?_update_other _ _ (Ne.symm h1)]
  exact Heap.get?_push_of_some _ ((so.2.1 b h3).trans q)
 ·obtain ⟨sl,z⟩:=so.2.2 b o q
  refine ⟨sl,?_⟩
  rw [Heap.get?_update_other _ _ (fun k=>ne (by rw [k]; exact hb))]
  exact Heap.get?_push_of_some _ z
 ·by_cases k:b = e
  ·rw [k]; exact ⟨_,gr (Heap.get?_push_of_some _ hg) hd⟩
  ·obtain ⟨sl,z⟩:=so.2.2 b o q
   exact ⟨_,by rw [Heap.get?_update_other _ _ (Ne.symm k)]; exact Heap.get?_push_of_some _ z⟩
theorem rV {base:Heap} {env:Env} {outer:List Env} {L e:Addr} {C:Value} {dd:Option Addr} {T0:Option Addr} {Q:Unit → Shared → Prop}
  (hfr:A.frames = some (env :: outer)) (hl:s.heap.FunFrames base (env :: outer)) (hf:env.frame = some L) (X:kZ s.heap e C dd (T0.elim .none Value.ref)) (hT:∀ T,T0 = some T → oB s.heap T .none ∧ T ≠ e)
  (h:∀ h' T,kZ h' e C dd (.ref T) → oB h' T (rawInt L) → s.heap.objs.size ≤ T → T ≠ e → Moved (fM (env :: outer)) e T0 s.heap h' → Q () { s with heap:=h' }) :
  wpAny M A (noteFrame (.ref e) env) Q E s:=by
 obtain ⟨oe,vs,he,hC,hdd,hd,h1⟩:=id X
 unfold noteFrame
 simp only [hf]
 refine wpAny_bind (wpAny_field he hd h1 ?_)
 cases T0 with
 | none =>
  rw [if_neg (by decide)]
  exact nj hfr hl hf X h
 | some T =>
  obtain ⟨⟨oT,ts,hT,hdT,h3⟩,hne⟩:=hT T rfl
  show wpAny M A (if (Value.ref T != Value.none) = true then _ else _) Q E s
  rw [if_pos (by simp)]
  refine wpAny_bind (wpAny_field hT hdT h3 ?_)
  rw [if_neg (by simp [rawInt])]
  refine wpAny_bind (wpAny_setField hT hdT (Array.getElem?_eq_some_iff.mp h3).1 ?_)
  have oth:∀ b,b ≠ T → (s.heap.update T (Obj.mapFields (·.setIfInBounds 3 Value.none))).get? b = s.heap.get? b:=fun b hb=>Heap.get?_update_other _ _ (Ne.symm hb)
  have nfr:∀ b o,b ∈ fM (env :: outer) → s.heap.get? b = some o → b ≠ T:=fun b o hb q z=>by
   obtain ⟨_,o',ho',hnf⟩:=hl.mem hb
   rw [z,hT] at ho'; cases ho'
   exact hnf _ hdT
  have hl2:(s.heap.update T (Obj.mapFields (·.setIfInBounds 3 Value.none))).FunFrames base (env :: outer):=hl.of_keeps fun b o hb hnf=>⟨o,(oth b fun z=>by rw [z,hT] at hb; cases hb; exact hnf _ hdT).trans hb,rfl⟩
  refine nj (s:={ s with heap:=s.heap.update T (Obj.mapFields (·.setIfInBounds 3 Value.none)) }) hfr hl2 hf ⟨oe,vs,(oth e (Ne.symm hne)).trans he,hC,hdd,hd,h1⟩ fun h' T2 x1 x2 x3 x4 mv=>?_
  have goneT:s.heap.objs.size ≤ T2:=Nat.le_trans (Nat.le_of_eq (Heap.size_after_update ..).symm) x3
  refine h h' T2 x1 x2 goneT x4 ⟨fun b o k1 k2 k3 q=>mv.keep b o k1 (by simp) k3 ((oth b fun z=>k2 (by rw [z])).trans q),fun b o hb q=>mv.slot b o hb ((oth b (nfr b o hb q)).trans q),fun b o q=>?_⟩
  by_cases k:b = T
  ·exact mv.there b _ (by rw [k]; exact gr hT hdT)
  ·exact mv.there b o ((oth b k).trans q)
theorem nP {e T:Addr} {C:Value} {dd:Option Addr} {fl:Value} {Q:Unit → Shared → Prop} (X:kZ s.heap e C dd (.ref T)) (hT:oB s.heap T fl) (hne:T ≠ e)
  (h:∀ h',kZ h' e C dd (.ref T) → oB h' T .none → (∀ b o,b ≠ T → s.heap.get? b = some o → h'.get? b = some o) → (∀ b o,s.heap.get? b = some o → ∃ o',h'.get? b = some o') → Q () { s with heap:=h' }) :
  wpAny M A (setFlight (.ref e) none) Q E s:=by
 obtain ⟨oe,vs,he,hC,hdd,hd,h1⟩:=X
 obtain ⟨oT,ts,hT,hdT,h3⟩:=hT
 have hsz:=(Array.getElem?_eq_some_iff.mp h3).1
 unfold setFlight
 refine wpAny_bind (wpAny_field he hd h1 ?_)
 rw [if_pos (by simp)]
 have oth:∀ b,b ≠ T → (s.heap.update T (Obj.mapFields (·.setIfInBounds 3 ((none:Option Addr).elim Value.none fun f=>rawInt f)))).get? b = s.heap.get? b:=fun b hb=>Heap.get?_update_other _ _ (Ne.symm hb)
 refine wpAny_setField hT hdT hsz (h _ ⟨oe,vs,(oth e (Ne.symm hne)).trans he,hC,hdd,hd,h1⟩ ⟨_,_,gr hT hdT,Obj.data_mapFields hdT _,by simp [hsz]⟩ (fun b o k q=>(oth b k).trans q) fun b o q=>?_)
 by_cases k:b = T
 ·rw [k]; exact ⟨_,gr hT hdT⟩
 ·exact ⟨o,(oth b k).trans q⟩
end
def kO (P:Program) (w:World):ja:=fun outer H s E u s'=>∃ (e:Addr) (C:Value) (dd:Option Addr) (T:Addr) (H':Hp),u = .ref e ∧ s'.os = s.os ∧ AllBare s'.gens ∧ Un (fM outer) [] H H' s.heap s'.heap ∧ fF P w H' s'.heap ∧
 kZ s'.heap e C dd (.ref T) ∧ oB s'.heap T .none ∧ T ≠ e ∧ H' e = none ∧ H' T = none ∧ s.heap.get? e = none ∧ s.heap.get? T = none ∧ E C dd H'
def eO (CX:ja) (X:Cx) (Ez:St → XK):Prop:=∀ (pins:List (Addr × Obj)) (σ:St) (H:Hp) (s:Shared) (e:Value) (s':Shared),Inv X pins σ H s → CX X.stack H s (Ez σ) e s' → X.xe e s'
theorem ic {l l':List Env} {H H':Hp} {h g h':Heap} {e:Addr} {T0:Option Addr} (u:Un (fM l') [] H H' h g) (mv:Moved (fM l) e T0 g h') (hsub:∀ b ∈ fM l',b ∈ fM l) (hnew:∀ b o,h.get? b = some o → b ∈ fM l → b ∈ fM l')
  (he:h.get? e = none) (hT:∀ T,T0 = some T → h.get? T = none):Un (fM l') [] H H' h h':=by
 have k1:∀ b o,h.get? b = some o → b ≠ e:=fun b o q z=>by rw [z,he] at q; cases q
 have k2:∀ b o,h.get? b = some o → some b ≠ T0:=fun b o q z=>by rw [hT b z.symm] at q; cases q
 refine ⟨fun b o q n hb hx=>?_,fun b o q n hb hx=>?_,u.free,fun b o q hx=>?_,u.tups,u.frzs,u.tbls⟩
 ·exact mv.keep b o (k1 b o q) (k2 b o q) (fun z=>hb (hnew b o q z)) (u.keep b o q n hb hx)
 ·obtain ⟨sl,q1⟩:=u.slot b o q n hb hx
  obtain ⟨sl2,q2⟩:=mv.slot b _ (hsub b hb) q1
  exact ⟨sl2,q2⟩
 ·obtain ⟨o1,q1⟩:=u.there b o q hx
  exact mv.there b o1 q1
section
variable {P:Program} {w:World} {K:PySem.W.Frag} {mg:Str → Option Value} {base:Heap} {N:List Str} {qual:Str} {scope:Scope} {f:Addr} {cd:Value} {A:Around} {outer:List Env} {s₀:Shared} {H₀:Hp} {E:XK}
theorem iX {env:Env} {outer:List Env} {L:Addr} (h:env.frame = some L):fM (env :: outer) = L :: fM outer:=by
 unfold fM
 rw [List.filterMap_cons,h]
theorem gh {M:Model} {A:Around} {E:Value → Shared → Prop} {s:Shared} {base:Heap} {env:Env} {outer:List Env} {L e:Addr} {C:Value} {dd:Option Addr} {T0:Option Addr} {Q:Unit → Shared → Prop}
  (hfr:A.frames = some (env :: outer)) (hl:s.heap.FunFrames base (env :: outer)) (hf:env.frame = some L) (X:kZ s.heap e C dd (T0.elim .none Value.ref)) (hT:∀ T,T0 = some T → oB s.heap T .none ∧ T ≠ e)
  (h:∀ h' T,kZ h' e C dd (.ref T) → oB h' T .none → s.heap.objs.size ≤ T → T ≠ e → Moved (fM (env :: outer)) e T0 s.heap h' → Q () { s with heap:=h' }) :
  wpAny M A (noteFrame (.ref e) env) (fun _ s2=>wpAny M A (setFlight (.ref e) none) Q E s2) E s:=by
 refine rV hfr hl hf X hT fun h1 T x1 x2 x3 x4 mv=>?_
 refine nP (s:={ s with heap:=h1 }) x1 x2 x4 fun h2 y1 y2 k1 k2=>h h2 T y1 y2 x3 x4 ?_
 have nT:∀ b o,s.heap.get? b = some o → b ≠ T:=fun b o q z=>absurd (Heap.lt_size q) (by rw [z]; exact Nat.not_lt.mpr x3)
 refine ⟨fun b o z1 z2 z3 q=>k1 b o (nT b o q) (mv.keep b o z1 z2 z3 q),fun b o hb q=>?_,fun b o q=>?_⟩
 ·obtain ⟨sl,q1⟩:=mv.slot b o hb q
  exact ⟨sl,k1 b _ (nT b o q) q1⟩
 ·obtain ⟨o1,q1⟩:=mv.there b o q
  exact k2 b o1 q1
theorem eQ {base h h':Heap}:∀ {l:List Env},h.FunFrames base l → (∀ b o,b ∈ fM l → h.get? b = some o → ∃ sl,h'.get? b = some { o with slots:=sl }) → h'.FunFrames base l
 | [],_,_=>trivial
 | env :: r,hl,k=>by
  obtain ⟨hk,⟨L,o,hf,hn,ho,hd⟩,hr⟩:=hl
  have e:=iX (outer:=r) hf
  obtain ⟨sl,z⟩:=k L o (by rw [e]; exact List.mem_cons_self) ho
  exact ⟨hk,⟨L,_,hf,hn,z,hd⟩,eQ hr fun b o' hb q=>k b o' (by rw [e]; exact List.mem_cons_of_mem _ hb) q⟩
theorem tP {fs:List Addr} {L:Addr} {H H1 H2:Hp} {h h1 h2:Heap} (a:Un fs [] H H1 h h1) (b:Un (L :: fs) [] H1 H2 h1 h2) (hL:h.get? L = none):Un fs [] H H2 h h2 where
 keep:=fun c o q n hc hx=>b.keep c o (a.keep c o q n hc hx) (a.free c o q n hx) (fun z=>(List.mem_cons.mp z).elim (fun y=>by rw [y,hL] at q; cases q) hc) (by simp)
 slot:=fun c o q n hc hx=>by
  obtain ⟨sl,q1⟩:=a.slot c o q n hc hx
  obtain ⟨sl2,q2⟩:=b.slot c _ q1 (a.free c o q n hx) (List.mem_cons_of_mem _ hc) (by simp)
  exact ⟨sl2,q2⟩
 free:=fun c o q n hx=>by
  obtain ⟨o1,q1⟩:=a.there c o q hx
  exact b.free c o1 q1 (a.free c o q n hx) (by simp)
 there:=fun c o q hx=>by
  obtain ⟨o1,q1⟩:=a.there c o q hx
  exact b.there c o1 q1 (by simp)
 tups:=fun c xs q=>b.tups c xs (a.tups c xs q)
 frzs:=fun c o xs q=>b.frzs c o xs (a.frzs c o xs q)
 tbls:=fun c ps q=>by
  obtain ⟨m1,e1⟩:=a.tbls c ps q
  obtain ⟨m2,e2⟩:=b.tbls c _ e1
  exact ⟨m1 ++ m2,by rw [e2,Array.append_assoc]⟩
theorem nV:eO (kO P w) (kI (kO P w) P w K mg base N qual scope f cd A outer s₀ H₀ E) (fun _=>E):=by
 intro pins σ H s u s' I h
 obtain ⟨e,C,dd,T,H',rfl,os,bare,un,hok,x1,x2,x3,f1,f2,n1,n2,hE⟩:=h
 have fe:fM (envOfC qual scope s₀.heap.objs.size f cd :: outer) = s₀.heap.objs.size :: fM outer:=iX rfl
 have un':Un (s₀.heap.objs.size :: fM outer) [] H H' s.heap s'.heap:=by rw [← fe]; exact un
 have ib:Un (fM outer) [] H₀ H s₀.heap s.heap:=I.base
 have nL:s₀.heap.get? s₀.heap.objs.size = none:=Heap.get?_none_of_le (Nat.le_refl _)
 have um:=tP ib un' nL
 have hfun:s'.heap.FunFrames base (envOfC qual scope s₀.heap.objs.size f cd :: outer):=eQ I.stack fun b o hb q=>un.slot b o q (I.fH b hb) hb (by simp)
 have ntr:∀ b u,H' b = some u → b ∉ fM (envOfC qual scope s₀.heap.objs.size f cd :: outer):=fun b u q hb=>by
  obtain ⟨_,o,ho,_⟩:=I.stack.mem hb
  have:=un.free b o ho (I.fH b hb) (by simp)
  rw [q] at this; cases this
 show wpAny _ _ (leaving _ (.ref e)) _ _ s'
 unfold leaving
 refine wpAny_bind (gh (T0:=some T) (L:=s₀.heap.objs.size) I.ok.frames hfun rfl x1 (fun T' z=>by cases z; exact ⟨x2,x3⟩) fun h' T2 y1 y2 y3 y4 mv=>?_)
 have none_of:∀ b,s.heap.get? b = none → s₀.heap.get? b = none:=fun b hb=>by
  cases q:s₀.heap.get? b with
  | none=>rfl
  | some o=>obtain ⟨o1,q1⟩:=ib.there b o q (by simp); rw [hb] at q1; cases q1
 refine ⟨e,C,dd,T2,H',rfl,os.trans I.os,bare,ic (l:=envOfC qual scope s₀.heap.objs.size f cd :: outer) um mv (fun b hb=>by rw [fe]; exact List.mem_cons_of_mem _ hb) (fun b o q hb=>?_) (none_of e n1) (fun T' z=>by cases z; exact none_of T n2),
  hok.nE fun b u o q1 q2=>mv.keep b o (fun z=>by rw [z,f1] at q1; cases q1) (fun z=>by cases z; rw [f2] at q1; cases q1) (ntr b u q1) q2,y1,y2,y4,f1,?_,none_of e n1,?_,hE⟩
 ·rw [fe] at hb
  rcases List.mem_cons.mp hb with z | z
  ·rw [z,nL] at q; cases q
  ·exact z
 ·cases q:H' T2 with
  | none=>rfl
  | some u=>obtain ⟨ob,hob⟩:=(hok T2 u q).there; exact absurd (Heap.lt_size hob) (Nat.not_lt.mpr y3)
 ·cases q:s₀.heap.get? T2 with
  | none=>rfl
  | some o=>obtain ⟨o1,q1⟩:=um.there T2 o q (by simp); exact absurd (Heap.lt_size q1) (Nat.not_lt.mpr y3)
def Rz (X:Cx) (E:XK):Prop:=∀ (pins:List (Addr × Obj)) (σ:St) (H:Hp) (s:Shared) (h':Heap) (e:Addr) (C:Value) (vs:List Value),Inv X pins σ H s → Heap.MadeExcOf s.heap h' e C vs → E C none H → X.xe (.ref e) { s with heap:=h' }
theorem ek:Rz (kI (kO P w) P w K mg base N qual scope f cd A outer s₀ H₀ E) E:=by
 intro pins σ H s h1 e C vs I mx hE
 obtain ⟨t,he,htn,ht⟩:=mx.there
 have fe:fM (envOfC qual scope s₀.heap.objs.size f cd :: outer) = s₀.heap.objs.size :: fM outer:=iX rfl
 have ib:Un (fM outer) [] H₀ H s₀.heap s.heap:=I.base
 have nL:s₀.heap.get? s₀.heap.objs.size = none:=Heap.get?_none_of_le (Nat.le_refl _)
 have um:Un (fM outer) [] H₀ H s₀.heap h1:=ib.trans (Un.kept mx.keeps)
 have hfun:h1.FunFrames base (envOfC qual scope s₀.heap.objs.size f cd :: outer):=eQ I.stack fun b o hb q=>⟨o.slots,mx.keeps b o q⟩
 have ntr:∀ b u,H b = some u → b ∉ fM (envOfC qual scope s₀.heap.objs.size f cd :: outer):=fun b u q hb=>by
  have:=I.fH b hb
  rw [q] at this; cases this
 have hok1:fF P w H h1:=I.hok.kept mx.keeps
 have fE:H e = none:=by
  cases q:H e with
  | none=>rfl
  | some u=>obtain ⟨ob,hob⟩:=(I.hok e u q).there; rw [mx.new] at hob; cases hob
 have none_of:∀ b,s.heap.get? b = none → s₀.heap.get? b = none:=fun b hb=>by
  cases q:s₀.heap.get? b with
  | none=>rfl
  | some o=>obtain ⟨o1,q1⟩:=ib.there b o q (by simp); rw [hb] at q1; cases q1
 show wpAny _ _ (leaving _ (.ref e)) _ _ { s with heap:=h1 }
 unfold leaving
 refine wpAny_bind (gh (s:={ s with heap:=h1 }) (T0:=none) (L:=s₀.heap.objs.size) (C:=C) (dd:=none) I.ok.frames hfun rfl ⟨_,_,he,rfl,rfl,rfl,rfl⟩ (fun T' z=>by cases z) fun h' T2 y1 y2 y3 y4 mv=>?_)
 refine ⟨e,C,none,T2,H,rfl,I.os,I.bare,ic (l:=envOfC qual scope s₀.heap.objs.size f cd :: outer) um mv (fun b hb=>by rw [fe]; exact List.mem_cons_of_mem _ hb) (fun b o q hb=>?_) (none_of e mx.new) (fun T' z=>by cases z),
  hok1.nE fun b u o q1 q2=>mv.keep b o (fun z=>by rw [z,fE] at q1; cases q1) (by simp) (ntr b u q1) q2,y1,y2,y4,fE,?_,none_of e mx.new,?_,hE⟩
 ·rw [fe] at hb
  rcases List.mem_cons.mp hb with z | z
  ·rw [z,nL] at q; cases q
  ·exact z
 ·cases q:H T2 with
  | none=>rfl
  | some u=>obtain ⟨ob,hob⟩:=(hok1 T2 u q).there; exact absurd (Heap.lt_size hob) (Nat.not_lt.mpr y3)
 ·cases q:s₀.heap.get? T2 with
  | none=>rfl
  | some o=>obtain ⟨o1,q1⟩:=um.there T2 o q (by simp); exact absurd (Heap.lt_size q1) (Nat.not_lt.mpr y3)
end
def wI (sp:Sp) (dvs:List V) (Ez:St → XK) (t:TA):TE:=fun σ H Q=>t σ H fun vs H1=>sp (vs ++ dvs) H1 Q (Ez σ)
section
variable {X:Cx} {CX:ja} {k:Nat} {f C:Addr} {fd:FuncData} {ps:List Str} {sp:Sp} {dvs:List V} {ds:List Value} {Ez:St → XK} {x m:Str} {p pos apos:Pos} {e o:Expr} {es:List Expr} {ta:TE} {t:TA}
theorem pW {pins:List (Addr × Obj)} {σ:St} {H:Hp} {s:Shared} {Q:VK} {us:List Value} {vs:List V} (F:aw X.prog X.w X.K X.mg X.base CX k f fd ps sp) (hr:bx k X.A) (hb:Binds X.K fd ps ds) (hd:Vals dvs ds) (hx:eO CX X Ez)
  (I:Inv X pins σ H s) (r:Vals vs us) (h:sp (vs ++ dvs) H Q (Ez σ)):wpAny (model X.prog X.w) X.A (call (.ref f) us) (EP X pins σ Q) X.xe s:=by
 have r2:Vals (vs ++ dvs) (us ++ ds):=r.append hd
 have hl:(us ++ ds).length = ps.length:=by rw [← r2.length]; exact F.len _ _ _ _ h
 refine wpAny_call (codeAny_mono (F.run X.A X.stack s H ⟨us,[]⟩ (us ++ ds) (vs ++ dvs) Q (Ez σ) hr I.qQ (hb s us I.dk hl) r2 h) fun r s' hq=>?_)
 cases r with
 | error e=>exact hx pins σ H s e s' I hq
 | ok fl =>
  cases fl with
  | ret u=>exact I.after hq
  | next=>exact False.elim hq
  | brk=>exact False.elim hq
  | cont=>exact False.elim hq
theorem jk (F:aw X.prog X.w X.K X.mg X.base CX k f fd ps sp) (hr:bx k X.A) (hg:Gl X x) (hm:X.mg x = some (.ref f)) (hk:PySem.W.keepIn X.K (.ref f) = true) (hb:Binds X.K fd ps ds) (hd:Vals dvs ds) (hx:eO CX X Ez)
  (ha:PA X (e :: es) t) (hdb:(x == ("__debug__" : Str)) = false:=by decide) (he:starEach (e :: es) X.env = (false,eval e X.env) :: starEach es X.env:=by rfl) (hpl:(backTo pos (starEach es X.env)).any (·.1) = false:=by rfl) :
  PE X (.Call (.Name x p) (e :: es) [] pos) (wI sp dvs Ez t):=by
 unfold PE at *; unfold PA at *
 exact by
  intro pins s σ H Q I h
  refine wpAny_Call_Name_kw (dS I hg hm ?_ hdb)
  refine PySem.W.callWith_K (h₀:=X.base) I.ok.mod.kin hk (bQ (ha pos pins s σ H _ I h) fun us s1 ⟨vs,H1,I1,r,q⟩=>⟨I1.dk,?_⟩) he hpl
  exact pW F hr hb hd hx I1 r q
end
end L2
namespace L2
open PySem PySem.Spec PyProof.Rows
def ig:List Value:=[.type "ValueError",.type "Exception",.type "BaseException",.type "object"]
def xV (K:PySem.W.Frag) (N:Addr) (es:Array DictEntry):Prop:=∃ c d ep sl,K.lookup N = some ⟨c,d,.dict es ep,sl⟩ ∧ StrKeys es
theorem xV.ns {K:PySem.W.Frag} {N:Addr} {es:Array DictEntry} {h:Heap} (x:xV K N es) (X:K.In h):h.Ns N (nsFind es):=by
 obtain ⟨c,d,ep,sl,lk,sk⟩:=x
 exact ⟨_,es,ep,X _ _ lk,rfl,sk,fun _=>rfl⟩
inductive jS (K:PySem.W.Frag):List Value → Prop
 | base:jS K ig
 | own {A:Addr} {c0:Value} {dd:Option Addr} {cd:ClassData} {sl:Array (Option Value)} {tl:List Value} {es:Array DictEntry} :
   K.lookup A = some { cls:=c0,dict:=dd,data:=.cls cd,slots:=sl } → xV K cd.ns es → nsFind es "__init__" = none → jS K tl → jS K (.ref A :: tl)
theorem jS.rS {K:PySem.W.Frag} {h:Heap} {bm:List Value} (t:jS K bm) (X:K.In h):OwnTail h ig bm:=by
 induction t with
 | base=>exact .base
 | own l n i _ ih=>exact .own (X _ _ l) (n.ns X) i ih
structure iL (K:PySem.W.Frag) (C:Addr):Prop where
 ex:∃ nm q N bs bm hdct sn sub ab col dd k0 k1 k2 k3 k5 es,K.lookup C = some (excClassObj nm q C N bs bm hdct sn sub ab col dd k0 k1 k2 k3 k5 "ValueError.__new__") ∧ xV K N es ∧ nsFind es "__init__" = none ∧ jS K bm
def wH (t:TA) (C:Value) (E:XK):TS:=fun _ σ H=>t σ H fun vs H1=>vs.length ≤ sizeLine ∧ E C none H1
theorem cY {X:Cx} {C:Addr} {x:Str} {np cpos pos:Pos} {e₀:Expr} {rest:List Expr} {t:TA} {E:XK} (xc:iL X.K C) (hc:X.calm = true) (hg:Gl X x) (hm:X.mg x = some (.ref C)) (hz:Rz X E) (ha:PA X (e₀ :: rest) t)
  (hdb:(x == ("__debug__" : Str)) = false:=by decide) (he:starEach (e₀ :: rest) X.env = (false,eval e₀ X.env) :: starEach rest X.env:=by rfl) (hpl:(backTo cpos (starEach rest X.env)).any (·.1) = false:=by rfl) :
  PS X (.Raise (some (.Call (.Name x np) (e₀ :: rest) [] cpos)) none pos) (wH t (.ref C) E):=by
 unfold PA at *; unfold PS at *
 exact by
  intro pins s σ H D I h
  obtain ⟨nm,q,N,bs,bm,hdct,sn,sub,ab,col,dd,k0,k1,k2,k3,k5,es,lk,nk,ni,tl⟩:=xc.ex
  refine wpAny_Raise_call_subT (C:=C) (nm:=nm) (q:=q) (N:=N) (bs:=bs) (bm:=bm) (hdct:=hdct) (sn:=sn) (sub:=sub) (ab:=ab) (col:=col) (dd:=dd) (k0:=k0) (k1:=k1) (k2:=k2) (k3:=k3) (k5:=k5)
   F.excBase_ValueError (mN:=nsFind es) ((tl.rS I.dk).hasType F.excBase_ValueError.hasBase) (I.ok.hd hc) ?_ ni (dS I hg hm ⟨rfl,?_⟩ hdb)
  ·rw [he]
   show (false || (backTo cpos (starEach rest X.env)).any (·.1)) = false
   rw [hpl]; rfl
  ·have hA:=ha cpos pins s σ H _ I h
   rw [he] at hA ⊢
   refine Calls.evalArgs_plain (wpAny_mono hA (fun us s2 ⟨vs,H1,I1,r,z,hE⟩=>?_) fun _ _ y=>y)
   exact ⟨rfl,by rw [← r.length]; exact z,I1.dk _ _ lk,nk.ns I1.dk,tl.rS I1.dk,fun h' e mx=>hz pins σ H1 s2 h' e (.ref C) us I1 mx hE⟩
theorem lq.uz {P:Program} {w:World} {K:PySem.W.Frag} {mg:Str → Option Value} {base:Heap} {x qual:Str} {st:Stmt} {f:Addr} {fd:FuncData} {N ps:List Str} {k:Nat} {sp:Sp} (F:lq K x qual st f fd) (S:aU N ps (aF st)) (len:∀ vs H Q E,sp vs H Q E → vs.length = ps.length)
  (hbody:∀ (cdv:Value) (A:Around) (outer:List Env) (s:Shared) (H:Hp) (vs:List V) (Q:VK) (E:XK),bx k (A.deeper (envOfC qual (aF st) s.heap.objs.size f cdv)) → sp vs H Q E →
   ∃ t,iD (kI (kO P w) P w K mg base N qual (aF st) f cdv A outer s H E) (aR st) t ∧ t { nx:=fun _ H'=>Q .ax H',rt:=Q } (start N vs) H):aw P w K mg base (kO P w) (k + 1) f fd ps sp:=by
 obtain ⟨oc,od,kV,doc,pm,an,cdv,ct,osl,rfl,lk,hcd⟩:=F.ex
 exact rh lk hcd S len fun A outer s H vs Q E hr hsp=>hbody cdv A outer s H vs Q E hr hsp
section
variable {X:Cx} {pins pins':List (Addr × Obj)} {σ:St} {H:Hp} {s:Shared} {W:Value → Shared → Prop}
def Cx.tr (X:Cx) (pins:List (Addr × Obj)) (W:Value → Shared → Prop):Cx:={ X with xe:=W,pn:=X.pn ++ pins }
theorem Cx.Ok.tr (ok:X.Ok):(X.tr pins W).Ok:=⟨ok.mod,ok.kind,ok.glob,ok.blt,ok.above,ok.inj,ok.has,ok.cab,ok.hd,ok.frames,ok.stk,ok.exf,ok.bs,ok.bsz,ok.noex,ok.exfs,ok.gN,ok.frf⟩
theorem Cx.Ok.mS (ok:(X.tr pins W).Ok):X.Ok:=⟨ok.mod,ok.kind,ok.glob,ok.blt,ok.above,ok.inj,ok.has,ok.cab,ok.hd,ok.frames,ok.stk,ok.exf,ok.bs,ok.bsz,ok.noex,ok.exfs,ok.gN,ok.frf⟩
theorem Inv.tr (I:Inv X pins σ H s):Inv (X.tr pins W) [] σ H s:=⟨I.ok.tr,I.os,I.bare,I.base,I.loc,I.cell,I.free,I.freeC,fun p hp=>I.pin p (by simpa [Cx.tr] using hp),I.hok,I.len⟩
theorem Inv.mS (I:Inv (X.tr pins W) pins' σ H s):Inv X pins σ H s:=⟨I.ok.mS,I.os,I.bare,I.base,I.loc,I.cell,I.free,I.freeC,fun p hp=>I.pin p (List.mem_append_left _ hp),I.hok,I.len⟩
theorem SP.mS {D:Ends} {f:Flow} (h:SP (X.tr pins W) pins' D f s):SP X pins D f s:=by
 cases f with
 | next=>obtain ⟨a,b,I,q⟩:=h; exact ⟨a,b,I.mS,q⟩
 | brk=>obtain ⟨a,b,I,q⟩:=h; exact ⟨a,b,I.mS,q⟩
 | cont=>obtain ⟨a,b,I,q⟩:=h; exact ⟨a,b,I.mS,q⟩
 | ret u=>obtain ⟨v,a,b,I,r,q⟩:=h; exact ⟨v,a,b,I.mS,r,q⟩
def Cx.sO (X:Cx) (e:Addr):Cx:={ X with A:=X.A.mark (some (.ref e)),calm:=false,xe:=fun _ _=>False }
theorem Cx.Ok.sO (ok:X.Ok) (e:Addr):(X.sO e).Ok:=⟨ok.mod,ok.kind,ok.glob,ok.blt,ok.above,ok.inj,ok.has,ok.cab,fun z=>Bool.noConfusion z,ok.frames,ok.stk,ok.exf,ok.bs,ok.bsz,ok.noex,ok.exfs,ok.gN,ok.frf⟩
theorem Inv.sO (I:Inv X pins σ H s) (e:Addr):Inv (X.sO e) pins σ H s:=⟨I.ok.sO e,I.os,I.bare,I.base,I.loc,I.cell,I.free,I.freeC,I.pin,I.hok,I.len⟩
theorem Inv.qH {e:Addr} (ok:X.Ok) (I:Inv (X.sO e) pins σ H s):Inv X pins σ H s:=⟨ok,I.os,I.bare,I.base,I.loc,I.cell,I.free,I.freeC,I.pin,I.hok,I.len⟩
theorem Inv.adopt {e:Addr} {o:HO} (I:Inv X pins σ H s) (hn:H e = none) (h0:X.s₀.heap.get? e = none) (hL:e ≠ X.env.locals) (hc:∀ x c,X.env.cells.lookup x = some c → c ≠ e) (hp:∀ p ∈ X.pn ++ pins,p.1 ≠ e)
  (new:bX X.prog X.w (upd H e o) s.heap e o):Inv X pins σ (upd H e o) s:=by
 have ne:∀ b u,H b = some u → b ≠ e:=fun b u q z=>by rw [z,hn] at q; cases q
 refine ⟨I.ok,I.os,I.bare,⟨I.base.keep,I.base.slot,fun b ob q n hx=>?_,I.base.there,fun b xs q=>?_,fun b ob u q=>?_,fun b ps q=>?_⟩,I.loc,I.cell,?_,fun x c q=>?_,fun p hq=>?_,fun b u q=>?_,I.len⟩
 ·rw [aH (fun z=>by rw [z,h0] at q; cases q)]
  exact I.base.free b ob q n hx
 ·have q1:=I.base.tups b xs q
  rw [aH (ne b _ q1)]; exact q1
 ·have q1:=I.base.frzs b ob u q
  rw [aH (ne b _ q1)]; exact q1
 ·obtain ⟨m,q1⟩:=I.base.tbls b ps q
  exact ⟨m,by rw [aH (ne b _ q1)]; exact q1⟩
 ·rw [aH (Ne.symm hL)]; exact I.free
 ·rw [aH (hc x c q)]; exact I.freeC x c q
 ·obtain ⟨a1,a2,a3,a4,a5⟩:=I.pin p hq
  exact ⟨a1,by rw [aH (hp p hq)]; exact a2,a3,a4,a5⟩
 ·by_cases hb:b = e
  ·subst hb; rw [aC] at q; cases q; exact new
  ·rw [aH hb] at q
   exact (I.hok b u q).mG (fun _ _ _ z=>z) (fun c z=>by rw [aH (ne c _ z)]; exact z) fun c xs z=>by rw [aH (ne c _ z)]; exact z
theorem j7 {M:Model} {A:Around} {E:Value → Shared → Prop} {i:Nat} {n:Str} {pos:Pos} {Q:Unit → Shared → Prop} (I:Inv X pins σ H s) (hN:X.N.Nodup) (hi:X.N[i]? = some n) (hk:X.env.kindOf n = some .local)
  (h:∀ s',Inv X pins (σ.set i none) H s' → Q () s'):wpAny M A (do bindName X.env n .none; unbindBehindTheSuite X.env n pos) Q E s:=by
 obtain ⟨m,hn,hl⟩:=id I.loc
 have hcls:(X.env.scope.kind == .class || (X.env.scope.kind == .module && X.env.locals != X.env.globals)) = false:=by rw [I.ok.kind]; rfl
 refine wpAny_nameGoes_keeps hk hn hcls fun h' v hn' hs=>h _ ?_
 obtain ⟨oL,_,_,hoL,_⟩:=id hn
 have kb:∀ b o,b ≠ X.env.locals → s.heap.get? b = some o → h'.get? b = some o:=fun b o hb e=>(hs.2 b hb).trans e
 have nL:∀ b o,X.s₀.heap.get? b = some o → b ≠ X.env.locals:=fun b o e=>Nat.ne_of_lt (Nat.lt_of_lt_of_le (Heap.lt_size e) I.ok.above)
 refine ⟨I.ok,I.os,I.bare,⟨fun b o e n hb hx=>kb b o (nL b o e) (I.base.keep b o e n hb hx),fun b o e n hb hx=>?_,I.base.free,fun b o e hx=>?_,I.base.tups,I.base.frzs,I.base.tbls⟩,⟨_,hn',fun j y v' e1 e2 e3=>?_⟩,fun y c e=>?_,I.free,I.freeC,fun p hp=>?_,
  I.hok.nE fun b u o q1 q2=>kb b o (fun z=>by rw [z,I.free] at q1; cases q1) q2,by simpa using I.len⟩
 ·obtain ⟨sl,e1⟩:=I.base.slot b o e n hb hx
  exact ⟨sl,kb b _ (nL b o e) e1⟩
 ·obtain ⟨o',e1⟩:=I.base.there b o e hx
  exact ⟨o',kb b o' (nL b o e) e1⟩
 ·by_cases hj:j = i
  ·subst hj
   have hj':j < σ.length:=by rw [I.len]; exact (List.getElem?_eq_some_iff.mp e1).1
   rw [List.getElem?_set_self hj'] at e2
   cases e2
  ·rw [List.getElem?_set_ne (Ne.symm hj)] at e2
   obtain ⟨u',r',q⟩:=hl j y v' e1 e2 e3
   refine ⟨u',r',?_⟩
   rcases q with ⟨k,e⟩ | ⟨k,c,e,z⟩
   ·refine .inl ⟨k,?_⟩
    have:y ≠ n:=fun e=>hj (kE hN e1 (e ▸ hi))
    simp [this,e]
   ·exact .inr ⟨k,c,e,z.sameBut hs (I.uW y c e)⟩
 ·obtain ⟨w',z⟩:=I.cell y c e
  exact ⟨w',z.sameBut hs (I.uW y c e)⟩
 ·obtain ⟨e,n',ne,nf,d⟩:=I.pin p hp
  exact ⟨kb _ _ ne e,n',ne,nf,d⟩
end
def pL (C:Value) (dd:Option Addr) (e:Addr):HO:=.ext fun h=>∃ oe vs,h.get? e = some oe ∧ oe.cls = C ∧ oe.dict = dd ∧ oe.data = .fields vs
theorem vn {P:Program} {w:World} {H:Hp} {h:Heap} {e:Addr} {C t1:Value} {dd:Option Addr} (x:kZ h e C dd t1):bX P w H h e (pL C dd e):=by
 obtain ⟨oe,vs,he,hC,hdd,hd,_⟩:=x
 exact ⟨⟨oe,vs,he,hC,hdd,hd⟩,⟨oe,he⟩,fun h1 h2 ⟨o,v,q,r⟩ k=>⟨o,v,k o q,r⟩⟩
def zN (K:PySem.W.Frag) (Cv:Value) (i:Nat) (tb:(St → XK) → List (Addr × Obj) → (Value → Shared → Prop) → TS) (th:Addr → TS):TS:=fun D σ H=>∃ Ez:St → XK,(∀ pins W,tb Ez pins W D σ H) ∧
 ∀ σ1 C dd H1,Ez σ1 C dd H1 → PySem.W.exmOne K C Cv = some true ∧ ∀ e,H1 e = none →
  th e { nx:=fun σ2 H2=>D.nx (σ2.set i none) H2,rt:=D.rt,bk:=fun σ2 H2=>D.bk (σ2.set i none) H2,ct:=fun σ2 H2=>D.ct (σ2.set i none) H2 } (σ1.set i (some (.ref e))) (upd H1 e (pL C dd e))
section
variable {X:Cx}
theorem wz {body suite:List Stmt} {b₀:Stmt} {tx n:Str} {i:Nat} {np hpos pos:Pos} {Cv:Value} {tb:(St → XK) → List (Addr × Obj) → (Value → Shared → Prop) → TS} {th:Addr → TS}
  (hst:X.stack = X.env :: X.outer) (hfr:X.env.frame = some X.env.locals) (hex:X.ex = []) (hN:X.N.Nodup) (hi:X.N[i]? = some n) (hk:X.env.kindOf n = some .local) (hg:Gl X tx) (hm:X.mg tx = some Cv)
  (hb:∀ Ez pins W,eO (kO X.prog X.w) (X.tr pins W) Ez → iD (X.tr pins W) body (tb Ez pins W)) (hs:∀ e,iD (X.sO e) (b₀ :: suite) (th e)) (hdb:(tx == ("__debug__" : Str)) = false:=by decide) :
  PS X (.Try body [.ExceptHandler (some (.Name tx np)) (some n) (b₀ :: suite) hpos] [] [] pos) (zN X.K Cv i tb th):=by
 unfold PS at *; unfold iD at *
 exact by
  intro pins s σ H D I h
  obtain ⟨Ez,hb1,hh⟩:=h
  let W:Value → Shared → Prop:=fun u s'=>∃ σ1 H1 s1,Inv X pins σ1 H1 s1 ∧ kO X.prog X.w X.stack H1 s1 (Ez σ1) u s'
  have hp:eO (kO X.prog X.w) (X.tr pins W) Ez:=fun pins' σ1 H1 s1 u s' I1 hx=>⟨σ1,H1,s1,I1.mS,hx⟩
  refine wpAny_Try_except (wpAny_mono ((hb Ez pins W hp) [] s σ H D I.tr (hb1 pins W)) (fun f s1 q=>?_) (fun u s' q=>?_))
  ·have q':=q.mS
   cases f with
   | next=>exact wpAny_execs_nil q'
   | brk=>exact q'
   | cont=>exact q'
   | ret v=>exact q'
  ·obtain ⟨σ1,H1,s1,I1,e,C,dd,T,H',rfl,os,bare,un,hok,x1,x2,x3,f1,f2,n1,n2,hE⟩:=q
   have hfun:s'.heap.FunFrames X.base (X.env :: X.outer):=by
    rw [← hst]
    exact eQ I1.stack fun b o hb q=>un.slot b o q (I1.fH b hb) hb (by simp)
   refine gh (T0:=some T) (L:=X.env.locals) (by rw [← hst]; exact I1.ok.frames) hfun hfr x1 (fun T' z=>by cases z; exact ⟨x2,x3⟩) fun h' T2 y1 y2 y3 y4 mv=>?_
   rw [← hst] at mv
   have ntr:∀ b u,H' b = some u → b ∉ fM X.stack:=fun b u q hb=>by
    obtain ⟨_,o,ho,_⟩:=I1.stack.mem hb
    have:=un.free b o ho (I1.fH b hb) (by simp)
    rw [q] at this; cases this
   have hU:Un (fM X.stack) [] H1 H' s1.heap h':=ic (l:=X.stack) un mv (fun _ z=>z) (fun _ _ _ z=>z) n1 fun T' z=>by cases z; exact n2
   have hO:fF X.prog X.w H' h':=hok.nE fun b u o q1 q2=>mv.keep b o (fun z=>by rw [z,f1] at q1; cases q1) (fun z=>by cases z; rw [f2] at q1; cases q1) (ntr b u q1) q2
   have I2:Inv X pins σ1 H' { s' with heap:=h' }:=I1.vS (s':={ s' with heap:=h' }) (ch:=[]) os hU hO bare fun _ z=>absurd z (by simp)
   -- the exception becomes an object of ours
   have he0:X.s₀.heap.get? e = none:=by
    cases q:X.s₀.heap.get? e with
    | none=>rfl
    | some o =>
     obtain ⟨o1,q1⟩:=I1.base.there e o q (by rw [hex]; simp)
     rw [n1] at q1; cases q1
   have live:∀ b o,s1.heap.get? b = some o → b ≠ e:=fun b o q z=>by rw [z,n1] at q; cases q
   have heL:e ≠ X.env.locals:=by
    obtain ⟨m,⟨o,_,_,ho,_⟩,_⟩:=I1.loc
    exact Ne.symm (live _ _ ho)
   have heC:∀ x c,X.env.cells.lookup x = some c → c ≠ e:=fun x c q=>by
    obtain ⟨v,o,ho,_⟩:=I1.cell x c q
    exact live _ _ ho
   have heP:∀ p ∈ X.pn ++ pins,p.1 ≠ e:=fun p hp=>live _ _ (I1.pin p hp).1
   have I3:Inv X pins σ1 (upd H' e (pL C dd e)) { s' with heap:=h' }:=I2.adopt f1 he0 heL heC heP (vn y1)
   -- the trace's record is nobody's
   have szT:∀ b o,s'.heap.get? b = some o → b ≠ T2:=fun b o q=>Nat.ne_of_lt (Nat.lt_of_lt_of_le (Heap.lt_size q) y3)
   have liveT:∀ b o,s1.heap.get? b = some o → b ≠ T2:=fun b o q=>by
    obtain ⟨o',q'⟩:=un.there b o q (by simp)
    exact szT b o' q'
   have hTL:T2 ≠ X.env.locals:=by
    obtain ⟨m,⟨o,_,_,ho,_⟩,_⟩:=I1.loc
    exact Ne.symm (liveT _ _ ho)
   have hT0:X.s₀.heap.objs.size ≤ T2:=by
    obtain ⟨m,⟨o,_,_,ho,_⟩,_⟩:=I1.loc
    obtain ⟨o',q'⟩:=un.there _ o ho (by simp)
    exact Nat.le_trans I1.ok.above (Nat.le_trans (Nat.le_of_lt (Heap.lt_size q')) y3)
   have hTC:∀ x c,X.env.cells.lookup x = some c → c ≠ T2:=fun x c q=>by
    obtain ⟨v,o,ho,_⟩:=I1.cell x c q
    exact liveT _ _ ho
   have hTP:∀ p ∈ X.pn ++ pins,p.1 ≠ T2:=fun p hp=>liveT _ _ (I1.pin p hp).1
   have hTn:upd H' e (pL C dd e) T2 = none:=by
    rw [aH y4]
    cases q:H' T2 with
    | none=>rfl
    | some u=>obtain ⟨ob,hob⟩:=(hok T2 u q).there; exact absurd rfl (szT T2 ob hob)
   obtain ⟨hmt,hsu⟩:=hh σ1 C dd H' hE
   obtain ⟨oe,vs,hoe,hcls,_⟩:=id y1
   have LT:PySem.W.Looks (model X.prog X.w) h' (typeOf (.ref e)) C:=by
    subst hcls
    exact (PySem.W.Looks.ld hoe).andThen .now
   have ok:X.Ok:=I.ok
   refine wpAny_handleBy_cons (codeAny_handlers_test (dS (X:=X.sO e) (I3.sO e) hg hm ?_ hdb)) (by intro q; cases q)
   refine PySem.W.Looks.here (PySem.W.exm_one I3.dk LT hmt) ?_
   show codeAny _ _ (.handlers (.ref e) [.ExceptHandler none (some n) (b₀ :: suite) hpos] X.env) _ _
   refine codeAny_handlers_suite_as ?_
   refine nP y1 y2 y4 fun h2 z1 z2 k1 k2=>?_
   have I4:Inv X pins σ1 (upd H' e (pL C dd e)) { s' with heap:=h2 }:=I3.turned (t':=s'.toks) (fun b o hb q=>k1 b o hb q) hTn hTL (.inr hT0) hTC hTP
   refine kK (X:=X.sO e) (v:=.ref e) (I4.sO e) hN hi (.inl hk) rfl (fun s5 I5=>?_) (.inr hk)
   refine wpAny_mono ((hs e) pins s5 _ _ _ I5 (hsu e f1)) (fun f s6 q=>?_) fun _ _ z=>z.elim
   show wpAny _ _ (do bindName X.env n .none; unbindBehindTheSuite X.env n hpos) _ _ s6
   cases f with
   | next=>obtain ⟨σ6,H6,I6,q6⟩:=q; exact j7 (I6.qH ok) hN hi hk fun s7 I7=>⟨_,_,I7,q6⟩
   | brk=>obtain ⟨σ6,H6,I6,q6⟩:=q; exact j7 (I6.qH ok) hN hi hk fun s7 I7=>⟨_,_,I7,q6⟩
   | cont=>obtain ⟨σ6,H6,I6,q6⟩:=q; exact j7 (I6.qH ok) hN hi hk fun s7 I7=>⟨_,_,I7,q6⟩
   | ret v=>obtain ⟨x6,σ6,H6,I6,r6,q6⟩:=q; exact j7 (I6.qH ok) hN hi hk fun s7 I7=>⟨_,_,_,I7,r6,q6⟩
end
end L2
namespace L2
open PySem PySem.Spec PyProof.Rows PySem.W
section
variable {prog:Program} {w:World} {A:Around} {E:Value → Shared → Prop} {s:Shared} {K:Frag} {e C:Addr} {oe:Obj}
theorem vL {a g:Value} {name:Str} (hc:(clsIn K C).isSome = true) (ha:findIn K (.ref C) name = some (some a)) (hg:specialIn K a "__get__" = some (some g)) (ht:takesIn K a = some true):findObj K C none name = some (.bind g a):=by
 obtain ⟨cd,hc⟩:=Option.isSome_iff_exists.mp hc
 unfold findObj
 rw [hc,Option.bind_some,ha,Option.bind_some]
 simp [hg,ht]
structure eK (K:Frag) (C:Addr):Prop where
 cs:(clsIn K C).isSome = true
 ga:findIn K (.ref C) "__getattribute__" = some (some (.builtin "BaseException.__getattribute__"))
 gt:findIn K (.ref C) "__getattr__" = some none
 ca:findIn K (.ref C) "__class__" = some (some (.builtin "object.__class__"))
 gg:specialIn K (.builtin "object.__class__") "__get__" = some (some (.builtin "getset_descriptor.__get__"))
 tk:takesIn K (.builtin "object.__class__") = some true
 mo:mroIn K C (.type "object") = some true
 sb:subIn K (.ref C) (.type "BaseException") = some true
theorem wk {nameV:Value} {Q:Unit → Shared → Prop} (U:eK K C) (X:K.In s.heap) (I:InstAt s.heap e oe C none) (hq:Q () s) :
  wpAny (model prog w) A (checkBuiltinCall "BaseException.__getattribute__" ⟨[.ref e,nameV],[]⟩) Q E s:=by
 have hk:builtinKind "BaseException.__getattribute__" = some .slot:=by decide +kernel
 have hsplit:splitId "BaseException.__getattribute__" = some ("BaseException", "__getattribute__"):=by decide +kernel
 have L0:=I.type (M:=model prog w)
 have L1:=looks_subIn (M:=model prog w) X U.sb
 have LI:Looks (model prog w) s.heap (isInstance (.ref e) (.type "BaseException")) true:=L0.andThen L1
 have ha:=F.args_bexc_ga (.ref e) nameV
 simp only [checkBuiltinCall,hk,hsplit]
 refine wpAny_bind (LI.at ?_)
 rw [if_neg (by decide)]
 exact wpAny_of_eq ha hq
theorem xD {tk:Tok} {Q:Fin → Shared → Prop} (U:eK K C) (X:K.In s.heap) (I:InstAt s.heap e oe C none) (hq:Q (.done (.ret (.ref C))) s) :
  wpAny (model prog w) A (Builtin.«object.__getattribute__» ⟨[.ref e,.str "__class__" tk],[]⟩) Q E s:=by
 obtain ⟨hh,g,d,t,os⟩:=s
 have L0:=I.type (M:=model prog w)
 have L3:=looks_find (M:=model prog w) X I (vL U.cs U.ca U.gg U.tk)
 unfold Builtin.«object.__getattribute__»
 refine wpAny_bind (wpAny_of_eq (show slotArgs "__getattribute__" 1 ⟨[.ref e,.str "__class__" tk],[]⟩ = pure (.ref e,[.str "__class__" tk]) from rfl) ?_)
 refine wpAny_bind (wpAny_of_eq (show Builtin.ObjectAttr.attrName (.str "__class__" tk) = pure ("__class__" : Str) from rfl) ?_)
 refine wpAny_bind (L0.at (wpAny_bind (L3.at ?_)))
 show wpAny _ _ (Builtin.ObjectAttr.bindTo (.builtin "getset_descriptor.__get__") (.builtin "object.__class__") (.ref e) (.ref C)) _ _ _
 show wpAny _ _ (holding [.builtin "object.__class__"] (call (.builtin "getset_descriptor.__get__") [.builtin "object.__class__",.ref e,.ref C]) >>= ret) _ _ _
 exact wpAny_bind (wpAny_holding (wpAny_call (class_get X I U.mo (wpAny_pure hq))))
theorem wu {Q:Option Value → Shared → Prop} (U:eK K C) (X:K.In s.heap) (I:InstAt s.heap e oe C none) (h:Q (some (.ref C)) { s with toks:=s.toks + 1 }):wpAny (model prog w) A (getAttr? (.ref e) "__class__") Q E s:=by
 obtain ⟨hh,g,d,t,os⟩:=s
 have L0:=I.type (M:=model prog w)
 have L1:=looks_findIn (M:=model prog w) X U.ga
 have L2:=looks_findIn (M:=model prog w) X U.gt
 have L3:=looks_find (M:=model prog w) X I (vL U.cs U.ca U.gg U.tk)
 unfold getAttr? getAttrBy? getAttrBy
 refine wpAny_bind (wpAny_mkText (wpAny_bind (wpAny_attempt (wpAny_holding (wpAny_bind (L0.at (wpAny_bind (L1.at ?_))))))))
 show wpAny _ _ (getAttrByItsOwn (.ref e) _ (.ref C) (.builtin "BaseException.__getattribute__") false false) _ _ _
 unfold getAttrByItsOwn
 refine wpAny_bind ?_
 show wpAny _ _ (typeLookup (.ref C) "__getattr__") _ _ _
 refine L2.at ?_
 refine wpAny_bind (wpAny_attempt (wpAny_holding ?_))
 show wpAny _ _ (boundAndCalled (.builtin "BaseException.__getattribute__") (.ref e) _) _ _ _
 unfold boundAndCalled
 refine wpAny_bind (wpAny_of_eq (F.attr_ValueError.ga.bind (.ref e)) ?_)
 refine wpAny_call (codeAny_call_builtin F.attr_ValueError.ga.plain F.entry_bexc_ga (wk U X I (xD U X I ?_)))
 exact wpAny_pure (wpAny_pure h)
theorem tW (U:eK K C):KitX K (.ref e) (.ref C) (fun h=>∃ oe,InstAt h e oe C none) where
 ty:=fun M h _ ⟨_,I⟩=>I.type
 it:=fun _ _ X _=>by
  obtain ⟨cd,hc⟩:=Option.isSome_iff_exists.mp U.cs
  unfold clsIn at hc
  split at hc
  ·rename_i c' d' cd' sl' ho
   intro A' Q' E' s' k q
   unfold isType loadHead
   exact wpAny_bind (wpAny_loadPart (k _ _ (X _ _ ho)) (wpAny_pure q))
  ·cases hc
 ne:=fun h tp dd its n sl X htp=>by
  obtain ⟨cd,hc⟩:=Option.isSome_iff_exists.mp U.cs
  refine Bool.eq_false_iff.mpr fun q=>?_
  have z:C = tp:=Value.ref.inj (beq_iff_eq.mp q)
  subst z
  unfold clsIn at hc
  split at hc
  ·rename_i c' d' cd' sl' ho
   have z:=(X _ _ ho).symm.trans htp
   cases z
  ·cases hc
 ca:=fun X ⟨_,I⟩ k=>wu U X I k
end
theorem sZ {P:Program} {w:World} {H:Hp} {h:Heap} {e C:Addr} (ok:fF P w H h) (q:H e = some (pL (.ref C) none e)):∃ oe,InstAt h e oe C none:=by
 obtain ⟨⟨oe,vs,he,hC,hdd,hd⟩,_⟩:=ok e _ q
 refine ⟨oe,he,hC,?_,?_⟩
 ·obtain ⟨a,b,c,d⟩:=oe
  have hd':c = .fields vs:=hd
  subst hd'
  rfl
 ·rw [hdd]
  trivial
section
variable {X:Cx}
def vY (K:Frag):List V → Hp → VK → Prop:=fun xs H Q=>∃ e c cv C b,xs = [.ref e,c] ∧ t6 c cv ∧ H e = some (pL (.ref C) none e) ∧ eK K C ∧ kitOne K (.ref C) cv = some b ∧ Q (.bl b) H
theorem lR:bc X (.builtin "isinstance") (vY X.K):=by
 unfold bc at *
 exact by
  intro pins s σ H xs us Q I rv h
  obtain ⟨e,c,cv,C,b,rfl,hc,he,U,k,q⟩:=h
  obtain ⟨u,cu,rfl,ru,rc⟩:=rv.two
  have ec:cu = cv:=by cases hc <;> exact rc
  subst ec
  cases (show u = Value.ref e from ru)
  exact kia_one (tW U) I.dk (sZ I.hok he) k (fun z=>nomatch z) fun tk=>⟨.bl b,H,I.tok tk,rfl,q⟩
def bK (K:Frag):List V → Hp → VK → Prop:=fun xs H Q=>xo K xs H Q ∨ vY K xs H Q
theorem br:bc X (.builtin "isinstance") (bK X.K):=by
 first
 | exact (nG.or lR)
 | (unfold bc at *; exact (nG.or lR))
end
end L2
namespace L2
open PySem PySem.Spec PyProof.Rows
theorem cU:bootBuiltins "len" = some (.builtin "len"):=by decide +kernel
theorem aq:bootBuiltins "isinstance" = some (.builtin "isinstance"):=by decide +kernel
theorem jq:bootBuiltins "int" = some (.type "int"):=by decide +kernel
theorem ph:bootBuiltins "bool" = some (.type "bool"):=by decide +kernel
theorem om:bootBuiltins "str" = some (.type "str"):=by decide +kernel
theorem mD:bootBuiltins "list" = some (.type "list"):=by decide +kernel
theorem kz:bootBuiltins "ValueError" = some (.type "ValueError"):=by decide +kernel
theorem wV:bootBuiltins "all" = some (.builtin "all"):=by decide +kernel
theorem o9:bootBuiltins "min" = some (.builtin "min"):=by decide +kernel
theorem pA:bootBuiltins "max" = some (.builtin "max"):=by decide +kernel
theorem mQ {n:Int} {t:Tok}:RelV (.int n) (.int n t):=⟨_,rfl⟩
theorem mO {n:Str} {t:Tok}:RelV (.str n) (.str n t):=⟨_,rfl⟩
theorem aI.new {H:Hp} {p:Addr} {o:HO} (h:H p = none):aI H (upd H p o):=fun b u q=>by
 rw [aH (aK q h)]
 exact q
theorem dH {α:Type} {xs:List α} {i:Int} (h0:0 ≤ i) (h1:i < xs.length):∃ v,cb xs i = some v ∧ v ∈ xs:=by
 have e:((i.toNat:Nat):Int) = i:=Int.toNat_of_nonneg h0
 have hl:i.toNat < xs.length:=by omega
 refine ⟨xs[i.toNat],?_,List.getElem_mem hl⟩
 have q:=aQ (xs:=xs) (List.getElem?_eq_getElem hl)
 rw [e] at q
 exact q
theorem qM {α:Type} {xs:List α} {i:Int} {v:α} (h0:0 ≤ i) (h:xs[i.toNat]? = some v):cb xs i = some v:=by
 have q:=aQ (xs:=xs) h
 rw [Int.toNat_of_nonneg h0] at q
 exact q
theorem dZ.same {K:PySem.W.Frag} {H H':Hp} {x:V} {t:Value} (e:aI H H') (h:dZ K H x t):dZ K H' x t:=by
 cases h with
 | ax=>exact .ax
 | bl b=>exact .bl b
 | int i=>exact .int i
 | str x=>exact .str x
 | flt x=>exact .flt x
 | lst q=>exact .lst (e _ _ q)
 | frz q=>exact .frz (e _ _ q)
 | tup q=>exact .tup (e _ _ q)
 | dK q=>exact .dK (e _ _ q)
 | dT q=>exact .dT (e _ _ q)
 | ins q a b c d f=>exact .ins (e _ _ q) a b c d f
def Own (K:PySem.W.Frag) (H:Hp) (x:V):Prop:=∃ n,dZ K H x (.type n)
theorem Own.same {K:PySem.W.Frag} {H H':Hp} {x:V} (e:aI H H') (h:Own K H x):Own K H' x:=let ⟨n,t⟩:=h; ⟨n,t.same e⟩
theorem Own.ax {K:PySem.W.Frag} {H:Hp}:Own K H .ax:=⟨_,.ax⟩
theorem Own.bl {K:PySem.W.Frag} {H:Hp} {b:Bool}:Own K H (.bl b):=⟨_,.bl b⟩
theorem Own.int {K:PySem.W.Frag} {H:Hp} {i:Int}:Own K H (.int i):=⟨_,.int i⟩
theorem Own.str {K:PySem.W.Frag} {H:Hp} {x:Str}:Own K H (.str x):=⟨_,.str x⟩
theorem Own.lst {K:PySem.W.Frag} {H:Hp} {a:Addr} {xs:List V} (h:H a = some (.lst xs)):Own K H (.ref a):=⟨_,.lst h⟩
theorem Own.tup {K:PySem.W.Frag} {H:Hp} {a:Addr} {xs:List V} (h:H a = some (.tup xs)):Own K H (.ref a):=⟨_,.tup h⟩
theorem Own.dK {K:PySem.W.Frag} {H:Hp} {a:Addr} {xs:List (Key × V)} (h:H a = some (.dK xs)):Own K H (.ref a):=⟨_,.dK h⟩
def isInt:V → Bool
 | .int _=>true
 | .bl _=>true
 | _=>false
def isBool:V → Bool
 | .bl _=>true
 | _=>false
def isStr:V → Bool
 | .str _=>true
 | _=>false
theorem ur {K:PySem.W.Frag} {H:Hp} {x:V} {n:String} (ty:dZ K H x (.type n)):PySem.W.kitOne K (.type n) (.type "int") = some (isInt x):=by
 cases ty <;> rfl
theorem tG {K:PySem.W.Frag} {H:Hp} {x:V} {n:String} (ty:dZ K H x (.type n)):PySem.W.kitOne K (.type n) (.type "bool") = some (isBool x):=by
 cases ty <;> rfl
theorem uH {K:PySem.W.Frag} {H:Hp} {x:V} {n:String} (ty:dZ K H x (.type n)):PySem.W.kitOne K (.type n) (.type "str") = some (isStr x):=by
 cases ty <;> rfl
theorem bK.own {K:PySem.W.Frag} {H:Hp} {x:V} {c:String} {Q:VK} {b:Bool} (h:Own K H x) (k:∀ n,dZ K H x (.type n) → PySem.W.kitOne K (.type n) (.type c) = some b) (q:Q (.bl b) H):bK K [x,.ty c] H Q:=by
 obtain ⟨n,t⟩:=h
 exact .inl ⟨x,.ty c,_,_,_,rfl,.ty c,t,k n t,q⟩
theorem bK.int {K:PySem.W.Frag} {H:Hp} {x:V} {Q:VK} (h:Own K H x) (q:Q (.bl (isInt x)) H):bK K [x,.ty "int"] H Q:=bK.own h (fun _=>ur) q
theorem bK.bool {K:PySem.W.Frag} {H:Hp} {x:V} {Q:VK} (h:Own K H x) (q:Q (.bl (isBool x)) H):bK K [x,.ty "bool"] H Q:=bK.own h (fun _=>tG) q
theorem bK.str {K:PySem.W.Frag} {H:Hp} {x:V} {Q:VK} (h:Own K H x) (q:Q (.bl (isStr x)) H):bK K [x,.ty "str"] H Q:=bK.own h (fun _=>uH) q
theorem gG {b:Bool} {A B:Prop} (h1:b = true → A) (h2:b = false → B):if b = true then A else B:=by
 cases b
 ·exact bB (h2 rfl)
 ·exact bV (h1 rfl)
theorem aM {a b:Nat} (h:Nat.ble a b = true):a ≤ b:=Nat.le_of_ble_eq_true h
end L2
namespace L2
open PySem PySem.Spec PyProof.Rows
section
variable {X:Cx} {pins:List (Addr × Obj)} {σ:St} {H H':Hp} {s:Shared} {h':Heap}
theorem Inv.turns {t':Nat} {wr:List Addr} (I:Inv X pins σ H s) (k:∀ b o,b ∉ wr → s.heap.get? b = some o → h'.get? b = some o) (hw:∀ b ∈ wr,jw X pins H b):Inv X pins σ H { s with heap:=h',toks:=t' }:=by
 have nit:∀ b u,H b = some u → b ∉ wr:=fun b u e z=>by rw [(hw b z).1] at e; cases e
 refine I.step (g':=s.gens) (d':=s.drawn) (ch:=wr) (fun b hb=>?_) (fun b o _ _ hc e _=>k b o hc e) (fun b o _ _ hc e _=>⟨o.slots,k b o hc e⟩) (fun _ _ _ _ n=>n)
  (fun b o hc e=>⟨o,k b o hc e⟩) (fun _ _ e=>e) (fun _ _ _ e=>e) (fun b ps e=>⟨#[],by rw [e]; simp⟩) (fun m hm=>?_) (fun b u e=>?_) I.bare
 ·obtain ⟨_,f1,_,f3,f4,f5⟩:=hw b hb
  exact ⟨f3,f1,f4,f5⟩
 ·obtain ⟨o,es,ep,ho,r⟩:=hm
  exact ⟨o,es,ep,k _ o (fun z=>(hw _ z).2.1 rfl) ho,r⟩
 ·refine (I.hok b u e).mG (fun c v hc q=>k c v ?_ q) (fun _ q=>q) fun _ _ q=>q
  rcases hc with z | z
  ·rw [z]; exact nit b u e
  ·exact nit c _ z
end
def zQ (x:Str):It:=⟨fun i _=>i < x.cps.size,fun i H v H'=>H' = H ∧ ∃ c,x.cps[i]? = some c ∧ v = .str ⟨#[c]⟩,fun i _=>i = x.cps.size⟩
theorem sA {P:Program} {w:World} {K:PySem.W.Frag} {tg:Expr} (x:Str) (t:Tok) (it:Addr) (kind:String) (hk:kind = "str_ascii_iterator" ∨ kind = "str_iterator") :
  Turn P w K tg (zQ x) [it] it (fun i h=>h.IsStrIter it kind x t i) where
 mem:=by simp
 obj:=fun i h st b hb=>by
  have e:b = it:=by simpa using hb
  subst e
  obtain ⟨o,e,c,d⟩:=st
  exact ⟨o,e,fun v z=>by rw [d] at z; cases z⟩
 keep:=fun i h h' st k=>by
  obtain ⟨o,e,r⟩:=st
  exact ⟨o,k it (by simp) o e,r⟩
 item:=by
  intro X hP hw hK hc i pins s σ H E I hf st hg
  subst hP hw hK
  have W:Walks X.prog X.w X.A it [it] [it] x.cps.size (SignAt x) (fun i h=>h.IsStrIter it kind x t i):=by
   rcases hk with rfl | rfl
   ·exact Walks.strAscii (I.ok.hd hc) it x t
   ·exact Walks.strWide (I.ok.hd hc) it x t
  refine W.item i s _ _ hg st fun v h' tk hv st' hk'=>?_
  obtain ⟨c,u,hc',rfl⟩:=hv
  have I1:Inv X pins σ H { s with heap:=h',toks:=tk }:=I.turns (t':=tk) hk' hf
  obtain ⟨o,e,hcl,d⟩:=id st'
  refine ⟨_,rfl,tR (s:={ s with heap:=h',toks:=tk }) e hcl d ?_ ⟨.str ⟨#[c]⟩,H,I1,⟨u,rfl⟩,⟨rfl,c,hc',rfl⟩,st',fun b hb=>(hf b hb).1⟩⟩
  rcases hk with rfl | rfl <;> decide
 done:=by
  intro X hP hw hK hc i pins s σ H E I hf st hg
  subst hP hw hK
  have W:Walks X.prog X.w X.A it [it] [it] x.cps.size (SignAt x) (fun i h=>h.IsStrIter it kind x t i):=by
   rcases hk with rfl | rfl
   ·exact Walks.strAscii (I.ok.hd hc) it x t
   ·exact Walks.strWide (I.ok.hd hc) it x t
  have e:i = x.cps.size:=hg
  subst e
  exact W.done s _ _ st fun h' tk hk'=>⟨rfl,I.turns (t':=tk) hk' hf⟩
 self:=fun A i s Q E st h=>by
  rcases hk with rfl | rfl
  ·exact wpAny_pyIter_striter_ascii st h
  ·exact wpAny_pyIter_striter_wide st h
def yd (tl:TE):TI:=fun σ H R=>tl σ H fun x H1=>∃ z,x = .str z ∧ R (zQ z) H1
theorem wq {X:Cx} {tg l:Expr} {tl:TE} (hl:PE X l tl):PI X tg l (yd tl):=by
 unfold PE at *; unfold PI at *
 exact by
  intro pins s σ H R I h
  refine bQ (hl pins s σ H _ I h) fun v s1 ⟨x,H1,I1,r1,q1⟩=>?_
  obtain ⟨z,rfl,q⟩:=q1
  obtain ⟨t,rfl⟩:=r1
  refine wpAny_pyIter_strU ?_
  refine ⟨s1.heap.objs.size,[s1.heap.objs.size],_,_,H1,rfl,I1.kept (t':=s1.toks) fun b o e=>Heap.get?_push_of_some _ e,sA z t _ (strIterType z) (by unfold strIterType; split <;> simp),⟨_,Heap.get?_push_size _ rfl,rfl,rfl⟩,fun b hb=>?_,q⟩
  have e:b = s1.heap.objs.size:=by simpa using hb
  subst e
  exact I1.xA (Nat.le_refl _) (I1.hok.fresh (Nat.le_refl _))
def Nx (n i:Nat) (P:Prop):Prop:=∃ m',m' < n - i ∧ m' = n - (i + 1) ∧ i + 1 ≤ n ∧ P
theorem Nx.mk {n i:Nat} {P:Prop} (hi:i < n) (p:P):Nx n i P:=⟨n - (i + 1),by omega,rfl,hi,p⟩
theorem mL {J:It} {l:Addr} {g:TG} {tc:TT} {te:TE} {σ:St} {H:Hp} {Q:VK} (n:Nat) (Pv:Nat → St → List V → Hp → Prop) (hsz:n ≤ sizeLine) (h0:Pv 0 σ [] H)
  (hl:∀ i σ acc H,i ≤ n → Pv i σ acc H → H l = some (.lst acc) ∧ acc.length ≤ i)
  (hgo:∀ i σ acc H,i < n → Pv i σ acc H → J.go i H)
  (hs:∀ i x σ acc H H',i < n → Pv i σ acc H → J.yld i H x H' → g x σ H' fun σ2 H2=>tc σ2 H2 fun b H3=>if b = true then
   te σ2 H3 fun v H4=>H4 l = some (.lst acc) ∧ Nx n i (Pv (i + 1) σ2 (acc ++ [v]) (upd H4 l (.lst (acc ++ [v])))) else Nx n i (Pv (i + 1) σ2 acc H3))
  (hd:∀ σ acc H,Pv n σ acc H → J.stop n H ∧ Q (.ref l) H):nU J l g tc te σ H Q:=by
 refine ⟨fun i m σ acc H=>m = n - i ∧ i ≤ n ∧ Pv i σ acc H,⟨n,by simp,Nat.zero_le _,h0⟩,?_⟩
 rintro i m σ acc H ⟨rfl,hi,p⟩
 obtain ⟨q1,q2⟩:=hl i σ acc H hi p
 refine ⟨q1,?_⟩
 by_cases hlt:i < n
 ·exact .inr ⟨hgo i σ acc H hlt p,by omega,fun x H' y=>hs i x σ acc H H' hlt p y⟩
 ·have e:i = n:=by omega
  subst e
  exact .inl (hd σ acc H p)
theorem jW:∀ {bs:List Bool} {us:List Value},Vals (bs.map V.bl) us → LSm.BoolsAre us bs
 | [],_,.nil=>.nil
 | b :: r,_,.cons h t=>by
  cases h
  exact .cons b (jW t)
theorem uZ {s:Shared} {h':Heap} {o:Obj} (hk:∀ b x,b ∉ [s.heap.objs.size] → (s.heap.push o).get? b = some x → h'.get? b = some x):∀ b x,s.heap.get? b = some x → h'.get? b = some x :=
 fun b x e=>hk b x (fun hm=>by rw [List.mem_singleton.mp hm] at e; exact Nat.lt_irrefl _ (Heap.lt_size e)) (Heap.get?_push_of_some _ e)
theorem tF {X:Cx} (hc:X.calm = true):bc X (.builtin "all") (fun xs H Q=>∃ (a:Addr) (bs:List Bool),xs = [.ref a] ∧ aj X.K H a (bs.map V.bl) ∧ Q (.bl (bs.all id)) H):=by
 unfold bc at *
 exact by
  intro pins s σ H xs us Q I r h
  obtain ⟨a,bs,rfl,hq,q⟩:=h
  obtain ⟨u,rfl,ru⟩:=vals1 r
  cases ru
  obtain ⟨its,rv,pl,hz⟩:=I.list hq
  have hb:=jW rv
  have hl:=pl.isList
  have hlt:a < s.heap.objs.size:=by obtain ⟨_,e,_⟩:=hl; exact Heap.lt_size e
  refine call_all_walk (wpAny_pyIter_list hl ?_)
  refine ⟨s.heap.objs.size,[s.heap.objs.size,a],[s.heap.objs.size],its.toArray.size,_,_,fun i=>(bs[i]?).getD true,rfl,Walks.list (A:=X.A.in1) (I.ok.hd hc) _ a (Nat.ne_of_lt hlt) its.toArray,
   ⟨⟨_,Heap.get?_push_size _ rfl,rfl,rfl⟩,hl.push _⟩,fun i v s' Q' E' hP hQ=>?_,fun h' tk hk=>?_⟩
  ·obtain ⟨b,e,rfl⟩:=hb.get i v (by simpa using hP)
   simp only [e,Option.getD_some] at hQ
   exact wpAny_truthy_bool hQ
  ·have e:((List.range its.toArray.size).all fun i=>(bs[i]?).getD true) = bs.all id:=by
    rw [List.size_toArray,hb.length]; exact LSm.range_all bs
   rw [e]
   exact ⟨.bl (bs.all id),H,I.kept (t':=tk) (uZ hk),rfl,q⟩
end L2
namespace L2
open PySem PySem.Spec PyProof.Rows
section
variable {X:Cx}
theorem lI:cZ X (compareOp .LtE) (fun x y H Q=>∃ i j,x = .str i ∧ y = .str j ∧ Q (.bl (!decide (j.cps.toList < i.cps.toList))) H):=by
 unfold cZ at *
 exact by
  intro pins s σ H x y v u Q I rx ry h
  obtain ⟨i,j,rfl,rfl,q⟩:=h
  obtain ⟨t,rfl⟩:=rx
  obtain ⟨t',rfl⟩:=ry
  exact PySem.P.le_str (ay I q (by simp))
end
inductive bz (K:PySem.W.Frag) (H:Hp) (R:V → V → Bool → Prop):V → V → Bool → Prop where
 | list {a b:Addr} {xs ys:List V} {e:Nat → Bool} (ha:aj K H a xs) (hb:aj K H b ys) (hl:xs.length = ys.length) (he:∀ i x y,xs[i]? = some x → ys[i]? = some y → R x y (e i)):bz K H R (.ref a) (.ref b) ((List.range xs.length).all e)
 | listN {a b:Addr} {xs ys:List V} (ha:aj K H a xs) (hb:aj K H b ys) (hl:xs.length ≠ ys.length):bz K H R (.ref a) (.ref b) false
 | tup {a b:Addr} {xs ys:List V} {e:Nat → Bool} (ha:eX K H a xs) (hb:eX K H b ys) (he:∀ i x y,xs[i]? = some x → ys[i]? = some y → R x y (e i)):bz K H R (.ref a) (.ref b) ((List.range (min xs.length ys.length)).all e && xs.length == ys.length)
def jK (K:PySem.W.Frag) (H:Hp):Nat → V → V → Bool → Prop
 | 0,x,y,b=>(bf x = true ∧ bf y = true ∧ b = hX x y) ∨ ∃ a,x = .ref a ∧ y = .ref a ∧ b = true
 | n + 1,x,y,b=>((bf x = true ∧ bf y = true ∧ b = hX x y) ∨ ∃ a,x = .ref a ∧ y = .ref a ∧ b = true) ∨ bz K H (jK K H n) x y b
theorem fh {x:V} (h:bf x = true):hX x x = true:=by
 cases x <;> simp_all [bf,hX]
section
variable {X:Cx} {pins:List (Addr × Obj)} {σ:St} {H:Hp} {s:Shared}
theorem all_range {n:Nat} {e:Nat → Bool} (h:∀ i,i < n → e i = true):(List.range n).all e = true:=by
 rw [List.all_eq_true]
 exact fun i hi=>h i (List.mem_range.mp hi)
theorem jK.self (I:Inv X pins σ H s):∀ {n:Nat} {x:V} {b:Bool},jK X.K H n x x b → b = true:=by
 intro n
 induction n with
 | zero =>
  intro x b h
  rcases h with ⟨h1,_,h2⟩ | ⟨_,_,_,h⟩
  ·rw [h2]; exact fh h1
  ·exact h
 | succ n ih =>
  intro x b h
  rcases h with (⟨h1,_,h2⟩ | ⟨_,_,_,h⟩) | h
  ·rw [h2]; exact fh h1
  ·exact h
  ·cases h with
   | @list a _ xs ys e ha hb hl he =>
    have q:=I.jm ha hb
    subst q
    exact all_range fun i hi=>ih (he i xs[i] xs[i] (by simp [hi]) (by simp [hi]))
   | listN ha hb hl=>exact absurd (congrArg List.length (I.jm ha hb)) hl
   | @tup a _ xs ys e ha hb he =>
    have q:=I.qo ha hb
    subst q
    rw [Nat.min_self,all_range fun i hi=>ih (he i xs[i] xs[i] (by simp [hi]) (by simp [hi]))]
    simp
theorem bz.rc {A:Around} {R:V → V → Bool → Prop} {x y:V} {b:Bool} {u v:Value} (I:Inv X pins σ H s) (h:bz X.K H R x y b) (rx:RelV x u) (ry:RelV y v) (hu:A.units < cLine)
  (hR:∀ x y b u v,R x y b → RelV x u → RelV y v → SeqAt.EqAt A.in1 s u v b):SeqAt.RcAt A s u v b:=by
 cases h with
 | @list a c xs ys e ha hb hl he =>
  cases rx; cases ry
  obtain ⟨its,r1,p1,z1⟩:=I.list ha
  obtain ⟨jts,r2,p2,z2⟩:=I.list hb
  have l1:=r1.length
  have l2:=r2.length
  have q:=SeqAt.RcAt.lists (A:=A) (s:=s) (e:=e) p1.isList p2.isList (by simp only [List.size_toArray]; omega) hu fun j h1 h2=>?_
  ·rw [List.size_toArray,← l1] at q
   exact q
  ·simp only [List.size_toArray] at h1 h2
   have g1:xs[j]? = some xs[j]:=by simp
   have g2:ys[j]? = some ys[j]:=by simp
   obtain ⟨w1,k1,rr1⟩:=r1.get g1
   obtain ⟨w2,k2,rr2⟩:=r2.get g2
   have e1:its.toArray[j] = w1:=by
    have:=List.getElem?_eq_some_iff.mp k1
    obtain ⟨_,this⟩:=this
    simpa using this
   have e2:jts.toArray[j] = w2:=by
    have:=List.getElem?_eq_some_iff.mp k2
    obtain ⟨_,this⟩:=this
    simpa using this
   rw [e1,e2]
   exact hR _ _ _ _ _ (he j _ _ g1 g2) rr1 rr2
 | @listN a c xs ys ha hb hl =>
  cases rx; cases ry
  obtain ⟨its,r1,p1,z1⟩:=I.list ha
  obtain ⟨jts,r2,p2,z2⟩:=I.list hb
  have l1:=r1.length
  have l2:=r2.length
  exact SeqAt.RcAt.lists_lengths p1.isList p2.isList (by simp only [List.size_toArray,bne_iff_ne]; omega) hu
 | @tup a c xs ys e ha hb he =>
  cases rx; cases ry
  obtain ⟨its,r1,p1,z1⟩:=I.tuple ha
  obtain ⟨jts,r2,p2,z2⟩:=I.tuple hb
  have l1:=r1.length
  have l2:=r2.length
  have q:=SeqAt.RcAt.tuples (A:=A) (s:=s) (e:=e) p1 p2 hu fun j h1 h2=>?_
  ·rw [List.size_toArray,List.size_toArray,← l1,← l2] at q
   exact q
  ·simp only [List.size_toArray] at h1 h2
   have g1:xs[j]? = some xs[j]:=by simp
   have g2:ys[j]? = some ys[j]:=by simp
   obtain ⟨w1,k1,rr1⟩:=r1.get g1
   obtain ⟨w2,k2,rr2⟩:=r2.get g2
   have e1:its.toArray[j] = w1:=by
    have:=List.getElem?_eq_some_iff.mp k1
    obtain ⟨_,this⟩:=this
    simpa using this
   have e2:jts.toArray[j] = w2:=by
    have:=List.getElem?_eq_some_iff.mp k2
    obtain ⟨_,this⟩:=this
    simpa using this
   rw [e1,e2]
   exact hR _ _ _ _ _ (he j _ _ g1 g2) rr1 rr2
theorem bz.y6 {A:Around} {R:V → V → Bool → Prop} {x y:V} {b:Bool} {u v:Value} (I:Inv X pins σ H s) (h:bz X.K H R x y b) (rx:RelV x u) (ry:RelV y v) (hu:A.units < cLine)
  (hR:∀ x y b u v,R x y b → RelV x u → RelV y v → SeqAt.EqAt A.in1 s u v b):SeqAt.RcNeAt A s u v (!b):=by
 cases h with
 | @list a c xs ys e ha hb hl he =>
  cases rx; cases ry
  obtain ⟨its,r1,p1,z1⟩:=I.list ha
  obtain ⟨jts,r2,p2,z2⟩:=I.list hb
  have l1:=r1.length
  have l2:=r2.length
  have q:=SeqAt.RcNeAt.lists (A:=A) (s:=s) (e:=e) p1.isList p2.isList (by simp only [List.size_toArray]; omega) hu fun j h1 h2=>?_
  ·rw [List.size_toArray,← l1] at q
   exact q
  ·simp only [List.size_toArray] at h1 h2
   have g1:xs[j]? = some xs[j]:=by simp
   have g2:ys[j]? = some ys[j]:=by simp
   obtain ⟨w1,k1,rr1⟩:=r1.get g1
   obtain ⟨w2,k2,rr2⟩:=r2.get g2
   have e1:its.toArray[j] = w1:=by
    have:=List.getElem?_eq_some_iff.mp k1
    obtain ⟨_,this⟩:=this
    simpa using this
   have e2:jts.toArray[j] = w2:=by
    have:=List.getElem?_eq_some_iff.mp k2
    obtain ⟨_,this⟩:=this
    simpa using this
   rw [e1,e2]
   exact hR _ _ _ _ _ (he j _ _ g1 g2) rr1 rr2
 | @listN a c xs ys ha hb hl =>
  cases rx; cases ry
  obtain ⟨its,r1,p1,z1⟩:=I.list ha
  obtain ⟨jts,r2,p2,z2⟩:=I.list hb
  have l1:=r1.length
  have l2:=r2.length
  exact SeqAt.RcNeAt.lists_lengths p1.isList p2.isList (by simp only [List.size_toArray,bne_iff_ne]; omega) hu
 | @tup a c xs ys e ha hb he =>
  cases rx; cases ry
  obtain ⟨its,r1,p1,z1⟩:=I.tuple ha
  obtain ⟨jts,r2,p2,z2⟩:=I.tuple hb
  have l1:=r1.length
  have l2:=r2.length
  have q:=SeqAt.RcNeAt.tuples (A:=A) (s:=s) (e:=e) p1 p2 hu fun j h1 h2=>?_
  ·rw [List.size_toArray,List.size_toArray,← l1,← l2] at q
   exact q
  ·simp only [List.size_toArray] at h1 h2
   have g1:xs[j]? = some xs[j]:=by simp
   have g2:ys[j]? = some ys[j]:=by simp
   obtain ⟨w1,k1,rr1⟩:=r1.get g1
   obtain ⟨w2,k2,rr2⟩:=r2.get g2
   have e1:its.toArray[j] = w1:=by
    have:=List.getElem?_eq_some_iff.mp k1
    obtain ⟨_,this⟩:=this
    simpa using this
   have e2:jts.toArray[j] = w2:=by
    have:=List.getElem?_eq_some_iff.mp k2
    obtain ⟨_,this⟩:=this
    simpa using this
   rw [e1,e2]
   exact hR _ _ _ _ _ (he j _ _ g1 g2) rr1 rr2
theorem jK.at (I:Inv X pins σ H s):∀ (n:Nat) (A:Around) (x y:V) (b:Bool) (u v:Value),A.units + n < cLine → jK X.K H n x y b → RelV x u → RelV y v → SeqAt.EqAt A s u v b:=by
 intro n
 induction n with
 | zero =>
  intro A x y b u v hu h rx ry
  rcases h with ⟨h1,h2,rfl⟩ | ⟨a,rfl,rfl,rfl⟩
  ·exact o5 rx ry h1 h2
  ·cases rx; cases ry
   exact SeqAt.EqAt.same _
 | succ n ih =>
  intro A x y b u v hu h rx ry
  rcases h with (⟨h1,h2,rfl⟩ | ⟨a,rfl,rfl,rfl⟩) | h
  ·exact o5 rx ry h1 h2
  ·cases rx; cases ry
   exact SeqAt.EqAt.same _
  ·have rc:=bz.rc (A:=A) I h rx ry (by omega) fun x y b u v hd r1 r2=>ih A.in1 x y b u v (by show A.units + 1 + n < cLine; omega) hd r1 r2
   have refs:∃ a c,x = .ref a ∧ y = .ref c:=by cases h <;> exact ⟨_,_,rfl,rfl⟩
   obtain ⟨a,c,rfl,rfl⟩:=refs
   cases rx; cases ry
   by_cases hac:a = c
   ·subst hac
    have hb:b = true:=jK.self (n:=n + 1) I (.inr h)
    subst hb
    exact SeqAt.EqAt.same _
   ·exact SeqAt.EqAt.of_refs hac rc
def xb (K:PySem.W.Frag) (neg:Bool):R2:=fun x y H Q=>∃ n b,n ≤ 60 ∧ bz K H (jK K H n) x y b ∧ Q (.bl (if neg then !b else b)) H
theorem iG (hu:X.A.units + 62 < cLine):cZ X (compareOp .Eq) (xb X.K false):=by
 unfold cZ at *
 exact by
  intro pins s σ H x y v u Q I rx ry h
  obtain ⟨n,b,hn,he,q⟩:=h
  exact bz.rc (A:=X.A) I he rx ry (by omega) (fun x y b u v hd r1 r2=>jK.at I n X.A.in1 x y b u v (by show X.A.units + 1 + n < cLine; omega) hd r1 r2) X.prog X.w _ _ (ay I q rfl)
theorem sy (hu:X.A.units + 62 < cLine):cZ X (compareOp .NotEq) (xb X.K true):=by
 unfold cZ at *
 exact by
  intro pins s σ H x y v u Q I rx ry h
  obtain ⟨n,b,hn,he,q⟩:=h
  exact bz.y6 (A:=X.A) I he rx ry (by omega) (fun x y b u v hd r1 r2=>jK.at I n X.A.in1 x y b u v (by show X.A.units + 1 + n < cLine; omega) hd r1 r2) X.prog X.w _ _ (ay I q rfl)
def rJ:List V → List V → Bool
 | [],[]=>true
 | x :: xs,y :: ys=>hX x y && rJ xs ys
 | _,_=>false
end
theorem jD:∀ {xs ys:List V},xs.length = ys.length → (List.range xs.length).all (fun i=>hX (xs.getD i .ax) (ys.getD i .ax)) = rJ xs ys
 | [],[],_=>rfl
 | x :: xs,y :: ys,h=>by
  have h':xs.length = ys.length:=by simpa using h
  rw [List.length_cons,List.range_succ_eq_map,List.all_cons,List.all_map,rJ,← jD h']
  rfl
 | [],_ :: _,h=>by simp at h
 | _ :: _,[],h=>by simp at h
theorem pU:∀ {xs ys:List V},xs.length ≠ ys.length → rJ xs ys = false
 | [],[],h=>absurd rfl h
 | x :: xs,y :: ys,h=>by
  rw [rJ,pU (xs:=xs) (ys:=ys) (by simpa using h),Bool.and_false]
 | [],_ :: _,_=>rfl
 | _ :: _,[],_=>rfl
theorem bz.yF {K:PySem.W.Frag} {H:Hp} {n:Nat} {a b:Addr} {xs ys:List V} (ha:aj K H a xs) (hb:aj K H b ys) (fx:xs.all bf = true) (fy:ys.all bf = true):bz K H (jK K H n) (.ref a) (.ref b) (rJ xs ys):=by
 by_cases hl:xs.length = ys.length
 ·rw [← jD hl]
  refine .list ha hb hl fun i x y hx hy=>?_
  have q:(bf x = true ∧ bf y = true ∧ hX (xs.getD i .ax) (ys.getD i .ax) = hX x y):=by
   refine ⟨List.all_eq_true.mp fx x (List.mem_of_getElem? hx),List.all_eq_true.mp fy y (List.mem_of_getElem? hy),?_⟩
   rw [List.getD_eq_getElem?_getD,List.getD_eq_getElem?_getD,hx,hy]
   rfl
  cases n with
  | zero=>exact .inl q
  | succ n=>exact .inl (.inl q)
 ·rw [pU hl]
  exact .listN ha hb hl
theorem bz.vW {K:PySem.W.Frag} {H:Hp} {n:Nat} {a b:Addr} {xs ys:List V} (ha:eX K H a xs) (hb:eX K H b ys) (hl:xs.length = ys.length) (fx:xs.all bf = true) (fy:ys.all bf = true):bz K H (jK K H n) (.ref a) (.ref b) (rJ xs ys):=by
 have q:=bz.tup (K:=K) (H:=H) (R:=jK K H n) (e:=fun i=>hX (xs.getD i .ax) (ys.getD i .ax)) ha hb fun i x y hx hy=>?_
 ·rw [← hl,Nat.min_self,jD hl] at q
  simpa using q
 ·have q:(bf x = true ∧ bf y = true ∧ hX (xs.getD i .ax) (ys.getD i .ax) = hX x y):=by
   refine ⟨List.all_eq_true.mp fx x (List.mem_of_getElem? hx),List.all_eq_true.mp fy y (List.mem_of_getElem? hy),?_⟩
   rw [List.getD_eq_getElem?_getD,List.getD_eq_getElem?_getD,hx,hy]
   rfl
  cases n with
  | zero=>exact .inl q
  | succ n=>exact .inl (.inl q)
end L2
namespace L2
open PySem PySem.Spec PyProof.Rows
theorem rH {K:PySem.W.Frag} {H:Hp} {a:Addr} {o:Obj} {xs:List V} {its:Array Value} {n:Nat} (hk:K.lookup a = some o) (hc:o.cls = .type "tuple") (ho:o.data = .seq its n) (hz:its.size ≤ sizeLine) (hv:Vals xs its.toList):eX K H a xs :=
 .inr ⟨o,its,n,hk,hc,ho,hz,hv⟩
def j6 (w:World) (p:Str × V) (e:DictEntry):Prop:=e.hash = PyData.keyHash w.params p.1 ∧ (∃ t,e.key = .str p.1 t) ∧ RelV p.2 e.val
structure iA (w:World) (K:PySem.W.Frag) (a:Addr) (kvs:List (Str × V)):Prop where
 ex:∃ (es:List DictEntry) (ep:Nat),K.lookup a = some ⟨.type "dict",none,.dict es.toArray ep,#[]⟩ ∧ Paired (j6 w) kvs es
 nd:(kvs.map (·.1)).Nodup
theorem iA.pairs {P:Program} {w:World}:∀ {kvs:List (Str × V)} {es:List DictEntry},Paired (j6 w) kvs es → ∃ vs:List (Key × Value),Pairs (ae P w) es vs ∧ KV (kvs.map fun p=>((Sum.inr p.1:Key),p.2)) vs ∧ vs.map (·.1) = kvs.map fun p=>(Sum.inr p.1:Key)
 | _,_,.nil=>⟨[],.nil,.nil,rfl⟩
 | (x,v) :: r,e :: es,.cons ⟨h1,⟨t,h2⟩,h3⟩ hr=>by
  obtain ⟨vs,p1,p2,p3⟩:=iA.pairs (P:=P) hr
  refine ⟨((Sum.inr x:Key),e.val) :: vs,?_,.cons ⟨rfl,h3⟩ p2,by rw [List.map_cons,p3]; rfl⟩
  refine .cons ?_ rfl p1
  show iT (.inr x) e.key = true
  rw [h2]
  exact jJ x t
theorem iA.keysOf {P:Program} {w:World}:∀ {kvs:List (Str × V)} {es:List DictEntry},Paired (j6 w) kvs es → ∀ e ∈ es,∃ k,(ae P w).is k e.key = true ∧ e.hash = (ae P w).hash k
 | _,_,.nil,e,h=>by simp at h
 | (x,v) :: r,e :: es,.cons ⟨h1,⟨t,h2⟩,h3⟩ hr,e',h=>by
  rcases List.mem_cons.mp h with q | q
  ·subst q
   refine ⟨.inr x,?_,h1⟩
   show iT (.inr x) e'.key = true
   rw [h2]
   exact jJ x t
  ·exact iA.keysOf hr e' q
theorem iA.dictOf {P:Program} {w:World} {K:PySem.W.Frag} {a:Addr} {kvs:List (Str × V)} {h:Heap} (D:iA w K a kvs) (X:K.In h):∃ vs,KV (kvs.map fun p=>((Sum.inr p.1:Key),p.2)) vs ∧ h.DictOf (ae P w) a vs:=by
 obtain ⟨es,ep,hk,hp⟩:=D.ex
 obtain ⟨vs,p1,p2,p3⟩:=iA.pairs (P:=P) hp
 refine ⟨vs,p2,_,es.toArray,ep,X _ _ hk,⟨rfl,rfl,rfl⟩,rfl,fun e he=>iA.keysOf hp e (by simpa using he),by simpa using p1,?_⟩
 rw [p3]
 have nd:=D.nd
 rw [List.nodup_iff_pairwise_ne,List.pairwise_map] at nd ⊢
 exact nd.imp fun h e=>h (Sum.inr.inj e)
def xm (w:World) (K:PySem.W.Frag):R2:=fun x y H Q=>∃ a kvs z v,x = .ref a ∧ y = .str z ∧ iA w K a kvs ∧ kvs.lookup z = some v ∧ Q v H
theorem sI {kvs:List (Str × V)} {z:Str}:bg (kvs.map fun p=>((Sum.inr p.1:Key),p.2)) (Sum.inr z) = kvs.lookup z:=by
 unfold bg
 induction kvs with
 | nil=>rfl
 | cons p r ih =>
  obtain ⟨k,v⟩:=p
  rw [List.map_cons,List.find?_cons,List.lookup_cons]
  by_cases e:k = z
  ·subst e
   simp
  ·have h1:decide ((Sum.inr k:Key) = Sum.inr z) = false:=by simpa using e
   have h2:(z == k) = false:=by simpa using fun q=>e q.symm
   rw [h1,h2]
   exact ih
theorem sY {X:Cx}:pG X (xm X.w X.K):=by
 unfold pG at *
 exact by
  intro value slice pins s σ H x y v u Q I rx ry h hs
  obtain ⟨a,kvs,z,r,rfl,rfl,D,hl,q⟩:=h
  cases rx
  have ry':RelV (kV (Sum.inr z)) u:=ry
  obtain ⟨vs,rel,dd⟩:=D.dictOf (P:=X.prog) I.dk
  obtain ⟨w',hw,rw'⟩:=eg.some_of (v:=r) (o:=valueAt vs (Sum.inr z)) (by
   have q:=rel.val (Sum.inr z)
   rw [sI,hl] at q
   exact q)
  refine tail_any dd.mapOf.typeIs PySem.F.slot_dict_getitem.lookup ?_ hs
  exact wpAny_getItem_of (jP ry') dd.mapOf hw ⟨r,H,I.tok _,rw',q⟩
end L2
namespace L2
open PySem PySem.Spec PyProof.Rows
def bI (es:Array DictEntry):Bool:=es.all fun e=>match e.key with | .str _ _=>true | _=>false
theorem fz {es:Array DictEntry} (h:bI es = true):StrKeys es:=by
 intro e he
 have q:=Array.all_eq_true_iff_forall_mem.mp h e he
 split at q
 ·rename_i n t hk
  exact ⟨n,t,hk⟩
 ·cases q
theorem iL.v5 {K:PySem.W.Frag} {C N A:Addr} {nm q:Str} {bs:List Value} {hdct:Bool} {sn:List Str} {sub:List Value} {ab:Bool} {col:Option Bool} {dd:Option Addr} {k0 k1 k2 k3 k5:Option Value} {es:Array DictEntry} {c d ep sl}
  {c0:Value} {dd':Option Addr} {cd:ClassData} {sl0:Array (Option Value)} {es':Array DictEntry} {c' d' ep' sl'}
  (l:K.lookup C = some (excClassObj nm q C N bs (.ref A :: ig) hdct sn sub ab col dd k0 k1 k2 k3 k5 "ValueError.__new__")) (ln:K.lookup N = some ⟨c,d,.dict es ep,sl⟩) (sk:bI es = true) (ni:nsFind es "__init__" = none)
  (la:K.lookup A = some { cls:=c0,dict:=dd',data:=.cls cd,slots:=sl0 }) (lna:K.lookup cd.ns = some ⟨c',d',.dict es' ep',sl'⟩) (ska:bI es' = true) (nia:nsFind es' "__init__" = none):iL K C :=
 ⟨nm,q,N,bs,_,hdct,sn,sub,ab,col,dd,k0,k1,k2,k3,k5,es,l,⟨c,d,ep,sl,ln,fz sk⟩,ni,.own la ⟨c',d',ep',sl',lna,fz ska⟩ nia .base⟩
theorem mT {A:Around} {k:Nat} (hr:bx k A):A.units + 62 < cLine:=by have:=hr.un; omega
theorem gz {X:Cx} {scope:Scope} {N':List Str} {js:List (Option Nat)} (hl:js.length = N'.length) (h:js.all Option.isNone = true):xO X scope N' js :=
 ⟨hl,fun i j x h1 _=>by
  have q:=List.all_eq_true.mp h _ (List.mem_of_getElem? h1)
  cases q⟩
theorem fi {X:Cx} {scope:Scope} (h:(scope.names.all fun y=>match y.2 with | .free=>false | _=>true) = true):∀ y ∈ scope.names,y.2 = .free → (X.env.kindOf y.1 = some .cell ∨ X.env.kindOf y.1 = some .free):=fun y hy e=>by
 have q:=List.all_eq_true.mp h y hy
 rw [e] at q
 cases q
theorem bK.exc {K:PySem.W.Frag} {H:Hp} {e C c:Addr} {b:Bool} {Q:VK} (h:H e = some (pL (.ref C) none e)) (q:eK K C) (k:PySem.W.kitOne K (.ref C) (.ref c) = some b) (hQ:Q (.bl b) H):bK K [.ref e,.ref c] H Q :=
 .inr ⟨e,.ref c,.ref c,C,b,rfl,.own c,h,q,k,hQ⟩
theorem bK.yo {K:PySem.W.Frag} {H:Hp} {e C:Addr} {c:String} {b:Bool} {Q:VK} (h:H e = some (pL (.ref C) none e)) (q:eK K C) (k:PySem.W.kitOne K (.ref C) (.type c) = some b) (hQ:Q (.bl b) H):bK K [.ref e,.ty c] H Q :=
 .inr ⟨e,.ty c,.type c,C,b,rfl,.ty c,h,q,k,hQ⟩
theorem gD {P:Program} {w:World} {X:Cx}:eO (kO P w) X (fun _=>E0):=by
 intro pins σ H s e s' I h
 obtain ⟨_,_,_,_,_,_,_,_,_,_,_,_,_,_,_,_,_,h⟩:=h
 exact h.elim
end L2
namespace L2
open PySem PySem.Spec PyProof.Rows
structure jY (K:PySem.W.Frag) (x qual:Str) (st:Stmt) (dV:Value) (f:Addr) (fd:FuncData):Prop where
 ex:∃ (oc:Value) (od:Option Addr) (kV doc pm:Value) (an:Option Addr) (cdv ct:Value) (osl:Array (Option Value)),
  fd = PySem.W.fnOf x qual (aT st) (aR st) (aF st) dV kV doc pm an cdv ct ∧ K.lookup f = some ⟨oc,od,.func fd,osl⟩ ∧ PySem.W.codeIn K cdv qual = true
 kp:PySem.W.keepIn K (.ref f) = true
theorem jY.uz {P:Program} {w:World} {K:PySem.W.Frag} {mg:Str → Option Value} {base:Heap} {x qual:Str} {st:Stmt} {dV:Value} {f:Addr} {fd:FuncData} {N ps:List Str} {k:Nat} {sp:Sp} (F:jY K x qual st dV f fd) (S:aU N ps (aF st)) (len:∀ vs H Q E,sp vs H Q E → vs.length = ps.length)
  (hbody:∀ (cdv:Value) (A:Around) (outer:List Env) (s:Shared) (H:Hp) (vs:List V) (Q:VK) (E:XK),bx k (A.deeper (envOfC qual (aF st) s.heap.objs.size f cdv)) → sp vs H Q E →
   ∃ t,iD (kI (kO P w) P w K mg base N qual (aF st) f cdv A outer s H E) (aR st) t ∧ t { nx:=fun _ H'=>Q .ax H',rt:=Q } (start N vs) H):aw P w K mg base (kO P w) (k + 1) f fd ps sp:=by
 obtain ⟨oc,od,kV,doc,pm,an,cdv,ct,osl,rfl,lk,hcd⟩:=F.ex
 exact rh lk hcd S len fun A outer s H vs Q E hr hsp=>hbody cdv A outer s H vs Q E hr hsp
theorem gA {K:PySem.W.Frag} {x qual:Str} {st:Stmt} {dV:Value} {f:Addr} {oc:Value} {od an:Option Addr} {osl:Array (Option Value)} {kV doc pm cdv ct:Value} (l:K.lookup f = some ⟨oc,od,.func (PySem.W.fnOf x qual (aT st) (aR st) (aF st) dV kV doc pm an cdv ct),osl⟩)
  (hc:PySem.W.codeIn K cdv qual = true) (kp:PySem.W.keepIn K (.ref f) = true):jY K x qual st dV f (PySem.W.fnOf x qual (aT st) (aR st) (aF st) dV kV doc pm an cdv ct):=⟨⟨oc,od,kV,doc,pm,an,cdv,ct,osl,rfl,l,hc⟩,kp⟩
structure cA (K:PySem.W.Frag) (fd:FuncData) (ps ks:List Str) (na:Nat) (g:List Value → List Value → List Value) (gV:List V → List V → List V):Prop where
 to:∀ (s:Shared) (x:Value) (us ws:List Value),K.In s.heap → us.length = na → ws.length = ks.length → BindsTo s fd ⟨x :: us,ks.zip ws⟩ (ps.zip (x :: g us ws)) ∧ (x :: g us ws).length = ps.length
 rel:∀ {vs:List V} {us:List Value} {zs:List V} {ws:List Value},Vals vs us → Vals zs ws → Vals (gV vs zs) (g us ws)
theorem cA.ofD {K:PySem.W.Frag} {x qual:Str} {st:Stmt} {T f:Addr} {fd:FuncData} {ps ks:List Str} {na:Nat} {g:List Value → List Value → List Value} {gV:List V → List V → List V} {o:Obj} {items:Array Value} {n:Nat}
  (F:jY K x qual st (.ref T) f fd) (hT:K.lookup T = some o) (hs:o.data = .seq items n) (hrel:∀ {vs:List V} {us:List Value} {zs:List V} {ws:List Value},Vals vs us → Vals zs ws → Vals (gV vs zs) (g us ws))
  (h:∀ (kV doc pm:Value) (an:Option Addr) (cdv ct:Value) (y:Value) (us ws:List Value),us.length = na → ws.length = ks.length →
   (∃ k,bindArgs (PySem.W.fnOf x qual (aT st) (aR st) (aF st) (.ref T) kV doc pm an cdv ct) ⟨y :: us,ks.zip ws⟩ = seqItems? (.ref T) >>= k ∧ k (some items) = pure (ps.zip (y :: g us ws))) ∧ (y :: g us ws).length = ps.length):cA K fd ps ks na g gV:=by
 obtain ⟨oc,od,kV,doc,pm,an,cdv,ct,osl,rfl,lk,hcd⟩:=F.ex
 refine ⟨fun s y us ws X h1 h2=>?_,hrel⟩
 obtain ⟨⟨k,e1,e2⟩,e3⟩:=h kV doc pm an cdv ct y us ws h1 h2
 exact ⟨.of_defaults rfl (X _ _ hT) hs e1 e2,e3⟩
def wM (C:Addr) (sp:Sp) (na nk:Nat) (gV:List V → List V → List V) (Ez:St → XK) (t tk:TA):TE:=fun σ H Q=>t σ H fun vs H1=>tk σ H1 fun zs H2=>vs.length = na ∧ zs.length = nk ∧
 ∀ x dx,H2 x = none → H2 dx = none → dx ≠ x → sp (.ref x :: gV vs zs) (upd (upd H2 dx (.own x)) x (.ins C dx [])) (fun v H3=>v = .ax ∧ Q (.ref x) H3) (Ez σ)
section
variable {X:Cx} {CX:ja} {k:Nat} {f C:Addr} {fd:FuncData} {ps ks:List Str} {sp:Sp} {Ez:St → XK} {x:Str} {p pos:Pos} {e:Expr} {es:List Expr} {kws:List Keyword} {t tk:TA} {na:Nat} {g:List Value → List Value → List Value} {gV:List V → List V → List V}
theorem qP {pins:List (Addr × Obj)} {σ:St} {H:Hp} {s:Shared} {Q:VK} {us ws:List Value} {vs zs:List V} (M:Mk X.K C f) (F:aw X.prog X.w X.K X.mg X.base CX k f fd ps sp) (hr:bx (k + 1) X.A) (hb:cA X.K fd ps ks na g gV)
  (hx:eO CX X Ez) (I:Inv X pins σ H s) (r:Vals vs us) (rz:Vals zs ws) (hna:vs.length = na) (hnk:zs.length = ks.length)
  (h:∀ x dx,H x = none → H dx = none → dx ≠ x → sp (.ref x :: gV vs zs) (upd (upd H dx (.own x)) x (.ins C dx [])) (fun v H2=>v = .ax ∧ Q (.ref x) H2) (Ez σ)) :
  wpAny (model X.prog X.w) X.A (call (.ref C) us (ks.zip ws)) (EP X pins σ Q) X.xe s:=by
 have hq:=h (s.heap.objs.size + 1) s.heap.objs.size (I.hok.fresh (Nat.le_succ _)) (I.hok.fresh (Nat.le_refl _)) (Nat.ne_of_lt (Nat.lt_succ_self _))
 have I2:=Inv.made (C:=C) I
 have r2:Vals (V.ref (s.heap.objs.size + 1) :: gV vs zs) (Value.ref (s.heap.objs.size + 1) :: g us ws):=.cons rfl (hb.rel r rz)
 obtain ⟨hto,hl⟩:=hb.to { s with heap:=(s.heap.push PySem.W.emptyDict).push (PySem.W.instObj C s.heap.objs.size) } (Value.ref (s.heap.objs.size + 1)) us ws I2.dk (by rw [← r.length]; exact hna) (by rw [← rz.length]; exact hnk)
 refine wpAny_call (nR (f:=f) I.dk M.makes M.init (beq_iff_eq.mp M.fn) (codeAny_mono (F.run _ X.stack _ _ ⟨Value.ref (s.heap.objs.size + 1) :: us,ks.zip ws⟩ (Value.ref (s.heap.objs.size + 1) :: g us ws) _ _ (Ez σ) (hr.make C us (ks.zip ws))
  (I2.qQ.make C us (ks.zip ws)) hto r2 hq) fun r s' hq'=>?_))
 cases r with
 | error e=>exact hx pins σ _ _ e s' I2 hq'
 | ok fl =>
  cases fl with
  | ret u =>
   obtain ⟨v,H',I3,rv,ev,q3⟩:=I2.after hq'
   subst ev
   exact ⟨rv,⟨V.ref (s.heap.objs.size + 1),H',I3,rfl,q3⟩⟩
  | next=>exact False.elim hq'
  | brk=>exact False.elim hq'
  | cont=>exact False.elim hq'
theorem gW (M:Mk X.K C f) (F:aw X.prog X.w X.K X.mg X.base CX k f fd ps sp) (hr:bx (k + 1) X.A) (hg:Gl X x) (hm:X.mg x = some (.ref C)) (hb:cA X.K fd ps ks na g gV) (hx:eO CX X Ez)
  (ha:PA X (e :: es) t) (hkw:PK X kws tk) (hall:(backToKw pos (keywordEach kws X.env)).all (·.1.isSome) = true:=by rfl) (hks:(backToKw pos (keywordEach kws X.env)).filterMap (·.1) = ks:=by rfl)
  (hdb:(x == ("__debug__" : Str)) = false:=by decide) (he:starEach (e :: es) X.env = (false,eval e X.env) :: starEach es X.env:=by rfl)
  (hpl:((backTo pos (starEach (e :: es) X.env)).any (·.1) || (backToKw pos (keywordEach kws X.env)).any (·.1.isNone)) = false:=by rfl) :
  PE X (.Call (.Name x p) (e :: es) kws pos) (wM C sp na ks.length gV Ez t tk):=by
 unfold PE at *; unfold PA at *; unfold PK at *
 exact by
  intro pins s σ H Q I h
  refine wpAny_Call_Name_kw (dS I hg hm ?_ hdb)
  refine PySem.W.callWith_KW (h₀:=X.base) I.ok.mod.kin M.kp hall (bQ (ha pos pins s σ H _ I h) fun us s1 ⟨vs,H1,I1,r,q⟩=>?_) hpl he
  refine bQ (hkw pos pins s1 σ H1 _ I1 q) fun ws s2 ⟨zs,H2,I2,rz,hna,hnk,q2⟩=>⟨I2.dk,?_⟩
  rw [hks]
  exact qP M F hr hb hx I2 r rz hna hnk q2
end
theorem gu {X:Cx} {scope:Scope} (l:List Str) (h:(scope.names.all fun y=>match y.2 with | .free=>l.contains y.1 | _=>true) = true) (hl:∀ x ∈ l,X.env.kindOf x = some .cell ∨ X.env.kindOf x = some .free) :
  ∀ y ∈ scope.names,y.2 = .free → (X.env.kindOf y.1 = some .cell ∨ X.env.kindOf y.1 = some .free):=fun y hy e=>by
 have q:=List.all_eq_true.mp h y hy
 rw [e] at q
 exact hl _ (List.contains_iff_mem.mp q)
def yh (t u:TS):TS:=fun D σ H=>∃ Mid:St → Hp → Prop,t { D with nx:=Mid } σ H ∧ ∀ σ' H',Mid σ' H' → u D σ' H'
theorem aY {X:Cx} {st:Stmt} {rest:List Stmt} {t u:TS} (h1:PS X st t) (h2:iD X rest u):iD X (st :: rest) (yh t u):=by
 unfold PS at *; unfold iD at *
 exact by
  intro pins s σ H D I h
  obtain ⟨Mid,h,hm⟩:=h
  refine wpAny_execs_cons (bQ (h1 pins s σ H { D with nx:=Mid } I h) fun f s1 q=>?_)
  cases f with
  | next =>
   obtain ⟨σ',H',I',q⟩:=q
   exact h2 pins s1 σ' H' D I' (hm σ' H' q)
  | ret v=>exact q
  | brk=>exact q
  | cont=>exact q
theorem af {α:Type} {n:Nat}:∀ {us:List α},us.length = n + 1 → ∃ a r,us = a :: r ∧ r.length = n
 | a :: r,h=>⟨a,r,rfl,by simpa using h⟩
theorem len0 {α:Type}:∀ {us:List α},us.length = 0 → us = []
 | [],_=>rfl
theorem eC {α:Type} {p:α → Prop}:∀ x ∈ ([]:List α),p x:=fun _ h=>nomatch h
theorem bh {α:Type} {p:α → Prop} {a:α} {l:List α} (h:p a) (r:∀ x ∈ l,p x):∀ x ∈ a :: l,p x:=fun x hx=>by
 rcases List.mem_cons.mp hx with e | e
 ·subst e; exact h
 ·exact r x e
theorem ix {X:Cx} {scope:Scope} {N':List Str} {js:List (Option Nat)} (hl:js.length = N'.length)
  (h:∀ p ∈ js.zip N',∀ j,p.1 = some j → X.N[j]? = some p.2 ∧ scope.names.lookup p.2 = some .free ∧ (X.env.kindOf p.2 = some .cell ∨ X.env.kindOf p.2 = some .free)):xO X scope N' js :=
 ⟨hl,fun i j x h1 h2=>h (some j,x) (List.mem_of_getElem? (i:=i) (by rw [List.getElem?_zip_eq_some]; exact ⟨h1,h2⟩)) j rfl⟩
end L2
namespace L2
open PySem PySem.Spec PyProof.Rows
section
variable {X:Cx}
end
end L2
namespace L2
open PySem PySem.Spec PyProof.Rows
section
variable {X:Cx}
end
structure vi (i j:Int):Prop where
 lo:0 < j
 hi:j < 2 ^ 200
theorem rY {X:Cx}:cZ X (binaryOp .FloorDiv) (rI vi fun i j=>.int (i / j)):=wA fun i j _ _ _ _ _ hc q=>by
 have h1:(0:Int) < j:=hc.lo
 have h2:j < 2 ^ 200:=hc.hi
 refine floordiv_int (by omega) (by rw [Int.fdiv_eq_ediv_of_nonneg i (by omega)]; exact q) (.inl (PyProof.noPylong_of_log2 ?_))
 have h3:j.natAbs < 2 ^ 200:=by omega
 have h4:=(Nat.log2_lt (n:=j.natAbs) (k:=200) (by omega)).mpr h3
 omega
theorem nu.r {X:Cx} {id:String} {r:V → List V → Hp → VK → Prop} (h:nu X id r):rC X id r:=by
 first
 | exact (h)
 | (unfold rC at *; unfold nu at *; exact (h))
end L2
namespace L2
open PySem PySem.Spec PyProof.Rows
theorem dC {K:PySem.W.Frag} {a l:Addr} {xs:List V} {g:TG} {tc:TT} {te:TE} {σ:St} {H:Hp} {Q:VK} (Pv:Nat → St → List V → Hp → Prop) (hsz:xs.length ≤ sizeLine) (h0:Pv 0 σ [] H)
  (hl:∀ i σ acc H,i ≤ xs.length → Pv i σ acc H → H l = some (.lst acc) ∧ aj K H a xs ∧ acc.length ≤ i)
  (hs:∀ i x σ acc H,xs[i]? = some x → Pv i σ acc H → g x σ H fun σ2 H2=>tc σ2 H2 fun b H3=>if b = true then
   te σ2 H3 fun v H4=>H4 l = some (.lst acc) ∧ Nx xs.length i (Pv (i + 1) σ2 (acc ++ [v]) (upd H4 l (.lst (acc ++ [v])))) else Nx xs.length i (Pv (i + 1) σ2 acc H3))
  (hd:∀ σ acc H,Pv xs.length σ acc H → Q (.ref l) H):nU (xP K a) l g tc te σ H Q :=
 mL xs.length Pv hsz h0 (fun i σ acc H hi p=>⟨(hl i σ acc H hi p).1,(hl i σ acc H hi p).2.2⟩)
  (fun i σ acc H hi p=>⟨xs,xs[i],(hl i σ acc H (Nat.le_of_lt hi) p).2.1,List.getElem?_eq_getElem hi⟩)
  (fun i x σ acc H H' hi p y=>by
   obtain ⟨e,y⟩:=y
   subst e
   exact hs i x σ acc _ (y xs (hl i σ acc _ (Nat.le_of_lt hi) p).2.1) p)
  (fun σ acc H p=>⟨⟨xs,(hl _ σ acc H (Nat.le_refl _) p).2.1,Nat.le_refl _⟩,hd σ acc H p⟩)
def Tr:Nat → Type
 | 0=>Int
 | n + 1=>List (Tr n)
abbrev ls {n:Nat} (ts:Tr (n + 1)):List (Tr n):=ts
abbrev Ow:=Addr → Option (List Nat)
def jz (H:Hp):(n:Nat) → V → Tr n → Prop
 | 0,v,i=>v = .int i
 | n + 1,v,ts=>∃ a vs,v = .ref a ∧ H a = some (.lst vs) ∧ vs.length = (ls ts).length ∧ ∀ (j:Nat) w t,vs[j]? = some w → (ls ts)[j]? = some t → jz H n w t
def At (o:Ow) (H:Hp):(n:Nat) → List Nat → V → Tr n → Prop
 | 0,_,v,i=>v = .int i
 | n + 1,p,v,ts=>∃ a vs,v = .ref a ∧ o a = some p ∧ H a = some (.lst vs) ∧ vs.length = (ls ts).length ∧ ∀ (j:Nat) w t,vs[j]? = some w → (ls ts)[j]? = some t → At o H n (j :: p) w t
theorem At.r {o:Ow} {H:Hp}:∀ {n:Nat} {p:List Nat} {v:V} {t:Tr n},At o H n p v t → jz H n v t
 | 0,_,_,_,h=>h
 | n + 1,_,_,_,⟨a,vs,e,_,h,l,k⟩=>⟨a,vs,e,h,l,fun j w t hw ht=>(k j w t hw ht).r⟩
theorem jz.keep {H H':Hp} (s:∀ a xs,H a = some (.lst xs) → H' a = some (.lst xs)):∀ {n:Nat} {v:V} {t:Tr n},jz H n v t → jz H' n v t
 | 0,_,_,h=>h
 | n + 1,_,_,⟨a,vs,e,h,l,k⟩=>⟨a,vs,e,s _ _ h,l,fun j w t hw ht=>(k j w t hw ht).keep s⟩
theorem jz.same {H H':Hp} (s:aI H H') {n:Nat} {v:V} {t:Tr n} (h:jz H n v t):jz H' n v t:=h.keep fun a xs e=>s a _ e
theorem At.frame {o o':Ow} {H H':Hp}:∀ {n:Nat} {p:List Nat} {v:V} {t:Tr n},At o H n p v t → (∀ a r xs,o a = some r → p <:+ r → H a = some (.lst xs) → H' a = some (.lst xs) ∧ o' a = some r) → At o' H' n p v t
 | 0,_,_,_,h,_=>h
 | n + 1,p,_,_,⟨a,vs,e,ho,h,l,k⟩,f =>
  have q:=f a p vs ho (List.suffix_refl p) h
  ⟨a,vs,e,q.2,q.1,l,fun j w t hw ht=>(k j w t hw ht).frame fun b r xs hb hs hx=>f b r xs hb ((List.suffix_cons j p).trans hs) hx⟩
theorem At.under {o:Ow} {H:Hp} (q:List Nat):∀ {n:Nat} {p:List Nat} {v:V} {t:Tr n},At o H n p v t → At (fun a=>(o a).map (· ++ q)) H n (p ++ q) v t
 | 0,_,_,_,h=>h
 | n + 1,p,_,_,⟨a,vs,e,ho,h,l,k⟩=>⟨a,vs,e,(by show (o a).map (· ++ q) = _; rw [ho]; rfl),h,l,fun j w t hw ht=>(k j w t hw ht).under q⟩
theorem eD {j:Nat} {p:List Nat}:¬ (j :: p) <:+ p:=fun h=>by
 have:=h.length_le
 rw [List.length_cons] at this
 omega
theorem kA {j i:Nat} {p r:List Nat} (h:(j :: p) <:+ r) (h':(i :: p) <:+ r):j = i:=by
 have e1:(j :: p) = r.drop (r.length - (j :: p).length):=List.suffix_iff_eq_drop.mp h
 have e2:(i :: p) = r.drop (r.length - (i :: p).length):=List.suffix_iff_eq_drop.mp h'
 rw [List.length_cons] at e1 e2
 rw [← e2] at e1
 exact (List.cons.inj e1).1
theorem At.put {o o':Ow} {H H':Hp} {n:Nat} {p:List Nat} {a:Addr} {ts:Tr (n + 1)} {vs:List V} {i:Nat} {w:V} {t:Tr n} (h:At o H (n + 1) p (.ref a) ts) (hv:H a = some (.lst vs)) (hi:i < vs.length)
  (hf:∀ b r xs,o b = some r → b ≠ a → ¬ (i :: p) <:+ r → H b = some (.lst xs) → H' b = some (.lst xs)) (ho:∀ b r,o b = some r → ¬ (i :: p) <:+ r → o' b = some r)
  (e:H' a = some (.lst (vs.set i w))) (hw:At o' H' n (i :: p) w t):At o' H' (n + 1) p (.ref a) ((ls ts).set i t:List (Tr n)):=by
 obtain ⟨a',vs',ea,ho',h',l,k⟩:=h
 cases ea
 rw [hv] at h'
 cases h'
 refine ⟨a,_,rfl,ho _ _ ho' eD,e,by show (vs.set i w).length = ((ls ts).set i t).length; rw [List.length_set,List.length_set,l],fun j x u hx hu=>?_⟩
 have hu:((ls ts).set i t)[j]? = some u:=hu
 by_cases q:i = j
 ·subst q
  rw [List.getElem?_set_self (by omega)] at hx
  rw [List.getElem?_set_self (by omega)] at hu
  cases hx
  cases hu
  exact hw
 ·rw [List.getElem?_set_ne q] at hx hu
  refine (k j x u hx hu).frame fun b r xs hb hs hx=>?_
  have hne:b ≠ a:=fun z=>by
   subst z
   rw [ho'] at hb
   cases hb
   exact eD hs
  have hni:¬ (i :: p) <:+ r:=fun z=>q (kA z hs)
  exact ⟨hf b r xs hb hne hni hx,ho b r hb hni⟩
theorem At.lst {o:Ow} {H:Hp} {n:Nat} {p:List Nat} {v:V} {ts:Tr (n + 1)} (h:At o H (n + 1) p v ts):∃ a vs,v = .ref a ∧ o a = some p ∧ H a = some (.lst vs) ∧ vs.length = (ls ts).length :=
 let ⟨a,vs,e,ho,h,l,_⟩:=h
 ⟨a,vs,e,ho,h,l⟩
theorem At.yX {o:Ow} {H:Hp} {n:Nat} {p:List Nat} {a:Addr} {ts:Tr (n + 1)} {vs:List V} {j:Nat} (h:At o H (n + 1) p (.ref a) ts) (hv:H a = some (.lst vs)) (hj:j < vs.length):∃ w t,vs[j]? = some w ∧ (ls ts)[j]? = some t ∧ At o H n (j :: p) w t:=by
 obtain ⟨a',vs',ea,ho',h',l,k⟩:=h
 cases ea
 rw [hv] at h'
 cases h'
 have h1:vs[j]? = some vs[j]:=List.getElem?_eq_getElem hj
 have hj':j < (ls ts).length:=by omega
 have h2:(ls ts)[j]? = some (ls ts)[j]:=List.getElem?_eq_getElem hj'
 exact ⟨_,_,h1,h2,k j _ _ h1 h2⟩
theorem jz.yX {H:Hp} {n:Nat} {a:Addr} {ts:Tr (n + 1)} {vs:List V} {j:Nat} (h:jz H (n + 1) (.ref a) ts) (hv:H a = some (.lst vs)) (hj:j < vs.length):∃ w t,vs[j]? = some w ∧ (ls ts)[j]? = some t ∧ jz H n w t:=by
 obtain ⟨a',vs',ea,h',l,k⟩:=h
 cases ea
 rw [hv] at h'
 cases h'
 have h1:vs[j]? = some vs[j]:=List.getElem?_eq_getElem hj
 have hj':j < (ls ts).length:=by omega
 have h2:(ls ts)[j]? = some (ls ts)[j]:=List.getElem?_eq_getElem hj'
 exact ⟨_,_,h1,h2,k j _ _ h1 h2⟩
theorem jz.lst {H:Hp} {n:Nat} {v:V} {ts:Tr (n + 1)} (h:jz H (n + 1) v ts):∃ a vs,v = .ref a ∧ H a = some (.lst vs) ∧ vs.length = (ls ts).length :=
 let ⟨a,vs,e,h,l,_⟩:=h
 ⟨a,vs,e,h,l⟩
def pV (H H':Hp) (n:Nat) (w:V) (t:Tr n):Prop:=∃ o,At o H' n [] w t ∧ ∀ a r,o a = some r → H a = none ∧ H' a ≠ none
def kc (H H':Hp) (l:Addr) (n:Nat) (ws:List V) (ts:List (Tr n)):Prop :=
 ws.length = ts.length ∧ ∃ o:Ow,(∀ (j:Nat) w t,ws[j]? = some w → ts[j]? = some t → At o H' n [j] w t) ∧ ∀ a r,o a = some r → H a = none ∧ H' a ≠ none ∧ a ≠ l ∧ r ≠ []
theorem pV.r {H H':Hp} {n:Nat} {w:V} {t:Tr n} (h:pV H H' n w t):jz H' n w t:=let ⟨_,h,_⟩:=h; h.r
theorem kc.nil {H H':Hp} {l:Addr} {n:Nat}:kc H H' l n [] []:=⟨rfl,fun _=>none,fun j w t h=>(by rw [List.getElem?_nil] at h; cases h),fun a r h=>nomatch h⟩
theorem kc.frame {H H' H'':Hp} {l:Addr} {n:Nat} {ws:List V} {ts:List (Tr n)} (h:kc H H' l n ws ts) (f:∀ a xs,a ≠ l → H a = none → H' a = some (.lst xs) → H'' a = some (.lst xs)) (g:∀ a,H' a ≠ none → H'' a ≠ none):kc H H'' l n ws ts:=by
 obtain ⟨e,o,k,d⟩:=h
 exact ⟨e,o,fun j w t hw ht=>(k j w t hw ht).frame fun a r xs ho _ hx=>⟨f a xs (d a r ho).2.2.1 (d a r ho).1 hx,ho⟩,fun a r ho=>⟨(d a r ho).1,g a (d a r ho).2.1,(d a r ho).2.2⟩⟩
theorem pV.frame {H H' H'':Hp} {n:Nat} {w:V} {t:Tr n} (h:pV H H' n w t) (f:∀ a xs,H a = none → H' a = some (.lst xs) → H'' a = some (.lst xs)) (g:∀ a,H' a ≠ none → H'' a ≠ none):pV H H'' n w t:=by
 obtain ⟨o,k,d⟩:=h
 exact ⟨o,k.frame fun a r xs ho _ hx=>⟨f a xs (d a r ho).1 hx,ho⟩,fun a r ho=>⟨(d a r ho).1,g a (d a r ho).2⟩⟩
theorem pV.same {H H' H'':Hp} {n:Nat} {w:V} {t:Tr n} (h:pV H H' n w t) (s:aI H' H''):pV H H'' n w t:=h.frame (fun a xs _ e=>s a _ e) fun a e=>by
 cases q:H' a with
 | none=>exact absurd q e
 | some u=>rw [s a u q]; intro z; cases z
theorem pV.int {H H':Hp} {i:Int}:pV H H' 0 (.int i) i:=⟨fun _=>none,rfl,fun a r h=>nomatch h⟩
theorem kc.snoc {H H' H'':Hp} {l:Addr} {n:Nat} {ws:List V} {ts:List (Tr n)} {w:V} {t:Tr n} (h:kc H H' l n ws ts) (hl:H' l ≠ none) (fr:∀ a,H' a = none → H a = none) (f:∀ a xs,a ≠ l → H a = none → H' a = some (.lst xs) → H'' a = some (.lst xs)) (g:∀ a,H' a ≠ none → H'' a ≠ none)
  (hn:pV H' H'' n w t):kc H H'' l n (ws ++ [w]) (ts ++ [t]):=by
 obtain ⟨e,o,k,d⟩:=h
 obtain ⟨o2,k2,d2⟩:=hn
 have old:∀ a r,o a = some r → o2 a = none:=fun a r ho=>by
  cases q:o2 a with
  | none=>rfl
  | some r2=>exact absurd (d2 a r2 q).1 (d a r ho).2.1
 refine ⟨by rw [List.length_append,List.length_append,e]; rfl,fun a=>match o2 a with | some r=>some (r ++ [ws.length]) | none=>o a,fun j x u hx hu=>?_,fun a r hr=>?_⟩
 ·rcases Nat.lt_trichotomy j ws.length with q | q | q
  ·rw [List.getElem?_append_left q] at hx
   rw [List.getElem?_append_left (by omega)] at hu
   refine (k j x u hx hu).frame fun a r xs ho _ hx=>⟨f a xs (d a r ho).2.2.1 (d a r ho).1 hx,?_⟩
   show (match o2 a with | some r=>some (r ++ [ws.length]) | none=>o a) = some r
   rw [old a r ho]
   exact ho
  ·subst q
   rw [List.getElem?_append_right (Nat.le_refl _),Nat.sub_self] at hx
   rw [List.getElem?_append_right (by omega),show ws.length - ts.length = 0 by omega] at hu
   cases hx
   cases hu
   refine (k2.under [ws.length]).frame fun a r xs ho _ hx=>⟨hx,?_⟩
   show (match o2 a with | some r=>some (r ++ [ws.length]) | none=>o a) = some r
   cases q:o2 a with
   | none=>rw [q] at ho; cases ho
   | some r2=>rw [q] at ho; exact ho
  ·rw [List.getElem?_append_right (by omega)] at hx
   have:[w].length ≤ j - ws.length:=by rw [List.length_singleton]; omega
   rw [List.getElem?_eq_none this] at hx
   cases hx
 ·have hr:(match o2 a with | some r=>some (r ++ [ws.length]) | none=>o a) = some r:=hr
  cases q:o2 a with
  | none =>
   rw [q] at hr
   exact ⟨(d a r hr).1,g a (d a r hr).2.1,(d a r hr).2.2⟩
  | some r2 =>
   rw [q] at hr
   cases hr
   refine ⟨fr a (d2 a r2 q).1,(d2 a r2 q).2,fun z=>?_,fun z=>?_⟩
   ·subst z
    exact hl (d2 a r2 q).1
   ·have:=congrArg List.length z
    rw [List.length_append] at this
    simp at this
theorem kc.done {H H':Hp} {l:Addr} {n:Nat} {ws:List V} {ts:List (Tr n)} (h:kc H H' l n ws ts) (hl:H l = none) (e:H' l = some (.lst ws)):pV H H' (n + 1) (.ref l) ts:=by
 obtain ⟨el,o,k,d⟩:=h
 have nl:o l = none:=by
  cases q:o l with
  | none=>rfl
  | some r=>exact absurd rfl (d l r q).2.2.1
 refine ⟨fun a=>if a = l then some [] else o a,⟨l,ws,rfl,if_pos rfl,e,el,fun j w t hw ht=>(k j w t hw ht).frame fun a r xs ho _ hx=>⟨hx,?_⟩⟩,fun a r hr=>?_⟩
 ·show (if a = l then some [] else o a) = some r
  rw [if_neg (d a r ho).2.2.1]
  exact ho
 ·have hr:(if a = l then some [] else o a) = some r:=hr
  by_cases q:a = l
  ·subst q
   exact ⟨hl,by rw [e]; intro z; cases z⟩
  ·rw [if_neg q] at hr
   exact ⟨(d a r hr).1,(d a r hr).2.1⟩
def flat:(n:Nat) → Tr n → List Int
 | 0,i=>[i]
 | n + 1,ts=>(ls ts).flatMap (flat n)
def full:(n:Nat) → Tr n → Prop
 | 0,_=>True
 | n + 1,ts=>ls ts ≠ [] ∧ ∀ t ∈ ls ts,full n t
theorem bK.ty {K:PySem.W.Frag} {H:Hp} {x:V} {n c:String} {b:Bool} {Q:VK} (t:dZ K H x (.type n)) (k:PySem.W.kitOne K (.type n) (.type c) = some b) (q:Q (.bl b) H):bK K [x,.ty c] H Q:=.inl ⟨x,.ty c,_,_,_,rfl,.ty c,t,k,q⟩
def yW (o:Ow) (H:Hp):Prop:=∀ b r,o b = some r → H b ≠ none
structure Ext (o o':Ow) (H H1:Hp):Prop where
 old:∀ b,H b ≠ none → o' b = o b
 new:∀ b r,o' b = some r → H b = none → H1 b ≠ none
def yT (H:Hp) (o oN:Ow) (q:List Nat):Ow:=fun b=>match H b with | none=>(oN b).map (· ++ q) | some _=>o b
theorem pV.put {o:Ow} {H H1:Hp} {n:Nat} {w:V} {t:Tr n} (nw:pV H H1 n w t) (q:List Nat):∃ o',Ext o o' H H1 ∧ ∀ H2,(∀ b xs,H b = none → H1 b = some (.lst xs) → H2 b = some (.lst xs)) → At o' H2 n q w t:=by
 obtain ⟨oN,k,d⟩:=nw
 refine ⟨yT H o oN q,⟨fun b hb=>?_,fun b r hr hb=>?_⟩,fun H2 f=>?_⟩
 ·unfold yT
  cases e:H b with
  | none=>exact absurd e hb
  | some u=>rfl
 ·unfold yT at hr
  rw [hb] at hr
  cases e:oN b with
  | none =>
   have hr:(oN b).map (· ++ q) = some r:=hr
   rw [e] at hr
   cases hr
  | some r'=>exact (d b r' e).2
 ·refine (k.under q).frame fun b r xs hr _ hx=>?_
  have hr:(oN b).map (· ++ q) = some r:=hr
  cases e:oN b with
  | none=>rw [e] at hr; cases hr
  | some r' =>
   refine ⟨f b xs (d b r' e).1 hx,?_⟩
   unfold yT
   rw [(d b r' e).1]
   exact hr
theorem Ext.zo {o o':Ow} {H H1:Hp} (x:Ext o o' H H1) (d:yW o H):∀ b r,o b = some r → o' b = some r:=fun b r h=>by rw [x.old b (d b r h)]; exact h
theorem At.up {o o':Ow} {H H1:Hp} {n:Nat} {p pc:List Nat} {a c:Addr} {ts:Tr (n + 1)} {vs ys:List V} {i:Nat} {w:V} {t:Tr n} (h:At o H (n + 1) p (.ref a) ts) (dm:yW o H) (hv:H a = some (.lst vs)) (hw:vs[i]? = some w) (s:aI H H1) (x:Ext o o' H H1)
  (hc:o c = some pc) (hp:(i :: p) <:+ pc) (k:At o' (upd H1 c (.lst ys)) n (i :: p) w t):At o' (upd H1 c (.lst ys)) (n + 1) p (.ref a) ((ls ts).set i t:List (Tr n)):=by
 have hi:i < vs.length:=(List.getElem?_eq_some_iff.mp hw).1
 have oa:o a = some p:=by
  obtain ⟨a',_,e,oa,_⟩:=h
  cases e
  exact oa
 have nac:a ≠ c:=fun z=>by
  rw [z,hc] at oa
  cases oa
  exact eD hp
 have es:vs.set i w = vs:=by
  obtain ⟨hi,rfl⟩:=List.getElem?_eq_some_iff.mp hw
  exact List.set_getElem_self hi
 refine h.put hv hi (fun b r xs hb _ hs hx=>?_) (fun b r hb _=>x.zo dm b r hb) (by rw [aH nac,es]; exact s a _ hv) k
 rw [aH (fun z=>by rw [z,hc] at hb; cases hb; exact hs hp)]
 exact s b _ hx
theorem Ext.after {o o':Ow} {H H1:Hp} {c:Addr} {u:HO} (x:Ext o o' H H1) (dm:yW o H) (s:aI H H1):yW o' (upd H1 c u):=fun b r hr=>by
 by_cases q:b = c
 ·rw [q,aC]; intro z; cases z
 ·rw [aH q]
  cases e:H b with
  | none=>exact x.new b r hr e
  | some v=>rw [s b v e]; intro z; cases z
end L2
namespace L2
open PySem PySem.Spec PyProof.Rows
def w4 (K:PySem.W.Frag):R2:=fun x y H Q=>∃ a b xs ys,x = .ref a ∧ y = .ref b ∧ eX K H a xs ∧ eX K H b ys ∧ ys ≠ [] ∧ xs.length + ys.length ≤ sizeLine ∧
 (xs = [] → Q (.ref b) H) ∧ (xs ≠ [] → ∀ p,H p = none → Q (.ref p) (upd H p (.tup (xs ++ ys))))
theorem nM {X:Cx}:cZ X (binaryOp .Add) (w4 X.K):=by
 unfold cZ at *
 exact by
  intro pins s σ H x y v u Q I rx ry h
  obtain ⟨a,b,xs,ys,rfl,rfl,ha,hb,hy,hz,q1,q2⟩:=h
  cases rx
  cases ry
  by_cases hx:xs = []
  ·obtain ⟨its,r1,p1,_⟩:=I.tuple ha
   obtain ⟨its2,r2,p2,_⟩:=I.tuple hb
   have hv:its = []:=r1.jd.mpr hx
   obtain ⟨⟨cls,dd,data,sl⟩,ho,hc,n,hd⟩:=id p1
   obtain ⟨⟨cls2,dd2,data2,sl2⟩,ho2,hc2,n2,hd2⟩:=id p2
   simp only at hc hd hc2 hd2
   subst hc hd hc2 hd2
   exact concat_meets ⟨_,ho,rfl⟩ ⟨_,ho2,rfl⟩ noFill_tuple_add seq_tuple_add PySem.F.slot_tuple_add PySem.F.entry_tuple_add (PySem.F.args_tuple_add_2 _ _)
    (tuple_addW0 a b its.toArray its2.toArray n n2 dd dd2 sl sl2 (by simp [hv])) ⟨ho,ho2,⟨.ref b,H,I,rfl,q1 hx⟩⟩
  ·have op:=vH (X:=X)
   unfold cZ at op
   exact op pins s σ H (.ref a) (.ref b) _ _ Q I rfl rfl ⟨a,b,xs,ys,rfl,rfl,ha,hb,hx,hz,fun e=>absurd e hy,fun _=>q2 hx⟩
end L2
namespace L2
open PySem PySem.Spec PyProof.Rows
end L2
namespace L2
open PySem PySem.Spec PyProof.Rows
theorem lZ:∀ {ys:List Str} {us:List Value},Vals (ys.map V.str) us → StrsAre us ys
 | [],_,.nil=>.nil
 | _ :: _,_,.cons ⟨_,h⟩ r=>by
  subst h
  exact .cons _ _ (lZ r)
theorem uA {X:Cx}:rC X "str.join" (fun x xs H Q=>∃ sep a ys,x = .str sep ∧ xs = [.ref a] ∧ aj X.K H a (ys.map V.str) ∧ sep.length ≤ 16 ∧ (ys.map (·.length)).sum + ys.length ≤ 1048576 ∧ Q (.str (Txt.join sep ys)) H):=by
 unfold rC at *
 exact by
  intro pins s σ H x xs v us Q I rx r h
  obtain ⟨sep,a,ys,rfl,rfl,hq,h1,h2,q⟩:=h
  obtain ⟨t,rfl⟩:=rx
  obtain ⟨u,rfl,ru⟩:=vals1 r
  cases ru
  obtain ⟨its,rv,pl,_⟩:=I.list hq
  exact join_listW pl.isList (lZ rv) h1 h2 fun t' k=>⟨.str _,H,I.tok _,⟨_,rfl⟩,q⟩
structure wg (K:PySem.W.Frag) (C:Addr):Prop where
 ha:PySem.W.findIn K (.ref C) "__class__" = some (some (.builtin "object.__class__"))
 hn:PySem.W.specialIn K (.builtin "object.__class__") "__get__" = some (some (.builtin "getset_descriptor.__get__"))
 htk:PySem.W.takesIn K (.builtin "object.__class__") = some true
 hm:PySem.W.mroIn K C (.type "object") = some true
theorem bK.ins {K:PySem.W.Frag} {H:Hp} {a C D dx:Addr} {fs:List (Str × V)} {b:Bool} {Q:VK} (h:H a = some (.ins C dx fs)) (cl:oF K C) (q:wg K C) (k:PySem.W.kitOne K (.ref C) (.ref D) = some b) (hQ:Q (.bl b) H):bK K [.ref a,.ref D] H Q :=
 .inl ⟨.ref a,.ref D,_,_,_,rfl,.own D,.ins h cl q.ha q.hn q.htk q.hm,k,hQ⟩
theorem bK.zj {K:PySem.W.Frag} {H:Hp} {x:V} {n:String} {D:Addr} {b:Bool} {Q:VK} (t:dZ K H x (.type n)) (k:PySem.W.kitOne K (.type n) (.ref D) = some b) (q:Q (.bl b) H):bK K [x,.ref D] H Q:=.inl ⟨x,.ref D,_,_,_,rfl,.own D,t,k,q⟩
end L2
namespace L2
open PySem PySem.Spec PyProof.Rows
section
variable {X:Cx}
end
structure Pk {n:Nat} (ws:List V) (ts:List (Tr n)) (i:Nat) (idx:List Nat) (acc:List V) (us:List (Tr n)):Prop where
 la:acc.length = idx.length
 lu:us.length = idx.length
 lt:∀ k ∈ idx,k < i
 nd:idx.Nodup
 at_:∀ j k:Nat,idx[j]? = some k → acc[j]? = ws[k]? ∧ us[j]? = ts[k]?
theorem Pk.nil {n:Nat} {ws:List V} {ts:List (Tr n)}:Pk ws ts 0 [] [] []:=⟨rfl,rfl,fun _ h=>(nomatch h),List.nodup_nil,fun _ _ h=>(by rw [List.getElem?_nil] at h; cases h)⟩
theorem Pk.drop {n:Nat} {ws:List V} {ts:List (Tr n)} {i:Nat} {idx:List Nat} {acc:List V} {us:List (Tr n)} (h:Pk ws ts i idx acc us):Pk ws ts (i + 1) idx acc us :=
 ⟨h.la,h.lu,fun k hk=>Nat.lt_succ_of_lt (h.lt k hk),h.nd,h.at_⟩
theorem Pk.keep {n:Nat} {ws:List V} {ts:List (Tr n)} {i:Nat} {idx:List Nat} {acc:List V} {us:List (Tr n)} {w:V} {t:Tr n} (h:Pk ws ts i idx acc us) (hw:ws[i]? = some w) (ht:ts[i]? = some t):Pk ws ts (i + 1) (idx ++ [i]) (acc ++ [w]) (us ++ [t]):=by
 refine ⟨by rw [List.length_append,List.length_append,h.la]; rfl,by rw [List.length_append,List.length_append,h.lu]; rfl,fun k hk=>?_,?_,fun j k hk=>?_⟩
 ·rcases List.mem_append.mp hk with q | q
  ·exact Nat.lt_succ_of_lt (h.lt k q)
  ·rw [List.mem_singleton.mp q]; exact Nat.lt_succ_self i
 ·rw [List.nodup_append]
  exact ⟨h.nd,List.nodup_cons.mpr ⟨List.not_mem_nil,List.nodup_nil⟩,fun x hx y hy e=>by rw [e,List.mem_singleton.mp hy] at hx; exact Nat.lt_irrefl _ (h.lt _ hx)⟩
 ·by_cases q:j < idx.length
  ·rw [List.getElem?_append_left q] at hk
   rw [List.getElem?_append_left (by rw [h.la]; exact q),List.getElem?_append_left (by rw [h.lu]; exact q)]
   exact h.at_ j k hk
  ·rw [List.getElem?_append_right (by omega)] at hk
   obtain ⟨h1,e1⟩:=List.getElem?_eq_some_iff.mp hk
   have j0:j - idx.length = 0:=by simpa using h1
   rw [j0] at hk
   cases (Option.some.inj hk:i = k)
   rw [List.getElem?_append_right (by rw [h.la]; omega),List.getElem?_append_right (by rw [h.lu]; omega),h.la,h.lu,j0]
   exact ⟨hw.symm,ht.symm⟩
end L2
namespace L2
open PySem PySem.Spec PyProof.Rows
end L2
namespace L2
open PySem PySem.Spec PyProof.Rows
section
variable {X:Cx} {pins:List (Addr × Obj)} {σ:St} {H:Hp} {s:Shared}
end
section
variable {X:Cx} {pins:List (Addr × Obj)} {σ:St} {H:Hp} {s:Shared} {d:Addr} {u0 u1:HO}
end
end L2
namespace L2
open PySem PySem.Spec PyProof.Rows
def xM (C:Addr) (m:Str) (sp:Sp) (dvs:List V) (Ez:St → XK) (ta:TE) (t:TA):TE:=fun σ H Q=>ta σ H fun x H1=>∃ a dx fs,x = .ref a ∧ H1 a = some (.ins C dx fs) ∧ fs.lookup m = none ∧
 t σ H1 fun vs H2=>sp (x :: (vs ++ dvs)) H2 Q (Ez σ)
section
variable {X:Cx} {CX:ja} {k:Nat} {f C:Addr} {fd:FuncData} {ps:List Str} {sp:Sp} {dvs:List V} {ds:List Value} {Ez:St → XK} {x m:Str} {p pos apos:Pos} {e o:Expr} {es:List Expr} {ta:TE} {t:TA}
theorem ji {pl:Sem Bool} (he:PE X o ta) (c:oF X.K C) (hm:Meth X.K C m f) (F:aw X.prog X.w X.K X.mg X.base CX k f fd ps sp) (hr:bx k X.A) (hb:Binds X.K fd ps ds) (hd:Vals dvs ds) (hx:eO CX X Ez) (ha:PA X (e :: es) t)
  (hst:starEach (e :: es) X.env = (false,eval e X.env) :: starEach es X.env:=by rfl) (hpl:(backTo pos (starEach es X.env)).any (·.1) = false:=by rfl)
  (ht:eval (.Call (.Attribute o m apos) (e :: es) [] pos) X.env = (do
   let ov ← eval o X.env
   standAt apos.atName
   let (f,first) ← holding [ov] (getMethod ov m pl)
   callWith pos f first (backTo pos (starEach (e :: es) X.env)) (backToKw pos (keywordEach [] X.env))):=by rfl) :
  PE X (.Call (.Attribute o m apos) (e :: es) [] pos) (xM C m sp dvs Ez ta t):=by
 unfold PE at *; unfold PA at *
 exact by
  intro pins s σ H Q I h
  refine PySem.W.methodCall_KW (pl:=pl) (bQ (he pins s σ H _ I h) fun u s1 ⟨x,H1,I1,rx,a,dx,fs,ex,ea,l,q⟩=>?_) ht
  subst ex
  obtain rfl:u = Value.ref a:=rx
  refine iR I1 ea c hm l ?_
  refine PySem.W.callWith_K (first:=[.ref a]) (h₀:=X.base) I.ok.mod.kin hm.kp (bQ (ha pos pins s1 σ H1 _ I1 q) fun us s2 ⟨vs,H2,I2,r,q2⟩=>⟨I2.dk,?_⟩) hst hpl
  exact pW (us:=.ref a :: us) (vs:=.ref a :: vs) F hr hb hd hx I2 (.cons rfl r) q2
end
end L2
namespace L2
open PySem PySem.Spec PyProof.Rows
end L2
namespace L2
open PySem PySem.Spec PyProof.Rows
section
variable {prog:Program} {w:World} {A:Around} {E:Value → Shared → Prop} {s:Shared} {T:String} {r d:Addr} {n:Nat} {P:Nat → Value → Prop} {OK:Heap → Prop}
end
section
variable {X:Cx}
end
theorem rp (xs:List V) (i:Nat) (h:i ≤ xs.length):lB xs none (some (0 + (i:Int))) = xs.take i:=by
 rw [Int.zero_add]
 unfold lB
 rw [HT.qA,HT.m6,Nat.min_eq_left h,List.drop_zero,Nat.sub_zero]
section
variable {X:Cx}
end
theorem uL (xs:List V) (k:Nat):lB xs none (some (k:Int)) = xs.take k:=by
 unfold lB
 rw [HT.qA,HT.m6,List.drop_zero,Nat.sub_zero]
 have h:=List.take_take (i:=k) (j:=xs.length) (l:=xs)
 rw [List.take_length] at h
 exact h.symm
end L2
namespace L2
open PySem PySem.Spec PyProof.Rows
theorem lJ {P P':Program} {w w':World} {h:Heap} {a:Addr} {vs:List (Key × Value)} (d:h.DictOf (ae P w) a vs) (hi:∀ p ∈ vs,∃ n:Int,p.1 = Sum.inl n):h.DictOf (ae P' w') a vs:=by
 obtain ⟨o,es,ep,g,c,hd,hk,hp,hn⟩:=d
 have pp:∀ {el:List DictEntry} {vl:List (Key × Value)},Pairs (ae P w) el vl → (∀ p ∈ vl,∃ n:Int,p.1 = Sum.inl n) → Pairs (ae P' w') el vl ∧ ∀ e ∈ el,∃ n:Int,iT (Sum.inl n) e.key = true:=by
  intro el vl h
  induction h with
  | nil=>intro _; exact ⟨.nil,fun _ h=>nomatch h⟩
  | @cons e kv es kvs h1 h2 _ ih =>
   intro hi
   obtain ⟨i1,i2⟩:=ih fun p hp=>hi p (List.mem_cons_of_mem _ hp)
   refine ⟨.cons h1 h2 i1,fun x hx=>?_⟩
   rcases List.mem_cons.mp hx with q | q
   ·obtain ⟨n,hn⟩:=hi kv (List.mem_cons_self ..)
    rw [q]
    exact ⟨n,by rw [← hn]; exact h1⟩
   ·exact i2 x q
 obtain ⟨p1,p2⟩:=pp hp hi
 refine ⟨o,es,ep,g,c,hd,fun e he=>?_,p1,hn⟩
 obtain ⟨k,k1,k2⟩:=hk e he
 obtain ⟨n,hn'⟩:=p2 e (by simpa using he)
 have e1:k = Sum.inl n:=(ae P w).inj e.key k (Sum.inl n) k1 hn'
 subst e1
 exact ⟨_,k1,k2⟩
theorem qE {ka:List (Key × V)} {va:List (Key × Value)} (r:KV ka va) (hi:∀ p ∈ ka,∃ n:Int,p.1 = Sum.inl n):∀ p ∈ va,∃ n:Int,p.1 = Sum.inl n:=by
 unfold KV at r
 induction r with
 | nil=>exact fun _ h=>nomatch h
 | @cons p q ps qs h t ih =>
  intro x hx
  rcases List.mem_cons.mp hx with e | e
  ·obtain ⟨n,hn⟩:=hi p (List.mem_cons_self ..)
   rw [e,← h.1]
   exact ⟨n,hn⟩
  ·exact ih (fun p hp=>hi p (List.mem_cons_of_mem _ hp)) x e
def zU (K:PySem.W.Frag) (H:Hp) (n:Nat) (u v:V):Prop:=∃ a b ka kb,u = .ref a ∧ v = .ref b ∧ Rd H a (.dK ka) ∧ Rd H b (.dK kb) ∧ ka.length = kb.length ∧ (∀ p ∈ ka,∃ y,bg kb p.1 = some y ∧ jK K H n p.2 y true) ∧ (∀ p ∈ ka,∃ m:Int,p.1 = Sum.inl m) ∧ ∀ p ∈ kb,∃ m:Int,p.1 = Sum.inl m
section
variable {X:Cx} {pins:List (Addr × Obj)} {σ:St} {H:Hp} {s:Shared}
theorem uJ (I:Inv X pins σ H s) {A:Around} {n:Nat} {kb:List (Key × V)} {vb:List (Key × Value)} (rb:KV kb vb) (hu:A.units + n < cLine):∀ {ka:List (Key × V)} {va:List (Key × Value)},KV ka va →
  (∀ p ∈ ka,∃ y,bg kb p.1 = some y ∧ jK X.K H n p.2 y true) → PySem.W.KeqHits A s vb va true:=by
 intro ka va r
 unfold KV at r
 induction r with
 | nil=>intro _; exact .nil
 | @cons p q ps qs h t ih =>
  intro hall
  obtain ⟨y,hy,he⟩:=hall p (List.mem_cons_self ..)
  obtain ⟨w,hw,rw'⟩:=eg.some_of (v:=y) (o:=valueAt vb q.1) (by rw [← hy,h.1]; exact rb.val q.1)
  obtain ⟨q1,q2⟩:=q
  exact PySem.W.KeqHits.hit (e:=true) (b:=true) hw (jK.at I n A p.2 y true q2 w hu he h.2 rw') (ih fun p' hp'=>hall p' (List.mem_cons_of_mem _ hp'))
theorem zU.at (I:Inv X pins σ H s) {A:Around} {n:Nat} {x y:V} {u v:Value} (hu:A.units + 1 + n < cLine) (h:zU X.K H n x y) (rx:RelV x u) (ry:RelV y v):SeqAt.EqAt A s u v true:=by
 obtain ⟨a,b,ka,kb,rfl,rfl,ha,hb,hl,hall,ia,ib⟩:=h
 cases rx
 cases ry
 obtain ⟨za,da,va,ra,oa⟩:=jQ I.hok ha
 obtain ⟨zb,db,vb,rb,ob⟩:=jQ I.hok hb
 by_cases hab:a = b
 ·subst hab
  exact SeqAt.EqAt.same _
 ·refine SeqAt.EqAt.of_refs hab fun prog w E Q hq=>?_
  have oa':=lJ (P':=prog) (w':=w) oa (qE ra ia)
  have ob':=lJ (P':=prog) (w':=w) ob (qE rb ib)
  refine PySem.W.keq_eq da db oa' ob' (by omega) (fun _=>uJ (A:=A.in1) I rb (by show A.units + 1 + n < cLine; exact hu) ra hall) ?_
  rw [← ra.length,← rb.length,hl,beq_self_eq_true,Bool.true_and]
  exact hq
end
end L2
namespace L2
open PySem PySem.Spec PyProof.Rows
end L2
namespace L2
open PySem PySem.Spec PyProof.Rows
structure fK (k:Nat) (A:Around):Prop where
 dp:A.depth + 3 * k + 5 < recursionLimit
 un:A.units + 16 * k + 200 < cLine
theorem fK.mono {j k:Nat} {A:Around} (r:fK k A) (h:j ≤ k):fK j A:=⟨by have:=r.dp; omega,by have:=r.un; omega⟩
theorem fK.deeper {k:Nat} {A:Around} (r:fK (k + 1) A) (env:Env):fK k (A.deeper env) :=
 ⟨by have:=r.dp; show A.depth + 1 + 3 * k + 5 < _; omega,by have:=r.un; show A.units + 3 + 16 * k + 200 < _; omega⟩
theorem fK.depth {k:Nat} {A:Around} (r:fK k A):A.depth < recursionLimit:=by have:=r.dp; omega
def lM (CX:ja) (P:Program) (w:World) (K:PySem.W.Frag) (mg:Str → Option Value) (base:Heap) (N:List Str) (qual:Str) (scope:Scope) (f:Addr) (cd:Value) (A:Around) (outer:List Env) (s:Shared) (H:Hp) (E:XK):Cx where
 prog:=P
 w:=w
 K:=K
 mg:=mg
 base:=base
 A:=A.deeper (envOfC qual scope s.heap.objs.size f cd)
 N:=N
 s₀:=s
 H₀:=H
 env:=envOfC qual scope s.heap.objs.size f cd
 outer:=outer
 stack:=envOfC qual scope s.heap.objs.size f cd :: outer
 ex:=[]
 calm:=false
 fn:=fun _=>true
 pn:=[]
 xe:=fun e s'=>wpAny (model P w) (A.deeper (envOfC qual scope s.heap.objs.size f cd)) (leaving (envOfC qual scope s.heap.objs.size f cd) e) (fun _ s''=>CX outer H s E e s'') (fun e' s''=>CX outer H s E e' s'') s'
theorem oZ {CX:ja} {P:Program} {w:World} {K:PySem.W.Frag} {mg:Str → Option Value} {base:Heap} {N ps:List Str} {qual:Str} {scope:Scope} {f:Addr} {cd:Value} {A:Around} {outer:List Env} {s s1:Shared} {H:Hp} {E:XK} {us:List Value} {vs:List V}
  (S:aU N ps scope) (e0:j2 P w K mg base A outer s H) (hl:vs.length = ps.length) (r:Vals vs us)
  (x:InCallC s s.heap.objs.size (bindL (envOfC qual scope s.heap.objs.size f cd).kindOf (ps.zip us) fun _=>none) (cellsFrom (s.heap.objs.size + 1) scope.names []) (bindC (envOfC qual scope s.heap.objs.size f cd).kindOf (ps.zip us) fun _=>none) s1) :
  Inv (lM CX P w K mg base N qual scope f cd A outer s H E) [] (start N vs) H s1:=by
 have hpl:ps.length ≤ N.length:=by have:=congrArg List.length S.pre; rw [List.length_take] at this; omega
 obtain ⟨h1,tk,rfl,hk⟩:=x.done
 have noA:∀ b:Addr,b ∉ (lM CX P w K mg base N qual scope f cd A outer s H E).ex:=fun b z=>absurd (show b ∈ ([]:List Addr) from z) (by simp)
 refine ⟨⟨e0.mod,S.kind,rfl,rfl,Nat.le_refl _,fun y z c h1 h2=>?_,fun y hy=>?_,fun y c _ h=>?_,fun z=>Bool.noConfusion z,Around.frames_deeper e0.frames,.inr ⟨rfl,rfl⟩,fun b z=>absurd z (noA b),e0.bs,e0.bsz,fun b _ _=>noA b,fun b z=>absurd z (noA b),e0.gN,e0.frf⟩,
  rfl,e0.bare,Un.kept hk,⟨_,x.toInCall.ns,fun i y v h1 h2 h3=>?_⟩,fun y c h=>⟨_,x.cell y c h⟩,e0.hok.fresh (Nat.le_refl _),fun y c h=>?_,fun p hp=>absurd (show p ∈ ([]:List (Addr × Obj)) from hp) (by simp),e0.hok.kept hk,?_⟩
 ·exact name_of_addr x.apart (PySem.mem_of_lookup h1) (PySem.mem_of_lookup h2)
 ·have hy:scope.names.lookup y = some .cell ∨ scope.names.lookup y = some .free:=hy
  rcases hy with hy | hy
  ·exact iU hy
  ·exact absurd rfl (S.nofree _ (PySem.mem_of_lookup hy))
 ·exact Nat.le_of_lt (x.above y c (PySem.mem_of_lookup h))
 ·have hi:i < vs.length:=by
   unfold start at h2
   by_cases hi:i < vs.length
   ·exact hi
   ·rw [List.getElem?_append_right (by simpa using hi)] at h2
    rw [List.getElem?_replicate] at h2
    split at h2 <;> cases h2
  have ha:vs[i]? = some v:=by
   unfold start at h2
   rw [List.getElem?_append_left (by simpa using hi),List.getElem?_map] at h2
   cases e:vs[i]? with
   | none=>rw [e] at h2; cases h2
   | some a=>rw [e] at h2; cases h2; rfl
  obtain ⟨u,hu,rv⟩:=r.get ha
  have hp:ps[i]? = some y:=by
   rw [← S.pre,List.getElem?_take_of_lt (by omega)]; exact h1
  have ndP:ps.Nodup:=by rw [← S.pre]; exact S.nd.sublist (List.take_sublist _ _)
  refine ⟨u,rv,?_⟩
  rcases S.par y (List.mem_of_getElem? hp) with k | k
  ·exact .inl ⟨k,iy ndP hp hu k⟩
  ·obtain ⟨c,e⟩:=iU (n:=s.heap.objs.size + 1) k
   refine .inr ⟨.inl k,c,e,?_⟩
   have q:=x.cell y c e
   rw [jC ndP hp hu (by show scope.names.lookup y ≠ _; rw [k]; decide)] at q
   exact q
 ·exact e0.hok.fresh (Nat.le_of_lt (x.above y c (PySem.mem_of_lookup h)))
 ·unfold start
  show _ = N.length
  rw [List.length_append,List.length_map,List.length_replicate]
  omega
structure mm (P:Program) (w:World) (K:PySem.W.Frag) (mg:Str → Option Value) (base:Heap) (CX:ja) (k:Nat) (f:Addr) (fd:FuncData) (ps:List Str) (sp:Sp):Prop where
 len:∀ vs H Q E,sp vs H Q E → vs.length = ps.length
 run:∀ (A:Around) (outer:List Env) (s:Shared) (H:Hp) (args:Args) (us:List Value) (vs:List V) (Q:VK) (E:XK),fK k A → j2 P w K mg base A outer s H → BindsTo s fd args (ps.zip us) → Vals vs us → sp vs H Q E →
  codeAny (model P w) A (.call (.ref f) args) (CR CX outer P w H s Q E) s
theorem bx.h {k:Nat} {A:Around} {o:Option Value} (r:bx k A):fK k (A.mark o):=⟨r.dp,r.un⟩
section
variable {X:Cx} {CX:ja} {k:Nat} {f C:Addr} {fd:FuncData} {ps:List Str} {sp:Sp} {dvs:List V} {ds:List Value} {E:XK} {x m:Str} {p pos apos:Pos} {e o:Expr} {es:List Expr} {ta:TE} {t:TA}
theorem uY {pins:List (Addr × Obj)} {σ:St} {H:Hp} {s:Shared} {Q:VK} {us:List Value} {vs:List V} (F:mm X.prog X.w X.K X.mg X.base CX k f fd ps sp) (hr:fK k X.A) (hb:Binds X.K fd ps ds) (hd:Vals dvs ds) (hx:Passes CX X E)
  (I:Inv X pins σ H s) (r:Vals vs us) (h:sp (vs ++ dvs) H Q E):wpAny (model X.prog X.w) X.A (call (.ref f) us) (EP X pins σ Q) X.xe s:=by
 have r2:Vals (vs ++ dvs) (us ++ ds):=r.append hd
 have hl:(us ++ ds).length = ps.length:=by rw [← r2.length]; exact F.len _ _ _ _ h
 refine wpAny_call (codeAny_mono (F.run X.A X.stack s H ⟨us,[]⟩ (us ++ ds) (vs ++ dvs) Q E hr I.qQ (hb s us I.dk hl) r2 h) fun r s' hq=>?_)
 cases r with
 | error e=>exact hx pins σ H s e s' I hq
 | ok fl =>
  cases fl with
  | ret u=>exact I.after hq
  | next=>exact False.elim hq
  | brk=>exact False.elim hq
  | cont=>exact False.elim hq
theorem rm (F:mm X.prog X.w X.K X.mg X.base CX k f fd ps sp) (hr:fK k X.A) (hg:Gl X x) (hm:X.mg x = some (.ref f)) (hk:PySem.W.keepIn X.K (.ref f) = true) (hb:Binds X.K fd ps ds) (hd:Vals dvs ds) (hx:Passes CX X E)
  (ha:PA X (e :: es) t) (hdb:(x == ("__debug__" : Str)) = false:=by decide) (he:starEach (e :: es) X.env = (false,eval e X.env) :: starEach es X.env:=by rfl) (hpl:(backTo pos (starEach es X.env)).any (·.1) = false:=by rfl) :
  PE X (.Call (.Name x p) (e :: es) [] pos) (vM sp dvs E t):=by
 unfold PE at *; unfold PA at *
 exact by
  intro pins s σ H Q I h
  refine wpAny_Call_Name_kw (dS I hg hm ?_ hdb)
  refine PySem.W.callWith_K (h₀:=X.base) I.ok.mod.kin hk (bQ (ha pos pins s σ H _ I h) fun us s1 ⟨vs,H1,I1,r,q⟩=>⟨I1.dk,?_⟩) he hpl
  exact uY F hr hb hd hx I1 r q
end
theorem wQ {CX:ja} {P:Program} {w:World} {K:PySem.W.Frag} {mg:Str → Option Value} {base:Heap} {k:Nat} {f:Addr} {name qual:Str} {params:Arguments} {body:List Stmt} {scope:Scope} {dV kV doc pm cdv ct oc:Value} {an od:Option Addr}
  {osl:Array (Option Value)} {N ps:List Str} {sp:Sp} (lk:K.lookup f = some ⟨oc,od,.func (PySem.W.fnOf name qual params body scope dV kV doc pm an cdv ct),osl⟩) (hcd:PySem.W.codeIn K cdv qual = true) (S:aU N ps scope)
  (len:∀ vs H Q E,sp vs H Q E → vs.length = ps.length)
  (hbody:∀ (A:Around) (outer:List Env) (s:Shared) (H:Hp) (vs:List V) (Q:VK) (E:XK),fK k (A.deeper (envOfC qual scope s.heap.objs.size f cdv)) → sp vs H Q E →
   ∃ t,iD (lM CX P w K mg base N qual scope f cdv A outer s H E) body t ∧ t { nx:=fun _ H'=>Q .ax H',rt:=Q } (start N vs) H) :
  mm P w K mg base CX (k + 1) f (PySem.W.fnOf name qual params body scope dV kV doc pm an cdv ct) ps sp:=by
 unfold iD at *
 exact by
  refine ⟨len,fun A outer s H args us vs Q E hr e0 hb r hsp=>?_⟩
  have hl:=len _ _ _ _ hsp
  have KX:K.In s.heap:=e0.mod.kin.keeps fun b o e=>(e0.bs b o e).1
  have lim:s.heap.NoLimit:=e0.mod.nolimit.keeps fun b o e=>(e0.bs b o e).1
  have hkind:∀ y ∈ ps.zip us,scope.names.lookup y.1 = some .local ∨ (scope.names.lookup y.1 = some .cell ∧ ((cellsFrom (s.heap.objs.size + 1) scope.names []).lookup y.1).isSome = true):=fun ⟨n,v⟩ hy=>by
   rcases S.par n (List.of_mem_zip hy).1 with q | q
   ·exact .inl q
   ·exact .inr ⟨q,PySem.W.cellsFrom_some _ _ _ (.inl q)⟩
  refine codeAny_call_function hr.depth (KX _ _ lk) rfl S.co S.gen rfl (PySem.W.codeRec_of KX hcd) (hb _ _ _ _ ?_)
  refine wpAny_newFunctionEnv_cells S.kind hkind fun env he s1 x=>?_
  subst he
  refine ⟨lim.keeps x.toInCall.keep,codeAny_func ?_⟩
  obtain ⟨t,ht,hq⟩:=hbody A outer s H vs Q E (hr.deeper _) hsp
  have I:Inv (lM CX P w K mg base N qual scope f cdv A outer s H E) [] (start N vs) H s1:=oZ S e0 hl r x
  refine wpAny_mono (ht [] s1 (start N vs) H _ I hq) (fun fl s' hs=>?_) fun e s' hs=>hs
  have fin:∀ {σ':St} {H':Hp} {v:V} {u:Value},Inv (lM CX P w K mg base N qual scope f cdv A outer s H E) [] σ' H' s' → RelV v u → Q v H' → CE outer P w H s Q u s' :=
   fun {σ' H' v u} J rv q=>⟨v,H',J.os,J.bare,J.base,J.hok,rv,q⟩
  cases fl with
  | ret u =>
   obtain ⟨v,σ',H',J,rv,q⟩:=hs
   exact fin J rv q
  | next =>
   obtain ⟨σ',H',J,q⟩:=hs
   exact fin (v:=V.ax) (u:=Value.none) J rfl q
  | brk =>
   obtain ⟨_,_,_,q⟩:=hs
   exact False.elim q
  | cont =>
   obtain ⟨_,_,_,q⟩:=hs
   exact False.elim q
section
variable {P:Program} {w:World} {K:PySem.W.Frag} {mg:Str → Option Value} {base:Heap}
theorem lq.zp {x qual:Str} {st:Stmt} {f:Addr} {fd:FuncData} {N ps:List Str} {k:Nat} {sp:Sp} (F:lq K x qual st f fd) (S:aU N ps (aF st)) (len:∀ vs H Q E,sp vs H Q E → vs.length = ps.length)
  (hbody:∀ (cdv:Value) (A:Around) (outer:List Env) (s:Shared) (H:Hp) (vs:List V) (Q:VK) (E:XK),fK k (A.deeper (envOfC qual (aF st) s.heap.objs.size f cdv)) → sp vs H Q E →
   ∃ t,iD (lM fD P w K mg base N qual (aF st) f cdv A outer s H E).tf (aR st) t ∧ t { nx:=fun _ H'=>Q .ax H',rt:=Q } (start N vs) H):mm P w K mg base fD (k + 1) f fd ps sp:=by
 obtain ⟨oc,od,kV,doc,pm,an,cdv,ct,osl,rfl,lk,hcd⟩:=F.ex
 refine wQ lk hcd S len fun A outer s H vs Q E hr hsp=>?_
 obtain ⟨t,h,q⟩:=hbody cdv A outer s H vs Q E hr hsp
 exact ⟨t,h.tf,q⟩
end
end L2
namespace L2
open PySem PySem.Spec PyProof.Rows
section
variable {prog:Program} {w:World} {A:Around} {E:Value → Shared → Prop} {s:Shared}
end
section
variable {prog:Program} {w:World} {A:Around} {E:Value → Shared → Prop} {s:Shared}
end
section
variable {X:Cx}
def w5 (H:Hp) (v:V) (nm:Option (List Str)):Prop:=match nm with | none=>v = .ax | some z=>∃ t,v = .ref t ∧ H t = some (.tup (z.map V.str))
end
theorem pq:∀ (a b:List Str),rJ (a.map V.str) (b.map V.str) = decide (a = b)
 | [],[]=>rfl
 | [],_ :: _=>rfl
 | _ :: _,[]=>rfl
 | x :: a,y :: b=>by
  show (hX (.str x) (.str y) && rJ (a.map V.str) (b.map V.str)) = _
  rw [pq a b]
  by_cases h:x = y
  ·subst h
   rw [fh rfl,Bool.true_and]
   by_cases q:a = b
   ·rw [decide_eq_true q,decide_eq_true (by rw [q])]
   ·rw [decide_eq_false q,decide_eq_false (fun z=>q (List.cons.inj z).2)]
  ·have e:hX (.str x) (.str y) = false:=by
    simp [hX]
    exact h
   rw [e,decide_eq_false (fun z=>h (List.cons.inj z).1)]
   rfl
theorem i9 (zs:List Str):(zs.map V.str).all bf = true:=by
 rw [List.all_eq_true]
 intro x hx
 obtain ⟨z,_,rfl⟩:=List.mem_map.mp hx
 rfl
theorem uk {K:PySem.W.Frag} {H:Hp} {n:Nat} {t u:Addr} {a b:List Str} (h1:H t = some (.tup (a.map V.str))) (h2:H u = some (.tup (b.map V.str))):bz K H (jK K H n) (.ref t) (.ref u) (decide (a = b)):=by
 by_cases hl:a.length = b.length
 ·have h:=bz.vW (K:=K) (H:=H) (n:=n) (eX.of h1) (eX.of h2) (by rw [List.length_map,List.length_map,hl]) (i9 a) (i9 b)
  rw [pq] at h
  exact h
 ·have h:=bz.tup (K:=K) (H:=H) (R:=jK K H n) (e:=fun i=>hX ((a.map V.str).getD i .ax) ((b.map V.str).getD i .ax)) (eX.of h1) (eX.of h2) fun i x y hx hy=>?_
  ·have e1:((a.map V.str).length == (b.map V.str).length) = false:=by
    rw [List.length_map,List.length_map]
    exact beq_eq_false_iff_ne.mpr hl
   rw [e1,Bool.and_false] at h
   rw [decide_eq_false (fun z=>hl (by rw [z]))]
   exact h
  ·have q:bf x = true ∧ bf y = true ∧ hX ((a.map V.str).getD i .ax) ((b.map V.str).getD i .ax) = hX x y:=by
    refine ⟨List.all_eq_true.mp (i9 a) x (List.mem_of_getElem? hx),List.all_eq_true.mp (i9 b) y (List.mem_of_getElem? hy),?_⟩
    rw [List.getD_eq_getElem?_getD,List.getD_eq_getElem?_getD,hx,hy]
    rfl
   cases n with
   | zero=>exact .inl q
   | succ n=>exact .inl (.inl q)
theorem w5.yZ {K:PySem.W.Frag} {H:Hp} {x y:V} {a:Option (List Str)} (h1:w5 H x a) (h2:w5 H y a) (n:Nat):jK K H (n + 1) x y true:=by
 cases a with
 | none =>
  obtain rfl:x = .ax:=h1
  obtain rfl:y = .ax:=h2
  exact .inl (.inl ⟨rfl,rfl,rfl⟩)
 | some z =>
  obtain ⟨t,rfl,ht⟩:=h1
  obtain ⟨u,rfl,hu⟩:=h2
  have h:=uk (K:=K) (n:=n) ht hu
  rw [decide_eq_true rfl] at h
  exact .inr h
end L2
namespace L2
open PySem PySem.Spec PyProof.Rows
theorem jz.yZ {K:PySem.W.Frag} {H:Hp}:∀ {n:Nat} {v w:V} {t:Tr n},jz H n v t → jz H n w t → jK K H n v w true
 | 0,v,w,t,h1,h2=>by
  have e1:v = .int t:=h1
  have e2:w = .int t:=h2
  subst e1 e2
  exact .inl ⟨rfl,rfl,(fh (x:=V.int t) rfl).symm⟩
 | n + 1,v,w,t,h1,h2=>by
  obtain ⟨a,vs,rfl,hA,la⟩:=h1.lst
  obtain ⟨b,ws,rfl,hB,lb⟩:=h2.lst
  have h:=bz.list (K:=K) (R:=jK K H n) (e:=fun _=>true) (aj.of hA) (aj.of hB) (by omega) fun i x y hx hy=>by
   obtain ⟨x',t1,e1,e2,k1⟩:=h1.yX hA (List.getElem?_eq_some_iff.mp hx).1
   obtain ⟨y',t2,e3,e4,k2⟩:=h2.yX hB (List.getElem?_eq_some_iff.mp hy).1
   rw [hx] at e1; cases e1
   rw [hy] at e3; cases e3
   rw [e2] at e4; cases e4
   exact jz.yZ k1 k2
  rw [all_range fun i _=>rfl] at h
  exact .inr h
theorem jz.seq {K:PySem.W.Frag} {H:Hp} {n:Nat} {v w:V} {t:Tr (n + 1)} (h1:jz H (n + 1) v t) (h2:jz H (n + 1) w t):bz K H (jK K H n) v w true:=by
 rcases jz.yZ (K:=K) h1 h2 with (⟨e,_,_⟩ | ⟨a,e1,e2,_⟩) | h
 ·obtain ⟨a,vs,rfl,_⟩:=h1.lst
  exact absurd e (by intro z; cases z)
 ·subst e1 e2
  obtain ⟨_,vs,e,hA,la⟩:=h1.lst
  cases e
  have h:=bz.list (K:=K) (R:=jK K H n) (e:=fun _=>true) (aj.of hA) (aj.of hA) rfl fun i x y hx hy=>by
   obtain ⟨x',t1,e1,e2,k1⟩:=h1.yX hA (List.getElem?_eq_some_iff.mp hx).1
   rw [hx] at hy; cases hy
   rw [hx] at e1; cases e1
   exact jz.yZ k1 k1
  rw [all_range fun i _=>rfl] at h
  exact h
 ·exact h
end L2
namespace L2
open PySem PySem.Spec PyProof.Rows PySem.W
section
variable {prog:Program} {w:World} {A:Around} {E:Value → Shared → Prop} {h:Heap} {g:Array GenState} {d:Drawn} {t:Nat} {os:OsState}
variable {nm q:Str} {C N:Addr} {bs bm:List Value} {hdct:Bool} {sn:List Str} {sub:List Value} {ab:Bool} {col:Option Bool} {dd:Option Addr} {k0 k1 k2 k3 k5:Option Value} {K:Frag}
theorem rZ:ig.contains (.type "ValueError") = true:=F.excBase_ValueError.hasB
theorem kJ (X:K.In h) (T:OwnTail h ig bm) {mN:Str → Option Value} {rest:List Value} {fI:Addr} {Q:Fin → Shared → Prop}
  (hC:h.get? C = some (excClassObj nm q C N bs bm hdct sn sub ab col dd k0 k1 k2 k3 k5 "ValueError.__new__")) (hn:h.Ns N mN) (hi:mN "__init__" = some (.ref fI)) (hf:typeIn K (.ref fI) = some (.type "function"))
  (hq:∀ h' e,Heap.MadeExcOf h h' e (.ref C) rest → h.objs.size ≤ e →
   wpAny (model prog w) A (call (.ref fI) (.ref e :: rest)) (fun r s'=>r = .none ∧ Q (.done (.ret (.ref e))) s') E ⟨h',g,d,t,os⟩) (hrest:rest.length ≤ sizeLine) :
  wpAny (model prog w) A (Builtin.«type.__call__» ⟨.ref C :: rest,[]⟩) Q E ⟨h,g,d,t,os⟩:=by
 have Fn:=F.excBase_ValueError
 repeat (first | with_reducible refine wpAny_loadPart_at hC ?_ | with_reducible refine wpAny_madeBy_exc hC ?_ | wp_step)
 refine codeAny_call_builtin_code (Code.quiet_builtin _ Fn.quiet) (wpAny_check_new_subU Fn rZ T hC ?_)
 refine codeAny_exc_new_subU Fn rZ Fn T hC ?_ hrest
 show wpAny _ _ _ _ _ _
 have kp:∀ b o,h.get? b = some o → ((h.push { cls:=.type "tuple",data:=.seq rest.toArray }).push { cls:=.ref C,data:=.fields #[.ref h.objs.size,.none,.none,.none,.bool false,.none] }).get? b = some o:=fun b o e=>Heap.get?_push_of_some _ (Heap.get?_push_of_some _ e)
 have hC₁:=kp _ _ hC
 have X₁:K.In ((h.push { cls:=.type "tuple",data:=.seq rest.toArray }).push { cls:=.ref C,data:=.fields #[.ref h.objs.size,.none,.none,.none,.bool false,.none] }):=fun a o e=>kp _ _ (X a o e)
 have hn₁:((h.push { cls:=.type "tuple",data:=.seq rest.toArray }).push { cls:=.ref C,data:=.fields #[.ref h.objs.size,.none,.none,.none,.bool false,.none] }).Ns N mN :=
  let ⟨o,es,ep,e,r⟩:=hn; ⟨o,es,ep,kp _ _ e,r⟩
 have hget:((h.push { cls:=.type "tuple",data:=.seq rest.toArray }).push
   { cls:=.ref C,data:=.fields #[.ref h.objs.size,.none,.none,.none,.bool false,.none] }).get? (h.objs.size + 1) = some
   { cls:=.ref C,data:=.fields #[.ref h.objs.size,.none,.none,.none,.bool false,.none] }:=by heap_get
 have hcC:(Value.ref C :: bm).contains (.ref C) = true:=by simp
 have T₁:=T.keeps (h':=(h.push { cls:=.type "tuple",data:=.seq rest.toArray }).push { cls:=.ref C,data:=.fields #[.ref h.objs.size,.none,.none,.none,.bool false,.none] }) kp
 unfold isInstance
 repeat (first | with_reducible refine wpAny_loadPart_at hget ?_ | (with_reducible refine wpAny_isSubtype_exc hC₁ ?_; rw [hcC]) | wp_step)
 show wpAny _ _ (typeLookup (.ref C) _) _ _ _
 refine wpAny_typeLookup_tail hC₁ hn₁ T₁ Fn.mroIs Fn.init.lookup ?_
 rw [hi]
 refine wpAny_holding (wpAny_bind ?_)
 refine (bind_fn X₁ (.ref (h.objs.size + 1)) hf).at ?_
 refine wpAny_bind (wpAny_mono (hq _ (h.objs.size + 1) ⟨kp,Heap.get?_none_of_le (Nat.le_succ _),h.objs.size,hget,Heap.get?_none_of_le (Nat.le_refl _),?_⟩ (Nat.le_succ _)) (fun r s' hr=>?_) fun _ _ x=>x)
 ·exact Heap.get?_push_of_some _ (Heap.get?_push_at rfl rfl)
 ·obtain ⟨rfl,hQ⟩:=hr
  wp_walk
  exact hQ
theorem qU (X:K.In h) (T:OwnTail h ig bm) {mN:Str → Option Value} {rest:List Value} {fI:Addr} {Q:Value → Shared → Prop}
  (hC:h.get? C = some (excClassObj nm q C N bs bm hdct sn sub ab col dd k0 k1 k2 k3 k5 "ValueError.__new__")) (hn:h.Ns N mN) (hi:mN "__init__" = some (.ref fI)) (hf:typeIn K (.ref fI) = some (.type "function"))
  (hq:∀ h' e,Heap.MadeExcOf h h' e (.ref C) rest → h.objs.size ≤ e →
   wpAny (model prog w) (A.under (.builtin "type.__call__" ⟨.ref C :: rest,[]⟩)) (call (.ref fI) (.ref e :: rest)) (fun r s'=>r = .none ∧ Q (.ref e) s') E ⟨h',g,d,t,os⟩) (hrest:rest.length ≤ sizeLine) :
  wpAny (model prog w) A (call (.ref C) rest) Q E ⟨h,g,d,t,os⟩:=by
 have f1:=tc_lookup
 have f2:=tc_bind (.ref C)
 have hT:(⟨h,g,d,t,os⟩:Shared).TypeIs (.ref C) "type" := ⟨_,hC,rfl⟩
 refine wpAny_call (codeAny_of_tree ?_)
 show wpAny _ _ (callAny (.ref C) _) _ _ _
 repeat (any_goals (first | assumption | with_reducible refine wpAny_loadPart_at hC ?_ | wp_step))
 refine ⟨rfl,?_⟩
 refine codeAny_call_builtin_at (Code.quiet_builtin _ (by decide +kernel)) entry_typeCall (wpAny_check_type_call_sub hC (kJ (hrest:=hrest) X T hC hn hi hf fun h' e hm hz=>?_))
 exact hq h' e hm hz
end
structure kL (K:Frag) (C f:Addr):Prop where
 ex:∃ nm q N bs bm hdct sn sub ab col dd k0 k1 k2 k3 k5 es,K.lookup C = some (excClassObj nm q C N bs bm hdct sn sub ab col dd k0 k1 k2 k3 k5 "ValueError.__new__") ∧ xV K N es ∧ nsFind es "__init__" = some (.ref f) ∧ jS K bm
 fn:typeIn K (.ref f) = some (.type "function")
 kp:keepIn K (.ref C) = true
def ik (C:Value) (dd:Option Addr) (e:Addr):HO:=.ext fun h=>∃ oe vs,h.get? e = some oe ∧ oe.cls = C ∧ oe.dict = dd ∧ oe.data = .fields vs ∧ vs[1]? = some .none ∧ 0 < vs.size
theorem pP {P:Program} {w:World} {H:Hp} {h:Heap} {e:Addr} {C:Value} {dd:Option Addr} {oe:Obj} {vs:Array Value} (he:h.get? e = some oe) (hc:oe.cls = C) (hd:oe.dict = dd) (hv:oe.data = .fields vs) (h1:vs[1]? = some .none) (h0:0 < vs.size):bX P w H h e (ik C dd e) :=
 ⟨⟨oe,vs,he,hc,hd,hv,h1,h0⟩,⟨oe,he⟩,fun g1 g2 ⟨o,v,q,r⟩ k=>⟨o,v,k o q,r⟩⟩
theorem mB {P:Program} {w:World} {H:Hp} {h:Heap} {e:Addr} {C:Value} {dd:Option Addr} (ok:fF P w H h) (q:H e = some (ik C dd e)):∃ oe vs,h.get? e = some oe ∧ oe.cls = C ∧ oe.dict = dd ∧ oe.data = .fields vs ∧ vs[1]? = some .none ∧ 0 < vs.size:=(ok e _ q).1
def rem (H:Hp) (e:Addr):Hp:=fun b=>if b = e then none else H b
theorem gO {H:Hp} {e:Addr}:rem H e e = none:=if_pos rfl
theorem fQ {H:Hp} {e b:Addr} (h:b ≠ e):rem H e b = H b:=if_neg h
def u4 (C:Addr) (sp:Sp) (na:Nat) (gV:List V → List V → List V) (t:TA) (E:XK):TS:=fun _ σ H=>t σ H fun vs H1=>vs.length = na ∧ vs.length ≤ sizeLine ∧
 ∀ e,H1 e = none → sp (.ref e :: gV vs []) (upd H1 e (ik (.ref C) none e)) (fun v H2=>v = .ax ∧ ∃ dd,H2 e = some (ik (.ref C) dd e) ∧ E (.ref C) dd (rem H2 e)) E0
section
variable {X:Cx} {k:Nat} {f C:Addr} {fd:FuncData} {ps:List Str} {sp:Sp} {x:Str} {p pos:Pos} {e:Expr} {es:List Expr} {t:TA} {na:Nat} {g:List Value → List Value → List Value} {gV:List V → List V → List V}
theorem qz {pins:List (Addr × Obj)} {σ:St} {H:Hp} {s:Shared} {us:List Value} {vs:List V} {R:Addr → Hp → Prop} {QQ:Value → Shared → Prop} (xc:kL X.K C f) (F:aw X.prog X.w X.K X.mg X.base (kO X.prog X.w) k f fd ps sp) (hr:bx (k + 1) X.A) (hb:cA X.K fd ps [] na g gV)
  (I:Inv X pins σ H s) (r:Vals vs us) (hna:vs.length = na) (hz:vs.length ≤ sizeLine)
  (h:∀ e,H e = none → sp (.ref e :: gV vs []) (upd H e (ik (.ref C) none e)) (fun v H2=>v = .ax ∧ R e H2) E0)
  (fin:∀ e H2 s2,s.heap.get? e = none → Inv X pins σ H2 s2 → R e H2 → QQ (.ref e) s2):wpAny (model X.prog X.w) X.A (call (.ref C) us) QQ X.xe s:=by
 obtain ⟨nm,q,N,bs,bm,hdct,sn,sub,ab,col,dd,k0,k1,k2,k3,k5,es,lk,nk,ni,tl⟩:=xc.ex
 obtain ⟨hh,gg,d0,tt,oo⟩:=s
 refine qU I.dk (tl.rS I.dk) (I.dk _ _ lk) (nk.ns I.dk) ni xc.fn (fun h' e mx he=>?_) (by rw [← r.length]; exact hz)
 obtain ⟨tu,he1,_,_⟩:=mx.there
 have I2:Inv X pins σ (upd H e (ik (.ref C) none e)) ⟨h',gg,d0,tt,oo⟩:=I.laid (a:=e) (o:=ik (.ref C) none e) (h':=h') (t':=tt) mx.keeps he (pP he1 rfl rfl rfl rfl (by simp))
 have hq:=h e (I.hok.fresh he)
 have r2:Vals (V.ref e :: gV vs []) (Value.ref e :: g us []):=.cons rfl (hb.rel r .nil)
 obtain ⟨hto,hl⟩:=hb.to ⟨h',gg,d0,tt,oo⟩ (Value.ref e) us [] I2.dk (by rw [← r.length]; exact hna) rfl
 refine wpAny_call (codeAny_mono (F.run _ X.stack _ _ ⟨Value.ref e :: us,[]⟩ (Value.ref e :: g us []) _ _ E0 (hr.make C us []) (I2.qQ.make C us []) hto r2 hq) fun r s' hq'=>?_)
 cases r with
 | error u=>exact (gD pins σ _ _ u s' I2 hq')
 | ok fl =>
  cases fl with
  | ret u =>
   obtain ⟨v,H',I3,rv,ev,q3⟩:=I2.after hq'
   subst ev
   exact ⟨rv,fin e H' s' mx.new I3 q3⟩
  | next=>exact False.elim hq'
  | brk=>exact False.elim hq'
  | cont=>exact False.elim hq'
theorem pC {pins:List (Addr × Obj)} {σ:St} {H:Hp} {s:Shared} {R:Addr → Hp → Prop} {QQ:Value → Shared → Prop} (xc:kL X.K C f) (F:aw X.prog X.w X.K X.mg X.base (kO X.prog X.w) k f fd ps sp) (hr:bx (k + 1) X.A) (hg:Gl X x) (hm:X.mg x = some (.ref C)) (hb:cA X.K fd ps [] na g gV)
  (ha:∀ (pos:Pos) (pins:List (Addr × Obj)) (s:Shared) (σ:St) (H:Hp) (Q:List V → Hp → Prop),Inv X pins σ H s → t σ H Q → wpAny (model X.prog X.w) X.A (spliced (backTo pos (starEach (e :: es) X.env))) (AP X pins σ Q) X.xe s) (hdb:(x == ("__debug__" : Str)) = false) (he:starEach (e :: es) X.env = (false,eval e X.env) :: starEach es X.env) (hpl:(backTo pos (starEach es X.env)).any (·.1) = false)
  (I:Inv X pins σ H s) (h:t σ H fun vs H1=>vs.length = na ∧ vs.length ≤ sizeLine ∧ ∀ e,H1 e = none → sp (.ref e :: gV vs []) (upd H1 e (ik (.ref C) none e)) (fun v H2=>v = .ax ∧ R e H2) E0)
  (fin:∀ e H2 s2,X.s₀.heap.get? e = none ∨ X.ex ≠ [] → Inv X pins σ H2 s2 → R e H2 → QQ (.ref e) s2):wpAny (model X.prog X.w) X.A (eval (.Call (.Name x p) (e :: es) [] pos) X.env) QQ X.xe s:=by
 refine wpAny_Call_Name_kw (dS I hg hm ?_ hdb)
 refine callWith_K (h₀:=X.base) I.ok.mod.kin xc.kp (bQ (ha pos pins s σ H _ I h) fun us s1 ⟨vs,H1,I1,r,hna,hz,q⟩=>⟨I1.dk,?_⟩) he hpl
 refine qz xc F hr hb I1 r hna hz q fun e H2 s2 hn I2 q2=>fin e H2 s2 ?_ I2 q2
 by_cases hx:X.ex = []
 ·left
  cases q:X.s₀.heap.get? e with
  | none=>rfl
  | some o =>
   obtain ⟨o1,q1⟩:=I1.base.there e o q (by rw [hx]; simp)
   rw [hn] at q1; cases q1
 ·exact .inr hx
end
section
variable {M:Model} {A:Around} {E:Value → Shared → Prop} {s:Shared} {env:Env}
variable {nm q:Str} {C N:Addr} {bs bm:List Value} {hdct:Bool} {sn:List Str} {sub:List Value} {ab:Bool} {col:Option Bool} {dd:Option Addr} {k0 k1 k2 k3 k5:Option Value} {newId:String}
theorem qR {x:Sem Value} {Q:Flow → Shared → Prop} (hbase:bm.contains (.type "BaseException") = true) (hh:A.handled = none)
  (h:wpAny M A x (fun v s₁=>∃ e dd' vs sl,v = .ref e ∧ s₁.heap.get? C = some (excClassObj nm q C N bs bm hdct sn sub ab col dd k0 k1 k2 k3 k5 newId) ∧
   s₁.heap.get? e = some ⟨.ref C,dd',.fields vs,sl⟩ ∧ vs[1]? = some .none ∧ E (.ref e) s₁) E s) :
  wpAny M A (raiseStmt env (some x) none) Q E s:=by
 have hcB:(Value.ref C :: bm).contains (.type "BaseException") = true:=by rw [List.contains_cons,hbase,Bool.or_true]
 unfold raiseStmt
 refine wpAny_bind (wpAny_mono h (fun v s₁ h₁=>?_) fun _ _ x=>x)
 obtain ⟨e,dd',vs,sl,rfl,hC,he,h1,hE⟩:=h₁
 obtain ⟨hp,g,d,tk,os⟩:=s₁
 repeat (first | with_reducible refine wpAny_loadPart_at he ?_ | with_reducible refine wpAny_loadPart_at hC ?_ | (with_reducible refine wpAny_isSubtype_exc hC ?_; rw [hcB]) | wp_step)
 rw [h1]
 refine wpAny_pure ?_
 rw [if_neg (by decide)]
 exact wpAny_pure (wpAny_raiseNew_none hh hE)
end
def zX (X:Cx) (E:XK):Prop:=X.ex = [] ∧ ∀ (pins:List (Addr × Obj)) (σ:St) (H:Hp) (s:Shared) (e:Addr) (C:Value) (dd:Option Addr),Inv X pins σ H s → H e = some (ik C dd e) → X.s₀.heap.get? e = none → E C dd (rem H e) → X.xe (.ref e) s
theorem jy {C:Value} {dd:Option Addr} {e:Addr}:(∀ y,ik C dd e ≠ .own y) ∧ (∀ xs,ik C dd e ≠ .tup xs) ∧ (∀ ps,ik C dd e ≠ .tbl ps) ∧ ∀ o u,ik C dd e ≠ .frz o u:=⟨fun _ z=>(by cases z),fun _ z=>(by cases z),fun _ z=>(by cases z),fun _ _ z=>(by cases z)⟩
theorem fF.rem {P:Program} {w:World} {H:Hp} {h:Heap} {e:Addr} {C:Value} {dd:Option Addr} (ok:fF P w H h) (he:H e = some (ik C dd e)):fF P w (L2.rem H e) h:=fun b u q=>by
 have hb:b ≠ e:=fun z=>by rw [z,gO] at q; cases q
 rw [fQ hb] at q
 refine (ok b u q).mG (fun c v _ r=>r) (fun c r=>?_) fun c xs r=>?_
 ·rw [fQ (fun z=>by rw [z,he] at r; exact jy.1 _ (Option.some.inj r))]; exact r
 ·rw [fQ (fun z=>by rw [z,he] at r; exact jy.2.1 _ (Option.some.inj r))]; exact r
theorem Un.rem {fs ex:List Addr} {H0 H:Hp} {h0 h:Heap} {e:Addr} {C:Value} {dd:Option Addr} (u:Un fs ex H0 H h0 h) (he:H e = some (ik C dd e)):Un fs ex H0 (L2.rem H e) h0 h where
 keep:=u.keep
 slot:=u.slot
 free:=fun b o q n hx=>by
  by_cases z:b = e
  ·rw [z]; exact gO
  ·rw [fQ z]; exact u.free b o q n hx
 there:=u.there
 tups:=fun b xs q=>by
  have r:=u.tups b xs q
  rw [fQ (fun z=>by rw [z,he] at r; exact jy.2.1 _ (Option.some.inj r))]; exact r
 frzs:=fun b o xs q=>by
  have r:=u.frzs b o xs q
  rw [fQ (fun z=>by rw [z,he] at r; exact jy.2.2.2 _ _ (Option.some.inj r))]; exact r
 tbls:=fun b ps q=>by
  obtain ⟨m,r⟩:=u.tbls b ps q
  refine ⟨m,?_⟩
  rw [fQ (fun z=>by rw [z,he] at r; exact jy.2.2.1 _ (Option.some.inj r))]; exact r
section
variable {P:Program} {w:World} {K:PySem.W.Frag} {mg:Str → Option Value} {base:Heap} {N:List Str} {qual:Str} {scope:Scope} {f:Addr} {cd:Value} {A:Around} {outer:List Env} {s₀:Shared} {H₀:Hp} {E:XK}
theorem qC:zX (kI (kO P w) P w K mg base N qual scope f cd A outer s₀ H₀ E) E:=by
 refine ⟨rfl,?_⟩
 intro pins σ H s e C dd I he n0 hE
 obtain ⟨oe,vs,ge,gc,gd,gv,g1,_⟩:=mB I.hok he
 have fe:fM (envOfC qual scope s₀.heap.objs.size f cd :: outer) = s₀.heap.objs.size :: fM outer:=iX rfl
 have ib:Un (fM outer) [] H₀ H s₀.heap s.heap:=I.base
 have um:=ib.rem he
 have nL:s₀.heap.get? s₀.heap.objs.size = none:=Heap.get?_none_of_le (Nat.le_refl _)
 have ntr:∀ b u,L2.rem H e b = some u → b ∉ fM (envOfC qual scope s₀.heap.objs.size f cd :: outer):=fun b u q hb=>by
  have z:b ≠ e:=fun z=>by rw [z,gO] at q; cases q
  rw [fQ z] at q
  have:=I.fH b hb
  rw [q] at this; cases this
 have hok1:fF P w (L2.rem H e) s.heap:=I.hok.rem he
 show wpAny _ _ (leaving _ (.ref e)) _ _ s
 unfold leaving
 refine wpAny_bind (gh (T0:=none) (L:=s₀.heap.objs.size) (C:=C) (dd:=dd) I.ok.frames I.stack rfl ⟨oe,vs,ge,gc,gd,gv,g1⟩ (fun T' z=>by cases z) fun h' T2 y1 y2 y3 y4 mv=>?_)
 refine ⟨e,C,dd,T2,L2.rem H e,rfl,I.os,I.bare,ic (l:=envOfC qual scope s₀.heap.objs.size f cd :: outer) um mv (fun b hb=>by rw [fe]; exact List.mem_cons_of_mem _ hb) (fun b o q hb=>?_) n0 (fun T' z=>by cases z),
  hok1.nE fun b u o q1 q2=>mv.keep b o (fun z=>by rw [z,gO] at q1; cases q1) (by simp) (ntr b u q1) q2,y1,y2,y4,gO,?_,n0,?_,hE⟩
 ·rw [fe] at hb
  rcases List.mem_cons.mp hb with z | z
  ·rw [z,nL] at q; cases q
  ·exact z
 ·cases q:L2.rem H e T2 with
  | none=>rfl
  | some u=>obtain ⟨ob,hob⟩:=(hok1 T2 u q).there; exact absurd (Heap.lt_size hob) (Nat.not_lt.mpr y3)
 ·cases q:s₀.heap.get? T2 with
  | none=>rfl
  | some o=>obtain ⟨o1,q1⟩:=um.there T2 o q (by simp); exact absurd (Heap.lt_size q1) (Nat.not_lt.mpr y3)
end
section
variable {X:Cx} {k:Nat} {f C:Addr} {fd:FuncData} {ps:List Str} {sp:Sp} {x:Str} {np cpos pos:Pos} {e₀:Expr} {rest:List Expr} {t:TA} {na:Nat} {g:List Value → List Value → List Value} {gV:List V → List V → List V} {E:XK}
theorem lO (xc:kL X.K C f) (F:aw X.prog X.w X.K X.mg X.base (kO X.prog X.w) k f fd ps sp) (hr:bx (k + 1) X.A) (hc:X.calm = true) (hg:Gl X x) (hm:X.mg x = some (.ref C)) (hb:cA X.K fd ps [] na g gV) (hz:zX X E)
  (ha:PA X (e₀ :: rest) t) (hdb:(x == ("__debug__" : Str)) = false:=by decide) (he:starEach (e₀ :: rest) X.env = (false,eval e₀ X.env) :: starEach rest X.env:=by rfl) (hpl:(backTo cpos (starEach rest X.env)).any (·.1) = false:=by rfl) :
  PS X (.Raise (some (.Call (.Name x np) (e₀ :: rest) [] cpos)) none pos) (u4 C sp na gV t E):=by
 unfold PA at *; unfold PS at *
 exact by
  intro pins s σ H D I h
  obtain ⟨nm,q,N,bs,bm,hdct,sn,sub,ab,col,dd,k0,k1,k2,k3,k5,es,lk,nk,ni,tl⟩:=xc.ex
  rw [arm_exec_Raise]
  refine wpAny_bind (wpAny_standAt (qR (C:=C) (nm:=nm) (q:=q) (N:=N) (bs:=bs) (bm:=bm) (hdct:=hdct) (sn:=sn) (sub:=sub) (ab:=ab) (col:=col) (dd:=dd) (k0:=k0) (k1:=k1) (k2:=k2) (k3:=k3) (k5:=k5) (newId := "ValueError.__new__") ((tl.rS I.dk).hasType PySem.F.excBase_ValueError.hasBase) (I.ok.hd hc) ?_))
  refine wpAny_bind (pC (R:=fun e H2=>∃ dd,H2 e = some (ik (.ref C) dd e) ∧ E (.ref C) dd (rem H2 e)) xc F hr hg hm hb ha hdb he hpl I h fun e H2 s2 n0 I2 ⟨dd',q1,q2⟩=>?_)
  refine wpAny_bind (wpAny_standAt (wpAny_pure ?_))
  obtain ⟨oe,vs,ge,gc,gd,gv,g1,_⟩:=mB I2.hok q1
  obtain ⟨oc,od,oda,osl⟩:=oe
  simp only at gc gd gv
  subst gc gd gv
  refine ⟨e,_,_,_,rfl,I2.dk _ _ lk,ge,g1,hz.2 pins σ H2 s2 e (.ref C) _ I2 q1 ?_ q2⟩
  rcases n0 with z | z
  ·exact z
  ·exact absurd hz.1 z
end
structure vO (K:Frag) (B:Addr):Prop where
 gg:specialIn K (.ref B) "__getattribute__" = some (some (.builtin "type.__getattribute__"))
 rd:readsIn K B (.type "type") = true
 fc:findCls K (.ref B) (.type "type") "__init__" = some (.val (.builtin "ValueError.__init__"))
def uX (K:Frag) (t:TA):TE:=fun σ H Q=>t σ H fun vs H1=>∃ e C dd f y,vs = [.ref e,y] ∧ H1 e = some (ik (.ref C) dd e) ∧ kL K C f ∧ Q .ax H1
theorem sP {x y:V} {us:List Value} (r:Vals [x,y] us):∃ u v,us = [u,v] ∧ RelV x u ∧ RelV y v:=by
 cases r with
 | cons a r=>cases r with
  | cons b r=>cases r; exact ⟨_,_,rfl,a,b⟩
section
variable {X:Cx} {B:Addr} {x:Str} {p apos pos:Pos} {a b:Expr} {t:TA}
theorem pM {pins:List (Addr × Obj)} {σ:St} {H:Hp} {s:Shared} {e C f:Addr} {dd:Option Addr} {y:V} {v:Value} {Q:VK} (I:Inv X pins σ H s) (he:H e = some (ik (.ref C) dd e)) (xc:kL X.K C f) (ry:RelV y v) (q:Q .ax H) :
  wpAny (model X.prog X.w) X.A (call (.builtin "ValueError.__init__") [.ref e,v]) (EP X pins σ Q) X.xe s:=by
 obtain ⟨nm,qn,N,bs,bm,hdct,sn,sub,ab,col,dd0,k0,k1,k2,k3,k5,es,lk,nk,ni,tl⟩:=xc.ex
 obtain ⟨oe,vs,ge,gc,gd,gv,g1,g0⟩:=mB I.hok he
 have Fn:=PySem.F.excBase_ValueError
 obtain ⟨hh,gg,d0,tt,oo⟩:=s
 refine wpAny_call (codeAny_call_builtin Fn.init.plain Fn.initEntry (wpAny_check_init_subU Fn (tl.rS I.dk) (I.dk _ _ lk) ge gc ?_))
 have h0:vs[0]? = some vs[0]:=Array.getElem?_eq_getElem g0
 have ge1:(hh.push { cls:=.type "tuple",data:=.seq [v].toArray }).get? e = some oe:=Heap.get?_push_of_some _ ge
 unfold Builtin.«BaseException.__init__»
 refine wpAny_bind (wpAny_newTuple ?_)
 unfold Builtin.BaseException.bexcPut
 refine wpAny_bind (wpAny_bind (wpAny_field ge1 gv h0 ?_))
 refine wpAny_bind (wpAny_setField ge1 gv g0 ?_)
 have I2:Inv X pins σ (upd H e (ik (.ref C) dd e)) { heap:=(hh.push { cls:=.type "tuple",data:=.seq [v].toArray }).update e (Obj.mapFields (·.setIfInBounds 0 (.ref hh.objs.size))),gens:=gg,drawn:=d0,toks:=tt,os:=oo }:=by
  have oth:∀ b,b ≠ e → ((hh.push { cls:=.type "tuple",data:=.seq [v].toArray }).update e (Obj.mapFields (·.setIfInBounds 0 (.ref hh.objs.size)))).get? b = (hh.push { cls:=.type "tuple",data:=.seq [v].toArray }).get? b:=fun b hb=>Heap.get?_update_other _ _ (Ne.symm hb)
  have self:=gr (f:=(·.setIfInBounds 0 (.ref hh.objs.size))) ge1 gv
  refine I.write (s:=⟨hh,gg,d0,tt,oo⟩) (x:=e) (e:=e) (t':=tt) (by rw [he]; exact True.intro) (.inl rfl) (fun b u hb q=>(oth b hb).trans (Heap.get?_push_of_some _ q)) ⟨_,self⟩ ?_
  refine pP (vs:=vs.setIfInBounds 0 (.ref hh.objs.size)) self ((Obj.cls_mapFields _ _).trans gc) ((lN _ _).trans gd) (Obj.data_mapFields gv _) ?_ ?_
  ·rw [Array.getElem?_setIfInBounds_ne (by decide)]; exact g1
  ·rw [Array.size_setIfInBounds]; exact g0
 have eu:upd H e (ik (.ref C) dd e) = H:=by
  funext b
  by_cases z:b = e
  ·rw [z,aC,he]
  ·rw [aH z]
 rw [eu] at I2
 cases vs[0] <;> first | exact wpAny_letGo (wpAny_pure ⟨.ax,H,I2,rfl,q⟩) | exact wpAny_pure (wpAny_pure ⟨.ax,H,I2,rfl,q⟩)
theorem qf {pl:Sem Bool} (bi:vO X.K B) (hg:Gl X x) (hm:X.mg x = some (.ref B)) (ha:PA X [a,b] t) (hdb:(x == ("__debug__" : Str)) = false:=by decide)
  (hst:starEach [a,b] X.env = (false,eval a X.env) :: starEach [b] X.env:=by rfl) (hpl:(backTo pos (starEach [b] X.env)).any (·.1) = false:=by rfl)
  (ht:eval (.Call (.Attribute (.Name x p) "__init__" apos) [a,b] [] pos) X.env = (do
   let ov ← eval (.Name x p) X.env
   standAt apos.atName
   let (f,first) ← holding [ov] (getMethod ov "__init__" pl)
   callWith pos f first (backTo pos (starEach [a,b] X.env)) (backToKw pos (keywordEach [] X.env))):=by rfl) :
  PE X (.Call (.Attribute (.Name x p) "__init__" apos) [a,b] [] pos) (uX X.K t):=by
 unfold PE at *; unfold PA at *
 exact by
  intro pins s σ H Q I h
  refine methodCall_KW (pl:=pl) (dS I hg hm ?_ hdb) ht
  refine method_cls I.dk bi.gg (cls_value I.dk bi.rd bi.fc rfl ?_)
  have I1:Inv X pins σ H { s with toks:=s.toks + 1 }:=I.tok _
  have hA:=ha pos pins { s with toks:=s.toks + 1 } σ H _ I1 h
  show wpAny _ _ (callWith pos (.builtin "ValueError.__init__") [] (backTo pos (starEach [a,b] X.env)) []) _ _ _
  rw [hst] at hA ⊢
  refine Calls.callWith_builtin (by show (false || (backTo pos (starEach [b] X.env)).any (·.1)) = false; rw [hpl] <;> rfl) (Calls.evalArgs_plain ?_)
  refine bQ hA fun us s2 ⟨vs,H2,I2,r2,e,C,dd,f,y,e1,he,xc,q⟩=>?_
  subst e1
  obtain ⟨u1,u2,rfl,rx,ry⟩:=sP r2
  obtain rfl:u1 = Value.ref e:=rx
  exact pM I2 he xc ry q
end
end L2
namespace L2
open PySem PySem.Spec PyProof.Rows PySem.W
section
variable {prog:Program} {w:World} {A:Around} {E:Value → Shared → Prop} {s:Shared} {K:Frag} {e C:Addr} {oe:Obj} {od:Option Obj}
theorem xI {a g:Value} {name:Str} (hc:(clsIn K C).isSome = true) (ha:findIn K (.ref C) name = some (some a)) (hg:specialIn K a "__get__" = some (some g)) (ht:takesIn K a = some true):findObj K C od name = some (.bind g a):=by
 obtain ⟨cd,hc⟩:=Option.isSome_iff_exists.mp hc
 unfold findObj
 rw [hc,Option.bind_some,ha,Option.bind_some]
 simp [hg,ht]
theorem px {nameV:Value} {Q:Unit → Shared → Prop} (U:eK K C) (X:K.In s.heap) (I:InstAt s.heap e oe C od) (hq:Q () s) :
  wpAny (model prog w) A (checkBuiltinCall "BaseException.__getattribute__" ⟨[.ref e,nameV],[]⟩) Q E s:=by
 have hk:builtinKind "BaseException.__getattribute__" = some .slot:=by decide +kernel
 have hsplit:splitId "BaseException.__getattribute__" = some ("BaseException", "__getattribute__"):=by decide +kernel
 have L0:=I.type (M:=model prog w)
 have L1:=looks_subIn (M:=model prog w) X U.sb
 have LI:Looks (model prog w) s.heap (isInstance (.ref e) (.type "BaseException")) true:=L0.andThen L1
 have ha:=F.args_bexc_ga (.ref e) nameV
 simp only [checkBuiltinCall,hk,hsplit]
 refine wpAny_bind (LI.at ?_)
 rw [if_neg (by decide)]
 exact wpAny_of_eq ha hq
theorem vC {tk:Tok} {Q:Fin → Shared → Prop} (U:eK K C) (X:K.In s.heap) (I:InstAt s.heap e oe C od) (hq:Q (.done (.ret (.ref C))) s) :
  wpAny (model prog w) A (Builtin.«object.__getattribute__» ⟨[.ref e,.str "__class__" tk],[]⟩) Q E s:=by
 obtain ⟨hh,g,d,t,os⟩:=s
 have L0:=I.type (M:=model prog w)
 have L3:=looks_find (M:=model prog w) X I (xI U.cs U.ca U.gg U.tk)
 unfold Builtin.«object.__getattribute__»
 refine wpAny_bind (wpAny_of_eq (show slotArgs "__getattribute__" 1 ⟨[.ref e,.str "__class__" tk],[]⟩ = pure (.ref e,[.str "__class__" tk]) from rfl) ?_)
 refine wpAny_bind (wpAny_of_eq (show Builtin.ObjectAttr.attrName (.str "__class__" tk) = pure ("__class__" : Str) from rfl) ?_)
 refine wpAny_bind (L0.at (wpAny_bind (L3.at ?_)))
 show wpAny _ _ (Builtin.ObjectAttr.bindTo (.builtin "getset_descriptor.__get__") (.builtin "object.__class__") (.ref e) (.ref C)) _ _ _
 show wpAny _ _ (holding [.builtin "object.__class__"] (call (.builtin "getset_descriptor.__get__") [.builtin "object.__class__",.ref e,.ref C]) >>= ret) _ _ _
 exact wpAny_bind (wpAny_holding (wpAny_call (class_get X I U.mo (wpAny_pure hq))))
theorem uR {Q:Option Value → Shared → Prop} (U:eK K C) (X:K.In s.heap) (I:InstAt s.heap e oe C od) (h:Q (some (.ref C)) { s with toks:=s.toks + 1 }):wpAny (model prog w) A (getAttr? (.ref e) "__class__") Q E s:=by
 obtain ⟨hh,g,d,t,os⟩:=s
 have L0:=I.type (M:=model prog w)
 have L1:=looks_findIn (M:=model prog w) X U.ga
 have L2:=looks_findIn (M:=model prog w) X U.gt
 unfold getAttr? getAttrBy? getAttrBy
 refine wpAny_bind (wpAny_mkText (wpAny_bind (wpAny_attempt (wpAny_holding (wpAny_bind (L0.at (wpAny_bind (L1.at ?_))))))))
 show wpAny _ _ (getAttrByItsOwn (.ref e) _ (.ref C) (.builtin "BaseException.__getattribute__") false false) _ _ _
 unfold getAttrByItsOwn
 refine wpAny_bind ?_
 show wpAny _ _ (typeLookup (.ref C) "__getattr__") _ _ _
 refine L2.at ?_
 refine wpAny_bind (wpAny_attempt (wpAny_holding ?_))
 show wpAny _ _ (boundAndCalled (.builtin "BaseException.__getattribute__") (.ref e) _) _ _ _
 unfold boundAndCalled
 refine wpAny_bind (wpAny_of_eq (F.attr_ValueError.ga.bind (.ref e)) ?_)
 refine wpAny_call (codeAny_call_builtin F.attr_ValueError.ga.plain F.entry_bexc_ga (px U X I (vC U X I ?_)))
 exact wpAny_pure (wpAny_pure h)
theorem qw (U:eK K C):KitX K (.ref e) (.ref C) (fun h=>∃ oe od,InstAt h e oe C od) where
 ty:=fun M h _ ⟨_,_,I⟩=>I.type
 it:=fun _ _ X _=>by
  obtain ⟨cd,hc⟩:=Option.isSome_iff_exists.mp U.cs
  unfold clsIn at hc
  split at hc
  ·rename_i c' d' cd' sl' ho
   intro A' Q' E' s' k q
   unfold isType loadHead
   exact wpAny_bind (wpAny_loadPart (k _ _ (X _ _ ho)) (wpAny_pure q))
  ·cases hc
 ne:=fun h tp dd its n sl X htp=>by
  obtain ⟨cd,hc⟩:=Option.isSome_iff_exists.mp U.cs
  refine Bool.eq_false_iff.mpr fun q=>?_
  have z:C = tp:=Value.ref.inj (beq_iff_eq.mp q)
  subst z
  unfold clsIn at hc
  split at hc
  ·rename_i c' d' cd' sl' ho
   have z:=(X _ _ ho).symm.trans htp
   cases z
  ·cases hc
 ca:=fun X ⟨_,_,I⟩ k=>uR U X I k
theorem yI {name:Str} {expr:Bool} {v:Value} {Q:Value → Shared → Prop} (U:eK K C) (X:K.In s.heap) (I:InstAt s.heap e oe C od) (hf:findObj K C od name = some (.value v)) (hh:handedIn v = true) (h:Q v { s with toks:=s.toks + 1 }) :
  wpAny (model prog w) A (getAttr (.ref e) name expr) Q E s:=by
 obtain ⟨hh',g,d,t,os⟩:=s
 have L0:=I.type (M:=model prog w)
 have L1:=looks_findIn (M:=model prog w) X U.ga
 have L2:=looks_findIn (M:=model prog w) X U.gt
 have L3:=looks_find (M:=model prog w) X I hf
 unfold getAttr getAttrBy
 refine wpAny_bind (wpAny_mkText (wpAny_holding (wpAny_bind (L0.at (wpAny_bind (L1.at ?_))))))
 show wpAny _ _ (getAttrByItsOwn (.ref e) _ (.ref C) (.builtin "BaseException.__getattribute__") true expr) _ _ _
 unfold getAttrByItsOwn
 refine wpAny_bind ?_
 show wpAny _ _ (typeLookup (.ref C) "__getattr__") _ _ _
 refine L2.at ?_
 refine wpAny_bind (wpAny_attempt (wpAny_holding ?_))
 unfold callGetattribute
 rw [show (expr && onTheHeap (Value.builtin "BaseException.__getattribute__")) = false from Bool.and_false _,if_neg (by decide)]
 unfold boundAndCalled
 refine wpAny_bind (wpAny_of_eq (F.attr_ValueError.ga.bind (.ref e)) ?_)
 refine wpAny_call (codeAny_call_builtin F.attr_ValueError.ga.plain F.entry_bexc_ga (px U X I ?_))
 unfold Builtin.«object.__getattribute__»
 refine wpAny_bind (wpAny_of_eq (show slotArgs "__getattribute__" 1 ⟨[.ref e,.str name _],[]⟩ = pure (.ref e,[.str name _]) from rfl) ?_)
 refine wpAny_bind (wpAny_of_eq (show Builtin.ObjectAttr.attrName (.str name _) = pure (name:Str) from rfl) ?_)
 refine wpAny_bind (L0.at (wpAny_bind (L3.at ?_)))
 refine wpAny_pure ?_
 show wpAny _ _ (handedOut v) _ _ _
 rw [handedOut_of hh]
 exact wpAny_pure h
end
def XD (H:Hp) (e C dx:Addr) (fs:List (Str × V)):Prop:=(H e = some (ik (.ref C) (some dx) e) ∨ H e = some (pL (.ref C) (some dx) e)) ∧ H dx = some (.xd fs)
theorem XD.inst {P:Program} {w:World} {H:Hp} {h:Heap} {e C dx:Addr} {fs:List (Str × V)} (ok:fF P w H h) (x:XD H e C dx fs):∃ oe od,InstAt h e oe C (some od) ∧ ∃ mA:Str → Option Value,(∀ f,eg (fs.lookup f) (mA f)) ∧ ∀ name,lookIn name od = some (mA name):=by
 obtain ⟨x1,x2⟩:=x
 obtain ⟨mA,ns,rl⟩:=(show bX P w H h dx (.xd fs) from ok dx _ x2)
 obtain ⟨od,ho,hl⟩:=lg ns
 have:∃ oe vs,h.get? e = some oe ∧ oe.cls = .ref C ∧ oe.dict = some dx ∧ oe.data = .fields vs:=by
  rcases x1 with z | z
  ·obtain ⟨⟨oe,vs,a,b,c,d,_⟩,_⟩:=ok e _ z
   exact ⟨oe,vs,a,b,c,d⟩
  ·obtain ⟨⟨oe,vs,a,b,c,d⟩,_⟩:=ok e _ z
   exact ⟨oe,vs,a,b,c,d⟩
 obtain ⟨oe,vs,he,hC,hdd,hd⟩:=this
 refine ⟨oe,od,⟨he,hC,?_,?_⟩,mA,rl,hl⟩
 ·obtain ⟨a,b,c,d⟩:=oe
  have hd':c = .fields vs:=hd
  subst hd'
  rfl
 ·rw [hdd]
  exact ho
section
variable {X:Cx}
def vg (K:Frag):List V → Hp → VK → Prop:=fun xs H Q=>∃ e c cv C dx fs b,xs = [.ref e,c] ∧ t6 c cv ∧ XD H e C dx fs ∧ eK K C ∧ kitOne K (.ref C) cv = some b ∧ Q (.bl b) H
theorem lH:bc X (.builtin "isinstance") (vg X.K):=by
 unfold bc at *
 exact by
  intro pins s σ H xs us Q I rv h
  obtain ⟨e,c,cv,C,dx,fs,b,rfl,hc,he,U,k,q⟩:=h
  obtain ⟨u,cu,rfl,ru,rc⟩:=rv.two
  have ec:cu = cv:=by cases hc <;> exact rc
  subst ec
  cases (show u = Value.ref e from ru)
  obtain ⟨oe,od,J,_⟩:=he.inst I.hok
  exact kia_one (qw U) I.dk ⟨oe,some od,J⟩ k (fun z=>nomatch z) fun tk=>⟨.bl b,H,I.tok tk,rfl,q⟩
def dX (K:Frag):List V → Hp → VK → Prop:=fun xs H Q=>bK K xs H Q ∨ vg K xs H Q
theorem dz:bc X (.builtin "isinstance") (dX X.K):=by
 first
 | exact (br.or lH)
 | (unfold bc at *; exact (br.or lH))
def yC (K:Frag) (ta:TE) (f:Str):TE:=fun σ H Q=>ta σ H fun x H1=>∃ e C dx fs v,x = .ref e ∧ XD H1 e C dx fs ∧ eK K C ∧ hasDictIn K C = true ∧ findIn K (.ref C) f = some none ∧ fs.lookup f = some v ∧ Q v H1
theorem uo {e:Expr} {ta:TE} {f:Str} {pos:Pos} (he:PE X e ta) (hb:attributeBase e f X.env (eval e X.env) = eval e X.env):PE X (.Attribute e f pos) (yC X.K ta f):=by
 unfold PE at *
 exact by
  intro pins s σ H Q I h
  refine qD hb (bQ (he pins s σ H _ I h) fun u s1 ⟨x,H1,I1,rx,a,C,dx,fs,v,ex,xd,U,hd,na,l,q⟩=>?_)
  subst ex
  obtain rfl:u = Value.ref a:=rx
  obtain ⟨oe,od,J,mA,rl,hl⟩:=xd.inst I1.hok
  obtain ⟨y,hu,ru⟩:=eg.some_of (v:=v) (o:=mA f) (by rw [← l]; exact rl f)
  exact yI U I1.dk J (findObj_own hd na rfl (by rw [hl,hu])) (lL ru) ⟨v,H1,I1.tok _,ru,q⟩
end
structure xF (K:Frag) (C:Addr) (f:Str):Prop where
 sa:findIn K (.ref C) "__setattr__" = some (some (.builtin "object.__setattr__"))
 na:findIn K (.ref C) f = some none
 hd:hasDictIn K C = true
 mo:mroIn K C (.type "object") = some true
theorem nC {K:Frag} (self:Value) {bm:List Value} (t:jS K bm):refuseLoop self "__setattr__" bm = pure ():=by
 induction t with
 | base=>exact PySem.F.store_ValueError.passes self
 | own _ _ _ _ ih=>rw [refuseLoop_ref]; exact ih
section
variable {prog:Program} {w:World} {A:Around} {E:Value → Shared → Prop} {K:Frag} {e C fI:Addr} {oe:Obj} {name:Str} {v:Value} {h:Heap} {g:Array GenState} {d:Drawn} {t:Nat} {os:OsState}
theorem mq {Q:Unit → Shared → Prop} {vs:Array Value} {sl:Array (Option Value)} (xc:kL K C fI) (xs:xF K C name) (X:K.In h) (he:h.get? e = some ⟨.ref C,none,.fields vs,sl⟩)
  (hq:∀ h' t',h'.get? e = some ⟨.ref C,some h.objs.size,.fields vs,sl⟩ → h'.Ns1 h.objs.size (fun y=>if y = name then some v else none) → (∀ b o,b ≠ e → h.get? b = some o → h'.get? b = some o) → Q () ⟨h',g,d,t',os⟩) :
  wpAny (model prog w) A (setAttr (.ref e) name v) Q E ⟨h,g,d,t,os⟩:=by
 obtain ⟨nm,q,N,bs,bm,hdct,sn,sub,ab,col,dd,k0,k1,k2,k3,k5,es,lk,nk,ni,tl⟩:=xc.ex
 have I:InstAt h e ⟨.ref C,none,.fields vs,sl⟩ C none:=⟨he,rfl,rfl,True.intro⟩
 have SF:=PySem.F.store_object
 refine set_plain (s:=⟨h,g,d,t,os⟩) X I xs.sa ?_
 have sub1:Looks (model prog w) h (isInstance (.ref e) (.type "object")) true:=I.type.andThen (looks_mroIn X xs.mo)
 refine codeAny_call_builtin SF.slot.plain SF.entry (@check_slot (model prog w) _ _ ⟨h,g,d,t + 1,os⟩ "object.__setattr__" "object" "__setattr__" (.ref e) [.str name t,v] [] _ SF.kind SF.split sub1 (SF.args (.ref e) (.str name t) v) ?_)
 rw [osa_eq,refuse_eq]
 have L3:Looks (model prog w) h (Builtin.ObjectAttr.storeTaker? none) none:=.now
 refine wpAny_bind (wpAny_bind (I.type.at (wpAny_bind (wpAny_mroOf_exc (X _ _ lk) ?_))))
 rw [refuseLoop_ref,nC _ tl]
 refine wpAny_pure (wpAny_bind (I.type.at (wpAny_bind ((looks_findIn X xs.na).at (wpAny_bind (L3.at ?_))))))
 show wpAny _ _ (Builtin.ObjectAttr.storeInOwnDict (.ref e) (.ref C) (.str name t) name v _) _ _ _
 obtain ⟨cd,hc,hd'⟩:=any_some xs.hd
 refine wpAny_bind (wpAny_pure (wpAny_bind (wpAny_bind (wpAny_loadPart he (wpAny_bind (Looks.here (s:=⟨h,g,d,t + 1,os⟩) (looks_clsIn X hc) ?_))))))
 rw [hd']
 have hx₁:(h.push { cls:=.type "dict",data:=.dict #[] }).get? e = some ⟨.ref C,none,.fields vs,sl⟩:=Heap.get?_push_of_some _ he
 have hxs:e ≠ h.objs.size:=Nat.ne_of_lt (Heap.lt_size he)
 refine wpAny_bind (wpAny_alloc' ?_)
 refine wpAny_bind (wpAny_update' hx₁ ?_)
 refine wpAny_pure ?_
 have hgd:((h.push { cls:=.type "dict",data:=.dict #[] }).update e fun o=>{ cls:=o.cls,dict:=some h.objs.size,data:=o.data,slots:=o.slots }).get? h.objs.size
   = some { cls:=.type "dict",data:=.dict #[] } :=
  (Heap.get?_update_ne _ _ _ _ hxs.symm).trans (Heap.get?_push_at rfl rfl)
 have hnd:((h.push { cls:=.type "dict",data:=.dict #[] }).update e fun o=>{ cls:=o.cls,dict:=some h.objs.size,data:=o.data,slots:=o.slots }).Ns h.objs.size (fun _=>none) :=
  ⟨_,#[],_,hgd,rfl,fun e he=>absurd he (by simp),fun _=>rfl⟩
 show wpAny _ _ (Builtin.ObjectAttr.storeInDict h.objs.size (.str name t) name v) _ _ _
 unfold Builtin.ObjectAttr.storeInDict Builtin.ObjectAttr.newKeyGuard
 refine wpAny_bind (wpAny_pure (wpAny_bind (wpAny_nsSet1 (Heap.Ns1.of_empty hnd) fun h' hn' hs=>?_)))
 obtain ⟨oD,esD,epD,hoD,hdD,hcD⟩:=hn'.count (Within.cons name v Within.nil)
 refine wpAny_bind (wpAny_lookBehind hoD (by rw [hdD]; exact pastItsLine_dict (Nat.le_trans hcD (by rw [List.length_cons,List.length_nil,sizeLine_eq]; omega))) ?_)
 refine wpAny_pure (hq h' _ ?_ hn' fun b o hb q=>?_)
 ·exact (hs.2 e hxs).trans (Heap.get?_update_self _ hx₁ rfl)
 ·exact (hs.2 b (Nat.ne_of_lt (Heap.lt_size q))).trans ((Heap.get?_update_ne _ _ _ _ hb).trans (Heap.get?_push_of_some _ q))
end
section
variable {X:Cx} {o value:Expr} {f:Str} {ta tv:TE} {pos pos':Pos}
def yA (K:Frag) (ta tv:TE) (f:Str):TS:=fun D σ H=>tv σ H fun y H1=>ta σ H1 fun x H2=>∃ e C fI,x = .ref e ∧ H2 e = some (ik (.ref C) none e) ∧ kL K C fI ∧ xF K C f ∧ ∀ dx,H2 dx = none → D.nx σ (upd (upd H2 e (ik (.ref C) (some dx) e)) dx (.xd [(f,y)]))
theorem u6 (ha:PE X o ta) (hv:PE X value tv) (hs:swapsWith value (some (.Attribute o f pos')) pos.line X.env = pure false):PS X (.Assign [.Attribute o f pos'] value pos) (yA X.K ta tv f):=by
 unfold PE at *; unfold PS at *
 exact by
  intro pins s σ H D I h
  refine plainObj_wpAny_Assign_Attribute (bQ (hv pins s σ H _ I h) fun u s1 ⟨y,H1,I1,ry,q⟩=>bQ (ha pins s1 σ H1 _ I1 q) fun ov s2 ⟨x,H2,I2,rx,a,C,fI,ex,ea,xc,xs,q2⟩=>?_) hs
  subst ex
  obtain rfl:ov = Value.ref a:=rx
  obtain ⟨oe,vs,ge,gc,gd,gv,g1,g0⟩:=mB I2.hok ea
  obtain ⟨oc,od,oda,osl⟩:=oe
  simp only at gc gd gv
  subst gc gd gv
  obtain ⟨hh,gg,d0,tt,oo⟩:=s2
  refine mq xc xs I2.dk ge fun h' t' e1 n1 kp=>?_
  have I3:Inv X pins σ (upd H2 a (ik (.ref C) (some hh.objs.size) a)) ⟨h',gg,d0,t',oo⟩:=I2.write (s:=⟨hh,gg,d0,tt,oo⟩) (x:=a) (e:=a) (t':=t') (by rw [ea]; exact True.intro) (.inl rfl) (fun b u hb q=>kp b u hb q) ⟨_,e1⟩ (pP e1 rfl rfl rfl g1 g0)
  have nd:hh.objs.size ≠ a:=Nat.ne_of_gt (Heap.lt_size ge)
  have fr:H2 hh.objs.size = none:=I2.hok.fresh (Nat.le_refl _)
  obtain ⟨m,⟨ol,_,_,hl,_⟩,_⟩:=id I2.loc
  have lt:=Heap.lt_size hl
  have I4:=I3.adopt (e:=hh.objs.size) (o:=.xd [(f,y)]) (by rw [aH nd]; exact fr) (Heap.get?_none_of_le (Nat.le_trans I2.ok.above (Nat.le_of_lt lt))) (Nat.ne_of_gt lt)
   (fun x c z=>by obtain ⟨v,oc,hc,_⟩:=I2.cell x c z; exact Nat.ne_of_lt (Heap.lt_size hc)) (fun p hp=>Nat.ne_of_lt (Heap.lt_size (I2.pin p hp).1)) ⟨_,n1,fun g=>by
    show eg ([(f,y)].lookup g) (if g = f then some u else none)
    by_cases z:g = f
    ·rw [z,if_pos rfl]
     have:[(f,y)].lookup f = some y:=by simp [List.lookup]
     rw [this]
     exact ry
    ·rw [if_neg z]
     have:[(f,y)].lookup g = none:=by
      have:(g == f) = false:=by simpa using z
      simp [List.lookup,this]
     rw [this]
     exact True.intro⟩
  exact ⟨σ,_,I4,q2 _ fr⟩
end
theorem kL.v5 {K:Frag} {C N A f:Addr} {nm q:Str} {bs:List Value} {hdct:Bool} {sn:List Str} {sub:List Value} {ab:Bool} {col:Option Bool} {dd:Option Addr} {k0 k1 k2 k3 k5:Option Value} {es:Array DictEntry} {c d ep sl}
  {c0:Value} {dd':Option Addr} {cd:ClassData} {sl0:Array (Option Value)} {es':Array DictEntry} {c' d' ep' sl'}
  (l:K.lookup C = some (excClassObj nm q C N bs (.ref A :: ig) hdct sn sub ab col dd k0 k1 k2 k3 k5 "ValueError.__new__")) (ln:K.lookup N = some ⟨c,d,.dict es ep,sl⟩) (sk:bI es = true) (ni:nsFind es "__init__" = some (.ref f))
  (la:K.lookup A = some { cls:=c0,dict:=dd',data:=.cls cd,slots:=sl0 }) (lna:K.lookup cd.ns = some ⟨c',d',.dict es' ep',sl'⟩) (ska:bI es' = true) (nia:nsFind es' "__init__" = none)
  (fn:isFn K (.ref f) = true) (kp:keepIn K (.ref C) = true):kL K C f :=
 ⟨⟨_,_,_,_,_,_,_,_,_,_,_,_,_,_,_,_,_,l,⟨_,_,_,_,ln,fz sk⟩,ni,.own la ⟨_,_,_,_,lna,fz ska⟩ nia .base⟩,beq_iff_eq.mp fn,kp⟩
theorem dX.a {K:Frag} {xs:List V} {H:Hp} {Q:VK} (h:bK K xs H Q):dX K xs H Q:=.inl h
theorem dX.xd {K:Frag} {H:Hp} {e C c dx:Addr} {fs:List (Str × V)} {b:Bool} {Q:VK} (h:XD H e C dx fs) (q:eK K C) (k:kitOne K (.ref C) (.ref c) = some b) (hQ:Q (.bl b) H):dX K [.ref e,.ref c] H Q :=
 .inr ⟨e,.ref c,_,C,dx,fs,b,rfl,.own c,h,q,k,hQ⟩
theorem dX.zf {K:Frag} {H:Hp} {e C dx:Addr} {c:String} {fs:List (Str × V)} {b:Bool} {Q:VK} (h:XD H e C dx fs) (q:eK K C) (k:kitOne K (.ref C) (.type c) = some b) (hQ:Q (.bl b) H):dX K [.ref e,.ty c] H Q :=
 .inr ⟨e,.ty c,_,C,dx,fs,b,rfl,.ty c,h,q,k,hQ⟩
theorem XD.same {H H':Hp} {e C dx:Addr} {fs:List (Str × V)} (h:XD H e C dx fs) (s:aI H H'):XD H' e C dx fs:=⟨h.1.imp (s _ _) (s _ _),s _ _ h.2⟩
def v7 (C:Addr) (f:Str):Sp:=fun vs H Q _=>∃ e wd pl,vs = [.ref e,wd,pl] ∧ H e = some (ik (.ref C) none e) ∧ ∀ dx,H dx = none → Q .ax (upd (upd H e (ik (.ref C) (some dx) e)) dx (.xd [(f,pl)]))
theorem uK {H:Hp} {e dx:Addr} {o u:HO} (he:H e = none) (hd:upd H e o dx = none):aI H (rem (upd (upd (upd H e o) e u) dx o') e):=fun b w hb=>by
 have n1:b ≠ e:=fun z=>by rw [z,he] at hb; cases hb
 have n2:b ≠ dx:=fun z=>by
  rw [← z,aH n1,hb] at hd
  cases hd
 rw [fQ n1,aH n2,aH n1,aH n1]
 exact hb
theorem pF {H:Hp} {C:Addr} {f:Str} {wd pl:V} {E:XK} (h:∀ x H',aI H H' → H' x = some (.xd [(f,pl)]) → E (.ref C) (some x) H') (e:Addr) (he:H e = none) :
  v7 C f [.ref e,wd,pl] (upd H e (ik (.ref C) none e)) (fun v H2=>v = .ax ∧ ∃ dd,H2 e = some (ik (.ref C) dd e) ∧ E (.ref C) dd (rem H2 e)) E0:=by
 refine ⟨e,wd,pl,rfl,aC,fun dx hd=>⟨rfl,some dx,?_,?_⟩⟩
 ·have ne:e ≠ dx:=fun z=>by rw [← z,aC] at hd; cases hd
  rw [aH ne,aC]
 ·have ne:dx ≠ e:=fun z=>by rw [z,aC] at hd; cases hd
  exact h dx _ (uK he hd) (by rw [fQ ne,aC])
def XE (H:Hp) (e C:Addr):Prop:=H e = some (pL (.ref C) none e) ∨ ∃ dx fs,XD H e C dx fs
theorem XE.same {H H':Hp} {e C:Addr} (h:XE H e C) (s:aI H H'):XE H' e C:=h.imp (s _ _) fun ⟨dx,fs,x⟩=>⟨dx,fs,x.same s⟩
theorem dX.xe {K:Frag} {H:Hp} {e C c:Addr} {b:Bool} {Q:VK} (h:XE H e C) (q:eK K C) (k:kitOne K (.ref C) (.ref c) = some b) (hQ:Q (.bl b) H):dX K [.ref e,.ref c] H Q:=by
 rcases h with h | ⟨dx,fs,h⟩
 ·exact .inl (bK.exc h q k hQ)
 ·exact .xd h q k hQ
theorem dX.zk {K:Frag} {H:Hp} {e C:Addr} {c:String} {b:Bool} {Q:VK} (h:XE H e C) (q:eK K C) (k:kitOne K (.ref C) (.type c) = some b) (hQ:Q (.bl b) H):dX K [.ref e,.ty c] H Q:=by
 rcases h with h | ⟨dx,fs,h⟩
 ·exact .inl (bK.yo h q k hQ)
 ·exact .zf h q k hQ
theorem XD.wR {H:Hp} {e C dx:Addr} {fs:List (Str × V)} (h:H dx = some (.xd fs)) (he:H e = none):XD (upd H e (pL (.ref C) (some dx) e)) e C dx fs :=
 ⟨.inr aC,aI.new he _ _ h⟩
theorem cA.of0 {K:Frag} {x qual:Str} {st:Stmt} {f:Addr} {fd:FuncData} {ps:List Str} {na:Nat} (F:jY K x qual st .none f fd)
  (h:∀ (kV doc pm:Value) (an:Option Addr) (cdv ct:Value) (y:Value) (us:List Value),us.length = na → bindArgs (PySem.W.fnOf x qual (aT st) (aR st) (aF st) .none kV doc pm an cdv ct) ⟨y :: us,[]⟩ = pure (ps.zip (y :: us)) ∧ (y :: us).length = ps.length):cA K fd ps [] na (fun us _=>us) (fun us _=>us):=by
 obtain ⟨oc,od,kV,doc,pm,an,cdv,ct,osl,rfl,lk,hcd⟩:=F.ex
 refine ⟨fun s y us ws X h1 h2=>?_,fun r _=>r⟩
 obtain ⟨e1,e2⟩:=h kV doc pm an cdv ct y us h1
 obtain rfl:ws = []:=List.eq_nil_of_length_eq_zero h2
 exact ⟨.of_eq e1,e2⟩
theorem qY {lo:Int} {n:Nat} {l:Addr} {P:Nat → V → Prop} {g:TG} {te:TE} {σ:St} {H:Hp} {Q:VK} (hl:H l = none) (lz:n ≤ 1000) (Ps:St → Prop) (h0:Ps σ)
  (hs:∀ (i:Nat) σ G (Kt:St → V → Hp → Prop),i < n → Ps σ → aI H G → (∀ σ2 v G2,Ps σ2 → aI G G2 → P i v → Kt σ2 v G2) → g (.int (lo + i)) σ G fun σ2 H2=>te σ2 H2 (Kt σ2))
  (hd:∀ G acc,aI H G → G l = some (.lst acc) → acc.length = n → (∀ i v,acc[i]? = some v → P i v) → Q (.ref l) G):nU (vV lo n) l g yH te σ (upd H l (.lst [])) Q:=by
 have sz:1000 ≤ sizeLine:=aM rfl
 refine mL n (fun i σ acc G=>Ps σ ∧ aI H G ∧ G l = some (.lst acc) ∧ acc.length = i ∧ ∀ (j:Nat) v,acc[j]? = some v → P j v) (by omega) ?_ ?_ (fun i σ acc H hi p=>hi) ?_ ?_
 ·exact ⟨h0,aI.new hl,aC,rfl,fun j v h=>by rw [List.getElem?_nil] at h; cases h⟩
 ·rintro i σ acc G hi ⟨_,sG,h1,h2,_⟩
  exact ⟨h1,by omega⟩
 ·rintro i x σ acc G G' hi ⟨hp,sG,h1,h2,h3⟩ ⟨rfl,rfl⟩
  refine hs i σ _ _ hi hp sG fun σ2 v G2 p2 s2 hv=>⟨s2 _ _ h1,Nx.mk hi ⟨p2,fun b u hb=>?_,aC,by rw [List.length_append,h2]; rfl,fun j w hw=>?_⟩⟩
  ·rw [aH (aK hb hl)]
   exact s2 _ _ (sG _ _ hb)
  ·rcases Nat.lt_trichotomy j acc.length with z | z | z
   ·rw [List.getElem?_append_left z] at hw
    exact h3 j w hw
   ·subst z
    rw [List.getElem?_append_right (Nat.le_refl _),Nat.sub_self] at hw
    cases hw
    rw [h2]
    exact hv
   ·rw [List.getElem?_append_right (by omega),List.getElem?_eq_none (by show 1 ≤ _; omega)] at hw
    cases hw
 ·rintro σ acc G ⟨_,sG,h1,h2,h3⟩
  exact ⟨Nat.le_refl _,hd G acc sG h1 h2 h3⟩
end L2
namespace L2
open PySem PySem.Spec PyProof.Rows
section
variable {prog:Program} {w:World} {A:Around} {E:Value → Shared → Prop} {s:Shared}
def bE (prog:Program) (w:World) (h:Heap) (k:Key × List Key) (a:Addr):Prop:=∃ o n u b,h.get? a = some o ∧ o.cls = .type "tuple" ∧ o.data = .seq #[u,.ref b] n ∧ (ae prog w).is k.1 u = true ∧ IsTupleKey (ae prog w) h k.2 b
theorem bE.typeIs {k:Key × List Key} {a:Addr} (x:bE prog w s.heap k a):s.TypeIs (.ref a) "tuple" := let ⟨o,_,_,_,ho,hc,_⟩:=x; ⟨o,ho,hc⟩
theorem bE.inj {h:Heap} {a:Addr} {x y:Key × List Key} (hx:bE prog w h x a) (hy:bE prog w h y a):x = y:=by
 obtain ⟨o,n,u,b,ho,_,hd,h1,h2⟩:=hx
 obtain ⟨o',n',u',b',ho',_,hd',h1',h2'⟩:=hy
 obtain rfl:o = o':=Option.some.inj (ho.symm.trans ho')
 rw [hd] at hd'
 injection hd' with e _
 have e1:[u,Value.ref b] = [u',Value.ref b']:=by simpa using congrArg Array.toList e
 injection e1 with e2 e3
 injection e3 with e4 _
 injection e4 with e5
 subst e2 e5
 obtain ⟨x1,x2⟩:=x
 obtain ⟨y1,y2⟩:=y
 exact Prod.ext ((ae prog w).inj _ _ _ h1 h1') (h2.inj h2')
theorem bE.keeps {h h':Heap} {k:Key × List Key} {a d:Addr} {o:Obj} {es ep} (x:bE prog w h k a) (ho:h.get? d = some o) (hd:o.data = .dict es ep) (hs:Heap.SameBut d h h'):bE prog w h' k a:=by
 obtain ⟨o',n,u,b,ho',hc,hd',h1,h2⟩:=x
 have hne:a ≠ d:=by
  rintro rfl
  obtain rfl:o' = o:=Option.some.inj (ho'.symm.trans ho)
  rw [hd] at hd'; exact nomatch hd'
 exact ⟨o',n,u,b,(hs.2 a hne).trans ho',hc,hd',h1,h2.keeps ho hd hs⟩
def ju (prog:Program) (w:World) (k:Key × List Key):Int:=reduceHash (Builtin.Tuple.tupleHashOf [(ae prog w).hash k.1,tupleKeyHash (ae prog w) k.2])
theorem qk {k:Key × List Key} {a:Addr} {Q:Int → Shared → Prop} (hu:A.units + 4 < cLine) (hk:bE prog w s.heap k a) (h:Q (ju prog w k) { s with toks:=s.toks + (1 + (k.2.length + 1) + 1) }) :
  wpAny (model prog w) A (pyHash (.ref a)) Q E s:=by
 have hT:=hk.typeIs
 obtain ⟨o,n,u,b,ho,_,hd,h1,h2⟩:=hk
 unfold pyHash
 first | unfold pyHashByItsType | skip
 first | refine wpAny_bind (wpAny_cRoomFor_or (.inr (by omega)) ?_) | skip
 refine wpAny_bind (wpAny_specialOf hT F.slot_tuple_hash.lookup ?_)
 show wpAny _ _ (if (some (Value.builtin "tuple.__hash__") == some Value.none) = true then _ else _) Q E s
 rw [if_neg (by rw [beq_builtin_none]; exact Bool.false_ne_true)]
 refine wpAny_bind (wpAny_specialOf hT F.slot_tuple_hash.lookup ?_)
 show wpAny _ _ (callSpecialIfBoundUnlessNone? (.ref a) "__hash__" _ >>= _) Q E s
 refine wpAny_bind (wpAny_callSpecialIfBoundUnlessNone?_slot hT F.slot_tuple_hash (wpAny_call_entry F.slot_tuple_hash hT F.entry_tuple_hash ?_ (F.args_tuple_hash_1 _)))
 show wpAny _ _ (Builtin.Tuple.tupleItemsOf (.ref a) >>= _) _ _ s
 refine wpAny_bind (wpAny_tupleItemsOf ho hd ?_)
 refine wpAny_bind ?_
 rw [← Array.forIn_toList]
 simp only [List.forIn_cons,List.forIn_nil]
 refine wpAny_bind (wpAny_bind ((ae prog w).pyHash h1 ?_))
 refine wpAny_pure (wpAny_bind (wpAny_bind (wpAny_pyHash_tuple (s:={ s with toks:=s.toks + 1 }) (by show A.units + 1 < cLine; omega) h2 ?_)))
 refine wpAny_pure (wpAny_pure ?_)
 show wpAny _ _ (retInt (Builtin.Tuple.tupleHashOf [(ae prog w).hash k.1,tupleKeyHash (ae prog w) k.2])) _ _ _
 refine wpAny_ret_mkInt ?_
 show wpAny _ _ (if (decide (-(2:Int) ^ 63 ≤ Builtin.Tuple.tupleHashOf [(ae prog w).hash k.1,tupleKeyHash (ae prog w) k.2]) && decide (Builtin.Tuple.tupleHashOf [(ae prog w).hash k.1,tupleKeyHash (ae prog w) k.2] < 2 ^ 63)) = true then _ else _) Q E _
 unfold ju reduceHash at h
 by_cases hr:(decide (-(2:Int) ^ 63 ≤ Builtin.Tuple.tupleHashOf [(ae prog w).hash k.1,tupleKeyHash (ae prog w) k.2]) && decide (Builtin.Tuple.tupleHashOf [(ae prog w).hash k.1,tupleKeyHash (ae prog w) k.2] < 2 ^ 63)) = true
 ·rw [if_pos hr]
  rw [if_pos hr] at h
  exact wpAny_pure (by simpa [Nat.add_assoc] using h)
 ·rw [if_neg hr]
  rw [if_neg hr] at h
  exact wpAny_bind (wpAny_rule (wpAny_pure (by simpa [Nat.add_assoc] using h)))
theorem mJ {x y:Key × List Key} {a b:Addr} {P:Fin → Shared → Prop} (hu:A.units + 1 < cLine) (hx:bE prog w s.heap x a) (hy:bE prog w s.heap y b) (h:P (.done (.ret (.bool (decide (x = y))))) s) :
  wpAny (model prog w) A (Builtin.«tuple.__eq__» ⟨[.ref a,.ref b],[]⟩) P E s:=by
 have hTb:=hy.typeIs
 obtain ⟨oa,na,u1,b1,hoa,_,hda,h11,h12⟩:=hx
 obtain ⟨ob,nb,u2,b2,hob,_,hdb,h21,h22⟩:=hy
 obtain ⟨x1,x2⟩:=x
 obtain ⟨y1,y2⟩:=y
 show wpAny _ _ (isInstance (.ref b) (.type "tuple") >>= _) _ _ s
 refine wpAny_bind (wpAny_isInstance hTb isSubtype_tuple_tuple ?_)
 simp only [Bool.not_true,Bool.false_eq_true,if_false]
 refine wpAny_bind (wpAny_tupleItemsOf hoa hda ?_)
 refine wpAny_bind (wpAny_tupleItemsOf hob hdb ?_)
 refine wpAny_bind ?_
 simp only [List.zip_cons_cons,List.zip_nil_right,List.forIn_cons,List.forIn_nil]
 refine wpAny_bind (wpAny_bind ((ae prog w).eqBool (a:=x1) (b:=y1) h11 h21 ?_))
 by_cases hk:x1 = y1
 ·subst hk
  rw [decide_eq_true rfl]
  simp only [Bool.not_true,Bool.false_eq_true,if_false]
  refine wpAny_pure ?_
  refine wpAny_bind (wpAny_bind (wpAny_eqBool_tuple (by omega) h12 h22 ?_))
  by_cases h2:x2 = y2
  ·subst h2
   rw [decide_eq_true rfl]
   simp only [Bool.not_true,Bool.false_eq_true,if_false]
   rw [decide_eq_true rfl] at h
   exact wpAny_pure (wpAny_pure (wpAny_pure h))
  ·rw [decide_eq_false h2]
   simp only [Bool.not_false,if_true]
   rw [decide_eq_false (fun z=>h2 (congrArg Prod.snd z))] at h
   exact wpAny_bind (wpAny_pure (wpAny_pure (wpAny_pure (wpAny_pure h))))
 ·rw [decide_eq_false hk]
  simp only [Bool.not_false,if_true]
  rw [decide_eq_false (fun z=>hk (congrArg Prod.fst z))] at h
  exact wpAny_bind (wpAny_pure (wpAny_pure (wpAny_pure (wpAny_pure h))))
theorem nS {x y:Key × List Key} {a b:Addr} {Q:Bool → Shared → Prop} (hu:A.units + 4 < cLine) (hx:bE prog w s.heap x a) (hy:bE prog w s.heap y b) (h:Q (decide (x = y)) s) :
  wpAny (model prog w) A (eqBool (.ref a) (.ref b)) Q E s:=by
 unfold eqBool
 try with_reducible refine wpAny_holding ?_
 show wpAny _ _ (if (Value.ref a == Value.ref b) = true then _ else _) Q E s
 by_cases hab:(Value.ref a == Value.ref b) = true
 ·rw [if_pos hab]
  have e:a = b:=by have:=eq_of_beq hab; injection this
  subst e
  obtain rfl:=hx.inj hy
  exact wpAny_bind (wpAny_rule (wpAny_pure (by simpa using h)))
 ·rw [if_neg hab]
  exact wpAny_bind (wpAny_richCompare_same_room (op:=.Eq) hx.typeIs hy.typeIs F.slot_tuple_eq
   (wpAny_call_entry F.slot_tuple_eq hx.typeIs F.entry_tuple_eq (mJ (by show A.units + 1 + 1 < cLine; omega) hx hy ⟨_,rfl,(fun e=>nomatch e),wpAny_truthy_bool h⟩) (F.args_tuple_eq_2 _ _)) (by omega))
theorem nK {m:Nat} {ks:List Key} {a:Addr} {Q:Bool → Shared → Prop} (hk:IsTupleKey (ae prog w) s.heap ks a) (h:Q true s):wpAny (model prog w) A (eqIsQuiet (m + 1) (.ref a)) Q E s:=by
 have hT:=hk.typeIs
 obtain ⟨o,items,n,ho,_,hd,hi⟩:=hk
 unfold eqIsQuiet
 refine wpAny_bind (wpAny_specialOf hT F.slot_tuple_eq.lookup ?_)
 show wpAny _ _ (isInstance (.ref a) (.type "tuple") >>= _) _ _ s
 refine wpAny_bind (wpAny_isInstance hT isSubtype_tuple_tuple ?_)
 simp only [Bool.not_true,Bool.false_eq_true,if_false]
 refine wpAny_bind (wpAny_seqItems ho hd ?_)
 refine wpAny_bind ?_
 show wpAny _ _ (forIn items _ _) _ _ s
 rw [← Array.forIn_toList]
 refine wpAny_forIn_list _ (fun rest r s'=>r.1 = none ∧ s' = s ∧ ∀ v ∈ rest,carriedByValue v = true) _ ?_ ?_ _ _ ⟨rfl,rfl,hi.byValue⟩
 ·rintro v rest r s' ⟨hr,rfl,hall⟩
  rw [eqIsQuiet_byValue _ (hall v List.mem_cons_self)]
  refine wpAny_bind (wpAny_pure ?_)
  simp only [Bool.not_true,Bool.false_eq_true,if_false]
  exact wpAny_pure ⟨rfl,rfl,fun u hu'=>hall u (List.mem_cons_of_mem _ hu')⟩
 ·rintro ⟨r1,r2⟩ s' ⟨hr,rfl,_⟩
  simp only at hr
  subst hr
  exact wpAny_pure h
theorem pQ {k:Key × List Key} {a:Addr} {Q:Bool → Shared → Prop} (hk:bE prog w s.heap k a) (h:Q true s):wpAny (model prog w) A (eqIsQuiet 8 (.ref a)) Q E s:=by
 have hT:=hk.typeIs
 obtain ⟨o,n,u,b,ho,_,hd,h1,h2⟩:=hk
 unfold eqIsQuiet
 refine wpAny_bind (wpAny_specialOf hT F.slot_tuple_eq.lookup ?_)
 show wpAny _ _ (isInstance (.ref a) (.type "tuple") >>= _) _ _ s
 refine wpAny_bind (wpAny_isInstance hT isSubtype_tuple_tuple ?_)
 simp only [Bool.not_true,Bool.false_eq_true,if_false]
 refine wpAny_bind (wpAny_seqItems ho hd ?_)
 refine wpAny_bind ?_
 show wpAny _ _ (forIn #[u,Value.ref b] _ _) _ _ s
 rw [← Array.forIn_toList]
 simp only [List.forIn_cons,List.forIn_nil]
 rw [eqIsQuiet_byValue _ ((ae prog w).byValue _ _ h1)]
 refine wpAny_bind (wpAny_bind (wpAny_pure ?_))
 simp only [Bool.not_true,Bool.false_eq_true,if_false]
 refine wpAny_pure (wpAny_bind (wpAny_bind (nK (m:=6) h2 ?_)))
 simp only [Bool.not_true,Bool.false_eq_true,if_false]
 exact wpAny_pure (wpAny_pure (wpAny_pure h))
end
def n6 (prog:Program) (w:World):HeapKind prog w (Key × List Key) where
 is:=bE prog w
 hash:=ju prog w
 draws:=fun k=>1 + (k.2.length + 1) + 1
 room:=fun A=>A.units + 4 < cLine
 inj:=fun hx hy=>hx.inj hy
 keeps:=fun x ho hd hs=>x.keeps ho hd hs
 pyHash:=fun hu hk h=>qk hu hk h
 eqBool:=fun hu hx hy h=>nS hu hx hy h
 quiet:=fun hk h=>pQ hk h
def m5 (H:Hp) (k:Key × List Key) (a:Addr):Prop:=∃ b,H a = some (.tup [kV k.1,.ref b]) ∧ H b = some (.tup (k.2.map kV))
theorem sU {P:Program} {w:World} {H:Hp} {h:Heap} {a:Addr} {k:Key × List Key} (ok:fF P w H h) (e:m5 H k a):bE P w h k a:=by
 obtain ⟨b,e1,e2⟩:=e
 obtain ⟨_,its,r,o,h1,h2,n,h3⟩:=(show bX P w H h a (.tup [kV k.1,.ref b]) from ok a _ e1)
 obtain ⟨u,v,rfl,ru,rv⟩:=sP r
 obtain rfl:v = Value.ref b:=rv
 exact ⟨o,n,u,b,h1,h2,h3,jP ru,iq ok e2⟩
abbrev NK:=Key × List Key
def zK (P:Program) (w:World) (a:Addr) (xs:List (NK × Addr × Value)):HO:=.ext fun h=>(a == sysModules) = false ∧ ∃ o es ep,h.get? a = some o ∧ o.ExactDict ∧ o.data = .dict es ep ∧ es.toList = xs.map (entryOfKey (n6 P w)) ∧ (xs.map (·.1)).Nodup
def KN (H:Hp) (kvs:List (NK × V)) (xs:List (NK × Addr × Value)):Prop:=Paired (fun (p:NK × V) (q:NK × Addr × Value)=>p.1 = q.1 ∧ m5 H q.1 q.2.1 ∧ RelV p.2 q.2.2) kvs xs
def DN (P:Program) (w:World) (H:Hp) (a:Addr) (kvs:List (NK × V)):Prop:=∃ xs,H a = some (zK P w a xs) ∧ KN H kvs xs ∧ kvs.length ≤ 1000
theorem m5.keep {H H':Hp} {k:NK} {a:Addr} (h:m5 H k a) (f:∀ b ys,H b = some (.tup ys) → H' b = some (.tup ys)):m5 H' k a:=let ⟨b,e1,e2⟩:=h; ⟨b,f _ _ e1,f _ _ e2⟩
theorem KN.keep {H H':Hp} {kvs:List (NK × V)} {xs:List (NK × Addr × Value)} (h:KN H kvs xs) (f:∀ b ys,H b = some (.tup ys) → H' b = some (.tup ys)):KN H' kvs xs :=
 Paired.eJ h fun _ _ z=>⟨z.1,z.2.1.keep f,z.2.2⟩
theorem DN.same {P:Program} {w:World} {H H':Hp} {a:Addr} {kvs:List (NK × V)} (d:DN P w H a kvs) (s:aI H H'):DN P w H' a kvs:=let ⟨xs,e,k,l⟩:=d; ⟨xs,s _ _ e,k.keep fun b ys q=>s _ _ q,l⟩
theorem DN.new {P:Program} {w:World} {H:Hp} {a:Addr}:DN P w (upd H a (zK P w a [])) a []:=⟨[],aC,.nil,Nat.zero_le _⟩
theorem KN.val {H:Hp} {kvs:List (NK × V)} {xs:List (NK × Addr × Value)} (h:KN H kvs xs) (k:NK):(bg kvs k).isSome = (atKey xs k).isSome:=by
 induction h with
 | nil=>rfl
 | @cons p q ps qs e t ih =>
  obtain ⟨q1,q2⟩:=q
  have e1:p.1 = q1:=e.1
  by_cases z:p.1 = k
  ·rw [bO z]
   unfold atKey
   rw [List.find?_cons_of_pos (by simp [← e1,z])]
   rfl
  ·rw [bC z,ih]
   unfold atKey
   rw [List.find?_cons_of_neg (by simp [← e1,z])]
theorem DN.at {P:Program} {w:World} {H:Hp} {h:Heap} {a:Addr} {kvs:List (NK × V)} (ok:fF P w H h) (d:DN P w H a kvs):∃ xs,KN H kvs xs ∧ h.DictOfH (n6 P w) a xs ∧ (a == sysModules) = false ∧ H a = some (zK P w a xs) ∧ kvs.length ≤ 1000:=by
 obtain ⟨xs,e,kn,l⟩:=d
 obtain ⟨⟨hs,o,es,ep,h1,h2,h3,h4,h5⟩,_⟩:=ok a _ e
 refine ⟨xs,kn,⟨o,es,ep,h1,h2,h3,h4,fun x hx=>?_,h5⟩,hs,e,l⟩
 have all:∀ {l:List (NK × V)} {m:List (NK × Addr × Value)},KN H l m → ∀ x ∈ m,bE P w h x.1 x.2.1:=by
  intro l m q
  induction q with
  | nil=>intro x hx; exact nomatch hx
  | @cons p q ps qs hq t ih =>
   intro x hx
   rcases List.mem_cons.mp hx with e | hx
   ·subst e
    exact sU ok hq.2.1
   ·exact ih x hx
 exact all kn x hx
section
variable {X:Cx}
end
end L2
namespace L2
open PySem PySem.Spec PyProof.Rows
section
variable {X:Cx}
end
end L2
namespace L2
open PySem PySem.Spec PyProof.Rows
section
variable {X:Cx}
end
end L2
namespace L2
open PySem PySem.Spec PyProof.Rows
section
variable {X:Cx}
end
end L2
namespace L2
open PySem PySem.Spec PyProof.Rows
@[irreducible] def zP (X:Cx) (e:Expr) (t:TE):Prop :=
 ∀ (pins:List (Addr × Obj)) (s:Shared) (σ:St) (H:Hp) (Q:VK),0 < s.toks → Inv X pins σ H s → t σ H Q → wpAny (model X.prog X.w) X.A (eval e X.env) (EP X pins σ Q) X.xe s
@[irreducible] def zR (X:Cx) (es:List Expr) (t:TA):Prop :=
 ∀ (pos:Pos) (pins:List (Addr × Obj)) (s:Shared) (σ:St) (H:Hp) (Q:List V → Hp → Prop),0 < s.toks → Inv X pins σ H s → t σ H Q → wpAny (model X.prog X.w) X.A (spliced (backTo pos (starEach es X.env))) (AP X pins σ Q) X.xe s
section
variable {X:Cx} {e o a:Expr} {es:List Expr} {te to ta tb:TE} {t:TA} {pos:Pos}
theorem PE.p (h:PE X e te):zP X e te:=by
 unfold PE at *
 exact by
  unfold zP
  exact fun pins s σ H Q _=>h pins s σ H Q
theorem PA.p (h:PA X es t):zR X es t:=by
 unfold PA at *
 exact by
  unfold zR
  exact fun pos pins s σ H Q _=>h pos pins s σ H Q
end
section
open Builtin Builtin.Str
end
section
variable {X:Cx} {o:Expr} {to:TE} {apos cpos:Pos}
end
end L2
namespace L2
open PySem PySem.Spec PyProof.Rows
end L2
namespace L2
open PySem PySem.Spec PyProof.Rows
structure Hand (P:Program) (w:World) (i l:Addr) (St:Nat → Heap → Prop) (xs:Array Value):Prop where
 keep:∀ k h h',St k h → (∀ o,h.get? i = some o → h'.get? i = some o) → (∀ o,h.get? l = some o → h'.get? l = some o) → St k h'
 item:∀ (A:Around) (E:Value → Shared → Prop) k x (s:Shared) (Q:Value → Shared → Prop),St k s.heap → xs[k]? = some x → (∀ h',St (k + 1) h' → Heap.SameBut i s.heap h' → Q x { s with heap:=h' }) → wpAny (model P w) A (Builtin.SmallTypes.nextOf (.ref i)) Q E s
 stop:∀ (A:Around) (E:Value → Shared → Prop) k (s:Shared) (Q:Value → Shared → Prop),A.handled = none → St k s.heap → xs[k]? = none → (∀ h' e,Heap.ExtBut i s.heap h' → (∃ o,h'.get? e = some o ∧ o.cls = .type "StopIteration") → E (.ref e) { s with heap:=h' }) → wpAny (model P w) A (Builtin.SmallTypes.nextOf (.ref i)) Q E s
theorem Hand.list {P:Program} {w:World} (i l:Addr) (n:i ≠ l) (xs:Array Value):Hand P w i l (fun k h=>h.IsListIter i l k ∧ h.IsList l xs) xs where
 keep:=fun k h h' st a b=>⟨st.1.at a,st.2.at b⟩
 item:=fun A E k x s Q st hx hQ=>wpAny_nextOf_list_item st.1 st.2 hx fun h' a b=>hQ h' ⟨a,st.2.extBut b.extBut n.symm⟩ b
 stop:=fun A E k s Q hh st hx hE=>wpAny_nextOf_list_end hh st.1 st.2 hx hE
section
variable {P:Program} {w:World} {A:Around} {E:Value → Shared → Prop} {s:Shared}
theorem oA {it t:Addr} {i:Nat} {its:Array Value} {Q:Value → Shared → Prop} (hit:s.heap.IsTupleIter it t i) (ht:s.heap.IsTuple t its)
  (h:match its[i]? with
   | some x=>∀ h',h'.IsTupleIter it t (i + 1) → Heap.SameBut it s.heap h' → Q x { s with heap:=h' }
   | none=>A.handled = none ∧ ∀ h' e,Heap.ExtBut it s.heap h' → (∃ o,h'.get? e = some o ∧ o.cls = .type "StopIteration") → E (.ref e) { s with heap:=h' }) :
  wpAny (model P w) A (Builtin.SmallTypes.nextOf (.ref it)) Q E s:=by
 obtain ⟨o,ho,hc,hd⟩:=id hit
 obtain ⟨ol,hol,_,nl,hdl⟩:=ht
 have ne:¬ (Value.ref t == Value.none) = true:=Bool.false_ne_true
 unfold Builtin.SmallTypes.nextOf
 refine wpAny_bind (wpAny_callSpecial?_slot (name:=Str.ofString "__next__") hit.typeIs F.slot_tuple_iterator_next (wpAny_call_entry F.slot_tuple_iterator_next hit.typeIs F.entry_tuple_iterator_next ?_ (F.args_tuple_iterator_next_1 _)))
 refine (show wpAny _ _ (field (.ref it) 0 >>= _) _ _ s from wpAny_bind (wpAny_field ho hd (x:=.ref t) rfl ((if_neg ne).symm ▸ (show wpAny _ _ (field (.ref it) 1 >>= _) _ _ s from wpAny_bind (wpAny_field ho hd (x:=.int i 0) rfl (show wpAny _ _ (seqItems? (.ref t) >>= _) _ _ s from wpAny_bind (wpAny_seqItems hol hdl ?_)))))))
 cases hx:its[i]? with
 | some x =>
  rw [hx] at h
  simp only [Int.toNat_natCast,hx]
  refine wpAny_bind (wpAny_setField ho hd (by simp) (wpAny_pure ⟨x,rfl,wpAny_pure (h _ ⟨_,Heap.get?_update_self _ ho (Obj.isFreed_of_fields (Obj.data_mapFields hd _)),(Obj.cls_mapFields ..).trans hc,?_⟩ (Heap.SameBut.update ..))⟩))
  rw [Obj.data_mapFields hd]; simp [rawInt]
 | none =>
  rw [hx] at h
  simp only [Int.toNat_natCast,hx]
  refine wpAny_bind (wpAny_rule (wpAny_bind (wpAny_setField ho hd (by simp) (show wpAny _ _ (newExc (.type "StopIteration") [] >>= _) _ _ _ from wpAny_bind ?_))))
  simp only [newExc,newTuple]
  refine wpAny_bind (wpAny_newObj_type (wpAny_bind (m:=firstArgMember _ _) (wpAny_of_eq (a:=Value.none) (by first | rfl | (simp only [firstArgMember]; rfl)) (wpAny_newObj_type ?_ (by size_fits)))) (by size_fits))
  simp only [raiseNew]
  refine wpAny_bind (wpAny_handled ?_)
  rw [show A.in1.handled = none from h.1]
  exact wpAny_bind (wpAny_pure (wpAny_throw (h.2 _ _ (((Heap.SameBut.update ..).extBut.push _).push _) ⟨_,Heap.get?_push_size _ rfl,rfl⟩)))
end
theorem Hand.tup {P:Program} {w:World} (i t:Addr) (n:i ≠ t) (xs:Array Value):Hand P w i t (fun k h=>h.IsTupleIter i t k ∧ h.IsTuple t xs) xs where
 keep:=fun k h h' st a b=>⟨st.1.at a,st.2.at b⟩
 item:=fun A E k x s Q st hx hQ=>oA st.1 st.2 (by rw [hx]; exact fun h' a b=>hQ h' ⟨a,st.2.extBut b.extBut n.symm⟩ b)
 stop:=fun A E k s Q hh st hx hE=>oA st.1 st.2 (by rw [hx]; exact ⟨hh,hE⟩)
section
variable {P:Program} {w:World} {A:Around} {E:Value → Shared → Prop} {s:Shared} {z TI TO i1 i2 l1 l2:Addr} {S1 S2:Nat → Heap → Prop} {xs ys:Array Value} {k:Nat} {a b:Value}
end
end L2
namespace L2
open PySem PySem.Spec PyProof.Rows
section
variable {X:Cx} {a b e:Expr} {ta tb te:TE} {es:List Expr} {t:TA} {pos:Pos} {st st2:Stmt} {rest:List Stmt} {t1 t2 u:TS}
end
end L2
namespace L2
open PySem PySem.Spec PyProof.Rows
section
variable {X:Cx}
theorem du.f {H:Hp} {a:Addr} {o:Obj} {kvs:List (Key × V)} {k:Key} (e:H a = some (.frz o (.dK kvs))):du H a (kV k) (bg kvs k):=.inl ⟨kvs,k,.inr ⟨o,e⟩,rfl,rfl⟩
end
end L2
namespace HT
open PySem PySem.Spec PyProof.Rows
section
variable {prog:Program} {w:World} {A:Around} {E:Value → Shared → Prop} {s:Shared}
end
end HT
namespace L2
open PySem PySem.Spec PyProof.Rows
section
variable {X:Cx}
end
end L2
namespace L2
open PySem PySem.Spec PyProof.Rows
section
variable {prog:Program} {w:World} {A:Around} {R:Result → Shared → Prop} {I S:Addr} {fp wr:List Addr} {n:Nat} {P:Nat → Value → Prop} {St:Nat → Heap → Prop} {kw:List (Str × Value)} {bt:Nat → Nat → Bool}
theorem jc:(toString "max" ++ toString ".loop" : String) = "max.loop" := by decide
theorem uS (hf:S ∉ fp) (W:Walks prog w A.in1 I fp wr n P St) (hc:CmpOf prog w A.in1 .Gt P bt):∀ (k j:Nat) (s:Shared) (vb:Value) (c:Nat),j + 1 + k = n → s.heap.get? S = some { cls:=.type "list",dict:=none,data:=.seq #[vb,vb] c,slots:=#[] } → P (argBest bt j) vb → St (j + 1) s.heap →
  (∀ v h' tk,(∀ b o,b ≠ S → b ∉ wr → s.heap.get? b = some o → h'.get? b = some o) → P (argBest bt (n - 1)) v → R (.ok (.ret v)) { s with heap:=h',toks:=tk }) → codeAny (model prog w) A (.builtin "max.loop" ⟨[.ref I,.none,.ref S],kw⟩) R s:=by
 have nw:S ∉ wr:=fun h=>hf (W.sub _ h)
 intro k
 induction k with
 | zero =>
  intro j s vb c e hS hb st hR
  refine codeAny_builtin F.entry_max_loop (by
   rw [Around.under_plainId F.plain_max_loop _]
   show wpAny _ A.in1 (seqItems? (.ref S) >>= _) _ _ s
   refine wpAny_bind (wpAny_seqItems hS rfl (show wpAny _ A.in1 (tryCatch (pyNext (.ref I)) _ >>= _) _ _ s from wpAny_bind (wpAny_tryCatch (W.done s _ _ (e ▸ st) fun h' tk hk=>?_))))
   show wpAny _ A.in1 (updateSeq S (fun _=>#[]) >>= _) _ _ _
   exact wpAny_bind (wpAny_updateSeq (hk S _ nw hS) rfl (wpAny_bind (wpAny_letGo (wpAny_pure (hR vb _ tk (fun b o nb hw q=>(Heap.get?_update_other _ _ (Ne.symm nb)).trans (hk b o hw q)) (by rw [← e]; exact hb)))))))
 | succ k ih =>
  intro j s vb c e hS hb st hR
  refine codeAny_builtin F.entry_max_loop (by
   rw [Around.under_plainId F.plain_max_loop _]
   show wpAny _ A.in1 (seqItems? (.ref S) >>= _) _ _ s
   refine wpAny_bind (wpAny_seqItems hS rfl (show wpAny _ A.in1 (tryCatch (pyNext (.ref I)) _ >>= _) _ _ s from wpAny_bind (wpAny_tryCatch (W.item (j + 1) s _ _ (by omega) st fun v h' tk hv st' hk=>?_))))
   show wpAny _ A.in1 (tryCatch (holding [v,v] (richCompare .Gt v vb >>= _)) _ >>= _) _ _ _
   refine wpAny_bind (wpAny_tryCatch (wpAny_holding (wpAny_bind (hc (j + 1) (argBest bt j) v vb _ _ _ hv hb (wpAny_bind (wpAny_holding (wpAny_truthy_bool (wpAny_bind (wpAny_letGo (wpAny_pure ?_))))))))))
   have hS':=hk S _ nw hS
   by_cases q:bt (j + 1) (argBest bt j) = true
   ·rw [if_pos q]
    refine wpAny_bind (wpAny_updateSeq hS' rfl (wpAny_bind (wpAny_letGo ?_)))
    rw [jc]
    refine wpAny_pure ⟨plainId_quiet F.plain_max_loop _,ih (j + 1) _ v _ (by omega) (Heap.get?_update_self _ hS' rfl) (by simp only [argBest,q,if_true]; exact hv) (W.frame _ _ _ st' fun b hbf o z=>(Heap.get?_update_other _ _ (fun h:S = b=>hf (by rw [h]; exact hbf))).trans z) fun v' h'' tk'' hk'' hv'=>?_⟩
    exact hR v' h'' tk'' (fun b o nb hw z=>hk'' b o nb hw ((Heap.get?_update_other _ _ (Ne.symm nb)).trans (hk b o hw z))) hv'
   ·rw [if_neg q]
    refine wpAny_bind (wpAny_letGo ?_)
    rw [jc]
    exact wpAny_pure ⟨plainId_quiet F.plain_max_loop _,ih (j + 1) _ vb c (by omega) hS' (by simp only [argBest,q]; exact hb) st' fun v' h'' tk'' hk'' hv'=>hR v' h'' tk'' (fun b o nb hw z=>hk'' b o nb hw (hk b o hw z)) hv'⟩)
theorem rT {s:Shared} {c:Nat} (hf:S ∉ fp) (W:Walks prog w A.in1 I fp wr n P St) (hc:CmpOf prog w A.in1 .Gt P bt) (hn:0 < n) (hS:s.heap.get? S = some { cls:=.type "list",dict:=none,data:=.seq #[] c,slots:=#[] }) (st:St 0 s.heap)
  (hR:∀ v h' tk,(∀ b o,b ≠ S → b ∉ wr → s.heap.get? b = some o → h'.get? b = some o) → P (argBest bt (n - 1)) v → R (.ok (.ret v)) { s with heap:=h',toks:=tk }):codeAny (model prog w) A (.builtin "max.loop" ⟨[.ref I,.none,.ref S],kw⟩) R s:=by
 have nw:S ∉ wr:=fun h=>hf (W.sub _ h)
 refine codeAny_builtin F.entry_max_loop (by
  rw [Around.under_plainId F.plain_max_loop _]
  show wpAny _ A.in1 (seqItems? (.ref S) >>= _) _ _ s
  refine wpAny_bind (wpAny_seqItems hS rfl (show wpAny _ A.in1 (tryCatch (pyNext (.ref I)) _ >>= _) _ _ s from wpAny_bind (wpAny_tryCatch (W.item 0 s _ _ hn st fun v h' tk hv st' hk=>?_))))
  have hS':=hk S _ nw hS
  show wpAny _ A.in1 (updateSeq S (fun _=>#[v,v]) >>= _) _ _ _
  refine wpAny_bind (wpAny_updateSeq hS' rfl ?_)
  rw [jc]
  refine wpAny_pure ⟨plainId_quiet F.plain_max_loop _,uS hf W hc (n - 1) 0 _ v _ (by omega) (Heap.get?_update_self _ hS' rfl) hv (W.frame _ _ _ st' fun b hbf o z=>(Heap.get?_update_other _ _ (fun h:S = b=>hf (by rw [h]; exact hbf))).trans z) fun v' h'' tk'' hk'' hv'=>?_⟩
  exact hR v' h'' tk'' (fun b o nb hw z=>hk'' b o nb hw ((Heap.get?_update_other _ _ (Ne.symm nb)).trans (hk b o hw z))) hv')
theorem uw {s:Shared} {c:Nat} {x:Str} {d:Value} (hf:S ∉ fp) (W:Walks prog w A.in1 I fp wr 0 P St) (hS:s.heap.get? S = some { cls:=.type "list",dict:=none,data:=.seq #[] c,slots:=#[] }) (st:St 0 s.heap)
  (hR:∀ h' tk,(∀ b o,b ≠ S → b ∉ wr → s.heap.get? b = some o → h'.get? b = some o) → R (.ok (.ret d)) { s with heap:=h',toks:=tk }):codeAny (model prog w) A (.builtin "max.loop" ⟨[.ref I,.none,.ref S],[(x,d)]⟩) R s:=by
 refine codeAny_builtin F.entry_max_loop (by
  rw [Around.under_plainId F.plain_max_loop _]
  show wpAny _ A.in1 (seqItems? (.ref S) >>= _) _ _ s
  refine wpAny_bind (wpAny_seqItems hS rfl (show wpAny _ A.in1 (tryCatch (pyNext (.ref I)) _ >>= _) _ _ s from wpAny_bind (wpAny_tryCatch (W.done s _ _ st fun h' tk hk=>?_))))
  exact wpAny_bind (wpAny_rule (wpAny_pure (hR h' tk fun b o _ hw q=>hk b o hw q))))
end
theorem qm (a d:Value):argsOk "max" ⟨[a],[(Str.ofString "default",d)]⟩:=by unfold argsOk; kernel_rfl
section
variable {prog:Program} {w:World} {A:Around} {E:Value → Shared → Prop} {s:Shared}
theorem rQ {l:Addr} {xs:Array (Int × Tok)} {d:Value} {Q:Value → Shared → Prop} (hh:A.handled = none) (hl:s.heap.IsList l (intItems xs))
  (h1:∀ M t h' tk,(∀ b o,s.heap.get? b = some o → h'.get? b = some o) → M ∈ xs.toList.map (·.1) → (∀ a ∈ xs.toList.map (·.1),a ≤ M) → Q (.int M t) { s with heap:=h',toks:=tk })
  (h2:xs.size = 0 → ∀ h' tk,(∀ b o,s.heap.get? b = some o → h'.get? b = some o) → Q d { s with heap:=h',toks:=tk }):wpAny (model prog w) A (call (.builtin "max") [.ref l] [(Str.ofString "default",d)]) Q E s:=by
 refine kmb_tree F.kind_max F.plain_max F.entry_max (qm _ _) ?_
 show wpAny _ A.in1 (Builtin.Builtins.bindParams "max" ["key", "default"] 0 ⟨[],[(Str.ofString "default",d)]⟩ >>= _) _ _ s
 refine wpAny_bind (wpAny_of_eq (show Builtin.Builtins.bindParams "max" ["key", "default"] 0 ⟨[],[(Str.ofString "default",d)]⟩ = pure [none,some d] from rfl) (wpAny_bind (wpAny_pure (wpAny_bind (iter_intList (A:=A.in1) hl fun s₂ e st hfp hlI=>?_)))))
 refine wpAny_bind (wpAny_newObj_type ?_)
 rw [jc]
 have hf:s₂.heap.objs.size ∉ [_,l]:=fun hm=>Nat.lt_irrefl _ (hfp _ hm)
 have W:=Walks.list (prog:=prog) (w:=w) (A:=A.in1) hh _ l hlI (intItems xs)
 have st':=W.frame 0 _ (s₂.heap.push { cls:=.type "list",data:=.seq #[] }) st fun b _ o e=>Heap.get?_push_of_some _ e
 have kp:∀ {h':Heap},(∀ b o,b ≠ s₂.heap.objs.size → b ∉ [s.heap.objs.size] → (s₂.heap.push { cls:=.type "list",data:=.seq #[] }).get? b = some o → h'.get? b = some o) → ∀ b o,s.heap.get? b = some o → h'.get? b = some o:=fun hk b o q=>by
  have q2:s₂.heap.get? b = some o:=by rw [e]; exact Heap.get?_push_of_some _ q
  exact hk b o (Nat.ne_of_lt (Heap.lt_size q2)) (fun hm=>Nat.lt_irrefl _ (by have:=Heap.lt_size q; rw [List.mem_singleton.mp hm] at this; exact this)) (Heap.get?_push_of_some _ q2)
 by_cases hn:0 < xs.size
 ·refine wpAny_pure ⟨plainId_quiet F.plain_max_loop _,rT hf W (CmpOf.ints_gt (numAt xs) fun _ _=>intItems_at) (by simpa [intItems] using hn) (Heap.get?_push_size _ rfl) st' fun v h' tk hk hv=>?_⟩
  have hv:(intItems xs)[argBest (fun i j=>decide (numAt xs i > numAt xs j)) (xs.size - 1)]? = some v:=by simpa [intItems] using hv
  obtain ⟨t,rfl⟩:=intItems_at hv
  obtain ⟨g1,g2⟩:=argBest_gt (numAt xs) (xs.size - 1)
  have:=h1 (numAt xs (argBest (fun i j=>decide (numAt xs i > numAt xs j)) (xs.size - 1))) t h' tk (kp hk) (by rw [numAt_eq]; exact getD_mem (by rw [List.length_map,Array.length_toList]; omega)) fun a ha=>by
   obtain ⟨j,hj,rfl⟩:=mem_getD ha
   rw [List.length_map,Array.length_toList] at hj
   rw [← numAt_eq]
   exact g2 j (by omega)
  rw [e] at *
  exact this
 ·have z:(intItems xs).size = 0:=by
   have:(intItems xs).size = xs.size:=by simp [intItems]
   omega
  rw [z] at W
  refine wpAny_pure ⟨plainId_quiet F.plain_max_loop _,uw hf W (Heap.get?_push_size _ rfl) st' fun h' tk hk=>?_⟩
  have:=h2 (by omega) h' tk (kp hk)
  rw [e] at *
  exact this
end
def yK (K:PySem.W.Frag) (t tk:TA):TE:=fun σ H Q=>t σ H fun xs H1=>tk σ H1 fun ys H2=>∃ (a:Addr) (ns:List Int) (i:Int),xs = [.ref a] ∧ ys = [.int i] ∧ aj K H2 a (ns.map V.int) ∧ (ns = [] → Q (.int i) H2) ∧ ∀ m,m ∈ ns → (∀ z ∈ ns,z ≤ m) → Q (.int m) H2
theorem uV {X:Cx} {x:Str} {p pos kp:Pos} {e k:Expr} {t tk:TA} (hc:X.calm = true) (hg:Gl X x) (hm:X.mg x = none) (hv:bootBuiltins x = some (.builtin "max")) (ha:PA X [e] t) (hkw:PK X [⟨some "default",k,kp⟩] tk) (hn:x ≠ "__name__" := by decide) (hdb:(x == ("__debug__" : Str)) = false:=by decide)
  (he:backTo pos (starEach [e] X.env) = (false,eval e X.env) :: backTo pos (starEach [] X.env):=by rfl) (hpl:(backTo pos (starEach [e] X.env)).any (·.1) = false:=by rfl):PE X (.Call (.Name x p) [e] [⟨some "default",k,kp⟩] pos) (yK X.K t tk):=by
 unfold PE at *; unfold PA at *; unfold PK at *
 exact by
  intro pins s σ H Q I h
  refine wpAny_Call_Name_kw (iK I hg hm hv (callWith_kw (bQ (ha pos pins s σ H _ I h) fun us s1 ⟨vs,H1,I1,r1,q1⟩=>bQ (hkw pos pins s1 σ H1 _ I1 q1) fun ws s2 ⟨zs,H2,I2,rz,q2⟩=>?_) he hpl) hn hdb)
  obtain ⟨a,ns,i,rfl,rfl,hq,k1,k2⟩:=q2
  obtain ⟨u,rfl,ru⟩:=vals1 r1
  cases ru
  obtain ⟨v,rfl,rv⟩:=vals1 rz
  obtain ⟨tv,rfl⟩:=rv
  obtain ⟨its,rl,pl,hz⟩:=I2.list hq
  have hi:IntsAre its.toArray.toList ns:=intsAre_of rl
  obtain ⟨xs,e1⟩:=hi.allInts.items
  have hl:=pl.isList
  have en:xs.toList.map (·.1) = ns:=by
   have:=hi.numsOf
   rw [e1,nums_intItems] at this
   exact this
  rw [e1] at hl
  show wpAny _ X.A (call (.builtin "max") [.ref a] [(Str.ofString "default",.int i tv)]) _ _ s2
  refine rQ (I2.ok.hd hc) hl (fun M t h' tk hk hM ha=>⟨.int M,H2,I2.kept (t':=tk) hk,⟨t,rfl⟩,k2 M (en ▸ hM) (en ▸ ha)⟩) fun h0 h' tk hk=>⟨.int i,H2,I2.kept (t':=tk) hk,⟨tv,rfl⟩,k1 ?_⟩
  rw [← en,List.map_eq_nil_iff]
  exact List.eq_nil_of_length_eq_zero (by rw [Array.length_toList]; exact h0)
end L2
set_option maxHeartbeats 200000
namespace My
open PySem L2
local macro_rules | `(tactic| walk_at "rd")=>`(tactic| repeat (first
 | refine ⟨_,rfl,?_⟩
 | refine ⟨_,_,rfl,rfl,?_⟩
 | refine ⟨_,_,rfl,?_⟩
 | refine ⟨(by show (0:Int) < _; decide),?_⟩
 | refine ⟨(⟨by decide,by decide⟩:xj _ _),?_⟩
 | refine ⟨(⟨by decide,by decide⟩:vi _ _),?_⟩
 | refine ⟨(⟨by decide,by decide,by decide⟩:xi _ _),?_⟩
 | refine ⟨(.inr ⟨by decide,by decide⟩:tE _ _),?_⟩
 | refine ⟨(.inl ⟨by decide,by decide⟩:tE _ _),?_⟩
 | refine ⟨Own.int,?_⟩
 | refine ⟨Own.bl,?_⟩
 | refine ⟨Own.str,?_⟩
 | refine ⟨Own.ax,?_⟩
 | refine ⟨rfl,?_⟩))
def zm:V → Bool
 | .int _=>true
 | _=>false
def inR (m:Int):V → Bool
 | .int i=>decide (1 ≤ i) && decide (i ≤ m)
 | _=>false
def zV (K:W.Frag):Sp:=fun vs H Q _=>∃ x,vs = [x] ∧ Own K H x ∧ Q (.bl (zm x)) H
def zW (K:W.Frag) (m:Int):Sp:=fun vs H Q _=>∃ x,vs = [x] ∧ Own K H x ∧ Q (.bl (inR m x)) H
def tI:List V:=[.str "genus",.str "species",.str "form"]
def bp (c:Nat):Bool:=decide (97 ≤ c) && decide (c ≤ 122)
def isWord:V → Bool
 | .str z=>(decide (1 ≤ (z.length:Int)) && decide ((z.length:Int) ≤ 12)) && z.cps.toList.all bp
 | _=>false
theorem ei (z:Str):isWord (.str z) = ((decide (1 ≤ (z.length:Int)) && decide ((z.length:Int) ≤ 12)) && z.cps.toList.all bp):=rfl
def de:V → Bool
 | .str z=>pe (.str z) tI
 | _=>false
def fits:V → Prop
 | .str z=>z.length ≤ sizeLine
 | _=>True
def xC (K:W.Frag):Sp:=fun vs H Q _=>∃ x,vs = [x] ∧ Own K H x ∧ fits x ∧ ∀ H',aI H H' → Q (.bl (isWord x)) H'
def wO (K:W.Frag):Sp:=fun vs H Q _=>∃ x,vs = [x] ∧ Own K H x ∧ Q (.bl (de x)) H
theorem sC (a c:Nat):(!decide ((⟨#[c]⟩:Str).cps.toList < (⟨#[a]⟩:Str).cps.toList)) = decide (a ≤ c):=by
 have e:((⟨#[c]⟩:Str).cps.toList < (⟨#[a]⟩:Str).cps.toList) ↔ c < a:=by
  show [c] < [a] ↔ c < a
  rw [List.cons_lt_cons_iff]
  simp
 by_cases h:c < a
 ·rw [decide_eq_true (e.mpr h),decide_eq_false (by omega)]; rfl
 ·rw [decide_eq_false (fun z=>h (e.mp z)),decide_eq_true (by omega)]; rfl
theorem zM (c:Nat):(!decide ((⟨#[c]⟩:Str).cps.toList < (Str.ofString "a").cps.toList)) = decide (97 ≤ c):=sC 97 c
theorem yb (c:Nat):(!decide ((Str.ofString "z").cps.toList < (⟨#[c]⟩:Str).cps.toList)) = decide (c ≤ 122):=sC c 122
theorem take_one {α:Type} {l:List α} {i:Nat} {x:α} (h:l[i]? = some x):l.take (i + 1) = l.take i ++ [x]:=by
 rw [List.take_succ,h]; rfl
def bD (r u:V):Bool:=if r = .str "genus" then decide (u = .ax) else inR 1000000000 u
def bR (r s b:V):Bool:=if b = .ax then inR 1000000000 s else (!decide (r = .str "genus")) && (decide (s = .ax) && inR 1000000000 b)
def eh (n d r w:V):Nat:=if inR 1000000000 n = false then 1 else if inR 1000000 d = false then 2 else if de r = false then 3 else if isWord w = false then 4 else 0
def why (n d r w u s b:V):Nat:=if eh n d r w ≠ 0 then eh n d r w else if bD r u = false then 5 else if bR r s b = false then 5 else 0
set_option genInjectivity false in
set_option genSizeOfSpec false in
set_option genSizeOf false in
structure Ex where
 c1:Addr
 c2:Addr
 c3:Addr
 c4:Addr
 c5:Addr
def Ex.at (x:Ex):Nat → Addr
 | 1=>x.c1
 | 2=>x.c2
 | 3=>x.c3
 | 4=>x.c4
 | _=>x.c5
def vo (K:W.Frag) (x:Ex):Sp:=fun vs H Q E=>∃ n d r w,vs = [n,d,r,w] ∧ Own K H n ∧ Own K H d ∧ Own K H r ∧ Own K H w ∧ fits w ∧
 ∀ H',aI H H' → (eh n d r w = 0 → Q .ax H') ∧ (eh n d r w ≠ 0 → E (.ref (x.at (eh n d r w))) none H')
def uh (K:W.Frag):Sp:=fun vs H Q _=>∃ z u,vs = [.str z,u] ∧ Own K H u ∧ Q (.bl (bD (.str z) u)) H
def yN (K:W.Frag):Sp:=fun vs H Q _=>∃ z s b,vs = [.str z,s,b] ∧ Own K H s ∧ Own K H b ∧ Q (.bl (bR (.str z) s b)) H
def fields (n d r w u s b k:V):List (Str × V):=[("number",n),("day",d),("rank",r),("word",w),("under",u),("sheet",s),("base",b),("described",k)]
def wD (K:W.Frag) (C:Addr) (x:Ex):Sp:=fun vs H Q E=>∃ a dx n d r w u s b k,vs = [.ref a,n,d,r,w,u,s,b,k] ∧ H a = some (.ins C dx []) ∧ Own K H n ∧ Own K H d ∧ Own K H r ∧ Own K H w ∧ fits w ∧ Own K H u ∧ Own K H s ∧ Own K H b ∧
 ∀ H',aI H H' → (why n d r w u s b = 0 → Q .ax (upd H' a (.ins C dx (fields n d r w u s b k)))) ∧ (why n d r w u s b ≠ 0 → E (.ref (x.at (why n d r w u s b))) none H')
theorem aI.upd {H H':Hp} {p:Addr} {o:HO} (e:aI H H') (h:H p = none):aI H (L2.upd H' p o):=fun b u q=>by
 rw [aH (aK q h)]
 exact e b u q
theorem pk (u:V):bD (.str "genus") u = decide (u = .ax):=by unfold bD; rw [if_pos rfl]
theorem pY {z:Str} (h:z ≠ "genus") (u:V):bD (.str z) u = inR 1000000000 u:=by unfold bD; rw [if_neg (fun q=>h (V.str.inj q))]
theorem rG (r s:V):bR r s .ax = inR 1000000000 s:=by unfold bR; rw [if_pos rfl]
theorem xY {b:V} (r s:V) (h:b ≠ .ax):bR r s b = ((!decide (r = .str "genus")) && (decide (s = .ax) && inR 1000000000 b)):=by unfold bR; rw [if_neg h]
theorem aI.made {H:Hp} {x dx:Addr} {o o':HO} (h1:H x = none) (h2:H dx = none) (ne:dx ≠ x):aI H (L2.upd (L2.upd H dx o) x o'):=fun b u q=>by
 rw [aH (aK q h1),aH (aK q h2)]
 exact q
structure En where
 n:Int
 d:Int
 r:Str
 w:Str
 u:Option Int
 s:Option Int
 b:Option Int
 k:Bool
def cH:Option Int → V
 | none=>.ax
 | some i=>.int i
def cM (e:En):List (Str × V):=fields (.int e.n) (.int e.d) (.str e.r) (.str e.w) (cH e.u) (cH e.s) (cH e.b) (.bl e.k)
def cG (H:Hp) (C:Addr) (v:V) (e:En):Prop:=∃ a dx,v = .ref a ∧ H a = some (.ins C dx (cM e))
def iE (e:En):Prop:=why (.int e.n) (.int e.d) (.str e.r) (.str e.w) (cH e.u) (cH e.s) (cH e.b) = 0
def eG (x y:En):Bool:=HT.lexLt [x.d,x.n] [y.d,y.n]
theorem cG.same {H H':Hp} {C:Addr} {v:V} {e:En} (h:cG H C v e) (s:aI H H'):cG H' C v e:=let ⟨a,dx,e1,h1⟩:=h; ⟨a,dx,e1,s _ _ h1⟩
def uO (C:Addr):Sp:=fun vs H Q _=>∃ x y e f,vs = [x,y] ∧ cG H C x e ∧ cG H C y f ∧ ∀ H',aI H H' → Q (.bl (eG e f)) H'
def dB:Option En → En → Bool
 | none,_=>true
 | some l,e=>eG l e
def eI:List Int → Option En → List (Option En) → Bool
 | _,_,[]=>true
 | _,_,none :: _=>false
 | seen,last,some e :: r=>!seen.contains e.n && (dB last e && eI (seen ++ [e.n]) (some e) r)
def gR (H:Hp) (C:Addr) (ws:List V) (es:List En):Prop:=ws.length = es.length ∧ ∀ (j:Nat) v e,ws[j]? = some v → es[j]? = some e → cG H C v e
theorem gR.same {H H':Hp} {C:Addr} {ws:List V} {es:List En} (h:gR H C ws es) (s:aI H H'):gR H' C ws es:=⟨h.1,fun j v e a b=>(h.2 j v e a b).same s⟩
theorem mF (a b:Str) (f:Nat → Bool):(a ++ b).cps.toList.all f = (a.cps.toList.all f && b.cps.toList.all f):=by
 rw [Str.cps_append,Array.toList_append,List.all_append]
theorem iQ {K:W.Frag} {H:Hp} {n:Nat} {a b:Addr} {xs:List V} (ha:aj K H a xs) (hb:aj K H b []):bz K H (jK K H n) (.ref a) (.ref b) xs.isEmpty:=by
 cases xs with
 | nil=>exact .list (e:=fun _=>true) ha hb rfl fun i x y h=>(by rw [List.getElem?_nil] at h; cases h)
 | cons x r=>exact .listN ha hb (by intro z; cases z)
theorem uN (m i:Int):inR m (.int i) = (decide (1 ≤ i) && decide (i ≤ m)):=rfl
theorem cX {m i:Int} (h1:1 ≤ i) (h2:i ≤ m):inR m (.int i) = true:=by rw [uN,decide_eq_true h1,decide_eq_true h2]; rfl
def xG (K:W.Frag):Sp:=fun vs H Q _=>∃ (a:Addr) (k:Int) (ns:List Int),vs = [.ref a,.int k] ∧ 0 ≤ k ∧ aj K H a (ns.map V.int) ∧ ∀ i,Q (.int i) H
structure Rt where
 e:En
 nm:List Str
structure Rs where
 o:List (Int × Str)
 n:List (Int × Option (List Str))
 r:List Rt
def bU (R:List Rt) (n:Int):Option Rt:=R.find? fun x=>decide (x.e.n = n)
def cL (r:Str):Str:=if r = Str.ofString "species" then Str.ofString "genus" else Str.ofString "species"
def bM (R:List Rt) (e:En):Option (List Str) :=
 if e.r = Str.ofString "genus" then some [e.w] else
  match bU R (e.u.getD 0) with
  | none=>none
  | some x=>if x.e.r = cL e.r then some (x.nm ++ [e.w]) else none
def dj (R:List Rt) (nm:List Str):Str:=if R.any (fun x=>decide (x.nm = nm)) = true then Str.ofString "alike" else Str.ofString "right"
def eA (R:List Rt) (e:En) (b:Int) (nm:List Str):Str :=
 match bU R b with
 | none=>Str.ofString "baseless"
 | some x=>if x.e.r ≠ e.r ∨ x.e.b ≠ none then Str.ofString "baseless" else if x.e.w ≠ e.w then Str.ofString "reworded" else dj R nm
def eP (R:List Rt) (e:En) (nm:Option (List Str)):Str :=
 if e.b = none ∧ e.k = false then Str.ofString "undescribed" else
  match nm with
  | none=>Str.ofString "unplaced"
  | some nm=>match e.b with
   | none=>dj R nm
   | some b=>eA R e b nm
def cV (s:Rs) (e:En):Str:=eP s.r e (bM s.r e)
def bL (s:Rs) (e:En):Rs:=⟨s.o ++ [(e.n,cV s e)],s.n ++ [(e.n,bM s.r e)],if cV s e = Str.ofString "right" then s.r ++ [⟨e,(bM s.r e).getD []⟩] else s.r⟩
def av (es:List En):Rs:=es.foldl bL ⟨[],[],[]⟩
theorem fT (es:List En) (e:En):av (es ++ [e]) = bL (av es) e:=by unfold av; rw [List.foldl_append]; rfl
def cz (r:Str):Nat:=if r = Str.ofString "genus" then 1 else if r = Str.ofString "species" then 2 else 3
structure kG (s:Rs):Prop where
 nd:(s.o.map (·.1)).Nodup
 nk:s.n.map (·.1) = s.o.map (·.1)
 sub:∀ x ∈ s.r,x.e.n ∈ s.o.map (·.1)
 rn:(s.r.map (·.e.n)).Nodup
 nm:∀ x ∈ s.r,(x.e.n,some x.nm) ∈ s.n
 dp:∀ x ∈ s.r,x.nm.length = cz x.e.r
 bs:∀ x ∈ s.r,∀ b,x.e.b = some b → ∃ y,bU s.r b = some y ∧ y.e.b = none ∧ y.e.r = x.e.r ∧ y.e.w = x.e.w
 ok:∀ x ∈ s.r,iE x.e
theorem o7 {xs ys:List Int}:∀ (nd:xs.Nodup) (h:∀ x ∈ xs,x ∈ ys),xs.length ≤ ys.length:=by
 induction xs generalizing ys with
 | nil=>intro _ _; exact Nat.zero_le _
 | cons x r ih =>
  intro nd h
  rw [List.nodup_cons] at nd
  have h1:=ih (ys:=ys.erase x) nd.2 fun y hy=>(List.mem_erase_of_ne (fun z=>nd.1 (by rw [← z]; exact hy))).mpr (h y (List.mem_cons_of_mem _ hy))
  have hx:=h x (List.mem_cons_self ..)
  rw [List.length_erase_of_mem hx] at h1
  have:0 < ys.length:=List.length_pos_of_mem hx
  rw [List.length_cons]
  omega
theorem df {R:List Rt} {n:Int} {x:Rt} (h:bU R n = some x):x ∈ R ∧ x.e.n = n:=⟨List.mem_of_find?_eq_some h,of_decide_eq_true (List.find?_some (p:=fun x:Rt=>decide (x.e.n = n)) h)⟩
theorem lj {R Q:List Rt} {n:Int} {x:Rt} (h:bU R n = some x):bU (R ++ Q) n = some x:=by
 unfold bU at h ⊢
 rw [List.find?_append,h]
 rfl
theorem oW {R:List Rt} (nd:(R.map (·.e.n)).Nodup) {x:Rt} (hx:x ∈ R):bU R x.e.n = some x:=by
 induction R with
 | nil=>cases hx
 | cons y r ih =>
  rw [List.map_cons,List.nodup_cons] at nd
  unfold bU
  rcases List.mem_cons.mp hx with e | e
  ·subst e
   rw [List.find?_cons_of_pos (p:=fun y:Rt=>decide (y.e.n = x.e.n)) (decide_eq_true rfl)]
  ·have ne:y.e.n ≠ x.e.n:=fun z=>nd.1 (by rw [z]; exact List.mem_map_of_mem e)
   rw [List.find?_cons_of_neg (p:=fun y:Rt=>decide (y.e.n = x.e.n)) (by rw [decide_eq_false ne]; decide)]
   exact ih nd.2 e
theorem kQ {e:En} (h:iE e):e.r = Str.ofString "genus" ∨ e.r = Str.ofString "species" ∨ e.r = Str.ofString "form" := by
 unfold iE why at h
 by_cases h1:eh (.int e.n) (.int e.d) (.str e.r) (.str e.w) = 0
 ·unfold eh at h1
  by_cases a1:inR 1000000000 (V.int e.n) = false
  ·rw [if_pos a1] at h1; cases h1
  ·rw [if_neg a1] at h1
   by_cases a2:inR 1000000 (V.int e.d) = false
   ·rw [if_pos a2] at h1; cases h1
   ·rw [if_neg a2] at h1
    by_cases a3:de (V.str e.r) = false
    ·rw [if_pos a3] at h1; cases h1
    ·have a4:de (V.str e.r) = true:=by cases q:de (V.str e.r) with | true=>rfl | false=>exact absurd q a3
     have a5:pe (.str e.r) tI = true:=a4
     have a6:(hX (.str (Str.ofString "genus")) (.str e.r) || (hX (.str (Str.ofString "species")) (.str e.r) || (hX (.str (Str.ofString "form")) (.str e.r) || false))) = true:=a5
     simp [hX] at a6
     rcases a6 with q | q | q
     ·exact .inl q.symm
     ·exact .inr (.inl q.symm)
     ·exact .inr (.inr q.symm)
 ·rw [if_pos h1] at h
  exact absurd h h1
theorem vZ {e:En} (h:iE e) (hr:e.r ≠ Str.ofString "genus"):∃ u,e.u = some u:=by
 unfold iE why at h
 by_cases h1:eh (.int e.n) (.int e.d) (.str e.r) (.str e.w) ≠ 0
 ·rw [if_pos h1] at h; exact absurd h h1
 ·rw [if_neg h1] at h
  by_cases h2:bD (.str e.r) (cH e.u) = false
  ·rw [if_pos h2] at h; cases h
  ·rw [pY hr] at h2
   cases hu:e.u with
   | none=>rw [hu] at h2; exact absurd rfl h2
   | some u=>exact ⟨u,rfl⟩
theorem mf {e:En} (h:iE e):isWord (.str e.w) = true:=by
 unfold iE why at h
 by_cases h1:eh (.int e.n) (.int e.d) (.str e.r) (.str e.w) = 0
 ·unfold eh at h1
  cases q:isWord (V.str e.w) with
  | true=>rfl
  | false =>
   exfalso
   by_cases a1:inR 1000000000 (V.int e.n) = false
   ·rw [if_pos a1] at h1; cases h1
   ·rw [if_neg a1] at h1
    by_cases a2:inR 1000000 (V.int e.d) = false
    ·rw [if_pos a2] at h1; cases h1
    ·rw [if_neg a2] at h1
     by_cases a3:de (V.str e.r) = false
     ·rw [if_pos a3] at h1; cases h1
     ·rw [if_neg a3,if_pos q] at h1; cases h1
 ·rw [if_pos h1] at h
  exact absurd h h1
theorem gH {R:List Rt} {e:En} {nm:Option (List Str)} (h:eP R e nm = Str.ofString "right"):∃ z,nm = some z ∧ R.any (fun x=>decide (x.nm = z)) = false ∧ ∀ b,e.b = some b → ∃ y,bU R b = some y ∧ y.e.b = none ∧ y.e.r = e.r ∧ y.e.w = e.w:=by
 have al:∀ z,dj R z = Str.ofString "right" → R.any (fun x=>decide (x.nm = z)) = false:=fun z hz=>by
  unfold dj at hz
  cases q:R.any (fun x=>decide (x.nm = z)) with
  | false=>rfl
  | true=>rw [q,if_pos rfl] at hz; exact absurd hz (by decide +kernel)
 unfold eP at h
 by_cases h1:e.b = none ∧ e.k = false
 ·rw [if_pos h1] at h; exact absurd h (by decide +kernel)
 ·rw [if_neg h1] at h
  cases nm with
  | none =>
   have h:Str.ofString "unplaced" = Str.ofString "right" := h
   exact absurd h (by decide +kernel)
  | some z =>
   cases hb:e.b with
   | none =>
    rw [hb] at h
    exact ⟨z,rfl,al z h,fun b q=>nomatch q⟩
   | some b =>
    rw [hb] at h
    have h:eA R e b z = Str.ofString "right" := h
    unfold eA at h
    cases hf:bU R b with
    | none =>
     rw [hf] at h
     have h:Str.ofString "baseless" = Str.ofString "right" := h
     exact absurd h (by decide +kernel)
    | some y =>
     rw [hf] at h
     have h:(if y.e.r ≠ e.r ∨ y.e.b ≠ none then Str.ofString "baseless" else if y.e.w ≠ e.w then Str.ofString "reworded" else dj R z) = Str.ofString "right" := h
     by_cases h2:y.e.r ≠ e.r ∨ y.e.b ≠ none
     ·rw [if_pos h2] at h; exact absurd h (by decide +kernel)
     ·rw [if_neg h2] at h
      by_cases h3:y.e.w ≠ e.w
      ·rw [if_pos h3] at h; exact absurd h (by decide +kernel)
      ·rw [if_neg h3] at h
       refine ⟨z,rfl,al z h,fun b' q=>?_⟩
       cases Option.some.inj q
       refine ⟨y,hf,?_,?_,?_⟩
       ·exact Decidable.of_not_not fun q=>h2 (.inr q)
       ·exact Decidable.of_not_not fun q=>h2 (.inl q)
       ·exact Decidable.of_not_not h3
theorem ql {R:List Rt} {e:En} {z:List Str} (h:bM R e = some z) (ok:iE e) (dp:∀ x ∈ R,x.nm.length = cz x.e.r):z.length = cz e.r:=by
 unfold bM at h
 by_cases h1:e.r = Str.ofString "genus"
 ·rw [if_pos h1] at h
  cases h
  unfold cz
  rw [if_pos h1]
  rfl
 ·rw [if_neg h1] at h
  cases hf:bU R (e.u.getD 0) with
  | none=>rw [hf] at h; cases h
  | some x =>
   rw [hf] at h
   have h:(if x.e.r = cL e.r then some (x.nm ++ [e.w]) else none) = some z:=h
   by_cases h2:x.e.r = cL e.r
   ·rw [if_pos h2] at h
    cases h
    have hl:=dp x (df hf).1
    rw [List.length_append,hl,h2]
    rcases kQ ok with q | q | q
    ·exact absurd q h1
    ·rw [q]
     show cz (cL (Str.ofString "species")) + 1 = _
     decide +kernel
    ·rw [q]
     show cz (cL (Str.ofString "form")) + 1 = _
     decide +kernel
   ·rw [if_neg h2] at h; cases h
theorem kG.nil:kG ⟨[],[],[]⟩:=⟨List.nodup_nil,rfl,fun _ h=>(nomatch h),List.nodup_nil,fun _ h=>(nomatch h),fun _ h=>(nomatch h),fun _ h=>(nomatch h),fun _ h=>(nomatch h)⟩
theorem kG.step {s:Rs} {e:En} (h:kG s) (ok:iE e) (fr:e.n ∉ s.o.map (·.1)):kG (bL s e):=by
 have nd:((bL s e).o.map (·.1)).Nodup:=by
  show ((s.o ++ [(e.n,cV s e)]).map (·.1)).Nodup
  rw [List.map_append,List.nodup_append]
  exact ⟨h.nd,List.nodup_cons.mpr ⟨List.not_mem_nil,List.nodup_nil⟩,fun x hx y hy z=>fr (by rw [z,(List.mem_singleton.mp hy:y = e.n)] at hx; exact hx)⟩
 have nk:(bL s e).n.map (·.1) = (bL s e).o.map (·.1):=by
  show (s.n ++ [(e.n,bM s.r e)]).map (·.1) = (s.o ++ [(e.n,cV s e)]).map (·.1)
  rw [List.map_append,List.map_append,h.nk]
  rfl
 have up:∀ x ∈ s.r,x.e.n ∈ (bL s e).o.map (·.1):=fun x hx=>by
  show _ ∈ (s.o ++ [(e.n,cV s e)]).map (·.1)
  rw [List.map_append]
  exact List.mem_append_left _ (h.sub x hx)
 by_cases hr:cV s e = Str.ofString "right"
 ·obtain ⟨z,hz,_,hb⟩:=gH hr
  have er:(bL s e).r = s.r ++ [⟨e,z⟩]:=by
   show (if cV s e = Str.ofString "right" then s.r ++ [⟨e,(bM s.r e).getD []⟩] else s.r) = _
   rw [if_pos hr,hz]
   rfl
  have frr:e.n ∉ s.r.map (·.e.n):=fun q=>by
   obtain ⟨x,hx,ex⟩:=List.mem_map.mp q
   exact fr (ex ▸ h.sub x hx)
  refine ⟨nd,nk,?_,?_,?_,?_,?_,?_⟩ <;> rw [er]
  ·intro x hx
   rcases List.mem_append.mp hx with q | q
   ·exact up x q
   ·rw [List.mem_singleton.mp q]
    show _ ∈ (s.o ++ [(e.n,cV s e)]).map (·.1)
    rw [List.map_append]
    exact List.mem_append_right _ (List.mem_singleton.mpr rfl)
  ·rw [List.map_append,List.nodup_append]
   exact ⟨h.rn,List.nodup_cons.mpr ⟨List.not_mem_nil,List.nodup_nil⟩,fun x hx y hy q=>frr (by rw [q,(List.mem_singleton.mp hy:y = e.n)] at hx; exact hx)⟩
  ·intro x hx
   show _ ∈ s.n ++ [(e.n,bM s.r e)]
   rcases List.mem_append.mp hx with q | q
   ·exact List.mem_append_left _ (h.nm x q)
   ·rw [List.mem_singleton.mp q,hz]
    exact List.mem_append_right _ (List.mem_singleton.mpr rfl)
  ·intro x hx
   rcases List.mem_append.mp hx with q | q
   ·exact h.dp x q
   ·rw [List.mem_singleton.mp q]
    exact ql hz ok h.dp
  ·intro x hx b hxb
   rcases List.mem_append.mp hx with q | q
   ·obtain ⟨y,hy,r⟩:=h.bs x q b hxb
    exact ⟨y,lj hy,r⟩
   ·rw [List.mem_singleton.mp q] at hxb ⊢
    obtain ⟨y,hy,r⟩:=hb b hxb
    exact ⟨y,lj hy,r⟩
  ·intro x hx
   rcases List.mem_append.mp hx with q | q
   ·exact h.ok x q
   ·rw [List.mem_singleton.mp q]; exact ok
 ·have er:(bL s e).r = s.r:=by
   show (if cV s e = Str.ofString "right" then s.r ++ [⟨e,(bM s.r e).getD []⟩] else s.r) = _
   rw [if_neg hr]
  refine ⟨nd,nk,?_,?_,?_,?_,?_,?_⟩ <;> rw [er]
  ·exact up
  ·exact h.rn
  ·intro x hx
   show _ ∈ s.n ++ [(e.n,bM s.r e)]
   exact List.mem_append_left _ (h.nm x hx)
  ·exact h.dp
  ·exact h.bs
  ·exact h.ok
theorem fY:∀ (es:List En),(av es).o.map (·.1) = es.map (·.n):=by
 intro es
 unfold av
 have:∀ (es:List En) (s:Rs),(es.foldl bL s).o.map (·.1) = s.o.map (·.1) ++ es.map (·.n):=by
  intro es
  induction es with
  | nil=>intro s; rw [List.foldl_nil,List.map_nil,List.append_nil]
  | cons e r ih =>
   intro s
   rw [List.foldl_cons,ih]
   show (s.o ++ [(e.n,cV s e)]).map (·.1) ++ _ = _
   rw [List.map_append,List.append_assoc]
   rfl
 exact this es ⟨[],[],[]⟩
theorem mK {es:List En} (ok:∀ e ∈ es,iE e) (nd:(es.map (·.n)).Nodup):∀ i,i ≤ es.length → kG (av (es.take i)):=by
 intro i
 induction i with
 | zero=>intro _; exact kG.nil
 | succ i ih =>
  intro hi
  have e1:es[i]? = some es[i]:=List.getElem?_eq_getElem (by omega)
  rw [take_one e1,fT]
  refine (ih (by omega)).step (ok _ (List.getElem_mem _)) fun z=>?_
  rw [fY] at z
  have:=nd
  have e2:es.map (·.n) = (es.take i).map (·.n) ++ es[i].n :: (es.drop (i + 1)).map (·.n):=by
   rw [← List.map_cons,List.getElem_cons_drop,← List.map_append,List.take_append_drop]
  rw [e2,List.nodup_append] at this
  exact this.2.2 _ z _ (List.mem_cons_self ..) rfl
theorem pb:∀ {es:List En} {seen:List Int} {last:Option En},eI seen last (es.map some) = true → (es.map (·.n)).Nodup ∧ ∀ e ∈ es,e.n ∉ seen
 | [],_,_,_=>⟨List.nodup_nil,fun _ h=>nomatch h⟩
 | e :: r,seen,last,h=>by
  have h:(!seen.contains e.n && (dB last e && eI (seen ++ [e.n]) (some e) (r.map some))) = true:=h
  rw [Bool.and_eq_true,Bool.and_eq_true] at h
  obtain ⟨h1,_,h2⟩:=h
  obtain ⟨i1,i2⟩:=pb h2
  have n1:e.n ∉ seen:=fun z=>by
   rw [List.contains_iff_mem.mpr z] at h1
   cases h1
  refine ⟨List.nodup_cons.mpr ⟨fun z=>?_,i1⟩,fun x hx=>?_⟩
  ·obtain ⟨x,hx,ex⟩:=List.mem_map.mp z
   exact i2 x hx (ex ▸ List.mem_append_right _ (List.mem_singleton.mpr rfl))
  ·rcases List.mem_cons.mp hx with q | q
   ·rw [q]; exact n1
   ·exact fun z=>i2 x q (List.mem_append_left _ z)
structure RA where
 a:Addr
 dx:Addr
 o1:Addr
 o2:Addr
 o3:Addr
 o4:Addr
def i5 (H:Hp) (v:V) (nm:Option (List Str)):Prop:=match nm with | none=>v = .ax | some z=>∃ t,v = .ref t ∧ H t = some (.tup (z.map V.str))
theorem i5.same {H H':Hp} {v:V} {nm:Option (List Str)} (h:i5 H v nm) (s:∀ t xs,H t = some (.tup xs) → H' t = some (.tup xs)):i5 H' v nm:=by
 cases nm with
 | none=>exact h
 | some z=>obtain ⟨t,e,h⟩:=h; exact ⟨t,e,s _ _ h⟩
theorem cG.keep {H H':Hp} {C:Addr} {v:V} {e:En} (h:cG H C v e) (s:∀ t dx fs,H t = some (.ins C dx fs) → H' t = some (.ins C dx fs)):cG H' C v e:=let ⟨a,dx,e1,h1⟩:=h; ⟨a,dx,e1,s _ _ _ h1⟩
def zJ (A:RA):List (Str × V):=[("outs",.ref A.o1),("names",.ref A.o2),("rights",.ref A.o3),("holders",.ref A.o4)]
def oX (H:Hp) (CE:Addr) (x:Rt) (q:Key × V):Prop:=q.1 = Sum.inl x.e.n ∧ cG H CE q.2 x.e
def rF (H:Hp) (CE:Addr) (x:Rt) (q:List Key × V):Prop:=q.1 = x.nm.map Sum.inr ∧ cG H CE q.2 x.e
def h9 (H:Hp) (x:Int × Option (List Str)) (q:Key × V):Prop:=q.1 = Sum.inl x.1 ∧ i5 H q.2 x.2
def ba (s:Rs):List (Key × V):=s.o.map fun p=>(Sum.inl p.1,.str p.2)
structure fj (H:Hp) (CR CE:Addr) (A:RA) (s:Rs):Prop where
 at_:H A.a = some (.ins CR A.dx (zJ A))
 outs:H A.o1 = some (.dK (ba s))
 names:∃ kn,H A.o2 = some (.dK kn) ∧ Paired (h9 H) s.n kn
 rights:∃ kr,H A.o3 = some (.dK kr) ∧ Paired (oX H CE) s.r kr
 holders:∃ kh,H A.o4 = some (.dT kh) ∧ Paired (rF H CE) s.r kh
 d12:A.o1 ≠ A.o2
 d13:A.o1 ≠ A.o3
 d23:A.o2 ≠ A.o3
def uC (A:RA) (H H':Hp):Prop:=∀ b u,b ≠ A.o1 → b ≠ A.o2 → b ≠ A.o3 → b ≠ A.o4 → H b = some u → H' b = some u
theorem fj.same {H H':Hp} {CR CE:Addr} {A:RA} {s:Rs} (h:fj H CR CE A s) (sm:aI H H'):fj H' CR CE A s:=by
 obtain ⟨a,b,⟨kn,n1,n2⟩,⟨kr,r1,r2⟩,⟨kh,h1,h2⟩,d1,d2,d3⟩:=h
 exact ⟨sm _ _ a,sm _ _ b,⟨kn,sm _ _ n1,Paired.eJ n2 fun x q z=>⟨z.1,z.2.same fun t xs e=>sm _ _ e⟩⟩,⟨kr,sm _ _ r1,Paired.eJ r2 fun x q z=>⟨z.1,z.2.same sm⟩⟩,⟨kh,sm _ _ h1,Paired.eJ h2 fun x q z=>⟨z.1,z.2.same sm⟩⟩,d1,d2,d3⟩
theorem uC.refl (A:RA) (H:Hp):uC A H H:=fun b u _ _ _ _ h=>h
theorem uC.trans {A:RA} {H H1 H2:Hp} (a:uC A H H1) (b:uC A H1 H2):uC A H H2:=fun c u n1 n2 n3 n4 h=>b c u n1 n2 n3 n4 (a c u n1 n2 n3 n4 h)
theorem aI.z9 {A:RA} {H H':Hp} (s:aI H H'):uC A H H':=fun b u _ _ _ _ h=>s b u h
theorem gb {H:Hp} {CE:Addr} {R:List Rt} {kr:List (Key × V)} (h:Paired (oX H CE) R kr) (n:Int):(bU R n = none ∧ bg kr (Sum.inl n) = none) ∨ ∃ x v,bU R n = some x ∧ bg kr (Sum.inl n) = some v ∧ cG H CE v x.e:=by
 induction h with
 | nil=>exact .inl ⟨rfl,rfl⟩
 | @cons x q R kr hq t ih =>
  obtain ⟨h1,h2⟩:=hq
  by_cases e:x.e.n = n
  ·refine .inr ⟨x,q.2,?_,?_,h2⟩
   ·unfold bU; rw [List.find?_cons_of_pos (p:=fun y:Rt=>decide (y.e.n = n)) (decide_eq_true e)]
   ·rw [bO (by rw [h1,e])]
  ·have e1:bU (x :: R) n = bU R n:=by unfold bU; rw [List.find?_cons_of_neg (p:=fun y:Rt=>decide (y.e.n = n)) (by rw [decide_eq_false e]; decide)]
   rw [e1,bC (by rw [h1]; exact fun z=>e (Sum.inl.inj z))]
   exact ih
theorem nJ {H:Hp} {ns:List (Int × Option (List Str))} {kn:List (Key × V)} (h:Paired (h9 H) ns kn) (nd:(ns.map (·.1)).Nodup) {n:Int} {nm:Option (List Str)} (hm:(n,nm) ∈ ns):∃ v,bg kn (Sum.inl n) = some v ∧ i5 H v nm:=by
 induction h with
 | nil=>cases hm
 | @cons x q ns kn hq t ih =>
  obtain ⟨h1,h2⟩:=hq
  rw [List.map_cons,List.nodup_cons] at nd
  rcases List.mem_cons.mp hm with e | e
  ·subst e
   exact ⟨q.2,bO (by rw [h1]),h2⟩
  ·have ne:x.1 ≠ n:=fun z=>nd.1 (by rw [z]; exact List.mem_map_of_mem (f:=fun p:Int × Option (List Str)=>p.1) e)
   rw [bC (by rw [h1]; exact fun z=>ne (Sum.inl.inj z))]
   exact ih nd.2 e
theorem gY:∀ {a b:List Str},a.map (Sum.inr:Str → Key) = b.map Sum.inr → a = b
 | [],[],_=>rfl
 | [],_ :: _,h=>by cases h
 | _ :: _,[],h=>by cases h
 | x :: a,y :: b,h=>by
  rw [List.map_cons,List.map_cons] at h
  injection h with h1 h2
  rw [Sum.inr.inj h1,gY h2]
theorem jj {H:Hp} {CE:Addr} {R:List Rt} {kh:List (List Key × V)} (h:Paired (rF H CE) R kh) (z:List Str):(bg kh (z.map Sum.inr)).isSome = R.any (fun x=>decide (x.nm = z)):=by
 induction h with
 | nil=>rfl
 | @cons x q R kh hq t ih =>
  obtain ⟨h1,h2⟩:=hq
  rw [List.any_cons]
  by_cases e:x.nm = z
  ·rw [bO (by rw [h1,e]),decide_eq_true e]; rfl
  ·rw [bC (by rw [h1]; exact fun q=>e (gY q)),decide_eq_false e,Bool.false_or]
   exact ih
theorem iw {s:Rs} {n:Int} (h:n ∉ s.o.map (·.1)):bg (ba s) (Sum.inl n) = none:=by
 unfold ba
 generalize s.o = l at h
 induction l with
 | nil=>rfl
 | cons p r ih =>
  rw [List.map_cons] at h ⊢
  rw [bC (fun z=>h (by rw [← Sum.inl.inj z]; exact List.mem_cons_self ..))]
  exact ih fun z=>h (List.mem_cons_of_mem _ z)
theorem dW {κ:Type} [DecidableEq κ] {kvs:List (κ × V)} {k:κ} {v:V} (h:bg kvs k = none):putK kvs k v = kvs ++ [(k,v)]:=by
 unfold putK
 rw [if_neg (by rw [iZ,h]; decide)]
theorem kH {H:Hp} {ns:List (Int × Option (List Str))} {kn:List (Key × V)} (h:Paired (h9 H) ns kn) {n:Int} (hm:n ∉ ns.map (·.1)):bg kn (Sum.inl n) = none:=by
 induction h with
 | nil=>rfl
 | @cons x q ns kn hq t ih =>
  rw [List.map_cons] at hm
  rw [bC (by rw [hq.1]; exact fun z=>hm (by rw [← Sum.inl.inj z]; exact List.mem_cons_self ..))]
  exact ih fun z=>hm (List.mem_cons_of_mem _ z)
theorem iV (z:List Str):(z.map (Sum.inr:Str → Key)).map kV = z.map V.str:=by rw [List.map_map]; rfl
def wm (K:W.Frag):Sp:=fun vs H Q _=>∃ z,vs = [.str z] ∧ (z = Str.ofString "species" ∨ z = Str.ofString "form") ∧ Q (.str (cL z)) H
def qT (CR CE:Addr):Sp:=fun vs H Q _=>∃ a dx,vs = [.ref a] ∧ H a = some (.ins CR dx []) ∧ ∀ A H',A.a = a → A.dx = dx → (∀ b u,b ≠ a → H b = some u → H' b = some u) → fj H' CR CE A ⟨[],[],[]⟩ → H A.o1 = none → H A.o2 = none → H A.o3 = none → H A.o4 = none → Q .ax H'
def tX (CR CE:Addr):Sp:=fun vs H Q _=>∃ A s v e,vs = [.ref A.a,v] ∧ fj H CR CE A s ∧ kG s ∧ cG H CE v e ∧ iE e ∧ ∀ w H',aI H H' → i5 H' w (bM s.r e) → Q w H'
def ub (CR CE:Addr):Sp:=fun vs H Q _=>∃ A s v e w nm,vs = [.ref A.a,v,w] ∧ fj H CR CE A s ∧ cG H CE v e ∧ iE e ∧ i5 H w nm ∧ Q (.str (eP s.r e nm)) H
def vp (CR CE:Addr):Sp:=fun vs H Q _=>∃ A s v e,vs = [.ref A.a,v] ∧ fj H CR CE A s ∧ kG s ∧ cG H CE v e ∧ iE e ∧ e.n ∉ s.o.map (·.1) ∧ s.o.length ≤ 1000 ∧ ∀ H',uC A H H' → fj H' CR CE A (bL s e) → Q (.str (cV s e)) H'
def tS (H:Hp) (CE:Addr) (x:V) (es:List En):Prop:=∃ l ws,x = .ref l ∧ H l = some (.lst ws) ∧ gR H CE ws es ∧ (∀ e ∈ es,iE e) ∧ ws.length ≤ 1000 ∧ eI [] none (es.map some) = true
theorem tS.same {H H':Hp} {CE:Addr} {x:V} {es:List En} (h:tS H CE x es) (s:aI H H'):tS H' CE x es:=let ⟨l,ws,e,h1,h2,r⟩:=h; ⟨l,ws,e,s _ _ h1,h2.same s,r⟩
def dD:Option En → List En → Option En
 | o,[]=>o
 | _,x :: r=>dD (some x) r
theorem gy:∀ {es:List En} {o:Option En} {x:En},dD o es = some x → o = some x ∨ x ∈ es
 | [],_,_,h=>.inl h
 | y :: r,_,_,h=>by
  rcases gy (es:=r) h with q | q
  ·cases q; exact .inr (List.mem_cons_self ..)
  ·exact .inr (List.mem_cons_of_mem _ q)
theorem kM:∀ (es:List En) (seen:List Int) (last:Option En) (e:En),eI seen last (es.map some) = true → e.n ∉ seen → (∀ x ∈ es,x.n ≠ e.n) → dB (dD last es) e = true → eI seen last ((es ++ [e]).map some) = true
 | [],seen,last,e,_,h1,_,h3=>by
  show (!seen.contains e.n && (dB last e && true)) = true
  have h3:dB last e = true:=h3
  have h1':seen.contains e.n = false:=by
   cases q:seen.contains e.n with
   | false=>rfl
   | true=>exact absurd (List.contains_iff_mem.mp q) h1
  rw [h1',h3]
  rfl
 | x :: r,seen,last,e,h,h1,h2,h3=>by
  have h:(!seen.contains x.n && (dB last x && eI (seen ++ [x.n]) (some x) (r.map some))) = true:=h
  show (!seen.contains x.n && (dB last x && eI (seen ++ [x.n]) (some x) ((r ++ [e]).map some))) = true
  rw [Bool.and_eq_true,Bool.and_eq_true] at h ⊢
  refine ⟨h.1,h.2.1,kM r _ _ e h.2.2 (fun z=>?_) (fun y hy=>h2 y (List.mem_cons_of_mem _ hy)) h3⟩
  rcases List.mem_append.mp z with q | q
  ·exact h1 q
  ·exact h2 x (List.mem_cons_self ..) (List.mem_singleton.mp q).symm
theorem tQ {x e:En} (hd:x.d ≤ e.d) (hn:x.n < e.n):eG x e = true:=by
 show (if x.d = e.d then (if x.n = e.n then false else decide (x.n < e.n)) else decide (x.d < e.d)) = true
 by_cases h:x.d = e.d
 ·rw [if_pos h,if_neg (by omega),decide_eq_true hn]
 ·rw [if_neg h,decide_eq_true (by omega)]
structure rX (es:List En) (n d:Int):Prop where
 bk:eI [] none (es.map some) = true
 le:∀ e ∈ es,e.n ≤ n ∧ e.d ≤ d
theorem rX.nil (n d:Int):rX [] n d:=⟨rfl,fun _ h=>nomatch h⟩
theorem rX.add {es:List En} {n d:Int} {e:En} (h:rX es n d) (hn:n < e.n) (hd:d ≤ e.d):rX (es ++ [e]) e.n e.d:=by
 refine ⟨kM es [] none e h.bk List.not_mem_nil (fun x hx z=>by have:=(h.le x hx).1; omega) ?_,fun x hx=>?_⟩
 ·cases q:dD none es with
  | none=>rfl
  | some x =>
   rcases gy q with z | z
   ·cases z
   ·have:=h.le x z
    exact tQ (by omega) (by omega)
 ·rcases List.mem_append.mp hx with q | q
  ·have:=h.le x q
   exact ⟨by omega,by omega⟩
  ·rw [List.mem_singleton.mp q]; exact ⟨Int.le_refl _,Int.le_refl _⟩
theorem mI {e:En} (h1:inR 1000000000 (.int e.n) = true) (h2:inR 1000000 (.int e.d) = true) (h3:de (.str e.r) = true) (h4:isWord (.str e.w) = true) (h5:bD (.str e.r) (cH e.u) = true) (h6:bR (.str e.r) (cH e.s) (cH e.b) = true):iE e:=by
 have hw:eh (.int e.n) (.int e.d) (.str e.r) (.str e.w) = 0:=by
  unfold eh
  rw [if_neg (by rw [h1]; decide),if_neg (by rw [h2]; decide),if_neg (by rw [h3]; decide),if_neg (by rw [h4]; decide)]
 unfold iE why
 rw [hw,if_neg (fun z=>z rfl),if_neg (by rw [h5]; decide),if_neg (by rw [h6]; decide)]
def wL:Sp:=fun vs H Q _=>∃ n k,vs = [.int n,.int k] ∧ 0 ≤ k ∧ k < 1000 ∧ ∀ r,0 ≤ r → r < 2147483629 → Q (.int r) H
theorem lK {z:Str} (h:isWord (.str z) = true):z.length ≤ 12 ∧ 1 ≤ z.length ∧ z.cps.toList.all bp = true:=by
 rw [ei,Bool.and_eq_true,Bool.and_eq_true] at h
 have h1:=of_decide_eq_true h.1.1
 have h2:=of_decide_eq_true h.1.2
 exact ⟨by omega,by omega,h.2⟩
theorem lQ {z:Str} (h1:1 ≤ z.length) (h2:z.length ≤ 12) (h3:z.cps.toList.all bp = true):isWord (.str z) = true:=by
 rw [ei,h3,decide_eq_true (by omega),decide_eq_true (by omega)]
 rfl
def ux (H:Hp) (v:V) (e:En):Prop:=∃ a s,v = .ref a ∧ e.s = some s ∧ H a = some (.lst [.int e.n,.int e.d,.str e.w,.int s,.bl e.k])
theorem ux.same {H H':Hp} {v:V} {e:En} (h:ux H v e) (s:aI H H'):ux H' v e:=let ⟨a,x,e1,e2,h1⟩:=h; ⟨a,x,e1,e2,s _ _ h1⟩
def n8 (H:Hp) (ws:List V) (es:List En):Prop:=ws.length = es.length ∧ ∀ (j:Nat) v e,ws[j]? = some v → es[j]? = some e → ux H v e
theorem n8.same {H H':Hp} {ws:List V} {es:List En} (h:n8 H ws es) (s:aI H H'):n8 H' ws es:=⟨h.1,fun j v e a b=>(h.2 j v e a b).same s⟩
theorem gL {α:Type} {P:V → α → Prop} {ws:List V} {es:List α} {w:V} {e:α} (h:ws.length = es.length ∧ ∀ (j:Nat) v e,ws[j]? = some v → es[j]? = some e → P v e) (hw:P w e):(ws ++ [w]).length = (es ++ [e]).length ∧ ∀ (j:Nat) v x,(ws ++ [w])[j]? = some v → (es ++ [e])[j]? = some x → P v x:=by
 refine ⟨by rw [List.length_append,List.length_append,h.1]; rfl,fun j v x hv hx=>?_⟩
 by_cases hj:j < ws.length
 ·rw [List.getElem?_append_left hj] at hv
  rw [List.getElem?_append_left (by rw [← h.1]; exact hj)] at hx
  exact h.2 j v x hv hx
 ·rw [List.getElem?_append_right (by omega)] at hv
  rw [List.getElem?_append_right (by rw [← h.1]; omega)] at hx
  obtain ⟨h1,e1⟩:=List.getElem?_eq_some_iff.mp hv
  have j0:j - ws.length = 0:=by simpa using h1
  rw [j0] at hv
  rw [← h.1,j0] at hx
  cases Option.some.inj hv
  cases Option.some.inj hx
  exact hw
theorem n8.ne {H:Hp} {l a:Addr} {ws r:List V} {es:List En} {n:Int} (hR:n8 H ws es) (hL:H l = some (.lst ws)) (ha:H a = some (.lst (.int n :: r))):a ≠ l:=fun z=>by
 rw [z,hL] at ha
 have e:ws = .int n :: r:=by injection ha with ha; injection ha
 have h0:ws[0]? = some (.int n):=by rw [e]; rfl
 have hl:0 < es.length:=by rw [← hR.1,e]; exact Nat.succ_pos _
 obtain ⟨_,_,q,_⟩:=hR.2 0 _ _ h0 (List.getElem?_eq_getElem hl)
 cases q
def v8 (K:W.Frag) (H:Hp) (ka kb:List (Key × V)):Prop:=ka.length = kb.length ∧ (∀ p ∈ ka,∃ y,bg kb p.1 = some y ∧ jK K H 2 p.2 y true) ∧ ∀ p ∈ ka,∃ n:Int,p.1 = Sum.inl n
theorem rA {kvs:List (Key × V)} (nd:(kvs.map (·.1)).Nodup) {p:Key × V} (h:p ∈ kvs):bg kvs p.1 = some p.2:=by
 induction kvs with
 | nil=>cases h
 | cons q r ih =>
  rw [List.map_cons,List.nodup_cons] at nd
  rcases List.mem_cons.mp h with e | e
  ·subst e; exact bO rfl
  ·rw [bC (fun z=>nd.1 (by rw [z]; exact List.mem_map_of_mem (f:=fun p:Key × V=>p.1) e))]
   exact ih nd.2 e
theorem v8.refl {K:W.Frag} {H:Hp} {ka:List (Key × V)} (nd:(ka.map (·.1)).Nodup) (hf:∀ p ∈ ka,bf p.2 = true) (hn:∀ p ∈ ka,∃ n:Int,p.1 = Sum.inl n):v8 K H ka ka :=
 ⟨rfl,fun p hp=>⟨p.2,rA nd hp,.inl (.inl ⟨hf p hp,hf p hp,(fh (hf p hp)).symm⟩)⟩,hn⟩
theorem tV {α:Type} {xs:List α} {i:Int} (h0:0 ≤ i) (h1:i < xs.length):∃ j v,j < xs.length ∧ xs[j]? = some v ∧ cb xs i = some v ∧ t9 xs.length i = some j:=by
 have hj:i.toNat < xs.length:=by omega
 refine ⟨i.toNat,xs[i.toNat],hj,List.getElem?_eq_getElem hj,qM h0 (List.getElem?_eq_getElem hj),?_⟩
 unfold t9
 rw [if_pos h0,if_pos h1]
def zC (e:En):List V:=[.int e.n,.int e.d,.str e.r,.str e.w,cH e.u,.bl e.k]
def u5 (H:Hp) (v:V) (e:En):Prop:=∃ a,v = .ref a ∧ H a = some (.lst (zC e))
theorem u5.same {H H':Hp} {v:V} {e:En} (h:u5 H v e) (s:aI H H'):u5 H' v e:=let ⟨a,e1,h1⟩:=h; ⟨a,e1,s _ _ h1⟩
def mh (H:Hp) (ws:List V) (es:List En):Prop:=ws.length = es.length ∧ ∀ (j:Nat) v e,ws[j]? = some v → es[j]? = some e → u5 H v e
theorem mh.same {H H':Hp} {ws:List V} {es:List En} (h:mh H ws es) (s:aI H H'):mh H' ws es:=⟨h.1,fun j v e a b=>(h.2 j v e a b).same s⟩
theorem mh.ne {H:Hp} {l a:Addr} {ws r:List V} {es:List En} {n:Int} (hR:mh H ws es) (hL:H l = some (.lst ws)) (ha:H a = some (.lst (.int n :: r))):a ≠ l:=fun z=>by
 rw [z,hL] at ha
 have e:ws = .int n :: r:=by injection ha with ha; injection ha
 have h0:ws[0]? = some (.int n):=by rw [e]; rfl
 have hl:0 < es.length:=by rw [← hR.1,e]; exact Nat.succ_pos _
 obtain ⟨_,q,_⟩:=hR.2 0 _ _ h0 (List.getElem?_eq_getElem hl)
 cases q
theorem yL (zs:List Str):(zs.map V.str).all bf = true:=by
 rw [List.all_eq_true]
 intro x hx
 obtain ⟨z,_,rfl⟩:=List.mem_map.mp hx
 rfl
theorem bJ {H G:Hp} {l:Addr} {o:HO} (h:H l = none) (s:aI H G):aI H (upd G l o):=fun b u hb=>by
 rw [aH (aK hb h)]
 exact s _ _ hb
theorem join_ones:∀ ys:List Str,(∀ y ∈ ys,y.length = 1 ∧ y.cps.toList.all bp = true) → (Str.join (Str.ofString "") ys).length = ys.length ∧ (Str.join (Str.ofString "") ys).cps.toList.all bp = true
 | [],_=>⟨rfl,rfl⟩
 | [x],h=>h x (List.mem_cons_self ..)
 | x :: y :: r,h=>by
  have h1:=h x (List.mem_cons_self ..)
  have h2:=join_ones (y :: r) fun z hz=>h z (List.mem_cons_of_mem _ hz)
  have e:Str.join (Str.ofString "") (x :: y :: r) = x ++ Str.ofString "" ++ Str.join (Str.ofString "") (y :: r):=rfl
  have e0:(Str.ofString "").length = 0:=by decide +kernel
  have e1:(Str.ofString "").cps.toList.all bp = true:=by decide +kernel
  rw [e,Str.length_append,Str.length_append,mF,mF,h1.1,h1.2,h2.1,h2.2,e0,e1]
  exact ⟨by show _ = (y :: r).length + 1; omega,rfl⟩
theorem qt {ys:List Str} (h:∀ y ∈ ys,y.length = 1 ∧ y.cps.toList.all bp = true) (l1:1 ≤ ys.length) (l2:ys.length ≤ 12):isWord (.str (Txt.join (Str.ofString "") ys)) = true:=by
 have e:Txt.join (Str.ofString "") ys = Str.join (Str.ofString "") ys:=StrLaws.glued_eq_join _ _
 rw [e]
 obtain ⟨q1,q2⟩:=join_ones ys h
 exact lQ (by omega) (by omega) q2
theorem mz:∀ ys:List Str,(∀ y ∈ ys,y.length = 1 ∧ y.cps.toList.all bp = true) → (ys.map (·.length)).sum = ys.length
 | [],_=>rfl
 | x :: r,h=>by
  rw [List.map_cons,List.sum_cons,(h x (List.mem_cons_self ..)).1,mz r fun z hz=>h z (List.mem_cons_of_mem _ hz),List.length_cons]
  omega
def Drawn (d:Int):Prop:=0 ≤ d ∧ d < 10000000000
def uG:Sp:=fun vs H Q _=>∃ n k fr,vs = [.int n,.int k,.bl fr] ∧ 0 ≤ k ∧ k < 100 ∧ ∀ (ds:List Int) l H',ds.length = 10 → (∀ d ∈ ds,Drawn d) → aI H H' → H l = none → H' l = some (.lst (ds.map V.int)) → Q (.ref l) H'
def rW (m:Nat):Sp:=fun vs H Q _=>∃ n fr,vs = [.int n,.bl fr] ∧ ∀ (zs:List Str) l H',zs.length = m → (∀ z ∈ zs,isWord (.str z) = true) → aI H H' → H l = none → H' l = some (.lst (zs.map V.str)) → Q (.ref l) H'
def wj:Sp:=fun vs H Q _=>∃ n,vs = [.int n] ∧ ∀ z,isWord (.str z) = true → Q (.str z) H
theorem iO {ds:List Int} {x:Int} (h:∀ d ∈ ds,Drawn d) (hx:Drawn x):∀ d ∈ ds ++ [x],Drawn d:=fun d hd=>by
 rcases List.mem_append.mp hd with q | q
 ·exact h d q
 ·rw [List.mem_singleton.mp q]; exact hx
def bS (e:En):List V:=[.int e.n,.int e.d,.str e.r,.str e.w,cH e.u,cH e.s,cH e.b,.bl e.k]
def fG (H:Hp) (v:V) (e:En):Prop:=∃ a,v = .ref a ∧ H a = some (.lst (bS e))
theorem fG.same {H H':Hp} {v:V} {e:En} (h:fG H v e) (s:aI H H'):fG H' v e:=let ⟨a,e1,h1⟩:=h; ⟨a,e1,s _ _ h1⟩
def cy (H:Hp) (ws:List V) (es:List En):Prop:=ws.length = es.length ∧ ∀ (j:Nat) v e,ws[j]? = some v → es[j]? = some e → fG H v e
theorem cy.same {H H':Hp} {ws:List V} {es:List En} (h:cy H ws es) (s:aI H H'):cy H' ws es:=⟨h.1,fun j v e a b=>(h.2 j v e a b).same s⟩
structure rB (es:List En):Prop where
 bk:eI [] none (es.map some) = true
 ok:∀ e ∈ es,iE e
 nn:∀ e ∈ es,1 ≤ e.n ∧ e.n ≤ 999000000 + 2000 * es.length
 dd:∀ e ∈ es,1 ≤ e.d ∧ e.d ≤ 9000 * es.length
 le:es.length ≤ 84
theorem iM:∀ (es:List En) (o:Option En) (e:En),dD o (es ++ [e]) = some e
 | [],_,_=>rfl
 | x :: r,_,e=>iM r (some x) e
theorem cy.last {H:Hp} {ws:List V} {es:List En} (h:cy H ws es) (hw:ws ≠ []):∃ e ra,dD none es = some e ∧ e ∈ es ∧ cb ws (-1) = some (.ref ra) ∧ H ra = some (.lst (bS e)):=by
 have hl:=h.1
 have he:es ≠ []:=fun z=>hw (List.eq_nil_of_length_eq_zero (by rw [hl,z]; rfl))
 obtain ⟨w0,wv,rfl⟩:∃ w0 wv,ws = w0 ++ [wv]:=⟨_,_,(List.dropLast_concat_getLast hw).symm⟩
 obtain ⟨e0,ev,rfl⟩:∃ e0 ev,es = e0 ++ [ev]:=⟨_,_,(List.dropLast_concat_getLast he).symm⟩
 have hl0:w0.length = e0.length:=by
  rw [List.length_append,List.length_append] at hl
  exact Nat.succ.inj hl
 obtain ⟨ra,rfl,hr⟩:=h.2 w0.length wv ev (by simp) (by rw [hl0]; simp)
 exact ⟨ev,ra,iM _ _ _,by simp,jt _ _,hr⟩
theorem vU (ns:List Int):(ns.map V.int).all bf = true:=by
 rw [List.all_eq_true]
 intro x hx
 obtain ⟨z,_,rfl⟩:=List.mem_map.mp hx
 rfl
theorem i8 {n:Int}:∀ {ns:List Int},pe (.int n) (ns.map V.int) = true ↔ n ∈ ns:=by
 intro ns
 unfold pe
 rw [List.any_eq_true]
 constructor
 ·rintro ⟨v,hv,q⟩
  obtain ⟨z,hz,rfl⟩:=List.mem_map.mp hv
  have:z = n:=by simpa [hX] using q
  exact this ▸ hz
 ·intro h
  exact ⟨_,List.mem_map_of_mem h,by simp [hX]⟩
def uq:Sp:=fun vs H Q _=>∃ l ws es x y,vs = [.ref l,.int x,.int y] ∧ H l = some (.lst ws) ∧ cy H ws es ∧ rB es ∧ es.length < 84 ∧ Drawn x ∧ Drawn y ∧ ∀ (n d:Int) t H',aI H H' → H' t = some (.tup [.int n,.int d]) → (∀ e ∈ es,e.n ≠ n) → 1 ≤ n → n ≤ 999000000 + 2000 * (es.length + 1) → 1 ≤ d → d ≤ 9000 * (es.length + 1) → (∀ e,dD none es = some e → e.d < d ∨ e.d = d ∧ e.n < n) → Q (.ref t) H'
def nX (H:Hp) (es:List En) (acc:List V):Prop:=acc.length ≤ es.length ∧ ∀ v ∈ acc,∃ e ∈ es,fG H v e
theorem nX.same {H H':Hp} {es:List En} {acc:List V} (h:nX H es acc) (s:aI H H'):nX H' es acc:=⟨h.1,fun v hv=>let ⟨e,he,hr⟩:=h.2 v hv; ⟨e,he,hr.same s⟩⟩
theorem cy.some {H:Hp} {ws:List V} {es:List En} (h:cy H ws es):nX H es ws:=⟨by rw [h.1]; exact Nat.le_refl _,fun v hv=>by
 obtain ⟨j,hj⟩:=List.getElem?_of_mem hv
 have hl:j < es.length:=by rw [← h.1]; exact (List.getElem?_eq_some_iff.mp hj).1
 exact ⟨_,List.getElem_mem hl,h.2 j v _ hj (List.getElem?_eq_getElem hl)⟩⟩
def vq:Sp:=fun vs H Q _=>∃ l ws es rk x y,vs = [.ref l,.str rk,.int x,.int y] ∧ H l = some (.lst ws) ∧ cy H ws es ∧ rB es ∧ es ≠ [] ∧ ∀ (r:Int) H',aI H H' → 1 ≤ r → r ≤ 1000000000 → Q (.int r) H'
def vI:Sp:=fun vs H Q _=>∃ l ws es rk x y,vs = [.ref l,.str rk,.int x,.int y] ∧ H l = some (.lst ws) ∧ cy H ws es ∧ rB es ∧ es ≠ [] ∧ ∀ v e H',aI H H' → e ∈ es → fG H' v e → Q v H'
structure vd (es:List En) (e:En):Prop where
 ok:iE e
 nw:∀ x ∈ es,x.n ≠ e.n
 n1:1 ≤ e.n
 n2:e.n ≤ 999000000 + 2000 * (es.length + 1)
 d1:1 ≤ e.d
 d2:e.d ≤ 9000 * (es.length + 1)
 la:∀ x,dD none es = some x → x.d < e.d ∨ x.d = e.d ∧ x.n < e.n
def uQ:Sp:=fun vs H Q _=>∃ l ws es wl,∃ zs:List Str,∃ n i fr,vs = [.ref l,.ref wl,.int n,.int i,.bl fr] ∧ H l = some (.lst ws) ∧ cy H ws es ∧ rB es ∧ es.length < 84 ∧ H wl = some (.lst (zs.map V.str)) ∧ zs.length = 4 ∧ (∀ z ∈ zs,isWord (.str z) = true) ∧ 0 ≤ i ∧ i < 100 ∧ ∀ v e H',aI H H' → fG H' v e → vd es e → Q v H'
theorem rB.add {es:List En} {e:En} (h:rB es) (n:vd es e) (hl:es.length < 84):rB (es ++ [e]):=by
 have ll:((es ++ [e]).length:Int) = es.length + 1:=by rw [List.length_append]; rfl
 have mem:∀ x ∈ es ++ [e],x ∈ es ∨ x = e:=fun x hx=>(List.mem_append.mp hx).imp id List.mem_singleton.mp
 refine ⟨kM es [] none e h.bk List.not_mem_nil n.nw ?_,fun x hx=>?_,fun x hx=>?_,fun x hx=>?_,?_⟩
 ·cases q:dD none es with
  | none=>rfl
  | some x =>
   show eG x e = true
   show (if x.d = e.d then (if x.n = e.n then false else decide (x.n < e.n)) else decide (x.d < e.d)) = true
   rcases n.la x q with z | z
   ·rw [if_neg (by omega),decide_eq_true z]
   ·rw [if_pos z.1,if_neg (by omega),decide_eq_true z.2]
 ·rcases mem x hx with q | rfl
  ·exact h.ok x q
  ·exact n.ok
 ·rw [ll]
  rcases mem x hx with q | rfl
  ·have:=h.nn x q
   exact ⟨this.1,by omega⟩
  ·exact ⟨n.n1,n.n2⟩
 ·rw [ll]
  rcases mem x hx with q | rfl
  ·have:=h.dd x q
   exact ⟨this.1,by omega⟩
  ·exact ⟨n.d1,n.d2⟩
 ·omega
theorem rB.nil:rB []:=⟨rfl,fun _ h=>(nomatch h),fun _ h=>(nomatch h),fun _ h=>(nomatch h),Nat.zero_le _⟩
theorem fG.ne {H:Hp} {ws:List V} {es:List En} {l a:Addr} {e:En} (hR:cy H ws es) (hL:H l = some (.lst ws)) (ha:H a = some (.lst (bS e))):a ≠ l:=fun z=>by
 rw [z,hL] at ha
 have e':ws = bS e:=by injection ha with ha; injection ha
 have h0:ws[0]? = some (.int e.n):=by rw [e']; rfl
 have hl:0 < es.length:=by rw [← hR.1,e']; exact Nat.succ_pos _
 obtain ⟨_,q,_⟩:=hR.2 0 _ _ h0 (List.getElem?_eq_getElem hl)
 cases q
def uP (K:W.Frag):Sp:=fun vs H Q _=>∃ (a:Addr) (st:Int) (ns:List Int),vs = [.ref a,.int st] ∧ 0 ≤ st ∧ st ≤ 63 ∧ aj K H a (ns.map V.int) ∧ ns.length ≤ 63 ∧ ∀ l ws es H',aI H H' → H' l = some (.lst ws) → cy H' ws es → rB es → es.length < 64 → Q (.ref l) H'
def vm (CE:Addr):Sp:=fun vs H Q _=>∃ l ws es,vs = [.ref l] ∧ H l = some (.lst ws) ∧ cy H ws es ∧ (∀ e ∈ es,iE e) ∧ es.length ≤ 84 ∧ ∀ q acc H',aI H H' → H q = none → H' q = some (.lst acc) → gR H' CE acc es → Q (.ref q) H'
def yk:Sp:=fun vs H Q _=>∃ z,vs = [.str z] ∧ (z = Str.ofString "species" ∨ z = Str.ofString "form") ∧ ∀ H',aI H H' → Q (.str (cL z)) H'
def yy:List (Key × V):=[(Sum.inr (Str.ofString "genus"),V.ax),(Sum.inr (Str.ofString "species"),V.str (Str.ofString "genus")),(Sum.inr (Str.ofString "form"),V.str (Str.ofString "species"))]
def tZ (H:Hp) (x:Rt) (q:Key × V):Prop:=q.1 = Sum.inl x.e.n ∧ fG H q.2 x.e
def tU (x:Rt) (q:List Key × V):Prop:=q.1 = x.nm.map Sum.inr
theorem fG.keep {H H':Hp} {v:V} {e:En} (h:fG H v e) (s:∀ t xs,H t = some (.lst xs) → H' t = some (.lst xs)):fG H' v e:=let ⟨a,e1,h1⟩:=h; ⟨a,e1,s _ _ h1⟩
theorem mE {H:Hp} {R:List Rt} {kr:List (Key × V)} (h:Paired (tZ H) R kr) (n:Int):(bU R n = none ∧ bg kr (Sum.inl n) = none) ∨ ∃ x v,bU R n = some x ∧ bg kr (Sum.inl n) = some v ∧ fG H v x.e:=by
 induction h with
 | nil=>exact .inl ⟨rfl,rfl⟩
 | @cons x q R kr hq t ih =>
  obtain ⟨h1,h2⟩:=hq
  by_cases e:x.e.n = n
  ·refine .inr ⟨x,q.2,?_,?_,h2⟩
   ·unfold bU; rw [List.find?_cons_of_pos (p:=fun y:Rt=>decide (y.e.n = n)) (decide_eq_true e)]
   ·rw [bO (by rw [h1,e])]
  ·have e1:bU (x :: R) n = bU R n:=by unfold bU; rw [List.find?_cons_of_neg (p:=fun y:Rt=>decide (y.e.n = n)) (by rw [decide_eq_false e]; decide)]
   rw [e1,bC (by rw [h1]; exact fun z=>e (Sum.inl.inj z))]
   exact ih
theorem qB {R:List Rt} {kh:List (List Key × V)} (h:Paired tU R kh) (z:List Str):(bg kh (z.map Sum.inr)).isSome = R.any (fun x=>decide (x.nm = z)):=by
 induction h with
 | nil=>rfl
 | @cons x q R kh hq t ih =>
  have h1:q.1 = x.nm.map Sum.inr:=hq
  rw [List.any_cons]
  by_cases e:x.nm = z
  ·rw [bO (by rw [h1,e]),decide_eq_true e]; rfl
  ·rw [bC (by rw [h1]; exact fun q=>e (gY q)),decide_eq_false e,Bool.false_or]
   exact ih
theorem jA {κ:Type} [DecidableEq κ] {kvs:List (κ × V)} {k:κ} {v:V} (h:bg kvs k = none):bg (kvs ++ [(k,v)]) k = some v:=by
 induction kvs with
 | nil=>exact bO rfl
 | cons p r ih =>
  by_cases e:p.1 = k
  ·rw [bO e] at h; cases h
  ·rw [bC e] at h
   rw [List.cons_append,bC e]
   exact ih h
def rM:Sp:=fun vs H Q _=>∃ v w dr db e nm R kr kb,vs = [v,w,.ref dr,.ref db] ∧ fG H v e ∧ i5 H w nm ∧ H dr = some (.dK kr) ∧ Paired (tZ H) R kr ∧ H db = some (.dT kb) ∧ Paired tU R kb ∧ Q (.str (eP R e nm)) H
def sf:Sp:=fun vs H Q _=>∃ l ws es,vs = [.ref l] ∧ H l = some (.lst ws) ∧ cy H ws es ∧ (∀ e ∈ es,iE e) ∧ (es.map (·.n)).Nodup ∧ es.length ≤ 84 ∧ ∀ t dw dn dr kn kr H',aI H H' → H dw = none → H dn = none → H dr = none → dw ≠ dr → dn ≠ dr → H' t = some (.tup [.ref dw,.ref dn,.ref dr]) → H' dw = some (.dK (ba (av es))) → H' dn = some (.dK kn) → Paired (h9 H') (av es).n kn → H' dr = some (.dK kr) → Paired (tZ H') (av es).r kr → Q (.ref t) H'
theorem iu (es:List En):(∀ x ∈ (av es).r,x.e ∈ es ∧ (x.e.n,Str.ofString "right") ∈ (av es).o) ∧ ∀ e ∈ es,∃ o,(e.n,o) ∈ (av es).o ∧ (o = Str.ofString "right" → ∃ x ∈ (av es).r,x.e = e):=by
 have key:∀ n,∀ es:List En,es.length = n → (∀ x ∈ (av es).r,x.e ∈ es ∧ (x.e.n,Str.ofString "right") ∈ (av es).o) ∧ ∀ e ∈ es,∃ o,(e.n,o) ∈ (av es).o ∧ (o = Str.ofString "right" → ∃ x ∈ (av es).r,x.e = e):=by
  intro n
  induction n with
  | zero =>
   intro es h
   obtain rfl:es = []:=List.eq_nil_of_length_eq_zero h
   exact ⟨fun _ h=>(nomatch h),fun _ h=>(nomatch h)⟩
  | succ n ih =>
   intro es h
   have hne:es ≠ []:=fun z=>by rw [z] at h; cases h
   obtain ⟨p,e,rfl⟩:∃ p e,es = p ++ [e]:=⟨_,_,(List.dropLast_concat_getLast hne).symm⟩
   obtain ⟨i1,i2⟩:=ih p (by rw [List.length_append] at h; exact Nat.succ.inj h)
   rw [fT]
   have ho:(bL (av p) e).o = (av p).o ++ [(e.n,cV (av p) e)]:=rfl
   by_cases hr:cV (av p) e = Str.ofString "right"
   ·have er:(bL (av p) e).r = (av p).r ++ [⟨e,(bM (av p).r e).getD []⟩]:=by show (if _ then _ else _) = _; rw [if_pos hr]
    rw [ho,er,hr]
    refine ⟨fun x hx=>?_,fun y hy=>?_⟩
    ·rcases List.mem_append.mp hx with q | q
     ·exact ⟨List.mem_append_left _ (i1 x q).1,List.mem_append_left _ (i1 x q).2⟩
     ·rw [List.mem_singleton.mp q]
      exact ⟨List.mem_append_right _ (List.mem_singleton.mpr rfl),List.mem_append_right _ (List.mem_singleton.mpr rfl)⟩
    ·rcases List.mem_append.mp hy with q | q
     ·obtain ⟨o,h1,h2⟩:=i2 y q
      exact ⟨o,List.mem_append_left _ h1,fun z=>let ⟨x,hx,ex⟩:=h2 z; ⟨x,List.mem_append_left _ hx,ex⟩⟩
     ·rw [List.mem_singleton.mp q]
      exact ⟨_,List.mem_append_right _ (List.mem_singleton.mpr rfl),fun _=>⟨_,List.mem_append_right _ (List.mem_singleton.mpr rfl),rfl⟩⟩
   ·have er:(bL (av p) e).r = (av p).r:=by show (if _ then _ else _) = _; rw [if_neg hr]
    rw [ho,er]
    refine ⟨fun x hx=>⟨List.mem_append_left _ (i1 x hx).1,List.mem_append_left _ (i1 x hx).2⟩,fun y hy=>?_⟩
    rcases List.mem_append.mp hy with q | q
    ·obtain ⟨o,h1,h2⟩:=i2 y q
     exact ⟨o,List.mem_append_left _ h1,h2⟩
    ·rw [List.mem_singleton.mp q]
     exact ⟨_,List.mem_append_right _ (List.mem_singleton.mpr rfl),fun z=>absurd z hr⟩
 exact key _ es rfl
theorem wy {es:List En} (okk:∀ e ∈ es,iE e) (nd:(es.map (·.n)).Nodup):kG (av es):=by
 have:=mK okk nd es.length (Nat.le_refl _)
 rw [List.take_of_length_le (Nat.le_refl _)] at this
 exact this
theorem jH:∀ {xs:List V},xs.all bf = true → rJ xs xs = true
 | [],_=>rfl
 | x :: r,h=>by
  rw [List.all_cons,Bool.and_eq_true] at h
  show (hX x x && rJ r r) = true
  rw [fh h.1,jH h.2]
  rfl
theorem xu {K:W.Frag} {H:Hp} {q1 q2:Addr} {xs:List V} (h1:H q1 = some (.lst xs)) (h2:H q2 = some (.lst xs)) (fx:xs.all bf = true):bz K H (jK K H 0) (.ref q1) (.ref q2) true:=by
 have h:=bz.yF (K:=K) (n:=0) (aj.of h1) (aj.of h2) fx fx
 rw [jH fx] at h
 exact h
def deeds:List V:=[.str "keep",.str "strike",.str "leave"]
def gE:V → Bool
 | .str z=>pe (.str z) deeds
 | _=>false
def wU (K:W.Frag):Sp:=fun vs H Q _=>∃ x,vs = [x] ∧ Own K H x ∧ Q (.bl (gE x)) H
def rK (K:W.Frag) (C:Addr):Sp:=fun vs H Q E=>∃ x,vs = [x] ∧ Own K H x ∧ (inR 1000000 x = true → Q .ax H) ∧ (inR 1000000 x = false → E (.ref C) none H)
def xK (d e n:V):List (Str × V):=[("day",d),("deed",e),("number",n)]
def yQ (K:W.Frag) (CA ND NA NN:Addr):Sp:=fun vs H Q E=>∃ a dx d e n,vs = [.ref a,d,e,n] ∧ H a = some (.ins CA dx []) ∧ Own K H d ∧ Own K H e ∧ Own K H n ∧
 (inR 1000000 d = false → E (.ref ND) none H) ∧
 (inR 1000000 d = true → gE e = false → ∀ x H',aI H H' → H' x = some (.xd [("place",.int 0)]) → E (.ref NA) (some x) H') ∧
 (inR 1000000 d = true → gE e = true → inR 1000000000 n = false → E (.ref NN) none H) ∧
 (inR 1000000 d = true → gE e = true → inR 1000000000 n = true → ∀ H',(∀ b u,b ≠ a → H b = some u → H' b = some u) → H' a = some (.ins CA dx (xK d e n)) → Q .ax H')
theorem _root_.L2.XE.upd {H:Hp} {e C q:Addr} {xs ys:List V} (h:XE H e C) (hq:H q = some (.lst xs)):XE (upd H q (.lst ys)) e C:=by
 rcases h with z | ⟨dx,fs,z | z,z2⟩
 ·exact .inl (by rw [aH (aX z hq (by intro y; cases y))]; exact z)
 ·exact .inr ⟨dx,fs,.inl (by rw [aH (aX z hq (by intro y; cases y))]; exact z),by rw [aH (aX z2 hq (by intro y; cases y))]; exact z2⟩
 ·exact .inr ⟨dx,fs,.inr (by rw [aH (aX z hq (by intro y; cases y))]; exact z),by rw [aH (aX z2 hq (by intro y; cases y))]; exact z2⟩
structure Dd where
 d:Int
 z:Str
 n:Int
def qe (x:Dd):List V:=[.int x.d,.str x.z,.int x.n]
def bN (H:Hp) (ws:List V) (xs:List Dd):Prop:=ws.length = xs.length ∧ ∀ (j:Nat) v x,ws[j]? = some v → xs[j]? = some x → ∃ a,v = .ref a ∧ H a = some (.tup (qe x))
theorem bN.same {H H':Hp} {ws:List V} {xs:List Dd} (h:bN H ws xs) (s:aI H H'):bN H' ws xs:=⟨h.1,fun j v x a b=>let ⟨p,e,q⟩:=h.2 j v x a b; ⟨p,e,s _ _ q⟩⟩
def eM (H:Hp) (CA:Addr) (v:V) (x:Dd):Prop:=∃ a dx,v = .ref a ∧ H a = some (.ins CA dx (xK (.int x.d) (.str x.z) (.int x.n)))
theorem eM.same {H H':Hp} {CA:Addr} {v:V} {x:Dd} (h:eM H CA v x) (s:aI H H'):eM H' CA v x:=let ⟨a,dx,e,h1⟩:=h; ⟨a,dx,e,s _ _ h1⟩
def bj (H:Hp) (CA:Addr) (ws:List V) (xs:List Dd):Prop:=ws.length = xs.length ∧ ∀ (j:Nat) v x,ws[j]? = some v → xs[j]? = some x → eM H CA v x
theorem bj.same {H H':Hp} {CA:Addr} {ws:List V} {xs:List Dd} (h:bj H CA ws xs) (s:aI H H'):bj H' CA ws xs:=⟨h.1,fun j v x a b=>(h.2 j v x a b).same s⟩
def cq (ds:List Dd) (x:Dd):Bool:=match ds.getLast? with | none=>true | some y=>decide (y.d ≤ x.d)
def eR (R:List Rt) (x:Dd):Bool:=match bU R x.n with | none=>false | some y=>decide (y.e.b = none) && decide (y.e.d ≤ x.d)
def cN (R:List Rt) (ds:List Dd) (x:Dd):Bool:=cq ds x && eR R x
def jI (K:W.Frag) (H:Hp) (CA:Addr) (v:V):Prop:=∃ n,dZ K H v (.type n) ∧ W.kitOne K (.type n) (.ref CA) = some false
def j8 (K:W.Frag) (H:Hp) (v:V):Prop:=∃ n,dZ K H v (.type n) ∧ W.kitOne K (.type n) (.type "list") = some false
def rR (K:W.Frag) (CR CE CA:Addr):Sp:=fun vs H Q _=>∃ A s fl fa ds th,vs = [.ref A.a,.ref fl,th] ∧ fj H CR CE A s ∧ H fl = some (.lst fa) ∧ bj H CA fa ds ∧ ((jI K H CA th ∧ Q (.bl false) H) ∨ ∃ x,eM H CA th x ∧ Q (.bl (cN s.r ds x)) H)
def wY (K:W.Frag) (H:Hp) (CA:Addr) (R:List Rt) (ds:List Dd) (v:V):Prop:=jI K H CA v ∨ ∃ x,eM H CA v x ∧ cN R ds x = false
def xq (R:List Rt) (ds:List Dd):Prop:=∀ (j:Nat) x,ds[j]? = some x → cN R (ds.take j) x = true
def ly (K:W.Frag) (H:Hp) (CA:Addr) (R:List Rt) (v:V) (p:Nat):Prop:=(∃ l ws ds u,v = .ref l ∧ H l = some (.lst ws) ∧ ws.length ≤ 1000 ∧ ws[p]? = some u ∧ bj H CA (ws.take p) ds ∧ xq R ds ∧ wY K H CA R ds u) ∨ (p = 0 ∧ j8 K H v)
def jr (H:Hp) (CA:Addr) (R:List Rt) (v:V) (ws:List V) (ds:List Dd):Prop:=∃ l,v = .ref l ∧ H l = some (.lst ws) ∧ ws.length ≤ 1000 ∧ bj H CA ws ds ∧ xq R ds
theorem jI.same {K:W.Frag} {H H':Hp} {CA:Addr} {v:V} (h:jI K H CA v) (s:aI H H'):jI K H' CA v:=let ⟨n,t,k⟩:=h; ⟨n,t.same s,k⟩
theorem j8.same {K:W.Frag} {H H':Hp} {v:V} (h:j8 K H v) (s:aI H H'):j8 K H' v:=let ⟨n,t,k⟩:=h; ⟨n,t.same s,k⟩
theorem ly.same {K:W.Frag} {H H':Hp} {CA:Addr} {R:List Rt} {v:V} {p:Nat} (h:ly K H CA R v p) (s:aI H H'):ly K H' CA R v p:=by
 rcases h with ⟨l,ws,ds,u,e,h1,h2,h3,h4,h5,h6⟩ | ⟨h1,h2⟩
 ·refine .inl ⟨l,ws,ds,u,e,s _ _ h1,h2,h3,h4.same s,h5,?_⟩
  rcases h6 with h | ⟨x,h,q⟩
  ·exact .inl (h.same s)
  ·exact .inr ⟨x,h.same s,q⟩
 ·exact .inr ⟨h1,h2.same s⟩
theorem jr.same {H H':Hp} {CA:Addr} {R:List Rt} {v:V} {ws:List V} {ds:List Dd} (h:jr H CA R v ws ds) (s:aI H H'):jr H' CA R v ws ds:=let ⟨l,e,h1,h2,h3,h4⟩:=h; ⟨l,e,s _ _ h1,h2,h3.same s,h4⟩
theorem bN.yv {K:W.Frag} {H:Hp} {a b:Addr} {xs ys:List V} {ds:List Dd} (ha:H a = some (.lst xs)) (hb:H b = some (.lst ys)) (dx:bN H xs ds) (dy:bN H ys ds):bz K H (jK K H 1) (.ref a) (.ref b) true:=by
 have h:=bz.list (K:=K) (H:=H) (R:=jK K H 1) (e:=fun _=>true) (aj.of ha) (aj.of hb) (dx.1.trans dy.1.symm) fun i x y hx hy=>by
  have il:=(List.getElem?_eq_some_iff.mp hx).1
  obtain ⟨d,ed⟩:∃ d,ds[i]? = some d:=⟨_,List.getElem?_eq_getElem (by rw [← dx.1]; exact il)⟩
  obtain ⟨p,rfl,hp⟩:=dx.2 i x _ hx ed
  obtain ⟨q,rfl,hq⟩:=dy.2 i y _ hy ed
  have h:=bz.vW (K:=K) (n:=0) (eX.of hp) (eX.of hq) rfl (show (qe d).all bf = true from rfl) rfl
  rw [jH (show (qe d).all bf = true from rfl)] at h
  exact .inr h
 have e:(List.range xs.length).all (fun _=>true) = true:=by rw [List.all_eq_true]; intro _ _; rfl
 rw [e] at h
 exact h
structure CA where
 a:Addr
 dx:Addr
 e:Addr
 d:Addr
 p:Addr
 A:RA
def ze (C:CA):List (Str × V):=[("entries",.ref C.e),("results",.ref C.A.a),("deeds",.ref C.d),("piles",.ref C.p)]
structure dQ (H:Hp) (CK CR CE:Addr) (C:CA) (es:List En) (fa:List V):Prop where
 at_:H C.a = some (.ins CK C.dx (ze C))
 ents:∃ ws,H C.e = some (.lst ws) ∧ gR H CE ws es
 res:fj H CR CE C.A (av es)
 deeds:H C.d = some (.lst fa)
 piles:H C.p = some (.lst [])
 ned:C.e ≠ C.d
 nep:C.e ≠ C.p
 ndp:C.d ≠ C.p
def vK (C:CA) (H H':Hp):Prop:=∀ b u,b ≠ C.e → b ≠ C.A.o1 → b ≠ C.A.o2 → b ≠ C.A.o3 → b ≠ C.A.o4 → H b = some u → H' b = some u
theorem dQ.same {H H':Hp} {CK CR CE:Addr} {C:CA} {es:List En} {fa:List V} (h:dQ H CK CR CE C es fa) (s:aI H H'):dQ H' CK CR CE C es fa :=
 ⟨s _ _ h.at_,let ⟨ws,a,b⟩:=h.ents; ⟨ws,s _ _ a,b.same s⟩,h.res.same s,s _ _ h.deeds,s _ _ h.piles,h.ned,h.nep,h.ndp⟩
theorem dQ.ins {H H':Hp} {CK CR CE:Addr} {C:CA} {es:List En} {fa:List V} (h:dQ H CK CR CE C es fa) (f:vK C H H') {b K dx:Addr} {fs:List (Str × V)} (hb:H b = some (.ins K dx fs)):H' b = some (.ins K dx fs):=by
 obtain ⟨ws,w1,_⟩:=h.ents
 obtain ⟨kn,n1,_⟩:=h.res.names
 obtain ⟨kr,r1,_⟩:=h.res.rights
 obtain ⟨kh,h1,_⟩:=h.res.holders
 exact f b _ (aX hb w1 (by intro z; cases z)) (aX hb h.res.outs (by intro z; cases z)) (aX hb n1 (by intro z; cases z)) (aX hb r1 (by intro z; cases z)) (aX hb h1 (by intro z; cases z)) hb
theorem dQ.tup {H H':Hp} {CK CR CE:Addr} {C:CA} {es:List En} {fa:List V} (h:dQ H CK CR CE C es fa) (f:vK C H H') {b:Addr} {xs:List V} (hb:H b = some (.tup xs)):H' b = some (.tup xs):=by
 obtain ⟨ws,w1,_⟩:=h.ents
 obtain ⟨kn,n1,_⟩:=h.res.names
 obtain ⟨kr,r1,_⟩:=h.res.rights
 obtain ⟨kh,h1,_⟩:=h.res.holders
 exact f b _ (aX hb w1 (by intro z; cases z)) (aX hb h.res.outs (by intro z; cases z)) (aX hb n1 (by intro z; cases z)) (aX hb r1 (by intro z; cases z)) (aX hb h1 (by intro z; cases z)) hb
theorem uv {S:Rs} {n:Int} (h:n ∈ S.o.map (·.1)):(bg (ba S) (Sum.inl n)).isSome = true:=by
 unfold ba
 generalize S.o = l at h
 induction l with
 | nil=>cases h
 | cons p r ih =>
  rw [List.map_cons] at h ⊢
  by_cases e:p.1 = n
  ·rw [bO (by rw [e])]; rfl
  ·rw [bC (fun z=>e (Sum.inl.inj z))]
   rcases List.mem_cons.mp h with q | q
   ·exact absurd q.symm e
   ·exact ih q
theorem xR {b:Bool} {P Q:Prop} (h:b = true) (p:P):if b = true then P else Q:=by rw [if_pos h]; exact p
theorem yG {b:Bool} {P Q:Prop} (h:b = false) (p:Q):if b = true then P else Q:=by rw [if_neg (by rw [h]; decide)]; exact p
theorem dQ.lst {H H':Hp} {CK CR CE:Addr} {C:CA} {es:List En} {fa:List V} (h:dQ H CK CR CE C es fa) (f:vK C H H') {b:Addr} {xs:List V} (hn:b ≠ C.e) (hb:H b = some (.lst xs)):H' b = some (.lst xs):=by
 obtain ⟨kn,n1,_⟩:=h.res.names
 obtain ⟨kr,r1,_⟩:=h.res.rights
 obtain ⟨kh,h1,_⟩:=h.res.holders
 exact f b _ hn (aX hb h.res.outs (by intro z; cases z)) (aX hb n1 (by intro z; cases z)) (aX hb r1 (by intro z; cases z)) (aX hb h1 (by intro z; cases z)) hb
theorem dQ.move {H H':Hp} {CK CR CE:Addr} {C:CA} {es:List En} {fa fb:List V} {o:Addr} {xs:List V} (h:dQ H CK CR CE C es fa) (dd:H o = some (.lst xs)) (ne:o ≠ C.e) (np:o ≠ C.p) (f:∀ b u,b ≠ o → H b = some u → H' b = some u) (hd:H' C.d = some (.lst fb)):dQ H' CK CR CE C es fb:=by
 obtain ⟨ws,w1,w2⟩:=h.ents
 obtain ⟨a1,a2,⟨kn,n1,n2⟩,⟨kr,r1,r2⟩,⟨kh,h1,h2⟩,d1,d2,d3⟩:=h.res
 have ent:∀ v e,cG H CE v e → cG H' CE v e:=fun v e h=>h.keep fun t dx fs ht=>f t _ (aX ht dd (by intro z; cases z)) ht
 refine ⟨f _ _ (aX h.at_ dd (by intro z; cases z)) h.at_,⟨ws,f _ _ ne.symm w1,w2.1,fun j v e a b=>ent v e (w2.2 j v e a b)⟩,⟨f _ _ (aX a1 dd (by intro z; cases z)) a1,f _ _ (aX a2 dd (by intro z; cases z)) a2,⟨kn,f _ _ (aX n1 dd (by intro z; cases z)) n1,?_⟩,⟨kr,f _ _ (aX r1 dd (by intro z; cases z)) r1,?_⟩,⟨kh,f _ _ (aX h1 dd (by intro z; cases z)) h1,?_⟩,d1,d2,d3⟩,hd,f _ _ np.symm h.piles,h.ned,h.nep,h.ndp⟩
 ·exact Paired.eJ n2 fun x q z=>⟨z.1,z.2.same fun t xs e=>f t _ (aX e dd (by intro z; cases z)) e⟩
 ·exact Paired.eJ r2 fun x q z=>⟨z.1,ent _ _ z.2⟩
 ·exact Paired.eJ h2 fun x q z=>⟨z.1,ent _ _ z.2⟩
theorem dQ.deed {H H':Hp} {CK CR CE:Addr} {C:CA} {es:List En} {fa fb:List V} (h:dQ H CK CR CE C es fa) (f:∀ b u,b ≠ C.d → H b = some u → H' b = some u) (hd:H' C.d = some (.lst fb)):dQ H' CK CR CE C es fb:=h.move h.deeds h.ned.symm h.ndp f hd
theorem bj.keep {H H':Hp} {CA:Addr} {ws:List V} {xs:List Dd} (h:bj H CA ws xs) (f:∀ b K dx fs,H b = some (.ins K dx fs) → H' b = some (.ins K dx fs)):bj H' CA ws xs:=⟨h.1,fun j v x a b=>let ⟨p,dx,e,q⟩:=h.2 j v x a b; ⟨p,dx,e,f _ _ _ _ q⟩⟩
theorem bN.keep {H H':Hp} {ws:List V} {xs:List Dd} (h:bN H ws xs) (f:∀ b ys,H b = some (.tup ys) → H' b = some (.tup ys)):bN H' ws xs:=⟨h.1,fun j v x a b=>let ⟨p,e,q⟩:=h.2 j v x a b; ⟨p,e,f _ _ q⟩⟩
theorem bj.push {H:Hp} {CA:Addr} {ws:List V} {xs:List Dd} {v:V} {x:Dd} (h:bj H CA ws xs) (hx:eM H CA v x):bj H CA (ws ++ [v]) (xs ++ [x]):=gL h hx
theorem bN.push {H:Hp} {ws:List V} {xs:List Dd} {v:V} {x:Dd} (h:bN H ws xs) (hx:∃ a,v = .ref a ∧ H a = some (.tup (qe x))):bN H (ws ++ [v]) (xs ++ [x]):=gL h hx
def sE (CK CR CE:Addr):Sp:=fun vs H Q _=>∃ a dx,vs = [.ref a] ∧ H a = some (.ins CK dx []) ∧ ∀ C H',C.a = a → C.dx = dx → (∀ b u,b ≠ a → H b = some u → H' b = some u) → dQ H' CK CR CE C [] [] → H C.e = none → H C.d = none → H C.p = none → H C.A.a = none → H C.A.o1 = none → H C.A.o2 = none → H C.A.o3 = none → H C.A.o4 = none → Q .ax H'
def zd (es:List En) (e:En):Prop:=dB (dD none es) e = false ∨ e.n ∈ es.map (·.n)
def qj (K:W.Frag) (CK CR CE NE LT:Addr):Sp:=fun vs H Q E=>∃ C es v fa,vs = [.ref C.a,v] ∧ dQ H CK CR CE C es fa ∧ (∀ e ∈ es,iE e) ∧ (es.map (·.n)).Nodup ∧ es.length ≤ 84 ∧
 ∃ e,cG H CE v e ∧ iE e ∧ ((dB (dD none es) e = true ∧ e.n ∉ es.map (·.n) ∧ ∀ H',vK C H H' → dQ H' CK CR CE C (es ++ [e]) fa → Q (.str (cV (av es) e)) H') ∨ (zd es e ∧ ∀ H',aI H H' → E (.ref LT) none H'))
def uB (CK CR CE:Addr):Sp:=fun vs H Q _=>∃ C es fa,vs = [.ref C.a] ∧ dQ H CK CR CE C es fa ∧ ∀ q ws H',aI H H' → H q = none → H' q = some (.lst ws) → gR H' CE ws es → Q (.ref q) H'
def uI (CK CR CE:Addr):Sp:=fun vs H Q _=>∃ C es fa,vs = [.ref C.a] ∧ dQ H CK CR CE C es fa ∧ ∀ q H',aI H H' → H q = none → H' q = some (.lst fa) → Q (.ref q) H'
def jb (K:W.Frag) (H:Hp) (CA:Addr) (R:List Rt) (ds:List Dd) (th:V):Prop:=jI K H CA th ∨ ∃ x,eM H CA th x ∧ cN R ds x = false
def tM (K:W.Frag) (CK CR CE CA NA:Addr):Sp:=fun vs H Q E=>∃ C es fa ds th,vs = [.ref C.a,th] ∧ dQ H CK CR CE C es fa ∧ bj H CA fa ds ∧ fa.length ≤ 1000 ∧
 ((jb K H CA (av es).r ds th ∧ ∀ x H',aI H H' → H' x = some (.xd [("place",.int (fa.length:Int))]) → E (.ref NA) (some x) H') ∨
 ∃ x,eM H CA th x ∧ cN (av es).r ds x = true ∧ ∀ H',(∀ b u,b ≠ C.d → H b = some u → H' b = some u) → H' C.d = some (.lst (fa ++ [th])) → Q .ax H')
def sV (K:W.Frag) (CK CR CE CA:Addr):Sp:=fun vs H Q _=>∃ C es fa ds th,vs = [.ref C.a,th,.int (fa.length:Int)] ∧ dQ H CK CR CE C es fa ∧ bj H CA fa ds ∧ fa.length ≤ 1000 ∧
 ((jb K H CA (av es).r ds th ∧ ∀ H',aI H H' → Q (.bl false) H') ∨
 ∃ x,eM H CA th x ∧ cN (av es).r ds x = true ∧ ∀ H',(∀ b u,b ≠ C.d → H b = some u → H' b = some u) → H' C.d = some (.lst (fa ++ [th])) → Q (.bl true) H')
def iz:List V:=[.bl false,.bl false,.bl true,.bl false,.bl false,.bl true]
def ug (NA:Addr):Sp:=fun vs H Q _=>∃ x,vs = [.ref x] ∧ XE H x NA ∧ ∀ q H',aI H H' → H' q = some (.lst iz) → Q (.ref q) H'
theorem rN {K:W.Frag} {H:Hp} {a C dx:Addr} {fs:List (Str × V)} {n:String} (ha:H a = some (.ins C dx fs)) (ty:dZ K H (.ref a) (.type n)):False:=by
 cases ty with
 | lst e=>rw [ha] at e; cases e
 | frz e=>rw [ha] at e; cases e
 | tup e=>rw [ha] at e; cases e
 | dK e=>rw [ha] at e; cases e
 | dT e=>rw [ha] at e; cases e
theorem pX {H:Hp} {CA:Addr} {v:V} {x y:Dd} (hx:eM H CA v x) (hy:eM H CA v y):x = y:=by
 obtain ⟨a,dx,rfl,ha⟩:=hx
 obtain ⟨b,dy,e,hb⟩:=hy
 cases e
 rw [ha] at hb
 obtain ⟨d,z,n⟩:=x
 obtain ⟨d',z',n'⟩:=y
 have hb:=HO.ins.inj (Option.some.inj hb)
 have e:=hb.2.2
 simp only [xK,List.cons.injEq,Prod.mk.injEq,V.int.injEq,V.str.injEq] at e
 obtain ⟨⟨_,rfl⟩,⟨_,rfl⟩,⟨_,rfl⟩,_⟩:=e
 rfl
def vF (CA:Addr):Sp:=fun vs H Q _=>∃ q fa ds l ls,vs = [.ref q,.ref l] ∧ H q = some (.lst fa) ∧ bj H CA fa ds ∧ H l = some (.lst ls) ∧ bN H ls ds ∧ fa.length ≤ 1000 ∧ ∀ H',aI H H' → Q (.bl true) H'
theorem pj {es:List En} (okk:∀ e ∈ es,iE e) (nd:(es.map (·.n)).Nodup) {e:En} (he:e ∈ es):∃ o,bg (ba (av es)) (Sum.inl e.n) = some (.str o) ∧ ((o = Str.ofString "right" ∧ ∃ y,bU (av es).r e.n = some y ∧ y.e = e) ∨ (o ≠ Str.ofString "right" ∧ bU (av es).r e.n = none)):=by
 have rok:=wy okk nd
 obtain ⟨i1,i2⟩:=iu es
 obtain ⟨o,ho,hr⟩:=i2 e he
 refine ⟨o,?_,?_⟩
 ·have key:∀ (l:List (Int × Str)),(l.map (·.1)).Nodup → (e.n,o) ∈ l → bg (l.map fun p=>((Sum.inl p.1:Key),V.str p.2)) (Sum.inl e.n) = some (.str o):=by
   intro l
   induction l with
   | nil=>intro _ h; cases h
   | cons p r ih =>
    intro nd h
    rw [List.map_cons,List.nodup_cons] at nd
    rw [List.map_cons]
    rcases List.mem_cons.mp h with q | q
    ·rw [bO (by rw [← q]),← q]
    ·have ne:p.1 ≠ e.n:=fun z=>nd.1 (by rw [z]; exact List.mem_map_of_mem (f:=fun p:Int × Str=>p.1) q)
     rw [bC (fun z=>ne (Sum.inl.inj z))]
     exact ih nd.2 q
  exact key _ rok.nd ho
 ·by_cases e1:o = Str.ofString "right"
  ·obtain ⟨y,hy,e2⟩:=hr e1
   exact .inl ⟨e1,y,by rw [← e2]; exact oW rok.rn hy,e2⟩
  ·refine .inr ⟨e1,?_⟩
   cases q:bU (av es).r e.n with
   | none=>rfl
   | some y =>
    obtain ⟨hy,hn⟩:=df q
    have h2:=(i1 y hy).2
    rw [hn] at h2
    have key:∀ (l:List (Int × Str)),(l.map (·.1)).Nodup → ∀ a b,(e.n,a) ∈ l → (e.n,b) ∈ l → a = b:=by
     intro l
     induction l with
     | nil=>intro _ a b h; cases h
     | cons p r ih =>
      intro nd a b ha hb
      rw [List.map_cons,List.nodup_cons] at nd
      rcases List.mem_cons.mp ha with qa | qa <;> rcases List.mem_cons.mp hb with qb | qb
      ·rw [← qa] at qb; cases qb; rfl
      ·exact absurd (by have z:=List.mem_map_of_mem (f:=fun p:Int × Str=>p.1) qb; rw [← qa]; exact z) nd.1
      ·exact absurd (by have z:=List.mem_map_of_mem (f:=fun p:Int × Str=>p.1) qa; rw [← qb]; exact z) nd.1
      ·exact ih nd.2 a b qa qb
    exact absurd (key _ rok.nd _ _ ho h2) e1
theorem jF {es:List En} {n:Int} (h:∀ e ∈ es,e.n ≠ n):bU (av es).r n = none:=by
 cases q:bU (av es).r n with
 | none=>rfl
 | some y =>
  obtain ⟨hy,hn⟩:=df q
  exact absurd hn (h _ ((iu es).1 y hy).1)
def xE:Sp:=fun vs H Q _=>∃ l ws es t dw dn dr a x m,vs = [.ref l,.ref t,.ref a,.int m] ∧ H l = some (.lst ws) ∧ cy H ws es ∧ (∀ e ∈ es,iE e) ∧ (es.map (·.n)).Nodup ∧ es.length ≤ 84 ∧ H t = some (.tup [.ref dw,dn,dr]) ∧ H dw = some (.dK (ba (av es))) ∧ H a = some (.tup (qe x)) ∧ ∀ H',aI H H' → Q (.bl (decide (m ≤ x.d) && eR (av es).r x)) H'
def sQ:Sp:=fun vs H Q _=>∃ l ws es t dw dn dr n m,vs = [.ref l,.ref t,.int n,.int m] ∧ H l = some (.lst ws) ∧ cy H ws es ∧ (∀ e ∈ es,iE e) ∧ (es.map (·.n)).Nodup ∧ es.length ≤ 84 ∧ es ≠ [] ∧ (∀ e ∈ es,1 ≤ e.n ∧ e.n ≤ 1000000000) ∧ H t = some (.tup [.ref dw,dn,dr]) ∧ H dw = some (.dK (ba (av es))) ∧ 1 ≤ n ∧ n ≤ 1000000000 ∧ ∀ r H',aI H H' → 1 ≤ r → r ≤ 1000000000 → Q (.int r) H'
structure gX (ds:List Dd):Prop where
 up:ds.Pairwise fun x y=>x.d ≤ y.d
 dd:∀ x ∈ ds,1 ≤ x.d ∧ x.d ≤ 1000000
theorem gX.last {ds:List Dd} (h:gX ds) {x:Dd} {m:Int} (h1:ds = [] → m = 1) (h2:ds ≠ [] → m ∈ ds.map (·.d) ∧ ∀ z ∈ ds.map (·.d),z ≤ m) (hx:1 ≤ x.d):cq ds x = decide (m ≤ x.d):=by
 by_cases e:ds = []
 ·rw [h1 e,decide_eq_true hx,e]
  rfl
 ·obtain ⟨d0,dv,rfl⟩:∃ d0 dv,ds = d0 ++ [dv]:=⟨_,_,(List.dropLast_concat_getLast e).symm⟩
  obtain ⟨h3,h4⟩:=h2 e
  have eL:cq (d0 ++ [dv]) x = decide (dv.d ≤ x.d):=by unfold cq; rw [List.getLast?_append]; rfl
  rw [eL]
  have a1:=h4 dv.d (by simp)
  have a2:m ≤ dv.d:=by
   obtain ⟨y,hy,rfl⟩:=List.mem_map.mp h3
   rcases List.mem_append.mp hy with q | q
   ·exact (List.pairwise_append.mp h.up).2.2 y q dv (List.mem_singleton.mpr rfl)
   ·rw [List.mem_singleton.mp q]; exact Int.le_refl _
  have a3:m = dv.d:=by omega
  rw [a3]
theorem gX.push {ds:List Dd} (h:gX ds) {x:Dd} (hl:cq ds x = true) (h1:1 ≤ x.d) (h2:x.d ≤ 1000000):gX (ds ++ [x]):=by
 refine ⟨List.pairwise_append.mpr ⟨h.up,List.pairwise_singleton ..,fun y hy z hz=>?_⟩,fun y hy=>?_⟩
 ·rw [List.mem_singleton.mp hz]
  by_cases e:ds = []
  ·rw [e] at hy; cases hy
  ·obtain ⟨d0,dv,rfl⟩:∃ d0 dv,ds = d0 ++ [dv]:=⟨_,_,(List.dropLast_concat_getLast e).symm⟩
   have eL:cq (d0 ++ [dv]) x = decide (dv.d ≤ x.d):=by unfold cq; rw [List.getLast?_append]; rfl
   rw [eL] at hl
   have hl:=of_decide_eq_true hl
   rcases List.mem_append.mp hy with q | q
   ·have:=(List.pairwise_append.mp h.up).2.2 y q dv (List.mem_singleton.mpr rfl)
    omega
   ·rw [List.mem_singleton.mp q]; exact hl
 ·rcases List.mem_append.mp hy with q | q
  ·exact h.dd y q
  ·rw [List.mem_singleton.mp q]; exact ⟨h1,h2⟩
theorem clamp {M d:Int} (hM:1 ≤ M):1 ≤ (if (if d < M then d else M) > 1 then (if d < M then d else M) else 1) ∧ (if (if d < M then d else M) > 1 then (if d < M then d else M) else 1) ≤ M:=by
 constructor <;> (repeat' split) <;> omega
def vX (C:CA) (ac:Addr) (H H':Hp):Prop:=∀ b u,b ≠ C.d → b ≠ ac → H b = some u → H' b = some u
theorem vX.same {C:CA} {ac:Addr} {H G G':Hp} (h:vX C ac H G) (s:aI G G'):vX C ac H G':=fun b u n1 n2 hb=>s _ _ (h b u n1 n2 hb)
theorem vX.old {C:CA} {ac:Addr} {G2 H G:Hp} (h:vX C ac H G) (s:aI G2 H) (h1:G2 C.d = none) (h2:G2 ac = none):aI G2 G:=fun b u hb=>h b u (fun z=>by rw [z,h1] at hb; cases hb) (fun z=>by rw [z,h2] at hb; cases hb) (s _ _ hb)
def wb (CK CR CE CA:Addr):Sp:=fun vs H Q _=>∃ C es fa ds l ws en e0 ac as m G2,vs = [.ref C.a,.ref l,.ref en,.ref ac,.int m] ∧ dQ H CK CR CE C es fa ∧ bj H CA fa ds ∧ fa.length < 200 ∧ aI G2 H ∧ G2 C.d = none ∧ G2 ac = none ∧ H l = some (.lst ws) ∧ l ≠ C.d ∧ l ≠ ac ∧ cy G2 ws es ∧ (∀ e ∈ es,iE e) ∧ (es.map (·.n)).Nodup ∧ es.length ≤ 84 ∧ es ≠ [] ∧ (∀ e ∈ es,1 ≤ e.n ∧ e.n ≤ 1000000000) ∧ G2 en = some (.lst (bS e0)) ∧ 1 ≤ e0.n ∧ e0.n ≤ 1000000000 ∧ H ac = some (.lst as) ∧ bN H as ds ∧ gX ds ∧ ac ≠ C.d ∧ ac ≠ C.e ∧ ac ≠ C.p ∧ 0 ≤ m ∧
 ∀ fa' ds' as' H',vX C ac H H' → dQ H' CK CR CE C es fa' → bj H' CA fa' ds' → H' ac = some (.lst as') → bN H' as' ds' → gX ds' → fa'.length ≤ fa.length + 1 → Q (.bl true) H'
theorem qK {R:List Rt} {e:En} {z:List Str} (h:bM R e = some z):z.getLast? = some e.w:=by
 unfold bM at h
 split at h
 ·cases h; rfl
 ·split at h
  ·cases h
  ·split at h
   ·cases h; exact List.getLast?_concat
   ·cases h
theorem qW (es:List En):∀ x ∈ (av es).r,x.nm.getLast? = some x.e.w:=by
 have:∀ (es:List En) (s:Rs),(∀ x ∈ s.r,x.nm.getLast? = some x.e.w) → ∀ x ∈ (es.foldl bL s).r,x.nm.getLast? = some x.e.w:=by
  intro es
  induction es with
  | nil=>intro s h; exact h
  | cons e r ih =>
   intro s h
   refine ih _ fun x hx=>?_
   have hx:x ∈ (if cV s e = Str.ofString "right" then s.r ++ [⟨e,(bM s.r e).getD []⟩] else s.r):=hx
   by_cases q:cV s e = Str.ofString "right"
   ·rw [if_pos q] at hx
    rcases List.mem_append.mp hx with z | z
    ·exact h x z
    ·obtain ⟨nm,hn,_⟩:=gH q
     rw [List.mem_singleton.mp z]
     show ((bM s.r e).getD []).getLast? = some e.w
     rw [hn]
     exact qK hn
   ·rw [if_neg q] at hx
    exact h x hx
 exact this es ⟨[],[],[]⟩ fun _ h=>nomatch h
theorem qy {es:List En} {e:En} (hr:e.r = Str.ofString "genus") (hb:e.b = none) (hk:e.k = true) (hw:e.w ∉ es.map (·.w)):cV (av es) e = Str.ofString "right" ∧ bM (av es).r e = some [e.w]:=by
 have h1:bM (av es).r e = some [e.w]:=by unfold bM; rw [if_pos hr]
 refine ⟨?_,h1⟩
 unfold cV
 rw [h1]
 unfold eP
 rw [if_neg (fun z=>by rw [hk] at z; exact absurd z.2 (by decide)),hb]
 show dj (av es).r [e.w] = _
 unfold dj
 refine if_neg fun z=>?_
 obtain ⟨x,hx,hd⟩:=List.any_eq_true.mp z
 have h2:=qW es x hx
 rw [of_decide_eq_true hd] at h2
 have h2:some e.w = some x.e.w:=h2
 exact hw (by rw [Option.some.inj h2]; exact List.mem_map_of_mem (f:=fun x:En=>x.w) ((iu es).1 x hx).1)
theorem tY {R:List Rt} {y:Rt} (h:bU R y.e.n = none):bU (R ++ [y]) y.e.n = some y:=by
 unfold bU at *
 rw [List.find?_append,h,List.find?_cons_of_pos (p:=fun x:Rt=>decide (x.e.n = y.e.n)) (decide_eq_true rfl)]
 rfl
theorem pO {es:List En} {e:En} {ds:List Dd} {x:Dd} (hr:e.r = Str.ofString "genus") (hb:e.b = none) (hk:e.k = true) (hw:e.w ∉ es.map (·.w)) (hn:∀ y ∈ es,y.n ≠ e.n) (xn:x.n = e.n) (ed:e.d ≤ x.d) (hd:∀ y ∈ ds,y.d ≤ x.d):cN (av (es ++ [e])).r ds x = true:=by
 unfold cN cq eR
 rw [fT]
 have g:=qy (es:=es) hr hb hk hw
 have e1:(bL (av es) e).r = (av es).r ++ [⟨e,[e.w]⟩]:=by
  show (if cV (av es) e = Str.ofString "right" then (av es).r ++ [⟨e,(bM (av es).r e).getD []⟩] else (av es).r) = _
  rw [if_pos g.1,g.2]
  rfl
 rw [e1,xn,tY (y:=⟨e,[e.w]⟩) (jF hn),Bool.and_eq_true]
 constructor
 ·cases q:ds.getLast? with
  | none=>rfl
  | some y=>exact decide_eq_true (hd y (List.mem_of_getLast? q))
 ·show (decide (e.b = none) && decide (e.d ≤ x.d)) = true
  rw [decide_eq_true hb,decide_eq_true ed]
  rfl
def t8 (i:Nat):Str:=(Str.ofString "zz" ++ ⟨#[97 + i / 26]⟩) ++ ⟨#[97 + i % 26]⟩
theorem tO:∀ i < 41,isWord (.str (t8 i)) = true:=by decide +kernel
theorem mw {n:Str}:∀ {ns:List Str},pe (.str n) (ns.map V.str) = true ↔ n ∈ ns:=by
 intro ns
 unfold pe
 rw [List.any_eq_true]
 constructor
 ·rintro ⟨v,hv,q⟩
  obtain ⟨z,hz,rfl⟩:=List.mem_map.mp hv
  have:z = n:=by simpa [hX] using q
  exact this ▸ hz
 ·intro h
  exact ⟨_,List.mem_map_of_mem h,by simp [hX]⟩
theorem rL:∀ i < 26,(Str.ofString "abcdefghijklmnopqrstuvwxyz").cps.toList[i]? = some (97 + i):=by decide +kernel
theorem zh {num:Int} {wd:Str} (h1:1 ≤ num) (h2:num ≤ 1000000000) (ww:isWord (.str wd) = true):iE ⟨num,1000000,Str.ofString "genus",wd,none,some 5,none,true⟩ :=
 mI (cX h1 h2) (cX (by show (1:Int) ≤ 1000000; decide) (by show (1000000:Int) ≤ 1000000; decide)) (by show de (.str (Str.ofString "genus")) = true; decide +kernel) ww (by show bD (.str (Str.ofString "genus")) .ax = true; rw [pk]; exact decide_eq_true rfl) (by show bR (.str (Str.ofString "genus")) (.int 5) .ax = true; rw [rG]; exact cX (by decide) (by decide))
theorem tj {xs ys:List Str}:∀ (nd:xs.Nodup) (h:∀ x ∈ xs,x ∈ ys),xs.length ≤ ys.length:=by
 induction xs generalizing ys with
 | nil=>intro _ _; exact Nat.zero_le _
 | cons x r ih =>
  intro nd h
  rw [List.nodup_cons] at nd
  have h1:=ih (ys:=ys.erase x) nd.2 fun y hy=>(List.mem_erase_of_ne (fun z=>nd.1 (by rw [← z]; exact hy))).mpr (h y (List.mem_cons_of_mem _ hy))
  have hx:=h x (List.mem_cons_self ..)
  rw [List.length_erase_of_mem hx] at h1
  have:0 < ys.length:=List.length_pos_of_mem hx
  rw [List.length_cons]
  omega
theorem qg {us:List Str} (h:us.length ≤ 40):∃ i,i < 41 ∧ t8 i ∉ us:=by
 by_cases z:∃ i,i < 41 ∧ t8 i ∉ us
 ·exact z
 ·exfalso
  have nd:((List.range 41).map t8).Nodup:=by decide +kernel
  have:=tj nd (ys:=us) fun x hx=>by
   obtain ⟨i,hi,rfl⟩:=List.mem_map.mp hx
   exact Decidable.byContradiction fun q=>z ⟨i,List.mem_range.mp hi,q⟩
  rw [List.length_map,List.length_range] at this
  omega
theorem gj (x y:En):eG x y = true ↔ x.d < y.d ∨ x.d = y.d ∧ x.n < y.n:=by
 show (if x.d = y.d then (if x.n = y.n then false else decide (x.n < y.n)) else decide (x.d < y.d)) = true ↔ _
 by_cases h:x.d = y.d
 ·rw [if_pos h]
  by_cases h2:x.n = y.n
  ·rw [if_pos h2]
   exact ⟨fun z=>(nomatch z),fun z=>by omega⟩
  ·rw [if_neg h2,decide_eq_true_iff]
   exact ⟨fun z=>.inr ⟨h,z⟩,fun z=>by omega⟩
 ·rw [if_neg h,decide_eq_true_iff]
  exact ⟨fun z=>.inl z,fun z=>by omega⟩
theorem wJ {ns:List Int} {num:Int} (h1:1 ≤ num) (h:∀ i,1 ≤ i → i < num → i ∈ ns):num ≤ ns.length + 1:=by
 have nd:((List.range (num - 1).toNat).map fun i:Nat=>(i:Int) + 1).Nodup:=List.Pairwise.map (R:=(· ≠ ·)) _ (fun a b h z=>h (by omega)) List.nodup_range
 have:=o7 nd (ys:=ns) fun x hx=>by
  obtain ⟨i,hi,rfl⟩:=List.mem_map.mp hx
  have:=List.mem_range.mp hi
  exact h _ (by omega) (by omega)
 rw [List.length_map,List.length_range] at this
 omega
theorem oE:∀ {es:List En} {seen:List Int} {last:Option En},eI seen last (es.map some) = true → es.Pairwise (fun x y=>eG x y = true) ∧ ∀ l,last = some l → ∀ e ∈ es,eG l e = true
 | [],_,_,_=>⟨.nil,fun _ _ _ h=>nomatch h⟩
 | e :: r,seen,last,h=>by
  have h:(!seen.contains e.n && (dB last e && eI (seen ++ [e.n]) (some e) (r.map some))) = true:=h
  rw [Bool.and_eq_true,Bool.and_eq_true] at h
  obtain ⟨_,h1,h2⟩:=h
  obtain ⟨p1,p2⟩:=oE h2
  refine ⟨List.pairwise_cons.mpr ⟨fun y hy=>p2 e rfl y hy,p1⟩,fun l hl x hx=>?_⟩
  subst hl
  have h1:eG l e = true:=h1
  rcases List.mem_cons.mp hx with q | q
  ·rw [q]; exact h1
  ·have a:=(gj _ _).mp h1
   have b:=(gj _ _).mp (p2 e rfl x q)
   exact (gj _ _).mpr (by omega)
theorem uf {es:List En} (pw:es.Pairwise (fun x y=>eG x y = true)) {i:Nat} (hi:i < es.length) {p:List En} (hp:p.Sublist (es.take i)):dB (dD none p) es[i] = true:=by
 cases q:dD none p with
 | none=>rfl
 | some x =>
  rcases gy q with z | z
  ·cases z
  ·obtain ⟨j,hj⟩:=List.getElem?_of_mem (hp.subset z)
   obtain ⟨hj1,hj2⟩:=List.getElem?_eq_some_iff.mp hj
   rw [List.length_take] at hj1
   rw [List.getElem_take] at hj2
   show eG x es[i] = true
   rw [← hj2]
   exact List.pairwise_iff_getElem.mp pw j i (by omega) hi (by omega)
theorem w9 {es:List En} (nd:(es.map (·.n)).Nodup) {i:Nat} (hi:i < es.length) {p:List En} (hp:p.Sublist (es.take i)):es[i].n ∉ p.map (·.n):=fun z=>by
 obtain ⟨x,hx,ex⟩:=List.mem_map.mp z
 have z:es[i].n ∈ (es.take i).map (·.n):=ex ▸ List.mem_map_of_mem (f:=fun x:En=>x.n) (hp.subset hx)
 have:=nd
 have e2:es.map (·.n) = (es.take i).map (·.n) ++ es[i].n :: (es.drop (i + 1)).map (·.n):=by
  rw [← List.map_cons,List.getElem_cons_drop,← List.map_append,List.take_append_drop]
 rw [e2,List.nodup_append] at this
 exact this.2.2 _ z _ (List.mem_cons_self ..) rfl
structure vc (G:Hp) (C:CA):Prop where
 a:G C.a = none
 e:G C.e = none
 d:G C.d = none
 p:G C.p = none
 A:G C.A.a = none
 o1:G C.A.o1 = none
 o2:G C.A.o2 = none
 o3:G C.A.o3 = none
 o4:G C.A.o4 = none
theorem vK.new {C:CA} {G H H':Hp} (f:vK C H H') (fr:vc G C) (s:aI G H):aI G H':=fun b u hb=>f b u (aK hb fr.e) (aK hb fr.o1) (aK hb fr.o2) (aK hb fr.o3) (aK hb fr.o4) (s b u hb)
theorem cy.take {H:Hp} {ws:List V} {es:List En} (h:cy H ws es) (i:Nat):cy H (ws.take i) (es.take i):=by
 refine ⟨by rw [List.length_take,List.length_take,h.1],fun j v x hv hx=>?_⟩
 by_cases hj:j < i
 ·rw [List.getElem?_take_of_lt hj] at hv hx
  exact h.2 j v x hv hx
 ·rw [List.getElem?_eq_none (by rw [List.length_take]; omega)] at hv
  cases hv
def se (K:W.Frag):Sp:=fun vs H Q _=>∃ (a:Addr) (ns:List Int),vs = [.ref a] ∧ aj K H a (ns.map V.int) ∧ ns.length ≤ 63 ∧ ∀ H',Q (.bl true) H'
def top (i:Nat):Stmt:=PySem.Challenge.pw_rightname_k72_entered.main.body.getD i (.Pass ⟨0,0,0,0⟩)
abbrev dq:Stmt:=top 18
abbrev fu:Stmt:=top 19
abbrev dM:Stmt:=top 20
abbrev eY:Stmt:=top 21
abbrev eZ:Stmt:=top 22
abbrev gq:Stmt:=top 23
abbrev cT:Stmt:=top 26
abbrev cg:Stmt:=top 27
abbrev d8:Stmt:=top 28
abbrev gn:Stmt:=top 29
abbrev eW:Stmt:=top 35
abbrev cn:Stmt:=top 36
abbrev cf:Stmt:=top 37
abbrev d4:Stmt:=top 41
abbrev fk:Stmt:=top 42
abbrev fS:Stmt:=top 43
abbrev fV:Stmt:=top 44
abbrev fU:Stmt:=top 45
abbrev dP:Stmt:=top 46
abbrev fg:Stmt:=top 47
abbrev gw:Stmt:=top 48
abbrev gi:Stmt:=top 49
abbrev fZ:Stmt:=top 50
abbrev gk:Stmt:=top 51
abbrev gm:Stmt:=top 52
abbrev lY:Stmt:=top 53
abbrev d9:Stmt:=top 54
abbrev eV:Stmt:=top 55
abbrev gf:Stmt:=top 56
abbrev gx:Stmt:=top 57
abbrev eU:Stmt:=top 58
abbrev fm:Stmt:=top 59
abbrev hJ:Stmt:=top 60
abbrev ir:Stmt:=top 61
abbrev lP:Stmt:=top 62
abbrev cI:Stmt:=inClass (top 25) 0
abbrev cF:Stmt:=inClass (top 31) 0
abbrev d5:Stmt:=inClass (top 34) 0
abbrev ck:Stmt:=inClass (top 39) 0
abbrev cj:Stmt:=inClass (top 3) 0
abbrev cR:Stmt:=inClass (top 31) 1
abbrev bW:Stmt:=inClass (top 31) 2
abbrev bF:Stmt:=inClass (top 31) 3
abbrev bq:Stmt:=inClass (top 39) 1
abbrev cS:Stmt:=inClass (top 39) 2
abbrev cw:Stmt:=inClass (top 39) 6
abbrev cm:Stmt:=inClass (top 39) 7
theorem oY {vs:List V} {us:List Value} {zs:List V} {ws:List Value} (r:Vals vs us) (rz:Vals zs ws):Vals ((fun us ws=>us ++ (match ws with | []=>[] | _=>[]):List V → List V → List V) vs zs) ((fun us ws=>us ++ (match ws with | []=>[] | _=>[]):List Value → List Value → List Value) us ws):=by
 refine r.append ?_
 cases rz with
 | nil=>exact .nil
 | cons _ _=>exact .nil
theorem ox {K:W.Frag} {T f:Addr} {fd:FuncData} {o:Obj} {n:Nat} (F:jY K "__init__" "Entry.__init__" cI (.ref T) f fd) (hT:K.lookup T = some o) (hs:o.data = .seq #[.none,.none,.none,.bool true] n):cA K fd ["self", "number", "day", "rank", "word", "under", "sheet", "base", "described"] [] 8 (fun us ws=>us ++ (match ws with | []=>[] | _=>[])) (fun us ws=>us ++ (match ws with | []=>[] | _=>[])) :=
 .ofD F hT hs oY fun _ _ _ _ _ _ y us ws h1 h2=>by
  obtain ⟨a0,us0,rfl,g0⟩:=af h1
  obtain ⟨a1,us1,rfl,g1⟩:=af g0
  obtain ⟨a2,us2,rfl,g2⟩:=af g1
  obtain ⟨a3,us3,rfl,g3⟩:=af g2
  obtain ⟨a4,us4,rfl,g4⟩:=af g3
  obtain ⟨a5,us5,rfl,g5⟩:=af g4
  obtain ⟨a6,us6,rfl,g6⟩:=af g5
  obtain ⟨a7,us7,rfl,g7⟩:=af g6
  obtain rfl:=len0 g7
  obtain rfl:=len0 h2
  exact ⟨⟨_,rfl,rfl⟩,rfl⟩
theorem oJ {vs:List V} {us:List Value} {zs:List V} {ws:List Value} (r:Vals vs us) (rz:Vals zs ws):Vals ((fun us ws=>us ++ (match ws with | []=>[.ax,.bl true] | _=>[]):List V → List V → List V) vs zs) ((fun us ws=>us ++ (match ws with | []=>[.none,.bool true] | _=>[]):List Value → List Value → List Value) us ws):=by
 refine r.append ?_
 cases rz with
 | nil=>exact (.cons rfl (.cons rfl .nil))
 | cons _ _=>exact .nil
theorem oh {K:W.Frag} {T f:Addr} {fd:FuncData} {o:Obj} {n:Nat} (F:jY K "__init__" "Entry.__init__" cI (.ref T) f fd) (hT:K.lookup T = some o) (hs:o.data = .seq #[.none,.none,.none,.bool true] n):cA K fd ["self", "number", "day", "rank", "word", "under", "sheet", "base", "described"] [] 6 (fun us ws=>us ++ (match ws with | []=>[.none,.bool true] | _=>[])) (fun us ws=>us ++ (match ws with | []=>[.ax,.bl true] | _=>[])) :=
 .ofD F hT hs oJ fun _ _ _ _ _ _ y us ws h1 h2=>by
  obtain ⟨a0,us0,rfl,g0⟩:=af h1
  obtain ⟨a1,us1,rfl,g1⟩:=af g0
  obtain ⟨a2,us2,rfl,g2⟩:=af g1
  obtain ⟨a3,us3,rfl,g3⟩:=af g2
  obtain ⟨a4,us4,rfl,g4⟩:=af g3
  obtain ⟨a5,us5,rfl,g5⟩:=af g4
  obtain rfl:=len0 g5
  obtain rfl:=len0 h2
  exact ⟨⟨_,rfl,rfl⟩,rfl⟩
theorem rP {K:W.Frag} {f:Addr} {fd:FuncData} (F:jY K "__init__" "Act.__init__" d5 .none f fd):cA K fd ["self", "day", "deed", "number"] [] 3 (fun us _=>us) (fun us _=>us) :=
 .of0 F fun _ _ _ _ _ _ y us h1=>by
  obtain ⟨a0,us0,rfl,g0⟩:=af h1
  obtain ⟨a1,us1,rfl,g1⟩:=af g0
  obtain ⟨a2,us2,rfl,g2⟩:=af g1
  obtain rfl:=len0 g2
  exact ⟨rfl,rfl⟩
theorem oH {K:W.Frag} {T f:Addr} {fd:FuncData} {o:Obj} {n:Nat} {tk:Tok} (F:jY K "__init__" "NoAct.__init__" cj (.ref T) f fd) (hT:K.lookup T = some o) (hs:o.data = .seq #[.int 0 tk] n):cA K fd ["self", "words", "place"] [] 2 (fun us _=>us ++ []) (fun us _=>us ++ []) :=
 .ofD F hT hs (fun r _=>r.append .nil) fun _ _ _ _ _ _ y us ws h1 h2=>by
  obtain ⟨a0,us0,rfl,g0⟩:=af h1
  obtain ⟨a1,us1,rfl,g1⟩:=af g0
  obtain rfl:=len0 g1
  obtain rfl:=len0 h2
  exact ⟨⟨_,rfl,rfl⟩,rfl⟩
structure Fn (K:W.Frag) (mg:Str → Option Value) (x:Str) (st:Stmt) (ps:List Str) (f:Addr) (fd:FuncData):Prop where
 fn:lq K x x st f fd
 mgf:mg x = some (.ref f)
 bi:Binds K fd ps []
theorem Fn.kp {K:W.Frag} {mg:Str → Option Value} {x:Str} {st:Stmt} {ps:List Str} {f:Addr} {fd:FuncData} (F:Fn K mg x st ps f fd):W.keepIn K (.ref f) = true:=F.fn.kp
set_option genInjectivity false in
set_option genSizeOfSpec false in
set_option genSizeOf false in
structure Ad where
 a_is_whole:Addr
 d_is_whole:FuncData
 a_is_day:Addr
 d_is_day:FuncData
 a_is_number:Addr
 d_is_number:FuncData
 a_is_word:Addr
 d_is_word:FuncData
 a_is_rank:Addr
 d_is_rank:FuncData
 a_above:Addr
 d_above:FuncData
 a_refuse_head:Addr
 d_refuse_head:FuncData
 a_under_fits:Addr
 d_under_fits:FuncData
 a_tie_fits:Addr
 d_tie_fits:FuncData
 a_ahead:Addr
 d_ahead:FuncData
 a_is_deed:Addr
 d_is_deed:FuncData
 a_refuse_day:Addr
 d_refuse_day:FuncData
 a_can_follow:Addr
 d_can_follow:FuncData
 a_Lcell_at:Addr
 d_Lcell_at:FuncData
 a_Lwhole:Addr
 d_Lwhole:FuncData
 a_Lmixed:Addr
 d_Lmixed:FuncData
 a_Ldraws:Addr
 d_Ldraws:FuncData
 a_Lwords:Addr
 d_Lwords:FuncData
 a_Lany_word:Addr
 d_Lany_word:FuncData
 a_Lstamp:Addr
 d_Lstamp:FuncData
 a_Lpick:Addr
 d_Lpick:FuncData
 a_Lbase:Addr
 d_Lbase:FuncData
 a_Lentry:Addr
 d_Lentry:FuncData
 a_Lbook:Addr
 d_Lbook:FuncData
 a_Lmade:Addr
 d_Lmade:FuncData
 a_Lup:Addr
 d_Lup:FuncData
 a_Lword_of:Addr
 d_Lword_of:FuncData
 a_Lsieved:Addr
 d_Lsieved:FuncData
 a_Lkind:Addr
 d_Lkind:FuncData
 a_Lfits:Addr
 d_Lfits:FuncData
 a_Lnumber:Addr
 d_Lnumber:FuncData
 a_Lenter:Addr
 d_Lenter:FuncData
 a_Lsame:Addr
 d_Lsame:FuncData
 a_Lone:Addr
 d_Lone:FuncData
 a_law:Addr
 d_law:FuncData
 c_Entry:Addr
 a_Entry_init:Addr
 t_Entry_init:Addr
 d_Entry_init:FuncData
 c_Results:Addr
 a_Results_init:Addr
 d_Results_init:FuncData
 c_Act:Addr
 a_Act_init:Addr
 d_Act_init:FuncData
 c_Clerk:Addr
 a_Clerk_init:Addr
 d_Clerk_init:FuncData
 a_Results_put:Addr
 d_Results_put:FuncData
 a_Results_name_of:Addr
 d_Results_name_of:FuncData
 a_Results_outcome_of:Addr
 d_Results_outcome_of:FuncData
 a_Clerk_publish:Addr
 d_Clerk_publish:FuncData
 a_Clerk_enter:Addr
 d_Clerk_enter:FuncData
 a_Clerk_book:Addr
 d_Clerk_book:FuncData
 a_Clerk_acts:Addr
 d_Clerk_acts:FuncData
 u_MOST_LETTERS:Value
 u_LAST_DAY:Value
 u_LAST_NUMBER:Value
 u_RANKS:Addr
 u_DEEDS:Addr
 u_ABOVE:Addr
 c_NoRank:Addr
 c_NoNumber:Addr
 c_NoDay:Addr
 c_NoWord:Addr
 c_NoEntry:Addr
 c_NoAct:Addr
 c_Late:Addr
 c_RightError:Addr
 c_NoSheet:Addr
 c_NoPath:Addr
 a_NoAct_init:Addr
 t_NoAct_init:Addr
 d_NoAct_init:FuncData
 k_NoAct_2:Tok
structure Txt (w:World) (K:W.Frag) (mg:Str → Option Value) (c:Ad):Prop where
 is_whole:Fn K mg "is_whole" dq ["thing"] c.a_is_whole c.d_is_whole
 is_day:Fn K mg "is_day" fu ["thing"] c.a_is_day c.d_is_day
 is_number:Fn K mg "is_number" dM ["thing"] c.a_is_number c.d_is_number
 is_word:Fn K mg "is_word" eY ["thing"] c.a_is_word c.d_is_word
 is_rank:Fn K mg "is_rank" eZ ["thing"] c.a_is_rank c.d_is_rank
 above:Fn K mg "above" gq ["rank"] c.a_above c.d_above
 refuse_head:Fn K mg "refuse_head" cT ["number", "day", "rank", "word"] c.a_refuse_head c.d_refuse_head
 under_fits:Fn K mg "under_fits" cg ["rank", "under"] c.a_under_fits c.d_under_fits
 tie_fits:Fn K mg "tie_fits" d8 ["rank", "sheet", "base"] c.a_tie_fits c.d_tie_fits
 ahead:Fn K mg "ahead" gn ["one", "other"] c.a_ahead c.d_ahead
 is_deed:Fn K mg "is_deed" eW ["thing"] c.a_is_deed c.d_is_deed
 refuse_day:Fn K mg "refuse_day" cn ["day"] c.a_refuse_day c.d_refuse_day
 can_follow:Fn K mg "can_follow" cf ["results", "ahead_of_it", "thing"] c.a_can_follow c.d_can_follow
 Lcell_at:Fn K mg "_law_cell_at" d4 ["_law_script", "_law_k"] c.a_Lcell_at c.d_Lcell_at
 Lwhole:Fn K mg "_law_whole" fk ["_law_found"] c.a_Lwhole c.d_Lwhole
 Lmixed:Fn K mg "_law_mixed" fS ["_law_cell", "_law_k"] c.a_Lmixed c.d_Lmixed
 Ldraws:Fn K mg "_law_draws" fV ["_law_cell", "_law_k", "_law_free"] c.a_Ldraws c.d_Ldraws
 Lwords:Fn K mg "_law_words" fU ["_law_cell", "_law_free"] c.a_Lwords c.d_Lwords
 Lany_word:Fn K mg "_law_any_word" dP ["_law_number_here"] c.a_Lany_word c.d_Lany_word
 Lstamp:Fn K mg "_law_stamp" fg ["_law_book_here", "_law_one_here", "_law_other"] c.a_Lstamp c.d_Lstamp
 Lpick:Fn K mg "_law_pick" gw ["_law_book_here", "_law_rank", "_law_one_here", "_law_other"] c.a_Lpick c.d_Lpick
 Lbase:Fn K mg "_law_base" gi ["_law_book_here", "_law_rank", "_law_one_here", "_law_other"] c.a_Lbase c.d_Lbase
 Lentry:Fn K mg "_law_entry" fZ ["_law_book_here", "_law_words_here", "_law_cell", "_law_k", "_law_free"] c.a_Lentry c.d_Lentry
 Lbook:Fn K mg "_law_book" gk ["_law_script", "_law_start"] c.a_Lbook c.d_Lbook
 Lmade:Fn K mg "_law_made" gm ["_law_book_here"] c.a_Lmade c.d_Lmade
 Lup:Fn K mg "_law_up" lY ["_law_rank"] c.a_Lup c.d_Lup
 Lword_of:Fn K mg "_law_word_of" d9 ["_law_one_here", "_law_name", "_law_right", "_law_borne"] c.a_Lword_of c.d_Lword_of
 Lsieved:Fn K mg "_law_sieved" eV ["_law_book_here"] c.a_Lsieved c.d_Lsieved
 Lkind:Fn K mg "_law_kind" gf ["_law_error"] c.a_Lkind c.d_Lkind
 Lfits:Fn K mg "_law_fits" gx ["_law_book_here", "_law_known", "_law_act", "_law_last"] c.a_Lfits c.d_Lfits
 Lnumber:Fn K mg "_law_number" eU ["_law_book_here", "_law_known", "_law_number_here", "_law_mixed_here"] c.a_Lnumber c.d_Lnumber
 Lenter:Fn K mg "_law_enter" fm ["_law_clerk", "_law_thing", "_law_place"] c.a_Lenter c.d_Lenter
 Lsame:Fn K mg "_law_same" hJ ["_law_found", "_law_acts"] c.a_Lsame c.d_Lsame
 Lone:Fn K mg "_law_one" ir ["_law_clerk", "_law_book_here", "_law_entry_here", "_law_acts", "_law_mixed_here"] c.a_Lone c.d_Lone
 law:Fn K mg "law" lP ["_law_script"] c.a_law c.d_law
 mg_Entry:mg "Entry" = some (.ref c.c_Entry)
 cl_Entry:oF K c.c_Entry
 mk_Entry:Mk K c.c_Entry c.a_Entry_init
 Entry_init:jY K "__init__" "Entry.__init__" cI (.ref c.t_Entry_init) c.a_Entry_init c.d_Entry_init
 na_Entry_number:bZ K c.c_Entry "number"
 na_Entry_day:bZ K c.c_Entry "day"
 na_Entry_rank:bZ K c.c_Entry "rank"
 na_Entry_word:bZ K c.c_Entry "word"
 na_Entry_under:bZ K c.c_Entry "under"
 na_Entry_sheet:bZ K c.c_Entry "sheet"
 na_Entry_base:bZ K c.c_Entry "base"
 na_Entry_described:bZ K c.c_Entry "described"
 b_Entry_8:cA K c.d_Entry_init ["self", "number", "day", "rank", "word", "under", "sheet", "base", "described"] [] 8 (fun us ws=>us ++ (match ws with | []=>[] | _=>[])) (fun us ws=>us ++ (match ws with | []=>[] | _=>[]))
 b_Entry_6:cA K c.d_Entry_init ["self", "number", "day", "rank", "word", "under", "sheet", "base", "described"] [] 6 (fun us ws=>us ++ (match ws with | []=>[.none,.bool true] | _=>[])) (fun us ws=>us ++ (match ws with | []=>[.ax,.bl true] | _=>[]))
 mg_Results:mg "Results" = some (.ref c.c_Results)
 cl_Results:oF K c.c_Results
 Results_init:lq K "__init__" "Results.__init__" cF c.a_Results_init c.d_Results_init
 bi_Results_init:Binds K c.d_Results_init ["self"] []
 mk_Results:Mk K c.c_Results c.a_Results_init
 na_Results_outs:bZ K c.c_Results "outs"
 na_Results_names:bZ K c.c_Results "names"
 na_Results_rights:bZ K c.c_Results "rights"
 na_Results_holders:bZ K c.c_Results "holders"
 mg_Act:mg "Act" = some (.ref c.c_Act)
 cl_Act:oF K c.c_Act
 mk_Act:Mk K c.c_Act c.a_Act_init
 Act_init:jY K "__init__" "Act.__init__" d5 .none c.a_Act_init c.d_Act_init
 na_Act_day:bZ K c.c_Act "day"
 na_Act_deed:bZ K c.c_Act "deed"
 na_Act_number:bZ K c.c_Act "number"
 b_Act_3:cA K c.d_Act_init ["self", "day", "deed", "number"] [] 3 (fun us _=>us) (fun us _=>us)
 mg_Clerk:mg "Clerk" = some (.ref c.c_Clerk)
 cl_Clerk:oF K c.c_Clerk
 Clerk_init:lq K "__init__" "Clerk.__init__" ck c.a_Clerk_init c.d_Clerk_init
 bi_Clerk_init:Binds K c.d_Clerk_init ["self"] []
 mk_Clerk:Mk K c.c_Clerk c.a_Clerk_init
 na_Clerk_entries:bZ K c.c_Clerk "entries"
 na_Clerk_results:bZ K c.c_Clerk "results"
 na_Clerk_deeds:bZ K c.c_Clerk "deeds"
 na_Clerk_piles:bZ K c.c_Clerk "piles"
 Results_put:lq K "put" "Results.put" cR c.a_Results_put c.d_Results_put
 bi_Results_put:Binds K c.d_Results_put ["self", "entry"] []
 m_Results_put:Meth K c.c_Results "put" c.a_Results_put
 Results_name_of:lq K "name_of" "Results.name_of" bW c.a_Results_name_of c.d_Results_name_of
 bi_Results_name_of:Binds K c.d_Results_name_of ["self", "entry"] []
 m_Results_name_of:Meth K c.c_Results "name_of" c.a_Results_name_of
 Results_outcome_of:lq K "outcome_of" "Results.outcome_of" bF c.a_Results_outcome_of c.d_Results_outcome_of
 bi_Results_outcome_of:Binds K c.d_Results_outcome_of ["self", "entry", "name"] []
 m_Results_outcome_of:Meth K c.c_Results "outcome_of" c.a_Results_outcome_of
 Clerk_publish:lq K "publish" "Clerk.publish" bq c.a_Clerk_publish c.d_Clerk_publish
 bi_Clerk_publish:Binds K c.d_Clerk_publish ["self", "entry"] []
 m_Clerk_publish:Meth K c.c_Clerk "publish" c.a_Clerk_publish
 Clerk_enter:lq K "enter" "Clerk.enter" cS c.a_Clerk_enter c.d_Clerk_enter
 bi_Clerk_enter:Binds K c.d_Clerk_enter ["self", "act"] []
 m_Clerk_enter:Meth K c.c_Clerk "enter" c.a_Clerk_enter
 Clerk_book:lq K "book" "Clerk.book" cw c.a_Clerk_book c.d_Clerk_book
 bi_Clerk_book:Binds K c.d_Clerk_book ["self"] []
 m_Clerk_book:Meth K c.c_Clerk "book" c.a_Clerk_book
 Clerk_acts:lq K "acts" "Clerk.acts" cm c.a_Clerk_acts c.d_Clerk_acts
 bi_Clerk_acts:Binds K c.d_Clerk_acts ["self"] []
 m_Clerk_acts:Meth K c.c_Clerk "acts" c.a_Clerk_acts
 mg_MOST_LETTERS:mg "MOST_LETTERS" = some c.u_MOST_LETTERS
 rl_MOST_LETTERS:RelV (.int 12) c.u_MOST_LETTERS
 mg_LAST_DAY:mg "LAST_DAY" = some c.u_LAST_DAY
 rl_LAST_DAY:RelV (.int 1000000) c.u_LAST_DAY
 mg_LAST_NUMBER:mg "LAST_NUMBER" = some c.u_LAST_NUMBER
 rl_LAST_NUMBER:RelV (.int 1000000000) c.u_LAST_NUMBER
 mg_RANKS:mg "RANKS" = some (.ref c.u_RANKS)
 sq_RANKS:∀ H,eX K H c.u_RANKS [.str "genus",.str "species",.str "form"]
 mg_DEEDS:mg "DEEDS" = some (.ref c.u_DEEDS)
 sq_DEEDS:∀ H,eX K H c.u_DEEDS [.str "keep",.str "strike",.str "leave"]
 mg_ABOVE:mg "ABOVE" = some (.ref c.u_ABOVE)
 kd_ABOVE:iA w K c.u_ABOVE ([("genus",.ax),("species",.str "genus"),("form",.str "species")]:List (Str × V))
 mg_NoRank:mg "NoRank" = some (.ref c.c_NoRank)
 mg_NoNumber:mg "NoNumber" = some (.ref c.c_NoNumber)
 mg_NoDay:mg "NoDay" = some (.ref c.c_NoDay)
 mg_NoWord:mg "NoWord" = some (.ref c.c_NoWord)
 mg_NoEntry:mg "NoEntry" = some (.ref c.c_NoEntry)
 mg_NoAct:mg "NoAct" = some (.ref c.c_NoAct)
 mg_Late:mg "Late" = some (.ref c.c_Late)
 mg_RightError:mg "RightError" = some (.ref c.c_RightError)
 mg_NoSheet:mg "NoSheet" = some (.ref c.c_NoSheet)
 mg_NoPath:mg "NoPath" = some (.ref c.c_NoPath)
 x_NoRank:iL K c.c_NoRank
 q_NoRank:eK K c.c_NoRank
 i_NoRank_NoEntry:W.kitOne K (.ref c.c_NoRank) (.ref c.c_NoEntry) = some false
 i_NoRank_Late:W.kitOne K (.ref c.c_NoRank) (.ref c.c_Late) = some false
 i_NoRank_NoAct:W.kitOne K (.ref c.c_NoRank) (.ref c.c_NoAct) = some false
 i_NoRank_NoSheet:W.kitOne K (.ref c.c_NoRank) (.ref c.c_NoSheet) = some false
 i_NoRank_NoPath:W.kitOne K (.ref c.c_NoRank) (.ref c.c_NoPath) = some false
 i_NoRank_ValueError:W.kitOne K (.ref c.c_NoRank) (.type "ValueError") = some true
 e_NoRank_RightError:PySem.W.exmOne K (.ref c.c_NoRank) (.ref c.c_RightError) = some true
 x_NoNumber:iL K c.c_NoNumber
 q_NoNumber:eK K c.c_NoNumber
 i_NoNumber_NoEntry:W.kitOne K (.ref c.c_NoNumber) (.ref c.c_NoEntry) = some false
 i_NoNumber_Late:W.kitOne K (.ref c.c_NoNumber) (.ref c.c_Late) = some false
 i_NoNumber_NoAct:W.kitOne K (.ref c.c_NoNumber) (.ref c.c_NoAct) = some false
 i_NoNumber_NoSheet:W.kitOne K (.ref c.c_NoNumber) (.ref c.c_NoSheet) = some false
 i_NoNumber_NoPath:W.kitOne K (.ref c.c_NoNumber) (.ref c.c_NoPath) = some false
 i_NoNumber_ValueError:W.kitOne K (.ref c.c_NoNumber) (.type "ValueError") = some true
 e_NoNumber_RightError:PySem.W.exmOne K (.ref c.c_NoNumber) (.ref c.c_RightError) = some true
 x_NoDay:iL K c.c_NoDay
 q_NoDay:eK K c.c_NoDay
 i_NoDay_NoEntry:W.kitOne K (.ref c.c_NoDay) (.ref c.c_NoEntry) = some false
 i_NoDay_Late:W.kitOne K (.ref c.c_NoDay) (.ref c.c_Late) = some false
 i_NoDay_NoAct:W.kitOne K (.ref c.c_NoDay) (.ref c.c_NoAct) = some false
 i_NoDay_NoSheet:W.kitOne K (.ref c.c_NoDay) (.ref c.c_NoSheet) = some false
 i_NoDay_NoPath:W.kitOne K (.ref c.c_NoDay) (.ref c.c_NoPath) = some false
 i_NoDay_ValueError:W.kitOne K (.ref c.c_NoDay) (.type "ValueError") = some true
 e_NoDay_RightError:PySem.W.exmOne K (.ref c.c_NoDay) (.ref c.c_RightError) = some true
 x_NoWord:iL K c.c_NoWord
 q_NoWord:eK K c.c_NoWord
 i_NoWord_NoEntry:W.kitOne K (.ref c.c_NoWord) (.ref c.c_NoEntry) = some false
 i_NoWord_Late:W.kitOne K (.ref c.c_NoWord) (.ref c.c_Late) = some false
 i_NoWord_NoAct:W.kitOne K (.ref c.c_NoWord) (.ref c.c_NoAct) = some false
 i_NoWord_NoSheet:W.kitOne K (.ref c.c_NoWord) (.ref c.c_NoSheet) = some false
 i_NoWord_NoPath:W.kitOne K (.ref c.c_NoWord) (.ref c.c_NoPath) = some false
 i_NoWord_ValueError:W.kitOne K (.ref c.c_NoWord) (.type "ValueError") = some true
 e_NoWord_RightError:PySem.W.exmOne K (.ref c.c_NoWord) (.ref c.c_RightError) = some true
 x_NoEntry:iL K c.c_NoEntry
 q_NoEntry:eK K c.c_NoEntry
 i_NoEntry_NoEntry:W.kitOne K (.ref c.c_NoEntry) (.ref c.c_NoEntry) = some true
 i_NoEntry_Late:W.kitOne K (.ref c.c_NoEntry) (.ref c.c_Late) = some false
 i_NoEntry_NoAct:W.kitOne K (.ref c.c_NoEntry) (.ref c.c_NoAct) = some false
 i_NoEntry_NoSheet:W.kitOne K (.ref c.c_NoEntry) (.ref c.c_NoSheet) = some false
 i_NoEntry_NoPath:W.kitOne K (.ref c.c_NoEntry) (.ref c.c_NoPath) = some false
 i_NoEntry_ValueError:W.kitOne K (.ref c.c_NoEntry) (.type "ValueError") = some true
 e_NoEntry_RightError:PySem.W.exmOne K (.ref c.c_NoEntry) (.ref c.c_RightError) = some true
 NoAct_init:jY K "__init__" "NoAct.__init__" cj (.ref c.t_NoAct_init) c.a_NoAct_init c.d_NoAct_init
 xs_NoAct:xF K c.c_NoAct "place"
 hd_NoAct:PySem.W.hasDictIn K c.c_NoAct = true
 na_NoAct:W.findIn K (.ref c.c_NoAct) "place" = some none
 bi_RightError:vO K c.c_RightError
 b_NoAct_2:cA K c.d_NoAct_init ["self", "words", "place"] [] 2 (fun us _=>us ++ []) (fun us _=>us ++ [])
 x_NoAct:kL K c.c_NoAct c.a_NoAct_init
 q_NoAct:eK K c.c_NoAct
 i_NoAct_NoEntry:W.kitOne K (.ref c.c_NoAct) (.ref c.c_NoEntry) = some false
 i_NoAct_Late:W.kitOne K (.ref c.c_NoAct) (.ref c.c_Late) = some false
 i_NoAct_NoAct:W.kitOne K (.ref c.c_NoAct) (.ref c.c_NoAct) = some true
 i_NoAct_NoSheet:W.kitOne K (.ref c.c_NoAct) (.ref c.c_NoSheet) = some false
 i_NoAct_NoPath:W.kitOne K (.ref c.c_NoAct) (.ref c.c_NoPath) = some false
 i_NoAct_ValueError:W.kitOne K (.ref c.c_NoAct) (.type "ValueError") = some true
 e_NoAct_RightError:PySem.W.exmOne K (.ref c.c_NoAct) (.ref c.c_RightError) = some true
 x_Late:iL K c.c_Late
 q_Late:eK K c.c_Late
 i_Late_NoEntry:W.kitOne K (.ref c.c_Late) (.ref c.c_NoEntry) = some false
 i_Late_Late:W.kitOne K (.ref c.c_Late) (.ref c.c_Late) = some true
 i_Late_NoAct:W.kitOne K (.ref c.c_Late) (.ref c.c_NoAct) = some false
 i_Late_NoSheet:W.kitOne K (.ref c.c_Late) (.ref c.c_NoSheet) = some false
 i_Late_NoPath:W.kitOne K (.ref c.c_Late) (.ref c.c_NoPath) = some false
 i_Late_ValueError:W.kitOne K (.ref c.c_Late) (.type "ValueError") = some true
 e_Late_RightError:PySem.W.exmOne K (.ref c.c_Late) (.ref c.c_RightError) = some true
 w_Act:wg K c.c_Act
 ws_Act:W.kitOne K (.ref c.c_Act) (.ref c.c_Act) = some true
 wn_Act_NoneType:W.kitOne K (.type "NoneType") (.ref c.c_Act) = some false
 wn_Act_int:W.kitOne K (.type "int") (.ref c.c_Act) = some false
 wn_Act_str:W.kitOne K (.type "str") (.ref c.c_Act) = some false
 wn_Act_bool:W.kitOne K (.type "bool") (.ref c.c_Act) = some false
 wn_Act_list:W.kitOne K (.type "list") (.ref c.c_Act) = some false
 wn_Act_tuple:W.kitOne K (.type "tuple") (.ref c.c_Act) = some false
 wn_Act_dict:W.kitOne K (.type "dict") (.ref c.c_Act) = some false
 w_Entry:wg K c.c_Entry
 ws_Entry:W.kitOne K (.ref c.c_Entry) (.ref c.c_Entry) = some true
 wn_Entry_NoneType:W.kitOne K (.type "NoneType") (.ref c.c_Entry) = some false
 wn_Entry_int:W.kitOne K (.type "int") (.ref c.c_Entry) = some false
 wn_Entry_str:W.kitOne K (.type "str") (.ref c.c_Entry) = some false
 wn_Entry_bool:W.kitOne K (.type "bool") (.ref c.c_Entry) = some false
 wn_Entry_list:W.kitOne K (.type "list") (.ref c.c_Entry) = some false
 wn_Entry_tuple:W.kitOne K (.type "tuple") (.ref c.c_Entry) = some false
 wn_Entry_dict:W.kitOne K (.type "dict") (.ref c.c_Entry) = some false
 no_len:mg "len" = none
 no_isinstance:mg "isinstance" = none
 no_str:mg "str" = none
 no_bool:mg "bool" = none
 no_all:mg "all" = none
 no_range:mg "range" = none
 no_int:mg "int" = none
 no_list:mg "list" = none
 no_min:mg "min" = none
 no_max:mg "max" = none
 no_dict:mg "dict" = none
 no_ValueError:mg "ValueError" = none
theorem ml:aU ["thing"] ["thing"] (aF dq):=⟨rfl,rfl,rfl,by decide +kernel,rfl,by decide +kernel,by decide +kernel⟩
theorem qq:aU ["thing"] ["thing"] (aF fu):=⟨rfl,rfl,rfl,by decide +kernel,rfl,by decide +kernel,by decide +kernel⟩
theorem lp:aU ["thing"] ["thing"] (aF dM):=⟨rfl,rfl,rfl,by decide +kernel,rfl,by decide +kernel,by decide +kernel⟩
theorem pI:aU ["thing"] ["thing"] (aF eY):=⟨rfl,rfl,rfl,by decide +kernel,rfl,by decide +kernel,by decide +kernel⟩
theorem oj:aU ["thing"] ["thing"] (aF eZ):=⟨rfl,rfl,rfl,by decide +kernel,rfl,by decide +kernel,by decide +kernel⟩
theorem si:aU ["rank"] ["rank"] (aF gq):=⟨rfl,rfl,rfl,by decide +kernel,rfl,by decide +kernel,by decide +kernel⟩
theorem jg:aU ["number", "day", "rank", "word"] ["number", "day", "rank", "word"] (aF cT):=⟨rfl,rfl,rfl,by decide +kernel,rfl,by decide +kernel,by decide +kernel⟩
theorem ki:aU ["rank", "under"] ["rank", "under"] (aF cg):=⟨rfl,rfl,rfl,by decide +kernel,rfl,by decide +kernel,by decide +kernel⟩
theorem ny:aU ["rank", "sheet", "base"] ["rank", "sheet", "base"] (aF d8):=⟨rfl,rfl,rfl,by decide +kernel,rfl,by decide +kernel,by decide +kernel⟩
theorem tT:aU ["one", "other"] ["one", "other"] (aF gn):=⟨rfl,rfl,rfl,by decide +kernel,rfl,by decide +kernel,by decide +kernel⟩
theorem oy:aU ["thing"] ["thing"] (aF eW):=⟨rfl,rfl,rfl,by decide +kernel,rfl,by decide +kernel,by decide +kernel⟩
theorem kf:aU ["day"] ["day"] (aF cn):=⟨rfl,rfl,rfl,by decide +kernel,rfl,by decide +kernel,by decide +kernel⟩
theorem iF:aU ["results", "ahead_of_it", "thing", "entry"] ["results", "ahead_of_it", "thing"] (aF cf):=⟨rfl,rfl,rfl,by decide +kernel,rfl,by decide +kernel,by decide +kernel⟩
theorem m9:aU ["_law_script", "_law_k"] ["_law_script", "_law_k"] (aF d4):=⟨rfl,rfl,rfl,by decide +kernel,rfl,by decide +kernel,by decide +kernel⟩
theorem qd:aU ["_law_found"] ["_law_found"] (aF fk):=⟨rfl,rfl,rfl,by decide +kernel,rfl,by decide +kernel,by decide +kernel⟩
theorem qu:aU ["_law_cell", "_law_k"] ["_law_cell", "_law_k"] (aF fS):=⟨rfl,rfl,rfl,by decide +kernel,rfl,by decide +kernel,by decide +kernel⟩
theorem di:aU ["_law_cell", "_law_k", "_law_free", "_law_found", "_law_left", "_law_mixed_here", "_law_j"] ["_law_cell", "_law_k", "_law_free"] (aF fV):=⟨rfl,rfl,rfl,by decide +kernel,rfl,by decide +kernel,by decide +kernel⟩
theorem bY:aU ["_law_cell", "_law_free", "_law_letters", "_law_size", "_law_at", "_law_left", "_law_numbers", "_law_j", "_law_number_here", "_law_words_here", "_law_k", "_law_signs"] ["_law_cell", "_law_free"] (aF fU):=⟨rfl,rfl,rfl,by decide +kernel,rfl,by decide +kernel,by decide +kernel⟩
theorem cK:aU ["_law_number_here", "_law_size", "_law_word", "_law_j"] ["_law_number_here"] (aF dP):=⟨rfl,rfl,rfl,by decide +kernel,rfl,by decide +kernel,by decide +kernel⟩
theorem dh:aU ["_law_book_here", "_law_one_here", "_law_other", "_law_day", "_law_number_here"] ["_law_book_here", "_law_one_here", "_law_other"] (aF fg):=⟨rfl,rfl,rfl,by decide +kernel,rfl,by decide +kernel,by decide +kernel⟩
theorem kB:aU ["_law_book_here", "_law_rank", "_law_one_here", "_law_other", "_law_some"] ["_law_book_here", "_law_rank", "_law_one_here", "_law_other"] (aF gw):=⟨rfl,rfl,rfl,by decide +kernel,rfl,by decide +kernel,by decide +kernel⟩
theorem kU:aU ["_law_book_here", "_law_rank", "_law_one_here", "_law_other", "_law_some"] ["_law_book_here", "_law_rank", "_law_one_here", "_law_other"] (aF gi):=⟨rfl,rfl,rfl,by decide +kernel,rfl,by decide +kernel,by decide +kernel⟩
theorem bP:aU ["_law_book_here", "_law_words_here", "_law_cell", "_law_k", "_law_free", "_law_draws_here", "_law_number_here", "_law_day", "_law_word", "_law_sheet", "_law_described", "_law_rank", "_law_under", "_law_base_here", "_law_root"] ["_law_book_here", "_law_words_here", "_law_cell", "_law_k", "_law_free"] (aF fZ):=⟨rfl,rfl,rfl,by decide +kernel,rfl,by decide +kernel,by decide +kernel⟩
theorem gK:aU ["_law_script", "_law_start", "_law_free", "_law_words_here", "_law_book_here", "_law_k"] ["_law_script", "_law_start"] (aF gk):=⟨rfl,rfl,rfl,by decide +kernel,rfl,by decide +kernel,by decide +kernel⟩
theorem kN:aU ["_law_book_here", "_law_found", "_law_one_here"] ["_law_book_here"] (aF gm):=⟨rfl,rfl,rfl,by decide +kernel,rfl,by decide +kernel,by decide +kernel⟩
theorem wt:aU ["_law_rank"] ["_law_rank"] (aF lY):=⟨rfl,rfl,rfl,by decide +kernel,rfl,by decide +kernel,by decide +kernel⟩
theorem jO:aU ["_law_one_here", "_law_name", "_law_right", "_law_borne", "_law_root"] ["_law_one_here", "_law_name", "_law_right", "_law_borne"] (aF d9):=⟨rfl,rfl,rfl,by decide +kernel,rfl,by decide +kernel,by decide +kernel⟩
theorem cB:aU ["_law_book_here", "_law_right", "_law_names", "_law_borne", "_law_words_here", "_law_one_here", "_law_name", "_law_over"] ["_law_book_here"] (aF eV):=⟨rfl,rfl,rfl,by decide +kernel,rfl,by decide +kernel,by decide +kernel⟩
theorem nO:aU ["_law_error", "_law_told"] ["_law_error"] (aF gf):=⟨rfl,rfl,rfl,by decide +kernel,rfl,by decide +kernel,by decide +kernel⟩
theorem nW:aU ["_law_book_here", "_law_known", "_law_act", "_law_last", "_law_there"] ["_law_book_here", "_law_known", "_law_act", "_law_last"] (aF gx):=⟨rfl,rfl,rfl,by decide +kernel,rfl,by decide +kernel,by decide +kernel⟩
theorem iN:aU ["_law_book_here", "_law_known", "_law_number_here", "_law_mixed_here", "_law_some", "_law_way"] ["_law_book_here", "_law_known", "_law_number_here", "_law_mixed_here"] (aF eU):=⟨rfl,rfl,rfl,by decide +kernel,rfl,by decide +kernel,by decide +kernel⟩
theorem dc:aU ["_law_clerk", "_law_thing", "_law_place", "_law_told", "_law_answer", "e"] ["_law_clerk", "_law_thing", "_law_place"] (aF fm):=⟨rfl,rfl,rfl,by decide +kernel,rfl,by decide +kernel,by decide +kernel⟩
theorem sL:aU ["_law_found", "_law_acts"] ["_law_found", "_law_acts"] (aF hJ):=⟨rfl,rfl,rfl,by decide +kernel,rfl,by decide +kernel,by decide +kernel⟩
theorem eB:aU ["_law_clerk", "_law_book_here", "_law_entry_here", "_law_acts", "_law_mixed_here", "_law_known", "_law_last", "_law_far", "_law_day", "_law_number_here", "_law_act", "_law_found", "_law_odd"] ["_law_clerk", "_law_book_here", "_law_entry_here", "_law_acts", "_law_mixed_here"] (aF ir):=⟨rfl,rfl,rfl,by decide +kernel,rfl,by decide +kernel,by decide +kernel⟩
theorem dI:aU ["_law_script", "_law_book_here", "_law_entries", "_law_clerk", "_law_acts", "_law_k", "_law_turn", "_law_mixed_here", "_law_found", "_law_number_here", "_law_letters", "_law_used", "_law_some", "_law_word"] ["_law_script"] (aF lP):=⟨rfl,rfl,rfl,by decide +kernel,rfl,by decide +kernel,by decide +kernel⟩
theorem kg:aU ["self", "number", "day", "rank", "word", "under", "sheet", "base", "described"] ["self", "number", "day", "rank", "word", "under", "sheet", "base", "described"] (aF cI):=⟨rfl,rfl,rfl,by decide +kernel,rfl,by decide +kernel,by decide +kernel⟩
theorem j4:aU ["self"] ["self"] (aF cF):=⟨rfl,rfl,rfl,by decide +kernel,rfl,by decide +kernel,by decide +kernel⟩
theorem nA:aU ["self", "day", "deed", "number"] ["self", "day", "deed", "number"] (aF d5):=⟨rfl,rfl,rfl,by decide +kernel,rfl,by decide +kernel,by decide +kernel⟩
theorem lE:aU ["self"] ["self"] (aF ck):=⟨rfl,rfl,rfl,by decide +kernel,rfl,by decide +kernel,by decide +kernel⟩
theorem kY:aU ["self", "words", "place"] ["self", "words", "place"] (aF cj):=⟨rfl,rfl,rfl,by decide +kernel,rfl,by decide +kernel,by decide +kernel⟩
theorem ej:aU ["self", "entry", "name", "out"] ["self", "entry"] (aF cR):=⟨rfl,rfl,rfl,by decide +kernel,rfl,by decide +kernel,by decide +kernel⟩
theorem e7:aU ["self", "entry", "upper"] ["self", "entry"] (aF bW):=⟨rfl,rfl,rfl,by decide +kernel,rfl,by decide +kernel,by decide +kernel⟩
theorem dY:aU ["self", "entry", "name", "base"] ["self", "entry", "name"] (aF bF):=⟨rfl,rfl,rfl,by decide +kernel,rfl,by decide +kernel,by decide +kernel⟩
theorem jM:aU ["self", "entry"] ["self", "entry"] (aF bq):=⟨rfl,rfl,rfl,by decide +kernel,rfl,by decide +kernel,by decide +kernel⟩
theorem kX:aU ["self", "act"] ["self", "act"] (aF cS):=⟨rfl,rfl,rfl,by decide +kernel,rfl,by decide +kernel,by decide +kernel⟩
theorem km:aU ["self"] ["self"] (aF cw):=⟨rfl,rfl,rfl,by decide +kernel,rfl,by decide +kernel,by decide +kernel⟩
theorem kq:aU ["self"] ["self"] (aF cm):=⟨rfl,rfl,rfl,by decide +kernel,rfl,by decide +kernel,by decide +kernel⟩
section
variable {P:Program} {w:World} {K:W.Frag} {mg:Str → Option Value} {base:Heap} {c:Ad}
set_option maxHeartbeats 4000000 in
theorem jT (T:Txt w K mg c):aw P w K mg base fD 1 c.a_is_whole c.d_is_whole ["thing"] (zV K):=by
 refine T.is_whole.fn.ok ml (fun vs H Q E h=>?_) (fun cdv A outer s H vs Q E hr h=>?_)
 ·obtain ⟨x,rfl,_⟩:=h
  rfl
 ·obtain ⟨x,rfl,ow,k⟩:=h
  refine ⟨_,(aG (aS (eE (aW br rfl T.no_isinstance aq (aA (pv 0) (aA (eT (v:=.ty "int") rfl T.no_int jq rfl) aD))) (et (tN (aW br rfl T.no_isinstance aq (aA (pv 0) (aA (eT (v:=.ty "bool") rfl T.no_bool ph rfl) aD)))))))),?_⟩
  refine ⟨x,rfl,bK.int ow ⟨_,rfl,?_⟩⟩
  cases x with
  | int i=>exact bV ⟨_,rfl,bK.bool ow ⟨_,rfl,k⟩⟩
  | bl b=>exact bV ⟨_,rfl,bK.bool ow ⟨_,rfl,k⟩⟩
  | _=>exact bB k
set_option maxHeartbeats 4000000 in
theorem lh (T:Txt w K mg c):aw P w K mg base fD 2 c.a_is_day c.d_is_day ["thing"] (zW K 1000000):=by
 refine T.is_day.fn.ok qq (fun vs H Q E h=>?_) (fun cdv A outer s H vs Q E hr h=>?_)
 ·obtain ⟨x,rfl,_⟩:=h
  rfl
 ·obtain ⟨x,rfl,ow,k⟩:=h
  refine ⟨_,(aG (aS (eE (ag (jT T) (hr.mono (by decide)) rfl T.is_whole.mgf T.is_whole.kp T.is_whole.bi .nil au (aA (pv 0) aD)) (et (jh iS iS aB (pv 0) (cW rfl T.mg_LAST_DAY T.rl_LAST_DAY)))))),?_⟩
  refine ⟨x,rfl,x,rfl,ow,_,rfl,?_⟩
  cases x with
  | int i =>
   refine bV ⟨_,rfl,_,_,rfl,rfl,_,rfl,?_⟩
   by_cases h1:1 ≤ i
   ·rw [if_pos (decide_eq_true h1)]
    refine ⟨_,_,rfl,rfl,?_⟩
    simpa [inR,h1] using k
   ·rw [if_neg (by simp [h1])]
    simpa [inR,h1] using k
  | _=>exact bB k
set_option maxHeartbeats 4000000 in
theorem dR (T:Txt w K mg c):aw P w K mg base fD 2 c.a_is_number c.d_is_number ["thing"] (zW K 1000000000):=by
 refine T.is_number.fn.ok lp (fun vs H Q E h=>?_) (fun cdv A outer s H vs Q E hr h=>?_)
 ·obtain ⟨x,rfl,_⟩:=h
  rfl
 ·obtain ⟨x,rfl,ow,k⟩:=h
  refine ⟨_,(aG (aS (eE (ag (jT T) (hr.mono (by decide)) rfl T.is_whole.mgf T.is_whole.kp T.is_whole.bi .nil au (aA (pv 0) aD)) (et (jh iS iS aB (pv 0) (cW rfl T.mg_LAST_NUMBER T.rl_LAST_NUMBER)))))),?_⟩
  refine ⟨x,rfl,x,rfl,ow,_,rfl,?_⟩
  cases x with
  | int i =>
   refine bV ⟨_,rfl,_,_,rfl,rfl,_,rfl,?_⟩
   by_cases h1:1 ≤ i
   ·rw [if_pos (decide_eq_true h1)]
    refine ⟨_,_,rfl,rfl,?_⟩
    simpa [inR,h1] using k
   ·rw [if_neg (by simp [h1])]
    simpa [inR,h1] using k
  | _=>exact bB k
set_option maxHeartbeats 4000000 in
theorem oK (T:Txt w K mg c):aw P w K mg base fD 1 c.a_is_word c.d_is_word ["thing"] (xC K):=by
 refine T.is_word.fn.ok pI (fun vs H Q E h=>?_) (fun cdv A outer s H vs Q E hr h=>?_)
 ·obtain ⟨x,rfl,_⟩:=h
  rfl
 ·obtain ⟨x,rfl,ow,hz,k⟩:=h
  refine ⟨_,(aE (ao (PW.pt (eN (bo (bT (aW br rfl T.no_isinstance aq (aA (pv 0) (aA (eT (v:=.ty "str") rfl T.no_str om rfl) aD))))) (d7 (bo (tL iS iS aB (aW mC rfl T.no_len cU (aA (pv 0) aD)) (cW rfl T.mg_MOST_LETTERS T.rl_MOST_LETTERS))))))
    (aG (aS dE))
    aP)
   (aG (aS (aW (tF rfl) rfl T.no_all wV (aA (gF (N':=["sign"]) (js:=[none]) rfl rfl (by decide +kernel) (by decide +kernel) (fi (by decide +kernel)) (gz rfl rfl) (wq (pv 0)) (fun B=>⟨(bG (i:=0) (show List.Nodup (["sign"]:List Str) by decide +kernel) rfl (Or.inl rfl)),fA,(jh lI lI aZ (pv 0) aZ)⟩)) aD))))),?_⟩
  refine ⟨x,rfl,bK.str ow ⟨_,rfl,?_⟩⟩
  cases x with
  | str z =>
   have hz:z.length ≤ sizeLine:=hz
   refine bB ?_
   walk_at "rd"
   refine ⟨hz,?_⟩
   walk_at "rd"
   refine cQ (fun h1=>?_) (fun h1=>?_)
   ·walk_at "rd"
    by_cases h2:((z.length:Int) ≤ 12)
    ·rw [decide_eq_true h2]
     refine bB ⟨_,rfl,_,rfl,fun l B hl=>?_⟩
     have en:z.cps.toList.length = z.length:=by simp [Str.length]
     refine mL z.cps.size (fun i σ acc H'=>(∃ o,σ = [o]) ∧ acc = (z.cps.toList.take i).map (fun c=>V.bl (bp c)) ∧ H' = upd H l (.lst acc)) hz ?_ ?_ ?_ ?_ ?_
     ·exact ⟨⟨_,rfl⟩,rfl,rfl⟩
     ·rintro i σ acc H' hi ⟨_,e,e'⟩
      refine ⟨by rw [e']; exact aC,?_⟩
      rw [e,List.length_map,List.length_take]
      omega
     ·intro i σ acc H' hi _
      exact hi
     ·rintro i x σ acc H' H'' hi ⟨⟨o,rfl⟩,e,e'⟩ ⟨rfl,c,hc,rfl⟩
      have hc':z.cps.toList[i]? = some c:=by simpa using hc
      have fin:∀ b,b = bp c → H'' l = some (.lst acc) ∧ Nx z.cps.size i ((∃ o,([o].set 0 (some (V.str ⟨#[c]⟩)):St) = [o]) ∧ acc ++ [V.bl b] = (z.cps.toList.take (i + 1)).map (fun c=>V.bl (bp c)) ∧ upd H'' l (.lst (acc ++ [V.bl b])) = upd H l (.lst (acc ++ [V.bl b]))):=by
       intro b eb
       refine ⟨by rw [e']; exact aC,Nx.mk hi ⟨⟨_,rfl⟩,?_,by rw [e',eS]⟩⟩
       rw [take_one hc',List.map_append,← e,eb]
       rfl
      walk_at "rd"
      rw [zM]
      refine cQ (fun g1=>?_) (fun g1=>?_)
      ·walk_at "rd"
       refine fin _ ?_
       rw [yb]
       unfold bp
       rw [g1]
       rfl
      ·refine fin _ ?_
       unfold bp
       rw [eq_false_of_ne_true g1]
       rfl
     ·rintro σ acc H' ⟨_,e,e'⟩
      refine ⟨rfl,l,z.cps.toList.map bp,rfl,aj.of (by rw [e',aC,e,List.take_of_length_le (by simp)]; simp),?_⟩
      have q:=k H' (by rw [e']; exact aI.new hl)
      have ev:isWord (.str z) = (z.cps.toList.map bp).all id:=by
       rw [ei,h1,decide_eq_true h2,List.all_map]
       rfl
      rw [ev] at q
      exact q
    ·rw [decide_eq_false h2]
     refine bV ?_
     have ev:isWord (.str z) = false:=by
      rw [ei,decide_eq_false h2,Bool.and_false,Bool.false_and]
     have q:=k H (aI.refl H)
     rw [ev] at q
     exact q
   ·have ev:isWord (.str z) = false:=by
     rw [ei,eq_false_of_ne_true h1,Bool.false_and,Bool.false_and]
    have q:=k H (aI.refl H)
    rw [ev] at q
    walk_at "rd"
    exact q
  | _=>exact bV (k _ (aI.refl H))
set_option maxHeartbeats 4000000 in
theorem kC (T:Txt w K mg c):aw P w K mg base fD 1 c.a_is_rank c.d_is_rank ["thing"] (wO K):=by
 refine T.is_rank.fn.ok oj (fun vs H Q E h=>?_) (fun cdv A outer s H vs Q E hr h=>?_)
 ·obtain ⟨x,rfl,_⟩:=h
  rfl
 ·obtain ⟨x,rfl,ow,k⟩:=h
  refine ⟨_,(aG (aS (eE (aW br rfl T.no_isinstance aq (aA (pv 0) (aA (eT (v:=.ty "str") rfl T.no_str om rfl) aD))) (et (cO gs (pv 0) (cW (v:=.ref c.u_RANKS) rfl T.mg_RANKS rfl) (by with_unfolding_all rfl)))))),?_⟩
  refine ⟨x,rfl,bK.str ow ⟨_,rfl,?_⟩⟩
  cases x with
  | str z=>exact bV ⟨_,rfl,c.u_RANKS,tI,rfl,.inr (T.sq_RANKS _),rfl,rfl,k⟩
  | _=>exact bB k
set_option maxHeartbeats 4000000 in
theorem jl (T:Txt w K mg c):aw P w K mg base (kO P w) 3 c.a_refuse_head c.d_refuse_head ["number", "day", "rank", "word"] (vo K ⟨c.c_NoNumber,c.c_NoDay,c.c_NoRank,c.c_NoWord,c.c_NoEntry⟩):=by
 refine T.refuse_head.fn.uz jg (fun vs H Q E h=>?_) (fun cdv A outer s H vs Q E hr h=>?_)
 ·obtain ⟨n,d,r,w,rfl,_⟩:=h
  rfl
 ·obtain ⟨n,d,r,w,rfl,on,od,or',ow,fw,k⟩:=h
  refine ⟨_,(aE (ao (bo (bT (ag (dR T) (hr.mono (by decide)) rfl T.is_number.mgf T.is_number.kp T.is_number.bi .nil au (aA (pv 0) aD))))
    (aG (cY T.x_NoNumber rfl rfl T.mg_NoNumber ek (aA aZ aD)))
    aP)
   (aE (ao (bo (bT (ag (lh T) (hr.mono (by decide)) rfl T.is_day.mgf T.is_day.kp T.is_day.bi .nil au (aA (pv 1) aD))))
    (aG (cY T.x_NoDay rfl rfl T.mg_NoDay ek (aA aZ aD)))
    aP)
   (aE (ao (bo (bT (ag (kC T) (hr.mono (by decide)) rfl T.is_rank.mgf T.is_rank.kp T.is_rank.bi .nil au (aA (pv 2) aD))))
    (aG (cY T.x_NoRank rfl rfl T.mg_NoRank ek (aA aZ aD)))
    aP)
   (aG (ao (bo (bT (ag (oK T) (hr.mono (by decide)) rfl T.is_word.mgf T.is_word.kp T.is_word.bi .nil au (aA (pv 3) aD))))
    (aG (cY T.x_NoWord rfl rfl T.mg_NoWord ek (aA aZ aD)))
    aP))))),?_⟩
  walk_at "rd"
  refine ⟨on,?_⟩
  walk_at "rd"
  refine gG (fun h1=>?_) (fun h1=>?_)
  ·have h1:inR 1000000000 n = false:=by simpa using h1
   have e:eh n d r w = 1:=by unfold eh; rw [if_pos h1]
   have q:=(k H (aI.refl H)).2 (by rw [e]; decide)
   rw [e] at q
   exact ⟨aM rfl,q⟩
  have h1:¬ inR 1000000000 n = false:=by simpa using h1
  walk_at "rd"
  refine ⟨od,?_⟩
  walk_at "rd"
  refine gG (fun h2=>?_) (fun h2=>?_)
  ·have h2:inR 1000000 d = false:=by simpa using h2
   have e:eh n d r w = 2:=by unfold eh; rw [if_neg h1,if_pos h2]
   have q:=(k H (aI.refl H)).2 (by rw [e]; decide)
   rw [e] at q
   exact ⟨aM rfl,q⟩
  have h2:¬ inR 1000000 d = false:=by simpa using h2
  walk_at "rd"
  refine ⟨or',?_⟩
  walk_at "rd"
  refine gG (fun h3=>?_) (fun h3=>?_)
  ·have h3:de r = false:=by simpa using h3
   have e:eh n d r w = 3:=by unfold eh; rw [if_neg h1,if_neg h2,if_pos h3]
   have q:=(k H (aI.refl H)).2 (by rw [e]; decide)
   rw [e] at q
   exact ⟨aM rfl,q⟩
  have h3:¬ de r = false:=by simpa using h3
  walk_at "rd"
  refine ⟨ow,fw,fun H' s1=>?_⟩
  walk_at "rd"
  refine gG (fun h4=>?_) (fun h4=>?_)
  ·have h4:isWord w = false:=by simpa using h4
   have e:eh n d r w = 4:=by unfold eh; rw [if_neg h1,if_neg h2,if_neg h3,if_pos h4]
   have q:=(k H' s1).2 (by rw [e]; decide)
   rw [e] at q
   exact ⟨aM rfl,q⟩
  have h4:¬ isWord w = false:=by simpa using h4
  exact (k H' s1).1 (by unfold eh; rw [if_neg h1,if_neg h2,if_neg h3,if_neg h4])
set_option maxHeartbeats 4000000 in
theorem lD (T:Txt w K mg c):aw P w K mg base fD 3 c.a_under_fits c.d_under_fits ["rank", "under"] (uh K):=by
 refine T.under_fits.fn.ok ki (fun vs H Q E h=>?_) (fun cdv A outer s H vs Q E hr h=>?_)
 ·obtain ⟨z,u,rfl,_⟩:=h
  rfl
 ·obtain ⟨z,u,rfl,ou,k⟩:=h
  refine ⟨_,(aE (ao (aV cP (pv 0) aZ (aa _))
    (aG (aS (kS (dA (pv 1)))))
    aP)
   (aG (aS (ag (dR T) (hr.mono (by decide)) rfl T.is_number.mgf T.is_number.kp T.is_number.bi .nil au (aA (pv 1) aD))))),?_⟩
  walk_at "rd"
  refine cQ (fun h=>?_) (fun h=>?_)
  ·have e:bD (.str z) u = decide (u = .ax):=by unfold bD; rw [if_pos (of_decide_eq_true h)]
   rw [e] at k
   walk_at "rd"
   exact k
  ·have e:bD (.str z) u = inR 1000000000 u:=by unfold bD; rw [if_neg (fun q=>h (decide_eq_true q))]
   rw [e] at k
   exact ⟨_,rfl,u,rfl,ou,k⟩
set_option maxHeartbeats 4000000 in
theorem nB (T:Txt w K mg c):aw P w K mg base fD 3 c.a_tie_fits c.d_tie_fits ["rank", "sheet", "base"] (yN K):=by
 refine T.tie_fits.fn.ok ny (fun vs H Q E h=>?_) (fun cdv A outer s H vs Q E hr h=>?_)
 ·obtain ⟨z,s',b,rfl,_⟩:=h
  rfl
 ·obtain ⟨z,s',b,rfl,os,ob,k⟩:=h
  refine ⟨_,(aE (ao (cC (dA (pv 2)))
    (aG (aS (ag (dR T) (hr.mono (by decide)) rfl T.is_number.mgf T.is_number.kp T.is_number.bi .nil au (aA (pv 1) aD))))
    aP)
   (aG (aS (eE (cO gQ (pv 0) aZ (aa _)) (eE (kS (dA (pv 1))) (et (ag (dR T) (hr.mono (by decide)) rfl T.is_number.mgf T.is_number.kp T.is_number.bi .nil au (aA (pv 2) aD)))))))),?_⟩
  walk_at "rd"
  refine cQ (fun h=>?_) (fun h=>?_)
  ·have e:bR (.str z) s' b = inR 1000000000 s':=by unfold bR; rw [if_pos (of_decide_eq_true h)]
   rw [e] at k
   exact ⟨_,rfl,s',rfl,os,k⟩
  have hb:¬ b = .ax:=fun q=>h (decide_eq_true q)
  walk_at "rd"
  refine gG (fun h1=>?_) (fun h1=>?_)
  ·walk_at "rd"
   refine gG (fun h2=>?_) (fun h2=>?_)
   ·have e:bR (.str z) s' b = inR 1000000000 b:=by
     unfold bR
     rw [if_neg hb,h1,h2]
     rfl
    rw [e] at k
    exact ⟨_,rfl,b,rfl,ob,k⟩
   ·have e:bR (.str z) s' b = false:=by
     unfold bR
     rw [if_neg hb,h2]
     simp
    rw [e] at k
    exact k
  ·have e:bR (.str z) s' b = false:=by
    unfold bR
    rw [if_neg hb,h1]
    rfl
   rw [e] at k
   exact k
set_option maxHeartbeats 4000000 in
theorem iB (T:Txt w K mg c):aw P w K mg base (kO P w) 4 c.a_Entry_init c.d_Entry_init ["self", "number", "day", "rank", "word", "under", "sheet", "base", "described"] (wD K c.c_Entry ⟨c.c_NoNumber,c.c_NoDay,c.c_NoRank,c.c_NoWord,c.c_NoEntry⟩):=by
 refine T.Entry_init.uz kg (fun vs H Q E h=>?_) (fun cdv A outer s H vs Q E hr h=>?_)
 ·obtain ⟨a,dx,n,d,r,w,u,s',b,kk,rfl,_⟩:=h
  rfl
 ·obtain ⟨a,dx,n,d,r,w,u,s',b,kk,rfl,ha,on,od,or',ow,fw,ou,os,ob,k⟩:=h
  refine ⟨_,(aE (cD (jk (jl T) (hr.mono (by decide)) rfl T.refuse_head.mgf T.refuse_head.kp T.refuse_head.bi .nil nV (aA (pv 1) (aA (pv 2) (aA (pv 3) (aA (pv 4) aD))))))
   (aE (ao (bo (bT (ag (lD T) (hr.mono (by decide)) rfl T.under_fits.mgf T.under_fits.kp T.under_fits.bi .nil au (aA (pv 3) (aA (pv 5) aD)))))
    (aG (cY T.x_NoEntry rfl rfl T.mg_NoEntry ek (aA aZ aD)))
    aP)
   (aE (ao (bo (bT (ag (nB T) (hr.mono (by decide)) rfl T.tie_fits.mgf T.tie_fits.kp T.tie_fits.bi .nil au (aA (pv 3) (aA (pv 6) (aA (pv 7) aD))))))
    (aG (cY T.x_NoEntry rfl rfl T.mg_NoEntry ek (aA aZ aD)))
    aP)
   (aE (cJ (pv 0) (pv 1) rfl)
   (aE (cJ (pv 0) (pv 2) rfl)
   (aE (cJ (pv 0) (pv 3) rfl)
   (aE (cJ (pv 0) (pv 4) rfl)
   (aE (cJ (pv 0) (pv 5) rfl)
   (aE (cJ (pv 0) (pv 6) rfl)
   (aE (cJ (pv 0) (pv 7) rfl)
   (aG (cJ (pv 0) (pv 8) rfl)))))))))))),?_⟩
  refine ⟨_,rfl,_,rfl,_,rfl,_,rfl,n,d,r,w,rfl,on,od,or',ow,fw,fun H' s1=>⟨fun h0=>?_,fun h0=>?_⟩⟩
  rotate_left
  ·have e:why n d r w u s' b = eh n d r w:=by unfold why; rw [if_pos h0]
   have q:=(k H' s1).2 (by rw [e]; exact h0)
   rw [e] at q
   exact q
  have hr3:∃ z:Str,r = .str z:=by
   unfold eh at h0
   split at h0
   ·cases h0
   ·split at h0
    ·cases h0
    ·split at h0
     ·cases h0
     ·rename_i q
      cases r <;> first | exact ⟨_,rfl⟩ | exact absurd rfl q
  obtain ⟨z,rfl⟩:=hr3
  refine ⟨_,rfl,_,rfl,z,u,rfl,ou.same s1,_,rfl,?_⟩
  refine gG (fun h1=>?_) (fun h1=>?_)
  ·have h1:bD (.str z) u = false:=by simpa using h1
   have e:why n d (.str z) w u s' b = 5:=by unfold why; rw [if_neg (by rw [h0]; decide),if_pos h1]
   have q:=(k H' s1).2 (by rw [e]; decide)
   rw [e] at q
   exact ⟨aM rfl,q⟩
  have h1:¬ bD (.str z) u = false:=by simpa using h1
  refine ⟨_,rfl,_,rfl,_,rfl,z,s',b,rfl,os.same s1,ob.same s1,_,rfl,?_⟩
  refine gG (fun h2=>?_) (fun h2=>?_)
  ·have h2:bR (.str z) s' b = false:=by simpa using h2
   have e:why n d (.str z) w u s' b = 5:=by unfold why; rw [if_neg (by rw [h0]; decide),if_neg h1,if_pos h2]
   have q:=(k H' s1).2 (by rw [e]; decide)
   rw [e] at q
   exact ⟨aM rfl,q⟩
  have h2:¬ bR (.str z) s' b = false:=by simpa using h2
  have q:=(k H' s1).1 (by unfold why; rw [if_neg (by rw [h0]; decide),if_neg h1,if_neg h2])
  have a0:=s1 _ _ ha
  refine ⟨_,rfl,_,rfl,a,c.c_Entry,dx,_,rfl,a0,T.cl_Entry,T.na_Entry_number,aM rfl,?_⟩
  refine ⟨_,rfl,_,rfl,a,c.c_Entry,dx,_,rfl,aC,T.cl_Entry,T.na_Entry_day,aM rfl,?_⟩
  refine ⟨_,rfl,_,rfl,a,c.c_Entry,dx,_,rfl,aC,T.cl_Entry,T.na_Entry_rank,aM rfl,?_⟩
  refine ⟨_,rfl,_,rfl,a,c.c_Entry,dx,_,rfl,aC,T.cl_Entry,T.na_Entry_word,aM rfl,?_⟩
  refine ⟨_,rfl,_,rfl,a,c.c_Entry,dx,_,rfl,aC,T.cl_Entry,T.na_Entry_under,aM rfl,?_⟩
  refine ⟨_,rfl,_,rfl,a,c.c_Entry,dx,_,rfl,aC,T.cl_Entry,T.na_Entry_sheet,aM rfl,?_⟩
  refine ⟨_,rfl,_,rfl,a,c.c_Entry,dx,_,rfl,aC,T.cl_Entry,T.na_Entry_base,aM rfl,?_⟩
  refine ⟨_,rfl,_,rfl,a,c.c_Entry,dx,_,rfl,aC,T.cl_Entry,T.na_Entry_described,aM rfl,?_⟩
  rw [eS,eS,eS,eS,eS,eS,eS]
  exact q
set_option maxHeartbeats 4000000 in
theorem sr (T:Txt w K mg c):aw P w K mg base fD 1 c.a_ahead c.d_ahead ["one", "other"] (uO c.c_Entry):=by
 refine T.ahead.fn.ok tT (fun vs H Q E h=>?_) (fun cdv A outer s H vs Q E hr h=>?_)
 ·obtain ⟨x,y,e,f,rfl,_⟩:=h
  rfl
 ·obtain ⟨x,y,e,f,rfl,hx,hy,k⟩:=h
  refine ⟨_,(aG (aS (cO (wZ hr.vt) (fB (aA (ah (pv 0) rfl) (aA (ah (pv 0) rfl) aD))) (fB (aA (ah (pv 1) rfl) (aA (ah (pv 1) rfl) aD))) (aa _)))),?_⟩
  obtain ⟨a,dx,rfl,ha⟩:=hx
  obtain ⟨b,dy,rfl,hb⟩:=hy
  refine ⟨_,rfl,a,_,dx,_,_,rfl,ha,T.cl_Entry,T.na_Entry_day,rfl,?_⟩
  refine ⟨_,rfl,a,_,dx,_,_,rfl,ha,T.cl_Entry,T.na_Entry_number,rfl,aM rfl,fun p hp=>?_⟩
  have s1:=aI.new (o:=HO.tup [.int e.d,.int e.n]) hp
  refine ⟨_,rfl,b,_,dy,_,_,rfl,s1 _ _ hb,T.cl_Entry,T.na_Entry_day,rfl,?_⟩
  refine ⟨_,rfl,b,_,dy,_,_,rfl,s1 _ _ hb,T.cl_Entry,T.na_Entry_number,rfl,aM rfl,fun q hq=>?_⟩
  have s2:=aI.new (o:=HO.tup [.int f.d,.int f.n]) hq
  exact ⟨p,q,[e.d,e.n],[f.d,f.n],rfl,rfl,eX.of (s2 _ _ aC),eX.of aC,k _ (s1.trans s2)⟩
set_option maxHeartbeats 4000000 in
theorem sM (T:Txt w K mg c):aw P w K mg base (kO P w) 2 c.a_above c.d_above ["rank"] (wm K):=by
 refine T.above.fn.uz si (fun vs H Q E h=>?_) (fun cdv A outer s H vs Q E hr h=>?_)
 ·obtain ⟨z,rfl,_⟩:=h
  rfl
 ·obtain ⟨z,rfl,hz,k⟩:=h
  refine ⟨_,(aE (ao (bo (bT (ag (kC T) (hr.mono (by decide)) rfl T.is_rank.mgf T.is_rank.kp T.is_rank.bi .nil au (aA (pv 0) aD))))
    (aG sW)
    aP)
   (aG (aS (aN sY (cW (v:=.ref c.u_ABOVE) rfl T.mg_ABOVE rfl) (pv 0) (fun _ _=>rfl))))),?_⟩
  refine ⟨_,rfl,_,rfl,Own.str,_,rfl,?_⟩
  rcases hz with rfl | rfl
  ·exact bB ⟨_,rfl,c.u_ABOVE,_,_,_,rfl,rfl,T.kd_ABOVE,rfl,k⟩
  ·exact bB ⟨_,rfl,c.u_ABOVE,_,_,_,rfl,rfl,T.kd_ABOVE,rfl,k⟩
set_option maxHeartbeats 4000000 in
theorem j3 (T:Txt w K mg c):aw P w K mg base fD 1 c.a_Results_init c.d_Results_init ["self"] (qT c.c_Results c.c_Entry):=by
 refine T.Results_init.ok j4 (fun vs H Q E h=>?_) (fun cdv A outer s H vs Q E hr h=>?_)
 ·obtain ⟨a,dx,rfl,_⟩:=h
  rfl
 ·obtain ⟨a,dx,rfl,ha,k⟩:=h
  refine ⟨_,(aY (cJ (pv 0) fW rfl)
   (aY (cJ (pv 0) fW rfl)
   (aY (cJ (pv 0) fW rfl)
   (aG (cJ (pv 0) nc rfl))))),?_⟩
  have na:∀ d,H d = none → d ≠ a:=fun d hd z=>by rw [z,ha] at hd; cases hd
  refine ⟨fun σ G=>σ = [some (.ref a)] ∧ ∃ d0,(∀ b u,b ≠ a → H b = some u → G b = some u) ∧ G a = some (.ins c.c_Results dx [("outs",.ref d0)]) ∧ G d0 = some (.dK []) ∧ H d0 = none,?_,?_⟩
  ·refine fun d0 e=>⟨_,rfl,a,_,dx,_,rfl,aI.new e _ _ ha,T.cl_Results,T.na_Results_outs,aM rfl,rfl,d0,fun b u nb hb=>?_,aC,?_,?_⟩
   ·rw [aH nb,aH (aK (hb) e)]; exact hb
   ·rw [aH (na _ e),aC]
   ·exact e
  rintro σ G ⟨rfl,d0,fr,ka,k0,h0⟩
  refine ⟨fun σ G=>σ = [some (.ref a)] ∧ ∃ d0 d1,(∀ b u,b ≠ a → H b = some u → G b = some u) ∧ G a = some (.ins c.c_Results dx [("outs",.ref d0),("names",.ref d1)]) ∧ G d0 = some (.dK []) ∧ H d0 = none ∧ G d1 = some (.dK []) ∧ H d1 = none ∧ d0 ≠ d1,?_,?_⟩
  ·refine fun d1 e=>⟨_,rfl,a,_,dx,_,rfl,aI.new e _ _ ka,T.cl_Results,T.na_Results_names,aM rfl,rfl,d0,d1,fun b u nb hb=>?_,aC,?_,?_,?_,?_,?_⟩
   ·rw [aH nb,aH (aK (fr b u nb hb) e)]; exact fr b u nb hb
   ·rw [aH (na _ h0),aH (aK k0 e)]; exact k0
   ·exact h0
   ·rw [aH (na _ (show H d1 = none by
     cases q:H d1 with
     | none=>rfl
     | some u=>rw [fr d1 u (fun z=>by rw [z,ka] at e; cases e) q] at e; cases e)),aC]
   ·exact (show H d1 = none by
     cases q:H d1 with
     | none=>rfl
     | some u=>rw [fr d1 u (fun z=>by rw [z,ka] at e; cases e) q] at e; cases e)
   ·exact aK k0 e
  rintro σ G ⟨rfl,d0,d1,fr,ka,k0,h0,k1,h1,n01⟩
  refine ⟨fun σ G=>σ = [some (.ref a)] ∧ ∃ d0 d1 d2,(∀ b u,b ≠ a → H b = some u → G b = some u) ∧ G a = some (.ins c.c_Results dx [("outs",.ref d0),("names",.ref d1),("rights",.ref d2)]) ∧ G d0 = some (.dK []) ∧ H d0 = none ∧ G d1 = some (.dK []) ∧ H d1 = none ∧ G d2 = some (.dK []) ∧ H d2 = none ∧ d0 ≠ d1 ∧ d0 ≠ d2 ∧ d1 ≠ d2,?_,?_⟩
  ·refine fun d2 e=>⟨_,rfl,a,_,dx,_,rfl,aI.new e _ _ ka,T.cl_Results,T.na_Results_rights,aM rfl,rfl,d0,d1,d2,fun b u nb hb=>?_,aC,?_,?_,?_,?_,?_,?_,?_,?_,?_⟩
   ·rw [aH nb,aH (aK (fr b u nb hb) e)]; exact fr b u nb hb
   ·rw [aH (na _ h0),aH (aK k0 e)]; exact k0
   ·exact h0
   ·rw [aH (na _ h1),aH (aK k1 e)]; exact k1
   ·exact h1
   ·rw [aH (na _ (show H d2 = none by
     cases q:H d2 with
     | none=>rfl
     | some u=>rw [fr d2 u (fun z=>by rw [z,ka] at e; cases e) q] at e; cases e)),aC]
   ·exact (show H d2 = none by
     cases q:H d2 with
     | none=>rfl
     | some u=>rw [fr d2 u (fun z=>by rw [z,ka] at e; cases e) q] at e; cases e)
   ·exact n01
   ·exact aK k0 e
   ·exact aK k1 e
  rintro σ G ⟨rfl,d0,d1,d2,fr,ka,k0,h0,k1,h1,k2,h2,n01,n02,n12⟩
  refine fun d3 e=>⟨_,rfl,a,_,dx,_,rfl,aI.new e _ _ ka,T.cl_Results,T.na_Results_holders,aM rfl,?_⟩
  have hf:H d3 = none:=by
   cases q:H d3 with
   | none=>rfl
   | some u=>rw [fr d3 u (fun z=>by rw [z,ka] at e; cases e) q] at e; cases e
  have m3:∀ b u,b ≠ a → G b = some u → upd (upd G d3 (.dT [])) a (.ins c.c_Results dx (e6 "holders" (V.ref d3) [("outs",.ref d0),("names",.ref d1),("rights",.ref d2)])) b = some u:=fun b u nb hb=>by
   rw [aH nb,aH (aK hb e)]; exact hb
  refine k ⟨a,dx,d0,d1,d2,d3⟩ _ rfl rfl (fun b u nb hb=>m3 b u nb (fr b u nb hb)) ⟨aC,m3 _ _ (na _ h0) k0,⟨_,m3 _ _ (na _ h1) k1,.nil⟩,⟨_,m3 _ _ (na _ h2) k2,.nil⟩,⟨_,?_,.nil⟩,n01,n02,n12⟩ h0 h1 h2 hf
  show upd (upd G d3 (.dT [])) a _ d3 = _
  rw [aH (na _ hf),aC]
set_option maxHeartbeats 4000000 in
theorem iH (T:Txt w K mg c):aw P w K mg base fD 3 c.a_Results_name_of c.d_Results_name_of ["self", "entry"] (tX c.c_Results c.c_Entry):=by
 refine T.Results_name_of.ok e7 (fun vs H Q E h=>?_) (fun cdv A outer s H vs Q E hr h=>?_)
 ·obtain ⟨A,s,v,e,rfl,_⟩:=h
  rfl
 ·obtain ⟨A,s,v,e,rfl,rs,rok,hv,okk,k⟩:=h
  refine ⟨_,(aE (ao (aV cP (ah (pv 1) rfl) aZ (aa _))
    (aG (aS (fB (aA (ah (pv 1) rfl) aD))))
    aP)
   (aE (aO (i:=2) e7.nd rfl (Or.inl rfl) (gS (cx hr) (ah (pv 0) rfl) (ah (pv 1) rfl) ⟨rfl,rfl,rfl,rfl⟩))
   (aE (ao (PW.pt (eN (cC (dA (pv 2))) (d7 (aV gQ (ah (pv 2) rfl) (jk (sM T) (hr.mono (by decide)) rfl T.above.mgf T.above.kp T.above.bi .nil gD (aA (ah (pv 1) rfl) aD)) (aa _)))))
    (aG (aS dg))
    aP)
   (aG (aS (aL nM (hV (cx hr) (ah (pv 0) rfl) (ah (pv 2) rfl) (fun _ _=>rfl)) (fB (aA (ah (pv 1) rfl) aD)))))))),?_⟩
  have hv0:=hv
  obtain ⟨a,dx,rfl,ha⟩:=hv
  refine ⟨_,rfl,a,_,dx,_,_,rfl,ha,T.cl_Entry,T.na_Entry_rank,rfl,rfl,_,rfl,?_⟩
  refine cQ (fun z=>?_) (fun z=>?_)
  ·have z:e.r = Str.ofString "genus" := V.str.inj (of_decide_eq_true z)
   refine ⟨_,rfl,a,_,dx,_,_,rfl,ha,T.cl_Entry,T.na_Entry_word,rfl,aM rfl,fun t ht=>?_⟩
   refine k _ _ (aI.new ht) ?_
   have en:bM s.r e = some [e.w]:=by unfold bM; rw [if_pos z]
   rw [en]
   exact ⟨t,rfl,aC⟩
  have z:e.r ≠ Str.ofString "genus" := fun q=>z (decide_eq_true (congrArg V.str q))
  obtain ⟨u,hu⟩:=vZ okk z
  have lu:(cM e).lookup (Str.ofString "under") = some (V.int u):=by show some (cH e.u) = _; rw [hu]; rfl
  obtain ⟨kr,hR,pR⟩:=rs.rights
  obtain ⟨kn,hN,pN⟩:=rs.names
  have en:bM s.r e = match bU s.r u with | none=>none | some x=>if x.e.r = cL e.r then some (x.nm ++ [e.w]) else none:=by
   unfold bM
   rw [if_neg z,hu]
   rfl
  refine ⟨_,rfl,A.a,_,A.dx,_,_,rfl,rs.at_,T.cl_Results,T.na_Results_rights,rfl,A.o3,rfl,.inl ⟨_,.inl hR⟩,_,rfl,a,_,dx,_,_,rfl,ha,T.cl_Entry,T.na_Entry_under,lu,_,du.k (k:=Sum.inl u) hR,?_⟩
  rcases gb pR u with ⟨f1,f2⟩ | ⟨x,w,f1,f2,hx⟩
  ·rw [f2]
   refine ⟨_,rfl,_,rfl,bV ?_⟩
   refine k _ _ (aI.refl H) ?_
   rw [en,f1]
   rfl
  have hx0:=hx
  obtain ⟨xa,xdx,rfl,hxa⟩:=hx
  rw [f2]
  refine ⟨_,rfl,_,rfl,bB ?_⟩
  rw [f1] at en
  have en:bM s.r e = if x.e.r = cL e.r then some (x.nm ++ [e.w]) else none:=en
  refine ⟨_,rfl,xa,_,xdx,_,_,rfl,hxa,T.cl_Entry,T.na_Entry_rank,rfl,_,rfl,a,_,dx,_,_,rfl,ha,T.cl_Entry,T.na_Entry_rank,rfl,e.r,rfl,(kQ okk).resolve_left z,rfl,_,rfl,?_⟩
  refine cQ (fun y=>?_) (fun y=>?_)
  ·have y:x.e.r ≠ cL e.r:=fun q=>by rw [q,decide_eq_true rfl] at y; exact absurd y (by decide)
   refine k _ _ (aI.refl H) ?_
   rw [en,if_neg y]
   rfl
  have y:x.e.r = cL e.r:=V.str.inj (Decidable.of_not_not (p:=V.str x.e.r = V.str (cL e.r)) (fun q=>y (by rw [decide_eq_false q]; rfl)))
  rw [if_pos y] at en
  have hm:=(df f1).1
  obtain ⟨nv,hnv,nt,rfl,hnt⟩:=nJ pN (by rw [rok.nk]; exact rok.nd) (rok.nm x hm)
  have dp:=rok.dp x hm
  have d3:cz x.e.r ≤ 3:=by
   unfold cz
   split
   ·decide
   ·split <;> decide
  have d0:0 < cz x.e.r:=by
   unfold cz
   split
   ·decide
   ·split <;> decide
  have sz:2000 < sizeLine:=aM rfl
  refine ⟨_,rfl,A.a,_,A.dx,_,_,rfl,rs.at_,T.cl_Results,T.na_Results_names,rfl,_,rfl,xa,_,xdx,_,_,rfl,hxa,T.cl_Entry,T.na_Entry_number,rfl,A.o2,.ref nt,rfl,?_,?_⟩
  ·rw [← hnv]
   exact du.k (k:=Sum.inl x.e.n) hN
  refine ⟨_,rfl,a,_,dx,_,_,rfl,ha,T.cl_Entry,T.na_Entry_word,rfl,aM rfl,fun t ht=>?_⟩
  have s1:=aI.new (o:=HO.tup [V.str e.w]) ht
  refine ⟨nt,t,x.nm.map V.str,[V.str e.w],rfl,rfl,eX.of (s1 _ _ hnt),eX.of aC,(by intro q; cases q),?_,fun q=>?_,fun _ p hp=>?_⟩
  ·rw [List.length_map,dp]
   show _ + 1 ≤ _
   omega
  ·exfalso
   have:=congrArg List.length q
   rw [List.length_map,dp] at this
   have:cz x.e.r = 0:=this
   omega
  refine k _ _ (s1.trans (aI.new hp)) ?_
  rw [en]
  exact ⟨p,rfl,by rw [aC,List.map_append]; rfl⟩
set_option maxHeartbeats 4000000 in
theorem gJ (T:Txt w K mg c):aw P w K mg base fD 1 c.a_Results_outcome_of c.d_Results_outcome_of ["self", "entry", "name"] (ub c.c_Results c.c_Entry):=by
 refine T.Results_outcome_of.ok dY (fun vs H Q E h=>?_) (fun cdv A outer s H vs Q E hr h=>?_)
 ·obtain ⟨A,s,v,e,w,nm,rfl,_⟩:=h
  rfl
 ·obtain ⟨A,s,v,e,w,nm,rfl,rs,hv,okk,hw,k⟩:=h
  refine ⟨_,(aY (ao (PW.pt (eF (cC (dA (ah (pv 1) rfl))) (dG (bo (bT (ah (pv 1) rfl))))))
    (aG (aS aZ))
    aP)
   (aE (ao (cC (dA (pv 2)))
    (aG (aS aZ))
    aP)
   (aY (ao (cC (gC (ah (pv 1) rfl)))
    (aE (aO (i:=3) dY.nd rfl (Or.inl rfl) (gS (cx hr) (ah (pv 0) rfl) (ah (pv 1) rfl) ⟨rfl,rfl,rfl,rfl⟩))
   (aE (ao (PW.pt (eN (cC (dA (pv 3))) (eN (aV gQ (ah (pv 3) rfl) (ah (pv 1) rfl) (aa _)) (d7 (cC (gC (ah (pv 3) rfl)))))))
    (aG (aS aZ))
    aP)
   (aG (ao (aV gQ (ah (pv 3) rfl) (ah (pv 1) rfl) (aa _))
    (aG (aS aZ))
    aP))))
    aP)
   (aE (ao (cC (oG (cx hr) (pv 2) (ah (pv 0) rfl)))
    (aG (aS aZ))
    aP)
   (aG (aS aZ)))))),?_⟩
  obtain ⟨a,dx,rfl,ha⟩:=hv
  obtain ⟨kr,hR,pR⟩:=rs.rights
  obtain ⟨kh,hH,pH⟩:=rs.holders
  have basef:∀ b,e.b = some b → (cM e).lookup (Str.ofString "base") = some (V.int b):=fun b hb=>by show some (cH e.b) = _; rw [hb]; rfl
  have basen:e.b = none → (cM e).lookup (Str.ofString "base") = some V.ax:=fun hb=>by show some (cH e.b) = _; rw [hb]; rfl
  refine ⟨fun σ G=>σ = [some (.ref A.a),some (.ref a),some w,none] ∧ G = H ∧ ¬ (e.b = none ∧ e.k = false),?_,?_⟩
  ·cases hb:e.b with
   | some b=>exact ⟨_,rfl,a,_,dx,_,_,rfl,ha,T.cl_Entry,T.na_Entry_base,basef b hb,_,rfl,bB ⟨rfl,rfl,fun z=>nomatch z.1⟩⟩
   | none =>
    refine ⟨_,rfl,a,_,dx,_,_,rfl,ha,T.cl_Entry,T.na_Entry_base,basen hb,_,rfl,bV ?_⟩
    refine ⟨_,rfl,a,_,dx,_,_,rfl,ha,T.cl_Entry,T.na_Entry_described,rfl,?_⟩
    cases hk:e.k with
    | true=>exact ⟨_,rfl,bB ⟨rfl,rfl,fun z=>nomatch z.2⟩⟩
    | false =>
     refine ⟨_,rfl,bV ?_⟩
     have eo:eP s.r e nm = Str.ofString "undescribed" := by unfold eP; rw [if_pos ⟨hb,hk⟩]
     rw [eo] at k
     exact k
  rintro σ G ⟨rfl,rfl,hd⟩
  cases nm with
  | none =>
   obtain rfl:w = .ax:=hw
   refine ⟨_,rfl,_,rfl,bV ?_⟩
   have eo:eP s.r e none = Str.ofString "unplaced" := by unfold eP; rw [if_neg hd]
   rw [eo] at k
   exact k
  | some z =>
   obtain ⟨t,rfl,ht⟩:=hw
   refine ⟨_,rfl,_,rfl,bB ?_⟩
   refine ⟨fun σ G'=>(∃ z3,σ = [some (.ref A.a),some (.ref a),some (.ref t),z3]) ∧ G' = G ∧ eP s.r e (some z) = dj s.r z,?_,?_⟩
   ·cases hb:e.b with
    | none =>
     refine ⟨_,rfl,a,_,dx,_,_,rfl,ha,T.cl_Entry,T.na_Entry_base,basen hb,_,rfl,bB ⟨⟨_,rfl⟩,rfl,?_⟩⟩
     unfold eP
     rw [if_neg hd,hb]
    | some b =>
     refine ⟨_,rfl,a,_,dx,_,_,rfl,ha,T.cl_Entry,T.na_Entry_base,basef b hb,_,rfl,bV ?_⟩
     have eo:eP s.r e (some z) = eA s.r e b z:=by unfold eP; rw [if_neg hd,hb]
     rw [eo] at k
     refine ⟨_,rfl,A.a,_,A.dx,_,_,rfl,rs.at_,T.cl_Results,T.na_Results_rights,rfl,A.o3,rfl,.inl ⟨_,.inl hR⟩,_,rfl,a,_,dx,_,_,rfl,ha,T.cl_Entry,T.na_Entry_base,basef b hb,_,du.k (k:=Sum.inl b) hR,?_⟩
     rcases gb pR b with ⟨f1,f2⟩ | ⟨x,w,f1,f2,hx⟩
     ·rw [f2]
      refine ⟨_,rfl,_,rfl,bV ?_⟩
      have e2:eA s.r e b z = Str.ofString "baseless" := by unfold eA; rw [f1]
      rw [e2] at k
      exact k
     obtain ⟨xa,xdx,rfl,hxa⟩:=hx
     rw [f2]
     have e2:eA s.r e b z = if x.e.r ≠ e.r ∨ x.e.b ≠ none then Str.ofString "baseless" else if x.e.w ≠ e.w then Str.ofString "reworded" else dj s.r z:=by unfold eA; rw [f1]
     refine ⟨_,rfl,_,rfl,bB ?_⟩
     refine ⟨_,rfl,xa,_,xdx,_,_,rfl,hxa,T.cl_Entry,T.na_Entry_rank,rfl,_,rfl,a,_,dx,_,_,rfl,ha,T.cl_Entry,T.na_Entry_rank,rfl,rfl,_,rfl,?_⟩
     refine cQ (fun y=>?_) (fun y=>?_)
     ·have y:x.e.r ≠ e.r:=fun q=>by rw [q,decide_eq_true rfl] at y; exact absurd y (by decide)
      rw [e2,if_pos (.inl y)] at k
      exact k
     have y:x.e.r = e.r:=V.str.inj (Decidable.of_not_not (p:=V.str x.e.r = V.str e.r) (fun q=>y (by rw [decide_eq_false q]; rfl)))
     cases hxb:x.e.b with
     | some b' =>
      have lx:(cM x.e).lookup (Str.ofString "base") = some (V.int b'):=by show some (cH x.e.b) = _; rw [hxb]; rfl
      refine ⟨_,rfl,xa,_,xdx,_,_,rfl,hxa,T.cl_Entry,T.na_Entry_base,lx,_,rfl,bV ?_⟩
      rw [e2,if_pos (.inr (by rw [hxb]; intro q; cases q))] at k
      exact k
     | none =>
      have lx:(cM x.e).lookup (Str.ofString "base") = some V.ax:=by show some (cH x.e.b) = _; rw [hxb]; rfl
      refine ⟨_,rfl,xa,_,xdx,_,_,rfl,hxa,T.cl_Entry,T.na_Entry_base,lx,_,rfl,bB ?_⟩
      have e3:¬ (x.e.r ≠ e.r ∨ x.e.b ≠ none):=fun q=>q.elim (fun q=>q y) (fun q=>q hxb)
      rw [if_neg e3] at e2
      refine ⟨_,rfl,xa,_,xdx,_,_,rfl,hxa,T.cl_Entry,T.na_Entry_word,rfl,_,rfl,a,_,dx,_,_,rfl,ha,T.cl_Entry,T.na_Entry_word,rfl,rfl,_,rfl,?_⟩
      refine cQ (fun y2=>?_) (fun y2=>?_)
      ·have y2:x.e.w ≠ e.w:=fun q=>by rw [q,decide_eq_true rfl] at y2; exact absurd y2 (by decide)
       rw [e2,if_pos y2] at k
       exact k
      have y2:x.e.w = e.w:=V.str.inj (Decidable.of_not_not (p:=V.str x.e.w = V.str e.w) (fun q=>y2 (by rw [decide_eq_false q]; rfl)))
      refine ⟨⟨_,rfl⟩,rfl,?_⟩
      rw [eo,e2,if_neg (fun q=>q y2)]
   rintro σ G' ⟨⟨z3,rfl⟩,rfl,ea⟩
   rw [ea] at k
   have hk:=jj pH z
   refine ⟨_,rfl,_,rfl,A.a,_,A.dx,_,_,rfl,rs.at_,T.cl_Results,T.na_Results_holders,rfl,A.o4,_,rfl,du.t (k:=z.map Sum.inr) hH (by rw [iV]; exact ht),?_⟩
   rw [hk]
   unfold dj at k
   cases q:s.r.any (fun x=>decide (x.nm = z)) with
   | true =>
    rw [q,if_pos rfl] at k
    exact ⟨_,rfl,bV k⟩
   | false =>
    rw [q,if_neg (by decide)] at k
    exact ⟨_,rfl,bB k⟩
set_option maxHeartbeats 4000000 in
theorem jv (T:Txt w K mg c):aw P w K mg base fD 4 c.a_Results_put c.d_Results_put ["self", "entry"] (vp c.c_Results c.c_Entry):=by
 refine T.Results_put.ok ej (fun vs H Q E h=>?_) (fun cdv A outer s H vs Q E hr h=>?_)
 ·obtain ⟨A,s,v,e,rfl,_⟩:=h
  rfl
 ·obtain ⟨A,s,v,e,rfl,rs,rok,hv,okk,fr,hl,k⟩:=h
  refine ⟨_,(aE (aO (i:=2) ej.nd rfl (Or.inl rfl) (mW (pv 0) T.cl_Results T.m_Results_name_of (iH T) (hr.mono (by decide)) T.bi_Results_name_of .nil au (aA (pv 1) aD)))
   (aE (aO (i:=3) ej.nd rfl (Or.inl rfl) (mW (pv 0) T.cl_Results T.m_Results_outcome_of (gJ T) (hr.mono (by decide)) T.bi_Results_outcome_of .nil au (aA (pv 1) (aA (pv 2) aD))))
   (aE (fJ (cx hr) (ah (pv 0) rfl) (ah (pv 1) rfl) (pv 3) rfl)
   (aE (fJ (cx hr) (ah (pv 0) rfl) (ah (pv 1) rfl) (pv 2) rfl)
   (aE (ao (aV cP (pv 3) aZ (aa _))
    (aE (fJ (cx hr) (ah (pv 0) rfl) (ah (pv 1) rfl) (pv 1) rfl)
   (aG (fJ (cx hr) (ah (pv 0) rfl) (pv 2) (pv 1) rfl)))
    aP)
   (aG (aS (pv 3)))))))),?_⟩
  have hv0:=hv
  obtain ⟨a,dx,rfl,ha⟩:=hv
  have sz:2000 < sizeLine:=aM rfl
  refine ⟨_,rfl,A.a,A.dx,_,rfl,rs.at_,rfl,_,rfl,A,s,.ref a,e,rfl,rs,rok,hv0,okk,fun w G1 s1 n1=>?_⟩
  have rs1:=rs.same s1
  refine ⟨_,rfl,A.a,A.dx,_,rfl,rs1.at_,rfl,_,rfl,_,rfl,A,s,.ref a,e,w,_,rfl,rs1,hv0.same s1,okk,n1,?_⟩
  have eo:eP s.r e (bM s.r e) = cV s e:=rfl
  rw [eo]
  have ha1:=s1 _ _ ha
  have fr1:uC A H G1:=aI.z9 s1
  obtain ⟨r1,r2,⟨kn,r3,r4⟩,⟨kr,r5,r6⟩,⟨kh,r7,r8⟩,d12,d13,d23⟩:=rs1
  clear rs
  have d14:A.o1 ≠ A.o4:=aX r2 r7 (by intro z; cases z)
  have d24:A.o2 ≠ A.o4:=aX r3 r7 (by intro z; cases z)
  have d34:A.o3 ≠ A.o4:=aX r5 r7 (by intro z; cases z)
  have na1:A.a ≠ A.o1:=aX r1 r2 (by intro z; cases z)
  have na2:A.a ≠ A.o2:=aX r1 r3 (by intro z; cases z)
  have na3:A.a ≠ A.o3:=aX r1 r5 (by intro z; cases z)
  have na4:A.a ≠ A.o4:=aX r1 r7 (by intro z; cases z)
  have ne1:a ≠ A.o1:=aX ha1 r2 (by intro z; cases z)
  have ne2:a ≠ A.o2:=aX ha1 r3 (by intro z; cases z)
  have ne3:a ≠ A.o3:=aX ha1 r5 (by intro z; cases z)
  have lo:(ba s).length = s.o.length:=List.length_map ..
  have ln:kn.length = s.o.length:=by rw [← Paired.length r4,← List.length_map (f:=fun p:Int × Option (List Str)=>p.1),rok.nk,List.length_map]
  have lr:s.r.length ≤ s.o.length:=by
   have h1:(s.r.map (·.e.n)).length ≤ (s.o.map (·.1)).length:=o7 rok.rn fun x hx=>by
    obtain ⟨y,hy,rfl⟩:=List.mem_map.mp hx
    exact rok.sub y hy
   rw [List.length_map,List.length_map] at h1
   exact h1
  have lkr:kr.length ≤ 1000:=by rw [← Paired.length r6]; omega
  have lkh:kh.length ≤ 1000:=by rw [← Paired.length r8]; omega
  have po:putK (ba s) (Sum.inl e.n) (.str (cV s e)) = ba (bL s e):=by
   rw [dW (iw fr)]
   show _ = (s.o ++ [(e.n,cV s e)]).map _
   rw [List.map_append]
   rfl
  refine ⟨_,rfl,_,rfl,A.a,_,A.dx,_,_,rfl,r1,T.cl_Results,T.na_Results_outs,rfl,_,rfl,a,_,dx,_,_,rfl,ha1,T.cl_Entry,T.na_Entry_number,rfl,A.o1,_,rfl,ie.k (k:=Sum.inl e.n) r2 (by omega),?_⟩
  rw [po]
  have f2:∀ b u,b ≠ A.o1 → G1 b = some u → upd G1 A.o1 (.dK (ba (bL s e))) b = some u:=fun b u nb hb=>by rw [aH nb]; exact hb
  have g2:upd G1 A.o1 (.dK (ba (bL s e))) A.o1 = some (.dK (ba (bL s e))):=aC
  generalize upd G1 A.o1 (.dK (ba (bL s e))) = G2 at f2 g2 ⊢
  have nn:bg kn (Sum.inl e.n) = none:=kH r4 (by rw [rok.nk]; exact fr)
  refine ⟨_,rfl,_,rfl,A.a,_,A.dx,_,_,rfl,f2 _ _ na1 r1,T.cl_Results,T.na_Results_names,rfl,_,rfl,a,_,dx,_,_,rfl,f2 _ _ ne1 ha1,T.cl_Entry,T.na_Entry_number,rfl,A.o2,_,rfl,ie.k (k:=Sum.inl e.n) (f2 _ _ d12.symm r3) (by omega),?_⟩
  rw [dW nn]
  have f3:∀ b u,b ≠ A.o1 → b ≠ A.o2 → G1 b = some u → upd G2 A.o2 (.dK (kn ++ [(Sum.inl e.n,w)])) b = some u:=fun b u n1 n2 hb=>by rw [aH n2]; exact f2 b u n1 hb
  have g3:upd G2 A.o2 (.dK (kn ++ [(Sum.inl e.n,w)])) A.o2 = some (.dK (kn ++ [(Sum.inl e.n,w)])):=aC
  have g3':upd G2 A.o2 (.dK (kn ++ [(Sum.inl e.n,w)])) A.o1 = some (.dK (ba (bL s e))):=by rw [aH d12]; exact g2
  generalize upd G2 A.o2 (.dK (kn ++ [(Sum.inl e.n,w)])) = G3 at f3 g3 g3' ⊢
  have tups:∀ G':Hp,(∀ b u,b ≠ A.o1 → b ≠ A.o2 → b ≠ A.o3 → b ≠ A.o4 → G1 b = some u → G' b = some u) → ∀ t xs,G1 t = some (.tup xs) → G' t = some (.tup xs):=fun G' h t xs ht=>h t _ (aX ht r2 (by intro z; cases z)) (aX ht r3 (by intro z; cases z)) (aX ht r5 (by intro z; cases z)) (aX ht r7 (by intro z; cases z)) ht
  have inss:∀ G':Hp,(∀ b u,b ≠ A.o1 → b ≠ A.o2 → b ≠ A.o3 → b ≠ A.o4 → G1 b = some u → G' b = some u) → ∀ t C dx fs,G1 t = some (.ins C dx fs) → G' t = some (.ins C dx fs):=fun G' h t C dx fs ht=>h t _ (aX ht r2 (by intro z; cases z)) (aX ht r3 (by intro z; cases z)) (aX ht r5 (by intro z; cases z)) (aX ht r7 (by intro z; cases z)) ht
  have names':∀ G':Hp,(∀ b u,b ≠ A.o1 → b ≠ A.o2 → b ≠ A.o3 → b ≠ A.o4 → G1 b = some u → G' b = some u) → Paired (h9 G') (bL s e).n (kn ++ [(Sum.inl e.n,w)]):=fun G' h=>Paired.snoc (Paired.eJ r4 fun x q z=>⟨z.1,z.2.same (tups G' h)⟩) ⟨rfl,n1.same (tups G' h)⟩
  refine ⟨_,rfl,rfl,_,rfl,?_⟩
  refine cQ (fun z=>?_) (fun z=>?_)
  ·have z:cV s e = Str.ofString "right" := V.str.inj (of_decide_eq_true z)
   obtain ⟨nm,hnm,hno,_⟩:=gH z
   rw [hnm] at n1
   obtain ⟨t,rfl,ht⟩:=n1
   have er:(bL s e).r = s.r ++ [⟨e,nm⟩]:=by
    show (if cV s e = Str.ofString "right" then s.r ++ [⟨e,(bM s.r e).getD []⟩] else s.r) = _
    rw [if_pos z,hnm]
    rfl
   have nr:bg kr (Sum.inl e.n) = none:=by
    rcases gb r6 e.n with ⟨_,q⟩ | ⟨x,v,q,_⟩
    ·exact q
    ·obtain ⟨q1,q2⟩:=df q
     exact absurd (q2 ▸ rok.sub x q1) fr
   have nh:bg kh (nm.map Sum.inr) = none:=by
    have:=jj r8 nm
    rw [hno] at this
    cases q:bg kh (nm.map Sum.inr) with
    | none=>rfl
    | some v=>rw [q] at this; cases this
   refine ⟨_,rfl,_,rfl,A.a,_,A.dx,_,_,rfl,f3 _ _ na1 na2 r1,T.cl_Results,T.na_Results_rights,rfl,_,rfl,a,_,dx,_,_,rfl,f3 _ _ ne1 ne2 ha1,T.cl_Entry,T.na_Entry_number,rfl,A.o3,_,rfl,ie.k (k:=Sum.inl e.n) (f3 _ _ d13.symm d23.symm r5) (by omega),?_⟩
   rw [dW nr]
   have f4:∀ b u,b ≠ A.o1 → b ≠ A.o2 → b ≠ A.o3 → G1 b = some u → upd G3 A.o3 (.dK (kr ++ [(Sum.inl e.n,.ref a)])) b = some u:=fun b u n1 n2 n3 hb=>by rw [aH n3]; exact f3 b u n1 n2 hb
   have g4:upd G3 A.o3 (.dK (kr ++ [(Sum.inl e.n,.ref a)])) A.o3 = some (.dK (kr ++ [(Sum.inl e.n,.ref a)])):=aC
   have g4':upd G3 A.o3 (.dK (kr ++ [(Sum.inl e.n,.ref a)])) A.o1 = some (.dK (ba (bL s e))):=by rw [aH d13]; exact g3'
   have g4'':upd G3 A.o3 (.dK (kr ++ [(Sum.inl e.n,.ref a)])) A.o2 = some (.dK (kn ++ [(Sum.inl e.n,.ref t)])):=by rw [aH d23]; exact g3
   generalize upd G3 A.o3 (.dK (kr ++ [(Sum.inl e.n,.ref a)])) = G4 at f4 g4 g4' g4'' ⊢
   have nt:∀ b xs,G1 b = some (.tup xs) → G4 b = some (.tup xs):=fun b xs hb=>f4 b _ (aX hb r2 (by intro z; cases z)) (aX hb r3 (by intro z; cases z)) (aX hb r5 (by intro z; cases z)) hb
   refine ⟨_,rfl,_,rfl,A.a,_,A.dx,_,_,rfl,f4 _ _ na1 na2 na3 r1,T.cl_Results,T.na_Results_holders,rfl,_,rfl,A.o4,_,rfl,ie.t (k:=nm.map Sum.inr) (f4 _ _ d14.symm d24.symm d34.symm r7) (by rw [iV]; exact nt _ _ ht) (by omega),?_⟩
   rw [dW nh]
   have f5:∀ b u,b ≠ A.o1 → b ≠ A.o2 → b ≠ A.o3 → b ≠ A.o4 → G1 b = some u → upd G4 A.o4 (.dT (kh ++ [(nm.map Sum.inr,.ref a)])) b = some u:=fun b u n1 n2 n3 n4 hb=>by rw [aH n4]; exact f4 b u n1 n2 n3 hb
   refine ⟨_,rfl,k _ (fr1.trans f5) ⟨f5 _ _ na1 na2 na3 na4 r1,by rw [aH d14]; exact g4',⟨_,by rw [aH d24]; exact g4'',names' _ f5⟩,⟨_,by rw [aH d34]; exact g4,?_⟩,⟨_,aC,?_⟩,d12,d13,d23⟩⟩
   ·rw [er]
    exact Paired.snoc (Paired.eJ r6 fun x q z=>⟨z.1,z.2.keep fun t dx fs h=>inss _ f5 t _ dx fs h⟩) ⟨rfl,a,dx,rfl,inss _ f5 _ _ _ _ ha1⟩
   ·rw [er]
    exact Paired.snoc (Paired.eJ r8 fun x q z=>⟨z.1,z.2.keep fun t dx fs h=>inss _ f5 t _ dx fs h⟩) ⟨rfl,a,dx,rfl,inss _ f5 _ _ _ _ ha1⟩
  ·have z:¬ cV s e = Str.ofString "right" := fun q=>z (decide_eq_true (congrArg V.str q))
   have er:(bL s e).r = s.r:=by
    show (if cV s e = Str.ofString "right" then s.r ++ [⟨e,(bM s.r e).getD []⟩] else s.r) = _
    rw [if_neg z]
   have f5:∀ b u,b ≠ A.o1 → b ≠ A.o2 → b ≠ A.o3 → b ≠ A.o4 → G1 b = some u → G3 b = some u:=fun b u n1 n2 n3 n4 hb=>f3 b u n1 n2 hb
   refine ⟨_,rfl,k _ (fr1.trans f5) ⟨f3 _ _ na1 na2 r1,g3',⟨_,g3,names' _ f5⟩,⟨kr,f3 _ _ d13.symm d23.symm r5,?_⟩,⟨kh,f3 _ _ d14.symm d24.symm r7,?_⟩,d12,d13,d23⟩⟩
   ·rw [er]
    exact Paired.eJ r6 fun x q z=>⟨z.1,z.2.keep fun t dx fs h=>inss _ f5 t _ dx fs h⟩
   ·rw [er]
    exact Paired.eJ r8 fun x q z=>⟨z.1,z.2.keep fun t dx fs h=>inss _ f5 t _ dx fs h⟩
set_option maxHeartbeats 4000000 in
theorem lT (T:Txt w K mg c):aw P w K mg base fD 1 c.a_Lmixed c.d_Lmixed ["_law_cell", "_law_k"] (wL):=by
 refine T.Lmixed.fn.ok qu (fun vs H Q E h=>?_) (fun cdv A outer s H vs Q E hr h=>?_)
 ·obtain ⟨n,i,rfl,_⟩:=h
  rfl
 ·obtain ⟨n,i,rfl,h0,h1,k⟩:=h
  refine ⟨_,(aG (aS (aL ak (aL dU (aL bH (aL ak (aL bA (pv 0) aB) (aL d6 aB aB)) aB) (aL bH aB (aL dU (aL dU aB (pv 1)) (pv 1)))) aB))),?_⟩
  have sq:i * i ≤ 1000 * 1000:=Int.mul_le_mul (by omega) (by omega) (by omega) (by omega)
  have sq0:0 ≤ i * i:=Int.mul_nonneg h0 h0
  have e3:7919 * i * i = 7919 * (i * i):=Int.mul_assoc _ _ _
  walk_at "rd"
  refine ⟨.inl ⟨by omega,by omega⟩,?_⟩
  walk_at "rd"
  refine ⟨.inr ⟨by rw [e3]; omega,by rw [e3]; omega⟩,?_⟩
  walk_at "rd"
  exact k _ (Int.emod_nonneg _ (by decide)) (Int.emod_lt_of_pos _ (by decide))
set_option maxHeartbeats 4000000 in
theorem qx (T:Txt w K mg c):aw P w K mg base fD 2 c.a_Ldraws c.d_Ldraws ["_law_cell", "_law_k", "_law_free"] (uG):=by
 refine T.Ldraws.fn.ok di (fun vs H Q E h=>?_) (fun cdv A outer s H vs Q E hr h=>?_)
 ·obtain ⟨n,i0,fr,rfl,_⟩:=h
  rfl
 ·obtain ⟨n,i0,fr,rfl,h0,h1,k⟩:=h
  refine ⟨_,(aE (aO (i:=3) di.nd rfl (Or.inl rfl) (az aD))
   (aE (aO (i:=4) di.nd rfl (Or.inl rfl) (aL bA (pv 0) aB))
   (aE (aO (i:=5) di.nd rfl (Or.inl rfl) (ag (lT T) (hr.mono (by decide)) rfl T.Lmixed.mgf T.Lmixed.kp T.Lmixed.bi .nil au (aA (pv 0) (aA (pv 1) aD))))
   (aE (fN PassesOwn.never rfl (dO rfl T.no_range (aA aB aD)) (bG (i:=6) di.nd rfl (Or.inl rfl))
    (aG (ao (PW.pt (eF (bT (pv 2)) (dG (aV vP (pv 4) (aL d6 aB aB) (aa _)))))
    (aE (cD (gI PySem.F.plainAttrs_list PySem.F.slot_list_append PySem.F.type_list_append (nu.r bu) (pv 3) (aA (aL ak (pv 4) (aL d6 aB aB)) aD)))
   (aG (aO (i:=4) di.nd rfl (Or.inl rfl) (aL rY (pv 4) (aL d6 aB aB)))))
    (aY (aO (i:=5) di.nd rfl (Or.inl rfl) (aL ak (aL dU (aL bH (aL bH (pv 5) (aL dU (pv 6) (pv 6))) aB) aB) aB))
   (aG (cD (gI PySem.F.plainAttrs_list PySem.F.slot_list_append PySem.F.type_list_append (nu.r bu) (pv 3) (aA (aL ak (aL dU (pv 5) aB) aB) aD))))))))
   (aG (aS (pv 3))))))),?_⟩
  have sz:2000 < sizeLine:=aM rfl
  refine ⟨aM rfl,fun l hl=>?_⟩
  have s0:=aI.new (o:=HO.lst []) hl
  have k0:=aC (H:=H) (a:=l) (o:=.lst [])
  generalize upd H l (.lst []) = G0 at s0 k0 ⊢
  walk_at "rd"
  refine ⟨h0,by omega,fun r r0 r1=>?_⟩
  walk_at "rd"
  refine ⟨by decide,by decide,?_⟩
  refine dJ (n:=10) (lo:=0) (fun i σ G=>∃ (ds:List Int) (lf mx:Int) (z6:Option V),σ = [some (.int n),some (.int i0),some (.bl fr),some (.ref l),some (.int lf),some (.int mx),z6] ∧ 0 ≤ mx ∧ mx < 2147483648 ∧ ds.length = i ∧ (∀ d ∈ ds,Drawn d) ∧ aI H G ∧ G l = some (.lst (ds.map V.int))) ?_ ?_ ?_
  ·exact ⟨[],_,_,_,rfl,by omega,by omega,rfl,fun _ h=>(nomatch h),s0,k0⟩
  ·rintro i σ G hi ⟨ds,lf,mx,z6,rfl,x0,x1,hl',hw,sG,hG⟩
   have sq:(0 + (i:Int)) * (0 + (i:Int)) ≤ 10 * 10:=Int.mul_le_mul (by omega) (by omega) (by omega) (by omega)
   have sq0:0 ≤ (0 + (i:Int)) * (0 + (i:Int)):=Int.mul_nonneg (by omega) (by omega)
   walk_at "rd"
   cases fr with
   | true =>
    refine bV ?_
    walk_at "rd"
    refine cQ (fun hb=>?_) (fun _=>?_)
    ·walk_at "rd"
     refine ⟨.inl ⟨rfl,_,aj.of hG⟩,?_⟩
     walk_at "rd"
     refine ⟨l,_,_,rfl,rfl,hG,by rw [List.length_map]; omega,?_⟩
     walk_at "rd"
     refine ⟨ds ++ [lf % 10000000000],_,_,_,rfl,x0,x1,by rw [List.length_append,hl']; rfl,iO hw ⟨Int.emod_nonneg _ (by decide),Int.emod_lt_of_pos _ (by decide)⟩,bJ hl sG,?_⟩
     rw [aC,List.map_append]
     rfl
    ·refine ⟨fun σ' G'=>G = G' ∧ ∃ m':Int,σ' = [some (.int n),some (.int i0),some (.bl true),some (.ref l),some (.int lf),some (.int m'),some (.int (0 + (i:Int)))] ∧ 0 ≤ m' ∧ m' < 2147483648,?_,?_⟩
     ·walk_at "rd"
      refine ⟨.inl ⟨by omega,by omega⟩,?_⟩
      walk_at "rd"
      exact ⟨Int.emod_nonneg _ (by decide),Int.lt_trans (Int.emod_lt_of_pos _ (by decide)) (by decide)⟩
     rintro σ' G' ⟨rfl,m',rfl,y0,y1⟩
     walk_at "rd"
     refine ⟨.inl ⟨rfl,_,aj.of hG⟩,?_⟩
     walk_at "rd"
     refine ⟨l,_,_,rfl,rfl,hG,by rw [List.length_map]; omega,?_⟩
     walk_at "rd"
     refine ⟨ds ++ [m' * 16807 % 2147483629],_,_,_,rfl,y0,y1,by rw [List.length_append,hl']; rfl,iO hw ⟨Int.emod_nonneg _ (by decide),Int.lt_trans (Int.emod_lt_of_pos _ (by decide)) (by decide)⟩,bJ hl sG,?_⟩
     rw [aC,List.map_append]
     rfl
   | false =>
    refine bB (bB ?_)
    ·refine ⟨fun σ' G'=>G = G' ∧ ∃ m':Int,σ' = [some (.int n),some (.int i0),some (.bl false),some (.ref l),some (.int lf),some (.int m'),some (.int (0 + (i:Int)))] ∧ 0 ≤ m' ∧ m' < 2147483648,?_,?_⟩
     ·walk_at "rd"
      refine ⟨.inl ⟨by omega,by omega⟩,?_⟩
      walk_at "rd"
      exact ⟨Int.emod_nonneg _ (by decide),Int.lt_trans (Int.emod_lt_of_pos _ (by decide)) (by decide)⟩
     rintro σ' G' ⟨rfl,m',rfl,y0,y1⟩
     walk_at "rd"
     refine ⟨.inl ⟨rfl,_,aj.of hG⟩,?_⟩
     walk_at "rd"
     refine ⟨l,_,_,rfl,rfl,hG,by rw [List.length_map]; omega,?_⟩
     walk_at "rd"
     refine ⟨ds ++ [m' * 16807 % 2147483629],_,_,_,rfl,y0,y1,by rw [List.length_append,hl']; rfl,iO hw ⟨Int.emod_nonneg _ (by decide),Int.lt_trans (Int.emod_lt_of_pos _ (by decide)) (by decide)⟩,bJ hl sG,?_⟩
     rw [aC,List.map_append]
     rfl
  ·rintro σ G ⟨ds,lf,mx,z6,rfl,x0,x1,hl',hw,sG,hG⟩
   exact ⟨_,rfl,k ds l G hl' hw sG hl hG⟩
set_option maxHeartbeats 4000000 in
theorem mH (T:Txt w K mg c):aw P w K mg base fD 1 c.a_Lany_word c.d_Lany_word ["_law_number_here"] (wj):=by
 refine T.Lany_word.fn.ok cK (fun vs H Q E h=>?_) (fun cdv A outer s H vs Q E hr h=>?_)
 ·obtain ⟨n,rfl,_⟩:=h
  rfl
 ·obtain ⟨n,rfl,k⟩:=h
  refine ⟨_,(aE (aO (i:=1) cK.nd rfl (Or.inl rfl) (aL bH aB (aL ak (pv 0) aB)))
   (aE (aO (i:=0) cK.nd rfl (Or.inl rfl) (aL bA (pv 0) aB))
   (aE (aO (i:=2) cK.nd rfl (Or.inl rfl) aZ)
   (aE (fN PassesOwn.never rfl (dO rfl T.no_range (aA (pv 1) aD)) (bG (i:=3) cK.nd rfl (Or.inl rfl))
    (aE (aO (i:=2) cK.nd rfl (Or.inl rfl) (aL iI (pv 2) (aN mP aZ (aL ak (pv 0) aB) (fun _ _=>rfl))))
   (aG (aO (i:=0) cK.nd rfl (Or.inl rfl) (aL bA (pv 0) aB)))))
   (aG (aS (pv 2))))))),?_⟩
  have sz:2000 < sizeLine:=aM rfl
  have abc:(Str.ofString "abcdefghijklmnopqrstuvwxyz").cps.toList.length = 26:=by decide +kernel
  have abl:∀ c ∈ (Str.ofString "abcdefghijklmnopqrstuvwxyz").cps.toList,bp c = true:=by decide +kernel
  have m0:=Int.emod_nonneg n (b:=12) (by decide)
  have m1:=Int.emod_lt_of_pos n (b:=12) (by decide)
  walk_at "rd"
  refine ⟨by omega,by omega,?_⟩
  refine dJ (n:=(1 + n % 12).toNat) (lo:=0) (fun j σ G'=>G' = H ∧ ∃ (m:Int) (z:Str) (z3:Option V),σ = [some (.int m),some (.int (1 + n % 12)),some (.str z),z3] ∧ z.length = j ∧ z.cps.toList.all bp = true) ?_ ?_ ?_
  ·exact ⟨rfl,_,_,_,rfl,rfl,rfl⟩
  ·rintro j σ G' hj ⟨rfl,m,z,z3,rfl,hz,ha⟩
   have hj':(j:Int) < 12:=by omega
   walk_at "rd"
   obtain ⟨ch,hv,hm⟩:=dH (xs:=(Str.ofString "abcdefghijklmnopqrstuvwxyz").cps.toList) (i:=m % 26) (Int.emod_nonneg _ (by decide)) (by rw [abc]; exact Int.emod_lt_of_pos _ (by decide))
   refine ⟨_,_,ch,rfl,rfl,aM rfl,hv,?_⟩
   refine ⟨_,_,rfl,rfl,?_,?_⟩
   ·show z.length + 1 ≤ sizeLine
    omega
   ·walk_at "rd"
    first | refine ⟨rfl,_,_,_,rfl,?_,?_⟩ | refine ⟨_,_,_,rfl,?_,?_⟩
    ·rw [Str.length_append,hz]
     rfl
    ·rw [mF,ha]
     show (true && ([ch].all bp)) = true
     rw [List.all_cons,abl ch hm]
     rfl
  ·rintro σ G' ⟨rfl,m,z,z3,rfl,hz,ha⟩
   exact ⟨_,rfl,k _ (lQ (by omega) (by omega) ha)⟩
set_option maxHeartbeats 4000000 in
theorem qX (T:Txt w K mg c):aw P w K mg base fD 1 c.a_Lwords c.d_Lwords ["_law_cell", "_law_free"] (rW 4):=by
 refine T.Lwords.fn.ok bY (fun vs H Q E h=>?_) (fun cdv A outer s H vs Q E hr h=>?_)
 ·obtain ⟨m,fr,rfl,_⟩:=h
  rfl
 ·obtain ⟨m,fr,rfl,k⟩:=h
  refine ⟨_,(aE (aO (i:=2) bY.nd rfl (Or.inl rfl) aZ)
   (aE (aO (i:=3) bY.nd rfl (Or.inl rfl) (aL bH aB (aL ak (pv 0) aB)))
   (aY (aO (i:=4) bY.nd rfl (Or.inl rfl) (aL ak (aL bA (pv 0) aB) (pv 3)))
   (aE (aO (i:=5) bY.nd rfl (Or.inl rfl) (aL bA (pv 0) aB))
   (aE (aO (i:=6) bY.nd rfl (Or.inl rfl) (az aD))
   (aE (fN PassesOwn.never rfl (dO rfl T.no_range (aA (pv 3) aD)) (bG (i:=7) bY.nd rfl (Or.inl rfl))
    (aY (aO (i:=8) bY.nd rfl (Or.inl rfl) (aL bA (aL dU (aL bH (aL ak (pv 0) aB) aB) (aL bH aB (aL dU (aL dU aB (pv 7)) (pv 7)))) aB))
   (aY (ao (PW.pt (eF (bT (pv 1)) (dG (aV vP (pv 5) aB (aa _)))))
    (aE (aO (i:=8) bY.nd rfl (Or.inl rfl) (aL ak (pv 5) aB))
   (aG (aO (i:=5) bY.nd rfl (Or.inl rfl) (aL bA (pv 5) aB))))
    aP)
   (aG (cD (gI PySem.F.plainAttrs_list PySem.F.slot_list_append PySem.F.type_list_append (nu.r bu) (pv 6) (aA (pv 8) aD)))))))
   (aE (aO (i:=9) bY.nd rfl (Or.inl rfl) (az aD))
   (aE (fN PassesOwn.never rfl (dO rfl T.no_range (aA aB aD)) (bG (i:=10) bY.nd rfl (Or.inl rfl))
    (aE (aO (i:=11) bY.nd rfl (Or.inl rfl) (az aD))
   (aE (fN PassesOwn.never rfl (dO rfl T.no_range (aA (pv 3) aD)) (bG (i:=7) bY.nd rfl (Or.inl rfl))
    (aG (cD (gI PySem.F.plainAttrs_list PySem.F.slot_list_append PySem.F.type_list_append (nu.r bu) (pv 11) (aA (aN mP (pv 2) (aL ak (aL bH (aN aJ (pv 6) (pv 7) (fun _ _=>rfl)) (aL dU (aL dU aB (pv 10)) (ft jB rfl T.no_int jq (aA (cO cP (pv 7) (pv 4) (aa _)) aD)))) aB) (fun _ _=>rfl)) aD)))))
   (aG (cD (gI PySem.F.plainAttrs_list PySem.F.slot_list_append PySem.F.type_list_append (nu.r bu) (pv 9) (aA (gI PySem.F.plainAttrs_str PySem.F.slot_str_join PySem.F.type_str_join uA aZ (aA (pv 11) aD)) aD)))))))
   (aG (aS (pv 9))))))))))),?_⟩
  have sz:2000 < sizeLine:=aM rfl
  have abc:(Str.ofString "abcdefghijklmnopqrstuvwxyz").cps.toList.length = 26:=by decide +kernel
  have abl:∀ c ∈ (Str.ofString "abcdefghijklmnopqrstuvwxyz").cps.toList,bp c = true:=by decide +kernel
  have m0:=Int.emod_nonneg m (b:=12) (by decide)
  have m1:=Int.emod_lt_of_pos m (b:=12) (by decide)
  have c0:=Int.emod_nonneg m (b:=1000003) (by decide)
  have c1:=Int.emod_lt_of_pos m (b:=1000003) (by decide)
  walk_at "rd"
  refine ⟨fun σ' G'=>H = G' ∧ ∃ at0:Int,σ' = [some (.int m),some (.bl fr),some (.str (Str.ofString "abcdefghijklmnopqrstuvwxyz")),some (.int (1 + m % 12)),some (.int at0),none,none,none,none,none,none,none],?_,?_⟩
  ·walk_at "rd"
   first | (refine ⟨by omega,?_⟩; walk_at "rd") | skip
   first | exact ⟨rfl,_,rfl⟩ | exact ⟨_,rfl⟩
  rintro σ' G' ⟨rfl,at0,rfl⟩
  walk_at "rd"
  refine ⟨aM rfl,fun p hp=>?_⟩
  have s0:=aI.new (o:=HO.lst []) hp
  have k0:=aC (H:=H) (a:=p) (o:=.lst [])
  generalize upd H p (.lst []) = G0 at s0 k0 ⊢
  walk_at "rd"
  refine ⟨by omega,by omega,?_⟩
  refine dJ (n:=(1 + m % 12).toNat) (lo:=0) (fun j σ G=>∃ (ns:List Int) (lf:Int) (z7 z8:Option V),σ = [some (.int m),some (.bl fr),some (.str (Str.ofString "abcdefghijklmnopqrstuvwxyz")),some (.int (1 + m % 12)),some (.int at0),some (.int lf),some (.ref p),z7,z8,none,none,none] ∧ ns.length = j ∧ aI H G ∧ G p = some (.lst (ns.map V.int))) ?_ ?_ ?_
  ·exact ⟨[],_,_,_,rfl,rfl,s0,k0⟩
  ·rintro j σ G hj ⟨ns,lf,z7,z8,rfl,hn,sG,hG⟩
   have hj':(j:Int) < 12:=by omega
   have sq:(0 + (j:Int)) * (0 + (j:Int)) ≤ 12 * 12:=Int.mul_le_mul (by omega) (by omega) (by omega) (by omega)
   have sq0:0 ≤ (0 + (j:Int)) * (0 + (j:Int)):=Int.mul_nonneg (by omega) (by omega)
   have e3:7 * (0 + (j:Int)) * (0 + (j:Int)) = 7 * ((0 + (j:Int)) * (0 + (j:Int))):=Int.mul_assoc _ _ _
   refine ⟨fun σ' G'=>G = G' ∧ ∃ num:Int,σ' = [some (.int m),some (.bl fr),some (.str (Str.ofString "abcdefghijklmnopqrstuvwxyz")),some (.int (1 + m % 12)),some (.int at0),some (.int lf),some (.ref p),some (.int (0 + (j:Int))),some (.int num),none,none,none],?_,?_⟩
   ·walk_at "rd"
    refine ⟨.inl ⟨by omega,by omega⟩,?_⟩
    walk_at "rd"
    refine ⟨.inl ⟨by omega,by omega⟩,?_⟩
    walk_at "rd"
    first | exact ⟨rfl,_,rfl⟩ | exact ⟨_,rfl⟩
   rintro σ' G' ⟨rfl,num,rfl⟩
   refine ⟨fun σ' G'=>G = G' ∧ ∃ lf num:Int,σ' = [some (.int m),some (.bl fr),some (.str (Str.ofString "abcdefghijklmnopqrstuvwxyz")),some (.int (1 + m % 12)),some (.int at0),some (.int lf),some (.ref p),some (.int (0 + (j:Int))),some (.int num),none,none,none],?_,?_⟩
   ·walk_at "rd"
    cases fr with
    | true =>
     refine bV ?_
     walk_at "rd"
     refine cQ (fun _=>?_) (fun _=>?_)
     ·walk_at "rd"
      first | done | exact ⟨rfl,_,_,rfl⟩ | exact ⟨_,_,rfl⟩ | exact ⟨_,rfl⟩
     ·first | exact ⟨rfl,_,_,rfl⟩
    | false =>
     exact bB (bB ⟨rfl,_,_,rfl⟩)
   rintro σ' G' ⟨rfl,lf',num',rfl⟩
   walk_at "rd"
   refine ⟨.inl ⟨rfl,_,aj.of hG⟩,?_⟩
   walk_at "rd"
   refine ⟨p,_,_,rfl,rfl,hG,by rw [List.length_map]; omega,?_⟩
   refine ⟨ns ++ [num'],_,_,_,rfl,by rw [List.length_append,hn]; rfl,bJ hp sG,?_⟩
   rw [aC,List.map_append]
   rfl
  rintro σ G ⟨ns,lf,z7,z8,rfl,hn,sG,hG⟩
  refine ⟨aM rfl,fun l hl=>?_⟩
  have hlH:=sG.free hl
  have np:p ≠ l:=aK hG hl
  have s1:=sG.trans (aI.new (o:=HO.lst []) hl)
  have k1:=aC (H:=G) (a:=l) (o:=.lst [])
  have p1:=aI.new (o:=HO.lst []) hl _ _ hG
  generalize upd G l (.lst []) = G1 at s1 k1 p1 ⊢
  walk_at "rd"
  refine ⟨by decide,by decide,?_⟩
  refine dJ (n:=4) (lo:=0) (fun i σ G=>∃ (zs:List Str) (z7 z10 z11:Option V),σ = [some (.int m),some (.bl fr),some (.str (Str.ofString "abcdefghijklmnopqrstuvwxyz")),some (.int (1 + m % 12)),some (.int at0),some (.int lf),some (.ref p),z7,z8,some (.ref l),z10,z11] ∧ zs.length = i ∧ (∀ z ∈ zs,isWord (.str z) = true) ∧ aI H G ∧ G p = some (.lst (ns.map V.int)) ∧ G l = some (.lst (zs.map V.str))) ?_ ?_ ?_
  ·exact ⟨[],_,_,_,rfl,rfl,fun _ h=>(nomatch h),s1,p1,k1⟩
  ·rintro i σ G2 hi ⟨zs,z7',z10,z11,rfl,hz,hw,s2,p2,l2⟩
   walk_at "rd"
   refine ⟨aM rfl,fun q hq=>?_⟩
   have nq:p ≠ q:=aK p2 hq
   have nl:l ≠ q:=aK l2 hq
   have hqH:=s2.free hq
   have s3:=s2.trans (aI.new (o:=HO.lst []) hq)
   have k3:=aC (H:=G2) (a:=q) (o:=.lst [])
   have p3:=aI.new (o:=HO.lst []) hq _ _ p2
   have l3:=aI.new (o:=HO.lst []) hq _ _ l2
   generalize upd G2 q (.lst []) = G3 at s3 k3 p3 l3 ⊢
   walk_at "rd"
   refine ⟨by omega,by omega,?_⟩
   refine dJ (n:=(1 + m % 12).toNat) (lo:=0) (fun j σ G=>∃ (ys:List Str) (z7:Option V),σ = [some (.int m),some (.bl fr),some (.str (Str.ofString "abcdefghijklmnopqrstuvwxyz")),some (.int (1 + m % 12)),some (.int at0),some (.int lf),some (.ref p),z7,z8,some (.ref l),some (.int (0 + (i:Int))),some (.ref q)] ∧ ys.length = j ∧ (∀ y ∈ ys,y.length = 1 ∧ y.cps.toList.all bp = true) ∧ aI H G ∧ G p = some (.lst (ns.map V.int)) ∧ G l = some (.lst (zs.map V.str)) ∧ G q = some (.lst (ys.map V.str))) ?_ ?_ ?_
   ·exact ⟨[],_,rfl,rfl,fun _ h=>(nomatch h),s3,p3,l3,k3⟩
   ·rintro j σ G4 hj ⟨ys,z7'',rfl,hy,hys,s4,p4,l4,q4⟩
    have hj':(j:Int) < 12:=by omega
    walk_at "rd"
    refine ⟨.inl ⟨rfl,_,aj.of q4⟩,?_⟩
    walk_at "rd"
    obtain ⟨v,hv,hm⟩:=dH (xs:=ns.map V.int) (i:=0 + (j:Int)) (by omega) (by rw [List.length_map]; omega)
    obtain ⟨num,_,rfl⟩:=List.mem_map.mp hm
    refine ⟨p,_,_,_,rfl,rfl,aj.of p4,hv,?_⟩
    walk_at "rd"
    refine .inr ⟨_,rfl,?_⟩
    walk_at "rd"
    refine ⟨.inl ⟨by omega,by omega⟩,?_⟩
    walk_at "rd"
    obtain ⟨bb,hbb⟩:∃ bb:Int,bb = (if decide (V.int (0 + (j:Int)) = V.int at0) = true then (1:Int) else 0):=⟨_,rfl⟩
    rw [← hbb]
    obtain ⟨ch,hv,hm⟩:=dH (xs:=(Str.ofString "abcdefghijklmnopqrstuvwxyz").cps.toList) (i:=(num + 5 * (0 + (i:Int)) * bb) % 26) (Int.emod_nonneg _ (by decide)) (by rw [abc]; exact Int.emod_lt_of_pos _ (by decide))
    refine ⟨_,_,ch,rfl,rfl,aM rfl,hv,?_⟩
    refine ⟨q,_,_,rfl,rfl,q4,by rw [List.length_map]; omega,?_⟩
    refine ⟨ys ++ [⟨#[ch]⟩],_,rfl,by rw [List.length_append,hy]; rfl,fun y hy=>?_,bJ hqH s4,by rw [aH nq]; exact p4,by rw [aH nl]; exact l4,by rw [aC,List.map_append]; rfl⟩
    rcases List.mem_append.mp hy with e | e
    ·exact hys y e
    ·rw [List.mem_singleton.mp e]
     refine ⟨rfl,?_⟩
     show [ch].all bp = true
     rw [List.all_cons,abl ch hm]
     rfl
   ·rintro σ G4 ⟨ys,z7'',rfl,hy,hys,s4,p4,l4,q4⟩
    have su:=mz ys hys
    walk_at "rd"
    refine ⟨.inl ⟨rfl,_,aj.of l4⟩,?_⟩
    walk_at "rd"
    refine ⟨_,q,ys,rfl,rfl,aj.of q4,aM (by decide +kernel),by omega,?_⟩
    refine ⟨l,_,_,rfl,rfl,l4,by rw [List.length_map]; omega,?_⟩
    refine ⟨zs ++ [Txt.join (Str.ofString "") ys],_,_,_,rfl,by rw [List.length_append,hz]; rfl,fun y hy'=>?_,bJ hlH s4,by rw [aH np]; exact p4,by rw [aC,List.map_append]; rfl⟩
    rcases List.mem_append.mp hy' with e | e
    ·exact hw y e
    ·rw [List.mem_singleton.mp e]
     exact qt hys (by omega) (by omega)
  ·rintro σ G ⟨zs,z7',z10,z11,rfl,hz,hw,s2,p2,l2⟩
   exact ⟨_,rfl,k zs l G hz hw s2 hlH l2⟩
set_option maxHeartbeats 4000000 in
theorem qS (T:Txt w K mg c):aw P w K mg base fD 1 c.a_Lstamp c.d_Lstamp ["_law_book_here", "_law_one_here", "_law_other"] (uq):=by
 refine T.Lstamp.fn.ok dh (fun vs H Q E h=>?_) (fun cdv A outer s H vs Q E hr h=>?_)
 ·obtain ⟨l,ws,es,x,y,rfl,_⟩:=h
  rfl
 ·obtain ⟨l,ws,es,x,y,rfl,hL,hR,hB,h84,dx,dy,k⟩:=h
  refine ⟨_,(aE (aO (i:=3) dh.nd rfl (Or.inl rfl) (aL bH aB (aL ak (pv 1) aB)))
   (aE (aO (i:=4) dh.nd rfl (Or.inl rfl) (aL bH aB (aL ak (pv 2) aB)))
   (aY (ao (aV cP (aL ak (aL bA (pv 1) aB) aB) aB (aa _))
    (aG (aO (i:=4) dh.nd rfl (Or.inl rfl) (aL bH aB (aL ak (pv 2) aB))))
    aP)
   (aY (ao (aV (sy (mT hr)) (pv 0) (az aD) (aa _))
    (aY (aO (i:=3) dh.nd rfl (Or.inl rfl) (aL bH (aN aJ (aN aJ (pv 0) (kP iJ aB) (fun _ _=>rfl)) aB (fun _ _=>rfl)) (aN aJ (az (aA aB (aA aB (aA aB (aA (aL ak (aL bA (pv 1) aB) aB) aD))))) (aL ak (aL bA (pv 1) aB) aB) (fun _ _=>rfl))))
   (aG (ao (PW.pt (eF (aV cP (pv 3) (aN aJ (aN aJ (pv 0) (kP iJ aB) (fun _ _=>rfl)) aB (fun _ _=>rfl)) (aa _)) (dG (aV iS (pv 4) (aN aJ (aN aJ (pv 0) (kP iJ aB) (fun _ _=>rfl)) aB (fun _ _=>rfl)) (aa _)))))
    (aG (aO (i:=4) dh.nd rfl (Or.inl rfl) (aL bH (aL bH (aN aJ (aN aJ (pv 0) (kP iJ aB) (fun _ _=>rfl)) aB (fun _ _=>rfl)) aB) (aL ak (pv 2) aB))))
    aP)))
    aP)
   (aY (nF PassesOwn.never (aV gs (pv 4) (gF (N':=["_law_there"]) (js:=[none]) rfl rfl (by decide +kernel) (by decide +kernel) (fi (by decide +kernel)) (gz rfl rfl) (dF (pv 0)) (fun B=>⟨(bG (i:=0) (show List.Nodup (["_law_there"]:List Str) by decide +kernel) rfl (Or.inl rfl)),fA,(aN aJ (pv 0) aB (fun _ _=>rfl))⟩)) (by with_unfolding_all rfl))
    (aG (aO (i:=4) dh.nd rfl (Or.inl rfl) (aL bH (pv 4) aB))))
   (aG (aS (fB (aA (pv 4) (aA (pv 3) aD)))))))))),?_⟩
  have sz:2000 < sizeLine:=aM rfl
  have lw:=hR.1
  have a0:=Int.emod_nonneg x (b:=5) (by decide)
  have a1:=Int.emod_lt_of_pos x (b:=5) (by decide)
  have b0:=Int.emod_nonneg y (b:=999000000) (by decide)
  have b1:=Int.emod_lt_of_pos y (b:=999000000) (by decide)
  have c0:=Int.emod_nonneg y (b:=100) (by decide)
  have c1:=Int.emod_lt_of_pos y (b:=100) (by decide)
  have e0:=Int.emod_nonneg y (b:=1000) (by decide)
  have e1:=Int.emod_lt_of_pos y (b:=1000) (by decide)
  walk_at "rd"
  refine ⟨fun σ' G'=>H = G' ∧ ∃ num:Int,σ' = [some (.ref l),some (.int x),some (.int y),some (.int (1 + x % 5)),some (.int num)] ∧ 1 ≤ num ∧ num ≤ 999000000,?_,?_⟩
  ·walk_at "rd"
   refine cQ (fun _=>?_) (fun _=>?_)
   ·walk_at "rd"
    exact ⟨by omega,by omega⟩
   ·exact ⟨rfl,_,rfl,by omega,by omega⟩
  rintro σ' G' ⟨rfl,num,rfl,n0,n1⟩
  refine ⟨fun σ' G'=>aI H G' ∧ ∃ day num:Int,σ' = [some (.ref l),some (.int x),some (.int y),some (.int day),some (.int num)] ∧ 1 ≤ num ∧ num ≤ 999000000 + 2000 * (es.length:Int) + 1001 ∧ 1 ≤ day ∧ day ≤ 9000 * ((es.length:Int) + 1) ∧ (∀ e,dD none es = some e → e.d < day ∨ e.d = day ∧ e.n < num),?_,?_⟩
  ·refine ⟨_,rfl,aM rfl,fun q0 hq0=>?_⟩
   have t0:=aI.new (o:=HO.lst []) hq0
   have hL0:=t0 _ _ hL
   have hR0:=hR.same t0
   refine ⟨0,_,by decide,iQ (aj.of hL0) (aj.of aC),_,rfl,?_⟩
   generalize upd H q0 (.lst []) = G4 at t0 hL0 hR0 ⊢
   refine gG (fun he=>?_) (fun he=>?_)
   ·have wne:ws ≠ []:=fun z=>by rw [z] at he; exact absurd he (by decide)
    obtain ⟨e,ra,le,em,hat,hra⟩:=hR0.last wne
    have en:=hB.nn e em
    have ed:=hB.dd e em
    have f0:cb (bS e) 0 = some (.int e.n):=aQ (j:=0) rfl
    have f1:cb (bS e) 1 = some (.int e.d):=aQ (j:=1) rfl
    refine ⟨fun σ' G'=>aI G4 G' ∧ ∃ day:Int,σ' = [some (.ref l),some (.int x),some (.int y),some (.int day),some (.int num)] ∧ e.d ≤ day ∧ day ≤ e.d + 8999,?_,?_⟩
    ·walk_at "rd"
     refine ⟨l,_,_,_,rfl,rfl,aj.of hL0,hat,?_⟩
     walk_at "rd"
     refine ⟨ra,_,_,_,rfl,rfl,aj.of hra,f1,?_⟩
     walk_at "rd"
     refine ⟨aM rfl,fun q1 hq1=>?_⟩
     walk_at "rd"
     obtain ⟨sv,hsv,hsm⟩:=dH (xs:=[V.int 0,V.int 0,V.int 1,V.int (x / 60 % 9000)]) (i:=x / 15 % 4) (Int.emod_nonneg _ (by decide)) (by show _ < (4:Int); exact Int.emod_lt_of_pos _ (by decide))
     obtain ⟨st,rfl,st0,st1⟩:∃ st:Int,sv = .int st ∧ 0 ≤ st ∧ st < 9000:=by
      have b0:=Int.emod_nonneg (x / 60) (b:=9000) (by decide)
      have b1:=Int.emod_lt_of_pos (x / 60) (b:=9000) (by decide)
      simp only [List.mem_cons,List.not_mem_nil,or_false] at hsm
      rcases hsm with rfl | rfl | rfl | rfl
      ·exact ⟨_,rfl,by decide,by decide⟩
      ·exact ⟨_,rfl,by decide,by decide⟩
      ·exact ⟨_,rfl,by decide,by decide⟩
      ·exact ⟨_,rfl,b0,b1⟩
     exact ⟨q1,_,_,_,rfl,rfl,aj.of aC,hsv,_,_,rfl,rfl,aI.new hq1,_,rfl,by omega,by omega⟩
    rintro σ' G5 ⟨t5,day,rfl,d0,d1⟩
    have t45:=t0.trans t5
    have hL5:=t5 _ _ hL0
    have hra5:=t5 _ _ hra
    have fin:∀ num':Int,(e.d < day ∨ e.d = day ∧ e.n < num') → ∀ e',dD none es = some e' → e'.d < day ∨ e'.d = day ∧ e'.n < num':=fun num' h e' q=>by
     rw [le] at q
     cases q
     exact h
    walk_at "rd"
    refine ⟨l,_,_,_,rfl,rfl,aj.of hL5,hat,?_⟩
    walk_at "rd"
    refine ⟨ra,_,_,_,rfl,rfl,aj.of hra5,f1,?_⟩
    walk_at "rd"
    refine cQ (fun z=>?_) (fun z=>?_)
    ·have z:day = e.d:=V.int.inj (of_decide_eq_true z)
     walk_at "rd"
     refine ⟨l,_,_,_,rfl,rfl,aj.of hL5,hat,?_⟩
     walk_at "rd"
     refine ⟨ra,_,_,_,rfl,rfl,aj.of hra5,f0,?_⟩
     walk_at "rd"
     refine cQ (fun z2=>?_) (fun z2=>?_)
     ·have z2:num ≤ e.n:=of_decide_eq_true z2
      walk_at "rd"
      refine ⟨l,_,_,_,rfl,rfl,aj.of hL5,hat,?_⟩
      walk_at "rd"
      refine ⟨ra,_,_,_,rfl,rfl,aj.of hra5,f0,?_⟩
      walk_at "rd"
      exact ⟨t45,_,_,rfl,by omega,by omega,by omega,by omega,fin _ (.inr ⟨z.symm,by omega⟩)⟩
     ·have z2:¬ num ≤ e.n:=fun q=>z2 (decide_eq_true q)
      exact ⟨t45,_,_,rfl,by omega,by omega,by omega,by omega,fin _ (.inr ⟨z.symm,by omega⟩)⟩
    ·have z:¬ day = e.d:=fun q=>z (decide_eq_true (congrArg V.int q))
     exact bB ⟨t45,_,_,rfl,by omega,by omega,by omega,by omega,fin _ (.inl (by omega))⟩
   ·have wn:ws = []:=by
     cases ws with
     | nil=>rfl
     | cons _ _=>cases he
    have en:es = []:=List.eq_nil_of_length_eq_zero (by rw [← lw,wn]; rfl)
    refine ⟨t0,_,_,rfl,by omega,by omega,by omega,by omega,fun e q=>?_⟩
    rw [en] at q
    cases q
  rintro σ' G1 ⟨s1,day,num,rfl,n0,n1,d0,d1,la⟩
  refine ⟨fun σ' G'=>aI H G' ∧ ∃ num':Int,σ' = [some (.ref l),some (.int x),some (.int y),some (.int day),some (.int num')] ∧ num ≤ num' ∧ num' ≤ 999000000 + 2000 * (es.length:Int) + 1001 ∧ (∀ e ∈ es,e.n ≠ num'),?_,?_⟩
  ·refine ⟨fun m σ' G'=>aI H G' ∧ ∃ num':Int,σ' = [some (.ref l),some (.int x),some (.int y),some (.int day),some (.int num')] ∧ num ≤ num' ∧ num' ≤ 999000000 + 2000 * (es.length:Int) + 1001 ∧ m = (10000000000 - num').toNat,⟨_,s1,num,rfl,Int.le_refl _,n1,rfl⟩,?_⟩
   rintro m σ' G2 ⟨s2,num',rfl,m0,m1,rfl⟩
   have hL2:=s2 _ _ hL
   have hR2:=hR.same s2
   refine ⟨_,rfl,_,rfl,l,rfl,⟨_,aj.of hL2⟩,fun q B hq=>?_⟩
   refine dC (xs:=ws) (fun i σ acc G=>(∃ o,σ = [o]) ∧ aI G2 G ∧ G q = some (.lst acc) ∧ acc = ((es.take i).map (·.n)).map V.int) (by omega) ?_ ?_ ?_ ?_
   ·exact ⟨⟨_,rfl⟩,aI.new hq,aC,rfl⟩
   ·rintro i σ acc G hi ⟨_,sG,h1,rfl⟩
    exact ⟨h1,aj.of (sG _ _ hL2),by rw [List.length_map,List.length_map,List.length_take]; omega⟩
   ·rintro i v σ acc G hx ⟨⟨o,rfl⟩,sG,h1,rfl⟩
    have hi:i < ws.length:=(List.getElem?_eq_some_iff.mp hx).1
    have hie:i < es.length:=by omega
    have ee:es[i]? = some es[i]:=List.getElem?_eq_getElem hie
    obtain ⟨ra,rfl,hrow⟩:=hR2.2 i v _ hx ee
    have f0:cb (bS es[i]) 0 = some (.int es[i].n):=aQ (j:=0) rfl
    have hrow:=sG _ _ hrow
    refine ⟨_,rfl,ra,_,_,_,rfl,rfl,aj.of hrow,f0,h1,Nx.mk hi ⟨⟨_,rfl⟩,bJ hq sG,aC,?_⟩⟩
    rw [take_one ee,List.map_append,List.map_append]
    rfl
   ·rintro σ acc G ⟨_,sG,h1,rfl⟩
    rw [lw,List.take_of_length_le (Nat.le_refl _)] at h1
    refine ⟨q,_,rfl,.inl (aj.of h1),rfl,vU _,_,rfl,?_⟩
    refine gG (fun z=>?_) (fun z=>?_)
    ·obtain ⟨e,he,en⟩:=List.mem_map.mp (i8.mp z)
     have en2:=(hB.nn e he).2
     refine ⟨fun σ' G'=>G = G' ∧ σ' = [some (.ref l),some (.int x),some (.int y),some (.int day),some (.int (num' + 1))],fun σ' G' h=>⟨(10000000000 - (num' + 1)).toNat,by omega,h.1 ▸ s2.trans sG,num' + 1,h.2,by omega,by omega,rfl⟩,?_⟩
     walk_at "rd"
     first | done | exact rfl | exact ⟨rfl,rfl⟩
    ·refine ⟨s2.trans sG,num',rfl,m0,m1,fun e he en=>?_⟩
     have:pe (.int num') ((es.map (·.n)).map V.int) = true:=i8.mpr (en ▸ List.mem_map_of_mem (f:=fun x:En=>x.n) he)
     rw [show pe (.int num') ((es.map (·.n)).map V.int) = false from z] at this
     cases this
  rintro σ' G2 ⟨s2,num',rfl,m0,m1,m2⟩
  refine ⟨_,rfl,_,rfl,aM rfl,fun t ht=>?_⟩
  refine k num' day t _ (s2.trans (aI.new ht)) aC m2 (by omega) (by omega) d0 d1 fun e q=>?_
  rcases la e q with h | h
  ·exact .inl h
  ·exact .inr ⟨h.1,by omega⟩
set_option maxHeartbeats 4000000 in
theorem ri (T:Txt w K mg c):aw P w K mg base fD 1 c.a_Lpick c.d_Lpick ["_law_book_here", "_law_rank", "_law_one_here", "_law_other"] (vq):=by
 refine T.Lpick.fn.ok kB (fun vs H Q E h=>?_) (fun cdv A outer s H vs Q E hr h=>?_)
 ·obtain ⟨l,ws,es,rk,x,y,rfl,_⟩:=h
  rfl
 ·obtain ⟨l,ws,es,rk,x,y,rfl,hL,hR,hB,ne,k⟩:=h
  refine ⟨_,(aY (e8 (i:=4) kB.nd rfl rfl (N':=["_law_there", "_law_rank"]) (js:=[none,some 1]) rfl rfl (by decide +kernel) (by decide +kernel) (gu ["_law_rank"] (by decide +kernel) (bh (.inl rfl) eC)) (ix rfl (bh (fun j e=>nomatch e) (bh (fun j e=>by cases e; exact ⟨rfl,rfl,.inl rfl⟩) eC))) (dF (pv 0)) (fun B=>⟨(bG (i:=0) (show List.Nodup (["_law_there", "_law_rank"]:List Str) by decide +kernel) rfl (Or.inl rfl)),(gU (PW.pt (eF (aV cP (aN aJ (pv 0) aB (fun _ _=>rfl)) (pv 1) (aa _)) (dG (cC (dA (aN aJ (pv 0) aB (fun _ _=>rfl)))))))),(pv 0)⟩))
   (aY (ao (PW.pt (eN (aV (iG (mT hr)) (pv 4) (az aD) (aa _)) (d7 (aV cP (aL ak (pv 2) aB) aB (aa _)))))
    (aG (aO (i:=4) kB.nd rfl (Or.inl rfl) (pv 0)))
    aP)
   (aE (ao (aV cP (aL ak (aL bA (pv 2) aB) aB) aB (aa _))
    (aG (aS (aL bH aB (aL ak (pv 3) (aL d6 aB aB)))))
    aP)
   (aG (aS (aN aJ (aN aJ (pv 4) (aL ak (pv 3) (aW ar rfl T.no_len cU (aA (pv 4) aD))) (fun _ _=>rfl)) aB (fun _ _=>rfl))))))),?_⟩
  have sz:2000 < sizeLine:=aM rfl
  have lw:=hR.1
  have l84:=hB.le
  refine ⟨fun σ' G'=>aI H G' ∧ ∃ q acc,σ' = [some (.ref l),some (.str rk),some (.int x),some (.int y),some (.ref q)] ∧ G' q = some (.lst acc) ∧ nX G' es acc,?_,?_⟩
  ·refine ⟨_,rfl,l,rfl,⟨_,aj.of hL⟩,fun q B hq=>?_⟩
   refine dC (xs:=ws) (fun i σ acc G=>(∃ o,σ = [o,some (.str rk)]) ∧ aI H G ∧ G q = some (.lst acc) ∧ acc.length ≤ i ∧ ∀ v ∈ acc,∃ e ∈ es,fG H v e) (by omega) ?_ ?_ ?_ ?_
   ·exact ⟨⟨_,rfl⟩,aI.new hq,aC,Nat.zero_le _,fun _ h=>nomatch h⟩
   ·rintro i σ acc G hi ⟨_,sG,h1,h2,_⟩
    exact ⟨h1,aj.of (sG _ _ hL),by omega⟩
   ·rintro i v σ acc G hx ⟨⟨o,rfl⟩,sG,h1,h2,h3⟩
    have hi:i < ws.length:=(List.getElem?_eq_some_iff.mp hx).1
    have hie:i < es.length:=by omega
    have ee:es[i]? = some es[i]:=List.getElem?_eq_getElem hie
    have hrw:=hR.2 i v _ hx ee
    obtain ⟨ra,rfl,hrow⟩:=hR.2 i v _ hx ee
    have em:=List.getElem_mem hie
    generalize es[i] = e at hrow em hrw
    have f2:cb (bS e) 2 = some (.str e.r):=aQ (j:=2) rfl
    have f6:cb (bS e) 6 = some (cH e.b):=aQ (j:=6) rfl
    have hrow:=sG _ _ hrow
    have no:Nx ws.length i ((∃ o',[some (V.ref ra),some (V.str rk)] = [o',some (V.str rk)]) ∧ aI H G ∧ G q = some (.lst acc) ∧ acc.length ≤ i + 1 ∧ ∀ v ∈ acc,∃ e ∈ es,fG H v e):=Nx.mk hi ⟨⟨_,rfl⟩,sG,h1,by omega,h3⟩
    walk_at "rd"
    refine ⟨ra,_,_,_,rfl,rfl,aj.of hrow,f2,?_⟩
    walk_at "rd"
    refine cQ (fun _=>?_) (fun _=>bB no)
    walk_at "rd"
    refine ⟨ra,_,_,_,rfl,rfl,aj.of hrow,f6,?_⟩
    walk_at "rd"
    refine gG (fun _=>?_) (fun _=>no)
    refine ⟨_,rfl,h1,Nx.mk hi ⟨⟨_,rfl⟩,bJ hq sG,aC,by rw [List.length_append]; exact Nat.add_le_add_right h2 1,fun v hv=>?_⟩⟩
    rcases List.mem_append.mp hv with z | z
    ·exact h3 v z
    ·rw [List.mem_singleton.mp z]; exact ⟨e,em,hrw⟩
   ·rintro σ acc G ⟨_,sG,h1,h2,h3⟩
    exact ⟨sG,q,acc,rfl,h1,by omega,fun v hv=>let ⟨e,he,hr⟩:=h3 v hv; ⟨e,he,hr.same sG⟩⟩
  rintro σ' G1 ⟨s1,q,acc,rfl,hq,hS⟩
  refine ⟨fun σ' G'=>aI H G' ∧ ∃ q acc,σ' = [some (.ref l),some (.str rk),some (.int x),some (.int y),some (.ref q)] ∧ G' q = some (.lst acc) ∧ nX G' es acc ∧ acc ≠ [],?_,?_⟩
  ·refine ⟨_,rfl,aM rfl,fun q0 hq0=>?_⟩
   have t0:=aI.new (o:=HO.lst []) hq0
   have hq1:=t0 _ _ hq
   have hS1:=hS.same t0
   have hL1:=(s1.trans t0) _ _ hL
   have hR1:=hR.same (s1.trans t0)
   refine ⟨0,_,by decide,iQ (aj.of hq1) (aj.of aC),_,rfl,?_⟩
   generalize upd G1 q0 (.lst []) = G4 at t0 hq1 hS1 hL1 hR1 ⊢
   have wne:ws ≠ []:=fun z=>ne (List.eq_nil_of_length_eq_zero (by rw [← lw,z]; rfl))
   refine gG (fun _=>bV ?_) (fun he=>?_)
   ·exact ⟨_,rfl,s1.trans t0,l,ws,rfl,hL1,hR1.some,wne⟩
   ·have ane:acc ≠ []:=fun z=>by rw [z] at he; cases he
    walk_at "rd"
    refine cQ (fun _=>?_) (fun _=>?_)
    ·exact ⟨_,rfl,s1.trans t0,l,ws,rfl,hL1,hR1.some,wne⟩
    ·exact ⟨s1.trans t0,q,acc,rfl,hq1,hS1,ane⟩
  clear hq hS s1
  rintro σ' G2 ⟨s2,q,acc,rfl,hq,hS,ane⟩
  have ap:0 < acc.length:=List.length_pos_iff.mpr ane
  obtain ⟨v,hv,hm⟩:=dH (xs:=acc) (i:=y % (acc.length:Int)) (Int.emod_nonneg _ (by omega)) (Int.emod_lt_of_pos _ (by omega))
  obtain ⟨e,he,hr⟩:=hS.2 v hm
  have n9:=hB.nn e he
  obtain ⟨ra,rfl,hrow⟩:=hr
  have f0:cb (bS e) 0 = some (.int e.n):=aQ (j:=0) rfl
  walk_at "rd"
  refine cQ (fun _=>?_) (fun _=>?_)
  ·walk_at "rd"
   refine k _ G2 s2 ?_ ?_
   ·have:=Int.emod_nonneg y (b:=1000000000) (by decide)
    show 1 ≤ 1 + y % 1000000000
    omega
   ·have:=Int.emod_lt_of_pos y (b:=1000000000) (by decide)
    show 1 + y % 1000000000 ≤ 1000000000
    omega
  ·walk_at "rd"
   refine ⟨q,_,rfl,.inl (aj.of hq),?_⟩
   walk_at "rd"
   refine ⟨by show (0:Int) < acc.length; omega,?_⟩
   refine ⟨q,_,_,_,rfl,rfl,aj.of hq,hv,?_⟩
   walk_at "rd"
   exact ⟨ra,_,_,_,rfl,rfl,aj.of hrow,f0,k _ G2 s2 (by omega) (by omega)⟩
set_option maxHeartbeats 4000000 in
theorem rf (T:Txt w K mg c):aw P w K mg base fD 1 c.a_Lbase c.d_Lbase ["_law_book_here", "_law_rank", "_law_one_here", "_law_other"] (vI):=by
 refine T.Lbase.fn.ok kU (fun vs H Q E h=>?_) (fun cdv A outer s H vs Q E hr h=>?_)
 ·obtain ⟨l,ws,es,rk,x,y,rfl,_⟩:=h
  rfl
 ·obtain ⟨l,ws,es,rk,x,y,rfl,hL,hR,hB,ne,k⟩:=h
  refine ⟨_,(aY (e8 (i:=4) kU.nd rfl rfl (N':=["_law_there", "_law_rank"]) (js:=[none,some 1]) rfl rfl (by decide +kernel) (by decide +kernel) (gu ["_law_rank"] (by decide +kernel) (bh (.inl rfl) eC)) (ix rfl (bh (fun j e=>nomatch e) (bh (fun j e=>by cases e; exact ⟨rfl,rfl,.inl rfl⟩) eC))) (dF (pv 0)) (fun B=>⟨(bG (i:=0) (show List.Nodup (["_law_there", "_law_rank"]:List Str) by decide +kernel) rfl (Or.inl rfl)),(gU (PW.pt (eF (aV cP (aN aJ (pv 0) aB (fun _ _=>rfl)) (pv 1) (aa _)) (dG (cC (dA (aN aJ (pv 0) aB (fun _ _=>rfl)))))))),(pv 0)⟩))
   (aY (ao (PW.pt (eN (aV (iG (mT hr)) (pv 4) (az aD) (aa _)) (d7 (aV cP (aL ak (pv 2) aB) aB (aa _)))))
    (aG (aO (i:=4) kU.nd rfl (Or.inl rfl) (pv 0)))
    aP)
   (aG (aS (aN aJ (pv 4) (aL ak (pv 3) (aW ar rfl T.no_len cU (aA (pv 4) aD))) (fun _ _=>rfl)))))),?_⟩
  have sz:2000 < sizeLine:=aM rfl
  have lw:=hR.1
  have l84:=hB.le
  refine ⟨fun σ' G'=>aI H G' ∧ ∃ q acc,σ' = [some (.ref l),some (.str rk),some (.int x),some (.int y),some (.ref q)] ∧ G' q = some (.lst acc) ∧ nX G' es acc,?_,?_⟩
  ·refine ⟨_,rfl,l,rfl,⟨_,aj.of hL⟩,fun q B hq=>?_⟩
   refine dC (xs:=ws) (fun i σ acc G=>(∃ o,σ = [o,some (.str rk)]) ∧ aI H G ∧ G q = some (.lst acc) ∧ acc.length ≤ i ∧ ∀ v ∈ acc,∃ e ∈ es,fG H v e) (by omega) ?_ ?_ ?_ ?_
   ·exact ⟨⟨_,rfl⟩,aI.new hq,aC,Nat.zero_le _,fun _ h=>nomatch h⟩
   ·rintro i σ acc G hi ⟨_,sG,h1,h2,_⟩
    exact ⟨h1,aj.of (sG _ _ hL),by omega⟩
   ·rintro i v σ acc G hx ⟨⟨o,rfl⟩,sG,h1,h2,h3⟩
    have hi:i < ws.length:=(List.getElem?_eq_some_iff.mp hx).1
    have hie:i < es.length:=by omega
    have ee:es[i]? = some es[i]:=List.getElem?_eq_getElem hie
    have hrw:=hR.2 i v _ hx ee
    obtain ⟨ra,rfl,hrow⟩:=hR.2 i v _ hx ee
    have em:=List.getElem_mem hie
    generalize es[i] = e at hrow em hrw
    have f2:cb (bS e) 2 = some (.str e.r):=aQ (j:=2) rfl
    have f6:cb (bS e) 6 = some (cH e.b):=aQ (j:=6) rfl
    have hrow:=sG _ _ hrow
    have no:Nx ws.length i ((∃ o',[some (V.ref ra),some (V.str rk)] = [o',some (V.str rk)]) ∧ aI H G ∧ G q = some (.lst acc) ∧ acc.length ≤ i + 1 ∧ ∀ v ∈ acc,∃ e ∈ es,fG H v e):=Nx.mk hi ⟨⟨_,rfl⟩,sG,h1,by omega,h3⟩
    walk_at "rd"
    refine ⟨ra,_,_,_,rfl,rfl,aj.of hrow,f2,?_⟩
    walk_at "rd"
    refine cQ (fun _=>?_) (fun _=>bB no)
    walk_at "rd"
    refine ⟨ra,_,_,_,rfl,rfl,aj.of hrow,f6,?_⟩
    walk_at "rd"
    refine gG (fun _=>?_) (fun _=>no)
    refine ⟨_,rfl,h1,Nx.mk hi ⟨⟨_,rfl⟩,bJ hq sG,aC,by rw [List.length_append]; exact Nat.add_le_add_right h2 1,fun v hv=>?_⟩⟩
    rcases List.mem_append.mp hv with z | z
    ·exact h3 v z
    ·rw [List.mem_singleton.mp z]; exact ⟨e,em,hrw⟩
   ·rintro σ acc G ⟨_,sG,h1,h2,h3⟩
    exact ⟨sG,q,acc,rfl,h1,by omega,fun v hv=>let ⟨e,he,hr⟩:=h3 v hv; ⟨e,he,hr.same sG⟩⟩
  rintro σ' G1 ⟨s1,q,acc,rfl,hq,hS⟩
  refine ⟨fun σ' G'=>aI H G' ∧ ∃ q acc,σ' = [some (.ref l),some (.str rk),some (.int x),some (.int y),some (.ref q)] ∧ G' q = some (.lst acc) ∧ nX G' es acc ∧ acc ≠ [],?_,?_⟩
  ·refine ⟨_,rfl,aM rfl,fun q0 hq0=>?_⟩
   have t0:=aI.new (o:=HO.lst []) hq0
   have hq1:=t0 _ _ hq
   have hS1:=hS.same t0
   have hL1:=(s1.trans t0) _ _ hL
   have hR1:=hR.same (s1.trans t0)
   refine ⟨0,_,by decide,iQ (aj.of hq1) (aj.of aC),_,rfl,?_⟩
   generalize upd G1 q0 (.lst []) = G4 at t0 hq1 hS1 hL1 hR1 ⊢
   have wne:ws ≠ []:=fun z=>ne (List.eq_nil_of_length_eq_zero (by rw [← lw,z]; rfl))
   refine gG (fun _=>bV ?_) (fun he=>?_)
   ·exact ⟨_,rfl,s1.trans t0,l,ws,rfl,hL1,hR1.some,wne⟩
   ·have ane:acc ≠ []:=fun z=>by rw [z] at he; cases he
    walk_at "rd"
    refine cQ (fun _=>?_) (fun _=>?_)
    ·exact ⟨_,rfl,s1.trans t0,l,ws,rfl,hL1,hR1.some,wne⟩
    ·exact ⟨s1.trans t0,q,acc,rfl,hq1,hS1,ane⟩
  clear hq hS s1
  rintro σ' G2 ⟨s2,q,acc,rfl,hq,hS,ane⟩
  have ap:0 < acc.length:=List.length_pos_iff.mpr ane
  obtain ⟨v,hv,hm⟩:=dH (xs:=acc) (i:=y % (acc.length:Int)) (Int.emod_nonneg _ (by omega)) (Int.emod_lt_of_pos _ (by omega))
  obtain ⟨e,he,hr⟩:=hS.2 v hm
  walk_at "rd"
  refine ⟨q,_,rfl,.inl (aj.of hq),?_⟩
  walk_at "rd"
  refine ⟨by show (0:Int) < acc.length; omega,?_⟩
  exact ⟨q,_,_,_,rfl,rfl,aj.of hq,hv,k v e G2 s2 he hr⟩
set_option maxHeartbeats 4000000 in
theorem gT (T:Txt w K mg c):aw P w K mg base fD 1 c.a_Lcell_at c.d_Lcell_at ["_law_script", "_law_k"] (xG K):=by
 refine T.Lcell_at.fn.ok m9 (fun vs H Q E h=>?_) (fun cdv A outer s H vs Q E hr h=>?_)
 ·obtain ⟨a,i,ns,rfl,_⟩:=h
  rfl
 ·obtain ⟨a,i,ns,rfl,h0,hS,k⟩:=h
  refine ⟨_,(aE (ao (aV qF (pv 1) (aW ar rfl T.no_len cU (aA (pv 0) aD)) (aa _))
    (aG (aS (aN aJ (pv 0) (pv 1) (fun _ _=>rfl))))
    aP)
   (aG (aS aB))),?_⟩
  refine ⟨_,rfl,_,rfl,a,_,rfl,.inl hS,_,_,rfl,rfl,_,rfl,?_⟩
  refine cQ (fun hl=>?_) (fun _=>k 0)
  obtain ⟨v,hv,hm⟩:=dH (xs:=ns.map V.int) h0 (of_decide_eq_true hl)
  obtain ⟨z,_,rfl⟩:=List.mem_map.mp hm
  exact ⟨_,rfl,_,rfl,a,_,i,_,rfl,rfl,hS,hv,k z⟩
set_option maxHeartbeats 4000000 in
theorem qv (T:Txt w K mg c):aw P w K mg base fD 3 c.a_Lentry c.d_Lentry ["_law_book_here", "_law_words_here", "_law_cell", "_law_k", "_law_free"] (uQ):=by
 refine T.Lentry.fn.ok bP (fun vs H Q E h=>?_) (fun cdv A outer s H vs Q E hr h=>?_)
 ·obtain ⟨l,ws,es,wl,zs,n,i,fr,rfl,_⟩:=h
  rfl
 ·obtain ⟨l,ws,es,wl,zs,n,i,fr,rfl,hL,hR,hB,h84,hW,lz,hz,i0,i1,k⟩:=h
  refine ⟨_,(aE (aO (i:=5) bP.nd rfl (Or.inl rfl) (ag (qx T) (hr.mono (by decide)) rfl T.Ldraws.mgf T.Ldraws.kp T.Ldraws.bi .nil au (aA (pv 2) (aA (pv 3) (aA (pv 4) aD)))))
   (aE (wK (ag (qS T) (hr.mono (by decide)) rfl T.Lstamp.mgf T.Lstamp.kp T.Lstamp.bi .nil au (aA (pv 0) (aA (aN aJ (pv 5) aB (fun _ _=>rfl)) (aA (aN aJ (pv 5) aB (fun _ _=>rfl)) aD)))) (wG rfl (nQ (bG (i:=6) bP.nd rfl (Or.inl rfl)) (nQ (bG (i:=7) bP.nd rfl (Or.inl rfl)) vG))))
   (aY (aO (i:=8) bP.nd rfl (Or.inl rfl) (aN aJ (pv 1) (aL ak (aN aJ (pv 5) aB (fun _ _=>rfl)) aB) (fun _ _=>rfl)))
   (aY (ao (PW.pt (eF (bT (pv 4)) (dG (aV cP (aL ak (aL bA (aN aJ (pv 5) aB (fun _ _=>rfl)) aB) aB) aB (aa _)))))
    (aG (aO (i:=8) bP.nd rfl (Or.inl rfl) (ag (mH T) (hr.mono (by decide)) rfl T.Lany_word.mgf T.Lany_word.kp T.Lany_word.bi .nil au (aA (aL bH (aN aJ (pv 5) aB (fun _ _=>rfl)) (aL dU (aN aJ (pv 5) aB (fun _ _=>rfl)) (aL d6 aB aB))) aD))))
    aP)
   (aY (aO (i:=9) bP.nd rfl (Or.inl rfl) (aN aJ (az (aA (aL bH aB (aL ak (aN aJ (pv 5) aB (fun _ _=>rfl)) aB)) (aA (aL bH aB (aL ak (aL bA (aN aJ (pv 5) aB (fun _ _=>rfl)) aB) (aL d6 aB aB))) aD))) (aL ak (aN aJ (pv 5) aB (fun _ _=>rfl)) aB) (fun _ _=>rfl)))
   (aY (aO (i:=10) bP.nd rfl (Or.inl rfl) (cO vQ (aL ak (aL bA (aN aJ (pv 5) aB (fun _ _=>rfl)) aB) aB) aB (aa _)))
   (aE (ao (PW.pt (eN (aV cP (aL ak (pv 2) aB) aB (aa _)) (d7 (aV (iG (mT hr)) (pv 0) (az aD) (aa _)))))
    (aG (aS (az (aA (pv 6) (aA (pv 7) (aA aZ (aA (pv 8) (aA dg (aA (pv 9) (aA dg (aA (pv 10) aD)))))))))))
    aP)
   (aY (aO (i:=11) bP.nd rfl (Or.inl rfl) (aN aJ (az (aA aZ (aA aZ aD))) (ft jB rfl T.no_int jq (aA (xt (cO cP (aL ak (pv 2) aB) aB (aa _)) (et (cO cP (aL ak (pv 2) aB) aB (aa _)))) aD)) (fun _ _=>rfl)))
   (aY (aO (i:=12) bP.nd rfl (Or.inl rfl) (ag (ri T) (hr.mono (by decide)) rfl T.Lpick.mgf T.Lpick.kp T.Lpick.bi .nil au (aA (pv 0) (aA (aN aJ (az (aA aZ (aA aZ aD))) (ft jB rfl T.no_int jq (aA (cO cP (pv 11) aZ (aa _)) aD)) (fun _ _=>rfl)) (aA (aN aJ (pv 5) aB (fun _ _=>rfl)) (aA (aN aJ (pv 5) aB (fun _ _=>rfl)) aD))))))
   (aY (ao (aV cP (aL ak (aL bA (aN aJ (pv 5) aB (fun _ _=>rfl)) aB) aB) aB (aa _))
    (aG (aO (i:=12) bP.nd rfl (Or.inl rfl) (pv 6)))
    aP)
   (aE (ao (aV qF (aL ak (pv 2) aB) aB (aa _))
    (aG (aS (az (aA (pv 6) (aA (pv 7) (aA (pv 11) (aA (pv 8) (aA (pv 12) (aA (pv 9) (aA dg (aA (pv 10) aD)))))))))))
    aP)
   (aE (aO (i:=13) bP.nd rfl (Or.inl rfl) (ag (rf T) (hr.mono (by decide)) rfl T.Lbase.mgf T.Lbase.kp T.Lbase.bi .nil au (aA (pv 0) (aA (pv 11) (aA (aL bA (aN aJ (pv 5) aB (fun _ _=>rfl)) aB) (aA (aN aJ (pv 5) aB (fun _ _=>rfl)) aD))))))
   (aY (ao (aV vQ (aL ak (aL bA (aN aJ (pv 5) aB (fun _ _=>rfl)) aB) aB) aB (aa _))
    (aG (aO (i:=8) bP.nd rfl (Or.inl rfl) (aN aJ (pv 13) aB (fun _ _=>rfl))))
    aP)
   (aE (aO (i:=14) bP.nd rfl (Or.inl rfl) (aN aJ (pv 13) aB (fun _ _=>rfl)))
   (aY (ao (aV cP (aL ak (aL bA (aN aJ (pv 5) aB (fun _ _=>rfl)) aB) aB) aB (aa _))
    (aG (aO (i:=14) bP.nd rfl (Or.inl rfl) (aN aJ (az (aA (aL bH aB (aL ak (aN aJ (pv 5) aB (fun _ _=>rfl)) (aL d6 aB aB))) (aA (pv 6) (aA (aL bH (aL ak (pv 6) (aL d6 aB aB)) aB) aD)))) (aL ak (aL bA (aN aJ (pv 5) aB (fun _ _=>rfl)) aB) aB) (fun _ _=>rfl))))
    aP)
   (aG (aS (az (aA (pv 6) (aA (pv 7) (aA (pv 11) (aA (pv 8) (aA (pv 12) (aA dg (aA (pv 14) (aA (pv 10) aD)))))))))))))))))))))))))),?_⟩
  have sz:2000 < sizeLine:=aM rfl
  have lw:=hR.1
  walk_at "rd"
  refine ⟨n,i,fr,rfl,i0,i1,fun ds dl G0 l10 hds s0 hdl hdr=>?_⟩
  have at_:∀ j:Nat,j < 10 → ∃ d,Drawn d ∧ cb (ds.map V.int) (j:Int) = some (.int d):=fun j hj=>by
   have hl:j < ds.length:=by omega
   refine ⟨ds[j],hds _ (List.getElem_mem hl),aQ ?_⟩
   rw [List.getElem?_map,List.getElem?_eq_getElem hl]
   rfl
  obtain ⟨x0,p0,g0⟩:=at_ 0 (by decide)
  obtain ⟨x1,p1,g1⟩:=at_ 1 (by decide)
  obtain ⟨x2,p2,g2⟩:=at_ 2 (by decide)
  obtain ⟨x3,p3,g3⟩:=at_ 3 (by decide)
  obtain ⟨x4,p4,g4⟩:=at_ 4 (by decide)
  obtain ⟨x5,p5,g5⟩:=at_ 5 (by decide)
  obtain ⟨x6,p6,g6⟩:=at_ 6 (by decide)
  obtain ⟨x7,p7,g7⟩:=at_ 7 (by decide)
  obtain ⟨x8,p8,g8⟩:=at_ 8 (by decide)
  obtain ⟨x9,p9,g9⟩:=at_ 9 (by decide)
  have rd:∀ {G:Hp} (s:aI G0 G),aj K G dl (ds.map V.int):=fun s=>aj.of (s _ _ hdr)
  walk_at "rd"
  refine ⟨dl,_,_,_,rfl,rfl,rd (aI.refl _),g0,?_⟩
  walk_at "rd"
  refine ⟨dl,_,_,_,rfl,rfl,rd (aI.refl _),g1,?_⟩
  refine ⟨l,ws,es,x0,x1,rfl,s0 _ _ hL,hR.same s0,hB,h84,p0,p1,fun num day t G1 s1 ht nw nn1 nn2 dd1 dd2 la=>?_⟩
  refine ⟨t,_,rfl,eX.of ht,rfl,?_⟩
  walk_at "rd"
  have sH:=s0.trans s1
  have hW1:=sH _ _ hW
  refine ⟨fun σ' G'=>G1 = G' ∧ ∃ wd:Str,σ' = [some (.ref l),some (.ref wl),some (.int n),some (.int i),some (.bl fr),some (.ref dl),some (.int num),some (.int day),some (.str wd),none,none,none,none,none,none] ∧ isWord (.str wd) = true,?_,?_⟩
  ·walk_at "rd"
   refine ⟨dl,_,_,_,rfl,rfl,rd s1,g2,?_⟩
   walk_at "rd"
   obtain ⟨wv,hwv,hwm⟩:=dH (xs:=zs.map V.str) (i:=x2 % 4) (Int.emod_nonneg _ (by decide)) (by rw [List.length_map,lz]; exact Int.emod_lt_of_pos _ (by decide))
   obtain ⟨wd,hwd,rfl⟩:=List.mem_map.mp hwm
   exact ⟨wl,_,_,_,rfl,rfl,aj.of hW1,hwv,rfl,wd,rfl,hz wd hwd⟩
  rintro σ' G' ⟨rfl,wd,rfl,hwd⟩
  refine ⟨fun σ' G'=>G1 = G' ∧ ∃ wd:Str,σ' = [some (.ref l),some (.ref wl),some (.int n),some (.int i),some (.bl fr),some (.ref dl),some (.int num),some (.int day),some (.str wd),none,none,none,none,none,none] ∧ isWord (.str wd) = true,?_,?_⟩
  ·walk_at "rd"
   cases fr with
   | false=>exact bB (bB ⟨rfl,wd,rfl,hwd⟩)
   | true =>
    refine bV ?_
    walk_at "rd"
    refine ⟨dl,_,_,_,rfl,rfl,rd s1,g2,?_⟩
    walk_at "rd"
    refine cQ (fun _=>?_) (fun _=>⟨rfl,wd,rfl,hwd⟩)
    walk_at "rd"
    refine ⟨dl,_,_,_,rfl,rfl,rd s1,g8,?_⟩
    walk_at "rd"
    refine ⟨dl,_,_,_,rfl,rfl,rd s1,g9,?_⟩
    walk_at "rd"
    exact fun z hz=>⟨rfl,z,rfl,hz⟩
  clear wd hwd
  rintro σ' G' ⟨rfl,wd,rfl,hwd⟩
  refine ⟨fun σ' G'=>aI G1 G' ∧ ∃ sh:Int,σ' = [some (.ref l),some (.ref wl),some (.int n),some (.int i),some (.bl fr),some (.ref dl),some (.int num),some (.int day),some (.str wd),some (.int sh),none,none,none,none,none] ∧ 1 ≤ sh ∧ sh ≤ 1000000000,?_,?_⟩
  ·walk_at "rd"
   refine ⟨dl,_,_,_,rfl,rfl,rd s1,g3,?_⟩
   walk_at "rd"
   refine ⟨dl,_,_,_,rfl,rfl,rd s1,g3,?_⟩
   walk_at "rd"
   refine ⟨aM rfl,fun q1 hq1=>?_⟩
   walk_at "rd"
   refine ⟨dl,_,_,_,rfl,rfl,rd (s1.trans (aI.new hq1)),g4,?_⟩
   walk_at "rd"
   have u0:=Int.emod_nonneg x3 (b:=9) (by decide)
   have u1:=Int.emod_lt_of_pos x3 (b:=9) (by decide)
   have u2:=Int.emod_nonneg (x3 / 2) (b:=1000000000) (by decide)
   have u3:=Int.emod_lt_of_pos (x3 / 2) (b:=1000000000) (by decide)
   obtain ⟨sv,hsv,hsm⟩:=dH (xs:=[V.int (1 + x3 % 9),V.int (1 + x3 / 2 % 1000000000)]) (i:=x4 % 2) (Int.emod_nonneg _ (by decide)) (by show _ < (2:Int); exact Int.emod_lt_of_pos _ (by decide))
   obtain ⟨st,rfl,st0,st1⟩:∃ st:Int,sv = .int st ∧ 1 ≤ st ∧ st ≤ 1000000000:=by
    simp only [List.mem_cons,List.not_mem_nil,or_false] at hsm
    rcases hsm with rfl | rfl
    ·exact ⟨_,rfl,by omega,by omega⟩
    ·exact ⟨_,rfl,by omega,by omega⟩
   exact ⟨q1,_,_,_,rfl,rfl,aj.of aC,hsv,aI.new hq1,st,rfl,st0,st1⟩
  rintro σ' G2 ⟨s2,sh,rfl,sh0,sh1⟩
  have s12:=s1.trans s2
  refine ⟨fun σ' G'=>G2 = G' ∧ ∃ kd:Bool,σ' = [some (.ref l),some (.ref wl),some (.int n),some (.int i),some (.bl fr),some (.ref dl),some (.int num),some (.int day),some (.str wd),some (.int sh),some (.bl kd),none,none,none,none],?_,?_⟩
  ·walk_at "rd"
   refine ⟨dl,_,_,_,rfl,rfl,rd s12,g4,?_⟩
   walk_at "rd"
   first | done | exact rfl | exact ⟨_,rfl⟩ | exact ⟨rfl,_,rfl⟩
  rintro σ' G' ⟨rfl,kd,rfl⟩
  have sH2:=sH.trans s2
  have hL2:=sH2 _ _ hL
  have hR2:=hR.same sH2
  have first:∀ (G:Hp) q,aI G2 G → G q = none → Q (.ref q) (upd G q (.lst [.int num,.int day,.str (Str.ofString "genus"),.str wd,.ax,.int sh,.ax,.bl kd])):=fun G q s hq=>by
   refine k (.ref q) ⟨num,day,Str.ofString "genus",wd,none,some sh,none,kd⟩ _ ((sH2.trans s).trans (aI.new hq)) ⟨q,rfl,aC⟩ ⟨mI (cX nn1 (by show num ≤ 1000000000; omega)) (cX dd1 (by show day ≤ 1000000; omega)) (by show de (.str (Str.ofString "genus")) = true; decide +kernel) hwd (by show bD (.str (Str.ofString "genus")) .ax = true; rw [pk]; exact decide_eq_true rfl) (by show bR _ _ .ax = true; rw [rG]; exact cX sh0 sh1),nw,nn1,nn2,dd1,dd2,la⟩
  walk_at "rd"
  refine cQ (fun _=>bV ?_) (fun _=>?_)
  ·walk_at "rd"
   exact ⟨aM rfl,fun q hq=>first _ q (aI.refl _) hq⟩
  walk_at "rd"
  refine ⟨aM rfl,fun q0 hq0=>?_⟩
  have t0:=aI.new (o:=HO.lst []) hq0
  have hL3:=t0 _ _ hL2
  have hR3:=hR2.same t0
  refine ⟨0,_,by decide,iQ (aj.of hL3) (aj.of aC),_,rfl,?_⟩
  generalize upd G2 q0 (.lst []) = G3 at t0 hL3 hR3 ⊢
  refine gG (fun _=>?_) (fun he=>?_)
  ·walk_at "rd"
   exact ⟨aM rfl,fun q hq=>first _ q t0 hq⟩
  have ene:es ≠ []:=fun z=>by
   have:ws = []:=List.eq_nil_of_length_eq_zero (by rw [lw,z]; rfl)
   rw [this] at he
   cases he
  clear first
  have s3:=s12.trans t0
  have sH3:=sH2.trans t0
  refine ⟨fun σ' G'=>aI G3 G' ∧ ∃ rk:Str,σ' = [some (.ref l),some (.ref wl),some (.int n),some (.int i),some (.bl fr),some (.ref dl),some (.int num),some (.int day),some (.str wd),some (.int sh),some (.bl kd),some (.str rk),none,none,none] ∧ de (.str rk) = true ∧ rk ≠ Str.ofString "genus",?_,?_⟩
  ·walk_at "rd"
   refine ⟨aM rfl,fun q1 hq1=>?_⟩
   walk_at "rd"
   have pickR:∀ b:Bool,∃ rk:Str,cb [V.str (Str.ofString "species"),V.str (Str.ofString "form")] (if b = true then (1:Int) else 0) = some (.str rk) ∧ de (.str rk) = true ∧ rk ≠ Str.ofString "genus" := fun b=>by
    cases b
    ·exact ⟨_,aQ (j:=0) rfl,by decide +kernel,by decide +kernel⟩
    ·exact ⟨_,aQ (j:=1) rfl,by decide +kernel,by decide +kernel⟩
   refine cQ (fun _=>?_) (fun _=>?_)
   ·obtain ⟨rk,h1,h2,h3⟩:=pickR true
    exact .inr ⟨_,rfl,q1,_,_,_,rfl,rfl,aj.of aC,h1,aI.new hq1,rk,rfl,h2,h3⟩
   ·walk_at "rd"
    obtain ⟨rk,h1,h2,h3⟩:=pickR (decide (V.int (n % 6) = V.int 5))
    exact .inr ⟨_,rfl,q1,_,_,_,rfl,rfl,aj.of aC,h1,aI.new hq1,rk,rfl,h2,h3⟩
  rintro σ' G4 ⟨t4,rk,rfl,hrk,rg⟩
  have s4:=s3.trans t4
  have sH4:=sH3.trans t4
  refine ⟨fun σ' G'=>aI G4 G' ∧ ∃ u:Int,σ' = [some (.ref l),some (.ref wl),some (.int n),some (.int i),some (.bl fr),some (.ref dl),some (.int num),some (.int day),some (.str wd),some (.int sh),some (.bl kd),some (.str rk),some (.int u),none,none] ∧ 1 ≤ u ∧ u ≤ 1000000000,?_,?_⟩
  ·walk_at "rd"
   refine ⟨aM rfl,fun q1 hq1=>?_⟩
   walk_at "rd"
   have pickR:∀ b:Bool,∃ rk:Str,cb [V.str (Str.ofString "genus"),V.str (Str.ofString "species")] (if b = true then (1:Int) else 0) = some (.str rk):=fun b=>by
    cases b
    ·exact ⟨_,aQ (j:=0) rfl⟩
    ·exact ⟨_,aQ (j:=1) rfl⟩
   obtain ⟨r1,h1⟩:=pickR (decide (V.str rk = V.str (Str.ofString "form")))
   have tq:=aI.new (o:=HO.lst [V.str (Str.ofString "genus"),V.str (Str.ofString "species")]) hq1
   refine .inr ⟨_,rfl,q1,_,_,_,rfl,rfl,aj.of aC,h1,?_⟩
   generalize upd G4 q1 (.lst [V.str (Str.ofString "genus"),V.str (Str.ofString "species")]) = G5 at tq ⊢
   walk_at "rd"
   refine ⟨dl,_,_,_,rfl,rfl,rd (s4.trans tq),g5,?_⟩
   walk_at "rd"
   refine ⟨dl,_,_,_,rfl,rfl,rd (s4.trans tq),g6,?_⟩
   refine ⟨l,ws,es,r1,x5,x6,rfl,(sH4.trans tq) _ _ hL,hR.same (sH4.trans tq),hB,ene,fun u G6 s6 u0 u1=>?_⟩
   exact ⟨tq.trans s6,u,rfl,u0,u1⟩
  rintro σ' G5 ⟨t5,u,rfl,u0,u1⟩
  have s5:=s4.trans t5
  have sH5:=sH4.trans t5
  refine ⟨fun σ' G'=>G5 = G' ∧ ∃ u:Int,σ' = [some (.ref l),some (.ref wl),some (.int n),some (.int i),some (.bl fr),some (.ref dl),some (.int num),some (.int day),some (.str wd),some (.int sh),some (.bl kd),some (.str rk),some (.int u),none,none] ∧ 1 ≤ u ∧ u ≤ 1000000000,?_,?_⟩
  ·walk_at "rd"
   refine ⟨dl,_,_,_,rfl,rfl,rd s5,g4,?_⟩
   walk_at "rd"
   refine cQ (fun _=>?_) (fun _=>⟨rfl,u,rfl,u0,u1⟩)
   exact ⟨_,rfl,rfl,num,rfl,nn1,by omega⟩
  clear u0 u1
  rintro σ' G' ⟨rfl,u',rfl,u0,u1⟩
  walk_at "rd"
  have nN:num ≤ 1000000000:=by omega
  have dN:day ≤ 1000000:=by omega
  have uF:bD (.str rk) (.int u') = true:=by rw [pY rg]; exact cX u0 u1
  refine cQ (fun _=>?_) (fun _=>?_)
  ·walk_at "rd"
   refine ⟨aM rfl,fun q hq=>?_⟩
   exact k (.ref q) ⟨num,day,rk,wd,some u',some sh,none,kd⟩ _ (sH5.trans (aI.new hq)) ⟨q,rfl,aC⟩ ⟨mI (cX nn1 nN) (cX dd1 dN) hrk hwd uF (by show bR _ _ .ax = true; rw [rG]; exact cX sh0 sh1),nw,nn1,nn2,dd1,dd2,la⟩
  walk_at "rd"
  refine ⟨dl,_,_,_,rfl,rfl,rd s5,g4,?_⟩
  walk_at "rd"
  refine ⟨dl,_,_,_,rfl,rfl,rd s5,g7,?_⟩
  refine ⟨l,ws,es,rk,x4 / 372,x7,rfl,sH5 _ _ hL,hR.same sH5,hB,ene,fun v e G6 s6 em hv=>?_⟩
  obtain ⟨ra,rfl,hrow⟩:=hv
  have f0:cb (bS e) 0 = some (.int e.n):=aQ (j:=0) rfl
  have f3:cb (bS e) 3 = some (.str e.w):=aQ (j:=3) rfl
  have sd6:=s5.trans s6
  have sH6:=sH5.trans s6
  have en:=hB.nn e em
  refine ⟨fun σ' G'=>G6 = G' ∧ ∃ wd:Str,σ' = [some (.ref l),some (.ref wl),some (.int n),some (.int i),some (.bl fr),some (.ref dl),some (.int num),some (.int day),some (.str wd),some (.int sh),some (.bl kd),some (.str rk),some (.int u'),some (.ref ra),none] ∧ isWord (.str wd) = true,?_,?_⟩
  ·walk_at "rd"
   refine ⟨dl,_,_,_,rfl,rfl,rd sd6,g4,?_⟩
   walk_at "rd"
   refine cQ (fun _=>?_) (fun _=>⟨rfl,wd,rfl,hwd⟩)
   walk_at "rd"
   exact ⟨ra,_,_,_,rfl,rfl,aj.of hrow,f3,rfl,e.w,rfl,mf (hB.ok e em)⟩
  rintro σ' G' ⟨rfl,wd',rfl,hwd'⟩
  walk_at "rd"
  refine ⟨ra,_,_,_,rfl,rfl,aj.of hrow,f0,?_⟩
  refine ⟨fun σ' G'=>aI G6 G' ∧ ∃ rt:Int,σ' = [some (.ref l),some (.ref wl),some (.int n),some (.int i),some (.bl fr),some (.ref dl),some (.int num),some (.int day),some (.str wd'),some (.int sh),some (.bl kd),some (.str rk),some (.int u'),some (.ref ra),some (.int rt)] ∧ 1 ≤ rt ∧ rt ≤ 1000000000,?_,?_⟩
  ·walk_at "rd"
   refine ⟨dl,_,_,_,rfl,rfl,rd sd6,g2,?_⟩
   walk_at "rd"
   refine cQ (fun _=>?_) (fun _=>⟨aI.refl _,e.n,rfl,by omega,by omega⟩)
   walk_at "rd"
   refine ⟨dl,_,_,_,rfl,rfl,rd sd6,g7,?_⟩
   walk_at "rd"
   refine ⟨aM rfl,fun q1 hq1=>?_⟩
   walk_at "rd"
   refine ⟨dl,_,_,_,rfl,rfl,rd (sd6.trans (aI.new hq1)),g2,?_⟩
   walk_at "rd"
   have v0:=Int.emod_nonneg x7 (b:=1000000000) (by decide)
   have v1:=Int.emod_lt_of_pos x7 (b:=1000000000) (by decide)
   have v2:=Int.emod_nonneg num (b:=1000000000) (by decide)
   have v3:=Int.emod_lt_of_pos num (b:=1000000000) (by decide)
   obtain ⟨sv,hsv,hsm⟩:=dH (xs:=[V.int (1 + x7 % 1000000000),V.int num,V.int (num % 1000000000 + 1)]) (i:=x2 / 140 % 3) (Int.emod_nonneg _ (by decide)) (by show _ < (3:Int); exact Int.emod_lt_of_pos _ (by decide))
   obtain ⟨st,rfl,st0,st1⟩:∃ st:Int,sv = .int st ∧ 1 ≤ st ∧ st ≤ 1000000000:=by
    simp only [List.mem_cons,List.not_mem_nil,or_false] at hsm
    rcases hsm with rfl | rfl | rfl
    ·exact ⟨_,rfl,by omega,by omega⟩
    ·exact ⟨_,rfl,nn1,nN⟩
    ·exact ⟨_,rfl,by omega,by omega⟩
   exact ⟨q1,_,_,_,rfl,rfl,aj.of aC,hsv,aI.new hq1,st,rfl,st0,st1⟩
  rintro σ' G7 ⟨t7,rt,rfl,rt0,rt1⟩
  walk_at "rd"
  refine ⟨aM rfl,fun q hq=>?_⟩
  exact k (.ref q) ⟨num,day,rk,wd',some u',none,some rt,kd⟩ _ ((sH6.trans t7).trans (aI.new hq)) ⟨q,rfl,aC⟩ ⟨mI (cX nn1 nN) (cX dd1 dN) hrk hwd' uF (by show bR (.str rk) .ax (.int rt) = true; rw [xY _ _ (by intro z; cases z),decide_eq_false (fun z=>rg (V.str.inj z)),decide_eq_true rfl,cX rt0 rt1]; rfl),nw,nn1,nn2,dd1,dd2,la⟩
set_option maxHeartbeats 4000000 in
theorem tD (T:Txt w K mg c):aw P w K mg base fD 4 c.a_Lbook c.d_Lbook ["_law_script", "_law_start"] (uP K):=by
 refine T.Lbook.fn.ok gK (fun vs H Q E h=>?_) (fun cdv A outer s H vs Q E hr h=>?_)
 ·obtain ⟨a,st,ns,rfl,_⟩:=h
  rfl
 ·obtain ⟨a,st,ns,rfl,st0,st1,hS,hn,k⟩:=h
  refine ⟨_,(aY (aO (i:=2) gK.nd rfl (Or.inl rfl) (cO cP (aL ak (ag (gT T) (hr.mono (by decide)) rfl T.Lcell_at.mgf T.Lcell_at.kp T.Lcell_at.bi .nil au (aA (pv 0) (aA aB aD))) aB) aB (aa _)))
   (aE (aO (i:=3) gK.nd rfl (Or.inl rfl) (ag (qX T) (hr.mono (by decide)) rfl T.Lwords.mgf T.Lwords.kp T.Lwords.bi .nil au (aA (aL bA (ag (gT T) (hr.mono (by decide)) rfl T.Lcell_at.mgf T.Lcell_at.kp T.Lcell_at.bi .nil au (aA (pv 0) (aA aB aD))) aB) (aA (pv 2) aD))))
   (aE (aO (i:=4) gK.nd rfl (Or.inl rfl) (az aD))
   (aE (fN PassesOwn.never rfl (q8 rfl T.no_range (aA (pv 1) (aA (aW (jG rfl) rfl T.no_min o9 (aA (aW ar rfl T.no_len cU (aA (pv 0) aD)) (aA aB aD))) aD))) (bG (i:=5) gK.nd rfl (Or.inl rfl))
    (aG (cD (gI PySem.F.plainAttrs_list PySem.F.slot_list_append PySem.F.type_list_append (nu.r bu) (pv 4) (aA (ag (qv T) (hr.mono (by decide)) rfl T.Lentry.mgf T.Lentry.kp T.Lentry.bi .nil au (aA (pv 4) (aA (pv 3) (aA (aN aJ (pv 0) (pv 5) (fun _ _=>rfl)) (aA (pv 5) (aA (pv 2) aD)))))) aD)))))
   (aG (aS (pv 4))))))),?_⟩
  have sz:2000 < sizeLine:=aM rfl
  have lm:(ns.map V.int).length = ns.length:=List.length_map ..
  refine ⟨fun σ' G'=>H = G' ∧ ∃ fr:Bool,σ' = [some (.ref a),some (.int st),some (.bl fr),none,none,none],?_,?_⟩
  ·refine ⟨_,rfl,a,0,ns,rfl,by decide,hS,fun c0=>?_⟩
   walk_at "rd"
   first | done | exact rfl | exact ⟨_,rfl⟩ | exact ⟨rfl,_,rfl⟩
  rintro σ' G' ⟨rfl,fr,rfl⟩
  walk_at "rd"
  refine ⟨a,0,ns,rfl,by decide,hS,fun c1=>?_⟩
  walk_at "rd"
  refine fun zs wl G0 lz hw s0 hwl hWl=>?_
  walk_at "rd"
  refine ⟨aM rfl,fun l hl=>?_⟩
  have s1:=s0.trans (aI.new (o:=HO.lst []) hl)
  have k1:=aC (H:=G0) (a:=l) (o:=.lst [])
  have kW:=aI.new (o:=HO.lst []) hl _ _ hWl
  have nHl:H l = none:=s0.free hl
  have nwl:wl ≠ l:=aK hWl hl
  generalize upd G0 l (.lst []) = G1 at s1 k1 kW ⊢
  walk_at "rd"
  refine ⟨a,_,rfl,.inl (s1.seq hS),?_⟩
  walk_at "rd"
  have hm2:(if (84:Int) < ((ns.map V.int).length:Int) then (84:Int) else ((ns.map V.int).length:Int)) ≤ ns.length ∧ 0 ≤ (if (84:Int) < ((ns.map V.int).length:Int) then (84:Int) else ((ns.map V.int).length:Int)):=by
   split <;> omega
  generalize (if (84:Int) < ((ns.map V.int).length:Int) then (84:Int) else ((ns.map V.int).length:Int)) = hi at hm2 ⊢
  refine ⟨⟨by omega,by omega,by omega,by omega⟩,?_⟩
  refine dJ (lo:=st) (fun i σ G=>aI H G ∧ ∃ (z5:Option V) (ws:List V) (es:List En),σ = [some (.ref a),some (.int st),some (.bl fr),some (.ref wl),some (.ref l),z5] ∧ G wl = some (.lst (zs.map V.str)) ∧ G l = some (.lst ws) ∧ cy G ws es ∧ rB es ∧ es.length = i) ?_ ?_ ?_
  ·exact ⟨s1,_,[],[],rfl,kW,k1,⟨rfl,fun j v e h=>nomatch h⟩,rB.nil,rfl⟩
  ·rintro i σ G hi' ⟨sG,z5,ws,es,rfl,hW,hL,hR,hB,le⟩
   have lw:ws.length = i:=by rw [hR.1]; exact le
   obtain ⟨v1,hv1,hm1⟩:=dH (xs:=ns.map V.int) (i:=st + (i:Int)) (by omega) (by omega)
   obtain ⟨c2,_,rfl⟩:=List.mem_map.mp hm1
   refine ⟨_,rfl,.inl ⟨rfl,_,aj.of hL⟩,?_⟩
   walk_at "rd"
   refine ⟨a,_,_,_,rfl,rfl,sG.seq hS,hv1,?_⟩
   walk_at "rd"
   refine ⟨l,ws,es,wl,zs,c2,st + (i:Int),fr,rfl,hL,hR,hB,by omega,hW,lz,hw,by omega,by omega,fun v e G2 s2 hv ne=>?_⟩
   walk_at "rd"
   obtain ⟨ra,rfl,hrow⟩:=hv
   have hL2:=s2 _ _ hL
   have hR2:=hR.same s2
   have nra:ra ≠ l:=fG.ne hR2 hL2 hrow
   refine ⟨l,_,_,rfl,rfl,hL2,by omega,?_⟩
   have mv:∀ v x,fG G2 v x → fG (upd G2 l (.lst (ws ++ [.ref ra]))) v x:=fun v x h=>by
    obtain ⟨b,e1,h1⟩:=h
    exact ⟨b,e1,by rw [aH (fG.ne hR2 hL2 h1)]; exact h1⟩
   refine ⟨bJ nHl (sG.trans s2),_,ws ++ [.ref ra],es ++ [e],rfl,by rw [aH nwl]; exact s2 _ _ hW,aC,?_,hB.add ne (by omega),by rw [List.length_append,le]; rfl⟩
   exact gL ⟨hR2.1,fun j v x h1 h2=>mv v x (hR2.2 j v x h1 h2)⟩ (mv _ _ ⟨ra,rfl,hrow⟩)
  ·rintro σ G ⟨sG,z5,ws,es,rfl,hW,hL,hR,hB,le⟩
   exact ⟨_,rfl,k l ws es G sG hL hR hB (by omega)⟩
set_option maxHeartbeats 4000000 in
theorem qV (T:Txt w K mg c):aw P w K mg base fD 1 c.a_Lwhole c.d_Lwhole ["_law_found"] (zV K):=by
 refine T.Lwhole.fn.ok qd (fun vs H Q E h=>?_) (fun cdv A outer s H vs Q E hr h=>?_)
 ·obtain ⟨x,rfl,_⟩:=h
  rfl
 ·obtain ⟨x,rfl,ow,k⟩:=h
  refine ⟨_,(aG (aS (eE (aW br rfl T.no_isinstance aq (aA (pv 0) (aA (eT (v:=.ty "int") rfl T.no_int jq rfl) aD))) (et (tN (aW br rfl T.no_isinstance aq (aA (pv 0) (aA (eT (v:=.ty "bool") rfl T.no_bool ph rfl) aD)))))))),?_⟩
  refine ⟨x,rfl,bK.int ow ⟨_,rfl,?_⟩⟩
  cases x with
  | int i=>exact bV ⟨_,rfl,bK.bool ow ⟨_,rfl,k⟩⟩
  | bl b=>exact bV ⟨_,rfl,bK.bool ow ⟨_,rfl,k⟩⟩
  | _=>exact bB k
set_option maxHeartbeats 4000000 in
theorem sR (T:Txt w K mg c):aw P w K mg base fD 6 c.a_Lmade c.d_Lmade ["_law_book_here"] (vm c.c_Entry):=by
 refine T.Lmade.fn.ok kN (fun vs H Q E h=>?_) (fun cdv A outer s H vs Q E hr h=>?_)
 ·obtain ⟨l,ws,es,rfl,_⟩:=h
  rfl
 ·obtain ⟨l,ws,es,rfl,hL,hR,okk,l84,k⟩:=h
  refine ⟨_,(aE (aO (i:=1) kN.nd rfl (Or.inl rfl) (az aD))
   (aE (fN PassesOwn.never rfl (dF (pv 0)) (bG (i:=2) kN.nd rfl (Or.inl rfl))
    (aG (cD (gI PySem.F.plainAttrs_list PySem.F.slot_list_append PySem.F.type_list_append (nu.r bu) (pv 1) (aA (gW T.mk_Entry (iB T) (hr.mono (by decide)) rfl T.mg_Entry T.b_Entry_8 gD (aA (aN aJ (pv 2) aB (fun _ _=>rfl)) (aA (aN aJ (pv 2) aB (fun _ _=>rfl)) (aA (aN aJ (pv 2) aB (fun _ _=>rfl)) (aA (aN aJ (pv 2) aB (fun _ _=>rfl)) (aA (aN aJ (pv 2) aB (fun _ _=>rfl)) (aA (aN aJ (pv 2) aB (fun _ _=>rfl)) (aA (aN aJ (pv 2) aB (fun _ _=>rfl)) (aA (aN aJ (pv 2) aB (fun _ _=>rfl)) aD)))))))) jL) aD)))))
   (aG (aS (pv 1))))),?_⟩
  have sz:2000 < sizeLine:=aM rfl
  have lw:=hR.1
  refine ⟨aM rfl,fun q hq=>?_⟩
  have s0:=aI.new (o:=HO.lst []) hq
  have k0:=aC (H:=H) (a:=q) (o:=.lst [])
  generalize upd H q (.lst []) = G0 at s0 k0 ⊢
  refine ⟨_,rfl,l,rfl,⟨_,aj.of (s0 _ _ hL)⟩,?_⟩
  refine oC (xs:=ws) (fun i σ G=>aI H G ∧ ∃ (z2:Option V) (acc:List V),σ = [some (.ref l),some (.ref q),z2] ∧ G q = some (.lst acc) ∧ acc.length = i ∧ gR G c.c_Entry acc (es.take i)) ?_ ?_ ?_ ?_
  ·exact ⟨s0,_,[],rfl,k0,rfl,rfl,fun j v e h=>nomatch h⟩
  ·rintro i σ G _ ⟨sG,_⟩
   exact aj.of (sG _ _ hL)
  ·rintro i x σ G hx ⟨sG,z2,acc,rfl,h1,h2,h3⟩
   have hi:i < ws.length:=(List.getElem?_eq_some_iff.mp hx).1
   have hie:i < es.length:=by omega
   have ee:es[i]? = some es[i]:=List.getElem?_eq_getElem hie
   obtain ⟨ra,rfl,hrow⟩:=hR.2 i x _ hx ee
   have ok1:=okk _ (List.getElem_mem hie)
   rw [take_one ee]
   generalize es[i] = e at hrow ok1
   have hrow:=sG _ _ hrow
   have f0:cb (bS e) 0 = some (.int e.n):=aQ (j:=0) rfl
   have f1:cb (bS e) 1 = some (.int e.d):=aQ (j:=1) rfl
   have f2:cb (bS e) 2 = some (.str e.r):=aQ (j:=2) rfl
   have f3:cb (bS e) 3 = some (.str e.w):=aQ (j:=3) rfl
   have f4:cb (bS e) 4 = some (cH e.u):=aQ (j:=4) rfl
   have f5:cb (bS e) 5 = some (cH e.s):=aQ (j:=5) rfl
   have f6:cb (bS e) 6 = some (cH e.b):=aQ (j:=6) rfl
   have f7:cb (bS e) 7 = some (.bl e.k):=aQ (j:=7) rfl
   have oO:∀ (G:Hp) (o:Option Int),Own K G (cH o):=fun G o=>by cases o with | none=>exact Own.ax | some _=>exact Own.int
   have fw:fits (.str e.w):=by
    have:=(lK (mf ok1)).1
    show e.w.length ≤ sizeLine
    omega
   have ok2:why (.int e.n) (.int e.d) (.str e.r) (.str e.w) (cH e.u) (cH e.s) (cH e.b) = 0:=ok1
   refine ⟨_,rfl,.inl ⟨rfl,_,aj.of h1⟩,?_⟩
   refine ⟨_,rfl,ra,_,_,_,rfl,rfl,aj.of hrow,f0,?_⟩
   refine ⟨_,rfl,ra,_,_,_,rfl,rfl,aj.of hrow,f1,?_⟩
   refine ⟨_,rfl,ra,_,_,_,rfl,rfl,aj.of hrow,f2,?_⟩
   refine ⟨_,rfl,ra,_,_,_,rfl,rfl,aj.of hrow,f3,?_⟩
   refine ⟨_,rfl,ra,_,_,_,rfl,rfl,aj.of hrow,f4,?_⟩
   refine ⟨_,rfl,ra,_,_,_,rfl,rfl,aj.of hrow,f5,?_⟩
   refine ⟨_,rfl,ra,_,_,_,rfl,rfl,aj.of hrow,f6,?_⟩
   refine ⟨_,rfl,ra,_,_,_,rfl,rfl,aj.of hrow,f7,?_⟩
   refine ⟨rfl,rfl,fun x dx hx hdx ne=>?_⟩
   refine ⟨x,dx,.int e.n,.int e.d,.str e.r,.str e.w,cH e.u,cH e.s,cH e.b,.bl e.k,rfl,aC,Own.int,Own.int,Own.str,Own.str,fw,oO _ _,oO _ _,oO _ _,fun G1 s1=>⟨fun _=>⟨rfl,?_⟩,fun h=>absurd ok2 h⟩⟩
   have s2:=aI.upd (o:=.ins c.c_Entry dx (cM e)) ((aI.made hx hdx ne).trans s1) hx
   have he:cG (upd G1 x (.ins c.c_Entry dx (cM e))) c.c_Entry (.ref x) e:=⟨x,dx,rfl,aC⟩
   have ef:fields (.int e.n) (.int e.d) (.str e.r) (.str e.w) (cH e.u) (cH e.s) (cH e.b) (.bl e.k) = cM e:=rfl
   rw [ef]
   generalize upd G1 x (.ins c.c_Entry dx (cM e)) = G2 at s2 he ⊢
   have mv:∀ v y,cG G2 c.c_Entry v y → cG (upd G2 q (.lst (acc ++ [.ref x]))) c.c_Entry v y:=fun v y h=>h.keep fun t dx fs ht=>by rw [aH (aX ht (s2 _ _ h1) (by intro z; cases z))]; exact ht
   refine ⟨q,_,_,rfl,rfl,s2 _ _ h1,by omega,bJ hq (sG.trans s2),_,acc ++ [.ref x],rfl,aC,by rw [List.length_append,h2]; rfl,?_⟩
   have h3':=h3.same s2
   exact gL ⟨h3'.1,fun j v y a b=>mv v y (h3'.2 j v y a b)⟩ (mv _ _ he)
  ·rintro σ G ⟨sG,z2,acc,rfl,h1,h2,h3⟩
   rw [lw,List.take_of_length_le (Nat.le_refl _)] at h3
   exact ⟨_,rfl,k q acc G sG hq h1 h3⟩
set_option maxHeartbeats 4000000 in
theorem wF (T:Txt w K mg c):aw P w K mg base fD 1 c.a_Lup c.d_Lup ["_law_rank"] (yk):=by
 refine T.Lup.fn.ok wt (fun vs H Q E h=>?_) (fun cdv A outer s H vs Q E hr h=>?_)
 ·obtain ⟨z,rfl,_⟩:=h
  rfl
 ·obtain ⟨z,rfl,hz,k⟩:=h
  refine ⟨_,(aG (aS (hV (cx hr) (vD (kR aZ dg (kR aZ aZ (kR aZ aZ uM))) rfl rfl (by intro z; cases z) (by decide)) (pv 0) (fun _ _=>rfl)))),?_⟩
  have hm:bg (iP [] yy) (Sum.inr z) = some (.str (cL z)):=by
   rcases hz with q | q
   ·rw [q]; decide +kernel
   ·rw [q]; decide +kernel
  refine fun p hp=>⟨aC,yy,rfl,by decide,?_⟩
  have sm:aI H (upd (upd H p (.dK [])) p (.dK (iP [] yy))):=fun b u hb=>by rw [eS,aH (aK hb hp)]; exact hb
  refine ⟨_,rfl,p,.str (cL z),rfl,?_,k _ sm⟩
  rw [← hm]
  exact du.k (k:=Sum.inr z) aC
set_option maxHeartbeats 4000000 in
theorem m8 (T:Txt w K mg c):aw P w K mg base fD 1 c.a_Lword_of c.d_Lword_of ["_law_one_here", "_law_name", "_law_right", "_law_borne"] (rM):=by
 refine T.Lword_of.fn.ok jO (fun vs H Q E h=>?_) (fun cdv A outer s H vs Q E hr h=>?_)
 ·obtain ⟨v,w,dr,db,e,nm,R,kr,kb,rfl,_⟩:=h
  rfl
 ·obtain ⟨v,w,dr,db,e,nm,R,kr,kb,rfl,hv,hw,hdr,pR,hdb,pB,k⟩:=h
  refine ⟨_,(aY (ao (PW.pt (eF (cC (dA (aN aJ (pv 0) aB (fun _ _=>rfl)))) (dG (bo (bT (aN aJ (pv 0) aB (fun _ _=>rfl)))))))
    (aG (aS aZ))
    aP)
   (aE (ao (cC (dA (pv 1)))
    (aG (aS aZ))
    aP)
   (aY (ao (cC (gC (aN aJ (pv 0) aB (fun _ _=>rfl))))
    (aE (aO (i:=4) jO.nd rfl (Or.inl rfl) (gS (cx hr) (pv 2) (aN aJ (pv 0) aB (fun _ _=>rfl)) ⟨rfl,rfl,rfl,rfl⟩))
   (aE (ao (PW.pt (eN (cC (dA (pv 4))) (eN (aV gQ (aN aJ (pv 4) aB (fun _ _=>rfl)) (aN aJ (pv 0) aB (fun _ _=>rfl)) (aa _)) (d7 (cC (gC (aN aJ (pv 4) aB (fun _ _=>rfl))))))))
    (aG (aS aZ))
    aP)
   (aG (ao (aV gQ (aN aJ (pv 4) aB (fun _ _=>rfl)) (aN aJ (pv 0) aB (fun _ _=>rfl)) (aa _))
    (aG (aS aZ))
    aP))))
    aP)
   (aE (ao (cC (oG (cx hr) (pv 1) (pv 3)))
    (aG (aS aZ))
    aP)
   (aG (aS aZ)))))),?_⟩
  obtain ⟨a,rfl,ha⟩:=hv
  have f2:cb (bS e) 2 = some (.str e.r):=aQ (j:=2) rfl
  have f3:cb (bS e) 3 = some (.str e.w):=aQ (j:=3) rfl
  have f7:cb (bS e) 7 = some (.bl e.k):=aQ (j:=7) rfl
  have basef:∀ b,e.b = some b → cb (bS e) 6 = some (.int b):=fun b hb=>by
   have:cb (bS e) 6 = some (cH e.b):=aQ (j:=6) rfl
   rw [hb] at this
   exact this
  have basen:e.b = none → cb (bS e) 6 = some .ax:=fun hb=>by
   have:cb (bS e) 6 = some (cH e.b):=aQ (j:=6) rfl
   rw [hb] at this
   exact this
  refine ⟨fun σ G=>σ = [some (.ref a),some w,some (.ref dr),some (.ref db),none] ∧ G = H ∧ ¬ (e.b = none ∧ e.k = false),?_,?_⟩
  ·cases hb:e.b with
   | some b=>exact ⟨_,rfl,a,_,_,_,rfl,rfl,aj.of ha,basef b hb,_,rfl,bB ⟨rfl,rfl,fun z=>nomatch z.1⟩⟩
   | none =>
    refine ⟨_,rfl,a,_,_,_,rfl,rfl,aj.of ha,basen hb,_,rfl,bV ?_⟩
    refine ⟨_,rfl,a,_,_,_,rfl,rfl,aj.of ha,f7,?_⟩
    cases hk:e.k with
    | true=>exact ⟨_,rfl,bB ⟨rfl,rfl,fun z=>nomatch z.2⟩⟩
    | false =>
     refine ⟨_,rfl,bV ?_⟩
     have eo:eP R e nm = Str.ofString "undescribed" := by unfold eP; rw [if_pos ⟨hb,hk⟩]
     rw [eo] at k
     exact k
  rintro σ G ⟨rfl,rfl,hd⟩
  cases nm with
  | none =>
   obtain rfl:w = .ax:=hw
   refine ⟨_,rfl,_,rfl,bV ?_⟩
   have eo:eP R e none = Str.ofString "unplaced" := by unfold eP; rw [if_neg hd]
   rw [eo] at k
   exact k
  | some z =>
   obtain ⟨t,rfl,ht⟩:=hw
   refine ⟨_,rfl,_,rfl,bB ?_⟩
   refine ⟨fun σ G'=>(∃ z3,σ = [some (.ref a),some (.ref t),some (.ref dr),some (.ref db),z3]) ∧ G' = G ∧ eP R e (some z) = dj R z,?_,?_⟩
   ·cases hb:e.b with
    | none =>
     refine ⟨_,rfl,a,_,_,_,rfl,rfl,aj.of ha,basen hb,_,rfl,bB ⟨⟨_,rfl⟩,rfl,?_⟩⟩
     unfold eP
     rw [if_neg hd,hb]
    | some b =>
     refine ⟨_,rfl,a,_,_,_,rfl,rfl,aj.of ha,basef b hb,_,rfl,bV ?_⟩
     have eo:eP R e (some z) = eA R e b z:=by unfold eP; rw [if_neg hd,hb]
     rw [eo] at k
     refine ⟨_,rfl,dr,rfl,.inl ⟨_,.inl hdr⟩,_,rfl,a,_,_,_,rfl,rfl,aj.of ha,basef b hb,_,du.k (k:=Sum.inl b) hdr,?_⟩
     rcases mE pR b with ⟨f1,f2'⟩ | ⟨x,w,f1,f2',hx⟩
     ·rw [f2']
      refine ⟨_,rfl,_,rfl,bV ?_⟩
      have e2:eA R e b z = Str.ofString "baseless" := by unfold eA; rw [f1]
      rw [e2] at k
      exact k
     obtain ⟨xa,rfl,hxa⟩:=hx
     have g2:cb (bS x.e) 2 = some (.str x.e.r):=aQ (j:=2) rfl
     have g3:cb (bS x.e) 3 = some (.str x.e.w):=aQ (j:=3) rfl
     have g6:cb (bS x.e) 6 = some (cH x.e.b):=aQ (j:=6) rfl
     rw [f2']
     have e2:eA R e b z = if x.e.r ≠ e.r ∨ x.e.b ≠ none then Str.ofString "baseless" else if x.e.w ≠ e.w then Str.ofString "reworded" else dj R z:=by unfold eA; rw [f1]
     refine ⟨_,rfl,_,rfl,bB ?_⟩
     refine ⟨_,rfl,xa,_,_,_,rfl,rfl,aj.of hxa,g2,_,rfl,a,_,_,_,rfl,rfl,aj.of ha,f2,rfl,_,rfl,?_⟩
     refine cQ (fun y=>?_) (fun y=>?_)
     ·have y:x.e.r ≠ e.r:=fun q=>by rw [q,decide_eq_true rfl] at y; exact absurd y (by decide)
      rw [e2,if_pos (.inl y)] at k
      exact k
     have y:x.e.r = e.r:=V.str.inj (Decidable.of_not_not (p:=V.str x.e.r = V.str e.r) (fun q=>y (by rw [decide_eq_false q]; rfl)))
     cases hxb:x.e.b with
     | some b' =>
      rw [hxb] at g6
      refine ⟨_,rfl,xa,_,_,_,rfl,rfl,aj.of hxa,g6,_,rfl,bV ?_⟩
      rw [e2,if_pos (.inr (by rw [hxb]; intro q; cases q))] at k
      exact k
     | none =>
      rw [hxb] at g6
      refine ⟨_,rfl,xa,_,_,_,rfl,rfl,aj.of hxa,g6,_,rfl,bB ?_⟩
      have e3:¬ (x.e.r ≠ e.r ∨ x.e.b ≠ none):=fun q=>q.elim (fun q=>q y) (fun q=>q hxb)
      rw [if_neg e3] at e2
      refine ⟨_,rfl,xa,_,_,_,rfl,rfl,aj.of hxa,g3,_,rfl,a,_,_,_,rfl,rfl,aj.of ha,f3,rfl,_,rfl,?_⟩
      refine cQ (fun y2=>?_) (fun y2=>?_)
      ·have y2:x.e.w ≠ e.w:=fun q=>by rw [q,decide_eq_true rfl] at y2; exact absurd y2 (by decide)
       rw [e2,if_pos y2] at k
       exact k
      have y2:x.e.w = e.w:=V.str.inj (Decidable.of_not_not (p:=V.str x.e.w = V.str e.w) (fun q=>y2 (by rw [decide_eq_false q]; rfl)))
      refine ⟨⟨_,rfl⟩,rfl,?_⟩
      rw [eo,e2,if_neg (fun q=>q y2)]
   rintro σ G' ⟨⟨z3,rfl⟩,rfl,ea⟩
   rw [ea] at k
   have hk:=qB pB z
   refine ⟨_,rfl,_,rfl,db,_,rfl,du.t (k:=z.map Sum.inr) hdb (by rw [iV]; exact ht),?_⟩
   rw [hk]
   unfold dj at k
   cases q:R.any (fun x=>decide (x.nm = z)) with
   | true =>
    rw [q,if_pos rfl] at k
    exact ⟨_,rfl,bV k⟩
   | false =>
    rw [q,if_neg (by decide)] at k
    exact ⟨_,rfl,bB k⟩
set_option maxHeartbeats 4000000 in
theorem o6 (T:Txt w K mg c):aw P w K mg base fD 2 c.a_Lsieved c.d_Lsieved ["_law_book_here"] (sf):=by
 refine T.Lsieved.fn.ok cB (fun vs H Q E h=>?_) (fun cdv A outer s H vs Q E hr h=>?_)
 ·obtain ⟨l,ws,es,rfl,_⟩:=h
  rfl
 ·obtain ⟨l,ws,es,rfl,hL,hR,okk,nd,l84,k⟩:=h
  refine ⟨_,(aE (aO (i:=1) cB.nd rfl (Or.inl rfl) fW)
   (aE (aO (i:=2) cB.nd rfl (Or.inl rfl) fW)
   (aE (aO (i:=3) cB.nd rfl (Or.inl rfl) nc)
   (aE (aO (i:=4) cB.nd rfl (Or.inl rfl) fW)
   (aE (fN PassesOwn.never rfl (dF (pv 0)) (bG (i:=5) cB.nd rfl (Or.inl rfl))
    (aE (aO (i:=6) cB.nd rfl (Or.inl rfl) (fB (aA (aN aJ (pv 5) aB (fun _ _=>rfl)) aD)))
   (aY (ao (aV gQ (aN aJ (pv 5) aB (fun _ _=>rfl)) aZ (aa _))
    (aE (aO (i:=7) cB.nd rfl (Or.inl rfl) (gS (cx hr) (pv 1) (aN aJ (pv 5) aB (fun _ _=>rfl)) ⟨rfl,rfl,rfl,rfl⟩))
   (aE (aO (i:=6) cB.nd rfl (Or.inl rfl) dg)
   (aG (ao (PW.pt (eF (cC (gC (pv 7))) (dG (aV cP (aN aJ (pv 7) aB (fun _ _=>rfl)) (ag (wF T) (hr.mono (by decide)) rfl T.Lup.mgf T.Lup.kp T.Lup.bi .nil au (aA (aN aJ (pv 5) aB (fun _ _=>rfl)) aD)) (aa _)))))
    (aG (aO (i:=6) cB.nd rfl (Or.inl rfl) (aL nM (hV (cx hr) (pv 2) (aN aJ (pv 7) aB (fun _ _=>rfl)) (fun _ _=>rfl)) (fB (aA (aN aJ (pv 5) aB (fun _ _=>rfl)) aD)))))
    aP))))
    aP)
   (aE (fJ (cx hr) (pv 4) (aN aJ (pv 5) aB (fun _ _=>rfl)) (ag (m8 T) (hr.mono (by decide)) rfl T.Lword_of.mgf T.Lword_of.kp T.Lword_of.bi .nil au (aA (pv 5) (aA (pv 6) (aA (pv 1) (aA (pv 3) aD))))) rfl)
   (aE (fJ (cx hr) (pv 2) (aN aJ (pv 5) aB (fun _ _=>rfl)) (pv 6) rfl)
   (aG (ao (aV cP (hV (cx hr) (pv 4) (aN aJ (pv 5) aB (fun _ _=>rfl)) (fun _ _=>rfl)) aZ (aa _))
    (aE (fJ (cx hr) (pv 1) (aN aJ (pv 5) aB (fun _ _=>rfl)) (pv 5) rfl)
   (aG (fJ (cx hr) (pv 3) (pv 6) dE rfl)))
    aP)))))))
   (aG (aS (fB (aA (pv 4) (aA (pv 2) (aA (pv 1) aD))))))))))),?_⟩
  have sz:2000 < sizeLine:=aM rfl
  have lw:=hR.1
  refine fun dr h1=>?_
  have t1:=aI.new (o:=HO.dK []) h1
  have e1:=aC (H:=H) (a:=dr) (o:=.dK [])
  generalize upd H dr (.dK []) = G1 at t1 e1 ⊢
  refine fun dn h2=>?_
  have t2:=aI.new (o:=HO.dK []) h2
  have n12:dr ≠ dn:=aK e1 h2
  have e1:=t2 _ _ e1
  have e2:=aC (H:=G1) (a:=dn) (o:=.dK [])
  generalize upd G1 dn (.dK []) = G2 at t2 e1 e2 ⊢
  refine fun db h3=>?_
  have t3:=aI.new (o:=HO.dT []) h3
  have n13:dr ≠ db:=aK e1 h3
  have n23:dn ≠ db:=aK e2 h3
  have e1:=t3 _ _ e1
  have e2:=t3 _ _ e2
  have e3:=aC (H:=G2) (a:=db) (o:=.dT [])
  generalize upd G2 db (.dT []) = G3 at t3 e1 e2 e3 ⊢
  refine fun dw h4=>?_
  have t4:=aI.new (o:=HO.dK []) h4
  have n14:dr ≠ dw:=aK e1 h4
  have n24:dn ≠ dw:=aK e2 h4
  have n34:db ≠ dw:=aK e3 h4
  have e1:=t4 _ _ e1
  have e2:=t4 _ _ e2
  have e3:=t4 _ _ e3
  have e4:=aC (H:=G3) (a:=dw) (o:=.dK [])
  generalize upd G3 dw (.dK []) = G4 at t4 e1 e2 e3 e4 ⊢
  have s04:=t1.trans (t2.trans (t3.trans t4))
  have fr:∀ b u,H b = some u → b ≠ dr ∧ b ≠ dn ∧ b ≠ db ∧ b ≠ dw:=fun b u hb=>⟨aK hb h1,aK (t1 _ _ hb) h2,aK (t2 _ _ (t1 _ _ hb)) h3,aK (t3 _ _ (t2 _ _ (t1 _ _ hb))) h4⟩
  have hn2:H dn = none:=t1.free h2
  have hn4:H dw = none:=(t1.trans (t2.trans t3)).free h4
  clear t1 t2 t3 t4 h2 h3 h4
  have hL4:=s04 _ _ hL
  refine ⟨_,rfl,l,rfl,⟨_,aj.of hL4⟩,?_⟩
  refine oC (xs:=ws) (fun i σ G=>∃ (z5 z6 z7:Option V) (kr kn:List (Key × V)) (kb:List (List Key × V)),σ = [some (.ref l),some (.ref dr),some (.ref dn),some (.ref db),some (.ref dw),z5,z6,z7] ∧ (∀ b u,b ≠ dr → b ≠ dn → b ≠ db → b ≠ dw → G4 b = some u → G b = some u) ∧ G dr = some (.dK kr) ∧ Paired (tZ G) (av (es.take i)).r kr ∧ G dn = some (.dK kn) ∧ Paired (h9 G) (av (es.take i)).n kn ∧ G db = some (.dT kb) ∧ Paired tU (av (es.take i)).r kb ∧ G dw = some (.dK (ba (av (es.take i))))) ?_ ?_ ?_ ?_
  ·exact ⟨_,_,_,[],[],[],rfl,fun b u _ _ _ _ h=>h,e1,.nil,e2,.nil,e3,.nil,e4⟩
  ·rintro i σ G _ ⟨_,_,_,_,_,_,_,h,_⟩
   obtain ⟨m1,m2,m3,m4⟩:=fr l _ hL
   exact aj.of (h _ _ m1 m2 m3 m4 hL4)
  ·rintro i x σ G hx ⟨z5,z6,z7,kr,kn,kb,rfl,h,i1,pR,i2,pN,i3,pB,i4⟩
   have hi:i < ws.length:=(List.getElem?_eq_some_iff.mp hx).1
   have hie:i < es.length:=by omega
   have ee:es[i]? = some es[i]:=List.getElem?_eq_getElem hie
   obtain ⟨ra,rfl,hrow⟩:=hR.2 i x _ hx ee
   have ok1:=okk _ (List.getElem_mem hie)
   have rok:=mK okk nd i (by omega)
   have frn:es[i].n ∉ (av (es.take i)).o.map (·.1):=by
    rw [fY]
    intro z
    have:=nd
    have e2:es.map (·.n) = (es.take i).map (·.n) ++ es[i].n :: (es.drop (i + 1)).map (·.n):=by
     rw [← List.map_cons,List.getElem_cons_drop,← List.map_append,List.take_append_drop]
    rw [e2,List.nodup_append] at this
    exact this.2.2 _ z _ (List.mem_cons_self ..) rfl
   have lo:(av (es.take i)).o.length = i:=by
    rw [← List.length_map (f:=fun p:Int × Str=>p.1),fY,List.length_map,List.length_take]
    omega
   rw [take_one ee,fT]
   generalize es[i] = e at hrow ok1 frn
   generalize av (es.take i) = S at pR pN pB i4 rok frn lo
   obtain ⟨m1,m2,m3,m4⟩:=fr ra _ hrow
   have hrowG:=h _ _ m1 m2 m3 m4 (s04 _ _ hrow)
   have f0:cb (bS e) 0 = some (.int e.n):=aQ (j:=0) rfl
   have f2:cb (bS e) 2 = some (.str e.r):=aQ (j:=2) rfl
   have f3:cb (bS e) 3 = some (.str e.w):=aQ (j:=3) rfl
   have f4:cb (bS e) 4 = some (cH e.u):=aQ (j:=4) rfl
   have nkn:bg kn (Sum.inl e.n) = none:=kH pN (by rw [rok.nk]; exact frn)
   have nko:bg (ba S) (Sum.inl e.n) = none:=iw frn
   have nkr:bg kr (Sum.inl e.n) = none:=by
    rcases mE pR e.n with ⟨_,q⟩ | ⟨x,v,q,_⟩
    ·exact q
    ·obtain ⟨q1,q2⟩:=df q
     exact absurd (q2 ▸ rok.sub x q1) frn
   have lkn:kn.length = i:=by rw [← Paired.length pN,← List.length_map (f:=fun p:Int × Option (List Str)=>p.1),rok.nk,List.length_map,lo]
   have lko:(ba S).length = i:=by rw [← lo]; exact List.length_map ..
   have lr:S.r.length ≤ i:=by
    have h1:(S.r.map (·.e.n)).length ≤ (S.o.map (·.1)).length:=o7 rok.rn fun x hx=>by
     obtain ⟨y,hy,rfl⟩:=List.mem_map.mp hx
     exact rok.sub y hy
    rw [List.length_map,List.length_map,lo] at h1
    exact h1
   have lkr:kr.length ≤ i:=by rw [← Paired.length pR]; exact lr
   have lkb:kb.length ≤ i:=by rw [← Paired.length pB]; exact lr
   refine ⟨_,rfl,ra,_,_,_,rfl,rfl,aj.of hrowG,f3,aM rfl,fun t0 ht0=>?_⟩
   have q0:=aI.new (o:=HO.tup [V.str e.w]) ht0
   have k0:=aC (H:=G) (a:=t0) (o:=.tup [V.str e.w])
   generalize upd G t0 (.tup [V.str e.w]) = Ga at q0 k0 ⊢
   refine ⟨fun σ' G'=>aI Ga G' ∧ ∃ w z7,σ' = [some (.ref l),some (.ref dr),some (.ref dn),some (.ref db),some (.ref dw),some (.ref ra),some w,z7] ∧ i5 G' w (bM S.r e),?_,?_⟩
   ·refine ⟨_,rfl,ra,_,_,_,rfl,rfl,aj.of (q0 _ _ hrowG),f2,rfl,_,rfl,?_⟩
    refine cQ (fun z=>?_) (fun z=>?_)
    rotate_left
    ·have z:e.r = Str.ofString "genus" := V.str.inj (Decidable.of_not_not (p:=V.str e.r = V.str (Str.ofString "genus")) (fun q=>z (by show (!decide (V.str e.r = V.str (Str.ofString "genus"))) = true; rw [decide_eq_false q]; rfl)))
     refine ⟨aI.refl _,_,_,rfl,?_⟩
     have en:bM S.r e = some [e.w]:=by unfold bM; rw [if_pos z]
     rw [en]
     exact ⟨t0,rfl,k0⟩
    have z:e.r ≠ Str.ofString "genus" := fun q=>by
     have z:(!decide (V.str e.r = V.str (Str.ofString "genus"))) = true:=z
     rw [q,decide_eq_true rfl] at z
     exact absurd z (by decide)
    obtain ⟨u,hu⟩:=vZ ok1 z
    rw [hu] at f4
    have f4:cb (bS e) 4 = some (.int u):=f4
    have en:bM S.r e = match bU S.r u with | none=>none | some x=>if x.e.r = cL e.r then some (x.nm ++ [e.w]) else none:=by
     unfold bM
     rw [if_neg z,hu]
     rfl
    have j1:=q0 _ _ i1
    refine ⟨_,rfl,dr,rfl,.inl ⟨_,.inl j1⟩,_,rfl,ra,_,_,_,rfl,rfl,aj.of (q0 _ _ hrowG),f4,_,du.k (k:=Sum.inl u) j1,?_⟩
    rcases mE pR u with ⟨g1,g2⟩ | ⟨x,v,g1,g2,hx⟩
    ·rw [g2]
     rw [g1] at en
     refine ⟨_,rfl,_,rfl,bB ⟨aI.refl _,_,_,rfl,?_⟩⟩
     rw [en]
     rfl
    rw [g2]
    rw [g1] at en
    have en:bM S.r e = if x.e.r = cL e.r then some (x.nm ++ [e.w]) else none:=en
    obtain ⟨xa,rfl,hxa⟩:=hx
    have hxa:=q0 _ _ hxa
    have x0:cb (bS x.e) 0 = some (.int x.e.n):=aQ (j:=0) rfl
    have x2:cb (bS x.e) 2 = some (.str x.e.r):=aQ (j:=2) rfl
    refine ⟨_,rfl,_,rfl,bV ?_⟩
    refine ⟨_,rfl,xa,_,_,_,rfl,rfl,aj.of hxa,x2,_,rfl,ra,_,_,_,rfl,rfl,aj.of (q0 _ _ hrowG),f2,e.r,rfl,(kQ ok1).resolve_left z,fun Gb sb=>⟨rfl,_,rfl,?_⟩⟩
    refine cQ (fun y=>?_) (fun y=>?_)
    rotate_left
    ·have y:x.e.r ≠ cL e.r:=fun q=>y (by show decide (V.str x.e.r = V.str (cL e.r)) = true; rw [q,decide_eq_true rfl])
     refine ⟨sb,_,_,rfl,?_⟩
     rw [en,if_neg y]
     rfl
    have y:x.e.r = cL e.r:=V.str.inj (of_decide_eq_true y)
    rw [if_pos y] at en
    have hm:=(df g1).1
    obtain ⟨nv,hnv,nt,rfl,hnt⟩:=nJ pN (by rw [rok.nk]; exact rok.nd) (rok.nm x hm)
    have dp:=rok.dp x hm
    have d3:cz x.e.r ≤ 3:=by
     unfold cz
     split
     ·decide
     ·split <;> decide
    have d0:0 < cz x.e.r:=by
     unfold cz
     split
     ·decide
     ·split <;> decide
    have sb':=q0.trans sb
    refine ⟨_,rfl,_,rfl,xa,_,_,_,rfl,rfl,aj.of (sb _ _ hxa),x0,dn,.ref nt,rfl,?_,?_⟩
    ·rw [← hnv]
     exact du.k (k:=Sum.inl x.e.n) (sb' _ _ i2)
    refine ⟨_,rfl,ra,_,_,_,rfl,rfl,aj.of (sb' _ _ hrowG),f3,aM rfl,fun t ht=>?_⟩
    have s1:=aI.new (o:=HO.tup [V.str e.w]) ht
    refine ⟨nt,t,x.nm.map V.str,[V.str e.w],rfl,rfl,eX.of (s1 _ _ (sb' _ _ hnt)),eX.of aC,(by intro q; cases q),?_,fun q=>?_,fun _ p hp=>?_⟩
    ·rw [List.length_map,dp]
     show _ + 1 ≤ _
     omega
    ·exfalso
     have:=congrArg List.length q
     rw [List.length_map,dp] at this
     have:cz x.e.r = 0:=this
     omega
    refine ⟨sb.trans (s1.trans (aI.new hp)),_,_,rfl,?_⟩
    rw [en]
    exact ⟨p,rfl,by rw [aC,List.map_append]; rfl⟩
   rintro σ' Gc ⟨sc,w,z7',rfl,hnv⟩
   have s8:=q0.trans sc
   have h':∀ b u,b ≠ dr → b ≠ dn → b ≠ db → b ≠ dw → G4 b = some u → Gc b = some u:=fun b u a1 a2 a3 a4 hb=>s8 _ _ (h b u a1 a2 a3 a4 hb)
   have i1:=s8 _ _ i1
   have i2:=s8 _ _ i2
   have i3:=s8 _ _ i3
   have i4:=s8 _ _ i4
   have pR:Paired (tZ Gc) S.r kr:=Paired.eJ pR fun x q z=>⟨z.1,z.2.same s8⟩
   have pN:Paired (h9 Gc) S.n kn:=Paired.eJ pN fun x q z=>⟨z.1,z.2.same fun t xs e=>s8 _ _ e⟩
   have hrow8:=s8 _ _ hrowG
   clear h hrowG s8 sc q0 k0
   obtain ⟨nm,on⟩:∃ nm,bM S.r e = nm:=⟨_,rfl⟩
   rw [on] at hnv
   have oS:eP S.r e nm = cV S e:=by unfold cV; rw [on]
   have eo:ba (bL S e) = ba S ++ [(Sum.inl e.n,.str (cV S e))]:=by
    show (S.o ++ [(e.n,cV S e)]).map _ = _
    rw [List.map_append]
    rfl
   refine ⟨_,rfl,_,rfl,_,rfl,_,rfl,.ref ra,w,dr,db,e,nm,S.r,kr,kb,rfl,⟨ra,rfl,hrow8⟩,hnv,i1,pR,i3,pB,?_⟩
   rw [oS]
   refine ⟨_,rfl,_,rfl,ra,_,_,_,rfl,rfl,aj.of hrow8,f0,dw,_,rfl,ie.k (k:=Sum.inl e.n) i4 (by omega),?_⟩
   rw [dW nko,← eo]
   refine ⟨_,rfl,_,rfl,_,rfl,ra,_,_,_,rfl,rfl,aj.of (by rw [aH m4]; exact hrow8),f0,dn,_,rfl,ie.k (k:=Sum.inl e.n) (by rw [aH n24]; exact i2) (by omega),?_⟩
   rw [dW nkn]
   have p1:upd (upd Gc dw (.dK (ba (bL S e)))) dn (.dK (kn ++ [(Sum.inl e.n,w)])) dr = some (.dK kr):=by rw [aH n12,aH n14]; exact i1
   have p2:upd (upd Gc dw (.dK (ba (bL S e)))) dn (.dK (kn ++ [(Sum.inl e.n,w)])) dn = some (.dK (kn ++ [(Sum.inl e.n,w)])):=aC
   have p3:upd (upd Gc dw (.dK (ba (bL S e)))) dn (.dK (kn ++ [(Sum.inl e.n,w)])) db = some (.dT kb):=by rw [aH n23.symm,aH n34]; exact i3
   have p4:upd (upd Gc dw (.dK (ba (bL S e)))) dn (.dK (kn ++ [(Sum.inl e.n,w)])) dw = some (.dK (ba (bL S e))):=by rw [aH n24.symm,aC]
   have pf:∀ b u,b ≠ dn → b ≠ dw → Gc b = some u → upd (upd Gc dw (.dK (ba (bL S e)))) dn (.dK (kn ++ [(Sum.inl e.n,w)])) b = some u:=fun b u a2 a4 hb=>by rw [aH a2,aH a4]; exact hb
   generalize upd (upd Gc dw (.dK (ba (bL S e)))) dn (.dK (kn ++ [(Sum.inl e.n,w)])) = Gd at p1 p2 p3 p4 pf ⊢
   have tupf:∀ b xs,Gc b = some (.tup xs) → Gd b = some (.tup xs):=fun b xs hb=>pf b _ (aX hb i2 (by intro z; cases z)) (aX hb i4 (by intro z; cases z)) hb
   have lstf:∀ b xs,Gc b = some (.lst xs) → Gd b = some (.lst xs):=fun b xs hb=>pf b _ (aX hb i2 (by intro z; cases z)) (aX hb i4 (by intro z; cases z)) hb
   have hrow9:=lstf _ _ hrow8
   have pN9:∀ G:Hp,(∀ b xs,Gc b = some (.tup xs) → G b = some (.tup xs)) → Paired (h9 G) (bL S e).n (kn ++ [(Sum.inl e.n,w)]):=fun G hg=>by
    show Paired (h9 G) (S.n ++ [(e.n,bM S.r e)]) _
    rw [on]
    exact Paired.snoc (Paired.eJ pN fun x q z=>⟨z.1,z.2.same hg⟩) ⟨rfl,hnv.same hg⟩
   refine ⟨_,rfl,_,rfl,ra,_,_,_,rfl,rfl,aj.of hrow9,f0,dw,.str (cV S e),rfl,?_,rfl,_,rfl,?_⟩
   ·rw [← jA (v:=V.str (cV S e)) nko,← eo]
    exact du.k (k:=Sum.inl e.n) p4
   refine cQ (fun z=>?_) (fun z=>?_)
   ·have z:cV S e = Str.ofString "right" := V.str.inj (of_decide_eq_true z)
    obtain ⟨nm',hnm,hno,_⟩:=gH z
    rw [on] at hnm
    subst hnm
    obtain ⟨t,rfl,ht⟩:=hnv
    have er:(bL S e).r = S.r ++ [⟨e,nm'⟩]:=by
     show (if cV S e = Str.ofString "right" then S.r ++ [⟨e,(bM S.r e).getD []⟩] else S.r) = _
     rw [if_pos z,on]
     rfl
    have nkb:bg kb (nm'.map Sum.inr) = none:=by
     have:=qB pB nm'
     rw [hno] at this
     cases q:bg kb (nm'.map Sum.inr) with
     | none=>rfl
     | some v=>rw [q] at this; cases this
    refine ⟨_,rfl,_,rfl,_,rfl,ra,_,_,_,rfl,rfl,aj.of hrow9,f0,dr,_,rfl,ie.k (k:=Sum.inl e.n) p1 (by omega),?_⟩
    rw [dW nkr]
    have ht9:=tupf _ _ ht
    have nt:t ≠ dr:=aX ht9 p1 (by intro z; cases z)
    refine ⟨_,rfl,_,rfl,db,_,rfl,ie.t (k:=nm'.map Sum.inr) (by rw [aH n13.symm]; exact p3) (by rw [iV,aH nt]; exact ht9) (by omega),?_⟩
    rw [dW nkb]
    have y1:upd (upd Gd dr (.dK (kr ++ [(Sum.inl e.n,.ref ra)]))) db (.dT (kb ++ [(nm'.map Sum.inr,.bl true)])) dr = some (.dK (kr ++ [(Sum.inl e.n,.ref ra)])):=by rw [aH n13,aC]
    have y2:upd (upd Gd dr (.dK (kr ++ [(Sum.inl e.n,.ref ra)]))) db (.dT (kb ++ [(nm'.map Sum.inr,.bl true)])) dn = some (.dK (kn ++ [(Sum.inl e.n,.ref t)])):=by rw [aH n23,aH n12.symm]; exact p2
    have y3:upd (upd Gd dr (.dK (kr ++ [(Sum.inl e.n,.ref ra)]))) db (.dT (kb ++ [(nm'.map Sum.inr,.bl true)])) db = some (.dT (kb ++ [(nm'.map Sum.inr,.bl true)])):=aC
    have y4:upd (upd Gd dr (.dK (kr ++ [(Sum.inl e.n,.ref ra)]))) db (.dT (kb ++ [(nm'.map Sum.inr,.bl true)])) dw = some (.dK (ba (bL S e))):=by rw [aH n34.symm,aH n14.symm]; exact p4
    have yf:∀ b u,b ≠ dr → b ≠ db → Gd b = some u → upd (upd Gd dr (.dK (kr ++ [(Sum.inl e.n,.ref ra)]))) db (.dT (kb ++ [(nm'.map Sum.inr,.bl true)])) b = some u:=fun b u a2 a4 hb=>by rw [aH a4,aH a2]; exact hb
    generalize upd (upd Gd dr (.dK (kr ++ [(Sum.inl e.n,.ref ra)]))) db (.dT (kb ++ [(nm'.map Sum.inr,.bl true)])) = Ge at y1 y2 y3 y4 yf ⊢
    have tupE:∀ b xs,Gc b = some (.tup xs) → Ge b = some (.tup xs):=fun b xs hb=>yf b _ (aX (tupf b xs hb) p1 (by intro z; cases z)) (aX (tupf b xs hb) p3 (by intro z; cases z)) (tupf b xs hb)
    have lstE:∀ b xs,Gc b = some (.lst xs) → Ge b = some (.lst xs):=fun b xs hb=>yf b _ (aX (lstf b xs hb) p1 (by intro z; cases z)) (aX (lstf b xs hb) p3 (by intro z; cases z)) (lstf b xs hb)
    refine ⟨_,_,_,kr ++ [(Sum.inl e.n,.ref ra)],kn ++ [(Sum.inl e.n,.ref t)],kb ++ [(nm'.map Sum.inr,.bl true)],rfl,fun b u a1 a2 a3 a4 hb=>yf b u a1 a3 (pf b u a2 a4 (h' b u a1 a2 a3 a4 hb)),y1,?_,y2,pN9 Ge tupE,y3,?_,y4⟩
    ·rw [er]
     exact Paired.snoc (Paired.eJ pR fun x q z=>⟨z.1,z.2.keep lstE⟩) ⟨rfl,ra,rfl,lstE _ _ hrow8⟩
    ·rw [er]
     exact Paired.snoc pB rfl
   ·have z:¬ cV S e = Str.ofString "right" := fun q=>z (decide_eq_true (congrArg V.str q))
    have er:(bL S e).r = S.r:=by
     show (if cV S e = Str.ofString "right" then S.r ++ [⟨e,(bM S.r e).getD []⟩] else S.r) = _
     rw [if_neg z]
    rw [er]
    exact ⟨_,_,_,kr,kn ++ [(Sum.inl e.n,w)],kb,rfl,fun b u a1 a2 a3 a4 hb=>pf b u a2 a4 (h' b u a1 a2 a3 a4 hb),p1,Paired.eJ pR fun x q z=>⟨z.1,z.2.keep lstf⟩,p2,pN9 Gd tupf,p3,pB,p4⟩
  ·rintro σ G ⟨z5,z6,z7,kr,kn,kb,rfl,h,i1,pR,i2,pN,i3,pB,i4⟩
   rw [lw,List.take_of_length_le (Nat.le_refl _)] at pR pN i4
   have sG:aI H G:=fun b u hb=>by
    obtain ⟨m1,m2,m3,m4⟩:=fr b u hb
    exact h b u m1 m2 m3 m4 (s04 _ _ hb)
   refine ⟨_,rfl,_,rfl,_,rfl,aM rfl,fun t ht=>?_⟩
   have st:=aI.new (o:=HO.tup [.ref dw,.ref dn,.ref dr]) ht
   exact k t dw dn dr kn kr _ (sG.trans st) hn4 hn2 h1 n14.symm n12.symm aC (st _ _ i4) (st _ _ i2) (Paired.eJ pN fun x q z=>⟨z.1,z.2.same fun t xs e=>st _ _ e⟩) (st _ _ i1) (Paired.eJ pR fun x q z=>⟨z.1,z.2.same st⟩)
set_option maxHeartbeats 4000000 in
theorem iC (T:Txt w K mg c):aw P w K mg base (kO P w) 1 c.a_NoAct_init c.d_NoAct_init ["self", "words", "place"] (v7 c.c_NoAct "place"):=by
 refine T.NoAct_init.uz kY (fun vs H Q E h=>?_) (fun cdv A outer s H vs Q E hr h=>?_)
 ·obtain ⟨e,wd,pl,rfl,_⟩:=h
  rfl
 ·obtain ⟨e,wd,pl,rfl,he,k⟩:=h
  refine ⟨_,(aE (cD (qf T.bi_RightError rfl T.mg_RightError (aA (pv 0) (aA (pv 1) aD))))
   (aG (u6 (pv 0) (pv 2) rfl))),?_⟩
  refine ⟨_,rfl,_,rfl,e,_,_,_,_,rfl,he,T.x_NoAct,?_⟩
  exact ⟨_,rfl,_,rfl,e,_,_,rfl,he,T.x_NoAct,T.xs_NoAct,fun dx hd=>k dx hd⟩
set_option maxHeartbeats 4000000 in
theorem o8 (T:Txt w K mg c):aw P w K mg base fD 1 c.a_is_deed c.d_is_deed ["thing"] (wU K):=by
 refine T.is_deed.fn.ok oy (fun vs H Q E h=>?_) (fun cdv A outer s H vs Q E hr h=>?_)
 ·obtain ⟨x,rfl,_⟩:=h
  rfl
 ·obtain ⟨x,rfl,ow,k⟩:=h
  refine ⟨_,(aG (aS (eE (aW br rfl T.no_isinstance aq (aA (pv 0) (aA (eT (v:=.ty "str") rfl T.no_str om rfl) aD))) (et (cO gs (pv 0) (cW (v:=.ref c.u_DEEDS) rfl T.mg_DEEDS rfl) (by with_unfolding_all rfl)))))),?_⟩
  refine ⟨x,rfl,bK.str ow ⟨_,rfl,?_⟩⟩
  cases x with
  | str z=>exact bV ⟨_,rfl,c.u_DEEDS,deeds,rfl,.inr (T.sq_DEEDS _),rfl,rfl,k⟩
  | _=>exact bB k
set_option maxHeartbeats 4000000 in
theorem kl (T:Txt w K mg c):aw P w K mg base (kO P w) 3 c.a_refuse_day c.d_refuse_day ["day"] (rK K c.c_NoDay):=by
 refine T.refuse_day.fn.uz kf (fun vs H Q E h=>?_) (fun cdv A outer s H vs Q E hr h=>?_)
 ·obtain ⟨x,rfl,_⟩:=h
  rfl
 ·obtain ⟨x,rfl,ow,k1,k2⟩:=h
  refine ⟨_,(aG (ao (bo (bT (ag (lh T) (hr.mono (by decide)) rfl T.is_day.mgf T.is_day.kp T.is_day.bi .nil au (aA (pv 0) aD))))
    (aG (cY T.x_NoDay rfl rfl T.mg_NoDay ek (aA aZ aD)))
    aP)),?_⟩
  refine ⟨_,rfl,x,rfl,ow,_,rfl,?_⟩
  cases hx:inR 1000000 x with
  | false=>exact bV ⟨aM rfl,k2 hx⟩
  | true=>exact bB (k1 hx)
set_option maxHeartbeats 4000000 in
theorem gP (T:Txt w K mg c):aw P w K mg base (kO P w) 4 c.a_Act_init c.d_Act_init ["self", "day", "deed", "number"] (yQ K c.c_Act c.c_NoDay c.c_NoAct c.c_NoNumber):=by
 refine T.Act_init.uz nA (fun vs H Q E h=>?_) (fun cdv A outer s H vs Q E hr h=>?_)
 ·obtain ⟨a,dx,d,e,n,rfl,_⟩:=h
  rfl
 ·obtain ⟨a,dx,d,e,n,rfl,ha,od,oe,on,k1,k2,k3,k4⟩:=h
  refine ⟨_,(aE (cD (jk (kl T) (hr.mono (by decide)) rfl T.refuse_day.mgf T.refuse_day.kp T.refuse_day.bi .nil nV (aA (pv 1) aD)))
   (aE (ao (bo (bT (ag (o8 T) (hr.mono (by decide)) rfl T.is_deed.mgf T.is_deed.kp T.is_deed.bi .nil au (aA (pv 2) aD))))
    (aG (lO T.x_NoAct (iC T) (hr.mono (by decide)) rfl rfl T.mg_NoAct T.b_NoAct_2 qC (aA aZ (aA aB aD))))
    aP)
   (aE (ao (bo (bT (ag (dR T) (hr.mono (by decide)) rfl T.is_number.mgf T.is_number.kp T.is_number.bi .nil au (aA (pv 3) aD))))
    (aG (cY T.x_NoNumber rfl rfl T.mg_NoNumber ek (aA aZ aD)))
    aP)
   (aE (cJ (pv 0) (pv 1) rfl)
   (aE (cJ (pv 0) (pv 2) rfl)
   (aG (cJ (pv 0) (pv 3) rfl))))))),?_⟩
  refine ⟨_,rfl,d,rfl,od,fun hd=>?_,fun hd=>k1 hd⟩
  refine ⟨_,rfl,e,rfl,oe,_,rfl,?_⟩
  cases he:gE e with
  | false=>exact bV ⟨rfl,aM rfl,pF fun x G sG hx=>k2 hd he x G sG hx⟩
  | true =>
   refine bB ⟨_,rfl,n,rfl,on,_,rfl,?_⟩
   cases hn:inR 1000000000 n with
   | false=>exact bV ⟨aM rfl,k3 hd he hn⟩
   | true =>
    refine bB ?_
    refine ⟨_,rfl,_,rfl,a,_,dx,_,rfl,ha,T.cl_Act,T.na_Act_day,aM rfl,?_⟩
    refine ⟨_,rfl,_,rfl,a,_,dx,_,rfl,aC,T.cl_Act,T.na_Act_deed,aM rfl,?_⟩
    refine ⟨_,rfl,_,rfl,a,_,dx,_,rfl,aC,T.cl_Act,T.na_Act_number,aM rfl,?_⟩
    refine k4 hd he hn _ (fun b u nb hb=>?_) aC
    rw [aH nb,aH nb,aH nb]
    exact hb
set_option maxHeartbeats 4000000 in
theorem ku (T:Txt w K mg c):aw P w K mg base fD 1 c.a_can_follow c.d_can_follow ["results", "ahead_of_it", "thing"] (rR K c.c_Results c.c_Entry c.c_Act):=by
 refine T.can_follow.fn.ok iF (fun vs H Q E h=>?_) (fun cdv A outer s H vs Q E hr h=>?_)
 ·obtain ⟨A_,s_,fl,fa,ds,th,rfl,_⟩:=h
  rfl
 ·obtain ⟨A_,s_,fl,fa,ds,th,rfl,rs,hfl,hA,hth⟩:=h
  refine ⟨_,(aE (ao (bo (bT (aW br rfl T.no_isinstance aq (aA (pv 2) (aA (cW (v:=.ref c.c_Act) rfl T.mg_Act rfl) aD)))))
    (aG (aS dE))
    aP)
   (aY (ao (PW.pt (eF (nD (pv 1) (fun _=>rfl)) (dG (aV qF (ah (pv 2) rfl) (ah (aN aJ (pv 1) (kP iJ aB) (fun _ _=>rfl)) rfl) (aa _)))))
    (aG (aS dE))
    aP)
   (aE (aO (i:=3) iF.nd rfl (Or.inl rfl) (gS (cx hr) (ah (pv 0) rfl) (ah (pv 2) rfl) ⟨rfl,rfl,rfl,rfl⟩))
   (aG (aS (eE (kS (gC (pv 3))) (eE (kS (dA (ah (pv 3) rfl))) (et (cO iS (ah (pv 3) rfl) (ah (pv 2) rfl) (aa _)))))))))),?_⟩
  rcases hth with ⟨⟨tn,ty,kn⟩,k⟩ | ⟨x,⟨a,dx,rfl,ha⟩,k⟩
  ·exact ⟨_,rfl,bK.zj ty kn ⟨_,rfl,bV k⟩⟩
  refine ⟨_,rfl,bK.ins ha T.cl_Act T.w_Act T.ws_Act ⟨_,rfl,bB ?_⟩⟩
  have k:Q (.bl (cq ds x && eR s_.r x)) H:=k
  have lf:=hA.1
  refine ⟨fun σ' G'=>H = G' ∧ cq ds x = true ∧ σ' = [some (.ref A_.a),some (.ref fl),some (.ref a),none],?_,?_⟩
  ·by_cases e0:fa = []
   ·subst e0
    have d0:ds = []:=List.eq_nil_of_length_eq_zero lf.symm
    subst d0
    exact ⟨_,rfl,false,.inl ⟨_,aj.of hfl,rfl⟩,bB ⟨rfl,rfl,rfl⟩⟩
   ·have dne:ds ≠ []:=fun z=>e0 (List.eq_nil_of_length_eq_zero (by rw [lf,z]; rfl))
    obtain ⟨f0,fv,rfl⟩:∃ f0 fv,fa = f0 ++ [fv]:=⟨_,_,(List.dropLast_concat_getLast e0).symm⟩
    obtain ⟨d0,dv,rfl⟩:∃ d0 dv,ds = d0 ++ [dv]:=⟨_,_,(List.dropLast_concat_getLast dne).symm⟩
    have l0:f0.length = d0.length:=by
     rw [List.length_append,List.length_append] at lf
     exact Nat.succ.inj lf
    obtain ⟨fva,fdx,rfl,hfv⟩:=hA.2 f0.length fv dv (by simp) (by rw [l0]; simp)
    have eL:cq (d0 ++ [dv]) x = decide (dv.d ≤ x.d):=by unfold cq; rw [List.getLast?_append]; rfl
    rw [eL] at k ⊢
    refine ⟨_,rfl,true,.inl ⟨_,aj.of hfl,by cases f0 <;> rfl⟩,bV ?_⟩
    refine ⟨_,rfl,a,_,dx,_,_,rfl,ha,T.cl_Act,T.na_Act_day,rfl,?_⟩
    walk_at "rd"
    refine ⟨fl,_,_,_,rfl,rfl,aj.of hfl,jt _ _,fva,_,fdx,_,_,rfl,hfv,T.cl_Act,T.na_Act_day,rfl,_,_,rfl,rfl,_,rfl,?_⟩
    refine cQ (fun h=>?_) (fun h=>?_)
    ·have h:=of_decide_eq_true h
     rw [decide_eq_false (by omega)] at k
     exact k
    ·have h:¬ x.d < dv.d:=fun z=>h (decide_eq_true z)
     exact ⟨rfl,decide_eq_true (by omega),rfl⟩
  rintro σ G ⟨rfl,h1,rfl⟩
  rw [h1,Bool.true_and] at k
  unfold eR at k
  obtain ⟨kr,hR,pR⟩:=rs.rights
  refine ⟨_,rfl,A_.a,_,A_.dx,_,_,rfl,rs.at_,T.cl_Results,T.na_Results_rights,rfl,A_.o3,rfl,.inl ⟨_,.inl hR⟩,_,rfl,a,_,dx,_,_,rfl,ha,T.cl_Act,T.na_Act_number,rfl,_,du.k (k:=Sum.inl x.n) hR,?_⟩
  rcases gb pR x.n with ⟨f1,f2⟩ | ⟨y,v,f1,f2,hy⟩
  ·rw [f2]
   rw [f1] at k
   exact ⟨_,rfl,_,rfl,bB k⟩
  ·obtain ⟨ya,ydx,rfl,hya⟩:=hy
   rw [f2]
   rw [f1] at k
   have k:Q (.bl (decide (y.e.b = none) && decide (y.e.d ≤ x.d))) H:=k
   have lb:(cM y.e).lookup (Str.ofString "base") = some (cH y.e.b):=rfl
   refine ⟨_,rfl,_,rfl,bV ?_⟩
   refine ⟨_,rfl,ya,_,ydx,_,_,rfl,hya,T.cl_Entry,T.na_Entry_base,lb,_,rfl,?_⟩
   cases hb:y.e.b with
   | some b=>rw [hb] at k; exact bB k
   | none =>
    rw [hb] at k
    refine bV ?_
    exact ⟨_,rfl,ya,_,ydx,_,_,rfl,hya,T.cl_Entry,T.na_Entry_day,rfl,_,rfl,a,_,dx,_,_,rfl,ha,T.cl_Act,T.na_Act_day,rfl,_,_,rfl,rfl,k⟩
set_option maxHeartbeats 4000000 in
theorem kj (T:Txt w K mg c):aw P w K mg base fD 3 c.a_Clerk_init c.d_Clerk_init ["self"] (sE c.c_Clerk c.c_Results c.c_Entry):=by
 refine T.Clerk_init.ok lE (fun vs H Q E h=>?_) (fun cdv A outer s H vs Q E hr h=>?_)
 ·obtain ⟨a,dx,rfl,_⟩:=h
  rfl
 ·obtain ⟨a,dx,rfl,ha,k⟩:=h
  refine ⟨_,(aY (cJ (pv 0) (az aD) rfl)
   (aY (cJ (pv 0) (nH T.mk_Results (j3 T) (hr.mono (by decide)) rfl T.mg_Results T.bi_Results_init .nil au) rfl)
   (aY (cJ (pv 0) (az aD) rfl)
   (aG (cJ (pv 0) (az aD) rfl))))),?_⟩
  have na:∀ d,H d = none → d ≠ a:=fun d hd z=>by rw [z,ha] at hd; cases hd
  refine ⟨fun σ G=>σ = [some (.ref a)] ∧ ∃ e,(∀ b u,b ≠ a → H b = some u → G b = some u) ∧ G a = some (.ins c.c_Clerk dx [("entries",.ref e)]) ∧ G e = some (.lst []) ∧ H e = none,?_,?_⟩
  ·refine ⟨aM rfl,fun e he=>?_⟩
   refine ⟨_,rfl,a,_,dx,_,rfl,aI.new he _ _ ha,T.cl_Clerk,T.na_Clerk_entries,aM rfl,rfl,e,fun b u nb hb=>?_,aC,?_,he⟩
   ·rw [aH nb,aH (aK hb he)]; exact hb
   ·rw [aH (na _ he),aC]
  rintro σ G ⟨rfl,e,fr,ka,ke,he⟩
  have back:∀ {x:Addr},G x = none → H x = none:=fun {x} hx=>by
   cases q:H x with
   | none=>rfl
   | some u=>rw [fr x u (fun z=>by rw [z,ka] at hx; cases hx) q] at hx; cases hx
  refine ⟨fun σ G=>σ = [some (.ref a)] ∧ ∃ A:RA,(∀ b u,b ≠ a → H b = some u → G b = some u) ∧ G a = some (.ins c.c_Clerk dx [("entries",.ref e),("results",.ref A.a)]) ∧ G e = some (.lst []) ∧ fj G c.c_Results c.c_Entry A ⟨[],[],[]⟩ ∧ H A.a = none ∧ H A.o1 = none ∧ H A.o2 = none ∧ H A.o3 = none ∧ H A.o4 = none,?_,?_⟩
  ·refine fun x xd hx hxd ndx=>⟨x,xd,rfl,aC,fun A G1 ea ed f1 rs h1 h2 h3 h4=>⟨rfl,?_⟩⟩
   subst ea ed
   have up:∀ {b:Addr},upd (upd G A.dx (.own A.a)) A.a (.ins c.c_Results A.dx []) b = none → G b = none:=fun {b} hb=>by
    have nb:b ≠ A.a:=fun z=>by rw [z,aC] at hb; cases hb
    rw [aH nb] at hb
    have nd:b ≠ A.dx:=fun z=>by rw [z,aC] at hb; cases hb
    rw [aH nd] at hb
    exact hb
   have s1:aI G G1:=fun b u hb=>f1 b u (aK hb hx) (by rw [aH (aK hb hx),aH (aK hb hxd)]; exact hb)
   have ka1:=s1 _ _ ka
   have fin:∀ b u,b ≠ a → G1 b = some u → upd G1 a (.ins c.c_Clerk dx (e6 "results" (V.ref A.a) [("entries",.ref e)])) b = some u:=fun b u nb hb=>by rw [aH nb]; exact hb
   refine ⟨_,rfl,a,_,dx,_,rfl,ka1,T.cl_Clerk,T.na_Clerk_results,aM rfl,rfl,A,fun b u nb hb=>fin b u nb (s1 _ _ (fr b u nb hb)),aC,fin _ _ (na _ he) (s1 _ _ ke),?_,back hx,back (up h1),back (up h2),back (up h3),back (up h4)⟩
   obtain ⟨r1,r2,⟨kn,n1,n2⟩,⟨kr,r3,r4⟩,⟨kh,t1,t2⟩,d1,d2,d3⟩:=rs
   have nka:∀ {b:Addr} {u:HO},G1 b = some u → (∀ C d f,u ≠ .ins C d f) → b ≠ a:=fun hb hu z=>by
    rw [z,ka1] at hb
    exact hu _ _ _ (Option.some.inj hb).symm
   have i1:Paired (h9 (upd G1 a (.ins c.c_Clerk dx (e6 "results" (V.ref A.a) [("entries",.ref e)])))) [] kn:=by cases n2; exact .nil
   have i2:Paired (oX (upd G1 a (.ins c.c_Clerk dx (e6 "results" (V.ref A.a) [("entries",.ref e)]))) c.c_Entry) [] kr:=by cases r4; exact .nil
   have i3:Paired (rF (upd G1 a (.ins c.c_Clerk dx (e6 "results" (V.ref A.a) [("entries",.ref e)]))) c.c_Entry) [] kh:=by cases t2; exact .nil
   exact ⟨fin _ _ (na _ (back hx)) r1,fin _ _ (nka r2 (by intro _ _ _ z; cases z)) r2,⟨kn,fin _ _ (nka n1 (by intro _ _ _ z; cases z)) n1,i1⟩,⟨kr,fin _ _ (nka r3 (by intro _ _ _ z; cases z)) r3,i2⟩,⟨kh,fin _ _ (nka t1 (by intro _ _ _ z; cases z)) t1,i3⟩,d1,d2,d3⟩
  clear fr ka ke back
  rintro σ G ⟨rfl,A,fr,ka,ke,rs,n0,n1,n2,n3,n4⟩
  have back:∀ {x:Addr},G x = none → H x = none:=fun {x} hx=>by
   cases q:H x with
   | none=>rfl
   | some u=>rw [fr x u (fun z=>by rw [z,ka] at hx; cases hx) q] at hx; cases hx
  refine ⟨fun σ G=>σ = [some (.ref a)] ∧ ∃ d,(∀ b u,b ≠ a → H b = some u → G b = some u) ∧ G a = some (.ins c.c_Clerk dx [("entries",.ref e),("results",.ref A.a),("deeds",.ref d)]) ∧ G e = some (.lst []) ∧ G d = some (.lst []) ∧ fj G c.c_Results c.c_Entry A ⟨[],[],[]⟩ ∧ H d = none ∧ e ≠ d,?_,?_⟩
  ·refine ⟨aM rfl,fun d hd=>?_⟩
   have nd:d ≠ a:=na _ (back hd)
   have sd:=aI.new (o:=HO.lst []) hd
   have kd:=aC (H:=G) (a:=d) (o:=.lst [])
   have ned:e ≠ d:=aK ke hd
   generalize upd G d (.lst []) = G1 at sd kd ⊢
   have ka1:=sd _ _ ka
   have fin:∀ b u,b ≠ a → G1 b = some u → upd G1 a (.ins c.c_Clerk dx (e6 "deeds" (V.ref d) [("entries",.ref e),("results",.ref A.a)])) b = some u:=fun b u nb hb=>by rw [aH nb]; exact hb
   refine ⟨_,rfl,a,_,dx,_,rfl,ka1,T.cl_Clerk,T.na_Clerk_deeds,aM rfl,rfl,d,fun b u nb hb=>fin b u nb (sd _ _ (fr b u nb hb)),aC,fin _ _ (na _ he) (sd _ _ ke),fin _ _ nd kd,?_,back hd,ned⟩
   obtain ⟨r1,r2,⟨kn,n1',n2'⟩,⟨kr,r3,r4⟩,⟨kh,t1,t2⟩,d1,d2,d3⟩:=rs
   have nka:∀ {b:Addr} {u:HO},G b = some u → (∀ C d f,u ≠ .ins C d f) → b ≠ a:=fun hb hu z=>by
    rw [z,ka] at hb
    exact hu _ _ _ (Option.some.inj hb).symm
   exact ⟨fin _ _ (na _ n0) (sd _ _ r1),fin _ _ (nka r2 (by intro _ _ _ z; cases z)) (sd _ _ r2),⟨kn,fin _ _ (nka n1' (by intro _ _ _ z; cases z)) (sd _ _ n1'),by cases n2'; exact .nil⟩,⟨kr,fin _ _ (nka r3 (by intro _ _ _ z; cases z)) (sd _ _ r3),by cases r4; exact .nil⟩,⟨kh,fin _ _ (nka t1 (by intro _ _ _ z; cases z)) (sd _ _ t1),by cases t2; exact .nil⟩,d1,d2,d3⟩
  clear fr ka ke rs back
  rintro σ G ⟨rfl,d,fr,ka,ke,kd,rs,hd,ned⟩
  have back:∀ {x:Addr},G x = none → H x = none:=fun {x} hx=>by
   cases q:H x with
   | none=>rfl
   | some u=>rw [fr x u (fun z=>by rw [z,ka] at hx; cases hx) q] at hx; cases hx
  refine ⟨aM rfl,fun p hp=>?_⟩
  have sd:=aI.new (o:=HO.lst []) hp
  have kp:=aC (H:=G) (a:=p) (o:=.lst [])
  have nep:e ≠ p:=aK ke hp
  have ndp:d ≠ p:=aK kd hp
  generalize upd G p (.lst []) = G1 at sd kp ⊢
  have ka1:=sd _ _ ka
  have fin:∀ b u,b ≠ a → G1 b = some u → upd G1 a (.ins c.c_Clerk dx (e6 "piles" (V.ref p) [("entries",.ref e),("results",.ref A.a),("deeds",.ref d)])) b = some u:=fun b u nb hb=>by rw [aH nb]; exact hb
  refine ⟨_,rfl,a,_,dx,_,rfl,ka1,T.cl_Clerk,T.na_Clerk_piles,aM rfl,?_⟩
  obtain ⟨r1,r2,⟨kn,n1',n2'⟩,⟨kr,r3,r4⟩,⟨kh,t1,t2⟩,d1,d2,d3⟩:=rs
  have nka:∀ {b:Addr} {u:HO},G b = some u → (∀ C d f,u ≠ .ins C d f) → b ≠ a:=fun hb hu z=>by
   rw [z,ka] at hb
   exact hu _ _ _ (Option.some.inj hb).symm
  refine k ⟨a,dx,e,d,p,A⟩ _ rfl rfl (fun b u nb hb=>fin b u nb (sd _ _ (fr b u nb hb))) ⟨aC,⟨[],fin _ _ (na _ he) (sd _ _ ke),rfl,fun j v e h=>nomatch h⟩,⟨fin _ _ (na _ n0) (sd _ _ r1),fin _ _ (nka r2 (by intro _ _ _ z; cases z)) (sd _ _ r2),⟨kn,fin _ _ (nka n1' (by intro _ _ _ z; cases z)) (sd _ _ n1'),by cases n2'; exact .nil⟩,⟨kr,fin _ _ (nka r3 (by intro _ _ _ z; cases z)) (sd _ _ r3),by cases r4; exact .nil⟩,⟨kh,fin _ _ (nka t1 (by intro _ _ _ z; cases z)) (sd _ _ t1),by cases t2; exact .nil⟩,d1,d2,d3⟩,fin _ _ (na _ hd) (sd _ _ kd),fin _ _ (na _ (back hp)) kp,ned,nep,ndp⟩ he hd (back hp) n0 n1 n2 n3 n4
set_option maxHeartbeats 4000000 in
theorem fX (T:Txt w K mg c):aw P w K mg base (kO P w) 5 c.a_Clerk_publish c.d_Clerk_publish ["self", "entry"] (qj K c.c_Clerk c.c_Results c.c_Entry c.c_NoEntry c.c_Late):=by
 refine T.Clerk_publish.uz jM (fun vs H Q E h=>?_) (fun cdv A outer s H vs Q E hr h=>?_)
 ·obtain ⟨C,es,v,fa,rfl,_⟩:=h
  rfl
 ·obtain ⟨C,es,v,fa,rfl,cl,okk,nd,l84,h0⟩:=h
  refine ⟨_,(aE (ao (bo (bT (aW br rfl T.no_isinstance aq (aA (pv 1) (aA (cW (v:=.ref c.c_Entry) rfl T.mg_Entry rfl) aD)))))
    (aG (cY T.x_NoEntry rfl rfl T.mg_NoEntry ek (aA aZ aD)))
    aP)
   (aY (ao (PW.pt (eF (nD (ah (pv 0) rfl) (fun _=>rfl)) (dG (bo (bT (ag (sr T) (hr.mono (by decide)) rfl T.ahead.mgf T.ahead.kp T.ahead.bi .nil au (aA (aN aJ (ah (pv 0) rfl) (kP iJ aB) (fun _ _=>rfl)) (aA (pv 1) aD))))))))
    (aG (cY T.x_Late rfl rfl T.mg_Late ek (aA aZ aD)))
    aP)
   (aE (ao (cC (oG (cx hr) (ah (pv 1) rfl) (ah (ah (pv 0) rfl) rfl)))
    (aG (cY T.x_Late rfl rfl T.mg_Late ek (aA aZ aD)))
    aP)
   (aE (cD (gI PySem.F.plainAttrs_list PySem.F.slot_list_append PySem.F.type_list_append (nu.r bu) (ah (pv 0) rfl) (aA (pv 1) aD)))
   (aG (aS (mW (ah (pv 0) rfl) T.cl_Results T.m_Results_put (jv T) (hr.mono (by decide)) T.bi_Results_put .nil au (aA (pv 1) aD)))))))),?_⟩
  have sz:2000 < sizeLine:=aM rfl
  obtain ⟨e,hv,ok1,h0⟩:=h0
  have hv0:=hv
  obtain ⟨a,dx,rfl,ha⟩:=hv
  refine ⟨_,rfl,bK.ins ha T.cl_Entry T.w_Entry T.ws_Entry ⟨_,rfl,bB ?_⟩⟩
  obtain ⟨ws,hW,hE⟩:=cl.ents
  have lw:ws.length = es.length:=hE.1
  have lateK:dB (dD none es) e = false ∨ e.n ∈ es.map (·.n) → ∀ H',aI H H' → E (.ref c.c_Late) none H':=fun hb=>by
   rcases h0 with ⟨z1,z2,_⟩ | ⟨_,k⟩
   ·rcases hb with q | q
    ·rw [z1] at q; cases q
    ·exact absurd q z2
   ·exact k
  refine ⟨fun σ' G'=>σ' = [some (.ref C.a),some (.ref a)] ∧ aI H G' ∧ dB (dD none es) e = true,?_,?_⟩
  ·refine ⟨_,rfl,C.a,_,C.dx,_,_,rfl,cl.at_,T.cl_Clerk,T.na_Clerk_entries,rfl,_,.inl ⟨_,aj.of hW,rfl⟩,?_⟩
   rcases List.eq_nil_or_concat ws with rfl | ⟨us,v,hws⟩
   ·have en:es = []:=List.eq_nil_of_length_eq_zero lw.symm
    refine bB ⟨rfl,aI.refl H,?_⟩
    rw [en]
    rfl
   ·rw [List.concat_eq_append] at hws
    have ene:es ≠ []:=fun z=>by rw [z,hws,List.length_append] at lw; cases lw
    obtain ⟨ps,e0,hes⟩:∃ ps e0,es = ps ++ [e0]:=⟨_,_,(List.dropLast_concat_getLast ene).symm⟩
    have lu:us.length = ps.length:=by
     rw [hws,hes,List.length_append,List.length_append] at lw
     exact Nat.succ.inj lw
    have he0:cG H c.c_Entry v e0:=hE.2 us.length v e0 (by rw [hws]; simp) (by rw [hes,lu]; simp)
    have ee:(!ws.isEmpty) = true:=by rw [hws]; cases us <;> rfl
    have la:dB (dD none es) e = eG e0 e:=by rw [hes,iM]; rfl
    rw [ee]
    refine bV ⟨_,rfl,C.a,_,C.dx,_,_,rfl,cl.at_,T.cl_Clerk,T.na_Clerk_entries,rfl,_,rfl,C.e,_,_,v,rfl,rfl,aj.of hW,by rw [hws]; exact jt _ _,_,rfl,v,.ref a,e0,e,rfl,he0,hv0,fun G' s'=>?_⟩
    rw [← la]
    cases q:dB (dD none es) e with
    | true=>exact ⟨_,rfl,bB ⟨rfl,s',rfl⟩⟩
    | false=>exact ⟨_,rfl,bV ⟨aM rfl,lateK (.inl q) G' s'⟩⟩
  rintro σ G ⟨rfl,sG,hla⟩
  have cl:=cl.same sG
  have ha:=sG _ _ ha
  have hW:=sG _ _ hW
  have hE:=hE.same sG
  have hv0:=hv0.same sG
  have keys:(av es).o.map (·.1) = es.map (·.n):=fY es
  refine ⟨_,rfl,a,_,dx,_,_,rfl,ha,T.cl_Entry,T.na_Entry_number,rfl,_,rfl,C.a,_,C.dx,_,_,rfl,cl.at_,T.cl_Clerk,T.na_Clerk_results,rfl,C.A.a,_,C.A.dx,_,_,rfl,cl.res.at_,T.cl_Results,T.na_Results_outs,rfl,C.A.o1,_,rfl,du.k (k:=Sum.inl e.n) cl.res.outs,?_⟩
  by_cases hin:e.n ∈ es.map (·.n)
  ·rw [uv (by rw [keys]; exact hin)]
   exact ⟨_,rfl,bV ⟨aM rfl,lateK (.inr hin) G sG⟩⟩
  rw [iw (by rw [keys]; exact hin)]
  refine ⟨_,rfl,bB ?_⟩
  clear lateK
  have k:∀ H',vK C H H' → dQ H' c.c_Clerk c.c_Results c.c_Entry C (es ++ [e]) fa → Q (.str (cV (av es) e)) H':=by
   rcases h0 with ⟨_,_,k⟩ | ⟨q | q,_⟩
   ·exact k
   ·rw [hla] at q; cases q
   ·exact absurd q hin
  refine ⟨_,rfl,C.a,_,C.dx,_,_,rfl,cl.at_,T.cl_Clerk,T.na_Clerk_entries,rfl,.inl ⟨rfl,_,aj.of hW⟩,_,rfl,C.e,_,_,rfl,rfl,hW,by omega,?_⟩
  obtain ⟨r1,r2,⟨kn,n1,n2⟩,⟨kr,r3,r4⟩,⟨kh,t1,t2⟩,d1,d2,d3⟩:=cl.res
  have ne1:C.e ≠ C.A.o1:=aX hW r2 (by intro z; cases z)
  have ne2:C.e ≠ C.A.o2:=aX hW n1 (by intro z; cases z)
  have ne3:C.e ≠ C.A.o3:=aX hW r3 (by intro z; cases z)
  have ne4:C.e ≠ C.A.o4:=aX hW t1 (by intro z; cases z)
  have f1:∀ b u,b ≠ C.e → G b = some u → upd G C.e (.lst (ws ++ [.ref a])) b = some u:=fun b u nb hb=>by rw [aH nb]; exact hb
  have g1:upd G C.e (.lst (ws ++ [.ref a])) C.e = some (.lst (ws ++ [.ref a])):=aC
  generalize upd G C.e (.lst (ws ++ [.ref a])) = G1 at f1 g1 ⊢
  have ent:∀ v x,cG G c.c_Entry v x → cG G1 c.c_Entry v x:=fun v x h=>h.keep fun t dx fs ht=>f1 t _ (aX ht hW (by intro z; cases z)) ht
  have rs1:fj G1 c.c_Results c.c_Entry C.A (av es):=⟨f1 _ _ (aX r1 hW (by intro z; cases z)) r1,f1 _ _ ne1.symm r2,⟨kn,f1 _ _ ne2.symm n1,Paired.eJ n2 fun x q z=>⟨z.1,z.2.same fun t xs e=>f1 t _ (aX e hW (by intro z; cases z)) e⟩⟩,⟨kr,f1 _ _ ne3.symm r3,Paired.eJ r4 fun x q z=>⟨z.1,ent _ _ z.2⟩⟩,⟨kh,f1 _ _ ne4.symm t1,Paired.eJ t2 fun x q z=>⟨z.1,ent _ _ z.2⟩⟩,d1,d2,d3⟩
  have rok:kG (av es):=by
   have:=mK okk nd es.length (Nat.le_refl _)
   rw [List.take_of_length_le (Nat.le_refl _)] at this
   exact this
  have lo:(av es).o.length = es.length:=by
   rw [← List.length_map (f:=fun p:Int × Str=>p.1),fY,List.length_map]
  have nka:C.a ≠ C.e:=aX cl.at_ hW (by intro z; cases z)
  refine ⟨_,rfl,C.a,_,C.dx,_,_,rfl,f1 _ _ nka cl.at_,T.cl_Clerk,T.na_Clerk_results,rfl,C.A.a,C.A.dx,_,rfl,rs1.at_,rfl,_,rfl,C.A,av es,.ref a,e,rfl,rs1,rok,ent _ _ hv0,ok1,by rw [keys]; exact hin,by omega,fun G2 fr2 rs2=>?_⟩
  have fc:vK C H G2:=fun b u m0 m1 m2 m3 m4 hb=>fr2 b u m1 m2 m3 m4 (f1 b u m0 (sG _ _ hb))
  have fc1:∀ {b:Addr} {u:HO},b ≠ C.A.o1 → b ≠ C.A.o2 → b ≠ C.A.o3 → b ≠ C.A.o4 → G1 b = some u → G2 b = some u:=fun m1 m2 m3 m4 hb=>fr2 _ _ m1 m2 m3 m4 hb
  have kinds:∀ {b:Addr} {u:HO},G b = some u → (∀ xs,u ≠ .dK xs) → (∀ xs,u ≠ .dT xs) → b ≠ C.A.o1 ∧ b ≠ C.A.o2 ∧ b ≠ C.A.o3 ∧ b ≠ C.A.o4:=fun hb h1 h2=>⟨aX hb r2 (h1 _),aX hb n1 (h1 _),aX hb r3 (h1 _),aX hb t1 (h2 _)⟩
  have lst2:∀ {b:Addr} {xs:List V},b ≠ C.e → G b = some (.lst xs) → G2 b = some (.lst xs):=fun nb hb=>let ⟨q1,q2,q3,q4⟩:=kinds hb (by intro _ z; cases z) (by intro _ z; cases z); fc1 q1 q2 q3 q4 (f1 _ _ nb hb)
  have ins2:∀ {b K dx:Addr} {fs:List (Str × V)},G b = some (.ins K dx fs) → G2 b = some (.ins K dx fs):=fun hb=>let ⟨q1,q2,q3,q4⟩:=kinds hb (by intro _ z; cases z) (by intro _ z; cases z); fc1 q1 q2 q3 q4 (f1 _ _ (aX hb hW (by intro z; cases z)) hb)
  have ent2:∀ v x,cG G c.c_Entry v x → cG G2 c.c_Entry v x:=fun v x h=>h.keep fun t dx fs ht=>ins2 ht
  refine k G2 fc ⟨ins2 cl.at_,⟨ws ++ [.ref a],fc1 ne1 ne2 ne3 ne4 g1,gL ⟨hE.1,fun j v x p q=>ent2 v x (hE.2 j v x p q)⟩ (ent2 _ _ hv0)⟩,by rw [fT]; exact rs2,lst2 cl.ned.symm cl.deeds,lst2 cl.nep.symm cl.piles,cl.ned,cl.nep,cl.ndp⟩
set_option maxHeartbeats 4000000 in
theorem ky (T:Txt w K mg c):aw P w K mg base fD 1 c.a_Clerk_book c.d_Clerk_book ["self"] (uB c.c_Clerk c.c_Results c.c_Entry):=by
 refine T.Clerk_book.ok km (fun vs H Q E h=>?_) (fun cdv A outer s H vs Q E hr h=>?_)
 ·obtain ⟨C,es,fa,rfl,_⟩:=h
  rfl
 ·obtain ⟨C,es,fa,rfl,cl,k⟩:=h
  refine ⟨_,(aG (aS (ft i6 rfl T.no_list mD (aA (ah (pv 0) rfl) aD)))),?_⟩
  obtain ⟨ws,hW,hE⟩:=cl.ents
  exact ⟨_,rfl,C.a,_,C.dx,_,_,rfl,cl.at_,T.cl_Clerk,T.na_Clerk_entries,rfl,C.e,_,rfl,.inl (aj.of hW),fun q hq=>k q ws _ (aI.new hq) hq aC (hE.same (aI.new hq))⟩
set_option maxHeartbeats 4000000 in
theorem fR (T:Txt w K mg c):aw P w K mg base fD 1 c.a_Clerk_acts c.d_Clerk_acts ["self"] (uI c.c_Clerk c.c_Results c.c_Entry):=by
 refine T.Clerk_acts.ok kq (fun vs H Q E h=>?_) (fun cdv A outer s H vs Q E hr h=>?_)
 ·obtain ⟨C,es,fa,rfl,_⟩:=h
  rfl
 ·obtain ⟨C,es,fa,rfl,cl,k⟩:=h
  refine ⟨_,(aG (aS (ft i6 rfl T.no_list mD (aA (ah (pv 0) rfl) aD)))),?_⟩
  exact ⟨_,rfl,C.a,_,C.dx,_,_,rfl,cl.at_,T.cl_Clerk,T.na_Clerk_deeds,rfl,C.d,_,rfl,.inl (aj.of cl.deeds),fun q hq=>k q _ (aI.new hq) hq aC⟩
set_option maxHeartbeats 4000000 in
theorem jf (T:Txt w K mg c):aw P w K mg base (kO P w) 3 c.a_Clerk_enter c.d_Clerk_enter ["self", "act"] (tM K c.c_Clerk c.c_Results c.c_Entry c.c_Act c.c_NoAct):=by
 refine T.Clerk_enter.uz kX (fun vs H Q E h=>?_) (fun cdv A outer s H vs Q E hr h=>?_)
 ·obtain ⟨C,es,fa,ds,th,rfl,_⟩:=h
  rfl
 ·obtain ⟨C,es,fa,ds,th,rfl,cl,hA,lz,h0⟩:=h
  refine ⟨_,(aE (ao (bo (bT (ag (ku T) (hr.mono (by decide)) rfl T.can_follow.mgf T.can_follow.kp T.can_follow.bi .nil au (aA (ah (pv 0) rfl) (aA (ah (pv 0) rfl) (aA (pv 1) aD))))))
    (aG (lO T.x_NoAct (iC T) (hr.mono (by decide)) rfl rfl T.mg_NoAct T.b_NoAct_2 qC (aA aZ (aA (aW ar rfl T.no_len cU (aA (ah (pv 0) rfl) aD)) aD))))
    aP)
   (aG (cD (gI PySem.F.plainAttrs_list PySem.F.slot_list_append PySem.F.type_list_append (nu.r bu) (ah (pv 0) rfl) (aA (pv 1) aD))))),?_⟩
  have sz:2000 < sizeLine:=aM rfl
  refine ⟨_,rfl,C.a,_,C.dx,_,_,rfl,cl.at_,T.cl_Clerk,T.na_Clerk_results,rfl,_,rfl,C.a,_,C.dx,_,_,rfl,cl.at_,T.cl_Clerk,T.na_Clerk_deeds,rfl,_,rfl,C.A,av es,C.d,fa,ds,th,rfl,cl.res,cl.deeds,hA,?_⟩
  rcases h0 with ⟨nb,k⟩ | ⟨x,hx,hf,k⟩
  ·rcases nb with na | ⟨x,hx,hf⟩
   ·refine .inl ⟨na,_,rfl,bV ?_⟩
    exact ⟨_,rfl,C.a,_,C.dx,_,_,rfl,cl.at_,T.cl_Clerk,T.na_Clerk_deeds,rfl,C.d,_,rfl,.inl (aj.of cl.deeds),rfl,aM rfl,pF fun x G sG hx=>k x G sG hx⟩
   ·refine .inr ⟨x,hx,_,rfl,?_⟩
    rw [hf]
    exact bV ⟨_,rfl,C.a,_,C.dx,_,_,rfl,cl.at_,T.cl_Clerk,T.na_Clerk_deeds,rfl,C.d,_,rfl,.inl (aj.of cl.deeds),rfl,aM rfl,pF fun x G sG hx=>k x G sG hx⟩
  ·refine .inr ⟨x,hx,_,rfl,?_⟩
   rw [hf]
   refine bB ?_
   exact ⟨_,rfl,C.a,_,C.dx,_,_,rfl,cl.at_,T.cl_Clerk,T.na_Clerk_deeds,rfl,.inl ⟨rfl,_,aj.of cl.deeds⟩,_,rfl,C.d,_,_,rfl,rfl,cl.deeds,by omega,k _ (fun b u nb hb=>by rw [aH nb]; exact hb) aC⟩
set_option maxHeartbeats 4000000 in
theorem rO (T:Txt w K mg c):mm P w K mg base fD 1 c.a_Lkind c.d_Lkind ["_law_error"] (ug c.c_NoAct):=by
 refine T.Lkind.fn.zp nO (fun vs H Q E h=>?_) (fun cdv A outer s H vs Q E hr h=>?_)
 ·obtain ⟨x,rfl,_⟩:=h
  rfl
 ·obtain ⟨x,rfl,xe,k⟩:=h
  refine ⟨_,(aE (aO (i:=1) nO.nd rfl (Or.inl rfl) (az (aA (aW dz rfl T.no_isinstance aq (aA (pv 0) (aA (cW (v:=.ref c.c_NoEntry) rfl T.mg_NoEntry rfl) aD))) (aA (aW dz rfl T.no_isinstance aq (aA (pv 0) (aA (cW (v:=.ref c.c_Late) rfl T.mg_Late rfl) aD))) (aA (aW dz rfl T.no_isinstance aq (aA (pv 0) (aA (cW (v:=.ref c.c_NoAct) rfl T.mg_NoAct rfl) aD))) aD)))))
   (aG (aS (aL tK (pv 1) (az (aA (aW dz rfl T.no_isinstance aq (aA (pv 0) (aA (cW (v:=.ref c.c_NoSheet) rfl T.mg_NoSheet rfl) aD))) (aA (aW dz rfl T.no_isinstance aq (aA (pv 0) (aA (cW (v:=.ref c.c_NoPath) rfl T.mg_NoPath rfl) aD))) (aA (aW dz rfl T.no_isinstance aq (aA (pv 0) (aA (eT (v:=.ty "ValueError") rfl T.no_ValueError kz rfl) aD))) aD)))))))),?_⟩
  refine ⟨_,rfl,dX.xe xe T.q_NoAct T.i_NoAct_NoEntry ⟨_,rfl,dX.xe xe T.q_NoAct T.i_NoAct_Late ⟨_,rfl,dX.xe xe T.q_NoAct T.i_NoAct_NoAct ?_⟩⟩⟩
  refine ⟨aM rfl,fun p1 hp1=>?_⟩
  have s1:=aI.new (o:=HO.lst [V.bl false,V.bl false,V.bl true]) hp1
  have k1:=aC (H:=H) (a:=p1) (o:=.lst [V.bl false,V.bl false,V.bl true])
  generalize upd H p1 (.lst [V.bl false,V.bl false,V.bl true]) = G1 at s1 k1 ⊢
  have xe:=xe.same s1
  refine ⟨_,rfl,?_⟩
  refine ⟨_,rfl,dX.xe xe T.q_NoAct T.i_NoAct_NoSheet ⟨_,rfl,dX.xe xe T.q_NoAct T.i_NoAct_NoPath ⟨_,rfl,dX.zk xe T.q_NoAct T.i_NoAct_ValueError ?_⟩⟩⟩
  refine ⟨aM rfl,fun p2 hp2=>?_⟩
  have s2:=aI.new (o:=HO.lst [V.bl false,V.bl false,V.bl true]) hp2
  have k2:=aC (H:=G1) (a:=p2) (o:=.lst [V.bl false,V.bl false,V.bl true])
  have k1:=s2 _ _ k1
  generalize upd G1 p2 (.lst [V.bl false,V.bl false,V.bl true]) = G2 at s2 k1 k2 ⊢
  exact ⟨p1,p2,_,_,rfl,rfl,k1,k2,aM rfl,fun q hq=>k q _ (s1.trans (s2.trans (aI.new hq))) aC⟩
set_option maxHeartbeats 4000000 in
theorem gp (T:Txt w K mg c):aw P w K mg base fD 4 c.a_Lenter c.d_Lenter ["_law_clerk", "_law_thing", "_law_place"] (sV K c.c_Clerk c.c_Results c.c_Entry c.c_Act):=by
 refine T.Lenter.fn.ok dc (fun vs H Q E h=>?_) (fun cdv A outer s H vs Q E hr h=>?_)
 ·obtain ⟨C,es,fa,ds,th,rfl,_⟩:=h
  rfl
 ·obtain ⟨C,es,fa,ds,th,rfl,cl,hA,lz,h0⟩:=h
  refine ⟨_,(aE (aO (i:=3) dc.nd rfl (Or.inl rfl) (az aD))
   (aE (aO (i:=4) dc.nd rfl (Or.inl rfl) dg)
   (aY (wz rfl rfl rfl dc.nd (i:=5) rfl rfl rfl T.mg_RightError (fun Ez pins W hp =>
    (aG (aO (i:=4) dc.nd rfl (Or.inl rfl) (ji (pv 0) T.cl_Clerk T.m_Clerk_enter (jf T) (hr.mono (by decide)) T.bi_Clerk_enter .nil hp (aA (pv 1) aD)))))
    (fun e=>(aE (aO (i:=3) dc.nd rfl (Or.inl rfl) (rm (rO T) (hr.mono (show 1 ≤ 3 by decide)).h rfl T.Lkind.mgf T.Lkind.kp T.Lkind.bi .nil au (aA (pv 5) aD)))
   (aG (ao (bT (aW dz rfl T.no_isinstance aq (aA (pv 5) (aA (cW (v:=.ref c.c_NoAct) rfl T.mg_NoAct rfl) aD))))
    (aG (aO (i:=3) dc.nd rfl (Or.inl rfl) (aL tK (pv 3) (az (aA (uo (pv 5) rfl) aD)))))
    aP)))))
   (aE (ao (cC (gC (pv 4)))
    (aG (aS dg))
    aP)
   (aE (ao (aV (iG (mT hr)) (pv 3) (az aD) (aa _))
    (aG (aS dE))
    aP)
   (aE (ao (PW.pt (eN (aV (sy (mT hr)) (pv 3) (az (aA dE (aA dE (aA dE (aA dE (aA dE (aA dE (aA (pv 2) aD)))))))) (aa _)) (d7 (bo (bT (ag (qV T) (hr.mono (by decide)) rfl T.Lwhole.mgf T.Lwhole.kp T.Lwhole.bi .nil au (aA (aN aJ (pv 3) aB (fun _ _=>rfl)) aD)))))))
    (aG (aS dg))
    aP)
   (aG (aS dE)))))))),?_⟩
  have sz:2000 < sizeLine:=aM rfl
  refine ⟨aM rfl,fun p0 hp0=>?_⟩
  have s0:=aI.new (o:=HO.lst []) hp0
  have k0:=aC (H:=H) (a:=p0) (o:=.lst [])
  generalize upd H p0 (.lst []) = G0 at s0 k0 ⊢
  have cl0:=cl.same s0
  have hA0:=hA.same s0
  have nd0:p0 ≠ C.d:=fun z=>by rw [z,cl.deeds] at hp0; cases hp0
  refine ⟨fun σ G=>∃ q xs,σ = [some (.ref C.a),some th,some (.int (fa.length:Int)),some (.ref q),some .ax,none] ∧ G q = some (.lst xs) ∧ ((xs = [] ∧ ∃ x,eM H c.c_Act th x ∧ cN (av es).r ds x = true ∧ (∀ b u,b ≠ C.d → H b = some u → G b = some u) ∧ G C.d = some (.lst (fa ++ [th]))) ∨ (xs = iz ++ [.int (fa.length:Int)] ∧ aI H G ∧ jb K H c.c_Act (av es).r ds th)),?_,?_⟩
  ·refine ⟨fun σ1 X dd H1=>σ1 = [some (.ref C.a),some th,some (.int (fa.length:Int)),some (.ref p0),some .ax,none] ∧ X = .ref c.c_NoAct ∧ aI G0 H1 ∧ jb K H c.c_Act (av es).r ds th ∧ ∃ x,dd = some x ∧ H1 x = some (.xd [("place",.int (fa.length:Int))]),fun pins W=>?_,?_⟩
   ·refine ⟨_,rfl,C.a,C.dx,_,rfl,cl0.at_,rfl,_,rfl,C,es,fa,ds,th,rfl,cl0,hA0,lz,?_⟩
    rcases h0 with ⟨nb,k⟩ | ⟨x,hx,hf,k⟩
    ·refine .inl ⟨nb.imp (fun z=>z.same s0) (fun ⟨x,hx,hf⟩=>⟨x,hx.same s0,hf⟩),fun x G sG hx=>⟨rfl,rfl,sG,nb,x,rfl,hx⟩⟩
    ·exact .inr ⟨x,hx.same s0,hf,fun G fr hd=>⟨p0,[],rfl,fr _ _ nd0 k0,.inl ⟨rfl,x,hx,hf,fun b u nb hb=>fr b u nb (s0 _ _ hb),hd⟩⟩⟩
   ·rintro σ1 X dd H1 ⟨rfl,rfl,sH,nb,dx,rfl,hdx⟩
    refine ⟨T.e_NoAct_RightError,fun e0 he0=>?_⟩
    have xd:XD (upd H1 e0 (pL (.ref c.c_NoAct) (some dx) e0)) e0 c.c_NoAct dx [("place",.int (fa.length:Int))]:=XD.wR hdx he0
    have sx:=s0.trans (sH.trans (aI.new (o:=pL (.ref c.c_NoAct) (some dx) e0) he0))
    generalize upd H1 e0 (pL (.ref c.c_NoAct) (some dx) e0) = G1 at xd sx ⊢
    refine ⟨_,rfl,e0,rfl,.inr ⟨dx,_,xd⟩,fun q G2 s2 hq=>?_⟩
    have xd:=xd.same s2
    refine ⟨_,rfl,dX.xe (.inr ⟨dx,_,xd⟩) T.q_NoAct T.i_NoAct_NoAct ⟨_,rfl,bV ?_⟩⟩
    refine ⟨_,rfl,_,rfl,e0,c.c_NoAct,dx,_,_,rfl,xd,T.q_NoAct,T.hd_NoAct,T.na_NoAct,rfl,aM rfl,fun p2 hp2=>?_⟩
    have s3:=aI.new (o:=HO.lst [V.int (fa.length:Int)]) hp2
    have k3:=aC (H:=G2) (a:=p2) (o:=.lst [V.int (fa.length:Int)])
    have hq3:=s3 _ _ hq
    generalize upd G2 p2 (.lst [V.int (fa.length:Int)]) = G3 at s3 k3 hq3 ⊢
    exact ⟨q,p2,_,_,rfl,rfl,hq3,k3,aM rfl,fun r hr=>⟨r,_,rfl,aC,.inr ⟨rfl,sx.trans (s2.trans (s3.trans (aI.new hr))),nb⟩⟩⟩
  rintro σ G ⟨q,xs,rfl,hq,hxs⟩
  refine ⟨_,rfl,_,rfl,bB ?_⟩
  refine ⟨_,rfl,aM rfl,fun e1 he1=>?_⟩
  have t1:=aI.new (o:=HO.lst []) he1
  have hq1:=t1 _ _ hq
  refine ⟨0,_,by decide,iQ (aj.of hq1) (aj.of aC),_,rfl,?_⟩
  generalize upd G e1 (.lst []) = G2 at t1 hq1 ⊢
  rcases hxs with ⟨rfl,x,hx,hf,fr,hd⟩ | ⟨rfl,sG,nb⟩
  ·refine bV ?_
   rcases h0 with ⟨nb,k⟩ | ⟨x,hx,hf,k⟩
   ·exfalso
    rcases nb with ⟨n,ty,kn⟩ | ⟨y,hy,hn⟩
    ·obtain ⟨a,dx,rfl,ha⟩:=hx
     exact rN ha ty
    ·have e:x = y:=pX hx hy
     rw [e,hn] at hf
     cases hf
   ·exact k _ (fun b u nb hb=>t1 _ _ (fr b u nb hb)) (t1 _ _ hd)
  ·refine bB ?_
   have k:∀ H',aI H H' → Q (.bl false) H':=by
    rcases h0 with ⟨_,k⟩ | ⟨x,hx,hf,_⟩
    ·exact k
    ·exfalso
     rcases nb with ⟨n,ty,kn⟩ | ⟨y,hy,hn⟩
     ·obtain ⟨a,dx,rfl,ha⟩:=hx
      exact rN ha ty
     ·have e:x = y:=pX hx hy
      rw [e,hn] at hf
      cases hf
   refine ⟨_,rfl,_,rfl,aM rfl,fun e2 he2=>?_⟩
   have t2:=t1.trans (aI.new (o:=HO.lst (iz ++ [.int (fa.length:Int)])) he2)
   have hq2:=aI.new (o:=HO.lst (iz ++ [.int (fa.length:Int)])) he2 _ _ hq1
   have hh:=xu (K:=K) hq2 (aC (H:=G2) (a:=e2) (o:=.lst (iz ++ [.int (fa.length:Int)]))) (show (iz ++ [V.int (fa.length:Int)]).all bf = true from rfl)
   refine ⟨0,_,by decide,hh,_,rfl,bB ?_⟩
   refine ⟨_,rfl,q,_,_,_,rfl,rfl,aj.of hq2,aQ (j:=6) rfl,_,rfl,Own.int,_,rfl,bB ?_⟩
   exact k _ (sG.trans t2)
set_option maxHeartbeats 4000000 in
theorem nz (T:Txt w K mg c):aw P w K mg base fD 1 c.a_Lsame c.d_Lsame ["_law_found", "_law_acts"] (vF c.c_Act):=by
 refine T.Lsame.fn.ok sL (fun vs H Q E h=>?_) (fun cdv A outer s H vs Q E hr h=>?_)
 ·obtain ⟨q,fa,ds,l,ls,rfl,_⟩:=h
  rfl
 ·obtain ⟨q,fa,ds,l,ls,rfl,hq,hA,hl,hD,lz,k⟩:=h
  refine ⟨_,(aE (ao (PW.pt (eN (bo (bT (aW br rfl T.no_isinstance aq (aA (pv 0) (aA (eT (v:=.ty "list") rfl T.no_list mD rfl) aD))))) (d7 (aV gQ (aW ar rfl T.no_len cU (aA (pv 0) aD)) (aW ar rfl T.no_len cU (aA (pv 1) aD)) (aa _)))))
    (aG (aS dE))
    aP)
   (aG (aS (cO (iG (mT hr)) (gF (N':=["_law_act"]) (js:=[none]) rfl rfl (by decide +kernel) (by decide +kernel) (fi (by decide +kernel)) (gz rfl rfl) (dF (pv 0)) (fun B=>⟨(bG (i:=0) (show List.Nodup (["_law_act"]:List Str) by decide +kernel) rfl (Or.inl rfl)),fA,(fB (aA (ah (pv 0) rfl) (aA (ah (pv 0) rfl) (aA (ah (pv 0) rfl) aD))))⟩)) (pv 1) (aa _))))),?_⟩
  have sz:2000 < sizeLine:=aM rfl
  have l1:=hA.1
  have l2:=hD.1
  refine ⟨_,rfl,bK.ty (.lst hq) rfl ⟨_,rfl,bB ?_⟩⟩
  refine ⟨_,rfl,q,_,rfl,.inl (aj.of hq),_,rfl,l,_,rfl,.inl (aj.of hl),rfl,_,rfl,?_⟩
  rw [l1,l2,decide_eq_true rfl]
  refine bB ?_
  refine ⟨_,rfl,q,rfl,⟨_,aj.of hq⟩,fun r B hr=>?_⟩
  refine dC (xs:=fa) (fun i σ acc G=>(∃ o,σ = [o]) ∧ aI H G ∧ G r = some (.lst acc) ∧ bN G acc (ds.take i)) (by omega) ?_ ?_ ?_ ?_
  ·exact ⟨⟨_,rfl⟩,aI.new hr,aC,rfl,fun j v x h=>by rw [List.getElem?_nil] at h; cases h⟩
  ·rintro i σ acc G hi ⟨_,sG,h1,h2⟩
   exact ⟨h1,aj.of (sG _ _ hq),by rw [h2.1,List.length_take]; omega⟩
  ·rintro i v σ acc G hx ⟨⟨o,rfl⟩,sG,h1,h2⟩
   have hi:i < fa.length:=(List.getElem?_eq_some_iff.mp hx).1
   have ed:ds[i]? = some ds[i]:=List.getElem?_eq_getElem (by omega)
   obtain ⟨a,dx,rfl,ha⟩:=(hA.2 i v _ hx ed).same sG
   rw [take_one ed]
   generalize ds[i] = x at ha
   refine ⟨_,rfl,a,_,dx,_,_,rfl,ha,T.cl_Act,T.na_Act_day,rfl,_,rfl,a,_,dx,_,_,rfl,ha,T.cl_Act,T.na_Act_deed,rfl,_,rfl,a,_,dx,_,_,rfl,ha,T.cl_Act,T.na_Act_number,rfl,aM rfl,fun t ht=>?_⟩
   have st:=aI.new (o:=HO.tup [.int x.d,.str x.z,.int x.n]) ht
   have kt:=aC (H:=G) (a:=t) (o:=HO.tup [.int x.d,.str x.z,.int x.n])
   have h1':=st _ _ h1
   have h2':=h2.same st
   generalize upd G t (HO.tup [.int x.d,.str x.z,.int x.n]) = G2 at st kt h1' h2' ⊢
   refine ⟨h1',Nx.mk hi ⟨⟨_,rfl⟩,bJ hr (sG.trans st),aC,?_⟩⟩
   refine bN.keep (h2'.push ⟨t,rfl,kt⟩) fun b ys hb=>?_
   rw [aH (aX hb h1' (by intro z; cases z))]
   exact hb
  ·rintro σ acc G ⟨_,sG,h1,h2⟩
   rw [l1,List.take_of_length_le (Nat.le_refl _)] at h2
   exact ⟨_,rfl,1,true,by decide,bN.yv h1 (sG _ _ hl) h2 (hD.same sG),k _ sG⟩
set_option maxHeartbeats 4000000 in
theorem sj (T:Txt w K mg c):aw P w K mg base fD 1 c.a_Lfits c.d_Lfits ["_law_book_here", "_law_known", "_law_act", "_law_last"] (xE):=by
 refine T.Lfits.fn.ok nW (fun vs H Q E h=>?_) (fun cdv A outer s H vs Q E hr h=>?_)
 ·obtain ⟨l,ws,es,t,dw,dn,dr,a,x,m,rfl,_⟩:=h
  rfl
 ·obtain ⟨l,ws,es,t,dw,dn,dr,a,x,m,rfl,hL,hR,okk,nd,l84,ht,hdw,ha,k⟩:=h
  refine ⟨_,(aY (e8 (i:=4) nW.nd rfl rfl (N':=["_law_one_here", "_law_act"]) (js:=[none,some 2]) rfl rfl (by decide +kernel) (by decide +kernel) (gu ["_law_act"] (by decide +kernel) (bh (.inl rfl) eC)) (ix rfl (bh (fun j e=>nomatch e) (bh (fun j e=>by cases e; exact ⟨rfl,rfl,.inl rfl⟩) eC))) (dF (pv 0)) (fun B=>⟨(bG (i:=0) (show List.Nodup (["_law_one_here", "_law_act"]:List Str) by decide +kernel) rfl (Or.inl rfl)),(gU (aV cP (aN aJ (pv 0) aB (fun _ _=>rfl)) (aN fP (pv 1) aB (fun _ _=>rfl)) (aa _))),(pv 0)⟩))
   (aE (ao (PW.pt (eN (aV (iG (mT hr)) (pv 4) (az aD) (aa _)) (eN (aV qF (aN fP (pv 2) aB (fun _ _=>rfl)) (pv 3) (aa _)) (d7 (aV gQ (hV (cx hr) (aN fP (pv 1) aB (fun _ _=>rfl)) (aN fP (pv 2) aB (fun _ _=>rfl)) (fun _ _=>rfl)) aZ (aa _))))))
    (aG (aS dE))
    aP)
   (aG (aS (eE (kS (dA (aN aJ (aN aJ (pv 4) aB (fun _ _=>rfl)) aB (fun _ _=>rfl)))) (et (cO iS (aN aJ (aN aJ (pv 4) aB (fun _ _=>rfl)) aB (fun _ _=>rfl)) (aN fP (pv 2) aB (fun _ _=>rfl)) (aa _)))))))),?_⟩
  have sz:2000 < sizeLine:=aM rfl
  have lw:=hR.1
  have g2:cb (qe x) 2 = some (.int x.n):=aQ (j:=2) rfl
  have g0:cb (qe x) 0 = some (.int x.d):=aQ (j:=0) rfl
  refine ⟨fun σ' G'=>aI H G' ∧ ∃ q acc,σ' = [some (.ref l),some (.ref t),some (.ref a),some (.int m),some (.ref q)] ∧ G' q = some (.lst acc) ∧ ((acc = [] ∧ ∀ e ∈ es,e.n ≠ x.n) ∨ ∃ ra e,acc = [.ref ra] ∧ e ∈ es ∧ e.n = x.n ∧ G' ra = some (.lst (bS e))),?_,?_⟩
  ·refine ⟨_,rfl,l,rfl,⟨_,aj.of hL⟩,fun q B hq=>?_⟩
   refine dC (xs:=ws) (fun i σ acc G=>(∃ o,σ = [o,some (.ref a)]) ∧ aI H G ∧ G q = some (.lst acc) ∧ acc.length ≤ i ∧ ((acc = [] ∧ ∀ e ∈ es.take i,e.n ≠ x.n) ∨ ∃ ra e,acc = [.ref ra] ∧ e ∈ es.take i ∧ e.n = x.n ∧ H ra = some (.lst (bS e)))) (by omega) ?_ ?_ ?_ ?_
   ·exact ⟨⟨_,rfl⟩,aI.new hq,aC,Nat.zero_le _,.inl ⟨rfl,fun e h=>nomatch h⟩⟩
   ·rintro i σ acc G hi ⟨_,sG,h1,h2,_⟩
    exact ⟨h1,aj.of (sG _ _ hL),h2⟩
   ·rintro i v σ acc G hx ⟨⟨o,rfl⟩,sG,h1,h2,h3⟩
    have hi:i < ws.length:=(List.getElem?_eq_some_iff.mp hx).1
    have ee:es[i]? = some es[i]:=List.getElem?_eq_getElem (by omega)
    obtain ⟨ra,rfl,hrow⟩:=hR.2 i v _ hx ee
    have notin:es[i].n ∉ (es.take i).map (·.n):=by
     have nd':=nd
     rw [← List.take_append_drop i es,← List.getElem_cons_drop (show i < es.length by omega),List.map_append,List.map_cons] at nd'
     exact fun h=>(List.nodup_append.mp nd').2.2 _ h _ (List.mem_cons_self ..) rfl
    rw [take_one ee]
    generalize es[i] = e at hrow notin
    have f0:cb (bS e) 0 = some (.int e.n):=aQ (j:=0) rfl
    walk_at "rd"
    refine ⟨ra,_,_,_,rfl,rfl,aj.of (sG _ _ hrow),f0,?_⟩
    walk_at "rd"
    refine ⟨a,_,_,_,rfl,rfl,eX.of (sG _ _ ha),g2,?_⟩
    refine ⟨rfl,_,rfl,?_⟩
    refine cQ (fun z=>?_) (fun z=>?_)
    ·have z:e.n = x.n:=V.int.inj (of_decide_eq_true z)
     rcases h3 with ⟨rfl,_⟩ | ⟨ra',e',rfl,he',hn',_⟩
     ·exact ⟨_,rfl,h1,Nx.mk hi ⟨⟨_,rfl⟩,bJ hq sG,aC,by show 1 ≤ i + 1; omega,.inr ⟨ra,e,rfl,List.mem_append_right _ (List.mem_singleton.mpr rfl),z,hrow⟩⟩⟩
     ·exact absurd (by rw [z,← hn']; exact List.mem_map_of_mem (f:=fun e:En=>e.n) he') notin
    ·have z:e.n ≠ x.n:=fun q=>z (by rw [q]; exact decide_eq_true rfl)
     refine Nx.mk hi ⟨⟨_,rfl⟩,sG,h1,by omega,?_⟩
     rcases h3 with ⟨rfl,h⟩ | ⟨ra',e',rfl,he',hn',hr'⟩
     ·refine .inl ⟨rfl,fun y hy=>?_⟩
      rcases List.mem_append.mp hy with q | q
      ·exact h y q
      ·rw [List.mem_singleton.mp q]; exact z
     ·exact .inr ⟨ra',e',rfl,List.mem_append_left _ he',hn',hr'⟩
   ·rintro σ acc G ⟨_,sG,h1,h2,h3⟩
    rw [lw,List.take_of_length_le (Nat.le_refl _)] at h3
    refine ⟨sG,q,acc,rfl,h1,?_⟩
    rcases h3 with h | ⟨ra',e',e1,e2,e3,e4⟩
    ·exact .inl h
    ·exact .inr ⟨ra',e',e1,e2,e3,sG _ _ e4⟩
  rintro σ' G1 ⟨s1,q,acc,rfl,hq,hS⟩
  refine ⟨_,rfl,aM rfl,fun q0 hq0=>?_⟩
  have t0:=aI.new (o:=HO.lst []) hq0
  have hq1:=t0 _ _ hq
  refine ⟨0,_,by decide,iQ (aj.of hq1) (aj.of aC),_,rfl,?_⟩
  have s02:=s1.trans t0
  rcases hS with ⟨rfl,hno⟩ | ⟨ra,e,rfl,he,hn,hrow⟩
  ·refine bV ?_
   have kk:=k _ s02
   unfold eR at kk
   rw [jF hno,Bool.and_false] at kk
   exact kk
  refine bB ?_
  have hrow:=t0 _ _ hrow
  generalize upd G1 q0 (.lst []) = G2 at s02 hq1 hrow ⊢
  refine ⟨_,rfl,a,_,_,_,rfl,rfl,eX.of (s02 _ _ ha),g0,_,rfl,_,_,rfl,rfl,_,rfl,?_⟩
  refine cQ (fun z=>?_) (fun z=>?_)
  ·have z:=of_decide_eq_true z
   have kk:=k _ s02
   rw [decide_eq_false (by omega),Bool.false_and] at kk
   exact kk
  have z:m ≤ x.d:=by
   have:¬ x.d < m:=fun w=>z (decide_eq_true w)
   omega
  obtain ⟨o,ho,hoo⟩:=pj okk nd he
  rw [hn] at ho hoo
  have kk:=k _ s02
  rw [decide_eq_true z,Bool.true_and] at kk
  unfold eR at kk
  refine ⟨_,rfl,t,_,_,_,rfl,rfl,eX.of (s02 _ _ ht),aQ (j:=0) rfl,_,rfl,a,_,_,_,rfl,rfl,eX.of (s02 _ _ ha),g2,dw,.str o,rfl,?_,rfl,_,rfl,?_⟩
  ·rw [← ho]
   exact du.k (k:=Sum.inl x.n) (s02 _ _ hdw)
  rcases hoo with ⟨rfl,y,hy,rfl⟩ | ⟨hne,hnone⟩
  ·refine yG (by decide) ?_
   rw [hy] at kk
   have kk:Q (.bl (decide (y.e.b = none) && decide (y.e.d ≤ x.d))) G2:=kk
   have f6:cb (bS y.e) 6 = some (cH y.e.b):=aQ (j:=6) rfl
   have f1:cb (bS y.e) 1 = some (.int y.e.d):=aQ (j:=1) rfl
   refine ⟨_,rfl,q,_,_,_,rfl,rfl,aj.of hq1,aQ (j:=0) rfl,ra,_,_,_,rfl,rfl,aj.of hrow,f6,_,rfl,?_⟩
   cases hb:y.e.b with
   | some b=>rw [hb] at kk; exact bB kk
   | none =>
    rw [hb] at kk
    exact bV ⟨_,rfl,q,_,_,_,rfl,rfl,aj.of hq1,aQ (j:=0) rfl,ra,_,_,_,rfl,rfl,aj.of hrow,f1,_,rfl,a,_,_,_,rfl,rfl,eX.of (s02 _ _ ha),g0,_,_,rfl,rfl,kk⟩
  ·refine xR ?_ ?_
   ·rw [decide_eq_false (fun z=>hne (V.str.inj z))]
    rfl
   ·rw [hnone] at kk
    exact kk
set_option maxHeartbeats 4000000 in
theorem og (T:Txt w K mg c):aw P w K mg base fD 1 c.a_Lnumber c.d_Lnumber ["_law_book_here", "_law_known", "_law_number_here", "_law_mixed_here"] (sQ):=by
 refine T.Lnumber.fn.ok iN (fun vs H Q E h=>?_) (fun cdv A outer s H vs Q E hr h=>?_)
 ·obtain ⟨l,ws,es,t,dw,dn,dr,n,m,rfl,_⟩:=h
  rfl
 ·obtain ⟨l,ws,es,t,dw,dn,dr,n,m,rfl,hL,hR,okk,nd,l84,ne,bnd,ht,hdw,n1,n2,k⟩:=h
  refine ⟨_,(aY (e8 (i:=4) iN.nd rfl rfl (N':=["_law_one_here", "_law_known"]) (js:=[none,some 1]) rfl rfl (by decide +kernel) (by decide +kernel) (gu ["_law_known"] (by decide +kernel) (bh (.inl rfl) eC)) (ix rfl (bh (fun j e=>nomatch e) (bh (fun j e=>by cases e; exact ⟨rfl,rfl,.inl rfl⟩) eC))) (dF (pv 0)) (fun B=>⟨(bG (i:=0) (show List.Nodup (["_law_one_here", "_law_known"]:List Str) by decide +kernel) rfl (Or.inl rfl)),(gU (PW.pt (eF (aV cP (hV (cx hr) (aN fP (pv 1) aB (fun _ _=>rfl)) (aN aJ (pv 0) aB (fun _ _=>rfl)) (fun _ _=>rfl)) aZ (aa _)) (dG (cC (dA (aN aJ (pv 0) aB (fun _ _=>rfl)))))))),(aN aJ (pv 0) aB (fun _ _=>rfl))⟩))
   (aE (aO (i:=5) iN.nd rfl (Or.inl rfl) (aL ak (pv 3) aB))
   (aE (ao (aV cP (pv 5) aB (aa _))
    (aG (aS (pv 2)))
    aP)
   (aE (ao (PW.pt (eN (aV cP (pv 5) aB (aa _)) (d7 (aV (iG (mT hr)) (pv 4) (az aD) (aa _)))))
    (aG (aS (aN aJ (aN aJ (pv 0) (aL ak (aL bA (pv 3) aB) (aW ar rfl T.no_len cU (aA (pv 0) aD))) (fun _ _=>rfl)) aB (fun _ _=>rfl))))
    aP)
   (aG (aS (aN aJ (pv 4) (aL ak (aL bA (pv 3) aB) (aW ar rfl T.no_len cU (aA (pv 4) aD))) (fun _ _=>rfl)))))))),?_⟩
  have sz:2000 < sizeLine:=aM rfl
  have lw:=hR.1
  refine ⟨fun σ' G'=>aI H G' ∧ ∃ q,∃ ns:List Int,σ' = [some (.ref l),some (.ref t),some (.int n),some (.int m),some (.ref q),none] ∧ G' q = some (.lst (ns.map V.int)) ∧ ∀ z ∈ ns,1 ≤ z ∧ z ≤ 1000000000,?_,?_⟩
  ·refine ⟨_,rfl,l,rfl,⟨_,aj.of hL⟩,fun q B hq=>?_⟩
   refine dC (xs:=ws) (fun i σ acc G=>(∃ o,σ = [o,some (.ref t)]) ∧ aI H G ∧ G q = some (.lst acc) ∧ acc.length ≤ i ∧ ∃ ns:List Int,acc = ns.map V.int ∧ ∀ z ∈ ns,1 ≤ z ∧ z ≤ 1000000000) (by omega) ?_ ?_ ?_ ?_
   ·exact ⟨⟨_,rfl⟩,aI.new hq,aC,Nat.zero_le _,[],rfl,fun z h=>nomatch h⟩
   ·rintro i σ acc G hi ⟨_,sG,h1,h2,_⟩
    exact ⟨h1,aj.of (sG _ _ hL),h2⟩
   ·rintro i v σ acc G hx ⟨⟨o,rfl⟩,sG,h1,h2,ns,rfl,h3⟩
    have hi:i < ws.length:=(List.getElem?_eq_some_iff.mp hx).1
    have ee:es[i]? = some es[i]:=List.getElem?_eq_getElem (by omega)
    obtain ⟨ra,rfl,hrow⟩:=hR.2 i v _ hx ee
    have em:=List.mem_of_getElem? ee
    generalize es[i] = e at hrow em
    have hrow:=sG _ _ hrow
    have f0:cb (bS e) 0 = some (.int e.n):=aQ (j:=0) rfl
    have f6:cb (bS e) 6 = some (cH e.b):=aQ (j:=6) rfl
    obtain ⟨o',ho,_⟩:=pj okk nd em
    have no:Nx ws.length i ((∃ o',[some (V.ref ra),some (V.ref t)] = [o',some (V.ref t)]) ∧ aI H G ∧ G q = some (.lst (ns.map V.int)) ∧ (ns.map V.int).length ≤ i + 1 ∧ ∃ ns':List Int,ns.map V.int = ns'.map V.int ∧ ∀ z ∈ ns',1 ≤ z ∧ z ≤ 1000000000):=Nx.mk hi ⟨⟨_,rfl⟩,sG,h1,by omega,ns,rfl,h3⟩
    refine ⟨_,rfl,t,_,_,_,rfl,rfl,eX.of (sG _ _ ht),aQ (j:=0) rfl,_,rfl,ra,_,_,_,rfl,rfl,aj.of hrow,f0,dw,.str o',rfl,?_,rfl,_,rfl,?_⟩
    ·rw [← ho]
     exact du.k (k:=Sum.inl e.n) (sG _ _ hdw)
    refine cQ (fun _=>?_) (fun _=>no)
    refine ⟨_,rfl,ra,_,_,_,rfl,rfl,aj.of hrow,f6,_,rfl,?_⟩
    refine gG (fun _=>?_) (fun _=>no)
    refine ⟨_,rfl,ra,_,_,_,rfl,rfl,aj.of hrow,f0,h1,Nx.mk hi ⟨⟨_,rfl⟩,bJ hq sG,aC,by rw [List.length_append]; exact Nat.add_le_add_right h2 1,ns ++ [e.n],by rw [List.map_append]; rfl,fun z hz=>?_⟩⟩
    rcases List.mem_append.mp hz with q' | q'
    ·exact h3 z q'
    ·rw [List.mem_singleton.mp q']; exact bnd e em
   ·rintro σ acc G ⟨_,sG,h1,h2,ns,rfl,h3⟩
    exact ⟨sG,q,ns,rfl,h1,h3⟩
  rintro σ' G1 ⟨s1,q,ns,rfl,hq,hS⟩
  have wp:0 < ws.length:=by rw [lw]; exact List.length_pos_iff.mpr ne
  have book:∀ G,aI H G → ∃ ra e,cb ws (m / 6 % (ws.length:Int)) = some (.ref ra) ∧ G ra = some (.lst (bS e)) ∧ 1 ≤ e.n ∧ e.n ≤ 1000000000:=fun G sG=>by
   obtain ⟨j,y,hj,hy,hb,_⟩:=tV (xs:=ws) (i:=m / 6 % (ws.length:Int)) (Int.emod_nonneg _ (by omega)) (Int.emod_lt_of_pos _ (by omega))
   have ee:es[j]? = some es[j]:=List.getElem?_eq_getElem (by omega)
   obtain ⟨ra,rfl,hrow⟩:=hR.2 j y _ hy ee
   obtain ⟨b1,b2⟩:=bnd _ (List.mem_of_getElem? ee)
   exact ⟨ra,_,hb,sG _ _ hrow,b1,b2⟩
  walk_at "rd"
  refine cQ (fun _=>?_) (fun _=>?_)
  ·exact ⟨_,rfl,k _ _ s1 n1 n2⟩
  walk_at "rd"
  have ret:∀ G,aI H G → ∃ ra e,cb ws (m / 6 % (ws.length:Int)) = some (.ref ra) ∧ aj K G ra (bS e) ∧ cb (bS e) 0 = some (.int e.n) ∧ Q (.int e.n) G:=fun G sG=>by
   obtain ⟨ra,e,h1,h2,h3,h4⟩:=book G sG
   exact ⟨ra,e,h1,aj.of h2,aQ (j:=0) rfl,k _ _ sG h3 h4⟩
  refine cQ (fun _=>bV ?_) (fun _=>?_)
  ·obtain ⟨ra,e,r1,r2,r3,r4⟩:=ret _ s1
   walk_at "rd"
   refine ⟨l,_,rfl,.inl (aj.of (s1 _ _ hL)),?_⟩
   walk_at "rd"
   refine ⟨by show (0:Int) < ws.length; omega,?_⟩
   refine ⟨l,_,_,_,rfl,rfl,aj.of (s1 _ _ hL),r1,?_⟩
   walk_at "rd"
   exact ⟨ra,_,_,_,rfl,rfl,r2,r3,r4⟩
  refine ⟨_,rfl,aM rfl,fun q0 hq0=>?_⟩
  have t0:=aI.new (o:=HO.lst []) hq0
  have hq1:=t0 _ _ hq
  refine ⟨0,_,by decide,iQ (aj.of hq1) (aj.of aC),_,rfl,?_⟩
  have s02:=s1.trans t0
  generalize upd G1 q0 (.lst []) = G2 at s02 hq1 ⊢
  refine gG (fun _=>?_) (fun he=>?_)
  ·obtain ⟨ra,e,r1,r2,r3,r4⟩:=ret _ s02
   walk_at "rd"
   refine ⟨l,_,rfl,.inl (aj.of (s02 _ _ hL)),?_⟩
   walk_at "rd"
   refine ⟨by show (0:Int) < ws.length; omega,?_⟩
   refine ⟨l,_,_,_,rfl,rfl,aj.of (s02 _ _ hL),r1,?_⟩
   walk_at "rd"
   exact ⟨ra,_,_,_,rfl,rfl,r2,r3,r4⟩
  have lm:(ns.map V.int).length = ns.length:=List.length_map ..
  have np:0 < ns.length:=by
   cases ns with
   | nil=>exact absurd he (by decide)
   | cons _ _=>exact Nat.succ_pos _
  walk_at "rd"
  refine ⟨q,_,rfl,.inl (aj.of hq1),?_⟩
  walk_at "rd"
  refine ⟨by show (0:Int) < (ns.map V.int).length; omega,?_⟩
  obtain ⟨y,hy,hmy⟩:=dH (xs:=ns.map V.int) (i:=m / 6 % ((ns.map V.int).length:Int)) (Int.emod_nonneg _ (by omega)) (Int.emod_lt_of_pos _ (by omega))
  obtain ⟨z,hz,rfl⟩:=List.mem_map.mp hmy
  exact ⟨q,_,_,_,rfl,rfl,aj.of hq1,hy,k _ _ s02 (hS z hz).1 (hS z hz).2⟩
set_option maxHeartbeats 4000000 in
theorem uy (T:Txt w K mg c):aw P w K mg base fD 6 c.a_Lone c.d_Lone ["_law_clerk", "_law_book_here", "_law_entry_here", "_law_acts", "_law_mixed_here"] (wb c.c_Clerk c.c_Results c.c_Entry c.c_Act):=by
 refine T.Lone.fn.ok eB (fun vs H Q E h=>?_) (fun cdv A outer s H vs Q E hr h=>?_)
 ·obtain ⟨C,es,fa,ds,l,ws,en,e0,ac,as,m,G2,rfl,_⟩:=h
  rfl
 ·obtain ⟨C,es,fa,ds,l,ws,en,e0,ac,as,m,G2,rfl,cl,hA,lf,s2,f1,f2,hL,nl1,nl2,hR,okk,nd,l84,ne,bnd,hen,e01,e02,hac,hD,rise,na1,na2,na3,hm,k⟩:=h
  refine ⟨_,(aE (aO (i:=5) eB.nd rfl (Or.inl rfl) (ag (o6 T) (hr.mono (by decide)) rfl T.Lsieved.mgf T.Lsieved.kp T.Lsieved.bi .nil au (aA (pv 1) aD)))
   (aY (aO (i:=6) eB.nd rfl (Or.inl rfl) (uV rfl rfl T.no_max pA (aA (gF (N':=["_law_act"]) (js:=[none]) rfl rfl (by decide +kernel) (by decide +kernel) (fi (by decide +kernel)) (gz rfl rfl) (dF (pv 3)) (fun B=>⟨(bG (i:=0) (show List.Nodup (["_law_act"]:List Str) by decide +kernel) rfl (Or.inl rfl)),fA,(aN fP (pv 0) aB (fun _ _=>rfl))⟩)) aD) (ui aB jL)))
   (aE (aO (i:=7) eB.nd rfl (Or.inl rfl) (aL ak (aL bA (pv 4) aB) aB))
   (aE (aO (i:=8) eB.nd rfl (Or.inl rfl) (aL bH (aW (lF rfl) rfl T.no_max pA (aA (pv 6) (aA (aN aJ (aN aJ (pv 1) (kP iJ aB) (fun _ _=>rfl)) aB (fun _ _=>rfl)) aD))) (aN aJ (az (aA aB (aA aB (aA (pv 7) (aA (aL rD aB (pv 7)) aD))))) (aL ak (pv 4) aB) (fun _ _=>rfl))))
   (aY (aO (i:=8) eB.nd rfl (Or.inl rfl) (aW (lF rfl) rfl T.no_max pA (aA aB (aA (aW (jG rfl) rfl T.no_min o9 (aA (aL d6 aB aB) (aA (pv 8) aD))) aD))))
   (aE (aO (i:=9) eB.nd rfl (Or.inl rfl) (ag (og T) (hr.mono (by decide)) rfl T.Lnumber.mgf T.Lnumber.kp T.Lnumber.bi .nil au (aA (pv 1) (aA (pv 5) (aA (aN aJ (pv 2) aB (fun _ _=>rfl)) (aA (aL ak (aL dU (pv 4) aB) aB) aD))))))
   (aE (aO (i:=10) eB.nd rfl (Or.inl rfl) (fB (aA (pv 8) (aA (aN aJ (az (aA aZ (aA aZ (aA aZ aD)))) (aL ak (aL bA (pv 4) aB) aB) (fun _ _=>rfl)) (aA (pv 9) aD)))))
   (aY (aO (i:=11) eB.nd rfl (Or.inl rfl) (ag (gp T) (hr.mono (by decide)) rfl T.Lenter.mgf T.Lenter.kp T.Lenter.bi .nil au (aA (pv 0) (aA (gW T.mk_Act (gP T) (hr.mono (by decide)) rfl T.mg_Act T.b_Act_3 gD (aA (aN fP (pv 10) aB (fun _ _=>rfl)) (aA (aN fP (pv 10) aB (fun _ _=>rfl)) (aA (aN fP (pv 10) aB (fun _ _=>rfl)) aD))) jL) (aA (aW ar rfl T.no_len cU (aA (pv 3) aD)) aD)))))
   (aE (ao (PW.pt (eN (cC (dA (pv 11))) (d7 (aV gQ (pv 11) (ag (sj T) (hr.mono (by decide)) rfl T.Lfits.mgf T.Lfits.kp T.Lfits.bi .nil au (aA (pv 1) (aA (pv 5) (aA (pv 10) (aA (pv 6) aD))))) (aa _)))))
    (aG (aS dE))
    aP)
   (aY (ao (bT (pv 11))
    (aG (cD (gI PySem.F.plainAttrs_list PySem.F.slot_list_append PySem.F.type_list_append (nu.r bu) (pv 3) (aA (pv 10) aD))))
    aP)
   (aY (aO (i:=12) eB.nd rfl (Or.inl rfl) (aN aJ (az (aA dg (aA (fB (aA aB (aA aZ (aA aB aD)))) (aA (az aD) (aA aZ aD))))) (aL ak (aL bA (pv 4) aB) aB) (fun _ _=>rfl)))
   (aG (aS (eE (cO rj (ag (gp T) (hr.mono (by decide)) rfl T.Lenter.mgf T.Lenter.kp T.Lenter.bi .nil au (aA (pv 0) (aA (pv 12) (aA (aW ar rfl T.no_len cU (aA (pv 3) aD)) aD)))) dE (aa _)) (et (ag (nz T) (hr.mono (by decide)) rfl T.Lsame.mgf T.Lsame.kp T.Lsame.bi .nil au (aA (iY (pv 0) T.cl_Clerk T.m_Clerk_acts (fR T) (hr.mono (by decide)) T.bi_Clerk_acts .nil au) (aA (pv 3) aD)))))))))))))))))),?_⟩
  have sz:2000 < sizeLine:=aM rfl
  have lw:=hR.1
  have la:=hA.1
  have ld:=hD.1
  refine ⟨_,rfl,l,ws,es,rfl,hL,hR.same s2,okk,nd,l84,fun t dw dn dr kn kr G1 s1 _ _ _ _ _ ht kdw _ _ _ _=>?_⟩
  refine ⟨fun σ G=>aI H G ∧ ∃ mx:Int,σ = [some (.ref C.a),some (.ref l),some (.ref en),some (.ref ac),some (.int m),some (.ref t),some (.int mx),none,none,none,none,none,none] ∧ G t = some (.tup [.ref dw,.ref dn,.ref dr]) ∧ G dw = some (.dK (ba (av es))) ∧ (ds = [] → mx = 1) ∧ (ds ≠ [] → mx ∈ ds.map (·.d) ∧ ∀ z ∈ ds.map (·.d),z ≤ mx),?_,?_⟩
  ·refine ⟨_,rfl,ac,rfl,⟨_,aj.of (s1 _ _ hac)⟩,fun q B hq=>?_⟩
   refine dC (xs:=as) (fun i σ acc G=>(∃ o,σ = [o]) ∧ aI G1 G ∧ G q = some (.lst acc) ∧ acc = ((ds.take i).map (·.d)).map V.int) (by omega) ?_ ?_ ?_ ?_
   ·exact ⟨⟨_,rfl⟩,aI.new hq,aC,rfl⟩
   ·rintro i σ acc G hi ⟨_,sG,h1,rfl⟩
    exact ⟨h1,aj.of (sG _ _ (s1 _ _ hac)),by rw [List.length_map,List.length_map,List.length_take]; omega⟩
   ·rintro i v σ acc G hx ⟨⟨o,rfl⟩,sG,h1,rfl⟩
    have hi:i < as.length:=(List.getElem?_eq_some_iff.mp hx).1
    have ed:ds[i]? = some ds[i]:=List.getElem?_eq_getElem (by omega)
    obtain ⟨ta,rfl,hta⟩:=hD.2 i v _ hx ed
    have g0:cb (qe ds[i]) 0 = some (.int ds[i].d):=aQ (j:=0) rfl
    refine ⟨_,rfl,ta,_,_,_,rfl,rfl,eX.of ((s1.trans sG) _ _ hta),g0,h1,Nx.mk hi ⟨⟨_,rfl⟩,bJ hq sG,aC,?_⟩⟩
    rw [take_one ed,List.map_append,List.map_append]
    rfl
   ·rintro σ acc G ⟨_,sG,h1,rfl⟩
    rw [ld,List.take_of_length_le (Nat.le_refl _)] at h1
    exact ⟨q,_,1,rfl,rfl,aj.of h1,fun e=>⟨s1.trans sG,1,rfl,sG _ _ ht,sG _ _ kdw,fun _=>rfl,fun h=>absurd (List.map_eq_nil_iff.mp e) h⟩,fun z hz hle=>⟨s1.trans sG,z,rfl,sG _ _ ht,sG _ _ kdw,(fun e=>by rw [e] at hz; cases hz),fun _=>⟨hz,hle⟩⟩⟩
  clear ht kdw s1
  rintro σ G1 ⟨s1,mx,rfl,ht,kdw,m1,m2⟩
  obtain ⟨eL,raL,_,emL,hatL,hraL⟩:=(hR.same s2).last (fun z=>ne (List.eq_nil_of_length_eq_zero (by rw [← lw,z]; rfl)))
  have fL:cb (bS eL) 1 = some (.int eL.d):=aQ (j:=1) rfl
  walk_at "rd"
  refine ⟨l,_,_,_,rfl,rfl,aj.of (s1 _ _ hL),hatL,?_⟩
  walk_at "rd"
  refine ⟨raL,_,_,_,rfl,rfl,aj.of (s1 _ _ hraL),fL,?_⟩
  walk_at "rd"
  refine ⟨aM rfl,fun p1 hp1=>?_⟩
  have t1:=aI.new (o:=HO.lst [V.int 0,.int 1,.int (m / 6 % 3000),.int (0 - m / 6 % 3000)]) hp1
  have kp1:=aC (H:=G1) (a:=p1) (o:=HO.lst [V.int 0,.int 1,.int (m / 6 % 3000),.int (0 - m / 6 % 3000)])
  walk_at "rd"
  obtain ⟨pv,hpv,hpm⟩:=dH (xs:=[V.int 0,.int 1,.int (m / 6 % 3000),.int (0 - m / 6 % 3000)]) (i:=m % 4) (Int.emod_nonneg _ (by decide)) (by show _ < (4:Int); exact Int.emod_lt_of_pos _ (by decide))
  obtain ⟨pi,rfl⟩:∃ i,pv = .int i:=by
   simp only [List.mem_cons,List.not_mem_nil,or_false] at hpm
   rcases hpm with rfl | rfl | rfl | rfl <;> exact ⟨_,rfl⟩
  refine ⟨p1,_,_,_,rfl,rfl,aj.of kp1,hpv,?_⟩
  have s3:=s1.trans t1
  have ht3:=t1 _ _ ht
  have kdw3:=t1 _ _ kdw
  generalize upd G1 p1 (HO.lst [V.int 0,.int 1,.int (m / 6 % 3000),.int (0 - m / 6 % 3000)]) = G3 at s3 ht3 kdw3 ⊢
  walk_at "rd"
  refine ⟨fun σ G=>G3 = G ∧ ∃ far day:Int,σ = [some (.ref C.a),some (.ref l),some (.ref en),some (.ref ac),some (.int m),some (.ref t),some (.int mx),some (.int far),some (.int day),none,none,none,none] ∧ 1 ≤ day ∧ day ≤ 1000000,?_,?_⟩
  ·walk_at "rd"
   have cp:=clamp (M:=(10:Int) ^ Int.toNat 6) (d:=(if eL.d > mx then eL.d else mx) + pi) (by decide)
   exact ⟨cp.1,cp.2⟩
  rintro σ G ⟨rfl,far,day,rfl,dy1,dy2⟩
  have f0:cb (bS e0) 0 = some (.int e0.n):=aQ (j:=0) rfl
  walk_at "rd"
  refine ⟨en,_,_,_,rfl,rfl,aj.of ((s2.trans s3) _ _ hen),f0,?_⟩
  walk_at "rd"
  refine ⟨l,ws,es,t,dw,.ref dn,.ref dr,e0.n,_,rfl,s3 _ _ hL,hR.same (s2.trans s3),okk,nd,l84,ne,bnd,ht3,kdw3,e01,e02,fun r G4 s4 r1 r2=>?_⟩
  walk_at "rd"
  refine ⟨aM rfl,fun p2 hp2=>?_⟩
  have t4:=aI.new (o:=HO.lst [V.str (Str.ofString "keep"),.str (Str.ofString "strike"),.str (Str.ofString "leave")]) hp2
  have kp2:=aC (H:=G4) (a:=p2) (o:=HO.lst [V.str (Str.ofString "keep"),.str (Str.ofString "strike"),.str (Str.ofString "leave")])
  walk_at "rd"
  obtain ⟨zv,hzv,hzm⟩:=dH (xs:=[V.str (Str.ofString "keep"),.str (Str.ofString "strike"),.str (Str.ofString "leave")]) (i:=m / 4 % 3) (Int.emod_nonneg _ (by decide)) (by show _ < (3:Int); exact Int.emod_lt_of_pos _ (by decide))
  obtain ⟨z,rfl,hz⟩:∃ z,zv = .str z ∧ gE (.str z) = true:=by
   simp only [List.mem_cons,List.not_mem_nil,or_false] at hzm
   rcases hzm with rfl | rfl | rfl <;> exact ⟨_,rfl,by decide +kernel⟩
  refine ⟨p2,_,_,_,rfl,rfl,aj.of kp2,hzv,?_⟩
  have s5:=s3.trans (s4.trans t4)
  have ht5:=t4 _ _ (s4 _ _ ht3)
  have kdw5:=t4 _ _ (s4 _ _ kdw3)
  generalize upd G4 p2 (HO.lst [V.str (Str.ofString "keep"),.str (Str.ofString "strike"),.str (Str.ofString "leave")]) = G5 at s5 ht5 kdw5 ⊢
  refine ⟨_,rfl,aM rfl,fun ta hta=>?_⟩
  obtain ⟨x,hx⟩:∃ x:Dd,x = ⟨day,z,r⟩:=⟨_,rfl⟩
  have t5:=aI.new (o:=HO.tup [.int day,.str z,.int r]) hta
  have kta:upd G5 ta (HO.tup [.int day,.str z,.int r]) ta = some (.tup (qe x)):=by rw [aC,hx]; rfl
  have s6:=s5.trans t5
  have ht6:=t5 _ _ ht5
  have kdw6:=t5 _ _ kdw5
  generalize upd G5 ta (HO.tup [.int day,.str z,.int r]) = G6 at s6 ht6 kdw6 kta ⊢
  clear ht kdw ht3 kdw3 ht5 kdw5 s5 s3 s1 t5 kp2 kp1 t4 t1 hp1 hp2 hta s4
  have hxd:inR 1000000 (.int x.d) = true:=by rw [hx]; exact cX dy1 dy2
  have hxz:gE (.str x.z) = true:=by rw [hx]; exact hz
  have hxn:inR 1000000000 (.int x.n) = true:=by rw [hx]; exact cX r1 r2
  have hx1:1 ≤ x.d ∧ x.d ≤ 1000000:=by rw [hx]; exact ⟨dy1,dy2⟩
  have g0:cb (qe x) 0 = some (.int x.d):=aQ (j:=0) rfl
  have g1:cb (qe x) 1 = some (.str x.z):=aQ (j:=1) rfl
  have g2:cb (qe x) 2 = some (.int x.n):=aQ (j:=2) rfl
  have lastE:=rise.last m1 m2 hx1.1
  refine ⟨fun σ G=>vX C ac H G ∧ ∃ (b:Bool) (fb:List V) (ds':List Dd),σ = [some (.ref C.a),some (.ref l),some (.ref en),some (.ref ac),some (.int m),some (.ref t),some (.int mx),some (.int far),some (.int day),some (.int r),some (.ref ta),some (.bl b),none] ∧ b = cN (av es).r ds x ∧ dQ G c.c_Clerk c.c_Results c.c_Entry C es fb ∧ bj G c.c_Act fb ds' ∧ ds' = (if b = true then ds ++ [x] else ds) ∧ fb.length ≤ fa.length + 1 ∧ G ta = some (.tup (qe x)) ∧ G t = some (.tup [.ref dw,.ref dn,.ref dr]) ∧ G dw = some (.dK (ba (av es))) ∧ G ac = some (.lst as) ∧ G l = some (.lst ws),?_,?_⟩
  ·refine ⟨_,rfl,_,rfl,ta,_,_,_,rfl,rfl,eX.of kta,g0,_,rfl,ta,_,_,_,rfl,rfl,eX.of kta,g1,_,rfl,ta,_,_,_,rfl,rfl,eX.of kta,g2,rfl,rfl,fun y dy hy hdy ndy=>?_⟩
   refine ⟨y,dy,.int x.d,.str x.z,.int x.n,rfl,aC,Own.int,Own.str,Own.int,fun h=>absurd (hxd.symm.trans h) (by decide),fun _ h=>absurd (hxz.symm.trans h) (by decide),fun _ _ h=>absurd (hxn.symm.trans h) (by decide),fun _ _ _ G7 f7 hy7=>⟨rfl,?_⟩⟩
   have s67:aI G6 G7:=fun b u hb=>f7 b u (aK hb hy) (by rw [aH (aK hb hy),aH (aK hb hdy)]; exact hb)
   have s7:=s6.trans s67
   have hact:eM G7 c.c_Act (.ref y) x:=⟨y,dy,rfl,hy7⟩
   have cl7:=cl.same s7
   have hA7:=hA.same s7
   have ht7:=s67 _ _ ht6
   have kdw7:=s67 _ _ kdw6
   have kta7:=s67 _ _ kta
   have hac7:=s7 _ _ hac
   have hL7:=s7 _ _ hL
   refine ⟨_,rfl,ac,_,rfl,.inl (aj.of hac7),C,es,fa,ds,.ref y,by rw [show as.length = fa.length by omega] <;> rfl,cl7,hA7,by omega,?_⟩
   cases hf:cN (av es).r ds x with
   | false=>exact .inl ⟨.inr ⟨x,hact,hf⟩,fun G8 s8=>⟨fun b u _ _ hb=>s8 _ _ (s7 _ _ hb),false,fa,ds,rfl,rfl,cl7.same s8,hA7.same s8,by rw [if_neg (by decide)],by omega,s8 _ _ kta7,s8 _ _ ht7,s8 _ _ kdw7,s8 _ _ hac7,s8 _ _ hL7⟩⟩
   | true =>
    refine .inr ⟨x,hact,hf,fun G8 fr8 hd8=>?_⟩
    have ins8:∀ b K dx fs,G7 b = some (.ins K dx fs) → G8 b = some (.ins K dx fs):=fun b K dx fs hb=>fr8 _ _ (aX hb cl7.deeds (by intro z; cases z)) hb
    refine ⟨fun b u n1 _ hb=>fr8 _ _ n1 (s7 _ _ hb),true,fa ++ [.ref y],ds ++ [x],rfl,rfl,cl7.deed fr8 hd8,(hA7.keep ins8).push ⟨y,dy,rfl,ins8 _ _ _ _ hy7⟩,by rw [if_pos rfl],by rw [List.length_append]; exact Nat.le_refl _,fr8 _ _ (aX kta7 cl7.deeds (by intro z; cases z)) kta7,fr8 _ _ (aX ht7 cl7.deeds (by intro z; cases z)) ht7,fr8 _ _ (aX kdw7 cl7.deeds (by intro z; cases z)) kdw7,fr8 _ _ na1 hac7,fr8 _ _ nl1 hL7⟩
  clear kta ht6 kdw6 s6
  rintro σ G ⟨fr,b,fb,ds',rfl,hb,clb,hAb,hds,lfb,hta,ht,hdw,hacb,hLb⟩
  refine ⟨_,rfl,_,rfl,bB ?_⟩
  refine ⟨_,rfl,_,rfl,_,rfl,_,rfl,_,rfl,l,ws,es,t,dw,.ref dn,.ref dr,ta,x,mx,rfl,hLb,hR.same (fr.old s2 f1 f2),okk,nd,l84,ht,hdw,hta,fun G' s'=>?_⟩
  have eb:(decide (mx ≤ x.d) && eR (av es).r x) = b:=by
   rw [hb,← lastE]
   rfl
  rw [eb]
  refine ⟨rfl,_,rfl,?_⟩
  rw [decide_eq_true rfl]
  refine bB ?_
  have fr:=fr.same s'
  have clb:=clb.same s'
  have hAb:=hAb.same s'
  have hta:=s' _ _ hta
  have hacb:=s' _ _ hacb
  have hDb:=hD.keep (H':=G') fun b ys hb=>fr b _ (aX hb cl.deeds (by intro z; cases z)) (aX hb hac (by intro z; cases z)) hb
  clear ht hdw hLb s'
  refine ⟨fun σ G=>vX C ac H G ∧ ∃ as',σ = [some (.ref C.a),some (.ref l),some (.ref en),some (.ref ac),some (.int m),some (.ref t),some (.int mx),some (.int far),some (.int day),some (.int r),some (.ref ta),some (.bl b),none] ∧ dQ G c.c_Clerk c.c_Results c.c_Entry C es fb ∧ bj G c.c_Act fb ds' ∧ G ac = some (.lst as') ∧ bN G as' ds' ∧ gX ds',?_,?_⟩
  ·cases b with
   | false =>
    rw [if_neg (by decide)] at hds
    exact ⟨_,rfl,_,rfl,bB ⟨fr,as,rfl,clb,hAb,hacb,by rw [hds]; exact hDb,by rw [hds]; exact rise⟩⟩
   | true =>
    rw [if_pos rfl] at hds
    refine ⟨_,rfl,_,rfl,bV ?_⟩
    refine ⟨_,rfl,.inl ⟨rfl,_,aj.of hacb⟩,_,rfl,ac,_,_,rfl,rfl,hacb,by omega,?_⟩
    have fa2:∀ b u,b ≠ ac → G' b = some u → upd G' ac (.lst (as ++ [.ref ta])) b = some u:=fun b u nb hb=>by rw [aH nb]; exact hb
    have lo:cq ds x = true:=by
     have:=hb.symm
     unfold cN at this
     rw [Bool.and_eq_true] at this
     exact this.1
    refine ⟨fun b u n1 n2 hb=>fa2 _ _ n2 (fr b u n1 n2 hb),_,rfl,clb.move hacb na2 na3 fa2 (fa2 _ _ na1.symm clb.deeds),hAb.keep (fun b K dx fs hb=>fa2 _ _ (aX hb hacb (by intro z; cases z)) hb),aC,?_,by rw [hds]; exact rise.push lo hx1.1 hx1.2⟩
    rw [hds]
    exact (hDb.push ⟨ta,rfl,hta⟩).keep fun b ys hb=>fa2 _ _ (aX hb hacb (by intro z; cases z)) hb
  clear hacb hDb hta clb hAb fr
  rintro σ G ⟨fr,as',rfl,clb,hAb,hacb,hDb,riseb⟩
  have lab:=hAb.1
  have ldb:=hDb.1
  refine ⟨fun σ G'=>aI G G' ∧ ∃ v n,σ = [some (.ref C.a),some (.ref l),some (.ref en),some (.ref ac),some (.int m),some (.ref t),some (.int mx),some (.int far),some (.int day),some (.int r),some (.ref ta),some (.bl b),some v] ∧ dZ K G' v (.type n) ∧ W.kitOne K (.type n) (.ref c.c_Act) = some false,?_,?_⟩
  ·refine ⟨aM rfl,fun p1 hp1=>?_⟩
   have s1:=aI.new (o:=HO.tup [V.int 1,.str (Str.ofString "keep"),.int 1]) hp1
   have k1:=aC (H:=G) (a:=p1) (o:=.tup [V.int 1,.str (Str.ofString "keep"),.int 1])
   generalize upd G p1 (.tup [V.int 1,.str (Str.ofString "keep"),.int 1]) = G1 at s1 k1 ⊢
   refine ⟨aM rfl,fun p2 hp2=>?_⟩
   have s2':=aI.new (o:=HO.lst []) hp2
   have k2:=aC (H:=G1) (a:=p2) (o:=.lst [])
   have k1:=s2' _ _ k1
   generalize upd G1 p2 (.lst []) = G2' at s2' k1 k2 ⊢
   refine ⟨aM rfl,fun p3 hp3=>?_⟩
   have s3:=aI.new (o:=HO.lst [V.ax,.ref p1,.ref p2,.str (Str.ofString "act")]) hp3
   have k3:=aC (H:=G2') (a:=p3) (o:=.lst [V.ax,.ref p1,.ref p2,.str (Str.ofString "act")])
   have k1:=s3 _ _ k1
   have k2:=s3 _ _ k2
   generalize upd G2' p3 (.lst [V.ax,.ref p1,.ref p2,.str (Str.ofString "act")]) = G3' at s3 k1 k2 k3 ⊢
   walk_at "rd"
   obtain ⟨y,hy,hym⟩:=dH (xs:=[V.ax,.ref p1,.ref p2,.str (Str.ofString "act")]) (i:=m / 11 % 4) (Int.emod_nonneg _ (by decide)) (by show _ < (4:Int); exact Int.emod_lt_of_pos _ (by decide))
   refine ⟨p3,_,_,y,rfl,rfl,aj.of k3,hy,s1.trans (s2'.trans s3),y,?_⟩
   simp only [List.mem_cons,List.not_mem_nil,or_false] at hym
   rcases hym with rfl | rfl | rfl | rfl
   ·exact ⟨_,rfl,.ax,T.wn_Act_NoneType⟩
   ·exact ⟨_,rfl,.tup k1,T.wn_Act_tuple⟩
   ·exact ⟨_,rfl,.lst k2,T.wn_Act_list⟩
   ·exact ⟨_,rfl,.str _,T.wn_Act_str⟩
  rintro σ G' ⟨sG,v,n,rfl,ty,hn⟩
  refine ⟨_,rfl,_,rfl,_,rfl,ac,_,rfl,.inl (aj.of (sG _ _ hacb)),C,es,fb,ds',v,by rw [show as'.length = fb.length by omega] <;> rfl,clb.same sG,hAb.same sG,by omega,.inl ⟨.inl ⟨n,ty,hn⟩,fun G8 s8=>?_⟩⟩
  have s8:=sG.trans s8
  have clb8:=clb.same s8
  refine ⟨_,rfl,_,rfl,bV ?_⟩
  refine ⟨_,rfl,C.a,C.dx,_,rfl,clb8.at_,rfl,C,es,fb,rfl,clb8,fun q G9 s9 hq hq9=>?_⟩
  have s9:=s8.trans s9
  refine ⟨_,rfl,q,fb,ds',ac,as',rfl,hq9,hAb.same s9,s9 _ _ hacb,hDb.same s9,by omega,fun Gl sl=>?_⟩
  have sl:=s9.trans sl
  exact k fb ds' as' Gl (fr.same sl) (clb.same sl) (hAb.same sl) (sl _ _ hacb) (hDb.same sl) riseb lfb
set_option maxHeartbeats 4000000 in
theorem xH (T:Txt w K mg c):aw P w K mg base fD 7 c.a_law c.d_law ["_law_script"] (se K):=by
 refine T.law.fn.ok dI (fun vs H Q E h=>?_) (fun cdv A outer s H vs Q E hr h=>?_)
 ·obtain ⟨a,ns,rfl,_⟩:=h
  rfl
 ·obtain ⟨a,ns,rfl,hS,hn,k⟩:=h
  refine ⟨_,(aE (aO (i:=1) dI.nd rfl (Or.inl rfl) (n5 pS (ag (tD T) (hr.mono (by decide)) rfl T.Lbook.mgf T.Lbook.kp T.Lbook.bi .nil au (aA (pv 0) (aA aB aD))) pZ (qI aB)))
   (aE (aO (i:=2) dI.nd rfl (Or.inl rfl) (ag (sR T) (hr.mono (by decide)) rfl T.Lmade.mgf T.Lmade.kp T.Lmade.bi .nil au (aA (pv 1) aD)))
   (aE (aO (i:=3) dI.nd rfl (Or.inl rfl) (nH T.mk_Clerk (kj T) (hr.mono (by decide)) rfl T.mg_Clerk T.bi_Clerk_init .nil au))
   (aE (aO (i:=4) dI.nd rfl (Or.inl rfl) (az aD))
   (aY (fN PassesOwn.never rfl (dO rfl T.no_range (aA (aW ar rfl T.no_len cU (aA (pv 1) aD)) aD)) (bG (i:=5) dI.nd rfl (Or.inl rfl))
    (aE (cD (ji (pv 3) T.cl_Clerk T.m_Clerk_publish (fX T) (hr.mono (by decide)) T.bi_Clerk_publish .nil gD (aA (aN aJ (pv 2) (pv 5) (fun _ _=>rfl)) aD)))
   (aG (fN PassesOwn.never rfl (dO rfl T.no_range (aA (aL bH aB (aL ak (pv 5) aB)) aD)) (bG (i:=6) dI.nd rfl (Or.inl rfl))
    (aE (aO (i:=7) dI.nd rfl (Or.inl rfl) (ag (lT T) (hr.mono (by decide)) rfl T.Lmixed.mgf T.Lmixed.kp T.Lmixed.bi .nil au (aA (ag (gT T) (hr.mono (by decide)) rfl T.Lcell_at.mgf T.Lcell_at.kp T.Lcell_at.bi .nil au (aA (pv 0) (aA (aL bH (pv 5) aB) aD))) (aA (aL bH (aL bH aB (aL dU aB (pv 5))) (pv 6)) aD))))
   (aG (ao (bo (bT (ag (uy T) (hr.mono (by decide)) rfl T.Lone.mgf T.Lone.kp T.Lone.bi .nil au (aA (pv 3) (aA (n5 pS (pv 1) pZ (qI (aL bH (pv 5) aB))) (aA (aN aJ (pv 1) (aW (jG rfl) rfl T.no_min o9 (aA (aL bH (pv 5) aB) (aA (aL rD (aW ar rfl T.no_len cU (aA (pv 1) aD)) aB) aD))) (fun _ _=>rfl)) (aA (pv 4) (aA (pv 7) aD))))))))
    (aG (aS dE))
    aP)))))))
   (aE (aO (i:=8) dI.nd rfl (Or.inl rfl) (iY (pv 3) T.cl_Clerk T.m_Clerk_acts (fR T) (hr.mono (by decide)) T.bi_Clerk_acts .nil au))
   (aE (cD (gI PySem.F.plainAttrs_list PySem.F.slot_list_append PySem.F.type_list_append (nu.r bu) (pv 8) (aA dg aD)))
   (aE (ao (PW.pt (eN (bo (bT (ag (nz T) (hr.mono (by decide)) rfl T.Lsame.mgf T.Lsame.kp T.Lsame.bi .nil au (aA (iY (pv 3) T.cl_Clerk T.m_Clerk_acts (fR T) (hr.mono (by decide)) T.bi_Clerk_acts .nil au) (aA (pv 4) aD))))) (d7 (aV gQ (aW ar rfl T.no_len cU (aA (iY (pv 3) T.cl_Clerk T.m_Clerk_book (ky T) (hr.mono (by decide)) T.bi_Clerk_book .nil au) aD)) (aW ar rfl T.no_len cU (aA (pv 1) aD)) (aa _)))))
    (aG (aS dE))
    aP)
   (aE (aO (i:=9) dI.nd rfl (Or.inl rfl) aB)
   (aY (nF PassesOwn.never (aV gs (pv 9) (gF (N':=["_law_one_here"]) (js:=[none]) rfl rfl (by decide +kernel) (by decide +kernel) (fi (by decide +kernel)) (gz rfl rfl) (dF (pv 1)) (fun B=>⟨(bG (i:=0) (show List.Nodup (["_law_one_here"]:List Str) by decide +kernel) rfl (Or.inl rfl)),fA,(aN aJ (pv 0) aB (fun _ _=>rfl))⟩)) (by with_unfolding_all rfl))
    (aG (aO (i:=9) dI.nd rfl (Or.inl rfl) (aL bH (pv 9) aB))))
   (aE (ao (aV qJ (ag (gp T) (hr.mono (by decide)) rfl T.Lenter.mgf T.Lenter.kp T.Lenter.bi .nil au (aA (pv 3) (aA (gW T.mk_Act (gP T) (hr.mono (by decide)) rfl T.mg_Act T.b_Act_3 gD (aA (aL d6 aB aB) (aA aZ (aA (pv 9) aD))) jL) (aA (aW ar rfl T.no_len cU (aA (pv 4) aD)) aD)))) dE (aa _))
    (aG (aS dE))
    aP)
   (aE (aO (i:=10) dI.nd rfl (Or.inr rfl) aZ)
   (aY (aO (i:=11) dI.nd rfl (Or.inr rfl) (gF (N':=["_law_one_here"]) (js:=[none]) rfl rfl (by decide +kernel) (by decide +kernel) (fi (by decide +kernel)) (gz rfl rfl) (dF (pv 1)) (fun B=>⟨(bG (i:=0) (show List.Nodup (["_law_one_here"]:List Str) by decide +kernel) rfl (Or.inl rfl)),fA,(aN aJ (pv 0) aB (fun _ _=>rfl))⟩)))
   (aY (e8 (i:=12) dI.nd rfl rfl (N':=["_law_k", "_law_letters"]) (js:=[none,some 10]) rfl rfl (by decide +kernel) (by decide +kernel) (gu ["_law_letters"] (by decide +kernel) (bh (.inl rfl) eC)) (ix rfl (bh (fun j e=>nomatch e) (bh (fun j e=>by cases e; exact ⟨rfl,rfl,.inl rfl⟩) eC))) (dO rfl T.no_range (aA aB aD)) (fun B=>⟨(bG (i:=0) (show List.Nodup (["_law_k", "_law_letters"]:List Str) by decide +kernel) rfl (Or.inl rfl)),fA,(aL iI (aL iI aZ (aN mP (pv 1) (aL bA (pv 0) aB) (fun _ _=>rfl))) (aN mP (pv 1) (aL ak (pv 0) aB) (fun _ _=>rfl)))⟩))
   (aY (aO (i:=13) dI.nd rfl (Or.inl rfl) (aN aJ (gF (N':=["_law_one_here", "_law_used"]) (js:=[none,some 11]) rfl rfl (by decide +kernel) (by decide +kernel) (gu ["_law_used"] (by decide +kernel) (bh (.inl rfl) eC)) (ix rfl (bh (fun j e=>nomatch e) (bh (fun j e=>by cases e; exact ⟨rfl,rfl,.inl rfl⟩) eC))) (dF (pv 12)) (fun B=>⟨(bG (i:=0) (show List.Nodup (["_law_one_here", "_law_used"]:List Str) by decide +kernel) rfl (Or.inl rfl)),(gU (aV mX (pv 0) (pv 1) (by with_unfolding_all rfl))),(pv 0)⟩)) aB (fun _ _=>rfl)))
   (aE (cD (ji (pv 3) T.cl_Clerk T.m_Clerk_publish (fX T) (hr.mono (by decide)) T.bi_Clerk_publish .nil gD (aA (gW T.mk_Entry (iB T) (hr.mono (by decide)) rfl T.mg_Entry T.b_Entry_6 gD (aA (pv 9) (aA (aL d6 aB aB) (aA aZ (aA (pv 13) (aA dg (aA aB aD)))))) jL) aD)))
   (aG (aS (cO rj (ag (gp T) (hr.mono (by decide)) rfl T.Lenter.mgf T.Lenter.kp T.Lenter.bi .nil au (aA (pv 3) (aA (gW T.mk_Act (gP T) (hr.mono (by decide)) rfl T.mg_Act T.b_Act_3 gD (aA (aL d6 aB aB) (aA aZ (aA (pv 9) aD))) jL) (aA (aW ar rfl T.no_len cU (aA (pv 4) aD)) aD)))) dE (aa _)))))))))))))))))))),?_⟩
  have sz:2000 < sizeLine:=aM rfl
  refine ⟨_,rfl,a,2,ns,rfl,by decide,by decide,hS,hn,fun l0 ws0 es0 G0 s0 hL0 hR0 hB h64=>?_⟩
  refine ⟨_,rfl,l0,_,rfl,aj.of hL0,fun l hl=>?_⟩
  have c60:lB ws0 none (some 40) = ws0.take 40:=uL ws0 40
  rw [c60]
  have t1:=aI.new (o:=HO.lst (ws0.take 40)) hl
  have hL:=aC (H:=G0) (a:=l) (o:=.lst (ws0.take 40))
  have hR:=(hR0.take 40).same t1
  have s1:=s0.trans t1
  generalize upd G0 l (.lst (ws0.take 40)) = G1 at t1 hL hR s1 ⊢
  obtain ⟨es,hes⟩:∃ es,es = es0.take 40:=⟨_,rfl⟩
  obtain ⟨ws,hws⟩:∃ ws,ws = ws0.take 40:=⟨_,rfl⟩
  rw [← hes,← hws] at hR
  rw [← hws] at hL
  have l60:es.length ≤ 40:=by rw [hes,List.length_take]; omega
  have mem0:∀ e ∈ es,e ∈ es0:=fun e he=>List.mem_of_mem_take (by rw [← hes]; exact he)
  have l84:=hB.le
  have okk:∀ e ∈ es,iE e:=fun e he=>hB.ok e (mem0 e he)
  have bnd:∀ e ∈ es,1 ≤ e.n ∧ e.n ≤ 1000000000:=fun e he=>by
   have:=hB.nn e (mem0 e he)
   exact ⟨by omega,by omega⟩
  have bdd:∀ e ∈ es,e.d < 1000000:=fun e he=>by
   have:=hB.dd e (mem0 e he)
   omega
  have nd:(es.map (·.n)).Nodup:=by
   rw [hes,List.map_take]
   exact (pb hB.bk).1.sublist (List.take_sublist _ _)
  have pw:es.Pairwise (fun x y=>eG x y = true):=by
   rw [hes]
   exact (oE hB.bk).1.sublist (List.take_sublist _ _)
  clear hB c60 hR0 hL0 hl t1 hes hws mem0 l84
  have lw:=hR.1
  refine ⟨_,rfl,l,ws,es,rfl,hL,hR,okk,by omega,fun q acc G2 s2 fq hq hE=>?_⟩
  have hL:=s2 _ _ hL
  have hR:=hR.same s2
  have s2:=s1.trans s2
  have lac:acc.length = es.length:=hE.1
  refine fun x dx hx hdx ndx=>⟨x,dx,rfl,aC,fun C G3 ea ed f1 cl h1 h2 h3 h4 h5 h6 h7 h8=>⟨rfl,?_⟩⟩
  subst ea ed
  have up3:∀ {b:Addr},upd (upd G2 C.dx (.own C.a)) C.a (.ins c.c_Clerk C.dx []) b = none → G2 b = none:=fun {b} hb=>by
   have nb:b ≠ C.a:=fun z=>by rw [z,aC] at hb; cases hb
   rw [aH nb] at hb
   have nd:b ≠ C.dx:=fun z=>by rw [z,aC] at hb; cases hb
   rw [aH nd] at hb
   exact hb
  have s3:aI G2 G3:=fun b u hb=>f1 b u (aK hb hx) (by rw [aH (aK hb hx),aH (aK hb hdx)]; exact hb)
  have fr3:vc G2 C:=⟨hx,up3 h1,up3 h2,up3 h3,up3 h4,up3 h5,up3 h6,up3 h7,up3 h8⟩
  clear f1 up3 h1 h2 h3 h4 h5 h6 h7 h8 hx hdx ndx
  refine ⟨aM rfl,fun o ho=>?_⟩
  have na1:o ≠ C.d:=fun z=>by rw [z,cl.deeds] at ho; cases ho
  have na3:o ≠ C.p:=fun z=>by rw [z,cl.piles] at ho; cases ho
  have na2:o ≠ C.e:=fun z=>by obtain ⟨ws,w1,_⟩:=cl.ents; rw [z,w1] at ho; cases ho
  have t5:=aI.new (o:=HO.lst []) ho
  have ko:=aC (H:=G3) (a:=o) (o:=.lst [])
  have cl:=cl.same t5
  have fo:G2 o = none:=s3.free ho
  have s25:=s3.trans t5
  generalize upd G3 o (.lst []) = G5 at t5 ko cl s25 ⊢
  clear s3 t5 ho
  refine ⟨fun σ G=>aI G2 G ∧ ∃ fa ds as z5 z6 z7,σ = [some (.ref a),some (.ref l),some (.ref q),some (.ref C.a),some (.ref o),z5,z6,z7,none,none,none,none,none,none] ∧ dQ G c.c_Clerk c.c_Results c.c_Entry C es fa ∧ bj G c.c_Act fa ds ∧ G o = some (.lst as) ∧ bN G as ds ∧ gX ds ∧ fa.length ≤ 100,?_,?_⟩
  ·refine ⟨_,rfl,l,_,rfl,.inl (aj.of (s25 _ _ hL)),?_⟩
   walk_at "rd"
   refine ⟨by omega,by omega,?_⟩
   refine dJ (n:=ws.length) (lo:=0) (fun i σ G=>aI G2 G ∧ ∃ fa ds as z5 z6 z7,σ = [some (.ref a),some (.ref l),some (.ref q),some (.ref C.a),some (.ref o),z5,z6,z7,none,none,none,none,none,none] ∧ dQ G c.c_Clerk c.c_Results c.c_Entry C (es.take i) fa ∧ bj G c.c_Act fa ds ∧ G o = some (.lst as) ∧ bN G as ds ∧ gX ds ∧ fa.length ≤ 2 * i) ?_ ?_ ?_
   ·exact ⟨s25,[],[],[],_,_,_,rfl,cl,⟨rfl,fun j v x h=>nomatch h⟩,ko,⟨rfl,fun j v x h=>nomatch h⟩,⟨.nil,fun x h=>nomatch h⟩,Nat.le_refl _⟩
   ·rintro i σ G hi ⟨sG,fa,ds,as,z5,z6,z7,rfl,cl,hA,ko,hD,rise,lfa⟩
    have hie:i < es.length:=by omega
    have ee:es[i]? = some es[i]:=List.getElem?_eq_getElem hie
    have lti:(es.take i).length = i:=by rw [List.length_take]; omega
    have okT:∀ e ∈ es.take i,iE e:=fun e he=>okk e (List.mem_of_mem_take he)
    have ndT:((es.take i).map (·.n)).Nodup:=by rw [List.map_take]; exact nd.sublist (List.take_sublist _ _)
    obtain ⟨en,hen⟩:∃ en,acc[i]? = some en:=⟨_,List.getElem?_eq_getElem (by omega)⟩
    have hent:=hE.2 i en _ hen ee
    have ok1:=okk _ (List.getElem_mem hie)
    have fol:=uf pw hie (List.Sublist.refl (es.take i))
    have newT:=w9 nd hie (List.Sublist.refl (es.take i))
    have tk:es.take (i + 1) = es.take i ++ [es[i]]:=take_one ee
    have nd1:((es.take (i + 1)).map (·.n)).Nodup:=by rw [List.map_take]; exact nd.sublist (List.take_sublist _ _)
    have ok2:∀ e ∈ es.take (i + 1),iE e:=fun e he=>okk e (List.mem_of_mem_take he)
    have bnd1:∀ e ∈ es.take (i + 1),1 ≤ e.n ∧ e.n ≤ 1000000000:=fun e he=>bnd e (List.mem_of_mem_take he)
    have ne1:es.take (i + 1) ≠ []:=by rw [tk]; exact List.append_ne_nil_of_right_ne_nil _ (by intro z; cases z)
    have lt1:(es.take (i + 1)).length ≤ 84:=by rw [List.length_take]; omega
    generalize es[i] = e at hent ok1 fol newT tk
    have hen':cb acc (0 + (i:Int)) = some en:=by rw [Int.zero_add]; exact aQ hen
    have cw1:lB ws none (some (0 + (i:Int) + 1)) = ws.take (i + 1):=by
     have:=rp ws (i + 1) (by omega)
     rw [Int.natCast_add,← Int.add_assoc] at this
     exact this
    refine ⟨_,rfl,C.a,C.dx,_,rfl,cl.at_,rfl,_,rfl,_,rfl,q,_,_,en,rfl,rfl,aj.of (sG _ _ hq),hen',C,es.take i,en,fa,rfl,cl,okT,ndT,by omega,e,hent.same sG,ok1,.inl ⟨fol,newT,fun Gf ff cl'=>?_⟩⟩
    have sG':=ff.new fr3 sG
    have hA':=hA.keep fun b K dx fs hb=>cl.ins ff hb
    have hD':=hD.keep fun b ys hb=>cl.tup ff hb
    have ko':=cl.lst ff na2 ko
    rw [← tk] at cl'
    clear cl hA hD ko ff sG hent ok1 fol newT hen hen' okT ndT en
    walk_at "rd"
    refine ⟨by omega,by omega,?_⟩
    refine dJ (n:=(1 + (0 + (i:Int)) % 2).toNat) (lo:=0) (fun j σ G=>aI G2 G ∧ ∃ fa ds as z6 z7,σ = [some (.ref a),some (.ref l),some (.ref q),some (.ref C.a),some (.ref o),some (.int (0 + (i:Int))),z6,z7,none,none,none,none,none,none] ∧ dQ G c.c_Clerk c.c_Results c.c_Entry C (es.take (i + 1)) fa ∧ bj G c.c_Act fa ds ∧ G o = some (.lst as) ∧ bN G as ds ∧ gX ds ∧ fa.length ≤ 2 * i + j) ?_ ?_ ?_
    ·exact ⟨sG',fa,ds,as,_,_,rfl,cl',hA',ko',hD',rise,by omega⟩
    ·rintro j σ G hj ⟨sG,fa,ds,as,z6,z7,rfl,cl,hA,ko,hD,rise,lfa⟩
     walk_at "rd"
     refine ⟨a,_,ns,rfl,by omega,(s2.trans sG).seq hS,fun cc=>?_⟩
     walk_at "rd"
     refine ⟨by omega,by omega,fun mx m0 m1=>?_⟩
     walk_at "rd"
     refine ⟨l,_,rfl,aj.of (sG _ _ hL),fun p1 hp1=>?_⟩
     rw [cw1]
     have u1:=aI.new (o:=HO.lst (ws.take (i + 1))) hp1
     have k1:=aC (H:=G) (a:=p1) (o:=.lst (ws.take (i + 1)))
     have np1:p1 ≠ C.d:=fun z=>by rw [z,cl.deeds] at hp1; cases hp1
     have np2:p1 ≠ o:=fun z=>by rw [z,ko] at hp1; cases hp1
     generalize upd G p1 (.lst (ws.take (i + 1))) = Ga at u1 k1 ⊢
     have sa:=sG.trans u1
     walk_at "rd"
     refine ⟨l,_,rfl,.inl (aj.of (sa _ _ hL)),?_⟩
     walk_at "rd"
     obtain ⟨j',y,hj',hy,hb',_⟩:=tV (xs:=ws) (i:=if (ws.length:Int) - 1 < 0 + (i:Int) + 1 then (ws.length:Int) - 1 else 0 + (i:Int) + 1) (by split <;> omega) (by split <;> omega)
     have ee':es[j']? = some es[j']:=List.getElem?_eq_getElem (by omega)
     obtain ⟨rn,rfl,hrn⟩:=hR.2 j' y _ hy ee'
     have bn:=bnd _ (List.mem_of_getElem? ee')
     generalize es[j'] = e0 at hrn bn
     refine ⟨l,_,_,_,rfl,rfl,aj.of (sa _ _ hL),hb',?_⟩
     refine ⟨_,rfl,_,rfl,?_⟩
     refine ⟨C,es.take (i + 1),fa,ds,p1,ws.take (i + 1),rn,e0,o,as,mx,G2,rfl,cl.same u1,hA.same u1,by omega,sa,fr3.d,fo,k1,np1,np2,hR.take (i + 1),ok2,nd1,lt1,ne1,bnd1,hrn,bn.1,bn.2,u1 _ _ ko,hD.same u1,rise,na1,na2,na3,m0,fun fa' ds' as' Gb fr clb hAb kob hDb riseb lb=>⟨_,rfl,bB ?_⟩⟩
     exact ⟨fr.old sa fr3.d fo,fa',ds',as',_,_,rfl,clb,hAb,kob,hDb,riseb,by omega⟩
    ·rintro σ G ⟨sG,fa,ds,as,z6,z7,rfl,cl,hA,ko,hD,rise,lfa⟩
     exact ⟨sG,fa,ds,as,_,_,_,rfl,cl,hA,ko,hD,rise,by omega⟩
   ·rintro σ G ⟨sG,fa,ds,as,z5,z6,z7,rfl,cl,hA,ko,hD,rise,lfa⟩
    rw [lw,List.take_of_length_le (Nat.le_refl _)] at cl
    exact ⟨sG,fa,ds,as,_,_,_,rfl,cl,hA,ko,hD,rise,by omega⟩
  clear cl ko s25
  rintro σ G ⟨sG,fa,ds,as,z5,z6,z7,rfl,cl,hA,ko,hD,rise,lfa⟩
  have la:=hA.1
  have ld:=hD.1
  refine ⟨_,rfl,C.a,C.dx,_,rfl,cl.at_,rfl,C,es,fa,rfl,cl,fun q1 Ga ua fq1 hq1=>?_⟩
  refine ⟨_,rfl,.inl ⟨rfl,_,aj.of hq1⟩,q1,_,_,rfl,rfl,hq1,by omega,?_⟩
  have ua2:aI G (upd Ga q1 (.lst (fa ++ [.ax]))):=bJ fq1 ua
  generalize upd Ga q1 (.lst (fa ++ [.ax])) = Gb at ua2 ⊢
  clear ua fq1 hq1
  have clb:=cl.same ua2
  refine ⟨_,rfl,C.a,C.dx,_,rfl,clb.at_,rfl,C,es,fa,rfl,clb,fun q2 Gc uc fq2 hq2=>?_⟩
  have uc:=ua2.trans uc
  refine ⟨_,rfl,q2,fa,ds,o,as,rfl,hq2,hA.same uc,uc _ _ ko,hD.same uc,by omega,fun Gd ud=>⟨_,rfl,bB ?_⟩⟩
  have ud:=uc.trans ud
  have cld:=cl.same ud
  refine ⟨_,rfl,C.a,C.dx,_,rfl,cld.at_,rfl,C,es,fa,rfl,cld,fun q3 w3 Ge ue fq3 hq3 he3=>?_⟩
  have ue:=ud.trans ue
  refine ⟨q3,_,rfl,.inl (aj.of hq3),_,rfl,l,_,rfl,.inl (aj.of ((sG.trans ue) _ _ hL)),rfl,_,rfl,?_⟩
  rw [he3.1,lw,decide_eq_true rfl]
  refine bB ?_
  have sG:=sG.trans ue
  have cl:=cl.same ue
  have hA:=hA.same ue
  have hD:=hD.same ue
  have ko:=ue _ _ ko
  clear ue ud uc ua2 clb cld hq2 hq3 he3 fq2 fq3
  refine ⟨fun σ' G'=>aI Ge G' ∧ ∃ num:Int,σ' = [some (.ref a),some (.ref l),some (.ref q),some (.ref C.a),some (.ref o),z5,z6,z7,some (.ref q1),some (.int num),none,none,none,none] ∧ 1 ≤ num ∧ num ≤ 85 ∧ num ∉ es.map (·.n),?_,?_⟩
  ·refine ⟨fun m' σ' G'=>aI Ge G' ∧ ∃ num:Int,σ' = [some (.ref a),some (.ref l),some (.ref q),some (.ref C.a),some (.ref o),z5,z6,z7,some (.ref q1),some (.int num),none,none,none,none] ∧ 1 ≤ num ∧ num ≤ 85 ∧ (∀ i,1 ≤ i → i < num → i ∈ es.map (·.n)) ∧ m' = (100 - num).toNat,⟨_,aI.refl _,1,rfl,Int.le_refl _,by decide,fun i h1 h2=>by omega,rfl⟩,?_⟩
   rintro m' σ' G4 ⟨s4,num,rfl,m0,m1,all,rfl⟩
   have hL4:=(sG.trans s4) _ _ hL
   have hR4:=hR.same (sG.trans s4)
   refine ⟨_,rfl,_,rfl,l,rfl,⟨_,aj.of hL4⟩,fun q5 B hq5=>?_⟩
   refine dC (xs:=ws) (fun i σ acc G=>(∃ o,σ = [o]) ∧ aI G4 G ∧ G q5 = some (.lst acc) ∧ acc = ((es.take i).map (·.n)).map V.int) (by omega) ?_ ?_ ?_ ?_
   ·exact ⟨⟨_,rfl⟩,aI.new hq5,aC,rfl⟩
   ·rintro i σ acc G hi ⟨_,sG,h1,rfl⟩
    exact ⟨h1,aj.of (sG _ _ hL4),by rw [List.length_map,List.length_map,List.length_take]; omega⟩
   ·rintro i w σ acc G hx ⟨⟨o,rfl⟩,sG,h1,rfl⟩
    have hi:i < ws.length:=(List.getElem?_eq_some_iff.mp hx).1
    have hie:i < es.length:=by omega
    have ee:es[i]? = some es[i]:=List.getElem?_eq_getElem hie
    obtain ⟨rb,rfl,hrow⟩:=hR4.2 i w _ hx ee
    have f0:cb (bS es[i]) 0 = some (.int es[i].n):=aQ (j:=0) rfl
    have hrow:=sG _ _ hrow
    refine ⟨_,rfl,rb,_,_,_,rfl,rfl,aj.of hrow,f0,h1,Nx.mk hi ⟨⟨_,rfl⟩,bJ hq5 sG,aC,?_⟩⟩
    rw [take_one ee,List.map_append,List.map_append]
    rfl
   ·rintro σ acc G ⟨_,sG5,h1,rfl⟩
    rw [lw,List.take_of_length_le (Nat.le_refl _)] at h1
    refine ⟨q5,_,rfl,.inl (aj.of h1),rfl,vU _,_,rfl,?_⟩
    refine gG (fun z=>?_) (fun z=>?_)
    ·have hin:=i8.mp z
     have all':∀ i,1 ≤ i → i < num + 1 → i ∈ es.map (·.n):=fun i h1 h2=>by
      by_cases q:i = num
      ·rw [q]; exact hin
      ·exact all i h1 (by omega)
     have pg:=wJ (by omega) all'
     rw [List.length_map] at pg
     refine ⟨fun σ' G'=>G = G' ∧ σ' = [some (.ref a),some (.ref l),some (.ref q),some (.ref C.a),some (.ref o),z5,z6,z7,some (.ref q1),some (.int (num + 1)),none,none,none,none],fun σ' G' h=>⟨(100 - (num + 1)).toNat,by omega,h.1 ▸ s4.trans sG5,num + 1,h.2,by omega,by omega,all',rfl⟩,?_⟩
     walk_at "rd"
     first | done | exact rfl | exact ⟨rfl,rfl⟩
    ·exact ⟨s4.trans sG5,num,rfl,m0,m1,fun hin=>absurd ((i8.mpr hin).symm.trans z) (by decide)⟩
  rintro σ' G6 ⟨s6,num,rfl,m0,m1,nin⟩
  have sG:=sG.trans s6
  have cl:=cl.same s6
  have hA:=hA.same s6
  have hD:=hD.same s6
  have ko:=s6 _ _ ko
  clear s6
  obtain ⟨x,hx⟩:∃ x:Dd,x = ⟨10 ^ Int.toNat 6,Str.ofString "keep",num⟩:=⟨_,rfl⟩
  have xd:x.d = 1000000:=by rw [hx]; rfl
  have xn:x.n = num:=by rw [hx]
  have hxd:inR 1000000 (.int x.d) = true:=by rw [xd]; exact cX (by decide) (by decide)
  have hxz:gE (.str x.z) = true:=by rw [hx]; show gE (.str (Str.ofString "keep")) = true; decide +kernel
  have hxn:inR 1000000000 (.int x.n) = true:=by rw [xn]; exact cX (by omega) (by omega)
  have nin':∀ e ∈ es,e.n ≠ num:=fun e he z=>nin (by rw [← z]; exact List.mem_map_of_mem (f:=fun e:En=>e.n) he)
  have hf:cN (av es).r ds x = false:=by
   unfold cN eR
   rw [xn,jF nin',Bool.and_false]
  walk_at "rd"
  refine fun y dy hy hdy ndy=>?_
  refine ⟨y,dy,.int x.d,.str x.z,.int x.n,by rw [hx] <;> rfl,aC,Own.int,Own.str,Own.int,fun h=>absurd (hxd.symm.trans h) (by decide),fun _ h=>absurd (hxz.symm.trans h) (by decide),fun _ _ h=>absurd (hxn.symm.trans h) (by decide),fun _ _ _ G7 f7 hy7=>⟨rfl,?_⟩⟩
  have s7:aI G6 G7:=fun b u hb=>f7 b u (aK hb hy) (by rw [aH (aK hb hy),aH (aK hb hdy)]; exact hb)
  have hact:eM G7 c.c_Act (.ref y) x:=⟨y,dy,rfl,hy7⟩
  refine ⟨_,rfl,o,_,rfl,.inl (aj.of (s7 _ _ ko)),C,es,fa,ds,.ref y,by rw [show as.length = fa.length by omega] <;> rfl,cl.same s7,hA.same s7,by omega,.inl ⟨.inr ⟨x,hact,hf⟩,fun G8 s8=>⟨_,rfl,_,rfl,bB ?_⟩⟩⟩
  have s8:=s7.trans s8
  have sG:=sG.trans s8
  have cl:=cl.same s8
  have hA:=hA.same s8
  have hD:=hD.same s8
  have ko:=s8 _ _ ko
  have hL8:=sG _ _ hL
  have hR8:=hR.same sG
  clear s8 s7 hact hy7 f7 hy hdy ndy
  refine ⟨fun σ' G'=>aI G8 G' ∧ ∃ u,σ' = [some (.ref a),some (.ref l),some (.ref q),some (.ref C.a),some (.ref o),z5,z6,z7,some (.ref q1),some (.int num),some (.str (Str.ofString "abcdefghijklmnopqrstuvwxyz")),some (.ref u),none,none] ∧ G' u = some (.lst ((es.map (·.w)).map V.str)),?_,?_⟩
  ·refine ⟨_,rfl,l,rfl,⟨_,aj.of hL8⟩,fun q5 B hq5=>?_⟩
   refine dC (xs:=ws) (fun i σ acc G=>(∃ o,σ = [o]) ∧ aI G8 G ∧ G q5 = some (.lst acc) ∧ acc = ((es.take i).map (·.w)).map V.str) (by omega) ?_ ?_ ?_ ?_
   ·exact ⟨⟨_,rfl⟩,aI.new hq5,aC,rfl⟩
   ·rintro i σ acc G hi ⟨_,sG,h1,rfl⟩
    exact ⟨h1,aj.of (sG _ _ hL8),by rw [List.length_map,List.length_map,List.length_take]; omega⟩
   ·rintro i w σ acc G hx ⟨⟨o,rfl⟩,sG,h1,rfl⟩
    have hi:i < ws.length:=(List.getElem?_eq_some_iff.mp hx).1
    have ee:es[i]? = some es[i]:=List.getElem?_eq_getElem (by omega)
    obtain ⟨rb,rfl,hrow⟩:=hR8.2 i w _ hx ee
    have f3:cb (bS es[i]) 3 = some (.str es[i].w):=aQ (j:=3) rfl
    refine ⟨_,rfl,rb,_,_,_,rfl,rfl,aj.of (sG _ _ hrow),f3,h1,Nx.mk hi ⟨⟨_,rfl⟩,bJ hq5 sG,aC,?_⟩⟩
    rw [take_one ee,List.map_append,List.map_append]
    rfl
   ·rintro σ acc G ⟨_,sG5,h1,rfl⟩
    rw [lw,List.take_of_length_le (Nat.le_refl _)] at h1
    exact ⟨sG5,q5,rfl,h1⟩
  rintro σ' G9 ⟨s9,u,rfl,hu⟩
  have lu:(es.map (·.w)).length ≤ 40:=by rw [List.length_map]; exact l60
  obtain ⟨us,hus⟩:∃ us,us = es.map (·.w):=⟨_,rfl⟩
  rw [← hus] at hu lu
  have sz10:=s9
  refine ⟨fun σ' G'=>aI G9 G' ∧ ∃ sm,σ' = [some (.ref a),some (.ref l),some (.ref q),some (.ref C.a),some (.ref o),z5,z6,z7,some (.ref q1),some (.int num),some (.str (Str.ofString "abcdefghijklmnopqrstuvwxyz")),some (.ref u),some (.ref sm),none] ∧ G' sm = some (.lst (((List.range 41).map t8).map V.str)),?_,?_⟩
  ·walk_at "rd"
   refine ⟨by decide,by decide,fun sm B hsm=>?_⟩
   refine qY (n:=(41:Int).toNat) (P:=fun i v=>v = .str (t8 i)) hsm (by decide) (fun σ=>∃ o,σ = [o,some (.str (Str.ofString "abcdefghijklmnopqrstuvwxyz"))]) ⟨_,rfl⟩ ?_ ?_
   ·rintro i σ G Kt hi ⟨o',rfl⟩ sG' kt
    have hi:i < 41:=hi
    have l2:(Str.ofString "zz").length = 2:=by decide +kernel
    have d1:(0 + (i:Int)) / 26 = ((i / 26:Nat):Int):=by omega
    have d2:(0 + (i:Int)) % 26 = ((i % 26:Nat):Int):=by omega
    walk_at "rd"
    refine ⟨_,_,97 + i / 26,rfl,rfl,aM rfl,by rw [d1]; exact aQ (rL _ (by omega)),?_⟩
    refine ⟨_,_,rfl,rfl,by show (Str.ofString "zz").length + 1 ≤ sizeLine; omega,?_⟩
    walk_at "rd"
    refine ⟨_,_,97 + i % 26,rfl,rfl,aM rfl,by rw [d2]; exact aQ (rL _ (by omega)),?_⟩
    refine ⟨_,_,rfl,rfl,by rw [Str.length_append,l2]; show 2 + 1 + 1 ≤ sizeLine; omega,?_⟩
    exact kt _ _ _ ⟨_,rfl⟩ (aI.refl _) rfl
   ·intro G acc sG h1 h2 h3
    have e:acc = ((List.range 41).map t8).map V.str:=by
     refine List.ext_getElem (by rw [List.length_map,List.length_map,List.length_range]; exact h2) fun i p1 p2=>?_
     rw [List.getElem_map,List.getElem_map,List.getElem_range]
     exact h3 i _ (List.getElem?_eq_getElem p1)
    exact ⟨sG,sm,rfl,by rw [← e]; exact h1⟩
  rintro σ' Ga ⟨sa,sm,rfl,hsm⟩
  obtain ⟨zs,hzs⟩:∃ zs,zs = (List.range 41).map t8:=⟨_,rfl⟩
  rw [← hzs] at hsm
  have lz:zs.length = 41:=by rw [hzs,List.length_map,List.length_range]
  have hua:=sa _ _ hu
  refine ⟨fun σ' G'=>aI Ga G' ∧ ∃ wd i,σ' = [some (.ref a),some (.ref l),some (.ref q),some (.ref C.a),some (.ref o),z5,z6,z7,some (.ref q1),some (.int num),some (.str (Str.ofString "abcdefghijklmnopqrstuvwxyz")),some (.ref u),some (.ref sm),some (.str wd)] ∧ wd ∉ us ∧ i < 41 ∧ wd = t8 i,?_,?_⟩
  ·refine ⟨_,rfl,sm,rfl,⟨_,aj.of hsm⟩,fun r B hr=>?_⟩
   refine dC (xs:=zs.map V.str) (fun i σ acc G=>(∃ o,σ = [o,some (.ref u)]) ∧ aI Ga G ∧ G r = some (.lst acc) ∧ acc.length ≤ i ∧ acc = ((zs.take i).filter (fun z=>decide (z ∉ us))).map V.str) (by rw [List.length_map]; omega) ?_ ?_ ?_ ?_
   ·exact ⟨⟨_,rfl⟩,aI.new hr,aC,Nat.le_refl _,rfl⟩
   ·rintro i σ acc G hi ⟨_,sG,h1,h2,_⟩
    exact ⟨h1,aj.of (sG _ _ hsm),h2⟩
   ·rintro i v σ acc G hx ⟨⟨o,rfl⟩,sG,h1,h2,rfl⟩
    have hi:i < (zs.map V.str).length:=(List.getElem?_eq_some_iff.mp hx).1
    have hi':i < zs.length:=by rw [List.length_map] at hi; exact hi
    have ez:zs[i]? = some zs[i]:=List.getElem?_eq_getElem hi'
    have ev:v = .str zs[i]:=by rw [List.getElem?_map,ez] at hx; exact (Option.some.inj hx).symm
    rw [take_one ez,List.filter_append]
    clear ez
    generalize zs[i] = z at ev
    subst ev
    refine ⟨_,rfl,_,rfl,u,_,rfl,.inl (aj.of (sG _ _ hua)),rfl,yL _,_,rfl,?_⟩
    refine gG (fun q=>?_) (fun q=>?_)
    ·have q:(!pe (V.str z) (us.map V.str)) = true:=q
     have q':z ∉ us:=fun h=>by rw [mw.mpr h] at q; cases q
     refine ⟨_,rfl,h1,Nx.mk hi ⟨⟨_,rfl⟩,bJ hr sG,aC,by rw [List.length_append]; exact Nat.add_le_add_right h2 1,?_⟩⟩
     rw [List.filter_cons_of_pos (p:=fun z=>decide (z ∉ us)) (decide_eq_true q'),List.map_append]
     rfl
    ·have q:(!pe (V.str z) (us.map V.str)) = false:=q
     have q':¬ z ∉ us:=fun h=>by
      cases hh:pe (V.str z) (us.map V.str) with
      | true=>exact h (mw.mp hh)
      | false=>rw [hh] at q; cases q
     refine Nx.mk hi ⟨⟨_,rfl⟩,sG,h1,by omega,?_⟩
     rw [List.filter_cons_of_neg (p:=fun z=>decide (z ∉ us)) (fun w=>q' (of_decide_eq_true w)),List.filter_nil,List.append_nil]
   ·rintro σ acc G ⟨_,sG,h1,h2,rfl⟩
    rw [List.length_map,List.take_of_length_le (Nat.le_refl _)] at h1
    obtain ⟨i,hi,hfree⟩:=qg lu
    obtain ⟨wd,rest,he⟩:∃ wd rest,zs.filter (fun z=>decide (z ∉ us)) = wd :: rest:=by
     cases h:zs.filter (fun z=>decide (z ∉ us)) with
     | nil =>
      exfalso
      have:t8 i ∈ zs.filter (fun z=>decide (z ∉ us)):=List.mem_filter.mpr ⟨by rw [hzs]; exact List.mem_map_of_mem (List.mem_range.mpr hi),decide_eq_true hfree⟩
      rw [h] at this
      cases this
     | cons a b=>exact ⟨a,b,rfl⟩
    have hm:wd ∈ zs.filter (fun z=>decide (z ∉ us)):=by rw [he]; exact List.mem_cons_self ..
    rw [he] at h1
    obtain ⟨hz,hd⟩:=List.mem_filter.mp hm
    rw [hzs] at hz
    obtain ⟨i',hi',e'⟩:=List.mem_map.mp hz
    exact ⟨r,_,_,_,rfl,rfl,aj.of h1,aQ (j:=0) rfl,sG,wd,i',rfl,of_decide_eq_true hd,List.mem_range.mp hi',e'.symm⟩
  rintro σ' Gb ⟨sb,wd,i,rfl,hwu,hi,hwd⟩
  have sb:=s9.trans (sa.trans sb)
  have cl:=cl.same sb
  have hA:=hA.same sb
  have hD:=hD.same sb
  have ko:=sb _ _ ko
  clear s9 sa sb hu hua hsm
  have ww:isWord (.str wd) = true:=by rw [hwd]; exact tO i hi
  obtain ⟨e,he⟩:∃ e:En,e = ⟨num,1000000,Str.ofString "genus",wd,none,some 5,none,true⟩:=⟨_,rfl⟩
  have oke:why (.int num) (.int 1000000) (.str (Str.ofString "genus")) (.str wd) .ax (.int 5) .ax = 0:=zh (by omega) (by omega) ww
  have okk1:iE e:=by rw [he]; exact oke
  have lwd:=(lK ww).1
  have fol:dB (dD none es) e = true:=by
   cases q:dD none es with
   | none=>rfl
   | some y =>
    rcases gy q with z | z
    ·cases z
    ·have:=bdd y z
     exact (gj _ _).mpr (.inl (by rw [he]; exact this))
  refine ⟨_,rfl,C.a,C.dx,_,rfl,cl.at_,rfl,?_⟩
  walk_at "rd"
  refine fun x0 dx0 hx0 hdx0 ne0=>?_
  refine ⟨x0,dx0,.int num,.int 1000000,.str (Str.ofString "genus"),.str wd,.ax,.int 5,.ax,.bl true,rfl,aC,Own.int,Own.int,Own.str,Own.str,by show wd.length ≤ sizeLine; omega,Own.ax,Own.int,Own.ax,fun G1 s1=>⟨fun _=>⟨rfl,?_⟩,fun h=>absurd oke h⟩⟩
  have s2:=aI.upd (o:=.ins c.c_Entry dx0 (cM e)) ((aI.made hx0 hdx0 ne0).trans s1) hx0
  have hent:cG (upd G1 x0 (.ins c.c_Entry dx0 (cM e))) c.c_Entry (.ref x0) e:=⟨x0,dx0,rfl,aC⟩
  have ef:fields (.int num) (.int 1000000) (.str (Str.ofString "genus")) (.str wd) .ax (.int 5) .ax (.bl true) = cM e:=by rw [he]; rfl
  rw [ef]
  generalize upd G1 x0 (.ins c.c_Entry dx0 (cM e)) = Gc at s2 hent ⊢
  have cl:=cl.same s2
  have hA:=hA.same s2
  have hD:=hD.same s2
  have ko:=s2 _ _ ko
  refine ⟨C,es,.ref x0,fa,rfl,cl,okk,nd,by omega,e,hent,okk1,.inl ⟨fol,by rw [he]; exact nin,fun Gp ff cl'=>?_⟩⟩
  have hA:=hA.keep fun b K dx fs hb=>cl.ins ff hb
  have hD:=hD.keep fun b ys hb=>cl.tup ff hb
  have ko:=cl.lst ff na2 ko
  have hf:cN (av (es ++ [e])).r ds x = true:=pO (by rw [he]) (by rw [he]) (by rw [he]) (by rw [he,← hus]; exact hwu) (by rw [he]; exact nin') (by rw [xn,he]) (by rw [xd,he]; exact Int.le_refl _) (fun y hy=>by rw [xd]; exact (rise.dd y hy).2)
  walk_at "rd"
  refine fun y dy hy hdy ndy=>?_
  refine ⟨y,dy,.int x.d,.str x.z,.int x.n,by rw [hx] <;> rfl,aC,Own.int,Own.str,Own.int,fun h=>absurd (hxd.symm.trans h) (by decide),fun _ h=>absurd (hxz.symm.trans h) (by decide),fun _ _ h=>absurd (hxn.symm.trans h) (by decide),fun _ _ _ G7 f7 hy7=>⟨rfl,?_⟩⟩
  have s7:aI Gp G7:=fun b u hb=>f7 b u (aK hb hy) (by rw [aH (aK hb hy),aH (aK hb hdy)]; exact hb)
  have hact:eM G7 c.c_Act (.ref y) x:=⟨y,dy,rfl,hy7⟩
  exact ⟨_,rfl,o,_,rfl,.inl (aj.of (s7 _ _ ko)),C,es ++ [e],fa,ds,.ref y,by rw [show as.length = fa.length by omega] <;> rfl,cl'.same s7,hA.same s7,by omega,.inr ⟨x,hact,hf,fun G8 _ _=>by first | exact ⟨_,rfl,k _⟩ | exact ⟨rfl,k _⟩⟩⟩
end
theorem all_mk {l:PySem.W.OpenLaw} {w:World} {K:W.Frag} {h:Heap} {mg:Str → Option Value} {fa:Addr} (X:K.In h) (G:h.Ns mainGlobals mg) (hfa:mg "law" = some (.ref fa))
    {f0:Addr} {od0 an0:Option Addr} {sl0:Array (Option Value)} {oc0 kV0 dc0 pm0 cd0 ct0:Value}
    {f1:Addr} {od1 an1:Option Addr} {sl1:Array (Option Value)} {oc1 kV1 dc1 pm1 cd1 ct1:Value}
    {f2:Addr} {od2 an2:Option Addr} {sl2:Array (Option Value)} {oc2 kV2 dc2 pm2 cd2 ct2:Value}
    {f3:Addr} {od3 an3:Option Addr} {sl3:Array (Option Value)} {oc3 kV3 dc3 pm3 cd3 ct3:Value}
    {f4:Addr} {od4 an4:Option Addr} {sl4:Array (Option Value)} {oc4 kV4 dc4 pm4 cd4 ct4:Value}
    {f5:Addr} {od5 an5:Option Addr} {sl5:Array (Option Value)} {oc5 kV5 dc5 pm5 cd5 ct5:Value}
    {f6:Addr} {od6 an6:Option Addr} {sl6:Array (Option Value)} {oc6 kV6 dc6 pm6 cd6 ct6:Value}
    {f7:Addr} {od7 an7:Option Addr} {sl7:Array (Option Value)} {oc7 kV7 dc7 pm7 cd7 ct7:Value}
    {f8:Addr} {od8 an8:Option Addr} {sl8:Array (Option Value)} {oc8 kV8 dc8 pm8 cd8 ct8:Value}
    {f9:Addr} {od9 an9:Option Addr} {sl9:Array (Option Value)} {oc9 kV9 dc9 pm9 cd9 ct9:Value}
    {f10:Addr} {od10 an10:Option Addr} {sl10:Array (Option Value)} {oc10 kV10 dc10 pm10 cd10 ct10:Value}
    {f11:Addr} {od11 an11:Option Addr} {sl11:Array (Option Value)} {oc11 kV11 dc11 pm11 cd11 ct11:Value}
    {f12:Addr} {od12 an12:Option Addr} {sl12:Array (Option Value)} {oc12 kV12 dc12 pm12 cd12 ct12:Value}
    {f13:Addr} {od13 an13:Option Addr} {sl13:Array (Option Value)} {oc13 kV13 dc13 pm13 cd13 ct13:Value}
    {f14:Addr} {od14 an14:Option Addr} {sl14:Array (Option Value)} {oc14 kV14 dc14 pm14 cd14 ct14:Value}
    {f15:Addr} {od15 an15:Option Addr} {sl15:Array (Option Value)} {oc15 kV15 dc15 pm15 cd15 ct15:Value}
    {f16:Addr} {od16 an16:Option Addr} {sl16:Array (Option Value)} {oc16 kV16 dc16 pm16 cd16 ct16:Value}
    {f17:Addr} {od17 an17:Option Addr} {sl17:Array (Option Value)} {oc17 kV17 dc17 pm17 cd17 ct17:Value}
    {f18:Addr} {od18 an18:Option Addr} {sl18:Array (Option Value)} {oc18 kV18 dc18 pm18 cd18 ct18:Value}
    {f19:Addr} {od19 an19:Option Addr} {sl19:Array (Option Value)} {oc19 kV19 dc19 pm19 cd19 ct19:Value}
    {f20:Addr} {od20 an20:Option Addr} {sl20:Array (Option Value)} {oc20 kV20 dc20 pm20 cd20 ct20:Value}
    {f21:Addr} {od21 an21:Option Addr} {sl21:Array (Option Value)} {oc21 kV21 dc21 pm21 cd21 ct21:Value}
    {f22:Addr} {od22 an22:Option Addr} {sl22:Array (Option Value)} {oc22 kV22 dc22 pm22 cd22 ct22:Value}
    {f23:Addr} {od23 an23:Option Addr} {sl23:Array (Option Value)} {oc23 kV23 dc23 pm23 cd23 ct23:Value}
    {f24:Addr} {od24 an24:Option Addr} {sl24:Array (Option Value)} {oc24 kV24 dc24 pm24 cd24 ct24:Value}
    {f25:Addr} {od25 an25:Option Addr} {sl25:Array (Option Value)} {oc25 kV25 dc25 pm25 cd25 ct25:Value}
    {f26:Addr} {od26 an26:Option Addr} {sl26:Array (Option Value)} {oc26 kV26 dc26 pm26 cd26 ct26:Value}
    {f27:Addr} {od27 an27:Option Addr} {sl27:Array (Option Value)} {oc27 kV27 dc27 pm27 cd27 ct27:Value}
    {f28:Addr} {od28 an28:Option Addr} {sl28:Array (Option Value)} {oc28 kV28 dc28 pm28 cd28 ct28:Value}
    {f29:Addr} {od29 an29:Option Addr} {sl29:Array (Option Value)} {oc29 kV29 dc29 pm29 cd29 ct29:Value}
    {f30:Addr} {od30 an30:Option Addr} {sl30:Array (Option Value)} {oc30 kV30 dc30 pm30 cd30 ct30:Value}
    {f31:Addr} {od31 an31:Option Addr} {sl31:Array (Option Value)} {oc31 kV31 dc31 pm31 cd31 ct31:Value}
    {f32:Addr} {od32 an32:Option Addr} {sl32:Array (Option Value)} {oc32 kV32 dc32 pm32 cd32 ct32:Value}
    {f33:Addr} {od33 an33:Option Addr} {sl33:Array (Option Value)} {oc33 kV33 dc33 pm33 cd33 ct33:Value}
    {f34:Addr} {od34 an34:Option Addr} {sl34:Array (Option Value)} {oc34 kV34 dc34 pm34 cd34 ct34:Value}
    {c_Entry f_Entry t_Entry:Addr} {od_Entry an_Entry:Option Addr} {sl_Entry:Array (Option Value)} {oc_Entry kV_Entry dc_Entry pm_Entry cd_Entry ct_Entry:Value} {o_Entry:Obj} {n_Entry:Nat}
    {c_Results:Addr}
    {f_Results_init:Addr} {od_Results_init an_Results_init:Option Addr} {sl_Results_init:Array (Option Value)} {oc_Results_init kV_Results_init dc_Results_init pm_Results_init cd_Results_init ct_Results_init:Value}
    {c_Act f_Act:Addr} {od_Act an_Act:Option Addr} {sl_Act:Array (Option Value)} {oc_Act kV_Act dc_Act pm_Act cd_Act ct_Act:Value}
    {c_Clerk:Addr}
    {f_Clerk_init:Addr} {od_Clerk_init an_Clerk_init:Option Addr} {sl_Clerk_init:Array (Option Value)} {oc_Clerk_init kV_Clerk_init dc_Clerk_init pm_Clerk_init cd_Clerk_init ct_Clerk_init:Value}
    {f_Results_put:Addr} {od_Results_put an_Results_put:Option Addr} {sl_Results_put:Array (Option Value)} {oc_Results_put kV_Results_put dc_Results_put pm_Results_put cd_Results_put ct_Results_put:Value}
    {f_Results_name_of:Addr} {od_Results_name_of an_Results_name_of:Option Addr} {sl_Results_name_of:Array (Option Value)} {oc_Results_name_of kV_Results_name_of dc_Results_name_of pm_Results_name_of cd_Results_name_of ct_Results_name_of:Value}
    {f_Results_outcome_of:Addr} {od_Results_outcome_of an_Results_outcome_of:Option Addr} {sl_Results_outcome_of:Array (Option Value)} {oc_Results_outcome_of kV_Results_outcome_of dc_Results_outcome_of pm_Results_outcome_of cd_Results_outcome_of ct_Results_outcome_of:Value}
    {f_Clerk_publish:Addr} {od_Clerk_publish an_Clerk_publish:Option Addr} {sl_Clerk_publish:Array (Option Value)} {oc_Clerk_publish kV_Clerk_publish dc_Clerk_publish pm_Clerk_publish cd_Clerk_publish ct_Clerk_publish:Value}
    {f_Clerk_enter:Addr} {od_Clerk_enter an_Clerk_enter:Option Addr} {sl_Clerk_enter:Array (Option Value)} {oc_Clerk_enter kV_Clerk_enter dc_Clerk_enter pm_Clerk_enter cd_Clerk_enter ct_Clerk_enter:Value}
    {f_Clerk_book:Addr} {od_Clerk_book an_Clerk_book:Option Addr} {sl_Clerk_book:Array (Option Value)} {oc_Clerk_book kV_Clerk_book dc_Clerk_book pm_Clerk_book cd_Clerk_book ct_Clerk_book:Value}
    {f_Clerk_acts:Addr} {od_Clerk_acts an_Clerk_acts:Option Addr} {sl_Clerk_acts:Array (Option Value)} {oc_Clerk_acts kV_Clerk_acts dc_Clerk_acts pm_Clerk_acts cd_Clerk_acts ct_Clerk_acts:Value}
    {u_MOST_LETTERS:Value}
    {u_LAST_DAY:Value}
    {u_LAST_NUMBER:Value}
    {u_RANKS:Addr} {o_RANKS:Obj} {i_RANKS:List Value} {n_RANKS:Nat}
    {u_DEEDS:Addr} {o_DEEDS:Obj} {i_DEEDS:List Value} {n_DEEDS:Nat}
    {u_ABOVE:Addr} {e_ABOVE:List DictEntry} {n_ABOVE:Nat}
    {c_NoRank:Addr}
    {c_NoNumber:Addr}
    {c_NoDay:Addr}
    {c_NoWord:Addr}
    {c_NoEntry:Addr}
    {c_NoAct:Addr}
    {c_Late:Addr}
    {c_RightError:Addr}
    {c_NoSheet:Addr}
    {c_NoPath:Addr}
    {N_NoRank A_NoRank:Addr} {nm_NoRank q_NoRank:Str} {bs_NoRank:List Value} {hd_NoRank:Bool} {sn_NoRank:List Str} {sub_NoRank:List Value} {ab_NoRank:Bool} {col_NoRank:Option Bool} {dd_NoRank:Option Addr} {k0_NoRank k1_NoRank k2_NoRank k3_NoRank k5_NoRank:Option Value}
    {es_NoRank:Array DictEntry} {x1_NoRank:Value} {x2_NoRank:Option Addr} {x3_NoRank:Nat} {x4_NoRank:Array (Option Value)} {y0_NoRank:Value} {y1_NoRank:Option Addr} {y2_NoRank:ClassData} {y3_NoRank:Array (Option Value)} {et_NoRank:Array DictEntry} {z1_NoRank:Value} {z2_NoRank:Option Addr} {z3_NoRank:Nat} {z4_NoRank:Array (Option Value)}
    {N_NoNumber A_NoNumber:Addr} {nm_NoNumber q_NoNumber:Str} {bs_NoNumber:List Value} {hd_NoNumber:Bool} {sn_NoNumber:List Str} {sub_NoNumber:List Value} {ab_NoNumber:Bool} {col_NoNumber:Option Bool} {dd_NoNumber:Option Addr} {k0_NoNumber k1_NoNumber k2_NoNumber k3_NoNumber k5_NoNumber:Option Value}
    {es_NoNumber:Array DictEntry} {x1_NoNumber:Value} {x2_NoNumber:Option Addr} {x3_NoNumber:Nat} {x4_NoNumber:Array (Option Value)} {y0_NoNumber:Value} {y1_NoNumber:Option Addr} {y2_NoNumber:ClassData} {y3_NoNumber:Array (Option Value)} {et_NoNumber:Array DictEntry} {z1_NoNumber:Value} {z2_NoNumber:Option Addr} {z3_NoNumber:Nat} {z4_NoNumber:Array (Option Value)}
    {N_NoDay A_NoDay:Addr} {nm_NoDay q_NoDay:Str} {bs_NoDay:List Value} {hd_NoDay:Bool} {sn_NoDay:List Str} {sub_NoDay:List Value} {ab_NoDay:Bool} {col_NoDay:Option Bool} {dd_NoDay:Option Addr} {k0_NoDay k1_NoDay k2_NoDay k3_NoDay k5_NoDay:Option Value}
    {es_NoDay:Array DictEntry} {x1_NoDay:Value} {x2_NoDay:Option Addr} {x3_NoDay:Nat} {x4_NoDay:Array (Option Value)} {y0_NoDay:Value} {y1_NoDay:Option Addr} {y2_NoDay:ClassData} {y3_NoDay:Array (Option Value)} {et_NoDay:Array DictEntry} {z1_NoDay:Value} {z2_NoDay:Option Addr} {z3_NoDay:Nat} {z4_NoDay:Array (Option Value)}
    {N_NoWord A_NoWord:Addr} {nm_NoWord q_NoWord:Str} {bs_NoWord:List Value} {hd_NoWord:Bool} {sn_NoWord:List Str} {sub_NoWord:List Value} {ab_NoWord:Bool} {col_NoWord:Option Bool} {dd_NoWord:Option Addr} {k0_NoWord k1_NoWord k2_NoWord k3_NoWord k5_NoWord:Option Value}
    {es_NoWord:Array DictEntry} {x1_NoWord:Value} {x2_NoWord:Option Addr} {x3_NoWord:Nat} {x4_NoWord:Array (Option Value)} {y0_NoWord:Value} {y1_NoWord:Option Addr} {y2_NoWord:ClassData} {y3_NoWord:Array (Option Value)} {et_NoWord:Array DictEntry} {z1_NoWord:Value} {z2_NoWord:Option Addr} {z3_NoWord:Nat} {z4_NoWord:Array (Option Value)}
    {N_NoEntry A_NoEntry:Addr} {nm_NoEntry q_NoEntry:Str} {bs_NoEntry:List Value} {hd_NoEntry:Bool} {sn_NoEntry:List Str} {sub_NoEntry:List Value} {ab_NoEntry:Bool} {col_NoEntry:Option Bool} {dd_NoEntry:Option Addr} {k0_NoEntry k1_NoEntry k2_NoEntry k3_NoEntry k5_NoEntry:Option Value}
    {es_NoEntry:Array DictEntry} {x1_NoEntry:Value} {x2_NoEntry:Option Addr} {x3_NoEntry:Nat} {x4_NoEntry:Array (Option Value)} {y0_NoEntry:Value} {y1_NoEntry:Option Addr} {y2_NoEntry:ClassData} {y3_NoEntry:Array (Option Value)} {et_NoEntry:Array DictEntry} {z1_NoEntry:Value} {z2_NoEntry:Option Addr} {z3_NoEntry:Nat} {z4_NoEntry:Array (Option Value)}
    {f_NoAct t_NoAct:Addr} {od_NoAct an_NoAct:Option Addr} {sl_NoAct:Array (Option Value)} {oc_NoAct kV_NoAct dc_NoAct pm_NoAct cd_NoAct ct_NoAct:Value} {o_NoAct:Obj} {n_NoAct:Nat} {tk_NoAct:Tok}
    {N_NoAct A_NoAct:Addr} {nm_NoAct q_NoAct:Str} {bs_NoAct:List Value} {hd_NoAct:Bool} {sn_NoAct:List Str} {sub_NoAct:List Value} {ab_NoAct:Bool} {col_NoAct:Option Bool} {dd_NoAct:Option Addr} {k0_NoAct k1_NoAct k2_NoAct k3_NoAct k5_NoAct:Option Value}
    {es_NoAct:Array DictEntry} {x1_NoAct:Value} {x2_NoAct:Option Addr} {x3_NoAct:Nat} {x4_NoAct:Array (Option Value)} {y0_NoAct:Value} {y1_NoAct:Option Addr} {y2_NoAct:ClassData} {y3_NoAct:Array (Option Value)} {et_NoAct:Array DictEntry} {z1_NoAct:Value} {z2_NoAct:Option Addr} {z3_NoAct:Nat} {z4_NoAct:Array (Option Value)}
    {N_Late A_Late:Addr} {nm_Late q_Late:Str} {bs_Late:List Value} {hd_Late:Bool} {sn_Late:List Str} {sub_Late:List Value} {ab_Late:Bool} {col_Late:Option Bool} {dd_Late:Option Addr} {k0_Late k1_Late k2_Late k3_Late k5_Late:Option Value}
    {es_Late:Array DictEntry} {x1_Late:Value} {x2_Late:Option Addr} {x3_Late:Nat} {x4_Late:Array (Option Value)} {y0_Late:Value} {y1_Late:Option Addr} {y2_Late:ClassData} {y3_Late:Array (Option Value)} {et_Late:Array DictEntry} {z1_Late:Value} {z2_Late:Option Addr} {z3_Late:Nat} {z4_Late:Array (Option Value)}
    (a0:W.nsIn K mainGlobals "is_whole" = some (some (.ref f0)))
    (l0:K.lookup f0 = some ⟨oc0,od0,.func (W.fnOf "is_whole" "is_whole" (aT dq) (aR dq) (aF dq) .none kV0 dc0 pm0 an0 cd0 ct0),sl0⟩)
    (c0:W.codeIn K cd0 "is_whole" = true)
    (k0:W.keepIn K (.ref f0) = true)
    (a1:W.nsIn K mainGlobals "is_day" = some (some (.ref f1)))
    (l1:K.lookup f1 = some ⟨oc1,od1,.func (W.fnOf "is_day" "is_day" (aT fu) (aR fu) (aF fu) .none kV1 dc1 pm1 an1 cd1 ct1),sl1⟩)
    (c1:W.codeIn K cd1 "is_day" = true)
    (k1:W.keepIn K (.ref f1) = true)
    (a2:W.nsIn K mainGlobals "is_number" = some (some (.ref f2)))
    (l2:K.lookup f2 = some ⟨oc2,od2,.func (W.fnOf "is_number" "is_number" (aT dM) (aR dM) (aF dM) .none kV2 dc2 pm2 an2 cd2 ct2),sl2⟩)
    (c2:W.codeIn K cd2 "is_number" = true)
    (k2:W.keepIn K (.ref f2) = true)
    (a3:W.nsIn K mainGlobals "is_word" = some (some (.ref f3)))
    (l3:K.lookup f3 = some ⟨oc3,od3,.func (W.fnOf "is_word" "is_word" (aT eY) (aR eY) (aF eY) .none kV3 dc3 pm3 an3 cd3 ct3),sl3⟩)
    (c3:W.codeIn K cd3 "is_word" = true)
    (k3:W.keepIn K (.ref f3) = true)
    (a4:W.nsIn K mainGlobals "is_rank" = some (some (.ref f4)))
    (l4:K.lookup f4 = some ⟨oc4,od4,.func (W.fnOf "is_rank" "is_rank" (aT eZ) (aR eZ) (aF eZ) .none kV4 dc4 pm4 an4 cd4 ct4),sl4⟩)
    (c4:W.codeIn K cd4 "is_rank" = true)
    (k4:W.keepIn K (.ref f4) = true)
    (a5:W.nsIn K mainGlobals "above" = some (some (.ref f5)))
    (l5:K.lookup f5 = some ⟨oc5,od5,.func (W.fnOf "above" "above" (aT gq) (aR gq) (aF gq) .none kV5 dc5 pm5 an5 cd5 ct5),sl5⟩)
    (c5:W.codeIn K cd5 "above" = true)
    (k5:W.keepIn K (.ref f5) = true)
    (a6:W.nsIn K mainGlobals "refuse_head" = some (some (.ref f6)))
    (l6:K.lookup f6 = some ⟨oc6,od6,.func (W.fnOf "refuse_head" "refuse_head" (aT cT) (aR cT) (aF cT) .none kV6 dc6 pm6 an6 cd6 ct6),sl6⟩)
    (c6:W.codeIn K cd6 "refuse_head" = true)
    (k6:W.keepIn K (.ref f6) = true)
    (a7:W.nsIn K mainGlobals "under_fits" = some (some (.ref f7)))
    (l7:K.lookup f7 = some ⟨oc7,od7,.func (W.fnOf "under_fits" "under_fits" (aT cg) (aR cg) (aF cg) .none kV7 dc7 pm7 an7 cd7 ct7),sl7⟩)
    (c7:W.codeIn K cd7 "under_fits" = true)
    (k7:W.keepIn K (.ref f7) = true)
    (a8:W.nsIn K mainGlobals "tie_fits" = some (some (.ref f8)))
    (l8:K.lookup f8 = some ⟨oc8,od8,.func (W.fnOf "tie_fits" "tie_fits" (aT d8) (aR d8) (aF d8) .none kV8 dc8 pm8 an8 cd8 ct8),sl8⟩)
    (c8:W.codeIn K cd8 "tie_fits" = true)
    (k8:W.keepIn K (.ref f8) = true)
    (a9:W.nsIn K mainGlobals "ahead" = some (some (.ref f9)))
    (l9:K.lookup f9 = some ⟨oc9,od9,.func (W.fnOf "ahead" "ahead" (aT gn) (aR gn) (aF gn) .none kV9 dc9 pm9 an9 cd9 ct9),sl9⟩)
    (c9:W.codeIn K cd9 "ahead" = true)
    (k9:W.keepIn K (.ref f9) = true)
    (a10:W.nsIn K mainGlobals "is_deed" = some (some (.ref f10)))
    (l10:K.lookup f10 = some ⟨oc10,od10,.func (W.fnOf "is_deed" "is_deed" (aT eW) (aR eW) (aF eW) .none kV10 dc10 pm10 an10 cd10 ct10),sl10⟩)
    (c10:W.codeIn K cd10 "is_deed" = true)
    (k10:W.keepIn K (.ref f10) = true)
    (a11:W.nsIn K mainGlobals "refuse_day" = some (some (.ref f11)))
    (l11:K.lookup f11 = some ⟨oc11,od11,.func (W.fnOf "refuse_day" "refuse_day" (aT cn) (aR cn) (aF cn) .none kV11 dc11 pm11 an11 cd11 ct11),sl11⟩)
    (c11:W.codeIn K cd11 "refuse_day" = true)
    (k11:W.keepIn K (.ref f11) = true)
    (a12:W.nsIn K mainGlobals "can_follow" = some (some (.ref f12)))
    (l12:K.lookup f12 = some ⟨oc12,od12,.func (W.fnOf "can_follow" "can_follow" (aT cf) (aR cf) (aF cf) .none kV12 dc12 pm12 an12 cd12 ct12),sl12⟩)
    (c12:W.codeIn K cd12 "can_follow" = true)
    (k12:W.keepIn K (.ref f12) = true)
    (a13:W.nsIn K mainGlobals "_law_cell_at" = some (some (.ref f13)))
    (l13:K.lookup f13 = some ⟨oc13,od13,.func (W.fnOf "_law_cell_at" "_law_cell_at" (aT d4) (aR d4) (aF d4) .none kV13 dc13 pm13 an13 cd13 ct13),sl13⟩)
    (c13:W.codeIn K cd13 "_law_cell_at" = true)
    (k13:W.keepIn K (.ref f13) = true)
    (a14:W.nsIn K mainGlobals "_law_whole" = some (some (.ref f14)))
    (l14:K.lookup f14 = some ⟨oc14,od14,.func (W.fnOf "_law_whole" "_law_whole" (aT fk) (aR fk) (aF fk) .none kV14 dc14 pm14 an14 cd14 ct14),sl14⟩)
    (c14:W.codeIn K cd14 "_law_whole" = true)
    (k14:W.keepIn K (.ref f14) = true)
    (a15:W.nsIn K mainGlobals "_law_mixed" = some (some (.ref f15)))
    (l15:K.lookup f15 = some ⟨oc15,od15,.func (W.fnOf "_law_mixed" "_law_mixed" (aT fS) (aR fS) (aF fS) .none kV15 dc15 pm15 an15 cd15 ct15),sl15⟩)
    (c15:W.codeIn K cd15 "_law_mixed" = true)
    (k15:W.keepIn K (.ref f15) = true)
    (a16:W.nsIn K mainGlobals "_law_draws" = some (some (.ref f16)))
    (l16:K.lookup f16 = some ⟨oc16,od16,.func (W.fnOf "_law_draws" "_law_draws" (aT fV) (aR fV) (aF fV) .none kV16 dc16 pm16 an16 cd16 ct16),sl16⟩)
    (c16:W.codeIn K cd16 "_law_draws" = true)
    (k16:W.keepIn K (.ref f16) = true)
    (a17:W.nsIn K mainGlobals "_law_words" = some (some (.ref f17)))
    (l17:K.lookup f17 = some ⟨oc17,od17,.func (W.fnOf "_law_words" "_law_words" (aT fU) (aR fU) (aF fU) .none kV17 dc17 pm17 an17 cd17 ct17),sl17⟩)
    (c17:W.codeIn K cd17 "_law_words" = true)
    (k17:W.keepIn K (.ref f17) = true)
    (a18:W.nsIn K mainGlobals "_law_any_word" = some (some (.ref f18)))
    (l18:K.lookup f18 = some ⟨oc18,od18,.func (W.fnOf "_law_any_word" "_law_any_word" (aT dP) (aR dP) (aF dP) .none kV18 dc18 pm18 an18 cd18 ct18),sl18⟩)
    (c18:W.codeIn K cd18 "_law_any_word" = true)
    (k18:W.keepIn K (.ref f18) = true)
    (a19:W.nsIn K mainGlobals "_law_stamp" = some (some (.ref f19)))
    (l19:K.lookup f19 = some ⟨oc19,od19,.func (W.fnOf "_law_stamp" "_law_stamp" (aT fg) (aR fg) (aF fg) .none kV19 dc19 pm19 an19 cd19 ct19),sl19⟩)
    (c19:W.codeIn K cd19 "_law_stamp" = true)
    (k19:W.keepIn K (.ref f19) = true)
    (a20:W.nsIn K mainGlobals "_law_pick" = some (some (.ref f20)))
    (l20:K.lookup f20 = some ⟨oc20,od20,.func (W.fnOf "_law_pick" "_law_pick" (aT gw) (aR gw) (aF gw) .none kV20 dc20 pm20 an20 cd20 ct20),sl20⟩)
    (c20:W.codeIn K cd20 "_law_pick" = true)
    (k20:W.keepIn K (.ref f20) = true)
    (a21:W.nsIn K mainGlobals "_law_base" = some (some (.ref f21)))
    (l21:K.lookup f21 = some ⟨oc21,od21,.func (W.fnOf "_law_base" "_law_base" (aT gi) (aR gi) (aF gi) .none kV21 dc21 pm21 an21 cd21 ct21),sl21⟩)
    (c21:W.codeIn K cd21 "_law_base" = true)
    (k21:W.keepIn K (.ref f21) = true)
    (a22:W.nsIn K mainGlobals "_law_entry" = some (some (.ref f22)))
    (l22:K.lookup f22 = some ⟨oc22,od22,.func (W.fnOf "_law_entry" "_law_entry" (aT fZ) (aR fZ) (aF fZ) .none kV22 dc22 pm22 an22 cd22 ct22),sl22⟩)
    (c22:W.codeIn K cd22 "_law_entry" = true)
    (k22:W.keepIn K (.ref f22) = true)
    (a23:W.nsIn K mainGlobals "_law_book" = some (some (.ref f23)))
    (l23:K.lookup f23 = some ⟨oc23,od23,.func (W.fnOf "_law_book" "_law_book" (aT gk) (aR gk) (aF gk) .none kV23 dc23 pm23 an23 cd23 ct23),sl23⟩)
    (c23:W.codeIn K cd23 "_law_book" = true)
    (k23:W.keepIn K (.ref f23) = true)
    (a24:W.nsIn K mainGlobals "_law_made" = some (some (.ref f24)))
    (l24:K.lookup f24 = some ⟨oc24,od24,.func (W.fnOf "_law_made" "_law_made" (aT gm) (aR gm) (aF gm) .none kV24 dc24 pm24 an24 cd24 ct24),sl24⟩)
    (c24:W.codeIn K cd24 "_law_made" = true)
    (k24:W.keepIn K (.ref f24) = true)
    (a25:W.nsIn K mainGlobals "_law_up" = some (some (.ref f25)))
    (l25:K.lookup f25 = some ⟨oc25,od25,.func (W.fnOf "_law_up" "_law_up" (aT lY) (aR lY) (aF lY) .none kV25 dc25 pm25 an25 cd25 ct25),sl25⟩)
    (c25:W.codeIn K cd25 "_law_up" = true)
    (k25:W.keepIn K (.ref f25) = true)
    (a26:W.nsIn K mainGlobals "_law_word_of" = some (some (.ref f26)))
    (l26:K.lookup f26 = some ⟨oc26,od26,.func (W.fnOf "_law_word_of" "_law_word_of" (aT d9) (aR d9) (aF d9) .none kV26 dc26 pm26 an26 cd26 ct26),sl26⟩)
    (c26:W.codeIn K cd26 "_law_word_of" = true)
    (k26:W.keepIn K (.ref f26) = true)
    (a27:W.nsIn K mainGlobals "_law_sieved" = some (some (.ref f27)))
    (l27:K.lookup f27 = some ⟨oc27,od27,.func (W.fnOf "_law_sieved" "_law_sieved" (aT eV) (aR eV) (aF eV) .none kV27 dc27 pm27 an27 cd27 ct27),sl27⟩)
    (c27:W.codeIn K cd27 "_law_sieved" = true)
    (k27:W.keepIn K (.ref f27) = true)
    (a28:W.nsIn K mainGlobals "_law_kind" = some (some (.ref f28)))
    (l28:K.lookup f28 = some ⟨oc28,od28,.func (W.fnOf "_law_kind" "_law_kind" (aT gf) (aR gf) (aF gf) .none kV28 dc28 pm28 an28 cd28 ct28),sl28⟩)
    (c28:W.codeIn K cd28 "_law_kind" = true)
    (k28:W.keepIn K (.ref f28) = true)
    (a29:W.nsIn K mainGlobals "_law_fits" = some (some (.ref f29)))
    (l29:K.lookup f29 = some ⟨oc29,od29,.func (W.fnOf "_law_fits" "_law_fits" (aT gx) (aR gx) (aF gx) .none kV29 dc29 pm29 an29 cd29 ct29),sl29⟩)
    (c29:W.codeIn K cd29 "_law_fits" = true)
    (k29:W.keepIn K (.ref f29) = true)
    (a30:W.nsIn K mainGlobals "_law_number" = some (some (.ref f30)))
    (l30:K.lookup f30 = some ⟨oc30,od30,.func (W.fnOf "_law_number" "_law_number" (aT eU) (aR eU) (aF eU) .none kV30 dc30 pm30 an30 cd30 ct30),sl30⟩)
    (c30:W.codeIn K cd30 "_law_number" = true)
    (k30:W.keepIn K (.ref f30) = true)
    (a31:W.nsIn K mainGlobals "_law_enter" = some (some (.ref f31)))
    (l31:K.lookup f31 = some ⟨oc31,od31,.func (W.fnOf "_law_enter" "_law_enter" (aT fm) (aR fm) (aF fm) .none kV31 dc31 pm31 an31 cd31 ct31),sl31⟩)
    (c31:W.codeIn K cd31 "_law_enter" = true)
    (k31:W.keepIn K (.ref f31) = true)
    (a32:W.nsIn K mainGlobals "_law_same" = some (some (.ref f32)))
    (l32:K.lookup f32 = some ⟨oc32,od32,.func (W.fnOf "_law_same" "_law_same" (aT hJ) (aR hJ) (aF hJ) .none kV32 dc32 pm32 an32 cd32 ct32),sl32⟩)
    (c32:W.codeIn K cd32 "_law_same" = true)
    (k32:W.keepIn K (.ref f32) = true)
    (a33:W.nsIn K mainGlobals "_law_one" = some (some (.ref f33)))
    (l33:K.lookup f33 = some ⟨oc33,od33,.func (W.fnOf "_law_one" "_law_one" (aT ir) (aR ir) (aF ir) .none kV33 dc33 pm33 an33 cd33 ct33),sl33⟩)
    (c33:W.codeIn K cd33 "_law_one" = true)
    (k33:W.keepIn K (.ref f33) = true)
    (a34:W.nsIn K mainGlobals "law" = some (some (.ref f34)))
    (l34:K.lookup f34 = some ⟨oc34,od34,.func (W.fnOf "law" "law" (aT lP) (aR lP) (aF lP) .none kV34 dc34 pm34 an34 cd34 ct34),sl34⟩)
    (c34:W.codeIn K cd34 "law" = true)
    (k34:W.keepIn K (.ref f34) = true)
    (cg_Entry:W.nsIn K mainGlobals "Entry" = some (some (.ref c_Entry)))
    (pg_Entry:PySem.W.plainGet K c_Entry Str.empty = true)
    (hd_Entry:PySem.W.hasDictIn K c_Entry = true)
    (po_Entry:PySem.W.plainOver K c_Entry = true)
    (sa_Entry:W.findIn K (.ref c_Entry) "__setattr__" = some (some (.builtin "object.__setattr__")))
    (mk_Entry:PySem.W.makesIn K c_Entry = true)
    (in_Entry:W.findIn K (.ref c_Entry) "__init__" = some (some (.ref f_Entry)))
    (fn_Entry:PySem.W.isFn K (.ref f_Entry) = true)
    (kc_Entry:W.keepIn K (.ref c_Entry) = true)
    (kf_Entry:W.keepIn K (.ref f_Entry) = true)
    (lf_Entry:K.lookup f_Entry = some ⟨oc_Entry,od_Entry,.func (W.fnOf "__init__" "Entry.__init__" (aT cI) (aR cI) (aF cI) (.ref t_Entry) kV_Entry dc_Entry pm_Entry an_Entry cd_Entry ct_Entry),sl_Entry⟩)
    (cf_Entry:W.codeIn K cd_Entry "Entry.__init__" = true)
    (lt_Entry:K.lookup t_Entry = some o_Entry)
    (dt_Entry:o_Entry.data = .seq #[.none,.none,.none,.bool true] n_Entry)
    (na_Entry_number:W.findIn K (.ref c_Entry) "number" = some none)
    (na_Entry_day:W.findIn K (.ref c_Entry) "day" = some none)
    (na_Entry_rank:W.findIn K (.ref c_Entry) "rank" = some none)
    (na_Entry_word:W.findIn K (.ref c_Entry) "word" = some none)
    (na_Entry_under:W.findIn K (.ref c_Entry) "under" = some none)
    (na_Entry_sheet:W.findIn K (.ref c_Entry) "sheet" = some none)
    (na_Entry_base:W.findIn K (.ref c_Entry) "base" = some none)
    (na_Entry_described:W.findIn K (.ref c_Entry) "described" = some none)
    (cg_Results:W.nsIn K mainGlobals "Results" = some (some (.ref c_Results)))
    (pg_Results:PySem.W.plainGet K c_Results Str.empty = true)
    (hd_Results:PySem.W.hasDictIn K c_Results = true)
    (po_Results:PySem.W.plainOver K c_Results = true)
    (sa_Results:W.findIn K (.ref c_Results) "__setattr__" = some (some (.builtin "object.__setattr__")))
    (kc_Results:W.keepIn K (.ref c_Results) = true)
    (mk_Results:PySem.W.makesIn K c_Results = true)
    (in_Results:W.findIn K (.ref c_Results) "__init__" = some (some (.ref f_Results_init)))
    (fn_Results:PySem.W.isFn K (.ref f_Results_init) = true)
    (l_Results_init:K.lookup f_Results_init = some ⟨oc_Results_init,od_Results_init,.func (W.fnOf "__init__" "Results.__init__" (aT cF) (aR cF) (aF cF) .none kV_Results_init dc_Results_init pm_Results_init an_Results_init cd_Results_init ct_Results_init),sl_Results_init⟩)
    (k_Results_init:W.codeIn K cd_Results_init "Results.__init__" = true)
    (p_Results_init:W.keepIn K (.ref f_Results_init) = true)
    (na_Results_outs:W.findIn K (.ref c_Results) "outs" = some none)
    (na_Results_names:W.findIn K (.ref c_Results) "names" = some none)
    (na_Results_rights:W.findIn K (.ref c_Results) "rights" = some none)
    (na_Results_holders:W.findIn K (.ref c_Results) "holders" = some none)
    (cg_Act:W.nsIn K mainGlobals "Act" = some (some (.ref c_Act)))
    (pg_Act:PySem.W.plainGet K c_Act Str.empty = true)
    (hd_Act:PySem.W.hasDictIn K c_Act = true)
    (po_Act:PySem.W.plainOver K c_Act = true)
    (sa_Act:W.findIn K (.ref c_Act) "__setattr__" = some (some (.builtin "object.__setattr__")))
    (mk_Act:PySem.W.makesIn K c_Act = true)
    (in_Act:W.findIn K (.ref c_Act) "__init__" = some (some (.ref f_Act)))
    (fn_Act:PySem.W.isFn K (.ref f_Act) = true)
    (kc_Act:W.keepIn K (.ref c_Act) = true)
    (kf_Act:W.keepIn K (.ref f_Act) = true)
    (lf_Act:K.lookup f_Act = some ⟨oc_Act,od_Act,.func (W.fnOf "__init__" "Act.__init__" (aT d5) (aR d5) (aF d5) .none kV_Act dc_Act pm_Act an_Act cd_Act ct_Act),sl_Act⟩)
    (cf_Act:W.codeIn K cd_Act "Act.__init__" = true)
    (na_Act_day:W.findIn K (.ref c_Act) "day" = some none)
    (na_Act_deed:W.findIn K (.ref c_Act) "deed" = some none)
    (na_Act_number:W.findIn K (.ref c_Act) "number" = some none)
    (cg_Clerk:W.nsIn K mainGlobals "Clerk" = some (some (.ref c_Clerk)))
    (pg_Clerk:PySem.W.plainGet K c_Clerk Str.empty = true)
    (hd_Clerk:PySem.W.hasDictIn K c_Clerk = true)
    (po_Clerk:PySem.W.plainOver K c_Clerk = true)
    (sa_Clerk:W.findIn K (.ref c_Clerk) "__setattr__" = some (some (.builtin "object.__setattr__")))
    (kc_Clerk:W.keepIn K (.ref c_Clerk) = true)
    (mk_Clerk:PySem.W.makesIn K c_Clerk = true)
    (in_Clerk:W.findIn K (.ref c_Clerk) "__init__" = some (some (.ref f_Clerk_init)))
    (fn_Clerk:PySem.W.isFn K (.ref f_Clerk_init) = true)
    (l_Clerk_init:K.lookup f_Clerk_init = some ⟨oc_Clerk_init,od_Clerk_init,.func (W.fnOf "__init__" "Clerk.__init__" (aT ck) (aR ck) (aF ck) .none kV_Clerk_init dc_Clerk_init pm_Clerk_init an_Clerk_init cd_Clerk_init ct_Clerk_init),sl_Clerk_init⟩)
    (k_Clerk_init:W.codeIn K cd_Clerk_init "Clerk.__init__" = true)
    (p_Clerk_init:W.keepIn K (.ref f_Clerk_init) = true)
    (na_Clerk_entries:W.findIn K (.ref c_Clerk) "entries" = some none)
    (na_Clerk_results:W.findIn K (.ref c_Clerk) "results" = some none)
    (na_Clerk_deeds:W.findIn K (.ref c_Clerk) "deeds" = some none)
    (na_Clerk_piles:W.findIn K (.ref c_Clerk) "piles" = some none)
    (mf_Results_put:W.findIn K (.ref c_Results) "put" = some (some (.ref f_Results_put)))
    (mi_Results_put:PySem.W.isFn K (.ref f_Results_put) = true)
    (l_Results_put:K.lookup f_Results_put = some ⟨oc_Results_put,od_Results_put,.func (W.fnOf "put" "Results.put" (aT cR) (aR cR) (aF cR) .none kV_Results_put dc_Results_put pm_Results_put an_Results_put cd_Results_put ct_Results_put),sl_Results_put⟩)
    (k_Results_put:W.codeIn K cd_Results_put "Results.put" = true)
    (p_Results_put:W.keepIn K (.ref f_Results_put) = true)
    (mf_Results_name_of:W.findIn K (.ref c_Results) "name_of" = some (some (.ref f_Results_name_of)))
    (mi_Results_name_of:PySem.W.isFn K (.ref f_Results_name_of) = true)
    (l_Results_name_of:K.lookup f_Results_name_of = some ⟨oc_Results_name_of,od_Results_name_of,.func (W.fnOf "name_of" "Results.name_of" (aT bW) (aR bW) (aF bW) .none kV_Results_name_of dc_Results_name_of pm_Results_name_of an_Results_name_of cd_Results_name_of ct_Results_name_of),sl_Results_name_of⟩)
    (k_Results_name_of:W.codeIn K cd_Results_name_of "Results.name_of" = true)
    (p_Results_name_of:W.keepIn K (.ref f_Results_name_of) = true)
    (mf_Results_outcome_of:W.findIn K (.ref c_Results) "outcome_of" = some (some (.ref f_Results_outcome_of)))
    (mi_Results_outcome_of:PySem.W.isFn K (.ref f_Results_outcome_of) = true)
    (l_Results_outcome_of:K.lookup f_Results_outcome_of = some ⟨oc_Results_outcome_of,od_Results_outcome_of,.func (W.fnOf "outcome_of" "Results.outcome_of" (aT bF) (aR bF) (aF bF) .none kV_Results_outcome_of dc_Results_outcome_of pm_Results_outcome_of an_Results_outcome_of cd_Results_outcome_of ct_Results_outcome_of),sl_Results_outcome_of⟩)
    (k_Results_outcome_of:W.codeIn K cd_Results_outcome_of "Results.outcome_of" = true)
    (p_Results_outcome_of:W.keepIn K (.ref f_Results_outcome_of) = true)
    (mf_Clerk_publish:W.findIn K (.ref c_Clerk) "publish" = some (some (.ref f_Clerk_publish)))
    (mi_Clerk_publish:PySem.W.isFn K (.ref f_Clerk_publish) = true)
    (l_Clerk_publish:K.lookup f_Clerk_publish = some ⟨oc_Clerk_publish,od_Clerk_publish,.func (W.fnOf "publish" "Clerk.publish" (aT bq) (aR bq) (aF bq) .none kV_Clerk_publish dc_Clerk_publish pm_Clerk_publish an_Clerk_publish cd_Clerk_publish ct_Clerk_publish),sl_Clerk_publish⟩)
    (k_Clerk_publish:W.codeIn K cd_Clerk_publish "Clerk.publish" = true)
    (p_Clerk_publish:W.keepIn K (.ref f_Clerk_publish) = true)
    (mf_Clerk_enter:W.findIn K (.ref c_Clerk) "enter" = some (some (.ref f_Clerk_enter)))
    (mi_Clerk_enter:PySem.W.isFn K (.ref f_Clerk_enter) = true)
    (l_Clerk_enter:K.lookup f_Clerk_enter = some ⟨oc_Clerk_enter,od_Clerk_enter,.func (W.fnOf "enter" "Clerk.enter" (aT cS) (aR cS) (aF cS) .none kV_Clerk_enter dc_Clerk_enter pm_Clerk_enter an_Clerk_enter cd_Clerk_enter ct_Clerk_enter),sl_Clerk_enter⟩)
    (k_Clerk_enter:W.codeIn K cd_Clerk_enter "Clerk.enter" = true)
    (p_Clerk_enter:W.keepIn K (.ref f_Clerk_enter) = true)
    (mf_Clerk_book:W.findIn K (.ref c_Clerk) "book" = some (some (.ref f_Clerk_book)))
    (mi_Clerk_book:PySem.W.isFn K (.ref f_Clerk_book) = true)
    (l_Clerk_book:K.lookup f_Clerk_book = some ⟨oc_Clerk_book,od_Clerk_book,.func (W.fnOf "book" "Clerk.book" (aT cw) (aR cw) (aF cw) .none kV_Clerk_book dc_Clerk_book pm_Clerk_book an_Clerk_book cd_Clerk_book ct_Clerk_book),sl_Clerk_book⟩)
    (k_Clerk_book:W.codeIn K cd_Clerk_book "Clerk.book" = true)
    (p_Clerk_book:W.keepIn K (.ref f_Clerk_book) = true)
    (mf_Clerk_acts:W.findIn K (.ref c_Clerk) "acts" = some (some (.ref f_Clerk_acts)))
    (mi_Clerk_acts:PySem.W.isFn K (.ref f_Clerk_acts) = true)
    (l_Clerk_acts:K.lookup f_Clerk_acts = some ⟨oc_Clerk_acts,od_Clerk_acts,.func (W.fnOf "acts" "Clerk.acts" (aT cm) (aR cm) (aF cm) .none kV_Clerk_acts dc_Clerk_acts pm_Clerk_acts an_Clerk_acts cd_Clerk_acts ct_Clerk_acts),sl_Clerk_acts⟩)
    (k_Clerk_acts:W.codeIn K cd_Clerk_acts "Clerk.acts" = true)
    (p_Clerk_acts:W.keepIn K (.ref f_Clerk_acts) = true)
    (cg_MOST_LETTERS:W.nsIn K mainGlobals "MOST_LETTERS" = some (some u_MOST_LETTERS))
    (cr_MOST_LETTERS:RelV (.int 12) u_MOST_LETTERS)
    (cg_LAST_DAY:W.nsIn K mainGlobals "LAST_DAY" = some (some u_LAST_DAY))
    (cr_LAST_DAY:RelV (.int 1000000) u_LAST_DAY)
    (cg_LAST_NUMBER:W.nsIn K mainGlobals "LAST_NUMBER" = some (some u_LAST_NUMBER))
    (cr_LAST_NUMBER:RelV (.int 1000000000) u_LAST_NUMBER)
    (cg_RANKS:W.nsIn K mainGlobals "RANKS" = some (some (.ref u_RANKS)))
    (cl_RANKS:K.lookup u_RANKS = some o_RANKS)
    (cc_RANKS:o_RANKS.cls = .type "tuple")
    (cd_RANKS:o_RANKS.data = .seq i_RANKS.toArray n_RANKS)
    (cv_RANKS:Vals [.str "genus",.str "species",.str "form"] i_RANKS)
    (cg_DEEDS:W.nsIn K mainGlobals "DEEDS" = some (some (.ref u_DEEDS)))
    (cl_DEEDS:K.lookup u_DEEDS = some o_DEEDS)
    (cc_DEEDS:o_DEEDS.cls = .type "tuple")
    (cd_DEEDS:o_DEEDS.data = .seq i_DEEDS.toArray n_DEEDS)
    (cv_DEEDS:Vals [.str "keep",.str "strike",.str "leave"] i_DEEDS)
    (cg_ABOVE:W.nsIn K mainGlobals "ABOVE" = some (some (.ref u_ABOVE)))
    (cl_ABOVE:K.lookup u_ABOVE = some ⟨.type "dict",none,.dict e_ABOVE.toArray n_ABOVE,#[]⟩)
    (cv_ABOVE:Paired (j6 w) ([("genus",.ax),("species",.str "genus"),("form",.str "species")]:List (Str × V)) e_ABOVE)
    (cg_NoRank:W.nsIn K mainGlobals "NoRank" = some (some (.ref c_NoRank)))
    (cg_NoNumber:W.nsIn K mainGlobals "NoNumber" = some (some (.ref c_NoNumber)))
    (cg_NoDay:W.nsIn K mainGlobals "NoDay" = some (some (.ref c_NoDay)))
    (cg_NoWord:W.nsIn K mainGlobals "NoWord" = some (some (.ref c_NoWord)))
    (cg_NoEntry:W.nsIn K mainGlobals "NoEntry" = some (some (.ref c_NoEntry)))
    (cg_NoAct:W.nsIn K mainGlobals "NoAct" = some (some (.ref c_NoAct)))
    (cg_Late:W.nsIn K mainGlobals "Late" = some (some (.ref c_Late)))
    (cg_RightError:W.nsIn K mainGlobals "RightError" = some (some (.ref c_RightError)))
    (cg_NoSheet:W.nsIn K mainGlobals "NoSheet" = some (some (.ref c_NoSheet)))
    (cg_NoPath:W.nsIn K mainGlobals "NoPath" = some (some (.ref c_NoPath)))
    (xl_NoRank:K.lookup c_NoRank = some (excClassObj nm_NoRank q_NoRank c_NoRank N_NoRank bs_NoRank (.ref A_NoRank :: ig) hd_NoRank sn_NoRank sub_NoRank ab_NoRank col_NoRank dd_NoRank k0_NoRank k1_NoRank k2_NoRank k3_NoRank k5_NoRank "ValueError.__new__"))
    (xn_NoRank:K.lookup N_NoRank = some ⟨x1_NoRank,x2_NoRank,.dict es_NoRank x3_NoRank,x4_NoRank⟩)
    (xs_NoRank:bI es_NoRank = true)
    (xi_NoRank:nsFind es_NoRank "__init__" = none)
    (xa_NoRank:K.lookup A_NoRank = some { cls:=y0_NoRank,dict:=y1_NoRank,data:=.cls y2_NoRank,slots:=y3_NoRank })
    (xb_NoRank:K.lookup y2_NoRank.ns = some ⟨z1_NoRank,z2_NoRank,.dict et_NoRank z3_NoRank,z4_NoRank⟩)
    (xt_NoRank:bI et_NoRank = true)
    (xj_NoRank:nsFind et_NoRank "__init__" = none)
    (qcs_NoRank:(PySem.W.clsIn K c_NoRank).isSome = true)
    (qga_NoRank:W.findIn K (.ref c_NoRank) "__getattribute__" = some (some (.builtin "BaseException.__getattribute__")))
    (qgt_NoRank:W.findIn K (.ref c_NoRank) "__getattr__" = some none)
    (qca_NoRank:W.findIn K (.ref c_NoRank) "__class__" = some (some (.builtin "object.__class__")))
    (qgg_NoRank:W.specialIn K (.builtin "object.__class__") "__get__" = some (some (.builtin "getset_descriptor.__get__")))
    (qtk_NoRank:W.takesIn K (.builtin "object.__class__") = some true)
    (qmo_NoRank:W.mroIn K c_NoRank (.type "object") = some true)
    (qsb_NoRank:PySem.W.subIn K (.ref c_NoRank) (.type "BaseException") = some true)
    (i_NoRank_NoEntry:W.kitOne K (.ref c_NoRank) (.ref c_NoEntry) = some false)
    (i_NoRank_Late:W.kitOne K (.ref c_NoRank) (.ref c_Late) = some false)
    (i_NoRank_NoAct:W.kitOne K (.ref c_NoRank) (.ref c_NoAct) = some false)
    (i_NoRank_NoSheet:W.kitOne K (.ref c_NoRank) (.ref c_NoSheet) = some false)
    (i_NoRank_NoPath:W.kitOne K (.ref c_NoRank) (.ref c_NoPath) = some false)
    (i_NoRank_ValueError:W.kitOne K (.ref c_NoRank) (.type "ValueError") = some true)
    (e_NoRank_RightError:PySem.W.exmOne K (.ref c_NoRank) (.ref c_RightError) = some true)
    (xl_NoNumber:K.lookup c_NoNumber = some (excClassObj nm_NoNumber q_NoNumber c_NoNumber N_NoNumber bs_NoNumber (.ref A_NoNumber :: ig) hd_NoNumber sn_NoNumber sub_NoNumber ab_NoNumber col_NoNumber dd_NoNumber k0_NoNumber k1_NoNumber k2_NoNumber k3_NoNumber k5_NoNumber "ValueError.__new__"))
    (xn_NoNumber:K.lookup N_NoNumber = some ⟨x1_NoNumber,x2_NoNumber,.dict es_NoNumber x3_NoNumber,x4_NoNumber⟩)
    (xs_NoNumber:bI es_NoNumber = true)
    (xi_NoNumber:nsFind es_NoNumber "__init__" = none)
    (xa_NoNumber:K.lookup A_NoNumber = some { cls:=y0_NoNumber,dict:=y1_NoNumber,data:=.cls y2_NoNumber,slots:=y3_NoNumber })
    (xb_NoNumber:K.lookup y2_NoNumber.ns = some ⟨z1_NoNumber,z2_NoNumber,.dict et_NoNumber z3_NoNumber,z4_NoNumber⟩)
    (xt_NoNumber:bI et_NoNumber = true)
    (xj_NoNumber:nsFind et_NoNumber "__init__" = none)
    (qcs_NoNumber:(PySem.W.clsIn K c_NoNumber).isSome = true)
    (qga_NoNumber:W.findIn K (.ref c_NoNumber) "__getattribute__" = some (some (.builtin "BaseException.__getattribute__")))
    (qgt_NoNumber:W.findIn K (.ref c_NoNumber) "__getattr__" = some none)
    (qca_NoNumber:W.findIn K (.ref c_NoNumber) "__class__" = some (some (.builtin "object.__class__")))
    (qgg_NoNumber:W.specialIn K (.builtin "object.__class__") "__get__" = some (some (.builtin "getset_descriptor.__get__")))
    (qtk_NoNumber:W.takesIn K (.builtin "object.__class__") = some true)
    (qmo_NoNumber:W.mroIn K c_NoNumber (.type "object") = some true)
    (qsb_NoNumber:PySem.W.subIn K (.ref c_NoNumber) (.type "BaseException") = some true)
    (i_NoNumber_NoEntry:W.kitOne K (.ref c_NoNumber) (.ref c_NoEntry) = some false)
    (i_NoNumber_Late:W.kitOne K (.ref c_NoNumber) (.ref c_Late) = some false)
    (i_NoNumber_NoAct:W.kitOne K (.ref c_NoNumber) (.ref c_NoAct) = some false)
    (i_NoNumber_NoSheet:W.kitOne K (.ref c_NoNumber) (.ref c_NoSheet) = some false)
    (i_NoNumber_NoPath:W.kitOne K (.ref c_NoNumber) (.ref c_NoPath) = some false)
    (i_NoNumber_ValueError:W.kitOne K (.ref c_NoNumber) (.type "ValueError") = some true)
    (e_NoNumber_RightError:PySem.W.exmOne K (.ref c_NoNumber) (.ref c_RightError) = some true)
    (xl_NoDay:K.lookup c_NoDay = some (excClassObj nm_NoDay q_NoDay c_NoDay N_NoDay bs_NoDay (.ref A_NoDay :: ig) hd_NoDay sn_NoDay sub_NoDay ab_NoDay col_NoDay dd_NoDay k0_NoDay k1_NoDay k2_NoDay k3_NoDay k5_NoDay "ValueError.__new__"))
    (xn_NoDay:K.lookup N_NoDay = some ⟨x1_NoDay,x2_NoDay,.dict es_NoDay x3_NoDay,x4_NoDay⟩)
    (xs_NoDay:bI es_NoDay = true)
    (xi_NoDay:nsFind es_NoDay "__init__" = none)
    (xa_NoDay:K.lookup A_NoDay = some { cls:=y0_NoDay,dict:=y1_NoDay,data:=.cls y2_NoDay,slots:=y3_NoDay })
    (xb_NoDay:K.lookup y2_NoDay.ns = some ⟨z1_NoDay,z2_NoDay,.dict et_NoDay z3_NoDay,z4_NoDay⟩)
    (xt_NoDay:bI et_NoDay = true)
    (xj_NoDay:nsFind et_NoDay "__init__" = none)
    (qcs_NoDay:(PySem.W.clsIn K c_NoDay).isSome = true)
    (qga_NoDay:W.findIn K (.ref c_NoDay) "__getattribute__" = some (some (.builtin "BaseException.__getattribute__")))
    (qgt_NoDay:W.findIn K (.ref c_NoDay) "__getattr__" = some none)
    (qca_NoDay:W.findIn K (.ref c_NoDay) "__class__" = some (some (.builtin "object.__class__")))
    (qgg_NoDay:W.specialIn K (.builtin "object.__class__") "__get__" = some (some (.builtin "getset_descriptor.__get__")))
    (qtk_NoDay:W.takesIn K (.builtin "object.__class__") = some true)
    (qmo_NoDay:W.mroIn K c_NoDay (.type "object") = some true)
    (qsb_NoDay:PySem.W.subIn K (.ref c_NoDay) (.type "BaseException") = some true)
    (i_NoDay_NoEntry:W.kitOne K (.ref c_NoDay) (.ref c_NoEntry) = some false)
    (i_NoDay_Late:W.kitOne K (.ref c_NoDay) (.ref c_Late) = some false)
    (i_NoDay_NoAct:W.kitOne K (.ref c_NoDay) (.ref c_NoAct) = some false)
    (i_NoDay_NoSheet:W.kitOne K (.ref c_NoDay) (.ref c_NoSheet) = some false)
    (i_NoDay_NoPath:W.kitOne K (.ref c_NoDay) (.ref c_NoPath) = some false)
    (i_NoDay_ValueError:W.kitOne K (.ref c_NoDay) (.type "ValueError") = some true)
    (e_NoDay_RightError:PySem.W.exmOne K (.ref c_NoDay) (.ref c_RightError) = some true)
    (xl_NoWord:K.lookup c_NoWord = some (excClassObj nm_NoWord q_NoWord c_NoWord N_NoWord bs_NoWord (.ref A_NoWord :: ig) hd_NoWord sn_NoWord sub_NoWord ab_NoWord col_NoWord dd_NoWord k0_NoWord k1_NoWord k2_NoWord k3_NoWord k5_NoWord "ValueError.__new__"))
    (xn_NoWord:K.lookup N_NoWord = some ⟨x1_NoWord,x2_NoWord,.dict es_NoWord x3_NoWord,x4_NoWord⟩)
    (xs_NoWord:bI es_NoWord = true)
    (xi_NoWord:nsFind es_NoWord "__init__" = none)
    (xa_NoWord:K.lookup A_NoWord = some { cls:=y0_NoWord,dict:=y1_NoWord,data:=.cls y2_NoWord,slots:=y3_NoWord })
    (xb_NoWord:K.lookup y2_NoWord.ns = some ⟨z1_NoWord,z2_NoWord,.dict et_NoWord z3_NoWord,z4_NoWord⟩)
    (xt_NoWord:bI et_NoWord = true)
    (xj_NoWord:nsFind et_NoWord "__init__" = none)
    (qcs_NoWord:(PySem.W.clsIn K c_NoWord).isSome = true)
    (qga_NoWord:W.findIn K (.ref c_NoWord) "__getattribute__" = some (some (.builtin "BaseException.__getattribute__")))
    (qgt_NoWord:W.findIn K (.ref c_NoWord) "__getattr__" = some none)
    (qca_NoWord:W.findIn K (.ref c_NoWord) "__class__" = some (some (.builtin "object.__class__")))
    (qgg_NoWord:W.specialIn K (.builtin "object.__class__") "__get__" = some (some (.builtin "getset_descriptor.__get__")))
    (qtk_NoWord:W.takesIn K (.builtin "object.__class__") = some true)
    (qmo_NoWord:W.mroIn K c_NoWord (.type "object") = some true)
    (qsb_NoWord:PySem.W.subIn K (.ref c_NoWord) (.type "BaseException") = some true)
    (i_NoWord_NoEntry:W.kitOne K (.ref c_NoWord) (.ref c_NoEntry) = some false)
    (i_NoWord_Late:W.kitOne K (.ref c_NoWord) (.ref c_Late) = some false)
    (i_NoWord_NoAct:W.kitOne K (.ref c_NoWord) (.ref c_NoAct) = some false)
    (i_NoWord_NoSheet:W.kitOne K (.ref c_NoWord) (.ref c_NoSheet) = some false)
    (i_NoWord_NoPath:W.kitOne K (.ref c_NoWord) (.ref c_NoPath) = some false)
    (i_NoWord_ValueError:W.kitOne K (.ref c_NoWord) (.type "ValueError") = some true)
    (e_NoWord_RightError:PySem.W.exmOne K (.ref c_NoWord) (.ref c_RightError) = some true)
    (xl_NoEntry:K.lookup c_NoEntry = some (excClassObj nm_NoEntry q_NoEntry c_NoEntry N_NoEntry bs_NoEntry (.ref A_NoEntry :: ig) hd_NoEntry sn_NoEntry sub_NoEntry ab_NoEntry col_NoEntry dd_NoEntry k0_NoEntry k1_NoEntry k2_NoEntry k3_NoEntry k5_NoEntry "ValueError.__new__"))
    (xn_NoEntry:K.lookup N_NoEntry = some ⟨x1_NoEntry,x2_NoEntry,.dict es_NoEntry x3_NoEntry,x4_NoEntry⟩)
    (xs_NoEntry:bI es_NoEntry = true)
    (xi_NoEntry:nsFind es_NoEntry "__init__" = none)
    (xa_NoEntry:K.lookup A_NoEntry = some { cls:=y0_NoEntry,dict:=y1_NoEntry,data:=.cls y2_NoEntry,slots:=y3_NoEntry })
    (xb_NoEntry:K.lookup y2_NoEntry.ns = some ⟨z1_NoEntry,z2_NoEntry,.dict et_NoEntry z3_NoEntry,z4_NoEntry⟩)
    (xt_NoEntry:bI et_NoEntry = true)
    (xj_NoEntry:nsFind et_NoEntry "__init__" = none)
    (qcs_NoEntry:(PySem.W.clsIn K c_NoEntry).isSome = true)
    (qga_NoEntry:W.findIn K (.ref c_NoEntry) "__getattribute__" = some (some (.builtin "BaseException.__getattribute__")))
    (qgt_NoEntry:W.findIn K (.ref c_NoEntry) "__getattr__" = some none)
    (qca_NoEntry:W.findIn K (.ref c_NoEntry) "__class__" = some (some (.builtin "object.__class__")))
    (qgg_NoEntry:W.specialIn K (.builtin "object.__class__") "__get__" = some (some (.builtin "getset_descriptor.__get__")))
    (qtk_NoEntry:W.takesIn K (.builtin "object.__class__") = some true)
    (qmo_NoEntry:W.mroIn K c_NoEntry (.type "object") = some true)
    (qsb_NoEntry:PySem.W.subIn K (.ref c_NoEntry) (.type "BaseException") = some true)
    (i_NoEntry_NoEntry:W.kitOne K (.ref c_NoEntry) (.ref c_NoEntry) = some true)
    (i_NoEntry_Late:W.kitOne K (.ref c_NoEntry) (.ref c_Late) = some false)
    (i_NoEntry_NoAct:W.kitOne K (.ref c_NoEntry) (.ref c_NoAct) = some false)
    (i_NoEntry_NoSheet:W.kitOne K (.ref c_NoEntry) (.ref c_NoSheet) = some false)
    (i_NoEntry_NoPath:W.kitOne K (.ref c_NoEntry) (.ref c_NoPath) = some false)
    (i_NoEntry_ValueError:W.kitOne K (.ref c_NoEntry) (.type "ValueError") = some true)
    (e_NoEntry_RightError:PySem.W.exmOne K (.ref c_NoEntry) (.ref c_RightError) = some true)
    (in_NoAct:W.findIn K (.ref c_NoAct) "__init__" = some (some (.ref f_NoAct)))
    (fn_NoAct:PySem.W.isFn K (.ref f_NoAct) = true)
    (kc_NoAct:W.keepIn K (.ref c_NoAct) = true)
    (kf_NoAct:W.keepIn K (.ref f_NoAct) = true)
    (lf_NoAct:K.lookup f_NoAct = some ⟨oc_NoAct,od_NoAct,.func (W.fnOf "__init__" "NoAct.__init__" (aT cj) (aR cj) (aF cj) (.ref t_NoAct) kV_NoAct dc_NoAct pm_NoAct an_NoAct cd_NoAct ct_NoAct),sl_NoAct⟩)
    (cf_NoAct:W.codeIn K cd_NoAct "NoAct.__init__" = true)
    (lt_NoAct:K.lookup t_NoAct = some o_NoAct)
    (dt_NoAct:o_NoAct.data = .seq #[.int 0 tk_NoAct] n_NoAct)
    (sa_NoAct:W.findIn K (.ref c_NoAct) "__setattr__" = some (some (.builtin "object.__setattr__")))
    (na_NoAct:W.findIn K (.ref c_NoAct) "place" = some none)
    (hz_NoAct:PySem.W.hasDictIn K c_NoAct = true)
    (mo_NoAct:W.mroIn K c_NoAct (.type "object") = some true)
    (b1_RightError:W.specialIn K (.ref c_RightError) "__getattribute__" = some (some (.builtin "type.__getattribute__")))
    (b2_RightError:PySem.W.readsIn K c_RightError (.type "type") = true)
    (b3_RightError:PySem.W.findCls K (.ref c_RightError) (.type "type") "__init__" = some (.val (.builtin "ValueError.__init__")))
    (xl_NoAct:K.lookup c_NoAct = some (excClassObj nm_NoAct q_NoAct c_NoAct N_NoAct bs_NoAct (.ref A_NoAct :: ig) hd_NoAct sn_NoAct sub_NoAct ab_NoAct col_NoAct dd_NoAct k0_NoAct k1_NoAct k2_NoAct k3_NoAct k5_NoAct "ValueError.__new__"))
    (xn_NoAct:K.lookup N_NoAct = some ⟨x1_NoAct,x2_NoAct,.dict es_NoAct x3_NoAct,x4_NoAct⟩)
    (xs_NoAct:bI es_NoAct = true)
    (xi_NoAct:nsFind es_NoAct "__init__" = some (.ref f_NoAct))
    (xa_NoAct:K.lookup A_NoAct = some { cls:=y0_NoAct,dict:=y1_NoAct,data:=.cls y2_NoAct,slots:=y3_NoAct })
    (xb_NoAct:K.lookup y2_NoAct.ns = some ⟨z1_NoAct,z2_NoAct,.dict et_NoAct z3_NoAct,z4_NoAct⟩)
    (xt_NoAct:bI et_NoAct = true)
    (xj_NoAct:nsFind et_NoAct "__init__" = none)
    (qcs_NoAct:(PySem.W.clsIn K c_NoAct).isSome = true)
    (qga_NoAct:W.findIn K (.ref c_NoAct) "__getattribute__" = some (some (.builtin "BaseException.__getattribute__")))
    (qgt_NoAct:W.findIn K (.ref c_NoAct) "__getattr__" = some none)
    (qca_NoAct:W.findIn K (.ref c_NoAct) "__class__" = some (some (.builtin "object.__class__")))
    (qgg_NoAct:W.specialIn K (.builtin "object.__class__") "__get__" = some (some (.builtin "getset_descriptor.__get__")))
    (qtk_NoAct:W.takesIn K (.builtin "object.__class__") = some true)
    (qmo_NoAct:W.mroIn K c_NoAct (.type "object") = some true)
    (qsb_NoAct:PySem.W.subIn K (.ref c_NoAct) (.type "BaseException") = some true)
    (i_NoAct_NoEntry:W.kitOne K (.ref c_NoAct) (.ref c_NoEntry) = some false)
    (i_NoAct_Late:W.kitOne K (.ref c_NoAct) (.ref c_Late) = some false)
    (i_NoAct_NoAct:W.kitOne K (.ref c_NoAct) (.ref c_NoAct) = some true)
    (i_NoAct_NoSheet:W.kitOne K (.ref c_NoAct) (.ref c_NoSheet) = some false)
    (i_NoAct_NoPath:W.kitOne K (.ref c_NoAct) (.ref c_NoPath) = some false)
    (i_NoAct_ValueError:W.kitOne K (.ref c_NoAct) (.type "ValueError") = some true)
    (e_NoAct_RightError:PySem.W.exmOne K (.ref c_NoAct) (.ref c_RightError) = some true)
    (xl_Late:K.lookup c_Late = some (excClassObj nm_Late q_Late c_Late N_Late bs_Late (.ref A_Late :: ig) hd_Late sn_Late sub_Late ab_Late col_Late dd_Late k0_Late k1_Late k2_Late k3_Late k5_Late "ValueError.__new__"))
    (xn_Late:K.lookup N_Late = some ⟨x1_Late,x2_Late,.dict es_Late x3_Late,x4_Late⟩)
    (xs_Late:bI es_Late = true)
    (xi_Late:nsFind es_Late "__init__" = none)
    (xa_Late:K.lookup A_Late = some { cls:=y0_Late,dict:=y1_Late,data:=.cls y2_Late,slots:=y3_Late })
    (xb_Late:K.lookup y2_Late.ns = some ⟨z1_Late,z2_Late,.dict et_Late z3_Late,z4_Late⟩)
    (xt_Late:bI et_Late = true)
    (xj_Late:nsFind et_Late "__init__" = none)
    (qcs_Late:(PySem.W.clsIn K c_Late).isSome = true)
    (qga_Late:W.findIn K (.ref c_Late) "__getattribute__" = some (some (.builtin "BaseException.__getattribute__")))
    (qgt_Late:W.findIn K (.ref c_Late) "__getattr__" = some none)
    (qca_Late:W.findIn K (.ref c_Late) "__class__" = some (some (.builtin "object.__class__")))
    (qgg_Late:W.specialIn K (.builtin "object.__class__") "__get__" = some (some (.builtin "getset_descriptor.__get__")))
    (qtk_Late:W.takesIn K (.builtin "object.__class__") = some true)
    (qmo_Late:W.mroIn K c_Late (.type "object") = some true)
    (qsb_Late:PySem.W.subIn K (.ref c_Late) (.type "BaseException") = some true)
    (i_Late_NoEntry:W.kitOne K (.ref c_Late) (.ref c_NoEntry) = some false)
    (i_Late_Late:W.kitOne K (.ref c_Late) (.ref c_Late) = some true)
    (i_Late_NoAct:W.kitOne K (.ref c_Late) (.ref c_NoAct) = some false)
    (i_Late_NoSheet:W.kitOne K (.ref c_Late) (.ref c_NoSheet) = some false)
    (i_Late_NoPath:W.kitOne K (.ref c_Late) (.ref c_NoPath) = some false)
    (i_Late_ValueError:W.kitOne K (.ref c_Late) (.type "ValueError") = some true)
    (e_Late_RightError:PySem.W.exmOne K (.ref c_Late) (.ref c_RightError) = some true)
    (wc_Act:W.findIn K (.ref c_Act) "__class__" = some (some (.builtin "object.__class__")))
    (wg_Act:W.specialIn K (.builtin "object.__class__") "__get__" = some (some (.builtin "getset_descriptor.__get__")))
    (wt_Act:W.takesIn K (.builtin "object.__class__") = some true)
    (wm_Act:W.mroIn K c_Act (.type "object") = some true)
    (ws_Act:W.kitOne K (.ref c_Act) (.ref c_Act) = some true)
    (wn_Act_NoneType:W.kitOne K (.type "NoneType") (.ref c_Act) = some false)
    (wn_Act_int:W.kitOne K (.type "int") (.ref c_Act) = some false)
    (wn_Act_str:W.kitOne K (.type "str") (.ref c_Act) = some false)
    (wn_Act_bool:W.kitOne K (.type "bool") (.ref c_Act) = some false)
    (wn_Act_list:W.kitOne K (.type "list") (.ref c_Act) = some false)
    (wn_Act_tuple:W.kitOne K (.type "tuple") (.ref c_Act) = some false)
    (wn_Act_dict:W.kitOne K (.type "dict") (.ref c_Act) = some false)
    (wc_Entry:W.findIn K (.ref c_Entry) "__class__" = some (some (.builtin "object.__class__")))
    (wg_Entry:W.specialIn K (.builtin "object.__class__") "__get__" = some (some (.builtin "getset_descriptor.__get__")))
    (wt_Entry:W.takesIn K (.builtin "object.__class__") = some true)
    (wm_Entry:W.mroIn K c_Entry (.type "object") = some true)
    (ws_Entry:W.kitOne K (.ref c_Entry) (.ref c_Entry) = some true)
    (wn_Entry_NoneType:W.kitOne K (.type "NoneType") (.ref c_Entry) = some false)
    (wn_Entry_int:W.kitOne K (.type "int") (.ref c_Entry) = some false)
    (wn_Entry_str:W.kitOne K (.type "str") (.ref c_Entry) = some false)
    (wn_Entry_bool:W.kitOne K (.type "bool") (.ref c_Entry) = some false)
    (wn_Entry_list:W.kitOne K (.type "list") (.ref c_Entry) = some false)
    (wn_Entry_tuple:W.kitOne K (.type "tuple") (.ref c_Entry) = some false)
    (wn_Entry_dict:W.kitOne K (.type "dict") (.ref c_Entry) = some false)
    (z_len:W.nsIn K mainGlobals "len" = some none)
    (z_isinstance:W.nsIn K mainGlobals "isinstance" = some none)
    (z_str:W.nsIn K mainGlobals "str" = some none)
    (z_bool:W.nsIn K mainGlobals "bool" = some none)
    (z_all:W.nsIn K mainGlobals "all" = some none)
    (z_range:W.nsIn K mainGlobals "range" = some none)
    (z_int:W.nsIn K mainGlobals "int" = some none)
    (z_list:W.nsIn K mainGlobals "list" = some none)
    (z_min:W.nsIn K mainGlobals "min" = some none)
    (z_max:W.nsIn K mainGlobals "max" = some none)
    (z_dict:W.nsIn K mainGlobals "dict" = some none)
    (z_ValueError:W.nsIn K mainGlobals "ValueError" = some none)
    : ∃ fd:FuncData,(∀ (s:Shared) (v:Value),BindsTo s fd ⟨[v],[]⟩ [("_law_script",v)]) ∧ ∀ base:Heap,K.In base → base.Ns mainGlobals mg → aw l.prog w K mg base fD 7 fa fd ["_law_script"] (se K):=by
  have e:=hfa.symm.trans (PySem.W.mg_of X G a34)
  cases e
  have F0:=ai (st:=dq) l0 c0 k0
  have b0:=F0.binds (ps:=["thing"]) fun _ _ _ _ _ _ us hl=>by
    obtain ⟨a0,us0,rfl,g0⟩:=af hl
    obtain rfl:=len0 g0
    rfl
  have F1:=ai (st:=fu) l1 c1 k1
  have b1:=F1.binds (ps:=["thing"]) fun _ _ _ _ _ _ us hl=>by
    obtain ⟨a0,us0,rfl,g0⟩:=af hl
    obtain rfl:=len0 g0
    rfl
  have F2:=ai (st:=dM) l2 c2 k2
  have b2:=F2.binds (ps:=["thing"]) fun _ _ _ _ _ _ us hl=>by
    obtain ⟨a0,us0,rfl,g0⟩:=af hl
    obtain rfl:=len0 g0
    rfl
  have F3:=ai (st:=eY) l3 c3 k3
  have b3:=F3.binds (ps:=["thing"]) fun _ _ _ _ _ _ us hl=>by
    obtain ⟨a0,us0,rfl,g0⟩:=af hl
    obtain rfl:=len0 g0
    rfl
  have F4:=ai (st:=eZ) l4 c4 k4
  have b4:=F4.binds (ps:=["thing"]) fun _ _ _ _ _ _ us hl=>by
    obtain ⟨a0,us0,rfl,g0⟩:=af hl
    obtain rfl:=len0 g0
    rfl
  have F5:=ai (st:=gq) l5 c5 k5
  have b5:=F5.binds (ps:=["rank"]) fun _ _ _ _ _ _ us hl=>by
    obtain ⟨a0,us0,rfl,g0⟩:=af hl
    obtain rfl:=len0 g0
    rfl
  have F6:=ai (st:=cT) l6 c6 k6
  have b6:=F6.binds (ps:=["number", "day", "rank", "word"]) fun _ _ _ _ _ _ us hl=>by
    obtain ⟨a0,us0,rfl,g0⟩:=af hl
    obtain ⟨a1,us1,rfl,g1⟩:=af g0
    obtain ⟨a2,us2,rfl,g2⟩:=af g1
    obtain ⟨a3,us3,rfl,g3⟩:=af g2
    obtain rfl:=len0 g3
    rfl
  have F7:=ai (st:=cg) l7 c7 k7
  have b7:=F7.binds (ps:=["rank", "under"]) fun _ _ _ _ _ _ us hl=>by
    obtain ⟨a0,us0,rfl,g0⟩:=af hl
    obtain ⟨a1,us1,rfl,g1⟩:=af g0
    obtain rfl:=len0 g1
    rfl
  have F8:=ai (st:=d8) l8 c8 k8
  have b8:=F8.binds (ps:=["rank", "sheet", "base"]) fun _ _ _ _ _ _ us hl=>by
    obtain ⟨a0,us0,rfl,g0⟩:=af hl
    obtain ⟨a1,us1,rfl,g1⟩:=af g0
    obtain ⟨a2,us2,rfl,g2⟩:=af g1
    obtain rfl:=len0 g2
    rfl
  have F9:=ai (st:=gn) l9 c9 k9
  have b9:=F9.binds (ps:=["one", "other"]) fun _ _ _ _ _ _ us hl=>by
    obtain ⟨a0,us0,rfl,g0⟩:=af hl
    obtain ⟨a1,us1,rfl,g1⟩:=af g0
    obtain rfl:=len0 g1
    rfl
  have F10:=ai (st:=eW) l10 c10 k10
  have b10:=F10.binds (ps:=["thing"]) fun _ _ _ _ _ _ us hl=>by
    obtain ⟨a0,us0,rfl,g0⟩:=af hl
    obtain rfl:=len0 g0
    rfl
  have F11:=ai (st:=cn) l11 c11 k11
  have b11:=F11.binds (ps:=["day"]) fun _ _ _ _ _ _ us hl=>by
    obtain ⟨a0,us0,rfl,g0⟩:=af hl
    obtain rfl:=len0 g0
    rfl
  have F12:=ai (st:=cf) l12 c12 k12
  have b12:=F12.binds (ps:=["results", "ahead_of_it", "thing"]) fun _ _ _ _ _ _ us hl=>by
    obtain ⟨a0,us0,rfl,g0⟩:=af hl
    obtain ⟨a1,us1,rfl,g1⟩:=af g0
    obtain ⟨a2,us2,rfl,g2⟩:=af g1
    obtain rfl:=len0 g2
    rfl
  have F13:=ai (st:=d4) l13 c13 k13
  have b13:=F13.binds (ps:=["_law_script", "_law_k"]) fun _ _ _ _ _ _ us hl=>by
    obtain ⟨a0,us0,rfl,g0⟩:=af hl
    obtain ⟨a1,us1,rfl,g1⟩:=af g0
    obtain rfl:=len0 g1
    rfl
  have F14:=ai (st:=fk) l14 c14 k14
  have b14:=F14.binds (ps:=["_law_found"]) fun _ _ _ _ _ _ us hl=>by
    obtain ⟨a0,us0,rfl,g0⟩:=af hl
    obtain rfl:=len0 g0
    rfl
  have F15:=ai (st:=fS) l15 c15 k15
  have b15:=F15.binds (ps:=["_law_cell", "_law_k"]) fun _ _ _ _ _ _ us hl=>by
    obtain ⟨a0,us0,rfl,g0⟩:=af hl
    obtain ⟨a1,us1,rfl,g1⟩:=af g0
    obtain rfl:=len0 g1
    rfl
  have F16:=ai (st:=fV) l16 c16 k16
  have b16:=F16.binds (ps:=["_law_cell", "_law_k", "_law_free"]) fun _ _ _ _ _ _ us hl=>by
    obtain ⟨a0,us0,rfl,g0⟩:=af hl
    obtain ⟨a1,us1,rfl,g1⟩:=af g0
    obtain ⟨a2,us2,rfl,g2⟩:=af g1
    obtain rfl:=len0 g2
    rfl
  have F17:=ai (st:=fU) l17 c17 k17
  have b17:=F17.binds (ps:=["_law_cell", "_law_free"]) fun _ _ _ _ _ _ us hl=>by
    obtain ⟨a0,us0,rfl,g0⟩:=af hl
    obtain ⟨a1,us1,rfl,g1⟩:=af g0
    obtain rfl:=len0 g1
    rfl
  have F18:=ai (st:=dP) l18 c18 k18
  have b18:=F18.binds (ps:=["_law_number_here"]) fun _ _ _ _ _ _ us hl=>by
    obtain ⟨a0,us0,rfl,g0⟩:=af hl
    obtain rfl:=len0 g0
    rfl
  have F19:=ai (st:=fg) l19 c19 k19
  have b19:=F19.binds (ps:=["_law_book_here", "_law_one_here", "_law_other"]) fun _ _ _ _ _ _ us hl=>by
    obtain ⟨a0,us0,rfl,g0⟩:=af hl
    obtain ⟨a1,us1,rfl,g1⟩:=af g0
    obtain ⟨a2,us2,rfl,g2⟩:=af g1
    obtain rfl:=len0 g2
    rfl
  have F20:=ai (st:=gw) l20 c20 k20
  have b20:=F20.binds (ps:=["_law_book_here", "_law_rank", "_law_one_here", "_law_other"]) fun _ _ _ _ _ _ us hl=>by
    obtain ⟨a0,us0,rfl,g0⟩:=af hl
    obtain ⟨a1,us1,rfl,g1⟩:=af g0
    obtain ⟨a2,us2,rfl,g2⟩:=af g1
    obtain ⟨a3,us3,rfl,g3⟩:=af g2
    obtain rfl:=len0 g3
    rfl
  have F21:=ai (st:=gi) l21 c21 k21
  have b21:=F21.binds (ps:=["_law_book_here", "_law_rank", "_law_one_here", "_law_other"]) fun _ _ _ _ _ _ us hl=>by
    obtain ⟨a0,us0,rfl,g0⟩:=af hl
    obtain ⟨a1,us1,rfl,g1⟩:=af g0
    obtain ⟨a2,us2,rfl,g2⟩:=af g1
    obtain ⟨a3,us3,rfl,g3⟩:=af g2
    obtain rfl:=len0 g3
    rfl
  have F22:=ai (st:=fZ) l22 c22 k22
  have b22:=F22.binds (ps:=["_law_book_here", "_law_words_here", "_law_cell", "_law_k", "_law_free"]) fun _ _ _ _ _ _ us hl=>by
    obtain ⟨a0,us0,rfl,g0⟩:=af hl
    obtain ⟨a1,us1,rfl,g1⟩:=af g0
    obtain ⟨a2,us2,rfl,g2⟩:=af g1
    obtain ⟨a3,us3,rfl,g3⟩:=af g2
    obtain ⟨a4,us4,rfl,g4⟩:=af g3
    obtain rfl:=len0 g4
    rfl
  have F23:=ai (st:=gk) l23 c23 k23
  have b23:=F23.binds (ps:=["_law_script", "_law_start"]) fun _ _ _ _ _ _ us hl=>by
    obtain ⟨a0,us0,rfl,g0⟩:=af hl
    obtain ⟨a1,us1,rfl,g1⟩:=af g0
    obtain rfl:=len0 g1
    rfl
  have F24:=ai (st:=gm) l24 c24 k24
  have b24:=F24.binds (ps:=["_law_book_here"]) fun _ _ _ _ _ _ us hl=>by
    obtain ⟨a0,us0,rfl,g0⟩:=af hl
    obtain rfl:=len0 g0
    rfl
  have F25:=ai (st:=lY) l25 c25 k25
  have b25:=F25.binds (ps:=["_law_rank"]) fun _ _ _ _ _ _ us hl=>by
    obtain ⟨a0,us0,rfl,g0⟩:=af hl
    obtain rfl:=len0 g0
    rfl
  have F26:=ai (st:=d9) l26 c26 k26
  have b26:=F26.binds (ps:=["_law_one_here", "_law_name", "_law_right", "_law_borne"]) fun _ _ _ _ _ _ us hl=>by
    obtain ⟨a0,us0,rfl,g0⟩:=af hl
    obtain ⟨a1,us1,rfl,g1⟩:=af g0
    obtain ⟨a2,us2,rfl,g2⟩:=af g1
    obtain ⟨a3,us3,rfl,g3⟩:=af g2
    obtain rfl:=len0 g3
    rfl
  have F27:=ai (st:=eV) l27 c27 k27
  have b27:=F27.binds (ps:=["_law_book_here"]) fun _ _ _ _ _ _ us hl=>by
    obtain ⟨a0,us0,rfl,g0⟩:=af hl
    obtain rfl:=len0 g0
    rfl
  have F28:=ai (st:=gf) l28 c28 k28
  have b28:=F28.binds (ps:=["_law_error"]) fun _ _ _ _ _ _ us hl=>by
    obtain ⟨a0,us0,rfl,g0⟩:=af hl
    obtain rfl:=len0 g0
    rfl
  have F29:=ai (st:=gx) l29 c29 k29
  have b29:=F29.binds (ps:=["_law_book_here", "_law_known", "_law_act", "_law_last"]) fun _ _ _ _ _ _ us hl=>by
    obtain ⟨a0,us0,rfl,g0⟩:=af hl
    obtain ⟨a1,us1,rfl,g1⟩:=af g0
    obtain ⟨a2,us2,rfl,g2⟩:=af g1
    obtain ⟨a3,us3,rfl,g3⟩:=af g2
    obtain rfl:=len0 g3
    rfl
  have F30:=ai (st:=eU) l30 c30 k30
  have b30:=F30.binds (ps:=["_law_book_here", "_law_known", "_law_number_here", "_law_mixed_here"]) fun _ _ _ _ _ _ us hl=>by
    obtain ⟨a0,us0,rfl,g0⟩:=af hl
    obtain ⟨a1,us1,rfl,g1⟩:=af g0
    obtain ⟨a2,us2,rfl,g2⟩:=af g1
    obtain ⟨a3,us3,rfl,g3⟩:=af g2
    obtain rfl:=len0 g3
    rfl
  have F31:=ai (st:=fm) l31 c31 k31
  have b31:=F31.binds (ps:=["_law_clerk", "_law_thing", "_law_place"]) fun _ _ _ _ _ _ us hl=>by
    obtain ⟨a0,us0,rfl,g0⟩:=af hl
    obtain ⟨a1,us1,rfl,g1⟩:=af g0
    obtain ⟨a2,us2,rfl,g2⟩:=af g1
    obtain rfl:=len0 g2
    rfl
  have F32:=ai (st:=hJ) l32 c32 k32
  have b32:=F32.binds (ps:=["_law_found", "_law_acts"]) fun _ _ _ _ _ _ us hl=>by
    obtain ⟨a0,us0,rfl,g0⟩:=af hl
    obtain ⟨a1,us1,rfl,g1⟩:=af g0
    obtain rfl:=len0 g1
    rfl
  have F33:=ai (st:=ir) l33 c33 k33
  have b33:=F33.binds (ps:=["_law_clerk", "_law_book_here", "_law_entry_here", "_law_acts", "_law_mixed_here"]) fun _ _ _ _ _ _ us hl=>by
    obtain ⟨a0,us0,rfl,g0⟩:=af hl
    obtain ⟨a1,us1,rfl,g1⟩:=af g0
    obtain ⟨a2,us2,rfl,g2⟩:=af g1
    obtain ⟨a3,us3,rfl,g3⟩:=af g2
    obtain ⟨a4,us4,rfl,g4⟩:=af g3
    obtain rfl:=len0 g4
    rfl
  have F34:=ai (st:=lP) l34 c34 k34
  have b34:=F34.binds (ps:=["_law_script"]) fun _ _ _ _ _ _ us hl=>by
    obtain ⟨a0,us0,rfl,g0⟩:=af hl
    obtain rfl:=len0 g0
    rfl
  have bb_Results_init:=(ai (st:=cF) l_Results_init k_Results_init p_Results_init).binds (ps:=["self"]) fun _ _ _ _ _ _ us hl=>by
    obtain ⟨a0,us0,rfl,g0⟩:=af hl
    obtain rfl:=len0 g0
    rfl
  have bb_Clerk_init:=(ai (st:=ck) l_Clerk_init k_Clerk_init p_Clerk_init).binds (ps:=["self"]) fun _ _ _ _ _ _ us hl=>by
    obtain ⟨a0,us0,rfl,g0⟩:=af hl
    obtain rfl:=len0 g0
    rfl
  have bb_Results_put:=(ai (st:=cR) l_Results_put k_Results_put p_Results_put).binds (ps:=["self", "entry"]) fun _ _ _ _ _ _ us hl=>by
    obtain ⟨a0,us0,rfl,g0⟩:=af hl
    obtain ⟨a1,us1,rfl,g1⟩:=af g0
    obtain rfl:=len0 g1
    rfl
  have bb_Results_name_of:=(ai (st:=bW) l_Results_name_of k_Results_name_of p_Results_name_of).binds (ps:=["self", "entry"]) fun _ _ _ _ _ _ us hl=>by
    obtain ⟨a0,us0,rfl,g0⟩:=af hl
    obtain ⟨a1,us1,rfl,g1⟩:=af g0
    obtain rfl:=len0 g1
    rfl
  have bb_Results_outcome_of:=(ai (st:=bF) l_Results_outcome_of k_Results_outcome_of p_Results_outcome_of).binds (ps:=["self", "entry", "name"]) fun _ _ _ _ _ _ us hl=>by
    obtain ⟨a0,us0,rfl,g0⟩:=af hl
    obtain ⟨a1,us1,rfl,g1⟩:=af g0
    obtain ⟨a2,us2,rfl,g2⟩:=af g1
    obtain rfl:=len0 g2
    rfl
  have bb_Clerk_publish:=(ai (st:=bq) l_Clerk_publish k_Clerk_publish p_Clerk_publish).binds (ps:=["self", "entry"]) fun _ _ _ _ _ _ us hl=>by
    obtain ⟨a0,us0,rfl,g0⟩:=af hl
    obtain ⟨a1,us1,rfl,g1⟩:=af g0
    obtain rfl:=len0 g1
    rfl
  have bb_Clerk_enter:=(ai (st:=cS) l_Clerk_enter k_Clerk_enter p_Clerk_enter).binds (ps:=["self", "act"]) fun _ _ _ _ _ _ us hl=>by
    obtain ⟨a0,us0,rfl,g0⟩:=af hl
    obtain ⟨a1,us1,rfl,g1⟩:=af g0
    obtain rfl:=len0 g1
    rfl
  have bb_Clerk_book:=(ai (st:=cw) l_Clerk_book k_Clerk_book p_Clerk_book).binds (ps:=["self"]) fun _ _ _ _ _ _ us hl=>by
    obtain ⟨a0,us0,rfl,g0⟩:=af hl
    obtain rfl:=len0 g0
    rfl
  have bb_Clerk_acts:=(ai (st:=cm) l_Clerk_acts k_Clerk_acts p_Clerk_acts).binds (ps:=["self"]) fun _ _ _ _ _ _ us hl=>by
    obtain ⟨a0,us0,rfl,g0⟩:=af hl
    obtain rfl:=len0 g0
    rfl
  have T:Txt w K mg ⟨f0,_,f1,_,f2,_,f3,_,f4,_,f5,_,f6,_,f7,_,f8,_,f9,_,f10,_,f11,_,f12,_,f13,_,f14,_,f15,_,f16,_,f17,_,f18,_,f19,_,f20,_,f21,_,f22,_,f23,_,f24,_,f25,_,f26,_,f27,_,f28,_,f29,_,f30,_,f31,_,f32,_,f33,_,fa,_,c_Entry,f_Entry,t_Entry,_,c_Results,f_Results_init,_,c_Act,f_Act,_,c_Clerk,f_Clerk_init,_,f_Results_put,_,f_Results_name_of,_,f_Results_outcome_of,_,f_Clerk_publish,_,f_Clerk_enter,_,f_Clerk_book,_,f_Clerk_acts,_,u_MOST_LETTERS,u_LAST_DAY,u_LAST_NUMBER,u_RANKS,u_DEEDS,u_ABOVE,c_NoRank,c_NoNumber,c_NoDay,c_NoWord,c_NoEntry,c_NoAct,c_Late,c_RightError,c_NoSheet,c_NoPath,f_NoAct,t_NoAct,_,tk_NoAct⟩:=⟨⟨F0,PySem.W.mg_of X G a0,b0⟩,⟨F1,PySem.W.mg_of X G a1,b1⟩,⟨F2,PySem.W.mg_of X G a2,b2⟩,⟨F3,PySem.W.mg_of X G a3,b3⟩,⟨F4,PySem.W.mg_of X G a4,b4⟩,⟨F5,PySem.W.mg_of X G a5,b5⟩,⟨F6,PySem.W.mg_of X G a6,b6⟩,⟨F7,PySem.W.mg_of X G a7,b7⟩,⟨F8,PySem.W.mg_of X G a8,b8⟩,⟨F9,PySem.W.mg_of X G a9,b9⟩,⟨F10,PySem.W.mg_of X G a10,b10⟩,⟨F11,PySem.W.mg_of X G a11,b11⟩,⟨F12,PySem.W.mg_of X G a12,b12⟩,⟨F13,PySem.W.mg_of X G a13,b13⟩,⟨F14,PySem.W.mg_of X G a14,b14⟩,⟨F15,PySem.W.mg_of X G a15,b15⟩,⟨F16,PySem.W.mg_of X G a16,b16⟩,⟨F17,PySem.W.mg_of X G a17,b17⟩,⟨F18,PySem.W.mg_of X G a18,b18⟩,⟨F19,PySem.W.mg_of X G a19,b19⟩,⟨F20,PySem.W.mg_of X G a20,b20⟩,⟨F21,PySem.W.mg_of X G a21,b21⟩,⟨F22,PySem.W.mg_of X G a22,b22⟩,⟨F23,PySem.W.mg_of X G a23,b23⟩,⟨F24,PySem.W.mg_of X G a24,b24⟩,⟨F25,PySem.W.mg_of X G a25,b25⟩,⟨F26,PySem.W.mg_of X G a26,b26⟩,⟨F27,PySem.W.mg_of X G a27,b27⟩,⟨F28,PySem.W.mg_of X G a28,b28⟩,⟨F29,PySem.W.mg_of X G a29,b29⟩,⟨F30,PySem.W.mg_of X G a30,b30⟩,⟨F31,PySem.W.mg_of X G a31,b31⟩,⟨F32,PySem.W.mg_of X G a32,b32⟩,⟨F33,PySem.W.mg_of X G a33,b33⟩,⟨F34,PySem.W.mg_of X G a34,b34⟩,PySem.W.mg_of X G cg_Entry,⟨pg_Entry,hd_Entry,po_Entry,sa_Entry⟩,⟨mk_Entry,in_Entry,fn_Entry,kc_Entry⟩,gA lf_Entry cf_Entry kf_Entry,na_Entry_number,na_Entry_day,na_Entry_rank,na_Entry_word,na_Entry_under,na_Entry_sheet,na_Entry_base,na_Entry_described,ox (gA lf_Entry cf_Entry kf_Entry) lt_Entry dt_Entry,oh (gA lf_Entry cf_Entry kf_Entry) lt_Entry dt_Entry,PySem.W.mg_of X G cg_Results,⟨pg_Results,hd_Results,po_Results,sa_Results⟩,ai l_Results_init k_Results_init p_Results_init,bb_Results_init,⟨mk_Results,in_Results,fn_Results,kc_Results⟩,na_Results_outs,na_Results_names,na_Results_rights,na_Results_holders,PySem.W.mg_of X G cg_Act,⟨pg_Act,hd_Act,po_Act,sa_Act⟩,⟨mk_Act,in_Act,fn_Act,kc_Act⟩,gA lf_Act cf_Act kf_Act,na_Act_day,na_Act_deed,na_Act_number,rP (gA lf_Act cf_Act kf_Act),PySem.W.mg_of X G cg_Clerk,⟨pg_Clerk,hd_Clerk,po_Clerk,sa_Clerk⟩,ai l_Clerk_init k_Clerk_init p_Clerk_init,bb_Clerk_init,⟨mk_Clerk,in_Clerk,fn_Clerk,kc_Clerk⟩,na_Clerk_entries,na_Clerk_results,na_Clerk_deeds,na_Clerk_piles,ai l_Results_put k_Results_put p_Results_put,bb_Results_put,⟨mf_Results_put,mi_Results_put,p_Results_put⟩,ai l_Results_name_of k_Results_name_of p_Results_name_of,bb_Results_name_of,⟨mf_Results_name_of,mi_Results_name_of,p_Results_name_of⟩,ai l_Results_outcome_of k_Results_outcome_of p_Results_outcome_of,bb_Results_outcome_of,⟨mf_Results_outcome_of,mi_Results_outcome_of,p_Results_outcome_of⟩,ai l_Clerk_publish k_Clerk_publish p_Clerk_publish,bb_Clerk_publish,⟨mf_Clerk_publish,mi_Clerk_publish,p_Clerk_publish⟩,ai l_Clerk_enter k_Clerk_enter p_Clerk_enter,bb_Clerk_enter,⟨mf_Clerk_enter,mi_Clerk_enter,p_Clerk_enter⟩,ai l_Clerk_book k_Clerk_book p_Clerk_book,bb_Clerk_book,⟨mf_Clerk_book,mi_Clerk_book,p_Clerk_book⟩,ai l_Clerk_acts k_Clerk_acts p_Clerk_acts,bb_Clerk_acts,⟨mf_Clerk_acts,mi_Clerk_acts,p_Clerk_acts⟩,PySem.W.mg_of X G cg_MOST_LETTERS,cr_MOST_LETTERS,PySem.W.mg_of X G cg_LAST_DAY,cr_LAST_DAY,PySem.W.mg_of X G cg_LAST_NUMBER,cr_LAST_NUMBER,PySem.W.mg_of X G cg_RANKS,fun H=>rH cl_RANKS cc_RANKS cd_RANKS (by rw [List.size_toArray,← Paired.length cv_RANKS]; exact aM rfl) (by simpa using cv_RANKS),PySem.W.mg_of X G cg_DEEDS,fun H=>rH cl_DEEDS cc_DEEDS cd_DEEDS (by rw [List.size_toArray,← Paired.length cv_DEEDS]; exact aM rfl) (by simpa using cv_DEEDS),PySem.W.mg_of X G cg_ABOVE,⟨⟨_,_,cl_ABOVE,cv_ABOVE⟩,by decide +kernel⟩,PySem.W.mg_of X G cg_NoRank,PySem.W.mg_of X G cg_NoNumber,PySem.W.mg_of X G cg_NoDay,PySem.W.mg_of X G cg_NoWord,PySem.W.mg_of X G cg_NoEntry,PySem.W.mg_of X G cg_NoAct,PySem.W.mg_of X G cg_Late,PySem.W.mg_of X G cg_RightError,PySem.W.mg_of X G cg_NoSheet,PySem.W.mg_of X G cg_NoPath,iL.v5 xl_NoRank xn_NoRank xs_NoRank xi_NoRank xa_NoRank xb_NoRank xt_NoRank xj_NoRank,⟨qcs_NoRank,qga_NoRank,qgt_NoRank,qca_NoRank,qgg_NoRank,qtk_NoRank,qmo_NoRank,qsb_NoRank⟩,i_NoRank_NoEntry,i_NoRank_Late,i_NoRank_NoAct,i_NoRank_NoSheet,i_NoRank_NoPath,i_NoRank_ValueError,e_NoRank_RightError,iL.v5 xl_NoNumber xn_NoNumber xs_NoNumber xi_NoNumber xa_NoNumber xb_NoNumber xt_NoNumber xj_NoNumber,⟨qcs_NoNumber,qga_NoNumber,qgt_NoNumber,qca_NoNumber,qgg_NoNumber,qtk_NoNumber,qmo_NoNumber,qsb_NoNumber⟩,i_NoNumber_NoEntry,i_NoNumber_Late,i_NoNumber_NoAct,i_NoNumber_NoSheet,i_NoNumber_NoPath,i_NoNumber_ValueError,e_NoNumber_RightError,iL.v5 xl_NoDay xn_NoDay xs_NoDay xi_NoDay xa_NoDay xb_NoDay xt_NoDay xj_NoDay,⟨qcs_NoDay,qga_NoDay,qgt_NoDay,qca_NoDay,qgg_NoDay,qtk_NoDay,qmo_NoDay,qsb_NoDay⟩,i_NoDay_NoEntry,i_NoDay_Late,i_NoDay_NoAct,i_NoDay_NoSheet,i_NoDay_NoPath,i_NoDay_ValueError,e_NoDay_RightError,iL.v5 xl_NoWord xn_NoWord xs_NoWord xi_NoWord xa_NoWord xb_NoWord xt_NoWord xj_NoWord,⟨qcs_NoWord,qga_NoWord,qgt_NoWord,qca_NoWord,qgg_NoWord,qtk_NoWord,qmo_NoWord,qsb_NoWord⟩,i_NoWord_NoEntry,i_NoWord_Late,i_NoWord_NoAct,i_NoWord_NoSheet,i_NoWord_NoPath,i_NoWord_ValueError,e_NoWord_RightError,iL.v5 xl_NoEntry xn_NoEntry xs_NoEntry xi_NoEntry xa_NoEntry xb_NoEntry xt_NoEntry xj_NoEntry,⟨qcs_NoEntry,qga_NoEntry,qgt_NoEntry,qca_NoEntry,qgg_NoEntry,qtk_NoEntry,qmo_NoEntry,qsb_NoEntry⟩,i_NoEntry_NoEntry,i_NoEntry_Late,i_NoEntry_NoAct,i_NoEntry_NoSheet,i_NoEntry_NoPath,i_NoEntry_ValueError,e_NoEntry_RightError,gA lf_NoAct cf_NoAct kf_NoAct,⟨sa_NoAct,na_NoAct,hz_NoAct,mo_NoAct⟩,hz_NoAct,na_NoAct,⟨b1_RightError,b2_RightError,b3_RightError⟩,oH (gA lf_NoAct cf_NoAct kf_NoAct) lt_NoAct dt_NoAct,kL.v5 xl_NoAct xn_NoAct xs_NoAct xi_NoAct xa_NoAct xb_NoAct xt_NoAct xj_NoAct fn_NoAct kc_NoAct,⟨qcs_NoAct,qga_NoAct,qgt_NoAct,qca_NoAct,qgg_NoAct,qtk_NoAct,qmo_NoAct,qsb_NoAct⟩,i_NoAct_NoEntry,i_NoAct_Late,i_NoAct_NoAct,i_NoAct_NoSheet,i_NoAct_NoPath,i_NoAct_ValueError,e_NoAct_RightError,iL.v5 xl_Late xn_Late xs_Late xi_Late xa_Late xb_Late xt_Late xj_Late,⟨qcs_Late,qga_Late,qgt_Late,qca_Late,qgg_Late,qtk_Late,qmo_Late,qsb_Late⟩,i_Late_NoEntry,i_Late_Late,i_Late_NoAct,i_Late_NoSheet,i_Late_NoPath,i_Late_ValueError,e_Late_RightError,⟨wc_Act,wg_Act,wt_Act,wm_Act⟩,ws_Act,wn_Act_NoneType,wn_Act_int,wn_Act_str,wn_Act_bool,wn_Act_list,wn_Act_tuple,wn_Act_dict,⟨wc_Entry,wg_Entry,wt_Entry,wm_Entry⟩,ws_Entry,wn_Entry_NoneType,wn_Entry_int,wn_Entry_str,wn_Entry_bool,wn_Entry_list,wn_Entry_tuple,wn_Entry_dict,PySem.W.mg_none_of X G z_len,PySem.W.mg_none_of X G z_isinstance,PySem.W.mg_none_of X G z_str,PySem.W.mg_none_of X G z_bool,PySem.W.mg_none_of X G z_all,PySem.W.mg_none_of X G z_range,PySem.W.mg_none_of X G z_int,PySem.W.mg_none_of X G z_list,PySem.W.mg_none_of X G z_min,PySem.W.mg_none_of X G z_max,PySem.W.mg_none_of X G z_dict,PySem.W.mg_none_of X G z_ValueError⟩
  exact ⟨_,fun s v=>.of_eq rfl,fun base _ _=>xH T⟩
end My
namespace PySem.W.Fast
def tw8657359998508706931:=0
def tw6908731892787152397:=0
def tw1400057876391042672:=0
def tw9601333197455626212:=0
def tw7757308829041197723:=0
def tw4089534654151469268:=0
def tw4016577260333137444:=0
def tw12089323125554133301:=0
def tw10822289503245723462:=0
def tw8274935337436749094:=0
def tw10520381163479164968:=0
def tw8682321778077996739:=0
def tw6584375525025246401:=0
def tw4025523959967216258:=0
def tw9752890699966250531:=0
def tw1748454879514414797:=0
def tw1294890036020952423:=0
def tw3862254357595146292:=0
def tw7340521870564906421:=0
def tw11092157121083297686:=0
def tw10424550817654102927:=0
def tw7578328717886907498:=0
def tw9942450427999427928:=0
def tw15497467100219681583:=0
def tw5217843796148020911:=0
def tw16008060680693848422:=0
def tw3448209496776544261:=0
def tw6515071495270263332:=0
def tw15209324610136083846:=0
def tw11661838191656900876:=0
def tw16479167213507758002:=0
def tw1735232684702749180:=0
def tw1009823883789576115:=0
def tw1067320383690304564:=0
def tw7524000218718650957:=0
def tw15274356024746304370:=0
def tw17018933978612499045:=0
def tw11088478141822094342:=0
def tw14451801717408860482:=0
def tw13393638246826347191:=0
def tw15119619277327583916:=0
def tw7301055935820272929:=0
def tw3606167327245684082:=0
def tw16159915849653324847:=0
def tw15188976351429251116:=0
def tw14039099389136758897:=0
def tw2958718251021694809:=0
def tw4556549750012671167:=0
def tw7003629776722993945:=0
def tw5040110059836050625:=0
def tw2896391908439615812:=0
def tw13887900814150685155:=0
def tw12726835713360333022:=0
def tw1177663448117207784:=0
def tw17572373620849115244:=0
def tw9329597524206206404:=0
def tw12511393798180246303:=0
def tw1900170519416281976:=0
def tw18284159653946043678:=0
def tw10583312038674023704:=0
def tw12384520735111116049:=0
def tw8076715590769593648:=0
def tw6823933918732635841:=0
def tw17896817020750339691:=0
def tw6695208949000134673:=0
def tw2309891931804985673:=0
def tw8008116002954965929:=0
def tw17223304605770538908:=0
def tw6823335848566482855:=0
def tw15080485464359769101:=0
def tw6946453992228426234:=0
def tw12957893164712910363:=0
def tw10935706315727962015:=0
def tw10100305718647205068:=0
def tw14589973577570815749:=0
def tw14818031811562240636:=0
def tw10959380103459949369:=0
def tw9192698018225542031:=0
def tw3818693552801659268:=0
def tw4084527984310149690:=0
def tw8210895390632457081:=0
def tw11645435839551115855:=0
def tw6765042564311481668:=0
def tw17820174676065561485:=0
def tw2395188761016390061:=0
def tw15486736298007659933:=0
def tw1033131863406824061:=0
def tw13034602125751265041:=0
def tw2621113229580629522:=0
def tw14913210295225402000:=0
def tw113105735093740949:=0
def tw15894124035718037149:=0
def tw2520144709761439416:=0
def tw5518371577046073393:=0
def tw6278824772176273278:=0
def tw13810187352442664207:=0
def tw5950601921156687234:=0
def tw18356880732601115550:=0
def tw2351397500811916860:=0
def tw10491164900787678511:=0
def tw6228352053060327325:=0
def tw1981379252449382986:=0
def tw8919657001746861759:=0
def tw11848869578141047195:=0
def tw5403460218725006405:=0
def tw9132542187066902457:=0
def tw2125774127741328009:=0
def tw12532395164008633405:=0
def tw12628737310281538378:=0
def tw3291631337797980781:=0
def tw5721431510553256071:=0
def tw7673159337331435668:=0
def tw4853134842919361335:=0
def tw8425597753616946854:=0
def tw213569631482755817:=0
def tw9118480811351610415:=0
def tw8062237098889769423:=0
def tw13859056718560819957:=0
def tw11608271515241135286:=0
def tw451824590394777512:=0
def tw13799835309498197771:=0
def tw17653784673105283819:=0
def tw14175056114394768893:=0
def tw693187552628518976:=0
def tw6427268418609821660:=0
def tw10147999658646682042:=0
def tw5569170399049206301:=0
def tw1867820554922121088:=0
def tw321926920660845667:=0
def tw8880209979324397146:=0
def tw8733348962355703717:=0
def tw6474410992686398062:=0
def tw15344853039581846992:=0
def tw4590945000691507205:=0
def tw5769705661066328341:=0
def tw7823916170615592025:=0
def tw7576452269398630975:=0
def tw5899720983144198884:=0
def tw2202372762738644187:=0
def tw9358949224534327292:=0
def tw12246070616170850193:=0
def tw7860759716165902484:=0
def tw10047772020681823941:=0
def tw2673458001737330167:=0
def tw11264232146175592816:=0
def tw777413383124179008:=0
def tw15011886743173660917:=0
def tw1999731758529248050:=0
def tw3813738978519799312:=0
def tw13147456549977099230:=0
def tw7955025367798564691:=0
def tw10665015901695647926:=0
def tw7394010716793799274:=0
def tw14085160933421896569:=0
def tw7899557196189280490:=0
def tw18350071394161243641:=0
def tw16147735961815560838:=0
def tw18404219796785281612:=0
def tw10614527594365781568:=0
def tw5666891706282013615:=0
def tw1751638798944309406:=0
def tw10879656758649101809:=0
def tw3783257488428686678:=0
def tw2918760548840817376:=0
def tw4273698427980281032:=0
def tw4357763344058394258:=0
def tw3104316124712515070:=0
def tw1681245246397376261:=0
def tw18374872775404511050:=0
def tw15038631529866968076:=0
def tw6112303508015320810:=0
def tw11874659495193534983:=0
def tw8431756945780882341:=0
def tw14086433615831685428:=0
def tw7947105269205311926:=0
def tw4562351773289281987:=0
def tw6734765740588551417:=0
def tw9748875102711184466:=0
def tw14887789351244228594:=0
def tw10754131339890631574:=0
def tw2574172600323973508:=0
def tw15047714569759527207:=0
def tw12175899500159222676:=0
def tw15418141503004750491:=0
def tw4571356510142265387:=0
def tw13156199186435472258:=0
def tw11180685696330010813:=0
def tw9413883928932964673:=0
def tw10399775338176914365:=0
def tw5647330192962213985:=0
def tw3167072907893487091:=0
def tw3793629575083150436:=0
def tw17648214488179819061:=0
def tw15276459024961145140:=0
def tw13796231356096783388:=0
def tw17217103026216617996:=0
def tw2407297478297663711:=0
def tw8004239205111168884:=0
def tw725350796345047193:=0
def tw13176667842996475633:=0
def tw4669746464820329786:=0
def tw6453847343009857449:=0
def tw9126749450856343952:=0
def tw8377556650766447493:=0
def tw9009005039091087994:=0
def tw5289044089377922077:=0
def tw1217358685162393877:=0
def tw6033218445059448733:=0
def tw5260277803690967156:=0
def tw7261035333960846060:=0
def tw4599313658072720761:=0
def tw3273713173903073900:=0
def tw2802899194559849550:=0
def tw16017384430984952363:=0
def tw14682450767291946967:=0
def tw1484182784435830582:=0
def tw13028723071043807707:=0
def tw3414453827041831380:=0
def tw14041145143339540651:=0
def tw505060614671201773:=0
def tw16220214522826672977:=0
def tw3761584008710841747:=0
def tw16334251823484782287:=0
def tw9599035825206226261:=0
def tw8233531308931601917:=0
def tw17775118257778059360:=0
def tw17525700157222494475:=0
def tw15654065429517270847:=0
def tw10053353400754833301:=0
def tw4975083982325058190:=0
def tw3688775177035695131:=0
def tw467687688024278696:=0
def tw3376424025762714168:=0
def tw10698952897104026678:=0
def tw7313728940008358035:=0
def tw1535336201646290207:=0
def tw1084770885641185817:=0
def tw12230683561498182858:=0
def tw12964095273587028150:=0
def tw10043992464989869561:=0
def tw2214435809360068648:=0
def tw10205957077996117467:=0
def tw4426873541109927393:=0
def tw12641811011000916063:=0
def tw14420463061469568973:=0
def tw14776820159102564820:=0
def tw14730172279056924424:=0
def tw1137400638036308506:=0
def tw14719766599296542506:=0
def tw18049436638785053725:=0
def tw370500411587270594:=0
def tw16955041986380889500:=0
def tw406255839885477940:=0
def tw16437546309438465568:=0
def tw14222626715018093439:=0
def tw1243844399257996789:=0
def tw3904835151506936841:=0
def tw7516314468527535809:=0
def tw18246680155153105539:=0
def tw6037566990354170193:=0
def tw17451335859667821610:=0
def tw13222738588396334221:=0
def tw17301197717758064359:=0
def tw9847302776970613570:=0
def tw8600966961604326391:=0
def tw9692782216970996647:=0
def tw8433263188165673836:=0
def tw17346186587861536516:=0
def tw7711183416218280955:=0
def tw12298208625846754833:=0
def tw16633775838648473532:=0
def tw10585883137068196601:=0
def tw12930278540059157640:=0
def tw5173237553894596550:=0
def tw15103787879536594253:=0
def tw12984550184993997842:=0
def tw12676181643568244648:=0
def tw384943678054791151:=0
def tw16186438195856145442:=0
def tw6183152769526317568:=0
def tw15373496597786273849:=0
def tw11833070346343895333:=0
def tw2765112990321972901:=0
def tw9785899494684472508:=0
def tw6493549487660757266:=0
def tw8931058274734241398:=0
def tw31376456178232065:=0
def tw11375693321978992790:=0
def tw10769808795902736010:=0
def tw11849365699234693082:=0
def tw15870835469272116675:=0
def tw17612063495518582949:=0
def tw13341205729336326521:=0
def tw326430762524772137:=0
def tw929670237199457452:=0
def tw2009055856202489251:=0
def tw4148579193031947064:=0
def tw12322057440466228764:=0
def tw438865554980555300:=0
def tw15330044148398294113:=0
def tw15759402141427665948:=0
def tw4018600036557524039:=0
def tw1772114070062467319:=0
def tw8345241644231594821:=0
def tw18370725049435908509:=0
def tw14703936889701500989:=0
def tw12468359887838917919:=0
def tw15281852238073947501:=0
def tw12705480973646867370:=0
def tw5212435137728733376:=0
def tw16293126732430176784:=0
def tw13875815496298079517:=0
def tw5449422502001167150:=0
def tw13298678097266336735:=0
def tw1488196665061179097:=0
def tw15141008142654521342:=0
def tw16464430369556788590:=0
def tw13603859924132317014:=0
def tw5166433413454604865:=0
def tw4632529087042886963:=0
def tw17508352910157147566:=0
def tw12649098465173509192:=0
def tw9172089552638825029:=0
def tw6120423518677721555:=0
def tw1862071215277510095:=0
def tw2262064691774108291:=0
def tw15636797064218449552:=0
def tw6922999083552943410:=0
def tw3322042586939730137:=0
def tw8554662047809174355:=0
def tw4801443977421225961:=0
def tw10938247024931439447:=0
def tw3914138355273680089:=0
def tw14230750570571549796:=0
def tw7438841705021473132:=0
def tw7580544657645951764:=0
def tw10757398021588178876:=0
def tw8294651396427060270:=0
def tw11294964021440585180:=0
def tw12406775381963323728:=0
def tw2136650923399696134:=0
def tw12114335137223271748:=0
def tw8255110055082527116:=0
def tw7789860637347781992:=0
def tw1117549492488175555:=0
def tw18246842066797539033:=0
def tw8106447224515041873:=0
def tw9380060717980533411:=0
def tw1039306489813776155:=0
def tw2520574486839295825:=0
def tw4703900968249254731:=0
def tw17642365702092253785:=0
def tw2390534257751103558:=0
def tw8178872480174675056:=0
def tw1036765930305406533:=0
def tw690085874416269876:=0
def tw6396002037035514826:=0
def tw15101881235401952469:=0
def tw11537400970546444615:=0
def tw5269075373761765074:=0
def tw4026862339906966803:=0
def tw8533846787082361771:=0
def tw14397348349444295046:=0
def tw2648224384442090922:=0
def tw9540442055890638640:=0
def tw17638410028407210921:=0
def tw600272106350047588:=0
def tw14022886143001134362:=0
def tw13822129863203201016:=0
def tw12058658425095285307:=0
def tw4700761921618082323:=0
def tw15314613106638572903:=0
def tw11803692209030602476:=0
def tw2338420660654161900:=0
def tw12953227681000341870:=0
def tw7875340285078705101:=0
def tw2121848083864939329:=0
def tw9159778729540384998:=0
def tw5009177042205755977:=0
def tw7332073347160066889:=0
def tw9094699000328709059:=0
def tw10266244130137237119:=0
def tw9870449283957805316:=0
def tw11343052922016173573:=0
def tw8623549782730931654:=0
def tw3355895819396774396:=0
def tw15950579504649225860:=0
def tw26715491666889964:=0
def tw6102033434267388026:=0
def tw14165859840748247193:=0
def tw14087533938354450138:=0
def tw11436848488564374645:=0
def tw3798626770173210428:=0
def tw15669939833342353673:=0
def tw17752547740496935514:=0
def tw5877160890211846063:=0
def tw3820108353270931895:=0
def tw117183403037904234:=0
def tw11390769805399652067:=0
def tw15183179014675188216:=0
def tw14854986492191664234:=0
def tw1762032907136692048:=0
def tw7900559464976552245:=0
def tw5260802311878130086:=0
def tw14645581812262624826:=0
def tw11848782787078240832:=0
def tw8705781816479720134:=0
def tw12104006803581223987:=0
def tw8912011640685827483:=0
def tw4504931937704798527:=0
def tw9320022971976146985:=0
def tw7214248012279496619:=0
def tw13570931755374371083:=0
def tw4125487111432434191:=0
def tw4874890762618125136:=0
def tw13088367512309018730:=0
def tw4287725540469854570:=0
def tw16695448314997411568:=0
def tw4156571793346404523:=0
def tw15214627482400146578:=0
def tw9015886817914733514:=0
def tw1847966342724404205:=0
def tw10217105153998237395:=0
def tw8875272274241657042:=0
def tw7848093292185379699:=0
def tw4356250861512136429:=0
def tw6360454958726937274:=0
def tw1065611306029334442:=0
def tw12181001643492734031:=0
def tw8565413696272421747:=0
def tw4496211311532907787:=0
def tw4346113281477031446:=0
def tw12695280517768742599:=0
def tw14543092440402591599:=0
def tw6987566934892533753:=0
def tw4563827040337132802:=0
def tw12934724507080523064:=0
def tw17251828015316094421:=0
def tw4326063438690576347:=0
def tw4581699111685652708:=0
def tw12393188969291055206:=0
def tw1358511806375247489:=0
def tw11207592608413685006:=0
def tw17648194989299547068:=0
def tw18107374038300034116:=0
def tw12974329530132087691:=0
def tw16339905713370562860:=0
def tw6719397546468077409:=0
def tw1033844788037171135:=0
def tw9238358998836451513:=0
def tw9953992233175352986:=0
def tw4156125527382664257:=0
def tw1243106357509263865:=0
def tw12754839108525649029:=0
def tw483411018183879658:=0
def tw67713020496280393:=0
def tw1328726765579761322:=0
def tw5757992453950073493:=0
def tw2137527147569116467:=0
def tw8759039576317918573:=0
def tw15149135535461749911:=0
def tw13961599913963496978:=0
def tw16011468181063505136:=0
def tw8235004456193293791:=0
def tw9246346815739890068:=0
def tw6464965211620063315:=0
def tw15414704445046741527:=0
def tw15372653917640853615:=0
def tw12450949442687401164:=0
def tw6439167442271657818:=0
def tw12943614686052941114:=0
def tw6260696268467309213:=0
def tw13520997461784861525:=0
def tw9517609822629697107:=0
def tw13770117843021278001:=0
def tw3727298193540717098:=0
def tw9593084957381423060:=0
def tw3724376628505892688:=0
def tw14582365007862077498:=0
def tw15244643177728062002:=0
def tw7571029215282785857:=0
def tw1220144236905278278:=0
def tw4282283053679528189:=0
def tw5893875442039609445:=0
def tw8136286372311598005:=0
def tw2782578792247985166:=0
def tw13653289056115149028:=0
def tw8342517053822146886:=0
def tw6301100467118376905:=0
def tw17691445955099101156:=0
def tw15114338433733320804:=0
def tw14272953154284422679:=0
def tw17605008509955155293:=0
def tw5301531152298846758:=0
def tw3627718536834393384:=0
def tw14941274780915345625:=0
def tw13162529935172707170:=0
def tw9389882439057791440:=0
def tw16253584085142754663:=0
def tw14167325918008980258:=0
def tw12716613588826512976:=0
def tw18401272931409644176:=0
def tw11497911064227314214:=0
def tw5249996553824486299:=0
def tw6754892989248639675:=0
def tw17400894168175004630:=0
def tw5700078220854359704:=0
def tw9923878204852981394:=0
def tw3265664795611272804:=0
def tw10852609481530105799:=0
def tw12997467171035194899:=0
def tw3014811089890016130:=0
def tw14704549248489158377:=0
def tw13388590988780490750:=0
def tw4893688402504331335:=0
def tw1406843543000224013:=0
def tw1125815257787373653:=0
def tw6113991589426715838:=0
def tw13336318344813993122:=0
def tw6397370005052908086:=0
def tw10744429292340768942:=0
def tw1634919819099040997:=0
def tw16641937284001745948:=0
def tw4686982357629633499:=0
def tw17569882788364540073:=0
def tw12288160600942680400:=0
def tw1979013816774520221:=0
def tw14761964048772217096:=0
def tw2007027050454512571:=0
def tw18397778667196866711:=0
def tw8511741860416142304:=0
def tw12316909687651515752:=0
def tw16448676787772965696:=0
def tw1778354098515550139:=0
def tw487283863888404159:=0
def tw18280107047066487508:=0
def tw4752487883507841840:=0
def tw15139323667679205401:=0
def tw5866528229618113161:=0
def tw11295805760003530492:=0
def tw1692109389351122220:=0
def tw13822369512374766529:=0
def tw15517354564929358378:=0
def tw15251026527251936103:=0
def tw5378483281887363041:=0
def tw16433236373994590648:=0
def tw17849315166547317459:=0
def tw9047580826618934053:=0
def tw10478954429224146787:=0
def tw10466231469955300834:=0
def tw16094263546445813854:=0
def tw5655776640172787106:=0
def tw10848935834670538283:=0
def tw5197223005212903577:=0
def tw13215616580678371111:=0
def tw6022464857692664782:=0
def tw9388530473729092689:=0
def tw12534281824921524060:=0
def tw13185422910170705986:=0
def tw525057189090177880:=0
def tw17848979415102342405:=0
def tw8277098164300624362:=0
def tw744118250216277014:=0
def tw7792114148676317900:=0
def tw9883738044653527132:=0
def tw3533597071067565809:=0
def tw10969577354203954620:=0
def tw12508799661527691231:=0
def tw10130662827821852706:=0
def tw434021720683120813:=0
def tw484694439538836949:=0
def tw13143799316836521166:=0
def tw15434138799644968719:=0
def tw10725969183315635883:=0
def tw8353919171584072964:=0
def tw16461005563121570951:=0
def tw12384398989598151647:=0
def tw4617731431144009168:=0
def tw965518820927633240:=0
def tw5075555871807634783:=0
def tw15681901363199695844:=0
def tw13586568575056952877:=0
def tw14191169678057760098:=0
def tw1891154309632190540:=0
def tw8410964715719598446:=0
def tw15072342135080825576:=0
def tw4752705984369184580:=0
def tw6502748404471935757:=0
def tw3328755683121528018:=0
def tw5716404457499712911:=0
def tw4378024001499101338:=0
def tw17041814099872113925:=0
def tw6797540376557096021:=0
def tw3774551758957514865:=0
def tw8332810701065541114:=0
def tw3094353529216556469:=0
def tw10619035301051996499:=0
def tw14409937176233390096:=0
def tw10832522788851304307:=0
def tw1663079093757074103:=0
def tw16581045195888745504:=0
def tw5890332744924120619:=0
def tw15645553451798561147:=0
def tw17733719553952664747:=0
def tw13276783746127160964:=0
def tw4876288226409423018:=0
def tw11234538835456697207:=0
def tw3937945797745651928:=0
def tw987211033944299240:=0
def tw11304188799884322222:=0
def tw2959238997744691516:=0
def tw12398408174974745991:=0
def tw15256101510210767454:=0
def tw10404822908311751809:=0
def tw4947255047215349324:=0
def tw10182097247055821523:=0
def tw14486616816210169545:=0
def tw7499499225125993382:=0
def tw13887226655441074187:=0
def tw6577526091376115260:=0
def tw16929745460396157348:=0
def tw10916772006615822235:=0
def tw13854991375105671295:=0
def tw15679390088024886948:=0
end PySem.W.Fast
open PySem PySem.W PyProof.Rows
set_option maxRecDepth 100000 in
set_option maxHeartbeats 0 in
theorem PySem.Challenge.cw_rightname_k72_entered_holds : PySem.Challenge.rw_rightname_k72_entered.Holds := by
  w_on; o_law; k_head; (case hw => w_witness2)
  k_fill
  refine L2.sg (l := PySem.Challenge.rw_rightname_k72_entered) (n := 63) (k := 7) (x := "_law_script") (CX := L2.fD) (sp := My.se) rfl (by decide) rfl ⟨rfl, by decide, by decide⟩ (fun w h Y => PySem.W.kIn_of Y) ?F ?S ?C
  case F =>
    intro w mg fa h KX G hmg
    refine' My.all_mk KX G hmg ?pa0 ?pl0 ?pc0 ?pk0 ?pa1 ?pl1 ?pc1 ?pk1 ?pa2 ?pl2 ?pc2 ?pk2 ?pa3 ?pl3 ?pc3 ?pk3 ?pa4 ?pl4 ?pc4 ?pk4 ?pa5 ?pl5 ?pc5 ?pk5 ?pa6 ?pl6 ?pc6 ?pk6 ?pa7 ?pl7 ?pc7 ?pk7 ?pa8 ?pl8 ?pc8 ?pk8 ?pa9 ?pl9 ?pc9 ?pk9 ?pa10 ?pl10 ?pc10 ?pk10 ?pa11 ?pl11 ?pc11 ?pk11 ?pa12 ?pl12 ?pc12 ?pk12 ?pa13 ?pl13 ?pc13 ?pk13 ?pa14 ?pl14 ?pc14 ?pk14 ?pa15 ?pl15 ?pc15 ?pk15 ?pa16 ?pl16 ?pc16 ?pk16 ?pa17 ?pl17 ?pc17 ?pk17 ?pa18 ?pl18 ?pc18 ?pk18 ?pa19 ?pl19 ?pc19 ?pk19 ?pa20 ?pl20 ?pc20 ?pk20 ?pa21 ?pl21 ?pc21 ?pk21 ?pa22 ?pl22 ?pc22 ?pk22 ?pa23 ?pl23 ?pc23 ?pk23 ?pa24 ?pl24 ?pc24 ?pk24 ?pa25 ?pl25 ?pc25 ?pk25 ?pa26 ?pl26 ?pc26 ?pk26 ?pa27 ?pl27 ?pc27 ?pk27 ?pa28 ?pl28 ?pc28 ?pk28 ?pa29 ?pl29 ?pc29 ?pk29 ?pa30 ?pl30 ?pc30 ?pk30 ?pa31 ?pl31 ?pc31 ?pk31 ?pa32 ?pl32 ?pc32 ?pk32 ?pa33 ?pl33 ?pc33 ?pk33 ?pa34 ?pl34 ?pc34 ?pk34 ?pcg_Entry ?ppg_Entry ?phd_Entry ?ppo_Entry ?psa_Entry ?pmk_Entry ?pin_Entry ?pfn_Entry ?pkc_Entry ?pkf_Entry ?plf_Entry ?pcf_Entry ?plt_Entry ?pdt_Entry ?pna_Entry_number ?pna_Entry_day ?pna_Entry_rank ?pna_Entry_word ?pna_Entry_under ?pna_Entry_sheet ?pna_Entry_base ?pna_Entry_described ?pcg_Results ?ppg_Results ?phd_Results ?ppo_Results ?psa_Results ?pkc_Results ?pmk_Results ?pin_Results ?pfn_Results ?pl_Results_init ?pk_Results_init ?pp_Results_init ?pna_Results_outs ?pna_Results_names ?pna_Results_rights ?pna_Results_holders ?pcg_Act ?ppg_Act ?phd_Act ?ppo_Act ?psa_Act ?pmk_Act ?pin_Act ?pfn_Act ?pkc_Act ?pkf_Act ?plf_Act ?pcf_Act ?pna_Act_day ?pna_Act_deed ?pna_Act_number ?pcg_Clerk ?ppg_Clerk ?phd_Clerk ?ppo_Clerk ?psa_Clerk ?pkc_Clerk ?pmk_Clerk ?pin_Clerk ?pfn_Clerk ?pl_Clerk_init ?pk_Clerk_init ?pp_Clerk_init ?pna_Clerk_entries ?pna_Clerk_results ?pna_Clerk_deeds ?pna_Clerk_piles ?pmf_Results_put ?pmi_Results_put ?pl_Results_put ?pk_Results_put ?pp_Results_put ?pmf_Results_name_of ?pmi_Results_name_of ?pl_Results_name_of ?pk_Results_name_of ?pp_Results_name_of ?pmf_Results_outcome_of ?pmi_Results_outcome_of ?pl_Results_outcome_of ?pk_Results_outcome_of ?pp_Results_outcome_of ?pmf_Clerk_publish ?pmi_Clerk_publish ?pl_Clerk_publish ?pk_Clerk_publish ?pp_Clerk_publish ?pmf_Clerk_enter ?pmi_Clerk_enter ?pl_Clerk_enter ?pk_Clerk_enter ?pp_Clerk_enter ?pmf_Clerk_book ?pmi_Clerk_book ?pl_Clerk_book ?pk_Clerk_book ?pp_Clerk_book ?pmf_Clerk_acts ?pmi_Clerk_acts ?pl_Clerk_acts ?pk_Clerk_acts ?pp_Clerk_acts ?pcg_MOST_LETTERS ?pcr_MOST_LETTERS ?pcg_LAST_DAY ?pcr_LAST_DAY ?pcg_LAST_NUMBER ?pcr_LAST_NUMBER ?pcg_RANKS ?pcl_RANKS ?pcc_RANKS ?pcd_RANKS ?pcv_RANKS ?pcg_DEEDS ?pcl_DEEDS ?pcc_DEEDS ?pcd_DEEDS ?pcv_DEEDS ?pcg_ABOVE ?pcl_ABOVE ?pcv_ABOVE ?pcg_NoRank ?pcg_NoNumber ?pcg_NoDay ?pcg_NoWord ?pcg_NoEntry ?pcg_NoAct ?pcg_Late ?pcg_RightError ?pcg_NoSheet ?pcg_NoPath ?pxl_NoRank ?pxn_NoRank ?pxs_NoRank ?pxi_NoRank ?pxa_NoRank ?pxb_NoRank ?pxt_NoRank ?pxj_NoRank ?pqcs_NoRank ?pqga_NoRank ?pqgt_NoRank ?pqca_NoRank ?pqgg_NoRank ?pqtk_NoRank ?pqmo_NoRank ?pqsb_NoRank ?pi_NoRank_NoEntry ?pi_NoRank_Late ?pi_NoRank_NoAct ?pi_NoRank_NoSheet ?pi_NoRank_NoPath ?pi_NoRank_ValueError ?pe_NoRank_RightError ?pxl_NoNumber ?pxn_NoNumber ?pxs_NoNumber ?pxi_NoNumber ?pxa_NoNumber ?pxb_NoNumber ?pxt_NoNumber ?pxj_NoNumber ?pqcs_NoNumber ?pqga_NoNumber ?pqgt_NoNumber ?pqca_NoNumber ?pqgg_NoNumber ?pqtk_NoNumber ?pqmo_NoNumber ?pqsb_NoNumber ?pi_NoNumber_NoEntry ?pi_NoNumber_Late ?pi_NoNumber_NoAct ?pi_NoNumber_NoSheet ?pi_NoNumber_NoPath ?pi_NoNumber_ValueError ?pe_NoNumber_RightError ?pxl_NoDay ?pxn_NoDay ?pxs_NoDay ?pxi_NoDay ?pxa_NoDay ?pxb_NoDay ?pxt_NoDay ?pxj_NoDay ?pqcs_NoDay ?pqga_NoDay ?pqgt_NoDay ?pqca_NoDay ?pqgg_NoDay ?pqtk_NoDay ?pqmo_NoDay ?pqsb_NoDay ?pi_NoDay_NoEntry ?pi_NoDay_Late ?pi_NoDay_NoAct ?pi_NoDay_NoSheet ?pi_NoDay_NoPath ?pi_NoDay_ValueError ?pe_NoDay_RightError ?pxl_NoWord ?pxn_NoWord ?pxs_NoWord ?pxi_NoWord ?pxa_NoWord ?pxb_NoWord ?pxt_NoWord ?pxj_NoWord ?pqcs_NoWord ?pqga_NoWord ?pqgt_NoWord ?pqca_NoWord ?pqgg_NoWord ?pqtk_NoWord ?pqmo_NoWord ?pqsb_NoWord ?pi_NoWord_NoEntry ?pi_NoWord_Late ?pi_NoWord_NoAct ?pi_NoWord_NoSheet ?pi_NoWord_NoPath ?pi_NoWord_ValueError ?pe_NoWord_RightError ?pxl_NoEntry ?pxn_NoEntry ?pxs_NoEntry ?pxi_NoEntry ?pxa_NoEntry ?pxb_NoEntry ?pxt_NoEntry ?pxj_NoEntry ?pqcs_NoEntry ?pqga_NoEntry ?pqgt_NoEntry ?pqca_NoEntry ?pqgg_NoEntry ?pqtk_NoEntry ?pqmo_NoEntry ?pqsb_NoEntry ?pi_NoEntry_NoEntry ?pi_NoEntry_Late ?pi_NoEntry_NoAct ?pi_NoEntry_NoSheet ?pi_NoEntry_NoPath ?pi_NoEntry_ValueError ?pe_NoEntry_RightError ?pin_NoAct ?pfn_NoAct ?pkc_NoAct ?pkf_NoAct ?plf_NoAct ?pcf_NoAct ?plt_NoAct ?pdt_NoAct ?psa_NoAct ?pna_NoAct ?phz_NoAct ?pmo_NoAct ?pb1_RightError ?pb2_RightError ?pb3_RightError ?pxl_NoAct ?pxn_NoAct ?pxs_NoAct ?pxi_NoAct ?pxa_NoAct ?pxb_NoAct ?pxt_NoAct ?pxj_NoAct ?pqcs_NoAct ?pqga_NoAct ?pqgt_NoAct ?pqca_NoAct ?pqgg_NoAct ?pqtk_NoAct ?pqmo_NoAct ?pqsb_NoAct ?pi_NoAct_NoEntry ?pi_NoAct_Late ?pi_NoAct_NoAct ?pi_NoAct_NoSheet ?pi_NoAct_NoPath ?pi_NoAct_ValueError ?pe_NoAct_RightError ?pxl_Late ?pxn_Late ?pxs_Late ?pxi_Late ?pxa_Late ?pxb_Late ?pxt_Late ?pxj_Late ?pqcs_Late ?pqga_Late ?pqgt_Late ?pqca_Late ?pqgg_Late ?pqtk_Late ?pqmo_Late ?pqsb_Late ?pi_Late_NoEntry ?pi_Late_Late ?pi_Late_NoAct ?pi_Late_NoSheet ?pi_Late_NoPath ?pi_Late_ValueError ?pe_Late_RightError ?pwc_Act ?pwg_Act ?pwt_Act ?pwm_Act ?pws_Act ?pwn_Act_NoneType ?pwn_Act_int ?pwn_Act_str ?pwn_Act_bool ?pwn_Act_list ?pwn_Act_tuple ?pwn_Act_dict ?pwc_Entry ?pwg_Entry ?pwt_Entry ?pwm_Entry ?pws_Entry ?pwn_Entry_NoneType ?pwn_Entry_int ?pwn_Entry_str ?pwn_Entry_bool ?pwn_Entry_list ?pwn_Entry_tuple ?pwn_Entry_dict ?pz_len ?pz_isinstance ?pz_str ?pz_bool ?pz_all ?pz_range ?pz_int ?pz_list ?pz_min ?pz_max ?pz_dict ?pz_ValueError
    (case pa0 => k_is)
    (case pl0 => k_is)
    (case pc0 => k_is)
    (case pk0 => k_is)
    (case pa1 => k_is)
    (case pl1 => k_is)
    (case pc1 => k_is)
    (case pk1 => k_is)
    (case pa2 => k_is)
    (case pl2 => k_is)
    (case pc2 => k_is)
    (case pk2 => k_is)
    (case pa3 => k_is)
    (case pl3 => k_is)
    (case pc3 => k_is)
    (case pk3 => k_is)
    (case pa4 => k_is)
    (case pl4 => k_is)
    (case pc4 => k_is)
    (case pk4 => k_is)
    (case pa5 => k_is)
    (case pl5 => k_is)
    (case pc5 => k_is)
    (case pk5 => k_is)
    (case pa6 => k_is)
    (case pl6 => k_is)
    (case pc6 => k_is)
    (case pk6 => k_is)
    (case pa7 => k_is)
    (case pl7 => k_is)
    (case pc7 => k_is)
    (case pk7 => k_is)
    (case pa8 => k_is)
    (case pl8 => k_is)
    (case pc8 => k_is)
    (case pk8 => k_is)
    (case pa9 => k_is)
    (case pl9 => k_is)
    (case pc9 => k_is)
    (case pk9 => k_is)
    (case pa10 => k_is)
    (case pl10 => k_is)
    (case pc10 => k_is)
    (case pk10 => k_is)
    (case pa11 => k_is)
    (case pl11 => k_is)
    (case pc11 => k_is)
    (case pk11 => k_is)
    (case pa12 => k_is)
    (case pl12 => k_is)
    (case pc12 => k_is)
    (case pk12 => k_is)
    (case pa13 => k_is)
    (case pl13 => k_is)
    (case pc13 => k_is)
    (case pk13 => k_is)
    (case pa14 => k_is)
    (case pl14 => k_is)
    (case pc14 => k_is)
    (case pk14 => k_is)
    (case pa15 => k_is)
    (case pl15 => k_is)
    (case pc15 => k_is)
    (case pk15 => k_is)
    (case pa16 => k_is)
    (case pl16 => k_is)
    (case pc16 => k_is)
    (case pk16 => k_is)
    (case pa17 => k_is)
    (case pl17 => k_is)
    (case pc17 => k_is)
    (case pk17 => k_is)
    (case pa18 => k_is)
    (case pl18 => k_is)
    (case pc18 => k_is)
    (case pk18 => k_is)
    (case pa19 => k_is)
    (case pl19 => k_is)
    (case pc19 => k_is)
    (case pk19 => k_is)
    (case pa20 => k_is)
    (case pl20 => k_is)
    (case pc20 => k_is)
    (case pk20 => k_is)
    (case pa21 => k_is)
    (case pl21 => k_is)
    (case pc21 => k_is)
    (case pk21 => k_is)
    (case pa22 => k_is)
    (case pl22 => k_is)
    (case pc22 => k_is)
    (case pk22 => k_is)
    (case pa23 => k_is)
    (case pl23 => k_is)
    (case pc23 => k_is)
    (case pk23 => k_is)
    (case pa24 => k_is)
    (case pl24 => k_is)
    (case pc24 => k_is)
    (case pk24 => k_is)
    (case pa25 => k_is)
    (case pl25 => k_is)
    (case pc25 => k_is)
    (case pk25 => k_is)
    (case pa26 => k_is)
    (case pl26 => k_is)
    (case pc26 => k_is)
    (case pk26 => k_is)
    (case pa27 => k_is)
    (case pl27 => k_is)
    (case pc27 => k_is)
    (case pk27 => k_is)
    (case pa28 => k_is)
    (case pl28 => k_is)
    (case pc28 => k_is)
    (case pk28 => k_is)
    (case pa29 => k_is)
    (case pl29 => k_is)
    (case pc29 => k_is)
    (case pk29 => k_is)
    (case pa30 => k_is)
    (case pl30 => k_is)
    (case pc30 => k_is)
    (case pk30 => k_is)
    (case pa31 => k_is)
    (case pl31 => k_is)
    (case pc31 => k_is)
    (case pk31 => k_is)
    (case pa32 => k_is)
    (case pl32 => k_is)
    (case pc32 => k_is)
    (case pk32 => k_is)
    (case pa33 => k_is)
    (case pl33 => k_is)
    (case pc33 => k_is)
    (case pk33 => k_is)
    (case pa34 => k_is)
    (case pl34 => k_is)
    (case pc34 => k_is)
    (case pk34 => k_is)
    (case pcg_Entry => k_is)
    (case ppg_Entry => k_is)
    (case phd_Entry => k_is)
    (case ppo_Entry => k_is)
    (case psa_Entry => k_is)
    (case pmk_Entry => k_is)
    (case pin_Entry => k_is)
    (case pfn_Entry => k_is)
    (case pkc_Entry => k_is)
    (case pkf_Entry => k_is)
    (case plf_Entry => k_is)
    (case pcf_Entry => k_is)
    (case plt_Entry => k_is)
    (case pdt_Entry => exact rfl)
    (case pna_Entry_number => k_is)
    (case pna_Entry_day => k_is)
    (case pna_Entry_rank => k_is)
    (case pna_Entry_word => k_is)
    (case pna_Entry_under => k_is)
    (case pna_Entry_sheet => k_is)
    (case pna_Entry_base => k_is)
    (case pna_Entry_described => k_is)
    (case pcg_Results => k_is)
    (case ppg_Results => k_is)
    (case phd_Results => k_is)
    (case ppo_Results => k_is)
    (case psa_Results => k_is)
    (case pkc_Results => k_is)
    (case pmk_Results => k_is)
    (case pin_Results => k_is)
    (case pfn_Results => k_is)
    (case pl_Results_init => k_is)
    (case pk_Results_init => k_is)
    (case pp_Results_init => k_is)
    (case pna_Results_outs => k_is)
    (case pna_Results_names => k_is)
    (case pna_Results_rights => k_is)
    (case pna_Results_holders => k_is)
    (case pcg_Act => k_is)
    (case ppg_Act => k_is)
    (case phd_Act => k_is)
    (case ppo_Act => k_is)
    (case psa_Act => k_is)
    (case pmk_Act => k_is)
    (case pin_Act => k_is)
    (case pfn_Act => k_is)
    (case pkc_Act => k_is)
    (case pkf_Act => k_is)
    (case plf_Act => k_is)
    (case pcf_Act => k_is)
    (case pna_Act_day => k_is)
    (case pna_Act_deed => k_is)
    (case pna_Act_number => k_is)
    (case pcg_Clerk => k_is)
    (case ppg_Clerk => k_is)
    (case phd_Clerk => k_is)
    (case ppo_Clerk => k_is)
    (case psa_Clerk => k_is)
    (case pkc_Clerk => k_is)
    (case pmk_Clerk => k_is)
    (case pin_Clerk => k_is)
    (case pfn_Clerk => k_is)
    (case pl_Clerk_init => k_is)
    (case pk_Clerk_init => k_is)
    (case pp_Clerk_init => k_is)
    (case pna_Clerk_entries => k_is)
    (case pna_Clerk_results => k_is)
    (case pna_Clerk_deeds => k_is)
    (case pna_Clerk_piles => k_is)
    (case pmf_Results_put => k_is)
    (case pmi_Results_put => k_is)
    (case pl_Results_put => k_is)
    (case pk_Results_put => k_is)
    (case pp_Results_put => k_is)
    (case pmf_Results_name_of => k_is)
    (case pmi_Results_name_of => k_is)
    (case pl_Results_name_of => k_is)
    (case pk_Results_name_of => k_is)
    (case pp_Results_name_of => k_is)
    (case pmf_Results_outcome_of => k_is)
    (case pmi_Results_outcome_of => k_is)
    (case pl_Results_outcome_of => k_is)
    (case pk_Results_outcome_of => k_is)
    (case pp_Results_outcome_of => k_is)
    (case pmf_Clerk_publish => k_is)
    (case pmi_Clerk_publish => k_is)
    (case pl_Clerk_publish => k_is)
    (case pk_Clerk_publish => k_is)
    (case pp_Clerk_publish => k_is)
    (case pmf_Clerk_enter => k_is)
    (case pmi_Clerk_enter => k_is)
    (case pl_Clerk_enter => k_is)
    (case pk_Clerk_enter => k_is)
    (case pp_Clerk_enter => k_is)
    (case pmf_Clerk_book => k_is)
    (case pmi_Clerk_book => k_is)
    (case pl_Clerk_book => k_is)
    (case pk_Clerk_book => k_is)
    (case pp_Clerk_book => k_is)
    (case pmf_Clerk_acts => k_is)
    (case pmi_Clerk_acts => k_is)
    (case pl_Clerk_acts => k_is)
    (case pk_Clerk_acts => k_is)
    (case pp_Clerk_acts => k_is)
    (case pcg_MOST_LETTERS => k_is)
    (case pcr_MOST_LETTERS => first | exact L2.mQ | exact L2.mO | exact rfl)
    (case pcg_LAST_DAY => k_is)
    (case pcr_LAST_DAY => first | exact L2.mQ | exact L2.mO | exact rfl)
    (case pcg_LAST_NUMBER => k_is)
    (case pcr_LAST_NUMBER => first | exact L2.mQ | exact L2.mO | exact rfl)
    (case pcg_RANKS => k_is)
    (case pcl_RANKS => k_is)
    (case pcc_RANKS => exact rfl)
    (case pcd_RANKS => exact rfl)
    (case pcv_RANKS => exact (.cons ⟨_, rfl⟩ (.cons ⟨_, rfl⟩ (.cons ⟨_, rfl⟩ .nil))))
    (case pcg_DEEDS => k_is)
    (case pcl_DEEDS => k_is)
    (case pcc_DEEDS => exact rfl)
    (case pcd_DEEDS => exact rfl)
    (case pcv_DEEDS => exact (.cons ⟨_, rfl⟩ (.cons ⟨_, rfl⟩ (.cons ⟨_, rfl⟩ .nil))))
    (case pcg_ABOVE => k_is)
    (case pcl_ABOVE => k_is)
    (case pcv_ABOVE => exact (.cons ⟨rfl, ⟨_, rfl⟩, rfl⟩ (.cons ⟨rfl, ⟨_, rfl⟩, ⟨_, rfl⟩⟩ (.cons ⟨rfl, ⟨_, rfl⟩, ⟨_, rfl⟩⟩ .nil))))
    (case pcg_NoRank => k_is)
    (case pcg_NoNumber => k_is)
    (case pcg_NoDay => k_is)
    (case pcg_NoWord => k_is)
    (case pcg_NoEntry => k_is)
    (case pcg_NoAct => k_is)
    (case pcg_Late => k_is)
    (case pcg_RightError => k_is)
    (case pcg_NoSheet => k_is)
    (case pcg_NoPath => k_is)
    (case pxl_NoRank => k_is)
    (case pxn_NoRank => k_is)
    (case pxs_NoRank => kernel_rfl)
    (case pxi_NoRank => kernel_rfl)
    (case pxa_NoRank => k_is)
    (case pxb_NoRank => k_is)
    (case pxt_NoRank => kernel_rfl)
    (case pxj_NoRank => kernel_rfl)
    (case pqcs_NoRank => kernel_rfl)
    (case pqga_NoRank => k_is)
    (case pqgt_NoRank => k_is)
    (case pqca_NoRank => k_is)
    (case pqgg_NoRank => k_is)
    (case pqtk_NoRank => k_is)
    (case pqmo_NoRank => k_is)
    (case pqsb_NoRank => k_is)
    (case pi_NoRank_NoEntry => kernel_rfl)
    (case pi_NoRank_Late => kernel_rfl)
    (case pi_NoRank_NoAct => kernel_rfl)
    (case pi_NoRank_NoSheet => kernel_rfl)
    (case pi_NoRank_NoPath => kernel_rfl)
    (case pi_NoRank_ValueError => kernel_rfl)
    (case pe_NoRank_RightError => kernel_rfl)
    (case pxl_NoNumber => k_is)
    (case pxn_NoNumber => k_is)
    (case pxs_NoNumber => kernel_rfl)
    (case pxi_NoNumber => kernel_rfl)
    (case pxa_NoNumber => k_is)
    (case pxb_NoNumber => k_is)
    (case pxt_NoNumber => kernel_rfl)
    (case pxj_NoNumber => kernel_rfl)
    (case pqcs_NoNumber => kernel_rfl)
    (case pqga_NoNumber => k_is)
    (case pqgt_NoNumber => k_is)
    (case pqca_NoNumber => k_is)
    (case pqgg_NoNumber => k_is)
    (case pqtk_NoNumber => k_is)
    (case pqmo_NoNumber => k_is)
    (case pqsb_NoNumber => k_is)
    (case pi_NoNumber_NoEntry => kernel_rfl)
    (case pi_NoNumber_Late => kernel_rfl)
    (case pi_NoNumber_NoAct => kernel_rfl)
    (case pi_NoNumber_NoSheet => kernel_rfl)
    (case pi_NoNumber_NoPath => kernel_rfl)
    (case pi_NoNumber_ValueError => kernel_rfl)
    (case pe_NoNumber_RightError => kernel_rfl)
    (case pxl_NoDay => k_is)
    (case pxn_NoDay => k_is)
    (case pxs_NoDay => kernel_rfl)
    (case pxi_NoDay => kernel_rfl)
    (case pxa_NoDay => k_is)
    (case pxb_NoDay => k_is)
    (case pxt_NoDay => kernel_rfl)
    (case pxj_NoDay => kernel_rfl)
    (case pqcs_NoDay => kernel_rfl)
    (case pqga_NoDay => k_is)
    (case pqgt_NoDay => k_is)
    (case pqca_NoDay => k_is)
    (case pqgg_NoDay => k_is)
    (case pqtk_NoDay => k_is)
    (case pqmo_NoDay => k_is)
    (case pqsb_NoDay => k_is)
    (case pi_NoDay_NoEntry => kernel_rfl)
    (case pi_NoDay_Late => kernel_rfl)
    (case pi_NoDay_NoAct => kernel_rfl)
    (case pi_NoDay_NoSheet => kernel_rfl)
    (case pi_NoDay_NoPath => kernel_rfl)
    (case pi_NoDay_ValueError => kernel_rfl)
    (case pe_NoDay_RightError => kernel_rfl)
    (case pxl_NoWord => k_is)
    (case pxn_NoWord => k_is)
    (case pxs_NoWord => kernel_rfl)
    (case pxi_NoWord => kernel_rfl)
    (case pxa_NoWord => k_is)
    (case pxb_NoWord => k_is)
    (case pxt_NoWord => kernel_rfl)
    (case pxj_NoWord => kernel_rfl)
    (case pqcs_NoWord => kernel_rfl)
    (case pqga_NoWord => k_is)
    (case pqgt_NoWord => k_is)
    (case pqca_NoWord => k_is)
    (case pqgg_NoWord => k_is)
    (case pqtk_NoWord => k_is)
    (case pqmo_NoWord => k_is)
    (case pqsb_NoWord => k_is)
    (case pi_NoWord_NoEntry => kernel_rfl)
    (case pi_NoWord_Late => kernel_rfl)
    (case pi_NoWord_NoAct => kernel_rfl)
    (case pi_NoWord_NoSheet => kernel_rfl)
    (case pi_NoWord_NoPath => kernel_rfl)
    (case pi_NoWord_ValueError => kernel_rfl)
    (case pe_NoWord_RightError => kernel_rfl)
    (case pxl_NoEntry => k_is)
    (case pxn_NoEntry => k_is)
    (case pxs_NoEntry => kernel_rfl)
    (case pxi_NoEntry => kernel_rfl)
    (case pxa_NoEntry => k_is)
    (case pxb_NoEntry => k_is)
    (case pxt_NoEntry => kernel_rfl)
    (case pxj_NoEntry => kernel_rfl)
    (case pqcs_NoEntry => kernel_rfl)
    (case pqga_NoEntry => k_is)
    (case pqgt_NoEntry => k_is)
    (case pqca_NoEntry => k_is)
    (case pqgg_NoEntry => k_is)
    (case pqtk_NoEntry => k_is)
    (case pqmo_NoEntry => k_is)
    (case pqsb_NoEntry => k_is)
    (case pi_NoEntry_NoEntry => kernel_rfl)
    (case pi_NoEntry_Late => kernel_rfl)
    (case pi_NoEntry_NoAct => kernel_rfl)
    (case pi_NoEntry_NoSheet => kernel_rfl)
    (case pi_NoEntry_NoPath => kernel_rfl)
    (case pi_NoEntry_ValueError => kernel_rfl)
    (case pe_NoEntry_RightError => kernel_rfl)
    (case pin_NoAct => k_is)
    (case pfn_NoAct => k_is)
    (case pkc_NoAct => k_is)
    (case pkf_NoAct => k_is)
    (case plf_NoAct => k_is)
    (case pcf_NoAct => k_is)
    (case plt_NoAct => k_is)
    (case pdt_NoAct => exact rfl)
    (case psa_NoAct => k_is)
    (case pna_NoAct => k_is)
    (case phz_NoAct => k_is)
    (case pmo_NoAct => k_is)
    (case pb1_RightError => k_is)
    (case pb2_RightError => k_is)
    (case pb3_RightError => k_is)
    (case pxl_NoAct => k_is)
    (case pxn_NoAct => k_is)
    (case pxs_NoAct => kernel_rfl)
    (case pxi_NoAct => kernel_rfl)
    (case pxa_NoAct => k_is)
    (case pxb_NoAct => k_is)
    (case pxt_NoAct => kernel_rfl)
    (case pxj_NoAct => kernel_rfl)
    (case pqcs_NoAct => kernel_rfl)
    (case pqga_NoAct => k_is)
    (case pqgt_NoAct => k_is)
    (case pqca_NoAct => k_is)
    (case pqgg_NoAct => k_is)
    (case pqtk_NoAct => k_is)
    (case pqmo_NoAct => k_is)
    (case pqsb_NoAct => k_is)
    (case pi_NoAct_NoEntry => kernel_rfl)
    (case pi_NoAct_Late => kernel_rfl)
    (case pi_NoAct_NoAct => kernel_rfl)
    (case pi_NoAct_NoSheet => kernel_rfl)
    (case pi_NoAct_NoPath => kernel_rfl)
    (case pi_NoAct_ValueError => kernel_rfl)
    (case pe_NoAct_RightError => kernel_rfl)
    (case pxl_Late => k_is)
    (case pxn_Late => k_is)
    (case pxs_Late => kernel_rfl)
    (case pxi_Late => kernel_rfl)
    (case pxa_Late => k_is)
    (case pxb_Late => k_is)
    (case pxt_Late => kernel_rfl)
    (case pxj_Late => kernel_rfl)
    (case pqcs_Late => kernel_rfl)
    (case pqga_Late => k_is)
    (case pqgt_Late => k_is)
    (case pqca_Late => k_is)
    (case pqgg_Late => k_is)
    (case pqtk_Late => k_is)
    (case pqmo_Late => k_is)
    (case pqsb_Late => k_is)
    (case pi_Late_NoEntry => kernel_rfl)
    (case pi_Late_Late => kernel_rfl)
    (case pi_Late_NoAct => kernel_rfl)
    (case pi_Late_NoSheet => kernel_rfl)
    (case pi_Late_NoPath => kernel_rfl)
    (case pi_Late_ValueError => kernel_rfl)
    (case pe_Late_RightError => kernel_rfl)
    (case pwc_Act => k_is)
    (case pwg_Act => k_is)
    (case pwt_Act => k_is)
    (case pwm_Act => k_is)
    (case pws_Act => kernel_rfl)
    (case pwn_Act_NoneType => kernel_rfl)
    (case pwn_Act_int => kernel_rfl)
    (case pwn_Act_str => kernel_rfl)
    (case pwn_Act_bool => kernel_rfl)
    (case pwn_Act_list => kernel_rfl)
    (case pwn_Act_tuple => kernel_rfl)
    (case pwn_Act_dict => kernel_rfl)
    (case pwc_Entry => k_is)
    (case pwg_Entry => k_is)
    (case pwt_Entry => k_is)
    (case pwm_Entry => k_is)
    (case pws_Entry => kernel_rfl)
    (case pwn_Entry_NoneType => kernel_rfl)
    (case pwn_Entry_int => kernel_rfl)
    (case pwn_Entry_str => kernel_rfl)
    (case pwn_Entry_bool => kernel_rfl)
    (case pwn_Entry_list => kernel_rfl)
    (case pwn_Entry_tuple => kernel_rfl)
    (case pwn_Entry_dict => kernel_rfl)
    (case pz_len => k_is)
    (case pz_isinstance => k_is)
    (case pz_str => k_is)
    (case pz_bool => k_is)
    (case pz_all => k_is)
    (case pz_range => k_is)
    (case pz_int => k_is)
    (case pz_list => k_is)
    (case pz_min => k_is)
    (case pz_max => k_is)
    (case pz_dict => k_is)
    (case pz_ValueError => k_is)
  case S => exact fun K H a ns hl hO hS => ⟨a, ns, rfl, hS, hl, fun _ => rfl⟩
  case C => exact fun _ _ _ _ z => z
#print axioms PySem.Challenge.cw_rightname_k72_entered_holds
