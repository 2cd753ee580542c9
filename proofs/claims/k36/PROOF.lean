import PyProof.Rows.All
import Wide.All
import OpenK.AllK
import Wide.FinOn
import Lean
import PyProof.EqAt
import PyProof.EqKinds
import PyProof.TupleCall
import PySem.Challenge.RW_rightname_k36_whole_days_gone_by
set_option Elab.async false
set_option linter.all false
set_option maxRecDepth 100000
namespace L2
open PySem PySem.Spec PyProof.Rows
abbrev Key:=Sum Int Str
def hU:Key → Value → Bool
 | .inl k,v=>Value.isInt k v
 | .inr x,v=>Value.isStrOf x v
def Ar (w:World):Key → Int
 | .inl k=>hashInt k
 | .inr x=>hashStr w x
theorem bc:∀ {k:Key} {v:Value},hU k v = true → (∃ i t,k = Sum.inl i ∧ v = Value.int i t) ∨ (∃ x t,k = Sum.inr x ∧ v = Value.str x t)
 | .inl i,v,h=>by
  obtain ⟨t,e⟩:=Value.isInt_shape (k:=i) (v:=v) h
  exact .inl ⟨i,t,rfl,e⟩
 | .inr x,v,h=>by
  obtain ⟨t,e⟩:=Value.isStrOf_shape (x:=x) (v:=v) h
  exact .inr ⟨x,t,rfl,e⟩
theorem t8 (i:Int) (t:Tok):hU (.inl i) (.int i t) = true:=by simp [hU,Value.isInt]
theorem jL (x:Str) (t:Tok):hU (.inr x) (.str x t) = true:=by simp [hU,Value.isStrOf]
theorem yj (a b:Int):decide ((Sum.inl a:Key) = Sum.inl b) = (a == b):=by
 by_cases e:a = b
 ·subst e; simp
 ·have h:¬ (Sum.inl a:Key) = Sum.inl b:=fun q=>e (Sum.inl.inj q)
  rw [decide_eq_false h]
  exact (beq_eq_false_iff_ne.mpr e).symm
theorem yD (a b:Str):decide ((Sum.inr a:Key) = Sum.inr b) = decide (a = b):=by
 by_cases e:a = b
 ·subst e; simp
 ·have h:¬ (Sum.inr a:Key) = Sum.inr b:=fun q=>e (Sum.inr.inj q)
  rw [decide_eq_false h,decide_eq_false e]
theorem yZ (a:Int) (b:Str):decide ((Sum.inl a:Key) = Sum.inr b) = false:=decide_eq_false (fun q=>nomatch q)
theorem xw (a:Str) (b:Int):decide ((Sum.inr a:Key) = Sum.inl b) = false:=decide_eq_false (fun q=>nomatch q)
def aV (prog:Program) (w:World):PySem.KeyKind prog w Key where
 is:=hU
 hash:=Ar w
 inj:=fun v a b ha hb=>by
  rcases bc ha with ⟨i,t,rfl,rfl⟩ | ⟨x,t,rfl,rfl⟩
  ·rcases bc hb with ⟨j,u,rfl,e⟩ | ⟨y,u,rfl,e⟩
   ·injection e with e1 _; rw [e1]
   ·exact nomatch e
  ·rcases bc hb with ⟨j,u,rfl,e⟩ | ⟨y,u,rfl,e⟩
   ·exact nomatch e
   ·injection e with e1 _; rw [e1]
 byValue:=fun k v h=>by
  rcases bc h with ⟨i,t,rfl,rfl⟩ | ⟨x,t,rfl,rfl⟩ <;> rfl
 pyHash:=fun hv h=>by
  rcases bc hv with ⟨i,t,rfl,rfl⟩ | ⟨x,t,rfl,rfl⟩
  ·exact wpAny_pyHash_int h
  ·exact wpAny_pyHash_str h
 eqBool:=fun hu hv h=>by
  rcases bc hu with ⟨i,t,rfl,rfl⟩ | ⟨x,t,rfl,rfl⟩
  ·rcases bc hv with ⟨j,u,rfl,rfl⟩ | ⟨y,u,rfl,rfl⟩
   ·rw [yj] at h; exact wpAny_eqBool_int h
   ·rw [yZ] at h; exact SeqAt.EqAt.int_str i t y u _ _ _ _ h
  ·rcases bc hv with ⟨j,u,rfl,rfl⟩ | ⟨y,u,rfl,rfl⟩
   ·rw [xw] at h; exact SeqAt.EqAt.str_int x t j u _ _ _ _ h
   ·rw [yD] at h; exact wpAny_eqBool_str h
 «strs»:=fun k x t v h=>by
  rcases bc h with ⟨i,u,rfl,e⟩ | ⟨y,u,rfl,e⟩
  ·exact nomatch e
  ·injection e with e1 _
   subst e1
   cases v <;> rfl
theorem pZ (prog:Program) (w:World) (i:Int) (t:Tok):(aV prog w).is (.inl i) (.int i t) = true:=t8 i t
theorem oW (prog:Program) (w:World) (x:Str) (t:Tok):(aV prog w).is (.inr x) (.str x t) = true:=jL x t
end L2
namespace L2
open PySem PySem.Spec PyProof.Rows
inductive V where
 | bI | bl (b:Bool) | int (i:Int) | str (x:Str) | byt (b:Array UInt8) | flt (b:UInt64) | ref (a:Addr) | ty (n:String)
 deriving DecidableEq
def RelV:V → Value → Prop
 | .bI,u=>u = Value.none
 | .bl b,u=>u = Value.bool b
 | .int i,u=>∃ t,u = Value.int i t
 | .str x,u=>∃ t,u = Value.str x t
 | .byt b,u=>∃ t,u = Value.bytes b t
 | .flt b,u=>∃ t,u = Value.float b t
 | .ref a,u=>u = Value.ref a
 | .ty n,u=>u = Value.type n
abbrev Vals:List V → List Value → Prop:=Paired RelV
theorem Vals.length {xs:List V} {us:List Value} (r:Vals xs us):xs.length = us.length:=Paired.length r
theorem Vals.get:∀ {xs:List V} {us:List Value} {i:Nat} {x:V},Vals xs us → xs[i]? = some x → ∃ u,us[i]? = some u ∧ RelV x u
 | _,_,_,_,.nil,e=>by simp at e
 | _,_,0,_,.cons r _,e=>by simp at e; subst e; exact ⟨_,rfl,r⟩
 | _,_,i + 1,x,.cons _ t,e=>by
  obtain ⟨u,h1,h2⟩:=Vals.get (i:=i) (x:=x) t (by simpa using e)
  exact ⟨u,by simpa using h1,h2⟩
theorem Vals.set {x:V} {u:Value} (r:RelV x u):∀ {xs:List V} {us:List Value} (i:Nat),Vals xs us → Vals (xs.set i x) (us.set i u)
 | _,_,_,.nil=>.nil
 | _,_,0,.cons _ t=>.cons r t
 | _,_,i + 1,.cons q t=>.cons q (Vals.set r i t)
theorem Vals.append:∀ {xs ys:List V} {us ws:List Value},Vals xs us → Vals ys ws → Vals (xs ++ ys) (us ++ ws)
 | _,_,_,_,.nil,s=>s
 | _,_,_,_,.cons r t,s=>.cons r (Vals.append t s)
theorem Vals.take:∀ {xs:List V} {us:List Value} (n:Nat),Vals xs us → Vals (xs.take n) (us.take n)
 | _,_,0,_=>.nil
 | _,_,_ + 1,.nil=>.nil
 | _,_,n + 1,.cons r t=>.cons r (Vals.take n t)
theorem Vals.drop:∀ {xs:List V} {us:List Value} (n:Nat),Vals xs us → Vals (xs.drop n) (us.drop n)
 | _,_,0,r=>r
 | _,_,_ + 1,.nil=>.nil
 | _,_,n + 1,.cons _ t=>Vals.drop n t
theorem Vals.none_of:∀ {xs:List V} {us:List Value} {i:Nat},Vals xs us → xs[i]? = none → us[i]? = none:=fun {xs us i} r e=>by
 have h1:=r.length
 have h2:xs.length ≤ i:=List.getElem?_eq_none_iff.mp e
 exact List.getElem?_eq_none_iff.mpr (by omega)
def eY:Option V → Option Value → Prop
 | some v,some u=>RelV v u
 | none,none=>True
 | _,_=>False
def KV {κ:Type}:List (κ × V) → List (κ × Value) → Prop:=Paired fun (p:κ × V) (q:κ × Value)=>p.1 = q.1 ∧ RelV p.2 q.2
def kV:Key → V
 | .inl i=>.int i
 | .inr x=>.str x
inductive HO where
  | lst (xs:List V)
  | tup (xs:List V)
  | dK (kvs:List (Key × V)) | dT (kvs:List (List Key × V))
  | set (S:Int → Bool) (n:Nat)
  | ins (C dx:Addr) (fs:List (Str × V))
  | own (x:Addr)
  | xd (fs:List (Str × V))
  | met (f x:Addr)
  | rng (lo hi:Int)
  | frz (o:Obj) (u:HO)
  | tbl (ps:Array Value)
  | ext (φ:Heap → Prop)
abbrev Hp:=Addr → Option HO
def upd (H:Hp) (a:Addr) (o:HO):Hp:=fun b=>if b = a then some o else H b
theorem aB {H:Hp} {a:Addr} {o:HO}:upd H a o a = some o:=by unfold upd; rw [if_pos rfl]
theorem aI {H:Hp} {a b:Addr} {o:HO} (h:b ≠ a):upd H a o b = H b:=by unfold upd; rw [if_neg h]
theorem dz {H:Hp} {a:Addr} {o u:HO}:upd (upd H a o) a u = upd H a u:=by
 funext b; unfold upd; split <;> rfl
theorem ax {H:Hp} {a b:Addr} {o u:HO} (h:H a = some o) (h':H b = some u) (d:o ≠ u):a ≠ b:=by
 intro e; subst e; rw [h] at h'; exact d (Option.some.inj h')
theorem aL {H:Hp} {a b:Addr} {o:HO} (h:H a = some o) (h':H b = none):a ≠ b:=by
 intro e; subst e; rw [h] at h'; cases h'
section
variable (P:Program) (w:World)
def bQ (H:Hp) (h:Heap) (a:Addr):HO → Prop
 | .lst xs=>xs.length ≤ sizeLine ∧ ∃ (au:List Value) (n:Nat),Vals xs au ∧ h.get? a = some { cls:=.type "list",data:=.seq au.toArray n }
 | .tup xs=>xs.length ≤ sizeLine ∧ ∃ au:List Value,Vals xs au ∧ IsTup h a au.toArray
 | .dK kvs=>kvs.length ≤ sizeLine ∧ (a == sysModules) = false ∧ ∃ vs,KV kvs vs ∧ h.DictOf (aV P w) a vs
 | .dT kvs=>kvs.length ≤ sizeLine ∧ (a == sysModules) = false ∧ ∃ xs:List (List Key × Addr × Value),
   Paired (fun (p:List Key × V) (q:List Key × Addr × Value)=>p.1 = q.1 ∧ H q.2.1 = some (.tup (p.1.map kV)) ∧ RelV p.2 q.2.2) kvs xs ∧
   ∃ o es ep,h.get? a = some o ∧ o.ExactDict ∧ o.data = .dict es ep ∧ es.toList = xs.map (entryOfKey (tupleKind (aV P w))) ∧ (xs.map (·.1)).Nodup
 | .set S n=>h.SetOf (intKind P w) a S n
 | .ins C dx fs=>H dx = some (.own a) ∧ fs.length ≤ 1000 ∧ dx ≠ a ∧ h.get? a = some (PySem.W.instObj C dx) ∧
   ∃ mA,h.Ns1 dx mA ∧ (∀ f,eY (fs.lookup f) (mA f)) ∧ PySem.Within mA (fs.map (·.1))
 | .own _=>∃ o,h.get? a = some o
 | .xd fs=>∃ mA,h.Ns1 a mA ∧ ∀ f,eY (fs.lookup f) (mA f)
 | .rng lo hi=>∃ t u v,h.get? a = some { cls:=.type "range",data:=.fields #[.int lo t,.int hi u,.int 1 v] }
 | .frz o u=>h.get? a = some o ∧ bQ H h a u
 | .tbl ps=>h.get? a = some { cls:=.none,data:=.fields ps }
 | .met f x=>h.get? a = some (PySem.W.methodObj (.ref f) (.ref x))
 | .ext φ=>φ h ∧ (∃ o,h.get? a = some o) ∧ ∀ h1 h2:Heap,φ h1 → (∀ o,h1.get? a = some o → h2.get? a = some o) → φ h2
def eV (H:Hp) (h:Heap):Prop:=∀ a o,H a = some o → bQ P w H h a o
end
section
variable {P:Program} {w:World} {H H':Hp} {h h':Heap} {a:Addr} {o:HO}
theorem bQ.lt (x:bQ P w H h a o):a < h.objs.size:=by
 cases o with
 | lst xs=>obtain ⟨_,_,_,_,e⟩:=x; exact Heap.lt_size e
 | tup xs=>obtain ⟨_,_,_,p⟩:=x; exact p.lt
 | dK kvs=>obtain ⟨_,_,_,_,o,_,_,e,_⟩:=x; exact Heap.lt_size e
 | dT kvs=>obtain ⟨_,_,_,_,o,_,_,e,_⟩:=x; exact Heap.lt_size e
 | set S n=>obtain ⟨o,_,_,_,e,_⟩:=x; exact Heap.lt_size e
 | ins C dx fs=>obtain ⟨_,_,_,e,_⟩:=x; exact Heap.lt_size e
 | own y=>obtain ⟨_,e⟩:=x; exact Heap.lt_size e
 | xd fs=>obtain ⟨_,⟨_,_,_,e,_⟩,_⟩:=x; exact Heap.lt_size e
 | rng lo hi=>obtain ⟨_,_,_,e⟩:=x; exact Heap.lt_size e
 | frz ob u=>obtain ⟨e,_⟩:=x; exact Heap.lt_size e
 | tbl ps=>exact Heap.lt_size (show h.get? a = some _ from x)
 | met f y=>exact Heap.lt_size (show h.get? a = some _ from x)
 | ext φ=>obtain ⟨_,⟨_,e⟩,_⟩:=x; exact Heap.lt_size e
theorem Paired.dn {α β:Type} {F G:α → β → Prop}:∀ {l₁:List α} {l₂:List β},Paired F l₁ l₂ → (∀ a b,F a b → G a b) → Paired G l₁ l₂
 | _,_,.nil,_=>.nil
 | _,_,.cons r t,f=>.cons (f _ _ r) (Paired.dn t f)
theorem bQ.jE (x:bQ P w H h a o) (k:∀ b u,(b = a ∨ H b = some (.own a)) → h.get? b = some u → h'.get? b = some u)
  (ho:∀ b,H b = some (.own a) → H' b = some (.own a)) (ht:∀ b xs,H b = some (.tup xs) → H' b = some (.tup xs)):bQ P w H' h' a o:=by
 induction o with
 | lst xs=>obtain ⟨z,au,n,r,e⟩:=x; exact ⟨z,au,n,r,k _ _ (.inl rfl) e⟩
 | tup xs=>obtain ⟨z,au,r,ob,e,c⟩:=x; exact ⟨z,au,r,ob,k _ _ (.inl rfl) e,c⟩
 | dK kvs=>obtain ⟨z,y,vs,r,ob,es,ep,e,c⟩:=x; exact ⟨z,y,vs,r,ob,es,ep,k _ _ (.inl rfl) e,c⟩
 | dT kvs =>
  obtain ⟨z,y,xs,r,ob,es,ep,e,c⟩:=x
  exact ⟨z,y,xs,Paired.dn r fun p q z=>⟨z.1,ht _ _ z.2.1,z.2.2⟩,ob,es,ep,k _ _ (.inl rfl) e,c⟩
 | set S n=>obtain ⟨ob,es,ep,t,e,c⟩:=x; exact ⟨ob,es,ep,t,k _ _ (.inl rfl) e,c⟩
 | ins C dx fs =>
  obtain ⟨d,z,ne,e,mA,⟨od,es,ep,e2,c⟩,r⟩:=x
  exact ⟨ho _ d,z,ne,k _ _ (.inl rfl) e,mA,⟨od,es,ep,k _ _ (.inr d) e2,c⟩,r⟩
 | own y=>obtain ⟨ob,e⟩:=x; exact ⟨ob,k _ _ (.inl rfl) e⟩
 | xd fs=>obtain ⟨mA,⟨od,es,ep,e,c⟩,r⟩:=x; exact ⟨mA,⟨od,es,ep,k _ _ (.inl rfl) e,c⟩,r⟩
 | rng lo hi=>obtain ⟨t,u,v,e⟩:=x; exact ⟨t,u,v,k _ _ (.inl rfl) e⟩
 | frz ob u ih=>obtain ⟨e,q⟩:=x; exact ⟨k _ _ (.inl rfl) e,ih q⟩
 | tbl ps =>
  have e:h.get? a = some { cls:=.none,data:=.fields ps }:=x
  show h'.get? a = some { cls:=.none,data:=.fields ps }
  exact k a _ (.inl rfl) e
 | met f y =>
  have e:h.get? a = some (PySem.W.methodObj (.ref f) (.ref y)):=x
  show h'.get? a = some (PySem.W.methodObj (.ref f) (.ref y))
  exact k a _ (.inl rfl) e
 | ext φ=>obtain ⟨p,⟨o,e⟩,st⟩:=x; exact ⟨st _ _ p fun o q=>k _ _ (.inl rfl) q,⟨o,k _ _ (.inl rfl) e⟩,st⟩
theorem eV.lt (x:eV P w H h) (e:H a = some o):a < h.objs.size:=(x a o e).lt
theorem eV.fresh (x:eV P w H h) (e:h.objs.size ≤ a):H a = none:=by
 cases q:H a with
 | none=>rfl
 | some u=>exact absurd (Nat.lt_of_lt_of_le (x.lt q) e) (Nat.lt_irrefl _)
theorem eV.kept (x:eV P w H h) (k:∀ b u,h.get? b = some u → h'.get? b = some u):eV P w H h':=fun a o e =>
 (x a o e).jE (fun b u _ q=>k b u q) (fun _ q=>q) fun _ _ q=>q
theorem eV.laid (x:eV P w H h) (k:∀ b u,h.get? b = some u → h'.get? b = some u) (hp:h.objs.size ≤ a) (new:bQ P w (upd H a o) h' a o):eV P w (upd H a o) h':=fun b u e=>by
 have hn:=x.fresh hp
 by_cases hb:b = a
 ·subst hb; rw [aB] at e; cases e; exact new
 ·rw [aI hb] at e
  exact (x b u e).jE (fun c v _ q=>k c v q) (fun c q=>by rw [aI (aL q hn)]; exact q) fun c xs q=>by rw [aI (aL q hn)]; exact q
end
def Rd (H:Hp) (a:Addr) (u:HO):Prop:=H a = some u ∨ ∃ o,H a = some (.frz o u)
theorem Rd.of {H:Hp} {a:Addr} {u:HO} (h:H a = some u):Rd H a u:=.inl h
theorem Rd.ok {P:Program} {w:World} {H:Hp} {h:Heap} {a:Addr} {u:HO} (r:Rd H a u) (x:eV P w H h):bQ P w H h a u:=by
 rcases r with r | ⟨o,r⟩
 ·exact x a u r
 ·obtain ⟨_,q⟩:=x a _ r
  exact q
def AL:Option HO → Prop
 | some (.lst _)=>True
 | some (.dK _)=>True
 | some (.dT _)=>True
 | some (.set _ _)=>True
 | some (.ins _ _ _)=>True
 | some (.ext _)=>True
 | _=>False
section
variable {P:Program} {w:World} {H:Hp} {h h':Heap} {x e:Addr} {o':HO}
theorem eV.write (ok:eV P w H h) (mu:AL (H x)) (he:e = x ∨ H e = some (.own x)) (k:∀ b u,b ≠ e → h.get? b = some u → h'.get? b = some u) (heo:∃ u,h'.get? e = some u)
  (new:bQ P w (upd H x o') h' x o'):eV P w (upd H x o') h':=fun b u q=>by
 have nown:∀ c y,H c = some (.own y) → c ≠ x:=fun c y r z=>by subst z; rw [r] at mu; exact mu
 have ntup:∀ c xs,H c = some (.tup xs) → c ≠ x:=fun c xs r z=>by subst z; rw [r] at mu; exact mu
 by_cases hb:b = x
 ·subst hb; rw [aB] at q; cases q; exact new
 ·rw [aI hb] at q
  by_cases hbe:b = e
  ·have q':H b = some (.own x):=by
    rcases he with z | z
    ·exact absurd (hbe.trans z) hb
    ·rw [hbe]; exact z
   rw [q] at q'; cases q'
   obtain ⟨v,hv⟩:=heo
   exact ⟨v,by rw [hbe]; exact hv⟩
  ·refine (ok b u q).jE (fun c v hc r=>k c v ?_ r) (fun c r=>by rw [aI (nown c b r)]; exact r) fun c xs r=>by rw [aI (ntup c xs r)]; exact r
   rcases hc with rfl | hc
   ·exact hbe
   ·rintro rfl
    rcases he with z | z
    ·exact nown c b hc z
    ·rw [hc] at z; cases z; exact hb rfl
end
structure Un (fs ex:List Addr) (H H':Hp) (h h':Heap):Prop where
 keep:∀ b o,h.get? b = some o → H b = none → b ∉ fs → b ∉ ex → h'.get? b = some o
 slot:∀ b o,h.get? b = some o → H b = none → b ∈ fs → b ∉ ex → ∃ sl,h'.get? b = some { o with slots:=sl }
 free:∀ b o,h.get? b = some o → H b = none → b ∉ ex → H' b = none
 there:∀ b o,h.get? b = some o → b ∉ ex → ∃ o',h'.get? b = some o'
 tups:∀ b xs,H b = some (.tup xs) → H' b = some (.tup xs)
 frzs:∀ b o u,H b = some (.frz o u) → H' b = some (.frz o u)
 tbls:∀ b ps,H b = some (.tbl ps) → ∃ more,H' b = some (.tbl (ps ++ more))
section
variable {fs fs' ex ex':List Addr} {H H1 H2:Hp} {h h1 h2 h':Heap} {a x e:Addr} {o:HO}
theorem Un.any (u:Un fs ex H H1 h h1) {b:Addr} {ob:Obj} (q:h.get? b = some ob) (n:H b = none) (hx:b ∉ ex):∃ sl,h1.get? b = some { ob with slots:=sl }:=by
 by_cases hb:b ∈ fs
 ·exact u.slot b ob q n hb hx
 ·exact ⟨ob.slots,u.keep b ob q n hb hx⟩
theorem Un.trans (a:Un fs ex H H1 h h1) (b:Un fs ex H1 H2 h1 h2):Un fs ex H H2 h h2 where
 keep:=fun c ob q n hc hx=>b.keep c ob (a.keep c ob q n hc hx) (a.free c ob q n hx) hc hx
 slot:=fun c ob q n hc hx=>by
  obtain ⟨sl,e1⟩:=a.slot c ob q n hc hx
  obtain ⟨sl',e2⟩:=b.slot c _ e1 (a.free c ob q n hx) hc hx
  exact ⟨sl',e2⟩
 free:=fun c ob q n hx=>by
  obtain ⟨o',e1⟩:=a.there c ob q hx
  exact b.free c o' e1 (a.free c ob q n hx) hx
 there:=fun c ob q hx=>by
  obtain ⟨o',e1⟩:=a.there c ob q hx
  exact b.there c o' e1 hx
 tups:=fun c xs q=>b.tups c xs (a.tups c xs q)
 frzs:=fun c ob xs q=>b.frzs c ob xs (a.frzs c ob xs q)
 tbls:=fun c ps q=>by
  obtain ⟨m1,e1⟩:=a.tbls c ps q
  obtain ⟨m2,e2⟩:=b.tbls c _ e1
  exact ⟨m1 ++ m2,by rw [e2,Array.append_assoc]⟩
theorem Un.kept (k:∀ b u,h.get? b = some u → h'.get? b = some u):Un fs ex H H h h' :=
 ⟨fun b ob q _ _ _=>k b ob q,fun b ob q _ _ _=>⟨ob.slots,k b ob q⟩,fun _ _ _ n _=>n,fun b ob q _=>⟨ob,k b ob q⟩,fun _ _ q=>q,fun _ _ _ q=>q,fun _ ps q=>⟨#[],by rw [q]; simp⟩⟩
theorem Un.refl:Un fs ex H H h h:=Un.kept fun _ _ q=>q
theorem Un.laid (k:∀ b u,h.get? b = some u → h'.get? b = some u) (hp:h.objs.size ≤ a) (hn:H a = none):Un fs ex H (upd H a o) h h' where
 keep:=fun b u q _ _ _=>k b u q
 slot:=fun b u q _ _ _=>⟨u.slots,k b u q⟩
 free:=fun b u q n _=>by rw [aI (Nat.ne_of_lt (Nat.lt_of_lt_of_le (Heap.lt_size q) hp))]; exact n
 there:=fun b u q _=>⟨u,k b u q⟩
 tups:=fun b xs q=>by rw [aI (aL q hn)]; exact q
 frzs:=fun b u xs q=>by rw [aI (aL q hn)]; exact q
 tbls:=fun b ps q=>⟨#[],by rw [aI (aL q hn),q]; simp⟩
theorem Un.write (mu:AL (H x)) (he:e = x ∨ H e = some (.own x)) (k:∀ b u,b ≠ e → h.get? b = some u → h'.get? b = some u) (heo:∃ u,h'.get? e = some u):Un fs ex H (upd H x o) h h':=by
 have hx:∀ b,H b = none → b ≠ x:=fun b n z=>by subst z; rw [n] at mu; exact mu
 have hb:∀ b,H b = none → b ≠ e:=fun b n z=>by
  subst z
  rcases he with r | r
  ·exact hx b n r
  ·rw [n] at r; cases r
 have hm:∀ b u,H b = some u → ¬ AL (some u) → b ≠ x:=fun b u q nm z=>by subst z; rw [q] at mu; exact nm mu
 refine ⟨fun b u q n _ _=>k b u (hb b n) q,fun b u q n _ _=>⟨u.slots,k b u (hb b n) q⟩,fun b u q n _=>by rw [aI (hx b n)]; exact n,fun b u q _=>?_,
  fun b xs q=>by rw [aI (hm b _ q fun z=>z)]; exact q,fun b u xs q=>by rw [aI (hm b _ q fun z=>z)]; exact q,fun b ps q=>⟨#[],by rw [aI (hm b _ q fun z=>z),q]; simp⟩⟩
 by_cases hbe:b = e
 ·subst hbe; exact heo
 ·exact ⟨u,k b u hbe q⟩
theorem Un.mono (u:Un fs ex H H1 h h1) (hs:∀ b ∈ fs,b ∈ fs') (hx:∀ b ∈ ex,b ∈ ex'):Un fs' ex' H H1 h h1 :=
 ⟨fun b ob q n hb he=>u.keep b ob q n (fun z=>hb (hs b z)) fun z=>he (hx b z),fun _ _ q n _ he=>u.any q n fun z=>he (hx _ z),fun b ob q n he=>u.free b ob q n fun z=>he (hx b z),fun b ob q he=>u.there b ob q fun z=>he (hx b z),u.tups,u.frzs,u.tbls⟩
end
def A5 (h:Heap) (H:Hp):List Addr:=(List.range h.objs.size).filter fun a=>(H a).isSome
def nP (h:Heap) (H:Hp):Heap:=PySem.W.hideAll h (A5 h H)
theorem tK (h:Heap) (H:Hp):(nP h H).objs.size = h.objs.size:=PySem.W.hideAll_size _ _
theorem uI {h:Heap} {H:Hp} {b:Addr} {o:Obj} (e:h.get? b = some o) (n:H b = none):(nP h H).get? b = some o :=
 PySem.W.hideAll_get _ e fun hm=>by
  have q:(H b).isSome = true:=(List.mem_filter.mp hm).2
  rw [n] at q; simp at q
theorem wU {h:Heap} {H:Hp} {b:Addr} {o:Obj} (e:(nP h H).get? b = some o):h.get? b = some o ∧ H b = none:=by
 have e':h.get? b = some o:=PySem.W.of_hideAll (A5 h H) e
 refine ⟨e',?_⟩
 cases q:H b with
 | none=>rfl
 | some x =>
  have hm:b ∈ A5 h H:=List.mem_filter.mpr ⟨List.mem_range.mpr (Heap.lt_size e'),by simp [q]⟩
  have z:(nP h H).get? b = none:=PySem.W.hideAll_none (A5 h H) hm
  rw [z] at e; cases e
def xP (g h:Heap) (L:Addr):List (Addr × Obj):=(List.range h.objs.size).filterMap fun a=>if a = L ∨ (g.get? a).isSome = true then none else (h.get? a).map fun o=>(a,o)
def rest (g h:Heap) (L d:Addr):List (Addr × Obj):=(xP g h L).filter fun p=>decide (p.1 ≠ d)
end L2
namespace L2
open PySem PySem.Spec PyProof.Rows
structure Mod (K:PySem.W.Frag) (mg:Str → Option Value) (base:Heap):Prop where
 kin:K.In base
 glob:base.Ns mainGlobals mg
 blt:∃ mb,base.Ns builtinsNs mb ∧ ∀ x:Str,x ≠ "__name__" → mb x = bootBuiltins x
 nolimit:base.NoLimit
/- the context: a def's body (or a comprehension's block) running. base: fixed through the whole law; s₀, H₀: the entry; outer: the frames whose slots others may change (a def's callers); stack: all frames that run;
   ex: iterators that were made ahead of the entry and are walked here (a comprehension's); fn: the names whose cells were made at the entry (a def: all; a comprehension's block: au own); calm: not within an except suite; pn: pins that every state bears; xe: what is wanted of an exception that leaves the code -/
set_option genInjectivity false in
set_option genSizeOfSpec false in
set_option genSizeOf false in
structure Cx where
 prog:Program
 w:World
 K:PySem.W.Frag
 mg:Str → Option Value
 base:Heap
 A:Around
 N:List Str
 s₀:Shared
 H₀:Hp
 env:Env
 outer:List Env
 stack:List Env
 ex:List Addr
 fn:Str → Bool
 calm:Bool
 pn:List (Addr × Obj)
 xe:Value → Shared → Prop
def e8 (l:List Env):List Addr:=l.filterMap (·.frame)
abbrev Cx.fs (X:Cx):List Addr:=e8 X.outer
def BA (sc:Scope) (x:Str):Prop:=sc.names.lookup x = some .local ∨ sc.names.lookup x = some .cell ∨ sc.names.lookup x = some .free
def Loc (sc:Scope) (x:Str):Prop:=sc.names.lookup x = some .local ∨ sc.names.lookup x = some .cell
def Look (env:Env) (h:Heap) (m:Str → Option Value) (x:Str) (u:Value):Prop :=
 (env.kindOf x = some .local ∧ m x = some u) ∨ ((env.kindOf x = some .cell ∨ env.kindOf x = some .free) ∧ ∃ c,env.cells.lookup x = some c ∧ h.IsCell c (some u))
structure Cx.Ok (X:Cx):Prop where
 mod:Mod X.K X.mg X.base
 kind:X.env.scope.kind = .function
 glob:X.env.globals = mainGlobals
 blt:X.env.builtins = builtinsNs
 above:X.s₀.heap.objs.size ≤ X.env.locals
 inj:∀ x y c,X.env.cells.lookup x = some c → X.env.cells.lookup y = some c → x = y
 has:∀ x,(X.env.kindOf x = some .cell ∨ X.env.kindOf x = some .free) → ∃ c,X.env.cells.lookup x = some c
 cab:∀ x c,X.fn x = true → X.env.cells.lookup x = some c → X.s₀.heap.objs.size ≤ c
 hd:X.calm = true → X.A.handled = none
 frames:X.A.frames = some X.stack
 stk:X.stack = X.outer ∨ (X.stack = X.env :: X.outer ∧ X.env.frame = some X.env.locals)
 exf:∀ b ∈ X.ex,b ≠ X.env.locals ∧ ∀ x c,X.env.cells.lookup x = some c → c ≠ b
 bs:∀ b o,X.base.get? b = some o → X.s₀.heap.get? b = some o ∧ X.H₀ b = none
 bsz:X.base.objs.size ≤ X.s₀.heap.objs.size
 noex:∀ b o,X.base.get? b = some o → b ∉ X.ex
 exfs:∀ b ∈ X.ex,b ∉ X.fs
 jC:X.s₀.heap.FunFrames X.base X.outer
 frf:∀ b ∈ X.fs,X.H₀ b = none
structure Inv (X:Cx) (pins:List (Addr × Obj)) (σ:List (Option V)) (H:Hp) (s:Shared):Prop where
 ok:X.Ok
 os:s.os = X.s₀.os
 bare:AllBare s.gens
 base:Un X.fs X.ex X.H₀ H X.s₀.heap s.heap
 loc:∃ m,s.heap.Ns X.env.locals m ∧ ∀ (i:Nat) (x:Str) (v:V),X.N[i]? = some x → σ[i]? = some (some v) → BA X.env.scope x → ∃ u,RelV v u ∧ Look X.env s.heap m x u
 cell:∀ x c,X.env.cells.lookup x = some c → ∃ v,s.heap.IsCell c v
 free:H X.env.locals = none
 freeC:∀ x c,X.env.cells.lookup x = some c → H c = none
 pin:∀ p ∈ X.pn ++ pins,s.heap.get? p.1 = some p.2 ∧ H p.1 = none ∧ p.1 ≠ X.env.locals ∧ p.1 ∉ X.fs ∧ ∀ v,p.2.data ≠ .cell v
 hok:eV X.prog X.w H s.heap
 len:σ.length = X.N.length
section
variable {X:Cx} {pins:List (Addr × Obj)} {σ:List (Option V)} {H H':Hp} {s:Shared} {h':Heap}
theorem Cx.Ok.BJ (ok:X.Ok) {b:Addr} {o:Obj} (e:X.base.get? b = some o):b ∉ X.fs:=fun hb=>by
 have:=(ok.jC.mem hb).1
 rw [e] at this; cases this
theorem Inv.bs (I:Inv X pins σ H s):∀ b o,X.base.get? b = some o → s.heap.get? b = some o ∧ H b = none:=fun b o e =>
 ⟨I.base.keep b o (I.ok.bs b o e).1 (I.ok.bs b o e).2 (I.ok.BJ e) (I.ok.noex b o e),I.base.free b o (I.ok.bs b o e).1 (I.ok.bs b o e).2 (I.ok.noex b o e)⟩
theorem Inv.bk (I:Inv X pins σ H s):∀ b o,X.base.get? b = some o → s.heap.get? b = some o:=fun b o e=>(I.bs b o e).1
theorem Inv.mod (I:Inv X pins σ H s):Mod X.K X.mg X.base:=I.ok.mod
theorem Inv.du (I:Inv X pins σ H s):X.K.In s.heap:=I.ok.mod.kin.keeps I.bk
theorem Inv.nolimit (I:Inv X pins σ H s):s.heap.NoLimit:=I.ok.mod.nolimit.keeps I.bk
theorem Inv.lt (I:Inv X pins σ H s):X.env.locals < s.heap.objs.size:=let ⟨_,hn,_⟩:=I.loc; hn.lt
theorem Inv.sz (I:Inv X pins σ H s):X.s₀.heap.objs.size ≤ s.heap.objs.size:=Nat.le_trans I.ok.above (Nat.le_of_lt I.lt)
theorem Inv.zX (I:Inv X pins σ H s) {a:Addr} (h:s.heap.objs.size ≤ a):a ∉ X.fs:=fun hb=>by
 obtain ⟨_,o,ho,_⟩:=I.ok.jC.mem hb
 exact absurd (Nat.lt_of_lt_of_le (Heap.lt_size ho) (Nat.le_trans I.sz h)) (Nat.lt_irrefl _)
theorem Inv.yR (I:Inv X pins σ H s):∀ x c,X.env.cells.lookup x = some c → c ≠ X.env.locals:=fun x c e z=>by
 obtain ⟨v,o,ho,hd⟩:=I.cell x c e
 obtain ⟨m,⟨o',es,ep,ho',hd',_⟩,_⟩:=I.loc
 rw [z,ho'] at ho; cases ho; rw [hd'] at hd; cases hd
theorem Inv.jC (I:Inv X pins σ H s):s.heap.FunFrames X.base X.outer:=by
 have all:∀ (l:List Env),(∀ b ∈ e8 l,b ∈ X.fs) → X.s₀.heap.FunFrames X.base l → s.heap.FunFrames X.base l:=by
  intro l
  induction l with
  | nil=>intro _ _; trivial
  | cons env r ih =>
   intro hs hl
   obtain ⟨hk,⟨L,o,hf,hn,ho,hd⟩,hr⟩:=hl
   have hL:L ∈ X.fs:=hs L (by unfold e8; rw [List.filterMap_cons,hf]; exact List.mem_cons_self)
   obtain ⟨sl,e⟩:=I.base.slot L o ho (I.ok.frf L hL) hL fun z=>I.ok.exfs L z hL
   exact ⟨hk,⟨L,_,hf,hn,e,hd⟩,ih (fun b hb=>hs b (by unfold e8; rw [List.filterMap_cons,hf]; exact List.mem_cons_of_mem _ hb)) hr⟩
 exact all X.outer (fun _ hb=>hb) I.ok.jC
theorem Inv.stack (I:Inv X pins σ H s):s.heap.FunFrames X.base X.stack:=by
 rcases I.ok.stk with e | ⟨e,hf⟩
 ·rw [e]; exact I.jC
 ·rw [e]
  obtain ⟨m,hn,_⟩:=I.loc
  refine .cons (by rw [I.ok.kind]; decide) hf hn ?_ I.jC
  exact Heap.get?_none_of_le (Nat.le_trans I.ok.bsz I.ok.above)
theorem Inv.qi (I:Inv X pins σ H s):∀ b ∈ e8 X.stack,b ∈ X.env.locals :: X.fs:=fun b hb=>by
 rcases I.ok.stk with e | ⟨e,hf⟩
 ·rw [e] at hb; exact List.mem_cons_of_mem _ hb
 ·rw [e] at hb
  unfold e8 at hb
  rw [List.filterMap_cons,hf] at hb
  exact hb
theorem Inv.gn (I:Inv X pins σ H s):∀ b ∈ e8 X.stack,H b = none:=fun b hb=>by
 rcases List.mem_cons.mp (I.qi b hb) with e | hb
 ·rw [e]; exact I.free
 ·obtain ⟨_,o,ho,_⟩:=I.ok.jC.mem hb
  exact I.base.free b o ho (I.ok.frf b hb) fun z=>I.ok.exfs b z hb
theorem Inv.step {g':Array GenState} {t':Nat} {d':Drawn} {ch:List Addr} (I:Inv X pins σ H s)
  (hch:∀ b ∈ ch,(b ∈ X.ex ∨ X.s₀.heap.objs.size ≤ b) ∧ b ≠ X.env.locals ∧ (∀ x c,X.env.cells.lookup x = some c → c ≠ b) ∧ ∀ p ∈ X.pn ++ pins,p.1 ≠ b)
  (keep:∀ b o,b ≠ X.env.locals → b ∉ X.fs → b ∉ ch → s.heap.get? b = some o → H b = none → h'.get? b = some o)
  (slot:∀ b o,b ≠ X.env.locals → b ∈ X.fs → b ∉ ch → s.heap.get? b = some o → H b = none → ∃ sl,h'.get? b = some { o with slots:=sl }) (free:∀ b o,b ∉ ch → s.heap.get? b = some o → H b = none → H' b = none)
  (there:∀ b o,b ∉ ch → s.heap.get? b = some o → ∃ o',h'.get? b = some o')
  (tups:∀ b xs,H b = some (.tup xs) → H' b = some (.tup xs)) (frzs:∀ b o u,H b = some (.frz o u) → H' b = some (.frz o u)) (tbls:∀ b ps,H b = some (.tbl ps) → ∃ more,H' b = some (.tbl (ps ++ more)))
  (ns:∀ m,s.heap.Ns X.env.locals m → h'.Ns X.env.locals m) (hok:eV X.prog X.w H' h') (hg:AllBare g') :
  Inv X pins σ H' { s with heap:=h',gens:=g',drawn:=d',toks:=t' }:=by
 have neL:∀ b o,X.s₀.heap.get? b = some o → b ≠ X.env.locals:=fun b o e=>Nat.ne_of_lt (Nat.lt_of_lt_of_le (Heap.lt_size e) I.ok.above)
 have neC:∀ b o,X.s₀.heap.get? b = some o → b ∉ X.ex → b ∉ ch:=fun b o e hx hb=>by
  rcases (hch b hb).1 with z | z
  ·exact hx z
  ·exact absurd (Nat.lt_of_lt_of_le (Heap.lt_size e) z) (Nat.lt_irrefl _)
 have cellK:∀ x c,X.env.cells.lookup x = some c → ∀ v,s.heap.IsCell c v → h'.IsCell c v:=fun x c e v ⟨o,ho,hd⟩=>by
  have nch:c ∉ ch:=fun z=>(hch c z).2.2.1 x c e rfl
  by_cases hc:c ∈ X.fs
  ·obtain ⟨sl,q⟩:=slot c o (I.yR x c e) hc nch ho (I.freeC x c e)
   exact ⟨_,q,hd⟩
  ·exact ⟨o,keep c o (I.yR x c e) hc nch ho (I.freeC x c e),hd⟩
 refine ⟨I.ok,I.os,hg,⟨fun b o e n hb hx=>?_,fun b o e n hb hx=>?_,fun b o e n hx=>?_,fun b o e hx=>?_,fun b xs e=>tups b xs (I.base.tups b xs e),fun b o xs e=>frzs b o xs (I.base.frzs b o xs e),fun b ps e=>?_⟩,?_,fun x c e=>?_,?_,fun x c e=>?_,fun p hp=>?_,hok,I.len⟩
 ·exact keep b o (neL b o e) hb (neC b o e hx) (I.base.keep b o e n hb hx) (I.base.free b o e n hx)
 ·obtain ⟨sl,e1⟩:=I.base.slot b o e n hb hx
  obtain ⟨sl',e2⟩:=slot b _ (neL b o e) hb (neC b o e hx) e1 (I.base.free b o e n hx)
  exact ⟨sl',e2⟩
 ·obtain ⟨o',e1⟩:=I.base.there b o e hx
  exact free b o' (neC b o e hx) e1 (I.base.free b o e n hx)
 ·obtain ⟨o',e1⟩:=I.base.there b o e hx
  exact there b o' (neC b o e hx) e1
 ·obtain ⟨m1,e1⟩:=I.base.tbls b ps e
  obtain ⟨m2,e2⟩:=tbls b _ e1
  exact ⟨m1 ++ m2,by rw [e2,Array.append_assoc]⟩
 ·obtain ⟨m,hn,hl⟩:=I.loc
  refine ⟨m,ns m hn,fun i x v e1 e2 e3=>?_⟩
  obtain ⟨u,r,l⟩:=hl i x v e1 e2 e3
  refine ⟨u,r,?_⟩
  rcases l with l | ⟨k,c,e,z⟩
  ·exact .inl l
  ·exact .inr ⟨k,c,e,cellK x c e _ z⟩
 ·obtain ⟨v,z⟩:=I.cell x c e
  exact ⟨v,cellK x c e v z⟩
 ·obtain ⟨m,⟨o,_,_,ho,_⟩,_⟩:=I.loc
  exact free _ o (fun z=>(hch _ z).2.1 rfl) ho I.free
 ·obtain ⟨v,o,ho,hd⟩:=I.cell x c e
  exact free c o (fun z=>(hch c z).2.2.1 x c e rfl) ho (I.freeC x c e)
 ·obtain ⟨e,n,ne,nf,d⟩:=I.pin p hp
  have nch:p.1 ∉ ch:=fun z=>(hch p.1 z).2.2.2 p hp rfl
  exact ⟨keep p.1 p.2 ne nf nch e n,free p.1 p.2 nch e n,ne,nf,d⟩
theorem Inv.un {t':Nat} (I:Inv X pins σ H s) (u:Un X.fs [] H H' s.heap h') (hok:eV X.prog X.w H' h'):Inv X pins σ H' { s with heap:=h',toks:=t' }:=by
 obtain ⟨m,⟨o,es,ep,ho,r⟩,_⟩:=id I.loc
 obtain ⟨sl,hL⟩:=u.any ho I.free (by simp)
 exact I.step (g':=s.gens) (d':=s.drawn) (ch:=[]) (fun _ z=>nomatch z) (fun b o _ hb _ e n=>u.keep b o e n hb (by simp)) (fun b o _ hb _ e n=>u.slot b o e n hb (by simp)) (fun b o _ e n=>u.free b o e n (by simp)) (fun b o _ e=>u.there b o e (by simp)) u.tups u.frzs u.tbls (fun m' hm=>by
  obtain ⟨o',es',ep',ho',r'⟩:=hm
  rw [ho] at ho'; cases ho'
  exact ⟨_,es',ep',hL,r'⟩) hok I.bare
theorem Inv.call {g':Array GenState} {t':Nat} {d':Drawn} {ch:List Addr} (I:Inv X pins σ H s) (u:Un (e8 X.stack) ch H H' s.heap h') (hok:eV X.prog X.w H' h') (hg:AllBare g')
  (hch:∀ b ∈ ch,(b ∈ X.ex ∨ X.s₀.heap.objs.size ≤ b) ∧ b ≠ X.env.locals ∧ (∀ x c,X.env.cells.lookup x = some c → c ≠ b) ∧ ∀ p ∈ X.pn ++ pins,p.1 ≠ b) :
  Inv X pins σ H' { s with heap:=h',gens:=g',drawn:=d',toks:=t' }:=by
 obtain ⟨m,⟨o,es,ep,ho,r⟩,_⟩:=id I.loc
 obtain ⟨sl,hL⟩:=u.any ho I.free fun z=>(hch _ z).2.1 rfl
 exact I.step (ch:=ch) hch (fun b o hL hb hc e n=>u.keep b o e n (fun z=>(List.mem_cons.mp (I.qi b z)).elim hL hb) hc) (fun b o _ _ hc e n=>u.any e n hc) (fun b o hc e n=>u.free b o e n hc) (fun b o hc e=>u.there b o e hc) u.tups u.frzs u.tbls (fun m' hm=>by
  obtain ⟨o',es',ep',ho',r'⟩:=hm
  rw [ho] at ho'; cases ho'
  exact ⟨_,es',ep',hL,r'⟩) hok hg
theorem Inv.turned {t':Nat} {it:Addr} (I:Inv X pins σ H s) (k:∀ b o,b ≠ it → s.heap.get? b = some o → h'.get? b = some o) (hn:H it = none) (hL:it ≠ X.env.locals)
  (h1:it ∈ X.ex ∨ X.s₀.heap.objs.size ≤ it) (h2:∀ x c,X.env.cells.lookup x = some c → c ≠ it) (h3:∀ p ∈ X.pn ++ pins,p.1 ≠ it):Inv X pins σ H { s with heap:=h',toks:=t' }:=by
 have nit:∀ b u,H b = some u → b ≠ it:=fun b u e z=>by rw [z,hn] at e; cases e
 refine I.step (g':=s.gens) (d':=s.drawn) (ch:=[it]) (fun b hb=>?_) (fun b o _ _ hc e _=>k b o (fun z=>hc (by simp [z])) e) (fun b o _ _ hc e _=>⟨o.slots,k b o (fun z=>hc (by simp [z])) e⟩) (fun _ _ _ _ n=>n)
  (fun b o hc e=>⟨o,k b o (fun z=>hc (by simp [z])) e⟩) (fun _ _ e=>e) (fun _ _ _ e=>e) (fun b ps e=>⟨#[],by rw [e]; simp⟩) (fun m hm=>?_) (fun b u e=>?_) I.bare
 ·have e:b = it:=by simpa using hb
  subst e
  exact ⟨h1,hL,h2,h3⟩
 ·obtain ⟨o,es,ep,ho,r⟩:=hm
  exact ⟨o,es,ep,k _ o (Ne.symm hL) ho,r⟩
 ·refine (I.hok b u e).jE (fun c v hc q=>k c v ?_ q) (fun _ q=>q) fun _ _ q=>q
  rcases hc with z | z
  ·rw [z]; exact nit b u e
  ·exact nit c _ z
theorem Inv.tok (I:Inv X pins σ H s) (t:Nat):Inv X pins σ H { s with toks:=t }:=I.un (h':=s.heap) (t':=t) Un.refl I.hok
theorem Inv.kept {t':Nat} (I:Inv X pins σ H s) (k:∀ b u,s.heap.get? b = some u → h'.get? b = some u):Inv X pins σ H { s with heap:=h',toks:=t' }:=I.un (Un.kept k) (I.hok.kept k)
theorem Inv.laid {a:Addr} {o:HO} {t':Nat} (I:Inv X pins σ H s) (k:∀ b u,s.heap.get? b = some u → h'.get? b = some u) (hp:s.heap.objs.size ≤ a) (new:bQ X.prog X.w (upd H a o) h' a o) :
  Inv X pins σ (upd H a o) { s with heap:=h',toks:=t' }:=I.un (Un.laid k hp (I.hok.fresh hp)) (I.hok.laid k hp new)
theorem Inv.write {x e:Addr} {o:HO} {t':Nat} (I:Inv X pins σ H s) (mu:AL (H x)) (he:e = x ∨ H e = some (.own x)) (k:∀ b u,b ≠ e → s.heap.get? b = some u → h'.get? b = some u) (heo:∃ u,h'.get? e = some u)
  (new:bQ X.prog X.w (upd H x o) h' x o):Inv X pins σ (upd H x o) { s with heap:=h',toks:=t' }:=I.un (Un.write mu he k heo) (I.hok.write mu he k heo new)
theorem Inv.rN {pins':List (Addr × Obj)} (I:Inv X pins σ H s) (h:∀ p ∈ pins',s.heap.get? p.1 = some p.2 ∧ H p.1 = none ∧ p.1 ≠ X.env.locals ∧ p.1 ∉ X.fs ∧ ∀ v,p.2.data ≠ .cell v):Inv X pins' σ H s :=
 ⟨I.ok,I.os,I.bare,I.base,I.loc,I.cell,I.free,I.freeC,fun p hp=>(List.mem_append.mp hp).elim (fun z=>I.pin p (List.mem_append_left _ z)) (h p),I.hok,I.len⟩
theorem pM {N:List Str} (hN:N.Nodup) {i j:Nat} {x:Str} (a:N[i]? = some x) (b:N[j]? = some x):i = j:=by
 obtain ⟨h1,e1⟩:=List.getElem?_eq_some_iff.mp a
 obtain ⟨h2,e2⟩:=List.getElem?_eq_some_iff.mp b
 exact (List.getElem_inj hN).mp (e1.trans e2.symm)
theorem mU {M:Model} {A:Around} {E:Value → Shared → Prop} {i:Nat} {x:Str} {v:V} {u:Value} {Q:Unit → Shared → Prop} (I:Inv X pins σ H s) (hN:X.N.Nodup) (hi:X.N[i]? = some x) (hx:Loc X.env.scope x) (r:RelV v u)
  (h:∀ s',Inv X pins (σ.set i (some v)) H s' → (∃ a,Heap.SameBut a s.heap s'.heap ∧ (a = X.env.locals ∨ X.env.cells.lookup x = some a)) → Q () s') (hf:X.fn x = true ∨ X.env.scope.names.lookup x = some .local:=by first | exact .inl rfl | exact .inr rfl | assumption):wpAny M A (storeName X.env x u) Q E s:=by
 obtain ⟨m,hn,hl⟩:=id I.loc
 have hcls:(X.env.scope.kind == .class || (X.env.scope.kind == .module && X.env.locals != X.env.globals)) = false:=by rw [I.ok.kind]; rfl
 have hiσ:i < σ.length:=by rw [I.len]; exact (List.getElem?_eq_some_iff.mp hi).1
 have yR:=I.yR
 have tracked:∀ {a:Addr} {h':Heap},(∃ o,s.heap.get? a = some o ∧ H a = none) → Heap.SameBut a s.heap h' → eV X.prog X.w H h':=fun {a h'} ha hs b ob e=>by
  obtain ⟨_,_,hfree⟩:=ha
  refine (I.hok b ob e).jE (fun c w' hc q=>(hs.2 c ?_).trans q) (fun _ q=>q) fun _ _ q=>q
  rintro rfl
  rcases hc with rfl | hc
  ·rw [hfree] at e; cases e
  ·rw [hfree] at hc; cases hc
 rcases hx with hk | hk
 ·refine wpAny_storeName_local hk hn (fun h' hn' hs=>?_) hcls
  obtain ⟨oL,_,_,hoL,_⟩:=id hn
  refine h _ ⟨I.ok,I.os,I.bare,⟨fun b o e n hb hx=>?_,fun b o e n hb hx=>?_,I.base.free,fun b o e hx=>?_,I.base.tups,I.base.frzs,I.base.tbls⟩,⟨_,hn',fun j y v' e1 e2 e3=>?_⟩,fun y c e=>?_,I.free,I.freeC,fun p hp=>?_,tracked ⟨oL,hoL,I.free⟩ hs,by simpa using I.len⟩ ⟨_,hs,.inl rfl⟩
  ·exact (hs.2 b (Nat.ne_of_lt (Nat.lt_of_lt_of_le (Heap.lt_size e) I.ok.above))).trans (I.base.keep b o e n hb hx)
  ·obtain ⟨sl,e1⟩:=I.base.slot b o e n hb hx
   exact ⟨sl,(hs.2 b (Nat.ne_of_lt (Nat.lt_of_lt_of_le (Heap.lt_size e) I.ok.above))).trans e1⟩
  ·obtain ⟨o',e1⟩:=I.base.there b o e hx
   exact ⟨o',(hs.2 b (Nat.ne_of_lt (Nat.lt_of_lt_of_le (Heap.lt_size e) I.ok.above))).trans e1⟩
  ·by_cases hj:j = i
   ·subst hj
    rw [hi] at e1; cases e1
    rw [List.getElem?_set_self hiσ] at e2
    cases e2
    exact ⟨u,r,.inl ⟨hk,by simp⟩⟩
   ·rw [List.getElem?_set_ne (Ne.symm hj)] at e2
    obtain ⟨u',r',q⟩:=hl j y v' e1 e2 e3
    refine ⟨u',r',?_⟩
    rcases q with ⟨k,e⟩ | ⟨k,c,e,z⟩
    ·refine .inl ⟨k,?_⟩
     have:y ≠ x:=fun e=>hj (pM hN e1 (e ▸ hi))
     simp [this,e]
    ·exact .inr ⟨k,c,e,z.sameBut hs (yR y c e)⟩
  ·obtain ⟨w',z⟩:=I.cell y c e
   exact ⟨w',z.sameBut hs (yR y c e)⟩
  ·obtain ⟨e,n,ne,nf,d⟩:=I.pin p hp
   exact ⟨(hs.2 p.1 ne).trans e,n,ne,nf,d⟩
 ·have hfn:X.fn x = true:=by
   rcases hf with z | z
   ·exact z
   ·rw [z] at hk; cases hk
  obtain ⟨c,hc⟩:=I.ok.has x (.inl hk)
  obtain ⟨w',z⟩:=I.cell x c hc
  refine wpAny_storeName_cell I.ok.kind hk hc z (fun h' hc' hs=>?_)
  obtain ⟨oc,hoc,hocd⟩:=id z
  refine h { s with heap:=h' } ⟨I.ok,I.os,I.bare,⟨fun b o e n hb hx=>?_,fun b o e n hb hx=>?_,I.base.free,fun b o e hx=>?_,I.base.tups,I.base.frzs,I.base.tbls⟩,⟨m,hn.sameBut hs (Ne.symm (yR x c hc)),fun j y v' e1 e2 e3=>?_⟩,fun y c' e=>?_,I.free,I.freeC,fun p hp=>?_,tracked ⟨oc,hoc,I.freeC x c hc⟩ hs,by simpa using I.len⟩ ⟨c,hs,.inr hc⟩
  ·exact (hs.2 b (Nat.ne_of_lt (Nat.lt_of_lt_of_le (Heap.lt_size e) (I.ok.cab x c hfn hc)))).trans (I.base.keep b o e n hb hx)
  ·obtain ⟨sl,e1⟩:=I.base.slot b o e n hb hx
   exact ⟨sl,(hs.2 b (Nat.ne_of_lt (Nat.lt_of_lt_of_le (Heap.lt_size e) (I.ok.cab x c hfn hc)))).trans e1⟩
  ·obtain ⟨o',e1⟩:=I.base.there b o e hx
   exact ⟨o',(hs.2 b (Nat.ne_of_lt (Nat.lt_of_lt_of_le (Heap.lt_size e) (I.ok.cab x c hfn hc)))).trans e1⟩
  ·by_cases hj:j = i
   ·subst hj
    rw [hi] at e1; cases e1
    rw [List.getElem?_set_self hiσ] at e2
    cases e2
    exact ⟨u,r,.inr ⟨.inl hk,c,hc,hc'⟩⟩
   ·rw [List.getElem?_set_ne (Ne.symm hj)] at e2
    obtain ⟨u',r',q⟩:=hl j y v' e1 e2 e3
    refine ⟨u',r',?_⟩
    rcases q with q | ⟨k,c',e,z'⟩
    ·exact .inl q
    ·refine .inr ⟨k,c',e,z'.sameBut hs ?_⟩
     rintro rfl
     exact hj (pM hN e1 (I.ok.inj _ _ _ e hc ▸ hi))
  ·by_cases hcc:c' = c
   ·subst hcc; exact ⟨_,hc'⟩
   ·obtain ⟨w2,z2⟩:=I.cell y c' e
    exact ⟨w2,z2.sameBut hs hcc⟩
  ·obtain ⟨e,n,ne,nf,d⟩:=I.pin p hp
   refine ⟨(hs.2 p.1 ?_).trans e,n,ne,nf,d⟩
   intro q
   rw [q,hoc] at e
   have q':oc = p.2:=Option.some.inj e
   exact d w' (by rw [← q']; exact hocd)
theorem oS {M:Model} {A:Around} {E:Value → Shared → Prop} {i:Nat} {x:Str} {v:V} {u:Value} {Q:Unit → Shared → Prop} (I:Inv X pins σ H s) (hN:X.N.Nodup) (hi:X.N[i]? = some x) (hx:Loc X.env.scope x) (r:RelV v u)
  (h:∀ s',Inv X pins (σ.set i (some v)) H s' → Q () s') (hf:X.fn x = true ∨ X.env.scope.names.lookup x = some .local:=by first | exact .inl rfl | exact .inr rfl | assumption):wpAny M A (storeName X.env x u) Q E s :=
 mU I hN hi hx r (fun s' I' _=>h s' I') hf
theorem Inv.AR {s':Shared} {ch:List Addr} (I:Inv X pins σ H s) (ho:s'.os = s.os) (u:Un (e8 X.stack) ch H H' s.heap s'.heap) (hok:eV X.prog X.w H' s'.heap) (hg:AllBare s'.gens)
  (hch:∀ b ∈ ch,(b ∈ X.ex ∨ X.s₀.heap.objs.size ≤ b) ∧ b ≠ X.env.locals ∧ (∀ x c,X.env.cells.lookup x = some c → c ≠ b) ∧ ∀ p ∈ X.pn ++ pins,p.1 ≠ b):Inv X pins σ H' s':=by
 obtain ⟨h',g',d',t',o'⟩:=s'
 have e:o' = s.os:=ho
 subst e
 exact I.call (g':=g') (t':=t') (d':=d') u hok hg hch
end
abbrev XK:=Value → Option Addr → Hp → Prop
abbrev St:=List (Option V)
abbrev VK:=V → Hp → Prop
abbrev TE:=St → Hp → VK → Prop
abbrev TT:=St → Hp → (Bool → Hp → Prop) → Prop
abbrev TA:=St → Hp → (List V → Hp → Prop) → Prop
/- what is wanted behind a statement -/
set_option genInjectivity false in
set_option genSizeOfSpec false in
set_option genSizeOf false in
structure Ends where
 nx:St → Hp → Prop
 rt:VK
 bk:St → Hp → Prop:=fun _ _=>False
 ct:St → Hp → Prop:=fun _ _=>False
abbrev TS:=Ends → St → Hp → Prop
def EP (X:Cx) (pins:List (Addr × Obj)) (σ:St) (Q:VK) (u:Value) (s':Shared):Prop:=∃ v H',Inv X pins σ H' s' ∧ RelV v u ∧ Q v H'
def TP (X:Cx) (pins:List (Addr × Obj)) (σ:St) (Q:Bool → Hp → Prop) (b:Bool) (s':Shared):Prop:=∃ H',Inv X pins σ H' s' ∧ Q b H'
def AP (X:Cx) (pins:List (Addr × Obj)) (σ:St) (Q:List V → Hp → Prop) (us:List Value) (s':Shared):Prop:=∃ vs H',Inv X pins σ H' s' ∧ Vals vs us ∧ Q vs H'
def SP (X:Cx) (pins:List (Addr × Obj)) (D:Ends) (f:Flow) (s':Shared):Prop :=
 match f with
 | .next=>∃ σ' H',Inv X pins σ' H' s' ∧ D.nx σ' H'
 | .brk=>∃ σ' H',Inv X pins σ' H' s' ∧ D.bk σ' H'
 | .cont=>∃ σ' H',Inv X pins σ' H' s' ∧ D.ct σ' H'
 | .ret u=>∃ v σ' H',Inv X pins σ' H' s' ∧ RelV v u ∧ D.rt v H'
@[irreducible] def PE (X:Cx) (e:Expr) (t:TE):Prop :=
 ∀ (pins:List (Addr × Obj)) (s:Shared) (σ:St) (H:Hp) (Q:VK),Inv X pins σ H s → t σ H Q → wpAny (model X.prog X.w) X.A (eval e X.env) (EP X pins σ Q) X.xe s
@[irreducible] def PT (X:Cx) (e:Expr) (t:TT):Prop :=
 ∀ (pins:List (Addr × Obj)) (s:Shared) (σ:St) (H:Hp) (Q:Bool → Hp → Prop),Inv X pins σ H s → t σ H Q → wpAny (model X.prog X.w) X.A (isTrue e X.env (eval e X.env)) (TP X pins σ Q) X.xe s
@[irreducible] def PW (X:Cx) (e:Expr) (t:TT):Prop :=
 ∀ (whole:Sem Value) (pins:List (Addr × Obj)) (s:Shared) (σ:St) (H:Hp) (Q:Bool → Hp → Prop),Inv X pins σ H s → t σ H Q → wpAny (model X.prog X.w) X.A (isTrue e X.env whole) (TP X pins σ Q) X.xe s
theorem PW.pt {X:Cx} {e:Expr} {t:TT} (h:PW X e t):PT X e t:=by
 first
 | exact (h _)
 | (unfold PT at *; unfold PW at *; exact (h _))
@[irreducible] def PA (X:Cx) (es:List Expr) (t:TA):Prop :=
 ∀ (pos:Pos) (pins:List (Addr × Obj)) (s:Shared) (σ:St) (H:Hp) (Q:List V → Hp → Prop),Inv X pins σ H s → t σ H Q → wpAny (model X.prog X.w) X.A (spliced (backTo pos (starEach es X.env))) (AP X pins σ Q) X.xe s
@[irreducible] def PS (X:Cx) (st:Stmt) (t:TS):Prop :=
 ∀ (pins:List (Addr × Obj)) (s:Shared) (σ:St) (H:Hp) (D:Ends),Inv X pins σ H s → t D σ H → wpAny (model X.prog X.w) X.A (exec st X.env) (SP X pins D) X.xe s
@[irreducible] def jr (X:Cx) (st:List Stmt) (t:TS):Prop :=
 ∀ (pins:List (Addr × Obj)) (s:Shared) (σ:St) (H:Hp) (D:Ends),Inv X pins σ H s → t D σ H → wpAny (model X.prog X.w) X.A (execs st X.env) (SP X pins D) X.xe s
theorem bS {α:Type} {t:Sem α} {Q Q':α → Shared → Prop} {M:Model} {A:Around} {E:Value → Shared → Prop} {s:Shared} (h:wpAny M A t Q E s) (hQ:∀ a s,Q a s → Q' a s):wpAny M A t Q' E s:=wpAny_mono h hQ fun _ _ x=>x
end L2
namespace L2
open PySem PySem.Spec PyProof.Rows
section
variable {X:Cx}
def AX (i:Nat):TE:=fun σ H Q=>∃ v,σ[i]? = some (some v) ∧ Q v H
def tC (v:V):TE:=fun _ H Q=>Q v H
theorem vj {i:Nat} {x:Str} {pos:Pos} (hN:X.N[i]? = some x) (hv:BA X.env.scope x) (hd:(x == ("__debug__" : Str)) = false:=by decide) (hcd:(x == ("__classdict__" : Str)) = false:=by decide):PE X (.Name x pos) (AX i):=by
 unfold PE at *
 exact by
  intro pins s σ H Q I h
  obtain ⟨v,e,h⟩:=h
  obtain ⟨m,hn,hl⟩:=I.loc
  obtain ⟨u,r,l⟩:=hl i x v hN e hv
  have fin:EP X pins σ Q u s:=⟨v,H,I,r,h⟩
  rcases l with ⟨hk,hm⟩ | ⟨hk,c,hc,hcell⟩
  ·exact wpAny_Name (wpAny_loadName_local I.ok.kind hk hn hm fin) hd
  ·rcases hk with hk | hk
   ·exact wpAny_Name (wpAny_loadName_cell I.ok.kind hk hc hcell fin) hd
   ·exact wpAny_Name (wpAny_loadName_free I.ok.kind hk hc hcell fin hcd) hd
theorem aE {i j pos}:PE X (.Constant (.int i) j pos) (tC (.int i)):=by
 first
 | exact (fun _ _ _ H _ I h=>wpAny_Constant_int ⟨.int i,H,I.tok _,⟨_,rfl⟩,h⟩)
 | (unfold PE at *; exact (fun _ _ _ H _ I h=>wpAny_Constant_int ⟨.int i,H,I.tok _,⟨_,rfl⟩,h⟩))
theorem eK {b j pos}:PE X (.Constant (.bool b) j pos) (tC (.bl b)):=by
 first
 | exact (fun _ _ _ H _ I h=>Constant_bool ⟨.bl b,H,I,rfl,h⟩)
 | (unfold PE at *; exact (fun _ _ _ H _ I h=>Constant_bool ⟨.bl b,H,I,rfl,h⟩))
theorem ez {j pos}:PE X (.Constant .none j pos) (tC .bI):=by
 first
 | exact (fun _ _ _ H _ I h=>Constant_none ⟨.bI,H,I,rfl,h⟩)
 | (unfold PE at *; exact (fun _ _ _ H _ I h=>Constant_none ⟨.bI,H,I,rfl,h⟩))
theorem aT {x j pos}:PE X (.Constant (.str x) j pos) (tC (.str x)):=by
 first
 | exact (fun _ _ _ H _ I h=>Calls.Constant_str ⟨.str x,H,I.tok _,⟨_,rfl⟩,h⟩)
 | (unfold PE at *; exact (fun _ _ _ H _ I h=>Calls.Constant_str ⟨.str x,H,I.tok _,⟨_,rfl⟩,h⟩))
def Gl (X:Cx) (x:Str):Prop:=X.env.kindOf x = some .globalImplicit
theorem d5 {E:Value → Shared → Prop} {pins:List (Addr × Obj)} {s:Shared} {σ:St} {H:Hp} {x:Str} {u:Value} {pos:Pos} {Q:Value → Shared → Prop} (I:Inv X pins σ H s) (hg:Gl X x) (hm:X.mg x = some u) (h:Q u s)
  (hd:(x == ("__debug__" : Str)) = false:=by decide):wpAny (model X.prog X.w) X.A (eval (.Name x pos) X.env) Q E s :=
 Calls.Name_function_global I.ok.kind hg (Calls.loadGlobal_global (by rw [I.ok.glob]; exact I.mod.glob.keeps I.bk) hm h) hd
theorem jB {E:Value → Shared → Prop} {pins:List (Addr × Obj)} {s:Shared} {σ:St} {H:Hp} {x:Str} {u:Value} {pos:Pos} {Q:Value → Shared → Prop} (I:Inv X pins σ H s) (hg:Gl X x) (hm:X.mg x = none) (hv:bootBuiltins x = some u) (h:Q u s)
  (hn:x ≠ "__name__" := by decide) (hd:(x == ("__debug__" : Str)) = false:=by decide):wpAny (model X.prog X.w) X.A (eval (.Name x pos) X.env) Q E s:=by
 obtain ⟨mb,h1,h2⟩:=I.mod.blt
 exact Calls.Name_function_global I.ok.kind hg (Calls.loadGlobal_builtin (by rw [I.ok.glob]; exact I.mod.glob.keeps I.bk) hm (by rw [I.ok.blt]; exact h1.keeps I.bk) ((h2 x hn).trans hv) h) hd
theorem dw {x:Str} {v:V} {u:Value} {pos:Pos} (hg:Gl X x) (hm:X.mg x = some u) (r:RelV v u) (hd:(x == ("__debug__" : Str)) = false:=by decide):PE X (.Name x pos) (tC v):=by
 first
 | exact (fun _ _ _ H _ I h=>d5 I hg hm ⟨v,H,I,r,h⟩ hd)
 | (unfold PE at *; exact (fun _ _ _ H _ I h=>d5 I hg hm ⟨v,H,I,r,h⟩ hd))
theorem eZ {x:Str} {v:V} {u:Value} {pos:Pos} (hg:Gl X x) (hm:X.mg x = none) (hv:bootBuiltins x = some u) (r:RelV v u) (hn:x ≠ "__name__" := by decide) (hd:(x == ("__debug__" : Str)) = false:=by decide):PE X (.Name x pos) (tC v):=by
 first
 | exact (fun _ _ _ H _ I h=>jB I hg hm hv ⟨v,H,I,r,h⟩ hn hd)
 | (unfold PE at *; exact (fun _ _ _ H _ I h=>jB I hg hm hv ⟨v,H,I,r,h⟩ hn hd))
variable {a b:Expr} {ta tb:TE} {pos:Pos}
@[irreducible] def PC (X:Cx) (op:CmpOp) (a b:Expr) (t:TE):Prop :=
 ∀ (pins:List (Addr × Obj)) (s:Shared) (σ:St) (H:Hp) (Q:VK),Inv X pins σ H s → t σ H Q →
  wpAny (model X.prog X.w) X.A (eval a X.env) (fun v s₁=>wpAny (model X.prog X.w) X.A (eval b X.env) (fun u s₂=>wpAny (model X.prog X.w) X.A (compareOp op v u) (EP X pins σ Q) X.xe s₂) X.xe s₁) X.xe s
theorem pQ (b:Expr) {op:CmpOp} (h:op ≠ .In) (h2:op ≠ .NotIn):behindInMarks op b = false:=by
 have e1:(op == CmpOp.In) = false:=by cases op <;> first | rfl | exact absurd rfl h
 have e2:(op == CmpOp.NotIn) = false:=by cases op <;> first | rfl | exact absurd rfl h2
 cases b <;> simp [behindInMarks,e1,e2]
def Am (ta:TE):TE:=fun σ H Q=>ta σ H fun x H1=>Q (.bl (decide (x = .bI))) H1
def zi (ta:TE):TE:=fun σ H Q=>ta σ H fun x H1=>Q (.bl (!decide (x = .bI))) H1
theorem RelV.pV {x:V} {v:Value} (r:RelV x v):(v == Value.none) = decide (x = .bI):=by
 cases x with
 | bI=>cases r; rfl
 | bl _=>cases r; rfl
 | int _=>obtain ⟨t,rfl⟩:=r; rfl
 | str _=>obtain ⟨t,rfl⟩:=r; rfl
 | byt _=>obtain ⟨t,rfl⟩:=r; rfl
 | flt _=>obtain ⟨t,rfl⟩:=r; rfl
 | ref _=>cases r; rfl
 | ty _=>cases r; rfl
theorem dR {j pos'} (ha:PE X a ta):PC X .Is a (.Constant .none j pos') (Am ta):=by
 unfold PE at *; unfold PC at *
 exact by
  intro pins s σ H Q I h
  refine bS (ha pins s σ H _ I h) fun v s1 ⟨x,H1,I1,r1,q1⟩=>?_
  exact Constant_none (is_none_gen ⟨.bl _,H1,I1,by rw [r1.pV]; rfl,q1⟩)
theorem eh {j pos'} (ha:PE X a ta):PC X .IsNot a (.Constant .none j pos') (zi ta):=by
 unfold PE at *; unfold PC at *
 exact by
  intro pins s σ H Q I h
  refine bS (ha pins s σ H _ I h) fun v s1 ⟨x,H1,I1,r1,q1⟩=>?_
  exact Constant_none (isnot_none_gen ⟨.bl _,H1,I1,by rw [r1.pV]; rfl,q1⟩)
def tB (t:TE):TT:=fun σ H Q=>t σ H fun x H1=>∃ c,x = .bl c ∧ Q c H1
theorem ip {op:CmpOp} {t:TE} (h:PC X op a b t) (h1:behindInMarks op b = false:=by first | exact pQ _ (by decide) (by decide) | rfl):PE X (.Compare a [op] [b] pos) t:=by
 first
 | exact (fun pins s σ H Q I hw=>wpAny_Compare1 (h pins s σ H Q I hw) h1)
 | (unfold PE at *; unfold PC at *; exact (fun pins s σ H Q I hw=>wpAny_Compare1 (h pins s σ H Q I hw) h1))
theorem cS {op:CmpOp} {t:TE} (h:PC X op a b t) (h1:behindInMarks op b = false:=by first | exact pQ _ (by decide) (by decide) | rfl):PT X (.Compare a [op] [b] pos) (tB t):=by
 unfold PT at *; unfold PC at *
 exact by
  intro pins s σ H Q I hw
  refine wpAny_isTrue_Compare1 (bS (h pins s σ H _ I hw) fun v s1 h1=>bS h1 fun u s2 h2=>bS h2 fun c s3 ⟨x,H1,I1,r1,q1⟩=>?_) h1
  obtain ⟨d,rfl,q⟩:=q1
  cases r1
  exact wpAny_truthy_bool ⟨H1,I1,q⟩
theorem bo {e:Expr} {t:TE} (h:PE X e t) (he:∀ whole,isTrue e X.env whole = (do let v ← whole; standAt e.pos; holding [v] (truthy v)):=by intro _; rfl):PT X e (tB t):=by
 unfold PE at *; unfold PT at *
 exact by
  intro pins s σ H Q I hw
  refine isTrue_plain (bS (h pins s σ H _ I hw) fun v s1 ⟨x,H1,I1,r1,q1⟩=>?_) (he _)
  obtain ⟨d,rfl,q⟩:=q1
  cases r1
  exact wpAny_truthy_bool ⟨H1,I1,q⟩
variable {tA tB':TT} {rest:List Expr}
def BH (t u:TT):TT:=fun σ H Q=>t σ H fun c H1=>if c = true then u σ H1 Q else Q false H1
def B1 (t u:TT):TT:=fun σ H Q=>t σ H fun c H1=>if c = true then Q true H1 else u σ H1 Q
def Ae (t:TT):TT:=fun σ H Q=>t σ H fun c H1=>Q (!c) H1
theorem bw (ha:PT X a tA):PW X (.BoolOp .And [a] pos) tA:=by
 unfold PT at *; unfold PW at *
 exact by
  intro wh pins s σ H Q I h
  refine isTrue_and (bS (ha pins s σ H Q I h) fun c s1 e=>?_)
  cases c with
  | true=>exact isTrue_and_nil e
  | false=>exact e
theorem jI (ha:PT X a tA):PW X (.BoolOp .Or [a] pos) tA:=by
 unfold PT at *; unfold PW at *
 exact by
  intro wh pins s σ H Q I h
  refine isTrue_or (bS (ha pins s σ H Q I h) fun c s1 e=>?_)
  cases c with
  | false=>exact isTrue_or_nil e
  | true=>exact e
theorem cR (ha:PT X a tA) (hb:PW X (.BoolOp .And (b :: rest) pos) tB'):PW X (.BoolOp .And (a :: b :: rest) pos) (BH tA tB'):=by
 unfold PT at *; unfold PW at *
 exact by
  intro wh pins s σ H Q I h
  refine isTrue_and (bS (ha pins s σ H _ I h) fun c s1 ⟨H1,I1,q1⟩=>?_)
  cases c with
  | true=>exact hb wh pins s1 σ H1 Q I1 q1
  | false=>exact ⟨H1,I1,q1⟩
theorem kF (ha:PT X a tA) (hb:PW X (.BoolOp .Or (b :: rest) pos) tB'):PW X (.BoolOp .Or (a :: b :: rest) pos) (B1 tA tB'):=by
 unfold PT at *; unfold PW at *
 exact by
  intro wh pins s σ H Q I h
  refine isTrue_or (bS (ha pins s σ H _ I h) fun c s1 ⟨H1,I1,q1⟩=>?_)
  cases c with
  | true=>exact ⟨H1,I1,q1⟩
  | false=>exact hb wh pins s1 σ H1 Q I1 q1
theorem bh (ha:PT X a tA):PT X (.UnaryOp .Not a pos) (Ae tA):=by
 unfold PT at *
 exact by
  intro pins s σ H Q I h
  exact isTrue_not (ha pins s σ H (fun c H1=>Q (!c) H1) I h)
def AF (ta tb:TE):TE:=fun σ H Q=>ta σ H fun x H1=>∃ c,x = .bl c ∧ if c = true then tb σ H1 Q else Q (.bl false) H1
def Ai (ta tb:TE):TE:=fun σ H Q=>ta σ H fun x H1=>∃ c,x = .bl c ∧ if c = true then Q (.bl true) H1 else tb σ H1 Q
def zq (ta:TE):TE:=fun σ H Q=>ta σ H fun x H1=>∃ c,x = .bl c ∧ Q (.bl (!c)) H1
theorem fJ {op} {t:TE} (h:PE X a t):PE X (.BoolOp op [a] pos) t:=by
 first
 | exact (fun pins s σ H Q I hw=>BoolOp_one (h pins s σ H Q I hw))
 | (unfold PE at *; exact (fun pins s σ H Q I hw=>BoolOp_one (h pins s σ H Q I hw)))
theorem dZ (ha:PE X a ta) (hb:PE X (.BoolOp .And (b :: rest) pos) tb):PE X (.BoolOp .And (a :: b :: rest) pos) (AF ta tb):=by
 unfold PE at *
 exact by
  intro pins s σ H Q I h
  refine BoolOp_and (bS (ha pins s σ H _ I h) fun v s1 ⟨x,H1,I1,r1,q1⟩=>?_)
  obtain ⟨c,rfl,q1⟩:=q1
  cases r1
  refine wpAny_truthy_bool ?_
  cases c with
  | true=>exact hb pins s1 σ H1 Q I1 q1
  | false=>exact ⟨.bl false,H1,I1,rfl,q1⟩
theorem AG (ha:PE X a ta) (hb:PE X (.BoolOp .Or (b :: rest) pos) tb):PE X (.BoolOp .Or (a :: b :: rest) pos) (Ai ta tb):=by
 unfold PE at *
 exact by
  intro pins s σ H Q I h
  refine BoolOp_or (bS (ha pins s σ H _ I h) fun v s1 ⟨x,H1,I1,r1,q1⟩=>?_)
  obtain ⟨c,rfl,q1⟩:=q1
  cases r1
  refine wpAny_truthy_bool ?_
  cases c with
  | false=>exact hb pins s1 σ H1 Q I1 q1
  | true=>exact ⟨.bl true,H1,I1,rfl,q1⟩
theorem zI (ha:PE X a ta):PE X (.UnaryOp .Not a pos) (zq ta):=by
 unfold PE at *
 exact by
  intro pins s σ H Q I h
  refine UnaryOp_ (bS (ha pins s σ H _ I h) fun v s1 ⟨x,H1,I1,r1,q1⟩=>?_)
  obtain ⟨c,rfl,q1⟩:=q1
  cases r1
  exact not_of (wpAny_truthy_bool ⟨.bl (!c),H1,I1,rfl,q1⟩)
end
end L2
namespace L2
open PySem PySem.Spec PyProof.Rows
def ah (K:PySem.W.Frag) (H:Hp) (a:Addr) (xs:List V):Prop :=
 Rd H a (.lst xs) ∨
  ∃ (o:Obj) (au:Array Value) (n:Nat),K.lookup a = some o ∧ o.cls = .type "list" ∧ o.dict = none ∧ o.data = .seq au n ∧ au.size ≤ sizeLine ∧ Vals xs au.toList
def bp (K:PySem.W.Frag) (H:Hp) (a:Addr) (xs:List V):Prop :=
 Rd H a (.tup xs) ∨
  ∃ (o:Obj) (au:Array Value) (n:Nat),K.lookup a = some o ∧ o.cls = .type "tuple" ∧ o.data = .seq au n ∧ au.size ≤ sizeLine ∧ Vals xs au.toList
def Ap:Value → Option V
 | .none=>some .bI
 | .bool b=>some (.bl b)
 | .int i _=>some (.int i)
 | .str x _=>some (.str x)
 | .bytes b _=>some (.byt b)
 | .float b _=>some (.flt b)
 | .ref a=>some (.ref a)
 | .type n=>some (.ty n)
 | _=>none
theorem RelV.abs {x:V} {u:Value} (r:RelV x u):Ap u = some x:=by
 cases x with
 | bI=>cases r; rfl
 | bl _=>cases r; rfl
 | int _=>obtain ⟨t,rfl⟩:=r; rfl
 | str _=>obtain ⟨t,rfl⟩:=r; rfl
 | byt _=>obtain ⟨t,rfl⟩:=r; rfl
 | flt _=>obtain ⟨t,rfl⟩:=r; rfl
 | ref _=>cases r; rfl
 | ty _=>cases r; rfl
theorem RelV.inj {x y:V} {u:Value} (r:RelV x u) (q:RelV y u):x = y:=Option.some.inj (r.abs.symm.trans q.abs)
theorem Vals.inj:∀ {xs ys:List V} {us:List Value},Vals xs us → Vals ys us → xs = ys
 | _,_,_,.nil,.nil=>rfl
 | _,_,_,.cons r t,.cons r' t'=>by rw [r.inj r',Vals.inj t t']
section
variable {X:Cx} {pins:List (Addr × Obj)} {σ:St} {H:Hp} {s:Shared} {a:Addr} {xs ys:List V}
theorem ah.of {K:PySem.W.Frag} (h:H a = some (.lst xs)):ah K H a xs:=.inl (.inl h)
theorem bp.of {K:PySem.W.Frag} (h:H a = some (.tup xs)):bp K H a xs:=.inl (.inl h)
theorem Inv.list (I:Inv X pins σ H s) (h:ah X.K H a xs):∃ au:List Value,Vals xs au ∧ PlainL s.heap a au.toArray ∧ xs.length ≤ sizeLine:=by
 rcases h with h | ⟨o,au,n,hk,hc,hd,hs,hz,r⟩
 ·obtain ⟨z,au,n,r,e⟩:=h.ok I.hok
  exact ⟨au,r,⟨_,n,e,rfl,rfl,rfl⟩,z⟩
 ·refine ⟨au.toList,r,⟨o,n,I.du a o hk,hc,hd,by simpa using hs⟩,?_⟩
  have e:=r.length
  simp only [Array.length_toList] at e
  omega
theorem Inv.tuple (I:Inv X pins σ H s) (h:bp X.K H a xs):∃ au:List Value,Vals xs au ∧ IsTup s.heap a au.toArray ∧ xs.length ≤ sizeLine:=by
 rcases h with h | ⟨o,au,n,hk,hc,hs,hz,r⟩
 ·obtain ⟨z,au,r,p⟩:=h.ok I.hok
  exact ⟨au,r,p,z⟩
 ·refine ⟨au.toList,r,⟨o,I.du a o hk,hc,n,by simpa using hs⟩,?_⟩
  have e:=r.length
  simp only [Array.length_toList] at e
  omega
theorem Inv.ig (I:Inv X pins σ H s) (h:ah X.K H a xs) (h':ah X.K H a ys):xs = ys:=by
 obtain ⟨au,r,⟨o,n,e,_,_,d⟩,_⟩:=I.list h
 obtain ⟨its',r',⟨o',n',e',_,_,d'⟩,_⟩:=I.list h'
 rw [e] at e'; cases e'
 rw [d] at d'
 injection d' with d1 _
 have:au = its':=by simpa using congrArg Array.toList d1
 subst this
 exact r.inj r'
theorem Inv.sW (I:Inv X pins σ H s) (h:bp X.K H a xs) (h':bp X.K H a ys):xs = ys:=by
 obtain ⟨au,r,⟨o,e,_,n,d⟩,_⟩:=I.tuple h
 obtain ⟨its',r',⟨o',e',_,n',d'⟩,_⟩:=I.tuple h'
 rw [e] at e'; cases e'
 rw [d] at d'
 injection d' with d1 _
 have:au = its':=by simpa using congrArg Array.toList d1
 subst this
 exact r.inj r'
end
abbrev Cx.jh (X:Cx) (E:Value → Shared → Prop):Cx:={ X with xe:=E }
abbrev Cx.xS (X:Cx):Cx:=X.jh fun _ _=>False
theorem Cx.Ok.jh {X:Cx} (ok:X.Ok) (E:Value → Shared → Prop):(X.jh E).Ok :=
 ⟨ok.mod,ok.kind,ok.glob,ok.blt,ok.above,ok.inj,ok.has,ok.cab,ok.hd,ok.frames,ok.stk,ok.exf,ok.bs,ok.bsz,ok.noex,ok.exfs,ok.jC,ok.frf⟩
theorem Cx.Ok.fG {X:Cx} {E:Value → Shared → Prop} (ok:(X.jh E).Ok):X.Ok :=
 ⟨ok.mod,ok.kind,ok.glob,ok.blt,ok.above,ok.inj,ok.has,ok.cab,ok.hd,ok.frames,ok.stk,ok.exf,ok.bs,ok.bsz,ok.noex,ok.exfs,ok.jC,ok.frf⟩
section
variable {X:Cx} {pins:List (Addr × Obj)} {σ:St} {H:Hp} {s:Shared} {E:Value → Shared → Prop}
theorem Inv.jh (I:Inv X pins σ H s) (E:Value → Shared → Prop):Inv (X.jh E) pins σ H s:=⟨I.ok.jh E,I.os,I.bare,I.base,I.loc,I.cell,I.free,I.freeC,I.pin,I.hok,I.len⟩
theorem Inv.fG (I:Inv (X.jh E) pins σ H s):Inv X pins σ H s:=⟨I.ok.fG,I.os,I.bare,I.base,I.loc,I.cell,I.free,I.freeC,I.pin,I.hok,I.len⟩
theorem SP.fG {D:Ends} {f:Flow} {s':Shared} (h:SP (X.jh E) pins D f s'):SP X pins D f s':=by
 cases f with
 | next=>obtain ⟨σ',H',I,q⟩:=h; exact ⟨σ',H',I.fG,q⟩
 | brk=>obtain ⟨σ',H',I,q⟩:=h; exact ⟨σ',H',I.fG,q⟩
 | cont=>obtain ⟨σ',H',I,q⟩:=h; exact ⟨σ',H',I.fG,q⟩
 | ret u=>obtain ⟨v,σ',H',I,r,q⟩:=h; exact ⟨v,σ',H',I.fG,r,q⟩
theorem PE.xS {e:Expr} {t:TE} (h:PE X.xS e t):PE X e t:=by
 unfold PE at *
 exact (fun pins s σ H Q I hw =>
  wpAny_mono (h pins s σ H Q (I.jh _) hw) (fun _ _ ⟨v,H',I',r,q⟩=>⟨v,H',I'.fG,r,q⟩) fun _ _ z=>False.elim z)
theorem PT.xS {e:Expr} {t:TT} (h:PT X.xS e t):PT X e t:=by
 unfold PT at *
 exact (fun pins s σ H Q I hw =>
  wpAny_mono (h pins s σ H Q (I.jh _) hw) (fun _ _ ⟨H',I',q⟩=>⟨H',I'.fG,q⟩) fun _ _ z=>False.elim z)
theorem jr.xS {st:List Stmt} {t:TS} (h:jr X.xS st t):jr X st t:=by
 unfold jr at *
 exact (fun pins s σ H D I hw =>
  wpAny_mono (h pins s σ H D (I.jh _) hw) (fun _ _ q=>q.fG) fun _ _ z=>False.elim z)
end
section
variable {X:Cx} {st:Stmt} {rest:List Stmt} {t u:TS} {e:Expr} {te:TE} {pos:Pos}
def zr:TS:=fun D σ H=>D.nx σ H
def A9 (t u:TS):TS:=fun D σ H=>t { D with nx:=u D } σ H
theorem aO:jr X [] zr:=by
 first
 | exact (fun _ _ σ H _ I h=>wpAny_execs_nil ⟨σ,H,I,h⟩)
 | (unfold jr at *; exact (fun _ _ σ H _ I h=>wpAny_execs_nil ⟨σ,H,I,h⟩))
theorem aC (h1:PS X st t) (h2:jr X rest u):jr X (st :: rest) (A9 t u):=by
 unfold PS at *; unfold jr at *
 exact by
  intro pins s σ H D I h
  refine wpAny_execs_cons (bS (h1 pins s σ H { D with nx:=u D } I h) fun f s1 q=>?_)
  cases f with
  | next =>
   obtain ⟨σ',H',I',q⟩:=q
   exact h2 pins s1 σ' H' D I' q
  | ret v=>exact q
  | brk=>exact q
  | cont=>exact q
theorem aH (h1:PS X st t):jr X [st] t:=by
 unfold PS at *; unfold jr at *
 exact by
  intro pins s σ H D I h
  refine wpAny_execs_cons (bS (h1 pins s σ H D I h) fun f s1 q=>?_)
  cases f with
  | next=>exact wpAny_execs_nil q
  | ret v=>exact q
  | brk=>exact q
  | cont=>exact q
theorem Inv.quiet {pins:List (Addr × Obj)} {σ:St} {H:Hp} {s:Shared} (I:Inv X pins σ H s):interactive X.env = false:=by simp [interactive,I.ok.kind]
def zw (te:TE):TS:=fun D σ H=>te σ H fun _ H1=>D.nx σ H1
theorem cq (he:PE X e te) (hs:swapsWith e none pos.line X.env = pure false:=by rfl):PS X (.Expr e pos) (zw te):=by
 unfold PE at *; unfold PS at *
 exact by
  intro pins s σ H D I h
  exact wpAny_Expr_any (bS (he pins s σ H _ I h) fun v s1 ⟨x,H1,I1,r1,q1⟩=>⟨σ,H1,I1,q1⟩) I.quiet hs
def Aw (te:TE):TS:=fun D σ H=>te σ H D.rt
theorem aR (he:PE X e te):PS X (.Return (some e) pos) (Aw te):=by
 unfold PE at *; unfold PS at *
 exact by
  intro pins s σ H D I h
  exact wpAny_Return_some (bS (he pins s σ H _ I h) fun v s1 ⟨x,H1,I1,r1,q1⟩=>⟨x,σ,H1,I1,r1,q1⟩)
def Ah (c:TT) (t u:TS):TS:=fun D σ H=>c σ H fun b H1=>if b = true then t D σ H1 else u D σ H1
theorem ai {c:Expr} {a b:List Stmt} {tc:TT} (hc:PT X c tc) (ha:jr X a t) (hb:jr X b u):PS X (.If c a b pos) (Ah tc t u):=by
 unfold PT at *; unfold PS at *; unfold jr at *
 exact by
  intro pins s σ H D I h
  refine wpAny_If (bS (hc pins s σ H _ I h) fun d s1 ⟨H1,I1,q1⟩=>?_)
  cases d with
  | true=>exact ha pins s1 σ H1 D I1 q1
  | false=>exact hb pins s1 σ H1 D I1 q1
def yI:TS:=fun _ _ _=>False
theorem uX:PS X st yI:=by
 first
 | exact (fun _ _ _ _ _ _ h=>h.elim)
 | (unfold PS at *; exact (fun _ _ _ _ _ _ h=>h.elim))
end
abbrev TG:=V → St → Hp → (St → Hp → Prop) → Prop
abbrev y8:=List V → St → Hp → (St → Hp → Prop) → Prop
@[irreducible] def PG (X:Cx) (target:Expr) (t:TG):Prop :=
 ∀ (pins:List (Addr × Obj)) (s:Shared) (σ:St) (H:Hp) (v:V) (u:Value) (Q:St → Hp → Prop),Inv X pins σ H s → RelV v u → t v σ H Q →
  wpAny (model X.prog X.w) X.A (assign target X.env u) (fun _ s'=>∃ σ' H',Inv X pins σ' H' s' ∧ Q σ' H') X.xe s
@[irreducible] def y7 (X:Cx) (ts:List Expr) (t:y8):Prop :=
 ∀ (pins:List (Addr × Obj)) (s:Shared) (σ:St) (H:Hp) (vs:List V) (us:List Value) (Q:St → Hp → Prop),Inv X pins σ H s → Vals vs us → t vs σ H Q →
  wpAny (model X.prog X.w) X.A (assignInOrder ((assignEach ts X.env).map (·.2)) us) (fun _ s'=>∃ σ' H',Inv X pins σ' H' s' ∧ Q σ' H') X.xe s
abbrev w6:=V → V → V → Hp → (Hp → Prop) → Prop
@[irreducible] def wL (X:Cx) (t:w6):Prop :=
 ∀ (pins:List (Addr × Obj)) (s:Shared) (σ:St) (H:Hp) (o i v:V) (ov iv u:Value) (Q:Hp → Prop),Inv X pins σ H s → RelV o ov → RelV i iv → RelV v u → t o i v H Q →
  wpAny (model X.prog X.w) X.A (setItem ov iv u) (fun _ s'=>∃ H',Inv X pins σ H' s' ∧ Q H') X.xe s
section
variable {X:Cx} {pos:Pos}
def vd (i:Nat):TG:=fun v σ H Q=>Q (σ.set i (some v)) H
theorem aQ {i:Nat} {x:Str} (hN:X.N.Nodup) (hi:X.N[i]? = some x) (hx:Loc X.env.scope x) (hf:X.fn x = true ∨ X.env.scope.names.lookup x = some .local:=by first | exact .inl rfl | exact .inr rfl | assumption):PG X (.Name x pos) (vd i):=by
 unfold PG at *
 exact by
  intro pins s σ H v u Q I r h
  exact wpAny_assign_Name (oS I hN hi hx r (fun s' I'=>⟨_,H,I',h⟩) hf)
def BE:y8:=fun vs σ H Q=>vs = [] ∧ Q σ H
def zp (t:TG) (u:y8):y8:=fun vs σ H Q=>∃ v r,vs = v :: r ∧ t v σ H fun σ' H'=>u r σ' H' Q
theorem fj:y7 X [] BE:=by
 unfold y7 at *
 exact by
  intro pins s σ H vs us Q I r h
  obtain ⟨e,h⟩:=h
  subst e
  cases r
  exact assignInOrder_nil ⟨σ,H,I,h⟩
theorem bE {e:Expr} {es:List Expr} {t:TG} {u:y8} (h1:PG X e t) (h2:y7 X es u)
  (hs:(assignEach (e :: es) X.env).map (·.2) = assign e X.env :: (assignEach es X.env).map (·.2):=by rfl):y7 X (e :: es) (zp t u):=by
 unfold PG at *; unfold y7 at *
 exact by
  intro pins s σ H vs us Q I r h
  obtain ⟨v,vr,e1,h⟩:=h
  subst e1
  cases r with
  | cons r rr =>
   rw [hs]
   refine assignInOrder_cons (bS (h1 pins s σ H _ _ _ I r h) fun _ s1 ⟨σ1,H1,I1,q1⟩=>?_)
   exact h2 pins s1 σ1 H1 _ _ Q I1 rr q1
def BL (K:PySem.W.Frag) (n:Nat) (t:y8):TG:=fun v σ H Q=>∃ a xs,v = .ref a ∧ bp K H a xs ∧ xs.length = n ∧ t xs σ H Q
theorem hX {es:List Expr} {k:Nat} {t:y8} {n:Nat} (hc:X.calm = true) (h:y7 X es t)
  (hn:(assignEach es X.env).length = n:=by rfl) (hst:(assignEach es X.env).findIdx? (·.1) = none:=by rfl):PG X (.Tuple es k pos) (BL X.K n t):=by
 unfold PG at *; unfold y7 at *
 exact by
  intro pins s σ H v u Q I r hw
  obtain ⟨a,xs,e1,hq,hl,hw⟩:=hw
  subst e1
  cases r
  obtain ⟨au,rv,ht,hz⟩:=I.tuple hq
  refine assign_Tuple_tuple (I.ok.hd hc) ht (by simp [hn,← hl,rv.length]) hst fun h' hx=>?_
  have I1:Inv X pins σ H { s with heap:=h' }:=I.kept (t':=s.toks) fun b o e=>hx b o (Nat.ne_of_lt (Heap.lt_size e)) e
  exact h pins _ σ H xs _ Q I1 (by simpa using rv) hw
def BF (to ti:TE) (t:w6):TG:=fun v σ H Q=>to σ H fun o H1=>ti σ H1 fun i H2=>t o i v H2 fun H3=>Q σ H3
theorem yP {o i:Expr} {to ti:TE} {t:w6} (ho:PE X o to) (hi:PE X i ti) (hs:wL X t)
  (ha:∀ v,assign (.Subscript o i pos) X.env v = (do
   let ov ← holding [v] (eval o X.env)
   let iv ← holding [v,ov] (eval i X.env)
   standAt pos
   holding [v,ov,iv] (setItem ov iv v)
   release [v,ov,iv] []):=by intro _; rfl):PG X (.Subscript o i pos) (BF to ti t):=by
 unfold PE at *; unfold PG at *; unfold wL at *
 exact by
  intro pins s σ H v u Q I r h
  rw [ha]
  refine wpAny_bind (wpAny_holding (bS (ho pins s σ H _ I h) fun ov s1 ⟨x,H1,I1,r1,q1⟩=>?_))
  refine wpAny_bind (wpAny_holding (bS (hi pins s1 σ H1 _ I1 q1) fun iv s2 ⟨y,H2,I2,r2,q2⟩=>?_))
  refine wpAny_bind (wpAny_standAt (wpAny_bind (wpAny_holding (bS (hs pins s2 σ H2 x y v ov iv u _ I2 r1 r2 r q2) fun _ s3 ⟨H3,I3,q3⟩=>?_))))
  exact wpAny_release ⟨σ,H3,I3,q3⟩
def yc (te:TE) (g:TG):TS:=fun D σ H=>te σ H fun x H1=>g x σ H1 D.nx
theorem ke {tg e:Expr} {te:TE} {g:TG} (he:PE X e te) (hg:PG X tg g) (hs:swapsWithSole [tg] e pos.line X.env = pure false:=by rfl) (hw:swappedStores [tg] e X.env = pure none:=by rfl)
  (h1:(assignEach [tg] X.env).map (·.2) = [assign tg X.env]:=by rfl):PS X (.Assign [tg] e pos) (yc te g):=by
 unfold PE at *; unfold PS at *; unfold PG at *
 exact by
  intro pins s σ H D I h
  refine wpAny_Assign_stores (bS (he pins s σ H _ I h) fun v s1 ⟨x,H1,I1,r1,q1⟩=>?_) hs hw
  rw [h1]
  exact bS (hg pins s1 σ H1 x v _ I1 r1 q1) fun _ s2 q=>q
theorem aN {i:Nat} {x:Str} {e:Expr} {te:TE} {pos':Pos} (hN:X.N.Nodup) (hi:X.N[i]? = some x) (hx:Loc X.env.scope x) (he:PE X e te) (hs:swapsWith e (some (.Name x pos')) pos.line X.env = pure false:=by rfl) (hf:X.fn x = true ∨ X.env.scope.names.lookup x = some .local:=by first | exact .inl rfl | exact .inr rfl | assumption) :
  PS X (.Assign [.Name x pos'] e pos) (yc te (vd i)):=by
 unfold PE at *; unfold PS at *
 exact by
  intro pins s σ H D I h
  refine wpAny_Assign_Name (bS (he pins s σ H _ I h) fun v s1 ⟨y,H1,I1,r1,q1⟩=>?_) hs
  exact oS I1 hN hi hx r1 (fun s2 I2=>⟨_,H1,I2,q1⟩) hf
end
section
variable {X:Cx} {pos:Pos}
end
/- at turn i: it yields x (the heap may grow),or it stops -/
set_option genInjectivity false in
set_option genSizeOfSpec false in
set_option genSizeOf false in
structure It where
 go:Nat → Hp → Prop
 yld:Nat → Hp → V → Hp → Prop
 stop:Nat → Hp → Prop
def kP (X:Cx) (pins:List (Addr × Obj)) (H:Hp) (b:Addr):Prop :=
 H b = none ∧ b ≠ X.env.locals ∧ b ∉ X.fs ∧ (b ∈ X.ex ∨ X.s₀.heap.objs.size ≤ b) ∧ (∀ x c,X.env.cells.lookup x = some c → c ≠ b) ∧ ∀ p ∈ X.pn ++ pins,p.1 ≠ b
theorem Inv.sY {X:Cx} {pins:List (Addr × Obj)} {σ:St} {H H':Hp} {s:Shared} {b:Addr} (I:Inv X pins σ H s) (hb:s.heap.objs.size ≤ b) (hn:H' b = none):kP X pins H' b:=by
 refine ⟨hn,Nat.ne_of_gt (Nat.lt_of_lt_of_le I.lt hb),I.zX hb,.inr (Nat.le_trans I.sz hb),fun x c e z=>?_,fun p hp z=>?_⟩
 ·obtain ⟨v,q⟩:=I.cell x c e
  exact absurd (Nat.lt_of_lt_of_le q.lt (by rw [z]; exact hb)) (Nat.lt_irrefl _)
 ·exact absurd (Nat.lt_of_lt_of_le (Heap.lt_size (I.pin p hp).1) (by rw [z]; exact hb)) (Nat.lt_irrefl _)
structure Turn (P:Program) (w:World) (K:PySem.W.Frag) (tg:Expr) (J:It) (fp:List Addr) (it:Addr) (tn:Nat → Heap → Prop):Prop where
 mem:it ∈ fp
 obj:∀ i h,tn i h → ∀ b ∈ fp,∃ o,h.get? b = some o ∧ ∀ v,o.data ≠ .cell v
 keep:∀ i h h',tn i h → (∀ b ∈ fp,∀ o,h.get? b = some o → h'.get? b = some o) → tn i h'
 item:∀ (X:Cx),X.prog = P → X.w = w → X.K = K → X.calm = true → ∀ (i:Nat) (pins:List (Addr × Obj)) (s:Shared) (σ:St) (H:Hp) (E:Value → Shared → Prop),Inv X pins σ H s → (∀ b ∈ fp,kP X pins H b) → tn i s.heap → J.go i H →
  wpAny (model P w) X.A (pyNext (.ref it)) (fun r s1=>∃ u,r = some u ∧
   wpAny (model P w) X.A (letOwnedTupleGo tg (.ref it) u) (fun _ s2=>∃ x H',Inv X pins σ H' s2 ∧ RelV x u ∧ J.yld i H x H' ∧ tn (i + 1) s2.heap ∧ ∀ b ∈ fp,H' b = none) E s1) E s
 done:∀ (X:Cx),X.prog = P → X.w = w → X.K = K → X.calm = true → ∀ (i:Nat) (pins:List (Addr × Obj)) (s:Shared) (σ:St) (H:Hp) (E:Value → Shared → Prop),Inv X pins σ H s → (∀ b ∈ fp,kP X pins H b) → tn i s.heap → J.stop i H →
  wpAny (model P w) X.A (pyNext (.ref it)) (fun r s1=>r = none ∧ Inv X pins σ H s1) E s
 self:∀ (A:Around) (i:Nat) (s:Shared) (Q:Value → Shared → Prop) (E:Value → Shared → Prop),tn i s.heap → Q (.ref it) s → wpAny (model P w) A (pyIter (.ref it)) Q E s
abbrev TI:=St → Hp → (It → Hp → Prop) → Prop
def BW (X:Cx) (pins:List (Addr × Obj)) (σ:St) (tg:Expr) (R:It → Hp → Prop) (itv:Value) (s2:Shared):Prop :=
 ∃ (it:Addr) (fp:List Addr) (tn:Nat → Heap → Prop) (J:It) (H':Hp),itv = .ref it ∧ Inv X pins σ H' s2 ∧ Turn X.prog X.w X.K tg J fp it tn ∧ tn 0 s2.heap ∧ (∀ b ∈ fp,kP X pins H' b) ∧ R J H'
@[irreducible] def PI (X:Cx) (tg iter:Expr) (wi:TI):Prop :=
 ∀ (pins:List (Addr × Obj)) (s:Shared) (σ:St) (H:Hp) (R:It → Hp → Prop),Inv X pins σ H s → wi σ H R →
  wpAny (model X.prog X.w) X.A (eval iter X.env) (fun v s1=>wpAny (model X.prog X.w) X.A (pyIter v) (BW X pins σ tg R) X.xe s1) X.xe s
theorem pf {M : Model} {A : Around} {E : Value → Shared → Prop} {s : Shared} {tg : Expr} {it : Addr} {u : Value} {o : Obj} {n : String} {vs : Array Value} {Q : Unit → Shared → Prop} (ho : s.heap.get? it = some o) (hc : o.cls = .type n) (hd : o.data = .fields vs)
    (hn : ["enumerate", "zip", "dict_itemiterator", "dict_reverseitemiterator", "odict_iterator", "itertools.zip_longest", "itertools.pairwise"].contains n = false) (hQ : Q () s) : wpAny M A (letOwnedTupleGo tg (.ref it) u) Q E s := by
  unfold letOwnedTupleGo
  cases tg <;> first
    | exact wpAny_pure hQ
    | (cases u <;> first
        | exact wpAny_pure hQ
        | (refine wpAny_bind (wpAny_load ho ?_)
           rw [hc, hd]
           show wpAny M A (if (["enumerate", "zip", "dict_itemiterator", "dict_reverseitemiterator", "odict_iterator", "itertools.zip_longest", "itertools.pairwise"].contains n && vs[0]? == some (rawInt _)) = true then _ else _) Q E s
           rw [if_neg (by intro h; rw [hn, Bool.false_and] at h; cases h)]
           exact wpAny_pure hQ))
def yg (K:PySem.W.Frag) (a:Addr):It :=
 ⟨fun i H=>∃ xs x,ah K H a xs ∧ xs[i]? = some x,fun i H x H'=>H' = H ∧ ∀ xs,ah K H a xs → xs[i]? = some x,fun i H=>∃ xs,ah K H a xs ∧ xs.length ≤ i⟩
def yn (lo:Int) (n:Nat):It:=⟨fun i _=>i < n,fun i H x H'=>H' = H ∧ x = .int (lo + i),fun i _=>n ≤ i⟩
theorem tR {P:Program} {w:World} {K:PySem.W.Frag} {tg:Expr} (a it:Addr):Turn P w K tg (yg K a) [it] it (fun i h=>h.IsListIter it a i) where
 mem:=by simp
 obj:=fun i h st b hb=>by
  have e:b = it:=by simpa using hb
  subst e
  obtain ⟨o,e,c,d⟩:=st
  exact ⟨o,e,fun v z=>by rw [d] at z; cases z⟩
 keep:=fun i h h' st k=>st.at fun o e=>k it (by simp) o e
 item:=by
  intro X hP hw hK hc i pins s σ H E I hf st hg
  subst hP hw hK
  obtain ⟨xs,x,hq,hx⟩:=hg
  obtain ⟨au,rv,p,hz⟩:=I.list hq
  obtain ⟨u,hu,ru⟩:=rv.get hx
  obtain ⟨f0,f1,f2,f3,f4,f5⟩:=hf it (by simp)
  refine wpAny_pyNext_list_item st p.isList (x:=u) (by simpa using hu) fun h' st' sb=>?_
  have I1:Inv X pins σ H { s with heap:=h' }:=I.turned (t':=s.toks) (fun b o hb e=>(sb.2 b hb).trans e) f0 f1 f3 f4 f5
  obtain ⟨o,e,c,d⟩:=id st'
  exact ⟨u,rfl,pf (s:={ s with heap:=h' }) e c d (by decide) ⟨x,H,I1,ru,⟨rfl,fun ys hy=>by rw [I.ig hy hq]; exact hx⟩,st',fun b hb=>(hf b hb).1⟩⟩
 done:=by
  intro X hP hw hK hc i pins s σ H E I hf st hg
  subst hP hw hK
  obtain ⟨xs,hq,hx⟩:=hg
  obtain ⟨au,rv,p,hz⟩:=I.list hq
  obtain ⟨f0,f1,f2,f3,f4,f5⟩:=hf it (by simp)
  have hl:=rv.length
  exact wpAny_pyNext_list_end (I.ok.hd hc) st p.isList (by simp; omega) fun h' eb=>⟨rfl,I.turned (t':=s.toks) (fun b o hb e=>eb b o hb e) f0 f1 f3 f4 f5⟩
 self:=fun _ _ _ _ _ st h=>wpAny_pyIter_listiter st h
theorem qD {P:Program} {w:World} {K:PySem.W.Frag} {tg:Expr} (it:Addr) (lo:Int) (n:Nat):Turn P w K tg (yn lo n) [it] it (fun i h=>IsRangeIter h it (lo + (i:Nat) * 1) ((n:Int) - (i:Nat)) 1) where
 mem:=by simp
 obj:=fun i h st b hb=>by
  have e:b = it:=by simpa using hb
  subst e
  exact ⟨_,st,fun v z=>by
   have z':Data.fields _ = Data.cell v:=z
   cases z'⟩
 keep:=fun i h h' st k=>k it (by simp) _ st
 item:=by
  intro X hP hw hK hc i pins s σ H E I hf st hg
  subst hP hw hK
  obtain ⟨f0,f1,f2,f3,f4,f5⟩:=hf it (by simp)
  have W:=Walks.range (prog:=X.prog) (w:=X.w) (I.ok.hd hc) it lo 1 n
  refine W.item i s _ _ hg st fun v h' tk hv st' kk=>?_
  obtain ⟨t,rfl⟩:=hv
  have I1:Inv X pins σ H { s with heap:=h',toks:=tk }:=I.turned (fun b o hb e=>kk b o (by simpa using hb) e) f0 f1 f3 f4 f5
  refine ⟨_,rfl,pf (s:={ s with heap:=h',toks:=tk }) (n := "range_iterator") st' rfl rfl (by decide) ⟨.int (lo + i),H,I1,⟨t,?_⟩,⟨rfl,rfl⟩,st',fun b hb=>(hf b hb).1⟩⟩
  rw [Int.mul_one]
 done:=by
  intro X hP hw hK hc i pins s σ H E I hf st hg
  subst hP hw hK
  obtain ⟨f0,f1,f2,f3,f4,f5⟩:=hf it (by simp)
  exact wpAny_pyNext_range_end (I.ok.hd hc) st (by have:n ≤ i:=hg; omega) fun h' eb=>⟨rfl,I.turned (t':=s.toks) (fun b o hb e=>eb b o hb e) f0 f1 f3 f4 f5⟩
 self:=fun _ _ _ _ _ st h=>wpAny_pyIter_rangeiter st h
end L2
namespace L2
open PySem PySem.Spec PyProof.Rows
section
variable {X:Cx} {tg:Expr}
def AN (K:PySem.W.Frag) (tl:TE):TI:=fun σ H R=>tl σ H fun x H1=>∃ a,x = .ref a ∧ (∃ xs,ah K H1 a xs) ∧ R (yg K a) H1
theorem bW {l:Expr} {tl:TE} (hl:PE X l tl):PI X tg l (AN X.K tl):=by
 unfold PE at *; unfold PI at *
 exact by
  intro pins s σ H R I h
  refine bS (hl pins s σ H _ I h) fun v s1 ⟨x,H1,I1,r1,q1⟩=>?_
  obtain ⟨a,e,⟨xs,hq⟩,q⟩:=q1
  subst e
  cases r1
  obtain ⟨au,rv,p,hz⟩:=I1.list hq
  refine wpAny_pyIter_list p.isList ?_
  refine ⟨s1.heap.objs.size,[s1.heap.objs.size],_,_,H1,rfl,I1.kept (t':=s1.toks) fun b o e=>Heap.get?_push_of_some _ e,tR a _,⟨_,Heap.get?_push_size _ rfl,rfl,rfl⟩,fun b hb=>?_,q⟩
  have e:b = s1.heap.objs.size:=by simpa using hb
  subst e
  exact I1.sY (Nat.le_refl _) (I1.hok.fresh (Nat.le_refl _))
theorem vH {pins:List (Addr × Obj)} {σ:St} {H:Hp} {s:Shared} {R:It → Hp → Prop} {E:Value → Shared → Prop} {lo hi:Int} {t u v:Tok} {tk:Nat} (I:Inv X pins σ H s) (h1:-(2 ^ 62) ≤ lo) (h2:lo < 2 ^ 62) (h3:-(2 ^ 62) ≤ hi) (h4:hi < 2 ^ 62)
  (q:R (yn lo (hi - lo).toNat) H):wpAny (model X.prog X.w) X.A (pyIter (.ref s.heap.objs.size)) (BW X pins σ tg R) E { s with heap:=s.heap.push { cls:=.type "range",data:=.fields #[.int lo t,.int hi u,.int 1 v] },toks:=tk }:=by
 refine wpAny_pyIter_range (IsRange.new ..) (small_one h1 h2 h3 h4) ?_
 have I1:Inv X pins σ H { s with heap:=s.heap.push { cls:=.type "range",data:=.fields #[.int lo t,.int hi u,.int 1 v] },toks:=tk }:=I.kept fun b o e=>Heap.get?_push_of_some _ e
 refine ⟨(s.heap.push { cls:=.type "range",data:=.fields #[.int lo t,.int hi u,.int 1 v] }).objs.size,[(s.heap.push { cls:=.type "range",data:=.fields #[.int lo t,.int hi u,.int 1 v] }).objs.size],_,_,H,rfl,
  I1.kept (t':=tk) fun b o e=>Heap.get?_push_of_some _ e,qD _ lo (hi - lo).toNat,?_,fun b hb=>?_,q⟩
 ·have e1:lo + ((0:Nat):Int) * 1 = lo:=by simp
  have e2:(((hi - lo).toNat:Nat):Int) - ((0:Nat):Int) = Builtin.Range.rangeSize lo hi 1:=by rw [rangeSize_one]; split <;> omega
  show IsRangeIter _ _ (lo + ((0:Nat):Int) * 1) ((((hi - lo).toNat:Nat):Int) - ((0:Nat):Int)) 1
  rw [e1,e2]
  exact Heap.get?_push_size _ rfl
 ·have e:b = (s.heap.push { cls:=.type "range",data:=.fields #[.int lo t,.int hi u,.int 1 v] }).objs.size:=by simpa using hb
  subst e
  exact I1.sY (Nat.le_refl _) (I1.hok.fresh (Nat.le_refl _))
def AY (ta:TA):TI:=fun σ H R=>ta σ H fun vs H1=>∃ j:Int,vs = [.int j] ∧ -(2 ^ 62) ≤ j ∧ j < 2 ^ 62 ∧ R (yn 0 j.toNat) H1
theorem cZ {a:Expr} {ta:TA} {p pos:Pos} (hg:Gl X "range") (hm:X.mg "range" = none) (ha:PA X [a] ta) (hs:starEach [a] X.env = [(false,eval a X.env)]:=by rfl):PI X tg (.Call (.Name "range" p) [a] [] pos) (AY ta):=by
 unfold PA at *; unfold PI at *
 exact by
  intro pins s σ H R I h
  refine Call_ (jB I hg hm boot_range (PyProof.Rows.callWith_type1 (bS (ha pos pins s σ H _ I h) fun us s1 ⟨vs,H1,I1,r1,q1⟩=>?_) hs rfl))
  obtain ⟨j,e,q1,q2,q⟩:=q1
  subst e
  cases r1 with
  | cons r rr =>
   cases rr
   obtain ⟨t,rfl⟩:=r
   exact call_range_1 (vH I1 (by omega) (by omega) q1 q2 (by simpa using q))
def Aj (wi:TI) (g:TG) (tb:TS):TS:=fun D σ H=>wi σ H fun J H1=>∃ W:Nat → Nat → St → Hp → Prop,(∃ m,W 0 m σ H1) ∧ ∀ i m σ H,W i m σ H →
 (J.stop i H ∧ D.nx σ H) ∨ (J.go i H ∧ ∃ N:St → Hp → Prop,(∀ σ' H',N σ' H' → ∃ m',m' < m ∧ W (i + 1) m' σ' H') ∧ ∀ x H',J.yld i H x H' → g x σ H' fun σ2 H2=>tb { D with nx:=N,ct:=N,bk:=D.nx } σ2 H2)
def lG (fp:List Addr) (h:Heap):List (Addr × Obj):=fp.filterMap fun b=>(h.get? b).map fun o=>(b,o)
theorem fh {fp:List Addr} {h:Heap} {b:Addr} {o:Obj} (hb:b ∈ fp) (e:h.get? b = some o):(b,o) ∈ lG fp h:=List.mem_filterMap.mpr ⟨b,hb,by rw [e]; rfl⟩
theorem sN {fp:List Addr} {h:Heap} {p:Addr × Obj} (hp:p ∈ lG fp h):p.1 ∈ fp ∧ h.get? p.1 = some p.2:=by
 obtain ⟨b,hb,e⟩:=List.mem_filterMap.mp hp
 cases q:h.get? b with
 | none=>rw [q] at e; cases e
 | some o =>
  rw [q] at e
  have e':(b,o) = p:=Option.some.inj e
  subst e'
  exact ⟨hb,q⟩
theorem Inv.pinned {pins:List (Addr × Obj)} {σ:St} {H:Hp} {s:Shared} {fp:List Addr} (I:Inv X pins σ H s) (hf:∀ b ∈ fp,kP X pins H b) (ho:∀ b ∈ fp,∃ o,s.heap.get? b = some o ∧ ∀ v,o.data ≠ .cell v):Inv X (pins ++ lG fp s.heap) σ H s :=
 I.rN fun p hp=>(List.mem_append.mp hp).elim (fun z=>I.pin p (List.mem_append_right _ z)) fun z=>by
  obtain ⟨hb,e⟩:=sN z
  obtain ⟨f0,f1,f2,_⟩:=hf p.1 hb
  obtain ⟨o,e',d⟩:=ho p.1 hb
  rw [e] at e'; cases e'
  exact ⟨e,f0,f1,f2,d⟩
theorem Inv.i7 {pins pl:List (Addr × Obj)} {σ:St} {H:Hp} {s:Shared} (I:Inv X (pins ++ pl) σ H s):Inv X pins σ H s:=I.rN fun p hp=>I.pin p (List.mem_append_right _ (List.mem_append_left _ hp))
theorem cU {iter:Expr} {body:List Stmt} {wi:TI} {g:TG} {tb:TS} {pos:Pos} (hp:PassesOwn (model X.prog X.w) X.A X.env X.xe) (hc:X.calm = true) (hi:PI X tg iter wi) (hg:PG X tg g) (hb:jr X body tb)
  (hs:∀ x,foldedSetIterable iter X.env x = pure x:=by intro _; rfl):PS X (.For tg iter body [] pos) (Aj wi g tb):=by
 unfold PS at *; unfold jr at *; unfold PG at *; unfold PI at *
 exact by
  intro pins s σ H D I h
  refine wpAny_For (bS (hi pins s σ H _ I h) fun v s1 h1=>bS h1 fun itv s2 h2=>?_) hs
  obtain ⟨it,fp,tn,J,H2,e,I2,T,st2,f2,W,⟨m0,w0⟩,turn⟩:=h2
  subst e
  -- what stays true of the iterator's objects through the loop
  have stat:∀ {H':Hp},(∀ b ∈ fp,H' b = none) → ∀ b ∈ fp,kP X pins H' b:=fun hn b hb=>⟨hn b hb,(f2 b hb).2⟩
  refine codeAny_forLoop_any (fun n s'=>∃ i σ' H',Inv X pins σ' H' s' ∧ tn i s'.heap ∧ (∀ b ∈ fp,H' b = none) ∧ W i n σ' H') ?_ m0 ⟨0,σ,H2,I2,st2,fun b hb=>(f2 b hb).1,w0⟩
  rintro n s3 ⟨i,σ3,H3,I3,st3,fr3,w3⟩
  rcases turn i n σ3 H3 w3 with ⟨stop,qn⟩ | ⟨go,N,hN,step⟩
  ·refine wpAny_passesOwn hp (bS (T.done X rfl rfl rfl hc i pins s3 σ3 H3 X.xe I3 (stat fr3) st3 stop) fun r s4 ⟨hr,I4⟩=>?_)
   subst hr
   exact wpAny_execs_nil ⟨σ3,H3,I4,qn⟩
  ·refine wpAny_passesOwn hp (bS (T.item X rfl rfl rfl hc i pins s3 σ3 H3 X.xe I3 (stat fr3) st3 go) fun r s4 ⟨u,hr,h4⟩=>?_)
   subst hr
   refine wpAny_passesOwn hp (bS h4 fun _ s5 ⟨x,H5,I5,r5,y5,st5,fr5⟩=>?_)
   have I5':=I5.pinned (stat fr5) (T.obj _ _ st5)
   refine wpAny_passesOwn hp (bS (hg _ s5 σ3 H5 x u _ I5' r5 (step x H5 y5)) fun _ s6 ⟨σ6,H6,I6,q6⟩=>?_)
   refine wpAny_passesOwn hp (bS (hb _ s6 σ6 H6 _ I6 q6) fun f s7 q7=>?_)
   have again:∀ {σ7:St} {H7:Hp},Inv X (pins ++ lG fp s5.heap) σ7 H7 s7 → N σ7 H7 → ∃ m,m < n ∧ ∃ i σ' H',Inv X pins σ' H' s7 ∧ tn i s7.heap ∧ (∀ b ∈ fp,H' b = none) ∧ W i m σ' H':=fun {σ7 H7} I7 n7=>by
    obtain ⟨m',hm,w7⟩:=hN σ7 H7 n7
    refine ⟨m',hm,i + 1,σ7,H7,I7.i7,T.keep _ _ _ st5 fun b hb o e=>(I7.pin (b,o) (List.mem_append_right _ (List.mem_append_right _ (fh hb e)))).1,fun b hb=>?_,w7⟩
    obtain ⟨o,e,d⟩:=T.obj _ _ st5 b hb
    exact (I7.pin (b,o) (List.mem_append_right _ (List.mem_append_right _ (fh hb e)))).2.1
   cases f with
   | next=>obtain ⟨σ7,H7,I7,n7⟩:=q7; exact again I7 n7
   | cont=>obtain ⟨σ7,H7,I7,n7⟩:=q7; exact again I7 n7
   | brk=>obtain ⟨σ7,H7,I7,q7⟩:=q7; exact ⟨σ7,H7,I7.i7,q7⟩
   | ret v=>obtain ⟨x7,σ7,H7,I7,r7,q7⟩:=q7; exact ⟨x7,σ7,H7,I7.i7,r7,q7⟩
end
theorem dh {K:PySem.W.Frag} {a:Addr} {xs:List V} {g:TG} {tb:TS} {D:Ends} {σ:St} {H:Hp} (Pv:Nat → St → Hp → Prop) (h0:Pv 0 σ H) (hl:∀ i σ H,i ≤ xs.length → Pv i σ H → ah K H a xs)
  (hs:∀ i x σ H,xs[i]? = some x → Pv i σ H → g x σ H fun σ2 H2=>tb { D with nx:=Pv (i + 1),ct:=Pv (i + 1),bk:=D.nx } σ2 H2) (hd:∀ σ H,Pv xs.length σ H → D.nx σ H) :
  ∃ W:Nat → Nat → St → Hp → Prop,(∃ m,W 0 m σ H) ∧ ∀ i m σ H,W i m σ H →
   ((yg K a).stop i H ∧ D.nx σ H) ∨ ((yg K a).go i H ∧ ∃ N:St → Hp → Prop,(∀ σ' H',N σ' H' → ∃ m',m' < m ∧ W (i + 1) m' σ' H') ∧ ∀ x H',(yg K a).yld i H x H' → g x σ H' fun σ2 H2=>tb { D with nx:=N,ct:=N,bk:=D.nx } σ2 H2):=by
 refine ⟨fun i m σ H=>m = xs.length - i ∧ i ≤ xs.length ∧ Pv i σ H,⟨xs.length,by simp,Nat.zero_le _,h0⟩,?_⟩
 rintro i m σ H ⟨rfl,hi,p⟩
 have q:=hl i σ H hi p
 by_cases hlt:i < xs.length
 ·refine .inr ⟨⟨xs,xs[i],q,by simp [hlt]⟩,Pv (i + 1),fun σ' H' p'=>⟨xs.length - (i + 1),by omega,rfl,hlt,p'⟩,fun x H' y=>?_⟩
  obtain ⟨e,y⟩:=y
  subst e
  exact hs i x σ _ (y xs q) p
 ·have e:i = xs.length:=by omega
  subst e
  exact .inl ⟨⟨xs,q,Nat.le_refl _⟩,hd σ H p⟩
theorem eE {lo:Int} {n:Nat} {g:TG} {tb:TS} {D:Ends} {σ:St} {H:Hp} (Pv:Nat → St → Hp → Prop) (h0:Pv 0 σ H)
  (hs:∀ i σ H,i < n → Pv i σ H → g (.int (lo + i)) σ H fun σ2 H2=>tb { D with nx:=Pv (i + 1),ct:=Pv (i + 1),bk:=D.nx } σ2 H2) (hd:∀ σ H,Pv n σ H → D.nx σ H) :
  ∃ W:Nat → Nat → St → Hp → Prop,(∃ m,W 0 m σ H) ∧ ∀ i m σ H,W i m σ H →
   ((yn lo n).stop i H ∧ D.nx σ H) ∨ ((yn lo n).go i H ∧ ∃ N:St → Hp → Prop,(∀ σ' H',N σ' H' → ∃ m',m' < m ∧ W (i + 1) m' σ' H') ∧ ∀ x H',(yn lo n).yld i H x H' → g x σ H' fun σ2 H2=>tb { D with nx:=N,ct:=N,bk:=D.nx } σ2 H2):=by
 refine ⟨fun i m σ H=>m = n - i ∧ i ≤ n ∧ Pv i σ H,⟨n,by simp,Nat.zero_le _,h0⟩,?_⟩
 rintro i m σ H ⟨rfl,hi,p⟩
 by_cases hlt:i < n
 ·refine .inr ⟨hlt,Pv (i + 1),fun σ' H' p'=>⟨n - (i + 1),by omega,rfl,hlt,p'⟩,fun x H' y=>?_⟩
  obtain ⟨e,y⟩:=y
  subst e y
  exact hs i σ _ hlt p
 ·have e:i = n:=by omega
  subst e
  exact .inl ⟨Nat.le_refl _,hd σ H p⟩
end L2
namespace L2
open PySem PySem.Spec PyProof.Rows
abbrev R2:=V → V → Hp → VK → Prop
@[irreducible] def c8 (X:Cx) (f:Value → Value → Sem Value) (r:R2):Prop :=
 ∀ (pins:List (Addr × Obj)) (s:Shared) (σ:St) (H:Hp) (x y:V) (v u:Value) (Q:VK),Inv X pins σ H s → RelV x v → RelV y u → r x y H Q →
  wpAny (model X.prog X.w) X.A (f v u) (EP X pins σ Q) X.xe s
@[irreducible] def zT (X:Cx) (f:Value → Sem Value) (r:V → Hp → VK → Prop):Prop :=
 ∀ (pins:List (Addr × Obj)) (s:Shared) (σ:St) (H:Hp) (x:V) (v:Value) (Q:VK),Inv X pins σ H s → RelV x v → r x H Q →
  wpAny (model X.prog X.w) X.A (f v) (EP X pins σ Q) X.xe s
@[irreducible] def b6 (X:Cx) (f:Value) (r:List V → Hp → VK → Prop):Prop :=
 ∀ (pins:List (Addr × Obj)) (s:Shared) (σ:St) (H:Hp) (xs:List V) (us:List Value) (Q:VK),Inv X pins σ H s → Vals xs us → r xs H Q →
  wpAny (model X.prog X.w) X.A (call f us) (EP X pins σ Q) X.xe s
@[irreducible] def yC (X:Cx) (r:V → Hp → (Bool → Hp → Prop) → Prop):Prop :=
 ∀ (pins:List (Addr × Obj)) (s:Shared) (σ:St) (H:Hp) (x:V) (v:Value) (Q:Bool → Hp → Prop),Inv X pins σ H s → RelV x v → r x H Q →
  wpAny (model X.prog X.w) X.A (truthy v) (TP X pins σ Q) X.xe s
def A4 (r:R2) (ta tb:TE):TE:=fun σ H Q=>ta σ H fun x H1=>tb σ H1 fun y H2=>r x y H2 Q
def B4 (r:V → Hp → VK → Prop) (ta:TE):TE:=fun σ H Q=>ta σ H fun x H1=>r x H1 Q
def rI (C:Int → Int → Prop) (g:Int → Int → V):R2:=fun x y H Q=>∃ i j,x = .int i ∧ y = .int j ∧ C i j ∧ Q (g i j) H
def zQ (g:Int → Int → V):R2:=fun x y H Q=>∃ i j,x = .int i ∧ y = .int j ∧ Q (g i j) H
def rU (g:Int → V):V → Hp → VK → Prop:=fun x H Q=>∃ i,x = .int i ∧ Q (g i) H
section
variable {X:Cx} {a b c:Expr} {ta tb tc:TE} {pos:Pos}
theorem yQ (ha:PE X a ta) (hb:PE X b tb) {pins:List (Addr × Obj)} {s:Shared} {σ:St} {H:Hp} {R:V → V → Hp → Prop} (I:Inv X pins σ H s)
  (h:ta σ H fun x H1=>tb σ H1 fun y H2=>R x y H2) {Q:Value → Shared → Prop} {f:Value → Value → Sem Value}
  (hf:∀ v u s2 x y H2,Inv X pins σ H2 s2 → RelV x v → RelV y u → R x y H2 → wpAny (model X.prog X.w) X.A (f v u) Q X.xe s2) :
  wpAny (model X.prog X.w) X.A (eval a X.env) (fun v s₁=>wpAny (model X.prog X.w) X.A (eval b X.env) (fun u s₂=>wpAny (model X.prog X.w) X.A (f v u) Q X.xe s₂) X.xe s₁) X.xe s:=by
 unfold PE at *
 exact by
  refine bS (ha pins s σ H _ I h) fun v s1 ⟨x,H1,I1,r1,q1⟩=>?_
  refine bS (hb pins s1 σ H1 _ I1 q1) fun u s2 ⟨y,H2,I2,r2,q2⟩=>?_
  exact hf v u s2 x y H2 I2 r1 r2 q2
theorem aP {op:Operator} {r:R2} (ho:c8 X (binaryOp op) r) (ha:PE X a ta) (hb:PE X b tb):PE X (.BinOp a op b pos) (A4 r ta tb):=by
 unfold PE; unfold c8 at ho
 exact by
  intro pins s σ H Q I h
  exact wpAny_BinOp (yQ ha hb I h fun v u s2 x y H2 I2 rx ry q=>ho pins s2 σ H2 x y v u Q I2 rx ry q)
theorem o9 {op:UnaryOp} {r:V → Hp → VK → Prop} (ho:zT X (unaryOp op) r) (ha:PE X a ta):PE X (.UnaryOp op a pos) (B4 r ta):=by
 unfold PE at *; unfold zT at *
 exact by
  intro pins s σ H Q I h
  exact UnaryOp_ (bS (ha pins s σ H _ I h) fun v s1 ⟨x,H1,I1,r1,q1⟩=>ho pins s1 σ H1 x v Q I1 r1 q1)
theorem zA {f:Value → Value → Sem Value} {C:Int → Int → Prop} {g:Int → Int → Int}
  (rule:∀ (i j:Int) (t u:Tok) (s:Shared) (Q:Value → Shared → Prop) (E:Value → Shared → Prop),C i j → Q (.int (g i j) s.toks) { s with toks:=s.toks + 1 } → wpAny (model X.prog X.w) X.A (f (.int i t) (.int j u)) Q E s) :
  c8 X f (rI C fun i j=>.int (g i j)):=by
 unfold c8 at *
 exact by
  intro pins s σ H x y v u Q I rx ry h
  obtain ⟨i,j,rfl,rfl,hc,q⟩:=h
  obtain ⟨t,rfl⟩:=rx
  obtain ⟨t',rfl⟩:=ry
  exact rule i j t t' s _ _ hc ⟨.int (g i j),H,I.tok _,⟨_,rfl⟩,q⟩
theorem we {f:Value → Value → Sem Value} {g:Int → Int → Int}
  (rule:∀ (i j:Int) (t u:Tok) (s:Shared) (Q:Value → Shared → Prop) (E:Value → Shared → Prop),Q (.int (g i j) s.toks) { s with toks:=s.toks + 1 } → wpAny (model X.prog X.w) X.A (f (.int i t) (.int j u)) Q E s) :
  c8 X f (zQ fun i j=>.int (g i j)):=by
 unfold c8 at *
 exact by
  intro pins s σ H x y v u Q I rx ry h
  obtain ⟨i,j,rfl,rfl,q⟩:=h
  obtain ⟨t,rfl⟩:=rx
  obtain ⟨t',rfl⟩:=ry
  exact rule i j t t' s _ _ ⟨.int (g i j),H,I.tok _,⟨_,rfl⟩,q⟩
theorem tN {f:Value → Value → Sem Value} {g:Int → Int → Bool}
  (rule:∀ (i j:Int) (t u:Tok) (s:Shared) (Q:Value → Shared → Prop) (E:Value → Shared → Prop),Q (.bool (g i j)) s → wpAny (model X.prog X.w) X.A (f (.int i t) (.int j u)) Q E s) :
  c8 X f (zQ fun i j=>.bl (g i j)):=by
 unfold c8 at *
 exact by
  intro pins s σ H x y v u Q I rx ry h
  obtain ⟨i,j,rfl,rfl,q⟩:=h
  obtain ⟨t,rfl⟩:=rx
  obtain ⟨t',rfl⟩:=ry
  exact rule i j t t' s _ _ ⟨.bl (g i j),H,I,rfl,q⟩
def zo (i j:Int):Prop:=0 < j ∧ j < 1073741824
def AO (i j:Int):Prop:=0 ≤ j ∧ j ≤ 1000000 ∧ i.natAbs < 2 ^ 64
def uh (i j:Int):Prop:=(-(2 ^ 64) < i ∧ i < 2 ^ 64) ∨ (-(2 ^ 64) < j ∧ j < 2 ^ 64)
theorem uh.ok {i j:Int} (h:uh i j):IntMulOk i j:=by
 rcases h with ⟨h1,h2⟩ | ⟨h1,h2⟩
 ·exact .of_left (intBits_le_64 h1 h2)
 ·exact .of_right (intBits_le_64 h1 h2)
theorem qy (k:Nat):(0:Int) ≤ 2 ^ k:=by
 rw [two_pow_cast]
 exact Int.natCast_nonneg _
theorem bj:c8 X (binaryOp .Add) (zQ fun i j=>.int (i + j)):=by
 first
 | exact (we fun _ _ _ _ _ _ _ q=>add_int q)
 | (unfold c8 at *; exact (we fun _ _ _ _ _ _ _ q=>add_int q))
theorem vc:c8 X (binaryOp .Sub) (zQ fun i j=>.int (i - j)):=by
 first
 | exact (we fun _ _ _ _ _ _ _ q=>sub_int q)
 | (unfold c8 at *; exact (we fun _ _ _ _ _ _ _ q=>sub_int q))
theorem dU:c8 X (binaryOp .Mult) (rI uh fun i j=>.int (i * j)):=by
 first
 | exact (zA fun _ _ _ _ _ _ _ hc q=>mul_int q hc.ok)
 | (unfold c8 at *; exact (zA fun _ _ _ _ _ _ _ hc q=>mul_int q hc.ok))
theorem dq:c8 X (binaryOp .FloorDiv) (rI zo fun i j=>.int (i / j)):=zA fun i j _ _ _ _ _ hc q=>by
 have h1:(0:Int) < j:=hc.1
 have h2:j < 1073741824:=hc.2
 exact floordiv_int (by omega) (by rw [Int.fdiv_eq_ediv_of_nonneg i (by omega)]; exact q) (.inl (PyProof.noPylong_small (by omega)))
theorem av:c8 X (binaryOp .Mod) (rI (fun _ j=>0 < j) fun i j=>.int (i % j)):=zA fun i j _ _ _ _ _ hc q=>by
 have h1:(0:Int) < j:=hc
 exact mod_int' (by omega) (by rw [Int.fmod_eq_emod_of_nonneg i (by omega)]; exact q)
theorem mm:c8 X (binaryOp .Pow) (rI AO fun i j=>.int (i ^ j.toNat)):=by
 first
 | exact (zA fun _ _ _ _ _ _ _ hc q=>pow_int_small hc.1 hc.2.1 hc.2.2 q)
 | (unfold c8 at *; exact (zA fun _ _ _ _ _ _ _ hc q=>pow_int_small hc.1 hc.2.1 hc.2.2 q))
theorem yM:c8 X (binaryOp .RShift) (rI (fun _ j=>0 ≤ j) fun i j=>.int (i / 2 ^ j.toNat)):=zA fun i j _ _ _ _ _ hc q =>
 rshift_int hc (by rw [Int.fdiv_eq_ediv_of_nonneg i (qy _)]; exact q)
theorem BQ {f:Value → Sem Value} {g:Int → Int}
  (rule:∀ (i:Int) (t:Tok) (s:Shared) (Q:Value → Shared → Prop) (E:Value → Shared → Prop),Q (.int (g i) s.toks) { s with toks:=s.toks + 1 } → wpAny (model X.prog X.w) X.A (f (.int i t)) Q E s) :
  zT X f (rU fun i=>.int (g i)):=by
 unfold zT at *
 exact by
  intro pins s σ H x v Q I rx h
  obtain ⟨i,rfl,q⟩:=h
  obtain ⟨t,rfl⟩:=rx
  exact rule i t s _ _ ⟨.int (g i),H,I.tok _,⟨_,rfl⟩,q⟩
theorem lO:zT X (unaryOp .USub) (rU fun i=>.int (-i)):=by
 first
 | exact (BQ fun _ _ _ _ _ q=>neg_int q)
 | (unfold zT at *; exact (BQ fun _ _ _ _ _ q=>neg_int q))
end
def AB:V → V → Bool
 | .bI,.bI=>true | .bI,.int _=>true | .int _,.bI=>true | .bI,.bl _=>true | .bl _,.bI=>true | .bI,.str _=>true | .str _,.bI=>true
 | .int _,.int _=>true | .bl _,.bl _=>true | .str _,.str _=>true | .byt _,.byt _=>true
 | .int _,.str _=>true | .str _,.int _=>true | .bl _,.str _=>true | .str _,.bl _=>true
 | _,_=>false
def B7:R2:=fun x y H Q=>AB x y = true ∧ Q (.bl (decide (x = y))) H
def Bb:R2:=fun x y H Q=>AB x y = true ∧ Q (.bl (!decide (x = y))) H
theorem rV {i j:Int}:decide (V.int i = V.int j) = (i == j):=by
 rw [Bool.eq_iff_iff]
 simp
theorem uc {i j:Bool}:decide (V.bl i = V.bl j) = (i == j):=by
 rw [Bool.eq_iff_iff]
 simp
theorem rZ {i j:Str}:decide (V.str i = V.str j) = (i == j):=by
 rw [Bool.eq_iff_iff]
 simp
theorem rG {i j:Array UInt8}:decide (V.byt i = V.byt j) = (i.toList == j.toList):=by
 rw [Bool.eq_iff_iff]
 cases i
 cases j
 simp
section
variable {X:Cx} {a b c:Expr} {ta tb tc:TE} {pos:Pos}
theorem az {pins:List (Addr × Obj)} {σ:St} {H:Hp} {s:Shared} {Q:VK} {k k':Bool} (I:Inv X pins σ H s) (q:Q (.bl k) H) (e:k = k'):EP X pins σ Q (.bool k') s:=by
 subst e
 exact ⟨.bl k,H,I,rfl,q⟩
theorem bq:c8 X (compareOp .Eq) B7:=by
 unfold c8 at *
 exact by
  intro pins s σ H x y v u Q I rx ry h
  obtain ⟨hs,q⟩:=h
  cases x with
  | bI =>
   cases rx
   cases y with
   | bI=>cases ry; exact PySem.EqNone.eq_none_none (az I q (by simp))
   | bl j=>cases ry; exact PySem.EqNone.eq_none_bool (az I q (by simp))
   | int j=>obtain ⟨t',rfl⟩:=ry; exact PySem.EqNone.eq_none_int (az I q (by simp))
   | str j=>obtain ⟨t',rfl⟩:=ry; exact PySem.EqNone.eq_none_str (az I q (by simp))
   | _=>exact absurd (show false = true from hs) Bool.false_ne_true
  | bl i =>
   cases rx
   cases y with
   | bI=>cases ry; exact PySem.EqNone.eq_bool_none (az I q (by simp))
   | bl j=>cases ry; exact eq_bool (az I q uc)
   | str j=>obtain ⟨t',rfl⟩:=ry; exact PySem.EqMixed.eq_bool_str (az I q (by simp))
   | _=>exact absurd (show false = true from hs) Bool.false_ne_true
  | int i =>
   obtain ⟨t,rfl⟩:=rx
   cases y with
   | bI=>cases ry; exact PySem.EqNone.eq_int_none (az I q (by simp))
   | int j=>obtain ⟨t',rfl⟩:=ry; exact eq_int (az I q rV)
   | str j=>obtain ⟨t',rfl⟩:=ry; exact PySem.EqMixed.eq_int_str (az I q (by simp))
   | _=>exact absurd (show false = true from hs) Bool.false_ne_true
  | str i =>
   obtain ⟨t,rfl⟩:=rx
   cases y with
   | bI=>cases ry; exact PySem.EqNone.eq_str_none (az I q (by simp))
   | bl j=>cases ry; exact PySem.EqMixed.eq_str_bool (az I q (by simp))
   | int j=>obtain ⟨t',rfl⟩:=ry; exact PySem.EqMixed.eq_str_int (az I q (by simp))
   | str j=>obtain ⟨t',rfl⟩:=ry; exact eq_str (az I q rZ)
   | _=>exact absurd (show false = true from hs) Bool.false_ne_true
  | byt i =>
   obtain ⟨t,rfl⟩:=rx
   cases y with
   | byt j=>obtain ⟨t',rfl⟩:=ry; exact PySem.W.eq_bytes (az I q rG)
   | _=>exact absurd (show false = true from hs) Bool.false_ne_true
  | _=>cases y <;> exact absurd (show false = true from hs) Bool.false_ne_true
theorem mM:c8 X (compareOp .NotEq) Bb:=by
 unfold c8 at *
 exact by
  intro pins s σ H x y v u Q I rx ry h
  obtain ⟨hs,q⟩:=h
  cases x with
  | bI =>
   cases rx
   cases y with
   | bI=>cases ry; exact PySem.EqNone.ne_none_none (az I q (by simp))
   | bl j=>cases ry; exact PySem.EqNone.ne_none_bool (az I q (by simp))
   | int j=>obtain ⟨t',rfl⟩:=ry; exact PySem.EqNone.ne_none_int (az I q (by simp))
   | str j=>obtain ⟨t',rfl⟩:=ry; exact PySem.EqNone.ne_none_str (az I q (by simp))
   | _=>exact absurd (show false = true from hs) Bool.false_ne_true
  | bl i =>
   cases rx
   cases y with
   | bI=>cases ry; exact PySem.EqNone.ne_bool_none (az I q (by simp))
   | bl j=>cases ry; exact ne_bool (az I q (congrArg not uc))
   | str j=>obtain ⟨t',rfl⟩:=ry; exact PySem.EqMixed.ne_bool_str (az I q (by simp))
   | _=>exact absurd (show false = true from hs) Bool.false_ne_true
  | int i =>
   obtain ⟨t,rfl⟩:=rx
   cases y with
   | bI=>cases ry; exact PySem.EqNone.ne_int_none (az I q (by simp))
   | int j=>obtain ⟨t',rfl⟩:=ry; exact ne_int (az I q (congrArg not rV))
   | str j=>obtain ⟨t',rfl⟩:=ry; exact PySem.EqMixed.ne_int_str (az I q (by simp))
   | _=>exact absurd (show false = true from hs) Bool.false_ne_true
  | str i =>
   obtain ⟨t,rfl⟩:=rx
   cases y with
   | bI=>cases ry; exact PySem.EqNone.ne_str_none (az I q (by simp))
   | bl j=>cases ry; exact PySem.EqMixed.ne_str_bool (az I q (by simp))
   | int j=>obtain ⟨t',rfl⟩:=ry; exact PySem.EqMixed.ne_str_int (az I q (by simp))
   | str j=>obtain ⟨t',rfl⟩:=ry; exact ne_str (az I q (congrArg not rZ))
   | _=>exact absurd (show false = true from hs) Bool.false_ne_true
  | byt i =>
   obtain ⟨t,rfl⟩:=rx
   cases y with
   | byt j=>obtain ⟨t',rfl⟩:=ry; exact PySem.W.ne_bytes (az I q (congrArg not rG))
   | _=>exact absurd (show false = true from hs) Bool.false_ne_true
  | _=>cases y <;> exact absurd (show false = true from hs) Bool.false_ne_true
theorem pI:c8 X (compareOp .Lt) (zQ fun i j=>.bl (decide (i < j))):=by
 first
 | exact (tN fun _ _ _ _ _ _ _ q=>lt_int q)
 | (unfold c8 at *; exact (tN fun _ _ _ _ _ _ _ q=>lt_int q))
theorem fW:c8 X (compareOp .LtE) (zQ fun i j=>.bl (decide (i ≤ j))):=by
 first
 | exact (tN fun _ _ _ _ _ _ _ q=>le_int q)
 | (unfold c8 at *; exact (tN fun _ _ _ _ _ _ _ q=>le_int q))
theorem mD:c8 X (compareOp .Gt) (zQ fun i j=>.bl (decide (j < i))):=by
 first
 | exact (tN fun _ _ _ _ _ _ _ q=>gt_int q)
 | (unfold c8 at *; exact (tN fun _ _ _ _ _ _ _ q=>gt_int q))
theorem c8.or {f:Value → Value → Sem Value} {r r':R2} (h:c8 X f r) (h':c8 X f r'):c8 X f (fun x y H Q=>r x y H Q ∨ r' x y H Q):=by
 unfold c8 at *
 exact by
  intro pins s σ H x y v u Q I rx ry q
  rcases q with q | q
  ·exact h pins s σ H x y v u Q I rx ry q
  ·exact h' pins s σ H x y v u Q I rx ry q
theorem aX (b:Expr) {op:CmpOp} (h:op ≠ .In:=by decide) (h2:op ≠ .NotIn:=by decide):behindInMarks op b = false:=by
 have e1:(op == CmpOp.In) = false:=by cases op <;> first | rfl | exact absurd rfl h
 have e2:(op == CmpOp.NotIn) = false:=by cases op <;> first | rfl | exact absurd rfl h2
 cases b <;> simp [behindInMarks,e1,e2]
theorem cJ {op:CmpOp} {r:R2} (ho:c8 X (compareOp op) r) (ha:PE X a ta) (hb:PE X b tb) (hm:behindInMarks op b = false):PE X (.Compare a [op] [b] pos) (A4 r ta tb):=by
 unfold PE; unfold c8 at ho
 exact by
  intro pins s σ H Q I h
  exact wpAny_Compare1 (yQ ha hb I h fun v u s2 x y H2 I2 rx ry q=>ho pins s2 σ H2 x y v u Q I2 rx ry q) hm
def xf (t:TE):TT:=fun σ H Q=>t σ H fun x H'=>∃ k,x = .bl k ∧ Q k H'
theorem aW {op:CmpOp} {r:R2} (ho:c8 X (compareOp op) r) (ha:PE X a ta) (hb:PE X b tb) (hm:behindInMarks op b = false):PT X (.Compare a [op] [b] pos) (xf (A4 r ta tb)):=by
 unfold PE at *; unfold PT at *; unfold c8 at *
 exact by
  intro pins s σ H Q I h
  refine wpAny_isTrue_Compare1 (bS (ha pins s σ H _ I h) fun v s1 ⟨x,H1,I1,r1,q1⟩=>bS (hb pins s1 σ H1 _ I1 q1) fun u s2 ⟨y,H2,I2,r2,q2⟩ =>
   bS (ho pins s2 σ H2 x y v u _ I2 r1 r2 q2) fun c s3 ⟨z,H3,I3,r3,k,e,q3⟩=>?_) hm
  subst e
  cases r3
  exact wpAny_truthy_bool ⟨H3,I3,q3⟩
def uR (r r':R2) (ta tb tc:TE):TE:=fun σ H Q=>ta σ H fun x H1=>tb σ H1 fun y H2=>r x y H2 fun z H3=>∃ k,z = .bl k ∧
 (if k = true then tc σ H3 fun w' H4=>r' y w' H4 Q else Q (.bl false) H3)
theorem kI {op op':CmpOp} {r r':R2} (ho:c8 X (compareOp op) r) (ho':c8 X (compareOp op') r') (ha:PE X a ta) (hb:PE X b tb) (hc:PE X c tc)
  (hm:lastMarks [op,op'] [b,c] = false:=by with_unfolding_all rfl):PE X (.Compare a [op,op'] [b,c] pos) (uR r r' ta tb tc):=by
 unfold PE at *; unfold c8 at *
 exact by
  intro pins s σ H Q I h
  refine Compare_chain (bS (ha pins s σ H _ I h) fun v s1 ⟨x,H1,I1,r1,q1⟩=>chain_link (bS (hb pins s1 σ H1 _ I1 q1) fun u s2 ⟨y,H2,I2,r2,q2⟩ =>
   bS (ho pins s2 σ H2 x y v u _ I2 r1 r2 q2) fun d s3 ⟨z,H3,I3,r3,k,e,q3⟩=>?_)) hm
  subst e
  cases r3
  refine wpAny_truthy_bool ?_
  cases k with
  | false=>exact ite_ff ⟨.bl false,H3,I3,rfl,q3⟩
  | true=>exact ite_tt (chain_last (bS (hc pins s3 σ H3 _ I3 q3) fun w' s4 ⟨z',H4,I4,r4,q4⟩=>ho' pins s4 σ H4 y z' u w' Q I4 r2 r4 q4))
theorem lU {op op':CmpOp} {r r':R2} (ho:c8 X (compareOp op) r) (ho':c8 X (compareOp op') r') (ha:PE X a ta) (hb:PE X b tb) (hc:PE X c tc)
  (hm:lastMarks [op,op'] [b,c] = false:=by with_unfolding_all rfl):PT X (.Compare a [op,op'] [b,c] pos) (xf (uR r r' ta tb tc)):=by
 unfold PE at *; unfold PT at *; unfold c8 at *
 exact by
  intro pins s σ H Q I h
  refine isTrue_chain (bS (ha pins s σ H _ I h) fun v s1 ⟨x,H1,I1,r1,q1⟩=>test_link (bS (hb pins s1 σ H1 _ I1 q1) fun u s2 ⟨y,H2,I2,r2,q2⟩ =>
   bS (ho pins s2 σ H2 x y v u _ I2 r1 r2 q2) fun d s3 ⟨z,H3,I3,r3,k,e,q3⟩=>?_)) hm
  subst e
  cases r3
  refine wpAny_truthy_bool ?_
  cases k with
  | false =>
   obtain ⟨k',e',q'⟩:=q3
   cases e'
   exact ite_ff ⟨H3,I3,q'⟩
  | true =>
   refine ite_tt (test_last (bS (hc pins s3 σ H3 _ I3 q3) fun w' s4 ⟨z',H4,I4,r4,q4⟩=>bS (ho' pins s4 σ H4 y z' u w' _ I4 r2 r4 q4) fun d' s5 ⟨z2,H5,I5,r5,k2,e2,q5⟩=>?_))
   subst e2
   cases r5
   exact wpAny_truthy_bool ⟨H5,I5,q5⟩
def AZ (K:PySem.W.Frag) (x:V) (H:Hp) (k:Bool):Prop :=
 match x with
 | .bI=>k = false
 | .bl b=>k = b
 | .int i=>k = (i != 0)
 | .str y=>y.length ≤ sizeLine ∧ k = ((y.length:Int) != 0)
 | .byt y=>y.size ≤ sizeLine ∧ k = ((y.size:Int) != 0)
 | .ref p=>(∃ xs,ah K H p xs ∧ k = !xs.isEmpty) ∨ (∃ xs,bp K H p xs ∧ k = !xs.isEmpty) ∨ ∃ kvs,H p = some (.dK kvs) ∧ k = !kvs.isEmpty
 | _=>False
theorem q9 {κ:Type} {kvs:List (κ × V)} {vs:List (κ × Value)} (r:KV kvs vs):(!vs.isEmpty) = !kvs.isEmpty:=by
 cases r <;> rfl
theorem kA {xs:List V} {au:List Value} (r:Vals xs au):(!au.toArray.isEmpty) = !xs.isEmpty:=by
 cases r <;> simp
theorem iy:(sizeLine:Nat) < 2 ^ 63:=by rw [sizeLine_eq]; decide
theorem nJ:yC X (fun x H Q=>∃ k,AZ X.K x H k ∧ Q k H):=by
 unfold yC at *
 exact by
  intro pins s σ H x v Q I rx h
  obtain ⟨k,e,q⟩:=h
  have hl:=iy
  have hs:sizeLine = 16777216:=sizeLine_eq
  cases x with
  | bI =>
   cases rx
   have e':k = false:=e
   subst e'
   exact truthy_none ⟨H,I,q⟩
  | bl b =>
   cases rx
   have e':k = b:=e
   subst e'
   exact wpAny_truthy_bool ⟨H,I,q⟩
  | int i =>
   obtain ⟨t,rfl⟩:=rx
   have e':k = (i != 0):=e
   subst e'
   exact PySem.P.truthy_int ⟨H,I,q⟩
  | str y =>
   obtain ⟨t,rfl⟩:=rx
   obtain ⟨hy,e'⟩:y.length ≤ sizeLine ∧ k = ((y.length:Int) != 0):=e
   subst e'
   exact PySem.P.truthy_str (by omega) ⟨H,I.tok _,q⟩
  | byt y =>
   obtain ⟨t,rfl⟩:=rx
   obtain ⟨hy,e'⟩:y.size ≤ sizeLine ∧ k = ((y.size:Int) != 0):=e
   subst e'
   exact PySem.W.truthy_bytes (by omega) ⟨H,I.tok _,q⟩
  | ref p =>
   cases rx
   have e':(∃ xs,ah X.K H p xs ∧ k = !xs.isEmpty) ∨ (∃ xs,bp X.K H p xs ∧ k = !xs.isEmpty) ∨ ∃ kvs,H p = some (.dK kvs) ∧ k = !kvs.isEmpty:=e
   rcases e' with ⟨xs,hx,e'⟩ | ⟨xs,hx,e'⟩ | ⟨kvs,hx,e'⟩
   ·subst e'
    obtain ⟨au,r,pl,hz⟩:=I.list hx
    have hlen:=r.length
    exact wpAny_truthy_list pl.isList (by simp only [List.size_toArray]; omega) ⟨H,I.tok _,by rw [kA r]; exact q⟩
   ·subst e'
    obtain ⟨au,r,pl,hz⟩:=I.tuple hx
    have hlen:=r.length
    exact truthy_tuple pl (by simp only [List.size_toArray]; omega) ⟨H,I.tok _,by rw [kA r]; exact q⟩
   ·subst e'
    obtain ⟨hz,hS,vs,r,m⟩:kvs.length ≤ sizeLine ∧ (p == sysModules) = false ∧ ∃ vs,KV kvs vs ∧ s.heap.DictOf (aV X.prog X.w) p vs:=I.hok p _ hx
    have hlen:kvs.length = vs.length:=Paired.length r
    exact wpAny_truthy_dict hS m (by omega) ⟨H,I.tok _,by rw [q9 r]; exact q⟩
  | _=>exact (show False from e).elim
theorem lV (ha:PE X a ta) (he:∀ whole,isTrue a X.env whole = (do let v ← whole; standAt a.pos; holding [v] (truthy v))) :
  PT X a (fun σ H Q=>ta σ H fun x H'=>∃ k,AZ X.K x H' k ∧ Q k H'):=by
 unfold PE at *; unfold PT at *; have nJ:=nJ (X:=X); unfold yC at nJ
 exact by
  intro pins s σ H Q I h
  exact isTrue_plain (bS (ha pins s σ H _ I h) fun v s1 ⟨x,H1,I1,r1,q1⟩=>nJ pins s1 σ H1 x v Q I1 r1 q1) (he _)
theorem qU:c8 X (binaryOp .Add) (fun x y H Q=>∃ i j,x = .str i ∧ y = .str j ∧ i.length + j.length ≤ sizeLine ∧ Q (.str (i ++ j)) H):=by
 unfold c8 at *
 exact by
  intro pins s σ H x y v u Q I rx ry h
  obtain ⟨i,j,rfl,rfl,hz,q⟩:=h
  obtain ⟨t,rfl⟩:=rx
  obtain ⟨t',rfl⟩:=ry
  exact add_str (fun t' tk=>⟨.str (i ++ j),H,I.tok _,⟨_,rfl⟩,q⟩) hz
theorem vals1 {x:V} {us:List Value} (r:Vals [x] us):∃ u,us = [u] ∧ RelV x u:=by
 cases r with
 | cons r1 r2=>cases r2; exact ⟨_,rfl,r1⟩
theorem vals2 {x y:V} {us:List Value} (r:Vals [x,y] us):∃ u w',us = [u,w'] ∧ RelV x u ∧ RelV y w':=by
 cases r with
 | cons r1 r2 =>
  cases r2 with
  | cons r3 r4=>cases r4; exact ⟨_,_,rfl,r1,r3⟩
theorem mO (hc:X.calm = true):b6 X (.builtin "max") (fun xs H Q=>∃ i j,xs = [.int i,.int j] ∧ Q (.int (if j > i then j else i)) H):=by
 unfold b6 at *
 exact by
  intro pins s σ H xs us Q I r h
  obtain ⟨i,j,rfl,q⟩:=h
  obtain ⟨u,w',rfl,⟨t,rfl⟩,⟨t',rfl⟩⟩:=vals2 r
  refine max_two_ints (I.ok.hd hc) fun h' tk k=>⟨_,H,I.kept k,?_,q⟩
  by_cases hj:j > i
  ·rw [if_pos hj,if_pos hj]; exact ⟨_,rfl⟩
  ·rw [if_neg hj,if_neg hj]; exact ⟨_,rfl⟩
theorem tJ (hc:X.calm = true):b6 X (.builtin "min") (fun xs H Q=>∃ i j,xs = [.int i,.int j] ∧ Q (.int (if j < i then j else i)) H):=by
 unfold b6 at *
 exact by
  intro pins s σ H xs us Q I r h
  obtain ⟨i,j,rfl,q⟩:=h
  obtain ⟨u,w',rfl,⟨t,rfl⟩,⟨t',rfl⟩⟩:=vals2 r
  refine min_two_ints (I.ok.hd hc) fun h' tk k=>⟨_,H,I.kept k,?_,q⟩
  by_cases hj:j < i
  ·rw [if_pos hj,if_pos hj]; exact ⟨_,rfl⟩
  ·rw [if_neg hj,if_neg hj]; exact ⟨_,rfl⟩
theorem jJ:b6 X (.type "int") (fun xs H Q=>(∃ i,xs = [.int i] ∧ Q (.int i) H) ∨ ∃ k,xs = [.bl k] ∧ Q (.int (if k then 1 else 0)) H):=by
 unfold b6 at *
 exact by
  intro pins s σ H xs us Q I r h
  rcases h with ⟨i,rfl,q⟩ | ⟨k,rfl,q⟩
  ·obtain ⟨u,rfl,t,rfl⟩:=vals1 r
   exact call_int_int ⟨.int i,H,I,⟨_,rfl⟩,q⟩
  ·obtain ⟨u,rfl,r1⟩:=vals1 r
   cases r1
   exact call_int_bool ⟨.int (if k then 1 else 0),H,I.tok _,⟨_,rfl⟩,q⟩
end
end L2
namespace L2
open PySem PySem.Spec PyProof.Rows
structure qu (h:Heap) (x dx C:Addr) (mA:Str → Option Value):Prop where
 obj:h.get? x = some (PySem.W.instObj C dx)
 ns:h.Ns1 dx mA
 ne:dx ≠ x
theorem sX {h:Heap} {dx:Addr} {mA:Str → Option Value} (n:h.Ns1 dx mA):∃ od,h.get? dx = some od ∧ ∀ name,PySem.W.lookIn name od = some (mA name):=by
 obtain ⟨o,es,ep,ho,hd,hk,_,hm⟩:=n
 refine ⟨o,ho,fun name=>?_⟩
 have e:=hm name
 unfold nsFind findBy at e
 rw [← Array.find?_toList] at e
 unfold PySem.W.lookIn
 rw [hd]
 dsimp only
 split
 ·rename_i y q
  rw [q] at e
  exact congrArg some e
 ·rename_i q
  rw [q] at e
  have a:es.toList.any (·.refKey) = false:=by
   rw [List.any_eq_false]
   intro y hy
   obtain ⟨z,t,hkey⟩:=hk y (Array.mem_toList_iff.mp hy)
   simp [DictEntry.refKey,hkey]
  have a':¬ es.toList.any (·.refKey) = true:=by rw [a]; exact Bool.false_ne_true
  rw [if_neg a']
  exact congrArg some e
theorem qu.look {h:Heap} {x dx C:Addr} {mA:Str → Option Value} (I:qu h x dx C mA):∃ od,PySem.W.InstAt h x (PySem.W.instObj C dx) C (some od) ∧ ∀ name,PySem.W.lookIn name od = some (mA name) :=
 let ⟨od,ho,hl⟩:=sX I.ns
 ⟨od,⟨I.obj,rfl,rfl,ho⟩,hl⟩
section
variable {prog:Program} {w:World} {A:Around} {E:Value → Shared → Prop} {s:Shared} {K:PySem.W.Frag} {x dx C f:Addr} {mA:Str → Option Value} {name:Str} {v:Value}
theorem get_map {expr:Bool} {Q:Value → Shared → Prop} (X:K.In s.heap) (I:qu s.heap x dx C mA) (hg:PySem.W.plainGet K C name = true) (hh:PySem.W.hasDictIn K C = true)
  (ha:PySem.W.findIn K (.ref C) name = some none) (hv:mA name = some v) (hv':PySem.W.handedIn v = true) (h:Q v { s with toks:=s.toks + 1 }) :
  wpAny (model prog w) A (getAttr (.ref x) name expr) Q E s:=by
 obtain ⟨od,J,hl⟩:=I.look
 exact PySem.W.get_value X J (PySem.W.plainGet_of hg).1 (PySem.W.findObj_own hh ha rfl (by rw [hl,hv])) hv' h
theorem uV {pl:Sem Bool} {Q:Value × List Value → Shared → Prop} (X:K.In s.heap) (I:qu s.heap x dx C mA) (hg:PySem.W.plainGet K C name = true)
  (hf:PySem.W.findIn K (.ref C) name = some (some (.ref f))) (ht:PySem.W.isFn K (.ref f) = true) (hv:mA name = none) (h:Q (.ref f,[.ref x]) s) :
  wpAny (model prog w) A (getMethod (.ref x) name pl) Q E s:=by
 obtain ⟨od,J,hl⟩:=I.look
 exact PySem.W.method_fn X J (PySem.W.plainGet_of hg).1 (PySem.W.plainGet_of hg).2 hf (beq_iff_eq.mp ht) (by show (PySem.W.lookIn name od).map (·.isSome) = some false; rw [hl,hv]; rfl) h
theorem wx {ns:List Str} {Q:Unit → Shared → Prop} (X:K.In s.heap) (I:qu s.heap x dx C mA)
  (hs:PySem.W.findIn K (.ref C) "__setattr__" = some (some (.builtin "object.__setattr__"))) (hp:PySem.W.plainOver K C = true) (ht:PySem.W.takerIn K C name = some none) (hh:PySem.W.hasDictIn K C = true)
  (hw:PySem.Within mA ns) (hsz:ns.length ≤ sizeLine)
  (h:∀ h',qu h' x dx C (fun y=>if y = name then some v else mA y) → Heap.SameBut dx s.heap h' → Q () { s with heap:=h',toks:=s.toks + 2 }) :
  wpAny (model prog w) A (setAttr (.ref x) name v) Q E s:=by
 obtain ⟨od,J,hl⟩:=I.look
 refine PySem.W.set_plain X J hs (PySem.W.osa_open (s:={ s with toks:=s.toks + 1 }) (r:=none) X J hp ht fun b=>?_)
 obtain ⟨cd,hc,hd'⟩:=PySem.W.any_some hh
 have hx:s.heap.get? x = some ⟨.ref C,some dx,.plain,#[]⟩:=I.obj
 refine wpAny_bind (wpAny_pure (wpAny_bind (wpAny_bind (wpAny_loadPart hx (wpAny_bind (PySem.W.Looks.here (s:={ s with toks:=s.toks + 1 }) (PySem.W.looks_clsIn X hc) ?_))))))
 rw [hd']
 refine wpAny_pure (a:=some dx) (wpAny_bind (wpAny_pure (wpAny_bind ?_)))
 refine wpAny_nsSet1 (s:={ s with toks:=s.toks + 1 }) I.ns fun h' hn2 hs2=>?_
 obtain ⟨oD,esD,epD,hoD,hdD,hcD⟩:=hn2.count (PySem.Within.cons name v hw)
 refine wpAny_bind (wpAny_lookBehind hoD (by rw [hdD]; exact pastItsLine_dict (Nat.le_trans hcD (by rw [List.length_cons]; omega))) ?_)
 exact wpAny_pure (h _ ⟨(hs2.2 _ (Ne.symm I.ne)).trans I.obj,hn2,I.ne⟩ hs2)
theorem o6 {R:Result → Shared → Prop} {vs:List Value} {kw:List (Str × Value)} (X:K.In s.heap) (hm:PySem.W.makesIn K C = true)
  (hi:PySem.W.findIn K (.ref C) "__init__" = some (some (.ref f))) (hf:PySem.W.typeIn K (.ref f) = some (.type "function"))
  (h:codeAny (model prog w) (A.under (.builtin "type.__call__" ⟨.ref C :: vs,kw⟩)) (.call (.ref f) ⟨.ref (s.heap.objs.size + 1) :: vs,kw⟩) (PySem.W.InitBack (s.heap.objs.size + 1) R)
   { s with heap:=(s.heap.push PySem.W.emptyDict).push (PySem.W.instObj C s.heap.objs.size) }) :
  codeAny (model prog w) A (.call (.ref C) ⟨vs,kw⟩) R s:=by
 obtain ⟨hh,g,d,t,os⟩:=s
 exact PySem.W.make_core (PySem.W.makes_of X hm) (PySem.W.looks_findIn X hi) (fun self=>PySem.W.bind_fn X self hf) (.inl rfl) h
end
def cF (f:Str) (v:V):List (Str × V) → List (Str × V)
 | []=>[(f,v)]
 | (g,x) :: r=>if g = f then (g,v) :: r else (g,x) :: cF f v r
theorem ja (f g:Str) (v:V):∀ fs:List (Str × V),(cF f v fs).lookup g = if g = f then some v else fs.lookup g
 | []=>by
  show List.lookup g [(f,v)] = _
  by_cases h:g = f
  ·have hb:(g == f) = true:=beq_iff_eq.mpr h
   simp only [List.lookup,hb,if_pos h]
  ·have hb:(g == f) = false:=beq_eq_false_iff_ne.mpr h
   simp only [List.lookup,hb,if_neg h]
 | (k,x) :: r=>by
  have ih:=ja f g v r
  rw [show cF f v ((k,x) :: r) = (if k = f then (k,v) :: r else (k,x) :: cF f v r) from rfl]
  by_cases hk:k = f
  ·rw [if_pos hk]
   by_cases h:g = k
   ·have hb:(g == k) = true:=beq_iff_eq.mpr h
    simp only [List.lookup,hb,if_pos (h.trans hk)]
   ·have hb:(g == k) = false:=beq_eq_false_iff_ne.mpr h
    simp only [List.lookup,hb,if_neg (fun e:g = f=>h (e.trans hk.symm))]
  ·rw [if_neg hk]
   by_cases h:g = k
   ·have hb:(g == k) = true:=beq_iff_eq.mpr h
    simp only [List.lookup,hb,if_neg (fun e:g = f=>hk (h.symm.trans e))]
   ·have hb:(g == k) = false:=beq_eq_false_iff_ne.mpr h
    simp only [List.lookup,hb]
    exact ih
theorem jF (f:Str) (v:V):∀ fs:List (Str × V),f ∈ (cF f v fs).map (·.1) ∧ ∀ g,g ∈ fs.map (·.1) → g ∈ (cF f v fs).map (·.1)
 | []=>⟨by simp [cF],fun g h=>by simp at h⟩
 | (k,x) :: r=>by
  obtain ⟨i1,i2⟩:=jF f v r
  rw [show cF f v ((k,x) :: r) = (if k = f then (k,v) :: r else (k,x) :: cF f v r) from rfl]
  by_cases hk:k = f
  ·rw [if_pos hk]
   subst hk
   exact ⟨by simp,fun g h=>by simpa using h⟩
  ·rw [if_neg hk]
   refine ⟨?_,fun g h=>?_⟩
   ·rw [List.map_cons]
    exact List.mem_cons_of_mem _ i1
   ·rw [List.map_cons] at h ⊢
    rcases List.mem_cons.mp h with e | e
    ·exact List.mem_cons.mpr (.inl e)
    ·exact List.mem_cons_of_mem _ (i2 g e)
theorem jW (f:Str) (v:V):∀ fs:List (Str × V),(cF f v fs).length ≤ fs.length + 1
 | []=>by simp [cF]
 | (k,x) :: r=>by
  have ih:=jW f v r
  rw [show cF f v ((k,x) :: r) = (if k = f then (k,v) :: r else (k,x) :: cF f v r) from rfl]
  by_cases hk:k = f
  ·rw [if_pos hk,List.length_cons,List.length_cons]; omega
  ·rw [if_neg hk,List.length_cons,List.length_cons]; omega
theorem eY.some_of {v:V} {o:Option Value} (r:eY (some v) o):∃ u,o = some u ∧ RelV v u:=by
 cases o with
 | none=>exact (show False from r).elim
 | some u=>exact ⟨u,rfl,r⟩
theorem eY.none_of {o:Option Value} (r:eY none o):o = none:=by
 cases o with
 | none=>rfl
 | some u=>exact (show False from r).elim
theorem tV {v:V} {u:Value} (r:RelV v u):PySem.W.handedIn u = true:=by
 cases v with
 | bI=>cases (show u = Value.none from r); rfl
 | bl b=>cases (show u = Value.bool b from r); rfl
 | int i=>obtain ⟨t,e⟩:=(show ∃ t,u = Value.int i t from r); cases e; rfl
 | str x=>obtain ⟨t,e⟩:=(show ∃ t,u = Value.str x t from r); cases e; rfl
 | byt b=>obtain ⟨t,e⟩:=(show ∃ t,u = Value.bytes b t from r); cases e; rfl
 | flt b=>obtain ⟨t,e⟩:=(show ∃ t,u = Value.float b t from r); cases e; rfl
 | ref a=>cases (show u = Value.ref a from r); rfl
 | ty n=>cases (show u = Value.type n from r); rfl
section
variable {P:Program} {w:World} {H H':Hp} {h h':Heap} {a C dx:Addr} {fs fs':List (Str × V)}
theorem jt (hok:eV P w H h) (e:H a = some (.ins C dx fs)):∃ mA,qu h a dx C mA ∧ (∀ f,eY (fs.lookup f) (mA f)) ∧ PySem.Within mA (fs.map (·.1)) ∧ fs.length ≤ 1000 ∧ H dx = some (.own a):=by
 obtain ⟨d,z,ne,ob,mA,n,r,q⟩:=(show bQ P w H h a (.ins C dx fs) from hok a _ e)
 exact ⟨mA,⟨ob,n,ne⟩,r,q,z,d⟩
end
structure rf (K:PySem.W.Frag) (C:Addr):Prop where
 pg:PySem.W.plainGet K C Str.empty = true
 hd:PySem.W.hasDictIn K C = true
 po:PySem.W.plainOver K C = true
 sa:PySem.W.findIn K (.ref C) "__setattr__" = some (some (.builtin "object.__setattr__"))
theorem rf.get {K:PySem.W.Frag} {C:Addr} (c:rf K C) (f:Str):PySem.W.plainGet K C f = true:=c.pg
def bV (K:PySem.W.Frag) (C:Addr) (f:Str):Prop:=PySem.W.findIn K (.ref C) f = some none
theorem bV.zg {K:PySem.W.Frag} {C:Addr} {f:Str} (n:bV K C f):PySem.W.takerIn K C f = some none:=by
 unfold PySem.W.takerIn
 rw [show PySem.W.findIn K (.ref C) f = some none from n]
 rfl
structure Meth (K:PySem.W.Frag) (C:Addr) (m:Str) (f:Addr):Prop where
 at_:PySem.W.findIn K (.ref C) m = some (some (.ref f))
 fn:PySem.W.isFn K (.ref f) = true
 kp:PySem.W.keepIn K (.ref f) = true
section
variable {X:Cx} {pins:List (Addr × Obj)} {σ:St} {H:Hp} {s:Shared} {a C dx:Addr} {fs:List (Str × V)} {f:Str} {v:V} {A:Around} {E:Value → Shared → Prop}
theorem qt {b:Bool} {Q:Value → Shared → Prop} (I:Inv X pins σ H s) (e:H a = some (.ins C dx fs)) (c:rf X.K C) (n:bV X.K C f) (l:fs.lookup f = some v)
  (h:∀ u s',Inv X pins σ H s' → RelV v u → Q u s'):wpAny (model X.prog X.w) A (getAttr (.ref a) f b) Q E s:=by
 obtain ⟨mA,O,r,_,_,_⟩:=jt I.hok e
 obtain ⟨u,hu,ru⟩:=eY.some_of (v:=v) (o:=mA f) (by rw [← l]; exact r f)
 exact get_map I.du O (c.get f) c.hd n hu (tV ru) (h u _ (I.tok _) ru)
theorem qC {m:Str} {g:Addr} {pl:Sem Bool} {Q:Value × List Value → Shared → Prop} (I:Inv X pins σ H s) (e:H a = some (.ins C dx fs)) (c:rf X.K C) (k:Meth X.K C m g) (l:fs.lookup m = none)
  (h:Q (.ref g,[.ref a]) s):wpAny (model X.prog X.w) A (getMethod (.ref a) m pl) Q E s:=by
 obtain ⟨mA,O,r,_,_,_⟩:=jt I.hok e
 have hn:mA m = none:=eY.none_of (by rw [← l]; exact r m)
 exact uV I.du O (c.get m) k.at_ k.fn hn h
theorem qz {y:V} {u:Value} {Q:Unit → Shared → Prop} (I:Inv X pins σ H s) (e:H a = some (.ins C dx fs)) (c:rf X.K C) (n:bV X.K C f) (hl:fs.length < 1000) (ry:RelV y u)
  (h:∀ s',Inv X pins σ (upd H a (.ins C dx (cF f y fs))) s' → Q () s'):wpAny (model X.prog X.w) A (setAttr (.ref a) f u) Q E s:=by
 obtain ⟨mA,O,r,wi,_,ho⟩:=jt I.hok e
 have hz:(fs.map (·.1)).length ≤ sizeLine:=by rw [List.length_map,sizeLine_eq]; omega
 refine wx I.du O c.sa c.po n.zg c.hd wi hz fun h' O' sb=>h _ ?_
 have hd:∃ o,h'.get? dx = some o:=let ⟨o,_,_,e',_⟩:=O'.ns; ⟨o,e'⟩
 refine I.write (x:=a) (e:=dx) (by rw [e]; exact True.intro) (.inr ho) (fun b q hb z=>(sb.2 b hb).trans z) hd ?_
 refine ⟨by rw [aI O.ne]; exact ho,?_,O.ne,O'.obj,_,O'.ns,fun g=>?_,fun g hg=>?_⟩
 ·have:=jW f y fs; omega
 ·show eY ((cF f y fs).lookup g) (if g = f then some u else mA g)
  rw [ja]
  by_cases q:g = f
  ·rw [if_pos q,if_pos q]; exact ry
  ·rw [if_neg q,if_neg q]; exact r g
 ·by_cases q:g = f
  ·rw [q]; exact (jF f y fs).1
  ·refine (jF f y fs).2 g (wi g fun z=>hg ?_)
   show (if g = f then some u else mA g) = none
   rw [if_neg q]; exact z
theorem Inv.made (I:Inv X pins σ H s):Inv X pins σ (upd (upd H s.heap.objs.size (.own (s.heap.objs.size + 1))) (s.heap.objs.size + 1) (.ins C s.heap.objs.size []))
  { s with heap:=(s.heap.push PySem.W.emptyDict).push (PySem.W.instObj C s.heap.objs.size) }:=by
 have e1:(s.heap.push PySem.W.emptyDict).get? s.heap.objs.size = some PySem.W.emptyDict:=Heap.get?_push_size s.heap rfl
 have e2:((s.heap.push PySem.W.emptyDict).push (PySem.W.instObj C s.heap.objs.size)).get? (s.heap.objs.size + 1) = some (PySem.W.instObj C s.heap.objs.size):=by
  have:=Heap.get?_push_size (s.heap.push PySem.W.emptyDict) (o:=PySem.W.instObj C s.heap.objs.size) rfl
  rwa [Heap.size_push] at this
 have e3:(s.heap.push PySem.W.emptyDict).Ns s.heap.objs.size (fun _=>none):=⟨PySem.W.emptyDict,#[],_,e1,rfl,(fun e he=>absurd he (by simp)),fun _=>rfl⟩
 have I1:=I.laid (a:=s.heap.objs.size) (o:=.own (s.heap.objs.size + 1)) (h':=s.heap.push PySem.W.emptyDict) (t':=s.toks) (fun b u q=>Heap.get?_push_of_some _ q) (Nat.le_refl _) ⟨_,e1⟩
 refine I1.laid (a:=s.heap.objs.size + 1) (o:=.ins C s.heap.objs.size []) (t':=s.toks) (fun b u q=>Heap.get?_push_of_some _ q) (Nat.le_of_eq (Heap.size_push _ _)) ?_
 have ne:s.heap.objs.size ≠ s.heap.objs.size + 1:=Nat.ne_of_lt (Nat.lt_succ_self _)
 refine ⟨by rw [aI ne,aB],Nat.zero_le _,ne,e2,fun _=>none,(Heap.Ns1.of_empty e3).at fun o q=>Heap.get?_push_of_some _ q,fun _=>True.intro,fun y hy=>absurd rfl hy⟩
theorem wm {prog:Program} {w:World} {env:Env} {e:Expr} {f:Str} {pos:Pos} {s:Shared} {Q:Value → Shared → Prop} (hb:attributeBase e f env (eval e env) = eval e env)
  (h:wpAny (model prog w) A (eval e env) (fun o s₁=>wpAny (model prog w) A (getAttr o f true) Q E s₁) E s):wpAny (model prog w) A (eval (.Attribute e f pos) env) Q E s :=
 Attribute_any_ h (by rw [arm_eval_Attribute,hb])
end
def BD (K:PySem.W.Frag) (ta:TE) (f:Str):TE:=fun σ H Q=>ta σ H fun x H1=>∃ a C dx fs v,x = .ref a ∧ H1 a = some (.ins C dx fs) ∧ rf K C ∧ bV K C f ∧ fs.lookup f = some v ∧ Q v H1
def An (K:PySem.W.Frag) (ta tv:TE) (f:Str):TS:=fun D σ H=>tv σ H fun y H1=>ta σ H1 fun x H2=>∃ a C dx fs,x = .ref a ∧ H2 a = some (.ins C dx fs) ∧ rf K C ∧ bV K C f ∧ fs.length < 1000 ∧
 D.nx σ (upd H2 a (.ins C dx (cF f y fs)))
section
variable {X:Cx} {o e value:Expr} {f:Str} {pos pos' tpos:Pos} {ta tv:TE}
theorem aa (he:PE X e ta) (hb:attributeBase e f X.env (eval e X.env) = eval e X.env):PE X (.Attribute e f pos) (BD X.K ta f):=by
 unfold PE at *
 exact by
  intro pins s σ H Q I h
  refine wm hb (bS (he pins s σ H _ I h) fun u s1 ⟨x,H1,I1,rx,a,C,dx,fs,v,ex,ea,c,n,l,q⟩=>?_)
  subst ex
  obtain rfl:u = Value.ref a:=rx
  exact qt I1 ea c n l fun u' s2 I2 ru=>⟨v,H1,I2,ru,q⟩
theorem cH (ha:PE X o ta) (hv:PE X value tv) (hs:swapsWith value (some (.Attribute o f pos')) pos.line X.env = pure false):PS X (.Assign [.Attribute o f pos'] value pos) (An X.K ta tv f):=by
 unfold PE at *; unfold PS at *
 exact by
  intro pins s σ H D I h
  refine plainObj_wpAny_Assign_Attribute (bS (hv pins s σ H _ I h) fun u s1 ⟨y,H1,I1,ry,q⟩=>bS (ha pins s1 σ H1 _ I1 q) fun ov s2 ⟨x,H2,I2,rx,a,C,dx,fs,ex,ea,c,n,l,q2⟩=>?_) hs
  subst ex
  obtain rfl:ov = Value.ref a:=rx
  exact qz I2 ea c n l ry fun s3 I3=>⟨σ,_,I3,q2⟩
end
section
variable {X:Cx} {pins:List (Addr × Obj)} {σ:St} {H:Hp} {s:Shared} {A:Around} {E:Value → Shared → Prop} {Q:Value → Shared → Prop} {c:Value} {b:Bool}
inductive dP (K:PySem.W.Frag) (H:Hp):V → Value → Prop where
 | bI:dP K H .bI (.type "NoneType")
 | bl (x:Bool):dP K H (.bl x) (.type "bool")
 | int (i:Int):dP K H (.int i) (.type "int")
 | str (x:Str):dP K H (.str x) (.type "str")
 | flt (x:UInt64):dP K H (.flt x) (.type "float")
 | lst {a:Addr} {xs:List V} (e:H a = some (.lst xs)):dP K H (.ref a) (.type "list")
 | frz {a:Addr} {o:Obj} {xs:List V} (e:H a = some (.frz o (.lst xs))):dP K H (.ref a) (.type "list")
 | tup {a:Addr} {xs:List V} (e:H a = some (.tup xs)):dP K H (.ref a) (.type "tuple")
 | dK {a:Addr} {kvs:List (Key × V)} (e:H a = some (.dK kvs)):dP K H (.ref a) (.type "dict")
 | dT {a:Addr} {kvs:List (List Key × V)} (e:H a = some (.dT kvs)):dP K H (.ref a) (.type "dict")
 | ins {a C dx:Addr} {fs:List (Str × V)} (e:H a = some (.ins C dx fs)) (cl:rf K C) (ha:PySem.W.findIn K (.ref C) "__class__" = some (some (.builtin "object.__class__")))
   (hn:PySem.W.specialIn K (.builtin "object.__class__") "__get__" = some (some (.builtin "getset_descriptor.__get__"))) (htk:PySem.W.takesIn K (.builtin "object.__class__") = some true)
   (hm:PySem.W.mroIn K C (.type "object") = some true):dP K H (.ref a) (.ref C)
theorem sO {x:V} {u t:Value} (I:Inv X pins σ H s) (rx:RelV x u) (ty:dP X.K H x t) (e:PySem.W.kitOne X.K t c = some b) (h:∀ tk,Q (.bool b) { s with toks:=tk }) :
  wpAny (model X.prog X.w) A (call (.builtin "isinstance") [u,c]) Q E s:=by
 cases ty with
 | bI=>cases (show u = Value.none from rx); exact PySem.W.kia_one PySem.W.kitx_none I.du True.intro e (fun z=>nomatch z) h
 | bl y=>cases (show u = Value.bool y from rx); exact PySem.W.kia_one PySem.W.kitx_bool I.du True.intro e (fun z=>nomatch z) h
 | int i=>obtain ⟨t,q⟩:=(show ∃ t,u = Value.int i t from rx); cases q; exact PySem.W.kia_one PySem.W.kitx_int I.du True.intro e (fun z=>nomatch z) h
 | str y=>obtain ⟨t,q⟩:=(show ∃ t,u = Value.str y t from rx); cases q; exact PySem.W.kia_one PySem.W.kitx_str I.du True.intro e (fun z=>nomatch z) h
 | flt y=>obtain ⟨t,q⟩:=(show ∃ t,u = Value.float y t from rx); cases q; exact PySem.W.kia_one PySem.W.kitx_float I.du True.intro e (fun z=>nomatch z) h
 | @lst a xs ea =>
  cases (show u = Value.ref a from rx)
  obtain ⟨_,_,n,_,h1⟩:=(show bQ X.prog X.w H s.heap a (.lst xs) from I.hok a _ ea)
  exact PySem.W.kia_one PySem.W.kitx_list I.du ⟨_,h1,rfl⟩ e (fun z=>nomatch z) h
 | @frz a ob xs ea =>
  cases (show u = Value.ref a from rx)
  obtain ⟨_,_,_,n,_,h1⟩:=(show bQ X.prog X.w H s.heap a (.frz ob (.lst xs)) from I.hok a _ ea)
  exact PySem.W.kia_one PySem.W.kitx_list I.du ⟨_,h1,rfl⟩ e (fun z=>nomatch z) h
 | @tup a xs ea =>
  cases (show u = Value.ref a from rx)
  obtain ⟨_,_,_,p⟩:=(show bQ X.prog X.w H s.heap a (.tup xs) from I.hok a _ ea)
  obtain ⟨o,h1,h2,_⟩:=p
  exact PySem.W.kia_one PySem.W.kitx_tuple I.du ⟨o,h1,h2⟩ e (fun z=>nomatch z) h
 | @dK a kvs ea =>
  cases (show u = Value.ref a from rx)
  obtain ⟨_,_,vs,_,p⟩:=(show bQ X.prog X.w H s.heap a (.dK kvs) from I.hok a _ ea)
  obtain ⟨o,es,ep,h1,h2,_⟩:=p
  exact PySem.W.kia_one PySem.W.kitx_dict I.du ⟨o,h1,h2.1⟩ e (fun z=>nomatch z) h
 | @dT a kvs ea =>
  cases (show u = Value.ref a from rx)
  obtain ⟨_,_,xs,_,o,es,ep,h1,h2,_⟩:=(show bQ X.prog X.w H s.heap a (.dT kvs) from I.hok a _ ea)
  exact PySem.W.kia_one PySem.W.kitx_dict I.du ⟨o,h1,h2.1⟩ e (fun z=>nomatch z) h
 | @ins a C dx fs ea cl ha hn htk hm =>
  cases (show u = Value.ref a from rx)
  obtain ⟨mA,O,_⟩:=jt I.hok ea
  obtain ⟨od,J,_⟩:=O.look
  exact PySem.W.kia_one (PySem.W.kitx_own (cl.get _) cl.hd ha hn htk hm) I.du J e (fun z=>nomatch z) h
end
end L2
namespace L2
open PySem PySem.Spec PyProof.Rows
structure cA (k:Nat) (A:Around):Prop where
 hd:A.handled = none
 dp:A.depth + 3 * k + 5 < recursionLimit
 un:A.units + 16 * k + 200 < cLine
theorem cA.mono {j k:Nat} {A:Around} (r:cA k A) (h:j ≤ k):cA j A:=⟨r.hd,by have:=r.dp; omega,by have:=r.un; omega⟩
theorem cA.deeper {k:Nat} {A:Around} (r:cA (k + 1) A) (env:Env):cA k (A.deeper env) :=
 ⟨r.hd,by have:=r.dp; show A.depth + 1 + 3 * k + 5 < _; omega,by have:=r.un; show A.units + 3 + 16 * k + 200 < _; omega⟩
theorem cA.in1 {k:Nat} {A:Around} (r:cA (k + 1) A):cA k A.in1 :=
 ⟨r.hd,by have:=r.dp; show A.depth + 3 * k + 5 < _; omega,by have:=r.un; show A.units + 1 + 16 * k + 200 < _; omega⟩
theorem qE {A:Around} {C:Addr} {us:List Value} {kw:List (Str × Value)}:(A.under (.builtin "type.__call__" ⟨.ref C :: us,kw⟩)).depth = A.depth + 1:=by
 first | rfl | simp [Around.under,Code.weight,Code.isCreation,Code.isGuard,Code.isCaller,Code.frames,Code.isFrame,guardIds]
theorem qH {A:Around} {C:Addr} {us:List Value} {kw:List (Str × Value)}:(A.under (.builtin "type.__call__" ⟨.ref C :: us,kw⟩)).units = A.units + 1:=by
 first | rfl | simp [Around.under,Code.cUnits,Code.frames,Code.isFrame]
theorem cA.make {k:Nat} {A:Around} (r:cA (k + 1) A) (C:Addr) (us:List Value) (kw:List (Str × Value)):cA k (A.under (.builtin "type.__call__" ⟨.ref C :: us,kw⟩)) :=
 ⟨r.hd,by have:=r.dp; rw [qE]; omega,by have:=r.un; rw [qH]; omega⟩
theorem cA.depth {k:Nat} {A:Around} (r:cA k A):A.depth < recursionLimit:=by have:=r.dp; omega
theorem cA.units {k:Nat} {A:Around} (r:cA k A):A.units + 64 < cLine:=by have:=r.un; omega
theorem cA.y9 {k:Nat} {A:Around} (r:cA k A):A.units < cLine:=by have:=r.un; omega
def yx:TA:=fun _ H Q=>Q [] H
def zV (ta:TE) (tr:TA):TA:=fun σ H Q=>ta σ H fun x H1=>tr σ H1 fun xs H2=>Q (x :: xs) H2
section
variable {X:Cx} {e:Expr} {es:List Expr} {te:TE} {t:TA} {pos:Pos}
theorem aD:PA X [] yx:=by
 first
 | exact (fun _ _ _ _ H Q I h=>Calls.spliced_nil ⟨[],H,I,.nil,h⟩)
 | (unfold PA at *; exact (fun _ _ _ _ H Q I h=>Calls.spliced_nil ⟨[],H,I,.nil,h⟩))
theorem aA (ha:PE X e te) (hr:PA X es t) (hs:starEach (e :: es) X.env = (false,eval e X.env) :: starEach es X.env:=by rfl):PA X (e :: es) (zV te t):=by
 unfold PE at *; unfold PA at *
 exact by
  intro pos pins s σ H Q I h
  rw [hs]
  show wpAny _ _ (spliced ((false,eval e X.env) :: backTo pos (starEach es X.env))) _ _ s
  refine Calls.spliced_cons (bS (ha pins s σ H _ I h) fun u s1 ⟨x,H1,I1,r1,q1⟩=>?_)
  exact bS (hr pos pins s1 σ H1 _ I1 q1) fun us s2 ⟨xs,H2,I2,r2,q2⟩=>⟨x :: xs,H2,I2,.cons r1 r2,q2⟩
def Av (t:TA):TE:=fun σ H Q=>t σ H fun xs H1=>xs.length ≤ sizeLine ∧ ∀ p,H1 p = none → Q (.ref p) (upd H1 p (.tup xs))
def As (t:TA):TE:=fun σ H Q=>t σ H fun xs H1=>xs.length ≤ sizeLine ∧ ∀ p,H1 p = none → Q (.ref p) (upd H1 p (.lst xs))
theorem cB {x1} (h:PA X es t):PE X (.Tuple es x1 pos) (Av t):=by
 unfold PE at *; unfold PA at *
 exact by
  intro pins s σ H Q I hq
  refine wpAny_Tuple_spliced (bS (h pos pins s σ H _ I hq) fun us s1 ⟨xs,H1,I1,r,z,q⟩=>⟨by rw [← r.length]; exact z,?_⟩)
  have hf:H1 s1.heap.objs.size = none:=I1.hok.fresh (Nat.le_refl _)
  refine ⟨.ref s1.heap.objs.size,upd H1 s1.heap.objs.size (.tup xs),I1.laid (t':=s1.toks) (fun b u e=>Heap.get?_push_of_some _ e) (Nat.le_refl _) ?_,rfl,q _ hf⟩
  exact ⟨z,us,r,⟨_,Heap.get?_push_size _ rfl,rfl,_,rfl⟩⟩
theorem bg (h:PA X es t):PE X (.List es pos) (As t):=by
 unfold PE at *; unfold PA at *
 exact by
  intro pins s σ H Q I hq
  refine wpAny_List_spliced (bS (h pos pins s σ H _ I hq) fun us s1 ⟨xs,H1,I1,r,z,q⟩=>⟨by rw [← r.length]; exact z,?_⟩)
  have hf:H1 s1.heap.objs.size = none:=I1.hok.fresh (Nat.le_refl _)
  refine ⟨.ref s1.heap.objs.size,upd H1 s1.heap.objs.size (.lst xs),I1.laid (t':=s1.toks) (fun b u e=>Heap.get?_push_of_some _ e) (Nat.le_refl _) ?_,rfl,q _ hf⟩
  exact ⟨z,us,0,r,Heap.get?_push_size _ rfl⟩
end
abbrev Sp:=List V → Hp → VK → XK → Prop
abbrev l6:=List Env → Hp → Shared → XK → Value → Shared → Prop
structure lX (P:Program) (w:World) (K:PySem.W.Frag) (mg:Str → Option Value) (base:Heap) (A:Around) (outer:List Env) (s:Shared) (H:Hp):Prop where
 frames:A.frames = some outer
 mod:Mod K mg base
 bs:∀ b o,base.get? b = some o → s.heap.get? b = some o ∧ H b = none
 bsz:base.objs.size ≤ s.heap.objs.size
 jC:s.heap.FunFrames base outer
 frf:∀ b ∈ e8 outer,H b = none
 hok:eV P w H s.heap
 bare:AllBare s.gens
def CE (outer:List Env) (P:Program) (w:World) (H:Hp) (s:Shared) (Q:VK) (u:Value) (s':Shared):Prop :=
 ∃ v H',s'.os = s.os ∧ AllBare s'.gens ∧ Un (e8 outer) [] H H' s.heap s'.heap ∧ eV P w H' s'.heap ∧ RelV v u ∧ Q v H'
def CR (CX:l6) (outer:List Env) (P:Program) (w:World) (H:Hp) (s:Shared) (Q:VK) (E:XK) (r:Result) (s':Shared):Prop :=
 match r with
 | .ok (.ret u)=>CE outer P w H s Q u s'
 | .ok _=>False
 | .error e=>CX outer H s E e s'
structure ar (P:Program) (w:World) (K:PySem.W.Frag) (mg:Str → Option Value) (base:Heap) (CX:l6) (k:Nat) (f:Addr) (fd:FuncData) (ps:List Str) (sp:Sp):Prop where
 len:∀ vs H Q E,sp vs H Q E → vs.length = ps.length
 run:∀ (A:Around) (outer:List Env) (s:Shared) (H:Hp) (args:Args) (us:List Value) (vs:List V) (Q:VK) (E:XK),cA k A → lX P w K mg base A outer s H → BindsTo s fd args (ps.zip us) → Vals vs us → sp vs H Q E →
  codeAny (model P w) A (.call (.ref f) args) (CR CX outer P w H s Q E) s
theorem ar.mono {P:Program} {w:World} {K:PySem.W.Frag} {mg:Str → Option Value} {base:Heap} {CX:l6} {j k:Nat} {f:Addr} {fd:FuncData} {ps:List Str} {sp:Sp} (F:ar P w K mg base CX j f fd ps sp) (h:j ≤ k) :
  ar P w K mg base CX k f fd ps sp:=⟨F.len,fun A outer s H args us vs Q E hr=>F.run A outer s H args us vs Q E (hr.mono h)⟩
theorem ar.imp {P:Program} {w:World} {K:PySem.W.Frag} {mg:Str → Option Value} {base:Heap} {CX:l6} {k:Nat} {f:Addr} {fd:FuncData} {ps:List Str} {sp sp':Sp} (F:ar P w K mg base CX k f fd ps sp)
  (h:∀ vs H Q E,sp' vs H Q E → sp vs H Q E):ar P w K mg base CX k f fd ps sp' :=
 ⟨fun vs H Q E q=>F.len vs H Q E (h _ _ _ _ q),fun A outer s H args us vs Q E hr he hb hv hs=>F.run A outer s H args us vs Q E hr he hb hv (h _ _ _ _ hs)⟩
theorem lX.make {P:Program} {w:World} {K:PySem.W.Frag} {mg:Str → Option Value} {base:Heap} {A:Around} {outer:List Env} {s:Shared} {H:Hp} (e:lX P w K mg base A outer s H) (C:Addr) (us:List Value) (kw:List (Str × Value)) :
  lX P w K mg base (A.under (.builtin "type.__call__" ⟨.ref C :: us,kw⟩)) outer s H:=⟨by first | exact e.frames | (simpa [Around.under,Code.envs,Code.isFrame,pushEnvs] using e.frames),e.mod,e.bs,e.bsz,e.jC,e.frf,e.hok,e.bare⟩
theorem lX.in1 {P:Program} {w:World} {K:PySem.W.Frag} {mg:Str → Option Value} {base:Heap} {A:Around} {outer:List Env} {s:Shared} {H:Hp} (e:lX P w K mg base A outer s H) :
  lX P w K mg base A.in1 outer s H:=⟨e.frames,e.mod,e.bs,e.bsz,e.jC,e.frf,e.hok,e.bare⟩
section
variable {X:Cx} {pins:List (Addr × Obj)} {σ:St} {H:Hp} {s s':Shared}
theorem Inv.vM (I:Inv X pins σ H s):lX X.prog X.w X.K X.mg X.base X.A X.stack s H :=
 ⟨I.ok.frames,I.ok.mod,I.bs,Nat.le_trans I.ok.bsz I.sz,I.stack,I.gn,I.hok,I.bare⟩
theorem Inv.after {Q:VK} {u:Value} (I:Inv X pins σ H s) (h:CE X.stack X.prog X.w H s Q u s'):EP X pins σ Q u s':=by
 obtain ⟨v,H',os,bare,un,hok,r,q⟩:=h
 obtain ⟨hh,g,d,t,os'⟩:=s'
 obtain rfl:os' = s.os:=os
 exact ⟨v,H',I.call (h':=hh) (g':=g) (d':=d) (t':=t) (ch:=[]) un hok bare (fun b z=>absurd z (by simp)),r,q⟩
end
def zZ (sp:Sp) (dvs:List V) (E:XK) (t:TA):TE:=fun σ H Q=>t σ H fun vs H1=>sp (vs ++ dvs) H1 Q E
def zj (C:Addr) (m:Str) (sp:Sp) (dvs:List V) (E:XK) (ta:TE) (t:TA):TE:=fun σ H Q=>ta σ H fun x H1=>∃ a dx fs,x = .ref a ∧ H1 a = some (.ins C dx fs) ∧ fs.lookup m = none ∧
 t σ H1 fun vs H2=>sp (x :: (vs ++ dvs)) H2 Q E
def xq (C:Addr) (sp:Sp) (dvs:List V) (E:XK) (t:TA):TE:=fun σ H Q=>t σ H fun vs H1=>∀ x dx,H1 x = none → H1 dx = none → dx ≠ x →
 sp (.ref x :: (vs ++ dvs)) (upd (upd H1 dx (.own x)) x (.ins C dx [])) (fun v H2=>v = .bI ∧ Q (.ref x) H2) E
def Binds (K:PySem.W.Frag) (fd:FuncData) (ps:List Str) (ds:List Value):Prop :=
 ∀ (s:Shared) (us:List Value),K.In s.heap → (us ++ ds).length = ps.length → BindsTo s fd ⟨us,[]⟩ (ps.zip (us ++ ds))
theorem Binds.all {K:PySem.W.Frag} {fd:FuncData} {ps:List Str} (h:∀ us:List Value,us.length = ps.length → bindArgs fd ⟨us,[]⟩ = pure (ps.zip us)):Binds K fd ps []:=fun s us _ hl=>by
 rw [List.append_nil] at hl ⊢
 exact .of_eq (h us hl)
def Passes (CX:l6) (X:Cx) (E:XK):Prop:=∀ (pins:List (Addr × Obj)) (σ:St) (H:Hp) (s:Shared) (e:Value) (s':Shared),Inv X pins σ H s → CX X.stack H s E e s' → X.xe e s'
section
variable {X:Cx} {CX:l6} {k:Nat} {f C:Addr} {fd:FuncData} {ps:List Str} {sp:Sp} {dvs:List V} {ds:List Value} {E:XK} {x m:Str} {p pos apos:Pos} {e o:Expr} {es:List Expr} {ta:TE} {t:TA}
theorem uu {pins:List (Addr × Obj)} {σ:St} {H:Hp} {s:Shared} {Q:VK} {us:List Value} {vs:List V} (F:ar X.prog X.w X.K X.mg X.base CX k f fd ps sp) (hr:cA k X.A) (hb:Binds X.K fd ps ds) (hd:Vals dvs ds) (hx:Passes CX X E)
  (I:Inv X pins σ H s) (r:Vals vs us) (h:sp (vs ++ dvs) H Q E):wpAny (model X.prog X.w) X.A (call (.ref f) us) (EP X pins σ Q) X.xe s:=by
 have r2:Vals (vs ++ dvs) (us ++ ds):=r.append hd
 have hl:(us ++ ds).length = ps.length:=by rw [← r2.length]; exact F.len _ _ _ _ h
 refine wpAny_call (codeAny_mono (F.run X.A X.stack s H ⟨us,[]⟩ (us ++ ds) (vs ++ dvs) Q E hr I.vM (hb s us I.du hl) r2 h) fun r s' hq=>?_)
 cases r with
 | error e=>exact hx pins σ H s e s' I hq
 | ok fl =>
  cases fl with
  | ret u=>exact I.after hq
  | next=>exact False.elim hq
  | brk=>exact False.elim hq
  | cont=>exact False.elim hq
theorem aU (F:ar X.prog X.w X.K X.mg X.base CX k f fd ps sp) (hr:cA k X.A) (hg:Gl X x) (hm:X.mg x = some (.ref f)) (hk:PySem.W.keepIn X.K (.ref f) = true) (hb:Binds X.K fd ps ds) (hd:Vals dvs ds) (hx:Passes CX X E)
  (ha:PA X (e :: es) t) (hdb:(x == ("__debug__" : Str)) = false:=by decide) (he:starEach (e :: es) X.env = (false,eval e X.env) :: starEach es X.env:=by rfl) (hpl:(backTo pos (starEach es X.env)).any (·.1) = false:=by rfl) :
  PE X (.Call (.Name x p) (e :: es) [] pos) (zZ sp dvs E t):=by
 unfold PE at *; unfold PA at *
 exact by
  intro pins s σ H Q I h
  refine wpAny_Call_Name_kw (d5 I hg hm ?_ hdb)
  refine PySem.W.callWith_K (h₀:=X.base) I.ok.mod.kin hk (bS (ha pos pins s σ H _ I h) fun us s1 ⟨vs,H1,I1,r,q⟩=>⟨I1.du,?_⟩) he hpl
  exact uu F hr hb hd hx I1 r q
theorem nH {pl:Sem Bool} (he:PE X o ta) (c:rf X.K C) (hm:Meth X.K C m f) (F:ar X.prog X.w X.K X.mg X.base CX k f fd ps sp) (hr:cA k X.A) (hb:Binds X.K fd ps ds) (hd:Vals dvs ds) (hx:Passes CX X E) (ha:PA X (e :: es) t)
  (hst:starEach (e :: es) X.env = (false,eval e X.env) :: starEach es X.env:=by rfl) (hpl:(backTo pos (starEach es X.env)).any (·.1) = false:=by rfl)
  (ht:eval (.Call (.Attribute o m apos) (e :: es) [] pos) X.env = (do
   let ov ← eval o X.env
   standAt apos.atName
   let (f,first) ← holding [ov] (getMethod ov m pl)
   callWith pos f first (backTo pos (starEach (e :: es) X.env)) (backToKw pos (keywordEach [] X.env))):=by rfl) :
  PE X (.Call (.Attribute o m apos) (e :: es) [] pos) (zj C m sp dvs E ta t):=by
 unfold PE at *; unfold PA at *
 exact by
  intro pins s σ H Q I h
  refine PySem.W.methodCall_KW (pl:=pl) (bS (he pins s σ H _ I h) fun u s1 ⟨x,H1,I1,rx,a,dx,fs,ex,ea,l,q⟩=>?_) ht
  subst ex
  obtain rfl:u = Value.ref a:=rx
  refine qC I1 ea c hm l ?_
  refine PySem.W.callWith_K (first:=[.ref a]) (h₀:=X.base) I.ok.mod.kin hm.kp (bS (ha pos pins s1 σ H1 _ I1 q) fun us s2 ⟨vs,H2,I2,r,q2⟩=>⟨I2.du,?_⟩) hst hpl
  exact uu (us:=.ref a :: us) (vs:=.ref a :: vs) F hr hb hd hx I2 (.cons rfl r) q2
structure Mk (K:PySem.W.Frag) (C f:Addr):Prop where
 makes:PySem.W.makesIn K C = true
 init:PySem.W.findIn K (.ref C) "__init__" = some (some (.ref f))
 fn:PySem.W.isFn K (.ref f) = true
 kp:PySem.W.keepIn K (.ref C) = true
theorem px {pins:List (Addr × Obj)} {σ:St} {H:Hp} {s:Shared} {Q:VK} {us:List Value} {vs:List V} (M:Mk X.K C f) (F:ar X.prog X.w X.K X.mg X.base CX k f fd ps sp) (hr:cA (k + 1) X.A) (hb:Binds X.K fd ps ds) (hd:Vals dvs ds)
  (hx:Passes CX X E) (I:Inv X pins σ H s) (r:Vals vs us)
  (h:∀ x dx,H x = none → H dx = none → dx ≠ x → sp (.ref x :: (vs ++ dvs)) (upd (upd H dx (.own x)) x (.ins C dx [])) (fun v H2=>v = .bI ∧ Q (.ref x) H2) E) :
  wpAny (model X.prog X.w) X.A (call (.ref C) us) (EP X pins σ Q) X.xe s:=by
 have hq:=h (s.heap.objs.size + 1) s.heap.objs.size (I.hok.fresh (Nat.le_succ _)) (I.hok.fresh (Nat.le_refl _)) (Nat.ne_of_lt (Nat.lt_succ_self _))
 have I2:=Inv.made (C:=C) I
 have r2:Vals (V.ref (s.heap.objs.size + 1) :: (vs ++ dvs)) (Value.ref (s.heap.objs.size + 1) :: (us ++ ds)):=.cons rfl (r.append hd)
 have hl:(Value.ref (s.heap.objs.size + 1) :: us ++ ds).length = ps.length:=by
  have e:=r2.length
  rw [F.len _ _ _ _ hq] at e
  exact e.symm
 refine wpAny_call (o6 (f:=f) I.du M.makes M.init (beq_iff_eq.mp M.fn) (codeAny_mono (F.run _ X.stack _ _ ⟨Value.ref (s.heap.objs.size + 1) :: us,[]⟩ (Value.ref (s.heap.objs.size + 1) :: (us ++ ds)) _ _ E (hr.make C us [])
  (I2.vM.make C us []) (hb _ (Value.ref (s.heap.objs.size + 1) :: us) I2.du hl) r2 hq) fun r s' hq'=>?_))
 cases r with
 | error e=>exact hx pins σ _ _ e s' I2 hq'
 | ok fl =>
  cases fl with
  | ret u =>
   obtain ⟨v,H',I3,rv,ev,q3⟩:=I2.after hq'
   subst ev
   exact ⟨rv,⟨V.ref (s.heap.objs.size + 1),H',I3,rfl,q3⟩⟩
  | next=>exact False.elim hq'
  | brk=>exact False.elim hq'
  | cont=>exact False.elim hq'
theorem vy (M:Mk X.K C f) (F:ar X.prog X.w X.K X.mg X.base CX k f fd ps sp) (hr:cA (k + 1) X.A) (hg:Gl X x) (hm:X.mg x = some (.ref C)) (hb:Binds X.K fd ps ds) (hd:Vals dvs ds) (hx:Passes CX X E)
  (ha:PA X (e :: es) t) (hdb:(x == ("__debug__" : Str)) = false:=by decide) (he:starEach (e :: es) X.env = (false,eval e X.env) :: starEach es X.env:=by rfl) (hpl:(backTo pos (starEach es X.env)).any (·.1) = false:=by rfl) :
  PE X (.Call (.Name x p) (e :: es) [] pos) (xq C sp dvs E t):=by
 unfold PE at *; unfold PA at *
 exact by
  intro pins s σ H Q I h
  refine wpAny_Call_Name_kw (d5 I hg hm ?_ hdb)
  refine PySem.W.callWith_K (h₀:=X.base) I.ok.mod.kin M.kp (bS (ha pos pins s σ H _ I h) fun us s1 ⟨vs,H1,I1,r,q⟩=>⟨I1.du,?_⟩) he hpl
  exact px M F hr hb hd hx I1 r q
theorem uO (M:Mk X.K C f) (F:ar X.prog X.w X.K X.mg X.base CX k f fd ps sp) (hr:cA (k + 1) X.A) (hg:Gl X x) (hm:X.mg x = some (.ref C)) (hb:Binds X.K fd ps ds) (hd:Vals dvs ds) (hx:Passes CX X E)
  (hdb:(x == ("__debug__" : Str)) = false:=by decide):PE X (.Call (.Name x p) [] [] pos) (xq C sp dvs E yx):=by
 unfold PE at *
 exact by
  intro pins s σ H Q I h
  refine wpAny_Call_Name_kw (d5 I hg hm ?_ hdb)
  exact PySem.W.callWith_K0 I.du M.kp (px (us:=[]) M F hr hb hd hx I .nil h)
end
@[irreducible] def PK (X:Cx) (kws:List Keyword) (t:TA):Prop :=
 ∀ (pos:Pos) (pins:List (Addr × Obj)) (s:Shared) (σ:St) (H:Hp) (Q:List V → Hp → Prop),Inv X pins σ H s → t σ H Q → wpAny (model X.prog X.w) X.A (evalAll ((backToKw pos (keywordEach kws X.env)).map (·.2))) (AP X pins σ Q) X.xe s
section
variable {X:Cx} {CX:l6} {k:Nat} {f C:Addr} {fd:FuncData} {ps ks:List Str} {sp:Sp} {E:XK} {x m:Str} {p pos apos kpos:Pos} {e o:Expr} {es:List Expr} {kws:List Keyword} {te ta:TE} {t tk:TA} {nm:Option Str}
theorem vk:PK X [] yx:=by
 first
 | exact (fun _ _ _ _ H Q I h=>wpAny_evalAll_nil ⟨[],H,I,.nil,h⟩)
 | (unfold PK at *; exact (fun _ _ _ _ H Q I h=>wpAny_evalAll_nil ⟨[],H,I,.nil,h⟩))
variable {g:List Value → List Value → List Value} {gV:List V → List V → List V}
end
structure aS (N P:List Str) (sc:Scope):Prop where
 kind:sc.kind = .function
 co:sc.isCoroutine = false
 gen:sc.isGenerator = false
 nd:N.Nodup
 pre:N.take P.length = P
 par:∀ x ∈ P,sc.names.lookup x = some .local ∨ sc.names.lookup x = some .cell
 nofree:∀ y ∈ sc.names,y.2 ≠ .free
theorem mG {kindOf:Str → Option NameKind} {x:Str}:∀ {binds:List (Str × Value)} {m:Str → Option Value},(∀ v,(x,v) ∉ binds) → bindL kindOf binds m x = m x
 | [],_,_=>rfl
 | (n,v) :: r,m,h=>by
  unfold bindL
  rw [mG fun w hw=>h w (List.mem_cons_of_mem _ hw)]
  split
  ·have:x ≠ n:=by rintro rfl; exact h v List.mem_cons_self
   simp [this]
  ·rfl
theorem mQ {kindOf:Str → Option NameKind} {x:Str}:∀ {binds:List (Str × Value)} {m:Str → Option Value},(∀ v,(x,v) ∉ binds) → bindC kindOf binds m x = m x
 | [],_,_=>rfl
 | (n,v) :: r,m,h=>by
  unfold bindC
  rw [mQ fun w hw=>h w (List.mem_cons_of_mem _ hw)]
  split
  ·rfl
  ·have:x ≠ n:=by rintro rfl; exact h v List.mem_cons_self
   simp [this]
theorem mZ {kindOf:Str → Option NameKind} {x:Str} {v:Value}:∀ {P:List Str} {vs:List Value} {i:Nat} {m:Str → Option Value},P.Nodup → P[i]? = some x → vs[i]? = some v → kindOf x = some .local →
  bindL kindOf (P.zip vs) m x = some v
 | [],_,_,_,_,h,_,_=>by simp at h
 | _ :: _,[],_,_,_,_,h,_=>by simp at h
 | p :: P,w :: vs,0,m,nd,h1,h2,hk=>by
  simp at h1 h2; subst h1; subst h2
  show bindL kindOf ((p,w) :: P.zip vs) m p = _
  unfold bindL
  rw [mG fun v hv=>(List.nodup_cons.mp nd).1 (List.of_mem_zip hv).1,if_pos hk]
  simp
 | p :: P,w :: vs,i + 1,m,nd,h1,h2,hk=>by
  show bindL kindOf ((p,w) :: P.zip vs) m x = _
  unfold bindL
  exact mZ (i:=i) (List.nodup_cons.mp nd).2 (by simpa using h1) (by simpa using h2) hk
theorem mK {kindOf:Str → Option NameKind} {x:Str} {v:Value}:∀ {P:List Str} {vs:List Value} {i:Nat} {m:Str → Option Value},P.Nodup → P[i]? = some x → vs[i]? = some v → kindOf x ≠ some .local →
  bindC kindOf (P.zip vs) m x = some v
 | [],_,_,_,_,h,_,_=>by simp at h
 | _ :: _,[],_,_,_,_,h,_=>by simp at h
 | p :: P,w :: vs,0,m,nd,h1,h2,hk=>by
  simp at h1 h2; subst h1; subst h2
  show bindC kindOf ((p,w) :: P.zip vs) m p = _
  unfold bindC
  rw [mQ fun v hv=>(List.nodup_cons.mp nd).1 (List.of_mem_zip hv).1,if_neg hk]
  simp
 | p :: P,w :: vs,i + 1,m,nd,h1,h2,hk=>by
  show bindC kindOf ((p,w) :: P.zip vs) m x = _
  unfold bindC
  exact mK (i:=i) (List.nodup_cons.mp nd).2 (by simpa using h1) (by simpa using h2) hk
def start (N:List Str) (vs:List V):St:=vs.map some ++ List.replicate (N.length - vs.length) none
def iX (CX:l6) (P:Program) (w:World) (K:PySem.W.Frag) (mg:Str → Option Value) (base:Heap) (N:List Str) (qual:Str) (scope:Scope) (f:Addr) (cd:Value) (A:Around) (outer:List Env) (s:Shared) (H:Hp) (E:XK):Cx where
 prog:=P
 w:=w
 K:=K
 mg:=mg
 base:=base
 A:=A.deeper (envOfC qual scope s.heap.objs.size f cd)
 N:=N
 s₀:=s
 H₀:=H
 env:=envOfC qual scope s.heap.objs.size f cd
 outer:=outer
 stack:=envOfC qual scope s.heap.objs.size f cd :: outer
 ex:=[]
 calm:=true
 fn:=fun _=>true
 pn:=[]
 xe:=fun e s'=>wpAny (model P w) (A.deeper (envOfC qual scope s.heap.objs.size f cd)) (leaving (envOfC qual scope s.heap.objs.size f cd) e) (fun _ s''=>CX outer H s E e s'') (fun e' s''=>CX outer H s E e' s'') s'
theorem qA {sc:Scope} {n:Nat} {x:Str} (h:sc.names.lookup x = some .cell):∃ c,(cellsFrom n sc.names []).lookup x = some c:=by
 have q:=PySem.W.cellsFrom_some sc.names n [] (.inl h)
 exact Option.isSome_iff_exists.mp q
theorem sT {CX:l6} {P:Program} {w:World} {K:PySem.W.Frag} {mg:Str → Option Value} {base:Heap} {N ps:List Str} {qual:Str} {scope:Scope} {f:Addr} {cd:Value} {A:Around} {outer:List Env} {s s1:Shared} {H:Hp} {E:XK} {us:List Value} {vs:List V}
  (S:aS N ps scope) (hd:A.handled = none) (e0:lX P w K mg base A outer s H) (hl:vs.length = ps.length) (r:Vals vs us)
  (x:InCallC s s.heap.objs.size (bindL (envOfC qual scope s.heap.objs.size f cd).kindOf (ps.zip us) fun _=>none) (cellsFrom (s.heap.objs.size + 1) scope.names []) (bindC (envOfC qual scope s.heap.objs.size f cd).kindOf (ps.zip us) fun _=>none) s1) :
  Inv (iX CX P w K mg base N qual scope f cd A outer s H E) [] (start N vs) H s1:=by
 have hpl:ps.length ≤ N.length:=by have:=congrArg List.length S.pre; rw [List.length_take] at this; omega
 obtain ⟨h1,tk,rfl,hk⟩:=x.done
 have noA:∀ b:Addr,b ∉ (iX CX P w K mg base N qual scope f cd A outer s H E).ex:=fun b z=>absurd (show b ∈ ([]:List Addr) from z) (by simp)
 refine ⟨⟨e0.mod,S.kind,rfl,rfl,Nat.le_refl _,fun y z c h1 h2=>?_,fun y hy=>?_,fun y c _ h=>?_,fun _=>hd,Around.frames_deeper e0.frames,.inr ⟨rfl,rfl⟩,fun b z=>absurd z (noA b),e0.bs,e0.bsz,fun b _ _=>noA b,fun b z=>absurd z (noA b),e0.jC,e0.frf⟩,
  rfl,e0.bare,Un.kept hk,⟨_,x.toInCall.ns,fun i y v h1 h2 h3=>?_⟩,fun y c h=>⟨_,x.cell y c h⟩,e0.hok.fresh (Nat.le_refl _),fun y c h=>?_,fun p hp=>absurd (show p ∈ ([]:List (Addr × Obj)) from hp) (by simp),e0.hok.kept hk,?_⟩
 ·exact name_of_addr x.apart (PySem.mem_of_lookup h1) (PySem.mem_of_lookup h2)
 ·have hy:scope.names.lookup y = some .cell ∨ scope.names.lookup y = some .free:=hy
  rcases hy with hy | hy
  ·exact qA hy
  ·exact absurd rfl (S.nofree _ (PySem.mem_of_lookup hy))
 ·exact Nat.le_of_lt (x.above y c (PySem.mem_of_lookup h))
 ·have hi:i < vs.length:=by
   unfold start at h2
   by_cases hi:i < vs.length
   ·exact hi
   ·rw [List.getElem?_append_right (by simpa using hi)] at h2
    rw [List.getElem?_replicate] at h2
    split at h2 <;> cases h2
  have ha:vs[i]? = some v:=by
   unfold start at h2
   rw [List.getElem?_append_left (by simpa using hi),List.getElem?_map] at h2
   cases e:vs[i]? with
   | none=>rw [e] at h2; cases h2
   | some a=>rw [e] at h2; cases h2; rfl
  obtain ⟨u,hu,rv⟩:=r.get ha
  have hp:ps[i]? = some y:=by
   rw [← S.pre,List.getElem?_take_of_lt (by omega)]; exact h1
  have ndP:ps.Nodup:=by rw [← S.pre]; exact S.nd.sublist (List.take_sublist _ _)
  refine ⟨u,rv,?_⟩
  rcases S.par y (List.mem_of_getElem? hp) with k | k
  ·exact .inl ⟨k,mZ ndP hp hu k⟩
  ·obtain ⟨c,e⟩:=qA (n:=s.heap.objs.size + 1) k
   refine .inr ⟨.inl k,c,e,?_⟩
   have q:=x.cell y c e
   rw [mK ndP hp hu (by show scope.names.lookup y ≠ _; rw [k]; decide)] at q
   exact q
 ·exact e0.hok.fresh (Nat.le_of_lt (x.above y c (PySem.mem_of_lookup h)))
 ·unfold start
  show _ = N.length
  rw [List.length_append,List.length_map,List.length_replicate]
  omega
theorem ur {CX:l6} {P:Program} {w:World} {K:PySem.W.Frag} {mg:Str → Option Value} {base:Heap} {k:Nat} {f:Addr} {name qual:Str} {params:Arguments} {body:List Stmt} {scope:Scope} {dV kV doc pm cdv ct oc:Value} {an od:Option Addr}
  {osl:Array (Option Value)} {N ps:List Str} {sp:Sp} (lk:K.lookup f = some ⟨oc,od,.func (PySem.W.fnOf name qual params body scope dV kV doc pm an cdv ct),osl⟩) (hcd:PySem.W.codeIn K cdv qual = true) (S:aS N ps scope)
  (len:∀ vs H Q E,sp vs H Q E → vs.length = ps.length)
  (hbody:∀ (A:Around) (outer:List Env) (s:Shared) (H:Hp) (vs:List V) (Q:VK) (E:XK),cA k (A.deeper (envOfC qual scope s.heap.objs.size f cdv)) → sp vs H Q E →
   ∃ t,jr (iX CX P w K mg base N qual scope f cdv A outer s H E) body t ∧ t { nx:=fun _ H'=>Q .bI H',rt:=Q } (start N vs) H) :
  ar P w K mg base CX (k + 1) f (PySem.W.fnOf name qual params body scope dV kV doc pm an cdv ct) ps sp:=by
 unfold jr at *
 exact by
  refine ⟨len,fun A outer s H args us vs Q E hr e0 hb r hsp=>?_⟩
  have hl:=len _ _ _ _ hsp
  have KX:K.In s.heap:=e0.mod.kin.keeps fun b o e=>(e0.bs b o e).1
  have lim:s.heap.NoLimit:=e0.mod.nolimit.keeps fun b o e=>(e0.bs b o e).1
  have hkind:∀ y ∈ ps.zip us,scope.names.lookup y.1 = some .local ∨ (scope.names.lookup y.1 = some .cell ∧ ((cellsFrom (s.heap.objs.size + 1) scope.names []).lookup y.1).isSome = true):=fun ⟨n,v⟩ hy=>by
   rcases S.par n (List.of_mem_zip hy).1 with q | q
   ·exact .inl q
   ·exact .inr ⟨q,PySem.W.cellsFrom_some _ _ _ (.inl q)⟩
  refine codeAny_call_function hr.depth (KX _ _ lk) rfl S.co S.gen rfl (PySem.W.codeRec_of KX hcd) (hb _ _ _ _ ?_)
  refine wpAny_newFunctionEnv_cells S.kind hkind fun env he s1 x=>?_
  subst he
  refine ⟨lim.keeps x.toInCall.keep,codeAny_func ?_⟩
  obtain ⟨t,ht,hq⟩:=hbody A outer s H vs Q E (hr.deeper _) hsp
  have I:Inv (iX CX P w K mg base N qual scope f cdv A outer s H E) [] (start N vs) H s1:=sT S hr.hd e0 hl r x
  refine wpAny_mono (ht [] s1 (start N vs) H _ I hq) (fun fl s' hs=>?_) fun e s' hs=>hs
  have fin:∀ {σ':St} {H':Hp} {v:V} {u:Value},Inv (iX CX P w K mg base N qual scope f cdv A outer s H E) [] σ' H' s' → RelV v u → Q v H' → CE outer P w H s Q u s' :=
   fun {σ' H' v u} J rv q=>⟨v,H',J.os,J.bare,J.base,J.hok,rv,q⟩
  cases fl with
  | ret u =>
   obtain ⟨v,σ',H',J,rv,q⟩:=hs
   exact fin J rv q
  | next =>
   obtain ⟨σ',H',J,q⟩:=hs
   exact fin (v:=V.bI) (u:=Value.none) J rfl q
  | brk =>
   obtain ⟨_,_,_,q⟩:=hs
   exact False.elim q
  | cont =>
   obtain ⟨_,_,_,q⟩:=hs
   exact False.elim q
end L2
namespace L2
open PySem PySem.Spec PyProof.Rows
section
variable {X:Cx} {x:Str} {p pos:Pos} {e:Expr} {es:List Expr} {t:TA} {id T:String} {r:List V → Hp → VK → Prop}
def BS (r:List V → Hp → VK → Prop) (t:TA):TE:=fun σ H Q=>t σ H fun vs H1=>r vs H1 Q
theorem af (hc:b6 X (.builtin id) r) (hg:Gl X x) (hm:X.mg x = none) (hv:bootBuiltins x = some (.builtin id)) (ha:PA X (e :: es) t) (hn:x ≠ "__name__" := by decide) (hdb:(x == ("__debug__" : Str)) = false:=by decide)
  (he:starEach (e :: es) X.env = (false,eval e X.env) :: starEach es X.env:=by rfl) (hpl:(backTo pos (starEach es X.env)).any (·.1) = false:=by rfl):PE X (.Call (.Name x p) (e :: es) [] pos) (BS r t):=by
 unfold PE at *; unfold PA at *; unfold b6 at *
 exact by
  intro pins s σ H Q I h
  refine wpAny_Call_Name_kw (jB I hg hm hv ?_ hn hdb)
  exact PyProof.Rows.callWith_builtin1 (bS (ha pos pins s σ H _ I h) fun us s1 ⟨vs,H1,I1,r1,q1⟩=>hc pins s1 σ H1 vs us Q I1 r1 q1) he hpl
theorem gm (hc:b6 X (.type T) r) (hg:Gl X x) (hm:X.mg x = none) (hv:bootBuiltins x = some (.type T)) (ha:PA X (e :: es) t) (hn:x ≠ "__name__" := by decide) (hdb:(x == ("__debug__" : Str)) = false:=by decide)
  (he:starEach (e :: es) X.env = (false,eval e X.env) :: starEach es X.env:=by rfl) (hpl:(backTo pos (starEach es X.env)).any (·.1) = false:=by rfl):PE X (.Call (.Name x p) (e :: es) [] pos) (BS r t):=by
 unfold PE at *; unfold PA at *; unfold b6 at *
 exact by
  intro pins s σ H Q I h
  refine wpAny_Call_Name_kw (jB I hg hm hv ?_ hn hdb)
  exact PyProof.Rows.callWith_type1 (bS (ha pos pins s σ H _ I h) fun us s1 ⟨vs,H1,I1,r1,q1⟩=>hc pins s1 σ H1 vs us Q I1 r1 q1) he hpl
end
end L2
namespace HT
open PySem PyProof.Rows
def lexLt:List Int → List Int → Bool
 | [],[]=>false
 | [],_ :: _=>true
 | _ :: _,[]=>false
 | x :: xs,y :: ys=>if x = y then lexLt xs ys else decide (x < y)
theorem qw (x y:Int) (xs ys:List Int):lexLt (x :: xs) (y :: ys) = if x = y then lexLt xs ys else decide (x < y):=rfl
theorem lZ:lexLt [] [] = false:=rfl
theorem lD (y:Int) (ys:List Int):lexLt [] (y :: ys) = true:=rfl
theorem kB (x:Int) (xs:List Int):lexLt (x :: xs) [] = false:=rfl
theorem uD (A:Around) (s:Shared) (a:Int) (t:Tok) (c:Int) (u:Tok):∃ e,SeqAt.EqAt A s (.int a t) (.int c u) e ∧ (e = true ↔ a = c) :=
 ⟨(a == c),SeqAt.EqAt.int_int a t c u,by simp⟩
theorem vA (A:Around) (s:Shared) (a:Int) (t:Tok) (c:Int) (u:Tok) (prog:Program) (w:World) (E:Value → Shared → Prop) (Q:Value → Shared → Prop) (h:Q (.bool (decide (a < c))) s) :
  wpAny (model prog w) A (richCompare .Lt (.int a t) (.int c u)) Q E s :=
 (PyProof.Rows.lt_int h:wpAny (model prog w) A (compareOp .Lt (.int a t) (.int c u)) Q E s)
section
open PySem.SeqAt
open PySem.AutoSeq1 (wpAny_loadPart')
open PySem.MeetsSeq PySem.MeetsSeq2 PySem.MeetsSeq3
theorem l7 (l b:Addr) (items items2:Array Value) (n n2:Nat) (dd dd2:Option Addr) (sl sl2:Array (Option Value)) (ns ms:List Int) (hi:IntsAre items.toList ns) (hj:IntsAre items2.toList ms) :
  Meets (Builtin.«tuple.__lt__» ⟨[.ref l,.ref b],[]⟩)
   (fun _ R s=>s.heap.get? l = some { cls:=.type "tuple",dict:=dd,data:=.seq items n,slots:=sl } ∧ s.heap.get? b = some { cls:=.type "tuple",dict:=dd2,data:=.seq items2 n2,slots:=sl2 } ∧
    R (.ok (.ret (.bool (lexLt ns ms)))) s) :=
 .of_wp fun prog w A R s h=>by
  obtain ⟨hp,g,d,tk,os⟩:=s; obtain ⟨hl,hb,h⟩:=h
  have f2:=AutoSeq1.sub_tuple_tuple
  have z1:items.size = ns.length:=by rw [← hi.length]; simp
  have z2:items2.size = ms.length:=by rw [← hj.length]; simp
  wp_walk using wpAny_loadPart' hl,wpAny_loadPart' hb,wpAny_forIn_list _ (fun rest b s'=>b.1 = none ∧ s' = ⟨hp,g,d,tk,os⟩ ∧ ∃ (vs ws:List Value) (ns' ms':List Int),rest = vs.zip ws ∧
   IntsAre vs ns' ∧ IntsAre ws ms' ∧ ns'.length + items2.size = ms'.length + items.size ∧ R (.ok (.ret (.bool (lexLt ns' ms')))) ⟨hp,g,d,tk,os⟩) _
  case turn =>
   rintro ⟨y,x⟩ rest b s' ⟨hb',rfl,vs,ws,ns',ms',hz,hvi,hwi,hlen,hR⟩
   cases hvi with
   | nil=>rw [List.zip_nil_left] at hz; cases hz
   | cons a t hvi' =>
    cases hwi with
    | nil=>rw [List.zip_nil_right] at hz; cases hz
    | cons c u hwi' =>
     rw [List.zip_cons_cons] at hz
     injection hz with hyx hrest
     injection hyx with hy hx
     subst hy hx
     rw [qw] at hR
     simp only [List.length_cons] at hlen
     obtain ⟨e,he,hiff⟩:=uD A.in1 ⟨hp,g,d,tk,os⟩ a t c u
     refine wpAny_bind (he prog w _ _ ?_)
     cases e with
     | true =>
      rw [if_pos (hiff.mp rfl)] at hR
      wp_walk
      exact ⟨rfl,rfl,_,_,_,_,hrest,hvi',hwi',by omega,hR⟩
     | false =>
      rw [if_neg (fun q=>absurd (hiff.mpr q) Bool.false_ne_true)] at hR
      have hri:=vA A.in1 ⟨hp,g,d,tk,os⟩ a t c u prog w
      wp_walk using hri
      exact ⟨_,rfl,by simpa using hR⟩
  case fin =>
   rintro ⟨b1,b2⟩ s' ⟨hb',rfl,vs,ws,ns',ms',hz,hvi,hwi,hlen,hR⟩
   simp only at hb'
   subst hb'
   have hv:lexLt ns' ms' = decide (items.size < items2.size):=by
    cases hvi with
    | nil =>
     cases hwi with
     | nil =>
      simp only [List.length_nil] at hlen
      rw [lZ]
      exact (decide_eq_false (by omega)).symm
     | cons c u hw =>
      simp only [List.length_nil,List.length_cons] at hlen
      rw [lD]
      exact (decide_eq_true (by omega)).symm
    | cons a t hv =>
     cases hwi with
     | nil =>
      simp only [List.length_nil,List.length_cons] at hlen
      rw [kB]
      exact (decide_eq_false (by omega)).symm
     | cons c u hw =>
      rw [List.zip_cons_cons] at hz
      cases hz
   rw [hv] at hR
   wp_walk
   exact ⟨_,rfl,by simpa [Builtin.Tuple.tupleCompareSizes] using hR⟩
  case h =>
   exact ⟨rfl,rfl,items.toList,items2.toList,ns,ms,rfl,hi,hj,by omega,h⟩
end
section
variable {prog:Program} {w:World} {A:Around} {E:Value → Shared → Prop} {s:Shared}
theorem rC {l b:Addr} {items items2:Array Value} {ns ms:List Int} {Q:Value → Shared → Prop} (hl:IsTup s.heap l items) (hb:IsTup s.heap b items2) (hi:IntsAre items.toList ns) (hj:IntsAre items2.toList ms)
  (hu:A.units < cLine) (h:Q (.bool (lexLt ns ms)) s):wpAny (model prog w) A (compareOp .Lt (.ref l) (.ref b)) Q E s:=by
 obtain ⟨⟨cls,dd,data,sl⟩,ho,hc,n,hd⟩:=id hl
 obtain ⟨⟨cls2,dd2,data2,sl2⟩,ho2,hc2,n2,hd2⟩:=id hb
 simp only at hc hd hc2 hd2
 subst hc hd hc2 hd2
 exact richCompare_meets_room (op:=.Lt) ⟨_,ho,rfl⟩ ⟨_,ho2,rfl⟩ PySem.F.slot_tuple_lt PySem.F.entry_tuple_lt (PySem.F.args_tuple_lt_2 _ _) (l7 l b items items2 n n2 dd dd2 sl sl2 ns ms hi hj)
  ⟨ho,ho2,show Value.bool (lexLt ns ms) ≠ Value.notImplemented ∧ Q (.bool (lexLt ns ms)) s from ⟨(fun x=>nomatch x),h⟩⟩ hu
theorem xR {t b:Addr} {vs ws:List Value} {Q:Value → Shared → Prop} (ht:IsTup s.heap t vs.toArray) (hb:IsTup s.heap b ws.toArray) (hv:vs ≠ [])
  (h1:ws = [] → Q (.ref t) s) (h2:ws ≠ [] → Q (.ref s.heap.objs.size) { s with heap:=s.heap.push { cls:=.type "tuple",data:=.seq (vs ++ ws).toArray } })
  (hsz:vs.length + ws.length ≤ sizeLine):wpAny (model prog w) A (binaryOp .Add (.ref t) (.ref b)) Q E s:=by
 obtain ⟨⟨cls,dd,data,sl⟩,ho,hc,n,hd⟩:=id ht
 obtain ⟨⟨cls2,dd2,data2,sl2⟩,ho2,hc2,n2,hd2⟩:=id hb
 simp only at hc hd hc2 hd2
 subst hc hd hc2 hd2
 have e:vs.toArray ++ ws.toArray = (vs ++ ws).toArray:=by simp
 by_cases hw:ws = []
 ·exact concat_meets ⟨_,ho,rfl⟩ ⟨_,ho2,rfl⟩ noFill_tuple_add seq_tuple_add PySem.F.slot_tuple_add PySem.F.entry_tuple_add (PySem.F.args_tuple_add_2 _ _)
   (tuple_addW1 t b vs.toArray ws.toArray n n2 dd dd2 sl sl2 (by simpa using hv) (by simp [hw])) ⟨ho,ho2,h1 hw⟩
 ·refine concat_meets ⟨_,ho,rfl⟩ ⟨_,ho2,rfl⟩ noFill_tuple_add seq_tuple_add PySem.F.slot_tuple_add PySem.F.entry_tuple_add (PySem.F.args_tuple_add_2 _ _)
   (tuple_addW2 t b vs.toArray ws.toArray n n2 dd dd2 sl sl2 (by simpa using hv) (by simpa using hw) (by rw [List.size_toArray,List.size_toArray]; exact hsz)) ⟨ho,ho2,?_⟩
  rw [e]
  exact h2 hw
def dE (n d:Nat):Option Int → Nat
 | none=>d
 | some v=>if v < 0 then (v + (n:Int)).toNat else min v.toNat n
theorem vZ (n d:Nat):dE n d none = d:=rfl
theorem jw (n d k:Nat):dE n d (some (k:Int)) = min k n:=by
 show (if (k:Int) < 0 then ((k:Int) + (n:Int)).toNat else min (k:Int).toNat n) = min k n
 rw [if_neg (by omega),Int.toNat_natCast]
theorem yK (n d:Nat) (hd:d ≤ n) (o:Option Int):dE n d o ≤ n:=by
 cases o with
 | none=>exact hd
 | some v =>
  show (if v < 0 then (v + (n:Int)).toNat else min v.toNat n) ≤ n
  by_cases hv:v < 0
  ·rw [if_pos hv]; omega
  ·rw [if_neg hv]; exact Nat.min_le_right _ _
theorem rS (v:Int) (n d:Nat):(if v < 0 then max (v + (n:Int)) 0 else min v (n:Int)) = ((dE n d (some v):Nat):Int):=by
 show (if v < 0 then max (v + (n:Int)) 0 else min v (n:Int)) = (((if v < 0 then (v + (n:Int)).toNat else min v.toNat n):Nat):Int)
 by_cases hv:v < 0
 ·simp only [if_pos hv]; omega
 ·simp only [if_neg hv]; omega
theorem qe (lo hi:Option Int) (n:Nat):Builtin.Slice.sliceAdjust lo hi 1 (n:Int) = (((dE n 0 lo:Nat):Int),((dE n n hi:Nat):Int)):=by
 have h1:¬ ((1:Int) < 0):=by omega
 unfold Builtin.Slice.sliceAdjust
 simp only [h1,if_false]
 refine Prod.ext ?_ ?_
 ·cases lo with
  | none=>rfl
  | some v=>exact rS v n 0
 ·cases hi with
  | none=>rfl
  | some v=>exact rS v n n
theorem rA (i j:Nat):Builtin.Slice.slicePlaces (i:Int) (j:Int) 1 = j - i:=by
 unfold Builtin.Slice.slicePlaces
 have h1:(1:Int) > 0:=by omega
 simp only [h1,if_true,Int.ediv_one]
 split <;> omega
theorem kz {v:Value} {o:Option Int} {Q:Option Int → Shared → Prop} (p:IsPart v o) (h:Q o s):wpAny (model prog w) A (Builtin.Slice.slicePartIndex v) Q E s:=by
 cases p with
 | none=>exact slicePart_none h
 | int i t=>exact slicePart_int h
theorem ir {sl:Addr} {vl vu:Value} {lo hi:Option Int} {n:Nat} {Q:Int × Int × Nat → Shared → Prop} (hs:s.heap.IsSliceOf sl vl vu .none) (pl:IsPart vl lo) (pu:IsPart vu hi)
  (h:Q (((dE n 0 lo:Nat):Int),1,dE n n hi - dE n 0 lo) s):wpAny (model prog w) A (Builtin.Slice.sliceApplied (.ref sl) (pure (n:Int))) Q E s:=by
 obtain ⟨os,hos,hcs,hds⟩:=id hs
 unfold Builtin.Slice.sliceApplied Builtin.Slice.sliceFields
 refine wpAny_bind (wpAny_bind (wpAny_field hos hds (x:=vl) rfl (wpAny_bind (wpAny_field hos hds (x:=vu) rfl (wpAny_bind (wpAny_field hos hds (x:=.none) rfl (wpAny_pure ?_)))))))
 refine wpAny_bind (slicePart_none ?_)
 show wpAny _ _ (if ((1:Int) == 0) = true then _ else _) _ _ s
 rw [if_neg (by decide)]
 refine wpAny_bind (kz pl (wpAny_bind (kz pu (wpAny_bind (wpAny_pure ?_)))))
 show wpAny _ _ (match Builtin.Slice.sliceAdjust lo hi 1 (n:Int) with | (lo,hi)=>pure (lo,(1:Int),Builtin.Slice.slicePlaces lo hi 1)) _ _ s
 rw [qe lo hi n]
 show wpAny _ _ (pure (((dE n 0 lo:Nat):Int),(1:Int),Builtin.Slice.slicePlaces ((dE n 0 lo:Nat):Int) ((dE n n hi:Nat):Int) 1)) _ _ s
 rw [rA]
 exact wpAny_pure h
theorem uo (xs:Array Value) (i k:Nat):((List.range k).filterMap fun (m:Nat)=>xs[((i:Int) + (m:Int) * 1).toNat]?).toArray = ((xs.toList.drop i).take k).toArray:=by
 have e:(fun (m:Nat)=>xs[((i:Int) + (m:Int) * 1).toNat]?) = fun m=>xs[i + m]?:=by
  funext m
  have:((i:Int) + (m:Int) * 1).toNat = i + m:=by omega
  rw [this]
 rw [e]
 have:=pick_run xs i k
 rw [List.filterMap_map] at this
 have e2:((fun x=>xs[x]?) ∘ fun x=>i + x) = fun m=>xs[i + m]?:=rfl
 rw [e2] at this
 rw [this]
theorem i5 {t sl:Addr} {items:Array Value} {vl vu:Value} {lo hi:Option Int} {Q:Value → Shared → Prop} (ht:IsTup s.heap t items) (hs:s.heap.IsSliceOf sl vl vu .none) (pl:IsPart vl lo) (pu:IsPart vu hi)
  (hw:¬ (dE items.size 0 lo = 0 ∧ dE items.size items.size hi = items.size))
  (h:Q (.ref s.heap.objs.size) { s with heap:=s.heap.push { cls:=.type "tuple",data:=.seq ((items.toList.drop (dE items.size 0 lo)).take (dE items.size items.size hi - dE items.size 0 lo)).toArray } })
  (hsz:items.size ≤ sizeLine):wpAny (model prog w) A (getItem (.ref t) (.ref sl)) Q E s:=by
 have htake:sizeOk (.seq ((items.toList.drop (dE items.size 0 lo)).take (dE items.size items.size hi - dE items.size 0 lo)).toArray):=by
  show ((items.toList.drop (dE items.size 0 lo)).take (dE items.size items.size hi - dE items.size 0 lo)).toArray.size ≤ sizeLine
  rw [List.size_toArray,List.length_take,List.length_drop,Array.length_toList]
  omega
 have hj:dE items.size items.size hi ≤ items.size:=yK _ _ (Nat.le_refl _) hi
 obtain ⟨os,hos,hcs,hds⟩:=id hs
 have hTs:s.TypeIs (.ref sl) "slice" := ⟨os,hos,hcs⟩
 unfold getItem
 try with_reducible refine wpAny_holding ?_
 first | refine wpAny_bind (wpAny_pure ?_) | skip
 refine wpAny_bind (wpAny_sequenceKey ht.typeIs (by decide) ?_)
 refine wpAny_bind (wpAny_callSpecial?_slot (name:=Str.ofString "__getitem__") ht.typeIs PyProof.Rows.slot_tuple_getitem
  (wpAny_call_entry PyProof.Rows.slot_tuple_getitem ht.typeIs entry_tuple_getitem ?_ (args_tuple_getitem _ _)))
 show wpAny _ _ (Builtin.Tuple.tupleItemsOf (.ref t) >>= _) _ _ s
 refine wpAny_bind (tupleItemsOf_ ht ?_)
 refine wpAny_bind (wpAny_typeOf hTs ?_)
 rw [if_pos (by decide)]
 refine wpAny_bind (ir hs pl pu ?_)
 have hno:¬ ((((dE items.size 0 lo:Nat):Int) == 0 && (1:Int) == 1 && (dE items.size items.size hi - dE items.size 0 lo) == items.size) = true):=by
  intro q
  rw [Bool.and_eq_true,Bool.and_eq_true] at q
  have q1:((dE items.size 0 lo:Nat):Int) = 0:=eq_of_beq q.1.1
  have q2:dE items.size items.size hi - dE items.size 0 lo = items.size:=eq_of_beq q.2
  exact hw ⟨by omega,by omega⟩
 show wpAny _ _ (if (((dE items.size 0 lo:Nat):Int) == 0 && (1:Int) == 1 && (dE items.size items.size hi - dE items.size 0 lo) == items.size) = true then _ else _) _ _ s
 rw [if_neg hno,uo]
 first
  | exact wpAny_bind (m:=Builtin.Tuple.tupleExact _) (wpAny_newObj_type (wpAny_pure ⟨_,rfl,wpAny_pure h⟩) htake)
  | exact wpAny_bind (m:=Builtin.Tuple.tupleExact _) (wpAny_newObj_type (wpAny_bind (wpAny_pure (wpAny_pure ⟨_,rfl,wpAny_pure h⟩))) htake)
  | exact wpAny_bind (wpAny_bind (m:=Builtin.Tuple.tupleExact _) (wpAny_newObj_type (wpAny_pure (wpAny_pure ⟨_,rfl,wpAny_pure h⟩)) htake))
  | exact wpAny_bind (wpAny_bind (m:=Builtin.Tuple.tupleExact _) (wpAny_newObj_type (wpAny_pure ⟨_,rfl,wpAny_pure h⟩) htake))
end
end HT
namespace L2
open PySem PySem.Spec PyProof.Rows
abbrev TO:=St → Hp → (Option Int → Hp → Prop) → Prop
@[irreducible] def PO (X:Cx) (e:Option Expr) (t:TO):Prop :=
 ∀ (pins:List (Addr × Obj)) (s:Shared) (σ:St) (H:Hp) (Q:Option Int → Hp → Prop),Inv X pins σ H s → t σ H Q →
  wpAny (model X.prog X.w) X.A (evalPart e X.env) (fun u s'=>∃ o H',Inv X pins σ H' s' ∧ IsPart u o ∧ Q o H') X.xe s
def w4:TO:=fun _ H Q=>Q none H
def A0 (t:TE):TO:=fun σ H Q=>t σ H fun x H1=>∃ i,x = .int i ∧ Q (some i) H1
theorem intsAre_of {ns:List Int}:∀ {us:List Value},Vals (ns.map V.int) us → IntsAre us ns:=by
 induction ns with
 | nil=>intro us r; rw [List.map_nil] at r; cases r; exact .nil
 | cons n ns ih =>
  intro us r
  rw [List.map_cons] at r
  cases r with
  | cons r1 r2 =>
   obtain ⟨t,e⟩:=r1
   subst e
   exact .cons n t (ih r2)
section
variable {X:Cx} {e:Expr} {te:TE} {lo hi:Option Expr} {tl th:TO} {pos p2:Pos}
theorem dM:PO X none w4:=by
 unfold PO at *
 exact by
  intro pins s σ H Q I h
  rw [evalPart_none]
  exact wpAny_pure ⟨none,H,I,.none,h⟩
theorem c9 (h:PE X e te):PO X (some e) (A0 te):=by
 unfold PE at *; unfold PO at *
 exact by
  intro pins s σ H Q I hw
  rw [evalPart_some]
  refine bS (h pins s σ H _ I hw) fun u s1 ⟨x,H1,I1,r1,q1⟩=>?_
  obtain ⟨i,rfl,q⟩:=q1
  obtain ⟨t,rfl⟩:=r1
  exact ⟨some i,H1,I1,.int i t,q⟩
@[irreducible] def v8 (X:Cx) (r:V → Option Int → Option Int → Hp → VK → Prop):Prop :=
 ∀ (pins:List (Addr × Obj)) (s:Shared) (σ:St) (H:Hp) (x:V) (v vl vu:Value) (lo hi:Option Int) (sl:Addr) (Q:VK),Inv X pins σ H s → RelV x v → s.heap.IsSliceOf sl vl vu .none → IsPart vl lo → IsPart vu hi → r x lo hi H Q →
  ∃ T id,typeLookup (.type T) "__getitem__" = pure (some (.builtin id)) ∧ s.TypeIs v T ∧ wpAny (model X.prog X.w) X.A (getItem v (.ref sl)) (EP X pins σ Q) X.xe s
theorem v8.or {r r':V → Option Int → Option Int → Hp → VK → Prop} (h:v8 X r) (h':v8 X r'):v8 X (fun x lo hi H Q=>r x lo hi H Q ∨ r' x lo hi H Q):=by
 unfold v8 at *
 exact by
  intro pins s σ H x v vl vu lo hi sl Q I rx hs pl pu q
  rcases q with q | q
  ·exact h pins s σ H x v vl vu lo hi sl Q I rx hs pl pu q
  ·exact h' pins s σ H x v vl vu lo hi sl Q I rx hs pl pu q
def B5 (r:V → Option Int → Option Int → Hp → VK → Prop) (te:TE) (tl th:TO):TE:=fun σ H Q=>te σ H fun x H1=>tl σ H1 fun l H2=>th σ H2 fun u H3=>r x l u H3 Q
theorem dN {r:V → Option Int → Option Int → Hp → VK → Prop} (hr:v8 X r) (he:PE X e te) (hl:PO X lo tl) (hu:PO X hi th):PE X (.Subscript e (.Slice lo hi none p2) pos) (B5 r te tl th):=by
 unfold PE at *; unfold PO at *; unfold v8 at *
 exact by
  intro pins s σ H Q I h
  refine Subscript_ (bS (he pins s σ H _ I h) fun v s1 ⟨x,H1,I1,r1,q1⟩=>?_)
  refine wpAny_Slice (bS (hl pins s1 σ H1 _ I1 q1) fun vl s2 ⟨l,H2,I2,pl,q2⟩=>bS (hu pins s2 σ H2 _ I2 q2) fun vu s3 ⟨u,H3,I3,pu,q3⟩=>?_)
  rw [evalPart_none]
  refine wpAny_pure ?_
  have I4:Inv X pins σ H3 { s3 with heap:=s3.heap.push { cls:=.type "slice",data:=.fields #[vl,vu,.none] } }:=I3.kept (t':=s3.toks) fun b ob q=>Heap.get?_push_of_some _ q
  obtain ⟨T,id,hT,ht,hg⟩:=hr pins { s3 with heap:=s3.heap.push { cls:=.type "slice",data:=.fields #[vl,vu,.none] } } σ H3 x v vl vu l u s3.heap.objs.size Q I4 r1 (Heap.IsSliceOf.new ..) pl pu q3
  show wpAny (model X.prog X.w) X.A (subscriptTail e (.Slice lo hi none p2) v (.ref s3.heap.objs.size)) (EP X pins σ Q) X.xe { s3 with heap:=s3.heap.push { cls:=.type "slice",data:=.fields #[vl,vu,.none] } }
  exact tail_any (ops:=[.ref s3.heap.objs.size,v]) ht hT hg (by with_unfolding_all rfl)
def fZ (xs:List V) (lo hi:Option Int):List V:=(xs.drop (HT.dE xs.length 0 lo)).take (HT.dE xs.length xs.length hi - HT.dE xs.length 0 lo)
theorem j8 (xs:List V) (lo hi:Option Int):(fZ xs lo hi).length ≤ xs.length:=by
 unfold fZ
 rw [List.length_take,List.length_drop]
 omega
def Ax (K:PySem.W.Frag):V → Option Int → Option Int → Hp → VK → Prop:=fun x lo hi H Q=>∃ a xs,x = .ref a ∧ bp K H a xs ∧
 ¬ (HT.dE xs.length 0 lo = 0 ∧ HT.dE xs.length xs.length hi = xs.length) ∧ ∀ p,H p = none → Q (.ref p) (upd H p (.tup (fZ xs lo hi)))
theorem qh:v8 X (Ax X.K):=by
 unfold v8 at *
 exact by
  intro pins s σ H x v vl vu lo hi sl Q I rx hs pl pu h
  obtain ⟨a,xs,rfl,hx,hw,q⟩:=h
  cases rx
  obtain ⟨au,r,ht,hz⟩:=I.tuple hx
  have hlen:au.toArray.size = xs.length:=by rw [List.size_toArray]; exact r.length.symm
  refine ⟨"tuple",_,PyProof.Rows.slot_tuple_getitem.lookup,ht.typeIs,?_⟩
  refine HT.i5 ht hs pl pu (by rw [hlen]; exact hw) ?_ (by rw [hlen]; exact hz)
  rw [hlen]
  refine ⟨.ref s.heap.objs.size,_,I.laid (t':=s.toks) (o:=.tup (fZ xs lo hi)) (fun b ob q=>Heap.get?_push_of_some _ q) (Nat.le_refl _) ?_,rfl,q _ (I.hok.fresh (Nat.le_refl _))⟩
  exact ⟨Nat.le_trans (j8 xs lo hi) hz,_,(r.drop (HT.dE xs.length 0 lo)).take (HT.dE xs.length xs.length hi - HT.dE xs.length 0 lo),IsTup.new _ _⟩
def Ay (K:PySem.W.Frag):R2:=fun x y H Q=>∃ a b ns ms,x = .ref a ∧ y = .ref b ∧ bp K H a (ns.map V.int) ∧ bp K H b (ms.map V.int) ∧ Q (.bl (HT.lexLt ns ms)) H
theorem yz (hu:X.A.units < cLine):c8 X (compareOp .Lt) (Ay X.K):=by
 unfold c8 at *
 exact by
  intro pins s σ H x y v u Q I rx ry h
  obtain ⟨a,b,ns,ms,rfl,rfl,ha,hb,q⟩:=h
  cases rx
  cases ry
  obtain ⟨au,r1,p1,_⟩:=I.tuple ha
  obtain ⟨its2,r2,p2,_⟩:=I.tuple hb
  have i1:IntsAre au.toArray.toList ns:=intsAre_of r1
  have i2:IntsAre its2.toArray.toList ms:=intsAre_of r2
  exact HT.rC p1 p2 i1 i2 hu ⟨.bl (HT.lexLt ns ms),H,I,rfl,q⟩
def AK (K:PySem.W.Frag):R2:=fun x y H Q=>∃ a b xs ys,x = .ref a ∧ y = .ref b ∧ bp K H a xs ∧ bp K H b ys ∧ xs ≠ [] ∧ xs.length + ys.length ≤ sizeLine ∧
 (ys = [] → Q (.ref a) H) ∧ (ys ≠ [] → ∀ p,H p = none → Q (.ref p) (upd H p (.tup (xs ++ ys))))
theorem Vals.jy {xs:List V} {us:List Value} (r:Vals xs us):us = [] ↔ xs = []:=by
 cases r with
 | nil=>simp
 | cons _ _=>simp
theorem xQ:c8 X (binaryOp .Add) (AK X.K):=by
 unfold c8 at *
 exact by
  intro pins s σ H x y v u Q I rx ry h
  obtain ⟨a,b,xs,ys,rfl,rfl,ha,hb,hx,hz,q1,q2⟩:=h
  cases rx
  cases ry
  obtain ⟨au,r1,p1,_⟩:=I.tuple ha
  obtain ⟨its2,r2,p2,_⟩:=I.tuple hb
  refine HT.xR p1 p2 (fun z=>hx (r1.jy.mp z)) (fun z=>⟨.ref a,H,I,rfl,q1 (r2.jy.mp z)⟩) (fun z=>?_) (by rw [← r1.length,← r2.length]; exact hz)
  refine ⟨.ref s.heap.objs.size,_,I.laid (t':=s.toks) (o:=.tup (xs ++ ys)) (fun b ob q=>Heap.get?_push_of_some _ q) (Nat.le_refl _) ?_,rfl,q2 (fun w=>z (r2.jy.mpr w)) _ (I.hok.fresh (Nat.le_refl _))⟩
  exact ⟨by rw [List.length_append]; exact hz,_,r1.append r2,IsTup.new _ _⟩
end
end L2
namespace L2
open PySem PySem.Spec PyProof.Rows
def vw (n:Nat) (i:Int):Option Nat:=if 0 ≤ i then (if i < n then some i.toNat else none) else if -(n:Int) ≤ i then some (i + n).toNat else none
def eW {α:Type} (xs:List α) (i:Int):Option α:=(vw xs.length i).bind fun j=>xs[j]?
theorem wj {n:Nat} {i:Int} {j:Nat} (h:vw n i = some j):seqIndex? i n = some j ∧ j < n ∧ -(n:Int) ≤ i ∧ i < n:=by
 unfold vw at h
 by_cases h0:0 ≤ i
 ·rw [if_pos h0] at h
  by_cases h1:i < n
  ·rw [if_pos h1] at h
   have e:i.toNat = j:=Option.some.inj h
   exact ⟨by rw [seqIndex_of h0 h1,e],by omega,by omega,h1⟩
  ·rw [if_neg h1] at h; cases h
 ·rw [if_neg h0] at h
  by_cases h1:-(n:Int) ≤ i
  ·rw [if_pos h1] at h
   have e:(i + n).toNat = j:=Option.some.inj h
   exact ⟨by rw [seqIndex_neg (by omega) h1,e],by omega,h1,by omega⟩
  ·rw [if_neg h1] at h; cases h
theorem nQ {α:Type} {xs:List α} {i:Int} {v:α} (h:eW xs i = some v):∃ j,seqIndex? i xs.length = some j ∧ xs[j]? = some v ∧ j < xs.length ∧ -(xs.length:Int) ≤ i ∧ i < xs.length:=by
 unfold eW at h
 cases e:vw xs.length i with
 | none=>rw [e] at h; cases h
 | some j =>
  rw [e] at h
  obtain ⟨h1,h2,h3,h4⟩:=wj e
  exact ⟨j,h1,h,h2,h3,h4⟩
theorem a9 {α:Type} {xs:List α} {j:Nat} {v:α} (h:xs[j]? = some v):eW xs (j:Int) = some v:=by
 have hj:j < xs.length:=(List.getElem?_eq_some_iff.mp h).1
 have e:vw xs.length (j:Int) = some j:=by
  unfold vw
  rw [if_pos (by omega),if_pos (by omega)]; simp
 unfold eW; rw [e]; exact h
theorem kS {α:Type} (xs:List α) (v:α):eW (xs ++ [v]) (-1) = some v:=by
 have hl:(xs ++ [v]).length = xs.length + 1:=by simp
 have e:vw (xs ++ [v]).length (-1) = some xs.length:=by
  unfold vw
  rw [hl,if_neg (by decide),if_pos (by omega)]
  congr 1
  omega
 unfold eW
 rw [e]
 show (xs ++ [v])[xs.length]? = some v
 simp
def vx (b:Expr):Prop:=∀ o i,subscripted b false o i = operate [o,i] (getItem o i)
@[irreducible] def qq (X:Cx) (r:R2):Prop :=
 ∀ (value slice:Expr) (pins:List (Addr × Obj)) (s:Shared) (σ:St) (H:Hp) (x y:V) (v u:Value) (Q:VK),Inv X pins σ H s → RelV x v → RelV y u → r x y H Q →
  subscripted slice false v u = operate [v,u] (getItem v u) → wpAny (model X.prog X.w) X.A (subscriptTail value slice v u) (EP X pins σ Q) X.xe s
@[irreducible] def vt (X:Cx) (id:String) (r:V → List V → Hp → VK → Prop):Prop :=
 ∀ (pins:List (Addr × Obj)) (s:Shared) (σ:St) (H:Hp) (x:V) (xs:List V) (v:Value) (us:List Value) (Q:VK),Inv X pins σ H s → RelV x v → Vals xs us → r x xs H Q →
  wpAny (model X.prog X.w) X.A (call (.builtin id) (v :: us)) (EP X pins σ Q) X.xe s
section
variable {X:Cx} {a b:Expr} {ta tb:TE} {pos:Pos}
theorem qq.or {r r':R2} (h:qq X r) (h':qq X r'):qq X (fun x y H Q=>r x y H Q ∨ r' x y H Q):=by
 unfold qq at *
 exact by
  intro value slice pins s σ H x y v u Q I rx ry q hs
  rcases q with q | q
  ·exact h value slice pins s σ H x y v u Q I rx ry q hs
  ·exact h' value slice pins s σ H x y v u Q I rx ry q hs
theorem vt.or {id:String} {r r':V → List V → Hp → VK → Prop} (h:vt X id r) (h':vt X id r'):vt X id (fun x xs H Q=>r x xs H Q ∨ r' x xs H Q):=by
 unfold vt at *
 exact by
  intro pins s σ H x xs v us Q I rx rs q
  rcases q with q | q
  ·exact h pins s σ H x xs v us Q I rx rs q
  ·exact h' pins s σ H x xs v us Q I rx rs q
theorem aY {r:R2} (hr:qq X r) (ha:PE X a ta) (hb:PE X b tb) (hs:vx b):PE X (.Subscript a b pos) (A4 r ta tb):=by
 unfold PE; unfold qq at hr
 exact by
  intro pins s σ H Q I h
  exact Subscript_ (yQ ha hb I h fun v u s2 x y H2 I2 rx ry q=>hr a b pins s2 σ H2 x y v u Q I2 rx ry q (hs _ _))
def Af (K:PySem.W.Frag):R2:=fun x y H Q=>∃ p xs i v,x = .ref p ∧ y = .int i ∧ ah K H p xs ∧ eW xs i = some v ∧ Q v H
def Ac (K:PySem.W.Frag):R2:=fun x y H Q=>∃ p xs i v,x = .ref p ∧ y = .int i ∧ bp K H p xs ∧ eW xs i = some v ∧ Q v H
def Az:R2:=fun x y H Q=>∃ z i c,x = .str z ∧ y = .int i ∧ z.length ≤ sizeLine ∧ eW z.cps.toList i = some c ∧ Q (.str ⟨#[c]⟩) H
theorem ae:qq X (Af X.K):=by
 unfold qq at *
 exact by
  intro value slice pins s σ H x y v u Q I rx ry h hs
  obtain ⟨p,xs,i,z,rfl,rfl,hq,he,q⟩:=h
  cases rx
  obtain ⟨t,rfl⟩:=ry
  obtain ⟨au,r,pl,hz⟩:=I.list hq
  obtain ⟨j,h1,h2,h3,h4,h5⟩:=nQ he
  obtain ⟨w,ew,rw'⟩:=r.get h2
  have hl:=r.length
  have hn:=iy
  have fin:EP X pins σ Q w s:=⟨z,H,I,rw',q⟩
  by_cases h0:0 ≤ i
  ·have hj:i.toNat = j:=by
    rw [seqIndex_of h0 h5] at h1
    exact Option.some.inj h1
   exact item_listR pl.isList h0 (by omega) (by rw [hj]; simpa using ew) fin hs
  ·have hj:(i + (au.toArray.size:Int)).toNat = j:=by
    rw [seqIndex_neg (by omega) h4] at h1
    rw [List.size_toArray,← hl]
    exact Option.some.inj h1
   exact subscriptTail_builtinR (x:=w) pl.isList.typeIs slot_list_getitem.lookup
    (wpAny_getItem_list_neg (Q:=fun r s'=>r = w ∧ EP X pins σ Q r s') pl.isList (by omega) (by rw [List.size_toArray] <;> omega) (by omega) (by rw [hj]; simpa using ew) ⟨rfl,fin⟩) hs
theorem bC:qq X (Ac X.K):=by
 unfold qq at *
 exact by
  intro value slice pins s σ H x y v u Q I rx ry h hs
  obtain ⟨p,xs,i,z,rfl,rfl,hq,he,q⟩:=h
  cases rx
  obtain ⟨t,rfl⟩:=ry
  obtain ⟨au,r,pl,hz⟩:=I.tuple hq
  obtain ⟨j,h1,h2,h3,h4,h5⟩:=nQ he
  obtain ⟨w,ew,rw'⟩:=r.get h2
  have hl:=r.length
  have hn:=iy
  have fin:EP X pins σ Q w s:=⟨z,H,I,rw',q⟩
  exact subscriptTail_builtinR (x:=w) pl.typeIs slot_tuple_getitem.lookup
   (getItem_tuple (j:=j) (Q:=fun r s'=>r = w ∧ EP X pins σ Q r s') pl (by omega) (by omega) (by rw [List.size_toArray,← hl]; exact h1) (by simpa using ew) ⟨rfl,fin⟩) hs
theorem zR:qq X Az:=by
 unfold qq at *
 exact by
  intro value slice pins s σ H x y v u Q I rx ry h hs
  obtain ⟨z,i,c,rfl,rfl,hz,he,q⟩:=h
  obtain ⟨t,rfl⟩:=rx
  obtain ⟨t',rfl⟩:=ry
  obtain ⟨j,h1,h2,h3,h4,h5⟩:=nQ he
  have hl:z.cps.toList.length = z.length:=by simp [Str.length]
  rw [hl] at h1 h4 h5
  have hn:=iy
  exact tail_any (typeIs_str s z t) slot_str_getitem.lookup (getItem_str (c:=c) (by
   have e1:decide (i < -(2 ^ 63:Int)) = false:=decide_eq_false (by omega)
   have e2:decide (i ≥ 2 ^ 63) = false:=decide_eq_false (by omega)
   rw [e1,e2,Bool.or_false]) (by rw [h1]; simpa using h2) ⟨.str ⟨#[c]⟩,H,I.tok _,⟨_,rfl⟩,q⟩) hs
theorem Inv.lst {pins:List (Addr × Obj)} {σ:St} {H:Hp} {s:Shared} {p:Addr} {xs:List V} (I:Inv X pins σ H s) (h:H p = some (.lst xs)) :
  ∃ (au:List Value) (n:Nat),Vals xs au ∧ s.heap.get? p = some { cls:=.type "list",data:=.seq au.toArray n } ∧ xs.length ≤ sizeLine:=by
 obtain ⟨z,au,n,r,e⟩:=I.hok p _ h
 exact ⟨au,n,r,e,z⟩
theorem nD (lo hi:Option Int) (n:Nat):(sliceBounds lo hi none n).1 = ((HT.dE n 0 lo:Nat):Int) ∧ (sliceBounds lo hi none n).2.1 = ((HT.dE n n hi:Nat):Int) ∧ (sliceBounds lo hi none n).2.2 = 1:=by
 refine ⟨?_,?_,rfl⟩
 ·cases lo with
  | none=>simp [sliceBounds,HT.dE]
  | some i =>
   simp only [sliceBounds,HT.dE,Option.getD_none,show (1:Int) > 0 by decide,if_true]
   by_cases h:i < 0
   ·simp only [h,if_true] <;> omega
   ·simp only [h,if_false] <;> omega
 ·cases hi with
  | none=>simp [sliceBounds,HT.dE]
  | some i =>
   simp only [sliceBounds,HT.dE,Option.getD_none,show (1:Int) > 0 by decide,if_true]
   by_cases h:i < 0
   ·simp only [h,if_true] <;> omega
   ·simp only [h,if_false] <;> omega
theorem l8 (au:List Value) (lo hi:Option Int):slicePick au.toArray lo hi none = ((au.drop (HT.dE au.length 0 lo)).take (HT.dE au.length au.length hi - HT.dE au.length 0 lo)).toArray:=by
 obtain ⟨h1,h2,h3⟩:=nD lo hi au.toArray.size
 unfold slicePick
 rw [h1,h2,h3]
 simp only [sliceRange_one,pick_run,List.size_toArray] <;> rfl
def Ag (K:PySem.W.Frag):V → Option Int → Option Int → Hp → VK → Prop:=fun x lo hi H Q=>∃ a xs,x = .ref a ∧ ah K H a xs ∧ ∀ p,H p = none → Q (.ref p) (upd H p (.lst (fZ xs lo hi)))
theorem gk:v8 X (Ag X.K):=by
 unfold v8 at *
 exact by
  intro pins s σ H x v vl vu lo hi sl Q I rx hs pl pu h
  obtain ⟨a,xs,rfl,hx,q⟩:=h
  cases rx
  obtain ⟨au,r,ht,hz⟩:=I.list hx
  have hlen:=r.length
  refine ⟨"list",_,slot_list_getitem.lookup,ht.isList.typeIs,?_⟩
  refine wpAny_getItem_list_slice ht.isList hs pl pu .none (by simp) ?_ (by rw [List.size_toArray] <;> omega)
  rw [l8,← hlen]
  refine ⟨.ref s.heap.objs.size,_,I.laid (t':=s.toks) (o:=.lst (fZ xs lo hi)) (fun b ob q=>Heap.get?_push_of_some _ q) (Nat.le_refl _) ?_,rfl,q _ (I.hok.fresh (Nat.le_refl _))⟩
  exact ⟨Nat.le_trans (j8 xs lo hi) hz,_,0,(r.drop (HT.dE xs.length 0 lo)).take (HT.dE xs.length xs.length hi - HT.dE xs.length 0 lo),Heap.get?_push_size _ rfl⟩
def b5:V → Bool
 | .bI=>true
 | .bl _=>true
 | .int _=>true
 | .str _=>true
 | _=>false
def f9:V → V → Bool
 | .bI,.bI=>true
 | .bl a,.bl b=>a == b
 | .bl a,.int b=>(if a then 1 else 0) == b
 | .int a,.bl b=>a == (if b then 1 else 0)
 | .int a,.int b=>a == b
 | .str a,.str b=>a == b
 | _,_=>false
theorem my {A:Around} {s:Shared} {y x:V} {u v:Value} (ry:RelV y u) (rx:RelV x v) (fy:b5 y = true) (fx:b5 x = true):SeqAt.EqAt A s u v (f9 y x):=by
 cases y with
 | bI =>
  cases ry
  cases x with
  | bI=>cases rx; exact SeqAt.EqAt.same _
  | bl b=>cases rx; exact SeqAt.EqAt.none_bool b
  | int b=>obtain ⟨t,rfl⟩:=rx; exact SeqAt.EqAt.none_int b t
  | str b=>obtain ⟨t,rfl⟩:=rx; exact SeqAt.EqAt.none_str b t
  | _=>exact absurd (show false = true from fx) Bool.false_ne_true
 | bl a =>
  cases ry
  cases x with
  | bI=>cases rx; exact SeqAt.EqAt.bool_none a
  | bl b=>cases rx; exact SeqAt.EqAt.bool_bool a b
  | int b=>obtain ⟨t,rfl⟩:=rx; exact SeqAt.EqAt.bool_int a b t
  | str b=>obtain ⟨t,rfl⟩:=rx; exact SeqAt.EqAt.bool_str a b t
  | _=>exact absurd (show false = true from fx) Bool.false_ne_true
 | int a =>
  obtain ⟨t',rfl⟩:=ry
  cases x with
  | bI=>cases rx; exact SeqAt.EqAt.int_none a t'
  | bl b=>cases rx; exact SeqAt.EqAt.int_bool a t' b
  | int b=>obtain ⟨t,rfl⟩:=rx; exact SeqAt.EqAt.int_int a t' b t
  | str b=>obtain ⟨t,rfl⟩:=rx; exact SeqAt.EqAt.int_str a t' b t
  | _=>exact absurd (show false = true from fx) Bool.false_ne_true
 | str a =>
  obtain ⟨t',rfl⟩:=ry
  cases x with
  | bI=>cases rx; exact SeqAt.EqAt.str_none a t'
  | bl b=>cases rx; exact SeqAt.EqAt.str_bool a t' b
  | int b=>obtain ⟨t,rfl⟩:=rx; exact SeqAt.EqAt.str_int a t' b t
  | str b=>obtain ⟨t,rfl⟩:=rx; exact SeqAt.EqAt.str_str a t' b t
  | _=>exact absurd (show false = true from fx) Bool.false_ne_true
 | _=>exact absurd (show false = true from fy) Bool.false_ne_true
def xA (x:V) (u:Value):Bool:=match u with
 | .none=>f9 .bI x
 | .bool b=>f9 (.bl b) x
 | .int i _=>f9 (.int i) x
 | .str z _=>f9 (.str z) x
 | _=>false
theorem vo {x y:V} {u:Value} (r:RelV y u) (f:b5 y = true):xA x u = f9 y x:=by
 cases y with
 | bI=>cases r; rfl
 | bl b=>cases r; rfl
 | int i=>obtain ⟨t,rfl⟩:=r; rfl
 | str z=>obtain ⟨t,rfl⟩:=r; rfl
 | _=>exact absurd (show false = true from f) Bool.false_ne_true
theorem nA {x:V}:∀ {xs:List V} {us:List Value},Vals xs us → xs.all b5 = true → us.any (xA x) = xs.any fun y=>f9 y x
 | _,_,.nil,_=>rfl
 | y :: xs,u :: us,.cons r t,f=>by
  rw [List.all_cons,Bool.and_eq_true] at f
  rw [List.any_cons,List.any_cons,vo r f.1,nA t f.2]
theorem kQ {A:Around} {s:Shared} {x:V} {v:Value} (rx:RelV x v) (fx:b5 x = true):∀ {xs:List V} {us:List Value},Vals xs us → xs.all b5 = true → ∀ u ∈ us,SeqAt.EqAt A s u v (xA x u)
 | _,_,.nil,_=>fun u hu=>by cases hu
 | y :: xs,u :: us,.cons r t,f=>fun u' hu=>by
  rw [List.all_cons,Bool.and_eq_true] at f
  rcases List.mem_cons.mp hu with rfl | hu
  ·rw [vo r f.1]; exact my r rx f.1 fx
  ·exact kQ rx fx t f.2 u' hu
def zv (x:V) (xs:List V):Bool:=xs.any fun y=>f9 y x
def B9 (K:PySem.W.Frag) (neg:Bool):R2:=fun x y H Q=>∃ p xs,y = .ref p ∧ (ah K H p xs ∨ bp K H p xs) ∧ b5 x = true ∧ xs.all b5 = true ∧ Q (.bl (if neg then !zv x xs else zv x xs)) H
theorem mV:c8 X (compareOp .In) (B9 X.K false):=by
 unfold c8 at *
 exact by
  intro pins s σ H x y v u Q I rx ry h
  obtain ⟨p,xs,rfl,hq,fx,fs,q⟩:=h
  cases ry
  rcases hq with hq | hq
  ·obtain ⟨au,r,pl,hz⟩:=I.list hq
   refine SeqAt.in_listAt (xA x) pl.isList (fun w hw=>kQ rx fx r fs w (by simpa using hw)) ⟨.bl _,H,I,rfl,?_⟩
   rw [show au.toArray.any (xA x) = au.any (xA x) by simp,nA r fs]
   exact q
  ·obtain ⟨au,r,pl,hz⟩:=I.tuple hq
   refine SeqAt.in_tupleAt (xA x) pl (fun w hw=>kQ rx fx r fs w (by simpa using hw)) ⟨.bl _,H,I,rfl,?_⟩
   rw [show au.toArray.any (xA x) = au.any (xA x) by simp,nA r fs]
   exact q
theorem bG:b6 X (.builtin "len") (fun xs H Q=>∃ p ys,xs = [.ref p] ∧ (ah X.K H p ys ∨ bp X.K H p ys) ∧ Q (.int ys.length) H):=by
 unfold b6 at *
 exact by
  intro pins s σ H xs us Q I r h
  obtain ⟨p,ys,rfl,hq,q⟩:=h
  obtain ⟨u,rfl,rx⟩:=vals1 r
  cases rx
  have hn:=iy
  rcases hq with hq | hq
  ·obtain ⟨au,r',pl,hz⟩:=I.list hq
   have hlen:=r'.length
   exact Calls.call_len_list pl.isList (by simp only [List.size_toArray] <;> omega) ⟨.int ys.length,H,I.tok _,⟨s.toks + 1,by rw [List.size_toArray,hlen]⟩,q⟩
  ·obtain ⟨au,r',pl,hz⟩:=I.tuple hq
   have hlen:=r'.length
   exact len_tuple pl (by simp only [List.size_toArray] <;> omega) ⟨.int ys.length,H,I.tok _,⟨s.toks + 1,by rw [List.size_toArray,hlen]⟩,q⟩
theorem nF:b6 X (.builtin "len") (fun xs H Q=>∃ z,xs = [.str z] ∧ z.length ≤ sizeLine ∧ Q (.int z.length) H):=by
 unfold b6 at *
 exact by
  intro pins s σ H xs us Q I r h
  obtain ⟨z,rfl,hz,q⟩:=h
  obtain ⟨u,rfl,t,rfl⟩:=vals1 r
  have hn:=iy
  exact len_str (by omega) ⟨.int z.length,H,I.tok _,⟨_,rfl⟩,q⟩
theorem b6.or {f:Value} {r r':List V → Hp → VK → Prop} (h:b6 X f r) (h':b6 X f r'):b6 X f (fun xs H Q=>r xs H Q ∨ r' xs H Q):=by
 unfold b6 at *
 exact by
  intro pins s σ H xs us Q I rs q
  rcases q with q | q
  ·exact h pins s σ H xs us Q I rs q
  ·exact h' pins s σ H xs us Q I rs q
theorem mw:b6 X (.type "list") (fun xs H Q=>∃ p ys,xs = [.ref p] ∧ (ah X.K H p ys ∨ bp X.K H p ys) ∧ ∀ l,H l = none → Q (.ref l) (upd H l (.lst ys))):=by
 unfold b6 at *
 exact by
  intro pins s σ H xs us Q I r h
  obtain ⟨p,ys,rfl,hq,q⟩:=h
  obtain ⟨u,rfl,rx⟩:=vals1 r
  cases rx
  have fin:∀ (au:List Value),Vals ys au → ys.length ≤ sizeLine → ∀ (h':Heap) (c':Nat),(∀ b o',s.heap.get? b = some o' → h'.get? b = some o') →
    h'.get? s.heap.objs.size = some { cls:=.type "list",dict:=none,data:=.seq au.toArray c',slots:=#[] } → EP X pins σ Q (.ref s.heap.objs.size) { s with heap:=h' }:=fun au r' hz h' c' kp e =>
   ⟨.ref s.heap.objs.size,_,I.laid (t':=s.toks) kp (Nat.le_refl _) (show bQ X.prog X.w _ h' _ (.lst ys) from ⟨hz,au,c',r',e⟩),rfl,q _ (I.hok.fresh (Nat.le_refl _))⟩
  rcases hq with hq | hq
  ·obtain ⟨au,r',pl,hz⟩:=I.list hq
   have hlen:=r'.length
   obtain ⟨o,ho,hc,n,hd⟩:=pl.isList
   exact call_list_seq p (.inl rfl) ho hc hd (fun h' c' kp e=>fin au r' hz h' c' kp e) (by simp only [List.size_toArray] <;> omega)
  ·obtain ⟨au,r',pl,hz⟩:=I.tuple hq
   have hlen:=r'.length
   obtain ⟨o,ho,hc,n,hd⟩:=pl
   exact call_list_seq p (.inr rfl) ho hc hd (fun h' c' kp e=>fin au r' hz h' c' kp e) (by simp only [List.size_toArray] <;> omega)
def BZ (K:PySem.W.Frag) (T:String) (x:V) (H:Hp):Prop:=match x with
 | .str _=>T = "str"
 | .int _=>T = "int"
 | .ref p=>(T = "list" ∧ ∃ xs,ah K H p xs) ∨ (T = "tuple" ∧ ∃ o,K.lookup p = some o ∧ o.cls = .type "tuple" ∧ o.dict = none) ∨
   (T = "dict" ∧ ((∃ kvs,H p = some (.dK kvs)) ∨ ∃ kvs,H p = some (.dT kvs))) ∨ (T = "set" ∧ ∃ S n,H p = some (.set S n))
 | _=>False
theorem xy {pins:List (Addr × Obj)} {σ:St} {H:Hp} {s:Shared} {T:String} {x:V} {v:Value} (I:Inv X pins σ H s) (r:RelV x v) (ty:BZ X.K T x H) :
  s.TypeIs v T ∧ ∀ a,v = .ref a → ∃ ob,s.heap.get? a = some ob ∧ ob.dict = none:=by
 cases x with
 | str z =>
  obtain ⟨t,rfl⟩:=r
  cases (show T = "str" from ty)
  exact ⟨typeIs_str s z t,fun _ e=>nomatch e⟩
 | int i =>
  obtain ⟨t,rfl⟩:=r
  cases (show T = "int" from ty)
  exact ⟨typeIs_int s i t,fun _ e=>nomatch e⟩
 | ref p =>
  cases r
  rcases ty with ⟨rfl,xs,hq⟩ | ⟨rfl,o,hk,hc,hd⟩ | ⟨rfl,hk⟩ | ⟨rfl,S,n,hk⟩
  ·obtain ⟨au,_,pl,_⟩:=I.list hq
   refine ⟨pl.isList.typeIs,fun a e=>?_⟩
   cases e
   obtain ⟨o,n,e,c,hd,_⟩:=pl
   exact ⟨o,e,hd⟩
  ·refine ⟨⟨o,I.du p o hk,hc⟩,fun a e=>?_⟩
   cases e
   exact ⟨o,I.du _ o hk,hd⟩
  ·have z:∃ o,s.heap.get? p = some o ∧ o.ExactDict:=by
    rcases hk with ⟨kvs,hk⟩ | ⟨kvs,hk⟩
    ·obtain ⟨_,_,_,_,o,_,_,e,ex,_⟩:=I.hok p _ hk
     exact ⟨o,e,ex⟩
    ·obtain ⟨_,_,_,_,o,_,_,e,ex,_⟩:=I.hok p _ hk
     exact ⟨o,e,ex⟩
   obtain ⟨o,e,ex⟩:=z
   refine ⟨⟨o,e,ex.1⟩,fun a e2=>?_⟩
   cases e2
   exact ⟨o,e,ex.2.1⟩
  ·obtain ⟨o,_,_,_,e,ex,_⟩:=I.hok p _ hk
   refine ⟨⟨o,e,ex.1⟩,fun a e2=>?_⟩
   cases e2
   exact ⟨o,e,ex.2.1⟩
 | _=>exact False.elim ty
def B8 (K:PySem.W.Frag) (T:String) (r:V → List V → Hp → VK → Prop) (to:TE) (t:TA):TE:=fun σ H Q=>to σ H fun x H1=>BZ K T x H1 ∧ t σ H1 fun xs H2=>r x xs H2 Q
variable {o e:Expr} {es:List Expr} {to:TE} {t:TA} {name:Str} {apos cpos:Pos} {T id:String} {r:V → List V → Hp → VK → Prop}
theorem m4 (pa:PlainAttrs T) (slot:Slot T name id) (hty:typeOf (.builtin id) = pure (.type "method_descriptor")) (hm:vt X id r) (ho:PE X o to) (ha:PA X (e :: es) t)
  (hbase:attributeBase o name X.env (eval o X.env) = eval o X.env:=by rfl)
  (hfew:((backTo cpos (starEach (e :: es) X.env)).all (fun x=>!x.1) && (backToKw cpos (keywordEach [] X.env)).all (fun x=>x.1.isSome)
   && decide ((e :: es).length + ([]:List Keyword).length + (if ([]:List Keyword).isEmpty then 0 else 1) < 30)) = true:=by rfl)
  (hline:(apos.endLine == cpos.line) = true:=by rfl) (hs:starEach (e :: es) X.env = (false,eval e X.env) :: starEach es X.env:=by rfl) (hplain:(backTo cpos (starEach es X.env)).any (·.1) = false:=by rfl) :
  PE X (.Call (.Attribute o name apos) (e :: es) [] cpos) (B8 X.K T r to t):=by
 unfold PE at *; unfold PA at *; unfold vt at *
 exact by
  intro pins s σ H Q I h
  refine wpAny_Call_method_late hbase hfew hline rfl (bS (ho pins s σ H _ I h) fun v s1 ⟨x,H1,I1,r1,ty,q1⟩=>?_)
  obtain ⟨h1,h2⟩:=xy I1 r1 ty
  refine ⟨T,id,pa,slot,hty,h1,h2,?_⟩
  have hA:=ha cpos pins s1 σ H1 _ I1 q1
  rw [hs] at hA ⊢
  refine Calls.callWith_builtin (by show (false || (backTo cpos (starEach es X.env)).any (·.1)) = false; rw [hplain] <;> rfl) (Calls.evalArgs_plain ?_)
  exact bS hA fun us s2 ⟨vs,H2,I2,r2,q2⟩=>hm pins s2 σ H2 x vs v us Q I2 r1 r2 q2
/- xs.append(e),list.index on a module's tuple .. are vt facts of 06m -/
end
end L2
namespace L2
open PySem PySem.Spec PyProof.Rows
@[irreducible] def t9 (X:Cx) (id:String) (r:V → List V → Hp → VK → Prop):Prop :=
 ∀ (pins:List (Addr × Obj)) (s:Shared) (σ:St) (H:Hp) (x:V) (xs:List V) (v:Value) (us:List Value) (Q:VK),Inv X pins σ H s → RelV x v → Vals xs us → r x xs H Q →
  wpAny (model X.prog X.w) X.A (call (.builtin id) (v :: us)) (EP X pins σ Q) X.xe s
theorem Vals.one:∀ {x:V} {us:List Value},Vals [x] us → ∃ u,us = [u] ∧ RelV x u
 | _,_,.cons r .nil=>⟨_,rfl,r⟩
theorem Vals.two:∀ {x y:V} {us:List Value},Vals [x,y] us → ∃ u v,us = [u,v] ∧ RelV x u ∧ RelV y v
 | _,_,_,.cons r (.cons q .nil)=>⟨_,_,rfl,r,q⟩
theorem Vals.dropLast {xs:List V} {us:List Value} (h:Vals xs us):Vals xs.dropLast us.dropLast:=by
 induction h with
 | nil=>exact .nil
 | cons r t ih =>
  cases t with
  | nil=>exact .nil
  | cons q t'=>exact .cons r ih
theorem Vals.reverse {xs:List V} {us:List Value} (h:Vals xs us):Vals xs.reverse us.reverse:=by
 induction h with
 | nil=>exact .nil
 | cons r t ih=>rw [List.reverse_cons,List.reverse_cons]; exact Vals.append ih (.cons r .nil)
section
variable {X:Cx} {pins:List (Addr × Obj)} {σ:St} {H:Hp} {s:Shared} {l b:Addr} {xs ys zs:List V}
theorem Inv.Ao {au its':List Value} {n:Nat} {f:Array Value → Array Value} {t':Nat} (I:Inv X pins σ H s) (hH:H l = some (.lst xs))
  (e:s.heap.get? l = some { cls:=.type "list",data:=.seq au.toArray n }) (hf:f au.toArray = its'.toArray) (hv:Vals ys its') (hz:ys.length ≤ sizeLine) :
  Inv X pins σ (upd H l (.lst ys)) { s with heap:=s.heap.update l (Obj.mapSeq f),toks:=t' }:=by
 have q:=PySem.IsL.update e f
 rw [hf] at q
 refine I.write (x:=l) (e:=l) (by rw [hH]; exact trivial) (.inl rfl) (fun b' u hb hu=>(Heap.get?_update_other s.heap (Obj.mapSeq f) (Ne.symm hb)).trans hu) ⟨_,q⟩ ?_
 exact ⟨hz,its',_,hv,q⟩
theorem Inv.zx {au:List Value} {t':Nat} (I:Inv X pins σ H s) (hv:Vals ys au) (hz:ys.length ≤ sizeLine) :
  Inv X pins σ (upd H s.heap.objs.size (.lst ys)) { s with heap:=s.heap.push { cls:=.type "list",data:=.seq au.toArray },toks:=t' } :=
 I.laid (fun _ _ q=>Heap.get?_push_of_some _ q) (Nat.le_refl _) ⟨hz,au,0,hv,Heap.get?_push_size _ rfl⟩
theorem Inv.fresh (I:Inv X pins σ H s):H s.heap.objs.size = none:=I.hok.fresh (Nat.le_refl _)
theorem Inv.yq (I:Inv X pins σ H s) (hH:H l = some (.lst xs)):xs.length ≤ sizeLine ∧ ∃ (au:List Value) (n:Nat),Vals xs au ∧ xs.length = au.length ∧ s.heap.get? l = some { cls:=.type "list",data:=.seq au.toArray n }:=by
 obtain ⟨z,au,n,r,e⟩:=I.hok l _ hH
 exact ⟨z,au,n,r,r.length,e⟩
end
section
variable {X:Cx}
def wN:V → List V → Hp → VK → Prop:=fun x vs H Q=>∃ l xs y,x = .ref l ∧ vs = [y] ∧ H l = some (.lst xs) ∧ xs.length < sizeLine ∧ Q .bI (upd H l (.lst (xs ++ [y])))
theorem dW:t9 X "list.append" wN:=by
 unfold t9 at *
 exact by
  intro pins s σ H x vs v us Q I rx rv h
  obtain ⟨l,xs,y,rfl,rfl,hH,hz,q⟩:=h
  cases rx
  obtain ⟨u,rfl,ru⟩:=rv.one
  obtain ⟨z,au,n,r,hl,e⟩:=I.yq hH
  refine call_meets F.slot_list_append ⟨_,e,rfl⟩ F.entry_list_append (F.args_list_append_2 _ _) (PySem.list_append l au.toArray n u (by rw [List.size_toArray]; omega)) ⟨e,?_⟩
  refine ⟨.bI,_,I.Ao (its':=au ++ [u]) hH e (by simp) (r.append (.cons ru .nil)) ?_,rfl,q⟩
  rw [List.length_append,List.length_singleton]
  omega
def Au:R2:=fun x y H Q=>∃ l b xs zs,x = .ref l ∧ y = .ref b ∧ H l = some (.lst xs) ∧ H b = some (.lst zs) ∧ xs.length + zs.length ≤ sizeLine ∧ ∀ p,H p = none → Q (.ref p) (upd H p (.lst (xs ++ zs)))
theorem nj:c8 X (binaryOp .Add) Au:=by
 unfold c8 at *
 exact by
  intro pins s σ H x y v u Q I rx ry h
  obtain ⟨l,b,xs,zs,rfl,rfl,hH,hB,hz,q⟩:=h
  cases rx
  cases ry
  obtain ⟨z,au,n,r,hl,e⟩:=I.yq hH
  obtain ⟨z2,its2,n2,r2,hl2,e2⟩:=I.yq hB
  refine PySem.P.add_list e e2 ?_ (by rw [List.size_toArray,List.size_toArray]; omega)
  have ea:au.toArray ++ its2.toArray = (au ++ its2).toArray:=by simp
  rw [ea]
  exact ⟨.ref _,_,I.zx (t':=s.toks) (r.append r2) (by rw [List.length_append]; omega),rfl,q _ I.fresh⟩
end
section
variable {prog:Program} {w:World} {A:Around} {E:Value → Shared → Prop} {s:Shared}
set_option maxRecDepth 100000 in
end
section
variable {X:Cx}
end
end L2
namespace L2
open PySem PySem.Spec PyProof.Rows
section
variable {κ:Type} [DecidableEq κ]
def bF (kvs:List (κ × V)) (k:κ):Option V:=(kvs.find? fun kv=>decide (kv.1 = k)).map (·.2)
def putK (kvs:List (κ × V)) (k:κ) (v:V):List (κ × V) :=
 if (kvs.any fun kv=>decide (kv.1 = k)) = true then kvs.map (fun kv=>if kv.1 = k then (kv.1,v) else kv) else kvs ++ [(k,v)]
def xt (kvs:List (κ × V)) (k:κ):List (κ × V):=kvs.filter fun kv=>decide (kv.1 ≠ k)
theorem bN {p:κ × V} {r:List (κ × V)} {k:κ} (e:p.1 = k):bF (p :: r) k = some p.2:=by simp [bF,List.find?_cons,e]
theorem bA {p:κ × V} {r:List (κ × V)} {k:κ} (e:¬ p.1 = k):bF (p :: r) k = bF r k:=by simp [bF,List.find?_cons,e]
theorem eT (k:κ):∀ kvs:List (κ × V),(kvs.any fun kv=>decide (kv.1 = k)) = (bF kvs k).isSome
 | []=>rfl
 | p :: r=>by
  rw [List.any_cons]
  by_cases e:p.1 = k
  ·simp only [bN e,decide_eq_true e,Bool.true_or,Option.isSome_some]
  ·rw [bA e,decide_eq_false e,Bool.false_or]; exact eT k r
theorem oq (k j:κ) (y:V):∀ kvs:List (κ × V),bF (kvs.map fun kv=>if kv.1 = k then (kv.1,y) else kv) j = (bF kvs j).map fun x=>if j = k then y else x
 | []=>rfl
 | p :: r=>by
  have ih:=oq k j y r
  rw [List.map_cons]
  by_cases h:p.1 = k
  ·rw [if_pos h]
   by_cases e:p.1 = j
   ·rw [bN (p:=(p.1,y)) e,bN e,Option.map_some,if_pos (e.symm.trans h)]
   ·rw [bA (p:=(p.1,y)) e,bA e,ih]
  ·rw [if_neg h]
   by_cases e:p.1 = j
   ·rw [bN (p:=p) e,bN e,Option.map_some,if_neg (fun z=>h (e.trans z))]
   ·rw [bA (p:=p) e,bA e,ih]
theorem mB (k j:κ) (y:V):∀ kvs:List (κ × V),bF kvs k = none → bF (kvs ++ [(k,y)]) j = if j = k then some y else bF kvs j
 | [],_=>by
  by_cases e:k = j
  ·rw [if_pos e.symm]; exact bN (p:=(k,y)) e
  ·rw [if_neg (fun z=>e z.symm)]; exact bA (p:=(k,y)) e
 | p :: r,hn=>by
  rw [List.cons_append]
  have hk:¬ p.1 = k:=fun z=>by rw [bN z] at hn; cases hn
  rw [bA hk] at hn
  have ih:=mB k j y r hn
  by_cases e:p.1 = j
  ·rw [bN e,bN e,if_neg (fun z=>hk (e.trans z))]
  ·rw [bA e,bA e,ih]
theorem pS (kvs:List (κ × V)) (k j:κ) (y:V):bF (putK kvs k y) j = if j = k then some y else bF kvs j:=by
 unfold putK
 by_cases a:(kvs.any fun kv=>decide (kv.1 = k)) = true
 ·rw [if_pos a,oq]
  rw [eT] at a
  by_cases e:j = k
  ·obtain ⟨x,hx⟩:=Option.isSome_iff_exists.mp a
   rw [if_pos e,e,hx,Option.map_some,if_pos rfl]
  ·rw [if_neg e]
   cases bF kvs j with
   | none=>rfl
   | some x=>rw [Option.map_some,if_neg e]
 ·rw [if_neg a]
  refine mB k j y kvs ?_
  rw [eT] at a
  cases q:bF kvs k with
  | none=>rfl
  | some x=>rw [q] at a; exact (a rfl).elim
theorem jZ (kvs:List (κ × V)) (k:κ) (v:V):(putK kvs k v).length ≤ kvs.length + 1:=by
 unfold putK
 split
 ·rw [List.length_map]; omega
 ·rw [List.length_append,List.length_cons,List.length_nil]; omega
theorem df {kvs:List (κ × V)} {k:κ} (v:V) (h:bF kvs k = none):putK kvs k v = kvs ++ [(k,v)]:=by
 unfold putK
 rw [eT,h]
 exact if_neg (by decide)
theorem eY.jH {o:Option V} {u:Option Value} (r:eY o u):o.isSome = u.isSome:=by
 cases o with
 | none=>cases u with
  | none=>rfl
  | some _=>exact (show False from r).elim
 | some _=>cases u with
  | none=>exact (show False from r).elim
  | some _=>rfl
theorem eY.getD {o:Option V} {u:Option Value} {d:V} {d':Value} (r:eY o u) (rd:RelV d d'):RelV (o.getD d) (u.getD d'):=by
 cases o with
 | none=>cases u with
  | none=>exact rd
  | some _=>exact (show False from r).elim
 | some _=>cases u with
  | none=>exact (show False from r).elim
  | some _=>exact r
theorem KV.val {kvs:List (κ × V)} {vs:List (κ × Value)} (r:KV kvs vs) (k:κ):eY (bF kvs k) (valueAt vs k):=by
 unfold KV at r
 induction r with
 | nil=>exact True.intro
 | @cons p q ps qs h t ih =>
  obtain ⟨h1,h2⟩:=h
  by_cases e:p.1 = k
  ·have e':q.1 = k:=h1.symm.trans e
   have b:valueAt (q :: qs) k = some q.2:=by simp [valueAt,List.find?_cons,e']
   rw [bN e,b]; exact h2
  ·have e':¬ q.1 = k:=fun z=>e (h1.trans z)
   have b:valueAt (q :: qs) k = valueAt qs k:=by simp [valueAt,List.find?_cons,e']
   rw [bA e,b]; exact ih
theorem KV.any {kvs:List (κ × V)} {vs:List (κ × Value)} (r:KV kvs vs) (k:κ):(kvs.any fun kv=>decide (kv.1 = k)) = vs.any fun kv=>decide (kv.1 = k):=by
 unfold KV at r
 induction r with
 | nil=>rfl
 | cons h t ih=>rw [List.any_cons,List.any_cons,ih,h.1]
theorem KV.yT {kvs:List (κ × V)} {vs:List (κ × Value)} (r:KV kvs vs) (k:κ) {y:V} {u:Value} (ry:RelV y u) :
  KV (kvs.map fun kv=>if kv.1 = k then (kv.1,y) else kv) (vs.map fun kv=>if kv.1 = k then (kv.1,u) else kv):=by
 unfold KV at r ⊢
 induction r with
 | nil=>exact .nil
 | @cons p q ps qs h t ih =>
  rw [List.map_cons,List.map_cons]
  refine .cons ?_ ih
  obtain ⟨h1,h2⟩:=h
  by_cases e:p.1 = k
  ·rw [if_pos e,if_pos (h1.symm.trans e)]; exact ⟨h1,ry⟩
  ·rw [if_neg e,if_neg (fun z=>e (h1.trans z))]; exact ⟨h1,h2⟩
theorem KV.put {kvs:List (κ × V)} {vs:List (κ × Value)} (r:KV kvs vs) (k:κ) {y:V} {u:Value} (ry:RelV y u):KV (putK kvs k y) (stored vs k u):=by
 unfold putK stored
 rw [r.any k]
 by_cases e:(vs.any fun kv=>decide (kv.1 = k)) = true
 ·rw [if_pos e,if_pos e]; exact r.yT k ry
 ·rw [if_neg e,if_neg e]; exact Paired.snoc r ⟨rfl,ry⟩
theorem KV.drop {kvs:List (κ × V)} {vs:List (κ × Value)} (r:KV kvs vs) (k:κ):KV (xt kvs k) (without vs k):=by
 unfold KV at r ⊢
 unfold xt without
 induction r with
 | nil=>exact .nil
 | @cons p q ps qs h t ih =>
  obtain ⟨h1,h2⟩:=h
  rw [List.filter_cons,List.filter_cons]
  by_cases e:p.1 = k
  ·have a:¬ decide (p.1 ≠ k) = true:=by simp [e]
   have b:¬ decide (q.1 ≠ k) = true:=by simp [h1.symm.trans e]
   rw [if_neg a,if_neg b]; exact ih
  ·have e':¬ q.1 = k:=fun z=>e (h1.trans z)
   have a:decide (p.1 ≠ k) = true:=by simp [e]
   have b:decide (q.1 ≠ k) = true:=by simp [e']
   rw [if_pos a,if_pos b]; exact .cons ⟨h1,h2⟩ ih
theorem KV.length {kvs:List (κ × V)} {vs:List (κ × Value)} (r:KV kvs vs):kvs.length = vs.length:=Paired.length r
end
theorem jT {P:Program} {w:World} {k:Key} {u:Value} (r:RelV (kV k) u):(aV P w).is k u = true:=by
 cases k with
 | inl i=>obtain ⟨t,e⟩:=(show ∃ t,u = Value.int i t from r); subst e; exact pZ P w i t
 | inr x=>obtain ⟨t,e⟩:=(show ∃ t,u = Value.str x t from r); subst e; exact oW P w x t
theorem mW {P:Program} {w:World}:∀ {ks:List Key} {us:List Value},Vals (ks.map kV) us → ItemsAre (aV P w) ks us
 | [],_,r=>by rw [List.map_nil] at r; cases r; exact .nil
 | k :: ks,_,r=>by
  rw [List.map_cons] at r
  cases r with
  | cons h t=>exact .cons (jT h) (mW t)
abbrev KT (H:Hp):List (List Key × V) → List (List Key × Addr × Value) → Prop:=Paired fun p q=>p.1 = q.1 ∧ H q.2.1 = some (.tup (p.1.map kV)) ∧ RelV p.2 q.2.2
theorem KT.val {H:Hp} {kvs:List (List Key × V)} {xs:List (List Key × Addr × Value)} (r:KT H kvs xs) (k:List Key):eY (bF kvs k) ((atKey xs k).map (·.2)):=by
 induction r with
 | nil=>exact True.intro
 | @cons p q ps qs h t ih =>
  obtain ⟨h1,_,h2⟩:=h
  by_cases e:p.1 = k
  ·have e':q.1 = k:=h1.symm.trans e
   have b:atKey (q :: qs) k = some q.2:=by simp [atKey,List.find?_cons,e']
   rw [bN e,b]; exact h2
  ·have e':¬ q.1 = k:=fun z=>e (h1.trans z)
   have b:atKey (q :: qs) k = atKey qs k:=by simp [atKey,List.find?_cons,e']
   rw [bA e,b]; exact ih
theorem KT.yT {H:Hp} {kvs:List (List Key × V)} {xs:List (List Key × Addr × Value)} (r:KT H kvs xs) (k:List Key) {y:V} {u:Value} (ry:RelV y u) :
  KT H (kvs.map fun kv=>if kv.1 = k then (kv.1,y) else kv) (xs.map (putAt k u)):=by
 induction r with
 | nil=>exact .nil
 | @cons p q ps qs h t ih =>
  rw [List.map_cons,List.map_cons]
  refine .cons ?_ ih
  obtain ⟨h1,h2,h3⟩:=h
  unfold putAt
  by_cases e:p.1 = k
  ·rw [if_pos e,if_pos (h1.symm.trans e)]; exact ⟨h1,h2,ry⟩
  ·rw [if_neg e,if_neg (fun z=>e (h1.trans z))]; exact ⟨h1,h2,h3⟩
theorem KT.put {H:Hp} {kvs:List (List Key × V)} {xs:List (List Key × Addr × Value)} (r:KT H kvs xs) (k:List Key) {b:Addr} {y:V} {u:Value} (hb:H b = some (.tup (k.map kV))) (ry:RelV y u) :
  KT H (putK kvs k y) (storedH xs k b u):=by
 have e:(kvs.any fun kv=>decide (kv.1 = k)) = (atKey xs k).isSome:=by
  rw [eT,(r.val k).jH,Option.isSome_map]
 unfold putK storedH
 rw [e]
 by_cases q:(atKey xs k).isSome = true
 ·rw [if_pos q,if_pos q]; exact r.yT k ry
 ·rw [if_neg q,if_neg q]; exact Paired.snoc r ⟨rfl,hb,ry⟩
theorem KT.keeps {H H':Hp} {kvs:List (List Key × V)} {xs:List (List Key × Addr × Value)} (r:KT H kvs xs) (ht:∀ b ys,H b = some (.tup ys) → H' b = some (.tup ys)):KT H' kvs xs :=
 Paired.dn r fun _ _ z=>⟨z.1,ht _ _ z.2.1,z.2.2⟩
section
variable {P:Program} {w:World} {H:Hp} {h:Heap} {a:Addr}
theorem xX {u:HO} (ok:eV P w H h) (e:Rd H a u):bQ P w H h a u:=e.ok ok
theorem gW {kvs:List (Key × V)} (ok:eV P w H h) (e:Rd H a (.dK kvs)):kvs.length ≤ sizeLine ∧ (a == sysModules) = false ∧ ∃ vs,KV kvs vs ∧ h.DictOf (aV P w) a vs :=
 show bQ P w H h a (.dK kvs) from xX ok e
theorem xg {kvs:List (Key × V)} (ok:eV P w H h) (e:H a = some (.dK kvs)):kvs.length ≤ sizeLine ∧ (a == sysModules) = false ∧ ∃ vs,KV kvs vs ∧ h.DictOf (aV P w) a vs:=gW ok (.inl e)
theorem iG {ks:List Key} (ok:eV P w H h) (e:H a = some (.tup (ks.map kV))):(tupleKind (aV P w)).is h ks a:=by
 obtain ⟨_,au,r,o,h1,h2,n,h3⟩:=(show bQ P w H h a (.tup (ks.map kV)) from ok a _ e)
 exact ⟨o,au.toArray,n,h1,h2,h3,by simpa using mW r⟩
theorem kE {kvs:List (List Key × V)} (ok:eV P w H h) (e:Rd H a (.dT kvs)):kvs.length ≤ sizeLine ∧ (a == sysModules) = false ∧
  ∃ xs,KT H kvs xs ∧ h.DictOfH (tupleKind (aV P w)) a xs:=by
 obtain ⟨z,y,xs,r,o,es,ep,h1,h2,h3,h4,h5⟩:=(show bQ P w H h a (.dT kvs) from xX ok e)
 refine ⟨z,y,xs,r,o,es,ep,h1,h2,h3,h4,fun x hx=>?_,h5⟩
 have all:∀ {l:List (List Key × V)} {m:List (List Key × Addr × Value)},KT H l m → ∀ x ∈ m,(tupleKind (aV P w)).is h x.1 x.2.1:=by
  intro l m q
  induction q with
  | nil=>intro x hx; exact nomatch hx
  | @cons p q ps qs hq t ih =>
   intro x hx
   rcases List.mem_cons.mp hx with e | hx
   ·subst e
    exact iG ok (by rw [← hq.1]; exact hq.2.1)
   ·exact ih x hx
 exact all r x hx
theorem AD {kvs:List (List Key × V)} (ok:eV P w H h) (e:H a = some (.dT kvs)):kvs.length ≤ sizeLine ∧ (a == sysModules) = false ∧
  ∃ xs,KT H kvs xs ∧ h.DictOfH (tupleKind (aV P w)) a xs:=kE ok (.inl e)
end
def cj (H:Hp) (a:Addr) (y:V) (r:Option V):Prop :=
 (∃ kvs k,Rd H a (.dK kvs) ∧ y = kV k ∧ r = bF kvs k) ∨ ∃ kvs k b,Rd H a (.dT kvs) ∧ y = .ref b ∧ H b = some (.tup (k.map kV)) ∧ r = bF kvs k
def iB (H:Hp) (a:Addr) (y v:V) (H':Hp):Prop :=
 (∃ kvs k,H a = some (.dK kvs) ∧ y = kV k ∧ kvs.length < sizeLine ∧ H' = upd H a (.dK (putK kvs k v))) ∨
 ∃ kvs k b,H a = some (.dT kvs) ∧ y = .ref b ∧ H b = some (.tup (k.map kV)) ∧ kvs.length < sizeLine ∧ H' = upd H a (.dT (putK kvs k v))
theorem cj.k {H:Hp} {a:Addr} {kvs:List (Key × V)} {k:Key} (e:H a = some (.dK kvs)):cj H a (kV k) (bF kvs k):=.inl ⟨kvs,k,.inl e,rfl,rfl⟩
theorem cj.t {H:Hp} {a b:Addr} {kvs:List (List Key × V)} {k:List Key} (e:H a = some (.dT kvs)) (eb:H b = some (.tup (k.map kV))):cj H a (.ref b) (bF kvs k):=.inr ⟨kvs,k,b,.inl e,rfl,eb,rfl⟩
theorem iB.k {H:Hp} {a:Addr} {kvs:List (Key × V)} {k:Key} {v:V} (e:H a = some (.dK kvs)) (hl:kvs.length < sizeLine):iB H a (kV k) v (upd H a (.dK (putK kvs k v))):=.inl ⟨kvs,k,e,rfl,hl,rfl⟩
theorem iB.t {H:Hp} {a b:Addr} {kvs:List (List Key × V)} {k:List Key} {v:V} (e:H a = some (.dT kvs)) (eb:H b = some (.tup (k.map kV))) (hl:kvs.length < sizeLine) :
  iB H a (.ref b) v (upd H a (.dT (putK kvs k v))):=.inr ⟨kvs,k,b,e,rfl,eb,hl,rfl⟩
section
variable {X:Cx} {pins:List (Addr × Obj)} {σ:St} {H:Hp} {s:Shared} {a:Addr} {y v:V} {u r:Value} {o:Option V} {A:Around} {E:Value → Shared → Prop}
theorem Inv.big (I:Inv X pins σ H s):sysModules < s.heap.objs.size:=by
 have h:mainGlobals < s.heap.objs.size:=(I.mod.glob.keeps I.bk).lt
 exact Nat.lt_trans (by decide) h
theorem tG {Q:Value → Shared → Prop} (hu:A.units + 1 < cLine) (I:Inv X pins σ H s) (g:cj H a y (some v)) (ry:RelV y u) (h:∀ w' s',Inv X pins σ H s' → RelV v w' → Q w' s') :
  wpAny (model X.prog X.w) A (getItem (.ref a) u) Q E s:=by
 rcases g with ⟨kvs,k,e,ey,l⟩ | ⟨kvs,k,b,e,ey,eb,l⟩
 ·subst ey
  obtain ⟨z,hd,vs,rel,dd⟩:=gW I.hok e
  obtain ⟨w',hw,rw'⟩:=eY.some_of (v:=v) (o:=valueAt vs k) (by rw [l]; exact rel.val k)
  exact wpAny_getItem_of (jT ry) dd.mapOf hw (h w' _ (I.tok _) rw')
 ·subst ey
  cases (show u = Value.ref b from ry)
  obtain ⟨z,hd,xs,rel,dd⟩:=kE I.hok e
  obtain ⟨w',hw,rw'⟩:=eY.some_of (v:=v) (o:=(atKey xs k).map (·.2)) (by rw [l]; exact rel.val k)
  obtain ⟨p,hp,hp2⟩:=Option.map_eq_some_iff.mp hw
  refine wpAny_getItem_heap (tupleKind_room_in1 hu) (iG I.hok eb) dd hp ?_
  rw [hp2]
  exact h w' _ (I.tok _) rw'
theorem Aq {Q:Value → Shared → Prop} (hu:A.units + 1 < cLine) (I:Inv X pins σ H s) (g:cj H a y o) (ry:RelV y u) (h:∀ s',Inv X pins σ H s' → Q (.bool o.isSome) s') :
  wpAny (model X.prog X.w) A (compareOp .In u (.ref a)) Q E s:=by
 rcases g with ⟨kvs,k,e,ey,l⟩ | ⟨kvs,k,b,e,ey,eb,l⟩
 ·subst ey
  obtain ⟨z,hd,vs,rel,dd⟩:=gW I.hok e
  refine wpAny_in_of (jT ry) hd dd.mapOf ?_
  rw [← (rel.val k).jH,← l]
  exact h _ (I.tok _)
 ·subst ey
  cases (show u = Value.ref b from ry)
  obtain ⟨z,hd,xs,rel,dd⟩:=kE I.hok e
  refine wpAny_in_heap (tupleKind_room_in1 hu) (iG I.hok eb) hd dd ?_
  have q:=(rel.val k).jH
  rw [Option.isSome_map] at q
  rw [← q,← l]
  exact h _ (I.tok _)
theorem rO {h':Heap} {t':Nat} {ob:HO} (I:Inv X pins σ H s) (mu:AL (H a)) (hs:Heap.SameBut a s.heap h') (he:∃ q,h'.get? a = some q) (new:bQ X.prog X.w (upd H a ob) h' a ob) :
  Inv X pins σ (upd H a ob) { s with heap:=h',toks:=t' } :=
 I.write (x:=a) (e:=a) mu (.inl rfl) (fun b q hb z=>(hs.2 b hb).trans z) he new
theorem yH {P:Program} {w:World} {H':Hp} {h':Heap} {kvs:List (Key × V)} {vs:List (Key × Value)} (z:kvs.length ≤ sizeLine) (hd:(a == sysModules) = false) (rel:KV kvs vs) (dd:h'.DictOf (aV P w) a vs) :
  bQ P w H' h' a (.dK kvs):=⟨z,hd,vs,rel,dd⟩
theorem sD {H':Hp} {Q:Unit → Shared → Prop} (hu:A.units + 1 < cLine) (I:Inv X pins σ H s) (g:iB H a y v H') (ry:RelV y u) (rv:RelV v r) (h:∀ s',Inv X pins σ H' s' → Q () s') :
  wpAny (model X.prog X.w) A (setItem (.ref a) u r) Q E s:=by
 rcases g with ⟨kvs,k,e,ey,l,eH⟩ | ⟨kvs,k,b,e,ey,eb,l,eH⟩
 ·subst ey eH
  obtain ⟨z,hd,vs,rel,dd⟩:=xg I.hok e
  have hz:vs.length ≤ sizeLine:=by rw [← rel.length]; exact z
  have hl:(putK kvs k v).length ≤ sizeLine:=by have:=jZ kvs k v; omega
  refine wpAny_setItem_pairs (hsz:=hz) (jT ry) dd fun h' dd' hs=>h _ ?_
  have he:∃ q,h'.get? a = some q:=let ⟨q,_,_,hq,_⟩:=dd'; ⟨q,hq⟩
  exact rO I (by rw [e]; exact True.intro) hs he (yH hl hd (rel.put k rv) dd')
 ·subst ey eH
  cases (show u = Value.ref b from ry)
  obtain ⟨z,hd,xs,rel,dd⟩:=AD I.hok e
  have hz:xs.length ≤ sizeLine:=by rw [← Paired.length rel]; exact z
  have hl:(putK kvs k v).length ≤ sizeLine:=by have:=jZ kvs k v; omega
  refine wpAny_setItem_heap (hsz:=hz) (tupleKind_room_in1 hu) (iG I.hok eb) dd fun h' dd' hs=>h _ ?_
  obtain ⟨q,es,ep,hq,h2,h3,h4,_,h5⟩:=dd'
  refine rO I (by rw [e]; exact True.intro) hs ⟨q,hq⟩ ⟨hl,hd,_,(rel.put k eb rv).keeps fun c ys ec=>?_,q,es,ep,hq,h2,h3,h4,h5⟩
  rw [aI (ax ec e (fun z=>nomatch z))]
  exact ec
end
section
variable {X:Cx} {pins:List (Addr × Obj)} {σ:St} {H:Hp} {s:Shared} {a:Addr} {kvs:List (Key × V)} {k:Key} {u:Value} {A:Around} {E:Value → Shared → Prop}
end
def zh (i:Expr):Prop:=∀ ov iv,subscripted i false ov iv = operate [ov,iv] (getItem ov iv)
theorem wk {prog:Program} {w:World} {A:Around} {E:Value → Shared → Prop} {s:Shared} {env:Env} {value slice:Expr} {pos:Pos} {T id:String} {Q:Value → Shared → Prop}
  (hl:typeLookup (.type T) "__getitem__" = pure (some (.builtin id))) (hs:zh slice)
  (h:wpAny (model prog w) A (eval value env) (fun o s₁=>wpAny (model prog w) A (eval slice env) (fun i s₂=>s₂.TypeIs o T ∧ wpAny (model prog w) A (getItem o i) Q E s₂) E s₁) E s) :
  wpAny (model prog w) A (eval (.Subscript value slice pos) env) Q E s:=by
 refine Subscript_ (wpAny_mono h (fun o s₁ h₁=>wpAny_mono h₁ (fun i s₂ h₂=>?_) fun _ _ x=>x) fun _ _ x=>x)
 obtain ⟨hT,h₂⟩:=h₂
 unfold subscriptTail
 refine wpAny_bind ?_
 rw [getitemInPython_of_ne hT.not_modules]
 refine wpAny_bind (wpAny_specialOf hT hl ?_)
 have fin:wpAny (model prog w) A (subscripted slice false o i) (fun r s₃=>wpAny (model prog w) A (letTemporaryGo value o r >>= fun _=>pure r) Q E s₃) E s₂:=by
  rw [hs o i]
  exact wpAny_operating (wpAny_mono h₂ (fun r s₃ h₃=>wpAny_bind (wpAny_letTemporaryGo (wpAny_pure h₃))) fun _ _ x=>x)
 first
  | exact wpAny_pure (wpAny_bind fin)
  | exact wpAny_bind (wpAny_pure (wpAny_bind fin))
  | exact wpAny_bind fin
theorem oQ {X:Cx} {pins:List (Addr × Obj)} {σ:St} {H:Hp} {s:Shared} {a:Addr} {y:V} {o:Option V} (I:Inv X pins σ H s) (g:cj H a y o):s.TypeIs (.ref a) "dict" := by
 rcases g with ⟨kvs,k,e,_,_⟩ | ⟨kvs,k,b,e,_,_,_⟩
 ·obtain ⟨_,_,vs,_,dd⟩:=gW I.hok e
  exact dd.typeIs
 ·obtain ⟨_,_,xs,_,dd⟩:=kE I.hok e
  exact dd.typeIs
def zm (td ty:TE):TE:=fun σ H Q=>td σ H fun x H1=>ty σ H1 fun y H2=>∃ a v,x = .ref a ∧ cj H2 a y (some v) ∧ Q v H2
def A8 (ty td:TE):TE:=fun σ H Q=>ty σ H fun y H1=>td σ H1 fun x H2=>∃ a o,x = .ref a ∧ cj H2 a y o ∧ Q (.bl o.isSome) H2
def AQ (td ty tv:TE):TS:=fun D σ H=>tv σ H fun v H1=>td σ H1 fun x H2=>ty σ H2 fun y H3=>∃ a H4,x = .ref a ∧ iB H3 a y v H4 ∧ D.nx σ H4
section
variable {X:Cx} {o i e value:Expr} {pos pos' tpos:Pos} {td ty tv:TE}
theorem d4 (hu:X.A.units + 1 < cLine) (ho:PE X o td) (hi:PE X i ty) (hs:zh i):PE X (.Subscript o i pos) (zm td ty):=by
 unfold PE at *
 exact by
  intro pins s σ H Q I h
  refine wk PySem.F.slot_dict_getitem.lookup hs (bS (ho pins s σ H _ I h) fun u s1 ⟨x,H1,I1,rx,q1⟩=>bS (hi pins s1 σ H1 _ I1 q1) fun iv s2 ⟨y,H2,I2,ry,a,v,ex,g,q2⟩=>?_)
  subst ex
  obtain rfl:u = Value.ref a:=rx
  exact ⟨oQ I2 g,tG hu I2 g ry fun w' s3 I3 rw'=>⟨v,H2,I3,rw',q2⟩⟩
theorem qV (hu:X.A.units + 1 < cLine) (hi:PE X i ty) (ho:PE X o td):PC X .In i o (A8 ty td):=by
 unfold PE at *; unfold PC at *
 exact by
  intro pins s σ H Q I h
  refine bS (hi pins s σ H _ I h) fun iv s1 ⟨y,H1,I1,ry,q1⟩=>bS (ho pins s1 σ H1 _ I1 q1) fun u s2 ⟨x,H2,I2,rx,a,ov,ex,g,q2⟩=>?_
  subst ex
  obtain rfl:u = Value.ref a:=rx
  exact Aq hu I2 g ry fun s3 I3=>⟨.bl ov.isSome,H2,I3,rfl,q2⟩
theorem dr (hu:X.A.units + 1 < cLine) (ho:PE X o td) (hi:PE X i ty) (hv:PE X value tv) (hs:swapsWith value (some (.Subscript o i pos')) pos.line X.env = pure false) :
  PS X (.Assign [.Subscript o i pos'] value pos) (AQ td ty tv):=by
 unfold PE at *; unfold PS at *
 exact by
  intro pins s σ H D I h
  refine wpAny_Assign_Subscript (bS (hv pins s σ H _ I h) fun r s1 ⟨v,H1,I1,rv,q1⟩=>bS (ho pins s1 σ H1 _ I1 q1) fun u s2 ⟨x,H2,I2,rx,q2⟩=>bS (hi pins s2 σ H2 _ I2 q2) fun iv s3 ⟨y,H3,I3,ry,a,H4,ex,g,q3⟩=>?_) hs
  subst ex
  obtain rfl:u = Value.ref a:=rx
  exact sD hu I3 g ry rv fun s4 I4=>⟨σ,H4,I4,q3⟩
end
theorem uN {P:Program} {w:World} {H:Hp} (h:Heap) (hb:sysModules < h.objs.size):bQ P w H (h.push { cls:=.type "dict",data:=.dict #[] }) h.objs.size (.dK []) :=
 ⟨Nat.zero_le _,beq_eq_false_iff_ne.mpr (Ne.symm (Nat.ne_of_lt hb)),[],.nil,Heap.DictOf.new h⟩
theorem ue {P:Program} {w:World} {H:Hp} (h:Heap) (hb:sysModules < h.objs.size):bQ P w H (h.push { cls:=.type "dict",data:=.dict #[] }) h.objs.size (.dT []) :=
 ⟨Nat.zero_le _,beq_eq_false_iff_ne.mpr (Ne.symm (Nat.ne_of_lt hb)),[],.nil,_,#[],0,Heap.get?_push_size _ rfl,⟨rfl,rfl,rfl⟩,rfl,rfl,List.nodup_nil⟩
def yh:TE:=fun _ H Q=>∀ p,H p = none → Q (.ref p) (upd H p (.dK []))
def yE:TE:=fun _ H Q=>∀ p,H p = none → Q (.ref p) (upd H p (.dT []))
section
variable {X:Cx} {pos:Pos}
theorem eO:PE X (.Dict [] [] pos) yh:=by
 unfold PE at *
 exact (fun pins s σ H Q I h =>
  wpAny_Dict_empty ⟨.ref s.heap.objs.size,_,I.laid (a:=s.heap.objs.size) (o:=.dK []) (t':=s.toks) (fun _ _ q=>Heap.get?_push_of_some _ q) (Nat.le_refl _) (uN s.heap I.big),rfl,h _ (I.hok.fresh (Nat.le_refl _))⟩)
theorem uM:PE X (.Dict [] [] pos) yE:=by
 unfold PE at *
 exact (fun pins s σ H Q I h =>
  wpAny_Dict_empty ⟨.ref s.heap.objs.size,_,I.laid (a:=s.heap.objs.size) (o:=.dT []) (t':=s.toks) (fun _ _ q=>Heap.get?_push_of_some _ q) (Nat.le_refl _) (ue s.heap I.big),rfl,h _ (I.hok.fresh (Nat.le_refl _))⟩)
end
structure M1 (X:Cx) (o:Expr) (m:Str) (apos:Pos) (e:Expr) (cpos:Pos):Prop where
 base:attributeBase o m X.env (eval o X.env) = eval o X.env
 few:((backTo cpos (starEach [e] X.env)).all (fun x=>!x.1) && (backToKw cpos (keywordEach [] X.env)).all (fun x=>x.1.isSome)
  && decide (([e]:List Expr).length + ([]:List Keyword).length + (if ([]:List Keyword).isEmpty then 0 else 1) < 30)) = true
 line:(apos.endLine == cpos.line) = true
 trees:backTo cpos (starEach [e] X.env) = [(false,eval e X.env)]
structure M2 (X:Cx) (o:Expr) (m:Str) (apos:Pos) (e f:Expr) (cpos:Pos):Prop where
 base:attributeBase o m X.env (eval o X.env) = eval o X.env
 few:((backTo cpos (starEach [e,f] X.env)).all (fun x=>!x.1) && (backToKw cpos (keywordEach [] X.env)).all (fun x=>x.1.isSome)
  && decide (([e,f]:List Expr).length + ([]:List Keyword).length + (if ([]:List Keyword).isEmpty then 0 else 1) < 30)) = true
 line:(apos.endLine == cpos.line) = true
 trees:backTo cpos (starEach [e,f] X.env) = [(false,eval e X.env),(false,eval f X.env)]
def Al (H:Hp) (a:Addr):Prop:=(∃ kvs,Rd H a (.dK kvs)) ∨ ∃ kvs,Rd H a (.dT kvs)
theorem qj {X:Cx} {pins:List (Addr × Obj)} {σ:St} {H:Hp} {s:Shared} {a:Addr} (I:Inv X pins σ H s) (d:Al H a) :
  s.TypeIs (.ref a) "dict" ∧ (∀ b,Value.ref a = .ref b → ∃ ob,s.heap.get? b = some ob ∧ ob.dict = none) ∧ (a == sysModules) = false:=by
 rcases d with ⟨kvs,e⟩ | ⟨kvs,e⟩
 ·obtain ⟨_,hd,vs,_,dd⟩:=gW I.hok e
  refine ⟨dd.typeIs,fun b q=>?_,hd⟩
  cases q
  obtain ⟨ob,_,_,h1,h2,_⟩:=dd
  exact ⟨ob,h1,h2.2.1⟩
 ·obtain ⟨_,hd,xs,_,dd⟩:=kE I.hok e
  refine ⟨dd.typeIs,fun b q=>?_,hd⟩
  cases q
  obtain ⟨ob,_,_,h1,h2,_⟩:=dd
  exact ⟨ob,h1,h2.2.1⟩
section
variable {X:Cx} {pins:List (Addr × Obj)} {σ:St} {H:Hp} {s:Shared} {a:Addr} {y d:V} {u r:Value} {o:Option V} {A:Around} {E:Value → Shared → Prop}
theorem yo {Q:Value → Shared → Prop} (hu:A.units + 1 < cLine) (I:Inv X pins σ H s) (g:cj H a y o) (ry:RelV y u) (h:∀ w' s',Inv X pins σ H s' → RelV (o.getD .bI) w' → Q w' s') :
  wpAny (model X.prog X.w) A (call (.builtin "dict.get") [.ref a,u]) Q E s:=by
 rcases g with ⟨kvs,k,e,ey,l⟩ | ⟨kvs,k,b,e,ey,eb,l⟩
 ·subst ey
  obtain ⟨z,hd,vs,rel,dd⟩:=gW I.hok e
  refine call_meetsIn PySem.F.slot_dict_get dd.typeIs PySem.F.entry_dict_get (PySem.F.args_dict_get_2 _ _) (meets_dict_get (aV X.prog X.w) a (jT ry) hd) ⟨_,dd.mapOf,h _ _ (I.tok _) ?_⟩
  rw [l]
  exact (rel.val k).getD rfl
 ·subst ey
  cases (show u = Value.ref b from ry)
  obtain ⟨z,hd,xs,rel,dd⟩:=kE I.hok e
  refine call_meetsIn PySem.F.slot_dict_get dd.typeIs PySem.F.entry_dict_get (PySem.F.args_dict_get_2 _ _) (meetsH_dict_get (tupleKind (aV X.prog X.w)) a b hd) ⟨tupleKind_room_in1 hu,k,xs,iG I.hok eb,dd,h _ _ (I.tok _) ?_⟩
  rw [l]
  exact (rel.val k).getD rfl
theorem y6 {Q:Value → Shared → Prop} (hu:A.units + 1 < cLine) (I:Inv X pins σ H s) (g:cj H a y o) (ry:RelV y u) (rd:RelV d r) (h:∀ w' s',Inv X pins σ H s' → RelV (o.getD d) w' → Q w' s') :
  wpAny (model X.prog X.w) A (call (.builtin "dict.get") [.ref a,u,r]) Q E s:=by
 rcases g with ⟨kvs,k,e,ey,l⟩ | ⟨kvs,k,b,e,ey,eb,l⟩
 ·subst ey
  obtain ⟨z,hd,vs,rel,dd⟩:=gW I.hok e
  refine call_meetsIn PySem.F.slot_dict_get dd.typeIs PySem.F.entry_dict_get (PySem.F.args_dict_get_3 _ _ _) (meets_dict_get_default (aV X.prog X.w) a (jT ry) hd r) ⟨_,dd.mapOf,h _ _ (I.tok _) ?_⟩
  rw [l]
  exact (rel.val k).getD rd
 ·subst ey
  cases (show u = Value.ref b from ry)
  obtain ⟨z,hd,xs,rel,dd⟩:=kE I.hok e
  refine call_meetsIn PySem.F.slot_dict_get dd.typeIs PySem.F.entry_dict_get (PySem.F.args_dict_get_3 _ _ _) (meetsH_dict_get_default (tupleKind (aV X.prog X.w)) a b hd r) ⟨tupleKind_room_in1 hu,k,xs,iG I.hok eb,dd,h _ _ (I.tok _) ?_⟩
  rw [l]
  exact (rel.val k).getD rd
end
def yp (td ty:TE):TE:=fun σ H Q=>td σ H fun x H1=>∃ a,x = .ref a ∧ Al H1 a ∧ ty σ H1 fun y H2=>∃ o,cj H2 a y o ∧ Q (o.getD .bI) H2
def yW (td ty tx:TE):TE:=fun σ H Q=>td σ H fun x H1=>∃ a,x = .ref a ∧ Al H1 a ∧ ty σ H1 fun y H2=>tx σ H2 fun z H3=>∃ o,cj H3 a y o ∧ Q (o.getD z) H3
section
variable {X:Cx} {o e f:Expr} {apos cpos:Pos} {td ty tx:TE}
theorem lI (hu:X.A.units + 1 < cLine) (ho:PE X o td) (he:PE X e ty) (m:M1 X o "get" apos e cpos):PE X (.Call (.Attribute o "get" apos) [e] [] cpos) (yp td ty):=by
 unfold PE at *
 exact by
  intro pins s σ H Q I h
  refine wpAny_Call_method m.base m.few m.line PySem.F.plainAttrs_dict PySem.F.slot_dict_get PySem.F.type_dict_get (bS (ho pins s σ H _ I h) fun u s1 ⟨x,H1,I1,rx,a,ex,d,q1⟩=>?_)
  subst ex
  obtain rfl:u = Value.ref a:=rx
  obtain ⟨t1,t2,_⟩:=qj I1 d
  refine ⟨t1,t2,?_⟩
  rw [m.trees]
  refine Calls.callWith_builtin rfl (Calls.evalArgs_plain (Calls.spliced_cons (bS (he pins s1 σ H1 _ I1 q1) fun iv s2 ⟨y,H2,I2,ry,ov,g,q2⟩=>Calls.spliced_nil ?_)))
  exact yo hu I2 g ry fun w' s3 I3 rw'=>⟨_,H2,I3,rw',q2⟩
theorem ox (hu:X.A.units + 1 < cLine) (ho:PE X o td) (he:PE X e ty) (hf:PE X f tx) (m:M2 X o "get" apos e f cpos):PE X (.Call (.Attribute o "get" apos) [e,f] [] cpos) (yW td ty tx):=by
 unfold PE at *
 exact by
  intro pins s σ H Q I h
  refine wpAny_Call_method m.base m.few m.line PySem.F.plainAttrs_dict PySem.F.slot_dict_get PySem.F.type_dict_get (bS (ho pins s σ H _ I h) fun u s1 ⟨x,H1,I1,rx,a,ex,d,q1⟩=>?_)
  subst ex
  obtain rfl:u = Value.ref a:=rx
  obtain ⟨t1,t2,_⟩:=qj I1 d
  refine ⟨t1,t2,?_⟩
  rw [m.trees]
  refine Calls.callWith_builtin rfl (Calls.evalArgs_plain (Calls.spliced_cons (bS (he pins s1 σ H1 _ I1 q1) fun iv s2 ⟨y,H2,I2,ry,q2⟩ =>
   Calls.spliced_cons (bS (hf pins s2 σ H2 _ I2 q2) fun fv s3 ⟨z,H3,I3,rz,ov,g,q3⟩=>Calls.spliced_nil ?_))))
  exact y6 hu I3 g ry rz fun w' s4 I4 rw'=>⟨_,H3,I4,rw',q3⟩
end
section
variable {X:Cx} {pins:List (Addr × Obj)} {σ:St} {H:Hp} {s:Shared} {a:Addr} {kvs:List (Key × V)} {A:Around} {E:Value → Shared → Prop}
end
section
variable {X:Cx} {pins:List (Addr × Obj)} {σ:St} {H:Hp} {s:Shared} {a:Addr} {y:V} {u:Value} {A:Around} {E:Value → Shared → Prop}
end
end L2
namespace Att
open PySem PySem.W PySem.Calls PyProof.Rows
theorem jg {P:Params} {h:Heap}:∀ (ns:List Int) (vs:List Value),WellAll P h vs (ns.map WData.int) → IntsAre vs ns:=by
 intro ns
 induction ns with
 | nil =>
  intro vs w
  rw [List.map_nil] at w
  cases w
  exact .nil
 | cons n ns ih =>
  intro vs w
  rw [List.map_cons] at w
  cases w with
  | cons a b =>
   cases a
   exact .cons _ _ (ih _ b)
theorem sg {l:OpenLaw} {n:Nat} (hn:l.most = some n) {P:Params} {h:Heap} {args:List WData} {vals:List Value}
  (hpre:l.row.toRowW.claim.pre args = true) (hwl:WellAll P h vals args) :
  ∃ a vs ns,vals = [Value.ref a] ∧ args = [WData.list (ns.map WData.int)] ∧ h.get? a = some { cls:=.type "list",data:=.seq vs.toArray } ∧ IntsAre vs ns ∧ ns.length ≤ n:=by
 have hsh:WShape.hasAll [] args [.list .int] = true:=(pre_splitW hpre).1
 have hc:l.pre.holds [] { args:=args } = true:=(pre_splitW hpre).2
 obtain ⟨d,r,rfl,h1,h2⟩:=hasAllW_cons hsh
 obtain rfl:=hasAllW_nil h2
 obtain ⟨xs,rfl,h3⟩:=hasW_list h1
 obtain ⟨ns,rfl⟩:=items_int h3
 have hlen:ns.length ≤ n:=by
  unfold OpenLaw.pre at hc
  have h4:(WTm.not (.lt (.lit (.int (n:Int))) (.len (.arg 0)))).holds [] { args:=[.list (ns.map .int)] } = true:=by
   have h4:=(holds_andW hc).1
   rw [hn] at h4
   exact h4
  have h5:=condW_of h4 (w_not (w_lt w_lit (w_len_list (w_arg rfl))))
  rw [List.length_map] at h5
  refine Nat.le_of_not_lt fun q=>?_
  have q':(n:Int) < ((ns.length:Nat):Int):=by omega
  first
   | (rw [decide_eq_true q'] at h5; exact absurd h5 (by decide))
   | (simp at h5; omega)
 cases hwl with
 | cons w1 w2 =>
  cases w2
  cases w1 with
  | list ho hall=>exact ⟨_,_,ns,rfl,rfl,ho,jg ns _ hall,hlen⟩
theorem sx (l:OpenLaw) (args:List WData):l.row.toRowW.claim.post args (.bool true) args = true :=
 postW_of (r:=l.row.toRowW) (X:=(true == true))
  (show WShape.has [] (.bool true) .bool = true by first | rfl | decide | simp [WShape.has,WShape.arms,WShape.armsAll])
  (show (WTm.eq .res (.lit (.bool true))).value [] { args:=args,res:=some (.bool true),after:=args } = some (.bool (true == true)) from w_eq_bool (w_res rfl) w_lit) rfl
theorem oY {l:OpenLaw} {n:Nat} {q:Program} {loose:List Str} {XP:(Str → Option Value) → Heap → Prop} {YP:World → Heap → Prop} {d:DefRec}
  (hn:l.most = some n) (hdf:d.params.defaults = [])
  (call:∀ (w:World) (s₀ s₁:Shared) (mg mb:Str → Option Value) (fa:Addr) (o:Obj) (pm cd doc:Value) (a:Addr) (vs:List Value) (ns:List Int),
   Ground q loose [] XP w s₀ mg mb s₁.heap → YP w s₁.heap →
   s₁.heap.get? fa = some o → o.data = .func (docDef d.name d.params d.body d.scope pm cd doc) → s₁.heap.CodeRec cd d.name → mg d.name = some (.ref fa) →
   s₁.heap.get? a = some { cls:=.type "list",data:=.seq vs.toArray } → IntsAre vs ns → ns.length ≤ n → s₁.gens = #[] →
   codeAny (model l.prog w) callerA (.call (.ref fa) ⟨[.ref a],[]⟩) (fun r s'=>r = .ok (.ret (.bool true)) ∧ OldK s₁.heap s'.heap ∧ s'.os = s₁.os ∧ AllBare s'.gens) s₁) :
  WalkO q loose XP YP l.row.toRowW d [] (fun f vs=>PySem.call f vs):=by
 intro w s₀ s₁ mg mb G Y fa o pm cd doc dV kV ho hd hcd hD hmg hg args vals as hpre hlay hrd hwl hlo
 obtain rfl:dV = .none:=Dflts.none hD hdf
 obtain rfl:kV = .none:=Dflts.noKw hD
 obtain ⟨a,vs,ns,rfl,rfl,hobj,hints,hlen⟩:=sg hn hpre hwl
 refine enter_call (codeAny_mono (call w s₀ s₁ mg mb fa o pm cd doc a vs ns G Y ho (fd_plain hd) hcd hmg hobj hints hlen hg) fun r s' hq=>?_)
 obtain ⟨rfl,h2,h3,h4⟩:=hq
 exact ⟨.inl ⟨.bool true,.bool true,[],rfl,fun _=>rfl,.bool true,sx l _,fun _=>⟨List.Pairwise.nil,fun _ hm=>(nomatch hm)⟩⟩,h2,h3,h4⟩
section
variable {prog:Program} {w:World} {A:Around} {E:Value → Shared → Prop} {s:Shared} {K:Frag}
def ledger (h:Heap) (L d:Addr):List (Addr × Obj):=(List.range h.objs.size).filterMap fun a=>if a = L ∨ a = d then none else (h.get? a).map fun o=>(a,o)
end
end Att
namespace L2
open PySem PySem.Spec PyProof.Rows
theorem mC:∀ {vs:List Value} {ns:List Int},IntsAre vs ns → Vals (ns.map V.int) vs
 | _,_,.nil=>.nil
 | _,_,.cons n t h=>.cons ⟨t,rfl⟩ (mC h)
def wy (H:Hp):Prop:=∀ b,H b = none ∨ ∃ o xs,H b = some (.frz o (.lst xs))
theorem uv {P:Program} {w:World} {K:PySem.W.Frag} {mg mb:Str → Option Value} {CX:l6} {k:Nat} {fa a:Addr} {fd:FuncData} {x:Str} {sp:Sp} {s₁:Shared} {vs:List Value} {ns:List Int}
  (KX:K.In s₁.heap) (hns:s₁.heap.Ns mainGlobals mg) (hb:s₁.heap.Ns builtinsNs mb) (hbb:∀ x:Str,x ≠ "__name__" → mb x = bootBuiltins x) (hlim:s₁.heap.NoLimit) (hg:s₁.gens = #[])
  (ha:s₁.heap.get? a = some { cls:=.type "list",data:=.seq vs.toArray }) (hi:IntsAre vs ns) (hl:ns.length ≤ sizeLine) (hr:cA k callerA)
  (F:∀ base:Heap,K.In base → base.Ns mainGlobals mg → ar P w K mg base CX k fa fd [x] sp) (hbind:∀ (s:Shared) (u:Value),BindsTo s fd ⟨[u],[]⟩ [(x,u)])
  (hsp:∀ H:Hp,wy H → ah K H a (ns.map V.int) → sp [.ref a] H (fun v _=>v = .bl true) fun _ _ _=>False)
  (hCX:∀ H e s',CX [] H s₁ (fun _ _ _=>False) e s' → False) :
  codeAny (model P w) callerA (.call (.ref fa) ⟨[.ref a],[]⟩) (fun r s'=>r = .ok (.ret (.bool true)) ∧ OldK s₁.heap s'.heap ∧ s'.os = s₁.os ∧ AllBare s'.gens) s₁:=by
 have rv:=mC hi
 have lenV:=hi.length
 -- from an abstract heap in which nothing but the script may be tracked
 have core:∀ H:Hp,wy H → ah K H a (ns.map V.int) → eV P w H s₁.heap → (∀ b,H b ≠ none → b = a) → (H a ≠ none → K.lookup a = none) →
   codeAny (model P w) callerA (.call (.ref fa) ⟨[.ref a],[]⟩) (fun r s'=>r = .ok (.ret (.bool true)) ∧ OldK s₁.heap s'.heap ∧ s'.os = s₁.os ∧ AllBare s'.gens) s₁:=by
  intro H hO hS hok hA hK
  have base_of:∀ {b:Addr} {o:Obj},s₁.heap.get? b = some o → H b = none → (nP s₁.heap H).get? b = some o:=fun e n=>uI e n
  have noA:∀ {b:Addr} {o:Obj} {es:Array DictEntry} {ep:Nat},s₁.heap.get? b = some o → o.data = .dict es ep → H b = none:=fun {b o es ep} e d=>by
   cases q:H b with
   | none=>rfl
   | some u =>
    have e':b = a:=hA b (by rw [q]; simp)
    subst e'
    rw [ha] at e; cases e
    have d':Data.seq vs.toArray _ = Data.dict es ep:=d
    cases d'
  have nsK:∀ {b:Addr} {m:Str → Option Value},s₁.heap.Ns b m → (nP s₁.heap H).Ns b m:=fun {b m} ⟨o,es,ep,e,d,r⟩=>⟨o,es,ep,base_of e (noA e d),d,r⟩
  have hKb:K.In (nP s₁.heap H):=fun b o e=>base_of (KX b o e) (by
   cases q:H b with
   | none=>rfl
   | some u =>
    have e':b = a:=hA b (by rw [q]; simp)
    subst e'
    rw [hK (by rw [q]; simp)] at e; cases e)
  have hM:Mod K mg (nP s₁.heap H):=⟨hKb,nsK hns,⟨mb,nsK hb,hbb⟩,let ⟨mc,h1,h2⟩:=hlim; ⟨mc,nsK h1,h2⟩⟩
  have e0:lX P w K mg (nP s₁.heap H) callerA [] s₁ H:=⟨rfl,hM,fun b o e=>wU e,Nat.le_of_eq (tK _ _),trivial,fun b hb=>absurd (show b ∈ ([]:List Addr) from hb) (by simp),hok,.of_eq hg⟩
  refine codeAny_mono ((F _ hKb (nsK hns)).run callerA [] s₁ H ⟨[.ref a],[]⟩ [.ref a] [.ref a] _ _ hr e0 (hbind s₁ (.ref a)) (.cons rfl .nil) (hsp H hO hS)) fun r s' h=>?_
  cases r with
  | error e=>exact (hCX H e s' h).elim
  | ok fl =>
   cases fl with
   | next=>exact False.elim h
   | brk=>exact False.elim h
   | cont=>exact False.elim h
   | ret u =>
    obtain ⟨v,H',os,bare,un,hok',r',q⟩:=h
    have q':v = .bl true:=q
    subst q'
    obtain rfl:u = Value.bool true:=r'
    refine ⟨rfl,OldK.of_keep fun b o e=>?_,os,bare⟩
    cases q:H b with
    | none=>exact un.keep b o e q (by intro z; exact absurd (show b ∈ ([]:List Addr) from z) (by simp)) (by simp)
    | some u =>
     rcases hO b with z | ⟨ob,xs,z⟩
     ·rw [q] at z; cases z
     ·have z2:=un.frzs b ob _ z
      obtain ⟨e1,_⟩:=hok b _ z
      obtain ⟨e2,_⟩:=hok' b _ z2
      rw [e] at e1; cases e1
      exact e2
 cases hk:K.lookup a with
 | some o =>
  -- the script is one of the module's own objects
  have e:=KX a o hk
  rw [ha] at e
  cases e
  refine core (fun _=>none) (fun _=>.inl rfl) (.inr ⟨_,vs.toArray,_,hk,rfl,rfl,rfl,by rw [List.size_toArray,lenV]; exact hl,by simpa using rv⟩) (fun b u z=>by have z':(none:Option HO) = some u:=z; cases z') (fun b z=>absurd rfl z) fun z=>absurd rfl z
 | none =>
  refine core (fun b=>if b = a then some (.frz { cls:=.type "list",data:=.seq vs.toArray } (.lst (ns.map V.int))) else none) (fun b=>?_) (.inl (.inr ⟨{ cls:=.type "list",data:=.seq vs.toArray },if_pos rfl⟩)) (fun b u z=>?_) (fun b z=>?_) fun _=>hk
  ·by_cases hb:b = a
   ·exact .inr ⟨_,_,if_pos hb⟩
   ·exact .inl (if_neg hb)
  ·by_cases hb:b = a
   ·have z':=(if_pos hb).symm.trans z
    cases z'
    subst hb
    exact ⟨ha,by rw [List.length_map]; exact hl,vs,_,rv,ha⟩
   ·have z':=(if_neg hb).symm.trans z
    cases z'
  ·by_cases hb:b = a
   ·exact hb
   ·exact absurd (if_neg hb) z
end L2
namespace L2
open PySem PySem.Spec PyProof.Rows
theorem vz {l:PySem.W.OpenLaw} {n k:Nat} {q:Program} {loose:List Str} {XP:(Str → Option Value) → Heap → Prop} {YP:World → Heap → Prop} {d:DefRec} {K:Params → PySem.W.Frag} {CX:World → l6} {sp:World → Sp} {x:Str}
  (hn:l.most = some n) (hn2:n ≤ sizeLine) (hdf:d.params.defaults = []) (hr:cA k callerA)
  (hY:∀ (w:World) (h:Heap),YP w h → (K w.params).In h)
  (F:∀ (w:World) (mg:Str → Option Value) (fa:Addr) (h:Heap),(K w.params).In h → h.Ns mainGlobals mg → mg d.name = some (.ref fa) →
   ∃ fd:FuncData,(∀ (s:Shared) (u:Value),BindsTo s fd ⟨[u],[]⟩ [(x,u)]) ∧
    ∀ base:Heap,(K w.params).In base → base.Ns mainGlobals mg → ar l.prog w (K w.params) mg base (CX w) k fa fd [x] (sp w))
  (hsp:∀ (w:World) (H:Hp) (a:Addr) (ns:List Int),ns.length ≤ n → wy H → ah (K w.params) H a (ns.map V.int) → sp w [.ref a] H (fun v _=>v = .bl true) fun _ _ _=>False)
  (hCX:∀ (w:World) (H:Hp) (s:Shared) (e:Value) (s':Shared),CX w [] H s (fun _ _ _=>False) e s' → False) :
  PySem.W.WalkO q loose XP YP l.row.toRowW d [] (fun f vs=>PySem.call f vs):=by
 refine Att.oY hn hdf fun w s₀ s₁ mg mb fa o pm cd doc a vs ns G Y ho hd hcd hmg hobj hints hlen hg=>?_
 have KX:=hY w _ Y
 obtain ⟨fd,hb,hF⟩:=F w mg fa _ KX G.T.g hmg
 exact uv KX G.T.g G.T.b G.T.builtins G.T.nolimit hg hobj hints (Nat.le_trans hlen hn2) hr hF hb (fun H hO hS=>hsp w H a ns hlen hO hS) fun H e s'=>hCX w H s₁ e s'
theorem tf {l:PySem.W.OpenLaw} {n k:Nat} {q:Program} {loose:List Str} {XP:(Str → Option Value) → Heap → Prop} {YP:World → Heap → Prop} {d:DefRec} {K:Params → PySem.W.Frag} {CX:l6} {sp:PySem.W.Frag → Sp} {x:Str}
  (hn:l.most = some n) (hn2:n ≤ sizeLine) (hdf:d.params.defaults = []) (hr:cA k callerA)
  (hY:∀ (w:World) (h:Heap),YP w h → (K w.params).In h)
  (F:∀ (w:World) (mg:Str → Option Value) (fa:Addr) (h:Heap),(K w.params).In h → h.Ns mainGlobals mg → mg d.name = some (.ref fa) →
   ∃ fd:FuncData,(∀ (s:Shared) (u:Value),BindsTo s fd ⟨[u],[]⟩ [(x,u)]) ∧
    ∀ base:Heap,(K w.params).In base → base.Ns mainGlobals mg → ar l.prog w (K w.params) mg base CX k fa fd [x] (sp (K w.params)))
  (hsp:∀ (K:PySem.W.Frag) (H:Hp) (a:Addr) (ns:List Int),ns.length ≤ n → wy H → ah K H a (ns.map V.int) → sp K [.ref a] H (fun v _=>v = .bl true) fun _ _ _=>False)
  (hCX:∀ (H:Hp) (s:Shared) (e:Value) (s':Shared),CX [] H s (fun _ _ _=>False) e s' → False) :
  PySem.W.WalkO q loose XP YP l.row.toRowW d [] (fun f vs=>PySem.call f vs) :=
 vz (K:=K) (CX:=fun _=>CX) (sp:=fun w=>sp (K w.params)) hn hn2 hdf hr hY F (fun w H a ns h1 h2 h3=>hsp (K w.params) H a ns h1 h2 h3) fun _ H s e s'=>hCX H s e s'
end L2
/- THE LAST THEOREM (shape; LID, My.* are yours):
   My.Adr: a structure of the addresses that your layer names (classes, functions); My.Txt K t: a structure (Prop) of the equations over K;
   My.txt_mk : {K} {implicit addresses ..} (e1 : nsIn K mainGlobals "law" = some (some (.ref f))) (e2 : K.lookup f = some ⟨oc, od, .func (fnOf "law" "law" params body scope dV kV doc pm an cdv ct), sl⟩) (e3 : codeIn K cdv "law" = true) .. : ∃ t, My.Txt K t
set_option maxRecDepth 100000 in
set_option maxHeartbeats 0 in
(the tactic k_is has no namespace: write k_is) -/
namespace L2
open PySem PySem.Spec PyProof.Rows
def inClass (s:Stmt) (j:Nat):Stmt:=match s with
 | .ClassDef _ _ _ body _ _ _ _ _ _ _=>body.getD j (.Pass ⟨0,0,0,0⟩)
 | _=>.Pass ⟨0,0,0,0⟩
def cn (s:Stmt):Arguments:=match s with
 | .FunctionDef _ a _ _ _ _ _ _ _ _=>a
 | _=>{ posonlyargs:=[],args:=[],vararg:=none,kwonlyargs:=[],kw_defaults:=[],kwarg:=none,defaults:=[] }
def cK (s:Stmt):List Stmt:=match s with
 | .FunctionDef _ _ b _ _ _ _ _ _ _=>b
 | _=>[]
def aK (s:Stmt):Scope:=match s with
 | .FunctionDef _ _ _ _ _ _ sc _ _ _=>sc
 | _=>{ kind:=.function,names:=[],isGenerator:=false,isCoroutine:=false }
abbrev fN:l6:=fun _ _ _ _ _ _=>False
abbrev E0:XK:=fun _ _ _=>False
theorem ak {X:Cx}:Passes fN X E0:=fun _ _ _ _ _ _ _ h=>h.elim
structure sR (K:PySem.W.Frag) (x qual:Str) (st:Stmt) (f:Addr) (fd:FuncData):Prop where
 ex:∃ (oc:Value) (od:Option Addr) (kV doc pm:Value) (an:Option Addr) (cdv ct:Value) (osl:Array (Option Value)),
  fd = PySem.W.fnOf x qual (cn st) (cK st) (aK st) .none kV doc pm an cdv ct ∧ K.lookup f = some ⟨oc,od,.func fd,osl⟩ ∧ PySem.W.codeIn K cdv qual = true
 kp:PySem.W.keepIn K (.ref f) = true
section
variable {P:Program} {w:World} {K:PySem.W.Frag} {mg:Str → Option Value} {base:Heap}
theorem sR.ok {x qual:Str} {st:Stmt} {f:Addr} {fd:FuncData} {N ps:List Str} {k:Nat} {sp:Sp} (F:sR K x qual st f fd) (S:aS N ps (aK st)) (len:∀ vs H Q E,sp vs H Q E → vs.length = ps.length)
  (hbody:∀ (cdv:Value) (A:Around) (outer:List Env) (s:Shared) (H:Hp) (vs:List V) (Q:VK) (E:XK),cA k (A.deeper (envOfC qual (aK st) s.heap.objs.size f cdv)) → sp vs H Q E →
   ∃ t,jr (iX fN P w K mg base N qual (aK st) f cdv A outer s H E).xS (cK st) t ∧ t { nx:=fun _ H'=>Q .bI H',rt:=Q } (start N vs) H):ar P w K mg base fN (k + 1) f fd ps sp:=by
 obtain ⟨oc,od,kV,doc,pm,an,cdv,ct,osl,rfl,lk,hcd⟩:=F.ex
 refine ur lk hcd S len fun A outer s H vs Q E hr hsp=>?_
 obtain ⟨t,h,q⟩:=hbody cdv A outer s H vs Q E hr hsp
 exact ⟨t,h.xS,q⟩
theorem sR.binds {x qual:Str} {st:Stmt} {f:Addr} {fd:FuncData} {ps:List Str} (F:sR K x qual st f fd)
  (h:∀ (kV doc pm:Value) (an:Option Addr) (cdv ct:Value) (us:List Value),us.length = ps.length → bindArgs (PySem.W.fnOf x qual (cn st) (cK st) (aK st) .none kV doc pm an cdv ct) ⟨us,[]⟩ = pure (ps.zip us)):Binds K fd ps []:=by
 obtain ⟨oc,od,kV,doc,pm,an,cdv,ct,osl,rfl,lk,hcd⟩:=F.ex
 exact .all (h kV doc pm an cdv ct)
theorem di {x qual:Str} {st:Stmt} {f:Addr} {oc:Value} {od an:Option Addr} {osl:Array (Option Value)} {kV doc pm cdv ct:Value} (l:K.lookup f = some ⟨oc,od,.func (PySem.W.fnOf x qual (cn st) (cK st) (aK st) .none kV doc pm an cdv ct),osl⟩)
  (c:PySem.W.codeIn K cdv qual = true) (k:PySem.W.keepIn K (.ref f) = true):sR K x qual st f (PySem.W.fnOf x qual (cn st) (cK st) (aK st) .none kV doc pm an cdv ct):=⟨⟨oc,od,kV,doc,pm,an,cdv,ct,osl,rfl,l,c⟩,k⟩
end
theorem bz {A:Around} {k:Nat} (hr:cA k A):A.units + 1 < cLine:=Nat.lt_of_le_of_lt (Nat.add_le_add_left (by decide:1 ≤ 64) _) hr.units
section
variable {X:Cx}
theorem pv (i:Nat) {x:Str} {pos:Pos} (hN:X.N[i]? = some x:=by rfl) (hv:BA X.env.scope x:=by first | exact Or.inl rfl | exact Or.inr (Or.inl rfl) | exact Or.inr (Or.inr rfl)) (hd:(x == ("__debug__" : Str)) = false:=by decide)
  (hcd:(x == ("__classdict__" : Str)) = false:=by decide):PE X (.Name x pos) (AX i):=by
 first
 | exact (vj hN hv hd hcd)
 | (unfold PE at *; exact (vj hN hv hd hcd))
end
theorem aq {A B:Prop} (h:B):if false = true then A else B:=by
 rw [if_neg Bool.false_ne_true]
 exact h
theorem bK {A B:Prop} (h:A):if true = true then A else B:=by
 rw [if_pos rfl]
 exact h
theorem bf {c A B:Prop} [Decidable c] (h1:c → A) (h2:¬ c → B):if c then A else B:=by
 by_cases h:c
 ·rw [if_pos h]
  exact h1 h
 ·rw [if_neg h]
  exact h2 h
def aG (H H':Hp):Prop:=∀ b o,H b = some o → H' b = some o
theorem aG.refl (H:Hp):aG H H:=fun _ _ h=>h
theorem aG.trans {H H1 H2:Hp} (a:aG H H1) (b:aG H1 H2):aG H H2:=fun c o h=>b c o (a c o h)
theorem aG.free {H H':Hp} (e:aG H H') {l:Addr} (h:H' l = Option.none):H l = Option.none:=by
 cases q:H l with
 | none=>rfl
 | some o =>
  rw [e l o q] at h
  cases h
theorem aG.seq {K:PySem.W.Frag} {H H':Hp} {a:Addr} {xs:List V} (e:aG H H') (h:ah K H a xs):ah K H' a xs:=by
 rcases h with (h | ⟨o,h⟩) | h
 ·exact .inl (.inl (e _ _ h))
 ·exact .inl (.inr ⟨o,e _ _ h⟩)
 ·exact .inr h
section
variable {κ:Type} [DecidableEq κ]
end
end L2
set_option maxHeartbeats 4000000
namespace L2
open PySem PySem.Spec PyProof.Rows
section
variable {X:Cx} {a b c:Expr} {ta tb tc:TE} {pos:Pos}
inductive uS:V → Value → Prop where
 | ty (n:String):uS (.ty n) (.type n)
 | own (C:Addr):uS (.ref C) (.ref C)
def AS (K:PySem.W.Frag):List V → Hp → VK → Prop:=fun xs H Q=>∃ x c cv t b,xs = [x,c] ∧ uS c cv ∧ dP K H x t ∧ PySem.W.kitOne K t cv = some b ∧ Q (.bl b) H
theorem og:b6 X (.builtin "isinstance") (AS X.K):=by
 unfold b6 at *
 exact by
  intro pins s σ H xs us Q I rv h
  obtain ⟨x,c,cv,t,b,rfl,hc,ty,e,q⟩:=h
  obtain ⟨u,cu,rfl,ru,rc⟩:=rv.two
  have ec:cu = cv:=by cases hc <;> exact rc
  subst ec
  exact sO I ru ty e fun tk=>⟨.bl b,H,I.tok tk,rfl,q⟩
end
end L2
namespace L2
open PySem PySem.Spec PyProof.Rows
/- what a block's context hangs on: the closure's cells,the state and abstract heap ahead of the block,the iterator's records -/
set_option genInjectivity false in
set_option genSizeOfSpec false in
set_option genSizeOf false in
structure Bk where
 cl:List (Str × Addr)
 s2:Shared
 H2:Hp
 fp:List Addr
def bx (X:Cx) (scope:Scope) (N':List Str) (B:Bk):Cx :=
 { X with N:=N',s₀:=B.s2,H₀:=B.H2,env:=compEnvC scope B.cl B.s2.heap.objs.size X.env,outer:=X.stack,stack:=X.stack,ex:=B.fp,fn:=fun _=>false,pn:=[],xe:=fun _ _=>False }
def zE (js:List (Option Nat)) (σ:St):St:=js.map fun o=>o.bind fun j=>(σ[j]?).join
structure zU (X:Cx) (scope:Scope) (N':List Str) (js:List (Option Nat)):Prop where
 len:js.length = N'.length
 ok:∀ (i j:Nat) (x:Str),js[i]? = some (some j) → N'[i]? = some x → X.N[j]? = some x ∧ scope.names.lookup x = some .free ∧ (X.env.kindOf x = some .cell ∨ X.env.kindOf x = some .free)
theorem qR {env : Env} : ∀ (names : List (Str × NameKind)) (cs : List (Str × Addr)), (∀ x ∈ names, x.2 = .free → ∃ c, env.cells.lookup x.1 = some c) → (∀ x c, cs.lookup x = some c → env.cells.lookup x = some c) →
    ∃ cl, (forIn names cs (fun (x : Str × NameKind) (r : List (Str × Addr)) => match x with
      | (name, kind) => if (kind == NameKind.free) = true then (do let y ← cellOf env name; pure (ForInStep.yield ((name, y) :: r))) else pure (ForInStep.yield r)) : Sem (List (Str × Addr))) = pure cl ∧
      (∀ x c, cl.lookup x = some c → env.cells.lookup x = some c) ∧ (∀ x c, cs.lookup x = some c → ∃ c', cl.lookup x = some c') ∧ ∀ x, (x, NameKind.free) ∈ names → ∃ c, cl.lookup x = some c := by
  intro names
  induction names with
  | nil => intro cs _ h2; exact ⟨cs, rfl, h2, fun x c e => ⟨c, e⟩, fun x hx => absurd hx (by simp)⟩
  | cons y r ih =>
    intro cs h1 h2
    obtain ⟨n, k⟩ := y
    have h1r : ∀ x ∈ r, x.2 = .free → ∃ c, env.cells.lookup x.1 = some c := fun x hx => h1 x (List.mem_cons_of_mem _ hx)
    by_cases hk : k = .free
    · subst hk
      obtain ⟨c, hc⟩ := h1 (n, .free) List.mem_cons_self rfl
      have h2' : ∀ x d, List.lookup x ((n, c) :: cs) = some d → env.cells.lookup x = some d := fun x d e => by
        by_cases hx : x = n
        · subst hx
          simp only [List.lookup_cons, beq_self_eq_true] at e
          rw [hc]; exact e
        · have hb : (x == n) = false := by simpa using hx
          simp only [List.lookup_cons, hb] at e
          exact h2 x d e
      obtain ⟨cl, e1, e2, e3, e4⟩ := ih ((n, c) :: cs) h1r h2'
      refine ⟨cl, ?_, e2, fun x d e => ?_, fun x hx => ?_⟩
      · rw [List.forIn_cons]
        have q : cellOf env n = pure c := by unfold cellOf; rw [hc]
        show ((if (NameKind.free == NameKind.free) = true then (do let y ← cellOf env n; pure (ForInStep.yield ((n, y) :: cs))) else pure (ForInStep.yield cs)) >>= _) = _
        rw [if_pos (by decide), q]
        exact e1
      · by_cases hx : x = n
        · exact e3 x c (by subst hx; simp [List.lookup_cons])
        · exact e3 x d (by have hb : (x == n) = false := by simpa using hx
                           simp only [List.lookup_cons, hb]; exact e)
      · rcases List.mem_cons.mp hx with z | z
        · injection z with z1 _
          exact e3 x c (by subst z1; simp [List.lookup_cons])
        · exact e4 x z
    · obtain ⟨cl, e1, e2, e3, e4⟩ := ih cs h1r h2
      refine ⟨cl, ?_, e2, e3, fun x hx => ?_⟩
      · rw [List.forIn_cons]
        have hb : (k == NameKind.free) = false := by simpa using hk
        show ((if (k == NameKind.free) = true then _ else pure (ForInStep.yield cs)) >>= _) = _
        rw [if_neg (by rw [hb]; decide)]
        exact e1
      · rcases List.mem_cons.mp hx with z | z
        · injection z with _ z2
          exact absurd z2.symm hk
        · exact e4 x z
theorem kg {scope:Scope} {env:Env} (h:∀ x ∈ scope.names,x.2 = .free → ∃ c,env.cells.lookup x.1 = some c) :
  ∃ cl,closureFor scope env = pure cl ∧ (∀ x c,cl.lookup x = some c → env.cells.lookup x = some c) ∧ ∀ x,(x,NameKind.free) ∈ scope.names → ∃ c,cl.lookup x = some c:=by
 obtain ⟨cl,e1,e2,_,e4⟩:=qR (env:=env) scope.names [] h (fun x c e=>by simp at e)
 refine ⟨cl,?_,e2,e4⟩
 have q:closureFor scope env = (forIn scope.names [] (fun (x:Str × NameKind) (r:List (Str × Addr))=>match x with
   | (name,kind)=>if (kind == NameKind.free) = true then (do let y ← cellOf env name; pure (ForInStep.yield ((name,y) :: r))) else pure (ForInStep.yield r)):Sem (List (Str × Addr))) >>= fun r=>pure r:=rfl
 rw [q,e1]
 rfl
theorem ie {env:Env}:∀ {names:List (Str × NameKind)} {x:Str},names.lookup x = some .free →
  (names.map fun (n,k)=>if (k == NameKind.free && env.scope.kind == .function && env.kindOf n == some .cell) then (n,NameKind.cell) else (n,k)).lookup x = some .cell ∨
  (names.map fun (n,k)=>if (k == NameKind.free && env.scope.kind == .function && env.kindOf n == some .cell) then (n,NameKind.cell) else (n,k)).lookup x = some .free
 | [],_,h=>by simp at h
 | (n,k) :: r,x,h=>by
  have ih:=@ie env r x
  simp only [List.map_cons]
  cases hx:x == n with
  | true =>
   simp only [List.lookup_cons,hx] at h
   cases h
   by_cases hc:(NameKind.free == NameKind.free && env.scope.kind == .function && env.kindOf n == some .cell) = true
   ·rw [if_pos hc]; left; simp only [List.lookup_cons,hx]
   ·rw [if_neg hc]; right; simp only [List.lookup_cons,hx]
  | false =>
   simp only [List.lookup_cons,hx] at h
   by_cases hc:(k == NameKind.free && env.scope.kind == .function && env.kindOf n == some .cell) = true
   ·rw [if_pos hc]; simp only [List.lookup_cons,hx]; exact ih h
   ·rw [if_neg hc]; simp only [List.lookup_cons,hx]; exact ih h
theorem j4 {env:Env}:∀ {names:List (Str × NameKind)} {x:Str},
  ((names.map fun (n,k)=>if (k == NameKind.free && env.scope.kind == .function && env.kindOf n == some .cell) then (n,NameKind.cell) else (n,k)).lookup x = some .cell ∨
  (names.map fun (n,k)=>if (k == NameKind.free && env.scope.kind == .function && env.kindOf n == some .cell) then (n,NameKind.cell) else (n,k)).lookup x = some .free) →
  names.lookup x = some .cell ∨ names.lookup x = some .free
 | [],_,h=>by simp at h
 | (n,k) :: r,x,h=>by
  have ih:=@j4 env r x
  simp only [List.map_cons] at h
  cases hx:x == n with
  | true =>
   simp only [List.lookup_cons,hx]
   by_cases hc:(k == NameKind.free && env.scope.kind == .function && env.kindOf n == some .cell) = true
   ·right
    have:k = .free:=by
     simp only [Bool.and_eq_true] at hc
     simpa using hc.1.1
    rw [this]
   ·rw [if_neg hc] at h
    simp only [List.lookup_cons,hx] at h
    exact h
  | false =>
   simp only [List.lookup_cons,hx]
   apply ih
   by_cases hc:(k == NameKind.free && env.scope.kind == .function && env.kindOf n == some .cell) = true
   ·rw [if_pos hc] at h; simp only [List.lookup_cons,hx] at h; exact h
   ·rw [if_neg hc] at h; simp only [List.lookup_cons,hx] at h; exact h
theorem qT {X:Cx} {pins:List (Addr × Obj)} {σ:St} {H2:Hp} {s2:Shared} {scope:Scope} {cl:List (Str × Addr)} {N':List Str} {js:List (Option Nat)} {fp:List Addr} {h':Heap} {t':Nat} {m0:Str → Option Value}
  (I:Inv X pins σ H2 s2) (hk:scope.kind = .function) (hcell:∀ y ∈ scope.names,y.2 ≠ .cell)
  (hf:∀ b ∈ fp,kP X pins H2 b) (ho:∀ b ∈ fp,∃ o,s2.heap.get? b = some o)
  (c1:∀ x c,cl.lookup x = some c → X.env.cells.lookup x = some c) (c2:∀ x,(x,NameKind.free) ∈ scope.names → ∃ c,cl.lookup x = some c)
  (cap:zU X scope N' js) (ns:h'.Ns s2.heap.objs.size m0) (sb:∀ b o,s2.heap.get? b = some o → h'.get? b = some o) :
  Inv (bx X scope N' ⟨cl,s2,H2,fp⟩) [] (zE js σ) H2 { s2 with heap:=h',toks:=t' }:=by
 have isc:∀ c v,s2.heap.IsCell c v → h'.IsCell c v:=fun c v ⟨o,e,d⟩=>⟨o,sb _ _ e,d⟩
 refine ⟨⟨I.ok.mod,hk,I.ok.glob,I.ok.blt,Nat.le_refl _,fun x y c h1 h2=>I.ok.inj x y c (c1 x c h1) (c1 y c h2),fun x hx=>?_,fun x c h=>absurd h (by simp [bx]),I.ok.hd,I.ok.frames,.inl rfl,fun b hb=>⟨?_,fun x c e=>?_⟩,I.bs,Nat.le_trans I.ok.bsz I.sz,
  fun b o e hb=>?_,fun b hb hs=>?_,I.stack,I.gn⟩,rfl,I.bare,Un.kept sb,⟨m0,ns,fun i x v e1 e2 e3=>?_⟩,fun x c e=>?_,I.hok.fresh (Nat.le_refl _),fun x c e=>I.freeC x c (c1 x c e),fun p hp=>absurd hp (by simp [bx]),I.hok.kept sb,?_⟩
 ·have hx':=j4 (env:=X.env) (names:=scope.names) (x:=x) hx
  rcases hx' with z | z
  ·exact absurd rfl (hcell _ (PySem.mem_of_lookup z))
  ·exact c2 x (PySem.mem_of_lookup z)
 ·obtain ⟨o,e⟩:=ho b hb
  exact Nat.ne_of_lt (Heap.lt_size e)
 ·exact (hf b hb).2.2.2.2.1 x c (c1 x c e)
 ·rcases (hf b hb).2.2.2.1 with z | z
  ·exact I.ok.noex b o e z
  ·exact absurd (Nat.lt_of_lt_of_le (Heap.lt_size e) (Nat.le_trans I.ok.bsz z)) (Nat.lt_irrefl _)
 ·rcases List.mem_cons.mp (I.qi b hs) with z | z
  ·exact (hf b hb).2.1 z
  ·exact (hf b hb).2.2.1 z
 ·have e2':((js.map fun o=>o.bind fun j=>(σ[j]?).join):St)[i]? = some (some v):=e2
  rw [List.getElem?_map] at e2'
  cases q:js[i]? with
  | none=>rw [q] at e2'; cases e2'
  | some o =>
   rw [q] at e2'
   cases o with
   | none=>simp at e2'
   | some j =>
    have q2:(σ[j]?).join = some v:=by simpa using e2'
    have q3:σ[j]? = some (some v):=by
     cases z:σ[j]? with
     | none=>rw [z] at q2; cases q2
     | some w=>rw [z] at q2; exact congrArg some q2
    obtain ⟨n1,n2,n3⟩:=cap.ok i j x q e1
    obtain ⟨m,hm,hl⟩:=I.loc
    obtain ⟨u,r,l⟩:=hl j x v n1 q3 (.inr n3)
    refine ⟨u,r,.inr ⟨ie (env:=X.env) n2,?_⟩⟩
    obtain ⟨c,hc⟩:=c2 x (PySem.mem_of_lookup n2)
    refine ⟨c,hc,?_⟩
    rcases l with ⟨l,_⟩ | ⟨_,c',e',z'⟩
    ·rcases n3 with n3 | n3 <;> (rw [n3] at l; cases l)
    ·have:=c1 x c hc
     rw [e'] at this; cases this
     exact isc _ _ z'
 ·obtain ⟨v,z⟩:=I.cell x c (c1 x c e)
  exact ⟨v,isc _ _ z⟩
 ·show (js.map _).length = N'.length
  rw [List.length_map]; exact cap.len
@[irreducible] def pW (X:Cx) (ifs:List Expr) (t:TT):Prop :=
 ∀ (pins:List (Addr × Obj)) (s:Shared) (σ:St) (H:Hp) (Q:Bool → Hp → Prop),Inv X pins σ H s → t σ H Q →
  wpAny (model X.prog X.w) X.A (forIn ifs true fun c r=>if r = true then do let ok ← isTrue c X.env (eval c X.env); pure (ForInStep.yield ok) else pure (ForInStep.yield r)) (TP X pins σ Q) X.xe s
def yX:TT:=fun _ H Q=>Q true H
theorem dO {X:Cx}:pW X [] yX:=by
 first
 | exact (fun _ _ _ H _ I h=>wpAny_tests_nil ⟨H,I,h⟩)
 | (unfold pW at *; exact (fun _ _ _ H _ I h=>wpAny_tests_nil ⟨H,I,h⟩))
theorem cC {X:Cx} {c:Expr} {t:TT} (hc:PT X c t):pW X [c] t:=by
 first
 | exact (fun pins s σ H Q I h=>wpAny_tests_one (hc pins s σ H Q I h))
 | (unfold PT at *; unfold pW at *; exact (fun pins s σ H Q I h=>wpAny_tests_one (hc pins s σ H Q I h)))
section
variable {prog:Program} {w:World} {A:Around} {R:Result → Shared → Prop} {s:Shared}
theorem oZ {elt target iter:Expr} {ifs:List Expr} {scope:Scope} {pos:Pos} {it acc:Value} {env:Env} (I:Nat → Shared → Prop)
  (turn:∀ n s,I n s → wpAny (model prog w) A (pyNext it) (fun r s₁=>match r with
   | none=>R (.ok .next) s₁
   | some v=>wpAny (model prog w) A (letOwnedTupleGo target it v) (fun _ s₁=>wpAny (model prog w) A (assign target env v) (fun _ s₂ =>
     wpAny (model prog w) A (forIn ifs true fun c r=>if r = true then do let ok ← isTrue c env (eval c env); pure (ForInStep.yield ok) else pure (ForInStep.yield r)) (fun ok s₃ =>
      if ok = true then wpAny (model prog w) A (eval elt env) (fun x s₄ =>
       wpAny (model prog w) A (call (.builtin "list.append") [acc,x]) (fun _ s₅=>∃ m,m < n ∧ I m s₅) (fun _ _=>False) s₄) (fun _ _=>False) s₃
      else ∃ m,m < n ∧ I m s₃) (fun _ _=>False) s₂) (fun _ _=>False) s₁) (fun _ _=>False) s₁) (fun _ _=>False) s)
  (n:Nat) (h:I n s) :
  codeAny (model prog w) A (.compLoop (.ListComp elt [⟨target,iter,ifs,0⟩] scope pos) 0 it acc env) R s:=by
 refine codeAny_loop rfl I (fun n s hI=>?_) n h
 show wpAny _ A ((compTurn (.ListComp elt [⟨target,iter,ifs,0⟩] scope pos) 0 it acc env).onRaise (fun x=>do noteFrame x env; theTreesLotGoes x)) _ _ s
 refine wpAny_noted ?_
 rw [compTurn_list]
 refine wpAny_bind (wpAny_standAt (wpAny_bind (wpAny_mono (turn n s hI) (fun r s₁ h₁=>?_) fun _ _ h'=>h'.elim)))
 cases r with
 | none=>exact wpAny_pure h₁
 | some v =>
  refine wpAny_bind (wpAny_mono h₁ (fun _ s₁ h₁=>?_) fun _ _ h'=>h'.elim)
  refine wpAny_bind (wpAny_mono h₁ (fun _ s₂ h₂=>wpAny_bind (wpAny_mono h₂ (fun ok s₃ h₃=>?_) fun _ _ h'=>h'.elim)) fun _ _ h'=>h'.elim)
  cases ok with
  | false=>exact wpAny_pure ⟨rfl,h₃⟩
  | true =>
   exact wpAny_bind (wpAny_bind (wpAny_mono h₃ (fun x s₄ h₄=>wpAny_bind (wpAny_mono h₄ (fun _ s₅ h₅=>wpAny_pure (wpAny_pure ⟨rfl,h₅⟩)) fun _ _ h'=>h'.elim)) fun _ _ h'=>h'.elim))
end
def kC (J:It) (l:Addr) (g:TG) (tc:TT) (te:TE) (σ:St) (H:Hp) (Q:VK):Prop :=
 ∃ W:Nat → Nat → St → List V → Hp → Prop,(∃ m,W 0 m σ [] H) ∧ ∀ i m σ acc H,W i m σ acc H → H l = some (.lst acc) ∧ ((J.stop i H ∧ Q (.ref l) H) ∨
  (J.go i H ∧ acc.length < sizeLine ∧ ∀ x H',J.yld i H x H' → g x σ H' fun σ2 H2=>tc σ2 H2 fun b H3=>if b = true then
   te σ2 H3 fun v H4=>H4 l = some (.lst acc) ∧ ∃ m',m' < m ∧ W (i + 1) m' σ2 (acc ++ [v]) (upd H4 l (.lst (acc ++ [v])))
   else ∃ m',m' < m ∧ W (i + 1) m' σ2 acc H3))
def xU (js:List (Option Nat)) (wi:TI) (g:Bk → TG) (tc:Bk → TT) (te:Bk → TE):TE:=fun σ H Q=>wi σ H fun J H1=>∀ l B,H1 l = none → kC J l (g B) (tc B) (te B) (zE js σ) (upd H1 l (.lst [])) Q
section
variable {X:Cx} {elt tg iter:Expr} {ifs:List Expr} {scope:Scope} {pos:Pos} {N':List Str} {js:List (Option Nat)} {wi:TI} {g:Bk → TG} {tc:Bk → TT} {te:Bk → TE}
theorem kc {pins:List (Addr × Obj)} {σ:St} {H1:Hp} {s1:Shared} {it:Addr} {fp:List Addr} {tn:Nat → Heap → Prop} {J:It} {cl:List (Str × Addr)} {Q:VK} {RR:Value → Addr → Result → Shared → Prop}
  (hc:X.calm = true) (hk:scope.kind = .function) (hcell:∀ y ∈ scope.names,y.2 ≠ .cell) (cap:zU X scope N' js)
  (blk:∀ B,PG (bx X scope N' B) tg (g B) ∧ pW (bx X scope N' B) ifs (tc B) ∧ PE (bx X scope N' B) elt (te B))
  (c1:∀ x c,cl.lookup x = some c → X.env.cells.lookup x = some c) (c2:∀ x,(x,NameKind.free) ∈ scope.names → ∃ c,cl.lookup x = some c)
  (I:Inv X pins σ H1 s1) (T:Turn X.prog X.w X.K tg J fp it tn) (st:tn 0 s1.heap) (hf:∀ b ∈ fp,kP X pins H1 b)
  (h:∀ l B,H1 l = none → kC J l (g B) (tc B) (te B) (zE js σ) (upd H1 l (.lst [])) Q)
  (hRR:∀ l C H' s' (m':Str → Option Value),Inv X pins σ H' s' → Q (.ref l) H' → s'.heap.Ns C m' → H' C = none → C ≠ X.env.locals → (∀ x c,X.env.cells.lookup x = some c → c ≠ C) → C ∉ X.fs → X.s₀.heap.objs.size ≤ C → (∀ p ∈ X.pn ++ pins,p.1 ≠ C) →
   RR (.ref l) C (.ok .next) s') :
  wpAny (model X.prog X.w) X.A (newList []) (fun acc s₃=>wpAny (model X.prog X.w) X.A (newFunctionEnv scope X.env.globals cl [] X.env.qual none .none (some X.env)) (fun cenv s₄ =>
   codeAny (model X.prog X.w) X.A (.compStart (.ListComp elt [⟨tg,iter,ifs,0⟩] scope pos) 0 (.ref it) acc { cenv with scope:=relabel scope X.env }) (RR acc cenv.locals) s₄) X.xe s₃) X.xe s1:=by
 unfold PE at *; unfold PG at *; unfold pW at *
 exact by
  refine wpAny_newObj_type ?_
  have I2:Inv X pins σ (upd H1 s1.heap.objs.size (.lst [])) { s1 with heap:=s1.heap.push { cls:=.type "list",data:=.seq ([]:List Value).toArray } }:=I.zx (t':=s1.toks) .nil (Nat.zero_le _)
  have hl:H1 s1.heap.objs.size = none:=I.fresh
  generalize es2:({ s1 with heap:=s1.heap.push { cls:=.type "list",data:=.seq ([]:List Value).toArray } }:Shared) = s2 at I2 ⊢
  generalize el:s1.heap.objs.size = l at *
  have ne_fp:∀ b ∈ fp,b ≠ l:=fun b hb=>by
   obtain ⟨o,e,_⟩:=T.obj _ _ st b hb
   rw [← el]
   exact Nat.ne_of_lt (Heap.lt_size e)
  have hf2:∀ b ∈ fp,kP X pins (upd H1 l (.lst [])) b:=fun b hb=>⟨by rw [aI (ne_fp b hb)]; exact (hf b hb).1,(hf b hb).2⟩
  have kp:∀ b o,s1.heap.get? b = some o → s2.heap.get? b = some o:=fun b o e=>by rw [← es2]; exact Heap.get?_push_of_some _ e
  have st2:tn 0 s2.heap:=T.keep _ _ _ st fun b _ o e=>kp b o e
  refine wpAny_newFunctionEnv hcell (by intro y hy; simp at hy) (fun h' ns sb=>?_) hk
  have kp2:∀ b o,s2.heap.get? b = some o → h'.get? b = some o:=fun b o e=>(sb.2 b (Nat.ne_of_lt (Heap.lt_size e))).trans (Heap.get?_push_of_some _ e)
  have st3:tn 0 h':=T.keep _ _ _ st2 fun b _ o e=>kp2 b o e
  have I3:=qT (t':=s2.toks + ([]:List (Str × Value)).length) (m0:=fun x=>([]:List (Str × Value)).reverse.lookup x) I2 hk hcell hf2 (fun b hb=>by obtain ⟨o,e,_⟩:=T.obj _ _ st2 b hb; exact ⟨o,e⟩) c1 c2 cap ns kp2
  obtain ⟨pg,pif,pel⟩:=blk ⟨cl,s2,upd H1 l (.lst []),fp⟩
  obtain ⟨W,⟨m0,w0⟩,turn⟩:=h l ⟨cl,s2,upd H1 l (.lst []),fp⟩ hl
  have fpY:∀ {H':Hp},(∀ b ∈ fp,H' b = none) → ∀ b ∈ fp,kP (bx X scope N' ⟨cl,s2,upd H1 l (.lst []),fp⟩) [] H' b:=fun {H'} hn b hb =>
   ⟨hn b hb,(I3.ok.exf b hb).1,I3.ok.exfs b hb,.inl hb,(I3.ok.exf b hb).2,fun p hp=>absurd hp (by simp [bx])⟩
  have loop:codeAny (model X.prog X.w) X.A (.compLoop (.ListComp elt [⟨tg,iter,ifs,0⟩] scope pos) 0 (.ref it) (.ref l) (compEnvC scope cl s2.heap.objs.size X.env)) (RR (.ref l) s2.heap.objs.size) { s2 with heap:=h',toks:=s2.toks + ([]:List (Str × Value)).length }:=by
   refine oZ (fun n s'=>∃ i σ' acc H',Inv (bx X scope N' ⟨cl,s2,upd H1 l (.lst []),fp⟩) [] σ' H' s' ∧ tn i s'.heap ∧ (∀ b ∈ fp,H' b = none) ∧ W i n σ' acc H') ?_ m0 ⟨0,_,_,_,I3,st3,fun b hb=>(hf2 b hb).1,w0⟩
   rintro n s3 ⟨i,σ3,acc,H3,J3,t3,f3,w3⟩
   obtain ⟨hacc,alt⟩:=turn i n σ3 acc H3 w3
   rcases alt with ⟨stop,q⟩ | ⟨go,hz,step⟩
   ·refine bS (T.done (bx X scope N' ⟨cl,s2,upd H1 l (.lst []),fp⟩) rfl rfl rfl hc i [] s3 σ3 H3 (fun _ _=>False) J3 (fpY f3) t3 stop) fun r s4 ⟨hr,J4⟩=>?_
    subst hr
    have IX:Inv X pins σ H3 s4:=I2.AR (ch:=fp) J4.os J4.base J4.hok J4.bare fun b hb=>⟨(hf2 b hb).2.2.2.1,(hf2 b hb).2.1,(hf2 b hb).2.2.2.2.1,(hf2 b hb).2.2.2.2.2⟩
    obtain ⟨m',hn',_⟩:=J4.loc
    refine hRR l s2.heap.objs.size H3 s4 m' IX q hn' J4.free (Nat.ne_of_gt I2.lt) (fun x c e=>?_) (I2.zX (Nat.le_refl _)) I2.sz fun p hp=>Nat.ne_of_lt (Heap.lt_size (I2.pin p hp).1)
    obtain ⟨v,z⟩:=I2.cell x c e
    exact Nat.ne_of_lt z.lt
   ·refine bS (T.item (bx X scope N' ⟨cl,s2,upd H1 l (.lst []),fp⟩) rfl rfl rfl hc i [] s3 σ3 H3 (fun _ _=>False) J3 (fpY f3) t3 go) fun r s4 ⟨u,hr,h4⟩=>?_
    subst hr
    refine bS h4 fun _ s5 ⟨x,H5,J5,r5,y5,t5,f5⟩=>?_
    have J5':=J5.pinned (fpY f5) (T.obj _ _ t5)
    refine bS (pg _ s5 σ3 H5 x u _ J5' r5 (step x H5 y5)) fun _ s6 ⟨σ6,H6,J6,q6⟩=>?_
    refine bS (pif _ s6 σ6 H6 _ J6 q6) fun ok s7 ⟨H7,J7,q7⟩=>?_
    have again:∀ {σ8:St} {H8:Hp} {s8:Shared} {acc8:List V},Inv (bx X scope N' ⟨cl,s2,upd H1 l (.lst []),fp⟩) ([] ++ lG fp s5.heap) σ8 H8 s8 → (∃ m',m' < n ∧ W (i + 1) m' σ8 acc8 H8) →
      ∃ m,m < n ∧ ∃ i σ' acc H',Inv (bx X scope N' ⟨cl,s2,upd H1 l (.lst []),fp⟩) [] σ' H' s8 ∧ tn i s8.heap ∧ (∀ b ∈ fp,H' b = none) ∧ W i m σ' acc H':=fun {σ8 H8 s8 acc8} J8 hw=>by
     obtain ⟨m',hm,w8⟩:=hw
     refine ⟨m',hm,i + 1,σ8,acc8,H8,J8.i7,T.keep _ _ _ t5 fun b hb o e=>(J8.pin (b,o) (List.mem_append_right _ (List.mem_append_right _ (fh hb e)))).1,fun b hb=>?_,w8⟩
     obtain ⟨o,e,d⟩:=T.obj _ _ t5 b hb
     exact (J8.pin (b,o) (List.mem_append_right _ (List.mem_append_right _ (fh hb e)))).2.1
    cases ok with
    | false=>exact again J7 q7
    | true =>
     refine bS (pel _ s7 σ6 H7 _ J7 q7) fun xv s8 ⟨v,H8,J8,r8,hl8,m',hm,w8⟩=>?_
     have mtq:=dW (X:=bx X scope N' ⟨cl,s2,upd H1 l (.lst []),fp⟩)
     unfold t9 at mtq
     refine bS (mtq _ s8 σ6 H8 (.ref l) [v] (.ref l) [xv] (fun _ H9=>H9 = upd H8 l (.lst (acc ++ [v]))) J8 rfl (.cons r8 .nil) ⟨l,acc,v,rfl,rfl,hl8,hz,rfl⟩) fun _ s9 ⟨v9,H9,J9,_,e9⟩=>?_
     subst e9
     exact again J9 ⟨m',hm,w8⟩
  exact codeAny_compStart_list loop (T.self X.A 0 _ _ _ st3 loop)
theorem cX (hc:X.calm = true) (hk:scope.kind = .function) (hcell:∀ y ∈ scope.names,y.2 ≠ .cell) (hnames:∀ y ∈ scope.names,y.2 = .local → scope.names.lookup y.1 = some .local)
  (hfree:∀ y ∈ scope.names,y.2 = .free → (X.env.kindOf y.1 = some .cell ∨ X.env.kindOf y.1 = some .free)) (cap:zU X scope N' js) (hi:PI X tg iter wi)
  (blk:∀ B,PG (bx X scope N' B) tg (g B) ∧ pW (bx X scope N' B) ifs (tc B) ∧ PE (bx X scope N' B) elt (te B))
  (hs:∀ x,foldedSetIterable iter X.env x = pure x:=by intro _; rfl):PE X (.ListComp elt [⟨tg,iter,ifs,0⟩] scope pos) (xU js wi g tc te):=by
 unfold PE; unfold PI at hi
 exact by
  intro pins s σ H Q I h
  obtain ⟨cl,hcl,c1,c2⟩:=kg (scope:=scope) (env:=X.env) fun x hx hxf=>I.ok.has x.1 (hfree x hx hxf)
  rw [eval_ListComp]
  refine wpAny_comprehension_free (use:=none) rfl hs hcl hk hnames (bS (hi pins s σ H _ I h) fun v s1 h1=>bS h1 fun itv s2 h2=>?_)
  obtain ⟨it,fp,tn,J,H2,e,I2,T,st2,f2,hloop⟩:=h2
  subst e
  refine kc (RR:=fun acc C=>compPost (model X.prog X.w) X.A X.xe none (EP X pins σ Q) acc C) hc hk hcell cap blk c1 c2 I2 T st2 f2 hloop ?_
  intro l C H' s' m' I' q ns fC hL hcl' hfs hs0 hpin
  exact ⟨m',ns,fun h'' sb=>⟨.ref l,H',I'.turned (t':=s'.toks) (fun b o hb e=>(sb.2 b hb).trans e) fC hL (.inr hs0) hcl' hpin,rfl,q⟩⟩
theorem cM {i:Nat} {y:Str} {py spos:Pos} (hN:X.N.Nodup) (hy:X.N[i]? = some y) (hyk:X.env.kindOf y = some .local) (hc:X.calm = true) (hk:scope.kind = .function) (hcell:∀ y ∈ scope.names,y.2 ≠ .cell)
  (hnames:∀ y ∈ scope.names,y.2 = .local → scope.names.lookup y.1 = some .local)
  (hfree:∀ y ∈ scope.names,y.2 = .free → (X.env.kindOf y.1 = some .cell ∨ X.env.kindOf y.1 = some .free)) (cap:zU X scope N' js) (hi:PI X tg iter wi)
  (blk:∀ B,PG (bx X scope N' B) tg (g B) ∧ pW (bx X scope N' B) ifs (tc B) ∧ PE (bx X scope N' B) elt (te B))
  (hsw:swapsWith (.ListComp elt [⟨tg,iter,ifs,0⟩] scope pos) (some (.Name y py)) spos.line X.env = pure true:=by rfl)
  (hs:∀ x,foldedSetIterable iter X.env x = pure x:=by intro _; rfl):PS X (.Assign [.Name y py] (.ListComp elt [⟨tg,iter,ifs,0⟩] scope pos) spos) (yc (xU js wi g tc te) (vd i)):=by
 unfold PS; unfold PI at hi
 exact by
  intro pins s σ H D I h
  obtain ⟨cl,hcl,c1,c2⟩:=kg (scope:=scope) (env:=X.env) fun x hx hxf=>I.ok.has x.1 (hfree x hx hxf)
  rw [exec_Assign_Name_used _ _ _ _ hsw]
  refine wpAny_bind (wpAny_standAt (wpAny_bind ?_))
  show wpAny _ X.A (do let _ ← comprehension (.ListComp elt [⟨tg,iter,ifs,0⟩] scope pos) scope X.env _ (newList []) false (eval iter X.env) (some (assign (.Name y py) X.env))) _ _ s
  refine wpAny_bind (wpAny_mono (wpAny_comprehension_free (use:=some (assign (.Name y py) X.env)) (Q:=fun _ s'=>SP X pins D .next s') rfl hs hcl hk hnames
   (bS (hi pins s σ H _ I h) fun v s1 h1=>bS h1 fun itv s2 h2=>?_)) (fun _ s' hq=>wpAny_pure (wpAny_pure hq)) fun _ _ e=>e)
  obtain ⟨it,fp,tn,J,H2,e,I2,T,st2,f2,hloop⟩:=h2
  subst e
  refine kc (RR:=fun acc C=>compPost (model X.prog X.w) X.A X.xe (some (assign (.Name y py) X.env)) (fun _ s'=>SP X pins D .next s') acc C) hc hk hcell cap blk c1 c2 I2 T st2 f2 hloop ?_
  intro l C H' s' m' I' q ns fC hL hcl' hfs hs0 hpin
  show wpAny _ X.A (assign (.Name y py) X.env (.ref l)) _ _ _
  refine wpAny_assign_Name (mU (v:=.ref l) I' hN hy (.inl hyk) rfl (fun s'' I'' sb=>?_) (.inr hyk))
  obtain ⟨a,sb,ha⟩:=sb
  have hCa:C ≠ a:=by
   rcases ha with z | z
   ·rw [z]; exact hL
   ·exact fun z'=>hcl' y a z z'.symm
  refine ⟨m',ns.sameBut sb hCa,fun h'' sb2=>?_⟩
  exact ⟨σ.set i (some (.ref l)),H',I''.turned (t':=s''.toks) (fun b o hb e=>(sb2.2 b hb).trans e) fC hL (.inr hs0) hcl' hpin,q⟩
end
end L2
namespace L2
open PySem PySem.Spec PyProof.Rows
theorem bQ.there {P:Program} {w:World} {H:Hp} {h:Heap} {a:Addr} {o:HO} (x:bQ P w H h a o):∃ ob,h.get? a = some ob:=by
 cases o with
 | lst xs=>obtain ⟨_,_,_,_,e⟩:=x; exact ⟨_,e⟩
 | tup xs=>obtain ⟨_,_,_,ob,e,_⟩:=x; exact ⟨_,e⟩
 | dK kvs=>obtain ⟨_,_,_,_,o,_,_,e,_⟩:=x; exact ⟨_,e⟩
 | dT kvs=>obtain ⟨_,_,_,_,o,_,_,e,_⟩:=x; exact ⟨_,e⟩
 | set S n=>obtain ⟨o,_,_,_,e,_⟩:=x; exact ⟨_,e⟩
 | ins C dx fs=>obtain ⟨_,_,_,e,_⟩:=x; exact ⟨_,e⟩
 | own y=>obtain ⟨_,e⟩:=x; exact ⟨_,e⟩
 | xd fs=>obtain ⟨_,⟨_,_,_,e,_⟩,_⟩:=x; exact ⟨_,e⟩
 | rng lo hi=>obtain ⟨_,_,_,e⟩:=x; exact ⟨_,e⟩
 | frz ob u=>obtain ⟨e,_⟩:=x; exact ⟨_,e⟩
 | tbl ps=>exact ⟨_,(show h.get? a = some _ from x)⟩
 | met f y=>exact ⟨_,(show h.get? a = some _ from x)⟩
 | ext φ=>obtain ⟨_,⟨_,e⟩,_⟩:=x; exact ⟨_,e⟩
theorem eV.vG {P:Program} {w:World} {H:Hp} {h h':Heap} (x:eV P w H h) (k:∀ b u o,H b = some u → h.get? b = some o → h'.get? b = some o):eV P w H h':=fun a o e =>
 (x a o e).jE (fun b u hb q=>by
  rcases hb with z | z
  ·subst z; exact k _ _ _ e q
  ·exact k _ _ _ z q) (fun _ q=>q) fun _ _ q=>q
theorem mY (o:Obj) (f:Array Value → Array Value):(Obj.mapFields f o).dict = o.dict:=by
 obtain ⟨c,d,dt,sl⟩:=o
 cases dt <;> rfl
def nW (h:Heap) (e:Addr) (C:Value) (dd:Option Addr) (t1:Value):Prop:=∃ oe vs,h.get? e = some oe ∧ oe.cls = C ∧ oe.dict = dd ∧ oe.data = .fields vs ∧ vs[1]? = some t1
def pk (h:Heap) (T:Addr) (fl:Value):Prop:=∃ oT ts,h.get? T = some oT ∧ oT.data = .fields ts ∧ ts[3]? = some fl
structure Moved (fs:List Addr) (e:Addr) (T0:Option Addr) (h h':Heap):Prop where
 keep:∀ b o,b ≠ e → some b ≠ T0 → b ∉ fs → h.get? b = some o → h'.get? b = some o
 slot:∀ b o,b ∈ fs → h.get? b = some o → ∃ sl,h'.get? b = some { o with slots:=sl }
 there:∀ b o,h.get? b = some o → ∃ o',h'.get? b = some o'
section
variable {M:Model} {A:Around} {E:Value → Shared → Prop} {s:Shared}
theorem gr {h:Heap} {a:Addr} {o:Obj} {vs:Array Value} {f:Array Value → Array Value} (e:h.get? a = some o) (hd:o.data = .fields vs):(h.update a (Obj.mapFields f)).get? a = some (Obj.mapFields f o) :=
 Heap.get?_update_self _ e (Obj.isFreed_of_fields (Obj.data_mapFields hd _))
theorem oG {base:Heap} {env:Env} {outer:List Env} {L e:Addr} {C:Value} {dd:Option Addr} {t1 head:Value} {hadNext:Bool} {Q:Unit → Shared → Prop}
  (hfr:A.frames = some (env :: outer)) (hl:s.heap.FunFrames base (env :: outer)) (hf:env.frame = some L) (X:nW s.heap e C dd t1)
  (h:∀ h' T,nW h' e C dd (.ref T) → pk h' T (rawInt L) → s.heap.objs.size ≤ T → T ≠ e → Moved (e8 (env :: outer)) e none s.heap h' → Q () { s with heap:=h' }) :
  wpAny M A (do let a ← frameOf env; let pl ← entryPlaceOf L hadNext; let b ← EntryCells.newEntry head a .none (rawInt L) .none pl; setField (.ref e) 1 b) Q E s:=by
 obtain ⟨oe,vs,he,hC,hdd,hd,h1⟩:=X
 have ne:e ∉ e8 (env :: outer):=fun hm=>by
  obtain ⟨_,o,ho,hnf⟩:=hl.mem hm
  rw [he] at ho; cases ho
  exact hnf vs hd
 refine wpAny_bind (wpAny_frameOf_fun hfr hl hf fun g so=>?_)
 refine wpAny_bind (wpAny_entryPlaceOf fun pl hpl=>?_)
 unfold EntryCells.newEntry newFields
 refine wpAny_bind (wpAny_newObj_type ?_ (hpl.sizeOk5 _ _ _ _ _))
 have hg:g.get? e = some oe:=(so.2.1 e ne).trans he
 have hsz:=(Array.getElem?_eq_some_iff.mp h1).1
 refine wpAny_setField (Heap.get?_push_of_some _ hg) hd hsz ?_
 have nT:g.objs.size ≠ e:=Nat.ne_of_gt (Heap.lt_size hg)
 refine h _ g.objs.size ⟨_,_,gr (Heap.get?_push_of_some _ hg) hd,(Obj.cls_mapFields _ _).trans hC,(mY _ _).trans hdd,Obj.data_mapFields hd _,by simp [hsz]⟩
  ⟨_,_,(Heap.get?_update_other _ _ (Ne.symm nT)).trans (Heap.get?_push_size g rfl),rfl,?_⟩ (Nat.le_of_eq so.1.symm) nT ⟨fun b o h1 _ h3 q=>?_,fun b o hb q=>?_,fun b o q=>?_⟩
 ·rcases hpl with rfl | ⟨_,_,_,_,_,_,_,rfl⟩ <;> simp
 ·rw [Heap.get?_update_other _ _ (Ne.symm h1)]
  exact Heap.get?_push_of_some _ ((so.2.1 b h3).trans q)
 ·obtain ⟨sl,z⟩:=so.2.2 b o q
  refine ⟨sl,?_⟩
  rw [Heap.get?_update_other _ _ (fun k=>ne (by rw [k]; exact hb))]
  exact Heap.get?_push_of_some _ z
 ·by_cases k:b = e
  ·rw [k]; exact ⟨_,gr (Heap.get?_push_of_some _ hg) hd⟩
  ·obtain ⟨sl,z⟩:=so.2.2 b o q
   exact ⟨_,by rw [Heap.get?_update_other _ _ (Ne.symm k)]; exact Heap.get?_push_of_some _ z⟩
theorem vR {base:Heap} {env:Env} {outer:List Env} {L e:Addr} {C:Value} {dd:Option Addr} {T0:Option Addr} {Q:Unit → Shared → Prop}
  (hfr:A.frames = some (env :: outer)) (hl:s.heap.FunFrames base (env :: outer)) (hf:env.frame = some L) (X:nW s.heap e C dd (T0.elim .none Value.ref)) (hT:∀ T,T0 = some T → pk s.heap T .none ∧ T ≠ e)
  (h:∀ h' T,nW h' e C dd (.ref T) → pk h' T (rawInt L) → s.heap.objs.size ≤ T → T ≠ e → Moved (e8 (env :: outer)) e T0 s.heap h' → Q () { s with heap:=h' }) :
  wpAny M A (noteFrame (.ref e) env) Q E s:=by
 obtain ⟨oe,vs,he,hC,hdd,hd,h1⟩:=id X
 unfold noteFrame
 simp only [hf]
 refine wpAny_bind (wpAny_field he hd h1 ?_)
 cases T0 with
 | none =>
  rw [if_neg (by decide)]
  exact oG hfr hl hf X h
 | some T =>
  obtain ⟨⟨oT,ts,hT,hdT,h3⟩,hne⟩:=hT T rfl
  show wpAny M A (if (Value.ref T != Value.none) = true then _ else _) Q E s
  rw [if_pos (by simp)]
  refine wpAny_bind (wpAny_field hT hdT h3 ?_)
  rw [if_neg (by simp [rawInt])]
  refine wpAny_bind (wpAny_setField hT hdT (Array.getElem?_eq_some_iff.mp h3).1 ?_)
  have oth:∀ b,b ≠ T → (s.heap.update T (Obj.mapFields (·.setIfInBounds 3 Value.none))).get? b = s.heap.get? b:=fun b hb=>Heap.get?_update_other _ _ (Ne.symm hb)
  have nfr:∀ b o,b ∈ e8 (env :: outer) → s.heap.get? b = some o → b ≠ T:=fun b o hb q z=>by
   obtain ⟨_,o',ho',hnf⟩:=hl.mem hb
   rw [z,hT] at ho'; cases ho'
   exact hnf _ hdT
  have hl2:(s.heap.update T (Obj.mapFields (·.setIfInBounds 3 Value.none))).FunFrames base (env :: outer):=hl.of_keeps fun b o hb hnf=>⟨o,(oth b fun z=>by rw [z,hT] at hb; cases hb; exact hnf _ hdT).trans hb,rfl⟩
  refine oG (s:={ s with heap:=s.heap.update T (Obj.mapFields (·.setIfInBounds 3 Value.none)) }) hfr hl2 hf ⟨oe,vs,(oth e (Ne.symm hne)).trans he,hC,hdd,hd,h1⟩ fun h' T2 x1 x2 x3 x4 mv=>?_
  have goneT:s.heap.objs.size ≤ T2:=Nat.le_trans (Nat.le_of_eq (Heap.size_after_update ..).symm) x3
  refine h h' T2 x1 x2 goneT x4 ⟨fun b o k1 k2 k3 q=>mv.keep b o k1 (by simp) k3 ((oth b fun z=>k2 (by rw [z])).trans q),fun b o hb q=>mv.slot b o hb ((oth b (nfr b o hb q)).trans q),fun b o q=>?_⟩
  by_cases k:b = T
  ·exact mv.there b _ (by rw [k]; exact gr hT hdT)
  ·exact mv.there b o ((oth b k).trans q)
theorem vK {e T:Addr} {C:Value} {dd:Option Addr} {fl:Value} {Q:Unit → Shared → Prop} (X:nW s.heap e C dd (.ref T)) (hT:pk s.heap T fl) (hne:T ≠ e)
  (h:∀ h',nW h' e C dd (.ref T) → pk h' T .none → (∀ b o,b ≠ T → s.heap.get? b = some o → h'.get? b = some o) → (∀ b o,s.heap.get? b = some o → ∃ o',h'.get? b = some o') → Q () { s with heap:=h' }) :
  wpAny M A (setFlight (.ref e) none) Q E s:=by
 obtain ⟨oe,vs,he,hC,hdd,hd,h1⟩:=X
 obtain ⟨oT,ts,hT,hdT,h3⟩:=hT
 have hsz:=(Array.getElem?_eq_some_iff.mp h3).1
 unfold setFlight
 refine wpAny_bind (wpAny_field he hd h1 ?_)
 rw [if_pos (by simp)]
 have oth:∀ b,b ≠ T → (s.heap.update T (Obj.mapFields (·.setIfInBounds 3 ((none:Option Addr).elim Value.none fun f=>rawInt f)))).get? b = s.heap.get? b:=fun b hb=>Heap.get?_update_other _ _ (Ne.symm hb)
 refine wpAny_setField hT hdT hsz (h _ ⟨oe,vs,(oth e (Ne.symm hne)).trans he,hC,hdd,hd,h1⟩ ⟨_,_,gr hT hdT,Obj.data_mapFields hdT _,by simp [hsz]⟩ (fun b o k q=>(oth b k).trans q) fun b o q=>?_)
 by_cases k:b = T
 ·rw [k]; exact ⟨_,gr hT hdT⟩
 ·exact ⟨o,(oth b k).trans q⟩
end
def jo (P:Program) (w:World):l6:=fun outer H s E u s'=>∃ (e:Addr) (C:Value) (dd:Option Addr) (T:Addr) (H':Hp),u = .ref e ∧ s'.os = s.os ∧ AllBare s'.gens ∧ Un (e8 outer) [] H H' s.heap s'.heap ∧ eV P w H' s'.heap ∧
 nW s'.heap e C dd (.ref T) ∧ pk s'.heap T .none ∧ T ≠ e ∧ H' e = none ∧ H' T = none ∧ s.heap.get? e = none ∧ s.heap.get? T = none ∧ E C dd H'
def gf (CX:l6) (X:Cx) (Ez:St → XK):Prop:=∀ (pins:List (Addr × Obj)) (σ:St) (H:Hp) (s:Shared) (e:Value) (s':Shared),Inv X pins σ H s → CX X.stack H s (Ez σ) e s' → X.xe e s'
theorem kZ {l l':List Env} {H H':Hp} {h g h':Heap} {e:Addr} {T0:Option Addr} (u:Un (e8 l') [] H H' h g) (mv:Moved (e8 l) e T0 g h') (hsub:∀ b ∈ e8 l',b ∈ e8 l) (hnew:∀ b o,h.get? b = some o → b ∈ e8 l → b ∈ e8 l')
  (he:h.get? e = none) (hT:∀ T,T0 = some T → h.get? T = none):Un (e8 l') [] H H' h h':=by
 have k1:∀ b o,h.get? b = some o → b ≠ e:=fun b o q z=>by rw [z,he] at q; cases q
 have k2:∀ b o,h.get? b = some o → some b ≠ T0:=fun b o q z=>by rw [hT b z.symm] at q; cases q
 refine ⟨fun b o q n hb hx=>?_,fun b o q n hb hx=>?_,u.free,fun b o q hx=>?_,u.tups,u.frzs,u.tbls⟩
 ·exact mv.keep b o (k1 b o q) (k2 b o q) (fun z=>hb (hnew b o q z)) (u.keep b o q n hb hx)
 ·obtain ⟨sl,q1⟩:=u.slot b o q n hb hx
  obtain ⟨sl2,q2⟩:=mv.slot b _ (hsub b hb) q1
  exact ⟨sl2,q2⟩
 ·obtain ⟨o1,q1⟩:=u.there b o q hx
  exact mv.there b o1 q1
section
variable {P:Program} {w:World} {K:PySem.W.Frag} {mg:Str → Option Value} {base:Heap} {N:List Str} {qual:Str} {scope:Scope} {f:Addr} {cd:Value} {A:Around} {outer:List Env} {s₀:Shared} {H₀:Hp} {E:XK}
theorem iR {env:Env} {outer:List Env} {L:Addr} (h:env.frame = some L):e8 (env :: outer) = L :: e8 outer:=by
 unfold e8
 rw [List.filterMap_cons,h]
theorem jQ {M:Model} {A:Around} {E:Value → Shared → Prop} {s:Shared} {base:Heap} {env:Env} {outer:List Env} {L e:Addr} {C:Value} {dd:Option Addr} {T0:Option Addr} {Q:Unit → Shared → Prop}
  (hfr:A.frames = some (env :: outer)) (hl:s.heap.FunFrames base (env :: outer)) (hf:env.frame = some L) (X:nW s.heap e C dd (T0.elim .none Value.ref)) (hT:∀ T,T0 = some T → pk s.heap T .none ∧ T ≠ e)
  (h:∀ h' T,nW h' e C dd (.ref T) → pk h' T .none → s.heap.objs.size ≤ T → T ≠ e → Moved (e8 (env :: outer)) e T0 s.heap h' → Q () { s with heap:=h' }) :
  wpAny M A (noteFrame (.ref e) env) (fun _ s2=>wpAny M A (setFlight (.ref e) none) Q E s2) E s:=by
 refine vR hfr hl hf X hT fun h1 T x1 x2 x3 x4 mv=>?_
 refine vK (s:={ s with heap:=h1 }) x1 x2 x4 fun h2 y1 y2 k1 k2=>h h2 T y1 y2 x3 x4 ?_
 have nT:∀ b o,s.heap.get? b = some o → b ≠ T:=fun b o q z=>absurd (Heap.lt_size q) (by rw [z]; exact Nat.not_lt.mpr x3)
 refine ⟨fun b o z1 z2 z3 q=>k1 b o (nT b o q) (mv.keep b o z1 z2 z3 q),fun b o hb q=>?_,fun b o q=>?_⟩
 ·obtain ⟨sl,q1⟩:=mv.slot b o hb q
  exact ⟨sl,k1 b _ (nT b o q) q1⟩
 ·obtain ⟨o1,q1⟩:=mv.there b o q
  exact k2 b o1 q1
theorem ft {base h h':Heap}:∀ {l:List Env},h.FunFrames base l → (∀ b o,b ∈ e8 l → h.get? b = some o → ∃ sl,h'.get? b = some { o with slots:=sl }) → h'.FunFrames base l
 | [],_,_=>trivial
 | env :: r,hl,k=>by
  obtain ⟨hk,⟨L,o,hf,hn,ho,hd⟩,hr⟩:=hl
  have e:=iR (outer:=r) hf
  obtain ⟨sl,z⟩:=k L o (by rw [e]; exact List.mem_cons_self) ho
  exact ⟨hk,⟨L,_,hf,hn,z,hd⟩,ft hr fun b o' hb q=>k b o' (by rw [e]; exact List.mem_cons_of_mem _ hb) q⟩
theorem ui {fs:List Addr} {L:Addr} {H H1 H2:Hp} {h h1 h2:Heap} (a:Un fs [] H H1 h h1) (b:Un (L :: fs) [] H1 H2 h1 h2) (hL:h.get? L = none):Un fs [] H H2 h h2 where
 keep:=fun c o q n hc hx=>b.keep c o (a.keep c o q n hc hx) (a.free c o q n hx) (fun z=>(List.mem_cons.mp z).elim (fun y=>by rw [y,hL] at q; cases q) hc) (by simp)
 slot:=fun c o q n hc hx=>by
  obtain ⟨sl,q1⟩:=a.slot c o q n hc hx
  obtain ⟨sl2,q2⟩:=b.slot c _ q1 (a.free c o q n hx) (List.mem_cons_of_mem _ hc) (by simp)
  exact ⟨sl2,q2⟩
 free:=fun c o q n hx=>by
  obtain ⟨o1,q1⟩:=a.there c o q hx
  exact b.free c o1 q1 (a.free c o q n hx) (by simp)
 there:=fun c o q hx=>by
  obtain ⟨o1,q1⟩:=a.there c o q hx
  exact b.there c o1 q1 (by simp)
 tups:=fun c xs q=>b.tups c xs (a.tups c xs q)
 frzs:=fun c o xs q=>b.frzs c o xs (a.frzs c o xs q)
 tbls:=fun c ps q=>by
  obtain ⟨m1,e1⟩:=a.tbls c ps q
  obtain ⟨m2,e2⟩:=b.tbls c _ e1
  exact ⟨m1 ++ m2,by rw [e2,Array.append_assoc]⟩
theorem cP:gf (jo P w) (iX (jo P w) P w K mg base N qual scope f cd A outer s₀ H₀ E) (fun _=>E):=by
 intro pins σ H s u s' I h
 obtain ⟨e,C,dd,T,H',rfl,os,bare,un,hok,x1,x2,x3,f1,f2,n1,n2,hE⟩:=h
 have fe:e8 (envOfC qual scope s₀.heap.objs.size f cd :: outer) = s₀.heap.objs.size :: e8 outer:=iR rfl
 have un':Un (s₀.heap.objs.size :: e8 outer) [] H H' s.heap s'.heap:=by rw [← fe]; exact un
 have ib:Un (e8 outer) [] H₀ H s₀.heap s.heap:=I.base
 have nL:s₀.heap.get? s₀.heap.objs.size = none:=Heap.get?_none_of_le (Nat.le_refl _)
 have um:=ui ib un' nL
 have hfun:s'.heap.FunFrames base (envOfC qual scope s₀.heap.objs.size f cd :: outer):=ft I.stack fun b o hb q=>un.slot b o q (I.gn b hb) hb (by simp)
 have ntr:∀ b u,H' b = some u → b ∉ e8 (envOfC qual scope s₀.heap.objs.size f cd :: outer):=fun b u q hb=>by
  obtain ⟨_,o,ho,_⟩:=I.stack.mem hb
  have:=un.free b o ho (I.gn b hb) (by simp)
  rw [q] at this; cases this
 show wpAny _ _ (leaving _ (.ref e)) _ _ s'
 unfold leaving
 refine wpAny_bind (jQ (T0:=some T) (L:=s₀.heap.objs.size) I.ok.frames hfun rfl x1 (fun T' z=>by cases z; exact ⟨x2,x3⟩) fun h' T2 y1 y2 y3 y4 mv=>?_)
 have none_of:∀ b,s.heap.get? b = none → s₀.heap.get? b = none:=fun b hb=>by
  cases q:s₀.heap.get? b with
  | none=>rfl
  | some o=>obtain ⟨o1,q1⟩:=ib.there b o q (by simp); rw [hb] at q1; cases q1
 refine ⟨e,C,dd,T2,H',rfl,os.trans I.os,bare,kZ (l:=envOfC qual scope s₀.heap.objs.size f cd :: outer) um mv (fun b hb=>by rw [fe]; exact List.mem_cons_of_mem _ hb) (fun b o q hb=>?_) (none_of e n1) (fun T' z=>by cases z; exact none_of T n2),
  hok.vG fun b u o q1 q2=>mv.keep b o (fun z=>by rw [z,f1] at q1; cases q1) (fun z=>by cases z; rw [f2] at q1; cases q1) (ntr b u q1) q2,y1,y2,y4,f1,?_,none_of e n1,?_,hE⟩
 ·rw [fe] at hb
  rcases List.mem_cons.mp hb with z | z
  ·rw [z,nL] at q; cases q
  ·exact z
 ·cases q:H' T2 with
  | none=>rfl
  | some u=>obtain ⟨ob,hob⟩:=(hok T2 u q).there; exact absurd (Heap.lt_size hob) (Nat.not_lt.mpr y3)
 ·cases q:s₀.heap.get? T2 with
  | none=>rfl
  | some o=>obtain ⟨o1,q1⟩:=um.there T2 o q (by simp); exact absurd (Heap.lt_size q1) (Nat.not_lt.mpr y3)
def Rz (X:Cx) (E:XK):Prop:=∀ (pins:List (Addr × Obj)) (σ:St) (H:Hp) (s:Shared) (h':Heap) (e:Addr) (C:Value) (vs:List Value),Inv X pins σ H s → Heap.MadeExcOf s.heap h' e C vs → E C none H → X.xe (.ref e) { s with heap:=h' }
theorem dS:Rz (iX (jo P w) P w K mg base N qual scope f cd A outer s₀ H₀ E) E:=by
 intro pins σ H s h1 e C vs I mx hE
 obtain ⟨t,he,htn,ht⟩:=mx.there
 have fe:e8 (envOfC qual scope s₀.heap.objs.size f cd :: outer) = s₀.heap.objs.size :: e8 outer:=iR rfl
 have ib:Un (e8 outer) [] H₀ H s₀.heap s.heap:=I.base
 have nL:s₀.heap.get? s₀.heap.objs.size = none:=Heap.get?_none_of_le (Nat.le_refl _)
 have um:Un (e8 outer) [] H₀ H s₀.heap h1:=ib.trans (Un.kept mx.keeps)
 have hfun:h1.FunFrames base (envOfC qual scope s₀.heap.objs.size f cd :: outer):=ft I.stack fun b o hb q=>⟨o.slots,mx.keeps b o q⟩
 have ntr:∀ b u,H b = some u → b ∉ e8 (envOfC qual scope s₀.heap.objs.size f cd :: outer):=fun b u q hb=>by
  have:=I.gn b hb
  rw [q] at this; cases this
 have hok1:eV P w H h1:=I.hok.kept mx.keeps
 have fE:H e = none:=by
  cases q:H e with
  | none=>rfl
  | some u=>obtain ⟨ob,hob⟩:=(I.hok e u q).there; rw [mx.new] at hob; cases hob
 have none_of:∀ b,s.heap.get? b = none → s₀.heap.get? b = none:=fun b hb=>by
  cases q:s₀.heap.get? b with
  | none=>rfl
  | some o=>obtain ⟨o1,q1⟩:=ib.there b o q (by simp); rw [hb] at q1; cases q1
 show wpAny _ _ (leaving _ (.ref e)) _ _ { s with heap:=h1 }
 unfold leaving
 refine wpAny_bind (jQ (s:={ s with heap:=h1 }) (T0:=none) (L:=s₀.heap.objs.size) (C:=C) (dd:=none) I.ok.frames hfun rfl ⟨_,_,he,rfl,rfl,rfl,rfl⟩ (fun T' z=>by cases z) fun h' T2 y1 y2 y3 y4 mv=>?_)
 refine ⟨e,C,none,T2,H,rfl,I.os,I.bare,kZ (l:=envOfC qual scope s₀.heap.objs.size f cd :: outer) um mv (fun b hb=>by rw [fe]; exact List.mem_cons_of_mem _ hb) (fun b o q hb=>?_) (none_of e mx.new) (fun T' z=>by cases z),
  hok1.vG fun b u o q1 q2=>mv.keep b o (fun z=>by rw [z,fE] at q1; cases q1) (by simp) (ntr b u q1) q2,y1,y2,y4,fE,?_,none_of e mx.new,?_,hE⟩
 ·rw [fe] at hb
  rcases List.mem_cons.mp hb with z | z
  ·rw [z,nL] at q; cases q
  ·exact z
 ·cases q:H T2 with
  | none=>rfl
  | some u=>obtain ⟨ob,hob⟩:=(hok1 T2 u q).there; exact absurd (Heap.lt_size hob) (Nat.not_lt.mpr y3)
 ·cases q:s₀.heap.get? T2 with
  | none=>rfl
  | some o=>obtain ⟨o1,q1⟩:=um.there T2 o q (by simp); exact absurd (Heap.lt_size q1) (Nat.not_lt.mpr y3)
end
def zM (sp:Sp) (dvs:List V) (Ez:St → XK) (t:TA):TE:=fun σ H Q=>t σ H fun vs H1=>sp (vs ++ dvs) H1 Q (Ez σ)
section
variable {X:Cx} {CX:l6} {k:Nat} {f C:Addr} {fd:FuncData} {ps:List Str} {sp:Sp} {dvs:List V} {ds:List Value} {Ez:St → XK} {x m:Str} {p pos apos:Pos} {e o:Expr} {es:List Expr} {ta:TE} {t:TA}
theorem wc {pins:List (Addr × Obj)} {σ:St} {H:Hp} {s:Shared} {Q:VK} {us:List Value} {vs:List V} (F:ar X.prog X.w X.K X.mg X.base CX k f fd ps sp) (hr:cA k X.A) (hb:Binds X.K fd ps ds) (hd:Vals dvs ds) (hx:gf CX X Ez)
  (I:Inv X pins σ H s) (r:Vals vs us) (h:sp (vs ++ dvs) H Q (Ez σ)):wpAny (model X.prog X.w) X.A (call (.ref f) us) (EP X pins σ Q) X.xe s:=by
 have r2:Vals (vs ++ dvs) (us ++ ds):=r.append hd
 have hl:(us ++ ds).length = ps.length:=by rw [← r2.length]; exact F.len _ _ _ _ h
 refine wpAny_call (codeAny_mono (F.run X.A X.stack s H ⟨us,[]⟩ (us ++ ds) (vs ++ dvs) Q (Ez σ) hr I.vM (hb s us I.du hl) r2 h) fun r s' hq=>?_)
 cases r with
 | error e=>exact hx pins σ H s e s' I hq
 | ok fl =>
  cases fl with
  | ret u=>exact I.after hq
  | next=>exact False.elim hq
  | brk=>exact False.elim hq
  | cont=>exact False.elim hq
theorem b7 (F:ar X.prog X.w X.K X.mg X.base CX k f fd ps sp) (hr:cA k X.A) (hg:Gl X x) (hm:X.mg x = some (.ref f)) (hk:PySem.W.keepIn X.K (.ref f) = true) (hb:Binds X.K fd ps ds) (hd:Vals dvs ds) (hx:gf CX X Ez)
  (ha:PA X (e :: es) t) (hdb:(x == ("__debug__" : Str)) = false:=by decide) (he:starEach (e :: es) X.env = (false,eval e X.env) :: starEach es X.env:=by rfl) (hpl:(backTo pos (starEach es X.env)).any (·.1) = false:=by rfl) :
  PE X (.Call (.Name x p) (e :: es) [] pos) (zM sp dvs Ez t):=by
 unfold PE at *; unfold PA at *
 exact by
  intro pins s σ H Q I h
  refine wpAny_Call_Name_kw (d5 I hg hm ?_ hdb)
  refine PySem.W.callWith_K (h₀:=X.base) I.ok.mod.kin hk (bS (ha pos pins s σ H _ I h) fun us s1 ⟨vs,H1,I1,r,q⟩=>⟨I1.du,?_⟩) he hpl
  exact wc F hr hb hd hx I1 r q
end
end L2
namespace L2
open PySem PySem.Spec PyProof.Rows
def qr:List Value:=[.type "ValueError",.type "Exception",.type "BaseException",.type "object"]
def zd (K:PySem.W.Frag) (N:Addr) (es:Array DictEntry):Prop:=∃ c d ep sl,K.lookup N = some ⟨c,d,.dict es ep,sl⟩ ∧ StrKeys es
theorem zd.ns {K:PySem.W.Frag} {N:Addr} {es:Array DictEntry} {h:Heap} (x:zd K N es) (X:K.In h):h.Ns N (nsFind es):=by
 obtain ⟨c,d,ep,sl,lk,sk⟩:=x
 exact ⟨_,es,ep,X _ _ lk,rfl,sk,fun _=>rfl⟩
inductive jc (K:PySem.W.Frag):List Value → Prop
 | base:jc K qr
 | own {A:Addr} {c0:Value} {dd:Option Addr} {cd:ClassData} {sl:Array (Option Value)} {tl:List Value} {es:Array DictEntry} :
   K.lookup A = some { cls:=c0,dict:=dd,data:=.cls cd,slots:=sl } → zd K cd.ns es → nsFind es "__init__" = none → jc K tl → jc K (.ref A :: tl)
theorem jc.uz {K:PySem.W.Frag} {h:Heap} {bm:List Value} (t:jc K bm) (X:K.In h):OwnTail h qr bm:=by
 induction t with
 | base=>exact .base
 | own l n i _ ih=>exact .own (X _ _ l) (n.ns X) i ih
structure iJ (K:PySem.W.Frag) (C:Addr):Prop where
 ex:∃ nm q N bs bm hdct sn sub ab col dd k0 k1 k2 k3 k5 es,K.lookup C = some (excClassObj nm q C N bs bm hdct sn sub ab col dd k0 k1 k2 k3 k5 "ValueError.__new__") ∧ zd K N es ∧ nsFind es "__init__" = none ∧ jc K bm
def zL (t:TA) (C:Value) (E:XK):TS:=fun _ σ H=>t σ H fun vs H1=>vs.length ≤ sizeLine ∧ E C none H1
theorem cE {X:Cx} {C:Addr} {x:Str} {np cpos pos:Pos} {e₀:Expr} {rest:List Expr} {t:TA} {E:XK} (xc:iJ X.K C) (hc:X.calm = true) (hg:Gl X x) (hm:X.mg x = some (.ref C)) (hz:Rz X E) (ha:PA X (e₀ :: rest) t)
  (hdb:(x == ("__debug__" : Str)) = false:=by decide) (he:starEach (e₀ :: rest) X.env = (false,eval e₀ X.env) :: starEach rest X.env:=by rfl) (hpl:(backTo cpos (starEach rest X.env)).any (·.1) = false:=by rfl) :
  PS X (.Raise (some (.Call (.Name x np) (e₀ :: rest) [] cpos)) none pos) (zL t (.ref C) E):=by
 unfold PA at *; unfold PS at *
 exact by
  intro pins s σ H D I h
  obtain ⟨nm,q,N,bs,bm,hdct,sn,sub,ab,col,dd,k0,k1,k2,k3,k5,es,lk,nk,ni,tl⟩:=xc.ex
  refine wpAny_Raise_call_subT (C:=C) (nm:=nm) (q:=q) (N:=N) (bs:=bs) (bm:=bm) (hdct:=hdct) (sn:=sn) (sub:=sub) (ab:=ab) (col:=col) (dd:=dd) (k0:=k0) (k1:=k1) (k2:=k2) (k3:=k3) (k5:=k5)
   F.excBase_ValueError (mN:=nsFind es) ((tl.uz I.du).hasType F.excBase_ValueError.hasBase) (I.ok.hd hc) ?_ ni (d5 I hg hm ⟨rfl,?_⟩ hdb)
  ·rw [he]
   show (false || (backTo cpos (starEach rest X.env)).any (·.1)) = false
   rw [hpl]; rfl
  ·have hA:=ha cpos pins s σ H _ I h
   rw [he] at hA ⊢
   refine Calls.evalArgs_plain (wpAny_mono hA (fun us s2 ⟨vs,H1,I1,r,z,hE⟩=>?_) fun _ _ y=>y)
   exact ⟨rfl,by rw [← r.length]; exact z,I1.du _ _ lk,nk.ns I1.du,tl.uz I1.du,fun h' e mx=>hz pins σ H1 s2 h' e (.ref C) us I1 mx hE⟩
theorem sR.rX {P:Program} {w:World} {K:PySem.W.Frag} {mg:Str → Option Value} {base:Heap} {x qual:Str} {st:Stmt} {f:Addr} {fd:FuncData} {N ps:List Str} {k:Nat} {sp:Sp} (F:sR K x qual st f fd) (S:aS N ps (aK st)) (len:∀ vs H Q E,sp vs H Q E → vs.length = ps.length)
  (hbody:∀ (cdv:Value) (A:Around) (outer:List Env) (s:Shared) (H:Hp) (vs:List V) (Q:VK) (E:XK),cA k (A.deeper (envOfC qual (aK st) s.heap.objs.size f cdv)) → sp vs H Q E →
   ∃ t,jr (iX (jo P w) P w K mg base N qual (aK st) f cdv A outer s H E) (cK st) t ∧ t { nx:=fun _ H'=>Q .bI H',rt:=Q } (start N vs) H):ar P w K mg base (jo P w) (k + 1) f fd ps sp:=by
 obtain ⟨oc,od,kV,doc,pm,an,cdv,ct,osl,rfl,lk,hcd⟩:=F.ex
 exact ur lk hcd S len fun A outer s H vs Q E hr hsp=>hbody cdv A outer s H vs Q E hr hsp
section
variable {X:Cx} {pins pins':List (Addr × Obj)} {σ:St} {H:Hp} {s:Shared} {W:Value → Shared → Prop}
theorem Inv.adopt {e:Addr} {o:HO} (I:Inv X pins σ H s) (hn:H e = none) (h0:X.s₀.heap.get? e = none) (hL:e ≠ X.env.locals) (hc:∀ x c,X.env.cells.lookup x = some c → c ≠ e) (hp:∀ p ∈ X.pn ++ pins,p.1 ≠ e)
  (new:bQ X.prog X.w (upd H e o) s.heap e o):Inv X pins σ (upd H e o) s:=by
 have ne:∀ b u,H b = some u → b ≠ e:=fun b u q z=>by rw [z,hn] at q; cases q
 refine ⟨I.ok,I.os,I.bare,⟨I.base.keep,I.base.slot,fun b ob q n hx=>?_,I.base.there,fun b xs q=>?_,fun b ob u q=>?_,fun b ps q=>?_⟩,I.loc,I.cell,?_,fun x c q=>?_,fun p hq=>?_,fun b u q=>?_,I.len⟩
 ·rw [aI (fun z=>by rw [z,h0] at q; cases q)]
  exact I.base.free b ob q n hx
 ·have q1:=I.base.tups b xs q
  rw [aI (ne b _ q1)]; exact q1
 ·have q1:=I.base.frzs b ob u q
  rw [aI (ne b _ q1)]; exact q1
 ·obtain ⟨m,q1⟩:=I.base.tbls b ps q
  exact ⟨m,by rw [aI (ne b _ q1)]; exact q1⟩
 ·rw [aI (Ne.symm hL)]; exact I.free
 ·rw [aI (hc x c q)]; exact I.freeC x c q
 ·obtain ⟨a1,a2,a3,a4,a5⟩:=I.pin p hq
  exact ⟨a1,by rw [aI (hp p hq)]; exact a2,a3,a4,a5⟩
 ·by_cases hb:b = e
  ·subst hb; rw [aB] at q; cases q; exact new
  ·rw [aI hb] at q
   exact (I.hok b u q).jE (fun _ _ _ z=>z) (fun c z=>by rw [aI (ne c _ z)]; exact z) fun c xs z=>by rw [aI (ne c _ z)]; exact z
end
def ze (C:Value) (dd:Option Addr) (e:Addr):HO:=.ext fun h=>∃ oe vs,h.get? e = some oe ∧ oe.cls = C ∧ oe.dict = dd ∧ oe.data = .fields vs
section
variable {X:Cx}
end
end L2
namespace L2
open PySem PySem.Spec PyProof.Rows PySem.W
section
variable {prog:Program} {w:World} {A:Around} {E:Value → Shared → Prop} {s:Shared} {K:Frag} {e C:Addr} {oe:Obj}
theorem xo {a g:Value} {name:Str} (hc:(clsIn K C).isSome = true) (ha:findIn K (.ref C) name = some (some a)) (hg:specialIn K a "__get__" = some (some g)) (ht:takesIn K a = some true):findObj K C none name = some (.bind g a):=by
 obtain ⟨cd,hc⟩:=Option.isSome_iff_exists.mp hc
 unfold findObj
 rw [hc,Option.bind_some,ha,Option.bind_some]
 simp [hg,ht]
structure gu (K:Frag) (C:Addr):Prop where
 cs:(clsIn K C).isSome = true
 ga:findIn K (.ref C) "__getattribute__" = some (some (.builtin "BaseException.__getattribute__"))
 gt:findIn K (.ref C) "__getattr__" = some none
 ca:findIn K (.ref C) "__class__" = some (some (.builtin "object.__class__"))
 gg:specialIn K (.builtin "object.__class__") "__get__" = some (some (.builtin "getset_descriptor.__get__"))
 tk:takesIn K (.builtin "object.__class__") = some true
 mo:mroIn K C (.type "object") = some true
 sb:subIn K (.ref C) (.type "BaseException") = some true
theorem zO {nameV:Value} {Q:Unit → Shared → Prop} (U:gu K C) (X:K.In s.heap) (I:InstAt s.heap e oe C none) (hq:Q () s) :
  wpAny (model prog w) A (checkBuiltinCall "BaseException.__getattribute__" ⟨[.ref e,nameV],[]⟩) Q E s:=by
 have hk:builtinKind "BaseException.__getattribute__" = some .slot:=by decide +kernel
 have hsplit:splitId "BaseException.__getattribute__" = some ("BaseException", "__getattribute__"):=by decide +kernel
 have L0:=I.type (M:=model prog w)
 have L1:=looks_subIn (M:=model prog w) X U.sb
 have LI:Looks (model prog w) s.heap (isInstance (.ref e) (.type "BaseException")) true:=L0.andThen L1
 have ha:=F.args_bexc_ga (.ref e) nameV
 simp only [checkBuiltinCall,hk,hsplit]
 refine wpAny_bind (LI.at ?_)
 rw [if_neg (by decide)]
 exact wpAny_of_eq ha hq
theorem yG {tk:Tok} {Q:Fin → Shared → Prop} (U:gu K C) (X:K.In s.heap) (I:InstAt s.heap e oe C none) (hq:Q (.done (.ret (.ref C))) s) :
  wpAny (model prog w) A (Builtin.«object.__getattribute__» ⟨[.ref e,.str "__class__" tk],[]⟩) Q E s:=by
 obtain ⟨hh,g,d,t,os⟩:=s
 have L0:=I.type (M:=model prog w)
 have L3:=looks_find (M:=model prog w) X I (xo U.cs U.ca U.gg U.tk)
 unfold Builtin.«object.__getattribute__»
 refine wpAny_bind (wpAny_of_eq (show slotArgs "__getattribute__" 1 ⟨[.ref e,.str "__class__" tk],[]⟩ = pure (.ref e,[.str "__class__" tk]) from rfl) ?_)
 refine wpAny_bind (wpAny_of_eq (show Builtin.ObjectAttr.attrName (.str "__class__" tk) = pure ("__class__" : Str) from rfl) ?_)
 refine wpAny_bind (L0.at (wpAny_bind (L3.at ?_)))
 show wpAny _ _ (Builtin.ObjectAttr.bindTo (.builtin "getset_descriptor.__get__") (.builtin "object.__class__") (.ref e) (.ref C)) _ _ _
 show wpAny _ _ (holding [.builtin "object.__class__"] (call (.builtin "getset_descriptor.__get__") [.builtin "object.__class__",.ref e,.ref C]) >>= ret) _ _ _
 exact wpAny_bind (wpAny_holding (wpAny_call (class_get X I U.mo (wpAny_pure hq))))
theorem zK {Q:Option Value → Shared → Prop} (U:gu K C) (X:K.In s.heap) (I:InstAt s.heap e oe C none) (h:Q (some (.ref C)) { s with toks:=s.toks + 1 }):wpAny (model prog w) A (getAttr? (.ref e) "__class__") Q E s:=by
 obtain ⟨hh,g,d,t,os⟩:=s
 have L0:=I.type (M:=model prog w)
 have L1:=looks_findIn (M:=model prog w) X U.ga
 have L2:=looks_findIn (M:=model prog w) X U.gt
 have L3:=looks_find (M:=model prog w) X I (xo U.cs U.ca U.gg U.tk)
 unfold getAttr? getAttrBy? getAttrBy
 refine wpAny_bind (wpAny_mkText (wpAny_bind (wpAny_attempt (wpAny_holding (wpAny_bind (L0.at (wpAny_bind (L1.at ?_))))))))
 show wpAny _ _ (getAttrByItsOwn (.ref e) _ (.ref C) (.builtin "BaseException.__getattribute__") false false) _ _ _
 unfold getAttrByItsOwn
 refine wpAny_bind ?_
 show wpAny _ _ (typeLookup (.ref C) "__getattr__") _ _ _
 refine L2.at ?_
 refine wpAny_bind (wpAny_attempt (wpAny_holding ?_))
 show wpAny _ _ (boundAndCalled (.builtin "BaseException.__getattribute__") (.ref e) _) _ _ _
 unfold boundAndCalled
 refine wpAny_bind (wpAny_of_eq (F.attr_ValueError.ga.bind (.ref e)) ?_)
 refine wpAny_call (codeAny_call_builtin F.attr_ValueError.ga.plain F.entry_bexc_ga (zO U X I (yG U X I ?_)))
 exact wpAny_pure (wpAny_pure h)
theorem uG (U:gu K C):KitX K (.ref e) (.ref C) (fun h=>∃ oe,InstAt h e oe C none) where
 ty:=fun M h _ ⟨_,I⟩=>I.type
 it:=fun _ _ X _=>by
  obtain ⟨cd,hc⟩:=Option.isSome_iff_exists.mp U.cs
  unfold clsIn at hc
  split at hc
  ·rename_i c' d' cd' sl' ho
   intro A' Q' E' s' k q
   unfold isType loadHead
   exact wpAny_bind (wpAny_loadPart (k _ _ (X _ _ ho)) (wpAny_pure q))
  ·cases hc
 ne:=fun h tp dd au n sl X htp=>by
  obtain ⟨cd,hc⟩:=Option.isSome_iff_exists.mp U.cs
  refine Bool.eq_false_iff.mpr fun q=>?_
  have z:C = tp:=Value.ref.inj (beq_iff_eq.mp q)
  subst z
  unfold clsIn at hc
  split at hc
  ·rename_i c' d' cd' sl' ho
   have z:=(X _ _ ho).symm.trans htp
   cases z
  ·cases hc
 ca:=fun X ⟨_,I⟩ k=>zK U X I k
end
theorem u6 {P:Program} {w:World} {H:Hp} {h:Heap} {e C:Addr} (ok:eV P w H h) (q:H e = some (ze (.ref C) none e)):∃ oe,InstAt h e oe C none:=by
 obtain ⟨⟨oe,vs,he,hC,hdd,hd⟩,_⟩:=ok e _ q
 refine ⟨oe,he,hC,?_,?_⟩
 ·obtain ⟨a,b,c,d⟩:=oe
  have hd':c = .fields vs:=hd
  subst hd'
  rfl
 ·rw [hdd]
  trivial
section
variable {X:Cx}
def xV (K:Frag):List V → Hp → VK → Prop:=fun xs H Q=>∃ e c cv C b,xs = [.ref e,c] ∧ uS c cv ∧ H e = some (ze (.ref C) none e) ∧ gu K C ∧ kitOne K (.ref C) cv = some b ∧ Q (.bl b) H
theorem m6:b6 X (.builtin "isinstance") (xV X.K):=by
 unfold b6 at *
 exact by
  intro pins s σ H xs us Q I rv h
  obtain ⟨e,c,cv,C,b,rfl,hc,he,U,k,q⟩:=h
  obtain ⟨u,cu,rfl,ru,rc⟩:=rv.two
  have ec:cu = cv:=by cases hc <;> exact rc
  subst ec
  cases (show u = Value.ref e from ru)
  exact kia_one (uG U) I.du (u6 I.hok he) k (fun z=>nomatch z) fun tk=>⟨.bl b,H,I.tok tk,rfl,q⟩
def bP (K:Frag):List V → Hp → VK → Prop:=fun xs H Q=>AS K xs H Q ∨ xV K xs H Q
theorem cQ:b6 X (.builtin "isinstance") (bP X.K):=by
 first
 | exact (og.or m6)
 | (unfold b6 at *; exact (og.or m6))
end
end L2
namespace L2
open PySem PySem.Spec PyProof.Rows
theorem dY:bootBuiltins "len" = some (.builtin "len"):=by decide +kernel
theorem bJ:bootBuiltins "isinstance" = some (.builtin "isinstance"):=by decide +kernel
theorem nB:bootBuiltins "int" = some (.type "int"):=by decide +kernel
theorem xE:bootBuiltins "bool" = some (.type "bool"):=by decide +kernel
theorem qY:bootBuiltins "str" = some (.type "str"):=by decide +kernel
theorem mr:bootBuiltins "list" = some (.type "list"):=by decide +kernel
theorem wR:bootBuiltins "dict" = some (.type "dict"):=by decide +kernel
theorem yd:bootBuiltins "all" = some (.builtin "all"):=by decide +kernel
theorem yw:bootBuiltins "min" = some (.builtin "min"):=by decide +kernel
theorem u9:bootBuiltins "max" = some (.builtin "max"):=by decide +kernel
theorem nR {n:Int} {t:Tok}:RelV (.int n) (.int n t):=⟨_,rfl⟩
theorem nX {n:Str} {t:Tok}:RelV (.str n) (.str n t):=⟨_,rfl⟩
theorem aG.new {H:Hp} {p:Addr} {o:HO} (h:H p = none):aG H (upd H p o):=fun b u q=>by
 rw [aI (aL q h)]
 exact q
theorem cx {α:Type} {xs:List α} {i:Int} (h0:0 ≤ i) (h1:i < xs.length):∃ v,eW xs i = some v ∧ v ∈ xs:=by
 have e:((i.toNat:Nat):Int) = i:=Int.toNat_of_nonneg h0
 have hl:i.toNat < xs.length:=by omega
 refine ⟨xs[i.toNat],?_,List.getElem_mem hl⟩
 have q:=a9 (xs:=xs) (List.getElem?_eq_getElem hl)
 rw [e] at q
 exact q
theorem tU {α:Type} {xs:List α} {i:Int} {v:α} (h0:0 ≤ i) (h:xs[i.toNat]? = some v):eW xs i = some v:=by
 have q:=a9 (xs:=xs) h
 rw [Int.toNat_of_nonneg h0] at q
 exact q
theorem dP.same {K:PySem.W.Frag} {H H':Hp} {x:V} {t:Value} (e:aG H H') (h:dP K H x t):dP K H' x t:=by
 cases h with
 | bI=>exact .bI
 | bl b=>exact .bl b
 | int i=>exact .int i
 | str x=>exact .str x
 | flt x=>exact .flt x
 | lst q=>exact .lst (e _ _ q)
 | frz q=>exact .frz (e _ _ q)
 | tup q=>exact .tup (e _ _ q)
 | dK q=>exact .dK (e _ _ q)
 | dT q=>exact .dT (e _ _ q)
 | ins q a b c d f=>exact .ins (e _ _ q) a b c d f
def Own (K:PySem.W.Frag) (H:Hp) (x:V):Prop:=∃ n,dP K H x (.type n)
theorem Own.same {K:PySem.W.Frag} {H H':Hp} {x:V} (e:aG H H') (h:Own K H x):Own K H' x:=let ⟨n,t⟩:=h; ⟨n,t.same e⟩
theorem Own.bI {K:PySem.W.Frag} {H:Hp}:Own K H .bI:=⟨_,.bI⟩
theorem Own.bl {K:PySem.W.Frag} {H:Hp} {b:Bool}:Own K H (.bl b):=⟨_,.bl b⟩
theorem Own.int {K:PySem.W.Frag} {H:Hp} {i:Int}:Own K H (.int i):=⟨_,.int i⟩
theorem Own.str {K:PySem.W.Frag} {H:Hp} {x:Str}:Own K H (.str x):=⟨_,.str x⟩
theorem Own.lst {K:PySem.W.Frag} {H:Hp} {a:Addr} {xs:List V} (h:H a = some (.lst xs)):Own K H (.ref a):=⟨_,.lst h⟩
theorem Own.tup {K:PySem.W.Frag} {H:Hp} {a:Addr} {xs:List V} (h:H a = some (.tup xs)):Own K H (.ref a):=⟨_,.tup h⟩
theorem Own.dK {K:PySem.W.Frag} {H:Hp} {a:Addr} {xs:List (Key × V)} (h:H a = some (.dK xs)):Own K H (.ref a):=⟨_,.dK h⟩
def isInt:V → Bool
 | .int _=>true
 | .bl _=>true
 | _=>false
def isBool:V → Bool
 | .bl _=>true
 | _=>false
def isStr:V → Bool
 | .str _=>true
 | _=>false
theorem xF {K:PySem.W.Frag} {H:Hp} {x:V} {n:String} (ty:dP K H x (.type n)):PySem.W.kitOne K (.type n) (.type "int") = some (isInt x):=by
 cases ty <;> rfl
theorem uQ {K:PySem.W.Frag} {H:Hp} {x:V} {n:String} (ty:dP K H x (.type n)):PySem.W.kitOne K (.type n) (.type "bool") = some (isBool x):=by
 cases ty <;> rfl
theorem wQ {K:PySem.W.Frag} {H:Hp} {x:V} {n:String} (ty:dP K H x (.type n)):PySem.W.kitOne K (.type n) (.type "str") = some (isStr x):=by
 cases ty <;> rfl
theorem bP.own {K:PySem.W.Frag} {H:Hp} {x:V} {c:String} {Q:VK} {b:Bool} (h:Own K H x) (k:∀ n,dP K H x (.type n) → PySem.W.kitOne K (.type n) (.type c) = some b) (q:Q (.bl b) H):bP K [x,.ty c] H Q:=by
 obtain ⟨n,t⟩:=h
 exact .inl ⟨x,.ty c,_,_,_,rfl,.ty c,t,k n t,q⟩
theorem bP.int {K:PySem.W.Frag} {H:Hp} {x:V} {Q:VK} (h:Own K H x) (q:Q (.bl (isInt x)) H):bP K [x,.ty "int"] H Q:=bP.own h (fun _=>xF) q
theorem bP.bool {K:PySem.W.Frag} {H:Hp} {x:V} {Q:VK} (h:Own K H x) (q:Q (.bl (isBool x)) H):bP K [x,.ty "bool"] H Q:=bP.own h (fun _=>uQ) q
theorem bP.str {K:PySem.W.Frag} {H:Hp} {x:V} {Q:VK} (h:Own K H x) (q:Q (.bl (isStr x)) H):bP K [x,.ty "str"] H Q:=bP.own h (fun _=>wQ) q
theorem nK {b:Bool} {A B:Prop} (h1:b = true → A) (h2:b = false → B):if b = true then A else B:=by
 cases b
 ·exact aq (h2 rfl)
 ·exact bK (h1 rfl)
theorem aJ {a b:Nat} (h:Nat.ble a b = true):a ≤ b:=Nat.le_of_ble_eq_true h
end L2
namespace L2
open PySem PySem.Spec PyProof.Rows
section
variable {X:Cx} {pins:List (Addr × Obj)} {σ:St} {H H':Hp} {s:Shared} {h':Heap}
theorem Inv.turns {t':Nat} {wr:List Addr} (I:Inv X pins σ H s) (k:∀ b o,b ∉ wr → s.heap.get? b = some o → h'.get? b = some o) (hw:∀ b ∈ wr,kP X pins H b):Inv X pins σ H { s with heap:=h',toks:=t' }:=by
 have nit:∀ b u,H b = some u → b ∉ wr:=fun b u e z=>by rw [(hw b z).1] at e; cases e
 refine I.step (g':=s.gens) (d':=s.drawn) (ch:=wr) (fun b hb=>?_) (fun b o _ _ hc e _=>k b o hc e) (fun b o _ _ hc e _=>⟨o.slots,k b o hc e⟩) (fun _ _ _ _ n=>n)
  (fun b o hc e=>⟨o,k b o hc e⟩) (fun _ _ e=>e) (fun _ _ _ e=>e) (fun b ps e=>⟨#[],by rw [e]; simp⟩) (fun m hm=>?_) (fun b u e=>?_) I.bare
 ·obtain ⟨_,f1,_,f3,f4,f5⟩:=hw b hb
  exact ⟨f3,f1,f4,f5⟩
 ·obtain ⟨o,es,ep,ho,r⟩:=hm
  exact ⟨o,es,ep,k _ o (fun z=>(hw _ z).2.1 rfl) ho,r⟩
 ·refine (I.hok b u e).jE (fun c v hc q=>k c v ?_ q) (fun _ q=>q) fun _ _ q=>q
  rcases hc with z | z
  ·rw [z]; exact nit b u e
  ·exact nit c _ z
end
def BO (x:Str):It:=⟨fun i _=>i < x.cps.size,fun i H v H'=>H' = H ∧ ∃ c,x.cps[i]? = some c ∧ v = .str ⟨#[c]⟩,fun i _=>i = x.cps.size⟩
theorem v3 {P:Program} {w:World} {K:PySem.W.Frag} {tg:Expr} (x:Str) (t:Tok) (it:Addr) (kind:String) (hk:kind = "str_ascii_iterator" ∨ kind = "str_iterator") :
  Turn P w K tg (BO x) [it] it (fun i h=>h.IsStrIter it kind x t i) where
 mem:=by simp
 obj:=fun i h st b hb=>by
  have e:b = it:=by simpa using hb
  subst e
  obtain ⟨o,e,c,d⟩:=st
  exact ⟨o,e,fun v z=>by rw [d] at z; cases z⟩
 keep:=fun i h h' st k=>by
  obtain ⟨o,e,r⟩:=st
  exact ⟨o,k it (by simp) o e,r⟩
 item:=by
  intro X hP hw hK hc i pins s σ H E I hf st hg
  subst hP hw hK
  have W:Walks X.prog X.w X.A it [it] [it] x.cps.size (SignAt x) (fun i h=>h.IsStrIter it kind x t i):=by
   rcases hk with rfl | rfl
   ·exact Walks.strAscii (I.ok.hd hc) it x t
   ·exact Walks.strWide (I.ok.hd hc) it x t
  refine W.item i s _ _ hg st fun v h' tk hv st' hk'=>?_
  obtain ⟨c,u,hc',rfl⟩:=hv
  have I1:Inv X pins σ H { s with heap:=h',toks:=tk }:=I.turns (t':=tk) hk' hf
  obtain ⟨o,e,hcl,d⟩:=id st'
  refine ⟨_,rfl,pf (s:={ s with heap:=h',toks:=tk }) e hcl d ?_ ⟨.str ⟨#[c]⟩,H,I1,⟨u,rfl⟩,⟨rfl,c,hc',rfl⟩,st',fun b hb=>(hf b hb).1⟩⟩
  rcases hk with rfl | rfl <;> decide
 done:=by
  intro X hP hw hK hc i pins s σ H E I hf st hg
  subst hP hw hK
  have W:Walks X.prog X.w X.A it [it] [it] x.cps.size (SignAt x) (fun i h=>h.IsStrIter it kind x t i):=by
   rcases hk with rfl | rfl
   ·exact Walks.strAscii (I.ok.hd hc) it x t
   ·exact Walks.strWide (I.ok.hd hc) it x t
  have e:i = x.cps.size:=hg
  subst e
  exact W.done s _ _ st fun h' tk hk'=>⟨rfl,I.turns (t':=tk) hk' hf⟩
 self:=fun A i s Q E st h=>by
  rcases hk with rfl | rfl
  ·exact wpAny_pyIter_striter_ascii st h
  ·exact wpAny_pyIter_striter_wide st h
def Ab (tl:TE):TI:=fun σ H R=>tl σ H fun x H1=>∃ z,x = .str z ∧ R (BO z) H1
theorem xu {X:Cx} {tg l:Expr} {tl:TE} (hl:PE X l tl):PI X tg l (Ab tl):=by
 unfold PE at *; unfold PI at *
 exact by
  intro pins s σ H R I h
  refine bS (hl pins s σ H _ I h) fun v s1 ⟨x,H1,I1,r1,q1⟩=>?_
  obtain ⟨z,rfl,q⟩:=q1
  obtain ⟨t,rfl⟩:=r1
  refine wpAny_pyIter_strU ?_
  refine ⟨s1.heap.objs.size,[s1.heap.objs.size],_,_,H1,rfl,I1.kept (t':=s1.toks) fun b o e=>Heap.get?_push_of_some _ e,v3 z t _ (strIterType z) (by unfold strIterType; split <;> simp),⟨_,Heap.get?_push_size _ rfl,rfl,rfl⟩,fun b hb=>?_,q⟩
  have e:b = s1.heap.objs.size:=by simpa using hb
  subst e
  exact I1.sY (Nat.le_refl _) (I1.hok.fresh (Nat.le_refl _))
def AJ (K:PySem.W.Frag) (a:Addr):It :=
 ⟨fun i H=>∃ xs x,ah K H a xs ∧ xs[i]? = some x,fun i H v H'=>∃ T x,v = .ref T ∧ H T = none ∧ H' = upd H T (.tup [.int i,x]) ∧ ∀ xs,ah K H a xs → xs[i]? = some x,fun i H=>∃ xs,ah K H a xs ∧ xs.length = i⟩
theorem sF {P:Program} {w:World} {K:PySem.W.Frag} {es:List Expr} {k:Nat} {pos:Pos} (a e it:Addr) (hei:e ≠ it) :
  Turn P w K (.Tuple es k pos) (AJ K a) [e,it] e (fun i h=>(∃ old,IsEnum h e it i old) ∧ h.IsListIter it a i) where
 mem:=by simp
 obj:=fun i h st b hb=>by
  obtain ⟨⟨old,he⟩,o,ho,hc,hd⟩:=st
  rcases List.mem_cons.mp hb with rfl | hb
  ·exact ⟨_,he,fun v z=>by cases z⟩
  ·have e:b = it:=by simpa using hb
   subst e
   exact ⟨o,ho,fun v z=>by rw [hd] at z; cases z⟩
 keep:=fun i h h' st k=>by
  obtain ⟨⟨old,he⟩,hi⟩:=st
  exact ⟨⟨old,k e (by simp) _ he⟩,hi.at fun o x=>k it (by simp) o x⟩
 item:=by
  intro X hP hw hK hc i pins s σ H E I hf st hg
  subst hP hw hK
  obtain ⟨xs,x,hq,hx⟩:=hg
  obtain ⟨au,rv,p,hz⟩:=I.list hq
  obtain ⟨u,hu,ru⟩:=rv.get hx
  obtain ⟨he,hi⟩:=st
  have hlt:i < au.toArray.size:=by
   obtain ⟨hl,_⟩:=List.getElem?_eq_some_iff.mp hu
   simpa using hl
  have na:∀ b ∈ [e,it],a ≠ b:=fun b hb z=>by
   obtain ⟨o,ho,_⟩:=id p.isList
   subst z
   rcases List.mem_cons.mp hb with rfl | hb
   ·obtain ⟨old,he⟩:=he
    have l1:=p.isList
    obtain ⟨o,ho,hc,n,hd⟩:=l1
    rw [he] at ho; cases ho; exact absurd (show Value.type "enumerate" = Value.type "list" from hc) (by decide)
   ·have e':a = it:=by simpa using hb
    subst e'
    obtain ⟨o,ho,hc,n,hd⟩:=p.isList
    obtain ⟨o',ho',hc',hd'⟩:=hi
    rw [ho] at ho'; cases ho'
    rw [hc] at hc'; exact absurd hc' (by decide)
  have W:=WalksT.enumerate (prog:=X.prog) (w:=X.w) (I.ok.hd hc) e it a hei (na e (by simp)) (na it (by simp)) au.toArray
  refine W.item i s _ _ hlt ⟨he,hi,p.isList⟩ fun T vals h1 tk hp hT hIs hm hk=>?_
  obtain ⟨t,y,hy,rfl⟩:=hp
  have ey:y = u:=by
   have:au.toArray[i]? = some u:=by simpa using hu
   rw [this] at hy
   exact (Option.some.inj hy).symm
  subst ey
  refine ⟨_,rfl,W.go es k pos i T _ _ _ hm fun h2 st2 hk2=>?_⟩
  have hTn:H T = none:=I.hok.fresh hT
  have hap:=W.apart i T h1 hm
  have I1:Inv X pins σ H { s with heap:=h2,toks:=tk }:=I.turns (t':=tk) (fun b o hb e=>hk2 b o hb (hk b o hb e)) hf
  have hT2:h2.IsTuple T #[.int i t,y]:=by
   obtain ⟨o,ho,r⟩:=hIs
   exact ⟨o,hk2 T o hap ho,r⟩
  have fT:∀ b ∈ [e,it],upd H T (.tup [.int i,x]) b = none:=fun b hb=>by
   rw [aI (fun z=>hap (by rw [← z]; exact hb))]
   exact (hf b hb).1
  have hs0:X.s₀.heap.objs.size ≤ T:=Nat.le_trans I.sz hT
  have I2:Inv X pins σ (upd H T (.tup [.int i,x])) { s with heap:=h2,toks:=tk }:=by
   refine I1.adopt hTn (Heap.get?_none_of_le hs0) (Nat.ne_of_gt (Nat.lt_of_lt_of_le I.lt hT)) (fun z c e q=>?_) (fun p hp q=>?_) ⟨aJ rfl,[.int i t,y],.cons ⟨t,rfl⟩ (.cons ru .nil),hT2⟩
   ·obtain ⟨v,q1⟩:=I.cell z c e
    exact absurd (Nat.lt_of_lt_of_le q1.lt (by rw [q]; exact hT)) (Nat.lt_irrefl _)
   ·exact absurd (Nat.lt_of_lt_of_le (Heap.lt_size (I.pin p hp).1) (by rw [q]; exact hT)) (Nat.lt_irrefl _)
  exact ⟨.ref T,_,I2,rfl,⟨T,x,rfl,hTn,rfl,fun ys hy=>by rw [I.ig hy hq]; exact hx⟩,⟨st2.1,st2.2.1⟩,fT⟩
 done:=by
  intro X hP hw hK hc i pins s σ H E I hf st hg
  subst hP hw hK
  obtain ⟨xs,hq,hx⟩:=hg
  obtain ⟨au,rv,p,hz⟩:=I.list hq
  obtain ⟨⟨old,he⟩,hi⟩:=st
  have D:=Draws.list (prog:=X.prog) (w:=X.w) (A:=X.A.in1) (I.ok.hd hc) it a (fun z=>by
   subst z
   obtain ⟨o,ho,hc,n,hd⟩:=p.isList
   obtain ⟨o',ho',hc',hd'⟩:=hi
   rw [ho] at ho'; cases ho'
   rw [hc] at hc'; exact absurd hc' (by decide)) au.toArray
  have en:au.toArray.size = i:=by rw [List.size_toArray,← rv.length]; exact hx
  refine wpAny_pyNext_enum_endD D he (by rw [en]; exact ⟨hi,p.isList⟩) fun h' hx'=>⟨rfl,?_⟩
  exact I.turns (t':=s.toks) (wr:=[e,it]) (fun b o hb q=>hx' b o (fun z=>hb (by simp [z])) q) hf
 self:=fun A i s Q E st h=>by
  obtain ⟨⟨old,he⟩,_⟩:=st
  exact wpAny_pyIter_enum he h
theorem nN:bootBuiltins "enumerate" = some (.type "enumerate"):=by decide +kernel
def AV (K:PySem.W.Frag) (ta:TA):TI:=fun σ H R=>ta σ H fun vs H1=>∃ a,vs = [.ref a] ∧ (∃ xs,ah K H1 a xs) ∧ R (AJ K a) H1
theorem rg {X:Cx} {es:List Expr} {k:Nat} {tpos p pos:Pos} {a:Expr} {ta:TA} (hg:Gl X "enumerate") (hm:X.mg "enumerate" = none) (ha:PA X [a] ta)
  (he:starEach [a] X.env = [(false,eval a X.env)]:=by rfl):PI X (.Tuple es k tpos) (.Call (.Name "enumerate" p) [a] [] pos) (AV X.K ta):=by
 unfold PA at *; unfold PI at *
 exact by
  intro pins s σ H R I h
  refine wpAny_Call_Name_kw (jB I hg hm nN ?_ (by decide) (by decide))
  refine PyProof.Rows.callWith_type1 (bS (ha pos pins s σ H _ I h) fun us s1 ⟨vs,H1,I1,r,q⟩=>?_) he (by rfl)
  obtain ⟨b,rfl,⟨xs,hq⟩,q⟩:=q
  obtain ⟨u,rfl,ru⟩:=vals1 r
  cases ru
  obtain ⟨au,rv,pl,hz⟩:=I1.list hq
  refine call_enumerate_list pl.isList fun h' he hi hsz hk=>?_
  refine wpAny_pyIter_enum he ?_
  have I2:Inv X pins σ H1 { s1 with heap:=h' }:=I1.kept (t':=s1.toks) hk
  refine ⟨s1.heap.objs.size + 1,[s1.heap.objs.size + 1,s1.heap.objs.size],_,_,H1,rfl,I2,sF b _ _ (Nat.succ_ne_self _),⟨⟨_,he⟩,hi⟩,fun c hc=>?_,q⟩
  have hle:s1.heap.objs.size ≤ c:=by
   rcases List.mem_cons.mp hc with e | hc
   ·rw [e]; exact Nat.le_succ _
   ·have e:c = s1.heap.objs.size:=by simpa using hc
    rw [e]; exact Nat.le_refl _
  exact I1.sY hle (I1.hok.fresh hle)
def Nx (n i:Nat) (P:Prop):Prop:=∃ m',m' < n - i ∧ m' = n - (i + 1) ∧ i + 1 ≤ n ∧ P
theorem Nx.mk {n i:Nat} {P:Prop} (hi:i < n) (p:P):Nx n i P:=⟨n - (i + 1),by omega,rfl,hi,p⟩
theorem jv {J:It} {l:Addr} {g:TG} {tc:TT} {te:TE} {σ:St} {H:Hp} {Q:VK} (n:Nat) (Pv:Nat → St → List V → Hp → Prop) (hsz:n ≤ sizeLine) (h0:Pv 0 σ [] H)
  (hl:∀ i σ acc H,i ≤ n → Pv i σ acc H → H l = some (.lst acc) ∧ acc.length ≤ i)
  (hgo:∀ i σ acc H,i < n → Pv i σ acc H → J.go i H)
  (hs:∀ i x σ acc H H',i < n → Pv i σ acc H → J.yld i H x H' → g x σ H' fun σ2 H2=>tc σ2 H2 fun b H3=>if b = true then
   te σ2 H3 fun v H4=>H4 l = some (.lst acc) ∧ Nx n i (Pv (i + 1) σ2 (acc ++ [v]) (upd H4 l (.lst (acc ++ [v])))) else Nx n i (Pv (i + 1) σ2 acc H3))
  (hd:∀ σ acc H,Pv n σ acc H → J.stop n H ∧ Q (.ref l) H):kC J l g tc te σ H Q:=by
 refine ⟨fun i m σ acc H=>m = n - i ∧ i ≤ n ∧ Pv i σ acc H,⟨n,by simp,Nat.zero_le _,h0⟩,?_⟩
 rintro i m σ acc H ⟨rfl,hi,p⟩
 obtain ⟨q1,q2⟩:=hl i σ acc H hi p
 refine ⟨q1,?_⟩
 by_cases hlt:i < n
 ·exact .inr ⟨hgo i σ acc H hlt p,by omega,fun x H' y=>hs i x σ acc H H' hlt p y⟩
 ·have e:i = n:=by omega
  subst e
  exact .inl (hd σ acc H p)
theorem pq {K:PySem.W.Frag} {a:Addr} {xs:List V} {g:TG} {tb:TS} {D:Ends} {σ:St} {H:Hp} (Pv:Nat → St → Hp → Prop) (h0:Pv 0 σ H) (hl:∀ i σ H,i ≤ xs.length → Pv i σ H → ah K H a xs)
  (hs:∀ (i:Nat) x σ H T,xs[i]? = some x → Pv i σ H → H T = none → g (.ref T) σ (upd H T (.tup [.int i,x])) fun σ2 H2=>tb { D with nx:=Pv (i + 1),ct:=Pv (i + 1),bk:=D.nx } σ2 H2) (hd:∀ σ H,Pv xs.length σ H → D.nx σ H) :
  ∃ W:Nat → Nat → St → Hp → Prop,(∃ m,W 0 m σ H) ∧ ∀ i m σ H,W i m σ H →
   ((AJ K a).stop i H ∧ D.nx σ H) ∨ ((AJ K a).go i H ∧ ∃ N:St → Hp → Prop,(∀ σ' H',N σ' H' → ∃ m',m' < m ∧ W (i + 1) m' σ' H') ∧ ∀ v H',(AJ K a).yld i H v H' → g v σ H' fun σ2 H2=>tb { D with nx:=N,ct:=N,bk:=D.nx } σ2 H2):=by
 refine ⟨fun i m σ H=>m = xs.length - i ∧ i ≤ xs.length ∧ Pv i σ H,⟨xs.length,by simp,Nat.zero_le _,h0⟩,?_⟩
 rintro i m σ H ⟨rfl,hi,p⟩
 have q:=hl i σ H hi p
 by_cases hlt:i < xs.length
 ·refine .inr ⟨⟨xs,xs[i],q,by simp [hlt]⟩,Pv (i + 1),fun σ' H' p'=>⟨xs.length - (i + 1),by omega,rfl,hlt,p'⟩,fun v H' y=>?_⟩
  obtain ⟨T,x,rfl,hT,rfl,hx⟩:=y
  exact hs i x σ H T (hx xs q) p hT
 ·have e:i = xs.length:=by omega
  subst e
  exact .inl ⟨⟨xs,q,rfl⟩,hd σ H p⟩
theorem j2:∀ {bs:List Bool} {us:List Value},Vals (bs.map V.bl) us → LSm.BoolsAre us bs
 | [],_,.nil=>.nil
 | b :: r,_,.cons h t=>by
  cases h
  exact .cons b (j2 t)
theorem xD {s:Shared} {h':Heap} {o:Obj} (hk:∀ b x,b ∉ [s.heap.objs.size] → (s.heap.push o).get? b = some x → h'.get? b = some x):∀ b x,s.heap.get? b = some x → h'.get? b = some x :=
 fun b x e=>hk b x (fun hm=>by rw [List.mem_singleton.mp hm] at e; exact Nat.lt_irrefl _ (Heap.lt_size e)) (Heap.get?_push_of_some _ e)
theorem ux {X:Cx} (hc:X.calm = true):b6 X (.builtin "all") (fun xs H Q=>∃ (a:Addr) (bs:List Bool),xs = [.ref a] ∧ ah X.K H a (bs.map V.bl) ∧ Q (.bl (bs.all id)) H):=by
 unfold b6 at *
 exact by
  intro pins s σ H xs us Q I r h
  obtain ⟨a,bs,rfl,hq,q⟩:=h
  obtain ⟨u,rfl,ru⟩:=vals1 r
  cases ru
  obtain ⟨au,rv,pl,hz⟩:=I.list hq
  have hb:=j2 rv
  have hl:=pl.isList
  have hlt:a < s.heap.objs.size:=by obtain ⟨_,e,_⟩:=hl; exact Heap.lt_size e
  refine call_all_walk (wpAny_pyIter_list hl ?_)
  refine ⟨s.heap.objs.size,[s.heap.objs.size,a],[s.heap.objs.size],au.toArray.size,_,_,fun i=>(bs[i]?).getD true,rfl,Walks.list (A:=X.A.in1) (I.ok.hd hc) _ a (Nat.ne_of_lt hlt) au.toArray,
   ⟨⟨_,Heap.get?_push_size _ rfl,rfl,rfl⟩,hl.push _⟩,fun i v s' Q' E' hP hQ=>?_,fun h' tk hk=>?_⟩
  ·obtain ⟨b,e,rfl⟩:=hb.get i v (by simpa using hP)
   simp only [e,Option.getD_some] at hQ
   exact wpAny_truthy_bool hQ
  ·have e:((List.range au.toArray.size).all fun i=>(bs[i]?).getD true) = bs.all id:=by
    rw [List.size_toArray,hb.length]; exact LSm.range_all bs
   rw [e]
   exact ⟨.bl (bs.all id),H,I.kept (t':=tk) (xD hk),rfl,q⟩
end L2
namespace L2
open PySem PySem.Spec PyProof.Rows
section
variable {X:Cx}
theorem mH:c8 X (compareOp .LtE) (fun x y H Q=>∃ i j,x = .str i ∧ y = .str j ∧ Q (.bl (!decide (j.cps.toList < i.cps.toList))) H):=by
 unfold c8 at *
 exact by
  intro pins s σ H x y v u Q I rx ry h
  obtain ⟨i,j,rfl,rfl,q⟩:=h
  obtain ⟨t,rfl⟩:=rx
  obtain ⟨t',rfl⟩:=ry
  exact PySem.P.le_str (az I q (by simp))
end
inductive bZ (K:PySem.W.Frag) (H:Hp) (R:V → V → Bool → Prop):V → V → Bool → Prop where
 | list {a b:Addr} {xs ys:List V} {e:Nat → Bool} (ha:ah K H a xs) (hb:ah K H b ys) (hl:xs.length = ys.length) (he:∀ i x y,xs[i]? = some x → ys[i]? = some y → R x y (e i)):bZ K H R (.ref a) (.ref b) ((List.range xs.length).all e)
 | listN {a b:Addr} {xs ys:List V} (ha:ah K H a xs) (hb:ah K H b ys) (hl:xs.length ≠ ys.length):bZ K H R (.ref a) (.ref b) false
 | tup {a b:Addr} {xs ys:List V} {e:Nat → Bool} (ha:bp K H a xs) (hb:bp K H b ys) (he:∀ i x y,xs[i]? = some x → ys[i]? = some y → R x y (e i)):bZ K H R (.ref a) (.ref b) ((List.range (min xs.length ys.length)).all e && xs.length == ys.length)
def je (K:PySem.W.Frag) (H:Hp):Nat → V → V → Bool → Prop
 | 0,x,y,b=>(b5 x = true ∧ b5 y = true ∧ b = f9 x y) ∨ ∃ a,x = .ref a ∧ y = .ref a ∧ b = true
 | n + 1,x,y,b=>((b5 x = true ∧ b5 y = true ∧ b = f9 x y) ∨ ∃ a,x = .ref a ∧ y = .ref a ∧ b = true) ∨ bZ K H (je K H n) x y b
theorem fQ {x:V} (h:b5 x = true):f9 x x = true:=by
 cases x <;> simp_all [b5,f9]
section
variable {X:Cx} {pins:List (Addr × Obj)} {σ:St} {H:Hp} {s:Shared}
theorem all_range {n:Nat} {e:Nat → Bool} (h:∀ i,i < n → e i = true):(List.range n).all e = true:=by
 rw [List.all_eq_true]
 exact fun i hi=>h i (List.mem_range.mp hi)
theorem je.self (I:Inv X pins σ H s):∀ {n:Nat} {x:V} {b:Bool},je X.K H n x x b → b = true:=by
 intro n
 induction n with
 | zero =>
  intro x b h
  rcases h with ⟨h1,_,h2⟩ | ⟨_,_,_,h⟩
  ·rw [h2]; exact fQ h1
  ·exact h
 | succ n ih =>
  intro x b h
  rcases h with (⟨h1,_,h2⟩ | ⟨_,_,_,h⟩) | h
  ·rw [h2]; exact fQ h1
  ·exact h
  ·cases h with
   | @list a _ xs ys e ha hb hl he =>
    have q:=I.ig ha hb
    subst q
    exact all_range fun i hi=>ih (he i xs[i] xs[i] (by simp [hi]) (by simp [hi]))
   | listN ha hb hl=>exact absurd (congrArg List.length (I.ig ha hb)) hl
   | @tup a _ xs ys e ha hb he =>
    have q:=I.sW ha hb
    subst q
    rw [Nat.min_self,all_range fun i hi=>ih (he i xs[i] xs[i] (by simp [hi]) (by simp [hi]))]
    simp
theorem bZ.rc {A:Around} {R:V → V → Bool → Prop} {x y:V} {b:Bool} {u v:Value} (I:Inv X pins σ H s) (h:bZ X.K H R x y b) (rx:RelV x u) (ry:RelV y v) (hu:A.units < cLine)
  (hR:∀ x y b u v,R x y b → RelV x u → RelV y v → SeqAt.EqAt A.in1 s u v b):SeqAt.RcAt A s u v b:=by
 cases h with
 | @list a c xs ys e ha hb hl he =>
  cases rx; cases ry
  obtain ⟨au,r1,p1,z1⟩:=I.list ha
  obtain ⟨jts,r2,p2,z2⟩:=I.list hb
  have l1:=r1.length
  have l2:=r2.length
  have q:=SeqAt.RcAt.lists (A:=A) (s:=s) (e:=e) p1.isList p2.isList (by simp only [List.size_toArray]; omega) hu fun j h1 h2=>?_
  ·rw [List.size_toArray,← l1] at q
   exact q
  ·simp only [List.size_toArray] at h1 h2
   have g1:xs[j]? = some xs[j]:=by simp
   have g2:ys[j]? = some ys[j]:=by simp
   obtain ⟨w1,k1,rr1⟩:=r1.get g1
   obtain ⟨w2,k2,rr2⟩:=r2.get g2
   have e1:au.toArray[j] = w1:=by
    have:=List.getElem?_eq_some_iff.mp k1
    obtain ⟨_,this⟩:=this
    simpa using this
   have e2:jts.toArray[j] = w2:=by
    have:=List.getElem?_eq_some_iff.mp k2
    obtain ⟨_,this⟩:=this
    simpa using this
   rw [e1,e2]
   exact hR _ _ _ _ _ (he j _ _ g1 g2) rr1 rr2
 | @listN a c xs ys ha hb hl =>
  cases rx; cases ry
  obtain ⟨au,r1,p1,z1⟩:=I.list ha
  obtain ⟨jts,r2,p2,z2⟩:=I.list hb
  have l1:=r1.length
  have l2:=r2.length
  exact SeqAt.RcAt.lists_lengths p1.isList p2.isList (by simp only [List.size_toArray,bne_iff_ne]; omega) hu
 | @tup a c xs ys e ha hb he =>
  cases rx; cases ry
  obtain ⟨au,r1,p1,z1⟩:=I.tuple ha
  obtain ⟨jts,r2,p2,z2⟩:=I.tuple hb
  have l1:=r1.length
  have l2:=r2.length
  have q:=SeqAt.RcAt.tuples (A:=A) (s:=s) (e:=e) p1 p2 hu fun j h1 h2=>?_
  ·rw [List.size_toArray,List.size_toArray,← l1,← l2] at q
   exact q
  ·simp only [List.size_toArray] at h1 h2
   have g1:xs[j]? = some xs[j]:=by simp
   have g2:ys[j]? = some ys[j]:=by simp
   obtain ⟨w1,k1,rr1⟩:=r1.get g1
   obtain ⟨w2,k2,rr2⟩:=r2.get g2
   have e1:au.toArray[j] = w1:=by
    have:=List.getElem?_eq_some_iff.mp k1
    obtain ⟨_,this⟩:=this
    simpa using this
   have e2:jts.toArray[j] = w2:=by
    have:=List.getElem?_eq_some_iff.mp k2
    obtain ⟨_,this⟩:=this
    simpa using this
   rw [e1,e2]
   exact hR _ _ _ _ _ (he j _ _ g1 g2) rr1 rr2
theorem bZ.AI {A:Around} {R:V → V → Bool → Prop} {x y:V} {b:Bool} {u v:Value} (I:Inv X pins σ H s) (h:bZ X.K H R x y b) (rx:RelV x u) (ry:RelV y v) (hu:A.units < cLine)
  (hR:∀ x y b u v,R x y b → RelV x u → RelV y v → SeqAt.EqAt A.in1 s u v b):SeqAt.RcNeAt A s u v (!b):=by
 cases h with
 | @list a c xs ys e ha hb hl he =>
  cases rx; cases ry
  obtain ⟨au,r1,p1,z1⟩:=I.list ha
  obtain ⟨jts,r2,p2,z2⟩:=I.list hb
  have l1:=r1.length
  have l2:=r2.length
  have q:=SeqAt.RcNeAt.lists (A:=A) (s:=s) (e:=e) p1.isList p2.isList (by simp only [List.size_toArray]; omega) hu fun j h1 h2=>?_
  ·rw [List.size_toArray,← l1] at q
   exact q
  ·simp only [List.size_toArray] at h1 h2
   have g1:xs[j]? = some xs[j]:=by simp
   have g2:ys[j]? = some ys[j]:=by simp
   obtain ⟨w1,k1,rr1⟩:=r1.get g1
   obtain ⟨w2,k2,rr2⟩:=r2.get g2
   have e1:au.toArray[j] = w1:=by
    have:=List.getElem?_eq_some_iff.mp k1
    obtain ⟨_,this⟩:=this
    simpa using this
   have e2:jts.toArray[j] = w2:=by
    have:=List.getElem?_eq_some_iff.mp k2
    obtain ⟨_,this⟩:=this
    simpa using this
   rw [e1,e2]
   exact hR _ _ _ _ _ (he j _ _ g1 g2) rr1 rr2
 | @listN a c xs ys ha hb hl =>
  cases rx; cases ry
  obtain ⟨au,r1,p1,z1⟩:=I.list ha
  obtain ⟨jts,r2,p2,z2⟩:=I.list hb
  have l1:=r1.length
  have l2:=r2.length
  exact SeqAt.RcNeAt.lists_lengths p1.isList p2.isList (by simp only [List.size_toArray,bne_iff_ne]; omega) hu
 | @tup a c xs ys e ha hb he =>
  cases rx; cases ry
  obtain ⟨au,r1,p1,z1⟩:=I.tuple ha
  obtain ⟨jts,r2,p2,z2⟩:=I.tuple hb
  have l1:=r1.length
  have l2:=r2.length
  have q:=SeqAt.RcNeAt.tuples (A:=A) (s:=s) (e:=e) p1 p2 hu fun j h1 h2=>?_
  ·rw [List.size_toArray,List.size_toArray,← l1,← l2] at q
   exact q
  ·simp only [List.size_toArray] at h1 h2
   have g1:xs[j]? = some xs[j]:=by simp
   have g2:ys[j]? = some ys[j]:=by simp
   obtain ⟨w1,k1,rr1⟩:=r1.get g1
   obtain ⟨w2,k2,rr2⟩:=r2.get g2
   have e1:au.toArray[j] = w1:=by
    have:=List.getElem?_eq_some_iff.mp k1
    obtain ⟨_,this⟩:=this
    simpa using this
   have e2:jts.toArray[j] = w2:=by
    have:=List.getElem?_eq_some_iff.mp k2
    obtain ⟨_,this⟩:=this
    simpa using this
   rw [e1,e2]
   exact hR _ _ _ _ _ (he j _ _ g1 g2) rr1 rr2
theorem je.at (I:Inv X pins σ H s):∀ (n:Nat) (A:Around) (x y:V) (b:Bool) (u v:Value),A.units + n < cLine → je X.K H n x y b → RelV x u → RelV y v → SeqAt.EqAt A s u v b:=by
 intro n
 induction n with
 | zero =>
  intro A x y b u v hu h rx ry
  rcases h with ⟨h1,h2,rfl⟩ | ⟨a,rfl,rfl,rfl⟩
  ·exact my rx ry h1 h2
  ·cases rx; cases ry
   exact SeqAt.EqAt.same _
 | succ n ih =>
  intro A x y b u v hu h rx ry
  rcases h with (⟨h1,h2,rfl⟩ | ⟨a,rfl,rfl,rfl⟩) | h
  ·exact my rx ry h1 h2
  ·cases rx; cases ry
   exact SeqAt.EqAt.same _
  ·have rc:=bZ.rc (A:=A) I h rx ry (by omega) fun x y b u v hd r1 r2=>ih A.in1 x y b u v (by show A.units + 1 + n < cLine; omega) hd r1 r2
   have refs:∃ a c,x = .ref a ∧ y = .ref c:=by cases h <;> exact ⟨_,_,rfl,rfl⟩
   obtain ⟨a,c,rfl,rfl⟩:=refs
   cases rx; cases ry
   by_cases hac:a = c
   ·subst hac
    have hb:b = true:=je.self (n:=n + 1) I (.inr h)
    subst hb
    exact SeqAt.EqAt.same _
   ·exact SeqAt.EqAt.of_refs hac rc
def zW (K:PySem.W.Frag) (neg:Bool):R2:=fun x y H Q=>∃ n b,n ≤ 60 ∧ bZ K H (je K H n) x y b ∧ Q (.bl (if neg then !b else b)) H
theorem ml (hu:X.A.units + 62 < cLine):c8 X (compareOp .Eq) (zW X.K false):=by
 unfold c8 at *
 exact by
  intro pins s σ H x y v u Q I rx ry h
  obtain ⟨n,b,hn,he,q⟩:=h
  exact bZ.rc (A:=X.A) I he rx ry (by omega) (fun x y b u v hd r1 r2=>je.at I n X.A.in1 x y b u v (by show X.A.units + 1 + n < cLine; omega) hd r1 r2) X.prog X.w _ _ (az I q rfl)
theorem kY (hu:X.A.units + 62 < cLine):c8 X (compareOp .NotEq) (zW X.K true):=by
 unfold c8 at *
 exact by
  intro pins s σ H x y v u Q I rx ry h
  obtain ⟨n,b,hn,he,q⟩:=h
  exact bZ.AI (A:=X.A) I he rx ry (by omega) (fun x y b u v hd r1 r2=>je.at I n X.A.in1 x y b u v (by show X.A.units + 1 + n < cLine; omega) hd r1 r2) X.prog X.w _ _ (az I q rfl)
def vi:List V → List V → Bool
 | [],[]=>true
 | x :: xs,y :: ys=>f9 x y && vi xs ys
 | _,_=>false
end
theorem jG:∀ {xs ys:List V},xs.length = ys.length → (List.range xs.length).all (fun i=>f9 (xs.getD i .bI) (ys.getD i .bI)) = vi xs ys
 | [],[],_=>rfl
 | x :: xs,y :: ys,h=>by
  have h':xs.length = ys.length:=by simpa using h
  rw [List.length_cons,List.range_succ_eq_map,List.all_cons,List.all_map,vi,← jG h']
  rfl
 | [],_ :: _,h=>by simp at h
 | _ :: _,[],h=>by simp at h
theorem rR:∀ {xs ys:List V},xs.length ≠ ys.length → vi xs ys = false
 | [],[],h=>absurd rfl h
 | x :: xs,y :: ys,h=>by
  rw [vi,rR (xs:=xs) (ys:=ys) (by simpa using h),Bool.and_false]
 | [],_ :: _,_=>rfl
 | _ :: _,[],_=>rfl
theorem bZ.vL {K:PySem.W.Frag} {H:Hp} {n:Nat} {a b:Addr} {xs ys:List V} (ha:ah K H a xs) (hb:ah K H b ys) (fx:xs.all b5 = true) (fy:ys.all b5 = true):bZ K H (je K H n) (.ref a) (.ref b) (vi xs ys):=by
 by_cases hl:xs.length = ys.length
 ·rw [← jG hl]
  refine .list ha hb hl fun i x y hx hy=>?_
  have q:(b5 x = true ∧ b5 y = true ∧ f9 (xs.getD i .bI) (ys.getD i .bI) = f9 x y):=by
   refine ⟨List.all_eq_true.mp fx x (List.mem_of_getElem? hx),List.all_eq_true.mp fy y (List.mem_of_getElem? hy),?_⟩
   rw [List.getD_eq_getElem?_getD,List.getD_eq_getElem?_getD,hx,hy]
   rfl
  cases n with
  | zero=>exact .inl q
  | succ n=>exact .inl (.inl q)
 ·rw [rR hl]
  exact .listN ha hb hl
theorem bZ.zu {K:PySem.W.Frag} {H:Hp} {n:Nat} {a b:Addr} {xs ys:List V} (ha:bp K H a xs) (hb:bp K H b ys) (hl:xs.length = ys.length) (fx:xs.all b5 = true) (fy:ys.all b5 = true):bZ K H (je K H n) (.ref a) (.ref b) (vi xs ys):=by
 have q:=bZ.tup (K:=K) (H:=H) (R:=je K H n) (e:=fun i=>f9 (xs.getD i .bI) (ys.getD i .bI)) ha hb fun i x y hx hy=>?_
 ·rw [← hl,Nat.min_self,jG hl] at q
  simpa using q
 ·have q:(b5 x = true ∧ b5 y = true ∧ f9 (xs.getD i .bI) (ys.getD i .bI) = f9 x y):=by
   refine ⟨List.all_eq_true.mp fx x (List.mem_of_getElem? hx),List.all_eq_true.mp fy y (List.mem_of_getElem? hy),?_⟩
   rw [List.getD_eq_getElem?_getD,List.getD_eq_getElem?_getD,hx,hy]
   rfl
  cases n with
  | zero=>exact .inl q
  | succ n=>exact .inl (.inl q)
end L2
namespace L2
open PySem PySem.Spec PyProof.Rows
theorem yO {K:PySem.W.Frag} {H:Hp} {a:Addr} {o:Obj} {xs:List V} {au:Array Value} {n:Nat} (hk:K.lookup a = some o) (hc:o.cls = .type "tuple") (ho:o.data = .seq au n) (hz:au.size ≤ sizeLine) (hv:Vals xs au.toList):bp K H a xs :=
 .inr ⟨o,au,n,hk,hc,ho,hz,hv⟩
def jx (w:World) (p:Str × V) (e:DictEntry):Prop:=e.hash = PyData.keyHash w.params p.1 ∧ (∃ t,e.key = .str p.1 t) ∧ RelV p.2 e.val
structure gH (w:World) (K:PySem.W.Frag) (a:Addr) (kvs:List (Str × V)):Prop where
 ex:∃ (es:List DictEntry) (ep:Nat),K.lookup a = some ⟨.type "dict",none,.dict es.toArray ep,#[]⟩ ∧ Paired (jx w) kvs es
 nd:(kvs.map (·.1)).Nodup
theorem gH.pairs {P:Program} {w:World}:∀ {kvs:List (Str × V)} {es:List DictEntry},Paired (jx w) kvs es → ∃ vs:List (Key × Value),Pairs (aV P w) es vs ∧ KV (kvs.map fun p=>((Sum.inr p.1:Key),p.2)) vs ∧ vs.map (·.1) = kvs.map fun p=>(Sum.inr p.1:Key)
 | _,_,.nil=>⟨[],.nil,.nil,rfl⟩
 | (x,v) :: r,e :: es,.cons ⟨h1,⟨t,h2⟩,h3⟩ hr=>by
  obtain ⟨vs,p1,p2,p3⟩:=gH.pairs (P:=P) hr
  refine ⟨((Sum.inr x:Key),e.val) :: vs,?_,.cons ⟨rfl,h3⟩ p2,by rw [List.map_cons,p3]; rfl⟩
  refine .cons ?_ rfl p1
  show hU (.inr x) e.key = true
  rw [h2]
  exact jL x t
theorem gH.keysOf {P:Program} {w:World}:∀ {kvs:List (Str × V)} {es:List DictEntry},Paired (jx w) kvs es → ∀ e ∈ es,∃ k,(aV P w).is k e.key = true ∧ e.hash = (aV P w).hash k
 | _,_,.nil,e,h=>by simp at h
 | (x,v) :: r,e :: es,.cons ⟨h1,⟨t,h2⟩,h3⟩ hr,e',h=>by
  rcases List.mem_cons.mp h with q | q
  ·subst q
   refine ⟨.inr x,?_,h1⟩
   show hU (.inr x) e'.key = true
   rw [h2]
   exact jL x t
  ·exact gH.keysOf hr e' q
theorem gH.dictOf {P:Program} {w:World} {K:PySem.W.Frag} {a:Addr} {kvs:List (Str × V)} {h:Heap} (D:gH w K a kvs) (X:K.In h):∃ vs,KV (kvs.map fun p=>((Sum.inr p.1:Key),p.2)) vs ∧ h.DictOf (aV P w) a vs:=by
 obtain ⟨es,ep,hk,hp⟩:=D.ex
 obtain ⟨vs,p1,p2,p3⟩:=gH.pairs (P:=P) hp
 refine ⟨vs,p2,_,es.toArray,ep,X _ _ hk,⟨rfl,rfl,rfl⟩,rfl,fun e he=>gH.keysOf hp e (by simpa using he),by simpa using p1,?_⟩
 rw [p3]
 have nd:=D.nd
 rw [List.nodup_iff_pairwise_ne,List.pairwise_map] at nd ⊢
 exact nd.imp fun h e=>h (Sum.inr.inj e)
def zt (w:World) (K:PySem.W.Frag):R2:=fun x y H Q=>∃ a kvs z v,x = .ref a ∧ y = .str z ∧ gH w K a kvs ∧ kvs.lookup z = some v ∧ Q v H
theorem uJ {kvs:List (Str × V)} {z:Str}:bF (kvs.map fun p=>((Sum.inr p.1:Key),p.2)) (Sum.inr z) = kvs.lookup z:=by
 unfold bF
 induction kvs with
 | nil=>rfl
 | cons p r ih =>
  obtain ⟨k,v⟩:=p
  rw [List.map_cons,List.find?_cons,List.lookup_cons]
  by_cases e:k = z
  ·subst e
   simp
  ·have h1:decide ((Sum.inr k:Key) = Sum.inr z) = false:=by simpa using e
   have h2:(z == k) = false:=by simpa using fun q=>e q.symm
   rw [h1,h2]
   exact ih
theorem oh {X:Cx}:qq X (zt X.w X.K):=by
 unfold qq at *
 exact by
  intro value slice pins s σ H x y v u Q I rx ry h hs
  obtain ⟨a,kvs,z,r,rfl,rfl,D,hl,q⟩:=h
  cases rx
  have ry':RelV (kV (Sum.inr z)) u:=ry
  obtain ⟨vs,rel,dd⟩:=D.dictOf (P:=X.prog) I.du
  obtain ⟨w',hw,rw'⟩:=eY.some_of (v:=r) (o:=valueAt vs (Sum.inr z)) (by
   have q:=rel.val (Sum.inr z)
   rw [uJ,hl] at q
   exact q)
  refine tail_any dd.mapOf.typeIs PySem.F.slot_dict_getitem.lookup ?_ hs
  exact wpAny_getItem_of (jT ry') dd.mapOf hw ⟨r,H,I.tok _,rw',q⟩
end L2
namespace L2
open PySem PySem.Spec PyProof.Rows
def gL (es:Array DictEntry):Bool:=es.all fun e=>match e.key with | .str _ _=>true | _=>false
theorem fz {es:Array DictEntry} (h:gL es = true):StrKeys es:=by
 intro e he
 have q:=Array.all_eq_true_iff_forall_mem.mp h e he
 split at q
 ·rename_i n t hk
  exact ⟨n,t,hk⟩
 ·cases q
theorem iJ.xm {K:PySem.W.Frag} {C N A:Addr} {nm q:Str} {bs:List Value} {hdct:Bool} {sn:List Str} {sub:List Value} {ab:Bool} {col:Option Bool} {dd:Option Addr} {k0 k1 k2 k3 k5:Option Value} {es:Array DictEntry} {c d ep sl}
  {c0:Value} {dd':Option Addr} {cd:ClassData} {sl0:Array (Option Value)} {es':Array DictEntry} {c' d' ep' sl'}
  (l:K.lookup C = some (excClassObj nm q C N bs (.ref A :: qr) hdct sn sub ab col dd k0 k1 k2 k3 k5 "ValueError.__new__")) (ln:K.lookup N = some ⟨c,d,.dict es ep,sl⟩) (sk:gL es = true) (ni:nsFind es "__init__" = none)
  (la:K.lookup A = some { cls:=c0,dict:=dd',data:=.cls cd,slots:=sl0 }) (lna:K.lookup cd.ns = some ⟨c',d',.dict es' ep',sl'⟩) (ska:gL es' = true) (nia:nsFind es' "__init__" = none):iJ K C :=
 ⟨nm,q,N,bs,_,hdct,sn,sub,ab,col,dd,k0,k1,k2,k3,k5,es,l,⟨c,d,ep,sl,ln,fz sk⟩,ni,.own la ⟨c',d',ep',sl',lna,fz ska⟩ nia .base⟩
theorem iE {A:Around} {k:Nat} (hr:cA k A):A.units + 62 < cLine:=by have:=hr.un; omega
theorem gj {X:Cx} {scope:Scope} {N':List Str} {js:List (Option Nat)} (hl:js.length = N'.length) (h:js.all Option.isNone = true):zU X scope N' js :=
 ⟨hl,fun i j x h1 _=>by
  have q:=List.all_eq_true.mp h _ (List.mem_of_getElem? h1)
  cases q⟩
theorem fR {X:Cx} {scope:Scope} (h:(scope.names.all fun y=>match y.2 with | .free=>false | _=>true) = true):∀ y ∈ scope.names,y.2 = .free → (X.env.kindOf y.1 = some .cell ∨ X.env.kindOf y.1 = some .free):=fun y hy e=>by
 have q:=List.all_eq_true.mp h y hy
 rw [e] at q
 cases q
theorem bP.exc {K:PySem.W.Frag} {H:Hp} {e C c:Addr} {b:Bool} {Q:VK} (h:H e = some (ze (.ref C) none e)) (q:gu K C) (k:PySem.W.kitOne K (.ref C) (.ref c) = some b) (hQ:Q (.bl b) H):bP K [.ref e,.ref c] H Q :=
 .inr ⟨e,.ref c,.ref c,C,b,rfl,.own c,h,q,k,hQ⟩
theorem iD {P:Program} {w:World} {X:Cx}:gf (jo P w) X (fun _=>E0):=by
 intro pins σ H s e s' I h
 obtain ⟨_,_,_,_,_,_,_,_,_,_,_,_,_,_,_,_,_,h⟩:=h
 exact h.elim
end L2
namespace L2
open PySem PySem.Spec PyProof.Rows
structure k8 (K:PySem.W.Frag) (x qual:Str) (st:Stmt) (dV:Value) (f:Addr) (fd:FuncData):Prop where
 ex:∃ (oc:Value) (od:Option Addr) (kV doc pm:Value) (an:Option Addr) (cdv ct:Value) (osl:Array (Option Value)),
  fd = PySem.W.fnOf x qual (cn st) (cK st) (aK st) dV kV doc pm an cdv ct ∧ K.lookup f = some ⟨oc,od,.func fd,osl⟩ ∧ PySem.W.codeIn K cdv qual = true
 kp:PySem.W.keepIn K (.ref f) = true
theorem k8.rX {P:Program} {w:World} {K:PySem.W.Frag} {mg:Str → Option Value} {base:Heap} {x qual:Str} {st:Stmt} {dV:Value} {f:Addr} {fd:FuncData} {N ps:List Str} {k:Nat} {sp:Sp} (F:k8 K x qual st dV f fd) (S:aS N ps (aK st)) (len:∀ vs H Q E,sp vs H Q E → vs.length = ps.length)
  (hbody:∀ (cdv:Value) (A:Around) (outer:List Env) (s:Shared) (H:Hp) (vs:List V) (Q:VK) (E:XK),cA k (A.deeper (envOfC qual (aK st) s.heap.objs.size f cdv)) → sp vs H Q E →
   ∃ t,jr (iX (jo P w) P w K mg base N qual (aK st) f cdv A outer s H E) (cK st) t ∧ t { nx:=fun _ H'=>Q .bI H',rt:=Q } (start N vs) H):ar P w K mg base (jo P w) (k + 1) f fd ps sp:=by
 obtain ⟨oc,od,kV,doc,pm,an,cdv,ct,osl,rfl,lk,hcd⟩:=F.ex
 exact ur lk hcd S len fun A outer s H vs Q E hr hsp=>hbody cdv A outer s H vs Q E hr hsp
theorem g9 {K:PySem.W.Frag} {x qual:Str} {st:Stmt} {dV:Value} {f:Addr} {oc:Value} {od an:Option Addr} {osl:Array (Option Value)} {kV doc pm cdv ct:Value} (l:K.lookup f = some ⟨oc,od,.func (PySem.W.fnOf x qual (cn st) (cK st) (aK st) dV kV doc pm an cdv ct),osl⟩)
  (hc:PySem.W.codeIn K cdv qual = true) (kp:PySem.W.keepIn K (.ref f) = true):k8 K x qual st dV f (PySem.W.fnOf x qual (cn st) (cK st) (aK st) dV kV doc pm an cdv ct):=⟨⟨oc,od,kV,doc,pm,an,cdv,ct,osl,rfl,l,hc⟩,kp⟩
structure cI (K:PySem.W.Frag) (fd:FuncData) (ps ks:List Str) (na:Nat) (g:List Value → List Value → List Value) (gV:List V → List V → List V):Prop where
 to:∀ (s:Shared) (x:Value) (us ws:List Value),K.In s.heap → us.length = na → ws.length = ks.length → BindsTo s fd ⟨x :: us,ks.zip ws⟩ (ps.zip (x :: g us ws)) ∧ (x :: g us ws).length = ps.length
 rel:∀ {vs:List V} {us:List Value} {zs:List V} {ws:List Value},Vals vs us → Vals zs ws → Vals (gV vs zs) (g us ws)
theorem cI.ofD {K:PySem.W.Frag} {x qual:Str} {st:Stmt} {T f:Addr} {fd:FuncData} {ps ks:List Str} {na:Nat} {g:List Value → List Value → List Value} {gV:List V → List V → List V} {o:Obj} {items:Array Value} {n:Nat}
  (F:k8 K x qual st (.ref T) f fd) (hT:K.lookup T = some o) (hs:o.data = .seq items n) (hrel:∀ {vs:List V} {us:List Value} {zs:List V} {ws:List Value},Vals vs us → Vals zs ws → Vals (gV vs zs) (g us ws))
  (h:∀ (kV doc pm:Value) (an:Option Addr) (cdv ct:Value) (y:Value) (us ws:List Value),us.length = na → ws.length = ks.length →
   (∃ k,bindArgs (PySem.W.fnOf x qual (cn st) (cK st) (aK st) (.ref T) kV doc pm an cdv ct) ⟨y :: us,ks.zip ws⟩ = seqItems? (.ref T) >>= k ∧ k (some items) = pure (ps.zip (y :: g us ws))) ∧ (y :: g us ws).length = ps.length):cI K fd ps ks na g gV:=by
 obtain ⟨oc,od,kV,doc,pm,an,cdv,ct,osl,rfl,lk,hcd⟩:=F.ex
 refine ⟨fun s y us ws X h1 h2=>?_,hrel⟩
 obtain ⟨⟨k,e1,e2⟩,e3⟩:=h kV doc pm an cdv ct y us ws h1 h2
 exact ⟨.of_defaults rfl (X _ _ hT) hs e1 e2,e3⟩
def zS (C:Addr) (sp:Sp) (na nk:Nat) (gV:List V → List V → List V) (Ez:St → XK) (t tk:TA):TE:=fun σ H Q=>t σ H fun vs H1=>tk σ H1 fun zs H2=>vs.length = na ∧ zs.length = nk ∧
 ∀ x dx,H2 x = none → H2 dx = none → dx ≠ x → sp (.ref x :: gV vs zs) (upd (upd H2 dx (.own x)) x (.ins C dx [])) (fun v H3=>v = .bI ∧ Q (.ref x) H3) (Ez σ)
section
variable {X:Cx} {CX:l6} {k:Nat} {f C:Addr} {fd:FuncData} {ps ks:List Str} {sp:Sp} {Ez:St → XK} {x:Str} {p pos:Pos} {e:Expr} {es:List Expr} {kws:List Keyword} {t tk:TA} {na:Nat} {g:List Value → List Value → List Value} {gV:List V → List V → List V}
theorem sS {pins:List (Addr × Obj)} {σ:St} {H:Hp} {s:Shared} {Q:VK} {us ws:List Value} {vs zs:List V} (M:Mk X.K C f) (F:ar X.prog X.w X.K X.mg X.base CX k f fd ps sp) (hr:cA (k + 1) X.A) (hb:cI X.K fd ps ks na g gV)
  (hx:gf CX X Ez) (I:Inv X pins σ H s) (r:Vals vs us) (rz:Vals zs ws) (hna:vs.length = na) (hnk:zs.length = ks.length)
  (h:∀ x dx,H x = none → H dx = none → dx ≠ x → sp (.ref x :: gV vs zs) (upd (upd H dx (.own x)) x (.ins C dx [])) (fun v H2=>v = .bI ∧ Q (.ref x) H2) (Ez σ)) :
  wpAny (model X.prog X.w) X.A (call (.ref C) us (ks.zip ws)) (EP X pins σ Q) X.xe s:=by
 have hq:=h (s.heap.objs.size + 1) s.heap.objs.size (I.hok.fresh (Nat.le_succ _)) (I.hok.fresh (Nat.le_refl _)) (Nat.ne_of_lt (Nat.lt_succ_self _))
 have I2:=Inv.made (C:=C) I
 have r2:Vals (V.ref (s.heap.objs.size + 1) :: gV vs zs) (Value.ref (s.heap.objs.size + 1) :: g us ws):=.cons rfl (hb.rel r rz)
 obtain ⟨hto,hl⟩:=hb.to { s with heap:=(s.heap.push PySem.W.emptyDict).push (PySem.W.instObj C s.heap.objs.size) } (Value.ref (s.heap.objs.size + 1)) us ws I2.du (by rw [← r.length]; exact hna) (by rw [← rz.length]; exact hnk)
 refine wpAny_call (o6 (f:=f) I.du M.makes M.init (beq_iff_eq.mp M.fn) (codeAny_mono (F.run _ X.stack _ _ ⟨Value.ref (s.heap.objs.size + 1) :: us,ks.zip ws⟩ (Value.ref (s.heap.objs.size + 1) :: g us ws) _ _ (Ez σ) (hr.make C us (ks.zip ws))
  (I2.vM.make C us (ks.zip ws)) hto r2 hq) fun r s' hq'=>?_))
 cases r with
 | error e=>exact hx pins σ _ _ e s' I2 hq'
 | ok fl =>
  cases fl with
  | ret u =>
   obtain ⟨v,H',I3,rv,ev,q3⟩:=I2.after hq'
   subst ev
   exact ⟨rv,⟨V.ref (s.heap.objs.size + 1),H',I3,rfl,q3⟩⟩
  | next=>exact False.elim hq'
  | brk=>exact False.elim hq'
  | cont=>exact False.elim hq'
theorem oU (M:Mk X.K C f) (F:ar X.prog X.w X.K X.mg X.base CX k f fd ps sp) (hr:cA (k + 1) X.A) (hg:Gl X x) (hm:X.mg x = some (.ref C)) (hb:cI X.K fd ps ks na g gV) (hx:gf CX X Ez)
  (ha:PA X (e :: es) t) (hkw:PK X kws tk) (hall:(backToKw pos (keywordEach kws X.env)).all (·.1.isSome) = true:=by rfl) (hks:(backToKw pos (keywordEach kws X.env)).filterMap (·.1) = ks:=by rfl)
  (hdb:(x == ("__debug__" : Str)) = false:=by decide) (he:starEach (e :: es) X.env = (false,eval e X.env) :: starEach es X.env:=by rfl)
  (hpl:((backTo pos (starEach (e :: es) X.env)).any (·.1) || (backToKw pos (keywordEach kws X.env)).any (·.1.isNone)) = false:=by rfl) :
  PE X (.Call (.Name x p) (e :: es) kws pos) (zS C sp na ks.length gV Ez t tk):=by
 unfold PE at *; unfold PA at *; unfold PK at *
 exact by
  intro pins s σ H Q I h
  refine wpAny_Call_Name_kw (d5 I hg hm ?_ hdb)
  refine PySem.W.callWith_KW (h₀:=X.base) I.ok.mod.kin M.kp hall (bS (ha pos pins s σ H _ I h) fun us s1 ⟨vs,H1,I1,r,q⟩=>?_) hpl he
  refine bS (hkw pos pins s1 σ H1 _ I1 q) fun ws s2 ⟨zs,H2,I2,rz,hna,hnk,q2⟩=>⟨I2.du,?_⟩
  rw [hks]
  exact sS M F hr hb hx I2 r rz hna hnk q2
end
theorem bu {X:Cx} {scope:Scope} (l:List Str) (h:(scope.names.all fun y=>match y.2 with | .free=>l.contains y.1 | _=>true) = true) (hl:∀ x ∈ l,X.env.kindOf x = some .cell ∨ X.env.kindOf x = some .free) :
  ∀ y ∈ scope.names,y.2 = .free → (X.env.kindOf y.1 = some .cell ∨ X.env.kindOf y.1 = some .free):=fun y hy e=>by
 have q:=List.all_eq_true.mp h y hy
 rw [e] at q
 exact hl _ (List.contains_iff_mem.mp q)
def BK (t u:TS):TS:=fun D σ H=>∃ Mid:St → Hp → Prop,t { D with nx:=Mid } σ H ∧ ∀ σ' H',Mid σ' H' → u D σ' H'
theorem ag {X:Cx} {st:Stmt} {rest:List Stmt} {t u:TS} (h1:PS X st t) (h2:jr X rest u):jr X (st :: rest) (BK t u):=by
 unfold PS at *; unfold jr at *
 exact by
  intro pins s σ H D I h
  obtain ⟨Mid,h,hm⟩:=h
  refine wpAny_execs_cons (bS (h1 pins s σ H { D with nx:=Mid } I h) fun f s1 q=>?_)
  cases f with
  | next =>
   obtain ⟨σ',H',I',q⟩:=q
   exact h2 pins s1 σ' H' D I' (hm σ' H' q)
  | ret v=>exact q
  | brk=>exact q
  | cont=>exact q
theorem iL {α:Type} {n:Nat}:∀ {us:List α},us.length = n + 1 → ∃ a r,us = a :: r ∧ r.length = n
 | a :: r,h=>⟨a,r,rfl,by simpa using h⟩
theorem len0 {α:Type}:∀ {us:List α},us.length = 0 → us = []
 | [],_=>rfl
theorem bB {α:Type} {p:α → Prop}:∀ x ∈ ([]:List α),p x:=fun _ h=>nomatch h
theorem aM {α:Type} {p:α → Prop} {a:α} {l:List α} (h:p a) (r:∀ x ∈ l,p x):∀ x ∈ a :: l,p x:=fun x hx=>by
 rcases List.mem_cons.mp hx with e | e
 ·subst e; exact h
 ·exact r x e
theorem cf {X:Cx} {scope:Scope} {N':List Str} {js:List (Option Nat)} (hl:js.length = N'.length)
  (h:∀ p ∈ js.zip N',∀ j,p.1 = some j → X.N[j]? = some p.2 ∧ scope.names.lookup p.2 = some .free ∧ (X.env.kindOf p.2 = some .cell ∨ X.env.kindOf p.2 = some .free)):zU X scope N' js :=
 ⟨hl,fun i j x h1 h2=>h (some j,x) (List.mem_of_getElem? (i:=i) (by rw [List.getElem?_zip_eq_some]; exact ⟨h1,h2⟩)) j rfl⟩
end L2
namespace L2
open PySem PySem.Spec PyProof.Rows
section
variable {X:Cx}
end
end L2
namespace L2
open PySem PySem.Spec PyProof.Rows
section
variable {X:Cx}
theorem p8:∀ {ns:List Int} {us:List Value},Vals (ns.map V.int) us → IntsAre us ns
 | [],_,.nil=>.nil
 | _ :: _,_,.cons ⟨_,h⟩ r=>by
  subst h
  exact .cons _ _ (p8 r)
theorem mX:∀ {ns:List Int} {us:List Value},IntsAre us ns → Vals (ns.map V.int) us
 | [],_,.nil=>.nil
 | _ :: _,_,.cons _ _ r=>.cons ⟨_,rfl⟩ (mX r)
theorem d7 (hc:X.calm = true):b6 X (.builtin "sorted") (fun xs H Q=>∃ (a:Addr) (ns:List Int),xs = [.ref a] ∧ ah X.K H a (ns.map V.int) ∧ ns.length < 64 ∧
  ∀ (l:Addr) (ms:List Int),H l = none → ms.Perm ns → ms.Pairwise (· ≤ ·) → Q (.ref l) (upd H l (.lst (ms.map V.int)))):=by
 unfold b6 at *
 exact by
  intro pins s σ H xs us Q I r h
  obtain ⟨a,ns,rfl,hq,hl,q⟩:=h
  obtain ⟨u,rfl,rx⟩:=vals1 r
  cases rx
  obtain ⟨au,r',pl,hz⟩:=I.list hq
  have hlen:=r'.length
  rw [List.length_map] at hlen
  refine sorted_ints pl.isList (p8 r') (by omega) fun out ns' a1 a2 a3=>?_
  obtain ⟨e,he⟩:=sortedAll_at s.heap au out
  have hn:=a2.length_eq
  have h64:64 ≤ sizeLine:=aJ rfl
  exact ⟨.ref (s.heap.objs.size + 1),_,I.laid (t':=s.toks) (fun _ _=>sortedAll_old) (Nat.le_succ _) (show bQ X.prog X.w _ _ _ (.lst (ns'.map V.int)) from ⟨by rw [List.length_map]; omega,out.toList,e,mX a1,he⟩),rfl,q _ _ (I.hok.fresh (Nat.le_succ _)) a2 a3⟩
end
structure AU (i j:Int):Prop where
 lo:0 < j
 hi:j < 2 ^ 200
theorem rW {P:Program} {w:World} {K:PySem.W.Frag} {mg:Str → Option Value} {base:Heap} {N:List Str} {qual:Str} {scope:Scope} {f:Addr} {cd:Value} {A:Around} {outer:List Env} {s₀:Shared} {H₀:Hp} {E:XK} {CX:l6} :
  PassesOwn (model P w) (iX CX P w K mg base N qual scope f cd A outer s₀ H₀ E).A (iX CX P w K mg base N qual scope f cd A outer s₀ H₀ E).env (iX CX P w K mg base N qual scope f cd A outer s₀ H₀ E).xe:=PassesOwn.leaving
theorem t9.r {X:Cx} {id:String} {r:V → List V → Hp → VK → Prop} (h:t9 X id r):vt X id r:=by
 first
 | exact (h)
 | (unfold vt at *; unfold t9 at *; exact (h))
theorem fP:bootBuiltins "sorted" = some (.builtin "sorted"):=by decide +kernel
end L2
namespace L2
open PySem PySem.Spec PyProof.Rows
theorem cW {K:PySem.W.Frag} {a l:Addr} {xs:List V} {g:TG} {tc:TT} {te:TE} {σ:St} {H:Hp} {Q:VK} (Pv:Nat → St → List V → Hp → Prop) (hsz:xs.length ≤ sizeLine) (h0:Pv 0 σ [] H)
  (hl:∀ i σ acc H,i ≤ xs.length → Pv i σ acc H → H l = some (.lst acc) ∧ ah K H a xs ∧ acc.length ≤ i)
  (hs:∀ i x σ acc H,xs[i]? = some x → Pv i σ acc H → g x σ H fun σ2 H2=>tc σ2 H2 fun b H3=>if b = true then
   te σ2 H3 fun v H4=>H4 l = some (.lst acc) ∧ Nx xs.length i (Pv (i + 1) σ2 (acc ++ [v]) (upd H4 l (.lst (acc ++ [v])))) else Nx xs.length i (Pv (i + 1) σ2 acc H3))
  (hd:∀ σ acc H,Pv xs.length σ acc H → Q (.ref l) H):kC (yg K a) l g tc te σ H Q :=
 jv xs.length Pv hsz h0 (fun i σ acc H hi p=>⟨(hl i σ acc H hi p).1,(hl i σ acc H hi p).2.2⟩)
  (fun i σ acc H hi p=>⟨xs,xs[i],(hl i σ acc H (Nat.le_of_lt hi) p).2.1,List.getElem?_eq_getElem hi⟩)
  (fun i x σ acc H H' hi p y=>by
   obtain ⟨e,y⟩:=y
   subst e
   exact hs i x σ acc _ (y xs (hl i σ acc _ (Nat.le_of_lt hi) p).2.1) p)
  (fun σ acc H p=>⟨⟨xs,(hl _ σ acc H (Nat.le_refl _) p).2.1,Nat.le_refl _⟩,hd σ acc H p⟩)
def Tr:Nat → Type
 | 0=>Int
 | n + 1=>List (Tr n)
abbrev ls {n:Nat} (ts:Tr (n + 1)):List (Tr n):=ts
abbrev Ow:=Addr → Option (List Nat)
def kD (H:Hp):(n:Nat) → V → Tr n → Prop
 | 0,v,i=>v = .int i
 | n + 1,v,ts=>∃ a vs,v = .ref a ∧ H a = some (.lst vs) ∧ vs.length = (ls ts).length ∧ ∀ (j:Nat) w t,vs[j]? = some w → (ls ts)[j]? = some t → kD H n w t
def At (o:Ow) (H:Hp):(n:Nat) → List Nat → V → Tr n → Prop
 | 0,_,v,i=>v = .int i
 | n + 1,p,v,ts=>∃ a vs,v = .ref a ∧ o a = some p ∧ H a = some (.lst vs) ∧ vs.length = (ls ts).length ∧ ∀ (j:Nat) w t,vs[j]? = some w → (ls ts)[j]? = some t → At o H n (j :: p) w t
theorem At.r {o:Ow} {H:Hp}:∀ {n:Nat} {p:List Nat} {v:V} {t:Tr n},At o H n p v t → kD H n v t
 | 0,_,_,_,h=>h
 | n + 1,_,_,_,⟨a,vs,e,_,h,l,k⟩=>⟨a,vs,e,h,l,fun j w t hw ht=>(k j w t hw ht).r⟩
theorem kD.keep {H H':Hp} (s:∀ a xs,H a = some (.lst xs) → H' a = some (.lst xs)):∀ {n:Nat} {v:V} {t:Tr n},kD H n v t → kD H' n v t
 | 0,_,_,h=>h
 | n + 1,_,_,⟨a,vs,e,h,l,k⟩=>⟨a,vs,e,s _ _ h,l,fun j w t hw ht=>(k j w t hw ht).keep s⟩
theorem kD.same {H H':Hp} (s:aG H H') {n:Nat} {v:V} {t:Tr n} (h:kD H n v t):kD H' n v t:=h.keep fun a xs e=>s a _ e
theorem At.frame {o o':Ow} {H H':Hp}:∀ {n:Nat} {p:List Nat} {v:V} {t:Tr n},At o H n p v t → (∀ a r xs,o a = some r → p <:+ r → H a = some (.lst xs) → H' a = some (.lst xs) ∧ o' a = some r) → At o' H' n p v t
 | 0,_,_,_,h,_=>h
 | n + 1,p,_,_,⟨a,vs,e,ho,h,l,k⟩,f =>
  have q:=f a p vs ho (List.suffix_refl p) h
  ⟨a,vs,e,q.2,q.1,l,fun j w t hw ht=>(k j w t hw ht).frame fun b r xs hb hs hx=>f b r xs hb ((List.suffix_cons j p).trans hs) hx⟩
theorem At.under {o:Ow} {H:Hp} (q:List Nat):∀ {n:Nat} {p:List Nat} {v:V} {t:Tr n},At o H n p v t → At (fun a=>(o a).map (· ++ q)) H n (p ++ q) v t
 | 0,_,_,_,h=>h
 | n + 1,p,_,_,⟨a,vs,e,ho,h,l,k⟩=>⟨a,vs,e,(by show (o a).map (· ++ q) = _; rw [ho]; rfl),h,l,fun j w t hw ht=>(k j w t hw ht).under q⟩
theorem gC {j:Nat} {p:List Nat}:¬ (j :: p) <:+ p:=fun h=>by
 have:=h.length_le
 rw [List.length_cons] at this
 omega
theorem lR {j i:Nat} {p r:List Nat} (h:(j :: p) <:+ r) (h':(i :: p) <:+ r):j = i:=by
 have e1:(j :: p) = r.drop (r.length - (j :: p).length):=List.suffix_iff_eq_drop.mp h
 have e2:(i :: p) = r.drop (r.length - (i :: p).length):=List.suffix_iff_eq_drop.mp h'
 rw [List.length_cons] at e1 e2
 rw [← e2] at e1
 exact (List.cons.inj e1).1
theorem At.put {o o':Ow} {H H':Hp} {n:Nat} {p:List Nat} {a:Addr} {ts:Tr (n + 1)} {vs:List V} {i:Nat} {w:V} {t:Tr n} (h:At o H (n + 1) p (.ref a) ts) (hv:H a = some (.lst vs)) (hi:i < vs.length)
  (hf:∀ b r xs,o b = some r → b ≠ a → ¬ (i :: p) <:+ r → H b = some (.lst xs) → H' b = some (.lst xs)) (ho:∀ b r,o b = some r → ¬ (i :: p) <:+ r → o' b = some r)
  (e:H' a = some (.lst (vs.set i w))) (hw:At o' H' n (i :: p) w t):At o' H' (n + 1) p (.ref a) ((ls ts).set i t:List (Tr n)):=by
 obtain ⟨a',vs',ea,ho',h',l,k⟩:=h
 cases ea
 rw [hv] at h'
 cases h'
 refine ⟨a,_,rfl,ho _ _ ho' gC,e,by show (vs.set i w).length = ((ls ts).set i t).length; rw [List.length_set,List.length_set,l],fun j x u hx hu=>?_⟩
 have hu:((ls ts).set i t)[j]? = some u:=hu
 by_cases q:i = j
 ·subst q
  rw [List.getElem?_set_self (by omega)] at hx
  rw [List.getElem?_set_self (by omega)] at hu
  cases hx
  cases hu
  exact hw
 ·rw [List.getElem?_set_ne q] at hx hu
  refine (k j x u hx hu).frame fun b r xs hb hs hx=>?_
  have hne:b ≠ a:=fun z=>by
   subst z
   rw [ho'] at hb
   cases hb
   exact gC hs
  have hni:¬ (i :: p) <:+ r:=fun z=>q (lR z hs)
  exact ⟨hf b r xs hb hne hni hx,ho b r hb hni⟩
theorem At.lst {o:Ow} {H:Hp} {n:Nat} {p:List Nat} {v:V} {ts:Tr (n + 1)} (h:At o H (n + 1) p v ts):∃ a vs,v = .ref a ∧ o a = some p ∧ H a = some (.lst vs) ∧ vs.length = (ls ts).length :=
 let ⟨a,vs,e,ho,h,l,_⟩:=h
 ⟨a,vs,e,ho,h,l⟩
theorem At.A6 {o:Ow} {H:Hp} {n:Nat} {p:List Nat} {a:Addr} {ts:Tr (n + 1)} {vs:List V} {j:Nat} (h:At o H (n + 1) p (.ref a) ts) (hv:H a = some (.lst vs)) (hj:j < vs.length):∃ w t,vs[j]? = some w ∧ (ls ts)[j]? = some t ∧ At o H n (j :: p) w t:=by
 obtain ⟨a',vs',ea,ho',h',l,k⟩:=h
 cases ea
 rw [hv] at h'
 cases h'
 have h1:vs[j]? = some vs[j]:=List.getElem?_eq_getElem hj
 have hj':j < (ls ts).length:=by omega
 have h2:(ls ts)[j]? = some (ls ts)[j]:=List.getElem?_eq_getElem hj'
 exact ⟨_,_,h1,h2,k j _ _ h1 h2⟩
theorem kD.A6 {H:Hp} {n:Nat} {a:Addr} {ts:Tr (n + 1)} {vs:List V} {j:Nat} (h:kD H (n + 1) (.ref a) ts) (hv:H a = some (.lst vs)) (hj:j < vs.length):∃ w t,vs[j]? = some w ∧ (ls ts)[j]? = some t ∧ kD H n w t:=by
 obtain ⟨a',vs',ea,h',l,k⟩:=h
 cases ea
 rw [hv] at h'
 cases h'
 have h1:vs[j]? = some vs[j]:=List.getElem?_eq_getElem hj
 have hj':j < (ls ts).length:=by omega
 have h2:(ls ts)[j]? = some (ls ts)[j]:=List.getElem?_eq_getElem hj'
 exact ⟨_,_,h1,h2,k j _ _ h1 h2⟩
theorem kD.lst {H:Hp} {n:Nat} {v:V} {ts:Tr (n + 1)} (h:kD H (n + 1) v ts):∃ a vs,v = .ref a ∧ H a = some (.lst vs) ∧ vs.length = (ls ts).length :=
 let ⟨a,vs,e,h,l,_⟩:=h
 ⟨a,vs,e,h,l⟩
def qP (H H':Hp) (n:Nat) (w:V) (t:Tr n):Prop:=∃ o,At o H' n [] w t ∧ ∀ a r,o a = some r → H a = none ∧ H' a ≠ none
def jk (H H':Hp) (l:Addr) (n:Nat) (ws:List V) (ts:List (Tr n)):Prop :=
 ws.length = ts.length ∧ ∃ o:Ow,(∀ (j:Nat) w t,ws[j]? = some w → ts[j]? = some t → At o H' n [j] w t) ∧ ∀ a r,o a = some r → H a = none ∧ H' a ≠ none ∧ a ≠ l ∧ r ≠ []
theorem qP.r {H H':Hp} {n:Nat} {w:V} {t:Tr n} (h:qP H H' n w t):kD H' n w t:=let ⟨_,h,_⟩:=h; h.r
theorem jk.nil {H H':Hp} {l:Addr} {n:Nat}:jk H H' l n [] []:=⟨rfl,fun _=>none,fun j w t h=>(by rw [List.getElem?_nil] at h; cases h),fun a r h=>nomatch h⟩
theorem jk.frame {H H' H'':Hp} {l:Addr} {n:Nat} {ws:List V} {ts:List (Tr n)} (h:jk H H' l n ws ts) (f:∀ a xs,a ≠ l → H a = none → H' a = some (.lst xs) → H'' a = some (.lst xs)) (g:∀ a,H' a ≠ none → H'' a ≠ none):jk H H'' l n ws ts:=by
 obtain ⟨e,o,k,d⟩:=h
 exact ⟨e,o,fun j w t hw ht=>(k j w t hw ht).frame fun a r xs ho _ hx=>⟨f a xs (d a r ho).2.2.1 (d a r ho).1 hx,ho⟩,fun a r ho=>⟨(d a r ho).1,g a (d a r ho).2.1,(d a r ho).2.2⟩⟩
theorem qP.frame {H H' H'':Hp} {n:Nat} {w:V} {t:Tr n} (h:qP H H' n w t) (f:∀ a xs,H a = none → H' a = some (.lst xs) → H'' a = some (.lst xs)) (g:∀ a,H' a ≠ none → H'' a ≠ none):qP H H'' n w t:=by
 obtain ⟨o,k,d⟩:=h
 exact ⟨o,k.frame fun a r xs ho _ hx=>⟨f a xs (d a r ho).1 hx,ho⟩,fun a r ho=>⟨(d a r ho).1,g a (d a r ho).2⟩⟩
theorem qP.same {H H' H'':Hp} {n:Nat} {w:V} {t:Tr n} (h:qP H H' n w t) (s:aG H' H''):qP H H'' n w t:=h.frame (fun a xs _ e=>s a _ e) fun a e=>by
 cases q:H' a with
 | none=>exact absurd q e
 | some u=>rw [s a u q]; intro z; cases z
theorem qP.int {H H':Hp} {i:Int}:qP H H' 0 (.int i) i:=⟨fun _=>none,rfl,fun a r h=>nomatch h⟩
theorem jk.snoc {H H' H'':Hp} {l:Addr} {n:Nat} {ws:List V} {ts:List (Tr n)} {w:V} {t:Tr n} (h:jk H H' l n ws ts) (hl:H' l ≠ none) (fr:∀ a,H' a = none → H a = none) (f:∀ a xs,a ≠ l → H a = none → H' a = some (.lst xs) → H'' a = some (.lst xs)) (g:∀ a,H' a ≠ none → H'' a ≠ none)
  (hn:qP H' H'' n w t):jk H H'' l n (ws ++ [w]) (ts ++ [t]):=by
 obtain ⟨e,o,k,d⟩:=h
 obtain ⟨o2,k2,d2⟩:=hn
 have old:∀ a r,o a = some r → o2 a = none:=fun a r ho=>by
  cases q:o2 a with
  | none=>rfl
  | some r2=>exact absurd (d2 a r2 q).1 (d a r ho).2.1
 refine ⟨by rw [List.length_append,List.length_append,e]; rfl,fun a=>match o2 a with | some r=>some (r ++ [ws.length]) | none=>o a,fun j x u hx hu=>?_,fun a r hr=>?_⟩
 ·rcases Nat.lt_trichotomy j ws.length with q | q | q
  ·rw [List.getElem?_append_left q] at hx
   rw [List.getElem?_append_left (by omega)] at hu
   refine (k j x u hx hu).frame fun a r xs ho _ hx=>⟨f a xs (d a r ho).2.2.1 (d a r ho).1 hx,?_⟩
   show (match o2 a with | some r=>some (r ++ [ws.length]) | none=>o a) = some r
   rw [old a r ho]
   exact ho
  ·subst q
   rw [List.getElem?_append_right (Nat.le_refl _),Nat.sub_self] at hx
   rw [List.getElem?_append_right (by omega),show ws.length - ts.length = 0 by omega] at hu
   cases hx
   cases hu
   refine (k2.under [ws.length]).frame fun a r xs ho _ hx=>⟨hx,?_⟩
   show (match o2 a with | some r=>some (r ++ [ws.length]) | none=>o a) = some r
   cases q:o2 a with
   | none=>rw [q] at ho; cases ho
   | some r2=>rw [q] at ho; exact ho
  ·rw [List.getElem?_append_right (by omega)] at hx
   have:[w].length ≤ j - ws.length:=by rw [List.length_singleton]; omega
   rw [List.getElem?_eq_none this] at hx
   cases hx
 ·have hr:(match o2 a with | some r=>some (r ++ [ws.length]) | none=>o a) = some r:=hr
  cases q:o2 a with
  | none =>
   rw [q] at hr
   exact ⟨(d a r hr).1,g a (d a r hr).2.1,(d a r hr).2.2⟩
  | some r2 =>
   rw [q] at hr
   cases hr
   refine ⟨fr a (d2 a r2 q).1,(d2 a r2 q).2,fun z=>?_,fun z=>?_⟩
   ·subst z
    exact hl (d2 a r2 q).1
   ·have:=congrArg List.length z
    rw [List.length_append] at this
    simp at this
theorem jk.done {H H':Hp} {l:Addr} {n:Nat} {ws:List V} {ts:List (Tr n)} (h:jk H H' l n ws ts) (hl:H l = none) (e:H' l = some (.lst ws)):qP H H' (n + 1) (.ref l) ts:=by
 obtain ⟨el,o,k,d⟩:=h
 have nl:o l = none:=by
  cases q:o l with
  | none=>rfl
  | some r=>exact absurd rfl (d l r q).2.2.1
 refine ⟨fun a=>if a = l then some [] else o a,⟨l,ws,rfl,if_pos rfl,e,el,fun j w t hw ht=>(k j w t hw ht).frame fun a r xs ho _ hx=>⟨hx,?_⟩⟩,fun a r hr=>?_⟩
 ·show (if a = l then some [] else o a) = some r
  rw [if_neg (d a r ho).2.2.1]
  exact ho
 ·have hr:(if a = l then some [] else o a) = some r:=hr
  by_cases q:a = l
  ·subst q
   exact ⟨hl,by rw [e]; intro z; cases z⟩
  ·rw [if_neg q] at hr
   exact ⟨(d a r hr).1,(d a r hr).2.1⟩
def flat:(n:Nat) → Tr n → List Int
 | 0,i=>[i]
 | n + 1,ts=>(ls ts).flatMap (flat n)
def full:(n:Nat) → Tr n → Prop
 | 0,_=>True
 | n + 1,ts=>ls ts ≠ [] ∧ ∀ t ∈ ls ts,full n t
theorem bP.ty {K:PySem.W.Frag} {H:Hp} {x:V} {n c:String} {b:Bool} {Q:VK} (t:dP K H x (.type n)) (k:PySem.W.kitOne K (.type n) (.type c) = some b) (q:Q (.bl b) H):bP K [x,.ty c] H Q:=.inl ⟨x,.ty c,_,_,_,rfl,.ty c,t,k,q⟩
def BX (o:Ow) (H:Hp):Prop:=∀ b r,o b = some r → H b ≠ none
structure Ext (o o':Ow) (H H1:Hp):Prop where
 old:∀ b,H b ≠ none → o' b = o b
 new:∀ b r,o' b = some r → H b = none → H1 b ≠ none
def A2 (H:Hp) (o oN:Ow) (q:List Nat):Ow:=fun b=>match H b with | none=>(oN b).map (· ++ q) | some _=>o b
theorem qP.put {o:Ow} {H H1:Hp} {n:Nat} {w:V} {t:Tr n} (nw:qP H H1 n w t) (q:List Nat):∃ o',Ext o o' H H1 ∧ ∀ H2,(∀ b xs,H b = none → H1 b = some (.lst xs) → H2 b = some (.lst xs)) → At o' H2 n q w t:=by
 obtain ⟨oN,k,d⟩:=nw
 refine ⟨A2 H o oN q,⟨fun b hb=>?_,fun b r hr hb=>?_⟩,fun H2 f=>?_⟩
 ·unfold A2
  cases e:H b with
  | none=>exact absurd e hb
  | some u=>rfl
 ·unfold A2 at hr
  rw [hb] at hr
  cases e:oN b with
  | none =>
   have hr:(oN b).map (· ++ q) = some r:=hr
   rw [e] at hr
   cases hr
  | some r'=>exact (d b r' e).2
 ·refine (k.under q).frame fun b r xs hr _ hx=>?_
  have hr:(oN b).map (· ++ q) = some r:=hr
  cases e:oN b with
  | none=>rw [e] at hr; cases hr
  | some r' =>
   refine ⟨f b xs (d b r' e).1 hx,?_⟩
   unfold A2
   rw [(d b r' e).1]
   exact hr
theorem Ext.after {o o':Ow} {H H1:Hp} {c:Addr} {u:HO} (x:Ext o o' H H1) (dm:BX o H) (s:aG H H1):BX o' (upd H1 c u):=fun b r hr=>by
 by_cases q:b = c
 ·rw [q,aB]; intro z; cases z
 ·rw [aI q]
  cases e:H b with
  | none=>exact x.new b r hr e
  | some v=>rw [s b v e]; intro z; cases z
end L2
namespace L2
open PySem PySem.Spec PyProof.Rows
def u7 (K:PySem.W.Frag):R2:=fun x y H Q=>∃ a b xs ys,x = .ref a ∧ y = .ref b ∧ bp K H a xs ∧ bp K H b ys ∧ ys ≠ [] ∧ xs.length + ys.length ≤ sizeLine ∧
 (xs = [] → Q (.ref b) H) ∧ (xs ≠ [] → ∀ p,H p = none → Q (.ref p) (upd H p (.tup (xs ++ ys))))
theorem iZ {X:Cx}:c8 X (binaryOp .Add) (u7 X.K):=by
 unfold c8 at *
 exact by
  intro pins s σ H x y v u Q I rx ry h
  obtain ⟨a,b,xs,ys,rfl,rfl,ha,hb,hy,hz,q1,q2⟩:=h
  cases rx
  cases ry
  by_cases hx:xs = []
  ·obtain ⟨au,r1,p1,_⟩:=I.tuple ha
   obtain ⟨its2,r2,p2,_⟩:=I.tuple hb
   have hv:au = []:=r1.jy.mpr hx
   obtain ⟨⟨cls,dd,data,sl⟩,ho,hc,n,hd⟩:=id p1
   obtain ⟨⟨cls2,dd2,data2,sl2⟩,ho2,hc2,n2,hd2⟩:=id p2
   simp only at hc hd hc2 hd2
   subst hc hd hc2 hd2
   exact concat_meets ⟨_,ho,rfl⟩ ⟨_,ho2,rfl⟩ noFill_tuple_add seq_tuple_add PySem.F.slot_tuple_add PySem.F.entry_tuple_add (PySem.F.args_tuple_add_2 _ _)
    (tuple_addW0 a b au.toArray its2.toArray n n2 dd dd2 sl sl2 (by simp [hv])) ⟨ho,ho2,⟨.ref b,H,I,rfl,q1 hx⟩⟩
  ·have op:=xQ (X:=X)
   unfold c8 at op
   exact op pins s σ H (.ref a) (.ref b) _ _ Q I rfl rfl ⟨a,b,xs,ys,rfl,rfl,ha,hb,hx,hz,fun e=>absurd e hy,fun _=>q2 hx⟩
end L2
namespace L2
open PySem PySem.Spec PyProof.Rows
theorem wa {k:Key} {v:Value} (h:hU k v = true):RelV (kV k) v:=by
 rcases bc h with ⟨i,t,rfl,rfl⟩ | ⟨x,t,rfl,rfl⟩
 ·exact ⟨t,rfl⟩
 ·exact ⟨t,rfl⟩
theorem eF {α β:Type} {F:α → β → Prop}:∀ {l₁:List α} {l₂:List β} {i:Nat} {a:α},Paired F l₁ l₂ → l₁[i]? = some a → ∃ b,l₂[i]? = some b ∧ F a b
 | _,_,0,_,.cons h _,e=>by cases e; exact ⟨_,rfl,h⟩
 | _,_,i + 1,_,.cons _ r,e=>eF (i:=i) r e
end L2
namespace L2
open PySem PySem.Spec PyProof.Rows
structure zF (K:PySem.W.Frag) (C:Addr):Prop where
 ha:PySem.W.findIn K (.ref C) "__class__" = some (some (.builtin "object.__class__"))
 hn:PySem.W.specialIn K (.builtin "object.__class__") "__get__" = some (some (.builtin "getset_descriptor.__get__"))
 htk:PySem.W.takesIn K (.builtin "object.__class__") = some true
 hm:PySem.W.mroIn K C (.type "object") = some true
theorem bP.ins {K:PySem.W.Frag} {H:Hp} {a C D dx:Addr} {fs:List (Str × V)} {b:Bool} {Q:VK} (h:H a = some (.ins C dx fs)) (cl:rf K C) (q:zF K C) (k:PySem.W.kitOne K (.ref C) (.ref D) = some b) (hQ:Q (.bl b) H):bP K [.ref a,.ref D] H Q :=
 .inl ⟨.ref a,.ref D,_,_,_,rfl,.own D,.ins h cl q.ha q.hn q.htk q.hm,k,hQ⟩
theorem bP.BR {K:PySem.W.Frag} {H:Hp} {x:V} {n:String} {D:Addr} {b:Bool} {Q:VK} (t:dP K H x (.type n)) (k:PySem.W.kitOne K (.type n) (.ref D) = some b) (q:Q (.bl b) H):bP K [x,.ref D] H Q:=.inl ⟨x,.ref D,_,_,_,rfl,.own D,t,k,q⟩
end L2
namespace L2
open PySem PySem.Spec PyProof.Rows
section
variable {X:Cx}
end
theorem At.relabel {o o':Ow} {H H':Hp} {k j:Nat} (f:∀ b p xs,o b = some (p ++ [k]) → H b = some (.lst xs) → o' b = some (p ++ [j]) ∧ H' b = some (.lst xs)):∀ {n:Nat} {q:List Nat} {v:V} {t:Tr n},At o H n (q ++ [k]) v t → At o' H' n (q ++ [j]) v t
 | 0,_,_,_,h=>h
 | n + 1,q,_,_,⟨a,vs,e,ho,h,l,kd⟩=>⟨a,vs,e,(f a q vs ho h).1,(f a q vs ho h).2,l,fun i w t hw ht=>At.relabel f (q:=i :: q) (kd i w t hw ht)⟩
structure Pk {n:Nat} (ws:List V) (ts:List (Tr n)) (i:Nat) (idx:List Nat) (acc:List V) (us:List (Tr n)):Prop where
 la:acc.length = idx.length
 lu:us.length = idx.length
 lt:∀ k ∈ idx,k < i
 nd:idx.Nodup
 at_:∀ j k:Nat,idx[j]? = some k → acc[j]? = ws[k]? ∧ us[j]? = ts[k]?
theorem Pk.nil {n:Nat} {ws:List V} {ts:List (Tr n)}:Pk ws ts 0 [] [] []:=⟨rfl,rfl,fun _ h=>(nomatch h),List.nodup_nil,fun _ _ h=>(by rw [List.getElem?_nil] at h; cases h)⟩
theorem Pk.drop {n:Nat} {ws:List V} {ts:List (Tr n)} {i:Nat} {idx:List Nat} {acc:List V} {us:List (Tr n)} (h:Pk ws ts i idx acc us):Pk ws ts (i + 1) idx acc us :=
 ⟨h.la,h.lu,fun k hk=>Nat.lt_succ_of_lt (h.lt k hk),h.nd,h.at_⟩
theorem Pk.keep {n:Nat} {ws:List V} {ts:List (Tr n)} {i:Nat} {idx:List Nat} {acc:List V} {us:List (Tr n)} {w:V} {t:Tr n} (h:Pk ws ts i idx acc us) (hw:ws[i]? = some w) (ht:ts[i]? = some t):Pk ws ts (i + 1) (idx ++ [i]) (acc ++ [w]) (us ++ [t]):=by
 refine ⟨by rw [List.length_append,List.length_append,h.la]; rfl,by rw [List.length_append,List.length_append,h.lu]; rfl,fun k hk=>?_,?_,fun j k hk=>?_⟩
 ·rcases List.mem_append.mp hk with q | q
  ·exact Nat.lt_succ_of_lt (h.lt k q)
  ·rw [List.mem_singleton.mp q]; exact Nat.lt_succ_self i
 ·rw [List.nodup_append]
  exact ⟨h.nd,List.nodup_cons.mpr ⟨List.not_mem_nil,List.nodup_nil⟩,fun x hx y hy e=>by rw [e,List.mem_singleton.mp hy] at hx; exact Nat.lt_irrefl _ (h.lt _ hx)⟩
 ·by_cases q:j < idx.length
  ·rw [List.getElem?_append_left q] at hk
   rw [List.getElem?_append_left (by rw [h.la]; exact q),List.getElem?_append_left (by rw [h.lu]; exact q)]
   exact h.at_ j k hk
  ·rw [List.getElem?_append_right (by omega)] at hk
   obtain ⟨h1,e1⟩:=List.getElem?_eq_some_iff.mp hk
   have j0:j - idx.length = 0:=by simpa using h1
   rw [j0] at hk
   cases (Option.some.inj hk:i = k)
   rw [List.getElem?_append_right (by rw [h.la]; omega),List.getElem?_append_right (by rw [h.lu]; omega),h.la,h.lu,j0]
   exact ⟨hw.symm,ht.symm⟩
theorem yu {idx:List Nat}:∀ (nd:idx.Nodup) (j:Nat) (h:j < idx.length),idx.idxOf idx[j] = j:=by
 induction idx with
 | nil=>intro _ j h; cases h
 | cons x r ih =>
  intro nd j h
  rw [List.nodup_cons] at nd
  cases j with
  | zero=>simp
  | succ j =>
   have hj:j < r.length:=by simpa using h
   have e:=ih nd.2 j hj
   rw [List.getElem_cons_succ,List.idxOf_cons]
   have ne:(x == r[j]) = false:=by
    rw [beq_eq_false_iff_ne]
    intro q
    exact nd.1 (q ▸ List.getElem_mem hj)
   rw [ne,cond_false,e]
theorem jk.pick {H G G':Hp} {l r:Addr} {n:Nat} {ws acc:List V} {ts us:List (Tr n)} {idx:List Nat} {i:Nat} (h:jk H G l n ws ts) (p:Pk ws ts i idx acc us) (hr:G r = none) (hH:H r = none) (s:aG G G') (e:G' r = some (.lst acc)):qP H G' (n + 1) (.ref r) us:=by
 obtain ⟨el,o,k,d⟩:=h
 have nr:∀ b q,o b = some q → b ≠ r:=fun b q ho z=>(d b q ho).2.1 (by rw [z]; exact hr)
 let o':Ow:=fun b=>if b = r then some [] else match o b with | none=>none | some q=>match q.getLast? with | none=>none | some m=>if m ∈ idx then some (q.dropLast ++ [idx.idxOf m]) else none
 refine ⟨o',⟨r,acc,rfl,if_pos rfl,e,by show acc.length = us.length; rw [p.la,p.lu],fun j w t hw ht=>?_⟩,fun b q hq=>?_⟩
 ·have hj:j < idx.length:=by rw [← p.la]; exact (List.getElem?_eq_some_iff.mp hw).1
  have hm:idx[j]? = some idx[j]:=List.getElem?_eq_getElem hj
  obtain ⟨p1,p2⟩:=p.at_ j _ hm
  have ht:us[j]? = some t:=ht
  rw [hw] at p1
  rw [ht] at p2
  have ka:=k idx[j] w t p1.symm p2.symm
  refine At.relabel (q:=[]) (fun b q xs ho hx=>⟨?_,s b _ hx⟩) ka
  show (if b = r then some [] else match o b with | none=>none | some q=>match q.getLast? with | none=>none | some m=>if m ∈ idx then some (q.dropLast ++ [idx.idxOf m]) else none) = some (q ++ [j])
  rw [if_neg (nr b _ ho),ho]
  show (match (q ++ [idx[j]]).getLast? with | none=>none | some m=>if m ∈ idx then some ((q ++ [idx[j]]).dropLast ++ [idx.idxOf m]) else none) = some (q ++ [j])
  rw [List.getLast?_append]
  show (if idx[j] ∈ idx then some ((q ++ [idx[j]]).dropLast ++ [idx.idxOf idx[j]]) else none) = some (q ++ [j])
  rw [if_pos (List.getElem_mem hj),List.dropLast_concat,yu p.nd j hj]
 ·have hq:(if b = r then some [] else match o b with | none=>none | some q=>match q.getLast? with | none=>none | some m=>if m ∈ idx then some (q.dropLast ++ [idx.idxOf m]) else none) = some q:=hq
  by_cases z:b = r
  ·subst z
   exact ⟨hH,by rw [e]; intro q; cases q⟩
  ·rw [if_neg z] at hq
   cases e2:o b with
   | none=>rw [e2] at hq; cases hq
   | some q2 =>
    have dd:=d b q2 e2
    refine ⟨dd.1,?_⟩
    cases e3:G b with
    | none=>exact absurd e3 dd.2.1
    | some u=>rw [s b u e3]; intro q; cases q
end L2
namespace L2
open PySem PySem.Spec PyProof.Rows
end L2
namespace L2
open PySem PySem.Spec PyProof.Rows
section
variable {X:Cx} {pins:List (Addr × Obj)} {σ:St} {H:Hp} {s:Shared}
end
section
variable {X:Cx} {pins:List (Addr × Obj)} {σ:St} {H:Hp} {s:Shared} {d:Addr} {u0 u1:HO}
def NF (X:Cx) (d:Addr):Prop:=∀ o u,X.H₀ d ≠ some (.frz o u)
theorem eV.swap {P:Program} {w:World} {h:Heap} (ok:eV P w H h) (e:H d = some u0) (h1:∀ y,u0 ≠ .own y) (h2:∀ xs,u0 ≠ .tup xs) (new:bQ P w (upd H d u1) h d u1):eV P w (upd H d u1) h:=fun b u q=>by
 by_cases hb:b = d
 ·subst hb
  rw [aB] at q
  cases q
  exact new
 ·rw [aI hb] at q
  refine (ok b u q).jE (fun c v _ r=>r) (fun c r=>?_) fun c xs r=>?_
  ·rw [aI (fun z=>by rw [z,e] at r; exact h1 _ (Option.some.inj r))]; exact r
  ·rw [aI (fun z=>by rw [z,e] at r; exact h2 _ (Option.some.inj r))]; exact r
theorem Inv.swap (I:Inv X pins σ H s) (e:H d = some u0) (h1:∀ y,u0 ≠ .own y) (h2:∀ xs,u0 ≠ .tup xs) (h3:∀ ps,u0 ≠ .tbl ps) (h4:(∀ o u,u0 ≠ .frz o u) ∨ NF X d) (new:bQ X.prog X.w (upd H d u1) s.heap d u1):Inv X pins σ (upd H d u1) s:=by
 have ne:∀ {b:Addr},H b = none → upd H d u1 b = none:=fun {b} hb=>by
  rw [aI (fun z=>by rw [z,e] at hb; cases hb)]; exact hb
 refine ⟨I.ok,I.os,I.bare,⟨I.base.keep,I.base.slot,fun b o q n hx=>ne (I.base.free b o q n hx),I.base.there,fun b xs q=>?_,fun b o u q=>?_,fun b ps q=>?_⟩,I.loc,I.cell,ne I.free,fun x c q=>ne (I.freeC x c q),fun p hp=>?_,I.hok.swap e h1 h2 new,I.len⟩
 ·have q':=I.base.tups b xs q
  rw [aI (fun z=>by rw [z,e] at q'; exact h2 _ (Option.some.inj q'))]
  exact q'
 ·have q':=I.base.frzs b o u q
  rw [aI (fun z=>by
   rcases h4 with h4 | h4
   ·rw [z,e] at q'; exact h4 _ _ (Option.some.inj q')
   ·rw [z] at q; exact h4 _ _ q)]
  exact q'
 ·obtain ⟨more,q'⟩:=I.base.tbls b ps q
  refine ⟨more,?_⟩
  rw [aI (fun z=>by rw [z,e] at q'; exact h3 _ (Option.some.inj q'))]
  exact q'
 ·obtain ⟨a,b,r⟩:=I.pin p hp
  exact ⟨a,ne b,r⟩
def wH (X:Cx) (H H':Hp):Prop:=∃ d o kvs,H d = some (.frz o (.dK kvs)) ∧ NF X d ∧ H' = upd H d (.dK kvs)
theorem Inv.yL {H':Hp} (I:Inv X pins σ H s) (t:wH X H H'):Inv X pins σ H' s:=by
 obtain ⟨d,o,kvs,e,nf,rfl⟩:=t
 obtain ⟨g,ok⟩:s.heap.get? d = some o ∧ bQ X.prog X.w H s.heap d (.dK kvs):=I.hok d _ e
 exact I.swap e (fun y z=>nomatch z) (fun xs z=>nomatch z) (fun ps z=>nomatch z) (.inr nf) (show bQ X.prog X.w _ s.heap d (.dK kvs) from ok)
def xk (X:Cx) (D:Ends):Ends:={ D with nx:=fun σ H=>∃ H',wH X H H' ∧ D.nx σ H',rt:=fun v H=>∃ H',wH X H H' ∧ D.rt v H' }
theorem iP {st:Stmt} {t:TS} (h:PS X st t):PS X st (fun D σ H=>t (xk X D) σ H):=by
 unfold PS at *
 exact by
  intro pins s σ H D I q
  refine bS (h pins s σ H (xk X D) I q) fun f s1 q1=>?_
  cases f with
  | next=>obtain ⟨σ',H',I',H2,tw,n⟩:=q1; exact ⟨σ',H2,I'.yL tw,n⟩
  | brk=>exact q1
  | cont=>exact q1
  | ret u=>obtain ⟨v,σ',H',I',r,H2,tw,n⟩:=q1; exact ⟨v,σ',H2,I'.yL tw,r,n⟩
theorem sC {e:Expr} {t:TE} (h:PE X e t):PE X e (fun σ H Q=>t σ H fun v H1=>∃ H2,wH X H1 H2 ∧ Q v H2):=by
 unfold PE at *
 exact by
  intro pins s σ H Q I q
  exact bS (h pins s σ H _ I q) fun u s1 ⟨v,H1,I1,r,H2,tw,q2⟩=>⟨v,H2,I1.yL tw,r,q2⟩
def BP (d:Addr) (o:Obj) (kvs:List (Key × V)):It :=
 ⟨fun i H=>H d = some (.frz o (.dK kvs)) ∧ i < kvs.length,fun i H x H'=>H' = H ∧ ∃ p,kvs[i]? = some p ∧ x = kV p.1,fun i H=>H d = some (.frz o (.dK kvs)) ∧ i = kvs.length⟩
def B0 (d:Addr) (o:Obj) (kvs:List (Key × V)):It :=
 ⟨fun i H=>H d = some (.frz o (.dK kvs)) ∧ i < kvs.length,fun i H x H'=>H' = H ∧ ∃ p,kvs[i]? = some p ∧ x = p.2,fun i H=>H d = some (.frz o (.dK kvs)) ∧ i = kvs.length⟩
theorem nV {o:Obj} {kvs:List (Key × V)} {es:Array DictEntry} {ep:Nat} (I:Inv X pins σ H s) (e:H d = some (.frz o (.dK kvs))) (ho:o.data = .dict es ep):∃ vs,KV kvs vs ∧ s.heap.DictAt (aV X.prog X.w) d vs ep:=by
 obtain ⟨g,_,_,vs,r,o',es',ep',g',c,hd,k⟩:s.heap.get? d = some o ∧ kvs.length ≤ sizeLine ∧ (d == sysModules) = false ∧ ∃ vs,KV kvs vs ∧ s.heap.DictOf (aV X.prog X.w) d vs:=I.hok d _ e
 rw [g] at g'
 cases g'
 rw [ho] at hd
 cases hd
 exact ⟨vs,r,o,es,g,c,ho,k⟩
theorem tZ {P:Program} {w:World} {K:PySem.W.Frag} {tg:Expr} {o:Obj} {kvs:List (Key × V)} {es:Array DictEntry} {ep:Nat} (d it:Addr) (ho:o.data = .dict es ep):Turn P w K tg (BP d o kvs) [it] it (fun i h=>h.IsKeyIter it d i kvs.length ep) where
 mem:=by simp
 obj:=fun i h st b hb=>by
  have e:b = it:=by simpa using hb
  subst e
  obtain ⟨o,e,c,d⟩:=st
  exact ⟨o,e,fun v z=>by rw [d] at z; cases z⟩
 keep:=fun i h h' st k=>by
  obtain ⟨o,e,c⟩:=st
  exact ⟨o,k it (by simp) o e,c⟩
 item:=by
  intro X hP hw hK hc i pins s σ H E I hf st hg
  subst hP hw hK
  obtain ⟨e,hi⟩:=hg
  obtain ⟨vs,r,dd⟩:=nV I e ho
  have hl:kvs.length = vs.length:=KV.length r
  obtain ⟨f0,f1,f2,f3,f4,f5⟩:=hf it (by simp)
  obtain ⟨p,hp⟩:∃ p,kvs[i]? = some p:=⟨_,List.getElem?_eq_getElem hi⟩
  obtain ⟨q,hq,h1,h2⟩:=eF r hp
  obtain ⟨q1,q2⟩:=q
  rw [hl] at st
  refine wpAny_pyNext_dict_item st dd hq fun key h' hk st' sb=>?_
  have I1:Inv X pins σ H { s with heap:=h' }:=I.turned (t':=s.toks) (fun b o hb e=>(sb.2 b hb).trans e) f0 f1 f3 f4 f5
  obtain ⟨oi,ei,c,dt⟩:=id st'
  refine ⟨key,rfl,pf (s:={ s with heap:=h' }) ei c dt (by decide) ⟨kV p.1,H,I1,?_,⟨rfl,p,hp,rfl⟩,by rw [hl]; exact st',fun b hb=>(hf b hb).1⟩⟩
  rw [h1]
  exact wa hk
 done:=by
  intro X hP hw hK hc i pins s σ H E I hf st hg
  subst hP hw hK
  obtain ⟨e,hi⟩:=hg
  obtain ⟨vs,r,dd⟩:=nV I e ho
  have hl:kvs.length = vs.length:=KV.length r
  obtain ⟨f0,f1,f2,f3,f4,f5⟩:=hf it (by simp)
  rw [hl] at st
  exact wpAny_pyNext_dict_end (I.ok.hd hc) st dd (by simp; omega) fun h' eb=>⟨rfl,I.turned (t':=s.toks) (fun b o hb e=>eb b o hb e) f0 f1 f3 f4 f5⟩
 self:=fun _ _ _ _ _ st h=>wpAny_pyIter_keyiter st h
theorem sj {P:Program} {w:World} {K:PySem.W.Frag} {tg:Expr} {o:Obj} {kvs:List (Key × V)} {es:Array DictEntry} {ep:Nat} (d it:Addr) (ho:o.data = .dict es ep):Turn P w K tg (B0 d o kvs) [it] it (fun i h=>h.IsValIter it d i kvs.length ep) where
 mem:=by simp
 obj:=fun i h st b hb=>by
  have e:b = it:=by simpa using hb
  subst e
  obtain ⟨o,e,c,d⟩:=st
  exact ⟨o,e,fun v z=>by rw [d] at z; cases z⟩
 keep:=fun i h h' st k=>by
  obtain ⟨o,e,c⟩:=st
  exact ⟨o,k it (by simp) o e,c⟩
 item:=by
  intro X hP hw hK hc i pins s σ H E I hf st hg
  subst hP hw hK
  obtain ⟨e,hi⟩:=hg
  obtain ⟨vs,r,dd⟩:=nV I e ho
  have hl:kvs.length = vs.length:=KV.length r
  obtain ⟨f0,f1,f2,f3,f4,f5⟩:=hf it (by simp)
  obtain ⟨p,hp⟩:∃ p,kvs[i]? = some p:=⟨_,List.getElem?_eq_getElem hi⟩
  obtain ⟨q,hq,h1,h2⟩:=eF r hp
  obtain ⟨q1,q2⟩:=q
  rw [hl] at st
  refine wpAny_pyNext_values_item st dd hq fun h' st' sb=>?_
  have I1:Inv X pins σ H { s with heap:=h' }:=I.turned (t':=s.toks) (fun b o hb e=>(sb.2 b hb).trans e) f0 f1 f3 f4 f5
  obtain ⟨oi,ei,c,dt⟩:=id st'
  exact ⟨q2,rfl,pf (s:={ s with heap:=h' }) ei c dt (by decide) ⟨p.2,H,I1,h2,⟨rfl,p,hp,rfl⟩,by rw [hl]; exact st',fun b hb=>(hf b hb).1⟩⟩
 done:=by
  intro X hP hw hK hc i pins s σ H E I hf st hg
  subst hP hw hK
  obtain ⟨e,hi⟩:=hg
  obtain ⟨vs,r,dd⟩:=nV I e ho
  have hl:kvs.length = vs.length:=KV.length r
  obtain ⟨f0,f1,f2,f3,f4,f5⟩:=hf it (by simp)
  rw [hl] at st
  exact wpAny_pyNext_values_end (I.ok.hd hc) st dd (by simp; omega) fun h' eb=>⟨rfl,I.turned (t':=s.toks) (fun b o hb e=>eb b o hb e) f0 f1 f3 f4 f5⟩
 self:=fun _ _ _ _ _ st h=>wpAny_pyIter_valiter st h
theorem Inv.freeze {kvs:List (Key × V)} (I:Inv X pins σ H s) (e:H d = some (.dK kvs)):∃ o es ep vs,o.data = .dict es ep ∧ NF X d ∧ Inv X pins σ (upd H d (.frz o (.dK kvs))) s ∧ KV kvs vs ∧ (d == sysModules) = false ∧ s.heap.DictAt (aV X.prog X.w) d vs ep:=by
 obtain ⟨z,lo,vs,r,o,es,ep,g,c,hd,k⟩:=xg I.hok e
 refine ⟨o,es,ep,vs,hd,fun o u q=>?_,?_,r,lo,o,es,g,c,hd,k⟩
 ·have:=I.base.frzs d o u q
  rw [e] at this
  cases this
 ·exact I.swap e (fun y z=>nomatch z) (fun xs z=>nomatch z) (fun ps z=>nomatch z) (.inl fun o u z=>nomatch z) (show bQ X.prog X.w _ s.heap d (.frz o (.dK kvs)) from ⟨g,z,lo,vs,r,o,es,ep,g,c,hd,k⟩)
def zc (X:Cx) (tl:TE):TI:=fun σ H R=>tl σ H fun x H1=>∃ d kvs,x = .ref d ∧ H1 d = some (.dK kvs) ∧ ∀ o,NF X d → R (BP d o kvs) (upd H1 d (.frz o (.dK kvs)))
def zk (X:Cx) (tl:TE):TI:=fun σ H R=>tl σ H fun x H1=>∃ d kvs,x = .ref d ∧ H1 d = some (.dK kvs) ∧ ∀ o,NF X d → R (B0 d o kvs) (upd H1 d (.frz o (.dK kvs)))
theorem gY {tg l:Expr} {tl:TE} (hl:PE X l tl):PI X tg l (zc X tl):=by
 unfold PE at *; unfold PI at *
 exact by
  intro pins s σ H R I h
  refine bS (hl pins s σ H _ I h) fun v s1 ⟨x,H1,I1,r1,q1⟩=>?_
  obtain ⟨d,kvs,e,hd,q⟩:=q1
  subst e
  cases r1
  obtain ⟨o,es,ep,vs,ho,nf,I2,r,lo,dd⟩:=I1.freeze hd
  refine wpAny_pyIter_dict lo dd ?_
  refine ⟨s1.heap.objs.size,[s1.heap.objs.size],_,_,_,rfl,I2.kept (t':=s1.toks) fun b o e=>Heap.get?_push_of_some _ e,tZ d _ ho,⟨_,Heap.get?_push_size _ rfl,rfl,by rw [KV.length r]; rfl⟩,fun b hb=>?_,q o nf⟩
  have e:b = s1.heap.objs.size:=by simpa using hb
  subst e
  exact I2.sY (Nat.le_refl _) (I2.hok.fresh (Nat.le_refl _))
theorem xK {tg o:Expr} {to:TE} {apos cpos:Pos} (ho:PE X o to) (hbase:attributeBase o "values" X.env (eval o X.env) = eval o X.env:=by rfl) (hline:(apos.endLine == cpos.line) = true:=by rfl):PI X tg (.Call (.Attribute o "values" apos) [] [] cpos) (zk X to):=by
 unfold PE at *; unfold PI at *
 exact by
  intro pins s σ H R I h
  refine wpAny_Call_method0_late hbase hline (bS (ho pins s σ H _ I h) fun v s1 ⟨x,H1,I1,r1,q1⟩=>?_)
  obtain ⟨d,kvs,e,hd,q⟩:=q1
  subst e
  cases r1
  obtain ⟨t1,t2,_⟩:=qj I1 (.inl ⟨kvs,.inl hd⟩)
  obtain ⟨o,es,ep,vs,ho,nf,I2,r,lo,dd⟩:=I1.freeze hd
  refine ⟨"dict", "dict.values",PySem.F.plainAttrs_dict,PySem.F.slot_dict_values,PySem.F.type_dict_values,t1,t2,Calls.callWith_builtin rfl (PySem.evalArgs_none ?_)⟩
  refine call_meetsIn PySem.F.slot_dict_values t1 PySem.F.entry_dict_values (PySem.F.args_dict_values_1 _) (meets_dict_values (aV X.prog X.w) d lo) ⟨⟨vs,dd.dictOf⟩,?_⟩
  have I3:Inv X pins σ _ { s1 with heap:=s1.heap.push { cls:=.type "dict_values",data:=.fields #[.ref d] } }:=I2.kept (t':=s1.toks) fun b o e=>Heap.get?_push_of_some _ e
  refine wpAny_pyIter_values (s:={ s1 with heap:=s1.heap.push { cls:=.type "dict_values",data:=.fields #[.ref d] } }) ⟨_,Heap.get?_push_size _ rfl,rfl,rfl⟩ (dd.push _) ?_
  refine ⟨_,[_],_,_,_,rfl,I3.kept (t':=s1.toks) fun b o e=>Heap.get?_push_of_some _ e,sj d _ ho,⟨_,Heap.get?_push_size _ rfl,rfl,by rw [KV.length r]; rfl⟩,fun b hb=>?_,q o nf⟩
  rw [List.mem_singleton.mp hb]
  exact I3.sY (Nat.le_refl _) (I3.hok.fresh (Nat.le_refl _))
theorem vB {kvs:List (Key × V)} {o:Obj} {J:It} {f:Key × V → V} (hJ:J = ⟨fun i H=>H d = some (.frz o (.dK kvs)) ∧ i < kvs.length,fun i H x H'=>H' = H ∧ ∃ p,kvs[i]? = some p ∧ x = f p,fun i H=>H d = some (.frz o (.dK kvs)) ∧ i = kvs.length⟩) {g:TG} {tb:TS} {D:Ends} {σ:St} {H:Hp} (Pv:Nat → St → Hp → Prop) (h0:Pv 0 σ H) (hl:∀ i σ H,i ≤ kvs.length → Pv i σ H → H d = some (.frz o (.dK kvs)))
  (hs:∀ i p σ H,kvs[i]? = some p → Pv i σ H → g (f p) σ H fun σ2 H2=>tb { D with nx:=Pv (i + 1),ct:=Pv (i + 1),bk:=D.nx } σ2 H2) (hd:∀ σ H,Pv kvs.length σ H → D.nx σ H) :
  ∃ W:Nat → Nat → St → Hp → Prop,(∃ m,W 0 m σ H) ∧ ∀ i m σ H,W i m σ H →
   (J.stop i H ∧ D.nx σ H) ∨ (J.go i H ∧ ∃ N:St → Hp → Prop,(∀ σ' H',N σ' H' → ∃ m',m' < m ∧ W (i + 1) m' σ' H') ∧ ∀ x H',J.yld i H x H' → g x σ H' fun σ2 H2=>tb { D with nx:=N,ct:=N,bk:=D.nx } σ2 H2):=by
 subst hJ
 refine ⟨fun i m σ H=>m = kvs.length - i ∧ i ≤ kvs.length ∧ Pv i σ H,⟨kvs.length,by simp,Nat.zero_le _,h0⟩,?_⟩
 rintro i m σ H ⟨rfl,hi,p⟩
 have q:=hl i σ H hi p
 by_cases hlt:i < kvs.length
 ·refine .inr ⟨⟨q,hlt⟩,Pv (i + 1),fun σ' H' p'=>⟨kvs.length - (i + 1),by omega,rfl,hlt,p'⟩,fun x H' y=>?_⟩
  obtain ⟨rfl,p',e1,rfl⟩:=y
  exact hs i p' σ _ e1 p
 ·have e:i = kvs.length:=by omega
  subst e
  exact .inl ⟨⟨q,rfl⟩,hd σ H p⟩
theorem eD {kvs:List (Key × V)} {o:Obj} {J:It} {f:Key × V → V} (hJ:J = ⟨fun i H=>H d = some (.frz o (.dK kvs)) ∧ i < kvs.length,fun i H x H'=>H' = H ∧ ∃ p,kvs[i]? = some p ∧ x = f p,fun i H=>H d = some (.frz o (.dK kvs)) ∧ i = kvs.length⟩) {l:Addr} {g:TG} {tc:TT} {te:TE} {σ:St} {H:Hp} {Q:VK} (Pv:Nat → St → List V → Hp → Prop) (hsz:kvs.length ≤ sizeLine) (h0:Pv 0 σ [] H)
  (hl:∀ i σ acc H,i ≤ kvs.length → Pv i σ acc H → H l = some (.lst acc) ∧ H d = some (.frz o (.dK kvs)) ∧ acc.length ≤ i)
  (hs:∀ i p σ acc H,kvs[i]? = some p → Pv i σ acc H → g (f p) σ H fun σ2 H2=>tc σ2 H2 fun b H3=>if b = true then
   te σ2 H3 fun v H4=>H4 l = some (.lst acc) ∧ Nx kvs.length i (Pv (i + 1) σ2 (acc ++ [v]) (upd H4 l (.lst (acc ++ [v])))) else Nx kvs.length i (Pv (i + 1) σ2 acc H3))
  (hd:∀ σ acc H,Pv kvs.length σ acc H → Q (.ref l) H):kC J l g tc te σ H Q:=by
 subst hJ
 exact jv kvs.length Pv hsz h0 (fun i σ acc H hi p=>⟨(hl i σ acc H hi p).1,(hl i σ acc H hi p).2.2⟩)
  (fun i σ acc H hi p=>⟨(hl i σ acc H (Nat.le_of_lt hi) p).2.1,hi⟩)
  (fun i x σ acc H H' hi p y=>by
   obtain ⟨rfl,p',e1,rfl⟩:=y
   exact hs i p' σ acc _ e1 p)
  (fun σ acc H p=>⟨⟨(hl _ σ acc H (Nat.le_refl _) p).2.1,rfl⟩,hd σ acc H p⟩)
end
end L2
namespace L2
open PySem PySem.Spec PyProof.Rows
section
variable {X:Cx} {CX:l6} {k:Nat} {f C:Addr} {fd:FuncData} {ps:List Str} {sp:Sp} {dvs:List V} {ds:List Value} {Ez:St → XK} {x m:Str} {p pos apos:Pos} {e o:Expr} {es:List Expr} {ta:TE} {t:TA}
end
end L2
namespace L2
open PySem PySem.Spec PyProof.Rows
end L2
namespace L2
open PySem PySem.Spec PyProof.Rows
section
variable {prog:Program} {w:World} {A:Around} {E:Value → Shared → Prop} {s:Shared} {T:String} {r d:Addr} {n:Nat} {P:Nat → Value → Prop} {OK:Heap → Prop}
end
section
variable {X:Cx}
end
theorem iF:∀ {a b:List Int},a.Pairwise (· ≤ ·) → b.Pairwise (· ≤ ·) → a.Perm b → a = b
 | [],b,_,_,h=>h.nil_eq
 | x :: a,b,ha,hb,h=>by
  cases b with
  | nil=>exact absurd h.length_eq (by simp)
  | cons y b =>
   rw [List.pairwise_cons] at ha hb
   have hx:x ∈ y :: b:=h.subset (List.mem_cons_self ..)
   have hy:y ∈ x :: a:=h.symm.subset (List.mem_cons_self ..)
   have e:x = y:=by
    rcases List.mem_cons.mp hx with q | q
    ·exact q
    ·rcases List.mem_cons.mp hy with q2 | q2
     ·exact q2.symm
     ·exact Int.le_antisymm (ha.1 y q2) (hb.1 x q)
   subst e
   rw [iF ha.2 hb.2 (List.perm_cons x |>.mp h)]
section
variable {X:Cx}
end
theorem jq (xs:List V) (k:Nat):fZ xs none (some (k:Int)) = xs.take k:=by
 unfold fZ
 rw [HT.jw,HT.vZ,List.drop_zero,Nat.sub_zero]
 have h:=List.take_take (i:=k) (j:=xs.length) (l:=xs)
 rw [List.take_length] at h
 exact h.symm
end L2
namespace L2
open PySem PySem.Spec PyProof.Rows
theorem g8 {P P':Program} {w w':World} {h:Heap} {a:Addr} {vs:List (Key × Value)} (d:h.DictOf (aV P w) a vs) (hi:∀ p ∈ vs,∃ n:Int,p.1 = Sum.inl n):h.DictOf (aV P' w') a vs:=by
 obtain ⟨o,es,ep,g,c,hd,hk,hp,hn⟩:=d
 have pp:∀ {el:List DictEntry} {vl:List (Key × Value)},Pairs (aV P w) el vl → (∀ p ∈ vl,∃ n:Int,p.1 = Sum.inl n) → Pairs (aV P' w') el vl ∧ ∀ e ∈ el,∃ n:Int,hU (Sum.inl n) e.key = true:=by
  intro el vl h
  induction h with
  | nil=>intro _; exact ⟨.nil,fun _ h=>nomatch h⟩
  | @cons e kv es kvs h1 h2 _ ih =>
   intro hi
   obtain ⟨i1,i2⟩:=ih fun p hp=>hi p (List.mem_cons_of_mem _ hp)
   refine ⟨.cons h1 h2 i1,fun x hx=>?_⟩
   rcases List.mem_cons.mp hx with q | q
   ·obtain ⟨n,hn⟩:=hi kv (List.mem_cons_self ..)
    rw [q]
    exact ⟨n,by rw [← hn]; exact h1⟩
   ·exact i2 x q
 obtain ⟨p1,p2⟩:=pp hp hi
 refine ⟨o,es,ep,g,c,hd,fun e he=>?_,p1,hn⟩
 obtain ⟨k,k1,k2⟩:=hk e he
 obtain ⟨n,hn'⟩:=p2 e (by simpa using he)
 have e1:k = Sum.inl n:=(aV P w).inj e.key k (Sum.inl n) k1 hn'
 subst e1
 exact ⟨_,k1,k2⟩
theorem ju {ka:List (Key × V)} {va:List (Key × Value)} (r:KV ka va) (hi:∀ p ∈ ka,∃ n:Int,p.1 = Sum.inl n):∀ p ∈ va,∃ n:Int,p.1 = Sum.inl n:=by
 unfold KV at r
 induction r with
 | nil=>exact fun _ h=>nomatch h
 | @cons p q ps qs h t ih =>
  intro x hx
  rcases List.mem_cons.mp hx with e | e
  ·obtain ⟨n,hn⟩:=hi p (List.mem_cons_self ..)
   rw [e,← h.1]
   exact ⟨n,hn⟩
  ·exact ih (fun p hp=>hi p (List.mem_cons_of_mem _ hp)) x e
def BV (K:PySem.W.Frag) (H:Hp) (n:Nat) (u v:V):Prop:=∃ a b ka kb,u = .ref a ∧ v = .ref b ∧ Rd H a (.dK ka) ∧ Rd H b (.dK kb) ∧ ka.length = kb.length ∧ (∀ p ∈ ka,∃ y,bF kb p.1 = some y ∧ je K H n p.2 y true) ∧ (∀ p ∈ ka,∃ m:Int,p.1 = Sum.inl m) ∧ ∀ p ∈ kb,∃ m:Int,p.1 = Sum.inl m
section
variable {X:Cx} {pins:List (Addr × Obj)} {σ:St} {H:Hp} {s:Shared}
theorem wC (I:Inv X pins σ H s) {A:Around} {n:Nat} {kb:List (Key × V)} {vb:List (Key × Value)} (rb:KV kb vb) (hu:A.units + n < cLine):∀ {ka:List (Key × V)} {va:List (Key × Value)},KV ka va →
  (∀ p ∈ ka,∃ y,bF kb p.1 = some y ∧ je X.K H n p.2 y true) → PySem.W.KeqHits A s vb va true:=by
 intro ka va r
 unfold KV at r
 induction r with
 | nil=>intro _; exact .nil
 | @cons p q ps qs h t ih =>
  intro hall
  obtain ⟨y,hy,he⟩:=hall p (List.mem_cons_self ..)
  obtain ⟨w,hw,rw'⟩:=eY.some_of (v:=y) (o:=valueAt vb q.1) (by rw [← hy,h.1]; exact rb.val q.1)
  obtain ⟨q1,q2⟩:=q
  exact PySem.W.KeqHits.hit (e:=true) (b:=true) hw (je.at I n A p.2 y true q2 w hu he h.2 rw') (ih fun p' hp'=>hall p' (List.mem_cons_of_mem _ hp'))
theorem BV.at (I:Inv X pins σ H s) {A:Around} {n:Nat} {x y:V} {u v:Value} (hu:A.units + 1 + n < cLine) (h:BV X.K H n x y) (rx:RelV x u) (ry:RelV y v):SeqAt.EqAt A s u v true:=by
 obtain ⟨a,b,ka,kb,rfl,rfl,ha,hb,hl,hall,ia,ib⟩:=h
 cases rx
 cases ry
 obtain ⟨za,da,va,ra,oa⟩:=gW I.hok ha
 obtain ⟨zb,db,vb,rb,ob⟩:=gW I.hok hb
 by_cases hab:a = b
 ·subst hab
  exact SeqAt.EqAt.same _
 ·refine SeqAt.EqAt.of_refs hab fun prog w E Q hq=>?_
  have oa':=g8 (P':=prog) (w':=w) oa (ju ra ia)
  have ob':=g8 (P':=prog) (w':=w) ob (ju rb ib)
  refine PySem.W.keq_eq da db oa' ob' (by omega) (fun _=>wC (A:=A.in1) I rb (by show A.units + 1 + n < cLine; exact hu) ra hall) ?_
  rw [← ra.length,← rb.length,hl,beq_self_eq_true,Bool.true_and]
  exact hq
end
end L2
namespace L2
open PySem PySem.Spec PyProof.Rows
end L2
namespace L2
open PySem PySem.Spec PyProof.Rows
structure jX (k:Nat) (A:Around):Prop where
 dp:A.depth + 3 * k + 5 < recursionLimit
 un:A.units + 16 * k + 200 < cLine
theorem jX.mono {j k:Nat} {A:Around} (r:jX k A) (h:j ≤ k):jX j A:=⟨by have:=r.dp; omega,by have:=r.un; omega⟩
theorem jX.deeper {k:Nat} {A:Around} (r:jX (k + 1) A) (env:Env):jX k (A.deeper env) :=
 ⟨by have:=r.dp; show A.depth + 1 + 3 * k + 5 < _; omega,by have:=r.un; show A.units + 3 + 16 * k + 200 < _; omega⟩
theorem jX.depth {k:Nat} {A:Around} (r:jX k A):A.depth < recursionLimit:=by have:=r.dp; omega
section
variable {X:Cx} {CX:l6} {k:Nat} {f C:Addr} {fd:FuncData} {ps:List Str} {sp:Sp} {dvs:List V} {ds:List Value} {E:XK} {x m:Str} {p pos apos:Pos} {e o:Expr} {es:List Expr} {ta:TE} {t:TA}
end
section
variable {P:Program} {w:World} {K:PySem.W.Frag} {mg:Str → Option Value} {base:Heap}
end
end L2
namespace L2
open PySem PySem.Spec PyProof.Rows
section
variable {prog:Program} {w:World} {A:Around} {E:Value → Shared → Prop} {s:Shared}
end
section
variable {prog:Program} {w:World} {A:Around} {E:Value → Shared → Prop} {s:Shared}
end
section
variable {X:Cx}
def yF (H:Hp) (v:V) (nm:Option (List Str)):Prop:=match nm with | none=>v = .bI | some z=>∃ t,v = .ref t ∧ H t = some (.tup (z.map V.str))
end
theorem sA:∀ (a b:List Str),vi (a.map V.str) (b.map V.str) = decide (a = b)
 | [],[]=>rfl
 | [],_ :: _=>rfl
 | _ :: _,[]=>rfl
 | x :: a,y :: b=>by
  show (f9 (.str x) (.str y) && vi (a.map V.str) (b.map V.str)) = _
  rw [sA a b]
  by_cases h:x = y
  ·subst h
   rw [fQ rfl,Bool.true_and]
   by_cases q:a = b
   ·rw [decide_eq_true q,decide_eq_true (by rw [q])]
   ·rw [decide_eq_false q,decide_eq_false (fun z=>q (List.cons.inj z).2)]
  ·have e:f9 (.str x) (.str y) = false:=by
    simp [f9]
    exact h
   rw [e,decide_eq_false (fun z=>h (List.cons.inj z).1)]
   rfl
theorem iT (zs:List Str):(zs.map V.str).all b5 = true:=by
 rw [List.all_eq_true]
 intro x hx
 obtain ⟨z,_,rfl⟩:=List.mem_map.mp hx
 rfl
theorem wu {K:PySem.W.Frag} {H:Hp} {n:Nat} {t u:Addr} {a b:List Str} (h1:H t = some (.tup (a.map V.str))) (h2:H u = some (.tup (b.map V.str))):bZ K H (je K H n) (.ref t) (.ref u) (decide (a = b)):=by
 by_cases hl:a.length = b.length
 ·have h:=bZ.zu (K:=K) (H:=H) (n:=n) (bp.of h1) (bp.of h2) (by rw [List.length_map,List.length_map,hl]) (iT a) (iT b)
  rw [sA] at h
  exact h
 ·have h:=bZ.tup (K:=K) (H:=H) (R:=je K H n) (e:=fun i=>f9 ((a.map V.str).getD i .bI) ((b.map V.str).getD i .bI)) (bp.of h1) (bp.of h2) fun i x y hx hy=>?_
  ·have e1:((a.map V.str).length == (b.map V.str).length) = false:=by
    rw [List.length_map,List.length_map]
    exact beq_eq_false_iff_ne.mpr hl
   rw [e1,Bool.and_false] at h
   rw [decide_eq_false (fun z=>hl (by rw [z]))]
   exact h
  ·have q:b5 x = true ∧ b5 y = true ∧ f9 ((a.map V.str).getD i .bI) ((b.map V.str).getD i .bI) = f9 x y:=by
    refine ⟨List.all_eq_true.mp (iT a) x (List.mem_of_getElem? hx),List.all_eq_true.mp (iT b) y (List.mem_of_getElem? hy),?_⟩
    rw [List.getD_eq_getElem?_getD,List.getD_eq_getElem?_getD,hx,hy]
    rfl
   cases n with
   | zero=>exact .inl q
   | succ n=>exact .inl (.inl q)
theorem yF.A7 {K:PySem.W.Frag} {H:Hp} {x y:V} {a:Option (List Str)} (h1:yF H x a) (h2:yF H y a) (n:Nat):je K H (n + 1) x y true:=by
 cases a with
 | none =>
  obtain rfl:x = .bI:=h1
  obtain rfl:y = .bI:=h2
  exact .inl (.inl ⟨rfl,rfl,rfl⟩)
 | some z =>
  obtain ⟨t,rfl,ht⟩:=h1
  obtain ⟨u,rfl,hu⟩:=h2
  have h:=wu (K:=K) (n:=n) ht hu
  rw [decide_eq_true rfl] at h
  exact .inr h
end L2
namespace L2
open PySem PySem.Spec PyProof.Rows
theorem kD.A7 {K:PySem.W.Frag} {H:Hp}:∀ {n:Nat} {v w:V} {t:Tr n},kD H n v t → kD H n w t → je K H n v w true
 | 0,v,w,t,h1,h2=>by
  have e1:v = .int t:=h1
  have e2:w = .int t:=h2
  subst e1 e2
  exact .inl ⟨rfl,rfl,(fQ (x:=V.int t) rfl).symm⟩
 | n + 1,v,w,t,h1,h2=>by
  obtain ⟨a,vs,rfl,hA,la⟩:=h1.lst
  obtain ⟨b,ws,rfl,hB,lb⟩:=h2.lst
  have h:=bZ.list (K:=K) (R:=je K H n) (e:=fun _=>true) (ah.of hA) (ah.of hB) (by omega) fun i x y hx hy=>by
   obtain ⟨x',t1,e1,e2,k1⟩:=h1.A6 hA (List.getElem?_eq_some_iff.mp hx).1
   obtain ⟨y',t2,e3,e4,k2⟩:=h2.A6 hB (List.getElem?_eq_some_iff.mp hy).1
   rw [hx] at e1; cases e1
   rw [hy] at e3; cases e3
   rw [e2] at e4; cases e4
   exact kD.A7 k1 k2
  rw [all_range fun i _=>rfl] at h
  exact .inr h
theorem kD.seq {K:PySem.W.Frag} {H:Hp} {n:Nat} {v w:V} {t:Tr (n + 1)} (h1:kD H (n + 1) v t) (h2:kD H (n + 1) w t):bZ K H (je K H n) v w true:=by
 rcases kD.A7 (K:=K) h1 h2 with (⟨e,_,_⟩ | ⟨a,e1,e2,_⟩) | h
 ·obtain ⟨a,vs,rfl,_⟩:=h1.lst
  exact absurd e (by intro z; cases z)
 ·subst e1 e2
  obtain ⟨_,vs,e,hA,la⟩:=h1.lst
  cases e
  have h:=bZ.list (K:=K) (R:=je K H n) (e:=fun _=>true) (ah.of hA) (ah.of hA) rfl fun i x y hx hy=>by
   obtain ⟨x',t1,e1,e2,k1⟩:=h1.A6 hA (List.getElem?_eq_some_iff.mp hx).1
   rw [hx] at hy; cases hy
   rw [hx] at e1; cases e1
   exact kD.A7 k1 k1
  rw [all_range fun i _=>rfl] at h
  exact h
 ·exact h
end L2
namespace L2
open PySem PySem.Spec PyProof.Rows PySem.W
section
variable {prog:Program} {w:World} {A:Around} {E:Value → Shared → Prop} {h:Heap} {g:Array GenState} {d:Drawn} {t:Nat} {os:OsState}
variable {nm q:Str} {C N:Addr} {bs bm:List Value} {hdct:Bool} {sn:List Str} {sub:List Value} {ab:Bool} {col:Option Bool} {dd:Option Addr} {k0 k1 k2 k3 k5:Option Value} {K:Frag}
theorem vI:qr.contains (.type "ValueError") = true:=F.excBase_ValueError.hasB
theorem k9 (X:K.In h) (T:OwnTail h qr bm) {mN:Str → Option Value} {rest:List Value} {fI:Addr} {Q:Fin → Shared → Prop}
  (hC:h.get? C = some (excClassObj nm q C N bs bm hdct sn sub ab col dd k0 k1 k2 k3 k5 "ValueError.__new__")) (hn:h.Ns N mN) (hi:mN "__init__" = some (.ref fI)) (hf:typeIn K (.ref fI) = some (.type "function"))
  (hq:∀ h' e,Heap.MadeExcOf h h' e (.ref C) rest → h.objs.size ≤ e →
   wpAny (model prog w) A (call (.ref fI) (.ref e :: rest)) (fun r s'=>r = .none ∧ Q (.done (.ret (.ref e))) s') E ⟨h',g,d,t,os⟩) (hrest:rest.length ≤ sizeLine) :
  wpAny (model prog w) A (Builtin.«type.__call__» ⟨.ref C :: rest,[]⟩) Q E ⟨h,g,d,t,os⟩:=by
 have Fn:=F.excBase_ValueError
 repeat (first | with_reducible refine wpAny_loadPart_at hC ?_ | with_reducible refine wpAny_madeBy_exc hC ?_ | wp_step)
 refine codeAny_call_builtin_code (Code.quiet_builtin _ Fn.quiet) (wpAny_check_new_subU Fn vI T hC ?_)
 refine codeAny_exc_new_subU Fn vI Fn T hC ?_ hrest
 show wpAny _ _ _ _ _ _
 have kp:∀ b o,h.get? b = some o → ((h.push { cls:=.type "tuple",data:=.seq rest.toArray }).push { cls:=.ref C,data:=.fields #[.ref h.objs.size,.none,.none,.none,.bool false,.none] }).get? b = some o:=fun b o e=>Heap.get?_push_of_some _ (Heap.get?_push_of_some _ e)
 have hC₁:=kp _ _ hC
 have X₁:K.In ((h.push { cls:=.type "tuple",data:=.seq rest.toArray }).push { cls:=.ref C,data:=.fields #[.ref h.objs.size,.none,.none,.none,.bool false,.none] }):=fun a o e=>kp _ _ (X a o e)
 have hn₁:((h.push { cls:=.type "tuple",data:=.seq rest.toArray }).push { cls:=.ref C,data:=.fields #[.ref h.objs.size,.none,.none,.none,.bool false,.none] }).Ns N mN :=
  let ⟨o,es,ep,e,r⟩:=hn; ⟨o,es,ep,kp _ _ e,r⟩
 have hget:((h.push { cls:=.type "tuple",data:=.seq rest.toArray }).push
   { cls:=.ref C,data:=.fields #[.ref h.objs.size,.none,.none,.none,.bool false,.none] }).get? (h.objs.size + 1) = some
   { cls:=.ref C,data:=.fields #[.ref h.objs.size,.none,.none,.none,.bool false,.none] }:=by heap_get
 have hcC:(Value.ref C :: bm).contains (.ref C) = true:=by simp
 have T₁:=T.keeps (h':=(h.push { cls:=.type "tuple",data:=.seq rest.toArray }).push { cls:=.ref C,data:=.fields #[.ref h.objs.size,.none,.none,.none,.bool false,.none] }) kp
 unfold isInstance
 repeat (first | with_reducible refine wpAny_loadPart_at hget ?_ | (with_reducible refine wpAny_isSubtype_exc hC₁ ?_; rw [hcC]) | wp_step)
 show wpAny _ _ (typeLookup (.ref C) _) _ _ _
 refine wpAny_typeLookup_tail hC₁ hn₁ T₁ Fn.mroIs Fn.init.lookup ?_
 rw [hi]
 refine wpAny_holding (wpAny_bind ?_)
 refine (bind_fn X₁ (.ref (h.objs.size + 1)) hf).at ?_
 refine wpAny_bind (wpAny_mono (hq _ (h.objs.size + 1) ⟨kp,Heap.get?_none_of_le (Nat.le_succ _),h.objs.size,hget,Heap.get?_none_of_le (Nat.le_refl _),?_⟩ (Nat.le_succ _)) (fun r s' hr=>?_) fun _ _ x=>x)
 ·exact Heap.get?_push_of_some _ (Heap.get?_push_at rfl rfl)
 ·obtain ⟨rfl,hQ⟩:=hr
  wp_walk
  exact hQ
theorem tT (X:K.In h) (T:OwnTail h qr bm) {mN:Str → Option Value} {rest:List Value} {fI:Addr} {Q:Value → Shared → Prop}
  (hC:h.get? C = some (excClassObj nm q C N bs bm hdct sn sub ab col dd k0 k1 k2 k3 k5 "ValueError.__new__")) (hn:h.Ns N mN) (hi:mN "__init__" = some (.ref fI)) (hf:typeIn K (.ref fI) = some (.type "function"))
  (hq:∀ h' e,Heap.MadeExcOf h h' e (.ref C) rest → h.objs.size ≤ e →
   wpAny (model prog w) (A.under (.builtin "type.__call__" ⟨.ref C :: rest,[]⟩)) (call (.ref fI) (.ref e :: rest)) (fun r s'=>r = .none ∧ Q (.ref e) s') E ⟨h',g,d,t,os⟩) (hrest:rest.length ≤ sizeLine) :
  wpAny (model prog w) A (call (.ref C) rest) Q E ⟨h,g,d,t,os⟩:=by
 have f1:=tc_lookup
 have f2:=tc_bind (.ref C)
 have hT:(⟨h,g,d,t,os⟩:Shared).TypeIs (.ref C) "type" := ⟨_,hC,rfl⟩
 refine wpAny_call (codeAny_of_tree ?_)
 show wpAny _ _ (callAny (.ref C) _) _ _ _
 repeat (any_goals (first | assumption | with_reducible refine wpAny_loadPart_at hC ?_ | wp_step))
 refine ⟨rfl,?_⟩
 refine codeAny_call_builtin_at (Code.quiet_builtin _ (by decide +kernel)) entry_typeCall (wpAny_check_type_call_sub hC (k9 (hrest:=hrest) X T hC hn hi hf fun h' e hm hz=>?_))
 exact hq h' e hm hz
end
structure lA (K:Frag) (C f:Addr):Prop where
 ex:∃ nm q N bs bm hdct sn sub ab col dd k0 k1 k2 k3 k5 es,K.lookup C = some (excClassObj nm q C N bs bm hdct sn sub ab col dd k0 k1 k2 k3 k5 "ValueError.__new__") ∧ zd K N es ∧ nsFind es "__init__" = some (.ref f) ∧ jc K bm
 fn:typeIn K (.ref f) = some (.type "function")
 kp:keepIn K (.ref C) = true
def ik (C:Value) (dd:Option Addr) (e:Addr):HO:=.ext fun h=>∃ oe vs,h.get? e = some oe ∧ oe.cls = C ∧ oe.dict = dd ∧ oe.data = .fields vs ∧ vs[1]? = some .none ∧ 0 < vs.size
theorem qm {P:Program} {w:World} {H:Hp} {h:Heap} {e:Addr} {C:Value} {dd:Option Addr} {oe:Obj} {vs:Array Value} (he:h.get? e = some oe) (hc:oe.cls = C) (hd:oe.dict = dd) (hv:oe.data = .fields vs) (h1:vs[1]? = some .none) (h0:0 < vs.size):bQ P w H h e (ik C dd e) :=
 ⟨⟨oe,vs,he,hc,hd,hv,h1,h0⟩,⟨oe,he⟩,fun g1 g2 ⟨o,v,q,r⟩ k=>⟨o,v,k o q,r⟩⟩
theorem nG {P:Program} {w:World} {H:Hp} {h:Heap} {e:Addr} {C:Value} {dd:Option Addr} (ok:eV P w H h) (q:H e = some (ik C dd e)):∃ oe vs,h.get? e = some oe ∧ oe.cls = C ∧ oe.dict = dd ∧ oe.data = .fields vs ∧ vs[1]? = some .none ∧ 0 < vs.size:=(ok e _ q).1
def rem (H:Hp) (e:Addr):Hp:=fun b=>if b = e then none else H b
theorem gN {H:Hp} {e:Addr}:rem H e e = none:=if_pos rfl
theorem fF {H:Hp} {e b:Addr} (h:b ≠ e):rem H e b = H b:=if_neg h
def wD (C:Addr) (sp:Sp) (na:Nat) (gV:List V → List V → List V) (t:TA) (E:XK):TS:=fun _ σ H=>t σ H fun vs H1=>vs.length = na ∧ vs.length ≤ sizeLine ∧
 ∀ e,H1 e = none → sp (.ref e :: gV vs []) (upd H1 e (ik (.ref C) none e)) (fun v H2=>v = .bI ∧ ∃ dd,H2 e = some (ik (.ref C) dd e) ∧ E (.ref C) dd (rem H2 e)) E0
section
variable {X:Cx} {k:Nat} {f C:Addr} {fd:FuncData} {ps:List Str} {sp:Sp} {x:Str} {p pos:Pos} {e:Expr} {es:List Expr} {t:TA} {na:Nat} {g:List Value → List Value → List Value} {gV:List V → List V → List V}
theorem su {pins:List (Addr × Obj)} {σ:St} {H:Hp} {s:Shared} {us:List Value} {vs:List V} {R:Addr → Hp → Prop} {QQ:Value → Shared → Prop} (xc:lA X.K C f) (F:ar X.prog X.w X.K X.mg X.base (jo X.prog X.w) k f fd ps sp) (hr:cA (k + 1) X.A) (hb:cI X.K fd ps [] na g gV)
  (I:Inv X pins σ H s) (r:Vals vs us) (hna:vs.length = na) (hz:vs.length ≤ sizeLine)
  (h:∀ e,H e = none → sp (.ref e :: gV vs []) (upd H e (ik (.ref C) none e)) (fun v H2=>v = .bI ∧ R e H2) E0)
  (fin:∀ e H2 s2,s.heap.get? e = none → Inv X pins σ H2 s2 → R e H2 → QQ (.ref e) s2):wpAny (model X.prog X.w) X.A (call (.ref C) us) QQ X.xe s:=by
 obtain ⟨nm,q,N,bs,bm,hdct,sn,sub,ab,col,dd,k0,k1,k2,k3,k5,es,lk,nk,ni,tl⟩:=xc.ex
 obtain ⟨hh,gg,d0,tt,oo⟩:=s
 refine tT I.du (tl.uz I.du) (I.du _ _ lk) (nk.ns I.du) ni xc.fn (fun h' e mx he=>?_) (by rw [← r.length]; exact hz)
 obtain ⟨tu,he1,_,_⟩:=mx.there
 have I2:Inv X pins σ (upd H e (ik (.ref C) none e)) ⟨h',gg,d0,tt,oo⟩:=I.laid (a:=e) (o:=ik (.ref C) none e) (h':=h') (t':=tt) mx.keeps he (qm he1 rfl rfl rfl rfl (by simp))
 have hq:=h e (I.hok.fresh he)
 have r2:Vals (V.ref e :: gV vs []) (Value.ref e :: g us []):=.cons rfl (hb.rel r .nil)
 obtain ⟨hto,hl⟩:=hb.to ⟨h',gg,d0,tt,oo⟩ (Value.ref e) us [] I2.du (by rw [← r.length]; exact hna) rfl
 refine wpAny_call (codeAny_mono (F.run _ X.stack _ _ ⟨Value.ref e :: us,[]⟩ (Value.ref e :: g us []) _ _ E0 (hr.make C us []) (I2.vM.make C us []) hto r2 hq) fun r s' hq'=>?_)
 cases r with
 | error u=>exact (iD pins σ _ _ u s' I2 hq')
 | ok fl =>
  cases fl with
  | ret u =>
   obtain ⟨v,H',I3,rv,ev,q3⟩:=I2.after hq'
   subst ev
   exact ⟨rv,fin e H' s' mx.new I3 q3⟩
  | next=>exact False.elim hq'
  | brk=>exact False.elim hq'
  | cont=>exact False.elim hq'
theorem qf {pins:List (Addr × Obj)} {σ:St} {H:Hp} {s:Shared} {R:Addr → Hp → Prop} {QQ:Value → Shared → Prop} (xc:lA X.K C f) (F:ar X.prog X.w X.K X.mg X.base (jo X.prog X.w) k f fd ps sp) (hr:cA (k + 1) X.A) (hg:Gl X x) (hm:X.mg x = some (.ref C)) (hb:cI X.K fd ps [] na g gV)
  (ha:∀ (pos:Pos) (pins:List (Addr × Obj)) (s:Shared) (σ:St) (H:Hp) (Q:List V → Hp → Prop),Inv X pins σ H s → t σ H Q → wpAny (model X.prog X.w) X.A (spliced (backTo pos (starEach (e :: es) X.env))) (AP X pins σ Q) X.xe s) (hdb:(x == ("__debug__" : Str)) = false) (he:starEach (e :: es) X.env = (false,eval e X.env) :: starEach es X.env) (hpl:(backTo pos (starEach es X.env)).any (·.1) = false)
  (I:Inv X pins σ H s) (h:t σ H fun vs H1=>vs.length = na ∧ vs.length ≤ sizeLine ∧ ∀ e,H1 e = none → sp (.ref e :: gV vs []) (upd H1 e (ik (.ref C) none e)) (fun v H2=>v = .bI ∧ R e H2) E0)
  (fin:∀ e H2 s2,X.s₀.heap.get? e = none ∨ X.ex ≠ [] → Inv X pins σ H2 s2 → R e H2 → QQ (.ref e) s2):wpAny (model X.prog X.w) X.A (eval (.Call (.Name x p) (e :: es) [] pos) X.env) QQ X.xe s:=by
 refine wpAny_Call_Name_kw (d5 I hg hm ?_ hdb)
 refine callWith_K (h₀:=X.base) I.ok.mod.kin xc.kp (bS (ha pos pins s σ H _ I h) fun us s1 ⟨vs,H1,I1,r,hna,hz,q⟩=>⟨I1.du,?_⟩) he hpl
 refine su xc F hr hb I1 r hna hz q fun e H2 s2 hn I2 q2=>fin e H2 s2 ?_ I2 q2
 by_cases hx:X.ex = []
 ·left
  cases q:X.s₀.heap.get? e with
  | none=>rfl
  | some o =>
   obtain ⟨o1,q1⟩:=I1.base.there e o q (by rw [hx]; simp)
   rw [hn] at q1; cases q1
 ·exact .inr hx
end
section
variable {M:Model} {A:Around} {E:Value → Shared → Prop} {s:Shared} {env:Env}
variable {nm q:Str} {C N:Addr} {bs bm:List Value} {hdct:Bool} {sn:List Str} {sub:List Value} {ab:Bool} {col:Option Bool} {dd:Option Addr} {k0 k1 k2 k3 k5:Option Value} {newId:String}
theorem sy {x:Sem Value} {Q:Flow → Shared → Prop} (hbase:bm.contains (.type "BaseException") = true) (hh:A.handled = none)
  (h:wpAny M A x (fun v s₁=>∃ e dd' vs sl,v = .ref e ∧ s₁.heap.get? C = some (excClassObj nm q C N bs bm hdct sn sub ab col dd k0 k1 k2 k3 k5 newId) ∧
   s₁.heap.get? e = some ⟨.ref C,dd',.fields vs,sl⟩ ∧ vs[1]? = some .none ∧ E (.ref e) s₁) E s) :
  wpAny M A (raiseStmt env (some x) none) Q E s:=by
 have hcB:(Value.ref C :: bm).contains (.type "BaseException") = true:=by rw [List.contains_cons,hbase,Bool.or_true]
 unfold raiseStmt
 refine wpAny_bind (wpAny_mono h (fun v s₁ h₁=>?_) fun _ _ x=>x)
 obtain ⟨e,dd',vs,sl,rfl,hC,he,h1,hE⟩:=h₁
 obtain ⟨hp,g,d,tk,os⟩:=s₁
 repeat (first | with_reducible refine wpAny_loadPart_at he ?_ | with_reducible refine wpAny_loadPart_at hC ?_ | (with_reducible refine wpAny_isSubtype_exc hC ?_; rw [hcB]) | wp_step)
 rw [h1]
 refine wpAny_pure ?_
 rw [if_neg (by decide)]
 exact wpAny_pure (wpAny_raiseNew_none hh hE)
end
def BN (X:Cx) (E:XK):Prop:=X.ex = [] ∧ ∀ (pins:List (Addr × Obj)) (σ:St) (H:Hp) (s:Shared) (e:Addr) (C:Value) (dd:Option Addr),Inv X pins σ H s → H e = some (ik C dd e) → X.s₀.heap.get? e = none → E C dd (rem H e) → X.xe (.ref e) s
theorem lF {C:Value} {dd:Option Addr} {e:Addr}:(∀ y,ik C dd e ≠ .own y) ∧ (∀ xs,ik C dd e ≠ .tup xs) ∧ (∀ ps,ik C dd e ≠ .tbl ps) ∧ ∀ o u,ik C dd e ≠ .frz o u:=⟨fun _ z=>(by cases z),fun _ z=>(by cases z),fun _ z=>(by cases z),fun _ _ z=>(by cases z)⟩
theorem eV.rem {P:Program} {w:World} {H:Hp} {h:Heap} {e:Addr} {C:Value} {dd:Option Addr} (ok:eV P w H h) (he:H e = some (ik C dd e)):eV P w (L2.rem H e) h:=fun b u q=>by
 have hb:b ≠ e:=fun z=>by rw [z,gN] at q; cases q
 rw [fF hb] at q
 refine (ok b u q).jE (fun c v _ r=>r) (fun c r=>?_) fun c xs r=>?_
 ·rw [fF (fun z=>by rw [z,he] at r; exact lF.1 _ (Option.some.inj r))]; exact r
 ·rw [fF (fun z=>by rw [z,he] at r; exact lF.2.1 _ (Option.some.inj r))]; exact r
theorem Un.rem {fs ex:List Addr} {H0 H:Hp} {h0 h:Heap} {e:Addr} {C:Value} {dd:Option Addr} (u:Un fs ex H0 H h0 h) (he:H e = some (ik C dd e)):Un fs ex H0 (L2.rem H e) h0 h where
 keep:=u.keep
 slot:=u.slot
 free:=fun b o q n hx=>by
  by_cases z:b = e
  ·rw [z]; exact gN
  ·rw [fF z]; exact u.free b o q n hx
 there:=u.there
 tups:=fun b xs q=>by
  have r:=u.tups b xs q
  rw [fF (fun z=>by rw [z,he] at r; exact lF.2.1 _ (Option.some.inj r))]; exact r
 frzs:=fun b o xs q=>by
  have r:=u.frzs b o xs q
  rw [fF (fun z=>by rw [z,he] at r; exact lF.2.2.2 _ _ (Option.some.inj r))]; exact r
 tbls:=fun b ps q=>by
  obtain ⟨m,r⟩:=u.tbls b ps q
  refine ⟨m,?_⟩
  rw [fF (fun z=>by rw [z,he] at r; exact lF.2.2.1 _ (Option.some.inj r))]; exact r
section
variable {P:Program} {w:World} {K:PySem.W.Frag} {mg:Str → Option Value} {base:Heap} {N:List Str} {qual:Str} {scope:Scope} {f:Addr} {cd:Value} {A:Around} {outer:List Env} {s₀:Shared} {H₀:Hp} {E:XK}
theorem nE:BN (iX (jo P w) P w K mg base N qual scope f cd A outer s₀ H₀ E) E:=by
 refine ⟨rfl,?_⟩
 intro pins σ H s e C dd I he n0 hE
 obtain ⟨oe,vs,ge,gc,gd,gv,g1,_⟩:=nG I.hok he
 have fe:e8 (envOfC qual scope s₀.heap.objs.size f cd :: outer) = s₀.heap.objs.size :: e8 outer:=iR rfl
 have ib:Un (e8 outer) [] H₀ H s₀.heap s.heap:=I.base
 have um:=ib.rem he
 have nL:s₀.heap.get? s₀.heap.objs.size = none:=Heap.get?_none_of_le (Nat.le_refl _)
 have ntr:∀ b u,L2.rem H e b = some u → b ∉ e8 (envOfC qual scope s₀.heap.objs.size f cd :: outer):=fun b u q hb=>by
  have z:b ≠ e:=fun z=>by rw [z,gN] at q; cases q
  rw [fF z] at q
  have:=I.gn b hb
  rw [q] at this; cases this
 have hok1:eV P w (L2.rem H e) s.heap:=I.hok.rem he
 show wpAny _ _ (leaving _ (.ref e)) _ _ s
 unfold leaving
 refine wpAny_bind (jQ (T0:=none) (L:=s₀.heap.objs.size) (C:=C) (dd:=dd) I.ok.frames I.stack rfl ⟨oe,vs,ge,gc,gd,gv,g1⟩ (fun T' z=>by cases z) fun h' T2 y1 y2 y3 y4 mv=>?_)
 refine ⟨e,C,dd,T2,L2.rem H e,rfl,I.os,I.bare,kZ (l:=envOfC qual scope s₀.heap.objs.size f cd :: outer) um mv (fun b hb=>by rw [fe]; exact List.mem_cons_of_mem _ hb) (fun b o q hb=>?_) n0 (fun T' z=>by cases z),
  hok1.vG fun b u o q1 q2=>mv.keep b o (fun z=>by rw [z,gN] at q1; cases q1) (by simp) (ntr b u q1) q2,y1,y2,y4,gN,?_,n0,?_,hE⟩
 ·rw [fe] at hb
  rcases List.mem_cons.mp hb with z | z
  ·rw [z,nL] at q; cases q
  ·exact z
 ·cases q:L2.rem H e T2 with
  | none=>rfl
  | some u=>obtain ⟨ob,hob⟩:=(hok1 T2 u q).there; exact absurd (Heap.lt_size hob) (Nat.not_lt.mpr y3)
 ·cases q:s₀.heap.get? T2 with
  | none=>rfl
  | some o=>obtain ⟨o1,q1⟩:=um.there T2 o q (by simp); exact absurd (Heap.lt_size q1) (Nat.not_lt.mpr y3)
end
section
variable {X:Cx} {k:Nat} {f C:Addr} {fd:FuncData} {ps:List Str} {sp:Sp} {x:Str} {np cpos pos:Pos} {e₀:Expr} {rest:List Expr} {t:TA} {na:Nat} {g:List Value → List Value → List Value} {gV:List V → List V → List V} {E:XK}
theorem jR (xc:lA X.K C f) (F:ar X.prog X.w X.K X.mg X.base (jo X.prog X.w) k f fd ps sp) (hr:cA (k + 1) X.A) (hc:X.calm = true) (hg:Gl X x) (hm:X.mg x = some (.ref C)) (hb:cI X.K fd ps [] na g gV) (hz:BN X E)
  (ha:PA X (e₀ :: rest) t) (hdb:(x == ("__debug__" : Str)) = false:=by decide) (he:starEach (e₀ :: rest) X.env = (false,eval e₀ X.env) :: starEach rest X.env:=by rfl) (hpl:(backTo cpos (starEach rest X.env)).any (·.1) = false:=by rfl) :
  PS X (.Raise (some (.Call (.Name x np) (e₀ :: rest) [] cpos)) none pos) (wD C sp na gV t E):=by
 unfold PA at *; unfold PS at *
 exact by
  intro pins s σ H D I h
  obtain ⟨nm,q,N,bs,bm,hdct,sn,sub,ab,col,dd,k0,k1,k2,k3,k5,es,lk,nk,ni,tl⟩:=xc.ex
  rw [arm_exec_Raise]
  refine wpAny_bind (wpAny_standAt (sy (C:=C) (nm:=nm) (q:=q) (N:=N) (bs:=bs) (bm:=bm) (hdct:=hdct) (sn:=sn) (sub:=sub) (ab:=ab) (col:=col) (dd:=dd) (k0:=k0) (k1:=k1) (k2:=k2) (k3:=k3) (k5:=k5) (newId := "ValueError.__new__") ((tl.uz I.du).hasType PySem.F.excBase_ValueError.hasBase) (I.ok.hd hc) ?_))
  refine wpAny_bind (qf (R:=fun e H2=>∃ dd,H2 e = some (ik (.ref C) dd e) ∧ E (.ref C) dd (rem H2 e)) xc F hr hg hm hb ha hdb he hpl I h fun e H2 s2 n0 I2 ⟨dd',q1,q2⟩=>?_)
  refine wpAny_bind (wpAny_standAt (wpAny_pure ?_))
  obtain ⟨oe,vs,ge,gc,gd,gv,g1,_⟩:=nG I2.hok q1
  obtain ⟨oc,od,oda,osl⟩:=oe
  simp only at gc gd gv
  subst gc gd gv
  refine ⟨e,_,_,_,rfl,I2.du _ _ lk,ge,g1,hz.2 pins σ H2 s2 e (.ref C) _ I2 q1 ?_ q2⟩
  rcases n0 with z | z
  ·exact z
  ·exact absurd hz.1 z
end
structure xp (K:Frag) (B:Addr):Prop where
 gg:specialIn K (.ref B) "__getattribute__" = some (some (.builtin "type.__getattribute__"))
 rd:readsIn K B (.type "type") = true
 fc:findCls K (.ref B) (.type "type") "__init__" = some (.val (.builtin "ValueError.__init__"))
def w5 (K:Frag) (t:TA):TE:=fun σ H Q=>t σ H fun vs H1=>∃ e C dd f y,vs = [.ref e,y] ∧ H1 e = some (ik (.ref C) dd e) ∧ lA K C f ∧ Q .bI H1
theorem uU {x y:V} {us:List Value} (r:Vals [x,y] us):∃ u v,us = [u,v] ∧ RelV x u ∧ RelV y v:=by
 cases r with
 | cons a r=>cases r with
  | cons b r=>cases r; exact ⟨_,_,rfl,a,b⟩
section
variable {X:Cx} {B:Addr} {x:Str} {p apos pos:Pos} {a b:Expr} {t:TA}
theorem qO {pins:List (Addr × Obj)} {σ:St} {H:Hp} {s:Shared} {e C f:Addr} {dd:Option Addr} {y:V} {v:Value} {Q:VK} (I:Inv X pins σ H s) (he:H e = some (ik (.ref C) dd e)) (xc:lA X.K C f) (ry:RelV y v) (q:Q .bI H) :
  wpAny (model X.prog X.w) X.A (call (.builtin "ValueError.__init__") [.ref e,v]) (EP X pins σ Q) X.xe s:=by
 obtain ⟨nm,qn,N,bs,bm,hdct,sn,sub,ab,col,dd0,k0,k1,k2,k3,k5,es,lk,nk,ni,tl⟩:=xc.ex
 obtain ⟨oe,vs,ge,gc,gd,gv,g1,g0⟩:=nG I.hok he
 have Fn:=PySem.F.excBase_ValueError
 obtain ⟨hh,gg,d0,tt,oo⟩:=s
 refine wpAny_call (codeAny_call_builtin Fn.init.plain Fn.initEntry (wpAny_check_init_subU Fn (tl.uz I.du) (I.du _ _ lk) ge gc ?_))
 have h0:vs[0]? = some vs[0]:=Array.getElem?_eq_getElem g0
 have ge1:(hh.push { cls:=.type "tuple",data:=.seq [v].toArray }).get? e = some oe:=Heap.get?_push_of_some _ ge
 unfold Builtin.«BaseException.__init__»
 refine wpAny_bind (wpAny_newTuple ?_)
 unfold Builtin.BaseException.bexcPut
 refine wpAny_bind (wpAny_bind (wpAny_field ge1 gv h0 ?_))
 refine wpAny_bind (wpAny_setField ge1 gv g0 ?_)
 have I2:Inv X pins σ (upd H e (ik (.ref C) dd e)) { heap:=(hh.push { cls:=.type "tuple",data:=.seq [v].toArray }).update e (Obj.mapFields (·.setIfInBounds 0 (.ref hh.objs.size))),gens:=gg,drawn:=d0,toks:=tt,os:=oo }:=by
  have oth:∀ b,b ≠ e → ((hh.push { cls:=.type "tuple",data:=.seq [v].toArray }).update e (Obj.mapFields (·.setIfInBounds 0 (.ref hh.objs.size)))).get? b = (hh.push { cls:=.type "tuple",data:=.seq [v].toArray }).get? b:=fun b hb=>Heap.get?_update_other _ _ (Ne.symm hb)
  have self:=gr (f:=(·.setIfInBounds 0 (.ref hh.objs.size))) ge1 gv
  refine I.write (s:=⟨hh,gg,d0,tt,oo⟩) (x:=e) (e:=e) (t':=tt) (by rw [he]; exact True.intro) (.inl rfl) (fun b u hb q=>(oth b hb).trans (Heap.get?_push_of_some _ q)) ⟨_,self⟩ ?_
  refine qm (vs:=vs.setIfInBounds 0 (.ref hh.objs.size)) self ((Obj.cls_mapFields _ _).trans gc) ((mY _ _).trans gd) (Obj.data_mapFields gv _) ?_ ?_
  ·rw [Array.getElem?_setIfInBounds_ne (by decide)]; exact g1
  ·rw [Array.size_setIfInBounds]; exact g0
 have eu:upd H e (ik (.ref C) dd e) = H:=by
  funext b
  by_cases z:b = e
  ·rw [z,aB,he]
  ·rw [aI z]
 rw [eu] at I2
 cases vs[0] <;> first | exact wpAny_letGo (wpAny_pure ⟨.bI,H,I2,rfl,q⟩) | exact wpAny_pure (wpAny_pure ⟨.bI,H,I2,rfl,q⟩)
theorem tM {pl:Sem Bool} (bi:xp X.K B) (hg:Gl X x) (hm:X.mg x = some (.ref B)) (ha:PA X [a,b] t) (hdb:(x == ("__debug__" : Str)) = false:=by decide)
  (hst:starEach [a,b] X.env = (false,eval a X.env) :: starEach [b] X.env:=by rfl) (hpl:(backTo pos (starEach [b] X.env)).any (·.1) = false:=by rfl)
  (ht:eval (.Call (.Attribute (.Name x p) "__init__" apos) [a,b] [] pos) X.env = (do
   let ov ← eval (.Name x p) X.env
   standAt apos.atName
   let (f,first) ← holding [ov] (getMethod ov "__init__" pl)
   callWith pos f first (backTo pos (starEach [a,b] X.env)) (backToKw pos (keywordEach [] X.env))):=by rfl) :
  PE X (.Call (.Attribute (.Name x p) "__init__" apos) [a,b] [] pos) (w5 X.K t):=by
 unfold PE at *; unfold PA at *
 exact by
  intro pins s σ H Q I h
  refine methodCall_KW (pl:=pl) (d5 I hg hm ?_ hdb) ht
  refine method_cls I.du bi.gg (cls_value I.du bi.rd bi.fc rfl ?_)
  have I1:Inv X pins σ H { s with toks:=s.toks + 1 }:=I.tok _
  have hA:=ha pos pins { s with toks:=s.toks + 1 } σ H _ I1 h
  show wpAny _ _ (callWith pos (.builtin "ValueError.__init__") [] (backTo pos (starEach [a,b] X.env)) []) _ _ _
  rw [hst] at hA ⊢
  refine Calls.callWith_builtin (by show (false || (backTo pos (starEach [b] X.env)).any (·.1)) = false; rw [hpl] <;> rfl) (Calls.evalArgs_plain ?_)
  refine bS hA fun us s2 ⟨vs,H2,I2,r2,e,C,dd,f,y,e1,he,xc,q⟩=>?_
  subst e1
  obtain ⟨u1,u2,rfl,rx,ry⟩:=uU r2
  obtain rfl:u1 = Value.ref e:=rx
  exact qO I2 he xc ry q
end
end L2
namespace L2
open PySem PySem.Spec PyProof.Rows PySem.W
section
variable {prog:Program} {w:World} {A:Around} {E:Value → Shared → Prop} {s:Shared} {K:Frag} {e C:Addr} {oe:Obj} {od:Option Obj}
end
def XD (H:Hp) (e C dx:Addr) (fs:List (Str × V)):Prop:=(H e = some (ik (.ref C) (some dx) e) ∨ H e = some (ze (.ref C) (some dx) e)) ∧ H dx = some (.xd fs)
section
variable {X:Cx}
def AA (K:Frag):List V → Hp → VK → Prop:=fun xs H Q=>∃ e c cv C dx fs b,xs = [.ref e,c] ∧ uS c cv ∧ XD H e C dx fs ∧ gu K C ∧ kitOne K (.ref C) cv = some b ∧ Q (.bl b) H
def mP (K:Frag):List V → Hp → VK → Prop:=fun xs H Q=>bP K xs H Q ∨ AA K xs H Q
end
structure yY (K:Frag) (C:Addr) (f:Str):Prop where
 sa:findIn K (.ref C) "__setattr__" = some (some (.builtin "object.__setattr__"))
 na:findIn K (.ref C) f = some none
 hd:hasDictIn K C = true
 mo:mroIn K C (.type "object") = some true
theorem pO {K:Frag} (self:Value) {bm:List Value} (t:jc K bm):refuseLoop self "__setattr__" bm = pure ():=by
 induction t with
 | base=>exact PySem.F.store_ValueError.passes self
 | own _ _ _ _ ih=>rw [refuseLoop_ref]; exact ih
section
variable {prog:Program} {w:World} {A:Around} {E:Value → Shared → Prop} {K:Frag} {e C fI:Addr} {oe:Obj} {name:Str} {v:Value} {h:Heap} {g:Array GenState} {d:Drawn} {t:Nat} {os:OsState}
theorem oM {Q:Unit → Shared → Prop} {vs:Array Value} {sl:Array (Option Value)} (xc:lA K C fI) (xs:yY K C name) (X:K.In h) (he:h.get? e = some ⟨.ref C,none,.fields vs,sl⟩)
  (hq:∀ h' t',h'.get? e = some ⟨.ref C,some h.objs.size,.fields vs,sl⟩ → h'.Ns1 h.objs.size (fun y=>if y = name then some v else none) → (∀ b o,b ≠ e → h.get? b = some o → h'.get? b = some o) → Q () ⟨h',g,d,t',os⟩) :
  wpAny (model prog w) A (setAttr (.ref e) name v) Q E ⟨h,g,d,t,os⟩:=by
 obtain ⟨nm,q,N,bs,bm,hdct,sn,sub,ab,col,dd,k0,k1,k2,k3,k5,es,lk,nk,ni,tl⟩:=xc.ex
 have I:InstAt h e ⟨.ref C,none,.fields vs,sl⟩ C none:=⟨he,rfl,rfl,True.intro⟩
 have SF:=PySem.F.store_object
 refine set_plain (s:=⟨h,g,d,t,os⟩) X I xs.sa ?_
 have sub1:Looks (model prog w) h (isInstance (.ref e) (.type "object")) true:=I.type.andThen (looks_mroIn X xs.mo)
 refine codeAny_call_builtin SF.slot.plain SF.entry (@check_slot (model prog w) _ _ ⟨h,g,d,t + 1,os⟩ "object.__setattr__" "object" "__setattr__" (.ref e) [.str name t,v] [] _ SF.kind SF.split sub1 (SF.args (.ref e) (.str name t) v) ?_)
 rw [osa_eq,refuse_eq]
 have L3:Looks (model prog w) h (Builtin.ObjectAttr.storeTaker? none) none:=.now
 refine wpAny_bind (wpAny_bind (I.type.at (wpAny_bind (wpAny_mroOf_exc (X _ _ lk) ?_))))
 rw [refuseLoop_ref,pO _ tl]
 refine wpAny_pure (wpAny_bind (I.type.at (wpAny_bind ((looks_findIn X xs.na).at (wpAny_bind (L3.at ?_))))))
 show wpAny _ _ (Builtin.ObjectAttr.storeInOwnDict (.ref e) (.ref C) (.str name t) name v _) _ _ _
 obtain ⟨cd,hc,hd'⟩:=any_some xs.hd
 refine wpAny_bind (wpAny_pure (wpAny_bind (wpAny_bind (wpAny_loadPart he (wpAny_bind (Looks.here (s:=⟨h,g,d,t + 1,os⟩) (looks_clsIn X hc) ?_))))))
 rw [hd']
 have hx₁:(h.push { cls:=.type "dict",data:=.dict #[] }).get? e = some ⟨.ref C,none,.fields vs,sl⟩:=Heap.get?_push_of_some _ he
 have hxs:e ≠ h.objs.size:=Nat.ne_of_lt (Heap.lt_size he)
 refine wpAny_bind (wpAny_alloc' ?_)
 refine wpAny_bind (wpAny_update' hx₁ ?_)
 refine wpAny_pure ?_
 have hgd:((h.push { cls:=.type "dict",data:=.dict #[] }).update e fun o=>{ cls:=o.cls,dict:=some h.objs.size,data:=o.data,slots:=o.slots }).get? h.objs.size
   = some { cls:=.type "dict",data:=.dict #[] } :=
  (Heap.get?_update_ne _ _ _ _ hxs.symm).trans (Heap.get?_push_at rfl rfl)
 have hnd:((h.push { cls:=.type "dict",data:=.dict #[] }).update e fun o=>{ cls:=o.cls,dict:=some h.objs.size,data:=o.data,slots:=o.slots }).Ns h.objs.size (fun _=>none) :=
  ⟨_,#[],_,hgd,rfl,fun e he=>absurd he (by simp),fun _=>rfl⟩
 show wpAny _ _ (Builtin.ObjectAttr.storeInDict h.objs.size (.str name t) name v) _ _ _
 unfold Builtin.ObjectAttr.storeInDict Builtin.ObjectAttr.newKeyGuard
 refine wpAny_bind (wpAny_pure (wpAny_bind (wpAny_nsSet1 (Heap.Ns1.of_empty hnd) fun h' hn' hs=>?_)))
 obtain ⟨oD,esD,epD,hoD,hdD,hcD⟩:=hn'.count (Within.cons name v Within.nil)
 refine wpAny_bind (wpAny_lookBehind hoD (by rw [hdD]; exact pastItsLine_dict (Nat.le_trans hcD (by rw [List.length_cons,List.length_nil,sizeLine_eq]; omega))) ?_)
 refine wpAny_pure (hq h' _ ?_ hn' fun b o hb q=>?_)
 ·exact (hs.2 e hxs).trans (Heap.get?_update_self _ hx₁ rfl)
 ·exact (hs.2 b (Nat.ne_of_lt (Heap.lt_size q))).trans ((Heap.get?_update_ne _ _ _ _ hb).trans (Heap.get?_push_of_some _ q))
end
section
variable {X:Cx} {o value:Expr} {f:Str} {ta tv:TE} {pos pos':Pos}
def AW (K:Frag) (ta tv:TE) (f:Str):TS:=fun D σ H=>tv σ H fun y H1=>ta σ H1 fun x H2=>∃ e C fI,x = .ref e ∧ H2 e = some (ik (.ref C) none e) ∧ lA K C fI ∧ yY K C f ∧ ∀ dx,H2 dx = none → D.nx σ (upd (upd H2 e (ik (.ref C) (some dx) e)) dx (.xd [(f,y)]))
theorem w9 (ha:PE X o ta) (hv:PE X value tv) (hs:swapsWith value (some (.Attribute o f pos')) pos.line X.env = pure false):PS X (.Assign [.Attribute o f pos'] value pos) (AW X.K ta tv f):=by
 unfold PE at *; unfold PS at *
 exact by
  intro pins s σ H D I h
  refine plainObj_wpAny_Assign_Attribute (bS (hv pins s σ H _ I h) fun u s1 ⟨y,H1,I1,ry,q⟩=>bS (ha pins s1 σ H1 _ I1 q) fun ov s2 ⟨x,H2,I2,rx,a,C,fI,ex,ea,xc,xs,q2⟩=>?_) hs
  subst ex
  obtain rfl:ov = Value.ref a:=rx
  obtain ⟨oe,vs,ge,gc,gd,gv,g1,g0⟩:=nG I2.hok ea
  obtain ⟨oc,od,oda,osl⟩:=oe
  simp only at gc gd gv
  subst gc gd gv
  obtain ⟨hh,gg,d0,tt,oo⟩:=s2
  refine oM xc xs I2.du ge fun h' t' e1 n1 kp=>?_
  have I3:Inv X pins σ (upd H2 a (ik (.ref C) (some hh.objs.size) a)) ⟨h',gg,d0,t',oo⟩:=I2.write (s:=⟨hh,gg,d0,tt,oo⟩) (x:=a) (e:=a) (t':=t') (by rw [ea]; exact True.intro) (.inl rfl) (fun b u hb q=>kp b u hb q) ⟨_,e1⟩ (qm e1 rfl rfl rfl g1 g0)
  have nd:hh.objs.size ≠ a:=Nat.ne_of_gt (Heap.lt_size ge)
  have fr:H2 hh.objs.size = none:=I2.hok.fresh (Nat.le_refl _)
  obtain ⟨m,⟨ol,_,_,hl,_⟩,_⟩:=id I2.loc
  have lt:=Heap.lt_size hl
  have I4:=I3.adopt (e:=hh.objs.size) (o:=.xd [(f,y)]) (by rw [aI nd]; exact fr) (Heap.get?_none_of_le (Nat.le_trans I2.ok.above (Nat.le_of_lt lt))) (Nat.ne_of_gt lt)
   (fun x c z=>by obtain ⟨v,oc,hc,_⟩:=I2.cell x c z; exact Nat.ne_of_lt (Heap.lt_size hc)) (fun p hp=>Nat.ne_of_lt (Heap.lt_size (I2.pin p hp).1)) ⟨_,n1,fun g=>by
    show eY ([(f,y)].lookup g) (if g = f then some u else none)
    by_cases z:g = f
    ·rw [z,if_pos rfl]
     have:[(f,y)].lookup f = some y:=by simp [List.lookup]
     rw [this]
     exact ry
    ·rw [if_neg z]
     have:[(f,y)].lookup g = none:=by
      have:(g == f) = false:=by simpa using z
      simp [List.lookup,this]
     rw [this]
     exact True.intro⟩
  exact ⟨σ,_,I4,q2 _ fr⟩
end
theorem lA.xm {K:Frag} {C N A f:Addr} {nm q:Str} {bs:List Value} {hdct:Bool} {sn:List Str} {sub:List Value} {ab:Bool} {col:Option Bool} {dd:Option Addr} {k0 k1 k2 k3 k5:Option Value} {es:Array DictEntry} {c d ep sl}
  {c0:Value} {dd':Option Addr} {cd:ClassData} {sl0:Array (Option Value)} {es':Array DictEntry} {c' d' ep' sl'}
  (l:K.lookup C = some (excClassObj nm q C N bs (.ref A :: qr) hdct sn sub ab col dd k0 k1 k2 k3 k5 "ValueError.__new__")) (ln:K.lookup N = some ⟨c,d,.dict es ep,sl⟩) (sk:gL es = true) (ni:nsFind es "__init__" = some (.ref f))
  (la:K.lookup A = some { cls:=c0,dict:=dd',data:=.cls cd,slots:=sl0 }) (lna:K.lookup cd.ns = some ⟨c',d',.dict es' ep',sl'⟩) (ska:gL es' = true) (nia:nsFind es' "__init__" = none)
  (fn:isFn K (.ref f) = true) (kp:keepIn K (.ref C) = true):lA K C f :=
 ⟨⟨_,_,_,_,_,_,_,_,_,_,_,_,_,_,_,_,_,l,⟨_,_,_,_,ln,fz sk⟩,ni,.own la ⟨_,_,_,_,lna,fz ska⟩ nia .base⟩,beq_iff_eq.mp fn,kp⟩
theorem mP.a {K:Frag} {xs:List V} {H:Hp} {Q:VK} (h:bP K xs H Q):mP K xs H Q:=.inl h
theorem mP.xd {K:Frag} {H:Hp} {e C c dx:Addr} {fs:List (Str × V)} {b:Bool} {Q:VK} (h:XD H e C dx fs) (q:gu K C) (k:kitOne K (.ref C) (.ref c) = some b) (hQ:Q (.bl b) H):mP K [.ref e,.ref c] H Q :=
 .inr ⟨e,.ref c,_,C,dx,fs,b,rfl,.own c,h,q,k,hQ⟩
theorem XD.same {H H':Hp} {e C dx:Addr} {fs:List (Str × V)} (h:XD H e C dx fs) (s:aG H H'):XD H' e C dx fs:=⟨h.1.imp (s _ _) (s _ _),s _ _ h.2⟩
def xZ (C:Addr) (f:Str):Sp:=fun vs H Q _=>∃ e wd pl,vs = [.ref e,wd,pl] ∧ H e = some (ik (.ref C) none e) ∧ ∀ dx,H dx = none → Q .bI (upd (upd H e (ik (.ref C) (some dx) e)) dx (.xd [(f,pl)]))
theorem wq {H:Hp} {e dx:Addr} {o u:HO} (he:H e = none) (hd:upd H e o dx = none):aG H (rem (upd (upd (upd H e o) e u) dx o') e):=fun b w hb=>by
 have n1:b ≠ e:=fun z=>by rw [z,he] at hb; cases hb
 have n2:b ≠ dx:=fun z=>by
  rw [← z,aI n1,hb] at hd
  cases hd
 rw [fF n1,aI n2,aI n1,aI n1]
 exact hb
theorem mz {H:Hp} {C:Addr} {f:Str} {wd pl:V} {E:XK} (h:∀ x H',aG H H' → H' x = some (.xd [(f,pl)]) → E (.ref C) (some x) H') (e:Addr) (he:H e = none) :
  xZ C f [.ref e,wd,pl] (upd H e (ik (.ref C) none e)) (fun v H2=>v = .bI ∧ ∃ dd,H2 e = some (ik (.ref C) dd e) ∧ E (.ref C) dd (rem H2 e)) E0:=by
 refine ⟨e,wd,pl,rfl,aB,fun dx hd=>⟨rfl,some dx,?_,?_⟩⟩
 ·have ne:e ≠ dx:=fun z=>by rw [← z,aB] at hd; cases hd
  rw [aI ne,aB]
 ·have ne:dx ≠ e:=fun z=>by rw [z,aB] at hd; cases hd
  exact h dx _ (wq he hd) (by rw [fF ne,aB])
def XE (H:Hp) (e C:Addr):Prop:=H e = some (ze (.ref C) none e) ∨ ∃ dx fs,XD H e C dx fs
theorem XE.same {H H':Hp} {e C:Addr} (h:XE H e C) (s:aG H H'):XE H' e C:=h.imp (s _ _) fun ⟨dx,fs,x⟩=>⟨dx,fs,x.same s⟩
theorem mP.xe {K:Frag} {H:Hp} {e C c:Addr} {b:Bool} {Q:VK} (h:XE H e C) (q:gu K C) (k:kitOne K (.ref C) (.ref c) = some b) (hQ:Q (.bl b) H):mP K [.ref e,.ref c] H Q:=by
 rcases h with h | ⟨dx,fs,h⟩
 ·exact .inl (bP.exc h q k hQ)
 ·exact .xd h q k hQ
theorem zC:bootBuiltins "sum" = some (.builtin "sum"):=by decide +kernel
theorem uK {X:Cx} (hc:X.calm = true):b6 X (.builtin "sum") (fun xs H Q=>∃ (a:Addr) (ns:List Int),xs = [.ref a] ∧ ah X.K H a (ns.map V.int) ∧ ∀ r,Q (.int r) H):=by
 unfold b6 at *
 exact by
  intro pins s σ H xs us Q I r h
  obtain ⟨a,ns,rfl,hq,q⟩:=h
  obtain ⟨u,rfl,ru⟩:=vals1 r
  cases ru
  obtain ⟨au,rv,pl,hz⟩:=I.list hq
  have hi:IntsAre au.toArray.toList ns:=intsAre_of rv
  obtain ⟨xs,e⟩:=hi.allInts.items
  have hl:=pl.isList
  rw [e] at hl
  exact PySem.sum_intListG (I.ok.hd hc) hl fun h' tk t' hk=>⟨.int _,H,I.kept (t':=tk) hk,⟨t',rfl⟩,q _⟩
theorem cI.of0 {K:Frag} {x qual:Str} {st:Stmt} {f:Addr} {fd:FuncData} {ps:List Str} {na:Nat} (F:k8 K x qual st .none f fd)
  (h:∀ (kV doc pm:Value) (an:Option Addr) (cdv ct:Value) (y:Value) (us:List Value),us.length = na → bindArgs (PySem.W.fnOf x qual (cn st) (cK st) (aK st) .none kV doc pm an cdv ct) ⟨y :: us,[]⟩ = pure (ps.zip (y :: us)) ∧ (y :: us).length = ps.length):cI K fd ps [] na (fun us _=>us) (fun us _=>us):=by
 obtain ⟨oc,od,kV,doc,pm,an,cdv,ct,osl,rfl,lk,hcd⟩:=F.ex
 refine ⟨fun s y us ws X h1 h2=>?_,fun r _=>r⟩
 obtain ⟨e1,e2⟩:=h kV doc pm an cdv ct y us h1
 obtain rfl:ws = []:=List.eq_nil_of_length_eq_zero h2
 exact ⟨.of_eq e1,e2⟩
theorem ny {K:Frag} {a l:Addr} {vs:List V} {P:Nat → V → Prop} {g:TG} {te:TE} {σ:St} {H:Hp} {Q:VK} (hl:H l = none) (hA:ah K H a vs) (lz:vs.length ≤ 1000) (Ps:St → Prop) (h0:Ps σ)
  (hs:∀ (i:Nat) x σ G (Kt:St → V → Hp → Prop),vs[i]? = some x → Ps σ → aG H G → (∀ σ2 v G2,Ps σ2 → aG G G2 → P i v → Kt σ2 v G2) → g x σ G fun σ2 H2=>te σ2 H2 (Kt σ2))
  (hd:∀ G acc,aG H G → G l = some (.lst acc) → acc.length = vs.length → (∀ i v,acc[i]? = some v → P i v) → Q (.ref l) G):kC (yg K a) l g yX te σ (upd H l (.lst [])) Q:=by
 have sz:1000 ≤ sizeLine:=aJ rfl
 refine cW (xs:=vs) (fun i σ acc G=>Ps σ ∧ aG H G ∧ G l = some (.lst acc) ∧ acc.length = i ∧ ∀ (j:Nat) v,acc[j]? = some v → P j v) (by omega) ?_ ?_ ?_ ?_
 ·exact ⟨h0,aG.new hl,aB,rfl,fun j v h=>by rw [List.getElem?_nil] at h; cases h⟩
 ·rintro i σ acc G hi ⟨_,sG,h1,h2,_⟩
  exact ⟨h1,sG.seq hA,by omega⟩
 ·rintro i x σ acc G hx ⟨hp,sG,h1,h2,h3⟩
  have hi:i < vs.length:=(List.getElem?_eq_some_iff.mp hx).1
  refine hs i x σ G _ hx hp sG fun σ2 v G2 p2 s2 hv=>⟨s2 _ _ h1,Nx.mk hi ⟨p2,fun b u hb=>?_,aB,by rw [List.length_append,h2]; rfl,fun j w hw=>?_⟩⟩
  ·rw [aI (aL hb hl)]
   exact s2 _ _ (sG _ _ hb)
  ·rcases Nat.lt_trichotomy j acc.length with z | z | z
   ·rw [List.getElem?_append_left z] at hw
    exact h3 j w hw
   ·subst z
    rw [List.getElem?_append_right (Nat.le_refl _),Nat.sub_self] at hw
    cases hw
    rw [h2]
    exact hv
   ·rw [List.getElem?_append_right (by omega),List.getElem?_eq_none (by show 1 ≤ _; omega)] at hw
    cases hw
 ·rintro σ acc G ⟨_,sG,h1,h2,h3⟩
  exact hd G acc sG h1 h2 h3
theorem jA {lo:Int} {n:Nat} {l:Addr} {P:Nat → V → Prop} {g:TG} {te:TE} {σ:St} {H:Hp} {Q:VK} (hl:H l = none) (lz:n ≤ 1000) (Ps:St → Prop) (h0:Ps σ)
  (hs:∀ (i:Nat) σ G (Kt:St → V → Hp → Prop),i < n → Ps σ → aG H G → (∀ σ2 v G2,Ps σ2 → aG G G2 → P i v → Kt σ2 v G2) → g (.int (lo + i)) σ G fun σ2 H2=>te σ2 H2 (Kt σ2))
  (hd:∀ G acc,aG H G → G l = some (.lst acc) → acc.length = n → (∀ i v,acc[i]? = some v → P i v) → Q (.ref l) G):kC (yn lo n) l g yX te σ (upd H l (.lst [])) Q:=by
 have sz:1000 ≤ sizeLine:=aJ rfl
 refine jv n (fun i σ acc G=>Ps σ ∧ aG H G ∧ G l = some (.lst acc) ∧ acc.length = i ∧ ∀ (j:Nat) v,acc[j]? = some v → P j v) (by omega) ?_ ?_ (fun i σ acc H hi p=>hi) ?_ ?_
 ·exact ⟨h0,aG.new hl,aB,rfl,fun j v h=>by rw [List.getElem?_nil] at h; cases h⟩
 ·rintro i σ acc G hi ⟨_,sG,h1,h2,_⟩
  exact ⟨h1,by omega⟩
 ·rintro i x σ acc G G' hi ⟨hp,sG,h1,h2,h3⟩ ⟨rfl,rfl⟩
  refine hs i σ _ _ hi hp sG fun σ2 v G2 p2 s2 hv=>⟨s2 _ _ h1,Nx.mk hi ⟨p2,fun b u hb=>?_,aB,by rw [List.length_append,h2]; rfl,fun j w hw=>?_⟩⟩
  ·rw [aI (aL hb hl)]
   exact s2 _ _ (sG _ _ hb)
  ·rcases Nat.lt_trichotomy j acc.length with z | z | z
   ·rw [List.getElem?_append_left z] at hw
    exact h3 j w hw
   ·subst z
    rw [List.getElem?_append_right (Nat.le_refl _),Nat.sub_self] at hw
    cases hw
    rw [h2]
    exact hv
   ·rw [List.getElem?_append_right (by omega),List.getElem?_eq_none (by show 1 ≤ _; omega)] at hw
    cases hw
 ·rintro σ acc G ⟨_,sG,h1,h2,h3⟩
  exact ⟨Nat.le_refl _,hd G acc sG h1 h2 h3⟩
theorem ff:∀ {acc:List V},(∀ (i:Nat) v,acc[i]? = some v → ∃ z,v = V.int z) → ∃ ns:List Int,acc = ns.map V.int
 | [],_=>⟨[],rfl⟩
 | v :: r,h=>by
  obtain ⟨z,rfl⟩:=h 0 v rfl
  obtain ⟨ns,rfl⟩:=ff (acc:=r) fun i w hw=>h (i + 1) w (by simpa using hw)
  exact ⟨z :: ns,rfl⟩
end L2
namespace L2
open PySem PySem.Spec PyProof.Rows
section
variable {prog:Program} {w:World} {A:Around} {E:Value → Shared → Prop} {s:Shared}
def bH (prog:Program) (w:World) (h:Heap) (k:Key × List Key) (a:Addr):Prop:=∃ o n u b,h.get? a = some o ∧ o.cls = .type "tuple" ∧ o.data = .seq #[u,.ref b] n ∧ (aV prog w).is k.1 u = true ∧ IsTupleKey (aV prog w) h k.2 b
theorem bH.typeIs {k:Key × List Key} {a:Addr} (x:bH prog w s.heap k a):s.TypeIs (.ref a) "tuple" := let ⟨o,_,_,_,ho,hc,_⟩:=x; ⟨o,ho,hc⟩
theorem bH.inj {h:Heap} {a:Addr} {x y:Key × List Key} (hx:bH prog w h x a) (hy:bH prog w h y a):x = y:=by
 obtain ⟨o,n,u,b,ho,_,hd,h1,h2⟩:=hx
 obtain ⟨o',n',u',b',ho',_,hd',h1',h2'⟩:=hy
 obtain rfl:o = o':=Option.some.inj (ho.symm.trans ho')
 rw [hd] at hd'
 injection hd' with e _
 have e1:[u,Value.ref b] = [u',Value.ref b']:=by simpa using congrArg Array.toList e
 injection e1 with e2 e3
 injection e3 with e4 _
 injection e4 with e5
 subst e2 e5
 obtain ⟨x1,x2⟩:=x
 obtain ⟨y1,y2⟩:=y
 exact Prod.ext ((aV prog w).inj _ _ _ h1 h1') (h2.inj h2')
theorem bH.keeps {h h':Heap} {k:Key × List Key} {a d:Addr} {o:Obj} {es ep} (x:bH prog w h k a) (ho:h.get? d = some o) (hd:o.data = .dict es ep) (hs:Heap.SameBut d h h'):bH prog w h' k a:=by
 obtain ⟨o',n,u,b,ho',hc,hd',h1,h2⟩:=x
 have hne:a ≠ d:=by
  rintro rfl
  obtain rfl:o' = o:=Option.some.inj (ho'.symm.trans ho)
  rw [hd] at hd'; exact nomatch hd'
 exact ⟨o',n,u,b,(hs.2 a hne).trans ho',hc,hd',h1,h2.keeps ho hd hs⟩
def kU (prog:Program) (w:World) (k:Key × List Key):Int:=reduceHash (Builtin.Tuple.tupleHashOf [(aV prog w).hash k.1,tupleKeyHash (aV prog w) k.2])
theorem sI {k:Key × List Key} {a:Addr} {Q:Int → Shared → Prop} (hu:A.units + 4 < cLine) (hk:bH prog w s.heap k a) (h:Q (kU prog w k) { s with toks:=s.toks + (1 + (k.2.length + 1) + 1) }) :
  wpAny (model prog w) A (pyHash (.ref a)) Q E s:=by
 have hT:=hk.typeIs
 obtain ⟨o,n,u,b,ho,_,hd,h1,h2⟩:=hk
 unfold pyHash
 first | unfold pyHashByItsType | skip
 first | refine wpAny_bind (wpAny_cRoomFor_or (.inr (by omega)) ?_) | skip
 refine wpAny_bind (wpAny_specialOf hT F.slot_tuple_hash.lookup ?_)
 show wpAny _ _ (if (some (Value.builtin "tuple.__hash__") == some Value.none) = true then _ else _) Q E s
 rw [if_neg (by rw [beq_builtin_none]; exact Bool.false_ne_true)]
 refine wpAny_bind (wpAny_specialOf hT F.slot_tuple_hash.lookup ?_)
 show wpAny _ _ (callSpecialIfBoundUnlessNone? (.ref a) "__hash__" _ >>= _) Q E s
 refine wpAny_bind (wpAny_callSpecialIfBoundUnlessNone?_slot hT F.slot_tuple_hash (wpAny_call_entry F.slot_tuple_hash hT F.entry_tuple_hash ?_ (F.args_tuple_hash_1 _)))
 show wpAny _ _ (Builtin.Tuple.tupleItemsOf (.ref a) >>= _) _ _ s
 refine wpAny_bind (wpAny_tupleItemsOf ho hd ?_)
 refine wpAny_bind ?_
 rw [← Array.forIn_toList]
 simp only [List.forIn_cons,List.forIn_nil]
 refine wpAny_bind (wpAny_bind ((aV prog w).pyHash h1 ?_))
 refine wpAny_pure (wpAny_bind (wpAny_bind (wpAny_pyHash_tuple (s:={ s with toks:=s.toks + 1 }) (by show A.units + 1 < cLine; omega) h2 ?_)))
 refine wpAny_pure (wpAny_pure ?_)
 show wpAny _ _ (retInt (Builtin.Tuple.tupleHashOf [(aV prog w).hash k.1,tupleKeyHash (aV prog w) k.2])) _ _ _
 refine wpAny_ret_mkInt ?_
 show wpAny _ _ (if (decide (-(2:Int) ^ 63 ≤ Builtin.Tuple.tupleHashOf [(aV prog w).hash k.1,tupleKeyHash (aV prog w) k.2]) && decide (Builtin.Tuple.tupleHashOf [(aV prog w).hash k.1,tupleKeyHash (aV prog w) k.2] < 2 ^ 63)) = true then _ else _) Q E _
 unfold kU reduceHash at h
 by_cases hr:(decide (-(2:Int) ^ 63 ≤ Builtin.Tuple.tupleHashOf [(aV prog w).hash k.1,tupleKeyHash (aV prog w) k.2]) && decide (Builtin.Tuple.tupleHashOf [(aV prog w).hash k.1,tupleKeyHash (aV prog w) k.2] < 2 ^ 63)) = true
 ·rw [if_pos hr]
  rw [if_pos hr] at h
  exact wpAny_pure (by simpa [Nat.add_assoc] using h)
 ·rw [if_neg hr]
  rw [if_neg hr] at h
  exact wpAny_bind (wpAny_rule (wpAny_pure (by simpa [Nat.add_assoc] using h)))
theorem nZ {x y:Key × List Key} {a b:Addr} {P:Fin → Shared → Prop} (hu:A.units + 1 < cLine) (hx:bH prog w s.heap x a) (hy:bH prog w s.heap y b) (h:P (.done (.ret (.bool (decide (x = y))))) s) :
  wpAny (model prog w) A (Builtin.«tuple.__eq__» ⟨[.ref a,.ref b],[]⟩) P E s:=by
 have hTb:=hy.typeIs
 obtain ⟨oa,na,u1,b1,hoa,_,hda,h11,h12⟩:=hx
 obtain ⟨ob,nb,u2,b2,hob,_,hdb,h21,h22⟩:=hy
 obtain ⟨x1,x2⟩:=x
 obtain ⟨y1,y2⟩:=y
 show wpAny _ _ (isInstance (.ref b) (.type "tuple") >>= _) _ _ s
 refine wpAny_bind (wpAny_isInstance hTb isSubtype_tuple_tuple ?_)
 simp only [Bool.not_true,Bool.false_eq_true,if_false]
 refine wpAny_bind (wpAny_tupleItemsOf hoa hda ?_)
 refine wpAny_bind (wpAny_tupleItemsOf hob hdb ?_)
 refine wpAny_bind ?_
 simp only [List.zip_cons_cons,List.zip_nil_right,List.forIn_cons,List.forIn_nil]
 refine wpAny_bind (wpAny_bind ((aV prog w).eqBool (a:=x1) (b:=y1) h11 h21 ?_))
 by_cases hk:x1 = y1
 ·subst hk
  rw [decide_eq_true rfl]
  simp only [Bool.not_true,Bool.false_eq_true,if_false]
  refine wpAny_pure ?_
  refine wpAny_bind (wpAny_bind (wpAny_eqBool_tuple (by omega) h12 h22 ?_))
  by_cases h2:x2 = y2
  ·subst h2
   rw [decide_eq_true rfl]
   simp only [Bool.not_true,Bool.false_eq_true,if_false]
   rw [decide_eq_true rfl] at h
   exact wpAny_pure (wpAny_pure (wpAny_pure h))
  ·rw [decide_eq_false h2]
   simp only [Bool.not_false,if_true]
   rw [decide_eq_false (fun z=>h2 (congrArg Prod.snd z))] at h
   exact wpAny_bind (wpAny_pure (wpAny_pure (wpAny_pure (wpAny_pure h))))
 ·rw [decide_eq_false hk]
  simp only [Bool.not_false,if_true]
  rw [decide_eq_false (fun z=>hk (congrArg Prod.fst z))] at h
  exact wpAny_bind (wpAny_pure (wpAny_pure (wpAny_pure (wpAny_pure h))))
theorem oR {x y:Key × List Key} {a b:Addr} {Q:Bool → Shared → Prop} (hu:A.units + 4 < cLine) (hx:bH prog w s.heap x a) (hy:bH prog w s.heap y b) (h:Q (decide (x = y)) s) :
  wpAny (model prog w) A (eqBool (.ref a) (.ref b)) Q E s:=by
 unfold eqBool
 try with_reducible refine wpAny_holding ?_
 show wpAny _ _ (if (Value.ref a == Value.ref b) = true then _ else _) Q E s
 by_cases hab:(Value.ref a == Value.ref b) = true
 ·rw [if_pos hab]
  have e:a = b:=by have:=eq_of_beq hab; injection this
  subst e
  obtain rfl:=hx.inj hy
  exact wpAny_bind (wpAny_rule (wpAny_pure (by simpa using h)))
 ·rw [if_neg hab]
  exact wpAny_bind (wpAny_richCompare_same_room (op:=.Eq) hx.typeIs hy.typeIs F.slot_tuple_eq
   (wpAny_call_entry F.slot_tuple_eq hx.typeIs F.entry_tuple_eq (nZ (by show A.units + 1 + 1 < cLine; omega) hx hy ⟨_,rfl,(fun e=>nomatch e),wpAny_truthy_bool h⟩) (F.args_tuple_eq_2 _ _)) (by omega))
theorem oE {m:Nat} {ks:List Key} {a:Addr} {Q:Bool → Shared → Prop} (hk:IsTupleKey (aV prog w) s.heap ks a) (h:Q true s):wpAny (model prog w) A (eqIsQuiet (m + 1) (.ref a)) Q E s:=by
 have hT:=hk.typeIs
 obtain ⟨o,items,n,ho,_,hd,hi⟩:=hk
 unfold eqIsQuiet
 refine wpAny_bind (wpAny_specialOf hT F.slot_tuple_eq.lookup ?_)
 show wpAny _ _ (isInstance (.ref a) (.type "tuple") >>= _) _ _ s
 refine wpAny_bind (wpAny_isInstance hT isSubtype_tuple_tuple ?_)
 simp only [Bool.not_true,Bool.false_eq_true,if_false]
 refine wpAny_bind (wpAny_seqItems ho hd ?_)
 refine wpAny_bind ?_
 show wpAny _ _ (forIn items _ _) _ _ s
 rw [← Array.forIn_toList]
 refine wpAny_forIn_list _ (fun rest r s'=>r.1 = none ∧ s' = s ∧ ∀ v ∈ rest,carriedByValue v = true) _ ?_ ?_ _ _ ⟨rfl,rfl,hi.byValue⟩
 ·rintro v rest r s' ⟨hr,rfl,hall⟩
  rw [eqIsQuiet_byValue _ (hall v List.mem_cons_self)]
  refine wpAny_bind (wpAny_pure ?_)
  simp only [Bool.not_true,Bool.false_eq_true,if_false]
  exact wpAny_pure ⟨rfl,rfl,fun u hu'=>hall u (List.mem_cons_of_mem _ hu')⟩
 ·rintro ⟨r1,r2⟩ s' ⟨hr,rfl,_⟩
  simp only at hr
  subst hr
  exact wpAny_pure h
theorem qd {k:Key × List Key} {a:Addr} {Q:Bool → Shared → Prop} (hk:bH prog w s.heap k a) (h:Q true s):wpAny (model prog w) A (eqIsQuiet 8 (.ref a)) Q E s:=by
 have hT:=hk.typeIs
 obtain ⟨o,n,u,b,ho,_,hd,h1,h2⟩:=hk
 unfold eqIsQuiet
 refine wpAny_bind (wpAny_specialOf hT F.slot_tuple_eq.lookup ?_)
 show wpAny _ _ (isInstance (.ref a) (.type "tuple") >>= _) _ _ s
 refine wpAny_bind (wpAny_isInstance hT isSubtype_tuple_tuple ?_)
 simp only [Bool.not_true,Bool.false_eq_true,if_false]
 refine wpAny_bind (wpAny_seqItems ho hd ?_)
 refine wpAny_bind ?_
 show wpAny _ _ (forIn #[u,Value.ref b] _ _) _ _ s
 rw [← Array.forIn_toList]
 simp only [List.forIn_cons,List.forIn_nil]
 rw [eqIsQuiet_byValue _ ((aV prog w).byValue _ _ h1)]
 refine wpAny_bind (wpAny_bind (wpAny_pure ?_))
 simp only [Bool.not_true,Bool.false_eq_true,if_false]
 refine wpAny_pure (wpAny_bind (wpAny_bind (oE (m:=6) h2 ?_)))
 simp only [Bool.not_true,Bool.false_eq_true,if_false]
 exact wpAny_pure (wpAny_pure (wpAny_pure h))
end
def iQ (prog:Program) (w:World):HeapKind prog w (Key × List Key) where
 is:=bH prog w
 hash:=kU prog w
 draws:=fun k=>1 + (k.2.length + 1) + 1
 room:=fun A=>A.units + 4 < cLine
 inj:=fun hx hy=>hx.inj hy
 keeps:=fun x ho hd hs=>x.keeps ho hd hs
 pyHash:=fun hu hk h=>sI hu hk h
 eqBool:=fun hu hx hy h=>oR hu hx hy h
 quiet:=fun hk h=>qd hk h
def jb (H:Hp) (k:Key × List Key) (a:Addr):Prop:=∃ b,H a = some (.tup [kV k.1,.ref b]) ∧ H b = some (.tup (k.2.map kV))
theorem k6 {P:Program} {w:World} {H:Hp} {h:Heap} {a:Addr} {k:Key × List Key} (ok:eV P w H h) (e:jb H k a):bH P w h k a:=by
 obtain ⟨b,e1,e2⟩:=e
 obtain ⟨_,au,r,o,h1,h2,n,h3⟩:=(show bQ P w H h a (.tup [kV k.1,.ref b]) from ok a _ e1)
 obtain ⟨u,v,rfl,ru,rv⟩:=uU r
 obtain rfl:v = Value.ref b:=rv
 exact ⟨o,n,u,b,h1,h2,h3,jT ru,iG ok e2⟩
abbrev NK:=Key × List Key
def yU (P:Program) (w:World) (a:Addr) (xs:List (NK × Addr × Value)):HO:=.ext fun h=>(a == sysModules) = false ∧ ∃ o es ep,h.get? a = some o ∧ o.ExactDict ∧ o.data = .dict es ep ∧ es.toList = xs.map (entryOfKey (iQ P w)) ∧ (xs.map (·.1)).Nodup
def KN (H:Hp) (kvs:List (NK × V)) (xs:List (NK × Addr × Value)):Prop:=Paired (fun (p:NK × V) (q:NK × Addr × Value)=>p.1 = q.1 ∧ jb H q.1 q.2.1 ∧ RelV p.2 q.2.2) kvs xs
def DN (P:Program) (w:World) (H:Hp) (a:Addr) (kvs:List (NK × V)):Prop:=∃ xs,H a = some (yU P w a xs) ∧ KN H kvs xs ∧ kvs.length ≤ 1000
theorem jb.keep {H H':Hp} {k:NK} {a:Addr} (h:jb H k a) (f:∀ b ys,H b = some (.tup ys) → H' b = some (.tup ys)):jb H' k a:=let ⟨b,e1,e2⟩:=h; ⟨b,f _ _ e1,f _ _ e2⟩
theorem KN.keep {H H':Hp} {kvs:List (NK × V)} {xs:List (NK × Addr × Value)} (h:KN H kvs xs) (f:∀ b ys,H b = some (.tup ys) → H' b = some (.tup ys)):KN H' kvs xs :=
 Paired.dn h fun _ _ z=>⟨z.1,z.2.1.keep f,z.2.2⟩
theorem DN.same {P:Program} {w:World} {H H':Hp} {a:Addr} {kvs:List (NK × V)} (d:DN P w H a kvs) (s:aG H H'):DN P w H' a kvs:=let ⟨xs,e,k,l⟩:=d; ⟨xs,s _ _ e,k.keep fun b ys q=>s _ _ q,l⟩
theorem DN.new {P:Program} {w:World} {H:Hp} {a:Addr}:DN P w (upd H a (yU P w a [])) a []:=⟨[],aB,.nil,Nat.zero_le _⟩
theorem KN.val {H:Hp} {kvs:List (NK × V)} {xs:List (NK × Addr × Value)} (h:KN H kvs xs) (k:NK):(bF kvs k).isSome = (atKey xs k).isSome:=by
 induction h with
 | nil=>rfl
 | @cons p q ps qs e t ih =>
  obtain ⟨q1,q2⟩:=q
  have e1:p.1 = q1:=e.1
  by_cases z:p.1 = k
  ·rw [bN z]
   unfold atKey
   rw [List.find?_cons_of_pos (by simp [← e1,z])]
   rfl
  ·rw [bA z,ih]
   unfold atKey
   rw [List.find?_cons_of_neg (by simp [← e1,z])]
theorem DN.at {P:Program} {w:World} {H:Hp} {h:Heap} {a:Addr} {kvs:List (NK × V)} (ok:eV P w H h) (d:DN P w H a kvs):∃ xs,KN H kvs xs ∧ h.DictOfH (iQ P w) a xs ∧ (a == sysModules) = false ∧ H a = some (yU P w a xs) ∧ kvs.length ≤ 1000:=by
 obtain ⟨xs,e,kn,l⟩:=d
 obtain ⟨⟨hs,o,es,ep,h1,h2,h3,h4,h5⟩,_⟩:=ok a _ e
 refine ⟨xs,kn,⟨o,es,ep,h1,h2,h3,h4,fun x hx=>?_,h5⟩,hs,e,l⟩
 have all:∀ {l:List (NK × V)} {m:List (NK × Addr × Value)},KN H l m → ∀ x ∈ m,bH P w h x.1 x.2.1:=by
  intro l m q
  induction q with
  | nil=>intro x hx; exact nomatch hx
  | @cons p q ps qs hq t ih =>
   intro x hx
   rcases List.mem_cons.mp hx with e | hx
   ·subst e
    exact k6 ok hq.2.1
   ·exact ih x hx
 exact all kn x hx
section
variable {X:Cx}
def Aa (P:Program) (w:World) (neg:Bool):R2:=fun x y H Q=>∃ a t k kvs,x = .ref t ∧ y = .ref a ∧ jb H k t ∧ DN P w H a kvs ∧ Q (.bl (if neg then !(bF kvs k).isSome else (bF kvs k).isSome)) H
theorem sM (hu:X.A.units + 62 < cLine):c8 X (compareOp .NotIn) (Aa X.prog X.w true):=by
 unfold c8 at *
 exact by
  intro pins s σ H x y v u Q I rx ry h
  obtain ⟨a,t,k,kvs,rfl,rfl,hk,hd,q⟩:=h
  cases rx
  cases ry
  obtain ⟨xs,kn,dd,hs,_,_⟩:=hd.at I.hok
  refine wpAny_notIn_heap (knd:=iQ X.prog X.w) (by show X.A.units + 1 + 4 < cLine; omega) (k6 I.hok hk) hs dd ?_
  rw [← kn.val k]
  exact ⟨.bl _,H,I.tok _,rfl,q⟩
def zY (P:Program) (w:World):w6:=fun o i v H Q=>∃ a t k kvs,o = .ref a ∧ i = .ref t ∧ jb H k t ∧ DN P w H a kvs ∧ kvs.length < 1000 ∧ bF kvs k = none ∧ ∀ H',(∀ b u,b ≠ a → H b = some u → H' b = some u) → DN P w H' a (kvs ++ [(k,v)]) → Q H'
theorem yN (hu:X.A.units + 62 < cLine):wL X (zY X.prog X.w):=by
 unfold wL at *
 exact by
  intro pins s σ H o i v ov iv u Q I ro ri rv h
  obtain ⟨a,t,k,kvs,rfl,rfl,hk,hd,hl,hn,q⟩:=h
  cases ro
  cases ri
  obtain ⟨xs,kn,dd,hs,e,hl0⟩:=hd.at I.hok
  have sz:1000 ≤ sizeLine:=aJ rfl
  have lx:=Paired.length kn
  have hx:atKey xs k = none:=by
   have:=kn.val k
   rw [hn] at this
   cases z:atKey xs k with
   | none=>rfl
   | some p=>rw [z] at this; cases this
  refine wpAny_setItem_heap (knd:=iQ X.prog X.w) (hsz:=by omega) (by show X.A.units + 1 + 4 < cLine; omega) (k6 I.hok hk) dd fun h' dd' sb=>?_
  rw [storedH_new hx] at dd'
  obtain ⟨ob,es,ep,h1,h2,h3,h4,_,h5⟩:=dd'
  have ne:∀ b ys,H b = some (.tup ys) → upd H a (yU X.prog X.w a (xs ++ [(k,t,u)])) b = some (.tup ys):=fun b ys hb=>by
   rw [aI (ax hb e (by intro z; cases z))]
   exact hb
  refine ⟨_,I.write (x:=a) (e:=a) (o:=yU X.prog X.w a (xs ++ [(k,t,u)])) (by rw [e]; exact True.intro) (.inl rfl) (fun b z hb y=>(sb.2 b hb).trans y) ⟨ob,h1⟩ ⟨⟨hs,ob,es,ep,h1,h2,h3,h4,h5⟩,⟨ob,h1⟩,fun g1 g2 ⟨z0,o,es,ep,q1,q2⟩ kk=>⟨z0,o,es,ep,kk o q1,q2⟩⟩,q _ (fun b z nb hb=>by rw [aI nb]; exact hb) ⟨_,aB,?_,?_⟩⟩
  ·exact Paired.snoc (kn.keep ne) ⟨rfl,hk.keep ne,rv⟩
  ·rw [List.length_append]
   show kvs.length + 1 ≤ 1000
   omega
def zB (P:Program) (w:World):TE:=fun _ H Q=>∀ p,H p = none → Q (.ref p) (upd H p (yU P w p []))
theorem tm {pos:Pos}:PE X (.Dict [] [] pos) (zB X.prog X.w):=by
 unfold PE at *
 exact by
  intro pins s σ H Q I h
  have hne:(s.heap.objs.size == sysModules) = false:=beq_eq_false_iff_ne.mpr (Ne.symm (Nat.ne_of_lt I.big))
  have e1:(s.heap.push { cls:=.type "dict",data:=.dict #[] }).get? s.heap.objs.size = some { cls:=.type "dict",data:=.dict #[] }:=Heap.get?_push_size s.heap rfl
  exact wpAny_Dict_empty ⟨.ref s.heap.objs.size,_,I.laid (a:=s.heap.objs.size) (o:=yU X.prog X.w s.heap.objs.size []) (t':=s.toks) (fun _ _ q=>Heap.get?_push_of_some _ q) (Nat.le_refl _) ⟨⟨hne,_,_,_,e1,⟨rfl,rfl,rfl⟩,rfl,rfl,List.nodup_nil⟩,⟨_,e1⟩,fun g1 g2 ⟨z0,o,es,ep,q1,q2⟩ kk=>⟨z0,o,es,ep,kk o q1,q2⟩⟩,rfl,h _ (I.hok.fresh (Nat.le_refl _))⟩
end
end L2
namespace L2
open PySem PySem.Spec PyProof.Rows
section
variable {X:Cx}
end
end L2
namespace L2
open PySem PySem.Spec PyProof.Rows
section
variable {X:Cx}
end
end L2
namespace L2
open PySem PySem.Spec PyProof.Rows
section
variable {X:Cx}
end
end L2
namespace L2
open PySem PySem.Spec PyProof.Rows
section
variable {X:Cx} {e o a:Expr} {es:List Expr} {te to ta tb:TE} {t:TA} {pos:Pos}
end
section
open Builtin Builtin.Str
end
section
variable {X:Cx} {o:Expr} {to:TE} {apos cpos:Pos}
end
end L2
namespace L2
open PySem PySem.Spec PyProof.Rows
end L2
namespace L2
open PySem PySem.Spec PyProof.Rows
structure Hand (P:Program) (w:World) (i l:Addr) (St:Nat → Heap → Prop) (xs:Array Value):Prop where
 keep:∀ k h h',St k h → (∀ o,h.get? i = some o → h'.get? i = some o) → (∀ o,h.get? l = some o → h'.get? l = some o) → St k h'
 item:∀ (A:Around) (E:Value → Shared → Prop) k x (s:Shared) (Q:Value → Shared → Prop),St k s.heap → xs[k]? = some x → (∀ h',St (k + 1) h' → Heap.SameBut i s.heap h' → Q x { s with heap:=h' }) → wpAny (model P w) A (Builtin.SmallTypes.nextOf (.ref i)) Q E s
 stop:∀ (A:Around) (E:Value → Shared → Prop) k (s:Shared) (Q:Value → Shared → Prop),A.handled = none → St k s.heap → xs[k]? = none → (∀ h' e,Heap.ExtBut i s.heap h' → (∃ o,h'.get? e = some o ∧ o.cls = .type "StopIteration") → E (.ref e) { s with heap:=h' }) → wpAny (model P w) A (Builtin.SmallTypes.nextOf (.ref i)) Q E s
theorem Hand.list {P:Program} {w:World} (i l:Addr) (n:i ≠ l) (xs:Array Value):Hand P w i l (fun k h=>h.IsListIter i l k ∧ h.IsList l xs) xs where
 keep:=fun k h h' st a b=>⟨st.1.at a,st.2.at b⟩
 item:=fun A E k x s Q st hx hQ=>wpAny_nextOf_list_item st.1 st.2 hx fun h' a b=>hQ h' ⟨a,st.2.extBut b.extBut n.symm⟩ b
 stop:=fun A E k s Q hh st hx hE=>wpAny_nextOf_list_end hh st.1 st.2 hx hE
section
variable {P:Program} {w:World} {A:Around} {E:Value → Shared → Prop} {s:Shared}
theorem pF {it t:Addr} {i:Nat} {au:Array Value} {Q:Value → Shared → Prop} (hit:s.heap.IsTupleIter it t i) (ht:s.heap.IsTuple t au)
  (h:match au[i]? with
   | some x=>∀ h',h'.IsTupleIter it t (i + 1) → Heap.SameBut it s.heap h' → Q x { s with heap:=h' }
   | none=>A.handled = none ∧ ∀ h' e,Heap.ExtBut it s.heap h' → (∃ o,h'.get? e = some o ∧ o.cls = .type "StopIteration") → E (.ref e) { s with heap:=h' }) :
  wpAny (model P w) A (Builtin.SmallTypes.nextOf (.ref it)) Q E s:=by
 obtain ⟨o,ho,hc,hd⟩:=id hit
 obtain ⟨ol,hol,_,nl,hdl⟩:=ht
 have ne:¬ (Value.ref t == Value.none) = true:=Bool.false_ne_true
 unfold Builtin.SmallTypes.nextOf
 refine wpAny_bind (wpAny_callSpecial?_slot (name:=Str.ofString "__next__") hit.typeIs F.slot_tuple_iterator_next (wpAny_call_entry F.slot_tuple_iterator_next hit.typeIs F.entry_tuple_iterator_next ?_ (F.args_tuple_iterator_next_1 _)))
 refine (show wpAny _ _ (field (.ref it) 0 >>= _) _ _ s from wpAny_bind (wpAny_field ho hd (x:=.ref t) rfl ((if_neg ne).symm ▸ (show wpAny _ _ (field (.ref it) 1 >>= _) _ _ s from wpAny_bind (wpAny_field ho hd (x:=.int i 0) rfl (show wpAny _ _ (seqItems? (.ref t) >>= _) _ _ s from wpAny_bind (wpAny_seqItems hol hdl ?_)))))))
 cases hx:au[i]? with
 | some x =>
  rw [hx] at h
  simp only [Int.toNat_natCast,hx]
  refine wpAny_bind (wpAny_setField ho hd (by simp) (wpAny_pure ⟨x,rfl,wpAny_pure (h _ ⟨_,Heap.get?_update_self _ ho (Obj.isFreed_of_fields (Obj.data_mapFields hd _)),(Obj.cls_mapFields ..).trans hc,?_⟩ (Heap.SameBut.update ..))⟩))
  rw [Obj.data_mapFields hd]; simp [rawInt]
 | none =>
  rw [hx] at h
  simp only [Int.toNat_natCast,hx]
  refine wpAny_bind (wpAny_rule (wpAny_bind (wpAny_setField ho hd (by simp) (show wpAny _ _ (newExc (.type "StopIteration") [] >>= _) _ _ _ from wpAny_bind ?_))))
  simp only [newExc,newTuple]
  refine wpAny_bind (wpAny_newObj_type (wpAny_bind (m:=firstArgMember _ _) (wpAny_of_eq (a:=Value.none) (by first | rfl | (simp only [firstArgMember]; rfl)) (wpAny_newObj_type ?_ (by size_fits)))) (by size_fits))
  simp only [raiseNew]
  refine wpAny_bind (wpAny_handled ?_)
  rw [show A.in1.handled = none from h.1]
  exact wpAny_bind (wpAny_pure (wpAny_throw (h.2 _ _ (((Heap.SameBut.update ..).extBut.push _).push _) ⟨_,Heap.get?_push_size _ rfl,rfl⟩)))
end
theorem Hand.tup {P:Program} {w:World} (i t:Addr) (n:i ≠ t) (xs:Array Value):Hand P w i t (fun k h=>h.IsTupleIter i t k ∧ h.IsTuple t xs) xs where
 keep:=fun k h h' st a b=>⟨st.1.at a,st.2.at b⟩
 item:=fun A E k x s Q st hx hQ=>pF st.1 st.2 (by rw [hx]; exact fun h' a b=>hQ h' ⟨a,st.2.extBut b.extBut n.symm⟩ b)
 stop:=fun A E k s Q hh st hx hE=>pF st.1 st.2 (by rw [hx]; exact ⟨hh,hE⟩)
section
variable {P:Program} {w:World} {A:Around} {E:Value → Shared → Prop} {s:Shared} {z TI TO i1 i2 l1 l2:Addr} {S1 S2:Nat → Heap → Prop} {xs ys:Array Value} {k:Nat} {a b:Value}
end
end L2
namespace L2
open PySem PySem.Spec PyProof.Rows
section
variable {X:Cx} {a b e:Expr} {ta tb te:TE} {es:List Expr} {t:TA} {pos:Pos} {st st2:Stmt} {rest:List Stmt} {t1 t2 u:TS}
end
end L2
namespace L2
open PySem PySem.Spec PyProof.Rows
section
variable {X:Cx}
theorem cj.f {H:Hp} {a:Addr} {o:Obj} {kvs:List (Key × V)} {k:Key} (e:H a = some (.frz o (.dK kvs))):cj H a (kV k) (bF kvs k):=.inl ⟨kvs,k,.inr ⟨o,e⟩,rfl,rfl⟩
end
end L2
namespace HT
open PySem PySem.Spec PyProof.Rows
section
variable {prog:Program} {w:World} {A:Around} {E:Value → Shared → Prop} {s:Shared}
end
end HT
namespace L2
open PySem PySem.Spec PyProof.Rows
section
variable {X:Cx}
end
end L2
namespace L2
open PySem PySem.Spec PyProof.Rows
section
variable {prog:Program} {w:World} {A:Around} {R:Result → Shared → Prop} {I S:Addr} {fp wr:List Addr} {n:Nat} {P:Nat → Value → Prop} {St:Nat → Heap → Prop} {kw:List (Str × Value)} {bt:Nat → Nat → Bool}
end
section
variable {prog:Program} {w:World} {A:Around} {E:Value → Shared → Prop} {s:Shared}
end
end L2
namespace L2
open PySem PySem.Spec PyProof.Rows
def kl (xs:List V) (lo hi:Option Int) (st:Int):List V:=(sliceRange (sliceBounds lo hi (some st) xs.length).1 (sliceBounds lo hi (some st) xs.length).2.1 (sliceBounds lo hi (some st) xs.length).2.2).filterMap (xs[·]?)
theorem tS {xs:List V} {lo hi:Option Int} {st:Int} {v:V} (h:v ∈ kl xs lo hi st):v ∈ xs:=by
 obtain ⟨k,_,h⟩:=List.mem_filterMap.mp h
 exact List.mem_of_getElem? h
theorem Vals.pick {xs:List V} {us:List Value} (r:Vals xs us):∀ ks:List Nat,Vals (ks.filterMap (xs[·]?)) (ks.filterMap (us[·]?))
 | []=>.nil
 | k :: ks=>by
  cases hx:xs[k]? with
  | none =>
   rw [List.filterMap_cons_none (f:=fun k=>xs[k]?) hx,List.filterMap_cons_none (f:=fun k=>us[k]?) (r.none_of hx)]
   exact Vals.pick r ks
  | some x =>
   obtain ⟨u,hu,ru⟩:=r.get hx
   rw [List.filterMap_cons_some (f:=fun k=>xs[k]?) hx,List.filterMap_cons_some (f:=fun k=>us[k]?) hu]
   exact .cons ru (Vals.pick r ks)
section
variable {X:Cx} {e:Expr} {te:TE} {lo hi:Option Expr} {tl th:TO} {pos p2:Pos}
def B3 (K:PySem.W.Frag) (te:TE) (tl th ts:TO):TE:=fun σ H Q=>te σ H fun x H1=>tl σ H1 fun l H2=>th σ H2 fun u H3=>ts σ H3 fun o H4=>∃ a xs st,x = .ref a ∧ o = some st ∧ st ≠ 0 ∧ ah K H4 a xs ∧ ((kl xs l u st).length ≤ xs.length → ∀ p,H4 p = none → Q (.ref p) (upd H4 p (.lst (kl xs l u st))))
theorem rH {st:Expr} {ts:TO} (he:PE X e te) (hl:PO X lo tl) (hu:PO X hi th) (hst:PO X (some st) ts):PE X (.Subscript e (.Slice lo hi (some st) p2) pos) (B3 X.K te tl th ts):=by
 unfold PE at *; unfold PO at *
 exact by
  intro pins s σ H Q I h
  refine Subscript_ (bS (he pins s σ H _ I h) fun v s1 ⟨x,H1,I1,r1,q1⟩=>?_)
  refine wpAny_Slice (bS (hl pins s1 σ H1 _ I1 q1) fun vl s2 ⟨l,H2,I2,pl,q2⟩=>bS (hu pins s2 σ H2 _ I2 q2) fun vu s3 ⟨u,H3,I3,pu,q3⟩=>bS (hst pins s3 σ H3 _ I3 q3) fun vs s4 ⟨o,H4,I4,ps,q4⟩=>?_)
  obtain ⟨a,xs,st',rfl,rfl,h0,hx,q⟩:=q4
  have I5:Inv X pins σ H4 { s4 with heap:=s4.heap.push { cls:=.type "slice",data:=.fields #[vl,vu,vs] } }:=I4.kept (t':=s4.toks) fun b ob q=>Heap.get?_push_of_some _ q
  cases r1
  obtain ⟨au,r,ht,hz⟩:=I5.list hx
  have hlen:=r.length
  show wpAny (model X.prog X.w) X.A (subscriptTail e (.Slice lo hi (some st) p2) (.ref a) (.ref s4.heap.objs.size)) (EP X pins σ Q) X.xe { s4 with heap:=s4.heap.push { cls:=.type "slice",data:=.fields #[vl,vu,vs] } }
  have sl:=slicePick_size_le au.toArray l u (some st')
  have e1:slicePick au.toArray l u (some st') = ((sliceRange (sliceBounds l u (some st') xs.length).1 (sliceBounds l u (some st') xs.length).2.1 (sliceBounds l u (some st') xs.length).2.2).filterMap (au[·]?)).toArray:=by
   unfold slicePick
   rw [List.size_toArray,← hlen]
   simp only [List.getElem?_toArray]
  have rp:Vals (kl xs l u st') ((sliceRange (sliceBounds l u (some st') xs.length).1 (sliceBounds l u (some st') xs.length).2.1 (sliceBounds l u (some st') xs.length).2.2).filterMap (au[·]?)):=r.pick _
  have lp:(kl xs l u st').length ≤ xs.length:=by
   rw [rp.length]
   rw [e1,List.size_toArray,List.size_toArray,← hlen] at sl
   exact sl
  refine tail_any (ops:=[.ref a,.ref s4.heap.objs.size]) ht.isList.typeIs slot_list_getitem.lookup ?_ (by with_unfolding_all rfl)
  refine wpAny_getItem_list_slice ht.isList (Heap.IsSliceOf.new ..) pl pu ps (by intro z; exact h0 (Option.some.inj z)) ?_ (by rw [List.size_toArray]; omega)
  rw [e1]
  refine ⟨.ref _,_,I5.laid (t':=s4.toks) (o:=.lst (kl xs l u st')) (fun b ob q=>Heap.get?_push_of_some _ q) (Nat.le_refl _) ?_,rfl,q lp _ (I5.hok.fresh (Nat.le_refl _))⟩
  exact ⟨Nat.le_trans lp hz,_,0,rp,Heap.get?_push_size _ rfl⟩
end
end L2
namespace L2
open PySem PySem.Spec PyProof.Rows
def pT (kb:List (Key × V)):List (Key × V) → Bool
 | []=>true
 | p :: r=>match bF kb p.1 with
  | none=>false
  | some y=>f9 p.2 y && pT kb r
def wJ (H:Hp) (x y:V) (b:Bool):Prop:=∃ a c ka kb,x = .ref a ∧ y = .ref c ∧ a ≠ c ∧ Rd H a (.dK ka) ∧ Rd H c (.dK kb) ∧ (∀ p ∈ ka,∃ m:Int,p.1 = Sum.inl m) ∧ (∀ p ∈ kb,∃ m:Int,p.1 = Sum.inl m) ∧ (∀ p ∈ ka,b5 p.2 = true) ∧ (∀ p ∈ kb,b5 p.2 = true) ∧ b = (ka.length == kb.length && pT kb ka)
theorem vN {kvs:List (Key × V)} {k:Key} {y:V} (h:bF kvs k = some y):(k,y) ∈ kvs:=by
 induction kvs with
 | nil=>cases h
 | cons p r ih =>
  by_cases e:p.1 = k
  ·rw [bN e] at h
   have h:=Option.some.inj h
   subst e h
   exact List.mem_cons_self ..
  ·rw [bA e] at h
   exact List.mem_cons_of_mem _ (ih h)
theorem mj {kb:List (Key × V)} (nd:∀ p ∈ kb,bF kb p.1 = some p.2) (fl:∀ p ∈ kb,b5 p.2 = true):∀ {ka:List (Key × V)},(∀ p ∈ ka,p ∈ kb) → pT kb ka = true
 | [],_=>rfl
 | p :: r,h=>by
  unfold pT
  rw [nd p (h p (List.mem_cons_self ..))]
  show (f9 p.2 p.2 && pT kb r) = true
  rw [fQ (fl p (h p (List.mem_cons_self ..))),mj nd fl fun q hq=>h q (List.mem_cons_of_mem _ hq)]
  rfl
section
variable {X:Cx} {pins:List (Addr × Obj)} {σ:St} {H:Hp} {s:Shared}
theorem wZ {A:Around} {kb:List (Key × V)} {vb:List (Key × Value)} (rb:KV kb vb) (fb:∀ p ∈ kb,b5 p.2 = true):∀ {ka:List (Key × V)} {va:List (Key × Value)},KV ka va → (∀ p ∈ ka,b5 p.2 = true) → PySem.W.KeqHits A s vb va (pT kb ka):=by
 intro ka va r
 unfold KV at r
 induction r with
 | nil=>intro _; exact .nil
 | @cons p q ps qs h t ih =>
  intro fa
  obtain ⟨q1,q2⟩:=q
  have h1:p.1 = q1:=h.1
  unfold pT
  cases hy:bF kb p.1 with
  | none =>
   refine PySem.W.KeqHits.miss ?_
   have:=rb.val q1
   rw [← h1,hy] at this
   rw [← h1]
   generalize valueAt vb p.1 = o at this
   cases o with
   | none=>rfl
   | some _=>exact this.elim
  | some y =>
   obtain ⟨w,hw,rw'⟩:=eY.some_of (v:=y) (o:=valueAt vb q1) (by rw [← hy,h1]; exact rb.val q1)
   exact PySem.W.KeqHits.hit hw (my h.2 rw' (fa p (List.mem_cons_self ..)) (fb _ (vN hy))) (ih fun p' hp'=>fa p' (List.mem_cons_of_mem _ hp'))
theorem wJ.at (I:Inv X pins σ H s) {A:Around} {x y:V} {b:Bool} {u v:Value} (hu:A.units < cLine) (h:wJ H x y b) (rx:RelV x u) (ry:RelV y v):SeqAt.EqAt A s u v b:=by
 obtain ⟨a,c,ka,kb,rfl,rfl,hac,ha,hb,ia,ib,fa,fb,rfl⟩:=h
 cases rx
 cases ry
 obtain ⟨za,da,va,ra,oa⟩:=gW I.hok ha
 obtain ⟨zb,db,vb,rb,ob⟩:=gW I.hok hb
 refine SeqAt.EqAt.of_refs hac fun prog w E Q hq=>?_
 have oa':=g8 (P':=prog) (w':=w) oa (ju ra ia)
 have ob':=g8 (P':=prog) (w':=w) ob (ju rb ib)
 refine PySem.W.keq_eq da db oa' ob' hu (fun _=>wZ (A:=A.in1) rb fb ra fa) ?_
 rw [← ra.length,← rb.length]
 exact hq
def xW (K:PySem.W.Frag) (H:Hp) (x y:V) (b:Bool):Prop:=je K H 20 x y b ∨ wJ H x y b
def zl (K:PySem.W.Frag) (neg:Bool):R2:=fun x y H Q=>∃ b,bZ K H (xW K H) x y b ∧ Q (.bl (if neg then !b else b)) H
theorem xW.at (I:Inv X pins σ H s) (hu:X.A.units + 62 < cLine) {x y:V} {b:Bool} {u v:Value} (h:xW X.K H x y b) (rx:RelV x u) (ry:RelV y v):SeqAt.EqAt X.A.in1 s u v b:=by
 rcases h with h | h
 ·exact je.at I 20 X.A.in1 x y b u v (by show X.A.units + 1 + 20 < cLine; omega) h rx ry
 ·exact wJ.at I (by show X.A.units + 1 < cLine; omega) h rx ry
theorem zP (hu:X.A.units + 62 < cLine):c8 X (compareOp .Eq) (zl X.K false):=by
 unfold c8 at *
 exact by
  intro pins s σ H x y v u Q I rx ry h
  obtain ⟨b,he,q⟩:=h
  exact bZ.rc (A:=X.A) I he rx ry (by omega) (fun x y b u v hd r1 r2=>xW.at I hu hd r1 r2) X.prog X.w _ _ (az I q rfl)
theorem qx (hu:X.A.units + 62 < cLine):c8 X (compareOp .NotEq) (zl X.K true):=by
 unfold c8 at *
 exact by
  intro pins s σ H x y v u Q I rx ry h
  obtain ⟨b,he,q⟩:=h
  exact bZ.AI (A:=X.A) I he rx ry (by omega) (fun x y b u v hd r1 r2=>xW.at I hu hd r1 r2) X.prog X.w _ _ (az I q rfl)
end
end L2
set_option maxHeartbeats 200000
namespace My
open PySem L2
local macro_rules | `(tactic| walk_at "rd")=>`(tactic| repeat (first
 | refine ⟨_,rfl,?_⟩
 | refine ⟨_,_,rfl,rfl,?_⟩
 | refine ⟨_,_,rfl,?_⟩
 | refine ⟨(by show (0:Int) < _; decide),?_⟩
 | refine ⟨(⟨by decide,by decide⟩:zo _ _),?_⟩
 | refine ⟨(⟨by decide,by decide⟩:AU _ _),?_⟩
 | refine ⟨(⟨by decide,by decide,by decide⟩:AO _ _),?_⟩
 | refine ⟨(.inr ⟨by decide,by decide⟩:uh _ _),?_⟩
 | refine ⟨(.inl ⟨by decide,by decide⟩:uh _ _),?_⟩
 | refine ⟨Own.int,?_⟩
 | refine ⟨Own.bl,?_⟩
 | refine ⟨Own.str,?_⟩
 | refine ⟨Own.bI,?_⟩
 | refine ⟨rfl,?_⟩))
def B6:V → Bool
 | .int _=>true
 | _=>false
def inR (m:Int):V → Bool
 | .int i=>decide (1 ≤ i) && decide (i ≤ m)
 | _=>false
def Ba (K:W.Frag):Sp:=fun vs H Q _=>∃ x,vs = [x] ∧ Own K H x ∧ Q (.bl (B6 x)) H
def BM (K:W.Frag) (m:Int):Sp:=fun vs H Q _=>∃ x,vs = [x] ∧ Own K H x ∧ Q (.bl (inR m x)) H
def vF:List V:=[.str "genus",.str "species",.str "form"]
def dH (c:Nat):Bool:=decide (97 ≤ c) && decide (c ≤ 122)
def isWord:V → Bool
 | .str z=>(decide (1 ≤ (z.length:Int)) && decide ((z.length:Int) ≤ 12)) && z.cps.toList.all dH
 | _=>false
theorem eS (z:Str):isWord (.str z) = ((decide (1 ≤ (z.length:Int)) && decide ((z.length:Int) ≤ 12)) && z.cps.toList.all dH):=rfl
def cw:V → Bool
 | .str z=>zv (.str z) vF
 | _=>false
def fits:V → Prop
 | .str z=>z.length ≤ sizeLine
 | _=>True
def y0 (K:W.Frag):Sp:=fun vs H Q _=>∃ x,vs = [x] ∧ Own K H x ∧ fits x ∧ ∀ H',aG H H' → Q (.bl (isWord x)) H'
def yB (K:W.Frag):Sp:=fun vs H Q _=>∃ x,vs = [x] ∧ Own K H x ∧ Q (.bl (cw x)) H
theorem vJ (a c:Nat):(!decide ((⟨#[c]⟩:Str).cps.toList < (⟨#[a]⟩:Str).cps.toList)) = decide (a ≤ c):=by
 have e:((⟨#[c]⟩:Str).cps.toList < (⟨#[a]⟩:Str).cps.toList) ↔ c < a:=by
  show [c] < [a] ↔ c < a
  rw [List.cons_lt_cons_iff]
  simp
 by_cases h:c < a
 ·rw [decide_eq_true (e.mpr h),decide_eq_false (by omega)]; rfl
 ·rw [decide_eq_false (fun z=>h (e.mp z)),decide_eq_true (by omega)]; rfl
theorem BI (c:Nat):(!decide ((⟨#[c]⟩:Str).cps.toList < (Str.ofString "a").cps.toList)) = decide (97 ≤ c):=vJ 97 c
theorem Ak (c:Nat):(!decide ((Str.ofString "z").cps.toList < (⟨#[c]⟩:Str).cps.toList)) = decide (c ≤ 122):=vJ c 122
theorem take_one {α:Type} {l:List α} {i:Nat} {x:α} (h:l[i]? = some x):l.take (i + 1) = l.take i ++ [x]:=by
 rw [List.take_succ,h]; rfl
def bO (r u:V):Bool:=if r = .str "genus" then decide (u = .bI) else inR 1000000000 u
def bT (r s b:V):Bool:=if b = .bI then inR 1000000000 s else (!decide (r = .str "genus")) && (decide (s = .bI) && inR 1000000000 b)
def eP (n d r w:V):Nat:=if inR 1000000000 n = false then 1 else if inR 1000000 d = false then 2 else if cw r = false then 3 else if isWord w = false then 4 else 0
def why (n d r w u s b:V):Nat:=if eP n d r w ≠ 0 then eP n d r w else if bO r u = false then 5 else if bT r s b = false then 5 else 0
set_option genInjectivity false in
set_option genSizeOfSpec false in
set_option genSizeOf false in
structure Ex where
 c1:Addr
 c2:Addr
 c3:Addr
 c4:Addr
 c5:Addr
def Ex.at (x:Ex):Nat → Addr
 | 1=>x.c1
 | 2=>x.c2
 | 3=>x.c3
 | 4=>x.c4
 | _=>x.c5
def zG (K:W.Frag) (x:Ex):Sp:=fun vs H Q E=>∃ n d r w,vs = [n,d,r,w] ∧ Own K H n ∧ Own K H d ∧ Own K H r ∧ Own K H w ∧ fits w ∧
 ∀ H',aG H H' → (eP n d r w = 0 → Q .bI H') ∧ (eP n d r w ≠ 0 → E (.ref (x.at (eP n d r w))) none H')
def wA (K:W.Frag):Sp:=fun vs H Q _=>∃ z u,vs = [.str z,u] ∧ Own K H u ∧ Q (.bl (bO (.str z) u)) H
def AM (K:W.Frag):Sp:=fun vs H Q _=>∃ z s b,vs = [.str z,s,b] ∧ Own K H s ∧ Own K H b ∧ Q (.bl (bT (.str z) s b)) H
def fields (n d r w u s b k:V):List (Str × V):=[("number",n),("day",d),("rank",r),("word",w),("under",u),("sheet",s),("base",b),("described",k)]
def xx (K:W.Frag) (C:Addr) (x:Ex):Sp:=fun vs H Q E=>∃ a dx n d r w u s b k,vs = [.ref a,n,d,r,w,u,s,b,k] ∧ H a = some (.ins C dx []) ∧ Own K H n ∧ Own K H d ∧ Own K H r ∧ Own K H w ∧ fits w ∧ Own K H u ∧ Own K H s ∧ Own K H b ∧
 ∀ H',aG H H' → (why n d r w u s b = 0 → Q .bI (upd H' a (.ins C dx (fields n d r w u s b k)))) ∧ (why n d r w u s b ≠ 0 → E (.ref (x.at (why n d r w u s b))) none H')
theorem aG.upd {H H':Hp} {p:Addr} {o:HO} (e:aG H H') (h:H p = none):aG H (L2.upd H' p o):=fun b u q=>by
 rw [aI (aL q h)]
 exact e b u q
theorem wo (u:V):bO (.str "genus") u = decide (u = .bI):=by unfold bO; rw [if_pos rfl]
theorem rF {z:Str} (h:z ≠ "genus") (u:V):bO (.str z) u = inR 1000000000 u:=by unfold bO; rw [if_neg (fun q=>h (V.str.inj q))]
theorem xh (r s:V):bT r s .bI = inR 1000000000 s:=by unfold bT; rw [if_pos rfl]
theorem zy {b:V} (r s:V) (h:b ≠ .bI):bT r s b = ((!decide (r = .str "genus")) && (decide (s = .bI) && inR 1000000000 b)):=by unfold bT; rw [if_neg h]
theorem aG.made {H:Hp} {x dx:Addr} {o o':HO} (h1:H x = none) (h2:H dx = none) (ne:dx ≠ x):aG H (L2.upd (L2.upd H dx o) x o'):=fun b u q=>by
 rw [aI (aL q h1),aI (aL q h2)]
 exact q
structure En where
 n:Int
 d:Int
 r:Str
 w:Str
 u:Option Int
 s:Option Int
 b:Option Int
 k:Bool
def aj:Option Int → V
 | none=>.bI
 | some i=>.int i
def cm (e:En):List (Str × V):=fields (.int e.n) (.int e.d) (.str e.r) (.str e.w) (aj e.u) (aj e.s) (aj e.b) (.bl e.k)
def cc (H:Hp) (C:Addr) (v:V) (e:En):Prop:=∃ a dx,v = .ref a ∧ H a = some (.ins C dx (cm e))
def ij (e:En):Prop:=why (.int e.n) (.int e.d) (.str e.r) (.str e.w) (aj e.u) (aj e.s) (aj e.b) = 0
def iq (x y:En):Bool:=HT.lexLt [x.d,x.n] [y.d,y.n]
theorem cc.same {H H':Hp} {C:Addr} {v:V} {e:En} (h:cc H C v e) (s:aG H H'):cc H' C v e:=let ⟨a,dx,e1,h1⟩:=h; ⟨a,dx,e1,s _ _ h1⟩
inductive yV (K:W.Frag) (H:Hp) (C:Addr):V → Option En → Prop where
 | ent {v:V} {e:En} (h:cc H C v e):yV K H C v (some e)
 | oth {v:V} {n:String} (t:dP K H v (.type n)) (hn:W.kitOne K (.type n) (.ref C) = some false):yV K H C v none
def xB (C:Addr):Sp:=fun vs H Q _=>∃ x y e f,vs = [x,y] ∧ cc H C x e ∧ cc H C y f ∧ ∀ H',aG H H' → Q (.bl (iq e f)) H'
def dj:Option En → En → Bool
 | none,_=>true
 | some l,e=>iq l e
def bL:List Int → Option En → List (Option En) → Bool
 | _,_,[]=>true
 | _,_,none :: _=>false
 | seen,last,some e :: r=>!seen.contains e.n && (dj last e && bL (seen ++ [e.n]) (some e) r)
def vT (K:W.Frag) (H:Hp) (C:Addr) (vs:List V) (is:List (Option En)):Prop:=vs.length = is.length ∧ ∀ (j:Nat) v i,vs[j]? = some v → is[j]? = some i → yV K H C v i
def yS (K:W.Frag) (C X:Addr):Sp:=fun vs H Q E=>∃ x,vs = [x] ∧ ((∃ l ws is,x = .ref l ∧ H l = some (.lst ws) ∧ vT K H C ws is ∧ ws.length ≤ 1000 ∧ (bL [] none is = true → ∀ q H',aG H H' → H q = none → H' q = some (.lst ws) → Q (.ref q) H') ∧ (bL [] none is = false → ∀ H',aG H H' → E (.ref X) none H')) ∨
 ∃ n,dP K H x (.type n) ∧ W.kitOne K (.type n) (.type "list") = some false ∧ ∀ H',aG H H' → E (.ref X) none H')
def cg (H:Hp) (C:Addr) (ws:List V) (es:List En):Prop:=ws.length = es.length ∧ ∀ (j:Nat) v e,ws[j]? = some v → es[j]? = some e → cc H C v e
theorem cg.same {H H':Hp} {C:Addr} {ws:List V} {es:List En} (h:cg H C ws es) (s:aG H H'):cg H' C ws es:=⟨h.1,fun j v e a b=>(h.2 j v e a b).same s⟩
theorem cg.au {K:W.Frag} {H:Hp} {C:Addr} {ws:List V} {es:List En} (h:cg H C ws es):vT K H C ws (es.map some):=by
 refine ⟨by rw [List.length_map]; exact h.1,fun j v i hv hi=>?_⟩
 rw [List.getElem?_map] at hi
 cases e:es[j]? with
 | none=>rw [e] at hi; cases hi
 | some x=>rw [e] at hi; cases hi; exact .ent (h.2 j v x hv e)
def vD (K:W.Frag) (H:Hp) (C:Addr) (x:V):Prop:=(∃ l ws is,x = .ref l ∧ H l = some (.lst ws) ∧ vT K H C ws is ∧ ws.length ≤ 1000 ∧ bL [] none is = false) ∨ ∃ n,dP K H x (.type n) ∧ W.kitOne K (.type n) (.type "list") = some false
theorem wg (a b:Str) (f:Nat → Bool):(a ++ b).cps.toList.all f = (a.cps.toList.all f && b.cps.toList.all f):=by
 rw [Str.cps_append,Array.toList_append,List.all_append]
theorem iC {K:W.Frag} {H:Hp} {n:Nat} {a b:Addr} {xs:List V} (ha:ah K H a xs) (hb:ah K H b []):bZ K H (je K H n) (.ref a) (.ref b) xs.isEmpty:=by
 cases xs with
 | nil=>exact .list (e:=fun _=>true) ha hb rfl fun i x y h=>(by rw [List.getElem?_nil] at h; cases h)
 | cons x r=>exact .listN ha hb (by intro z; cases z)
theorem xN (m i:Int):inR m (.int i) = (decide (1 ≤ i) && decide (i ≤ m)):=rfl
theorem fB {m i:Int} (h1:1 ≤ i) (h2:i ≤ m):inR m (.int i) = true:=by rw [xN,decide_eq_true h1,decide_eq_true h2]; rfl
structure Rt where
 e:En
 nm:List Str
structure Rs where
 o:List (Int × Str)
 n:List (Int × Option (List Str))
 r:List Rt
def ao (R:List Rt) (n:Int):Option Rt:=R.find? fun x=>decide (x.e.n = n)
def cL (r:Str):Str:=if r = Str.ofString "species" then Str.ofString "genus" else Str.ofString "species"
def bM (R:List Rt) (e:En):Option (List Str) :=
 if e.r = Str.ofString "genus" then some [e.w] else
  match ao R (e.u.getD 0) with
  | none=>none
  | some x=>if x.e.r = cL e.r then some (x.nm ++ [e.w]) else none
def eR (R:List Rt) (nm:List Str):Str:=if R.any (fun x=>decide (x.nm = nm)) = true then Str.ofString "alike" else Str.ofString "right"
def fL (R:List Rt) (e:En) (b:Int) (nm:List Str):Str :=
 match ao R b with
 | none=>Str.ofString "baseless"
 | some x=>if x.e.r ≠ e.r ∨ x.e.b ≠ none then Str.ofString "baseless" else if x.e.w ≠ e.w then Str.ofString "reworded" else eR R nm
def gw (R:List Rt) (e:En) (nm:Option (List Str)):Str :=
 if e.b = none ∧ e.k = false then Str.ofString "undescribed" else
  match nm with
  | none=>Str.ofString "unplaced"
  | some nm=>match e.b with
   | none=>eR R nm
   | some b=>fL R e b nm
def dI (s:Rs) (e:En):Str:=gw s.r e (bM s.r e)
def bU (s:Rs) (e:En):Rs:=⟨s.o ++ [(e.n,dI s e)],s.n ++ [(e.n,bM s.r e)],if dI s e = Str.ofString "right" then s.r ++ [⟨e,(bM s.r e).getD []⟩] else s.r⟩
def aZ (es:List En):Rs:=es.foldl bU ⟨[],[],[]⟩
theorem gp (es:List En) (e:En):aZ (es ++ [e]) = bU (aZ es) e:=by unfold aZ; rw [List.foldl_append]; rfl
def eI (R:List Rt) (x:Rt):En:=match x.e.b with | none=>x.e | some b=>((ao R b).map (·.e)).getD x.e
def cN (r:Str):Nat:=if r = Str.ofString "genus" then 1 else if r = Str.ofString "species" then 2 else 3
structure kL (s:Rs):Prop where
 nd:(s.o.map (·.1)).Nodup
 nk:s.n.map (·.1) = s.o.map (·.1)
 sub:∀ x ∈ s.r,x.e.n ∈ s.o.map (·.1)
 rn:(s.r.map (·.e.n)).Nodup
 nm:∀ x ∈ s.r,(x.e.n,some x.nm) ∈ s.n
 dp:∀ x ∈ s.r,x.nm.length = cN x.e.r
 bs:∀ x ∈ s.r,∀ b,x.e.b = some b → ∃ y,ao s.r b = some y ∧ y.e.b = none ∧ y.e.r = x.e.r ∧ y.e.w = x.e.w
 ok:∀ x ∈ s.r,ij x.e
theorem kM {xs ys:List Int}:∀ (nd:xs.Nodup) (h:∀ x ∈ xs,x ∈ ys),xs.length ≤ ys.length:=by
 induction xs generalizing ys with
 | nil=>intro _ _; exact Nat.zero_le _
 | cons x r ih =>
  intro nd h
  rw [List.nodup_cons] at nd
  have h1:=ih (ys:=ys.erase x) nd.2 fun y hy=>(List.mem_erase_of_ne (fun z=>nd.1 (by rw [← z]; exact hy))).mpr (h y (List.mem_cons_of_mem _ hy))
  have hx:=h x (List.mem_cons_self ..)
  rw [List.length_erase_of_mem hx] at h1
  have:0 < ys.length:=List.length_pos_of_mem hx
  rw [List.length_cons]
  omega
theorem fX {R:List Rt} {n:Int} {x:Rt} (h:ao R n = some x):x ∈ R ∧ x.e.n = n:=⟨List.mem_of_find?_eq_some h,of_decide_eq_true (List.find?_some (p:=fun x:Rt=>decide (x.e.n = n)) h)⟩
theorem fY {R Q:List Rt} {n:Int} {x:Rt} (h:ao R n = some x):ao (R ++ Q) n = some x:=by
 unfold ao at h ⊢
 rw [List.find?_append,h]
 rfl
theorem bR {R:List Rt} (nd:(R.map (·.e.n)).Nodup) {x:Rt} (hx:x ∈ R):ao R x.e.n = some x:=by
 induction R with
 | nil=>cases hx
 | cons y r ih =>
  rw [List.map_cons,List.nodup_cons] at nd
  unfold ao
  rcases List.mem_cons.mp hx with e | e
  ·subst e
   rw [List.find?_cons_of_pos (p:=fun y:Rt=>decide (y.e.n = x.e.n)) (decide_eq_true rfl)]
  ·have ne:y.e.n ≠ x.e.n:=fun z=>nd.1 (by rw [z]; exact List.mem_map_of_mem e)
   rw [List.find?_cons_of_neg (p:=fun y:Rt=>decide (y.e.n = x.e.n)) (by rw [decide_eq_false ne]; decide)]
   exact ih nd.2 e
theorem fV {e:En} (h:ij e):e.r = Str.ofString "genus" ∨ e.r = Str.ofString "species" ∨ e.r = Str.ofString "form" := by
 unfold ij why at h
 by_cases h1:eP (.int e.n) (.int e.d) (.str e.r) (.str e.w) = 0
 ·unfold eP at h1
  by_cases a1:inR 1000000000 (V.int e.n) = false
  ·rw [if_pos a1] at h1; cases h1
  ·rw [if_neg a1] at h1
   by_cases a2:inR 1000000 (V.int e.d) = false
   ·rw [if_pos a2] at h1; cases h1
   ·rw [if_neg a2] at h1
    by_cases a3:cw (V.str e.r) = false
    ·rw [if_pos a3] at h1; cases h1
    ·have a4:cw (V.str e.r) = true:=by cases q:cw (V.str e.r) with | true=>rfl | false=>exact absurd q a3
     have a5:zv (.str e.r) vF = true:=a4
     have a6:(f9 (.str (Str.ofString "genus")) (.str e.r) || (f9 (.str (Str.ofString "species")) (.str e.r) || (f9 (.str (Str.ofString "form")) (.str e.r) || false))) = true:=a5
     simp [f9] at a6
     rcases a6 with q | q | q
     ·exact .inl q.symm
     ·exact .inr (.inl q.symm)
     ·exact .inr (.inr q.symm)
 ·rw [if_pos h1] at h
  exact absurd h h1
theorem xl {e:En} (h:ij e) (hr:e.r ≠ Str.ofString "genus"):∃ u,e.u = some u:=by
 unfold ij why at h
 by_cases h1:eP (.int e.n) (.int e.d) (.str e.r) (.str e.w) ≠ 0
 ·rw [if_pos h1] at h; exact absurd h h1
 ·rw [if_neg h1] at h
  by_cases h2:bO (.str e.r) (aj e.u) = false
  ·rw [if_pos h2] at h; cases h
  ·rw [rF hr] at h2
   cases hu:e.u with
   | none=>rw [hu] at h2; exact absurd rfl h2
   | some u=>exact ⟨u,rfl⟩
theorem uL {e:En} (h:ij e):isWord (.str e.w) = true:=by
 unfold ij why at h
 by_cases h1:eP (.int e.n) (.int e.d) (.str e.r) (.str e.w) = 0
 ·unfold eP at h1
  cases q:isWord (V.str e.w) with
  | true=>rfl
  | false =>
   exfalso
   by_cases a1:inR 1000000000 (V.int e.n) = false
   ·rw [if_pos a1] at h1; cases h1
   ·rw [if_neg a1] at h1
    by_cases a2:inR 1000000 (V.int e.d) = false
    ·rw [if_pos a2] at h1; cases h1
    ·rw [if_neg a2] at h1
     by_cases a3:cw (V.str e.r) = false
     ·rw [if_pos a3] at h1; cases h1
     ·rw [if_neg a3,if_pos q] at h1; cases h1
 ·rw [if_pos h1] at h
  exact absurd h h1
theorem lP {R:List Rt} {e:En} {nm:Option (List Str)} (h:gw R e nm = Str.ofString "right"):∃ z,nm = some z ∧ R.any (fun x=>decide (x.nm = z)) = false ∧ ∀ b,e.b = some b → ∃ y,ao R b = some y ∧ y.e.b = none ∧ y.e.r = e.r ∧ y.e.w = e.w:=by
 have al:∀ z,eR R z = Str.ofString "right" → R.any (fun x=>decide (x.nm = z)) = false:=fun z hz=>by
  unfold eR at hz
  cases q:R.any (fun x=>decide (x.nm = z)) with
  | false=>rfl
  | true=>rw [q,if_pos rfl] at hz; exact absurd hz (by decide +kernel)
 unfold gw at h
 by_cases h1:e.b = none ∧ e.k = false
 ·rw [if_pos h1] at h; exact absurd h (by decide +kernel)
 ·rw [if_neg h1] at h
  cases nm with
  | none =>
   have h:Str.ofString "unplaced" = Str.ofString "right" := h
   exact absurd h (by decide +kernel)
  | some z =>
   cases hb:e.b with
   | none =>
    rw [hb] at h
    exact ⟨z,rfl,al z h,fun b q=>nomatch q⟩
   | some b =>
    rw [hb] at h
    have h:fL R e b z = Str.ofString "right" := h
    unfold fL at h
    cases hf:ao R b with
    | none =>
     rw [hf] at h
     have h:Str.ofString "baseless" = Str.ofString "right" := h
     exact absurd h (by decide +kernel)
    | some y =>
     rw [hf] at h
     have h:(if y.e.r ≠ e.r ∨ y.e.b ≠ none then Str.ofString "baseless" else if y.e.w ≠ e.w then Str.ofString "reworded" else eR R z) = Str.ofString "right" := h
     by_cases h2:y.e.r ≠ e.r ∨ y.e.b ≠ none
     ·rw [if_pos h2] at h; exact absurd h (by decide +kernel)
     ·rw [if_neg h2] at h
      by_cases h3:y.e.w ≠ e.w
      ·rw [if_pos h3] at h; exact absurd h (by decide +kernel)
      ·rw [if_neg h3] at h
       refine ⟨z,rfl,al z h,fun b' q=>?_⟩
       cases Option.some.inj q
       refine ⟨y,hf,?_,?_,?_⟩
       ·exact Decidable.of_not_not fun q=>h2 (.inr q)
       ·exact Decidable.of_not_not fun q=>h2 (.inl q)
       ·exact Decidable.of_not_not h3
theorem mT {R:List Rt} {e:En} {z:List Str} (h:bM R e = some z) (ok:ij e) (dp:∀ x ∈ R,x.nm.length = cN x.e.r):z.length = cN e.r:=by
 unfold bM at h
 by_cases h1:e.r = Str.ofString "genus"
 ·rw [if_pos h1] at h
  cases h
  unfold cN
  rw [if_pos h1]
  rfl
 ·rw [if_neg h1] at h
  cases hf:ao R (e.u.getD 0) with
  | none=>rw [hf] at h; cases h
  | some x =>
   rw [hf] at h
   have h:(if x.e.r = cL e.r then some (x.nm ++ [e.w]) else none) = some z:=h
   by_cases h2:x.e.r = cL e.r
   ·rw [if_pos h2] at h
    cases h
    have hl:=dp x (fX hf).1
    rw [List.length_append,hl,h2]
    rcases fV ok with q | q | q
    ·exact absurd q h1
    ·rw [q]
     show cN (cL (Str.ofString "species")) + 1 = _
     decide +kernel
    ·rw [q]
     show cN (cL (Str.ofString "form")) + 1 = _
     decide +kernel
   ·rw [if_neg h2] at h; cases h
theorem kL.nil:kL ⟨[],[],[]⟩:=⟨List.nodup_nil,rfl,fun _ h=>(nomatch h),List.nodup_nil,fun _ h=>(nomatch h),fun _ h=>(nomatch h),fun _ h=>(nomatch h),fun _ h=>(nomatch h)⟩
theorem kL.step {s:Rs} {e:En} (h:kL s) (ok:ij e) (fr:e.n ∉ s.o.map (·.1)):kL (bU s e):=by
 have nd:((bU s e).o.map (·.1)).Nodup:=by
  show ((s.o ++ [(e.n,dI s e)]).map (·.1)).Nodup
  rw [List.map_append,List.nodup_append]
  exact ⟨h.nd,List.nodup_cons.mpr ⟨List.not_mem_nil,List.nodup_nil⟩,fun x hx y hy z=>fr (by rw [z,(List.mem_singleton.mp hy:y = e.n)] at hx; exact hx)⟩
 have nk:(bU s e).n.map (·.1) = (bU s e).o.map (·.1):=by
  show (s.n ++ [(e.n,bM s.r e)]).map (·.1) = (s.o ++ [(e.n,dI s e)]).map (·.1)
  rw [List.map_append,List.map_append,h.nk]
  rfl
 have up:∀ x ∈ s.r,x.e.n ∈ (bU s e).o.map (·.1):=fun x hx=>by
  show _ ∈ (s.o ++ [(e.n,dI s e)]).map (·.1)
  rw [List.map_append]
  exact List.mem_append_left _ (h.sub x hx)
 by_cases hr:dI s e = Str.ofString "right"
 ·obtain ⟨z,hz,_,hb⟩:=lP hr
  have er:(bU s e).r = s.r ++ [⟨e,z⟩]:=by
   show (if dI s e = Str.ofString "right" then s.r ++ [⟨e,(bM s.r e).getD []⟩] else s.r) = _
   rw [if_pos hr,hz]
   rfl
  have frr:e.n ∉ s.r.map (·.e.n):=fun q=>by
   obtain ⟨x,hx,ex⟩:=List.mem_map.mp q
   exact fr (ex ▸ h.sub x hx)
  refine ⟨nd,nk,?_,?_,?_,?_,?_,?_⟩ <;> rw [er]
  ·intro x hx
   rcases List.mem_append.mp hx with q | q
   ·exact up x q
   ·rw [List.mem_singleton.mp q]
    show _ ∈ (s.o ++ [(e.n,dI s e)]).map (·.1)
    rw [List.map_append]
    exact List.mem_append_right _ (List.mem_singleton.mpr rfl)
  ·rw [List.map_append,List.nodup_append]
   exact ⟨h.rn,List.nodup_cons.mpr ⟨List.not_mem_nil,List.nodup_nil⟩,fun x hx y hy q=>frr (by rw [q,(List.mem_singleton.mp hy:y = e.n)] at hx; exact hx)⟩
  ·intro x hx
   show _ ∈ s.n ++ [(e.n,bM s.r e)]
   rcases List.mem_append.mp hx with q | q
   ·exact List.mem_append_left _ (h.nm x q)
   ·rw [List.mem_singleton.mp q,hz]
    exact List.mem_append_right _ (List.mem_singleton.mpr rfl)
  ·intro x hx
   rcases List.mem_append.mp hx with q | q
   ·exact h.dp x q
   ·rw [List.mem_singleton.mp q]
    exact mT hz ok h.dp
  ·intro x hx b hxb
   rcases List.mem_append.mp hx with q | q
   ·obtain ⟨y,hy,r⟩:=h.bs x q b hxb
    exact ⟨y,fY hy,r⟩
   ·rw [List.mem_singleton.mp q] at hxb ⊢
    obtain ⟨y,hy,r⟩:=hb b hxb
    exact ⟨y,fY hy,r⟩
  ·intro x hx
   rcases List.mem_append.mp hx with q | q
   ·exact h.ok x q
   ·rw [List.mem_singleton.mp q]; exact ok
 ·have er:(bU s e).r = s.r:=by
   show (if dI s e = Str.ofString "right" then s.r ++ [⟨e,(bM s.r e).getD []⟩] else s.r) = _
   rw [if_neg hr]
  refine ⟨nd,nk,?_,?_,?_,?_,?_,?_⟩ <;> rw [er]
  ·exact up
  ·exact h.rn
  ·intro x hx
   show _ ∈ s.n ++ [(e.n,bM s.r e)]
   exact List.mem_append_left _ (h.nm x hx)
  ·exact h.dp
  ·exact h.bs
  ·exact h.ok
theorem dD:∀ (es:List En),(aZ es).o.map (·.1) = es.map (·.n):=by
 intro es
 unfold aZ
 have:∀ (es:List En) (s:Rs),(es.foldl bU s).o.map (·.1) = s.o.map (·.1) ++ es.map (·.n):=by
  intro es
  induction es with
  | nil=>intro s; rw [List.foldl_nil,List.map_nil,List.append_nil]
  | cons e r ih =>
   intro s
   rw [List.foldl_cons,ih]
   show (s.o ++ [(e.n,dI s e)]).map (·.1) ++ _ = _
   rw [List.map_append,List.append_assoc]
   rfl
 exact this es ⟨[],[],[]⟩
theorem nU {es:List En} (ok:∀ e ∈ es,ij e) (nd:(es.map (·.n)).Nodup):∀ i,i ≤ es.length → kL (aZ (es.take i)):=by
 intro i
 induction i with
 | zero=>intro _; exact kL.nil
 | succ i ih =>
  intro hi
  have e1:es[i]? = some es[i]:=List.getElem?_eq_getElem (by omega)
  rw [take_one e1,gp]
  refine (ih (by omega)).step (ok _ (List.getElem_mem _)) fun z=>?_
  rw [dD] at z
  have:=nd
  have e2:es.map (·.n) = (es.take i).map (·.n) ++ es[i].n :: (es.drop (i + 1)).map (·.n):=by
   rw [← List.map_cons,List.getElem_cons_drop,← List.map_append,List.take_append_drop]
  rw [e2,List.nodup_append] at this
  exact this.2.2 _ z _ (List.mem_cons_self ..) rfl
theorem i3:∀ {es:List En} {seen:List Int} {last:Option En},bL seen last (es.map some) = true → (es.map (·.n)).Nodup ∧ ∀ e ∈ es,e.n ∉ seen
 | [],_,_,_=>⟨List.nodup_nil,fun _ h=>nomatch h⟩
 | e :: r,seen,last,h=>by
  have h:(!seen.contains e.n && (dj last e && bL (seen ++ [e.n]) (some e) (r.map some))) = true:=h
  rw [Bool.and_eq_true,Bool.and_eq_true] at h
  obtain ⟨h1,_,h2⟩:=h
  obtain ⟨i1,i2⟩:=i3 h2
  have n1:e.n ∉ seen:=fun z=>by
   rw [List.contains_iff_mem.mpr z] at h1
   cases h1
  refine ⟨List.nodup_cons.mpr ⟨fun z=>?_,i1⟩,fun x hx=>?_⟩
  ·obtain ⟨x,hx,ex⟩:=List.mem_map.mp z
   exact i2 x hx (ex ▸ List.mem_append_right _ (List.mem_singleton.mpr rfl))
  ·rcases List.mem_cons.mp hx with q | q
   ·rw [q]; exact n1
   ·exact fun z=>i2 x q (List.mem_append_left _ z)
structure RA where
 a:Addr
 dx:Addr
 o1:Addr
 o2:Addr
 o3:Addr
 o4:Addr
def kN (H:Hp) (v:V) (nm:Option (List Str)):Prop:=match nm with | none=>v = .bI | some z=>∃ t,v = .ref t ∧ H t = some (.tup (z.map V.str))
theorem kN.same {H H':Hp} {v:V} {nm:Option (List Str)} (h:kN H v nm) (s:∀ t xs,H t = some (.tup xs) → H' t = some (.tup xs)):kN H' v nm:=by
 cases nm with
 | none=>exact h
 | some z=>obtain ⟨t,e,h⟩:=h; exact ⟨t,e,s _ _ h⟩
theorem cc.keep {H H':Hp} {C:Addr} {v:V} {e:En} (h:cc H C v e) (s:∀ t dx fs,H t = some (.ins C dx fs) → H' t = some (.ins C dx fs)):cc H' C v e:=let ⟨a,dx,e1,h1⟩:=h; ⟨a,dx,e1,s _ _ _ h1⟩
def BB (A:RA):List (Str × V):=[("outs",.ref A.o1),("names",.ref A.o2),("rights",.ref A.o3),("holders",.ref A.o4)]
def mn (H:Hp) (CE:Addr) (x:Rt) (q:Key × V):Prop:=q.1 = Sum.inl x.e.n ∧ cc H CE q.2 x.e
def xj (H:Hp) (CE:Addr) (x:Rt) (q:List Key × V):Prop:=q.1 = x.nm.map Sum.inr ∧ cc H CE q.2 x.e
def rM (H:Hp) (x:Int × Option (List Str)) (q:Key × V):Prop:=q.1 = Sum.inl x.1 ∧ kN H q.2 x.2
def gG (s:Rs):List (Key × V):=s.o.map fun p=>(Sum.inl p.1,.str p.2)
structure eM (H:Hp) (CR CE:Addr) (A:RA) (s:Rs):Prop where
 at_:H A.a = some (.ins CR A.dx (BB A))
 outs:H A.o1 = some (.dK (gG s))
 names:∃ kn,H A.o2 = some (.dK kn) ∧ Paired (rM H) s.n kn
 rights:∃ kr,H A.o3 = some (.dK kr) ∧ Paired (mn H CE) s.r kr
 holders:∃ kh,H A.o4 = some (.dT kh) ∧ Paired (xj H CE) s.r kh
 d12:A.o1 ≠ A.o2
 d13:A.o1 ≠ A.o3
 d23:A.o2 ≠ A.o3
def vv (A:RA) (H H':Hp):Prop:=∀ b u,b ≠ A.o1 → b ≠ A.o2 → b ≠ A.o3 → b ≠ A.o4 → H b = some u → H' b = some u
theorem eM.same {H H':Hp} {CR CE:Addr} {A:RA} {s:Rs} (h:eM H CR CE A s) (sm:aG H H'):eM H' CR CE A s:=by
 obtain ⟨a,b,⟨kn,n1,n2⟩,⟨kr,r1,r2⟩,⟨kh,h1,h2⟩,d1,d2,d3⟩:=h
 exact ⟨sm _ _ a,sm _ _ b,⟨kn,sm _ _ n1,Paired.dn n2 fun x q z=>⟨z.1,z.2.same fun t xs e=>sm _ _ e⟩⟩,⟨kr,sm _ _ r1,Paired.dn r2 fun x q z=>⟨z.1,z.2.same sm⟩⟩,⟨kh,sm _ _ h1,Paired.dn h2 fun x q z=>⟨z.1,z.2.same sm⟩⟩,d1,d2,d3⟩
theorem vv.refl (A:RA) (H:Hp):vv A H H:=fun b u _ _ _ _ h=>h
theorem vv.trans {A:RA} {H H1 H2:Hp} (a:vv A H H1) (b:vv A H1 H2):vv A H H2:=fun c u n1 n2 n3 n4 h=>b c u n1 n2 n3 n4 (a c u n1 n2 n3 n4 h)
theorem aG.B2 {A:RA} {H H':Hp} (s:aG H H'):vv A H H':=fun b u _ _ _ _ h=>s b u h
theorem fS {H:Hp} {CE:Addr} {R:List Rt} {kr:List (Key × V)} (h:Paired (mn H CE) R kr) (n:Int):(ao R n = none ∧ bF kr (Sum.inl n) = none) ∨ ∃ x v,ao R n = some x ∧ bF kr (Sum.inl n) = some v ∧ cc H CE v x.e:=by
 induction h with
 | nil=>exact .inl ⟨rfl,rfl⟩
 | @cons x q R kr hq t ih =>
  obtain ⟨h1,h2⟩:=hq
  by_cases e:x.e.n = n
  ·refine .inr ⟨x,q.2,?_,?_,h2⟩
   ·unfold ao; rw [List.find?_cons_of_pos (p:=fun y:Rt=>decide (y.e.n = n)) (decide_eq_true e)]
   ·rw [bN (by rw [h1,e])]
  ·have e1:ao (x :: R) n = ao R n:=by unfold ao; rw [List.find?_cons_of_neg (p:=fun y:Rt=>decide (y.e.n = n)) (by rw [decide_eq_false e]; decide)]
   rw [e1,bA (by rw [h1]; exact fun z=>e (Sum.inl.inj z))]
   exact ih
theorem uW {H:Hp} {ns:List (Int × Option (List Str))} {kn:List (Key × V)} (h:Paired (rM H) ns kn) (nd:(ns.map (·.1)).Nodup) {n:Int} {nm:Option (List Str)} (hm:(n,nm) ∈ ns):∃ v,bF kn (Sum.inl n) = some v ∧ kN H v nm:=by
 induction h with
 | nil=>cases hm
 | @cons x q ns kn hq t ih =>
  obtain ⟨h1,h2⟩:=hq
  rw [List.map_cons,List.nodup_cons] at nd
  rcases List.mem_cons.mp hm with e | e
  ·subst e
   exact ⟨q.2,bN (by rw [h1]),h2⟩
  ·have ne:x.1 ≠ n:=fun z=>nd.1 (by rw [z]; exact List.mem_map_of_mem (f:=fun p:Int × Option (List Str)=>p.1) e)
   rw [bA (by rw [h1]; exact fun z=>ne (Sum.inl.inj z))]
   exact ih nd.2 e
theorem gQ:∀ {a b:List Str},a.map (Sum.inr:Str → Key) = b.map Sum.inr → a = b
 | [],[],_=>rfl
 | [],_ :: _,h=>by cases h
 | _ :: _,[],h=>by cases h
 | x :: a,y :: b,h=>by
  rw [List.map_cons,List.map_cons] at h
  injection h with h1 h2
  rw [Sum.inr.inj h1,gQ h2]
theorem kJ {H:Hp} {CE:Addr} {R:List Rt} {kh:List (List Key × V)} (h:Paired (xj H CE) R kh) (z:List Str):(bF kh (z.map Sum.inr)).isSome = R.any (fun x=>decide (x.nm = z)):=by
 induction h with
 | nil=>rfl
 | @cons x q R kh hq t ih =>
  obtain ⟨h1,h2⟩:=hq
  rw [List.any_cons]
  by_cases e:x.nm = z
  ·rw [bN (by rw [h1,e]),decide_eq_true e]; rfl
  ·rw [bA (by rw [h1]; exact fun q=>e (gQ q)),decide_eq_false e,Bool.false_or]
   exact ih
theorem tY {s:Rs} {n:Int} (h:n ∉ s.o.map (·.1)):bF (gG s) (Sum.inl n) = none:=by
 unfold gG
 generalize s.o = l at h
 induction l with
 | nil=>rfl
 | cons p r ih =>
  rw [List.map_cons] at h ⊢
  rw [bA (fun z=>h (by rw [← Sum.inl.inj z]; exact List.mem_cons_self ..))]
  exact ih fun z=>h (List.mem_cons_of_mem _ z)
theorem df {κ:Type} [DecidableEq κ] {kvs:List (κ × V)} {k:κ} {v:V} (h:bF kvs k = none):putK kvs k v = kvs ++ [(k,v)]:=by
 unfold putK
 rw [if_neg (by rw [eT,h]; decide)]
theorem qo {H:Hp} {ns:List (Int × Option (List Str))} {kn:List (Key × V)} (h:Paired (rM H) ns kn) {n:Int} (hm:n ∉ ns.map (·.1)):bF kn (Sum.inl n) = none:=by
 induction h with
 | nil=>rfl
 | @cons x q ns kn hq t ih =>
  rw [List.map_cons] at hm
  rw [bA (by rw [hq.1]; exact fun z=>hm (by rw [← Sum.inl.inj z]; exact List.mem_cons_self ..))]
  exact ih fun z=>hm (List.mem_cons_of_mem _ z)
theorem kf (z:List Str):(z.map (Sum.inr:Str → Key)).map kV = z.map V.str:=by rw [List.map_map]; rfl
def yk (K:W.Frag):Sp:=fun vs H Q _=>∃ z,vs = [.str z] ∧ (z = Str.ofString "species" ∨ z = Str.ofString "form") ∧ Q (.str (cL z)) H
def tL (CR CE:Addr):Sp:=fun vs H Q _=>∃ a dx,vs = [.ref a] ∧ H a = some (.ins CR dx []) ∧ ∀ A H',A.a = a → A.dx = dx → (∀ b u,b ≠ a → H b = some u → H' b = some u) → eM H' CR CE A ⟨[],[],[]⟩ → H A.o1 = none → H A.o2 = none → H A.o3 = none → H A.o4 = none → Q .bI H'
def uB (CR CE:Addr):Sp:=fun vs H Q _=>∃ A s v e,vs = [.ref A.a,v] ∧ eM H CR CE A s ∧ kL s ∧ cc H CE v e ∧ ij e ∧ ∀ w H',aG H H' → kN H' w (bM s.r e) → Q w H'
def wz (CR CE:Addr):Sp:=fun vs H Q _=>∃ A s v e w nm,vs = [.ref A.a,v,w] ∧ eM H CR CE A s ∧ cc H CE v e ∧ ij e ∧ kN H w nm ∧ Q (.str (gw s.r e nm)) H
def yJ (CR CE:Addr):Sp:=fun vs H Q _=>∃ A s v e,vs = [.ref A.a,v] ∧ eM H CR CE A s ∧ kL s ∧ cc H CE v e ∧ ij e ∧ e.n ∉ s.o.map (·.1) ∧ s.o.length ≤ 1000 ∧ ∀ H',vv A H H' → eM H' CR CE A (bU s e) → Q (.str (dI s e)) H'
def pJ (CR CE:Addr):Sp:=fun vs H Q _=>∃ l ws es,vs = [.ref l] ∧ H l = some (.lst ws) ∧ cg H CE ws es ∧ (∀ e ∈ es,ij e) ∧ (es.map (·.n)).Nodup ∧ ws.length ≤ 1000 ∧ ∀ A H',aG H H' → eM H' CR CE A (aZ es) → H A.a = none → H A.o1 = none → H A.o2 = none → H A.o3 = none → H A.o4 = none → Q (.ref A.a) H'
def gE (H:Hp) (CE:Addr) (x:V) (es:List En):Prop:=∃ l ws,x = .ref l ∧ H l = some (.lst ws) ∧ cg H CE ws es ∧ (∀ e ∈ es,ij e) ∧ ws.length ≤ 1000 ∧ bL [] none (es.map some) = true
theorem gE.same {H H':Hp} {CE:Addr} {x:V} {es:List En} (h:gE H CE x es) (s:aG H H'):gE H' CE x es:=let ⟨l,ws,e,h1,h2,r⟩:=h; ⟨l,ws,e,s _ _ h1,h2.same s,r⟩
def gM:Option En → List En → Option En
 | o,[]=>o
 | _,x :: r=>gM (some x) r
theorem ma:∀ {es:List En} {o:Option En} {x:En},gM o es = some x → o = some x ∨ x ∈ es
 | [],_,_,h=>.inl h
 | y :: r,_,_,h=>by
  rcases ma (es:=r) h with q | q
  ·cases q; exact .inr (List.mem_cons_self ..)
  ·exact .inr (List.mem_cons_of_mem _ q)
theorem ku:∀ (es:List En) (seen:List Int) (last:Option En) (e:En),bL seen last (es.map some) = true → e.n ∉ seen → (∀ x ∈ es,x.n ≠ e.n) → dj (gM last es) e = true → bL seen last ((es ++ [e]).map some) = true
 | [],seen,last,e,_,h1,_,h3=>by
  show (!seen.contains e.n && (dj last e && true)) = true
  have h3:dj last e = true:=h3
  have h1':seen.contains e.n = false:=by
   cases q:seen.contains e.n with
   | false=>rfl
   | true=>exact absurd (List.contains_iff_mem.mp q) h1
  rw [h1',h3]
  rfl
 | x :: r,seen,last,e,h,h1,h2,h3=>by
  have h:(!seen.contains x.n && (dj last x && bL (seen ++ [x.n]) (some x) (r.map some))) = true:=h
  show (!seen.contains x.n && (dj last x && bL (seen ++ [x.n]) (some x) ((r ++ [e]).map some))) = true
  rw [Bool.and_eq_true,Bool.and_eq_true] at h ⊢
  refine ⟨h.1,h.2.1,ku r _ _ e h.2.2 (fun z=>?_) (fun y hy=>h2 y (List.mem_cons_of_mem _ hy)) h3⟩
  rcases List.mem_append.mp z with q | q
  ·exact h1 q
  ·exact h2 x (List.mem_cons_self ..) (List.mem_singleton.mp q).symm
theorem tq {x e:En} (hd:x.d ≤ e.d) (hn:x.n < e.n):iq x e = true:=by
 show (if x.d = e.d then (if x.n = e.n then false else decide (x.n < e.n)) else decide (x.d < e.d)) = true
 by_cases h:x.d = e.d
 ·rw [if_pos h,if_neg (by omega),decide_eq_true hn]
 ·rw [if_neg h,decide_eq_true (by omega)]
structure vn (es:List En) (n d:Int):Prop where
 bk:bL [] none (es.map some) = true
 le:∀ e ∈ es,e.n ≤ n ∧ e.d ≤ d
theorem vn.nil (n d:Int):vn [] n d:=⟨rfl,fun _ h=>nomatch h⟩
theorem vn.add {es:List En} {n d:Int} {e:En} (h:vn es n d) (hn:n < e.n) (hd:d ≤ e.d):vn (es ++ [e]) e.n e.d:=by
 refine ⟨ku es [] none e h.bk List.not_mem_nil (fun x hx z=>by have:=(h.le x hx).1; omega) ?_,fun x hx=>?_⟩
 ·cases q:gM none es with
  | none=>rfl
  | some x =>
   rcases ma q with z | z
   ·cases z
   ·have:=h.le x z
    exact tq (by omega) (by omega)
 ·rcases List.mem_append.mp hx with q | q
  ·have:=h.le x q
   exact ⟨by omega,by omega⟩
  ·rw [List.mem_singleton.mp q]; exact ⟨Int.le_refl _,Int.le_refl _⟩
theorem yi {e:En} (h1:inR 1000000000 (.int e.n) = true) (h2:inR 1000000 (.int e.d) = true) (h3:cw (.str e.r) = true) (h4:isWord (.str e.w) = true) (h5:bO (.str e.r) (aj e.u) = true) (h6:bT (.str e.r) (aj e.s) (aj e.b) = true):ij e:=by
 have hw:eP (.int e.n) (.int e.d) (.str e.r) (.str e.w) = 0:=by
  unfold eP
  rw [if_neg (by rw [h1]; decide),if_neg (by rw [h2]; decide),if_neg (by rw [h3]; decide),if_neg (by rw [h4]; decide)]
 unfold ij why
 rw [hw,if_neg (fun z=>z rfl),if_neg (by rw [h5]; decide),if_neg (by rw [h6]; decide)]
theorem sL {z:Str} (h:isWord (.str z) = true):z.length ≤ 12 ∧ 1 ≤ z.length ∧ z.cps.toList.all dH = true:=by
 rw [eS,Bool.and_eq_true,Bool.and_eq_true] at h
 have h1:=of_decide_eq_true h.1.1
 have h2:=of_decide_eq_true h.1.2
 exact ⟨by omega,by omega,h.2⟩
theorem tP {z:Str} (h1:1 ≤ z.length) (h2:z.length ≤ 12) (h3:z.cps.toList.all dH = true):isWord (.str z) = true:=by
 rw [eS,h3,decide_eq_true (by omega),decide_eq_true (by omega)]
 rfl
def wG (H:Hp) (v:V) (e:En):Prop:=∃ a s,v = .ref a ∧ e.s = some s ∧ H a = some (.lst [.int e.n,.int e.d,.str e.w,.int s,.bl e.k])
theorem wG.same {H H':Hp} {v:V} {e:En} (h:wG H v e) (s:aG H H'):wG H' v e:=let ⟨a,x,e1,e2,h1⟩:=h; ⟨a,x,e1,e2,s _ _ h1⟩
def u5 (H:Hp) (ws:List V) (es:List En):Prop:=ws.length = es.length ∧ ∀ (j:Nat) v e,ws[j]? = some v → es[j]? = some e → wG H v e
theorem u5.same {H H':Hp} {ws:List V} {es:List En} (h:u5 H ws es) (s:aG H H'):u5 H' ws es:=⟨h.1,fun j v e a b=>(h.2 j v e a b).same s⟩
theorem pA {α:Type} {P:V → α → Prop} {ws:List V} {es:List α} {w:V} {e:α} (h:ws.length = es.length ∧ ∀ (j:Nat) v e,ws[j]? = some v → es[j]? = some e → P v e) (hw:P w e):(ws ++ [w]).length = (es ++ [e]).length ∧ ∀ (j:Nat) v x,(ws ++ [w])[j]? = some v → (es ++ [e])[j]? = some x → P v x:=by
 refine ⟨by rw [List.length_append,List.length_append,h.1]; rfl,fun j v x hv hx=>?_⟩
 by_cases hj:j < ws.length
 ·rw [List.getElem?_append_left hj] at hv
  rw [List.getElem?_append_left (by rw [← h.1]; exact hj)] at hx
  exact h.2 j v x hv hx
 ·rw [List.getElem?_append_right (by omega)] at hv
  rw [List.getElem?_append_right (by rw [← h.1]; omega)] at hx
  obtain ⟨h1,e1⟩:=List.getElem?_eq_some_iff.mp hv
  have j0:j - ws.length = 0:=by simpa using h1
  rw [j0] at hv
  rw [← h.1,j0] at hx
  cases Option.some.inj hv
  cases Option.some.inj hx
  exact hw
def xi (K:W.Frag) (H:Hp) (ka kb:List (Key × V)):Prop:=ka.length = kb.length ∧ (∀ p ∈ ka,∃ y,bF kb p.1 = some y ∧ je K H 2 p.2 y true) ∧ ∀ p ∈ ka,∃ n:Int,p.1 = Sum.inl n
theorem gh {kvs:List (Key × V)} (nd:(kvs.map (·.1)).Nodup) {p:Key × V} (h:p ∈ kvs):bF kvs p.1 = some p.2:=by
 induction kvs with
 | nil=>cases h
 | cons q r ih =>
  rw [List.map_cons,List.nodup_cons] at nd
  rcases List.mem_cons.mp h with e | e
  ·subst e; exact bN rfl
  ·rw [bA (fun z=>nd.1 (by rw [z]; exact List.mem_map_of_mem (f:=fun p:Key × V=>p.1) e))]
   exact ih nd.2 e
theorem xi.refl {K:W.Frag} {H:Hp} {ka:List (Key × V)} (nd:(ka.map (·.1)).Nodup) (hf:∀ p ∈ ka,b5 p.2 = true) (hn:∀ p ∈ ka,∃ n:Int,p.1 = Sum.inl n):xi K H ka ka :=
 ⟨rfl,fun p hp=>⟨p.2,gh nd hp,.inl (.inl ⟨hf p hp,hf p hp,(fQ (hf p hp)).symm⟩)⟩,hn⟩
theorem zN {α:Type} {xs:List α} {i:Int} (h0:0 ≤ i) (h1:i < xs.length):∃ j v,j < xs.length ∧ xs[j]? = some v ∧ eW xs i = some v ∧ vw xs.length i = some j:=by
 have hj:i.toNat < xs.length:=by omega
 refine ⟨i.toNat,xs[i.toNat],hj,List.getElem?_eq_getElem hj,tU h0 (List.getElem?_eq_getElem hj),?_⟩
 unfold vw
 rw [if_pos h0,if_pos h1]
def BC (e:En):List V:=[.int e.n,.int e.d,.str e.r,.str e.w,aj e.u,.bl e.k]
def wM (H:Hp) (v:V) (e:En):Prop:=∃ a,v = .ref a ∧ H a = some (.lst (BC e))
theorem wM.same {H H':Hp} {v:V} {e:En} (h:wM H v e) (s:aG H H'):wM H' v e:=let ⟨a,e1,h1⟩:=h; ⟨a,e1,s _ _ h1⟩
def vC (H:Hp) (ws:List V) (es:List En):Prop:=ws.length = es.length ∧ ∀ (j:Nat) v e,ws[j]? = some v → es[j]? = some e → wM H v e
theorem vC.same {H H':Hp} {ws:List V} {es:List En} (h:vC H ws es) (s:aG H H'):vC H' ws es:=⟨h.1,fun j v e a b=>(h.2 j v e a b).same s⟩
theorem bD {H G:Hp} {l:Addr} {o:HO} (h:H l = none) (s:aG H G):aG H (upd G l o):=fun b u hb=>by
 rw [aI (aL hb h)]
 exact s _ _ hb
def cY (e:En):List V:=[.int e.n,.int e.d,.str e.r,.str e.w,aj e.u,aj e.s,aj e.b,.bl e.k]
def qM (H:Hp) (v:V) (e:En):Prop:=∃ a,v = .ref a ∧ H a = some (.lst (cY e))
theorem qM.same {H H':Hp} {v:V} {e:En} (h:qM H v e) (s:aG H H'):qM H' v e:=let ⟨a,e1,h1⟩:=h; ⟨a,e1,s _ _ h1⟩
def pK (H:Hp) (ws:List V) (es:List En):Prop:=ws.length = es.length ∧ ∀ (j:Nat) v e,ws[j]? = some v → es[j]? = some e → qM H v e
theorem pK.same {H H':Hp} {ws:List V} {es:List En} (h:pK H ws es) (s:aG H H'):pK H' ws es:=⟨h.1,fun j v e a b=>(h.2 j v e a b).same s⟩
theorem iA:∀ (es:List En) (o:Option En) (e:En),gM o (es ++ [e]) = some e
 | [],_,_=>rfl
 | x :: r,_,e=>iA r (some x) e
theorem pK.last {H:Hp} {ws:List V} {es:List En} (h:pK H ws es) (hw:ws ≠ []):∃ e ra,gM none es = some e ∧ e ∈ es ∧ eW ws (-1) = some (.ref ra) ∧ H ra = some (.lst (cY e)):=by
 have hl:=h.1
 have he:es ≠ []:=fun z=>hw (List.eq_nil_of_length_eq_zero (by rw [hl,z]; rfl))
 obtain ⟨w0,wv,rfl⟩:∃ w0 wv,ws = w0 ++ [wv]:=⟨_,_,(List.dropLast_concat_getLast hw).symm⟩
 obtain ⟨e0,ev,rfl⟩:∃ e0 ev,es = e0 ++ [ev]:=⟨_,_,(List.dropLast_concat_getLast he).symm⟩
 have hl0:w0.length = e0.length:=by
  rw [List.length_append,List.length_append] at hl
  exact Nat.succ.inj hl
 obtain ⟨ra,rfl,hr⟩:=h.2 w0.length wv ev (by simp) (by rw [hl0]; simp)
 exact ⟨ev,ra,iA _ _ _,by simp,kS _ _,hr⟩
theorem m9 (ns:List Int):(ns.map V.int).all b5 = true:=by
 rw [List.all_eq_true]
 intro x hx
 obtain ⟨z,_,rfl⟩:=List.mem_map.mp hx
 rfl
theorem qM.keep {H H':Hp} {v:V} {e:En} (h:qM H v e) (s:∀ t xs,H t = some (.lst xs) → H' t = some (.lst xs)):qM H' v e:=let ⟨a,e1,h1⟩:=h; ⟨a,e1,s _ _ h1⟩
theorem oH:∀ (ys:List En) (s:Rs),∃ o n r,(ys.foldl bU s).o = s.o ++ o ∧ (ys.foldl bU s).n = s.n ++ n ∧ (ys.foldl bU s).r = s.r ++ r ∧ ∀ x ∈ r,x.e ∈ ys
 | [],s=>⟨[],[],[],by rw [List.append_nil]; rfl,by rw [List.append_nil]; rfl,by rw [List.append_nil]; rfl,fun _ h=>nomatch h⟩
 | y :: ys,s=>by
  obtain ⟨o,n,r,h1,h2,h3,h4⟩:=oH ys (bU s y)
  rw [List.foldl_cons]
  obtain ⟨r',hr,hm⟩:∃ r',(bU s y).r = s.r ++ r' ∧ ∀ x ∈ r',x.e = y:=by
   by_cases h:dI s y = Str.ofString "right"
   ·exact ⟨[⟨y,(bM s.r y).getD []⟩],by show (if _ then _ else _) = _; rw [if_pos h],fun x hx=>by rw [List.mem_singleton.mp hx]⟩
   ·exact ⟨[],by show (if _ then _ else _) = _; rw [if_neg h,List.append_nil],fun _ h=>nomatch h⟩
  refine ⟨(y.n,dI s y) :: o,(y.n,bM s.r y) :: n,r' ++ r,?_,?_,?_,fun x hx=>?_⟩
  ·rw [h1]; show (s.o ++ [(y.n,dI s y)]) ++ o = _; rw [List.append_assoc]; rfl
  ·rw [h2]; show (s.n ++ [(y.n,bM s.r y)]) ++ n = _; rw [List.append_assoc]; rfl
  ·rw [h3,hr,List.append_assoc]
  ·rcases List.mem_append.mp hx with q | q
   ·rw [hm x q]; exact List.mem_cons_self ..
   ·exact List.mem_cons_of_mem _ (h4 x q)
theorem om (xs ys:List En):∃ o n r,(aZ (xs ++ ys)).o = (aZ xs).o ++ o ∧ (aZ (xs ++ ys)).n = (aZ xs).n ++ n ∧ (aZ (xs ++ ys)).r = (aZ xs).r ++ r ∧ ∀ x ∈ r,x.e ∈ ys:=by
 have e:aZ (xs ++ ys) = ys.foldl bU (aZ xs):=by unfold aZ; rw [List.foldl_append]
 rw [e]
 exact oH ys (aZ xs)
theorem iw (es:List En):(∀ x ∈ (aZ es).r,x.e ∈ es ∧ (x.e.n,Str.ofString "right") ∈ (aZ es).o) ∧ ∀ e ∈ es,∃ o,(e.n,o) ∈ (aZ es).o ∧ (o = Str.ofString "right" → ∃ x ∈ (aZ es).r,x.e = e):=by
 have key:∀ n,∀ es:List En,es.length = n → (∀ x ∈ (aZ es).r,x.e ∈ es ∧ (x.e.n,Str.ofString "right") ∈ (aZ es).o) ∧ ∀ e ∈ es,∃ o,(e.n,o) ∈ (aZ es).o ∧ (o = Str.ofString "right" → ∃ x ∈ (aZ es).r,x.e = e):=by
  intro n
  induction n with
  | zero =>
   intro es h
   obtain rfl:es = []:=List.eq_nil_of_length_eq_zero h
   exact ⟨fun _ h=>(nomatch h),fun _ h=>(nomatch h)⟩
  | succ n ih =>
   intro es h
   have hne:es ≠ []:=fun z=>by rw [z] at h; cases h
   obtain ⟨p,e,rfl⟩:∃ p e,es = p ++ [e]:=⟨_,_,(List.dropLast_concat_getLast hne).symm⟩
   obtain ⟨i1,i2⟩:=ih p (by rw [List.length_append] at h; exact Nat.succ.inj h)
   rw [gp]
   have ho:(bU (aZ p) e).o = (aZ p).o ++ [(e.n,dI (aZ p) e)]:=rfl
   by_cases hr:dI (aZ p) e = Str.ofString "right"
   ·have er:(bU (aZ p) e).r = (aZ p).r ++ [⟨e,(bM (aZ p).r e).getD []⟩]:=by show (if _ then _ else _) = _; rw [if_pos hr]
    rw [ho,er,hr]
    refine ⟨fun x hx=>?_,fun y hy=>?_⟩
    ·rcases List.mem_append.mp hx with q | q
     ·exact ⟨List.mem_append_left _ (i1 x q).1,List.mem_append_left _ (i1 x q).2⟩
     ·rw [List.mem_singleton.mp q]
      exact ⟨List.mem_append_right _ (List.mem_singleton.mpr rfl),List.mem_append_right _ (List.mem_singleton.mpr rfl)⟩
    ·rcases List.mem_append.mp hy with q | q
     ·obtain ⟨o,h1,h2⟩:=i2 y q
      exact ⟨o,List.mem_append_left _ h1,fun z=>let ⟨x,hx,ex⟩:=h2 z; ⟨x,List.mem_append_left _ hx,ex⟩⟩
     ·rw [List.mem_singleton.mp q]
      exact ⟨_,List.mem_append_right _ (List.mem_singleton.mpr rfl),fun _=>⟨_,List.mem_append_right _ (List.mem_singleton.mpr rfl),rfl⟩⟩
   ·have er:(bU (aZ p) e).r = (aZ p).r:=by show (if _ then _ else _) = _; rw [if_neg hr]
    rw [ho,er]
    refine ⟨fun x hx=>⟨List.mem_append_left _ (i1 x hx).1,List.mem_append_left _ (i1 x hx).2⟩,fun y hy=>?_⟩
    rcases List.mem_append.mp hy with q | q
    ·obtain ⟨o,h1,h2⟩:=i2 y q
     exact ⟨o,List.mem_append_left _ h1,h2⟩
    ·rw [List.mem_singleton.mp q]
     exact ⟨_,List.mem_append_right _ (List.mem_singleton.mpr rfl),fun z=>absurd z hr⟩
 exact key _ es rfl
def gJ (R:List Rt) (e:En):Option Rt:=match e.b with
 | none=>none
 | some b=>match ao R b with
  | none=>none
  | some x=>if x.e.r = e.r ∧ x.e.b = none then some x else none
def oF (e:En):Bool:=decide (e.b = none) && !e.k
def iK (R:List Rt) (e:En):Bool:=e.b.isSome && (gJ R e).isNone
def jf (R:List Rt) (e:En):Bool:=match gJ R e with | none=>false | some x=>decide (x.e.w ≠ e.w)
def vq (R:List Rt) (nm:Option (List Str)):Bool:=R.any fun x=>decide (some x.nm = nm)
theorem tD (R:List Rt) (e:En) (nm:Option (List Str)):gw R e nm = if oF e = true then Str.ofString "undescribed" else if nm.isNone = true then Str.ofString "unplaced" else if iK R e = true then Str.ofString "baseless" else if jf R e = true then Str.ofString "reworded" else if vq R nm = true then Str.ofString "alike" else Str.ofString "right" := by
 have h1:oF e = true ↔ e.b = none ∧ e.k = false:=by
  unfold oF
  rw [Bool.and_eq_true,decide_eq_true_iff,Bool.not_eq_true']
 unfold gw
 by_cases h:e.b = none ∧ e.k = false
 ·rw [if_pos h,if_pos (h1.mpr h)]
 ·rw [if_neg h,if_neg (fun z=>h (h1.mp z))]
  cases nm with
  | none=>rfl
  | some z =>
   have e5:vq R (some z) = R.any (fun x=>decide (x.nm = z)):=by
    unfold vq
    congr 1
    funext x
    by_cases q:x.nm = z
    ·rw [decide_eq_true q,decide_eq_true (by rw [q])]
    ·rw [decide_eq_false q,decide_eq_false (fun w=>q (Option.some.inj w))]
   have al:eR R z = if vq R (some z) = true then Str.ofString "alike" else Str.ofString "right" := by rw [e5]; rfl
   rw [if_neg (show ¬ ((some z).isNone = true) by intro q; cases q),← al]
   cases hb:e.b with
   | none =>
    have b3:iK R e = false:=by unfold iK; rw [hb]; rfl
    have b4:jf R e = false:=by unfold jf gJ; rw [hb]
    rw [b3,b4]
    rfl
   | some b =>
    show fL R e b z = _
    unfold fL
    cases hf:ao R b with
    | none =>
     have b3:iK R e = true:=by unfold iK gJ; rw [hb]; show (true && (match ao R b with | none=>none | some x=>if x.e.r = e.r ∧ x.e.b = none then some x else none).isNone) = true; rw [hf]; rfl
     rw [b3]
     rfl
    | some x =>
     have bb:gJ R e = if x.e.r = e.r ∧ x.e.b = none then some x else none:=by unfold gJ; rw [hb]; show (match ao R b with | none=>none | some x=>if x.e.r = e.r ∧ x.e.b = none then some x else none) = _; rw [hf]
     by_cases q:x.e.r = e.r ∧ x.e.b = none
     ·rw [if_pos q] at bb
      have b3:iK R e = false:=by unfold iK; rw [bb,hb]; rfl
      have b4:jf R e = decide (x.e.w ≠ e.w):=by unfold jf; rw [bb]
      show (if x.e.r ≠ e.r ∨ x.e.b ≠ none then Str.ofString "baseless" else if x.e.w ≠ e.w then Str.ofString "reworded" else eR R z) = _
      rw [if_neg (fun w=>w.elim (fun w=>w q.1) (fun w=>w q.2)),b3,b4]
      by_cases q2:x.e.w ≠ e.w
      ·rw [if_pos q2,decide_eq_true q2]; rfl
      ·rw [if_neg q2,decide_eq_false q2]; rfl
     ·rw [if_neg q] at bb
      have b3:iK R e = true:=by unfold iK; rw [bb,hb]; rfl
      show (if x.e.r ≠ e.r ∨ x.e.b ≠ none then Str.ofString "baseless" else if x.e.w ≠ e.w then Str.ofString "reworded" else eR R z) = _
      rw [if_pos,b3]
      ·rfl
      ·by_cases w:x.e.r = e.r
       ·exact .inr fun w2=>q ⟨w,w2⟩
       ·exact .inl w
theorem vW {a b:En} (ha:ij a) (hb:ij b) (h:cN a.r = cN b.r):a.r = b.r:=by
 have g:cN (Str.ofString "genus") = 1:=by decide +kernel
 have s:cN (Str.ofString "species") = 2:=by decide +kernel
 have f:cN (Str.ofString "form") = 3:=by decide +kernel
 rcases fV ha with q | q | q <;> rcases fV hb with r | r | r <;> rw [q,r] at h ⊢ <;> first | rfl | (exfalso; first | (rw [g,s] at h; cases h) | (rw [g,f] at h; cases h) | (rw [s,g] at h; cases h) | (rw [s,f] at h; cases h) | (rw [f,g] at h; cases h) | (rw [f,s] at h; cases h))
theorem gO {es:List En} (okk:∀ e ∈ es,ij e) (nd:(es.map (·.n)).Nodup):kL (aZ es):=by
 have:=nU okk nd es.length (Nat.le_refl _)
 rw [List.take_of_length_le (Nat.le_refl _)] at this
 exact this
def uj (x:Rt):NK:=(Sum.inr x.e.r,x.nm.map Sum.inr)
theorem oC {o:Option Int}:aj o = V.bI ↔ o = none:=by
 cases o with
 | none=>exact ⟨fun _=>rfl,fun _=>rfl⟩
 | some n=>exact ⟨fun h=>(nomatch h),fun h=>(nomatch h)⟩
def xT:List V:=[.str "keep",.str "strike",.str "leave"]
def bX:V → Bool
 | .str z=>zv (.str z) xT
 | _=>false
def ye (K:W.Frag):Sp:=fun vs H Q _=>∃ x,vs = [x] ∧ Own K H x ∧ Q (.bl (bX x)) H
def uH (K:W.Frag) (C:Addr):Sp:=fun vs H Q E=>∃ x,vs = [x] ∧ Own K H x ∧ (inR 1000000 x = true → Q .bI H) ∧ (inR 1000000 x = false → E (.ref C) none H)
def AH (d e n:V):List (Str × V):=[("day",d),("deed",e),("number",n)]
def zf (K:W.Frag) (CA ND NA NN:Addr):Sp:=fun vs H Q E=>∃ a dx d e n,vs = [.ref a,d,e,n] ∧ H a = some (.ins CA dx []) ∧ Own K H d ∧ Own K H e ∧ Own K H n ∧
 (inR 1000000 d = false → E (.ref ND) none H) ∧
 (inR 1000000 d = true → bX e = false → ∀ x H',aG H H' → H' x = some (.xd [("place",.int 0)]) → E (.ref NA) (some x) H') ∧
 (inR 1000000 d = true → bX e = true → inR 1000000000 n = false → E (.ref NN) none H) ∧
 (inR 1000000 d = true → bX e = true → inR 1000000000 n = true → ∀ H',(∀ b u,b ≠ a → H b = some u → H' b = some u) → H' a = some (.ins CA dx (AH d e n)) → Q .bI H')
def yA (K:W.Frag):Sp:=fun vs H Q _=>∃ (a:Addr) (k:Int) (ns:List Int),vs = [.ref a,.int k] ∧ 0 ≤ k ∧ ah K H a (ns.map V.int) ∧ ∀ i,Q (.int i) H
def yv:Sp:=fun vs H Q _=>∃ n p,vs = [.int n,.int p] ∧ 0 ≤ p ∧ p < 1000 ∧ ∀ r,0 ≤ r → r < 2147483648 → Q (.int r) H
theorem _root_.L2.XE.upd {H:Hp} {e C q:Addr} {xs ys:List V} (h:XE H e C) (hq:H q = some (.lst xs)):XE (upd H q (.lst ys)) e C:=by
 rcases h with z | ⟨dx,fs,z | z,z2⟩
 ·exact .inl (by rw [aI (ax z hq (by intro y; cases y))]; exact z)
 ·exact .inr ⟨dx,fs,.inl (by rw [aI (ax z hq (by intro y; cases y))]; exact z),by rw [aI (ax z2 hq (by intro y; cases y))]; exact z2⟩
 ·exact .inr ⟨dx,fs,.inr (by rw [aI (ax z hq (by intro y; cases y))]; exact z),by rw [aI (ax z2 hq (by intro y; cases y))]; exact z2⟩
def i4 (H:Hp) (v:V) (e:En):Prop:=∃ a,v = .ref a ∧ H a = some (.tup (cY e))
theorem i4.same {H H':Hp} {v:V} {e:En} (h:i4 H v e) (s:aG H H'):i4 H' v e:=let ⟨a,e1,h1⟩:=h; ⟨a,e1,s _ _ h1⟩
def d8 (H:Hp) (ws:List V) (es:List En):Prop:=ws.length = es.length ∧ ∀ (j:Nat) v e,ws[j]? = some v → es[j]? = some e → i4 H v e
theorem d8.same {H H':Hp} {ws:List V} {es:List En} (h:d8 H ws es) (s:aG H H'):d8 H' ws es:=⟨h.1,fun j v e a b=>(h.2 j v e a b).same s⟩
structure qB (es:List En):Prop where
 bk:bL [] none (es.map some) = true
 ok:∀ e ∈ es,ij e
 nn:∀ (j:Nat) e,es[j]? = some e → 1 ≤ e.n ∧ e.n ≤ 100000000 ∧ (e.n - 1) % 100 = j
 dd:∀ e ∈ es,1 ≤ e.d ∧ e.d ≤ 1000 * es.length
 le:es.length ≤ 60
theorem qB.n9 {es:List En} (h:qB es) {e:En} (he:e ∈ es):1 ≤ e.n ∧ e.n ≤ 100000000:=by
 obtain ⟨j,hj⟩:=List.getElem?_of_mem he
 exact ⟨(h.nn j e hj).1,(h.nn j e hj).2.1⟩
structure xY (es:List En) (e:En):Prop where
 ok:ij e
 n:1 ≤ e.n ∧ e.n ≤ 100000000 ∧ (e.n - 1) % 100 = es.length
 d1:1 ≤ e.d
 d2:e.d ≤ 1000 * (es.length + 1)
 la:∀ x,gM none es = some x → x.d < e.d ∨ x.d = e.d ∧ x.n < e.n
theorem qB.nil:qB []:=⟨rfl,fun _ h=>(nomatch h),fun j e h=>(by rw [List.getElem?_nil] at h; cases h),fun _ h=>(nomatch h),Nat.zero_le _⟩
theorem qB.add {es:List En} {e:En} (h:qB es) (n:xY es e) (hl:es.length < 60):qB (es ++ [e]):=by
 have ll:((es ++ [e]).length:Int) = es.length + 1:=by rw [List.length_append]; rfl
 have mem:∀ x ∈ es ++ [e],x ∈ es ∨ x = e:=fun x hx=>(List.mem_append.mp hx).imp id List.mem_singleton.mp
 have nw:∀ x ∈ es,x.n ≠ e.n:=fun x hx z=>by
  obtain ⟨j,hj⟩:=List.getElem?_of_mem hx
  have h1:=(h.nn j x hj).2.2
  have h2:=n.n.2.2
  have h3:=(List.getElem?_eq_some_iff.mp hj).1
  rw [z] at h1
  omega
 refine ⟨ku es [] none e h.bk List.not_mem_nil nw ?_,fun x hx=>?_,fun j x hx=>?_,fun x hx=>?_,?_⟩
 ·cases q:gM none es with
  | none=>rfl
  | some x =>
   show iq x e = true
   show (if x.d = e.d then (if x.n = e.n then false else decide (x.n < e.n)) else decide (x.d < e.d)) = true
   rcases n.la x q with z | z
   ·rw [if_neg (by omega),decide_eq_true z]
   ·rw [if_pos z.1,if_neg (by omega),decide_eq_true z.2]
 ·rcases mem x hx with q | rfl
  ·exact h.ok x q
  ·exact n.ok
 ·rcases Nat.lt_trichotomy j es.length with q | q | q
  ·rw [List.getElem?_append_left q] at hx
   exact h.nn j x hx
  ·subst q
   rw [List.getElem?_append_right (Nat.le_refl _),Nat.sub_self] at hx
   cases hx
   exact n.n
  ·rw [List.getElem?_eq_none (by rw [List.length_append]; show _ + 1 ≤ _; omega)] at hx
   cases hx
 ·rw [ll]
  rcases mem x hx with q | rfl
  ·have:=h.dd x q
   exact ⟨this.1,by omega⟩
  ·exact ⟨n.d1,n.d2⟩
 ·rw [List.length_append]; show _ + 1 ≤ _; omega
theorem qB.nd {es:List En} (h:qB es):(es.map (·.n)).Nodup:=(i3 h.bk).1
theorem d8.last {H:Hp} {ws:List V} {es:List En} (h:d8 H ws es) (hw:ws ≠ []):∃ e ra,gM none es = some e ∧ e ∈ es ∧ eW ws (-1) = some (.ref ra) ∧ H ra = some (.tup (cY e)):=by
 have hl:=h.1
 have he:es ≠ []:=fun z=>hw (List.eq_nil_of_length_eq_zero (by rw [hl,z]; rfl))
 obtain ⟨w0,wv,rfl⟩:∃ w0 wv,ws = w0 ++ [wv]:=⟨_,_,(List.dropLast_concat_getLast hw).symm⟩
 obtain ⟨e0,ev,rfl⟩:∃ e0 ev,es = e0 ++ [ev]:=⟨_,_,(List.dropLast_concat_getLast he).symm⟩
 have hl0:w0.length = e0.length:=by
  rw [List.length_append,List.length_append] at hl
  exact Nat.succ.inj hl
 obtain ⟨ra,rfl,hr⟩:=h.2 w0.length wv ev (by simp) (by rw [hl0]; simp)
 exact ⟨ev,ra,iA _ _ _,by simp,kS _ _,hr⟩
theorem d8.push {H H':Hp} {ws:List V} {es:List En} {v:V} {e:En} (h:d8 H ws es) (hv:i4 H v e) (mv:∀ t xs,H t = some (.tup xs) → H' t = some (.tup xs)):d8 H' (ws ++ [v]) (es ++ [e]):=by
 refine ⟨by rw [List.length_append,List.length_append,h.1]; rfl,fun j u x h1 h2=>?_⟩
 have up:∀ u x,i4 H u x → i4 H' u x:=fun u x ⟨a,e1,h1⟩=>⟨a,e1,mv _ _ h1⟩
 rcases Nat.lt_trichotomy j ws.length with q | q | q
 ·rw [List.getElem?_append_left q] at h1
  rw [List.getElem?_append_left (by rw [← h.1]; exact q)] at h2
  exact up _ _ (h.2 j u x h1 h2)
 ·rw [List.getElem?_append_right (by omega),q,Nat.sub_self] at h1
  rw [List.getElem?_append_right (by rw [← h.1]; omega),← h.1,q,Nat.sub_self] at h2
  cases h1
  cases h2
  exact up _ _ hv
 ·rw [List.getElem?_eq_none (by rw [List.length_append]; show _ + 1 ≤ _; omega)] at h1
  cases h1
theorem pX (e:En):fZ (cY e) none (some 4) = [.int e.n,.int e.d,.str e.r,.str e.w]:=rfl
theorem ub (e:En):fZ (cY e) (some 4) none = [aj e.u,aj e.s,aj e.b,.bl e.k]:=rfl
theorem me (e:En):¬ (HT.dE (cY e).length 0 none = 0 ∧ HT.dE (cY e).length (cY e).length (some 4) = (cY e).length):=by
 show ¬ (HT.dE 8 0 none = 0 ∧ HT.dE 8 8 (some 4) = 8)
 decide
theorem sQ (e:En):¬ (HT.dE (cY e).length 0 (some 4) = 0 ∧ HT.dE (cY e).length (cY e).length none = (cY e).length):=by
 show ¬ (HT.dE 8 0 (some 4) = 0 ∧ HT.dE 8 8 none = 8)
 decide
def xI (CE:Addr):Sp:=fun vs H Q _=>∃ l ws es,vs = [.ref l] ∧ H l = some (.lst ws) ∧ d8 H ws es ∧ (∀ e ∈ es,ij e) ∧ es.length ≤ 84 ∧ ∀ q acc H',aG H H' → H q = none → H' q = some (.lst acc) → cg H' CE acc es → Q (.ref q) H'
def eX (H:Hp) (R:List Rt) (x:Rt) (q:Key × V):Prop:=q.1 = Sum.inl x.e.n ∧ ∃ a t,q.2 = .ref a ∧ H a = some (.tup [.str x.e.r,.ref t,aj x.e.b,.str x.e.w,aj (eI R x).s,.int x.e.d]) ∧ H t = some (.tup (x.nm.map V.str))
theorem eX.keep {H H':Hp} {R:List Rt} {x:Rt} {q:Key × V} (h:eX H R x q) (f:∀ t xs,H t = some (.tup xs) → H' t = some (.tup xs)):eX H' R x q:=let ⟨h1,a,t,h2,h3,h4⟩:=h; ⟨h1,a,t,h2,f _ _ h3,f _ _ h4⟩
def gS (R:List Rt):List (NK × V):=R.map fun x=>(uj x,V.int x.e.n)
theorem wO {R:List Rt} {k:NK}:(bF (gS R) k).isSome = R.any fun x=>decide (uj x = k):=by
 induction R with
 | nil=>rfl
 | cons x r ih =>
  show (bF ((uj x,V.int x.e.n) :: gS r) k).isSome = _
  rw [List.any_cons]
  by_cases e:uj x = k
  ·rw [bN e,decide_eq_true e]; rfl
  ·rw [bA e,decide_eq_false e,Bool.false_or]
   exact ih
theorem eQ {H:Hp} {R R':List Rt} {kr:List (Key × V)} (h:Paired (eX H R') R kr) (n:Int):(ao R n = none ∧ bF kr (Sum.inl n) = none) ∨ ∃ x v,x ∈ R ∧ ao R n = some x ∧ bF kr (Sum.inl n) = some v ∧ eX H R' x (Sum.inl n,v):=by
 induction h with
 | nil=>exact .inl ⟨rfl,rfl⟩
 | @cons x q R kr hq t ih =>
  have hq0:=hq
  obtain ⟨h1,h2⟩:=hq
  by_cases e:x.e.n = n
  ·refine .inr ⟨x,q.2,List.mem_cons_self ..,?_,?_,?_⟩
   ·unfold ao; rw [List.find?_cons_of_pos (p:=fun y:Rt=>decide (y.e.n = n)) (decide_eq_true e)]
   ·rw [bN (by rw [h1,e])]
   ·exact ⟨by rw [e],h2⟩
  ·have e1:ao (x :: R) n = ao R n:=by unfold ao; rw [List.find?_cons_of_neg (p:=fun y:Rt=>decide (y.e.n = n)) (by rw [decide_eq_false e]; decide)]
   rw [e1,bA (by rw [h1]; exact fun z=>e (Sum.inl.inj z))]
   rcases ih with i | ⟨x',v,m,i⟩
   ·exact .inl i
   ·exact .inr ⟨x',v,List.mem_cons_of_mem _ m,i⟩
theorem u3 (R:List Rt) (e:En) (nm:Option (List Str)):gw R e nm = Str.ofString "right" ↔ oF e = false ∧ nm.isSome = true ∧ iK R e = false ∧ jf R e = false ∧ vq R nm = false:=by
 rw [tD]
 cases h1:oF e with
 | true=>exact ⟨fun h=>absurd h (by rw [if_pos rfl]; decide +kernel),fun h=>nomatch h.1⟩
 | false =>
  rw [if_neg (by decide)]
  cases nm with
  | none=>exact ⟨fun h=>absurd h (by rw [if_pos (show (none:Option (List Str)).isNone = true from rfl)]; decide +kernel),fun h=>nomatch h.2.1⟩
  | some z =>
   rw [if_neg (show ¬ ((some z).isNone = true) by intro q; cases q)]
   cases h3:iK R e with
   | true=>exact ⟨fun h=>absurd h (by rw [if_pos rfl]; decide +kernel),fun h=>nomatch h.2.2.1⟩
   | false =>
    rw [if_neg (by decide)]
    cases h4:jf R e with
    | true=>exact ⟨fun h=>absurd h (by rw [if_pos rfl]; decide +kernel),fun h=>nomatch h.2.2.2.1⟩
    | false =>
     rw [if_neg (by decide)]
     cases h5:vq R (some z) with
     | true=>exact ⟨fun h=>absurd h (by rw [if_pos rfl]; decide +kernel),fun h=>nomatch h.2.2.2.2⟩
     | false=>exact ⟨fun _=>⟨rfl,rfl,rfl,rfl,rfl⟩,fun _=>by rw [if_neg (by decide)]⟩
theorem yy {K:W.Frag} {G:Hp} {h tw:Addr} {hd:List Str} {w:Str} {C:V → Hp → Prop} (a:G h = some (.tup (hd.map V.str))) (b:G tw = some (.tup [V.str w])) (le:hd.length ≤ 10) (c:∀ t G',aG G G' → G' t = some (.tup ((hd ++ [w]).map V.str)) → C (.ref t) G'):u7 K (.ref h) (.ref tw) G C:=by
 have sz:2000 < sizeLine:=aJ rfl
 refine ⟨h,tw,hd.map V.str,[V.str w],rfl,rfl,bp.of a,bp.of b,(by intro q; cases q),?_,fun q=>?_,fun _ p hp=>?_⟩
 ·rw [List.length_map]
  show _ + 1 ≤ _
  omega
 ·have e:hd = []:=List.map_eq_nil_iff.mp q
  subst e
  exact c tw G (aG.refl _) b
 ·refine c p _ (aG.new hp) ?_
  rw [aB,List.map_append]
  rfl
theorem xM {R:List Rt} {e:En} {z:List Str} (ok:ij e) (rok:∀ x ∈ R,ij x.e) (dp:∀ x ∈ R,x.nm.length = cN x.e.r) (hz:z.length = cN e.r):(bF (gS R) (Sum.inr e.r,z.map Sum.inr)).isSome = vq R (some z):=by
 rw [wO]
 unfold vq
 rw [Bool.eq_iff_iff,List.any_eq_true,List.any_eq_true]
 constructor
 ·rintro ⟨x,hx,h⟩
  exact ⟨x,hx,decide_eq_true (by rw [gQ (Prod.mk.inj (of_decide_eq_true h)).2])⟩
 ·rintro ⟨x,hx,h⟩
  have h:x.nm = z:=Option.some.inj (of_decide_eq_true h)
  refine ⟨x,hx,decide_eq_true ?_⟩
  unfold uj
  rw [h,vW (rok x hx) ok (by rw [← dp x hx,h,hz])]
def lQ (R:List Rt) (e:En):En:=match e.b with | none=>e | some b=>((ao R b).map (·.e)).getD e
theorem rE {R:List Rt} {e:En} {b:Int} (hb:e.b = some b):(iK R e = false ∧ jf R e = false) ↔ ∃ y,ao R b = some y ∧ y.e.r = e.r ∧ y.e.b = none ∧ y.e.w = e.w:=by
 have h3:iK R e = (gJ R e).isNone:=by unfold iK; rw [hb]; rfl
 have hE:gJ R e = match ao R b with | none=>none | some x=>if x.e.r = e.r ∧ x.e.b = none then some x else none:=by unfold gJ; rw [hb]
 rw [h3]
 unfold jf
 cases hf:ao R b with
 | none =>
  rw [hE,hf]
  exact ⟨fun h=>(nomatch h.1),fun ⟨y,h,_⟩=>(nomatch h)⟩
 | some x =>
  have hE:gJ R e = if x.e.r = e.r ∧ x.e.b = none then some x else none:=by rw [hE,hf]
  rw [hE]
  by_cases q:x.e.r = e.r ∧ x.e.b = none
  ·rw [if_pos q]
   show ((some x).isNone = false ∧ decide (x.e.w ≠ e.w) = false) ↔ _
   constructor
   ·rintro ⟨_,h⟩
    exact ⟨x,rfl,q.1,q.2,Decidable.of_not_not (of_decide_eq_false h)⟩
   ·rintro ⟨y,h,_,_,h4⟩
    cases h
    exact ⟨rfl,decide_eq_false fun z=>z h4⟩
  ·rw [if_neg q]
   refine ⟨fun h=>(nomatch h.1),fun ⟨y,h,h2,h3,_⟩=>?_⟩
   cases h
   exact absurd ⟨h2,h3⟩ q
theorem j9 {α β:Type} {F G:α → β → Prop}:∀ {l₁:List α} {l₂:List β},Paired F l₁ l₂ → (∀ a ∈ l₁,∀ b,F a b → G a b) → Paired G l₁ l₂
 | _,_,.nil,_=>.nil
 | _,_,.cons h t,f=>.cons (f _ (List.mem_cons_self ..) _ h) (j9 t fun a ha=>f a (List.mem_cons_of_mem _ ha))
theorem jd {α β:Type} {F:α → β → Prop}:∀ {l₁:List α} {l₂:List β} {a:α} {b:β},Paired F l₁ l₂ → F a b → Paired F (l₁ ++ [a]) (l₂ ++ [b])
 | _,_,_,_,.nil,h=>.cons h .nil
 | _,_,_,_,.cons h' t,h=>.cons h' (jd t h)
theorem tI {S:Rs} (rok:kL S) {x:Rt} (hx:x ∈ S.r) (q:List Rt):eI (S.r ++ q) x = eI S.r x:=by
 unfold eI
 cases hb:x.e.b with
 | none=>rfl
 | some b =>
  obtain ⟨y,hy,_⟩:=rok.bs x hx b hb
  show ((ao (S.r ++ q) b).map (·.e)).getD x.e = ((ao S.r b).map (·.e)).getD x.e
  rw [hy,fY hy]
theorem vP {S:Rs} {e:En} {z:List Str} (h:∀ b,e.b = some b → ∃ y,ao S.r b = some y):eI (S.r ++ [⟨e,z⟩]) ⟨e,z⟩ = lQ S.r e:=by
 unfold eI lQ
 show (match e.b with | none=>e | some b=>((ao (S.r ++ [(⟨e,z⟩:Rt)]) b).map (fun x:Rt=>x.e)).getD e) = _
 cases hb:e.b with
 | none=>rfl
 | some b =>
  obtain ⟨y,hy⟩:=h b hb
  show ((ao (S.r ++ [(⟨e,z⟩:Rt)]) b).map (fun x:Rt=>x.e)).getD e = ((ao S.r b).map (·.e)).getD e
  rw [hy,fY hy]
theorem xH {P:Program} {w:World} {H H':Hp} {a:Addr} {kvs:List (NK × V)} (d:DN P w H a kvs) (f:∀ u,H a = some u → H' a = some u) (g:∀ b ys,H b = some (.tup ys) → H' b = some (.tup ys)):DN P w H' a kvs:=let ⟨xs,e,k,l⟩:=d; ⟨xs,f _ e,k.keep g,l⟩
def uq:Sp:=fun vs H Q _=>∃ l ws es,vs = [.ref l] ∧ H l = some (.lst ws) ∧ d8 H ws es ∧ (∀ e ∈ es,ij e) ∧ (es.map (·.n)).Nodup ∧ es.length ≤ 84 ∧ ∀ d kr H',aG H H' → H d = none → H' d = some (.dK kr) → Paired (eX H' (aZ es).r) (aZ es).r kr → Q (.ref d) H'
def fM (R:List Rt):List Int:=(R.filter fun x=>decide (x.e.b = none)).map (·.e.n)
def vh:Sp:=fun vs H Q _=>∃ d kr R,vs = [.ref d] ∧ H d = some (.dK kr) ∧ Paired (eX H R) R kr ∧ (R.map (·.e.n)).Nodup ∧ R.length ≤ 84 ∧ ∀ q H',aG H H' → H q = none → H' q = some (.lst ((fM R).map V.int)) → Q (.ref q) H'
structure Dd where
 d:Int
 z:Str
 n:Int
def vm (x:Dd):List V:=[.int x.d,.str x.z,.int x.n]
def ek (H:Hp) (ws:List V) (xs:List Dd):Prop:=ws.length = xs.length ∧ ∀ (j:Nat) v x,ws[j]? = some v → xs[j]? = some x → ∃ a,v = .ref a ∧ H a = some (.tup (vm x))
theorem ek.same {H H':Hp} {ws:List V} {xs:List Dd} (h:ek H ws xs) (s:aG H H'):ek H' ws xs:=⟨h.1,fun j v x a b=>let ⟨p,e,q⟩:=h.2 j v x a b; ⟨p,e,s _ _ q⟩⟩
def gU (H:Hp) (CA:Addr) (v:V) (x:Dd):Prop:=∃ a dx,v = .ref a ∧ H a = some (.ins CA dx (AH (.int x.d) (.str x.z) (.int x.n)))
theorem gU.same {H H':Hp} {CA:Addr} {v:V} {x:Dd} (h:gU H CA v x) (s:aG H H'):gU H' CA v x:=let ⟨a,dx,e,h1⟩:=h; ⟨a,dx,e,s _ _ h1⟩
def cV (H:Hp) (CA:Addr) (ws:List V) (xs:List Dd):Prop:=ws.length = xs.length ∧ ∀ (j:Nat) v x,ws[j]? = some v → xs[j]? = some x → gU H CA v x
theorem cV.same {H H':Hp} {CA:Addr} {ws:List V} {xs:List Dd} (h:cV H CA ws xs) (s:aG H H'):cV H' CA ws xs:=⟨h.1,fun j v x a b=>(h.2 j v x a b).same s⟩
theorem iU {α:Type} {F:V → α → Prop} {ws:List V} {xs:List α} {v:V} {x:α} (h:ws.length = xs.length ∧ ∀ (j:Nat) v x,ws[j]? = some v → xs[j]? = some x → F v x) (hv:F v x):(ws ++ [v]).length = (xs ++ [x]).length ∧ ∀ (j:Nat) u y,(ws ++ [v])[j]? = some u → (xs ++ [x])[j]? = some y → F u y:=by
 refine ⟨by rw [List.length_append,List.length_append,h.1]; rfl,fun j u y h1 h2=>?_⟩
 rcases Nat.lt_trichotomy j ws.length with q | q | q
 ·rw [List.getElem?_append_left q] at h1
  rw [List.getElem?_append_left (by rw [← h.1]; exact q)] at h2
  exact h.2 j u y h1 h2
 ·rw [List.getElem?_append_right (by omega),q,Nat.sub_self] at h1
  rw [List.getElem?_append_right (by rw [← h.1]; omega),← h.1,q,Nat.sub_self] at h2
  cases h1
  cases h2
  exact hv
 ·rw [List.getElem?_eq_none (by rw [List.length_append]; show _ + 1 ≤ _; omega)] at h1
  cases h1
structure cz (R:List Rt) (ds:List Dd):Prop where
 each:∀ x ∈ ds,bX (.str x.z) = true ∧ 1 ≤ x.d ∧ x.d ≤ 100000 ∧ ∃ y ∈ R,y.e.n = x.n ∧ y.e.b = none ∧ y.e.d ≤ x.d
 rise:∀ (j:Nat) x y,ds[j]? = some x → ds[j + 1]? = some y → x.d ≤ y.d
theorem cz.snoc {R:List Rt} {ds:List Dd} {x:Dd} (h:cz R ds) (hx:bX (.str x.z) = true ∧ 1 ≤ x.d ∧ x.d ≤ 100000 ∧ ∃ y ∈ R,y.e.n = x.n ∧ y.e.b = none ∧ y.e.d ≤ x.d) (le:∀ y ∈ ds,y.d ≤ x.d):cz R (ds ++ [x]):=by
 refine ⟨fun y hy=>?_,fun j a b ha hb=>?_⟩
 ·rcases List.mem_append.mp hy with q | q
  ·exact h.each y q
  ·rw [List.mem_singleton.mp q]; exact hx
 ·rcases Nat.lt_trichotomy (j + 1) ds.length with q | q | q
  ·rw [List.getElem?_append_left (by omega)] at ha
   rw [List.getElem?_append_left q] at hb
   exact h.rise j a b ha hb
  ·rw [List.getElem?_append_left (by omega)] at ha
   rw [List.getElem?_append_right (by omega),q,Nat.sub_self] at hb
   cases hb
   exact le a (List.mem_of_getElem? ha)
  ·rw [List.getElem?_eq_none (by rw [List.length_append]; show _ + 1 ≤ _; omega)] at hb
   cases hb
def u4 (K:W.Frag):Sp:=fun vs H Q _=>∃ cl,∃ cs:List Int,∃ d kr R,vs = [.ref cl,.ref d] ∧ ah K H cl (cs.map V.int) ∧ cs.length ≤ 60 ∧ H d = some (.dK kr) ∧ Paired (eX H R) R kr ∧ (R.map (·.e.n)).Nodup ∧ R.length ≤ 84 ∧ (∀ x ∈ R,1 ≤ x.e.d ∧ x.e.d ≤ 60000) ∧ ∀ l ws ds H',aG H H' → H l = none → H' l = some (.lst ws) → ek H' ws ds → cz R ds → ds.length ≤ 60 → Q (.ref l) H'
def wb (CA:Addr):Sp:=fun vs H Q _=>∃ l ws ds,vs = [.ref l] ∧ H l = some (.lst ws) ∧ ek H ws ds ∧ (∀ x ∈ ds,bX (.str x.z) = true ∧ inR 1000000 (.int x.d) = true ∧ inR 1000000000 (.int x.n) = true) ∧ ds.length ≤ 84 ∧ ∀ q acc H',aG H H' → H q = none → H' q = some (.lst acc) → cV H' CA acc ds → Q (.ref q) H'
def uF:Sp:=fun vs H Q _=>∃ n,vs = [.int n] ∧ ∀ (zs:List Str) l H',zs.length = 5 → (∀ z ∈ zs,isWord (.str z) = true) → aG H H' → H l = none → H' l = some (.lst (zs.map V.str)) → Q (.ref l) H'
def ua:Sp:=fun vs H Q _=>∃ n,vs = [.int n] ∧ ∀ (ss:List Int) l H',ss.length = 10 → (∀ s ∈ ss,1 ≤ s ∧ s ≤ 1000000000) → aG H H' → H l = none → H' l = some (.lst (ss.map V.int)) → Q (.ref l) H'
def uC:Sp:=fun vs H Q _=>∃ l ws es rk x,vs = [.ref l,.str rk,.int x] ∧ H l = some (.lst ws) ∧ d8 H ws es ∧ qB es ∧ 0 ≤ x ∧ ∀ (r:Int) H',aG H H' → 1 ≤ r → r ≤ 1000000000 → Q (.int r) H'
def wI:Sp:=fun vs H Q _=>∃ l ws es rk wd x,vs = [.ref l,.str rk,.str wd,.int x] ∧ H l = some (.lst ws) ∧ d8 H ws es ∧ qB es ∧ 0 ≤ x ∧ ∀ (o:Option Int) H',aG H H' → (∀ b,o = some b → 1 ≤ b ∧ b ≤ 1000000000) → Q (aj o) H'
def yr:Sp:=fun vs H Q _=>∃ l ws es n i wl,∃ zs:List Str,∃ sl,∃ ss:List Int,vs = [.ref l,.int n,.int i,.ref wl,.ref sl] ∧ H l = some (.lst ws) ∧ d8 H ws es ∧ qB es ∧ i = es.length ∧ es.length < 60 ∧ H wl = some (.lst (zs.map V.str)) ∧ zs.length = 5 ∧ (∀ z ∈ zs,isWord (.str z) = true) ∧ H sl = some (.lst (ss.map V.int)) ∧ ss.length = 10 ∧ (∀ s ∈ ss,1 ≤ s ∧ s ≤ 1000000000) ∧ ∀ v e H',aG H H' → i4 H' v e → xY es e → Q v H'
def xO (K:W.Frag):Sp:=fun vs H Q _=>∃ cl,∃ cs:List Int,∃ wl,∃ zs:List Str,∃ sl,∃ ss:List Int,vs = [.ref cl,.ref wl,.ref sl] ∧ ah K H cl (cs.map V.int) ∧ cs.length ≤ 60 ∧ H wl = some (.lst (zs.map V.str)) ∧ zs.length = 5 ∧ (∀ z ∈ zs,isWord (.str z) = true) ∧ H sl = some (.lst (ss.map V.int)) ∧ ss.length = 10 ∧ (∀ s ∈ ss,1 ≤ s ∧ s ≤ 1000000000) ∧ ∀ l ws es H',aG H H' → H l = none → H' l = some (.lst ws) → d8 H' ws es → qB es → es.length = cs.length → Q (.ref l) H'
def gi (ds:List Dd) (x:Dd):Bool:=match ds.getLast? with | none=>true | some y=>decide (y.d ≤ x.d)
def eA (R:List Rt) (x:Dd):Bool:=match ao R x.n with | none=>false | some y=>decide (y.e.b = none) && decide (y.e.d ≤ x.d)
def iY (R:List Rt) (ds:List Dd) (x:Dd):Bool:=gi ds x && eA R x
def lB (K:W.Frag) (H:Hp) (CA:Addr) (v:V):Prop:=∃ n,dP K H v (.type n) ∧ W.kitOne K (.type n) (.ref CA) = some false
def i8 (K:W.Frag) (H:Hp) (v:V):Prop:=∃ n,dP K H v (.type n) ∧ W.kitOne K (.type n) (.type "list") = some false
def v5 (K:W.Frag) (CR CE CA:Addr):Sp:=fun vs H Q _=>∃ A s fl fa ds th,vs = [.ref A.a,.ref fl,th] ∧ eM H CR CE A s ∧ H fl = some (.lst fa) ∧ cV H CA fa ds ∧ ((lB K H CA th ∧ Q (.bl false) H) ∨ ∃ x,gU H CA th x ∧ Q (.bl (iY s.r ds x)) H)
def ud (K:W.Frag) (H:Hp) (CA:Addr) (R:List Rt) (ds:List Dd) (v:V):Prop:=lB K H CA v ∨ ∃ x,gU H CA v x ∧ iY R ds x = false
def sU (R:List Rt) (ds:List Dd):Prop:=∀ (j:Nat) x,ds[j]? = some x → iY R (ds.take j) x = true
def eC (K:W.Frag) (H:Hp) (CA:Addr) (R:List Rt) (v:V) (p:Nat):Prop:=(∃ l ws ds u,v = .ref l ∧ H l = some (.lst ws) ∧ ws.length ≤ 1000 ∧ ws[p]? = some u ∧ cV H CA (ws.take p) ds ∧ sU R ds ∧ ud K H CA R ds u) ∨ (p = 0 ∧ i8 K H v)
def cO (H:Hp) (CA:Addr) (R:List Rt) (v:V) (ws:List V) (ds:List Dd):Prop:=∃ l,v = .ref l ∧ H l = some (.lst ws) ∧ ws.length ≤ 1000 ∧ cV H CA ws ds ∧ sU R ds
def qG (K:W.Frag) (CR CE CA NA:Addr):Sp:=fun vs H Q E=>∃ A s v,vs = [.ref A.a,v] ∧ eM H CR CE A s ∧ ((∃ ws ds,cO H CA s.r v ws ds ∧ ∀ q H',aG H H' → H q = none → H' q = some (.lst ws) → Q (.ref q) H') ∨
 ∃ p,eC K H CA s.r v p ∧ ∀ x H',aG H H' → H' x = some (.xd [("place",.int p)]) → E (.ref NA) (some x) H')
def sr (K:W.Frag) (CE CA NB NA:Addr):Sp:=fun vs H Q E=>∃ b v,vs = [b,v] ∧ ((vD K H CE b ∧ ∀ H',aG H H' → E (.ref NB) none H') ∨ ∃ es,gE H CE b es ∧ ((∃ ws ds,cO H CA (aZ es).r v ws ds ∧ ∀ q H',aG H H' → H q = none → H' q = some (.lst ws) → Q (.ref q) H') ∨
 ∃ p,eC K H CA (aZ es).r v p ∧ ∀ x H',aG H H' → H' x = some (.xd [("place",.int p)]) → E (.ref NA) (some x) H'))
theorem vE {m:Int} {x:V} (h:inR m x = true):∃ i,x = .int i:=by
 cases x with
 | int i=>exact ⟨i,rfl⟩
 | _=>exact absurd h (by intro z; cases z)
def wW (K:W.Frag) (CE CA NB NA ND:Addr):Sp:=fun vs H Q E=>∃ b v dv,vs = [b,v,dv] ∧ Own K H dv ∧ ((vD K H CE b ∧ ∀ H',aG H H' → E (.ref NB) none H') ∨ ∃ es,gE H CE b es ∧ ((∃ p,eC K H CA (aZ es).r v p ∧ ∀ x H',aG H H' → H' x = some (.xd [("place",.int p)]) → E (.ref NA) (some x) H') ∨
 ∃ us ds,cO H CA (aZ es).r v us ds ∧ (inR 1000000 dv = false → ∀ H',aG H H' → E (.ref ND) none H') ∧ (∀ dy,dv = .int dy → inR 1000000 (V.int dy) = true → ∀ t q1 q2 l1 l2 H',aG H H' → H' t = some (.tup [.ref q1,.ref q2]) → H q1 = none → H q2 = none → q1 ≠ q2 → H' q1 = some (.lst l1) → cg H' CE l1 (es.filter fun e=>decide (e.d ≤ dy)) → H' q2 = some (.lst l2) → cV H' CA l2 (ds.filter fun e=>decide (e.d ≤ dy)) → Q (.ref t) H')))
theorem lB.same {K:W.Frag} {H H':Hp} {CA:Addr} {v:V} (h:lB K H CA v) (s:aG H H'):lB K H' CA v:=let ⟨n,t,k⟩:=h; ⟨n,t.same s,k⟩
theorem i8.same {K:W.Frag} {H H':Hp} {v:V} (h:i8 K H v) (s:aG H H'):i8 K H' v:=let ⟨n,t,k⟩:=h; ⟨n,t.same s,k⟩
theorem eC.same {K:W.Frag} {H H':Hp} {CA:Addr} {R:List Rt} {v:V} {p:Nat} (h:eC K H CA R v p) (s:aG H H'):eC K H' CA R v p:=by
 rcases h with ⟨l,ws,ds,u,e,h1,h2,h3,h4,h5,h6⟩ | ⟨h1,h2⟩
 ·refine .inl ⟨l,ws,ds,u,e,s _ _ h1,h2,h3,h4.same s,h5,?_⟩
  rcases h6 with h | ⟨x,h,q⟩
  ·exact .inl (h.same s)
  ·exact .inr ⟨x,h.same s,q⟩
 ·exact .inr ⟨h1,h2.same s⟩
theorem cO.same {H H':Hp} {CA:Addr} {R:List Rt} {v:V} {ws:List V} {ds:List Dd} (h:cO H CA R v ws ds) (s:aG H H'):cO H' CA R v ws ds:=let ⟨l,e,h1,h2,h3,h4⟩:=h; ⟨l,e,s _ _ h1,h2,h3.same s,h4⟩
theorem cz.all {R:List Rt} {ds:List Dd} (h:cz R ds) (nd:(R.map (·.e.n)).Nodup):sU R ds:=fun j x hx=>by
 unfold iY
 have hm:=List.mem_of_getElem? hx
 obtain ⟨_,_,_,y,hy,e1,e2,e3⟩:=h.each x hm
 have r1:eA R x = true:=by
  unfold eA
  rw [← e1,bR nd hy]
  show (decide (y.e.b = none) && decide (y.e.d ≤ x.d)) = true
  rw [decide_eq_true e2,decide_eq_true e3]
  rfl
 rw [r1,Bool.and_true]
 unfold gi
 cases j with
 | zero=>rfl
 | succ j =>
  have hl:j < ds.length:=by have:=(List.getElem?_eq_some_iff.mp hx).1; omega
  have ee:ds[j]? = some ds[j]:=List.getElem?_eq_getElem hl
  rw [take_one ee,List.getLast?_append]
  exact decide_eq_true (h.rise j _ x ee hx)
def jO (z:Str):Str:=if z = Str.ofString "keep" then Str.ofString "kept" else if z = Str.ofString "strike" then Str.ofString "struck" else Str.ofString "plain"
def dX (R:List Rt):List Rt:=R.filter fun x=>decide (x.e.b = none)
def km (dy n:Int) (x:Dd):Bool:=decide (x.d ≤ dy) && decide (x.n = n)
def cT (ds:List Dd) (dy n:Int):Str:=match (ds.filter (km dy n)).getLast? with | none=>Str.ofString "plain" | some x=>jO x.z
def a8 (R:List Rt) (ds:List Dd) (dy:Int):List (Key × V):=((dX R).filter fun x=>decide (x.e.d ≤ dy)).map fun x=>(Sum.inl x.e.n,V.str (cT ds dy x.e.n))
theorem ic (ds:List Dd) (x:Dd) (dy n:Int):cT (ds ++ [x]) dy n = if km dy n x = true then jO x.z else cT ds dy n:=by
 unfold cT
 rw [List.filter_append]
 by_cases h:km dy n x = true
 ·rw [if_pos h,List.filter_cons_of_pos h,List.filter_nil,List.getLast?_append]
  rfl
 ·rw [if_neg h,List.filter_cons_of_neg h,List.filter_nil,List.append_nil]
theorem qJ {R:List Rt} {ds:List Dd} {x:Dd} {dy:Int} (h:¬ x.d ≤ dy):a8 R (ds ++ [x]) dy = a8 R ds dy:=by
 unfold a8
 refine List.map_congr_left fun y _=>?_
 rw [ic,if_neg]
 unfold km
 rw [decide_eq_false h,Bool.false_and]
 decide
theorem q8 {R:List Rt} {x:Dd} (h:eA R x = true):∃ y ∈ R,y.e.n = x.n ∧ y.e.b = none ∧ y.e.d ≤ x.d:=by
 unfold eA at h
 cases hf:ao R x.n with
 | none=>rw [hf] at h; cases h
 | some y =>
  rw [hf] at h
  have h:(decide (y.e.b = none) && decide (y.e.d ≤ x.d)) = true:=h
  rw [Bool.and_eq_true] at h
  obtain ⟨m,e⟩:=fX hf
  exact ⟨y,m,e,of_decide_eq_true h.1,of_decide_eq_true h.2⟩
theorem tX {R:List Rt} {ds:List Dd} {x:Dd} {dy:Int} (h:eA R x = true) (hd:x.d ≤ dy):putK (a8 R ds dy) (Sum.inl x.n) (.str (jO x.z)) = a8 R (ds ++ [x]) dy:=by
 obtain ⟨y,hy,e1,e2,e3⟩:=q8 h
 unfold putK
 rw [if_pos]
 ·unfold a8
  rw [List.map_map]
  refine List.map_congr_left fun z _=>?_
  show (if (Sum.inl z.e.n:Key) = Sum.inl x.n then ((Sum.inl z.e.n:Key),V.str (jO x.z)) else (Sum.inl z.e.n,V.str (cT ds dy z.e.n))) = _
  rw [ic]
  by_cases q:z.e.n = x.n
  ·rw [if_pos (by rw [q]),if_pos]
   unfold km
   rw [decide_eq_true hd,decide_eq_true q.symm]
   rfl
  ·rw [if_neg (fun w=>q (Sum.inl.inj w)),if_neg]
   unfold km
   rw [decide_eq_false (p:=x.n = z.e.n) (fun w=>q w.symm),Bool.and_false]
   decide
 ·rw [List.any_eq_true]
  refine ⟨(Sum.inl y.e.n,_),List.mem_map.mpr ⟨y,List.mem_filter.mpr ⟨List.mem_filter.mpr ⟨hy,decide_eq_true e2⟩,decide_eq_true (by omega)⟩,rfl⟩,decide_eq_true (by rw [e1])⟩
theorem qN {R:List Rt} {x:Rt} {ds:List Dd} {dy:Int}:a8 (R ++ [x]) ds dy = a8 R ds dy ++ (if x.e.b = none ∧ x.e.d ≤ dy then [(Sum.inl x.e.n,V.str (cT ds dy x.e.n))] else []):=by
 unfold a8 dX
 rw [List.filter_append,List.filter_append,List.map_append]
 congr 1
 by_cases h1:x.e.b = none
 ·rw [List.filter_cons_of_pos (p:=fun x:Rt=>decide (x.e.b = none)) (decide_eq_true h1),List.filter_nil]
  by_cases h2:x.e.d ≤ dy
  ·rw [List.filter_cons_of_pos (p:=fun x:Rt=>decide (x.e.d ≤ dy)) (decide_eq_true h2),if_pos ⟨h1,h2⟩]; rfl
  ·rw [List.filter_cons_of_neg (p:=fun x:Rt=>decide (x.e.d ≤ dy)) (by rw [decide_eq_false h2]; decide),if_neg (fun q=>h2 q.2)]; rfl
 ·rw [List.filter_cons_of_neg (p:=fun x:Rt=>decide (x.e.b = none)) (by rw [decide_eq_false h1]; decide),if_neg (fun q=>h1 q.1)]; rfl
theorem jP {R:List Rt} {ds:List Dd} {dy:Int} {p:Key × V} (h:p ∈ a8 R ds dy):∃ x ∈ R,x.e.b = none ∧ x.e.d ≤ dy ∧ p = (Sum.inl x.e.n,V.str (cT ds dy x.e.n)):=by
 obtain ⟨x,hx,rfl⟩:=List.mem_map.mp h
 obtain ⟨h1,h2⟩:=List.mem_filter.mp hx
 obtain ⟨h3,h4⟩:=List.mem_filter.mp h1
 exact ⟨x,h3,of_decide_eq_true h4,of_decide_eq_true h2,rfl⟩
theorem mJ {α κ:Type} [DecidableEq κ] {f:α → κ} {g:α → V} {k:κ}:∀ {l:List α},(∀ y ∈ l,f y ≠ k) → bF (l.map fun y=>(f y,g y)) k = none
 | [],_=>rfl
 | y :: l,h=>by
  rw [List.map_cons,bA (h y (List.mem_cons_self ..))]
  exact mJ fun z hz=>h z (List.mem_cons_of_mem _ hz)
theorem qW {R:List Rt} {ds:List Dd} {dy n:Int} (h:n ∉ R.map (·.e.n)):bF (a8 R ds dy) (Sum.inl n) = none:=by
 unfold a8
 refine mJ fun y hy e=>h ?_
 rw [← Sum.inl.inj e]
 exact List.mem_map_of_mem (f:=fun x:Rt=>x.e.n) (List.mem_filter.mp (List.mem_filter.mp hy).1).1
theorem gZ (R:List Rt) (ds:List Dd) (dy:Int):(a8 R ds dy).length ≤ R.length:=by
 unfold a8 dX
 rw [List.length_map]
 exact Nat.le_trans (List.length_filter_le ..) (List.length_filter_le ..)
theorem lK {z:Str} (h:bX (.str z) = true):z = Str.ofString "keep" ∨ z = Str.ofString "strike" ∨ z = Str.ofString "leave" := by
 have h:(f9 (.str (Str.ofString "keep")) (.str z) || (f9 (.str (Str.ofString "strike")) (.str z) || (f9 (.str (Str.ofString "leave")) (.str z) || false))) = true:=h
 simp [f9] at h
 rcases h with q | q | q
 ·exact .inl q.symm
 ·exact .inr (.inl q.symm)
 ·exact .inr (.inr q.symm)
def wF (CR CE CA:Addr):Sp:=fun vs H Q _=>∃ A s al ws ds dy,vs = [.ref A.a,.ref al,.int dy] ∧ eM H CR CE A s ∧ (s.r.map (·.e.n)).Nodup ∧ s.r.length ≤ 1000 ∧ H al = some (.lst ws) ∧ cV H CA ws ds ∧ (∀ x ∈ ds,bX (.str x.z) = true) ∧ sU s.r ds ∧ ∀ d H',aG H H' → H d = none → H' d = some (.dK (a8 s.r ds dy)) → Q (.ref d) H'
def zD:List (Str × V):=[("keep",.str "kept"),("strike",.str "struck"),("leave",.str "plain")]
def BG:Key → Int
 | Sum.inl n=>n
 | Sum.inr _=>0
def numsOf (z:Str) (kvs:List (Key × V)):List Int:=(kvs.filter fun p=>decide (p.2 = V.str z)).map fun p=>BG p.1
theorem gq (z:Str) (kvs:List (Key × V)) (n:Int) (y:Str):numsOf z (kvs ++ [(Sum.inl n,.str y)]) = numsOf z kvs ++ (if V.str y = V.str z then [n] else []):=by
 unfold numsOf
 rw [List.filter_append,List.map_append]
 congr 1
 by_cases h:V.str y = V.str z
 ·rw [if_pos h,List.filter_cons_of_pos (p:=fun p:Key × V=>decide (p.2 = V.str z)) (decide_eq_true h)]; rfl
 ·rw [if_neg h,List.filter_cons_of_neg (p:=fun p:Key × V=>decide (p.2 = V.str z)) (by rw [decide_eq_false h]; decide)]; rfl
theorem fU (z:Str) (kvs:List (Key × V)):(numsOf z kvs).length ≤ kvs.length:=by
 unfold numsOf
 rw [List.length_map]
 exact List.length_filter_le ..
def dJ:List Int → Nat → List (Key × V) → List (Key × V)
 | [],_,acc=>acc
 | n :: r,k,acc=>dJ r (k + 1) (putK acc (Sum.inl n) (.int (k:Int)))
theorem kj (n:Int):∀ (l:List Int) (k:Nat) (acc:List (Key × V)),dJ (l ++ [n]) k acc = putK (dJ l k acc) (Sum.inl n) (.int ((k + l.length:Nat):Int))
 | [],_,_=>rfl
 | m :: l,k,acc=>by
  show dJ (l ++ [n]) (k + 1) _ = putK (dJ l (k + 1) _) _ _
  rw [kj n l (k + 1),List.length_cons,Nat.add_assoc,Nat.add_comm 1]
theorem vV {kvs:List (Key × V)} {k:Key} {v:V}:(putK kvs k v).length ≤ kvs.length + 1:=by
 unfold putK
 split
 ·rw [List.length_map]; exact Nat.le_succ _
 ·rw [List.length_append]; exact Nat.le_refl _
theorem mR:∀ (l:List Int) (k:Nat) (acc:List (Key × V)),(dJ l k acc).length ≤ acc.length + l.length
 | [],_,_=>Nat.le_refl _
 | m :: l,k,acc=>by
  have h1:=mR l (k + 1) (putK acc (Sum.inl m) (.int (k:Int)))
  have h2:=vV (kvs:=acc) (k:=Sum.inl m) (v:=.int (k:Int))
  show (dJ l (k + 1) (putK acc (Sum.inl m) (.int (k:Int)))).length ≤ _
  rw [List.length_cons]
  omega
def kK (kvs:List (Key × V)):List (Key × V):=dJ (numsOf (Str.ofString "kept") kvs ++ numsOf (Str.ofString "plain") kvs) 0 []
structure xr (kvs:List (Key × V)):Prop where
 nd:(kvs.map (·.1)).Nodup
 txt:∀ p ∈ kvs,∃ n z,p = ((Sum.inl n:Key),V.str z)
 le:kvs.length ≤ 500
theorem qI {R:List Rt} (nd:(R.map (·.e.n)).Nodup) (le:R.length ≤ 500) (ds:List Dd) (dy:Int):xr (a8 R ds dy):=by
 refine ⟨?_,fun p hp=>?_,Nat.le_trans (gZ R ds dy) le⟩
 ·unfold a8 dX
  rw [List.map_map,List.filter_filter]
  have e:(((fun p:Key × V=>p.1) ∘ fun x:Rt=>((Sum.inl x.e.n:Key),V.str (cT ds dy x.e.n))):Rt → Key) = (Sum.inl:Int → Key) ∘ fun x:Rt=>x.e.n:=rfl
  rw [e,← List.map_map]
  exact (nd.sublist (List.filter_sublist.map _)).map _ fun a b h z=>h (Sum.inl.inj z)
 ·obtain ⟨x,_,_,_,rfl⟩:=jP hp
  exact ⟨_,_,rfl⟩
def wB:Sp:=fun vs H Q _=>∃ d kvs,vs = [.ref d] ∧ H d = some (.dK kvs) ∧ xr kvs ∧ ∀ t H',aG H H' → H t = none → H' t = some (.dK (kK kvs)) → Q (.ref t) H'
def AE (A:RA) (dy:Int) (st tn:Addr):List (Str × V):=[("results",.ref A.a),("day",.int dy),("standing",.ref st),("turns",.ref tn)]
def tE (CD CR CE CA:Addr):Sp:=fun vs H Q _=>∃ a dx A s al ws ds dy H0,vs = [.ref a,.ref A.a,.ref al,.int dy] ∧ H a = some (.ins CD dx []) ∧ H0 a = none ∧ aG H0 H ∧ eM H0 CR CE A s ∧ (s.r.map (·.e.n)).Nodup ∧ s.r.length ≤ 500 ∧ H0 al = some (.lst ws) ∧ cV H0 CA ws ds ∧ (∀ x ∈ ds,bX (.str x.z) = true) ∧ sU s.r ds ∧ ∀ st tn H',aG H0 H' → H' a = some (.ins CD dx (AE A dy st tn)) → H0 st = none → H0 tn = none → H' st = some (.dK (a8 s.r ds dy)) → H' tn = some (.dK (kK (a8 s.r ds dy))) → Q .bI H'
def qZ (K:W.Frag) (CD CR CE CA NB NA ND:Addr):Sp:=fun vs H Q E=>∃ b v dv,vs = [b,v,dv] ∧ Own K H dv ∧ ((vD K H CE b ∧ ∀ H',aG H H' → E (.ref NB) none H') ∨ ∃ es,gE H CE b es ∧ es.length ≤ 500 ∧ ((∃ p,eC K H CA (aZ es).r v p ∧ ∀ x H',aG H H' → H' x = some (.xd [("place",.int p)]) → E (.ref NA) (some x) H') ∨
 ∃ us ds,cO H CA (aZ es).r v us ds ∧ (∀ x ∈ ds,bX (.str x.z) = true) ∧ (inR 1000000 dv = false → ∀ H',aG H H' → E (.ref ND) none H') ∧ (∀ dy,dv = .int dy → inR 1000000 (V.int dy) = true → ∀ a dx A st tn H',aG H H' → H a = none → H' a = some (.ins CD dx (AE A dy st tn)) → eM H' CR CE A (aZ es) → H st = none → H tn = none → H' st = some (.dK (a8 (aZ es).r ds dy)) → H' tn = some (.dK (kK (a8 (aZ es).r ds dy))) → A.o3 ≠ tn → Q (.ref a) H')))
def oB (K:W.Frag) (CE CA NB NA ND:Addr):Sp:=fun vs H Q E=>∃ b v dv,vs = [b,v,dv] ∧ Own K H dv ∧ ((vD K H CE b ∧ ∀ H',aG H H' → E (.ref NB) none H') ∨ ∃ es,gE H CE b es ∧ es.length ≤ 500 ∧ ((∃ p,eC K H CA (aZ es).r v p ∧ ∀ x H',aG H H' → H' x = some (.xd [("place",.int p)]) → E (.ref NA) (some x) H') ∨
 ∃ us ds,cO H CA (aZ es).r v us ds ∧ (∀ x ∈ ds,bX (.str x.z) = true) ∧ (inR 1000000 dv = false → ∀ H',aG H H' → E (.ref ND) none H') ∧ (∀ dy,dv = .int dy → inR 1000000 (V.int dy) = true → ∀ st H',aG H H' → H st = none → H' st = some (.dK (a8 (aZ es).r ds dy)) → Q (.ref st) H')))
def zJ:Sp:=fun vs H Q _=>∃ l ws es dl us ds r,vs = [.ref l,.ref dl,.int r] ∧ H l = some (.lst ws) ∧ d8 H ws es ∧ es.length ≤ 84 ∧ H dl = some (.lst us) ∧ ek H us ds ∧ ds.length ≤ 84 ∧ 0 ≤ r ∧ ∀ (dy:Int) H',aG H H' → 1 ≤ dy → dy ≤ 1000000 → Q (.int dy) H'
theorem uZ (ms:List Int) (a b:Nat):∃ cs:List Int,fZ (ms.map V.int) (some (a:Int)) (some (b:Int)) = cs.map V.int ∧ cs.length ≤ b - a:=by
 refine ⟨(ms.drop (min a ms.length)).take (min b ms.length - min a ms.length),?_,?_⟩
 ·unfold fZ
  rw [HT.jw,HT.jw,List.length_map,← List.map_drop,← List.map_take]
 ·rw [List.length_take]
  omega
def mh (ds:List Dd) (dy n:Int):Str:=match (ds.filter (km dy n)).getLast? with | none=>Str.ofString "leave" | some x=>x.z
theorem qS (ds:List Dd) (dy n:Int):cT ds dy n = jO (mh ds dy n):=by
 unfold cT mh
 cases (ds.filter (km dy n)).getLast? with
 | none=>decide +kernel
 | some x=>rfl
theorem sJ {ds:List Dd} {dy n:Int} (h:∀ x ∈ ds,bX (.str x.z) = true):bX (.str (mh ds dy n)) = true:=by
 unfold mh
 cases q:(ds.filter (km dy n)).getLast? with
 | none=>decide +kernel
 | some x=>exact h x (List.mem_filter.mp (List.mem_of_getLast? q)).1
def numbered:List Int → Nat → List (Key × V)
 | [],_=>[]
 | n :: r,k=>(Sum.inl n,.int (k:Int)) :: numbered r (k + 1)
theorem ly:∀ (l:List Int) (k:Nat),(numbered l k).map (·.1) = l.map (Sum.inl:Int → Key)
 | [],_=>rfl
 | n :: r,k=>by
  show _ :: (numbered r (k + 1)).map (·.1) = _
  rw [ly r (k + 1)]
  rfl
theorem pU (l:List Int) (k:Nat):(numbered l k).length = l.length:=by
 rw [← List.length_map (f:=fun p:Key × V=>p.1),ly,List.length_map]
theorem rL:∀ (l:List Int) (k i:Nat),(numbered l k)[i]? = l[i]?.map fun n=>((Sum.inl n:Key),V.int ((k + i:Nat):Int))
 | [],_,_=>rfl
 | n :: r,k,0=>rfl
 | n :: r,k,i + 1=>by
  show (numbered r (k + 1))[i]? = _
  rw [rL r (k + 1) i,List.getElem?_cons_succ,Nat.add_assoc,Nat.add_comm 1]
theorem pb:∀ (l:List Int) (k:Nat) (acc:List (Key × V)),(∀ n ∈ l,bF acc (Sum.inl n) = none) → l.Nodup → dJ l k acc = acc ++ numbered l k
 | [],_,acc,_,_=>(List.append_nil acc).symm
 | n :: r,k,acc,h,nd=>by
  rw [List.nodup_cons] at nd
  show dJ r (k + 1) (putK acc (Sum.inl n) (.int (k:Int))) = _
  rw [pb r (k + 1) _ (fun m hm=>?_) nd.2,df (h n (List.mem_cons_self ..)),List.append_assoc]
  ·rfl
  ·rw [pS,if_neg (fun z=>nd.1 (by rw [← Sum.inl.inj z]; exact hm))]
   exact h m (List.mem_cons_of_mem _ hm)
def b8 (R:List Rt) (dy:Int):List Int:=((dX R).filter fun x=>decide (x.e.d ≤ dy)).map (·.e.n)
def lW (z:Str) (ds:List Dd) (dy n:Int):Bool:=decide (V.str (cT ds dy n) = V.str z)
theorem fk (z:Str) (R:List Rt) (ds:List Dd) (dy:Int):numsOf z (a8 R ds dy) = (b8 R dy).filter (lW z ds dy):=by
 unfold numsOf a8 b8
 rw [List.filter_map,List.filter_map,List.map_map]
 rfl
def gR (R:List Rt) (ds:List Dd) (dy:Int):List Int:=(b8 R dy).filter (lW (Str.ofString "kept") ds dy) ++ (b8 R dy).filter (lW (Str.ofString "plain") ds dy)
def bY (R:List Rt) (rk:Str) (n:Int):Bool:=match ao R n with | none=>false | some x=>decide (V.str x.e.r = V.str rk)
def cD (R:List Rt) (ds:List Dd) (dy:Int) (rk:Str):List Int:=(gR R ds dy).filter (bY R rk)
def free (ds:List Dd) (dy n:Int):Bool:=!decide (V.str (mh ds dy n) = V.str (Str.ofString "strike"))
theorem ve {R:List Rt} (nd:(R.map (·.e.n)).Nodup) (dy:Int):(b8 R dy).Nodup:=by
 unfold b8 dX
 exact nd.sublist ((List.filter_sublist.trans List.filter_sublist).map _)
theorem oz {R:List Rt} (nd:(R.map (·.e.n)).Nodup) {dy n:Int} (h:n ∈ b8 R dy):∃ x ∈ R,ao R n = some x:=by
 obtain ⟨x,hx,rfl⟩:=List.mem_map.mp h
 have hx:=(List.mem_filter.mp (List.mem_filter.mp hx).1).1
 exact ⟨x,hx,bR nd hx⟩
theorem jD (R:List Rt) (dy:Int):(b8 R dy).length ≤ R.length:=by
 unfold b8 dX
 rw [List.length_map]
 exact Nat.le_trans (List.length_filter_le ..) (List.length_filter_le ..)
theorem wK {ds:List Dd} (h:∀ x ∈ ds,bX (.str x.z) = true) (dy n:Int):(lW (Str.ofString "kept") ds dy n = decide (mh ds dy n = Str.ofString "keep")) ∧ free ds dy n = (lW (Str.ofString "kept") ds dy n || lW (Str.ofString "plain") ds dy n) ∧ (lW (Str.ofString "kept") ds dy n && lW (Str.ofString "plain") ds dy n) = false:=by
 unfold lW free
 rw [qS]
 rcases lK (sJ (dy:=dy) (n:=n) h) with w | w | w <;> rw [w] <;> decide +kernel
theorem pP {k p s:Int → Bool}:∀ {l:List Int},(∀ n,s n = (k n || p n) ∧ (k n && p n) = false) → (l.filter k ++ l.filter p).Perm (l.filter s)
 | [],_=>List.Perm.refl _
 | a :: l,h=>by
  have ih:=pP (l:=l) h
  obtain ⟨h1,h2⟩:=h a
  rw [List.filter_cons,List.filter_cons,List.filter_cons,h1]
  cases hk:k a <;> cases hp:p a <;> rw [hk,hp] at h2
  ·exact ih
  ·exact List.perm_middle.trans (ih.cons _)
  ·exact ih.cons _
  ·cases h2
theorem xC {R:List Rt} (nd:(R.map (·.e.n)).Nodup) {ds:List Dd} (h:∀ x ∈ ds,bX (.str x.z) = true) (dy:Int):(gR R ds dy).Nodup:=(pP (s:=free ds dy) fun n=>(wK h dy n).2).nodup_iff.mpr ((ve nd dy).filter _)
theorem pL {R:List Rt} (nd:(R.map (·.e.n)).Nodup) {ds:List Dd} (h:∀ x ∈ ds,bX (.str x.z) = true) (dy:Int):kK (a8 R ds dy) = numbered (gR R ds dy) 0:=by
 unfold kK
 rw [fk,fk]
 exact pb _ 0 [] (fun _ _=>rfl) (xC nd h dy)
theorem rY {R:List Rt} {ds:List Dd} {dy n:Int} (h:n ∈ gR R ds dy):n ∈ b8 R dy:=by
 rcases List.mem_append.mp h with q | q <;> exact (List.mem_filter.mp q).1
theorem uk (R:List Rt) (ds:List Dd) (dy:Int):(gR R ds dy).length ≤ 2 * R.length:=by
 have h1:=jD R dy
 have h2:=List.length_filter_le (lW (Str.ofString "kept") ds dy) (b8 R dy)
 have h3:=List.length_filter_le (lW (Str.ofString "plain") ds dy) (b8 R dy)
 unfold gR
 rw [List.length_append]
 omega
theorem uP {v:V} (h:cw v = true):∃ z,v = .str z:=by
 cases v with
 | str z=>exact ⟨z,rfl⟩
 | _=>cases h
def xJ (K:W.Frag) (CE CA NB NA ND NR:Addr):Sp:=fun vs H Q E=>∃ b v dv rv,vs = [b,v,dv,rv] ∧ Own K H dv ∧ Own K H rv ∧ ((vD K H CE b ∧ ∀ H',aG H H' → E (.ref NB) none H') ∨ ∃ es,gE H CE b es ∧ es.length ≤ 500 ∧ ((∃ p,eC K H CA (aZ es).r v p ∧ ∀ x H',aG H H' → H' x = some (.xd [("place",.int p)]) → E (.ref NA) (some x) H') ∨
 ∃ us ds,cO H CA (aZ es).r v us ds ∧ (∀ x ∈ ds,bX (.str x.z) = true) ∧ (inR 1000000 dv = false → ∀ H',aG H H' → E (.ref ND) none H') ∧ (∀ dy,dv = .int dy → inR 1000000 (V.int dy) = true → (cw rv = false → ∀ H',aG H H' → E (.ref NR) none H') ∧ ∀ rk,rv = .str rk → cw rv = true → ∀ q H',aG H H' → H q = none → H' q = some (.lst ((cD (aZ es).r ds dy rk).map V.int)) → Q (.ref q) H')))
theorem nM {α:Type} {f:α → Int} {d:Int}:∀ {l:List α},l.Pairwise (fun x y=>f x ≤ f y) → l.filter (fun x=>decide (f x ≤ d)) = l.take (l.filter (fun x=>decide (f x ≤ d))).length ∧ l.filter (fun x=>decide (f x > d)) = l.drop (l.filter (fun x=>decide (f x ≤ d))).length
 | [],_=>⟨rfl,rfl⟩
 | x :: r,h=>by
  rw [List.pairwise_cons] at h
  obtain ⟨i1,i2⟩:=nM h.2
  by_cases hx:f x ≤ d
  ·rw [List.filter_cons_of_pos (p:=fun x=>decide (f x ≤ d)) (decide_eq_true hx),List.filter_cons_of_neg (p:=fun x=>decide (f x > d)) (by rw [decide_eq_false (by omega)]; decide),List.length_cons,List.take_succ_cons,List.drop_succ_cons,← i1]
   exact ⟨rfl,i2⟩
  ·have e1:r.filter (fun x=>decide (f x ≤ d)) = []:=List.filter_eq_nil_iff.mpr fun y hy z=>by
    have:=h.1 y hy
    have:=of_decide_eq_true z
    omega
   have e2:r.filter (fun x=>decide (f x > d)) = r:=List.filter_eq_self.mpr fun y hy=>decide_eq_true (by
    have:=h.1 y hy
    omega)
   rw [List.filter_cons_of_neg (p:=fun x=>decide (f x ≤ d)) (by rw [decide_eq_false hx]; decide),List.filter_cons_of_pos (p:=fun x=>decide (f x > d)) (decide_eq_true (by omega)),e1,e2]
   exact ⟨rfl,rfl⟩
theorem rh (ds:List Dd) (dy n:Int):ds.filter (km dy n) = (ds.filter fun x=>decide (x.d ≤ dy)).filter fun x=>decide (x.n = n):=by
 rw [List.filter_filter]
 refine List.filter_congr fun x _=>?_
 unfold km
 rw [Bool.and_comm]
theorem jY {ds ds':List Dd} {a b:Int} (h:(ds.filter fun x=>decide (x.d ≤ a)) = ds'.filter fun x=>decide (x.d ≤ b)) (n:Int):cT ds a n = cT ds' b n:=by
 unfold cT
 rw [rh,rh,h]
theorem m7 {R R':List Rt} {ds ds':List Dd} {a b:Int} (hr:(dX R).filter (fun x=>decide (x.e.d ≤ a)) = (dX R').filter fun x=>decide (x.e.d ≤ b)) (hd:(ds.filter fun x=>decide (x.d ≤ a)) = ds'.filter fun x=>decide (x.d ≤ b)) (hk:∀ n ∈ b8 R a,∀ rk,bY R rk n = bY R' rk n):a8 R ds a = a8 R' ds' b ∧ ∀ rk,cD R ds a rk = cD R' ds' b rk:=by
 have e1:b8 R a = b8 R' b:=by unfold b8; rw [hr]
 have e2:∀ z n,lW z ds a n = lW z ds' b n:=fun z n=>by unfold lW; rw [jY hd n]
 constructor
 ·unfold a8
  rw [hr]
  exact List.map_congr_left fun x _=>by rw [jY hd]
 ·intro rk
  have e3:gR R ds a = gR R' ds' b:=by
   unfold gR
   rw [e1,List.filter_congr fun n _=>e2 (Str.ofString "kept") n,List.filter_congr fun n _=>e2 (Str.ofString "plain") n]
  unfold cD
  rw [List.filter_congr (q:=bY R' rk) fun n hn=>hk n (rY hn) rk,e3]
theorem tW {R r:List Rt} {dy:Int} (h:∀ x ∈ r,dy < x.e.d):(dX (R ++ r)).filter (fun x=>decide (x.e.d ≤ dy)) = (dX R).filter fun x=>decide (x.e.d ≤ dy):=by
 unfold dX
 have e:(r.filter fun x:Rt=>decide (x.e.b = none)).filter (fun x=>decide (x.e.d ≤ dy)) = []:=List.filter_eq_nil_iff.mpr fun x hx z=>by
  have:=h x (List.mem_filter.mp hx).1
  have:=of_decide_eq_true z
  omega
 rw [List.filter_append,List.filter_append,e,List.append_nil]
theorem vg {es:List En} (okk:∀ e ∈ es,ij e) (nd:(es.map (·.n)).Nodup) {j:Nat} {dy:Int} {ds ds':List Dd} (hj:∀ e ∈ es.drop j,dy < e.d) (hd:(ds'.filter fun x=>decide (x.d ≤ dy)) = ds.filter fun x=>decide (x.d ≤ dy)):a8 (aZ (es.take j)).r ds' dy = a8 (aZ es).r ds dy ∧ ∀ rk,cD (aZ (es.take j)).r ds' dy rk = cD (aZ es).r ds dy rk:=by
 obtain ⟨_,_,r,_,_,er,hr⟩:=om (es.take j) (es.drop j)
 rw [List.take_append_drop] at er
 have rn:=(gO okk nd).rn
 refine m7 ?_ hd fun n hn rk=>?_
 ·rw [er,tW fun x hx=>hj _ (hr x hx)]
 ·have rn':((aZ (es.take j)).r.map (·.e.n)).Nodup:=by
   rw [er,List.map_append] at rn
   exact (List.nodup_append.mp rn).1
  obtain ⟨x,hx,hf⟩:=oz rn' hn
  unfold bY
  rw [er,fY hf,hf]
theorem qX {R:List Rt} {ds:List Dd} {a b:Int} (hab:a ≤ b) (h1:∀ x ∈ R,x.e.b = none → a < x.e.d → b < x.e.d) (h2:∀ x ∈ ds,a < x.d → b < x.d):a8 R ds a = a8 R ds b ∧ ∀ rk,cD R ds a rk = cD R ds b rk:=by
 refine m7 (List.filter_congr fun x hx=>?_) (List.filter_congr fun x hx=>?_) fun n hn rk=>rfl
 ·have hx:=List.mem_filter.mp hx
  have:=h1 x hx.1 (of_decide_eq_true hx.2)
  by_cases z:x.e.d ≤ a
  ·rw [decide_eq_true z,decide_eq_true (by omega)]
  ·rw [decide_eq_false z,decide_eq_false (by have:=this (by omega); omega)]
 ·have:=h2 x hx
  by_cases z:x.d ≤ a
  ·rw [decide_eq_true z,decide_eq_true (by omega)]
  ·rw [decide_eq_false z,decide_eq_false (by have:=this (by omega); omega)]
theorem cz.cut {es:List En} {ds:List Dd} (h:cz (aZ es).r ds) (j m:Nat) (hd:∀ x ∈ ds.take m,∀ e ∈ es.drop j,x.d < e.d):cz (aZ (es.take j)).r (ds.take m):=by
 obtain ⟨_,_,r,_,_,er,hr⟩:=om (es.take j) (es.drop j)
 rw [List.take_append_drop] at er
 refine ⟨fun x hx=>?_,fun i x y hx hy=>?_⟩
 ·obtain ⟨g1,g2,g3,y,hy,e1,e2,e3⟩:=h.each x (List.mem_of_mem_take hx)
  refine ⟨g1,g2,g3,y,?_,e1,e2,e3⟩
  rw [er] at hy
  rcases List.mem_append.mp hy with q | q
  ·exact q
  ·have:=hd x hx _ (hr y q)
   omega
 ·rw [List.getElem?_take] at hx hy
  split at hx
  ·split at hy
   ·exact h.rise i x y hx hy
   ·cases hy
  ·cases hx
theorem cz.pw {R:List Rt} {ds:List Dd} (h:cz R ds):ds.Pairwise fun x y=>x.d ≤ y.d:=by
 have key:∀ (k i:Nat) x y,ds[i]? = some x → ds[i + k]? = some y → x.d ≤ y.d:=by
  intro k
  induction k with
  | zero=>intro i x y hx hy; rw [Nat.add_zero,hx] at hy; cases hy; exact Int.le_refl _
  | succ k ih =>
   intro i x y hx hy
   have hl:=(List.getElem?_eq_some_iff.mp hy).1
   obtain ⟨z,hz⟩:∃ z,ds[i + k]? = some z:=⟨_,List.getElem?_eq_getElem (by omega)⟩
   have h1:=ih i x z hx hz
   have h2:=h.rise (i + k) z y hz hy
   omega
 rw [List.pairwise_iff_getElem]
 intro i j hi hj hij
 exact key (j - i) i _ _ (List.getElem?_eq_getElem hi) (by rw [show i + (j - i) = j by omega]; exact List.getElem?_eq_getElem hj)
theorem ko:∀ {es:List En} {seen:List Int} {last:Option En},bL seen last (es.map some) = true → es.Pairwise (fun x y=>x.d ≤ y.d) ∧ ∀ l,last = some l → ∀ e ∈ es,l.d ≤ e.d
 | [],_,_,_=>⟨.nil,fun _ _ _ h=>nomatch h⟩
 | e :: r,seen,last,h=>by
  have h:(!seen.contains e.n && (dj last e && bL (seen ++ [e.n]) (some e) (r.map some))) = true:=h
  rw [Bool.and_eq_true,Bool.and_eq_true] at h
  obtain ⟨_,h1,h2⟩:=h
  obtain ⟨p1,p2⟩:=ko h2
  refine ⟨List.pairwise_cons.mpr ⟨fun y hy=>p2 e rfl y hy,p1⟩,fun l hl x hx=>?_⟩
  subst hl
  have h1:(if l.d = e.d then (if l.n = e.n then false else decide (l.n < e.n)) else decide (l.d < e.d)) = true:=h1
  have h3:l.d ≤ e.d:=by
   by_cases z:l.d = e.d
   ·omega
   ·rw [if_neg z] at h1
    have:=of_decide_eq_true h1
    omega
  rcases List.mem_cons.mp hx with q | q
  ·rw [q]; exact h3
  ·have:=p2 e rfl x q
   omega
theorem mI:∀ {es:List En} {seen:List Int} {last:Option En} (j:Nat),bL seen last (es.map some) = true → bL seen last ((es.take j).map some) = true
 | [],_,_,j,h=>by rw [List.take_nil]; exact h
 | e :: r,seen,last,0,h=>rfl
 | e :: r,seen,last,j + 1,h=>by
  have h:(!seen.contains e.n && (dj last e && bL (seen ++ [e.n]) (some e) (r.map some))) = true:=h
  show (!seen.contains e.n && (dj last e && bL (seen ++ [e.n]) (some e) ((r.take j).map some))) = true
  rw [Bool.and_eq_true,Bool.and_eq_true] at h
  rw [Bool.and_eq_true,Bool.and_eq_true]
  exact ⟨h.1,h.2.1,mI j h.2.2⟩
theorem oP (R:List Rt) (ds:List Dd) (dy:Int) (rk:Str):cD R ds dy rk = ((b8 R dy).filter (lW (Str.ofString "kept") ds dy)).filter (bY R rk) ++ ((b8 R dy).filter (lW (Str.ofString "plain") ds dy)).filter (bY R rk):=by
 unfold cD gR
 rw [List.filter_append]
structure jn (H:Hp) (q d:Addr) (S:List (Key × V)) (O:Str → List Int):Prop where
 ex:∃ o1 o2 o3,H q = some (.lst [.ref d,.ref o1,.ref o2,.ref o3]) ∧ H o1 = some (.lst ((O (Str.ofString "genus")).map V.int)) ∧ H o2 = some (.lst ((O (Str.ofString "species")).map V.int)) ∧ H o3 = some (.lst ((O (Str.ofString "form")).map V.int))
 dt:H d = some (.dK S)
theorem jn.same {H H':Hp} {q d:Addr} {S:List (Key × V)} {O:Str → List Int} (h:jn H q d S O) (s:aG H H'):jn H' q d S O :=
 ⟨let ⟨o1,o2,o3,a,b,c,e⟩:=h.ex; ⟨o1,o2,o3,s _ _ a,s _ _ b,s _ _ c,s _ _ e⟩,s _ _ h.dt⟩
theorem eJ {R:List Rt} {ds:List Dd} {dy:Int}:(∀ p ∈ a8 R ds dy,∃ m:Int,p.1 = Sum.inl m) ∧ ∀ p ∈ a8 R ds dy,b5 p.2 = true:=by
 constructor <;> intro p hp <;> obtain ⟨x,_,_,_,rfl⟩:=jP hp
 ·exact ⟨_,rfl⟩
 ·rfl
theorem mi {R:List Rt} (nd:(R.map (·.e.n)).Nodup) {ds:List Dd} {dy:Int}:∀ p ∈ a8 R ds dy,bF (a8 R ds dy) p.1 = some p.2:=fun p hp=>by
 refine gh ?_ hp
 unfold a8 dX
 rw [List.map_map]
 have:=nd.sublist ((List.filter_sublist (p:=fun x:Rt=>decide (x.e.d ≤ dy)).trans (List.filter_sublist (p:=fun x:Rt=>decide (x.e.b = none)))).map fun x:Rt=>x.e.n)
 have h2:((((R.filter fun x:Rt=>decide (x.e.b = none)).filter fun x=>decide (x.e.d ≤ dy)).map fun x:Rt=>x.e.n).map (Sum.inl:Int → Key)).Nodup:=this.map _ fun a b h z=>h (Sum.inl.inj z)
 rw [List.map_map] at h2
 exact h2
theorem i6:∀ (a b:List Int),vi (a.map V.int) (b.map V.int) = decide (a = b)
 | [],[]=>rfl
 | x :: xs,y :: ys=>by
  show (f9 (.int x) (.int y) && vi (xs.map V.int) (ys.map V.int)) = _
  rw [i6 xs ys]
  by_cases h:x = y
  ·by_cases h2:xs = ys
   ·rw [decide_eq_true h2,decide_eq_true (by rw [h,h2])]; simp [f9,h]
   ·rw [decide_eq_false h2,Bool.and_false,decide_eq_false (fun z=>h2 (List.cons.inj z).2)]
  ·have:f9 (.int x) (.int y) = false:=by simp [f9,h]
   rw [this,Bool.false_and,decide_eq_false (fun z=>h (List.cons.inj z).1)]
 | [],_ :: _=>rfl
 | _ :: _,[]=>rfl
theorem rm {K:W.Frag} {H:Hp} {q q' d d':Addr} {R R':List Rt} {ds ds':List Dd} {dy dy':Int} {O O':Str → List Int} (h:jn H q d (a8 R ds dy) O) (h':jn H q' d' (a8 R' ds' dy') O') (ne:d ≠ d') (nd:(R.map (·.e.n)).Nodup):∃ b,bZ K H (xW K H) (.ref q) (.ref q') b ∧ (a8 R ds dy = a8 R' ds' dy' → (∀ rk,O rk = O' rk) → b = true):=by
 obtain ⟨o1,o2,o3,a0,a1,a2,a3⟩:=h.ex
 obtain ⟨p1,p2,p3,b0,b1,b2,b3⟩:=h'.ex
 have fl:=fun (o p:Addr) (x y:List Int) (ho:H o = some (.lst (x.map V.int))) (hp:H p = some (.lst (y.map V.int)))=>(show xW K H (.ref o) (.ref p) (decide (x = y)) from by
  rw [← i6]
  exact .inl (.inr (bZ.vL (ah.of ho) (ah.of hp) (m9 _) (m9 _))))
 refine ⟨_,bZ.list (e:=fun i=>[((a8 R ds dy).length == (a8 R' ds' dy').length && pT (a8 R' ds' dy') (a8 R ds dy)),decide (O (Str.ofString "genus") = O' (Str.ofString "genus")),decide (O (Str.ofString "species") = O' (Str.ofString "species")),decide (O (Str.ofString "form") = O' (Str.ofString "form"))].getD i true) (ah.of a0) (ah.of b0) rfl fun i x y hx hy=>?_,fun e1 e2=>?_⟩
 ·match i,hx,hy with
  | 0,hx,hy=>cases hx; cases hy; exact .inr ⟨d,d',_,_,rfl,rfl,ne,.inl h.dt,.inl h'.dt,eJ.1,eJ.1,eJ.2,eJ.2,rfl⟩
  | 1,hx,hy=>cases hx; cases hy; exact fl _ _ _ _ a1 b1
  | 2,hx,hy=>cases hx; cases hy; exact fl _ _ _ _ a2 b2
  | 3,hx,hy=>cases hx; cases hy; exact fl _ _ _ _ a3 b3
  | i + 4,hx,hy=>cases hx
 ·rw [← e1,mj (mi nd) eJ.2 fun p hp=>hp,beq_self_eq_true,decide_eq_true (e2 _),decide_eq_true (e2 _),decide_eq_true (e2 _)]
  rfl
theorem xG {α:Type} {P:V → α → Prop} {ws us:List V} {es fs:List α} (h:ws.length = es.length ∧ ∀ (j:Nat) v e,ws[j]? = some v → es[j]? = some e → P v e) (h':us.length = fs.length ∧ ∀ (j:Nat) v e,us[j]? = some v → fs[j]? = some e → P v e):(ws ++ us).length = (es ++ fs).length ∧ ∀ (j:Nat) v x,(ws ++ us)[j]? = some v → (es ++ fs)[j]? = some x → P v x:=by
 refine ⟨by rw [List.length_append,List.length_append,h.1,h'.1],fun j v x hv hx=>?_⟩
 rcases Nat.lt_or_ge j ws.length with z | z
 ·rw [List.getElem?_append_left z] at hv
  rw [List.getElem?_append_left (by omega)] at hx
  exact h.2 j v x hv hx
 ·rw [List.getElem?_append_right z] at hv
  rw [List.getElem?_append_right (by omega)] at hx
  exact h'.2 _ v x (by rw [h.1] at hv; exact hv) hx
theorem oK {α:Type} {P:V → α → Prop} {ws:List V} {es:List α} (h:ws.length = es.length ∧ ∀ (j:Nat) v e,ws[j]? = some v → es[j]? = some e → P v e) (i:Nat):(ws.take i).length = (es.take i).length ∧ ∀ (j:Nat) v x,(ws.take i)[j]? = some v → (es.take i)[j]? = some x → P v x:=by
 refine ⟨by rw [List.length_take,List.length_take,h.1],fun j v x hv hx=>?_⟩
 rw [List.getElem?_take] at hv hx
 split at hv
 ·rw [if_pos (by assumption)] at hx
  exact h.2 j v x hv hx
 ·cases hv
theorem vY (xs:List V) (k:Nat):fZ xs (some (k:Int)) none = xs.drop k:=by
 unfold fZ
 rw [HT.jw]
 show (xs.drop (min k xs.length)).take (xs.length - min k xs.length) = _
 rw [List.take_of_length_le (by rw [List.length_drop]; exact Nat.le_refl _)]
 rcases Nat.le_total k xs.length with h | h
 ·rw [Nat.min_eq_left h]
 ·rw [Nat.min_eq_right h,List.drop_length,List.drop_eq_nil_of_le h]
def dF:List Str:=[Str.ofString "genus",Str.ofString "species",Str.ofString "form"]
theorem tH:∀ z ∈ dF,cw (.str z) = true:=by decide +kernel
def zH (CE CA:Addr):Sp:=fun vs H Q _=>∃ b v dy es us ds,vs = [b,v,.int dy] ∧ gE H CE b es ∧ es.length ≤ 84 ∧ cO H CA (aZ es).r v us ds ∧ (∀ x ∈ ds,bX (.str x.z) = true) ∧ 1 ≤ dy ∧ dy ≤ 1000000 ∧ ∀ q d H',aG H H' → H d = none → H q = none → jn H' q d (a8 (aZ es).r ds dy) (cD (aZ es).r ds dy) → Q (.ref q) H'
def tF:Sp:=fun vs H Q _=>∃ q e d kr R ds dy,vs = [.ref q,.ref d] ∧ jn H q e (a8 R ds dy) (cD R ds dy) ∧ H d = some (.dK kr) ∧ Paired (eX H R) R kr ∧ (R.map (·.e.n)).Nodup ∧ R.length < 60 ∧ e ≠ d ∧ ∀ H',aG H H' → Q (.bl true) H'
def wY:Sp:=fun vs H Q _=>∃ l ws es dl us ds d kr R a b,vs = [.ref l,.ref dl,.ref d,.int a,.int b] ∧ H l = some (.lst ws) ∧ d8 H ws es ∧ es.length ≤ 84 ∧ H dl = some (.lst us) ∧ ek H us ds ∧ H d = some (.dK kr) ∧ Paired (eX H R) R kr ∧ ∀ bb H',aG H H' → (bb = true → (∀ e ∈ es,a < e.d → e.d ≤ b → e.b = none → ao R e.n = none) ∧ ∀ x ∈ ds,a < x.d → ¬ x.d ≤ b) → Q (.bl bb) H'
def ug (CE CA:Addr):Sp:=fun vs H Q _=>∃ el ec al ac es ds dy q d,vs = [.ref el,.ref al,.int dy,.ref q] ∧ H el = some (.lst ec) ∧ cg H CE ec es ∧ H al = some (.lst ac) ∧ cV H CA ac ds ∧ qB es ∧ cz (aZ es).r ds ∧ ds.length ≤ 84 ∧ 1 ≤ dy ∧ dy ≤ 1000000 ∧ jn H q d (a8 (aZ es).r ds dy) (cD (aZ es).r ds dy) ∧ ∀ H',aG H H' → Q (.bl true) H'
def vQ (K:W.Frag):Sp:=fun vs H Q _=>∃ (a:Addr) (ns:List Int),vs = [.ref a] ∧ ah K H a (ns.map V.int) ∧ ns.length ≤ 63 ∧ ∀ H',Q (.bl true) H'
def top (i:Nat):Stmt:=PySem.Challenge.pw_rightname_k36_whole_days_gone_by.main.body.getD i (.Pass ⟨0,0,0,0⟩)
abbrev kR:Stmt:=top 16
abbrev oI:Stmt:=top 17
abbrev j3:Stmt:=top 18
abbrev m5:Stmt:=top 19
abbrev md:Stmt:=top 20
abbrev rJ:Stmt:=top 21
abbrev gy:Stmt:=top 24
abbrev iV:Stmt:=top 25
abbrev lJ:Stmt:=top 26
abbrev rj:Stmt:=top 27
abbrev jU:Stmt:=top 28
abbrev iN:Stmt:=top 31
abbrev mE:Stmt:=top 36
abbrev iS:Stmt:=top 37
abbrev iO:Stmt:=top 38
abbrev jV:Stmt:=top 39
abbrev kO:Stmt:=top 40
abbrev gX:Stmt:=top 42
abbrev lM:Stmt:=top 43
abbrev oX:Stmt:=top 44
abbrev j6:Stmt:=top 45
abbrev jS:Stmt:=top 46
abbrev kH:Stmt:=top 47
abbrev lH:Stmt:=top 49
abbrev rP:Stmt:=top 50
abbrev oJ:Stmt:=top 51
abbrev m8:Stmt:=top 52
abbrev pD:Stmt:=top 53
abbrev rq:Stmt:=top 54
abbrev uY:Stmt:=top 55
abbrev rT:Stmt:=top 56
abbrev kX:Stmt:=top 57
abbrev pz:Stmt:=top 58
abbrev pj:Stmt:=top 59
abbrev o8:Stmt:=top 60
abbrev rQ:Stmt:=top 61
abbrev uw:Stmt:=top 62
abbrev vf:Stmt:=top 63
abbrev mf:Stmt:=top 64
abbrev pE:Stmt:=top 65
abbrev r9:Stmt:=top 66
abbrev xn:Stmt:=top 67
abbrev fg:Stmt:=inClass (top 23) 0
abbrev gK:Stmt:=inClass (top 30) 0
abbrev iI:Stmt:=inClass (top 35) 0
abbrev gD:Stmt:=inClass (top 41) 0
abbrev fu:Stmt:=inClass (top 3) 0
abbrev gx:Stmt:=inClass (top 30) 1
abbrev e7:Stmt:=inClass (top 30) 2
abbrev d6:Stmt:=inClass (top 30) 3
theorem qF {vs:List V} {us:List Value} {zs:List V} {ws:List Value} (r:Vals vs us) (rz:Vals zs ws):Vals ((fun us ws=>us ++ (match ws with | []=>[] | _=>[]):List V → List V → List V) vs zs) ((fun us ws=>us ++ (match ws with | []=>[] | _=>[]):List Value → List Value → List Value) us ws):=by
 refine r.append ?_
 cases rz with
 | nil=>exact .nil
 | cons _ _=>exact .nil
theorem qK {K:W.Frag} {T f:Addr} {fd:FuncData} {o:Obj} {n:Nat} (F:k8 K "__init__" "Entry.__init__" fg (.ref T) f fd) (hT:K.lookup T = some o) (hs:o.data = .seq #[.none,.none,.none,.bool true] n):cI K fd ["self", "number", "day", "rank", "word", "under", "sheet", "base", "described"] [] 8 (fun us ws=>us ++ (match ws with | []=>[] | _=>[])) (fun us ws=>us ++ (match ws with | []=>[] | _=>[])) :=
 .ofD F hT hs qF fun _ _ _ _ _ _ y us ws h1 h2=>by
  obtain ⟨a0,us0,rfl,g0⟩:=iL h1
  obtain ⟨a1,us1,rfl,g1⟩:=iL g0
  obtain ⟨a2,us2,rfl,g2⟩:=iL g1
  obtain ⟨a3,us3,rfl,g3⟩:=iL g2
  obtain ⟨a4,us4,rfl,g4⟩:=iL g3
  obtain ⟨a5,us5,rfl,g5⟩:=iL g4
  obtain ⟨a6,us6,rfl,g6⟩:=iL g5
  obtain ⟨a7,us7,rfl,g7⟩:=iL g6
  obtain rfl:=len0 g7
  obtain rfl:=len0 h2
  exact ⟨⟨_,rfl,rfl⟩,rfl⟩
theorem vS {K:W.Frag} {f:Addr} {fd:FuncData} (F:k8 K "__init__" "Act.__init__" iI .none f fd):cI K fd ["self", "day", "deed", "number"] [] 3 (fun us _=>us) (fun us _=>us) :=
 .of0 F fun _ _ _ _ _ _ y us h1=>by
  obtain ⟨a0,us0,rfl,g0⟩:=iL h1
  obtain ⟨a1,us1,rfl,g1⟩:=iL g0
  obtain ⟨a2,us2,rfl,g2⟩:=iL g1
  obtain rfl:=len0 g2
  exact ⟨rfl,rfl⟩
theorem rB {K:W.Frag} {T f:Addr} {fd:FuncData} {o:Obj} {n:Nat} {tk:Tok} (F:k8 K "__init__" "NoAct.__init__" fu (.ref T) f fd) (hT:K.lookup T = some o) (hs:o.data = .seq #[.int 0 tk] n):cI K fd ["self", "words", "place"] [] 2 (fun us _=>us ++ []) (fun us _=>us ++ []) :=
 .ofD F hT hs (fun r _=>r.append .nil) fun _ _ _ _ _ _ y us ws h1 h2=>by
  obtain ⟨a0,us0,rfl,g0⟩:=iL h1
  obtain ⟨a1,us1,rfl,g1⟩:=iL g0
  obtain rfl:=len0 g1
  obtain rfl:=len0 h2
  exact ⟨⟨_,rfl,rfl⟩,rfl⟩
structure Fn (K:W.Frag) (mg:Str → Option Value) (x:Str) (st:Stmt) (ps:List Str) (f:Addr) (fd:FuncData):Prop where
 fn:sR K x x st f fd
 mgf:mg x = some (.ref f)
 bi:Binds K fd ps []
theorem Fn.kp {K:W.Frag} {mg:Str → Option Value} {x:Str} {st:Stmt} {ps:List Str} {f:Addr} {fd:FuncData} (F:Fn K mg x st ps f fd):W.keepIn K (.ref f) = true:=F.fn.kp
set_option genInjectivity false in
set_option genSizeOfSpec false in
set_option genSizeOf false in
structure Ad where
 a_is_whole:Addr
 d_is_whole:FuncData
 a_is_day:Addr
 d_is_day:FuncData
 a_is_number:Addr
 d_is_number:FuncData
 a_is_word:Addr
 d_is_word:FuncData
 a_is_rank:Addr
 d_is_rank:FuncData
 a_above:Addr
 d_above:FuncData
 a_refuse_head:Addr
 d_refuse_head:FuncData
 a_under_fits:Addr
 d_under_fits:FuncData
 a_tie_fits:Addr
 d_tie_fits:FuncData
 a_ahead:Addr
 d_ahead:FuncData
 a_book_list:Addr
 d_book_list:FuncData
 a_results_of:Addr
 d_results_of:FuncData
 a_is_deed:Addr
 d_is_deed:FuncData
 a_refuse_day:Addr
 d_refuse_day:FuncData
 a_can_follow:Addr
 d_can_follow:FuncData
 a_acts_with:Addr
 d_acts_with:FuncData
 a_act_list:Addr
 d_act_list:FuncData
 a_standings_of:Addr
 d_standings_of:FuncData
 a_turns_of:Addr
 d_turns_of:FuncData
 a_of_day:Addr
 d_of_day:FuncData
 a_day_books:Addr
 d_day_books:FuncData
 a_standings:Addr
 d_standings:FuncData
 a_in_order:Addr
 d_in_order:FuncData
 a_Lcell_at:Addr
 d_Lcell_at:FuncData
 a_Ldraw:Addr
 d_Ldraw:FuncData
 a_Lwords:Addr
 d_Lwords:FuncData
 a_Lsheets:Addr
 d_Lsheets:FuncData
 a_Lunder:Addr
 d_Lunder:FuncData
 a_Lbase:Addr
 d_Lbase:FuncData
 a_Lrow:Addr
 d_Lrow:FuncData
 a_Lrows:Addr
 d_Lrows:FuncData
 a_Lentries:Addr
 d_Lentries:FuncData
 a_Lright:Addr
 d_Lright:FuncData
 a_Lroots:Addr
 d_Lroots:FuncData
 a_Ldeeds:Addr
 d_Ldeeds:FuncData
 a_Lacts:Addr
 d_Lacts:FuncData
 a_Lall:Addr
 d_Lall:FuncData
 a_Lday:Addr
 d_Lday:FuncData
 a_Lorders:Addr
 d_Lorders:FuncData
 a_Lquiet:Addr
 d_Lquiet:FuncData
 a_Ltold:Addr
 d_Ltold:FuncData
 a_law:Addr
 d_law:FuncData
 c_Entry:Addr
 a_Entry_init:Addr
 t_Entry_init:Addr
 d_Entry_init:FuncData
 c_Results:Addr
 a_Results_init:Addr
 d_Results_init:FuncData
 c_Act:Addr
 a_Act_init:Addr
 d_Act_init:FuncData
 c_DayBooks:Addr
 a_DayBooks_init:Addr
 d_DayBooks_init:FuncData
 a_Results_put:Addr
 d_Results_put:FuncData
 a_Results_name_of:Addr
 d_Results_name_of:FuncData
 a_Results_outcome_of:Addr
 d_Results_outcome_of:FuncData
 u_MOST_LETTERS:Value
 u_LAST_DAY:Value
 u_LAST_NUMBER:Value
 u_RANKS:Addr
 u_DEEDS:Addr
 u_STANDING_BY:Addr
 u_ABOVE:Addr
 c_RightError:Addr
 c_NoRank:Addr
 c_NoNumber:Addr
 c_NoDay:Addr
 c_NoWord:Addr
 c_NoBook:Addr
 c_NoAct:Addr
 c_NoEntry:Addr
 a_NoAct_init:Addr
 t_NoAct_init:Addr
 d_NoAct_init:FuncData
structure Txt (w:World) (K:W.Frag) (mg:Str → Option Value) (c:Ad):Prop where
 is_whole:Fn K mg "is_whole" kR ["thing"] c.a_is_whole c.d_is_whole
 is_day:Fn K mg "is_day" oI ["thing"] c.a_is_day c.d_is_day
 is_number:Fn K mg "is_number" j3 ["thing"] c.a_is_number c.d_is_number
 is_word:Fn K mg "is_word" m5 ["thing"] c.a_is_word c.d_is_word
 is_rank:Fn K mg "is_rank" md ["thing"] c.a_is_rank c.d_is_rank
 above:Fn K mg "above" rJ ["rank"] c.a_above c.d_above
 refuse_head:Fn K mg "refuse_head" gy ["number", "day", "rank", "word"] c.a_refuse_head c.d_refuse_head
 under_fits:Fn K mg "under_fits" iV ["rank", "under"] c.a_under_fits c.d_under_fits
 tie_fits:Fn K mg "tie_fits" lJ ["rank", "sheet", "base"] c.a_tie_fits c.d_tie_fits
 ahead:Fn K mg "ahead" rj ["one", "other"] c.a_ahead c.d_ahead
 book_list:Fn K mg "book_list" jU ["entries"] c.a_book_list c.d_book_list
 results_of:Fn K mg "results_of" iN ["book"] c.a_results_of c.d_results_of
 is_deed:Fn K mg "is_deed" mE ["thing"] c.a_is_deed c.d_is_deed
 refuse_day:Fn K mg "refuse_day" iS ["day"] c.a_refuse_day c.d_refuse_day
 can_follow:Fn K mg "can_follow" iO ["results", "ahead_of_it", "thing"] c.a_can_follow c.d_can_follow
 acts_with:Fn K mg "acts_with" jV ["results", "acts"] c.a_acts_with c.d_acts_with
 act_list:Fn K mg "act_list" kO ["entries", "acts"] c.a_act_list c.d_act_list
 standings_of:Fn K mg "standings_of" gX ["results", "acts", "day"] c.a_standings_of c.d_standings_of
 turns_of:Fn K mg "turns_of" lM ["standing"] c.a_turns_of c.d_turns_of
 of_day:Fn K mg "of_day" oX ["entries", "acts", "day"] c.a_of_day c.d_of_day
 day_books:Fn K mg "day_books" j6 ["entries", "acts", "day"] c.a_day_books c.d_day_books
 standings:Fn K mg "standings" jS ["entries", "acts", "day"] c.a_standings c.d_standings
 in_order:Fn K mg "in_order" kH ["entries", "acts", "day", "rank"] c.a_in_order c.d_in_order
 Lcell_at:Fn K mg "_law_cell_at" lH ["_law_script", "_law_k"] c.a_Lcell_at c.d_Lcell_at
 Ldraw:Fn K mg "_law_draw" rP ["_law_cell", "_law_place"] c.a_Ldraw c.d_Ldraw
 Lwords:Fn K mg "_law_words" oJ ["_law_cell"] c.a_Lwords c.d_Lwords
 Lsheets:Fn K mg "_law_sheets" m8 ["_law_cell"] c.a_Lsheets c.d_Lsheets
 Lunder:Fn K mg "_law_under" pD ["_law_rows_here", "_law_rank", "_law_draw_here"] c.a_Lunder c.d_Lunder
 Lbase:Fn K mg "_law_base" rq ["_law_rows_here", "_law_rank", "_law_word", "_law_draw_here"] c.a_Lbase c.d_Lbase
 Lrow:Fn K mg "_law_row" uY ["_law_rows_here", "_law_cell", "_law_k", "_law_words_here", "_law_sheets_here"] c.a_Lrow c.d_Lrow
 Lrows:Fn K mg "_law_rows" rT ["_law_cells", "_law_words_here", "_law_sheets_here"] c.a_Lrows c.d_Lrows
 Lentries:Fn K mg "_law_entries" kX ["_law_rows_here"] c.a_Lentries c.d_Lentries
 Lright:Fn K mg "_law_right" pz ["_law_rows_here"] c.a_Lright c.d_Lright
 Lroots:Fn K mg "_law_roots" pj ["_law_right_here"] c.a_Lroots c.d_Lroots
 Ldeeds:Fn K mg "_law_deeds" o8 ["_law_cells", "_law_right_here"] c.a_Ldeeds c.d_Ldeeds
 Lacts:Fn K mg "_law_acts" rQ ["_law_deeds_here"] c.a_Lacts c.d_Lacts
 Lall:Fn K mg "_law_all" uw ["_law_entries_here", "_law_acts_here", "_law_day_here"] c.a_Lall c.d_Lall
 Lday:Fn K mg "_law_day" vf ["_law_rows_here", "_law_deeds_here", "_law_draw_here"] c.a_Lday c.d_Lday
 Lorders:Fn K mg "_law_orders" mf ["_law_found", "_law_right_here"] c.a_Lorders c.d_Lorders
 Lquiet:Fn K mg "_law_quiet" pE ["_law_rows_here", "_law_deeds_here", "_law_right_here", "_law_day_here", "_law_late"] c.a_Lquiet c.d_Lquiet
 Ltold:Fn K mg "_law_told" r9 ["_law_entries_here", "_law_acts_here", "_law_day_here", "_law_found"] c.a_Ltold c.d_Ltold
 law:Fn K mg "law" xn ["_law_script"] c.a_law c.d_law
 mg_Entry:mg "Entry" = some (.ref c.c_Entry)
 cl_Entry:rf K c.c_Entry
 mk_Entry:Mk K c.c_Entry c.a_Entry_init
 Entry_init:k8 K "__init__" "Entry.__init__" fg (.ref c.t_Entry_init) c.a_Entry_init c.d_Entry_init
 na_Entry_number:bV K c.c_Entry "number"
 na_Entry_day:bV K c.c_Entry "day"
 na_Entry_rank:bV K c.c_Entry "rank"
 na_Entry_word:bV K c.c_Entry "word"
 na_Entry_under:bV K c.c_Entry "under"
 na_Entry_sheet:bV K c.c_Entry "sheet"
 na_Entry_base:bV K c.c_Entry "base"
 na_Entry_described:bV K c.c_Entry "described"
 b_Entry_8:cI K c.d_Entry_init ["self", "number", "day", "rank", "word", "under", "sheet", "base", "described"] [] 8 (fun us ws=>us ++ (match ws with | []=>[] | _=>[])) (fun us ws=>us ++ (match ws with | []=>[] | _=>[]))
 mg_Results:mg "Results" = some (.ref c.c_Results)
 cl_Results:rf K c.c_Results
 Results_init:sR K "__init__" "Results.__init__" gK c.a_Results_init c.d_Results_init
 bi_Results_init:Binds K c.d_Results_init ["self"] []
 mk_Results:Mk K c.c_Results c.a_Results_init
 na_Results_outs:bV K c.c_Results "outs"
 na_Results_names:bV K c.c_Results "names"
 na_Results_rights:bV K c.c_Results "rights"
 na_Results_holders:bV K c.c_Results "holders"
 mg_Act:mg "Act" = some (.ref c.c_Act)
 cl_Act:rf K c.c_Act
 mk_Act:Mk K c.c_Act c.a_Act_init
 Act_init:k8 K "__init__" "Act.__init__" iI .none c.a_Act_init c.d_Act_init
 na_Act_day:bV K c.c_Act "day"
 na_Act_deed:bV K c.c_Act "deed"
 na_Act_number:bV K c.c_Act "number"
 b_Act_3:cI K c.d_Act_init ["self", "day", "deed", "number"] [] 3 (fun us _=>us) (fun us _=>us)
 mg_DayBooks:mg "DayBooks" = some (.ref c.c_DayBooks)
 cl_DayBooks:rf K c.c_DayBooks
 DayBooks_init:sR K "__init__" "DayBooks.__init__" gD c.a_DayBooks_init c.d_DayBooks_init
 bi_DayBooks_init:Binds K c.d_DayBooks_init ["self", "results", "acts", "day"] []
 mk_DayBooks:Mk K c.c_DayBooks c.a_DayBooks_init
 na_DayBooks_results:bV K c.c_DayBooks "results"
 na_DayBooks_day:bV K c.c_DayBooks "day"
 na_DayBooks_standing:bV K c.c_DayBooks "standing"
 na_DayBooks_turns:bV K c.c_DayBooks "turns"
 Results_put:sR K "put" "Results.put" gx c.a_Results_put c.d_Results_put
 bi_Results_put:Binds K c.d_Results_put ["self", "entry"] []
 m_Results_put:Meth K c.c_Results "put" c.a_Results_put
 Results_name_of:sR K "name_of" "Results.name_of" e7 c.a_Results_name_of c.d_Results_name_of
 bi_Results_name_of:Binds K c.d_Results_name_of ["self", "entry"] []
 m_Results_name_of:Meth K c.c_Results "name_of" c.a_Results_name_of
 Results_outcome_of:sR K "outcome_of" "Results.outcome_of" d6 c.a_Results_outcome_of c.d_Results_outcome_of
 bi_Results_outcome_of:Binds K c.d_Results_outcome_of ["self", "entry", "name"] []
 m_Results_outcome_of:Meth K c.c_Results "outcome_of" c.a_Results_outcome_of
 mg_MOST_LETTERS:mg "MOST_LETTERS" = some c.u_MOST_LETTERS
 rl_MOST_LETTERS:RelV (.int 12) c.u_MOST_LETTERS
 mg_LAST_DAY:mg "LAST_DAY" = some c.u_LAST_DAY
 rl_LAST_DAY:RelV (.int 1000000) c.u_LAST_DAY
 mg_LAST_NUMBER:mg "LAST_NUMBER" = some c.u_LAST_NUMBER
 rl_LAST_NUMBER:RelV (.int 1000000000) c.u_LAST_NUMBER
 mg_RANKS:mg "RANKS" = some (.ref c.u_RANKS)
 sq_RANKS:∀ H,bp K H c.u_RANKS [.str "genus",.str "species",.str "form"]
 mg_DEEDS:mg "DEEDS" = some (.ref c.u_DEEDS)
 sq_DEEDS:∀ H,bp K H c.u_DEEDS [.str "keep",.str "strike",.str "leave"]
 mg_STANDING_BY:mg "STANDING_BY" = some (.ref c.u_STANDING_BY)
 kd_STANDING_BY:gH w K c.u_STANDING_BY ([("keep",.str "kept"),("strike",.str "struck"),("leave",.str "plain")]:List (Str × V))
 mg_ABOVE:mg "ABOVE" = some (.ref c.u_ABOVE)
 kd_ABOVE:gH w K c.u_ABOVE ([("genus",.bI),("species",.str "genus"),("form",.str "species")]:List (Str × V))
 mg_RightError:mg "RightError" = some (.ref c.c_RightError)
 mg_NoRank:mg "NoRank" = some (.ref c.c_NoRank)
 mg_NoNumber:mg "NoNumber" = some (.ref c.c_NoNumber)
 mg_NoDay:mg "NoDay" = some (.ref c.c_NoDay)
 mg_NoWord:mg "NoWord" = some (.ref c.c_NoWord)
 mg_NoBook:mg "NoBook" = some (.ref c.c_NoBook)
 mg_NoAct:mg "NoAct" = some (.ref c.c_NoAct)
 mg_NoEntry:mg "NoEntry" = some (.ref c.c_NoEntry)
 x_NoRank:iJ K c.c_NoRank
 q_NoRank:gu K c.c_NoRank
 x_NoNumber:iJ K c.c_NoNumber
 q_NoNumber:gu K c.c_NoNumber
 x_NoDay:iJ K c.c_NoDay
 q_NoDay:gu K c.c_NoDay
 x_NoWord:iJ K c.c_NoWord
 q_NoWord:gu K c.c_NoWord
 x_NoBook:iJ K c.c_NoBook
 q_NoBook:gu K c.c_NoBook
 in_NoAct:W.findIn K (.ref c.c_NoAct) "__init__" = some (some (.ref c.a_NoAct_init))
 NoAct_init:k8 K "__init__" "NoAct.__init__" fu (.ref c.t_NoAct_init) c.a_NoAct_init c.d_NoAct_init
 xs_NoAct:yY K c.c_NoAct "place"
 hd_NoAct:PySem.W.hasDictIn K c.c_NoAct = true
 na_NoAct:W.findIn K (.ref c.c_NoAct) "place" = some none
 bi_RightError:xp K c.c_RightError
 b_NoAct_2:cI K c.d_NoAct_init ["self", "words", "place"] [] 2 (fun us _=>us ++ []) (fun us _=>us ++ [])
 x_NoAct:lA K c.c_NoAct c.a_NoAct_init
 q_NoAct:gu K c.c_NoAct
 x_NoEntry:iJ K c.c_NoEntry
 q_NoEntry:gu K c.c_NoEntry
 w_Entry:zF K c.c_Entry
 ws_Entry:W.kitOne K (.ref c.c_Entry) (.ref c.c_Entry) = some true
 wn_Entry_NoneType:W.kitOne K (.type "NoneType") (.ref c.c_Entry) = some false
 wn_Entry_int:W.kitOne K (.type "int") (.ref c.c_Entry) = some false
 wn_Entry_str:W.kitOne K (.type "str") (.ref c.c_Entry) = some false
 wn_Entry_bool:W.kitOne K (.type "bool") (.ref c.c_Entry) = some false
 wn_Entry_list:W.kitOne K (.type "list") (.ref c.c_Entry) = some false
 wn_Entry_tuple:W.kitOne K (.type "tuple") (.ref c.c_Entry) = some false
 wn_Entry_dict:W.kitOne K (.type "dict") (.ref c.c_Entry) = some false
 w_Act:zF K c.c_Act
 ws_Act:W.kitOne K (.ref c.c_Act) (.ref c.c_Act) = some true
 wn_Act_NoneType:W.kitOne K (.type "NoneType") (.ref c.c_Act) = some false
 wn_Act_int:W.kitOne K (.type "int") (.ref c.c_Act) = some false
 wn_Act_str:W.kitOne K (.type "str") (.ref c.c_Act) = some false
 wn_Act_bool:W.kitOne K (.type "bool") (.ref c.c_Act) = some false
 wn_Act_list:W.kitOne K (.type "list") (.ref c.c_Act) = some false
 wn_Act_tuple:W.kitOne K (.type "tuple") (.ref c.c_Act) = some false
 wn_Act_dict:W.kitOne K (.type "dict") (.ref c.c_Act) = some false
 no_len:mg "len" = none
 no_isinstance:mg "isinstance" = none
 no_str:mg "str" = none
 no_bool:mg "bool" = none
 no_all:mg "all" = none
 no_range:mg "range" = none
 no_int:mg "int" = none
 no_list:mg "list" = none
 no_min:mg "min" = none
 no_max:mg "max" = none
 no_dict:mg "dict" = none
 no_tuple:mg "tuple" = none
 no_sum:mg "sum" = none
 no_enumerate:mg "enumerate" = none
 no_sorted:mg "sorted" = none
 no_ValueError:mg "ValueError" = none
theorem ot:aS ["thing"] ["thing"] (aK kR):=⟨rfl,rfl,rfl,by decide +kernel,rfl,by decide +kernel,by decide +kernel⟩
theorem sE:aS ["thing"] ["thing"] (aK oI):=⟨rfl,rfl,rfl,by decide +kernel,rfl,by decide +kernel,by decide +kernel⟩
theorem nO:aS ["thing"] ["thing"] (aK j3):=⟨rfl,rfl,rfl,by decide +kernel,rfl,by decide +kernel,by decide +kernel⟩
theorem qQ:aS ["thing"] ["thing"] (aK m5):=⟨rfl,rfl,rfl,by decide +kernel,rfl,by decide +kernel,by decide +kernel⟩
theorem qp:aS ["thing"] ["thing"] (aK md):=⟨rfl,rfl,rfl,by decide +kernel,rfl,by decide +kernel,by decide +kernel⟩
theorem uA:aS ["rank"] ["rank"] (aK rJ):=⟨rfl,rfl,rfl,by decide +kernel,rfl,by decide +kernel,by decide +kernel⟩
theorem kx:aS ["number", "day", "rank", "word"] ["number", "day", "rank", "word"] (aK gy):=⟨rfl,rfl,rfl,by decide +kernel,rfl,by decide +kernel,by decide +kernel⟩
theorem lY:aS ["rank", "under"] ["rank", "under"] (aK iV):=⟨rfl,rfl,rfl,by decide +kernel,rfl,by decide +kernel,by decide +kernel⟩
theorem oy:aS ["rank", "sheet", "base"] ["rank", "sheet", "base"] (aK lJ):=⟨rfl,rfl,rfl,by decide +kernel,rfl,by decide +kernel,by decide +kernel⟩
theorem v7:aS ["one", "other"] ["one", "other"] (aK rj):=⟨rfl,rfl,rfl,by decide +kernel,rfl,by decide +kernel,by decide +kernel⟩
theorem c7:aS ["entries", "book", "seen", "last", "entry"] ["entries"] (aK jU):=⟨rfl,rfl,rfl,by decide +kernel,rfl,by decide +kernel,by decide +kernel⟩
theorem fD:aS ["book", "results", "entry"] ["book"] (aK iN):=⟨rfl,rfl,rfl,by decide +kernel,rfl,by decide +kernel,by decide +kernel⟩
theorem rD:aS ["thing"] ["thing"] (aK mE):=⟨rfl,rfl,rfl,by decide +kernel,rfl,by decide +kernel,by decide +kernel⟩
theorem lg:aS ["day"] ["day"] (aK iS):=⟨rfl,rfl,rfl,by decide +kernel,rfl,by decide +kernel,by decide +kernel⟩
theorem gz:aS ["results", "ahead_of_it", "thing", "entry"] ["results", "ahead_of_it", "thing"] (aK iO):=⟨rfl,rfl,rfl,by decide +kernel,rfl,by decide +kernel,by decide +kernel⟩
theorem eB:aS ["results", "acts", "found", "place", "thing"] ["results", "acts"] (aK jV):=⟨rfl,rfl,rfl,by decide +kernel,rfl,by decide +kernel,by decide +kernel⟩
theorem oV:aS ["entries", "acts"] ["entries", "acts"] (aK kO):=⟨rfl,rfl,rfl,by decide +kernel,rfl,by decide +kernel,by decide +kernel⟩
theorem cp:aS ["results", "acts", "day", "standing", "entry", "act"] ["results", "acts", "day"] (aK gX):=⟨rfl,rfl,rfl,by decide +kernel,rfl,by decide +kernel,by decide +kernel⟩
theorem dB:aS ["standing", "kept", "plain", "turns", "turn", "number"] ["standing"] (aK lM):=⟨rfl,rfl,rfl,by decide +kernel,rfl,by decide +kernel,by decide +kernel⟩
theorem jK:aS ["entries", "acts", "day", "book", "told"] ["entries", "acts", "day"] (aK oX):=⟨rfl,rfl,rfl,by decide +kernel,rfl,by decide +kernel,by decide +kernel⟩
theorem gA:aS ["entries", "acts", "day", "results", "told"] ["entries", "acts", "day"] (aK j6):=⟨rfl,rfl,rfl,by decide +kernel,rfl,by decide +kernel,by decide +kernel⟩
theorem nI:aS ["entries", "acts", "day"] ["entries", "acts", "day"] (aK jS):=⟨rfl,rfl,rfl,by decide +kernel,rfl,by decide +kernel,by decide +kernel⟩
theorem j5:aS ["entries", "acts", "day", "rank", "books"] ["entries", "acts", "day", "rank"] (aK kH):=⟨rfl,rfl,rfl,by decide +kernel,rfl,by decide +kernel,by decide +kernel⟩
theorem pC:aS ["_law_script", "_law_k"] ["_law_script", "_law_k"] (aK lH):=⟨rfl,rfl,rfl,by decide +kernel,rfl,by decide +kernel,by decide +kernel⟩
theorem lN:aS ["_law_cell", "_law_place", "_law_own", "_law_number"] ["_law_cell", "_law_place"] (aK rP):=⟨rfl,rfl,rfl,by decide +kernel,rfl,by decide +kernel,by decide +kernel⟩
theorem c6:aS ["_law_cell", "_law_letters", "_law_size", "_law_at", "_law_found", "_law_k", "_law_word", "_law_j"] ["_law_cell"] (aK oJ):=⟨rfl,rfl,rfl,by decide +kernel,rfl,by decide +kernel,by decide +kernel⟩
theorem k7:aS ["_law_cell", "_law_far"] ["_law_cell"] (aK m8):=⟨rfl,rfl,rfl,by decide +kernel,rfl,by decide +kernel,by decide +kernel⟩
theorem jN:aS ["_law_rows_here", "_law_rank", "_law_draw_here", "_law_want", "_law_some"] ["_law_rows_here", "_law_rank", "_law_draw_here"] (aK pD):=⟨rfl,rfl,rfl,by decide +kernel,rfl,by decide +kernel,by decide +kernel⟩
theorem lE:aS ["_law_rows_here", "_law_rank", "_law_word", "_law_draw_here", "_law_some"] ["_law_rows_here", "_law_rank", "_law_word", "_law_draw_here"] (aK rq):=⟨rfl,rfl,rfl,by decide +kernel,rfl,by decide +kernel,by decide +kernel⟩
theorem ck:aS ["_law_rows_here", "_law_cell", "_law_k", "_law_words_here", "_law_sheets_here", "_law_draws", "_law_day_here", "_law_number", "_law_rank", "_law_word", "_law_under_here", "_law_base_here"] ["_law_rows_here", "_law_cell", "_law_k", "_law_words_here", "_law_sheets_here"] (aK uY):=⟨rfl,rfl,rfl,by decide +kernel,rfl,by decide +kernel,by decide +kernel⟩
theorem kT:aS ["_law_cells", "_law_words_here", "_law_sheets_here", "_law_rows_here", "_law_k"] ["_law_cells", "_law_words_here", "_law_sheets_here"] (aK rT):=⟨rfl,rfl,rfl,by decide +kernel,rfl,by decide +kernel,by decide +kernel⟩
theorem cG:aS ["_law_rows_here", "_law_found", "_law_row_here", "_law_number", "_law_day_here", "_law_rank", "_law_word", "_law_one"] ["_law_rows_here"] (aK kX):=⟨rfl,rfl,rfl,by decide +kernel,rfl,by decide +kernel,by decide +kernel⟩
theorem aw:aS ["_law_rows_here", "_law_right_here", "_law_gone", "_law_row_here", "_law_number", "_law_day_here", "_law_rank", "_law_word", "_law_under_here", "_law_sheet", "_law_base_here", "_law_described", "_law_head", "_law_good", "_law_place", "_law_root"] ["_law_rows_here"] (aK pz):=⟨rfl,rfl,rfl,by decide +kernel,rfl,by decide +kernel,by decide +kernel⟩
theorem sZ:aS ["_law_right_here"] ["_law_right_here"] (aK pj):=⟨rfl,rfl,rfl,by decide +kernel,rfl,by decide +kernel,by decide +kernel⟩
theorem dC:aS ["_law_cells", "_law_right_here", "_law_some", "_law_found", "_law_day_here", "_law_k", "_law_draw_here", "_law_number"] ["_law_cells", "_law_right_here"] (aK o8):=⟨rfl,rfl,rfl,by decide +kernel,rfl,by decide +kernel,by decide +kernel⟩
theorem uy:aS ["_law_deeds_here"] ["_law_deeds_here"] (aK rQ):=⟨rfl,rfl,rfl,by decide +kernel,rfl,by decide +kernel,by decide +kernel⟩
theorem nC:aS ["_law_entries_here", "_law_acts_here", "_law_day_here", "_law_found", "_law_rank"] ["_law_entries_here", "_law_acts_here", "_law_day_here"] (aK uw):=⟨rfl,rfl,rfl,by decide +kernel,rfl,by decide +kernel,by decide +kernel⟩
theorem rK:aS ["_law_rows_here", "_law_deeds_here", "_law_draw_here", "_law_some"] ["_law_rows_here", "_law_deeds_here", "_law_draw_here"] (aK vf):=⟨rfl,rfl,rfl,by decide +kernel,rfl,by decide +kernel,by decide +kernel⟩
theorem cy:aS ["_law_found", "_law_right_here", "_law_stand", "_law_k", "_law_rank", "_law_kept", "_law_plain", "_law_order"] ["_law_found", "_law_right_here"] (aK mf):=⟨rfl,rfl,rfl,by decide +kernel,rfl,by decide +kernel,by decide +kernel⟩
theorem iu:aS ["_law_rows_here", "_law_deeds_here", "_law_right_here", "_law_day_here", "_law_late", "_law_row_here", "_law_deed"] ["_law_rows_here", "_law_deeds_here", "_law_right_here", "_law_day_here", "_law_late"] (aK pE):=⟨rfl,rfl,rfl,by decide +kernel,rfl,by decide +kernel,by decide +kernel⟩
theorem i9:aS ["_law_entries_here", "_law_acts_here", "_law_day_here", "_law_found", "_law_first", "_law_second", "_law_later"] ["_law_entries_here", "_law_acts_here", "_law_day_here", "_law_found"] (aK r9):=⟨rfl,rfl,rfl,by decide +kernel,rfl,by decide +kernel,by decide +kernel⟩
theorem dA:aS ["_law_script", "_law_words_here", "_law_cells", "_law_rows_here", "_law_right_here", "_law_deeds_here", "_law_entries_here", "_law_acts_here", "_law_draws", "_law_days", "_law_before", "_law_k", "_law_found"] ["_law_script"] (aK xn):=⟨rfl,rfl,rfl,by decide +kernel,rfl,by decide +kernel,by decide +kernel⟩
theorem l4:aS ["self", "number", "day", "rank", "word", "under", "sheet", "base", "described"] ["self", "number", "day", "rank", "word", "under", "sheet", "base", "described"] (aK fg):=⟨rfl,rfl,rfl,by decide +kernel,rfl,by decide +kernel,by decide +kernel⟩
theorem jj:aS ["self"] ["self"] (aK gK):=⟨rfl,rfl,rfl,by decide +kernel,rfl,by decide +kernel,by decide +kernel⟩
theorem pB:aS ["self", "day", "deed", "number"] ["self", "day", "deed", "number"] (aK iI):=⟨rfl,rfl,rfl,by decide +kernel,rfl,by decide +kernel,by decide +kernel⟩
theorem iz:aS ["self", "results", "acts", "day"] ["self", "results", "acts", "day"] (aK gD):=⟨rfl,rfl,rfl,by decide +kernel,rfl,by decide +kernel,by decide +kernel⟩
theorem lq:aS ["self", "words", "place"] ["self", "words", "place"] (aK fu):=⟨rfl,rfl,rfl,by decide +kernel,rfl,by decide +kernel,by decide +kernel⟩
theorem eU:aS ["self", "entry", "name", "out"] ["self", "entry"] (aK gx):=⟨rfl,rfl,rfl,by decide +kernel,rfl,by decide +kernel,by decide +kernel⟩
theorem eN:aS ["self", "entry", "upper"] ["self", "entry"] (aK e7):=⟨rfl,rfl,rfl,by decide +kernel,rfl,by decide +kernel,by decide +kernel⟩
theorem dQ:aS ["self", "entry", "name", "base"] ["self", "entry", "name"] (aK d6):=⟨rfl,rfl,rfl,by decide +kernel,rfl,by decide +kernel,by decide +kernel⟩
section
variable {P:Program} {w:World} {K:W.Frag} {mg:Str → Option Value} {base:Heap} {c:Ad}
set_option maxHeartbeats 4000000 in
theorem j7 (T:Txt w K mg c):ar P w K mg base fN 1 c.a_is_whole c.d_is_whole ["thing"] (Ba K):=by
 refine T.is_whole.fn.ok ot (fun vs H Q E h=>?_) (fun cdv A outer s H vs Q E hr h=>?_)
 ·obtain ⟨x,rfl,_⟩:=h
  rfl
 ·obtain ⟨x,rfl,ow,k⟩:=h
  refine ⟨_,(aH (aR (dZ (af cQ rfl T.no_isinstance bJ (aA (pv 0) (aA (eZ (v:=.ty "int") rfl T.no_int nB rfl) aD))) (fJ (zI (af cQ rfl T.no_isinstance bJ (aA (pv 0) (aA (eZ (v:=.ty "bool") rfl T.no_bool xE rfl) aD)))))))),?_⟩
  refine ⟨x,rfl,bP.int ow ⟨_,rfl,?_⟩⟩
  cases x with
  | int i=>exact bK ⟨_,rfl,bP.bool ow ⟨_,rfl,k⟩⟩
  | bl b=>exact bK ⟨_,rfl,bP.bool ow ⟨_,rfl,k⟩⟩
  | _=>exact aq k
set_option maxHeartbeats 4000000 in
theorem mF (T:Txt w K mg c):ar P w K mg base fN 2 c.a_is_day c.d_is_day ["thing"] (BM K 1000000):=by
 refine T.is_day.fn.ok sE (fun vs H Q E h=>?_) (fun cdv A outer s H vs Q E hr h=>?_)
 ·obtain ⟨x,rfl,_⟩:=h
  rfl
 ·obtain ⟨x,rfl,ow,k⟩:=h
  refine ⟨_,(aH (aR (dZ (aU (j7 T) (hr.mono (by decide)) rfl T.is_whole.mgf T.is_whole.kp T.is_whole.bi .nil ak (aA (pv 0) aD)) (fJ (kI fW fW aE (pv 0) (dw rfl T.mg_LAST_DAY T.rl_LAST_DAY)))))),?_⟩
  refine ⟨x,rfl,x,rfl,ow,_,rfl,?_⟩
  cases x with
  | int i =>
   refine bK ⟨_,rfl,_,_,rfl,rfl,_,rfl,?_⟩
   by_cases h1:1 ≤ i
   ·rw [if_pos (decide_eq_true h1)]
    refine ⟨_,_,rfl,rfl,?_⟩
    simpa [inR,h1] using k
   ·rw [if_neg (by simp [h1])]
    simpa [inR,h1] using k
  | _=>exact aq k
set_option maxHeartbeats 4000000 in
theorem dG (T:Txt w K mg c):ar P w K mg base fN 2 c.a_is_number c.d_is_number ["thing"] (BM K 1000000000):=by
 refine T.is_number.fn.ok nO (fun vs H Q E h=>?_) (fun cdv A outer s H vs Q E hr h=>?_)
 ·obtain ⟨x,rfl,_⟩:=h
  rfl
 ·obtain ⟨x,rfl,ow,k⟩:=h
  refine ⟨_,(aH (aR (dZ (aU (j7 T) (hr.mono (by decide)) rfl T.is_whole.mgf T.is_whole.kp T.is_whole.bi .nil ak (aA (pv 0) aD)) (fJ (kI fW fW aE (pv 0) (dw rfl T.mg_LAST_NUMBER T.rl_LAST_NUMBER)))))),?_⟩
  refine ⟨x,rfl,x,rfl,ow,_,rfl,?_⟩
  cases x with
  | int i =>
   refine bK ⟨_,rfl,_,_,rfl,rfl,_,rfl,?_⟩
   by_cases h1:1 ≤ i
   ·rw [if_pos (decide_eq_true h1)]
    refine ⟨_,_,rfl,rfl,?_⟩
    simpa [inR,h1] using k
   ·rw [if_neg (by simp [h1])]
    simpa [inR,h1] using k
  | _=>exact aq k
set_option maxHeartbeats 4000000 in
theorem qg (T:Txt w K mg c):ar P w K mg base fN 1 c.a_is_word c.d_is_word ["thing"] (y0 K):=by
 refine T.is_word.fn.ok qQ (fun vs H Q E h=>?_) (fun cdv A outer s H vs Q E hr h=>?_)
 ·obtain ⟨x,rfl,_⟩:=h
  rfl
 ·obtain ⟨x,rfl,ow,hz,k⟩:=h
  refine ⟨_,(aC (ai (PW.pt (kF (bh (bo (af cQ rfl T.no_isinstance bJ (aA (pv 0) (aA (eZ (v:=.ty "str") rfl T.no_str qY rfl) aD))))) (jI (bh (lU fW fW aE (af nF rfl T.no_len dY (aA (pv 0) aD)) (dw rfl T.mg_MOST_LETTERS T.rl_MOST_LETTERS))))))
    (aH (aR eK))
    aO)
   (aH (aR (af (ux rfl) rfl T.no_all yd (aA (cX (N':=["sign"]) (js:=[none]) rfl rfl (by decide +kernel) (by decide +kernel) (fR (by decide +kernel)) (gj rfl rfl) (xu (pv 0)) (fun B=>⟨(aQ (i:=0) (show List.Nodup (["sign"]:List Str) by decide +kernel) rfl (Or.inl rfl)),dO,(kI mH mH aT (pv 0) aT)⟩)) aD))))),?_⟩
  refine ⟨x,rfl,bP.str ow ⟨_,rfl,?_⟩⟩
  cases x with
  | str z =>
   have hz:z.length ≤ sizeLine:=hz
   refine aq ?_
   walk_at "rd"
   refine ⟨hz,?_⟩
   walk_at "rd"
   refine bf (fun h1=>?_) (fun h1=>?_)
   ·walk_at "rd"
    by_cases h2:((z.length:Int) ≤ 12)
    ·rw [decide_eq_true h2]
     refine aq ⟨_,rfl,_,rfl,fun l B hl=>?_⟩
     have en:z.cps.toList.length = z.length:=by simp [Str.length]
     refine jv z.cps.size (fun i σ acc H'=>(∃ o,σ = [o]) ∧ acc = (z.cps.toList.take i).map (fun c=>V.bl (dH c)) ∧ H' = upd H l (.lst acc)) hz ?_ ?_ ?_ ?_ ?_
     ·exact ⟨⟨_,rfl⟩,rfl,rfl⟩
     ·rintro i σ acc H' hi ⟨_,e,e'⟩
      refine ⟨by rw [e']; exact aB,?_⟩
      rw [e,List.length_map,List.length_take]
      omega
     ·intro i σ acc H' hi _
      exact hi
     ·rintro i x σ acc H' H'' hi ⟨⟨o,rfl⟩,e,e'⟩ ⟨rfl,c,hc,rfl⟩
      have hc':z.cps.toList[i]? = some c:=by simpa using hc
      have fin:∀ b,b = dH c → H'' l = some (.lst acc) ∧ Nx z.cps.size i ((∃ o,([o].set 0 (some (V.str ⟨#[c]⟩)):St) = [o]) ∧ acc ++ [V.bl b] = (z.cps.toList.take (i + 1)).map (fun c=>V.bl (dH c)) ∧ upd H'' l (.lst (acc ++ [V.bl b])) = upd H l (.lst (acc ++ [V.bl b]))):=by
       intro b eb
       refine ⟨by rw [e']; exact aB,Nx.mk hi ⟨⟨_,rfl⟩,?_,by rw [e',dz]⟩⟩
       rw [take_one hc',List.map_append,← e,eb]
       rfl
      walk_at "rd"
      rw [BI]
      refine bf (fun g1=>?_) (fun g1=>?_)
      ·walk_at "rd"
       refine fin _ ?_
       rw [Ak]
       unfold dH
       rw [g1]
       rfl
      ·refine fin _ ?_
       unfold dH
       rw [eq_false_of_ne_true g1]
       rfl
     ·rintro σ acc H' ⟨_,e,e'⟩
      refine ⟨rfl,l,z.cps.toList.map dH,rfl,ah.of (by rw [e',aB,e,List.take_of_length_le (by simp)]; simp),?_⟩
      have q:=k H' (by rw [e']; exact aG.new hl)
      have ev:isWord (.str z) = (z.cps.toList.map dH).all id:=by
       rw [eS,h1,decide_eq_true h2,List.all_map]
       rfl
      rw [ev] at q
      exact q
    ·rw [decide_eq_false h2]
     refine bK ?_
     have ev:isWord (.str z) = false:=by
      rw [eS,decide_eq_false h2,Bool.and_false,Bool.false_and]
     have q:=k H (aG.refl H)
     rw [ev] at q
     exact q
   ·have ev:isWord (.str z) = false:=by
     rw [eS,eq_false_of_ne_true h1,Bool.false_and,Bool.false_and]
    have q:=k H (aG.refl H)
    rw [ev] at q
    walk_at "rd"
    exact q
  | _=>exact bK (k _ (aG.refl H))
set_option maxHeartbeats 4000000 in
theorem hZ (T:Txt w K mg c):ar P w K mg base fN 1 c.a_is_rank c.d_is_rank ["thing"] (yB K):=by
 refine T.is_rank.fn.ok qp (fun vs H Q E h=>?_) (fun cdv A outer s H vs Q E hr h=>?_)
 ·obtain ⟨x,rfl,_⟩:=h
  rfl
 ·obtain ⟨x,rfl,ow,k⟩:=h
  refine ⟨_,(aH (aR (dZ (af cQ rfl T.no_isinstance bJ (aA (pv 0) (aA (eZ (v:=.ty "str") rfl T.no_str qY rfl) aD))) (fJ (cJ mV (pv 0) (dw (v:=.ref c.u_RANKS) rfl T.mg_RANKS rfl) (by with_unfolding_all rfl)))))),?_⟩
  refine ⟨x,rfl,bP.str ow ⟨_,rfl,?_⟩⟩
  cases x with
  | str z=>exact bK ⟨_,rfl,c.u_RANKS,vF,rfl,.inr (T.sq_RANKS _),rfl,rfl,k⟩
  | _=>exact aq k
set_option maxHeartbeats 4000000 in
theorem kW (T:Txt w K mg c):ar P w K mg base (jo P w) 3 c.a_refuse_head c.d_refuse_head ["number", "day", "rank", "word"] (zG K ⟨c.c_NoNumber,c.c_NoDay,c.c_NoRank,c.c_NoWord,c.c_NoEntry⟩):=by
 refine T.refuse_head.fn.rX kx (fun vs H Q E h=>?_) (fun cdv A outer s H vs Q E hr h=>?_)
 ·obtain ⟨n,d,r,w,rfl,_⟩:=h
  rfl
 ·obtain ⟨n,d,r,w,rfl,on,od,or',ow,fw,k⟩:=h
  refine ⟨_,(aC (ai (bh (bo (aU (dG T) (hr.mono (by decide)) rfl T.is_number.mgf T.is_number.kp T.is_number.bi .nil ak (aA (pv 0) aD))))
    (aH (cE T.x_NoNumber rfl rfl T.mg_NoNumber dS (aA aT aD)))
    aO)
   (aC (ai (bh (bo (aU (mF T) (hr.mono (by decide)) rfl T.is_day.mgf T.is_day.kp T.is_day.bi .nil ak (aA (pv 1) aD))))
    (aH (cE T.x_NoDay rfl rfl T.mg_NoDay dS (aA aT aD)))
    aO)
   (aC (ai (bh (bo (aU (hZ T) (hr.mono (by decide)) rfl T.is_rank.mgf T.is_rank.kp T.is_rank.bi .nil ak (aA (pv 2) aD))))
    (aH (cE T.x_NoRank rfl rfl T.mg_NoRank dS (aA aT aD)))
    aO)
   (aH (ai (bh (bo (aU (qg T) (hr.mono (by decide)) rfl T.is_word.mgf T.is_word.kp T.is_word.bi .nil ak (aA (pv 3) aD))))
    (aH (cE T.x_NoWord rfl rfl T.mg_NoWord dS (aA aT aD)))
    aO))))),?_⟩
  walk_at "rd"
  refine ⟨on,?_⟩
  walk_at "rd"
  refine nK (fun h1=>?_) (fun h1=>?_)
  ·have h1:inR 1000000000 n = false:=by simpa using h1
   have e:eP n d r w = 1:=by unfold eP; rw [if_pos h1]
   have q:=(k H (aG.refl H)).2 (by rw [e]; decide)
   rw [e] at q
   exact ⟨aJ rfl,q⟩
  have h1:¬ inR 1000000000 n = false:=by simpa using h1
  walk_at "rd"
  refine ⟨od,?_⟩
  walk_at "rd"
  refine nK (fun h2=>?_) (fun h2=>?_)
  ·have h2:inR 1000000 d = false:=by simpa using h2
   have e:eP n d r w = 2:=by unfold eP; rw [if_neg h1,if_pos h2]
   have q:=(k H (aG.refl H)).2 (by rw [e]; decide)
   rw [e] at q
   exact ⟨aJ rfl,q⟩
  have h2:¬ inR 1000000 d = false:=by simpa using h2
  walk_at "rd"
  refine ⟨or',?_⟩
  walk_at "rd"
  refine nK (fun h3=>?_) (fun h3=>?_)
  ·have h3:cw r = false:=by simpa using h3
   have e:eP n d r w = 3:=by unfold eP; rw [if_neg h1,if_neg h2,if_pos h3]
   have q:=(k H (aG.refl H)).2 (by rw [e]; decide)
   rw [e] at q
   exact ⟨aJ rfl,q⟩
  have h3:¬ cw r = false:=by simpa using h3
  walk_at "rd"
  refine ⟨ow,fw,fun H' s1=>?_⟩
  walk_at "rd"
  refine nK (fun h4=>?_) (fun h4=>?_)
  ·have h4:isWord w = false:=by simpa using h4
   have e:eP n d r w = 4:=by unfold eP; rw [if_neg h1,if_neg h2,if_neg h3,if_pos h4]
   have q:=(k H' s1).2 (by rw [e]; decide)
   rw [e] at q
   exact ⟨aJ rfl,q⟩
  have h4:¬ isWord w = false:=by simpa using h4
  exact (k H' s1).1 (by unfold eP; rw [if_neg h1,if_neg h2,if_neg h3,if_neg h4])
set_option maxHeartbeats 4000000 in
theorem lh (T:Txt w K mg c):ar P w K mg base fN 3 c.a_under_fits c.d_under_fits ["rank", "under"] (wA K):=by
 refine T.under_fits.fn.ok lY (fun vs H Q E h=>?_) (fun cdv A outer s H vs Q E hr h=>?_)
 ·obtain ⟨z,u,rfl,_⟩:=h
  rfl
 ·obtain ⟨z,u,rfl,ou,k⟩:=h
  refine ⟨_,(aC (ai (aW bq (pv 0) aT (aX _))
    (aH (aR (ip (dR (pv 1)))))
    aO)
   (aH (aR (aU (dG T) (hr.mono (by decide)) rfl T.is_number.mgf T.is_number.kp T.is_number.bi .nil ak (aA (pv 1) aD))))),?_⟩
  walk_at "rd"
  refine bf (fun h=>?_) (fun h=>?_)
  ·have e:bO (.str z) u = decide (u = .bI):=by unfold bO; rw [if_pos (of_decide_eq_true h)]
   rw [e] at k
   walk_at "rd"
   exact k
  ·have e:bO (.str z) u = inR 1000000000 u:=by unfold bO; rw [if_neg (fun q=>h (decide_eq_true q))]
   rw [e] at k
   exact ⟨_,rfl,u,rfl,ou,k⟩
set_option maxHeartbeats 4000000 in
theorem pY (T:Txt w K mg c):ar P w K mg base fN 3 c.a_tie_fits c.d_tie_fits ["rank", "sheet", "base"] (AM K):=by
 refine T.tie_fits.fn.ok oy (fun vs H Q E h=>?_) (fun cdv A outer s H vs Q E hr h=>?_)
 ·obtain ⟨z,s',b,rfl,_⟩:=h
  rfl
 ·obtain ⟨z,s',b,rfl,os,ob,k⟩:=h
  refine ⟨_,(aC (ai (cS (dR (pv 2)))
    (aH (aR (aU (dG T) (hr.mono (by decide)) rfl T.is_number.mgf T.is_number.kp T.is_number.bi .nil ak (aA (pv 1) aD))))
    aO)
   (aH (aR (dZ (cJ mM (pv 0) aT (aX _)) (dZ (ip (dR (pv 1))) (fJ (aU (dG T) (hr.mono (by decide)) rfl T.is_number.mgf T.is_number.kp T.is_number.bi .nil ak (aA (pv 2) aD)))))))),?_⟩
  walk_at "rd"
  refine bf (fun h=>?_) (fun h=>?_)
  ·have e:bT (.str z) s' b = inR 1000000000 s':=by unfold bT; rw [if_pos (of_decide_eq_true h)]
   rw [e] at k
   exact ⟨_,rfl,s',rfl,os,k⟩
  have hb:¬ b = .bI:=fun q=>h (decide_eq_true q)
  walk_at "rd"
  refine nK (fun h1=>?_) (fun h1=>?_)
  ·walk_at "rd"
   refine nK (fun h2=>?_) (fun h2=>?_)
   ·have e:bT (.str z) s' b = inR 1000000000 b:=by
     unfold bT
     rw [if_neg hb,h1,h2]
     rfl
    rw [e] at k
    exact ⟨_,rfl,b,rfl,ob,k⟩
   ·have e:bT (.str z) s' b = false:=by
     unfold bT
     rw [if_neg hb,h2]
     simp
    rw [e] at k
    exact k
  ·have e:bT (.str z) s' b = false:=by
    unfold bT
    rw [if_neg hb,h1]
    rfl
   rw [e] at k
   exact k
set_option maxHeartbeats 4000000 in
theorem l3 (T:Txt w K mg c):ar P w K mg base (jo P w) 4 c.a_Entry_init c.d_Entry_init ["self", "number", "day", "rank", "word", "under", "sheet", "base", "described"] (xx K c.c_Entry ⟨c.c_NoNumber,c.c_NoDay,c.c_NoRank,c.c_NoWord,c.c_NoEntry⟩):=by
 refine T.Entry_init.rX l4 (fun vs H Q E h=>?_) (fun cdv A outer s H vs Q E hr h=>?_)
 ·obtain ⟨a,dx,n,d,r,w,u,s',b,kk,rfl,_⟩:=h
  rfl
 ·obtain ⟨a,dx,n,d,r,w,u,s',b,kk,rfl,ha,on,od,or',ow,fw,ou,os,ob,k⟩:=h
  refine ⟨_,(aC (cq (b7 (kW T) (hr.mono (by decide)) rfl T.refuse_head.mgf T.refuse_head.kp T.refuse_head.bi .nil cP (aA (pv 1) (aA (pv 2) (aA (pv 3) (aA (pv 4) aD))))))
   (aC (ai (bh (bo (aU (lh T) (hr.mono (by decide)) rfl T.under_fits.mgf T.under_fits.kp T.under_fits.bi .nil ak (aA (pv 3) (aA (pv 5) aD)))))
    (aH (cE T.x_NoEntry rfl rfl T.mg_NoEntry dS (aA aT aD)))
    aO)
   (aC (ai (bh (bo (aU (pY T) (hr.mono (by decide)) rfl T.tie_fits.mgf T.tie_fits.kp T.tie_fits.bi .nil ak (aA (pv 3) (aA (pv 6) (aA (pv 7) aD))))))
    (aH (cE T.x_NoEntry rfl rfl T.mg_NoEntry dS (aA aT aD)))
    aO)
   (aC (cH (pv 0) (pv 1) rfl)
   (aC (cH (pv 0) (pv 2) rfl)
   (aC (cH (pv 0) (pv 3) rfl)
   (aC (cH (pv 0) (pv 4) rfl)
   (aC (cH (pv 0) (pv 5) rfl)
   (aC (cH (pv 0) (pv 6) rfl)
   (aC (cH (pv 0) (pv 7) rfl)
   (aH (cH (pv 0) (pv 8) rfl)))))))))))),?_⟩
  refine ⟨_,rfl,_,rfl,_,rfl,_,rfl,n,d,r,w,rfl,on,od,or',ow,fw,fun H' s1=>⟨fun h0=>?_,fun h0=>?_⟩⟩
  rotate_left
  ·have e:why n d r w u s' b = eP n d r w:=by unfold why; rw [if_pos h0]
   have q:=(k H' s1).2 (by rw [e]; exact h0)
   rw [e] at q
   exact q
  have hr3:∃ z:Str,r = .str z:=by
   unfold eP at h0
   split at h0
   ·cases h0
   ·split at h0
    ·cases h0
    ·split at h0
     ·cases h0
     ·rename_i q
      cases r <;> first | exact ⟨_,rfl⟩ | exact absurd rfl q
  obtain ⟨z,rfl⟩:=hr3
  refine ⟨_,rfl,_,rfl,z,u,rfl,ou.same s1,_,rfl,?_⟩
  refine nK (fun h1=>?_) (fun h1=>?_)
  ·have h1:bO (.str z) u = false:=by simpa using h1
   have e:why n d (.str z) w u s' b = 5:=by unfold why; rw [if_neg (by rw [h0]; decide),if_pos h1]
   have q:=(k H' s1).2 (by rw [e]; decide)
   rw [e] at q
   exact ⟨aJ rfl,q⟩
  have h1:¬ bO (.str z) u = false:=by simpa using h1
  refine ⟨_,rfl,_,rfl,_,rfl,z,s',b,rfl,os.same s1,ob.same s1,_,rfl,?_⟩
  refine nK (fun h2=>?_) (fun h2=>?_)
  ·have h2:bT (.str z) s' b = false:=by simpa using h2
   have e:why n d (.str z) w u s' b = 5:=by unfold why; rw [if_neg (by rw [h0]; decide),if_neg h1,if_pos h2]
   have q:=(k H' s1).2 (by rw [e]; decide)
   rw [e] at q
   exact ⟨aJ rfl,q⟩
  have h2:¬ bT (.str z) s' b = false:=by simpa using h2
  have q:=(k H' s1).1 (by unfold why; rw [if_neg (by rw [h0]; decide),if_neg h1,if_neg h2])
  have a0:=s1 _ _ ha
  refine ⟨_,rfl,_,rfl,a,c.c_Entry,dx,_,rfl,a0,T.cl_Entry,T.na_Entry_number,aJ rfl,?_⟩
  refine ⟨_,rfl,_,rfl,a,c.c_Entry,dx,_,rfl,aB,T.cl_Entry,T.na_Entry_day,aJ rfl,?_⟩
  refine ⟨_,rfl,_,rfl,a,c.c_Entry,dx,_,rfl,aB,T.cl_Entry,T.na_Entry_rank,aJ rfl,?_⟩
  refine ⟨_,rfl,_,rfl,a,c.c_Entry,dx,_,rfl,aB,T.cl_Entry,T.na_Entry_word,aJ rfl,?_⟩
  refine ⟨_,rfl,_,rfl,a,c.c_Entry,dx,_,rfl,aB,T.cl_Entry,T.na_Entry_under,aJ rfl,?_⟩
  refine ⟨_,rfl,_,rfl,a,c.c_Entry,dx,_,rfl,aB,T.cl_Entry,T.na_Entry_sheet,aJ rfl,?_⟩
  refine ⟨_,rfl,_,rfl,a,c.c_Entry,dx,_,rfl,aB,T.cl_Entry,T.na_Entry_base,aJ rfl,?_⟩
  refine ⟨_,rfl,_,rfl,a,c.c_Entry,dx,_,rfl,aB,T.cl_Entry,T.na_Entry_described,aJ rfl,?_⟩
  rw [dz,dz,dz,dz,dz,dz,dz]
  exact q
set_option maxHeartbeats 4000000 in
theorem qL (T:Txt w K mg c):ar P w K mg base fN 1 c.a_is_deed c.d_is_deed ["thing"] (ye K):=by
 refine T.is_deed.fn.ok rD (fun vs H Q E h=>?_) (fun cdv A outer s H vs Q E hr h=>?_)
 ·obtain ⟨x,rfl,_⟩:=h
  rfl
 ·obtain ⟨x,rfl,ow,k⟩:=h
  refine ⟨_,(aH (aR (dZ (af cQ rfl T.no_isinstance bJ (aA (pv 0) (aA (eZ (v:=.ty "str") rfl T.no_str qY rfl) aD))) (fJ (cJ mV (pv 0) (dw (v:=.ref c.u_DEEDS) rfl T.mg_DEEDS rfl) (by with_unfolding_all rfl)))))),?_⟩
  refine ⟨x,rfl,bP.str ow ⟨_,rfl,?_⟩⟩
  cases x with
  | str z=>exact bK ⟨_,rfl,c.u_DEEDS,xT,rfl,.inr (T.sq_DEEDS _),rfl,rfl,k⟩
  | _=>exact aq k
set_option maxHeartbeats 4000000 in
theorem fA (T:Txt w K mg c):ar P w K mg base (jo P w) 3 c.a_refuse_day c.d_refuse_day ["day"] (uH K c.c_NoDay):=by
 refine T.refuse_day.fn.rX lg (fun vs H Q E h=>?_) (fun cdv A outer s H vs Q E hr h=>?_)
 ·obtain ⟨x,rfl,_⟩:=h
  rfl
 ·obtain ⟨x,rfl,ow,k1,k2⟩:=h
  refine ⟨_,(aH (ai (bh (bo (aU (mF T) (hr.mono (by decide)) rfl T.is_day.mgf T.is_day.kp T.is_day.bi .nil ak (aA (pv 0) aD))))
    (aH (cE T.x_NoDay rfl rfl T.mg_NoDay dS (aA aT aD)))
    aO)),?_⟩
  refine ⟨_,rfl,x,rfl,ow,_,rfl,?_⟩
  cases hx:inR 1000000 x with
  | false=>exact bK ⟨aJ rfl,k2 hx⟩
  | true=>exact aq (k1 hx)
set_option maxHeartbeats 4000000 in
theorem fK (T:Txt w K mg c):ar P w K mg base (jo P w) 1 c.a_NoAct_init c.d_NoAct_init ["self", "words", "place"] (xZ c.c_NoAct "place"):=by
 refine T.NoAct_init.rX lq (fun vs H Q E h=>?_) (fun cdv A outer s H vs Q E hr h=>?_)
 ·obtain ⟨e,wd,pl,rfl,_⟩:=h
  rfl
 ·obtain ⟨e,wd,pl,rfl,he,k⟩:=h
  refine ⟨_,(aC (cq (tM T.bi_RightError rfl T.mg_RightError (aA (pv 0) (aA (pv 1) aD))))
   (aH (w9 (pv 0) (pv 2) rfl))),?_⟩
  refine ⟨_,rfl,_,rfl,e,_,_,_,_,rfl,he,T.x_NoAct,?_⟩
  exact ⟨_,rfl,_,rfl,e,_,_,rfl,he,T.x_NoAct,T.xs_NoAct,fun dx hd=>k dx hd⟩
set_option maxHeartbeats 4000000 in
theorem p9 (T:Txt w K mg c):ar P w K mg base (jo P w) 4 c.a_Act_init c.d_Act_init ["self", "day", "deed", "number"] (zf K c.c_Act c.c_NoDay c.c_NoAct c.c_NoNumber):=by
 refine T.Act_init.rX pB (fun vs H Q E h=>?_) (fun cdv A outer s H vs Q E hr h=>?_)
 ·obtain ⟨a,dx,d,e,n,rfl,_⟩:=h
  rfl
 ·obtain ⟨a,dx,d,e,n,rfl,ha,od,oe,on,k1,k2,k3,k4⟩:=h
  refine ⟨_,(aC (cq (b7 (fA T) (hr.mono (by decide)) rfl T.refuse_day.mgf T.refuse_day.kp T.refuse_day.bi .nil cP (aA (pv 1) aD)))
   (aC (ai (bh (bo (aU (qL T) (hr.mono (by decide)) rfl T.is_deed.mgf T.is_deed.kp T.is_deed.bi .nil ak (aA (pv 2) aD))))
    (aH (jR T.x_NoAct (fK T) (hr.mono (by decide)) rfl rfl T.mg_NoAct T.b_NoAct_2 nE (aA aT (aA aE aD))))
    aO)
   (aC (ai (bh (bo (aU (dG T) (hr.mono (by decide)) rfl T.is_number.mgf T.is_number.kp T.is_number.bi .nil ak (aA (pv 3) aD))))
    (aH (cE T.x_NoNumber rfl rfl T.mg_NoNumber dS (aA aT aD)))
    aO)
   (aC (cH (pv 0) (pv 1) rfl)
   (aC (cH (pv 0) (pv 2) rfl)
   (aH (cH (pv 0) (pv 3) rfl))))))),?_⟩
  refine ⟨_,rfl,d,rfl,od,fun hd=>?_,fun hd=>k1 hd⟩
  refine ⟨_,rfl,e,rfl,oe,_,rfl,?_⟩
  cases he:bX e with
  | false=>exact bK ⟨rfl,aJ rfl,mz fun x G sG hx=>k2 hd he x G sG hx⟩
  | true =>
   refine aq ⟨_,rfl,n,rfl,on,_,rfl,?_⟩
   cases hn:inR 1000000000 n with
   | false=>exact bK ⟨aJ rfl,k3 hd he hn⟩
   | true =>
    refine aq ?_
    refine ⟨_,rfl,_,rfl,a,_,dx,_,rfl,ha,T.cl_Act,T.na_Act_day,aJ rfl,?_⟩
    refine ⟨_,rfl,_,rfl,a,_,dx,_,rfl,aB,T.cl_Act,T.na_Act_deed,aJ rfl,?_⟩
    refine ⟨_,rfl,_,rfl,a,_,dx,_,rfl,aB,T.cl_Act,T.na_Act_number,aJ rfl,?_⟩
    refine k4 hd he hn _ (fun b u nb hb=>?_) aB
    rw [aI nb,aI nb,aI nb]
    exact hb
set_option maxHeartbeats 4000000 in
theorem gP (T:Txt w K mg c):ar P w K mg base fN 1 c.a_Lcell_at c.d_Lcell_at ["_law_script", "_law_k"] (yA K):=by
 refine T.Lcell_at.fn.ok pC (fun vs H Q E h=>?_) (fun cdv A outer s H vs Q E hr h=>?_)
 ·obtain ⟨a,i,ns,rfl,_⟩:=h
  rfl
 ·obtain ⟨a,i,ns,rfl,h0,hS,k⟩:=h
  refine ⟨_,(aC (ai (aW pI (pv 1) (af bG rfl T.no_len dY (aA (pv 0) aD)) (aX _))
    (aH (aR (aY ae (pv 0) (pv 1) (fun _ _=>rfl))))
    aO)
   (aH (aR aE))),?_⟩
  refine ⟨_,rfl,_,rfl,a,_,rfl,.inl hS,_,_,rfl,rfl,_,rfl,?_⟩
  refine bf (fun hl=>?_) (fun _=>k 0)
  obtain ⟨v,hv,hm⟩:=cx (xs:=ns.map V.int) h0 (of_decide_eq_true hl)
  obtain ⟨z,_,rfl⟩:=List.mem_map.mp hm
  exact ⟨_,rfl,_,rfl,a,_,i,_,rfl,rfl,hS,hv,k z⟩
set_option maxHeartbeats 4000000 in
theorem de (T:Txt w K mg c):ar P w K mg base fN 1 c.a_Ldraw c.d_Ldraw ["_law_cell", "_law_place"] (yv):=by
 refine T.Ldraw.fn.ok lN (fun vs H Q E h=>?_) (fun cdv A outer s H vs Q E hr h=>?_)
 ·obtain ⟨n,p,rfl,_⟩:=h
  rfl
 ·obtain ⟨n,p,rfl,p0,p1,k⟩:=h
  refine ⟨_,(ag (aN (i:=2) lN.nd rfl (Or.inl rfl) (aP yM (pv 0) (aP bj aE (aP dU aE (aP av (pv 1) aE)))))
   (ag (ai (PW.pt (cR (aW bq (aP av (pv 0) aE) aE (aX _)) (bw (aW mM (pv 2) aE (aX _)))))
    (aH (aR (aP av (pv 2) aE)))
    aO)
   (ag (aN (i:=3) lN.nd rfl (Or.inl rfl) (aP av (aP dU (aP bj (aP av (aP dq (pv 0) aE) (aP mm aE aE)) aE) (aP bj aE (aP dU (aP dU aE (pv 1)) (pv 1)))) aE))
   (aH (aR (aP av (aP dU (pv 3) (pv 3)) aE)))))),?_⟩
  have p2:=Int.emod_nonneg p (b:=64) (by decide)
  have sq:p * p ≤ 1000 * 1000:=Int.mul_le_mul (by omega) (by omega) (by omega) (by omega)
  have sq0:0 ≤ p * p:=Int.mul_nonneg p0 p0
  have e3:7919 * p * p = 7919 * (p * p):=Int.mul_assoc _ _ _
  refine ⟨fun σ G=>G = H ∧ ∃ o:Int,σ = [some (.int n),some (.int p),some (.int o),none],?_,?_⟩
  ·walk_at "rd"
   refine ⟨by omega,?_⟩
   first | exact ⟨rfl,_,rfl⟩ | exact ⟨_,rfl⟩
  rintro σ G ⟨rfl,o,rfl⟩
  refine ⟨fun σ G'=>G' = G ∧ σ = [some (.int n),some (.int p),some (.int o),none],?_,?_⟩
  ·walk_at "rd"
   refine bf (fun _=>?_) (fun _=>⟨rfl,rfl⟩)
   walk_at "rd"
   refine bf (fun _=>?_) (fun _=>⟨rfl,rfl⟩)
   walk_at "rd"
   exact k _ (Int.emod_nonneg _ (by decide)) (Int.emod_lt_of_pos _ (by decide))
  rintro σ G' ⟨rfl,rfl⟩
  refine ⟨fun σ G=>G = G' ∧ ∃ m:Int,0 ≤ m ∧ m < 2147483629 ∧ σ = [some (.int n),some (.int p),some (.int o),some (.int m)],?_,?_⟩
  ·walk_at "rd"
   refine ⟨.inl ⟨by omega,by omega⟩,?_⟩
   walk_at "rd"
   refine ⟨.inr ⟨by rw [e3]; omega,by rw [e3]; omega⟩,?_⟩
   walk_at "rd"
   first | exact ⟨rfl,_,Int.emod_nonneg _ (by decide),Int.emod_lt_of_pos _ (by decide),rfl⟩ | exact ⟨_,Int.emod_nonneg _ (by decide),Int.emod_lt_of_pos _ (by decide),rfl⟩
  rintro σ G ⟨rfl,m,m0,m1,rfl⟩
  walk_at "rd"
  refine ⟨.inl ⟨by omega,by omega⟩,?_⟩
  walk_at "rd"
  have q1:=Int.emod_lt_of_pos (m * m) (b:=2147483587) (by decide)
  exact k _ (Int.emod_nonneg _ (by decide)) (by omega)
set_option maxHeartbeats 4000000 in
theorem sf (T:Txt w K mg c):ar P w K mg base fN 2 c.a_Lwords c.d_Lwords ["_law_cell"] (uF):=by
 refine T.Lwords.fn.ok c6 (fun vs H Q E h=>?_) (fun cdv A outer s H vs Q E hr h=>?_)
 ·obtain ⟨n,rfl,_⟩:=h
  rfl
 ·obtain ⟨n,rfl,k⟩:=h
  refine ⟨_,(aC (aN (i:=1) c6.nd rfl (Or.inl rfl) aT)
   (ag (aN (i:=2) c6.nd rfl (Or.inl rfl) (aP bj aE (aP av (aU (de T) (hr.mono (by decide)) rfl T.Ldraw.mgf T.Ldraw.kp T.Ldraw.bi .nil ak (aA (pv 0) (aA aE aD))) aE)))
   (ag (aN (i:=3) c6.nd rfl (Or.inl rfl) (aP av (aU (de T) (hr.mono (by decide)) rfl T.Ldraw.mgf T.Ldraw.kp T.Ldraw.bi .nil ak (aA (pv 0) (aA aE aD))) (pv 2)))
   (aC (aN (i:=4) c6.nd rfl (Or.inl rfl) (bg aD))
   (aC (cU PassesOwn.never rfl (cZ rfl T.no_range (aA aE aD)) (aQ (i:=5) c6.nd rfl (Or.inl rfl))
    (aC (aN (i:=6) c6.nd rfl (Or.inl rfl) aT)
   (aC (cU PassesOwn.never rfl (cZ rfl T.no_range (aA (pv 2) aD)) (aQ (i:=7) c6.nd rfl (Or.inl rfl))
    (aH (aN (i:=6) c6.nd rfl (Or.inl rfl) (aP qU (pv 6) (aY zR (pv 1) (aP av (aP bj (aU (de T) (hr.mono (by decide)) rfl T.Ldraw.mgf T.Ldraw.kp T.Ldraw.bi .nil ak (aA (pv 0) (aA (aP bj aE (pv 7)) aD))) (aP dU (aP dU aE (pv 5)) (gm jJ rfl T.no_int nB (aA (cJ bq (pv 7) (pv 3) (aX _)) aD)))) aE) (fun _ _=>rfl))))))
   (aH (cq (m4 PySem.F.plainAttrs_list PySem.F.slot_list_append PySem.F.type_list_append (t9.r dW) (pv 4) (aA (pv 6) aD)))))))
   (aH (aR (pv 4)))))))),?_⟩
  have sz:2000 < sizeLine:=aJ rfl
  have abc:(Str.ofString "abcdefghijklmnopqrstuvwxyz").cps.toList.length = 26:=by decide +kernel
  have abl:∀ c ∈ (Str.ofString "abcdefghijklmnopqrstuvwxyz").cps.toList,dH c = true:=by decide +kernel
  obtain ⟨ab,hab⟩:∃ ab:Str,ab = Str.ofString "abcdefghijklmnopqrstuvwxyz" := ⟨_,rfl⟩
  refine ⟨fun σ' G'=>H = G' ∧ ∃ sz0:Int,1 ≤ sz0 ∧ sz0 ≤ 12 ∧ σ' = [some (.int n),some (.str ab),some (.int sz0),none,none,none,none,none],?_,?_⟩
  ·refine ⟨_,rfl,n,1,rfl,by decide,by decide,fun r r0 r1=>?_⟩
   walk_at "rd"
   have q0:=Int.emod_nonneg r (b:=12) (by decide)
   have q1:=Int.emod_lt_of_pos r (b:=12) (by decide)
   rw [hab]
   first | exact ⟨rfl,_,by omega,by omega,rfl⟩ | exact ⟨_,by omega,by omega,rfl⟩
  rintro σ G ⟨rfl,sz0,z0,z1,rfl⟩
  refine ⟨fun σ' G'=>H = G' ∧ ∃ at0:Int,σ' = [some (.int n),some (.str ab),some (.int sz0),some (.int at0),none,none,none,none],?_,?_⟩
  ·refine ⟨_,rfl,n,2,rfl,by decide,by decide,fun r r0 r1=>?_⟩
   walk_at "rd"
   first | exact ⟨by omega,rfl,_,rfl⟩ | exact ⟨by omega,_,rfl⟩ | (refine ⟨by omega,?_⟩; walk_at "rd"; first | exact ⟨rfl,_,rfl⟩ | exact ⟨_,rfl⟩)
  rintro σ G ⟨rfl,at0,rfl⟩
  refine ⟨aJ rfl,fun l hl=>?_⟩
  have s0:=aG.new (o:=HO.lst []) hl
  have k0:=aB (H:=H) (a:=l) (o:=.lst [])
  generalize upd H l (.lst []) = G0 at s0 k0 ⊢
  walk_at "rd"
  refine ⟨by decide,by decide,?_⟩
  refine eE (n:=5) (lo:=0) (fun i σ G=>∃ (zs:List Str) (z5 z6 z7:Option V),σ = [some (.int n),some (.str ab),some (.int sz0),some (.int at0),some (.ref l),z5,z6,z7] ∧ zs.length = i ∧ (∀ z ∈ zs,isWord (.str z) = true) ∧ aG H G ∧ G l = some (.lst (zs.map V.str))) ?_ ?_ ?_
  ·exact ⟨[],_,_,_,rfl,rfl,fun _ h=>(nomatch h),s0,k0⟩
  ·rintro i σ G hi ⟨zs,z5,z6,z7,rfl,hz,hw,sG,hG⟩
   walk_at "rd"
   refine ⟨by omega,by omega,?_⟩
   refine eE (n:=sz0.toNat) (lo:=0) (fun j σ G'=>G' = G ∧ ∃ (z:Str) (z7:Option V),σ = [some (.int n),some (.str ab),some (.int sz0),some (.int at0),some (.ref l),some (.int (0 + (i:Int))),some (.str z),z7] ∧ z.length = j ∧ z.cps.toList.all dH = true) ?_ ?_ ?_
   ·exact ⟨rfl,_,_,rfl,rfl,rfl⟩
   ·rintro j σ G' hj ⟨rfl,z,z7',rfl,hzl,ha⟩
    have hj':(j:Int) < 12:=by omega
    walk_at "rd"
    refine ⟨by omega,by omega,fun r r0 r1=>?_⟩
    walk_at "rd"
    refine .inr ⟨_,rfl,?_⟩
    walk_at "rd"
    refine ⟨.inl ⟨by omega,by omega⟩,?_⟩
    walk_at "rd"
    obtain ⟨bb,hbb⟩:∃ bb:Int,bb = (if decide (V.int (0 + (j:Int)) = V.int at0) = true then (1:Int) else 0):=⟨_,rfl⟩
    rw [← hbb]
    obtain ⟨ch,hv,hm⟩:=cx (xs:=ab.cps.toList) (i:=(r + 5 * (0 + (i:Int)) * bb) % 26) (Int.emod_nonneg _ (by decide)) (by rw [hab,abc]; exact Int.emod_lt_of_pos _ (by decide))
    rw [hab] at hm
    refine ⟨_,_,ch,rfl,rfl,by rw [hab]; exact aJ rfl,hv,?_⟩
    refine ⟨_,_,rfl,rfl,?_,?_⟩
    ·show z.length + 1 ≤ sizeLine
     omega
    ·walk_at "rd"
     first | refine ⟨rfl,_,_,rfl,?_,?_⟩ | refine ⟨_,_,rfl,?_,?_⟩ | refine ⟨_,rfl,?_,?_⟩ | refine ⟨?_,?_⟩
     ·rw [Str.length_append,hzl]
      rfl
     ·rw [wg,ha]
      show (true && ([ch].all dH)) = true
      rw [List.all_cons,abl ch hm]
      rfl
   ·rintro σ G' ⟨rfl,z,z7',rfl,hzl,ha⟩
    walk_at "rd"
    refine ⟨.inl ⟨rfl,_,ah.of hG⟩,?_⟩
    walk_at "rd"
    refine ⟨l,_,_,rfl,rfl,hG,by rw [List.length_map]; omega,?_⟩
    refine ⟨zs ++ [z],_,_,_,rfl,by rw [List.length_append,hz]; rfl,fun y hy=>?_,bD hl sG,by rw [aB,List.map_append]; rfl⟩
    rcases List.mem_append.mp hy with e | e
    ·exact hw y e
    ·rw [List.mem_singleton.mp e]
     exact tP (by omega) (by omega) ha
  ·rintro σ G ⟨zs,z5,z6,z7,rfl,hz,hw,sG,hG⟩
   exact ⟨_,rfl,k zs l G hz hw sG hl hG⟩
set_option maxHeartbeats 4000000 in
theorem qv (T:Txt w K mg c):ar P w K mg base fN 2 c.a_Lsheets c.d_Lsheets ["_law_cell"] (ua):=by
 refine T.Lsheets.fn.ok k7 (fun vs H Q E h=>?_) (fun cdv A outer s H vs Q E hr h=>?_)
 ·obtain ⟨n,rfl,_⟩:=h
  rfl
 ·obtain ⟨n,rfl,k⟩:=h
  refine ⟨_,(ag (aN (i:=1) k7.nd rfl (Or.inr rfl) (aP av (aU (de T) (hr.mono (by decide)) rfl T.Ldraw.mgf T.Ldraw.kp T.Ldraw.bi .nil ak (aA (pv 0) (aA aE aD))) (aP mm aE aE)))
   (aH (aR (cX (N':=["_law_k", "_law_far", "_law_cell"]) (js:=[none,some 1,some 0]) rfl rfl (by decide +kernel) (by decide +kernel) (bu ["_law_far", "_law_cell"] (by decide +kernel) (aM (.inl rfl) (aM (.inl rfl) bB))) (cf rfl (aM (fun j e=>nomatch e) (aM (fun j e=>by cases e; exact ⟨rfl,rfl,.inl rfl⟩) (aM (fun j e=>by cases e; exact ⟨rfl,rfl,.inl rfl⟩) bB)))) (cZ rfl T.no_range (aA aE aD)) (fun B=>⟨(aQ (i:=0) (show List.Nodup (["_law_k", "_law_far", "_law_cell"]:List Str) by decide +kernel) rfl (Or.inl rfl)),dO,(aP bj (aP bj aE (aP dU (pv 1) (aP av (aU (de T) (hr.mono (by decide)) rfl T.Ldraw.mgf T.Ldraw.kp T.Ldraw.bi .nil ak (aA (pv 2) (aA aE aD))) aE))) (aP dU aE (pv 0)))⟩))))),?_⟩
  have sz:2000 < sizeLine:=aJ rfl
  refine ⟨fun σ' G'=>H = G' ∧ ∃ f:Int,0 ≤ f ∧ f < 100000000 ∧ σ' = [some (.int n),some (.int f)],?_,?_⟩
  ·refine ⟨_,rfl,n,5,rfl,by decide,by decide,fun r r0 r1=>?_⟩
   walk_at "rd"
   have q0:=Int.emod_nonneg r (b:=100000000) (by decide)
   have q1:=Int.emod_lt_of_pos r (b:=100000000) (by decide)
   first | exact ⟨rfl,_,q0,q1,rfl⟩ | exact ⟨_,q0,q1,rfl⟩
  rintro σ G ⟨rfl,f,f0,f1,rfl⟩
  walk_at "rd"
  refine ⟨by decide,by decide,fun l B hl=>?_⟩
  refine jA (n:=(10:Int).toNat) (P:=fun _ v=>∃ s:Int,v = .int s ∧ 1 ≤ s ∧ s ≤ 1000000000) hl (by decide) (fun σ=>∃ o,σ = [o,some (.int f),some (.int n)]) ⟨_,rfl⟩ ?_ ?_
  ·rintro i σ G Kt hi ⟨o,rfl⟩ sG kt
   have hi:i < 10:=hi
   refine ⟨_,rfl,_,rfl,n,6,rfl,by decide,by decide,fun r r0 r1=>?_⟩
   have q0:=Int.emod_nonneg r (b:=2) (by decide)
   have q1:=Int.emod_lt_of_pos r (b:=2) (by decide)
   have fm:0 ≤ f * (r % 2) ∧ f * (r % 2) < 100000000:=by
    have:r % 2 = 0 ∨ r % 2 = 1:=by omega
    rcases this with h | h <;> rw [h] <;> omega
   walk_at "rd"
   refine ⟨.inl ⟨by omega,by omega⟩,?_⟩
   walk_at "rd"
   refine kt _ _ _ ⟨_,rfl⟩ (aG.refl _) ⟨_,rfl,?_,?_⟩
   ·omega
   ·omega
  ·intro G acc sG h1 h2 h3
   obtain ⟨ss,rfl⟩:=ff (acc:=acc) fun i v hv=>let ⟨s,e,_⟩:=h3 i v hv; ⟨s,e⟩
   refine k ss l G (by rw [List.length_map] at h2; exact h2) (fun s hs=>?_) sG hl h1
   obtain ⟨i,hi⟩:=List.getElem?_of_mem (List.mem_map_of_mem (f:=V.int) hs)
   obtain ⟨s',e,a,b⟩:=h3 i _ hi
   cases e
   exact ⟨a,b⟩
set_option maxHeartbeats 4000000 in
theorem si (T:Txt w K mg c):ar P w K mg base fN 1 c.a_Lunder c.d_Lunder ["_law_rows_here", "_law_rank", "_law_draw_here"] (uC):=by
 refine T.Lunder.fn.ok jN (fun vs H Q E h=>?_) (fun cdv A outer s H vs Q E hr h=>?_)
 ·obtain ⟨l,ws,es,rk,x,rfl,_⟩:=h
  rfl
 ·obtain ⟨l,ws,es,rk,x,rfl,hL,hR,hB,x0,k⟩:=h
  refine ⟨_,(ag (aN (i:=3) jN.nd rfl (Or.inr rfl) (aY ae (bg (aA aT (aA aT aD))) (gm jJ rfl T.no_int nB (aA (cJ bq (pv 1) aT (aX _)) aD)) (fun _ _=>rfl)))
   (ag (cM (i:=4) jN.nd rfl rfl (N':=["_law_row_here", "_law_want"]) (js:=[none,some 3]) rfl rfl (by decide +kernel) (by decide +kernel) (bu ["_law_want"] (by decide +kernel) (aM (.inl rfl) bB)) (cf rfl (aM (fun j e=>nomatch e) (aM (fun j e=>by cases e; exact ⟨rfl,rfl,.inl rfl⟩) bB))) (bW (pv 0)) (fun B=>⟨(aQ (i:=0) (show List.Nodup (["_law_row_here", "_law_want"]:List Str) by decide +kernel) rfl (Or.inl rfl)),(cC (aW bq (aY bC (pv 0) aE (fun _ _=>rfl)) (pv 1) (aX _))),(aY bC (pv 0) aE (fun _ _=>rfl))⟩))
   (ag (ai (PW.pt (cR (aW bq (aP av (pv 2) aE) aE (aX _)) (bw (aW (kY (iE hr)) (pv 0) (bg aD) (aX _)))))
    (aH (aR (aY bC (aY ae (pv 0) (aP av (aP dq (pv 2) aE) (af bG rfl T.no_len dY (aA (pv 0) aD))) (fun _ _=>rfl)) aE (fun _ _=>rfl))))
    aO)
   (aC (ai (aW (ml (iE hr)) (pv 4) (bg aD) (aX _))
    (aH (aR (aP vc aE (aP av (pv 2) aE))))
    aO)
   (aH (aR (aY ae (pv 4) (aP av (aP dq (pv 2) aE) (af bG rfl T.no_len dY (aA (pv 4) aD))) (fun _ _=>rfl)))))))),?_⟩
  have sz:2000 < sizeLine:=aJ rfl
  have lw:=hR.1
  have l60:=hB.le
  refine ⟨fun σ' G'=>aG H G' ∧ ∃ wt:Str,σ' = [some (.ref l),some (.str rk),some (.int x),some (.str wt),none],?_,?_⟩
  ·refine ⟨aJ rfl,fun q hq=>?_⟩
   have s1:=aG.new (o:=HO.lst [V.str (Str.ofString "genus"),V.str (Str.ofString "species")]) hq
   have k1:=aB (H:=H) (a:=q) (o:=.lst [V.str (Str.ofString "genus"),V.str (Str.ofString "species")])
   generalize upd H q (.lst [V.str (Str.ofString "genus"),V.str (Str.ofString "species")]) = G1 at s1 k1 ⊢
   refine ⟨_,rfl,rfl,.inr ⟨_,rfl,?_⟩⟩
   obtain ⟨bb,hbb⟩:∃ bb:Bool,bb = decide (V.str rk = V.str (Str.ofString "form")):=⟨_,rfl⟩
   rw [← hbb]
   cases bb with
   | true=>exact ⟨q,_,_,_,rfl,rfl,ah.of k1,a9 (j:=1) rfl,s1,_,rfl⟩
   | false=>exact ⟨q,_,_,_,rfl,rfl,ah.of k1,a9 (j:=0) rfl,s1,_,rfl⟩
  rintro σ G1 ⟨s1,wt,rfl⟩
  have hL1:=s1 _ _ hL
  have hR1:=hR.same s1
  refine ⟨fun σ' G'=>aG H G' ∧ ∃ q,∃ ms:List Int,σ' = [some (.ref l),some (.str rk),some (.int x),some (.str wt),some (.ref q)] ∧ G' q = some (.lst (ms.map V.int)) ∧ ms.length ≤ 60 ∧ ∀ m ∈ ms,∃ e ∈ es,m = e.n,?_,?_⟩
  ·refine ⟨_,rfl,l,rfl,⟨_,ah.of hL1⟩,fun q B hq=>?_⟩
   refine cW (xs:=ws) (fun i σ acc G=>(∃ o,σ = [o,some (.str wt)]) ∧ aG G1 G ∧ G q = some (.lst acc) ∧ acc.length ≤ i ∧ ∃ ms:List Int,acc = ms.map V.int ∧ ∀ m ∈ ms,∃ e ∈ es,m = e.n) (by omega) ?_ ?_ ?_ ?_
   ·exact ⟨⟨_,rfl⟩,aG.new hq,aB,Nat.zero_le _,[],rfl,fun _ h=>nomatch h⟩
   ·rintro i σ acc G hi ⟨_,sG,h1,h2,_⟩
    exact ⟨h1,ah.of (sG _ _ hL1),by omega⟩
   ·rintro i v σ acc G hx ⟨⟨o,rfl⟩,sG,h1,h2,ms,rfl,h3⟩
    have hi:i < ws.length:=(List.getElem?_eq_some_iff.mp hx).1
    have hie:i < es.length:=by omega
    have ee:es[i]? = some es[i]:=List.getElem?_eq_getElem hie
    obtain ⟨ra,rfl,hrow⟩:=hR1.2 i v _ hx ee
    have em:=List.getElem_mem hie
    generalize es[i] = e at hrow em
    have f2:eW (cY e) 2 = some (.str e.r):=a9 (j:=2) rfl
    have f0:eW (cY e) 0 = some (.int e.n):=a9 (j:=0) rfl
    have hrow:=sG _ _ hrow
    refine ⟨_,rfl,ra,_,_,_,rfl,rfl,bp.of hrow,f2,_,rfl,rfl,_,rfl,?_⟩
    refine bf (fun _=>?_) (fun _=>Nx.mk hi ⟨⟨_,rfl⟩,sG,h1,by omega,ms,rfl,h3⟩)
    refine ⟨_,rfl,ra,_,_,_,rfl,rfl,bp.of hrow,f0,h1,Nx.mk hi ⟨⟨_,rfl⟩,bD hq sG,aB,by rw [List.length_append]; exact Nat.add_le_add_right h2 1,ms ++ [e.n],by rw [List.map_append]; rfl,fun m hm=>?_⟩⟩
    rcases List.mem_append.mp hm with z | z
    ·exact h3 m z
    ·exact ⟨e,em,List.mem_singleton.mp z⟩
   ·rintro σ acc G ⟨_,sG,h1,h2,ms,rfl,h3⟩
    rw [List.length_map] at h2
    exact ⟨s1.trans sG,q,ms,rfl,h1,by omega,h3⟩
  rintro σ G2 ⟨s2,q,ms,rfl,hq,l2,h3⟩
  have hL2:=s2 _ _ hL
  have hR2:=hR.same s2
  refine ⟨fun σ' G'=>aG G2 G' ∧ σ' = [some (.ref l),some (.str rk),some (.int x),some (.str wt),some (.ref q)],?_,?_⟩
  ·walk_at "rd"
   refine bf (fun _=>?_) (fun _=>aq ⟨aG.refl _,rfl⟩)
   walk_at "rd"
   refine ⟨aJ rfl,fun q0 hq0=>?_⟩
   have t0:=aG.new (o:=HO.lst []) hq0
   refine ⟨0,_,by decide,iC (ah.of (t0 _ _ hL2)) (ah.of aB),_,rfl,?_⟩
   cases he:ws.isEmpty with
   | true=>exact aq ⟨t0,rfl⟩
   | false =>
    refine bK ?_
    have wp:0 < ws.length:=List.length_pos_iff.mpr fun z=>by rw [z] at he; cases he
    have hL3:=t0 _ _ hL2
    have hR3:=hR2.same t0
    generalize upd G2 q0 (.lst []) = G3 at t0 hL3 hR3 ⊢
    walk_at "rd"
    refine ⟨l,_,rfl,.inl (ah.of hL3),?_⟩
    walk_at "rd"
    refine ⟨by show (0:Int) < ws.length; omega,?_⟩
    obtain ⟨j,v,jl,hv,hvi,_⟩:=zN (xs:=ws) (i:=x / 9 % (ws.length:Int)) (Int.emod_nonneg _ (by omega)) (Int.emod_lt_of_pos _ (by omega))
    obtain ⟨e,he2⟩:∃ e,es[j]? = some e:=⟨_,List.getElem?_eq_getElem (by omega)⟩
    obtain ⟨ra,rfl,hrow⟩:=hR3.2 j v e hv he2
    have f0:eW (cY e) 0 = some (.int e.n):=a9 (j:=0) rfl
    have b9:=hB.n9 (List.mem_of_getElem? he2)
    exact ⟨l,_,_,_,rfl,rfl,ah.of hL3,hvi,ra,_,_,_,rfl,rfl,bp.of hrow,f0,k _ _ (s2.trans t0) b9.1 (by omega)⟩
  rintro σ G3 ⟨s3,rfl⟩
  have hq:=s3 _ _ hq
  have s3:=s2.trans s3
  refine ⟨_,rfl,aJ rfl,fun q0 hq0=>?_⟩
  have t0:=aG.new (o:=HO.lst []) hq0
  refine ⟨0,_,by decide,iC (ah.of (t0 _ _ hq)) (ah.of aB),_,rfl,?_⟩
  have m0:=Int.emod_nonneg x (b:=1000) (by decide)
  have m1:=Int.emod_lt_of_pos x (b:=1000) (by decide)
  cases he:(ms.map V.int).isEmpty with
  | true =>
   refine bK ?_
   walk_at "rd"
   exact k _ _ (s3.trans t0) (by omega) (by omega)
  | false =>
   refine aq ?_
   have wp:0 < (ms.map V.int).length:=List.length_pos_iff.mpr fun z=>by rw [z] at he; cases he
   have hq1:=t0 _ _ hq
   have s4:=s3.trans t0
   generalize upd G3 q0 (.lst []) = G4 at t0 hq1 s4 ⊢
   walk_at "rd"
   refine ⟨q,_,rfl,.inl (ah.of hq1),?_⟩
   walk_at "rd"
   refine ⟨by show (0:Int) < (ms.map V.int).length; omega,?_⟩
   obtain ⟨v,hv,hm⟩:=cx (xs:=ms.map V.int) (i:=x / 9 % ((ms.map V.int).length:Int)) (Int.emod_nonneg _ (by omega)) (Int.emod_lt_of_pos _ (by omega))
   obtain ⟨m,hmm,rfl⟩:=List.mem_map.mp hm
   obtain ⟨e,he,rfl⟩:=h3 m hmm
   have b9:=hB.n9 he
   exact ⟨q,_,_,_,rfl,rfl,ah.of hq1,hv,k _ _ s4 b9.1 (by omega)⟩
set_option maxHeartbeats 4000000 in
theorem uE (T:Txt w K mg c):ar P w K mg base fN 1 c.a_Lbase c.d_Lbase ["_law_rows_here", "_law_rank", "_law_word", "_law_draw_here"] (wI):=by
 refine T.Lbase.fn.ok lE (fun vs H Q E h=>?_) (fun cdv A outer s H vs Q E hr h=>?_)
 ·obtain ⟨l,ws,es,rk,wd,x,rfl,_⟩:=h
  rfl
 ·obtain ⟨l,ws,es,rk,wd,x,rfl,hL,hR,hB,x0,k⟩:=h
  refine ⟨_,(ag (cM (i:=4) lE.nd rfl rfl (N':=["_law_row_here", "_law_rank", "_law_word"]) (js:=[none,some 1,some 2]) rfl rfl (by decide +kernel) (by decide +kernel) (bu ["_law_rank", "_law_word"] (by decide +kernel) (aM (.inl rfl) (aM (.inl rfl) bB))) (cf rfl (aM (fun j e=>nomatch e) (aM (fun j e=>by cases e; exact ⟨rfl,rfl,.inl rfl⟩) (aM (fun j e=>by cases e; exact ⟨rfl,rfl,.inl rfl⟩) bB)))) (bW (pv 0)) (fun B=>⟨(aQ (i:=0) (show List.Nodup (["_law_row_here", "_law_rank", "_law_word"]:List Str) by decide +kernel) rfl (Or.inl rfl)),(cC (PW.pt (cR (aW bq (aY bC (pv 0) aE (fun _ _=>rfl)) (pv 1) (aX _)) (cR (cS (dR (aY bC (pv 0) aE (fun _ _=>rfl)))) (bw (aW bq (aY bC (pv 0) aE (fun _ _=>rfl)) (pv 2) (aX _))))))),(pv 0)⟩))
   (ag (ai (aW bq (aP av (pv 3) aE) aE (aX _))
    (aH (aN (i:=4) lE.nd rfl (Or.inl rfl) (pv 0)))
    aO)
   (aC (ai (PW.pt (kF (aW (ml (iE hr)) (pv 4) (bg aD) (aX _)) (jI (PW.pt (cR (aW mD (aP av (pv 3) aE) aE (aX _)) (bw (aW mD (aP av (pv 3) aE) aE (aX _))))))))
    (aH (aR ez))
    aO)
   (aH (aR (aY bC (aY ae (pv 4) (aP av (aP dq (pv 3) aE) (af bG rfl T.no_len dY (aA (pv 4) aD))) (fun _ _=>rfl)) aE (fun _ _=>rfl))))))),?_⟩
  have sz:2000 < sizeLine:=aJ rfl
  have lw:=hR.1
  have l60:=hB.le
  refine ⟨fun σ' G'=>aG H G' ∧ ∃ q acc,σ' = [some (.ref l),some (.str rk),some (.str wd),some (.int x),some (.ref q)] ∧ G' q = some (.lst acc) ∧ acc.length ≤ 60 ∧ ∀ v ∈ acc,∃ e ∈ es,i4 H v e,?_,?_⟩
  ·refine ⟨_,rfl,l,rfl,⟨_,ah.of hL⟩,fun q B hq=>?_⟩
   refine cW (xs:=ws) (fun i σ acc G=>(∃ o,σ = [o,some (.str rk),some (.str wd)]) ∧ aG H G ∧ G q = some (.lst acc) ∧ acc.length ≤ i ∧ ∀ v ∈ acc,∃ e ∈ es,i4 H v e) (by omega) ?_ ?_ ?_ ?_
   ·exact ⟨⟨_,rfl⟩,aG.new hq,aB,Nat.zero_le _,fun _ h=>nomatch h⟩
   ·rintro i σ acc G hi ⟨_,sG,h1,h2,_⟩
    exact ⟨h1,ah.of (sG _ _ hL),by omega⟩
   ·rintro i v σ acc G hx ⟨⟨o,rfl⟩,sG,h1,h2,h3⟩
    have hi:i < ws.length:=(List.getElem?_eq_some_iff.mp hx).1
    have hie:i < es.length:=by omega
    have ee:es[i]? = some es[i]:=List.getElem?_eq_getElem hie
    have hrw:=hR.2 i v _ hx ee
    obtain ⟨ra,rfl,hrow⟩:=hR.2 i v _ hx ee
    have em:=List.getElem_mem hie
    generalize es[i] = e at hrow em hrw
    have f2:eW (cY e) 2 = some (.str e.r):=a9 (j:=2) rfl
    have f3:eW (cY e) 3 = some (.str e.w):=a9 (j:=3) rfl
    have f6:eW (cY e) 6 = some (aj e.b):=a9 (j:=6) rfl
    have hrow:=sG _ _ hrow
    have no:∀ o':Option V,Nx ws.length i ((∃ o'',[o',some (V.str rk),some (V.str wd)] = [o'',some (V.str rk),some (V.str wd)]) ∧ aG H G ∧ G q = some (.lst acc) ∧ acc.length ≤ i + 1 ∧ ∀ v ∈ acc,∃ e ∈ es,i4 H v e):=fun o'=>Nx.mk hi ⟨⟨_,rfl⟩,sG,h1,by omega,h3⟩
    refine ⟨_,rfl,ra,_,_,_,rfl,rfl,bp.of hrow,f2,_,rfl,rfl,_,rfl,?_⟩
    refine bf (fun _=>?_) (fun _=>aq (no _))
    refine ⟨_,rfl,ra,_,_,_,rfl,rfl,bp.of hrow,f6,_,rfl,?_⟩
    refine bf (fun _=>?_) (fun _=>aq (no _))
    refine ⟨_,rfl,ra,_,_,_,rfl,rfl,bp.of hrow,f3,_,rfl,rfl,_,rfl,?_⟩
    refine bf (fun _=>?_) (fun _=>no _)
    refine ⟨_,rfl,h1,Nx.mk hi ⟨⟨_,rfl⟩,bD hq sG,aB,by rw [List.length_append]; exact Nat.add_le_add_right h2 1,fun v hv=>?_⟩⟩
    rcases List.mem_append.mp hv with z | z
    ·exact h3 v z
    ·rw [List.mem_singleton.mp z]; exact ⟨e,em,hrw⟩
   ·rintro σ acc G ⟨_,sG,h1,h2,h3⟩
    exact ⟨sG,q,acc,rfl,h1,by omega,h3⟩
  rintro σ' G1 ⟨s1,q,acc,rfl,hq,la,h3⟩
  have all:∀ v ∈ ws,∃ e ∈ es,i4 H v e:=fun v hv=>by
   obtain ⟨j,hj⟩:=List.getElem?_of_mem hv
   have hl:j < es.length:=by rw [← lw]; exact (List.getElem?_eq_some_iff.mp hj).1
   exact ⟨_,List.getElem_mem hl,hR.2 j v _ hj (List.getElem?_eq_getElem hl)⟩
  refine ⟨fun σ' G'=>G1 = G' ∧ ∃ q acc,σ' = [some (.ref l),some (.str rk),some (.str wd),some (.int x),some (.ref q)] ∧ G1 q = some (.lst acc) ∧ acc.length ≤ 60 ∧ ∀ v ∈ acc,∃ e ∈ es,i4 H v e,?_,?_⟩
  ·walk_at "rd"
   refine bf (fun _=>?_) (fun _=>⟨rfl,q,acc,rfl,hq,la,h3⟩)
   exact ⟨_,rfl,rfl,l,ws,rfl,s1 _ _ hL,by omega,all⟩
  clear hq la h3
  rintro σ' G' ⟨rfl,q,acc,rfl,hq,la,h3⟩
  refine ⟨_,rfl,aJ rfl,fun q0 hq0=>?_⟩
  have t0:=aG.new (o:=HO.lst []) hq0
  refine ⟨0,_,by decide,iC (ah.of (t0 _ _ hq)) (ah.of aB),_,rfl,?_⟩
  have s2:=s1.trans t0
  have hq:=t0 _ _ hq
  generalize upd G1 q0 (.lst []) = G2 at s2 hq ⊢
  have none_:Q (aj none) G2:=k none _ s2 fun b h=>nomatch h
  have some_:acc ≠ [] → ∃ v e i,i = x / 24 % (acc.length:Int) ∧ eW acc i = some v ∧ e ∈ es ∧ i4 H v e:=fun ne=>by
   have ap:0 < acc.length:=List.length_pos_iff.mpr ne
   obtain ⟨v,hv,hm⟩:=cx (xs:=acc) (i:=x / 24 % (acc.length:Int)) (Int.emod_nonneg _ (by omega)) (Int.emod_lt_of_pos _ (by omega))
   obtain ⟨e,he,hr⟩:=h3 v hm
   exact ⟨v,e,_,rfl,hv,he,hr⟩
  cases he:acc.isEmpty with
  | true=>exact bK none_
  | false =>
   refine aq ?_
   have ne:acc ≠ []:=fun z=>by rw [z] at he; cases he
   have ap:0 < acc.length:=List.length_pos_iff.mpr ne
   obtain ⟨v,e,i,rfl,hv,he2,ra,rfl,hrow⟩:=some_ ne
   have f0:eW (cY e) 0 = some (.int e.n):=a9 (j:=0) rfl
   have b9:=hB.n9 he2
   have go:Q (aj (some e.n)) G2:=k (some e.n) _ s2 fun b h=>by cases h; exact ⟨b9.1,by omega⟩
   have fin:∀ (R:Prop),R → R:=fun _ h=>h
   walk_at "rd"
   refine nK (fun _=>?_) (fun _=>aq ?_)
   ·walk_at "rd"
    refine bf (fun _=>?_) (fun _=>?_)
    ·exact none_
    ·walk_at "rd"
     refine ⟨q,_,rfl,.inl (ah.of hq),?_⟩
     walk_at "rd"
     refine ⟨by show (0:Int) < acc.length; omega,?_⟩
     exact ⟨q,_,_,_,rfl,rfl,ah.of hq,hv,ra,_,_,_,rfl,rfl,bp.of (s2 _ _ hrow),f0,go⟩
   ·walk_at "rd"
    refine ⟨q,_,rfl,.inl (ah.of hq),?_⟩
    walk_at "rd"
    refine ⟨by show (0:Int) < acc.length; omega,?_⟩
    exact ⟨q,_,_,_,rfl,rfl,ah.of hq,hv,ra,_,_,_,rfl,rfl,bp.of (s2 _ _ hrow),f0,go⟩
set_option maxHeartbeats 4000000 in
theorem wX (T:Txt w K mg c):ar P w K mg base fN 2 c.a_Lrow c.d_Lrow ["_law_rows_here", "_law_cell", "_law_k", "_law_words_here", "_law_sheets_here"] (yr):=by
 refine T.Lrow.fn.ok ck (fun vs H Q E h=>?_) (fun cdv A outer s H vs Q E hr h=>?_)
 ·obtain ⟨l,ws,es,n,i,wl,zs,sl,ss,rfl,_⟩:=h
  rfl
 ·obtain ⟨l,ws,es,n,i,wl,zs,sl,ss,rfl,hL,hR,hB,hi,h60,hW,lz,hz,hS,ls,hs,k⟩:=h
  refine ⟨_,(ag (cM (i:=5) ck.nd rfl rfl (N':=["_law_j", "_law_cell", "_law_k"]) (js:=[none,some 1,some 2]) rfl rfl (by decide +kernel) (by decide +kernel) (bu ["_law_cell", "_law_k"] (by decide +kernel) (aM (.inl rfl) (aM (.inl rfl) bB))) (cf rfl (aM (fun j e=>nomatch e) (aM (fun j e=>by cases e; exact ⟨rfl,rfl,.inl rfl⟩) (aM (fun j e=>by cases e; exact ⟨rfl,rfl,.inl rfl⟩) bB)))) (cZ rfl T.no_range (aA aE aD)) (fun B=>⟨(aQ (i:=0) (show List.Nodup (["_law_j", "_law_cell", "_law_k"]:List Str) by decide +kernel) rfl (Or.inl rfl)),dO,(aU (de T) (hr.mono (by decide)) rfl T.Ldraw.mgf T.Ldraw.kp T.Ldraw.bi .nil ak (aA (pv 1) (aA (aP bj (aP bj aE (aP dU aE (pv 2))) (pv 0)) aD)))⟩))
   (ag (aN (i:=6) ck.nd rfl (Or.inl rfl) (aP bj aE (aP av (aY ae (pv 5) aE (fun _ _=>rfl)) aE)))
   (ag (aN (i:=7) ck.nd rfl (Or.inl rfl) (aP bj (aP bj aE (aP dU (aP av (aY ae (pv 5) aE (fun _ _=>rfl)) (aP mm aE aE)) aE)) (pv 2)))
   (ag (ai (aW (kY (iE hr)) (pv 0) (bg aD) (aX _))
    (ag (aN (i:=6) ck.nd rfl (Or.inl rfl) (aP bj (aY bC (aY ae (pv 0) (o9 lO aE) (fun _ _=>rfl)) aE (fun _ _=>rfl)) (aY ae (bg (aA aE (aA aE (aA (aP av (aP dq (aY ae (pv 5) aE (fun _ _=>rfl)) aE) aE) aD)))) (aP av (aY ae (pv 5) aE (fun _ _=>rfl)) aE) (fun _ _=>rfl))))
   (aH (ai (PW.pt (cR (aW bq (pv 6) (aY bC (aY ae (pv 0) (o9 lO aE) (fun _ _=>rfl)) aE (fun _ _=>rfl)) (aX _)) (bw (aW pI (pv 7) (aY bC (aY ae (pv 0) (o9 lO aE) (fun _ _=>rfl)) aE (fun _ _=>rfl)) (aX _)))))
    (aH (aN (i:=6) ck.nd rfl (Or.inl rfl) (aP bj (pv 6) aE)))
    aO)))
    aO)
   (ag (aN (i:=8) ck.nd rfl (Or.inl rfl) (aY ae (bg (aA aT (aA aT (aA aT (aA aT (aA aT aD)))))) (aP av (aY ae (pv 5) aE (fun _ _=>rfl)) aE) (fun _ _=>rfl)))
   (ag (ai (PW.pt (cR (aW bq (pv 8) aT (aX _)) (bw (aW (ml (iE hr)) (cX (N':=["_law_row_here"]) (js:=[none]) rfl rfl (by decide +kernel) (by decide +kernel) (fR (by decide +kernel)) (gj rfl rfl) (bW (pv 0)) (fun B=>⟨(aQ (i:=0) (show List.Nodup (["_law_row_here"]:List Str) by decide +kernel) rfl (Or.inl rfl)),(cC (aW bq (aY bC (pv 0) aE (fun _ _=>rfl)) aT (aX _))),(pv 0)⟩)) (bg aD) (aX _)))))
    (aH (aN (i:=8) ck.nd rfl (Or.inl rfl) aT))
    aO)
   (ag (ai (PW.pt (cR (aW bq (pv 8) aT (aX _)) (bw (aW (ml (iE hr)) (cX (N':=["_law_row_here"]) (js:=[none]) rfl rfl (by decide +kernel) (by decide +kernel) (fR (by decide +kernel)) (gj rfl rfl) (bW (pv 0)) (fun B=>⟨(aQ (i:=0) (show List.Nodup (["_law_row_here"]:List Str) by decide +kernel) rfl (Or.inl rfl)),(cC (aW bq (aY bC (pv 0) aE (fun _ _=>rfl)) aT (aX _))),(pv 0)⟩)) (bg aD) (aX _)))))
    (aH (aN (i:=8) ck.nd rfl (Or.inl rfl) aT))
    aO)
   (ag (aN (i:=9) ck.nd rfl (Or.inl rfl) (aY ae (pv 3) (aP av (aY ae (pv 5) aE (fun _ _=>rfl)) (af bG rfl T.no_len dY (aA (pv 3) aD))) (fun _ _=>rfl)))
   (aC (ai (aW bq (pv 8) aT (aX _))
    (aH (aR (cB (aA (pv 7) (aA (pv 6) (aA (pv 8) (aA (pv 9) (aA ez (aA (aY ae (pv 4) (aP av (aY ae (pv 5) aE (fun _ _=>rfl)) aE) (fun _ _=>rfl)) (aA ez (aA (cJ mD (aP av (aY ae (pv 5) aE (fun _ _=>rfl)) aE) aE (aX _)) aD)))))))))))
    aO)
   (aC (aN (i:=10) ck.nd rfl (Or.inl rfl) (aU (si T) (hr.mono (by decide)) rfl T.Lunder.mgf T.Lunder.kp T.Lunder.bi .nil ak (aA (pv 0) (aA (pv 8) (aA (aY ae (pv 5) aE (fun _ _=>rfl)) aD)))))
   (aC (aN (i:=11) ck.nd rfl (Or.inl rfl) (aU (uE T) (hr.mono (by decide)) rfl T.Lbase.mgf T.Lbase.kp T.Lbase.bi .nil ak (aA (pv 0) (aA (pv 8) (aA (pv 9) (aA (aY ae (pv 5) aE (fun _ _=>rfl)) aD))))))
   (aC (ai (cS (eh (pv 11)))
    (aH (aR (cB (aA (pv 7) (aA (pv 6) (aA (pv 8) (aA (pv 9) (aA (pv 10) (aA ez (aA (pv 11) (aA (cJ mD (aP av (aY ae (pv 5) aE (fun _ _=>rfl)) aE) aE (aX _)) aD)))))))))))
    aO)
   (aH (aR (cB (aA (pv 7) (aA (pv 6) (aA (pv 8) (aA (pv 9) (aA (pv 10) (aA (aY ae (pv 4) (aP av (aY ae (pv 5) aE (fun _ _=>rfl)) aE) (fun _ _=>rfl)) (aA ez (aA (cJ mD (aP av (aY ae (pv 5) aE (fun _ _=>rfl)) aE) aE (aX _)) aD))))))))))))))))))))))),?_⟩
  have sz:2000 < sizeLine:=aJ rfl
  have lw:=hR.1
  have p6:(10:Int) ^ (6:Int).toNat = 1000000:=by decide
  refine ⟨fun σ' G'=>aG H G' ∧ ∃ dl,∃ ds:List Int,ds.length = 9 ∧ (∀ d ∈ ds,0 ≤ d ∧ d < 2147483648) ∧ G' dl = some (.lst (ds.map V.int)) ∧ σ' = [some (.ref l),some (.int n),some (.int i),some (.ref wl),some (.ref sl),some (.ref dl),none,none,none,none,none,none],?_,?_⟩
  ·walk_at "rd"
   refine ⟨by decide,by decide,fun dl B hdl=>?_⟩
   refine jA (n:=(9:Int).toNat) (P:=fun _ v=>∃ s:Int,v = .int s ∧ 0 ≤ s ∧ s < 2147483648) hdl (by decide) (fun σ=>∃ o,σ = [o,some (.int n),some (.int i)]) ⟨_,rfl⟩ ?_ ?_
   ·rintro j σ G Kt hj ⟨o,rfl⟩ sG kt
    have hj:j < 9:=hj
    walk_at "rd"
    exact ⟨by omega,by omega,fun r r0 r1=>kt _ _ _ ⟨_,rfl⟩ (aG.refl _) ⟨_,rfl,r0,r1⟩⟩
   ·intro G acc sG h1 h2 h3
    obtain ⟨ds,rfl⟩:=ff (acc:=acc) fun i v hv=>let ⟨s,e,_⟩:=h3 i v hv; ⟨s,e⟩
    refine ⟨sG,dl,ds,by rw [List.length_map] at h2; exact h2,fun s hs=>?_,h1,rfl⟩
    obtain ⟨i,hi⟩:=List.getElem?_of_mem (List.mem_map_of_mem (f:=V.int) hs)
    obtain ⟨s',e,a,b⟩:=h3 i _ hi
    cases e
    exact ⟨a,b⟩
  rintro σ G0 ⟨s0,dl,ds,l9,hds,hdr,rfl⟩
  have at_:∀ j:Nat,j < 9 → ∃ d,(0 ≤ d ∧ d < 2147483648) ∧ eW (ds.map V.int) (j:Int) = some (.int d):=fun j hj=>by
   have hl:j < ds.length:=by omega
   refine ⟨ds[j],hds _ (List.getElem_mem hl),a9 ?_⟩
   rw [List.getElem?_map,List.getElem?_eq_getElem hl]
   rfl
  obtain ⟨x0,p0,g0⟩:=at_ 0 (by decide)
  obtain ⟨x1,p1,g1⟩:=at_ 1 (by decide)
  obtain ⟨x2,p2,g2⟩:=at_ 2 (by decide)
  obtain ⟨x3,p3,g3⟩:=at_ 3 (by decide)
  obtain ⟨x4,p4,g4⟩:=at_ 4 (by decide)
  obtain ⟨x5,p5,g5⟩:=at_ 5 (by decide)
  obtain ⟨x6,p6',g6⟩:=at_ 6 (by decide)
  obtain ⟨x7,p7,g7⟩:=at_ 7 (by decide)
  have rd:∀ {G:Hp} (s:aG G0 G),ah K G dl (ds.map V.int):=fun s=>ah.of (s _ _ hdr)
  have m0:=Int.emod_nonneg x1 (b:=1000000) (by decide)
  have m1:=Int.emod_lt_of_pos x1 (b:=1000000) (by decide)
  refine ⟨fun σ' G'=>G0 = G' ∧ ∃ dy:Int,1 ≤ dy ∧ dy ≤ 3 ∧ σ' = [some (.ref l),some (.int n),some (.int i),some (.ref wl),some (.ref sl),some (.ref dl),some (.int dy),none,none,none,none,none],?_,?_⟩
  ·refine ⟨_,rfl,dl,_,_,_,rfl,rfl,rd (aG.refl _),g0,?_⟩
   walk_at "rd"
   have q0:=Int.emod_nonneg x0 (b:=3) (by decide)
   have q1:=Int.emod_lt_of_pos x0 (b:=3) (by decide)
   first | exact ⟨rfl,_,by omega,by omega,rfl⟩ | exact ⟨_,by omega,by omega,rfl⟩
  rintro σ G ⟨rfl,dy0,dy1,dy2,rfl⟩
  obtain ⟨nu,hnu⟩:∃ nu:Int,nu = 1 + x1 % 1000000 * 100 + i:=⟨_,rfl⟩
  have nub:1 ≤ nu ∧ nu ≤ 100000000 ∧ (nu - 1) % 100 = es.length:=by omega
  refine ⟨fun σ' G'=>G0 = G' ∧ σ' = [some (.ref l),some (.int n),some (.int i),some (.ref wl),some (.ref sl),some (.ref dl),some (.int dy0),some (.int nu),none,none,none,none],?_,?_⟩
  ·refine ⟨_,rfl,dl,_,_,_,rfl,rfl,rd (aG.refl _),g1,?_⟩
   walk_at "rd"
   first | (rw [hnu]; rfl) | (rw [hnu,← p6]; rfl) | trace_state
  rintro σ G ⟨rfl,rfl⟩
  have hL0:=s0 _ _ hL
  have hR0:=hR.same s0
  refine ⟨fun σ' G'=>aG G0 G' ∧ ∃ dy:Int,1 ≤ dy ∧ dy ≤ 1000 * (es.length + 1) ∧ (∀ x,gM none es = some x → x.d < dy ∨ x.d = dy ∧ x.n < nu) ∧ σ' = [some (.ref l),some (.int n),some (.int i),some (.ref wl),some (.ref sl),some (.ref dl),some (.int dy),some (.int nu),none,none,none,none],?_,?_⟩
  ·refine ⟨_,rfl,aJ rfl,fun q0 hq0=>?_⟩
   have t0:=aG.new (o:=HO.lst []) hq0
   refine ⟨0,_,by decide,iC (ah.of (t0 _ _ hL0)) (ah.of aB),_,rfl,?_⟩
   cases he:ws.isEmpty with
   | true =>
    have e0:es = []:=List.eq_nil_of_length_eq_zero (by rw [← lw,List.isEmpty_iff.mp he]; rfl)
    refine aq ⟨t0,_,dy1,by omega,fun x hx=>?_,rfl⟩
    rw [e0] at hx
    cases hx
   | false =>
    refine bK ?_
    have wne:ws ≠ []:=fun z=>by rw [z] at he; cases he
    have hL3:=t0 _ _ hL0
    have hR3:=hR0.same t0
    have rd3:=rd t0
    generalize upd G0 q0 (.lst []) = G3 at t0 hL3 hR3 rd3 ⊢
    obtain ⟨e,ra,le1,em,a1,hra⟩:=hR3.last wne
    have f0:eW (cY e) 0 = some (.int e.n):=a9 (j:=0) rfl
    have f1:eW (cY e) 1 = some (.int e.d):=a9 (j:=1) rfl
    have d9:=hB.dd e em
    have ne:e.n ≠ nu:=fun z=>by
     obtain ⟨j,hj⟩:=List.getElem?_of_mem em
     have h1:=(hB.nn j e hj).2.2
     have h3:=(List.getElem?_eq_some_iff.mp hj).1
     rw [z] at h1
     omega
    refine ⟨fun σ' G'=>aG G3 G' ∧ ∃ dy:Int,e.d ≤ dy ∧ dy ≤ e.d + 899 ∧ σ' = [some (.ref l),some (.int n),some (.int i),some (.ref wl),some (.ref sl),some (.ref dl),some (.int dy),some (.int nu),none,none,none,none],?_,?_⟩
    ·walk_at "rd"
     refine ⟨l,_,_,_,rfl,rfl,ah.of hL3,a1,ra,_,_,_,rfl,rfl,bp.of hra,f1,?_⟩
     walk_at "rd"
     refine ⟨dl,_,_,_,rfl,rfl,rd3,g0,?_⟩
     walk_at "rd"
     have y30:=Int.emod_nonneg (x0 / 3) (b:=900) (by decide)
     have y31:=Int.emod_lt_of_pos (x0 / 3) (b:=900) (by decide)
     refine ⟨aJ rfl,fun q hq=>?_⟩
     refine ⟨_,rfl,dl,_,_,_,rfl,rfl,ah.of (aG.new hq _ _ (t0 _ _ hdr)),g0,?_⟩
     walk_at "rd"
     obtain ⟨v,hv,hm⟩:=cx (xs:=[V.int 0,V.int 1,V.int (x0 / 3 % 900)]) (i:=x0 % 3) (Int.emod_nonneg _ (by decide)) (by show _ < (3:Int); exact Int.emod_lt_of_pos _ (by decide))
     obtain ⟨m,rfl,mb0,mb1⟩:∃ m:Int,v = .int m ∧ 0 ≤ m ∧ m ≤ 899:=by
      simp only [List.mem_cons,List.not_mem_nil,or_false] at hm
      rcases hm with rfl | rfl | rfl
      ·exact ⟨_,rfl,by decide,by decide⟩
      ·exact ⟨_,rfl,by decide,by decide⟩
      ·exact ⟨_,rfl,by omega,by omega⟩
     refine ⟨q,_,_,_,rfl,rfl,ah.of aB,hv,?_⟩
     walk_at "rd"
     first | exact ⟨aG.new hq,_,by omega,by omega,rfl⟩ | trace_state
    rintro σ G4 ⟨t4,dy,dya,dyb,rfl⟩
    have hL4:=t4 _ _ hL3
    have hra4:=t4 _ _ hra
    have s4:=t0.trans t4
    have jE:(e.d < dy ∨ e.d = dy ∧ e.n < nu) → ∀ x,gM none es = some x → x.d < dy ∨ x.d = dy ∧ x.n < nu:=fun h x hx=>by
     rw [le1] at hx
     cases hx
     exact h
    walk_at "rd"
    refine ⟨l,_,_,_,rfl,rfl,ah.of hL4,a1,ra,_,_,_,rfl,rfl,bp.of hra4,f1,rfl,_,rfl,?_⟩
    refine bf (fun h1=>?_) (fun h1=>?_)
    ·have h1:dy = e.d:=V.int.inj (of_decide_eq_true h1)
     walk_at "rd"
     refine ⟨l,_,_,_,rfl,rfl,ah.of hL4,a1,ra,_,_,_,rfl,rfl,bp.of hra4,f0,_,_,rfl,rfl,_,rfl,?_⟩
     refine bf (fun h2=>?_) (fun h2=>?_)
     ·walk_at "rd"
      first | exact ⟨s4,_,by omega,by omega,fun x hx=>by (rw [le1] at hx; cases hx; left; omega),rfl⟩ | trace_state
     ·have h2:¬ nu < e.n:=fun z=>h2 (decide_eq_true z)
      exact ⟨s4,_,by omega,by omega,jE (by omega),rfl⟩
    ·have h1:dy ≠ e.d:=fun z=>h1 (decide_eq_true (by rw [z]))
     exact aq ⟨s4,_,by omega,by omega,jE (by omega),rfl⟩
  rintro σ G1 ⟨s1,dy,b1,b2,la,rfl⟩
  have isR:∀ rk:Str,rk = Str.ofString "genus" ∨ rk = Str.ofString "species" ∨ rk = Str.ofString "form" → True:=fun _ _=>trivial
  refine ⟨fun σ' G'=>aG G1 G' ∧ ∃ rk:Str,(rk = Str.ofString "genus" ∨ rk = Str.ofString "species" ∨ rk = Str.ofString "form") ∧ σ' = [some (.ref l),some (.int n),some (.int i),some (.ref wl),some (.ref sl),some (.ref dl),some (.int dy),some (.int nu),some (.str rk),none,none,none],?_,?_⟩
  ·obtain ⟨rs,hrs⟩:∃ rs:List V,rs = [V.str (Str.ofString "genus"),V.str (Str.ofString "species"),V.str (Str.ofString "species"),V.str (Str.ofString "form"),V.str (Str.ofString "form")]:=⟨_,rfl⟩
   refine ⟨aJ rfl,fun q hq=>?_⟩
   rw [← hrs]
   have t4:=aG.new (o:=HO.lst rs) hq
   have k4:=aB (H:=G1) (a:=q) (o:=.lst rs)
   generalize upd G1 q (.lst rs) = G4 at t4 k4 ⊢
   walk_at "rd"
   refine ⟨dl,_,_,_,rfl,rfl,rd (s1.trans t4),g2,?_⟩
   walk_at "rd"
   obtain ⟨v,hv,hm⟩:=cx (xs:=rs) (i:=x2 % 5) (Int.emod_nonneg _ (by decide)) (by rw [hrs]; show _ < (5:Int); exact Int.emod_lt_of_pos _ (by decide))
   obtain ⟨rk,rfl,hrk⟩:∃ rk:Str,v = .str rk ∧ (rk = Str.ofString "genus" ∨ rk = Str.ofString "species" ∨ rk = Str.ofString "form"):=by
    rw [hrs] at hm
    simp only [List.mem_cons,List.not_mem_nil,or_false] at hm
    rcases hm with rfl | rfl | rfl | rfl | rfl
    ·exact ⟨_,rfl,.inl rfl⟩
    ·exact ⟨_,rfl,.inr (.inl rfl)⟩
    ·exact ⟨_,rfl,.inr (.inl rfl)⟩
    ·exact ⟨_,rfl,.inr (.inr rfl)⟩
    ·exact ⟨_,rfl,.inr (.inr rfl)⟩
   refine ⟨q,_,_,_,rfl,rfl,ah.of k4,hv,?_⟩
   exact ⟨t4,_,hrk,rfl⟩
  rintro σ G ⟨sG,rk,hrk,rfl⟩
  have sG:=s1.trans sG
  clear isR
  have hL1:=sG _ _ hL0
  have hR1:=hR0.same sG
  refine ⟨fun σ' G'=>aG G0 G' ∧ ∃ rk:Str,(rk = Str.ofString "genus" ∨ rk = Str.ofString "species" ∨ rk = Str.ofString "form") ∧ σ' = [some (.ref l),some (.int n),some (.int i),some (.ref wl),some (.ref sl),some (.ref dl),some (.int dy),some (.int nu),some (.str rk),none,none,none],?_,?_⟩
  ·refine ⟨_,rfl,rfl,_,rfl,?_⟩
   refine bf (fun _=>?_) (fun _=>aq ⟨sG,_,hrk,rfl⟩)
   refine ⟨_,rfl,l,rfl,⟨_,ah.of hL1⟩,fun q B hq=>?_⟩
   refine cW (xs:=ws) (fun i σ acc G'=>(∃ o,σ = [o]) ∧ aG G G' ∧ G' q = some (.lst acc) ∧ acc.length ≤ i) (by omega) ?_ ?_ ?_ ?_
   ·exact ⟨⟨_,rfl⟩,aG.new hq,aB,Nat.zero_le _⟩
   ·rintro i σ acc G' hi ⟨_,sG',h1,h2⟩
    exact ⟨h1,ah.of (sG' _ _ hL1),by omega⟩
   ·rintro i v σ acc G' hx ⟨⟨o,rfl⟩,sG',h1,h2⟩
    have hi:i < ws.length:=(List.getElem?_eq_some_iff.mp hx).1
    obtain ⟨ra,rfl,hrow⟩:=hR1.2 i v _ hx (List.getElem?_eq_getElem (by omega))
    have f2:∀ e:En,eW (cY e) 2 = some (.str e.r):=fun e=>a9 (j:=2) rfl
    refine ⟨_,rfl,ra,_,_,_,rfl,rfl,bp.of (sG' _ _ hrow),f2 _,rfl,_,rfl,?_⟩
    refine bf (fun _=>?_) (fun _=>Nx.mk hi ⟨⟨_,rfl⟩,sG',h1,by omega⟩)
    exact ⟨_,rfl,h1,Nx.mk hi ⟨⟨_,rfl⟩,bD hq sG',aB,by rw [List.length_append]; exact Nat.add_le_add_right h2 1⟩⟩
   ·rintro σ acc G' ⟨_,sG',h1,h2⟩
    refine ⟨aJ rfl,fun q0 hq0=>?_⟩
    have t0:=aG.new (o:=HO.lst []) hq0
    refine ⟨0,_,by decide,iC (ah.of (t0 _ _ h1)) (ah.of aB),_,rfl,?_⟩
    have s9:=sG.trans (sG'.trans t0)
    cases acc.isEmpty with
    | true=>first | exact bK ⟨_,rfl,s9,_,.inr (.inl rfl),rfl⟩ | exact bK ⟨s9,_,.inr (.inl rfl),rfl⟩ | exact bK ⟨s9,_,.inl rfl,rfl⟩
    | false=>exact aq ⟨s9,_,hrk,rfl⟩
  clear sG hL1 hR1 hrk
  rintro σ G ⟨sG,rk,hrk,rfl⟩
  have hL1:=sG _ _ hL0
  have hR1:=hR0.same sG
  refine ⟨fun σ' G'=>aG G0 G' ∧ ∃ rk:Str,(rk = Str.ofString "genus" ∨ rk = Str.ofString "species" ∨ rk = Str.ofString "form") ∧ σ' = [some (.ref l),some (.int n),some (.int i),some (.ref wl),some (.ref sl),some (.ref dl),some (.int dy),some (.int nu),some (.str rk),none,none,none],?_,?_⟩
  ·refine ⟨_,rfl,rfl,_,rfl,?_⟩
   refine bf (fun _=>?_) (fun _=>aq ⟨sG,_,hrk,rfl⟩)
   refine ⟨_,rfl,l,rfl,⟨_,ah.of hL1⟩,fun q B hq=>?_⟩
   refine cW (xs:=ws) (fun i σ acc G'=>(∃ o,σ = [o]) ∧ aG G G' ∧ G' q = some (.lst acc) ∧ acc.length ≤ i) (by omega) ?_ ?_ ?_ ?_
   ·exact ⟨⟨_,rfl⟩,aG.new hq,aB,Nat.zero_le _⟩
   ·rintro i σ acc G' hi ⟨_,sG',h1,h2⟩
    exact ⟨h1,ah.of (sG' _ _ hL1),by omega⟩
   ·rintro i v σ acc G' hx ⟨⟨o,rfl⟩,sG',h1,h2⟩
    have hi:i < ws.length:=(List.getElem?_eq_some_iff.mp hx).1
    obtain ⟨ra,rfl,hrow⟩:=hR1.2 i v _ hx (List.getElem?_eq_getElem (by omega))
    have f2:∀ e:En,eW (cY e) 2 = some (.str e.r):=fun e=>a9 (j:=2) rfl
    refine ⟨_,rfl,ra,_,_,_,rfl,rfl,bp.of (sG' _ _ hrow),f2 _,rfl,_,rfl,?_⟩
    refine bf (fun _=>?_) (fun _=>Nx.mk hi ⟨⟨_,rfl⟩,sG',h1,by omega⟩)
    exact ⟨_,rfl,h1,Nx.mk hi ⟨⟨_,rfl⟩,bD hq sG',aB,by rw [List.length_append]; exact Nat.add_le_add_right h2 1⟩⟩
   ·rintro σ acc G' ⟨_,sG',h1,h2⟩
    refine ⟨aJ rfl,fun q0 hq0=>?_⟩
    have t0:=aG.new (o:=HO.lst []) hq0
    refine ⟨0,_,by decide,iC (ah.of (t0 _ _ h1)) (ah.of aB),_,rfl,?_⟩
    have s9:=sG.trans (sG'.trans t0)
    cases acc.isEmpty with
    | true=>first | exact bK ⟨_,rfl,s9,_,.inr (.inl rfl),rfl⟩ | exact bK ⟨s9,_,.inr (.inl rfl),rfl⟩ | exact bK ⟨s9,_,.inl rfl,rfl⟩
    | false=>exact aq ⟨s9,_,hrk,rfl⟩
  clear sG hL1 hR1 hrk
  rintro σ G ⟨sG,rk,hrk,rfl⟩
  have hL1:=sG _ _ hL0
  have hR1:=hR0.same sG
  have hW1:=(s0.trans sG) _ _ hW
  have hS1:=(s0.trans sG) _ _ hS
  have sH:=s0.trans sG
  have rd1:=rd sG
  refine ⟨fun σ' G'=>G = G' ∧ ∃ wd:Str,isWord (.str wd) = true ∧ σ' = [some (.ref l),some (.int n),some (.int i),some (.ref wl),some (.ref sl),some (.ref dl),some (.int dy),some (.int nu),some (.str rk),some (.str wd),none,none],?_,?_⟩
  ·walk_at "rd"
   refine ⟨dl,_,_,_,rfl,rfl,rd1,g3,?_⟩
   walk_at "rd"
   refine ⟨wl,_,rfl,.inl (ah.of hW1),?_⟩
   have lm:((zs.map V.str).length:Int) = 5:=by rw [List.length_map,lz]; rfl
   walk_at "rd"
   refine ⟨by rw [lm]; show (0:Int) < 5; decide,?_⟩
   obtain ⟨v,hv,hm⟩:=cx (xs:=zs.map V.str) (i:=x3 % ((zs.map V.str).length:Int)) (Int.emod_nonneg _ (by omega)) (Int.emod_lt_of_pos _ (by omega))
   obtain ⟨z,hzm,rfl⟩:=List.mem_map.mp hm
   exact ⟨wl,_,_,_,rfl,rfl,ah.of hW1,hv,rfl,z,hz z hzm,rfl⟩
  rintro σ G' ⟨rfl,wd,hwd,rfl⟩
  have inn:inR 1000000000 (.int nu) = true:=fB nub.1 (by omega)
  have ind:inR 1000000 (.int dy) = true:=fB b1 (by omega)
  have irk:cw (.str rk) = true:=by rcases hrk with q | q | q <;> rw [q] <;> decide +kernel
  have lms:((ss.map V.int).length:Int) = 10:=by rw [List.length_map,ls]; rfl
  have sheet:∃ s:Int,(1 ≤ s ∧ s ≤ 1000000000) ∧ eW (ss.map V.int) (x4 % 10) = some (.int s):=by
   obtain ⟨v,hv,hm⟩:=cx (xs:=ss.map V.int) (i:=x4 % 10) (Int.emod_nonneg _ (by decide)) (by rw [lms]; exact Int.emod_lt_of_pos _ (by decide))
   obtain ⟨s,hsm,rfl⟩:=List.mem_map.mp hm
   exact ⟨s,hs s hsm,hv⟩
  obtain ⟨sh,shb,hsh⟩:=sheet
  have fin:∀ (e:En) (G':Hp) (p:Addr),aG G G' → G' p = none → e.n = nu → e.d = dy → e.r = rk → e.w = wd → bO (.str rk) (aj e.u) = true → bT (.str rk) (aj e.s) (aj e.b) = true → Q (.ref p) (upd G' p (.tup (cY e))):=fun e G' p sG' hp e1 e2 e3 e4 e5 e6=>by
   refine k (.ref p) e _ (sH.trans (sG'.trans (aG.new hp))) ⟨p,rfl,aB⟩ ⟨yi ?_ ?_ ?_ ?_ ?_ ?_,?_,?_,?_,?_⟩
   ·rw [e1]; exact inn
   ·rw [e2]; exact ind
   ·rw [e3]; exact irk
   ·rw [e4]; exact hwd
   ·rw [e3]; exact e5
   ·rw [e3]; exact e6
   ·rw [e1]; exact nub
   ·rw [e2]; exact b1
   ·rw [e2]; exact b2
   ·intro x hx
    rw [e1,e2]
    exact la x hx
  refine ⟨_,rfl,rfl,_,rfl,?_⟩
  refine bf (fun hg=>?_) (fun hg=>?_)
  ·have hg:rk = Str.ofString "genus" := V.str.inj (of_decide_eq_true hg)
   walk_at "rd"
   refine ⟨dl,_,_,_,rfl,rfl,rd1,g4,?_⟩
   walk_at "rd"
   refine ⟨sl,_,_,_,rfl,rfl,ah.of hS1,hsh,?_⟩
   walk_at "rd"
   refine ⟨dl,_,_,_,rfl,rfl,rd1,g5,?_⟩
   walk_at "rd"
   refine ⟨aJ rfl,fun p hp=>?_⟩
   exact fin ⟨nu,dy,rk,wd,none,some sh,none,decide (0 < x5 % 8)⟩ G p (aG.refl _) hp rfl rfl rfl rfl (by rw [hg]; exact (wo _).trans (decide_eq_true rfl)) (by show bT _ _ .bI = true; rw [xh]; exact fB shb.1 shb.2)
  have hg:rk ≠ Str.ofString "genus" := fun z=>hg (decide_eq_true (by rw [z]))
  refine ⟨_,rfl,_,rfl,_,rfl,dl,_,_,_,rfl,rfl,rd1,g6,?_⟩
  refine ⟨l,ws,es,rk,x6,rfl,hL1,hR1,hB,p6'.1,fun un Ga sa un0 un1=>?_⟩
  refine ⟨_,rfl,_,rfl,_,rfl,_,rfl,dl,_,_,_,rfl,rfl,ah.of (sa _ _ (sG _ _ hdr)),g7,?_⟩
  refine ⟨l,ws,es,rk,wd,x7,rfl,sa _ _ hL1,hR1.same sa,hB,p7.1,fun ob Gb sb hob=>?_⟩
  have sab:=sa.trans sb
  have uf:bO (.str rk) (aj (some un)) = true:=by rw [rF hg]; exact fB un0 un1
  cases ob with
  | none =>
   refine ⟨_,rfl,_,rfl,aq ?_⟩
   walk_at "rd"
   refine ⟨dl,_,_,_,rfl,rfl,ah.of (sab _ _ (sG _ _ hdr)),g4,?_⟩
   walk_at "rd"
   refine ⟨sl,_,_,_,rfl,rfl,ah.of (sab _ _ hS1),hsh,?_⟩
   walk_at "rd"
   refine ⟨dl,_,_,_,rfl,rfl,ah.of (sab _ _ (sG _ _ hdr)),g5,?_⟩
   walk_at "rd"
   refine ⟨aJ rfl,fun p hp=>?_⟩
   exact fin ⟨nu,dy,rk,wd,some un,some sh,none,decide (0 < x5 % 8)⟩ Gb p sab hp rfl rfl rfl rfl uf (by show bT _ _ .bI = true; rw [xh]; exact fB shb.1 shb.2)
  | some bn =>
   refine ⟨_,rfl,_,rfl,bK ?_⟩
   walk_at "rd"
   refine ⟨dl,_,_,_,rfl,rfl,ah.of (sab _ _ (sG _ _ hdr)),g5,?_⟩
   walk_at "rd"
   refine ⟨aJ rfl,fun p hp=>?_⟩
   refine fin ⟨nu,dy,rk,wd,some un,none,some bn,decide (0 < x5 % 8)⟩ Gb p sab hp rfl rfl rfl rfl uf ?_
   show bT (.str rk) .bI (.int bn) = true
   have hb:=hob bn rfl
   rw [zy _ _ (by intro z; cases z),decide_eq_false (fun z=>hg (V.str.inj z)),decide_eq_true rfl,fB hb.1 hb.2]
   rfl
set_option maxHeartbeats 4000000 in
theorem vU (T:Txt w K mg c):ar P w K mg base fN 3 c.a_Lrows c.d_Lrows ["_law_cells", "_law_words_here", "_law_sheets_here"] (xO K):=by
 refine T.Lrows.fn.ok kT (fun vs H Q E h=>?_) (fun cdv A outer s H vs Q E hr h=>?_)
 ·obtain ⟨cl,cs,wl,zs,sl,ss,rfl,_⟩:=h
  rfl
 ·obtain ⟨cl,cs,wl,zs,sl,ss,rfl,hC,lC,hW,lz,hz,hS,ls,hs,k⟩:=h
  refine ⟨_,(aC (aN (i:=3) kT.nd rfl (Or.inl rfl) (bg aD))
   (aC (cU PassesOwn.never rfl (cZ rfl T.no_range (aA (af bG rfl T.no_len dY (aA (pv 0) aD)) aD)) (aQ (i:=4) kT.nd rfl (Or.inl rfl))
    (aH (cq (m4 PySem.F.plainAttrs_list PySem.F.slot_list_append PySem.F.type_list_append (t9.r dW) (pv 3) (aA (aU (wX T) (hr.mono (by decide)) rfl T.Lrow.mgf T.Lrow.kp T.Lrow.bi .nil ak (aA (pv 3) (aA (aY ae (pv 0) (pv 4) (fun _ _=>rfl)) (aA (pv 4) (aA (pv 1) (aA (pv 2) aD)))))) aD)))))
   (aH (aR (pv 3))))),?_⟩
  have sz:2000 < sizeLine:=aJ rfl
  have lc:(cs.map V.int).length = cs.length:=List.length_map ..
  refine ⟨aJ rfl,fun l hl=>?_⟩
  have s0:=aG.new (o:=HO.lst []) hl
  have k0:=aB (H:=H) (a:=l) (o:=.lst [])
  generalize upd H l (.lst []) = G0 at s0 k0 ⊢
  refine ⟨_,rfl,cl,_,rfl,.inl (s0.seq hC),?_⟩
  walk_at "rd"
  refine ⟨by omega,by omega,?_⟩
  refine eE (n:=((cs.map V.int).length:Int).toNat) (lo:=0) (fun i σ G=>aG H G ∧ ∃ (z4:Option V) (ws:List V) (es:List En),σ = [some (.ref cl),some (.ref wl),some (.ref sl),some (.ref l),z4] ∧ G l = some (.lst ws) ∧ d8 G ws es ∧ qB es ∧ es.length = i) ?_ ?_ ?_
  ·exact ⟨s0,_,[],[],rfl,k0,⟨rfl,fun j v e h=>nomatch h⟩,qB.nil,rfl⟩
  ·rintro i σ G hi ⟨sG,z4,ws,es,rfl,hL,hR,hB,le⟩
   have hi:i < cs.length:=by omega
   have lw:ws.length = i:=by rw [hR.1]; exact le
   obtain ⟨v1,hv1,hm1⟩:=cx (xs:=cs.map V.int) (i:=0 + (i:Int)) (by omega) (by omega)
   obtain ⟨c2,_,rfl⟩:=List.mem_map.mp hm1
   refine ⟨_,rfl,.inl ⟨rfl,_,ah.of hL⟩,?_⟩
   walk_at "rd"
   refine ⟨cl,_,_,_,rfl,rfl,sG.seq hC,hv1,?_⟩
   walk_at "rd"
   refine ⟨l,ws,es,c2,0 + (i:Int),wl,zs,sl,ss,rfl,hL,hR,hB,by omega,by omega,sG _ _ hW,lz,hz,sG _ _ hS,ls,hs,fun v e G2 s2 hv ne=>?_⟩
   walk_at "rd"
   have hL2:=s2 _ _ hL
   refine ⟨l,_,_,rfl,rfl,hL2,by omega,?_⟩
   refine ⟨bD hl (sG.trans s2),_,ws ++ [v],es ++ [e],rfl,aB,(hR.same s2).push hv fun t xs h=>?_,hB.add ne (by omega),by rw [List.length_append,le]; rfl⟩
   rw [aI (ax h hL2 (by intro z; cases z))]
   exact h
  ·rintro σ G ⟨sG,z4,ws,es,rfl,hL,hR,hB,le⟩
   exact ⟨_,rfl,k l ws es G sG hl hL hR hB (by omega)⟩
set_option maxHeartbeats 4000000 in
theorem oj (T:Txt w K mg c):ar P w K mg base fN 6 c.a_Lentries c.d_Lentries ["_law_rows_here"] (xI c.c_Entry):=by
 refine T.Lentries.fn.ok cG (fun vs H Q E h=>?_) (fun cdv A outer s H vs Q E hr h=>?_)
 ·obtain ⟨l,ws,es,rfl,_⟩:=h
  rfl
 ·obtain ⟨l,ws,es,rfl,hL,hR,okk,l84,k⟩:=h
  refine ⟨_,(aC (aN (i:=1) cG.nd rfl (Or.inl rfl) (bg aD))
   (aC (cU PassesOwn.never rfl (bW (pv 0)) (aQ (i:=2) cG.nd rfl (Or.inl rfl))
    (ag (ke (dN qh (pv 2) dM (c9 aE)) (hX rfl (bE (aQ (i:=3) cG.nd rfl (Or.inl rfl)) (bE (aQ (i:=4) cG.nd rfl (Or.inl rfl)) (bE (aQ (i:=5) cG.nd rfl (Or.inl rfl)) (bE (aQ (i:=6) cG.nd rfl (Or.inl rfl)) fj))))))
   (aC (aN (i:=7) cG.nd rfl (Or.inl rfl) (oU T.mk_Entry (l3 T) (hr.mono (by decide)) rfl T.mg_Entry T.b_Entry_8 iD (aA (pv 3) (aA (pv 4) (aA (pv 5) (aA (pv 6) (aA (aY bC (pv 2) aE (fun _ _=>rfl)) (aA (aY bC (pv 2) aE (fun _ _=>rfl)) (aA (aY bC (pv 2) aE (fun _ _=>rfl)) (aA (aY bC (pv 2) aE (fun _ _=>rfl)) aD)))))))) vk))
   (aH (cq (m4 PySem.F.plainAttrs_list PySem.F.slot_list_append PySem.F.type_list_append (t9.r dW) (pv 1) (aA (pv 7) aD)))))))
   (aH (aR (pv 1))))),?_⟩
  have sz:2000 < sizeLine:=aJ rfl
  have lw:=hR.1
  refine ⟨aJ rfl,fun q hq=>?_⟩
  have s0:=aG.new (o:=HO.lst []) hq
  have k0:=aB (H:=H) (a:=q) (o:=.lst [])
  generalize upd H q (.lst []) = G0 at s0 k0 ⊢
  refine ⟨_,rfl,l,rfl,⟨_,ah.of (s0 _ _ hL)⟩,?_⟩
  refine dh (xs:=ws) (fun i σ G=>aG H G ∧ ∃ (z2 z3 z4 z5 z6 z7:Option V) (acc:List V),σ = [some (.ref l),some (.ref q),z2,z3,z4,z5,z6,z7] ∧ G q = some (.lst acc) ∧ acc.length = i ∧ cg G c.c_Entry acc (es.take i)) ?_ ?_ ?_ ?_
  ·exact ⟨s0,_,_,_,_,_,_,[],rfl,k0,rfl,rfl,fun j v e h=>nomatch h⟩
  ·rintro i σ G _ ⟨sG,_⟩
   exact ah.of (sG _ _ hL)
  ·rintro i x σ G hx ⟨sG,z2,z3,z4,z5,z6,z7,acc,rfl,h1,h2,h3⟩
   have hi:i < ws.length:=(List.getElem?_eq_some_iff.mp hx).1
   have hie:i < es.length:=by omega
   have ee:es[i]? = some es[i]:=List.getElem?_eq_getElem hie
   obtain ⟨ra,rfl,hrow⟩:=hR.2 i x _ hx ee
   have ok1:=okk _ (List.getElem_mem hie)
   rw [take_one ee]
   generalize es[i] = e at hrow ok1
   have hrow:=sG _ _ hrow
   have f4:eW (cY e) 4 = some (aj e.u):=a9 (j:=4) rfl
   have f5:eW (cY e) 5 = some (aj e.s):=a9 (j:=5) rfl
   have f6:eW (cY e) 6 = some (aj e.b):=a9 (j:=6) rfl
   have f7:eW (cY e) 7 = some (.bl e.k):=a9 (j:=7) rfl
   have oO:∀ (G:Hp) (o:Option Int),Own K G (aj o):=fun G o=>by cases o with | none=>exact Own.bI | some _=>exact Own.int
   have fw:fits (.str e.w):=by
    have:=(sL (uL ok1)).1
    show e.w.length ≤ sizeLine
    omega
   have ok2:why (.int e.n) (.int e.d) (.str e.r) (.str e.w) (aj e.u) (aj e.s) (aj e.b) = 0:=ok1
   refine ⟨fun σ' G'=>aG G G' ∧ σ' = [some (.ref l),some (.ref q),some (.ref ra),some (.int e.n),some (.int e.d),some (.str e.r),some (.str e.w),z7],?_,?_⟩
   ·walk_at "rd"
    refine ⟨ra,_,rfl,bp.of hrow,me e,fun p hp=>?_⟩
    rw [pX]
    refine ⟨p,_,rfl,bp.of aB,rfl,?_⟩
    walk_at "rd"
    first | exact ⟨aG.new hp,rfl⟩ | exact aG.new hp
   rintro σ Ga ⟨sa,rfl⟩
   have hrow:=sa _ _ hrow
   have h1:=sa _ _ h1
   have h3:=h3.same sa
   have sG:=sG.trans sa
   refine ⟨_,rfl,_,rfl,_,rfl,_,rfl,?_⟩
   refine ⟨_,rfl,ra,_,_,_,rfl,rfl,bp.of hrow,f4,?_⟩
   refine ⟨_,rfl,ra,_,_,_,rfl,rfl,bp.of hrow,f5,?_⟩
   refine ⟨_,rfl,ra,_,_,_,rfl,rfl,bp.of hrow,f6,?_⟩
   refine ⟨_,rfl,ra,_,_,_,rfl,rfl,bp.of hrow,f7,?_⟩
   refine ⟨rfl,rfl,fun x dx hx hdx ne=>?_⟩
   refine ⟨x,dx,.int e.n,.int e.d,.str e.r,.str e.w,aj e.u,aj e.s,aj e.b,.bl e.k,rfl,aB,Own.int,Own.int,Own.str,Own.str,fw,oO _ _,oO _ _,oO _ _,fun G1 s1=>⟨fun _=>?_,fun h=>absurd ok2 h⟩⟩
   have s2:=aG.upd (o:=.ins c.c_Entry dx (cm e)) ((aG.made hx hdx ne).trans s1) hx
   have he:cc (upd G1 x (.ins c.c_Entry dx (cm e))) c.c_Entry (.ref x) e:=⟨x,dx,rfl,aB⟩
   have ef:fields (.int e.n) (.int e.d) (.str e.r) (.str e.w) (aj e.u) (aj e.s) (aj e.b) (.bl e.k) = cm e:=rfl
   rw [ef]
   generalize upd G1 x (.ins c.c_Entry dx (cm e)) = G2 at s2 he ⊢
   refine ⟨rfl,?_⟩
   have mv:∀ v y,cc G2 c.c_Entry v y → cc (upd G2 q (.lst (acc ++ [.ref x]))) c.c_Entry v y:=fun v y h=>h.keep fun t dx fs ht=>by rw [aI (ax ht (s2 _ _ h1) (by intro z; cases z))]; exact ht
   refine ⟨_,rfl,.inl ⟨rfl,_,ah.of (s2 _ _ h1)⟩,_,rfl,q,_,_,rfl,rfl,s2 _ _ h1,by omega,bD hq (sG.trans s2),_,_,_,_,_,_,acc ++ [.ref x],rfl,aB,by rw [List.length_append,h2]; rfl,?_⟩
   have h3':=h3.same s2
   exact pA ⟨h3'.1,fun j v y a b=>mv v y (h3'.2 j v y a b)⟩ (mv _ _ he)
  ·rintro σ G ⟨sG,z2,z3,z4,z5,z6,z7,acc,rfl,h1,h2,h3⟩
   rw [lw,List.take_of_length_le (Nat.le_refl _)] at h3
   exact ⟨_,rfl,k q acc G sG hq h1 h3⟩
set_option maxHeartbeats 4000000 in
theorem tO (T:Txt w K mg c):ar P w K mg base fN 1 c.a_Lright c.d_Lright ["_law_rows_here"] (uq):=by
 refine T.Lright.fn.ok aw (fun vs H Q E h=>?_) (fun cdv A outer s H vs Q E hr h=>?_)
 ·obtain ⟨l,ws,es,rfl,_⟩:=h
  rfl
 ·obtain ⟨l,ws,es,rfl,hL,hR,okk,nd,l84,k⟩:=h
  refine ⟨_,(aC (aN (i:=1) aw.nd rfl (Or.inl rfl) eO)
   (ag (aN (i:=2) aw.nd rfl (Or.inl rfl) tm)
   (aC (cU PassesOwn.never rfl (bW (pv 0)) (aQ (i:=3) aw.nd rfl (Or.inl rfl))
    (ag (ke (dN qh (pv 3) dM (c9 aE)) (hX rfl (bE (aQ (i:=4) aw.nd rfl (Or.inl rfl)) (bE (aQ (i:=5) aw.nd rfl (Or.inl rfl)) (bE (aQ (i:=6) aw.nd rfl (Or.inl rfl)) (bE (aQ (i:=7) aw.nd rfl (Or.inl rfl)) fj))))))
   (ag (ke (dN qh (pv 3) (c9 aE) dM) (hX rfl (bE (aQ (i:=8) aw.nd rfl (Or.inl rfl)) (bE (aQ (i:=9) aw.nd rfl (Or.inl rfl)) (bE (aQ (i:=10) aw.nd rfl (Or.inl rfl)) (bE (aQ (i:=11) aw.nd rfl (Or.inl rfl)) fj))))))
   (aC (aN (i:=12) aw.nd rfl (Or.inl rfl) (cB aD))
   (ag (aN (i:=13) aw.nd rfl (Or.inl rfl) (AG (pv 11) (fJ (ip (eh (pv 10))))))
   (ag (ai (aW mM (pv 6) aT (aX _))
    (aC (aN (i:=14) aw.nd rfl (Or.inl rfl) (ox (bz hr) (pv 1) (pv 8) (cB (aA aT (aA (cB aD) (aA ez (aA aT (aA aE (aA aE aD))))))) ⟨rfl,rfl,rfl,rfl⟩))
   (aC (aN (i:=12) aw.nd rfl (Or.inl rfl) (aY bC (pv 14) aE (fun _ _=>rfl)))
   (aH (aN (i:=13) aw.nd rfl (Or.inl rfl) (dZ (pv 13) (fJ (cJ bq (aY bC (pv 14) aE (fun _ _=>rfl)) (aY ae (bg (aA aT (aA aT aD))) (gm jJ rfl T.no_int nB (aA (cJ bq (pv 6) aT (aX _)) aD)) (fun _ _=>rfl)) (aX _))))))))
    aO)
   (ag (ai (cS (eh (pv 10)))
    (aC (aN (i:=15) aw.nd rfl (Or.inl rfl) (ox (bz hr) (pv 1) (pv 10) (cB (aA aT (aA (cB aD) (aA ez (aA aT (aA aE (aA aE aD))))))) ⟨rfl,rfl,rfl,rfl⟩))
   (aC (aN (i:=13) aw.nd rfl (Or.inl rfl) (dZ (pv 13) (dZ (cJ bq (aY bC (pv 15) aE (fun _ _=>rfl)) (pv 6) (aX _)) (dZ (ip (dR (aY bC (pv 15) aE (fun _ _=>rfl)))) (fJ (cJ bq (aY bC (pv 15) aE (fun _ _=>rfl)) (pv 7) (aX _)))))))
   (aH (aN (i:=9) aw.nd rfl (Or.inl rfl) (aY bC (pv 15) aE (fun _ _=>rfl))))))
    aO)
   (aH (ai (PW.pt (cR (bo (pv 13)) (bw (aW (sM (iE hr)) (cB (aA (pv 6) (aA (aP iZ (pv 12) (cB (aA (pv 7) aD))) aD))) (pv 2) (by with_unfolding_all rfl)))))
    (aC (ke (pv 4) (yP (pv 2) (cB (aA (pv 6) (aA (aP iZ (pv 12) (cB (aA (pv 7) aD))) aD))) (yN (iE hr))))
   (aH (dr (bz hr) (pv 1) (pv 4) (cB (aA (pv 6) (aA (aP iZ (pv 12) (cB (aA (pv 7) aD))) (aA (pv 10) (aA (pv 7) (aA (pv 9) (aA (pv 5) aD))))))) rfl)))
    aO)))))))))
   (aH (aR (pv 1)))))),?_⟩
  have sz:2000 < sizeLine:=aJ rfl
  have lw:=hR.1
  refine fun d hd0=>?_
  have t1:=aG.new (o:=HO.dK []) hd0
  have e1:=aB (H:=H) (a:=d) (o:=.dK [])
  generalize upd H d (.dK []) = G1 at t1 e1 ⊢
  refine ⟨fun σ' G'=>aG G1 G' ∧ ∃ g,G1 g = none ∧ DN P w G' g [] ∧ σ' = [some (.ref l),some (.ref d),some (.ref g),none,none,none,none,none,none,none,none,none,none,none,none,none],fun g hg=>⟨aG.new hg,g,hg,DN.new,rfl⟩,?_⟩
  rintro σ G2 ⟨t2,g,hg0,hD,rfl⟩
  have dg:d ≠ g:=aL e1 hg0
  have fH:∀ b u,H b = some u → b ≠ d ∧ b ≠ g:=fun b u h=>⟨aL h hd0,aL (t1 _ _ h) hg0⟩
  refine ⟨_,rfl,l,rfl,⟨_,ah.of (t2 _ _ (t1 _ _ hL))⟩,?_⟩
  refine dh (xs:=ws) (fun i σ G=>aG H G ∧ ∃ (z3 z4 z5 z6 z7 z8 z9 z10 z11 z12 z13 z14 z15:Option V) (kr:List (Key × V)),σ = [some (.ref l),some (.ref d),some (.ref g),z3,z4,z5,z6,z7,z8,z9,z10,z11,z12,z13,z14,z15] ∧ G d = some (.dK kr) ∧ Paired (eX G (aZ (es.take i)).r) (aZ (es.take i)).r kr ∧ DN P w G g (gS (aZ (es.take i)).r)) ?_ ?_ ?_ ?_
  ·exact ⟨t1.trans t2,_,_,_,_,_,_,_,_,_,_,_,_,_,[],rfl,t2 _ _ e1,.nil,hD⟩
  ·rintro i σ G _ ⟨sG,_⟩
   exact ah.of (sG _ _ hL)
  ·rintro i x σ G hx ⟨sG,z3,z4,z5,z6,z7,z8,z9,z10,z11,z12,z13,z14,z15,kr,rfl,hd,pR,hg⟩
   have hi:i < ws.length:=(List.getElem?_eq_some_iff.mp hx).1
   have hie:i < es.length:=by omega
   have ee:es[i]? = some es[i]:=List.getElem?_eq_getElem hie
   obtain ⟨ra,rfl,hrow⟩:=hR.2 i x _ hx ee
   have ok1:=okk _ (List.getElem_mem hie)
   have rok:=nU okk nd i (by omega)
   have frn:es[i].n ∉ (aZ (es.take i)).o.map (·.1):=by
    rw [dD]
    intro z
    have:=nd
    have e2:es.map (·.n) = (es.take i).map (·.n) ++ es[i].n :: (es.drop (i + 1)).map (·.n):=by
     rw [← List.map_cons,List.getElem_cons_drop,← List.map_append,List.take_append_drop]
    rw [e2,List.nodup_append] at this
    exact this.2.2 _ z _ (List.mem_cons_self ..) rfl
   have lo:(aZ (es.take i)).o.length = i:=by
    rw [← List.length_map (f:=fun p:Int × Str=>p.1),dD,List.length_map,List.length_take]
    omega
   rw [take_one ee,gp]
   generalize es[i] = e at hrow ok1 frn
   generalize aZ (es.take i) = S at rok frn lo pR hg
   have lr:S.r.length ≤ 84:=by
    have h1:(S.r.map (·.e.n)).length ≤ (S.o.map (·.1)).length:=kM rok.rn fun x hx=>by
     obtain ⟨y,hy,rfl⟩:=List.mem_map.mp hx
     exact rok.sub y hy
    rw [List.length_map,List.length_map] at h1
    omega
   have hrow:=sG _ _ hrow
   refine ⟨fun σ' G'=>aG G G' ∧ σ' = [some (.ref l),some (.ref d),some (.ref g),some (.ref ra),some (.int e.n),some (.int e.d),some (.str e.r),some (.str e.w),z8,z9,z10,z11,z12,z13,z14,z15],?_,?_⟩
   ·walk_at "rd"
    refine ⟨ra,_,rfl,bp.of hrow,me e,fun p hp=>?_⟩
    rw [pX]
    refine ⟨p,_,rfl,bp.of aB,rfl,?_⟩
    walk_at "rd"
    first | exact ⟨aG.new hp,rfl⟩ | exact aG.new hp
   rintro σ Ga ⟨sa,rfl⟩
   refine ⟨fun σ' G'=>aG G G' ∧ σ' = [some (.ref l),some (.ref d),some (.ref g),some (.ref ra),some (.int e.n),some (.int e.d),some (.str e.r),some (.str e.w),some (aj e.u),some (aj e.s),some (aj e.b),some (.bl e.k),z12,z13,z14,z15],?_,?_⟩
   ·walk_at "rd"
    refine ⟨ra,_,rfl,bp.of (sa _ _ hrow),sQ e,fun p hp=>?_⟩
    rw [ub]
    refine ⟨p,_,rfl,bp.of aB,rfl,?_⟩
    walk_at "rd"
    first | exact ⟨sa.trans (aG.new hp),rfl⟩ | exact sa.trans (aG.new hp)
   clear sa
   rintro σ Ga ⟨sa,rfl⟩
   refine ⟨aJ rfl,fun t0 ht0=>?_⟩
   have sb:=sa.trans (aG.new (o:=HO.tup []) ht0)
   have kt0:=aB (H:=Ga) (a:=t0) (o:=.tup [])
   generalize upd Ga t0 (.tup []) = Gb at sb kt0 ⊢
   clear sa
   refine ⟨fun σ' G'=>Gb = G' ∧ σ' = [some (.ref l),some (.ref d),some (.ref g),some (.ref ra),some (.int e.n),some (.int e.d),some (.str e.r),some (.str e.w),some (aj e.u),some (aj e.s),some (aj e.b),some (.bl e.k),some (.ref t0),some (.bl (!oF e)),z14,z15],?_,?_⟩
   ·have e0:oF e = (decide (e.b = none) && !e.k):=rfl
    rw [e0]
    cases hk:e.k with
    | true =>
     refine ⟨_,rfl,_,rfl,bK ⟨rfl,?_⟩⟩
     rw [Bool.not_true,Bool.and_false]
     rfl
    | false =>
     refine ⟨_,rfl,_,rfl,aq ⟨_,rfl,rfl,?_⟩⟩
     cases hb:e.b with
     | none=>rfl
     | some b=>rfl
   rintro σ G' ⟨rfl,rfl⟩
   have rgt:∀ (G':Hp),aG Gb G' → ∀ n:Int,(ao S.r n = none ∧ cj G' d (.int n) none) ∨ ∃ x v a t,x ∈ S.r ∧ ao S.r n = some x ∧ cj G' d (.int n) (some v) ∧ v = .ref a ∧ G' a = some (.tup [.str x.e.r,.ref t,aj x.e.b,.str x.e.w,aj (eI S.r x).s,.int x.e.d]) ∧ G' t = some (.tup (x.nm.map V.str)):=fun G' s n=>by
    have hd':=s _ _ (sb _ _ hd)
    rcases eQ pR n with ⟨h1,h2⟩ | ⟨x,v,m,h1,h2,h3⟩
    ·exact .inl ⟨h1,by rw [← h2]; exact cj.k (k:=Sum.inl n) hd'⟩
    ·obtain ⟨_,a,t,h4,h5,h6⟩:=h3
     exact .inr ⟨x,v,a,t,m,h1,by rw [← h2]; exact cj.k (k:=Sum.inl n) hd',h4,s _ _ (sb _ _ h5),s _ _ (sb _ _ h6)⟩
   have dfl:True:=trivial
   refine ⟨fun σ' G'=>aG Gb G' ∧ ∃ (h0:Addr) (hs:List Str) (z14:Option V),G' h0 = some (.tup (hs.map V.str)) ∧ hs.length ≤ 3 ∧ (∀ z,bM S.r e = some z → z = hs ++ [e.w]) ∧ σ' = [some (.ref l),some (.ref d),some (.ref g),some (.ref ra),some (.int e.n),some (.int e.d),some (.str e.r),some (.str e.w),some (aj e.u),some (aj e.s),some (aj e.b),some (.bl e.k),some (.ref h0),some (.bl (!oF e && (bM S.r e).isSome)),z14,z15],?_,?_⟩
   ·refine ⟨_,rfl,rfl,_,rfl,?_⟩
    refine bf (fun hne=>?_) (fun hge=>?_)
    ·have hne:e.r ≠ Str.ofString "genus" := fun q=>by rw [q,decide_eq_true rfl] at hne; cases hne
     obtain ⟨u,hu⟩:=xl ok1 hne
     have hou:aj e.u = .int u:=by rw [hu]; rfl
     have en:bM S.r e = match ao S.r u with | none=>none | some x=>if x.e.r = cL e.r then some (x.nm ++ [e.w]) else none:=by
      unfold bM
      rw [if_neg hne,hu]
      rfl
     have ix:eW [V.str (Str.ofString "genus"),V.str (Str.ofString "species")] (if decide (V.str e.r = V.str (Str.ofString "form")) = true then (1:Int) else 0) = some (.str (cL e.r)):=by
      rcases fV ok1 with q | q | q
      ·exact absurd q hne
      ·rw [q]; decide +kernel
      ·rw [q]; decide +kernel
     refine ⟨_,rfl,d,rfl,.inl ⟨_,.inl (sb _ _ hd)⟩,_,rfl,aJ rfl,fun p1 hp1=>⟨aJ rfl,fun p2 hp2=>?_⟩⟩
     have u1:=aG.new (o:=HO.tup []) hp1
     have u2:=aG.new (o:=HO.tup [V.str (Str.ofString ""),V.ref p1,V.bI,V.str (Str.ofString ""),V.int 0,V.int 0]) hp2
     have kp1:=u2 _ _ (aB (H:=Gb) (a:=p1) (o:=.tup []))
     have kp2:=aB (H:=upd Gb p1 (.tup [])) (a:=p2) (o:=HO.tup [V.str (Str.ofString ""),V.ref p1,V.bI,V.str (Str.ofString ""),V.int 0,V.int 0])
     have sc:=u1.trans u2
     generalize upd (upd Gb p1 (.tup [])) p2 (.tup [V.str (Str.ofString ""),V.ref p1,V.bI,V.str (Str.ofString ""),V.int 0,V.int 0]) = Gc at sc kp1 kp2 ⊢
     clear u1 u2
     rcases rgt Gc sc u with ⟨f1,f2⟩ | ⟨y,v,ya,yt,ym,f1,f2,rfl,hya,hyt⟩
     ·rw [f1] at en
      have en:bM S.r e = none:=en
      rw [en]
      refine ⟨none,by rw [hou]; exact f2,?_⟩
      refine ⟨_,rfl,p2,_,_,_,rfl,rfl,bp.of kp2,a9 (j:=1) rfl,?_⟩
      refine ⟨_,rfl,_,rfl,?_⟩
      cases oF e with
      | true=>exact aq ⟨sc,p1,[],_,kp1,by decide,(fun z h=>nomatch h),rfl⟩
      | false =>
       refine bK ?_
       refine ⟨_,rfl,p2,_,_,_,rfl,rfl,bp.of kp2,a9 (j:=0) rfl,aJ rfl,fun q hq=>?_⟩
       refine ⟨_,rfl,rfl,.inr ⟨_,rfl,q,_,_,_,rfl,rfl,ah.of aB,ix,rfl,?_⟩⟩
       have eb:decide (V.str (Str.ofString "") = V.str (cL e.r)) = false:=decide_eq_false fun h=>by
        have h:=V.str.inj h
        unfold cL at h
        split at h <;> exact absurd h (by decide +kernel)
       refine ⟨sc.trans (aG.new hq),p1,[],some (.ref p2),aG.new hq _ _ kp1,by decide,(fun z h=>nomatch h),?_⟩
       rw [eb]
       rfl
     ·rw [f1] at en
      have en:bM S.r e = if y.e.r = cL e.r then some (y.nm ++ [e.w]) else none:=en
      have dy:=rok.dp y ym
      have d3:y.nm.length ≤ 3:=by
       rw [dy]
       unfold cN
       split
       ·decide
       ·split <;> decide
      have nz:∀ z,bM S.r e = some z → z = y.nm ++ [e.w]:=fun z h=>by
       rw [en] at h
       by_cases q:y.e.r = cL e.r
       ·rw [if_pos q] at h; exact (Option.some.inj h).symm
       ·rw [if_neg q] at h; cases h
      refine ⟨_,by rw [hou]; exact f2,?_⟩
      refine ⟨_,rfl,ya,_,_,_,rfl,rfl,bp.of hya,a9 (j:=1) rfl,?_⟩
      refine ⟨_,rfl,_,rfl,?_⟩
      cases oF e with
      | true=>exact aq ⟨sc,yt,y.nm,_,hyt,d3,nz,rfl⟩
      | false =>
       refine bK ?_
       refine ⟨_,rfl,ya,_,_,_,rfl,rfl,bp.of hya,a9 (j:=0) rfl,aJ rfl,fun q hq=>?_⟩
       refine ⟨_,rfl,rfl,.inr ⟨_,rfl,q,_,_,_,rfl,rfl,ah.of aB,ix,rfl,?_⟩⟩
       refine ⟨sc.trans (aG.new hq),yt,y.nm,some (.ref ya),aG.new hq _ _ hyt,d3,nz,?_⟩
       have eb:decide (V.str y.e.r = V.str (cL e.r)) = (!false && (bM S.r e).isSome):=by
        rw [en]
        by_cases q:y.e.r = cL e.r
        ·rw [if_pos q,decide_eq_true (by rw [q])]; rfl
        ·rw [if_neg q,decide_eq_false (fun z=>q (V.str.inj z))]; rfl
       rw [← eb]
       rfl
    ·have hge:e.r = Str.ofString "genus" := Decidable.of_not_not fun q=>hge (by rw [decide_eq_false (fun z=>q (V.str.inj z))]; rfl)
     have en:bM S.r e = some [e.w]:=by unfold bM; rw [if_pos hge]
     rw [en]
     refine ⟨aG.refl _,t0,[],z14,kt0,by decide,fun z h=>(Option.some.inj h).symm,?_⟩
     rw [Option.isSome_some,Bool.and_true]
   rintro σ Gc ⟨sc,h0,hs,z14',kh0,lhs,hnz,rfl⟩
   have sbc:=sb.trans sc
   obtain ⟨g2,hg2⟩:∃ b:Bool,b = (!oF e && (bM S.r e).isSome):=⟨_,rfl⟩
   rw [← hg2]
   refine ⟨fun σ' G'=>aG Gc G' ∧ ∃ (sv:V) (z15:Option V),((g2 && (!iK S.r e && !jf S.r e)) = true → sv = aj (lQ S.r e).s) ∧ σ' = [some (.ref l),some (.ref d),some (.ref g),some (.ref ra),some (.int e.n),some (.int e.d),some (.str e.r),some (.str e.w),some (aj e.u),some sv,some (aj e.b),some (.bl e.k),some (.ref h0),some (.bl (g2 && (!iK S.r e && !jf S.r e))),z14',z15],?_,?_⟩
   ·refine ⟨_,rfl,_,rfl,?_⟩
    cases hb:e.b with
    | none =>
     have b3:iK S.r e = false:=by unfold iK; rw [hb]; rfl
     have b4:jf S.r e = false:=by unfold jf gJ; rw [hb]
     have br:lQ S.r e = e:=by unfold lQ; rw [hb]
     rw [b3,b4,br]
     refine aq ⟨aG.refl _,aj e.s,z15,fun _=>rfl,?_⟩
     rw [show (g2 && (!false && !false)) = g2 from Bool.and_true g2]
    | some bn =>
     refine bK ?_
     refine ⟨_,rfl,d,rfl,.inl ⟨_,.inl (sbc _ _ hd)⟩,_,rfl,aJ rfl,fun p1 hp1=>⟨aJ rfl,fun p2 hp2=>?_⟩⟩
     have u1:=aG.new (o:=HO.tup []) hp1
     have u2:=aG.new (o:=HO.tup [V.str (Str.ofString ""),V.ref p1,V.bI,V.str (Str.ofString ""),V.int 0,V.int 0]) hp2
     have kp2:=aB (H:=upd Gc p1 (.tup [])) (a:=p2) (o:=HO.tup [V.str (Str.ofString ""),V.ref p1,V.bI,V.str (Str.ofString ""),V.int 0,V.int 0])
     have sd:=u1.trans u2
     generalize upd (upd Gc p1 (.tup [])) p2 (.tup [V.str (Str.ofString ""),V.ref p1,V.bI,V.str (Str.ofString ""),V.int 0,V.int 0]) = Gd at sd kp2 ⊢
     clear u1 u2
     have iff3:=rE (R:=S.r) hb
     have gT:(∃ y,ao S.r bn = some y ∧ y.e.r = e.r ∧ y.e.b = none ∧ y.e.w = e.w) → (!iK S.r e && !jf S.r e) = true:=fun h=>by
      obtain ⟨h1,h2⟩:=iff3.mpr h
      rw [h1,h2]
      rfl
     have gF:¬ (∃ y,ao S.r bn = some y ∧ y.e.r = e.r ∧ y.e.b = none ∧ y.e.w = e.w) → (!iK S.r e && !jf S.r e) = false:=fun h=>by
      cases q3:iK S.r e with
      | true=>rfl
      | false =>
       cases q4:jf S.r e with
       | true=>rfl
       | false=>exact absurd (iff3.mp ⟨q3,q4⟩) h
     rcases rgt Gd (sc.trans sd) bn with ⟨f1,f2⟩ | ⟨y,v,ya,yt,ym,f1,f2,rfl,hya,hyt⟩
     ·have e0:(!iK S.r e && !jf S.r e) = false:=gF fun ⟨y,h,_⟩=>by rw [f1] at h; cases h
      rw [e0,Bool.and_false]
      refine ⟨none,f2,?_⟩
      refine ⟨_,rfl,_,rfl,?_⟩
      cases g2 with
      | false=>exact aq ⟨_,rfl,p2,_,_,_,rfl,rfl,bp.of kp2,a9 (j:=4) rfl,sd,_,_,(fun h=>nomatch h),rfl⟩
      | true =>
       refine bK ?_
       refine ⟨_,rfl,p2,_,_,_,rfl,rfl,bp.of kp2,a9 (j:=0) rfl,_,rfl,rfl,_,rfl,?_⟩
       refine bf (fun h=>?_) (fun _=>?_)
       ·exfalso
        have h:=V.str.inj (of_decide_eq_true h)
        rcases fV ok1 with q | q | q <;> rw [q] at h <;> exact absurd h (by decide +kernel)
       ·exact ⟨_,rfl,p2,_,_,_,rfl,rfl,bp.of kp2,a9 (j:=4) rfl,sd,_,_,(fun h=>nomatch h),rfl⟩
     ·have ysh:∀ (b1:y.e.b = none),aj (eI S.r y).s = aj (lQ S.r e).s:=fun b1=>by
       unfold eI lQ
       rw [b1,hb]
       show aj y.e.s = aj (((ao S.r bn).map (·.e)).getD e).s
       rw [f1]
       rfl
      refine ⟨_,f2,?_⟩
      refine ⟨_,rfl,_,rfl,?_⟩
      have f4:eW [V.str y.e.r,.ref yt,aj y.e.b,.str y.e.w,aj (eI S.r y).s,.int y.e.d] 4 = some (aj (eI S.r y).s):=a9 (j:=4) rfl
      have done:∀ gg:Bool,gg = (g2 && (!iK S.r e && !jf S.r e)) → (gg = true → y.e.b = none) → True:=fun _ _ _=>trivial
      cases g2 with
      | false=>exact aq ⟨_,rfl,ya,_,_,_,rfl,rfl,bp.of hya,f4,sd,_,_,(fun h=>nomatch h),rfl⟩
      | true =>
       refine bK ?_
       refine ⟨_,rfl,ya,_,_,_,rfl,rfl,bp.of hya,a9 (j:=0) rfl,_,rfl,rfl,_,rfl,?_⟩
       refine bf (fun h1=>?_) (fun h1=>?_)
       ·have h1:y.e.r = e.r:=V.str.inj (of_decide_eq_true h1)
        refine ⟨_,rfl,ya,_,_,_,rfl,rfl,bp.of hya,a9 (j:=2) rfl,_,rfl,?_⟩
        refine bf (fun h2=>?_) (fun h2=>?_)
        ·have h2:y.e.b = none:=oC.mp (of_decide_eq_true h2)
         refine ⟨_,rfl,ya,_,_,_,rfl,rfl,bp.of hya,a9 (j:=3) rfl,_,rfl,rfl,?_⟩
         refine ⟨_,rfl,ya,_,_,_,rfl,rfl,bp.of hya,f4,sd,_,some (.ref ya),fun _=>ysh h2,?_⟩
         have eb:decide (V.str y.e.w = V.str e.w) = (true && (!iK S.r e && !jf S.r e)):=by
          by_cases q:y.e.w = e.w
          ·rw [gT ⟨y,f1,h1,h2,q⟩,decide_eq_true (by rw [q])]; rfl
          ·rw [gF (fun ⟨y',a,_,_,b⟩=>by rw [f1] at a; cases a; exact q b),decide_eq_false (fun z=>q (V.str.inj z))]; rfl
         rw [← eb]
         rfl
        ·have h2:y.e.b ≠ none:=fun q=>h2 (decide_eq_true (oC.mpr q))
         rw [gF fun ⟨y',a,_,b,_⟩=>by rw [f1] at a; cases a; exact h2 b]
         exact ⟨_,rfl,ya,_,_,_,rfl,rfl,bp.of hya,f4,sd,_,_,(fun h=>nomatch h),rfl⟩
       ·have h1:y.e.r ≠ e.r:=fun q=>h1 (decide_eq_true (by rw [q]))
        rw [gF fun ⟨y',a,b,_⟩=>by rw [f1] at a; cases a; exact h1 b]
        exact ⟨_,rfl,ya,_,_,_,rfl,rfl,bp.of hya,f4,sd,_,_,(fun h=>nomatch h),rfl⟩
   rintro σ Gd ⟨sd,sv,z15',hsv,rfl⟩
   have sbd:=sbc.trans sd
   have kh0:=sd _ _ kh0
   have hd:=sbd _ _ hd
   have hg:=hg.same sbd
   have sG:=sG.trans sbd
   have pR:Paired (eX Gd S.r) S.r kr:=Paired.dn pR fun x q z=>z.keep fun t xs h=>sbd _ _ h
   clear rgt sbd sbc sb sc sd dfl kt0
   have oi:dI S e = Str.ofString "right" ↔ (g2 && (!iK S.r e && !jf S.r e)) = true ∧ vq S.r (bM S.r e) = false:=by
    unfold dI
    rw [u3,hg2]
    cases oF e <;> cases (bM S.r e).isSome <;> cases iK S.r e <;> cases jf S.r e <;> simp
   have no:∀ (G':Hp) (z15:Option V),aG Gd G' → dI S e ≠ Str.ofString "right" → aG H G' ∧ ∃ (z3 z4 z5 z6 z7 z8 z9 z10 z11 z12 z13 z14 z15':Option V) (kr:List (Key × V)),[some (V.ref l),some (.ref d),some (.ref g),some (.ref ra),some (.int e.n),some (.int e.d),some (.str e.r),some (.str e.w),some (aj e.u),some sv,some (aj e.b),some (.bl e.k),some (V.ref h0),some (.bl (g2 && (!iK S.r e && !jf S.r e))),z14',z15] = [some (V.ref l),some (.ref d),some (.ref g),z3,z4,z5,z6,z7,z8,z9,z10,z11,z12,z13,z14,z15'] ∧ G' d = some (.dK kr) ∧ Paired (eX G' (bU S e).r) (bU S e).r kr ∧ DN P w G' g (gS (bU S e).r):=fun G' z15 s h=>by
    have er:(bU S e).r = S.r:=by
     show (if dI S e = Str.ofString "right" then _ else _) = _
     rw [if_neg h]
    rw [er]
    exact ⟨sG.trans s,_,_,_,_,_,_,_,_,_,_,_,_,_,kr,rfl,s _ _ hd,Paired.dn pR fun x q z=>z.keep fun t xs h=>s _ _ h,hg.same s⟩
   cases g3:(g2 && (!iK S.r e && !jf S.r e)) with
   | false =>
    rw [g3] at oi no
    exact ⟨_,rfl,_,rfl,aq (no Gd z15' (aG.refl _) fun h=>nomatch (oi.mp h).1)⟩
   | true =>
    rw [g3] at oi no
    have sv1:=hsv g3
    obtain ⟨z,hz⟩:∃ z,bM S.r e = some z:=by
     cases q:bM S.r e with
     | none=>rw [q,Option.isSome_none,Bool.and_false] at hg2; rw [hg2] at g3; cases g3
     | some z=>exact ⟨z,rfl⟩
    have zz:=hnz z hz
    have lz:=mT hz ok1 rok.dp
    have gs:=xM ok1 rok.ok rok.dp lz
    rw [hz] at oi
    have kat:∀ {G G':Hp} {t pr:Addr},G t = some (.tup ((hs ++ [e.w]).map V.str)) → G pr = none → G' = upd G pr (.tup [V.str e.r,V.ref t]) → jb G' (Sum.inr e.r,z.map Sum.inr) pr:=fun {G G' t pr} h f e'=>by
     subst e'
     refine ⟨t,aB,?_⟩
     show _ = some (HO.tup ((z.map (Sum.inr:Str → Key)).map kV))
     rw [kf,zz,aI (aL h f)]
     exact h
    refine ⟨_,rfl,_,rfl,bK ?_⟩
    refine ⟨_,rfl,_,rfl,_,rfl,aJ rfl,fun tw htw=>yy (hd:=hs) (aG.new htw _ _ kh0) aB (by omega) fun t Ge se ht=>⟨aJ rfl,fun pr hpr=>?_⟩⟩
    have ky:=kat ht hpr rfl
    have s1:=(aG.new (o:=HO.tup [V.str e.w]) htw).trans (se.trans (aG.new (o:=HO.tup [V.str e.r,V.ref t]) hpr))
    generalize upd Ge pr (.tup [V.str e.r,V.ref t]) = Gf at ky s1 ⊢
    clear htw se ht hpr Ge
    refine ⟨_,rfl,g,pr,(Sum.inr e.r,z.map Sum.inr),_,rfl,rfl,ky,hg.same s1,_,rfl,?_⟩
    rw [gs]
    cases h5:vq S.r (some z) with
    | true =>
     rw [h5] at oi
     exact aq (no Gf z15' s1 fun h=>nomatch (oi.mp h).2)
    | false =>
     have hr:dI S e = Str.ofString "right" := oi.mpr ⟨rfl,h5⟩
     have er:(bU S e).r = S.r ++ [⟨e,z⟩]:=by
      show (if dI S e = Str.ofString "right" then S.r ++ [⟨e,(bM S.r e).getD []⟩] else S.r) = _
      rw [if_pos hr,hz]
      rfl
     have kno:bF (gS S.r) (Sum.inr e.r,z.map Sum.inr) = none:=by
      cases q:bF (gS S.r) (Sum.inr e.r,z.map Sum.inr) with
      | none=>rfl
      | some v=>rw [q,h5] at gs; cases gs
     have frr:e.n ∉ S.r.map (·.e.n):=fun q=>by
      obtain ⟨x,hx,ex⟩:=List.mem_map.mp q
      exact frn (ex ▸ rok.sub x hx)
     have krn:bF kr (Sum.inl e.n) = none:=by
      rcases eQ pR e.n with ⟨_,h⟩ | ⟨x,v,m,h,_⟩
      ·exact h
      ·exact absurd (List.mem_map.mpr ⟨x,m,(fX h).2⟩) frr
     have krl:kr.length = S.r.length:=(Paired.length pR).symm
     refine bK ?_
     refine ⟨_,rfl,_,rfl,_,rfl,_,rfl,_,rfl,aJ rfl,fun tw htw=>yy (hd:=hs) (aG.new htw _ _ (s1 _ _ kh0)) aB (by omega) fun t Ge se ht=>⟨aJ rfl,fun pr hpr=>?_⟩⟩
     have ky:=kat ht hpr rfl
     have s2:=s1.trans ((aG.new (o:=HO.tup [V.str e.w]) htw).trans (se.trans (aG.new (o:=HO.tup [V.str e.r,V.ref t]) hpr)))
     generalize upd Ge pr (.tup [V.str e.r,V.ref t]) = Gh at ky s2 ⊢
     clear htw se ht hpr Ge
     refine ⟨g,pr,(Sum.inr e.r,z.map Sum.inr),_,rfl,rfl,ky,hg.same s2,by unfold gS; rw [List.length_map]; omega,kno,fun Gi fi hDi=>?_⟩
     have s3:∀ b u,b ≠ g → Gd b = some u → Gi b = some u:=fun b u nb hb=>fi b u nb (s2 _ _ hb)
     have ng:∀ {b:Addr} {xs:List V},Gd b = some (.tup xs) → b ≠ g:=fun {b xs} h q=>by
      obtain ⟨_,hx,_⟩:=hg
      rw [q,hx] at h
      cases h
     have kh0i:=s3 _ _ (ng kh0) kh0
     have hdi:=s3 _ _ dg hd
     have bok:∀ b,e.b = some b → ∃ y,ao S.r b = some y:=fun b hb=>by
      have h34:iK S.r e = false ∧ jf S.r e = false:=by
       revert g3
       cases g2 <;> cases iK S.r e <;> cases jf S.r e <;> simp
      obtain ⟨y,hy,_⟩:=(rE hb).mp h34
      exact ⟨y,hy⟩
     refine ⟨_,rfl,_,rfl,_,rfl,aJ rfl,fun tw htw=>yy (hd:=hs) (aG.new htw _ _ kh0i) aB (by omega) fun t Ge se ht=>⟨_,rfl,_,rfl,_,rfl,_,rfl,aJ rfl,fun a ha=>?_⟩⟩
     have s4:=(aG.new (o:=HO.tup [V.str e.w]) htw).trans (se.trans (aG.new (o:=HO.tup [V.str e.r,V.ref t,aj e.b,V.str e.w,sv,V.int e.d]) ha))
     have ka:=aB (H:=Ge) (a:=a) (o:=.tup [V.str e.r,V.ref t,aj e.b,V.str e.w,sv,V.int e.d])
     have kt:=aG.new (o:=HO.tup [V.str e.r,V.ref t,aj e.b,V.str e.w,sv,V.int e.d]) ha _ _ ht
     generalize upd Ge a (.tup [V.str e.r,V.ref t,aj e.b,V.str e.w,sv,V.int e.d]) = Gj at s4 ka kt ⊢
     clear htw se ht ha Ge
     have hdj:=s4 _ _ hdi
     refine ⟨_,rfl,_,rfl,d,_,rfl,iB.k (k:=Sum.inl e.n) hdj (by omega),?_⟩
     rw [df krn,er]
     have nd':∀ {b:Addr} {xs:List V},Gj b = some (.tup xs) → b ≠ d:=fun h=>ax h hdj (by intro q; cases q)
     have mv:∀ t xs,Gd t = some (.tup xs) → upd Gj d (.dK (kr ++ [(Sum.inl e.n,V.ref a)])) t = some (.tup xs):=fun t xs h=>by
      have h1:=s4 _ _ (s3 _ _ (ng h) h)
      rw [aI (nd' h1)]
      exact h1
     refine ⟨fun b u hb=>?_,_,_,_,_,_,_,_,_,_,_,_,_,_,kr ++ [(Sum.inl e.n,.ref a)],rfl,aB,jd (j9 pR fun x hx q hq=>?_) ⟨rfl,a,t,rfl,?_,?_⟩,?_⟩
     ·rw [aI (fH b u hb).1]
      exact s4 _ _ (s3 _ _ (fH b u hb).2 (sG _ _ hb))
     ·have:=hq.keep mv
      obtain ⟨q1,q2,q3,q4,q5,q6⟩:=this
      refine ⟨q1,q2,q3,q4,?_,q6⟩
      rw [tI rok hx]
      exact q5
     ·rw [aI (nd' ka),ka,vP bok,← sv1]
     ·rw [aI (nd' kt),kt,← zz]
     ·have eg:gS (S.r ++ [⟨e,z⟩]) = gS S.r ++ [((Sum.inr e.r,z.map Sum.inr),V.int e.n)]:=by unfold gS; rw [List.map_append]; rfl
      rw [eg]
      refine xH hDi (fun u h=>?_) fun b ys h=>?_
      ·rw [aI dg.symm]; exact s4 _ _ h
      ·have h1:=s4 _ _ h
       rw [aI (nd' h1)]; exact h1
  ·rintro σ G ⟨sG,z3,z4,z5,z6,z7,z8,z9,z10,z11,z12,z13,z14,z15,kr,rfl,hd,pR,hg⟩
   rw [lw,List.take_of_length_le (Nat.le_refl _)] at pR
   exact ⟨_,rfl,k d kr G sG hd0 hd pR⟩
set_option maxHeartbeats 4000000 in
theorem tQ (T:Txt w K mg c):ar P w K mg base fN 1 c.a_Lroots c.d_Lroots ["_law_right_here"] (vh):=by
 refine T.Lroots.fn.ok sZ (fun vs H Q E h=>?_) (fun cdv A outer s H vs Q E hr h=>?_)
 ·obtain ⟨d,kr,R,rfl,_⟩:=h
  rfl
 ·obtain ⟨d,kr,R,rfl,hd,pR,nd,l84,k⟩:=h
  refine ⟨_,(aH (aR (sC (cX (N':=["_law_number", "_law_right_here"]) (js:=[none,some 0]) rfl rfl (by decide +kernel) (by decide +kernel) (bu ["_law_right_here"] (by decide +kernel) (aM (.inl rfl) bB)) (cf rfl (aM (fun j e=>nomatch e) (aM (fun j e=>by cases e; exact ⟨rfl,rfl,.inl rfl⟩) bB))) (gY (pv 0)) (fun B=>⟨(aQ (i:=0) (show List.Nodup (["_law_number", "_law_right_here"]:List Str) by decide +kernel) rfl (Or.inl rfl)),(cC (cS (dR (aY bC (d4 (bz hr) (pv 1) (pv 0) (fun _ _=>rfl)) aE (fun _ _=>rfl))))),(pv 0)⟩))))),?_⟩
  have sz:2000 < sizeLine:=aJ rfl
  have lk:kr.length = R.length:=(Paired.length pR).symm
  refine ⟨_,rfl,d,kr,rfl,hd,fun o nf lc B hlc=>?_⟩
  have g1:upd H d (.frz o (.dK kr)) d = some (.frz o (.dK kr)):=aB
  have f1:∀ c u,c ≠ d → H c = some u → upd H d (.frz o (.dK kr)) c = some u:=fun c u nc hc=>by rw [aI nc]; exact hc
  have bk1:∀ G,aG (upd H d (.frz o (.dK kr))) G → aG H (upd G d (.dK kr)):=fun G h c u hc=>by
   by_cases q:c = d
   ·rw [q,aB]; rw [q,hd] at hc; exact hc
   ·rw [aI q]; exact h c u (f1 c u q hc)
  have nlc:lc ≠ d:=fun z=>by rw [z,aB] at hlc; cases hlc
  have hlc0:H lc = none:=by rw [← hlc,aI nlc]
  have mvT:∀ t xs,H t = some (.tup xs) → upd H d (.frz o (.dK kr)) t = some (.tup xs):=fun t xs h=>f1 t _ (ax h hd (by intro q; cases q)) h
  have pR1:Paired (eX (upd H d (.frz o (.dK kr))) R) R kr:=Paired.dn pR fun x q z=>z.keep mvT
  generalize upd H d (.frz o (.dK kr)) = G1 at g1 f1 bk1 hlc mvT pR1 ⊢
  refine eD (kvs:=kr) (f:=fun p=>kV p.1) rfl (fun i σ acc G=>(∃ z,σ = [z,some (.ref d)]) ∧ aG G1 G ∧ G lc = some (.lst acc) ∧ acc = (fM (R.take i)).map V.int) (by omega) ?_ ?_ ?_ ?_
  ·exact ⟨⟨_,rfl⟩,aG.new hlc,aB,rfl⟩
  ·rintro i σ acc G hi ⟨_,sG,h1,h2⟩
   refine ⟨h1,sG _ _ g1,?_⟩
   rw [h2,List.length_map]
   unfold fM
   rw [List.length_map]
   refine Nat.le_trans (List.length_filter_le ..) ?_
   rw [List.length_take]
   exact Nat.min_le_left _ _
  ·rintro i p σ acc G hp ⟨⟨z,rfl⟩,sG,h1,h2⟩
   have hi:i < kr.length:=(List.getElem?_eq_some_iff.mp hp).1
   have ed:R[i]? = some R[i]:=List.getElem?_eq_getElem (by omega)
   have hm:=List.mem_of_getElem? ed
   rw [take_one ed]
   generalize R[i] = x at ed hm
   obtain ⟨p',ep,hx1,_⟩:=eF pR1 ed
   rw [hp] at ep
   cases ep
   rw [hx1]
   obtain ⟨v,a,t,hv,rfl,ha⟩:∃ v a t,bF kr (Sum.inl x.e.n) = some v ∧ v = .ref a ∧ G1 a = some (.tup [.str x.e.r,.ref t,aj x.e.b,.str x.e.w,aj (eI R x).s,.int x.e.d]):=by
    rcases eQ pR1 x.e.n with ⟨c1,_⟩ | ⟨y,v,_,c1,c2,_,a,t,c3,c4,_⟩
    ·rw [bR nd hm] at c1; cases c1
    ·rw [bR nd hm] at c1
     cases c1
     exact ⟨v,a,t,c2,c3,c4⟩
   have f2:eW [V.str x.e.r,.ref t,aj x.e.b,.str x.e.w,aj (eI R x).s,.int x.e.d] 2 = some (aj x.e.b):=a9 (j:=2) rfl
   refine ⟨_,rfl,_,rfl,d,.ref a,rfl,.inl ⟨kr,Sum.inl x.e.n,.inr ⟨o,sG _ _ g1⟩,rfl,hv.symm⟩,a,_,_,_,rfl,rfl,bp.of (sG _ _ ha),f2,_,rfl,?_⟩
   have er:fM (R.take i ++ [x]) = fM (R.take i) ++ (if x.e.b = none then [x.e.n] else []):=by
    unfold fM
    rw [List.filter_append,List.map_append]
    by_cases q:x.e.b = none
    ·rw [if_pos q,List.filter_cons_of_pos (p:=fun x:Rt=>decide (x.e.b = none)) (decide_eq_true q)]; rfl
    ·rw [if_neg q,List.filter_cons_of_neg (p:=fun x:Rt=>decide (x.e.b = none)) (by rw [decide_eq_false q]; decide)]; rfl
   rw [er]
   cases hb:x.e.b with
   | none=>exact bK ⟨_,rfl,h1,Nx.mk hi ⟨⟨_,rfl⟩,bD hlc sG,aB,by rw [if_pos rfl,List.map_append,h2]; rfl⟩⟩
   | some b=>exact aq (Nx.mk hi ⟨⟨_,rfl⟩,sG,h1,by rw [if_neg (by intro q; cases q),List.append_nil]; exact h2⟩)
  ·rintro σ acc G ⟨_,sG,h1,h2⟩
   rw [lk,List.take_of_length_le (Nat.le_refl _)] at h2
   subst h2
   exact ⟨_,⟨d,o,kr,sG _ _ g1,nf,rfl⟩,k lc _ (bk1 G sG) hlc0 (by rw [aI nlc]; exact h1)⟩
set_option maxHeartbeats 4000000 in
theorem sV (T:Txt w K mg c):ar P w K mg base fN 2 c.a_Ldeeds c.d_Ldeeds ["_law_cells", "_law_right_here"] (u4 K):=by
 refine T.Ldeeds.fn.ok dC (fun vs H Q E h=>?_) (fun cdv A outer s H vs Q E hr h=>?_)
 ·obtain ⟨cl,cs,d,kr,R,rfl,_⟩:=h
  rfl
 ·obtain ⟨cl,cs,d,kr,R,rfl,hC,lC,hd,pR,nd,l84,hday,k⟩:=h
  refine ⟨_,(aC (aN (i:=2) dC.nd rfl (Or.inl rfl) (aU (tQ T) (hr.mono (by decide)) rfl T.Lroots.mgf T.Lroots.kp T.Lroots.bi .nil ak (aA (pv 1) aD)))
   (aC (aN (i:=3) dC.nd rfl (Or.inl rfl) (bg aD))
   (aC (aN (i:=4) dC.nd rfl (Or.inl rfl) aE)
   (aC (cU PassesOwn.never rfl (cZ rfl T.no_range (aA (af bG rfl T.no_len dY (aA (pv 0) aD)) aD)) (aQ (i:=5) dC.nd rfl (Or.inl rfl))
    (aC (aN (i:=6) dC.nd rfl (Or.inl rfl) (aU (de T) (hr.mono (by decide)) rfl T.Ldraw.mgf T.Ldraw.kp T.Ldraw.bi .nil ak (aA (aY ae (pv 0) (pv 5) (fun _ _=>rfl)) (aA (aP bj aE (aP dU aE (pv 5))) aD))))
   (aH (ai (aW (kY (iE hr)) (pv 2) (bg aD) (aX _))
    (aC (aN (i:=7) dC.nd rfl (Or.inl rfl) (aY ae (pv 2) (aP av (aP dq (pv 6) aE) (af bG rfl T.no_len dY (aA (pv 2) aD))) (fun _ _=>rfl)))
   (ag (aN (i:=4) dC.nd rfl (Or.inl rfl) (aP bj (af (mO rfl) rfl T.no_max u9 (aA (pv 4) (aA (aY bC (d4 (bz hr) (pv 1) (pv 7) (fun _ _=>rfl)) aE (fun _ _=>rfl)) aD))) (aY ae (bg (aA aE (aA aE (aA aE (aA (aP av (aP dq (pv 6) aE) aE) aD))))) (aP av (pv 6) aE) (fun _ _=>rfl))))
   (aH (cq (m4 PySem.F.plainAttrs_list PySem.F.slot_list_append PySem.F.type_list_append (t9.r dW) (pv 3) (aA (cB (aA (pv 4) (aA (aY ae (bg (aA aT (aA aT (aA aT aD)))) (aP av (aP dq (pv 6) aE) aE) (fun _ _=>rfl)) (aA (pv 7) aD)))) aD))))))
    aO))))
   (aH (aR (pv 3))))))),?_⟩
  have sz:2000 < sizeLine:=aJ rfl
  have lc:(cs.map V.int).length = cs.length:=List.length_map ..
  refine ⟨_,rfl,d,kr,R,rfl,hd,pR,nd,l84,fun sl G0 s0 hsl0 hsl=>?_⟩
  have hroot:∀ m ∈ fM R,∃ x ∈ R,x.e.n = m ∧ x.e.b = none:=fun m hm=>by
   obtain ⟨x,hx,rfl⟩:=List.mem_map.mp hm
   obtain ⟨h1,h2⟩:=List.mem_filter.mp hx
   exact ⟨x,h1,rfl,of_decide_eq_true h2⟩
  have lrn:(fM R).length ≤ 84:=by
   unfold fM
   rw [List.length_map]
   exact Nat.le_trans (List.length_filter_le ..) l84
  have hd:=s0 _ _ hd
  have pR:Paired (eX G0 R) R kr:=Paired.dn pR fun x q z=>z.keep fun t xs h=>s0 _ _ h
  generalize fM R = ms at hsl hroot lrn
  refine ⟨aJ rfl,fun l hl=>?_⟩
  have t1:=aG.new (o:=HO.lst []) hl
  have k1:=aB (H:=G0) (a:=l) (o:=.lst [])
  have hlH:=s0.free hl
  generalize upd G0 l (.lst []) = G1 at t1 k1 ⊢
  walk_at "rd"
  refine ⟨cl,_,rfl,.inl ((s0.trans t1).seq hC),?_⟩
  walk_at "rd"
  refine ⟨by omega,by omega,?_⟩
  refine eE (n:=((cs.map V.int).length:Int).toNat) (lo:=0) (fun i σ G=>aG G0 G ∧ ∃ (dy:Int) (z5 z6 z7:Option V) (ws:List V) (ds:List Dd),σ = [some (.ref cl),some (.ref d),some (.ref sl),some (.ref l),some (.int dy),z5,z6,z7] ∧ G l = some (.lst ws) ∧ ek G ws ds ∧ cz R ds ∧ ds.length ≤ i ∧ 1 ≤ dy ∧ dy ≤ 60000 + 300 * i ∧ ∀ x ∈ ds,x.d ≤ dy) ?_ ?_ ?_
  ·exact ⟨t1,_,_,_,_,[],[],rfl,k1,⟨rfl,fun j v e h=>nomatch h⟩,⟨fun _ h=>(nomatch h),fun j x y h=>by rw [List.getElem?_nil] at h; cases h⟩,Nat.le_refl _,by decide,by omega,fun _ h=>nomatch h⟩
  ·rintro i σ G hi ⟨sG,dy,z5,z6,z7,ws,ds,rfl,hG,hA,hB,ld,b1,b2,b3⟩
   have hi:i < cs.length:=by omega
   obtain ⟨v1,hv1,hm1⟩:=cx (xs:=cs.map V.int) (i:=0 + (i:Int)) (by omega) (by omega)
   obtain ⟨c2,_,rfl⟩:=List.mem_map.mp hm1
   walk_at "rd"
   refine ⟨cl,_,_,_,rfl,rfl,(s0.trans sG).seq hC,hv1,?_⟩
   walk_at "rd"
   refine ⟨by omega,by omega,fun r r0 r1=>?_⟩
   refine ⟨_,rfl,aJ rfl,fun q0 hq0=>?_⟩
   have t0:=aG.new (o:=HO.lst []) hq0
   refine ⟨0,_,by decide,iC (ah.of (t0 _ _ (sG _ _ hsl))) (ah.of aB),_,rfl,?_⟩
   have sG2:=sG.trans t0
   have hG2:=t0 _ _ hG
   have hA2:=hA.same t0
   generalize upd G q0 (.lst []) = G2 at sG2 hG2 hA2 ⊢
   cases he:(ms.map V.int).isEmpty with
   | true=>exact aq ⟨sG2,dy,_,_,_,ws,ds,rfl,hG2,hA2,hB,by omega,b1,by omega,b3⟩
   | false =>
    refine bK ?_
    have wp:0 < (ms.map V.int).length:=List.length_pos_iff.mpr fun z=>by rw [z] at he; cases he
    walk_at "rd"
    refine ⟨sl,_,rfl,.inl (ah.of (sG2 _ _ hsl)),?_⟩
    walk_at "rd"
    refine ⟨by show (0:Int) < (ms.map V.int).length; omega,?_⟩
    obtain ⟨v,hv,hm⟩:=cx (xs:=ms.map V.int) (i:=r / 3600 % ((ms.map V.int).length:Int)) (Int.emod_nonneg _ (by omega)) (Int.emod_lt_of_pos _ (by omega))
    obtain ⟨m,hmm,rfl⟩:=List.mem_map.mp hm
    obtain ⟨x,hx,rfl,xb⟩:=hroot m hmm
    refine ⟨sl,_,_,_,rfl,rfl,ah.of (sG2 _ _ hsl),hv,?_⟩
    have xd:=hday x hx
    obtain ⟨v,a,t,hvx,rfl,ha⟩:∃ v a t,bF kr (Sum.inl x.e.n) = some v ∧ v = .ref a ∧ G0 a = some (.tup [.str x.e.r,.ref t,aj x.e.b,.str x.e.w,aj (eI R x).s,.int x.e.d]):=by
     rcases eQ pR x.e.n with ⟨c1,_⟩ | ⟨y,v,_,c1,c2,_,a,t,c3,c4,_⟩
     ·rw [bR nd hx] at c1; cases c1
     ·rw [bR nd hx] at c1
      cases c1
      exact ⟨v,a,t,c2,c3,c4⟩
    have f5:eW [V.str x.e.r,.ref t,aj x.e.b,.str x.e.w,aj (eI R x).s,.int x.e.d] 5 = some (.int x.e.d):=a9 (j:=5) rfl
    refine ⟨fun σ' G'=>aG G2 G' ∧ ∃ dy':Int,dy ≤ dy' ∧ x.e.d ≤ dy' ∧ dy' ≤ 60000 + 300 * i + 299 ∧ σ' = [some (.ref cl),some (.ref d),some (.ref sl),some (.ref l),some (.int dy'),some (.int (0 + (i:Int))),some (.int r),some (.int x.e.n)],?_,?_⟩
    ·refine ⟨_,rfl,_,rfl,_,rfl,d,.ref a,rfl,by rw [← hvx]; exact cj.k (k:=Sum.inl x.e.n) (sG2 _ _ hd),a,_,_,_,rfl,rfl,bp.of (sG2 _ _ ha),f5,_,_,rfl,?_⟩
     obtain ⟨mx,hmx⟩:∃ mx:Int,mx = (if x.e.d > dy then x.e.d else dy):=⟨_,rfl⟩
     have mxb:dy ≤ mx ∧ x.e.d ≤ mx ∧ mx ≤ 60000 + 300 * i:=by
      rw [hmx]
      split <;> omega
     rw [← hmx]
     walk_at "rd"
     have y30:=Int.emod_nonneg (r / 12) (b:=300) (by decide)
     have y31:=Int.emod_lt_of_pos (r / 12) (b:=300) (by decide)
     refine ⟨aJ rfl,fun q hq=>?_⟩
     walk_at "rd"
     obtain ⟨v,hv,hm⟩:=cx (xs:=[V.int 0,V.int 0,V.int 1,V.int (r / 12 % 300)]) (i:=r % 4) (Int.emod_nonneg _ (by decide)) (by show _ < (4:Int); exact Int.emod_lt_of_pos _ (by decide))
     obtain ⟨m,rfl,mb0,mb1⟩:∃ m:Int,v = .int m ∧ 0 ≤ m ∧ m ≤ 299:=by
      simp only [List.mem_cons,List.not_mem_nil,or_false] at hm
      rcases hm with rfl | rfl | rfl | rfl
      ·exact ⟨_,rfl,by decide,by decide⟩
      ·exact ⟨_,rfl,by decide,by decide⟩
      ·exact ⟨_,rfl,by decide,by decide⟩
      ·exact ⟨_,rfl,by omega,by omega⟩
     refine ⟨q,_,_,_,rfl,rfl,ah.of aB,hv,?_⟩
     walk_at "rd"
     first | exact ⟨aG.new hq,_,by omega,by omega,by omega,rfl⟩ | trace_state
    rintro σ G3 ⟨s3,dy',c1,c2,c3,rfl⟩
    have hG3:=s3 _ _ hG2
    have hA3:=hA2.same s3
    have sG3:=sG2.trans s3
    obtain ⟨zs,hzs⟩:∃ zs:List V,zs = [V.str (Str.ofString "keep"),V.str (Str.ofString "strike"),V.str (Str.ofString "leave")]:=⟨_,rfl⟩
    refine ⟨_,rfl,.inl ⟨rfl,_,ah.of hG3⟩,_,rfl,aJ rfl,fun q hq=>?_⟩
    rw [← hzs]
    walk_at "rd"
    obtain ⟨v,hv,hm⟩:=cx (xs:=zs) (i:=r / 4 % 3) (Int.emod_nonneg _ (by decide)) (by rw [hzs]; show _ < (3:Int); exact Int.emod_lt_of_pos _ (by decide))
    obtain ⟨z,rfl,hz⟩:∃ z:Str,v = .str z ∧ bX (.str z) = true:=by
     rw [hzs] at hm
     simp only [List.mem_cons,List.not_mem_nil,or_false] at hm
     rcases hm with rfl | rfl | rfl
     ·exact ⟨_,rfl,by decide +kernel⟩
     ·exact ⟨_,rfl,by decide +kernel⟩
     ·exact ⟨_,rfl,by decide +kernel⟩
    have k4:=aB (H:=G3) (a:=q) (o:=.lst zs)
    have t4:=aG.new (o:=HO.lst zs) hq
    have hG4:=t4 _ _ hG3
    have hA4:=hA3.same t4
    have sG4:=sG3.trans t4
    generalize upd G3 q (.lst zs) = G4 at k4 t4 hG4 hA4 sG4 ⊢
    refine ⟨q,_,_,_,rfl,rfl,ah.of k4,hv,?_⟩
    walk_at "rd"
    refine ⟨aJ rfl,fun tp htp=>?_⟩
    have t5:=aG.new (o:=HO.tup (vm ⟨dy',z,x.e.n⟩)) htp
    have k5:=aB (H:=G4) (a:=tp) (o:=.tup (vm ⟨dy',z,x.e.n⟩))
    have hG5:=t5 _ _ hG4
    have hA5:=hA4.same t5
    have sG5:=sG4.trans t5
    have lw:=hA.1
    refine ⟨l,_,_,rfl,rfl,hG5,by omega,bD hl sG5,dy',_,_,_,ws ++ [.ref tp],ds ++ [⟨dy',z,x.e.n⟩],rfl,aB,?_,hB.snoc ⟨hz,by show 1 ≤ dy'; omega,by show dy' ≤ 100000; omega,x,hx,rfl,xb,c2⟩ (fun y hy=>Int.le_trans (b3 y hy) c1),by rw [List.length_append]; exact Nat.add_le_add_right ld 1,by omega,by omega,fun y hy=>?_⟩
    ·have mv:∀ (v:V) (y:Dd),(∃ a,v = .ref a ∧ upd G4 tp (.tup (vm ⟨dy',z,x.e.n⟩)) a = some (.tup (vm y))) → ∃ a,v = .ref a ∧ upd (upd G4 tp (.tup (vm ⟨dy',z,x.e.n⟩))) l (.lst (ws ++ [.ref tp])) a = some (.tup (vm y)):=fun v y ⟨a,e,h⟩=>⟨a,e,by rw [aI (ax h hG5 (by intro q; cases q))]; exact h⟩
     exact iU (F:=fun v y=>∃ a,v = .ref a ∧ upd (upd G4 tp (.tup (vm ⟨dy',z,x.e.n⟩))) l (.lst (ws ++ [.ref tp])) a = some (.tup (vm y))) ⟨hA5.1,fun j v y h1 h2=>mv v y (hA5.2 j v y h1 h2)⟩ (mv _ _ ⟨tp,rfl,k5⟩)
    ·rcases List.mem_append.mp hy with q | q
     ·exact Int.le_trans (b3 y q) c1
     ·rw [List.mem_singleton.mp q]; exact Int.le_refl _
  ·rintro σ G ⟨sG,dy,z5,z6,z7,ws,ds,rfl,hG,hA,hB,ld,b1,b2,b3⟩
   exact ⟨_,rfl,k l ws ds G (s0.trans sG) hlH hG hA hB (by omega)⟩
set_option maxHeartbeats 4000000 in
theorem vX (T:Txt w K mg c):ar P w K mg base fN 6 c.a_Lacts c.d_Lacts ["_law_deeds_here"] (wb c.c_Act):=by
 refine T.Lacts.fn.ok uy (fun vs H Q E h=>?_) (fun cdv A outer s H vs Q E hr h=>?_)
 ·obtain ⟨l,ws,ds,rfl,_⟩:=h
  rfl
 ·obtain ⟨l,ws,ds,rfl,hL,hA,hg,l84,k⟩:=h
  refine ⟨_,(aH (aR (cX (N':=["_law_day_here", "_law_deed", "_law_number"]) (js:=[none,none,none]) rfl rfl (by decide +kernel) (by decide +kernel) (fR (by decide +kernel)) (gj rfl rfl) (bW (pv 0)) (fun B=>⟨(hX rfl (bE (aQ (i:=0) (show List.Nodup (["_law_day_here", "_law_deed", "_law_number"]:List Str) by decide +kernel) rfl (Or.inl rfl)) (bE (aQ (i:=1) (show List.Nodup (["_law_day_here", "_law_deed", "_law_number"]:List Str) by decide +kernel) rfl (Or.inl rfl)) (bE (aQ (i:=2) (show List.Nodup (["_law_day_here", "_law_deed", "_law_number"]:List Str) by decide +kernel) rfl (Or.inl rfl)) fj)))),dO,(oU T.mk_Act (p9 T) (hr.mono (by decide)) rfl T.mg_Act T.b_Act_3 iD (aA (pv 0) (aA (pv 1) (aA (pv 2) aD))) vk)⟩)))),?_⟩
  have sz:2000 < sizeLine:=aJ rfl
  have lw:=hA.1
  refine ⟨_,rfl,l,rfl,⟨_,ah.of hL⟩,fun q B hq=>?_⟩
  refine cW (xs:=ws) (fun i σ acc G=>(∃ o1 o2 o3,σ = [o1,o2,o3]) ∧ aG H G ∧ G q = some (.lst acc) ∧ acc.length = i ∧ cV G c.c_Act acc (ds.take i)) (by omega) ?_ ?_ ?_ ?_
  ·exact ⟨⟨_,_,_,rfl⟩,aG.new hq,aB,rfl,rfl,fun j v x h=>nomatch h⟩
  ·rintro i σ acc G hi ⟨_,sG,h1,h2,_⟩
   exact ⟨h1,ah.of (sG _ _ hL),by omega⟩
  ·rintro i v σ acc G hx ⟨⟨o1,o2,o3,rfl⟩,sG,h1,h2,h3⟩
   have hi:i < ws.length:=(List.getElem?_eq_some_iff.mp hx).1
   have ed:ds[i]? = some ds[i]:=List.getElem?_eq_getElem (by omega)
   obtain ⟨ta,rfl,hta⟩:=hA.2 i v _ hx ed
   obtain ⟨g1,g2,g3⟩:=hg _ (List.mem_of_getElem? ed)
   rw [take_one ed]
   generalize ds[i] = x at hta g1 g2 g3
   have hta:=sG _ _ hta
   refine ⟨ta,_,rfl,bp.of hta,rfl,?_⟩
   walk_at "rd"
   refine fun xa dx hxa hdx ne=>?_
   refine ⟨xa,dx,.int x.d,.str x.z,.int x.n,rfl,aB,Own.int,Own.str,Own.int,fun h=>absurd (h.symm.trans g2) (by decide),fun _ h=>absurd (h.symm.trans g1) (by decide),fun _ _ h=>absurd (h.symm.trans g3) (by decide),fun _ _ _ G1 f1 ha=>⟨rfl,?_⟩⟩
   have s1:aG G G1:=fun b u hb=>f1 b u (aL hb hxa) (aG.made hxa hdx ne b u hb)
   have h1':=s1 _ _ h1
   have mv:∀ v y,gU G1 c.c_Act v y → gU (upd G1 q (.lst (acc ++ [.ref xa]))) c.c_Act v y:=fun v y ⟨b,db,e,h⟩=>⟨b,db,e,by rw [aI (ax h h1' (by intro z; cases z))]; exact h⟩
   have h3':=h3.same s1
   exact ⟨h1',Nx.mk hi ⟨⟨_,_,_,rfl⟩,bD hq (sG.trans s1),aB,by rw [List.length_append,h2]; rfl,iU ⟨h3'.1,fun j v y a b=>mv v y (h3'.2 j v y a b)⟩ (mv _ _ ⟨xa,dx,rfl,ha⟩)⟩⟩
  ·rintro σ acc G ⟨_,sG,h1,h2,h3⟩
   rw [lw,List.take_of_length_le (Nat.le_refl _)] at h3
   exact k q acc G sG hq h1 h3
set_option maxHeartbeats 4000000 in
theorem uT (T:Txt w K mg c):ar P w K mg base fN 1 c.a_ahead c.d_ahead ["one", "other"] (xB c.c_Entry):=by
 refine T.ahead.fn.ok v7 (fun vs H Q E h=>?_) (fun cdv A outer s H vs Q E hr h=>?_)
 ·obtain ⟨x,y,e,f,rfl,_⟩:=h
  rfl
 ·obtain ⟨x,y,e,f,rfl,hx,hy,k⟩:=h
  refine ⟨_,(aH (aR (cJ (yz hr.y9) (cB (aA (aa (pv 0) rfl) (aA (aa (pv 0) rfl) aD))) (cB (aA (aa (pv 1) rfl) (aA (aa (pv 1) rfl) aD))) (aX _)))),?_⟩
  obtain ⟨a,dx,rfl,ha⟩:=hx
  obtain ⟨b,dy,rfl,hb⟩:=hy
  refine ⟨_,rfl,a,_,dx,_,_,rfl,ha,T.cl_Entry,T.na_Entry_day,rfl,?_⟩
  refine ⟨_,rfl,a,_,dx,_,_,rfl,ha,T.cl_Entry,T.na_Entry_number,rfl,aJ rfl,fun p hp=>?_⟩
  have s1:=aG.new (o:=HO.tup [.int e.d,.int e.n]) hp
  refine ⟨_,rfl,b,_,dy,_,_,rfl,s1 _ _ hb,T.cl_Entry,T.na_Entry_day,rfl,?_⟩
  refine ⟨_,rfl,b,_,dy,_,_,rfl,s1 _ _ hb,T.cl_Entry,T.na_Entry_number,rfl,aJ rfl,fun q hq=>?_⟩
  have s2:=aG.new (o:=HO.tup [.int f.d,.int f.n]) hq
  exact ⟨p,q,[e.d,e.n],[f.d,f.n],rfl,rfl,bp.of (s2 _ _ aB),bp.of aB,k _ (s1.trans s2)⟩
set_option maxHeartbeats 4000000 in
theorem gB (T:Txt w K mg c):ar P w K mg base (jo P w) 2 c.a_book_list c.d_book_list ["entries"] (yS K c.c_Entry c.c_NoBook):=by
 refine T.book_list.fn.rX c7 (fun vs H Q E h=>?_) (fun cdv A outer s H vs Q E hr h=>?_)
 ·obtain ⟨x,rfl,_⟩:=h
  rfl
 ·obtain ⟨x,rfl,h0⟩:=h
  refine ⟨_,(aC (ai (bh (bo (af cQ rfl T.no_isinstance bJ (aA (pv 0) (aA (eZ (v:=.ty "list") rfl T.no_list mr rfl) aD)))))
    (aH (cE T.x_NoBook rfl rfl T.mg_NoBook dS (aA aT aD)))
    aO)
   (aC (aN (i:=1) c7.nd rfl (Or.inl rfl) (gm mw rfl T.no_list mr (aA (pv 0) aD)))
   (aC (aN (i:=2) c7.nd rfl (Or.inl rfl) eO)
   (aC (aN (i:=3) c7.nd rfl (Or.inl rfl) ez)
   (aC (cU rW rfl (bW (pv 1)) (aQ (i:=4) c7.nd rfl (Or.inl rfl))
    (aC (ai (bh (bo (af cQ rfl T.no_isinstance bJ (aA (pv 4) (aA (dw (v:=.ref c.c_Entry) rfl T.mg_Entry rfl) aD)))))
    (aH (cE T.x_NoBook rfl rfl T.mg_NoBook dS (aA aT aD)))
    aO)
   (aC (ai (cS (qV (bz hr) (aa (pv 4) rfl) (pv 2)))
    (aH (cE T.x_NoBook rfl rfl T.mg_NoBook dS (aA aT aD)))
    aO)
   (ag (ai (PW.pt (cR (cS (eh (pv 3))) (bw (bh (bo (aU (uT T) (hr.mono (by decide)) rfl T.ahead.mgf T.ahead.kp T.ahead.bi .nil ak (aA (pv 3) (aA (pv 4) aD))))))))
    (aH (cE T.x_NoBook rfl rfl T.mg_NoBook dS (aA aT aD)))
    aO)
   (aC (dr (bz hr) (pv 2) (aa (pv 4) rfl) eK rfl)
   (aH (aN (i:=3) c7.nd rfl (Or.inl rfl) (pv 4))))))))
   (aH (aR (pv 1)))))))),?_⟩
  rcases h0 with ⟨l,ws,is,rfl,hL,hI,hz,k1,k2⟩ | ⟨n,ty,hn,k⟩
  rotate_left
  ·exact ⟨_,rfl,bP.ty ty hn ⟨_,rfl,bK ⟨aJ rfl,k H (aG.refl H)⟩⟩⟩
  have sz:2000 < sizeLine:=aJ rfl
  refine ⟨_,rfl,bP.ty (.lst hL) rfl ⟨_,rfl,aq ?_⟩⟩
  refine ⟨_,rfl,l,_,rfl,.inl (ah.of hL),fun q hq=>?_⟩
  have s1:=aG.new (o:=HO.lst ws) hq
  have hq1:=aB (H:=H) (a:=q) (o:=.lst ws)
  generalize upd H q (.lst ws) = G1 at s1 hq1
  refine fun d hd=>?_
  have s2:=s1.trans (aG.new (o:=HO.dK []) hd)
  have hd2:=aB (H:=G1) (a:=d) (o:=.dK [])
  have hq2:=aG.new (o:=HO.dK []) hd _ _ hq1
  have nHd:H d = none:=s1.free hd
  generalize upd G1 d (.dK []) = G2 at s2 hd2 hq2
  refine ⟨_,rfl,q,rfl,⟨_,ah.of hq2⟩,?_⟩
  refine dh (xs:=ws) (fun i σ G=>∃ seen last lv kvs z,σ = [some (.ref l),some (.ref q),some (.ref d),some lv,z] ∧ ((last = none ∧ lv = .bI) ∨ ∃ e,last = some e ∧ cc G c.c_Entry lv e) ∧ G d = some (.dK kvs) ∧ (∀ s:Int,bF kvs (Sum.inl s) = none ↔ seen.contains s = false) ∧ kvs.length ≤ i ∧ bL [] none is = bL seen last (is.drop i) ∧ aG H G ∧ G q = some (.lst ws)) ?_ ?_ ?_ ?_
  ·exact ⟨[],none,.bI,[],_,rfl,.inl ⟨rfl,rfl⟩,hd2,fun s=>⟨fun _=>rfl,fun _=>rfl⟩,Nat.le_refl _,rfl,s2,hq2⟩
  ·rintro i σ G _ ⟨_,_,_,_,_,_,_,_,_,_,_,_,h⟩
   exact ah.of h
  ·rintro i x σ G hx ⟨seen,last,lv,kvs,z,rfl,g1,g2,g3,g4,g5,g6,g7⟩
   have hi:i < ws.length:=(List.getElem?_eq_some_iff.mp hx).1
   have hii:i < is.length:=by rw [← hI.1]; exact hi
   have it:=hI.2 i x _ hx (List.getElem?_eq_getElem hii)
   have ed:is.drop i = is[i] :: is.drop (i + 1):=(List.getElem_cons_drop hii).symm
   rw [ed] at g5
   generalize is[i] = y at it g5
   cases it with
   | oth t hn =>
    refine ⟨_,rfl,bP.BR (t.same g6) hn ⟨_,rfl,bK ⟨aJ rfl,k2 g5 G g6⟩⟩⟩
   | @ent e h =>
    have h':=h.same g6
    obtain ⟨a,dx,rfl,ha⟩:=h'
    refine ⟨_,rfl,bP.ins ha T.cl_Entry T.w_Entry T.ws_Entry ⟨_,rfl,aq ?_⟩⟩
    refine ⟨_,rfl,a,_,dx,_,_,rfl,ha,T.cl_Entry,T.na_Entry_number,rfl,_,rfl,d,_,rfl,cj.k (k:=Sum.inl e.n) g2,?_⟩
    have g5:bL [] none is = (!seen.contains e.n && (dj last e && bL (seen ++ [e.n]) (some e) (is.drop (i + 1)))):=g5
    cases hv:bF kvs (Sum.inl e.n) with
    | some u =>
     have hc:seen.contains e.n = true:=by
      cases q:seen.contains e.n with
      | true=>rfl
      | false=>rw [(g3 e.n).mpr q] at hv; cases hv
     rw [hc] at g5
     exact ⟨_,rfl,bK ⟨aJ rfl,k2 g5 G g6⟩⟩
    | none =>
     have hc:=(g3 e.n).mp hv
     rw [hc] at g5
     refine ⟨_,rfl,aq ?_⟩
     have g5:bL [] none is = (dj last e && bL (seen ++ [e.n]) (some e) (is.drop (i + 1))):=g5
     refine ⟨fun σ' G'=>σ' = [some (.ref l),some (.ref q),some (.ref d),some lv,some (.ref a)] ∧ aG G G' ∧ bL [] none is = bL (seen ++ [e.n]) (some e) (is.drop (i + 1)),?_,?_⟩
     ·rcases g1 with ⟨rfl,rfl⟩ | ⟨e0,rfl,he0⟩
      ·refine ⟨_,rfl,_,rfl,aq ?_⟩
       exact ⟨rfl,aG.refl G,g5⟩
      ·have h3:=he0
       obtain ⟨a0,dx0,rfl,ha0⟩:=he0
       refine ⟨_,rfl,_,rfl,bK ?_⟩
       refine ⟨_,rfl,_,rfl,_,_,e0,e,rfl,h3,⟨a,dx,rfl,ha⟩,fun G' s'=>?_⟩
       have g5:bL [] none is = (iq e0 e && bL (seen ++ [e.n]) (some e) (is.drop (i + 1))):=g5
       cases hb:iq e0 e with
       | true =>
        rw [hb] at g5
        exact ⟨_,rfl,aq ⟨rfl,s',g5⟩⟩
       | false =>
        rw [hb] at g5
        exact ⟨_,rfl,bK ⟨aJ rfl,k2 g5 G' (g6.trans s')⟩⟩
     rintro σ' G' ⟨rfl,s',g5⟩
     have ha':=s' _ _ ha
     refine ⟨_,rfl,_,rfl,a,_,dx,_,_,rfl,ha',T.cl_Entry,T.na_Entry_number,rfl,d,_,rfl,iB.k (k:=Sum.inl e.n) (s' _ _ g2) (by omega),?_⟩
     have nad:a ≠ d:=ax ha' (s' _ _ g2) (by intro z; cases z)
     have nqd:q ≠ d:=ax (s' _ _ g7) (s' _ _ g2) (by intro z; cases z)
     refine ⟨_,rfl,seen ++ [e.n],some e,.ref a,_,_,rfl,.inr ⟨e,rfl,a,dx,rfl,by rw [aI nad]; exact ha'⟩,aB,fun s=>?_,?_,g5,fun b u hb=>?_,by rw [aI nqd]; exact s' _ _ g7⟩
     ·rw [pS]
      by_cases es:s = e.n
      ·subst es
       rw [if_pos rfl]
       refine ⟨fun z=>(nomatch z),fun z=>?_⟩
       rw [List.contains_iff_mem.mpr (List.mem_append_right _ (List.mem_singleton.mpr rfl))] at z
       cases z
      ·rw [if_neg (fun z=>es (Sum.inl.inj z)),g3 s]
       have:(seen ++ [e.n]).contains s = seen.contains s:=by
        rw [Bool.eq_iff_iff,List.contains_iff_mem,List.contains_iff_mem,List.mem_append,List.mem_singleton]
        exact ⟨fun z=>z.resolve_right es,fun z=>.inl z⟩
       rw [this]
     ·unfold putK
      rw [if_neg (by rw [eT,hv]; decide),List.length_append]
      show kvs.length + 1 ≤ _
      omega
     ·rw [aI (fun z=>by rw [z,nHd] at hb; cases hb)]
      exact s' _ _ (g6 _ _ hb)
  ·rintro σ G ⟨seen,last,lv,kvs,z,rfl,g1,g2,g3,g4,g5,g6,g7⟩
   rw [hI.1,List.drop_length] at g5
   exact ⟨_,rfl,k1 g5 q G g6 hq g7⟩
set_option maxHeartbeats 4000000 in
theorem vO (T:Txt w K mg c):ar P w K mg base (jo P w) 2 c.a_above c.d_above ["rank"] (yk K):=by
 refine T.above.fn.rX uA (fun vs H Q E h=>?_) (fun cdv A outer s H vs Q E hr h=>?_)
 ·obtain ⟨z,rfl,_⟩:=h
  rfl
 ·obtain ⟨z,rfl,hz,k⟩:=h
  refine ⟨_,(aC (ai (bh (bo (aU (hZ T) (hr.mono (by decide)) rfl T.is_rank.mgf T.is_rank.kp T.is_rank.bi .nil ak (aA (pv 0) aD))))
    (aH uX)
    aO)
   (aH (aR (aY oh (dw (v:=.ref c.u_ABOVE) rfl T.mg_ABOVE rfl) (pv 0) (fun _ _=>rfl))))),?_⟩
  refine ⟨_,rfl,_,rfl,Own.str,_,rfl,?_⟩
  rcases hz with rfl | rfl
  ·exact aq ⟨_,rfl,c.u_ABOVE,_,_,_,rfl,rfl,T.kd_ABOVE,rfl,k⟩
  ·exact aq ⟨_,rfl,c.u_ABOVE,_,_,_,rfl,rfl,T.kd_ABOVE,rfl,k⟩
set_option maxHeartbeats 4000000 in
theorem ji (T:Txt w K mg c):ar P w K mg base fN 1 c.a_Results_init c.d_Results_init ["self"] (tL c.c_Results c.c_Entry):=by
 refine T.Results_init.ok jj (fun vs H Q E h=>?_) (fun cdv A outer s H vs Q E hr h=>?_)
 ·obtain ⟨a,dx,rfl,_⟩:=h
  rfl
 ·obtain ⟨a,dx,rfl,ha,k⟩:=h
  refine ⟨_,(ag (cH (pv 0) eO rfl)
   (ag (cH (pv 0) eO rfl)
   (ag (cH (pv 0) eO rfl)
   (aH (cH (pv 0) uM rfl))))),?_⟩
  have na:∀ d,H d = none → d ≠ a:=fun d hd z=>by rw [z,ha] at hd; cases hd
  refine ⟨fun σ G=>σ = [some (.ref a)] ∧ ∃ d0,(∀ b u,b ≠ a → H b = some u → G b = some u) ∧ G a = some (.ins c.c_Results dx [("outs",.ref d0)]) ∧ G d0 = some (.dK []) ∧ H d0 = none,?_,?_⟩
  ·refine fun d0 e=>⟨_,rfl,a,_,dx,_,rfl,aG.new e _ _ ha,T.cl_Results,T.na_Results_outs,aJ rfl,rfl,d0,fun b u nb hb=>?_,aB,?_,?_⟩
   ·rw [aI nb,aI (aL (hb) e)]; exact hb
   ·rw [aI (na _ e),aB]
   ·exact e
  rintro σ G ⟨rfl,d0,fr,ka,k0,h0⟩
  refine ⟨fun σ G=>σ = [some (.ref a)] ∧ ∃ d0 d1,(∀ b u,b ≠ a → H b = some u → G b = some u) ∧ G a = some (.ins c.c_Results dx [("outs",.ref d0),("names",.ref d1)]) ∧ G d0 = some (.dK []) ∧ H d0 = none ∧ G d1 = some (.dK []) ∧ H d1 = none ∧ d0 ≠ d1,?_,?_⟩
  ·refine fun d1 e=>⟨_,rfl,a,_,dx,_,rfl,aG.new e _ _ ka,T.cl_Results,T.na_Results_names,aJ rfl,rfl,d0,d1,fun b u nb hb=>?_,aB,?_,?_,?_,?_,?_⟩
   ·rw [aI nb,aI (aL (fr b u nb hb) e)]; exact fr b u nb hb
   ·rw [aI (na _ h0),aI (aL k0 e)]; exact k0
   ·exact h0
   ·rw [aI (na _ (show H d1 = none by
     cases q:H d1 with
     | none=>rfl
     | some u=>rw [fr d1 u (fun z=>by rw [z,ka] at e; cases e) q] at e; cases e)),aB]
   ·exact (show H d1 = none by
     cases q:H d1 with
     | none=>rfl
     | some u=>rw [fr d1 u (fun z=>by rw [z,ka] at e; cases e) q] at e; cases e)
   ·exact aL k0 e
  rintro σ G ⟨rfl,d0,d1,fr,ka,k0,h0,k1,h1,n01⟩
  refine ⟨fun σ G=>σ = [some (.ref a)] ∧ ∃ d0 d1 d2,(∀ b u,b ≠ a → H b = some u → G b = some u) ∧ G a = some (.ins c.c_Results dx [("outs",.ref d0),("names",.ref d1),("rights",.ref d2)]) ∧ G d0 = some (.dK []) ∧ H d0 = none ∧ G d1 = some (.dK []) ∧ H d1 = none ∧ G d2 = some (.dK []) ∧ H d2 = none ∧ d0 ≠ d1 ∧ d0 ≠ d2 ∧ d1 ≠ d2,?_,?_⟩
  ·refine fun d2 e=>⟨_,rfl,a,_,dx,_,rfl,aG.new e _ _ ka,T.cl_Results,T.na_Results_rights,aJ rfl,rfl,d0,d1,d2,fun b u nb hb=>?_,aB,?_,?_,?_,?_,?_,?_,?_,?_,?_⟩
   ·rw [aI nb,aI (aL (fr b u nb hb) e)]; exact fr b u nb hb
   ·rw [aI (na _ h0),aI (aL k0 e)]; exact k0
   ·exact h0
   ·rw [aI (na _ h1),aI (aL k1 e)]; exact k1
   ·exact h1
   ·rw [aI (na _ (show H d2 = none by
     cases q:H d2 with
     | none=>rfl
     | some u=>rw [fr d2 u (fun z=>by rw [z,ka] at e; cases e) q] at e; cases e)),aB]
   ·exact (show H d2 = none by
     cases q:H d2 with
     | none=>rfl
     | some u=>rw [fr d2 u (fun z=>by rw [z,ka] at e; cases e) q] at e; cases e)
   ·exact n01
   ·exact aL k0 e
   ·exact aL k1 e
  rintro σ G ⟨rfl,d0,d1,d2,fr,ka,k0,h0,k1,h1,k2,h2,n01,n02,n12⟩
  refine fun d3 e=>⟨_,rfl,a,_,dx,_,rfl,aG.new e _ _ ka,T.cl_Results,T.na_Results_holders,aJ rfl,?_⟩
  have hf:H d3 = none:=by
   cases q:H d3 with
   | none=>rfl
   | some u=>rw [fr d3 u (fun z=>by rw [z,ka] at e; cases e) q] at e; cases e
  have m3:∀ b u,b ≠ a → G b = some u → upd (upd G d3 (.dT [])) a (.ins c.c_Results dx (cF "holders" (V.ref d3) [("outs",.ref d0),("names",.ref d1),("rights",.ref d2)])) b = some u:=fun b u nb hb=>by
   rw [aI nb,aI (aL hb e)]; exact hb
  refine k ⟨a,dx,d0,d1,d2,d3⟩ _ rfl rfl (fun b u nb hb=>m3 b u nb (fr b u nb hb)) ⟨aB,m3 _ _ (na _ h0) k0,⟨_,m3 _ _ (na _ h1) k1,.nil⟩,⟨_,m3 _ _ (na _ h2) k2,.nil⟩,⟨_,?_,.nil⟩,n01,n02,n12⟩ h0 h1 h2 hf
  show upd (upd G d3 (.dT [])) a _ d3 = _
  rw [aI (na _ hf),aB]
set_option maxHeartbeats 4000000 in
theorem iH (T:Txt w K mg c):ar P w K mg base fN 3 c.a_Results_name_of c.d_Results_name_of ["self", "entry"] (uB c.c_Results c.c_Entry):=by
 refine T.Results_name_of.ok eN (fun vs H Q E h=>?_) (fun cdv A outer s H vs Q E hr h=>?_)
 ·obtain ⟨A,s,v,e,rfl,_⟩:=h
  rfl
 ·obtain ⟨A,s,v,e,rfl,rs,rok,hv,okk,k⟩:=h
  refine ⟨_,(aC (ai (aW bq (aa (pv 1) rfl) aT (aX _))
    (aH (aR (cB (aA (aa (pv 1) rfl) aD))))
    aO)
   (aC (aN (i:=2) eN.nd rfl (Or.inl rfl) (lI (bz hr) (aa (pv 0) rfl) (aa (pv 1) rfl) ⟨rfl,rfl,rfl,rfl⟩))
   (aC (ai (PW.pt (kF (cS (dR (pv 2))) (jI (aW mM (aa (pv 2) rfl) (b7 (vO T) (hr.mono (by decide)) rfl T.above.mgf T.above.kp T.above.bi .nil iD (aA (aa (pv 1) rfl) aD)) (aX _)))))
    (aH (aR ez))
    aO)
   (aH (aR (aP iZ (d4 (bz hr) (aa (pv 0) rfl) (aa (pv 2) rfl) (fun _ _=>rfl)) (cB (aA (aa (pv 1) rfl) aD)))))))),?_⟩
  have hv0:=hv
  obtain ⟨a,dx,rfl,ha⟩:=hv
  refine ⟨_,rfl,a,_,dx,_,_,rfl,ha,T.cl_Entry,T.na_Entry_rank,rfl,rfl,_,rfl,?_⟩
  refine bf (fun z=>?_) (fun z=>?_)
  ·have z:e.r = Str.ofString "genus" := V.str.inj (of_decide_eq_true z)
   refine ⟨_,rfl,a,_,dx,_,_,rfl,ha,T.cl_Entry,T.na_Entry_word,rfl,aJ rfl,fun t ht=>?_⟩
   refine k _ _ (aG.new ht) ?_
   have en:bM s.r e = some [e.w]:=by unfold bM; rw [if_pos z]
   rw [en]
   exact ⟨t,rfl,aB⟩
  have z:e.r ≠ Str.ofString "genus" := fun q=>z (decide_eq_true (congrArg V.str q))
  obtain ⟨u,hu⟩:=xl okk z
  have lu:(cm e).lookup (Str.ofString "under") = some (V.int u):=by show some (aj e.u) = _; rw [hu]; rfl
  obtain ⟨kr,hR,pR⟩:=rs.rights
  obtain ⟨kn,hN,pN⟩:=rs.names
  have en:bM s.r e = match ao s.r u with | none=>none | some x=>if x.e.r = cL e.r then some (x.nm ++ [e.w]) else none:=by
   unfold bM
   rw [if_neg z,hu]
   rfl
  refine ⟨_,rfl,A.a,_,A.dx,_,_,rfl,rs.at_,T.cl_Results,T.na_Results_rights,rfl,A.o3,rfl,.inl ⟨_,.inl hR⟩,_,rfl,a,_,dx,_,_,rfl,ha,T.cl_Entry,T.na_Entry_under,lu,_,cj.k (k:=Sum.inl u) hR,?_⟩
  rcases fS pR u with ⟨f1,f2⟩ | ⟨x,w,f1,f2,hx⟩
  ·rw [f2]
   refine ⟨_,rfl,_,rfl,bK ?_⟩
   refine k _ _ (aG.refl H) ?_
   rw [en,f1]
   rfl
  have hx0:=hx
  obtain ⟨xa,xdx,rfl,hxa⟩:=hx
  rw [f2]
  refine ⟨_,rfl,_,rfl,aq ?_⟩
  rw [f1] at en
  have en:bM s.r e = if x.e.r = cL e.r then some (x.nm ++ [e.w]) else none:=en
  refine ⟨_,rfl,xa,_,xdx,_,_,rfl,hxa,T.cl_Entry,T.na_Entry_rank,rfl,_,rfl,a,_,dx,_,_,rfl,ha,T.cl_Entry,T.na_Entry_rank,rfl,e.r,rfl,(fV okk).resolve_left z,rfl,_,rfl,?_⟩
  refine bf (fun y=>?_) (fun y=>?_)
  ·have y:x.e.r ≠ cL e.r:=fun q=>by rw [q,decide_eq_true rfl] at y; exact absurd y (by decide)
   refine k _ _ (aG.refl H) ?_
   rw [en,if_neg y]
   rfl
  have y:x.e.r = cL e.r:=V.str.inj (Decidable.of_not_not (p:=V.str x.e.r = V.str (cL e.r)) (fun q=>y (by rw [decide_eq_false q]; rfl)))
  rw [if_pos y] at en
  have hm:=(fX f1).1
  obtain ⟨nv,hnv,nt,rfl,hnt⟩:=uW pN (by rw [rok.nk]; exact rok.nd) (rok.nm x hm)
  have dp:=rok.dp x hm
  have d3:cN x.e.r ≤ 3:=by
   unfold cN
   split
   ·decide
   ·split <;> decide
  have d0:0 < cN x.e.r:=by
   unfold cN
   split
   ·decide
   ·split <;> decide
  have sz:2000 < sizeLine:=aJ rfl
  refine ⟨_,rfl,A.a,_,A.dx,_,_,rfl,rs.at_,T.cl_Results,T.na_Results_names,rfl,_,rfl,xa,_,xdx,_,_,rfl,hxa,T.cl_Entry,T.na_Entry_number,rfl,A.o2,.ref nt,rfl,?_,?_⟩
  ·rw [← hnv]
   exact cj.k (k:=Sum.inl x.e.n) hN
  refine ⟨_,rfl,a,_,dx,_,_,rfl,ha,T.cl_Entry,T.na_Entry_word,rfl,aJ rfl,fun t ht=>?_⟩
  have s1:=aG.new (o:=HO.tup [V.str e.w]) ht
  refine ⟨nt,t,x.nm.map V.str,[V.str e.w],rfl,rfl,bp.of (s1 _ _ hnt),bp.of aB,(by intro q; cases q),?_,fun q=>?_,fun _ p hp=>?_⟩
  ·rw [List.length_map,dp]
   show _ + 1 ≤ _
   omega
  ·exfalso
   have:=congrArg List.length q
   rw [List.length_map,dp] at this
   have:cN x.e.r = 0:=this
   omega
  refine k _ _ (s1.trans (aG.new hp)) ?_
  rw [en]
  exact ⟨p,rfl,by rw [aB,List.map_append]; rfl⟩
set_option maxHeartbeats 4000000 in
theorem gI (T:Txt w K mg c):ar P w K mg base fN 1 c.a_Results_outcome_of c.d_Results_outcome_of ["self", "entry", "name"] (wz c.c_Results c.c_Entry):=by
 refine T.Results_outcome_of.ok dQ (fun vs H Q E h=>?_) (fun cdv A outer s H vs Q E hr h=>?_)
 ·obtain ⟨A,s,v,e,w,nm,rfl,_⟩:=h
  rfl
 ·obtain ⟨A,s,v,e,w,nm,rfl,rs,hv,okk,hw,k⟩:=h
  refine ⟨_,(ag (ai (PW.pt (cR (cS (dR (aa (pv 1) rfl))) (bw (bh (bo (aa (pv 1) rfl))))))
    (aH (aR aT))
    aO)
   (aC (ai (cS (dR (pv 2)))
    (aH (aR aT))
    aO)
   (ag (ai (cS (eh (aa (pv 1) rfl)))
    (aC (aN (i:=3) dQ.nd rfl (Or.inl rfl) (lI (bz hr) (aa (pv 0) rfl) (aa (pv 1) rfl) ⟨rfl,rfl,rfl,rfl⟩))
   (aC (ai (PW.pt (kF (cS (dR (pv 3))) (kF (aW mM (aa (pv 3) rfl) (aa (pv 1) rfl) (aX _)) (jI (cS (eh (aa (pv 3) rfl)))))))
    (aH (aR aT))
    aO)
   (aH (ai (aW mM (aa (pv 3) rfl) (aa (pv 1) rfl) (aX _))
    (aH (aR aT))
    aO))))
    aO)
   (aC (ai (cS (qV (bz hr) (pv 2) (aa (pv 0) rfl)))
    (aH (aR aT))
    aO)
   (aH (aR aT)))))),?_⟩
  obtain ⟨a,dx,rfl,ha⟩:=hv
  obtain ⟨kr,hR,pR⟩:=rs.rights
  obtain ⟨kh,hH,pH⟩:=rs.holders
  have basef:∀ b,e.b = some b → (cm e).lookup (Str.ofString "base") = some (V.int b):=fun b hb=>by show some (aj e.b) = _; rw [hb]; rfl
  have basen:e.b = none → (cm e).lookup (Str.ofString "base") = some V.bI:=fun hb=>by show some (aj e.b) = _; rw [hb]; rfl
  refine ⟨fun σ G=>σ = [some (.ref A.a),some (.ref a),some w,none] ∧ G = H ∧ ¬ (e.b = none ∧ e.k = false),?_,?_⟩
  ·cases hb:e.b with
   | some b=>exact ⟨_,rfl,a,_,dx,_,_,rfl,ha,T.cl_Entry,T.na_Entry_base,basef b hb,_,rfl,aq ⟨rfl,rfl,fun z=>nomatch z.1⟩⟩
   | none =>
    refine ⟨_,rfl,a,_,dx,_,_,rfl,ha,T.cl_Entry,T.na_Entry_base,basen hb,_,rfl,bK ?_⟩
    refine ⟨_,rfl,a,_,dx,_,_,rfl,ha,T.cl_Entry,T.na_Entry_described,rfl,?_⟩
    cases hk:e.k with
    | true=>exact ⟨_,rfl,aq ⟨rfl,rfl,fun z=>nomatch z.2⟩⟩
    | false =>
     refine ⟨_,rfl,bK ?_⟩
     have eo:gw s.r e nm = Str.ofString "undescribed" := by unfold gw; rw [if_pos ⟨hb,hk⟩]
     rw [eo] at k
     exact k
  rintro σ G ⟨rfl,rfl,hd⟩
  cases nm with
  | none =>
   obtain rfl:w = .bI:=hw
   refine ⟨_,rfl,_,rfl,bK ?_⟩
   have eo:gw s.r e none = Str.ofString "unplaced" := by unfold gw; rw [if_neg hd]
   rw [eo] at k
   exact k
  | some z =>
   obtain ⟨t,rfl,ht⟩:=hw
   refine ⟨_,rfl,_,rfl,aq ?_⟩
   refine ⟨fun σ G'=>(∃ z3,σ = [some (.ref A.a),some (.ref a),some (.ref t),z3]) ∧ G' = G ∧ gw s.r e (some z) = eR s.r z,?_,?_⟩
   ·cases hb:e.b with
    | none =>
     refine ⟨_,rfl,a,_,dx,_,_,rfl,ha,T.cl_Entry,T.na_Entry_base,basen hb,_,rfl,aq ⟨⟨_,rfl⟩,rfl,?_⟩⟩
     unfold gw
     rw [if_neg hd,hb]
    | some b =>
     refine ⟨_,rfl,a,_,dx,_,_,rfl,ha,T.cl_Entry,T.na_Entry_base,basef b hb,_,rfl,bK ?_⟩
     have eo:gw s.r e (some z) = fL s.r e b z:=by unfold gw; rw [if_neg hd,hb]
     rw [eo] at k
     refine ⟨_,rfl,A.a,_,A.dx,_,_,rfl,rs.at_,T.cl_Results,T.na_Results_rights,rfl,A.o3,rfl,.inl ⟨_,.inl hR⟩,_,rfl,a,_,dx,_,_,rfl,ha,T.cl_Entry,T.na_Entry_base,basef b hb,_,cj.k (k:=Sum.inl b) hR,?_⟩
     rcases fS pR b with ⟨f1,f2⟩ | ⟨x,w,f1,f2,hx⟩
     ·rw [f2]
      refine ⟨_,rfl,_,rfl,bK ?_⟩
      have e2:fL s.r e b z = Str.ofString "baseless" := by unfold fL; rw [f1]
      rw [e2] at k
      exact k
     obtain ⟨xa,xdx,rfl,hxa⟩:=hx
     rw [f2]
     have e2:fL s.r e b z = if x.e.r ≠ e.r ∨ x.e.b ≠ none then Str.ofString "baseless" else if x.e.w ≠ e.w then Str.ofString "reworded" else eR s.r z:=by unfold fL; rw [f1]
     refine ⟨_,rfl,_,rfl,aq ?_⟩
     refine ⟨_,rfl,xa,_,xdx,_,_,rfl,hxa,T.cl_Entry,T.na_Entry_rank,rfl,_,rfl,a,_,dx,_,_,rfl,ha,T.cl_Entry,T.na_Entry_rank,rfl,rfl,_,rfl,?_⟩
     refine bf (fun y=>?_) (fun y=>?_)
     ·have y:x.e.r ≠ e.r:=fun q=>by rw [q,decide_eq_true rfl] at y; exact absurd y (by decide)
      rw [e2,if_pos (.inl y)] at k
      exact k
     have y:x.e.r = e.r:=V.str.inj (Decidable.of_not_not (p:=V.str x.e.r = V.str e.r) (fun q=>y (by rw [decide_eq_false q]; rfl)))
     cases hxb:x.e.b with
     | some b' =>
      have lx:(cm x.e).lookup (Str.ofString "base") = some (V.int b'):=by show some (aj x.e.b) = _; rw [hxb]; rfl
      refine ⟨_,rfl,xa,_,xdx,_,_,rfl,hxa,T.cl_Entry,T.na_Entry_base,lx,_,rfl,bK ?_⟩
      rw [e2,if_pos (.inr (by rw [hxb]; intro q; cases q))] at k
      exact k
     | none =>
      have lx:(cm x.e).lookup (Str.ofString "base") = some V.bI:=by show some (aj x.e.b) = _; rw [hxb]; rfl
      refine ⟨_,rfl,xa,_,xdx,_,_,rfl,hxa,T.cl_Entry,T.na_Entry_base,lx,_,rfl,aq ?_⟩
      have e3:¬ (x.e.r ≠ e.r ∨ x.e.b ≠ none):=fun q=>q.elim (fun q=>q y) (fun q=>q hxb)
      rw [if_neg e3] at e2
      refine ⟨_,rfl,xa,_,xdx,_,_,rfl,hxa,T.cl_Entry,T.na_Entry_word,rfl,_,rfl,a,_,dx,_,_,rfl,ha,T.cl_Entry,T.na_Entry_word,rfl,rfl,_,rfl,?_⟩
      refine bf (fun y2=>?_) (fun y2=>?_)
      ·have y2:x.e.w ≠ e.w:=fun q=>by rw [q,decide_eq_true rfl] at y2; exact absurd y2 (by decide)
       rw [e2,if_pos y2] at k
       exact k
      have y2:x.e.w = e.w:=V.str.inj (Decidable.of_not_not (p:=V.str x.e.w = V.str e.w) (fun q=>y2 (by rw [decide_eq_false q]; rfl)))
      refine ⟨⟨_,rfl⟩,rfl,?_⟩
      rw [eo,e2,if_neg (fun q=>q y2)]
   rintro σ G' ⟨⟨z3,rfl⟩,rfl,ea⟩
   rw [ea] at k
   have hk:=kJ pH z
   refine ⟨_,rfl,_,rfl,A.a,_,A.dx,_,_,rfl,rs.at_,T.cl_Results,T.na_Results_holders,rfl,A.o4,_,rfl,cj.t (k:=z.map Sum.inr) hH (by rw [kf]; exact ht),?_⟩
   rw [hk]
   unfold eR at k
   cases q:s.r.any (fun x=>decide (x.nm = z)) with
   | true =>
    rw [q,if_pos rfl] at k
    exact ⟨_,rfl,bK k⟩
   | false =>
    rw [q,if_neg (by decide)] at k
    exact ⟨_,rfl,aq k⟩
set_option maxHeartbeats 4000000 in
theorem ki (T:Txt w K mg c):ar P w K mg base fN 4 c.a_Results_put c.d_Results_put ["self", "entry"] (yJ c.c_Results c.c_Entry):=by
 refine T.Results_put.ok eU (fun vs H Q E h=>?_) (fun cdv A outer s H vs Q E hr h=>?_)
 ·obtain ⟨A,s,v,e,rfl,_⟩:=h
  rfl
 ·obtain ⟨A,s,v,e,rfl,rs,rok,hv,okk,fr,hl,k⟩:=h
  refine ⟨_,(aC (aN (i:=2) eU.nd rfl (Or.inl rfl) (nH (pv 0) T.cl_Results T.m_Results_name_of (iH T) (hr.mono (by decide)) T.bi_Results_name_of .nil ak (aA (pv 1) aD)))
   (aC (aN (i:=3) eU.nd rfl (Or.inl rfl) (nH (pv 0) T.cl_Results T.m_Results_outcome_of (gI T) (hr.mono (by decide)) T.bi_Results_outcome_of .nil ak (aA (pv 1) (aA (pv 2) aD))))
   (aC (dr (bz hr) (aa (pv 0) rfl) (aa (pv 1) rfl) (pv 3) rfl)
   (aC (dr (bz hr) (aa (pv 0) rfl) (aa (pv 1) rfl) (pv 2) rfl)
   (aC (ai (aW bq (pv 3) aT (aX _))
    (aC (dr (bz hr) (aa (pv 0) rfl) (aa (pv 1) rfl) (pv 1) rfl)
   (aH (dr (bz hr) (aa (pv 0) rfl) (pv 2) (pv 1) rfl)))
    aO)
   (aH (aR (pv 3)))))))),?_⟩
  have hv0:=hv
  obtain ⟨a,dx,rfl,ha⟩:=hv
  have sz:2000 < sizeLine:=aJ rfl
  refine ⟨_,rfl,A.a,A.dx,_,rfl,rs.at_,rfl,_,rfl,A,s,.ref a,e,rfl,rs,rok,hv0,okk,fun w G1 s1 n1=>?_⟩
  have rs1:=rs.same s1
  refine ⟨_,rfl,A.a,A.dx,_,rfl,rs1.at_,rfl,_,rfl,_,rfl,A,s,.ref a,e,w,_,rfl,rs1,hv0.same s1,okk,n1,?_⟩
  have eo:gw s.r e (bM s.r e) = dI s e:=rfl
  rw [eo]
  have ha1:=s1 _ _ ha
  have fr1:vv A H G1:=aG.B2 s1
  obtain ⟨r1,r2,⟨kn,r3,r4⟩,⟨kr,r5,r6⟩,⟨kh,r7,r8⟩,d12,d13,d23⟩:=rs1
  clear rs
  have d14:A.o1 ≠ A.o4:=ax r2 r7 (by intro z; cases z)
  have d24:A.o2 ≠ A.o4:=ax r3 r7 (by intro z; cases z)
  have d34:A.o3 ≠ A.o4:=ax r5 r7 (by intro z; cases z)
  have na1:A.a ≠ A.o1:=ax r1 r2 (by intro z; cases z)
  have na2:A.a ≠ A.o2:=ax r1 r3 (by intro z; cases z)
  have na3:A.a ≠ A.o3:=ax r1 r5 (by intro z; cases z)
  have na4:A.a ≠ A.o4:=ax r1 r7 (by intro z; cases z)
  have ne1:a ≠ A.o1:=ax ha1 r2 (by intro z; cases z)
  have ne2:a ≠ A.o2:=ax ha1 r3 (by intro z; cases z)
  have ne3:a ≠ A.o3:=ax ha1 r5 (by intro z; cases z)
  have lo:(gG s).length = s.o.length:=List.length_map ..
  have ln:kn.length = s.o.length:=by rw [← Paired.length r4,← List.length_map (f:=fun p:Int × Option (List Str)=>p.1),rok.nk,List.length_map]
  have lr:s.r.length ≤ s.o.length:=by
   have h1:(s.r.map (·.e.n)).length ≤ (s.o.map (·.1)).length:=kM rok.rn fun x hx=>by
    obtain ⟨y,hy,rfl⟩:=List.mem_map.mp hx
    exact rok.sub y hy
   rw [List.length_map,List.length_map] at h1
   exact h1
  have lkr:kr.length ≤ 1000:=by rw [← Paired.length r6]; omega
  have lkh:kh.length ≤ 1000:=by rw [← Paired.length r8]; omega
  have po:putK (gG s) (Sum.inl e.n) (.str (dI s e)) = gG (bU s e):=by
   rw [df (tY fr)]
   show _ = (s.o ++ [(e.n,dI s e)]).map _
   rw [List.map_append]
   rfl
  refine ⟨_,rfl,_,rfl,A.a,_,A.dx,_,_,rfl,r1,T.cl_Results,T.na_Results_outs,rfl,_,rfl,a,_,dx,_,_,rfl,ha1,T.cl_Entry,T.na_Entry_number,rfl,A.o1,_,rfl,iB.k (k:=Sum.inl e.n) r2 (by omega),?_⟩
  rw [po]
  have f2:∀ b u,b ≠ A.o1 → G1 b = some u → upd G1 A.o1 (.dK (gG (bU s e))) b = some u:=fun b u nb hb=>by rw [aI nb]; exact hb
  have g2:upd G1 A.o1 (.dK (gG (bU s e))) A.o1 = some (.dK (gG (bU s e))):=aB
  generalize upd G1 A.o1 (.dK (gG (bU s e))) = G2 at f2 g2 ⊢
  have nn:bF kn (Sum.inl e.n) = none:=qo r4 (by rw [rok.nk]; exact fr)
  refine ⟨_,rfl,_,rfl,A.a,_,A.dx,_,_,rfl,f2 _ _ na1 r1,T.cl_Results,T.na_Results_names,rfl,_,rfl,a,_,dx,_,_,rfl,f2 _ _ ne1 ha1,T.cl_Entry,T.na_Entry_number,rfl,A.o2,_,rfl,iB.k (k:=Sum.inl e.n) (f2 _ _ d12.symm r3) (by omega),?_⟩
  rw [df nn]
  have f3:∀ b u,b ≠ A.o1 → b ≠ A.o2 → G1 b = some u → upd G2 A.o2 (.dK (kn ++ [(Sum.inl e.n,w)])) b = some u:=fun b u n1 n2 hb=>by rw [aI n2]; exact f2 b u n1 hb
  have g3:upd G2 A.o2 (.dK (kn ++ [(Sum.inl e.n,w)])) A.o2 = some (.dK (kn ++ [(Sum.inl e.n,w)])):=aB
  have g3':upd G2 A.o2 (.dK (kn ++ [(Sum.inl e.n,w)])) A.o1 = some (.dK (gG (bU s e))):=by rw [aI d12]; exact g2
  generalize upd G2 A.o2 (.dK (kn ++ [(Sum.inl e.n,w)])) = G3 at f3 g3 g3' ⊢
  have tups:∀ G':Hp,(∀ b u,b ≠ A.o1 → b ≠ A.o2 → b ≠ A.o3 → b ≠ A.o4 → G1 b = some u → G' b = some u) → ∀ t xs,G1 t = some (.tup xs) → G' t = some (.tup xs):=fun G' h t xs ht=>h t _ (ax ht r2 (by intro z; cases z)) (ax ht r3 (by intro z; cases z)) (ax ht r5 (by intro z; cases z)) (ax ht r7 (by intro z; cases z)) ht
  have inss:∀ G':Hp,(∀ b u,b ≠ A.o1 → b ≠ A.o2 → b ≠ A.o3 → b ≠ A.o4 → G1 b = some u → G' b = some u) → ∀ t C dx fs,G1 t = some (.ins C dx fs) → G' t = some (.ins C dx fs):=fun G' h t C dx fs ht=>h t _ (ax ht r2 (by intro z; cases z)) (ax ht r3 (by intro z; cases z)) (ax ht r5 (by intro z; cases z)) (ax ht r7 (by intro z; cases z)) ht
  have names':∀ G':Hp,(∀ b u,b ≠ A.o1 → b ≠ A.o2 → b ≠ A.o3 → b ≠ A.o4 → G1 b = some u → G' b = some u) → Paired (rM G') (bU s e).n (kn ++ [(Sum.inl e.n,w)]):=fun G' h=>Paired.snoc (Paired.dn r4 fun x q z=>⟨z.1,z.2.same (tups G' h)⟩) ⟨rfl,n1.same (tups G' h)⟩
  refine ⟨_,rfl,rfl,_,rfl,?_⟩
  refine bf (fun z=>?_) (fun z=>?_)
  ·have z:dI s e = Str.ofString "right" := V.str.inj (of_decide_eq_true z)
   obtain ⟨nm,hnm,hno,_⟩:=lP z
   rw [hnm] at n1
   obtain ⟨t,rfl,ht⟩:=n1
   have er:(bU s e).r = s.r ++ [⟨e,nm⟩]:=by
    show (if dI s e = Str.ofString "right" then s.r ++ [⟨e,(bM s.r e).getD []⟩] else s.r) = _
    rw [if_pos z,hnm]
    rfl
   have nr:bF kr (Sum.inl e.n) = none:=by
    rcases fS r6 e.n with ⟨_,q⟩ | ⟨x,v,q,_⟩
    ·exact q
    ·obtain ⟨q1,q2⟩:=fX q
     exact absurd (q2 ▸ rok.sub x q1) fr
   have nh:bF kh (nm.map Sum.inr) = none:=by
    have:=kJ r8 nm
    rw [hno] at this
    cases q:bF kh (nm.map Sum.inr) with
    | none=>rfl
    | some v=>rw [q] at this; cases this
   refine ⟨_,rfl,_,rfl,A.a,_,A.dx,_,_,rfl,f3 _ _ na1 na2 r1,T.cl_Results,T.na_Results_rights,rfl,_,rfl,a,_,dx,_,_,rfl,f3 _ _ ne1 ne2 ha1,T.cl_Entry,T.na_Entry_number,rfl,A.o3,_,rfl,iB.k (k:=Sum.inl e.n) (f3 _ _ d13.symm d23.symm r5) (by omega),?_⟩
   rw [df nr]
   have f4:∀ b u,b ≠ A.o1 → b ≠ A.o2 → b ≠ A.o3 → G1 b = some u → upd G3 A.o3 (.dK (kr ++ [(Sum.inl e.n,.ref a)])) b = some u:=fun b u n1 n2 n3 hb=>by rw [aI n3]; exact f3 b u n1 n2 hb
   have g4:upd G3 A.o3 (.dK (kr ++ [(Sum.inl e.n,.ref a)])) A.o3 = some (.dK (kr ++ [(Sum.inl e.n,.ref a)])):=aB
   have g4':upd G3 A.o3 (.dK (kr ++ [(Sum.inl e.n,.ref a)])) A.o1 = some (.dK (gG (bU s e))):=by rw [aI d13]; exact g3'
   have g4'':upd G3 A.o3 (.dK (kr ++ [(Sum.inl e.n,.ref a)])) A.o2 = some (.dK (kn ++ [(Sum.inl e.n,.ref t)])):=by rw [aI d23]; exact g3
   generalize upd G3 A.o3 (.dK (kr ++ [(Sum.inl e.n,.ref a)])) = G4 at f4 g4 g4' g4'' ⊢
   have nt:∀ b xs,G1 b = some (.tup xs) → G4 b = some (.tup xs):=fun b xs hb=>f4 b _ (ax hb r2 (by intro z; cases z)) (ax hb r3 (by intro z; cases z)) (ax hb r5 (by intro z; cases z)) hb
   refine ⟨_,rfl,_,rfl,A.a,_,A.dx,_,_,rfl,f4 _ _ na1 na2 na3 r1,T.cl_Results,T.na_Results_holders,rfl,_,rfl,A.o4,_,rfl,iB.t (k:=nm.map Sum.inr) (f4 _ _ d14.symm d24.symm d34.symm r7) (by rw [kf]; exact nt _ _ ht) (by omega),?_⟩
   rw [df nh]
   have f5:∀ b u,b ≠ A.o1 → b ≠ A.o2 → b ≠ A.o3 → b ≠ A.o4 → G1 b = some u → upd G4 A.o4 (.dT (kh ++ [(nm.map Sum.inr,.ref a)])) b = some u:=fun b u n1 n2 n3 n4 hb=>by rw [aI n4]; exact f4 b u n1 n2 n3 hb
   refine ⟨_,rfl,k _ (fr1.trans f5) ⟨f5 _ _ na1 na2 na3 na4 r1,by rw [aI d14]; exact g4',⟨_,by rw [aI d24]; exact g4'',names' _ f5⟩,⟨_,by rw [aI d34]; exact g4,?_⟩,⟨_,aB,?_⟩,d12,d13,d23⟩⟩
   ·rw [er]
    exact Paired.snoc (Paired.dn r6 fun x q z=>⟨z.1,z.2.keep fun t dx fs h=>inss _ f5 t _ dx fs h⟩) ⟨rfl,a,dx,rfl,inss _ f5 _ _ _ _ ha1⟩
   ·rw [er]
    exact Paired.snoc (Paired.dn r8 fun x q z=>⟨z.1,z.2.keep fun t dx fs h=>inss _ f5 t _ dx fs h⟩) ⟨rfl,a,dx,rfl,inss _ f5 _ _ _ _ ha1⟩
  ·have z:¬ dI s e = Str.ofString "right" := fun q=>z (decide_eq_true (congrArg V.str q))
   have er:(bU s e).r = s.r:=by
    show (if dI s e = Str.ofString "right" then s.r ++ [⟨e,(bM s.r e).getD []⟩] else s.r) = _
    rw [if_neg z]
   have f5:∀ b u,b ≠ A.o1 → b ≠ A.o2 → b ≠ A.o3 → b ≠ A.o4 → G1 b = some u → G3 b = some u:=fun b u n1 n2 n3 n4 hb=>f3 b u n1 n2 hb
   refine ⟨_,rfl,k _ (fr1.trans f5) ⟨f3 _ _ na1 na2 r1,g3',⟨_,g3,names' _ f5⟩,⟨kr,f3 _ _ d13.symm d23.symm r5,?_⟩,⟨kh,f3 _ _ d14.symm d24.symm r7,?_⟩,d12,d13,d23⟩⟩
   ·rw [er]
    exact Paired.dn r6 fun x q z=>⟨z.1,z.2.keep fun t dx fs h=>inss _ f5 t _ dx fs h⟩
   ·rw [er]
    exact Paired.dn r8 fun x q z=>⟨z.1,z.2.keep fun t dx fs h=>inss _ f5 t _ dx fs h⟩
set_option maxHeartbeats 4000000 in
theorem hV (T:Txt w K mg c):ar P w K mg base fN 5 c.a_results_of c.d_results_of ["book"] (pJ c.c_Results c.c_Entry):=by
 refine T.results_of.fn.ok fD (fun vs H Q E h=>?_) (fun cdv A outer s H vs Q E hr h=>?_)
 ·obtain ⟨l,ws,es,rfl,_⟩:=h
  rfl
 ·obtain ⟨l,ws,es,rfl,hL,hE,okk,nd,hz,k⟩:=h
  refine ⟨_,(aC (aN (i:=1) fD.nd rfl (Or.inl rfl) (uO T.mk_Results (ji T) (hr.mono (by decide)) rfl T.mg_Results T.bi_Results_init .nil ak))
   (aC (cU PassesOwn.never rfl (bW (pv 0)) (aQ (i:=2) fD.nd rfl (Or.inl rfl))
    (aH (cq (nH (pv 1) T.cl_Results T.m_Results_put (ki T) (hr.mono (by decide)) T.bi_Results_put .nil ak (aA (pv 2) aD)))))
   (aH (aR (pv 1))))),?_⟩
  have sz:2000 < sizeLine:=aJ rfl
  refine fun x dx hx hdx ndx=>⟨x,dx,rfl,aB,fun A G1 ea ed f1 rs h1 h2 h3 h4=>⟨rfl,?_⟩⟩
  subst ea ed
  have up:∀ {b:Addr},upd (upd H A.dx (.own A.a)) A.a (.ins c.c_Results A.dx []) b = none → H b = none:=fun {b} hb=>by
   have nb:b ≠ A.a:=fun z=>by rw [z,aB] at hb; cases hb
   rw [aI nb] at hb
   have nd:b ≠ A.dx:=fun z=>by rw [z,aB] at hb; cases hb
   rw [aI nd] at hb
   exact hb
  have s1:aG H G1:=fun b u hb=>f1 b u (aL hb hx) (by rw [aI (aL hb hx),aI (aL hb hdx)]; exact hb)
  have e8:∀ {G G':Hp},aG H G → vv A G G' → aG H G':=fun {G G'} s f b u hb=>f b u (aL hb (up h1)) (aL hb (up h2)) (aL hb (up h3)) (aL hb (up h4)) (s b u hb)
  refine ⟨_,rfl,l,rfl,⟨_,ah.of (s1 _ _ hL)⟩,?_⟩
  refine dh (xs:=ws) (fun i σ G=>aG H G ∧ (∃ z,σ = [some (.ref l),some (.ref A.a),z]) ∧ eM G c.c_Results c.c_Entry A (aZ (es.take i))) ⟨s1,⟨_,rfl⟩,rs⟩ ?_ ?_ ?_
  ·rintro i σ G _ ⟨sG,_⟩
   exact ah.of (sG _ _ hL)
  ·rintro i v σ G hv ⟨sG,⟨z,rfl⟩,rs⟩
   have hi:i < ws.length:=(List.getElem?_eq_some_iff.mp hv).1
   have hie:i < es.length:=by rw [← hE.1]; exact hi
   have ee:es[i]? = some es[i]:=List.getElem?_eq_getElem hie
   have rok:=nU okk nd i (by omega)
   refine ⟨_,rfl,A.a,A.dx,_,rfl,rs.at_,rfl,_,rfl,A,_,v,es[i],rfl,rs,rok,(hE.2 i v _ hv ee).same sG,okk _ (List.getElem_mem hie),?_,?_,fun G' fr rs'=>?_⟩
   ·rw [dD]
    intro z
    have:=nd
    have e2:es.map (·.n) = (es.take i).map (·.n) ++ es[i].n :: (es.drop (i + 1)).map (·.n):=by
     rw [← List.map_cons,List.getElem_cons_drop,← List.map_append,List.take_append_drop]
    rw [e2,List.nodup_append] at this
    exact this.2.2 _ z _ (List.mem_cons_self ..) rfl
   ·rw [← List.length_map (f:=fun p:Int × Str=>p.1),dD,List.length_map,List.length_take]
    omega
   ·refine ⟨e8 sG fr,⟨_,rfl⟩,?_⟩
    rw [take_one ee,gp]
    exact rs'
  ·rintro σ G ⟨sG,⟨z,rfl⟩,rs⟩
   rw [hE.1,List.take_of_length_le (Nat.le_refl _)] at rs
   exact ⟨_,rfl,k A G sG rs hx (up h1) (up h2) (up h3) (up h4)⟩
set_option maxHeartbeats 4000000 in
theorem lj (T:Txt w K mg c):ar P w K mg base fN 1 c.a_can_follow c.d_can_follow ["results", "ahead_of_it", "thing"] (v5 K c.c_Results c.c_Entry c.c_Act):=by
 refine T.can_follow.fn.ok gz (fun vs H Q E h=>?_) (fun cdv A outer s H vs Q E hr h=>?_)
 ·obtain ⟨A_,s_,fl,fa,ds,th,rfl,_⟩:=h
  rfl
 ·obtain ⟨A_,s_,fl,fa,ds,th,rfl,rs,hfl,hA,hth⟩:=h
  refine ⟨_,(aC (ai (bh (bo (af cQ rfl T.no_isinstance bJ (aA (pv 2) (aA (dw (v:=.ref c.c_Act) rfl T.mg_Act rfl) aD)))))
    (aH (aR eK))
    aO)
   (ag (ai (PW.pt (cR (lV (pv 1) (fun _=>rfl)) (bw (aW pI (aa (pv 2) rfl) (aa (aY ae (pv 1) (o9 lO aE) (fun _ _=>rfl)) rfl) (aX _)))))
    (aH (aR eK))
    aO)
   (aC (aN (i:=3) gz.nd rfl (Or.inl rfl) (lI (bz hr) (aa (pv 0) rfl) (aa (pv 2) rfl) ⟨rfl,rfl,rfl,rfl⟩))
   (aH (aR (dZ (ip (eh (pv 3))) (dZ (ip (dR (aa (pv 3) rfl))) (fJ (cJ fW (aa (pv 3) rfl) (aa (pv 2) rfl) (aX _)))))))))),?_⟩
  rcases hth with ⟨⟨tn,ty,kn⟩,k⟩ | ⟨x,⟨a,dx,rfl,ha⟩,k⟩
  ·exact ⟨_,rfl,bP.BR ty kn ⟨_,rfl,bK k⟩⟩
  refine ⟨_,rfl,bP.ins ha T.cl_Act T.w_Act T.ws_Act ⟨_,rfl,aq ?_⟩⟩
  have k:Q (.bl (gi ds x && eA s_.r x)) H:=k
  have lf:=hA.1
  refine ⟨fun σ' G'=>H = G' ∧ gi ds x = true ∧ σ' = [some (.ref A_.a),some (.ref fl),some (.ref a),none],?_,?_⟩
  ·by_cases e0:fa = []
   ·subst e0
    have d0:ds = []:=List.eq_nil_of_length_eq_zero lf.symm
    subst d0
    exact ⟨_,rfl,false,.inl ⟨_,ah.of hfl,rfl⟩,aq ⟨rfl,rfl,rfl⟩⟩
   ·have dne:ds ≠ []:=fun z=>e0 (List.eq_nil_of_length_eq_zero (by rw [lf,z]; rfl))
    obtain ⟨f0,fv,rfl⟩:∃ f0 fv,fa = f0 ++ [fv]:=⟨_,_,(List.dropLast_concat_getLast e0).symm⟩
    obtain ⟨d0,dv,rfl⟩:∃ d0 dv,ds = d0 ++ [dv]:=⟨_,_,(List.dropLast_concat_getLast dne).symm⟩
    have l0:f0.length = d0.length:=by
     rw [List.length_append,List.length_append] at lf
     exact Nat.succ.inj lf
    obtain ⟨fva,fdx,rfl,hfv⟩:=hA.2 f0.length fv dv (by simp) (by rw [l0]; simp)
    have eL:gi (d0 ++ [dv]) x = decide (dv.d ≤ x.d):=by unfold gi; rw [List.getLast?_append]; rfl
    rw [eL] at k ⊢
    refine ⟨_,rfl,true,.inl ⟨_,ah.of hfl,by cases f0 <;> rfl⟩,bK ?_⟩
    refine ⟨_,rfl,a,_,dx,_,_,rfl,ha,T.cl_Act,T.na_Act_day,rfl,?_⟩
    walk_at "rd"
    refine ⟨fl,_,_,_,rfl,rfl,ah.of hfl,kS _ _,fva,_,fdx,_,_,rfl,hfv,T.cl_Act,T.na_Act_day,rfl,_,_,rfl,rfl,_,rfl,?_⟩
    refine bf (fun h=>?_) (fun h=>?_)
    ·have h:=of_decide_eq_true h
     rw [decide_eq_false (by omega)] at k
     exact k
    ·have h:¬ x.d < dv.d:=fun z=>h (decide_eq_true z)
     exact ⟨rfl,decide_eq_true (by omega),rfl⟩
  rintro σ G ⟨rfl,h1,rfl⟩
  rw [h1,Bool.true_and] at k
  unfold eA at k
  obtain ⟨kr,hR,pR⟩:=rs.rights
  refine ⟨_,rfl,A_.a,_,A_.dx,_,_,rfl,rs.at_,T.cl_Results,T.na_Results_rights,rfl,A_.o3,rfl,.inl ⟨_,.inl hR⟩,_,rfl,a,_,dx,_,_,rfl,ha,T.cl_Act,T.na_Act_number,rfl,_,cj.k (k:=Sum.inl x.n) hR,?_⟩
  rcases fS pR x.n with ⟨f1,f2⟩ | ⟨y,v,f1,f2,hy⟩
  ·rw [f2]
   rw [f1] at k
   exact ⟨_,rfl,_,rfl,aq k⟩
  ·obtain ⟨ya,ydx,rfl,hya⟩:=hy
   rw [f2]
   rw [f1] at k
   have k:Q (.bl (decide (y.e.b = none) && decide (y.e.d ≤ x.d))) H:=k
   have lb:(cm y.e).lookup (Str.ofString "base") = some (aj y.e.b):=rfl
   refine ⟨_,rfl,_,rfl,bK ?_⟩
   refine ⟨_,rfl,ya,_,ydx,_,_,rfl,hya,T.cl_Entry,T.na_Entry_base,lb,_,rfl,?_⟩
   cases hb:y.e.b with
   | some b=>rw [hb] at k; exact aq k
   | none =>
    rw [hb] at k
    refine bK ?_
    exact ⟨_,rfl,ya,_,ydx,_,_,rfl,hya,T.cl_Entry,T.na_Entry_day,rfl,_,rfl,a,_,dx,_,_,rfl,ha,T.cl_Act,T.na_Act_day,rfl,_,_,rfl,rfl,k⟩
set_option maxHeartbeats 4000000 in
theorem iM (T:Txt w K mg c):ar P w K mg base (jo P w) 3 c.a_acts_with c.d_acts_with ["results", "acts"] (qG K c.c_Results c.c_Entry c.c_Act c.c_NoAct):=by
 refine T.acts_with.fn.rX eB (fun vs H Q E h=>?_) (fun cdv A outer s H vs Q E hr h=>?_)
 ·obtain ⟨A_,s_,v,rfl,_⟩:=h
  rfl
 ·obtain ⟨A_,s_,v,rfl,rs,h0⟩:=h
  refine ⟨_,(aC (ai (bh (bo (af cQ rfl T.no_isinstance bJ (aA (pv 1) (aA (eZ (v:=.ty "list") rfl T.no_list mr rfl) aD)))))
    (aH (jR T.x_NoAct (fK T) (hr.mono (by decide)) rfl rfl T.mg_NoAct T.b_NoAct_2 nE (aA aT (aA aE aD))))
    aO)
   (aC (aN (i:=2) eB.nd rfl (Or.inl rfl) (bg aD))
   (aC (cU rW rfl (rg rfl T.no_enumerate (aA (pv 1) aD)) (hX rfl (bE (aQ (i:=3) eB.nd rfl (Or.inl rfl)) (bE (aQ (i:=4) eB.nd rfl (Or.inl rfl)) fj)))
    (aC (ai (bh (bo (aU (lj T) (hr.mono (by decide)) rfl T.can_follow.mgf T.can_follow.kp T.can_follow.bi .nil ak (aA (pv 0) (aA (pv 2) (aA (pv 4) aD))))))
    (aH (jR T.x_NoAct (fK T) (hr.mono (by decide)) rfl rfl T.mg_NoAct T.b_NoAct_2 nE (aA aT (aA (pv 3) aD))))
    aO)
   (aH (cq (m4 PySem.F.plainAttrs_list PySem.F.slot_list_append PySem.F.type_list_append (t9.r dW) (pv 2) (aA (pv 4) aD))))))
   (aH (aR (pv 2)))))),?_⟩
  have sz:2000 < sizeLine:=aJ rfl
  have key:(∃ p,p = 0 ∧ i8 K H v ∧ ∀ x H',aG H H' → H' x = some (.xd [("place",.int ((p:Nat):Int))]) → E (.ref c.c_NoAct) (some x) H') ∨ ∃ l ws ds,v = .ref l ∧ H l = some (.lst ws) ∧ ws.length ≤ 1000 ∧ cV H c.c_Act (ws.take ds.length) ds ∧ sU s_.r ds ∧ ((ds.length = ws.length ∧ ∀ q H',aG H H' → H q = none → H' q = some (.lst ws) → Q (.ref q) H') ∨ ∃ u,ws[ds.length]? = some u ∧ ud K H c.c_Act s_.r ds u ∧ ∀ x H',aG H H' → H' x = some (.xd [("place",.int (ds.length:Int))]) → E (.ref c.c_NoAct) (some x) H'):=by
   rcases h0 with ⟨ws,ds,⟨l,e,h1,h2,h3,h4⟩,k⟩ | ⟨p,⟨l,ws,ds,u,e,h1,h2,h3,h4,h5,h6⟩ | ⟨h1,h2⟩,k⟩
   ·exact .inr ⟨l,ws,ds,e,h1,h2,by rw [← h3.1,List.take_of_length_le (Nat.le_refl _)]; exact h3,h4,.inl ⟨h3.1.symm,k⟩⟩
   ·have pl:=(List.getElem?_eq_some_iff.mp h3).1
    have dl:ds.length = p:=by
     rw [← h4.1,List.length_take]
     omega
    subst dl
    exact .inr ⟨l,ws,ds,e,h1,h2,h4,h5,.inr ⟨u,h3,h6,k⟩⟩
   ·exact .inl ⟨p,h1,h2,k⟩
  rcases key with ⟨p,rfl,⟨tn,ty,kn⟩,k⟩ | ⟨l,ws,ds,rfl,hl,lws,hA,hF,h2⟩
  ·exact ⟨_,rfl,bP.ty ty kn ⟨_,rfl,bK ⟨rfl,aJ rfl,mz fun x G sG hx=>k x G sG hx⟩⟩⟩
  refine ⟨_,rfl,bP.ty (.lst hl) rfl ⟨_,rfl,aq ?_⟩⟩
  refine ⟨aJ rfl,fun q hq=>?_⟩
  have s0:=aG.new (o:=HO.lst []) hq
  have k0:=aB (H:=H) (a:=q) (o:=.lst [])
  generalize upd H q (.lst []) = G0 at s0 k0 ⊢
  refine ⟨_,rfl,l,rfl,⟨_,ah.of (s0 _ _ hl)⟩,?_⟩
  refine pq (xs:=ws) (fun i σ G=>aG H G ∧ G q = some (.lst (ws.take i)) ∧ i ≤ ds.length ∧ ∃ z3 z4,σ = [some (.ref A_.a),some (.ref l),some (.ref q),z3,z4]) ?_ ?_ ?_ ?_
  ·exact ⟨s0,k0,Nat.zero_le _,_,_,rfl⟩
  ·rintro i σ G _ ⟨sG,_⟩
   exact ah.of (sG _ _ hl)
  ·rintro i u σ G tt hu ⟨sG,hq1,hi,z3,z4,rfl⟩ htt
   have t1:=aG.new (o:=HO.tup [V.int i,u]) htt
   have k1:=aB (H:=G) (a:=tt) (o:=.tup [V.int i,u])
   have hq2:=t1 _ _ hq1
   have sG:=sG.trans t1
   generalize upd G tt (.tup [V.int i,u]) = G1 at t1 k1 hq2 sG ⊢
   have il:=(List.getElem?_eq_some_iff.mp hu).1
   refine ⟨tt,_,rfl,bp.of k1,rfl,?_⟩
   walk_at "rd"
   have part:cV H c.c_Act (ws.take i) (ds.take i):=by
    refine ⟨by rw [List.length_take,List.length_take]; omega,fun j w y h3 h4=>?_⟩
    have jl:j < i:=by
     have:=(List.getElem?_eq_some_iff.mp h3).1
     rw [List.length_take] at this
     omega
    rw [List.getElem?_take_of_lt jl] at h3 h4
    exact hA.2 j w y (by rw [List.getElem?_take_of_lt (by omega)]; exact h3) h4
   by_cases lt:i < ds.length
   ·have ed:ds[i]? = some ds[i]:=List.getElem?_eq_getElem lt
    have hx:gU H c.c_Act u ds[i]:=hA.2 i u _ (by rw [List.getElem?_take_of_lt lt]; exact hu) ed
    have fx:=hF i _ ed
    refine ⟨A_,s_,q,ws.take i,ds.take i,u,rfl,rs.same sG,hq2,part.same sG,.inr ⟨ds[i],hx.same sG,_,rfl,?_⟩⟩
    rw [fx]
    refine aq ?_
    refine ⟨_,rfl,.inl ⟨rfl,_,ah.of hq2⟩,_,rfl,q,_,_,rfl,rfl,hq2,by rw [List.length_take]; omega,bD hq sG,by rw [aB,take_one hu],by omega,_,_,rfl⟩
   ·have il2:i = ds.length:=by omega
    subst il2
    rw [List.take_of_length_le (Nat.le_refl _)] at part
    rcases h2 with ⟨e,_⟩ | ⟨u',hu',bad,k⟩
    ·omega
    rw [hu] at hu'
    cases hu'
    rcases bad with na | ⟨x,hx,fx⟩
    ·exact ⟨A_,s_,q,ws.take ds.length,ds,u,rfl,rs.same sG,hq2,part.same sG,.inl ⟨na.same sG,_,rfl,bK ⟨_,rfl,rfl,aJ rfl,mz fun x G sG' hx=>k x G (sG.trans sG') hx⟩⟩⟩
    ·refine ⟨A_,s_,q,ws.take ds.length,ds,u,rfl,rs.same sG,hq2,part.same sG,.inr ⟨x,hx.same sG,_,rfl,?_⟩⟩
     rw [fx]
     exact bK ⟨_,rfl,rfl,aJ rfl,mz fun x G sG' hx=>k x G (sG.trans sG') hx⟩
  ·rintro σ G ⟨sG,hq1,hi,z3,z4,rfl⟩
   rw [List.take_of_length_le (Nat.le_refl _)] at hq1
   rcases h2 with ⟨e,k⟩ | ⟨u,hu,_⟩
   ·exact ⟨_,rfl,k q G sG hq hq1⟩
   ·have:=(List.getElem?_eq_some_iff.mp hu).1
    omega
set_option maxHeartbeats 4000000 in
theorem oA (T:Txt w K mg c):ar P w K mg base (jo P w) 6 c.a_act_list c.d_act_list ["entries", "acts"] (sr K c.c_Entry c.c_Act c.c_NoBook c.c_NoAct):=by
 refine T.act_list.fn.rX oV (fun vs H Q E h=>?_) (fun cdv A outer s H vs Q E hr h=>?_)
 ·obtain ⟨x,v,rfl,_⟩:=h
  rfl
 ·obtain ⟨x,v,rfl,h0⟩:=h
  refine ⟨_,(aH (aR (b7 (iM T) (hr.mono (by decide)) rfl T.acts_with.mgf T.acts_with.kp T.acts_with.bi .nil cP (aA (aU (hV T) (hr.mono (by decide)) rfl T.results_of.mgf T.results_of.kp T.results_of.bi .nil ak (aA (b7 (gB T) (hr.mono (by decide)) rfl T.book_list.mgf T.book_list.kp T.book_list.bi .nil cP (aA (pv 0) aD)) aD)) (aA (pv 1) aD))))),?_⟩
  rcases h0 with ⟨bad,k⟩ | ⟨es,gb,h0⟩
  ·refine ⟨_,rfl,x,rfl,?_⟩
   rcases bad with ⟨l,ws,is,rfl,hL,hI,hz,hb⟩ | ⟨n,ty,hn⟩
   ·exact .inl ⟨l,ws,is,rfl,hL,hI,hz,fun h=>absurd (hb.symm.trans h) (by decide),fun _ G sG=>k G sG⟩
   ·exact .inr ⟨n,ty,hn,fun G sG=>k G sG⟩
  obtain ⟨l,ws,rfl,hL,hE,ok,hz,hb⟩:=gb
  obtain ⟨nd,_⟩:=i3 hb
  refine ⟨_,rfl,_,rfl,.inl ⟨l,ws,es.map some,rfl,hL,hE.au,hz,fun _ q G sG hq hq2=>?_,fun h=>absurd (hb.symm.trans h) (by decide)⟩⟩
  refine ⟨q,ws,es,rfl,hq2,hE.same sG,ok,nd,hz,fun A G' sG' rs fa f1 f2 f3 f4=>?_⟩
  have s2:=sG.trans sG'
  refine ⟨_,rfl,A,aZ es,v,rfl,rs,?_⟩
  rcases h0 with ⟨ws',ds,ga,k⟩ | ⟨p,ba,k⟩
  ·exact .inl ⟨ws',ds,ga.same s2,fun q' H' s1 f h=>k q' H' (s2.trans s1) (s2.free f) h⟩
  ·exact .inr ⟨p,ba.same s2,fun x H' s1 hx=>k x H' (s2.trans s1) hx⟩
set_option maxHeartbeats 4000000 in
theorem sP (T:Txt w K mg c):ar P w K mg base (jo P w) 7 c.a_of_day c.d_of_day ["entries", "acts", "day"] (wW K c.c_Entry c.c_Act c.c_NoBook c.c_NoAct c.c_NoDay):=by
 refine T.of_day.fn.rX jK (fun vs H Q E h=>?_) (fun cdv A outer s H vs Q E hr h=>?_)
 ·obtain ⟨x,v,dv,rfl,_⟩:=h
  rfl
 ·obtain ⟨x,v,dv,rfl,od,h0⟩:=h
  refine ⟨_,(aC (aN (i:=3) jK.nd rfl (Or.inl rfl) (b7 (gB T) (hr.mono (by decide)) rfl T.book_list.mgf T.book_list.kp T.book_list.bi .nil cP (aA (pv 0) aD)))
   (aC (aN (i:=4) jK.nd rfl (Or.inl rfl) (b7 (oA T) (hr.mono (by decide)) rfl T.act_list.mgf T.act_list.kp T.act_list.bi .nil cP (aA (pv 3) (aA (pv 1) aD))))
   (aC (cq (b7 (fA T) (hr.mono (by decide)) rfl T.refuse_day.mgf T.refuse_day.kp T.refuse_day.bi .nil cP (aA (pv 2) aD)))
   (aH (aR (cB (aA (cX (N':=["entry", "day"]) (js:=[none,some 2]) rfl rfl (by decide +kernel) (by decide +kernel) (bu ["day"] (by decide +kernel) (aM (.inl rfl) bB)) (cf rfl (aM (fun j e=>nomatch e) (aM (fun j e=>by cases e; exact ⟨rfl,rfl,.inl rfl⟩) bB))) (bW (pv 3)) (fun B=>⟨(aQ (i:=0) (show List.Nodup (["entry", "day"]:List Str) by decide +kernel) rfl (Or.inl rfl)),(cC (aW fW (aa (pv 0) rfl) (pv 1) (aX _))),(pv 0)⟩)) (aA (cX (N':=["act", "day"]) (js:=[none,some 2]) rfl rfl (by decide +kernel) (by decide +kernel) (bu ["day"] (by decide +kernel) (aM (.inl rfl) bB)) (cf rfl (aM (fun j e=>nomatch e) (aM (fun j e=>by cases e; exact ⟨rfl,rfl,.inl rfl⟩) bB))) (bW (pv 4)) (fun B=>⟨(aQ (i:=0) (show List.Nodup (["act", "day"]:List Str) by decide +kernel) rfl (Or.inl rfl)),(cC (aW fW (aa (pv 0) rfl) (pv 1) (aX _))),(pv 0)⟩)) aD)))))))),?_⟩
  have sz:2000 < sizeLine:=aJ rfl
  rcases h0 with ⟨bad,k⟩ | ⟨es,gb,h0⟩
  ·refine ⟨_,rfl,x,rfl,?_⟩
   rcases bad with ⟨l,ws,is,rfl,hL,hI,hz,hb⟩ | ⟨n,ty,hn⟩
   ·exact .inl ⟨l,ws,is,rfl,hL,hI,hz,fun h=>absurd (hb.symm.trans h) (by decide),fun _ G sG=>k G sG⟩
   ·exact .inr ⟨n,ty,hn,fun G sG=>k G sG⟩
  obtain ⟨l,ws,rfl,hL,hE,ok,hz,hb⟩:=gb
  refine ⟨_,rfl,_,rfl,.inl ⟨l,ws,es.map some,rfl,hL,hE.au,hz,fun _ q G sG hq hq2=>?_,fun h=>absurd (hb.symm.trans h) (by decide)⟩⟩
  have hE1:=hE.same sG
  refine ⟨_,rfl,_,rfl,.ref q,v,rfl,.inr ⟨es,⟨q,ws,rfl,hq2,hE1,ok,hz,hb⟩,?_⟩⟩
  rcases h0 with ⟨p,ba,k⟩ | ⟨us,ds,ga,k1,k2⟩
  ·exact .inr ⟨p,ba.same sG,fun x H' s1 hx=>k x H' (sG.trans s1) hx⟩
  refine .inl ⟨us,ds,ga.same sG,fun q2 G2 s2 fq2 hq22=>?_⟩
  have s02:=sG.trans s2
  refine ⟨_,rfl,dv,rfl,od.same s02,fun hd=>?_,fun hd=>k1 hd _ s02⟩
  obtain ⟨dy,rfl⟩:=vE hd
  obtain ⟨ul,_,_,lus,hA,_⟩:=ga
  have hE2:=hE1.same s2
  have hA2:=hA.same s02
  have hqa:=s2 _ _ hq2
  have k2:=k2 dy rfl hd
  have lw:=hE.1
  have lu:=hA.1
  clear k1 hE hE1 hA
  refine ⟨_,rfl,q,rfl,⟨_,ah.of hqa⟩,fun q3 B hq3=>?_⟩
  refine cW (xs:=ws) (fun i σ acc G=>(∃ o,σ = [o,some (.int dy)]) ∧ aG G2 G ∧ G q3 = some (.lst acc) ∧ acc.length ≤ i ∧ cg G c.c_Entry acc ((es.take i).filter fun e=>decide (e.d ≤ dy))) (by omega) ?_ ?_ ?_ ?_
  ·exact ⟨⟨_,rfl⟩,aG.new hq3,aB,Nat.zero_le _,rfl,fun j v e h=>nomatch h⟩
  ·rintro i σ acc G hi ⟨_,sG,h1,h2,_⟩
   exact ⟨h1,ah.of (sG _ _ hqa),h2⟩
  ·rintro i u σ acc G hu ⟨⟨o,rfl⟩,sG,h1,h2,h3⟩
   have hi:i < ws.length:=(List.getElem?_eq_some_iff.mp hu).1
   have ee:es[i]? = some es[i]:=List.getElem?_eq_getElem (by omega)
   have he:=(hE2.2 i u _ hu ee).same sG
   rw [take_one ee,List.filter_append]
   generalize es[i] = e at he
   have he0:=he
   obtain ⟨a,dx,rfl,ha⟩:=he
   refine ⟨_,rfl,a,_,dx,_,_,rfl,ha,T.cl_Entry,T.na_Entry_day,rfl,_,rfl,_,_,rfl,rfl,_,rfl,?_⟩
   refine bf (fun h=>?_) (fun h=>?_)
   ·rw [List.filter_cons_of_pos (p:=fun e:En=>decide (e.d ≤ dy)) h]
    have mv:∀ v y,cc G c.c_Entry v y → cc (upd G q3 (.lst (acc ++ [.ref a]))) c.c_Entry v y:=fun v y h=>h.keep fun t dx fs ht=>by rw [aI (ax ht h1 (by intro z; cases z))]; exact ht
    exact ⟨_,rfl,h1,Nx.mk hi ⟨⟨_,rfl⟩,bD hq3 sG,aB,by rw [List.length_append]; exact Nat.add_le_add_right h2 1,iU ⟨h3.1,fun j v y a b=>mv v y (h3.2 j v y a b)⟩ (mv _ _ he0)⟩⟩
   ·rw [List.filter_cons_of_neg (p:=fun e:En=>decide (e.d ≤ dy)) h,List.filter_nil,List.append_nil]
    exact Nx.mk hi ⟨⟨_,rfl⟩,sG,h1,by omega,h3⟩
  rintro σ acc3 G3 ⟨_,s3,h31,h32,h33⟩
  rw [lw,List.take_of_length_le (Nat.le_refl _)] at h33
  have hqb:=s3 _ _ hq22
  have hA3:=hA2.same s3
  refine ⟨_,rfl,q2,rfl,⟨_,ah.of hqb⟩,fun q4 B hq4=>?_⟩
  refine cW (xs:=us) (fun i σ acc G=>(∃ o,σ = [o,some (.int dy)]) ∧ aG G3 G ∧ G q4 = some (.lst acc) ∧ acc.length ≤ i ∧ cV G c.c_Act acc ((ds.take i).filter fun e=>decide (e.d ≤ dy))) (by omega) ?_ ?_ ?_ ?_
  ·exact ⟨⟨_,rfl⟩,aG.new hq4,aB,Nat.zero_le _,rfl,fun j v e h=>nomatch h⟩
  ·rintro i σ acc G hi ⟨_,sG,h1,h2,_⟩
   exact ⟨h1,ah.of (sG _ _ hqb),h2⟩
  ·rintro i u σ acc G hu ⟨⟨o,rfl⟩,sG,h1,h2,h3⟩
   have hi:i < us.length:=(List.getElem?_eq_some_iff.mp hu).1
   have ee:ds[i]? = some ds[i]:=List.getElem?_eq_getElem (by omega)
   have he:=(hA3.2 i u _ hu ee).same sG
   rw [take_one ee,List.filter_append]
   generalize ds[i] = e at he
   have he0:=he
   obtain ⟨a,dx,rfl,ha⟩:=he
   refine ⟨_,rfl,a,_,dx,_,_,rfl,ha,T.cl_Act,T.na_Act_day,rfl,_,rfl,_,_,rfl,rfl,_,rfl,?_⟩
   refine bf (fun h=>?_) (fun h=>?_)
   ·rw [List.filter_cons_of_pos (p:=fun e:Dd=>decide (e.d ≤ dy)) h]
    have mv:∀ v y,gU G c.c_Act v y → gU (upd G q4 (.lst (acc ++ [.ref a]))) c.c_Act v y:=fun v y ⟨b,db,e,h⟩=>⟨b,db,e,by rw [aI (ax h h1 (by intro z; cases z))]; exact h⟩
    exact ⟨_,rfl,h1,Nx.mk hi ⟨⟨_,rfl⟩,bD hq4 sG,aB,by rw [List.length_append]; exact Nat.add_le_add_right h2 1,iU ⟨h3.1,fun j v y a b=>mv v y (h3.2 j v y a b)⟩ (mv _ _ he0)⟩⟩
   ·rw [List.filter_cons_of_neg (p:=fun e:Dd=>decide (e.d ≤ dy)) h,List.filter_nil,List.append_nil]
    exact Nx.mk hi ⟨⟨_,rfl⟩,sG,h1,by omega,h3⟩
  rintro σ acc4 G4 ⟨_,s4,h41,h42,h43⟩
  rw [lu,List.take_of_length_le (Nat.le_refl _)] at h43
  refine ⟨aJ rfl,fun t ht=>?_⟩
  have t5:=aG.new (o:=HO.tup [V.ref q3,V.ref q4]) ht
  have s05:=s02.trans (s3.trans (s4.trans t5))
  exact k2 t q3 q4 acc3 acc4 _ s05 aB (s02.free hq3) ((s02.trans s3).free hq4) (aL h31 hq4) (t5 _ _ (s4 _ _ h31)) (h33.same (s4.trans t5)) (t5 _ _ h41) (h43.same t5)
set_option maxHeartbeats 4000000 in
theorem jm (T:Txt w K mg c):ar P w K mg base fN 1 c.a_standings_of c.d_standings_of ["results", "acts", "day"] (wF c.c_Results c.c_Entry c.c_Act):=by
 refine T.standings_of.fn.ok cp (fun vs H Q E h=>?_) (fun cdv A outer s H vs Q E hr h=>?_)
 ·obtain ⟨A_,s_,al,ws,ds,dy,rfl,_⟩:=h
  rfl
 ·obtain ⟨A_,s_,al,ws,ds,dy,rfl,rs,nd,lr1,hal,hA,hdk,hF,k⟩:=h
  refine ⟨_,(aC (aN (i:=3) cp.nd rfl (Or.inl rfl) eO)
   (aC (iP (cU PassesOwn.never rfl (xK (aa (pv 0) rfl)) (aQ (i:=4) cp.nd rfl (Or.inl rfl))
    (aH (ai (PW.pt (cR (cS (dR (aa (pv 4) rfl))) (bw (aW fW (aa (pv 4) rfl) (pv 2) (aX _)))))
    (aH (dr (bz hr) (pv 3) (aa (pv 4) rfl) aT rfl))
    aO))))
   (aC (cU PassesOwn.never rfl (bW (pv 1)) (aQ (i:=5) cp.nd rfl (Or.inl rfl))
    (aH (ai (aW fW (aa (pv 5) rfl) (pv 2) (aX _))
    (aH (dr (bz hr) (pv 3) (aa (pv 5) rfl) (aY oh (dw (v:=.ref c.u_STANDING_BY) rfl T.mg_STANDING_BY rfl) (aa (pv 5) rfl) (fun _ _=>rfl)) rfl))
    aO)))
   (aH (aR (pv 3)))))),?_⟩
  have sz:2000 < sizeLine:=aJ rfl
  obtain ⟨kr,r5,r6⟩:=rs.rights
  have lr:kr.length = s_.r.length:=(Paired.length r6).symm
  refine fun d hd=>?_
  have hD:upd H d (.dK []) d = some (.dK []):=aB
  have nd3:A_.o3 ≠ d:=aL r5 hd
  have s3:=aG.new (o:=HO.dK []) hd
  generalize upd H d (.dK []) = G1 at hD s3 ⊢
  have rs1:=rs.same s3
  refine ⟨_,rfl,A_.a,_,A_.dx,_,_,rfl,rs1.at_,T.cl_Results,T.na_Results_rights,rfl,A_.o3,kr,rfl,s3 _ _ r5,fun o nf=>?_⟩
  have g2:upd G1 A_.o3 (.frz o (.dK kr)) A_.o3 = some (.frz o (.dK kr)):=aB
  have f2:∀ b u,b ≠ A_.o3 → G1 b = some u → upd G1 A_.o3 (.frz o (.dK kr)) b = some u:=fun b u nb hb=>by rw [aI nb]; exact hb
  generalize hG2:upd G1 A_.o3 (.frz o (.dK kr)) = G2 at g2 f2 ⊢
  have inss:∀ G:Hp,(∀ b u,b ≠ d → G2 b = some u → G b = some u) → ∀ t C dx fs,G1 t = some (.ins C dx fs) → G t = some (.ins C dx fs):=fun G h t C dx fs ht=>h t _ (ax ht hD (by intro z; cases z)) (f2 t _ (ax ht (s3 _ _ r5) (by intro z; cases z)) ht)
  have r6':∀ G:Hp,(∀ b u,b ≠ d → G2 b = some u → G b = some u) → Paired (mn G c.c_Entry) s_.r kr:=fun G h=>Paired.dn r6 fun x q z=>⟨z.1,(z.2.same s3).keep fun t dx fs ht=>inss G h t _ dx fs ht⟩
  refine vB (kvs:=kr) (f:=fun p=>p.2) rfl (fun i σ G=>(∃ z4,σ = [some (.ref A_.a),some (.ref al),some (.int dy),some (.ref d),z4,none]) ∧ (∀ b u,b ≠ d → G2 b = some u → G b = some u) ∧ G d = some (.dK (a8 (s_.r.take i) [] dy))) ?_ ?_ ?_ ?_
  ·exact ⟨⟨_,rfl⟩,fun b u _ h=>h,f2 _ _ nd3.symm hD⟩
  ·rintro i σ G _ ⟨_,h,_⟩
   exact h _ _ nd3 g2
  ·rintro i p σ G hp ⟨⟨z4,rfl⟩,h,hG⟩
   have hi:i < kr.length:=(List.getElem?_eq_some_iff.mp hp).1
   obtain ⟨x,ex⟩:∃ x,s_.r[i]? = some x:=⟨_,List.getElem?_eq_getElem (by omega)⟩
   obtain ⟨p',ep,hx⟩:=eF (r6' G h) ex
   rw [hp] at ep
   cases ep
   obtain ⟨h1,a,dx,e2,ha⟩:=hx
   rw [e2]
   have nin:x.e.n ∉ (s_.r.take i).map (·.e.n):=fun z=>by
    have q:=nd
    have e4:=(List.getElem?_eq_some_iff.mp ex).2
    have e5:s_.r.map (·.e.n) = (s_.r.take i).map (·.e.n) ++ x.e.n :: (s_.r.drop (i + 1)).map (·.e.n):=by
     rw [← List.map_cons (f:=fun p:Rt=>p.e.n),← e4,List.getElem_cons_drop,← List.map_append,List.take_append_drop]
    rw [e5,List.nodup_append] at q
    exact q.2.2 _ z _ (List.mem_cons_self ..) rfl
   have sn:=qW (ds:=[]) (dy:=dy) nin
   have sl:=gZ (s_.r.take i) [] dy
   rw [List.length_take] at sl
   rw [take_one ex,qN]
   have lb:(cm x.e).lookup (Str.ofString "base") = some (aj x.e.b):=rfl
   refine ⟨_,rfl,a,_,dx,_,_,rfl,ha,T.cl_Entry,T.na_Entry_base,lb,_,rfl,?_⟩
   cases hb:x.e.b with
   | some b =>
    exact aq ⟨⟨_,rfl⟩,h,by rw [if_neg (fun q=>nomatch q.1),List.append_nil]; exact hG⟩
   | none =>
    refine bK ?_
    refine ⟨_,rfl,a,_,dx,_,_,rfl,ha,T.cl_Entry,T.na_Entry_day,rfl,_,rfl,_,_,rfl,rfl,_,rfl,?_⟩
    refine bf (fun q=>?_) (fun q=>?_)
    ·have q:x.e.d ≤ dy:=of_decide_eq_true q
     refine ⟨_,rfl,_,rfl,a,_,dx,_,_,rfl,ha,T.cl_Entry,T.na_Entry_number,rfl,d,_,rfl,iB.k (k:=Sum.inl x.e.n) hG (by omega),?_⟩
     rw [df sn]
     exact ⟨⟨_,rfl⟩,fun b u nb hb=>by rw [aI nb]; exact h b u nb hb,by rw [aB,if_pos ⟨rfl,q⟩]; rfl⟩
    ·have q:¬ x.e.d ≤ dy:=fun w=>q (decide_eq_true w)
     exact ⟨⟨_,rfl⟩,h,by rw [if_neg (fun w=>q w.2),List.append_nil]; exact hG⟩
  rintro σ G ⟨⟨z4,rfl⟩,h,hG⟩
  rw [lr,List.take_of_length_le (Nat.le_refl _)] at hG
  refine ⟨_,⟨A_.o3,o,kr,h _ _ nd3 g2,nf,rfl⟩,?_⟩
  have sH:aG H (upd G A_.o3 (.dK kr)):=fun b u hb=>by
   by_cases q:b = A_.o3
   ·rw [q,aB]; rw [q,r5] at hb; exact hb
   ·rw [aI q]
    exact h b u (aL hb hd) (f2 b u q (s3 _ _ hb))
  have hG:upd G A_.o3 (.dK kr) d = some (.dK (a8 s_.r [] dy)):=by rw [aI nd3.symm]; exact hG
  generalize upd G A_.o3 (.dK kr) = G3 at sH hG ⊢
  have hal3:=sH _ _ hal
  have hGd:=hG
  have hA3:=hA.same sH
  have lu:=hA.1
  have sl:=gZ s_.r
  refine ⟨_,rfl,al,rfl,⟨_,ah.of hal3⟩,?_⟩
  refine dh (xs:=ws) (fun i σ G=>(∃ z5,σ = [some (.ref A_.a),some (.ref al),some (.int dy),some (.ref d),z4,z5]) ∧ (∀ b u,b ≠ d → G3 b = some u → G b = some u) ∧ G d = some (.dK (a8 s_.r (ds.take i) dy))) ?_ ?_ ?_ ?_
  ·exact ⟨⟨_,rfl⟩,fun b u _ h=>h,hG⟩
  ·rintro i σ G _ ⟨_,h,_⟩
   exact ah.of (h _ _ (ax hal3 hG (by intro z; cases z)) hal3)
  ·rintro i v σ G hv ⟨⟨z5,rfl⟩,h,hG⟩
   have hi:i < ws.length:=(List.getElem?_eq_some_iff.mp hv).1
   have ed:ds[i]? = some ds[i]:=List.getElem?_eq_getElem (by omega)
   have fx:=hF i _ ed
   have dk:=hdk _ (List.mem_of_getElem? ed)
   obtain ⟨a,dx,rfl,ha⟩:=hA3.2 i v _ hv ed
   rw [take_one ed]
   generalize ds[i] = x at ha fx dk
   have ha:=h _ _ (ax ha hGd (by intro z; cases z)) ha
   have rx:eA s_.r x = true:=by
    unfold iY at fx
    rw [Bool.and_eq_true] at fx
    exact fx.2
   refine ⟨_,rfl,a,_,dx,_,_,rfl,ha,T.cl_Act,T.na_Act_day,rfl,_,rfl,_,_,rfl,rfl,_,rfl,?_⟩
   refine bf (fun q=>?_) (fun q=>?_)
   ·have q:x.d ≤ dy:=of_decide_eq_true q
    have lk:(zD).lookup x.z = some (V.str (jO x.z)):=by
     rcases lK dk with w | w | w <;> rw [w] <;> decide +kernel
    refine ⟨_,rfl,a,_,dx,_,_,rfl,ha,T.cl_Act,T.na_Act_deed,rfl,c.u_STANDING_BY,_,_,_,rfl,rfl,T.kd_STANDING_BY,lk,?_⟩
    refine ⟨_,rfl,_,rfl,a,_,dx,_,_,rfl,ha,T.cl_Act,T.na_Act_number,rfl,d,_,rfl,iB.k (k:=Sum.inl x.n) hG (by have:=sl (ds.take i) dy; omega),?_⟩
    rw [tX rx q]
    exact ⟨⟨_,rfl⟩,fun b u nb hb=>by rw [aI nb]; exact h b u nb hb,aB⟩
   ·have q:¬ x.d ≤ dy:=fun w=>q (decide_eq_true w)
    rw [qJ q]
    exact ⟨⟨_,rfl⟩,h,hG⟩
  rintro σ G ⟨⟨z5,rfl⟩,h,hG⟩
  rw [lu,List.take_of_length_le (Nat.le_refl _)] at hG
  exact ⟨_,rfl,k d G (fun b u hb=>h b u (aL hb hd) (sH _ _ hb)) hd hG⟩
set_option maxHeartbeats 4000000 in
theorem o5 (T:Txt w K mg c):ar P w K mg base fN 1 c.a_turns_of c.d_turns_of ["standing"] (wB):=by
 refine T.turns_of.fn.ok dB (fun vs H Q E h=>?_) (fun cdv A outer s H vs Q E hr h=>?_)
 ·obtain ⟨d,kvs,rfl,_⟩:=h
  rfl
 ·obtain ⟨d,kvs,rfl,hd,td,k⟩:=h
  refine ⟨_,(aC (iP (cM (i:=1) dB.nd rfl rfl (N':=["number", "standing"]) (js:=[none,some 0]) rfl rfl (by decide +kernel) (by decide +kernel) (bu ["standing"] (by decide +kernel) (aM (.inl rfl) bB)) (cf rfl (aM (fun j e=>nomatch e) (aM (fun j e=>by cases e; exact ⟨rfl,rfl,.inl rfl⟩) bB))) (gY (pv 0)) (fun B=>⟨(aQ (i:=0) (show List.Nodup (["number", "standing"]:List Str) by decide +kernel) rfl (Or.inl rfl)),(cC (aW bq (d4 (bz hr) (pv 1) (pv 0) (fun _ _=>rfl)) aT (aX _))),(pv 0)⟩)))
   (aC (iP (cM (i:=2) dB.nd rfl rfl (N':=["number", "standing"]) (js:=[none,some 0]) rfl rfl (by decide +kernel) (by decide +kernel) (bu ["standing"] (by decide +kernel) (aM (.inl rfl) bB)) (cf rfl (aM (fun j e=>nomatch e) (aM (fun j e=>by cases e; exact ⟨rfl,rfl,.inl rfl⟩) bB))) (gY (pv 0)) (fun B=>⟨(aQ (i:=0) (show List.Nodup (["number", "standing"]:List Str) by decide +kernel) rfl (Or.inl rfl)),(cC (aW bq (d4 (bz hr) (pv 1) (pv 0) (fun _ _=>rfl)) aT (aX _))),(pv 0)⟩)))
   (aC (aN (i:=3) dB.nd rfl (Or.inl rfl) eO)
   (aC (cU PassesOwn.never rfl (rg rfl T.no_enumerate (aA (aP nj (pv 1) (pv 2)) aD)) (hX rfl (bE (aQ (i:=4) dB.nd rfl (Or.inl rfl)) (bE (aQ (i:=5) dB.nd rfl (Or.inl rfl)) fj)))
    (aH (dr (bz hr) (pv 3) (pv 5) (pv 4) rfl)))
   (aH (aR (pv 3))))))),?_⟩
  have sz:2000 < sizeLine:=aJ rfl
  have l5:=td.le
  refine ⟨_,rfl,d,kvs,rfl,hd,fun o nf lc B hlc=>?_⟩
  have g1:upd H d (.frz o (.dK kvs)) d = some (.frz o (.dK kvs)):=aB
  have f1:∀ c u,c ≠ d → H c = some u → upd H d (.frz o (.dK kvs)) c = some u:=fun c u nc hc=>by rw [aI nc]; exact hc
  have bk1:∀ G,aG (upd H d (.frz o (.dK kvs))) G → aG H (upd G d (.dK kvs)):=fun G h c u hc=>by
   by_cases q:c = d
   ·rw [q,aB]; rw [q,hd] at hc; exact hc
   ·rw [aI q]; exact h c u (f1 c u q hc)
  have nlc:lc ≠ d:=fun z=>by rw [z,aB] at hlc; cases hlc
  generalize upd H d (.frz o (.dK kvs)) = G1 at g1 f1 bk1 hlc ⊢
  refine eD (kvs:=kvs) (f:=fun p=>kV p.1) rfl (fun i σ acc G=>(∃ z,σ = [z,some (.ref d)]) ∧ aG G1 G ∧ G lc = some (.lst acc) ∧ acc = (numsOf (Str.ofString "kept") (kvs.take i)).map V.int) (by omega) ?_ ?_ ?_ ?_
  ·exact ⟨⟨_,rfl⟩,aG.new hlc,aB,rfl⟩
  ·rintro i σ acc G hi ⟨_,sG,h1,h2⟩
   refine ⟨h1,sG _ _ g1,?_⟩
   have:=fU (Str.ofString "kept") (kvs.take i)
   rw [List.length_take] at this
   rw [h2,List.length_map]
   omega
  ·rintro i p σ acc G hp ⟨⟨z,rfl⟩,sG,h1,h2⟩
   have hi:i < kvs.length:=(List.getElem?_eq_some_iff.mp hp).1
   have hpm:=List.mem_of_getElem? hp
   obtain ⟨n,y,rfl⟩:=td.txt p hpm
   have vp:=gh td.nd hpm
   rw [take_one hp,gq]
   refine ⟨_,rfl,_,rfl,d,.str y,rfl,.inl ⟨kvs,Sum.inl n,.inr ⟨o,sG _ _ g1⟩,rfl,vp.symm⟩,rfl,_,rfl,?_⟩
   refine bf (fun q=>?_) (fun q=>?_)
   ·have q:=of_decide_eq_true q
    exact ⟨_,rfl,h1,Nx.mk hi ⟨⟨_,rfl⟩,bD hlc sG,aB,by rw [if_pos q,List.map_append,h2]; rfl⟩⟩
   ·have q:¬ (V.str y = V.str (Str.ofString "kept")):=fun w=>q (decide_eq_true w)
    exact Nx.mk hi ⟨⟨_,rfl⟩,sG,h1,by rw [if_neg q,List.append_nil]; exact h2⟩
  rintro σ acc G ⟨_,sG,h1,h2⟩
  rw [List.take_of_length_le (Nat.le_refl _)] at h2
  subst h2
  refine ⟨_,⟨d,o,kvs,sG _ _ g1,nf,rfl⟩,?_⟩
  have ks:=bk1 G sG
  have kh:upd G d (.dK kvs) lc = some (.lst ((numsOf (Str.ofString "kept") kvs).map V.int)):=by rw [aI nlc]; exact h1
  generalize upd G d (.dK kvs) = kG at ks kh ⊢
  clear g1 f1 bk1 hlc nlc sG h1 G G1 nf o
  have hd1:=ks _ _ hd
  rename_i lk
  refine ⟨_,rfl,d,kvs,rfl,hd1,fun o nf lc B hlc=>?_⟩
  have g1:upd kG d (.frz o (.dK kvs)) d = some (.frz o (.dK kvs)):=aB
  have f1:∀ c u,c ≠ d → kG c = some u → upd kG d (.frz o (.dK kvs)) c = some u:=fun c u nc hc=>by rw [aI nc]; exact hc
  have bk1:∀ G,aG (upd kG d (.frz o (.dK kvs))) G → aG kG (upd G d (.dK kvs)):=fun G h c u hc=>by
   by_cases q:c = d
   ·rw [q,aB]; rw [q,hd1] at hc; exact hc
   ·rw [aI q]; exact h c u (f1 c u q hc)
  have nlc:lc ≠ d:=fun z=>by rw [z,aB] at hlc; cases hlc
  generalize upd kG d (.frz o (.dK kvs)) = G1 at g1 f1 bk1 hlc ⊢
  refine eD (kvs:=kvs) (f:=fun p=>kV p.1) rfl (fun i σ acc G=>(∃ z,σ = [z,some (.ref d)]) ∧ aG G1 G ∧ G lc = some (.lst acc) ∧ acc = (numsOf (Str.ofString "plain") (kvs.take i)).map V.int) (by omega) ?_ ?_ ?_ ?_
  ·exact ⟨⟨_,rfl⟩,aG.new hlc,aB,rfl⟩
  ·rintro i σ acc G hi ⟨_,sG,h1,h2⟩
   refine ⟨h1,sG _ _ g1,?_⟩
   have:=fU (Str.ofString "plain") (kvs.take i)
   rw [List.length_take] at this
   rw [h2,List.length_map]
   omega
  ·rintro i p σ acc G hp ⟨⟨z,rfl⟩,sG,h1,h2⟩
   have hi:i < kvs.length:=(List.getElem?_eq_some_iff.mp hp).1
   have hpm:=List.mem_of_getElem? hp
   obtain ⟨n,y,rfl⟩:=td.txt p hpm
   have vp:=gh td.nd hpm
   rw [take_one hp,gq]
   refine ⟨_,rfl,_,rfl,d,.str y,rfl,.inl ⟨kvs,Sum.inl n,.inr ⟨o,sG _ _ g1⟩,rfl,vp.symm⟩,rfl,_,rfl,?_⟩
   refine bf (fun q=>?_) (fun q=>?_)
   ·have q:=of_decide_eq_true q
    exact ⟨_,rfl,h1,Nx.mk hi ⟨⟨_,rfl⟩,bD hlc sG,aB,by rw [if_pos q,List.map_append,h2]; rfl⟩⟩
   ·have q:¬ (V.str y = V.str (Str.ofString "plain")):=fun w=>q (decide_eq_true w)
    exact Nx.mk hi ⟨⟨_,rfl⟩,sG,h1,by rw [if_neg q,List.append_nil]; exact h2⟩
  rintro σ acc G ⟨_,sG,h1,h2⟩
  rw [List.take_of_length_le (Nat.le_refl _)] at h2
  subst h2
  refine ⟨_,⟨d,o,kvs,sG _ _ g1,nf,rfl⟩,?_⟩
  have ps:=bk1 G sG
  have ph:upd G d (.dK kvs) lc = some (.lst ((numsOf (Str.ofString "plain") kvs).map V.int)):=by rw [aI nlc]; exact h1
  generalize upd G d (.dK kvs) = pG at ps ph ⊢
  clear g1 f1 bk1 hlc nlc sG h1 G G1 nf o
  have kh:=ps _ _ kh
  rename_i lp
  refine fun t ht=>?_
  have t1:=aG.new (o:=HO.dK []) ht
  have kt:=aB (H:=pG) (a:=t) (o:=.dK [])
  have kh:=t1 _ _ kh
  have ph:=t1 _ _ ph
  have htH:=(ks.trans ps).free ht
  generalize upd pG t (.dK []) = G2 at t1 kt kh ph ⊢
  have n1:=fU (Str.ofString "kept") kvs
  have n2:=fU (Str.ofString "plain") kvs
  obtain ⟨L,hL⟩:∃ L:List Int,L = numsOf (Str.ofString "kept") kvs ++ numsOf (Str.ofString "plain") kvs:=⟨_,rfl⟩
  have lL:L.length ≤ 1000:=by rw [hL,List.length_append]; omega
  have sH:=(ks.trans ps).trans t1
  walk_at "rd"
  refine ⟨_,_,_,_,rfl,rfl,kh,ph,by rw [List.length_map,List.length_map]; omega,fun q3 hq3=>?_⟩
  rw [← List.map_append,← hL]
  have t3:=aG.new (o:=HO.lst (L.map V.int)) hq3
  have kq:=aB (H:=G2) (a:=q3) (o:=.lst (L.map V.int))
  have kt:=t3 _ _ kt
  have sH:=sH.trans t3
  generalize upd G2 q3 (.lst (L.map V.int)) = G3 at kq kt sH ⊢
  clear kh ph t1 t3 ks ps
  refine ⟨q3,rfl,⟨_,ah.of kq⟩,?_⟩
  have nq:q3 ≠ t:=ax kq kt (by intro z; cases z)
  refine pq (xs:=L.map V.int) (fun i σ G=>(∀ b u,b ≠ t → G3 b = some u → G b = some u) ∧ G t = some (.dK (dJ (L.take i) 0 [])) ∧ ∃ z1 z2 z4 z5,σ = [some (.ref d),z1,z2,some (.ref t),z4,z5]) ?_ ?_ ?_ ?_
  ·exact ⟨fun b u _ h=>h,kt,_,_,_,_,rfl⟩
  ·rintro i σ G _ ⟨h,_⟩
   exact ah.of (h _ _ nq kq)
  ·rintro i u σ G tt hu ⟨h,hG,z1,z2,z4,z5,rfl⟩ htt
   obtain ⟨n,hn,rfl⟩:∃ n,L[i]? = some n ∧ V.int n = u:=by
    rw [List.getElem?_map] at hu
    cases q:L[i]? with
    | none=>rw [q] at hu; cases hu
    | some n=>rw [q] at hu; exact ⟨n,rfl,Option.some.inj hu⟩
   have il:=(List.getElem?_eq_some_iff.mp hn).1
   have t4:=aG.new (o:=HO.tup [V.int i,V.int n]) htt
   have k4:=aB (H:=G) (a:=tt) (o:=.tup [V.int i,V.int n])
   have hG:=t4 _ _ hG
   have h:∀ b u,b ≠ t → G3 b = some u → upd G tt (.tup [V.int i,V.int n]) b = some u:=fun b u nb hb=>t4 _ _ (h b u nb hb)
   generalize upd G tt (.tup [V.int i,V.int n]) = G4 at k4 hG h ⊢
   have tl:=mR (L.take i) 0 []
   rw [List.length_take] at tl
   have tl2:(dJ (L.take i) 0 []).length ≤ 1000:=by
    have:([]:List (Key × V)).length = 0:=rfl
    omega
   refine ⟨tt,_,rfl,bp.of k4,rfl,?_⟩
   walk_at "rd"
   refine ⟨t,_,rfl,iB.k (k:=Sum.inl n) hG (by omega),?_⟩
   have e5:dJ (L.take (i + 1)) 0 [] = putK (dJ (L.take i) 0 []) (Sum.inl n) (.int (i:Int)):=by
    rw [take_one hn,kj,List.length_take,Nat.min_eq_left (by omega),Nat.zero_add]
   rw [e5]
   exact ⟨fun b u nb hb=>by rw [aI nb]; exact h b u nb hb,aB,_,_,_,_,rfl⟩
  rintro σ G ⟨h,hG,z1,z2,z4,z5,rfl⟩
  rw [List.length_map,List.take_of_length_le (Nat.le_refl _),hL] at hG
  exact ⟨_,rfl,k t G (fun b u hb=>h b u (aL hb htH) (sH _ _ hb)) htH hG⟩
set_option maxHeartbeats 4000000 in
theorem jM (T:Txt w K mg c):ar P w K mg base fN 2 c.a_DayBooks_init c.d_DayBooks_init ["self", "results", "acts", "day"] (tE c.c_DayBooks c.c_Results c.c_Entry c.c_Act):=by
 refine T.DayBooks_init.ok iz (fun vs H Q E h=>?_) (fun cdv A outer s H vs Q E hr h=>?_)
 ·obtain ⟨a,dx,A_,s_,al,ws,ds,dy,H0,rfl,_⟩:=h
  rfl
 ·obtain ⟨a,dx,A_,s_,al,ws,ds,dy,H0,rfl,ha,ha0,s0,rs,nd,lr1,hal,hA,hdk,hF,k⟩:=h
  refine ⟨_,(aC (cH (pv 0) (pv 1) rfl)
   (aC (cH (pv 0) (pv 3) rfl)
   (aC (cH (pv 0) (aU (jm T) (hr.mono (by decide)) rfl T.standings_of.mgf T.standings_of.kp T.standings_of.bi .nil ak (aA (pv 1) (aA (pv 2) (aA (pv 3) aD)))) rfl)
   (aH (cH (pv 0) (aU (o5 T) (hr.mono (by decide)) rfl T.turns_of.mgf T.turns_of.kp T.turns_of.bi .nil ak (aA (aa (pv 0) rfl) aD)) rfl))))),?_⟩
  have sz:2000 < sizeLine:=aJ rfl
  have up:∀ {G:Hp} {o:HO},aG H0 G → aG H0 (upd G a o):=fun {G o} s b u hb=>by rw [aI (aL hb ha0)]; exact s b u hb
  refine ⟨_,rfl,_,rfl,a,_,dx,_,rfl,ha,T.cl_DayBooks,T.na_DayBooks_results,aJ rfl,?_⟩
  refine ⟨_,rfl,_,rfl,a,_,dx,_,rfl,aB,T.cl_DayBooks,T.na_DayBooks_day,aJ rfl,?_⟩
  rw [dz]
  have s2:aG H0 (upd H a (.ins c.c_DayBooks dx (cF (Str.ofString "day") (V.int dy) (cF (Str.ofString "results") (V.ref A_.a) [])))):=up s0
  have k2:upd H a (.ins c.c_DayBooks dx (cF (Str.ofString "day") (V.int dy) (cF (Str.ofString "results") (V.ref A_.a) []))) a = some (.ins c.c_DayBooks dx (cF (Str.ofString "day") (V.int dy) (cF (Str.ofString "results") (V.ref A_.a) []))):=aB
  generalize upd H a (.ins c.c_DayBooks dx (cF (Str.ofString "day") (V.int dy) (cF (Str.ofString "results") (V.ref A_.a) []))) = G2 at s2 k2 ⊢
  refine ⟨_,rfl,_,rfl,_,rfl,A_,s_,al,ws,ds,dy,rfl,rs.same s2,nd,by omega,s2 _ _ hal,hA.same s2,hdk,hF,fun st G3 s3 fst hst=>?_⟩
  have nst:st ≠ a:=fun z=>by rw [z,k2] at fst; cases fst
  refine ⟨_,rfl,a,_,dx,_,rfl,s3 _ _ k2,T.cl_DayBooks,T.na_DayBooks_standing,aJ rfl,?_⟩
  have s4:aG H0 (upd G3 a (.ins c.c_DayBooks dx (cF (Str.ofString "standing") (V.ref st) (cF (Str.ofString "day") (V.int dy) (cF (Str.ofString "results") (V.ref A_.a) []))))):=up (s2.trans s3)
  have k4:upd G3 a (.ins c.c_DayBooks dx (cF (Str.ofString "standing") (V.ref st) (cF (Str.ofString "day") (V.int dy) (cF (Str.ofString "results") (V.ref A_.a) [])))) a = some (.ins c.c_DayBooks dx (cF (Str.ofString "standing") (V.ref st) (cF (Str.ofString "day") (V.int dy) (cF (Str.ofString "results") (V.ref A_.a) [])))):=aB
  have hst4:upd G3 a (.ins c.c_DayBooks dx (cF (Str.ofString "standing") (V.ref st) (cF (Str.ofString "day") (V.int dy) (cF (Str.ofString "results") (V.ref A_.a) [])))) st = some (.dK (a8 s_.r ds dy)):=by rw [aI nst]; exact hst
  generalize upd G3 a (.ins c.c_DayBooks dx (cF (Str.ofString "standing") (V.ref st) (cF (Str.ofString "day") (V.int dy) (cF (Str.ofString "results") (V.ref A_.a) [])))) = G4 at s4 k4 hst4 ⊢
  refine ⟨_,rfl,a,_,dx,_,_,rfl,k4,T.cl_DayBooks,T.na_DayBooks_standing,rfl,st,_,rfl,hst4,qI nd lr1 ds dy,fun tn G5 s5 ftn htn=>?_⟩
  have ntn:tn ≠ a:=fun z=>by rw [z,k4] at ftn; cases ftn
  refine ⟨_,rfl,a,_,dx,_,rfl,s5 _ _ k4,T.cl_DayBooks,T.na_DayBooks_turns,aJ rfl,?_⟩
  exact k st tn _ (up (s4.trans s5)) aB (s2.free fst) (s4.free ftn) (by rw [aI nst]; exact s5 _ _ hst4) (by rw [aI ntn]; exact htn)
set_option maxHeartbeats 4000000 in
theorem iW (T:Txt w K mg c):ar P w K mg base (jo P w) 6 c.a_day_books c.d_day_books ["entries", "acts", "day"] (qZ K c.c_DayBooks c.c_Results c.c_Entry c.c_Act c.c_NoBook c.c_NoAct c.c_NoDay):=by
 refine T.day_books.fn.rX gA (fun vs H Q E h=>?_) (fun cdv A outer s H vs Q E hr h=>?_)
 ·obtain ⟨x,v,dv,rfl,_⟩:=h
  rfl
 ·obtain ⟨x,v,dv,rfl,od,h0⟩:=h
  refine ⟨_,(aC (aN (i:=3) gA.nd rfl (Or.inl rfl) (aU (hV T) (hr.mono (by decide)) rfl T.results_of.mgf T.results_of.kp T.results_of.bi .nil ak (aA (b7 (gB T) (hr.mono (by decide)) rfl T.book_list.mgf T.book_list.kp T.book_list.bi .nil cP (aA (pv 0) aD)) aD)))
   (aC (aN (i:=4) gA.nd rfl (Or.inl rfl) (b7 (iM T) (hr.mono (by decide)) rfl T.acts_with.mgf T.acts_with.kp T.acts_with.bi .nil cP (aA (pv 3) (aA (pv 1) aD))))
   (aC (cq (b7 (fA T) (hr.mono (by decide)) rfl T.refuse_day.mgf T.refuse_day.kp T.refuse_day.bi .nil cP (aA (pv 2) aD)))
   (aH (aR (vy T.mk_DayBooks (jM T) (hr.mono (by decide)) rfl T.mg_DayBooks T.bi_DayBooks_init .nil ak (aA (pv 3) (aA (pv 4) (aA (pv 2) aD))))))))),?_⟩
  rcases h0 with ⟨bad,k⟩ | ⟨es,gb,l5,h0⟩
  ·refine ⟨_,rfl,x,rfl,?_⟩
   rcases bad with ⟨l,ws,is,rfl,hL,hI,hz,hb⟩ | ⟨n,ty,hn⟩
   ·exact .inl ⟨l,ws,is,rfl,hL,hI,hz,fun h=>absurd (hb.symm.trans h) (by decide),fun _ G sG=>k G sG⟩
   ·exact .inr ⟨n,ty,hn,fun G sG=>k G sG⟩
  obtain ⟨l,ws,rfl,hL,hE,ok,hz,hb⟩:=gb
  obtain ⟨nd,_⟩:=i3 hb
  refine ⟨_,rfl,_,rfl,.inl ⟨l,ws,es.map some,rfl,hL,hE.au,hz,fun _ q G sG hq hq2=>?_,fun h=>absurd (hb.symm.trans h) (by decide)⟩⟩
  refine ⟨q,ws,es,rfl,hq2,hE.same sG,ok,nd,hz,fun A G' sG' rs fa f1 f2 f3 f4=>?_⟩
  have s2:=sG.trans sG'
  have rok:=gO ok nd
  have lr:(aZ es).r.length ≤ es.length:=by
   have h1:((aZ es).r.map (·.e.n)).length ≤ ((aZ es).o.map (·.1)).length:=kM rok.rn fun x hx=>by
    obtain ⟨y,hy,rfl⟩:=List.mem_map.mp hx
    exact rok.sub y hy
   rw [dD,List.length_map,List.length_map] at h1
   exact h1
  refine ⟨_,rfl,_,rfl,A,aZ es,v,rfl,rs,?_⟩
  rcases h0 with ⟨p,ba,k⟩ | ⟨us,ds,ga,hdk,k1,k2⟩
  ·exact .inr ⟨p,ba.same s2,fun x H' s1 hx=>k x H' (s2.trans s1) hx⟩
  refine .inl ⟨us,ds,ga.same s2,fun q2 G2 s3 fq2 hq22=>?_⟩
  have s03:=s2.trans s3
  refine ⟨_,rfl,dv,rfl,od.same s03,fun hd=>?_,fun hd=>k1 hd _ s03⟩
  obtain ⟨dy,rfl⟩:=vE hd
  obtain ⟨ul,_,_,lus,hA,hF⟩:=ga
  refine ⟨_,rfl,_,rfl,_,rfl,fun xa dx hxa hdx ne=>?_⟩
  refine ⟨xa,dx,A,aZ es,q2,us,ds,dy,G2,rfl,aB,hxa,aG.made hxa hdx ne,rs.same s3,rok.rn,by omega,hq22,hA.same s03,hdk,hF,fun st tn G4 s4 ha4 fst ftn hst htn=>?_⟩
  exact ⟨rfl,k2 dy rfl hd xa dx A st tn G4 (s03.trans s4) (s03.free hxa) ha4 ((rs.same s3).same s4) (s03.free fst) (s03.free ftn) hst htn (let ⟨_,h,_⟩:=(rs.same s3).rights; aL h ftn)⟩
set_option maxHeartbeats 4000000 in
theorem nY (T:Txt w K mg c):ar P w K mg base (jo P w) 7 c.a_standings c.d_standings ["entries", "acts", "day"] (oB K c.c_Entry c.c_Act c.c_NoBook c.c_NoAct c.c_NoDay):=by
 refine T.standings.fn.rX nI (fun vs H Q E h=>?_) (fun cdv A outer s H vs Q E hr h=>?_)
 ·obtain ⟨x,v,dv,rfl,_⟩:=h
  rfl
 ·obtain ⟨x,v,dv,rfl,od,h0⟩:=h
  refine ⟨_,(aH (aR (aa (b7 (iW T) (hr.mono (by decide)) rfl T.day_books.mgf T.day_books.kp T.day_books.bi .nil cP (aA (pv 0) (aA (pv 1) (aA (pv 2) aD)))) rfl))),?_⟩
  refine ⟨_,rfl,_,rfl,_,rfl,x,v,dv,rfl,od,?_⟩
  rcases h0 with h | ⟨es,gb,l5,h | ⟨us,ds,ga,hdk,k1,k2⟩⟩
  ·exact .inl h
  ·exact .inr ⟨es,gb,l5,.inl h⟩
  refine .inr ⟨es,gb,l5,.inr ⟨us,ds,ga,hdk,k1,fun dy e hd a dx A st tn G sG fa ha rs fst ftn hst htn _=>?_⟩⟩
  exact ⟨a,_,dx,_,_,rfl,ha,T.cl_DayBooks,T.na_DayBooks_standing,rfl,k2 dy e hd st G sG fst hst⟩
set_option maxHeartbeats 4000000 in
theorem o7 (T:Txt w K mg c):ar P w K mg base (jo P w) 7 c.a_in_order c.d_in_order ["entries", "acts", "day", "rank"] (xJ K c.c_Entry c.c_Act c.c_NoBook c.c_NoAct c.c_NoDay c.c_NoRank):=by
 refine T.in_order.fn.rX j5 (fun vs H Q E h=>?_) (fun cdv A outer s H vs Q E hr h=>?_)
 ·obtain ⟨x,v,dv,rv,rfl,_⟩:=h
  rfl
 ·obtain ⟨x,v,dv,rv,rfl,od,orv,h0⟩:=h
  refine ⟨_,(aC (aN (i:=4) j5.nd rfl (Or.inr rfl) (b7 (iW T) (hr.mono (by decide)) rfl T.day_books.mgf T.day_books.kp T.day_books.bi .nil cP (aA (pv 0) (aA (pv 1) (aA (pv 2) aD)))))
   (aC (ai (bh (bo (aU (hZ T) (hr.mono (by decide)) rfl T.is_rank.mgf T.is_rank.kp T.is_rank.bi .nil ak (aA (pv 3) aD))))
    (aH (cE T.x_NoRank rfl rfl T.mg_NoRank dS (aA aT aD)))
    aO)
   (aH (aR (sC (cX (N':=["number", "rank", "books"]) (js:=[none,some 3,some 4]) rfl rfl (by decide +kernel) (by decide +kernel) (bu ["rank", "books"] (by decide +kernel) (aM (.inl rfl) (aM (.inl rfl) bB))) (cf rfl (aM (fun j e=>nomatch e) (aM (fun j e=>by cases e; exact ⟨rfl,rfl,.inl rfl⟩) (aM (fun j e=>by cases e; exact ⟨rfl,rfl,.inl rfl⟩) bB)))) (gY (aa (pv 4) rfl)) (fun B=>⟨(aQ (i:=0) (show List.Nodup (["number", "rank", "books"]:List Str) by decide +kernel) rfl (Or.inl rfl)),(cC (aW bq (aa (d4 (bz hr) (aa (aa (pv 2) rfl) rfl) (pv 0) (fun _ _=>rfl)) rfl) (pv 1) (aX _))),(pv 0)⟩))))))),?_⟩
  refine ⟨_,rfl,_,rfl,_,rfl,x,v,dv,rfl,od,?_⟩
  rcases h0 with h | ⟨es,gb,l5,h | ⟨us,ds,ga,hdk,k1,k2⟩⟩
  ·exact .inl h
  ·exact .inr ⟨es,gb,l5,.inl h⟩
  refine .inr ⟨es,gb,l5,.inr ⟨us,ds,ga,hdk,k1,fun dy e hd a dx A st tn G sG fa ha rs fst ftn hst htn no3=>?_⟩⟩
  obtain ⟨k2,k3⟩:=k2 dy e hd
  refine ⟨_,rfl,rv,rfl,orv.same sG,?_⟩
  cases hrk:cw rv with
  | false=>exact ⟨_,rfl,bK ⟨aJ rfl,k2 hrk G sG⟩⟩
  | true =>
   refine ⟨_,rfl,aq ?_⟩
   obtain ⟨rk,rfl⟩:=uP hrk
   have k:=k3 rk rfl hrk
   have sz:2000 < sizeLine:=aJ rfl
   obtain ⟨_,_,_,_,_,okk,_,bk⟩:=gb
   have rok:=gO okk (i3 bk).1
   have nd:=rok.rn
   have lr:(aZ es).r.length ≤ es.length:=by
    have h1:((aZ es).r.map (·.e.n)).length ≤ ((aZ es).o.map (·.1)).length:=kM rok.rn fun x hx=>by
     obtain ⟨y,hy,rfl⟩:=List.mem_map.mp hx
     exact rok.sub y hy
    rw [dD,List.length_map,List.length_map] at h1
    exact h1
   rw [pL nd hdk] at htn
   have lL:=uk (aZ es).r ds dy
   obtain ⟨kr,hR,pR⟩:=rs.rights
   have hA:=rs.at_
   generalize hL:gR (aZ es).r ds dy = L at lL htn
   have oL:cD (aZ es).r ds dy rk = L.filter (bY (aZ es).r rk):=by rw [← hL]; rfl
   have mL:∀ n ∈ L,∃ x,ao (aZ es).r n = some x:=fun n hn=>by
    rw [← hL] at hn
    obtain ⟨x,_,h⟩:=oz nd (rY hn)
    exact ⟨x,h⟩
   refine ⟨_,rfl,a,_,dx,_,_,rfl,ha,T.cl_DayBooks,T.na_DayBooks_turns,rfl,tn,_,rfl,htn,fun o nf lc B hlc=>?_⟩
   have g1:upd G tn (.frz o (.dK (numbered L 0))) tn = some (.frz o (.dK (numbered L 0))):=aB
   have f1:∀ c u,c ≠ tn → G c = some u → upd G tn (.frz o (.dK (numbered L 0))) c = some u:=fun c u nc hc=>by rw [aI nc]; exact hc
   have bk1:∀ G',aG (upd G tn (.frz o (.dK (numbered L 0)))) G' → aG G (upd G' tn (.dK (numbered L 0))):=fun G' h c u hc=>by
    by_cases q:c = tn
    ·rw [q,aB]; rw [q,htn] at hc; exact hc
    ·rw [aI q]; exact h c u (f1 c u q hc)
   have nlc:lc ≠ tn:=fun z=>by rw [z,aB] at hlc; cases hlc
   have flc:G lc = none:=by rw [aI nlc] at hlc; exact hlc
   have ha1:=f1 _ _ (ax ha htn (by intro z; cases z)) ha
   have hA1:=f1 _ _ (ax hA htn (by intro z; cases z)) hA
   have hR1:=f1 _ _ no3 hR
   have pR1:Paired (mn (upd G tn (.frz o (.dK (numbered L 0)))) c.c_Entry) (aZ es).r kr:=Paired.dn pR fun x q z=>⟨z.1,z.2.keep fun t dx fs ht=>f1 _ _ (ax ht htn (by intro z; cases z)) ht⟩
   generalize upd G tn (.frz o (.dK (numbered L 0))) = G1 at g1 f1 bk1 hlc ha1 hA1 hR1 pR1 ⊢
   refine eD (kvs:=numbered L 0) (f:=fun p=>kV p.1) rfl (fun i σ acc G=>(∃ z,σ = [z,some (.str rk),some (.ref a)]) ∧ aG G1 G ∧ G lc = some (.lst acc) ∧ acc = ((L.take i).filter (bY (aZ es).r rk)).map V.int) (by rw [pU]; omega) ?_ ?_ ?_ ?_
   ·exact ⟨⟨_,rfl⟩,aG.new hlc,aB,rfl⟩
   ·rintro i σ acc G hi ⟨_,sG,h1,h2⟩
    refine ⟨h1,sG _ _ g1,?_⟩
    rw [h2,List.length_map]
    exact Nat.le_trans (List.length_filter_le ..) (by rw [List.length_take]; omega)
   ·rintro i p σ acc G2 hp ⟨⟨z,rfl⟩,sG2,h1,h2⟩
    have hi:i < (numbered L 0).length:=(List.getElem?_eq_some_iff.mp hp).1
    rw [rL] at hp
    cases hn:L[i]? with
    | none=>rw [hn] at hp; cases hp
    | some n =>
     rw [hn] at hp
     cases hp
     obtain ⟨y,hy⟩:=mL n (List.mem_of_getElem? hn)
     rcases fS pR1 n with ⟨c1,_⟩ | ⟨y',u,c1,c2,c3⟩
     ·rw [hy] at c1; cases c1
     rw [hy] at c1
     cases c1
     obtain ⟨ea,edx,rfl,hea⟩:=c3
     have dg:cj G2 A.o3 (.int n) (some (.ref ea)):=by rw [← c2]; exact cj.k (k:=Sum.inl n) (sG2 _ _ hR1)
     have fr:bY (aZ es).r rk n = decide (V.str y.e.r = V.str rk):=by unfold bY; rw [hy]
     rw [take_one hn,List.filter_append]
     refine ⟨_,rfl,a,_,dx,_,_,rfl,sG2 _ _ ha1,T.cl_DayBooks,T.na_DayBooks_results,rfl,A.a,_,A.dx,_,_,rfl,sG2 _ _ hA1,T.cl_Results,T.na_Results_rights,rfl,_,rfl,A.o3,_,rfl,dg,ea,_,edx,_,_,rfl,sG2 _ _ hea,T.cl_Entry,T.na_Entry_rank,rfl,_,rfl,rfl,_,rfl,?_⟩
     refine bf (fun q=>?_) (fun q=>?_)
     ·exact ⟨_,rfl,h1,Nx.mk hi ⟨⟨_,rfl⟩,bD hlc sG2,aB,by rw [List.filter_cons_of_pos (by rw [fr]; exact q),List.map_append,h2]; rfl⟩⟩
     ·exact Nx.mk hi ⟨⟨_,rfl⟩,sG2,h1,by rw [List.filter_cons_of_neg (by rw [fr]; exact q),List.filter_nil,List.append_nil]; exact h2⟩
   rintro σ acc G2 ⟨_,sG2,h1,h2⟩
   rw [pU,List.take_of_length_le (Nat.le_refl _),← oL] at h2
   subst h2
   exact ⟨_,⟨tn,o,_,sG2 _ _ g1,nf,rfl⟩,k lc _ (sG.trans (bk1 G2 sG2)) (sG.free flc) (by rw [aI nlc]; exact h1)⟩
set_option maxHeartbeats 4000000 in
theorem wV (T:Txt w K mg c):ar P w K mg base fN 1 c.a_Lday c.d_Lday ["_law_rows_here", "_law_deeds_here", "_law_draw_here"] (zJ):=by
 refine T.Lday.fn.ok rK (fun vs H Q E h=>?_) (fun cdv A outer s H vs Q E hr h=>?_)
 ·obtain ⟨l,ws,es,dl,us,ds,r,rfl,_⟩:=h
  rfl
 ·obtain ⟨l,ws,es,dl,us,ds,r,rfl,hL,hR,l84,hdl,hD,d84,r0,k⟩:=h
  refine ⟨_,(ag (aN (i:=3) rK.nd rfl (Or.inl rfl) (aP nj (aP nj (cX (N':=["_law_row_here"]) (js:=[none]) rfl rfl (by decide +kernel) (by decide +kernel) (fR (by decide +kernel)) (gj rfl rfl) (bW (pv 0)) (fun B=>⟨(aQ (i:=0) (show List.Nodup (["_law_row_here"]:List Str) by decide +kernel) rfl (Or.inl rfl)),dO,(aY bC (pv 0) aE (fun _ _=>rfl))⟩)) (cX (N':=["_law_deed"]) (js:=[none]) rfl rfl (by decide +kernel) (by decide +kernel) (fR (by decide +kernel)) (gj rfl rfl) (bW (pv 1)) (fun B=>⟨(aQ (i:=0) (show List.Nodup (["_law_deed"]:List Str) by decide +kernel) rfl (Or.inl rfl)),dO,(aY bC (pv 0) aE (fun _ _=>rfl))⟩))) (bg (aA aE aD))))
   (aH (aR (af (mO rfl) rfl T.no_max u9 (aA aE (aA (af (tJ rfl) rfl T.no_min yw (aA (aP mm aE aE) (aA (aP bj (aY ae (pv 3) (aP av (aP dq (pv 2) aE) (af bG rfl T.no_len dY (aA (pv 3) aD))) (fun _ _=>rfl)) (aY ae (bg (aA aE (aA aE (aA (o9 lO aE) (aA aE aD))))) (aP av (pv 2) aE) (fun _ _=>rfl))) aD))) aD)))))),?_⟩
  have sz:2000 < sizeLine:=aJ rfl
  have lw:=hR.1
  have lu:=hD.1
  refine ⟨fun σ' G'=>aG H G' ∧ ∃ sl,∃ ms:List Int,G' sl = some (.lst (ms.map V.int)) ∧ ms ≠ [] ∧ ms.length ≤ 200 ∧ σ' = [some (.ref l),some (.ref dl),some (.int r),some (.ref sl)],?_,?_⟩
  ·refine ⟨_,rfl,l,rfl,⟨_,ah.of hL⟩,fun q1 B hq1=>?_⟩
   refine cW (xs:=ws) (fun i σ acc G=>(∃ o,σ = [o]) ∧ aG H G ∧ G q1 = some (.lst acc) ∧ acc.length = i ∧ ∃ ms:List Int,acc = ms.map V.int) (by omega) ?_ ?_ ?_ ?_
   ·exact ⟨⟨_,rfl⟩,aG.new hq1,aB,rfl,[],rfl⟩
   ·rintro i σ acc G hi ⟨_,sG,h1,h2,_⟩
    exact ⟨h1,ah.of (sG _ _ hL),by omega⟩
   ·rintro i v σ acc G hv ⟨⟨o,rfl⟩,sG,h1,h2,ms,rfl⟩
    have hi:i < ws.length:=(List.getElem?_eq_some_iff.mp hv).1
    have ee:es[i]? = some es[i]:=List.getElem?_eq_getElem (by omega)
    obtain ⟨ra,rfl,hrow⟩:=hR.2 i v _ hv ee
    have f1:eW (cY es[i]) 1 = some (.int es[i].d):=a9 (j:=1) rfl
    exact ⟨_,rfl,ra,_,_,_,rfl,rfl,bp.of (sG _ _ hrow),f1,h1,Nx.mk hi ⟨⟨_,rfl⟩,bD hq1 sG,aB,by rw [List.length_append,h2]; rfl,ms ++ [es[i].d],by rw [List.map_append]; rfl⟩⟩
   rintro σ acc1 G1 ⟨_,s1,h11,h12,ms1,rfl⟩
   have hDl:=s1 _ _ hdl
   have hD1:=hD.same s1
   refine ⟨_,rfl,dl,rfl,⟨_,ah.of hDl⟩,fun q2 B hq2=>?_⟩
   refine cW (xs:=us) (fun i σ acc G=>(∃ o,σ = [o]) ∧ aG G1 G ∧ G q2 = some (.lst acc) ∧ acc.length = i ∧ ∃ ms:List Int,acc = ms.map V.int) (by omega) ?_ ?_ ?_ ?_
   ·exact ⟨⟨_,rfl⟩,aG.new hq2,aB,rfl,[],rfl⟩
   ·rintro i σ acc G hi ⟨_,sG,h1,h2,_⟩
    exact ⟨h1,ah.of (sG _ _ hDl),by omega⟩
   ·rintro i v σ acc G hv ⟨⟨o,rfl⟩,sG,h1,h2,ms,rfl⟩
    have hi:i < us.length:=(List.getElem?_eq_some_iff.mp hv).1
    have ee:ds[i]? = some ds[i]:=List.getElem?_eq_getElem (by omega)
    obtain ⟨ra,rfl,hrow⟩:=hD1.2 i v _ hv ee
    have f1:eW (vm ds[i]) 0 = some (.int ds[i].d):=a9 (j:=0) rfl
    exact ⟨_,rfl,ra,_,_,_,rfl,rfl,bp.of (sG _ _ hrow),f1,h1,Nx.mk hi ⟨⟨_,rfl⟩,bD hq2 sG,aB,by rw [List.length_append,h2]; rfl,ms ++ [ds[i].d],by rw [List.map_append]; rfl⟩⟩
   rintro σ acc2 G2 ⟨_,s2,h21,h22,ms2,rfl⟩
   rw [List.length_map] at h12 h22
   refine ⟨q1,q2,_,_,rfl,rfl,s2 _ _ h11,h21,by rw [List.length_map,List.length_map]; omega,fun q3 hq3=>?_⟩
   have t3:=aG.new (o:=HO.lst (ms1.map V.int ++ ms2.map V.int)) hq3
   refine ⟨aJ rfl,fun q4 hq4=>?_⟩
   have t4:=aG.new (o:=HO.lst [V.int 1]) hq4
   refine ⟨q3,q4,_,_,rfl,rfl,t4 _ _ aB,aB,by rw [List.length_append,List.length_map,List.length_map]; show _ + 1 ≤ _; omega,fun q5 hq5=>?_⟩
   refine ⟨s1.trans (s2.trans (t3.trans (t4.trans (aG.new hq5)))),q5,ms1 ++ ms2 ++ [1],by rw [aB,List.map_append,List.map_append]; rfl,by simp,by rw [List.length_append,List.length_append]; show _ + 1 ≤ _; omega,rfl⟩
  rintro σ G1 ⟨s1,sl,ms,hsl,mne,lms,rfl⟩
  have p6:(10:Int) ^ (6:Int).toNat = 1000000:=by decide
  have mp:0 < (ms.map V.int).length:=List.length_pos_iff.mpr fun z=>mne (List.map_eq_nil_iff.mp z)
  walk_at "rd"
  refine ⟨sl,_,rfl,.inl (ah.of hsl),?_⟩
  walk_at "rd"
  refine ⟨by show (0:Int) < (ms.map V.int).length; omega,?_⟩
  obtain ⟨v,hv,hm⟩:=cx (xs:=ms.map V.int) (i:=r / 4 % ((ms.map V.int).length:Int)) (Int.emod_nonneg _ (by omega)) (Int.emod_lt_of_pos _ (by omega))
  obtain ⟨m,_,rfl⟩:=List.mem_map.mp hm
  refine ⟨sl,_,_,_,rfl,rfl,ah.of hsl,hv,?_⟩
  walk_at "rd"
  refine ⟨aJ rfl,fun q2 hq2=>?_⟩
  walk_at "rd"
  obtain ⟨v,hv,hm⟩:=cx (xs:=[V.int 0,V.int 0,V.int (-1),V.int 1]) (i:=r % 4) (Int.emod_nonneg _ (by decide)) (by show _ < (4:Int); exact Int.emod_lt_of_pos _ (by decide))
  obtain ⟨m2,rfl⟩:∃ m:Int,v = .int m:=by
   simp only [List.mem_cons,List.not_mem_nil,or_false] at hm
   rcases hm with rfl | rfl | rfl | rfl <;> exact ⟨_,rfl⟩
  refine ⟨q2,_,_,_,rfl,rfl,ah.of aB,hv,?_⟩
  walk_at "rd"
  first | (refine k _ _ (s1.trans (aG.new hq2)) ?_ ?_ <;> (rw [p6]; split <;> split <;> omega)) | trace_state
set_option maxHeartbeats 4000000 in
theorem jz (T:Txt w K mg c):ar P w K mg base fN 8 c.a_Lall c.d_Lall ["_law_entries_here", "_law_acts_here", "_law_day_here"] (zH c.c_Entry c.c_Act):=by
 refine T.Lall.fn.ok nC (fun vs H Q E h=>?_) (fun cdv A outer s H vs Q E hr h=>?_)
 ·obtain ⟨b,v,dy,es,us,ds,rfl,_⟩:=h
  rfl
 ·obtain ⟨b,v,dy,es,us,ds,rfl,gb,l84,ga,hdk,d1,d2,k⟩:=h
  refine ⟨_,(aC (aN (i:=3) nC.nd rfl (Or.inl rfl) (bg (aA (b7 (nY T) (hr.mono (by decide)) rfl T.standings.mgf T.standings.kp T.standings.bi .nil iD (aA (pv 0) (aA (pv 1) (aA (pv 2) aD)))) aD)))
   (aC (cU PassesOwn.never rfl (bW (bg (aA aT (aA aT (aA aT aD))))) (aQ (i:=4) nC.nd rfl (Or.inl rfl))
    (aH (cq (m4 PySem.F.plainAttrs_list PySem.F.slot_list_append PySem.F.type_list_append (t9.r dW) (pv 3) (aA (b7 (o7 T) (hr.mono (by decide)) rfl T.in_order.mgf T.in_order.kp T.in_order.bi .nil iD (aA (pv 0) (aA (pv 1) (aA (pv 2) (aA (pv 4) aD))))) aD)))))
   (aH (aR (pv 3))))),?_⟩
  have sz:2000 < sizeLine:=aJ rfl
  have hi:inR 1000000 (V.int dy) = true:=fB d1 d2
  refine ⟨_,rfl,_,rfl,_,rfl,b,v,.int dy,rfl,Own.int,.inr ⟨es,gb,by omega,.inr ⟨us,ds,ga,hdk,fun h=>absurd (hi.symm.trans h) (by decide),fun dy' e _ d G1 s1 fd hd=>?_⟩⟩⟩
  cases e
  refine ⟨aJ rfl,fun q hq=>?_⟩
  have t1:=aG.new (o:=HO.lst [V.ref d]) hq
  have kq:=aB (H:=G1) (a:=q) (o:=.lst [V.ref d])
  have fq:H q = none:=s1.free hq
  have ndq:d ≠ q:=aL hd hq
  have s2:=s1.trans t1
  have hd:=t1 _ _ hd
  generalize upd G1 q (.lst [V.ref d]) = G2 at t1 kq s2 hd ⊢
  refine ⟨aJ rfl,fun rl hrl=>?_⟩
  have t2:=aG.new (o:=HO.lst (dF.map V.str)) hrl
  have krl:=aB (H:=G2) (a:=rl) (o:=.lst (dF.map V.str))
  have nrq:rl ≠ q:=fun z=>by rw [z,kq] at hrl; cases hrl
  have s3:=s2.trans t2
  have hd:=t2 _ _ hd
  have kq:=t2 _ _ kq
  have eG:upd G2 rl (.lst [V.str (Str.ofString "genus"),V.str (Str.ofString "species"),V.str (Str.ofString "form")]) = upd G2 rl (.lst (dF.map V.str)):=rfl
  rw [eG]
  generalize upd G2 rl (.lst (dF.map V.str)) = G3 at krl s3 hd kq ⊢
  refine ⟨rl,rfl,⟨_,ah.of krl⟩,?_⟩
  refine dh (xs:=dF.map V.str) (fun i σ G=>(∃ z4,σ = [some b,some v,some (.int dy),some (.ref q),z4]) ∧ (∀ b u,b ≠ q → G3 b = some u → G b = some u) ∧ ∃ os:List Addr,os.length = i ∧ G q = some (.lst (.ref d :: os.map V.ref)) ∧ ∀ (j:Nat) o rk,os[j]? = some o → dF[j]? = some rk → o ≠ q ∧ G o = some (.lst ((cD (aZ es).r ds dy rk).map V.int))) ?_ ?_ ?_ ?_
  ·exact ⟨⟨_,rfl⟩,fun b u _ h=>h,[],rfl,kq,fun j o rk h=>nomatch h⟩
  ·rintro i σ G hi ⟨_,fr,_⟩
   exact ah.of (fr _ _ nrq krl)
  ·rintro i x σ G hx ⟨⟨z4,rfl⟩,fr,os,lo,kq',hos⟩
   have hi3:i < 3:=(List.getElem?_eq_some_iff.mp hx).1
   obtain ⟨rk,hrk⟩:∃ rk,dF[i]? = some rk:=⟨_,List.getElem?_eq_getElem hi3⟩
   have ex:x = .str rk:=by rw [List.getElem?_map,hrk] at hx; exact (Option.some.inj hx).symm
   subst ex
   have hr:=tH rk (List.mem_of_getElem? hrk)
   have sG:aG H G:=fun b u hb=>fr b u (aL hb fq) (s3 _ _ hb)
   refine ⟨_,rfl,.inl ⟨rfl,_,ah.of kq'⟩,_,rfl,_,rfl,_,rfl,_,rfl,b,v,.int dy,.str rk,rfl,Own.int,Own.str,.inr ⟨es,gb.same sG,by omega,.inr ⟨us,ds,ga.same sG,hdk,fun h=>absurd (hi.symm.trans h) (by decide),fun dy' e _=>?_⟩⟩⟩
   cases e
   refine ⟨fun h=>absurd (hr.symm.trans h) (by decide),fun rk' e2 _ o G' s' fo ho=>?_⟩
   cases e2
   have kq2:=s' _ _ kq'
   have noq:o ≠ q:=fun z=>by rw [z,kq'] at fo; cases fo
   refine ⟨q,_,_,rfl,rfl,kq2,by rw [List.length_cons,List.length_map]; omega,?_⟩
   refine ⟨⟨_,rfl⟩,fun b u nb hb=>by rw [aI nb]; exact s' _ _ (fr b u nb hb),os ++ [o],by rw [List.length_append,lo]; rfl,by rw [aB,List.map_append]; rfl,fun j o' rk' h1 h2=>?_⟩
   rcases Nat.lt_or_ge j os.length with z | z
   ·rw [List.getElem?_append_left z] at h1
    obtain ⟨n1,n2⟩:=hos j o' rk' h1 h2
    exact ⟨n1,by rw [aI n1]; exact s' _ _ n2⟩
   ·have hj:j < (os ++ [o]).length:=(List.getElem?_eq_some_iff.mp h1).1
    rw [List.length_append] at hj
    have hj:j < os.length + 1:=hj
    have ej:j = os.length:=by omega
    subst ej
    rw [List.getElem?_append_right (Nat.le_refl _),Nat.sub_self] at h1
    cases h1
    rw [lo,hrk] at h2
    cases h2
    exact ⟨noq,by rw [aI noq]; exact ho⟩
  ·rintro σ G ⟨⟨z4,rfl⟩,fr,os,lo,kq',hos⟩
   have sG:aG H G:=fun b u hb=>fr b u (aL hb fq) (s3 _ _ hb)
   obtain ⟨o1,o2,o3,rfl⟩:∃ o1 o2 o3,os = [o1,o2,o3]:=by
    match os,lo with
    | [o1,o2,o3],_=>exact ⟨_,_,_,rfl⟩
   exact ⟨_,rfl,k q d G sG fd fq ⟨⟨o1,o2,o3,kq',(hos 0 _ _ rfl rfl).2,(hos 1 _ _ rfl rfl).2,(hos 2 _ _ rfl rfl).2⟩,fr _ _ ndq hd⟩⟩
set_option maxHeartbeats 4000000 in
theorem t7 (T:Txt w K mg c):ar P w K mg base fN 1 c.a_Lquiet c.d_Lquiet ["_law_rows_here", "_law_deeds_here", "_law_right_here", "_law_day_here", "_law_late"] (wY):=by
 refine T.Lquiet.fn.ok iu (fun vs H Q E h=>?_) (fun cdv A outer s H vs Q E hr h=>?_)
 ·obtain ⟨l,ws,es,dl,us,ds,d,kr,R,a,b,rfl,_⟩:=h
  rfl
 ·obtain ⟨l,ws,es,dl,us,ds,d,kr,R,a,b,rfl,hL,hR,l84,hdl,hD,hd,pR,k⟩:=h
  refine ⟨_,(aC (cU PassesOwn.never rfl (bW (pv 0)) (aQ (i:=5) iu.nd rfl (Or.inl rfl))
    (aH (ai (PW.pt (cR (lU pI fW (pv 3) (aY bC (pv 5) aE (fun _ _=>rfl)) (pv 4)) (cR (cS (qV (bz hr) (aY bC (pv 5) aE (fun _ _=>rfl)) (pv 2))) (bw (cS (dR (aY bC (pv 5) aE (fun _ _=>rfl))))))))
    (aH (aR eK))
    aO)))
   (aC (cU PassesOwn.never rfl (bW (pv 1)) (aQ (i:=6) iu.nd rfl (Or.inl rfl))
    (aH (ai (lU pI fW (pv 3) (aY bC (pv 6) aE (fun _ _=>rfl)) (pv 4))
    (aH (aR eK))
    aO)))
   (aH (aR eK)))),?_⟩
  have sz:2000 < sizeLine:=aJ rfl
  have lw:=hR.1
  have lu:=hD.1
  refine ⟨_,rfl,l,rfl,⟨_,ah.of hL⟩,?_⟩
  refine dh (xs:=ws) (fun i σ G=>G = H ∧ (∃ z5,σ = [some (.ref l),some (.ref dl),some (.ref d),some (.int a),some (.int b),z5,none]) ∧ ∀ e ∈ es.take i,a < e.d → e.d ≤ b → e.b = none → ao R e.n = none) ?_ ?_ ?_ ?_
  ·exact ⟨rfl,⟨_,rfl⟩,fun e h=>nomatch h⟩
  ·rintro i σ G hi ⟨rfl,_⟩
   exact ah.of hL
  ·rintro i v σ G hv ⟨rfl,⟨z5,rfl⟩,hall⟩
   have hi:i < ws.length:=(List.getElem?_eq_some_iff.mp hv).1
   have ee:es[i]? = some es[i]:=List.getElem?_eq_getElem (by omega)
   obtain ⟨ra,rfl,hrow⟩:=hR.2 i v _ hv ee
   rw [take_one ee]
   generalize es[i] = e at hrow
   have f0:eW (cY e) 0 = some (.int e.n):=a9 (j:=0) rfl
   have f1:eW (cY e) 1 = some (.int e.d):=a9 (j:=1) rfl
   have f6:eW (cY e) 6 = some (aj e.b):=a9 (j:=6) rfl
   have nx:(a < e.d → e.d ≤ b → e.b = none → ao R e.n = none) → (G = G ∧ (∃ z5,[some (V.ref l),some (V.ref dl),some (V.ref d),some (V.int a),some (V.int b),some (V.ref ra),none] = [some (.ref l),some (.ref dl),some (.ref d),some (.int a),some (.int b),z5,none]) ∧ ∀ x ∈ es.take i ++ [e],a < x.d → x.d ≤ b → x.b = none → ao R x.n = none):=fun h=>⟨rfl,⟨_,rfl⟩,fun x hx=>by
    rcases List.mem_append.mp hx with q | q
    ·exact hall x q
    ·rw [List.mem_singleton.mp q]; exact h⟩
   refine ⟨_,rfl,_,rfl,ra,_,_,_,rfl,rfl,bp.of hrow,f1,_,_,rfl,rfl,_,rfl,?_⟩
   refine bf (fun z=>?_) (fun z=>?_)
   rotate_left
   ·have z:¬ a < e.d:=fun w=>z (decide_eq_true w)
    exact ⟨_,rfl,aq (aq (nx fun w=>absurd w z))⟩
   refine ⟨_,rfl,_,_,rfl,rfl,_,rfl,?_⟩
   refine bf (fun z2=>?_) (fun z2=>?_)
   rotate_left
   ·have z2:¬ e.d ≤ b:=fun w=>z2 (decide_eq_true w)
    exact aq (nx fun _ w=>absurd w z2)
   rcases eQ pR e.n with ⟨c1,c2⟩ | ⟨y,v,_,c1,c2,_⟩
   ·exact ⟨_,rfl,ra,_,_,_,rfl,rfl,bp.of hrow,f0,_,rfl,d,none,rfl,by rw [← c2]; exact cj.k (k:=Sum.inl e.n) hd,_,rfl,aq (aq (nx fun _ _ _=>c1))⟩
   ·refine ⟨_,rfl,ra,_,_,_,rfl,rfl,bp.of hrow,f0,_,rfl,d,some v,rfl,by rw [← c2]; exact cj.k (k:=Sum.inl e.n) hd,_,rfl,bK ?_⟩
    refine ⟨_,rfl,ra,_,_,_,rfl,rfl,bp.of hrow,f6,_,rfl,?_⟩
    cases hb:e.b with
    | none=>exact bK (k false _ (aG.refl _) (fun z=>nomatch z))
    | some m=>exact aq (nx fun _ _ w=>by rw [hb] at w; cases w)
  ·rintro σ G ⟨rfl,⟨z5,rfl⟩,hall⟩
   rw [lw,List.take_of_length_le (Nat.le_refl _)] at hall
   refine ⟨_,rfl,dl,rfl,⟨_,ah.of hdl⟩,?_⟩
   refine dh (xs:=us) (fun i σ G'=>G' = G ∧ (∃ z6,σ = [some (.ref l),some (.ref dl),some (.ref d),some (.int a),some (.int b),z5,z6]) ∧ ∀ x ∈ ds.take i,a < x.d → ¬ x.d ≤ b) ?_ ?_ ?_ ?_
   ·exact ⟨rfl,⟨_,rfl⟩,fun e h=>nomatch h⟩
   ·rintro i σ G hi ⟨rfl,_⟩
    exact ah.of hdl
   ·rintro i v σ G hv ⟨rfl,⟨z6,rfl⟩,hal2⟩
    have hi:i < us.length:=(List.getElem?_eq_some_iff.mp hv).1
    have ee:ds[i]? = some ds[i]:=List.getElem?_eq_getElem (by omega)
    obtain ⟨ra,rfl,hrow⟩:=hD.2 i v _ hv ee
    rw [take_one ee]
    generalize ds[i] = x at hrow
    have f0:eW (vm x) 0 = some (.int x.d):=a9 (j:=0) rfl
    have nx:(a < x.d → ¬ x.d ≤ b) → (G = G ∧ (∃ z6,[some (V.ref l),some (V.ref dl),some (V.ref d),some (V.int a),some (V.int b),z5,some (V.ref ra)] = [some (.ref l),some (.ref dl),some (.ref d),some (.int a),some (.int b),z5,z6]) ∧ ∀ y ∈ ds.take i ++ [x],a < y.d → ¬ y.d ≤ b):=fun h=>⟨rfl,⟨_,rfl⟩,fun y hy=>by
     rcases List.mem_append.mp hy with q | q
     ·exact hal2 y q
     ·rw [List.mem_singleton.mp q]; exact h⟩
    refine ⟨_,rfl,_,rfl,ra,_,_,_,rfl,rfl,bp.of hrow,f0,_,_,rfl,rfl,_,rfl,?_⟩
    refine bf (fun z=>?_) (fun z=>?_)
    rotate_left
    ·have z:¬ a < x.d:=fun w=>z (decide_eq_true w)
     exact ⟨_,rfl,aq (nx fun w=>absurd w z)⟩
    refine ⟨_,rfl,_,_,rfl,rfl,_,rfl,?_⟩
    refine bf (fun z2=>?_) (fun z2=>?_)
    rotate_left
    ·have z2:¬ x.d ≤ b:=fun w=>z2 (decide_eq_true w)
     exact nx fun _=>z2
    exact k false _ (aG.refl _) (fun z=>nomatch z)
   ·rintro σ G ⟨rfl,⟨z6,rfl⟩,hal2⟩
    rw [lu,List.take_of_length_le (Nat.le_refl _)] at hal2
    exact k true _ (aG.refl _) (fun _=>⟨hall,hal2⟩)
set_option maxHeartbeats 4000000 in
theorem tj (T:Txt w K mg c):ar P w K mg base fN 9 c.a_Ltold c.d_Ltold ["_law_entries_here", "_law_acts_here", "_law_day_here", "_law_found"] (ug c.c_Entry c.c_Act):=by
 refine T.Ltold.fn.ok i9 (fun vs H Q E h=>?_) (fun cdv A outer s H vs Q E hr h=>?_)
 ·obtain ⟨el,ec,al,ac,es,ds,dy,q,d,rfl,_⟩:=h
  rfl
 ·obtain ⟨el,ec,al,ac,es,ds,dy,q,d,rfl,hel,hE,hal,hA,hB,hG,d84,d1,d2,hN,k⟩:=h
  refine ⟨_,(aC (ke (b7 (sP T) (hr.mono (by decide)) rfl T.of_day.mgf T.of_day.kp T.of_day.bi .nil iD (aA (pv 0) (aA (pv 1) (aA (pv 2) aD)))) (hX rfl (bE (aQ (i:=4) i9.nd rfl (Or.inl rfl)) (bE (aQ (i:=5) i9.nd rfl (Or.inl rfl)) fj))))
   (aC (ai (aW (qx (iE hr)) (aU (jz T) (hr.mono (by decide)) rfl T.Lall.mgf T.Lall.kp T.Lall.bi .nil ak (aA (pv 4) (aA (pv 5) (aA (pv 2) aD)))) (pv 3) (aX _))
    (aH (aR eK))
    aO)
   (aC (cM (i:=6) i9.nd rfl rfl (N':=["_law_entry", "_law_day_here"]) (js:=[none,some 2]) rfl rfl (by decide +kernel) (by decide +kernel) (bu ["_law_day_here"] (by decide +kernel) (aM (.inl rfl) bB)) (cf rfl (aM (fun j e=>nomatch e) (aM (fun j e=>by cases e; exact ⟨rfl,rfl,.inl rfl⟩) bB))) (bW (pv 0)) (fun B=>⟨(aQ (i:=0) (show List.Nodup (["_law_entry", "_law_day_here"]:List Str) by decide +kernel) rfl (Or.inl rfl)),(cC (aW mD (aa (pv 0) rfl) (pv 1) (aX _))),(pv 0)⟩))
   (aC (ai (aW (qx (iE hr)) (aU (jz T) (hr.mono (by decide)) rfl T.Lall.mgf T.Lall.kp T.Lall.bi .nil ak (aA (aP nj (pv 4) (dN gk (pv 6) dM (c9 aE))) (aA (pv 5) (aA (pv 2) aD)))) (pv 3) (aX _))
    (aH (aR eK))
    aO)
   (aH (aR (cJ (zP (iE hr)) (aU (jz T) (hr.mono (by decide)) rfl T.Lall.mgf T.Lall.kp T.Lall.bi .nil ak (aA (pv 0) (aA (dN gk (pv 1) dM (c9 (aP bj (af bG rfl T.no_len dY (aA (pv 5) aD)) aE))) (aA (pv 2) aD)))) (pv 3) (aX _)))))))),?_⟩
  have sz:2000 < sizeLine:=aJ rfl
  have hi:inR 1000000 (V.int dy) = true:=fB d1 d2
  have okk:=hB.ok
  have nd:=hB.nd
  have rok:=gO okk nd
  have lec:=hE.1
  have lac:=hA.1
  have l60:=hB.le
  have aF:=hG.all rok.rn
  have gb:∀ G,aG H G → gE G c.c_Entry (.ref el) es:=fun G s=>⟨el,ec,rfl,s _ _ hel,hE.same s,okk,by omega,hB.bk⟩
  have ga:∀ G,aG H G → cO G c.c_Act (aZ es).r (.ref al) ac ds:=fun G s=>⟨al,rfl,s _ _ hal,by omega,hA.same s,aF⟩
  have hdk:∀ x ∈ ds,bX (.str x.z) = true:=fun x hx=>(hG.each x hx).1
  have pe:=(ko hB.bk).1
  have pd:=hG.pw
  obtain ⟨c1,c2⟩:=nM (f:=fun e:En=>e.d) (d:=dy) pe
  obtain ⟨c3,c4⟩:=nM (f:=fun x:Dd=>x.d) (d:=dy) pd
  generalize he1:es.filter (fun e=>decide (e.d ≤ dy)) = es1 at c1 c2
  generalize hd1:ds.filter (fun x=>decide (x.d ≤ dy)) = ds1 at c3 c4
  refine ⟨_,rfl,_,rfl,_,rfl,.ref el,.ref al,.int dy,rfl,Own.int,.inr ⟨es,gb H (aG.refl _),.inr ⟨ac,ds,ga _ (aG.refl _),fun h=>absurd (hi.symm.trans h) (by decide),fun dy' e _ t q1 q2 l1 l2 G1 s1 ht f1 f2 nq h1 hE1 h2 hA1=>?_⟩⟩⟩
  cases e
  rw [he1] at hE1
  rw [hd1] at hA1
  refine ⟨t,_,rfl,bp.of ht,rfl,_,_,rfl,_,_,rfl,rfl,?_⟩
  have le1:=hE1.1
  have la1:=hA1.1
  have j1:∀ e ∈ es.drop es1.length,dy < e.d:=fun e he=>by
   rw [← c2] at he
   exact of_decide_eq_true (List.mem_filter.mp he).2
  have m1:∀ x ∈ ds.take ds1.length,x.d ≤ dy:=fun x hx=>by
   rw [← c3,← hd1] at hx
   exact of_decide_eq_true (List.mem_filter.mp hx).2
  have tkl:es1.length ≤ es.length:=by rw [← he1]; exact List.length_filter_le ..
  have tdl:ds1.length ≤ ds.length:=by rw [← hd1]; exact List.length_filter_le ..
  have okT:∀ j,∀ e ∈ es.take j,ij e:=fun j e he=>okk e (List.mem_of_mem_take he)
  have ndT:∀ j,((es.take j).map (·.n)).Nodup:=fun j=>by rw [List.map_take]; exact nd.sublist (List.take_sublist _ _)
  have GD:∀ j,es1.length ≤ j → cz (aZ (es.take j)).r (ds.take ds1.length):=fun j hj=>hG.cut j _ fun x hx e he=>by
   have h1:=m1 x hx
   have h2:=j1 e (List.mem_of_mem_drop (i:=j - es1.length) (by rw [List.drop_drop,show es1.length + (j - es1.length) = j by omega]; exact he))
   omega
  have fd1:(ds.take ds1.length).filter (fun x=>decide (x.d ≤ dy)) = ds.filter fun x=>decide (x.d ≤ dy):=by
   rw [hd1,← c3]
   rw [← hd1,List.filter_filter]
   exact List.filter_congr fun x _=>Bool.and_self _
  have cmp:∀ {G:Hp} {q' d':Addr} {j:Nat} {ds':List Dd},jn G q' d' (a8 (aZ (es.take j)).r ds' dy) (cD (aZ (es.take j)).r ds' dy) → es1.length ≤ j → (ds'.filter fun x=>decide (x.d ≤ dy)) = (ds.filter fun x=>decide (x.d ≤ dy)) → aG H G → H d' = none → ∃ b,bZ K G (xW K G) (.ref q') (.ref q) b ∧ b = true:=fun {G q' d' j ds'} h hj hf s fr=>by
   obtain ⟨b,h1,h2⟩:=rm (K:=K) h (hN.same s) (fun z=>by rw [z] at fr; have:=hN.dt; rw [fr] at this; cases this) (gO (okT j) (ndT j)).rn
   obtain ⟨e1,e2⟩:=vg okk nd (j:=j) (dy:=dy) (ds:=ds) (ds':=ds') (fun e he=>j1 e (List.mem_of_mem_drop (i:=j - es1.length) (by rw [List.drop_drop,show es1.length + (j - es1.length) = j by omega]; exact he))) hf
   exact ⟨b,h1,h2 e1 e2⟩
  have gbT:∀ {G:Hp} {p:Addr} {pl:List V} (j:Nat),G p = some (.lst pl) → cg G c.c_Entry pl (es.take j) → gE G c.c_Entry (.ref p) (es.take j):=fun {G p pl} j h1 h2=>⟨p,pl,rfl,h1,h2,okT j,by have:=h2.1; rw [List.length_take] at this; omega,mI j hB.bk⟩
  have E1:cg G1 c.c_Entry l1 (es.take es1.length):=by rw [← c1]; exact hE1
  have A1:cV G1 c.c_Act l2 (ds.take ds1.length):=by rw [← c3]; exact hA1
  have dkT:∀ x ∈ ds.take ds1.length,bX (.str x.z) = true:=fun x hx=>hdk x (List.mem_of_mem_take hx)
  have lT:∀ j,(es.take j).length ≤ 84:=fun j=>by rw [List.length_take]; omega
  refine ⟨_,rfl,_,rfl,_,rfl,.ref q1,.ref q2,dy,es.take es1.length,l2,ds.take ds1.length,rfl,gbT _ h1 E1,lT _,⟨q2,rfl,h2,by rw [A1.1,List.length_take]; omega,A1,(GD _ (Nat.le_refl _)).all (gO (okT _) (ndT _)).rn⟩,dkT,d1,d2,fun qa da G2 s2 fda _ hNa=>?_⟩
  have s02:=s1.trans s2
  obtain ⟨b,hb1,hb2⟩:=cmp hNa (Nat.le_refl _) fd1 s02 (s1.free fda)
  subst hb2
  refine ⟨_,rfl,true,hb1,_,rfl,aq ?_⟩
  clear hNa hb1
  refine ⟨_,rfl,el,rfl,⟨_,ah.of (s02 _ _ hel)⟩,fun r B hr=>?_⟩
  refine cW (xs:=ec) (fun i σ acc G=>(∃ o,σ = [o,some (.int dy)]) ∧ aG G2 G ∧ G r = some (.lst acc) ∧ acc.length ≤ i ∧ cg H c.c_Entry acc ((es.take i).filter fun e=>decide (e.d > dy))) (by omega) ?_ ?_ ?_ ?_
  ·exact ⟨⟨_,rfl⟩,aG.new hr,aB,Nat.le_refl _,rfl,fun j v e h=>nomatch h⟩
  ·rintro i σ acc G hi ⟨_,sG,h1,h2,_⟩
   exact ⟨h1,ah.of (sG _ _ (s02 _ _ hel)),h2⟩
  ·rintro i v σ acc G hx ⟨⟨o,rfl⟩,sG,h1,h2,h3⟩
   have hi:i < ec.length:=(List.getElem?_eq_some_iff.mp hx).1
   have ee:es[i]? = some es[i]:=List.getElem?_eq_getElem (by omega)
   have hent:=hE.2 i v _ hx ee
   rw [take_one ee,List.filter_append]
   generalize es[i] = e at hent
   obtain ⟨a,dx,rfl,ha⟩:=id hent
   refine ⟨_,rfl,a,_,dx,_,_,rfl,sG _ _ (s02 _ _ ha),T.cl_Entry,T.na_Entry_day,rfl,_,rfl,_,_,rfl,rfl,_,rfl,?_⟩
   refine bf (fun z=>?_) (fun z=>?_)
   ·refine ⟨_,rfl,h1,Nx.mk hi ⟨⟨_,rfl⟩,bD hr sG,aB,by rw [List.length_append]; exact Nat.add_le_add_right h2 1,?_⟩⟩
    rw [List.filter_cons_of_pos (p:=fun e:En=>decide (e.d > dy)) z,List.filter_nil]
    exact pA h3 hent
   ·refine Nx.mk hi ⟨⟨_,rfl⟩,sG,h1,by omega,?_⟩
    rw [List.filter_cons_of_neg (p:=fun e:En=>decide (e.d > dy)) z,List.filter_nil,List.append_nil]
    exact h3
  rintro σ acc G3 ⟨_,s3,hr3,lr3,hE3⟩
  rw [lec,List.take_of_length_le (Nat.le_refl _),c2] at hE3
  have s03:=s02.trans s3
  have h13:=(s2.trans s3) _ _ h1
  have h23:=(s2.trans s3) _ _ h2
  refine ⟨_,rfl,_,rfl,_,rfl,r,_,rfl,ah.of hr3,fun p1 hp1=>?_⟩
  have e1:fZ acc none (some 1) = acc.take 1:=jq acc 1
  rw [e1]
  have t1:=aG.new (o:=HO.lst (acc.take 1)) hp1
  have k1:=aB (H:=G3) (a:=p1) (o:=.lst (acc.take 1))
  generalize upd G3 p1 (.lst (acc.take 1)) = G4 at t1 k1 ⊢
  have lt1:(acc.take 1).length ≤ 1:=by rw [List.length_take]; omega
  have ll1:l1.length ≤ 60:=by rw [E1.1,List.length_take]; omega
  refine ⟨q1,p1,_,_,rfl,rfl,t1 _ _ h13,k1,by omega,fun p2 hp2=>?_⟩
  have t2:=aG.new (o:=HO.lst (l1 ++ acc.take 1)) hp2
  have k2:=aB (H:=G4) (a:=p2) (o:=.lst (l1 ++ acc.take 1))
  have s35:=t1.trans t2
  generalize upd G4 p2 (.lst (l1 ++ acc.take 1)) = G5 at t2 k2 s35 ⊢
  have s15:=s2.trans (s3.trans s35)
  have s05:=s03.trans s35
  have E2:cg G5 c.c_Entry (l1 ++ acc.take 1) (es.take (es1.length + 1)):=by
   rw [List.take_add]
   exact xG (E1.same s15) (oK (hE3.same s05) 1)
  refine ⟨_,rfl,_,rfl,.ref p2,.ref q2,dy,es.take (es1.length + 1),l2,ds.take ds1.length,rfl,gbT _ k2 E2,lT _,⟨q2,rfl,s35 _ _ h23,by rw [A1.1,List.length_take]; omega,A1.same s15,(GD _ (by omega)).all (gO (okT _) (ndT _)).rn⟩,dkT,d1,d2,fun qb db G6 s6 fdb _ hNb=>?_⟩
  have s06:=s05.trans s6
  obtain ⟨b,hb1,hb2⟩:=cmp hNb (by omega) fd1 s06 (s05.free fdb)
  subst hb2
  refine ⟨_,rfl,true,hb1,_,rfl,aq ?_⟩
  clear hNb hb1
  refine ⟨_,rfl,?_⟩
  walk_at "rd"
  refine ⟨q2,_,rfl,.inl (ah.of (s6 _ _ (s35 _ _ h23))),?_⟩
  walk_at "rd"
  refine ⟨al,_,rfl,ah.of (s06 _ _ hal),fun p3 hp3=>?_⟩
  have ll2:l2.length = ds1.length:=by rw [A1.1,List.length_take]; omega
  have e3:fZ ac none (some ((l2.length:Int) + 1)) = ac.take (ds1.length + 1):=by rw [ll2]; exact jq ac (ds1.length + 1)
  rw [e3]
  have t3:=aG.new (o:=HO.lst (ac.take (ds1.length + 1))) hp3
  have k3:=aB (H:=G6) (a:=p3) (o:=.lst (ac.take (ds1.length + 1)))
  generalize upd G6 p3 (.lst (ac.take (ds1.length + 1))) = G7 at t3 k3 ⊢
  have s07:=s06.trans t3
  have A3:cV G7 c.c_Act (ac.take (ds1.length + 1)) (ds.take (ds1.length + 1)):=oK (hA.same s07) _
  have et:es.take es.length = es:=List.take_length
  have GD3:cz (aZ es).r (ds.take (ds1.length + 1)):=by
   have:=hG.cut es.length (ds1.length + 1) (fun x hx e he=>by rw [List.drop_length] at he; cases he)
   rw [et] at this
   exact this
  have fd3:(ds.take (ds1.length + 1)).filter (fun x=>decide (x.d ≤ dy)) = ds.filter fun x=>decide (x.d ≤ dy):=by
   have z:((ds.drop ds1.length).take 1).filter (fun x=>decide (x.d ≤ dy)) = []:=List.filter_eq_nil_iff.mpr fun x hx z=>by
    have hx:=List.mem_of_mem_take hx
    rw [← c4] at hx
    have:=of_decide_eq_true (List.mem_filter.mp hx).2
    have:=of_decide_eq_true z
    omega
   rw [List.take_add,List.filter_append,fd1,z,List.append_nil]
  refine ⟨_,rfl,.ref el,.ref p3,dy,es,ac.take (ds1.length + 1),ds.take (ds1.length + 1),rfl,gb _ s07,by omega,⟨p3,rfl,k3,by rw [List.length_take]; omega,A3,GD3.all rok.rn⟩,fun x hx=>hdk x (List.mem_of_mem_take hx),d1,d2,fun qc dc G8 s8 fdc _ hNc=>?_⟩
  have hNc':jn G8 qc dc (a8 (aZ (es.take es.length)).r (ds.take (ds1.length + 1)) dy) (cD (aZ (es.take es.length)).r (ds.take (ds1.length + 1)) dy):=by rw [et]; exact hNc
  obtain ⟨b,hb1,hb2⟩:=cmp hNc' tkl fd3 (s07.trans s8) (s07.free fdc)
  subst hb2
  exact ⟨_,rfl,true,hb1,k _ (s07.trans s8)⟩
set_option maxHeartbeats 4000000 in
theorem qk (T:Txt w K mg c):ar P w K mg base fN 1 c.a_Lorders c.d_Lorders ["_law_found", "_law_right_here"] (tF):=by
 refine T.Lorders.fn.ok cy (fun vs H Q E h=>?_) (fun cdv A outer s H vs Q E hr h=>?_)
 ·obtain ⟨q,e,d,kr,R,ds,dy,rfl,_⟩:=h
  rfl
 ·obtain ⟨q,e,d,kr,R,ds,dy,rfl,hN,hd,pR,nd,l30,ned,k⟩:=h
  refine ⟨_,(aC (aN (i:=2) cy.nd rfl (Or.inr rfl) (aY ae (pv 0) aE (fun _ _=>rfl)))
   (aC (cU PassesOwn.never rfl (cZ rfl T.no_range (aA aE aD)) (aQ (i:=3) cy.nd rfl (Or.inl rfl))
    (aC (aN (i:=4) cy.nd rfl (Or.inr rfl) (aY ae (bg (aA aT (aA aT (aA aT aD)))) (pv 3) (fun _ _=>rfl)))
   (aC (iP (cM (i:=5) cy.nd rfl rfl (N':=["_law_number", "_law_rank", "_law_stand", "_law_right_here"]) (js:=[none,some 4,some 2,some 1]) rfl rfl (by decide +kernel) (by decide +kernel) (bu ["_law_rank", "_law_stand", "_law_right_here"] (by decide +kernel) (aM (.inl rfl) (aM (.inl rfl) (aM (.inl rfl) bB)))) (cf rfl (aM (fun j e=>nomatch e) (aM (fun j e=>by cases e; exact ⟨rfl,rfl,.inl rfl⟩) (aM (fun j e=>by cases e; exact ⟨rfl,rfl,.inl rfl⟩) (aM (fun j e=>by cases e; exact ⟨rfl,rfl,.inl rfl⟩) bB))))) (gY (pv 2)) (fun B=>⟨(aQ (i:=0) (show List.Nodup (["_law_number", "_law_rank", "_law_stand", "_law_right_here"]:List Str) by decide +kernel) rfl (Or.inl rfl)),(cC (PW.pt (cR (aW bq (d4 (bz hr) (pv 2) (pv 0) (fun _ _=>rfl)) aT (aX _)) (bw (aW bq (aY bC (d4 (bz hr) (pv 3) (pv 0) (fun _ _=>rfl)) aE (fun _ _=>rfl)) (pv 1) (aX _)))))),(pv 0)⟩)))
   (aC (iP (cM (i:=6) cy.nd rfl rfl (N':=["_law_number", "_law_rank", "_law_stand", "_law_right_here"]) (js:=[none,some 4,some 2,some 1]) rfl rfl (by decide +kernel) (by decide +kernel) (bu ["_law_rank", "_law_stand", "_law_right_here"] (by decide +kernel) (aM (.inl rfl) (aM (.inl rfl) (aM (.inl rfl) bB)))) (cf rfl (aM (fun j e=>nomatch e) (aM (fun j e=>by cases e; exact ⟨rfl,rfl,.inl rfl⟩) (aM (fun j e=>by cases e; exact ⟨rfl,rfl,.inl rfl⟩) (aM (fun j e=>by cases e; exact ⟨rfl,rfl,.inl rfl⟩) bB))))) (gY (pv 2)) (fun B=>⟨(aQ (i:=0) (show List.Nodup (["_law_number", "_law_rank", "_law_stand", "_law_right_here"]:List Str) by decide +kernel) rfl (Or.inl rfl)),(cC (PW.pt (cR (aW bq (d4 (bz hr) (pv 2) (pv 0) (fun _ _=>rfl)) aT (aX _)) (bw (aW bq (aY bC (d4 (bz hr) (pv 3) (pv 0) (fun _ _=>rfl)) aE (fun _ _=>rfl)) (pv 1) (aX _)))))),(pv 0)⟩)))
   (aC (aN (i:=7) cy.nd rfl (Or.inl rfl) (aY ae (pv 0) (aP bj (pv 3) aE) (fun _ _=>rfl)))
   (aH (ai (PW.pt (kF (aW (kY (iE hr)) (af (d7 rfl) rfl T.no_sorted fP (aA (dN gk (pv 7) dM (c9 (af bG rfl T.no_len dY (aA (pv 5) aD)))) aD)) (af (d7 rfl) rfl T.no_sorted fP (aA (pv 5) aD)) (aX _)) (jI (aW (kY (iE hr)) (af (d7 rfl) rfl T.no_sorted fP (aA (dN gk (pv 7) (c9 (af bG rfl T.no_len dY (aA (pv 5) aD))) dM) aD)) (af (d7 rfl) rfl T.no_sorted fP (aA (pv 6) aD)) (aX _)))))
    (aH (aR eK))
    aO)))))))
   (aH (aR eK)))),?_⟩
  have sz:2000 < sizeLine:=aJ rfl
  obtain ⟨o1,o2,o3,a0,a1,a2,a3⟩:=hN.ex
  have hS:=hN.dt
  have nS:=mi nd (ds:=ds) (dy:=dy)
  have lS:=gZ R ds dy
  have mS:∀ p ∈ a8 R ds dy,∃ x y,x ∈ R ∧ p = (Sum.inl x.e.n,V.str y):=fun p hp=>by
   obtain ⟨x,h1,_,_,h2⟩:=jP hp
   exact ⟨x,_,h1,h2⟩
  generalize hSd:a8 R ds dy = S at hS nS lS mS
  refine ⟨_,rfl,q,_,_,_,rfl,rfl,ah.of a0,a9 (j:=0) rfl,?_⟩
  walk_at "rd"
  refine ⟨by decide,by decide,?_⟩
  refine eE (n:=(3:Int).toNat) (lo:=0) (fun i σ G=>aG H G ∧ ∃ z3 z4 z5 z6 z7,σ = [some (.ref q),some (.ref d),some (.ref e),z3,z4,z5,z6,z7]) ?_ ?_ ?_
  ·exact ⟨aG.refl _,_,_,_,_,_,rfl⟩
  rotate_left
  ·rintro σ G ⟨sG,z3,z4,z5,z6,z7,rfl⟩
   first | exact k _ sG | exact ⟨_,rfl,k _ sG⟩
  rintro i σ G hi ⟨sG,z3,z4,z5,z6,z7,rfl⟩
  have hi:i < 3:=hi
  obtain ⟨rk,hrk⟩:∃ rk,dF[i]? = some rk:=⟨_,List.getElem?_eq_getElem hi⟩
  obtain ⟨oi,hoi,hoc⟩:∃ oi,eW [V.ref e,.ref o1,.ref o2,.ref o3] (0 + (i:Int) + 1) = some (.ref oi) ∧ H oi = some (.lst ((cD R ds dy rk).map V.int)):=by
   match i,hi,hrk with
   | 0,_,hrk=>cases hrk; exact ⟨o1,rfl,a1⟩
   | 1,_,hrk=>cases hrk; exact ⟨o2,rfl,a2⟩
   | 2,_,hrk=>cases hrk; exact ⟨o3,rfl,a3⟩
  refine ⟨aJ rfl,fun p0 hp0=>?_⟩
  have t0:=aG.new (o:=HO.lst (dF.map V.str)) hp0
  have kp0:=aB (H:=G) (a:=p0) (o:=.lst (dF.map V.str))
  have eG:upd G p0 (.lst [V.str (Str.ofString "genus"),V.str (Str.ofString "species"),V.str (Str.ofString "form")]) = upd G p0 (.lst (dF.map V.str)):=rfl
  rw [eG]
  generalize upd G p0 (.lst (dF.map V.str)) = G0 at t0 kp0 ⊢
  have hp0':eW (dF.map V.str) (0 + (i:Int)) = some (.str rk):=by
   rw [Int.zero_add]
   exact a9 (by rw [List.getElem?_map,hrk]; rfl)
  refine ⟨_,rfl,p0,_,_,_,rfl,rfl,ah.of kp0,hp0',?_⟩
  have s0:=sG.trans t0
  have hS0:=s0 _ _ hS
  have hd0:=s0 _ _ hd
  have pR0:Paired (eX G0 R) R kr:=Paired.dn pR fun x q z=>z.keep fun t xs h=>s0 _ _ h
  clear t0 kp0 hp0 eG
  refine ⟨_,rfl,e,S,rfl,hS0,fun o nf lc B hlc=>?_⟩
  have g1:upd G0 e (.frz o (.dK S)) e = some (.frz o (.dK S)):=aB
  have f1:∀ c u,c ≠ e → G0 c = some u → upd G0 e (.frz o (.dK S)) c = some u:=fun c u nc hc=>by rw [aI nc]; exact hc
  have bk1:∀ G,aG (upd G0 e (.frz o (.dK S))) G → aG G0 (upd G e (.dK S)):=fun G h c u hc=>by
   by_cases q:c = e
   ·rw [q,aB]; rw [q,hS0] at hc; exact hc
   ·rw [aI q]; exact h c u (f1 c u q hc)
  have nlc:lc ≠ e:=fun z=>by rw [z,aB] at hlc; cases hlc
  have hdf:=f1 _ _ ned.symm hd0
  have pRf:Paired (eX (upd G0 e (.frz o (.dK S))) R) R kr:=Paired.dn pR0 fun x q z=>z.keep fun t xs h=>f1 _ _ (ax h hS0 (by intro z; cases z)) h
  generalize upd G0 e (.frz o (.dK S)) = Gf at g1 f1 bk1 hlc hdf pRf ⊢
  refine eD (kvs:=S) (f:=fun p=>kV p.1) rfl (fun i σ acc G=>(∃ z,σ = [z,some (.str rk),some (.ref e),some (.ref d)]) ∧ aG Gf G ∧ G lc = some (.lst acc) ∧ acc = ((numsOf (Str.ofString "kept") (S.take i)).filter (bY R rk)).map V.int) (by omega) ?_ ?_ ?_ ?_
  ·exact ⟨⟨_,rfl⟩,aG.new hlc,aB,rfl⟩
  ·rintro i σ acc G hi ⟨_,sG,h1,h2⟩
   refine ⟨h1,sG _ _ g1,?_⟩
   have h3:=fU (Str.ofString "kept") (S.take i)
   have h4:=List.length_filter_le (bY R rk) (numsOf (Str.ofString "kept") (S.take i))
   rw [List.length_take] at h3
   rw [h2,List.length_map]
   omega
  ·rintro i p σ acc G hp ⟨⟨z,rfl⟩,sG,h1,h2⟩
   have hi:i < S.length:=(List.getElem?_eq_some_iff.mp hp).1
   have hpm:=List.mem_of_getElem? hp
   have vp:=nS p hpm
   obtain ⟨x,y,hxR,rfl⟩:=mS p hpm
   have rki:bY R rk x.e.n = decide (V.str x.e.r = V.str rk):=by unfold bY; rw [bR nd hxR]
   rw [take_one hp,gq]
   refine ⟨_,rfl,_,rfl,e,.str y,rfl,.inl ⟨S,Sum.inl x.e.n,.inr ⟨o,sG _ _ g1⟩,rfl,vp.symm⟩,rfl,_,rfl,?_⟩
   refine bf (fun q=>?_) (fun q=>?_)
   rotate_left
   ·have q:¬ (V.str y = V.str (Str.ofString "kept")):=fun w=>q (decide_eq_true w)
    exact aq (Nx.mk hi ⟨⟨_,rfl⟩,sG,h1,by rw [if_neg q,List.append_nil]; exact h2⟩)
   have q:=of_decide_eq_true q
   rcases eQ pRf x.e.n with ⟨c1,_⟩ | ⟨x',v,_,c1,c2,_,ra,t,c3,c4,c5⟩
   ·rw [bR nd hxR] at c1; cases c1
   rw [bR nd hxR] at c1
   cases c1
   have c3:v = .ref ra:=c3
   subst c3
   refine ⟨_,rfl,_,rfl,d,.ref ra,rfl,by rw [← c2]; exact cj.k (k:=Sum.inl x.e.n) (sG _ _ hdf),ra,_,_,_,rfl,rfl,bp.of (sG _ _ c4),a9 (j:=0) rfl,_,rfl,rfl,_,rfl,?_⟩
   refine bf (fun q2=>?_) (fun q2=>?_)
   ·refine ⟨_,rfl,h1,Nx.mk hi ⟨⟨_,rfl⟩,bD hlc sG,aB,?_⟩⟩
    rw [if_pos q,List.filter_append,List.map_append,List.filter_cons_of_pos (by rw [rki]; exact q2),List.filter_nil,h2]
    rfl
   ·refine Nx.mk hi ⟨⟨_,rfl⟩,sG,h1,?_⟩
    rw [if_pos q,List.filter_append,List.filter_cons_of_neg (by rw [rki]; exact q2),List.filter_nil,List.append_nil]
    exact h2
  rintro σ acc G ⟨_,sG,h1,h2⟩
  rw [List.take_of_length_le (Nat.le_refl _),← hSd,fk] at h2
  subst h2
  refine ⟨_,⟨e,o,S,sG _ _ g1,nf,rfl⟩,?_⟩
  have ks:=bk1 G sG
  have kh:upd G e (.dK S) lc = some (.lst ((((b8 R dy).filter (lW (Str.ofString "kept") ds dy)).filter (bY R rk)).map V.int)):=by rw [aI nlc]; exact h1
  generalize upd G e (.dK S) = kG at ks kh ⊢
  clear g1 f1 bk1 hlc nlc sG h1 hdf pRf G Gf nf o
  have hS1:=ks _ _ hS0
  have hd1:=ks _ _ hd0
  have pR1:Paired (eX kG R) R kr:=Paired.dn pR0 fun x q z=>z.keep fun t xs h=>ks _ _ h
  generalize hlk:lc = lk at kh
  refine ⟨_,rfl,e,S,rfl,hS1,fun o nf lc B hlc=>?_⟩
  have g1:upd kG e (.frz o (.dK S)) e = some (.frz o (.dK S)):=aB
  have f1:∀ c u,c ≠ e → kG c = some u → upd kG e (.frz o (.dK S)) c = some u:=fun c u nc hc=>by rw [aI nc]; exact hc
  have bk1:∀ G,aG (upd kG e (.frz o (.dK S))) G → aG kG (upd G e (.dK S)):=fun G h c u hc=>by
   by_cases q:c = e
   ·rw [q,aB]; rw [q,hS1] at hc; exact hc
   ·rw [aI q]; exact h c u (f1 c u q hc)
  have nlc:lc ≠ e:=fun z=>by rw [z,aB] at hlc; cases hlc
  have hdf:=f1 _ _ ned.symm hd1
  have pRf:Paired (eX (upd kG e (.frz o (.dK S))) R) R kr:=Paired.dn pR1 fun x q z=>z.keep fun t xs h=>f1 _ _ (ax h hS1 (by intro z; cases z)) h
  generalize upd kG e (.frz o (.dK S)) = Gf at g1 f1 bk1 hlc hdf pRf ⊢
  refine eD (kvs:=S) (f:=fun p=>kV p.1) rfl (fun i σ acc G=>(∃ z,σ = [z,some (.str rk),some (.ref e),some (.ref d)]) ∧ aG Gf G ∧ G lc = some (.lst acc) ∧ acc = ((numsOf (Str.ofString "plain") (S.take i)).filter (bY R rk)).map V.int) (by omega) ?_ ?_ ?_ ?_
  ·exact ⟨⟨_,rfl⟩,aG.new hlc,aB,rfl⟩
  ·rintro i σ acc G hi ⟨_,sG,h1,h2⟩
   refine ⟨h1,sG _ _ g1,?_⟩
   have h3:=fU (Str.ofString "plain") (S.take i)
   have h4:=List.length_filter_le (bY R rk) (numsOf (Str.ofString "plain") (S.take i))
   rw [List.length_take] at h3
   rw [h2,List.length_map]
   omega
  ·rintro i p σ acc G hp ⟨⟨z,rfl⟩,sG,h1,h2⟩
   have hi:i < S.length:=(List.getElem?_eq_some_iff.mp hp).1
   have hpm:=List.mem_of_getElem? hp
   have vp:=nS p hpm
   obtain ⟨x,y,hxR,rfl⟩:=mS p hpm
   have rki:bY R rk x.e.n = decide (V.str x.e.r = V.str rk):=by unfold bY; rw [bR nd hxR]
   rw [take_one hp,gq]
   refine ⟨_,rfl,_,rfl,e,.str y,rfl,.inl ⟨S,Sum.inl x.e.n,.inr ⟨o,sG _ _ g1⟩,rfl,vp.symm⟩,rfl,_,rfl,?_⟩
   refine bf (fun q=>?_) (fun q=>?_)
   rotate_left
   ·have q:¬ (V.str y = V.str (Str.ofString "plain")):=fun w=>q (decide_eq_true w)
    exact aq (Nx.mk hi ⟨⟨_,rfl⟩,sG,h1,by rw [if_neg q,List.append_nil]; exact h2⟩)
   have q:=of_decide_eq_true q
   rcases eQ pRf x.e.n with ⟨c1,_⟩ | ⟨x',v,_,c1,c2,_,ra,t,c3,c4,c5⟩
   ·rw [bR nd hxR] at c1; cases c1
   rw [bR nd hxR] at c1
   cases c1
   have c3:v = .ref ra:=c3
   subst c3
   refine ⟨_,rfl,_,rfl,d,.ref ra,rfl,by rw [← c2]; exact cj.k (k:=Sum.inl x.e.n) (sG _ _ hdf),ra,_,_,_,rfl,rfl,bp.of (sG _ _ c4),a9 (j:=0) rfl,_,rfl,rfl,_,rfl,?_⟩
   refine bf (fun q2=>?_) (fun q2=>?_)
   ·refine ⟨_,rfl,h1,Nx.mk hi ⟨⟨_,rfl⟩,bD hlc sG,aB,?_⟩⟩
    rw [if_pos q,List.filter_append,List.map_append,List.filter_cons_of_pos (by rw [rki]; exact q2),List.filter_nil,h2]
    rfl
   ·refine Nx.mk hi ⟨⟨_,rfl⟩,sG,h1,?_⟩
    rw [if_pos q,List.filter_append,List.filter_cons_of_neg (by rw [rki]; exact q2),List.filter_nil,List.append_nil]
    exact h2
  rintro σ acc G ⟨_,sG,h1,h2⟩
  rw [List.take_of_length_le (Nat.le_refl _),← hSd,fk] at h2
  subst h2
  refine ⟨_,⟨e,o,S,sG _ _ g1,nf,rfl⟩,?_⟩
  have ps:=bk1 G sG
  have ph:upd G e (.dK S) lc = some (.lst ((((b8 R dy).filter (lW (Str.ofString "plain") ds dy)).filter (bY R rk)).map V.int)):=by rw [aI nlc]; exact h1
  generalize upd G e (.dK S) = pG at ps ph ⊢
  clear g1 f1 bk1 hlc nlc sG h1 hdf pRf G Gf nf o
  generalize hlp:lc = lp at ph
  have kh:=ps _ _ kh
  have s2:=s0.trans (ks.trans ps)
  have ord:=oP R ds dy rk
  have lk1:(((b8 R dy).filter (lW (Str.ofString "kept") ds dy)).filter (bY R rk)).length < 60:=Nat.lt_of_le_of_lt (Nat.le_trans (List.length_filter_le ..) (Nat.le_trans (List.length_filter_le ..) (jD R dy))) l30
  have lp1:(((b8 R dy).filter (lW (Str.ofString "plain") ds dy)).filter (bY R rk)).length < 60:=Nat.lt_of_le_of_lt (Nat.le_trans (List.length_filter_le ..) (Nat.le_trans (List.length_filter_le ..) (jD R dy))) l30
  generalize ((b8 R dy).filter (lW (Str.ofString "kept") ds dy)).filter (bY R rk) = ka at kh ord lk1
  generalize ((b8 R dy).filter (lW (Str.ofString "plain") ds dy)).filter (bY R rk) = pa at ph ord lp1
  rw [ord] at hoc
  walk_at "rd"
  refine ⟨q,_,_,_,rfl,rfl,ah.of (s2 _ _ a0),hoi,?_⟩
  walk_at "rd"
  refine ⟨lk,_,rfl,.inl (ah.of kh),?_⟩
  refine ⟨_,rfl,oi,_,rfl,ah.of (s2 _ _ hoc),fun p1 hp1=>?_⟩
  have cu1:fZ ((ka ++ pa).map V.int) none (some ((ka.map V.int).length:Int)) = ka.map V.int:=by
   rw [jq,List.map_append,List.take_left']
   rfl
  rw [cu1]
  have t1:=aG.new (o:=HO.lst (ka.map V.int)) hp1
  have k1:=aB (H:=pG) (a:=p1) (o:=.lst (ka.map V.int))
  generalize upd pG p1 (.lst (ka.map V.int)) = Gu at t1 k1 ⊢
  refine ⟨p1,ka,rfl,ah.of k1,by omega,fun x1 ms1 hx1 pm1 oF=>?_⟩
  have t2:=aG.new (o:=HO.lst (ms1.map V.int)) hx1
  have k2:=aB (H:=Gu) (a:=x1) (o:=.lst (ms1.map V.int))
  generalize upd Gu x1 (.lst (ms1.map V.int)) = Gv at t2 k2 ⊢
  refine ⟨_,rfl,lk,ka,rfl,ah.of (t2 _ _ (t1 _ _ kh)),by omega,fun x2 ms2 hx2 pm2 so2=>?_⟩
  have t3:=aG.new (o:=HO.lst (ms2.map V.int)) hx2
  have k3:=aB (H:=Gv) (a:=x2) (o:=.lst (ms2.map V.int))
  have k2:=t3 _ _ k2
  have t123:=t1.trans (t2.trans t3)
  generalize upd Gv x2 (.lst (ms2.map V.int)) = Gw at t123 k2 k3 ⊢
  have em:ms1 = ms2:=iF oF so2 (pm1.trans pm2.symm)
  refine ⟨0,_,by decide,bZ.vL (ah.of k2) (ah.of k3) (m9 _) (m9 _),_,rfl,?_⟩
  rw [i6,decide_eq_true em]
  refine aq ?_
  have s3:=s2.trans t123
  have kh:=t123 _ _ kh
  have ph:=t123 _ _ ph
  clear k1 k2 k3 t1 t2 t3 hp1 hx1 hx2 cu1 em pm1 pm2 oF so2
  walk_at "rd"
  refine ⟨lk,_,rfl,.inl (ah.of kh),?_⟩
  refine ⟨_,rfl,oi,_,rfl,ah.of (s3 _ _ hoc),fun p1 hp1=>?_⟩
  have cu1:fZ ((ka ++ pa).map V.int) (some ((ka.map V.int).length:Int)) none = pa.map V.int:=by
   rw [vY,List.map_append,List.drop_left']
   rfl
  rw [cu1]
  have t1:=aG.new (o:=HO.lst (pa.map V.int)) hp1
  have k1:=aB (H:=Gw) (a:=p1) (o:=.lst (pa.map V.int))
  generalize upd Gw p1 (.lst (pa.map V.int)) = Gx at t1 k1 ⊢
  refine ⟨p1,pa,rfl,ah.of k1,by omega,fun x1 ms1 hx1 pm1 oF=>?_⟩
  have t2:=aG.new (o:=HO.lst (ms1.map V.int)) hx1
  have k2:=aB (H:=Gx) (a:=x1) (o:=.lst (ms1.map V.int))
  generalize upd Gx x1 (.lst (ms1.map V.int)) = Gy at t2 k2 ⊢
  refine ⟨_,rfl,lp,pa,rfl,ah.of (t2 _ _ (t1 _ _ ph)),by omega,fun x2 ms2 hx2 pm2 so2=>?_⟩
  have t3:=aG.new (o:=HO.lst (ms2.map V.int)) hx2
  have k3:=aB (H:=Gy) (a:=x2) (o:=.lst (ms2.map V.int))
  have k2:=t3 _ _ k2
  have t123:=t1.trans (t2.trans t3)
  generalize upd Gy x2 (.lst (ms2.map V.int)) = Gz at t123 k2 k3 ⊢
  have em:ms1 = ms2:=iF oF so2 (pm1.trans pm2.symm)
  refine ⟨0,_,by decide,bZ.vL (ah.of k2) (ah.of k3) (m9 _) (m9 _),_,rfl,?_⟩
  rw [i6,decide_eq_true em]
  refine aq ?_
  exact ⟨s3.trans t123,_,_,_,_,_,rfl⟩
set_option maxHeartbeats 4000000 in
theorem yf (T:Txt w K mg c):ar P w K mg base fN 10 c.a_law c.d_law ["_law_script"] (vQ K):=by
 refine T.law.fn.ok dA (fun vs H Q E h=>?_) (fun cdv A outer s H vs Q E hr h=>?_)
 ·obtain ⟨a,ns,rfl,_⟩:=h
  rfl
 ·obtain ⟨a,ns,rfl,hS,hn,k⟩:=h
  refine ⟨_,(ag (aN (i:=0) dA.nd rfl (Or.inr rfl) (cX (N':=["_law_cell", "_law_script"]) (js:=[none,some 0]) rfl rfl (by decide +kernel) (by decide +kernel) (bu ["_law_script"] (by decide +kernel) (aM (.inl rfl) bB)) (cf rfl (aM (fun j e=>nomatch e) (aM (fun j e=>by cases e; exact ⟨rfl,rfl,.inl rfl⟩) bB))) (bW (pv 0)) (fun B=>⟨(aQ (i:=0) (show List.Nodup (["_law_cell", "_law_script"]:List Str) by decide +kernel) rfl (Or.inl rfl)),dO,(aP bj (aP dU aE (pv 0)) (aP av (af (uK rfl) rfl T.no_sum zC (aA (dN gk (pv 1) dM (c9 aE)) aD)) aE))⟩)))
   (aC (aN (i:=1) dA.nd rfl (Or.inl rfl) (aU (sf T) (hr.mono (by decide)) rfl T.Lwords.mgf T.Lwords.kp T.Lwords.bi .nil ak (aA (aU (gP T) (hr.mono (by decide)) rfl T.Lcell_at.mgf T.Lcell_at.kp T.Lcell_at.bi .nil ak (aA (pv 0) (aA aE aD))) aD)))
   (aC (aN (i:=2) dA.nd rfl (Or.inl rfl) (dN gk (pv 0) (c9 aE) (c9 aE)))
   (aC (aN (i:=3) dA.nd rfl (Or.inr rfl) (aU (vU T) (hr.mono (by decide)) rfl T.Lrows.mgf T.Lrows.kp T.Lrows.bi .nil ak (aA (rH (pv 2) dM dM (c9 aE)) (aA (pv 1) (aA (aU (qv T) (hr.mono (by decide)) rfl T.Lsheets.mgf T.Lsheets.kp T.Lsheets.bi .nil ak (aA (aU (gP T) (hr.mono (by decide)) rfl T.Lcell_at.mgf T.Lcell_at.kp T.Lcell_at.bi .nil ak (aA (pv 0) (aA aE aD))) aD)) aD)))))
   (aC (aN (i:=4) dA.nd rfl (Or.inl rfl) (aU (tO T) (hr.mono (by decide)) rfl T.Lright.mgf T.Lright.kp T.Lright.bi .nil ak (aA (pv 3) aD)))
   (aC (aN (i:=5) dA.nd rfl (Or.inr rfl) (aU (sV T) (hr.mono (by decide)) rfl T.Ldeeds.mgf T.Ldeeds.kp T.Ldeeds.bi .nil ak (aA (rH (pv 2) (c9 aE) dM (c9 aE)) (aA (pv 4) aD))))
   (aC (aN (i:=6) dA.nd rfl (Or.inl rfl) (aU (oj T) (hr.mono (by decide)) rfl T.Lentries.mgf T.Lentries.kp T.Lentries.bi .nil ak (aA (pv 3) aD)))
   (aC (aN (i:=7) dA.nd rfl (Or.inl rfl) (aU (vX T) (hr.mono (by decide)) rfl T.Lacts.mgf T.Lacts.kp T.Lacts.bi .nil ak (aA (pv 5) aD)))
   (ag (cM (i:=8) dA.nd rfl rfl (N':=["_law_k", "_law_script"]) (js:=[none,some 0]) rfl rfl (by decide +kernel) (by decide +kernel) (bu ["_law_script"] (by decide +kernel) (aM (.inl rfl) bB)) (cf rfl (aM (fun j e=>nomatch e) (aM (fun j e=>by cases e; exact ⟨rfl,rfl,.inl rfl⟩) bB))) (cZ rfl T.no_range (aA aE aD)) (fun B=>⟨(aQ (i:=0) (show List.Nodup (["_law_k", "_law_script"]:List Str) by decide +kernel) rfl (Or.inl rfl)),dO,(aU (de T) (hr.mono (by decide)) rfl T.Ldraw.mgf T.Ldraw.kp T.Ldraw.bi .nil ak (aA (aU (gP T) (hr.mono (by decide)) rfl T.Lcell_at.mgf T.Lcell_at.kp T.Lcell_at.bi .nil ak (aA (pv 1) (aA aE aD))) (aA (aP bj aE (pv 0)) aD)))⟩))
   (ag (aN (i:=9) dA.nd rfl (Or.inl rfl) (af (d7 rfl) rfl T.no_sorted fP (aA (cX (N':=["_law_draw_here", "_law_rows_here", "_law_deeds_here"]) (js:=[none,some 3,some 5]) rfl rfl (by decide +kernel) (by decide +kernel) (bu ["_law_rows_here", "_law_deeds_here"] (by decide +kernel) (aM (.inl rfl) (aM (.inl rfl) bB))) (cf rfl (aM (fun j e=>nomatch e) (aM (fun j e=>by cases e; exact ⟨rfl,rfl,.inl rfl⟩) (aM (fun j e=>by cases e; exact ⟨rfl,rfl,.inl rfl⟩) bB)))) (bW (pv 8)) (fun B=>⟨(aQ (i:=0) (show List.Nodup (["_law_draw_here", "_law_rows_here", "_law_deeds_here"]:List Str) by decide +kernel) rfl (Or.inl rfl)),dO,(aU (wV T) (hr.mono (by decide)) rfl T.Lday.mgf T.Lday.kp T.Lday.bi .nil ak (aA (pv 1) (aA (pv 2) (aA (pv 0) aD))))⟩)) aD)))
   (aC (aN (i:=10) dA.nd rfl (Or.inl rfl) ez)
   (aC (cU PassesOwn.never rfl (cZ rfl T.no_range (aA aE aD)) (aQ (i:=11) dA.nd rfl (Or.inl rfl))
    (aC (aN (i:=12) dA.nd rfl (Or.inl rfl) (aU (jz T) (hr.mono (by decide)) rfl T.Lall.mgf T.Lall.kp T.Lall.bi .nil ak (aA (pv 6) (aA (pv 7) (aA (aY ae (pv 9) (pv 11) (fun _ _=>rfl)) aD)))))
   (aC (ai (PW.pt (kF (bh (bo (af cQ rfl T.no_isinstance bJ (aA (aY ae (pv 12) aE (fun _ _=>rfl)) (aA (eZ (v:=.ty "dict") rfl T.no_dict wR rfl) aD))))) (jI (bh (lV (aU (qk T) (hr.mono (by decide)) rfl T.Lorders.mgf T.Lorders.kp T.Lorders.bi .nil ak (aA (pv 12) (aA (pv 4) aD))) (fun _=>rfl))))))
    (aH (aR eK))
    aO)
   (aC (ai (bh (bo (aU (tj T) (hr.mono (by decide)) rfl T.Ltold.mgf T.Ltold.kp T.Ltold.bi .nil ak (aA (pv 6) (aA (pv 7) (aA (aY ae (pv 9) (pv 11) (fun _ _=>rfl)) (aA (pv 12) aD)))))))
    (aH (aR eK))
    aO)
   (aC (ai (PW.pt (cR (cS (eh (pv 10))) (bw (aW (qx (iE hr)) (pv 10) (pv 12) (aX _)))))
    (aH (ai (lV (aU (t7 T) (hr.mono (by decide)) rfl T.Lquiet.mgf T.Lquiet.kp T.Lquiet.bi .nil ak (aA (pv 3) (aA (pv 5) (aA (pv 4) (aA (aY ae (pv 9) (aP vc (pv 11) aE) (fun _ _=>rfl)) (aA (aY ae (pv 9) (pv 11) (fun _ _=>rfl)) aD)))))) (fun _=>rfl))
    (aH (aR eK))
    aO))
    aO)
   (aH (aN (i:=10) dA.nd rfl (Or.inl rfl) (pv 12))))))))
   (aH (aR eK)))))))))))))),?_⟩
  have sz:2000 < sizeLine:=aJ rfl
  have lm:(ns.map V.int).length = ns.length:=List.length_map ..
  have e6:(10:Int) ^ Int.toNat 6 = 1000000:=by decide
  have e9:(10:Int) ^ Int.toNat 9 = 1000000000:=by decide
  refine ⟨fun σ' G'=>aG H G' ∧ ∃ l,∃ ms:List Int,G' l = some (.lst (ms.map V.int)) ∧ ms.length = ns.length ∧ σ' = [some (.ref l),none,none,none,none,none,none,none,none,none,none,none,none],?_,?_⟩
  ·refine ⟨_,rfl,a,rfl,⟨_,hS⟩,fun l B hl=>?_⟩
   refine ny (P:=fun _ v=>∃ z,v = V.int z) hl hS (by omega) (fun σ=>∃ o,σ = [o,some (.ref a)]) ⟨_,rfl⟩ ?_ ?_
   ·rintro i x σ G Kt hx ⟨o,rfl⟩ sG kt
    obtain ⟨y,_,rfl⟩:=List.mem_map.mp (List.mem_of_getElem? hx)
    walk_at "rd"
    refine ⟨a,_,rfl,sG.seq hS,fun p hp=>?_⟩
    refine ⟨p,ns.take 1,rfl,ah.of (by rw [aB,show fZ (ns.map V.int) none (some 1) = (ns.map V.int).take 1 from jq _ 1,List.map_take]),fun r=>?_⟩
    walk_at "rd"
    exact kt _ _ _ ⟨_,rfl⟩ (aG.new hp) ⟨_,rfl⟩
   intro G1 acc s1 h1 l1 hp
   obtain ⟨ms,rfl⟩:=ff hp
   rw [List.length_map,lm] at l1
   exact ⟨s1,l,ms,h1,l1,rfl⟩
  rintro σ G1 ⟨s1,l,ms,h1,l1,rfl⟩
  refine ⟨_,rfl,l,0,ms,rfl,by decide,ah.of h1,fun c0=>⟨c0,rfl,fun zs wl G2 lz hz s2 fwl hwl=>?_⟩⟩
  have h1:=s2 _ _ h1
  walk_at "rd"
  refine ⟨l,_,rfl,ah.of h1,fun cl hcl=>?_⟩
  obtain ⟨cs,hc,lc⟩:∃ cs:List Int,fZ (ms.map V.int) (some 3) (some 59) = cs.map V.int ∧ cs.length ≤ 56:=uZ ms 3 59
  rw [hc]
  have t3:=aG.new (o:=HO.lst (cs.map V.int)) hcl
  have kcl:=aB (H:=G2) (a:=cl) (o:=.lst (cs.map V.int))
  have h1:=t3 _ _ h1
  have hwl:=t3 _ _ hwl
  generalize upd G2 cl (.lst (cs.map V.int)) = G3 at t3 kcl h1 hwl ⊢
  have lcm:(cs.map V.int).length = cs.length:=List.length_map ..
  have step:∀ lo,∃ cs':List Int,kl (cs.map V.int) lo none 2 = cs'.map V.int:=fun lo=>ff fun i v hv=>by
   obtain ⟨z,_,e⟩:=List.mem_map.mp (tS (List.mem_of_getElem? hv))
   exact ⟨z,e.symm⟩
  obtain ⟨ca,hca⟩:=step none
  obtain ⟨cb,hcb⟩:=step (some 1)
  refine ⟨_,rfl,_,rfl,cl,_,2,rfl,rfl,by decide,ah.of kcl,fun lca p1 hp1=>?_⟩
  rw [hca] at lca ⊢
  rw [List.length_map,lcm] at lca
  have t4:=aG.new (o:=HO.lst (ca.map V.int)) hp1
  have kp1:=aB (H:=G3) (a:=p1) (o:=.lst (ca.map V.int))
  have h1:=t4 _ _ h1
  have hwl:=t4 _ _ hwl
  have kcl:=t4 _ _ kcl
  generalize upd G3 p1 (.lst (ca.map V.int)) = G3' at t4 kp1 h1 hwl kcl ⊢
  refine ⟨_,rfl,_,rfl,l,1,ms,rfl,by decide,ah.of h1,fun c1=>⟨c1,rfl,fun ss sl G4 ls hs s4 fsl hsl=>?_⟩⟩
  refine ⟨p1,ca,wl,zs,sl,ss,rfl,ah.of (s4 _ _ kp1),by omega,s4 _ _ hwl,lz,hz,hsl,ls,hs,fun rl ws es G5 s5 frl hrl hR hB el5=>?_⟩
  have h1:=s5 _ _ (s4 _ _ h1)
  have kcl:=s5 _ _ (s4 _ _ kcl)
  have okk:=hB.ok
  have nd:=hB.nd
  have rok:=gO okk nd
  have l33:es.length ≤ 56:=by omega
  have lo:(aZ es).o.length = es.length:=by
   rw [← List.length_map (f:=fun p:Int × Str=>p.1),dD,List.length_map]
  have lr:(aZ es).r.length ≤ es.length:=by
   have h1:((aZ es).r.map (·.e.n)).length ≤ ((aZ es).o.map (·.1)).length:=kM rok.rn fun x hx=>by
    obtain ⟨y,hy,rfl⟩:=List.mem_map.mp hx
    exact rok.sub y hy
   rw [List.length_map,List.length_map,lo] at h1
   exact h1
  have hday:∀ x ∈ (aZ es).r,1 ≤ x.e.d ∧ x.e.d ≤ 60000:=fun x hx=>by
   have:=hB.dd x.e ((iw es).1 x hx).1
   omega
  clear s1 s2 s4 s5 t3 t4 hwl hsl frl fsl fwl hcl kp1 hp1
  refine ⟨_,rfl,rl,ws,es,rfl,hrl,hR,okk,nd,by omega,fun d kr G6 s6 fd hd pR=>?_⟩
  have h1:=s6 _ _ h1
  have hrl:=s6 _ _ hrl
  have kcl:=s6 _ _ kcl
  have hR:=hR.same s6
  walk_at "rd"
  refine ⟨cl,_,2,rfl,rfl,by decide,ah.of kcl,fun lcb cl2 hcl2=>?_⟩
  rw [hcb] at lcb ⊢
  rw [List.length_map,lcm] at lcb
  have t6:=aG.new (o:=HO.lst (cb.map V.int)) hcl2
  have kcl2:=aB (H:=G6) (a:=cl2) (o:=.lst (cb.map V.int))
  have h1:=t6 _ _ h1
  have hrl:=t6 _ _ hrl
  have hR:=hR.same t6
  have hd:=t6 _ _ hd
  have pR:Paired (eX (upd G6 cl2 (.lst (cb.map V.int))) (aZ es).r) (aZ es).r kr:=Paired.dn pR fun x q z=>z.keep fun t xs h=>t6 _ _ h
  generalize upd G6 cl2 (.lst (cb.map V.int)) = G7 at kcl2 h1 hrl hR hd pR ⊢
  refine ⟨_,rfl,cl2,cb,d,kr,(aZ es).r,rfl,ah.of kcl2,by omega,hd,pR,rok.rn,by omega,hday,fun dl us ds G8 s8 fdl hdl hD hG ld=>?_⟩
  have s78:=s8
  refine ⟨_,rfl,rl,ws,es,rfl,s78 _ _ hrl,hR.same s78,okk,by omega,fun el ec G9 s9 fel hel hE=>?_⟩
  have good:∀ x ∈ ds,bX (.str x.z) = true ∧ inR 1000000 (.int x.d) = true ∧ inR 1000000000 (.int x.n) = true:=fun x hx=>by
   obtain ⟨g1,g2,g3,y,hy,e1,_⟩:=hG.each x hx
   have n9:=hB.n9 ((iw es).1 y hy).1
   exact ⟨g1,fB g2 (by omega),by rw [← e1]; exact fB n9.1 (by omega)⟩
  refine ⟨_,rfl,dl,us,ds,rfl,s9 _ _ hdl,hD.same s9,good,by omega,fun al ac Ga sa fal hal hA=>?_⟩
  have s9a:=s9.trans sa
  have h1:=s9a _ _ (s78 _ _ h1)
  have hd:=s9a _ _ (s78 _ _ hd)
  have pR:Paired (eX Ga (aZ es).r) (aZ es).r kr:=Paired.dn pR fun x q z=>z.keep fun t xs h=>s9a _ _ (s78 _ _ h)
  have hrl:=s9a _ _ (s78 _ _ hrl)
  have hR:=(hR.same s78).same s9a
  have hdl:=s9a _ _ hdl
  have hD:=hD.same s9a
  have hel:=sa _ _ hel
  have hE:=hE.same sa
  clear s6 s8 s78 s9 sa s9a kcl2 hcl2 t6 fdl fd fel fal kcl
  have lec:=hE.1
  have lac:=hA.1
  have lud:=hD.1
  have aF:=hG.all rok.rn
  have gb:∀ G,aG Ga G → gE G c.c_Entry (.ref el) es:=fun G s=>⟨el,ec,rfl,s _ _ hel,hE.same s,okk,by omega,hB.bk⟩
  have ga:∀ G,aG Ga G → cO G c.c_Act (aZ es).r (.ref al) ac ds:=fun G s=>⟨al,rfl,s _ _ hal,by omega,hA.same s,aF⟩
  have hdkk:∀ x ∈ ds,bX (.str x.z) = true:=fun x hx=>(hG.each x hx).1
  refine ⟨fun σ' G'=>aG Ga G' ∧ ∃ ql,∃ rs:List Int,σ' = [some (.ref l),some (.ref wl),some (.ref cl),some (.ref rl),some (.ref d),some (.ref dl),some (.ref el),some (.ref al),some (.ref ql),none,none,none,none] ∧ G' ql = some (.lst (rs.map V.int)) ∧ rs.length = 3 ∧ ∀ r ∈ rs,0 ≤ r,?_,?_⟩
  ·walk_at "rd"
   refine ⟨by decide,by decide,fun ql B hql=>?_⟩
   refine jA (n:=(3:Int).toNat) (P:=fun _ v=>∃ s:Int,v = .int s ∧ 0 ≤ s) hql (by decide) (fun σ=>∃ o,σ = [o,some (.ref l)]) ⟨_,rfl⟩ ?_ ?_
   ·rintro j σ G Kt hj ⟨o,rfl⟩ sG kt
    have hj:j < 3:=hj
    refine ⟨_,rfl,l,2,ms,rfl,by decide,ah.of (sG _ _ h1),fun c2=>?_⟩
    walk_at "rd"
    exact ⟨by omega,by omega,fun r r0 r1=>kt _ _ _ ⟨_,rfl⟩ (aG.refl _) ⟨_,rfl,r0⟩⟩
   ·intro G acc sG h1 h2 h3
    obtain ⟨rs,rfl⟩:=ff (acc:=acc) fun i v hv=>let ⟨s,e,_⟩:=h3 i v hv; ⟨s,e⟩
    refine ⟨sG,ql,rs,rfl,h1,by rw [List.length_map] at h2; exact h2,fun s hs=>?_⟩
    obtain ⟨i,hi⟩:=List.getElem?_of_mem (List.mem_map_of_mem (f:=V.int) hs)
    obtain ⟨s',e,a⟩:=h3 i _ hi
    cases e
    exact a
  rintro σ Gb ⟨sb,ql,rs,rfl,hql,lrs,hrs⟩
  refine ⟨fun σ' G'=>aG Ga G' ∧ ∃ yl,∃ ys:List Int,σ' = [some (.ref l),some (.ref wl),some (.ref cl),some (.ref rl),some (.ref d),some (.ref dl),some (.ref el),some (.ref al),some (.ref ql),some (.ref yl),none,none,none] ∧ G' yl = some (.lst (ys.map V.int)) ∧ ys.length = 3 ∧ ys.Pairwise (· ≤ ·) ∧ ∀ y ∈ ys,1 ≤ y ∧ y ≤ 1000000,?_,?_⟩
  ·refine ⟨_,rfl,ql,rfl,⟨_,ah.of hql⟩,fun q B hq=>?_⟩
   refine ny (P:=fun _ v=>∃ z,v = V.int z ∧ 1 ≤ z ∧ z ≤ 1000000) hq (ah.of hql) (by rw [List.length_map]; omega) (fun σ=>∃ o,σ = [o,some (.ref rl),some (.ref dl)]) ⟨_,rfl⟩ ?_ ?_
   ·rintro i x σ G Kt hx ⟨o,rfl⟩ sG kt
    obtain ⟨y,hy,rfl⟩:=List.mem_map.mp (List.mem_of_getElem? hx)
    have sG:=sb.trans sG
    exact ⟨_,rfl,_,rfl,_,rfl,rl,ws,es,dl,us,ds,y,rfl,sG _ _ hrl,hR.same sG,by omega,sG _ _ hdl,hD.same sG,by omega,hrs y hy,fun dy G' s' y1 y2=>kt _ _ _ ⟨_,rfl⟩ s' ⟨dy,rfl,y1,y2⟩⟩
   ·intro G acc sG h1 h2 h3
    obtain ⟨ts,rfl⟩:=ff (acc:=acc) fun i v hv=>let ⟨s,e,_⟩:=h3 i v hv; ⟨s,e⟩
    rw [List.length_map,List.length_map] at h2
    refine ⟨q,ts,rfl,ah.of h1,by omega,fun yl ys hyl pm so=>?_⟩
    refine ⟨sb.trans (sG.trans (aG.new hyl)),yl,ys,rfl,aB,by rw [pm.length_eq]; omega,so,fun y hy=>?_⟩
    obtain ⟨i,hi⟩:=List.getElem?_of_mem (List.mem_map_of_mem (f:=V.int) (pm.subset hy))
    obtain ⟨s',e,a,b⟩:=h3 i _ hi
    cases e
    exact ⟨a,b⟩
  clear hql hrs lrs sb
  rintro σ Gc ⟨sc,yl,ys,rfl,hyl,lys,so,bys⟩
  walk_at "rd"
  refine ⟨by decide,by decide,?_⟩
  refine eE (n:=(3:Int).toNat) (lo:=0) (fun i σ G=>aG Gc G ∧ ∃ zb z11 z12,σ = [some (.ref l),some (.ref wl),some (.ref cl),some (.ref rl),some (.ref d),some (.ref dl),some (.ref el),some (.ref al),some (.ref ql),some (.ref yl),some zb,z11,z12] ∧ ((i = 0 ∧ zb = .bI) ∨ ∃ qb db y,zb = .ref qb ∧ 1 ≤ i ∧ ys[i - 1]? = some y ∧ jn G qb db (a8 (aZ es).r ds y) (cD (aZ es).r ds y))) ?_ ?_ ?_
  ·exact ⟨aG.refl _,_,_,_,rfl,.inl ⟨rfl,rfl⟩⟩
  rotate_left
  ·rintro σ G ⟨sG,zb,z11,z12,rfl,_⟩
   exact k _
  rintro i σ G hi ⟨sG,zb,z11,z12,rfl,hzb⟩
  have hi:i < 3:=hi
  obtain ⟨y,hy⟩:∃ y,ys[i]? = some y:=⟨_,List.getElem?_eq_getElem (by omega)⟩
  have by_:=bys y (List.mem_of_getElem? hy)
  have ay:eW (ys.map V.int) (0 + (i:Int)) = some (.int y):=by
   rw [Int.zero_add]
   exact a9 (by rw [List.getElem?_map,hy]; rfl)
  have sa:=sc.trans sG
  refine ⟨_,rfl,_,rfl,_,rfl,_,rfl,yl,_,_,_,rfl,rfl,ah.of (sG _ _ hyl),ay,.ref el,.ref al,y,es,ac,ds,rfl,gb _ sa,by omega,ga _ sa,hdkk,by_.1,by_.2,fun q e G1 s1 fe fq hN=>?_⟩
  have sa1:=sa.trans s1
  obtain ⟨o1,o2,o3,a0,_,_,_⟩:=hN.ex
  have ned:e ≠ d:=fun z=>by rw [z,sa _ _ hd] at fe; cases fe
  have pR1:∀ G',aG Ga G' → Paired (eX G' (aZ es).r) (aZ es).r kr:=fun G' s'=>Paired.dn pR fun x q z=>z.keep fun t xs h=>s' _ _ h
  refine ⟨_,rfl,q,_,_,_,rfl,rfl,ah.of a0,a9 (j:=0) rfl,bP.ty (.dK hN.dt) rfl ⟨_,rfl,aq ?_⟩⟩
  refine ⟨_,rfl,_,rfl,q,e,d,kr,(aZ es).r,ds,y,rfl,hN,sa1 _ _ hd,pR1 _ sa1,rok.rn,by omega,ned,fun G2 s2=>⟨_,rfl,aq ?_⟩⟩
  have sa2:=sa1.trans s2
  refine ⟨_,rfl,_,rfl,_,rfl,_,rfl,yl,_,_,_,rfl,rfl,ah.of (s2 _ _ (s1 _ _ (sG _ _ hyl))),ay,_,rfl,el,ec,al,ac,es,ds,y,q,e,rfl,sa2 _ _ hel,hE.same sa2,sa2 _ _ hal,hA.same sa2,hB,hG,by omega,by_.1,by_.2,hN.same s2,fun G3 s3=>⟨_,rfl,aq ?_⟩⟩
  have sa3:=sa2.trans s3
  have s13:=s1.trans (s2.trans s3)
  have hN3:=hN.same (s2.trans s3)
  have hyl3:=s13 _ _ (sG _ _ hyl)
  have last:∀ G',aG G3 G' → jn G' q e (a8 (aZ es).r ds y) (cD (aZ es).r ds y) ∧ aG Gc G':=fun G' s'=>⟨hN3.same s',sG.trans (s13.trans s')⟩
  have hy':ys[i + 1 - 1]? = some y:=by rw [Nat.add_sub_cancel]; exact hy
  rcases hzb with ⟨i0,rfl⟩ | ⟨qb,db,yb,rfl,i1,hyb,hNb⟩
  ·refine ⟨_,rfl,_,rfl,aq ?_⟩
   exact ⟨_,rfl,(last _ (aG.refl _)).2,_,_,_,rfl,.inr ⟨q,e,y,rfl,by omega,hy',hN3⟩⟩
  refine ⟨_,rfl,_,rfl,bK ?_⟩
  have nde:db ≠ e:=fun z=>by have:=hNb.dt; rw [z,fe] at this; cases this
  obtain ⟨b,hb,hbe⟩:=rm (K:=K) (hNb.same s13) hN3 nde rok.rn
  refine ⟨_,rfl,_,rfl,b,hb,_,rfl,?_⟩
  cases b with
  | true=>exact aq ⟨_,rfl,(last _ (aG.refl _)).2,_,_,_,rfl,.inr ⟨q,e,y,rfl,by omega,hy',hN3⟩⟩
  | false =>
   refine bK ?_
   have ayb:eW (ys.map V.int) (0 + (i:Int) - 1) = some (.int yb):=by
    rw [show 0 + (i:Int) - 1 = ((i - 1:Nat):Int) by omega]
    exact a9 (by rw [List.getElem?_map,hyb]; rfl)
   have yle:yb ≤ y:=by
    have h1:=List.getElem?_eq_some_iff.mp hyb
    have h2:=List.getElem?_eq_some_iff.mp hy
    obtain ⟨p1,e1⟩:=h1
    obtain ⟨p2,e2⟩:=h2
    rw [← e1,← e2]
    exact List.pairwise_iff_getElem.mp so (i - 1) i p1 p2 (by omega)
   walk_at "rd"
   refine ⟨yl,_,_,_,rfl,rfl,ah.of hyl3,ayb,?_⟩
   refine ⟨_,rfl,_,rfl,yl,_,_,_,rfl,rfl,ah.of hyl3,ay,?_⟩
   refine ⟨rl,ws,es,dl,us,ds,d,kr,(aZ es).r,yb,y,rfl,sa3 _ _ hrl,hR.same sa3,by omega,sa3 _ _ hdl,hD.same sa3,sa3 _ _ hd,pR1 _ sa3,fun bb G4 s4 hq=>⟨_,rfl,?_⟩⟩
   cases bb with
   | false=>exact aq ⟨_,rfl,(last _ s4).2,_,_,_,rfl,.inr ⟨q,e,y,rfl,by omega,hy',(last _ s4).1⟩⟩
   | true =>
    exfalso
    obtain ⟨q1,q2⟩:=hq rfl
    have r1:∀ x ∈ (aZ es).r,x.e.b = none → yb < x.e.d → y < x.e.d:=fun x hx hb hlt=>by
     rcases Int.lt_or_le y x.e.d with z | z
     ·exact z
     ·have:=q1 x.e ((iw es).1 x hx).1 hlt z hb
      rw [bR rok.rn hx] at this
      cases this
    have r2:∀ x ∈ ds,yb < x.d → y < x.d:=fun x hx hlt=>by
     have:=q2 x hx hlt
     omega
    obtain ⟨e1,e2⟩:=qX yle r1 r2
    exact absurd (hbe e1 e2) (by decide)
end
theorem fO {K:W.Frag} {h:Heap} {mg:Str → Option Value} {x:Str} {st:Stmt} {ps:List Str} {f:Addr} {oc:Value} {od an:Option Addr} {osl:Array (Option Value)} {kV doc pm cdv ct:Value} (X:K.In h) (G:h.Ns mainGlobals mg) (a:W.nsIn K mainGlobals x = some (some (.ref f)))
  (l:K.lookup f = some ⟨oc,od,.func (W.fnOf x x (cn st) (cK st) (aK st) .none kV doc pm an cdv ct),osl⟩) (c:W.codeIn K cdv x = true) (k:W.keepIn K (.ref f) = true)
  (b:∀ (kV doc pm:Value) (an:Option Addr) (cdv ct:Value) (us:List Value),us.length = ps.length → bindArgs (W.fnOf x x (cn st) (cK st) (aK st) .none kV doc pm an cdv ct) ⟨us,[]⟩ = pure (ps.zip us)):Fn K mg x st ps f (W.fnOf x x (cn st) (cK st) (aK st) .none kV doc pm an cdv ct):=⟨di l c k,PySem.W.mg_of X G a,(di l c k).binds b⟩
theorem BU {w:World} {K:W.Frag} {u:Addr} {kvs:List (Str × V)} {e:List DictEntry} {n:Nat} (h1:K.lookup u = some ⟨.type "dict",none,.dict e.toArray n,#[]⟩) (h2:Paired (jx w) kvs e) (h3:(kvs.map (·.1)).Nodup):gH w K u kvs:=⟨⟨_,_,h1,h2⟩,h3⟩
theorem mq {K:W.Frag} {a:Addr} {n:Str} (h:W.findIn K (.ref a) n = some none):bV K a n:=h
theorem BY {K:W.Frag} {a:Addr} {o:Obj} {xs:List V} {i:List Value} {n:Nat} (hk:K.lookup a = some o) (hc:o.cls = .type "tuple") (hd:o.data = .seq i.toArray n) (hv:Vals xs i) (hz:xs.length ≤ sizeLine):∀ H,bp K H a xs:=fun H=>yO hk hc hd (by rw [List.size_toArray,← hv.length]; exact hz) (by simpa using hv)
theorem all_mk {l:PySem.W.OpenLaw} {w:World} {K:W.Frag} {mg:Str → Option Value} {fa:Addr} {x0 x2 x4 x6 x8 x10 x12 x14 x16 x18 x20 x22 x24 x26 x28 x30 x32 x34 x36 x38 x40 x42 x44 x46 x48 x50 x52 x54 x56 x58 x60 x62 x64 x66 x68 x70 x72 x74 x76 x78 x80 x82 x84 x85 x86 x88 x89 x91 x92 x94 x95 x97 x99 x101 x106 x107 x108 x109 x110 x111 x112 x113 x114 x115 x116 x117 x118 x119:Addr} {x1 x3 x5 x7 x9 x11 x13 x15 x17 x19 x21 x23 x25 x27 x29 x31 x33 x35 x37 x39 x41 x43 x45 x47 x49 x51 x53 x55 x57 x59 x61 x63 x65 x67 x69 x71 x73 x75 x77 x79 x81 x83 x87 x90 x93 x96 x98 x100 x102 x120:FuncData} {x103 x104 x105:Value}
    (hfa:mg "law" = some (.ref fa)) (T:Txt w K mg ⟨x0,x1,x2,x3,x4,x5,x6,x7,x8,x9,x10,x11,x12,x13,x14,x15,x16,x17,x18,x19,x20,x21,x22,x23,x24,x25,x26,x27,x28,x29,x30,x31,x32,x33,x34,x35,x36,x37,x38,x39,x40,x41,x42,x43,x44,x45,x46,x47,x48,x49,x50,x51,x52,x53,x54,x55,x56,x57,x58,x59,x60,x61,x62,x63,x64,x65,x66,x67,x68,x69,x70,x71,x72,x73,x74,x75,x76,x77,x78,x79,x80,x81,x82,x83,x84,x85,x86,x87,x88,x89,x90,x91,x92,x93,x94,x95,x96,x97,x98,x99,x100,x101,x102,x103,x104,x105,x106,x107,x108,x109,x110,x111,x112,x113,x114,x115,x116,x117,x118,x119,x120⟩):∃ fd:FuncData,(∀ (s:Shared) (v:Value),BindsTo s fd ⟨[v],[]⟩ [("_law_script",v)]) ∧ ∀ base:Heap,K.In base → base.Ns mainGlobals mg → ar l.prog w K mg base fN 10 fa fd ["_law_script"] (vQ K):=by
  cases hfa.symm.trans T.law.mgf
  obtain ⟨_,_,_,_,_,_,_,_,_,e,_⟩:=T.law.fn.ex
  exact ⟨_,fun s v=>by rw [e]; exact .of_eq rfl,fun base _ _=>yf T⟩
end My
namespace PySem.W.Fast
def tw12991305750840413499:=0
def tw18200574700953264682:=0
def tw3437949698677080746:=0
def tw6769395948274465554:=0
def tw17173529706325278750:=0
def tw8073275083447095064:=0
def tw9335754897277209008:=0
def tw4533193500050669770:=0
def tw4507332921214139262:=0
def tw16148045966182297905:=0
def tw15824472040762608851:=0
def tw4651612902662858448:=0
def tw8200542253545240301:=0
def tw9506935526469553248:=0
def tw12436288582784987551:=0
def tw16537674083655246512:=0
def tw5181938709281686875:=0
def tw770307964541276679:=0
def tw9478354941762349952:=0
def tw5098274685893790865:=0
def tw1158778887706392832:=0
def tw8380718440526798575:=0
def tw6696680478611979373:=0
def tw2298600625334777452:=0
def tw17945490176398002785:=0
def tw10273845512643524981:=0
def tw11450501507636286492:=0
def tw17747799746039963480:=0
def tw908026274504296607:=0
def tw8084972443766694143:=0
def tw3650598203129083264:=0
def tw9363271378870254046:=0
def tw7811929203320845458:=0
def tw7855157446580771657:=0
def tw10213281468841412320:=0
def tw18089172926245366760:=0
def tw368685794292543672:=0
def tw526149407885047683:=0
def tw986536930869856772:=0
def tw6460755607018692123:=0
def tw9819063760442287468:=0
def tw17303246447624807455:=0
def tw1210325776224420806:=0
def tw18027317678437695889:=0
def tw125550340701541518:=0
def tw15389896154601865470:=0
def tw6292896371585169202:=0
def tw17570791681700555808:=0
def tw16120108129953838333:=0
def tw6131227981448398450:=0
def tw15246216878768333155:=0
def tw14541500505824615716:=0
def tw1701538781061788793:=0
def tw18147951831493565942:=0
def tw3150055967030311316:=0
def tw4856946989974912550:=0
def tw9671286174827640000:=0
def tw13019832145019165059:=0
def tw848577199999069876:=0
def tw473665380276258104:=0
def tw2874619994693620142:=0
def tw10996081412495400959:=0
def tw12161754952773391239:=0
def tw2415092778170308661:=0
def tw4599540034230528265:=0
def tw10607927978686711739:=0
def tw3345958942579671892:=0
def tw7351492131856529565:=0
def tw5632265571099327588:=0
def tw6565266394643873152:=0
def tw7341767432917592218:=0
def tw14434501427640487093:=0
def tw13893099062923741106:=0
def tw7579084004108986430:=0
def tw14535391596449357563:=0
def tw8360911687180878768:=0
def tw14926177870855675848:=0
def tw15076266472267420113:=0
def tw10805111563864343931:=0
def tw14581570596702593986:=0
def tw11136724953800926741:=0
def tw7366849318086649728:=0
def tw3570781620053557571:=0
def tw14815316510331317500:=0
def tw15233898048400979380:=0
def tw14543638831508297989:=0
def tw7798201573132841310:=0
def tw9669270149603690924:=0
def tw7738457279139376228:=0
def tw9353132784913827622:=0
def tw10202608044759760993:=0
def tw16439287752281467417:=0
def tw1322115634081942774:=0
def tw14675361140467267619:=0
def tw14733438575873326362:=0
def tw15566709265050880137:=0
def tw284189242794387479:=0
def tw11264738319369987923:=0
def tw17816108299954124041:=0
def tw10275390806381878658:=0
def tw1994183198581694260:=0
def tw9138911014288666089:=0
def tw12985424603242741634:=0
def tw14967034055693604405:=0
def tw13916097370450286298:=0
def tw2763360951410264940:=0
def tw15891616029181048992:=0
def tw3656053004490628903:=0
def tw4886998302481009563:=0
def tw57534344308289172:=0
def tw6988129278035780441:=0
def tw14358940496394152843:=0
def tw16258488029753803137:=0
def tw14097894068865483080:=0
def tw12542465835572500810:=0
def tw16814356326272799588:=0
def tw1311645327847679496:=0
def tw15816970713443450233:=0
def tw16604649153306482625:=0
def tw9326276502691488076:=0
def tw8834833562809753641:=0
def tw6444417722864019777:=0
def tw5998796935045343217:=0
def tw8240000431861125993:=0
def tw6151946690404821176:=0
def tw14418178117039286885:=0
def tw3929463742773838702:=0
def tw13405215053297923296:=0
def tw14784337268623916445:=0
def tw9327664500207290251:=0
def tw9293392615867405240:=0
def tw14409381897264599546:=0
def tw9480603666134036495:=0
def tw5410389783280513928:=0
def tw12260184517200590629:=0
def tw13528788024102279178:=0
def tw6494740463211237263:=0
def tw14623935782776955195:=0
def tw225046336108027668:=0
def tw15265002460886908399:=0
def tw6239765747744054955:=0
def tw14486383400904972401:=0
def tw15287205441935338664:=0
def tw9725906823810389618:=0
def tw18323321174471975061:=0
def tw13389254718847354671:=0
def tw10829102484940247342:=0
def tw10131724126930759066:=0
def tw8092780066067227521:=0
def tw11668514410532615334:=0
def tw2267607480189146247:=0
def tw13178612268685838582:=0
def tw8002044528203842146:=0
def tw7447261490231639639:=0
def tw16428473514196444493:=0
def tw503628019788503731:=0
def tw6706489845991967114:=0
def tw15616563639233697374:=0
def tw17845765670572086:=0
def tw10126342327996846516:=0
def tw13135303646911630022:=0
def tw5965760292310626575:=0
def tw11168315897125999678:=0
def tw1348738586551914037:=0
def tw12477193462778377320:=0
def tw10553343077619888903:=0
def tw17340404210185825011:=0
def tw10388112183763654039:=0
def tw10287908508760681112:=0
def tw6855436374394826098:=0
def tw1708093092459880733:=0
def tw15541946193407103700:=0
def tw3482000826175316915:=0
def tw3877433691915268302:=0
def tw10305443637341920887:=0
def tw1420514526483046240:=0
def tw12026845359729903348:=0
def tw14567289195669943873:=0
def tw4090978902884875275:=0
def tw13613553797834237173:=0
def tw17162876282998933059:=0
def tw15264169316457526985:=0
def tw11811773475003743990:=0
def tw3235005380368067273:=0
def tw11810250484360282153:=0
def tw13317810889379199158:=0
def tw14064518890728244920:=0
def tw18127152063925714653:=0
def tw11005692198203659280:=0
def tw662980386268131749:=0
def tw2736703908140006401:=0
def tw8312787915480054296:=0
def tw11966839930705193070:=0
def tw12511658798743869166:=0
def tw15783044448431156998:=0
def tw11289917656082317751:=0
def tw15064970618734766801:=0
def tw17238469466177360810:=0
def tw13168921568713203630:=0
def tw13109160029758375868:=0
def tw9502059633285492891:=0
def tw14881078537495214688:=0
def tw15697197007816896766:=0
def tw8573364839122648523:=0
def tw15325459857035844786:=0
def tw18355597046356635178:=0
def tw15002040079269177492:=0
def tw17613790848246448473:=0
def tw16865444901215335353:=0
def tw2787323323106732060:=0
def tw4513348643084498665:=0
def tw5281426448345841397:=0
def tw12384360694723936797:=0
def tw15384487271691210040:=0
def tw5489705086271204692:=0
def tw7343041021853741099:=0
def tw8142454399854935267:=0
def tw3242834139777262513:=0
def tw4816239680624800339:=0
def tw2339678180568632495:=0
def tw10222631625087623543:=0
def tw10581041099851174754:=0
def tw14626446713623659243:=0
def tw2266446518395048427:=0
def tw5670188795584839901:=0
def tw11297586171372878319:=0
def tw21433250876983113:=0
def tw7062650475358030505:=0
def tw945843787880455366:=0
def tw1668530265287213843:=0
def tw4774838145964030185:=0
def tw8880055203490040880:=0
def tw9842256678126223209:=0
def tw7703189496596622930:=0
def tw16186779547811201490:=0
def tw341259587119453099:=0
def tw16398215098796364726:=0
def tw12816587452208267887:=0
def tw8262038326095849544:=0
def tw15300075437996022288:=0
def tw6985611312990354863:=0
def tw11954499929894404939:=0
def tw1839473888775387302:=0
def tw14822192939015809822:=0
def tw3401350488432404801:=0
def tw12107183376165861194:=0
def tw12483279353877439158:=0
def tw16770439792232597791:=0
def tw12142994082739450897:=0
def tw2522675027403787293:=0
def tw3586404115234238193:=0
def tw15683215960343403210:=0
def tw4104470912759015702:=0
def tw8150451034650760280:=0
def tw5726689819162275448:=0
def tw16764848524644216201:=0
def tw15981878588380786436:=0
def tw6309546105174984000:=0
def tw16800499460123639034:=0
def tw12060013452954750260:=0
def tw2752542619814339499:=0
def tw15403285201249586498:=0
def tw8972324627250760245:=0
def tw6485997235980642090:=0
def tw1984556313885950378:=0
def tw16915248850901214506:=0
def tw10714739669539513331:=0
def tw12876201423724862249:=0
def tw9234695225394242889:=0
def tw2602834841847714042:=0
def tw16460720286445401079:=0
def tw15274276043473295976:=0
def tw6755322402235190400:=0
def tw17851343037128655749:=0
def tw15674482632757417327:=0
def tw3388726410222186127:=0
def tw2279328314678064033:=0
def tw16917442776374958651:=0
def tw17312604077273345221:=0
def tw6008221999962638910:=0
def tw11143469171661687447:=0
def tw11300128120201445574:=0
def tw533057268205266581:=0
def tw2064138841856786812:=0
def tw9037038061768240294:=0
def tw989497446446107930:=0
def tw9461677953195573701:=0
def tw9552416334228078893:=0
def tw13156975482897413415:=0
def tw2745479188750840181:=0
def tw8589082773211535259:=0
def tw16734567099481398806:=0
def tw390958740006518473:=0
def tw2382546756700316459:=0
def tw4470528270185254088:=0
def tw11508254919054508173:=0
def tw10083414010479657565:=0
def tw15920293676345511289:=0
def tw15251147998093307722:=0
def tw6228551617152159506:=0
def tw11203857770889390189:=0
def tw15498624388026779663:=0
def tw8094476983087602886:=0
def tw9844790290607305497:=0
def tw13810294968470365108:=0
def tw7341866016453266401:=0
def tw8197008137089264461:=0
def tw4863027286551162174:=0
def tw1342848263271465630:=0
def tw6050967482866114788:=0
def tw15990694134160906212:=0
def tw9628368173266976498:=0
def tw127202106391122394:=0
def tw4465169373296591447:=0
def tw15810082915816412909:=0
def tw6564109408964053053:=0
def tw15162496149609100022:=0
def tw3153500696256906880:=0
def tw16546600843002360204:=0
def tw17917294285247976747:=0
def tw2695117848627981599:=0
def tw16039562362748101558:=0
def tw3249776257942474927:=0
def tw18140209522341691190:=0
def tw12918556809146866312:=0
def tw2931943600918038310:=0
def tw14883220241899794868:=0
def tw1572999588261274842:=0
def tw17096202550253325393:=0
def tw15755950206576462396:=0
def tw9192211929210678522:=0
def tw12746190410960758934:=0
def tw7186204007347142693:=0
def tw18361688743451642799:=0
def tw991003695047258305:=0
def tw13777293303900368573:=0
def tw12307518047579646197:=0
def tw1197887024854496590:=0
def tw5408539101952347023:=0
def tw15348860473047870714:=0
def tw9036393233773218556:=0
def tw16311661638958763216:=0
def tw933981403235586905:=0
def tw12216915696642849665:=0
def tw9576212528919402305:=0
def tw11369364231627892833:=0
def tw11878679832625614219:=0
def tw77787600873869429:=0
def tw8832463758956980416:=0
def tw17860769228659645670:=0
def tw12879068834684490673:=0
def tw25450406045889934:=0
def tw1153087301421836258:=0
def tw9187012877414700522:=0
def tw5615607182013588894:=0
def tw2738941889829464508:=0
def tw6154971467680555553:=0
def tw7018488289218162751:=0
def tw2075674375411990355:=0
def tw2999293677173714412:=0
def tw10416184108227427668:=0
def tw6673657525028344034:=0
def tw6483944526121740775:=0
def tw3389797685154004788:=0
def tw5664298904906473413:=0
def tw4278932571899342570:=0
def tw4906249766848184644:=0
def tw16325985522518177408:=0
def tw15297386187687333652:=0
def tw12888258835561907055:=0
def tw9196022253590099015:=0
def tw4289667282912969449:=0
def tw8726745040868786610:=0
def tw9955103874177321925:=0
def tw9608446002844015108:=0
def tw2091233599417001076:=0
def tw14926203383153466306:=0
def tw18140917456147292207:=0
def tw4952760683487545797:=0
def tw14287759359084423555:=0
def tw13129624427358925843:=0
def tw12477659558844650529:=0
def tw6185628965978783036:=0
def tw1977169459874339297:=0
def tw15668867774914014068:=0
def tw12735759332177000962:=0
def tw14291621893786605079:=0
def tw7920351090010935744:=0
def tw1082015035579920834:=0
def tw1246975500024821983:=0
def tw5895985909825469167:=0
def tw9704202992629218818:=0
def tw15264265161229564710:=0
def tw18235504828507588873:=0
def tw5735978589070986918:=0
def tw466479634165421744:=0
def tw9169321457650313428:=0
def tw5856671239462686534:=0
def tw6903344860769822831:=0
def tw1136663821038223663:=0
def tw18376406952422834322:=0
def tw7668136680042177718:=0
def tw6161055391977705547:=0
def tw15621498746626955635:=0
def tw15471366941857051199:=0
def tw13395039959457544651:=0
def tw7854881291741826156:=0
def tw12241354797782707392:=0
def tw12045582200442195629:=0
def tw780368977845928704:=0
def tw12479242182714254367:=0
def tw4569287613194940774:=0
def tw10118962292059029420:=0
def tw12319910415980868729:=0
def tw8088340260726632943:=0
def tw14824407184491310648:=0
def tw11566645166841380759:=0
def tw5168075450532991721:=0
def tw13402962547004806909:=0
def tw13727418907914812689:=0
def tw8825680189949151586:=0
def tw11140921940916394129:=0
def tw3490987952543275291:=0
def tw5245231220248324920:=0
def tw7988193892820659554:=0
def tw14075614186255914935:=0
def tw31144089382025634:=0
def tw14928145445848897224:=0
def tw16291849036444637937:=0
def tw16218305459004353041:=0
def tw11425551956422983236:=0
def tw94803417935871971:=0
def tw78400060425854999:=0
def tw1370998820230691950:=0
def tw12530442270373430966:=0
def tw11197740901064039609:=0
def tw9739151700592986654:=0
def tw2864768945250341412:=0
def tw16264039328134972810:=0
def tw11604974525322535098:=0
def tw6468227660372874543:=0
def tw3352440955884306861:=0
def tw7657672201411620822:=0
def tw13377946942220166232:=0
def tw7480515814670743408:=0
def tw4816394562666401585:=0
def tw3998183973781227821:=0
def tw8256186903248158901:=0
def tw1013715216938347360:=0
def tw8106091309262723815:=0
def tw3547252886828549262:=0
def tw17145084008161730154:=0
def tw986196726630498887:=0
def tw9481853229340521788:=0
def tw7501684472215555377:=0
def tw6574761221724744857:=0
def tw4811750520781257285:=0
def tw2967838591736980388:=0
def tw6483098396337944332:=0
def tw11646763307107904011:=0
def tw10176659767449467903:=0
def tw8969202981997261151:=0
def tw15130966887677074631:=0
def tw11408283649681378979:=0
def tw17826745663438888336:=0
def tw2901978234035765193:=0
def tw4112466023437917223:=0
def tw6852785567246053072:=0
def tw3893080604873591917:=0
def tw9126830095763803446:=0
def tw16052559751189469834:=0
def tw155318223117639617:=0
def tw624325361837904834:=0
def tw16244447107625301294:=0
def tw8505228589391828538:=0
def tw1772442296845095740:=0
def tw12615572973467218041:=0
def tw9358610208267103994:=0
def tw1836748746647529092:=0
def tw3471070622524692026:=0
def tw298954237717643080:=0
def tw12147777679917670708:=0
def tw11610261361271148245:=0
def tw7988568665039690161:=0
def tw9026252575921032092:=0
def tw5598332400422990652:=0
def tw12228374588938618559:=0
def tw7997912215411461743:=0
def tw17860898865933305290:=0
def tw7304120635213837976:=0
def tw1578696157845952612:=0
def tw1657670977457567528:=0
def tw4059585346506538344:=0
def tw4837912486022298805:=0
def tw9809195736094602453:=0
def tw10371407004875517222:=0
def tw126283570678431600:=0
def tw14671584687194752418:=0
def tw833326359488288813:=0
def tw588360948702300856:=0
def tw18192241472152056061:=0
def tw16110668846492130121:=0
def tw8281772531393713134:=0
def tw15550754317295923287:=0
def tw2864531510591397816:=0
def tw12781107253027962743:=0
def tw13919423979021017936:=0
def tw3938943042996718668:=0
def tw13284975893946582939:=0
def tw5755577318290563691:=0
def tw12584109819386595079:=0
def tw13959110385846623287:=0
def tw15584779716224168448:=0
def tw8152996684568318959:=0
def tw10972577812721529012:=0
def tw10357057347116757529:=0
def tw6253587273926471249:=0
def tw15697210731811575566:=0
def tw9644058014162977000:=0
def tw12306163207162678968:=0
def tw14673962642018606761:=0
def tw12567650947661554473:=0
def tw4819622886485882019:=0
def tw9284872023820873278:=0
def tw17501050980850587052:=0
def tw1564143289456745968:=0
def tw14424261482915407999:=0
def tw4941058977136574292:=0
def tw4874161893879753161:=0
def tw3728176899575467598:=0
def tw12296294885074682239:=0
def tw1781702422191519913:=0
def tw3581202552077680737:=0
def tw12523833231671885338:=0
def tw16672535051996923310:=0
def tw11779565584334257461:=0
def tw9830814953507789743:=0
def tw13366483016361063219:=0
def tw10264318511345232591:=0
def tw2121981377103456940:=0
def tw12666036664994811424:=0
def tw4621489188561295267:=0
def tw14989806016060566512:=0
def tw9529540541539206818:=0
def tw18385173099173518101:=0
def tw3680436090321398361:=0
def tw9927026452488517891:=0
def tw3534855680358024250:=0
def tw12439230198785396941:=0
def tw692129237732903128:=0
def tw3756743774241431598:=0
def tw17679544338493941772:=0
def tw15964414173318346558:=0
def tw6562013220524995632:=0
def tw10266447386228795821:=0
def tw6687516172414762455:=0
def tw14011256206125404864:=0
def tw6062342582483721305:=0
def tw16125894946463362911:=0
def tw18265729885177597847:=0
def tw6712708648465196356:=0
def tw1189783805519298335:=0
def tw8391799060027400986:=0
def tw3705232027076845580:=0
def tw8829343215903121099:=0
def tw4713171308047973148:=0
def tw1899122990886024580:=0
def tw1462468441959678589:=0
def tw8594410916466541707:=0
def tw8778140011320591295:=0
def tw2603449838661679144:=0
def tw8362790920637701777:=0
def tw12050402123315630780:=0
def tw14853847016478682555:=0
def tw6340353998619172744:=0
def tw12449756322989330187:=0
def tw17329154265819630127:=0
def tw10908528884799828232:=0
def tw16676663685342776787:=0
def tw8846838582257154101:=0
def tw10040794711575281737:=0
def tw15215856859908153130:=0
def tw759823354685617375:=0
def tw5310733342460248614:=0
def tw15620980923091516647:=0
def tw17098428441283622609:=0
def tw11272524287121223920:=0
def tw10481903336238127249:=0
def tw8000037720966637513:=0
def tw12132275841839693545:=0
def tw1046601906731529204:=0
def tw8521663304151339150:=0
def tw15538117461830015189:=0
def tw14840796073504311978:=0
def tw9027553467843683796:=0
def tw3634198679125055386:=0
def tw5557002603535882599:=0
def tw9225400619671759643:=0
def tw18400151405494150435:=0
def tw1971441621694276400:=0
def tw17329344341532761276:=0
def tw15126092808058947996:=0
def tw14348094634494613960:=0
def tw14708370071158746745:=0
def tw480583859882017570:=0
def tw2250180882749107834:=0
def tw3921406204737155684:=0
def tw14371924648690333825:=0
def tw14847298597963841028:=0
def tw3064397982548078355:=0
def tw3050205281402323536:=0
def tw15470206301657931996:=0
def tw4931877164604231178:=0
end PySem.W.Fast
open PySem PySem.W PyProof.Rows
set_option maxRecDepth 100000 in
set_option maxHeartbeats 0 in
theorem PySem.Challenge.cw_rightname_k36_whole_days_gone_by_holds : PySem.Challenge.rw_rightname_k36_whole_days_gone_by.Holds := by
  w_on; o_law; k_head; (case hw => w_witness2)
  k_fill
  refine L2.tf (l := PySem.Challenge.rw_rightname_k36_whole_days_gone_by) (n := 63) (k := 10) (x := "_law_script") (CX := L2.fN) (sp := My.vQ) rfl (by decide) rfl ⟨rfl, by decide, by decide⟩ (fun w h Y => PySem.W.kIn_of Y) ?F ?S ?C
  case F =>
    intro w mg fa h KX G hmg
    refine' My.all_mk hmg ⟨My.fO KX G ?h0 ?h1 ?h2 ?h3 ?n0, My.fO KX G ?h4 ?h5 ?h6 ?h7 ?n1, My.fO KX G ?h8 ?h9 ?h10 ?h11 ?n2, My.fO KX G ?h12 ?h13 ?h14 ?h15 ?n3, My.fO KX G ?h16 ?h17 ?h18 ?h19 ?n4, My.fO KX G ?h20 ?h21 ?h22 ?h23 ?n5, My.fO KX G ?h24 ?h25 ?h26 ?h27 ?n6, My.fO KX G ?h28 ?h29 ?h30 ?h31 ?n7, My.fO KX G ?h32 ?h33 ?h34 ?h35 ?n8, My.fO KX G ?h36 ?h37 ?h38 ?h39 ?n9, My.fO KX G ?h40 ?h41 ?h42 ?h43 ?n10, My.fO KX G ?h44 ?h45 ?h46 ?h47 ?n11, My.fO KX G ?h48 ?h49 ?h50 ?h51 ?n12, My.fO KX G ?h52 ?h53 ?h54 ?h55 ?n13, My.fO KX G ?h56 ?h57 ?h58 ?h59 ?n14, My.fO KX G ?h60 ?h61 ?h62 ?h63 ?n15, My.fO KX G ?h64 ?h65 ?h66 ?h67 ?n16, My.fO KX G ?h68 ?h69 ?h70 ?h71 ?n17, My.fO KX G ?h72 ?h73 ?h74 ?h75 ?n18, My.fO KX G ?h76 ?h77 ?h78 ?h79 ?n19, My.fO KX G ?h80 ?h81 ?h82 ?h83 ?n20, My.fO KX G ?h84 ?h85 ?h86 ?h87 ?n21, My.fO KX G ?h88 ?h89 ?h90 ?h91 ?n22, My.fO KX G ?h92 ?h93 ?h94 ?h95 ?n23, My.fO KX G ?h96 ?h97 ?h98 ?h99 ?n24, My.fO KX G ?h100 ?h101 ?h102 ?h103 ?n25, My.fO KX G ?h104 ?h105 ?h106 ?h107 ?n26, My.fO KX G ?h108 ?h109 ?h110 ?h111 ?n27, My.fO KX G ?h112 ?h113 ?h114 ?h115 ?n28, My.fO KX G ?h116 ?h117 ?h118 ?h119 ?n29, My.fO KX G ?h120 ?h121 ?h122 ?h123 ?n30, My.fO KX G ?h124 ?h125 ?h126 ?h127 ?n31, My.fO KX G ?h128 ?h129 ?h130 ?h131 ?n32, My.fO KX G ?h132 ?h133 ?h134 ?h135 ?n33, My.fO KX G ?h136 ?h137 ?h138 ?h139 ?n34, My.fO KX G ?h140 ?h141 ?h142 ?h143 ?n35, My.fO KX G ?h144 ?h145 ?h146 ?h147 ?n36, My.fO KX G ?h148 ?h149 ?h150 ?h151 ?n37, My.fO KX G ?h152 ?h153 ?h154 ?h155 ?n38, My.fO KX G ?h156 ?h157 ?h158 ?h159 ?n39, My.fO KX G ?h160 ?h161 ?h162 ?h163 ?n40, My.fO KX G ?h164 ?h165 ?h166 ?h167 ?n41, PySem.W.mg_of KX G ?h168, ⟨?h169, ?h170, ?h171, ?h172⟩, ⟨?h173, ?h174, ?h175, ?h176⟩, L2.g9 ?h178 ?h179 ?h177, My.mq ?h182, My.mq ?h183, My.mq ?h184, My.mq ?h185, My.mq ?h186, My.mq ?h187, My.mq ?h188, My.mq ?h189, My.qK (L2.g9 ?h178 ?h179 ?h177) ?h180 ?h181, PySem.W.mg_of KX G ?h190, ⟨?h191, ?h192, ?h193, ?h194⟩, L2.di ?h199 ?h200 ?h201, (L2.di ?h199 ?h200 ?h201).binds ?n_Results_init, ⟨?h196, ?h197, ?h198, ?h195⟩, My.mq ?h202, My.mq ?h203, My.mq ?h204, My.mq ?h205, PySem.W.mg_of KX G ?h206, ⟨?h207, ?h208, ?h209, ?h210⟩, ⟨?h211, ?h212, ?h213, ?h214⟩, L2.g9 ?h216 ?h217 ?h215, My.mq ?h218, My.mq ?h219, My.mq ?h220, My.vS (L2.g9 ?h216 ?h217 ?h215), PySem.W.mg_of KX G ?h221, ⟨?h222, ?h223, ?h224, ?h225⟩, L2.di ?h230 ?h231 ?h232, (L2.di ?h230 ?h231 ?h232).binds ?n_DayBooks_init, ⟨?h227, ?h228, ?h229, ?h226⟩, My.mq ?h233, My.mq ?h234, My.mq ?h235, My.mq ?h236, L2.di ?h239 ?h240 ?h241, (L2.di ?h239 ?h240 ?h241).binds ?n_Results_put, ⟨?h237, ?h238, ?h241⟩, L2.di ?h244 ?h245 ?h246, (L2.di ?h244 ?h245 ?h246).binds ?n_Results_name_of, ⟨?h242, ?h243, ?h246⟩, L2.di ?h249 ?h250 ?h251, (L2.di ?h249 ?h250 ?h251).binds ?n_Results_outcome_of, ⟨?h247, ?h248, ?h251⟩, PySem.W.mg_of KX G ?h252, ?h253, PySem.W.mg_of KX G ?h254, ?h255, PySem.W.mg_of KX G ?h256, ?h257, PySem.W.mg_of KX G ?h258, My.BY ?h259 ?h260 ?h261 ?h262 (L2.aJ rfl), PySem.W.mg_of KX G ?h263, My.BY ?h264 ?h265 ?h266 ?h267 (L2.aJ rfl), PySem.W.mg_of KX G ?h268, My.BU ?h269 ?h270 (by decide +kernel), PySem.W.mg_of KX G ?h271, My.BU ?h272 ?h273 (by decide +kernel), PySem.W.mg_of KX G ?h274, PySem.W.mg_of KX G ?h275, PySem.W.mg_of KX G ?h276, PySem.W.mg_of KX G ?h277, PySem.W.mg_of KX G ?h278, PySem.W.mg_of KX G ?h279, PySem.W.mg_of KX G ?h280, PySem.W.mg_of KX G ?h281, L2.iJ.xm ?h282 ?h283 ?h284 ?h285 ?h286 ?h287 ?h288 ?h289, ⟨?h290, ?h291, ?h292, ?h293, ?h294, ?h295, ?h296, ?h297⟩, L2.iJ.xm ?h298 ?h299 ?h300 ?h301 ?h302 ?h303 ?h304 ?h305, ⟨?h306, ?h307, ?h308, ?h309, ?h310, ?h311, ?h312, ?h313⟩, L2.iJ.xm ?h314 ?h315 ?h316 ?h317 ?h318 ?h319 ?h320 ?h321, ⟨?h322, ?h323, ?h324, ?h325, ?h326, ?h327, ?h328, ?h329⟩, L2.iJ.xm ?h330 ?h331 ?h332 ?h333 ?h334 ?h335 ?h336 ?h337, ⟨?h338, ?h339, ?h340, ?h341, ?h342, ?h343, ?h344, ?h345⟩, L2.iJ.xm ?h346 ?h347 ?h348 ?h349 ?h350 ?h351 ?h352 ?h353, ⟨?h354, ?h355, ?h356, ?h357, ?h358, ?h359, ?h360, ?h361⟩, ?h362, L2.g9 ?h366 ?h367 ?h365, ⟨?h370, ?h371, ?h372, ?h373⟩, ?h372, ?h371, ⟨?h374, ?h375, ?h376⟩, My.rB (L2.g9 ?h366 ?h367 ?h365) ?h368 ?h369, L2.lA.xm ?h377 ?h378 ?h379 ?h380 ?h381 ?h382 ?h383 ?h384 ?h363 ?h364, ⟨?h385, ?h386, ?h387, ?h388, ?h389, ?h390, ?h391, ?h392⟩, L2.iJ.xm ?h393 ?h394 ?h395 ?h396 ?h397 ?h398 ?h399 ?h400, ⟨?h401, ?h402, ?h403, ?h404, ?h405, ?h406, ?h407, ?h408⟩, ⟨?h409, ?h410, ?h411, ?h412⟩, ?h413, ?h414, ?h415, ?h416, ?h417, ?h418, ?h419, ?h420, ⟨?h421, ?h422, ?h423, ?h424⟩, ?h425, ?h426, ?h427, ?h428, ?h429, ?h430, ?h431, ?h432, PySem.W.mg_none_of KX G ?h433, PySem.W.mg_none_of KX G ?h434, PySem.W.mg_none_of KX G ?h435, PySem.W.mg_none_of KX G ?h436, PySem.W.mg_none_of KX G ?h437, PySem.W.mg_none_of KX G ?h438, PySem.W.mg_none_of KX G ?h439, PySem.W.mg_none_of KX G ?h440, PySem.W.mg_none_of KX G ?h441, PySem.W.mg_none_of KX G ?h442, PySem.W.mg_none_of KX G ?h443, PySem.W.mg_none_of KX G ?h444, PySem.W.mg_none_of KX G ?h445, PySem.W.mg_none_of KX G ?h446, PySem.W.mg_none_of KX G ?h447, PySem.W.mg_none_of KX G ?h448⟩
    case h0|h1|h2|h3|h4|h5|h6|h7|h8|h9|h10|h11|h12|h13|h14|h15|h16|h17|h18|h19|h20|h21|h22|h23|h24|h25|h26|h27|h28|h29|h30|h31|h32|h33|h34|h35|h36|h37|h38|h39|h40|h41|h42|h43|h44|h45|h46|h47|h48|h49|h50|h51|h52|h53|h54|h55|h56|h57|h58|h59|h60|h61|h62|h63|h64|h65|h66|h67|h68|h69|h70|h71|h72|h73|h74|h75|h76|h77|h78|h79|h80|h81|h82|h83|h84|h85|h86|h87|h88|h89|h90|h91|h92|h93|h94|h95|h96|h97|h98|h99|h100|h101|h102|h103|h104|h105|h106|h107|h108|h109|h110|h111|h112|h113|h114|h115|h116|h117|h118|h119|h120|h121|h122|h123|h124|h125|h126|h127|h128|h129|h130|h131|h132|h133|h134|h135|h136|h137|h138|h139|h140|h141|h142|h143|h144|h145|h146|h147|h148|h149|h150|h151|h152|h153|h154|h155|h156|h157|h158|h159|h160|h161|h162|h163|h164|h165|h166|h167|h168|h169|h170|h171|h172|h173|h174|h175|h176|h177|h178|h179|h180 => (try dsimp only) <;> k_is
    case h181 => (try dsimp only) <;> exact rfl
    case h182|h183|h184|h185|h186|h187|h188|h189|h190|h191|h192|h193|h194|h195|h196|h197|h198|h199|h200|h201|h202|h203|h204|h205|h206|h207|h208|h209|h210|h211|h212|h213|h214|h215|h216|h217|h218|h219|h220|h221|h222|h223|h224|h225|h226|h227|h228|h229|h230|h231|h232|h233|h234|h235|h236|h237|h238|h239|h240|h241|h242|h243|h244|h245|h246|h247|h248|h249|h250|h251|h252 => (try dsimp only) <;> k_is
    case h253 => (try dsimp only) <;> (first | exact L2.nR | exact L2.nX | exact rfl)
    case h254 => (try dsimp only) <;> k_is
    case h255 => (try dsimp only) <;> (first | exact L2.nR | exact L2.nX | exact rfl)
    case h256 => (try dsimp only) <;> k_is
    case h257 => (try dsimp only) <;> (first | exact L2.nR | exact L2.nX | exact rfl)
    case h258|h259 => (try dsimp only) <;> k_is
    case h260|h261 => (try dsimp only) <;> exact rfl
    case h262 => (try dsimp only) <;> exact (.cons ⟨_, rfl⟩ (.cons ⟨_, rfl⟩ (.cons ⟨_, rfl⟩ .nil)))
    case h263|h264 => (try dsimp only) <;> k_is
    case h265|h266 => (try dsimp only) <;> exact rfl
    case h267 => (try dsimp only) <;> exact (.cons ⟨_, rfl⟩ (.cons ⟨_, rfl⟩ (.cons ⟨_, rfl⟩ .nil)))
    case h268|h269 => (try dsimp only) <;> k_is
    case h270 => (try dsimp only) <;> exact (.cons ⟨rfl, ⟨_, rfl⟩, ⟨_, rfl⟩⟩ (.cons ⟨rfl, ⟨_, rfl⟩, ⟨_, rfl⟩⟩ (.cons ⟨rfl, ⟨_, rfl⟩, ⟨_, rfl⟩⟩ .nil)))
    case h271|h272 => (try dsimp only) <;> k_is
    case h273 => (try dsimp only) <;> exact (.cons ⟨rfl, ⟨_, rfl⟩, rfl⟩ (.cons ⟨rfl, ⟨_, rfl⟩, ⟨_, rfl⟩⟩ (.cons ⟨rfl, ⟨_, rfl⟩, ⟨_, rfl⟩⟩ .nil)))
    case h274|h275|h276|h277|h278|h279|h280|h281|h282|h283 => (try dsimp only) <;> k_is
    case h284|h285 => (try dsimp only) <;> kernel_rfl
    case h286|h287 => (try dsimp only) <;> k_is
    case h288|h289|h290 => (try dsimp only) <;> kernel_rfl
    case h291|h292|h293|h294|h295|h296|h297|h298|h299 => (try dsimp only) <;> k_is
    case h300|h301 => (try dsimp only) <;> kernel_rfl
    case h302|h303 => (try dsimp only) <;> k_is
    case h304|h305|h306 => (try dsimp only) <;> kernel_rfl
    case h307|h308|h309|h310|h311|h312|h313|h314|h315 => (try dsimp only) <;> k_is
    case h316|h317 => (try dsimp only) <;> kernel_rfl
    case h318|h319 => (try dsimp only) <;> k_is
    case h320|h321|h322 => (try dsimp only) <;> kernel_rfl
    case h323|h324|h325|h326|h327|h328|h329|h330|h331 => (try dsimp only) <;> k_is
    case h332|h333 => (try dsimp only) <;> kernel_rfl
    case h334|h335 => (try dsimp only) <;> k_is
    case h336|h337|h338 => (try dsimp only) <;> kernel_rfl
    case h339|h340|h341|h342|h343|h344|h345|h346|h347 => (try dsimp only) <;> k_is
    case h348|h349 => (try dsimp only) <;> kernel_rfl
    case h350|h351 => (try dsimp only) <;> k_is
    case h352|h353|h354 => (try dsimp only) <;> kernel_rfl
    case h355|h356|h357|h358|h359|h360|h361|h362|h363|h364|h365|h366|h367|h368 => (try dsimp only) <;> k_is
    case h369 => (try dsimp only) <;> exact rfl
    case h370|h371|h372|h373|h374|h375|h376|h377|h378 => (try dsimp only) <;> k_is
    case h379|h380 => (try dsimp only) <;> kernel_rfl
    case h381|h382 => (try dsimp only) <;> k_is
    case h383|h384|h385 => (try dsimp only) <;> kernel_rfl
    case h386|h387|h388|h389|h390|h391|h392|h393|h394 => (try dsimp only) <;> k_is
    case h395|h396 => (try dsimp only) <;> kernel_rfl
    case h397|h398 => (try dsimp only) <;> k_is
    case h399|h400|h401 => (try dsimp only) <;> kernel_rfl
    case h402|h403|h404|h405|h406|h407|h408|h409|h410|h411|h412 => (try dsimp only) <;> k_is
    case h413|h414|h415|h416|h417|h418|h419|h420 => (try dsimp only) <;> kernel_rfl
    case h421|h422|h423|h424 => (try dsimp only) <;> k_is
    case h425|h426|h427|h428|h429|h430|h431|h432 => (try dsimp only) <;> kernel_rfl
    case h433|h434|h435|h436|h437|h438|h439|h440|h441|h442|h443|h444|h445|h446|h447|h448 => (try dsimp only) <;> k_is
    case n0|n1|n2|n3|n4|n5|n6|n7|n8|n9|n10|n11|n12|n13|n14|n15|n16|n17|n18|n19|n20|n21|n22|n23|n24|n25|n26|n27|n28|n29|n30|n31|n32|n33|n34|n35|n36|n37|n38|n39|n40|n41|n_Results_init|n_DayBooks_init|n_Results_put|n_Results_name_of|n_Results_outcome_of => intro _ _ _ _ _ _ us hl; (repeat (replace hl := L2.iL hl; obtain ⟨_, us, rfl, hl⟩ := hl)); obtain rfl := L2.len0 hl; rfl
  case S => exact fun K H a ns hl hO hS => ⟨a, ns, rfl, hS, hl, fun _ => rfl⟩
  case C => exact fun _ _ _ _ z => z
#print axioms PySem.Challenge.cw_rightname_k36_whole_days_gone_by_holds
