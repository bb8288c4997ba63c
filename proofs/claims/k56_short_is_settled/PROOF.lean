import PyProof.Rows.All
import Wide.All
import OpenK.AllK
import Wide.FinOn
import Lean
import PyProof.EqAt
import PyProof.EqKinds
import PyProof.TupleCall
import PySem.Challenge.RW_markrun_k56_short_is_settled
set_option Elab.async false
set_option linter.all false
set_option maxRecDepth 100000
noncomputable section
namespace L2
open PySem PySem.Spec PyProof.Rows
abbrev Key:=Sum Int Str
def wR:Key->Value->Bool
 | .inl k,v=>Value.isInt k v
 | .inr x,v=>Value.isStrOf x v
def D_ (w:World):Key->Int
 | .inl k=>hashInt k
 | .inr x=>hashStr w x
theorem uL:∀ {k:Key} {v:Value},wR k v=true->(∃ i t,k=Sum.inl i/\v=Value.int i t)\/(∃ x t,k=Sum.inr x/\v=Value.str x t)
 | .inl i,v,h=>by
  obtain ⟨t,e⟩:=Value.isInt_shape (k:=i) (v:=v) h
  exact .inl ⟨i,t,rfl,e⟩
 | .inr x,v,h=>by
  obtain ⟨t,e⟩:=Value.isStrOf_shape (x:=x) (v:=v) h
  exact .inr ⟨x,t,rfl,e⟩
theorem FB (i:Int) (t:Tok):wR (.inl i) (.int i t)=true:=by simp [wR,Value.isInt]
theorem FC (x:Str) (t:Tok):wR (.inr x) (.str x t)=true:=by simp [wR,Value.isStrOf]
theorem FD (a b:Int):decide ((Sum.inl a:Key)=Sum.inl b)=(a == b):=by
 by_cases e:a=b
 ·subst e; simp
 ·have h:¬ (Sum.inl a:Key)=Sum.inl b:=fun q=>e (Sum.inl.inj q)
  rw [decide_eq_false h]
  exact (beq_eq_false_iff_ne.mpr e).symm
theorem FJ (a b:Str):decide ((Sum.inr a:Key)=Sum.inr b)=decide (a=b):=by
 by_cases e:a=b
 ·subst e; simp
 ·have h:¬ (Sum.inr a:Key)=Sum.inr b:=fun q=>e (Sum.inr.inj q)
  rw [decide_eq_false h,decide_eq_false e]
theorem FH (a:Int) (b:Str):decide ((Sum.inl a:Key)=Sum.inr b)=false:=decide_eq_false (fun q=>nomatch q)
theorem FI (a:Str) (b:Int):decide ((Sum.inr a:Key)=Sum.inl b)=false:=decide_eq_false (fun q=>nomatch q)
def yc (prog:Program) (w:World):PySem.KeyKind prog w Key where
 is:=wR
 hash:=D_ w
 inj:=fun v a b ha hb=>by
  rcases uL ha with ⟨i,t,rfl,rfl⟩ | ⟨x,t,rfl,rfl⟩
  ·rcases uL hb with ⟨j,u,rfl,e⟩ | ⟨y,u,rfl,e⟩
   ·injection e with e1 _; rw [e1]
   ·exact nomatch e
  ·rcases uL hb with ⟨j,u,rfl,e⟩ | ⟨y,u,rfl,e⟩
   ·exact nomatch e
   ·injection e with e1 _; rw [e1]
 byValue:=fun k v h=>by
  rcases uL h with ⟨i,t,rfl,rfl⟩ | ⟨x,t,rfl,rfl⟩<;>rfl
 pyHash:=fun hv h=>by
  rcases uL hv with ⟨i,t,rfl,rfl⟩ | ⟨x,t,rfl,rfl⟩
  ·exact wpAny_pyHash_int h
  ·exact wpAny_pyHash_str h
 eqBool:=fun hu hv h=>by
  rcases uL hu with ⟨i,t,rfl,rfl⟩ | ⟨x,t,rfl,rfl⟩
  ·rcases uL hv with ⟨j,u,rfl,rfl⟩ | ⟨y,u,rfl,rfl⟩
   ·rw [FD] at h; exact wpAny_eqBool_int h
   ·rw [FH] at h; exact SeqAt.EqAt.int_str i t y u _ _ _ _ h
  ·rcases uL hv with ⟨j,u,rfl,rfl⟩ | ⟨y,u,rfl,rfl⟩
   ·rw [FI] at h; exact SeqAt.EqAt.str_int x t j u _ _ _ _ h
   ·rw [FJ] at h; exact wpAny_eqBool_str h
 «strs»:=fun k x t v h=>by
  rcases uL h with ⟨i,u,rfl,e⟩ | ⟨y,u,rfl,e⟩
  ·exact nomatch e
  ·injection e with e1 _
   subst e1
   cases v<;>rfl
theorem C3 (prog:Program) (w:World) (i:Int) (t:Tok):(yc prog w).is (.inl i) (.int i t)=true:=FB i t
theorem U0 (prog:Program) (w:World) (x:Str) (t:Tok):(yc prog w).is (.inr x) (.str x t)=true:=FC x t
end L2
namespace L2
open PySem PySem.Spec PyProof.Rows
inductive V where
 | non | bl (b:Bool) | int (i:Int) | str (x:Str) | byt (b:Array UInt8) | flt (b:UInt64) | ref (a:Addr) | ty (n:String)
 deriving DecidableEq
def zi:V->Value->Prop
 | .non,u=>u=Value.none
 | .bl b,u=>u=Value.bool b
 | .int i,u=>∃ t,u=Value.int i t
 | .str x,u=>∃ t,u=Value.str x t
 | .byt b,u=>∃ t,u=Value.bytes b t
 | .flt b,u=>∃ t,u=Value.float b t
 | .ref a,u=>u=Value.ref a
 | .ty n,u=>u=Value.type n
abbrev zY:List V->List Value->Prop:=Paired zi
theorem zY.length {xs:List V} {us:List Value} (r:zY xs us):xs.length=us.length:=Paired.length r
theorem zY.get:∀ {xs:List V} {us:List Value} {i:Nat} {x:V},zY xs us->xs[i]?=some x->∃ u,us[i]?=some u/\zi x u
 | _,_,_,_,.nil,e=>by simp at e
 | _,_,0,_,.cons r _,e=>by simp at e; subst e; exact ⟨_,rfl,r⟩
 | _,_,i+1,x,.cons _ t,e=>by
  obtain ⟨u,h1,h2⟩:=zY.get (i:=i) (x:=x) t (by simpa using e)
  exact ⟨u,by simpa using h1,h2⟩
theorem zY.set {x:V} {u:Value} (r:zi x u):∀ {xs:List V} {us:List Value} (i:Nat),zY xs us->zY (xs.set i x) (us.set i u)
 | _,_,_,.nil=>.nil
 | _,_,0,.cons _ t=>.cons r t
 | _,_,i+1,.cons q t=>.cons q (zY.set r i t)
theorem zY.append:∀ {xs ys:List V} {us ws:List Value},zY xs us->zY ys ws->zY (xs++ys) (us++ws)
 | _,_,_,_,.nil,s=>s
 | _,_,_,_,.cons r t,s=>.cons r (zY.append t s)
theorem zY.take:∀ {xs:List V} {us:List Value} (n:Nat),zY xs us->zY (xs.take n) (us.take n)
 | _,_,0,_=>.nil
 | _,_,_+1,.nil=>.nil
 | _,_,n+1,.cons r t=>.cons r (zY.take n t)
theorem zY.drop:∀ {xs:List V} {us:List Value} (n:Nat),zY xs us->zY (xs.drop n) (us.drop n)
 | _,_,0,r=>r
 | _,_,_+1,.nil=>.nil
 | _,_,n+1,.cons _ t=>zY.drop n t
def uU:Option V->Option Value->Prop
 | some v,some u=>zi v u
 | none,none=>True
 | _,_=>False
def KV {κ:Type}:List (κ×V)->List (κ×Value)->Prop:=Paired fun (p:κ×V) (q:κ×Value)=>p.1=q.1/\zi p.2 q.2
def kV:Key->V
 | .inl i=>.int i
 | .inr x=>.str x
inductive HO where
  | lst (xs:List V)
  | tup (xs:List V)
  | dK (kvs:List (Key×V)) | dT (kvs:List (List Key×V))
  | set (S:Int->Bool) (n:Nat)
  | ins (C dx:Addr) (fs:List (Str×V))
  | own (x:Addr)
  | xd (fs:List (Str×V))
  | met (f x:Addr)
  | rng (lo hi:Int)
  | frz (o:Obj) (u:HO)
  | tbl (ps:Array Value)
  | ext (φ:Heap->Prop)
abbrev Hp:=Addr->Option HO
def zX (H:Hp) (a:Addr) (o:HO):Hp:=fun b=>if b=a then some o else H b
theorem yj {H:Hp} {a:Addr} {o:HO}:zX H a o a=some o:=by unfold zX; rw [if_pos rfl]
theorem yT {H:Hp} {a b:Addr} {o:HO} (h:b≠a):zX H a o b=H b:=by unfold zX; rw [if_neg h]
theorem CG {H:Hp} {a b:Addr} {o u:HO} (h:H a=some o) (h':H b=some u) (d:o≠u):a≠b:=by
 intro e; subst e; rw [h] at h'; exact d (Option.some.inj h')
theorem vA {H:Hp} {a b:Addr} {o:HO} (h:H a=some o) (h':H b=none):a≠b:=by
 intro e; subst e; rw [h] at h'; cases h'
section
variable (P:Program) (w:World)
def yo (H:Hp) (h:Heap) (a:Addr):HO->Prop
 | .lst xs=>xs.length<=sizeLine/\∃ (its:List Value) (n:Nat),zY xs its/\h.get? a=some { cls:=.type "list",data:=.seq its.toArray n }
 | .tup xs=>xs.length<=sizeLine/\∃ its:List Value,zY xs its/\IsTup h a its.toArray
 | .dK kvs=>kvs.length<=sizeLine/\(a == sysModules)=false/\∃ vs,KV kvs vs/\h.DictOf (yc P w) a vs
 | .dT kvs=>kvs.length<=sizeLine/\(a == sysModules)=false/\∃ xs:List (List Key×Addr×Value),
   Paired (fun (p:List Key×V) (q:List Key×Addr×Value)=>p.1=q.1/\H q.2.1=some (.tup (p.1.map kV))/\zi p.2 q.2.2) kvs xs/\
   ∃ o es ep,h.get? a=some o/\o.ExactDict/\o.data=.dict es ep/\es.toList=xs.map (entryOfKey (tupleKind (yc P w)))/\(xs.map (·.1)).Nodup
 | .set S n=>h.SetOf (intKind P w) a S n
 | .ins C dx fs=>H dx=some (.own a)/\fs.length<=1000/\dx≠a/\h.get? a=some (PySem.W.instObj C dx)/\
   ∃ mA,h.Ns1 dx mA/\(∀ f,uU (fs.lookup f) (mA f))/\PySem.Within mA (fs.map (·.1))
 | .own _=>∃ o,h.get? a=some o
 | .xd fs=>∃ mA,h.Ns1 a mA/\∀ f,uU (fs.lookup f) (mA f)
 | .rng lo hi=>∃ t u v,h.get? a=some { cls:=.type "range",data:=.fields #[.int lo t,.int hi u,.int 1 v] }
 | .frz o u=>h.get? a=some o/\yo H h a u
 | .tbl ps=>h.get? a=some { cls:=.none,data:=.fields ps }
 | .met f x=>h.get? a=some (PySem.W.methodObj (.ref f) (.ref x))
 | .ext φ=>φ h/\(∃ o,h.get? a=some o)/\∀ h1 h2:Heap,φ h1->(∀ o,h1.get? a=some o->h2.get? a=some o)->φ h2
def yu (H:Hp) (h:Heap):Prop:=∀ a o,H a=some o->yo P w H h a o
end
section
variable {P:Program} {w:World} {H H':Hp} {h h':Heap} {a:Addr} {o:HO}
theorem yo.lt (x:yo P w H h a o):a<h.objs.size:=by
 cases o with
 | lst xs=>obtain ⟨_,_,_,_,e⟩:=x; exact Heap.lt_size e
 | tup xs=>obtain ⟨_,_,_,p⟩:=x; exact p.lt
 | dK kvs=>obtain ⟨_,_,_,_,o,_,_,e,_⟩:=x; exact Heap.lt_size e
 | dT kvs=>obtain ⟨_,_,_,_,o,_,_,e,_⟩:=x; exact Heap.lt_size e
 | set S n=>obtain ⟨o,_,_,_,e,_⟩:=x; exact Heap.lt_size e
 | ins C dx fs=>obtain ⟨_,_,_,e,_⟩:=x; exact Heap.lt_size e
 | own y=>obtain ⟨_,e⟩:=x; exact Heap.lt_size e
 | xd fs=>obtain ⟨_,⟨_,_,_,e,_⟩,_⟩:=x; exact Heap.lt_size e
 | rng lo hi=>obtain ⟨_,_,_,e⟩:=x; exact Heap.lt_size e
 | frz ob u=>obtain ⟨e,_⟩:=x; exact Heap.lt_size e
 | tbl ps=>exact Heap.lt_size (show h.get? a=some _ from x)
 | met f y=>exact Heap.lt_size (show h.get? a=some _ from x)
 | ext φ=>obtain ⟨_,⟨_,e⟩,_⟩:=x; exact Heap.lt_size e
theorem Paired.mapP {α β:Type} {F G:α->β->Prop}:∀ {l₁:List α} {l₂:List β},Paired F l₁ l₂->(∀ a b,F a b->G a b)->Paired G l₁ l₂
 | _,_,.nil,_=>.nil
 | _,_,.cons r t,f=>.cons (f _ _ r) (Paired.mapP t f)
theorem yo.stay (x:yo P w H h a o) (k:∀ b u,(b=a\/H b=some (.own a))->h.get? b=some u->h'.get? b=some u)
  (ho:∀ b,H b=some (.own a)->H' b=some (.own a)) (ht:∀ b xs,H b=some (.tup xs)->H' b=some (.tup xs)):yo P w H' h' a o:=by
 induction o with
 | lst xs=>obtain ⟨z,its,n,r,e⟩:=x; exact ⟨z,its,n,r,k _ _ (.inl rfl) e⟩
 | tup xs=>obtain ⟨z,its,r,ob,e,c⟩:=x; exact ⟨z,its,r,ob,k _ _ (.inl rfl) e,c⟩
 | dK kvs=>obtain ⟨z,y,vs,r,ob,es,ep,e,c⟩:=x; exact ⟨z,y,vs,r,ob,es,ep,k _ _ (.inl rfl) e,c⟩
 | dT kvs=>
  obtain ⟨z,y,xs,r,ob,es,ep,e,c⟩:=x
  exact ⟨z,y,xs,Paired.mapP r fun p q z=>⟨z.1,ht _ _ z.2.1,z.2.2⟩,ob,es,ep,k _ _ (.inl rfl) e,c⟩
 | set S n=>obtain ⟨ob,es,ep,t,e,c⟩:=x; exact ⟨ob,es,ep,t,k _ _ (.inl rfl) e,c⟩
 | ins C dx fs=>
  obtain ⟨d,z,ne,e,mA,⟨od,es,ep,e2,c⟩,r⟩:=x
  exact ⟨ho _ d,z,ne,k _ _ (.inl rfl) e,mA,⟨od,es,ep,k _ _ (.inr d) e2,c⟩,r⟩
 | own y=>obtain ⟨ob,e⟩:=x; exact ⟨ob,k _ _ (.inl rfl) e⟩
 | xd fs=>obtain ⟨mA,⟨od,es,ep,e,c⟩,r⟩:=x; exact ⟨mA,⟨od,es,ep,k _ _ (.inl rfl) e,c⟩,r⟩
 | rng lo hi=>obtain ⟨t,u,v,e⟩:=x; exact ⟨t,u,v,k _ _ (.inl rfl) e⟩
 | frz ob u ih=>obtain ⟨e,q⟩:=x; exact ⟨k _ _ (.inl rfl) e,ih q⟩
 | tbl ps=>
  have e:h.get? a=some { cls:=.none,data:=.fields ps }:=x
  show h'.get? a=some { cls:=.none,data:=.fields ps }
  exact k a _ (.inl rfl) e
 | met f y=>
  have e:h.get? a=some (PySem.W.methodObj (.ref f) (.ref y)):=x
  show h'.get? a=some (PySem.W.methodObj (.ref f) (.ref y))
  exact k a _ (.inl rfl) e
 | ext φ=>obtain ⟨p,⟨o,e⟩,st⟩:=x; exact ⟨st _ _ p fun o q=>k _ _ (.inl rfl) q,⟨o,k _ _ (.inl rfl) e⟩,st⟩
theorem yu.lt (x:yu P w H h) (e:H a=some o):a<h.objs.size:=(x a o e).lt
theorem yu.fresh (x:yu P w H h) (e:h.objs.size<=a):H a=none:=by
 cases q:H a with
 | none=>rfl
 | some u=>exact absurd (Nat.lt_of_lt_of_le (x.lt q) e) (Nat.lt_irrefl _)
theorem yu.kept (x:yu P w H h) (k:∀ b u,h.get? b=some u->h'.get? b=some u):yu P w H h':=fun a o e=>
 (x a o e).stay (fun b u _ q=>k b u q) (fun _ q=>q) fun _ _ q=>q
theorem yu.laid (x:yu P w H h) (k:∀ b u,h.get? b=some u->h'.get? b=some u) (hp:h.objs.size<=a) (new:yo P w (zX H a o) h' a o):yu P w (zX H a o) h':=fun b u e=>by
 have hn:=x.fresh hp
 by_cases hb:b=a
 ·subst hb; rw [yj] at e; cases e; exact new
 ·rw [yT hb] at e
  exact (x b u e).stay (fun c v _ q=>k c v q) (fun c q=>by rw [yT (vA q hn)]; exact q) fun c xs q=>by rw [yT (vA q hn)]; exact q
end
def Rd (H:Hp) (a:Addr) (u:HO):Prop:=H a=some u\/∃ o,H a=some (.frz o u)
theorem Rd.ok {P:Program} {w:World} {H:Hp} {h:Heap} {a:Addr} {u:HO} (r:Rd H a u) (x:yu P w H h):yo P w H h a u:=by
 rcases r with r | ⟨o,r⟩
 ·exact x a u r
 ·obtain ⟨_,q⟩:=x a _ r
  exact q
def gS:Option HO->Prop
 | some (.lst _)=>True
 | some (.dK _)=>True
 | some (.dT _)=>True
 | some (.set _ _)=>True
 | some (.ins _ _ _)=>True
 | some (.ext _)=>True
 | _=>False
section
variable {P:Program} {w:World} {H:Hp} {h h':Heap} {x e:Addr} {o':HO}
theorem yu.write (ok:yu P w H h) (mu:gS (H x)) (he:e=x\/H e=some (.own x)) (k:∀ b u,b≠e->h.get? b=some u->h'.get? b=some u) (heo:∃ u,h'.get? e=some u)
  (new:yo P w (zX H x o') h' x o'):yu P w (zX H x o') h':=fun b u q=>by
 have nown:∀ c y,H c=some (.own y)->c≠x:=fun c y r z=>by subst z; rw [r] at mu; exact mu
 have ntup:∀ c xs,H c=some (.tup xs)->c≠x:=fun c xs r z=>by subst z; rw [r] at mu; exact mu
 by_cases hb:b=x
 ·subst hb; rw [yj] at q; cases q; exact new
 ·rw [yT hb] at q
  by_cases hbe:b=e
  ·have q':H b=some (.own x):=by
    rcases he with z | z
    ·exact absurd (hbe.trans z) hb
    ·rw [hbe]; exact z
   rw [q] at q'; cases q'
   obtain ⟨v,hv⟩:=heo
   exact ⟨v,by rw [hbe]; exact hv⟩
  ·refine (ok b u q).stay (fun c v hc r=>k c v ?_ r) (fun c r=>by rw [yT (nown c b r)]; exact r) fun c xs r=>by rw [yT (ntup c xs r)]; exact r
   rcases hc with rfl | hc
   ·exact hbe
   ·rintro rfl
    rcases he with z | z
    ·exact nown c b hc z
    ·rw [hc] at z; cases z; exact hb rfl
end
structure Un (fs ex:List Addr) (H H':Hp) (h h':Heap):Prop where
 keep:∀ b o,h.get? b=some o->H b=none->b ∉ fs->b ∉ ex->h'.get? b=some o
 slot:∀ b o,h.get? b=some o->H b=none->b∈fs->b ∉ ex->∃ sl,h'.get? b=some { o with slots:=sl }
 free:∀ b o,h.get? b=some o->H b=none->b ∉ ex->H' b=none
 there:∀ b o,h.get? b=some o->b ∉ ex->∃ o',h'.get? b=some o'
 tups:∀ b xs,H b=some (.tup xs)->H' b=some (.tup xs)
 frzs:∀ b o u,H b=some (.frz o u)->H' b=some (.frz o u)
 tbls:∀ b ps,H b=some (.tbl ps)->∃ more,H' b=some (.tbl (ps++more))
section
variable {fs fs' ex ex':List Addr} {H H1 H2:Hp} {h h1 h2 h':Heap} {a x e:Addr} {o:HO}
theorem Un.any (u:Un fs ex H H1 h h1) {b:Addr} {ob:Obj} (q:h.get? b=some ob) (n:H b=none) (hx:b ∉ ex):∃ sl,h1.get? b=some { ob with slots:=sl }:=by
 by_cases hb:b∈fs
 ·exact u.slot b ob q n hb hx
 ·exact ⟨ob.slots,u.keep b ob q n hb hx⟩
theorem Un.kept (k:∀ b u,h.get? b=some u->h'.get? b=some u):Un fs ex H H h h':=
 ⟨fun b ob q _ _ _=>k b ob q,fun b ob q _ _ _=>⟨ob.slots,k b ob q⟩,fun _ _ _ n _=>n,fun b ob q _=>⟨ob,k b ob q⟩,fun _ _ q=>q,fun _ _ _ q=>q,fun _ ps q=>⟨#[],by rw [q]; simp⟩⟩
theorem Un.refl:Un fs ex H H h h:=Un.kept fun _ _ q=>q
theorem Un.laid (k:∀ b u,h.get? b=some u->h'.get? b=some u) (hp:h.objs.size<=a) (hn:H a=none):Un fs ex H (zX H a o) h h' where
 keep:=fun b u q _ _ _=>k b u q
 slot:=fun b u q _ _ _=>⟨u.slots,k b u q⟩
 free:=fun b u q n _=>by rw [yT (Nat.ne_of_lt (Nat.lt_of_lt_of_le (Heap.lt_size q) hp))]; exact n
 there:=fun b u q _=>⟨u,k b u q⟩
 tups:=fun b xs q=>by rw [yT (vA q hn)]; exact q
 frzs:=fun b u xs q=>by rw [yT (vA q hn)]; exact q
 tbls:=fun b ps q=>⟨#[],by rw [yT (vA q hn),q]; simp⟩
theorem Un.write (mu:gS (H x)) (he:e=x\/H e=some (.own x)) (k:∀ b u,b≠e->h.get? b=some u->h'.get? b=some u) (heo:∃ u,h'.get? e=some u):Un fs ex H (zX H x o) h h':=by
 have hx:∀ b,H b=none->b≠x:=fun b n z=>by subst z; rw [n] at mu; exact mu
 have hb:∀ b,H b=none->b≠e:=fun b n z=>by
  subst z
  rcases he with r | r
  ·exact hx b n r
  ·rw [n] at r; cases r
 have hm:∀ b u,H b=some u->¬ gS (some u)->b≠x:=fun b u q nm z=>by subst z; rw [q] at mu; exact nm mu
 refine ⟨fun b u q n _ _=>k b u (hb b n) q,fun b u q n _ _=>⟨u.slots,k b u (hb b n) q⟩,fun b u q n _=>by rw [yT (hx b n)]; exact n,fun b u q _=>?_,
  fun b xs q=>by rw [yT (hm b _ q fun z=>z)]; exact q,fun b u xs q=>by rw [yT (hm b _ q fun z=>z)]; exact q,fun b ps q=>⟨#[],by rw [yT (hm b _ q fun z=>z),q]; simp⟩⟩
 by_cases hbe:b=e
 ·subst hbe; exact heo
 ·exact ⟨u,k b u hbe q⟩
end
def WM (h:Heap) (H:Hp):List Addr:=(List.range h.objs.size).filter fun a=>(H a).isSome
def tZ (h:Heap) (H:Hp):Heap:=PySem.W.hideAll h (WM h H)
theorem DT (h:Heap) (H:Hp):(tZ h H).objs.size=h.objs.size:=PySem.W.hideAll_size _ _
theorem DS {h:Heap} {H:Hp} {b:Addr} {o:Obj} (e:h.get? b=some o) (n:H b=none):(tZ h H).get? b=some o:=
 PySem.W.hideAll_get _ e fun hm=>by
  have q:(H b).isSome=true:=(List.mem_filter.mp hm).2
  rw [n] at q; simp at q
theorem Cc {h:Heap} {H:Hp} {b:Addr} {o:Obj} (e:(tZ h H).get? b=some o):h.get? b=some o/\H b=none:=by
 have e':h.get? b=some o:=PySem.W.of_hideAll (WM h H) e
 refine ⟨e',?_⟩
 cases q:H b with
 | none=>rfl
 | some x=>
  have hm:b∈WM h H:=List.mem_filter.mpr ⟨List.mem_range.mpr (Heap.lt_size e'),by simp [q]⟩
  have z:(tZ h H).get? b=none:=PySem.W.hideAll_none (WM h H) hm
  rw [z] at e; cases e
def MI (g h:Heap) (L:Addr):List (Addr×Obj):=(List.range h.objs.size).filterMap fun a=>if a=L\/(g.get? a).isSome=true then none else (h.get? a).map fun o=>(a,o)
def yX (g h:Heap) (L d:Addr):List (Addr×Obj):=(MI g h L).filter fun p=>decide (p.1≠d)
end L2
namespace L2
open PySem PySem.Spec PyProof.Rows
structure Mod (K:PySem.W.Frag) (mg:Str->Option Value) (base:Heap):Prop where
 kin:K.In base
 glob:base.Ns mainGlobals mg
 blt:∃ mb,base.Ns builtinsNs mb/\∀ x:Str,x ≠ "__name__" -> mb x=bootBuiltins x
 nolimit:base.NoLimit
structure Cx where
 prog:Program
 w:World
 K:PySem.W.Frag
 mg:Str->Option Value
 base:Heap
 A:Around
 N:List Str
 s₀:Shared
 H₀:Hp
 env:Env
 outer:List Env
 stack:List Env
 ex:List Addr
 fn:Str->Bool
 calm:Bool
 pn:List (Addr×Obj)
 xe:Value->Shared->Prop
def vw (l:List Env):List Addr:=l.filterMap (·.frame)
abbrev Cx.fs (X:Cx):List Addr:=vw X.outer
def qQ (sc:Scope) (x:Str):Prop:=sc.names.lookup x=some .local\/sc.names.lookup x=some .cell\/sc.names.lookup x=some .free
def vG (sc:Scope) (x:Str):Prop:=sc.names.lookup x=some .local\/sc.names.lookup x=some .cell
def M8 (env:Env) (h:Heap) (m:Str->Option Value) (x:Str) (u:Value):Prop:=
 (env.kindOf x=some .local/\m x=some u)\/((env.kindOf x=some .cell\/env.kindOf x=some .free)/\∃ c,env.cells.lookup x=some c/\h.IsCell c (some u))
structure Cx.Ok (X:Cx):Prop where
 mod:Mod X.K X.mg X.base
 kind:X.env.scope.kind=.function
 glob:X.env.globals=mainGlobals
 blt:X.env.builtins=builtinsNs
 above:X.s₀.heap.objs.size<=X.env.locals
 inj:∀ x y c,X.env.cells.lookup x=some c->X.env.cells.lookup y=some c->x=y
 has:∀ x,(X.env.kindOf x=some .cell\/X.env.kindOf x=some .free)->∃ c,X.env.cells.lookup x=some c
 cab:∀ x c,X.fn x=true->X.env.cells.lookup x=some c->X.s₀.heap.objs.size<=c
 hd:X.calm=true->X.A.handled=none
 frames:X.A.frames=some X.stack
 stk:X.stack=X.outer\/(X.stack=X.env::X.outer/\X.env.frame=some X.env.locals)
 exf:∀ b∈X.ex,b≠X.env.locals/\∀ x c,X.env.cells.lookup x=some c->c≠b
 bs:∀ b o,X.base.get? b=some o->X.s₀.heap.get? b=some o/\X.H₀ b=none
 bsz:X.base.objs.size<=X.s₀.heap.objs.size
 noex:∀ b o,X.base.get? b=some o->b ∉ X.ex
 exfs:∀ b∈X.ex,b ∉ X.fs
 funs:X.s₀.heap.FunFrames X.base X.outer
 frf:∀ b∈X.fs,X.H₀ b=none
structure Inv (X:Cx) (pins:List (Addr×Obj)) (σ:List (Option V)) (H:Hp) (s:Shared):Prop where
 ok:X.Ok
 os:s.os=X.s₀.os
 bare:AllBare s.gens
 base:Un X.fs X.ex X.H₀ H X.s₀.heap s.heap
 loc:∃ m,s.heap.Ns X.env.locals m/\∀ (i:Nat) (x:Str) (v:V),X.N[i]?=some x->σ[i]?=some (some v)->qQ X.env.scope x->∃ u,zi v u/\M8 X.env s.heap m x u
 cell:∀ x c,X.env.cells.lookup x=some c->∃ v,s.heap.IsCell c v
 free:H X.env.locals=none
 freeC:∀ x c,X.env.cells.lookup x=some c->H c=none
 pin:∀ p∈X.pn++pins,s.heap.get? p.1=some p.2/\H p.1=none/\p.1≠X.env.locals/\p.1 ∉ X.fs/\∀ v,p.2.data≠.cell v
 hok:yu X.prog X.w H s.heap
 len:σ.length=X.N.length
section
variable {X:Cx} {pins:List (Addr×Obj)} {σ:List (Option V)} {H H':Hp} {s:Shared} {h':Heap}
theorem Cx.Ok.nofr (ok:X.Ok) {b:Addr} {o:Obj} (e:X.base.get? b=some o):b ∉ X.fs:=fun hb=>by
 have:=(ok.funs.mem hb).1
 rw [e] at this; cases this
theorem Inv.bs (I:Inv X pins σ H s):∀ b o,X.base.get? b=some o->s.heap.get? b=some o/\H b=none:=fun b o e=>
 ⟨I.base.keep b o (I.ok.bs b o e).1 (I.ok.bs b o e).2 (I.ok.nofr e) (I.ok.noex b o e),I.base.free b o (I.ok.bs b o e).1 (I.ok.bs b o e).2 (I.ok.noex b o e)⟩
theorem Inv.bk (I:Inv X pins σ H s):∀ b o,X.base.get? b=some o->s.heap.get? b=some o:=fun b o e=>(I.bs b o e).1
theorem Inv.mod (I:Inv X pins σ H s):Mod X.K X.mg X.base:=I.ok.mod
theorem Inv.kIn (I:Inv X pins σ H s):X.K.In s.heap:=I.ok.mod.kin.keeps I.bk
theorem Inv.lt (I:Inv X pins σ H s):X.env.locals<s.heap.objs.size:=let ⟨_,hn,_⟩:=I.loc; hn.lt
theorem Inv.sz (I:Inv X pins σ H s):X.s₀.heap.objs.size<=s.heap.objs.size:=Nat.le_trans I.ok.above (Nat.le_of_lt I.lt)
theorem Inv.nofs (I:Inv X pins σ H s) {a:Addr} (h:s.heap.objs.size<=a):a ∉ X.fs:=fun hb=>by
 obtain ⟨_,o,ho,_⟩:=I.ok.funs.mem hb
 exact absurd (Nat.lt_of_lt_of_le (Heap.lt_size ho) (Nat.le_trans I.sz h)) (Nat.lt_irrefl _)
theorem Inv.cne (I:Inv X pins σ H s):∀ x c,X.env.cells.lookup x=some c->c≠X.env.locals:=fun x c e z=>by
 obtain ⟨v,o,ho,hd⟩:=I.cell x c e
 obtain ⟨m,⟨o',es,ep,ho',hd',_⟩,_⟩:=I.loc
 rw [z,ho'] at ho; cases ho; rw [hd'] at hd; cases hd
theorem Inv.funs (I:Inv X pins σ H s):s.heap.FunFrames X.base X.outer:=by
 have all:∀ (l:List Env),(∀ b∈vw l,b∈X.fs)->X.s₀.heap.FunFrames X.base l->s.heap.FunFrames X.base l:=by
  intro l
  induction l with
  | nil=>intro _ _; trivial
  | cons env r ih=>
   intro hs hl
   obtain ⟨hk,⟨L,o,hf,hn,ho,hd⟩,hr⟩:=hl
   have hL:L∈X.fs:=hs L (by unfold vw; rw [List.filterMap_cons,hf]; exact List.mem_cons_self)
   obtain ⟨sl,e⟩:=I.base.slot L o ho (I.ok.frf L hL) hL fun z=>I.ok.exfs L z hL
   exact ⟨hk,⟨L,_,hf,hn,e,hd⟩,ih (fun b hb=>hs b (by unfold vw; rw [List.filterMap_cons,hf]; exact List.mem_cons_of_mem _ hb)) hr⟩
 exact all X.outer (fun _ hb=>hb) I.ok.funs
theorem Inv.stack (I:Inv X pins σ H s):s.heap.FunFrames X.base X.stack:=by
 rcases I.ok.stk with e | ⟨e,hf⟩
 ·rw [e]; exact I.funs
 ·rw [e]
  obtain ⟨m,hn,_⟩:=I.loc
  refine .cons (by rw [I.ok.kind]; decide) hf hn ?_ I.funs
  exact Heap.get?_none_of_le (Nat.le_trans I.ok.bsz I.ok.above)
theorem Inv.stkSub (I:Inv X pins σ H s):∀ b∈vw X.stack,b∈X.env.locals::X.fs:=fun b hb=>by
 rcases I.ok.stk with e | ⟨e,hf⟩
 ·rw [e] at hb; exact List.mem_cons_of_mem _ hb
 ·rw [e] at hb
  unfold vw at hb
  rw [List.filterMap_cons,hf] at hb
  exact hb
theorem Inv.stkFree (I:Inv X pins σ H s):∀ b∈vw X.stack,H b=none:=fun b hb=>by
 rcases List.mem_cons.mp (I.stkSub b hb) with e | hb
 ·rw [e]; exact I.free
 ·obtain ⟨_,o,ho,_⟩:=I.ok.funs.mem hb
  exact I.base.free b o ho (I.ok.frf b hb) fun z=>I.ok.exfs b z hb
theorem Inv.step {g':Array GenState} {t':Nat} {d':Drawn} {ch:List Addr} (I:Inv X pins σ H s)
  (hch:∀ b∈ch,(b∈X.ex\/X.s₀.heap.objs.size<=b)/\b≠X.env.locals/\(∀ x c,X.env.cells.lookup x=some c->c≠b)/\∀ p∈X.pn++pins,p.1≠b)
  (keep:∀ b o,b≠X.env.locals->b ∉ X.fs->b ∉ ch->s.heap.get? b=some o->H b=none->h'.get? b=some o)
  (slot:∀ b o,b≠X.env.locals->b∈X.fs->b ∉ ch->s.heap.get? b=some o->H b=none->∃ sl,h'.get? b=some { o with slots:=sl }) (free:∀ b o,b ∉ ch->s.heap.get? b=some o->H b=none->H' b=none)
  (there:∀ b o,b ∉ ch->s.heap.get? b=some o->∃ o',h'.get? b=some o')
  (tups:∀ b xs,H b=some (.tup xs)->H' b=some (.tup xs)) (frzs:∀ b o u,H b=some (.frz o u)->H' b=some (.frz o u)) (tbls:∀ b ps,H b=some (.tbl ps)->∃ more,H' b=some (.tbl (ps++more)))
  (ns:∀ m,s.heap.Ns X.env.locals m->h'.Ns X.env.locals m) (hok:yu X.prog X.w H' h') (hg:AllBare g') :
  Inv X pins σ H' { s with heap:=h',gens:=g',drawn:=d',toks:=t' }:=by
 have neL:∀ b o,X.s₀.heap.get? b=some o->b≠X.env.locals:=fun b o e=>Nat.ne_of_lt (Nat.lt_of_lt_of_le (Heap.lt_size e) I.ok.above)
 have neC:∀ b o,X.s₀.heap.get? b=some o->b ∉ X.ex->b ∉ ch:=fun b o e hx hb=>by
  rcases (hch b hb).1 with z | z
  ·exact hx z
  ·exact absurd (Nat.lt_of_lt_of_le (Heap.lt_size e) z) (Nat.lt_irrefl _)
 have cellK:∀ x c,X.env.cells.lookup x=some c->∀ v,s.heap.IsCell c v->h'.IsCell c v:=fun x c e v ⟨o,ho,hd⟩=>by
  have nch:c ∉ ch:=fun z=>(hch c z).2.2.1 x c e rfl
  by_cases hc:c∈X.fs
  ·obtain ⟨sl,q⟩:=slot c o (I.cne x c e) hc nch ho (I.freeC x c e)
   exact ⟨_,q,hd⟩
  ·exact ⟨o,keep c o (I.cne x c e) hc nch ho (I.freeC x c e),hd⟩
 refine ⟨I.ok,I.os,hg,⟨fun b o e n hb hx=>?_,fun b o e n hb hx=>?_,fun b o e n hx=>?_,fun b o e hx=>?_,fun b xs e=>tups b xs (I.base.tups b xs e),fun b o xs e=>frzs b o xs (I.base.frzs b o xs e),fun b ps e=>?_⟩,?_,fun x c e=>?_,?_,fun x c e=>?_,fun p hp=>?_,hok,I.len⟩
 ·exact keep b o (neL b o e) hb (neC b o e hx) (I.base.keep b o e n hb hx) (I.base.free b o e n hx)
 ·obtain ⟨sl,e1⟩:=I.base.slot b o e n hb hx
  obtain ⟨sl',e2⟩:=slot b _ (neL b o e) hb (neC b o e hx) e1 (I.base.free b o e n hx)
  exact ⟨sl',e2⟩
 ·obtain ⟨o',e1⟩:=I.base.there b o e hx
  exact free b o' (neC b o e hx) e1 (I.base.free b o e n hx)
 ·obtain ⟨o',e1⟩:=I.base.there b o e hx
  exact there b o' (neC b o e hx) e1
 ·obtain ⟨m1,e1⟩:=I.base.tbls b ps e
  obtain ⟨m2,e2⟩:=tbls b _ e1
  exact ⟨m1++m2,by rw [e2,Array.append_assoc]⟩
 ·obtain ⟨m,hn,hl⟩:=I.loc
  refine ⟨m,ns m hn,fun i x v e1 e2 e3=>?_⟩
  obtain ⟨u,r,l⟩:=hl i x v e1 e2 e3
  refine ⟨u,r,?_⟩
  rcases l with l | ⟨k,c,e,z⟩
  ·exact .inl l
  ·exact .inr ⟨k,c,e,cellK x c e _ z⟩
 ·obtain ⟨v,z⟩:=I.cell x c e
  exact ⟨v,cellK x c e v z⟩
 ·obtain ⟨m,⟨o,_,_,ho,_⟩,_⟩:=I.loc
  exact free _ o (fun z=>(hch _ z).2.1 rfl) ho I.free
 ·obtain ⟨v,o,ho,hd⟩:=I.cell x c e
  exact free c o (fun z=>(hch c z).2.2.1 x c e rfl) ho (I.freeC x c e)
 ·obtain ⟨e,n,ne,nf,d⟩:=I.pin p hp
  have nch:p.1 ∉ ch:=fun z=>(hch p.1 z).2.2.2 p hp rfl
  exact ⟨keep p.1 p.2 ne nf nch e n,free p.1 p.2 nch e n,ne,nf,d⟩
theorem Inv.un {t':Nat} (I:Inv X pins σ H s) (u:Un X.fs [] H H' s.heap h') (hok:yu X.prog X.w H' h'):Inv X pins σ H' { s with heap:=h',toks:=t' }:=by
 obtain ⟨m,⟨o,es,ep,ho,r⟩,_⟩:=id I.loc
 obtain ⟨sl,hL⟩:=u.any ho I.free (by simp)
 exact I.step (g':=s.gens) (d':=s.drawn) (ch:=[]) (fun _ z=>nomatch z) (fun b o _ hb _ e n=>u.keep b o e n hb (by simp)) (fun b o _ hb _ e n=>u.slot b o e n hb (by simp)) (fun b o _ e n=>u.free b o e n (by simp)) (fun b o _ e=>u.there b o e (by simp)) u.tups u.frzs u.tbls (fun m' hm=>by
  obtain ⟨o',es',ep',ho',r'⟩:=hm
  rw [ho] at ho'; cases ho'
  exact ⟨_,es',ep',hL,r'⟩) hok I.bare
theorem Inv.call {g':Array GenState} {t':Nat} {d':Drawn} {ch:List Addr} (I:Inv X pins σ H s) (u:Un (vw X.stack) ch H H' s.heap h') (hok:yu X.prog X.w H' h') (hg:AllBare g')
  (hch:∀ b∈ch,(b∈X.ex\/X.s₀.heap.objs.size<=b)/\b≠X.env.locals/\(∀ x c,X.env.cells.lookup x=some c->c≠b)/\∀ p∈X.pn++pins,p.1≠b) :
  Inv X pins σ H' { s with heap:=h',gens:=g',drawn:=d',toks:=t' }:=by
 obtain ⟨m,⟨o,es,ep,ho,r⟩,_⟩:=id I.loc
 obtain ⟨sl,hL⟩:=u.any ho I.free fun z=>(hch _ z).2.1 rfl
 exact I.step (ch:=ch) hch (fun b o hL hb hc e n=>u.keep b o e n (fun z=>(List.mem_cons.mp (I.stkSub b z)).elim hL hb) hc) (fun b o _ _ hc e n=>u.any e n hc) (fun b o hc e n=>u.free b o e n hc) (fun b o hc e=>u.there b o e hc) u.tups u.frzs u.tbls (fun m' hm=>by
  obtain ⟨o',es',ep',ho',r'⟩:=hm
  rw [ho] at ho'; cases ho'
  exact ⟨_,es',ep',hL,r'⟩) hok hg
theorem Inv.turned {t':Nat} {it:Addr} (I:Inv X pins σ H s) (k:∀ b o,b≠it->s.heap.get? b=some o->h'.get? b=some o) (hn:H it=none) (hL:it≠X.env.locals)
  (h1:it∈X.ex\/X.s₀.heap.objs.size<=it) (h2:∀ x c,X.env.cells.lookup x=some c->c≠it) (h3:∀ p∈X.pn++pins,p.1≠it):Inv X pins σ H { s with heap:=h',toks:=t' }:=by
 have nit:∀ b u,H b=some u->b≠it:=fun b u e z=>by rw [z,hn] at e; cases e
 refine I.step (g':=s.gens) (d':=s.drawn) (ch:=[it]) (fun b hb=>?_) (fun b o _ _ hc e _=>k b o (fun z=>hc (by simp [z])) e) (fun b o _ _ hc e _=>⟨o.slots,k b o (fun z=>hc (by simp [z])) e⟩) (fun _ _ _ _ n=>n)
  (fun b o hc e=>⟨o,k b o (fun z=>hc (by simp [z])) e⟩) (fun _ _ e=>e) (fun _ _ _ e=>e) (fun b ps e=>⟨#[],by rw [e]; simp⟩) (fun m hm=>?_) (fun b u e=>?_) I.bare
 ·have e:b=it:=by simpa using hb
  subst e
  exact ⟨h1,hL,h2,h3⟩
 ·obtain ⟨o,es,ep,ho,r⟩:=hm
  exact ⟨o,es,ep,k _ o (Ne.symm hL) ho,r⟩
 ·refine (I.hok b u e).stay (fun c v hc q=>k c v ?_ q) (fun _ q=>q) fun _ _ q=>q
  rcases hc with z | z
  ·rw [z]; exact nit b u e
  ·exact nit c _ z
theorem Inv.tok (I:Inv X pins σ H s) (t:Nat):Inv X pins σ H { s with toks:=t }:=I.un (h':=s.heap) (t':=t) Un.refl I.hok
theorem Inv.kept {t':Nat} (I:Inv X pins σ H s) (k:∀ b u,s.heap.get? b=some u->h'.get? b=some u):Inv X pins σ H { s with heap:=h',toks:=t' }:=I.un (Un.kept k) (I.hok.kept k)
theorem Inv.laid {a:Addr} {o:HO} {t':Nat} (I:Inv X pins σ H s) (k:∀ b u,s.heap.get? b=some u->h'.get? b=some u) (hp:s.heap.objs.size<=a) (new:yo X.prog X.w (zX H a o) h' a o) :
  Inv X pins σ (zX H a o) { s with heap:=h',toks:=t' }:=I.un (Un.laid k hp (I.hok.fresh hp)) (I.hok.laid k hp new)
theorem Inv.write {x e:Addr} {o:HO} {t':Nat} (I:Inv X pins σ H s) (mu:gS (H x)) (he:e=x\/H e=some (.own x)) (k:∀ b u,b≠e->s.heap.get? b=some u->h'.get? b=some u) (heo:∃ u,h'.get? e=some u)
  (new:yo X.prog X.w (zX H x o) h' x o):Inv X pins σ (zX H x o) { s with heap:=h',toks:=t' }:=I.un (Un.write mu he k heo) (I.hok.write mu he k heo new)
theorem Inv.weak {σ':List (Option V)} (I:Inv X pins σ H s) (hl:σ'.length=σ.length) (w:∀ (i:Nat) v,σ'[i]?=some (some v)->σ[i]?=some (some v)):Inv X pins σ' H s:=
 ⟨I.ok,I.os,I.bare,I.base,let ⟨m,hn,hl'⟩:=I.loc; ⟨m,hn,fun i x v e1 e2 e3=>hl' i x v e1 (w i v e2) e3⟩,I.cell,I.free,I.freeC,I.pin,I.hok,hl.trans I.len⟩
theorem Inv.pins_of {pins':List (Addr×Obj)} (I:Inv X pins σ H s) (h:∀ p∈pins',s.heap.get? p.1=some p.2/\H p.1=none/\p.1≠X.env.locals/\p.1 ∉ X.fs/\∀ v,p.2.data≠.cell v):Inv X pins' σ H s:=
 ⟨I.ok,I.os,I.bare,I.base,I.loc,I.cell,I.free,I.freeC,fun p hp=>(List.mem_append.mp hp).elim (fun z=>I.pin p (List.mem_append_left _ z)) (h p),I.hok,I.len⟩
theorem Ic {N:List Str} (hN:N.Nodup) {i j:Nat} {x:Str} (a:N[i]?=some x) (b:N[j]?=some x):i=j:=by
 obtain ⟨h1,e1⟩:=List.getElem?_eq_some_iff.mp a
 obtain ⟨h2,e2⟩:=List.getElem?_eq_some_iff.mp b
 exact (List.getElem_inj hN).mp (e1.trans e2.symm)
theorem LS {M:Model} {A:Around} {E:Value->Shared->Prop} {i:Nat} {x:Str} {v:V} {u:Value} {Q:Unit->Shared->Prop} (I:Inv X pins σ H s) (hN:X.N.Nodup) (hi:X.N[i]?=some x) (hx:vG X.env.scope x) (r:zi v u)
  (h:∀ s',Inv X pins (σ.set i (some v)) H s'->(∃ a,Heap.SameBut a s.heap s'.heap/\(a=X.env.locals\/X.env.cells.lookup x=some a))->Q () s') (hf:X.fn x=true\/X.env.scope.names.lookup x=some .local:=by first | exact .inl rfl | exact .inr rfl | assumption):wpAny M A (storeName X.env x u) Q E s:=by
 obtain ⟨m,hn,hl⟩:=id I.loc
 have hcls:(X.env.scope.kind == .class||(X.env.scope.kind == .module&&X.env.locals != X.env.globals))=false:=by rw [I.ok.kind]; rfl
 have hiσ:i<σ.length:=by rw [I.len]; exact (List.getElem?_eq_some_iff.mp hi).1
 have cne:=I.cne
 have tracked:∀ {a:Addr} {h':Heap},(∃ o,s.heap.get? a=some o/\H a=none)->Heap.SameBut a s.heap h'->yu X.prog X.w H h':=fun {a h'} ha hs b ob e=>by
  obtain ⟨_,_,hfree⟩:=ha
  refine (I.hok b ob e).stay (fun c w' hc q=>(hs.2 c ?_).trans q) (fun _ q=>q) fun _ _ q=>q
  rintro rfl
  rcases hc with rfl | hc
  ·rw [hfree] at e; cases e
  ·rw [hfree] at hc; cases hc
 rcases hx with hk | hk
 ·refine wpAny_storeName_local hk hn (fun h' hn' hs=>?_) hcls
  obtain ⟨oL,_,_,hoL,_⟩:=id hn
  refine h _ ⟨I.ok,I.os,I.bare,⟨fun b o e n hb hx=>?_,fun b o e n hb hx=>?_,I.base.free,fun b o e hx=>?_,I.base.tups,I.base.frzs,I.base.tbls⟩,⟨_,hn',fun j y v' e1 e2 e3=>?_⟩,fun y c e=>?_,I.free,I.freeC,fun p hp=>?_,tracked ⟨oL,hoL,I.free⟩ hs,by simpa using I.len⟩ ⟨_,hs,.inl rfl⟩
  ·exact (hs.2 b (Nat.ne_of_lt (Nat.lt_of_lt_of_le (Heap.lt_size e) I.ok.above))).trans (I.base.keep b o e n hb hx)
  ·obtain ⟨sl,e1⟩:=I.base.slot b o e n hb hx
   exact ⟨sl,(hs.2 b (Nat.ne_of_lt (Nat.lt_of_lt_of_le (Heap.lt_size e) I.ok.above))).trans e1⟩
  ·obtain ⟨o',e1⟩:=I.base.there b o e hx
   exact ⟨o',(hs.2 b (Nat.ne_of_lt (Nat.lt_of_lt_of_le (Heap.lt_size e) I.ok.above))).trans e1⟩
  ·by_cases hj:j=i
   ·subst hj
    rw [hi] at e1; cases e1
    rw [List.getElem?_set_self hiσ] at e2
    cases e2
    exact ⟨u,r,.inl ⟨hk,by simp⟩⟩
   ·rw [List.getElem?_set_ne (Ne.symm hj)] at e2
    obtain ⟨u',r',q⟩:=hl j y v' e1 e2 e3
    refine ⟨u',r',?_⟩
    rcases q with ⟨k,e⟩ | ⟨k,c,e,z⟩
    ·refine .inl ⟨k,?_⟩
     have:y≠x:=fun e=>hj (Ic hN e1 (e ▸ hi))
     simp [this,e]
    ·exact .inr ⟨k,c,e,z.sameBut hs (cne y c e)⟩
  ·obtain ⟨w',z⟩:=I.cell y c e
   exact ⟨w',z.sameBut hs (cne y c e)⟩
  ·obtain ⟨e,n,ne,nf,d⟩:=I.pin p hp
   exact ⟨(hs.2 p.1 ne).trans e,n,ne,nf,d⟩
 ·have hfn:X.fn x=true:=by
   rcases hf with z | z
   ·exact z
   ·rw [z] at hk; cases hk
  obtain ⟨c,hc⟩:=I.ok.has x (.inl hk)
  obtain ⟨w',z⟩:=I.cell x c hc
  refine wpAny_storeName_cell I.ok.kind hk hc z (fun h' hc' hs=>?_)
  obtain ⟨oc,hoc,hocd⟩:=id z
  refine h { s with heap:=h' } ⟨I.ok,I.os,I.bare,⟨fun b o e n hb hx=>?_,fun b o e n hb hx=>?_,I.base.free,fun b o e hx=>?_,I.base.tups,I.base.frzs,I.base.tbls⟩,⟨m,hn.sameBut hs (Ne.symm (cne x c hc)),fun j y v' e1 e2 e3=>?_⟩,fun y c' e=>?_,I.free,I.freeC,fun p hp=>?_,tracked ⟨oc,hoc,I.freeC x c hc⟩ hs,by simpa using I.len⟩ ⟨c,hs,.inr hc⟩
  ·exact (hs.2 b (Nat.ne_of_lt (Nat.lt_of_lt_of_le (Heap.lt_size e) (I.ok.cab x c hfn hc)))).trans (I.base.keep b o e n hb hx)
  ·obtain ⟨sl,e1⟩:=I.base.slot b o e n hb hx
   exact ⟨sl,(hs.2 b (Nat.ne_of_lt (Nat.lt_of_lt_of_le (Heap.lt_size e) (I.ok.cab x c hfn hc)))).trans e1⟩
  ·obtain ⟨o',e1⟩:=I.base.there b o e hx
   exact ⟨o',(hs.2 b (Nat.ne_of_lt (Nat.lt_of_lt_of_le (Heap.lt_size e) (I.ok.cab x c hfn hc)))).trans e1⟩
  ·by_cases hj:j=i
   ·subst hj
    rw [hi] at e1; cases e1
    rw [List.getElem?_set_self hiσ] at e2
    cases e2
    exact ⟨u,r,.inr ⟨.inl hk,c,hc,hc'⟩⟩
   ·rw [List.getElem?_set_ne (Ne.symm hj)] at e2
    obtain ⟨u',r',q⟩:=hl j y v' e1 e2 e3
    refine ⟨u',r',?_⟩
    rcases q with q | ⟨k,c',e,z'⟩
    ·exact .inl q
    ·refine .inr ⟨k,c',e,z'.sameBut hs ?_⟩
     rintro rfl
     exact hj (Ic hN e1 (I.ok.inj _ _ _ e hc ▸ hi))
  ·by_cases hcc:c'=c
   ·subst hcc; exact ⟨_,hc'⟩
   ·obtain ⟨w2,z2⟩:=I.cell y c' e
    exact ⟨w2,z2.sameBut hs hcc⟩
  ·obtain ⟨e,n,ne,nf,d⟩:=I.pin p hp
   refine ⟨(hs.2 p.1 ?_).trans e,n,ne,nf,d⟩
   intro q
   rw [q,hoc] at e
   have q':oc=p.2:=Option.some.inj e
   exact d w' (by rw [<- q']; exact hocd)
theorem T2 {M:Model} {A:Around} {E:Value->Shared->Prop} {i:Nat} {x:Str} {v:V} {u:Value} {Q:Unit->Shared->Prop} (I:Inv X pins σ H s) (hN:X.N.Nodup) (hi:X.N[i]?=some x) (hx:vG X.env.scope x) (r:zi v u)
  (h:∀ s',Inv X pins (σ.set i (some v)) H s'->Q () s') (hf:X.fn x=true\/X.env.scope.names.lookup x=some .local:=by first | exact .inl rfl | exact .inr rfl | assumption):wpAny M A (storeName X.env x u) Q E s:=
 LS I hN hi hx r (fun s' I' _=>h s' I') hf
theorem Inv.call' {s':Shared} {ch:List Addr} (I:Inv X pins σ H s) (ho:s'.os=s.os) (u:Un (vw X.stack) ch H H' s.heap s'.heap) (hok:yu X.prog X.w H' s'.heap) (hg:AllBare s'.gens)
  (hch:∀ b∈ch,(b∈X.ex\/X.s₀.heap.objs.size<=b)/\b≠X.env.locals/\(∀ x c,X.env.cells.lookup x=some c->c≠b)/\∀ p∈X.pn++pins,p.1≠b):Inv X pins σ H' s':=by
 obtain ⟨h',g',d',t',o'⟩:=s'
 have e:o'=s.os:=ho
 subst e
 exact I.call (g':=g') (t':=t') (d':=d') u hok hg hch
end
abbrev XK:=Value->Option Addr->Hp->Prop
abbrev St:=List (Option V)
abbrev VK:=V->Hp->Prop
abbrev TE:=St->Hp->VK->Prop
abbrev TT:=St->Hp->(Bool->Hp->Prop)->Prop
abbrev TA:=St->Hp->(List V->Hp->Prop)->Prop
structure w_ where
 nx:St->Hp->Prop
 rt:VK
 bk:St->Hp->Prop:=fun _ _=>False
 ct:St->Hp->Prop:=fun _ _=>False
abbrev TS:=w_->St->Hp->Prop
def EP (X:Cx) (pins:List (Addr×Obj)) (σ:St) (Q:VK) (u:Value) (s':Shared):Prop:=∃ v H',Inv X pins σ H' s'/\zi v u/\Q v H'
def TP (X:Cx) (pins:List (Addr×Obj)) (σ:St) (Q:Bool->Hp->Prop) (b:Bool) (s':Shared):Prop:=∃ H',Inv X pins σ H' s'/\Q b H'
def AP (X:Cx) (pins:List (Addr×Obj)) (σ:St) (Q:List V->Hp->Prop) (us:List Value) (s':Shared):Prop:=∃ vs H',Inv X pins σ H' s'/\zY vs us/\Q vs H'
def SP (X:Cx) (pins:List (Addr×Obj)) (D:w_) (f:Flow) (s':Shared):Prop:=
 match f with
 | .next=>∃ σ' H',Inv X pins σ' H' s'/\D.nx σ' H'
 | .brk=>∃ σ' H',Inv X pins σ' H' s'/\D.bk σ' H'
 | .cont=>∃ σ' H',Inv X pins σ' H' s'/\D.ct σ' H'
 | .ret u=>∃ v σ' H',Inv X pins σ' H' s'/\zi v u/\D.rt v H'
def PE (X:Cx) (e:Expr) (t:TE):Prop:=
 ∀ (pins:List (Addr×Obj)) (s:Shared) (σ:St) (H:Hp) (Q:VK),Inv X pins σ H s->t σ H Q->wpAny (model X.prog X.w) X.A (eval e X.env) (EP X pins σ Q) X.xe s
def PT (X:Cx) (e:Expr) (t:TT):Prop:=
 ∀ (pins:List (Addr×Obj)) (s:Shared) (σ:St) (H:Hp) (Q:Bool->Hp->Prop),Inv X pins σ H s->t σ H Q->wpAny (model X.prog X.w) X.A (isTrue e X.env (eval e X.env)) (TP X pins σ Q) X.xe s
def PW (X:Cx) (e:Expr) (t:TT):Prop:=
 ∀ (whole:Sem Value) (pins:List (Addr×Obj)) (s:Shared) (σ:St) (H:Hp) (Q:Bool->Hp->Prop),Inv X pins σ H s->t σ H Q->wpAny (model X.prog X.w) X.A (isTrue e X.env whole) (TP X pins σ Q) X.xe s
theorem PW.pt {X:Cx} {e:Expr} {t:TT} (h:PW X e t):PT X e t:=h _
def PA (X:Cx) (es:List Expr) (t:TA):Prop:=
 ∀ (pos:Pos) (pins:List (Addr×Obj)) (s:Shared) (σ:St) (H:Hp) (Q:List V->Hp->Prop),Inv X pins σ H s->t σ H Q->wpAny (model X.prog X.w) X.A (spliced (backTo pos (starEach es X.env))) (AP X pins σ Q) X.xe s
def PS (X:Cx) (st:Stmt) (t:TS):Prop:=
 ∀ (pins:List (Addr×Obj)) (s:Shared) (σ:St) (H:Hp) (D:w_),Inv X pins σ H s->t D σ H->wpAny (model X.prog X.w) X.A (exec st X.env) (SP X pins D) X.xe s
def wP (X:Cx) (st:List Stmt) (t:TS):Prop:=
 ∀ (pins:List (Addr×Obj)) (s:Shared) (σ:St) (H:Hp) (D:w_),Inv X pins σ H s->t D σ H->wpAny (model X.prog X.w) X.A (execs st X.env) (SP X pins D) X.xe s
theorem zk {α:Type} {t:Sem α} {Q Q':α->Shared->Prop} {M:Model} {A:Around} {E:Value->Shared->Prop} {s:Shared} (h:wpAny M A t Q E s) (hQ:∀ a s,Q a s->Q' a s):wpAny M A t Q' E s:=wpAny_mono h hQ fun _ _ x=>x
end L2
namespace L2
open PySem PySem.Spec PyProof.Rows
section
variable {X:Cx}
theorem MS {a b:Expr} {ta tb:TE} (ha:PE X a ta) (hb:PE X b tb) {pins:List (Addr×Obj)} {s:Shared} {σ:St} {H:Hp} {R:V->V->Hp->Prop} (I:Inv X pins σ H s) (h:ta σ H fun x H1=>tb σ H1 fun y H2=>R x y H2)
  {α:Type} {Q:α->Shared->Prop} {f:Value->Value->Sem α}
  (hf:∀ v u s2 x y H2,Inv X pins σ H2 s2->zi x v->zi y u->R x y H2->wpAny (model X.prog X.w) X.A (f v u) Q X.xe s2) :
  wpAny (model X.prog X.w) X.A (eval a X.env) (fun v s₁=>wpAny (model X.prog X.w) X.A (eval b X.env) (fun u s₂=>wpAny (model X.prog X.w) X.A (f v u) Q X.xe s₂) X.xe s₁) X.xe s:=by
 refine zk (ha pins s σ H _ I h) fun v s1 ⟨x,H1,I1,r1,q1⟩=>?_
 refine zk (hb pins s1 σ H1 _ I1 q1) fun u s2 ⟨y,H2,I2,r2,q2⟩=>?_
 exact hf v u s2 x y H2 I2 r1 r2 q2
def we (i:Nat):TE:=fun σ H Q=>∃ v,σ[i]?=some (some v)/\Q v H
def tC (v:V):TE:=fun _ H Q=>Q v H
theorem Z4 {i:Nat} {x:Str} {pos:Pos} (hN:X.N[i]?=some x) (hv:qQ X.env.scope x) (hd:(x == ("__debug__" : Str))=false:=by decide) (hcd:(x == ("__classdict__" : Str))=false:=by decide):PE X (.Name x pos) (we i):=by
 intro pins s σ H Q I h
 obtain ⟨v,e,h⟩:=h
 obtain ⟨m,hn,hl⟩:=I.loc
 obtain ⟨u,r,l⟩:=hl i x v hN e hv
 have fin:EP X pins σ Q u s:=⟨v,H,I,r,h⟩
 rcases l with ⟨hk,hm⟩ | ⟨hk,c,hc,hcell⟩
 ·exact wpAny_Name (wpAny_loadName_local I.ok.kind hk hn hm fin) hd
 ·rcases hk with hk | hk
  ·exact wpAny_Name (wpAny_loadName_cell I.ok.kind hk hc hcell fin) hd
  ·exact wpAny_Name (wpAny_loadName_free I.ok.kind hk hc hcell fin hcd) hd
theorem O6 {i j pos}:PE X (.Constant (.int i) j pos) (tC (.int i)):=fun _ _ _ H _ I h=>wpAny_Constant_int ⟨.int i,H,I.tok _,⟨_,rfl⟩,h⟩
theorem Ey {b j pos}:PE X (.Constant (.bool b) j pos) (tC (.bl b)):=fun _ _ _ H _ I h=>Constant_bool ⟨.bl b,H,I,rfl,h⟩
theorem GH {j pos}:PE X (.Constant .none j pos) (tC .non):=fun _ _ _ H _ I h=>Constant_none ⟨.non,H,I,rfl,h⟩
theorem GL {x j pos}:PE X (.Constant (.str x) j pos) (tC (.str x)):=fun _ _ _ H _ I h=>Calls.Constant_str ⟨.str x,H,I.tok _,⟨_,rfl⟩,h⟩
def Gl (X:Cx) (x:Str):Prop:=X.env.kindOf x=some .globalImplicit
theorem Vv {E:Value->Shared->Prop} {pins:List (Addr×Obj)} {s:Shared} {σ:St} {H:Hp} {x:Str} {u:Value} {pos:Pos} {Q:Value->Shared->Prop} (I:Inv X pins σ H s) (hg:Gl X x) (hm:X.mg x=some u) (h:Q u s)
  (hd:(x == ("__debug__" : Str))=false:=by decide):wpAny (model X.prog X.w) X.A (eval (.Name x pos) X.env) Q E s:=
 Calls.Name_function_global I.ok.kind hg (Calls.loadGlobal_global (by rw [I.ok.glob]; exact I.mod.glob.keeps I.bk) hm h) hd
theorem jg {E:Value->Shared->Prop} {pins:List (Addr×Obj)} {s:Shared} {σ:St} {H:Hp} {x:Str} {u:Value} {pos:Pos} {Q:Value->Shared->Prop} (I:Inv X pins σ H s) (hg:Gl X x) (hm:X.mg x=none) (hv:bootBuiltins x=some u) (h:Q u s)
  (hn:x ≠ "__name__" := by decide) (hd:(x == ("__debug__" : Str))=false:=by decide):wpAny (model X.prog X.w) X.A (eval (.Name x pos) X.env) Q E s:=by
 obtain ⟨mb,h1,h2⟩:=I.mod.blt
 exact Calls.Name_function_global I.ok.kind hg (Calls.loadGlobal_builtin (by rw [I.ok.glob]; exact I.mod.glob.keeps I.bk) hm (by rw [I.ok.blt]; exact h1.keeps I.bk) ((h2 x hn).trans hv) h) hd
theorem GE {x:Str} {v:V} {u:Value} {pos:Pos} (hg:Gl X x) (hm:X.mg x=some u) (r:zi v u) (hd:(x == ("__debug__" : Str))=false:=by decide):PE X (.Name x pos) (tC v):=
 fun _ _ _ H _ I h=>Vv I hg hm ⟨v,H,I,r,h⟩ hd
theorem Ez {x:Str} {v:V} {u:Value} {pos:Pos} (hg:Gl X x) (hm:X.mg x=none) (hv:bootBuiltins x=some u) (r:zi v u) (hn:x ≠ "__name__" := by decide) (hd:(x == ("__debug__" : Str))=false:=by decide):PE X (.Name x pos) (tC v):=
 fun _ _ _ H _ I h=>jg I hg hm hv ⟨v,H,I,r,h⟩ hn hd
def P5 (ta tb:TE) (k:Int->Int->Hp->Prop):St->Hp->Prop:=fun σ H=>ta σ H fun x H1=>tb σ H1 fun y H2=>∃ i j,x=.int i/\y=.int j/\k i j H2
variable {a b:Expr} {ta tb:TE} {pos:Pos}
def PC (X:Cx) (op:CmpOp) (a b:Expr) (t:TE):Prop:=
 ∀ (pins:List (Addr×Obj)) (s:Shared) (σ:St) (H:Hp) (Q:VK),Inv X pins σ H s->t σ H Q->
  wpAny (model X.prog X.w) X.A (eval a X.env) (fun v s₁=>wpAny (model X.prog X.w) X.A (eval b X.env) (fun u s₂=>wpAny (model X.prog X.w) X.A (compareOp op v u) (EP X pins σ Q) X.xe s₂) X.xe s₁) X.xe s
def T5 (p:Int->Int->Bool) (ta tb:TE):TE:=fun σ H Q=>P5 ta tb (fun i j H2=>Q (.bl (p i j)) H2) σ H
abbrev PL:TE->TE->TE:=T5 fun i j=>decide (i<j)
abbrev PK:TE->TE->TE:=T5 fun i j=>decide (i<=j)
theorem O4 {op:CmpOp} {p:Int->Int->Bool} (ha:PE X a ta) (hb:PE X b tb)
  (rule:∀ (i j:Int) (t u:Tok) (Q:Value->Shared->Prop) (s:Shared),Q (.bool (p i j)) s->wpAny (model X.prog X.w) X.A (compareOp op (.int i t) (.int j u)) Q X.xe s):PC X op a b (T5 p ta tb):=by
 intro pins s σ H Q I h
 refine MS ha hb I h fun v u s2 x y H2 I2 rx ry q=>?_
 obtain ⟨i,j,rfl,rfl,q⟩:=q
 obtain ⟨t,rfl⟩:=rx
 obtain ⟨t',rfl⟩:=ry
 exact rule i j t t' _ s2 ⟨.bl _,H2,I2,rfl,q⟩
theorem pc_lt (ha:PE X a ta) (hb:PE X b tb):PC X .Lt a b (PL ta tb):=O4 ha hb fun _ _ _ _ _ _ h=>lt_int h
theorem pc_le (ha:PE X a ta) (hb:PE X b tb):PC X .LtE a b (PK ta tb):=O4 ha hb fun _ _ _ _ _ _ h=>le_int h
def tB (t:TE):TT:=fun σ H Q=>t σ H fun x H1=>∃ c,x=.bl c/\Q c H1
theorem Gy {e:Expr} {t:TE} (h:PE X e t) (he:∀ whole,isTrue e X.env whole=(do let v <- whole; standAt e.pos; holding [v] (truthy v)):=by intro _; rfl):PT X e (tB t):=by
 intro pins s σ H Q I hw
 refine isTrue_plain (zk (h pins s σ H _ I hw) fun v s1 ⟨x,H1,I1,r1,q1⟩=>?_) (he _)
 obtain ⟨d,rfl,q⟩:=q1
 cases r1
 exact wpAny_truthy_bool ⟨H1,I1,q⟩
variable {tA tB':TT} {yX:List Expr}
def P6 (t u:TT):TT:=fun σ H Q=>t σ H fun c H1=>if c=true then u σ H1 Q else Q false H1
def PU (t u:TT):TT:=fun σ H Q=>t σ H fun c H1=>if c=true then Q true H1 else u σ H1 Q
def PQ (t:TT):TT:=fun σ H Q=>t σ H fun c H1=>Q (!c) H1
theorem HC (ha:PT X a tA):PW X (.BoolOp .And [a] pos) tA:=by
 intro wh pins s σ H Q I h
 refine isTrue_and (zk (ha pins s σ H Q I h) fun c s1 e=>?_)
 cases c with
 | true=>exact isTrue_and_nil e
 | false=>exact e
theorem HE (ha:PT X a tA):PW X (.BoolOp .Or [a] pos) tA:=by
 intro wh pins s σ H Q I h
 refine isTrue_or (zk (ha pins s σ H Q I h) fun c s1 e=>?_)
 cases c with
 | false=>exact isTrue_or_nil e
 | true=>exact e
theorem HB (ha:PT X a tA) (hb:PW X (.BoolOp .And (b::yX) pos) tB'):PW X (.BoolOp .And (a::b::yX) pos) (P6 tA tB'):=by
 intro wh pins s σ H Q I h
 refine isTrue_and (zk (ha pins s σ H _ I h) fun c s1 ⟨H1,I1,q1⟩=>?_)
 cases c with
 | true=>exact hb wh pins s1 σ H1 Q I1 q1
 | false=>exact ⟨H1,I1,q1⟩
theorem HD (ha:PT X a tA) (hb:PW X (.BoolOp .Or (b::yX) pos) tB'):PW X (.BoolOp .Or (a::b::yX) pos) (PU tA tB'):=by
 intro wh pins s σ H Q I h
 refine isTrue_or (zk (ha pins s σ H _ I h) fun c s1 ⟨H1,I1,q1⟩=>?_)
 cases c with
 | true=>exact ⟨H1,I1,q1⟩
 | false=>exact hb wh pins s1 σ H1 Q I1 q1
theorem Gx (ha:PT X a tA):PT X (.UnaryOp .Not a pos) (PQ tA):=by
 intro pins s σ H Q I h
 exact isTrue_not (ha pins s σ H (fun c H1=>Q (!c) H1) I h)
def P7 (ta tb:TE):TE:=fun σ H Q=>ta σ H fun x H1=>∃ c,x=.bl c/\if c=true then tb σ H1 Q else Q (.bl false) H1
def PV (ta tb:TE):TE:=fun σ H Q=>ta σ H fun x H1=>∃ c,x=.bl c/\if c=true then Q (.bl true) H1 else tb σ H1 Q
theorem GI {op} {t:TE} (h:PE X a t):PE X (.BoolOp op [a] pos) t:=fun pins s σ H Q I hw=>BoolOp_one (h pins s σ H Q I hw)
theorem Ex (ha:PE X a ta) (hb:PE X (.BoolOp .And (b::yX) pos) tb):PE X (.BoolOp .And (a::b::yX) pos) (P7 ta tb):=by
 intro pins s σ H Q I h
 refine BoolOp_and (zk (ha pins s σ H _ I h) fun v s1 ⟨x,H1,I1,r1,q1⟩=>?_)
 obtain ⟨c,rfl,q1⟩:=q1
 cases r1
 refine wpAny_truthy_bool ?_
 cases c with
 | true=>exact hb pins s1 σ H1 Q I1 q1
 | false=>exact ⟨.bl false,H1,I1,rfl,q1⟩
theorem GJ (ha:PE X a ta) (hb:PE X (.BoolOp .Or (b::yX) pos) tb):PE X (.BoolOp .Or (a::b::yX) pos) (PV ta tb):=by
 intro pins s σ H Q I h
 refine BoolOp_or (zk (ha pins s σ H _ I h) fun v s1 ⟨x,H1,I1,r1,q1⟩=>?_)
 obtain ⟨c,rfl,q1⟩:=q1
 cases r1
 refine wpAny_truthy_bool ?_
 cases c with
 | false=>exact hb pins s1 σ H1 Q I1 q1
 | true=>exact ⟨.bl true,H1,I1,rfl,q1⟩
def PD (t:TT) (ta tb:TE):TE:=fun σ H Q=>t σ H fun c H1=>if c=true then ta σ H1 Q else tb σ H1 Q
theorem GF {c:Expr} (hc:PT X c tA) (ha:PE X a ta) (hb:PE X b tb):PE X (.IfExp c a b pos) (PD tA ta tb):=by
 intro pins s σ H Q I h
 refine wpAny_IfExp (zk (hc pins s σ H _ I h) fun d s1 ⟨H1,I1,q1⟩=>?_)
 cases d with
 | true=>exact ha pins s1 σ H1 Q I1 q1
 | false=>exact hb pins s1 σ H1 Q I1 q1
end
end L2
namespace L2
open PySem PySem.Spec PyProof.Rows
def zw (K:PySem.W.Frag) (H:Hp) (a:Addr) (xs:List V):Prop:=
 Rd H a (.lst xs) \/
  ∃ (o:Obj) (its:Array Value) (n:Nat),K.lookup a=some o/\o.cls=.type "list" /\ o.dict=none/\o.data=.seq its n/\its.size<=sizeLine/\zY xs its.toList
def ye (K:PySem.W.Frag) (H:Hp) (a:Addr) (xs:List V):Prop:=
 Rd H a (.tup xs) \/
  ∃ (o:Obj) (its:Array Value) (n:Nat),K.lookup a=some o/\o.cls=.type "tuple" /\ o.data=.seq its n/\its.size<=sizeLine/\zY xs its.toList
def MD:Value->Option V
 | .none=>some .non
 | .bool b=>some (.bl b)
 | .int i _=>some (.int i)
 | .str x _=>some (.str x)
 | .bytes b _=>some (.byt b)
 | .float b _=>some (.flt b)
 | .ref a=>some (.ref a)
 | .type n=>some (.ty n)
 | _=>none
theorem zi.abs {x:V} {u:Value} (r:zi x u):MD u=some x:=by
 cases x with
 | non=>cases r; rfl
 | bl _=>cases r; rfl
 | int _=>obtain ⟨t,rfl⟩:=r; rfl
 | str _=>obtain ⟨t,rfl⟩:=r; rfl
 | byt _=>obtain ⟨t,rfl⟩:=r; rfl
 | flt _=>obtain ⟨t,rfl⟩:=r; rfl
 | ref _=>cases r; rfl
 | ty _=>cases r; rfl
theorem zi.inj {x y:V} {u:Value} (r:zi x u) (q:zi y u):x=y:=Option.some.inj (r.abs.symm.trans q.abs)
theorem zY.inj:∀ {xs ys:List V} {us:List Value},zY xs us->zY ys us->xs=ys
 | _,_,_,.nil,.nil=>rfl
 | _,_,_,.cons r t,.cons r' t'=>by rw [r.inj r',zY.inj t t']
section
variable {X:Cx} {pins:List (Addr×Obj)} {σ:St} {H:Hp} {s:Shared} {a:Addr} {xs ys:List V}
theorem zw.of {K:PySem.W.Frag} (h:H a=some (.lst xs)):zw K H a xs:=.inl (.inl h)
theorem ye.of {K:PySem.W.Frag} (h:H a=some (.tup xs)):ye K H a xs:=.inl (.inl h)
theorem Inv.list (I:Inv X pins σ H s) (h:zw X.K H a xs):∃ its:List Value,zY xs its/\PlainL s.heap a its.toArray/\xs.length<=sizeLine:=by
 rcases h with h | ⟨o,its,n,hk,hc,hd,hs,hz,r⟩
 ·obtain ⟨z,its,n,r,e⟩:=h.ok I.hok
  exact ⟨its,r,⟨_,n,e,rfl,rfl,rfl⟩,z⟩
 ·refine ⟨its.toList,r,⟨o,n,I.kIn a o hk,hc,hd,by simpa using hs⟩,?_⟩
  have e:=r.length
  simp only [Array.length_toList] at e
  omega
theorem Inv.tuple (I:Inv X pins σ H s) (h:ye X.K H a xs):∃ its:List Value,zY xs its/\IsTup s.heap a its.toArray/\xs.length<=sizeLine:=by
 rcases h with h | ⟨o,its,n,hk,hc,hs,hz,r⟩
 ·obtain ⟨z,its,r,p⟩:=h.ok I.hok
  exact ⟨its,r,p,z⟩
 ·refine ⟨its.toList,r,⟨o,I.kIn a o hk,hc,n,by simpa using hs⟩,?_⟩
  have e:=r.length
  simp only [Array.length_toList] at e
  omega
theorem Inv.list_inj (I:Inv X pins σ H s) (h:zw X.K H a xs) (h':zw X.K H a ys):xs=ys:=by
 obtain ⟨its,r,⟨o,n,e,_,_,d⟩,_⟩:=I.list h
 obtain ⟨its',r',⟨o',n',e',_,_,d'⟩,_⟩:=I.list h'
 rw [e] at e'; cases e'
 rw [d] at d'
 injection d' with d1 _
 have:its=its':=by simpa using congrArg Array.toList d1
 subst this
 exact r.inj r'
theorem Inv.tuple_inj (I:Inv X pins σ H s) (h:ye X.K H a xs) (h':ye X.K H a ys):xs=ys:=by
 obtain ⟨its,r,⟨o,e,_,n,d⟩,_⟩:=I.tuple h
 obtain ⟨its',r',⟨o',e',_,n',d'⟩,_⟩:=I.tuple h'
 rw [e] at e'; cases e'
 rw [d] at d'
 injection d' with d1 _
 have:its=its':=by simpa using congrArg Array.toList d1
 subst this
 exact r.inj r'
end
abbrev Cx.wish (X:Cx) (E:Value->Shared->Prop):Cx:={ X with xe:=E }
abbrev Cx.nox (X:Cx):Cx:=X.wish fun _ _=>False
theorem Cx.Ok.wish {X:Cx} (ok:X.Ok) (E:Value->Shared->Prop):(X.wish E).Ok:=
 ⟨ok.mod,ok.kind,ok.glob,ok.blt,ok.above,ok.inj,ok.has,ok.cab,ok.hd,ok.frames,ok.stk,ok.exf,ok.bs,ok.bsz,ok.noex,ok.exfs,ok.funs,ok.frf⟩
theorem Cx.Ok.unwish {X:Cx} {E:Value->Shared->Prop} (ok:(X.wish E).Ok):X.Ok:=
 ⟨ok.mod,ok.kind,ok.glob,ok.blt,ok.above,ok.inj,ok.has,ok.cab,ok.hd,ok.frames,ok.stk,ok.exf,ok.bs,ok.bsz,ok.noex,ok.exfs,ok.funs,ok.frf⟩
section
variable {X:Cx} {pins:List (Addr×Obj)} {σ:St} {H:Hp} {s:Shared} {E:Value->Shared->Prop}
theorem Inv.wish (I:Inv X pins σ H s) (E:Value->Shared->Prop):Inv (X.wish E) pins σ H s:=⟨I.ok.wish E,I.os,I.bare,I.base,I.loc,I.cell,I.free,I.freeC,I.pin,I.hok,I.len⟩
theorem Inv.unwish (I:Inv (X.wish E) pins σ H s):Inv X pins σ H s:=⟨I.ok.unwish,I.os,I.bare,I.base,I.loc,I.cell,I.free,I.freeC,I.pin,I.hok,I.len⟩
theorem SP.unwish {D:w_} {f:Flow} {s':Shared} (h:SP (X.wish E) pins D f s'):SP X pins D f s':=by
 cases f with
 | next=>obtain ⟨σ',H',I,q⟩:=h; exact ⟨σ',H',I.unwish,q⟩
 | brk=>obtain ⟨σ',H',I,q⟩:=h; exact ⟨σ',H',I.unwish,q⟩
 | cont=>obtain ⟨σ',H',I,q⟩:=h; exact ⟨σ',H',I.unwish,q⟩
 | ret u=>obtain ⟨v,σ',H',I,r,q⟩:=h; exact ⟨v,σ',H',I.unwish,r,q⟩
theorem wP.nox {st:List Stmt} {t:TS} (h:wP X.nox st t):wP X st t:=fun pins s σ H D I hw=>
 wpAny_mono (h pins s σ H D (I.wish _) hw) (fun _ _ q=>q.unwish) fun _ _ z=>False.elim z
end
section
variable {X:Cx} {st:Stmt} {yX:List Stmt} {t u:TS} {e:Expr} {te:TE} {pos:Pos}
def PM:TS:=fun D σ H=>D.nx σ H
def Pc (t u:TS):TS:=fun D σ H=>t { D with nx:=u D } σ H
theorem Gw:wP X [] PM:=fun _ _ σ H _ I h=>wpAny_execs_nil ⟨σ,H,I,h⟩
theorem Xv (h1:PS X st t) (h2:wP X yX u):wP X (st::yX) (Pc t u):=by
 intro pins s σ H D I h
 refine wpAny_execs_cons (zk (h1 pins s σ H { D with nx:=u D } I h) fun f s1 q=>?_)
 cases f with
 | next=>
  obtain ⟨σ',H',I',q⟩:=q
  exact h2 pins s1 σ' H' D I' q
 | ret v=>exact q
 | brk=>exact q
 | cont=>exact q
theorem UR (h1:PS X st t):wP X [st] t:=by
 intro pins s σ H D I h
 refine wpAny_execs_cons (zk (h1 pins s σ H D I h) fun f s1 q=>?_)
 cases f with
 | next=>exact wpAny_execs_nil q
 | ret v=>exact q
 | brk=>exact q
 | cont=>exact q
theorem Inv.quiet {pins:List (Addr×Obj)} {σ:St} {H:Hp} {s:Shared} (I:Inv X pins σ H s):interactive X.env=false:=by simp [interactive,I.ok.kind]
def Lc (te:TE):TS:=fun D σ H=>te σ H fun _ H1=>D.nx σ H1
theorem Gs (he:PE X e te) (hs:swapsWith e none pos.line X.env=pure false:=by rfl):PS X (.Expr e pos) (Lc te):=by
 intro pins s σ H D I h
 exact wpAny_Expr_any (zk (he pins s σ H _ I h) fun v s1 ⟨x,H1,I1,r1,q1⟩=>⟨σ,H1,I1,q1⟩) I.quiet hs
def Pa (te:TE):TS:=fun D σ H=>te σ H D.rt
theorem Xu (he:PE X e te):PS X (.Return (some e) pos) (Pa te):=by
 intro pins s σ H D I h
 exact wpAny_Return_some (zk (he pins s σ H _ I h) fun v s1 ⟨x,H1,I1,r1,q1⟩=>⟨x,σ,H1,I1,r1,q1⟩)
def PH (c:TT) (t u:TS):TS:=fun D σ H=>c σ H fun b H1=>if b=true then t D σ H1 else u D σ H1
theorem Gu {c:Expr} {a b:List Stmt} {tc:TT} (hc:PT X c tc) (ha:wP X a t) (hb:wP X b u):PS X (.If c a b pos) (PH tc t u):=by
 intro pins s σ H D I h
 refine wpAny_If (zk (hc pins s σ H _ I h) fun d s1 ⟨H1,I1,q1⟩=>?_)
 cases d with
 | true=>exact ha pins s1 σ H1 D I1 q1
 | false=>exact hb pins s1 σ H1 D I1 q1
end
abbrev TG:=V->St->Hp->(St->Hp->Prop)->Prop
abbrev ur:=List V->St->Hp->(St->Hp->Prop)->Prop
def PG (X:Cx) (target:Expr) (t:TG):Prop:=
 ∀ (pins:List (Addr×Obj)) (s:Shared) (σ:St) (H:Hp) (v:V) (u:Value) (Q:St->Hp->Prop),Inv X pins σ H s->zi v u->t v σ H Q->
  wpAny (model X.prog X.w) X.A (assign target X.env u) (fun _ s'=>∃ σ' H',Inv X pins σ' H' s'/\Q σ' H') X.xe s
def gU (X:Cx) (ts:List Expr) (t:ur):Prop:=
 ∀ (pins:List (Addr×Obj)) (s:Shared) (σ:St) (H:Hp) (vs:List V) (us:List Value) (Q:St->Hp->Prop),Inv X pins σ H s->zY vs us->t vs σ H Q->
  wpAny (model X.prog X.w) X.A (assignInOrder ((assignEach ts X.env).map (·.2)) us) (fun _ s'=>∃ σ' H',Inv X pins σ' H' s'/\Q σ' H') X.xe s
abbrev YQ:=V->V->V->Hp->(Hp->Prop)->Prop
def Wn (X:Cx) (t:YQ):Prop:=
 ∀ (pins:List (Addr×Obj)) (s:Shared) (σ:St) (H:Hp) (o i v:V) (ov iv u:Value) (Q:Hp->Prop),Inv X pins σ H s->zi o ov->zi i iv->zi v u->t o i v H Q->
  wpAny (model X.prog X.w) X.A (setItem ov iv u) (fun _ s'=>∃ H',Inv X pins σ H' s'/\Q H') X.xe s
abbrev gc:=V->V->Hp->VK->Prop
def Wm (X:Cx) (op:Operator) (t:gc):Prop:=
 ∀ (pins:List (Addr×Obj)) (s:Shared) (σ:St) (H:Hp) (x y:V) (v u:Value) (Q:VK),Inv X pins σ H s->zi x v->zi y u->t x y H Q->
  wpAny (model X.prog X.w) X.A (inplaceOp op v u) (EP X pins σ Q) X.xe s
section
variable {X:Cx} {pos:Pos}
def wL (i:Nat):TG:=fun v σ H Q=>Q (σ.set i (some v)) H
theorem GO {i:Nat} {x:Str} (hN:X.N.Nodup) (hi:X.N[i]?=some x) (hx:vG X.env.scope x) (hf:X.fn x=true\/X.env.scope.names.lookup x=some .local:=by first | exact .inl rfl | exact .inr rfl | assumption):PG X (.Name x pos) (wL i):=by
 intro pins s σ H v u Q I r h
 exact wpAny_assign_Name (T2 I hN hi hx r (fun s' I'=>⟨_,H,I',h⟩) hf)
def jX:ur:=fun vs σ H Q=>vs=[]/\Q σ H
def u_ (t:TG) (u:ur):ur:=fun vs σ H Q=>∃ v r,vs=v::r/\t v σ H fun σ' H'=>u r σ' H' Q
theorem GS:gU X [] jX:=by
 intro pins s σ H vs us Q I r h
 obtain ⟨e,h⟩:=h
 subst e
 cases r
 exact assignInOrder_nil ⟨σ,H,I,h⟩
theorem GR {e:Expr} {es:List Expr} {t:TG} {u:ur} (h1:PG X e t) (h2:gU X es u)
  (hs:(assignEach (e::es) X.env).map (·.2)=assign e X.env::(assignEach es X.env).map (·.2):=by rfl):gU X (e::es) (u_ t u):=by
 intro pins s σ H vs us Q I r h
 obtain ⟨v,vr,e1,h⟩:=h
 subst e1
 cases r with
 | cons r rr=>
  rw [hs]
  refine assignInOrder_cons (zk (h1 pins s σ H _ _ _ I r h) fun _ s1 ⟨σ1,H1,I1,q1⟩=>?_)
  exact h2 pins s1 σ1 H1 _ _ Q I1 rr q1
def jY (K:PySem.W.Frag) (n:Nat) (t:ur):TG:=fun v σ H Q=>∃ a xs,v=.ref a/\ye K H a xs/\xs.length=n/\t xs σ H Q
theorem GQ {es:List Expr} {k:Nat} {t:ur} {n:Nat} (hc:X.calm=true) (h:gU X es t)
  (hn:(assignEach es X.env).length=n:=by rfl) (hst:(assignEach es X.env).findIdx? (·.1)=none:=by rfl):PG X (.Tuple es k pos) (jY X.K n t):=by
 intro pins s σ H v u Q I r hw
 obtain ⟨a,xs,e1,hq,hl,hw⟩:=hw
 subst e1
 cases r
 obtain ⟨its,rv,ht,hz⟩:=I.tuple hq
 refine assign_Tuple_tuple (I.ok.hd hc) ht (by simp [hn,<- hl,rv.length]) hst fun h' hx=>?_
 have I1:Inv X pins σ H { s with heap:=h' }:=I.kept (t':=s.toks) fun b o e=>hx b o (Nat.ne_of_lt (Heap.lt_size e)) e
 exact h pins _ σ H xs _ Q I1 (by simpa using rv) hw
def J6 (to ti:TE) (t:YQ):TG:=fun v σ H Q=>to σ H fun o H1=>ti σ H1 fun i H2=>t o i v H2 fun H3=>Q σ H3
theorem GP {o i:Expr} {to ti:TE} {t:YQ} (ho:PE X o to) (hi:PE X i ti) (hs:Wn X t)
  (ha:∀ v,assign (.Subscript o i pos) X.env v=(do
   let ov <- holding [v] (eval o X.env)
   let iv <- holding [v,ov] (eval i X.env)
   standAt pos
   holding [v,ov,iv] (setItem ov iv v)
   release [v,ov,iv] []):=by intro _; rfl):PG X (.Subscript o i pos) (J6 to ti t):=by
 intro pins s σ H v u Q I r h
 rw [ha]
 refine wpAny_bind (wpAny_holding (zk (ho pins s σ H _ I h) fun ov s1 ⟨x,H1,I1,r1,q1⟩=>?_))
 refine wpAny_bind (wpAny_holding (zk (hi pins s1 σ H1 _ I1 q1) fun iv s2 ⟨y,H2,I2,r2,q2⟩=>?_))
 refine wpAny_bind (wpAny_standAt (wpAny_bind (wpAny_holding (zk (hs pins s2 σ H2 x y v ov iv u _ I2 r1 r2 r q2) fun _ s3 ⟨H3,I3,q3⟩=>?_))))
 exact wpAny_release ⟨σ,H3,I3,q3⟩
def WG (te:TE) (g:TG):TS:=fun D σ H=>te σ H fun x H1=>g x σ H1 D.nx
theorem Go {tg e:Expr} {te:TE} {g:TG} (he:PE X e te) (hg:PG X tg g) (hs:swapsWithSole [tg] e pos.line X.env=pure false:=by rfl) (hw:swappedStores [tg] e X.env=pure none:=by rfl)
  (h1:(assignEach [tg] X.env).map (·.2)=[assign tg X.env]:=by rfl):PS X (.Assign [tg] e pos) (WG te g):=by
 intro pins s σ H D I h
 refine wpAny_Assign_stores (zk (he pins s σ H _ I h) fun v s1 ⟨x,H1,I1,r1,q1⟩=>?_) hs hw
 rw [h1]
 exact zk (hg pins s1 σ H1 x v _ I1 r1 q1) fun _ s2 q=>q
theorem OI {i:Nat} {x:Str} {e:Expr} {te:TE} {pos':Pos} (hN:X.N.Nodup) (hi:X.N[i]?=some x) (hx:vG X.env.scope x) (he:PE X e te) (hs:swapsWith e (some (.Name x pos')) pos.line X.env=pure false:=by rfl) (hf:X.fn x=true\/X.env.scope.names.lookup x=some .local:=by first | exact .inl rfl | exact .inr rfl | assumption) :
  PS X (.Assign [.Name x pos'] e pos) (WG te (wL i)):=by
 intro pins s σ H D I h
 refine wpAny_Assign_Name (zk (he pins s σ H _ I h) fun v s1 ⟨y,H1,I1,r1,q1⟩=>?_) hs
 exact T2 I1 hN hi hx r1 (fun s2 I2=>⟨_,H1,I2,q1⟩) hf
def P8 (i:Nat) (te:TE) (ti:gc):TS:=fun D σ H=>∃ x,σ[i]?=some (some x)/\te σ H fun y H1=>ti x y H1 fun z H2=>D.nx (σ.set i (some z)) H2
theorem Gp {i:Nat} {x:Str} {e:Expr} {te:TE} {op:Operator} {ti:gc} {pos':Pos} (hN:X.N.Nodup) (hi:X.N[i]?=some x) (hx:vG X.env.scope x) (he:PE X e te) (ho:Wm X op ti) (hf:X.fn x=true\/X.env.scope.names.lookup x=some .local:=by first | exact .inl rfl | exact .inr rfl | assumption) :
  PS X (.AugAssign (.Name x pos') op e pos) (P8 i te ti):=by
 intro pins s σ H D I h
 obtain ⟨v,e1,h⟩:=h
 obtain ⟨m,hn,hl⟩:=I.loc
 have vis:qQ X.env.scope x:=by rcases hx with k | k; exact .inl k; exact .inr (.inl k)
 obtain ⟨u,r,l⟩:=hl i x v hi e1 vis
 refine wpAny_AugAssign_Name ?_
 have go:wpAny (model X.prog X.w) X.A (eval e X.env) (fun w s₂=>wpAny (model X.prog X.w) X.A (inplaceOp op u w) (fun r s₃=>wpAny (model X.prog X.w) X.A (storeName X.env x r) (fun _=>SP X pins D .next) X.xe s₃) X.xe s₂) X.xe s:=by
  refine zk (he pins s σ H _ I h) fun w s1 ⟨y,H1,I1,r1,q1⟩=>?_
  refine zk (ho pins s1 σ H1 v y u w _ I1 r r1 q1) fun z s2 ⟨zv,H2,I2,r2,q2⟩=>?_
  exact T2 I2 hN hi hx r2 (fun s3 I3=>⟨_,H2,I3,q2⟩) hf
 rcases l with ⟨hk,hm⟩ | ⟨hk,c,hc,hcell⟩
 ·exact wpAny_loadName_local I.ok.kind hk hn hm go
 ·rcases hk with hk | hk
  ·exact wpAny_loadName_cell I.ok.kind hk hc hcell go
  ·rcases hx with k | k
   ·have:X.env.scope.names.lookup x=some .free:=hk
    rw [k] at this; cases this
   ·have:X.env.scope.names.lookup x=some .free:=hk
    rw [k] at this; cases this
def JS (f:Int->Int->Int):gc:=fun x y H Q=>∃ i j,x=.int i/\y=.int j/\Q (.int (f i j)) H
theorem JT:Wm X .Add (JS fun i j=>i+j):=by
 intro pins s σ H x y v u Q I r1 r2 h
 obtain ⟨i,j,e1,e2,q⟩:=h
 subst e1; subst e2
 obtain ⟨t,rfl⟩:=r1
 obtain ⟨t',rfl⟩:=r2
 exact iadd_int ⟨.int _,H,I.tok _,⟨_,rfl⟩,q⟩
end
section
variable {X:Cx} {pos:Pos}
def Pj (c:TT) (tb:TS):TS:=fun D σ H=>∃ W:Nat->St->Hp->Prop,(∃ m,W m σ H)/\∀ m σ H,W m σ H->
 c σ H fun b H1=>if b=true then ∃ N:St->Hp->Prop,(∀ σ' H',N σ' H'->∃ m',m'<m/\W m' σ' H')/\tb { D with nx:=N,ct:=N,bk:=D.nx } σ H1 else D.nx σ H1
theorem Gv {c:Expr} {body:List Stmt} {tc:TT} {tb:TS} (hp:PassesOwn (model X.prog X.w) X.A X.env X.xe) (hc:PT X c tc) (hb:wP X body tb):PS X (.While c body [] pos) (Pj tc tb):=by
 intro pins s σ H D I h
 obtain ⟨W,⟨m0,w0⟩,turn⟩:=h
 refine wpAny_While (codeAny_whileLoop (fun n s'=>∃ σ' H',Inv X pins σ' H' s'/\W n σ' H') ?_ m0 ⟨σ,H,I,w0⟩)
 rintro n s1 ⟨σ1,H1,I1,w1⟩
 refine wpAny_passesOwn hp (zk (hc pins s1 σ1 H1 _ I1 (turn n σ1 H1 w1)) fun b s2 ⟨H2,I2,q2⟩=>?_)
 cases b with
 | true=>
  obtain ⟨N,hN,q2⟩:=q2
  rw [if_pos rfl]
  refine wpAny_passesOwn hp (zk (hb pins s2 σ1 H2 _ I2 q2) fun f s3 q3=>?_)
  cases f with
  | next=>
   obtain ⟨σ3,H3,I3,n3⟩:=q3
   obtain ⟨m',hm,w3⟩:=hN σ3 H3 n3
   exact ⟨m',hm,σ3,H3,I3,w3⟩
  | cont=>
   obtain ⟨σ3,H3,I3,n3⟩:=q3
   obtain ⟨m',hm,w3⟩:=hN σ3 H3 n3
   exact ⟨m',hm,σ3,H3,I3,w3⟩
  | brk=>exact q3
  | ret v=>exact q3
 | false=>
  rw [if_neg Bool.false_ne_true]
  exact wpAny_execs_nil ⟨σ1,H2,I2,q2⟩
end
structure It where
 go:Nat->Hp->Prop
 yld:Nat->Hp->V->Hp->Prop
 stop:Nat->Hp->Prop
def uF (X:Cx) (pins:List (Addr×Obj)) (H:Hp) (b:Addr):Prop:=
 H b=none/\b≠X.env.locals/\b ∉ X.fs/\(b∈X.ex\/X.s₀.heap.objs.size<=b)/\(∀ x c,X.env.cells.lookup x=some c->c≠b)/\∀ p∈X.pn++pins,p.1≠b
theorem Inv.fpOk {X:Cx} {pins:List (Addr×Obj)} {σ:St} {H H':Hp} {s:Shared} {b:Addr} (I:Inv X pins σ H s) (hb:s.heap.objs.size<=b) (hn:H' b=none):uF X pins H' b:=by
 refine ⟨hn,Nat.ne_of_gt (Nat.lt_of_lt_of_le I.lt hb),I.nofs hb,.inr (Nat.le_trans I.sz hb),fun x c e z=>?_,fun p hp z=>?_⟩
 ·obtain ⟨v,q⟩:=I.cell x c e
  exact absurd (Nat.lt_of_lt_of_le q.lt (by rw [z]; exact hb)) (Nat.lt_irrefl _)
 ·exact absurd (Nat.lt_of_lt_of_le (Heap.lt_size (I.pin p hp).1) (by rw [z]; exact hb)) (Nat.lt_irrefl _)
structure qO (P:Program) (w:World) (K:PySem.W.Frag) (tg:Expr) (J:It) (fp:List Addr) (it:Addr) (tn:Nat->Heap->Prop):Prop where
 mem:it∈fp
 obj:∀ i h,tn i h->∀ b∈fp,∃ o,h.get? b=some o/\∀ v,o.data≠.cell v
 keep:∀ i h h',tn i h->(∀ b∈fp,∀ o,h.get? b=some o->h'.get? b=some o)->tn i h'
 item:∀ (X:Cx),X.prog=P->X.w=w->X.K=K->X.calm=true->∀ (i:Nat) (pins:List (Addr×Obj)) (s:Shared) (σ:St) (H:Hp) (E:Value->Shared->Prop),Inv X pins σ H s->(∀ b∈fp,uF X pins H b)->tn i s.heap->J.go i H->
  wpAny (model P w) X.A (pyNext (.ref it)) (fun r s1=>∃ u,r=some u/\
   wpAny (model P w) X.A (letOwnedTupleGo tg (.ref it) u) (fun _ s2=>∃ x H',Inv X pins σ H' s2/\zi x u/\J.yld i H x H'/\tn (i+1) s2.heap/\∀ b∈fp,H' b=none) E s1) E s
 done:∀ (X:Cx),X.prog=P->X.w=w->X.K=K->X.calm=true->∀ (i:Nat) (pins:List (Addr×Obj)) (s:Shared) (σ:St) (H:Hp) (E:Value->Shared->Prop),Inv X pins σ H s->(∀ b∈fp,uF X pins H b)->tn i s.heap->J.stop i H->
  wpAny (model P w) X.A (pyNext (.ref it)) (fun r s1=>r=none/\Inv X pins σ H s1) E s
 self:∀ (A:Around) (i:Nat) (s:Shared) (Q:Value->Shared->Prop) (E:Value->Shared->Prop),tn i s.heap->Q (.ref it) s->wpAny (model P w) A (pyIter (.ref it)) Q E s
abbrev TI:=St->Hp->(It->Hp->Prop)->Prop
def Wl (X:Cx) (pins:List (Addr×Obj)) (σ:St) (tg:Expr) (R:It->Hp->Prop) (itv:Value) (s2:Shared):Prop:=
 ∃ (it:Addr) (fp:List Addr) (tn:Nat->Heap->Prop) (J:It) (H':Hp),itv=.ref it/\Inv X pins σ H' s2/\qO X.prog X.w X.K tg J fp it tn/\tn 0 s2.heap/\(∀ b∈fp,uF X pins H' b)/\R J H'
def PI (X:Cx) (tg iter:Expr) (wi:TI):Prop:=
 ∀ (pins:List (Addr×Obj)) (s:Shared) (σ:St) (H:Hp) (R:It->Hp->Prop),Inv X pins σ H s->wi σ H R->
  wpAny (model X.prog X.w) X.A (eval iter X.env) (fun v s1=>wpAny (model X.prog X.w) X.A (pyIter v) (Wl X pins σ tg R) X.xe s1) X.xe s
theorem XE {M:Model} {A:Around} {E:Value->Shared->Prop} {s:Shared} {tg:Expr} {it:Addr} {u:Value} {o:Obj} {n:String} {vs:Array Value} {Q:Unit->Shared->Prop} (ho:s.heap.get? it=some o) (hc:o.cls=.type n) (hd:o.data=.fields vs)
    (hn:["enumerate", "zip", "dict_itemiterator", "dict_reverseitemiterator", "odict_iterator", "itertools.zip_longest", "itertools.pairwise"].contains n=false) (hQ:Q () s):wpAny M A (letOwnedTupleGo tg (.ref it) u) Q E s:=by
  unfold letOwnedTupleGo
  cases tg<;>first
    | exact wpAny_pure hQ
    | (cases u<;>first
        | exact wpAny_pure hQ
        | (refine wpAny_bind (wpAny_load ho ?_)
           rw [hc,hd]
           show wpAny M A (if (["enumerate", "zip", "dict_itemiterator", "dict_reverseitemiterator", "odict_iterator", "itertools.zip_longest", "itertools.pairwise"].contains n&&vs[0]? == some (rawInt _))=true then _ else _) Q E s
           rw [if_neg (by intro h; rw [hn,Bool.false_and] at h; cases h)]
           exact wpAny_pure hQ))
def Wd (K:PySem.W.Frag) (a:Addr):It:=
 ⟨fun i H=>∃ xs x,zw K H a xs/\xs[i]?=some x,fun i H x H'=>H'=H/\∀ xs,zw K H a xs->xs[i]?=some x,fun i H=>∃ xs,zw K H a xs/\xs.length<=i⟩
def We (K:PySem.W.Frag) (a:Addr):It:=
 ⟨fun i H=>∃ xs x,ye K H a xs/\xs[i]?=some x,fun i H x H'=>H'=H/\∀ xs,ye K H a xs->xs[i]?=some x,fun i H=>∃ xs,ye K H a xs/\xs.length<=i⟩
def YI (lo:Int) (n:Nat):It:=⟨fun i _=>i<n,fun i H x H'=>H'=H/\x=.int (lo+i),fun i _=>n<=i⟩
theorem Pp {P:Program} {w:World} {K:PySem.W.Frag} {tg:Expr} (a it:Addr):qO P w K tg (Wd K a) [it] it (fun i h=>h.IsListIter it a i) where
 mem:=by simp
 obj:=fun i h st b hb=>by
  have e:b=it:=by simpa using hb
  subst e
  obtain ⟨o,e,c,d⟩:=st
  exact ⟨o,e,fun v z=>by rw [d] at z; cases z⟩
 keep:=fun i h h' st k=>st.at fun o e=>k it (by simp) o e
 item:=by
  intro X hP hw hK hc i pins s σ H E I hf st hg
  subst hP hw hK
  obtain ⟨xs,x,hq,hx⟩:=hg
  obtain ⟨its,rv,p,hz⟩:=I.list hq
  obtain ⟨u,hu,ru⟩:=rv.get hx
  obtain ⟨f0,f1,f2,f3,f4,f5⟩:=hf it (by simp)
  refine wpAny_pyNext_list_item st p.isList (x:=u) (by simpa using hu) fun h' st' sb=>?_
  have I1:Inv X pins σ H { s with heap:=h' }:=I.turned (t':=s.toks) (fun b o hb e=>(sb.2 b hb).trans e) f0 f1 f3 f4 f5
  obtain ⟨o,e,c,d⟩:=id st'
  exact ⟨u,rfl,XE (s:={ s with heap:=h' }) e c d (by decide) ⟨x,H,I1,ru,⟨rfl,fun ys hy=>by rw [I.list_inj hy hq]; exact hx⟩,st',fun b hb=>(hf b hb).1⟩⟩
 done:=by
  intro X hP hw hK hc i pins s σ H E I hf st hg
  subst hP hw hK
  obtain ⟨xs,hq,hx⟩:=hg
  obtain ⟨its,rv,p,hz⟩:=I.list hq
  obtain ⟨f0,f1,f2,f3,f4,f5⟩:=hf it (by simp)
  have hl:=rv.length
  exact wpAny_pyNext_list_end (I.ok.hd hc) st p.isList (by simp; omega) fun h' eb=>⟨rfl,I.turned (t':=s.toks) (fun b o hb e=>eb b o hb e) f0 f1 f3 f4 f5⟩
 self:=fun _ _ _ _ _ st h=>wpAny_pyIter_listiter st h
theorem Ps {P:Program} {w:World} {K:PySem.W.Frag} {tg:Expr} (a it:Addr):qO P w K tg (We K a) [it] it (fun i h=>h.IsTupleIter it a i) where
 mem:=by simp
 obj:=fun i h st b hb=>by
  have e:b=it:=by simpa using hb
  subst e
  obtain ⟨o,e,c,d⟩:=st
  exact ⟨o,e,fun v z=>by rw [d] at z; cases z⟩
 keep:=fun i h h' st k=>st.at fun o e=>k it (by simp) o e
 item:=by
  intro X hP hw hK hc i pins s σ H E I hf st hg
  subst hP hw hK
  obtain ⟨xs,x,hq,hx⟩:=hg
  obtain ⟨its,rv,p,hz⟩:=I.tuple hq
  obtain ⟨u,hu,ru⟩:=rv.get hx
  obtain ⟨f0,f1,f2,f3,f4,f5⟩:=hf it (by simp)
  refine wpAny_pyNext_tuple_item st (show s.heap.IsTuple a its.toArray from p) (x:=u) (by simpa using hu) fun h' st' sb=>?_
  have I1:Inv X pins σ H { s with heap:=h' }:=I.turned (t':=s.toks) (fun b o hb e=>(sb.2 b hb).trans e) f0 f1 f3 f4 f5
  obtain ⟨o,e,c,d⟩:=id st'
  exact ⟨u,rfl,XE (s:={ s with heap:=h' }) e c d (by decide) ⟨x,H,I1,ru,⟨rfl,fun ys hy=>by rw [I.tuple_inj hy hq]; exact hx⟩,st',fun b hb=>(hf b hb).1⟩⟩
 done:=by
  intro X hP hw hK hc i pins s σ H E I hf st hg
  subst hP hw hK
  obtain ⟨xs,hq,hx⟩:=hg
  obtain ⟨its,rv,p,hz⟩:=I.tuple hq
  obtain ⟨f0,f1,f2,f3,f4,f5⟩:=hf it (by simp)
  have hl:=rv.length
  exact wpAny_pyNext_tuple_end (I.ok.hd hc) st (show s.heap.IsTuple a its.toArray from p) (by simp; omega) fun h' eb=>⟨rfl,I.turned (t':=s.toks) (fun b o hb e=>eb b o hb e) f0 f1 f3 f4 f5⟩
 self:=fun _ _ _ _ _ st h=>wpAny_pyIter_tupleiter st h
theorem Pq {P:Program} {w:World} {K:PySem.W.Frag} {tg:Expr} (it:Addr) (lo:Int) (n:Nat):qO P w K tg (YI lo n) [it] it (fun i h=>IsRangeIter h it (lo+(i:Nat)*1) ((n:Int) - (i:Nat)) 1) where
 mem:=by simp
 obj:=fun i h st b hb=>by
  have e:b=it:=by simpa using hb
  subst e
  exact ⟨_,st,fun v z=>by
   have z':Data.fields _=Data.cell v:=z
   cases z'⟩
 keep:=fun i h h' st k=>k it (by simp) _ st
 item:=by
  intro X hP hw hK hc i pins s σ H E I hf st hg
  subst hP hw hK
  obtain ⟨f0,f1,f2,f3,f4,f5⟩:=hf it (by simp)
  have W:=Walks.range (prog:=X.prog) (w:=X.w) (I.ok.hd hc) it lo 1 n
  refine W.item i s _ _ hg st fun v h' tk hv st' kk=>?_
  obtain ⟨t,rfl⟩:=hv
  have I1:Inv X pins σ H { s with heap:=h',toks:=tk }:=I.turned (fun b o hb e=>kk b o (by simpa using hb) e) f0 f1 f3 f4 f5
  refine ⟨_,rfl,XE (s:={ s with heap:=h',toks:=tk }) (n := "range_iterator") st' rfl rfl (by decide) ⟨.int (lo+i),H,I1,⟨t,?_⟩,⟨rfl,rfl⟩,st',fun b hb=>(hf b hb).1⟩⟩
  rw [Int.mul_one]
 done:=by
  intro X hP hw hK hc i pins s σ H E I hf st hg
  subst hP hw hK
  obtain ⟨f0,f1,f2,f3,f4,f5⟩:=hf it (by simp)
  exact wpAny_pyNext_range_end (I.ok.hd hc) st (by have:n<=i:=hg; omega) fun h' eb=>⟨rfl,I.turned (t':=s.toks) (fun b o hb e=>eb b o hb e) f0 f1 f3 f4 f5⟩
 self:=fun _ _ _ _ _ st h=>wpAny_pyIter_rangeiter st h
end L2
namespace L2
open PySem PySem.Spec PyProof.Rows
section
variable {X:Cx} {tg:Expr}
def DW (K:PySem.W.Frag) (tl:TE):TI:=fun σ H R=>tl σ H fun x H1=>∃ a,x=.ref a/\(∃ xs,zw K H1 a xs)/\R (Wd K a) H1
def Da (K:PySem.W.Frag) (tl:TE):TI:=fun σ H R=>tl σ H fun x H1=>∃ a,x=.ref a/\(∃ xs,ye K H1 a xs)/\R (We K a) H1
theorem GU {l:Expr} {tl:TE} (hl:PE X l tl):PI X tg l (DW X.K tl):=by
 intro pins s σ H R I h
 refine zk (hl pins s σ H _ I h) fun v s1 ⟨x,H1,I1,r1,q1⟩=>?_
 obtain ⟨a,e,⟨xs,hq⟩,q⟩:=q1
 subst e
 cases r1
 obtain ⟨its,rv,p,hz⟩:=I1.list hq
 refine wpAny_pyIter_list p.isList ?_
 refine ⟨s1.heap.objs.size,[s1.heap.objs.size],_,_,H1,rfl,I1.kept (t':=s1.toks) fun b o e=>Heap.get?_push_of_some _ e,Pp a _,⟨_,Heap.get?_push_size _ rfl,rfl,rfl⟩,fun b hb=>?_,q⟩
 have e:b=s1.heap.objs.size:=by simpa using hb
 subst e
 exact I1.fpOk (Nat.le_refl _) (I1.hok.fresh (Nat.le_refl _))
theorem O8 {l:Expr} {tl:TE} (hl:PE X l tl):PI X tg l (Da X.K tl):=by
 intro pins s σ H R I h
 refine zk (hl pins s σ H _ I h) fun v s1 ⟨x,H1,I1,r1,q1⟩=>?_
 obtain ⟨a,e,⟨xs,hq⟩,q⟩:=q1
 subst e
 cases r1
 obtain ⟨its,rv,p,hz⟩:=I1.tuple hq
 refine wpAny_pyIter_tuple (show s1.heap.IsTuple a its.toArray from p) ?_
 refine ⟨s1.heap.objs.size,[s1.heap.objs.size],_,_,H1,rfl,I1.kept (t':=s1.toks) fun b o e=>Heap.get?_push_of_some _ e,Ps a _,⟨_,Heap.get?_push_size _ rfl,rfl,rfl⟩,fun b hb=>?_,q⟩
 have e:b=s1.heap.objs.size:=by simpa using hb
 subst e
 exact I1.fpOk (Nat.le_refl _) (I1.hok.fresh (Nat.le_refl _))
theorem Hh {pins:List (Addr×Obj)} {σ:St} {H:Hp} {s:Shared} {R:It->Hp->Prop} {E:Value->Shared->Prop} {lo hi:Int} {t u v:Tok} {tk:Nat} (I:Inv X pins σ H s) (h1 : -(2 ^ 62)<=lo) (h2:lo<2 ^ 62) (h3 : -(2 ^ 62)<=hi) (h4:hi<2 ^ 62)
  (q:R (YI lo (hi - lo).toNat) H):wpAny (model X.prog X.w) X.A (pyIter (.ref s.heap.objs.size)) (Wl X pins σ tg R) E { s with heap:=s.heap.push { cls:=.type "range",data:=.fields #[.int lo t,.int hi u,.int 1 v] },toks:=tk }:=by
 refine wpAny_pyIter_range (IsRange.new ..) (small_one h1 h2 h3 h4) ?_
 have I1:Inv X pins σ H { s with heap:=s.heap.push { cls:=.type "range",data:=.fields #[.int lo t,.int hi u,.int 1 v] },toks:=tk }:=I.kept fun b o e=>Heap.get?_push_of_some _ e
 refine ⟨(s.heap.push { cls:=.type "range",data:=.fields #[.int lo t,.int hi u,.int 1 v] }).objs.size,[(s.heap.push { cls:=.type "range",data:=.fields #[.int lo t,.int hi u,.int 1 v] }).objs.size],_,_,H,rfl,
  I1.kept (t':=tk) fun b o e=>Heap.get?_push_of_some _ e,Pq _ lo (hi - lo).toNat,?_,fun b hb=>?_,q⟩
 ·have e1:lo+((0:Nat):Int)*1=lo:=by simp
  have e2:(((hi - lo).toNat:Nat):Int) - ((0:Nat):Int)=Builtin.Range.rangeSize lo hi 1:=by rw [rangeSize_one]; split<;>omega
  show IsRangeIter _ _ (lo+((0:Nat):Int)*1) ((((hi - lo).toNat:Nat):Int) - ((0:Nat):Int)) 1
  rw [e1,e2]
  exact Heap.get?_push_size _ rfl
 ·have e:b=(s.heap.push { cls:=.type "range",data:=.fields #[.int lo t,.int hi u,.int 1 v] }).objs.size:=by simpa using hb
  subst e
  exact I1.fpOk (Nat.le_refl _) (I1.hok.fresh (Nat.le_refl _))
def DX (ta:TA):TI:=fun σ H R=>ta σ H fun vs H1=>∃ j:Int,vs=[.int j] /\ -(2 ^ 62)<=j/\j<2 ^ 62/\R (YI 0 j.toNat) H1
theorem GV {a:Expr} {ta:TA} {p pos:Pos} (hg:Gl X "range") (hm:X.mg "range" = none) (ha:PA X [a] ta) (hs:starEach [a] X.env=[(false,eval a X.env)]:=by rfl):PI X tg (.Call (.Name "range" p) [a] [] pos) (DX ta):=by
 intro pins s σ H R I h
 refine Call_ (jg I hg hm boot_range (PyProof.Rows.callWith_type1 (zk (ha pos pins s σ H _ I h) fun us s1 ⟨vs,H1,I1,r1,q1⟩=>?_) hs rfl))
 obtain ⟨j,e,q1,q2,q⟩:=q1
 subst e
 cases r1 with
 | cons r rr=>
  cases rr
  obtain ⟨t,rfl⟩:=r
  exact call_range_1 (Hh I1 (by omega) (by omega) q1 q2 (by simpa using q))
def PB (wi:TI) (g:TG) (tb:TS):TS:=fun D σ H=>wi σ H fun J H1=>∃ W:Nat->Nat->St->Hp->Prop,(∃ m,W 0 m σ H1)/\∀ i m σ H,W i m σ H->
 (J.stop i H/\D.nx σ H)\/(J.go i H/\∃ N:St->Hp->Prop,(∀ σ' H',N σ' H'->∃ m',m'<m/\W (i+1) m' σ' H')/\∀ x H',J.yld i H x H'->g x σ H' fun σ2 H2=>tb { D with nx:=N,ct:=N,bk:=D.nx } σ2 H2)
def Z5 (fp:List Addr) (h:Heap):List (Addr×Obj):=fp.filterMap fun b=>(h.get? b).map fun o=>(b,o)
theorem Xd {fp:List Addr} {h:Heap} {b:Addr} {o:Obj} (hb:b∈fp) (e:h.get? b=some o):(b,o)∈Z5 fp h:=List.mem_filterMap.mpr ⟨b,hb,by rw [e]; rfl⟩
theorem Cd {fp:List Addr} {h:Heap} {p:Addr×Obj} (hp:p∈Z5 fp h):p.1∈fp/\h.get? p.1=some p.2:=by
 obtain ⟨b,hb,e⟩:=List.mem_filterMap.mp hp
 cases q:h.get? b with
 | none=>rw [q] at e; cases e
 | some o=>
  rw [q] at e
  have e':(b,o)=p:=Option.some.inj e
  subst e'
  exact ⟨hb,q⟩
theorem Inv.pinned {pins:List (Addr×Obj)} {σ:St} {H:Hp} {s:Shared} {fp:List Addr} (I:Inv X pins σ H s) (hf:∀ b∈fp,uF X pins H b) (ho:∀ b∈fp,∃ o,s.heap.get? b=some o/\∀ v,o.data≠.cell v):Inv X (pins++Z5 fp s.heap) σ H s:=
 I.pins_of fun p hp=>(List.mem_append.mp hp).elim (fun z=>I.pin p (List.mem_append_right _ z)) fun z=>by
  obtain ⟨hb,e⟩:=Cd z
  obtain ⟨f0,f1,f2,_⟩:=hf p.1 hb
  obtain ⟨o,e',d⟩:=ho p.1 hb
  rw [e] at e'; cases e'
  exact ⟨e,f0,f1,f2,d⟩
theorem Inv.unpinned {pins pl:List (Addr×Obj)} {σ:St} {H:Hp} {s:Shared} (I:Inv X (pins++pl) σ H s):Inv X pins σ H s:=I.pins_of fun p hp=>I.pin p (List.mem_append_right _ (List.mem_append_left _ hp))
theorem UQ {iter:Expr} {body:List Stmt} {wi:TI} {g:TG} {tb:TS} {pos:Pos} (hp:PassesOwn (model X.prog X.w) X.A X.env X.xe) (hc:X.calm=true) (hi:PI X tg iter wi) (hg:PG X tg g) (hb:wP X body tb)
  (hs:∀ x,foldedSetIterable iter X.env x=pure x:=by intro _; rfl):PS X (.For tg iter body [] pos) (PB wi g tb):=by
 intro pins s σ H D I h
 refine wpAny_For (zk (hi pins s σ H _ I h) fun v s1 h1=>zk h1 fun itv s2 h2=>?_) hs
 obtain ⟨it,fp,tn,J,H2,e,I2,T,st2,f2,W,⟨m0,w0⟩,turn⟩:=h2
 subst e
 have stat:∀ {H':Hp},(∀ b∈fp,H' b=none)->∀ b∈fp,uF X pins H' b:=fun hn b hb=>⟨hn b hb,(f2 b hb).2⟩
 refine codeAny_forLoop_any (fun n s'=>∃ i σ' H',Inv X pins σ' H' s'/\tn i s'.heap/\(∀ b∈fp,H' b=none)/\W i n σ' H') ?_ m0 ⟨0,σ,H2,I2,st2,fun b hb=>(f2 b hb).1,w0⟩
 rintro n s3 ⟨i,σ3,H3,I3,st3,fr3,w3⟩
 rcases turn i n σ3 H3 w3 with ⟨stop,qn⟩ | ⟨go,N,hN,step⟩
 ·refine wpAny_passesOwn hp (zk (T.done X rfl rfl rfl hc i pins s3 σ3 H3 X.xe I3 (stat fr3) st3 stop) fun r s4 ⟨hr,I4⟩=>?_)
  subst hr
  exact wpAny_execs_nil ⟨σ3,H3,I4,qn⟩
 ·refine wpAny_passesOwn hp (zk (T.item X rfl rfl rfl hc i pins s3 σ3 H3 X.xe I3 (stat fr3) st3 go) fun r s4 ⟨u,hr,h4⟩=>?_)
  subst hr
  refine wpAny_passesOwn hp (zk h4 fun _ s5 ⟨x,H5,I5,r5,y5,st5,fr5⟩=>?_)
  have I5':=I5.pinned (stat fr5) (T.obj _ _ st5)
  refine wpAny_passesOwn hp (zk (hg _ s5 σ3 H5 x u _ I5' r5 (step x H5 y5)) fun _ s6 ⟨σ6,H6,I6,q6⟩=>?_)
  refine wpAny_passesOwn hp (zk (hb _ s6 σ6 H6 _ I6 q6) fun f s7 q7=>?_)
  have again:∀ {σ7:St} {H7:Hp},Inv X (pins++Z5 fp s5.heap) σ7 H7 s7->N σ7 H7->∃ m,m<n/\∃ i σ' H',Inv X pins σ' H' s7/\tn i s7.heap/\(∀ b∈fp,H' b=none)/\W i m σ' H':=fun {σ7 H7} I7 n7=>by
   obtain ⟨m',hm,w7⟩:=hN σ7 H7 n7
   refine ⟨m',hm,i+1,σ7,H7,I7.unpinned,T.keep _ _ _ st5 fun b hb o e=>(I7.pin (b,o) (List.mem_append_right _ (List.mem_append_right _ (Xd hb e)))).1,fun b hb=>?_,w7⟩
   obtain ⟨o,e,d⟩:=T.obj _ _ st5 b hb
   exact (I7.pin (b,o) (List.mem_append_right _ (List.mem_append_right _ (Xd hb e)))).2.1
  cases f with
  | next=>obtain ⟨σ7,H7,I7,n7⟩:=q7; exact again I7 n7
  | cont=>obtain ⟨σ7,H7,I7,n7⟩:=q7; exact again I7 n7
  | brk=>obtain ⟨σ7,H7,I7,q7⟩:=q7; exact ⟨σ7,H7,I7.unpinned,q7⟩
  | ret v=>obtain ⟨x7,σ7,H7,I7,r7,q7⟩:=q7; exact ⟨x7,σ7,H7,I7.unpinned,r7,q7⟩
end
end L2
namespace L2
open PySem PySem.Spec PyProof.Rows
abbrev R2:=V->V->Hp->VK->Prop
def yE (X:Cx) (f:Value->Value->Sem Value) (r:R2):Prop:=
 ∀ (pins:List (Addr×Obj)) (s:Shared) (σ:St) (H:Hp) (x y:V) (v u:Value) (Q:VK),Inv X pins σ H s->zi x v->zi y u->r x y H Q->
  wpAny (model X.prog X.w) X.A (f v u) (EP X pins σ Q) X.xe s
def gf (X:Cx) (f:Value->Sem Value) (r:V->Hp->VK->Prop):Prop:=
 ∀ (pins:List (Addr×Obj)) (s:Shared) (σ:St) (H:Hp) (x:V) (v:Value) (Q:VK),Inv X pins σ H s->zi x v->r x H Q->
  wpAny (model X.prog X.w) X.A (f v) (EP X pins σ Q) X.xe s
def xr (X:Cx) (f:Value) (r:List V->Hp->VK->Prop):Prop:=
 ∀ (pins:List (Addr×Obj)) (s:Shared) (σ:St) (H:Hp) (xs:List V) (us:List Value) (Q:VK),Inv X pins σ H s->zY xs us->r xs H Q->
  wpAny (model X.prog X.w) X.A (call f us) (EP X pins σ Q) X.xe s
def WK (r:R2) (ta tb:TE):TE:=fun σ H Q=>ta σ H fun x H1=>tb σ H1 fun y H2=>r x y H2 Q
def Pi (r:V->Hp->VK->Prop) (ta:TE):TE:=fun σ H Q=>ta σ H fun x H1=>r x H1 Q
def rI (C:Int->Int->Prop) (g:Int->Int->V):R2:=fun x y H Q=>∃ i j,x=.int i/\y=.int j/\C i j/\Q (g i j) H
def u8 (g:Int->Int->V):R2:=fun x y H Q=>∃ i j,x=.int i/\y=.int j/\Q (g i j) H
def rU (g:Int->V):V->Hp->VK->Prop:=fun x H Q=>∃ i,x=.int i/\Q (g i) H
section
variable {X:Cx} {a b c:Expr} {ta tb tc:TE} {pos:Pos}
theorem Wz (ha:PE X a ta) (hb:PE X b tb) {pins:List (Addr×Obj)} {s:Shared} {σ:St} {H:Hp} {R:V->V->Hp->Prop} (I:Inv X pins σ H s)
  (h:ta σ H fun x H1=>tb σ H1 fun y H2=>R x y H2) {Q:Value->Shared->Prop} {f:Value->Value->Sem Value}
  (hf:∀ v u s2 x y H2,Inv X pins σ H2 s2->zi x v->zi y u->R x y H2->wpAny (model X.prog X.w) X.A (f v u) Q X.xe s2) :
  wpAny (model X.prog X.w) X.A (eval a X.env) (fun v s₁=>wpAny (model X.prog X.w) X.A (eval b X.env) (fun u s₂=>wpAny (model X.prog X.w) X.A (f v u) Q X.xe s₂) X.xe s₁) X.xe s:=by
 refine zk (ha pins s σ H _ I h) fun v s1 ⟨x,H1,I1,r1,q1⟩=>?_
 refine zk (hb pins s1 σ H1 _ I1 q1) fun u s2 ⟨y,H2,I2,r2,q2⟩=>?_
 exact hf v u s2 x y H2 I2 r1 r2 q2
theorem UI {op:Operator} {r:R2} (ho:yE X (binaryOp op) r) (ha:PE X a ta) (hb:PE X b tb):PE X (.BinOp a op b pos) (WK r ta tb):=by
 intro pins s σ H Q I h
 exact wpAny_BinOp (Wz ha hb I h fun v u s2 x y H2 I2 rx ry q=>ho pins s2 σ H2 x y v u Q I2 rx ry q)
theorem GN {op:UnaryOp} {r:V->Hp->VK->Prop} (ho:gf X (unaryOp op) r) (ha:PE X a ta):PE X (.UnaryOp op a pos) (Pi r ta):=by
 intro pins s σ H Q I h
 exact UnaryOp_ (zk (ha pins s σ H _ I h) fun v s1 ⟨x,H1,I1,r1,q1⟩=>ho pins s1 σ H1 x v Q I1 r1 q1)
theorem Z1 {f:Value->Value->Sem Value} {C:Int->Int->Prop} {g:Int->Int->Int}
  (rule:∀ (i j:Int) (t u:Tok) (s:Shared) (Q:Value->Shared->Prop) (E:Value->Shared->Prop),C i j->Q (.int (g i j) s.toks) { s with toks:=s.toks+1 }->wpAny (model X.prog X.w) X.A (f (.int i t) (.int j u)) Q E s) :
  yE X f (rI C fun i j=>.int (g i j)):=by
 intro pins s σ H x y v u Q I rx ry h
 obtain ⟨i,j,rfl,rfl,hc,q⟩:=h
 obtain ⟨t,rfl⟩:=rx
 obtain ⟨t',rfl⟩:=ry
 exact rule i j t t' s _ _ hc ⟨.int (g i j),H,I.tok _,⟨_,rfl⟩,q⟩
theorem Xm {f:Value->Value->Sem Value} {g:Int->Int->Int}
  (rule:∀ (i j:Int) (t u:Tok) (s:Shared) (Q:Value->Shared->Prop) (E:Value->Shared->Prop),Q (.int (g i j) s.toks) { s with toks:=s.toks+1 }->wpAny (model X.prog X.w) X.A (f (.int i t) (.int j u)) Q E s) :
  yE X f (u8 fun i j=>.int (g i j)):=by
 intro pins s σ H x y v u Q I rx ry h
 obtain ⟨i,j,rfl,rfl,q⟩:=h
 obtain ⟨t,rfl⟩:=rx
 obtain ⟨t',rfl⟩:=ry
 exact rule i j t t' s _ _ ⟨.int (g i j),H,I.tok _,⟨_,rfl⟩,q⟩
theorem UC {f:Value->Value->Sem Value} {g:Int->Int->Bool}
  (rule:∀ (i j:Int) (t u:Tok) (s:Shared) (Q:Value->Shared->Prop) (E:Value->Shared->Prop),Q (.bool (g i j)) s->wpAny (model X.prog X.w) X.A (f (.int i t) (.int j u)) Q E s) :
  yE X f (u8 fun i j=>.bl (g i j)):=by
 intro pins s σ H x y v u Q I rx ry h
 obtain ⟨i,j,rfl,rfl,q⟩:=h
 obtain ⟨t,rfl⟩:=rx
 obtain ⟨t',rfl⟩:=ry
 exact rule i j t t' s _ _ ⟨.bl (g i j),H,I,rfl,q⟩
def WZ (i j:Int):Prop:=0<=j/\j<=1000000/\i.natAbs<2 ^ 64
def gQ (i j:Int):Prop:=(-(2 ^ 64)<i/\i<2 ^ 64)\/(-(2 ^ 64)<j/\j<2 ^ 64)
theorem gQ.ok {i j:Int} (h:gQ i j):IntMulOk i j:=by
 rcases h with ⟨h1,h2⟩ | ⟨h1,h2⟩
 ·exact .of_left (intBits_le_64 h1 h2)
 ·exact .of_right (intBits_le_64 h1 h2)
theorem EV:yE X (binaryOp .Add) (u8 fun i j=>.int (i+j)):=Xm fun _ _ _ _ _ _ _ q=>add_int q
theorem Iz:yE X (binaryOp .Sub) (u8 fun i j=>.int (i - j)):=Xm fun _ _ _ _ _ _ _ q=>sub_int q
theorem Xn:yE X (binaryOp .Mult) (rI gQ fun i j=>.int (i*j)):=Z1 fun _ _ _ _ _ _ _ hc q=>mul_int q hc.ok
theorem xE:yE X (binaryOp .Mod) (rI (fun _ j=>0<j) fun i j=>.int (i % j)):=Z1 fun i j _ _ _ _ _ hc q=>by
 have h1:(0:Int)<j:=hc
 exact mod_int' (by omega) (by rw [Int.fmod_eq_emod_of_nonneg i (by omega)]; exact q)
theorem Z2:yE X (binaryOp .LShift) (rI WZ fun i j=>.int (i*2 ^ j.toNat)):=Z1 fun _ _ _ _ _ _ _ hc q=>lshift_int_small hc.1 hc.2.1 hc.2.2 q
theorem Iw:yE X (binaryOp .BitAnd) (u8 fun i j=>.int (Builtin.bitAnd i j)):=Xm fun _ _ _ _ _ _ _ q=>and_int q
theorem tw:yE X (binaryOp .BitOr) (u8 fun i j=>.int (Builtin.bitOr i j)):=Xm fun _ _ _ _ _ _ _ q=>or_int q
theorem Lk {f:Value->Sem Value} {g:Int->Int}
  (rule:∀ (i:Int) (t:Tok) (s:Shared) (Q:Value->Shared->Prop) (E:Value->Shared->Prop),Q (.int (g i) s.toks) { s with toks:=s.toks+1 }->wpAny (model X.prog X.w) X.A (f (.int i t)) Q E s) :
  gf X f (rU fun i=>.int (g i)):=by
 intro pins s σ H x v Q I rx h
 obtain ⟨i,rfl,q⟩:=h
 obtain ⟨t,rfl⟩:=rx
 exact rule i t s _ _ ⟨.int (g i),H,I.tok _,⟨_,rfl⟩,q⟩
theorem j9:gf X (unaryOp .USub) (rU fun i=>.int (-i)):=Lk fun _ _ _ _ _ q=>neg_int q
theorem Py:gf X (unaryOp .Invert) (rU fun i=>.int (Builtin.bitNot i)):=Lk fun _ _ _ _ _ q=>invert_int q
theorem EW:yE X (binaryOp .Add) (fun x y H Q=>∃ i k,x=.int i/\y=.bl k/\Q (.int (i+b2i k)) H):=by
 intro pins s σ H x y v u Q I rx ry h
 obtain ⟨i,k,rfl,rfl,q⟩:=h
 obtain ⟨t,rfl⟩:=rx
 cases ry
 exact add_int_bool ⟨.int (i+b2i k),H,I.tok _,⟨_,rfl⟩,q⟩
end
def Um:V->V->Bool
 | .non,.non=>true | .non,.int _=>true | .int _,.non=>true | .non,.bl _=>true | .bl _,.non=>true | .non,.str _=>true | .str _,.non=>true
 | .int _,.int _=>true | .bl _,.bl _=>true | .str _,.str _=>true | .byt _,.byt _=>true
 | .int _,.str _=>true | .str _,.int _=>true | .bl _,.str _=>true | .str _,.bl _=>true
 | _,_=>false
def HN:R2:=fun x y H Q=>Um x y=true/\Q (.bl (decide (x=y))) H
def HV:R2:=fun x y H Q=>Um x y=true/\Q (.bl (!decide (x=y))) H
theorem V8 {i j:Int}:decide (V.int i=V.int j)=(i == j):=by
 rw [Bool.eq_iff_iff]
 simp
theorem V7 {i j:Bool}:decide (V.bl i=V.bl j)=(i == j):=by
 rw [Bool.eq_iff_iff]
 simp
theorem V9 {i j:Str}:decide (V.str i=V.str j)=(i == j):=by
 rw [Bool.eq_iff_iff]
 simp
theorem Qm {i j:Array UInt8}:decide (V.byt i=V.byt j)=(i.toList == j.toList):=by
 rw [Bool.eq_iff_iff]
 cases i
 cases j
 simp
section
variable {X:Cx} {a b c:Expr} {ta tb tc:TE} {pos:Pos}
theorem xA {pins:List (Addr×Obj)} {σ:St} {H:Hp} {s:Shared} {Q:VK} {k k':Bool} (I:Inv X pins σ H s) (q:Q (.bl k) H) (e:k=k'):EP X pins σ Q (.bool k') s:=by
 subst e
 exact ⟨.bl k,H,I,rfl,q⟩
theorem EZ:yE X (compareOp .Eq) HN:=by
 intro pins s σ H x y v u Q I rx ry h
 obtain ⟨hs,q⟩:=h
 cases x with
 | non=>
  cases rx
  cases y with
  | non=>cases ry; exact PySem.EqNone.eq_none_none (xA I q (by simp))
  | bl j=>cases ry; exact PySem.EqNone.eq_none_bool (xA I q (by simp))
  | int j=>obtain ⟨t',rfl⟩:=ry; exact PySem.EqNone.eq_none_int (xA I q (by simp))
  | str j=>obtain ⟨t',rfl⟩:=ry; exact PySem.EqNone.eq_none_str (xA I q (by simp))
  | _=>exact absurd (show false=true from hs) Bool.false_ne_true
 | bl i=>
  cases rx
  cases y with
  | non=>cases ry; exact PySem.EqNone.eq_bool_none (xA I q (by simp))
  | bl j=>cases ry; exact eq_bool (xA I q V7)
  | str j=>obtain ⟨t',rfl⟩:=ry; exact PySem.EqMixed.eq_bool_str (xA I q (by simp))
  | _=>exact absurd (show false=true from hs) Bool.false_ne_true
 | int i=>
  obtain ⟨t,rfl⟩:=rx
  cases y with
  | non=>cases ry; exact PySem.EqNone.eq_int_none (xA I q (by simp))
  | int j=>obtain ⟨t',rfl⟩:=ry; exact eq_int (xA I q V8)
  | str j=>obtain ⟨t',rfl⟩:=ry; exact PySem.EqMixed.eq_int_str (xA I q (by simp))
  | _=>exact absurd (show false=true from hs) Bool.false_ne_true
 | str i=>
  obtain ⟨t,rfl⟩:=rx
  cases y with
  | non=>cases ry; exact PySem.EqNone.eq_str_none (xA I q (by simp))
  | bl j=>cases ry; exact PySem.EqMixed.eq_str_bool (xA I q (by simp))
  | int j=>obtain ⟨t',rfl⟩:=ry; exact PySem.EqMixed.eq_str_int (xA I q (by simp))
  | str j=>obtain ⟨t',rfl⟩:=ry; exact eq_str (xA I q V9)
  | _=>exact absurd (show false=true from hs) Bool.false_ne_true
 | byt i=>
  obtain ⟨t,rfl⟩:=rx
  cases y with
  | byt j=>obtain ⟨t',rfl⟩:=ry; exact PySem.W.eq_bytes (xA I q Qm)
  | _=>exact absurd (show false=true from hs) Bool.false_ne_true
 | _=>cases y<;>exact absurd (show false=true from hs) Bool.false_ne_true
theorem Eh:yE X (compareOp .NotEq) HV:=by
 intro pins s σ H x y v u Q I rx ry h
 obtain ⟨hs,q⟩:=h
 cases x with
 | non=>
  cases rx
  cases y with
  | non=>cases ry; exact PySem.EqNone.ne_none_none (xA I q (by simp))
  | bl j=>cases ry; exact PySem.EqNone.ne_none_bool (xA I q (by simp))
  | int j=>obtain ⟨t',rfl⟩:=ry; exact PySem.EqNone.ne_none_int (xA I q (by simp))
  | str j=>obtain ⟨t',rfl⟩:=ry; exact PySem.EqNone.ne_none_str (xA I q (by simp))
  | _=>exact absurd (show false=true from hs) Bool.false_ne_true
 | bl i=>
  cases rx
  cases y with
  | non=>cases ry; exact PySem.EqNone.ne_bool_none (xA I q (by simp))
  | bl j=>cases ry; exact ne_bool (xA I q (congrArg not V7))
  | str j=>obtain ⟨t',rfl⟩:=ry; exact PySem.EqMixed.ne_bool_str (xA I q (by simp))
  | _=>exact absurd (show false=true from hs) Bool.false_ne_true
 | int i=>
  obtain ⟨t,rfl⟩:=rx
  cases y with
  | non=>cases ry; exact PySem.EqNone.ne_int_none (xA I q (by simp))
  | int j=>obtain ⟨t',rfl⟩:=ry; exact ne_int (xA I q (congrArg not V8))
  | str j=>obtain ⟨t',rfl⟩:=ry; exact PySem.EqMixed.ne_int_str (xA I q (by simp))
  | _=>exact absurd (show false=true from hs) Bool.false_ne_true
 | str i=>
  obtain ⟨t,rfl⟩:=rx
  cases y with
  | non=>cases ry; exact PySem.EqNone.ne_str_none (xA I q (by simp))
  | bl j=>cases ry; exact PySem.EqMixed.ne_str_bool (xA I q (by simp))
  | int j=>obtain ⟨t',rfl⟩:=ry; exact PySem.EqMixed.ne_str_int (xA I q (by simp))
  | str j=>obtain ⟨t',rfl⟩:=ry; exact ne_str (xA I q (congrArg not V9))
  | _=>exact absurd (show false=true from hs) Bool.false_ne_true
 | byt i=>
  obtain ⟨t,rfl⟩:=rx
  cases y with
  | byt j=>obtain ⟨t',rfl⟩:=ry; exact PySem.W.ne_bytes (xA I q (congrArg not Qm))
  | _=>exact absurd (show false=true from hs) Bool.false_ne_true
 | _=>cases y<;>exact absurd (show false=true from hs) Bool.false_ne_true
theorem pf:yE X (compareOp .Lt) (u8 fun i j=>.bl (decide (i<j))):=UC fun _ _ _ _ _ _ _ q=>lt_int q
theorem Ef:yE X (compareOp .LtE) (u8 fun i j=>.bl (decide (i<=j))):=UC fun _ _ _ _ _ _ _ q=>le_int q
theorem UD:yE X (compareOp .Gt) (u8 fun i j=>.bl (decide (j<i))):=UC fun _ _ _ _ _ _ _ q=>gt_int q
theorem Ee:yE X (compareOp .In) (fun x y H Q=>∃ i j,x=.str i/\y=.str j/\Q (.bl (!(Builtin.Str.occurrences j i 0 j.length 1).isEmpty)) H):=by
 intro pins s σ H x y v u Q I rx ry h
 obtain ⟨i,j,rfl,rfl,q⟩:=h
 obtain ⟨t,rfl⟩:=rx
 obtain ⟨t',rfl⟩:=ry
 exact in_str (xA I q rfl)
theorem Iy:yE X (compareOp .Is) (fun x y H Q=>y=.non/\Q (.bl (decide (x=.non))) H):=by
 intro pins s σ H x y v u Q I rx ry h
 obtain ⟨rfl,q⟩:=h
 cases ry
 refine is_none_gen (xA I q ?_)
 cases x<;>first
  | (cases rx; rfl)
  | (obtain ⟨t,rfl⟩:=rx; rfl)
theorem En:yE X (compareOp .IsNot) (fun x y H Q=>y=.non/\Q (.bl (!decide (x=.non))) H):=by
 intro pins s σ H x y v u Q I rx ry h
 obtain ⟨rfl,q⟩:=h
 cases ry
 refine isnot_none_gen (xA I q ?_)
 cases x<;>first
  | (cases rx; rfl)
  | (obtain ⟨t,rfl⟩:=rx; rfl)
theorem yE.or {f:Value->Value->Sem Value} {r r':R2} (h:yE X f r) (h':yE X f r'):yE X f (fun x y H Q=>r x y H Q\/r' x y H Q):=by
 intro pins s σ H x y v u Q I rx ry q
 rcases q with q | q
 ·exact h pins s σ H x y v u Q I rx ry q
 ·exact h' pins s σ H x y v u Q I rx ry q
theorem zx (b:Expr) {op:CmpOp} (h:op≠.In:=by decide) (h2:op≠.NotIn:=by decide):behindInMarks op b=false:=by
 have e1:(op == CmpOp.In)=false:=by cases op<;>first | rfl | exact absurd rfl h
 have e2:(op == CmpOp.NotIn)=false:=by cases op<;>first | rfl | exact absurd rfl h2
 cases b<;>simp [behindInMarks,e1,e2]
theorem GC {op:CmpOp} {r:R2} (ho:yE X (compareOp op) r) (ha:PE X a ta) (hb:PE X b tb) (hm:behindInMarks op b=false):PE X (.Compare a [op] [b] pos) (WK r ta tb):=by
 intro pins s σ H Q I h
 exact wpAny_Compare1 (Wz ha hb I h fun v u s2 x y H2 I2 rx ry q=>ho pins s2 σ H2 x y v u Q I2 rx ry q) hm
def Pg (t:TE):TT:=fun σ H Q=>t σ H fun x H'=>∃ k,x=.bl k/\Q k H'
theorem OK {op:CmpOp} {r:R2} (ho:yE X (compareOp op) r) (ha:PE X a ta) (hb:PE X b tb) (hm:behindInMarks op b=false):PT X (.Compare a [op] [b] pos) (Pg (WK r ta tb)):=by
 intro pins s σ H Q I h
 refine wpAny_isTrue_Compare1 (zk (ha pins s σ H _ I h) fun v s1 ⟨x,H1,I1,r1,q1⟩=>zk (hb pins s1 σ H1 _ I1 q1) fun u s2 ⟨y,H2,I2,r2,q2⟩=>
  zk (ho pins s2 σ H2 x y v u _ I2 r1 r2 q2) fun c s3 ⟨z,H3,I3,r3,k,e,q3⟩=>?_) hm
 subst e
 cases r3
 exact wpAny_truthy_bool ⟨H3,I3,q3⟩
theorem jh:(sizeLine:Nat)<2 ^ 63:=by rw [sizeLine_eq]; decide
theorem EX:yE X (binaryOp .Add) (fun x y H Q=>∃ i j,x=.str i/\y=.str j/\i.length+j.length<=sizeLine/\Q (.str (i++j)) H):=by
 intro pins s σ H x y v u Q I rx ry h
 obtain ⟨i,j,rfl,rfl,hz,q⟩:=h
 obtain ⟨t,rfl⟩:=rx
 obtain ⟨t',rfl⟩:=ry
 exact add_str (fun t' tk=>⟨.str (i++j),H,I.tok _,⟨_,rfl⟩,q⟩) hz
theorem vU {x:V} {us:List Value} (r:zY [x] us):∃ u,us=[u]/\zi x u:=by
 cases r with
 | cons r1 r2=>cases r2; exact ⟨_,rfl,r1⟩
theorem TL {x y:V} {us:List Value} (r:zY [x,y] us):∃ u w',us=[u,w']/\zi x u/\zi y w':=by
 cases r with
 | cons r1 r2=>
  cases r2 with
  | cons r3 r4=>cases r4; exact ⟨_,_,rfl,r1,r3⟩
end
end L2
namespace L2
open PySem PySem.Spec PyProof.Rows
structure Wi (h:Heap) (x dx C:Addr) (mA:Str->Option Value):Prop where
 obj:h.get? x=some (PySem.W.instObj C dx)
 ns:h.Ns1 dx mA
 ne:dx≠x
theorem Fy {h:Heap} {dx:Addr} {mA:Str->Option Value} (n:h.Ns1 dx mA):∃ od,h.get? dx=some od/\∀ name,PySem.W.lookIn name od=some (mA name):=by
 obtain ⟨o,es,ep,ho,hd,hk,_,hm⟩:=n
 refine ⟨o,ho,fun name=>?_⟩
 have e:=hm name
 unfold nsFind findBy at e
 rw [<- Array.find?_toList] at e
 unfold PySem.W.lookIn
 rw [hd]
 dsimp only
 split
 ·rename_i y q
  rw [q] at e
  exact congrArg some e
 ·rename_i q
  rw [q] at e
  have a:es.toList.any (·.refKey)=false:=by
   rw [List.any_eq_false]
   intro y hy
   obtain ⟨z,t,hkey⟩:=hk y (Array.mem_toList_iff.mp hy)
   simp [DictEntry.refKey,hkey]
  have a':¬ es.toList.any (·.refKey)=true:=by rw [a]; exact Bool.false_ne_true
  rw [if_neg a']
  exact congrArg some e
theorem Wi.look {h:Heap} {x dx C:Addr} {mA:Str->Option Value} (I:Wi h x dx C mA):∃ od,PySem.W.InstAt h x (PySem.W.instObj C dx) C (some od)/\∀ name,PySem.W.lookIn name od=some (mA name):=
 let ⟨od,ho,hl⟩:=Fy I.ns
 ⟨od,⟨I.obj,rfl,rfl,ho⟩,hl⟩
section
variable {prog:Program} {w:World} {A:Around} {E:Value->Shared->Prop} {s:Shared} {K:PySem.W.Frag} {x dx C f:Addr} {mA:Str->Option Value} {name:Str} {v:Value}
end
theorem uU.some_of {v:V} {o:Option Value} (r:uU (some v) o):∃ u,o=some u/\zi v u:=by
 cases o with
 | none=>exact (show False from r).elim
 | some u=>exact ⟨u,rfl,r⟩
section
variable {P:Program} {w:World} {H H':Hp} {h h':Heap} {a C dx:Addr} {fs fs':List (Str×V)}
theorem De (hok:yu P w H h) (e:H a=some (.ins C dx fs)):∃ mA,Wi h a dx C mA/\(∀ f,uU (fs.lookup f) (mA f))/\PySem.Within mA (fs.map (·.1))/\fs.length<=1000/\H dx=some (.own a):=by
 obtain ⟨d,z,ne,ob,mA,n,r,q⟩:=(show yo P w H h a (.ins C dx fs) from hok a _ e)
 exact ⟨mA,⟨ob,n,ne⟩,r,q,z,d⟩
end
structure Wa (K:PySem.W.Frag) (C:Addr):Prop where
 pg:PySem.W.plainGet K C Str.empty=true
 hd:PySem.W.hasDictIn K C=true
 po:PySem.W.plainOver K C=true
 sa:PySem.W.findIn K (.ref C) "__setattr__" = some (some (.builtin "object.__setattr__"))
theorem Wa.get {K:PySem.W.Frag} {C:Addr} (c:Wa K C) (f:Str):PySem.W.plainGet K C f=true:=c.pg
section
variable {X:Cx} {pins:List (Addr×Obj)} {σ:St} {H:Hp} {s:Shared} {a C dx:Addr} {fs:List (Str×V)} {f:Str} {v:V} {A:Around} {E:Value->Shared->Prop}
end
section
variable {X:Cx} {o e value:Expr} {f:Str} {pos pos' tpos:Pos} {ta tv:TE}
end
section
variable {X:Cx} {pins:List (Addr×Obj)} {σ:St} {H:Hp} {s:Shared} {A:Around} {E:Value->Shared->Prop} {Q:Value->Shared->Prop} {c:Value} {b:Bool}
inductive uI (K:PySem.W.Frag) (H:Hp):V->Value->Prop where
 | non:uI K H .non (.type "NoneType")
 | bl (x:Bool):uI K H (.bl x) (.type "bool")
 | int (i:Int):uI K H (.int i) (.type "int")
 | str (x:Str):uI K H (.str x) (.type "str")
 | flt (x:UInt64):uI K H (.flt x) (.type "float")
 | lst {a:Addr} {xs:List V} (e:H a=some (.lst xs)):uI K H (.ref a) (.type "list")
 | frz {a:Addr} {o:Obj} {xs:List V} (e:H a=some (.frz o (.lst xs))):uI K H (.ref a) (.type "list")
 | tup {a:Addr} {xs:List V} (e:H a=some (.tup xs)):uI K H (.ref a) (.type "tuple")
 | dK {a:Addr} {kvs:List (Key×V)} (e:H a=some (.dK kvs)):uI K H (.ref a) (.type "dict")
 | dT {a:Addr} {kvs:List (List Key×V)} (e:H a=some (.dT kvs)):uI K H (.ref a) (.type "dict")
 | ins {a C dx:Addr} {fs:List (Str×V)} (e:H a=some (.ins C dx fs)) (cl:Wa K C) (ha:PySem.W.findIn K (.ref C) "__class__" = some (some (.builtin "object.__class__")))
   (hn:PySem.W.specialIn K (.builtin "object.__class__") "__get__" = some (some (.builtin "getset_descriptor.__get__"))) (htk:PySem.W.takesIn K (.builtin "object.__class__")=some true)
   (hm:PySem.W.mroIn K C (.type "object")=some true):uI K H (.ref a) (.ref C)
theorem XM {x:V} {u t:Value} (I:Inv X pins σ H s) (rx:zi x u) (ty:uI X.K H x t) (e:PySem.W.kitOne X.K t c=some b) (h:∀ tk,Q (.bool b) { s with toks:=tk }) :
  wpAny (model X.prog X.w) A (call (.builtin "isinstance") [u,c]) Q E s:=by
 cases ty with
 | non=>cases (show u=Value.none from rx); exact PySem.W.kia_one PySem.W.kitx_none I.kIn True.intro e (fun z=>nomatch z) h
 | bl y=>cases (show u=Value.bool y from rx); exact PySem.W.kia_one PySem.W.kitx_bool I.kIn True.intro e (fun z=>nomatch z) h
 | int i=>obtain ⟨t,q⟩:=(show ∃ t,u=Value.int i t from rx); cases q; exact PySem.W.kia_one PySem.W.kitx_int I.kIn True.intro e (fun z=>nomatch z) h
 | str y=>obtain ⟨t,q⟩:=(show ∃ t,u=Value.str y t from rx); cases q; exact PySem.W.kia_one PySem.W.kitx_str I.kIn True.intro e (fun z=>nomatch z) h
 | flt y=>obtain ⟨t,q⟩:=(show ∃ t,u=Value.float y t from rx); cases q; exact PySem.W.kia_one PySem.W.kitx_float I.kIn True.intro e (fun z=>nomatch z) h
 | @lst a xs ea=>
  cases (show u=Value.ref a from rx)
  obtain ⟨_,_,n,_,h1⟩:=(show yo X.prog X.w H s.heap a (.lst xs) from I.hok a _ ea)
  exact PySem.W.kia_one PySem.W.kitx_list I.kIn ⟨_,h1,rfl⟩ e (fun z=>nomatch z) h
 | @frz a ob xs ea=>
  cases (show u=Value.ref a from rx)
  obtain ⟨_,_,_,n,_,h1⟩:=(show yo X.prog X.w H s.heap a (.frz ob (.lst xs)) from I.hok a _ ea)
  exact PySem.W.kia_one PySem.W.kitx_list I.kIn ⟨_,h1,rfl⟩ e (fun z=>nomatch z) h
 | @tup a xs ea=>
  cases (show u=Value.ref a from rx)
  obtain ⟨_,_,_,p⟩:=(show yo X.prog X.w H s.heap a (.tup xs) from I.hok a _ ea)
  obtain ⟨o,h1,h2,_⟩:=p
  exact PySem.W.kia_one PySem.W.kitx_tuple I.kIn ⟨o,h1,h2⟩ e (fun z=>nomatch z) h
 | @dK a kvs ea=>
  cases (show u=Value.ref a from rx)
  obtain ⟨_,_,vs,_,p⟩:=(show yo X.prog X.w H s.heap a (.dK kvs) from I.hok a _ ea)
  obtain ⟨o,es,ep,h1,h2,_⟩:=p
  exact PySem.W.kia_one PySem.W.kitx_dict I.kIn ⟨o,h1,h2.1⟩ e (fun z=>nomatch z) h
 | @dT a kvs ea=>
  cases (show u=Value.ref a from rx)
  obtain ⟨_,_,xs,_,o,es,ep,h1,h2,_⟩:=(show yo X.prog X.w H s.heap a (.dT kvs) from I.hok a _ ea)
  exact PySem.W.kia_one PySem.W.kitx_dict I.kIn ⟨o,h1,h2.1⟩ e (fun z=>nomatch z) h
 | @ins a C dx fs ea cl ha hn htk hm=>
  cases (show u=Value.ref a from rx)
  obtain ⟨mA,O,_⟩:=De I.hok ea
  obtain ⟨od,J,_⟩:=O.look
  exact PySem.W.kia_one (PySem.W.kitx_own (cl.get _) cl.hd ha hn htk hm) I.kIn J e (fun z=>nomatch z) h
end
end L2
namespace L2
open PySem PySem.Spec PyProof.Rows
structure yz (k:Nat) (A:Around):Prop where
 hd:A.handled=none
 dp:A.depth+3*k+5<recursionLimit
 un:A.units+16*k+200<cLine
theorem yz.mono {j k:Nat} {A:Around} (r:yz k A) (h:j<=k):yz j A:=⟨r.hd,by have:=r.dp; omega,by have:=r.un; omega⟩
theorem yz.deeper {k:Nat} {A:Around} (r:yz (k+1) A) (env:Env):yz k (A.deeper env):=
 ⟨r.hd,by have:=r.dp; show A.depth+1+3*k+5<_; omega,by have:=r.un; show A.units+3+16*k+200<_; omega⟩
theorem yz.depth {k:Nat} {A:Around} (r:yz k A):A.depth<recursionLimit:=by have:=r.dp; omega
theorem yz.units {k:Nat} {A:Around} (r:yz k A):A.units+64<cLine:=by have:=r.un; omega
def WJ:TA:=fun _ H Q=>Q [] H
def T6 (ta:TE) (tr:TA):TA:=fun σ H Q=>ta σ H fun x H1=>tr σ H1 fun xs H2=>Q (x::xs) H2
section
variable {X:Cx} {e:Expr} {es:List Expr} {te:TE} {t:TA} {pos:Pos}
theorem jr:PA X [] WJ:=fun _ _ _ _ H Q I h=>Calls.spliced_nil ⟨[],H,I,.nil,h⟩
theorem Ew (ha:PE X e te) (hr:PA X es t) (hs:starEach (e::es) X.env=(false,eval e X.env)::starEach es X.env:=by rfl):PA X (e::es) (T6 te t):=by
 intro pos pins s σ H Q I h
 rw [hs]
 show wpAny _ _ (spliced ((false,eval e X.env)::backTo pos (starEach es X.env))) _ _ s
 refine Calls.spliced_cons (zk (ha pins s σ H _ I h) fun u s1 ⟨x,H1,I1,r1,q1⟩=>?_)
 exact zk (hr pos pins s1 σ H1 _ I1 q1) fun us s2 ⟨xs,H2,I2,r2,q2⟩=>⟨x::xs,H2,I2,.cons r1 r2,q2⟩
def Ph (t:TA):TE:=fun σ H Q=>t σ H fun xs H1=>xs.length<=sizeLine/\∀ p,H1 p=none->Q (.ref p) (zX H1 p (.tup xs))
def Ld (t:TA):TE:=fun σ H Q=>t σ H fun xs H1=>xs.length<=sizeLine/\∀ p,H1 p=none->Q (.ref p) (zX H1 p (.lst xs))
theorem GM {x1} (h:PA X es t):PE X (.Tuple es x1 pos) (Ph t):=by
 intro pins s σ H Q I hq
 refine wpAny_Tuple_spliced (zk (h pos pins s σ H _ I hq) fun us s1 ⟨xs,H1,I1,r,z,q⟩=>⟨by rw [<- r.length]; exact z,?_⟩)
 have hf:H1 s1.heap.objs.size=none:=I1.hok.fresh (Nat.le_refl _)
 refine ⟨.ref s1.heap.objs.size,zX H1 s1.heap.objs.size (.tup xs),I1.laid (t':=s1.toks) (fun b u e=>Heap.get?_push_of_some _ e) (Nat.le_refl _) ?_,rfl,q _ hf⟩
 exact ⟨z,us,r,⟨_,Heap.get?_push_size _ rfl,rfl,_,rfl⟩⟩
theorem O7 (h:PA X es t):PE X (.List es pos) (Ld t):=by
 intro pins s σ H Q I hq
 refine wpAny_List_spliced (zk (h pos pins s σ H _ I hq) fun us s1 ⟨xs,H1,I1,r,z,q⟩=>⟨by rw [<- r.length]; exact z,?_⟩)
 have hf:H1 s1.heap.objs.size=none:=I1.hok.fresh (Nat.le_refl _)
 refine ⟨.ref s1.heap.objs.size,zX H1 s1.heap.objs.size (.lst xs),I1.laid (t':=s1.toks) (fun b u e=>Heap.get?_push_of_some _ e) (Nat.le_refl _) ?_,rfl,q _ hf⟩
 exact ⟨z,us,0,r,Heap.get?_push_size _ rfl⟩
end
abbrev Sp:=List V->Hp->VK->XK->Prop
abbrev uk:=List Env->Hp->Shared->XK->Value->Shared->Prop
structure YF (P:Program) (w:World) (K:PySem.W.Frag) (mg:Str->Option Value) (base:Heap) (A:Around) (outer:List Env) (s:Shared) (H:Hp):Prop where
 frames:A.frames=some outer
 mod:Mod K mg base
 bs:∀ b o,base.get? b=some o->s.heap.get? b=some o/\H b=none
 bsz:base.objs.size<=s.heap.objs.size
 funs:s.heap.FunFrames base outer
 frf:∀ b∈vw outer,H b=none
 hok:yu P w H s.heap
 bare:AllBare s.gens
def CE (outer:List Env) (P:Program) (w:World) (H:Hp) (s:Shared) (Q:VK) (u:Value) (s':Shared):Prop:=
 ∃ v H',s'.os=s.os/\AllBare s'.gens/\Un (vw outer) [] H H' s.heap s'.heap/\yu P w H' s'.heap/\zi v u/\Q v H'
def CR (CX:uk) (outer:List Env) (P:Program) (w:World) (H:Hp) (s:Shared) (Q:VK) (E:XK) (r:Result) (s':Shared):Prop:=
 match r with
 | .ok (.ret u)=>CE outer P w H s Q u s'
 | .ok _=>False
 | .error e=>CX outer H s E e s'
structure vb (P:Program) (w:World) (K:PySem.W.Frag) (mg:Str->Option Value) (base:Heap) (CX:uk) (k:Nat) (f:Addr) (fd:FuncData) (ps:List Str) (sp:Sp):Prop where
 len:∀ vs H Q E,sp vs H Q E->vs.length=ps.length
 run:∀ (A:Around) (outer:List Env) (s:Shared) (H:Hp) (args:Args) (us:List Value) (vs:List V) (Q:VK) (E:XK),yz k A->YF P w K mg base A outer s H->BindsTo s fd args (ps.zip us)->zY vs us->sp vs H Q E->
  codeAny (model P w) A (.call (.ref f) args) (CR CX outer P w H s Q E) s
section
variable {X:Cx} {pins:List (Addr×Obj)} {σ:St} {H:Hp} {s s':Shared}
theorem Inv.env0 (I:Inv X pins σ H s):YF X.prog X.w X.K X.mg X.base X.A X.stack s H:=
 ⟨I.ok.frames,I.ok.mod,I.bs,Nat.le_trans I.ok.bsz I.sz,I.stack,I.stkFree,I.hok,I.bare⟩
theorem Inv.after {Q:VK} {u:Value} (I:Inv X pins σ H s) (h:CE X.stack X.prog X.w H s Q u s'):EP X pins σ Q u s':=by
 obtain ⟨v,H',os,bare,un,hok,r,q⟩:=h
 obtain ⟨hh,g,d,t,os'⟩:=s'
 obtain rfl:os'=s.os:=os
 exact ⟨v,H',I.call (h':=hh) (g':=g) (d':=d) (t':=t) (ch:=[]) un hok bare (fun b z=>absurd z (by simp)),r,q⟩
end
def T4 (sp:Sp) (dvs:List V) (E:XK) (t:TA):TE:=fun σ H Q=>t σ H fun vs H1=>sp (vs++dvs) H1 Q E
def uj (K:PySem.W.Frag) (fd:FuncData) (ps:List Str) (ds:List Value):Prop:=
 ∀ (s:Shared) (us:List Value),K.In s.heap->(us++ds).length=ps.length->BindsTo s fd ⟨us,[]⟩ (ps.zip (us++ds))
theorem uj.all {K:PySem.W.Frag} {fd:FuncData} {ps:List Str} (h:∀ us:List Value,us.length=ps.length->bindArgs fd ⟨us,[]⟩=pure (ps.zip us)):uj K fd ps []:=fun s us _ hl=>by
 rw [List.append_nil] at hl ⊢
 exact .of_eq (h us hl)
def YM (CX:uk) (X:Cx) (E:XK):Prop:=∀ (pins:List (Addr×Obj)) (σ:St) (H:Hp) (s:Shared) (e:Value) (s':Shared),Inv X pins σ H s->CX X.stack H s E e s'->X.xe e s'
section
variable {X:Cx} {CX:uk} {k:Nat} {f C:Addr} {fd:FuncData} {ps:List Str} {sp:Sp} {dvs:List V} {ds:List Value} {E:XK} {x m:Str} {p pos apos:Pos} {e o:Expr} {es:List Expr} {ta:TE} {t:TA}
theorem Uc {pins:List (Addr×Obj)} {σ:St} {H:Hp} {s:Shared} {Q:VK} {us:List Value} {vs:List V} (F:vb X.prog X.w X.K X.mg X.base CX k f fd ps sp) (hr:yz k X.A) (hb:uj X.K fd ps ds) (hd:zY dvs ds) (hx:YM CX X E)
  (I:Inv X pins σ H s) (r:zY vs us) (h:sp (vs++dvs) H Q E):wpAny (model X.prog X.w) X.A (call (.ref f) us) (EP X pins σ Q) X.xe s:=by
 have r2:zY (vs++dvs) (us++ds):=r.append hd
 have hl:(us++ds).length=ps.length:=by rw [<- r2.length]; exact F.len _ _ _ _ h
 refine wpAny_call (codeAny_mono (F.run X.A X.stack s H ⟨us,[]⟩ (us++ds) (vs++dvs) Q E hr I.env0 (hb s us I.kIn hl) r2 h) fun r s' hq=>?_)
 cases r with
 | error e=>exact hx pins σ H s e s' I hq
 | ok fl=>
  cases fl with
  | ret u=>exact I.after hq
  | next=>exact False.elim hq
  | brk=>exact False.elim hq
  | cont=>exact False.elim hq
theorem G8 (F:vb X.prog X.w X.K X.mg X.base CX k f fd ps sp) (hr:yz k X.A) (hg:Gl X x) (hm:X.mg x=some (.ref f)) (hk:PySem.W.keepIn X.K (.ref f)=true) (hb:uj X.K fd ps ds) (hd:zY dvs ds) (hx:YM CX X E)
  (ha:PA X (e::es) t) (hdb:(x == ("__debug__" : Str))=false:=by decide) (he:starEach (e::es) X.env=(false,eval e X.env)::starEach es X.env:=by rfl) (hpl:(backTo pos (starEach es X.env)).any (·.1)=false:=by rfl) :
  PE X (.Call (.Name x p) (e::es) [] pos) (T4 sp dvs E t):=by
 intro pins s σ H Q I h
 refine wpAny_Call_Name_kw (Vv I hg hm ?_ hdb)
 refine PySem.W.callWith_K (h₀:=X.base) I.ok.mod.kin hk (zk (ha pos pins s σ H _ I h) fun us s1 ⟨vs,H1,I1,r,q⟩=>⟨I1.kIn,?_⟩) he hpl
 exact Uc F hr hb hd hx I1 r q
theorem G9 (F:vb X.prog X.w X.K X.mg X.base CX k f fd ps sp) (hr:yz k X.A) (hg:Gl X x) (hm:X.mg x=some (.ref f)) (hk:PySem.W.keepIn X.K (.ref f)=true) (hb:uj X.K fd ps ds) (hd:zY dvs ds) (hx:YM CX X E)
  (hdb:(x == ("__debug__" : Str))=false:=by decide):PE X (.Call (.Name x p) [] [] pos) (T4 sp dvs E WJ):=by
 intro pins s σ H Q I h
 refine wpAny_Call_Name_kw (Vv I hg hm ?_ hdb)
 exact PySem.W.callWith_K0 I.kIn hk (Uc (us:=[]) F hr hb hd hx I .nil h)
end
section
variable {X:Cx} {CX:uk} {k:Nat} {f C:Addr} {fd:FuncData} {ps ks:List Str} {sp:Sp} {E:XK} {x m:Str} {p pos apos kpos:Pos} {e o:Expr} {es:List Expr} {kws:List Keyword} {te ta:TE} {t tk:TA} {nm:Option Str}
variable {g:List Value->List Value->List Value} {gV:List V->List V->List V}
end
structure yD (N P:List Str) (sc:Scope):Prop where
 kind:sc.kind=.function
 co:sc.isCoroutine=false
 gen:sc.isGenerator=false
 nd:N.Nodup
 pre:N.take P.length=P
 par:∀ x∈P,sc.names.lookup x=some .local\/sc.names.lookup x=some .cell
 nofree:∀ y∈sc.names,y.2≠.free
theorem QJ {kindOf:Str->Option NameKind} {x:Str}:∀ {binds:List (Str×Value)} {m:Str->Option Value},(∀ v,(x,v) ∉ binds)->bindL kindOf binds m x=m x
 | [],_,_=>rfl
 | (n,v)::r,m,h=>by
  unfold bindL
  rw [QJ fun w hw=>h w (List.mem_cons_of_mem _ hw)]
  split
  ·have:x≠n:=by rintro rfl; exact h v List.mem_cons_self
   simp [this]
  ·rfl
theorem QF {kindOf:Str->Option NameKind} {x:Str}:∀ {binds:List (Str×Value)} {m:Str->Option Value},(∀ v,(x,v) ∉ binds)->bindC kindOf binds m x=m x
 | [],_,_=>rfl
 | (n,v)::r,m,h=>by
  unfold bindC
  rw [QF fun w hw=>h w (List.mem_cons_of_mem _ hw)]
  split
  ·rfl
  ·have:x≠n:=by rintro rfl; exact h v List.mem_cons_self
   simp [this]
theorem QH {kindOf:Str->Option NameKind} {x:Str} {v:Value}:∀ {P:List Str} {vs:List Value} {i:Nat} {m:Str->Option Value},P.Nodup->P[i]?=some x->vs[i]?=some v->kindOf x=some .local->
  bindL kindOf (P.zip vs) m x=some v
 | [],_,_,_,_,h,_,_=>by simp at h
 | _::_,[],_,_,_,_,h,_=>by simp at h
 | p::P,w::vs,0,m,nd,h1,h2,hk=>by
  simp at h1 h2; subst h1; subst h2
  show bindL kindOf ((p,w)::P.zip vs) m p=_
  unfold bindL
  rw [QJ fun v hv=>(List.nodup_cons.mp nd).1 (List.of_mem_zip hv).1,if_pos hk]
  simp
 | p::P,w::vs,i+1,m,nd,h1,h2,hk=>by
  show bindL kindOf ((p,w)::P.zip vs) m x=_
  unfold bindL
  exact QH (i:=i) (List.nodup_cons.mp nd).2 (by simpa using h1) (by simpa using h2) hk
theorem QD {kindOf:Str->Option NameKind} {x:Str} {v:Value}:∀ {P:List Str} {vs:List Value} {i:Nat} {m:Str->Option Value},P.Nodup->P[i]?=some x->vs[i]?=some v->kindOf x≠some .local->
  bindC kindOf (P.zip vs) m x=some v
 | [],_,_,_,_,h,_,_=>by simp at h
 | _::_,[],_,_,_,_,h,_=>by simp at h
 | p::P,w::vs,0,m,nd,h1,h2,hk=>by
  simp at h1 h2; subst h1; subst h2
  show bindC kindOf ((p,w)::P.zip vs) m p=_
  unfold bindC
  rw [QF fun v hv=>(List.nodup_cons.mp nd).1 (List.of_mem_zip hv).1,if_neg hk]
  simp
 | p::P,w::vs,i+1,m,nd,h1,h2,hk=>by
  show bindC kindOf ((p,w)::P.zip vs) m x=_
  unfold bindC
  exact QD (i:=i) (List.nodup_cons.mp nd).2 (by simpa using h1) (by simpa using h2) hk
def start (N:List Str) (vs:List V):St:=vs.map some++List.replicate (N.length - vs.length) none
def tX (CX:uk) (P:Program) (w:World) (K:PySem.W.Frag) (mg:Str->Option Value) (base:Heap) (N:List Str) (qual:Str) (scope:Scope) (f:Addr) (cd:Value) (A:Around) (outer:List Env) (s:Shared) (H:Hp) (E:XK):Cx where
 prog:=P
 w:=w
 K:=K
 mg:=mg
 base:=base
 A:=A.deeper (envOfC qual scope s.heap.objs.size f cd)
 N:=N
 s₀:=s
 H₀:=H
 env:=envOfC qual scope s.heap.objs.size f cd
 outer:=outer
 stack:=envOfC qual scope s.heap.objs.size f cd::outer
 ex:=[]
 calm:=true
 fn:=fun _=>true
 pn:=[]
 xe:=fun e s'=>wpAny (model P w) (A.deeper (envOfC qual scope s.heap.objs.size f cd)) (leaving (envOfC qual scope s.heap.objs.size f cd) e) (fun _ s''=>CX outer H s E e s'') (fun e' s''=>CX outer H s E e' s'') s'
theorem Qb {sc:Scope} {n:Nat} {x:Str} (h:sc.names.lookup x=some .cell):∃ c,(cellsFrom n sc.names []).lookup x=some c:=by
 have q:=PySem.W.cellsFrom_some sc.names n [] (.inl h)
 exact Option.isSome_iff_exists.mp q
theorem Dj {CX:uk} {P:Program} {w:World} {K:PySem.W.Frag} {mg:Str->Option Value} {base:Heap} {N ps:List Str} {qual:Str} {scope:Scope} {f:Addr} {cd:Value} {A:Around} {outer:List Env} {s s1:Shared} {H:Hp} {E:XK} {us:List Value} {vs:List V}
  (S:yD N ps scope) (hd:A.handled=none) (e0:YF P w K mg base A outer s H) (hl:vs.length=ps.length) (r:zY vs us)
  (x:InCallC s s.heap.objs.size (bindL (envOfC qual scope s.heap.objs.size f cd).kindOf (ps.zip us) fun _=>none) (cellsFrom (s.heap.objs.size+1) scope.names []) (bindC (envOfC qual scope s.heap.objs.size f cd).kindOf (ps.zip us) fun _=>none) s1) :
  Inv (tX CX P w K mg base N qual scope f cd A outer s H E) [] (start N vs) H s1:=by
 have hpl:ps.length<=N.length:=by have:=congrArg List.length S.pre; rw [List.length_take] at this; omega
 obtain ⟨h1,tk,rfl,hk⟩:=x.done
 have noA:∀ b:Addr,b ∉ (tX CX P w K mg base N qual scope f cd A outer s H E).ex:=fun b z=>absurd (show b∈([]:List Addr) from z) (by simp)
 refine ⟨⟨e0.mod,S.kind,rfl,rfl,Nat.le_refl _,fun y z c h1 h2=>?_,fun y hy=>?_,fun y c _ h=>?_,fun _=>hd,Around.frames_deeper e0.frames,.inr ⟨rfl,rfl⟩,fun b z=>absurd z (noA b),e0.bs,e0.bsz,fun b _ _=>noA b,fun b z=>absurd z (noA b),e0.funs,e0.frf⟩,
  rfl,e0.bare,Un.kept hk,⟨_,x.toInCall.ns,fun i y v h1 h2 h3=>?_⟩,fun y c h=>⟨_,x.cell y c h⟩,e0.hok.fresh (Nat.le_refl _),fun y c h=>?_,fun p hp=>absurd (show p∈([]:List (Addr×Obj)) from hp) (by simp),e0.hok.kept hk,?_⟩
 ·exact name_of_addr x.apart (PySem.mem_of_lookup h1) (PySem.mem_of_lookup h2)
 ·have hy:scope.names.lookup y=some .cell\/scope.names.lookup y=some .free:=hy
  rcases hy with hy | hy
  ·exact Qb hy
  ·exact absurd rfl (S.nofree _ (PySem.mem_of_lookup hy))
 ·exact Nat.le_of_lt (x.above y c (PySem.mem_of_lookup h))
 ·have hi:i<vs.length:=by
   unfold start at h2
   by_cases hi:i<vs.length
   ·exact hi
   ·rw [List.getElem?_append_right (by simpa using hi)] at h2
    rw [List.getElem?_replicate] at h2
    split at h2<;>cases h2
  have ha:vs[i]?=some v:=by
   unfold start at h2
   rw [List.getElem?_append_left (by simpa using hi),List.getElem?_map] at h2
   cases e:vs[i]? with
   | none=>rw [e] at h2; cases h2
   | some a=>rw [e] at h2; cases h2; rfl
  obtain ⟨u,hu,rv⟩:=r.get ha
  have hp:ps[i]?=some y:=by
   rw [<- S.pre,List.getElem?_take_of_lt (by omega)]; exact h1
  have ndP:ps.Nodup:=by rw [<- S.pre]; exact S.nd.sublist (List.take_sublist _ _)
  refine ⟨u,rv,?_⟩
  rcases S.par y (List.mem_of_getElem? hp) with k | k
  ·exact .inl ⟨k,QH ndP hp hu k⟩
  ·obtain ⟨c,e⟩:=Qb (n:=s.heap.objs.size+1) k
   refine .inr ⟨.inl k,c,e,?_⟩
   have q:=x.cell y c e
   rw [QD ndP hp hu (by show scope.names.lookup y≠_; rw [k]; decide)] at q
   exact q
 ·exact e0.hok.fresh (Nat.le_of_lt (x.above y c (PySem.mem_of_lookup h)))
 ·unfold start
  show _=N.length
  rw [List.length_append,List.length_map,List.length_replicate]
  omega
theorem Ba {CX:uk} {P:Program} {w:World} {K:PySem.W.Frag} {mg:Str->Option Value} {base:Heap} {k:Nat} {f:Addr} {name qual:Str} {params:Arguments} {body:List Stmt} {scope:Scope} {dV kV doc pm cdv ct oc:Value} {an od:Option Addr}
  {osl:Array (Option Value)} {N ps:List Str} {sp:Sp} (lk:K.lookup f=some ⟨oc,od,.func (PySem.W.fnOf name qual params body scope dV kV doc pm an cdv ct),osl⟩) (hcd:PySem.W.codeIn K cdv qual=true) (S:yD N ps scope)
  (len:∀ vs H Q E,sp vs H Q E->vs.length=ps.length)
  (hbody:∀ (A:Around) (outer:List Env) (s:Shared) (H:Hp) (vs:List V) (Q:VK) (E:XK),yz k (A.deeper (envOfC qual scope s.heap.objs.size f cdv))->sp vs H Q E->
   ∃ t,wP (tX CX P w K mg base N qual scope f cdv A outer s H E) body t/\t { nx:=fun _ H'=>Q .non H',rt:=Q } (start N vs) H) :
  vb P w K mg base CX (k+1) f (PySem.W.fnOf name qual params body scope dV kV doc pm an cdv ct) ps sp:=by
 refine ⟨len,fun A outer s H args us vs Q E hr e0 hb r hsp=>?_⟩
 have hl:=len _ _ _ _ hsp
 have KX:K.In s.heap:=e0.mod.kin.keeps fun b o e=>(e0.bs b o e).1
 have lim:s.heap.NoLimit:=e0.mod.nolimit.keeps fun b o e=>(e0.bs b o e).1
 have hkind:∀ y∈ps.zip us,scope.names.lookup y.1=some .local\/(scope.names.lookup y.1=some .cell/\((cellsFrom (s.heap.objs.size+1) scope.names []).lookup y.1).isSome=true):=fun ⟨n,v⟩ hy=>by
  rcases S.par n (List.of_mem_zip hy).1 with q | q
  ·exact .inl q
  ·exact .inr ⟨q,PySem.W.cellsFrom_some _ _ _ (.inl q)⟩
 refine codeAny_call_function hr.depth (KX _ _ lk) rfl S.co S.gen rfl (PySem.W.codeRec_of KX hcd) (hb _ _ _ _ ?_)
 refine wpAny_newFunctionEnv_cells S.kind hkind fun env he s1 x=>?_
 subst he
 refine ⟨lim.keeps x.toInCall.keep,codeAny_func ?_⟩
 obtain ⟨t,ht,hq⟩:=hbody A outer s H vs Q E (hr.deeper _) hsp
 have I:Inv (tX CX P w K mg base N qual scope f cdv A outer s H E) [] (start N vs) H s1:=Dj S hr.hd e0 hl r x
 refine wpAny_mono (ht [] s1 (start N vs) H _ I hq) (fun fl s' hs=>?_) fun e s' hs=>hs
 have fin:∀ {σ':St} {H':Hp} {v:V} {u:Value},Inv (tX CX P w K mg base N qual scope f cdv A outer s H E) [] σ' H' s'->zi v u->Q v H'->CE outer P w H s Q u s':=
  fun {σ' H' v u} J rv q=>⟨v,H',J.os,J.bare,J.base,J.hok,rv,q⟩
 cases fl with
 | ret u=>
  obtain ⟨v,σ',H',J,rv,q⟩:=hs
  exact fin J rv q
 | next=>
  obtain ⟨σ',H',J,q⟩:=hs
  exact fin (v:=V.non) (u:=Value.none) J rfl q
 | brk=>
  obtain ⟨_,_,_,q⟩:=hs
  exact False.elim q
 | cont=>
  obtain ⟨_,_,_,q⟩:=hs
  exact False.elim q
end L2
namespace L2
open PySem PySem.Spec PyProof.Rows
section
variable {X:Cx} {x:Str} {p pos:Pos} {e:Expr} {es:List Expr} {t:TA} {id T:String} {r:List V->Hp->VK->Prop}
def WH (r:List V->Hp->VK->Prop) (t:TA):TE:=fun σ H Q=>t σ H fun vs H1=>r vs H1 Q
theorem GA (hc:xr X (.builtin id) r) (hg:Gl X x) (hm:X.mg x=none) (hv:bootBuiltins x=some (.builtin id)) (ha:PA X (e::es) t) (hn:x ≠ "__name__" := by decide) (hdb:(x == ("__debug__" : Str))=false:=by decide)
  (he:starEach (e::es) X.env=(false,eval e X.env)::starEach es X.env:=by rfl) (hpl:(backTo pos (starEach es X.env)).any (·.1)=false:=by rfl):PE X (.Call (.Name x p) (e::es) [] pos) (WH r t):=by
 intro pins s σ H Q I h
 refine wpAny_Call_Name_kw (jg I hg hm hv ?_ hn hdb)
 exact PyProof.Rows.callWith_builtin1 (zk (ha pos pins s σ H _ I h) fun us s1 ⟨vs,H1,I1,r1,q1⟩=>hc pins s1 σ H1 vs us Q I1 r1 q1) he hpl
theorem GB (hc:xr X (.type T) r) (hg:Gl X x) (hm:X.mg x=none) (hv:bootBuiltins x=some (.type T)) (ha:PA X (e::es) t) (hn:x ≠ "__name__" := by decide) (hdb:(x == ("__debug__" : Str))=false:=by decide)
  (he:starEach (e::es) X.env=(false,eval e X.env)::starEach es X.env:=by rfl) (hpl:(backTo pos (starEach es X.env)).any (·.1)=false:=by rfl):PE X (.Call (.Name x p) (e::es) [] pos) (WH r t):=by
 intro pins s σ H Q I h
 refine wpAny_Call_Name_kw (jg I hg hm hv ?_ hn hdb)
 exact PyProof.Rows.callWith_type1 (zk (ha pos pins s σ H _ I h) fun us s1 ⟨vs,H1,I1,r1,q1⟩=>hc pins s1 σ H1 vs us Q I1 r1 q1) he hpl
end
end L2
namespace HT
open PySem PyProof.Rows
section
open PySem.SeqAt
open PySem.AutoSeq1 (wpAny_loadPart')
open PySem.MeetsSeq PySem.MeetsSeq2 PySem.MeetsSeq3
end
section
variable {prog:Program} {w:World} {A:Around} {E:Value->Shared->Prop} {s:Shared}
theorem cat_tup {t b:Addr} {vs ws:List Value} {Q:Value->Shared->Prop} (ht:IsTup s.heap t vs.toArray) (hb:IsTup s.heap b ws.toArray) (hv:vs≠[])
  (h1:ws=[]->Q (.ref t) s) (h2:ws≠[]->Q (.ref s.heap.objs.size) { s with heap:=s.heap.push { cls:=.type "tuple",data:=.seq (vs++ws).toArray } })
  (hsz:vs.length+ws.length<=sizeLine):wpAny (model prog w) A (binaryOp .Add (.ref t) (.ref b)) Q E s:=by
 obtain ⟨⟨cls,dd,data,sl⟩,ho,hc,n,hd⟩:=id ht
 obtain ⟨⟨cls2,dd2,data2,sl2⟩,ho2,hc2,n2,hd2⟩:=id hb
 simp only at hc hd hc2 hd2
 subst hc hd hc2 hd2
 have e:vs.toArray++ws.toArray=(vs++ws).toArray:=by simp
 by_cases hw:ws=[]
 ·exact concat_meets ⟨_,ho,rfl⟩ ⟨_,ho2,rfl⟩ noFill_tuple_add seq_tuple_add PySem.F.slot_tuple_add PySem.F.entry_tuple_add (PySem.F.args_tuple_add_2 _ _)
   (tuple_addW1 t b vs.toArray ws.toArray n n2 dd dd2 sl sl2 (by simpa using hv) (by simp [hw])) ⟨ho,ho2,h1 hw⟩
 ·refine concat_meets ⟨_,ho,rfl⟩ ⟨_,ho2,rfl⟩ noFill_tuple_add seq_tuple_add PySem.F.slot_tuple_add PySem.F.entry_tuple_add (PySem.F.args_tuple_add_2 _ _)
   (tuple_addW2 t b vs.toArray ws.toArray n n2 dd dd2 sl sl2 (by simpa using hv) (by simpa using hw) (by rw [List.size_toArray,List.size_toArray]; exact hsz)) ⟨ho,ho2,?_⟩
  rw [e]
  exact h2 hw
def sIx (n d:Nat):Option Int->Nat
 | none=>d
 | some v=>if v<0 then (v+(n:Int)).toNat else min v.toNat n
theorem sIx_nat (n d k:Nat):sIx n d (some (k:Int))=min k n:=by
 show (if (k:Int)<0 then ((k:Int)+(n:Int)).toNat else min (k:Int).toNat n)=min k n
 rw [if_neg (by omega),Int.toNat_natCast]
theorem sIx_le (n d:Nat) (hd:d<=n) (o:Option Int):sIx n d o<=n:=by
 cases o with
 | none=>exact hd
 | some v=>
  show (if v<0 then (v+(n:Int)).toNat else min v.toNat n)<=n
  by_cases hv:v<0
  ·rw [if_pos hv]; omega
  ·rw [if_neg hv]; exact Nat.min_le_right _ _
theorem Qc (v:Int) (n d:Nat):(if v<0 then max (v+(n:Int)) 0 else min v (n:Int))=((sIx n d (some v):Nat):Int):=by
 show (if v<0 then max (v+(n:Int)) 0 else min v (n:Int))=(((if v<0 then (v+(n:Int)).toNat else min v.toNat n):Nat):Int)
 by_cases hv:v<0
 ·simp only [if_pos hv]; omega
 ·simp only [if_neg hv]; omega
theorem MG (lo hi:Option Int) (n:Nat):Builtin.Slice.sliceAdjust lo hi 1 (n:Int)=(((sIx n 0 lo:Nat):Int),((sIx n n hi:Nat):Int)):=by
 have h1:¬ ((1:Int)<0):=by omega
 unfold Builtin.Slice.sliceAdjust
 simp only [h1,if_false]
 refine Prod.ext ?_ ?_
 ·cases lo with
  | none=>rfl
  | some v=>exact Qc v n 0
 ·cases hi with
  | none=>rfl
  | some v=>exact Qc v n n
theorem Gc (i j:Nat):Builtin.Slice.slicePlaces (i:Int) (j:Int) 1=j - i:=by
 unfold Builtin.Slice.slicePlaces
 have h1:(1:Int) > 0:=by omega
 simp only [h1,if_true,Int.ediv_one]
 split<;>omega
theorem LG {v:Value} {o:Option Int} {Q:Option Int->Shared->Prop} (p:IsPart v o) (h:Q o s):wpAny (model prog w) A (Builtin.Slice.slicePartIndex v) Q E s:=by
 cases p with
 | none=>exact slicePart_none h
 | int i t=>exact slicePart_int h
theorem Nd {sl:Addr} {vl vu:Value} {lo hi:Option Int} {n:Nat} {Q:Int×Int×Nat->Shared->Prop} (hs:s.heap.IsSliceOf sl vl vu .none) (pl:IsPart vl lo) (pu:IsPart vu hi)
  (h:Q (((sIx n 0 lo:Nat):Int),1,sIx n n hi - sIx n 0 lo) s):wpAny (model prog w) A (Builtin.Slice.sliceApplied (.ref sl) (pure (n:Int))) Q E s:=by
 obtain ⟨os,hos,hcs,hds⟩:=id hs
 unfold Builtin.Slice.sliceApplied Builtin.Slice.sliceFields
 refine wpAny_bind (wpAny_bind (wpAny_field hos hds (x:=vl) rfl (wpAny_bind (wpAny_field hos hds (x:=vu) rfl (wpAny_bind (wpAny_field hos hds (x:=.none) rfl (wpAny_pure ?_)))))))
 refine wpAny_bind (slicePart_none ?_)
 show wpAny _ _ (if ((1:Int) == 0)=true then _ else _) _ _ s
 rw [if_neg (by decide)]
 refine wpAny_bind (LG pl (wpAny_bind (LG pu (wpAny_bind (wpAny_pure ?_)))))
 show wpAny _ _ (match Builtin.Slice.sliceAdjust lo hi 1 (n:Int) with | (lo,hi)=>pure (lo,(1:Int),Builtin.Slice.slicePlaces lo hi 1)) _ _ s
 rw [MG lo hi n]
 show wpAny _ _ (pure (((sIx n 0 lo:Nat):Int),(1:Int),Builtin.Slice.slicePlaces ((sIx n 0 lo:Nat):Int) ((sIx n n hi:Nat):Int) 1)) _ _ s
 rw [Gc]
 exact wpAny_pure h
theorem GY (xs:Array Value) (i k:Nat):((List.range k).filterMap fun (m:Nat)=>xs[((i:Int)+(m:Int)*1).toNat]?).toArray=((xs.toList.drop i).take k).toArray:=by
 have e:(fun (m:Nat)=>xs[((i:Int)+(m:Int)*1).toNat]?)=fun m=>xs[i+m]?:=by
  funext m
  have:((i:Int)+(m:Int)*1).toNat=i+m:=by omega
  rw [this]
 rw [e]
 have:=pick_run xs i k
 rw [List.filterMap_map] at this
 have e2:((fun x=>xs[x]?) ∘ fun x=>i+x)=fun m=>xs[i+m]?:=rfl
 rw [e2] at this
 rw [this]
theorem getItem_tuple_cut {t sl:Addr} {items:Array Value} {vl vu:Value} {lo hi:Option Int} {Q:Value->Shared->Prop} (ht:IsTup s.heap t items) (hs:s.heap.IsSliceOf sl vl vu .none) (pl:IsPart vl lo) (pu:IsPart vu hi)
  (hw:¬ (sIx items.size 0 lo=0/\sIx items.size items.size hi=items.size))
  (h:Q (.ref s.heap.objs.size) { s with heap:=s.heap.push { cls:=.type "tuple",data:=.seq ((items.toList.drop (sIx items.size 0 lo)).take (sIx items.size items.size hi - sIx items.size 0 lo)).toArray } })
  (hsz:items.size<=sizeLine):wpAny (model prog w) A (getItem (.ref t) (.ref sl)) Q E s:=by
 have htake:sizeOk (.seq ((items.toList.drop (sIx items.size 0 lo)).take (sIx items.size items.size hi - sIx items.size 0 lo)).toArray):=by
  show ((items.toList.drop (sIx items.size 0 lo)).take (sIx items.size items.size hi - sIx items.size 0 lo)).toArray.size<=sizeLine
  rw [List.size_toArray,List.length_take,List.length_drop,Array.length_toList]
  omega
 have hj:sIx items.size items.size hi<=items.size:=sIx_le _ _ (Nat.le_refl _) hi
 obtain ⟨os,hos,hcs,hds⟩:=id hs
 have hTs:s.TypeIs (.ref sl) "slice" := ⟨os,hos,hcs⟩
 unfold getItem
 try with_reducible refine wpAny_holding ?_
 first | refine wpAny_bind (wpAny_pure ?_) | skip
 refine wpAny_bind (wpAny_sequenceKey ht.typeIs (by decide) ?_)
 refine wpAny_bind (wpAny_callSpecial?_slot (name:=Str.ofString "__getitem__") ht.typeIs PyProof.Rows.slot_tuple_getitem
  (wpAny_call_entry PyProof.Rows.slot_tuple_getitem ht.typeIs entry_tuple_getitem ?_ (args_tuple_getitem _ _)))
 show wpAny _ _ (Builtin.Tuple.tupleItemsOf (.ref t) >>= _) _ _ s
 refine wpAny_bind (tupleItemsOf_ ht ?_)
 refine wpAny_bind (wpAny_typeOf hTs ?_)
 rw [if_pos (by decide)]
 refine wpAny_bind (Nd hs pl pu ?_)
 have hno:¬ ((((sIx items.size 0 lo:Nat):Int) == 0&&(1:Int) == 1&&(sIx items.size items.size hi - sIx items.size 0 lo) == items.size)=true):=by
  intro q
  rw [Bool.and_eq_true,Bool.and_eq_true] at q
  have q1:((sIx items.size 0 lo:Nat):Int)=0:=eq_of_beq q.1.1
  have q2:sIx items.size items.size hi - sIx items.size 0 lo=items.size:=eq_of_beq q.2
  exact hw ⟨by omega,by omega⟩
 show wpAny _ _ (if (((sIx items.size 0 lo:Nat):Int) == 0&&(1:Int) == 1&&(sIx items.size items.size hi - sIx items.size 0 lo) == items.size)=true then _ else _) _ _ s
 rw [if_neg hno,GY]
 first
  | exact wpAny_bind (m:=Builtin.Tuple.tupleExact _) (wpAny_newObj_type (wpAny_pure ⟨_,rfl,wpAny_pure h⟩) htake)
  | exact wpAny_bind (m:=Builtin.Tuple.tupleExact _) (wpAny_newObj_type (wpAny_bind (wpAny_pure (wpAny_pure ⟨_,rfl,wpAny_pure h⟩))) htake)
  | exact wpAny_bind (wpAny_bind (m:=Builtin.Tuple.tupleExact _) (wpAny_newObj_type (wpAny_pure (wpAny_pure ⟨_,rfl,wpAny_pure h⟩)) htake))
  | exact wpAny_bind (wpAny_bind (m:=Builtin.Tuple.tupleExact _) (wpAny_newObj_type (wpAny_pure ⟨_,rfl,wpAny_pure h⟩) htake))
end
end HT
namespace L2
open PySem PySem.Spec PyProof.Rows
abbrev TO:=St->Hp->(Option Int->Hp->Prop)->Prop
def PO (X:Cx) (e:Option Expr) (t:TO):Prop:=
 ∀ (pins:List (Addr×Obj)) (s:Shared) (σ:St) (H:Hp) (Q:Option Int->Hp->Prop),Inv X pins σ H s->t σ H Q->
  wpAny (model X.prog X.w) X.A (evalPart e X.env) (fun u s'=>∃ o H',Inv X pins σ H' s'/\IsPart u o/\Q o H') X.xe s
def PN:TO:=fun _ H Q=>Q none H
def PZ (t:TE):TO:=fun σ H Q=>t σ H fun x H1=>∃ i,x=.int i/\Q (some i) H1
section
variable {X:Cx} {e:Expr} {te:TE} {lo hi:Option Expr} {tl th:TO} {pos p2:Pos}
theorem Gi:PO X none PN:=by
 intro pins s σ H Q I h
 rw [evalPart_none]
 exact wpAny_pure ⟨none,H,I,.none,h⟩
theorem Gj (h:PE X e te):PO X (some e) (PZ te):=by
 intro pins s σ H Q I hw
 rw [evalPart_some]
 refine zk (h pins s σ H _ I hw) fun u s1 ⟨x,H1,I1,r1,q1⟩=>?_
 obtain ⟨i,rfl,q⟩:=q1
 obtain ⟨t,rfl⟩:=r1
 exact ⟨some i,H1,I1,.int i t,q⟩
def tT (X:Cx) (r:V->Option Int->Option Int->Hp->VK->Prop):Prop:=
 ∀ (pins:List (Addr×Obj)) (s:Shared) (σ:St) (H:Hp) (x:V) (v vl vu:Value) (lo hi:Option Int) (sl:Addr) (Q:VK),Inv X pins σ H s->zi x v->s.heap.IsSliceOf sl vl vu .none->IsPart vl lo->IsPart vu hi->r x lo hi H Q->
  ∃ T id,typeLookup (.type T) "__getitem__" = pure (some (.builtin id))/\s.TypeIs v T/\wpAny (model X.prog X.w) X.A (getItem v (.ref sl)) (EP X pins σ Q) X.xe s
theorem tT.or {r r':V->Option Int->Option Int->Hp->VK->Prop} (h:tT X r) (h':tT X r'):tT X (fun x lo hi H Q=>r x lo hi H Q\/r' x lo hi H Q):=by
 intro pins s σ H x v vl vu lo hi sl Q I rx hs pl pu q
 rcases q with q | q
 ·exact h pins s σ H x v vl vu lo hi sl Q I rx hs pl pu q
 ·exact h' pins s σ H x v vl vu lo hi sl Q I rx hs pl pu q
def Pe (r:V->Option Int->Option Int->Hp->VK->Prop) (te:TE) (tl th:TO):TE:=fun σ H Q=>te σ H fun x H1=>tl σ H1 fun l H2=>th σ H2 fun u H3=>r x l u H3 Q
theorem GK {r:V->Option Int->Option Int->Hp->VK->Prop} (hr:tT X r) (he:PE X e te) (hl:PO X lo tl) (hu:PO X hi th):PE X (.Subscript e (.Slice lo hi none p2) pos) (Pe r te tl th):=by
 intro pins s σ H Q I h
 refine Subscript_ (zk (he pins s σ H _ I h) fun v s1 ⟨x,H1,I1,r1,q1⟩=>?_)
 refine wpAny_Slice (zk (hl pins s1 σ H1 _ I1 q1) fun vl s2 ⟨l,H2,I2,pl,q2⟩=>zk (hu pins s2 σ H2 _ I2 q2) fun vu s3 ⟨u,H3,I3,pu,q3⟩=>?_)
 rw [evalPart_none]
 refine wpAny_pure ?_
 have I4:Inv X pins σ H3 { s3 with heap:=s3.heap.push { cls:=.type "slice",data:=.fields #[vl,vu,.none] } }:=I3.kept (t':=s3.toks) fun b ob q=>Heap.get?_push_of_some _ q
 obtain ⟨T,id,hT,ht,hg⟩:=hr pins { s3 with heap:=s3.heap.push { cls:=.type "slice",data:=.fields #[vl,vu,.none] } } σ H3 x v vl vu l u s3.heap.objs.size Q I4 r1 (Heap.IsSliceOf.new ..) pl pu q3
 show wpAny (model X.prog X.w) X.A (subscriptTail e (.Slice lo hi none p2) v (.ref s3.heap.objs.size)) (EP X pins σ Q) X.xe { s3 with heap:=s3.heap.push { cls:=.type "slice",data:=.fields #[vl,vu,.none] } }
 exact tail_any (ops:=[.ref s3.heap.objs.size,v]) ht hT hg (by with_unfolding_all rfl)
def qT (xs:List V) (lo hi:Option Int):List V:=(xs.drop (HT.sIx xs.length 0 lo)).take (HT.sIx xs.length xs.length hi - HT.sIx xs.length 0 lo)
theorem Qj (xs:List V) (lo hi:Option Int):(qT xs lo hi).length<=xs.length:=by
 unfold qT
 rw [List.length_take,List.length_drop]
 omega
def Oh (K:PySem.W.Frag):V->Option Int->Option Int->Hp->VK->Prop:=fun x lo hi H Q=>∃ a xs,x=.ref a/\ye K H a xs/\
 ¬ (HT.sIx xs.length 0 lo=0/\HT.sIx xs.length xs.length hi=xs.length)/\∀ p,H p=none->Q (.ref p) (zX H p (.tup (qT xs lo hi)))
theorem Nc:tT X (Oh X.K):=by
 intro pins s σ H x v vl vu lo hi sl Q I rx hs pl pu h
 obtain ⟨a,xs,rfl,hx,hw,q⟩:=h
 cases rx
 obtain ⟨its,r,ht,hz⟩:=I.tuple hx
 have hlen:its.toArray.size=xs.length:=by rw [List.size_toArray]; exact r.length.symm
 refine ⟨"tuple",_,PyProof.Rows.slot_tuple_getitem.lookup,ht.typeIs,?_⟩
 refine HT.getItem_tuple_cut ht hs pl pu (by rw [hlen]; exact hw) ?_ (by rw [hlen]; exact hz)
 rw [hlen]
 refine ⟨.ref s.heap.objs.size,_,I.laid (t':=s.toks) (o:=.tup (qT xs lo hi)) (fun b ob q=>Heap.get?_push_of_some _ q) (Nat.le_refl _) ?_,rfl,q _ (I.hok.fresh (Nat.le_refl _))⟩
 exact ⟨Nat.le_trans (Qj xs lo hi) hz,_,(r.drop (HT.sIx xs.length 0 lo)).take (HT.sIx xs.length xs.length hi - HT.sIx xs.length 0 lo),IsTup.new _ _⟩
def OY (K:PySem.W.Frag):R2:=fun x y H Q=>∃ a b xs ys,x=.ref a/\y=.ref b/\ye K H a xs/\ye K H b ys/\xs≠[]/\xs.length+ys.length<=sizeLine/\
 (ys=[]->Q (.ref a) H)/\(ys≠[]->∀ p,H p=none->Q (.ref p) (zX H p (.tup (xs++ys))))
theorem zY.nil_iff {xs:List V} {us:List Value} (r:zY xs us):us=[]↔xs=[]:=by
 cases r with
 | nil=>simp
 | cons _ _=>simp
theorem EY:yE X (binaryOp .Add) (OY X.K):=by
 intro pins s σ H x y v u Q I rx ry h
 obtain ⟨a,b,xs,ys,rfl,rfl,ha,hb,hx,hz,q1,q2⟩:=h
 cases rx
 cases ry
 obtain ⟨its,r1,p1,_⟩:=I.tuple ha
 obtain ⟨its2,r2,p2,_⟩:=I.tuple hb
 refine HT.cat_tup p1 p2 (fun z=>hx (r1.nil_iff.mp z)) (fun z=>⟨.ref a,H,I,rfl,q1 (r2.nil_iff.mp z)⟩) (fun z=>?_) (by rw [<- r1.length,<- r2.length]; exact hz)
 refine ⟨.ref s.heap.objs.size,_,I.laid (t':=s.toks) (o:=.tup (xs++ys)) (fun b ob q=>Heap.get?_push_of_some _ q) (Nat.le_refl _) ?_,rfl,q2 (fun w=>z (r2.nil_iff.mpr w)) _ (I.hok.fresh (Nat.le_refl _))⟩
 exact ⟨by rw [List.length_append]; exact hz,_,r1.append r2,IsTup.new _ _⟩
end
end L2
namespace L2
open PySem PySem.Spec PyProof.Rows
def ixN (n:Nat) (i:Int):Option Nat:=if 0<=i then (if i<n then some i.toNat else none) else if -(n:Int)<=i then some (i+n).toNat else none
def vM {α:Type} (xs:List α) (i:Int):Option α:=(ixN xs.length i).bind fun j=>xs[j]?
theorem JZ {n:Nat} {i:Int} {j:Nat} (h:ixN n i=some j):seqIndex? i n=some j/\j<n /\ -(n:Int)<=i/\i<n:=by
 unfold ixN at h
 by_cases h0:0<=i
 ·rw [if_pos h0] at h
  by_cases h1:i<n
  ·rw [if_pos h1] at h
   have e:i.toNat=j:=Option.some.inj h
   exact ⟨by rw [seqIndex_of h0 h1,e],by omega,by omega,h1⟩
  ·rw [if_neg h1] at h; cases h
 ·rw [if_neg h0] at h
  by_cases h1 : -(n:Int)<=i
  ·rw [if_pos h1] at h
   have e:(i+n).toNat=j:=Option.some.inj h
   exact ⟨by rw [seqIndex_neg (by omega) h1,e],by omega,h1,by omega⟩
  ·rw [if_neg h1] at h; cases h
theorem Wt {α:Type} {xs:List α} {i:Int} {v:α} (h:vM xs i=some v):∃ j,seqIndex? i xs.length=some j/\xs[j]?=some v/\j<xs.length /\ -(xs.length:Int)<=i/\i<xs.length:=by
 unfold vM at h
 cases e:ixN xs.length i with
 | none=>rw [e] at h; cases h
 | some j=>
  rw [e] at h
  obtain ⟨h1,h2,h3,h4⟩:=JZ e
  exact ⟨j,h1,h,h2,h3,h4⟩
theorem MM {α:Type} {xs:List α} {j:Nat} {v:α} (h:xs[j]?=some v):vM xs (j:Int)=some v:=by
 have hj:j<xs.length:=(List.getElem?_eq_some_iff.mp h).1
 have e:ixN xs.length (j:Int)=some j:=by
  unfold ixN
  rw [if_pos (by omega),if_pos (by omega)]; simp
 unfold vM; rw [e]; exact h
def Tv (b:Expr):Prop:=∀ o i,subscripted b false o i=operate [o,i] (getItem o i)
def vo (X:Cx) (r:R2):Prop:=
 ∀ (value slice:Expr) (pins:List (Addr×Obj)) (s:Shared) (σ:St) (H:Hp) (x y:V) (v u:Value) (Q:VK),Inv X pins σ H s->zi x v->zi y u->r x y H Q->
  subscripted slice false v u=operate [v,u] (getItem v u)->wpAny (model X.prog X.w) X.A (subscriptTail value slice v u) (EP X pins σ Q) X.xe s
def pD (X:Cx) (id:String) (r:V->List V->Hp->VK->Prop):Prop:=
 ∀ (pins:List (Addr×Obj)) (s:Shared) (σ:St) (H:Hp) (x:V) (xs:List V) (v:Value) (us:List Value) (Q:VK),Inv X pins σ H s->zi x v->zY xs us->r x xs H Q->
  wpAny (model X.prog X.w) X.A (call (.builtin id) (v::us)) (EP X pins σ Q) X.xe s
section
variable {X:Cx} {a b:Expr} {ta tb:TE} {pos:Pos}
theorem vo.or {r r':R2} (h:vo X r) (h':vo X r'):vo X (fun x y H Q=>r x y H Q\/r' x y H Q):=by
 intro value slice pins s σ H x y v u Q I rx ry q hs
 rcases q with q | q
 ·exact h value slice pins s σ H x y v u Q I rx ry q hs
 ·exact h' value slice pins s σ H x y v u Q I rx ry q hs
theorem Xo {r:R2} (hr:vo X r) (ha:PE X a ta) (hb:PE X b tb) (hs:Tv b):PE X (.Subscript a b pos) (WK r ta tb):=by
 intro pins s σ H Q I h
 exact Subscript_ (Wz ha hb I h fun v u s2 x y H2 I2 rx ry q=>hr a b pins s2 σ H2 x y v u Q I2 rx ry q (hs _ _))
def Ob (K:PySem.W.Frag):R2:=fun x y H Q=>∃ p xs i v,x=.ref p/\y=.int i/\zw K H p xs/\vM xs i=some v/\Q v H
def Od (K:PySem.W.Frag):R2:=fun x y H Q=>∃ p xs i v,x=.ref p/\y=.int i/\ye K H p xs/\vM xs i=some v/\Q v H
def Oc:R2:=fun x y H Q=>∃ z i c,x=.str z/\y=.int i/\z.length<=sizeLine/\vM z.cps.toList i=some c/\Q (.str ⟨#[c]⟩) H
theorem Jb:vo X (Ob X.K):=by
 intro value slice pins s σ H x y v u Q I rx ry h hs
 obtain ⟨p,xs,i,z,rfl,rfl,hq,he,q⟩:=h
 cases rx
 obtain ⟨t,rfl⟩:=ry
 obtain ⟨its,r,pl,hz⟩:=I.list hq
 obtain ⟨j,h1,h2,h3,h4,h5⟩:=Wt he
 obtain ⟨w,ew,rw'⟩:=r.get h2
 have hl:=r.length
 have hn:=jh
 have fin:EP X pins σ Q w s:=⟨z,H,I,rw',q⟩
 by_cases h0:0<=i
 ·have hj:i.toNat=j:=by
   rw [seqIndex_of h0 h5] at h1
   exact Option.some.inj h1
  exact item_listR pl.isList h0 (by omega) (by rw [hj]; simpa using ew) fin hs
 ·have hj:(i+(its.toArray.size:Int)).toNat=j:=by
   rw [seqIndex_neg (by omega) h4] at h1
   rw [List.size_toArray,<- hl]
   exact Option.some.inj h1
  exact subscriptTail_builtinR (x:=w) pl.isList.typeIs slot_list_getitem.lookup
   (wpAny_getItem_list_neg (Q:=fun r s'=>r=w/\EP X pins σ Q r s') pl.isList (by omega) (by rw [List.size_toArray]<;>omega) (by omega) (by rw [hj]; simpa using ew) ⟨rfl,fin⟩) hs
theorem Dv:vo X (Od X.K):=by
 intro value slice pins s σ H x y v u Q I rx ry h hs
 obtain ⟨p,xs,i,z,rfl,rfl,hq,he,q⟩:=h
 cases rx
 obtain ⟨t,rfl⟩:=ry
 obtain ⟨its,r,pl,hz⟩:=I.tuple hq
 obtain ⟨j,h1,h2,h3,h4,h5⟩:=Wt he
 obtain ⟨w,ew,rw'⟩:=r.get h2
 have hl:=r.length
 have hn:=jh
 have fin:EP X pins σ Q w s:=⟨z,H,I,rw',q⟩
 exact subscriptTail_builtinR (x:=w) pl.typeIs slot_tuple_getitem.lookup
  (getItem_tuple (j:=j) (Q:=fun r s'=>r=w/\EP X pins σ Q r s') pl (by omega) (by omega) (by rw [List.size_toArray,<- hl]; exact h1) (by simpa using ew) ⟨rfl,fin⟩) hs
theorem Du:vo X Oc:=by
 intro value slice pins s σ H x y v u Q I rx ry h hs
 obtain ⟨z,i,c,rfl,rfl,hz,he,q⟩:=h
 obtain ⟨t,rfl⟩:=rx
 obtain ⟨t',rfl⟩:=ry
 obtain ⟨j,h1,h2,h3,h4,h5⟩:=Wt he
 have hl:z.cps.toList.length=z.length:=by simp [Str.length]
 rw [hl] at h1 h4 h5
 have hn:=jh
 exact tail_any (typeIs_str s z t) slot_str_getitem.lookup (getItem_str (c:=c) (by
  have e1:decide (i < -(2 ^ 63:Int))=false:=decide_eq_false (by omega)
  have e2:decide (i ≥ 2 ^ 63)=false:=decide_eq_false (by omega)
  rw [e1,e2,Bool.or_false]) (by rw [h1]; simpa using h2) ⟨.str ⟨#[c]⟩,H,I.tok _,⟨_,rfl⟩,q⟩) hs
def UV (K:PySem.W.Frag):R2:=fun x y H Q=>Ob K x y H Q\/Od K x y H Q\/Oc x y H Q
theorem Dt:vo X (UV X.K):=Jb.or (Dv.or Du)
theorem C0 (its:List Value) (n j:Nat) (u:Value):Obj.mapSeq (·.setIfInBounds j u) { cls:=.type "list",data:=.seq its.toArray n }={ cls:=.type "list",data:=.seq (its.set j u).toArray n }:=by
 simp [Obj.mapSeq]
theorem Inv.lst {pins:List (Addr×Obj)} {σ:St} {H:Hp} {s:Shared} {p:Addr} {xs:List V} (I:Inv X pins σ H s) (h:H p=some (.lst xs)) :
  ∃ (its:List Value) (n:Nat),zY xs its/\s.heap.get? p=some { cls:=.type "list",data:=.seq its.toArray n }/\xs.length<=sizeLine:=by
 obtain ⟨z,its,n,r,e⟩:=I.hok p _ h
 exact ⟨its,n,r,e,z⟩
theorem Inv.lstUpd {pins:List (Addr×Obj)} {σ:St} {H:Hp} {s:Shared} {p:Addr} {xs ys:List V} {its its':List Value} {n n':Nat} {f:Obj->Obj} (I:Inv X pins σ H s) (h:H p=some (.lst xs))
  (ho:s.heap.get? p=some { cls:=.type "list",data:=.seq its.toArray n }) (hf:f { cls:=.type "list",data:=.seq its.toArray n }={ cls:=.type "list",data:=.seq its'.toArray n' }) (r:zY ys its') (hz:ys.length<=sizeLine) (t:Nat) :
  Inv X pins σ (zX H p (.lst ys)) { s with heap:=s.heap.update p f,toks:=t }:=by
 have e:(s.heap.update p f).get? p=some { cls:=.type "list",data:=.seq its'.toArray n' }:=by
  rw [Heap.get?_update_self f ho (by rw [hf]<;>rfl),hf]
 refine I.write (x:=p) (e:=p) (by rw [h]; trivial) (.inl rfl) (fun b u hb q=>(Heap.get?_update_other _ _ (Ne.symm hb)).trans q) ⟨_,e⟩ ?_
 exact ⟨hz,its',n',r,e⟩
def Hb:V->V->V->Hp->(Hp->Prop)->Prop:=fun o i v H Q=>∃ p xs k j,o=.ref p/\i=.int k/\H p=some (.lst xs)/\ixN xs.length k=some j/\Q (zX H p (.lst (xs.set j v)))
theorem NG:Wn X Hb:=by
 intro pins s σ H o i v ov iv u Q I ro ri rv h
 obtain ⟨p,xs,k,j,rfl,rfl,hp,hj,q⟩:=h
 cases ro
 obtain ⟨t,rfl⟩:=ri
 obtain ⟨its,n,r,ho,hz⟩:=I.lst hp
 obtain ⟨h1,h2,h3,h4⟩:=JZ hj
 have hl:=r.length
 have hn:=jh
 have I':Inv X pins σ (zX H p (.lst (xs.set j v))) { s with heap:=s.heap.update p (Obj.mapSeq (·.setIfInBounds j u)) }:=
  I.lstUpd hp ho (C0 its n j u) (r.set rv j) (by rw [List.length_set]; exact hz) s.toks
 by_cases h0:0<=k
 ·have hk:k.toNat=j:=by
   rw [seqIndex_of h0 h4] at h1
   exact Option.some.inj h1
  exact PySem.W.ki_setAt ho h0 (by omega) (by rw [List.size_toArray,<- hl]; exact h4) (by rw [hk]; exact ⟨_,I',q⟩)
 ·have hk:(k+(its.toArray.size:Int)).toNat=j:=by
   rw [seqIndex_neg (by omega) h3] at h1
   rw [List.size_toArray,<- hl]
   exact Option.some.inj h1
  exact PySem.W.ki_setBack ho (by omega) (by rw [List.size_toArray,<- hl]; exact h3) (by omega) (by rw [hk]; exact ⟨_,I',q⟩)
theorem Ng (lo hi:Option Int) (n:Nat):(sliceBounds lo hi none n).1=((HT.sIx n 0 lo:Nat):Int)/\(sliceBounds lo hi none n).2.1=((HT.sIx n n hi:Nat):Int)/\(sliceBounds lo hi none n).2.2=1:=by
 refine ⟨?_,?_,rfl⟩
 ·cases lo with
  | none=>simp [sliceBounds,HT.sIx]
  | some i=>
   simp only [sliceBounds,HT.sIx,Option.getD_none,show (1:Int) > 0 by decide,if_true]
   by_cases h:i<0
   ·simp only [h,if_true]<;>omega
   ·simp only [h,if_false]<;>omega
 ·cases hi with
  | none=>simp [sliceBounds,HT.sIx]
  | some i=>
   simp only [sliceBounds,HT.sIx,Option.getD_none,show (1:Int) > 0 by decide,if_true]
   by_cases h:i<0
   ·simp only [h,if_true]<;>omega
   ·simp only [h,if_false]<;>omega
theorem Nf (its:List Value) (lo hi:Option Int):slicePick its.toArray lo hi none=((its.drop (HT.sIx its.length 0 lo)).take (HT.sIx its.length its.length hi - HT.sIx its.length 0 lo)).toArray:=by
 obtain ⟨h1,h2,h3⟩:=Ng lo hi its.toArray.size
 unfold slicePick
 rw [h1,h2,h3]
 simp only [sliceRange_one,pick_run,List.size_toArray]<;>rfl
def Of (K:PySem.W.Frag):V->Option Int->Option Int->Hp->VK->Prop:=fun x lo hi H Q=>∃ a xs,x=.ref a/\zw K H a xs/\∀ p,H p=none->Q (.ref p) (zX H p (.lst (qT xs lo hi)))
theorem Na:tT X (Of X.K):=by
 intro pins s σ H x v vl vu lo hi sl Q I rx hs pl pu h
 obtain ⟨a,xs,rfl,hx,q⟩:=h
 cases rx
 obtain ⟨its,r,ht,hz⟩:=I.list hx
 have hlen:=r.length
 refine ⟨"list",_,slot_list_getitem.lookup,ht.isList.typeIs,?_⟩
 refine wpAny_getItem_list_slice ht.isList hs pl pu .none (by simp) ?_ (by rw [List.size_toArray]<;>omega)
 rw [Nf,<- hlen]
 refine ⟨.ref s.heap.objs.size,_,I.laid (t':=s.toks) (o:=.lst (qT xs lo hi)) (fun b ob q=>Heap.get?_push_of_some _ q) (Nat.le_refl _) ?_,rfl,q _ (I.hok.fresh (Nat.le_refl _))⟩
 exact ⟨Nat.le_trans (Qj xs lo hi) hz,_,0,(r.drop (HT.sIx xs.length 0 lo)).take (HT.sIx xs.length xs.length hi - HT.sIx xs.length 0 lo),Heap.get?_push_size _ rfl⟩
def vv:V->Bool
 | .non=>true
 | .bl _=>true
 | .int _=>true
 | .str _=>true
 | _=>false
def vO:V->V->Bool
 | .non,.non=>true
 | .bl a,.bl b=>a == b
 | .bl a,.int b=>(if a then 1 else 0) == b
 | .int a,.bl b=>a == (if b then 1 else 0)
 | .int a,.int b=>a == b
 | .str a,.str b=>a == b
 | _,_=>false
theorem Qz {A:Around} {s:Shared} {y x:V} {u v:Value} (ry:zi y u) (rx:zi x v) (fy:vv y=true) (fx:vv x=true):SeqAt.EqAt A s u v (vO y x):=by
 cases y with
 | non=>
  cases ry
  cases x with
  | non=>cases rx; exact SeqAt.EqAt.same _
  | bl b=>cases rx; exact SeqAt.EqAt.none_bool b
  | int b=>obtain ⟨t,rfl⟩:=rx; exact SeqAt.EqAt.none_int b t
  | str b=>obtain ⟨t,rfl⟩:=rx; exact SeqAt.EqAt.none_str b t
  | _=>exact absurd (show false=true from fx) Bool.false_ne_true
 | bl a=>
  cases ry
  cases x with
  | non=>cases rx; exact SeqAt.EqAt.bool_none a
  | bl b=>cases rx; exact SeqAt.EqAt.bool_bool a b
  | int b=>obtain ⟨t,rfl⟩:=rx; exact SeqAt.EqAt.bool_int a b t
  | str b=>obtain ⟨t,rfl⟩:=rx; exact SeqAt.EqAt.bool_str a b t
  | _=>exact absurd (show false=true from fx) Bool.false_ne_true
 | int a=>
  obtain ⟨t',rfl⟩:=ry
  cases x with
  | non=>cases rx; exact SeqAt.EqAt.int_none a t'
  | bl b=>cases rx; exact SeqAt.EqAt.int_bool a t' b
  | int b=>obtain ⟨t,rfl⟩:=rx; exact SeqAt.EqAt.int_int a t' b t
  | str b=>obtain ⟨t,rfl⟩:=rx; exact SeqAt.EqAt.int_str a t' b t
  | _=>exact absurd (show false=true from fx) Bool.false_ne_true
 | str a=>
  obtain ⟨t',rfl⟩:=ry
  cases x with
  | non=>cases rx; exact SeqAt.EqAt.str_none a t'
  | bl b=>cases rx; exact SeqAt.EqAt.str_bool a t' b
  | int b=>obtain ⟨t,rfl⟩:=rx; exact SeqAt.EqAt.str_int a t' b t
  | str b=>obtain ⟨t,rfl⟩:=rx; exact SeqAt.EqAt.str_str a t' b t
  | _=>exact absurd (show false=true from fx) Bool.false_ne_true
 | _=>exact absurd (show false=true from fy) Bool.false_ne_true
def wp (x:V) (u:Value):Bool:=match u with
 | .none=>vO .non x
 | .bool b=>vO (.bl b) x
 | .int i _=>vO (.int i) x
 | .str z _=>vO (.str z) x
 | _=>false
theorem VC {x y:V} {u:Value} (r:zi y u) (f:vv y=true):wp x u=vO y x:=by
 cases y with
 | non=>cases r; rfl
 | bl b=>cases r; rfl
 | int i=>obtain ⟨t,rfl⟩:=r; rfl
 | str z=>obtain ⟨t,rfl⟩:=r; rfl
 | _=>exact absurd (show false=true from f) Bool.false_ne_true
theorem gg {x:V}:∀ {xs:List V} {us:List Value},zY xs us->xs.all vv=true->us.any (wp x)=xs.any fun y=>vO y x
 | _,_,.nil,_=>rfl
 | y::xs,u::us,.cons r t,f=>by
  rw [List.all_cons,Bool.and_eq_true] at f
  rw [List.any_cons,List.any_cons,VC r f.1,gg t f.2]
theorem jk {A:Around} {s:Shared} {x:V} {v:Value} (rx:zi x v) (fx:vv x=true):∀ {xs:List V} {us:List Value},zY xs us->xs.all vv=true->∀ u∈us,SeqAt.EqAt A s u v (wp x u)
 | _,_,.nil,_=>fun u hu=>by cases hu
 | y::xs,u::us,.cons r t,f=>fun u' hu=>by
  rw [List.all_cons,Bool.and_eq_true] at f
  rcases List.mem_cons.mp hu with rfl | hu
  ·rw [VC r f.1]; exact Qz r rx f.1 fx
  ·exact jk rx fx t f.2 u' hu
def XJ (x:V) (xs:List V):Bool:=xs.any fun y=>vO y x
def US (K:PySem.W.Frag) (neg:Bool):R2:=fun x y H Q=>∃ p xs,y=.ref p/\(zw K H p xs\/ye K H p xs)/\vv x=true/\xs.all vv=true/\Q (.bl (if neg then !XJ x xs else XJ x xs)) H
theorem Ed:yE X (compareOp .In) (US X.K false):=by
 intro pins s σ H x y v u Q I rx ry h
 obtain ⟨p,xs,rfl,hq,fx,fs,q⟩:=h
 cases ry
 rcases hq with hq | hq
 ·obtain ⟨its,r,pl,hz⟩:=I.list hq
  refine SeqAt.in_listAt (wp x) pl.isList (fun w hw=>jk rx fx r fs w (by simpa using hw)) ⟨.bl _,H,I,rfl,?_⟩
  rw [show its.toArray.any (wp x)=its.any (wp x) by simp,gg r fs]
  exact q
 ·obtain ⟨its,r,pl,hz⟩:=I.tuple hq
  refine SeqAt.in_tupleAt (wp x) pl (fun w hw=>jk rx fx r fs w (by simpa using hw)) ⟨.bl _,H,I,rfl,?_⟩
  rw [show its.toArray.any (wp x)=its.any (wp x) by simp,gg r fs]
  exact q
theorem El:yE X (compareOp .NotIn) (US X.K true):=by
 intro pins s σ H x y v u Q I rx ry h
 obtain ⟨p,xs,rfl,hq,fx,fs,q⟩:=h
 cases ry
 rcases hq with hq | hq
 ·obtain ⟨its,r,pl,hz⟩:=I.list hq
  refine SeqAt.notIn_listAt (wp x) pl.isList (fun w hw=>jk rx fx r fs w (by simpa using hw)) ⟨.bl _,H,I,rfl,?_⟩
  rw [show its.toArray.any (wp x)=its.any (wp x) by simp,gg r fs]
  exact q
 ·obtain ⟨its,r,pl,hz⟩:=I.tuple hq
  refine SeqAt.notIn_tupleAt (wp x) pl (fun w hw=>jk rx fx r fs w (by simpa using hw)) ⟨.bl _,H,I,rfl,?_⟩
  rw [show its.toArray.any (wp x)=its.any (wp x) by simp,gg r fs]
  exact q
theorem Em:yE X (compareOp .NotIn) (fun x y H Q=>∃ i j,x=.str i/\y=.str j/\Q (.bl (!(!(Builtin.Str.occurrences j i 0 j.length 1).isEmpty))) H):=by
 intro pins s σ H x y v u Q I rx ry h
 obtain ⟨i,j,rfl,rfl,q⟩:=h
 obtain ⟨t,rfl⟩:=rx
 obtain ⟨t',rfl⟩:=ry
 exact notIn_str ⟨.bl _,H,I,rfl,q⟩
theorem Mi:xr X (.builtin "len") (fun xs H Q=>∃ p ys,xs=[.ref p]/\(zw X.K H p ys\/ye X.K H p ys)/\Q (.int ys.length) H):=by
 intro pins s σ H xs us Q I r h
 obtain ⟨p,ys,rfl,hq,q⟩:=h
 obtain ⟨u,rfl,rx⟩:=vU r
 cases rx
 have hn:=jh
 rcases hq with hq | hq
 ·obtain ⟨its,r',pl,hz⟩:=I.list hq
  have hlen:=r'.length
  exact Calls.call_len_list pl.isList (by simp only [List.size_toArray]<;>omega) ⟨.int ys.length,H,I.tok _,⟨s.toks+1,by rw [List.size_toArray,hlen]⟩,q⟩
 ·obtain ⟨its,r',pl,hz⟩:=I.tuple hq
  have hlen:=r'.length
  exact len_tuple pl (by simp only [List.size_toArray]<;>omega) ⟨.int ys.length,H,I.tok _,⟨s.toks+1,by rw [List.size_toArray,hlen]⟩,q⟩
theorem Mj:xr X (.builtin "len") (fun xs H Q=>∃ z,xs=[.str z]/\z.length<=sizeLine/\Q (.int z.length) H):=by
 intro pins s σ H xs us Q I r h
 obtain ⟨z,rfl,hz,q⟩:=h
 obtain ⟨u,rfl,t,rfl⟩:=vU r
 have hn:=jh
 exact len_str (by omega) ⟨.int z.length,H,I.tok _,⟨_,rfl⟩,q⟩
theorem xr.or {f:Value} {r r':List V->Hp->VK->Prop} (h:xr X f r) (h':xr X f r'):xr X f (fun xs H Q=>r xs H Q\/r' xs H Q):=by
 intro pins s σ H xs us Q I rs q
 rcases q with q | q
 ·exact h pins s σ H xs us Q I rs q
 ·exact h' pins s σ H xs us Q I rs q
theorem Ml:xr X (.type "list") (fun xs H Q=>∃ p ys,xs=[.ref p]/\(zw X.K H p ys\/ye X.K H p ys)/\∀ l,H l=none->Q (.ref l) (zX H l (.lst ys))):=by
 intro pins s σ H xs us Q I r h
 obtain ⟨p,ys,rfl,hq,q⟩:=h
 obtain ⟨u,rfl,rx⟩:=vU r
 cases rx
 have fin:∀ (its:List Value),zY ys its->ys.length<=sizeLine->∀ (h':Heap) (c':Nat),(∀ b o',s.heap.get? b=some o'->h'.get? b=some o')->
   h'.get? s.heap.objs.size=some { cls:=.type "list",dict:=none,data:=.seq its.toArray c',slots:=#[] }->EP X pins σ Q (.ref s.heap.objs.size) { s with heap:=h' }:=fun its r' hz h' c' kp e=>
  ⟨.ref s.heap.objs.size,_,I.laid (t':=s.toks) kp (Nat.le_refl _) (show yo X.prog X.w _ h' _ (.lst ys) from ⟨hz,its,c',r',e⟩),rfl,q _ (I.hok.fresh (Nat.le_refl _))⟩
 rcases hq with hq | hq
 ·obtain ⟨its,r',pl,hz⟩:=I.list hq
  have hlen:=r'.length
  obtain ⟨o,ho,hc,n,hd⟩:=pl.isList
  exact call_list_seq p (.inl rfl) ho hc hd (fun h' c' kp e=>fin its r' hz h' c' kp e) (by simp only [List.size_toArray]<;>omega)
 ·obtain ⟨its,r',pl,hz⟩:=I.tuple hq
  have hlen:=r'.length
  obtain ⟨o,ho,hc,n,hd⟩:=pl
  exact call_list_seq p (.inr rfl) ho hc hd (fun h' c' kp e=>fin its r' hz h' c' kp e) (by simp only [List.size_toArray]<;>omega)
def TC (K:PySem.W.Frag) (T:String) (x:V) (H:Hp):Prop:=match x with
 | .str _=>T = "str"
 | .int _=>T = "int"
 | .ref p=>(T = "list" /\ ∃ xs,zw K H p xs)\/(T = "tuple" /\ ∃ o,K.lookup p=some o/\o.cls=.type "tuple" /\ o.dict=none) \/
   (T = "dict" /\ ((∃ kvs,H p=some (.dK kvs))\/∃ kvs,H p=some (.dT kvs)))\/(T = "set" /\ ∃ S n,H p=some (.set S n))
 | _=>False
theorem Li {pins:List (Addr×Obj)} {σ:St} {H:Hp} {s:Shared} {T:String} {x:V} {v:Value} (I:Inv X pins σ H s) (r:zi x v) (ty:TC X.K T x H) :
  s.TypeIs v T/\∀ a,v=.ref a->∃ ob,s.heap.get? a=some ob/\ob.dict=none:=by
 cases x with
 | str z=>
  obtain ⟨t,rfl⟩:=r
  cases (show T = "str" from ty)
  exact ⟨typeIs_str s z t,fun _ e=>nomatch e⟩
 | int i=>
  obtain ⟨t,rfl⟩:=r
  cases (show T = "int" from ty)
  exact ⟨typeIs_int s i t,fun _ e=>nomatch e⟩
 | ref p=>
  cases r
  rcases ty with ⟨rfl,xs,hq⟩ | ⟨rfl,o,hk,hc,hd⟩ | ⟨rfl,hk⟩ | ⟨rfl,S,n,hk⟩
  ·obtain ⟨its,_,pl,_⟩:=I.list hq
   refine ⟨pl.isList.typeIs,fun a e=>?_⟩
   cases e
   obtain ⟨o,n,e,c,hd,_⟩:=pl
   exact ⟨o,e,hd⟩
  ·refine ⟨⟨o,I.kIn p o hk,hc⟩,fun a e=>?_⟩
   cases e
   exact ⟨o,I.kIn _ o hk,hd⟩
  ·have z:∃ o,s.heap.get? p=some o/\o.ExactDict:=by
    rcases hk with ⟨kvs,hk⟩ | ⟨kvs,hk⟩
    ·obtain ⟨_,_,_,_,o,_,_,e,ex,_⟩:=I.hok p _ hk
     exact ⟨o,e,ex⟩
    ·obtain ⟨_,_,_,_,o,_,_,e,ex,_⟩:=I.hok p _ hk
     exact ⟨o,e,ex⟩
   obtain ⟨o,e,ex⟩:=z
   refine ⟨⟨o,e,ex.1⟩,fun a e2=>?_⟩
   cases e2
   exact ⟨o,e,ex.2.1⟩
  ·obtain ⟨o,_,_,_,e,ex,_⟩:=I.hok p _ hk
   refine ⟨⟨o,e,ex.1⟩,fun a e2=>?_⟩
   cases e2
   exact ⟨o,e,ex.2.1⟩
 | _=>exact False.elim ty
def La (K:PySem.W.Frag) (T:String) (r:V->List V->Hp->VK->Prop) (to:TE):TE:=fun σ H Q=>to σ H fun x H1=>TC K T x H1/\r x [] H1 Q
def LZ (K:PySem.W.Frag) (T:String) (r:V->List V->Hp->VK->Prop) (to:TE) (t:TA):TE:=fun σ H Q=>to σ H fun x H1=>TC K T x H1/\t σ H1 fun xs H2=>r x xs H2 Q
variable {o e:Expr} {es:List Expr} {to:TE} {t:TA} {name:Str} {apos cpos:Pos} {T id:String} {r:V->List V->Hp->VK->Prop}
theorem G4 (pa:PlainAttrs T) (slot:Slot T name id) (hty:typeOf (.builtin id)=pure (.type "method_descriptor")) (hm:pD X id r) (ho:PE X o to)
  (hbase:attributeBase o name X.env (eval o X.env)=eval o X.env:=by rfl) (hline:(apos.endLine == cpos.line)=true:=by rfl):PE X (.Call (.Attribute o name apos) [] [] cpos) (La X.K T r to):=by
 intro pins s σ H Q I h
 refine wpAny_Call_method0_late hbase hline (zk (ho pins s σ H _ I h) fun v s1 ⟨x,H1,I1,r1,ty,q1⟩=>?_)
 obtain ⟨h1,h2⟩:=Li I1 r1 ty
 exact ⟨T,id,pa,slot,hty,h1,h2,Calls.callWith_builtin rfl (PySem.evalArgs_none (hm pins s1 σ H1 x [] v [] Q I1 r1 .nil q1))⟩
theorem E_ (pa:PlainAttrs T) (slot:Slot T name id) (hty:typeOf (.builtin id)=pure (.type "method_descriptor")) (hm:pD X id r) (ho:PE X o to) (ha:PA X (e::es) t)
  (hbase:attributeBase o name X.env (eval o X.env)=eval o X.env:=by rfl)
  (hfew:((backTo cpos (starEach (e::es) X.env)).all (fun x=>!x.1)&&(backToKw cpos (keywordEach [] X.env)).all (fun x=>x.1.isSome)
   && decide ((e::es).length+([]:List Keyword).length+(if ([]:List Keyword).isEmpty then 0 else 1)<30))=true:=by rfl)
  (hline:(apos.endLine == cpos.line)=true:=by rfl) (hs:starEach (e::es) X.env=(false,eval e X.env)::starEach es X.env:=by rfl) (hplain:(backTo cpos (starEach es X.env)).any (·.1)=false:=by rfl) :
  PE X (.Call (.Attribute o name apos) (e::es) [] cpos) (LZ X.K T r to t):=by
 intro pins s σ H Q I h
 refine wpAny_Call_method_late hbase hfew hline rfl (zk (ho pins s σ H _ I h) fun v s1 ⟨x,H1,I1,r1,ty,q1⟩=>?_)
 obtain ⟨h1,h2⟩:=Li I1 r1 ty
 refine ⟨T,id,pa,slot,hty,h1,h2,?_⟩
 have hA:=ha cpos pins s1 σ H1 _ I1 q1
 rw [hs] at hA ⊢
 refine Calls.callWith_builtin (by show (false||(backTo cpos (starEach es X.env)).any (·.1))=false; rw [hplain]<;>rfl) (Calls.evalArgs_plain ?_)
 exact zk hA fun us s2 ⟨vs,H2,I2,r2,q2⟩=>hm pins s2 σ H2 x vs v us Q I2 r1 r2 q2
end
end L2
namespace L2
open PySem PySem.Spec PyProof.Rows
def YK (X:Cx) (id:String) (r:V->List V->Hp->VK->Prop):Prop:=
 ∀ (pins:List (Addr×Obj)) (s:Shared) (σ:St) (H:Hp) (x:V) (xs:List V) (v:Value) (us:List Value) (Q:VK),Inv X pins σ H s->zi x v->zY xs us->r x xs H Q->
  wpAny (model X.prog X.w) X.A (call (.builtin id) (v::us)) (EP X pins σ Q) X.xe s
theorem zY.one:∀ {x:V} {us:List Value},zY [x] us->∃ u,us=[u]/\zi x u
 | _,_,.cons r .nil=>⟨_,rfl,r⟩
theorem zY.zero:∀ {us:List Value},zY [] us->us=[]
 | _,.nil=>rfl
theorem zY.dropLast {xs:List V} {us:List Value} (h:zY xs us):zY xs.dropLast us.dropLast:=by
 induction h with
 | nil=>exact .nil
 | cons r t ih=>
  cases t with
  | nil=>exact .nil
  | cons q t'=>exact .cons r ih
theorem zY.rep {xs:List V} {us:List Value} (h:zY xs us):∀ k:Nat,zY (List.replicate k xs).flatten (List.replicate k us).flatten
 | 0=>.nil
 | k+1=>by
  rw [List.replicate_succ,List.replicate_succ,List.flatten_cons,List.flatten_cons]
  exact zY.append h (zY.rep h k)
theorem BP {α:Type} (l:List α):l.eraseIdx (l.length - 1)=l.dropLast:=by
 induction l with
 | nil=>rfl
 | cons a r ih=>
  cases r with
  | nil=>rfl
  | cons b r=>
   have e:(a::b::r).length - 1=((b::r).length - 1)+1:=by
    have h1:(a::b::r).length=r.length+2:=rfl
    have h2:(b::r).length=r.length+1:=rfl
    omega
   rw [e,List.eraseIdx_cons_succ,ih]
   all_goals rfl
theorem J5 (its:List Value):∀ (k:Nat) (acc:List Value),
  List.foldl (fun x1 x2=>x1++x2) acc.toArray (List.replicate k its.toArray)=(acc++(List.replicate k its).flatten).toArray
 | 0,acc=>by simp
 | k+1,acc=>by
  have e:acc.toArray++its.toArray=(acc++its).toArray:=by simp
  have e2:(acc++its)++(List.replicate k its).flatten=acc++(List.replicate (k+1) its).flatten:=by
   rw [List.replicate_succ,List.flatten_cons,List.append_assoc]
  rw [<- e2,<- J5 its k (acc++its),<- e,List.replicate_succ,List.foldl_cons]
section
variable {X:Cx} {pins:List (Addr×Obj)} {σ:St} {H:Hp} {s:Shared} {l b:Addr} {xs ys zs:List V}
theorem Inv.lset {its its':List Value} {n:Nat} {f:Array Value->Array Value} {t':Nat} (I:Inv X pins σ H s) (hH:H l=some (.lst xs))
  (e:s.heap.get? l=some { cls:=.type "list",data:=.seq its.toArray n }) (hf:f its.toArray=its'.toArray) (hv:zY ys its') (hz:ys.length<=sizeLine) :
  Inv X pins σ (zX H l (.lst ys)) { s with heap:=s.heap.update l (Obj.mapSeq f),toks:=t' }:=by
 have q:=PySem.IsL.update e f
 rw [hf] at q
 refine I.write (x:=l) (e:=l) (by rw [hH]; exact trivial) (.inl rfl) (fun b' u hb hu=>(Heap.get?_update_other s.heap (Obj.mapSeq f) (Ne.symm hb)).trans hu) ⟨_,q⟩ ?_
 exact ⟨hz,its',_,hv,q⟩
theorem Inv.lnew {its:List Value} {t':Nat} (I:Inv X pins σ H s) (hv:zY ys its) (hz:ys.length<=sizeLine) :
  Inv X pins σ (zX H s.heap.objs.size (.lst ys)) { s with heap:=s.heap.push { cls:=.type "list",data:=.seq its.toArray },toks:=t' }:=
 I.laid (fun _ _ q=>Heap.get?_push_of_some _ q) (Nat.le_refl _) ⟨hz,its,0,hv,Heap.get?_push_size _ rfl⟩
theorem Inv.fresh (I:Inv X pins σ H s):H s.heap.objs.size=none:=I.hok.fresh (Nat.le_refl _)
theorem Inv.lstM (I:Inv X pins σ H s) (hH:H l=some (.lst xs)):xs.length<=sizeLine/\∃ (its:List Value) (n:Nat),zY xs its/\xs.length=its.length/\s.heap.get? l=some { cls:=.type "list",data:=.seq its.toArray n }:=by
 obtain ⟨z,its,n,r,e⟩:=I.hok l _ hH
 exact ⟨z,its,n,r,r.length,e⟩
theorem Id {n:Nat} (h:n<=sizeLine):Builtin.List.listTooLong n=false:=by
 unfold Builtin.List.listTooLong
 exact decide_eq_false (by omega)
end
section
variable {X:Cx}
def HK:V->List V->Hp->VK->Prop:=fun x vs H Q=>∃ l xs y,x=.ref l/\vs=[y]/\H l=some (.lst xs)/\xs.length<sizeLine/\Q .non (zX H l (.lst (xs++[y])))
theorem IO:YK X "list.append" HK:=by
 intro pins s σ H x vs v us Q I rx rv h
 obtain ⟨l,xs,y,rfl,rfl,hH,hz,q⟩:=h
 cases rx
 obtain ⟨u,rfl,ru⟩:=rv.one
 obtain ⟨z,its,n,r,hl,e⟩:=I.lstM hH
 refine call_meets F.slot_list_append ⟨_,e,rfl⟩ F.entry_list_append (F.args_list_append_2 _ _) (PySem.list_append l its.toArray n u (by rw [List.size_toArray]; omega)) ⟨e,?_⟩
 refine ⟨.non,_,I.lset (its':=its++[u]) hH e (by simp) (r.append (.cons ru .nil)) ?_,rfl,q⟩
 rw [List.length_append,List.length_singleton]
 omega
def HW:V->List V->Hp->VK->Prop:=fun x vs H Q=>∃ l xs y,x=.ref l/\vs=[]/\H l=some (.lst xs)/\xs[xs.length - 1]?=some y/\Q y (zX H l (.lst xs.dropLast))
theorem C8:YK X "list.pop" HW:=by
 intro pins s σ H x vs v us Q I rx rv h
 obtain ⟨l,xs,y,rfl,rfl,hH,hy,q⟩:=h
 cases rx
 have hus:=rv.zero
 subst hus
 obtain ⟨z,its,n,r,hl,e⟩:=I.lstM hH
 obtain ⟨u,hu,ru⟩:=r.get hy
 have hy':its.toArray[its.toArray.size - 1]?=some u:=by
  show its.toArray[its.length - 1]?=some u
  rw [<- Array.getElem?_toList,<- hl]
  exact hu
 refine call_meets F.slot_list_pop ⟨_,e,rfl⟩ F.entry_list_pop (F.args_list_pop_1 _) (MeetsSeq.list_pop_last l its.toArray n u hy' (by rw [List.size_toArray]; omega)) ⟨e,?_⟩
 refine ⟨y,_,I.lset (its':=its.dropLast) hH e ?_ r.dropLast ?_,ru,q⟩
 ·show its.toArray.eraseIdxIfInBounds (its.toArray.size - 1)=its.dropLast.toArray
  rw [List.size_toArray,List.eraseIdxIfInBounds_toArray,BP]
 ·rw [List.length_dropLast]
  omega
def HL:V->List V->Hp->VK->Prop:=fun x vs H Q=>∃ l xs,x=.ref l/\vs=[]/\H l=some (.lst xs)/\Q .non (zX H l (.lst []))
theorem C5:YK X "list.clear" HL:=by
 intro pins s σ H x vs v us Q I rx rv h
 obtain ⟨l,xs,rfl,rfl,hH,q⟩:=h
 cases rx
 have hus:=rv.zero
 subst hus
 obtain ⟨z,its,n,r,hl,e⟩:=I.lstM hH
 refine call_meets F.slot_list_clear ⟨_,e,rfl⟩ F.entry_list_clear (F.args_list_clear_1 _) (AutoSeq1.list_clear_list_0 l its.toArray n (by rw [List.size_toArray]; omega)) ⟨e,?_⟩
 exact ⟨.non,_,I.lset (its':=[]) (ys:=[]) hH e rfl .nil (Nat.zero_le _),rfl,q⟩
def HY:R2:=fun x y H Q=>∃ l k xs,x=.ref l/\y=.int k/\H l=some (.lst xs) /\ -(2 ^ 63)<=k/\k<2 ^ 63/\xs.length*k.toNat<=sizeLine/\
 ∀ p,H p=none->Q (.ref p) (zX H p (.lst (List.replicate k.toNat xs).flatten))
theorem IH {α:Type} (xs:List α) (k:Nat):(List.replicate k xs).flatten.length=k*xs.length:=by
 induction k with
 | zero=>simp
 | succ k ih=>rw [List.replicate_succ,List.flatten_cons,List.length_append,ih,Nat.succ_mul,Nat.add_comm]
theorem Eo:yE X (binaryOp .Mult) HY:=by
 intro pins s σ H x y v u Q I rx ry h
 obtain ⟨l,k,xs,rfl,rfl,hH,h1,h2,hz,q⟩:=h
 cases rx
 obtain ⟨t,rfl⟩:=ry
 obtain ⟨z,its,n,r,hl,e⟩:=I.lstM hH
 have hlen:its.toArray.size*k.toNat<=sizeLine:=by rw [List.size_toArray,<- hl]; exact hz
 have hcap:¬ its.toArray.size*k.toNat > (2 ^ 63 - 1) / 8:=by
  have:(sizeLine:Nat)<=(2 ^ 63 - 1) / 8:=by decide
  omega
 have hfit:¬ (!Builtin.List.listFitsIndex k)=true:=by
  rw [fitsIndex_both h1 h2]
  exact Bool.false_ne_true
 have hlong:¬ Builtin.List.listTooLong (its.toArray.size*k.toNat)=true:=by
  rw [Id hlen]
  exact Bool.false_ne_true
 have hnew:List.foldl (fun x1 x2=>x1++x2) #[] (List.replicate (if its.toArray.isEmpty=true then 0 else k.toNat) its.toArray)=(List.replicate k.toNat its).flatten.toArray:=by
  have f0:∀ m:Nat,List.foldl (fun x1 x2=>x1++x2) #[] (List.replicate m its.toArray)=(List.replicate m its).flatten.toArray:=fun m=>by
   have:=J5 its m []
   rw [List.nil_append] at this
   exact this
  rw [f0]
  cases its with
  | nil=>simp
  | cons a r'=>rw [if_neg (by simp)]
 refine wpAny_binaryOp_repeat_ref (T := "list") (U := "int") (by decide) ⟨_,e,rfl⟩ (fun s'=>typeIs_int s' k t) noFill_list_mul F.fills_int_mul F.slot_int_rmul repeat_list F.slot_int_index.lookup
  (call_meets F.slot_int_rmul (typeIs_int s k t) F.entry_int_rmul (F.args_int_rmul_2 _ _) (int___rmul___int_list k t l its.toArray n)
   ⟨e,rfl,⟨_,e,rfl⟩,call_meets F.slot_list_mul ⟨_,e,rfl⟩ F.entry_list_mul (F.args_list_mul_2 _ _) (AutoListH.list___mul___list_int_3 l its.toArray n k t hfit hcap hlong) ⟨e,?_⟩⟩)
 rw [hnew]
 exact ⟨.ref _,_,I.lnew (t':=s.toks) (r.rep k.toNat) (by rw [IH,Nat.mul_comm]; exact hz),rfl,q _ I.fresh⟩
end
section
variable {prog:Program} {w:World} {A:Around} {E:Value->Shared->Prop} {s:Shared}
end
section
variable {X:Cx}
end
end L2
namespace Att
open PySem PySem.W PySem.Calls PyProof.Rows
theorem Dg {P:Params} {h:Heap}:∀ (ns:List Int) (vs:List Value),WellAll P h vs (ns.map WData.int)->IntsAre vs ns:=by
 intro ns
 induction ns with
 | nil=>
  intro vs w
  rw [List.map_nil] at w
  cases w
  exact .nil
 | cons n ns ih=>
  intro vs w
  rw [List.map_cons] at w
  cases w with
  | cons a b=>
   cases a
   exact .cons _ _ (ih _ b)
theorem script_of {l:OpenLaw} {n:Nat} (hn:l.most=some n) {P:Params} {h:Heap} {args:List WData} {vals:List Value}
  (hpre:l.row.toRowW.claim.pre args=true) (hwl:WellAll P h vals args) :
  ∃ a vs ns,vals=[Value.ref a]/\args=[WData.list (ns.map WData.int)]/\h.get? a=some { cls:=.type "list",data:=.seq vs.toArray }/\IntsAre vs ns/\ns.length<=n:=by
 have hsh:WShape.hasAll [] args [.list .int]=true:=(pre_splitW hpre).1
 have hc:l.pre.holds [] { args:=args }=true:=(pre_splitW hpre).2
 obtain ⟨d,r,rfl,h1,h2⟩:=hasAllW_cons hsh
 obtain rfl:=hasAllW_nil h2
 obtain ⟨xs,rfl,h3⟩:=hasW_list h1
 obtain ⟨ns,rfl⟩:=items_int h3
 have hlen:ns.length<=n:=by
  unfold OpenLaw.pre at hc
  have h4:(WTm.not (.lt (.lit (.int (n:Int))) (.len (.arg 0)))).holds [] { args:=[.list (ns.map .int)] }=true:=by
   have h4:=(holds_andW hc).1
   rw [hn] at h4
   exact h4
  have h5:=condW_of h4 (w_not (w_lt w_lit (w_len_list (w_arg rfl))))
  rw [List.length_map] at h5
  refine Nat.le_of_not_lt fun q=>?_
  have q':(n:Int)<((ns.length:Nat):Int):=by omega
  first
   | (rw [decide_eq_true q'] at h5; exact absurd h5 (by decide))
   | (simp at h5; omega)
 cases hwl with
 | cons w1 w2=>
  cases w2
  cases w1 with
  | list ho hall=>exact ⟨_,_,ns,rfl,rfl,ho,Dg ns _ hall,hlen⟩
theorem post_true (l:OpenLaw) (args:List WData):l.row.toRowW.claim.post args (.bool true) args=true:=
 postW_of (r:=l.row.toRowW) (X:=(true == true))
  (show WShape.has [] (.bool true) .bool=true by first | rfl | decide | simp [WShape.has,WShape.arms,WShape.armsAll])
  (show (WTm.eq .res (.lit (.bool true))).value [] { args:=args,res:=some (.bool true),after:=args }=some (.bool (true == true)) from w_eq_bool (w_res rfl) w_lit) rfl
section
variable {prog:Program} {w:World} {A:Around} {E:Value->Shared->Prop} {s:Shared} {K:Frag}
end
end Att
namespace L2
open PySem PySem.Spec PyProof.Rows
theorem Lq:∀ {vs:List Value} {ns:List Int},IntsAre vs ns->zY (ns.map V.int) vs
 | _,_,.nil=>.nil
 | _,_,.cons n t h=>.cons ⟨t,rfl⟩ (Lq h)
def Tu (H:Hp):Prop:=∀ b,H b=none\/∃ o xs,H b=some (.frz o (.lst xs))
theorem Fm {P:Program} {w:World} {K:PySem.W.Frag} {mg mb:Str->Option Value} {CX:uk} {k:Nat} {fa a:Addr} {fd:FuncData} {x:Str} {sp:Sp} {s₁:Shared} {vs:List Value} {ns:List Int}
  (KX:K.In s₁.heap) (hns:s₁.heap.Ns mainGlobals mg) (hb:s₁.heap.Ns builtinsNs mb) (hbb:∀ x:Str,x ≠ "__name__" -> mb x=bootBuiltins x) (hlim:s₁.heap.NoLimit) (hg:s₁.gens=#[])
  (ha:s₁.heap.get? a=some { cls:=.type "list",data:=.seq vs.toArray }) (hi:IntsAre vs ns) (hl:ns.length<=sizeLine) (hr:yz k callerA)
  (F:∀ base:Heap,K.In base->base.Ns mainGlobals mg->vb P w K mg base CX k fa fd [x] sp) (hbind:∀ (s:Shared) (u:Value),BindsTo s fd ⟨[u],[]⟩ [(x,u)])
  (hsp:∀ H:Hp,Tu H->zw K H a (ns.map V.int)->sp [.ref a] H (fun v _=>v=.bl true) fun _ _ _=>False)
  (hCX:∀ H e s',CX [] H s₁ (fun _ _ _=>False) e s'->False) :
  codeAny (model P w) callerA (.call (.ref fa) ⟨[.ref a],[]⟩) (fun r s'=>r=.ok (.ret (.bool true))/\OldK s₁.heap s'.heap/\s'.os=s₁.os/\AllBare s'.gens) s₁:=by
 have rv:=Lq hi
 have lenV:=hi.length
 have core:∀ H:Hp,Tu H->zw K H a (ns.map V.int)->yu P w H s₁.heap->(∀ b,H b≠none->b=a)->(H a≠none->K.lookup a=none)->
   codeAny (model P w) callerA (.call (.ref fa) ⟨[.ref a],[]⟩) (fun r s'=>r=.ok (.ret (.bool true))/\OldK s₁.heap s'.heap/\s'.os=s₁.os/\AllBare s'.gens) s₁:=by
  intro H hO hS hok hA hK
  have base_of:∀ {b:Addr} {o:Obj},s₁.heap.get? b=some o->H b=none->(tZ s₁.heap H).get? b=some o:=fun e n=>DS e n
  have noA:∀ {b:Addr} {o:Obj} {es:Array DictEntry} {ep:Nat},s₁.heap.get? b=some o->o.data=.dict es ep->H b=none:=fun {b o es ep} e d=>by
   cases q:H b with
   | none=>rfl
   | some u=>
    have e':b=a:=hA b (by rw [q]; simp)
    subst e'
    rw [ha] at e; cases e
    have d':Data.seq vs.toArray _=Data.dict es ep:=d
    cases d'
  have nsK:∀ {b:Addr} {m:Str->Option Value},s₁.heap.Ns b m->(tZ s₁.heap H).Ns b m:=fun {b m} ⟨o,es,ep,e,d,r⟩=>⟨o,es,ep,base_of e (noA e d),d,r⟩
  have hKb:K.In (tZ s₁.heap H):=fun b o e=>base_of (KX b o e) (by
   cases q:H b with
   | none=>rfl
   | some u=>
    have e':b=a:=hA b (by rw [q]; simp)
    subst e'
    rw [hK (by rw [q]; simp)] at e; cases e)
  have hM:Mod K mg (tZ s₁.heap H):=⟨hKb,nsK hns,⟨mb,nsK hb,hbb⟩,let ⟨mc,h1,h2⟩:=hlim; ⟨mc,nsK h1,h2⟩⟩
  have e0:YF P w K mg (tZ s₁.heap H) callerA [] s₁ H:=⟨rfl,hM,fun b o e=>Cc e,Nat.le_of_eq (DT _ _),trivial,fun b hb=>absurd (show b∈([]:List Addr) from hb) (by simp),hok,.of_eq hg⟩
  refine codeAny_mono ((F _ hKb (nsK hns)).run callerA [] s₁ H ⟨[.ref a],[]⟩ [.ref a] [.ref a] _ _ hr e0 (hbind s₁ (.ref a)) (.cons rfl .nil) (hsp H hO hS)) fun r s' h=>?_
  cases r with
  | error e=>exact (hCX H e s' h).elim
  | ok fl=>
   cases fl with
   | next=>exact False.elim h
   | brk=>exact False.elim h
   | cont=>exact False.elim h
   | ret u=>
    obtain ⟨v,H',os,bare,un,hok',r',q⟩:=h
    have q':v=.bl true:=q
    subst q'
    obtain rfl:u=Value.bool true:=r'
    refine ⟨rfl,OldK.of_keep fun b o e=>?_,os,bare⟩
    cases q:H b with
    | none=>exact un.keep b o e q (by intro z; exact absurd (show b∈([]:List Addr) from z) (by simp)) (by simp)
    | some u=>
     rcases hO b with z | ⟨ob,xs,z⟩
     ·rw [q] at z; cases z
     ·have z2:=un.frzs b ob _ z
      obtain ⟨e1,_⟩:=hok b _ z
      obtain ⟨e2,_⟩:=hok' b _ z2
      rw [e] at e1; cases e1
      exact e2
 cases hk:K.lookup a with
 | some o=>
  have e:=KX a o hk
  rw [ha] at e
  cases e
  refine core (fun _=>none) (fun _=>.inl rfl) (.inr ⟨_,vs.toArray,_,hk,rfl,rfl,rfl,by rw [List.size_toArray,lenV]; exact hl,by simpa using rv⟩) (fun b u z=>by have z':(none:Option HO)=some u:=z; cases z') (fun b z=>absurd rfl z) fun z=>absurd rfl z
 | none=>
  refine core (fun b=>if b=a then some (.frz { cls:=.type "list",data:=.seq vs.toArray } (.lst (ns.map V.int))) else none) (fun b=>?_) (.inl (.inr ⟨{ cls:=.type "list",data:=.seq vs.toArray },if_pos rfl⟩)) (fun b u z=>?_) (fun b z=>?_) fun _=>hk
  ·by_cases hb:b=a
   ·exact .inr ⟨_,_,if_pos hb⟩
   ·exact .inl (if_neg hb)
  ·by_cases hb:b=a
   ·have z':=(if_pos hb).symm.trans z
    cases z'
    subst hb
    exact ⟨ha,by rw [List.length_map]; exact hl,vs,_,rv,ha⟩
   ·have z':=(if_neg hb).symm.trans z
    cases z'
  ·by_cases hb:b=a
   ·exact hb
   ·exact absurd (if_neg hb) z
end L2
namespace L2
open PySem PySem.Spec PyProof.Rows
end L2
namespace L2
open PySem PySem.Spec PyProof.Rows
def jT (s:Stmt):Arguments:=match s with
 | .FunctionDef _ a _ _ _ _ _ _ _ _=>a
 | _=>{ posonlyargs:=[],args:=[],vararg:=none,kwonlyargs:=[],kw_defaults:=[],kwarg:=none,defaults:=[] }
def uw (s:Stmt):List Stmt:=match s with
 | .FunctionDef _ _ b _ _ _ _ _ _ _=>b
 | _=>[]
def zr (s:Stmt):Scope:=match s with
 | .FunctionDef _ _ _ _ _ _ sc _ _ _=>sc
 | _=>{ kind:=.function,names:=[],isGenerator:=false,isCoroutine:=false }
abbrev vV:uk:=fun _ _ _ _ _ _=>False
abbrev E0:XK:=fun _ _ _=>False
theorem UH {X:Cx}:YM vV X E0:=fun _ _ _ _ _ _ _ h=>h.elim
structure qJ (K:PySem.W.Frag) (x qual:Str) (st:Stmt) (f:Addr) (fd:FuncData):Prop where
 ex:∃ (oc:Value) (od:Option Addr) (kV doc pm:Value) (an:Option Addr) (cdv ct:Value) (osl:Array (Option Value)),
  fd=PySem.W.fnOf x qual (jT st) (uw st) (zr st) .none kV doc pm an cdv ct/\K.lookup f=some ⟨oc,od,.func fd,osl⟩/\PySem.W.codeIn K cdv qual=true
 kp:PySem.W.keepIn K (.ref f)=true
section
variable {P:Program} {w:World} {K:PySem.W.Frag} {mg:Str->Option Value} {base:Heap}
theorem qJ.ok {x qual:Str} {st:Stmt} {f:Addr} {fd:FuncData} {N ps:List Str} {k:Nat} {sp:Sp} (F:qJ K x qual st f fd) (S:yD N ps (zr st)) (len:∀ vs H Q E,sp vs H Q E->vs.length=ps.length)
  (hbody:∀ (cdv:Value) (A:Around) (outer:List Env) (s:Shared) (H:Hp) (vs:List V) (Q:VK) (E:XK),yz k (A.deeper (envOfC qual (zr st) s.heap.objs.size f cdv))->sp vs H Q E->
   ∃ t,wP (tX vV P w K mg base N qual (zr st) f cdv A outer s H E).nox (uw st) t/\t { nx:=fun _ H'=>Q .non H',rt:=Q } (start N vs) H):vb P w K mg base vV (k+1) f fd ps sp:=by
 obtain ⟨oc,od,kV,doc,pm,an,cdv,ct,osl,rfl,lk,hcd⟩:=F.ex
 refine Ba lk hcd S len fun A outer s H vs Q E hr hsp=>?_
 obtain ⟨t,h,q⟩:=hbody cdv A outer s H vs Q E hr hsp
 exact ⟨t,h.nox,q⟩
theorem qJ.binds {x qual:Str} {st:Stmt} {f:Addr} {fd:FuncData} {ps:List Str} (F:qJ K x qual st f fd)
  (h:∀ (kV doc pm:Value) (an:Option Addr) (cdv ct:Value) (us:List Value),us.length=ps.length->bindArgs (PySem.W.fnOf x qual (jT st) (uw st) (zr st) .none kV doc pm an cdv ct) ⟨us,[]⟩=pure (ps.zip us)):uj K fd ps []:=by
 obtain ⟨oc,od,kV,doc,pm,an,cdv,ct,osl,rfl,lk,hcd⟩:=F.ex
 exact .all (h kV doc pm an cdv ct)
theorem yW {x qual:Str} {st:Stmt} {f:Addr} {oc:Value} {od an:Option Addr} {osl:Array (Option Value)} {kV doc pm cdv ct:Value} (l:K.lookup f=some ⟨oc,od,.func (PySem.W.fnOf x qual (jT st) (uw st) (zr st) .none kV doc pm an cdv ct),osl⟩)
  (c:PySem.W.codeIn K cdv qual=true) (k:PySem.W.keepIn K (.ref f)=true):qJ K x qual st f (PySem.W.fnOf x qual (jT st) (uw st) (zr st) .none kV doc pm an cdv ct):=⟨⟨oc,od,kV,doc,pm,an,cdv,ct,osl,rfl,l,c⟩,k⟩
end
theorem zT {A:Around} {k:Nat} (hr:yz k A):A.units+1<cLine:=Nat.lt_of_le_of_lt (Nat.add_le_add_left (by decide:1<=64) _) hr.units
theorem Ni {n:Nat} (h:n<=1000):n<sizeLine:=Nat.lt_of_le_of_lt h (by decide)
section
variable {X:Cx}
end
theorem qY {A B:Prop} (h:B):if false=true then A else B:=by
 rw [if_neg Bool.false_ne_true]
 exact h
theorem qZ {A B:Prop} (h:A):if true=true then A else B:=by
 rw [if_pos rfl]
 exact h
def zl (H H':Hp):Prop:=∀ b o,H b=some o->H' b=some o
theorem zl.refl (H:Hp):zl H H:=fun _ _ h=>h
theorem zl.trans {H H1 H2:Hp} (a:zl H H1) (b:zl H1 H2):zl H H2:=fun c o h=>b c o (a c o h)
theorem zl.free {H H':Hp} (e:zl H H') {l:Addr} (h:H' l=Option.none):H l=Option.none:=by
 cases q:H l with
 | none=>rfl
 | some o=>
  rw [e l o q] at h
  cases h
end L2
set_option linter.all false
set_option maxRecDepth 100000
set_option maxHeartbeats 4000000
namespace L2
open PySem PySem.Spec PyProof.Rows
def zJ (K:PySem.W.Frag) (mg:Str->Option Value) (x:Str) (st:Stmt) (ps:List Str):Prop:=
 ∃ (f:Addr) (fd:FuncData),qJ K x x st f fd/\mg x=some (.ref f)/\uj K fd ps []
def zO (P:Program) (w:World) (K:PySem.W.Frag) (mg:Str->Option Value) (base:Heap) (x:Str) (ps:List Str) (k:Nat) (sp:Sp):Prop:=
 ∃ (f:Addr) (fd:FuncData),mg x=some (.ref f)/\PySem.W.keepIn K (.ref f)=true/\uj K fd ps []/\vb P w K mg base vV k f fd ps sp
def yU (mg:Str->Option Value) (x:Str) (v:V):Prop:=∃ u,mg x=some u/\zi v u
section
variable {P:Program} {w:World} {K:PySem.W.Frag} {mg:Str->Option Value} {base:Heap}
theorem zJ.ok {x:Str} {st:Stmt} {N ps:List Str} {k:Nat} {sp:Sp} (d:zJ K mg x st ps) (S:yD N ps (zr st)) (len:∀ vs H Q E,sp vs H Q E->vs.length=ps.length)
  (hbody:∀ (f:Addr) (cdv:Value) (A:Around) (outer:List Env) (s:Shared) (H:Hp) (vs:List V) (Q:VK) (E:XK),yz k (A.deeper (envOfC x (zr st) s.heap.objs.size f cdv))->sp vs H Q E->
   ∃ t,wP (tX vV P w K mg base N x (zr st) f cdv A outer s H E).nox (uw st) t/\t { nx:=fun _ H'=>Q .non H',rt:=Q } (start N vs) H):zO P w K mg base x ps (k+1) sp:=by
 obtain ⟨f,fd,F,hm,hb⟩:=d
 exact ⟨f,fd,hm,F.kp,hb,F.ok S len (hbody f)⟩
end
section
variable {X:Cx} {x:Str} {p pos:Pos} {e:Expr} {es:List Expr} {t:TA} {ps:List Str} {j k:Nat} {sp:Sp} {v:V} {T:String}
def yl:Expr->Bool
 | .Starred ..=>false
 | _=>true
theorem uA {e:Expr} {es:List Expr} {env:Env} (h:yl e=true):starEach (e::es) env=(false,eval e env)::starEach es env:=by
 cases e<;>first | rfl | cases h
theorem gH {env:Env} {pos:Pos}:∀ {es:List Expr},es.all yl=true->(backTo pos (starEach es env)).any (·.1)=false
 | [],_=>rfl
 | e::es,h=>by
  rw [List.all_cons,Bool.and_eq_true] at h
  rw [uA h.1]
  have ih:=gH (env:=env) (pos:=pos) h.2
  unfold backTo at ih ⊢
  rw [List.map_cons,List.any_cons,ih]
  rfl
theorem Z3 {te:TE} (ha:PE X e te) (hr:PA X es t) (h:yl e=true:=by rfl):PA X (e::es) (T6 te t):=Ew ha hr (uA h)
def YS:Expr->Option Int
 | .Constant (.int i) _ _=>some i
 | _=>none
theorem MK {e:Expr} {i:Int} (h:YS e=some i):∃ k p,e=.Constant (.int i) k p:=by
 cases e<;>first | (cases h; done) | skip
 rename_i c k p
 cases c<;>first | (cases h; done) | skip
 cases h
 exact ⟨k,p,rfl⟩
def intsOf:List Expr->Option (List Int)
 | []=>some []
 | e::r=>(YS e).bind fun i=>(intsOf r).map (i::·)
theorem O1:∀ {es:List Expr} {is:List Int},intsOf es=some is->PA X es (fun _ H Q=>Q (is.map V.int) H)
 | [],is,h=>by
  cases (show some []=some is from h)
  exact jr
 | e::r,is,h=>by
  have q:((YS e).bind fun i=>(intsOf r).map (i::·))=some is:=h
  cases e1:YS e with
  | none=>rw [e1] at q; cases q
  | some i=>
   rw [e1] at q
   obtain ⟨k,p,rfl⟩:=MK e1
   cases e2:intsOf r with
   | none=>rw [e2] at q; cases q
   | some js=>
    rw [e2] at q
    cases (show some (i::js)=some is from q)
    exact Z3 O6 (O1 e2)
theorem UJ (h:zO X.prog X.w X.K X.mg X.base x ps k sp) (hr:yz j X.A) (hg:Gl X x) (ha:PA X (e::es) t) (hk:k<=j:=by decide) (hdb:(x == ("__debug__" : Str))=false:=by decide)
  (he:(e::es).all yl=true:=by rfl):PE X (.Call (.Name x p) (e::es) [] pos) (T4 sp [] E0 t):=by
 obtain ⟨f,fd,hm,kp,b,F⟩:=h
 rw [List.all_cons,Bool.and_eq_true] at he
 exact G8 F (hr.mono hk) hg hm kp b .nil UH ha hdb (uA he.1) (gH he.2)
theorem jt (h:yU X.mg x v) (hg:Gl X x) (hd:(x == ("__debug__" : Str))=false:=by decide):PE X (.Name x pos) (tC v):=by
 obtain ⟨u,hm,r⟩:=h
 exact GE hg hm r hd
theorem G7 (hg:Gl X x) (hm:X.mg x=none) (hv:bootBuiltins x=some (.type T)) (hn:x ≠ "__name__" := by decide) (hd:(x == ("__debug__" : Str))=false:=by decide):PE X (.Name x pos) (tC (.ty T)):=
 Ez hg hm hv rfl hn hd
end
section
variable {X:Cx} {st:Stmt} {t:TS}
end
section
variable {X:Cx}
theorem vR:yE X (binaryOp .FloorDiv) (rI (fun _ j=>0<j/\j<2 ^ 64) fun i j=>.int (i / j)):=Z1 fun i j _ _ _ _ _ hc q=>by
 have h1:(0:Int)<j:=hc.1
 have h2:j<2 ^ 64:=hc.2
 have h3:j.natAbs.log2<64:=(Nat.log2_lt (by omega)).mpr (by omega)
 exact PyProof.Rows.floordiv_int (by omega) (by rw [Int.fdiv_eq_ediv_of_nonneg i (by omega)]; exact q) (.inl (PyProof.noPylong_of_log2 (by omega)))
end
theorem xh:bootBuiltins "len" = some (.builtin "len"):=by decide +kernel
theorem Mb:bootBuiltins "isinstance" = some (.builtin "isinstance"):=by decide +kernel
theorem Y_:bootBuiltins "all" = some (.builtin "all"):=by decide +kernel
theorem MY:bootBuiltins "int" = some (.type "int"):=by decide +kernel
theorem MX:bootBuiltins "bool" = some (.type "bool"):=by decide +kernel
theorem QW:bootBuiltins "str" = some (.type "str"):=by decide +kernel
theorem V2:bootBuiltins "list" = some (.type "list"):=by decide +kernel
theorem MZ:bootBuiltins "tuple" = some (.type "tuple"):=by decide +kernel
theorem FU {K:PySem.W.Frag}:PySem.W.kitOne K (.type "int") (.type "int")=some true:=by rfl
theorem FP {K:PySem.W.Frag}:PySem.W.kitOne K (.type "bool") (.type "int")=some true:=by kernel_rfl
theorem FQ {K:PySem.W.Frag}:PySem.W.kitOne K (.type "int") (.type "bool")=some false:=by kernel_rfl
theorem FN {K:PySem.W.Frag}:PySem.W.kitOne K (.type "bool") (.type "bool")=some true:=by rfl
theorem FW {K:PySem.W.Frag}:PySem.W.kitOne K (.type "NoneType") (.type "int")=some false:=by kernel_rfl
theorem FV {K:PySem.W.Frag}:PySem.W.kitOne K (.type "NoneType") (.type "bool")=some false:=by kernel_rfl
theorem FY {K:PySem.W.Frag}:PySem.W.kitOne K (.type "tuple") (.type "tuple")=some true:=by rfl
theorem FX {K:PySem.W.Frag}:PySem.W.kitOne K (.type "str") (.type "str")=some true:=by rfl
theorem wA {H:Hp} {p:Addr} (h:H p=none) (o:HO):zl H (zX H p o):=fun b u q=>by rw [yT (vA q h)]; exact q
theorem small {n:Nat} (h:n<=1000):n<=sizeLine:=Nat.le_of_lt (Ni h)
end L2
namespace L2
open PySem PySem.Spec PyProof.Rows
section
variable {X:Cx} {tg:Expr}
end
end L2
namespace L2
open PySem PySem.Spec PyProof.Rows
def qH (env:Env):List (Str×Addr)->Prop
 | []=>True
 | p::r=>env.cells.lookup p.1=some p.2/\qH env r
theorem qH.get {env:Env}:∀ {cl:List (Str×Addr)} {y:Str} {c:Addr},qH env cl->cl.lookup y=some c->env.cells.lookup y=some c
 | [],_,_,_,h=>by cases h
 | (n,a)::r,y,c,hc,h=>by
  rw [List.lookup_cons] at h
  cases e:y == n with
  | true=>
   rw [e] at h
   have e':y=n:=by simpa using e
   subst e'
   have h':a=c:=by simpa using h
   subst h'
   exact hc.1
  | false=>
   rw [e] at h
   exact qH.get hc.2 (by simpa using h)
def jS (scope:Scope) (env:Env) (cl:List (Str×Addr)) (own:List Str):Bool:=
 scope.names.all fun p=>p.1 != ("." : Str)&&((p.2 == .local&&(own.contains p.1||p.1 == (".0" : Str)))||p.2 == .globalImplicit||p.2 == .globalExplicit ||
  (p.2 == .free&&(env.kindOf p.1 == some .cell||env.kindOf p.1 == some .free)&&(cl.lookup p.1).isSome))
def kM (own:List Str) (y:Str):Str:=if own.contains y||y == (".0" : Str) then "." else y
def yx (N own:List Str):List Str:=N.map (kM own)++own
theorem UW {env:Env}:∀ {names:List (Str×NameKind)} {y:Str} {k:NameKind},
  (names.map fun (n,k)=>if (k == NameKind.free&&env.scope.kind == .function&&env.kindOf n == some .cell) then (n,NameKind.cell) else (n,k)).lookup y=some k->∃ k0,(y,k0)∈names/\(k=k0\/(k0=.free/\k=.cell))
 | [],_,_,h=>by simp at h
 | (n,k')::r,y,k,h=>by
  rw [List.map_cons] at h
  by_cases hc:(k' == NameKind.free&&env.scope.kind == .function&&env.kindOf n == some .cell)=true
  ·dsimp only at h
   rw [if_pos hc,List.lookup_cons] at h
   cases e:y == n with
   | true=>
    rw [e] at h
    have e':y=n:=by simpa using e
    subst e'
    have h':NameKind.cell=k:=by simpa using h
    have hf:k'=.free:=by
     rw [Bool.and_eq_true,Bool.and_eq_true] at hc
     simpa using hc.1.1
    exact ⟨k',List.mem_cons_self,.inr ⟨hf,h'.symm⟩⟩
   | false=>
    rw [e] at h
    obtain ⟨k0,m,z⟩:=UW (env:=env) (by simpa using h)
    exact ⟨k0,List.mem_cons_of_mem _ m,z⟩
  ·dsimp only at h
   rw [if_neg hc,List.lookup_cons] at h
   cases e:y == n with
   | true=>
    rw [e] at h
    have e':y=n:=by simpa using e
    subst e'
    have h':k'=k:=by simpa using h
    exact ⟨k',List.mem_cons_self,.inl h'.symm⟩
   | false=>
    rw [e] at h
    obtain ⟨k0,m,z⟩:=UW (env:=env) (by simpa using h)
    exact ⟨k0,List.mem_cons_of_mem _ m,z⟩
def xn (X:Cx) (scope:Scope) (cl:List (Str×Addr)) (own:List Str) (C:Addr) (s2:Shared) (H2:Hp) (fp:List Addr) (pn:List (Addr×Obj)):Cx:=
 { X with N:=yx X.N own,s₀:=s2,H₀:=H2,env:=compEnvC scope cl C X.env,outer:=X.stack,stack:=X.stack,ex:=fp,fn:=fun _=>false,pn:=pn,xe:=fun _ _=>False }
section
variable {X:Cx} {pins:List (Addr×Obj)} {σ:St} {H2:Hp} {s2:Shared} {scope:Scope} {cl:List (Str×Addr)} {own:List Str} {C D:Addr} {fp:List Addr}
theorem QM (hb:jS scope X.env cl own=true) {y:Str} {k:NameKind} (h:(relabel scope X.env).names.lookup y=some k) :
  y ≠ "." /\ ((k=.local->own.contains y=true\/y = ".0")/\((k=.cell\/k=.free)->(∃ k0,(y,k0)∈scope.names/\k0=.cell)\/((X.env.kindOf y=some .cell\/X.env.kindOf y=some .free)/\∃ c,cl.lookup y=some c))):=by
 obtain ⟨k0,m,z⟩:=UW h
 have q:=List.all_eq_true.mp hb _ m
 rw [Bool.and_eq_true] at q
 obtain ⟨q1,q2⟩:=q
 refine ⟨by simpa using q1,fun hk=>?_,fun hk=>?_⟩
 ·rcases z with z | ⟨_,z⟩
  ·subst z
   subst hk
   simpa using q2
  ·rw [z] at hk
   cases hk
 ·have hf:k0=.free\/k0=.cell:=by
   rcases z with z | ⟨z,_⟩
   ·subst z
    rcases hk with hk | hk
    ·exact .inr hk
    ·exact .inl hk
   ·exact .inl z
  rcases hf with hf | hf
  ·subst hf
   right
   have q3:((X.env.kindOf y == some .cell||X.env.kindOf y == some .free)&&(cl.lookup y).isSome)=true:=by simpa using q2
   rw [Bool.and_eq_true] at q3
   refine ⟨?_,Option.isSome_iff_exists.mp q3.2⟩
   have:=q3.1
   rw [Bool.or_eq_true] at this
   rcases this with t | t
   ·exact .inl (by simpa using t)
   ·exact .inr (by simpa using t)
  ·exact .inl ⟨k0,m,hf⟩
theorem W_ (hb:jS scope X.env cl own=true) (hcell:∀ y∈scope.names,y.2≠.cell) {y:Str} {k:NameKind} (h:(relabel scope X.env).names.lookup y=some k) (hk:k=.cell\/k=.free) :
  (X.env.kindOf y=some .cell\/X.env.kindOf y=some .free)/\∃ c,cl.lookup y=some c:=by
 rcases (QM hb h).2.2 hk with ⟨k0,m,e⟩ | q
 ·exact absurd e (hcell _ m)
 ·exact q
theorem QN (I:Inv X pins σ H2 s2) (hk:scope.kind=.function) (hcell:∀ y∈scope.names,y.2≠.cell) (hcap:qH X.env cl) (hb:jS scope X.env cl own=true) (hC:s2.heap.objs.size<=C)
  (hfp:∀ b∈fp,uF X pins H2 b) (hfo:∀ b∈fp,∃ o,s2.heap.get? b=some o):(xn X scope cl own C s2 H2 fp (X.pn++pins)).Ok where
 mod:=I.ok.mod
 kind:=hk
 glob:=I.ok.glob
 blt:=I.ok.blt
 above:=hC
 inj:=fun x y c h1 h2=>I.ok.inj x y c (hcap.get h1) (hcap.get h2)
 has:=fun x hx=>by
  rcases hx with hx | hx
  ·exact (W_ hb hcell (show (relabel scope X.env).names.lookup x=_ from hx) (.inl rfl)).2
  ·exact (W_ hb hcell (show (relabel scope X.env).names.lookup x=_ from hx) (.inr rfl)).2
 cab:=fun x c h=>by cases h
 hd:=I.ok.hd
 frames:=I.ok.frames
 stk:=.inl rfl
 exf:=fun b hx=>⟨by
  obtain ⟨o,e⟩:=hfo b hx
  exact Nat.ne_of_lt (Nat.lt_of_lt_of_le (Heap.lt_size e) hC),fun x c h=>(hfp b hx).2.2.2.2.1 x c (hcap.get h)⟩
 bs:=I.bs
 bsz:=Nat.le_trans I.ok.bsz I.sz
 noex:=fun b o e hx=>by
  rcases (hfp b hx).2.2.2.1 with z | z
  ·exact I.ok.noex b o e z
  ·exact absurd (Nat.lt_of_lt_of_le (Heap.lt_size e) (Nat.le_trans I.ok.bsz z)) (Nat.lt_irrefl _)
 exfs:=fun b hx hz=>by
  rcases List.mem_cons.mp (I.stkSub b hz) with z | z
  ·exact (hfp b hx).2.1 z
  ·exact (hfp b hx).2.2.1 z
 funs:=I.stack
 frf:=I.stkFree
theorem XC {α:Type} {σ:List (Option α)} {n i:Nat} {v:α} (h:(σ++List.replicate n none)[i]?=some (some v)):σ[i]?=some (some v):=by
 by_cases hi:i<σ.length
 ·rw [List.getElem?_append_left hi] at h
  exact h
 ·rw [List.getElem?_append_right (by omega),List.getElem?_replicate] at h
  split at h<;>cases h
theorem MW {h4:Heap} {m0:Str->Option Value} {dobj:Obj} {tk:Nat} (I:Inv X pins σ H2 s2) (hk:scope.kind=.function) (hcell:∀ y∈scope.names,y.2≠.cell) (hcap:qH X.env cl) (hb:jS scope X.env cl own=true)
  (hC:s2.heap.objs.size<=C) (hD:s2.heap.objs.size<=D) (hDC:D≠C) (hfp:∀ b∈fp,uF X pins H2 b) (hfo:∀ b∈fp,∃ o,s2.heap.get? b=some o)
  (keep:∀ b o,s2.heap.get? b=some o->h4.get? b=some o) (ns:h4.Ns C m0) (hd:h4.get? D=some dobj) (hdd:∀ v,dobj.data≠.cell v) :
  Inv (xn X scope cl own C s2 H2 fp (X.pn++pins)) [(D,dobj)] (σ++List.replicate own.length none) H2 { s2 with heap:=h4,toks:=tk }:=by
 have nfs:∀ a,s2.heap.objs.size<=a->a ∉ vw X.stack:=fun a ha hz=>by
  rcases List.mem_cons.mp (I.stkSub a hz) with z | z
  ·exact absurd (Nat.lt_of_lt_of_le I.lt ha) (by rw [z]; exact Nat.lt_irrefl _)
  ·exact I.nofs ha z
 refine ⟨QN I hk hcell hcap hb hC hfp hfo,rfl,I.bare,Un.kept keep,⟨m0,ns,fun i y v e1 e2 e3=>?_⟩,fun x c h=>?_,I.hok.fresh hC,fun x c h=>I.freeC x c (hcap.get h),fun p hp=>?_,I.hok.kept keep,?_⟩
 ·have e2':σ[i]?=some (some v):=XC e2
  have hi:i<X.N.length:=by
   have:=(List.getElem?_eq_some_iff.mp e2').1
   rw [I.len] at this
   exact this
  have e1':(X.N.map (kM own)++own)[i]?=some y:=e1
  rw [List.getElem?_append_left (by simpa using hi),List.getElem?_map] at e1'
  cases en:X.N[i]? with
  | none=>
   rw [en] at e1'
   cases e1'
  | some n=>
   rw [en] at e1'
   have ey:kM own n=y:=Option.some.inj e1'
   have vis:∃ k,(relabel scope X.env).names.lookup y=some k/\(k=.local\/k=.cell\/k=.free):=by
    rcases e3 with z | z | z
    ·exact ⟨_,z,.inl rfl⟩
    ·exact ⟨_,z,.inr (.inl rfl)⟩
    ·exact ⟨_,z,.inr (.inr rfl)⟩
   obtain ⟨k,lk,kk⟩:=vis
   obtain ⟨nd,loc,_⟩:=QM hb lk
   unfold kM at ey
   by_cases ho:(own.contains n||n == (".0" : Str))=true
   ·rw [if_pos ho] at ey
    exact absurd ey.symm nd
   ·rw [if_neg ho] at ey
    subst ey
    have kk':k=.cell\/k=.free:=by
     rcases kk with z | z
     ·exfalso
      apply ho
      rcases loc z with t | t
      ·rw [t]; rfl
      ·subst t; simp
     ·exact z
    obtain ⟨ok,c,hc⟩:=W_ hb hcell lk kk'
    obtain ⟨m,hn,hl⟩:=I.loc
    obtain ⟨u,r,l⟩:=hl i n v en e2' (.inr ok)
    refine ⟨u,r,.inr ⟨?_,c,hc,?_⟩⟩
    ·rcases kk' with z | z
     ·subst z; exact .inl lk
     ·subst z; exact .inr lk
    ·rcases l with ⟨z,_⟩ | ⟨_,c',hc',z⟩
     ·rcases ok with t | t<;>(rw [t] at z; cases z)
     ·rw [hcap.get hc] at hc'
      cases hc'
      obtain ⟨o,ho',hd'⟩:=z
      exact ⟨o,keep _ _ ho',hd'⟩
 ·obtain ⟨v,o,ho,hd'⟩:=I.cell x c (hcap.get h)
  exact ⟨v,o,keep _ _ ho,hd'⟩
 ·rcases List.mem_append.mp hp with z | z
  ·obtain ⟨e,n,ne,nf,d⟩:=I.pin p z
   refine ⟨keep _ _ e,n,Nat.ne_of_lt (Nat.lt_of_lt_of_le (Heap.lt_size e) hC),fun hz=>?_,d⟩
   rcases List.mem_cons.mp (I.stkSub p.1 hz) with t | t
   ·exact ne t
   ·exact nf t
  ·have e:p=(D,dobj):=by simpa using z
   subst e
   exact ⟨hd,I.hok.fresh hD,hDC,nfs D hD,hdd⟩
 ·show (σ++List.replicate own.length none).length=(X.N.map (kM own)++own).length
  rw [List.length_append,List.length_append,List.length_replicate,List.length_map,I.len]
end
end L2
namespace L2
open PySem PySem.Spec PyProof.Rows
def pE (X:Cx) (ifs:List Expr) (tc:TT):Prop:=
 ∀ (pins:List (Addr×Obj)) (s:Shared) (σ:St) (H:Hp) (Q:Bool->Hp->Prop),Inv X pins σ H s->tc σ H Q->
  wpAny (model X.prog X.w) X.A (forIn ifs true fun c r=>if r=true then do let ok <- isTrue c X.env (eval c X.env); pure (ForInStep.yield ok) else pure (ForInStep.yield r)) (TP X pins σ Q) X.xe s
def T8:TT:=fun _ H Q=>Q true H
theorem OL {X:Cx}:pE X [] T8:=fun _ _ _ H _ I h=>wpAny_tests_nil ⟨H,I,h⟩
theorem Gz {X:Cx} {c:Expr} {t:TT} (h:PT X c t):pE X [c] t:=fun pins s σ H Q I q=>wpAny_tests_one (h pins s σ H Q I q)
section
variable {prog:Program} {w:World} {A:Around} {R:Result->Shared->Prop} {s:Shared}
theorem Fq {elt tg iter:Expr} {ifs:List Expr} {scope:Scope} {pos:Pos} {it acc:Value} {env:Env} (J:Nat->Shared->Prop)
  (turn:∀ n s,J n s->wpAny (model prog w) A (pyNext it) (fun r s₁=>match r with
   | none=>R (.ok .next) s₁
   | some v=>wpAny (model prog w) A (letOwnedTupleGo tg it v) (fun _ z=>wpAny (model prog w) A (assign tg env v) (fun _ s₂=>
    wpAny (model prog w) A (forIn ifs true fun c r=>if r=true then do let ok <- isTrue c env (eval c env); pure (ForInStep.yield ok) else pure (ForInStep.yield r)) (fun ok s₃=>
     if ok=true then wpAny (model prog w) A (eval elt env) (fun x s₄=>wpAny (model prog w) A (call (.builtin "list.append") [acc,x]) (fun _ s₅=>∃ m,m<n/\J m s₅) (fun _ _=>False) s₄) (fun _ _=>False) s₃
     else ∃ m,m<n/\J m s₃) (fun _ _=>False) s₂) (fun _ _=>False) z) (fun _ _=>False) s₁) (fun _ _=>False) s)
  (n:Nat) (h:J n s):codeAny (model prog w) A (.compLoop (.ListComp elt [⟨tg,iter,ifs,0⟩] scope pos) 0 it acc env) R s:=by
 have no:∀ {P:Value->Shared->Prop},∀ e s',(fun _ _=>False:Value->Shared->Prop) e s'->P e s':=fun _ _ z=>z.elim
 refine codeAny_loop rfl J (fun n s hI=>?_) n h
 show wpAny _ A (Sem.onRaise (compTurn (.ListComp elt [⟨tg,iter,ifs,0⟩] scope pos) 0 it acc env) (fun x=>do noteFrame x env; theTreesLotGoes x)) _ _ s
 refine wpAny_noted ?_
 rw [compTurn_list]
 refine wpAny_bind (wpAny_standAt (wpAny_bind (wpAny_mono (turn n s hI) (fun r s₁ h₁=>?_) no)))
 cases r with
 | none=>exact wpAny_pure h₁
 | some v=>
  refine wpAny_bind (wpAny_mono h₁ (fun _ z hz=>?_) no)
  refine wpAny_bind (wpAny_mono hz (fun _ s₂ h₂=>?_) no)
  refine wpAny_bind (wpAny_mono h₂ (fun ok s₃ h₃=>?_) no)
  cases ok with
  | false=>exact wpAny_pure ⟨rfl,h₃⟩
  | true=>
   refine wpAny_bind (wpAny_bind (wpAny_mono h₃ (fun x s₄ h₄=>?_) no))
   exact wpAny_bind (wpAny_mono h₄ (fun _ s₅ h₅=>wpAny_pure (wpAny_pure ⟨rfl,h₅⟩)) no)
end
abbrev wH (its:List Value) (k:Nat):Obj:={ cls:=.type "list",data:=.seq its.toArray k }
theorem IJ {its:List Value} {k:Nat}:∀ v,(wH its k).data≠.cell v:=fun _ z=>nomatch z
section
variable {X:Cx} {σ:St} {H:Hp} {s:Shared} {D:Addr}
theorem Di {pl:List (Addr×Obj)} {its its':List Value} {k k' tk:Nat} {h':Heap} (I:Inv X ((D,wH its k)::pl) σ H s) (hD:X.s₀.heap.objs.size<=D) (hpn:∀ p∈X.pn,p.1≠D)
  (hs:Heap.SameBut D s.heap h') (hd:h'.get? D=some (wH its' k')):Inv X [(D,wH its' k')] σ H { s with heap:=h',toks:=tk }:=by
 obtain ⟨e,n,ne,nf,d⟩:=I.pin (D,wH its k) (List.mem_append_right _ List.mem_cons_self)
 have I0:Inv X [] σ H s:=I.pins_of fun p hp=>absurd hp (by simp)
 have I1:Inv X [] σ H { s with heap:=h',toks:=tk }:=I0.turned (it:=D) (fun b o hb q=>(hs.2 b hb).trans q) n ne (.inr hD) (fun x c hc z=>by
  subst z
  obtain ⟨v,o,ho,hv⟩:=I.cell x c hc
  rw [show s.heap.get? c=some (wH its k) from e] at ho
  cases ho
  exact d v hv) (fun p hp=>hpn p (by simpa using hp))
 exact I1.pins_of fun p hp=>by
  have q:p=(D,wH its' k'):=by simpa using hp
  subst q
  exact ⟨hd,n,ne,nf,IJ⟩
end
section
variable {X:Cx} {tg iter elt:Expr} {ifs:List Expr} {scope:Scope} {cl:List (Str×Addr)} {own:List Str} {pos:Pos} {te:TE} {tc:TT} {g:TG} {wi:TI}
theorem Pz {fs ex:List Addr} {H H':Hp} {h h':Heap} {D:Addr} {o:HO} (u:Un fs ex H H' h h') (hD:h.objs.size<=D) (hn:H' D=none):Un fs ex H (zX H' D o) h h' where
 keep:=u.keep
 slot:=u.slot
 free:=fun b ob q n hx=>by rw [yT (fun z=>by subst z; exact absurd (Nat.lt_of_lt_of_le (Heap.lt_size q) hD) (Nat.lt_irrefl _))]; exact u.free b ob q n hx
 there:=u.there
 tups:=fun b xs q=>by rw [yT (vA (u.tups b xs q) hn)]; exact u.tups b xs q
 frzs:=fun b ob v q=>by rw [yT (vA (u.frzs b ob v q) hn)]; exact u.frzs b ob v q
 tbls:=fun b ps q=>by
  obtain ⟨more,z⟩:=u.tbls b ps q
  exact ⟨more,by rw [yT (vA z hn)]; exact z⟩
theorem JK {P:Program} {w:World} {H:Hp} {h:Heap} {D:Addr} {o:HO} (x:yu P w H h) (hn:H D=none) (new:yo P w (zX H D o) h D o):yu P w (zX H D o) h:=fun b u e=>by
 by_cases hb:b=D
 ·subst hb
  rw [yj] at e
  cases e
  exact new
 ·rw [yT hb] at e
  refine (x b u e).stay (fun c v _ q=>q) (fun c q=>?_) (fun c xs q=>?_)
  ·rw [yT (vA q hn)]; exact q
  ·rw [yT (vA q hn)]; exact q
structure p4 (X:Cx) (scope:Scope) (cl:List (Str×Addr)) (own:List Str):Prop where
 kind:scope.kind=.function
 cell:∀ y∈scope.names,y.2≠.cell
 cap:qH X.env cl
 ok:jS scope X.env cl own=true
 clos:closureFor scope X.env=pure cl
 names:∀ y∈scope.names,y.2=.local->scope.names.lookup y.1=some .local
structure YL (X:Cx) (pins:List (Addr×Obj)) (H:Hp) (s:Shared) (C:Addr):Prop where
 free:H C=none
 ne:C≠X.env.locals
 old:X.s₀.heap.objs.size<=C
 cell:∀ x c,X.env.cells.lookup x=some c->c≠C
 pin:∀ p∈X.pn++pins,p.1≠C
def kX (σ:St) (n:Nat) (J:It) (g:TG) (tc:TT) (te:TE) (W:Nat->Nat->List V->Hp->Prop) (Fin:List V->Hp->Prop):Prop:=
 ∀ i m ys H,W i m ys H->(J.stop i H/\Fin ys H)\/(J.go i H/\ys.length<sizeLine/\∃ N:List V->Hp->Prop,(∀ ys' H',N ys' H'->∃ m',m'<m/\W (i+1) m' ys' H')/\
  ∀ x H',J.yld i H x H'->g x (σ++List.replicate n none) H' fun σ2 H3=>(∃ τ,σ2=σ++τ)/\tc σ2 H3 fun c H4=>if c=true then te σ2 H4 fun y H5=>N (ys++[y]) H5 else N ys H4)
theorem QR {pins:List (Addr×Obj)} {σ:St} {H2:Hp} {s2:Shared} {fp:List Addr} {it:Addr} {tn:Nat->Heap->Prop} {J:It} {W:Nat->Nat->List V->Hp->Prop} {Fin:List V->Hp->Prop} {m0:Nat}
  {RR:Value->Addr->Result->Shared->Prop} (hcalm:X.calm=true) (B:p4 X scope cl own) (I:Inv X pins σ H2 s2) (T:qO X.prog X.w X.K tg J fp it tn) (t0:tn 0 s2.heap) (hfp:∀ b∈fp,uF X pins H2 b)
  (hg:∀ C s H fp pn,PG (xn X scope cl own C s H fp pn) tg g) (hc:∀ C s H fp pn,pE (xn X scope cl own C s H fp pn) ifs tc) (he:∀ C s H fp pn,PE (xn X scope cl own C s H fp pn) elt te)
  (W0:W 0 m0 [] H2) (turn:kX σ own.length J g tc te W Fin)
  (hRR:∀ D C s' H' ys m',Inv X pins σ (zX H' D (.lst ys)) s'->H' D=none->Fin ys H'->s'.heap.Ns C m'->YL X pins (zX H' D (.lst ys)) s' C->RR (.ref D) C (.ok .next) s') {E:Value->Shared->Prop} :
  wpAny (model X.prog X.w) X.A (newList []) (fun acc s3=>wpAny (model X.prog X.w) X.A (newFunctionEnv scope X.env.globals cl [] X.env.qual none .none (some X.env)) (fun cenv s4=>
   codeAny (model X.prog X.w) X.A (.compStart (.ListComp elt [⟨tg,iter,ifs,0⟩] scope pos) 0 (.ref it) acc { cenv with scope:=relabel scope X.env }) (RR acc cenv.locals) s4) E s3) E s2:=by
 refine wpAny_newObj_type (wpAny_newFunctionEnv B.cell (by intro y hy; simp at hy) (fun h4 hns hsb=>?_) B.kind)
 dsimp only at hns hsb ⊢
 generalize hP:s2.heap.push (wH [] 0)=P2 at hns hsb ⊢
 have hC:P2.objs.size=s2.heap.objs.size+1:=by rw [<- hP,Heap.size_push]
 have hDC:s2.heap.objs.size≠P2.objs.size:=by rw [hC]; exact Nat.ne_of_lt (Nat.lt_succ_self _)
 have hCle:s2.heap.objs.size<=P2.objs.size:=by rw [hC]; exact Nat.le_succ _
 have keep:∀ b o,s2.heap.get? b=some o->h4.get? b=some o:=fun b o e=>
  hsb.extBut b o (Nat.ne_of_lt (Nat.lt_of_lt_of_le (Heap.lt_size e) hCle)) (Heap.get?_push_of_some _ (hP ▸ Heap.get?_push_of_some _ e))
 have hd4:h4.get? s2.heap.objs.size=some (wH [] 0):=hsb.extBut _ _ hDC (Heap.get?_push_of_some _ (hP ▸ Heap.get?_push_size _ rfl))
 have hfo:∀ b∈fp,∃ o,s2.heap.get? b=some o:=fun b hb=>let ⟨o,e,_⟩:=T.obj 0 _ t0 b hb; ⟨o,e⟩
 have lt:∀ b∈fp,b<s2.heap.objs.size:=fun b hb=>let ⟨o,e⟩:=hfo b hb; Heap.lt_size e
 generalize hDD:s2.heap.objs.size=D at hDC hd4 ⊢
 generalize hCC:P2.objs.size=C at hDC hns hsb hCle ⊢
 have hDle:s2.heap.objs.size<=D:=Nat.le_of_eq hDD
 let X':=xn X scope cl own C s2 H2 fp (X.pn++pins)
 have hpn:∀ p∈X'.pn,p.1≠D:=fun p hp z=>by
  obtain ⟨e,_⟩:=I.pin p hp
  rw [z] at e
  exact absurd (Nat.lt_of_lt_of_le (Heap.lt_size e) hDle) (Nat.lt_irrefl _)
 have okb:=QN I B.kind B.cell B.cap B.ok hCle hfp hfo
 have fpok:∀ {k:Nat} {its:List Value} {H':Hp},(∀ b∈fp,H' b=none)->∀ b∈fp,uF X' [(D,wH its k)] H' b:=fun {k its H'} hn b hb=>
  ⟨hn b hb,(okb.exf b hb).1,okb.exfs b hb,.inl hb,(okb.exf b hb).2,fun p hp=>by
   rcases List.mem_append.mp hp with z | z
   ·exact (hfp b hb).2.2.2.2.2 p z
   ·have q:p=(D,wH its k):=by simpa using z
    subst q
    exact fun z=>absurd (lt b hb) (by rw [<- z]; exact Nat.not_lt.mpr hDle)⟩
 have loop:∀ s4:Shared,s4={ s2 with heap:=h4,toks:=s2.toks+([]:List (Str×Value)).length }->
   codeAny (model X.prog X.w) X.A (.compLoop (.ListComp elt [⟨tg,iter,ifs,0⟩] scope pos) 0 (.ref it) (.ref D) (compEnvC scope cl C X.env)) (RR (.ref D) C) s4:=by
  rintro s4 rfl
  refine Fq (fun n s'=>∃ (i:Nat) (ys:List V) (its:List Value) (k:Nat) (H':Hp),Inv X' [(D,wH its k)] (σ++List.replicate own.length none) H' s'/\zY ys its/\tn i s'.heap/\(∀ b∈fp,H' b=none)/\W i n ys H'/\ys.length<=sizeLine) ?_ m0
   ⟨0,[],[],0,H2,MW I B.kind B.cell B.cap B.ok hCle hDle hDC hfp hfo keep hns hd4 IJ,.nil,T.keep _ _ _ t0 fun b _ o e=>keep b o e,fun b hb=>(hfp b hb).1,W0,Nat.zero_le _⟩
  rintro n s5 ⟨i,ys,its,k,H5,I5,v5,st5,fr5,w5,z5⟩
  rcases turn i n ys H5 w5 with ⟨stop,fin⟩ | ⟨go,room,N,hN,step⟩
  ·refine wpAny_mono (T.done X' rfl rfl rfl hcalm i _ s5 _ H5 (fun _ _=>False) I5 (fpok fr5) st5 stop) (fun r s6 ⟨hr,I6⟩=>?_) fun _ _ z=>z
   subst hr
   obtain ⟨e6,n6,ne6,nf6,d6⟩:=I6.pin (D,wH its k) (List.mem_append_right _ List.mem_cons_self)
   obtain ⟨m6,ns6,_⟩:=I6.loc
   have u6:Un (vw X.stack) fp H2 (zX H5 D (.lst ys)) s2.heap s6.heap:=Pz I6.base hDle n6
   have new6:yo X.prog X.w (zX H5 D (.lst ys)) s6.heap D (.lst ys):=⟨z5,its,k,v5,e6⟩
   have I7:Inv X pins σ (zX H5 D (.lst ys)) s6:=I.call' I6.os u6 (JK I6.hok n6 new6) I6.bare (fun b hb=>⟨(hfp b hb).2.2.2.1,(hfp b hb).2.1,(hfp b hb).2.2.2.2.1,(hfp b hb).2.2.2.2.2⟩)
   refine hRR D C s6 H5 ys m6 I7 n6 fin ns6 ⟨?_,?_,?_,fun x c hcx z=>?_,fun p hp z=>?_⟩
   ·rw [yT (Ne.symm hDC)]; exact I6.free
   ·exact fun z=>absurd I.lt (by rw [<- z]; exact Nat.not_lt.mpr hCle)
   ·exact Nat.le_trans I.sz hCle
   ·subst z
    obtain ⟨v,o,ho,_⟩:=I.cell x c hcx
    exact absurd (Nat.lt_of_lt_of_le (Heap.lt_size ho) hCle) (Nat.lt_irrefl _)
   ·obtain ⟨e,_⟩:=I.pin p hp
    rw [z] at e
    exact absurd (Nat.lt_of_lt_of_le (Heap.lt_size e) hCle) (Nat.lt_irrefl _)
  ·refine wpAny_mono (T.item X' rfl rfl rfl hcalm i _ s5 _ H5 (fun _ _=>False) I5 (fpok fr5) st5 go) (fun r s6 ⟨u,hr,h6⟩=>?_) fun _ _ z=>z
   subst hr
   refine wpAny_mono h6 (fun _ s7 ⟨x,H7,I7,r7,y7,st7,fr7⟩=>?_) fun _ _ z=>z
   have I7':=I7.pinned (fpok fr7) (T.obj _ _ st7)
   refine wpAny_mono (hg C s2 H2 fp _ _ s7 _ H7 x u _ I7' r7 (step x H7 y7)) (fun _ s8 ⟨σ8,H8,I8,⟨τ,hτ⟩,q8⟩=>?_) fun _ _ z=>z
   subst hτ
   have back:∀ {n':Nat} {ys':List V} {its':List Value} {k':Nat} {H9:Hp} {s9:Shared} {pl:List (Addr×Obj)},Inv X' ((D,wH its' k')::pl) (σ++τ) H9 s9->zY ys' its'->tn (i+1) s9.heap->(∀ b∈fp,H9 b=none)->W (i+1) n' ys' H9->ys'.length<=sizeLine->
     ∃ (i:Nat) (ys:List V) (its:List Value) (k:Nat) (H':Hp),Inv X' [(D,wH its k)] (σ++List.replicate own.length none) H' s9/\zY ys its/\tn i s9.heap/\(∀ b∈fp,H' b=none)/\W i n' ys H'/\ys.length<=sizeLine:=fun {n' ys' its' k' H9 s9 pl} I9 v9 st9 fr9 w9 z9=>by
    have I9':Inv X' [(D,wH its' k')] (σ++τ) H9 s9:=I9.pins_of fun p hp=>I9.pin p (List.mem_append_right _ (by
     have q:p=(D,wH its' k'):=by simpa using hp
     subst q
     exact List.mem_cons_self))
    refine ⟨i+1,ys',its',k',H9,I9'.weak ?_ (fun j v e=>?_),v9,st9,fr9,w9,z9⟩
    ·rw [I9'.len,<- I5.len]
    ·have e':=XC e
     rw [List.getElem?_append_left (List.getElem?_eq_some_iff.mp e').1]
     exact e'
   have keepIt:∀ {σ9:St} {H9:Hp} {s9:Shared},Inv X' ([(D,wH its k)]++Z5 fp s7.heap) σ9 H9 s9->tn (i+1) s9.heap/\∀ b∈fp,H9 b=none:=fun {σ9 H9 s9} I9=>
    ⟨T.keep _ _ _ st7 fun b hb o e=>(I9.pin (b,o) (List.mem_append_right _ (List.mem_append_right _ (Xd hb e)))).1,fun b hb=>by
     obtain ⟨o,e,_⟩:=T.obj _ _ st7 b hb
     exact (I9.pin (b,o) (List.mem_append_right _ (List.mem_append_right _ (Xd hb e)))).2.1⟩
   refine wpAny_mono (hc C s2 H2 fp _ _ s8 _ H8 _ I8 q8) (fun c s9 ⟨H9,I9,q9⟩=>?_) fun _ _ z=>z
   cases c with
   | false=>
    rw [if_neg Bool.false_ne_true] at q9 ⊢
    obtain ⟨m',hm,w9⟩:=hN _ _ q9
    exact ⟨m',hm,back I9 v5 (keepIt I9).1 (keepIt I9).2 w9 z5⟩
   | true=>
    rw [if_pos rfl] at q9 ⊢
    refine wpAny_mono (he C s2 H2 fp _ _ s9 _ H9 _ I9 q9) (fun yv sa ⟨y,Ha,Ia,ra,qa⟩=>?_) fun _ _ z=>z
    obtain ⟨m',hm,wa⟩:=hN _ _ qa
    obtain ⟨ea,na,_⟩:=Ia.pin (D,wH its k) (List.mem_append_right _ (List.mem_append_left _ List.mem_cons_self))
    have szi:its.toArray.size<=sizeLine:=by
     have:=v5.length
     simp only [List.size_toArray]
     omega
    refine wpAny_list_append_plain (hsz:=szi) ⟨k,ea⟩ fun hb hlb hsb'=>?_
    obtain ⟨kb,eb⟩:=hlb
    have eb':hb.get? D=some (wH (its++[yv]) kb):=by rw [eb]; simp
    have Ib:Inv X' [(D,wH (its++[yv]) kb)] (σ++τ) Ha { sa with heap:=hb,toks:=sa.toks }:=Di (tk:=sa.toks) Ia hDle hpn hsb' eb'
    have stb:tn (i+1) hb:=T.keep _ _ _ (keepIt Ia).1 fun b hbf o e=>(hsb'.2 b (fun z=>absurd (lt b hbf) (by rw [z]; exact Nat.not_lt.mpr hDle))).trans e
    exact ⟨m',hm,back Ib (zY.append v5 (.cons ra .nil)) stb (keepIt Ia).2 wa (by rw [List.length_append]; exact room)⟩
 exact codeAny_compStart_list (loop _ rfl) (T.self X.A 0 _ _ _ (T.keep _ _ _ t0 fun b _ o e=>keep b o e) (loop _ rfl))
def PJ (n:Nat) (wi:TI) (g:TG) (tc:TT) (te:TE):TE:=fun σ H Q=>wi σ H fun J H1=>∃ W:Nat->Nat->List V->Hp->Prop,(∃ m,W 0 m [] H1)/\
 kX σ n J g tc te W fun ys H'=>∀ p,H' p=none->Q (.ref p) (zX H' p (.lst ys))
theorem YL.inv {pins:List (Addr×Obj)} {σ:St} {H:Hp} {s:Shared} {C:Addr} {h':Heap} (o:YL X pins H s C) (I:Inv X pins σ H s) (hs:Heap.SameBut C s.heap h'):Inv X pins σ H { s with heap:=h' }:=
 I.turned (it:=C) (t':=s.toks) (fun b u hb q=>(hs.2 b hb).trans q) o.free o.ne (.inr o.old) o.cell o.pin
theorem GG (hcalm:X.calm=true) (B:p4 X scope cl own) (hi:PI X tg iter wi) (hg:∀ C s H fp pn,PG (xn X scope cl own C s H fp pn) tg g) (hc:∀ C s H fp pn,pE (xn X scope cl own C s H fp pn) ifs tc)
  (he:∀ C s H fp pn,PE (xn X scope cl own C s H fp pn) elt te) (hs:∀ x,foldedSetIterable iter X.env x=pure x:=by intro _; rfl) :
  PE X (.ListComp elt [⟨tg,iter,ifs,0⟩] scope pos) (PJ own.length wi g tc te):=by
 intro pins s σ H Q I h
 rw [eval_ListComp]
 refine wpAny_comprehension_free (use:=none) rfl hs B.clos B.kind B.names (zk (hi pins s σ H _ I h) fun v s1 h1=>zk h1 fun itv s2 h2=>?_)
 obtain ⟨it,fp,tn,J,H2,e,I2,T,st2,f2,W,⟨m0,w0⟩,turn⟩:=h2
 subst e
 refine QR (RR:=fun acc C=>compPost (model X.prog X.w) X.A X.xe none (EP X pins σ Q) acc C) hcalm B I2 T st2 f2 hg hc he w0 turn ?_
 intro D C s' H' ys m' I' n' fin ns' off
 exact ⟨m',ns',fun h' hs'=>⟨.ref D,zX H' D (.lst ys),off.inv I' hs',rfl,fin D n'⟩⟩
def Pd (i n:Nat) (wi:TI) (g:TG) (tc:TT) (te:TE):TS:=fun D σ H=>wi σ H fun J H1=>∃ W:Nat->Nat->List V->Hp->Prop,(∃ m,W 0 m [] H1)/\
 kX σ n J g tc te W fun ys H'=>∀ p,H' p=none->D.nx (σ.set i (some (.ref p))) (zX H' p (.lst ys))
theorem OJ {i:Nat} {x:Str} {px spos:Pos} (hcalm:X.calm=true) (hN:X.N.Nodup) (hix:X.N[i]?=some x) (hx:X.env.scope.names.lookup x=some .local) (B:p4 X scope cl own)
  (hsw:swapsWith (.ListComp elt [⟨tg,iter,ifs,0⟩] scope pos) (some (.Name x px)) spos.line X.env=pure true) (hi:PI X tg iter wi)
  (hg:∀ C s H fp pn,PG (xn X scope cl own C s H fp pn) tg g) (hc:∀ C s H fp pn,pE (xn X scope cl own C s H fp pn) ifs tc) (he:∀ C s H fp pn,PE (xn X scope cl own C s H fp pn) elt te)
  (hs:∀ x,foldedSetIterable iter X.env x=pure x:=by intro _; rfl) :
  PS X (.Assign [.Name x px] (.ListComp elt [⟨tg,iter,ifs,0⟩] scope pos) spos) (Pd i own.length wi g tc te):=by
 intro pins s σ H D I h
 rw [exec_Assign_Name_used _ _ _ _ hsw]
 refine wpAny_bind (wpAny_standAt (wpAny_bind ?_))
 show wpAny _ X.A (do let _ <- comprehension (.ListComp elt [⟨tg,iter,ifs,0⟩] scope pos) scope X.env _ (newList []) false (eval iter X.env) (some (assign (.Name x px) X.env))) _ _ s
 refine wpAny_bind (zk (wpAny_comprehension_free (use:=some (assign (.Name x px) X.env)) (Q:=fun _ s'=>SP X pins D .next s') rfl hs B.clos B.kind B.names
  (zk (hi pins s σ H _ I h) fun v s1 h1=>zk h1 fun itv s2 h2=>?_)) fun _ s' hq=>wpAny_pure (wpAny_pure hq))
 obtain ⟨it,fp,tn,J,H2,e,I2,T,st2,f2,W,⟨m0,w0⟩,turn⟩:=h2
 subst e
 refine QR (RR:=fun acc C=>compPost (model X.prog X.w) X.A X.xe (some (assign (.Name x px) X.env)) (fun _ s'=>SP X pins D .next s') acc C) hcalm B I2 T st2 f2 hg hc he w0 turn ?_
 intro L C s' H' ys m' I' n' fin ns' off
 show wpAny _ X.A (assign (.Name x px) X.env (.ref L)) _ _ s'
 refine wpAny_assign_Name (LS I' hN hix (.inl hx) (v:=.ref L) rfl (fun s3 I3 q3=>?_) (.inr hx))
 obtain ⟨a,hsa,ha⟩:=q3
 have hCa:C≠a:=by
  rcases ha with z | z
  ·rw [z]; exact off.ne
  ·exact fun y=>off.cell x a z y.symm
 refine ⟨m',ns'.sameBut hsa hCa,fun h' hs'=>?_⟩
 exact ⟨_,_,YL.inv (H:=zX H' L (.lst ys)) ⟨off.free,off.ne,off.old,off.cell,off.pin⟩ I3 hs',fin L n'⟩
end
end L2
namespace L2
open PySem PySem.Spec PyProof.Rows
structure QE (X:Cx) (e:Expr) (t:TE):Prop where
 h:PE X e t
structure QA (X:Cx) (es:List Expr) (t:TA):Prop where
 h:PA X es t
structure QS (X:Cx) (st:Stmt) (t:TS):Prop where
 h:PS X st t
structure QG (X:Cx) (e:Expr) (t:TG):Prop where
 h:PG X e t
structure YN (X:Cx) (es:List Expr) (t:ur):Prop where
 h:gU X es t
structure QI (X:Cx) (tg e:Expr) (t:TI):Prop where
 h:PI X tg e t
section
variable {X:Cx} {x y:Str} {p pos pos' apos cpos p2:Pos} {e a b c o tg iter elt:Expr} {es yX:List Expr} {te ta tb tc to:TE} {t:TA} {tA tB':TT} {r r':R2} {v:V} {T id:String} {ps:List Str} {j k i:Nat} {sp:Sp}
theorem qv (i:Nat) {x:Str} {pos:Pos} (hN:X.N[i]?=some x:=by rfl) (hv:qQ X.env.scope x:=by first | exact Or.inl rfl | exact Or.inr (Or.inl rfl) | exact Or.inr (Or.inr rfl)) (hd:(x == ("__debug__" : Str))=false:=by decide)
  (hcd:(x == ("__classdict__" : Str))=false:=by decide):QE X (.Name x pos) (we i):=⟨Z4 hN hv hd hcd⟩
theorem HG (h:yU X.mg x v) (hg:Gl X x) (hd:(x == ("__debug__" : Str))=false:=by decide):QE X (.Name x pos) (tC v):=⟨jt h hg hd⟩
theorem HF (hg:Gl X x) (hm:X.mg x=none) (hv:bootBuiltins x=some (.type T)) (hn:x ≠ "__name__" := by decide) (hd:(x == ("__debug__" : Str))=false:=by decide):QE X (.Name x pos) (tC (.ty T)):=⟨G7 hg hm hv hn hd⟩
def OB:Expr->Bool
 | .Name ..=>true
 | .Call ..=>true
 | .Subscript ..=>true
 | .Attribute ..=>true
 | .Constant ..=>true
 | .List ..=>true
 | .Tuple ..=>true
 | .BinOp ..=>true
 | _=>false
theorem Gg {e:Expr} {env:Env} (h:OB e=true):∀ whole,isTrue e env whole=(do let v <- whole; standAt e.pos; holding [v] (truthy v)):=by
 cases e<;>first | (intro _; rfl) | cases h
theorem Xw:QA X [] WJ:=⟨jr⟩
theorem Z6 (ha:QE X e te) (hr:QA X es t) (h:yl e=true:=by rfl):QA X (e::es) (T6 te t):=⟨Z3 ha.h hr.h h⟩
def pp:Expr->Bool
 | .Name ..=>true
 | .Constant ..=>true
 | .BinOp ..=>true
 | .Call ..=>true
 | .UnaryOp ..=>true
 | .Subscript ..=>true
 | .Attribute ..=>true
 | _=>false
theorem Xr {b:Expr} (h:pp b=true):Tv b:=by
 cases b<;>first | (intro _ _; rfl) | cases h
theorem Z7 {r:List V->Hp->VK->Prop} (hc:xr X (.builtin id) r) (hg:Gl X x) (hm:X.mg x=none) (hv:bootBuiltins x=some (.builtin id)) (ha:QA X (e::es) t) (hn:x ≠ "__name__" := by decide) (hdb:(x == ("__debug__" : Str))=false:=by decide)
  (he:(e::es).all yl=true:=by rfl):QE X (.Call (.Name x p) (e::es) [] pos) (WH r t):=by
 rw [List.all_cons,Bool.and_eq_true] at he
 exact ⟨GA hc hg hm hv ha.h hn hdb (uA he.1) (gH he.2)⟩
theorem jw {r:List V->Hp->VK->Prop} (hc:xr X (.type T) r) (hg:Gl X x) (hm:X.mg x=none) (hv:bootBuiltins x=some (.type T)) (ha:QA X (e::es) t) (hn:x ≠ "__name__" := by decide) (hdb:(x == ("__debug__" : Str))=false:=by decide)
  (he:(e::es).all yl=true:=by rfl):QE X (.Call (.Name x p) (e::es) [] pos) (WH r t):=by
 rw [List.all_cons,Bool.and_eq_true] at he
 exact ⟨GB hc hg hm hv ha.h hn hdb (uA he.1) (gH he.2)⟩
variable {st:Stmt} {sts body:List Stmt} {ts us tbs:TS} {g:TG} {wi:TI}
def pZ:Expr->Bool
 | .ListComp ..=>false
 | .SetComp ..=>false
 | .DictComp ..=>false
 | _=>true
theorem IY {e:Expr} {tgt:Option Expr} {n:Nat} {env:Env} (h:pZ e=true):swapsWith e tgt n env=pure false:=by
 cases e<;>first | rfl | cases h
theorem Z8 (he:QE X e te) (hs:pZ e=true:=by rfl):QS X (.Expr e pos) (Lc te):=⟨Gs he.h (IY hs)⟩
theorem Xx {i:Nat} {x:Str} {pos':Pos} (hN:X.N.Nodup) (hi:X.N[i]?=some x) (hx:vG X.env.scope x) (he:QE X e te) (hs:pZ e=true:=by rfl) (hf:X.fn x=true\/X.env.scope.names.lookup x=some .local:=by first | exact .inl rfl | exact .inr rfl | assumption) :
  QS X (.Assign [.Name x pos'] e pos) (WG te (wL i)):=⟨OI hN hi hx he.h (IY hs) hf⟩
theorem ya {i:Nat} {x:Str} (hN:X.N.Nodup) (hi:X.N[i]?=some x) (hx:vG X.env.scope x) (hf:X.fn x=true\/X.env.scope.names.lookup x=some .local:=by first | exact .inl rfl | exact .inr rfl | assumption):QG X (.Name x pos) (wL i):=⟨GO hN hi hx hf⟩
theorem HH {o i:Expr} {to ti:TE} {t:YQ} (ho:QE X o to) (hi:QE X i ti) (hs:Wn X t) (hp:pp i=true:=by rfl):QG X (.Subscript o i pos) (J6 to ti t):=by
 refine ⟨GP ho.h hi.h hs ?_⟩
 cases i<;>first | (intro _; rfl) | cases hp
theorem pz:YN X [] jX:=⟨GS⟩
theorem vg {t:TG} {u:ur} (h1:QG X e t) (h2:YN X es u) (hs:(assignEach (e::es) X.env).map (·.2)=assign e X.env::(assignEach es X.env).map (·.2):=by rfl):YN X (e::es) (u_ t u):=⟨GR h1.h h2.h hs⟩
theorem py {k:Nat} {t:ur} {n:Nat} (hc:X.calm=true) (h:YN X es t) (hn:(assignEach es X.env).length=n:=by rfl) (hst:(assignEach es X.env).findIdx? (·.1)=none:=by rfl):QG X (.Tuple es k pos) (jY X.K n t):=⟨GQ hc h.h hn hst⟩
variable {ifs:List Expr} {scope:Scope} {cl:List (Str×Addr)} {own:List Str} {tcc:TT}
variable {name:Str} {rm:V->List V->Hp->VK->Prop}
theorem LQ {env:Env} {pos:Pos}:∀ {es:List Expr},es.all yl=true->(backTo pos (starEach es env)).all (fun x=>!x.1)=true
 | [],_=>rfl
 | e::es,h=>by
  rw [List.all_cons,Bool.and_eq_true] at h
  rw [uA h.1]
  have ih:=LQ (env:=env) (pos:=pos) h.2
  unfold backTo at ih ⊢
  rw [List.map_cons,List.all_cons,ih]
  rfl
theorem jv (pa:PlainAttrs T) (slot:Slot T name id) (hty:typeOf (.builtin id)=pure (.type "method_descriptor")) (hm:pD X id rm) (ho:QE X o to) (ha:QA X (e::es) t)
  (hbase:attributeBase o name X.env (eval o X.env)=eval o X.env:=by rfl) (hline:(apos.endLine == cpos.line)=true:=by rfl) (he:(e::es).all yl=true:=by rfl) (hl:(e::es).length<30:=by decide) :
  QE X (.Call (.Attribute o name apos) (e::es) [] cpos) (LZ X.K T rm to t):=⟨by
 have ha':=LQ (env:=X.env) (pos:=cpos) he
 rw [List.all_cons,Bool.and_eq_true] at he
 refine E_ pa slot hty hm ho.h ha.h hbase ?_ hline (uA he.1) (gH he.2)
 rw [ha']
 show (true&&true&&decide ((e::es).length+0+0<30))=true
 rw [decide_eq_true (show (e::es).length+0+0<30 from hl)]
 rfl⟩
end
section
variable {P:Program} {w:World} {K:PySem.W.Frag} {mg:Str->Option Value} {base:Heap}
end
end L2
namespace L2
open PySem PySem.Spec PyProof.Rows
def Ty (K:PySem.W.Frag) (H:Hp) (a c:Addr) (xs ys:List V):Prop:=(ye K H a xs/\ye K H c ys)\/(zw K H a xs/\zw K H c ys)
section
variable {X:Cx} {pins:List (Addr×Obj)} {σ:St} {H:Hp} {s:Shared}
theorem Hi {A:Around} {a c:Addr} {xs ys:List V} {e:Nat->Bool} (I:Inv X pins σ H s) (hu:A.units<cLine) (hq:Ty X.K H a c xs ys)
  (he:∀ (j:Nat) x' y' u v,xs[j]?=some x'->ys[j]?=some y'->zi x' u->zi y' v->SeqAt.EqAt A.in1 s u v (e j)) :
  SeqAt.RcAt A s (.ref a) (.ref c) ((List.range (min xs.length ys.length)).all e&&xs.length == ys.length)/\SeqAt.RcNeAt A s (.ref a) (.ref c) (!((List.range (min xs.length ys.length)).all e&&xs.length == ys.length)):=by
 have get:∀ {zs:List V} {us:List Value} {j:Nat} (hj:j<us.toArray.size),zY zs us->∃ z,zs[j]?=some z/\zi z us.toArray[j]:=fun {zs us j} hj r=>by
  have hl:=r.length
  have hj':j<zs.length:=by
   rw [List.size_toArray] at hj
   omega
  obtain ⟨u,hu',ru⟩:=r.get (List.getElem?_eq_getElem hj')
  refine ⟨_,List.getElem?_eq_getElem hj',?_⟩
  have:us.toArray[j]=u:=by
   have h2:us[j]?=some us[j]:=List.getElem?_eq_getElem (by omega)
   rw [h2] at hu'
   simpa using hu'
  rw [this]
  exact ru
 rcases hq with ⟨ha,hc⟩ | ⟨ha,hc⟩
 ·obtain ⟨us,ra,pa,_⟩:=I.tuple ha
  obtain ⟨vs,rc,pc,_⟩:=I.tuple hc
  have h1:=ra.length
  have h2:=rc.length
  have key:∀ j (k1:j<us.toArray.size) (k2:j<vs.toArray.size),SeqAt.EqAt A.in1 s us.toArray[j] vs.toArray[j] (e j):=fun j k1 k2=>by
   obtain ⟨z1,e1,r1⟩:=get k1 ra
   obtain ⟨z2,e2,r2⟩:=get k2 rc
   exact he j z1 z2 _ _ e1 e2 r1 r2
  have p:=SeqAt.RcAt.tuples (e:=e) pa pc hu key
  have q:=SeqAt.RcNeAt.tuples (e:=e) pa pc hu key
  rw [List.size_toArray,List.size_toArray,<- h1,<- h2] at p q
  exact ⟨p,q⟩
 ·obtain ⟨us,ra,pa,_⟩:=I.list ha
  obtain ⟨vs,rc,pc,_⟩:=I.list hc
  have h1:=ra.length
  have h2:=rc.length
  have key:∀ j (k1:j<us.toArray.size) (k2:j<vs.toArray.size),SeqAt.EqAt A.in1 s us.toArray[j] vs.toArray[j] (e j):=fun j k1 k2=>by
   obtain ⟨z1,e1,r1⟩:=get k1 ra
   obtain ⟨z2,e2,r2⟩:=get k2 rc
   exact he j z1 z2 _ _ e1 e2 r1 r2
  by_cases hl:xs.length=ys.length
  ·have hs:us.toArray.size=vs.toArray.size:=by rw [List.size_toArray,List.size_toArray]; omega
   have p:=SeqAt.RcAt.lists (e:=e) pa.isList pc.isList hs hu key
   have q:=SeqAt.RcNeAt.lists (e:=e) pa.isList pc.isList hs hu key
   have e1:min xs.length ys.length=us.toArray.size:=by rw [List.size_toArray]; omega
   have e2:(xs.length == ys.length)=true:=by simp [hl]
   rw [e1,e2,Bool.and_true]
   exact ⟨p,q⟩
  ·have hs:(us.toArray.size != vs.toArray.size)=true:=by
    rw [List.size_toArray,List.size_toArray]
    simp
    omega
   have e2:(xs.length == ys.length)=false:=by simp [hl]
   rw [e2,Bool.and_false]
   exact ⟨SeqAt.RcAt.lists_lengths pa.isList pc.isList hs hu,SeqAt.RcNeAt.lists_lengths pa.isList pc.isList hs hu⟩
theorem XI (A:Around):A.in1.units=A.units+1:=rfl
end
theorem BM {x:V} (h:vv x=true):vO x x=true:=by
 cases x<;>first | rfl | (simp [vO]; done) | cases h
end L2
namespace L2
open PySem PySem.Spec PyProof.Rows
open PySem.W (hideAll)
section
variable {P:Program} {w:World} {l:List Env} {H H':Hp} {h B h' h'':Heap}
end
section
variable {X:Cx} {pins:List (Addr×Obj)} {σ:St} {H H':Hp} {s:Shared} {B h':Heap}
variable {x:Str} {C:Addr} {np cpos pos:Pos} {e:Expr} {es:List Expr} {t:TA} {E:XK}
end
section
variable {P:Program} {w:World} {K:PySem.W.Frag} {mg:Str->Option Value} {base:Heap} {N:List Str} {qual:Str} {scope:Scope} {f:Addr} {cd:Value} {A:Around} {outer:List Env} {s₀:Shared} {H₀:Hp} {E:XK}
end
section
variable {X:Cx} {x:Str} {np cpos pos p:Pos} {e:Expr} {es:List Expr} {t:TA} {E:XK} {C:Addr} {ps:List Str} {j k:Nat} {sp:Sp}
end
end L2
namespace L2
open PySem PySem.Spec PyProof.Rows
section
variable {X:Cx} {pins:List (Addr×Obj)} {σ:St} {H H':Hp} {s:Shared} {a C:Addr}
theorem P_ {fs ex:List Addr} {H H':Hp} {h h':Heap} {D:Addr} {o:HO} (u:Un fs ex H H' h h') (hD:h.get? D=none) (hn:H' D=none):Un fs ex H (zX H' D o) h h' where
 keep:=u.keep
 slot:=u.slot
 free:=fun b ob q n hx=>by rw [yT (fun z=>by subst z; rw [hD] at q; cases q)]; exact u.free b ob q n hx
 there:=u.there
 tups:=fun b xs q=>by rw [yT (vA (u.tups b xs q) hn)]; exact u.tups b xs q
 frzs:=fun b ob v q=>by rw [yT (vA (u.frzs b ob v q) hn)]; exact u.frzs b ob v q
 tbls:=fun b ps q=>by
  obtain ⟨more,z⟩:=u.tbls b ps q
  exact ⟨more,by rw [yT (vA z hn)]; exact z⟩
end
section
variable {X:Cx} {x n:Str} {p pos np hpos tpos:Pos} {e e1 e2:Expr} {es:List Expr} {ta:TA} {te:TE} {tx:TX} {ps:List Str} {j k i:Nat} {sp:Sp} {E:XK} {D:Addr}
variable {suite:List Stmt} {ts:TS} {b₀:Stmt}
end
end L2
namespace L2
open PySem PySem.Spec PyProof.Rows
section
variable {X:Cx} {x:Str} {p pos:Pos} {e:Expr} {es:List Expr} {t:TA} {ps:List Str} {j k:Nat} {sp:Sp}
end
end L2
namespace L2
open PySem PySem.Spec PyProof.Rows
section
variable {X:Cx} {e e1 e2:Expr} {es:List Expr} {te:TE} {t:TJ} {pos:Pos}
end
end L2
namespace L2
open PySem PySem.Spec PyProof.Rows
open PySem.W (Looks findIn mroIn looks_findIn looks_mroIn clsIn)
section
variable {prog:Program} {w:World} {A:Around} {E:Value->Shared->Prop} {h:Heap} {g:Array GenState} {d:Drawn} {t:Nat} {os:OsState} {a C:Addr} {o:Obj} {K:PySem.W.Frag}
end
end L2
namespace L2
open PySem PySem.Spec PyProof.Rows
section
variable {X:Cx}
theorem RA {bs:List Bool} {its:List Value} (r:zY (bs.map V.bl) its) {i:Nat} {v:Value} (h:its.toArray[i]?=some v):v=.bool (bs.getD i false):=by
 have hi:i<its.length:=by
  rw [List.getElem?_toArray] at h
  exact (List.getElem?_eq_some_iff.mp h).1
 have hl:bs.length=its.length:=by have:=r.length; rw [List.length_map] at this; exact this
 have hx:(bs.map V.bl)[i]?=some (.bl (bs.getD i false)):=by
  rw [List.getElem?_map,List.getD_eq_getElem?_getD,List.getElem?_eq_getElem (by omega)]
  rfl
 obtain ⟨u,hu,ru⟩:=r.get hx
 rw [List.getElem?_toArray,hu] at h
 cases h
 exact ru
theorem Hg {bs:List Bool}:(List.range bs.length).all (fun i=>bs.getD i false)=bs.all id:=by
 rw [Bool.eq_iff_iff,List.all_eq_true,List.all_eq_true]
 constructor
 ·intro h b hb
  obtain ⟨i,hi,rfl⟩:=List.mem_iff_getElem.mp hb
  have:=h i (List.mem_range.mpr hi)
  rwa [List.getD_eq_getElem?_getD,List.getElem?_eq_getElem hi] at this
 ·intro h i hi
  have hi':=List.mem_range.mp hi
  rw [List.getD_eq_getElem?_getD,List.getElem?_eq_getElem hi']
  exact h _ (List.getElem_mem hi')
def OW (K:PySem.W.Frag):List V->Hp->VK->Prop:=fun xs H Q=>∃ (p:Addr) (bs:List Bool),xs=[.ref p]/\zw K H p (bs.map V.bl)/\Q (.bl (bs.all id)) H
theorem X0 (hc:X.calm=true):xr X (.builtin "all") (OW X.K):=by
 intro pins s σ H xs us Q I r h
 obtain ⟨p,bs,rfl,hq,q⟩:=h
 obtain ⟨u,rfl,rx⟩:=vU r
 cases rx
 have hd:=I.ok.hd hc
 refine call_all_walk ?_
 obtain ⟨its,rv,pl,hz⟩:=I.list hq
 have hl:bs.length=its.toArray.size:=by have:=rv.length; rw [List.length_map] at this; rw [List.size_toArray]; exact this
 have hlt:p<s.heap.objs.size:=by obtain ⟨o,n,e,_⟩:=pl; exact Heap.lt_size e
 refine wpAny_pyIter_list pl.isList ?_
 refine ⟨_,_,_,_,_,_,fun i=>bs.getD i false,rfl,Walks.list (by exact hd) s.heap.objs.size p (Nat.ne_of_lt hlt) its.toArray,⟨⟨_,Heap.get?_push_size _ rfl,rfl,rfl⟩,pl.isList.push _⟩,?_,?_⟩
 ·intro i v Q' E' s' hv h'
  rw [RA rv hv]
  exact wpAny_pure h'
 ·intro h' tk k
  rw [<- hl,Hg]
  exact ⟨.bl (bs.all id),H,I.kept (t':=tk) fun b o eb=>k b o (fun z=>by
   have:b=s.heap.objs.size:=by simpa using z
   rw [this] at eb
   exact absurd (Heap.lt_size eb) (Nat.lt_irrefl _)) (Heap.get?_push_of_some _ eb),rfl,q⟩
end
end L2
namespace L2
open PySem PySem.Spec PyProof.Rows
open Builtin.SmallTypes (nextOf)
structure pG (P:Program) (w:World) (it l:Addr) (st:Nat->Heap->Prop) (n:Nat) (val:Nat->Value):Prop where
 keep:∀ i h h',st i h->(∀ b o,(b=it\/b=l)->h.get? b=some o->h'.get? b=some o)->st i h'
 item:∀ {A:Around} {Q:Value->Shared->Prop} {E:Value->Shared->Prop} {s:Shared} (i:Nat),st i s.heap->i<n->(∀ h',st (i+1) h'->Heap.SameBut it s.heap h'->Q (val i) { s with heap:=h' })->wpAny (model P w) A (nextOf (.ref it)) Q E s
 done:∀ {A:Around} {Q:Value->Shared->Prop} {E:Value->Shared->Prop} {s:Shared} (i:Nat),A.handled=none->st i s.heap->n<=i->
  (∀ h' e,Heap.ExtBut it s.heap h'->(∃ o,h'.get? e=some o/\o.cls=.type "StopIteration")->E (.ref e) { s with heap:=h' })->wpAny (model P w) A (nextOf (.ref it)) Q E s
section
variable {prog:Program} {w:World} {A:Around} {E:Value->Shared->Prop} {s:Shared}
theorem CL {it t:Addr} {i:Nat} {items} {x:Value} {Q:Value->Shared->Prop} (hit:s.heap.IsTupleIter it t i) (ht:s.heap.IsTuple t items) (hx:items[i]?=some x)
  (hQ:∀ h',h'.IsTupleIter it t (i+1)->Heap.SameBut it s.heap h'->Q x { s with heap:=h' }):wpAny (model prog w) A (nextOf (.ref it)) Q E s:=by
 obtain ⟨o,ho,hc,hd⟩:=id hit
 obtain ⟨ol,hol,_,nl,hdl⟩:=ht
 unfold nextOf
 refine wpAny_bind (wpAny_callSpecial?_slot (name:=Str.ofString "__next__") hit.typeIs F.slot_tuple_iterator_next
  (wpAny_call_entry F.slot_tuple_iterator_next hit.typeIs F.entry_tuple_iterator_next ?_ (F.args_tuple_iterator_next_1 _)))
 refine wpAny_bind (m:=field (.ref it) 0) (wpAny_field ho hd (x:=.ref t) rfl ?_)
 show wpAny _ _ (if (Value.ref t == Value.none)=true then _ else _) _ _ s
 rw [if_neg (show ¬ ((Value.ref t == Value.none)=true) from Bool.false_ne_true)]
 refine wpAny_bind (m:=field (.ref it) 1) (wpAny_field ho hd (x:=.int i 0) rfl ?_)
 refine wpAny_bind (m:=seqItems? (.ref t)) (wpAny_seqItems hol hdl ?_)
 simp only [Int.toNat_natCast,hx]
 refine wpAny_bind (wpAny_setField ho hd (by simp) (wpAny_pure ⟨x,rfl,wpAny_pure (hQ _ ?_ (Heap.SameBut.update ..))⟩))
 exact ⟨_,Heap.get?_update_self _ ho (Obj.isFreed_of_fields (Obj.data_mapFields hd _)),(Obj.cls_mapFields ..).trans hc,by
  rw [Obj.data_mapFields hd]; simp [rawInt]⟩
theorem CK {it t:Addr} {i:Nat} {items} {Q:Value->Shared->Prop} (hh:A.handled=none) (hit:s.heap.IsTupleIter it t i) (ht:s.heap.IsTuple t items) (hx:items[i]?=none)
  (hE:∀ h' e,Heap.ExtBut it s.heap h'->(∃ o,h'.get? e=some o/\o.cls=.type "StopIteration")->E (.ref e) { s with heap:=h' }):wpAny (model prog w) A (nextOf (.ref it)) Q E s:=by
 obtain ⟨o,ho,hc,hd⟩:=id hit
 obtain ⟨ol,hol,_,nl,hdl⟩:=ht
 unfold nextOf
 refine wpAny_bind (wpAny_callSpecial?_slot (name:=Str.ofString "__next__") hit.typeIs F.slot_tuple_iterator_next
  (wpAny_call_entry F.slot_tuple_iterator_next hit.typeIs F.entry_tuple_iterator_next ?_ (F.args_tuple_iterator_next_1 _)))
 refine wpAny_bind (m:=field (.ref it) 0) (wpAny_field ho hd (x:=.ref t) rfl ?_)
 show wpAny _ _ (if (Value.ref t == Value.none)=true then _ else _) _ _ s
 rw [if_neg (show ¬ ((Value.ref t == Value.none)=true) from Bool.false_ne_true)]
 refine wpAny_bind (m:=field (.ref it) 1) (wpAny_field ho hd (x:=.int i 0) rfl ?_)
 refine wpAny_bind (m:=seqItems? (.ref t)) (wpAny_seqItems hol hdl ?_)
 simp only [Int.toNat_natCast,hx]
 refine wpAny_bind (wpAny_rule (wpAny_bind (wpAny_setField ho hd (by simp) ?_)))
 refine wpAny_bind (m:=newExc (.type "StopIteration") []) ?_
 simp only [newExc,newTuple]
 refine wpAny_bind (wpAny_newObj_type ?_ (by size_fits))
 refine wpAny_bind (m:=firstArgMember _ _) (wpAny_of_eq (a:=Value.none) (by first | rfl | (simp only [firstArgMember]; rfl)) ?_)
 refine wpAny_newObj_type ?_ (by size_fits)
 simp only [raiseNew]
 refine wpAny_bind (wpAny_handled ?_)
 first | rw [show A.in1.handled=none from hh] | rw [hh]
 refine wpAny_bind (wpAny_pure (wpAny_throw ?_))
 exact hE _ _ (((Heap.SameBut.update ..).extBut.push _).push _) ⟨_,Heap.get?_push_size _ rfl,rfl⟩
theorem Np {it l:Addr} (hne:l≠it) (items:Array Value):pG prog w it l (fun i h=>h.IsListIter it l i/\h.IsList l items) items.size (fun i=>items.getD i .none) where
 keep:=fun i h h' st k=>⟨st.1.at fun o e=>k it o (.inl rfl) e,st.2.at fun o e=>k l o (.inr rfl) e⟩
 item:=fun i st hi hQ=>wpAny_nextOf_list_item st.1 st.2 (x:=items.getD i .none) (by simp [Array.getD,hi]) fun h' st' sb=>hQ h' ⟨st',st.2.extBut sb.extBut hne⟩ sb
 done:=fun i hh st hi hE=>wpAny_nextOf_list_end hh st.1 st.2 (Array.getElem?_eq_none hi) hE
theorem Nq {it l:Addr} (hne:l≠it) (items:Array Value):pG prog w it l (fun i h=>h.IsTupleIter it l i/\h.IsTuple l items) items.size (fun i=>items.getD i .none) where
 keep:=fun i h h' st k=>⟨st.1.at fun o e=>k it o (.inl rfl) e,st.2.at fun o e=>k l o (.inr rfl) e⟩
 item:=fun i st hi hQ=>CL st.1 st.2 (x:=items.getD i .none) (by simp [Array.getD,hi]) fun h' st' sb=>hQ h' ⟨st',st.2.extBut sb.extBut hne⟩ sb
 done:=fun i hh st hi hE=>CK hh st.1 st.2 (Array.getElem?_eq_none hi) hE
variable {z TI TO i1 i2 l1 l2:Addr} {st1 st2:Nat->Heap->Prop} {n1 n2:Nat} {v1 v2:Nat->Value} {a b:Value} {k:Nat}
theorem RL {Q:Value->Shared->Prop} (D:ZipApart z TI TO i1 i2 l1 l2) (S1:pG prog w i1 l1 st1 n1 v1) (S2:pG prog w i2 l2 st2 n2 v2)
  (hz:IsZip s.heap z TI TO .none) (hTI:IsPair s.heap TI (.ref i1) (.ref i2)) (hTO:IsPair s.heap TO a b) (h1:st1 k s.heap) (h2:st2 k s.heap) (k1:k<n1) (k2:k<n2)
  (hi1:i1<s.heap.objs.size) (hi2:i2<s.heap.objs.size) (hl1:l1<s.heap.objs.size) (hl2:l2<s.heap.objs.size)
  (hQ:∀ h',IsZip h' z TI TO (rawInt s.heap.objs.size)->IsPair h' TO (v1 k) (v2 k)->st1 (k+1) h'->st2 (k+1) h'->IsPair h' s.heap.objs.size (v1 k) (v2 k)->
   (∀ c o,c≠z->c≠TO->c≠i1->c≠i2->s.heap.get? c=some o->h'.get? c=some o)->Q (.ref s.heap.objs.size) { s with heap:=h' }) :
  wpAny (model prog w) A (Builtin.«zip.__next__» ⟨[.ref z],[]⟩) (fun fin s'=>∃ v,fin=.done (.ret v)/\Q v s') E s:=by
 refine wpAny_bind (m:=field (.ref z) 2) (wpAny_field hz rfl (x:=.bool false) rfl ?_)
 refine wpAny_bind (m:=field (.ref z) 3) (wpAny_field hz rfl (x:=.ref TI) rfl ?_)
 refine wpAny_bind (wpAny_seqItems hTI rfl ?_)
 refine wpAny_bind (m:=Builtin.SmallTypes.ownedTupleIsFree (.ref z)) ?_
 unfold Builtin.SmallTypes.ownedTupleIsFree
 refine wpAny_bind (wpAny_field hz rfl (x:=.none) rfl (wpAny_pure ?_))
 simp only [if_true]
 refine wpAny_bind (wpAny_rule (wpAny_bind (wpAny_field hz rfl (x:=.ref TO) rfl ?_)))
 refine wpAny_bind (wpAny_setField_rec hz (by simp) fun ha hza sa=>?_)
 replace hza:IsZip ha z TI TO .ellipsis:=hza
 refine wpAny_bind ?_
 simp only [List.zipIdx_cons,List.zipIdx_nil,List.forIn_cons,List.forIn_nil]
 have h1a:st1 k ha:=S1.keep k _ _ h1 fun c o hc e=>sa.extBut c o (by rcases hc with rfl | rfl; exact D.i1z; exact D.l1z) e
 refine wpAny_bind (wpAny_bind (wpAny_onRaise (wpAny_bind (m:=nextOf (.ref i1)) (S1.item k h1a k1 fun hb h1b sb=>wpAny_pure ?_))))
 have hTOb:IsPair hb TO a b:=sb.extBut _ _ D.TOi1 (sa.extBut _ _ D.TOz hTO)
 refine wpAny_bind (wpAny_seqItems hTOb rfl (wpAny_bind (wpAny_updateSeq_pair hTOb fun hc hTOc sc=>?_)))
 replace hTOc:IsPair hc TO (v1 k) b:=hTOc
 refine wpAny_bind (wpAny_letGo (wpAny_pure ?_))
 have h2c:st2 k hc:=S2.keep k _ _ h2 fun c o hcc e=>by
  rcases hcc with rfl | rfl
  ·exact sc.extBut _ _ D.TOi2.symm (sb.extBut _ _ D.i12.symm (sa.extBut _ _ D.i2z e))
  ·exact sc.extBut _ _ D.l2TO (sb.extBut _ _ D.l2i1 (sa.extBut _ _ D.l2z e))
 refine wpAny_bind (wpAny_bind (wpAny_onRaise (wpAny_bind (m:=nextOf (.ref i2)) (S2.item k h2c k2 fun hd h2d sd=>wpAny_pure ?_))))
 have hTOd:IsPair hd TO (v1 k) b:=sd.extBut _ _ D.TOi2 hTOc
 refine wpAny_bind (wpAny_seqItems hTOd rfl (wpAny_bind (wpAny_updateSeq_pair hTOd fun he hTOe se=>?_)))
 replace hTOe:IsPair he TO (v1 k) (v2 k):=hTOe
 refine wpAny_bind (wpAny_letGo (wpAny_pure (wpAny_pure ?_)))
 refine wpAny_bind (wpAny_seqItems hTOe rfl (wpAny_bind (wpAny_newTuple ?_)))
 have hsz:he.objs.size=s.heap.objs.size:=by rw [se.1,sd.1,sc.1,sb.1,sa.1]
 have hze:IsZip he z TI TO .ellipsis:=se.extBut _ _ D.TOz.symm (sd.extBut _ _ D.i2z.symm (sc.extBut _ _ D.TOz.symm (sb.extBut _ _ D.i1z.symm hza)))
 have hke:∀ c o,c≠z->c≠TO->c≠i1->c≠i2->s.heap.get? c=some o->he.get? c=some o:=fun c o c1 c2 c3 c4 e=>
  se.extBut _ _ c2 (sd.extBut _ _ c4 (sc.extBut _ _ c2 (sb.extBut _ _ c3 (sa.extBut _ _ c1 e))))
 have h1e:st1 (k+1) he:=S1.keep _ _ _ h1b fun c o hcc e=>by
  rcases hcc with rfl | rfl
  ·exact se.extBut _ _ D.TOi1.symm (sd.extBut _ _ D.i12 (sc.extBut _ _ D.TOi1.symm e))
  ·exact se.extBut _ _ D.l1TO (sd.extBut _ _ D.l1i2 (sc.extBut _ _ D.l1TO e))
 have h2e:st2 (k+1) he:=S2.keep _ _ _ h2d fun c o hcc e=>by
  rcases hcc with rfl | rfl
  ·exact se.extBut _ _ D.TOi2.symm e
  ·exact se.extBut _ _ D.l2TO e
 have hzlt:z<he.objs.size:=Heap.lt_size hze
 refine wpAny_bind (m:=Builtin.SmallTypes.ownedTupleHandOut (.ref z) (.ref he.objs.size)) ?_
 unfold Builtin.SmallTypes.ownedTupleHandOut
 have hzf:IsZip (he.push { cls:=.type "tuple",data:=.seq #[v1 k,v2 k] }) z TI TO .ellipsis:=Heap.get?_push_of_some _ hze
 refine wpAny_bind (wpAny_setField_rec hzf (by simp) fun hg hzg sg=>?_)
 replace hzg:IsZip hg z TI TO (rawInt he.objs.size):=hzg
 refine wpAny_setField_rec hzg (by simp) fun hh hzh sh=>?_
 replace hzh:IsZip hh z TI TO (rawInt he.objs.size):=hzh
 have up:∀ c o,c≠z->he.get? c=some o->hh.get? c=some o:=fun c o c1 e=>sh.extBut _ _ c1 (sg.extBut _ _ c1 (Heap.get?_push_of_some _ e))
 have hT:IsPair hh he.objs.size (v1 k) (v2 k):=sh.extBut _ _ (Nat.ne_of_gt hzlt) (sg.extBut _ _ (Nat.ne_of_gt hzlt) (Heap.get?_push_size _ rfl))
 rw [hsz] at hzh hT
 refine wpAny_pure ⟨_,rfl,?_⟩
 show Q (.ref he.objs.size) _
 rw [hsz]
 refine hQ hh hzh (up _ _ D.TOz hTOe) (S1.keep _ _ _ h1e fun c o hcc e=>up c o ?_ e) (S2.keep _ _ _ h2e fun c o hcc e=>up c o ?_ e) hT fun c o c1 c2 c3 c4 e=>up c o c1 (hke c o c1 c2 c3 c4 e)
 ·rcases hcc with rfl | rfl
  ·exact D.i1z
  ·exact D.l1z
 ·rcases hcc with rfl | rfl
  ·exact D.i2z
  ·exact D.l2z
theorem RK {Q:Fin->Shared->Prop} (hh:A.handled=none) (D:ZipApart z TI TO i1 i2 l1 l2) (S1:pG prog w i1 l1 st1 n1 v1) (S2:pG prog w i2 l2 st2 n2 v2)
  (hz:IsZip s.heap z TI TO .none) (hTI:IsPair s.heap TI (.ref i1) (.ref i2)) (hTO:IsPair s.heap TO a b) (h1:st1 k s.heap) (h2:st2 k s.heap) (hend:n1<=k\/n2<=k)
  (hE:∀ h' e,(∀ c o,c≠z->c≠TO->c≠i1->c≠i2->s.heap.get? c=some o->h'.get? c=some o)->(∃ o,h'.get? e=some o/\o.cls=.type "StopIteration")->E (.ref e) { s with heap:=h' }) :
  wpAny (model prog w) A (Builtin.«zip.__next__» ⟨[.ref z],[]⟩) Q E s:=by
 refine wpAny_bind (m:=field (.ref z) 2) (wpAny_field hz rfl (x:=.bool false) rfl ?_)
 refine wpAny_bind (m:=field (.ref z) 3) (wpAny_field hz rfl (x:=.ref TI) rfl ?_)
 refine wpAny_bind (wpAny_seqItems hTI rfl ?_)
 refine wpAny_bind (m:=Builtin.SmallTypes.ownedTupleIsFree (.ref z)) ?_
 unfold Builtin.SmallTypes.ownedTupleIsFree
 refine wpAny_bind (wpAny_field hz rfl (x:=.none) rfl (wpAny_pure ?_))
 simp only [if_true]
 refine wpAny_bind (wpAny_rule (wpAny_bind (wpAny_field hz rfl (x:=.ref TO) rfl ?_)))
 refine wpAny_bind (wpAny_setField_rec hz (by simp) fun ha hza sa=>?_)
 replace hza:IsZip ha z TI TO .ellipsis:=hza
 refine wpAny_bind ?_
 simp only [List.zipIdx_cons,List.zipIdx_nil,List.forIn_cons,List.forIn_nil]
 have h1a:st1 k ha:=S1.keep k _ _ h1 fun c o hc e=>sa.extBut c o (by rcases hc with rfl | rfl; exact D.i1z; exact D.l1z) e
 by_cases k1:k<n1
 ·have k2:n2<=k:=by omega
  refine wpAny_bind (wpAny_bind (wpAny_onRaise (wpAny_bind (m:=nextOf (.ref i1)) (S1.item k h1a k1 fun hb h1b sb=>wpAny_pure ?_))))
  have hTOb:IsPair hb TO a b:=sb.extBut _ _ D.TOi1 (sa.extBut _ _ D.TOz hTO)
  refine wpAny_bind (wpAny_seqItems hTOb rfl (wpAny_bind (wpAny_updateSeq_pair hTOb fun hc hTOc sc=>?_)))
  refine wpAny_bind (wpAny_letGo (wpAny_pure ?_))
  have h2c:st2 k hc:=S2.keep k _ _ h2 fun c o hcc e=>by
   rcases hcc with rfl | rfl
   ·exact sc.extBut _ _ D.TOi2.symm (sb.extBut _ _ D.i12.symm (sa.extBut _ _ D.i2z e))
   ·exact sc.extBut _ _ D.l2TO (sb.extBut _ _ D.l2i1 (sa.extBut _ _ D.l2z e))
  refine wpAny_bind (wpAny_bind (wpAny_onRaise (wpAny_bind (m:=nextOf (.ref i2)) (S2.done k hh h2c k2 fun hd e sd he=>?_))))
  obtain ⟨oe,hoe,hce⟩:=he
  have hzd:IsZip hd z TI TO .ellipsis:=sd _ _ D.i2z.symm (sc.extBut _ _ D.TOz.symm (sb.extBut _ _ D.i1z.symm hza))
  have hez:e≠z:=fun x=>by subst x; rw [hzd] at hoe; cases hoe; simp at hce
  exact wpAny_setField_rec hzd (by simp) fun hf _ sf=>hE hf e (fun c o c1 c2 c3 c4 x=>sf.extBut _ _ c1 (sd _ _ c4 (sc.extBut _ _ c2 (sb.extBut _ _ c3 (sa.extBut _ _ c1 x))))) ⟨oe,sf.extBut _ _ hez hoe,hce⟩
 ·refine wpAny_bind (wpAny_bind (wpAny_onRaise (wpAny_bind (m:=nextOf (.ref i1)) (S1.done k hh h1a (by omega) fun hb e sb he=>?_))))
  obtain ⟨oe,hoe,hce⟩:=he
  have hzb:IsZip hb z TI TO .ellipsis:=sb _ _ D.i1z.symm hza
  have hez:e≠z:=fun x=>by subst x; rw [hzb] at hoe; cases hoe; simp at hce
  exact wpAny_setField_rec hzb (by simp) fun hf _ sf=>hE hf e (fun c o c1 _ c3 _ x=>sf.extBut _ _ c1 (sb _ _ c3 (sa.extBut _ _ c1 x))) ⟨oe,sf.extBut _ _ hez hoe,hce⟩
end
end L2
namespace L2
open PySem PySem.Spec PyProof.Rows
def v7 (K:PySem.W.Frag) (tp:Bool) (H:Hp) (a:Addr) (xs:List V):Prop:=match tp with
 | true=>ye K H a xs
 | false=>zw K H a xs
def kQ (tp:Bool):String:=match tp with
 | true => "tuple_iterator"
 | false => "list_iterator"
def vL (tp:Bool) (h:Heap) (a:Addr) (its:Array Value):Prop:=match tp with
 | true=>h.IsTuple a its
 | false=>h.IsList a its
def qK (tp:Bool) (h:Heap) (it l:Addr) (i:Nat):Prop:=∃ o,h.get? it=some o/\o.cls=.type (kQ tp)/\o.data=.fields #[.ref l,.int i 0]
theorem qK.at {tp:Bool} {h h':Heap} {it l:Addr} {i:Nat} (x:qK tp h it l i) (e:∀ o,h.get? it=some o->h'.get? it=some o):qK tp h' it l i:=let ⟨o,ho,r⟩:=x; ⟨o,e _ ho,r⟩
theorem vL.push {tp:Bool} {h:Heap} {a:Addr} {its:Array Value} (x:vL tp h a its) (o:Obj):vL tp (h.push o) a its:=by
 cases tp
 ·exact Heap.IsList.push x o
 ·exact Heap.IsTuple.push x o
theorem vL.lt {tp:Bool} {h:Heap} {a:Addr} {its:Array Value} (x:vL tp h a its):a<h.objs.size:=by
 cases tp
 ·obtain ⟨o,e,_⟩:=x; exact Heap.lt_size e
 ·obtain ⟨o,e,_⟩:=x; exact Heap.lt_size e
section
variable {prog:Program} {w:World} {A:Around} {E:Value->Shared->Prop} {s:Shared}
theorem WB {tp:Bool} {it l:Addr} (hne:l≠it) (items:Array Value):pG prog w it l (fun i h=>qK tp h it l i/\vL tp h l items) items.size (fun i=>items.getD i .none):=by
 cases tp
 ·exact Np hne items
 ·exact Nq hne items
theorem OS {tp:Bool} {l:Addr} {items:Array Value} {Q:Value->Shared->Prop} (h:vL tp s.heap l items)
  (hQ:Q (.ref s.heap.objs.size) { s with heap:=s.heap.push { cls:=.type (kQ tp),data:=.fields #[.ref l,.int 0 0] } }):wpAny (model prog w) A (pyIter (.ref l)) Q E s:=by
 cases tp
 ·exact wpAny_pyIter_list (show s.heap.IsList l items from h) hQ
 ·exact wpAny_pyIter_tuple (show s.heap.IsTuple l items from h) hQ
abbrev WU (t1:Bool) (h:Heap) (l1:Addr):Heap:=h.push { cls:=.type (kQ t1),data:=.fields #[.ref l1,.int 0 0] }
abbrev WV (t1 t2:Bool) (h:Heap) (l1 l2:Addr):Heap:=(WU t1 h l1).push { cls:=.type (kQ t2),data:=.fields #[.ref l2,.int 0 0] }
abbrev WX (t1 t2:Bool) (h:Heap) (l1 l2:Addr):Heap:=(WV t1 t2 h l1 l2).push { cls:=.type "tuple",data:=.seq #[.ref h.objs.size,.ref (WU t1 h l1).objs.size] }
abbrev WY (t1 t2:Bool) (h:Heap) (l1 l2:Addr):Heap:=(WX t1 t2 h l1 l2).push { cls:=.type "tuple",data:=.seq #[.none,.none] }
abbrev gO (t1 t2:Bool) (h:Heap) (l1 l2:Addr):Heap:=(WY t1 t2 h l1 l2).push { cls:=.type "zip",data:=.fields #[.none,.bool false,.bool false,.ref (WV t1 t2 h l1 l2).objs.size,.ref (WX t1 t2 h l1 l2).objs.size] }
theorem RO (t1 t2:Bool) (l1 l2:Addr) (xs ys:Array Value) :
  Meets (Builtin.«zip.__new__» ⟨[.type "zip",.ref l1,.ref l2],[]⟩) (fun _ R s=>vL t1 s.heap l1 xs/\vL t2 s.heap l2 ys/\R (.ok (.ret (.ref (WY t1 t2 s.heap l1 l2).objs.size))) { s with heap:=gO t1 t2 s.heap l1 l2 }):=
 .of_wp fun prog w A R s h=>by
  obtain ⟨hp,g,d,tk,os⟩:=s; obtain ⟨hl1,hl2,h⟩:=h
  have hsub:=sub_zip
  have hL1:vL t1 (Shared.heap ⟨hp,g,d,tk,os⟩) l1 xs:=hl1
  have hL2:vL t2 (Shared.heap ⟨hp.push { cls:=.type (kQ t1),data:=.fields #[.ref l1,.int 0 0] },g,d,tk,os⟩) l2 ys:=vL.push hl2 _
  wp_walk using OS hL1,OS hL2
  exact ⟨_,rfl,h⟩
theorem Mt {t1 t2:Bool} {l1 l2:Addr} {xs ys:Array Value} {Q:Value->Shared->Prop} (hl1:vL t1 s.heap l1 xs) (hl2:vL t2 s.heap l2 ys)
  (h:∀ h',IsZip h' (s.heap.objs.size+4) (s.heap.objs.size+2) (s.heap.objs.size+3) .none->IsPair h' (s.heap.objs.size+2) (.ref s.heap.objs.size) (.ref (s.heap.objs.size+1))->
   IsPair h' (s.heap.objs.size+3) .none .none->qK t1 h' s.heap.objs.size l1 0->qK t2 h' (s.heap.objs.size+1) l2 0->
   (∀ c o,s.heap.get? c=some o->h'.get? c=some o)->Q (.ref (s.heap.objs.size+4)) { s with heap:=h' }) :
  wpAny (model prog w) A (call (.type "zip") [.ref l1,.ref l2]) Q E s:=by
 refine callType_new F.called_zip (by decide) (F.typeCall_zip_2 _ _) (F.newCall_zip_2 _ _) (fun obj=>F.args_object_init_3 obj _ _) F.entry_zip_new (RO t1 t2 l1 l2 xs ys) ⟨hl1,hl2,?_⟩
 have z1:(WU t1 s.heap l1).objs.size=s.heap.objs.size+1:=Heap.size_push ..
 have z2:(WV t1 t2 s.heap l1 l2).objs.size=s.heap.objs.size+2:=by rw [Heap.size_push,z1]
 have z3:(WX t1 t2 s.heap l1 l2).objs.size=s.heap.objs.size+3:=by rw [Heap.size_push,z2]
 have z4:(WY t1 t2 s.heap l1 l2).objs.size=s.heap.objs.size+4:=by rw [Heap.size_push,z3]
 have g5:(gO t1 t2 s.heap l1 l2).get? (WY t1 t2 s.heap l1 l2).objs.size=some _:=Heap.get?_push_size _ rfl
 have g4:(gO t1 t2 s.heap l1 l2).get? (WX t1 t2 s.heap l1 l2).objs.size=some _:=Heap.get?_push_of_some _ (Heap.get?_push_size _ rfl)
 have g3:(gO t1 t2 s.heap l1 l2).get? (WV t1 t2 s.heap l1 l2).objs.size=some _:=Heap.get?_push_of_some _ (Heap.get?_push_of_some _ (Heap.get?_push_size _ rfl))
 have g2:(gO t1 t2 s.heap l1 l2).get? (WU t1 s.heap l1).objs.size=some _:=Heap.get?_push_of_some _ (Heap.get?_push_of_some _ (Heap.get?_push_of_some _ (Heap.get?_push_size _ rfl)))
 have g1:(gO t1 t2 s.heap l1 l2).get? s.heap.objs.size=some _:=Heap.get?_push_of_some _ (Heap.get?_push_of_some _ (Heap.get?_push_of_some _ (Heap.get?_push_of_some _ (Heap.get?_push_size _ rfl))))
 show _/\_
 rw [z2,z3,z4] at g5
 rw [z1,z2] at g3
 rw [z3] at g4
 rw [z1] at g2
 rw [z4]
 exact ⟨⟨_,g5,rfl⟩,h _ g5 g3 g4 ⟨_,g1,rfl,rfl⟩ ⟨_,g2,rfl,rfl⟩ fun c o x=>
  Heap.get?_push_of_some _ (Heap.get?_push_of_some _ (Heap.get?_push_of_some _ (Heap.get?_push_of_some _ (Heap.get?_push_of_some _ x))))⟩
end
section
variable {X:Cx} {pins:List (Addr×Obj)} {σ:St} {H:Hp} {s:Shared}
theorem Inv.seqX {tp:Bool} {a:Addr} {xs:List V} (I:Inv X pins σ H s) (h:v7 X.K tp H a xs):∃ its:List Value,zY xs its/\vL tp s.heap a its.toArray:=by
 cases tp
 ·obtain ⟨its,r,p,_⟩:=I.list h
  exact ⟨its,r,p.isList⟩
 ·obtain ⟨its,r,p,_⟩:=I.tuple h
  exact ⟨its,r,p⟩
theorem Inv.seqX_inj {tp:Bool} {a:Addr} {xs ys:List V} (I:Inv X pins σ H s) (h:v7 X.K tp H a xs) (h':v7 X.K tp H a ys):xs=ys:=by
 cases tp
 ·exact I.list_inj h h'
 ·exact I.tuple_inj h h'
theorem Ll {fs ch:List Addr} {h h':Heap} (k:∀ b o,b ∉ ch->h.get? b=some o->h'.get? b=some o):Un fs ch H H h h':=
 ⟨fun b o e _ _ hx=>k b o hx e,fun b o e _ _ hx=>⟨o.slots,k b o hx e⟩,fun _ _ _ n _=>n,fun b o e hx=>⟨o,k b o hx e⟩,fun _ _ z=>z,fun _ _ _ z=>z,fun b ps e=>⟨#[],by rw [e]; simp⟩⟩
theorem JJ {P:Program} {w:World} {ch:List Addr} {h h':Heap} (x:yu P w H h) (hn:∀ b∈ch,H b=none) (k:∀ b o,b ∉ ch->h.get? b=some o->h'.get? b=some o):yu P w H h':=fun b u e=>by
 have nit:∀ c v,H c=some v->c ∉ ch:=fun c v e z=>by rw [hn c z] at e; cases e
 refine (x b u e).stay (fun c v hc q=>k c v ?_ q) (fun _ q=>q) fun _ _ q=>q
 rcases hc with z | z
 ·rw [z]; exact nit b u e
 ·exact nit c _ z
theorem Inv.but {ch:List Addr} {h':Heap} {tk:Nat} (I:Inv X pins σ H s) (hf:∀ b∈ch,uF X pins H b) (k:∀ b o,b ∉ ch->s.heap.get? b=some o->h'.get? b=some o):Inv X pins σ H { s with heap:=h',toks:=tk }:=
 I.call' (s':={ s with heap:=h',toks:=tk }) rfl (Ll k) (JJ I.hok (fun b hb=>(hf b hb).1) k) I.bare fun b hb=>⟨(hf b hb).2.2.2.1,(hf b hb).2.1,(hf b hb).2.2.2.2.1,(hf b hb).2.2.2.2.2⟩
theorem Inv.butNew {ch:List Addr} {h':Heap} {tk:Nat} {T:Addr} {o:HO} (I:Inv X pins σ H s) (hf:∀ b∈ch,uF X pins H b) (k:∀ b o,b ∉ ch->s.heap.get? b=some o->h'.get? b=some o) (hT:s.heap.get? T=none) (hn:H T=none)
  (new:yo X.prog X.w (zX H T o) h' T o):Inv X pins σ (zX H T o) { s with heap:=h',toks:=tk }:=
 I.call' (s':={ s with heap:=h',toks:=tk }) rfl (P_ (Ll k) hT hn) (JK (JJ I.hok (fun b hb=>(hf b hb).1) k) hn new) I.bare fun b hb=>⟨(hf b hb).2.2.2.1,(hf b hb).2.1,(hf b hb).2.2.2.2.1,(hf b hb).2.2.2.2.2⟩
end
def Wg (K:PySem.W.Frag) (t1 t2:Bool) (a b:Addr):It:=
  ⟨fun i H=>∃ xs ys x y,v7 K t1 H a xs/\v7 K t2 H b ys/\xs[i]?=some x/\ys[i]?=some y,
   fun i H v H'=>∃ p,H p=none/\v=.ref p/\∀ xs ys,v7 K t1 H a xs->v7 K t2 H b ys->∃ x y,xs[i]?=some x/\ys[i]?=some y/\H'=zX H p (.tup [x,y]),
   fun i H=>∃ xs ys,v7 K t1 H a xs/\v7 K t2 H b ys/\(xs.length<=i\/ys.length<=i)⟩
theorem Pt {P:Program} {w:World} {K:PySem.W.Frag} {elts:List Expr} {kk:Nat} {pos:Pos} (t1 t2:Bool) (a b z TI TO i1 i2:Addr) (D:ZipApart z TI TO i1 i2 a b) :
  qO P w K (.Tuple elts kk pos) (Wg K t1 t2 a b) [z,TI,TO,i1,i2] z (fun i h=>IsZip h z TI TO .none/\IsPair h TI (.ref i1) (.ref i2)/\(∃ u v,IsPair h TO u v)/\qK t1 h i1 a i/\qK t2 h i2 b i) where
 mem:=by simp
 obj:=fun i h st c hc=>by
  obtain ⟨s1,s2,⟨u,v,s3⟩,⟨o4,s4,_,d4⟩,⟨o5,s5,_,d5⟩⟩:=st
  simp only [List.mem_cons,List.not_mem_nil,or_false] at hc
  rcases hc with rfl | rfl | rfl | rfl | rfl
  ·exact ⟨_,s1,fun v q=>nomatch q⟩
  ·exact ⟨_,s2,fun v q=>nomatch q⟩
  ·exact ⟨_,s3,fun v q=>nomatch q⟩
  ·exact ⟨_,s4,fun v q=>by rw [d4] at q; cases q⟩
  ·exact ⟨_,s5,fun v q=>by rw [d5] at q; cases q⟩
 keep:=fun i h h' st k=>by
  obtain ⟨s1,s2,⟨u,v,s3⟩,s4,s5⟩:=st
  exact ⟨k z (by simp) _ s1,k TI (by simp) _ s2,⟨u,v,k TO (by simp) _ s3⟩,s4.at fun o e=>k i1 (by simp) o e,s5.at fun o e=>k i2 (by simp) o e⟩
 item:=by
  intro X hP hw hK hc i pins s σ H E I hf st hg
  subst hP hw hK
  obtain ⟨s1,s2,⟨u,v,s3⟩,s4,s5⟩:=st
  obtain ⟨xs,ys,x,y,hx,hy,ex,ey⟩:=hg
  obtain ⟨us,ru,pu⟩:=I.seqX hx
  obtain ⟨ws,rw',pw⟩:=I.seqX hy
  obtain ⟨xu,hxu,rxu⟩:=ru.get ex
  obtain ⟨yw,hyw,ryw⟩:=rw'.get ey
  have k1:i<us.toArray.size:=by rw [List.size_toArray]; exact (List.getElem?_eq_some_iff.mp hxu).1
  have k2:i<ws.toArray.size:=by rw [List.size_toArray]; exact (List.getElem?_eq_some_iff.mp hyw).1
  have e1:us.toArray.getD i .none=xu:=by
   have:=List.getElem?_eq_some_iff.mp hxu
   obtain ⟨l,e⟩:=this
   simp [Array.getD,l,e]
  have e2:ws.toArray.getD i .none=yw:=by
   have:=List.getElem?_eq_some_iff.mp hyw
   obtain ⟨l,e⟩:=this
   simp [Array.getD,l,e]
  have hT:s.TypeIs (.ref z) "zip" := ⟨_,s1,rfl⟩
  have q4:i1<s.heap.objs.size:=by obtain ⟨o,e,_⟩:=s4; exact Heap.lt_size e
  have q5:i2<s.heap.objs.size:=by obtain ⟨o,e,_⟩:=s5; exact Heap.lt_size e
  unfold pyNext
  refine wpAny_bind (wpAny_attempt (wpAny_callSpecial?_slot (name:=Str.ofString "__next__") hT F.slot_zip_next (wpAny_call_entry F.slot_zip_next hT F.entry_zip_next
   (RL D (WB D.l1i1 us.toArray) (WB D.l2i2 ws.toArray) s1 s2 s3 ⟨s4,pu⟩ ⟨s5,pw⟩ k1 k2 q4 q5 pu.lt pw.lt fun h' a1 a2 a3 a4 a5 a6=>wpAny_pure ?_) (F.args_zip_next_1 _))))
  rw [e1,e2] at a2 a5
  refine ⟨_,rfl,wpAny_letOwnedTupleGo_zip (s:={ s with heap:=h' }) a1 fun h'' b1 sb=>?_⟩
  have hTs:s.heap.get? s.heap.objs.size=none:=by
   cases q:s.heap.get? s.heap.objs.size with
   | none=>rfl
   | some o=>exact absurd (Heap.lt_size q) (Nat.lt_irrefl _)
  have hTf:H s.heap.objs.size=none:=I.hok.fresh (Nat.le_refl _)
  have hTz:s.heap.objs.size≠z:=Nat.ne_of_gt (Heap.lt_size s1)
  have tup:h''.get? s.heap.objs.size=some { cls:=.type "tuple",data:=.seq #[xu,yw] }:=sb.extBut _ _ hTz a5
  have kk:∀ c o,c ∉ [z,TI,TO,i1,i2]->s.heap.get? c=some o->h''.get? c=some o:=fun c o hc e=>by
   simp only [List.mem_cons,List.not_mem_nil,or_false,not_or] at hc
   exact sb.extBut _ _ hc.1 (a6 c o hc.1 hc.2.2.1 hc.2.2.2.1 hc.2.2.2.2 e)
  have new:yo X.prog X.w (zX H s.heap.objs.size (.tup [x,y])) h'' s.heap.objs.size (.tup [x,y]):=⟨(by show 2<=sizeLine; decide),[xu,yw],.cons rxu (.cons ryw .nil),⟨_,tup,rfl,_,rfl⟩⟩
  refine ⟨.ref s.heap.objs.size,zX H s.heap.objs.size (.tup [x,y]),I.butNew (tk:=s.toks) hf kk hTs hTf new,rfl,⟨s.heap.objs.size,hTf,rfl,fun xs' ys' hx' hy'=>?_⟩,⟨b1,?_,⟨_,_,sb.extBut _ _ D.TOz a2⟩,a3.1.at fun o e=>sb.extBut _ _ D.i1z e,a4.1.at fun o e=>sb.extBut _ _ D.i2z e⟩,fun c hc=>?_⟩
  ·rw [I.seqX_inj hx' hx,I.seqX_inj hy' hy]
   exact ⟨x,y,ex,ey,rfl⟩
  ·exact sb.extBut _ _ D.TIz (a6 _ _ D.TIz D.TITO D.TIi1 D.TIi2 s2)
  ·rw [yT]
   ·exact (hf c hc).1
   ·intro q
    have hlt:c<s.heap.objs.size:=by
     simp only [List.mem_cons,List.not_mem_nil,or_false] at hc
     rcases hc with rfl | rfl | rfl | rfl | rfl
     ·exact Heap.lt_size s1
     ·exact Heap.lt_size s2
     ·exact Heap.lt_size s3
     ·exact q4
     ·exact q5
    rw [q] at hlt
    exact absurd hlt (Nat.lt_irrefl _)
 done:=by
  intro X hP hw hK hc i pins s σ H E I hf st hg
  subst hP hw hK
  obtain ⟨s1,s2,⟨u,v,s3⟩,s4,s5⟩:=st
  obtain ⟨xs,ys,hx,hy,hend⟩:=hg
  obtain ⟨us,ru,pu⟩:=I.seqX hx
  obtain ⟨ws,rw',pw⟩:=I.seqX hy
  have hend':us.toArray.size<=i\/ws.toArray.size<=i:=by
   have l1:=ru.length
   have l2:=rw'.length
   rw [List.size_toArray,List.size_toArray]
   omega
  have hT:s.TypeIs (.ref z) "zip" := ⟨_,s1,rfl⟩
  unfold pyNext
  refine wpAny_bind (wpAny_attempt (wpAny_callSpecial?_slot (name:=Str.ofString "__next__") hT F.slot_zip_next (wpAny_call_entry F.slot_zip_next hT F.entry_zip_next
   (RK (by exact I.ok.hd hc) D (WB D.l1i1 us.toArray) (WB D.l2i2 ws.toArray) s1 s2 s3 ⟨s4,pu⟩ ⟨s5,pw⟩ hend' fun h' e kk he=>?_) (F.args_zip_next_1 _))))
  obtain ⟨o,ho,hcl⟩:=he
  refine wpAny_bind (wpAny_isInstance (T := "StopIteration") (b:=true) ⟨o,ho,hcl⟩ isSubtype_stop ?_)
  refine wpAny_pure ⟨rfl,I.but (tk:=s.toks) hf fun c ob hcc eb=>?_⟩
  simp only [List.mem_cons,List.not_mem_nil,or_false,not_or] at hcc
  exact kk c ob hcc.1 hcc.2.2.1 hcc.2.2.2.1 hcc.2.2.2.2 eb
 self:=fun _ _ _ _ _ st h=>wpAny_pyIter_zip st.1 h
theorem yQ {a b:Nat} (h:a≠b):@Ne Addr a b:=h
theorem RM {n l1 l2:Nat} (h1:l1<n) (h2:l2<n):ZipApart (n+4) (n+2) (n+3) n (n+1) l1 l2:=
 ⟨yQ (by omega),yQ (by omega),yQ (by omega),yQ (by omega),yQ (by omega),yQ (by omega),yQ (by omega),yQ (by omega),yQ (by omega),yQ (by omega),yQ (by omega),yQ (by omega),yQ (by omega),yQ (by omega),yQ (by omega),yQ (by omega),yQ (by omega),yQ (by omega)⟩
theorem Ma:bootBuiltins "zip" = some (.type "zip"):=by decide +kernel
section
variable {X:Cx}
def JL (K:PySem.W.Frag) (ta:TA):TI:=fun σ H R=>ta σ H fun vs H1=>∃ a b xs ys t1 t2,vs=[.ref a,.ref b]/\v7 K t1 H1 a xs/\v7 K t2 H1 b ys/\R (Wg K t1 t2 a b) H1
theorem GX {a b:Expr} {ta:TA} {p pos:Pos} {elts:List Expr} {kk:Nat} {tp:Pos} (hg:Gl X "zip") (hm:X.mg "zip" = none) (ha:PA X [a,b] ta) (hs:starEach [a,b] X.env=[(false,eval a X.env),(false,eval b X.env)]:=by rfl)
  (hs2:starEach [b] X.env=[(false,eval b X.env)]:=by rfl):PI X (.Tuple elts kk tp) (.Call (.Name "zip" p) [a,b] [] pos) (JL X.K ta):=by
 intro pins s σ H R I h
 refine Call_ (jg I hg hm Ma (PyProof.Rows.callWith_type1 (zk (ha pos pins s σ H _ I h) fun us s1 ⟨vs,H1,I1,r1,q1⟩=>?_) (by rw [hs,hs2]) (by rw [hs2]; rfl)))
 obtain ⟨l1,l2,xs,ys,t1,t2,rfl,hx,hy,q⟩:=q1
 obtain ⟨u,v,rfl,ru,rv⟩:=TL r1
 cases (show u=Value.ref l1 from ru)
 cases (show v=Value.ref l2 from rv)
 obtain ⟨us,_,pu⟩:=I1.seqX hx
 obtain ⟨ws,_,pw⟩:=I1.seqX hy
 have w1:=pu.lt
 have w2:=pw.lt
 refine Mt pu pw fun h' a1 a2 a3 a4 a5 kp=>?_
 have I2:Inv X pins σ H1 { s1 with heap:=h' }:=I1.kept (t':=s1.toks) kp
 refine wpAny_pyIter_zip (s:={ s1 with heap:=h' }) a1 ?_
 generalize hn:s1.heap.objs.size=n at a1 a2 a3 a4 a5 w1 w2
 have D:ZipApart (n+4) (n+2) (n+3) n (n+1) l1 l2:=by
  exact RM w1 w2
 refine ⟨n+4,[n+4,n+2,n+3,n,n+1],_,_,H1,rfl,I2,Pt t1 t2 l1 l2 (n+4) (n+2) (n+3) n (n+1) D,⟨a1,a2,⟨_,_,a3⟩,a4,a5⟩,fun c hc=>?_,q⟩
 have hle:s1.heap.objs.size<=c:=by
  rw [hn]
  simp only [List.mem_cons,List.not_mem_nil,or_false] at hc
  rcases hc with rfl | rfl | rfl | rfl | rfl
  ·exact Nat.le_add_right _ _
  ·exact Nat.le_add_right _ _
  ·exact Nat.le_add_right _ _
  ·exact Nat.le_refl _
  ·exact Nat.le_add_right _ _
 exact I1.fpOk hle (I1.hok.fresh hle)
theorem HI {a b:Expr} {ta:TA} {p pos:Pos} {elts:List Expr} {kk:Nat} {tp:Pos} (hg:Gl X "zip") (hm:X.mg "zip" = none) (ha:QA X [a,b] ta) (hs:yl a=true:=by rfl) (hs2:yl b=true:=by rfl) :
  QI X (.Tuple elts kk tp) (.Call (.Name "zip" p) [a,b] [] pos) (JL X.K ta):=⟨GX hg hm ha.h (by rw [uA hs,uA hs2]; rfl) (uA hs2)⟩
end
end L2
namespace L2
open PySem PySem.Spec PyProof.Rows
def QK (scope:Scope) (env:Env) (cl:List (Str×Addr)) (own:List Str):Bool:=
 scope.kind == .function&&scope.names.all (fun y=>y.2 != .cell)&&jS scope env cl own&&scope.names.all (fun y=>y.2 != .local||scope.names.lookup y.1 == some .local)
theorem xg {X:Cx} {scope:Scope} {cl:List (Str×Addr)} {own:List Str} (clos:closureFor scope X.env=pure cl) (cap:qH X.env cl:=by first | exact True.intro | exact ⟨rfl,True.intro⟩ | exact ⟨rfl,rfl,True.intro⟩ | exact ⟨rfl,rfl,rfl,True.intro⟩ | exact ⟨rfl,rfl,rfl,rfl,True.intro⟩)
  (ok:QK scope X.env cl own=true:=by rfl):p4 X scope cl own:=by
 unfold QK at ok
 simp only [Bool.and_eq_true] at ok
 obtain ⟨⟨⟨h1,h2⟩,h3⟩,h4⟩:=ok
 refine ⟨beq_iff_eq.mp h1,fun y hy e=>?_,cap,h3,clos,fun y hy e=>?_⟩
 ·have:=List.all_eq_true.mp h2 y hy
  rw [e] at this
  cases this
 ·have:=List.all_eq_true.mp h4 y hy
  rw [e] at this
  simpa using this
theorem HJ {X:Cx} {e:Expr} {te:TE} {pos:Pos} {i:Nat} {x:Str} {pos':Pos} (hN:X.N.Nodup) (hi:X.N[i]?=some x) (hx:vG X.env.scope x) (he:QE X e te) (hs:swapsWith e (some (.Name x pos')) pos.line X.env=pure false:=by rfl)
  (hf:X.fn x=true\/X.env.scope.names.lookup x=some .local:=by first | exact .inl rfl | exact .inr rfl | assumption):QS X (.Assign [.Name x pos'] e pos) (WG te (wL i)):=⟨OI hN hi hx he.h hs hf⟩
section
variable {X:Cx} (K:PySem.W.Frag) (hK:X.K=K)
include hK
end
def M7 (K:PySem.W.Frag) (a:Addr) (xs:List V):Prop:=∀ H,ye K H a xs
theorem yq {K:PySem.W.Frag} {a:Addr} {xs:List V} {d:Option Addr} {its:Array Value} {n:Nat} {sl:Array (Option Value)} (h:K.lookup a=some ⟨.type "tuple",d,.seq its n,sl⟩) (hz:its.size<=sizeLine) (r:zY xs its.toList):M7 K a xs:=
 fun _=>.inr ⟨_,its,n,h,rfl,rfl,hz,r⟩
end L2
namespace L2
open PySem PySem.Spec PyProof.Rows
open Builtin Builtin.Str
section
variable {X:Cx}
theorem Lr:∀ {ts:List Str} {its:List Value},zY (ts.map V.str) its->∃ l:List (Str×Tok),its=strValues l/\l.map (·.1)=ts
 | [],_,.nil=>⟨[],rfl,rfl⟩
 | t::ts,_,.cons r rr=>by
  obtain ⟨k,e⟩:=(show ∃ k,_=Value.str t k from r)
  obtain ⟨l,e1,e2⟩:=Lr rr
  subst e e1
  exact ⟨(t,k)::l,rfl,by rw [List.map_cons,e2]⟩
def HR (K:PySem.W.Frag):V->List V->Hp->VK->Prop:=fun x vs H Q=>∃ (sep:Str) (p:Addr) (ts:List Str),x=.str sep/\vs=[.ref p]/\zw K H p (ts.map V.str)/\(ts.map (·.length)).sum+ts.length*sep.length<=sizeLine/\Q (.str (glued sep ts)) H
theorem JD (sep:Str):∀ ts:List Str,(glued sep ts).length<=(ts.map (·.length)).sum+ts.length*sep.length
 | []=>by show (Str.length _)<=_; simp [glued,Str.length,Str.empty]
 | t::ts=>by
  have h:∀ (us:List Str) (a:Array Nat),(us.foldl (fun acc p=>acc++sep.cps++p.cps) a).size=a.size+(us.map (·.length)).sum+us.length*sep.length:=fun us=>by
   induction us with
   | nil=>intro a; simp
   | cons u us ih=>
    intro a
    rw [List.foldl_cons,ih]
    simp only [Array.size_append,List.map_cons,List.sum_cons,List.length_cons,Nat.succ_mul,Str.length]
    omega
  show (ts.foldl (fun acc p=>acc++sep.cps++p.cps) t.cps).size<=_
  rw [h]
  simp only [List.map_cons,List.sum_cons,List.length_cons,Nat.succ_mul,Str.length]
  omega
theorem C7:pD X "str.join" (HR X.K):=by
 intro pins s σ H x vs v us Q I rx rv h
 obtain ⟨sep,p,ts,rfl,rfl,hq,hz,q⟩:=h
 obtain ⟨t,rfl⟩:=(show ∃ t,v=Value.str sep t from rx)
 obtain ⟨u,rfl,ru⟩:=vU rv
 cases (show u=Value.ref p from ru)
 obtain ⟨its,r,pl,_⟩:=I.list hq
 obtain ⟨l,rfl,el⟩:=Lr r
 have hT:s.TypeIs (.ref p) "list" := pl.isList.typeIs
 obtain ⟨o,ho,hc,n,hd⟩:=pl.isList
 have hno:tooLong ((l.map (·.1)).toArray.foldl (·+·.length+sep.length) 0)=false:=by
  rw [el,StrLaws.joinTotal]
  unfold tooLong
  exact decide_eq_false (by omega)
 have fit:(glued sep ts).length<=sizeLine:=Nat.le_trans (JD sep ts) hz
 refine wpAny_call (codeAny_call_builtin F.slot_str_join.plain F.entry_str_join (F.slot_str_join.check _ _ _ _ _ _ _ _ (typeIs_str _ _ _) (F.args_str_join_2 _ _) ?_))
 obtain ⟨other,e⟩:=join_tree sep t p
 rw [e]
 refine wpAny_bind (wpAny_typeOf hT ?_)
 rw [if_pos (by decide)]
 refine wpAny_bind (wpAny_seqItems ho hd ?_)
 show wpAny _ _ (joinTail sep (strValues l)) _ _ _
 rcases l with _ | ⟨a,_ | ⟨b,c⟩⟩
 ·subst el
  exact gives_joinTail sep [] hno X.prog X.w _ (fun r s'=>match r with | .ok (.ret v)=>EP X pins σ Q v s' | .ok _=>False | .error e=>X.xe e s') s ⟨fit,.str _,H,I.tok _,⟨_,rfl⟩,q⟩
 ·subst el
  exact gives_joinTail sep [a] hno X.prog X.w _ (fun r s'=>match r with | .ok (.ret v)=>EP X pins σ Q v s' | .ok _=>False | .error e=>X.xe e s') s ⟨.str _,H,I,⟨_,rfl⟩,q⟩
 ·subst el
  exact gives_joinTail sep (a::b::c) hno X.prog X.w _ (fun r s'=>match r with | .ok (.ret v)=>EP X pins σ Q v s' | .ok _=>False | .error e=>X.xe e s') s ⟨fit,.str _,H,I.tok _,⟨_,rfl⟩,q⟩
end
def YJ (z:Str):It:=⟨fun i _=>i<z.length,fun i H x H'=>H'=H/\∃ c,z.cps[i]?=some c/\x=.str ⟨#[c]⟩,fun i _=>z.length<=i⟩
section
variable {X:Cx} {tg:Expr}
def DY (te:TE):TI:=fun σ H R=>te σ H fun x H1=>∃ z,x=.str z/\R (YJ z) H1
theorem Pr {P:Program} {w:World} {K:PySem.W.Frag} {it:Addr} {z:Str} {t:Tok} {ty:String} (hty:ty = "str_ascii_iterator" \/ ty = "str_iterator"):qO P w K tg (YJ z) [it] it (fun i h=>h.IsStrIter it ty z t i/\i<=z.length) where
 mem:=by simp
 obj:=fun i h st b hb=>by
  have e:b=it:=by simpa using hb
  subst e
  obtain ⟨⟨o,e,c,d⟩,_⟩:=st
  exact ⟨o,e,fun v z=>by rw [d] at z; cases z⟩
 keep:=fun i h h' st k=>⟨let ⟨o,ho,r⟩:=st.1; ⟨o,k it (by simp) o ho,r⟩,st.2⟩
 item:=by
  intro X hP hw hK hc i pins s σ H E I hf st hg
  subst hP hw hK
  obtain ⟨f0,f1,f2,f3,f4,f5⟩:=hf it (by simp)
  have hg':i<z.cps.size:=hg
  have hx:z.cps[i]?=some z.cps[i]:=by simp [hg']
  have go:∀ h' tk (u:Value),(∃ t',u=Value.str ⟨#[z.cps[i]]⟩ t')->h'.IsStrIter it ty z t (i+1)->Heap.SameBut it s.heap h'->∃ v,some u=some v/\
    wpAny (model X.prog X.w) X.A (letOwnedTupleGo tg (.ref it) v) (fun _ s2=>∃ x H',Inv X pins σ H' s2/\zi x v/\(YJ z).yld i H x H'/\(s2.heap.IsStrIter it ty z t (i+1)/\i+1<=z.length)/\∀ b∈[it],H' b=none) E { s with heap:=h',toks:=tk }:=fun h' tk u hu st' sb=>by
   obtain ⟨t',rfl⟩:=hu
   have I1:Inv X pins σ H { s with heap:=h',toks:=tk }:=I.turned (fun b o hb e=>(sb.2 b hb).trans e) f0 f1 f3 f4 f5
   obtain ⟨o,e,c,d⟩:=id st'
   exact ⟨_,rfl,XE (s:={ s with heap:=h',toks:=tk }) e c d (by rcases hty with rfl | rfl<;>decide) ⟨.str ⟨#[z.cps[i]]⟩,H,I1,⟨t',rfl⟩,⟨rfl,_,hx,rfl⟩,⟨st',hg⟩,fun b hb=>(hf b hb).1⟩⟩
  rcases hty with rfl | rfl
  ·exact wpAny_pyNext_ascii_item st.1 hx fun h' st' sb=>go h' _ _ ⟨_,rfl⟩ st' sb
  ·exact wpAny_pyNext_wide_item st.1 hx fun h' st' sb=>go h' _ _ ⟨_,rfl⟩ st' sb
 done:=by
  intro X hP hw hK hc i pins s σ H E I hf st hg
  subst hP hw hK
  obtain ⟨f0,f1,f2,f3,f4,f5⟩:=hf it (by simp)
  have hx:z.cps[i]?=none:=Array.getElem?_eq_none hg
  rcases hty with rfl | rfl
  ·exact wpAny_pyNext_ascii_end (I.ok.hd hc) st.1 hx fun h' eb=>⟨rfl,I.turned (t':=s.toks) (fun b o hb e=>eb b o hb e) f0 f1 f3 f4 f5⟩
  ·exact wpAny_pyNext_wide_end (I.ok.hd hc) st.1 hx fun h' eb=>⟨rfl,I.turned (t':=s.toks) (fun b o hb e=>eb b o hb e) f0 f1 f3 f4 f5⟩
 self:=fun _ _ _ _ _ st h=>by
  rcases hty with rfl | rfl
  ·exact wpAny_pyIter_striter_ascii st.1 h
  ·exact wpAny_pyIter_striter_wide st.1 h
theorem GW {e:Expr} {te:TE} (he:PE X e te):PI X tg e (DY te):=by
 intro pins s σ H R I h
 refine zk (he pins s σ H _ I h) fun v s1 ⟨x,H1,I1,r1,q1⟩=>?_
 obtain ⟨z,rfl,q⟩:=q1
 obtain ⟨t,rfl⟩:=(show ∃ t,v=Value.str z t from r1)
 have fin:∀ (ty:String),(ty = "str_ascii_iterator" \/ ty = "str_iterator")->∀ o:Obj,(s1.heap.push o).IsStrIter s1.heap.objs.size ty z t 0->Wl X pins σ tg R (.ref s1.heap.objs.size) { s1 with heap:=s1.heap.push o }:=fun ty hty o st=>
  ⟨s1.heap.objs.size,[s1.heap.objs.size],_,_,H1,rfl,I1.kept (t':=s1.toks) fun b o e=>Heap.get?_push_of_some _ e,Pr hty,⟨st,Nat.zero_le _⟩,fun b hb=>by
   have e:b=s1.heap.objs.size:=by simpa using hb
   subst e
   exact I1.fpOk (Nat.le_refl _) (I1.hok.fresh (Nat.le_refl _)),q⟩
 cases ha:z.cps.all (·<128)
 ·exact wpAny_pyIter_wide ha (fin _ (.inr rfl) _ ⟨_,Heap.get?_push_size _ rfl,rfl,rfl⟩)
 ·exact wpAny_pyIter_ascii ha (fin _ (.inl rfl) _ ⟨_,Heap.get?_push_size _ rfl,rfl,rfl⟩)
end
end L2
namespace L2
open PySem PySem.Spec PyProof.Rows
open Builtin Builtin.Str
def cutS (z:Str) (lo hi:Option Int):Str:=⟨((z.cps.toList.drop (HT.sIx z.length 0 lo)).take (HT.sIx z.length z.length hi - HT.sIx z.length 0 lo)).toArray⟩
theorem Mz (n:Nat) (lo:Option Int):(match lo with | none=>(0:Int) | some i=>max 0 (min (if i<0 then i+(n:Int) else i) (n:Int)))=((HT.sIx n 0 lo:Nat):Int)\/∃ i,lo=some i/\i<0/\(n:Int)<i+n:=by
 cases lo with
 | none=>left; rfl
 | some i=>
  left
  show max 0 (min (if i<0 then i+(n:Int) else i) (n:Int))=(((if i<0 then (i+(n:Int)).toNat else min i.toNat n):Nat):Int)
  by_cases h:i<0
  ·simp only [h,if_true]; omega
  ·simp only [h,if_false]; omega
theorem Mx (n:Nat) (hi:Option Int):(match hi with | none=>(n:Int) | some i=>max 0 (min (if i<0 then i+(n:Int) else i) (n:Int)))=((HT.sIx n n hi:Nat):Int):=by
 cases hi with
 | none=>rfl
 | some i=>
  show max 0 (min (if i<0 then i+(n:Int) else i) (n:Int))=(((if i<0 then (i+(n:Int)).toNat else min i.toNat n):Nat):Int)
  by_cases h:i<0
  ·simp only [h,if_true]; omega
  ·simp only [h,if_false]; omega
theorem M_ (n:Nat) (lo:Option Int):(match lo with | none=>(0:Int) | some i=>max 0 (min (if i<0 then i+(n:Int) else i) (n:Int)))=((HT.sIx n 0 lo:Nat):Int):=by
 rcases Mz n lo with h | ⟨i,_,h1,h2⟩
 ·exact h
 ·omega
theorem OA (z:Str) (lo hi:Option Int):(strSliceIndices lo hi 1 z.length)=(List.range (HT.sIx z.length z.length hi - HT.sIx z.length 0 lo)).map (HT.sIx z.length 0 lo+·):=by
 have h1:=M_ z.length lo
 have h2:=Mx z.length hi
 rw [<- sliceRange_one,<- h1,<- h2]
 unfold strSliceIndices
 simp only [show (1:Int) > 0 by decide,if_true]
 cases lo<;>cases hi<;>rfl
theorem B5 (z:Str) (lo hi:Option Int):(⟨((strSliceIndices lo hi 1 z.length).filterMap (z.cps[·]?)).toArray⟩:Str)=cutS z lo hi:=by
 rw [OA,pick_run]
 rfl
theorem sIx_le (n d:Nat) (hd:d<=n) (v:Option Int):HT.sIx n d v<=n:=by
 cases v with
 | none=>exact hd
 | some i=>
  show (if i<0 then (i+(n:Int)).toNat else min i.toNat n)<=n
  by_cases h:i<0
  ·simp only [h,if_true]; omega
  ·simp only [h,if_false]; omega
theorem B6 (z:Str) (lo hi:Option Int) (h:(strSliceIndices lo hi 1 z.length).length=z.length):cutS z lo hi=z:=by
 rw [OA,List.length_map,List.length_range] at h
 have a:=sIx_le z.length 0 (Nat.zero_le _) lo
 have b:=sIx_le z.length z.length (Nat.le_refl _) hi
 unfold cutS
 rw [h]
 have hz:HT.sIx z.length 0 lo=0\/z.length=0:=by omega
 have hl:z.cps.toList.length=z.length:=by simp [Str.length]
 rcases hz with q | q
 ·rw [q,List.drop_zero,<- hl,List.take_length]
 ·have e:z.cps.toList=[]:=List.eq_nil_of_length_eq_zero (by omega)
  rw [e]
  simp
  cases z with
  | mk c=>simp [Str.length] at q; simp [q]
theorem cut_len (z:Str) (lo hi:Option Int):(cutS z lo hi).length<=z.length:=by
 show (List.toArray _).size<=z.cps.size
 rw [List.size_toArray,List.length_take,List.length_drop,Array.length_toList]
 omega
section
variable {X:Cx}
theorem O3 {v:Value} {lo:Option Int} (h:IsPart v lo):∃ l:Option (Int×Tok),v=partValue l/\l.map (·.1)=lo:=by
 cases h with
 | none=>exact ⟨none,rfl,rfl⟩
 | int i t=>exact ⟨some (i,t),rfl,rfl⟩
def Og:V->Option Int->Option Int->Hp->VK->Prop:=fun x lo hi H Q=>∃ z:Str,x=.str z/\z.length<=sizeLine/\Q (.str (cutS z lo hi)) H
theorem Nb:tT X Og:=by
 intro pins s σ H x v vl vu lo hi sl Q I rx hs pl pu h
 obtain ⟨z,rfl,hz,q⟩:=h
 obtain ⟨t,rfl⟩:=(show ∃ t,v=Value.str z t from rx)
 obtain ⟨l,rfl,rfl⟩:=O3 pl
 obtain ⟨u,rfl,rfl⟩:=O3 pu
 refine ⟨"str",_,F.slot_str_getitem.lookup,typeIs_str _ _ _,?_⟩
 refine wpAny_getItem_str_slice (l:=l) (u:=u) (st:=none) hs rfl ?_
 unfold sliceMade
 have hp:slicePicked z l u none=strSliceIndices (l.map (·.1)) (u.map (·.1)) 1 z.length:=rfl
 rw [hp]
 split
 ·rename_i hc
  have e:(strSliceIndices (l.map (·.1)) (u.map (·.1)) 1 z.length).length=z.length:=by
   rw [Bool.and_eq_true] at hc
   exact beq_iff_eq.mp hc.2
  rw [B6 z _ _ e] at q
  exact ⟨.str z,H,I,⟨_,rfl⟩,q⟩
 ·rw [B5]
  exact ⟨Nat.le_trans (cut_len z _ _) hz,.str _,H,I.tok _,⟨_,rfl⟩,q⟩
end
end L2
namespace L2
open PySem PySem.Spec PyProof.Rows
open Builtin Builtin.Str
section
variable {X:Cx} {e o:Expr} {te to:TE} {pos apos cpos:Pos} {name:Str} {T id:String} {rm:V->List V->Hp->VK->Prop}
theorem OU (pa:PlainAttrs T) (slot:Slot T name id) (hty:typeOf (.builtin id)=pure (.type "method_descriptor")) (hm:pD X id rm) (ho:QE X o to)
  (hbase:attributeBase o name X.env (eval o X.env)=eval o X.env:=by rfl) (hline:(apos.endLine == cpos.line)=true:=by rfl):QE X (.Call (.Attribute o name apos) [] [] cpos) (La X.K T rm to):=⟨G4 pa slot hty hm ho.h hbase hline⟩
end
end L2
namespace L2
open PySem PySem.Spec PyProof.Rows
section
variable {κ:Type} [DecidableEq κ]
def vm (kvs:List (κ×V)) (k:κ):Option V:=(kvs.find? fun kv=>decide (kv.1=k)).map (·.2)
def wx (kvs:List (κ×V)) (k:κ) (v:V):List (κ×V):=
 if (kvs.any fun kv=>decide (kv.1=k))=true then kvs.map (fun kv=>if kv.1=k then (kv.1,v) else kv) else kvs++[(k,v)]
theorem WO {p:κ×V} {r:List (κ×V)} {k:κ} (e:p.1=k):vm (p::r) k=some p.2:=by simp [vm,List.find?_cons,e]
theorem WN {p:κ×V} {r:List (κ×V)} {k:κ} (e:¬ p.1=k):vm (p::r) k=vm r k:=by simp [vm,List.find?_cons,e]
theorem Lp (k:κ):∀ kvs:List (κ×V),(kvs.any fun kv=>decide (kv.1=k))=(vm kvs k).isSome
 | []=>rfl
 | p::r=>by
  rw [List.any_cons]
  by_cases e:p.1=k
  ·simp only [WO e,decide_eq_true e,Bool.true_or,Option.isSome_some]
  ·rw [WN e,decide_eq_false e,Bool.false_or]; exact Lp k r
theorem Vw (kvs:List (κ×V)) (k:κ) (v:V):(wx kvs k v).length<=kvs.length+1:=by
 unfold wx
 split
 ·rw [List.length_map]; omega
 ·rw [List.length_append,List.length_cons,List.length_nil]; omega
theorem uU.isSome_eq {o:Option V} {u:Option Value} (r:uU o u):o.isSome=u.isSome:=by
 cases o with
 | none=>cases u with
  | none=>rfl
  | some _=>exact (show False from r).elim
 | some _=>cases u with
  | none=>exact (show False from r).elim
  | some _=>rfl
theorem KV.val {kvs:List (κ×V)} {vs:List (κ×Value)} (r:KV kvs vs) (k:κ):uU (vm kvs k) (valueAt vs k):=by
 unfold KV at r
 induction r with
 | nil=>exact True.intro
 | @cons p q ps qs h t ih=>
  obtain ⟨h1,h2⟩:=h
  by_cases e:p.1=k
  ·have e':q.1=k:=h1.symm.trans e
   have b:valueAt (q::qs) k=some q.2:=by simp [valueAt,List.find?_cons,e']
   rw [WO e,b]; exact h2
  ·have e':¬ q.1=k:=fun z=>e (h1.trans z)
   have b:valueAt (q::qs) k=valueAt qs k:=by simp [valueAt,List.find?_cons,e']
   rw [WN e,b]; exact ih
theorem KV.any {kvs:List (κ×V)} {vs:List (κ×Value)} (r:KV kvs vs) (k:κ):(kvs.any fun kv=>decide (kv.1=k))=vs.any fun kv=>decide (kv.1=k):=by
 unfold KV at r
 induction r with
 | nil=>rfl
 | cons h t ih=>rw [List.any_cons,List.any_cons,ih,h.1]
theorem KV.repl {kvs:List (κ×V)} {vs:List (κ×Value)} (r:KV kvs vs) (k:κ) {y:V} {u:Value} (ry:zi y u) :
  KV (kvs.map fun kv=>if kv.1=k then (kv.1,y) else kv) (vs.map fun kv=>if kv.1=k then (kv.1,u) else kv):=by
 unfold KV at r ⊢
 induction r with
 | nil=>exact .nil
 | @cons p q ps qs h t ih=>
  rw [List.map_cons,List.map_cons]
  refine .cons ?_ ih
  obtain ⟨h1,h2⟩:=h
  by_cases e:p.1=k
  ·rw [if_pos e,if_pos (h1.symm.trans e)]; exact ⟨h1,ry⟩
  ·rw [if_neg e,if_neg (fun z=>e (h1.trans z))]; exact ⟨h1,h2⟩
theorem KV.put {kvs:List (κ×V)} {vs:List (κ×Value)} (r:KV kvs vs) (k:κ) {y:V} {u:Value} (ry:zi y u):KV (wx kvs k y) (stored vs k u):=by
 unfold wx stored
 rw [r.any k]
 by_cases e:(vs.any fun kv=>decide (kv.1=k))=true
 ·rw [if_pos e,if_pos e]; exact r.repl k ry
 ·rw [if_neg e,if_neg e]; exact Paired.snoc r ⟨rfl,ry⟩
theorem KV.length {kvs:List (κ×V)} {vs:List (κ×Value)} (r:KV kvs vs):kvs.length=vs.length:=Paired.length r
end
theorem tj {P:Program} {w:World} {k:Key} {u:Value} (r:zi (kV k) u):(yc P w).is k u=true:=by
 cases k with
 | inl i=>obtain ⟨t,e⟩:=(show ∃ t,u=Value.int i t from r); subst e; exact C3 P w i t
 | inr x=>obtain ⟨t,e⟩:=(show ∃ t,u=Value.str x t from r); subst e; exact U0 P w x t
theorem JX {P:Program} {w:World}:∀ {ks:List Key} {us:List Value},zY (ks.map kV) us->ItemsAre (yc P w) ks us
 | [],_,r=>by rw [List.map_nil] at r; cases r; exact .nil
 | k::ks,_,r=>by
  rw [List.map_cons] at r
  cases r with
  | cons h t=>exact .cons (tj h) (JX t)
abbrev KT (H:Hp):List (List Key×V)->List (List Key×Addr×Value)->Prop:=Paired fun p q=>p.1=q.1/\H q.2.1=some (.tup (p.1.map kV))/\zi p.2 q.2.2
theorem KT.val {H:Hp} {kvs:List (List Key×V)} {xs:List (List Key×Addr×Value)} (r:KT H kvs xs) (k:List Key):uU (vm kvs k) ((atKey xs k).map (·.2)):=by
 induction r with
 | nil=>exact True.intro
 | @cons p q ps qs h t ih=>
  obtain ⟨h1,_,h2⟩:=h
  by_cases e:p.1=k
  ·have e':q.1=k:=h1.symm.trans e
   have b:atKey (q::qs) k=some q.2:=by simp [atKey,List.find?_cons,e']
   rw [WO e,b]; exact h2
  ·have e':¬ q.1=k:=fun z=>e (h1.trans z)
   have b:atKey (q::qs) k=atKey qs k:=by simp [atKey,List.find?_cons,e']
   rw [WN e,b]; exact ih
theorem KT.repl {H:Hp} {kvs:List (List Key×V)} {xs:List (List Key×Addr×Value)} (r:KT H kvs xs) (k:List Key) {y:V} {u:Value} (ry:zi y u) :
  KT H (kvs.map fun kv=>if kv.1=k then (kv.1,y) else kv) (xs.map (putAt k u)):=by
 induction r with
 | nil=>exact .nil
 | @cons p q ps qs h t ih=>
  rw [List.map_cons,List.map_cons]
  refine .cons ?_ ih
  obtain ⟨h1,h2,h3⟩:=h
  unfold putAt
  by_cases e:p.1=k
  ·rw [if_pos e,if_pos (h1.symm.trans e)]; exact ⟨h1,h2,ry⟩
  ·rw [if_neg e,if_neg (fun z=>e (h1.trans z))]; exact ⟨h1,h2,h3⟩
theorem KT.put {H:Hp} {kvs:List (List Key×V)} {xs:List (List Key×Addr×Value)} (r:KT H kvs xs) (k:List Key) {b:Addr} {y:V} {u:Value} (hb:H b=some (.tup (k.map kV))) (ry:zi y u) :
  KT H (wx kvs k y) (storedH xs k b u):=by
 have e:(kvs.any fun kv=>decide (kv.1=k))=(atKey xs k).isSome:=by
  rw [Lp,(r.val k).isSome_eq,Option.isSome_map]
 unfold wx storedH
 rw [e]
 by_cases q:(atKey xs k).isSome=true
 ·rw [if_pos q,if_pos q]; exact r.repl k ry
 ·rw [if_neg q,if_neg q]; exact Paired.snoc r ⟨rfl,hb,ry⟩
theorem KT.keeps {H H':Hp} {kvs:List (List Key×V)} {xs:List (List Key×Addr×Value)} (r:KT H kvs xs) (ht:∀ b ys,H b=some (.tup ys)->H' b=some (.tup ys)):KT H' kvs xs:=
 Paired.mapP r fun _ _ z=>⟨z.1,ht _ _ z.2.1,z.2.2⟩
section
variable {P:Program} {w:World} {H:Hp} {h:Heap} {a:Addr}
theorem Oq {u:HO} (ok:yu P w H h) (e:Rd H a u):yo P w H h a u:=e.ok ok
theorem jU {kvs:List (Key×V)} (ok:yu P w H h) (e:Rd H a (.dK kvs)):kvs.length<=sizeLine/\(a == sysModules)=false/\∃ vs,KV kvs vs/\h.DictOf (yc P w) a vs:=
 show yo P w H h a (.dK kvs) from Oq ok e
theorem BE {kvs:List (Key×V)} (ok:yu P w H h) (e:H a=some (.dK kvs)):kvs.length<=sizeLine/\(a == sysModules)=false/\∃ vs,KV kvs vs/\h.DictOf (yc P w) a vs:=jU ok (.inl e)
theorem XR {ks:List Key} (ok:yu P w H h) (e:H a=some (.tup (ks.map kV))):(tupleKind (yc P w)).is h ks a:=by
 obtain ⟨_,its,r,o,h1,h2,n,h3⟩:=(show yo P w H h a (.tup (ks.map kV)) from ok a _ e)
 exact ⟨o,its.toArray,n,h1,h2,h3,by simpa using JX r⟩
theorem X2 {kvs:List (List Key×V)} (ok:yu P w H h) (e:Rd H a (.dT kvs)):kvs.length<=sizeLine/\(a == sysModules)=false/\
  ∃ xs,KT H kvs xs/\h.DictOfH (tupleKind (yc P w)) a xs:=by
 obtain ⟨z,y,xs,r,o,es,ep,h1,h2,h3,h4,h5⟩:=(show yo P w H h a (.dT kvs) from Oq ok e)
 refine ⟨z,y,xs,r,o,es,ep,h1,h2,h3,h4,fun x hx=>?_,h5⟩
 have all:∀ {l:List (List Key×V)} {m:List (List Key×Addr×Value)},KT H l m->∀ x∈m,(tupleKind (yc P w)).is h x.1 x.2.1:=by
  intro l m q
  induction q with
  | nil=>intro x hx; exact nomatch hx
  | @cons p q ps qs hq t ih=>
   intro x hx
   rcases List.mem_cons.mp hx with e | hx
   ·subst e
    exact XR ok (by rw [<- hq.1]; exact hq.2.1)
   ·exact ih x hx
 exact all r x hx
theorem BH {kvs:List (List Key×V)} (ok:yu P w H h) (e:H a=some (.dT kvs)):kvs.length<=sizeLine/\(a == sysModules)=false/\
  ∃ xs,KT H kvs xs/\h.DictOfH (tupleKind (yc P w)) a xs:=X2 ok (.inl e)
end
def Wb (H:Hp) (a:Addr) (y:V) (r:Option V):Prop:=
 (∃ kvs k,Rd H a (.dK kvs)/\y=kV k/\r=vm kvs k)\/∃ kvs k b,Rd H a (.dT kvs)/\y=.ref b/\H b=some (.tup (k.map kV))/\r=vm kvs k
def Ts (H:Hp) (a:Addr) (y v:V) (H':Hp):Prop:=
 (∃ kvs k,H a=some (.dK kvs)/\y=kV k/\kvs.length<sizeLine/\H'=zX H a (.dK (wx kvs k v))) \/
 ∃ kvs k b,H a=some (.dT kvs)/\y=.ref b/\H b=some (.tup (k.map kV))/\kvs.length<sizeLine/\H'=zX H a (.dT (wx kvs k v))
section
variable {X:Cx} {pins:List (Addr×Obj)} {σ:St} {H:Hp} {s:Shared} {a:Addr} {y v:V} {u r:Value} {o:Option V} {A:Around} {E:Value->Shared->Prop}
theorem Inv.big (I:Inv X pins σ H s):sysModules<s.heap.objs.size:=by
 have h:mainGlobals<s.heap.objs.size:=(I.mod.glob.keeps I.bk).lt
 exact Nat.lt_trans (by decide) h
theorem B7 {Q:Value->Shared->Prop} (hu:A.units+1<cLine) (I:Inv X pins σ H s) (g:Wb H a y o) (ry:zi y u) (h:∀ s',Inv X pins σ H s'->Q (.bool o.isSome) s') :
  wpAny (model X.prog X.w) A (compareOp .In u (.ref a)) Q E s:=by
 rcases g with ⟨kvs,k,e,ey,l⟩ | ⟨kvs,k,b,e,ey,eb,l⟩
 ·subst ey
  obtain ⟨z,hd,vs,rel,dd⟩:=jU I.hok e
  refine wpAny_in_of (tj ry) hd dd.mapOf ?_
  rw [<- (rel.val k).isSome_eq,<- l]
  exact h _ (I.tok _)
 ·subst ey
  cases (show u=Value.ref b from ry)
  obtain ⟨z,hd,xs,rel,dd⟩:=X2 I.hok e
  refine wpAny_in_heap (tupleKind_room_in1 hu) (XR I.hok eb) hd dd ?_
  have q:=(rel.val k).isSome_eq
  rw [Option.isSome_map] at q
  rw [<- q,<- l]
  exact h _ (I.tok _)
theorem B8 {Q:Value->Shared->Prop} (hu:A.units+1<cLine) (I:Inv X pins σ H s) (g:Wb H a y o) (ry:zi y u) (h:∀ s',Inv X pins σ H s'->Q (.bool (!o.isSome)) s') :
  wpAny (model X.prog X.w) A (compareOp .NotIn u (.ref a)) Q E s:=by
 rcases g with ⟨kvs,k,e,ey,l⟩ | ⟨kvs,k,b,e,ey,eb,l⟩
 ·subst ey
  obtain ⟨z,hd,vs,rel,dd⟩:=jU I.hok e
  refine wpAny_notIn_of (tj ry) hd dd.mapOf ?_
  rw [<- (rel.val k).isSome_eq,<- l]
  exact h _ (I.tok _)
 ·subst ey
  cases (show u=Value.ref b from ry)
  obtain ⟨z,hd,xs,rel,dd⟩:=X2 I.hok e
  refine wpAny_notIn_heap (tupleKind_room_in1 hu) (XR I.hok eb) hd dd ?_
  have q:=(rel.val k).isSome_eq
  rw [Option.isSome_map] at q
  rw [<- q,<- l]
  exact h _ (I.tok _)
theorem Ql {h':Heap} {t':Nat} {ob:HO} (I:Inv X pins σ H s) (mu:gS (H a)) (hs:Heap.SameBut a s.heap h') (he:∃ q,h'.get? a=some q) (new:yo X.prog X.w (zX H a ob) h' a ob) :
  Inv X pins σ (zX H a ob) { s with heap:=h',toks:=t' }:=
 I.write (x:=a) (e:=a) mu (.inl rfl) (fun b q hb z=>(hs.2 b hb).trans z) he new
theorem Qo {P:Program} {w:World} {H':Hp} {h':Heap} {kvs:List (Key×V)} {vs:List (Key×Value)} (z:kvs.length<=sizeLine) (hd:(a == sysModules)=false) (rel:KV kvs vs) (dd:h'.DictOf (yc P w) a vs) :
  yo P w H' h' a (.dK kvs):=⟨z,hd,vs,rel,dd⟩
theorem B9 {H':Hp} {Q:Unit->Shared->Prop} (hu:A.units+1<cLine) (I:Inv X pins σ H s) (g:Ts H a y v H') (ry:zi y u) (rv:zi v r) (h:∀ s',Inv X pins σ H' s'->Q () s') :
  wpAny (model X.prog X.w) A (setItem (.ref a) u r) Q E s:=by
 rcases g with ⟨kvs,k,e,ey,l,eH⟩ | ⟨kvs,k,b,e,ey,eb,l,eH⟩
 ·subst ey eH
  obtain ⟨z,hd,vs,rel,dd⟩:=BE I.hok e
  have hz:vs.length<=sizeLine:=by rw [<- rel.length]; exact z
  have hl:(wx kvs k v).length<=sizeLine:=by have:=Vw kvs k v; omega
  refine wpAny_setItem_pairs (hsz:=hz) (tj ry) dd fun h' dd' hs=>h _ ?_
  have he:∃ q,h'.get? a=some q:=let ⟨q,_,_,hq,_⟩:=dd'; ⟨q,hq⟩
  exact Ql I (by rw [e]; exact True.intro) hs he (Qo hl hd (rel.put k rv) dd')
 ·subst ey eH
  cases (show u=Value.ref b from ry)
  obtain ⟨z,hd,xs,rel,dd⟩:=BH I.hok e
  have hz:xs.length<=sizeLine:=by rw [<- Paired.length rel]; exact z
  have hl:(wx kvs k v).length<=sizeLine:=by have:=Vw kvs k v; omega
  refine wpAny_setItem_heap (hsz:=hz) (tupleKind_room_in1 hu) (XR I.hok eb) dd fun h' dd' hs=>h _ ?_
  obtain ⟨q,es,ep,hq,h2,h3,h4,_,h5⟩:=dd'
  refine Ql I (by rw [e]; exact True.intro) hs ⟨q,hq⟩ ⟨hl,hd,_,(rel.put k eb rv).keeps fun c ys ec=>?_,q,es,ep,hq,h2,h3,h4,h5⟩
  rw [yT (CG ec e (fun z=>nomatch z))]
  exact ec
end
section
variable {X:Cx} {pins:List (Addr×Obj)} {σ:St} {H:Hp} {s:Shared} {a:Addr} {kvs:List (Key×V)} {k:Key} {u:Value} {A:Around} {E:Value->Shared->Prop}
end
theorem BC {X:Cx} {pins:List (Addr×Obj)} {σ:St} {H:Hp} {s:Shared} {a:Addr} {y:V} {o:Option V} (I:Inv X pins σ H s) (g:Wb H a y o):s.TypeIs (.ref a) "dict" := by
 rcases g with ⟨kvs,k,e,_,_⟩ | ⟨kvs,k,b,e,_,_,_⟩
 ·obtain ⟨_,_,vs,_,dd⟩:=jU I.hok e
  exact dd.typeIs
 ·obtain ⟨_,_,xs,_,dd⟩:=X2 I.hok e
  exact dd.typeIs
def Kr (td ty tv:TE):TS:=fun D σ H=>tv σ H fun v H1=>td σ H1 fun x H2=>ty σ H2 fun y H3=>∃ a H4,x=.ref a/\Ts H3 a y v H4/\D.nx σ H4
section
variable {X:Cx} {o i e value:Expr} {pos pos' tpos:Pos} {td ty tv:TE}
theorem Gq (hu:X.A.units+1<cLine) (ho:PE X o td) (hi:PE X i ty) (hv:PE X value tv) (hs:swapsWith value (some (.Subscript o i pos')) pos.line X.env=pure false) :
  PS X (.Assign [.Subscript o i pos'] value pos) (Kr td ty tv):=by
 intro pins s σ H D I h
 refine wpAny_Assign_Subscript (zk (hv pins s σ H _ I h) fun r s1 ⟨v,H1,I1,rv,q1⟩=>zk (ho pins s1 σ H1 _ I1 q1) fun u s2 ⟨x,H2,I2,rx,q2⟩=>zk (hi pins s2 σ H2 _ I2 q2) fun iv s3 ⟨y,H3,I3,ry,a,H4,ex,g,q3⟩=>?_) hs
 subst ex
 obtain rfl:u=Value.ref a:=rx
 exact B9 hu I3 g ry rv fun s4 I4=>⟨σ,H4,I4,q3⟩
end
theorem BD {P:Program} {w:World} {H:Hp} (h:Heap) (hb:sysModules<h.objs.size):yo P w H (h.push { cls:=.type "dict",data:=.dict #[] }) h.objs.size (.dK []):=
 ⟨Nat.zero_le _,beq_eq_false_iff_ne.mpr (Ne.symm (Nat.ne_of_lt hb)),[],.nil,Heap.DictOf.new h⟩
def P9:TE:=fun _ H Q=>∀ p,H p=none->Q (.ref p) (zX H p (.dK []))
section
variable {X:Cx} {pos:Pos}
theorem GD:PE X (.Dict [] [] pos) P9:=fun pins s σ H Q I h=>
 wpAny_Dict_empty ⟨.ref s.heap.objs.size,_,I.laid (a:=s.heap.objs.size) (o:=.dK []) (t':=s.toks) (fun _ _ q=>Heap.get?_push_of_some _ q) (Nat.le_refl _) (BD s.heap I.big),rfl,h _ (I.hok.fresh (Nat.le_refl _))⟩
end
def tq (kvs more:List (Key×V)):List (Key×V):=more.foldl (fun acc kv=>wx acc kv.1 kv.2) kvs
theorem KV.merge:∀ {more:List (Key×V)} {rs:List (Key×Value)} {kvs:List (Key×V)} {vs:List (Key×Value)},KV more rs->KV kvs vs->KV (tq kvs more) (merged vs rs):=by
 intro more rs kvs vs r
 unfold KV at r
 induction r generalizing kvs vs with
 | nil=>intro q; exact q
 | @cons p q ps qs h t ih=>
  intro r0
  have e:KV (wx kvs p.1 p.2) (stored vs q.1 q.2):=by
   have:=r0.put p.1 h.2
   rw [<- h.1]; exact this
  exact ih e
theorem II:∀ (more kvs:List (Key×V)),(tq kvs more).length<=kvs.length+more.length
 | [],kvs=>by show kvs.length<=kvs.length+0; omega
 | p::r,kvs=>by
  have h1:=II r (wx kvs p.1 p.2)
  have h2:=Vw kvs p.1 p.2
  show (tq (wx kvs p.1 p.2) r).length<=_
  rw [List.length_cons]; omega
section
variable {X:Cx} {pins:List (Addr×Obj)} {σ:St} {H:Hp} {s:Shared} {a:Addr} {y d:V} {u r:Value} {o:Option V} {A:Around} {E:Value->Shared->Prop}
end
section
variable {X:Cx} {o e f:Expr} {apos cpos:Pos} {td ty tx:TE}
end
section
variable {X:Cx} {pins:List (Addr×Obj)} {σ:St} {H:Hp} {s:Shared} {a:Addr} {kvs:List (Key×V)} {A:Around} {E:Value->Shared->Prop}
end
section
variable {X:Cx} {pins:List (Addr×Obj)} {σ:St} {H:Hp} {s:Shared} {a:Addr} {y:V} {u:Value} {A:Around} {E:Value->Shared->Prop}
end
end L2
namespace L3
open PySem
inductive D where
 | non | bl (b:Bool) | int (i:Int) | str (x:Str) | tup (xs:List D) | lst (xs:List D) | dic (ks:List (Sum Int Str)) (vs:List D)
theorem D.ind {P:D->Prop} (non:P .non) (bl:∀ b,P (.bl b)) (int:∀ i,P (.int i)) (str:∀ x,P (.str x)) (tup:∀ xs,(∀ d∈xs,P d)->P (.tup xs)) (lst:∀ xs,(∀ d∈xs,P d)->P (.lst xs))
  (dic:∀ ks xs,(∀ d∈xs,P d)->P (.dic ks xs)) (d:D):P d:=
 D.rec (motive_1:=P) (motive_2:=fun ds=>∀ d∈ds,P d) non bl int str (fun xs h=>tup xs h) (fun xs h=>lst xs h) (fun ks xs h=>dic ks xs h) (fun _ h=>absurd h (by simp))
  (fun d ds hd hds e he=>by
   rcases List.mem_cons.mp he with z | z
   ·exact z ▸ hd
   ·exact hds e z) d
mutual
def zc:D->D->Bool
 | .non,.non=>true
 | .bl a,.bl b=>a == b
 | .bl a,.int b=>(if a then 1 else 0) == b
 | .int a,.bl b=>a == (if b then 1 else 0)
 | .int a,.int b=>a == b
 | .str a,.str b=>a == b
 | .tup xs,.tup ys=>dEqs xs ys
 | .lst xs,.lst ys=>dEqs xs ys
 | _,_=>false
def dEqs:List D->List D->Bool
 | [],[]=>true
 | x::xs,y::ys=>zc x y&&dEqs xs ys
 | _,_=>false
end
abbrev Sl:=Bool×D
abbrev zb:=List (Option Sl)
abbrev FE:=zb->Option D
abbrev FT:=zb->Option Bool
abbrev FA:=zb->Option (List D)
abbrev FG:=D->zb->Option zb
inductive Fl where
 | nx (σ:zb) | rt (o:Bool) (d:D) | bk (σ:zb) | ct (σ:zb)
abbrev FS:=zb->Option Fl
abbrev zy:Nat:=16777216
def z6 (i:Nat):FE:=fun σ=>match σ[i]? with
 | some (some (false,d))=>some d
 | _=>none
def wo (i:Nat):FE:=fun σ=>match σ[i]? with
 | some (some (_,d))=>some d
 | _=>none
def eC (d:D):FE:=fun _=>some d
def e1 (F:D->Option D) (a:FE):FE:=fun σ=>(a σ).bind F
def e2 (F:D->D->Option D) (a b:FE):FE:=fun σ=>(a σ).bind fun x=>(b σ).bind fun y=>F x y
def eL (F:List D->Option D) (a:FA):FE:=fun σ=>(a σ).bind F
def zB:FA:=fun _=>some []
def zA (a:FE) (r:FA):FA:=fun σ=>(a σ).bind fun x=>(r σ).bind fun xs=>some (x::xs)
def jR:D->Option Bool
 | .bl b=>some b
 | _=>none
def tE (a:FE):FT:=fun σ=>(a σ).bind jR
def qz (a b:FT):FT:=fun σ=>(a σ).bind fun k=>match k with
 | true=>b σ
 | false=>some false
def xG (a b:FT):FT:=fun σ=>(a σ).bind fun k=>match k with
 | true=>some true
 | false=>b σ
def tK (a:FT):FT:=fun σ=>(a σ).bind fun k=>some (!k)
def g_ (a b:FE):FE:=fun σ=>(a σ).bind fun x=>(jR x).bind fun k=>match k with
 | true=>b σ
 | false=>some (.bl false)
def VB (a b:FE):FE:=fun σ=>(a σ).bind fun x=>(jR x).bind fun k=>match k with
 | true=>some (.bl true)
 | false=>b σ
def BJ (a:FE):FE:=fun σ=>(a σ).bind fun x=>(jR x).bind fun k=>some (.bl (!k))
def pJ (c:FT) (a b:FE):FE:=fun σ=>(c σ).bind fun k=>match k with
 | true=>a σ
 | false=>b σ
def xK (a:FA):FE:=fun σ=>(a σ).bind fun xs=>some (.tup xs)
def y_ (a:FA):FE:=fun σ=>(a σ).bind fun xs=>some (.lst xs)
def yt:D->D->Option D
 | .int i,.int j=>some (.int (i+j))
 | .int i,.bl b=>some (.int (i+(if b then 1 else 0)))
 | .str x,.str y=>if x.length+y.length<=zy then some (.str (x++y)) else none
 | .lst x,.lst y=>if x.length+y.length<=zy then some (.lst (x++y)) else none
 | .tup x,.tup y=>if x.isEmpty=false/\x.length+y.length<=zy then some (.tup (x++y)) else none
 | _,_=>none
def fI (C:Int->Int->Bool) (g:Int->Int->Int):D->D->Option D
 | .int i,.int j=>match C i j with
  | true=>some (.int (g i j))
  | false=>none
 | _,_=>none
def XB:D->D->Option D
 | .int i,.int j=>some (.int (i - j))
 | _,_=>none
def qh (i:Int):Bool:=decide (-(2 ^ 64)<i)&&decide (i<2 ^ 64)
def X9:D->D->Option D:=fI (fun i _=>qh i) (·*·)
def XA:D->D->Option D:=fI (fun _ j=>qh j) (·*·)
def ym:D->D->Option D:=fI (fun _ j=>decide (0<j)) (· % ·)
def wG:D->D->Option D:=fI (fun _ j=>decide (0<j)&&decide (j<2 ^ 64)) (· / ·)
def ju (i j:Int):Bool:=decide (0<=j)&&(decide (j<=1000000)&&decide (i.natAbs<2 ^ 64))
def BU:D->D->Option D:=fI ju fun i j=>i ^ j.toNat
def pO:D->D->Option D:=fI ju fun i j=>i*2 ^ j.toNat
def BW:D->D->Option D:=fI (fun _ j=>decide (0<=j)) fun i j=>i / 2 ^ j.toNat
def wY (g:Int->Int->Int):D->D->Option D
 | .int i,.int j=>some (.int (g i j))
 | _,_=>none
def tY:D->Option D
 | .int i=>some (.int (-i))
 | _=>none
def X8:D->Option D
 | .int i=>some (.int (Builtin.bitNot i))
 | _=>none
def v8 (g:Int->Int->Bool):D->D->Option D
 | .int i,.int j=>some (.bl (g i j))
 | _,_=>none
def qX:D->Bool
 | .non=>true
 | _=>false
def pM:D->D->Option D
 | x,.non=>some (.bl (qX x))
 | _,_=>none
def VQ:D->D->Option D
 | x,.non=>some (.bl (!qX x))
 | _,_=>none
def yf:D->Bool
 | .non=>true
 | .bl _=>true
 | .int _=>true
 | .str _=>true
 | _=>false
def vN (f:D->D->Bool):List D->List D->Bool
 | x::xs,y::ys=>f x y&&vN f xs ys
 | _,_=>true
def xm:Nat->D->D->Bool
 | 0,_,_=>false
 | n+1,x,y=>match x,y with
  | .tup xs,.tup ys=>vN (xm n) xs ys
  | .lst xs,.lst ys=>vN (xm n) xs ys
  | x,y=>yf x&&yf y
def uy:D->D->Option Bool
 | .int _,.bl _=>none
 | .bl _,.int _=>none
 | x,y=>match xm 6 x y with
  | true=>some (zc x y)
  | false=>none
def zj (x y:D):Option D:=(uy x y).bind fun k=>some (.bl k)
def yL (x y:D):Option D:=(uy x y).bind fun k=>some (.bl (!k))
def uK:D->Option (Sum Int Str)
 | .int i=>some (.inl i)
 | .str x=>some (.inr x)
 | _=>none
def getK {α:Type}:List (Sum Int Str)->List α->Sum Int Str->Option α
 | k'::ks,v::vs,k=>if k'=k then some v else getK ks vs k
 | _,_,_=>none
def yI (ks:List (Sum Int Str)) (k:Sum Int Str):Bool:=ks.any fun j=>decide (j=k)
def xY (ks:List (Sum Int Str)) (k:Sum Int Str):List (Sum Int Str):=if yI ks k=true then ks else ks++[k]
def xj {α:Type} (ks:List (Sum Int Str)) (vs:List α) (k:Sum Int Str) (v:α):List α:=if yI ks k=true then List.zipWith (fun k' x=>if k'=k then v else x) ks vs else vs++[v]
def VJ (x:D):D->Option Bool
 | .lst ys=>match yf x&&ys.all yf with
  | true=>some (ys.any fun y=>zc y x)
  | false=>none
 | .tup ys=>match yf x&&ys.all yf with
  | true=>some (ys.any fun y=>zc y x)
  | false=>none
 | .str j=>match x with
  | .str i=>some (!(Builtin.Str.occurrences j i 0 j.length 1).isEmpty)
  | _=>none
 | .dic ks _=>(uK x).bind fun k=>some (yI ks k)
 | _=>none
def yJ (x y:D):Option D:=(VJ x y).bind fun k=>some (.bl k)
def qW (x y:D):Option D:=(VJ x y).bind fun k=>some (.bl (!k))
def wm {α:Type} (xs:List α) (i:Int):Option α:=if 0<=i then xs[i.toNat]? else if -(xs.length:Int)<=i then xs[(i+xs.length).toNat]? else none
def zI:D->D->Option D
 | .lst xs,.int i=>wm xs i
 | .tup xs,.int i=>wm xs i
 | .str z,.int i=>(wm z.cps.toList i).bind fun c=>some (.str ⟨#[c]⟩)
 | .dic ks vs,k=>(uK k).bind fun k=>getK ks vs k
 | _,_=>none
def yy:List D->Option D
 | [.lst xs]=>some (.int xs.length)
 | [.tup xs]=>some (.int xs.length)
 | [.str z]=>some (.int z.length)
 | _=>none
def BS:List D->Option D
 | [.int i]=>some (.int i)
 | [.bl k]=>some (.int (if k then 1 else 0))
 | _=>none
inductive qP where
 | int | bool | str | list | tuple
def qP.nm:qP->String
 | .int => "int"
 | .bool => "bool"
 | .str => "str"
 | .list => "list"
 | .tuple => "tuple"
def XL:qP->D->Option Bool
 | _,.dic _ _=>none
 | .int,.int _=>some true
 | .int,.bl _=>some true
 | .int,_=>some false
 | .bool,.bl _=>some true
 | .bool,_=>some false
 | .str,.str _=>some true
 | .str,_=>some false
 | .list,.lst _=>some true
 | .list,_=>some false
 | .tuple,.tup _=>some true
 | .tuple,_=>some false
def qU (T:qP) (a:FE):FE:=fun τ=>(a τ).bind fun d=>(XL T d).bind fun b=>some (.bl b)
def x_ (a:FE):FA:=fun σ=>(a σ).bind fun d=>match d with
 | .lst xs=>some xs
 | .tup xs=>some xs
 | .str z=>some (z.cps.toList.map fun c=>.str ⟨#[c]⟩)
 | _=>none
def uX (lo hi:FE):FA:=fun σ=>(lo σ).bind fun x=>(hi σ).bind fun y=>match x,y with
 | .int i,.int j=>if i.natAbs<=zy/\j.natAbs<=zy/\(j - i).toNat<=zy then some ((List.range (j - i).toNat).map fun k:Nat=>.int (i+k)) else none
 | _,_=>none
def zn (i:Nat):FG:=fun d σ=>some (σ.set i (some (false,d)))
def xW (i j:Nat):FG:=fun d σ=>match d with
 | .tup [x,y]=>some ((σ.set i (some (false,x))).set j (some (false,y)))
 | _=>none
def yK:FS:=fun σ=>some (.nx σ)
def zE (a b:FS):FS:=fun σ=>(a σ).bind fun f=>match f with
 | .nx σ'=>b σ'
 | f=>some f
def zU (i:Nat) (e:FE):FS:=fun σ=>(e σ).bind fun d=>some (.nx (σ.set i (some (false,d))))
def wV (i:Nat) (e:FE):FS:=fun σ=>(e σ).bind fun d=>some (.nx (σ.set i (some (true,d))))
def yH (e:FE):FS:=fun σ=>(e σ).bind fun d=>some (.rt false d)
def w8 (e:FE):FS:=fun σ=>(e σ).bind fun d=>some (.rt true d)
def qA (i:Nat):FS:=fun σ=>match σ[i]? with
 | some (some (true,d))=>some (.rt true d)
 | _=>none
def yB (c:FT) (a b:FS):FS:=fun σ=>(c σ).bind fun k=>match k with
 | true=>a σ
 | false=>b σ
def qg (g:FG) (b:FS):List D->zb->Option Fl
 | [],σ=>some (.nx σ)
 | d::r,σ=>(g d σ).bind fun σ1=>(b σ1).bind fun f=>match f with
  | .nx σ2=>qg g b r σ2
  | .ct σ2=>qg g b r σ2
  | .bk σ2=>some (.nx σ2)
  | .rt o d=>some (.rt o d)
def qo (it:FA) (g:FG) (b:FS):FS:=fun σ=>(it σ).bind fun ds=>qg g b ds σ
def wJ (c:FT) (b:FS):Nat->zb->Option Fl
 | 0,_=>none
 | n+1,σ=>(c σ).bind fun k=>match k with
  | false=>some (.nx σ)
  | true=>(b σ).bind fun f=>match f with
   | .nx σ2=>wJ c b n σ2
   | .ct σ2=>wJ c b n σ2
   | .bk σ2=>some (.nx σ2)
   | .rt o d=>some (.rt o d)
def YG:Nat:=100000000
def tJ (c:FT) (b:FS):FS:=fun σ=>wJ c b YG σ
def vi (i:Nat):FS:=fun σ=>match σ[i]? with
 | some (some (_,d))=>some (.nx (σ.set i (some (false,d))))
 | _=>none
def jy (i:Nat) (F:D->Option D):FS:=fun σ=>match σ[i]? with
 | some (some (true,d))=>(F d).bind fun d'=>some (.nx (σ.set i (some (true,d'))))
 | _=>none
def wN (i:Nat) (F:D->D->Option D) (e:FE):FS:=fun σ=>match σ[i]? with
 | some (some (true,d))=>(e σ).bind fun x=>(F d x).bind fun d'=>some (.nx (σ.set i (some (true,d'))))
 | _=>none
def wE:D->D->Option D
 | .lst xs,y=>if xs.length<zy then some (.lst (xs++[y])) else none
 | _,_=>none
def j2 (i:Nat) (k v:FE):FS:=fun σ=>(v σ).bind fun y=>match σ[i]? with
 | some (some (true,.dic ks ds))=>(k σ).bind fun x=>(uK x).bind fun x=>if ks.length<zy then some (.nx (σ.set i (some (true,.dic (xY ks x) (xj ks ds x y))))) else none
 | _=>none
def qV (ks:List (Sum Int Str)) (ds:List D) (x:D):Option D:=(uK x).bind fun k=>getK ks ds k
def VI (ks:List (Sum Int Str)) (x:D):Option D:=(uK x).bind fun k=>some (.bl (!yI ks k))
def xi (g:FG) (c:FT) (e:FE) (σ:zb):List D->Option (List D)
 | []=>some []
 | d::r=>(g d σ).bind fun σ1=>(c σ1).bind fun k=>match k with
  | true=>(e σ1).bind fun x=>(xi g c e σ r).bind fun xs=>some (x::xs)
  | false=>xi g c e σ r
def xM:FT:=fun _=>some true
def xJ (n:Nat) (it:FA) (g:FG) (c:FT) (e:FE):FE:=fun σ=>(it σ).bind fun ds=>(xi g c e (σ++List.replicate n none) ds).bind fun xs=>some (.lst xs)
def za (n:Nat) (b:FS) (ds:List D):Option (Bool×D):=(b (ds.map (fun d=>some (false,d))++List.replicate (n - ds.length) none)).bind fun f=>match f with
 | .rt o d=>some (o,d)
 | .nx _=>some (false,.non)
 | _=>none
def zQ (F:List D->Option (Bool×D)) (a:FA):FE:=fun σ=>(a σ).bind fun ds=>(F ds).bind fun r=>some r.2
def xP (F:List D->Option (Bool×D)) (a:FA):FE:=fun σ=>(a σ).bind fun ds=>(F ds).bind fun r=>match r with
 | (true,d)=>some d
 | _=>none
def X3 (F:List D->Option (Bool×D)) (a:FA):FE:=fun σ=>(zQ F a σ).bind fun d=>if yf d=true then some d else none
end L3
namespace L3
open PySem PySem.Spec PyProof.Rows L2
abbrev St:=L2.St
def MA (_:PySem.W.Frag) (H:Hp) (a:Addr) (kvs:List (Key×V)):Prop:=Rd H a (.dK kvs)
mutual
def zR (K:PySem.W.Frag) (H:Hp):D->V->Prop
 | .non,v=>v=.non
 | .bl b,v=>v=.bl b
 | .int i,v=>v=.int i
 | .str x,v=>v=.str x/\x.length<=sizeLine
 | .tup ds,v=>∃ a vs,v=.ref a/\ye K H a vs/\Reps K H ds vs/\ds.length<=sizeLine
 | .lst ds,v=>∃ a vs,v=.ref a/\zw K H a vs/\Reps K H ds vs/\ds.length<=sizeLine
 | .dic ks ds,v=>∃ a vs,v=.ref a/\MA K H a (ks.zip vs)/\ks.length=vs.length/\Reps K H ds vs/\ds.length<=sizeLine
def Reps (K:PySem.W.Frag) (H:Hp):List D->List V->Prop
 | [],vs=>vs=[]
 | d::ds,vs=>∃ v r,vs=v::r/\zR K H d v/\Reps K H ds r
end
section
variable {K:PySem.W.Frag} {G H H':Hp}
theorem Rd.mono {a:Addr} {u:HO} (s:zl H H') (h:Rd H a u):Rd H' a u:=by
 rcases h with h | ⟨o,h⟩
 ·exact .inl (s _ _ h)
 ·exact .inr ⟨o,s _ _ h⟩
theorem vF {a:Addr} {xs:List V} (s:zl H H') (h:ye K H a xs):ye K H' a xs:=by
 rcases h with h | h
 ·exact .inl (Rd.mono s h)
 ·exact .inr h
theorem wB {a:Addr} {xs:List V} (s:zl H H') (h:zw K H a xs):zw K H' a xs:=by
 rcases h with h | h
 ·exact .inl (Rd.mono s h)
 ·exact .inr h
theorem Reps.imp:∀ {ds:List D} {vs:List V},(∀ d∈ds,∀ v,zR K H d v->zR K H' d v)->Reps K H ds vs->Reps K H' ds vs
 | [],_,_,h=>h
 | d::ds,vs,f,h=>by
  obtain ⟨v,r,rfl,hv,hr⟩:=h
  exact ⟨v,r,rfl,f d List.mem_cons_self v hv,Reps.imp (fun d' m=>f d' (List.mem_cons_of_mem _ m)) hr⟩
theorem zR.mono (s:zl H H'):∀ {d:D} {v:V},zR K H d v->zR K H' d v:=fun {d}=>by
 refine D.ind (P:=fun d=>∀ v,zR K H d v->zR K H' d v) (fun v h=>h) (fun b v h=>h) (fun i v h=>h) (fun x v h=>h) ?_ ?_ ?_ d _
 ·rintro xs ih v ⟨a,vs,e,q,r,l⟩
  exact ⟨a,vs,e,vF s q,Reps.imp ih r,l⟩
 ·rintro xs ih v ⟨a,vs,e,q,r,l⟩
  exact ⟨a,vs,e,wB s q,Reps.imp ih r,l⟩
 ·rintro ks xs ih v ⟨a,vs,e,q,z,r,l⟩
  exact ⟨a,vs,e,Rd.mono s q,z,Reps.imp ih r,l⟩
theorem Reps.mono (s:zl H H') {ds:List D} {vs:List V} (h:Reps K H ds vs):Reps K H' ds vs:=Reps.imp (fun _ _ _=>zR.mono s) h
theorem Reps.length:∀ {ds:List D} {vs:List V},Reps K H ds vs->vs.length=ds.length
 | [],_,h=>by cases (show _=[] from h); rfl
 | d::ds,_,h=>by
  obtain ⟨v,r,rfl,_,hr⟩:=h
  rw [List.length_cons,List.length_cons,Reps.length hr]
theorem Reps.get:∀ {ds:List D} {vs:List V} {i:Nat} {d:D},Reps K H ds vs->ds[i]?=some d->∃ v,vs[i]?=some v/\zR K H d v
 | [],_,_,_,_,e=>by cases e
 | d::ds,_,0,_,h,e=>by
  obtain ⟨v,r,rfl,hv,hr⟩:=h
  cases e
  exact ⟨v,rfl,hv⟩
 | d::ds,_,i+1,d',h,e=>by
  obtain ⟨v,r,rfl,hv,hr⟩:=h
  exact Reps.get (i:=i) hr (by simpa using e)
theorem Reps.at {ds:List D} {vs:List V} {i:Nat} {v:V} (h:Reps K H ds vs) (e:vs[i]?=some v):∃ d,ds[i]?=some d/\zR K H d v:=by
 have l:=h.length
 have hi:i<ds.length:=by rw [<- l]; exact (List.getElem?_eq_some_iff.mp e).1
 obtain ⟨v',e',r⟩:=h.get (List.getElem?_eq_getElem hi)
 rw [e] at e'
 cases e'
 exact ⟨_,List.getElem?_eq_getElem hi,r⟩
theorem Reps.append:∀ {ds es:List D} {vs us:List V},Reps K H ds vs->Reps K H es us->Reps K H (ds++es) (vs++us)
 | [],_,_,_,h,g=>by cases (show _=[] from h); exact g
 | d::ds,_,_,_,h,g=>by
  obtain ⟨v,r,rfl,hv,hr⟩:=h
  exact ⟨v,_,rfl,hv,Reps.append hr g⟩
theorem Reps.one {d:D} {v:V} (h:zR K H d v):Reps K H [d] [v]:=⟨v,[],rfl,h,rfl⟩
theorem Reps.take:∀ {ds:List D} {vs:List V} (n:Nat),Reps K H ds vs->Reps K H (ds.take n) (vs.take n)
 | _,_,0,_=>by rw [List.take_zero,List.take_zero]; rfl
 | [],_,n+1,h=>by cases (show _=[] from h); rfl
 | d::ds,_,n+1,h=>by
  obtain ⟨v,r,rfl,hv,hr⟩:=h
  exact ⟨v,_,rfl,hv,Reps.take n hr⟩
theorem Reps.drop:∀ {ds:List D} {vs:List V} (n:Nat),Reps K H ds vs->Reps K H (ds.drop n) (vs.drop n)
 | _,_,0,h=>h
 | [],_,n+1,h=>by cases (show _=[] from h); rfl
 | d::ds,_,n+1,h=>by
  obtain ⟨v,r,rfl,hv,hr⟩:=h
  exact Reps.drop n hr
theorem Reps.ints:∀ {ns:List Int},Reps K H (ns.map D.int) (ns.map V.int)
 | []=>rfl
 | n::ns=>⟨_,_,rfl,rfl,Reps.ints⟩
end
structure zN (G H G' H':Hp):Prop where
 g:zl G G'
 h:zl H H'
 gh:zl G' H'
 new:∀ p,G' p≠none->G p≠none\/H p=none
section
variable {G H G' H' G0 H0 G1 H1 G2 H2:Hp} {p:Addr} {o:HO}
theorem zN.refl (s:zl G H):zN G H G H:=⟨zl.refl _,zl.refl _,s,fun _ h=>.inl h⟩
theorem zN.trans (a:zN G H G1 H1) (b:zN G1 H1 G2 H2):zN G H G2 H2:=⟨a.g.trans b.g,a.h.trans b.h,b.gh,fun p h=>by
 rcases b.new p h with z | z
 ·exact a.new p z
 ·exact .inr (a.h.free z)⟩
theorem zN.rebase (a:zN G0 H0 G1 H1) (b:zN G1 H0 G2 H2):zN G0 H0 G2 H2:=⟨a.g.trans b.g,b.h,b.gh,fun p h=>by
 rcases b.new p h with z | z
 ·exact a.new p z
 ·exact .inr z⟩
theorem zN.far (a:zN G0 H0 G1 H1):zN G1 H0 G1 H1:=⟨zl.refl _,a.h,a.gh,fun _ h=>.inl h⟩
theorem TF {H:Hp} {p q:Addr} {o:HO} (h:zX H p o q≠none):q=p\/H q≠none:=by
 by_cases e:q=p
 ·exact .inl e
 ·rw [yT e] at h
  exact .inr h
theorem Kt (s:zl G H):zl (zX G p o) (zX H p o):=fun b u e=>by
 by_cases hb:b=p
 ·subst hb
  rw [yj] at e ⊢
  exact e
 ·rw [yT hb] at e ⊢
  exact s _ _ e
theorem zN.lay (s:zl G H) (h:H p=none):zN G H (zX G p o) (zX H p o):=⟨wA (s.free h) o,wA h o,Kt s,fun q z=>by
 rcases TF z with e | e
 ·exact .inr (e ▸ h)
 ·exact .inl e⟩
theorem zN.layO (s:zl G H) (h:H p=none):zN G H G (zX H p o):=⟨zl.refl _,wA h o,s.trans (wA h o),fun _ z=>.inl z⟩
theorem zN.frz (a:zN G H G1 H1) (h:H p=none) (g:G1 p=none) (e:H1 p=some o):zN G H (zX G1 p o) H1:=⟨a.g.trans (wA g o),a.h,fun b u q=>by
 by_cases hb:b=p
 ·subst hb
  rw [yj] at q
  cases q
  exact e
 ·rw [yT hb] at q
  exact a.gh _ _ q,fun q z=>by
 rcases TF z with w | w
 ·exact .inr (w ▸ h)
 ·exact a.new q w⟩
end
def v6 (K:PySem.W.Frag) (G H:Hp) (d:D) (p:Addr):Prop:=match d with
 | .lst ds=>∃ vs,H p=some (.lst vs)/\Reps K G ds vs/\ds.length<=sizeLine
 | .dic ks ds=>∃ vs,H p=some (.dK (ks.zip vs))/\ks.length=vs.length/\Reps K G ds vs/\ds.length<=sizeLine
 | _=>False
section
variable {K:PySem.W.Frag} {G H G' H':Hp} {d:D} {p:Addr}
theorem v6.some (h:v6 K G H d p):H p≠none:=by
 cases d with
 | lst ds=>obtain ⟨vs,e,_⟩:=h; rw [e]; exact fun z=>nomatch z
 | dic ks ds=>obtain ⟨vs,e,_⟩:=h; rw [e]; exact fun z=>nomatch z
 | _=>exact h.elim
theorem v6.mono (g:zl G G') (h:zl H H') (o:v6 K G H d p):v6 K G' H' d p:=by
 cases d with
 | lst ds=>obtain ⟨vs,e,r,l⟩:=o; exact ⟨vs,h _ _ e,r.mono g,l⟩
 | dic ks ds=>obtain ⟨vs,e,z,r,l⟩:=o; exact ⟨vs,h _ _ e,z,r.mono g,l⟩
 | _=>exact o.elim
theorem v6.rep (s:zl G H) (o:v6 K G H d p):zR K H d (.ref p):=by
 cases d with
 | lst ds=>obtain ⟨vs,e,r,l⟩:=o; exact ⟨p,vs,rfl,zw.of e,r.mono s,l⟩
 | dic ks ds=>obtain ⟨vs,e,z,r,l⟩:=o; exact ⟨p,vs,rfl,.inl e,z,r.mono s,l⟩
 | _=>exact o.elim
theorem v6.frz (o:v6 K G H d p) (g:G p=none):∃ u,H p=Option.some u/\zR K (zX G p u) d (.ref p):=by
 cases d with
 | lst ds=>obtain ⟨vs,e,r,l⟩:=o; exact ⟨_,e,p,vs,rfl,zw.of yj,r.mono (wA g _),l⟩
 | dic ks ds=>obtain ⟨vs,e,z,r,l⟩:=o; exact ⟨_,e,p,vs,rfl,.inl yj,z,r.mono (wA g _),l⟩
 | _=>exact o.elim
end
structure zZ (K:PySem.W.Frag) (n:Nat) (G0 H0 G H:Hp) (τ:zb) (σ:St):Prop where
 ext:zN G0 H0 G H
 l1:σ.length=n
 l2:τ.length=n
 fr:∀ (i:Nat) (d:D),τ[i]?=some (some (false,d))->∃ v,σ[i]?=some (some v)/\zR K G d v
 ow:∀ (i:Nat) (d:D),τ[i]?=some (some (true,d))->∃ p,σ[i]?=some (some (V.ref p))/\G p=none/\H0 p=none/\v6 K G H d p
 ap:∀ (i j:Nat) (d e:D) (p:Addr),i≠j->τ[i]?=some (some (true,d))->τ[j]?=some (some (true,e))->σ[i]?=some (some (V.ref p))->σ[j]?=some (some (V.ref p))->False
section
variable {K:PySem.W.Frag} {n:Nat} {G0 H0 G H G' H':Hp} {τ:zb} {σ:St}
theorem zZ.go (E:zZ K n G0 H0 G H τ σ) (x:zN G H G' H'):zZ K n G0 H0 G' H' τ σ:=⟨E.ext.trans x,E.l1,E.l2,fun i d h=>by
 obtain ⟨v,e,r⟩:=E.fr i d h
 exact ⟨v,e,r.mono x.g⟩,fun i d h=>by
 obtain ⟨p,e,g,z,o⟩:=E.ow i d h
 refine ⟨p,e,?_,z,o.mono x.g x.h⟩
 cases q:G' p with
 | none=>rfl
 | some u=>
  rcases x.new p (by rw [q]; exact fun z=>nomatch z) with w | w
  ·exact absurd g w
  ·exact absurd w o.some,E.ap⟩
theorem zZ.far (E:zZ K n G0 H0 G H τ σ):zZ K n G H0 G H τ σ:=⟨E.ext.far,E.l1,E.l2,E.fr,E.ow,E.ap⟩
theorem zZ.near {Ga Ha:Hp} (a:zN G0 H0 Ga Ha) (E:zZ K n Ga H0 G H τ σ):zZ K n G0 H0 G H τ σ:=⟨a.rebase E.ext,E.l1,E.l2,E.fr,E.ow,E.ap⟩
theorem zZ.lt {i:Nat} {s:Option Sl} (E:zZ K n G0 H0 G H τ σ) (h:τ[i]?=some s):i<n:=by
 rw [<- E.l2]
 exact (List.getElem?_eq_some_iff.mp h).1
theorem xc {α:Type} {xs:List α} {i j:Nat} {x y:α} (h:(xs.set i x)[j]?=some y):(j=i/\y=x)\/(j≠i/\xs[j]?=some y):=by
 rw [List.getElem?_set] at h
 by_cases e:i=j
 ·subst e
  rw [if_pos rfl] at h
  split at h
  ·cases h; exact .inl ⟨rfl,rfl⟩
  ·cases h
 ·rw [if_neg e] at h
  exact .inr ⟨fun z=>e z.symm,h⟩
theorem t4 {α:Type} {xs:List α} {i:Nat} {x:α} (h:i<xs.length):(xs.set i x)[i]?=some x:=by rw [List.getElem?_set,if_pos rfl,if_pos h]
theorem xz {α:Type} {xs:List α} {i j:Nat} {x:α} (h:j≠i):(xs.set i x)[j]?=xs[j]?:=by rw [List.getElem?_set,if_neg (fun z=>h z.symm)]
theorem zZ.set {i:Nat} {d:D} {v:V} (E:zZ K n G0 H0 G H τ σ) (hi:i<n) (r:zR K G d v):zZ K n G0 H0 G H (τ.set i (some (false,d))) (σ.set i (some v)):=⟨E.ext,by rw [List.length_set]; exact E.l1,by rw [List.length_set]; exact E.l2,fun j e h=>by
 rcases xc h with ⟨rfl,z⟩ | ⟨ne,z⟩
 ·cases z
  exact ⟨v,t4 (by rw [E.l1]; exact hi),r⟩
 ·rw [xz ne]
  exact E.fr j e z,fun j e h=>by
 rcases xc h with ⟨rfl,z⟩ | ⟨ne,z⟩
 ·cases z
 ·rw [xz ne]
  exact E.ow j e z,fun j k e f p hne h1 h2=>by
 rcases xc h1 with ⟨rfl,z⟩ | ⟨ne,z⟩
 ·cases z
 ·rcases xc h2 with ⟨rfl,z'⟩ | ⟨ne',z'⟩
  ·cases z'
  ·rw [xz ne,xz ne']
   exact E.ap j k e f p hne z z'⟩
theorem zZ.setO {i:Nat} {d:D} {p:Addr} (E:zZ K n G0 H0 G H τ σ) (hi:i<n) (hg:G p=none) (h0:H0 p=none) (o:v6 K G H d p) (hn:∀ (j:Nat) (e:D),j≠i->τ[j]?=some (some (true,e))->σ[j]?=some (some (V.ref p))->False) :
  zZ K n G0 H0 G H (τ.set i (some (true,d))) (σ.set i (some (.ref p))):=⟨E.ext,by rw [List.length_set]; exact E.l1,by rw [List.length_set]; exact E.l2,fun j e h=>by
 rcases xc h with ⟨rfl,z⟩ | ⟨ne,z⟩
 ·cases z
 ·rw [xz ne]
  exact E.fr j e z,fun j e h=>by
 rcases xc h with ⟨rfl,z⟩ | ⟨ne,z⟩
 ·cases z
  exact ⟨p,t4 (by rw [E.l1]; exact hi),hg,h0,o⟩
 ·rw [xz ne]
  exact E.ow j e z,fun j k e f q hne h1 h2 h3 h4=>by
 rcases xc h1 with ⟨rfl,z⟩ | ⟨ne,z⟩
 ·rcases xc h2 with ⟨rfl,z'⟩ | ⟨ne',z'⟩
  ·exact hne rfl
  ·rw [t4 (by rw [E.l1]; exact hi)] at h3
   rw [xz ne'] at h4
   cases h3
   exact hn k f ne' z' h4
 ·rcases xc h2 with ⟨rfl,z'⟩ | ⟨ne',z'⟩
  ·rw [t4 (by rw [E.l1]; exact hi)] at h4
   rw [xz ne] at h3
   cases h4
   exact hn j e ne z h3
  ·rw [xz ne] at h3
   rw [xz ne'] at h4
   exact E.ap j k e f q hne z z' h3 h4⟩
theorem zZ.newO {i:Nat} {p:Addr} (E:zZ K n G0 H0 G H τ σ) (hp:H p=none):∀ (j:Nat) (e:D),j≠i->τ[j]?=some (some (true,e))->σ[j]?=some (some (V.ref p))->False:=fun j e _ h1 h2=>by
 obtain ⟨q,e1,_,_,o⟩:=E.ow j e h1
 rw [h2] at e1
 cases e1
 exact o.some hp
theorem zZ.freeze {i:Nat} {b:Bool} {d:D} (E:zZ K n G0 H0 G H τ σ) (hi:τ[i]?=some (some (b,d))):∃ G',zZ K n G0 H0 G' H (τ.set i (some (false,d))) σ/\zl G G':=by
 have hin:=E.lt hi
 cases b with
 | false=>
  refine ⟨G,?_,zl.refl _⟩
  have e:τ.set i (some (false,d))=τ:=by
   apply List.ext_getElem?
   intro j
   by_cases hj:j=i
   ·subst hj; rw [t4 (by rw [E.l2]; exact hin),hi]
   ·rw [xz hj]
  rw [e]
  exact E
 | true=>
  obtain ⟨p,e,g,z,o⟩:=E.ow i d hi
  obtain ⟨u,hu,r⟩:=o.frz g
  have x:zN G0 H0 (zX G p u) H:=E.ext.frz z g hu
  refine ⟨zX G p u,⟨x,E.l1,by rw [List.length_set]; exact E.l2,fun j d' h=>?_,fun j d' h=>?_,fun j k e1 f q hne h1 h2=>?_⟩,wA g _⟩
  ·rcases xc h with ⟨rfl,w⟩ | ⟨ne,w⟩
   ·cases w
    exact ⟨_,e,r⟩
   ·obtain ⟨v,e',r'⟩:=E.fr j d' w
    exact ⟨v,e',r'.mono (wA g _)⟩
  ·rcases xc h with ⟨rfl,w⟩ | ⟨ne,w⟩
   ·cases w
   ·obtain ⟨q,e',g',z',o'⟩:=E.ow j d' w
    refine ⟨q,e',?_,z',o'.mono (wA g _) (zl.refl _)⟩
    rw [yT (fun c=>?_)]
    ·exact g'
    ·subst c
     exact E.ap i j d d' q (fun c=>ne c.symm) hi w e e'
  ·rcases xc h1 with ⟨rfl,w⟩ | ⟨ne,w⟩
   ·cases w
   ·rcases xc h2 with ⟨rfl,w'⟩ | ⟨ne',w'⟩
    ·cases w'
    ·exact E.ap j k e1 f q hne w w'
end
section
variable (X:Cx)
structure SE (e:Expr) (f:FE):Prop where
 h:∃ t,PE X e t/\∀ {G0 H0 G H:Hp} {τ:zb} {σ:St} {d:D} {Q:VK},zZ X.K X.N.length G0 H0 G H τ σ->f τ=some d->(∀ v G' H',zN G H G' H'->zR X.K G' d v->Q v H')->t σ H Q
structure SB (e:Expr) (f:FE):Prop where
 h:∃ t,PE X e t/\∀ {G0 H0 G H:Hp} {τ:zb} {σ:St} {d:D} {Q:VK},zZ X.K X.N.length G0 H0 G H τ σ->f τ=some d->(∀ v G' H',zN G H G' H'->zR X.K H' d v->Q v H')->t σ H Q
structure SF (e:Expr) (f:FE):Prop where
 h:∃ t,PE X e t/\∀ {G0 H0 G H:Hp} {τ:zb} {σ:St} {d:D} {Q:VK},zZ X.K X.N.length G0 H0 G H τ σ->f τ=some d->(∀ p G' H',zN G H G' H'->H p=none->G' p=none->v6 X.K G' H' d p->Q (.ref p) H')->t σ H Q
structure ST (e:Expr) (f:FT):Prop where
 h:∃ t,PT X e t/\∀ {G0 H0 G H:Hp} {τ:zb} {σ:St} {d:Bool} {Q:Bool->Hp->Prop},zZ X.K X.N.length G0 H0 G H τ σ->f τ=some d->(∀ G' H',zN G H G' H'->Q d H')->t σ H Q
structure SW (e:Expr) (f:FT):Prop where
 h:∃ t,PW X e t/\∀ {G0 H0 G H:Hp} {τ:zb} {σ:St} {d:Bool} {Q:Bool->Hp->Prop},zZ X.K X.N.length G0 H0 G H τ σ->f τ=some d->(∀ G' H',zN G H G' H'->Q d H')->t σ H Q
structure SA (es:List Expr) (f:FA):Prop where
 h:∃ t,PA X es t/\∀ {G0 H0 G H:Hp} {τ:zb} {σ:St} {ds:List D} {Q:List V->Hp->Prop},zZ X.K X.N.length G0 H0 G H τ σ->f τ=some ds->(∀ vs G' H',zN G H G' H'->Reps X.K G' ds vs->Q vs H')->t σ H Q
structure gX (es:List Expr) (f:FA):Prop where
 h:∃ t,PA X es t/\∀ {G0 H0 G H:Hp} {τ:zb} {σ:St} {ds:List D} {Q:List V->Hp->Prop},zZ X.K X.N.length G0 H0 G H τ σ->f τ=some ds->(∀ vs G' H',zN G H G' H'->Reps X.K H' ds vs->Q vs H')->t σ H Q
end
def wj (K:PySem.W.Frag) (n:Nat) (G0 H0:Hp) (E:w_):Fl->Prop
 | .nx τ=>∀ σ G H,zZ K n G0 H0 G H τ σ->E.nx σ H
 | .bk τ=>∀ σ G H,zZ K n G0 H0 G H τ σ->E.bk σ H
 | .ct τ=>∀ σ G H,zZ K n G0 H0 G H τ σ->E.ct σ H
 | .rt false d=>∀ v G H,zN G0 H0 G H->zR K G d v->E.rt v H
 | .rt true d=>∀ p G H,zN G0 H0 G H->H0 p=none->G p=none->v6 K G H d p->E.rt (.ref p) H
section
variable (X:Cx)
structure SS (st:Stmt) (f:FS):Prop where
 h:∃ t,PS X st t/\∀ {G0 H0 G H:Hp} {τ:zb} {σ:St} {fl:Fl} {E:w_},zZ X.K X.N.length G0 H0 G H τ σ->f τ=some fl->wj X.K X.N.length G0 H0 E fl->t E σ H
structure vK (st:List Stmt) (f:FS):Prop where
 h:∃ t,wP X st t/\∀ {G0 H0 G H:Hp} {τ:zb} {σ:St} {fl:Fl} {E:w_},zZ X.K X.N.length G0 H0 G H τ σ->f τ=some fl->wj X.K X.N.length G0 H0 E fl->t E σ H
end
structure tU (K:PySem.W.Frag) (J:It) (G:Hp) (ds:List D):Prop where
 go:∀ i G2 H,zl G G2->zl G2 H->i<ds.length->J.go i H
 yld:∀ i G2 H x H',zl G G2->zl G2 H->i<ds.length->J.yld i H x H'->∃ G3 d,zN G2 H G3 H'/\ds[i]?=some d/\zR K G3 d x
 stop:∀ i G2 H,zl G G2->zl G2 H->ds.length<=i->J.stop i H
structure SI (X:Cx) (tg iter:Expr) (f:FA):Prop where
 h:∃ wi,PI X tg iter wi/\∀ {G0 H0 G H:Hp} {τ:zb} {σ:St} {ds:List D} {R:It->Hp->Prop},zZ X.K X.N.length G0 H0 G H τ σ->f τ=some ds->(∀ J G' H',zN G H G' H'->ds.length<=sizeLine->tU X.K J G' ds->R J H')->wi σ H R
def zP (K:PySem.W.Frag) (F:List D->Option (Bool×D)):Sp:=fun vs H Q _=>∃ G ds o d,zl G H/\Reps K G ds vs/\F ds=some (o,d)/\
 match o with
 | false=>∀ v G' H',zN G H G' H'->zR K G' d v->Q v H'
 | true=>∀ p G' H',zN G H G' H'->H p=none->G' p=none->v6 K G' H' d p->Q (.ref p) H'
end L3
namespace L3
open PySem PySem.Spec PyProof.Rows L2
theorem zG {α β:Type} {o:Option α} {f:α->Option β} {b:β} (h:o.bind f=some b):∃ a,o=some a/\f a=some b:=by
 cases o with
 | none=>cases h
 | some a=>exact ⟨a,rfl,h⟩
theorem Qs {i:Nat} {τ:zb} {d:D} (h:z6 i τ=some d):τ[i]?=some (some (false,d)):=by
 unfold z6 at h
 split at h
 ·rename_i e
  cases h
  exact e
 ·cases h
theorem Qr {i:Nat} {τ:zb} {d:D} (h:wo i τ=some d):∃ b,τ[i]?=some (some (b,d)):=by
 unfold wo at h
 split at h
 ·rename_i b d' e
  cases h
  exact ⟨_,e⟩
 ·cases h
section
variable {X:Cx} {x:Str} {p pos apos cpos p2:Pos} {e a b c o:Expr} {es yX:List Expr} {f fa fb fc:FE} {ft fu:FT} {fs:FA} {F:D->D->Option D} {r:R2}
theorem SE.sb (h:SE X e f):SB X e f:=⟨let ⟨t,p,k⟩:=h.h; ⟨t,p,fun E hf q=>k E hf fun v G' H' x r=>q v G' H' x (r.mono x.gh)⟩⟩
theorem SF.se (h:SF X e f):SE X e f:=⟨let ⟨t,p,k⟩:=h.h; ⟨t,p,fun E hf q=>k E hf fun p G' H' x hp gp o=>by
 obtain ⟨u,hu,r⟩:=o.frz gp
 exact q _ _ _ (x.frz hp gp hu) r⟩⟩
theorem zF (h:SE X e f):SB X e f:=h.sb
theorem yd (h:SF X e f):SE X e f:=h.se
theorem z7 (i:Nat) {x:Str} {pos:Pos} (hN:X.N[i]?=some x:=by rfl) (hv:qQ X.env.scope x:=by first | exact Or.inl rfl | exact Or.inr (Or.inl rfl) | exact Or.inr (Or.inr rfl)) (hd:(x == ("__debug__" : Str))=false:=by decide)
  (hcd:(x == ("__classdict__" : Str))=false:=by decide):SE X (.Name x pos) (z6 i):=⟨⟨_,Z4 hN hv hd hcd,fun E hf q=>by
 obtain ⟨v,e,r⟩:=E.fr _ _ (Qs hf)
 exact ⟨v,e,q v _ _ (zN.refl E.ext.gh) r⟩⟩⟩
theorem j_ (i:Nat) {x:Str} {pos:Pos} (hN:X.N[i]?=some x:=by rfl) (hv:qQ X.env.scope x:=by first | exact Or.inl rfl | exact Or.inr (Or.inl rfl) | exact Or.inr (Or.inr rfl)) (hd:(x == ("__debug__" : Str))=false:=by decide)
  (hcd:(x == ("__classdict__" : Str))=false:=by decide):SB X (.Name x pos) (wo i):=⟨⟨_,Z4 hN hv hd hcd,fun E hf q=>by
 obtain ⟨b,hb⟩:=Qr hf
 cases b with
 | false=>
  obtain ⟨v,e,r⟩:=E.fr _ _ hb
  exact ⟨v,e,q v _ _ (zN.refl E.ext.gh) (r.mono E.ext.gh)⟩
 | true=>
  obtain ⟨p,e,_,_,o⟩:=E.ow _ _ hb
  exact ⟨_,e,q _ _ _ (zN.refl E.ext.gh) (o.rep E.ext.gh)⟩⟩⟩
theorem Y3 {v:V} {d:D} (h:PE X e (tC v)) (r:∀ H,zR X.K H d v):SE X e (eC d):=⟨⟨_,h,fun E hf q=>by
 cases hf
 exact q v _ _ (zN.refl E.ext.gh) (r _)⟩⟩
theorem zK {i k pos}:SE X (.Constant (.int i) k pos) (eC (.int i)):=Y3 O6 fun _=>rfl
theorem vD {i k pos}:SE X (.Constant (.bool i) k pos) (eC (.bl i)):=Y3 Ey fun _=>rfl
theorem Y5 {k pos}:SE X (.Constant .none k pos) (eC .non):=Y3 GH fun _=>rfl
theorem zh {x k pos} (h:x.length<=1000:=by decide):SE X (.Constant (.str x) k pos) (eC (.str x)):=Y3 GL fun _=>⟨rfl,small h⟩
theorem vE {v:V} {d:D} (h:yU X.mg x v) (r:∀ H,zR X.K H d v) (hg:Gl X x) (hd:(x == ("__debug__" : Str))=false:=by decide):SE X (.Name x pos) (eC d):=Y3 (jt h hg hd) r
def v4 (K:PySem.W.Frag) (r:R2) (F:D->D->Option D):Prop:=∀ G H x y u v d (Q:VK),zl G H->zR K G x u->zR K G y v->F x y=some d->(∀ w G' H',zN G H G' H'->zR K G' d w->Q w H')->r u v H Q
def uG (K:PySem.W.Frag) (r:R2) (F:D->D->Option D):Prop:=∀ H x y u v d (Q:VK),zR K H x u->zR K H y v->F x y=some d->∃ k,d=.bl k/\(Q (.bl k) H->r u v H Q)
theorem zV {op:Operator} (ho:yE X (binaryOp op) r) (hF:v4 X.K r F) (ha:SE X a fa) (hb:SE X b fb):SE X (.BinOp a op b pos) (e2 F fa fb):=by
 obtain ⟨ta,pa,ka⟩:=ha.h
 obtain ⟨tb,pb,kb⟩:=hb.h
 refine ⟨⟨_,UI ho pa pb,fun E hf q=>?_⟩⟩
 obtain ⟨x,hx,hf⟩:=zG hf
 obtain ⟨y,hy,hf⟩:=zG hf
 refine ka E hx fun v G1 H1 x1 r1=>?_
 refine kb (E.go x1) hy fun u G2 H2 x2 r2=>?_
 exact hF G2 H2 x y v u _ _ x2.gh (r1.mono x2.g) r2 hf fun w G' H' x3 r3=>q w G' H' (x1.trans (x2.trans x3)) r3
theorem zf (hr:vo X r) (hF:v4 X.K r F) (ha:SE X a fa) (hb:SE X b fb) (hs:pp b=true:=by rfl):SE X (.Subscript a b pos) (e2 F fa fb):=by
 obtain ⟨ta,pa,ka⟩:=ha.h
 obtain ⟨tb,pb,kb⟩:=hb.h
 refine ⟨⟨_,Xo hr pa pb (Xr hs),fun E hf q=>?_⟩⟩
 obtain ⟨x,hx,hf⟩:=zG hf
 obtain ⟨y,hy,hf⟩:=zG hf
 refine ka E hx fun v G1 H1 x1 r1=>?_
 refine kb (E.go x1) hy fun u G2 H2 x2 r2=>?_
 exact hF G2 H2 x y v u _ _ x2.gh (r1.mono x2.g) r2 hf fun w G' H' x3 r3=>q w G' H' (x1.trans (x2.trans x3)) r3
theorem u9 {op:CmpOp} (ho:yE X (compareOp op) r) (hF:uG X.K r F) (ha:SB X a fa) (hb:SB X b fb) (hm:behindInMarks op b=false):SE X (.Compare a [op] [b] pos) (e2 F fa fb):=by
 obtain ⟨ta,pa,ka⟩:=ha.h
 obtain ⟨tb,pb,kb⟩:=hb.h
 refine ⟨⟨_,GC ho pa pb hm,fun E hf q=>?_⟩⟩
 obtain ⟨x,hx,hf⟩:=zG hf
 obtain ⟨y,hy,hf⟩:=zG hf
 refine ka E hx fun v G1 H1 x1 r1=>?_
 refine kb (E.go x1) hy fun u G2 H2 x2 r2=>?_
 obtain ⟨k,rfl,z⟩:=hF H2 x y v u _ _ (r1.mono x2.h) r2 hf
 exact z (q _ _ _ (x1.trans x2) rfl)
theorem zm {op:CmpOp} (ho:yE X (compareOp op) r) (hF:uG X.K r F) (ha:SB X a fa) (hb:SB X b fb) (hm:behindInMarks op b=false):ST X (.Compare a [op] [b] pos) (tE (e2 F fa fb)):=by
 obtain ⟨ta,pa,ka⟩:=ha.h
 obtain ⟨tb,pb,kb⟩:=hb.h
 refine ⟨⟨_,OK ho pa pb hm,fun E hf q=>?_⟩⟩
 obtain ⟨z,hz,hf⟩:=zG hf
 obtain ⟨x,hx,hz⟩:=zG hz
 obtain ⟨y,hy,hz⟩:=zG hz
 refine ka E hx fun v G1 H1 x1 r1=>?_
 refine kb (E.go x1) hy fun u G2 H2 x2 r2=>?_
 obtain ⟨k,rfl,z⟩:=hF H2 x y v u _ _ (r1.mono x2.h) r2 hz
 cases hf
 exact z ⟨_,rfl,q _ _ (x1.trans x2)⟩
theorem wz (h:SE X e f) (he:OB e=true:=by rfl):ST X e (tE f):=by
 obtain ⟨t,p,k⟩:=h.h
 refine ⟨⟨_,Gy p (Gg he),fun E hf q=>?_⟩⟩
 obtain ⟨z,hz,hf⟩:=zG hf
 refine k E hz fun v G' H' x r=>?_
 cases z<;>first | cases hf | skip
 cases r
 exact ⟨_,rfl,q _ _ x⟩
theorem WF (h:ST X a ft):SW X (.BoolOp .And [a] pos) ft:=⟨let ⟨t,p,k⟩:=h.h; ⟨t,HC p,k⟩⟩
theorem ug (h:ST X a ft):SW X (.BoolOp .Or [a] pos) ft:=⟨let ⟨t,p,k⟩:=h.h; ⟨t,HE p,k⟩⟩
theorem WE (ha:ST X a ft) (hb:SW X (.BoolOp .And (b::yX) pos) fu):SW X (.BoolOp .And (a::b::yX) pos) (qz ft fu):=by
 obtain ⟨ta,pa,ka⟩:=ha.h
 obtain ⟨tb,pb,kb⟩:=hb.h
 refine ⟨⟨_,HB pa pb,fun E hf q=>?_⟩⟩
 obtain ⟨k,hk,hf⟩:=zG hf
 refine ka E hk fun G1 H1 x1=>?_
 cases k with
 | true=>exact qZ (kb (E.go x1) hf fun G' H' x2=>q _ _ (x1.trans x2))
 | false=>cases hf; exact qY (q _ _ x1)
theorem vS (ha:ST X a ft) (hb:SW X (.BoolOp .Or (b::yX) pos) fu):SW X (.BoolOp .Or (a::b::yX) pos) (xG ft fu):=by
 obtain ⟨ta,pa,ka⟩:=ha.h
 obtain ⟨tb,pb,kb⟩:=hb.h
 refine ⟨⟨_,HD pa pb,fun E hf q=>?_⟩⟩
 obtain ⟨k,hk,hf⟩:=zG hf
 refine ka E hk fun G1 H1 x1=>?_
 cases k with
 | false=>exact qY (kb (E.go x1) hf fun G' H' x2=>q _ _ (x1.trans x2))
 | true=>cases hf; exact qZ (q _ _ x1)
theorem vT (h:SW X e ft):ST X e ft:=⟨let ⟨t,p,k⟩:=h.h; ⟨t,p.pt,k⟩⟩
theorem qy (h:ST X a ft):ST X (.UnaryOp .Not a pos) (tK ft):=by
 obtain ⟨ta,pa,ka⟩:=h.h
 refine ⟨⟨_,Gx pa,fun E hf q=>?_⟩⟩
 obtain ⟨k,hk,hf⟩:=zG hf
 cases hf
 exact ka E hk fun G1 H1 x1=>q _ _ x1
theorem W9 {op} (h:SE X a f):SE X (.BoolOp op [a] pos) f:=⟨let ⟨t,p,k⟩:=h.h; ⟨t,GI p,k⟩⟩
theorem Ot {K:PySem.W.Frag} {G:Hp} {z:D} {v:V} {k:Bool} (r:zR K G z v) (h:jR z=some k):v=.bl k:=by
 cases z<;>first | cases h | skip
 exact r
theorem Uo (ha:SE X a fa) (hb:SE X (.BoolOp .And (b::yX) pos) fb):SE X (.BoolOp .And (a::b::yX) pos) (g_ fa fb):=by
 obtain ⟨ta,pa,ka⟩:=ha.h
 obtain ⟨tb,pb,kb⟩:=hb.h
 refine ⟨⟨_,Ex pa pb,fun E hf q=>?_⟩⟩
 obtain ⟨z,hz,hf⟩:=zG hf
 obtain ⟨k,hk,hf⟩:=zG hf
 refine ka E hz fun v G1 H1 x1 r1=>⟨k,Ot r1 hk,?_⟩
 cases k with
 | true=>exact qZ (kb (E.go x1) hf fun v G' H' x2 r2=>q v _ _ (x1.trans x2) r2)
 | false=>cases hf; exact qY (q _ _ _ x1 rfl)
theorem NC (ha:SE X a fa) (hb:SE X (.BoolOp .Or (b::yX) pos) fb):SE X (.BoolOp .Or (a::b::yX) pos) (VB fa fb):=by
 obtain ⟨ta,pa,ka⟩:=ha.h
 obtain ⟨tb,pb,kb⟩:=hb.h
 refine ⟨⟨_,GJ pa pb,fun E hf q=>?_⟩⟩
 obtain ⟨z,hz,hf⟩:=zG hf
 obtain ⟨k,hk,hf⟩:=zG hf
 refine ka E hz fun v G1 H1 x1 r1=>⟨k,Ot r1 hk,?_⟩
 cases k with
 | false=>exact qY (kb (E.go x1) hf fun v G' H' x2 r2=>q v _ _ (x1.trans x2) r2)
 | true=>cases hf; exact qZ (q _ _ _ x1 rfl)
theorem Y4 (hc:ST X c ft) (ha:SE X a fa) (hb:SE X b fb):SE X (.IfExp c a b pos) (pJ ft fa fb):=by
 obtain ⟨tc,pc,kc⟩:=hc.h
 obtain ⟨ta,pa,ka⟩:=ha.h
 obtain ⟨tb,pb,kb⟩:=hb.h
 refine ⟨⟨_,GF pc pa pb,fun E hf q=>?_⟩⟩
 obtain ⟨k,hk,hf⟩:=zG hf
 refine kc E hk fun G1 H1 x1=>?_
 cases k with
 | true=>exact qZ (ka (E.go x1) hf fun v G' H' x2 r2=>q v _ _ (x1.trans x2) r2)
 | false=>exact qY (kb (E.go x1) hf fun v G' H' x2 r2=>q v _ _ (x1.trans x2) r2)
theorem zH:SA X [] zB:=⟨⟨_,jr,fun E hf q=>by cases hf; exact q _ _ _ (zN.refl E.ext.gh) rfl⟩⟩
theorem zC (ha:SE X e f) (hr:SA X es fs) (h:yl e=true:=by rfl):SA X (e::es) (zA f fs):=by
 obtain ⟨ta,pa,ka⟩:=ha.h
 obtain ⟨tb,pb,kb⟩:=hr.h
 refine ⟨⟨_,Z3 pa pb h,fun E hf q=>?_⟩⟩
 obtain ⟨x,hx,hf⟩:=zG hf
 obtain ⟨xs,hxs,hf⟩:=zG hf
 cases hf
 refine ka E hx fun v G1 H1 x1 r1=>kb (E.go x1) hxs fun vs G2 H2 x2 r2=>?_
 exact q _ _ _ (x1.trans x2) ⟨v,vs,rfl,r1.mono x2.g,r2⟩
theorem xF:gX X [] zB:=⟨⟨_,jr,fun E hf q=>by cases hf; exact q _ _ _ (zN.refl E.ext.gh) rfl⟩⟩
theorem xC (ha:SB X e f) (hr:gX X es fs) (h:yl e=true:=by rfl):gX X (e::es) (zA f fs):=by
 obtain ⟨ta,pa,ka⟩:=ha.h
 obtain ⟨tb,pb,kb⟩:=hr.h
 refine ⟨⟨_,Z3 pa pb h,fun E hf q=>?_⟩⟩
 obtain ⟨x,hx,hf⟩:=zG hf
 obtain ⟨xs,hxs,hf⟩:=zG hf
 cases hf
 refine ka E hx fun v G1 H1 x1 r1=>kb (E.go x1) hxs fun vs G2 H2 x2 r2=>?_
 exact q _ _ _ (x1.trans x2) ⟨v,vs,rfl,r1.mono x2.h,r2⟩
theorem Ks {is:List Int} (h:intsOf es=some is):SA X es (fun _=>some (is.map D.int)):=⟨⟨_,O1 h,fun E hf q=>by cases hf; exact q _ _ _ (zN.refl E.ext.gh) Reps.ints⟩⟩
theorem xw {x1} (h:SA X es fs) (hl:∀ τ ds,fs τ=some ds->ds.length<=1000):SE X (.Tuple es x1 pos) (xK fs):=by
 obtain ⟨t,pt,k⟩:=h.h
 refine ⟨⟨_,GM pt,fun E hf q=>?_⟩⟩
 obtain ⟨xs,hx,hf⟩:=zG hf
 cases hf
 have l:xs.length<=sizeLine:=small (hl _ _ hx)
 refine k E hx fun vs G1 H1 x1 r1=>⟨by rw [r1.length]; exact l,fun p hp=>?_⟩
 exact q _ _ _ (x1.trans (zN.lay x1.gh hp)) ⟨p,vs,rfl,ye.of yj,r1.mono (wA (x1.gh.free hp) _),l⟩
theorem xV (h:SA X es fs) (hl:∀ τ ds,fs τ=some ds->ds.length<=1000):SF X (.List es pos) (y_ fs):=by
 obtain ⟨t,pt,k⟩:=h.h
 refine ⟨⟨_,O7 pt,fun E hf q=>?_⟩⟩
 obtain ⟨xs,hx,hf⟩:=zG hf
 cases hf
 have l:xs.length<=sizeLine:=small (hl _ _ hx)
 refine k E hx fun vs G1 H1 x1 r1=>⟨by rw [r1.length]; exact l,fun p hp=>?_⟩
 exact q _ _ _ (x1.trans (zN.layO x1.gh hp)) (x1.h.free hp) (x1.gh.free hp) ⟨vs,yj,r1,l⟩
theorem yF:∀ (τ:zb) ds,zB τ=some ds->ds.length<=0:=fun _ _ h=>by cases h; exact Nat.le_refl _
theorem zW {n:Nat} (h:∀ τ ds,fs τ=some ds->ds.length<=n):∀ τ ds,zA f fs τ=some ds->ds.length<=n+1:=fun τ ds e=>by
 obtain ⟨x,_,e⟩:=zG e
 obtain ⟨xs,hx,e⟩:=zG e
 cases e
 exact Nat.succ_le_succ (h _ _ hx)
theorem MH {is:List Int} {n:Nat} (h:is.length<=n):∀ (τ:zb) ds,(some (is.map D.int))=some ds->ds.length<=n:=fun _ _ e=>by
 cases e
 rw [List.length_map]
 exact h
theorem yC {m n:Nat} (h:∀ τ ds,fs τ=some ds->ds.length<=m) (hmn:m<=n):∀ τ ds,fs τ=some ds->ds.length<=n:=fun τ ds e=>Nat.le_trans (h τ ds e) hmn
variable {ps:List Str} {j k:Nat} {FF:List D->Option (Bool×D)} {FL:List D->Option D} {id T:String}
theorem uN (h:zO X.prog X.w X.K X.mg X.base x ps k (zP X.K FF)) (hr:yz j X.A) (hg:Gl X x) (ha:SA X (e::es) fs) (hk:k<=j:=by decide) (hdb:(x == ("__debug__" : Str))=false:=by decide)
  (he:(e::es).all yl=true:=by rfl):SF X (.Call (.Name x p) (e::es) [] pos) (xP FF fs):=by
 obtain ⟨t,pt,kt⟩:=ha.h
 refine ⟨⟨_,UJ h hr hg pt hk hdb he,fun E hf q=>?_⟩⟩
 obtain ⟨ds,hd,hf⟩:=zG hf
 obtain ⟨⟨o,d⟩,hr,hf⟩:=zG hf
 cases o with
 | false=>cases hf
 | true=>
  cases hf
  refine kt E hd fun vs G1 H1 x1 r1=>⟨G1,ds,true,_,x1.gh,by rw [List.append_nil]; exact r1,hr,fun p G' H' x2 hp gp o=>?_⟩
  exact q p G' H' (x1.trans x2) (x1.h.free hp) gp o
theorem zt (h:zO X.prog X.w X.K X.mg X.base x ps k (zP X.K FF)) (hr:yz j X.A) (hg:Gl X x) (ha:SA X (e::es) fs) (hk:k<=j:=by decide) (hdb:(x == ("__debug__" : Str))=false:=by decide)
  (he:(e::es).all yl=true:=by rfl):SE X (.Call (.Name x p) (e::es) [] pos) (zQ FF fs):=by
 obtain ⟨t,pt,kt⟩:=ha.h
 refine ⟨⟨_,UJ h hr hg pt hk hdb he,fun E hf q=>?_⟩⟩
 obtain ⟨ds,hd,hf⟩:=zG hf
 obtain ⟨⟨o,d⟩,hr,hf⟩:=zG hf
 cases hf
 refine kt E hd fun vs G1 H1 x1 r1=>⟨G1,ds,o,d,x1.gh,by rw [List.append_nil]; exact r1,hr,?_⟩
 cases o with
 | false=>exact fun v G' H' x2 r=>q v G' H' (x1.trans x2) r
 | true=>
  intro p G' H' x2 hp gp o
  obtain ⟨u,hu,r⟩:=o.frz gp
  exact q _ _ _ (x1.trans (x2.frz hp gp hu)) r
theorem N7 (h:zO X.prog X.w X.K X.mg X.base x ps k (zP X.K FF)) (hr:yz j X.A) (hg:Gl X x) (ha:gX X (e::es) fs) (hk:k<=j:=by decide) (hdb:(x == ("__debug__" : Str))=false:=by decide)
  (he:(e::es).all yl=true:=by rfl):SE X (.Call (.Name x p) (e::es) [] pos) (X3 FF fs):=by
 obtain ⟨t,pt,kt⟩:=ha.h
 refine ⟨⟨_,UJ h hr hg pt hk hdb he,fun E hf q=>?_⟩⟩
 obtain ⟨d0,h0,hf⟩:=zG hf
 obtain ⟨ds,hd,h0⟩:=zG h0
 obtain ⟨⟨o,d⟩,hr,h0⟩:=zG h0
 cases h0
 by_cases fl:yf d=true
 ·rw [if_pos fl] at hf
  cases hf
  refine kt E hd fun vs G1 H1 x1 r1=>⟨H1,ds,o,d,zl.refl _,by rw [List.append_nil]; exact r1,hr,?_⟩
  have flat:∀ {G G':Hp} {v:V},zR X.K G d v->zR X.K G' d v:=fun {G G' v} r=>by
   cases d<;>first | exact r | exact absurd fl Bool.false_ne_true
  cases o with
  | false=>exact fun v G' H' x2 r=>q v G1 H' (x1.trans ⟨zl.refl _,x2.h,x1.gh.trans x2.h,fun _ z=>.inl z⟩) (flat r)
  | true=>
   intro p G' H' x2 hp gp o
   cases d<;>first | exact o.elim | exact absurd fl Bool.false_ne_true
 ·rw [if_neg fl] at hf
  cases hf
def Wj (K:PySem.W.Frag) (r:List V->Hp->VK->Prop) (F:List D->Option D):Prop:=∀ G H ds vs d (Q:VK),zl G H->Reps K H ds vs->F ds=some d->(∀ w G' H',zN G H G' H'->zR K G' d w->Q w H')->r vs H Q
theorem xL {rc:List V->Hp->VK->Prop} (hc:xr X (.builtin id) rc) (hF:Wj X.K rc FL) (hg:Gl X x) (hm:X.mg x=none) (hv:bootBuiltins x=some (.builtin id)) (ha:gX X (e::es) fs) (hn:x ≠ "__name__" := by decide) (hdb:(x == ("__debug__" : Str))=false:=by decide)
  (he:(e::es).all yl=true:=by rfl):SE X (.Call (.Name x p) (e::es) [] pos) (eL FL fs):=by
 obtain ⟨t,pt,kt⟩:=ha.h
 refine ⟨⟨_,(Z7 hc hg hm hv ⟨pt⟩ hn hdb he).h,fun E hf q=>?_⟩⟩
 obtain ⟨ds,hd,hf⟩:=zG hf
 exact kt E hd fun vs G1 H1 x1 r1=>hF G1 H1 ds vs _ _ x1.gh r1 hf fun w G' H' x2 r2=>q w G' H' (x1.trans x2) r2
theorem qt {op:UnaryOp} {ru:V->Hp->VK->Prop} {F1:D->Option D} (ho:gf X (unaryOp op) ru) (hF:∀ (G H:Hp) x u d (Q:VK),zR X.K G x u->F1 x=some d->∃ w,(∀ G,zR X.K G d w)/\(Q w H->ru u H Q)) (ha:SE X a fa):SE X (.UnaryOp op a pos) (e1 F1 fa):=by
 obtain ⟨t,pt,kt⟩:=ha.h
 refine ⟨⟨_,GN ho pt,fun E hf q=>?_⟩⟩
 obtain ⟨x,hx,hf⟩:=zG hf
 refine kt E hx fun v G1 H1 x1 r1=>?_
 obtain ⟨w,rw_,z⟩:=hF G1 H1 x v _ _ r1 hf
 exact z (q w _ _ x1 (rw_ _))
end
end L3
namespace L3
open PySem PySem.Spec PyProof.Rows L2
section
variable {X:Cx} {x:Str} {p pos pos' apos cpos:Pos} {e a b c tg iter elt:Expr} {es ifs:List Expr} {f fa fb:FE} {ft:FT} {fs:FA} {st:Stmt} {sts body:List Stmt} {g g':FS}
theorem yi:vK X [] yK:=⟨⟨_,Gw,fun {_ _ G H τ σ fl E} K hf q=>by
 cases hf
 exact q σ G H K⟩⟩
theorem wj.with {K:PySem.W.Frag} {n:Nat} {G0 H0:Hp} {E E':w_} {fl:Fl} (h:wj K n G0 H0 E fl) (hn:∀ τ,fl=.nx τ->wj K n G0 H0 E' (.nx τ)) (hb:∀ τ,fl=.bk τ->wj K n G0 H0 E' (.bk τ)) (hc:∀ τ,fl=.ct τ->wj K n G0 H0 E' (.ct τ)) (hr:E'.rt=E.rt):wj K n G0 H0 E' fl:=by
 cases fl with
 | nx τ=>exact hn τ rfl
 | bk τ=>exact hb τ rfl
 | ct τ=>exact hc τ rfl
 | rt o d=>
  cases o with
  | false=>intro v G H x r; rw [hr]; exact h v G H x r
  | true=>intro v G H x r1 r2 r3; rw [hr]; exact h v G H x r1 r2 r3
theorem zL (h1:SS X st g) (h2:vK X sts g'):vK X (st::sts) (zE g g'):=by
 obtain ⟨t,p,k⟩:=h1.h
 obtain ⟨t',p',k'⟩:=h2.h
 refine ⟨⟨_,Xv p p',fun {G0 H0 G H τ σ fl E} K hf q=>?_⟩⟩
 obtain ⟨f1,h1,hf⟩:=zG hf
 refine k K h1 ?_
 cases f1 with
 | nx τ'=>exact fun σ' G' H' K'=>k' K' hf q
 | bk τ'=>cases hf; exact q
 | ct τ'=>cases hf; exact q
 | rt o d=>cases hf; exact wj.with q (fun _ z=>nomatch z) (fun _ z=>nomatch z) (fun _ z=>nomatch z) rfl
theorem zS (h1:SS X st g):vK X [st] g:=⟨let ⟨t,p,k⟩:=h1.h; ⟨t,UR p,k⟩⟩
theorem qx (i:Nat) (h:vK X sts g):vK X sts (zE (vi i) g):=by
 obtain ⟨t,p,k⟩:=h.h
 refine ⟨⟨t,p,fun {G0 H0 G H τ σ fl E} K hf q=>?_⟩⟩
 obtain ⟨f1,h1,hf⟩:=zG hf
 unfold vi at h1
 split at h1
 ·rename_i bb d hd
  cases h1
  obtain ⟨G',K',_⟩:=K.freeze hd
  exact k K' hf q
 ·cases h1
theorem zp {i:Nat} {x:Str} {pos':Pos} (hN:X.N.Nodup) (hi:X.N[i]?=some x) (hx:vG X.env.scope x) (he:SE X e f) (hs:pZ e=true:=by rfl) (hf:X.fn x=true\/X.env.scope.names.lookup x=some .local:=by first | exact .inl rfl | exact .inr rfl | assumption) :
  SS X (.Assign [.Name x pos'] e pos) (zU i f):=by
 obtain ⟨t,p,k⟩:=he.h
 refine ⟨⟨_,(Xx hN hi hx ⟨p⟩ hs hf).h,fun {G0 H0 G H τ σ fl E} K hf q=>?_⟩⟩
 obtain ⟨d,hd,hf⟩:=zG hf
 cases hf
 exact k K hd fun v G' H' x r=>q _ _ _ ((K.go x).set (List.getElem?_eq_some_iff.mp hi).1 r)
theorem vj {i:Nat} {x:Str} {pos':Pos} (hN:X.N.Nodup) (hi:X.N[i]?=some x) (hx:vG X.env.scope x) (he:SF X e f) (hs:pZ e=true:=by rfl) (hf:X.fn x=true\/X.env.scope.names.lookup x=some .local:=by first | exact .inl rfl | exact .inr rfl | assumption) :
  SS X (.Assign [.Name x pos'] e pos) (wV i f):=by
 obtain ⟨t,p,k⟩:=he.h
 refine ⟨⟨_,(Xx hN hi hx ⟨p⟩ hs hf).h,fun {G0 H0 G H τ σ fl E} K hf q=>?_⟩⟩
 obtain ⟨d,hd,hf⟩:=zG hf
 cases hf
 refine k K hd fun p G' H' x hp gp o=>q _ _ _ ((K.go x).setO (List.getElem?_eq_some_iff.mp hi).1 gp (K.ext.h.free hp) o ?_)
 exact K.newO hp
theorem yY (he:SE X e f):SS X (.Return (some e) pos) (yH f):=by
 obtain ⟨t,p,k⟩:=he.h
 refine ⟨⟨_,Xu p,fun {G0 H0 G H τ σ fl E} K hf q=>?_⟩⟩
 obtain ⟨d,hd,hf⟩:=zG hf
 cases hf
 exact k K hd fun v G' H' x r=>q v _ _ (K.ext.trans x) r
theorem wO (he:SF X e f):SS X (.Return (some e) pos) (w8 f):=by
 obtain ⟨t,p,k⟩:=he.h
 refine ⟨⟨_,Xu p,fun {G0 H0 G H τ σ fl E} K hf q=>?_⟩⟩
 obtain ⟨d,hd,hf⟩:=zG hf
 cases hf
 exact k K hd fun p G' H' x hp gp o=>q p _ _ (K.ext.trans x) (K.ext.h.free hp) gp o
theorem gG (i:Nat) {x:Str} {pos':Pos} (hN:X.N[i]?=some x:=by rfl) (hv:qQ X.env.scope x:=by first | exact Or.inl rfl | exact Or.inr (Or.inl rfl) | exact Or.inr (Or.inr rfl)) (hd:(x == ("__debug__" : Str))=false:=by decide)
  (hcd:(x == ("__classdict__" : Str))=false:=by decide):SS X (.Return (some (.Name x pos')) pos) (qA i):=by
 refine ⟨⟨_,Xu (Z4 hN hv hd hcd),fun {G0 H0 G H τ σ fl E} K hf q=>?_⟩⟩
 unfold qA at hf
 split at hf
 ·rename_i d he
  cases hf
  obtain ⟨p,e,g,z,o⟩:=K.ow _ _ he
  exact ⟨_,e,q p _ _ K.ext z g o⟩
 ·cases hf
theorem yR {sa sb:List Stmt} (hc:ST X c ft) (ha:vK X sa g) (hb:vK X sb g'):SS X (.If c sa sb pos) (yB ft g g'):=by
 obtain ⟨tc,pc,kc⟩:=hc.h
 obtain ⟨ta,pa,ka⟩:=ha.h
 obtain ⟨tb,pb,kb⟩:=hb.h
 refine ⟨⟨_,Gu pc pa pb,fun {G0 H0 G H τ σ fl E} K hf q=>?_⟩⟩
 obtain ⟨k,hk,hf⟩:=zG hf
 refine kc K hk fun G1 H1 x1=>?_
 cases k with
 | true=>exact qZ (ka (K.go x1) hf q)
 | false=>exact qY (kb (K.go x1) hf q)
theorem Y9 {ft:FT} (hp:PassesOwn (model X.prog X.w) X.A X.env X.xe) (hc:ST X c ft) (hb:vK X body g):SS X (.While c body [] pos) (tJ ft g):=by
 obtain ⟨tc,pc,kc⟩:=hc.h
 obtain ⟨tb,pb,kb⟩:=hb.h
 refine ⟨⟨_,Gv hp pc pb,fun {G0 H0 G H τ σ fl E} K hf q=>?_⟩⟩
 refine ⟨fun m σ H=>∃ τ G,zZ X.K X.N.length G0 H0 G H τ σ/\wJ ft g m τ=some fl,⟨YG,τ,G,K,hf⟩,?_⟩
 rintro m σ H ⟨τ,G,K,hf⟩
 cases m with
 | zero=>cases hf
 | succ n=>
  obtain ⟨k,hk,hf⟩:=zG (show (ft τ).bind _=_ from hf)
  refine kc K hk fun G1 H1 x1=>?_
  cases k with
  | false=>
   cases hf
   exact qY (q _ _ _ (K.go x1))
  | true=>
   obtain ⟨f1,h1,hf⟩:=zG (show (g τ).bind _=_ from hf)
   refine qZ ⟨fun σ' H'=>∃ τ G,zZ X.K X.N.length G0 H0 G H' τ σ'/\wJ ft g n τ=some fl,fun σ' H' z=>⟨n,Nat.lt_succ_self n,z⟩,kb (K.go x1) h1 ?_⟩
   cases f1 with
   | nx τ2=>exact fun σ2 G2 H2 K2=>⟨τ2,G2,K2,hf⟩
   | ct τ2=>exact fun σ2 G2 H2 K2=>⟨τ2,G2,K2,hf⟩
   | bk τ2=>cases hf; exact q
   | rt o d=>cases hf; exact wj.with q (fun _ z=>nomatch z) (fun _ z=>nomatch z) (fun _ z=>nomatch z) rfl
theorem wj.near {K:PySem.W.Frag} {n:Nat} {G0 H0 Ga Ha:Hp} {E:w_} {fl:Fl} (x:zN G0 H0 Ga Ha) (h:wj K n G0 H0 E fl):wj K n Ga H0 E fl:=by
 cases fl with
 | nx τ=>exact fun σ G H z=>h σ G H (zZ.near x z)
 | bk τ=>exact fun σ G H z=>h σ G H (zZ.near x z)
 | ct τ=>exact fun σ G H z=>h σ G H (zZ.near x z)
 | rt o d=>
  cases o with
  | false=>exact fun v G H y r=>h v G H (x.rebase y) r
  | true=>exact fun p G H y r1 r2 r3=>h p G H (x.rebase y) r1 r2 r3
structure SG (X:Cx) (tg:Expr) (fg:FG):Prop where
 h:∃ t,PG X tg t/\∀ {G0 H0 G H:Hp} {τ τ':zb} {σ:St} {d:D} {v:V} {Q:St->Hp->Prop},zZ X.K X.N.length G0 H0 G H τ σ->zR X.K G d v->fg d τ=some τ'->(∀ σ',zZ X.K X.N.length G0 H0 G H τ' σ'->Q σ' H)->t v σ H Q
theorem Y6 {i:Nat} {x:Str} (h:QG X (.Name x pos) (wL i)) (hi:X.N[i]?=some x):SG X (.Name x pos) (zn i):=⟨⟨_,h.h,fun K r hf q=>by
 cases hf
 exact q _ (K.set (List.getElem?_eq_some_iff.mp hi).1 r)⟩⟩
theorem NO {i j:Nat} {x y:Str} {p1 p2:Pos} {kk:Nat} (h:QG X (.Tuple [.Name x p1,.Name y p2] kk pos) (jY X.K 2 (u_ (wL i) (u_ (wL j) jX)))) (hi:X.N[i]?=some x) (hj:X.N[j]?=some y):SG X (.Tuple [.Name x p1,.Name y p2] kk pos) (xW i j):=⟨⟨_,h.h,fun {G0 H0 G H τ τ' σ d v Q} K r hf q=>by
 unfold xW at hf
 split at hf
 ·rename_i d1 d2
  cases hf
  obtain ⟨a,vs,rfl,sq,⟨v1,r1,rfl,h1,⟨v2,r2,rfl,h2,h3⟩⟩,_⟩:=r
  cases (show r2=[] from h3)
  refine ⟨a,_,rfl,vF K.ext.gh sq,rfl,v1,_,rfl,v2,_,rfl,rfl,?_⟩
  exact q _ ((K.set (List.getElem?_eq_some_iff.mp hi).1 h1).set (List.getElem?_eq_some_iff.mp hj).1 h2)
 ·cases hf⟩⟩
theorem gF {fg:FG} (hp:PassesOwn (model X.prog X.w) X.A X.env X.xe) (hc:X.calm=true) (hi:SI X tg iter fs) (hg:SG X tg fg) (hb:vK X body g) (hs:∀ x,foldedSetIterable iter X.env x=pure x:=by intro _; rfl):SS X (.For tg iter body [] pos) (qo fs fg g):=by
 obtain ⟨ti,pi,ki⟩:=hi.h
 obtain ⟨tg',pg,kg⟩:=hg.h
 obtain ⟨tb,pb,kb⟩:=hb.h
 refine ⟨⟨_,UQ hp hc pi pg pb hs,fun {G0 H0 G H τ σ fl E} K hf q=>?_⟩⟩
 obtain ⟨ds,hd,hf⟩:=zG hf
 refine ki K hd fun J Ga Ha xa _ wk=>?_
 have Ka:=K.go xa
 have q':=wj.near Ka.ext q
 refine ⟨fun i m σ H=>m=ds.length - i/\i<=ds.length/\∃ τ G,zZ X.K X.N.length Ga H0 G H τ σ/\qg fg g (ds.drop i) τ=some fl,⟨ds.length,rfl,Nat.zero_le _,τ,Ga,Ka.far,hf⟩,?_⟩
 rintro i m σ H ⟨rfl,hle,τ,G,K,hf⟩
 by_cases hlt:i<ds.length
 ·refine .inr ⟨wk.go i G H K.ext.g K.ext.gh hlt,fun σ' H'=>∃ τ G,zZ X.K X.N.length Ga H0 G H' τ σ'/\qg fg g (ds.drop (i+1)) τ=some fl,fun σ' H' z=>⟨ds.length - (i+1),by omega,rfl,hlt,z⟩,fun x H' y=>?_⟩
  obtain ⟨G3,d,x3,ed,rd⟩:=wk.yld i G H x H' K.ext.g K.ext.gh hlt y
  rw [List.drop_eq_getElem_cons hlt] at hf
  rw [List.getElem?_eq_getElem hlt] at ed
  cases ed
  obtain ⟨τ1,h1,hf⟩:=zG (show (fg _ τ).bind _=_ from hf)
  obtain ⟨f1,h2,hf⟩:=zG hf
  refine kg (K.go x3) rd h1 fun σ1 K1=>kb K1 h2 ?_
  cases f1 with
  | nx τ2=>exact fun σ2 G2 H2 K2=>⟨τ2,G2,K2,hf⟩
  | ct τ2=>exact fun σ2 G2 H2 K2=>⟨τ2,G2,K2,hf⟩
  | bk τ2=>cases hf; exact q'
  | rt o d=>cases hf; exact wj.with q' (fun _ z=>nomatch z) (fun _ z=>nomatch z) (fun _ z=>nomatch z) rfl
 ·have e:ds.drop i=[]:=List.drop_eq_nil_of_le (by omega)
  rw [e] at hf
  cases hf
  exact .inl ⟨wk.stop i G H K.ext.g K.ext.gh (by omega),q' _ _ _ K⟩
theorem Dh {K:PySem.W.Frag} {G:Hp} {lo:Int} {n:Nat}:tU K (YI lo n) G ((List.range n).map fun k:Nat=>D.int (lo+k)) where
 go:=fun i G2 H _ _ hi=>by
  show i<n
  simpa using hi
 yld:=fun i G2 H x H' _ g2 hi y=>by
  obtain ⟨rfl,rfl⟩:=y
  exact ⟨G2,.int (lo+i),zN.refl g2,by simp at hi; simp [hi],rfl⟩
 stop:=fun i G2 H _ _ hi=>by
  show n<=i
  simpa using hi
theorem qu (hg:Gl X "range") (hm:X.mg "range" = none) (ha:SE X a fa) (hs:yl a=true:=by rfl):SI X tg (.Call (.Name "range" p) [a] [] pos) (uX (eC (.int 0)) fa):=by
 obtain ⟨t,pt,k⟩:=(zC ha zH hs).h
 refine ⟨⟨_,GV hg hm pt (uA hs),fun {G0 H0 G H τ σ ds R} K hf q=>?_⟩⟩
 obtain ⟨x,hx,hf⟩:=zG hf
 cases hx
 obtain ⟨y,hy,hf⟩:=zG hf
 refine k K (ds:=[y]) (by unfold zA; rw [hy]; rfl) fun vs G1 H1 x1 r1=>?_
 cases y<;>first | cases hf | skip
 rename_i j
 obtain ⟨v,r,rfl,hv,hr⟩:=r1
 cases (show r=[] from hr)
 cases (show v=.int j from hv)
 change (if (0:Int).natAbs<=zy/\j.natAbs<=zy/\(j - 0).toNat<=zy then _ else _)=_ at hf
 by_cases c:(0:Int).natAbs<=zy/\j.natAbs<=zy/\(j - 0).toNat<=zy
 ·rw [if_pos c] at hf
  cases hf
  have c2:j.natAbs<=16777216:=c.2.1
  have c3:(j - 0).toNat<=16777216:=c.2.2
  refine ⟨j,rfl,by omega,by omega,q _ _ _ x1 ?_ ?_⟩
  ·rw [List.length_map,List.length_range,sizeLine_eq]; omega
  ·have e:(j - 0).toNat=j.toNat:=by omega
   rw [e]
   exact Dh
 ·rw [if_neg c] at hf
  cases hf
theorem Fx {K:PySem.W.Frag} {G:Hp} {a:Addr} {vs:List V} {ds:List D} (sq:zw K G a vs) (r:Reps K G ds vs):tU K (Wd K a) G ds where
 go:=fun i G2 H g1 g2 hi=>by
  obtain ⟨v,e,_⟩:=r.get (List.getElem?_eq_getElem hi)
  exact ⟨vs,v,wB (g1.trans g2) sq,e⟩
 yld:=fun i G2 H x H' g1 g2 hi y=>by
  obtain ⟨rfl,y⟩:=y
  have e:=y vs (wB (g1.trans g2) sq)
  obtain ⟨d,ed,rd⟩:=r.at e
  exact ⟨G2,d,zN.refl g2,ed,rd.mono g1⟩
 stop:=fun i G2 H g1 g2 hi=>⟨vs,wB (g1.trans g2) sq,by rw [r.length]; exact hi⟩
theorem Pm {K:PySem.W.Frag} {G:Hp} {a:Addr} {vs:List V} {ds:List D} (sq:ye K G a vs) (r:Reps K G ds vs):tU K (We K a) G ds where
 go:=fun i G2 H g1 g2 hi=>by
  obtain ⟨v,e,_⟩:=r.get (List.getElem?_eq_getElem hi)
  exact ⟨vs,v,vF (g1.trans g2) sq,e⟩
 yld:=fun i G2 H x H' g1 g2 hi y=>by
  obtain ⟨rfl,y⟩:=y
  have e:=y vs (vF (g1.trans g2) sq)
  obtain ⟨d,ed,rd⟩:=r.at e
  exact ⟨G2,d,zN.refl g2,ed,rd.mono g1⟩
 stop:=fun i G2 H g1 g2 hi=>⟨vs,vF (g1.trans g2) sq,by rw [r.length]; exact hi⟩
theorem P4 {K:PySem.W.Frag} {G:Hp} {z:Str}:tU K (YJ z) G (z.cps.toList.map fun c=>D.str ⟨#[c]⟩) where
 go:=fun i G2 H _ _ hi=>by
  rw [List.length_map,Array.length_toList] at hi
  exact hi
 yld:=fun i G2 H x H' _ g2 hi y=>by
  obtain ⟨rfl,c,ec,rfl⟩:=y
  refine ⟨G2,.str ⟨#[c]⟩,zN.refl g2,?_,rfl,small (n:=1) (by decide)⟩
  rw [List.getElem?_map,Array.getElem?_toList,ec]
  rfl
 stop:=fun i G2 H _ _ hi=>by
  rw [List.length_map,Array.length_toList] at hi
  exact hi
theorem PI.or {w1 w2:TI} (h1:PI X tg e w1) (h2:PI X tg e w2):PI X tg e (fun σ H R=>w1 σ H R\/w2 σ H R):=fun pins s σ H R I q=>by
 rcases q with q | q
 ·exact h1 pins s σ H R I q
 ·exact h2 pins s σ H R I q
theorem wW (h:SE X e f):SI X tg e (x_ f):=by
 obtain ⟨t,p,k⟩:=h.h
 refine ⟨⟨_,PI.or (GU p) (PI.or (O8 p) (GW p)),fun {G0 H0 G H τ σ ds R} K hf q=>?_⟩⟩
 obtain ⟨d,hd,hf⟩:=zG hf
 cases d<;>first | cases hf | skip
 ·rename_i z
  refine .inr (.inr (k K hd fun v G' H' x r=>?_))
  obtain ⟨rfl,l⟩:=r
  exact ⟨z,rfl,q _ _ _ x (by rw [List.length_map,Array.length_toList]; exact l) P4⟩
 ·refine .inr (.inl (k K hd fun v G' H' x r=>?_))
  obtain ⟨a,vs,rfl,sq,rs,l⟩:=r
  exact ⟨a,rfl,⟨vs,vF x.gh sq⟩,q _ _ _ x l (Pm sq rs)⟩
 ·refine .inl (k K hd fun v G' H' x r=>?_)
  obtain ⟨a,vs,rfl,sq,rs,l⟩:=r
  exact ⟨a,rfl,⟨vs,wB x.gh sq⟩,q _ _ _ x l (Fx sq rs)⟩
end
def T7 (K:PySem.W.Frag) (n:Nat) (f:FE):TE:=fun σ H Q=>∃ G0 H0 G τ d,zZ K n G0 H0 G H τ σ/\f τ=some d/\∀ v G' H',zN G H G' H'->zR K G' d v->Q v H'
def WL (K:PySem.W.Frag) (n:Nat) (f:FT):TT:=fun σ H Q=>∃ G0 H0 G τ d,zZ K n G0 H0 G H τ σ/\f τ=some d/\∀ G' H',zN G H G' H'->Q d H'
structure gY (X:Cx) (es:List Expr) (f:FT):Prop where
 h:pE X es (WL X.K X.N.length f)
section
variable {X:Cx} {e c:Expr} {f:FE} {ft:FT}
theorem SE.pe (h:SE X e f):PE X e (T7 X.K X.N.length f):=fun pins s σ H Q I q=>by
 obtain ⟨t,p,k⟩:=h.h
 obtain ⟨G0,H0,G,τ,d,K,hf,z⟩:=q
 exact p pins s σ H Q I (k K hf z)
theorem ST.pt (h:ST X e ft):PT X e (WL X.K X.N.length ft):=fun pins s σ H Q I q=>by
 obtain ⟨t,p,k⟩:=h.h
 obtain ⟨G0,H0,G,τ,d,K,hf,z⟩:=q
 exact p pins s σ H Q I (k K hf z)
theorem vk:gY X [] xM:=⟨fun pins s σ H Q I q=>by
 obtain ⟨G0,H0,G,τ,d,K,hf,z⟩:=q
 cases hf
 exact OL pins s σ H Q I (z _ _ (zN.refl K.ext.gh))⟩
theorem ud (h:ST X c ft):gY X [c] ft:=⟨Gz h.pt⟩
end
theorem zZ.more {K:PySem.W.Frag} {n:Nat} {G0 H0 G H:Hp} {τ:zb} {σ:St} (k:Nat) (E:zZ K n G0 H0 G H τ σ):zZ K (n+k) G0 H0 G H (τ++List.replicate k none) (σ++List.replicate k none):=by
 have at_:∀ {i:Nat} {s:Sl},(τ++List.replicate k none)[i]?=some (some s)->τ[i]?=some (some s)/\(σ++List.replicate k none)[i]?=σ[i]?:=fun {i s} h=>by
  have h':=XC h
  have hi:i<n:=E.lt h'
  exact ⟨h',List.getElem?_append_left (by rw [E.l1]; exact hi)⟩
 refine ⟨E.ext,by rw [List.length_append,List.length_replicate,E.l1],by rw [List.length_append,List.length_replicate,E.l2],fun i d h=>?_,fun i d h=>?_,fun i j d e p hne h1 h2 h3 h4=>?_⟩
 ·obtain ⟨h',e⟩:=at_ h
  rw [e]
  exact E.fr i d h'
 ·obtain ⟨h',e⟩:=at_ h
  rw [e]
  exact E.ow i d h'
 ·obtain ⟨h1',e1⟩:=at_ h1
  obtain ⟨h2',e2⟩:=at_ h2
  rw [e1] at h3
  rw [e2] at h4
  exact E.ap i j d e p hne h1' h2' h3 h4
theorem J_ {K:PySem.W.Frag} {n k:Nat} {G0 H0 Ga Ha:Hp} {τ:zb} {σ:St} {J:It} {ds out:List D} {g:TG} {fg:FG} {ft:FT} {f:FE} {Fin:List V->Hp->Prop} (wk:tU K J Ga ds) (hl:ds.length<=sizeLine) (Ka:zZ K n G0 H0 Ga Ha τ σ)
  (hf:xi fg ft f (τ++List.replicate k none) ds=some out)
  (kg:∀ G H d v τ' (Q:St->Hp->Prop),zZ K (n+k) G0 H0 G H (τ++List.replicate k none) (σ++List.replicate k none)->zR K G d v->fg d (τ++List.replicate k none)=some τ'->(∀ ρ,zZ K (n+k) G0 H0 G H τ' (σ++ρ)->Q (σ++ρ) H)->g v (σ++List.replicate k none) H Q)
  (fin:∀ ys G H,zN Ga Ha G H->Reps K G out ys->out.length<=sizeLine->Fin ys H) :
  ∃ W:Nat->Nat->List V->Hp->Prop,(∃ m,W 0 m [] Ha)/\kX σ k J g (WL K (n+k) ft) (T7 K (n+k) f) W Fin:=by
 refine ⟨fun i m ys H=>m=ds.length - i/\i<=ds.length/\ys.length<=i/\∃ G done yX,zN Ga Ha G H/\Reps K G done ys/\xi fg ft f (τ++List.replicate k none) (ds.drop i)=some yX/\done++yX=out,⟨ds.length,rfl,Nat.zero_le _,Nat.le_refl _,Ga,[],out,zN.refl Ka.ext.gh,rfl,hf,rfl⟩,?_⟩
 rintro i m ys H ⟨rfl,hle,hys,G,done,yX,x,rd,hf,eo⟩
 by_cases hlt:i<ds.length
 ·refine .inr ⟨wk.go i G H x.g x.gh hlt,by omega,fun ys H=>ys.length<=i+1/\∃ G done yX,zN Ga Ha G H/\Reps K G done ys/\xi fg ft f (τ++List.replicate k none) (ds.drop (i+1))=some yX/\done++yX=out,fun ys' H' z=>⟨ds.length - (i+1),by omega,rfl,hlt,z.1,z.2⟩,fun v H' y=>?_⟩
  obtain ⟨G3,d,x3,ed,rv⟩:=wk.yld i G H v H' x.g x.gh hlt y
  rw [List.drop_eq_getElem_cons hlt] at hf
  rw [List.getElem?_eq_getElem hlt] at ed
  cases ed
  obtain ⟨τ1,h1,hf⟩:=zG (show (fg _ _).bind _=_ from hf)
  obtain ⟨kk,h2,hf⟩:=zG hf
  have K3:=((Ka.go x).go x3).more k
  refine kg G3 H' _ v τ1 _ K3 rv h1 fun ρ K4=>⟨⟨ρ,rfl⟩,_,_,_,_,kk,K4,h2,fun G5 H5 x5=>?_⟩
  cases kk with
  | false=>exact qY ⟨by omega,G5,done,yX,x.trans (x3.trans x5),rd.mono (x3.g.trans x5.g),hf,eo⟩
  | true=>
   obtain ⟨z,hz,hf⟩:=zG (show (f _).bind _=_ from hf)
   obtain ⟨more,hm,hf⟩:=zG hf
   cases hf
   refine qZ ⟨_,_,_,_,z,K4.go x5,hz,fun u G6 H6 x6 r6=>⟨by rw [List.length_append]; exact Nat.succ_le_succ hys,G6,done++[z],more,x.trans (x3.trans (x5.trans x6)),(rd.mono (x3.g.trans (x5.g.trans x6.g))).append (Reps.one r6),hm,?_⟩⟩
   rw [List.append_assoc]
   exact eo
 ·have e:ds.drop i=[]:=List.drop_eq_nil_of_le (by omega)
  rw [e] at hf
  cases hf
  rw [List.append_nil] at eo
  subst eo
  refine .inl ⟨wk.stop i G H x.g x.gh (by omega),fin ys G H x rd ?_⟩
  rw [<- rd.length]
  omega
section
variable {X:Cx} {tg iter elt:Expr} {ifs:List Expr} {scope:Scope} {cl:List (Str×Addr)} {own:List Str} {pos:Pos} {fs:FA} {fg:FG} {ft:FT} {f:FE} {g:TG}
theorem Uq {α:Type} (xs:List α) (y:α) (ys:List α) {n:Nat} (h:n=xs.length) (z:α):(xs++y::ys).set n z=xs++z::ys:=by
 subst h
 rw [List.set_append_right _ _ (Nat.le_refl _),Nat.sub_self]
 rfl
structure BG (X:Cx) (scope:Scope) (cl:List (Str×Addr)) (own:List Str) (tg:Expr) (g:TG) (fg:FG):Prop where
 q:∀ C s H fp pn,QG (xn X scope cl own C s H fp pn) tg g
 k:∀ {G0 H0:Hp} {τ:zb} {σ:St},τ.length=X.N.length->σ.length=X.N.length->∀ G H d v τ' (Q:St->Hp->Prop),zZ X.K (X.N.length+own.length) G0 H0 G H (τ++List.replicate own.length none) (σ++List.replicate own.length none)->zR X.K G d v->fg d (τ++List.replicate own.length none)=some τ'->
  (∀ ρ,zZ X.K (X.N.length+own.length) G0 H0 G H τ' (σ++ρ)->Q (σ++ρ) H)->g v (σ++List.replicate own.length none) H Q
theorem wD {x:Str} {i:Nat} (q:∀ C s H fp pn,QG (xn X scope cl [x] C s H fp pn) tg (wL i)) (hi:i=X.N.length):BG X scope cl [x] tg (wL i) (zn i):=⟨q,fun {G0 H0 τ σ} l1 l2 G H d v τ' Q E r hf k=>by
 cases hf
 have E':=E.set (i:=i) (v:=v) (by rw [hi]; exact Nat.lt_succ_self _) r
 have es:(σ++List.replicate 1 none).set i (some v)=σ++[some v]:=Uq σ none [] (hi.trans l2.symm) (some v)
 show Q ((σ++List.replicate 1 none).set i (some v)) H
 rw [es]
 refine k [some v] ?_
 rw [<- es]
 exact E'⟩
theorem gr {x y:Str} {i j:Nat} (q:∀ C s H fp pn,QG (xn X scope cl [x,y] C s H fp pn) tg (jY X.K 2 (u_ (wL i) (u_ (wL j) jX)))) (hi:i=X.N.length) (hj:j=X.N.length+1):BG X scope cl [x,y] tg (jY X.K 2 (u_ (wL i) (u_ (wL j) jX))) (xW i j):=⟨q,fun {G0 H0 τ σ} l1 l2 G H d v τ' Q E r hf k=>by
 unfold xW at hf
 split at hf
 ·rename_i d1 d2
  cases hf
  obtain ⟨a,vs,rfl,sq,⟨v1,r1,rfl,h1,⟨v2,r2,rfl,h2,h3⟩⟩,_⟩:=r
  cases (show r2=[] from h3)
  have E':=(E.set (i:=i) (v:=v1) (by rw [hi]; exact Nat.lt_add_of_pos_right (Nat.succ_pos _)) h1).set (i:=j) (v:=v2) (by rw [hj]; exact Nat.lt_succ_self _) h2
  have es:((σ++List.replicate 2 none).set i (some v1)).set j (some v2)=σ++[some v1,some v2]:=by
   have e1:(σ++List.replicate 2 none).set i (some v1)=σ++[some v1,none]:=Uq σ none [none] (hi.trans l2.symm) (some v1)
   rw [e1]
   have e2:σ++[some v1,none]=(σ++[some v1])++[none]:=by simp
   rw [e2,Uq (σ++[some v1]) none [] (by rw [List.length_append,hj,l2]; rfl) (some v2)]
   simp
  refine ⟨a,_,rfl,vF E.ext.gh sq,rfl,v1,_,rfl,v2,_,rfl,rfl,?_⟩
  show Q (((σ++List.replicate 2 none).set i (some v1)).set j (some v2)) H
  rw [es]
  refine k [some v1,some v2] ?_
  rw [<- es]
  exact E'
 ·cases hf⟩
theorem QL (X:Cx) (own:List Str):(yx X.N own).length=X.N.length+own.length:=by
 unfold yx
 rw [List.length_append,List.length_map]
theorem QO {C:Addr} {s:Shared} {H:Hp} {fp:List Addr} {pn:List (Addr×Obj)} (h:SE (xn X scope cl own C s H fp pn) elt f):PE (xn X scope cl own C s H fp pn) elt (T7 X.K (X.N.length+own.length) f):=by
 have q:=h.pe
 rw [show (xn X scope cl own C s H fp pn).N.length=X.N.length+own.length from QL X own] at q
 exact q
theorem QP {C:Addr} {s:Shared} {H:Hp} {fp:List Addr} {pn:List (Addr×Obj)} (h:gY (xn X scope cl own C s H fp pn) ifs ft):pE (xn X scope cl own C s H fp pn) ifs (WL X.K (X.N.length+own.length) ft):=by
 have q:=h.h
 rw [show (xn X scope cl own C s H fp pn).N.length=X.N.length+own.length from QL X own] at q
 exact q
theorem wI (hcalm:X.calm=true) (B:p4 X scope cl own) (hi:SI X tg iter fs) (hg:BG X scope cl own tg g fg) (hc:∀ C s H fp pn,gY (xn X scope cl own C s H fp pn) ifs ft)
  (he:∀ C s H fp pn,SE (xn X scope cl own C s H fp pn) elt f) (hs:∀ x,foldedSetIterable iter X.env x=pure x:=by intro _; rfl) :
  SF X (.ListComp elt [⟨tg,iter,ifs,0⟩] scope pos) (xJ own.length fs fg ft f):=by
 obtain ⟨ti,pi,ki⟩:=hi.h
 refine ⟨⟨_,GG hcalm B pi (fun C s H fp pn=>(hg.q C s H fp pn).h) (fun C s H fp pn=>QP (hc C s H fp pn)) (fun C s H fp pn=>QO (he C s H fp pn)) hs,fun {G0 H0 G H τ σ d Q} K hf q=>?_⟩⟩
 obtain ⟨ds,hd,hf⟩:=zG hf
 obtain ⟨out,ho,hf⟩:=zG hf
 cases hf
 refine ki K hd fun J Ga Ha xa l wk=>J_ wk l (K.go xa) ho (hg.k K.l2 K.l1) fun ys G1 H1 x1 r1 l1 p hp=>?_
 exact q p _ _ (xa.trans (x1.trans (zN.layO x1.gh hp))) (xa.h.free (x1.h.free hp)) (x1.gh.free hp) ⟨ys,yj,r1,l1⟩
theorem WC {i:Nat} {x:Str} {px spos:Pos} (hcalm:X.calm=true) (hN:X.N.Nodup) (hix:X.N[i]?=some x) (hx:X.env.scope.names.lookup x=some .local) (B:p4 X scope cl own)
  (hsw:swapsWith (.ListComp elt [⟨tg,iter,ifs,0⟩] scope pos) (some (.Name x px)) spos.line X.env=pure true) (hi:SI X tg iter fs) (hg:BG X scope cl own tg g fg) (hc:∀ C s H fp pn,gY (xn X scope cl own C s H fp pn) ifs ft)
  (he:∀ C s H fp pn,SE (xn X scope cl own C s H fp pn) elt f) (hs:∀ x,foldedSetIterable iter X.env x=pure x:=by intro _; rfl) :
  SS X (.Assign [.Name x px] (.ListComp elt [⟨tg,iter,ifs,0⟩] scope pos) spos) (zU i (xJ own.length fs fg ft f)):=by
 obtain ⟨ti,pi,ki⟩:=hi.h
 refine ⟨⟨_,OJ hcalm hN hix hx B hsw pi (fun C s H fp pn=>(hg.q C s H fp pn).h) (fun C s H fp pn=>QP (hc C s H fp pn)) (fun C s H fp pn=>QO (he C s H fp pn)) hs,fun {G0 H0 G H τ σ fl E} K hf q=>?_⟩⟩
 obtain ⟨d,hf1,hf⟩:=zG hf
 cases hf
 obtain ⟨ds,hd,hf1⟩:=zG hf1
 obtain ⟨out,ho,hf1⟩:=zG hf1
 cases hf1
 refine ki K hd fun J Ga Ha xa l wk=>J_ wk l (K.go xa) ho (hg.k K.l2 K.l1) fun ys G1 H1 x1 r1 l1 p hp=>?_
 have K2:=((K.go xa).go x1).go (zN.lay (o:=.lst ys) x1.gh hp)
 exact q _ _ _ (K2.set (List.getElem?_eq_some_iff.mp hix).1 ⟨p,ys,rfl,zw.of yj,r1.mono (wA (x1.gh.free hp) _),l1⟩)
end
section
variable {K:PySem.W.Frag} {n:Nat} {G0 H0 G H:Hp} {τ:zb} {σ:St}
theorem zZ.mut {i:Nat} {d d':D} {p:Addr} {o:HO} (E:zZ K n G0 H0 G H τ σ) (hi:τ[i]?=some (some (true,d))) (hp:σ[i]?=some (some (.ref p))) (new:v6 K G (zX H p o) d' p):zZ K n G0 H0 G (zX H p o) (τ.set i (some (true,d'))) σ:=by
 obtain ⟨p',e,g,z,_⟩:=E.ow i d hi
 rw [hp] at e
 cases e
 have keep:∀ {H1:Hp},H1 p=none->zl H1 H->zl H1 (zX H p o):=fun {H1} h s b u q=>by
  rw [yT (vA q h)]
  exact s _ _ q
 refine ⟨⟨E.ext.g,keep z E.ext.h,keep g E.ext.gh,E.ext.new⟩,E.l1,by rw [List.length_set]; exact E.l2,fun j e h=>?_,fun j e h=>?_,fun j k e f q hne h1 h2 h3 h4=>?_⟩
 ·rcases xc h with ⟨rfl,w⟩ | ⟨ne,w⟩
  ·cases w
  ·exact E.fr j e w
 ·rcases xc h with ⟨rfl,w⟩ | ⟨ne,w⟩
  ·cases w
   exact ⟨p,hp,g,z,new⟩
  ·obtain ⟨q,eq,gq,zq,oq⟩:=E.ow j e w
   refine ⟨q,eq,gq,zq,?_⟩
   have hne:q≠p:=fun c=>by
    subst c
    exact E.ap i j d e q (fun c=>ne c.symm) hi w hp eq
   cases e with
   | lst ds=>obtain ⟨vs,ev,r⟩:=oq; exact ⟨vs,by rw [yT hne]; exact ev,r⟩
   | dic ks ds=>obtain ⟨vs,ev,r⟩:=oq; exact ⟨vs,by rw [yT hne]; exact ev,r⟩
   | _=>exact oq.elim
 ·have t:∀ {j:Nat} {e:D},(τ.set i (some (true,d')))[j]?=some (some (true,e))->∃ e,τ[j]?=some (some (true,e)):=fun {j e} h=>by
   rcases xc h with ⟨rfl,_⟩ | ⟨_,w⟩
   ·exact ⟨_,hi⟩
   ·exact ⟨_,w⟩
  obtain ⟨e1,w1⟩:=t h1
  obtain ⟨e2,w2⟩:=t h2
  exact E.ap j k e1 e2 q hne w1 w2 h3 h4
end
section
variable {X:Cx} {x:Str} {xp pos apos cpos:Pos} {e:Expr} {f:FE}
theorem uO {i:Nat} (ho:QE X (.Name x xp) (we i)) (he:SE X e f) (hbase:attributeBase (.Name x xp) "append" X.env (eval (.Name x xp) X.env)=eval (.Name x xp) X.env:=by rfl) (hline:(apos.endLine == cpos.line)=true:=by rfl) (hs:yl e=true:=by rfl) :
  SS X (.Expr (.Call (.Attribute (.Name x xp) "append" apos) [e] [] cpos) pos) (wN i wE f):=by
 obtain ⟨t,p,k⟩:=(zC he zH hs).h
 refine ⟨⟨_,(Z8 (jv PySem.F.plainAttrs_list PySem.F.slot_list_append PySem.F.type_list_append IO ho ⟨p⟩ hbase hline (by rw [List.all_cons,hs]; rfl) (by show 1<30; decide)) rfl).h,fun {G0 H0 G H τ σ fl E} K hf q=>?_⟩⟩
 unfold wN at hf
 split at hf
 ·rename_i d hd
  obtain ⟨y,hy,hf⟩:=zG hf
  obtain ⟨d',hd',hf⟩:=zG hf
  cases hf
  obtain ⟨a,ea,g,z,o⟩:=K.ow _ _ hd
  cases d with
  | lst ds=>
   obtain ⟨vs,ev,rs,l⟩:=o
   refine ⟨_,ea,.inl ⟨rfl,vs,zw.of ev⟩,k K (ds:=[y]) (by unfold zA; rw [hy]; rfl) fun us G1 H1 x1 r1=>?_⟩
   obtain ⟨u,r,rfl,hu,hr⟩:=r1
   cases (show r=[] from hr)
   change (if ds.length<zy then some (D.lst (ds++[y])) else none)=some d' at hd'
   by_cases c:ds.length<zy
   ·rw [if_pos c] at hd'
    cases hd'
    refine ⟨a,vs,u,rfl,rfl,x1.h _ _ ev,by rw [rs.length,sizeLine_eq]; exact c,?_⟩
    refine q _ _ _ ((K.go x1).mut hd ea ⟨vs++[u],yj,(rs.mono x1.g).append (Reps.one hu),?_⟩)
    rw [List.length_append,sizeLine_eq]
    exact c
   ·rw [if_neg c] at hd'
    cases hd'
  | _=>cases hd'
 ·cases hf
end
section
variable {P:Program} {w:World} {K:PySem.W.Frag} {mg:Str->Option Value} {base:Heap}
theorem V_ {α β:Type} {ds:List α} {k i:Nat} {h:α->Option β} {y:β} (e:(ds.map h++List.replicate k none)[i]?=some (some y)):∃ d,ds[i]?=some d/\h d=some y:=by
 have e':=XC e
 rw [List.getElem?_map] at e'
 cases q:ds[i]? with
 | none=>rw [q] at e'; cases e'
 | some d=>
  rw [q] at e'
  exact ⟨d,rfl,Option.some.inj e'⟩
theorem Qy {N:List Str} {G H:Hp} {ds:List D} {vs:List V} (s:zl G H) (r:Reps K G ds vs) (hl:ds.length<=N.length):zZ K N.length G H G H (ds.map (fun d=>some (false,d))++List.replicate (N.length - ds.length) none) (L2.start N vs):=by
 have l:=r.length
 refine ⟨zN.refl s,?_,?_,fun i d h=>?_,fun i d h=>?_,fun i j d e p _ h1=>?_⟩
 ·unfold L2.start
  rw [List.length_append,List.length_map,List.length_replicate]
  omega
 ·rw [List.length_append,List.length_map,List.length_replicate]
  omega
 ·obtain ⟨d',e,z⟩:=V_ h
  cases z
  obtain ⟨v,ev,rv⟩:=r.get e
  refine ⟨v,?_,rv⟩
  unfold L2.start
  rw [List.getElem?_append_left (by rw [List.length_map]; exact (List.getElem?_eq_some_iff.mp ev).1),List.getElem?_map,ev]
  rfl
 ·obtain ⟨d',e,z⟩:=V_ h
  cases z
 ·obtain ⟨d',e,z⟩:=V_ h1
  cases z
theorem zJ.okS {x:Str} {st:Stmt} {N ps:List Str} {k:Nat} {F:List D->Option (Bool×D)} {b:FS} (d:zJ K mg x st ps) (S:yD N ps (zr st)) (hN:ps.length<=N.length) (hF:∀ ds r,F ds=some r->ds.length=ps.length/\za N.length b ds=some r)
  (hb:∀ (f:Addr) (cdv:Value) (A:Around) (outer:List Env) (s:Shared) (H:Hp) (E:XK),yz k (A.deeper (envOfC x (zr st) s.heap.objs.size f cdv))->vK (tX vV P w K mg base N x (zr st) f cdv A outer s H E).nox (uw st) b):zO P w K mg base x ps (k+1) (zP K F):=by
 refine d.ok S (fun vs H Q E h=>?_) fun f cdv A outer s H vs Q E hr h=>?_
 ·obtain ⟨G,ds,o,dd,_,r,e,_⟩:=h
  rw [r.length,(hF _ _ e).1]
 ·obtain ⟨G,ds,o,dd,s',r,e,q⟩:=h
  obtain ⟨l,hrun⟩:=hF _ _ e
  obtain ⟨t,p,kt⟩:=(hb f cdv A outer s H E hr).h
  obtain ⟨fl,hfl,hrun⟩:=zG hrun
  refine ⟨t,p,kt (Qy (N:=N) s' r (by omega)) hfl ?_⟩
  cases fl with
  | nx τ=>
   cases hrun
   exact fun σ G' H' z=>q .non G' H' z.ext rfl
  | rt o' d'=>
   cases hrun
   cases o with
   | false=>exact q
   | true=>exact q
  | _=>cases hrun
end
end L3
namespace L3
open PySem PySem.Spec PyProof.Rows L2
section
variable {P:Program} {w:World} {K:PySem.W.Frag} {mg:Str->Option Value} {base:Heap}
end
end L3
namespace L3
open PySem PySem.Spec PyProof.Rows L2
section
variable {X:Cx} {K:PySem.W.Frag}
theorem jq {C:Int->Int->Prop} {Cb:Int->Int->Bool} {g:Int->Int->Int} (h:∀ i j,Cb i j=true->C i j):v4 K (rI C fun i j=>.int (g i j)) (fI Cb g):=fun G H x y u v d Q s rx ry hf q=>by
 cases x<;>first | (cases hf; done) | skip
 cases y<;>first | (cases hf; done) | skip
 rename_i i j
 change (match Cb i j with | true=>some (D.int (g i j)) | false=>none)=some d at hf
 cases c:Cb i j with
 | false=>rw [c] at hf; cases hf
 | true=>
  rw [c] at hf
  cases hf
  exact ⟨i,j,rx,ry,h i j c,q _ _ _ (zN.refl s) rfl⟩
theorem ua {g:Int->Int->Int}:v4 K (u8 fun i j=>.int (g i j)) (wY g):=fun G H x y u v d Q s rx ry hf q=>by
 cases x<;>first | (cases hf; done) | skip
 cases y<;>first | (cases hf; done) | skip
 cases hf
 exact ⟨_,_,rx,ry,q _ _ _ (zN.refl s) rfl⟩
theorem Ir:v4 K (u8 fun i j=>.int (i - j)) XB:=fun G H x y u v d Q s rx ry hf q=>by
 cases x<;>first | (cases hf; done) | skip
 cases y<;>first | (cases hf; done) | skip
 cases hf
 exact ⟨_,_,rx,ry,q _ _ _ (zN.refl s) rfl⟩
theorem IK {i:Int} (h:qh i=true) : -(2 ^ 64)<i/\i<2 ^ 64:=by
 unfold qh at h
 rw [Bool.and_eq_true] at h
 exact ⟨of_decide_eq_true h.1,of_decide_eq_true h.2⟩
theorem Ip:v4 K (rI gQ fun i j=>.int (i*j)) X9:=jq fun _ _ h=>.inl (IK h)
theorem Iq:v4 K (rI gQ fun i j=>.int (i*j)) XA:=jq fun _ _ h=>.inr (IK h)
theorem xD:v4 K (rI (fun _ j=>0<j) fun i j=>.int (i % j)) ym:=jq fun _ _ h=>of_decide_eq_true h
theorem vQ:v4 K (rI (fun _ j=>0<j/\j<2 ^ 64) fun i j=>.int (i / j)) wG:=jq fun _ _ h=>by
 rw [Bool.and_eq_true] at h
 exact ⟨of_decide_eq_true h.1,of_decide_eq_true h.2⟩
theorem Gk {i j:Int} (h:ju i j=true):WZ i j:=by
 unfold ju at h
 rw [Bool.and_eq_true,Bool.and_eq_true] at h
 exact ⟨of_decide_eq_true h.1,of_decide_eq_true h.2.1,of_decide_eq_true h.2.2⟩
theorem Z0:v4 K (rI WZ fun i j=>.int (i*2 ^ j.toNat)) pO:=jq fun _ _ h=>Gk h
theorem ub {g:Int->Int->Bool}:uG K (u8 fun i j=>.bl (g i j)) (v8 g):=fun H x y u v d Q rx ry hf=>by
 cases x<;>first | (cases hf; done) | skip
 cases y<;>first | (cases hf; done) | skip
 cases hf
 exact ⟨_,rfl,fun q=>⟨_,_,rx,ry,q⟩⟩
theorem JV {H:Hp} {x:D} {u:V} (r:zR K H x u):qX x=decide (u=.non):=by
 cases x with
 | non=>cases r; rfl
 | bl b=>cases r; rfl
 | int b=>cases r; rfl
 | str b=>obtain ⟨rfl,_⟩:=r; rfl
 | tup b=>obtain ⟨a,vs,rfl,_⟩:=r; rfl
 | lst b=>obtain ⟨a,vs,rfl,_⟩:=r; rfl
 | dic b c=>obtain ⟨a,vs,rfl,_⟩:=r; rfl
theorem Io:uG K (fun x y H Q=>y=.non/\Q (.bl (decide (x=.non))) H) pM:=fun H x y u v d Q rx ry hf=>by
 cases y<;>first | (cases hf; done) | skip
 have e:=JV rx
 refine ⟨qX x,(Option.some.inj hf).symm,fun q=>⟨ry,?_⟩⟩
 rw [<- e]
 exact q
theorem EG:uG K (fun x y H Q=>y=.non/\Q (.bl (!decide (x=.non))) H) VQ:=fun H x y u v d Q rx ry hf=>by
 cases y<;>first | (cases hf; done) | skip
 have e:=JV rx
 refine ⟨!qX x,(Option.some.inj hf).symm,fun q=>⟨ry,?_⟩⟩
 rw [<- e]
 exact q
theorem j7:∀ (G H:Hp) x u d (Q:VK),zR K G x u->tY x=some d->∃ w,(∀ G,zR K G d w)/\(Q w H->rU (fun i=>.int (-i)) u H Q):=fun G H x u d Q r hf=>by
 cases x<;>first | (cases hf; done) | skip
 cases hf
 exact ⟨_,fun _=>rfl,fun q=>⟨_,r,q⟩⟩
theorem Px:∀ (G H:Hp) x u d (Q:VK),zR K G x u->X8 x=some d->∃ w,(∀ G,zR K G d w)/\(Q w H->rU (fun i=>.int (Builtin.bitNot i)) u H Q):=fun G H x u d Q r hf=>by
 cases x<;>first | (cases hf; done) | skip
 cases hf
 exact ⟨_,fun _=>rfl,fun q=>⟨_,r,q⟩⟩
def OX (K:PySem.W.Frag):R2:=fun x y H Q=>∃ l b xs zs,x=.ref l/\y=.ref b/\zw K H l xs/\zw K H b zs/\xs.length+zs.length<=sizeLine/\∀ p,H p=none->Q (.ref p) (zX H p (.lst (xs++zs)))
theorem Ix:yE X (binaryOp .Add) (OX X.K):=by
 intro pins s σ H x y v u Q I rx ry h
 obtain ⟨l,b,xs,zs,rfl,rfl,hl,hb,hz,q⟩:=h
 cases rx
 cases ry
 obtain ⟨its,r1,p1,_⟩:=I.list hl
 obtain ⟨its2,r2,p2,_⟩:=I.list hb
 obtain ⟨⟨c1,d1,t1,sl1⟩,n1,ho1,hc1,hd1,ht1⟩:=p1
 obtain ⟨⟨c2,d2,t2,sl2⟩,n2,ho2,hc2,hd2,ht2⟩:=p2
 simp only at hc1 ht1 hc2 ht2
 subst hc1 ht1 hc2 ht2
 refine concat_meets ⟨_,ho1,rfl⟩ ⟨_,ho2,rfl⟩ noFill_list_add seq_list_add PySem.F.slot_list_add PySem.F.entry_list_add (PySem.F.args_list_add_2 _ _)
  (list_addW l b its.toArray its2.toArray n1 n2 d1 d2 sl1 sl2 (by rw [List.size_toArray,List.size_toArray,<- r1.length,<- r2.length]; exact hz)) ⟨ho1,ho2,?_⟩
 rw [show its.toArray++its2.toArray=(its++its2).toArray by simp]
 exact ⟨.ref _,_,I.lnew (t':=s.toks) (r1.append r2) (by rw [List.length_append]; exact hz),rfl,q _ I.fresh⟩
def OV (K:PySem.W.Frag):R2:=fun x y H Q=>u8 (fun i j=>.int (i+j)) x y H Q\/(∃ i k,x=.int i/\y=.bl k/\Q (.int (i+b2i k)) H)\/(∃ i j,x=.str i/\y=.str j/\i.length+j.length<=sizeLine/\Q (.str (i++j)) H)\/OX K x y H Q\/OY K x y H Q
theorem xT:yE X (binaryOp .Add) (OV X.K):=EV.or (EW.or (EX.or (Ix.or EY)))
theorem xR:v4 K (OV K) yt:=fun G H x y u v d Q s rx ry hf q=>by
 cases x<;>cases y<;>first | (cases hf; done) | skip
 ·rename_i i b
  cases rx
  cases ry
  cases hf
  refine .inr (.inl ⟨i,b,rfl,rfl,?_⟩)
  have e:i+b2i b=i+(if b then 1 else 0):=by cases b<;>rfl
  rw [e]
  exact q _ _ _ (zN.refl s) rfl
 ·cases hf
  exact .inl ⟨_,_,rx,ry,q _ _ _ (zN.refl s) rfl⟩
 ·rename_i i j
  obtain ⟨rfl,l1⟩:=rx
  obtain ⟨rfl,l2⟩:=ry
  change (if i.length+j.length<=zy then _ else _)=_ at hf
  by_cases c:i.length+j.length<=zy
  ·rw [if_pos c] at hf
   cases hf
   have c':i.length+j.length<=sizeLine:=by rw [sizeLine_eq]; exact c
   exact .inr (.inr (.inl ⟨i,j,rfl,rfl,c',q _ _ _ (zN.refl s) ⟨rfl,by rw [strLen_append]; exact c'⟩⟩))
  ·rw [if_neg c] at hf
   cases hf
 ·rename_i xs ys
  obtain ⟨a,vs,rfl,sa,ra,_⟩:=rx
  obtain ⟨b,us,rfl,sb,rb,_⟩:=ry
  change (if xs.isEmpty=false/\xs.length+ys.length<=zy then _ else _)=_ at hf
  by_cases c0:xs.isEmpty=false/\xs.length+ys.length<=zy
  ·rw [if_pos c0] at hf
   have c:=c0.2
   cases hf
   have c':(xs++ys).length<=sizeLine:=by rw [sizeLine_eq,List.length_append]; exact c
   have hx:vs≠[]:=fun e=>by
    have l:=ra.length
    rw [e] at l
    cases xs with
    | nil=>cases c0.1
    | cons=>cases l
   ·refine .inr (.inr (.inr (.inr ⟨a,b,vs,us,rfl,rfl,vF s sa,vF s sb,hx,by rw [ra.length,rb.length,sizeLine_eq]; exact c,fun e=>?_,fun e p hp=>?_⟩)))
    ·subst e
     have e2:ys=[]:=by
      cases ys with
      | nil=>rfl
      | cons=>obtain ⟨_,_,z,_⟩:=rb; cases z
     subst e2
     exact q _ _ _ (zN.refl s) ⟨a,vs,rfl,sa,by rw [List.append_nil]; exact ra,c'⟩
    ·exact q _ _ _ (zN.lay s hp) ⟨p,vs++us,rfl,ye.of yj,(ra.append rb).mono (wA (s.free hp) _),c'⟩
  ·rw [if_neg c0] at hf
   cases hf
 ·rename_i xs ys
  obtain ⟨a,vs,rfl,sa,ra,_⟩:=rx
  obtain ⟨b,us,rfl,sb,rb,_⟩:=ry
  change (if xs.length+ys.length<=zy then _ else _)=_ at hf
  by_cases c:xs.length+ys.length<=zy
  ·rw [if_pos c] at hf
   cases hf
   have c':(xs++ys).length<=sizeLine:=by rw [sizeLine_eq,List.length_append]; exact c
   refine .inr (.inr (.inr (.inl ⟨a,b,vs,us,rfl,rfl,wB s sa,wB s sb,by rw [ra.length,rb.length,sizeLine_eq]; exact c,fun p hp=>?_⟩)))
   exact q _ _ _ (zN.lay s hp) ⟨p,vs++us,rfl,zw.of yj,(ra.append rb).mono (wA (s.free hp) _),c'⟩
  ·rw [if_neg c] at hf
   cases hf
theorem ML {α:Type} {xs:List α} {i:Int} {x:α} (h:vM xs i=some x):∃ j:Nat,xs[j]?=some x/\∀ {β:Type} (ys:List β),ys.length=xs.length->vM ys i=ys[j]?:=by
 unfold vM at h
 cases e:ixN xs.length i with
 | none=>rw [e] at h; cases h
 | some j=>
  rw [e] at h
  exact ⟨j,h,fun ys l=>by unfold vM; rw [l,e]; rfl⟩
theorem Q4 {α:Type} (xs:List α) (i:Int):vM xs i=wm xs i:=by
 unfold vM wm ixN
 by_cases h:0<=i
 ·rw [if_pos h,if_pos h]
  by_cases h2:i<xs.length
  ·rw [if_pos h2]; rfl
  ·rw [if_neg h2]
   exact (List.getElem?_eq_none (by omega)).symm
 ·rw [if_neg h,if_neg h]
  split<;>rfl
theorem UX {H:Hp} {ds:List D} {vs:List V} {i:Int} {d:D} (r:Reps K H ds vs) (h:wm ds i=some d):∃ v,vM vs i=some v/\zR K H d v:=by
 rw [<- Q4] at h
 obtain ⟨j,e,k⟩:=ML h
 obtain ⟨v,ev,rv⟩:=r.get e
 exact ⟨v,by rw [k vs r.length]; exact ev,rv⟩
def BT:D->D->Option D
 | .lst xs,.int i=>wm xs i
 | .tup xs,.int i=>wm xs i
 | .str z,.int i=>(wm z.cps.toList i).bind fun c=>some (.str ⟨#[c]⟩)
 | _,_=>none
theorem U9:v4 K (UV K) BT:=fun G H x y u v d Q s rx ry hf q=>by
 cases x<;>first | (cases hf; done) | skip
 all_goals (cases y<;>first | (cases hf; done) | skip)
 ·rename_i z i
  obtain ⟨rfl,l⟩:=rx
  cases ry
  obtain ⟨c,hc,hf⟩:=zG hf
  cases hf
  rw [<- Q4] at hc
  exact .inr (.inr ⟨z,i,c,rfl,rfl,l,hc,q _ _ _ (zN.refl s) ⟨rfl,small (n:=1) (by decide)⟩⟩)
 ·rename_i xs i
  obtain ⟨a,vs,rfl,sa,ra,_⟩:=rx
  cases ry
  obtain ⟨w,hw,rw_⟩:=UX ra hf
  exact .inr (.inl ⟨a,vs,i,w,rfl,rfl,vF s sa,hw,q _ _ _ (zN.refl s) rw_⟩)
 ·rename_i xs i
  obtain ⟨a,vs,rfl,sa,ra,_⟩:=rx
  cases ry
  obtain ⟨w,hw,rw_⟩:=UX ra hf
  exact .inl ⟨a,vs,i,w,rfl,rfl,wB s sa,hw,q _ _ _ (zN.refl s) rw_⟩
theorem xl:xr X (.builtin "len") (fun xs H Q=>(∃ p ys,xs=[.ref p]/\(zw X.K H p ys\/ye X.K H p ys)/\Q (.int ys.length) H)\/∃ z,xs=[.str z]/\z.length<=sizeLine/\Q (.int z.length) H):=Mi.or Mj
theorem xo:Wj K (fun xs H Q=>(∃ p ys,xs=[.ref p]/\(zw K H p ys\/ye K H p ys)/\Q (.int ys.length) H)\/∃ z,xs=[.str z]/\z.length<=sizeLine/\Q (.int z.length) H) yy:=fun G H ds vs d Q s r hf q=>by
 match ds,hf with
 | [.lst xs],hf=>
  cases hf
  obtain ⟨v,r',rfl,⟨a,us,rfl,sq,ru,_⟩,h2⟩:=r
  cases (show r'=[] from h2)
  exact .inl ⟨a,us,rfl,.inl sq,by rw [ru.length]; exact q _ _ _ (zN.refl s) rfl⟩
 | [.tup xs],hf=>
  cases hf
  obtain ⟨v,r',rfl,⟨a,us,rfl,sq,ru,_⟩,h2⟩:=r
  cases (show r'=[] from h2)
  exact .inl ⟨a,us,rfl,.inr sq,by rw [ru.length]; exact q _ _ _ (zN.refl s) rfl⟩
 | [.str z],hf=>
  cases hf
  obtain ⟨v,r',rfl,⟨rfl,l⟩,h2⟩:=r
  cases (show r'=[] from h2)
  exact .inr ⟨z,rfl,l,q _ _ _ (zN.refl s) rfl⟩
end
end L3
namespace L3
open PySem PySem.Spec PyProof.Rows L2
theorem Qk:∀ xs ys:List D,(((List.range (min xs.length ys.length)).all fun j=>zc (xs.getD j .non) (ys.getD j .non))&&xs.length == ys.length)=dEqs xs ys
 | [],[]=>rfl
 | [],_::_=>rfl
 | _::_,[]=>rfl
 | x::xs,y::ys=>by
  have ih:=Qk xs ys
  show _=(zc x y&&dEqs xs ys)
  rw [<- ih,List.length_cons,List.length_cons,Nat.succ_min_succ,List.range_succ_eq_map,List.all_cons,List.all_map,Bool.and_assoc]
  congr 1
  congr 1
  rw [Bool.eq_iff_iff]
  simp
theorem Qd {f:D->D->Bool}:∀ {xs ys:List D},vN f xs ys=true->∀ (j:Nat) x y,xs[j]?=some x->ys[j]?=some y->f x y=true
 | [],_,_,j,x,y,e,_=>by cases e
 | x::xs,[],_,j,_,y,_,e=>by cases e
 | x::xs,y::ys,h,0,_,_,e1,e2=>by
  cases e1
  cases e2
  have h':(f x y&&vN f xs ys)=true:=h
  rw [Bool.and_eq_true] at h'
  exact h'.1
 | x::xs,y::ys,h,j+1,a,b,e1,e2=>by
  have h':(f x y&&vN f xs ys)=true:=h
  rw [Bool.and_eq_true] at h'
  exact Qd h'.2 j a b (by simpa using e1) (by simpa using e2)
section
variable {X:Cx} {pins:List (Addr×Obj)} {σ:St} {H:Hp} {s:Shared} {K:PySem.W.Frag}
theorem VE {n:Nat} (ih:∀ d1 d2 v,xm n d1 d2=true->zR K H d1 v->zR K H d2 v->zc d1 d2=true):∀ {xs ys:List D} {vs:List V},vN (xm n) xs ys=true->Reps K H xs vs->Reps K H ys vs->dEqs xs ys=true
 | [],[],_,_,_,_=>rfl
 | [],_::_,_,_,r1,r2=>by
  cases (show _=[] from r1)
  obtain ⟨_,_,e,_⟩:=r2
  cases e
 | _::_,[],_,_,r1,r2=>by
  cases (show _=[] from r2)
  obtain ⟨_,_,e,_⟩:=r1
  cases e
 | x::xs,y::ys,_,h,r1,r2=>by
  obtain ⟨v,r,rfl,a,b⟩:=r1
  obtain ⟨v',r',e,a',b'⟩:=r2
  cases e
  have h':(xm n x y&&vN (xm n) xs ys)=true:=h
  rw [Bool.and_eq_true] at h'
  show (zc x y&&dEqs xs ys)=true
  rw [ih x y v h'.1 a a',VE ih h'.2 b b']
  rfl
theorem V5 {n:Nat} {x y:D} (h:xm (n+1) x y=true):(∃ xs ys,x=.tup xs/\y=.tup ys/\vN (xm n) xs ys=true)\/(∃ xs ys,x=.lst xs/\y=.lst ys/\vN (xm n) xs ys=true)\/(yf x=true/\yf y=true):=by
 unfold xm at h
 split at h
 ·exact .inl ⟨_,_,rfl,rfl,h⟩
 ·exact .inr (.inl ⟨_,_,rfl,rfl,h⟩)
 ·rw [Bool.and_eq_true] at h
  exact .inr (.inr h)
theorem p_ {d:D} {v:V} (h:yf d=true) (r:zR K H d v):vv v=true:=by
 cases d<;>first | exact absurd h Bool.false_ne_true | skip
 ·cases (show v=_ from r); rfl
 ·cases (show v=_ from r); rfl
 ·cases (show v=_ from r); rfl
 ·cases (show v=_/\_ from r).1; rfl
theorem ZB {d1 d2:D} {x y:V} (h1:yf d1=true) (h2:yf d2=true) (r1:zR K H d1 x) (r2:zR K H d2 y):vO x y=zc d1 d2:=by
 cases d1<;>first | exact absurd h1 Bool.false_ne_true | skip
 all_goals (cases d2<;>first | exact absurd h2 Bool.false_ne_true | skip)
 all_goals first
  | (cases (show x=_ from r1); cases (show y=_ from r2); rfl)
  | (cases (show x=_ from r1); cases (show y=_/\_ from r2).1; rfl)
  | (cases (show x=_/\_ from r1).1; cases (show y=_ from r2); rfl)
  | (cases (show x=_/\_ from r1).1; cases (show y=_/\_ from r2).1; rfl)
theorem X6 (I:Inv X pins σ H s):∀ (n:Nat) (d1 d2:D) (v:V),xm n d1 d2=true->zR X.K H d1 v->zR X.K H d2 v->zc d1 d2=true
 | 0,_,_,_,h,_,_=>by cases h
 | n+1,d1,d2,v,h,r1,r2=>by
  rcases V5 h with ⟨xs,ys,rfl,rfl,h⟩ | ⟨xs,ys,rfl,rfl,h⟩ | ⟨f1,f2⟩
  ·obtain ⟨a,vs,rfl,s1,q1,_⟩:=r1
   obtain ⟨a',us,e,s2,q2,_⟩:=r2
   cases e
   cases I.tuple_inj s1 s2
   exact VE (fun d1 d2 v=>X6 I n d1 d2 v) h q1 q2
  ·obtain ⟨a,vs,rfl,s1,q1,_⟩:=r1
   obtain ⟨a',us,e,s2,q2,_⟩:=r2
   cases e
   cases I.list_inj s1 s2
   exact VE (fun d1 d2 v=>X6 I n d1 d2 v) h q1 q2
  ·rw [<- ZB f1 f2 r1 r2]
   exact BM (p_ f1 r1)
theorem J7 {α:Type} {xs:List α} {j:Nat} {x d:α} (h:xs[j]?=some x):xs.getD j d=x:=by rw [List.getD_eq_getElem?_getD,h]; rfl
theorem Xz {A:Around} {n:Nat} {a c:Addr} {xs ys:List D} {vs us:List V} (I:Inv X pins σ H s) (hu:A.units<cLine) (hq:Ty X.K H a c vs us) (q1:Reps X.K H xs vs) (q2:Reps X.K H ys us) (h:vN (xm n) xs ys=true)
  (ih:∀ (d1 d2:D) (x y:V) (u v:Value),xm n d1 d2=true->zR X.K H d1 x->zR X.K H d2 y->zi x u->zi y v->SeqAt.EqAt A.in1 s u v (zc d1 d2)):SeqAt.RcAt A s (.ref a) (.ref c) (dEqs xs ys)/\SeqAt.RcNeAt A s (.ref a) (.ref c) (!dEqs xs ys):=by
 have z:=Hi (A:=A) (e:=fun j=>zc (xs.getD j .non) (ys.getD j .non)) I hu hq fun j x' y' u' v' e1 e2 w1 w2=>by
  obtain ⟨d1,g1,t1⟩:=q1.at e1
  obtain ⟨d2,g2,t2⟩:=q2.at e2
  show SeqAt.EqAt A.in1 s u' v' (zc (xs.getD j .non) (ys.getD j .non))
  rw [J7 g1,J7 g2]
  exact ih d1 d2 x' y' u' v' (Qd h j d1 d2 g1 g2) t1 t2 w1 w2
 rw [q1.length,q2.length,Qk] at z
 exact z
theorem X5 (I:Inv X pins σ H s):∀ (n:Nat) (A:Around) (d1 d2:D) (x y:V) (u v:Value),A.units+n<cLine->xm n d1 d2=true->zR X.K H d1 x->zR X.K H d2 y->zi x u->zi y v->SeqAt.EqAt A s u v (zc d1 d2)
 | 0,_,_,_,_,_,_,_,_,h,_,_,_,_=>by cases h
 | n+1,A,d1,d2,x,y,u,v,hu,h,r1,r2,rx,ry=>by
  have h0:=h
  have ra:=r1
  have rb:=r2
  rcases V5 h with ⟨xs,ys,rfl,rfl,h⟩ | ⟨xs,ys,rfl,rfl,h⟩ | ⟨f1,f2⟩
  ·obtain ⟨a,vs,rfl,s1,q1,l1⟩:=r1
   obtain ⟨c,us,rfl,s2,q2,l2⟩:=r2
   cases (show u=Value.ref a from rx)
   cases (show v=Value.ref c from ry)
   by_cases hac:a=c
   ·subst hac
    rw [X6 I (n+1) _ _ _ h0 ra rb]
    exact SeqAt.EqAt.same _
   ·exact SeqAt.EqAt.of_refs hac (Xz I (by omega) (.inl ⟨s1,s2⟩) q1 q2 h fun d1 d2 x y u v hh t1 t2 w1 w2=>X5 I n A.in1 d1 d2 x y u v (by rw [XI]; omega) hh t1 t2 w1 w2).1
  ·obtain ⟨a,vs,rfl,s1,q1,l1⟩:=r1
   obtain ⟨c,us,rfl,s2,q2,l2⟩:=r2
   cases (show u=Value.ref a from rx)
   cases (show v=Value.ref c from ry)
   by_cases hac:a=c
   ·subst hac
    rw [X6 I (n+1) _ _ _ h0 ra rb]
    exact SeqAt.EqAt.same _
   ·exact SeqAt.EqAt.of_refs hac (Xz I (by omega) (.inr ⟨s1,s2⟩) q1 q2 h fun d1 d2 x y u v hh t1 t2 w1 w2=>X5 I n A.in1 d1 d2 x y u v (by rw [XI]; omega) hh t1 t2 w1 w2).1
  ·rw [<- ZB f1 f2 r1 r2]
   exact Qz rx ry (p_ f1 r1) (p_ f2 r2)
end
def Z9 (K:PySem.W.Frag) (neg:Bool):R2:=fun x y H Q=>∃ d1 d2 k,zR K H d1 x/\zR K H d2 y/\uy d1 d2=some k/\Q (.bl (if neg then !k else k)) H
theorem yO {A:Around} {k:Nat} (hr:yz k A):A.units+7<cLine:=Nat.lt_of_le_of_lt (Nat.add_le_add_left (by decide:7<=64) _) hr.units
section
variable {X:Cx} {K:PySem.W.Frag}
theorem VH {d1 d2:D} {k:Bool} (h:uy d1 d2=some k):xm 6 d1 d2=true/\k=zc d1 d2:=by
 unfold uy at h
 split at h
 ·cases h
 ·cases h
 ·split at h
  ·rename_i e
   cases h
   exact ⟨e,rfl⟩
  ·cases h
theorem L8 {H:Hp} {d1 d2:D} {x y:V} {k:Bool} (h:uy d1 d2=some k) (h1:yf d1=true) (h2:yf d2=true) (r1:zR K H d1 x) (r2:zR K H d2 y):Um x y=true/\decide (x=y)=k:=by
 obtain ⟨_,e⟩:=VH h
 subst e
 cases d1<;>first | exact absurd h1 Bool.false_ne_true | skip
 all_goals (cases d2<;>first | exact absurd h2 Bool.false_ne_true | (cases h; done) | skip)
 all_goals first
  | (cases (show x=_ from r1); cases (show y=_ from r2); exact ⟨rfl,by first | rfl | exact V8 | exact V7⟩)
  | (cases (show x=_ from r1); cases (show y=_/\_ from r2).1; exact ⟨rfl,rfl⟩)
  | (cases (show x=_/\_ from r1).1; cases (show y=_ from r2); exact ⟨rfl,rfl⟩)
  | (cases (show x=_/\_ from r1).1; cases (show y=_/\_ from r2).1; exact ⟨rfl,V9⟩)
theorem J0 {pins:List (Addr×Obj)} {σ:St} {H:Hp} {s:Shared} {A:Around} {d1 d2:D} {x y:V} {u v:Value} (I:Inv X pins σ H s) (hu:A.units+7<cLine) (h:xm 6 d1 d2=true) (hf:¬ (yf d1&&yf d2)=true) (r1:zR X.K H d1 x) (r2:zR X.K H d2 y) (rx:zi x u) (ry:zi y v) :
  SeqAt.RcAt A s u v (zc d1 d2)/\SeqAt.RcNeAt A s u v (!zc d1 d2):=by
 rcases V5 h with ⟨xs,ys,rfl,rfl,h⟩ | ⟨xs,ys,rfl,rfl,h⟩ | ⟨f1,f2⟩
 ·obtain ⟨a,vs,rfl,s1,q1,l1⟩:=r1
  obtain ⟨c,us,rfl,s2,q2,l2⟩:=r2
  cases (show u=Value.ref a from rx)
  cases (show v=Value.ref c from ry)
  exact Xz I (by omega) (.inl ⟨s1,s2⟩) q1 q2 h fun d1 d2 x y u v hh t1 t2 w1 w2=>X5 I 5 A.in1 d1 d2 x y u v (by rw [XI]; omega) hh t1 t2 w1 w2
 ·obtain ⟨a,vs,rfl,s1,q1,l1⟩:=r1
  obtain ⟨c,us,rfl,s2,q2,l2⟩:=r2
  cases (show u=Value.ref a from rx)
  cases (show v=Value.ref c from ry)
  exact Xz I (by omega) (.inr ⟨s1,s2⟩) q1 q2 h fun d1 d2 x y u v hh t1 t2 w1 w2=>X5 I 5 A.in1 d1 d2 x y u v (by rw [XI]; omega) hh t1 t2 w1 w2
 ·exact absurd (by rw [f1,f2]; rfl) hf
theorem xU (hu:X.A.units+7<cLine):yE X (compareOp .Eq) (Z9 X.K false):=by
 intro pins s σ H x y v u Q I rx ry h
 obtain ⟨d1,d2,k,r1,r2,hk,q⟩:=h
 by_cases hf:(yf d1&&yf d2)=true
 ·have hf':=hf
  rw [Bool.and_eq_true] at hf'
  obtain ⟨a,b⟩:=L8 hk hf'.1 hf'.2 r1 r2
  exact EZ pins s σ H x y v u Q I rx ry ⟨a,by rw [b]; exact q⟩
 ·obtain ⟨hc,rfl⟩:=VH hk
  exact (J0 I hu hc hf r1 r2 rx ry).1 _ _ _ _ ⟨.bl _,H,I,rfl,q⟩
theorem ww (hu:X.A.units+7<cLine):yE X (compareOp .NotEq) (Z9 X.K true):=by
 intro pins s σ H x y v u Q I rx ry h
 obtain ⟨d1,d2,k,r1,r2,hk,q⟩:=h
 by_cases hf:(yf d1&&yf d2)=true
 ·have hf':=hf
  rw [Bool.and_eq_true] at hf'
  obtain ⟨a,b⟩:=L8 hk hf'.1 hf'.2 r1 r2
  exact Eh pins s σ H x y v u Q I rx ry ⟨a,by rw [b]; exact q⟩
 ·obtain ⟨hc,rfl⟩:=VH hk
  exact (J0 I hu hc hf r1 r2 rx ry).2 _ _ _ _ ⟨.bl _,H,I,rfl,q⟩
theorem xS:uG K (Z9 K false) zj:=fun H x y u v d Q rx ry hf=>by
 obtain ⟨k,hk,hf⟩:=zG hf
 cases hf
 exact ⟨_,rfl,fun q=>⟨x,y,k,rx,ry,hk,q⟩⟩
theorem wu:uG K (Z9 K true) yL:=fun H x y u v d Q rx ry hf=>by
 obtain ⟨k,hk,hf⟩:=zG hf
 cases hf
 exact ⟨_,rfl,fun q=>⟨x,y,k,rx,ry,hk,q⟩⟩
end
theorem FZ {K:PySem.W.Frag}:PySem.W.kitOne K (.type "NoneType") (.type "str")=some false/\PySem.W.kitOne K (.type "NoneType") (.type "list")=some false/\PySem.W.kitOne K (.type "NoneType") (.type "tuple")=some false/\
  PySem.W.kitOne K (.type "bool") (.type "str")=some false/\PySem.W.kitOne K (.type "bool") (.type "list")=some false/\PySem.W.kitOne K (.type "bool") (.type "tuple")=some false/\
  PySem.W.kitOne K (.type "int") (.type "str")=some false/\PySem.W.kitOne K (.type "int") (.type "list")=some false/\PySem.W.kitOne K (.type "int") (.type "tuple")=some false:=by refine ⟨?_,?_,?_,?_,?_,?_,?_,?_,?_⟩<;>kernel_rfl
theorem Fa {K:PySem.W.Frag}:PySem.W.kitOne K (.type "str") (.type "int")=some false/\PySem.W.kitOne K (.type "str") (.type "bool")=some false/\PySem.W.kitOne K (.type "str") (.type "list")=some false/\PySem.W.kitOne K (.type "str") (.type "tuple")=some false/\
  PySem.W.kitOne K (.type "list") (.type "int")=some false/\PySem.W.kitOne K (.type "list") (.type "bool")=some false/\PySem.W.kitOne K (.type "list") (.type "str")=some false/\PySem.W.kitOne K (.type "list") (.type "tuple")=some false/\PySem.W.kitOne K (.type "list") (.type "list")=some true:=by refine ⟨?_,?_,?_,?_,?_,?_,?_,?_,?_⟩<;>first | kernel_rfl | rfl
theorem Fb {K:PySem.W.Frag}:PySem.W.kitOne K (.type "tuple") (.type "int")=some false/\PySem.W.kitOne K (.type "tuple") (.type "bool")=some false/\PySem.W.kitOne K (.type "tuple") (.type "list")=some false/\PySem.W.kitOne K (.type "tuple") (.type "str")=some false:=by refine ⟨?_,?_,?_,?_⟩<;>kernel_rfl
def Pu:D->String
 | .non => "NoneType"
 | .bl _ => "bool"
 | .int _ => "int"
 | .str _ => "str"
 | .tup _ => "tuple"
 | .lst _ => "list"
 | .dic _ _ => "dict"
theorem jf {K:PySem.W.Frag} {T:qP} {d:D} {b:Bool} (h:XL T d=some b):PySem.W.kitOne K (.type (Pu d)) (.type T.nm)=some b:=by
 obtain ⟨x1,x2,x3,x4,x5,x6,x7,x8,x9⟩:=FZ (K:=K)
 obtain ⟨y1,y2,y3,y4,y5,y6,y7,y8,y9⟩:=Fa (K:=K)
 obtain ⟨z1,z2,z3,z4⟩:=Fb (K:=K)
 cases T<;>cases d<;>cases h
 all_goals first | exact FU | exact FP | exact FQ | exact FN | exact FW | exact FV | exact FY | exact FX | assumption
def HQ (K:PySem.W.Frag) (T:qP):List V->Hp->VK->Prop:=fun xs H Q=>∃ x d b,xs=[x,.ty T.nm]/\zR K H d x/\XL T d=some b/\Q (.bl b) H
theorem Mg {X:Cx} (T:qP):xr X (.builtin "isinstance") (HQ X.K T):=by
 intro pins s σ H xs us Q I r h
 obtain ⟨x,d,b,rfl,rd,e,q⟩:=h
 obtain ⟨u,c,rfl,rx,rc⟩:=TL r
 cases (show c=Value.type T.nm from rc)
 have fin:∀ tk,EP X pins σ Q (.bool b) { s with toks:=tk }:=fun tk=>⟨.bl b,H,I.tok tk,rfl,q⟩
 cases d with
 | non=>cases (show x=_ from rd); exact XM I rx .non (jf (d:=.non) e) fin
 | bl y=>cases (show x=_ from rd); exact XM I rx (.bl _) (jf (d:=.bl y) e) fin
 | int y=>cases (show x=_ from rd); exact XM I rx (.int _) (jf (d:=.int y) e) fin
 | str y=>cases (show x=_/\_ from rd).1; exact XM I rx (.str _) (jf (d:=.str y) e) fin
 | tup ds=>
  obtain ⟨a,vs,rfl,sq,_⟩:=rd
  cases (show u=Value.ref a from rx)
  obtain ⟨its,_,⟨o,h1,h2,_⟩,_⟩:=I.tuple sq
  exact PySem.W.kia_one PySem.W.kitx_tuple I.kIn ⟨o,h1,h2⟩ (jf (d:=.tup ds) e) (fun z=>nomatch z) fin
 | lst ds=>
  obtain ⟨a,vs,rfl,sq,_⟩:=rd
  cases (show u=Value.ref a from rx)
  obtain ⟨its,_,⟨o,n,h1,h2,_⟩,_⟩:=I.list sq
  exact PySem.W.kia_one PySem.W.kitx_list I.kIn ⟨o,h1,h2⟩ (jf (d:=.lst ds) e) (fun z=>nomatch z) fin
 | dic ks ds=>cases T<;>cases e
theorem gA {X:Cx} {a:Expr} {f:FE} {x:Str} {p p1 pos:Pos} (T:qP) (hg:Gl X "isinstance") (hgT:Gl X x) (hm:X.mg "isinstance" = none) (hmT:X.mg x=none) (hv:bootBuiltins x=some (.type T.nm)) (ha:SB X a f) (hs:yl a=true:=by rfl)
  (hn:x ≠ "__name__" := by decide) (hd:(x == ("__debug__" : Str))=false:=by decide):SE X (.Call (.Name "isinstance" p) [a,.Name x p1] [] pos) (qU T f):=by
 obtain ⟨t,pt,k⟩:=ha.h
 refine ⟨⟨_,(Z7 (Mg T) hg hm Mb (Z6 ⟨pt⟩ (Z6 (HF hgT hmT hv hn hd) Xw rfl) hs) (by decide) (by decide) (by rw [List.all_cons,hs]; rfl)).h,fun {G0 H0 G H τ σ d Q} E hf q=>?_⟩⟩
 obtain ⟨z,hz,hf⟩:=zG hf
 obtain ⟨b,hb,hf⟩:=zG hf
 cases hf
 exact k E hz fun v G' H' x r=>⟨v,z,b,rfl,r,hb,q _ _ _ x rfl⟩
end L3
namespace L3
open PySem
theorem TQ {c:FT} {b:FS}:∀ {n:Nat} {σ:zb} {fl:Fl} (k:Nat),wJ c b n σ=some fl->wJ c b (n+k) σ=some fl
 | 0,_,_,_,h=>by cases h
 | n+1,σ,fl,k,h=>by
  rw [Nat.succ_add]
  unfold wJ at h ⊢
  cases hc:c σ with
  | none=>rw [hc] at h; cases h
  | some kk=>
   rw [hc] at h
   cases kk with
   | false=>exact h
   | true=>
    change (b σ).bind _=_ at h
    show (b σ).bind _=_
    cases hb:b σ with
    | none=>rw [hb] at h; cases h
    | some f=>
     rw [hb] at h
     cases f with
     | nx τ=>exact TQ k h
     | ct τ=>exact TQ k h
     | bk τ=>exact h
     | rt o d=>exact h
theorem j3 {c:FT} {b:FS} {σ:zb} {fl:Fl} (n:Nat) (h:wJ c b n σ=some fl) (hn:n<=YG:=by decide):tJ c b σ=some fl:=by
 have e:=TQ (YG - n) h
 rw [Nat.add_sub_of_le hn] at e
 exact e
theorem gM {c:FT} {b:FS} {σ σ':zb} {n:Nat} (hc:c σ=some true) (hb:b σ=some (.nx σ')):wJ c b (n+1) σ=wJ c b n σ':=by
 show (c σ).bind _=_
 rw [hc]
 show (b σ).bind _=_
 rw [hb]
 rfl
theorem jB {c:FT} {b:FS} {σ:zb} {n:Nat} (hc:c σ=some false):wJ c b (n+1) σ=some (.nx σ):=by
 show (c σ).bind _=_
 rw [hc]
 rfl
theorem pW {g:FG} {b:FS} (P:Nat->zb->Prop):∀ {ds:List D} {σ:zb} (n:Nat),P n σ->(∀ i d σ,ds[i]?=some d->P (n+i) σ->∃ σ1 σ2,g d σ=some σ1/\(b σ1=some (.nx σ2)\/b σ1=some (.ct σ2))/\P (n+i+1) σ2)->
  ∃ σ',qg g b ds σ=some (.nx σ')/\P (n+ds.length) σ'
 | [],σ,n,h,_=>⟨σ,rfl,h⟩
 | d::ds,σ,n,h,step=>by
  obtain ⟨σ1,σ2,e1,e2,p2⟩:=step 0 d σ rfl h
  obtain ⟨σ',e3,p3⟩:=pW P (ds:=ds) (σ:=σ2) (n+1) p2 fun i d' τ hd hp=>by
   obtain ⟨a,b',c1,c2,c3⟩:=step (i+1) d' τ (by simpa using hd) (by rw [show n+(i+1)=n+1+i by omega]; exact hp)
   exact ⟨a,b',c1,c2,by rw [show n+1+i+1=n+(i+1)+1 by omega]; exact c3⟩
  refine ⟨σ',?_,by rw [List.length_cons,show n+(ds.length+1)=n+1+ds.length by omega]; exact p3⟩
  show (g d σ).bind _=_
  rw [e1]
  show (b σ1).bind _=_
  rcases e2 with e2 | e2
  ·rw [e2]; exact e3
  ·rw [e2]; exact e3
theorem xb {a b:FS} {σ σ':zb} (h:a σ=some (.nx σ')):zE a b σ=b σ':=by
 show (a σ).bind _=_
 rw [h]
 rfl
abbrev xy (j:Nat):List D:=(List.range j).map fun k:Nat=>D.int k
theorem qk {f:FE} {τ:zb} {n:Int} (h:f τ=some (.int n)) (h1:n.natAbs<=1000000):uX (eC (.int 0)) f τ=some (xy n.toNat):=by
 unfold uX
 rw [h]
 show (if (0:Int).natAbs<=zy/\n.natAbs<=zy/\(n - 0).toNat<=zy then _ else _)=_
 rw [if_pos ⟨by decide,by show _<=16777216; omega,by show _<=16777216; omega⟩,Int.sub_zero]
 simp only [Int.zero_add]
end L3
namespace L3
def shx:=
 And.intro za.eq_1 <| And.intro zE.eq_1 <| And.intro zU.eq_1 <| And.intro wV.eq_1 <| And.intro yH.eq_1 <| And.intro w8.eq_1 <| And.intro qA.eq_1 <| And.intro yB.eq_1 <| And.intro yK.eq_1 <| And.intro vi.eq_1 <|
 And.intro jy.eq_1 <| And.intro wN.eq_1 <| And.intro qo.eq_1 <| And.intro qg.eq_1 <| And.intro qg.eq_2 <| And.intro e1.eq_1 <| And.intro e2.eq_1 <| And.intro eL.eq_1 <| And.intro eC.eq_1 <| And.intro z6.eq_1 <| And.intro wo.eq_1 <|
 And.intro zA.eq_1 <| And.intro zB.eq_1 <| And.intro tE.eq_1 <| And.intro jR.eq_def <| And.intro qz.eq_1 <| And.intro xG.eq_1 <| And.intro tK.eq_1 <| And.intro g_.eq_1 <| And.intro VB.eq_1 <| And.intro BJ.eq_1 <| And.intro pJ.eq_1 <|
 And.intro xK.eq_1 <| And.intro y_.eq_1 <| And.intro qU.eq_1 <| And.intro XL.eq_def <| And.intro fI.eq_def <| And.intro XB.eq_def <| And.intro v8.eq_def <| And.intro X9.eq_1 <| And.intro XA.eq_1 <| And.intro ym.eq_1 <| And.intro wG.eq_1 <|
 And.intro BU.eq_1 <| And.intro pO.eq_1 <| And.intro BW.eq_1 <| And.intro wY.eq_def <| And.intro tY.eq_def <| And.intro yy.eq_def <| And.intro BS.eq_def <| And.intro pM.eq_def <| And.intro VQ.eq_def <| And.intro qX.eq_def <|
 And.intro zn.eq_1 <| And.intro xW.eq_1 <| And.intro x_.eq_1 <| And.intro zQ.eq_1 <| And.intro xP.eq_1 <| And.intro xJ.eq_1 <|
 And.intro @Option.bind_some.{0,0} <| And.intro @Option.bind_none.{0,0} <| And.intro @List.getElem?_cons_zero.{0} <| And.intro @List.getElem?_cons_succ.{0} <| And.intro @List.set_cons_zero.{0} <| And.intro @List.set_cons_succ.{0} <| And.intro @List.map_cons.{0,0} <| And.intro @List.map_nil.{0,0} <|
 And.intro @List.cons_append.{0} <| And.intro @List.nil_append.{0} <| And.intro @List.length_cons.{0} <| And.intro @List.length_nil.{0} <| And.intro @List.replicate_zero.{0} <| And.intro @List.replicate_succ.{0} <| And.intro Bool.not_true <| And.intro Bool.not_false <|
 And.intro @decide_true <| And.intro @decide_false <| And.intro Bool.and_self <| And.intro Bool.and_true Bool.true_and
end L3
namespace L3
open PySem PySem.Spec PyProof.Rows L2
section
variable {α:Type}
theorem M2:∀ {ks:List Key} {vs:List α} (k:Key),ks.length=vs.length->((ks.zip vs).any fun kv=>decide (kv.1=k))=yI ks k
 | [],[],_,_=>rfl
 | k'::ks,v::vs,k,h=>by
  have ih:=M2 (ks:=ks) (vs:=vs) k (by simpa using h)
  show (decide (k'=k)||((ks.zip vs).any fun kv=>decide (kv.1=k)))=(decide (k'=k)||yI ks k)
  rw [ih]
theorem gP:∀ {ks:List Key} {vs:List V} (k:Key),ks.length=vs.length->vm (ks.zip vs) k=getK ks vs k
 | [],[],_,_=>rfl
 | k'::ks,v::vs,k,h=>by
  have ih:=gP (ks:=ks) (vs:=vs) k (by simpa using h)
  by_cases e:k'=k
  ·rw [List.zip_cons_cons,WO (p:=(k',v)) e]
   show _=(if k'=k then some v else _)
   rw [if_pos e]
  ·rw [List.zip_cons_cons,WN (p:=(k',v)) e,ih]
   show _=(if k'=k then some v else _)
   rw [if_neg e]
theorem M5:∀ {ks:List Key} {vs:List V} (k:Key) (v:V),ks.length=vs.length->((ks.zip vs).map fun kv=>if kv.1=k then (kv.1,v) else kv)=ks.zip (List.zipWith (fun k' x=>if k'=k then v else x) ks vs)
 | [],[],_,_,_=>rfl
 | k'::ks,u::vs,k,v,h=>by
  have ih:=M5 (ks:=ks) (vs:=vs) k v (by simpa using h)
  rw [List.zip_cons_cons,List.map_cons,ih,List.zipWith_cons_cons,List.zip_cons_cons]
  by_cases e:k'=k
  ·rw [if_pos e,if_pos e]
  ·rw [if_neg e,if_neg e]
theorem M6 {ks:List Key} {vs:List V} {k:Key} {v:V} (h:ks.length=vs.length):wx (ks.zip vs) k v=(xY ks k).zip (xj ks vs k v):=by
 unfold wx xY xj
 rw [M2 k h]
 by_cases c:yI ks k=true
 ·rw [if_pos c,if_pos c,if_pos c,M5 k v h]
 ·rw [if_neg c,if_neg c,if_neg c,List.zip_append h]
  rfl
theorem pq {ks:List Key} {vs:List α} {k:Key} {v:α} (h:ks.length=vs.length):(xY ks k).length=(xj ks vs k v).length:=by
 unfold xY xj
 split
 ·rw [List.length_zipWith,h,Nat.min_self]
 ·rw [List.length_append,List.length_append,h]
  rfl
theorem OR {ks:List Key} {vs:List α} {k:Key} {v:α} (h:ks.length=vs.length):(xj ks vs k v).length<=vs.length+1:=by
 unfold xj
 split
 ·rw [List.length_zipWith,h,Nat.min_self]
  exact Nat.le_succ _
 ·rw [List.length_append]
  exact Nat.le_refl _
end
section
variable {K:PySem.W.Frag} {G H:Hp}
theorem Reps.getK:∀ {ks:List Key} {ds:List D} {vs:List V} {k:Key} {d:D},Reps K H ds vs->getK ks ds k=some d->∃ v,getK ks vs k=some v/\zR K H d v
 | [],_,_,_,_,_,e=>by cases e
 | _::_,[],_,_,_,_,e=>by cases e
 | k'::ks,d'::ds,_,k,d,r,e=>by
  obtain ⟨v,r',rfl,hv,hr⟩:=r
  change (if k'=k then some d' else L3.getK ks ds k)=some d at e
  by_cases c:k'=k
  ·rw [if_pos c] at e
   cases e
   exact ⟨v,by show (if k'=k then some v else _)=_; rw [if_pos c],hv⟩
  ·rw [if_neg c] at e
   obtain ⟨u,hu,ru⟩:=Reps.getK hr e
   exact ⟨u,by show (if k'=k then some v else _)=_; rw [if_neg c]; exact hu,ru⟩
theorem VW {α:Type}:∀ {ks:List Key} {vs:List α} (k:Key),ks.length=vs.length->(getK ks vs k).isSome=yI ks k
 | [],[],_,_=>rfl
 | k'::ks,v::vs,k,h=>by
  have ih:=VW (ks:=ks) (vs:=vs) k (by simpa using h)
  show (if k'=k then some v else getK ks vs k).isSome=(decide (k'=k)||_)
  by_cases c:k'=k
  ·rw [if_pos c,decide_eq_true c]; rfl
  ·rw [if_neg c,decide_eq_false c,ih]; rfl
theorem Reps.zipW {k:Key} {d:D} {v:V} (hv:zR K H d v):∀ {ks:List Key} {ds:List D} {vs:List V},Reps K H ds vs->Reps K H (List.zipWith (fun k' x=>if k'=k then d else x) ks ds) (List.zipWith (fun k' x=>if k'=k then v else x) ks vs)
 | [],_,_,_=>rfl
 | _::_,[],_,r=>by cases (show _=[] from r); rfl
 | k'::ks,d'::ds,_,r=>by
  obtain ⟨u,r',rfl,hu,hr⟩:=r
  refine ⟨_,_,rfl,?_,Reps.zipW hv hr⟩
  show zR K H (if k'=k then d else d') (if k'=k then v else u)
  by_cases c:k'=k
  ·rw [if_pos c,if_pos c]; exact hv
  ·rw [if_neg c,if_neg c]; exact hu
theorem Reps.put {ks:List Key} {ds:List D} {vs:List V} {k:Key} {d:D} {v:V} (r:Reps K H ds vs) (hv:zR K H d v):Reps K H (xj ks ds k d) (xj ks vs k v):=by
 unfold xj
 split
 ·exact Reps.zipW hv r
 ·exact r.append (Reps.one hv)
theorem pS {x:D} {k:Key} {u:V} (h:uK x=some k) (r:zR K H x u):u=kV k:=by
 cases x<;>first | (cases h; done) | skip
 ·cases h; exact r
 ·cases h; exact (show u=_/\_ from r).1
end
section
variable {X:Cx} {K:PySem.W.Frag}
def Oa:R2:=fun x y H Q=>∃ a kvs k v,x=.ref a/\y=kV k/\Rd H a (.dK kvs)/\vm kvs k=some v/\Q v H
theorem Ds:vo X Oa:=by
 intro value slice pins s σ H x y v u Q I rx ry h hs
 obtain ⟨a,kvs,k,z,rfl,rfl,e,l,q⟩:=h
 cases rx
 obtain ⟨_,_,vs,rel,dd⟩:=jU I.hok e
 obtain ⟨w',hw,rw'⟩:=uU.some_of (v:=z) (o:=valueAt vs k) (by rw [<- l]; exact rel.val k)
 exact subscriptTail_builtinR (x:=w') (BC I (.inl ⟨kvs,k,e,rfl,rfl⟩)) PySem.F.slot_dict_getitem.lookup
  (wpAny_getItem_of (Q:=fun r s'=>r=w'/\EP X pins σ Q r s') (tj ry) dd.mapOf hw ⟨rfl,z,H,I.tok _,rw',q⟩) hs
def OZ (K:PySem.W.Frag):R2:=fun x y H Q=>UV K x y H Q\/Oa x y H Q
theorem zd (_:X.A.units+1<cLine):vo X (OZ X.K):=Dt.or Ds
theorem ze:v4 K (OZ K) zI:=fun G H x y u v d Q s rx ry hf q=>by
 cases x with
 | dic ks ds=>
  obtain ⟨a,vs,rfl,sq,l,rs,_⟩:=rx
  obtain ⟨k,hk,hf⟩:=zG hf
  obtain ⟨z,hz,rz⟩:=rs.getK hf
  exact .inr ⟨a,_,k,z,rfl,pS hk ry,Rd.mono s sq,by rw [gP k l]; exact hz,q _ _ _ (zN.refl s) rz⟩
 | non=>cases hf
 | bl b=>cases hf
 | int b=>cases hf
 | str z=>exact .inl (U9 G H (.str z) y u v d Q s rx ry (by cases y<;>exact hf) q)
 | tup z=>exact .inl (U9 G H (.tup z) y u v d Q s rx ry (by cases y<;>exact hf) q)
 | lst z=>exact .inl (U9 G H (.lst z) y u v d Q s rx ry (by cases y<;>exact hf) q)
theorem N9 {i:Nat} {x:Str} {p pos:Pos} {b:Expr} {fb:FE} (hu:X.A.units+1<cLine) (ho:QE X (.Name x p) (we i)) (hb:SE X b fb) (hs:pp b=true:=by rfl):SE X (.Subscript (.Name x p) b pos) (e2 zI (wo i) fb):=by
 obtain ⟨tb,pb,kb⟩:=hb.h
 refine ⟨⟨_,Xo (zd hu) ho.h pb (Xr hs),fun {G0 H0 G H τ σ d Q} E hf q=>?_⟩⟩
 obtain ⟨x,hx,hf⟩:=zG hf
 obtain ⟨y,hy,hf⟩:=zG hf
 obtain ⟨o,ho⟩:=Qr hx
 cases o with
 | false=>
  obtain ⟨v,ev,rv⟩:=E.fr _ _ ho
  exact ⟨v,ev,kb E hy fun u G2 H2 x2 r2=>ze G2 H2 x y v u _ _ x2.gh (rv.mono x2.g) r2 hf fun w G' H' x3 r3=>q w G' H' (x2.trans x3) r3⟩
 | true=>
  obtain ⟨p,ev,_,_,o⟩:=E.ow _ _ ho
  refine ⟨_,ev,kb E hy fun u G2 H2 x2 r2=>?_⟩
  cases x with
  | lst ds=>
   obtain ⟨vs,e1,rs,_⟩:=o
   cases y<;>first | (cases hf; done) | skip
   rename_i i
   obtain ⟨w,hw,rw_⟩:=UX rs hf
   cases r2
   exact .inl (.inl ⟨p,vs,i,w,rfl,rfl,zw.of (x2.h _ _ e1),hw,q _ _ _ x2 (rw_.mono x2.g)⟩)
  | dic ks ds=>
   obtain ⟨vs,e1,l,rs,_⟩:=o
   obtain ⟨k,hk,hf⟩:=zG hf
   obtain ⟨z,hz,rz⟩:=rs.getK hf
   exact .inr ⟨p,_,k,z,rfl,pS hk r2,.inl (x2.h _ _ e1),by rw [gP k l]; exact hz,q _ _ _ x2 (rz.mono x2.g)⟩
  | _=>exact o.elim
def UT (neg:Bool):R2:=fun x y H Q=>∃ a kvs k,y=.ref a/\x=kV k/\Rd H a (.dK kvs)/\Q (.bl (if neg then !(vm kvs k).isSome else (vm kvs k).isSome)) H
theorem Ea (hu:X.A.units+1<cLine):yE X (compareOp .In) (UT false):=by
 intro pins s σ H x y v u Q I rx ry h
 obtain ⟨a,kvs,k,rfl,rfl,e,q⟩:=h
 cases ry
 exact B7 hu I (.inl ⟨kvs,k,e,rfl,rfl⟩) rx fun s' I'=>⟨.bl _,H,I',rfl,q⟩
theorem Ek (hu:X.A.units+1<cLine):yE X (compareOp .NotIn) (UT true):=by
 intro pins s σ H x y v u Q I rx ry h
 obtain ⟨a,kvs,k,rfl,rfl,e,q⟩:=h
 cases ry
 exact B8 hu I (.inl ⟨kvs,k,e,rfl,rfl⟩) rx fun s' I'=>⟨.bl _,H,I',rfl,q⟩
def t_ (K:PySem.W.Frag) (neg:Bool):R2:=fun x y H Q=>US K neg x y H Q\/(∃ i j,x=.str i/\y=.str j/\Q (.bl (if neg then !(!(Builtin.Str.occurrences j i 0 j.length 1).isEmpty) else !(Builtin.Str.occurrences j i 0 j.length 1).isEmpty)) H)\/UT neg x y H Q
theorem wv (hu:X.A.units+1<cLine):yE X (compareOp .In) (t_ X.K false):=Ed.or (Ee.or (Ea hu))
theorem UE (hu:X.A.units+1<cLine):yE X (compareOp .NotIn) (t_ X.K true):=El.or (Em.or (Ek hu))
theorem W1 {H:Hp} {x:D} {u:V} (hx:yf x=true) (rx:zR K H x u):∀ {ys:List D} {vs:List V},Reps K H ys vs->ys.all yf=true->vs.all vv=true/\XJ u vs=ys.any fun y=>zc y x
 | [],_,r,_=>by cases (show _=[] from r); exact ⟨rfl,rfl⟩
 | y::ys,_,r,h=>by
  obtain ⟨v,r',rfl,hv,hr⟩:=r
  rw [List.all_cons,Bool.and_eq_true] at h
  obtain ⟨a,b⟩:=W1 hx rx hr h.2
  refine ⟨by rw [List.all_cons,p_ h.1 hv,a]; rfl,?_⟩
  show (vO v u||XJ u r')=(zc y x||_)
  rw [ZB h.1 hx hv rx,b]
theorem JM {neg:Bool} {H:Hp} {x y:D} {u v:V} {k:Bool} {Q:VK} (rx:zR K H x u) (ry:zR K H y v) (hf:VJ x y=some k) (q:Q (.bl (if neg then !k else k)) H):t_ K neg u v H Q:=by
 cases y with
 | lst ys=>
  obtain ⟨a,vs,rfl,sq,rs,_⟩:=ry
  change (match yf x&&ys.all yf with | true=>some (ys.any fun y=>zc y x) | false=>none)=some k at hf
  cases c:(yf x&&ys.all yf) with
  | false=>rw [c] at hf; cases hf
  | true=>
   rw [c] at hf
   cases hf
   rw [Bool.and_eq_true] at c
   obtain ⟨c1,c2⟩:=W1 c.1 rx rs c.2
   exact .inl ⟨a,vs,rfl,.inl sq,p_ c.1 rx,c1,by rw [c2]; exact q⟩
 | tup ys=>
  obtain ⟨a,vs,rfl,sq,rs,_⟩:=ry
  change (match yf x&&ys.all yf with | true=>some (ys.any fun y=>zc y x) | false=>none)=some k at hf
  cases c:(yf x&&ys.all yf) with
  | false=>rw [c] at hf; cases hf
  | true=>
   rw [c] at hf
   cases hf
   rw [Bool.and_eq_true] at c
   obtain ⟨c1,c2⟩:=W1 c.1 rx rs c.2
   exact .inl ⟨a,vs,rfl,.inr sq,p_ c.1 rx,c1,by rw [c2]; exact q⟩
 | str j=>
  cases x<;>first | (cases hf; done) | skip
  rename_i i
  cases hf
  exact .inr (.inl ⟨i,j,(show u=_/\_ from rx).1,(show v=_/\_ from ry).1,q⟩)
 | dic ks ds=>
  obtain ⟨kk,hk,hf⟩:=zG hf
  cases hf
  obtain ⟨a,vs,rfl,sq,l,rs,_⟩:=ry
  refine .inr (.inr ⟨a,_,kk,rfl,pS hk rx,sq,?_⟩)
  rw [gP kk l,VW kk l]
  exact q
 | _=>cases hf
theorem wt:uG K (t_ K false) yJ:=fun H x y u v d Q rx ry hf=>by
 obtain ⟨k,hk,hf⟩:=zG hf
 cases hf
 exact ⟨_,rfl,fun q=>JM rx ry hk q⟩
theorem UA:uG K (t_ K true) qW:=fun H x y u v d Q rx ry hf=>by
 obtain ⟨k,hk,hf⟩:=zG hf
 cases hf
 exact ⟨_,rfl,fun q=>JM rx ry hk q⟩
theorem Us {pos:Pos}:SF X (.Dict [] [] pos) (eC (.dic [] [])):=⟨⟨_,GD,fun {G0 H0 G H τ σ d Q} E hf q p hp=>by
 cases hf
 exact q p G _ (zN.layO E.ext.gh hp) hp (E.ext.gh.free hp) ⟨[],yj,rfl,rfl,Nat.zero_le _⟩⟩⟩
theorem Ux {i:Nat} {x:Str} {xp pos pos':Pos} {k v:Expr} {fk fv:FE} (hu:X.A.units+1<cLine) (ho:QE X (.Name x xp) (we i)) (hk:SE X k fk) (hv:SE X v fv) (hs:swapsWith v (some (.Subscript (.Name x xp) k pos')) pos.line X.env=pure false:=by rfl) :
  SS X (.Assign [.Subscript (.Name x xp) k pos'] v pos) (j2 i fk fv):=by
 obtain ⟨tk,pk,kk⟩:=hk.h
 obtain ⟨tv,pv,kv⟩:=hv.h
 refine ⟨⟨_,Gq hu ho.h pk pv hs,fun {G0 H0 G H τ σ fl E} K hf q=>?_⟩⟩
 obtain ⟨y,hy,hf⟩:=zG hf
 refine kv K hy fun w G1 H1 x1 r1=>?_
 split at hf
 ·rename_i ks ds hd
  obtain ⟨xk,hx,hf⟩:=zG hf
  obtain ⟨key,hkey,hf⟩:=zG hf
  by_cases c:ks.length<zy
  ·rw [if_pos c] at hf
   cases hf
   have K1:=K.go x1
   obtain ⟨a,ea,g,z,vs,ev,l,rs,hl⟩:=K1.ow _ _ hd
   refine ⟨_,ea,kk K1 hx fun u G2 H2 x2 r2=>⟨a,_,rfl,.inl ⟨_,key,x2.h _ _ ev,pS hkey r2,?_,rfl⟩,?_⟩⟩
   ·rw [List.length_zip,l,Nat.min_self,sizeLine_eq,<- l]; exact c
   ·refine q _ _ _ ((K1.go x2).mut hd ea ⟨xj ks vs key w,?_,pq l,(rs.mono x2.g).put (r1.mono x2.g),?_⟩)
    ·rw [yj,M6 l]
    ·have h1:=OR (ks:=ks) (vs:=ds) (k:=key) (v:=y) (by rw [l,rs.length])
     have h2:ds.length<16777216:=by rw [<- rs.length,<- l]; exact c
     rw [sizeLine_eq]
     omega
  ·rw [if_neg c] at hf
   cases hf
 ·cases hf
def uT (K:PySem.W.Frag) (w:World) (a:Addr) (ks:List Key) (ds:List D):Prop:=
 ∃ us:List V,ks.length=us.length/\(a == sysModules)=false/\(∀ H,Reps K H ds us)/\∀ (P:Program) (h:Heap),K.In h->∃ vs,KV (ks.zip us) vs/\h.DictOf (yc P w) a vs
inductive tN (w:World):List DictEntry->List Str->List Value->Prop
 | nil:tN w [] [] []
 | cons {x:Str} {t:Tok} {v:Value} {es:List DictEntry} {xs:List Str} {vs:List Value} (r:tN w es xs vs):tN w (⟨PyData.keyHash w.params x,.str x t,v⟩::es) (x::xs) (v::vs)
theorem tN.pairs {w:World} {P:Program}:∀ {es:List DictEntry} {xs:List Str} {vs:List Value},tN w es xs vs->Pairs (yc P w) es ((xs.map Sum.inr).zip vs)/\(∀ e∈es,∃ k,(yc P w).is k e.key=true/\e.hash=(yc P w).hash k)
 | _,_,_,.nil=>⟨.nil,fun e h=>absurd h (by simp)⟩
 | _,_,_,.cons (x:=x) (t:=t) r=>by
  obtain ⟨a,b⟩:=tN.pairs (P:=P) r
  refine ⟨.cons (U0 P w x t) rfl a,fun e h=>?_⟩
  rcases List.mem_cons.mp h with rfl | h
  ·exact ⟨.inr x,U0 P w x t,rfl⟩
  ·exact b e h
theorem tN.len {w:World}:∀ {es:List DictEntry} {xs:List Str} {vs:List Value},tN w es xs vs->xs.length=vs.length
 | _,_,_,.nil=>rfl
 | _,_,_,.cons r=>by rw [List.length_cons,List.length_cons,r.len]
theorem Jq:∀ {ks:List Key} {us:List V} {vs:List Value},zY us vs->ks.length=us.length->KV (ks.zip us) (ks.zip vs)
 | [],_,_,.nil,_=>.nil
 | k::ks,_,_,.cons r t,h=>.cons ⟨rfl,r⟩ (Jq t (by simpa using h))
theorem M4:∀ {ks:List Key} {vs:List Value},ks.length=vs.length->(ks.zip vs).map (·.1)=ks
 | [],[],_=>rfl
 | k::ks,v::vs,h=>by rw [List.zip_cons_cons,List.map_cons,M4 (by simpa using h)]
theorem VV {w:World} {a:Addr} {es:List DictEntry} {n:Nat} {xs:List Str} {vs:List Value} {us:List V} {ds:List D} (l:K.lookup a=some { cls:=.type "dict",data:=.dict es.toArray n }) (e:tN w es xs vs) (nd:xs.Nodup) (hs:(a == sysModules)=false) (r:zY us vs) (rd:∀ H,Reps K H ds us) :
  uT K w a (xs.map .inr) ds:=by
 have hl:(xs.map Sum.inr:List Key).length=us.length:=by rw [List.length_map,e.len,r.length]
 refine ⟨us,hl,hs,rd,fun P h KI=>⟨_,Jq r hl,?_⟩⟩
 obtain ⟨p,q⟩:=e.pairs (P:=P)
 refine ⟨_,_,_,KI _ _ l,⟨rfl,rfl,rfl⟩,rfl,fun e he=>q e (by simpa using he),p,?_⟩
 rw [M4 (by rw [List.length_map]; exact e.len)]
 exact List.Pairwise.map _ (fun a b h z=>h (Sum.inr.inj z)) nd
theorem Bb {A:Addr} {ks:List Key} {ds:List D} (g:uT X.K X.w A ks ds):vo X (fun x y H Q=>x=.ref A/\∃ k,y=kV k/\∃ d,getK ks ds k=some d/\∀ v,(∀ H,∃ H',zl H H'/\True)->(∀ H,zR X.K H d v)->Q v H):=by
 intro value slice pins s σ H x y v u Q I rx ry h hs
 obtain ⟨rfl,k,rfl,d,hd,q⟩:=h
 cases rx
 obtain ⟨us,hl,hsys,rd,mk⟩:=g
 obtain ⟨vs,rel,dd⟩:=mk X.prog s.heap I.kIn
 obtain ⟨z,hz,_⟩:=(rd H).getK hd
 have rz:∀ H,zR X.K H d z:=fun H'=>by
  obtain ⟨z',hz',r'⟩:=(rd H').getK hd
  rw [hz] at hz'
  cases hz'
  exact r'
 obtain ⟨w',hw,rw'⟩:=uU.some_of (v:=z) (o:=valueAt vs k) (by rw [<- hz,<- gP k hl]; exact rel.val k)
 exact subscriptTail_builtinR (x:=w') dd.typeIs PySem.F.slot_dict_getitem.lookup
  (wpAny_getItem_of (Q:=fun r s'=>r=w'/\EP X pins σ Q r s') (tj ry) dd.mapOf hw ⟨rfl,z,H,I.tok _,rw',q z (fun H=>⟨H,zl.refl H,trivial⟩) rz⟩) hs
theorem Up {A:Addr} {ks:List Key} {ds:List D} {x:Str} {p pos:Pos} {b:Expr} {fb:FE} (h:yU X.mg x (.ref A)) (g:uT X.K X.w A ks ds) (hg:Gl X x) (hb:SE X b fb) (hs:pp b=true:=by rfl) (hd:(x == ("__debug__" : Str))=false:=by decide) :
  SE X (.Subscript (.Name x p) b pos) (e1 (qV ks ds) fb):=by
 obtain ⟨tb,pb,kb⟩:=hb.h
 refine ⟨⟨_,Xo (Bb g) (jt h hg hd) pb (Xr hs),fun {G0 H0 G H τ σ d Q} E hf q=>?_⟩⟩
 obtain ⟨y,hy,hf⟩:=zG hf
 obtain ⟨k,hk,hf⟩:=zG hf
 exact kb E hy fun u G2 H2 x2 r2=>⟨rfl,k,pS hk r2,d,hf,fun v _ rv=>q v _ _ x2 (rv _)⟩
theorem Bc {A:Addr} {ks:List Key} {ds:List D} (g:uT X.K X.w A ks ds):yE X (compareOp .NotIn) (fun x y H Q=>y=.ref A/\∃ k,x=kV k/\Q (.bl (!yI ks k)) H):=by
 intro pins s σ H x y v u Q I rx ry h
 obtain ⟨rfl,k,rfl,q⟩:=h
 cases ry
 obtain ⟨us,hl,hsys,rd,mk⟩:=g
 obtain ⟨vs,rel,dd⟩:=mk X.prog s.heap I.kIn
 refine wpAny_notIn_of (tj rx) hsys dd.mapOf ?_
 rw [<- (rel.val k).isSome_eq,gP k hl,VW k hl]
 exact ⟨.bl _,H,I.tok _,rfl,q⟩
end
end L3
namespace L3
open PySem PySem.Spec PyProof.Rows L2
def WA:D->Option (List D)
 | .lst xs=>some xs
 | .tup xs=>some xs
 | _=>none
def Vf (a b:FE):FA:=fun σ=>(a σ).bind fun x=>(b σ).bind fun y=>(WA x).bind fun xs=>(WA y).bind fun ys=>some (List.zipWith (fun x y=>D.tup [x,y]) xs ys)
section
variable {K:PySem.W.Frag} {G H:Hp}
theorem L9 {x:D} {xs:List D} {u:V} (h:WA x=some xs) (r:zR K G x u):∃ t a vs,u=.ref a/\v7 K t G a vs/\Reps K G xs vs/\xs.length<=sizeLine:=by
 cases x<;>first | (cases h; done) | skip
 ·cases h
  obtain ⟨a,vs,rfl,sq,rs,l⟩:=r
  exact ⟨true,a,vs,rfl,sq,rs,l⟩
 ·cases h
  obtain ⟨a,vs,rfl,sq,rs,l⟩:=r
  exact ⟨false,a,vs,rfl,sq,rs,l⟩
theorem qw {H':Hp} {t:Bool} {a:Addr} {vs:List V} (s:zl H H') (h:v7 K t H a vs):v7 K t H' a vs:=by
 cases t
 ·exact wB s h
 ·exact vF s h
theorem RN {t1 t2:Bool} {a b:Addr} {vs us:List V} {xs ys:List D} (s1:v7 K t1 G a vs) (s2:v7 K t2 G b us) (r1:Reps K G xs vs) (r2:Reps K G ys us):tU K (Wg K t1 t2 a b) G (List.zipWith (fun x y=>D.tup [x,y]) xs ys) where
 go:=fun i G2 H g1 g2 hi=>by
  rw [List.length_zipWith] at hi
  obtain ⟨v,e1,_⟩:=r1.get (List.getElem?_eq_getElem (show i<xs.length by omega))
  obtain ⟨u,e2,_⟩:=r2.get (List.getElem?_eq_getElem (show i<ys.length by omega))
  exact ⟨vs,us,v,u,qw (g1.trans g2) s1,qw (g1.trans g2) s2,e1,e2⟩
 yld:=fun i G2 H x H' g1 g2 hi y=>by
  obtain ⟨p,hp,rfl,k⟩:=y
  obtain ⟨v,u,e1,e2,rfl⟩:=k vs us (qw (g1.trans g2) s1) (qw (g1.trans g2) s2)
  obtain ⟨d1,f1,q1⟩:=r1.at e1
  obtain ⟨d2,f2,q2⟩:=r2.at e2
  refine ⟨zX G2 p (.tup [v,u]),.tup [d1,d2],zN.lay g2 hp,by rw [List.getElem?_zipWith,f1,f2],?_⟩
  have sm:zl G (zX G2 p (.tup [v,u])):=g1.trans (wA (g2.free hp) _)
  exact ⟨p,[v,u],rfl,ye.of yj,⟨v,_,rfl,q1.mono sm,⟨u,_,rfl,q2.mono sm,rfl⟩⟩,small (n:=2) (by decide)⟩
 stop:=fun i G2 H g1 g2 hi=>by
  rw [List.length_zipWith] at hi
  refine ⟨vs,us,qw (g1.trans g2) s1,qw (g1.trans g2) s2,?_⟩
  rw [r1.length,r2.length]
  omega
end
section
variable {X:Cx} {a b e o:Expr} {fa fb f:FE} {p pos apos cpos:Pos}
theorem NY {elts:List Expr} {kk:Nat} {tp:Pos} (hg:Gl X "zip") (hm:X.mg "zip" = none) (ha:SE X a fa) (hb:SE X b fb) (hs:yl a=true:=by rfl) (hs2:yl b=true:=by rfl):SI X (.Tuple elts kk tp) (.Call (.Name "zip" p) [a,b] [] pos) (Vf fa fb):=by
 obtain ⟨t,pt,k⟩:=(zC ha (zC hb zH hs2) hs).h
 refine ⟨⟨_,(HI hg hm ⟨pt⟩ hs hs2).h,fun {G0 H0 G H τ σ ds R} K hf q=>?_⟩⟩
 obtain ⟨x,hx,hf⟩:=zG hf
 obtain ⟨y,hy,hf⟩:=zG hf
 obtain ⟨xs,hxs,hf⟩:=zG hf
 obtain ⟨ys,hys,hf⟩:=zG hf
 cases hf
 refine k K (ds:=[x,y]) (by unfold zA; rw [hx,hy]; rfl) fun vs G1 H1 x1 r1=>?_
 obtain ⟨v,r,rfl,hv,⟨v2,r2,rfl,hv2,hr⟩⟩:=r1
 cases (show r2=[] from hr)
 obtain ⟨t1,a1,vs1,rfl,s1,q1,l1⟩:=L9 hxs hv
 obtain ⟨t2,a2,vs2,rfl,s2,q2,l2⟩:=L9 hys hv2
 refine ⟨a1,a2,vs1,vs2,t1,t2,rfl,qw x1.gh s1,qw x1.gh s2,q _ _ _ x1 ?_ (RN s1 s2 q1 q2)⟩
 rw [List.length_zipWith]
 omega
abbrev FO:=zb->Option (Option Int)
def v_:FO:=fun _=>some none
def u7 (f:FE):FO:=fun σ=>(f σ).bind fun d=>match d with
 | .int i=>some (some i)
 | _=>none
def tW {α:Type} (xs:List α) (lo hi:Option Int):List α:=(xs.drop (HT.sIx xs.length 0 lo)).take (HT.sIx xs.length xs.length hi - HT.sIx xs.length 0 lo)
def kE (d:D) (lo hi:Option Int):Option D:=match d with
 | .lst xs=>some (.lst (tW xs lo hi))
 | .tup xs=>if HT.sIx xs.length 0 lo=0/\HT.sIx xs.length xs.length hi=xs.length then none else some (.tup (tW xs lo hi))
 | .str z=>some (.str (cutS z lo hi))
 | _=>none
def vq (a:FE) (lo hi:FO):FE:=fun σ=>(a σ).bind fun d=>(lo σ).bind fun l=>(hi σ).bind fun h=>kE d l h
structure SO (X:Cx) (e:Option Expr) (f:FO):Prop where
 h:∃ t,PO X e t/\∀ {G0 H0 G H:Hp} {τ:zb} {σ:St} {d:Option Int} {Q:Option Int->Hp->Prop},zZ X.K X.N.length G0 H0 G H τ σ->f τ=some d->(∀ G' H',zN G H G' H'->Q d H')->t σ H Q
theorem gD:SO X none v_:=⟨⟨_,Gi,fun E hf q=>by cases hf; exact q _ _ (zN.refl E.ext.gh)⟩⟩
theorem gE (h:SE X e f):SO X (some e) (u7 f):=by
 obtain ⟨t,pt,k⟩:=h.h
 refine ⟨⟨_,Gj pt,fun {G0 H0 G H τ σ d Q} E hf q=>?_⟩⟩
 obtain ⟨x,hx,hf⟩:=zG hf
 cases x<;>first | (cases hf; done) | skip
 cases hf
 exact k E hx fun v G' H' x r=>⟨_,r,q _ _ x⟩
theorem Reps.cut {K:PySem.W.Frag} {G:Hp} {ds:List D} {vs:List V} (r:Reps K G ds vs) (lo hi:Option Int):Reps K G (tW ds lo hi) (qT vs lo hi):=by
 unfold tW qT
 rw [r.length]
 exact (r.drop _).take _
theorem Qi {α:Type} (xs:List α) (lo hi:Option Int):(tW xs lo hi).length<=xs.length:=by
 unfold tW
 rw [List.length_take,List.length_drop]
 omega
def Hd (K:PySem.W.Frag):V->Option Int->Option Int->Hp->VK->Prop:=fun x lo hi H Q=>Of K x lo hi H Q\/Oh K x lo hi H Q\/Og x lo hi H Q
theorem NZ:tT X (Hd X.K):=Na.or (Nc.or Nb)
theorem gB {lo hi:Option Expr} {fl fh:FO} {p2:Pos} (ha:SE X a fa) (hl:SO X lo fl) (hh:SO X hi fh):SE X (.Subscript a (.Slice lo hi none p2) pos) (vq fa fl fh):=by
 obtain ⟨ta,pa,ka⟩:=ha.h
 obtain ⟨tl,pl,kl⟩:=hl.h
 obtain ⟨th,ph,kh⟩:=hh.h
 refine ⟨⟨_,GK NZ pa pl ph,fun {G0 H0 G H τ σ d Q} E hf q=>?_⟩⟩
 obtain ⟨x,hx,hf⟩:=zG hf
 obtain ⟨l,hl,hf⟩:=zG hf
 obtain ⟨h,hh,hf⟩:=zG hf
 refine ka E hx fun v G1 H1 x1 r1=>kl (E.go x1) hl fun G2 H2 x2=>kh ((E.go x1).go x2) hh fun G3 H3 x3=>?_
 have xx:=x1.trans (x2.trans x3)
 have r3:=r1.mono (x2.g.trans x3.g)
 cases x with
 | lst xs=>
  cases hf
  obtain ⟨a,vs,rfl,sq,rs,ll⟩:=r3
  refine .inl ⟨a,vs,rfl,wB x3.gh sq,fun p hp=>q _ _ _ (xx.trans (zN.lay x3.gh hp)) ⟨p,_,rfl,zw.of yj,(rs.cut l h).mono (wA (x3.gh.free hp) _),Nat.le_trans (Qi ..) ll⟩⟩
 | tup xs=>
  change (if HT.sIx xs.length 0 l=0/\HT.sIx xs.length xs.length h=xs.length then none else some (D.tup (tW xs l h)))=some d at hf
  by_cases c:HT.sIx xs.length 0 l=0/\HT.sIx xs.length xs.length h=xs.length
  ·rw [if_pos c] at hf
   cases hf
  ·rw [if_neg c] at hf
   cases hf
   obtain ⟨a,vs,rfl,sq,rs,ll⟩:=r3
   refine .inr (.inl ⟨a,vs,rfl,vF x3.gh sq,by rw [rs.length]; exact c,fun p hp=>?_⟩)
   exact q _ _ _ (xx.trans (zN.lay x3.gh hp)) ⟨p,_,rfl,ye.of yj,(rs.cut l h).mono (wA (x3.gh.free hp) _),Nat.le_trans (Qi ..) ll⟩
 | str z=>
  cases hf
  obtain ⟨rfl,ll⟩:=r3
  exact .inr (.inr ⟨z,rfl,ll,q _ _ _ xx ⟨rfl,Nat.le_trans (cut_len ..) ll⟩⟩)
 | _=>cases hf
def vf:List D->Option D
 | [.lst xs]=>some (.lst xs)
 | [.tup xs]=>some (.lst xs)
 | _=>none
theorem uc {K:PySem.W.Frag} {G:Hp} {d:D} {vs:List V} (r:Reps K G [d] vs):∃ v,vs=[v]/\zR K G d v:=by
 obtain ⟨v,r',rfl,hv,hr⟩:=r
 cases (show r'=[] from hr)
 exact ⟨v,rfl,hv⟩
theorem Uu {fs:FA} (hg:Gl X "list") (hm:X.mg "list" = none) (ha:SA X [e] fs) (hs:yl e=true:=by rfl):SF X (.Call (.Name "list" p) [e] [] pos) (eL vf fs):=by
 obtain ⟨t,pt,k⟩:=ha.h
 refine ⟨⟨_,(jw Ml hg hm V2 ⟨pt⟩ (by decide) (by decide) (by rw [List.all_cons,hs]; rfl)).h,fun {G0 H0 G H τ σ d Q} E hf q=>?_⟩⟩
 obtain ⟨ds,hd,hf⟩:=zG hf
 refine k E hd fun vs G1 H1 x1 r1=>?_
 match ds,hf with
 | [.lst xs],hf=>
  cases hf
  obtain ⟨v,rfl,a,us,rfl,sq,rs,l⟩:=uc r1
  exact ⟨a,us,rfl,.inl (wB x1.gh sq),fun p hp=>q p _ _ (x1.trans (zN.layO x1.gh hp)) (x1.h.free hp) (x1.gh.free hp) ⟨us,yj,rs,l⟩⟩
 | [.tup xs],hf=>
  cases hf
  obtain ⟨v,rfl,a,us,rfl,sq,rs,l⟩:=uc r1
  exact ⟨a,us,rfl,.inr (vF x1.gh sq),fun p hp=>q p _ _ (x1.trans (zN.layO x1.gh hp)) (x1.h.free hp) (x1.gh.free hp) ⟨us,yj,rs,l⟩⟩
def kS (x:D):List D->Nat->Option Nat
 | [],_=>none
 | y::ys,n=>match zc y x with
  | true=>some n
  | false=>kS x ys (n+1)
def BR:D->D->Option D
 | .lst ys,x=>match yf x&&ys.all yf with
  | true=>(kS x ys 0).bind fun n=>some (.int n)
  | false=>none
 | _,_=>none
theorem Ja {x:D}:∀ {ys:List D} {n m:Nat},kS x ys n=some m->∃ j y,m=n+j/\ys[j]?=some y/\zc y x=true/\∀ i z,i<j->ys[i]?=some z->zc z x=false
 | [],_,_,h=>by cases h
 | y::ys,n,m,h=>by
  change (match zc y x with | true=>some n | false=>kS x ys (n+1))=some m at h
  cases c:zc y x with
  | true=>
   rw [c] at h
   cases h
   exact ⟨0,y,rfl,rfl,c,fun i z hi=>absurd hi (Nat.not_lt_zero _)⟩
  | false=>
   rw [c] at h
   obtain ⟨j,y',e1,e2,e3,e4⟩:=Ja h
   refine ⟨j+1,y',by omega,by simpa using e2,e3,fun i z hi ez=>?_⟩
   cases i with
   | zero=>cases ez; exact c
   | succ i=>exact e4 i z (by omega) (by simpa using ez)
theorem LI {i:Nat} {x:Str} {op:Operator} {ti:gc} {F:D->D->Option D} {pos':Pos} (ho:Wm X op ti) (hF:v4 X.K ti F) (hN:X.N.Nodup) (hi:X.N[i]?=some x) (hx:vG X.env.scope x) (he:SE X e f) (hf:X.fn x=true\/X.env.scope.names.lookup x=some .local:=by first | exact .inl rfl | exact .inr rfl | assumption) :
  SS X (.AugAssign (.Name x pos') op e pos) (zU i (e2 F (z6 i) f)):=by
 obtain ⟨t,pt,k⟩:=he.h
 refine ⟨⟨_,Gp hN hi hx pt ho hf,fun {G0 H0 G H τ σ fl E} K hf q=>?_⟩⟩
 obtain ⟨d,hd,hf⟩:=zG hf
 cases hf
 obtain ⟨x,hx,hd⟩:=zG hd
 obtain ⟨y,hy,hd⟩:=zG hd
 obtain ⟨v,ev,rv⟩:=K.fr _ _ (Qs hx)
 refine ⟨v,ev,k K hy fun u G1 H1 x1 r1=>hF G1 H1 x y v u d _ x1.gh (rv.mono x1.g) r1 hd fun w G2 H2 x2 r2=>?_⟩
 exact q _ _ _ (((K.go x1).go x2).set (List.getElem?_eq_some_iff.mp hi).1 r2)
theorem Im {K:PySem.W.Frag}:v4 K (JS fun i j=>i+j) (wY fun i j=>i+j):=fun G H x y u v d Q s rx ry hf q=>by
 cases x<;>first | (cases hf; done) | skip
 cases y<;>first | (cases hf; done) | skip
 cases hf
 exact ⟨_,_,rx,ry,q _ _ _ (zN.refl s) rfl⟩
theorem Nx {i:Nat} {x:Str} {pos':Pos} (hN:X.N.Nodup) (hi:X.N[i]?=some x) (hx:vG X.env.scope x) (he:SE X e f) (hs:swapsWith e (some (.Name x pos')) pos.line X.env=pure false:=by rfl)
  (hf:X.fn x=true\/X.env.scope.names.lookup x=some .local:=by first | exact .inl rfl | exact .inr rfl | assumption):SS X (.Assign [.Name x pos'] e pos) (zU i f):=by
 obtain ⟨t,p,k⟩:=he.h
 refine ⟨⟨_,(HJ hN hi hx ⟨p⟩ hs hf).h,fun {G0 H0 G H τ σ fl E} K hf q=>?_⟩⟩
 obtain ⟨d,hd,hf⟩:=zG hf
 cases hf
 exact k K hd fun v G' H' x r=>q _ _ _ ((K.go x).set (List.getElem?_eq_some_iff.mp hi).1 r)
theorem Nz {A:Addr} {ks:List Key} {ds:List D} {x:Str} {p:Pos} (h:yU X.mg x (.ref A)) (g:uT X.K X.w A ks ds) (hg:Gl X x) (ha:SE X a fa) (hm:behindInMarks .NotIn (.Name x p)=false:=by with_unfolding_all rfl) (hd:(x == ("__debug__" : Str))=false:=by decide) :
  ST X (.Compare a [.NotIn] [.Name x p] pos) (tE (e1 (VI ks) fa)):=by
 obtain ⟨tb,pb,kb⟩:=ha.h
 refine ⟨⟨_,OK (Bc g) pb (jt h hg hd) hm,fun {G0 H0 G H τ σ d Q} E hf q=>?_⟩⟩
 obtain ⟨z,hz,hf⟩:=zG hf
 obtain ⟨y,hy,hz⟩:=zG hz
 obtain ⟨k,hk,hz⟩:=zG hz
 cases hz
 cases hf
 exact kb E hy fun u G2 H2 x2 r2=>⟨rfl,k,pS hk r2,_,rfl,q _ _ x2⟩
variable {x:Str} {ps:List Str} {j k:Nat} {FF:List D->Option (Bool×D)}
theorem N6 (h:zO X.prog X.w X.K X.mg X.base x ps k (zP X.K FF)) (hr:yz j X.A) (hg:Gl X x) (hk:k<=j:=by decide) (hdb:(x == ("__debug__" : Str))=false:=by decide):SE X (.Call (.Name x p) [] [] pos) (zQ FF zB):=by
 obtain ⟨f,fd,hm,kp,b,F⟩:=h
 refine ⟨⟨_,G9 F (hr.mono hk) hg hm kp b .nil UH hdb,fun {G0 H0 G H τ σ d Q} E hf q=>?_⟩⟩
 obtain ⟨ds,hd,hf⟩:=zG hf
 cases hd
 obtain ⟨⟨o,d⟩,hr,hf⟩:=zG hf
 cases hf
 refine ⟨G,[],o,d,E.ext.gh,rfl,hr,?_⟩
 cases o with
 | false=>exact fun v G' H' x2 r=>q v G' H' x2 r
 | true=>
  intro p G' H' x2 hp gp o
  obtain ⟨u,hu,r⟩:=o.frz gp
  exact q _ _ _ (x2.frz hp gp hu) r
end
def FR (n N:Nat) (b:FS) (ds:List D):Option (Bool×D):=if ds.length=n then za N b ds else none
theorem yb {n N:Nat} {b:FS}:∀ ds r,FR n N b ds=some r->ds.length=n/\za N b ds=some r:=fun ds r h=>by
 unfold FR at h
 split at h
 ·rename_i c
  exact ⟨c,h⟩
 ·cases h
end L3
namespace L3
open PySem PySem.Spec PyProof.Rows L2
theorem Lh {M:Model} {A:Around} {E:Value->Shared->Prop} {items:Array Value} {x:Value} {e:Value->Bool} {j:Nat} (hM:∃ prog w,M=model prog w) (hj:j<items.size) (hit:e items[j]=true) (no:∀ m (hm:m<items.size),m<j->e items[m]=false) {s:Shared}
  (he:∀ y∈items,SeqAt.EqAt A s y x (e y)) {Q:Option PySem.Fin×Unit->Shared->Prop} (h:Q (some (.done (.ret (.int j s.toks))),()) { s with toks:=s.toks+1 }):∀ m i:Nat,i+m=items.size->i<=j->
  wpAny M A (forIn (List.range' i m) ((none,()):Option PySem.Fin×Unit) fun (i:Nat) (_:Option PySem.Fin×Unit)=>match items[i]? with
   | some y=>do
    let __do_lift <- eqBool y x
    if __do_lift=true then do
      let __do_lift <- retInt (i:Int)
      pure (ForInStep.done (some __do_lift,()))
     else pure (ForInStep.yield (none,()))
   | _=>pure (ForInStep.yield (none,()))) Q E s
 | 0,i,h1,h2=>by omega
 | m+1,i,h1,h2=>by
  obtain ⟨prog,w,rfl⟩:=hM
  have hi:i<items.size:=by omega
  rw [List.range'_succ,List.forIn_cons]
  refine wpAny_bind ?_
  rw [Array.getElem?_eq_getElem hi]
  refine wpAny_bind (he _ (Array.getElem_mem hi) prog w E _ ?_)
  by_cases c:i=j
  ·subst c
   rw [hit,if_pos rfl]
   wp_walk
   exact h
  ·rw [no i hi (by omega),if_neg (by decide)]
   refine wpAny_pure ?_
   exact Lh ⟨prog,w,rfl⟩ hj hit no he h m (i+1) (by omega) (by omega)
theorem Pn (t:Addr) (items:Array Value) (x:Value) (e:Value->Bool) (j:Nat) (hj:j<items.size) (hit:e items[j]=true) (no:∀ m (hm:m<items.size),m<j->e items[m]=false) :
  Meets (Builtin.«tuple.index» ⟨[.ref t,x],[]⟩) (fun A R s=>IsTup s.heap t items/\(∀ y∈items,SeqAt.EqAt A.in1 s y x (e y))/\R (.ok (.ret (.int j s.toks))) { s with toks:=s.toks+1 }):=by
 intro prog w A R s h
 obtain ⟨hp,g,d,tk,os⟩:=s
 obtain ⟨⟨o,ho,hc,n,hd⟩,he,h⟩:=h
 unfold Builtin.«tuple.index»
 wp_walk
 skip
 rw [hd]
 refine wpAny_pure (wpAny_pure ?_)
 show wpAny _ _ (pure 0 >>= _) _ _ _
 refine wpAny_bind (wpAny_pure (wpAny_bind (wpAny_pure (wpAny_bind ?_))))
 rw [Std.Legacy.Range.forIn_eq_forIn_range']
 have hs:Std.Legacy.Range.size [0:min items.size items.size]=items.size:=by simp [Std.Legacy.Range.size]
 rw [hs]
 refine Lh ⟨prog,w,rfl⟩ hj hit no he ?_ items.size 0 (by omega) (by omega)
 exact wpAny_pure h
section
variable {X:Cx} {e o k v:Expr} {f fo fk fv:FE} {x:Str} {xp p pos apos cpos:Pos}
theorem C6:pD X "tuple.index" (fun x vs H Q=>∃ (a:Addr) (us:List V) (y:V) (j:Nat) (u:V),x=.ref a/\vs=[y]/\ye X.K H a us/\vv y=true/\us.all vv=true/\us[j]?=some u/\vO u y=true/\(∀ i z,i<j->us[i]?=some z->vO z y=false)/\Q (.int (j:Int)) H):=by
 intro pins s σ H x xs v us' Q I rx rs h
 obtain ⟨a,us,y,j,u,rfl,rfl,sq,fy,fu,eu,hit,no,q⟩:=h
 cases rx
 obtain ⟨w,rfl,ry⟩:=vU rs
 obtain ⟨its,r,pt,hz⟩:=I.tuple sq
 have hl:=r.length
 have hj:j<us.length:=(List.getElem?_eq_some_iff.mp eu).1
 have key:∀ (i:Nat) (z:V) (hi:i<its.toArray.size),us[i]?=some z->wp y its.toArray[i]=vO z y:=fun i z hi ez=>by
  obtain ⟨t,et,rt⟩:=r.get ez
  have e:its.toArray[i]=t:=by
   have h2:its[i]?=some its[i]:=List.getElem?_eq_getElem (by rw [List.size_toArray] at hi; exact hi)
   rw [h2] at et
   simpa using et
  rw [e]
  exact VC rt (List.all_eq_true.mp fu z (List.mem_of_getElem? ez))
 have hjs:j<its.toArray.size:=by rw [List.size_toArray,<- hl]; exact hj
 refine call_meets PySem.F.slot_tuple_index pt.typeIs PySem.F.entry_tuple_index (PySem.F.args_tuple_index_2 _ _) (Pn a its.toArray w (wp y) j hjs (by rw [key j u hjs eu]; exact hit) fun m hm hlt=>?_) ⟨pt,fun t ht=>?_,⟨.int j,H,I.tok _,⟨_,rfl⟩,q⟩⟩
 ·have hm':m<us.length:=by rw [List.size_toArray,<- hl] at hm; exact hm
  rw [key m us[m] hm (List.getElem?_eq_getElem hm')]
  exact no m _ hlt (List.getElem?_eq_getElem hm')
 ·exact jk ry fy r fu t (by simpa using ht)
def ut (K:PySem.W.Frag) (A:Addr):Prop:=∃ o,K.lookup A=some o/\o.cls=.type "tuple" /\ o.dict=none
def J1 (ds:List D) (y:D):Option D:=BR (.lst ds) y
theorem N8 {A:Addr} {ds:List D} (h:yU X.mg x (.ref A)) (r:∀ H,zR X.K H (.tup ds) (.ref A)) (kt:ut X.K A) (hg:Gl X x) (he:SE X e f) (hd:(x == ("__debug__" : Str))=false:=by decide)
  (hbase:attributeBase (.Name x xp) "index" X.env (eval (.Name x xp) X.env)=eval (.Name x xp) X.env:=by rfl) (hline:(apos.endLine == cpos.line)=true:=by rfl) (hs:yl e=true:=by rfl) :
  SE X (.Call (.Attribute (.Name x xp) "index" apos) [e] [] cpos) (e1 (J1 ds) f):=by
 obtain ⟨te,pe,ke⟩:=(zC he zH hs).h
 refine ⟨⟨_,(jv PySem.F.plainAttrs_tuple PySem.F.slot_tuple_index PySem.F.type_tuple_index C6 (HG h hg hd) ⟨pe⟩ hbase hline (by rw [List.all_cons,hs]; rfl) (by show 1<30; decide)).h,fun {G0 H0 G H τ σ d Q} E hf q=>?_⟩⟩
 obtain ⟨y,hy,hf⟩:=zG hf
 refine ⟨.inr (.inl ⟨rfl,kt⟩),ke E (ds:=[y]) (by unfold zA; rw [hy]; rfl) fun ws G2 H2 x2 r2=>?_⟩
 obtain ⟨w,rfl,rw_⟩:=uc r2
 obtain ⟨a,us,ea,sq,rs,_⟩:=r G2
 cases ea
 change (match yf y&&ds.all yf with | true=>(kS y ds 0).bind fun n=>some (D.int n) | false=>none)=some d at hf
 cases c:(yf y&&ds.all yf) with
 | false=>rw [c] at hf; cases hf
 | true=>
  rw [c] at hf
  obtain ⟨n,hn,hf⟩:=zG hf
  cases hf
  rw [Bool.and_eq_true] at c
  obtain ⟨j,z,e1,e2,e3,e4⟩:=Ja hn
  rw [Nat.zero_add] at e1
  subst e1
  obtain ⟨u,eu,ru⟩:=rs.get e2
  have fl:∀ {i:Nat} {z:D},ds[i]?=some z->yf z=true:=fun {i z} ez=>List.all_eq_true.mp c.2 z (List.mem_of_getElem? ez)
  refine ⟨A,us,w,n,u,rfl,rfl,vF x2.gh sq,p_ c.1 rw_,(W1 c.1 rw_ rs c.2).1,eu,by rw [ZB (fl e2) c.1 ru rw_]; exact e3,fun i z hi ez=>?_,q _ _ _ x2 rfl⟩
  obtain ⟨dz,ed,rd⟩:=rs.at ez
  rw [ZB (fl ed) c.1 rd rw_]
  exact e4 i dz hi ed
def xf (i:Int):Nat:=Builtin.Int.intBits i
def VP:D->D->Option D:=fI (fun i j=>decide (xf i+xf j<=134217728)) (·*·)
theorem Eg:yE X (binaryOp .Mult) (rI (fun i j=>xf i+xf j<=134217728) fun i j=>.int (i*j)):=Z1 fun i j _ _ _ _ _ hc q=>mul_int q (by
 unfold IntMulOk
 intro h
 rw [Bool.and_eq_true] at h
 have h2:decide (((Builtin.Int.intBits i+Builtin.Int.intBits j:Nat):Int) > (134217728:Nat))=true:=h.2
 have h3:=of_decide_eq_true h2
 have h4:Builtin.Int.intBits i+Builtin.Int.intBits j<=134217728:=hc
 omega)
theorem E9 {K:PySem.W.Frag}:v4 K (rI (fun i j=>xf i+xf j<=134217728) fun i j=>.int (i*j)) VP:=jq fun _ _ h=>of_decide_eq_true h
end
end L3
namespace L3
open PySem PySem.Spec PyProof.Rows L2 PySem.W
theorem Lu:∀ {ns:List Int} {m:Int},m∈ns->xf m<=WData.weightAll (ns.map WData.int)
 | [],_,h=>by cases h
 | n::ns,m,h=>by
  have e:WData.weightAll ((n::ns).map WData.int)=xf n+1+WData.weightAll (ns.map WData.int):=by
   show WData.weightAll (WData.int n::ns.map WData.int)=_
   rw [WData.weightAll]
   rfl
  rw [e]
  rcases List.mem_cons.mp h with rfl | h
  ·omega
  ·have:=Lu h
   omega
theorem Fo {ns:List Int} (h:WData.layableAll [.list (ns.map WData.int)]=true):∀ m∈ns,xf m<=1048576:=fun m hm=>by
 have h1:WData.layable (.list (ns.map WData.int))=true:=List.all_eq_true.mp h _ (List.mem_singleton.mpr rfl)
 unfold WData.layable at h1
 rw [Bool.and_eq_true] at h1
 have h2:WData.weight (.list (ns.map WData.int))<=2 ^ 20:=of_decide_eq_true h1.2
 have h3:=Lu hm
 have h4:WData.weight (.list (ns.map WData.int))=WData.weightAll (ns.map WData.int):=by rw [WData.weight]
 omega
section
variable {P:Program} {w:World} {K:PySem.W.Frag} {mg:Str->Option Value} {base:Heap}
def Y8 (K:PySem.W.Frag):Sp:=fun vs H Q _=>∃ (a:Addr) (ns:List Int),vs=[.ref a]/\zw K H a (ns.map V.int)/\ns.length<=63/\(∀ m∈ns,xf m<=1048576)/\∀ H',Q (.bl true) H'
theorem Fn {x:Str} {st:Stmt} {N:List Str} {k:Nat} {b:FS} {f:Addr} {fd:FuncData} (d:qJ K "law" "law" st f fd) (S:yD N [x] (zr st)) (hN:1<=N.length) (hrun:∀ ns:List Int,ns.length<=63->(∀ m∈ns,xf m<=1048576)->∃ o,za N.length b [.lst (ns.map D.int)]=some (o,.bl true))
  (hb:∀ (cdv:Value) (A:Around) (outer:List Env) (s:Shared) (H:Hp) (E:XK),yz k (A.deeper (envOfC "law" (zr st) s.heap.objs.size f cdv))->vK (tX vV P w K mg base N "law" (zr st) f cdv A outer s H E).nox (uw st) b):vb P w K mg base vV (k+1) f fd [x] (Y8 K):=by
 refine d.ok S (fun vs H Q E h=>?_) fun cdv A outer s H vs Q E hr h=>?_
 ·obtain ⟨a,ns,rfl,_⟩:=h
  rfl
 ·obtain ⟨a,ns,rfl,sq,l,hbits,q⟩:=h
  obtain ⟨o,hrun⟩:=hrun ns l hbits
  obtain ⟨t,p,kt⟩:=(hb cdv A outer s H E hr).h
  obtain ⟨fl,hfl,hrun⟩:=zG hrun
  have r:Reps K H [.lst (ns.map D.int)] [.ref a]:=⟨_,_,rfl,⟨a,_,rfl,sq,Reps.ints,by rw [List.length_map]; exact small (by omega)⟩,rfl⟩
  refine ⟨t,p,kt (Qy (N:=N) (zl.refl H) r hN) hfl ?_⟩
  cases fl with
  | nx τ=>cases hrun
  | rt o' d'=>
   cases hrun
   cases o with
   | false=>
    intro v G H' _ r
    cases (show v=.bl true from r)
    exact q H'
   | true=>exact fun p G H' _ _ _ z=>z.elim
  | _=>cases hrun
end
theorem walkB {l:PySem.W.OpenLaw} {n k:Nat} {q:Program} {loose:List Str} {XP:(Str->Option Value)->Heap->Prop} {YP:World->Heap->Prop} {d:DefRec} {K:Params->PySem.W.Frag} {sp:PySem.W.Frag->Sp} {x:Str}
  (hn:l.most=some n) (hn2:n<=sizeLine) (hdf:d.params.defaults=[]) (hr:yz k callerA) (hY:∀ (w:World) (h:Heap),YP w h->(K w.params).In h)
  (F:∀ (w:World) (mg:Str->Option Value) (fa:Addr) (h:Heap),(K w.params).In h->h.Ns mainGlobals mg->mg d.name=some (.ref fa)->
   ∃ fd:FuncData,(∀ (s:Shared) (u:Value),BindsTo s fd ⟨[u],[]⟩ [(x,u)])/\∀ base:Heap,(K w.params).In base->base.Ns mainGlobals mg->vb l.prog w (K w.params) mg base vV k fa fd [x] (sp (K w.params)))
  (hsp:∀ (K:PySem.W.Frag) (H:Hp) (a:Addr) (ns:List Int),ns.length<=n->(∀ m∈ns,xf m<=1048576)->zw K H a (ns.map V.int)->sp K [.ref a] H (fun v _=>v=.bl true) fun _ _ _=>False) :
  PySem.W.WalkO q loose XP YP l.row.toRowW d [] (fun f vs=>PySem.call f vs):=by
 intro w s0 s1 mg mb Gr Y fa o pm cd doc dV kV ho hd hcd hD hmg hg args vals as hpre hlay hrd hwl hlo
 have e1:dV=.none:=Dflts.none hD hdf
 have e2:kV=.none:=Dflts.noKw hD
 subst e1 e2
 obtain ⟨a,vs,ns,rfl,rfl,hobj,hints,hlen⟩:=Att.script_of hn hpre hwl
 have KX:=hY w _ Y
 obtain ⟨fd,hb,hF⟩:=F w mg fa _ KX Gr.T.g hmg
 have main:=Fm KX Gr.T.g Gr.T.b Gr.T.builtins Gr.T.nolimit hg hobj hints (Nat.le_trans hlen hn2) hr hF hb (fun H _ hS=>hsp _ H a ns hlen (Fo hlay) hS) (fun _ _ _ z=>z)
 refine enter_call (codeAny_mono main fun r s' hq=>?_)
 obtain ⟨rfl,h2,h3,h4⟩:=hq
 refine ⟨.inl ⟨.bool true,.bool true,[],rfl,fun _=>rfl,.bool true,Att.post_true l _,fun _=>?_⟩,h2,h3,h4⟩
 exact ⟨List.Pairwise.nil,fun _ hm=>nomatch hm⟩
end L3
namespace L3
open PySem PySem.Spec PyProof.Rows L2
theorem Bd {prog:Program} {w:World} {A:Around} {E:Value->Shared->Prop} {s:Shared} {a:Addr} {o:Obj} {xs:Array Value} {k:Nat} {name:Str} {Q:Option Value->Shared->Prop}
  (hx:s.heap.get? a=some o) (hc:o.cls=.type "list") (hdat:o.data=.seq xs k) (hd:o.dict=none) (hmiss:typeLookup (.type "list") name=pure none)
  (hname:(["__module__", "__name__", "__qualname__", "__doc__", "__annotations__"]:List Str).contains name=false) (hA:A.handled=none)
  (h:∀ h' tk,(∀ b ob,s.heap.get? b=some ob->h'.get? b=some ob)->Q none { s with heap:=h',toks:=tk }) (hsz:name.length+100<=sizeLine) :
  wpAny (model prog w) A (getAttr? (.ref a) name) Q E s:=by
 obtain ⟨c,dct,dat,sl⟩:=o
 simp only at hc hdat hd
 subst hc hdat hd
 obtain ⟨hp,g,d,tk,os⟩:=s
 have hT:∀ tk',(⟨hp,g,d,tk',os⟩:Shared).TypeIs (.ref a) "list" := fun _=>⟨_,hx,rfl⟩
 have f1:=sub_AttributeError
 have f3:=F.slot_list_getattribute.lookup
 have f4:=F.slot_list_getattribute.bind (.ref a)
 have f5:=am_list_getattr_none
 unfold getAttr? getAttrBy? getAttrBy
 repeat (any_goals (first | assumption | exact hT _ | ((with_reducible show wpAny _ _ (call (Value.builtin "list.__getattribute__") _ _) _ _ _); refine call_meets F.slot_list_getattribute (hT _) am_entry_list_getattribute (F.args_list_getattribute_2 _ _) (meets_getattribute_miss_list a xs k sl name _ hmiss hname hsz) ⟨hx,hA,fun h' tk' e hx'=>?_⟩) | wp_step))
 obtain ⟨t',u',he⟩:=hx'.there
 show wpAny _ _ (getattributeRaised _ _ _ _ _ _ _) _ _ _
 unfold getattributeRaised
 repeat (any_goals (first | assumption | wp_step))
 exact h _ _ hx'.keeps
theorem Xs:plainId "dict.update.loop" = true:=by decide +kernel
theorem Qx:entryFor table "dict.update.loop" = some Builtin.«dict.update.loop»:=entryFor_of_fast (by kernel_rfl)
theorem _root_.PySem.Heap.DictOf.keepB {prog:Program} {w:World} {h h':Heap} {a:Addr} {kvs:List (Key×Value)} (hm:h.DictOf (yc prog w) a kvs) (k:∀ o,h.get? a=some o->h'.get? a=some o):h'.DictOf (yc prog w) a kvs:=
 let ⟨o',es,ep,ho,r⟩:=hm; ⟨o',es,ep,k _ ho,r⟩
theorem P3 (kvs:List (Key×Value)) (k:Key) (v:Value):(stored kvs k v).length<=kvs.length+1:=by
 unfold stored
 split
 ·rw [List.length_map]; omega
 ·rw [List.length_append]; exact Nat.le_refl _
def Wo (h:Heap) (v:Value) (k:Key) (x:Value):Prop:=∃ b key,v=.ref b/\wR k key=true/\IsTup h b #[key,x]
theorem Ln {prog:Program} {w:World} {A:Around} {R:Result->Shared->Prop} {d it l:Addr} {its:List Value} (hA:A.handled=none) (hdl:d≠l) (hdi:d≠it) (hli:l≠it) :
  ∀ (kvs:List (Key×Value)) (i:Nat) (acc:List (Key×Value)) (s:Shared),s.heap.IsListIter it l i->s.heap.IsList l its.toArray->i+kvs.length=its.length->(∀ j kv,kvs[j]?=some kv->∃ v,its[i+j]?=some v/\Wo s.heap v kv.1 kv.2)->
   s.heap.DictOf (yc prog w) d acc->acc.length+kvs.length<=sizeLine->(∀ h' tk,h'.DictOf (yc prog w) d (kvs.foldl (fun a kv=>stored a kv.1 kv.2) acc)->(∀ b o,b≠d->b≠it->s.heap.get? b=some o->h'.get? b=some o)->R (.ok (.ret .none)) { s with heap:=h',toks:=tk })->
   wpAny (model prog w) A.in1 (Builtin.«dict.update.loop» ⟨[.ref d,.ref it,rawInt i,.none],[]⟩) (fun fin s'=>match fin with | .done f=>R (.ok f) s' | .again c'=>c'.quiet=true/\codeAny (model prog w) A c' R s') (fun e s'=>R (.error e) s') s
 | [],i,acc,s,st,hl,hn,hp,hd,hz,h=>by
  unfold Builtin.«dict.update.loop»
  refine wpAny_bind (wpAny_pyNext_list_end (by exact hA) st hl (by simp at hn ⊢; omega) fun h' eb=>?_)
  show wpAny _ _ (Builtin.Dict.addKeywords d [] >>= _) _ _ _
  refine wpAny_bind (wpAny_pure (wpAny_pure ?_))
  exact h h' s.toks (hd.keepB fun o e=>eb d o hdi e) (fun b o _ hb e=>eb b o hb e)
 | kv::kvs,i,acc,s,st,hl,hn,hp,hd,hz,h=>by
  obtain ⟨v,hv,b,key,rfl,hk,ht⟩:=hp 0 kv rfl
  unfold Builtin.«dict.update.loop»
  refine wpAny_bind (wpAny_pyNext_list_item st hl (x:=.ref b) (by simpa using hv) fun h1 st1 sb=>?_)
  have keep1:∀ c o,c≠it->s.heap.get? c=some o->h1.get? c=some o:=fun c o hc e=>(sb.2 c hc).trans e
  have notIt:∀ {c:Addr} {xs:Array Value},IsTup s.heap c xs->c≠it:=fun {c xs} t e=>by
   subst e
   obtain ⟨o,e1,c1,_⟩:=t
   obtain ⟨o',e2,c2,_⟩:=st
   rw [e1] at e2
   cases e2
   rw [c1] at c2
   exact absurd (Value.type.inj c2) (by decide)
  have notD:∀ {c:Addr} {xs:Array Value},IsTup s.heap c xs->c≠d:=fun {c xs} t e=>by
   subst e
   obtain ⟨o,e1,c1,_⟩:=t
   obtain ⟨o',es,ep,e2,c2,_⟩:=hd
   rw [e1] at e2
   cases e2
   have c3:=c2.1
   rw [c1] at c3
   exact absurd (Value.type.inj c3) (by decide)
  obtain ⟨o,ho,hc,n,hdat⟩:=ht
  have ho1:=keep1 b o (notIt ⟨o,ho,hc,n,hdat⟩) ho
  have hd1:h1.DictOf (yc prog w) d acc:=hd.keepB fun o e=>keep1 d o hdi e
  refine wpAny_bind (wpAny_holding (wpAny_bind (wpAny_tryCatch ?_)))
  unfold Builtin.Dict.pairItems
  refine wpAny_bind (wpAny_typeOf (T := "tuple") ⟨o,ho1,hc⟩ ?_)
  rw [if_pos (by rfl)]
  refine wpAny_bind (wpAny_seqItems ho1 hdat (wpAny_pure ?_))
  refine wpAny_holding (wpAny_dictSet_pairs (knd:=yc prog w) (k:=kv.1) hk hd1 (fun h2 hd2 sb2=>?_) (by omega))
  refine wpAny_pure ⟨plainId_quiet Xs _,codeAny_builtin Qx ?_⟩
  rw [Around.under_plainId Xs _]
  have keep2:∀ c o,c≠d->c≠it->s.heap.get? c=some o->h2.get? c=some o:=fun c o h1' h2' e=>(sb2.2 c h1').trans (keep1 c o h2' e)
  have key2:∀ {c:Addr} {xs:Array Value},IsTup s.heap c xs->IsTup h2 c xs:=fun {c xs} t=>by
   have a1:=notD t
   have a2:=notIt t
   obtain ⟨o,e1,r⟩:=t
   exact ⟨o,keep2 c o a1 a2 e1,r⟩
  refine Ln (its:=its) hA hdl hdi hli kvs (i+1) (stored acc kv.1 kv.2) _ ?_ ?_ (by rw [List.length_cons] at hn; omega) (fun j kv' e=>?_) hd2 ?_ fun h' tk hd' kp=>?_
  ·exact st1.at fun o e=>(sb2.2 it (fun z=>hdi z.symm)).trans e
  ·obtain ⟨o,e,r⟩:=hl
   exact ⟨o,keep2 l o (fun z=>hdl z.symm) hli e,r⟩
  ·obtain ⟨v',hv',b',key',rfl,hk',ht'⟩:=hp (j+1) kv' (by simpa using e)
   exact ⟨_,by rw [show i+1+j=i+(j+1) by omega]; exact hv',b',key',rfl,hk',key2 ht'⟩
  ·have:=P3 acc kv.1 kv.2
   rw [List.length_cons] at hz
   omega
  ·exact h h' tk hd' fun c o h1' h2' e=>kp c o h1' h2' (keep2 c o h1' h2' e)
theorem Mf {prog:Program} {w:World} {A:Around} {E:Value->Shared->Prop} {s:Shared} {l:Addr} {o:Obj} {its:List Value} {n:Nat} {kvs:List (Key×Value)} {Q:Value->Shared->Prop} (hA:A.handled=none) (ho:s.heap.get? l=some o) (hc:o.cls=.type "list") (hdd:o.dict=none) (hdat:o.data=.seq its.toArray n)
  (hn:kvs.length=its.length) (hp:∀ (j:Nat) (kv:Key×Value),kvs[j]?=some kv->∃ v,its[j]?=some v/\Wo s.heap v kv.1 kv.2) (hz:kvs.length<=sizeLine)
  (h:∀ h' tk,h'.DictOf (yc prog w) s.heap.objs.size (kvs.foldl (fun a kv=>stored a kv.1 kv.2) [])->(∀ b o,s.heap.get? b=some o->h'.get? b=some o)->Q (.ref s.heap.objs.size) { s with heap:=h',toks:=tk }) :
  wpAny (model prog w) A (call (.type "dict") [.ref l]) Q E s:=by
 refine callType_codes (Q₁:=fun obj s₁=>obj=.ref s.heap.objs.size/\s₁={ s with heap:=s.heap.push { cls:=.type "dict",data:=.dict #[] } }) F.kt_called_dict (F.kt_typeCall_dict_1 _) F.entry_dict_init (kt_code_dict_new _ ⟨rfl,rfl⟩) ?_
 rintro obj s₁ ⟨rfl,rfl⟩
 have hnew:(s.heap.push { cls:=.type "dict",data:=.dict #[] }).DictOf (yc prog w) s.heap.objs.size []:=Heap.DictOf.new s.heap
 refine ⟨hnew.typeIs,F.args_dict_init_2 _ _,?_⟩
 unfold Builtin.«dict.__init__»
 refine wpAny_bind ?_
 unfold Builtin.Dict.selfAndRest
 refine wpAny_bind (wpAny_notOrdered_dict hnew.typeIs ?_)
 show wpAny _ _ (pure (s.heap.objs.size,[Value.ref l])) _ _ _
 refine wpAny_pure ?_
 show wpAny _ _ (Builtin.Dict.updateFrom "dict.__init__" s.heap.objs.size (.ref l) [] .none) _ _ _
 unfold Builtin.Dict.updateFrom
 have hlt:=Heap.lt_size ho
 have ho1:(s.heap.push { cls:=.type "dict",data:=.dict #[] }).get? l=some o:=Heap.get?_push_of_some _ ho
 refine wpAny_bind (wpAny_typeOf (T := "list") ⟨o,ho1,hc⟩ ?_)
 rw [if_pos (by rfl)]
 refine wpAny_bind (Bd (o:=o) ho1 hc hdat hdd (am_miss_of_fast (by kernel_rfl)) (by decide) (by exact hA) (fun h1 tk1 kp1=>?_) (by decide))
 rw [if_pos (by rfl)]
 have hd1:h1.DictOf (yc prog w) s.heap.objs.size []:=hnew.keepB fun o e=>kp1 _ _ e
 have ho2:h1.get? l=some o:=kp1 _ _ ho1
 have hl1:h1.IsList l its.toArray:=⟨o,ho2,hc,n,hdat⟩
 have hd1lt:s.heap.objs.size<h1.objs.size:=by
  obtain ⟨o',_,_,e,_⟩:=hd1
  exact Heap.lt_size e
 show wpAny _ _ (pure () >>= _) _ _ _
 refine wpAny_bind (wpAny_pure (wpAny_bind ?_))
 refine wpAny_pyIter_list (s:={ s with heap:=h1,toks:=tk1 }) hl1 ?_
 refine wpAny_pure ⟨plainId_quiet Xs _,codeAny_builtin Qx ?_⟩
 rw [Around.under_plainId Xs _]
 have k0:∀ b ob,s.heap.get? b=some ob->(h1.push { cls:=.type "list_iterator",data:=.fields #[.ref l,.int 0 0] }).get? b=some ob:=fun b ob e=>Heap.get?_push_of_some _ (kp1 b ob (Heap.get?_push_of_some _ e))
 refine Ln (l:=l) (its:=its) (A:=A.in1) (by exact hA) (yQ (Nat.ne_of_gt hlt)) (yQ (Nat.ne_of_lt hd1lt)) (yQ (Nat.ne_of_lt (Nat.lt_trans hlt hd1lt))) kvs 0 [] _ ⟨_,Heap.get?_push_size _ rfl,rfl,rfl⟩ ⟨o,k0 l o ho,hc,n,hdat⟩ (by rw [Nat.zero_add]; exact hn) (fun j kv e=>?_) (hd1.push _) (by simpa using hz) fun h' tk hd' kp=>?_
 ·obtain ⟨v,hv,b,key,rfl,hk,o',e1,r⟩:=hp j kv e
  exact ⟨_,by rw [Nat.zero_add]; exact hv,b,key,rfl,hk,o',k0 b o' e1,r⟩
 ·refine ⟨rfl,h h' tk hd' fun b ob e=>?_⟩
  have hb:=Heap.lt_size e
  exact kp b ob (yQ (Nat.ne_of_lt hb)) (yQ (Nat.ne_of_lt (Nat.lt_trans hb hd1lt))) (k0 b ob e)
section
variable {X:Cx}
theorem O2 {pins:List (Addr×Obj)} {σ:St} {H:Hp} {s:Shared} (I:Inv X pins σ H s):∀ {kvs:List (Key×V)} {vs:List V} {its:List Value},zY vs its->kvs.length=vs.length->(∀ (j:Nat) (kv:Key×V),kvs[j]?=some kv->∃ b,vs[j]?=some (V.ref b)/\ye X.K H b [kV kv.1,kv.2])->
  ∃ ws:List (Key×Value),KV kvs ws/\∀ (j:Nat) (kw:Key×Value),ws[j]?=some kw->∃ v,its[j]?=some v/\Wo s.heap v kw.1 kw.2
 | [],_,_,_,_,_=>⟨[],.nil,fun j kw e=>by cases e⟩
 | kv::kvs,[],_,_,h,_=>by cases h
 | kv::kvs,_::vs,_::its,.cons r t,h,hp=>by
  obtain ⟨ws,rk,hw⟩:=O2 I t (by simpa using h) fun j kv' e=>by
   obtain ⟨b,e1,q⟩:=hp (j+1) kv' (by simpa using e)
   exact ⟨b,by simpa using e1,q⟩
  obtain ⟨b,e1,sq⟩:=hp 0 kv rfl
  cases e1
  obtain ⟨is,ri,pt,_⟩:=I.tuple sq
  obtain ⟨key,x,rfl,rkey,rx⟩:=TL ri
  refine ⟨(kv.1,x)::ws,.cons ⟨rfl,rx⟩ rk,fun j kw e=>?_⟩
  cases j with
  | zero=>
   cases e
   exact ⟨_,rfl,b,key,r,tj (P:=X.prog) (w:=X.w) rkey,pt⟩
  | succ j=>
   obtain ⟨v,e2,q⟩:=hw j kw (by simpa using e)
   exact ⟨v,by simpa using e2,q⟩
def HM (K:PySem.W.Frag):List V->Hp->VK->Prop:=fun xs H Q=>∃ a vs kvs,xs=[.ref a]/\zw K H a vs/\kvs.length=vs.length/\(∀ (j:Nat) (kv:Key×V),kvs[j]?=some kv->∃ b,vs[j]?=some (.ref b)/\ye K H b [kV kv.1,kv.2])/\∀ p,H p=none->Q (.ref p) (zX H p (.dK (tq [] kvs)))
theorem Me (hcalm:X.calm=true):xr X (.type "dict") (HM X.K):=by
 intro pins s σ H xs us Q I r h
 obtain ⟨a,vs,kvs,rfl,sq,hl,hp,q⟩:=h
 obtain ⟨u,rfl,ru⟩:=vU r
 cases (show u=Value.ref a from ru)
 obtain ⟨its,rv,⟨o,n,ho,hc,hdd,hdat⟩,hz⟩:=I.list sq
 obtain ⟨ws,rk,hw⟩:=O2 I rv hl hp
 have hlw:ws.length=its.length:=by rw [<- rk.length,hl,rv.length]
 refine Mf (I.ok.hd hcalm) ho hc hdd hdat hlw hw (by rw [hlw,<- rv.length]; exact hz) fun h' tk dd kp=>?_
 have hle:(tq [] kvs).length<=sizeLine:=by
  have h1:=II kvs []
  rw [List.length_nil] at h1
  omega
 have hm:(s.heap.objs.size == sysModules)=false:=by
  have:=I.big
  rw [beq_eq_false_iff_ne]
  exact yQ (Nat.ne_of_gt this)
 exact ⟨.ref s.heap.objs.size,_,I.laid (a:=s.heap.objs.size) (o:=.dK (tq [] kvs)) (t':=tk) kp (Nat.le_refl _) (Qo hle hm (rk.merge .nil) dd),rfl,q _ I.fresh⟩
end
def t6:List D->Option (List (Sum Int Str)×List D)
 | []=>some ([],[])
 | .tup [k,v]::r=>(uK k).bind fun k=>(t6 r).bind fun p=>some (k::p.1,v::p.2)
 | _=>none
def yn {α:Type}:List (Sum Int Str)->List α->List (Sum Int Str)->List α->List (Sum Int Str)×List α
 | ks,ds,k::r,v::q=>yn (xY ks k) (xj ks ds k v) r q
 | ks,ds,_,_=>(ks,ds)
def pL:List D->Option D
 | [.lst xs]=>(t6 xs).bind fun p=>some (.dic (yn [] [] p.1 p.2).1 (yn [] [] p.1 p.2).2)
 | _=>none
theorem OO:∀ {ks:List Key} {us:List V} {as:List Key} {vs:List V},ks.length=us.length->as.length=vs.length->tq (as.zip vs) (ks.zip us)=(yn as vs ks us).1.zip (yn as vs ks us).2/\(yn as vs ks us).1.length=(yn as vs ks us).2.length
 | [],[],as,vs,_,h=>⟨rfl,h⟩
 | k::ks,u::us,as,vs,h1,h2=>by
  have ih:=OO (ks:=ks) (us:=us) (as:=xY as k) (vs:=xj as vs k u) (by simpa using h1) (pq h2)
  refine ⟨?_,ih.2⟩
  show tq (wx (as.zip vs) k u) (ks.zip us)=_
  rw [M6 h2]
  exact ih.1
theorem ON {K:PySem.W.Frag} {G:Hp}:∀ {ks:List Key} {es:List D} {us:List V} {as:List Key} {ds:List D} {vs:List V},Reps K G es us->Reps K G ds vs->ks.length=us.length->as.length=vs.length->Reps K G (yn as ds ks es).2 (yn as vs ks us).2/\(yn as ds ks es).1=(yn as vs ks us).1
 | [],es,us,as,ds,vs,r1,r2,h1,h2=>by
  have e1:yn as ds [] es=(as,ds):=by unfold yn; rfl
  have e2:yn as vs [] us=(as,vs):=by unfold yn; rfl
  rw [e1,e2]
  exact ⟨r2,rfl⟩
 | k::ks,es,[],as,ds,vs,r1,r2,h1,h2=>by cases h1
 | k::ks,[],u::us,as,ds,vs,r1,r2,h1,h2=>by cases (show _=[] from r1)
 | k::ks,e::es,_::_,as,ds,vs,r1,r2,h1,h2=>by
  obtain ⟨v,r,ev,hv,hr⟩:=r1
  cases ev
  exact ON (ks:=ks) (es:=es) (as:=xY as k) hr (r2.put hv) (by simpa using h1) (pq h2)
theorem OM {α:Type}:∀ {ks:List Key} {es:List α} {as:List Key} {ds:List α},as.length=ds.length->(yn as ds ks es).2.length<=ds.length+es.length
 | [],es,as,ds,_=>by
  have e:yn as ds [] es=(as,ds):=by unfold yn; rfl
  rw [e]
  exact Nat.le_add_right _ _
 | _::_,[],as,ds,_=>by
  have e:∀ k ks,yn as ds (k::ks) ([]:List α)=(as,ds):=fun _ _=>by unfold yn; rfl
  rw [e]
  exact Nat.le_add_right _ _
 | k::ks,e::es,as,ds,h=>by
  have ih:=OM (ks:=ks) (es:=es) (as:=xY as k) (ds:=xj as ds k e) (pq h)
  have:=OR (ks:=as) (vs:=ds) (k:=k) (v:=e) h
  show (yn (xY as k) (xj as ds k e) ks es).2.length<=_
  rw [List.length_cons]
  omega
theorem Jl {K:PySem.W.Frag} {G:Hp}:∀ {xs:List D} {vs:List V} {ks:List Key} {ds:List D},t6 xs=some (ks,ds)->Reps K G xs vs->∃ us,Reps K G ds us/\ks.length=us.length/\ks.length=vs.length/\∀ (j:Nat) (kv:Key×V),(ks.zip us)[j]?=some kv->∃ b,vs[j]?=some (V.ref b)/\ye K G b [kV kv.1,kv.2]
 | [],_,_,_,h,r=>by
  cases h
  cases (show _=[] from r)
  exact ⟨[],rfl,rfl,rfl,fun j kv e=>by cases e⟩
 | x::xs,_,ks,ds,h,r=>by
  obtain ⟨v,r',rfl,hv,hr⟩:=r
  unfold t6 at h
  split at h
  ·rename_i e; cases e
  ·rename_i k y r2 e
   cases e
   obtain ⟨key,hk,h⟩:=zG h
   obtain ⟨⟨ks2,ds2⟩,h2,h⟩:=zG h
   cases h
   obtain ⟨us,q1,q2,q3,q4⟩:=Jl h2 hr
   obtain ⟨b,ws,rfl,sq,⟨u1,_,rfl,hu1,⟨u2,_,rfl,hu2,e3⟩⟩,_⟩:=hv
   cases (show _=[] from e3)
   refine ⟨u2::us,⟨u2,us,rfl,hu2,q1⟩,by rw [List.length_cons,List.length_cons,q2],by rw [List.length_cons,List.length_cons,q3],fun j kv e=>?_⟩
   cases j with
   | zero=>
    cases e
    refine ⟨b,rfl,?_⟩
    rw [<- pS hk hu1]
    exact sq
   | succ j=>
    obtain ⟨b',e1,e2⟩:=q4 j kv (by simpa using e)
    exact ⟨b',by simpa using e1,e2⟩
  ·cases h
theorem Ur {X:Cx} {e:Expr} {fs:FA} {p pos:Pos} (hcalm:X.calm=true) (hg:Gl X "dict") (hm:X.mg "dict" = none) (hv:bootBuiltins "dict" = some (.type "dict")) (ha:SA X [e] fs) (hs:yl e=true:=by rfl):SF X (.Call (.Name "dict" p) [e] [] pos) (eL pL fs):=by
 obtain ⟨t,pt,k⟩:=ha.h
 refine ⟨⟨_,(jw (Me hcalm) hg hm hv ⟨pt⟩ (by decide) (by decide) (by rw [List.all_cons,hs]; rfl)).h,fun {G0 H0 G H τ σ d Q} E hf q=>?_⟩⟩
 obtain ⟨ds,hd,hf⟩:=zG hf
 refine k E hd fun vs G1 H1 x1 r1=>?_
 unfold pL at hf
 split at hf
 ·rename_i xs
  obtain ⟨⟨ks,es⟩,hk,hf⟩:=zG hf
  cases hf
  obtain ⟨v,rfl,a,ws,rfl,sq,rs,l⟩:=uc r1
  obtain ⟨us,q1,q2,q3,q4⟩:=Jl hk rs
  obtain ⟨z1,z2⟩:=OO (ks:=ks) (us:=us) (as:=[]) (vs:=[]) q2 rfl
  obtain ⟨z3,z4⟩:=ON (ks:=ks) (as:=[]) (ds:=[]) (vs:=[]) q1 rfl q2 rfl
  refine ⟨a,ws,ks.zip us,rfl,wB x1.gh sq,by rw [List.length_zip,q2,Nat.min_self,<- q2,q3],fun j kv e=>?_,fun p hp=>?_⟩
  ·obtain ⟨b,e1,e2⟩:=q4 j kv e
   exact ⟨b,e1,vF x1.gh e2⟩
  ·refine q p _ _ (x1.trans (zN.layO x1.gh hp)) (x1.h.free hp) (x1.gh.free hp) ⟨(yn [] [] ks us).2,?_,?_,z3,?_⟩
   ·show zX H1 p (.dK (tq [] (ks.zip us))) p=some (.dK ((yn [] [] ks es).1.zip (yn [] [] ks us).2))
    rw [yj,z4]
    exact congrArg (fun x=>some (HO.dK x)) z1
   ·show (yn [] [] ks es).1.length=_
    rw [z4]
    exact z2
   ·have:=OM (ks:=ks) (es:=es) (as:=[]) (ds:=[]) rfl
    have e1:es.length=ws.length:=by rw [<- q1.length,<- q2,q3]
    rw [rs.length] at e1
    show (yn [] [] ks es).2.length<=sizeLine
    simp only [List.length_nil,Nat.zero_add] at this
    omega
 ·cases hf
end L3
namespace L3
open PySem PySem.Spec PyProof PyProof.Rows L2 Builtin Builtin.Str
section
variable {X:Cx} {e o a b c:Expr} {f fo fa fb fc:FE} {x:Str} {xp p pos apos cpos:Pos}
def j6:List D->Option (List Str)
 | []=>some []
 | .str z::r=>(j6 r).bind fun ts=>some (z::ts)
 | _=>none
def VM:D->D->Option D
 | .str sep,.lst xs=>(j6 xs).bind fun ts=>if (ts.map (·.length)).sum+ts.length*sep.length<=zy then some (.str (glued sep ts)) else none
 | _,_=>none
theorem LV {K:PySem.W.Frag} {G:Hp}:∀ {xs:List D} {vs:List V} {ts:List Str},j6 xs=some ts->Reps K G xs vs->vs=ts.map V.str
 | [],_,_,h,r=>by
  cases h
  exact r
 | x::xs,_,ts,h,r=>by
  obtain ⟨v,r',rfl,hv,hr⟩:=r
  unfold j6 at h
  split at h
  ·rename_i e; cases e
  ·rename_i z r2 e
   cases e
   obtain ⟨ts2,h2,h⟩:=zG h
   cases h
   rw [List.map_cons,(show v=_/\_ from hv).1,LV h2 hr]
  ·cases h
theorem NB (ho:SE X o fo) (he:SB X e f) (hbase:attributeBase o "join" X.env (eval o X.env)=eval o X.env:=by rfl) (hline:(apos.endLine == cpos.line)=true:=by rfl) (hs:yl e=true:=by rfl) :
  SE X (.Call (.Attribute o "join" apos) [e] [] cpos) (e2 VM fo f):=by
 obtain ⟨to,po,ko⟩:=ho.h
 obtain ⟨te,pe,ke⟩:=(xC he xF hs).h
 refine ⟨⟨_,(jv PySem.F.plainAttrs_str PySem.F.slot_str_join PySem.F.type_str_join C7 ⟨po⟩ ⟨pe⟩ hbase hline (by rw [List.all_cons,hs]; rfl) (by show 1<30; decide)).h,fun {G0 H0 G H τ σ d Q} E hf q=>?_⟩⟩
 obtain ⟨x,hx,hf⟩:=zG hf
 obtain ⟨y,hy,hf⟩:=zG hf
 refine ko E hx fun v G1 H1 x1 r1=>?_
 cases x with
 | str sep=>
  obtain ⟨rfl,l1⟩:=r1
  refine ⟨rfl,ke (E.go x1) (ds:=[y]) (by unfold zA; rw [hy]; rfl) fun ws G2 H2 x2 r2=>?_⟩
  obtain ⟨w,rfl,rw_⟩:=uc r2
  cases y with
  | lst xs=>
   obtain ⟨ts,hts,hf⟩:=zG hf
   obtain ⟨aa,vs,rfl,sq,rs,_⟩:=rw_
   have ev:=LV hts rs
   subst ev
   by_cases cc:(ts.map (·.length)).sum+ts.length*sep.length<=zy
   ·rw [if_pos cc] at hf
    cases hf
    have c':(ts.map (·.length)).sum+ts.length*sep.length<=sizeLine:=by rw [sizeLine_eq]; exact cc
    exact ⟨sep,aa,ts,rfl,rfl,sq,c',q _ _ _ (x1.trans x2) ⟨rfl,Nat.le_trans (JD sep ts) c'⟩⟩
   ·rw [if_neg cc] at hf
    cases hf
  | _=>cases hf
 | _=>cases hf
theorem Nv {i:Nat} {nm:Str} {id:String} {rm:V->List V->Hp->VK->Prop} {F:D->Option D} (slot:Slot "list" nm id) (hty:typeOf (.builtin id)=pure (.type "method_descriptor")) (hm:pD X id rm)
  (hF:∀ (G H:Hp) (ds:List D) (vs:List V) (a:Addr) (d':D) (Q:VK),H a=some (.lst vs)->Reps X.K G ds vs->ds.length<=sizeLine->F (.lst ds)=some d'->(∀ ws es,d'=.lst es->Reps X.K G es ws->es.length<=sizeLine->Q .non (zX H a (.lst ws)))->rm (.ref a) [] H Q)
  (hFl:∀ d d',F d=some d'->∃ ds es,d=.lst ds/\d'=.lst es) (ho:QE X (.Name x xp) (we i)) (hbase:attributeBase (.Name x xp) nm X.env (eval (.Name x xp) X.env)=eval (.Name x xp) X.env:=by rfl) (hline:(apos.endLine == cpos.line)=true:=by rfl) :
  SS X (.Expr (.Call (.Attribute (.Name x xp) nm apos) [] [] cpos) pos) (jy i F):=by
 refine ⟨⟨_,(Z8 (OU PySem.F.plainAttrs_list slot hty hm ho hbase hline) rfl).h,fun {G0 H0 G H τ σ fl E} K hf q=>?_⟩⟩
 unfold jy at hf
 split at hf
 ·rename_i d hd
  obtain ⟨d',hd',hf⟩:=zG hf
  cases hf
  obtain ⟨ds,es,rfl,rfl⟩:=hFl d d' hd'
  obtain ⟨a,ea,g,z,vs,ev,rs,l⟩:=K.ow _ _ hd
  refine ⟨_,ea,.inl ⟨rfl,vs,zw.of ev⟩,hF G H ds vs a _ _ ev rs l hd' fun ws es' e rw_ lw=>?_⟩
  cases e
  exact q _ _ _ (K.mut hd ea ⟨ws,yj,rw_,lw⟩)
 ·cases hf
def X7:D->Option D
 | .lst _=>some (.lst [])
 | _=>none
theorem F_ {F:List D->List D} {d d':D} (h:(match d with | .lst xs=>some (D.lst (F xs)) | _=>none)=some d'):∃ ds es,d=.lst ds/\d'=.lst es:=by
 cases d<;>first | (cases h; done) | skip
 cases h
 exact ⟨_,_,rfl,rfl⟩
theorem Nr {i:Nat} (ho:QE X (.Name x xp) (we i)) (hbase:attributeBase (.Name x xp) "clear" X.env (eval (.Name x xp) X.env)=eval (.Name x xp) X.env:=by rfl) (hline:(apos.endLine == cpos.line)=true:=by rfl):SS X (.Expr (.Call (.Attribute (.Name x xp) "clear" apos) [] [] cpos) pos) (jy i X7):=
 Nv PySem.F.slot_list_clear PySem.F.type_list_clear C5 (fun G H ds vs a d' Q ev rs l hf q=>by
  cases hf
  exact ⟨a,vs,rfl,rfl,ev,q [] [] rfl rfl (Nat.zero_le _)⟩) (fun d d' h=>F_ (F:=fun _=>[]) h) ho hbase hline
theorem V1:bootBuiltins "dict" = some (.type "dict"):=by decide +kernel
def ZD (i:Nat) (k v:FE):FS:=fun σ=>(v σ).bind fun y=>match σ[i]? with
 | some (some (true,.lst ds))=>(k σ).bind fun x=>match x with
  | .int j=>(ixN ds.length j).bind fun n=>some (.nx (σ.set i (some (true,.lst (ds.set n y)))))
  | _=>none
 | _=>none
theorem Reps.set {K:PySem.W.Frag} {G:Hp} {d:D} {v:V} (hv:zR K G d v):∀ {ds:List D} {vs:List V} (n:Nat),Reps K G ds vs->Reps K G (ds.set n d) (vs.set n v)
 | [],_,_,r=>by cases (show _=[] from r); rfl
 | d'::ds,_,0,r=>by
  obtain ⟨u,r',rfl,hu,hr⟩:=r
  exact ⟨v,r',rfl,hv,hr⟩
 | d'::ds,_,n+1,r=>by
  obtain ⟨u,r',rfl,hu,hr⟩:=r
  exact ⟨u,_,rfl,hu,Reps.set hv n hr⟩
theorem Nw {i:Nat} {k v:Expr} {fk fv:FE} {pos':Pos} (ho:QE X (.Name x xp) (we i)) (hk:SE X k fk) (hv:SE X v fv) (hp:pp k=true:=by rfl) (hs:swapsWithSole [.Subscript (.Name x xp) k pos'] v pos.line X.env=pure false:=by rfl)
  (hw:swappedStores [.Subscript (.Name x xp) k pos'] v X.env=pure none:=by rfl) (h1:(assignEach [.Subscript (.Name x xp) k pos'] X.env).map (·.2)=[assign (.Subscript (.Name x xp) k pos') X.env]:=by rfl):SS X (.Assign [.Subscript (.Name x xp) k pos'] v pos) (ZD i fk fv):=by
 obtain ⟨tk,pk,kk⟩:=hk.h
 obtain ⟨tv,pv,kv⟩:=hv.h
 refine ⟨⟨_,Go pv (HH ho ⟨pk⟩ NG hp).h hs hw h1,fun {G0 H0 G H τ σ fl E} K hf q=>?_⟩⟩
 obtain ⟨y,hy,hf⟩:=zG hf
 refine kv K hy fun w G1 H1 x1 r1=>?_
 split at hf
 ·rename_i ds hd
  obtain ⟨xk,hx,hf⟩:=zG hf
  cases xk with
  | int j=>
   obtain ⟨n,hn,hf⟩:=zG hf
   cases hf
   have K1:=K.go x1
   obtain ⟨aa,ea,g,z,vs,ev,rs,l⟩:=K1.ow _ _ hd
   refine ⟨_,ea,kk K1 hx fun u G2 H2 x2 r2=>?_⟩
   cases (show u=_ from r2)
   refine ⟨aa,vs,j,n,rfl,rfl,x2.h _ _ ev,by rw [rs.length]; exact hn,?_⟩
   exact q _ _ _ ((K1.go x2).mut hd ea ⟨_,yj,Reps.set (r1.mono x2.g) n (rs.mono x2.g),by rw [List.length_set]; exact l⟩)
  | _=>cases hf
 ·cases hf
def qp (j i:Nat):FS:=fun σ=>match σ[i]? with
 | some (some (true,.lst ds))=>(ds.getLast?).bind fun d=>if j=i then none else some (.nx ((σ.set i (some (true,.lst ds.dropLast))).set j (some (false,d))))
 | _=>none
theorem Reps.dropLast {K:PySem.W.Frag} {G:Hp} {ds:List D} {vs:List V} (r:Reps K G ds vs):Reps K G ds.dropLast vs.dropLast:=by
 rw [List.dropLast_eq_take,List.dropLast_eq_take,r.length]
 exact r.take _
end
end L3
namespace L2
open PySem PySem.Spec PyProof.Rows
def Wc (K:PySem.W.Frag) (a:Addr):It:=
  ⟨fun i H=>∃ xs x,zw K H a xs/\xs[i]?=some x,
   fun i H v H'=>∃ p,H p=none/\v=.ref p/\∀ xs,zw K H a xs->∃ x,xs[i]?=some x/\H'=zX H p (.tup [.int (i:Int),x]),
   fun i H=>∃ xs,zw K H a xs/\xs.length<=i⟩
theorem Po {P:Program} {w:World} {K:PySem.W.Frag} {elts:List Expr} {kk:Nat} {pos:Pos} (a e it:Addr) (hei:e≠it) :
  qO P w K (.Tuple elts kk pos) (Wc K a) [e,it] e (fun i h=>(∃ old,IsEnum h e it (i:Int) old)/\h.IsListIter it a i) where
 mem:=by simp
 obj:=fun i h st c hc=>by
  obtain ⟨⟨old,s1⟩,⟨o2,s2,_,d2⟩⟩:=st
  simp only [List.mem_cons,List.not_mem_nil,or_false] at hc
  rcases hc with rfl | rfl
  ·exact ⟨_,s1,fun v q=>nomatch q⟩
  ·exact ⟨_,s2,fun v q=>by rw [d2] at q; cases q⟩
 keep:=fun i h h' st k=>by
  obtain ⟨⟨old,s1⟩,s2⟩:=st
  exact ⟨⟨old,k e (by simp) _ s1⟩,s2.at fun o x=>k it (by simp) o x⟩
 item:=by
  intro X hP hw hK hc i pins s σ H E I hf st hg
  subst hP hw hK
  obtain ⟨⟨old,s1⟩,s2⟩:=st
  obtain ⟨xs,x,hx,ex⟩:=hg
  obtain ⟨us,ru,pu,_⟩:=I.list hx
  have pl:=pu.isList
  obtain ⟨xu,hxu,rxu⟩:=ru.get ex
  have hx':us.toArray[i]?=some xu:=by rw [List.getElem?_toArray]; exact hxu
  have lt1:e<s.heap.objs.size:=Heap.lt_size s1
  have lt2:it<s.heap.objs.size:=by obtain ⟨o,z,_⟩:=s2; exact Heap.lt_size z
  refine wpAny_pyNext_enum_item s1 s2 pl hx' hei fun h1 heo hit1 ht1 hz1 hk1=>?_
  refine ⟨_,rfl,wpAny_letOwnedTupleGo_enum (s:={ s with heap:=h1,toks:=s.toks+1 }) heo fun h2 he2 hs2=>?_⟩
  replace hs2:Heap.SameBut e h1 h2:=hs2
  have hTs:s.heap.get? s.heap.objs.size=none:=by
   cases q:s.heap.get? s.heap.objs.size with
   | none=>rfl
   | some o=>exact absurd (Heap.lt_size q) (Nat.lt_irrefl _)
  have hTf:H s.heap.objs.size=none:=I.hok.fresh (Nat.le_refl _)
  have tup:h2.get? s.heap.objs.size=some { cls:=.type "tuple",data:=.seq #[.int i s.toks,xu] }:=hs2.extBut _ _ (Nat.ne_of_gt lt1) ht1
  have kk:∀ c o,c ∉ [e,it]->s.heap.get? c=some o->h2.get? c=some o:=fun c o hc z=>by
   simp only [List.mem_cons,List.not_mem_nil,or_false,not_or] at hc
   exact hs2.extBut _ _ hc.1 (hk1 c o hc.1 hc.2 z)
  have new:yo X.prog X.w (zX H s.heap.objs.size (.tup [.int (i:Int),x])) h2 s.heap.objs.size (.tup [.int (i:Int),x]):=⟨(by show 2<=sizeLine; decide),[.int i s.toks,xu],.cons ⟨_,rfl⟩ (.cons rxu .nil),⟨_,tup,rfl,_,rfl⟩⟩
  refine ⟨.ref s.heap.objs.size,zX H s.heap.objs.size (.tup [.int (i:Int),x]),I.butNew (tk:=s.toks+1) hf kk hTs hTf new,rfl,⟨s.heap.objs.size,hTf,rfl,fun xs' hx'=>?_⟩,⟨⟨xu,?_⟩,hit1.at fun o z=>hs2.extBut _ _ hei.symm z⟩,fun c hc=>?_⟩
  ·rw [I.list_inj hx' hx]
   exact ⟨x,ex,rfl⟩
  ·rw [show ((i+1:Nat):Int)=(i:Int)+1 from rfl]
   exact he2
  ·rw [yT]
   ·exact (hf c hc).1
   ·intro q
    have hlt:c<s.heap.objs.size:=by
     simp only [List.mem_cons,List.not_mem_nil,or_false] at hc
     rcases hc with rfl | rfl
     ·exact lt1
     ·exact lt2
    rw [q] at hlt
    exact absurd hlt (Nat.lt_irrefl _)
 done:=by
  intro X hP hw hK hc i pins s σ H E I hf st hg
  subst hP hw hK
  obtain ⟨⟨old,s1⟩,s2⟩:=st
  obtain ⟨xs,hx,hend⟩:=hg
  obtain ⟨us,ru,pu,_⟩:=I.list hx
  have pl:=pu.isList
  have hx':us.toArray[i]?=none:=by
   rw [List.getElem?_toArray]
   exact List.getElem?_eq_none (by have:=ru.length; omega)
  refine wpAny_pyNext_enum_end (by exact I.ok.hd hc) s1 s2 pl hx' fun h1 he1=>?_
  refine ⟨rfl,I.but (tk:=s.toks) hf fun c ob hcc eb=>?_⟩
  simp only [List.mem_cons,List.not_mem_nil,or_false,not_or] at hcc
  exact he1 c ob hcc.2 eb
 self:=fun _ _ _ _ _ st h=>by
  obtain ⟨⟨old,s1⟩,_⟩:=st
  exact wpAny_pyIter_enum s1 h
section
variable {X:Cx}
def DV (K:PySem.W.Frag) (ta:TA):TI:=fun σ H R=>ta σ H fun vs H1=>∃ a xs,vs=[.ref a]/\zw K H1 a xs/\R (Wc K a) H1
theorem GT {a:Expr} {ta:TA} {p pos:Pos} {elts:List Expr} {kk:Nat} {tp:Pos} (hg:Gl X "enumerate") (hm:X.mg "enumerate" = none) (ha:PA X [a] ta) (hs:starEach [a] X.env=[(false,eval a X.env)]:=by rfl) :
  PI X (.Tuple elts kk tp) (.Call (.Name "enumerate" p) [a] [] pos) (DV X.K ta):=by
 intro pins s σ H R I h
 refine Call_ (jg I hg hm boot_enumerate (PyProof.Rows.callWith_type1 (zk (ha pos pins s σ H _ I h) fun us s1 ⟨vs,H1,I1,r1,q1⟩=>?_) (by rw [hs]; rfl) rfl))
 obtain ⟨l1,xs,rfl,hx,q⟩:=q1
 obtain ⟨u,rfl,ru⟩:=vU r1
 cases (show u=Value.ref l1 from ru)
 obtain ⟨us,_,pu,_⟩:=I1.list hx
 refine call_enumerate_list pu.isList fun h' a1 a2 hz kp=>?_
 have I2:Inv X pins σ H1 { s1 with heap:=h' }:=I1.kept (t':=s1.toks) kp
 refine wpAny_pyIter_enum (s:={ s1 with heap:=h' }) a1 ?_
 generalize hn:s1.heap.objs.size=n at a1 a2 hz
 refine ⟨n+1,[n+1,n],_,_,H1,rfl,I2,Po l1 (n+1) n (yQ (by omega)),⟨⟨_,a1⟩,a2⟩,fun c hc=>?_,q⟩
 have hle:s1.heap.objs.size<=c:=by
  rw [hn]
  simp only [List.mem_cons,List.not_mem_nil,or_false] at hc
  rcases hc with rfl | rfl
  ·exact Nat.le_add_right _ _
  ·exact Nat.le_refl _
 exact I1.fpOk hle (I1.hok.fresh hle)
end
end L2
namespace L3
open PySem PySem.Spec PyProof.Rows L2
def vz (xs:List D):List D:=List.zipWith (fun (i:Nat) x=>D.tup [.int (i:Int),x]) (List.range xs.length) xs
def vP (a:FE):FA:=fun σ=>(a σ).bind fun d=>match d with
 | .lst xs=>some (vz xs)
 | _=>none
theorem tu (xs:List D):(vz xs).length=xs.length:=by simp [vz]
theorem pd (xs:List D) (i:Nat):(vz xs)[i]?=(xs[i]?).map fun x=>D.tup [.int (i:Int),x]:=by
 unfold vz
 rw [List.getElem?_zipWith]
 by_cases h:i<xs.length
 ·rw [List.getElem?_range h,List.getElem?_eq_getElem h]; rfl
 ·rw [List.getElem?_eq_none (by simpa using h),List.getElem?_eq_none (by omega)]; rfl
section
variable {K:PySem.W.Frag} {G H:Hp}
theorem BL {a:Addr} {vs:List V} {xs:List D} (s1:zw K G a vs) (r1:Reps K G xs vs):tU K (Wc K a) G (vz xs) where
 go:=fun i G2 H g1 g2 hi=>by
  rw [tu] at hi
  obtain ⟨v,e1,_⟩:=r1.get (List.getElem?_eq_getElem hi)
  exact ⟨vs,v,wB (g1.trans g2) s1,e1⟩
 yld:=fun i G2 H x H' g1 g2 hi y=>by
  obtain ⟨p,hp,rfl,k⟩:=y
  obtain ⟨v,e1,rfl⟩:=k vs (wB (g1.trans g2) s1)
  obtain ⟨d1,f1,q1⟩:=r1.at e1
  refine ⟨zX G2 p (.tup [.int (i:Int),v]),.tup [.int (i:Int),d1],zN.lay g2 hp,by rw [pd,f1]; rfl,?_⟩
  have sm:zl G (zX G2 p (.tup [.int (i:Int),v])):=g1.trans (wA (g2.free hp) _)
  exact ⟨p,[.int (i:Int),v],rfl,ye.of yj,⟨_,_,rfl,rfl,⟨v,_,rfl,q1.mono sm,rfl⟩⟩,small (n:=2) (by decide)⟩
 stop:=fun i G2 H g1 g2 hi=>by
  rw [tu] at hi
  exact ⟨vs,wB (g1.trans g2) s1,by rw [r1.length]; exact hi⟩
end
theorem gC {X:Cx} {a:Expr} {fa:FE} {p pos:Pos} {elts:List Expr} {kk:Nat} {tp:Pos} (hg:Gl X "enumerate") (hm:X.mg "enumerate" = none) (ha:SE X a fa) (hs:yl a=true:=by rfl):SI X (.Tuple elts kk tp) (.Call (.Name "enumerate" p) [a] [] pos) (vP fa):=by
 obtain ⟨t,pt,k⟩:=(zC ha zH hs).h
 refine ⟨⟨_,GT hg hm pt (uA hs),fun {G0 H0 G H τ σ ds R} K hf q=>?_⟩⟩
 obtain ⟨x,hx,hf⟩:=zG hf
 cases x<;>first | (cases hf; done) | skip
 cases hf
 rename_i xs
 refine k K (ds:=[.lst xs]) (by unfold zA; rw [hx]; rfl) fun vs G1 H1 x1 r1=>?_
 obtain ⟨v,r,rfl,hv,hr⟩:=r1
 cases (show r=[] from hr)
 obtain ⟨aa,vs1,rfl,s1,q1,l1⟩:=hv
 exact ⟨aa,vs1,rfl,wB x1.gh s1,q _ _ _ x1 (by rw [tu]; exact l1) (BL s1 q1)⟩
end L3
namespace L2
open PySem PySem.Spec PyProof PyProof.Rows
def insI (a:Int):List Int->List Int
 | []=>[a]
 | b::r=>if a<=b then a::b::r else b::insI a r
def isort:List Int->List Int
 | []=>[]
 | a::r=>insI a (isort r)
theorem Vh (a:Int):∀ l:List Int,(insI a l).Perm (a::l)
 | []=>List.Perm.refl _
 | b::r=>by
  unfold insI
  split
  ·exact List.Perm.refl _
  ·exact ((Vh a r).cons b).trans (List.Perm.swap a b r)
theorem isort_perm:∀ l:List Int,(isort l).Perm l
 | []=>List.Perm.refl _
 | a::r=>(Vh a _).trans ((isort_perm r).cons a)
theorem JN (a:Int):∀ {l:List Int},l.Pairwise (·<=·)->(insI a l).Pairwise (·<=·)
 | [],_=>by simp [insI]
 | b::r,h=>by
  obtain ⟨h1,h2⟩:=List.pairwise_cons.mp h
  unfold insI
  split
  ·rename_i hab
   exact List.pairwise_cons.mpr ⟨fun x hx=>by
    rcases List.mem_cons.mp hx with rfl | hx
    ·exact hab
    ·exact Int.le_trans hab (h1 x hx),h⟩
  ·rename_i hab
   refine List.pairwise_cons.mpr ⟨fun x hx=>?_,JN a h2⟩
   rcases List.mem_cons.mp ((Vh a r).mem_iff.mp hx) with rfl | hx
   ·omega
   ·exact h1 x hx
theorem isort_sorted:∀ l:List Int,(isort l).Pairwise (·<=·)
 | []=>List.Pairwise.nil
 | a::r=>JN a (isort_sorted r)
theorem Uw:∀ {a b:List Int},a.Perm b->a.Pairwise (·<=·)->b.Pairwise (·<=·)->a=b
 | [],b,p,_,_=>(List.nil_perm.mp p).symm
 | x::a,[],p,_,_=>by cases p.length_eq
 | x::a,y::b,p,ha,hb=>by
  obtain ⟨h1,h2⟩:=List.pairwise_cons.mp ha
  obtain ⟨g1,g2⟩:=List.pairwise_cons.mp hb
  have e:x=y:=by
   have hx:x∈y::b:=p.mem_iff.mp (List.mem_cons_self ..)
   have hy:y∈x::a:=p.mem_iff.mpr (List.mem_cons_self ..)
   rcases List.mem_cons.mp hx with rfl | hx
   ·rfl
   ·rcases List.mem_cons.mp hy with e | hy
    ·exact e.symm
    ·exact Int.le_antisymm (h1 y hy) (g1 x hx)
  subst e
  rw [Uw (List.perm_cons x |>.mp p) h2 g2]
theorem Vj:∀ {ns:List Int} {its:List Value},IntsAre its ns->zY (ns.map V.int) its
 | [],_,.nil=>.nil
 | _::_,_,.cons _ _ r=>.cons ⟨_,rfl⟩ (Vj r)
section
variable {X:Cx}
end
end L2
namespace L3
open PySem PySem.Spec PyProof.Rows L2
theorem QZ:bootBuiltins "sorted" = some (.builtin "sorted"):=by decide +kernel
def intsOf:List D->Option (List Int)
 | []=>some []
 | .int i::r=>(intsOf r).bind fun ns=>some (i::ns)
 | _=>none
theorem JR:∀ ns:List Int,intsOf (ns.map D.int)=some ns
 | []=>rfl
 | n::ns=>by
  show (intsOf (ns.map D.int)).bind _=_
  rw [JR ns]
  rfl
theorem JQ:∀ {ds:List D} {ns:List Int},intsOf ds=some ns->ds=ns.map D.int
 | [],_,h=>by cases h; rfl
 | d::ds,ns,h=>by
  unfold intsOf at h
  split at h
  ·rename_i e; cases e
  ·rename_i i r e
   cases e
   obtain ⟨ns',h1,h⟩:=zG h
   cases h
   rw [JQ h1]
   rfl
  ·cases h
theorem Ou {K:PySem.W.Frag} {G:Hp}:∀ {ns:List Int} {vs:List V},Reps K G (ns.map D.int) vs->vs=ns.map V.int
 | [],_,r=>r
 | n::ns,_,r=>by
  obtain ⟨v,r',rfl,hv,hr⟩:=r
  rw [Ou hr,show v=V.int n from hv]
  rfl
theorem JO {K:PySem.W.Frag} {G:Hp}:∀ ns:List Int,Reps K G (ns.map D.int) (ns.map V.int)
 | []=>rfl
 | n::ns=>⟨.int n,_,rfl,rfl,JO ns⟩
end L3
namespace L2
open PySem PySem.Spec PyProof.Rows
section
variable {X:Cx}
end
end L2
namespace L3
open PySem PySem.Spec PyProof.Rows L2
section
variable {X:Cx} {e o a b c:Expr} {f fo fa fb fc:FE} {x:Str} {xp p pos apos cpos:Pos}
end
end L3
namespace L3
open PySem PySem.Spec PyProof.Rows L2
def kB:D->D->Option D
 | .lst x,.lst y=>if x.length+y.length<=zy then some (.lst (x++y)) else none
 | _,_=>none
theorem BQ {x y d:D} (h:kB x y=some d):∃ xs ys,x=.lst xs/\y=.lst ys/\xs.length+ys.length<=zy/\d=.lst (xs++ys):=by
 unfold kB at h
 split at h
 ·rename_i xs ys
  by_cases c:xs.length+ys.length<=zy
  ·rw [if_pos c] at h
   cases h
   exact ⟨_,_,rfl,rfl,c,rfl⟩
  ·rw [if_neg c] at h
   cases h
 ·cases h
section
variable {X:Cx} {a b:Expr} {fa fb:FE} {x:Str} {xp pos:Pos}
theorem NJ (ha:SE X a fa) (hb:SE X b fb):SF X (.BinOp a .Add b pos) (e2 kB fa fb):=by
 obtain ⟨ta,pa,ka⟩:=ha.h
 obtain ⟨tb,pb,kb⟩:=hb.h
 refine ⟨⟨_,UI Ix pa pb,fun {G0 H0 G H τ σ d Q} E hf q=>?_⟩⟩
 obtain ⟨x,hx,hf⟩:=zG hf
 obtain ⟨y,hy,hf⟩:=zG hf
 refine ka E hx fun v G1 H1 x1 r1=>?_
 refine kb (E.go x1) hy fun u G2 H2 x2 r2=>?_
 obtain ⟨xs,ys,rfl,rfl,c,rfl⟩:=BQ hf
 obtain ⟨aa,vs,rfl,sa,ra,_⟩:=r1
 obtain ⟨bb,us,rfl,sb,rb,_⟩:=r2
 ·have c':(xs++ys).length<=sizeLine:=by rw [sizeLine_eq,List.length_append]; exact c
  have x12:=x1.trans x2
  refine ⟨aa,bb,vs,us,rfl,rfl,wB (x2.g.trans x2.gh) sa,wB x2.gh sb,by rw [ra.length,rb.length,sizeLine_eq]; exact c,fun p hp=>?_⟩
  exact q p _ _ (x12.trans (zN.layO x12.gh hp)) (x12.h.free hp) (x12.gh.free hp) ⟨_,yj,(ra.mono x2.g).append rb,c'⟩
end
end L3
namespace L3
open PySem PySem.Spec PyProof.Rows L2
section
variable {X:Cx} {e:Expr} {es:List Expr} {fs:FA} {x:Str} {ps:List Str} {k j:Nat} {FF:List D->Option (Bool×D)} {p pos:Pos}
end
end L3
namespace L3
open PySem PySem.Spec PyProof.Rows L2
section
variable {X:Cx} {e:Expr} {es:List Expr} {fs:FA} {x y:Str} {ps:List Str} {k j:Nat} {FF:List D->Option (Bool×D)} {p pos pos' cpos:Pos}
end
end L3
namespace L3
open PySem PySem.Spec PyProof.Rows L2
section
variable {X:Cx} {x:Str} {xp pos apos cpos:Pos}
end
end L3
namespace L3
open PySem PySem.Spec PyProof.Rows L2
def uz:Option Sl->Option Sl
 | some (_,d)=>some (false,d)
 | none=>none
def VU (τ:zb):zb:=τ.map uz
def TB:Nat->D->Bool
 | 0,_=>false
 | n+1,.tup xs=>xs.all (TB n)
 | _+1,d=>yf d
def q_ (d:D):Bool:=TB 6 d
def ux (f:FE):FE:=fun τ=>(f (VU τ)).bind fun d=>match d with
 | .lst xs=>if xs.all q_=true then some (.lst xs) else none
 | _=>none
def qC (f:FT):FT:=fun τ=>f (VU τ)
theorem Pk (τ:zb) (k:Nat) (h:k<τ.length):(((τ.take k).map uz)++τ.drop k).set k (uz τ[k])=((τ.take (k+1)).map uz)++τ.drop (k+1):=by
 have e:τ.drop k=τ[k]::τ.drop (k+1):=List.drop_eq_getElem_cons h
 have l:((τ.take k).map uz).length=k:=by rw [List.length_map,List.length_take]; omega
 rw [e,List.set_append_right _ _ (by omega),l,Nat.sub_self,List.set_cons_zero,List.take_succ_eq_append_getElem h,List.map_append,List.append_assoc]
 rfl
section
variable {K:PySem.W.Frag} {n:Nat} {G0 H0 G H G' H':Hp} {τ:zb} {σ:St}
def uq (G G':Hp):Prop:=∀ p,G p=none->G' p≠none->∃ u,G' p=some u/\(∀ xs,u≠.tup xs)/\∀ o v,u≠.frz o v
theorem Eu {d:D} {p:Addr} (o:v6 K G H d p):∃ u,H p=some u/\(∀ xs,u≠.tup xs)/\∀ o v,u≠.frz o v:=by
 cases d with
 | lst ds=>obtain ⟨vs,e,_⟩:=o; exact ⟨_,e,(fun xs z=>by cases z),(fun o v z=>by cases z)⟩
 | dic ks ds=>obtain ⟨vs,e,_⟩:=o; exact ⟨_,e,(fun xs z=>by cases z),(fun o v z=>by cases z)⟩
 | _=>exact o.elim
theorem zZ.freezeL {i:Nat} {b:Bool} {d:D} (E:zZ K n G0 H0 G H τ σ) (hi:τ[i]?=some (some (b,d))):∃ G',zZ K n G0 H0 G' H (τ.set i (some (false,d))) σ/\zl G G'/\uq G G':=by
 cases b with
 | false=>
  refine ⟨G,?_,zl.refl _,fun p h1 h2=>absurd h1 h2⟩
  have e:τ.set i (some (false,d))=τ:=by
   apply List.ext_getElem?
   intro j
   by_cases hj:j=i
   ·subst hj; rw [t4 (by rw [E.l2]; exact E.lt hi),hi]
   ·rw [xz hj]
  rw [e]
  exact E
 | true=>
  have hin:=E.lt hi
  obtain ⟨p,e,g,z,o⟩:=E.ow i d hi
  obtain ⟨u',hu',nt⟩:=Eu o
  obtain ⟨u,hu,r⟩:=o.frz g
  have eu:u=u':=by rw [hu] at hu'; cases hu'; rfl
  subst eu
  have x:zN G0 H0 (zX G p u) H:=E.ext.frz z g hu
  refine ⟨zX G p u,⟨x,E.l1,by rw [List.length_set]; exact E.l2,fun j d' h=>?_,fun j d' h=>?_,fun j k e1 f q hne h1 h2=>?_⟩,wA g _,fun q h1 h2=>?_⟩
  ·rcases xc h with ⟨rfl,w⟩ | ⟨ne,w⟩
   ·cases w
    exact ⟨_,e,r⟩
   ·obtain ⟨v,e',r'⟩:=E.fr j d' w
    exact ⟨v,e',r'.mono (wA g _)⟩
  ·rcases xc h with ⟨rfl,w⟩ | ⟨ne,w⟩
   ·cases w
   ·obtain ⟨q,e',g',z',o'⟩:=E.ow j d' w
    refine ⟨q,e',?_,z',o'.mono (wA g _) (zl.refl _)⟩
    rw [yT (fun c=>?_)]
    ·exact g'
    ·subst c
     exact E.ap i j d d' q (fun c=>ne c.symm) hi w e e'
  ·rcases xc h1 with ⟨rfl,w⟩ | ⟨ne,w⟩
   ·cases w
   ·rcases xc h2 with ⟨rfl,w'⟩ | ⟨ne',w'⟩
    ·cases w'
    ·exact E.ap j k e1 f q hne w w'
  ·rcases TF h2 with c | c
   ·subst c
    exact ⟨u,yj,nt⟩
   ·exact absurd h1 c
theorem uq.trans {G1 G2:Hp} (s2:zl G1 G2) (a:uq G G1) (b:uq G1 G2):uq G G2:=fun p h1 h2=>by
 cases e:G1 p with
 | none=>exact b p e h2
 | some u=>
  obtain ⟨u',hu,nt⟩:=a p h1 (by rw [e]; exact fun z=>nomatch z)
  exact ⟨u',s2 _ _ hu,nt⟩
theorem zZ.freezeK (E:zZ K n G0 H0 G H τ σ):∀ k,k<=n->∃ G',zZ K n G0 H0 G' H (((τ.take k).map uz)++τ.drop k) σ/\zl G G'/\uq G G'
 | 0,_=>⟨G,by rw [List.take_zero]; exact E,zl.refl _,fun p h1 h2=>absurd h1 h2⟩
 | k+1,hk=>by
  obtain ⟨G1,E1,s1,l1⟩:=zZ.freezeK E k (by omega)
  have hkl:k<τ.length:=by rw [E.l2]; omega
  have e:=Pk τ k hkl
  have gk:(((τ.take k).map uz)++τ.drop k)[k]?=some τ[k]:=by
   rw [List.getElem?_append_right (by rw [List.length_map,List.length_take]; omega),List.length_map,List.length_take,Nat.min_eq_left (by omega),Nat.sub_self,List.getElem?_drop,Nat.add_zero,List.getElem?_eq_getElem hkl]
  cases t:τ[k] with
  | none=>
   refine ⟨G1,?_,s1,l1⟩
   rw [<- e,t]
   have e2:(((τ.take k).map uz)++τ.drop k).set k (uz none)=((τ.take k).map uz)++τ.drop k:=by
    apply List.ext_getElem?
    intro j
    by_cases hj:j=k
    ·subst hj; rw [t4 (by rw [E1.l2]; omega),gk,t]; rfl
    ·rw [xz hj]
   rw [e2]
   exact E1
  | some s=>
   obtain ⟨b,d⟩:=s
   rw [t] at gk
   obtain ⟨G2,E2,s2,l2⟩:=E1.freezeL gk
   refine ⟨G2,?_,s1.trans s2,l1.trans s2 l2⟩
   rw [<- e,t]
   exact E2
theorem zZ.freezeA (E:zZ K n G0 H0 G H τ σ):∃ G',zZ K n G0 H0 G' H (VU τ) σ/\zl G G'/\uq G G':=by
 obtain ⟨G',E',s,l⟩:=E.freezeK n (Nat.le_refl _)
 refine ⟨G',?_,s,l⟩
 have e:τ.take n=τ:=by rw [<- E.l2]; exact List.take_length
 have e2:τ.drop n=[]:=by rw [<- E.l2]; exact List.drop_length
 rw [e,e2,List.append_nil] at E'
 exact E'
def back (G G' G1:Hp):Hp:=fun p=>if G p=none/\G' p≠none then none else G1 p
theorem zN.back {G1 H1:Hp} (s:zl G G') (sh:zl G' H) (x:zN G' H G1 H1):zN G H (back G G' G1) H1:=by
 refine ⟨fun b u e=>?_,x.h,fun b u e=>?_,fun p h=>?_⟩
 ·show (if G b=none/\G' b≠none then none else G1 b)=some u
  rw [if_neg (fun c=>by rw [c.1] at e; cases e)]
  exact x.g _ _ (s _ _ e)
 ·by_cases c:G b=none/\G' b≠none
  ·have e':(if G b=none/\G' b≠none then none else G1 b)=some u:=e
   rw [if_pos c] at e'
   cases e'
  ·have e':(if G b=none/\G' b≠none then none else G1 b)=some u:=e
   rw [if_neg c] at e'
   exact x.gh _ _ e'
 ·by_cases c:G p=none/\G' p≠none
  ·have e':(if G p=none/\G' p≠none then none else G1 p)≠none:=h
   rw [if_pos c] at e'
   exact absurd rfl e'
  ·have e':(if G p=none/\G' p≠none then none else G1 p)≠none:=h
   rw [if_neg c] at e'
   rcases x.new p e' with z | z
   ·by_cases g:G p=none
    ·exact absurd ⟨g,z⟩ c
    ·exact .inl g
   ·exact .inr z
theorem MN {G1:Hp} {p:Addr} (h:G1 p=none):back G G' G1 p=none:=by
 show (if G p=none/\G' p≠none then none else G1 p)=none
 split
 ·rfl
 ·exact h
theorem Hj {G1:Hp} (s:zl G' G1) (l:uq G G') {a:Addr} {xs:List V} (h:Rd G1 a (.tup xs)):Rd (back G G' G1) a (.tup xs):=by
 by_cases c:G a=none/\G' a≠none
 ·obtain ⟨u,hu,nt⟩:=l a c.1 c.2
  have:=s _ _ hu
  rcases h with h | ⟨o,h⟩
  ·rw [this] at h; cases h; exact absurd rfl (nt.1 xs)
  ·rw [this] at h; cases h; exact absurd rfl (nt.2 o _)
 ·have e:back G G' G1 a=G1 a:=if_neg c
  rcases h with h | ⟨o,h⟩
  ·exact .inl (e.trans h)
  ·exact .inr ⟨o,e.trans h⟩
theorem Os {G1:Hp} (s:zl G' G1) (l:uq G G'):∀ (m:Nat) {d:D} {v:V},TB m d=true->zR K G1 d v->zR K (back G G' G1) d v
 | 0,_,_,h,_=>by cases h
 | m+1,d,v,h,r=>by
  cases d with
  | tup xs=>
   obtain ⟨a,vs,e,q,rs,z⟩:=r
   refine ⟨a,vs,e,?_,Reps.imp (fun d hd v r=>Os s l m (List.all_eq_true.mp h d hd) r) rs,z⟩
   rcases q with q | q
   ·exact .inl (Hj s l q)
   ·exact .inr q
  | lst xs=>cases h
  | dic ks xs=>cases h
  | _=>exact r
theorem Hm {G1:Hp} (s:zl G' G1) (l:uq G G') {xs:List D} {vs:List V} (h:xs.all q_=true) (r:Reps K G1 xs vs):Reps K (back G G' G1) xs vs:=
 Reps.imp (fun d hd v r=>Os s l 6 (List.all_eq_true.mp h d hd) r) r
end
section
variable {X:Cx} {e:Expr} {f:FE} {ft:FT}
theorem LN (h:ST X e ft):ST X e (qC ft):=by
 obtain ⟨t,p,k⟩:=h.h
 refine ⟨⟨t,p,fun {G0 H0 G H τ σ d Q} E hf q=>?_⟩⟩
 obtain ⟨G',E',s,l⟩:=E.freezeA
 exact k E' hf fun G1 H1 x1=>q _ _ (zN.back s E'.ext.gh x1)
theorem Ut (h:SF X e f):SF X e (ux f):=by
 obtain ⟨t,p,k⟩:=h.h
 refine ⟨⟨t,p,fun {G0 H0 G H τ σ d Q} E hf q=>?_⟩⟩
 obtain ⟨d',hd,hf⟩:=zG hf
 cases d' with
 | lst xs=>
  have hf:(if xs.all q_=true then some (D.lst xs) else none)=some d:=hf
  by_cases c:xs.all q_=true
  ·rw [if_pos c] at hf
   cases hf
   obtain ⟨G',E',s,l⟩:=E.freezeA
   refine k E' hd fun p G1 H1 x1 hp gp o=>?_
   obtain ⟨vs,ev,rs,z⟩:=o
   exact q p _ _ (zN.back s E'.ext.gh x1) hp (MN gp) ⟨vs,ev,Hm x1.g l c rs,z⟩
  ·rw [if_neg c] at hf
   cases hf
 | _=>cases hf
end
def xZ (i:Nat) (e:FE):FS:=fun σ=>match σ[i]? with
 | some (some (true,.lst xs))=>(e σ).bind fun y=>match y with
  | .lst ys=>if xs.length+ys.length<=zy then some (.nx (σ.set i (some (true,.lst (xs++ys))))) else none
  | _=>none
 | _=>none
def kD:D->D->Option D
 | .lst x,.int k=>if 0<=k/\k<=1000000/\x.length*k.toNat<=zy then some (.lst (List.replicate k.toNat x).flatten) else none
 | _,_=>none
theorem BV {x y d:D} (h:kD x y=some d):∃ xs k,x=.lst xs/\y=.int k/\(0<=k/\k<=1000000/\xs.length*k.toNat<=zy)/\d=.lst (List.replicate k.toNat xs).flatten:=by
 unfold kD at h
 split at h
 ·rename_i xs k
  by_cases c:0<=k/\k<=1000000/\xs.length*k.toNat<=zy
  ·rw [if_pos c] at h
   cases h
   exact ⟨_,_,rfl,rfl,c,rfl⟩
  ·rw [if_neg c] at h
   cases h
 ·cases h
theorem Reps.rep {K:PySem.W.Frag} {G:Hp} {ds:List D} {vs:List V} (r:Reps K G ds vs):∀ k:Nat,Reps K G (List.replicate k ds).flatten (List.replicate k vs).flatten
 | 0=>rfl
 | k+1=>by
  rw [List.replicate_succ,List.flatten_cons,List.replicate_succ,List.flatten_cons]
  exact r.append (Reps.rep r k)
section
variable {X:Cx} {a b:Expr} {f fa fb:FE} {x:Str} {xp pos apos cpos:Pos} {e:Expr}
theorem NL (ha:SF X a fa) (hb:SE X b fb):SF X (.BinOp a .Mult b pos) (e2 kD fa fb):=by
 obtain ⟨ta,pa,ka⟩:=ha.h
 obtain ⟨tb,pb,kb⟩:=hb.h
 refine ⟨⟨_,UI Eo pa pb,fun {G0 H0 G H τ σ d Q} E hf q=>?_⟩⟩
 obtain ⟨x,hx,hf⟩:=zG hf
 obtain ⟨y,hy,hf⟩:=zG hf
 refine ka E hx fun p G1 H1 x1 hp gp o=>?_
 refine kb (E.go x1) hy fun u G2 H2 x2 r2=>?_
 obtain ⟨xs,k,rfl,rfl,c,rfl⟩:=BV hf
 obtain ⟨vs,ev,rv,_⟩:=o
 cases (show u=.int k from r2)
 have x12:=x1.trans x2
 refine ⟨p,k,vs,rfl,rfl,x2.h _ _ ev,by omega,by omega,by rw [rv.length,sizeLine_eq]; exact c.2.2,fun p' hp'=>?_⟩
 refine q p' _ _ (x12.trans (zN.layO x12.gh hp')) (x12.h.free hp') (x12.gh.free hp') ⟨_,yj,Reps.rep (rv.mono x2.g) _,?_⟩
 rw [sizeLine_eq,IH,Nat.mul_comm]; exact c.2.2
end
end L3
namespace L3
open PySem PySem.Spec PyProof.Rows L2
section
variable {X:Cx} {js:List Nat} {e c:Expr} {f:FE} {ft:FT} {g g':FS} {sts sa:List Stmt} {pos xp apos cpos:Pos} {x:Str}
end
def vy (τ:zb):Bool:=τ.all fun s=>match s with
 | some (true,_)=>false
 | _=>true
section
variable {X:Cx} {js:List Nat} {e0 e1:Expr} {f0 f1:FE} {fm fr:FS} {mid yX:List Stmt} {p1 p2 p3 xp cp sp apos cpos pos:Pos} {x:Str} {kd:Nat}
end
end L3
namespace L2
open PySem PySem.Spec PyProof PyProof.Rows
section
variable {X:Cx}
theorem Ej:yE X (compareOp .IsNot) (fun x y H Q=>∃ a b,x=.bl a/\y=.bl b/\Q (.bl (!(a == b))) H):=by
 intro pins s σ H x y v u Q I rx ry h
 obtain ⟨a,b,rfl,rfl,q⟩:=h
 cases rx
 cases ry
 refine PySem.wpAny_isNot_plain (by cases a<;>cases b<;>rfl) ⟨.bl (!(a == b)),H,I,?_,q⟩
 cases a<;>cases b<;>rfl
def Vk:V->Bool
 | .str _=>true
 | _=>false
def ZA (K:PySem.W.Frag):R2:=fun x y H Q=>∃ p xs r ys,x=.ref r/\(zw K H r ys\/ye K H r ys)/\y=.ref p/\ye K H p xs/\xs.all Vk=true/\Q (.bl false) H
theorem LT {A:Around} {s:Shared} {r:Addr} (hr:(∃ its,s.heap.IsList r its)\/∃ its,s.heap.IsTuple r its) (hu:A.units<cLine):∀ {xs:List V} {us:List Value},zY xs us->xs.all Vk=true->∀ u∈us,SeqAt.EqAt A s u (.ref r) false
 | _,_,.nil,_=>fun u hu=>by cases hu
 | y::xs,u::us,.cons h t,f=>fun u' hu'=>by
  rw [List.all_cons,Bool.and_eq_true] at f
  rcases List.mem_cons.mp hu' with rfl | hu'
  ·cases y with
   | str z=>
    obtain ⟨tk,rfl⟩:=h
    rcases hr with ⟨its,hl⟩ | ⟨its,hl⟩
    ·exact SeqAt.EqAt.str_list z tk hl hu
    ·exact SeqAt.EqAt.str_tuple z tk hl hu
   | _=>exact absurd f.1 Bool.false_ne_true
  ·exact LT hr hu t f.2 u' hu'
theorem Ec (hu:X.A.units+1<cLine):yE X (compareOp .In) (ZA X.K):=by
 intro pins s σ H x y v u Q I rx ry h
 obtain ⟨p,xs,r,ys,rfl,hq,rfl,hp,fs,q⟩:=h
 cases rx
 cases ry
 obtain ⟨its,rr,pl,hz⟩:=I.tuple hp
 have hr:(∃ its,s.heap.IsList r its)\/∃ its,s.heap.IsTuple r its:=by
  rcases hq with hq | hq
  ·obtain ⟨its2,_,pl2,_⟩:=I.list hq
   exact .inl ⟨_,pl2.isList⟩
  ·obtain ⟨its2,_,pl2,_⟩:=I.tuple hq
   exact .inr ⟨_,pl2⟩
 refine SeqAt.in_tupleAt (fun _=>false) pl (fun w hw=>LT hr hu rr fs w (by simpa using hw)) ⟨.bl _,H,I,rfl,?_⟩
 rw [show (its.toArray.any fun _=>false)=false by simp]
 exact q
end
end L2
namespace L3
open PySem PySem.Spec PyProof.Rows L2
def YA (ys:List D):Bool:=ys.all fun y=>match y with
 | .str _=>true
 | _=>false
def Vg:D->Option D
 | .tup ys=>if YA ys=true then some (.bl false) else none
 | _=>none
def VL (x y:D):Option D:=match x with
 | .lst _=>Vg y
 | .tup _=>Vg y
 | x=>yJ x y
section
variable {X:Cx} {K:PySem.W.Frag}
def jV:D->D->Option D
 | .bl a,.bl b=>some (.bl (!(a == b)))
 | _,_=>none
theorem EF:uG K (fun x y H Q=>∃ a b,x=.bl a/\y=.bl b/\Q (.bl (!(a == b))) H) jV:=fun H x y u v d Q rx ry hf=>by
 unfold jV at hf
 split at hf
 ·rename_i a b
  cases hf
  exact ⟨_,rfl,fun q=>⟨a,b,rx,ry,q⟩⟩
 ·cases hf
theorem Ow {H:Hp}:∀ {ys:List D} {vs:List V},Reps K H ys vs->YA ys=true->vs.all Vk=true
 | [],_,r,_=>by cases (show _=[] from r); rfl
 | y::ys,_,r,h=>by
  obtain ⟨v,r',rfl,hv,hr⟩:=r
  unfold YA at h
  rw [List.all_cons,Bool.and_eq_true] at h
  rw [List.all_cons,Ow hr h.2,Bool.and_true]
  cases y with
  | str z=>rw [(show v=.str z/\_ from hv).1]; rfl
  | _=>exact absurd h.1 Bool.false_ne_true
theorem Eb (hu:X.A.units+1<cLine):yE X (compareOp .In) (fun x y H Q=>t_ X.K false x y H Q\/ZA X.K x y H Q):=(wv hu).or (Ec hu)
theorem Cj:uG K (fun x y H Q=>t_ K false x y H Q\/ZA K x y H Q) VL:=fun H x y u v d Q rx ry hf=>by
 have ref:∀ (r:Addr) (ys:List V),u=.ref r->(zw K H r ys\/ye K H r ys)->Vg y=some d->∃ k,d=.bl k/\(Q (.bl k) H->(t_ K false u v H Q\/ZA K u v H Q)):=fun r ys hu hq hf=>by
  cases y with
  | tup zs=>
   have hf:(if YA zs=true then some (D.bl false) else none)=some d:=hf
   by_cases c:YA zs=true
   ·rw [if_pos c] at hf
    cases hf
    obtain ⟨b,vs,rfl,sb,rb,_⟩:=ry
    exact ⟨false,rfl,fun q=>.inr ⟨b,vs,r,ys,hu,hq,rfl,sb,Ow rb c,q⟩⟩
   ·rw [if_neg c] at hf
    cases hf
  | _=>cases hf
 have old:yJ x y=some d->∃ k,d=.bl k/\(Q (.bl k) H->(t_ K false u v H Q\/ZA K u v H Q)):=fun hf=>by
  obtain ⟨k,e,z⟩:=wt H x y u v d Q rx ry hf
  exact ⟨k,e,fun q=>.inl (z q)⟩
 cases x with
 | lst xs=>
  obtain ⟨a,vs,ea,sa,_,_⟩:=rx
  exact ref a vs ea (.inl sa) hf
 | tup xs=>
  obtain ⟨a,vs,ea,sa,_,_⟩:=rx
  exact ref a vs ea (.inr sa) hf
 | _=>exact old hf
end
def uV:List D->Option (List Bool)
 | []=>some []
 | .bl b::r=>(uV r).bind fun bs=>some (b::bs)
 | _=>none
theorem QV:∀ bs:List Bool,uV (bs.map D.bl)=some bs
 | []=>rfl
 | b::bs=>by
  show (uV (bs.map D.bl)).bind _=_
  rw [QV bs]
  rfl
theorem QU:∀ {ds:List D} {bs:List Bool},uV ds=some bs->ds=bs.map D.bl
 | [],_,h=>by cases h; rfl
 | d::ds,bs,h=>by
  unfold uV at h
  split at h
  ·rename_i e; cases e
  ·rename_i b r e
   cases e
   obtain ⟨bs',h1,h⟩:=zG h
   cases h
   rw [QU h1]
   rfl
  ·cases h
theorem Ov {K:PySem.W.Frag} {G:Hp}:∀ {bs:List Bool} {vs:List V},Reps K G (bs.map D.bl) vs->vs=bs.map V.bl
 | [],_,r=>r
 | b::bs,_,r=>by
  obtain ⟨v,r',rfl,hv,hr⟩:=r
  rw [Ov hr,show v=V.bl b from hv]
  rfl
def pK:List D->Option D
 | [.lst xs]=>(uV xs).bind fun bs=>some (.bl (bs.all id))
 | _=>none
theorem Xk {K:PySem.W.Frag}:Wj K (OW K) pK:=fun G H ds vs d Q s r hf q=>by
 match ds,hf with
 | [.lst xs],hf=>
  obtain ⟨bs,hb,hf⟩:=zG (show (uV xs).bind _=some d from hf)
  cases hf
  obtain ⟨v,rfl,a,us,rfl,sq,rs,l⟩:=uc r
  rw [QU hb] at rs
  rw [Ov rs] at sq
  exact ⟨a,bs,rfl,sq,q _ _ _ (zN.refl s) rfl⟩
end L3
namespace L2
open PySem PySem.Spec PyProof PyProof.Rows
def memK (ks:List Key) (k:Key):Bool:=ks.any fun k'=>decide (k'=k)
def addK (acc:List Key) (k:Key):List Key:=if memK acc k=true then acc else acc++[k]
theorem Q0 (acc:List Key) (k:Key):(addK acc k).length<=acc.length+1:=by
 unfold addK
 split
 ·omega
 ·rw [List.length_append]; exact Nat.le_refl _
theorem Vn {k:Key} {v:Value} (h:wR k v=true):v.scannable=true:=by
 rcases uL h with ⟨i,t,_,rfl⟩ | ⟨x,t,_,rfl⟩<;>rfl
section
variable {prog:Program} {w:World}
def vc (prog:Program) (w:World) (a:Addr) (ks:List Key) (h:Heap):Prop:=h.SetOf (yc prog w) a (memK ks) ks.length
theorem vc.keep {a:Addr} {ks:List Key} {h h':Heap} (z:vc prog w a ks h) (k:∀ o,h.get? a=some o->h'.get? a=some o):vc prog w a ks h':=by
 obtain ⟨o,es,ep,t,ho,r⟩:=z
 exact ⟨o,es,ep,t,k o ho,r⟩
theorem vc.grow {a:Addr} {ks:List Key} {k:Key} {h:Heap} (z:h.SetOf (yc prog w) a (fun k'=>memK ks k'||decide (k'=k)) (if memK ks k then ks.length else ks.length+1)):vc prog w a (addK ks k) h:=by
 unfold vc addK
 cases c:memK ks k with
 | true=>
  rw [if_pos rfl]
  rw [c,if_pos rfl] at z
  have e:(fun k'=>memK ks k'||decide (k'=k))=memK ks:=funext fun k'=>by
   by_cases q:k'=k
   ·subst q; rw [c]; rfl
   ·rw [decide_eq_false q,Bool.or_false]
  rw [e] at z
  exact z
 | false=>
  rw [if_neg Bool.false_ne_true]
  rw [c,if_neg Bool.false_ne_true] at z
  have e:(fun k'=>memK ks k'||decide (k'=k))=memK (ks++[k]):=funext fun k'=>by
   unfold memK
   rw [List.any_append,List.any_cons,List.any_nil,Bool.or_false]
   congr 1
   exact decide_eq_decide.mpr ⟨Eq.symm,Eq.symm⟩
  rw [e] at z
  rw [List.length_append]
  exact z
theorem LA {A:Around} {R:Result->Shared->Prop} {d it l:Addr} {its:List Value} (hA:A.handled=none) (hdl:d≠l) (hdi:d≠it) (hli:l≠it) :
  ∀ (ks:List Key) (i:Nat) (acc:List Key) (s:Shared),s.heap.IsListIter it l i->s.heap.IsList l its.toArray->i+ks.length=its.length->(∀ (j:Nat) (k:Key),ks[j]?=some k->∃ v,its[i+j]?=some v/\wR k v=true)->
   vc prog w d acc s.heap->acc.length+ks.length+1<scanBound->(∀ h' tk,vc prog w d (ks.foldl addK acc) h'->(∀ b o,b≠d->b≠it->s.heap.get? b=some o->h'.get? b=some o)->R (.ok (.ret .none)) { s with heap:=h',toks:=tk })->
   codeAny (model prog w) A (.builtin "set.update.loop" ⟨[.ref d,.ref it],[]⟩) R s
 | [],i,acc,s,st,hl,hn,hp,hd,hz,h=>by
  refine codeAny_builtin F.entry_set_update_loop ?_
  rw [Around.under_plainId F.plain_set_update_loop _]
  unfold Builtin.«set.update.loop»
  refine wpAny_bind (wpAny_pyNext_list_end (by exact hA) st hl (by simp at hn ⊢; omega) fun h' eb=>?_)
  exact wpAny_pure (h h' s.toks (hd.keep fun o e=>eb d o hdi e) fun b o _ hb e=>eb b o hb e)
 | k::ks,i,acc,s,st,hl,hn,hp,hd,hz,h=>by
  obtain ⟨v,hv,hk⟩:=hp 0 k rfl
  refine codeAny_builtin F.entry_set_update_loop ?_
  rw [Around.under_plainId F.plain_set_update_loop _]
  unfold Builtin.«set.update.loop»
  refine wpAny_bind (wpAny_pyNext_list_item st hl (x:=v) (by simpa using hv) fun h1 st1 sb=>?_)
  have keep1:∀ c o,c≠it->s.heap.get? c=some o->h1.get? c=some o:=fun c o hc e=>(sb.2 c hc).trans e
  have hd1:vc prog w d acc h1:=hd.keep fun o e=>keep1 d o hdi e
  rw [List.length_cons] at hz hn
  refine wpAny_bind (wpAny_holding ?_)
  unfold setAdd
  refine wpAny_holding (wpAny_bind ((yc prog w).pyHash (k:=k) hk ?_))
  refine wpAny_setAddHashed_of (knd:=yc prog w) (k:=k) hk (Vn hk) hd1 (by omega) fun h2 sb2 hd2=>?_
  have keep2:∀ c o,c≠d->c≠it->s.heap.get? c=some o->h2.get? c=some o:=fun c o a1 a2 e=>(sb2.2 c a1).trans (keep1 c o a2 e)
  refine wpAny_pure ⟨plainId_quiet F.plain_set_update_loop _,?_⟩
  have hl2:=Q0 acc k
  refine LA (its:=its) hA hdl hdi hli ks (i+1) (addK acc k) _ ?_ ?_ (by omega) (fun j k' e=>?_) (vc.grow hd2) (by omega) fun h' tk hd' kp=>?_
  ·exact st1.at fun o e=>(sb2.2 it (fun z=>hdi z.symm)).trans e
  ·obtain ⟨o,e,r⟩:=hl
   exact ⟨o,keep2 l o (fun z=>hdl z.symm) hli e,r⟩
  ·obtain ⟨v',hv',hk'⟩:=hp (j+1) k' (by simpa using e)
   exact ⟨v',by rw [show i+1+j=i+(j+1) by omega]; exact hv',hk'⟩
  ·exact h h' tk hd' fun c o a1 a2 e=>kp c o a1 a2 (keep2 c o a1 a2 e)
set_option maxHeartbeats 8000000 in
theorem Mp {A:Around} {E:Value->Shared->Prop} {s:Shared} {l:Addr} {o:Obj} {its:List Value} {n:Nat} {ks:List Key} {Q:Value->Shared->Prop} (hA:A.handled=none) (ho:s.heap.get? l=some o) (hc:o.cls=.type "list") (hdat:o.data=.seq its.toArray n)
  (hn:ks.length=its.length) (hp:∀ (j:Nat) (k:Key),ks[j]?=some k->∃ v,its[j]?=some v/\wR k v=true) (hz:ks.length+1<scanBound)
  (h:∀ h' tk,vc prog w s.heap.objs.size (ks.foldl addK []) h'->(∀ b o,s.heap.get? b=some o->h'.get? b=some o)->Q (.ref s.heap.objs.size) { s with heap:=h',toks:=tk }) :
  wpAny (model prog w) A (call (.type "set") [.ref l]) Q E s:=by
 obtain ⟨_,_,em⟩:=F.called_set.mro
 have e1:=F.called_set.made; have e2:=F.called_set.sub; have e3:=F.called_set.notType; have e4:=F.called_set.canCreate; have e5:=F.typeCall_set_1 (.ref l)
 refine wpAny_call (codeAny_of_tree (show wpAny _ _ (callAny (.type "set") _) _ _ _ from wpAny_pure ⟨Code.quiet_builtin _ (by decide +kernel),codeAny_builtin F.entry_type_call ?_⟩))
 rw [Around.under_plain (weight_type_call_type "set" [.ref l] []) rfl]
 repeat (any_goals (first | wp_step | assumption))
 refine codeAny_mono (code_set_new_1 (.ref l) (E:=E) (Q₁:=fun v s1=>∃ b:Bool,v=.ref s.heap.objs.size/\s1={ s with heap:=s.heap.push { cls:=.type "set",dict:=none,data:=.set #[] 0 (.fresh 0 0 b) } }) fun b=>⟨b,rfl,rfl⟩) fun r s1 hr=>?_
 cases r with
 | error e=>exact hr
 | ok fl=>
  cases fl with
  | ret v=>
   obtain ⟨b,rfl,rfl⟩:=hr
   obtain ⟨h0,hh0⟩:∃ h0,h0=s.heap.push { cls:=.type "set",dict:=none,data:=.set #[] 0 (.fresh 0 0 b) }:=⟨_,rfl⟩
   have g0:h0.get? s.heap.objs.size=some { cls:=.type "set",dict:=none,data:=.set #[] 0 (.fresh 0 0 b) }:=by rw [hh0]; exact Heap.get?_push_size _ rfl
   have k0:∀ c oc,s.heap.get? c=some oc->h0.get? c=some oc:=fun c oc e=>by rw [hh0]; exact Heap.get?_push_of_some _ e
   have z0:h0.objs.size=s.heap.objs.size+1:=by rw [hh0]; exact Heap.size_push ..
   have set0:vc prog w s.heap.objs.size [] h0:=⟨_,#[],0,_,g0,⟨rfl,rfl,rfl⟩,rfl,fun e he=>by simp at he,fun k=>by simp [memK],by decide,by rfl,rfl⟩
   rw [<- hh0]
   have hT:Shared.TypeIs { s with heap:=h0 } (.ref s.heap.objs.size) "set" := ⟨_,g0,rfl⟩
   have i1:=F.called_set.init.lookup; have i2:=F.called_set.init.bind (.ref s.heap.objs.size)
   repeat (any_goals (first | wp_step | assumption))
   refine codeAny_mono (codeAny_call_builtin (R:=wants (fun r s2=>r=.none/\∃ h' tk,s2={ s with heap:=h',toks:=tk }/\vc prog w s.heap.objs.size (ks.foldl addK []) h'/\∀ b o,s.heap.get? b=some o->h'.get? b=some o) E) F.called_set.init.plain F.entry_set_init (check_set_init_1 hT ?_)) fun r2 s2 hr2=>?_
   ·have ho0:=k0 l o ho
    obtain ⟨oc,od,odt,os⟩:=o
    simp only at hc hdat
    subst hc hdat
    have hl0:h0.IsList l its.toArray:=⟨_,ho0,rfl,n,rfl⟩
    have s1:=F.sub_list_set; have s2:=F.sub_list_frozenset
    have ne:(Value.type "list" == Value.type "dict")=false:=by decide
    have hlt:=Heap.lt_size ho
    unfold Builtin.«set.__init__» noKeywords Builtin.Frozenset.updateFrom
    generalize eP:pyIter=P
    wp_walk
    subst eP
    refine wpAny_pyIter_list hl0 (wpAny_bind (wpAny_runValue ?_))
    have ki:∀ c oc,s.heap.get? c=some oc->(h0.push { cls:=.type "list_iterator",data:=.fields #[.ref l,.int 0 0] }).get? c=some oc:=fun c oc e=>Heap.get?_push_of_some _ (k0 c oc e)
    refine LA (l:=l) (its:=its) (by simp [hA]) (yQ (Nat.ne_of_gt hlt)) (yQ (by rw [z0]; exact Nat.ne_of_lt (Nat.lt_succ_self _))) (yQ (by rw [z0]; exact Nat.ne_of_lt (Nat.lt_succ_of_lt hlt))) ks 0 [] _ ⟨_,Heap.get?_push_size _ rfl,rfl,rfl⟩ ⟨_,ki l _ ho,rfl,n,rfl⟩ (by rw [Nat.zero_add]; exact hn) (fun j k e=>by rw [Nat.zero_add]; exact hp j k e) (set0.keep fun oc e=>Heap.get?_push_of_some _ e) (by simpa using hz) fun h' tk hs kp=>?_
    refine wpAny_pure (show wpAny _ _ (ret Value.none) _ _ _ from wpAny_pure ⟨rfl,h',tk,rfl,hs,fun c oc e=>?_⟩)
    have hb:=Heap.lt_size e
    exact kp c oc (yQ (Nat.ne_of_lt hb)) (yQ (by rw [z0]; exact Nat.ne_of_lt (Nat.lt_succ_of_lt hb))) (ki c oc e)
   ·cases r2 with
    | error e=>exact hr2
    | ok f2=>
     cases f2 with
     | ret r=>
      obtain ⟨rfl,h',tk,rfl,hs,kp⟩:=hr2
      repeat (any_goals (first | wp_step | assumption))
      exact h _ _ hs kp
     | _=>exact hr2.elim
  | _=>exact hr.elim
end
end L2
namespace L2
open PySem PySem.Spec PyProof PyProof.Rows
abbrev YO (prog:Program) (w:World) (a:Addr) (ks:List Key):HO:=.ext (vc prog w a ks)
section
variable {X:Cx}
theorem Vp (P:Program) (w:World):∀ {ks:List Key} {its:List Value},zY (ks.map kV) its->∀ (j:Nat) (k:Key),ks[j]?=some k->∃ v,its[j]?=some v/\wR k v=true
 | [],_,.nil,j,k,h=>by cases h
 | k::ks,_,.cons r t,j,k',h=>by
  cases j with
  | zero=>
   cases h
   exact ⟨_,rfl,tj (P:=P) (w:=w) r⟩
  | succ j=>
   obtain ⟨v,e,q⟩:=Vp P w t j k' (by simpa using h)
   exact ⟨v,by simpa using e,q⟩
def HZ (X:Cx):List V->Hp->VK->Prop:=fun xs H Q=>∃ (a:Addr) (ks:List Key),xs=[.ref a]/\zw X.K H a (ks.map kV)/\ks.length<1000/\∀ p,H p=none->Q (.ref p) (zX H p (YO X.prog X.w p (ks.foldl addK [])))
theorem Mn (hcalm:X.calm=true):xr X (.type "set") (HZ X):=by
 intro pins s σ H xs us Q I r h
 obtain ⟨a,ks,rfl,sq,hl,q⟩:=h
 obtain ⟨u,rfl,ru⟩:=vU r
 cases (show u=Value.ref a from ru)
 obtain ⟨its,rv,⟨o,n,ho,hc,hdd,hdat⟩,hz⟩:=I.list sq
 have hn:ks.length=its.length:=by rw [<- rv.length,List.length_map]
 refine Mp (I.ok.hd hcalm) ho hc hdat hn (Vp X.prog X.w rv) (by unfold scanBound; omega) fun h' tk hs kp=>?_
 refine ⟨.ref s.heap.objs.size,_,I.laid (a:=s.heap.objs.size) (o:=YO X.prog X.w s.heap.objs.size (ks.foldl addK [])) (t':=tk) kp (Nat.le_refl _) ⟨hs,?_,fun h1 h2 z k=>z.keep k⟩,rfl,q _ I.fresh⟩
 obtain ⟨o',_,_,_,e,_⟩:=hs
 exact ⟨o',e⟩
def HS (X:Cx):List V->Hp->VK->Prop:=fun xs H Q=>∃ (a:Addr) (ks:List Key),xs=[.ref a]/\H a=some (YO X.prog X.w a ks)/\Q (.int ks.length) H
theorem Mh:xr X (.builtin "len") (HS X):=by
 intro pins s σ H xs us Q I r h
 obtain ⟨a,ks,rfl,ea,q⟩:=h
 obtain ⟨u,rfl,ru⟩:=vU r
 cases (show u=Value.ref a from ru)
 obtain ⟨⟨o,es,ep,t,ho,hx,hd,_,_,hb,hf,hl⟩,_⟩:=(show yo X.prog X.w H s.heap a (YO X.prog X.w a ks) from I.hok a _ ea)
 refine call_len_set ho hx hd hf (by unfold scanBound at hb; omega) ?_
 rw [hl]
 exact ⟨.int ks.length,H,I.tok _,⟨_,rfl⟩,q⟩
end
end L2
namespace L2
open PySem PySem.Spec PyProof PyProof.Rows
end L2
namespace L3
open PySem PySem.Spec PyProof.Rows L2
theorem QY:bootBuiltins "set" = some (.type "set"):=by decide +kernel
def jd:List D->Option (List (Sum Int Str))
 | []=>some []
 | d::r=>(uK d).bind fun k=>(jd r).bind fun ks=>some (k::ks)
def VN:List D->Option D
 | [.lst xs]=>(jd xs).bind fun ks=>if ks.length<1000 then some (.int (ks.foldl addK []).length) else none
 | _=>none
theorem Ji {K:PySem.W.Frag} {G:Hp}:∀ {ds:List D} {ks:List Key} {vs:List V},jd ds=some ks->Reps K G ds vs->vs=ks.map kV
 | [],_,_,h,r=>by
  cases h
  exact r
 | d::ds,ks,_,h,⟨v,r,rfl,hv,hr⟩=>by
  obtain ⟨k,hk,h⟩:=zG h
  obtain ⟨ks',h1,h⟩:=zG h
  cases h
  rw [Ji h1 hr,List.map_cons]
  cases d with
  | int i=>cases hk; rw [show v=V.int i from hv]; rfl
  | str z=>cases hk; rw [show v=V.str z from hv.1]; rfl
  | _=>cases hk
section
variable {X:Cx} {K:PySem.W.Frag}
theorem NA {e:Expr} {p p2 pos pos2:Pos} {fs:FA} (hcalm:X.calm=true) (hg:Gl X "len") (hm:X.mg "len" = none) (hg2:Gl X "set") (hm2:X.mg "set" = none) (ha:SA X [e] fs) (hs:yl e=true:=by rfl) :
  SE X (.Call (.Name "len" p) [.Call (.Name "set" p2) [e] [] pos2] [] pos) (eL VN fs):=by
 obtain ⟨t,pt,k⟩:=ha.h
 have q1:=jw (p:=p2) (pos:=pos2) (Mn hcalm) hg2 hm2 QY ⟨pt⟩ (by decide) (by decide) (by rw [List.all_cons,hs]; rfl)
 refine ⟨⟨_,(Z7 (p:=p) (pos:=pos) Mh hg hm xh (Z6 q1 Xw) (by decide) (by decide)).h,fun {G0 H0 G H τ σ d Q} E hf q=>?_⟩⟩
 obtain ⟨ds,hd,hf⟩:=zG hf
 refine k E hd fun vs G1 H1 x1 r1=>?_
 match ds,hf with
 | [.lst xs],hf=>
  obtain ⟨ks,hk,hf⟩:=zG hf
  have hlt:ks.length<1000:=by
   by_cases c:ks.length<1000
   ·exact c
   ·rw [if_neg c] at hf; cases hf
  rw [if_pos hlt] at hf
  cases hf
  obtain ⟨v,rfl,a,us,rfl,sq,rs,l⟩:=uc r1
  rw [Ji hk rs] at sq
  refine ⟨a,ks,rfl,wB x1.gh sq,hlt,fun p hp=>?_⟩
  exact ⟨p,_,rfl,yj,q _ _ _ (x1.trans (zN.layO x1.gh hp)) rfl⟩
end
end L3
namespace L2
open PySem PySem.Spec PyProof PyProof.Rows
structure xI (t:SetTable):Prop where
 du:t.dummies=#[]
 up:t.place.toList.Pairwise (·<·)
theorem Ww {xs:Array Nat} (up:xs.toList.Pairwise (·<·)) (j:Nat):∀ (f lo hi:Nat),lo<=hi->hi<=xs.size->hi - lo<=f->(∀ (i:Nat) (h:i<xs.size),i<lo->xs[i]<j)->(∀ (i:Nat) (h:i<xs.size),hi<=i->j<=xs[i])->
  SetTable.below.go xs j f lo hi<=xs.size/\(∀ (i:Nat) (h:i<xs.size),i<SetTable.below.go xs j f lo hi->xs[i]<j)/\(∀ (i:Nat) (h:i<xs.size),SetTable.below.go xs j f lo hi<=i->j<=xs[i])
 | 0,lo,hi,h1,h2,h3,a,b=>by
  unfold SetTable.below.go
  exact ⟨by omega,a,fun i h c=>b i h (by omega)⟩
 | f+1,lo,hi,h1,h2,h3,a,b=>by
  have mono:∀ (i k:Nat) (hi:i<xs.size) (hk:k<xs.size),i<k->xs[i]<xs[k]:=fun i k hi hk c=>by
   have:=List.pairwise_iff_getElem.mp up i k (by simpa using hi) (by simpa using hk) c
   simpa using this
  unfold SetTable.below.go
  by_cases c:lo<hi
  ·rw [if_pos c]
   have hm:(lo+hi) / 2<xs.size:=by omega
   have e:xs.getD ((lo+hi) / 2) j=xs[(lo+hi) / 2]:=by simp [Array.getD,hm]
   show (if xs.getD ((lo+hi) / 2) j<j then _ else _)<=_/\_
   dsimp only
   rw [e]
   by_cases q:xs[(lo+hi) / 2]<j
   ·rw [if_pos q]
    refine Ww up j f ((lo+hi) / 2+1) hi (by omega) h2 (by omega) (fun i h z=>?_) b
    by_cases y:i=(lo+hi) / 2
    ·subst y; exact q
    ·exact Nat.lt_trans (mono i _ h hm (by omega)) q
   ·rw [if_neg q]
    refine Ww up j f lo ((lo+hi) / 2) (by omega) (by omega) (by omega) a (fun i h z=>?_)
    by_cases y:i=(lo+hi) / 2
    ·subst y; omega
    ·have:=mono _ i hm h (by omega)
     omega
  ·rw [if_neg c]
   exact ⟨by omega,a,fun i h z=>b i h (by omega)⟩
theorem Wx {xs:Array Nat} (up:xs.toList.Pairwise (·<·)) (j:Nat):SetTable.below xs j<=xs.size/\(∀ (i:Nat) (h:i<xs.size),i<SetTable.below xs j->xs[i]<j)/\(∀ (i:Nat) (h:i<xs.size),SetTable.below xs j<=i->j<=xs[i]):=
 Ww up j xs.size 0 xs.size (Nat.zero_le _) (Nat.le_refl _) (by omega) (fun i _ h=>by omega) fun i h c=>by omega
theorem HA {xs:Array Nat} {j:Nat} (up:xs.toList.Pairwise (·<·)) (no:xs[SetTable.below xs j]?≠some j):(SetTable.insertAt xs (SetTable.below xs j) j).toList.Pairwise (·<·):=by
 obtain ⟨b0,b1,b2⟩:=Wx up j
 generalize SetTable.below xs j=p at *
 rw [SetTable.toList_insertAt]
 refine List.pairwise_append.mpr ⟨up.sublist (List.take_sublist ..),List.pairwise_cons.mpr ⟨fun a ha=>?_,up.sublist (List.drop_sublist ..)⟩,fun a ha b hb=>?_⟩
 ·obtain ⟨i,hi,rfl⟩:=List.getElem_of_mem ha
  rw [List.length_drop,Array.length_toList] at hi
  rw [List.getElem_drop,Array.getElem_toList]
  have h1:=b2 (p+i) (by omega) (by omega)
  have h2:xs[p+i]'(by omega)≠j:=fun z=>by
   cases i with
   | zero=>exact no (by rw [Array.getElem?_eq_getElem (by omega)]; exact congrArg some z)
   | succ i=>
    have h3:=b2 p (by omega) (Nat.le_refl _)
    have h4:=List.pairwise_iff_getElem.mp up p (p+(i+1)) (by simp; omega) (by simp; omega) (by omega)
    simp only [Array.getElem_toList] at h4
    omega
  omega
 ·have lt:a<j:=by
   obtain ⟨i,hi,rfl⟩:=List.getElem_of_mem ha
   rw [List.length_take,Array.length_toList] at hi
   rw [List.getElem_take,Array.getElem_toList]
   exact b1 i (by omega) (by omega)
  rcases List.mem_cons.mp hb with rfl | hb
  ·exact lt
  ·obtain ⟨i,hi,rfl⟩:=List.getElem_of_mem hb
   rw [List.length_drop,Array.length_toList] at hi
   rw [List.getElem_drop,Array.getElem_toList]
   have:=b2 (p+i) (by omega) (by omega)
   omega
theorem IV {t:SetTable} (h:xI t) (j:Nat):SetTable.has t.dummies j=false:=by
 rw [h.du]
 rfl
theorem Nh {t:SetTable} (h:xI t) (j:Nat):(t.slot j=.empty/\t.place[SetTable.below t.place j]?≠some j)\/∃ i,t.slot j=.live i:=by
 unfold SetTable.slot
 dsimp only
 by_cases c:t.place[SetTable.below t.place j]?=some j
 ·rw [if_pos (by rw [c]; exact beq_self_eq_true _)]
  exact .inr ⟨_,rfl⟩
 ·rw [if_neg (by rw [beq_iff_eq]; exact c),IV h,if_neg Bool.false_ne_true]
  exact .inl ⟨rfl,c⟩
theorem OH {t:SetTable} (h:xI t) {f:Nat->Int} {hh:Int}:∀ (n:Nat) (p:SetTable.Probe) {j:Nat} {d:Option Nat},p.dummy=none->SetTable.probe.go t f hh n p=some (.empty j d)->d=none/\t.place[SetTable.below t.place j]?≠some j
 | 0,p,j,d,hp,e=>by
  unfold SetTable.probe.go at e
  cases e
 | n+1,p,j,d,hp,e=>by
  have adv:(t.advance p).dummy=none:=by
   unfold SetTable.advance
   split
   ·exact hp
   ·exact hp
  unfold SetTable.probe.go at e
  rcases Nh h p.j with ⟨s,no⟩ | ⟨i,s⟩
  ·rw [s] at e
   dsimp only at e
   cases e
   exact ⟨hp,no⟩
  ·rw [s] at e
   dsimp only at e
   split at e
   ·cases e
   ·exact OH h n (t.advance p) adv e
theorem xI.stand (t:SetTable) (n:Nat):xI (t.standIn n):=⟨rfl,by
 show (Array.range n).toList.Pairwise (·<·)
 rw [Array.toList_range]
 exact List.pairwise_lt_range⟩
theorem xI.lay {t:SetTable} (h:xI t) (es:Array (Int×Value)) (hh:Int) (x:Value):xI (layNew t es hh x).2.1:=by
 unfold layNew
 split
 ·rename_i slot wd hs
  dsimp only
  have put:xI (t.put slot).1:=by
   unfold SetTable.freeSlot at hs
   split at hs
   ·rename_i j d e
    obtain ⟨rfl,no⟩:=OH h _ _ (show (t.probeStart hh).dummy=none from rfl) e
    cases hs
    unfold SetTable.put
    refine ⟨?_,?_⟩
    ·show (if SetTable.has t.dummies _=true then _ else _)=_
     rw [IV h,if_neg Bool.false_ne_true]
     exact h.du
    ·exact HA h.up no
   ·cases hs
  unfold SetTable.orStandIn
  split
  ·exact put
  ·exact xI.stand _ _
 ·exact xI.stand _ _
theorem xI.plain {t:SetTable} (h:xI t) (b:Bool):xI { t with plain:=b }:=⟨h.du,h.up⟩
theorem Fg {mask finger moves:Nat} {led plain:Bool} {hs:Array Int} {t':SetTable} {order:Array Nat} (e:SetTable.laid mask finger moves led plain hs=some (t',order)):xI t'/\t'.led=led:=by
 unfold SetTable.laid at e
 cases c:SetTable.layClean mask hs with
 | none=>rw [c] at e; cases e
 | some owner=>
  rw [c] at e
  cases e
  refine ⟨⟨rfl,?_⟩,rfl⟩
  show ((List.filterMap _ _).map _).Pairwise _
  refine List.Pairwise.map _ (R:=fun a b:Nat×Nat=>a.1<b.1) (fun a b z=>z) ?_
  refine List.Pairwise.filterMap _ (R:=fun a b:Nat=>a<b) (fun a b z x hx y hy=>?_) List.pairwise_lt_range
  obtain ⟨_,_,rfl⟩:=Option.map_eq_some_iff.mp hx
  obtain ⟨_,_,rfl⟩:=Option.map_eq_some_iff.mp hy
  exact z
theorem xI.relay {t:SetTable} (es:Array (Int×Value)) (n:Nat) (h:xI t):xI (relayAll t es n).2.1/\(relayAll t es n).2.1.led=t.led:=by
 unfold relayAll
 split
 ·rename_i t' order e
  dsimp only
  split
  ·exact Fg e
  ·exact ⟨xI.stand _ _,rfl⟩
 ·exact ⟨xI.stand _ _,rfl⟩
theorem Fp (t:SetTable) (es:Array (Int×Value)) (hh:Int) (x:Value):(layNew t es hh x).2.1.led=t.led:=by
 unfold layNew
 split
 ·dsimp only
  unfold SetTable.orStandIn
  split<;>rfl
 ·rfl
end L2
namespace L2
open PySem PySem.Spec PyProof PyProof.Rows
section
variable {prog:Program} {w:World} {K:Type} [DecidableEq K] {knd:KeyKind prog w K} {A:Around} {E:Value->Shared->Prop}
theorem OP {h:Heap} {a:Addr} {o:Obj} {es es2:Array (Int×Value)} {ep:Nat} {t t2:SetTable} (ho:h.get? a=some o) (hd:o.data=.set es ep t) :
  (h.update a (Obj.putSet es2 t2)).get? a=some { o with data:=.set es2 (ep+1) t2 }:=by
 have e:=Heap.get?_update_self (Obj.putSet es2 t2) ho (by rw [putSet_of es2 t2 hd]; rfl)
 rw [putSet_of es2 t2 hd] at e
 exact e
theorem Le {s:Shared} {g:Bool->Sem Unit} (hg:∀ (b:Bool) (s1:Shared) (Q1:Unit->Shared->Prop),Q1 () s1->wpAny (model prog w) A (g b) Q1 E s1) {a:Addr} {o:Obj} {es:Array (Int×Value)} {ep:Nat} {t:SetTable} (ho:s.heap.get? a=some o) (hd:o.data=.set es ep t)
  {es1:Array (Int×Value)} {t2:SetTable} (hb:es1.size<scanBound) (hf:t2.fits es1.size=true) (tb:xI t2) {wd:Bool} {R:Option Bool->Shared->Prop}
  (h:∀ (h':Heap) (es':Array (Int×Value)) (ep':Nat) (t':SetTable),Heap.SameBut a s.heap h'->h'.get? a=some { o with data:=.set es' ep' t' }->es'.toList.Perm es1.toList->t'.fits es'.size=true->xI t'->t'.led=t2.led->R (some true) { s with heap:=h' }) :
  wpAny (model prog w) A (storeSet a es1 t2 >>= fun _=>if (!wd&&t2.tooFull)=true then g (relayAll t2 es1 (SetTable.grown es1.size)).2.2 >>= fun _=>storeSet a (relayAll t2 es1 (SetTable.grown es1.size)).1 (relayAll t2 es1 (SetTable.grown es1.size)).2.1 >>= fun _=>pure (some true) else pure (some true)) R E s:=by
 refine wpAny_bind (wpAny_storeSet_of (es':=es1) (t':=t2) ho hd ?_ (fits_of_scanBound hb))
 have h1:=OP (es2:=es1) (t2:=t2) ho hd
 have k1:=Heap.SameBut.update s.heap a (Obj.putSet es1 t2)
 split
 ·have pm:=relayAll_perm t2 es1 (SetTable.grown es1.size)
  have hf3:=relayAll_fits t2 es1 (SetTable.grown es1.size)
  obtain ⟨tb3,ld3⟩:=tb.relay es1 (SetTable.grown es1.size)
  generalize relayAll t2 es1 (SetTable.grown es1.size)=L at *
  obtain ⟨es2,t3,gv⟩:=L
  dsimp only at *
  have hz:es2.size=es1.size:=by rw [<- Array.length_toList,pm.length_eq,Array.length_toList]
  refine wpAny_bind (hg gv _ _ (wpAny_bind (wpAny_storeSet_of (es':=es2) (t':=t3) h1 rfl (wpAny_pure ?_) (fits_of_scanBound (by omega)))))
  exact h _ es2 _ t3 (k1.trans (Heap.SameBut.update _ a _)) (OP (o:={ o with data:=.set es1 (ep+1) t2 }) h1 rfl) pm hf3 tb3 ld3
 ·exact wpAny_pure (h _ es1 _ t2 k1 h1 (List.Perm.refl _) hf tb rfl)
theorem MF {s:Shared} {a:Addr} {o:Obj} {es:Array (Int×Value)} {ep:Nat} {t:SetTable} {k:K} {x:Value} {Q:Bool->Shared->Prop} (hkey:knd.is k x=true) (hsc:x.scannable=true) (ho:s.heap.get? a=some o) (hd:o.data=.set es ep t) (hel:ElemsOf knd es.toList) (hb:es.size+1<scanBound) (hf:t.fits es.size=true) (tb:xI t)
  (h0:(∃ e∈es.toList,knd.is k e.2=true)->Q false s)
  (h1:(∀ e∈es.toList,knd.is k e.2=false)->∀ (h':Heap) (es':Array (Int×Value)) (ep':Nat) (t':SetTable),Heap.SameBut a s.heap h'->h'.get? a=some { o with data:=.set es' ep' t' }->es'.toList.Perm (es.toList++[(knd.hash k,x)])->t'.fits es'.size=true->xI t'->t'.led=t.led->Q true { s with heap:=h' }) :
  wpAny (model prog w) A (setAddHashed a x (knd.hash k)) Q E s:=by
 unfold setAddHashed setAddHashedIn
 refine wpAny_holding (wpAny_bind (wpAny_setState_of (es:=es) (t:=t) ho hd hf ?_))
 dsimp only
 rw [byScan_of hsc (Nat.lt_of_succ_lt hb) hel,if_pos rfl]
 unfold setAddByScan
 refine wpAny_bind (wpAny_bind (wpAny_rule (wpAny_bind (wpAny_setScan_of hkey ho hd hf hel ?_))))
 cases hr:List.findIdx? (fun e=>knd.is k e.2) es.toList with
 | some j=>
  dsimp only
  obtain ⟨hj,hp,_⟩:=List.findIdx?_eq_some_iff_getElem.mp hr
  exact wpAny_pure (wpAny_pure (h0 ⟨es.toList[j],List.getElem_mem hj,hp⟩))
 | none=>
  dsimp only
  have no:∀ e∈es.toList,knd.is k e.2=false:=fun e he=>List.findIdx?_eq_none_iff.mp hr e he
  have gw:∀ (b:Bool) {s1:Shared} {Q1:Unit->Shared->Prop},Q1 () s1->wpAny (model prog w) A (match b with | true=>rule "set.scan.the-table-gave-way" | false=>pure ()) Q1 E s1:=fun b _ _ q=>by
   cases b
   ·exact wpAny_pure q
   ·exact wpAny_rule q
  have pm:=layNew_perm t es (knd.hash k) x
  have hf1:=layNew_fits t es (knd.hash k) x
  have tb1:=tb.lay es (knd.hash k) x
  have ld1:=Fp t es (knd.hash k) x
  generalize layNew t es (knd.hash k) x=L at *
  obtain ⟨es1,t1,wd,gv⟩:=L
  dsimp only at *
  rw [Array.toList_push] at pm
  have hb1:es1.size<scanBound:=by
   rw [<- Array.length_toList,pm.length_eq,List.length_append,Array.length_toList]
   exact hb
  refine wpAny_bind (gw gv ?_)
  split
  ·refine wpAny_bind ?_
   rw [hashByValue_scannable 8 hsc]
   refine wpAny_pure ?_
   have tb2:xI (if plainKind x=true then t1 else { t1 with plain:=false })/\(if plainKind x=true then t1 else { t1 with plain:=false }).led=t1.led/\(if plainKind x=true then t1 else { t1 with plain:=false }).fits es1.size=true:=by
    split
    ·exact ⟨tb1,rfl,hf1⟩
    ·exact ⟨tb1.plain false,rfl,SetTable.fits_plain_off hf1⟩
   refine Le (fun b s1 Q1 q=>gw b q) ho hd hb1 tb2.2.2 tb2.1 fun h' es' ep' t' kp g p f b l=>?_
   dsimp only
   exact wpAny_pure (h1 no h' es' ep' t' kp g (p.trans pm) f b ((l.trans tb2.2.1).trans ld1))
  ·refine wpAny_bind (wpAny_pure ?_)
   simp only [↓reduceIte]
   refine Le (fun b s1 Q1 q=>gw b q) ho hd hb1 hf1 tb1 fun h' es' ep' t' kp g p f b l=>?_
   dsimp only
   exact wpAny_pure (h1 no h' es' ep' t' kp g (p.trans pm) f b (l.trans ld1))
end
end L2
namespace L2
open PySem PySem.Spec PyProof PyProof.Rows
def qd:Value->Key
 | .int i _=>.inl i
 | .str x _=>.inr x
 | _=>.inl 0
theorem Vo {k:Key} {v:Value} (h:wR k v=true):qd v=k:=by
 rcases uL h with ⟨i,t,rfl,rfl⟩ | ⟨x,t,rfl,rfl⟩<;>rfl
section
variable {prog:Program} {w:World}
def vd (prog:Program) (w:World) (a:Addr) (ks:List Key) (h:Heap):Prop:=∃ o es ep t,h.get? a=some o/\o.ExactSet/\o.data=.set es ep t/\ElemsOf (yc prog w) es.toList/\es.size<scanBound/\t.fits es.size=true/\xI t/\t.led=(!w.params.followText "set-order")/\(es.toList.map fun e=>qd e.2).Perm ks
theorem vd.keep {a:Addr} {ks:List Key} {h h':Heap} (z:vd prog w a ks h) (k:∀ o,h.get? a=some o->h'.get? a=some o):vd prog w a ks h':=by
 obtain ⟨o,es,ep,t,ho,r⟩:=z
 exact ⟨o,es,ep,t,k o ho,r⟩
theorem Qv {es:List (Int×Value)} (hel:ElemsOf (yc prog w) es) {e:Int×Value} (he:e∈es):wR (qd e.2) e.2=true:=by
 obtain ⟨⟨k,hk,_⟩,_⟩:=hel e he
 have hk:wR k e.2=true:=hk
 rw [Vo hk]
 exact hk
theorem IN {ks:List Key} {k:Key}:memK ks k=true↔k∈ks:=by
 unfold memK
 rw [List.any_eq_true]
 exact ⟨fun ⟨x,hx,e⟩=>of_decide_eq_true e ▸ hx,fun h=>⟨k,h,decide_eq_true rfl⟩⟩
theorem vd.add {A:Around} {E:Value->Shared->Prop} {s:Shared} {a:Addr} {ks:List Key} {k:Key} {x:Value} {Q:Bool->Shared->Prop} (z:vd prog w a ks s.heap) (hk:wR k x=true) (hb:ks.length+1<scanBound)
  (h:∀ (h':Heap) (b:Bool),(∀ c o,c≠a->s.heap.get? c=some o->h'.get? c=some o)->vd prog w a (addK ks k) h'->Q b { s with heap:=h' }):wpAny (model prog w) A (setAddHashed a x ((yc prog w).hash k)) Q E s:=by
 obtain ⟨o,es,ep,t,ho,hx,hd,hel,hb0,hf,tb,ld,pm⟩:=z
 have hz:es.size=ks.length:=by rw [<- pm.length_eq,List.length_map,Array.length_toList]
 refine MF (knd:=yc prog w) (k:=k) hk (Vn hk) ho hd hel (by omega) hf tb (fun ⟨e,he,q⟩=>?_) fun no h' es' ep' t' kp g p f tb' l=>?_
 ·have q:wR k e.2=true:=q
  have m:memK ks k=true:=IN.mpr (pm.mem_iff.mp (List.mem_map.mpr ⟨e,he,Vo q⟩))
  have ea:addK ks k=ks:=by unfold addK; rw [m,if_pos rfl]
  have:=h s.heap false (fun _ _ _ e=>e) (by rw [ea]; exact ⟨o,es,ep,t,ho,hx,hd,hel,hb0,hf,tb,ld,pm⟩)
  exact this
 ·have m:memK ks k=false:=by
   cases c:memK ks k with
   | false=>rfl
   | true=>
    exfalso
    obtain ⟨e,he,q⟩:=List.mem_map.mp (pm.mem_iff.mpr (IN.mp c))
    have i:=Qv hel he
    rw [q] at i
    have n:wR k e.2=false:=no e he
    rw [n] at i
    cases i
  have ea:addK ks k=ks++[k]:=by unfold addK; rw [m,if_neg Bool.false_ne_true]
  have ez:es'.size=es.size+1:=by rw [<- Array.length_toList,p.length_eq,List.length_append,Array.length_toList]; rfl
  refine h h' true (fun c oc hc e=>(kp.2 c hc).trans e) ?_
  rw [ea]
  refine ⟨_,es',ep',t',g,hx,rfl,(hel.push (knd:=yc prog w) (k:=k) hk (Vn hk)).perm p,by omega,f,tb',l.trans ld,?_⟩
  refine (p.map fun e=>qd e.2).trans ?_
  rw [List.map_append]
  refine pm.append (List.Perm.of_eq ?_)
  show [qd x]=[k]
  rw [Vo hk]
theorem NH {A:Around} {E:Value->Shared->Prop} {s:Shared} (a:Value) {Q₁:Value->Shared->Prop} (h:Q₁ (.ref s.heap.objs.size) { s with heap:=s.heap.push { cls:=.type "set",dict:=none,data:=.set #[] 0 (.fresh 0 0 (!w.params.followText "set-order")) } }) :
  codeAny (model prog w) A (.call (.builtin "set.__new__") ⟨[.type "set",a],[]⟩) (wants Q₁ E) s:=by
 refine codeAny_of_tree (show wpAny _ A.in1 (checkBuiltinCall "set.__new__" ⟨[.type "set",a],[]⟩ >>= fun _=>again (.builtin "set.__new__" ⟨[.type "set",a],[]⟩)) _ _ s from ?_)
 refine wpAny_bind (wpAny_of_eq (F.newCall_set_1 a) (wpAny_pure ⟨plainId_quiet F.plain_set_new _,codeAny_builtin (F.entry_set_new) ?_⟩))
 rw [Around.under_plainId (F.plain_set_new) _]
 unfold Builtin.«set.__new__» Builtin.Frozenset.newClass
 have e:=sub_set_self
 obtain ⟨hp,g,d,tk,os⟩:=s
 dsimp only
 wp_walk
 refine wpAny_askSetting (wpAny_pure ?_)
 dsimp only
 simp only [newObj]
 exact wpAny_bind (wpAny_alloc (wpAny_pure (wpAny_pure h)))
theorem LB {A:Around} {R:Result->Shared->Prop} {d it l:Addr} {its:List Value} (hA:A.handled=none) (hdl:d≠l) (hdi:d≠it) (hli:l≠it) :
  ∀ (ks:List Key) (i:Nat) (acc:List Key) (s:Shared),s.heap.IsListIter it l i->s.heap.IsList l its.toArray->i+ks.length=its.length->(∀ (j:Nat) (k:Key),ks[j]?=some k->∃ v,its[i+j]?=some v/\wR k v=true)->
   vd prog w d acc s.heap->acc.length+ks.length+1<scanBound->(∀ h' tk,vd prog w d (ks.foldl addK acc) h'->(∀ b o,b≠d->b≠it->s.heap.get? b=some o->h'.get? b=some o)->R (.ok (.ret .none)) { s with heap:=h',toks:=tk })->
   codeAny (model prog w) A (.builtin "set.update.loop" ⟨[.ref d,.ref it],[]⟩) R s
 | [],i,acc,s,st,hl,hn,hp,hd,hz,h=>by
  refine codeAny_builtin F.entry_set_update_loop ?_
  rw [Around.under_plainId F.plain_set_update_loop _]
  unfold Builtin.«set.update.loop»
  refine wpAny_bind (wpAny_pyNext_list_end (by exact hA) st hl (by simp at hn ⊢; omega) fun h' eb=>?_)
  exact wpAny_pure (h h' s.toks (hd.keep fun o e=>eb d o hdi e) fun b o _ hb e=>eb b o hb e)
 | k::ks,i,acc,s,st,hl,hn,hp,hd,hz,h=>by
  obtain ⟨v,hv,hk⟩:=hp 0 k rfl
  refine codeAny_builtin F.entry_set_update_loop ?_
  rw [Around.under_plainId F.plain_set_update_loop _]
  unfold Builtin.«set.update.loop»
  refine wpAny_bind (wpAny_pyNext_list_item st hl (x:=v) (by simpa using hv) fun h1 st1 sb=>?_)
  have keep1:∀ c o,c≠it->s.heap.get? c=some o->h1.get? c=some o:=fun c o hc e=>(sb.2 c hc).trans e
  have hd1:vd prog w d acc h1:=hd.keep fun o e=>keep1 d o hdi e
  rw [List.length_cons] at hz hn
  refine wpAny_bind (wpAny_holding ?_)
  unfold setAdd
  refine wpAny_holding (wpAny_bind ((yc prog w).pyHash (k:=k) hk ?_))
  refine hd1.add (s:={ s with heap:=h1,toks:=_ }) hk (by omega) fun h2 bb kp2 hd2=>?_
  have keep2:∀ c o,c≠d->c≠it->s.heap.get? c=some o->h2.get? c=some o:=fun c o a1 a2 e=>(kp2 c o a1 (keep1 c o a2 e))
  refine wpAny_pure ⟨plainId_quiet (F.plain_set_update_loop) _,?_⟩
  have hl2:=Q0 acc k
  refine LB (its:=its) hA hdl hdi hli ks (i+1) (addK acc k) _ ?_ ?_ (by omega) (fun j k' e=>?_) hd2 (by omega) fun h' tk hd' kp=>?_
  ·exact st1.at fun o e=>kp2 it o (fun z=>hdi z.symm) e
  ·obtain ⟨o,e,r⟩:=hl
   exact ⟨o,keep2 l o (fun z=>hdl z.symm) hli e,r⟩
  ·obtain ⟨v',hv',hk'⟩:=hp (j+1) k' (by simpa using e)
   exact ⟨v',by rw [show i+1+j=i+(j+1) by omega]; exact hv',hk'⟩
  ·exact h h' tk hd' fun c o a1 a2 e=>kp c o a1 a2 (keep2 c o a1 a2 e)
set_option maxHeartbeats 8000000 in
theorem Mq {A:Around} {E:Value->Shared->Prop} {s:Shared} {l:Addr} {o:Obj} {its:List Value} {n:Nat} {ks:List Key} {Q:Value->Shared->Prop} (hA:A.handled=none) (ho:s.heap.get? l=some o) (hc:o.cls=.type "list") (hdat:o.data=.seq its.toArray n)
  (hn:ks.length=its.length) (hp:∀ (j:Nat) (k:Key),ks[j]?=some k->∃ v,its[j]?=some v/\wR k v=true) (hz:ks.length+1<scanBound)
  (h:∀ h' tk,vd prog w s.heap.objs.size (ks.foldl addK []) h'->(∀ b o,s.heap.get? b=some o->h'.get? b=some o)->Q (.ref s.heap.objs.size) { s with heap:=h',toks:=tk }) :
  wpAny (model prog w) A (call (.type "set") [.ref l]) Q E s:=by
 obtain ⟨_,_,em⟩:=F.called_set.mro
 have e1:=F.called_set.made; have e2:=F.called_set.sub; have e3:=F.called_set.notType; have e4:=F.called_set.canCreate; have e5:=F.typeCall_set_1 (.ref l)
 refine wpAny_call (codeAny_of_tree (show wpAny _ _ (callAny (.type "set") _) _ _ _ from wpAny_pure ⟨Code.quiet_builtin _ (by decide +kernel),codeAny_builtin F.entry_type_call ?_⟩))
 rw [Around.under_plain (weight_type_call_type "set" [.ref l] []) rfl]
 repeat (any_goals (first | wp_step | assumption))
 refine codeAny_mono (NH (.ref l) (E:=E) (Q₁:=fun v s1=>v=.ref s.heap.objs.size/\s1={ s with heap:=s.heap.push { cls:=.type "set",dict:=none,data:=.set #[] 0 (.fresh 0 0 (!w.params.followText "set-order")) } }) ⟨rfl,rfl⟩) fun r s1 hr=>?_
 cases r with
 | error e=>exact hr
 | ok fl=>
  cases fl with
  | ret v=>
   obtain ⟨rfl,rfl⟩:=hr
   generalize hb0:(!w.params.followText "set-order")=b
   obtain ⟨h0,hh0⟩:∃ h0,h0=s.heap.push { cls:=.type "set",dict:=none,data:=.set #[] 0 (.fresh 0 0 b) }:=⟨_,rfl⟩
   have g0:h0.get? s.heap.objs.size=some { cls:=.type "set",dict:=none,data:=.set #[] 0 (.fresh 0 0 b) }:=by rw [hh0]; exact Heap.get?_push_size _ rfl
   have k0:∀ c oc,s.heap.get? c=some oc->h0.get? c=some oc:=fun c oc e=>by rw [hh0]; exact Heap.get?_push_of_some _ e
   have z0:h0.objs.size=s.heap.objs.size+1:=by rw [hh0]; exact Heap.size_push ..
   have set0:vd prog w s.heap.objs.size [] h0:=⟨_,#[],0,_,g0,⟨rfl,rfl,rfl⟩,rfl,fun e he=>by simp at he,by decide,by rfl,⟨rfl,List.Pairwise.nil⟩,hb0.symm,List.Perm.refl _⟩
   rw [<- hh0]
   have hT:Shared.TypeIs { s with heap:=h0 } (.ref s.heap.objs.size) "set" := ⟨_,g0,rfl⟩
   have i1:=F.called_set.init.lookup; have i2:=F.called_set.init.bind (.ref s.heap.objs.size)
   repeat (any_goals (first | wp_step | assumption))
   refine codeAny_mono (codeAny_call_builtin (R:=wants (fun r s2=>r=.none/\∃ h' tk,s2={ s with heap:=h',toks:=tk }/\vd prog w s.heap.objs.size (ks.foldl addK []) h'/\∀ b o,s.heap.get? b=some o->h'.get? b=some o) E) F.called_set.init.plain F.entry_set_init (check_set_init_1 hT ?_)) fun r2 s2 hr2=>?_
   ·have ho0:=k0 l o ho
    obtain ⟨oc,od,odt,os⟩:=o
    simp only at hc hdat
    subst hc hdat
    have hl0:h0.IsList l its.toArray:=⟨_,ho0,rfl,n,rfl⟩
    have s1:=F.sub_list_set; have s2:=F.sub_list_frozenset
    have ne:(Value.type "list" == Value.type "dict")=false:=by decide
    have hlt:=Heap.lt_size ho
    unfold Builtin.«set.__init__» noKeywords Builtin.Frozenset.updateFrom
    generalize eP:pyIter=P
    wp_walk
    subst eP
    refine wpAny_pyIter_list hl0 (wpAny_bind (wpAny_runValue ?_))
    have ki:∀ c oc,s.heap.get? c=some oc->(h0.push { cls:=.type "list_iterator",data:=.fields #[.ref l,.int 0 0] }).get? c=some oc:=fun c oc e=>Heap.get?_push_of_some _ (k0 c oc e)
    refine LB (l:=l) (its:=its) (by simp [hA]) (yQ (Nat.ne_of_gt hlt)) (yQ (by rw [z0]; exact Nat.ne_of_lt (Nat.lt_succ_self _))) (yQ (by rw [z0]; exact Nat.ne_of_lt (Nat.lt_succ_of_lt hlt))) ks 0 [] _ ⟨_,Heap.get?_push_size _ rfl,rfl,rfl⟩ ⟨_,ki l _ ho,rfl,n,rfl⟩ (by rw [Nat.zero_add]; exact hn) (fun j k e=>by rw [Nat.zero_add]; exact hp j k e) (set0.keep fun oc e=>Heap.get?_push_of_some _ e) (by simpa using hz) fun h' tk hs kp=>?_
    refine wpAny_pure (show wpAny _ _ (ret Value.none) _ _ _ from wpAny_pure ⟨rfl,h',tk,rfl,hs,fun c oc e=>?_⟩)
    have hb:=Heap.lt_size e
    exact kp c oc (yQ (Nat.ne_of_lt hb)) (yQ (by rw [z0]; exact Nat.ne_of_lt (Nat.lt_succ_of_lt hb))) (ki c oc e)
   ·cases r2 with
    | error e=>exact hr2
    | ok f2=>
     cases f2 with
     | ret r=>
      obtain ⟨rfl,h',tk,rfl,hs,kp⟩:=hr2
      repeat (any_goals (first | wp_step | assumption))
      exact h _ _ hs kp
     | _=>exact hr2.elim
  | _=>exact hr.elim
end
end L2
namespace L2
open PySem PySem.Spec PyProof PyProof.Rows
theorem Y7:Slot "set_iterator" "__next__" "set_iterator.__next__":=
 .of (owner := "set_iterator") (n := "__next__") (by rw [typeLookup_type,builtinLookup_eq_fast]; kernel_rfl) (by decide +kernel) (by decide +kernel) (by decide +kernel) (by first | exact .inl (by decide +kernel) | exact .inr (by decide +kernel)) (by rw [isSubtype_type]; kernel_rfl)
theorem LF:Slot "set_iterator" "__iter__" "set_iterator.__iter__":=
 .of (owner := "set_iterator") (n := "__iter__") (by rw [typeLookup_type,builtinLookup_eq_fast]; kernel_rfl) (by decide +kernel) (by decide +kernel) (by decide +kernel) (by first | exact .inl (by decide +kernel) | exact .inr (by decide +kernel)) (by rw [isSubtype_type]; kernel_rfl)
theorem NX:entryFor table "set_iterator.__next__" = some Builtin.«set_iterator.__next__»:=entryFor_of_tree (by kernel_rfl)
theorem NW:entryFor table "set_iterator.__iter__" = some Builtin.«dict_keyiterator.__iter__»:=entryFor_alias (id' := "dict_keyiterator.__iter__") (by kernel_rfl) (by first | rfl | decide +kernel) (by decide +kernel) (by kernel_rfl)
theorem NE:entryFor table "set.__iter__" = some Builtin.«frozenset.__iter__»:=entryFor_alias (id' := "frozenset.__iter__") (by kernel_rfl) rfl (by decide +kernel) (by kernel_rfl)
theorem LE:Manifest.owners.lookup (String.ofList "set_iterator".toList)=some Manifest.sig_set_iterator:=by kernel_rfl
theorem NV (a:Value):argsOk "set_iterator.__next__" ⟨[a],[]⟩:=by
 unfold argsOk; rw [signature?_of (id := "set_iterator.__next__") (n:=['_','_','t','x','e','n','_','_']) (o:=['r','o','t','a','r','e','t','i','_','t','e','s']) (by kernel_rfl) LE]; kernel_rfl
theorem NU (a:Value):argsOk "set_iterator.__iter__" ⟨[a],[]⟩:=by
 unfold argsOk; rw [signature?_of (id := "set_iterator.__iter__") (n:=['_','_','r','e','t','i','_','_']) (o:=['r','o','t','a','r','e','t','i','_','t','e','s']) (by kernel_rfl) LE]; kernel_rfl
section
variable {M:Model} {A:Around} {E:Value->Shared->Prop}
theorem Mw {s:Shared} {src:Source} {n:Nat} {Q:Nat->Shared->Prop} (hn:n≠0) (h:∀ i d,i<n->Q i { s with drawn:=d }):wpAny M A (choose src n) Q E s:=
 fun _ _ _=>⟨hn,h _ _ (Nat.mod_lt _ (Nat.pos_of_ne_zero hn))⟩
theorem VF {α:Type}:∀ {xs:List α} {i:Nat} {x:α},xs[i]?=some x->(x::xs.eraseIdx i).Perm xs
 | [],_,_,h=>by cases h
 | y::ys,0,x,h=>by
  cases h
  exact List.Perm.refl _
 | y::ys,i+1,x,h=>(List.Perm.swap y x _).trans ((VF (by simpa using h)).cons y)
theorem Qq {α:Type}:∀ (n:Nat) (xs:List α) (s:Shared) {Q:List α->Shared->Prop},xs.length<=n->(∀ ys d,ys.Perm xs->Q ys { s with drawn:=d })->wpAny M A (drawOrder n xs) Q E s
 | 0,xs,s,Q,hn,h=>by
  cases xs with
  | nil=>
   unfold drawOrder
   exact wpAny_pure (h [] s.drawn (List.Perm.refl _))
  | cons _ _=>simp at hn
 | n+1,[],s,Q,hn,h=>by
  unfold drawOrder
  exact wpAny_pure (h [] s.drawn (List.Perm.refl _))
 | n+1,x::xs,s,Q,hn,h=>by
  unfold drawOrder
  refine wpAny_bind (Mw (by simp) fun i d hi=>?_)
  have e:(x::xs)[i]?=some ((x::xs)[i]):=List.getElem?_eq_getElem hi
  rw [e]
  have hl:((x::xs).eraseIdx i).length<=n:=by
   rw [List.length_eraseIdx,if_pos hi]
   rw [List.length_cons] at hn ⊢
   omega
  refine wpAny_bind (Qq n _ { s with drawn:=d } hl fun ys d' p=>wpAny_pure ?_)
  exact h _ d' ((List.Perm.cons _ p).trans (VF e))
end
theorem O9 {α:Type} (next:Nat->Nat):∀ (n k:Nat) (left:List α) (out:Array α),left.length<=n->(pickOrder.go next n k left out).toList.Perm (out.toList++left)
 | 0,k,left,out,h=>by
  cases left with
  | nil=>
   unfold pickOrder.go
   exact List.Perm.of_eq (List.append_nil _).symm
  | cons _ _=>simp at h
 | n+1,k,left,out,h=>by
  unfold pickOrder.go
  cases left with
  | nil=>exact List.Perm.of_eq (List.append_nil _).symm
  | cons x xs=>
   have hi:next k % (x::xs).length<(x::xs).length:=Nat.mod_lt _ (by simp)
   have e:(x::xs)[next k % (x::xs).length]?=some ((x::xs)[next k % (x::xs).length]):=List.getElem?_eq_getElem hi
   rw [e]
   dsimp only
   have hl:((x::xs).eraseIdx (next k % (x::xs).length)).length<=n:=by
    rw [List.length_eraseIdx,if_pos hi]
    rw [List.length_cons] at h ⊢
    omega
   refine (O9 next n (k+1) _ _ hl).trans ?_
   rw [Array.toList_push,List.append_assoc]
   exact (List.Perm.refl _).append (VF e)
theorem GZ {α:Type} (next:Nat->Nat) (xs:Array α):(pickOrder next xs).toList.Perm xs.toList:=by
 show (pickOrder.go next xs.size 0 xs.toList #[]).toList.Perm _
 have:=O9 next xs.size 0 xs.toList #[] (by simp)
 simpa using this
theorem MR {xs:Array Nat} (up:xs.toList.Pairwise (·<·)):SetTable.below xs 0=0:=by
 obtain ⟨a,b,_⟩:=Wx up 0
 by_cases c:SetTable.below xs 0=0
 ·exact c
 ·have:=b 0 (by omega) (by omega)
  omega
theorem MQ {xs:Array Nat} (up:xs.toList.Pairwise (·<·)) {i:Nat} (h:i<xs.size):SetTable.below xs (xs[i]+1)=i+1:=by
 obtain ⟨a,b,c⟩:=Wx up (xs[i]+1)
 generalize SetTable.below xs (xs[i]+1)=p at *
 rcases Nat.lt_trichotomy p (i+1) with q | q | q
 ·have:=c i h (by omega)
  omega
 ·exact q
 ·have h1:=b (i+1) (by omega) q
  have h2:=List.pairwise_iff_getElem.mp up i (i+1) (by simpa using h) (by simp; omega) (by omega)
  simp only [Array.getElem_toList] at h2
  omega
end L2
namespace L2
open PySem PySem.Spec PyProof PyProof.Rows
section
variable {prog:Program} {w:World} {A:Around} {E:Value->Shared->Prop}
def jQ (h:Heap) (I:Addr) (fs:Array Value):Prop:=h.get? I=some { cls:=.type "set_iterator",data:=.fields fs }
structure Wk (w:World) (a:Addr) (es:Array (Int×Value)) (ep:Nat) (t:SetTable) (ord:List Value) (I tp:Addr) (i:Nat) (h:Heap):Prop where
 st:∃ o,h.get? a=some o/\o.data=.set es ep t
 md:(w.params.followText "set-order" = true/\ord=(pickOrder (w.params.setOrder a ep) es).toList.map (·.2)/\∃ sl:Nat,jQ h I #[rawInt sl,rawInt i,.ref a,rawInt es.size,rawInt ep]) \/
  (w.params.followText "set-order" = false/\(!t.plain&&decide (es.size > 1))=false/\t.led=true/\xI t/\ord=es.toList.map (·.2)/\∃ sl:Nat,jQ h I #[rawInt sl,rawInt i,.ref a,rawInt es.size,rawInt ep]/\SetTable.below t.place sl=i) \/
  ∃ places:List Nat,ord=places.map (fun p=>(es.getD p (0,.none)).2)/\(∀ p∈places,p<es.size)/\jQ h I #[.ref tp,rawInt i,.ref a,rawInt es.size,rawInt ep]/\h.get? tp=some { cls:=.type "tuple",data:=.seq (places.map fun p:Nat=>rawInt p).toArray }
theorem Dr {s:Shared} {a:Addr} {o:Obj} {es:Array (Int×Value)} {ep:Nat} {t:SetTable} {Q:Value->Shared->Prop} (ho:s.heap.get? a=some o) (hx:o.ExactSet) (hd:o.data=.set es ep t) (hf:t.fits es.size=true) (hb:es.size<scanBound) (tb:xI t) (ld:t.led=(!w.params.followText "set-order"))
  (h:∀ h' d ord I tp,ord.Perm (es.toList.map (·.2))->s.heap.objs.size<=I->(tp=a\/s.heap.objs.size<=tp)->I≠tp->Wk w a es ep t ord I tp 0 h'->(∀ b ob,s.heap.get? b=some ob->h'.get? b=some ob)->Q (.ref I) { s with heap:=h',drawn:=d }):wpAny (model prog w) A (pyIter (.ref a)) Q E s:=by
 have hT:s.TypeIs (.ref a) "set" := ⟨o,ho,hx.1⟩
 refine wpAny_pyIter_slot hT F.slot_set_iter (wpAny_call_entry (F.slot_set_iter) hT NE ?_ (F.args_set_iter_1 _))
 unfold Builtin.«frozenset.__iter__» Builtin.Frozenset.slot0 slotArgs
 simp only [List.isEmpty_nil,Bool.not_true,Bool.false_eq_true,↓reduceIte,bind_assoc,List.length_nil,bne_self_eq_false]
 unfold Builtin.Frozenset.addrOf Builtin.Frozenset.sizeOf
 refine wpAny_bind (wpAny_pure ?_)
 try dsimp only
 refine wpAny_bind (wpAny_pure ?_)
 refine wpAny_bind (wpAny_bind (wpAny_setEntries_of (es:=es) ho hd hf (wpAny_pure ?_)))
 unfold setDrawn setsByText
 refine wpAny_bind (wpAny_bind (wpAny_setState_of (es:=es) (t:=t) ho hd hf ?_))
 dsimp only
 refine wpAny_bind (wpAny_bind (wpAny_askSetting (wpAny_pure (wpAny_pure ?_))))
 show wpAny _ _ (if (!w.params.followText "set-order" && (!t.plain&&decide (es.size > 1)))=true then _ else _) _ _ _
 have hn:es.size<=sizeLine:=fits_of_scanBound hb
 by_cases c:(!w.params.followText "set-order" && (!t.plain&&decide (es.size > 1)))=true
 ·rw [if_pos c]
  refine wpAny_bind (Qq es.size _ s (by simp) fun ys d p=>?_)
  have ly:ys.length=es.size:=by rw [p.length_eq,List.length_range]
  refine wpAny_bind (wpAny_newTuple ?_ (by rw [List.length_map,ly]; exact hn))
  have ho1:(s.heap.push { cls:=.type "tuple",data:=.seq (ys.map fun i:Nat=>rawInt i).toArray }).get? a=some o:=Heap.get?_push_of_some _ ho
  refine wpAny_bind (wpAny_setEpoch_of (es:=es) (t:=t) ho1 hd hf ?_)
  unfold newFields
  refine wpAny_bind (wpAny_newObj_type (wpAny_pure ⟨_,rfl, "set_iterator",_,⟨_,Heap.get?_push_size _ rfl,rfl⟩,Y7.lookup,?_⟩))
  refine h _ d (ys.map fun p=>(es.getD p (0,.none)).2) _ s.heap.objs.size ?_ ?_ (.inr (Nat.le_refl _)) ?_ ⟨⟨o,Heap.get?_push_of_some _ ho1,hd⟩,.inr (.inr ⟨ys,rfl,fun q hq=>?_,Heap.get?_push_size _ rfl,Heap.get?_push_of_some _ (Heap.get?_push_size _ rfl)⟩)⟩ fun b ob e=>Heap.get?_push_of_some _ (Heap.get?_push_of_some _ e)
  ·refine (p.map _).trans (List.Perm.of_eq ?_)
   refine List.ext_getElem (by simp) fun j h1 h2=>?_
   have hj:j<es.size:=by simpa using h1
   simp [Array.getD,hj]
  ·rw [Heap.size_push]
   exact Nat.le_succ _
  ·rw [Heap.size_push]
   exact yQ (Nat.ne_of_gt (Nat.lt_succ_self _))
  ·simpa using p.mem_iff.mp hq
 ·rw [if_neg c]
  refine wpAny_bind (wpAny_pure (wpAny_bind (wpAny_setEpoch_of (es:=es) (t:=t) ho hd hf ?_)))
  unfold newFields
  refine wpAny_bind (wpAny_newObj_type (wpAny_pure ⟨_,rfl, "set_iterator",_,⟨_,Heap.get?_push_size _ rfl,rfl⟩,Y7.lookup,?_⟩))
  cases f:w.params.followText "set-order" with
  | true=>
   exact h _ s.drawn _ _ a ((GZ (w.params.setOrder a ep) es).map (·.2)) (Nat.le_refl _) (.inl rfl) (yQ (Nat.ne_of_gt (Heap.lt_size ho))) ⟨⟨o,Heap.get?_push_of_some _ ho,hd⟩,.inl ⟨f,rfl,0,Heap.get?_push_size _ rfl⟩⟩ fun b ob e=>Heap.get?_push_of_some _ e
  | false=>
   rw [f] at c ld
   have c:(!t.plain&&decide (es.size > 1))=false:=by
    rw [Bool.not_eq_true] at c
    exact c
   exact h _ s.drawn _ _ a (List.Perm.refl _) (Nat.le_refl _) (.inl rfl) (yQ (Nat.ne_of_gt (Heap.lt_size ho))) ⟨⟨o,Heap.get?_push_of_some _ ho,hd⟩,.inr (.inl ⟨f,c,ld,tb,rfl,0,Heap.get?_push_size _ rfl,MR tb.up⟩)⟩ fun b ob e=>Heap.get?_push_of_some _ e
theorem CN {s:Shared} {a:Addr} {o:Obj} {es:Array (Int×Value)} {ep:Nat} {t:SetTable} {sl g:Nat} {Q:Option (Value×Nat)->Shared->Prop} (ho:s.heap.get? a=some o) (hd:o.data=.set es ep t) (hf:t.fits es.size=true) (f:w.params.followText "set-order" = true)
  (h:Q (((pickOrder (w.params.setOrder a ep) es)[g]?).map fun e=>(e.2,sl)) s):wpAny (model prog w) A (setNext a sl g ep) Q E s:=by
 unfold setNext setsByText
 refine wpAny_bind (wpAny_setState_of (es:=es) (t:=t) ho hd hf ?_)
 dsimp only
 refine wpAny_bind (wpAny_bind (wpAny_askSetting (wpAny_pure ?_)))
 show wpAny _ _ (if w.params.followText "set-order" = true then _ else _) _ _ _
 rw [if_pos f,if_neg (by simp)]
 unfold setWalk setsByText
 refine wpAny_bind (wpAny_bind (wpAny_setState_of (es:=es) (t:=t) ho hd hf ?_))
 dsimp only
 refine wpAny_bind (wpAny_bind (wpAny_askSetting (wpAny_pure ?_)))
 show wpAny _ _ (if w.params.followText "set-order" = true then _ else _) _ _ _
 rw [if_pos f]
 exact wpAny_bind (wpAny_askSetting (wpAny_pure (wpAny_pure h)))
theorem CM {s:Shared} {a:Addr} {o:Obj} {es:Array (Int×Value)} {ep:Nat} {t:SetTable} {sl g e:Nat} {Q:Option (Value×Nat)->Shared->Prop} (ho:s.heap.get? a=some o) (hd:o.data=.set es ep t) (hf:t.fits es.size=true) (f:w.params.followText "set-order" = false) (c:(!t.plain&&decide (es.size > 1))=false) (ld:t.led=true)
  (h:Q (match es[SetTable.below t.place sl]?,t.place[SetTable.below t.place sl]? with | some (_,x),some j=>some (x,j+1) | _,_=>none) s):wpAny (model prog w) A (setNext a sl g e) Q E s:=by
 unfold setNext setsByText
 refine wpAny_bind (wpAny_setState_of (es:=es) (t:=t) ho hd hf ?_)
 dsimp only
 refine wpAny_bind (wpAny_bind (wpAny_askSetting (wpAny_pure ?_)))
 show wpAny _ _ (if w.params.followText "set-order" = true then _ else _) _ _ _
 rw [if_neg (by rw [f]; exact Bool.false_ne_true)]
 refine wpAny_bind (wpAny_pure ?_)
 show wpAny _ _ (if (!t.plain&&decide (es.size > 1))=true then _ else _) _ _ _
 rw [if_neg (by rw [c]; exact Bool.false_ne_true)]
 refine wpAny_bind (show wpAny _ _ (if (!t.led&&!es.isEmpty)=true then _ else _) _ _ _ from ?_)
 rw [if_neg (by rw [ld]; exact Bool.false_ne_true)]
 exact wpAny_pure (wpAny_pure h)
theorem U_ {s:Shared} {P:Fin->Shared->Prop} {Q:Option Value->Shared->Prop} (hh:A.handled=none) (h:∀ h',(∀ b ob,s.heap.get? b=some ob->h'.get? b=some ob)->Q none { s with heap:=h' }) :
  wpAny (model prog w) A.in1 (newExc (.type "StopIteration") [] >>= fun e=>(raiseNew e:Sem Fin)) P (fun e s'=>wpAny (model prog w) A (isInstance e (.type "StopIteration") >>= fun b=>if b=true then pure none else throw e) Q E s') s:=by
 refine wpAny_bind ?_
 simp only [newExc,newTuple]
 refine wpAny_bind (wpAny_newObj_type (wpAny_bind (m:=firstArgMember _ _) (wpAny_of_eq (a:=Value.none) (by first | rfl | (simp only [firstArgMember]; rfl)) (wpAny_newObj_type ?_ (by size_fits)))) (by size_fits))
 simp only [raiseNew]
 refine wpAny_bind (wpAny_handled ?_)
 rw [show A.in1.handled=none from hh]
 refine wpAny_bind (wpAny_pure ?_)
 refine wpAny_throw (wpAny_bind ?_)
 refine wpAny_isInstance (T := "StopIteration") (b:=true) ⟨_,Heap.get?_push_size _ rfl,rfl⟩ isSubtype_stop ?_
 exact wpAny_pure (h _ fun b ob e=>Heap.get?_push_of_some _ (Heap.get?_push_of_some _ e))
theorem qB {s:Shared} {I:Addr} {fs:Array Value} {k:Nat} {v:Value} {Q:Unit->Shared->Prop} (hit:jQ s.heap I fs) (hk:k<fs.size) (h:∀ h',jQ h' I (fs.setIfInBounds k v)->Heap.SameBut I s.heap h'->Q () { s with heap:=h' }):wpAny (model prog w) A (setField (.ref I) k v) Q E s:=
 wpAny_setField hit rfl hk (h _ (Heap.get?_update_self _ hit rfl) (Heap.SameBut.update ..))
theorem IT {s:Shared} {a:Addr} {es:Array (Int×Value)} {ep:Nat} {t:SetTable} {ord:List Value} {I tp:Addr} {i:Nat} {Q:Option Value->Shared->Prop} (hh:A.handled=none) (hIa:I≠a) (hIt:I≠tp) (hf:t.fits es.size=true) (lo:ord.length=es.size) (W:Wk w a es ep t ord I tp i s.heap) (hi:i<=ord.length)
  (h1:∀ v h',ord[i]?=some v->Wk w a es ep t ord I tp (i+1) h'->Heap.SameBut I s.heap h'->Q (some v) { s with heap:=h' })
  (h0:i=ord.length->∀ h',(∀ b ob,b≠I->s.heap.get? b=some ob->h'.get? b=some ob)->Q none { s with heap:=h' }):wpAny (model prog w) A (pyNext (.ref I)) Q E s:=by
 obtain ⟨⟨o,ho,hd⟩,md⟩:=W
 obtain ⟨first,hit⟩:∃ first,jQ s.heap I #[first,rawInt i,.ref a,rawInt es.size,rawInt ep]:=by
  rcases md with ⟨_,_,sl,z⟩ | ⟨_,_,_,_,_,sl,z,_⟩ | ⟨_,_,_,z,_⟩
  ·exact ⟨_,z⟩
  ·exact ⟨_,z⟩
  ·exact ⟨_,z⟩
 have hT:s.TypeIs (.ref I) "set_iterator" := ⟨_,hit,rfl⟩
 unfold pyNext
 refine wpAny_bind (wpAny_attempt (wpAny_callSpecial?_slot (name:=Str.ofString "__next__") hT Y7 (wpAny_call_entry Y7 hT NX ?_ (NV _))))
 unfold Builtin.«set_iterator.__next__» slotArgs
 simp only [List.isEmpty_nil,Bool.not_true,Bool.false_eq_true,↓reduceIte,bind_assoc,List.length_nil,bne_self_eq_false]
 refine wpAny_bind (wpAny_pure ?_)
 try dsimp only
 refine wpAny_bind (wpAny_fieldsOf hit rfl ?_)
 show wpAny _ _ (setEntries a >>= _) _ _ s
 refine wpAny_bind (wpAny_setEntries_of (es:=es) ho hd hf ?_)
 rw [if_neg (by simp)]
 refine wpAny_bind (wpAny_pure ?_)
 rcases md with ⟨f,eo,sl,z⟩ | ⟨f,c,ld,tb,eo,sl,z,hb⟩ | ⟨places,eo,hp,z,ht⟩
 ·cases (Option.some.inj (hit.symm.trans z))
  show wpAny _ _ (setNext a (sl:Int).toNat (i:Int).toNat (ep:Int).toNat >>= _) _ _ s
  rw [Int.toNat_natCast,Int.toNat_natCast,Int.toNat_natCast]
  have eg:((pickOrder (w.params.setOrder a ep) es)[i]?).map (fun e=>(e.2,sl))=(ord[i]?).map fun v=>(v,sl):=by
   rw [eo,List.getElem?_map,Array.getElem?_toList,Option.map_map]
   rfl
  refine wpAny_bind (CN ho hd hf f ?_)
  rw [eg]
  cases hv:ord[i]? with
  | some v=>
   show wpAny _ _ (setField (.ref I) 0 (rawInt sl) >>= _) _ _ _
   refine wpAny_bind (qB hit (by simp) fun h2 i2 k2=>?_)
   refine wpAny_bind (qB (s:={ s with heap:=h2 }) i2 (by simp) fun h3 i3 k3=>?_)
   refine wpAny_pure ⟨v,rfl,wpAny_pure (h1 v h3 hv ⟨⟨o,?_,hd⟩,.inl ⟨f,eo,sl,?_⟩⟩ (k2.trans k3))⟩
   ·exact (k3.2 a hIa.symm).trans ((k2.2 a hIa.symm).trans ho)
   ·exact i3
  | none=>
   show wpAny _ _ (setField (.ref I) 2 .none >>= _) _ _ _
   refine wpAny_bind (qB hit (by simp) fun h2 i2 k2=>?_)
   have e:i=ord.length:=by
    have:=List.getElem?_eq_none_iff.mp hv
    omega
   exact U_ hh fun h3 k3=>h0 e h3 fun b ob hbI eb=>k3 b ob ((k2.2 b hbI).trans eb)
 ·cases (Option.some.inj (hit.symm.trans z))
  show wpAny _ _ (setNext a (sl:Int).toNat (i:Int).toNat (ep:Int).toNat >>= _) _ _ s
  rw [Int.toNat_natCast,Int.toNat_natCast,Int.toNat_natCast]
  refine wpAny_bind (CM ho hd hf f c ld ?_)
  rw [hb]
  have hps:t.place.size=es.size:=by
   simp only [SetTable.fits,Bool.and_eq_true,beq_iff_eq] at hf
   exact hf.1
  by_cases hlt:i<es.size
  ·have e1:es[i]?=some (es[i].1,es[i].2):=Array.getElem?_eq_getElem hlt
   have e2:t.place[i]?=some (t.place[i]'(by omega)):=Array.getElem?_eq_getElem (by omega)
   rw [e1,e2]
   have hv:ord[i]?=some es[i].2:=by
    rw [eo,List.getElem?_map,Array.getElem?_toList,e1]
    rfl
   show wpAny _ _ (setField (.ref I) 0 (rawInt ((t.place[i]'(by omega)+1:Nat):Int)) >>= _) _ _ _
   refine wpAny_bind (qB hit (by simp) fun h2 i2 k2=>?_)
   refine wpAny_bind (qB (s:={ s with heap:=h2 }) i2 (by simp) fun h3 i3 k3=>?_)
   refine wpAny_pure ⟨es[i].2,rfl,wpAny_pure (h1 _ h3 hv ⟨⟨o,?_,hd⟩,.inr (.inl ⟨f,c,ld,tb,eo,t.place[i]'(by omega)+1,?_,MQ tb.up (by omega)⟩)⟩ (k2.trans k3))⟩
   ·exact (k3.2 a hIa.symm).trans ((k2.2 a hIa.symm).trans ho)
   ·exact i3
  ·have e1:es[i]?=none:=Array.getElem?_eq_none (by omega)
   rw [e1]
   show wpAny _ _ (setField (.ref I) 2 .none >>= _) _ _ _
   refine wpAny_bind (qB hit (by simp) fun h2 i2 k2=>?_)
   exact U_ hh fun h3 k3=>h0 (by omega) h3 fun b ob hbI eb=>k3 b ob ((k2.2 b hbI).trans eb)
 ·cases (Option.some.inj (hit.symm.trans z))
  show wpAny _ _ (seqItems? (.ref tp) >>= _) _ _ s
  refine wpAny_bind (wpAny_seqItems ht rfl ?_)
  have lp:places.length=es.size:=by rw [<- lo,eo,List.length_map]
  show wpAny _ _ (match (places.map fun p:Nat=>rawInt p).toArray[(i:Int).toNat]? with | some (.int place _)=>_ | some _=>_ | none=>_) _ _ _
  rw [Int.toNat_natCast]
  by_cases hlt:i<places.length
  ·have e1:(places.map fun p:Nat=>rawInt p).toArray[i]?=some (rawInt (places[i]:Nat)):=by simp [hlt]
   have hpi:=hp places[i] (List.getElem_mem hlt)
   have e2:es[places[i]]?=some (es[places[i]].1,es[places[i]].2):=Array.getElem?_eq_getElem hpi
   have hv:ord[i]?=some es[places[i]].2:=by
    rw [eo,List.getElem?_map,List.getElem?_eq_getElem hlt]
    simp [Array.getD,hpi]
   rw [e1]
   show wpAny _ _ (setNextDrawn a ((places[i]:Nat):Int).toNat (ep:Int).toNat >>= _) _ _ _
   rw [Int.toNat_natCast,Int.toNat_natCast]
   unfold setNextDrawn
   refine wpAny_bind (wpAny_bind (wpAny_setState_of (es:=es) (t:=t) ho hd hf ?_))
   dsimp only
   rw [if_neg (by simp),e2]
   refine wpAny_pure ?_
   refine wpAny_bind (qB hit (by simp) fun h2 i2 k2=>?_)
   refine wpAny_pure ⟨_,rfl,wpAny_pure (h1 _ h2 hv ⟨⟨o,(k2.2 a hIa.symm).trans ho,hd⟩,.inr (.inr ⟨places,eo,hp,i2,(k2.2 tp hIt.symm).trans ht⟩)⟩ k2)⟩
  ·have e1:(places.map fun p:Nat=>rawInt p).toArray[i]?=none:=by simp; omega
   rw [e1]
   show wpAny _ _ (setField (.ref I) 0 (rawInt 0) >>= _) _ _ _
   refine wpAny_bind (qB hit (by simp) fun h2 i2 k2=>?_)
   refine wpAny_bind (qB (s:={ s with heap:=h2 }) i2 (by simp) fun h3 i3 k3=>?_)
   exact U_ hh fun h4 k4=>h0 (by omega) h4 fun b ob hbI eb=>k4 b ob ((k3.2 b hbI).trans ((k2.2 b hbI).trans eb))
end
end L2
namespace L2
open PySem PySem.Spec PyProof PyProof.Rows
section
variable {prog:Program} {w:World} {A:Around} {E:Value->Shared->Prop}
theorem RE {a:Addr} {es:Array (Int×Value)} {ep:Nat} {t:SetTable} {ord:List Value} {I tp:Addr} (hh:A.handled=none) (hIa:I≠a) (hIt:I≠tp) (hf:t.fits es.size=true) (lo:ord.length=es.size) :
  Walks prog w A I [I,a,tp] [I] ord.length (fun i v=>ord[i]?=some v) (fun i h=>i<=ord.length/\Wk w a es ep t ord I tp i h) where
 sub:=fun b hb=>by
  rw [List.mem_singleton.mp hb]
  exact List.mem_cons_self ..
 frame:=fun i h h' ⟨hi,W⟩ k=>by
  obtain ⟨⟨o,ho,hd⟩,md⟩:=W
  have kI:=k I (List.mem_cons_self ..)
  have ka:=k a (List.mem_cons_of_mem _ (List.mem_cons_self ..))
  have kt:=k tp (List.mem_cons_of_mem _ (List.mem_cons_of_mem _ (List.mem_cons_self ..)))
  refine ⟨hi,⟨o,ka o ho,hd⟩,?_⟩
  rcases md with ⟨f,eo,sl,z⟩ | ⟨f,c,ld,tb,eo,sl,z,hb⟩ | ⟨places,eo,hp,z,ht⟩
  ·exact .inl ⟨f,eo,sl,kI _ z⟩
  ·exact .inr (.inl ⟨f,c,ld,tb,eo,sl,kI _ z,hb⟩)
  ·exact .inr (.inr ⟨places,eo,hp,kI _ z,kt _ ht⟩)
 item:=fun i s Q E hi ⟨hle,W⟩ hQ=>IT hh hIa hIt hf lo W hle (fun v h' hv W' k=>by
  have:=hQ v h' s.toks hv ⟨hi,W'⟩ fun b o hb e=>(k.2 b fun z=>hb (by rw [z]; exact List.mem_cons_self ..)).trans e
  exact this) fun z=>absurd z (Nat.ne_of_lt hi)
 done:=fun s Q E ⟨hle,W⟩ hQ=>IT hh hIa hIt hf lo W hle (fun v h' hv=>by
  rw [List.getElem?_eq_none (Nat.le_refl _)] at hv
  cases hv) fun _ h' k=>hQ h' s.toks fun b o hb e=>k b o (fun z=>hb (by rw [z]; exact List.mem_cons_self ..)) e
 self:=fun i s Q E ⟨hle,W⟩ hQ=>by
  obtain ⟨_,md⟩:=W
  have hT:s.TypeIs (.ref I) "set_iterator" := by
   rcases md with ⟨_,_,sl,z⟩ | ⟨_,_,_,_,_,sl,z,_⟩ | ⟨_,_,_,z,_⟩<;>exact ⟨_,z,rfl⟩
  refine wpAny_pyIter_slot hT LF (wpAny_call_entry LF hT NW (show wpAny _ _ (ret (.ref I)) _ _ s from ?_) (NU _))
  exact wpAny_pure ⟨_,rfl, "set_iterator",_,hT,Y7.lookup,hQ⟩
theorem DU {s:Shared} {a:Addr} {Q:Bool->Shared->Prop} (hT:s.TypeIs (.ref a) "set") (h:Q false s):wpAny (model prog w) A (Builtin.List.listLengthHint (.ref a)) Q E s:=by
 unfold Builtin.List.listLengthHint
 refine wpAny_bind (wpAny_specialOf hT (F.slot_set_len.lookup) ?_)
 generalize hi:("set.__len__" : String)=x
 wp_delta
 rw [show splitId x=some ("set", "__len__") from by subst hi; decide +kernel]
 subst hi
 refine wpAny_bind (wpAny_isInstance (T := "set") (b:=true) hT (by rw [isSubtype_type]; kernel_rfl) ?_)
 refine wpAny_ite_split (fun z=>absurd z (by decide)) fun _=>wpAny_ite_split (fun _=>?_) fun z=>absurd (by decide +kernel) z
 exact wpAny_bind (wpAny_typeOf hT (wpAny_pure h))
theorem B1 {s:Shared} {a:Addr} {o:Obj} {es:Array (Int×Value)} {ep:Nat} {t:SetTable} {Q:List Value->Shared->Prop} (hh:A.handled=none) (ho:s.heap.get? a=some o) (hx:o.ExactSet) (hd:o.data=.set es ep t) (hf:t.fits es.size=true) (hb:es.size<scanBound) (tb:xI t) (ld:t.led=(!w.params.followText "set-order"))
  (h:∀ h' d tk ord,ord.Perm (es.toList.map (·.2))->s.heap.objs.size<h'.objs.size->(∀ b ob,s.heap.get? b=some ob->h'.get? b=some ob)->Q ord { s with heap:=h',drawn:=d,toks:=tk }):wpAny (model prog w) A (collect (.ref a)) Q E s:=by
 unfold collect
 refine wpAny_bind (wpAny_runValue (codeAny_builtin (entry_proto_collect') ?_))
 show wpAny _ _ (newList [] >>= fun l=>again (.builtin "list.__iadd__" ⟨[l,.ref a],[]⟩)) _ _ s
 refine wpAny_bind (wpAny_newList (wpAny_pure ⟨Code.quiet_builtin _ (by decide +kernel),codeAny_builtin (entry_list_iadd') ?_⟩))
 show wpAny _ _ (Builtin.List.listExtendWith (.ref s.heap.objs.size) (.ref a) (.ref s.heap.objs.size)) _ _ { s with heap:=s.heap.push (seqObj "list" #[] 0) }
 unfold Builtin.List.listExtendWith
 have ho0:(s.heap.push (seqObj "list" #[] 0)).get? a=some o:=Heap.get?_push_of_some _ ho
 have hlt:=Heap.lt_size ho
 have neS:s.heap.objs.size≠a:=yQ (Nat.ne_of_gt hlt)
 refine wpAny_bind (wpAny_typeOf (T := "set") ⟨o,ho0,hx.1⟩ ?_)
 have q1:Builtin.List.listSameRef (.ref s.heap.objs.size) (.ref a)=false:=by simp [Builtin.List.listSameRef,neS]
 have q2:(Value.type "set" == Value.type "list")=false:=by decide
 have q3:(Value.type "set" == Value.type "tuple")=false:=by decide
 rw [if_neg (by rw [q1,q2,q3]; exact Bool.false_ne_true)]
 refine wpAny_bind (Dr ho0 hx hd hf hb tb ld fun h1 d ord I tp pm hI htp hIt W0 kp=>?_)
 refine wpAny_bind (wpAny_holding (DU ⟨o,kp a o ho0,hx.1⟩ ?_))
 refine wpAny_ite_split (fun _=>?_) fun z=>absurd (by decide +kernel) z
 refine wpAny_bind (wpAny_rule (wpAny_bind ?_))
 have z0:(s.heap.push (seqObj "list" #[] 0)).objs.size=s.heap.objs.size+1:=Heap.size_push ..
 rw [z0] at hI htp
 have lo:ord.length=es.size:=by rw [pm.length_eq,List.length_map,Array.length_toList]
 have hIa:I≠a:=yQ (Nat.ne_of_gt (Nat.lt_of_lt_of_le (Nat.lt_succ_of_lt hlt) hI))
 have hSf:s.heap.objs.size ∉ [I,a,tp]:=fun m=>by
  simp only [List.mem_cons,List.not_mem_nil,or_false] at m
  rcases m with m | m | m
  ·exact absurd hI (by rw [<- m]; exact Nat.not_succ_le_self _)
  ·exact neS m
  ·rcases htp with e | e
   ·exact neS (m.trans e)
   ·exact absurd e (by rw [<- m]; exact Nat.not_succ_le_self _)
 show wpAny _ _ (updateSeq s.heap.objs.size (·.push .none) >>= fun _=>updateSeq s.heap.objs.size (·.pop)) _ _ _
 have S1:h1.get? s.heap.objs.size=some (seqObj "list" #[] 0):=kp _ _ (Heap.get?_push_size _ rfl)
 refine wpAny_bind (wpAny_updateSeq S1 rfl ?_)
 have S2:=Heap.get?_update_self (Obj.mapSeq (·.push Value.none)) S1 rfl
 refine wpAny_updateSeq (hz:=by seq_fits) S2 rfl (wpAny_pure ⟨plainId_quiet (F.plain_extend_loop) _,?_⟩)
 have S3:=Heap.get?_update_self (Obj.mapSeq (·.pop)) S2 rfl
 have W:=RE (prog:=prog) (w:=w) (A:=A.in1) (ep:=ep) (t:=t) (es:=es) (by exact hh) hIa hIt hf lo
 have keep:∀ b ob,b≠s.heap.objs.size->h1.get? b=some ob->((h1.update s.heap.objs.size (Obj.mapSeq (·.push Value.none))).update s.heap.objs.size (Obj.mapSeq (·.pop))).get? b=some ob:=fun b ob hbS e=>
  (Heap.get?_update_other _ _ (Ne.symm hbS)).trans ((Heap.get?_update_other _ _ (Ne.symm hbS)).trans e)
 refine codeAny_extend_loopS W.toS (by rw [lo]; exact fits_of_scanBound hb) s.heap.objs.size hSf (.ref s.heap.objs.size) ord.length 0 _ #[] _ rfl (Nat.zero_le _) (W.frame 0 h1 _ ⟨Nat.zero_le _,W0⟩ fun b hb' ob e=>keep b ob (fun z=>hSf (z ▸ hb')) e) S3 (ItemsOf.nil _) fun s' acc' c' hm hS' hacc=>?_
 rw [Moved.eq_with hm]
 refine wpAny_bind (wpAny_load hS' ?_)
 have ea:acc'.toList=ord:=by
  refine List.ext_getElem? fun j=>?_
  by_cases c:j<ord.length
  ·have hj:j<acc'.size:=by rw [hacc.1]; exact c
   rw [Array.getElem?_toList,Array.getElem?_eq_getElem hj]
   exact (hacc.2 j _ (Array.getElem?_eq_getElem hj)).symm
  ·rw [List.getElem?_eq_none (by rw [Array.length_toList,hacc.1]; omega),List.getElem?_eq_none (by omega)]
 show wpAny _ _ (pure acc'.toList) _ _ _
 rw [ea]
 refine wpAny_pure (h s'.heap d s'.toks ord pm (Heap.lt_size hS') fun b ob e=>?_)
 have hbl:=Heap.lt_size e
 refine hm.heap b ob (fun m=>?_) (keep b ob (yQ (Nat.ne_of_lt hbl)) (kp b ob (Heap.get?_push_of_some _ e)))
 rcases List.mem_cons.mp m with m | m
 ·exact absurd hbl (by rw [m]; exact Nat.lt_irrefl _)
 ·rw [List.mem_singleton.mp m] at hbl
  exact absurd (Nat.lt_of_lt_of_le hbl (Nat.le_of_succ_le hI)) (Nat.lt_irrefl _)
end
end L2
namespace L2
open PySem PySem.Spec PyProof PyProof.Rows
def Vi:Value->Int
 | .int i _=>i
 | _=>0
theorem JP:∀ {vs:List Value},(∀ v∈vs,∃ i t,v=.int i t)->IntsAre vs (vs.map Vi)
 | [],_=>.nil
 | v::vs,h=>by
  obtain ⟨i,t,rfl⟩:=h v (List.mem_cons_self ..)
  exact .cons _ _ (JP fun x hx=>h x (List.mem_cons_of_mem _ hx))
section
variable {prog:Program} {w:World} {A:Around} {E:Value->Shared->Prop}
theorem No {s:Shared} {a:Addr} {ns:List Int} {Q:Value->Shared->Prop} (hh:A.handled=none) (z:vd prog w a (ns.map Sum.inl) s.heap) (h64:ns.length<64)
  (h:∀ h' d tk p out c ns',s.heap.objs.size<=p->h'.get? p=some (seqObj "list" out c)->IntsAre out.toList ns'->ns'.Perm ns->ns'.Pairwise (·<=·)->(∀ b ob,s.heap.get? b=some ob->h'.get? b=some ob)->Q (.ref p) { s with heap:=h',drawn:=d,toks:=tk }) :
  wpAny (model prog w) A (call (.builtin "sorted") [.ref a]) Q E s:=by
 obtain ⟨o,es,ep,t,ho,hx,hd,hel,hb,hf,tb,ld,pk⟩:=z
 refine Calls.call_function_entry kind_sorted plain_sorted entry_sorted (args_sorted1 _) ?_
 unfold Builtin.«sorted»
 refine wpAny_bind (m:=checkCount "sorted" 1 1 _) (wpAny_pure (wpAny_bind (B1 (by exact hh) ho hx hd hf hb tb ld fun h1 d tk ord pm hle kp=>wpAny_bind (wpAny_newList ?_ (by rw [pm.length_eq,List.length_map,Array.length_toList]; exact fits_of_scanBound hb)))))
 have pk2:(ord.map qd).Perm (ns.map Sum.inl):=by
  have:=pm.map qd
  rw [List.map_map] at this
  exact this.trans pk
 have hv:∀ v∈ord,∃ i tk,v=Value.int i tk:=fun v hv=>by
  obtain ⟨e,he,rfl⟩:=List.mem_map.mp (pm.mem_iff.mp hv)
  obtain ⟨i,_,ei⟩:=List.mem_map.mp (pk2.mem_iff.mp (List.mem_map_of_mem hv))
  have:=Qv hel he
  rw [<- ei] at this
  rcases uL this with ⟨j,tk,_,e⟩ | ⟨x,tk,e,_⟩
  ·exact ⟨j,tk,e⟩
  ·cases e
 have hI:=JP hv
 have pj:(ord.map Vi).Perm ns:=by
  have g:=pk2.map fun k:Key=>match k with | .inl i=>i | .inr _=>(0:Int)
  rw [List.map_map,List.map_map] at g
  have e1:ns.map ((fun k:Key=>match k with | .inl i=>i | .inr _=>(0:Int)) ∘ Sum.inl)=ns:=by
   rw [show ((fun k:Key=>match k with | .inl i=>i | .inr _=>(0:Int)) ∘ Sum.inl)=id from rfl,List.map_id]
  have e2:ord.map ((fun k:Key=>match k with | .inl i=>i | .inr _=>(0:Int)) ∘ qd)=ord.map Vi:=List.map_congr_left fun v hvv=>by
   obtain ⟨i,tk,rfl⟩:=hv v hvv
   rfl
  rw [e1,e2] at g
  exact g
 have l64:ord.length<64:=by
  have:=pj.length_eq
  rw [List.length_map] at this
  omega
 have g1:(h1.push (seqObj "list" ord.toArray 0)).get? h1.objs.size=some (seqObj "list" ord.toArray 0):=Heap.get?_push_size _ rfl
 refine wpAny_bind (wpAny_holding (wpAny_call_entry slot_list_sort ⟨_,g1,rfl⟩ entry_list_sort (list_sort_tree g1 hI l64 fun out ns' a1 a2 a3=>⟨_,rfl,?_⟩) (args_list_sort _)))
 obtain ⟨c,hc⟩:=sortedHeap_at (vs:=ord) (out:=out) g1
 refine wpAny_pure ⟨_,rfl,h _ d tk h1.objs.size out c ns' (Nat.le_of_lt hle) hc a1 (a2.trans pj) a3 fun b ob e=>?_⟩
 have hbl:=Heap.lt_size (kp b ob e)
 rw [sortedHeap_old (yQ (Nat.ne_of_lt hbl)) (by rw [size_push']; exact Nat.lt_succ_of_lt hbl)]
 exact Heap.get?_push_of_some _ (kp b ob e)
end
section
variable {X:Cx}
abbrev gZ (prog:Program) (w:World) (a:Addr) (ks:List Key):HO:=.ext (vd prog w a ks)
def Hc (X:Cx):List V->Hp->VK->Prop:=fun xs H Q=>∃ (a:Addr) (ks:List Key),xs=[.ref a]/\zw X.K H a (ks.map kV)/\ks.length<1000/\∀ p,H p=none->Q (.ref p) (zX H p (gZ X.prog X.w p (ks.foldl addK [])))
theorem Mo (hcalm:X.calm=true):xr X (.type "set") (Hc X):=by
 intro pins s σ H xs us Q I r h
 obtain ⟨a,ks,rfl,sq,hl,q⟩:=h
 obtain ⟨u,rfl,ru⟩:=vU r
 cases (show u=Value.ref a from ru)
 obtain ⟨its,rv,⟨o,n,ho,hc,hdd,hdat⟩,hz⟩:=I.list sq
 have hn:ks.length=its.length:=by rw [<- rv.length,List.length_map]
 refine Mq (I.ok.hd hcalm) ho hc hdat hn (Vp X.prog X.w rv) (by unfold scanBound; omega) fun h' tk hs kp=>?_
 refine ⟨.ref s.heap.objs.size,_,I.laid (a:=s.heap.objs.size) (o:=gZ X.prog X.w s.heap.objs.size (ks.foldl addK [])) (t':=tk) kp (Nat.le_refl _) ⟨hs,?_,fun h1 h2 z k=>z.keep k⟩,rfl,q _ I.fresh⟩
 obtain ⟨o',_,_,_,e,_⟩:=hs
 exact ⟨o',e⟩
theorem _root_.L2.Inv.draw {pins:List (Addr×Obj)} {σ:St} {H:Hp} {s:Shared} (I:Inv X pins σ H s) (d:Drawn):Inv X pins σ H { s with drawn:=d }:=⟨I.ok,I.os,I.bare,I.base,I.loc,I.cell,I.free,I.freeC,I.pin,I.hok,I.len⟩
def Hf (X:Cx):List V->Hp->VK->Prop:=fun xs H Q=>∃ (a:Addr) (ns:List Int),xs=[.ref a]/\H a=some (gZ X.prog X.w a (ns.map Sum.inl))/\ns.length<64/\∀ l,H l=none->Q (.ref l) (zX H l (.lst ((isort ns).map V.int)))
theorem Ms (hcalm:X.calm=true):xr X (.builtin "sorted") (Hf X):=by
 intro pins s σ H xs us Q I r h
 obtain ⟨a,ns,rfl,ea,h64,q⟩:=h
 obtain ⟨u,rfl,ru⟩:=vU r
 cases (show u=Value.ref a from ru)
 obtain ⟨z,_⟩:=(show yo X.prog X.w H s.heap a (gZ X.prog X.w a (ns.map Sum.inl)) from I.hok a _ ea)
 refine No (I.ok.hd hcalm) z h64 fun h' d tk p out c ns' hp hc a1 a2 a3 kp=>?_
 have e:ns'=isort ns:=Uw (a2.trans (isort_perm ns).symm) a3 (isort_sorted ns)
 subst e
 have hl2:(isort ns).length=ns.length:=(isort_perm ns).length_eq
 refine ⟨.ref p,_,(I.draw d).laid (t':=tk) (h':=h') kp hp (show yo X.prog X.w _ _ _ (.lst ((isort ns).map V.int)) from ⟨?_,out.toList,c,Vj a1,?_⟩),rfl,q _ (I.hok.fresh hp)⟩
 ·rw [List.length_map,hl2]
  show _<=sizeLine
  rw [sizeLine_eq]
  omega
 ·rw [Array.toArray_toList]
  exact hc
end
end L2
namespace L3
open PySem PySem.Spec PyProof.Rows L2
def uJ (acc:List Int) (n:Int):List Int:=if (acc.any fun m=>decide (m=n))=true then acc else acc++[n]
def vC (ns:List Int):List Int:=ns.foldl uJ []
theorem ME (acc:List Int) (n:Int):addK (acc.map Sum.inl) (.inl n)=(uJ acc n).map Sum.inl:=by
 have e:memK (acc.map Sum.inl) (.inl n)=acc.any fun m=>decide (m=n):=by
  unfold memK
  rw [List.any_map]
  congr 1
  funext m
  exact decide_eq_decide.mpr ⟨Sum.inl.inj,congrArg _⟩
 unfold addK uJ
 rw [e]
 split
 ·rfl
 ·rw [List.map_append]
  rfl
theorem Iu:∀ (ns acc:List Int),(ns.map Sum.inl).foldl addK (acc.map Sum.inl)=(ns.foldl uJ acc).map Sum.inl
 | [],_=>rfl
 | n::ns,acc=>by
  rw [List.map_cons,List.foldl_cons,List.foldl_cons,ME]
  exact Iu ns (uJ acc n)
def pP:List D->Option D
 | [.lst xs]=>(intsOf xs).bind fun ns=>if ns.length<1000/\(vC ns).length<64 then some (.lst ((isort (vC ns)).map D.int)) else none
 | _=>none
theorem Uv {X:Cx} {e:Expr} {fs:FA} {p p2 pos pos2:Pos} (hcalm:X.calm=true) (hg:Gl X "sorted") (hm:X.mg "sorted" = none) (hg2:Gl X "set") (hm2:X.mg "set" = none) (ha:SA X [e] fs) (hs:yl e=true:=by rfl) :
  SF X (.Call (.Name "sorted" p) [.Call (.Name "set" p2) [e] [] pos2] [] pos) (eL pP fs):=by
 obtain ⟨t,pt,k⟩:=ha.h
 have q1:=jw (p:=p2) (pos:=pos2) (Mo hcalm) hg2 hm2 QY ⟨pt⟩ (by decide) (by decide) (by rw [List.all_cons,hs]; rfl)
 refine ⟨⟨_,(Z7 (p:=p) (pos:=pos) (Ms hcalm) hg hm QZ (Z6 q1 Xw) (by decide) (by decide)).h,fun {G0 H0 G H τ σ d Q} E hf q=>?_⟩⟩
 obtain ⟨ds,hd,hf⟩:=zG hf
 refine k E hd fun vs G1 H1 x1 r1=>?_
 match ds,hf with
 | [.lst xs],hf=>
  obtain ⟨ns,hn,hf⟩:=zG (show (intsOf xs).bind _=some d from hf)
  split at hf
  ·rename_i h64
   cases hf
   obtain ⟨v,rfl,a,us,rfl,sq,rs,l⟩:=uc r1
   rw [JQ hn] at rs l
   rw [Ou rs] at sq
   have sq:zw X.K G1 a ((ns.map Sum.inl).map kV):=by
    rw [List.map_map]
    exact sq
   have ek:(ns.map Sum.inl).foldl addK []=(vC ns).map Sum.inl:=Iu ns []
   refine ⟨a,ns.map Sum.inl,rfl,wB x1.gh sq,by rw [List.length_map]; exact h64.1,fun p1 hp1=>?_⟩
   have x2:=x1.trans (zN.layO (o:=gZ X.prog X.w p1 ((ns.map Sum.inl).foldl addK [])) x1.gh hp1)
   refine ⟨p1,vC ns,rfl,by rw [ek]; exact yj,h64.2,fun p hp=>?_⟩
   refine q p _ _ (x2.trans (zN.layO x2.gh hp)) (x2.h.free hp) (x2.gh.free hp) ⟨_,yj,JO _,?_⟩
   rw [List.length_map,(isort_perm _).length_eq]
   show _<=16777216
   omega
  ·cases hf
end L3
namespace L2
open PySem PySem.Spec PyProof PyProof.Rows
def gI (i j c:Int):Nat:=if i<j then ((j - i - 1) / c+1).toNat else 0
theorem LR {i j c:Int} (hc:0<c):Builtin.Range.rangeSize i j c=(gI i j c:Int):=by
 unfold Builtin.Range.rangeSize gI
 rw [if_pos hc]
 split
 ·have:0<=(j - i - 1) / c:=Int.ediv_nonneg (by omega) (by omega)
  omega
 ·rfl
theorem P1 {i j c:Int} (hc:0<c):gI i j c<=(j - i).toNat:=by
 unfold gI
 split
 ·have:(j - i - 1) / c<=j - i - 1:=Int.ediv_le_self _ (by omega)
  omega
 ·omega
theorem Nj {i j c:Int} (hc:0<c) (h1:i.natAbs<=16777216) (h2:j.natAbs<=16777216) (h3:c<=16777216):Builtin.Range.small i j c=true:=by
 unfold Builtin.Range.small
 rw [LR hc]
 have:=P1 (i:=i) (j:=j) hc
 simp only [Builtin.Range.rangeFitsLong,Bool.and_eq_true,Bool.or_eq_true,decide_eq_true_eq,beq_iff_eq,if_pos (show c > 0 from hc)]
 generalize gI i j c=n at *
 omega
section
variable {X:Cx} {tg:Expr}
end
end L2
namespace L3
open PySem PySem.Spec PyProof.Rows L2
end L3
namespace L2
open PySem PySem.Spec PyProof PyProof.Rows
open PySem.AutoSeq1 in
theorem Fw (l:Addr) (items:Array Value) (n:Nat) (b:Addr) (items2:Array Value) (n2:Nat) (d2:Option Addr) (sl2:Array (Option Value)) (hc0:¬(!items.isEmpty&&Builtin.List.listTooLong (items.size+items2.size))=true) (hc1:items.size<=sizeLine) (hs2:items.size+items2.size<=sizeLine+1) :
  Meets (Builtin.«list.extend» ⟨[.ref l,.ref b],[]⟩) (fun _ R s=>s.heap.get? l=some { cls:=.type "list",dict:=none,data:=.seq items n,slots:=#[] }/\s.heap.get? b=some { cls:=.type "list",dict:=d2,data:=.seq items2 n2,slots:=sl2 }/\R (.ok (.ret Value.none)) { s with heap:=s.heap.update l (Obj.mapSeq fun x=>x++items2),toks:=s.toks }):=
 .of_wp fun prog w A R s h=>by
  obtain ⟨hp,g,d,tk,os⟩:=s
  obtain ⟨hl,hb,h⟩:=h
  have f1:=idx_int; have f2:=AutoSeq1.sub_tuple_tuple; have f3:=AutoSeq1.sub_list_list; have f4:=AutoSeq1.sub_tuple_list; have f5:=AutoSeq1.sub_list_tuple
  have hz':(items++items2).size<=sizeLine+1:=by rw [Array.size_append]; exact hs2
  wp_walk using (wpAny_updateSeq hl rfl (hz:=hc1) (_hz':=hz')),wpAny_loadPart' hl,wpAny_loadPart' hb
  exact ⟨_,rfl,h⟩
theorem zY.of_get:∀ {xs:List V} {us:List Value},us.length=xs.length->(∀ (j:Nat) (x:V) (v:Value),xs[j]?=some x->us[j]?=some v->zi x v)->zY xs us
 | [],[],_,_=>.nil
 | [],_::_,h,_=>by cases h
 | _::_,[],h,_=>by cases h
 | x::xs,u::us,h,f=>.cons (f 0 x u rfl rfl) (zY.of_get (by simpa using h) fun j y v h1 h2=>f (j+1) y v (by simpa using h1) (by simpa using h2))
section
variable {X:Cx}
def HP (K:PySem.W.Frag):V->List V->Hp->VK->Prop:=fun x vs H Q=>∃ l b xs zs,x=.ref l/\vs=[.ref b]/\H l=some (.lst xs)/\zw K H b zs/\xs.length+zs.length<=sizeLine/\Q .non (zX H l (.lst (xs++zs)))
theorem IP:YK X "list.extend" (HP X.K):=by
 intro pins s σ H x vs v us Q I rx rv h
 obtain ⟨l,b,xs,zs,rfl,rfl,hH,hB,hz,q⟩:=h
 cases rx
 obtain ⟨u,rfl,ru⟩:=rv.one
 cases ru
 obtain ⟨z,its,n,r,hl,e⟩:=I.lstM hH
 obtain ⟨its2,r2,p2,_⟩:=I.list hB
 obtain ⟨⟨c2,d2,t2,sl2⟩,n2,ho2,hc2,hd2,ht2⟩:=p2
 simp only at hc2 ht2
 subst hc2 ht2
 have hl2:=r2.length
 have hsz:its.toArray.size+its2.toArray.size<=sizeLine:=by rw [List.size_toArray,List.size_toArray]; omega
 have hlong:¬ (!its.toArray.isEmpty&&Builtin.List.listTooLong (its.toArray.size+its2.toArray.size))=true:=by
  rw [Id hsz,Bool.and_false]
  exact Bool.false_ne_true
 refine call_meets F.slot_list_extend ⟨_,e,rfl⟩ F.entry_list_extend (F.args_list_extend_2 _ _)
  (Fw l its.toArray n b its2.toArray n2 d2 sl2 hlong (by rw [List.size_toArray]; omega) (by omega)) ⟨e,ho2,?_⟩
 refine ⟨.non,_,I.lset (its':=its++its2) hH e (by simp) (r.append r2) ?_,rfl,q⟩
 rw [List.length_append]
 omega
def Tw (a:Addr) (n:Nat) (h:Heap):Prop:=∃ t u v,IsRange h a 0 n 1 t u v
abbrev gW (a:Addr) (n:Nat):HO:=.ext (Tw a n)
def HX:List V->Hp->VK->Prop:=fun xs H Q=>∃ j:Int,xs=[.int j]/\0<=j/\∀ p,H p=none->Q (.ref p) (zX H p (gW p j.toNat))
theorem Mm:xr X (.type "range") HX:=by
 intro pins s σ H xs us Q I r h
 obtain ⟨j,rfl,h0,q⟩:=h
 obtain ⟨u,rfl,ru⟩:=vU r
 obtain ⟨t,rfl⟩:=(show ∃ t,u=Value.int j t from ru)
 refine call_range_1 ?_
 have e:((j.toNat:Nat):Int)=j:=by omega
 have hr:Tw s.heap.objs.size j.toNat (s.heap.push { cls:=.type "range",data:=.fields #[.int 0 s.toks,.int j t,.int 1 (s.toks+1)] }):=by
  refine ⟨s.toks,t,s.toks+1,?_⟩
  rw [e]
  exact IsRange.new ..
 refine ⟨.ref s.heap.objs.size,_,I.laid (a:=s.heap.objs.size) (o:=gW s.heap.objs.size j.toNat) (fun _ _ q=>Heap.get?_push_of_some _ q) (Nat.le_refl _) ⟨hr,?_,fun h1 h2 z k=>?_⟩,rfl,q _ I.fresh⟩
 ·obtain ⟨t,u,v,e⟩:=hr
  exact ⟨_,e⟩
 ·obtain ⟨t,u,v,e⟩:=z
  exact ⟨t,u,v,k _ e⟩
def HU:List V->Hp->VK->Prop:=fun xs H Q=>∃ (a:Addr) (n:Nat),xs=[.ref a]/\H a=some (gW a n)/\n<=1000000/\∀ p,H p=none->Q (.ref p) (zX H p (.lst ((List.range n).map fun k:Nat=>V.int k)))
theorem Mk (hcalm:X.calm=true):xr X (.type "list") HU:=by
 intro pins s σ H xs us Q I r h
 obtain ⟨a,n,rfl,ea,hn,q⟩:=h
 obtain ⟨u,rfl,ru⟩:=vU r
 cases (show u=Value.ref a from ru)
 obtain ⟨⟨t,u,v,hr⟩,_⟩:=(show yo X.prog X.w H s.heap a (gW a n) from I.hok a _ ea)
 have hs:Builtin.Range.rangeSize 0 (n:Int) 1=(n:Int):=by
  rw [LR (by decide)]
  unfold gI
  split<;>omega
 refine call_list_range (I.ok.hd hcalm) hr (Nj (by decide) (by decide) (by omega) (by decide)) hs (by omega) fun h' tk acc' c' kp hS hacc=>?_
 obtain ⟨hsz,hat⟩:=hacc
 have rv:zY ((List.range n).map fun k:Nat=>V.int k) acc'.toList:=by
  refine zY.of_get (by simp [hsz]) fun j x v h1 h2=>?_
  rw [List.getElem?_map,List.getElem?_range (by
   have:=(List.getElem?_eq_some_iff.mp h2).1
   rw [Array.length_toList,hsz] at this
   exact this)] at h1
  cases h1
  obtain ⟨t,e⟩:=hat j v (by rw [<- Array.getElem?_toList]; exact h2)
  refine ⟨t,?_⟩
  rw [e]
  simp
 refine ⟨.ref s.heap.objs.size,_,I.laid (a:=s.heap.objs.size) (o:=.lst ((List.range n).map fun k:Nat=>V.int k)) (t':=tk) kp (Nat.le_refl _) ⟨?_,acc'.toList,c',rv,?_⟩,rfl,q _ I.fresh⟩
 ·rw [List.length_map,List.length_range,sizeLine_eq]
  show n<=16777216
  omega
 ·rw [hS]
end
end L2
namespace L3
open PySem PySem.Spec PyProof.Rows L2
def VO:List D->Option D
 | [.int j]=>if 0<=j/\j<=1000000 then some (.lst ((List.range j.toNat).map fun k:Nat=>.int k)) else none
 | _=>none
theorem Hn {K:PySem.W.Frag} {G:Hp} (l:List Nat):Reps K G (l.map fun k:Nat=>D.int k) (l.map fun k:Nat=>V.int k):=by
 induction l with
 | nil=>rfl
 | cons a r ih=>exact ⟨_,_,rfl,rfl,ih⟩
section
variable {X:Cx} {x y:Str} {xp yp pos apos cpos:Pos} {e:Expr} {f:FE}
theorem LM {i j:Nat} (ho:QE X (.Name x xp) (we i)) (hN:X.N.Nodup) (hj:X.N[j]?=some y) (hy:vG X.env.scope y)
  (hbase:attributeBase (.Name x xp) "pop" X.env (eval (.Name x xp) X.env)=eval (.Name x xp) X.env:=by rfl) (hline:(apos.endLine == cpos.line)=true:=by rfl) (hf:X.fn y=true\/X.env.scope.names.lookup y=some .local:=by first | exact .inl rfl | exact .inr rfl | assumption) :
  SS X (.Assign [.Name y yp] (.Call (.Attribute (.Name x xp) "pop" apos) [] [] cpos) pos) (qp j i):=by
 refine ⟨⟨_,(Xx hN hj hy (OU PySem.F.plainAttrs_list PySem.F.slot_list_pop PySem.F.type_list_pop C8 ho hbase hline) rfl hf).h,fun {G0 H0 G H τ σ fl E} K hf q=>?_⟩⟩
 unfold qp at hf
 split at hf
 ·rename_i ds hd
  obtain ⟨d,hl,hf⟩:=zG hf
  by_cases hne:j=i
  ·rw [if_pos hne] at hf
   cases hf
  ·rw [if_neg hne] at hf
   cases hf
   obtain ⟨aa,ea,g,z,vs,ev,rs,l⟩:=K.ow _ _ hd
   rw [List.getLast?_eq_getElem?] at hl
   obtain ⟨v,hv,rv⟩:=rs.get hl
   rw [<- rs.length] at hv
   refine ⟨_,ea,.inl ⟨rfl,vs,zw.of ev⟩,aa,vs,v,rfl,rfl,ev,hv,?_⟩
   refine q _ _ _ ((K.mut (d':=.lst ds.dropLast) hd ea ⟨_,yj,Reps.dropLast rs,?_⟩).set (List.getElem?_eq_some_iff.mp hj).1 rv)
   rw [List.length_dropLast]
   omega
 ·cases hf
theorem LJ {i:Nat} (ho:QE X (.Name x xp) (we i)) (he:SE X e f) (hbase:attributeBase (.Name x xp) "extend" X.env (eval (.Name x xp) X.env)=eval (.Name x xp) X.env:=by rfl) (hline:(apos.endLine == cpos.line)=true:=by rfl) (hs:yl e=true:=by rfl) :
  SS X (.Expr (.Call (.Attribute (.Name x xp) "extend" apos) [e] [] cpos) pos) (xZ i f):=by
 obtain ⟨t,p,k⟩:=(zC he zH hs).h
 refine ⟨⟨_,(Z8 (jv PySem.F.plainAttrs_list PySem.F.slot_list_extend PySem.F.type_list_extend IP ho ⟨p⟩ hbase hline (by rw [List.all_cons,hs]; rfl) (by show 1<30; decide)) rfl).h,fun {G0 H0 G H τ σ fl E} K hf q=>?_⟩⟩
 unfold xZ at hf
 split at hf
 ·rename_i xs hd
  obtain ⟨y,hy,hf⟩:=zG hf
  cases y with
  | lst ys=>
   change (if xs.length+ys.length<=zy then some (Fl.nx (τ.set i (some (true,.lst (xs++ys))))) else none)=some fl at hf
   by_cases c:xs.length+ys.length<=zy
   ·rw [if_pos c] at hf
    cases hf
    obtain ⟨aa,ea,g,z,vs,ev,rs,l⟩:=K.ow _ _ hd
    refine ⟨_,ea,.inl ⟨rfl,vs,zw.of ev⟩,k K (ds:=[.lst ys]) (by unfold zA; rw [hy]; rfl) fun us G1 H1 x1 r1=>?_⟩
    obtain ⟨v,rfl,b,zs,rfl,sq,rz,_⟩:=uc r1
    refine ⟨aa,b,vs,zs,rfl,rfl,x1.h _ _ ev,wB x1.gh sq,by rw [rs.length,rz.length,sizeLine_eq]; exact c,?_⟩
    refine q _ _ _ ((K.go x1).mut hd ea ⟨_,yj,(rs.mono x1.g).append rz,?_⟩)
    rw [sizeLine_eq,List.length_append]; exact c
   ·rw [if_neg c] at hf
    cases hf
  | _=>cases hf
 ·cases hf
theorem NK {p p2 pos2:Pos} {fs:FA} (hcalm:X.calm=true) (hg:Gl X "list") (hm:X.mg "list" = none) (hg2:Gl X "range") (hm2:X.mg "range" = none) (ha:SA X [e] fs) (hs:yl e=true:=by rfl) :
  SF X (.Call (.Name "list" p) [.Call (.Name "range" p2) [e] [] pos2] [] pos) (eL VO fs):=by
 obtain ⟨t,pt,k⟩:=ha.h
 have q1:=jw (p:=p2) (pos:=pos2) Mm hg2 hm2 boot_range ⟨pt⟩ (by decide) (by decide) (by rw [List.all_cons,hs]; rfl)
 refine ⟨⟨_,(jw (p:=p) (pos:=pos) (Mk hcalm) hg hm V2 (Z6 q1 Xw) (by decide) (by decide)).h,fun {G0 H0 G H τ σ d Q} E hf q=>?_⟩⟩
 obtain ⟨ds,hd,hf⟩:=zG hf
 refine k E hd fun vs G1 H1 x1 r1=>?_
 match ds,hf with
 | [.int j],hf=>
  change (if 0<=j/\j<=1000000 then some (D.lst ((List.range j.toNat).map fun k:Nat=>.int k)) else none)=some d at hf
  by_cases c:0<=j/\j<=1000000
  ·rw [if_pos c] at hf
   cases hf
   obtain ⟨v,rfl,hv⟩:=uc r1
   cases (show v=.int j from hv)
   refine ⟨j,rfl,c.1,fun p hp=>⟨p,j.toNat,rfl,yj,by omega,fun p' hp'=>?_⟩⟩
   have x2:=x1.trans (zN.layO (o:=gW p j.toNat) x1.gh hp)
   refine q p' _ _ (x2.trans (zN.layO x2.gh hp')) (x2.h.free hp') (x2.gh.free hp') ⟨_,yj,Hn _,?_⟩
   rw [List.length_map,List.length_range,sizeLine_eq]
   show j.toNat<=16777216
   omega
  ·rw [if_neg c] at hf
   cases hf
end
end L3
namespace L3
open PySem PySem.Spec PyProof.Rows L2
structure tS (K:PySem.W.Frag) (H0 G H:Hp) (p:Addr) (qs:List Addr) (nds:List (List D)):Prop where
 hp:H p=some (.lst (qs.map V.ref))
 p0:H0 p=none
 pg:G p=none
 np:p ∉ qs
 nd:qs.Nodup
 ln:nds.length=qs.length
 el:∀ (j:Nat) (q:Addr),qs[j]?=some q->∃ ds vs,nds[j]?=some ds/\H q=some (.lst vs)/\H0 q=none/\G q=none/\Reps K G ds vs/\ds.length<=sizeLine
structure qM (K:PySem.W.Frag) (n:Nat) (G0 H0 G H:Hp) (τ:zb) (σ:St) (i:Nat) (nds:List (List D)):Prop where
 env:zZ K n G0 H0 G H τ σ
 no:vy τ=true
 nst:∃ p qs,σ[i]?=some (some (.ref p))/\tS K H0 G H p qs nds
inductive NF where
 | nx (nds:List (List D)) (τ:zb)
 | rt (d:D)
abbrev vH:=List (List D)->zb->Option NF
def jP (K:PySem.W.Frag) (n:Nat) (G0 H0:Hp) (E:w_) (i:Nat):NF->Prop
 | .nx nds τ=>∀ σ G H,qM K n G0 H0 G H τ σ i nds->E.nx σ H
 | .rt d=>∀ v G H,zN G0 H0 G H->zR K G d v->E.rt v H
structure NS (X:Cx) (i:Nat) (st:Stmt) (f:vH):Prop where
 h:∃ t,PS X st t/\∀ {G0 H0 G H:Hp} {τ:zb} {σ:St} {nds:List (List D)} {fl:NF} {E:w_},qM X.K X.N.length G0 H0 G H τ σ i nds->f nds τ=some fl->jP X.K X.N.length G0 H0 E i fl->t E σ H
structure gT (X:Cx) (i:Nat) (st:List Stmt) (f:vH):Prop where
 h:∃ t,wP X st t/\∀ {G0 H0 G H:Hp} {τ:zb} {σ:St} {nds:List (List D)} {fl:NF} {E:w_},qM X.K X.N.length G0 H0 G H τ σ i nds->f nds τ=some fl->jP X.K X.N.length G0 H0 E i fl->t E σ H
section
variable {K:PySem.W.Frag} {n:Nat} {G0 H0 G H G' H':Hp} {τ:zb} {σ:St} {i:Nat} {nds:List (List D)} {p:Addr} {qs:List Addr}
theorem U4 (x:zN G H G' H') {a:Addr} (hg:G a=none) (hh:H a≠none):G' a=none:=by
 cases e:G' a with
 | none=>rfl
 | some u=>
  rcases x.new a (by rw [e]; exact fun z=>nomatch z) with w | w
  ·exact absurd hg w
  ·exact absurd w hh
theorem tS.go (N:tS K H0 G H p qs nds) (x:zN G H G' H'):tS K H0 G' H' p qs nds:=⟨x.h _ _ N.hp,N.p0,U4 x N.pg (by rw [N.hp]; exact fun z=>nomatch z),N.np,N.nd,N.ln,fun j q hq=>by
 obtain ⟨ds,vs,e1,e2,e3,e4,r,l⟩:=N.el j q hq
 exact ⟨ds,vs,e1,x.h _ _ e2,e3,U4 x e4 (by rw [e2]; exact fun z=>nomatch z),r.mono x.g,l⟩⟩
theorem qM.go (N:qM K n G0 H0 G H τ σ i nds) (x:zN G H G' H'):qM K n G0 H0 G' H' τ σ i nds:=by
 obtain ⟨p,qs,e,w⟩:=N.nst
 exact ⟨N.env.go x,N.no,p,qs,e,w.go x⟩
theorem Xi (h:vy τ=true) {j:Nat} {d:D} (e:τ[j]?=some (some (true,d))):False:=by
 have:=List.all_eq_true.mp h _ (List.mem_of_getElem? e)
 cases this
theorem zZ.poke (E:zZ K n G0 H0 G H τ σ) (no:vy τ=true) {q:Addr} {o:HO} (h0:H0 q=none) (hg:G q=none):zZ K n G0 H0 G (zX H q o) τ σ:=by
 have keep:∀ {H1:Hp},H1 q=none->zl H1 H->zl H1 (zX H q o):=fun {H1} h s b u z=>by
  rw [yT (vA z h)]
  exact s _ _ z
 exact ⟨⟨E.ext.g,keep h0 E.ext.h,keep hg E.ext.gh,E.ext.new⟩,E.l1,E.l2,E.fr,fun j d h=>(Xi no h).elim,fun j k d e p _ h=>(Xi no h).elim⟩
theorem zZ.unset (E:zZ K n G0 H0 G H τ σ) (no:vy τ=true) (v:V):zZ K n G0 H0 G H (τ.set i none) (σ.set i (some v)):=by
 refine ⟨E.ext,by rw [List.length_set]; exact E.l1,by rw [List.length_set]; exact E.l2,fun j d h=>?_,fun j d h=>?_,fun j k d e p _ h=>?_⟩
 ·rcases xc h with ⟨_,z⟩ | ⟨ne,z⟩
  ·cases z
  ·rw [xz ne]
   exact E.fr j d z
 ·rcases xc h with ⟨_,z⟩ | ⟨ne,z⟩
  ·cases z
  ·exact (Xi no z).elim
 ·rcases xc h with ⟨_,z⟩ | ⟨ne,z⟩
  ·cases z
  ·exact (Xi no z).elim
theorem CV (h:vy τ=true) (i:Nat):vy (τ.set i none)=true:=by
 refine List.all_eq_true.mpr fun s hs=>?_
 rcases List.mem_or_eq_of_mem_set hs with z | z
 ·exact List.all_eq_true.mp h _ z
 ·subst z; rfl
theorem U5 (h:vy τ=true) (i:Nat) (d:D):vy (τ.set i (some (false,d)))=true:=by
 refine List.all_eq_true.mpr fun s hs=>?_
 rcases List.mem_or_eq_of_mem_set hs with z | z
 ·exact List.all_eq_true.mp h _ z
 ·subst z; rfl
theorem zN.frzs (x:zN G0 H0 G H):∀ (l:List Addr),l.Nodup->(∀ a∈l,H0 a=none/\G a=none/\H a≠none)->∃ G',zN G0 H0 G' H/\zl G G'/\(∀ a∈l,G' a=H a)/\∀ b,b ∉ l->G' b=G b
 | [],_,_=>⟨G,x,zl.refl _,fun _ h=>(List.not_mem_nil h).elim,fun _ _=>rfl⟩
 | a::l,nd,h=>by
  obtain ⟨na,nl⟩:=List.nodup_cons.mp nd
  obtain ⟨G1,x1,s1,e1,f1⟩:=zN.frzs x l nl fun b hb=>h b (List.mem_cons_of_mem _ hb)
  obtain ⟨h0,hg,hh⟩:=h a List.mem_cons_self
  cases e:H a with
  | none=>exact absurd e hh
  | some u=>
   have ga:G1 a=none:=by rw [f1 a na]; exact hg
   refine ⟨zX G1 a u,x1.frz h0 ga e,s1.trans (wA ga u),fun b hb=>?_,fun b hb=>?_⟩
   ·by_cases c:b=a
    ·subst c; rw [yj,e]
    ·rw [yT c]
     exact e1 b ((List.mem_cons.mp hb).resolve_left c)
   ·rw [yT (fun c:b=a=>hb (by rw [c]; exact List.mem_cons_self)),f1 b fun c=>hb (List.mem_cons_of_mem _ c)]
theorem tS.rep (N:tS K H0 G H p qs nds) (x:zN G0 H0 G H) (hl:nds.length<=sizeLine):∃ G',zN G0 H0 G' H/\zR K G' (.lst (nds.map .lst)) (.ref p):=by
 have all:∀ a∈p::qs,H0 a=none/\G a=none/\H a≠none:=fun a ha=>by
  rcases List.mem_cons.mp ha with rfl | ha
  ·exact ⟨N.p0,N.pg,by rw [N.hp]; exact fun z=>nomatch z⟩
  ·obtain ⟨j,hj⟩:=List.getElem?_of_mem ha
   obtain ⟨ds,vs,_,e2,e3,e4,_⟩:=N.el j a hj
   exact ⟨e3,e4,by rw [e2]; exact fun z=>nomatch z⟩
 obtain ⟨G',x',s',e',f'⟩:=x.frzs (p::qs) (List.nodup_cons.mpr ⟨N.np,N.nd⟩) all
 refine ⟨G',x',p,qs.map V.ref,rfl,zw.of ((e' p List.mem_cons_self).trans N.hp),?_,by rw [List.length_map]; exact hl⟩
 have el:∀ (j:Nat) (q:Addr),qs[j]?=some q->∃ ds,nds[j]?=some ds/\zR K G' (.lst ds) (.ref q):=fun j q hq=>by
  obtain ⟨ds,vs,e1,e2,_,_,r,l⟩:=N.el j q hq
  exact ⟨ds,e1,q,vs,rfl,zw.of ((e' q (List.mem_cons_of_mem _ (List.mem_of_getElem? hq))).trans e2),r.mono s',l⟩
 have ln:=N.ln
 clear all N x' e' f' hl x s'
 induction nds generalizing qs with
 | nil=>
  cases qs with
  | nil=>rfl
  | cons q qs=>cases ln
 | cons d nds ih=>
  cases qs with
  | nil=>cases ln
  | cons q qs=>
   obtain ⟨ds,e1,r1⟩:=el 0 q rfl
   cases e1
   exact ⟨_,_,rfl,r1,ih (fun j q' h=>by
    obtain ⟨ds,e,r⟩:=el (j+1) q' (by simpa using h)
    exact ⟨ds,by simpa using e,r⟩) (by simpa using ln)⟩
theorem jP.near {Ga Ha:Hp} {E:w_} {fl:NF} (x:zN G0 H0 Ga Ha) (h:jP K n G0 H0 E i fl):jP K n Ga H0 E i fl:=by
 cases fl with
 | nx nds τ=>exact fun σ G H z=>h σ G H ⟨zZ.near x z.env,z.no,z.nst⟩
 | rt d=>exact fun v G H y r=>h v G H (x.rebase y) r
end
def jm (f g:vH):vH:=fun nds τ=>(f nds τ).bind fun fl=>match fl with
 | .nx nds τ=>g nds τ
 | .rt d=>some (.rt d)
def IQ (k v:FE):vH:=fun nds τ=>(k τ).bind fun x=>(v τ).bind fun y=>match x with
 | .int j=>match nds[j.toNat]? with
  | some ds=>if 0<=j/\ds.length<zy then some (.nx (nds.set j.toNat (ds++[y])) τ) else none
  | none=>none
 | _=>none
def kf (g:FG) (b:vH):List D->List (List D)->zb->Option NF
 | [],nds,τ=>some (.nx nds τ)
 | d::ds,nds,τ=>(g d τ).bind fun τ'=>(b nds τ').bind fun fl=>match fl with
  | .nx nds' τ''=>kf g b ds nds' τ''
  | .rt d=>some (.rt d)
def jl (it:FA) (g:FG) (b:vH):vH:=fun nds τ=>(it τ).bind fun ds=>kf g b ds nds τ
def kn:vH:=fun nds _=>if nds.length<=zy then some (.rt (.lst (nds.map .lst))) else none
section
variable {X:Cx} {i:Nat} {x:Str} {p pos pos' apos cpos xp sp:Pos} {e k v c tg iter:Expr} {f fk fv:FE} {ft:FT} {fs:FA} {st:Stmt} {sts body sa sb:List Stmt} {g g':vH} {fg:FG}
theorem CZ (h1:NS X i st g) (h2:gT X i sts g'):gT X i (st::sts) (jm g g'):=by
 obtain ⟨t,p,k⟩:=h1.h
 obtain ⟨t',p',k'⟩:=h2.h
 refine ⟨⟨_,Xv p p',fun {G0 H0 G H τ σ nds fl E} K hf q=>?_⟩⟩
 obtain ⟨f1,h1,hf⟩:=zG hf
 refine k K h1 ?_
 cases f1 with
 | nx nds' τ'=>exact fun σ' G' H' K'=>k' K' hf q
 | rt d=>cases hf; exact q
theorem U7 (h1:NS X i st g):gT X i [st] g:=⟨let ⟨t,p,k⟩:=h1.h; ⟨t,UR p,k⟩⟩
theorem CW (hu:X.A.units+1<cLine) (ho:QE X (.Name x xp) (we i)) (hk:SE X k fk) (hv:SE X v fv) (hp:pp k=true:=by rfl)
  (hbase:attributeBase (.Subscript (.Name x xp) k sp) "append" X.env (eval (.Subscript (.Name x xp) k sp) X.env)=eval (.Subscript (.Name x xp) k sp) X.env:=by rfl) (hline:(apos.endLine == cpos.line)=true:=by rfl) (hs:yl v=true:=by rfl) :
  NS X i (.Expr (.Call (.Attribute (.Subscript (.Name x xp) k sp) "append" apos) [v] [] cpos) pos) (IQ fk fv):=by
 obtain ⟨tk,pk,kk⟩:=hk.h
 obtain ⟨t,pv,kv⟩:=(zC hv zH hs).h
 refine ⟨⟨_,(Z8 (jv PySem.F.plainAttrs_list PySem.F.slot_list_append PySem.F.type_list_append IO (o:=.Subscript (.Name x xp) k sp) ⟨Xo (Jb (X:=X)) ho.h pk (Xr hp)⟩ ⟨pv⟩ hbase hline (by rw [List.all_cons,hs]; rfl) (by show 1<30; decide)) rfl).h,fun {G0 H0 G H τ σ nds fl E} K hf q=>?_⟩⟩
 obtain ⟨xk,hk,hf⟩:=zG hf
 obtain ⟨y,hy,hf⟩:=zG hf
 cases xk with
 | int j=>
  dsimp only at hf
  cases hds:nds[j.toNat]? with
  | none=>rw [hds] at hf; cases hf
  | some ds=>
  rw [hds] at hf
  dsimp only at hf
  by_cases c:0<=j/\ds.length<zy
  ·rw [if_pos c] at hf
   cases hf
   obtain ⟨a,qs,ea,w⟩:=K.nst
   refine ⟨_,ea,kk K.env hk fun u G1 H1 x1 r1=>?_⟩
   cases (show u=.int j from r1)
   have w1:=w.go x1
   have hq:qs[j.toNat]?=some (qs[j.toNat]'(by rw [<- w.ln]; exact (List.getElem?_eq_some_iff.mp hds).1)):=List.getElem?_eq_getElem _
   generalize (qs[j.toNat]'(by rw [<- w.ln]; exact (List.getElem?_eq_some_iff.mp hds).1))=q0 at hq
   have hat:vM (qs.map V.ref) j=some (.ref q0):=by
    have e:=MM (xs:=qs.map V.ref) (j:=j.toNat) (v:=.ref q0) (by rw [List.getElem?_map,hq]; rfl)
    rw [show ((j.toNat:Nat):Int)=j by omega] at e
    exact e
   obtain ⟨ds1,vs1,e1,e2,_⟩:=w1.el _ _ hq
   refine ⟨a,qs.map V.ref,j,.ref q0,rfl,rfl,zw.of w1.hp,hat,.inl ⟨rfl,vs1,zw.of e2⟩,kv (K.env.go x1) (ds:=[y]) (by unfold zA; rw [hy]; rfl) fun us G2 H2 x2 r2=>?_⟩
   obtain ⟨u,r,rfl,hu',hr⟩:=r2
   cases (show r=[] from hr)
   have K2:=K.go (x1.trans x2)
   have w2:=w1.go x2
   obtain ⟨ds2,vs2,e1',e2',h0,hg,rs,l⟩:=w2.el _ _ hq
   rw [hds] at e1'
   cases e1'
   refine ⟨q0,vs2,u,rfl,rfl,e2',by rw [rs.length,sizeLine_eq]; exact c.2,?_⟩
   refine q _ _ _ ⟨K2.env.poke K2.no h0 hg,K2.no,a,qs,ea,?_⟩
   have nea:a≠q0:=fun z=>w.np (z ▸ List.mem_of_getElem? hq)
   refine ⟨by rw [yT nea]; exact w2.hp,w2.p0,w2.pg,w2.np,w2.nd,by rw [List.length_set]; exact w2.ln,fun j' q' hq'=>?_⟩
   by_cases cj:j'=j.toNat
   ·subst cj
    rw [hq] at hq'
    cases hq'
    refine ⟨ds++[y],vs2++[u],t4 (List.getElem?_eq_some_iff.mp hds).1,yj,h0,hg,rs.append (Reps.one hu'),?_⟩
    rw [List.length_append,sizeLine_eq]
    exact c.2
   ·have neq:q'≠q0:=fun z=>cj ((List.getElem?_inj (List.getElem?_eq_some_iff.mp hq').1 w2.nd).mp (by rw [hq',hq,z]))
    obtain ⟨ds3,vs3,f1,f2,f3⟩:=w2.el _ _ hq'
    exact ⟨ds3,vs3,by rw [xz cj]; exact f1,by rw [yT neq]; exact f2,f3⟩
  ·rw [if_neg c] at hf
   cases hf
 | _=>cases hf
structure Wp (X:Cx) (i:Nat) (tg:Expr) (fg:FG):Prop where
 h:∃ t,PG X tg t/\∀ {G0 H0 G H:Hp} {τ τ':zb} {σ:St} {d:D} {v:V} {Q:St->Hp->Prop},zZ X.K X.N.length G0 H0 G H τ σ->vy τ=true->zR X.K G d v->fg d τ=some τ'->(∀ σ',zZ X.K X.N.length G0 H0 G H τ' σ'->vy τ'=true->σ'[i]?=σ[i]?->Q σ' H)->t v σ H Q
theorem NQ {j:Nat} (h:QG X (.Name x pos) (wL j)) (hi:X.N[j]?=some x) (hij:i≠j:=by decide):Wp X i (.Name x pos) (zn j):=⟨⟨_,h.h,fun K no r hf q=>by
 cases hf
 exact q _ (K.set (List.getElem?_eq_some_iff.mp hi).1 r) (U5 no _ _) (xz hij)⟩⟩
theorem NP {j l:Nat} {y:Str} {p1 p2:Pos} {kk:Nat} (h:QG X (.Tuple [.Name x p1,.Name y p2] kk pos) (jY X.K 2 (u_ (wL j) (u_ (wL l) jX)))) (hi:X.N[j]?=some x) (hj:X.N[l]?=some y) (hij:i≠j:=by decide) (hil:i≠l:=by decide):Wp X i (.Tuple [.Name x p1,.Name y p2] kk pos) (xW j l):=⟨⟨_,h.h,fun {G0 H0 G H τ τ' σ d v Q} K no r hf q=>by
 unfold xW at hf
 split at hf
 ·rename_i d1 d2
  cases hf
  obtain ⟨a,vs,rfl,sq,⟨v1,r1,rfl,h1,⟨v2,r2,rfl,h2,h3⟩⟩,_⟩:=r
  cases (show r2=[] from h3)
  refine ⟨a,_,rfl,vF K.ext.gh sq,rfl,v1,_,rfl,v2,_,rfl,rfl,?_⟩
  exact q _ ((K.set (List.getElem?_eq_some_iff.mp hi).1 h1).set (List.getElem?_eq_some_iff.mp hj).1 h2) (U5 (U5 no _ _) _ _) (by rw [xz hil,xz hij])
 ·cases hf⟩⟩
theorem Ih (hp:PassesOwn (model X.prog X.w) X.A X.env X.xe) (hc:X.calm=true) (hi:SI X tg iter fs) (hg:Wp X i tg fg) (hb:gT X i body g) (hs:∀ x,foldedSetIterable iter X.env x=pure x:=by intro _; rfl):NS X i (.For tg iter body [] pos) (jl fs fg g):=by
 obtain ⟨ti,pi,ki⟩:=hi.h
 obtain ⟨tg',pg,kg⟩:=hg.h
 obtain ⟨tb,pb,kb⟩:=hb.h
 refine ⟨⟨_,UQ hp hc pi pg pb hs,fun {G0 H0 G H τ σ nds fl E} K hf q=>?_⟩⟩
 obtain ⟨ds,hd,hf⟩:=zG hf
 refine ki K.env hd fun J Ga Ha xa _ wk=>?_
 have Ka:=K.go xa
 have q':=jP.near Ka.env.ext q
 refine ⟨fun j m σ H=>m=ds.length - j/\j<=ds.length/\∃ τ G nds,qM X.K X.N.length Ga H0 G H τ σ i nds/\kf fg g (ds.drop j) nds τ=some fl,⟨ds.length,rfl,Nat.zero_le _,τ,Ga,nds,⟨Ka.env.far,Ka.no,Ka.nst⟩,hf⟩,?_⟩
 rintro j m σ H ⟨rfl,hle,τ,G,nds,K,hf⟩
 by_cases hlt:j<ds.length
 ·refine .inr ⟨wk.go j G H K.env.ext.g K.env.ext.gh hlt,fun σ' H'=>∃ τ G nds,qM X.K X.N.length Ga H0 G H' τ σ' i nds/\kf fg g (ds.drop (j+1)) nds τ=some fl,fun σ' H' z=>⟨ds.length - (j+1),by omega,rfl,hlt,z⟩,fun x H' y=>?_⟩
  obtain ⟨G3,d,x3,ed,rd⟩:=wk.yld j G H x H' K.env.ext.g K.env.ext.gh hlt y
  rw [List.drop_eq_getElem_cons hlt] at hf
  rw [List.getElem?_eq_getElem hlt] at ed
  cases ed
  obtain ⟨τ1,h1,hf⟩:=zG (show (fg _ τ).bind _=_ from hf)
  obtain ⟨f1,h2,hf⟩:=zG hf
  have K3:=K.go x3
  obtain ⟨a,qs,ea,w⟩:=K3.nst
  refine kg K3.env K3.no rd h1 fun σ1 E1 no1 s1=>kb (nds:=nds) ⟨E1,no1,a,qs,by rw [s1]; exact ea,w⟩ h2 ?_
  cases f1 with
  | nx nds2 τ2=>exact fun σ2 G2 H2 K2=>⟨τ2,G2,nds2,K2,hf⟩
  | rt d=>cases hf; exact q'
 ·have e:ds.drop j=[]:=List.drop_eq_nil_of_le (by omega)
  rw [e] at hf
  cases hf
  exact .inl ⟨wk.stop j G H K.env.ext.g K.env.ext.gh (by omega),q' _ _ _ K⟩
theorem CY (hN:X.N[i]?=some x:=by rfl) (hv:qQ X.env.scope x:=by first | exact Or.inl rfl | exact Or.inr (Or.inl rfl) | exact Or.inr (Or.inr rfl)) (hd:(x == ("__debug__" : Str))=false:=by decide)
  (hcd:(x == ("__classdict__" : Str))=false:=by decide):NS X i (.Return (some (.Name x pos')) pos) kn:=by
 refine ⟨⟨_,Xu (Z4 hN hv hd hcd),fun {G0 H0 G H τ σ nds fl E} K hf q=>?_⟩⟩
 unfold kn at hf
 by_cases c:nds.length<=zy
 ·rw [if_pos c] at hf
  cases hf
  obtain ⟨a,qs,ea,w⟩:=K.nst
  obtain ⟨G',x',r⟩:=w.rep K.env.ext (by rw [sizeLine_eq]; exact c)
  exact ⟨_,ea,q _ G' H x' r⟩
 ·rw [if_neg c] at hf
  cases hf
end
def jz (i:Nat) (fi:zb->Option Nat) (g:vH):FS:=fun τ=>match vy τ with
 | false=>none
 | true=>(fi τ).bind fun m=>(g (List.replicate m []) (τ.set i none)).bind fun fl=>match fl with
  | .rt d=>some (.rt false d)
  | .nx _ _=>none
def kj (it:FA):zb->Option Nat:=fun τ=>(it τ).bind fun ds=>some ds.length
section
variable {X:Cx} {i:Nat} {x:Str} {pos pos' p spos:Pos} {e tg iter:Expr} {st:Stmt} {fi:zb->Option Nat} {fs:FA} {yX:List Stmt} {g:vH} {scope:Scope} {cl:List (Str×Addr)} {own:List Str} {tG:TG} {fg:FG}
theorem CJ {G0 H0 G H Ga Ha:Hp} {τ:zb} {σ:St} {J:It} {ds:List D} {Q:Addr->Hp->Prop} (wk:tU X.K J Ga ds) (l:ds.length<=sizeLine) (K:zZ X.K X.N.length G0 H0 G H τ σ) (xa:zN G H Ga Ha) (hg:BG X scope cl own tg tG fg) (hfg:∀ d τ,(fg d τ).isSome=true)
  (q:∀ p qs G' H',zN G H G' H'->tS X.K H G' H' p qs (List.replicate ds.length [])->Q p H') :
  ∃ W:Nat->Nat->List V->Hp->Prop,(∃ m,W 0 m [] Ha)/\kX σ own.length J tG T8 (Ld WJ) W fun ys H'=>∀ p,H' p=none->Q p (zX H' p (.lst ys)):=by
 have Ka:=K.go xa
 refine ⟨fun i m ys H'=>m=ds.length - i/\i<=ds.length/\∃ (G':Hp) (qs:List Addr),zN Ga Ha G' H'/\ys=qs.map V.ref/\qs.length=i/\qs.Nodup/\∀ b∈qs,H' b=some (.lst [])/\Ha b=none/\G' b=none,⟨ds.length,rfl,Nat.zero_le _,Ga,[],zN.refl Ka.ext.gh,rfl,rfl,List.nodup_nil,fun _ h=>(List.not_mem_nil h).elim⟩,?_⟩
 rintro i m ys H1 ⟨rfl,hle,G1,qs,x1,rfl,lq,nd,hq⟩
 by_cases hlt:i<ds.length
 ·refine .inr ⟨wk.go i G1 H1 x1.g x1.gh hlt,by rw [List.length_map]; omega,fun ys H'=>∃ (G':Hp) (qs:List Addr),zN Ga Ha G' H'/\ys=qs.map V.ref/\qs.length=i+1/\qs.Nodup/\∀ b∈qs,H' b=some (.lst [])/\Ha b=none/\G' b=none,fun ys' H' z=>⟨ds.length - (i+1),by omega,rfl,hlt,z⟩,fun v H' y=>?_⟩
  obtain ⟨G3,d,x3,ed,rv⟩:=wk.yld i G1 H1 v H' x1.g x1.gh hlt y
  have K3:=((Ka.go x1).go x3).more own.length
  obtain ⟨τ1,h1⟩:=Option.isSome_iff_exists.mp (hfg d (τ++List.replicate own.length none))
  refine hg.k K.l2 K.l1 G3 H' d v τ1 _ K3 rv h1 fun ρ K4=>⟨⟨ρ,rfl⟩,?_⟩
  dsimp only
  unfold T8
  dsimp only
  rw [if_pos rfl]
  refine ⟨Nat.zero_le _,fun b hb=>?_⟩
  have x13:=x1.trans x3
  have fresh:b ∉ qs:=fun z=>by
   have:=x3.h _ _ (hq b z).1
   rw [this] at hb
   cases hb
  refine ⟨G3,qs++[b],x13.trans (zN.layO x13.gh hb),by rw [List.map_append]; rfl,by rw [List.length_append,lq]; rfl,?_,fun c hc=>?_⟩
  ·exact List.nodup_append.mpr ⟨nd,List.nodup_cons.mpr ⟨List.not_mem_nil,List.nodup_nil⟩,fun u hu w hw e=>fresh (by cases List.mem_singleton.mp hw; exact e ▸ hu)⟩
  ·rcases List.mem_append.mp hc with z | z
   ·obtain ⟨z1,z2,z3⟩:=hq c z
    have z1':=x3.h _ _ z1
    refine ⟨by rw [yT (fun e:c=b=>fresh (e ▸ z))]; exact z1',z2,U4 x3 z3 (by rw [z1]; exact fun z=>nomatch z)⟩
   ·cases List.mem_singleton.mp z
    exact ⟨yj,x13.h.free hb,x13.gh.free hb⟩
 ·have ei:i=ds.length:=by omega
  subst ei
  refine .inl ⟨wk.stop ds.length G1 H1 x1.g x1.gh (Nat.le_refl _),fun b hb=>?_⟩
  have xx:=xa.trans x1
  have fresh:b ∉ qs:=fun z=>by
   rw [(hq b z).1] at hb
   cases hb
  refine q b qs G1 _ (xx.trans (zN.layO xx.gh hb)) ⟨yj,xx.h.free hb,xx.gh.free hb,fresh,nd,by rw [List.length_replicate]; exact lq.symm,fun j c hc=>?_⟩
  have mem:=List.mem_of_getElem? hc
  obtain ⟨z1,z2,z3⟩:=hq c mem
  refine ⟨[],[],?_,by rw [yT (fun e:c=b=>fresh (e ▸ mem))]; exact z1,xa.h.free z2,z3,rfl,Nat.zero_le _⟩
  rw [List.getElem?_replicate,if_pos (by have:=(List.getElem?_eq_some_iff.mp hc).1; omega)]
structure Tx (X:Cx) (i:Nat) (st:Stmt) (f:zb->Option Nat):Prop where
 h:∃ t,PS X st t/\∀ {G0 H0 G H:Hp} {τ:zb} {σ:St} {m:Nat} {E:w_},zZ X.K X.N.length G0 H0 G H τ σ->f τ=some m->(∀ p qs G' H',zN G H G' H'->tS X.K H G' H' p qs (List.replicate m [])->E.nx (σ.set i (some (.ref p))) H')->t E σ H
theorem Nk (hcalm:X.calm=true) (hN:X.N.Nodup) (hix:X.N[i]?=some x) (hx:X.env.scope.names.lookup x=some .local) (B:p4 X scope cl own)
  (hsw:swapsWith (.ListComp (.List [] p) [⟨tg,iter,[],0⟩] scope pos) (some (.Name x pos')) spos.line X.env=pure true) (hi:SI X tg iter fs) (hg:BG X scope cl own tg tG fg) (hfg:∀ d τ,(fg d τ).isSome=true) (hs:∀ x,foldedSetIterable iter X.env x=pure x:=by intro _; rfl) :
  Tx X i (.Assign [.Name x pos'] (.ListComp (.List [] p) [⟨tg,iter,[],0⟩] scope pos) spos) (kj fs):=by
 obtain ⟨ti,pi,ki⟩:=hi.h
 refine ⟨⟨_,OJ hcalm hN hix hx B hsw pi (fun C s H fp pn=>(hg.q C s H fp pn).h) (fun C s H fp pn=>OL) (fun C s H fp pn=>O7 jr) hs,fun {G0 H0 G H τ σ m E} K hf q=>?_⟩⟩
 obtain ⟨ds,hd,hf⟩:=zG hf
 cases hf
 exact ki K hd fun J Ga Ha xa l wk=>CJ (Q:=fun p H'=>E.nx (σ.set i (some (.ref p))) H') wk l K xa hg hfg q
theorem Ny (hi:X.N[i]?=some x) (he:Tx X i st fi) (hr:gT X i yX g):vK X (st::yX) (jz i fi g):=by
 obtain ⟨t,p,k⟩:=he.h
 obtain ⟨tr,pr,kr⟩:=hr.h
 refine ⟨⟨_,Xv p pr,fun {G0 H0 G H τ σ fl E} K hf q=>?_⟩⟩
 unfold jz at hf
 cases no:vy τ with
 | false=>rw [no] at hf; cases hf
 | true=>
 rw [no] at hf
 obtain ⟨m,hm,hf⟩:=zG (show (fi τ).bind _=some fl from hf)
 obtain ⟨f1,h1,hf⟩:=zG hf
 refine k K hm fun a qs G' H' x w=>?_
 have in_:i<X.N.length:=(List.getElem?_eq_some_iff.mp hi).1
 have w':tS X.K H0 G' H' a qs (List.replicate m []):=⟨w.hp,K.ext.h.free w.p0,w.pg,w.np,w.nd,w.ln,fun j q hq=>by
  obtain ⟨ds,vs,e1,e2,e3,e4⟩:=w.el j q hq
  exact ⟨ds,vs,e1,e2,K.ext.h.free e3,e4⟩⟩
 refine kr (nds:=List.replicate m []) (τ:=τ.set i none) ⟨(K.go x).unset no _,CV no i,a,qs,t4 (by rw [K.l1]; exact in_),w'⟩ h1 ?_
 cases f1 with
 | nx nds τ2=>cases hf
 | rt d=>cases hf; exact q
end
end L3
namespace L3
open PySem PySem.Spec PyProof.Rows L2
section
variable {P:Program} {w:World} {K:PySem.W.Frag} {mg:Str->Option Value} {base:Heap}
end
section
variable {X:Cx} {e:Expr} {es:List Expr} {f:FE} {fs:FA} {x:Str} {p pos:Pos} {ps:List Str} {j k:Nat} {FF:List D->Option (Bool×D)}
end
end L3
namespace L2
open PySem PySem.Spec PyProof PyProof.Rows
section
variable {prog:Program} {w:World} {A:Around} {E:Value->Shared->Prop}
theorem B0 {s:Shared} {a:Addr} {kvs:List (Key×Value)} {ep:Nat} {Q:List Value->Shared->Prop} (hh:A.handled=none) (lo:(a == sysModules)=false) (hm:s.heap.DictAt (yc prog w) a kvs ep) (hb:kvs.length<=sizeLine)
  (h:∀ h' tk vs,vs.length=kvs.length->(∀ (j:Nat) (v:Value),vs[j]?=some v->∃ k x,kvs[j]?=some (k,x)/\(yc prog w).is k v=true)->s.heap.objs.size<h'.objs.size->(∀ b ob,s.heap.get? b=some ob->h'.get? b=some ob)->Q vs { s with heap:=h',toks:=tk }):wpAny (model prog w) A (collect (.ref a)) Q E s:=by
 unfold collect
 refine wpAny_bind (wpAny_runValue (codeAny_builtin (entry_proto_collect') ?_))
 show wpAny _ _ (newList [] >>= fun l=>again (.builtin "list.__iadd__" ⟨[l,.ref a],[]⟩)) _ _ s
 refine wpAny_bind (wpAny_newList (wpAny_pure ⟨Code.quiet_builtin _ (by decide +kernel),codeAny_builtin (entry_list_iadd') ?_⟩))
 have hlt:a<s.heap.objs.size:=hm.lt_size
 have neS:s.heap.objs.size≠a:=yQ (Nat.ne_of_gt hlt)
 rw [Around.under_plainId (by decide +kernel)]
 refine PySem.W.kdl_extend (R:=fun r s'=>match r with
  | .ok (.ret v)=>wpAny (model prog w) A (match v with
   | Value.ref a=>(do
    let o <- load a
    match o.data with
    | .seq xs _=>pure xs.toList
    | _=>unsupported "internal:collect")
   | _=>unsupported "internal:collect") Q E s'
  | .ok _=>False
  | .error e=>E e s') (s:={ s with heap:=s.heap.push (seqObj "list" #[] 0) }) (PySem.W.kdl_dict (knd:=yc prog w) (kvs:=kvs) (ep:=ep) lo) (by exact hh) (hm.push _) s.heap.objs.size neS neS (.ref s.heap.objs.size) 0 (Heap.get?_push_size _ rfl) (fun h' tk acc' c' hk hS' hacc=>?_) hb
 refine wpAny_bind (wpAny_load hS' ?_)
 show wpAny _ _ (pure acc'.toList) _ _ _
 refine wpAny_pure (h h' tk acc'.toList (by rw [Array.length_toList]; exact hacc.1) (fun j v e=>hacc.2 j v (by rw [<- Array.getElem?_toList]; exact e)) (Heap.lt_size hS') fun b ob e=>?_)
 exact hk b ob (yQ (Nat.ne_of_lt (Heap.lt_size e))) (Heap.get?_push_of_some _ e)
theorem Nn {s:Shared} {a:Addr} {kvs:List (Key×Value)} {ep:Nat} {ns:List Int} {Q:Value->Shared->Prop} (hh:A.handled=none) (lo:(a == sysModules)=false) (hm:s.heap.DictAt (yc prog w) a kvs ep) (hk:kvs.map (·.1)=ns.map Sum.inl) (h64:ns.length<64)
  (h:∀ h' tk p out c ns',s.heap.objs.size<=p->h'.get? p=some (seqObj "list" out c)->IntsAre out.toList ns'->ns'.Perm ns->ns'.Pairwise (·<=·)->(∀ b ob,s.heap.get? b=some ob->h'.get? b=some ob)->Q (.ref p) { s with heap:=h',toks:=tk }) :
  wpAny (model prog w) A (call (.builtin "sorted") [.ref a]) Q E s:=by
 have hl:kvs.length=ns.length:=by
  have:=congrArg List.length hk
  rwa [List.length_map,List.length_map] at this
 have hb:kvs.length<=sizeLine:=by rw [sizeLine_eq]; omega
 refine Calls.call_function_entry kind_sorted plain_sorted entry_sorted (args_sorted1 _) ?_
 unfold Builtin.«sorted»
 refine wpAny_bind (m:=checkCount "sorted" 1 1 _) (wpAny_pure (wpAny_bind (B0 (by exact hh) lo hm hb fun h1 tk ord ol oe hle kp=>wpAny_bind (wpAny_newList ?_ (by rw [ol]; exact hb)))))
 have hI:IntsAre ord ns:=by
  have:∀ (vs:List Value) (kvs:List (Key×Value)) (ns:List Int),vs.length=kvs.length->kvs.map (·.1)=ns.map Sum.inl->(∀ (j:Nat) (v:Value),vs[j]?=some v->∃ k x,kvs[j]?=some (k,x)/\(yc prog w).is k v=true)->IntsAre vs ns:=by
   intro vs
   induction vs with
   | nil=>
    intro kvs ns h1 h2 _
    cases kvs with
    | nil=>
     cases ns with
     | nil=>exact .nil
     | cons n ns=>cases h2
    | cons _ _=>cases h1
   | cons v vs ih=>
    intro kvs ns h1 h2 h3
    cases kvs with
    | nil=>cases h1
    | cons kx kvs=>
     cases ns with
     | nil=>cases h2
     | cons n ns=>
      obtain ⟨k,x,e,z⟩:=h3 0 v rfl
      cases e
      have e0:k=Sum.inl n:=(List.cons.inj h2).1
      subst e0
      obtain ⟨t,rfl⟩:=Value.isInt_shape (k:=n) (v:=v) z
      exact .cons _ _ (ih kvs ns (by simpa using h1) (List.cons.inj h2).2 fun j u hu=>by simpa using h3 (j+1) u (by simpa using hu))
  exact this ord kvs ns ol hk oe
 have l64:ord.length<64:=by omega
 have g1:(h1.push (seqObj "list" ord.toArray 0)).get? h1.objs.size=some (seqObj "list" ord.toArray 0):=Heap.get?_push_size _ rfl
 refine wpAny_bind (wpAny_holding (wpAny_call_entry slot_list_sort ⟨_,g1,rfl⟩ entry_list_sort (list_sort_tree g1 hI l64 fun out ns' a1 a2 a3=>⟨_,rfl,?_⟩) (args_list_sort _)))
 obtain ⟨c,hc⟩:=sortedHeap_at (vs:=ord) (out:=out) g1
 refine wpAny_pure ⟨_,rfl,h _ tk h1.objs.size out c ns' (Nat.le_of_lt hle) hc a1 a2 a3 fun b ob e=>?_⟩
 have hbl:=Heap.lt_size (kp b ob e)
 rw [sortedHeap_old (yQ (Nat.ne_of_lt hbl)) (by rw [size_push']; exact Nat.lt_succ_of_lt hbl)]
 exact Heap.get?_push_of_some _ (kp b ob e)
end
section
variable {X:Cx}
theorem Jp:∀ {kvs:List (Key×V)} {vs:List (Key×Value)},KV kvs vs->vs.map (·.1)=kvs.map (·.1)
 | _,_,.nil=>rfl
 | _,_,.cons r t=>by rw [List.map_cons,List.map_cons,Jp t,r.1]
def He:List V->Hp->VK->Prop:=fun xs H Q=>∃ (a:Addr) (kvs:List (Key×V)) (ns:List Int),xs=[.ref a]/\Rd H a (.dK kvs)/\kvs.map (·.1)=ns.map Sum.inl/\ns.length<64/\∀ l,H l=none->Q (.ref l) (zX H l (.lst ((isort ns).map V.int)))
theorem Mr (hcalm:X.calm=true):xr X (.builtin "sorted") He:=by
 intro pins s σ H xs us Q I r h
 obtain ⟨a,kvs,ns,rfl,ea,hk,h64,q⟩:=h
 obtain ⟨u,rfl,ru⟩:=vU r
 cases (show u=Value.ref a from ru)
 obtain ⟨_,lo,vs,rel,o,es,ep,ho,hx,hd,k1,k2,k3⟩:=jU I.hok ea
 have hm:s.heap.DictAt (yc X.prog X.w) a vs ep:=⟨o,es,ho,hx,hd,k1,k2,k3⟩
 refine Nn (I.ok.hd hcalm) lo hm ((Jp rel).trans hk) h64 fun h' tk p out c ns' hp hc a1 a2 a3 kp=>?_
 have e:ns'=isort ns:=Uw (a2.trans (isort_perm ns).symm) a3 (isort_sorted ns)
 subst e
 have hl2:(isort ns).length=ns.length:=(isort_perm ns).length_eq
 refine ⟨.ref p,_,I.laid (t':=tk) (h':=h') kp hp (show yo X.prog X.w _ _ _ (.lst ((isort ns).map V.int)) from ⟨?_,out.toList,c,Vj a1,?_⟩),rfl,q _ (I.hok.fresh hp)⟩
 ·rw [List.length_map,hl2]
  show _<=sizeLine
  rw [sizeLine_eq]
  omega
 ·rw [Array.toArray_toList]
  exact hc
end
end L2
namespace L3
open PySem PySem.Spec PyProof.Rows L2
def je:List (Sum Int Str)->Option (List Int)
 | []=>some []
 | .inl i::r=>(je r).bind fun ns=>some (i::ns)
 | .inr _::_=>none
theorem Jk:∀ {ks:List (Sum Int Str)} {ns:List Int},je ks=some ns->ks=ns.map Sum.inl
 | [],_,h=>by cases h; rfl
 | .inl i::r,_,h=>by
  obtain ⟨ns,h1,h⟩:=zG h
  cases h
  rw [Jk h1]
  rfl
 | .inr _::_,_,h=>by cases h
def VR:List D->Option D
 | [.dic ks _]=>(je ks).bind fun ns=>if ns.length<64 then some (.lst ((isort ns).map D.int)) else none
 | _=>none
theorem NM {X:Cx} {e:Expr} {fs:FA} {p pos:Pos} (hcalm:X.calm=true) (hg:Gl X "sorted") (hm:X.mg "sorted" = none) (ha:SA X [e] fs) (hs:yl e=true:=by rfl) :
  SF X (.Call (.Name "sorted" p) [e] [] pos) (eL VR fs):=by
 obtain ⟨t,pt,k⟩:=ha.h
 refine ⟨⟨_,(Z7 (p:=p) (pos:=pos) (Mr hcalm) hg hm QZ ⟨pt⟩ (by decide) (by decide) (by rw [List.all_cons,hs]; rfl)).h,fun {G0 H0 G H τ σ d Q} E hf q=>?_⟩⟩
 obtain ⟨ds,hd,hf⟩:=zG hf
 refine k E hd fun vs G1 H1 x1 r1=>?_
 match ds,hf with
 | [.dic ks xs],hf=>
  obtain ⟨ns,hn,hf⟩:=zG hf
  by_cases c:ns.length<64
  ·rw [if_pos c] at hf
   cases hf
   obtain ⟨v,rfl,a,us,rfl,sq,hl,rs,l⟩:=uc r1
   refine ⟨a,ks.zip us,ns,rfl,Rd.mono x1.gh sq,?_,c,fun p' hp'=>?_⟩
   ·rw [<- Jk hn]
    exact List.map_fst_zip (by omega)
   ·refine q p' _ _ (x1.trans (zN.layO x1.gh hp')) (x1.h.free hp') (x1.gh.free hp') ⟨_,yj,Reps.ints,?_⟩
    rw [List.length_map,(isort_perm ns).length_eq,sizeLine_eq]
    show _<=16777216
    omega
  ·rw [if_neg c] at hf
   cases hf
end L3
namespace L2
open PySem PySem.Spec PyProof PyProof.Rows
section
variable {X:Cx} {x:Str} {e:Expr} {es:List Expr} {t:TA} {p pos:Pos} {i j:Nat}
def Lb (X:Cx) (j i:Nat) (t:TA):TE:=fun σ H Q=>∃ (f:Addr) (fd:FuncData) (ps:List Str) (k:Nat) (sp:Sp),σ[i]?=some (some (.ref f))/\k<=j/\PySem.W.keepIn X.K (.ref f)=true/\uj X.K fd ps []/\vb X.prog X.w X.K X.mg X.base vV k f fd ps sp/\t σ H fun vs H1=>sp (vs++[]) H1 Q E0
theorem O5 (hr:yz j X.A) (ho:PE X (.Name x p) (we i)) (ha:PA X (e::es) t) (he:(e::es).all yl=true:=by rfl):PE X (.Call (.Name x p) (e::es) [] pos) (Lb X j i t):=by
 intro pins s σ H Q I h
 obtain ⟨f,fd,ps,k,sp,ei,hk,kp,b,F,h⟩:=h
 rw [List.all_cons,Bool.and_eq_true] at he
 refine wpAny_Call_Name_kw (zk (ho pins s σ H (fun v H1=>v=.ref f/\H1=H) I ⟨_,ei,rfl,rfl⟩) fun u s1 ⟨v,H1,I1,r1,e1,e2⟩=>?_)
 subst e1 e2
 cases r1
 refine PySem.W.callWith_K (h₀:=X.base) I.ok.mod.kin kp (zk (ha pos pins s1 σ _ _ I1 h) fun us s2 ⟨vs,H2,I2,r,q⟩=>⟨I2.kIn,?_⟩) (uA he.1) (gH he.2)
 exact Uc F (hr.mono hk) b .nil UH I2 r q
end
end L2
namespace L3
open PySem PySem.Spec PyProof.Rows L2
theorem zZ.lose {K:PySem.W.Frag} {n:Nat} {G0 H0 G H:Hp} {τ:zb} {σ:St} {i:Nat} (E:zZ K n G0 H0 G H τ σ) (v:V):zZ K n G0 H0 G H (τ.set i none) (σ.set i (some v)):=by
 refine ⟨E.ext,by rw [List.length_set]; exact E.l1,by rw [List.length_set]; exact E.l2,fun j d h=>?_,fun j d h=>?_,fun j k d e p hne h1 h2 h3 h4=>?_⟩
 ·rcases xc h with ⟨_,z⟩ | ⟨ne,z⟩
  ·cases z
  ·rw [xz ne]
   exact E.fr j d z
 ·rcases xc h with ⟨_,z⟩ | ⟨ne,z⟩
  ·cases z
  ·rw [xz ne]
   exact E.ow j d z
 ·rcases xc h1 with ⟨_,z1⟩ | ⟨n1,z1⟩
  ·cases z1
  ·rcases xc h2 with ⟨_,z2⟩ | ⟨n2,z2⟩
   ·cases z2
   ·rw [xz n1] at h3
    rw [xz n2] at h4
    exact E.ap j k d e p hne z1 z2 h3 h4
def pB (X:Cx) (j:Nat) (f:Addr) (F:List D->Option (Bool×D)):Prop:=∃ (fd:FuncData) (ps:List Str) (k:Nat),k<=j/\PySem.W.keepIn X.K (.ref f)=true/\uj X.K fd ps []/\vb X.prog X.w X.K X.mg X.base vV k f fd ps (zP X.K F)
structure BX (X:Cx) (i:Nat) (t:TS) (f:Addr) (g:FS):Prop where
 h:∀ {G0 H0 G H:Hp} {τ:zb} {σ:St} {fl:Fl} {E:w_},zZ X.K X.N.length G0 H0 G H τ σ->σ[i]?=some (some (.ref f))->g τ=some fl->wj X.K X.N.length G0 H0 E fl->t E σ H
inductive ui (X:Cx) (i:Nat) (t:TS):List Addr->List FS->Prop
 | nil:ui X i t [] []
 | cons {f:Addr} {fs:List Addr} {g:FS} {gs:List FS}:BX X i t f g->ui X i t fs gs->ui X i t (f::fs) (g::gs)
theorem ui.len {X:Cx} {i:Nat} {t:TS}:∀ {fs:List Addr} {gs:List FS},ui X i t fs gs->fs.length=gs.length
 | _,_,.nil=>rfl
 | _,_,.cons _ h=>by rw [List.length_cons,List.length_cons,h.len]
theorem ui.get {X:Cx} {i:Nat} {t:TS}:∀ {fs:List Addr} {gs:List FS} {k:Nat} {f:Addr},ui X i t fs gs->fs[k]?=some f->∃ g,gs[k]?=some g/\BX X i t f g
 | _,_,_,_,.nil,h=>by cases h
 | _,_,0,_,.cons b _,h=>by cases h; exact ⟨_,rfl,b⟩
 | _,_,k+1,_,.cons _ h,e=>ui.get (k:=k) h (by simpa using e)
def wr (i:Nat):List FS->zb->Option Fl
 | [],τ=>some (.nx τ)
 | g::gs,τ=>(g (τ.set i none)).bind fun fl=>match fl with
  | .nx τ'=>wr i gs τ'
  | .ct τ'=>wr i gs τ'
  | .bk τ'=>some (.nx τ')
  | f=>some f
section
variable {X:Cx} {x y o gn:Str} {e:Expr} {es:List Expr} {fs:FA} {p p2 pos pos' xp gp op apos cpos:Pos} {i io iy j:Nat} {body yX:List Stmt} {t:TS} {g:FS}
theorem pB.of {n:Str} {ps:List Str} {k:Nat} {f:Addr} {F:List D->Option (Bool×D)} (h:zO X.prog X.w X.K X.mg X.base n ps k (zP X.K F)) (hm:X.mg n=some (.ref f)) (hk:k<=j:=by decide):pB X j f F:=by
 obtain ⟨f',fd,hm',kp,b,F⟩:=h
 rw [hm] at hm'
 cases hm'
 exact ⟨fd,ps,k,hk,kp,b,F⟩
theorem Qa {ta:TA} (ka:∀ {G0 H0 G H:Hp} {τ:zb} {σ:St} {ds:List D} {Q:List V->Hp->Prop},zZ X.K X.N.length G0 H0 G H τ σ->fs τ=some ds->(∀ vs G' H',zN G H G' H'->Reps X.K G' ds vs->Q vs H')->ta σ H Q)
  {f:Addr} {F:List D->Option (Bool×D)} (h:pB X j f F) {G0 H0 G H:Hp} {τ:zb} {σ:St} {d:D} {Q:VK} (E:zZ X.K X.N.length G0 H0 G H τ σ) (hs:σ[i]?=some (some (.ref f))) (hf:zQ F fs τ=some d) (q:∀ v G' H',zN G H G' H'->zR X.K G' d v->Q v H'):Lb X j i ta σ H Q:=by
 obtain ⟨fd,ps,k,hk,kp,b,F'⟩:=h
 obtain ⟨ds,hd,hf⟩:=zG hf
 obtain ⟨⟨o,d'⟩,hr,hf⟩:=zG hf
 cases hf
 refine ⟨f,fd,ps,k,_,hs,hk,kp,b,F',ka E hd fun vs G1 H1 x1 r1=>⟨G1,ds,o,d',x1.gh,by rw [List.append_nil]; exact r1,hr,?_⟩⟩
 cases o with
 | false=>exact fun v G' H' x2 r=>q v G' H' (x1.trans x2) r
 | true=>
  intro p G' H' x2 hp gp o
  obtain ⟨u,hu,r⟩:=o.frz gp
  exact q _ _ _ (x1.trans (x2.frz hp gp hu)) r
theorem Mc (hr:yz j X.A) (hx:PE X (.Name x xp) (we i)) (ho:QE X (.Name o op) (we io)) (ha:SA X (e::es) fs) (he:(e::es).all yl=true:=by rfl) (hbase:attributeBase (.Name o op) "extend" X.env (eval (.Name o op) X.env)=eval (.Name o op) X.env:=by rfl) (hline:(apos.endLine == cpos.line)=true:=by rfl) :
  ∃ t,wP X [.Expr (.Call (.Attribute (.Name o op) "extend" apos) [.Call (.Name x xp) (e::es) [] p2] [] cpos) pos] t/\∀ f F,pB X j f F->BX X i t f (xZ io (zQ F fs)):=by
 obtain ⟨ta,pa,ka⟩:=ha.h
 refine ⟨_,UR (Z8 (jv PySem.F.plainAttrs_list PySem.F.slot_list_extend PySem.F.type_list_extend IP ho ⟨Z3 (O5 hr hx pa he) jr rfl⟩ hbase hline rfl (by show 1<30; decide)) rfl).h,fun f F hF=>⟨fun {G0 H0 G H τ σ fl E} K hs hf q=>?_⟩⟩
 unfold xZ at hf
 split at hf
 ·rename_i xs hd
  obtain ⟨y,hy,hf⟩:=zG hf
  cases y with
  | lst ys=>
   change (if xs.length+ys.length<=zy then some (Fl.nx (τ.set io (some (true,.lst (xs++ys))))) else none)=some fl at hf
   by_cases c:xs.length+ys.length<=zy
   ·rw [if_pos c] at hf
    cases hf
    obtain ⟨aa,ea,g,z,vs,ev,rs,l⟩:=K.ow _ _ hd
    refine ⟨_,ea,.inl ⟨rfl,vs,zw.of ev⟩,Qa ka hF K hs hy fun u G1 H1 x1 r1=>?_⟩
    obtain ⟨b,zs,rfl,sq,rz,_⟩:=r1
    refine ⟨aa,b,vs,zs,rfl,rfl,x1.h _ _ ev,wB x1.gh sq,by rw [rs.length,rz.length,sizeLine_eq]; exact c,?_⟩
    refine q _ _ _ ((K.go x1).mut hd ea ⟨_,yj,(rs.mono x1.g).append rz,?_⟩)
    rw [sizeLine_eq,List.length_append]; exact c
   ·rw [if_neg c] at hf
    cases hf
  | _=>cases hf
 ·cases hf
theorem Md (hr:yz j X.A) (hx:PE X (.Name x xp) (we i)) (hN:X.N.Nodup) (hy:X.N[iy]?=some y) (hl:vG X.env.scope y) (ha:SA X (e::es) fs) (hrest:vK X yX g) (he:(e::es).all yl=true:=by rfl) (hs:pZ (.Call (.Name x xp) (e::es) [] p2)=true:=by rfl) (hf:X.fn y=true\/X.env.scope.names.lookup y=some .local:=by first | exact .inl rfl | exact .inr rfl | assumption) :
  ∃ t,wP X (.Assign [.Name y pos'] (.Call (.Name x xp) (e::es) [] p2) pos::yX) t/\∀ f F,pB X j f F->BX X i t f (zE (zU iy (zQ F fs)) g):=by
 obtain ⟨ta,pa,ka⟩:=ha.h
 obtain ⟨tr,pr,kr⟩:=hrest.h
 refine ⟨_,Xv (Xx hN hy hl ⟨O5 hr hx pa he⟩ hs hf).h pr,fun f F hF=>⟨fun {G0 H0 G H τ σ fl E} K hs hf q=>?_⟩⟩
 obtain ⟨f1,h1,hf⟩:=zG hf
 obtain ⟨d,hd,h1⟩:=zG h1
 cases h1
 exact Qa ka hF K hs hd fun v G' H' x r=>kr ((K.go x).set (List.getElem?_eq_some_iff.mp hy).1 r) hf q
theorem LK {a:Addr} {fs:List Addr} {gs:List FS} (hp:PassesOwn (model X.prog X.w) X.A X.env X.xe) (hc:X.calm=true) (hgl:PE X (.Name gn gp) (tC (.ref a))) (hT:∀ H,ye X.K H a (fs.map V.ref)) (hg:QG X (.Name x xp) (wL i)) (hi:X.N[i]?=some x) (hb:wP X body t) (hB:ui X i t fs gs)
  (hs:∀ x,foldedSetIterable (.Name gn gp) X.env x=pure x:=by intro _; rfl):SS X (.For (.Name x xp) (.Name gn gp) body [] pos) (wr i gs):=by
 refine ⟨⟨_,UQ hp hc (O8 hgl) hg.h hb hs,fun {G0 H0 G H τ σ fl E} K hf q=>?_⟩⟩
 refine ⟨a,rfl,⟨_,hT H⟩,?_⟩
 have gl:=hB.len
 refine ⟨fun k m σ H=>m=gs.length - k/\k<=gs.length/\∃ τ G,zZ X.K X.N.length G0 H0 G H τ σ/\wr i (gs.drop k) τ=some fl,⟨gs.length,rfl,Nat.zero_le _,τ,G,K,hf⟩,?_⟩
 rintro k m σ H ⟨rfl,hle,τ,G,K,hf⟩
 by_cases hlt:k<gs.length
 ·have hfk:fs[k]?=some (fs[k]'(by omega)):=List.getElem?_eq_getElem (by omega)
  generalize (fs[k]'(by omega))=f at hfk
  have hk:(fs.map V.ref)[k]?=some (V.ref f):=by rw [List.getElem?_map,hfk]; rfl
  refine .inr ⟨⟨_,_,hT H,hk⟩,fun σ' H'=>∃ τ G,zZ X.K X.N.length G0 H0 G H' τ σ'/\wr i (gs.drop (k+1)) τ=some fl,fun σ' H' z=>⟨gs.length - (k+1),by omega,rfl,hlt,z⟩,fun v H' y=>?_⟩
  obtain ⟨rfl,y⟩:=y
  have e:=y _ (hT _)
  rw [hk] at e
  cases e
  obtain ⟨g,eg,B⟩:=hB.get hfk
  rw [List.drop_eq_getElem_cons hlt] at hf
  rw [List.getElem?_eq_getElem hlt] at eg
  cases eg
  obtain ⟨f1,h2,hf⟩:=zG (show (gs[k] (τ.set i none)).bind _=_ from hf)
  have in_:i<X.N.length:=(List.getElem?_eq_some_iff.mp hi).1
  refine B.h (K.lose (i:=i) (.ref f)) (t4 (by rw [K.l1]; exact in_)) h2 ?_
  cases f1 with
  | nx τ2=>exact fun σ2 G2 H2 K2=>⟨τ2,G2,K2,hf⟩
  | ct τ2=>exact fun σ2 G2 H2 K2=>⟨τ2,G2,K2,hf⟩
  | bk τ2=>cases hf; exact q
  | rt o d=>cases hf; exact wj.with q (fun _ z=>nomatch z) (fun _ z=>nomatch z) (fun _ z=>nomatch z) rfl
 ·have e:gs.drop k=[]:=List.drop_eq_nil_of_le (by omega)
  rw [e] at hf
  cases hf
  exact .inl ⟨⟨_,hT H,by rw [List.length_map]; omega⟩,q _ _ _ K⟩
end
def ge (K:PySem.W.Frag) (mg:Str->Option Value) (A:Addr) (names:List Str):Prop:=∃ fs:List Addr,(∀ H,ye K H A (fs.map V.ref))/\names.map mg=fs.map fun f=>some (.ref f)
inductive v3 (X:Cx) (j:Nat):List Str->List (List D->Option (Bool×D))->Prop
 | nil:v3 X j [] []
 | cons {n:Str} {ns:List Str} {F:List D->Option (Bool×D)} {Fs:List (List D->Option (Bool×D))} {ps:List Str} {k:Nat} (h:zO X.prog X.w X.K X.mg X.base n ps k (zP X.K F)) (r:v3 X j ns Fs) (hk:k<=j:=by decide):v3 X j (n::ns) (F::Fs)
section
variable {X:Cx} {x y o gn:Str} {e:Expr} {es:List Expr} {fs:FA} {p p2 pos pos' xp xp2 gp op apos cpos:Pos} {i io iy j:Nat} {yX:List Stmt} {g:FS} {a:Addr} {names:List Str} {Fs:List (List D->Option (Bool×D))} {gs:List FS}
theorem V3 {t:TS} {G:(List D->Option (Bool×D))->FS} (hB:∀ f F,pB X j f F->BX X i t f (G F)):∀ {names:List Str} {Fs:List (List D->Option (Bool×D))} {as:List Addr},v3 X j names Fs->names.map X.mg=as.map (fun f=>some (.ref f))->ui X i t as (Fs.map G)
 | _,_,[],.nil,_=>.nil
 | _,_,_::_,.nil,h=>by cases h
 | _,_,[],.cons _ _ _,h=>by cases h
 | _,_,f::as,.cons hh r hk,h=>by
  rw [List.map_cons,List.map_cons] at h
  injection h with h1 h2
  exact .cons (hB _ _ (pB.of hh h1 hk)) (V3 hB r h2)
theorem Nt (hp:PassesOwn (model X.prog X.w) X.A X.env X.xe) (hc:X.calm=true) (hG:yU X.mg gn (.ref a)) (hgl:Gl X gn) (hT:ge X.K X.mg a names) (hL:v3 X j names Fs) (hr:yz j X.A) (hg:QG X (.Name x xp) (wL i)) (hi:X.N[i]?=some x) (hx:QE X (.Name x xp2) (we i)) (ho:QE X (.Name o op) (we io)) (ha:SA X (e::es) fs)
  (hgs:gs=Fs.map fun F=>xZ io (zQ F fs)) (hdb:(gn == ("__debug__" : Str))=false:=by decide) (he:(e::es).all yl=true:=by rfl) (hbase:attributeBase (.Name o op) "extend" X.env (eval (.Name o op) X.env)=eval (.Name o op) X.env:=by rfl) (hline:(apos.endLine == cpos.line)=true:=by rfl) (hs:∀ x,foldedSetIterable (.Name gn gp) X.env x=pure x:=by intro _; rfl) :
  SS X (.For (.Name x xp) (.Name gn gp) [.Expr (.Call (.Attribute (.Name o op) "extend" apos) [.Call (.Name x xp2) (e::es) [] p2] [] cpos) pos'] [] pos) (wr i gs):=by
 subst hgs
 obtain ⟨t,pt,hB⟩:=Mc (p2:=p2) (pos:=pos') (apos:=apos) (cpos:=cpos) hr hx.h ho ha he hbase hline
 obtain ⟨as,h1,h2⟩:=hT
 exact LK hp hc (jt hG hgl hdb) h1 hg hi pt (V3 hB hL h2) hs
theorem Nu (hp:PassesOwn (model X.prog X.w) X.A X.env X.xe) (hc:X.calm=true) (hG:yU X.mg gn (.ref a)) (hgl:Gl X gn) (hT:ge X.K X.mg a names) (hL:v3 X j names Fs) (hr:yz j X.A) (hg:QG X (.Name x xp) (wL i)) (hi:X.N[i]?=some x) (hx:QE X (.Name x xp2) (we i)) (hN:X.N.Nodup) (hy:X.N[iy]?=some y) (hl:vG X.env.scope y) (ha:SA X (e::es) fs) (hrest:vK X yX g)
  (hgs:gs=Fs.map fun F=>zE (zU iy (zQ F fs)) g) (hdb:(gn == ("__debug__" : Str))=false:=by decide) (he:(e::es).all yl=true:=by rfl) (hnc:pZ (.Call (.Name x xp2) (e::es) [] p2)=true:=by rfl) (hf:X.fn y=true\/X.env.scope.names.lookup y=some .local:=by first | exact .inl rfl | exact .inr rfl | assumption) (hs:∀ x,foldedSetIterable (.Name gn gp) X.env x=pure x:=by intro _; rfl) :
  SS X (.For (.Name x xp) (.Name gn gp) (.Assign [.Name y op] (.Call (.Name x xp2) (e::es) [] p2) pos'::yX) [] pos) (wr i gs):=by
 subst hgs
 obtain ⟨t,pt,hB⟩:=Md (p2:=p2) (pos:=pos') (pos':=op) hr hx.h hN hy hl ha hrest he hnc hf
 obtain ⟨as,h1,h2⟩:=hT
 exact LK hp hc (jt hG hgl hdb) h1 hg hi pt (V3 hB hL h2) hs
end
end L3
namespace L3
open PySem PySem.Spec PyProof.Rows L2
section
variable {α:Type} {P:List α->Prop}
theorem Lo (h:P []):∀ us:List α,us.length=0->P us
 | [],_=>h
theorem TH {n:Nat} (h:∀ a (r:List α),r.length=n->P (a::r)):∀ us:List α,us.length=n+1->P us
 | a::r,e=>h a r (Nat.succ.inj e)
theorem xN (h:∀ a,P [a]):∀ us:List α,us.length=1->P us:=TH fun a=>Lo (P:=fun r=>P (a::r)) (h a)
theorem qE (h:∀ a b,P [a,b]):∀ us:List α,us.length=2->P us:=TH fun a=>xN (P:=fun r=>P (a::r)) (h a)
theorem gL (h:∀ a b c,P [a,b,c]):∀ us:List α,us.length=3->P us:=TH fun a=>qE (P:=fun r=>P (a::r)) (h a)
end
abbrev yV (x:Str) (st:Stmt) (oc:Value) (od:Option Addr) (sl:Array (Option Value)) (kV dc pm:Value) (an:Option Addr) (cd ct:Value):Option Obj:=some ⟨oc,od,.func (PySem.W.fnOf x x (jT st) (uw st) (zr st) .none kV dc pm an cd ct),sl⟩
end L3
namespace L3
open PySem PySem.Spec PyProof.Rows L2
section
variable {P:Program} {w:World} {K:PySem.W.Frag} {mg:Str->Option Value} {base:Heap}
end
section
variable {X:Cx} {tg iter elt:Expr} {scope:Scope} {cl:List (Str×Addr)} {own:List Str} {pos p1:Pos} {fs:FA} {fg:FG} {f:FE} {tG:TG} {st:Stmt} {sts:List Stmt} {g:FS} {b:FSN}
end
end L3
namespace L3
open PySem PySem.Spec PyProof PyProof.Rows L2
section
variable {X:Cx} {i m:Nat} {x:Str} {es:List Expr} {p pos pos' spos:Pos}
end
def kC:D->D->Option D
 | .lst _,.non=>some (.bl true)
 | .lst xs,.lst ys=>yL (.lst xs) (.lst ys)
 | _,_=>none
def Oe (K:PySem.W.Frag):R2:=fun x y H Q=>(∃ a xs,x=.ref a/\y=.non/\zw K H a xs/\Q (.bl true) H)\/Z9 K true x y H Q
section
variable {X:Cx} {K:PySem.W.Frag}
theorem Ei (hu:X.A.units+7<cLine):yE X (compareOp .NotEq) (Oe X.K):=by
 intro pins s σ H x y v u Q I rx ry h
 rcases h with ⟨a,xs,rfl,rfl,sq,q⟩ | h
 ·cases (show v=Value.ref a from rx)
  cases (show u=Value.none from ry)
  obtain ⟨its,_,hl,_⟩:=I.list sq
  exact SeqAt.RcNeAt.list_none hl.isList (by omega) _ _ _ _ ⟨.bl true,H,I,rfl,q⟩
 ·exact ww hu pins s σ H x y v u Q I rx ry h
theorem EC:uG K (Oe K) kC:=fun H x y u v d Q rx ry hf=>by
 cases x with
 | lst xs=>
  cases y with
  | non=>
   cases hf
   obtain ⟨a,vs,rfl,sq,_⟩:=rx
   cases (show v=V.non from ry)
   exact ⟨_,rfl,fun q=>.inl ⟨a,vs,rfl,rfl,sq,q⟩⟩
  | lst ys=>
   obtain ⟨w,e,k⟩:=wu (K:=K) H (.lst xs) (.lst ys) u v d Q rx ry hf
   exact ⟨w,e,fun q=>.inr (k q)⟩
  | _=>cases hf
 | _=>cases hf
end
end L3
namespace L3
open PySem PySem.Spec PyProof PyProof.Rows L2
end L3
local macro_rules
 | `(tactic| simp! [$ls,*])=>`(tactic| simp only [L3.shx,Nat.reduceAdd,Nat.reduceSub,Int.reduceLT,Int.reduceLE,Int.reducePow,Int.reduceToNat,Int.reduceAdd,Int.reduceSub,Int.reduceMul,Int.reduceNeg,$ls,*])
namespace L3
open PySem
def Be:List D:=[(.str "jump"),(.str "when"),(.str "unless")]
def XF:D:=.tup Be
def JA:List D:=[(.str "carry"),(.str "nought"),(.str "sign")]
def kJ:D:=.tup JA
def Bg:List D:=[(.str "high"),(.str "left"),(.str "right"),(.str "add"),(.str "addc"),(.str "sub"),(.str "subc"),(.str "and"),(.str "or"),(.str "xor"),(.str "test"),(.str "store"),(.str "storew")]
def VY:D:=.tup Bg
def Bh:List D:=[(.str "copy"),(.str "load"),(.str "loadw"),(.str "add"),(.str "addc"),(.str "sub"),(.str "subc"),(.str "and"),(.str "or"),(.str "xor"),(.str "test"),(.str "store"),(.str "storew")]
def VZ:D:=.tup Bh
def Bf:List D:=[(.str "addc"),(.str "subc")]
def VX:D:=.tup Bf
def Bj:List D:=[(.str "set"),(.str "high"),(.str "copy"),(.str "load"),(.str "loadw"),(.str "add"),(.str "addc"),(.str "sub"),(.str "subc"),(.str "and"),(.str "or"),(.str "xor"),(.str "left"),(.str "right")]
def Vb:D:=.tup Bj
def Bk:List D:=[(.str "add"),(.str "addc"),(.str "sub"),(.str "subc"),(.str "test"),(.str "and"),(.str "or"),(.str "xor"),(.str "left"),(.str "right")]
def Vc:D:=.tup Bk
def jZ:List (Sum Int Str):=List.map .inr ["label", "set", "high", "copy", "add", "addc", "sub", "subc", "and", "or", "xor", "test", "left", "right", "load", "store", "loadw", "storew", "jump", "when", "unless", "stop"]
def XG:List D:=[(.tup [(.str "name")]),(.tup [(.str "d"),(.str "n")]),(.tup [(.str "d"),(.str "n")]),(.tup [(.str "d"),(.str "s")]),(.tup [(.str "d"),(.str "s")]),(.tup [(.str "d"),(.str "s")]),(.tup [(.str "d"),(.str "s")]),(.tup [(.str "d"),(.str "s")]),(.tup [(.str "d"),(.str "s")]),(.tup [(.str "d"),(.str "s")]),(.tup [(.str "d"),(.str "s")]),(.tup [(.str "d"),(.str "s")]),(.tup [(.str "d"),(.str "n")]),(.tup [(.str "d"),(.str "n")]),(.tup [(.str "d"),(.str "s"),(.str "n")]),(.tup [(.str "d"),(.str "s"),(.str "n")]),(.tup [(.str "d"),(.str "s"),(.str "n")]),(.tup [(.str "d"),(.str "s"),(.str "n")]),(.tup [(.str "name")]),(.tup [(.str "mark"),(.str "name")]),(.tup [(.str "mark"),(.str "name")]),(.tup [])]
def XD:List (Sum Int Str):=List.map .inr ["set", "high", "left", "right", "load", "store", "loadw", "storew"]
def XH:List D:=[(.int 16),(.int 16),(.int 5),(.int 5),(.int 8),(.int 8),(.int 8),(.int 8)]
def kG:List (Sum Int Str):=List.map .inr ["kind", "d", "s", "mark", "distance"]
def kK:List D:=[(.tup [(.int 27),(.int 5)]),(.tup [(.int 24),(.int 3)]),(.tup [(.int 21),(.int 3)]),(.tup [(.int 24),(.int 2)]),(.tup [(.int 0),(.int 5)])]
def Bi:List D:=[(.str "add"),(.str "addc"),(.str "sub"),(.str "subc"),(.str "test"),(.str "left"),(.str "right")]
def Va:D:=.tup Bi
end L3
namespace L3
open PySem
def Q6:FS:=
 (zE (yB (tE (e2 (v8 fun i j=>decide (i<j)) (z6 1) (eL yy (zA (z6 0) zB))))
   (yH (e2 zI (z6 0) (z6 1)))
   yK)
  (yH (eC (.int 0))))
theorem Df (ns:List Int) (k:Nat):(ns.map D.int)[k]?=(ns[k]?).map D.int:=List.getElem?_map
def gz (ns:List Int) (k:Int):Int:=ns.getD k.toNat 0
def jH:List D->Option (Bool×D)
 | [.lst xs,.int k]=>if 0<=k then ((xs[k.toNat]?).getD (.int 0) |> fun d=>some (false,d)) else none
 | _=>none
theorem Mv (ns:List Int) {k:Int} (h:0<=k):jH [.lst (ns.map D.int),.int k]=some (false,.int (gz ns k)):=by
 show (if 0<=k then _ else _)=_
 rw [if_pos h,Df]
 unfold gz
 rw [List.getD_eq_getElem?_getD]
 cases ns[k.toNat]?<;>rfl
theorem KH:∀ ds r,jH ds=some r->ds.length=2/\za 2 Q6 ds=some r:=fun ds r h=>by
 unfold jH at h
 split at h
 ·rename_i xs k
  refine ⟨rfl,?_⟩
  by_cases h0:0<=k
  ·rw [if_pos h0] at h
   cases h
   unfold Q6
   by_cases c:k<(xs.length:Int)
   ·have e:zI (.lst xs) (.int k)=some ((xs[k.toNat]?).getD (.int 0)):=by
     show wm xs k=_
     unfold wm
     rw [if_pos h0,List.getElem?_eq_getElem (by omega)]
     rfl
    simp! [decide_eq_true c,e]
   ·have e:xs[k.toNat]?=none:=List.getElem?_eq_none (by omega)
    simp! [decide_eq_false c,e,Option.getD]
  ·rw [if_neg h0] at h
   cases h
 ·cases h
end L3
namespace L3
open PySem
def lt (k:Int):Str:=⟨#[97+k.toNat]⟩
theorem MB {k:Int} (h0:0<=k) (h1:k<26):wm ("abcdefghijklmnopqrstuvwxyz" : Str).cps.toList k=some (97+k.toNat):=by
 have h:∀ j:Fin 26,wm ("abcdefghijklmnopqrstuvwxyz" : Str).cps.toList (j.val:Int)=some (97+j.val):=by decide +kernel
 have:=h ⟨k.toNat,by omega⟩
 rw [show ((⟨k.toNat,by omega⟩:Fin 26).val:Int)=k by show (k.toNat:Int)=k; omega] at this
 exact this
theorem Ws {k:Int} (h0:0<=k) (h1:k<26):zI (.str "abcdefghijklmnopqrstuvwxyz") (.int k)=some (.str (lt k)):=by
 show (wm _ k).bind _=_
 rw [MB h0 h1]
 rfl
theorem add_str {a b:Str} (h:a.length+b.length<=100000):yt (.str a) (.str b)=some (.str (a++b)):=by
 show (if a.length+b.length<=zy then _ else _)=_
 rw [if_pos (by show _<=16777216; omega)]
theorem kZ (a b:Str):(a++b).length=a.length+b.length:=Array.size_append
theorem ji (k:Int):(lt k).length=1:=rfl
theorem MC:((("abcdefghijklmnopqrstuvwxyz" : Str).length:Nat):Int)=26:=by decide +kernel
theorem Vz (k:Int) (s:Str):(lt k++s).length=1+s.length:=by rw [kZ,ji]
end L3
namespace L3
open PySem
theorem tm {g:FG} {c:FT} {e:FE} {σ:zb} (p:D->Bool) (v:D->D):∀ {ds:List D},(∀ d∈ds,∃ σ1,g d σ=some σ1/\c σ1=some (p d)/\(p d=true->e σ1=some (v d)))->xi g c e σ ds=some ((ds.filter p).map v)
 | [],_=>rfl
 | d::ds,h=>by
  obtain ⟨σ1,e1,e2,e3⟩:=h d (List.mem_cons_self ..)
  have ih:=tm p v (ds:=ds) fun x hx=>h x (List.mem_cons_of_mem _ hx)
  show (g d σ).bind _=_
  rw [e1]
  show (c σ1).bind _=_
  rw [e2]
  cases hp:p d with
  | false=>
   rw [List.filter_cons_of_neg (by rw [hp]; decide)]
   exact ih
  | true=>
   rw [List.filter_cons_of_pos hp]
   show (e σ1).bind _=_
   rw [e3 hp]
   show (xi g c e σ ds).bind _=_
   rw [ih]
   rfl
theorem qf {g:FG} {e:FE} {σ:zb} (v:D->D) {ds:List D} (h:∀ d∈ds,∃ σ1,g d σ=some σ1/\e σ1=some (v d)):xi g xM e σ ds=some (ds.map v):=by
 have:=tm (g:=g) (c:=xM) (e:=e) (σ:=σ) (fun _=>true) v (ds:=ds) fun d hd=>by
  obtain ⟨σ1,a,b⟩:=h d hd
  exact ⟨σ1,a,rfl,fun _=>b⟩
 rw [this,List.filter_eq_self.mpr (fun _ _=>rfl)]
inductive tM (R:D->D->Prop):List D->List D->Prop
 | nil:tM R [] []
 | cons {x y:D} {xs ys:List D}:R x y->tM R xs ys->tM R (x::xs) (y::ys)
theorem Vu {g:FG} {e:FE} {σ:zb} (R:D->D->Prop):∀ {ds:List D},(∀ d∈ds,∃ σ1 x,g d σ=some σ1/\e σ1=some x/\R d x)->∃ xs,xi g xM e σ ds=some xs/\tM R ds xs
 | [],_=>⟨[],rfl,.nil⟩
 | d::ds,h=>by
  obtain ⟨σ1,x,e1,e2,r⟩:=h d (List.mem_cons_self ..)
  obtain ⟨xs,ih,rs⟩:=Vu R (ds:=ds) fun x hx=>h x (List.mem_cons_of_mem _ hx)
  refine ⟨x::xs,?_,.cons r rs⟩
  show (g d σ).bind _=_
  rw [e1]
  show (e σ1).bind _=_
  rw [e2]
  show (xi g xM e σ ds).bind _=_
  rw [ih]
  rfl
theorem YB {n i:Nat} {d:D} (h:(xy n)[i]?=some d):i<n/\d=.int (i:Int):=by
 have hi:i<n:=by
  have:=(List.getElem?_eq_some_iff.mp h).1
  simpa using this
 refine ⟨hi,?_⟩
 simp [hi] at h
 exact h.symm
theorem TD {n:Nat} {d:D} (h:d∈xy n):∃ i:Nat,i<n/\d=.int (i:Int):=by
 obtain ⟨i,hi,e⟩:=List.getElem_of_mem h
 exact ⟨i,(YB (List.getElem?_eq_some_iff.mpr ⟨hi,e⟩))⟩
theorem jA (n:Nat):(xy n).length=n:=by simp
theorem vp {α:Type} {xs:List α} {i:Int} {a:α} (h0:0<=i) (h:xs[i.toNat]?=some a):wm xs i=some a:=by
 unfold wm
 rw [if_pos h0,h]
def uM:Nat->D->Bool
 | 0,_=>false
 | n+1,.tup xs=>xs.all (uM n)
 | n+1,.lst xs=>xs.all (uM n)
 | _+1,d=>yf d
theorem V4 {f:D->D->Bool}:∀ {xs:List D},(∀ x∈xs,f x x=true)->vN f xs xs=true
 | [],_=>rfl
 | x::xs,h=>by
  show (f x x&&vN f xs xs)=true
  rw [h x (List.mem_cons_self ..),V4 fun y hy=>h y (List.mem_cons_of_mem _ hy)]
  rfl
theorem V6:∀ {xs:List D},(∀ x∈xs,zc x x=true)->dEqs xs xs=true
 | [],_=>by unfold dEqs; rfl
 | x::xs,h=>by
  unfold dEqs
  rw [h x (List.mem_cons_self ..),V6 fun y hy=>h y (List.mem_cons_of_mem _ hy)]
  rfl
theorem k_:∀ (n:Nat) (d:D),uM n d=true->xm n d d=true/\zc d d=true
 | 0,_,h=>by cases h
 | n+1,d,h=>by
  cases d with
  | tup xs=>
   have h':∀ x∈xs,uM n x=true:=List.all_eq_true.mp h
   exact ⟨V4 fun x hx=>(k_ n x (h' x hx)).1,by unfold zc; exact V6 fun x hx=>(k_ n x (h' x hx)).2⟩
  | lst xs=>
   have h':∀ x∈xs,uM n x=true:=List.all_eq_true.mp h
   exact ⟨V4 fun x hx=>(k_ n x (h' x hx)).1,by unfold zc; exact V6 fun x hx=>(k_ n x (h' x hx)).2⟩
  | dic ks vs=>cases h
  | non=>exact ⟨rfl,by unfold zc; rfl⟩
  | bl b=>exact ⟨rfl,by unfold zc; exact beq_self_eq_true b⟩
  | int i=>exact ⟨rfl,by unfold zc; exact beq_self_eq_true i⟩
  | str z=>exact ⟨rfl,by unfold zc; exact beq_self_eq_true z⟩
theorem Q_ {d:D} (h:uM 6 d=true):uy d d=some true:=by
 obtain ⟨h1,h2⟩:=k_ 6 d h
 have e:uy d d=match xm 6 d d with
  | true=>some (zc d d)
  | false=>none:=by cases d<;>rfl
 rw [e,h1,h2]
theorem BO {d:D} (h:uM 6 d=true):zj d d=some (.bl true):=by
 unfold zj
 rw [Q_ h]
 rfl
theorem Xg {d:D} (h:uM 6 d=true):yL d d=some (.bl false):=by
 unfold yL
 rw [Q_ h]
 rfl
theorem kN {i j:Int} (h:i=j):zj (.int i) (.int j)=some (.bl true):=by
 subst h
 show some (D.bl (i == i))=_
 rw [beq_self_eq_true]
theorem kO {i j:Int} (h:i≠j):zj (.int i) (.int j)=some (.bl false):=by
 show some (D.bl (i == j))=_
 rw [beq_eq_false_iff_ne.mpr h]
theorem add_int {i j:Int}:yt (.int i) (.int j)=some (.int (i+j)):=rfl
theorem LU:∀ ts:List Str,j6 (ts.map D.str)=some ts
 | []=>rfl
 | t::ts=>by
  show (j6 (ts.map D.str)).bind _=_
  rw [LU ts]
  rfl
theorem Dw {sep:Str} {ts:List Str} (h:(ts.map (·.length)).sum+ts.length*sep.length<=1000000):VM (.str sep) (.lst (ts.map D.str))=some (.str (Builtin.Str.glued sep ts)):=by
 show (j6 (ts.map D.str)).bind _=_
 rw [LU]
 show (if _<=zy then _ else _)=_
 rw [if_pos (by show _<=16777216; omega)]
theorem cut_len (z:Str) (lo hi:Option Int):(L2.cutS z lo hi).length<=z.length:=by
 show ((z.cps.toList.drop _).take _).toArray.size<=z.cps.size
 simp only [List.size_toArray,List.length_take,List.length_drop,Array.length_toList]
 omega
theorem J9 {α:Type} {k:Sum Int Str} {v:α}:∀ {ks:List (Sum Int Str)} {vs:List α},ks.length=vs.length->∀ k',getK (xY ks k) (xj ks vs k v) k'=if k=k' then some v else getK ks vs k':=by
 have one:∀ {ks:List (Sum Int Str)} {vs:List α},ks.length=vs.length->∀ k',yI ks k=true->getK ks (List.zipWith (fun k' x=>if k'=k then v else x) ks vs) k'=if k=k' then some v else getK ks vs k':=by
  intro ks
  induction ks with
  | nil=>intro vs _ k' h; cases h
  | cons a ks ih=>
   intro vs hl k' h
   cases vs with
   | nil=>cases hl
   | cons b vs=>
    rw [List.zipWith_cons_cons]
    unfold getK
    by_cases e1:a=k
    ·subst e1
     by_cases e2:a=k'
     ·rw [if_pos e2,if_pos e2,if_pos rfl]
     ·rw [if_neg e2,if_neg e2,if_neg e2]
      by_cases e3:yI ks a=true
      ·have:=ih (vs:=vs) (by simpa using hl) k' e3
       rw [this,if_neg e2]
      ·have:∀ {ks:List (Sum Int Str)} {vs:List α},ks.length=vs.length->yI ks a=false->getK ks (List.zipWith (fun k' x=>if k'=a then v else x) ks vs) k'=getK ks vs k':=by
        intro ks
        induction ks with
        | nil=>intro vs _ _; rfl
        | cons a' ks ih'=>
         intro vs hl h
         cases vs with
         | nil=>cases hl
         | cons b vs=>
          have h2:decide (a'=a)=false/\yI ks a=false:=by
           have:(decide (a'=a)||yI ks a)=false:=h
           exact Bool.or_eq_false_iff.mp this
          rw [List.zipWith_cons_cons]
          unfold getK
          rw [if_neg (of_decide_eq_false h2.1),ih' (by simpa using hl) h2.2]
       exact this (by simpa using hl) (by simpa using e3)
    ·have h2:yI ks k=true:=by
      have:(decide (a=k)||yI ks k)=true:=h
      rw [decide_eq_false e1] at this
      exact this
     have:=ih (vs:=vs) (by simpa using hl) k' h2
     rw [this,if_neg e1]
     by_cases e2:a=k'
     ·rw [if_pos e2]
      rw [if_neg (fun e=>e1 (e2.trans e.symm)),if_pos e2]
     ·rw [if_neg e2]
      by_cases e3:k=k'
      ·rw [if_pos e3,if_pos e3]
      ·rw [if_neg e3,if_neg e3,if_neg e2]
 intro ks vs hl k'
 unfold xY xj
 by_cases h:yI ks k=true
 ·rw [if_pos h,if_pos h]
  exact one hl k' h
 ·rw [if_neg h,if_neg h]
  clear one
  induction ks generalizing vs with
  | nil=>
   cases vs with
   | nil=>rfl
   | cons _ _=>cases hl
  | cons a ks ih=>
   cases vs with
   | nil=>cases hl
   | cons b vs=>
    have h2:¬ a=k/\¬ yI ks k=true:=by
     have:¬ (decide (a=k)||yI ks k)=true:=h
     constructor
     ·intro e; exact this (by rw [decide_eq_true e]; rfl)
     ·intro e; exact this (by rw [e,Bool.or_true])
    rw [List.cons_append,List.cons_append]
    show (if a=k' then some b else getK (ks++[k]) (vs++[v]) k')=if k=k' then some v else if a=k' then some b else getK ks vs k'
    rw [ih (by simpa using hl) h2.2]
    by_cases e:a=k'
    ·rw [if_pos e,if_pos e]
     rw [if_neg (fun e'=>h2.1 (e.trans e'.symm))]
    ·rw [if_neg e,if_neg e]
theorem JI {k:Sum Int Str} {ks:List (Sum Int Str)} (k':Sum Int Str):yI (xY ks k) k'=(yI ks k'||decide (k=k')):=by
 unfold xY
 by_cases h:yI ks k=true
 ·rw [if_pos h]
  by_cases e:k=k'
  ·subst e; rw [h]; rfl
  ·rw [decide_eq_false e,Bool.or_false]
 ·rw [if_neg h]
  unfold yI
  rw [List.any_append]
  simp
theorem Ve {α:Type}:∀ {ks:List (Sum Int Str)} {us:List α} {as:List (Sum Int Str)} {vs:List α},ks.length=us.length->∀ k,yI (yn as vs ks us).1 k=(yI as k||yI ks k)
 | [],us,as,vs,_,k=>by
  show yI as k=(yI as k||false)
  rw [Bool.or_false]
 | a::ks,[],_,_,h,_=>by cases h
 | a::ks,u::us,as,vs,h,k=>by
  show yI (yn (xY as a) (xj as vs a u) ks us).1 k=_
  rw [Ve (by simpa using h),JI]
  show _=(yI as k||(decide (a=k)||yI ks k))
  rw [Bool.or_assoc]
theorem Xe (xs:List D):yL (.lst xs) (.lst [])=some (.bl (!xs.isEmpty)):=by
 cases xs with
 | nil=>exact Xg (d:=.lst []) rfl
 | cons x r=>
  have e:zc (.lst (x::r)) (.lst [])=false:=by unfold zc; unfold dEqs; rfl
  show (some (zc (.lst (x::r)) (.lst []))).bind _=_
  rw [e]
  rfl
theorem Wy:∀ (n:Nat) {l:List Nat},l.Nodup->(∀ x∈l,x<n)->l.length<=n
 | 0,l,_,h=>by
  cases l with
  | nil=>exact Nat.le_refl _
  | cons x r=>exact absurd (h x (List.mem_cons_self ..)) (Nat.not_lt_zero _)
 | n+1,l,hd,h=>by
  by_cases hm:n∈l
  ·have h1:=Wy n (hd.erase n) fun x hx=>by
    have:=(hd.mem_erase_iff).mp hx
    have:=h x this.2
    omega
   rw [List.length_erase_of_mem hm] at h1
   omega
  ·have h1:=Wy n hd fun x hx=>by
    have h2:=h x hx
    have h3:x≠n:=fun e=>hm (e ▸ hx)
    omega
   omega
theorem Xf {x y:D} {b:Bool} (h:zj x y=some (.bl b)):yL x y=some (.bl (!b)):=by
 unfold zj at h
 unfold yL
 cases e:uy x y with
 | none=>rw [e] at h; cases h
 | some k=>
  rw [e] at h
  cases h
  rfl
end L3
namespace L3
open PySem
theorem MV {i:Int} {m:Nat} (h:xf i<=m):i.natAbs<2 ^ m:=by
 by_cases c:i=0
 ·subst c
  exact Nat.pow_pos (by decide)
 ·have e:xf i=i.natAbs.log2+1:=by
   show (if (i == 0)=true then 0 else i.natAbs.log2+1)=_
   rw [if_neg (by simpa using c)]
  exact (Nat.log2_lt (by omega)).mp (by omega)
theorem MU {i:Int} {m:Nat} (h:i.natAbs<2 ^ m):xf i<=m:=by
 by_cases c:i=0
 ·subst c
  exact Nat.zero_le _
 ·have e:xf i=i.natAbs.log2+1:=by
   show (if (i == 0)=true then 0 else i.natAbs.log2+1)=_
   rw [if_neg (by simpa using c)]
  rw [e]
  exact (Nat.log2_lt (by omega)).mpr h
theorem Mu {ns:List Int} {M:Nat} (hb:∀ m∈ns,xf m<=M) (k:Int):xf (gz ns k)<=M:=by
 unfold gz
 rw [List.getD_eq_getElem?_getD]
 cases e:ns[k.toNat]? with
 | none=>exact Nat.zero_le _
 | some m=>exact hb m (List.mem_of_getElem? e)
end L3
namespace L3
open PySem
def Yd:FS:=
 (zE (zU 2 (e2 yt (e2 yt (e2 yt (e2 XA (zQ jH (zA (z6 0) (zA (z6 1) zB))) (eC (.int 48271))) (e2 X9 (eC (.int 104729)) (z6 1))) (e2 X9 (eC (.int 7919)) (eL yy (zA (z6 0) zB)))) (eC (.int 1))))
  (yH (e2 ym (e2 XA (e2 ym (e2 VP (z6 2) (z6 2)) (eC (.int 2147483647))) (eC (.int 2003))) (eC (.int 2147483629)))))
def wX:List D->Option (Bool×D):=FR 2 3 Yd
theorem KJ:∀ ds r,wX ds=some r->ds.length=2/\za 3 Yd ds=some r:=yb
theorem Bv (x0 x1:D):wX [x0,x1]=za 3 Yd [x0,x1]:=rfl
theorem C1 {c k l:Int} {M:Nat} (hM:4<=M) (hc:xf c<=M) (k0:0<=k) (k1:k<100) (l0:0<=l) (l1:l<=63):xf (c*48271+104729*k+7919*l+1)<=M+20:=by
 have h1:=MV hc
 have h2:2 ^ 4<=2 ^ M:=Nat.pow_le_pow_right (by decide) hM
 refine MU ?_
 rw [Nat.pow_add]
 generalize 2 ^ M=P at h1 h2
 have h3:(2:Nat) ^ 20=1048576:=by decide
 have h4:(2:Nat) ^ 4=16:=by decide
 rw [h3]
 rw [h4] at h2
 omega
theorem jj {ns:List Int} (hl:ns.length<=63) (hb:∀ m∈ns,xf m<=1048576) {k:Int} (k0:0<=k) (k1:k<100):∃ m:Int,0<=m/\m<2147483629/\wX [.lst (ns.map D.int),.int k]=some (false,.int m):=by
 have hc:=Mv ns (k:=k) k0
 have cb:=Mu hb k
 generalize gz ns k=c at hc cb
 have mb:=C1 (M:=1048576) (l:=(ns.length:Int)) (by decide) cb k0 k1 (by omega) (by omega)
 have g1:decide (xf (c*48271+104729*k+7919*(ns.length:Int)+1)+xf (c*48271+104729*k+7919*(ns.length:Int)+1)<=134217728)=true:=decide_eq_true (by omega)
 have g2:qh 48271=true/\qh 104729=true/\qh 7919=true/\qh 2003=true:=⟨by decide,by decide,by decide,by decide⟩
 have ai:∀ {i j:Int},yt (.int i) (.int j)=some (.int (i+j)):=rfl
 refine ⟨(c*48271+104729*k+7919*(ns.length:Int)+1)*(c*48271+104729*k+7919*(ns.length:Int)+1) % 2147483647*2003 % 2147483629,Int.emod_nonneg _ (by decide),Int.emod_lt_of_pos _ (by decide),?_⟩
 rw [Bv]
 unfold Yd
 simp only [shx,Nat.reduceAdd,Nat.reduceSub,hc,List.length_map,ai,g2,VP,g1,decide_true,Int.reduceLT]
end L3
namespace L3
open PySem
inductive vI:D->Prop
 | stop:vI (.tup [.str "stop"])
 | imm {w:Str} {d n:Int} (hw:w = "set" \/ w = "high") (d0:0<=d) (d1:d<8) (n0:0<=n) (n1:n<65536):vI (.tup [.str w,.int d,.int n])
 | two {w:Str} {d s:Int} (hw:w = "copy" \/ w = "add" \/ w = "addc" \/ w = "sub" \/ w = "subc" \/ w = "and" \/ w = "or" \/ w = "xor" \/ w = "test") (d0:0<=d) (d1:d<8) (s0:0<=s) (s1:s<8):vI (.tup [.str w,.int d,.int s])
 | mov {w:Str} {d n:Int} (hw:w = "left" \/ w = "right") (d0:0<=d) (d1:d<8) (n0:0<=n) (n1:n<32):vI (.tup [.str w,.int d,.int n])
 | mem {w:Str} {d s n:Int} (hw:w = "load" \/ w = "store" \/ w = "loadw" \/ w = "storew") (d0:0<=d) (d1:d<8) (s0:0<=s) (s1:s<8) (n0:0<=n) (n1:n<256):vI (.tup [.str w,.int d,.int s,.int n])
inductive Wh (m:Int):D->Prop
 | jump {p:Int} (p0:0<=p) (p1:p<=m):Wh m (.tup [.str "jump",.int p])
 | cond {w k:Str} {p:Int} (hw:w = "when" \/ w = "unless") (hk:k = "carry" \/ k = "nought" \/ k = "sign") (p0:0<=p) (p1:p<=m):Wh m (.tup [.str w,.str k,.int p])
def M9 (m:Int) (d:D):Prop:=vI d\/Wh m d
theorem JY {a:D} {r:List D}:zI (.tup (a::r)) (.int 0)=some a:=rfl
def zz:D->Bool
 | .tup (.str w::_)=>w == "jump" || w == "when" || w == "unless"
 | _=>false
def Jx:D->D
 | .tup xs=>(wm xs (-1)).getD .non
 | _=>.non
def Dx:D:=.tup [.str "jump",.str "when",.str "unless"]
theorem qj {d:D} (h:vI d):∃ w,zI d (.int 0)=some (.str w)/\yJ (.str w) Dx=some (.bl false)/\zj (.str w) (.str "label")=some (.bl false)/\zz d=false/\uM 5 d=true:=by
 cases h with
 | stop=>exact ⟨_,rfl,rfl,rfl,rfl,rfl⟩
 | imm hw=>rcases hw with rfl | rfl<;>exact ⟨_,rfl,rfl,rfl,rfl,rfl⟩
 | two hw=>rcases hw with rfl | rfl | rfl | rfl | rfl | rfl | rfl | rfl | rfl<;>exact ⟨_,rfl,rfl,rfl,rfl,rfl⟩
 | mov hw=>rcases hw with rfl | rfl<;>exact ⟨_,rfl,rfl,rfl,rfl,rfl⟩
 | mem hw=>rcases hw with rfl | rfl | rfl | rfl<;>exact ⟨_,rfl,rfl,rfl,rfl,rfl⟩
def zM:D->Bool
 | .tup (.str w::_)=>w == "label"
 | _=>false
def yg (t:Str):D:=.tup [.str "label",.str t]
theorem W2 {m:Int} {d:D} (h:M9 m d):∃ w,zI d (.int 0)=some (.str w)/\zj (.str w) (.str "label")=some (.bl false)/\zM d=false/\uM 5 d=true:=by
 rcases h with h | h
 ·cases h with
  | stop=>exact ⟨_,rfl,rfl,rfl,rfl⟩
  | imm hw=>rcases hw with rfl | rfl<;>exact ⟨_,rfl,rfl,rfl,rfl⟩
  | two hw=>rcases hw with rfl | rfl | rfl | rfl | rfl | rfl | rfl | rfl | rfl<;>exact ⟨_,rfl,rfl,rfl,rfl⟩
  | mov hw=>rcases hw with rfl | rfl<;>exact ⟨_,rfl,rfl,rfl,rfl⟩
  | mem hw=>rcases hw with rfl | rfl | rfl | rfl<;>exact ⟨_,rfl,rfl,rfl,rfl⟩
 ·cases h with
  | jump=>exact ⟨_,rfl,rfl,rfl,rfl⟩
  | cond hw hk=>rcases hw with rfl | rfl<;>rcases hk with rfl | rfl | rfl<;>exact ⟨_,rfl,rfl,rfl,rfl⟩
def ku (t:Str):D->Bool
 | .tup [_,.str u]=>u == t
 | _=>false
def wS (t:Str) (s:Nat×Option Nat) (d:D):Nat×Option Nat:=match zM d with
 | true=>(s.1,match ku t d with
  | true=>some s.1
  | false=>s.2)
 | false=>(s.1+1,s.2)
def yh (t:Str) (L:List D):Nat×Option Nat:=L.foldl (wS t) (0,none)
theorem OF (t:Str) (L:List D) (d:D):yh t (L++[d])=wS t (yh t L) d:=by
 unfold yh
 rw [List.foldl_append]
 rfl
theorem Xt (t:Str):∀ (L:List D) (s:Nat×Option Nat),(L.foldl (wS t) s).1=s.1+(L.filter fun d=>!zM d).length
 | [],_=>rfl
 | d::L,s=>by
  rw [List.foldl_cons,Xt t L]
  unfold wS
  cases h:zM d with
  | true=>rw [List.filter_cons_of_neg (by rw [h]; decide)]
  | false=>
   rw [List.filter_cons_of_pos (by rw [h]; rfl),List.length_cons]
   show s.1+1+_=_
   omega
theorem UM (t u:Str) (L:List D):(yh t (L++[yg u])).2=if u=t then some (L.filter fun d=>!zM d).length else (yh t L).2:=by
 rw [OF]
 have h:=Xt t L (0,none)
 show (match (u == t) with | true=>some (yh t L).1 | false=>(yh t L).2)=_
 by_cases e:u=t
 ·rw [if_pos e,beq_iff_eq.mpr e]
  show some (yh t L).1=_
  rw [show (yh t L).1=_ from h,Nat.zero_add]
 ·rw [if_neg e,beq_eq_false_iff_ne.mpr e]
theorem UO {t:Str} {L:List D} {d:D} (h:zM d=false):(yh t (L++[d])).2=(yh t L).2:=by
 rw [OF]
 unfold wS
 rw [h]
theorem tV {L:List D} {r:D} (h:L.length<=1000):wE (.lst L) r=some (.lst (L++[r])):=by
 show (if L.length<zy then _ else _)=_
 rw [if_pos (by show _<16777216; omega)]
inductive yA:D->Prop
 | label (t:Str):yA (yg t)
 | plain {d:D}:vI d->yA d
 | jump (t:Str):yA (.tup [.str "jump",.str t])
 | cond {w k:Str} (t:Str) (hw:w = "when" \/ w = "unless") (hk:k = "carry" \/ k = "nought" \/ k = "sign"):yA (.tup [.str w,.str k,.str t])
theorem kR {d:D} (h:yA d):∃ w,zI d (.int 0)=some (.str w)/\zj (.str w) (.str "label")=some (.bl (zM d))/\uM 5 d=true:=by
 cases h with
 | label=>exact ⟨_,rfl,rfl,rfl⟩
 | plain h=>
  obtain ⟨w,a,b,c,e⟩:=W2 (m:=0) (.inl h)
  exact ⟨w,a,by rw [c]; exact b,e⟩
 | jump=>exact ⟨_,rfl,rfl,rfl⟩
 | cond t hw hk=>rcases hw with rfl | rfl<;>rcases hk with rfl | rfl | rfl<;>exact ⟨_,rfl,rfl,rfl⟩
theorem JU {x:D} (h:zM x=true):zz x=false:=by
 unfold zM at h
 split at h
 ·rename_i w r
  have e:w = "label" := by simpa using h
  subst e
  rfl
 ·cases h
theorem Qt {R:D->D->Prop}:∀ {xs ys:List D},tM R xs ys->xs.length=ys.length
 | _,_,.nil=>rfl
 | _,_,.cons _ r=>by rw [List.length_cons,List.length_cons,Qt r]
theorem kA {R:D->D->Prop}:∀ {xs ys:List D},tM R xs ys->∀ y∈ys,∃ x∈xs,R x y
 | _,_,.nil,_,h=>by cases h
 | x::xs,y::ys,.cons r rs,z,hz=>by
  rcases List.mem_cons.mp hz with rfl | hz
  ·exact ⟨x,List.mem_cons_self ..,r⟩
  ·obtain ⟨w,hw,h⟩:=kA rs z hz
   exact ⟨w,List.mem_cons_of_mem _ hw,h⟩
theorem Qu {R:D->D->Prop}:∀ {xs ys:List D},xs.length=ys.length->(∀ (i:Nat) x y,xs[i]?=some x->ys[i]?=some y->R x y)->tM R xs ys
 | [],[],_,_=>.nil
 | [],_::_,h,_=>by cases h
 | _::_,[],h,_=>by cases h
 | x::xs,y::ys,h,r=>.cons (r 0 x y rfl rfl) (Qu (by simpa using h) fun i a b ha hb=>r (i+1) a b (by simpa using ha) (by simpa using hb))
inductive uH (N:List Str):D->Prop
 | plain {d:D}:vI d->uH N d
 | jump {t:Str} (ht:t∈N):uH N (.tup [.str "jump",.str t])
 | cond {w k t:Str} (hw:w = "when" \/ w = "unless") (hk:k = "carry" \/ k = "nought" \/ k = "sign") (ht:t∈N):uH N (.tup [.str w,.str k,.str t])
def gR (N:List Str) (d:D):Prop:=uH N d\/∃ t∈N,d=yg t
theorem UZ {N:List Str} {d:D} (h:uH N d):yA d/\zM d=false:=by
 cases h with
 | plain h=>
  obtain ⟨_,_,_,l,_⟩:=W2 (m:=0) (.inl h)
  exact ⟨.plain h,l⟩
 | jump ht=>exact ⟨.jump _,rfl⟩
 | cond hw hk ht=>exact ⟨.cond _ hw hk,by rcases hw with rfl | rfl<;>rfl⟩
theorem Dm {N:List Str} {d:D} (h:gR N d):yA d:=by
 rcases h with h | ⟨t,_,rfl⟩
 ·exact (UZ h).1
 ·exact .label t
end L3
namespace L3
open PySem
def YX:FS:=
 (yH (e2 zj (e2 zI (z6 0) (eC (.int 0))) (eC (.str "label"))))
def uC:List D->Option (Bool×D):=FR 1 1 YX
theorem K9:∀ ds r,uC ds=some r->ds.length=1/\za 1 YX ds=some r:=yb
theorem Bq (x0:D):uC [x0]=za 1 YX [x0]:=rfl
def L_:FE:=(z6 1)
def Tp:FT:=(tK (tE (zQ uC (zA (z6 1) zB))))
def Ys:FS:=
 (w8 (xJ 1 (x_ (z6 0)) (zn 1) Tp L_))
def xO:List D->Option (Bool×D):=FR 1 1 Ys
theorem Kj:∀ ds r,xO ds=some r->ds.length=1/\za 1 Ys ds=some r:=yb
theorem DK (x0:D):xO [x0]=za 1 Ys [x0]:=rfl
theorem XO {d:D} (h:yA d):uC [d]=some (false,.bl (zM d)):=by
 obtain ⟨w,a,b,_⟩:=kR h
 rw [Bq]
 unfold YX
 simp! [a,b]
theorem qm {items:List D} (h:∀ d∈items,yA d):xO [.lst items]=some (true,.lst (items.filter fun d=>!zM d)):=by
 have e:=tm (g:=zn 1) (c:=Tp) (e:=L_) (σ:=[some (false,.lst items),none]) (fun d=>!zM d) id (ds:=items) fun d hd=>by
  have hf:=XO (h d hd)
  refine ⟨_,rfl,?_,fun _=>rfl⟩
  unfold Tp
  simp! [hf]
 rw [List.map_id] at e
 rw [DK]
 unfold Ys
 simp! [e]
end L3
namespace L3
open PySem
def YW:FS:=
 (yH (e2 yJ (e2 zI (z6 0) (eC (.int 0))) (eC XF)))
def uB:List D->Option (Bool×D):=FR 1 1 YW
theorem K8:∀ ds r,uB ds=some r->ds.length=1/\za 1 YW ds=some r:=yb
theorem Bp (x0:D):uB [x0]=za 1 YW [x0]:=rfl
def XS:FS:=(yB (tE (zQ uC (zA (z6 3) zB)))
     (j2 1 (e2 zI (z6 3) (eC (.int 1))) (z6 2))
     (zU 2 (e2 (wY fun i j=>i+j) (z6 2) (eC (.int 1)))))
def Ya:FS:=
 (zE (wV 1 (eC (.dic [] [])))
  (zE (zU 2 (eC (.int 0)))
  (zE (qo (x_ (z6 0)) (zn 3)
   XS)
  (qA 1))))
def uP:List D->Option (Bool×D):=FR 1 4 Ya
theorem KD:∀ ds r,uP ds=some r->ds.length=1/\za 4 Ya ds=some r:=yb
theorem Bs (x0:D):uP [x0]=za 4 Ya [x0]:=rfl
theorem XN {d:D} (h:yA d):uB [d]=some (false,.bl (zz d)):=by
 have:∃ w,zI d (.int 0)=some (.str w)/\yJ (.str w) XF=some (.bl (zz d)):=by
  cases h with
  | label=>exact ⟨_,rfl,rfl⟩
  | plain h=>
   obtain ⟨w,a,b,_,c,_⟩:=qj h
   exact ⟨w,a,by rw [c]; exact b⟩
  | jump=>exact ⟨_,rfl,rfl⟩
  | cond t hw hk=>rcases hw with rfl | rfl<;>exact ⟨_,rfl,rfl⟩
 obtain ⟨w,a,b⟩:=this
 rw [Bp]
 unfold YW
 simp! [a,b]
theorem pR {d:D} (h:yA d) (hl:zM d=true):∃ t,d=yg t:=by
 cases h with
 | label t=>exact ⟨t,rfl⟩
 | plain h=>
  obtain ⟨_,_,_,z,_⟩:=W2 (m:=0) (.inl h)
  rw [z] at hl
  cases hl
 | jump=>cases hl
 | cond t hw hk=>rcases hw with rfl | rfl<;>cases hl
theorem Ju {items:List D} (h:∀ d∈items,yA d) (hl:items.length<=1000):∃ ks vs,uP [.lst items]=some (true,.dic ks vs)/\ks.length=vs.length/\∀ t,getK ks vs (.inr t)=((yh t items).2).map fun n:Nat=>D.int n:=by
 obtain ⟨σ',e,ks,vs,x3,a1,a2,a3,rfl⟩:=pW (g:=zn 3) (b:=XS) (fun i σ=>∃ ks vs x3,ks.length=vs.length/\ks.length<=i/\(∀ t,getK ks vs (.inr t)=((yh t (items.take i)).2).map fun n:Nat=>D.int n)/\σ=[some (false,.lst items),some (true,.dic ks vs),some (false,.int (((items.take i).filter fun d=>!zM d).length:Nat)),x3]) (ds:=items)
  (σ:=[some (false,.lst items),some (true,.dic [] []),some (false,.int 0),none]) 0 ⟨[],[],none,rfl,Nat.le_refl _,fun t=>rfl,rfl⟩ (by
  rintro i v σ hv ⟨ks,vs,x3,a1,a2,a3,rfl⟩
  rw [Nat.zero_add] at *
  have hi:i<items.length:=(List.getElem?_eq_some_iff.mp hv).1
  have ev:items[i]=v:=(List.getElem?_eq_some_iff.mp hv).2
  have ht:items.take (i+1)=items.take i++[v]:=by rw [List.take_succ_eq_append_getElem hi,ev]
  have hI:=h v (List.mem_of_getElem? hv)
  have hf:=XO hI
  generalize hn:((items.take i).filter fun d=>!zM d).length=n
  cases hL:zM v with
  | true=>
   obtain ⟨u,rfl⟩:=pR hI hL
   rw [hL] at hf
   have i1:zI (yg u) (.int 1)=some (.str u):=rfl
   have kd:uK (.str u)=some (.inr u):=rfl
   have hlim:ks.length<zy:=by show _<16777216; omega
   have hn2:((items.take (i+1)).filter fun d=>!zM d).length=n:=by
    rw [ht,List.filter_append,List.length_append,hn]
    rfl
   have hlk:(xY ks (.inr u)).length<=i+1:=by
    unfold xY
    split
    ·omega
    ·rw [List.length_append]; show _+1<=_; omega
   refine ⟨_,[some (false,.lst items),some (true,.dic (xY ks (.inr u)) (xj ks vs (.inr u) (.int (n:Nat)))),some (false,.int (n:Nat)),some (false,yg u)],rfl,.inl ?_,xY ks (.inr u),xj ks vs (.inr u) (.int (n:Nat)),_,pq a1,hlk,fun t=>?_,by rw [hn2]⟩
   ·unfold XS
    simp! [hf,j2,i1,kd,if_pos hlim]
   ·rw [J9 a1,ht,UM,hn,a3]
    by_cases e:u=t
    ·rw [if_pos (by rw [e]),if_pos e]
     rfl
    ·rw [if_neg (fun z=>e (Sum.inr.inj z)),if_neg e]
  | false=>
   rw [hL] at hf
   have hn2:((items.take (i+1)).filter fun d=>!zM d).length=n+1:=by
    rw [ht,List.filter_append,List.length_append,hn,List.filter_cons_of_pos (by rw [hL]; rfl)]
    rfl
   refine ⟨_,[some (false,.lst items),some (true,.dic ks vs),some (false,.int ((n:Nat)+1:Int)),some (false,v)],rfl,.inl ?_,ks,vs,_,a1,by omega,fun t=>?_,by rw [hn2]; rfl⟩
   ·unfold XS
    simp! [hf]
   ·rw [ht,UO hL,a3])
 rw [Nat.zero_add,List.take_length] at a3
 refine ⟨ks,vs,?_,a1,a3⟩
 rw [Bs]
 unfold Ya
 simp! [e]
theorem Jt {items:List D} (h:∀ d∈items,yA d) (hl:items.length<=1000):∃ ks vs,uP [.lst items]=some (true,.dic ks vs)/\∀ t,getK ks vs (.inr t)=((yh t items).2).map fun n:Nat=>D.int n:=by
 obtain ⟨ks,vs,a,_,b⟩:=Ju h hl
 exact ⟨ks,vs,a,b⟩
end L3
namespace L3
open PySem
def Q7:FS:=
 (zE (zU 0 (y_ (zA (eC (.str "set")) (zA (eC (.str "high")) (zA (eC (.str "copy")) (zA (eC (.str "add")) (zA (eC (.str "addc")) (zA (eC (.str "sub")) (zA (eC (.str "subc")) (zA (eC (.str "and")) (zA (eC (.str "or")) (zA (eC (.str "xor")) (zA (eC (.str "test")) (zA (eC (.str "left")) (zA (eC (.str "right")) zB)))))))))))))))
  (zE (zU 0 (e2 yt (z6 0) (y_ (zA (eC (.str "load")) (zA (eC (.str "store")) (zA (eC (.str "loadw")) (zA (eC (.str "storew")) (zA (eC (.str "jump")) (zA (eC (.str "when")) (zA (eC (.str "unless")) (zA (eC (.str "stop")) zB)))))))))))
  (yH (e2 yt (z6 0) (y_ (zA (eC (.str "set")) (zA (eC (.str "copy")) (zA (eC (.str "add")) (zA (eC (.str "when")) (zA (eC (.str "unless")) (zA (eC (.str "test")) (zA (eC (.str "sub")) zB))))))))))))
def jL:List D->Option (Bool×D):=FR 0 1 Q7
theorem KQ:∀ ds r,jL ds=some r->ds.length=0/\za 1 Q7 ds=some r:=yb
def uv:FS:=
 (zE (zU 3 (e2 zI (zQ jL zB) (e2 ym (z6 0) (eC (.int 28)))))
  (zE (zU 0 (e2 wG (z6 0) (eC (.int 28))))
  (zE (zU 4 (e2 ym (z6 0) (z6 2)))
  (zE (zU 5 (e2 ym (e2 wG (z6 0) (eC (.int 8))) (z6 2)))
  (zE (zU 6 (e2 wG (z6 0) (eC (.int 64))))
  (zE (yB (tE (e2 yJ (z6 3) (xK (zA (eC (.str "set")) (zA (eC (.str "high")) zB)))))
   (yH (xK (zA (z6 3) (zA (z6 4) (zA (e2 zI (y_ (zA (e2 ym (z6 6) (eC (.int 65536))) (zA (e2 ym (z6 6) (eC (.int 3))) zB))) (e2 ym (e2 wG (z6 0) (eC (.int 32))) (eC (.int 2)))) zB)))))
   yK)
  (zE (yB (tE (e2 yJ (z6 3) (xK (zA (eC (.str "left")) (zA (eC (.str "right")) zB)))))
   (yH (xK (zA (z6 3) (zA (z6 4) (zA (e2 zI (y_ (zA (e2 ym (z6 6) (eC (.int 32))) (zA (e2 ym (z6 6) (eC (.int 3))) zB))) (e2 ym (e2 wG (z6 0) (eC (.int 32))) (eC (.int 2)))) zB)))))
   yK)
  (zE (yB (tE (e2 yJ (z6 3) (xK (zA (eC (.str "load")) (zA (eC (.str "store")) (zA (eC (.str "loadw")) (zA (eC (.str "storew")) zB)))))))
   (yH (xK (zA (z6 3) (zA (z6 4) (zA (z6 5) (zA (e2 zI (y_ (zA (e2 ym (z6 6) (eC (.int 256))) (zA (e2 ym (z6 6) (eC (.int 4))) zB))) (e2 ym (e2 wG (z6 0) (eC (.int 32))) (eC (.int 2)))) zB))))))
   yK)
  (zE (yB (tE (e2 zj (z6 3) (eC (.str "jump"))))
   (yH (xK (zA (z6 3) (zA (e2 zI (z6 1) (e2 ym (z6 6) (eL yy (zA (z6 1) zB)))) zB))))
   yK)
  (zE (yB (tE (e2 yJ (z6 3) (xK (zA (eC (.str "when")) (zA (eC (.str "unless")) zB)))))
   (yH (xK (zA (z6 3) (zA (e2 zI (y_ (zA (eC (.str "carry")) (zA (eC (.str "nought")) (zA (eC (.str "sign")) zB)))) (e2 ym (z6 5) (eC (.int 3)))) (zA (e2 zI (z6 1) (e2 ym (z6 6) (eL yy (zA (z6 1) zB)))) zB)))))
   yK)
  (zE (yB (tE (e2 zj (z6 3) (eC (.str "stop"))))
   (yH (xK (zA (z6 3) zB)))
   yK)
  (yH (xK (zA (z6 3) (zA (z6 4) (zA (z6 5) zB))))))))))))))))
def jJ:List D->Option (Bool×D):=FR 3 7 uv
theorem KN:∀ ds r,jJ ds=some r->ds.length=3/\za 7 uv ds=some r:=yb
theorem pQ (x0 x1 x2:D):jJ [x0,x1,x2]=za 7 uv [x0,x1,x2]:=rfl
def Oi:FA:=(uX (eC (.int 0)) (z6 3))
def WP:FE:=(e2 zI (z6 2) (e2 ym (e2 wG (e2 wG (z6 0) (eC (.int 8))) (e2 zI (y_ (fun _=>some (List.map D.int [1,26,676,17576,3,5,7]))) (z6 6))) (eC (.int 26))))
def Oj:FA:=(uX (eC (.int 0)) (z6 1))
def TY:FE:=(e2 yt (e2 yt (vq (z6 4) v_ (u7 (z6 5))) (e2 zI (z6 2) (e2 ym (e2 yt (e2 wG (z6 0) (eC (.int 512))) (z6 6)) (eC (.int 26))))) (vq (z6 4) (u7 (z6 5)) v_))
def Ye:FS:=
 (zE (zU 2 (eC (.str "abcdefghijklmnopqrstuvwxyz")))
  (zE (zU 3 (e2 ym (z6 0) (eC (.int 8))))
  (zE (zU 4 (e2 VM (eC (.str "")) (xJ 1 Oi (zn 6) xM WP)))
  (zE (zU 5 (e2 ym (e2 wG (z6 0) (eC (.int 64))) (e2 yt (z6 3) (eC (.int 1)))))
  (zE (zU 4 (vq (z6 4) v_ (u7 (eC (.int 7)))))
  (w8 (xJ 1 Oj (zn 6) xM TY)))))))
def jI:List D->Option (Bool×D):=FR 2 6 Ye
theorem KL:∀ ds r,jI ds=some r->ds.length=2/\za 6 Ye ds=some r:=yb
theorem Bw (x0 x1:D):jI [x0,x1]=za 6 Ye [x0,x1]:=rfl
def Ol:FA:=(uX (eC (.int 0)) (z6 3))
def TZ:FE:=(zQ jJ (zA (zQ wX (zA (z6 0) (zA (e2 yt (e2 yt (z6 1) (eC (.int 3))) (z6 9)) zB))) (zA (z6 4) (zA (z6 5) zB))))
def Om:FA:=(uX (eC (.int 0)) (e2 yt (z6 3) (eC (.int 1))))
def Ta:FE:=(z6 9)
def WS:FT:=(tE (e2 zj (e2 zI (z6 9) (e1 tY (eC (.int 1)))) (e2 zI (z6 4) (z6 7))))
def XU:FS:=(zE (yB (xG (tE (e2 yL (xJ 1 (x_ (z6 6)) (zn 9) WS Ta) (y_ zB))) (tE (e2 zj (e2 ym (e2 wG (zQ wX (zA (z6 0) (zA (e2 yt (z6 1) (eC (.int 2))) zB))) (eC (.int 2))) (eC (.int 5))) (z6 7))))
     (wN 8 wE (xK (zA (eC (.str "label")) (zA (e2 zI (z6 4) (z6 7)) zB))))
     yK)
    (yB (tE (e2 (v8 fun i j=>decide (i<j)) (z6 7) (z6 3)))
     (wN 8 wE (e2 zI (z6 6) (z6 7)))
     yK))
def Yf:FS:=
 (zE (zU 3 (e2 ym (zQ wX (zA (z6 0) (zA (z6 1) zB))) (e2 yt (z6 2) (eC (.int 1)))))
  (zE (zU 4 (zQ jI (zA (zQ wX (zA (z6 0) (zA (e2 yt (z6 1) (eC (.int 1))) zB))) (zA (e2 yt (z6 3) (eC (.int 1))) zB))))
  (zE (zU 5 (e2 zI (y_ (zA (eC (.int 3)) (zA (eC (.int 8)) zB))) (e2 ym (zQ wX (zA (z6 0) (zA (e2 yt (z6 1) (eC (.int 2))) zB))) (eC (.int 2)))))
  (zE (zU 6 (xJ 1 Ol (zn 9) xM TZ))
  (zE (wV 8 (y_ zB))
  (zE (qo Om (zn 7)
   XU)
  (qA 8)))))))
def p8:List D->Option (Bool×D):=FR 3 9 Yf
theorem KM:∀ ds r,p8 ds=some r->ds.length=3/\za 9 Yf ds=some r:=yb
theorem Bx (x0 x1 x2:D):p8 [x0,x1,x2]=za 9 Yf [x0,x1,x2]:=rfl
theorem B3 (a b:Str):(a++b).cps.toList=a.cps.toList++b.cps.toList:=Array.toList_append
theorem X1 (z:Str) (lo hi:Option Int):(L2.cutS z lo hi).length<=z.length:=cut_len z lo hi
theorem B4 (z:Str):(L2.cutS z none (some 7)).length<=7:=by
 show (((z.cps.toList.drop 0).take (HT.sIx z.length z.length (some ((7:Nat):Int)) - 0)).toArray).size<=7
 rw [HT.sIx_nat,List.size_toArray,List.length_take]
 omega
theorem CB {m:Int} (m0:0<=m) {many:Int} (n0:0<=many) (n1:many<=20):∃ N:List Str,N.length=many.toNat/\N.Nodup/\(∃ ln:Nat,ln<=100/\∀ t∈N,t.length=ln)/\jI [.int m,.int many]=some (true,.lst (N.map D.str)):=by
 have r1:Oi [some (false,.int m),some (false,.int many),some (false,.str "abcdefghijklmnopqrstuvwxyz"),some (false,.int (m % 8)),none,none]=some (xy (m % 8).toNat):=qk (n:=m % 8) rfl (by omega)
 obtain ⟨ts,e1,ht⟩:∃ ts:List Str,xi (zn 6) xM WP [some (false,.int m),some (false,.int many),some (false,.str "abcdefghijklmnopqrstuvwxyz"),some (false,.int (m % 8)),none,none,none] (xy (m % 8).toNat)=some (ts.map D.str)/\∀ t∈ts,t.length=1:=by
  obtain ⟨xs,ex,ea⟩:=Vu (g:=zn 6) (e:=WP) (σ:=[some (false,.int m),some (false,.int many),some (false,.str "abcdefghijklmnopqrstuvwxyz"),some (false,.int (m % 8)),none,none,none]) (fun _ y=>∃ t:Str,y=.str t/\t.length=1) (ds:=xy (m % 8).toNat) fun d hd=>by
   obtain ⟨i,hi,rfl⟩:=TD hd
   obtain ⟨p,p0,p1,ep⟩:∃ p:Int,0<p/\p<20000/\zI (.lst (List.map D.int [1,26,676,17576,3,5,7])) (.int (i:Int))=some (.int p):=by
    rcases (show i=0\/i=1\/i=2\/i=3\/i=4\/i=5\/i=6 by omega) with rfl | rfl | rfl | rfl | rfl | rfl | rfl<;>exact ⟨_,by decide,by decide,rfl⟩
   have a:=Ws (k:=m / 8 / p % 26) (by omega) (by omega)
   have g1:decide (0<p)=true:=decide_eq_true p0
   have g2:decide (p<18446744073709551616)=true:=decide_eq_true (by omega)
   refine ⟨_,.str (lt (m / 8 / p % 26)),rfl,?_,_,rfl,ji _⟩
   unfold WP
   generalize List.map D.int [1,26,676,17576,3,5,7]=PS at ep
   simp! [ep,g1,g2,a,Bool.true_and]
  have:∃ ts:List Str,xs=ts.map D.str/\∀ t∈ts,t.length=1:=by
   have h:∀ x∈xs,∃ t:Str,x=.str t/\t.length=1:=fun x hx=>by
    obtain ⟨_,_,r⟩:=kA ea x hx
    exact r
   clear ex ea
   induction xs with
   | nil=>exact ⟨[],rfl,fun _ h=>by cases h⟩
   | cons x xs ih=>
    obtain ⟨t,rfl,l⟩:=h x (List.mem_cons_self ..)
    obtain ⟨ts,rfl,ls⟩:=ih fun y hy=>h y (List.mem_cons_of_mem _ hy)
    exact ⟨t::ts,rfl,fun y hy=>by
     rcases List.mem_cons.mp hy with rfl | hy
     ·exact l
     ·exact ls y hy⟩
  obtain ⟨ts,rfl,h⟩:=this
  exact ⟨ts,ex,h⟩
 have tl:ts.length=(m % 8).toNat:=by
  have:=congrArg (fun o=>(o.getD []).length) e1
  have h2:∀ {g:FG} {e:FE} {σ:zb} {ds xs:List D},xi g xM e σ ds=some xs->xs.length=ds.length:=fun {g e σ ds}=>by
   induction ds with
   | nil=>intro xs h; cases h; rfl
   | cons d ds ih=>
    intro xs h
    obtain ⟨σ1,h1,h⟩:=zG (show (g d σ).bind _=some xs from h)
    obtain ⟨x,h3,h⟩:=zG (show (e σ1).bind _=some xs from h)
    obtain ⟨ys,h4,h⟩:=zG h
    cases h
    rw [List.length_cons,List.length_cons,ih h4]
  have:=h2 e1
  rw [List.length_map,jA] at this
  exact this
 have sm:∀ {l:List Str},(∀ t∈l,t.length=1)->(l.map (·.length)).sum=l.length:=fun {l}=>by
  induction l with
  | nil=>intro _; rfl
  | cons x l ih=>
   intro h
   rw [List.map_cons,List.sum_cons,ih fun y hy=>h y (List.mem_cons_of_mem _ hy),h x (List.mem_cons_self ..),List.length_cons]
   omega
 have e0:("" : Str).length=0:=rfl
 have jn:=Dw (sep := "") (ts:=ts) (by rw [sm ht,e0,tl]; omega)
 generalize Builtin.Str.glued "" ts=W0 at jn
 obtain ⟨W,hW⟩:∃ W:Str,W=L2.cutS W0 none (some 7):=⟨_,rfl⟩
 have lW:W.length<=7:=by rw [hW]; exact B4 W0
 have g1:decide (0<m % 8+1)=true:=decide_eq_true (by omega)
 obtain ⟨sp,hsp⟩:∃ sp:Int,sp=m / 64 % (m % 8+1):=⟨_,rfl⟩
 have r2:Oj [some (false,.int m),some (false,.int many),some (false,.str "abcdefghijklmnopqrstuvwxyz"),some (false,.int (m % 8)),some (false,.str W),some (false,.int sp)]=some (xy many.toNat):=qk (n:=many) rfl (by omega)
 have e2:=qf (g:=zn 6) (e:=TY) (σ:=[some (false,.int m),some (false,.int many),some (false,.str "abcdefghijklmnopqrstuvwxyz"),some (false,.int (m % 8)),some (false,.str W),some (false,.int sp),none]) (fun d=>match d with | .int j=>D.str (L2.cutS W none (some sp)++lt ((m / 512+j) % 26)++L2.cutS W (some sp) none) | d=>d) (ds:=xy many.toNat) fun d hd=>by
  obtain ⟨i,hi,rfl⟩:=TD hd
  have a:=Ws (k:=(m / 512+(i:Int)) % 26) (by omega) (by omega)
  have l1:=X1 W none (some sp)
  have l2:=X1 W (some sp) none
  have l3:=ji ((m / 512+(i:Int)) % 26)
  have s1:vq (z6 4) v_ (u7 (z6 5)) [some (false,.int m),some (false,.int many),some (false,.str "abcdefghijklmnopqrstuvwxyz"),some (false,.int (m % 8)),some (false,.str W),some (false,.int sp),some (false,.int (i:Int))]=some (.str (L2.cutS W none (some sp))):=rfl
  have s2:vq (z6 4) (u7 (z6 5)) v_ [some (false,.int m),some (false,.int many),some (false,.str "abcdefghijklmnopqrstuvwxyz"),some (false,.int (m % 8)),some (false,.str W),some (false,.int sp),some (false,.int (i:Int))]=some (.str (L2.cutS W (some sp) none)):=rfl
  have ad1:=add_str (a:=L2.cutS W none (some sp)) (b:=lt ((m / 512+(i:Int)) % 26)) (by omega)
  have ad2:=add_str (a:=L2.cutS W none (some sp)++lt ((m / 512+(i:Int)) % 26)) (b:=L2.cutS W (some sp) none) (by rw [kZ]; omega)
  refine ⟨_,rfl,?_⟩
  unfold TY
  simp! [s1,s2,add_int,a,ad1,ad2]
 have w2:(xy many.toNat).map (fun d=>match d with | .int j=>D.str (L2.cutS W none (some sp)++lt ((m / 512+j) % 26)++L2.cutS W (some sp) none) | d=>d)=((List.range many.toNat).map fun j:Nat=>L2.cutS W none (some sp)++lt ((m / 512+(j:Int)) % 26)++L2.cutS W (some sp) none).map D.str:=by
  rw [List.map_map,List.map_map]
  rfl
 rw [w2] at e2
 refine ⟨(List.range many.toNat).map fun j:Nat=>L2.cutS W none (some sp)++lt ((m / 512+(j:Int)) % 26)++L2.cutS W (some sp) none,by rw [List.length_map,List.length_range],?_,⟨(L2.cutS W none (some sp)).length+1+(L2.cutS W (some sp) none).length,?_,fun t ht=>?_⟩,?_⟩
 ·refine List.pairwise_map.mpr (List.Pairwise.imp_of_mem (fun {a b} ha hb hab=>?_) (List.nodup_range (n:=many.toNat)))
  intro h
  have ha:=List.mem_range.mp ha
  have hb:=List.mem_range.mp hb
  have h1:=congrArg (fun z:Str=>z.cps.toList) h
  have lc:∀ x:Int,(lt x).cps.toList=[97+x.toNat]:=fun _=>rfl
  simp only [B3,lc,List.append_assoc,List.append_cancel_left_eq,List.cons_append,List.nil_append,List.cons.injEq] at h1
  omega
 ·have l1:=X1 W none (some sp)
  have l2:=X1 W (some sp) none
  omega
 ·obtain ⟨j,_,rfl⟩:=List.mem_map.mp ht
  rw [kZ,kZ,ji]
 ·have sl:kE (.str W0) none (some 7)=some (.str W):=by rw [hW]; rfl
  rw [Bw]
  unfold Ye
  generalize List.map D.str (List.map (fun j:Nat=>L2.cutS W none (some sp)++lt ((m / 512+(j:Int)) % 26)++L2.cutS W (some sp) none) (List.range many.toNat))=NN at *
  generalize ts.map D.str=TT at *
  simp! [r1,e1,jn,add_int,g1,<- hsp,vq,u7,v_,sl,r2,e2]
abbrev YC:D:=.lst [.str "set",.str "high",.str "copy",.str "add",.str "addc",.str "sub",.str "subc",.str "and",.str "or",.str "xor",.str "test",.str "left",.str "right",.str "load",.str "store",.str "loadw",.str "storew",.str "jump",.str "when",.str "unless",.str "stop",.str "set",.str "copy",.str "add",.str "when",.str "unless",.str "test",.str "sub"]
theorem RJ:jL []=some (false,YC):=by rfl
def YR (w:Str):Prop:=(w = "set" \/ w = "high")\/(w = "left" \/ w = "right")\/(w = "load" \/ w = "store" \/ w = "loadw" \/ w = "storew")\/(w = "copy" \/ w = "add" \/ w = "addc" \/ w = "sub" \/ w = "subc" \/ w = "and" \/ w = "or" \/ w = "xor" \/ w = "test")\/w = "jump" \/ (w = "when" \/ w = "unless")\/w = "stop"
def Ls (w:Str):Decidable (YR w):=by unfold YR; infer_instance
theorem RG:((List.range 28).all fun k:Nat=>match zI YC (.int (k:Int)) with
  | some (.str w)=>@decide (YR w) (Ls w)
  | _=>false)=true:=by decide +kernel
theorem RH {v:Int} (h0:0<=v) (h1:v<28):∃ w:Str,YR w/\zI YC (.int v)=some (.str w):=by
 have h:=List.all_eq_true.mp RG v.toNat (List.mem_range.mpr (by omega))
 rw [Int.toNat_of_nonneg h0] at h
 generalize zI YC (.int v)=o at h ⊢
 split at h
 ·exact ⟨_,@of_decide_eq_true _ (Ls _) h,rfl⟩
 ·cases h
theorem Xp {a b i:Int} (h0:0<=i) (h1:i<2):∃ n,(n=a\/n=b)/\zI (.lst [.int a,.int b]) (.int i)=some (.int n):=by
 rcases (show i=0\/i=1 by omega) with rfl | rfl
 ·exact ⟨a,by simp,rfl⟩
 ·exact ⟨b,by simp,rfl⟩
theorem Hv {N:List Str} (hN:N≠[]) {m:Int} (m0:0<=m) {mn:Int} (hm:mn=3\/mn=8):∃ r,uH N r/\jJ [.int m,.lst (N.map D.str),.int mn]=some (false,r):=by
 obtain ⟨w,hw,ew⟩:=RH (v:=m % 28) (by omega) (by omega)
 have wF:=RJ
 have hp:0<N.length:=List.length_pos_iff.mpr hN
 have g0:decide (0<mn)=true:=decide_eq_true (by omega)
 obtain ⟨q,hq⟩:∃ q:Int,q=m / 28:=⟨_,rfl⟩
 have o0:=Int.emod_nonneg q (show mn≠0 by omega)
 have o1:=Int.emod_lt_of_pos q (show 0<mn by omega)
 have t0:=Int.emod_nonneg (q / 8) (show mn≠0 by omega)
 have t1:=Int.emod_lt_of_pos (q / 8) (show 0<mn by omega)
 obtain ⟨one,h1⟩:∃ z:Int,z=q % mn:=⟨_,rfl⟩
 obtain ⟨two,h2⟩:∃ z:Int,z=q / 8 % mn:=⟨_,rfl⟩
 rw [<- h1] at o0 o1
 rw [<- h2] at t0 t1
 have start:∀ yX:FS,zE (zU 3 (e2 zI (zQ jL zB) (e2 ym (z6 0) (eC (.int 28)))))
  (zE (zU 0 (e2 wG (z6 0) (eC (.int 28))))
  (zE (zU 4 (e2 ym (z6 0) (z6 2)))
  (zE (zU 5 (e2 ym (e2 wG (z6 0) (eC (.int 8))) (z6 2)))
  (zE (zU 6 (e2 wG (z6 0) (eC (.int 64)))) yX)))) [some (false,.int m),some (false,.lst (N.map D.str)),some (false,.int mn),none,none,none,none]=yX [some (false,.int q),some (false,.lst (N.map D.str)),some (false,.int mn),some (false,.str w),some (false,.int one),some (false,.int two),some (false,.int (q / 64))]:=fun yX=>by
  generalize N.map D.str=NN at *
  rw [xb (σ':=[some (false,.int m),some (false,.lst NN),some (false,.int mn),some (false,.str w),none,none,none]) (by
   generalize YC=WD at *
   simp! [wF,ew])]
  rw [xb (σ':=[some (false,.int q),some (false,.lst NN),some (false,.int mn),some (false,.str w),none,none,none]) (by simp! [<- hq])]
  rw [xb (σ':=[some (false,.int q),some (false,.lst NN),some (false,.int mn),some (false,.str w),some (false,.int one),none,none]) (by simp! [g0,<- h1])]
  rw [xb (σ':=[some (false,.int q),some (false,.lst NN),some (false,.int mn),some (false,.str w),some (false,.int one),some (false,.int two),none]) (by simp! [g0,<- h2])]
  rw [xb (σ':=[some (false,.int q),some (false,.lst NN),some (false,.int mn),some (false,.str w),some (false,.int one),some (false,.int two),some (false,.int (q / 64))]) (by simp! [])]
 have nm:∃ t∈N,zI (.lst (N.map D.str)) (.int (q / 64 % (N.length:Int)))=some (.str t):=by
  have a0:=Int.emod_nonneg (q / 64) (show (N.length:Int)≠0 by omega)
  have a1:=Int.emod_lt_of_pos (q / 64) (show 0<(N.length:Int) by omega)
  have hv:(q / 64 % (N.length:Int)).toNat<N.length:=by omega
  exact ⟨N[(q / 64 % (N.length:Int)).toNat],List.getElem_mem hv,vp a0 (by rw [List.getElem?_map,List.getElem?_eq_getElem hv]; rfl)⟩
 obtain ⟨t,ht,et⟩:=nm
 have gN:decide (0<(N.length:Int))=true:=decide_eq_true (by omega)
 rcases hw with hw | hw | hw | hw | hw | hw | hw
 ·obtain ⟨n,hn,en⟩:=Xp (a:=q / 64 % 65536) (b:=q / 64 % 3) (i:=q / 32 % 2) (by omega) (by omega)
  have k1:yJ (.str w) (.tup [.str "set",.str "high"])=some (.bl true):=by rcases hw with rfl | rfl<;>rfl
  refine ⟨_,.plain (.imm hw o0 (by omega) (show 0<=n by omega) (by omega)),?_⟩
  rw [pQ]
  unfold uv
  show ((zE _ _ [some (false,.int m),some (false,.lst (N.map D.str)),some (false,.int mn),none,none,none,none]).bind _)=_
  rw [start]
  simp! [k1,en]
 ·obtain ⟨n,hn,en⟩:=Xp (a:=q / 64 % 32) (b:=q / 64 % 3) (i:=q / 32 % 2) (by omega) (by omega)
  have k1:yJ (.str w) (.tup [.str "set",.str "high"])=some (.bl false):=by rcases hw with rfl | rfl<;>rfl
  have k2:yJ (.str w) (.tup [.str "left",.str "right"])=some (.bl true):=by rcases hw with rfl | rfl<;>rfl
  refine ⟨_,.plain (.mov hw o0 (by omega) (show 0<=n by omega) (by omega)),?_⟩
  rw [pQ]
  unfold uv
  show ((zE _ _ [some (false,.int m),some (false,.lst (N.map D.str)),some (false,.int mn),none,none,none,none]).bind _)=_
  rw [start]
  simp! [k1,k2,en]
 ·obtain ⟨n,hn,en⟩:=Xp (a:=q / 64 % 256) (b:=q / 64 % 4) (i:=q / 32 % 2) (by omega) (by omega)
  have k1:yJ (.str w) (.tup [.str "set",.str "high"])=some (.bl false):=by rcases hw with rfl | rfl | rfl | rfl<;>rfl
  have k2:yJ (.str w) (.tup [.str "left",.str "right"])=some (.bl false):=by rcases hw with rfl | rfl | rfl | rfl<;>rfl
  have k3:yJ (.str w) (.tup [.str "load",.str "store",.str "loadw",.str "storew"])=some (.bl true):=by rcases hw with rfl | rfl | rfl | rfl<;>rfl
  refine ⟨_,.plain (.mem hw o0 (by omega) t0 (by omega) (show 0<=n by omega) (by omega)),?_⟩
  rw [pQ]
  unfold uv
  show ((zE _ _ [some (false,.int m),some (false,.lst (N.map D.str)),some (false,.int mn),none,none,none,none]).bind _)=_
  rw [start]
  simp! [k1,k2,k3,en]
 ·have k:yJ (.str w) (.tup [.str "set",.str "high"])=some (.bl false)/\yJ (.str w) (.tup [.str "left",.str "right"])=some (.bl false)/\yJ (.str w) (.tup [.str "load",.str "store",.str "loadw",.str "storew"])=some (.bl false)/\zj (.str w) (.str "jump")=some (.bl false)/\yJ (.str w) (.tup [.str "when",.str "unless"])=some (.bl false)/\zj (.str w) (.str "stop")=some (.bl false):=by
   rcases hw with rfl | rfl | rfl | rfl | rfl | rfl | rfl | rfl | rfl<;>exact ⟨rfl,rfl,rfl,rfl,rfl,rfl⟩
  obtain ⟨k1,k2,k3,k4,k5,k6⟩:=k
  refine ⟨_,.plain (.two hw o0 (by omega) t0 (by omega)),?_⟩
  rw [pQ]
  unfold uv
  show ((zE _ _ [some (false,.int m),some (false,.lst (N.map D.str)),some (false,.int mn),none,none,none,none]).bind _)=_
  rw [start]
  simp! [k1,k2,k3,k4,k5,k6]
 ·subst hw
  have k:yJ (.str "jump") (.tup [.str "set",.str "high"])=some (.bl false)/\yJ (.str "jump") (.tup [.str "left",.str "right"])=some (.bl false)/\yJ (.str "jump") (.tup [.str "load",.str "store",.str "loadw",.str "storew"])=some (.bl false)/\zj (.str "jump") (.str "jump")=some (.bl true):=⟨rfl,rfl,rfl,rfl⟩
  obtain ⟨k1,k2,k3,k4⟩:=k
  refine ⟨_,.jump ht,?_⟩
  rw [pQ]
  unfold uv
  show ((zE _ _ [some (false,.int m),some (false,.lst (N.map D.str)),some (false,.int mn),none,none,none,none]).bind _)=_
  rw [start]
  simp! [k1,k2,k3,k4,List.length_map,gN,et]
 ·have k:yJ (.str w) (.tup [.str "set",.str "high"])=some (.bl false)/\yJ (.str w) (.tup [.str "left",.str "right"])=some (.bl false)/\yJ (.str w) (.tup [.str "load",.str "store",.str "loadw",.str "storew"])=some (.bl false)/\zj (.str w) (.str "jump")=some (.bl false)/\yJ (.str w) (.tup [.str "when",.str "unless"])=some (.bl true):=by
   rcases hw with rfl | rfl<;>exact ⟨rfl,rfl,rfl,rfl,rfl⟩
  obtain ⟨k1,k2,k3,k4,k5⟩:=k
  obtain ⟨kk,hk,ek⟩:∃ k:Str,(k = "carry" \/ k = "nought" \/ k = "sign")/\zI (.lst [.str "carry",.str "nought",.str "sign"]) (.int (two % 3))=some (.str k):=by
   rcases (show two % 3=0\/two % 3=1\/two % 3=2 by omega) with h | h | h<;>rw [h]
   ·exact ⟨"carry",by simp,rfl⟩
   ·exact ⟨"nought",by simp,rfl⟩
   ·exact ⟨"sign",by simp,rfl⟩
  refine ⟨_,.cond hw hk ht,?_⟩
  rw [pQ]
  unfold uv
  show ((zE _ _ [some (false,.int m),some (false,.lst (N.map D.str)),some (false,.int mn),none,none,none,none]).bind _)=_
  rw [start]
  simp! [k1,k2,k3,k4,k5,List.length_map,gN,et,ek]
 ·subst hw
  have k:yJ (.str "stop") (.tup [.str "set",.str "high"])=some (.bl false)/\yJ (.str "stop") (.tup [.str "left",.str "right"])=some (.bl false)/\yJ (.str "stop") (.tup [.str "load",.str "store",.str "loadw",.str "storew"])=some (.bl false)/\zj (.str "stop") (.str "jump")=some (.bl false)/\yJ (.str "stop") (.tup [.str "when",.str "unless"])=some (.bl false)/\zj (.str "stop") (.str "stop")=some (.bl true):=⟨rfl,rfl,rfl,rfl,rfl,rfl⟩
  obtain ⟨k1,k2,k3,k4,k5,k6⟩:=k
  refine ⟨_,.plain .stop,?_⟩
  rw [pQ]
  unfold uv
  show ((zE _ _ [some (false,.int m),some (false,.lst (N.map D.str)),some (false,.int mn),none,none,none,none]).bind _)=_
  rw [start]
  simp! [k1,k2,k3,k4,k5,k6]
structure PC (items:List D):Prop where
 it:∀ d∈items,yA d
 nd:(items.filter zM).Nodup
 tg:∀ d∈items,zz d=true->∃ (t:Str) (p:Nat),zI d (.int (-1))=some (.str t)/\(yh t items).2=some p
 ln:items.length<=100
def t9 (t:Str) (d:D):Bool:=zc (Jx d) (.str t)
theorem Fh {N:List Str} {d:D} (h:uH N d) (t:Str):∃ x,zI d (.int (-1))=some x/\zj x (.str t)=some (.bl (t9 t d)):=by
 cases h with
 | plain h=>cases h<;>exact ⟨_,rfl,rfl⟩
 | jump ht=>exact ⟨_,rfl,rfl⟩
 | cond hw hk ht=>exact ⟨_,rfl,rfl⟩
theorem Hu {N:List Str} {d:D} (h:uH N d) (hj:zz d=true):∃ t∈N,zI d (.int (-1))=some (.str t)/\t9 t d=true:=by
 cases h with
 | plain h=>
  obtain ⟨_,_,_,_,c,_⟩:=qj h
  rw [c] at hj
  cases hj
 | jump ht=>
  rename_i t
  exact ⟨t,ht,rfl,by show zc (.str t) (.str t)=true; unfold zc; exact beq_self_eq_true _⟩
 | cond hw hk ht=>
  rename_i t
  exact ⟨t,ht,rfl,by show zc (.str t) (.str t)=true; unfold zc; exact beq_self_eq_true _⟩
structure Tz (N:List Str) (R:List D) (k:Nat) (L:List D):Prop where
 it:∀ d∈L,gR N d
 rs:L.filter (fun d=>!zM d)=R.take k
 nd:(L.filter zM).Nodup
 lb:∀ d∈L,zM d=true->∃ j,j<k/\∃ t,N[j]?=some t/\d=yg t
 pl:∀ j t,j<k->N[j]?=some t->(∃ r∈R,t9 t r=true)->(yh t L).2=some j
 ln:L.length<=2*k
theorem IZ:∀ {N:List Str},N.Nodup->∀ {i j:Nat} {u:Str},N[i]?=some u->N[j]?=some u->i=j
 | [],_,_,_,_,h,_=>by cases h
 | x::N,h,0,0,_,_,_=>rfl
 | x::N,h,0,j+1,u,hi,hj=>by
  cases hi
  exact absurd (List.mem_of_getElem? (by simpa using hj)) (List.nodup_cons.mp h).1
 | x::N,h,i+1,0,u,hi,hj=>by
  cases hj
  exact absurd (List.mem_of_getElem? (by simpa using hi)) (List.nodup_cons.mp h).1
 | x::N,h,i+1,j+1,u,hi,hj=>by rw [IZ (List.nodup_cons.mp h).2 (i:=i) (j:=j) (by simpa using hi) (by simpa using hj)]
theorem Jr {t u:Str} (h:yg t=yg u):t=u:=by
 unfold yg at h
 injection h with h
 injection h with _ h
 injection h with h _
 injection h
theorem N_ {N:List Str} (hN:N.Nodup) {R L:List D} {k:Nat} (S:Tz N R k L) {t:Str} (ht:N[k]?=some t) (hk:k<=R.length) :
  (∀ d∈L++[yg t],gR N d)/\(L++[yg t]).filter (fun d=>!zM d)=R.take k/\((L++[yg t]).filter zM).Nodup/\(∀ d∈L++[yg t],zM d=true->∃ j,j<k+1/\∃ t,N[j]?=some t/\d=yg t)/\(∀ j u,j<k+1->N[j]?=some u->(∃ r∈R,t9 u r=true)->(yh u (L++[yg t])).2=some j):=by
 have inj:∀ {i j:Nat} {u:Str},N[i]?=some u->N[j]?=some u->i=j:=fun hi hj=>IZ hN hi hj
 refine ⟨fun d hd=>?_,?_,?_,fun d hd hl=>?_,fun j u hj hu hr=>?_⟩
 ·rcases List.mem_append.mp hd with hd | hd
  ·exact S.it d hd
  ·cases List.mem_singleton.mp hd
   exact .inr ⟨t,List.mem_of_getElem? ht,rfl⟩
 ·rw [List.filter_append,S.rs]
  show R.take k++[]=_
  rw [List.append_nil]
 ·rw [List.filter_append]
  show (L.filter zM++[yg t]).Nodup
  refine List.nodup_append.mpr ⟨S.nd,List.nodup_cons.mpr ⟨by simp,List.nodup_nil⟩,fun a ha b hb e=>?_⟩
  cases List.mem_singleton.mp hb
  obtain ⟨ha,hl⟩:=List.mem_filter.mp ha
  obtain ⟨j,hj,u,hu,ed⟩:=S.lb a ha hl
  have:=Jr (ed.symm.trans e)
  subst this
  have:=inj hu ht
  omega
 ·rcases List.mem_append.mp hd with hd | hd
  ·obtain ⟨j,hj,u,hu,ed⟩:=S.lb d hd hl
   exact ⟨j,by omega,u,hu,ed⟩
  ·cases List.mem_singleton.mp hd
   exact ⟨k,by omega,t,ht,rfl⟩
 ·rw [UM]
  by_cases e:t=u
  ·subst e
   have:=inj hu ht
   rw [if_pos rfl,S.rs,List.length_take,this]
   congr 1
   omega
  ·rw [if_neg e]
   refine S.pl j u ?_ hu hr
   rcases Nat.lt_or_ge j k with h | h
   ·exact h
   ·have:j=k:=by omega
    subst this
    rw [ht] at hu
    cases hu
    exact absurd rfl e
theorem Gn {ns:List Int} (hl:ns.length<=63) (hb:∀ m∈ns,xf m<=1048576) {first most:Int} (f0:0<=first) (f1:first<=40) (m0:0<=most) (m1:most<=14) :
  ∃ (N:List Str) (R items:List D),R.length<=14/\N.length=R.length+1/\N.Nodup/\(∀ r∈R,uH N r)/\PC items/\items.filter (fun d=>!zM d)=R/\items.length<=40/\p8 [.lst (ns.map D.int),.int first,.int most]=some (true,.lst items)/\(∃ ln:Nat,∀ t∈N,t.length=ln)/\∀ t,yg t∈items->t∈N:=by
 obtain ⟨a,a0,a1,ea⟩:=jj hl hb (k:=first) f0 (by omega)
 obtain ⟨b,b0,b1,eb⟩:=jj hl hb (k:=first+1) (by omega) (by omega)
 obtain ⟨c,c0,c1,ec⟩:=jj hl hb (k:=first+2) (by omega) (by omega)
 have em:∀ i:Nat,i<20->∃ m:Int,0<=m/\wX [.lst (ns.map D.int),.int (first+3+(i:Int))]=some (false,.int m):=fun i hi=>by
  obtain ⟨m,h0,_,e⟩:=jj hl hb (k:=first+3+(i:Int)) (by omega) (by omega)
  exact ⟨m,h0,e⟩
 generalize D.lst (ns.map D.int)=s at ea eb ec em ⊢
 have g0:decide (0<most+1)=true:=decide_eq_true (by omega)
 obtain ⟨ct,hct⟩:∃ z:Int,z=a % (most+1):=⟨_,rfl⟩
 have ct0:0<=ct:=by rw [hct]; exact Int.emod_nonneg _ (by omega)
 have ct1:ct<most+1:=by rw [hct]; exact Int.emod_lt_of_pos _ (by omega)
 obtain ⟨N,nl,nd,nlen,en⟩:=CB b0 (many:=ct+1) (by omega) (by omega)
 have nn:N≠[]:=fun z=>by rw [z] at nl; simp at nl; omega
 obtain ⟨mn,hmn,emn⟩:=Xp (a:=3) (b:=8) (i:=c % 2) (by omega) (by omega)
 have r1:Ol [some (false,s),some (false,.int first),some (false,.int most),some (false,.int ct),some (false,.lst (N.map D.str)),some (false,.int mn),none,none,none]=some (xy ct.toNat):=qk (n:=ct) rfl (by omega)
 obtain ⟨R,e1,eR⟩:=Vu (g:=zn 9) (e:=TZ) (σ:=[some (false,s),some (false,.int first),some (false,.int most),some (false,.int ct),some (false,.lst (N.map D.str)),some (false,.int mn),none,none,none,none]) (fun _ y=>uH N y) (ds:=xy ct.toNat) fun d hd=>by
  obtain ⟨i,hi,rfl⟩:=TD hd
  obtain ⟨m,h0,e⟩:=em i (by omega)
  obtain ⟨r,hr,er⟩:=Hv nn h0 hmn
  refine ⟨_,r,rfl,?_,hr⟩
  unfold TZ
  generalize N.map D.str=NN at *
  simp! [add_int,e,er]
 have rl:R.length=ct.toNat:=by rw [<- Qt eR,jA]
 have hR:∀ r∈R,uH N r:=fun r hr=>by
  obtain ⟨_,_,h⟩:=kA eR r hr
  exact h
 have r2:Om [some (false,s),some (false,.int first),some (false,.int most),some (false,.int ct),some (false,.lst (N.map D.str)),some (false,.int mn),some (false,.lst R),none,some (true,.lst [])]=some (xy (ct.toNat+1)):=by
  have:=qk (f:=e2 yt (z6 3) (eC (.int 1))) (τ:=[some (false,s),some (false,.int first),some (false,.int most),some (false,.int ct),some (false,.lst (N.map D.str)),some (false,.int mn),some (false,.lst R),none,some (true,.lst [])]) (n:=ct+1) rfl (by omega)
  rw [show (ct+1).toNat=ct.toNat+1 by omega] at this
  exact this
 obtain ⟨σ',e3,L,x7,S,rfl⟩:=pW (g:=zn 7) (b:=XU) (fun i σ=>∃ L x7,Tz N R i L/\σ=[some (false,s),some (false,.int first),some (false,.int most),some (false,.int ct),some (false,.lst (N.map D.str)),some (false,.int mn),some (false,.lst R),x7,some (true,.lst L)]) (ds:=xy (ct.toNat+1))
  (σ:=[some (false,s),some (false,.int first),some (false,.int most),some (false,.int ct),some (false,.lst (N.map D.str)),some (false,.int mn),some (false,.lst R),none,some (true,.lst [])]) 0 ⟨[],none,⟨(fun _ h=>by cases h),by rw [List.take_zero]; rfl,List.nodup_nil,(fun _ h=>by cases h),(fun j _ h=>absurd h (Nat.not_lt_zero _)),Nat.le_refl _⟩,rfl⟩ (by
  rintro i v σ hv ⟨L,x7,S,rfl⟩
  obtain ⟨hi,rfl⟩:=YB hv
  rw [Nat.zero_add] at *
  have hiN:i<N.length:=by omega
  have gN:N[i]?=some N[i]:=List.getElem?_eq_getElem hiN
  have ix:zI (.lst (N.map D.str)) (.int (i:Int))=some (.str N[i]):=vp (by omega) (by rw [Int.toNat_natCast,List.getElem?_map,gN]; rfl)
  have f1:=tm (g:=zn 9) (c:=WS) (e:=Ta) (σ:=[some (false,s),some (false,.int first),some (false,.int most),some (false,.int ct),some (false,.lst (N.map D.str)),some (false,.int mn),some (false,.lst R),some (false,.int (i:Int)),some (true,.lst L),none]) (t9 N[i]) id (ds:=R) fun d hd=>by
   obtain ⟨x,q1,q2⟩:=Fh (hR d hd) N[i]
   refine ⟨_,rfl,?_,fun _=>rfl⟩
   unfold WS
   generalize N.map D.str=NN at *
   simp! [q1,ix,q2]
  rw [List.map_id] at f1
  have ne:=Xe (R.filter (t9 N[i]))
  have lab:∃ L',yB (xG (tE (e2 yL (xJ 1 (x_ (z6 6)) (zn 9) WS Ta) (y_ zB))) (tE (e2 zj (e2 ym (e2 wG (zQ wX (zA (z6 0) (zA (e2 yt (z6 1) (eC (.int 2))) zB))) (eC (.int 2))) (eC (.int 5))) (z6 7))))
     (wN 8 wE (xK (zA (eC (.str "label")) (zA (e2 zI (z6 4) (z6 7)) zB))))
     yK [some (false,s),some (false,.int first),some (false,.int most),some (false,.int ct),some (false,.lst (N.map D.str)),some (false,.int mn),some (false,.lst R),some (false,.int (i:Int)),some (true,.lst L)]=some (.nx [some (false,s),some (false,.int first),some (false,.int most),some (false,.int ct),some (false,.lst (N.map D.str)),some (false,.int mn),some (false,.lst R),some (false,.int (i:Int)),some (true,.lst L')])/\
    L'.length<=2*i+1/\(∀ d∈L',gR N d)/\L'.filter (fun d=>!zM d)=R.take i/\(L'.filter zM).Nodup/\(∀ d∈L',zM d=true->∃ j,j<i+1/\∃ t,N[j]?=some t/\d=yg t)/\(∀ j u,j<i+1->N[j]?=some u->(∃ r∈R,t9 u r=true)->(yh u L').2=some j):=by
   have hap:=tV (L:=L) (r:=yg N[i]) (by have:=S.ln; omega)
   have with_:=N_ nd S gN (by omega)
   have ll:(L++[yg N[i]]).length<=2*i+1:=by rw [List.length_append]; have:=S.ln; show L.length+1<=_; omega
   unfold yg at hap
   cases hE:(R.filter (t9 N[i])).isEmpty with
   | false=>
    rw [hE] at ne
    refine ⟨L++[yg N[i]],?_,ll,with_⟩
    unfold yg
    generalize N.map D.str=NN at *
    simp! [f1,ne,ix,hap,Bool.not_false]
   | true=>
    rw [hE] at ne
    have none_:¬ ∃ r∈R,t9 N[i] r=true:=fun ⟨r,hr,h⟩=>by
     have:r∈R.filter (t9 N[i]):=List.mem_filter.mpr ⟨hr,h⟩
     rw [List.isEmpty_iff.mp hE] at this
     cases this
    by_cases hc:c / 2 % 5=(i:Int)
    ·have k:=kN hc
     refine ⟨L++[yg N[i]],?_,ll,with_⟩
     unfold yg
     generalize N.map D.str=NN at *
     simp! [f1,ne,add_int,ec,k,ix,hap,Bool.not_true]
    ·have k:=kO hc
     refine ⟨L,?_,by have:=S.ln; omega,S.it,S.rs,S.nd,fun d hd hl=>?_,fun j u hj hu hr=>?_⟩
     ·generalize N.map D.str=NN at *
      simp! [f1,ne,add_int,ec,k,Bool.not_true]
     ·obtain ⟨j,hj,t,ht,e⟩:=S.lb d hd hl
      exact ⟨j,by omega,t,ht,e⟩
     ·rcases Nat.lt_or_ge j i with h | h
      ·exact S.pl j u h hu hr
      ·have:j=i:=by omega
       subst this
       rw [gN] at hu
       cases hu
       exact absurd hr none_
  obtain ⟨L',el,ll,l1,l2,l3,l4,l5⟩:=lab
  by_cases hir:i<ct.toNat
  ·have cond:decide ((i:Int)<ct)=true:=decide_eq_true (by omega)
   have hiR:i<R.length:=by omega
   have ixR:zI (.lst R) (.int (i:Int))=some R[i]:=vp (by omega) (by rw [Int.toNat_natCast]; exact List.getElem?_eq_getElem hiR)
   have hap:=tV (L:=L') (r:=R[i]) (by omega)
   have rA:=hR _ (List.getElem_mem hiR)
   have rl0:=(UZ rA).2
   refine ⟨_,[some (false,s),some (false,.int first),some (false,.int most),some (false,.int ct),some (false,.lst (N.map D.str)),some (false,.int mn),some (false,.lst R),some (false,.int (i:Int)),some (true,.lst (L'++[R[i]]))],rfl,.inl ?_,L'++[R[i]],_,⟨?_,?_,?_,?_,?_,?_⟩,rfl⟩
   ·unfold XU
    show zE _ _ [some (false,s),some (false,.int first),some (false,.int most),some (false,.int ct),some (false,.lst (N.map D.str)),some (false,.int mn),some (false,.lst R),some (false,.int (i:Int)),some (true,.lst L)]=_
    rw [xb el]
    generalize N.map D.str=NN at *
    generalize R[i]=RI at *
    simp! [cond,ixR,hap]
   ·intro d hd
    rcases List.mem_append.mp hd with hd | hd
    ·exact l1 d hd
    ·cases List.mem_singleton.mp hd
     exact .inl rA
   ·rw [List.filter_append,l2,List.filter_cons_of_pos (by rw [rl0]; rfl),List.filter_nil,List.take_succ_eq_append_getElem hiR]
   ·rw [List.filter_append,List.filter_cons_of_neg (by rw [rl0]; decide),List.filter_nil,List.append_nil]
    exact l3
   ·intro d hd hl
    rcases List.mem_append.mp hd with hd | hd
    ·exact l4 d hd hl
    ·cases List.mem_singleton.mp hd
     rw [rl0] at hl
     cases hl
   ·intro j u hj hu hr
    rw [UO rl0]
    exact l5 j u hj hu hr
   ·rw [List.length_append]
    show L'.length+1<=_
    omega
  ·have cond:decide ((i:Int)<ct)=false:=decide_eq_false (by omega)
   refine ⟨_,[some (false,s),some (false,.int first),some (false,.int most),some (false,.int ct),some (false,.lst (N.map D.str)),some (false,.int mn),some (false,.lst R),some (false,.int (i:Int)),some (true,.lst L')],rfl,.inl ?_,L',_,⟨l1,?_,l3,l4,l5,by omega⟩,rfl⟩
   ·unfold XU
    show zE _ _ [some (false,s),some (false,.int first),some (false,.int most),some (false,.int ct),some (false,.lst (N.map D.str)),some (false,.int mn),some (false,.lst R),some (false,.int (i:Int)),some (true,.lst L)]=_
    rw [xb el]
    generalize N.map D.str=NN at *
    simp! [cond]
   ·rw [l2,List.take_of_length_le (by omega),List.take_of_length_le (by omega)])
 rw [jA,Nat.zero_add] at S
 have ln:=S.ln
 refine ⟨N,R,L,by omega,by omega,nd,hR,⟨fun d hd=>Dm (S.it d hd),S.nd,fun d hd hj=>?_,by omega⟩,by rw [S.rs,List.take_of_length_le (by omega)],by omega,?_,?_,fun t ht=>?_⟩
 ·rcases S.it d hd with h | ⟨t,_,rfl⟩
  ·obtain ⟨t,ht,e,li⟩:=Hu h hj
   obtain ⟨j,hj2,ej⟩:=List.getElem_of_mem ht
   have dR:d∈R:=by
    have:d∈L.filter fun d=>!zM d:=List.mem_filter.mpr ⟨hd,by rw [(UZ h).2]; rfl⟩
    rw [S.rs] at this
    exact List.mem_of_mem_take this
   exact ⟨t,j,e,S.pl j t (by omega) (by rw [List.getElem?_eq_getElem hj2,ej]) ⟨d,dR,li⟩⟩
  ·cases hj
 ·rw [Bx]
  unfold Yf
  generalize N.map D.str=NN at *
  simp! [ea,add_int,g0,<- hct,eb,en,ec,emn,r1,e1,r2,e3]
 ·obtain ⟨ln,_,h⟩:=nlen
  exact ⟨ln,h⟩
 ·obtain ⟨j,_,u,hu,e⟩:=S.lb _ ht rfl
  rw [Jr e]
  exact List.mem_of_getElem? hu
theorem Gm {ns:List Int} (hl:ns.length<=63) (hb:∀ m∈ns,xf m<=1048576) {first most:Int} (f0:0<=first) (f1:first<=40) (m0:0<=most) (m1:most<=14) :
  ∃ (N:List Str) (R items:List D),R.length<=14/\N.length=R.length+1/\N.Nodup/\(∀ r∈R,uH N r)/\PC items/\items.filter (fun d=>!zM d)=R/\items.length<=40/\p8 [.lst (ns.map D.int),.int first,.int most]=some (true,.lst items):=by
 obtain ⟨N,R,items,a,b,c,d,e,f,g,h,_⟩:=Gn hl hb f0 f1 m0 m1
 exact ⟨N,R,items,a,b,c,d,e,f,g,h⟩
end L3
namespace L3
open PySem
def Lw:FE:=(z6 1)
def Tl:FT:=(tE (e2 yL (e2 zI (z6 1) (eC (.int 0))) (eC (.str "label"))))
def Yg:FS:=
 (w8 (xJ 1 (x_ (z6 0)) (zn 1) Tl Lw))
def vn:List D->Option (Bool×D):=FR 1 1 Yg
theorem KO:∀ ds r,vn ds=some r->ds.length=1/\za 1 Yg ds=some r:=yb
theorem By (x0:D):vn [x0]=za 1 Yg [x0]:=rfl
theorem Jz {items:List D} (h:∀ d∈items,yA d):vn [.lst items]=some (true,.lst (items.filter fun d=>!zM d)):=by
 have e:=tm (g:=zn 1) (c:=Tl) (e:=Lw) (σ:=[some (false,.lst items),none]) (fun d=>!zM d) id (ds:=items) fun d hd=>by
  obtain ⟨w,a,b,_⟩:=kR (h d hd)
  have b:=Xf b
  refine ⟨_,rfl,?_,fun _=>rfl⟩
  unfold Tl
  simp! [a,b]
 rw [List.map_id] at e
 rw [By]
 unfold Yg
 simp! [e]
end L3
namespace L3
open PySem
def zD (qs:List Nat):List D:=qs.map fun i:Nat=>D.int i
theorem Jm:∀ qs:List Nat,t6 (qs.map fun i:Nat=>D.tup [.int i,.bl true])=some (qs.map fun i:Nat=>Sum.inl (i:Int),qs.map fun _=>D.bl true)
 | []=>rfl
 | a::qs=>by
  show (uK (.int (a:Int))).bind _=_
  show (t6 (qs.map fun i:Nat=>D.tup [.int i,.bl true])).bind _=_
  rw [Jm qs]
  rfl
theorem kL (n:Nat):∀ qs:List Nat,yI (qs.map fun i:Nat=>Sum.inl (i:Int)) (.inl (n:Int))=decide (n∈qs)
 | []=>rfl
 | a::qs=>by
  show (decide ((Sum.inl (a:Int):Sum Int Str)=.inl (n:Int))||yI (qs.map fun i:Nat=>Sum.inl (i:Int)) (.inl (n:Int)))=_
  rw [kL n qs]
  by_cases h:a=n
  ·subst h
   rw [decide_eq_true (p:=(Sum.inl (a:Int):Sum Int Str)=.inl (a:Int)) rfl,decide_eq_true (List.mem_cons_self ..)]
   rfl
  ·rw [decide_eq_false (p:=(Sum.inl (a:Int):Sum Int Str)=.inl (n:Int)) (fun e=>h (by have:=Sum.inl.inj e; omega)),Bool.false_or]
   refine decide_eq_decide.mpr ⟨fun z=>List.mem_cons_of_mem _ z,fun z=>?_⟩
   rcases List.mem_cons.mp z with z | z
   ·exact absurd z.symm h
   ·exact z
theorem Qn (qs:List Nat):∃ K V,pL [.lst (qs.map fun i:Nat=>D.tup [.int i,.bl true])]=some (.dic K V)/\∀ n:Nat,yI K (.inl (n:Int))=decide (n∈qs):=by
 refine ⟨(yn [] [] (qs.map fun i:Nat=>Sum.inl (i:Int)) (qs.map fun _=>D.bl true)).1,(yn [] [] (qs.map fun i:Nat=>Sum.inl (i:Int)) (qs.map fun _=>D.bl true)).2,?_,fun n=>?_⟩
 ·show (t6 _).bind _=_
  rw [Jm]
  rfl
 ·rw [Ve (by simp),kL]
  rfl
end L3
namespace L3
open PySem
def Sb (a b:Nat):Prop:=∀ k,a.testBit k=true->b.testBit k=true
theorem Sb.refl (a:Nat):Sb a a:=fun _ h=>h
theorem Sb.trans {a b c:Nat} (h:Sb a b) (g:Sb b c):Sb a c:=fun k z=>g k (h k z)
theorem Sb.anti {a b:Nat} (h:Sb a b) (g:Sb b a):a=b:=Nat.eq_of_testBit_eq fun k=>by
 cases ea:a.testBit k with
 | true=>exact (h k ea).symm
 | false=>
  cases eb:b.testBit k with
  | false=>rfl
  | true=>rw [g k eb] at ea; cases ea
theorem Ue (a:Nat):Sb 0 a:=fun k h=>by rw [Nat.zero_testBit] at h; cases h
theorem Qp:∀ (k a p:Nat),(a - (a &&& p)).testBit k=(a.testBit k&&!p.testBit k)
 | 0,a,p=>by
  have h1:(a &&& p) % 2=(a % 2)*(p % 2):=by
   have:(a &&& p).testBit 0=(a.testBit 0&&p.testBit 0):=Nat.testBit_and ..
   simp only [Nat.testBit_zero] at this
   rcases Nat.mod_two_eq_zero_or_one a with e | e<;>rcases Nat.mod_two_eq_zero_or_one p with f | f<;>rcases Nat.mod_two_eq_zero_or_one (a &&& p) with g | g<;>rw [e,f,g] at this<;>rw [e,f,g]<;>first | rfl | (simp at this)
  have h2:(a &&& p)<=a:=Nat.and_le_left
  simp only [Nat.testBit_zero]
  rcases Nat.mod_two_eq_zero_or_one a with e | e<;>rcases Nat.mod_two_eq_zero_or_one p with f | f<;>rw [e,f] at h1<;>simp only [e,f]<;>simp<;>omega
 | k+1,a,p=>by
  have h1:(a - (a &&& p)) / 2=a / 2 - (a / 2 &&& p / 2):=by
   have d:(a &&& p) / 2=(a / 2 &&& p / 2):=by
    refine Nat.eq_of_testBit_eq fun j=>?_
    rw [Nat.testBit_and,<- Nat.testBit_succ,<- Nat.testBit_succ,<- Nat.testBit_succ,Nat.testBit_and]
   have h2:(a &&& p)<=a:=Nat.and_le_left
   have h3:(a &&& p) % 2<=a % 2:=by
    have:(a &&& p).testBit 0=(a.testBit 0&&p.testBit 0):=Nat.testBit_and ..
    simp only [Nat.testBit_zero] at this
    rcases Nat.mod_two_eq_zero_or_one a with e | e<;>rcases Nat.mod_two_eq_zero_or_one (a &&& p) with g | g<;>rw [e,g] at this<;>rw [e,g]<;>first | omega | (simp at this)
   rw [<- d]
   omega
  rw [Nat.testBit_succ,h1,Qp k,Nat.testBit_succ,Nat.testBit_succ]
theorem V0 (a:Nat):decide ((0:Int)<=Builtin.bitNot (a:Int))=false:=decide_eq_false (by unfold Builtin.bitNot; omega)
theorem b0 (a:Nat):decide ((0:Int)<=(a:Int))=true:=decide_eq_true (Int.natCast_nonneg a)
theorem QT (a:Int):Builtin.bitNot (Builtin.bitNot a)=a:=by unfold Builtin.bitNot; omega
theorem QX (a b:Nat):Builtin.bitOr (a:Int) (b:Int)=((a ||| b:Nat):Int):=by
 unfold Builtin.bitOr Builtin.bitAnd
 rw [V0,V0]
 simp only [QT,Int.toNat_natCast]
theorem MO (a b:Nat):Builtin.bitAnd (a:Int) (b:Int)=((a &&& b:Nat):Int):=by
 unfold Builtin.bitAnd
 rw [b0,b0]
 simp only [Int.toNat_natCast]
theorem MP (a p:Nat):Builtin.bitAnd (a:Int) (Builtin.bitNot (p:Int))=((a - (a &&& p):Nat):Int):=by
 have h2:(a &&& p)<=a:=Nat.and_le_left
 unfold Builtin.bitAnd
 rw [b0,V0]
 simp only [QT,Int.toNat_natCast]
 omega
theorem MT {x k:Nat} (h:x<2048) (hk:x.testBit k=true):k<11:=by
 rcases Nat.lt_or_ge k 11 with c | c
 ·exact c
 ·have:x<2 ^ k:=Nat.lt_of_lt_of_le h (Nat.pow_le_pow_right (n:=2) (by decide) c)
  rw [Nat.testBit_lt_two_pow this] at hk
  cases hk
theorem I_ {a b:Nat} (ha:a<2048) (hb:b<2048):(a ||| b)<2048:=Nat.or_lt_two_pow (n:=11) ha hb
theorem BF {a:Nat} (p:Nat) (ha:a<2048):a - (a &&& p)<2048:=by omega
def pc (x:Nat):Nat:=(List.range 11).countP fun k=>x.testBit k
theorem pc_le (x:Nat):pc x<=11:=by
 have:=List.countP_le_length (p:=fun k=>x.testBit k) (l:=List.range 11)
 rw [List.length_range] at this
 exact this
theorem Qf {p q:Nat->Bool}:∀ {l:List Nat},(∀ k∈l,p k=true->q k=true)->(∃ k∈l,q k=true/\p k=false)->l.countP p<l.countP q
 | [],_,⟨k,h,_⟩=>by cases h
 | a::l,h,⟨k,hk,h1,h2⟩=>by
  have hm:l.countP p<=l.countP q:=List.countP_mono_left fun k hk z=>h k (List.mem_cons_of_mem _ hk) z
  rcases List.mem_cons.mp hk with rfl | hk
  ·rw [List.countP_cons_of_pos h1,List.countP_cons_of_neg (by rw [h2]; decide)]
   omega
  ·have ih:=Qf (l:=l) (fun k hk=>h k (List.mem_cons_of_mem _ hk)) ⟨k,hk,h1,h2⟩
   rw [List.countP_cons,List.countP_cons]
   have:=h a List.mem_cons_self
   by_cases c:p a=true
   ·rw [if_pos c,if_pos (this c)]; omega
   ·rw [if_neg c]; omega
theorem pc_lt {a b:Nat} (h:Sb a b) (hb:b<2048) (ne:a≠b):pc a<pc b:=by
 refine Qf (fun k _ z=>h k z) ?_
 apply Classical.byContradiction
 intro hn
 refine ne (h.anti fun k z=>?_)
 cases e:a.testBit k with
 | true=>rfl
 | false=>exact (hn ⟨k,List.mem_range.mpr (MT hb z),z,e⟩).elim
end L3
namespace L3
open PySem
def Q8:FS:=
 (yH (e2 pO (eC (.int 1)) (e2 yt (eC (.int 8)) (e1 (J1 JA) (z6 0)))))
def tP:List D->Option (Bool×D):=FR 1 1 Q8
theorem KU:∀ ds r,tP ds=some r->ds.length=1/\za 1 Q8 ds=some r:=yb
def Q9:FS:=
 (yH (g_ (VB (e2 zj (e2 zI (z6 0) (eC (.int 0))) (eC (.str "left"))) (e2 zj (e2 zI (z6 0) (eC (.int 0))) (eC (.str "right")))) (e2 zj (e2 zI (z6 0) (eC (.int 2))) (eC (.int 0)))))
def YH:List D->Option (Bool×D):=FR 1 1 Q9
theorem KW:∀ ds r,YH ds=some r->ds.length=1/\za 1 Q9 ds=some r:=yb
def QC:FS:=
 (zE (yB (tE (e2 zj (e2 zI (z6 0) (eC (.int 0))) (eC (.str "stop"))))
   (yH (eC (.int 2047)))
   yK)
  (zE (yB (xG (tE (e2 zj (e2 zI (z6 0) (eC (.int 0))) (eC (.str "when")))) (tE (e2 zj (e2 zI (z6 0) (eC (.int 0))) (eC (.str "unless")))))
   (yH (zQ tP (zA (e2 zI (z6 0) (eC (.int 1))) zB)))
   yK)
  (zE (zU 1 (eC (.int 0)))
  (zE (yB (tE (e2 yJ (e2 zI (z6 0) (eC (.int 0))) (eC VY)))
   (zU 1 (e2 (wY Builtin.bitOr) (z6 1) (e2 pO (eC (.int 1)) (e2 zI (z6 0) (eC (.int 1))))))
   yK)
  (zE (yB (tE (e2 yJ (e2 zI (z6 0) (eC (.int 0))) (eC VZ)))
   (zU 1 (e2 (wY Builtin.bitOr) (z6 1) (e2 pO (eC (.int 1)) (e2 zI (z6 0) (eC (.int 2))))))
   yK)
  (zE (yB (tE (e2 yJ (e2 zI (z6 0) (eC (.int 0))) (eC VX)))
   (zU 1 (e2 (wY Builtin.bitOr) (z6 1) (zQ tP (zA (eC (.str "carry")) zB))))
   yK)
  (yH (z6 1))))))))
def uE:List D->Option (Bool×D):=FR 1 2 QC
theorem Kn:∀ ds r,uE ds=some r->ds.length=1/\za 2 QC ds=some r:=yb
def QB:FS:=
 (zE (zU 1 (eC (.int 0)))
  (zE (yB (tE (e2 yJ (e2 zI (z6 0) (eC (.int 0))) (eC Vb)))
   (zU 1 (e2 (wY Builtin.bitOr) (z6 1) (e2 pO (eC (.int 1)) (e2 zI (z6 0) (eC (.int 1))))))
   yK)
  (zE (yB (tE (e2 yJ (e2 zI (z6 0) (eC (.int 0))) (eC Vc)))
   (zU 1 (e2 (wY Builtin.bitOr) (e2 (wY Builtin.bitOr) (z6 1) (zQ tP (zA (eC (.str "nought")) zB))) (zQ tP (zA (eC (.str "sign")) zB))))
   yK)
  (zE (yB (qz (tE (e2 yJ (e2 zI (z6 0) (eC (.int 0))) (eC Va))) (tK (tE (zQ YH (zA (z6 0) zB)))))
   (zU 1 (e2 (wY Builtin.bitOr) (z6 1) (zQ tP (zA (eC (.str "carry")) zB))))
   yK)
  (yH (z6 1))))))
def vZ:List D->Option (Bool×D):=FR 1 2 QB
theorem Kh:∀ ds r,vZ ds=some r->ds.length=1/\za 2 QB ds=some r:=yb
def Xj:Option (Bool×D)->Bool
 | some (false,.int u)=>decide (0<=u/\u<2048)
 | _=>false
def tH (r:D):Bool:=Xj (uE [r])&&Xj (vZ [r])
theorem R7:tH (.tup [.str "stop"])=true:=by decide +kernel
theorem R3:∀ n:Int,(["set", "high"].all fun w=>(List.range 8).all fun d=>tH (.tup [.str (Str.ofString w),.int d,.int n]))=true:=fun n=>by kernel_rfl
theorem R8:(["copy", "add", "addc", "sub", "subc", "and", "or", "xor", "test"].all fun w=>(List.range 8).all fun d=>(List.range 8).all fun s=>tH (.tup [.str (Str.ofString w),.int d,.int s]))=true:=by kernel_rfl
theorem R6:(["left", "right"].all fun w=>(List.range 8).all fun d=>(List.range 32).all fun s=>tH (.tup [.str (Str.ofString w),.int d,.int s]))=true:=by kernel_rfl
theorem R5:∀ n:Int,(["load", "store", "loadw", "storew"].all fun w=>(List.range 8).all fun d=>(List.range 8).all fun s=>tH (.tup [.str (Str.ofString w),.int d,.int s,.int n]))=true:=fun n=>by kernel_rfl
theorem R4:∀ t:Str,tH (.tup [.str "jump",.str t])=true:=fun n=>by kernel_rfl
theorem R1:∀ t:Str,(["when", "unless"].all fun w=>["carry", "nought", "sign"].all fun k=>tH (.tup [.str (Str.ofString w),.str (Str.ofString k),.str t]))=true:=fun n=>by kernel_rfl
theorem Il {o:Option (Bool×D)} (h:Xj o=true):∃ u:Nat,u<2048/\o=some (false,.int u):=by
 unfold Xj at h
 split at h
 ·rename_i u
  have:=of_decide_eq_true h
  exact ⟨u.toNat,by omega,by rw [Int.toNat_of_nonneg this.1]⟩
 ·cases h
theorem zo {α:Type} {l:List α} {f:α->Bool} (h:l.all f=true) {x:α} (hx:x∈l):f x=true:=List.all_eq_true.mp h x hx
theorem pX {d:Int} {n:Nat} (h0:0<=d) (h1:d<n):∃ k∈List.range n,d=(k:Nat):=⟨d.toNat,List.mem_range.mpr (by omega),by omega⟩
theorem Dn {f:D->Bool} (u0:f (.tup [.str "stop"])=true)
  (u1:∀ n:Int,(["set", "high"].all fun w=>(List.range 8).all fun d=>f (.tup [.str (Str.ofString w),.int d,.int n]))=true)
  (u2:(["copy", "add", "addc", "sub", "subc", "and", "or", "xor", "test"].all fun w=>(List.range 8).all fun d=>(List.range 8).all fun s=>f (.tup [.str (Str.ofString w),.int d,.int s]))=true)
  (u3:(["left", "right"].all fun w=>(List.range 8).all fun d=>(List.range 32).all fun s=>f (.tup [.str (Str.ofString w),.int d,.int s]))=true)
  (u4:∀ n:Int,(["load", "store", "loadw", "storew"].all fun w=>(List.range 8).all fun d=>(List.range 8).all fun s=>f (.tup [.str (Str.ofString w),.int d,.int s,.int n]))=true)
  (u5:∀ t:Str,f (.tup [.str "jump",.str t])=true)
  (u6:∀ t:Str,(["when", "unless"].all fun w=>["carry", "nought", "sign"].all fun k=>f (.tup [.str (Str.ofString w),.str (Str.ofString k),.str t]))=true)
  {r:D} (h:yA r) (hl:zM r=false):f r=true:=by
 cases h with
 | label t=>cases hl
 | plain h=>
  cases h with
  | stop=>exact u0
  | imm hw d0 d1 n0 n1=>
   obtain ⟨k,hk,rfl⟩:=pX (n:=8) d0 d1
   rcases hw with rfl | rfl
   ·exact zo (zo (u1 _) (x := "set") (by decide)) hk
   ·exact zo (zo (u1 _) (x := "high") (by decide)) hk
  | two hw d0 d1 s0 s1=>
   obtain ⟨k,hk,rfl⟩:=pX (n:=8) d0 d1
   obtain ⟨j,hj,rfl⟩:=pX (n:=8) s0 s1
   rcases hw with rfl | rfl | rfl | rfl | rfl | rfl | rfl | rfl | rfl
   ·exact zo (zo (zo u2 (x := "copy") (by decide)) hk) hj
   ·exact zo (zo (zo u2 (x := "add") (by decide)) hk) hj
   ·exact zo (zo (zo u2 (x := "addc") (by decide)) hk) hj
   ·exact zo (zo (zo u2 (x := "sub") (by decide)) hk) hj
   ·exact zo (zo (zo u2 (x := "subc") (by decide)) hk) hj
   ·exact zo (zo (zo u2 (x := "and") (by decide)) hk) hj
   ·exact zo (zo (zo u2 (x := "or") (by decide)) hk) hj
   ·exact zo (zo (zo u2 (x := "xor") (by decide)) hk) hj
   ·exact zo (zo (zo u2 (x := "test") (by decide)) hk) hj
  | mov hw d0 d1 n0 n1=>
   obtain ⟨k,hk,rfl⟩:=pX (n:=8) d0 d1
   obtain ⟨j,hj,rfl⟩:=pX (n:=32) n0 n1
   rcases hw with rfl | rfl
   ·exact zo (zo (zo u3 (x := "left") (by decide)) hk) hj
   ·exact zo (zo (zo u3 (x := "right") (by decide)) hk) hj
  | mem hw d0 d1 s0 s1 n0 n1=>
   obtain ⟨k,hk,rfl⟩:=pX (n:=8) d0 d1
   obtain ⟨j,hj,rfl⟩:=pX (n:=8) s0 s1
   rcases hw with rfl | rfl | rfl | rfl
   ·exact zo (zo (zo (u4 _) (x := "load") (by decide)) hk) hj
   ·exact zo (zo (zo (u4 _) (x := "store") (by decide)) hk) hj
   ·exact zo (zo (zo (u4 _) (x := "loadw") (by decide)) hk) hj
   ·exact zo (zo (zo (u4 _) (x := "storew") (by decide)) hk) hj
 | jump t=>exact u5 t
 | cond t hw hk=>
  rcases hw with rfl | rfl<;>rcases hk with rfl | rfl | rfl
  ·exact zo (zo (u6 t) (x := "when") (by decide)) (x := "carry") (by decide)
  ·exact zo (zo (u6 t) (x := "when") (by decide)) (x := "nought") (by decide)
  ·exact zo (zo (u6 t) (x := "when") (by decide)) (x := "sign") (by decide)
  ·exact zo (zo (u6 t) (x := "unless") (by decide)) (x := "carry") (by decide)
  ·exact zo (zo (u6 t) (x := "unless") (by decide)) (x := "nought") (by decide)
  ·exact zo (zo (u6 t) (x := "unless") (by decide)) (x := "sign") (by decide)
theorem Lm {r:D} (h:yA r) (hl:zM r=false):tH r=true:=Dn R7 R3 R8 R6 R5 R4 R1 h hl
def qi:Option (Bool×D)->Nat
 | some (_,.int u)=>u.toNat
 | _=>0
theorem R9 {r:D} (h:yA r) (hl:zM r=false):uE [r]=some (false,.int (qi (uE [r]):Nat))/\qi (uE [r])<2048:=by
 have:=Lm h hl
 unfold tH at this
 rw [Bool.and_eq_true] at this
 obtain ⟨u,hu,e⟩:=Il this.1
 rw [e]
 exact ⟨rfl,hu⟩
theorem G_ {r:D} (h:yA r) (hl:zM r=false):vZ [r]=some (false,.int (qi (vZ [r]):Nat))/\qi (vZ [r])<2048:=by
 have:=Lm h hl
 unfold tH at this
 rw [Bool.and_eq_true] at this
 obtain ⟨u,hu,e⟩:=Il this.2
 rw [e]
 exact ⟨rfl,hu⟩
end L3
namespace L3
open PySem
def Tf:FE:=(pJ (tE (zQ uB (zA (z6 2) zB))) (e2 zI (z6 1) (e2 zI (z6 2) (e1 tY (eC (.int 1))))) (eC .non))
def Yu:FS:=
 (zE (zU 1 (zQ uP (zA (z6 0) zB)))
  (w8 (xJ 1 (x_ (zQ xO (zA (z6 0) zB))) (zn 2) xM Tf)))
def uS:List D->Option (Bool×D):=FR 1 2 Yu
theorem Kl:∀ ds r,uS ds=some r->ds.length=1/\za 2 Yu ds=some r:=yb
theorem DM (x0:D):uS [x0]=za 2 Yu [x0]:=rfl
def Yw:FS:=
 (zE (yB (tE (e2 zj (e2 zI (z6 0) (eC (.int 0))) (eC (.str "stop"))))
   (w8 (y_ zB))
   yK)
  (zE (yB (tE (e2 zj (e2 zI (z6 0) (eC (.int 0))) (eC (.str "jump"))))
   (w8 (y_ (zA (z6 2) zB)))
   yK)
  (zE (yB (tE (e2 pM (z6 2) (eC .non)))
   (w8 (y_ (zA (e2 yt (z6 1) (eC (.int 1))) zB)))
   yK)
  (w8 (eL pP (zA (y_ (zA (e2 yt (z6 1) (eC (.int 1))) (zA (z6 2) zB))) zB))))))
def jO:List D->Option (Bool×D):=FR 3 3 Yw
theorem Ko:∀ ds r,jO ds=some r->ds.length=3/\za 3 Yw ds=some r:=yb
theorem DO (x0 x1 x2:D):jO [x0,x1,x2]=za 3 Yw [x0,x1,x2]:=rfl
def wd:D->Str
 | .tup (.str w::_)=>w
 | _ => ""
def pY (r:D):Str:=match Jx r with
 | .str t=>t
 | _ => ""
def yS (items:List D) (r:D):Option Nat:=match zz r with
 | true=>(yh (pY r) items).2
 | false=>none
def yN:Option Nat->D
 | none=>.non
 | some p=>.int (p:Int)
def two (a b:Nat):List Nat:=if a=b then [a] else if a<b then [a,b] else [b,a]
def qG (r:D) (i:Nat) (t:Option Nat):List Nat:=if wd r = "stop" then [] else match t with
 | none=>[i+1]
 | some p=>if wd r = "jump" then [p] else two (i+1) p
def z8 (items:List D):List D:=items.filter fun d=>!zM d
def Wf (items:List D) (i:Nat):List Nat:=match (z8 items)[i]? with
 | some r=>qG r i (yS items r)
 | none=>[]
theorem XX {g:FG} {e:FE} {σ:zb} (v:Nat->D):∀ {ds:List D} (k:Nat),(∀ i d,ds[i]?=some d->∃ σ1,g d σ=some σ1/\e σ1=some (v (k+i)))->xi g xM e σ ds=some ((List.range' k ds.length).map v)
 | [],_,_=>rfl
 | d::ds,k,h=>by
  obtain ⟨σ1,e1,e2⟩:=h 0 d rfl
  have ih:=XX v (ds:=ds) (k+1) fun i d' hd=>by
   rw [show k+1+i=k+(i+1) by omega]
   exact h (i+1) d' (by simpa using hd)
  show (g d σ).bind _=_
  rw [e1]
  show (e σ1).bind _=_
  rw [e2]
  show (xi g xM e σ ds).bind _=_
  rw [ih]
  rfl
theorem Vl {r:D} (h:yA r):zI r (.int 0)=some (.str (wd r)):=by
 cases h with
 | label t=>rfl
 | plain h=>cases h<;>rfl
 | jump t=>rfl
 | cond t hw hk=>rfl
theorem Do {r:D} (h:yA r):zz r=(wd r == "jump" || wd r == "when" || wd r == "unless"):=by
 cases h with
 | label t=>rfl
 | plain h=>cases h<;>rfl
 | jump t=>rfl
 | cond t hw hk=>rfl
theorem jb {r:D} {t:Str} (h:yA r) (hj:zz r=true) (e:zI r (.int (-1))=some (.str t)):pY r=t:=by
 cases h with
 | label u=>cases hj
 | plain h=>
  obtain ⟨_,_,_,_,z,_⟩:=qj h
  rw [z] at hj
  cases hj
 | jump u=>cases e; rfl
 | cond u hw hk=>cases e; rfl
theorem T3 (a b:Str):zj (.str a) (.str b)=some (.bl (a == b)):=rfl
theorem Nm (a b:Nat):pP [.lst [.int (a:Int),.int (b:Int)]]=some (.lst (zD (two a b))):=by
 have e:vC [(a:Int),(b:Int)]=if a=b then [(a:Int)] else [(a:Int),(b:Int)]:=by
  show uJ (uJ [] (a:Int)) (b:Int)=_
  unfold uJ
  by_cases h:a=b
  ·subst h; simp
  ·have:¬ (a:Int)=(b:Int):=by omega
   simp [h,this]
 show (if ([(a:Int),(b:Int)]).length<1000/\(vC [(a:Int),(b:Int)]).length<64 then some (D.lst ((L2.isort (vC [(a:Int),(b:Int)])).map D.int)) else none)=_
 rw [e]
 unfold two
 by_cases h:a=b
 ·rw [if_pos h,if_pos h]
  rfl
 ·rw [if_neg h,if_neg h,if_pos ⟨by show 2<1000; decide,by show 2<64; decide⟩]
  show some (D.lst ((L2.insI (a:Int) [(b:Int)]).map D.int))=_
  unfold L2.insI
  by_cases h2:a<b
  ·rw [if_pos h2,if_pos (by omega)]; rfl
  ·rw [if_neg h2,if_neg (by omega)]; rfl
theorem RC {r:D} (h:yA r) (i:Nat) {t:Option Nat} (ht:t.isSome=zz r):jO [r,.int (i:Int),yN t]=some (true,.lst (zD (qG r i t))):=by
 have e0:=Vl h
 have ej:=Do h
 have e1:=T3 (wd r) "stop"
 have e2:=T3 (wd r) "jump"
 rw [DO]
 unfold Yw qG
 by_cases c1:wd r = "stop"
 ·rw [if_pos c1]
  rw [beq_iff_eq.mpr c1] at e1
  simp! [e0,e1]
  rfl
 ·rw [if_neg c1]
  rw [beq_eq_false_iff_ne.mpr c1] at e1
  by_cases c2:wd r = "jump"
  ·rw [beq_iff_eq.mpr c2] at e2 ej
   rw [ej] at ht
   cases t with
   | none=>cases ht
   | some p=>
    dsimp only
    rw [if_pos c2]
    unfold yN
    simp! [e0,e1,e2]
    rfl
  ·rw [beq_eq_false_iff_ne.mpr c2] at e2
   cases t with
   | none=>
    unfold yN
    simp! [e0,e1,e2,pM,add_int]
    rfl
   | some p=>
    dsimp only
    rw [if_neg c2]
    unfold yN
    have e3:=Nm (i+1) p
    rw [show ((i+1:Nat):Int)=(i:Int)+1 by omega] at e3
    simp! [e0,e1,e2,pM,add_int,e3]
theorem gJ {items:List D} (P:PC items) {r:D} (hr:r∈items):(yS items r).isSome=zz r/\∀ t,zz r=true->zI r (.int (-1))=some (.str t)->pY r=t:=by
 have hi:=P.it r hr
 refine ⟨?_,fun t hj e=>jb hi hj e⟩
 unfold yS
 cases hj:zz r with
 | false=>rfl
 | true=>
  obtain ⟨t,p,e1,e2⟩:=P.tg r hr hj
  rw [jb hi hj e1,e2]
  rfl
theorem T9 {items:List D} (P:PC items):uS [.lst items]=some (true,.lst ((z8 items).map fun r=>yN (yS items r))):=by
 obtain ⟨ks,vs,e1,hk⟩:=Jt P.it (by have:=P.ln; omega)
 have e2:xO [.lst items]=some (true,.lst (z8 items)):=qm P.it
 have e3:=qf (g:=zn 2) (e:=Tf) (σ:=[some (false,.lst items),some (false,.dic ks vs),none]) (fun r=>yN (yS items r)) (ds:=z8 items) fun r hr=>by
  have hm:r∈items:=(List.mem_filter.mp hr).1
  have hj:=XN (P.it r hm)
  refine ⟨_,rfl,?_⟩
  unfold Tf yS
  cases z:zz r with
  | true=>
   rw [z] at hj
   obtain ⟨t,p,b1,b2⟩:=P.tg r hm z
   have eg:zI (.dic ks vs) (.str t)=some (.int (p:Int)):=by
    show getK ks vs (.inr t)=_
    rw [hk,b2]
    rfl
   rw [jb (P.it r hm) z b1,b2]
   unfold yN
   simp! [hj,b1,eg]
  | false=>
   rw [z] at hj
   unfold yN
   simp! [hj]
 rw [DM]
 unfold Yu
 simp! [e1,e2,e3]
def xH (items:List D):List D:=(List.range (z8 items).length).map fun i=>.lst (zD (Wf items i))
theorem TN {items:List D} {i:Nat} (h:i<(z8 items).length):zI (.lst (xH items)) (.int (i:Int))=some (.lst (zD (Wf items i))):=by
 refine vp (by omega) ?_
 unfold xH
 rw [Int.toNat_natCast,List.getElem?_map,List.getElem?_range h]
 rfl
theorem UN (t:Str):∀ (L:List D) (s:Nat×Option Nat),(∀ p,s.2=some p->p<=s.1)->∀ p,(L.foldl (wS t) s).2=some p->p<=(L.foldl (wS t) s).1
 | [],s,h=>h
 | d::L,s,h=>by
  rw [List.foldl_cons]
  refine UN t L _ fun p hp=>?_
  unfold wS at hp ⊢
  cases hl:zM d with
  | true=>
   rw [hl] at hp
   dsimp only at hp ⊢
   cases hn:ku t d with
   | true=>
    rw [hn] at hp
    cases hp
    exact Nat.le_refl _
   | false=>
    rw [hn] at hp
    exact h p hp
  | false=>
   rw [hl] at hp
   exact Nat.le_succ_of_le (h p hp)
theorem Wq {items:List D} {i w:Nat} (hi:i<(z8 items).length) (h:w∈Wf items i):w<=(z8 items).length:=by
 have bound:∀ t p,(yh t items).2=some p->p<=(z8 items).length:=fun t p hp=>by
  have:=UN t items (0,none) (fun p z=>nomatch z) p hp
  rw [Xt t items (0,none),Nat.zero_add] at this
  exact this
 unfold Wf at h
 rw [List.getElem?_eq_getElem hi] at h
 generalize (z8 items)[i]=r at h
 dsimp only at h
 unfold qG at h
 split at h
 ·cases h
 ·have hb:∀ p,yS items r=some p->p<=(z8 items).length:=fun p hp=>by
   unfold yS at hp
   split at hp
   ·exact bound _ _ hp
   ·cases hp
  split at h
  ·cases List.mem_singleton.mp h
   omega
  ·rename_i p hp
   have:=hb p hp
   split at h
   ·cases List.mem_singleton.mp h
    omega
   ·unfold two at h
    split at h
    ·cases List.mem_singleton.mp h
     omega
    ·split at h
     ·rcases List.mem_cons.mp h with rfl | h
      ·omega
      ·cases List.mem_singleton.mp h; omega
     ·rcases List.mem_cons.mp h with rfl | h
      ·omega
      ·cases List.mem_singleton.mp h; omega
theorem Wr (items:List D) (i:Nat):(Wf items i).length<=2:=by
 unfold Wf qG two
 split
 ·split
  ·exact Nat.zero_le _
  ·split
   ·exact Nat.succ_le_succ (Nat.zero_le _)
   ·split
    ·exact Nat.succ_le_succ (Nat.zero_le _)
    ·split
     ·exact Nat.succ_le_succ (Nat.zero_le _)
     ·split<;>exact Nat.le_refl 2
 ·exact Nat.zero_le _
end L3
namespace L3
open PySem
def Tg:FE:=(zQ jO (zA (e2 zI (z6 1) (z6 2)) (zA (z6 2) (zA (z6 3) zB))))
def Yx:FS:=
 (zE (zU 1 (zQ xO (zA (z6 0) zB)))
  (w8 (xJ 2 (vP (zQ uS (zA (z6 0) zB))) (xW 2 3) xM Tg)))
def uo:List D->Option (Bool×D):=FR 1 2 Yx
theorem Kp:∀ ds r,uo ds=some r->ds.length=1/\za 2 Yx ds=some r:=yb
theorem DP (x0:D):uo [x0]=za 2 Yx [x0]:=rfl
theorem TM {items:List D} (P:PC items):uo [.lst items]=some (true,.lst (xH items)):=by
 have e1:xO [.lst items]=some (true,.lst (z8 items)):=qm P.it
 have e2:=T9 P
 have e3:=XX (g:=xW 2 3) (e:=Tg) (σ:=[some (false,.lst items),some (false,.lst (z8 items)),none,none]) (fun i=>.lst (zD (Wf items i))) (ds:=vz ((z8 items).map fun r=>yN (yS items r))) 0 fun i d hd=>by
  rw [pd,List.getElem?_map] at hd
  cases hr:(z8 items)[i]? with
  | none=>rw [hr] at hd; cases hd
  | some r=>
   rw [hr] at hd
   cases hd
   refine ⟨_,rfl,?_⟩
   have hm:r∈items:=(List.mem_filter.mp (List.mem_of_getElem? hr)).1
   have e4:=RC (P.it r hm) i (t:=yS items r) (gJ P hm).1
   have ew:Wf items i=qG r i (yS items r):=by unfold Wf; rw [hr]
   rw [Nat.zero_add,ew]
   have ix:zI (.lst (z8 items)) (.int (i:Int))=some r:=vp (by omega) (by rw [Int.toNat_natCast]; exact hr)
   unfold Tg
   simp! [ix,e4]
 rw [tu,List.length_map,<- List.range_eq_range'] at e3
 rw [DP]
 unfold Yx xH
 generalize (z8 items).map (fun r=>yN (yS items r))=ts at *
 simp! [e1,e2,vP,e3]
end L3
namespace L3
open PySem
def Vq:FS:=(zU 2 (e2 (wY Builtin.bitOr) (z6 2) (e2 zI (z6 0) (z6 3))))
def Ym:FS:=
 (zE (zU 2 (eC (.int 0)))
  (zE (qo (x_ (z6 1)) (zn 3)
   Vq)
  (yH (z6 2))))
def tQ:List D->Option (Bool×D):=FR 2 4 Ym
theorem Kb:∀ ds r,tQ ds=some r->ds.length=2/\za 4 Ym ds=some r:=yb
theorem DE (x0 x1:D):tQ [x0,x1]=za 4 Ym [x0,x1]:=rfl
def Xy:FA:=(uX (eC (.int 0)) (e2 yt (eL yy (zA (z6 0) zB)) (eC (.int 1))))
def U1:vH:=(IQ (z6 2) (z6 3))
def kq:vH:=(jl (x_ (z6 4)) (zn 2)
      U1)
def Wu:FS:=
 (jz 1 (kj Xy)
  (jm (jl (vP (z6 0)) (xW 3 4)
    kq)
   kn))
def p6:List D->Option (Bool×D):=FR 1 5 Wu
theorem Hz:∀ ds r,p6 ds=some r->ds.length=1/\za 5 Wu ds=some r:=yb
theorem Bl (x0:D):p6 [x0]=za 5 Wu [x0]:=rfl
def kU:FS:=(zE (qp 6 5)
    (zE (zU 7 (e2 (wY Builtin.bitOr) (zQ uE (zA (e2 zI (z6 1) (z6 6)) zB)) (e2 (wY Builtin.bitAnd) (X3 tQ (zA (wo 4) (zA (e2 zI (z6 2) (z6 6)) zB))) (e1 X8 (zQ vZ (zA (e2 zI (z6 1) (z6 6)) zB))))))
    (yB (tE (e2 yL (z6 7) (e2 zI (wo 4) (z6 6))))
     (zE (ZD 4 (z6 6) (z6 7))
      (xZ 5 (e2 zI (z6 3) (z6 6))))
     yK)))
def gu:FT:=(tE (e2 yL (wo 5) (y_ zB)))
def Yn:FS:=
 (zE (zU 1 (zQ xO (zA (z6 0) zB)))
  (zE (zU 2 (zQ uo (zA (z6 0) zB)))
  (zE (zU 3 (zQ p6 (zA (z6 2) zB)))
  (zE (wV 4 (e2 kB (e2 kD (y_ (zA (eC (.int 0)) zB)) (eL yy (zA (z6 1) zB))) (y_ (zA (eC (.int 2047)) zB))))
  (zE (wV 5 (eL VO (zA (eL yy (zA (z6 1) zB)) zB)))
  (zE (tJ gu
   kU)
  (zE (vi 5) (qA 4))))))))
def uQ:List D->Option (Bool×D):=FR 1 8 Yn
theorem Kc:∀ ds r,uQ ds=some r->ds.length=1/\za 8 Yn ds=some r:=yb
theorem DF (x0:D):uQ [x0]=za 8 Yn [x0]:=rfl
def gt (T:List Nat) (i:Nat):Nat:=T.getD i 0
theorem Vd {T:List Nat} {i:Nat} (h:i<T.length):T[i]?=some (gt T i):=by
 unfold gt
 rw [List.getD_eq_getElem?_getD,List.getElem?_eq_getElem h]
 rfl
theorem DR {T:List Nat} {m i x:Nat} (h:m<T.length):gt (T.set m x) i=if i=m then x else gt T i:=by
 unfold gt
 rw [List.getD_eq_getElem?_getD,List.getD_eq_getElem?_getD,List.getElem?_set]
 by_cases c:m=i
 ·rw [if_pos c,if_pos c.symm,if_pos (c ▸ h)]
  rfl
 ·rw [if_neg c,if_neg (fun z=>c z.symm)]
def w6 (T:List Nat) (ws:List Nat):Nat:=ws.foldl (fun a w=>a ||| gt T w) 0
theorem O0 (T:List Nat) (k:Nat):∀ (ws:List Nat) (a:Nat),(ws.foldl (fun a w=>a ||| gt T w) a).testBit k=true↔a.testBit k=true\/∃ w∈ws,(gt T w).testBit k=true
 | [],a=>⟨.inl,fun h=>h.elim id fun ⟨_,z,_⟩=>by cases z⟩
 | w::ws,a=>by
  rw [List.foldl_cons,O0 T k ws,Nat.testBit_or,Bool.or_eq_true]
  constructor
  ·rintro ((h | h) | ⟨v,hv,h⟩)
   ·exact .inl h
   ·exact .inr ⟨w,List.mem_cons_self,h⟩
   ·exact .inr ⟨v,List.mem_cons_of_mem _ hv,h⟩
  ·rintro (h | ⟨v,hv,h⟩)
   ·exact .inl (.inl h)
   ·rcases List.mem_cons.mp hv with rfl | hv
    ·exact .inl (.inr h)
    ·exact .inr ⟨v,hv,h⟩
theorem Er (T ws:List Nat) (k:Nat):(w6 T ws).testBit k=true↔∃ w∈ws,(gt T w).testBit k=true:=by
 unfold w6
 rw [O0,Nat.zero_testBit]
 exact ⟨fun h=>h.elim (fun z=>by cases z) id,.inr⟩
theorem Et (T ws:List Nat) (w:Nat):w6 T (ws++[w])=(w6 T ws ||| gt T w):=by
 unfold w6
 rw [List.foldl_append]
 rfl
theorem Es {T:List Nat} (h:∀ i,gt T i<2048) (ws:List Nat):w6 T ws<2048:=by
 have:∀ (ws:List Nat) (a:Nat),a<2048->ws.foldl (fun a w=>a ||| gt T w) a<2048:=by
  intro ws
  induction ws with
  | nil=>exact fun a ha=>ha
  | cons w ws ih=>exact fun a ha=>ih _ (I_ ha (h w))
 exact this ws 0 (by decide)
def rl (u p:Nat) (T ws:List Nat):Nat:=u ||| (w6 T ws - (w6 T ws &&& p))
theorem Hs (u p:Nat) (T ws:List Nat) (k:Nat):(rl u p T ws).testBit k=true↔u.testBit k=true\/((∃ w∈ws,(gt T w).testBit k=true)/\p.testBit k=false):=by
 unfold rl
 rw [Nat.testBit_or,Qp,Bool.or_eq_true,Bool.and_eq_true,Er,Bool.not_eq_true']
theorem ZC {u p:Nat} {T T' ws:List Nat} (h:∀ w∈ws,Sb (gt T w) (gt T' w)):Sb (rl u p T ws) (rl u p T' ws):=fun k z=>by
 rw [Hs] at z ⊢
 exact z.imp id fun ⟨⟨w,hw,e⟩,hp⟩=>⟨⟨w,hw,h w hw k e⟩,hp⟩
theorem Ht {u p:Nat} {T T' ws:List Nat} (h:∀ w∈ws,gt T w=gt T' w):rl u p T ws=rl u p T' ws:=
 (ZC fun w hw=>by rw [h w hw]; exact Sb.refl _).anti (ZC fun w hw=>by rw [h w hw]; exact Sb.refl _)
theorem Ox {u p:Nat} {T ws:List Nat} (hu:u<2048) (h:∀ i,gt T i<2048):rl u p T ws<2048:=I_ hu (BF _ (Es h ws))
structure Tr (n:Nat) (U P:Nat->Nat) (W:Nat->List Nat) (S:List Nat):Prop where
 last:gt S n=2047
 all:∀ i,i<n->Sb (rl (U i) (P i) S (W i)) (gt S i)
structure NI (n:Nat) (U P:Nat->Nat) (W:Nat->List Nat) (T dl:List Nat):Prop where
 len:T.length=n+1
 last:gt T n=2047
 lt:∀ i,gt T i<2048
 up:∀ i,i<n->Sb (gt T i) (rl (U i) (P i) T (W i))
 fx:∀ i,i<n->i ∉ dl->gt T i=rl (U i) (P i) T (W i)
 dn:∀ i∈dl,i<n
 least:∀ S,Tr n U P W S->∀ i,i<=n->Sb (gt T i) (gt S i)
section
variable {n:Nat} {U P:Nat->Nat} {W:Nat->List Nat} {T dl:List Nat} {m:Nat}
theorem CS:NI n U P W (List.replicate n 0++[2047]) (List.range n):=by
 have g0:∀ i,i<n->gt (List.replicate n 0++[2047]) i=0:=fun i hi=>by
  unfold gt
  rw [List.getD_eq_getElem?_getD,List.getElem?_append_left (by rw [List.length_replicate]; exact hi),List.getElem?_replicate,if_pos hi]
  rfl
 have gn:gt (List.replicate n 0++[2047]) n=2047:=by
  unfold gt
  rw [List.getD_eq_getElem?_getD,List.getElem?_append_right (by rw [List.length_replicate]; exact Nat.le_refl _),List.length_replicate,Nat.sub_self]
  rfl
 refine ⟨by rw [List.length_append,List.length_replicate]; rfl,gn,fun i=>?_,fun i hi=>by rw [g0 i hi]; exact Ue _,fun i hi z=>(z (List.mem_range.mpr hi)).elim,fun i hi=>List.mem_range.mp hi,fun S c i hi=>?_⟩
 ·rcases Nat.lt_trichotomy i n with h | h | h
  ·rw [g0 i h]; decide
  ·rw [h,gn]; decide
  ·unfold gt
   rw [List.getD_eq_getElem?_getD,List.getElem?_eq_none (by rw [List.length_append,List.length_replicate]; exact h)]
   decide
 ·rcases Nat.lt_or_ge i n with h | h
  ·rw [g0 i h]; exact Ue _
  ·have:i=n:=by omega
   rw [this,gn,c.last]
   exact Sb.refl _
theorem CQ (N:NI n U P W T (dl++[m])) (e:rl (U m) (P m) T (W m)=gt T m):NI n U P W T dl:=⟨N.len,N.last,N.lt,N.up,fun i hi h=>by
 by_cases c:i=m
 ·rw [c,e]
 ·exact N.fx i hi fun z=>(List.mem_append.mp z).elim h fun z=>c (List.mem_singleton.mp z),fun i hi=>N.dn i (List.mem_append_left _ hi),N.least⟩
theorem CP {C:List Nat} (N:NI n U P W T (dl++[m])) (hu:U m<2048) (hC:∀ j,j∈C↔(j<n/\m∈W j)):NI n U P W (T.set m (rl (U m) (P m) T (W m))) (dl++C):=by
 have hm:m<n:=N.dn m (List.mem_append_right _ (List.mem_singleton.mpr rfl))
 have ht:m<T.length:=by rw [N.len]; omega
 have gs:∀ i,gt (T.set m (rl (U m) (P m) T (W m))) i=if i=m then rl (U m) (P m) T (W m) else gt T i:=fun i=>DR ht
 have up:∀ i,Sb (gt T i) (gt (T.set m (rl (U m) (P m) T (W m))) i):=fun i=>by
  rw [gs]
  by_cases c:i=m
  ·rw [if_pos c,c]; exact N.up m hm
  ·rw [if_neg c]; exact Sb.refl _
 have same:∀ i,m ∉ W i->rl (U i) (P i) T (W i)=rl (U i) (P i) (T.set m (rl (U m) (P m) T (W m))) (W i):=fun i h=>Ht fun w hw=>by
  rw [gs,if_neg (fun z:w=m=>h (z ▸ hw))]
 refine ⟨by rw [List.length_set]; exact N.len,by rw [gs,if_neg (by omega)]; exact N.last,fun i=>?_,fun i hi=>?_,fun i hi h=>?_,fun i hi=>?_,fun S c i hi=>?_⟩
 ·rw [gs]
  split
  ·exact Ox hu N.lt
  ·exact N.lt i
 ·rw [gs]
  by_cases c:i=m
  ·rw [if_pos c,c]; exact ZC fun w _=>up w
  ·rw [if_neg c]; exact (N.up i hi).trans (ZC fun w _=>up w)
 ·have nw:m ∉ W i:=fun z=>h (List.mem_append_right _ ((hC i).mpr ⟨hi,z⟩))
  rw [<- same i nw,gs]
  by_cases c:i=m
  ·rw [if_pos c,c]
  ·rw [if_neg c]
   exact N.fx i hi fun z=>(List.mem_append.mp z).elim (fun z=>h (List.mem_append_left _ z)) fun z=>c (List.mem_singleton.mp z)
 ·rcases List.mem_append.mp hi with z | z
  ·exact N.dn i (List.mem_append_left _ z)
  ·exact ((hC i).mp z).1
 ·rw [gs]
  by_cases e:i=m
  ·rw [if_pos e,e]
   refine Sb.trans (ZC fun w hw=>?_) (c.all m hm)
   rcases Nat.lt_or_ge w (n+1) with hw' | hw'
   ·exact N.least S c w (by omega)
   ·have:gt T w=0:=by
     unfold gt
     rw [List.getD_eq_getElem?_getD,List.getElem?_eq_none (by rw [N.len]; exact hw')]
     rfl
    rw [this]
    exact Ue _
  ·rw [if_neg e]; exact N.least S c i hi
def ue (T:List Nat):Nat:=(T.map pc).sum
theorem LW:∀ T:List Nat,ue T<=11*T.length
 | []=>Nat.le_refl _
 | x::T=>by
  have:=LW T
  have h:=pc_le x
  show pc x+(T.map pc).sum<=11*(T.length+1)
  unfold ue at this
  omega
theorem LY:∀ {T:List Nat} {m x:Nat},m<T.length->ue (T.set m x)+pc (gt T m)=ue T+pc x
 | [],m,x,h=>by cases h
 | y::T,0,x,_=>by
  show pc x+(T.map pc).sum+pc y=pc y+(T.map pc).sum+pc x
  omega
 | y::T,m+1,x,h=>by
  have ih:=LY (T:=T) (m:=m) (x:=x) (by simpa using h)
  have e:gt (y::T) (m+1)=gt T m:=rfl
  rw [e]
  show pc y+ue (T.set m x)+pc (gt T m)=pc y+ue T+pc x
  omega
end
theorem U3 {T:List Nat} {i:Nat} (h:i<T.length):zI (.lst (zD T)) (.int (i:Int))=some (.int (gt T i:Nat)):=by
 refine vp (by omega) ?_
 unfold zD
 rw [Int.toNat_natCast,List.getElem?_map,Vd h]
 rfl
theorem IS {T ws:List Nat} (h:∀ w∈ws,w<T.length):tQ [.lst (zD T),.lst (zD ws)]=some (false,.int (w6 T ws:Nat)):=by
 obtain ⟨σ',e1,x3,rfl⟩:=pW (g:=zn 3) (b:=Vq) (fun i σ=>∃ x3,σ=[some (false,.lst (zD T)),some (false,.lst (zD ws)),some (false,.int ((w6 T (ws.take i):Nat):Int)),x3]) (ds:=zD ws)
  (σ:=[some (false,.lst (zD T)),some (false,.lst (zD ws)),some (false,.int 0),none]) 0 ⟨none,rfl⟩ (by
  rintro i d σ hd ⟨x3,rfl⟩
  rw [Nat.zero_add]
  unfold zD at hd
  rw [List.getElem?_map] at hd
  cases hw:ws[i]? with
  | none=>rw [hw] at hd; cases hd
  | some w=>
   rw [hw] at hd
   cases hd
   have hi:=(List.getElem?_eq_some_iff.mp hw).1
   have ix:=U3 (T:=T) (h w (List.mem_of_getElem? hw))
   have eo:w6 T (ws.take (i+1))=(w6 T (ws.take i) ||| gt T w):=by
    rw [List.take_succ_eq_append_getElem hi,Et]
    rw [List.getElem?_eq_getElem hi] at hw
    cases hw
    rfl
   have eb:=QX (w6 T (ws.take i)) (gt T w)
   rw [<- eo] at eb
   refine ⟨_,[some (false,.lst (zD T)),some (false,.lst (zD ws)),some (false,.int ((w6 T (ws.take (i+1)):Nat):Int)),some (false,.int (w:Int))],rfl,.inl ?_,_,rfl⟩
   unfold Vq
   generalize zD T=TT at *
   generalize zD ws=WW at *
   simp! [ix,eb])
 have hl:(zD ws).length=ws.length:=by unfold zD; rw [List.length_map]
 rw [hl,Nat.zero_add,List.take_length] at e1
 rw [DE]
 unfold Ym
 generalize zD T=TT at *
 generalize zD ws=WW at *
 simp! [e1]
theorem Vx {g:FG} {b:vH} (P:Nat->List (List D)->zb->Prop):∀ {ds:List D} {nds:List (List D)} {σ:zb} (n:Nat),P n nds σ->(∀ i d nds σ,ds[i]?=some d->P (n+i) nds σ->∃ σ1 nds2 σ2,g d σ=some σ1/\b nds σ1=some (.nx nds2 σ2)/\P (n+i+1) nds2 σ2)->
  ∃ nds' σ',kf g b ds nds σ=some (.nx nds' σ')/\P (n+ds.length) nds' σ'
 | [],nds,σ,n,h,_=>⟨nds,σ,rfl,h⟩
 | d::ds,nds,σ,n,h,step=>by
  obtain ⟨σ1,nds2,σ2,e1,e2,p2⟩:=step 0 d nds σ rfl h
  obtain ⟨nds',σ',e3,p3⟩:=Vx P (ds:=ds) (nds:=nds2) (σ:=σ2) (n+1) p2 fun i d' nn τ hd hp=>by
   obtain ⟨a,b1,b2,c1,c2,c3⟩:=step (i+1) d' nn τ (by simpa using hd) (by rw [show n+(i+1)=n+1+i by omega]; exact hp)
   exact ⟨a,b1,b2,c1,c2,by rw [show n+1+i+1=n+(i+1)+1 by omega]; exact c3⟩
  refine ⟨nds',σ',?_,by rw [List.length_cons,show n+(ds.length+1)=n+1+ds.length by omega]; exact p3⟩
  show (g d σ).bind _=_
  rw [e1]
  show (b nds σ1).bind _=_
  rw [e2]
  exact e3
def gl (L:List (List Nat)) (p:Nat):List Nat:=L.getD p []
theorem JC {L:List (List Nat)} {i:Nat} (h:i<L.length):L[i]?=some (gl L i):=by
 unfold gl
 rw [List.getD_eq_getElem?_getD,List.getElem?_eq_getElem h]
 rfl
theorem JB {T:List (List Nat)} {m i:Nat} {x:List Nat} (h:m<T.length):gl (T.set m x) i=if i=m then x else gl T i:=by
 unfold gl
 rw [List.getD_eq_getElem?_getD,List.getD_eq_getElem?_getD,List.getElem?_set]
 by_cases c:m=i
 ·rw [if_pos c,if_pos c.symm,if_pos (c ▸ h)]
  rfl
 ·rw [if_neg c,if_neg (fun z=>c z.symm)]
theorem B2 {n:Nat} {W:Nat->List Nat} (hn:n<=100) (hw:∀ i,i<n->∀ w∈W i,w<=n) (hl:∀ i,(W i).length<=2) :
  ∃ L:List (List Nat),L.length=n+1/\(∀ p,p<=n->∀ j,j∈gl L p↔(j<n/\p∈W j))/\(∀ p,(gl L p).length<=2*n)/\p6 [.lst ((List.range n).map fun i=>.lst (zD (W i)))]=some (false,.lst (L.map fun l=>.lst (zD l))):=by
 obtain ⟨ws,hws⟩:∃ ws:List D,ws=(List.range n).map fun i=>.lst (zD (W i)):=⟨_,rfl⟩
 have wl:ws.length=n:=by rw [hws,List.length_map,List.length_range]
 have r1:Xy [some (false,.lst ws),none,none,none,none]=some (xy (n+1)):=by
  refine qk (n:=((n+1:Nat):Int)) ?_ (by omega)
  show some (D.int ((ws.length:Int)+1))=_
  rw [wl]
  rfl
 rw [<- hws]
 obtain ⟨nds',σ',e1,L,x2,x3,x4,l1,l2,l3,rfl,rfl⟩:=Vx (g:=xW 3 4) (b:=kq) (fun i nds σ=>∃ (L:List (List Nat)) (x2 x3 x4:Option (Bool×D)),L.length=n+1/\(∀ p,p<=n->∀ j,j∈gl L p↔(j<i/\p∈W j))/\(∀ p,(gl L p).length<=2*i)/\nds=L.map zD/\σ=[some (false,.lst ws),none,x2,x3,x4]) (ds:=vz ws)
  (nds:=List.replicate (n+1) []) (σ:=[some (false,.lst ws),none,none,none,none]) 0 ⟨List.replicate (n+1) [],none,none,none,List.length_replicate,fun p hp j=>by
   rw [show gl (List.replicate (n+1) []) p=[] by unfold gl; rw [List.getD_eq_getElem?_getD,List.getElem?_replicate]; split<;>rfl]
   exact ⟨fun z=>(List.not_mem_nil z).elim,fun z=>(Nat.not_lt_zero _ z.1).elim⟩,fun p=>by
   rw [show gl (List.replicate (n+1) []) p=[] by unfold gl; rw [List.getD_eq_getElem?_getD,List.getElem?_replicate]; split<;>rfl]
   exact Nat.zero_le _,by rw [List.map_replicate]; rfl,rfl⟩ (by
  rintro i d nds σ hd ⟨L,x2,x3,x4,l1,l2,l3,rfl,rfl⟩
  rw [Nat.zero_add] at *
  rw [pd] at hd
  have hi:i<n:=by
   rw [<- wl]
   cases z:ws[i]? with
   | none=>rw [z] at hd; cases hd
   | some y=>exact (List.getElem?_eq_some_iff.mp z).1
  have ew:ws[i]?=some (.lst (zD (W i))):=by rw [hws,List.getElem?_map,List.getElem?_range hi]; rfl
  rw [ew] at hd
  cases hd
  obtain ⟨nds2,σ2,e2,L2,y2,k1,k2,k3,rfl,rfl⟩:=Vx (g:=zn 2) (b:=U1) (fun k nds σ=>∃ (L:List (List Nat)) (x2:Option (Bool×D)),L.length=n+1/\(∀ p,p<=n->∀ j,j∈gl L p↔(j<i/\p∈W j\/j=i/\p∈(W i).take k))/\(∀ p,(gl L p).length<=2*i+k)/\nds=L.map zD/\σ=[some (false,.lst ws),none,x2,some (false,.int (i:Int)),some (false,.lst (zD (W i)))]) (ds:=zD (W i))
   (nds:=L.map zD) (σ:=[some (false,.lst ws),none,x2,some (false,.int (i:Int)),some (false,.lst (zD (W i)))]) 0 ⟨L,x2,l1,fun p hp j=>by
    rw [l2 p hp j]
    exact ⟨.inl,fun z=>z.elim id fun z=>by rw [List.take_zero] at z; cases z.2⟩,l3,rfl,rfl⟩ (by
   rintro k d nds σ hd ⟨L,x2,l1,l2,l3,rfl,rfl⟩
   rw [Nat.zero_add] at *
   unfold zD at hd
   rw [List.getElem?_map] at hd
   cases hw':(W i)[k]? with
   | none=>rw [hw'] at hd; cases hd
   | some w=>
    rw [hw'] at hd
    cases hd
    have hk:=(List.getElem?_eq_some_iff.mp hw').1
    have wn:=hw i hi w (List.mem_of_getElem? hw')
    have hwl:w<L.length:=by omega
    have et:(W i).take (k+1)=(W i).take k++[w]:=by
     rw [List.take_succ_eq_append_getElem hk]
     rw [List.getElem?_eq_getElem hk] at hw'
     cases hw'
     rfl
    refine ⟨_,(L.set w (gl L w++[i])).map zD,[some (false,.lst ws),none,some (false,.int (w:Int)),some (false,.int (i:Int)),some (false,.lst (zD (W i)))],rfl,?_,L.set w (gl L w++[i]),_,by rw [List.length_set]; exact l1,fun p hp j=>?_,fun p=>?_,rfl,rfl⟩
    ·have en:(L.map zD)[w]?=some (zD (gl L w)):=by rw [List.getElem?_map,JC hwl]; rfl
     have es:(L.map zD).set w (zD (gl L w)++[D.int (i:Int)])=(L.set w (gl L w++[i])).map zD:=by
      rw [List.map_set]
      unfold zD
      rw [List.map_append]
      rfl
     unfold U1
     show (match (L.map zD)[((w:Nat):Int).toNat]? with
      | some ds=>if 0<=((w:Nat):Int)/\ds.length<zy then some (NF.nx ((L.map zD).set ((w:Nat):Int).toNat (ds++[D.int (i:Int)])) [some (false,.lst ws),none,some (false,.int (w:Int)),some (false,.int (i:Int)),some (false,.lst (zD (W i)))]) else none
      | none=>none)=_
     rw [Int.toNat_natCast,en]
     dsimp only
     rw [if_pos ⟨by omega,by
      unfold zD
      rw [List.length_map]
      have:=l3 w
      have:=hl i
      show _<16777216
      omega⟩,es]
    ·rw [JB hwl,et]
     by_cases c:p=w
     ·rw [if_pos c,List.mem_append,c,l2 w wn,List.mem_append,List.mem_singleton,List.mem_singleton]
      constructor
      ·rintro ((h | h) | h)
       ·exact .inl h
       ·exact .inr ⟨h.1,.inl h.2⟩
       ·exact .inr ⟨h,.inr rfl⟩
      ·rintro (h | ⟨h,h2 | h2⟩)
       ·exact .inl (.inl h)
       ·exact .inl (.inr ⟨h,h2⟩)
       ·exact .inr h
     ·rw [if_neg c,l2 p hp,List.mem_append,List.mem_singleton]
      constructor
      ·rintro (h | h)
       ·exact .inl h
       ·exact .inr ⟨h.1,.inl h.2⟩
      ·rintro (h | ⟨h,h2 | h2⟩)
       ·exact .inl h
       ·exact .inr ⟨h,h2⟩
       ·exact absurd h2 c
    ·rw [JB hwl]
     have:=l3 p
     have:=l3 w
     split
     ·rw [List.length_append,List.length_singleton]; omega
     ·omega)
  have hln:(zD (W i)).length=(W i).length:=by unfold zD; rw [List.length_map]
  rw [hln,Nat.zero_add,List.take_length] at k2
  rw [hln,Nat.zero_add] at k3
  refine ⟨_,_,_,rfl,?_,L2,y2,some (false,.int (i:Int)),some (false,.lst (zD (W i))),k1,fun p hp j=>?_,fun p=>?_,rfl,rfl⟩
  ·exact e2
  ·rw [k2 p hp j]
   constructor
   ·rintro (h | ⟨rfl,h⟩)
    ·exact ⟨by omega,h.2⟩
    ·exact ⟨by omega,h⟩
   ·rintro ⟨h1,h2⟩
    rcases Nat.lt_or_ge j i with c | c
    ·exact .inl ⟨c,h2⟩
    ·have:j=i:=by omega
     subst this
     exact .inr ⟨rfl,h2⟩
  ·have:=k3 p
   have:=hl i
   omega)
 rw [tu,wl,Nat.zero_add] at l2 l3
 refine ⟨L,l1,l2,l3,?_⟩
 rw [Bl]
 show (jz 1 (kj Xy) _ [some (false,.lst ws),none,none,none,none]).bind _=_
 have en:jz 1 (kj Xy) (jm (jl (vP (z6 0)) (xW 3 4) kq) kn) [some (false,.lst ws),none,none,none,none]=some (.rt false (.lst (L.map fun l=>.lst (zD l)))):=by
  unfold jz
  rw [show vy [some (false,.lst ws),none,none,none,none]=true from rfl]
  dsimp only
  unfold kj
  rw [r1]
  have e3:jl (vP (z6 0)) (xW 3 4) kq (List.replicate (n+1) []) [some (false,.lst ws),none,none,none,none]=some (.nx (L.map zD) [some (false,.lst ws),none,x2,x3,x4]):=e1
  have e4:jm (jl (vP (z6 0)) (xW 3 4) kq) kn (List.replicate (n+1) []) [some (false,.lst ws),none,none,none,none]=some (.rt (.lst (L.map fun l=>.lst (zD l)))):=by
   unfold jm
   rw [e3]
   show (if (L.map zD).length<=zy then some (NF.rt (.lst ((L.map zD).map .lst))) else none)=_
   rw [if_pos (by rw [List.length_map,l1]; show _<=16777216; omega),List.map_map]
   rfl
  show ((some (xy (n+1)).length).bind _)=_
  rw [jA]
  show ((jm _ _ (List.replicate (n+1) []) [some (false,.lst ws),none,none,none,none]).bind _)=_
  rw [e4]
  rfl
 rw [en]
 rfl
end L3
namespace L3
open PySem
theorem OG {σ:zb} {i j:Nat} {ds:List D} {d:D} (h:σ[i]?=some (some (true,.lst (ds++[d])))) (ne:j≠i):qp j i σ=some (.nx ((σ.set i (some (true,.lst ds))).set j (some (false,d)))):=by
 unfold qp
 rw [h]
 dsimp only
 rw [List.getLast?_append,List.dropLast_concat]
 show (if j=i then none else _)=_
 rw [if_neg ne]
 rfl
theorem ND {σ:zb} {i j:Nat} {k v:FE} {ds:List D} {y:D} (hv:v σ=some y) (h:σ[i]?=some (some (true,.lst ds))) (hk:k σ=some (.int (j:Int))) (hj:j<ds.length):ZD i k v σ=some (.nx (σ.set i (some (true,.lst (ds.set j y))))):=by
 unfold ZD
 rw [hv]
 show (match σ[i]? with
  | some (some (true,.lst ds))=>(k σ).bind fun x=>match x with
   | .int j=>(L2.ixN ds.length j).bind fun n=>some (Fl.nx (σ.set i (some (true,.lst (ds.set n y)))))
   | _=>none
  | _=>none)=_
 rw [h]
 dsimp only
 rw [hk]
 show (L2.ixN ds.length (j:Int)).bind _=_
 unfold L2.ixN
 rw [if_pos (by omega),if_pos (by omega),Int.toNat_natCast]
 rfl
theorem VG {σ:zb} {i:Nat} {f:FE} {xs ys:List D} (h:σ[i]?=some (some (true,.lst xs))) (hf:f σ=some (.lst ys)) (hl:xs.length+ys.length<=10000000):xZ i f σ=some (.nx (σ.set i (some (true,.lst (xs++ys))))):=by
 unfold xZ
 rw [h]
 dsimp only
 rw [hf]
 show (if xs.length+ys.length<=zy then _ else _)=_
 rw [if_pos (by show _<=16777216; omega)]
theorem tD (T:List Nat):(zD T).length=T.length:=by unfold zD; rw [List.length_map]
theorem ky (T:List Nat) (m:Nat):zD (T++[m])=zD T++[.int (m:Int)]:=by unfold zD; rw [List.map_append]; rfl
theorem U2 (T S:List Nat):zD (T++S)=zD T++zD S:=by unfold zD; rw [List.map_append]
theorem CF (T:List Nat) (m x:Nat):(zD T).set m (.int (x:Int))=zD (T.set m x):=by unfold zD; rw [List.map_set]
def zg (items:List D) (i:Nat):D:=(z8 items).getD i .non
def Uf (items:List D) (i:Nat):Nat:=qi (uE [zg items i])
def Pf (items:List D) (i:Nat):Nat:=qi (vZ [zg items i])
theorem wc {items:List D} {i:Nat} (h:i<(z8 items).length):(z8 items)[i]?=some (zg items i):=by
 unfold zg
 rw [List.getD_eq_getElem?_getD,List.getElem?_eq_getElem h]
 rfl
theorem Hx {items:List D} {i:Nat} (h:i<(z8 items).length):zI (.lst (z8 items)) (.int (i:Int))=some (zg items i):=vp (by omega) (by rw [Int.toNat_natCast]; exact wc h)
theorem wU {items:List D} (P:PC items) {i:Nat} (h:i<(z8 items).length):yA (zg items i)/\zM (zg items i)=false:=by
 have:=List.mem_filter.mp (List.mem_of_getElem? (wc h))
 exact ⟨P.it _ this.1,by simpa using this.2⟩
theorem TK {items:List D} (P:PC items) {i:Nat} (h:i<(z8 items).length):uE [zg items i]=some (false,.int (Uf items i:Nat))/\Uf items i<2048:=R9 (wU P h).1 (wU P h).2
theorem OQ {items:List D} (P:PC items) {i:Nat} (h:i<(z8 items).length):vZ [zg items i]=some (false,.int (Pf items i:Nat))/\Pf items i<2048:=G_ (wU P h).1 (wU P h).2
def wC (items:List D) (L:List (List Nat)) (T dl:List Nat) (x6 x7:Option (Bool×D)):zb:=[some (false,.lst items),some (false,.lst (z8 items)),some (false,.lst (xH items)),some (false,.lst (L.map fun l=>.lst (zD l))),some (true,.lst (zD T)),some (true,.lst (zD dl)),x6,x7]
theorem IR (a b:Nat):yL (.int (a:Int)) (.int (b:Int))=some (.bl (!decide (a=b))):=by
 show some (D.bl (!((a:Int) == (b:Int))))=_
 by_cases c:a=b
 ·subst c; simp
 ·rw [beq_eq_false_iff_ne.mpr (by omega),decide_eq_false c]
theorem CI {items:List D} (P:PC items) {L:List (List Nat)} {T dl:List Nat} {m:Nat} {x6 x7:Option (Bool×D)} (hL:L.length=(z8 items).length+1) (hlen:∀ p,(gl L p).length<=2*(z8 items).length) (hd:dl.length<=1000000)
  (N:NI (z8 items).length (Uf items) (Pf items) (Wf items) T (dl++[m])) :
  kU (wC items L T (dl++[m]) x6 x7)=some (.nx (if rl (Uf items m) (Pf items m) T (Wf items m)=gt T m then wC items L T dl (some (false,.int (m:Int))) (some (false,.int (rl (Uf items m) (Pf items m) T (Wf items m):Nat)))
   else wC items L (T.set m (rl (Uf items m) (Pf items m) T (Wf items m))) (dl++gl L m) (some (false,.int (m:Int))) (some (false,.int (rl (Uf items m) (Pf items m) T (Wf items m):Nat))))):=by
 have hm:m<(z8 items).length:=N.dn m (List.mem_append_right _ (List.mem_singleton.mpr rfl))
 have hr:(z8 items).length<=100:=Nat.le_trans (List.length_filter_le _ _) P.ln
 have ix:=Hx hm
 have eu:=(TK P hm).1
 have ep:=(OQ P hm).1
 have ew:=TN hm
 have en:=IS (T:=T) (ws:=Wf items m) fun w hw=>by rw [N.len]; have:=Wq hm hw; omega
 have eb:=MP (w6 T (Wf items m)) (Pf items m)
 have eo:=QX (Uf items m) (w6 T (Wf items m) - (w6 T (Wf items m) &&& Pf items m))
 have eo:Builtin.bitOr (Uf items m:Nat) ((w6 T (Wf items m) - (w6 T (Wf items m) &&& Pf items m):Nat):Int)=((rl (Uf items m) (Pf items m) T (Wf items m):Nat):Int):=eo
 have et:=U3 (T:=T) (i:=m) (by rw [N.len]; omega)
 have hne:=IR (rl (Uf items m) (Pf items m) T (Wf items m)) (gt T m)
 have hp:=OG (σ:=wC items L T (dl++[m]) x6 x7) (i:=5) (j:=6) (ds:=zD dl) (d:=.int (m:Int)) (by rw [<- ky]; rfl) (by decide)
 have hp:qp 6 5 (wC items L T (dl++[m]) x6 x7)=some (.nx (wC items L T dl (some (false,.int (m:Int))) x7)):=hp
 have ec:zI (.lst (L.map fun l=>D.lst (zD l))) (.int (m:Int))=some (.lst (zD (gl L m))):=vp (by omega) (by rw [Int.toNat_natCast,List.getElem?_map,JC (by omega)]; rfl)
 unfold kU
 rw [xb hp]
 have h7:zU 7 (e2 (wY Builtin.bitOr) (zQ uE (zA (e2 zI (z6 1) (z6 6)) zB)) (e2 (wY Builtin.bitAnd) (X3 tQ (zA (wo 4) (zA (e2 zI (z6 2) (z6 6)) zB))) (e1 X8 (zQ vZ (zA (e2 zI (z6 1) (z6 6)) zB))))) (wC items L T dl (some (false,.int (m:Int))) x7)=some (.nx (wC items L T dl (some (false,.int (m:Int))) (some (false,.int (rl (Uf items m) (Pf items m) T (Wf items m):Nat))))):=by
  unfold wC
  generalize rl (Uf items m) (Pf items m) T (Wf items m)=need at *
  generalize z8 items=RR at *
  generalize xH items=WW at *
  generalize L.map (fun l=>D.lst (zD l))=LL at *
  generalize zD T=TT at *
  generalize zD dl=DD at *
  simp! [ix,eu,ew,X3,en,yf,if_true,ep,X8,eb,eo]
 rw [xb h7]
 generalize hneed:rl (Uf items m) (Pf items m) T (Wf items m)=need at *
 by_cases c:need=gt T m
 ·rw [decide_eq_true c] at hne
  rw [if_pos c]
  unfold wC
  generalize z8 items=RR at *
  generalize xH items=WW at *
  generalize L.map (fun l=>D.lst (zD l))=LL at *
  generalize zD T=TT at *
  generalize zD dl=DD at *
  simp! [et,hne,Bool.not_true]
 ·rw [decide_eq_false c] at hne
  rw [if_neg c]
  have hs:=ND (σ:=wC items L T dl (some (false,.int (m:Int))) (some (false,.int (need:Int)))) (i:=4) (j:=m) (k:=z6 6) (v:=z6 7) (ds:=zD T) (y:=.int (need:Int)) rfl rfl rfl (by rw [tD,N.len]; omega)
  rw [CF] at hs
  have hs:ZD 4 (z6 6) (z6 7) (wC items L T dl (some (false,.int (m:Int))) (some (false,.int (need:Int))))=some (.nx (wC items L (T.set m need) dl (some (false,.int (m:Int))) (some (false,.int (need:Int))))):=hs
  have he:=VG (σ:=wC items L (T.set m need) dl (some (false,.int (m:Int))) (some (false,.int (need:Int)))) (i:=5) (f:=e2 zI (z6 3) (z6 6)) (xs:=zD dl) (ys:=zD (gl L m)) rfl (by
   show zI (.lst (L.map fun l=>D.lst (zD l))) (.int (m:Int))=_
   exact ec) (by rw [tD,tD]; have:=hlen m; omega)
  rw [<- U2] at he
  have he:xZ 5 (e2 zI (z6 3) (z6 6)) (wC items L (T.set m need) dl (some (false,.int (m:Int))) (some (false,.int (need:Int))))=some (.nx (wC items L (T.set m need) (dl++gl L m) (some (false,.int (m:Int))) (some (false,.int (need:Int))))):=he
  have ht:(tE (e2 yL (z6 7) (e2 zI (wo 4) (z6 6)))) (wC items L T dl (some (false,.int (m:Int))) (some (false,.int (need:Int))))=some true:=by
   unfold wC
   generalize z8 items=RR at *
   generalize xH items=WW at *
   generalize L.map (fun l=>D.lst (zD l))=LL at *
   generalize zD T=TT at *
   generalize zD dl=DD at *
   simp! [et,hne,Bool.not_false]
  show ((tE (e2 yL (z6 7) (e2 zI (wo 4) (z6 6)))) _).bind _=_
  rw [ht]
  show zE _ _ _=_
  rw [xb hs,he]
theorem CH {items:List D} (P:PC items) {L:List (List Nat)} (hL:L.length=(z8 items).length+1) (hlen:∀ p,(gl L p).length<=2*(z8 items).length) (hC:∀ p,p<=(z8 items).length->∀ j,j∈gl L p↔(j<(z8 items).length/\p∈Wf items j)) :
  ∀ (M:Nat) {T dl:List Nat} {x6 x7:Option (Bool×D)},NI (z8 items).length (Uf items) (Pf items) (Wf items) T dl->(11*((z8 items).length+1) - ue T)*(2*(z8 items).length+2)+dl.length<=M->M<=1000000->
   ∃ T' y6 y7,NI (z8 items).length (Uf items) (Pf items) (Wf items) T' []/\wJ gu kU (M+1) (wC items L T dl x6 x7)=some (.nx (wC items L T' [] y6 y7)):=by
 intro M
 induction M with
 | zero=>
  intro T dl x6 x7 N hM _
  have:dl=[]:=List.eq_nil_of_length_eq_zero (by omega)
  subst this
  exact ⟨T,x6,x7,N,jB rfl⟩
 | succ M ih=>
  intro T dl x6 x7 N hM hb
  rcases List.eq_nil_or_concat dl with rfl | ⟨dl',m,hdl⟩
  ·exact ⟨T,x6,x7,N,jB rfl⟩
  ·rw [List.concat_eq_append] at hdl
   subst hdl
   have ll:(dl'++[m]).length=dl'.length+1:=by rw [List.length_append]; rfl
   have hm:m<(z8 items).length:=N.dn m (List.mem_append_right _ (List.mem_singleton.mpr rfl))
   have hc:gu (wC items L T (dl'++[m]) x6 x7)=some true:=by
    have:=Xe (zD (dl'++[m]))
    rw [show (zD (dl'++[m])).isEmpty=false by rw [ky]; cases zD dl'<;>rfl] at this
    unfold gu wC
    generalize z8 items=RR at *
    generalize xH items=WW at *
    generalize L.map (fun l=>D.lst (zD l))=LL at *
    generalize zD T=TT at *
    generalize zD (dl'++[m])=DD at *
    simp! [this,Bool.not_false]
   have ht:=CI P (x6:=x6) (x7:=x7) hL hlen (by omega) N
   rw [gM hc ht]
   by_cases c:rl (Uf items m) (Pf items m) T (Wf items m)=gt T m
   ·rw [if_pos c]
    exact ih (CQ N c) (by omega) (by omega)
   ·rw [if_neg c]
    refine ih (CP N (TK P hm).2 (hC m (by omega))) ?_ (by omega)
    have h1:=LY (T:=T) (m:=m) (x:=rl (Uf items m) (Pf items m) T (Wf items m)) (by rw [N.len]; omega)
    have h2:=pc_lt (N.up m hm) (Ox (TK P hm).2 N.lt) (fun z=>c z.symm)
    have h3:=LW (T.set m (rl (Uf items m) (Pf items m) T (Wf items m)))
    rw [List.length_set,N.len] at h3
    have h4:=hlen m
    rw [List.length_append]
    generalize ue (T.set m (rl (Uf items m) (Pf items m) T (Wf items m)))=s' at *
    generalize ue T=s at *
    generalize (z8 items).length=n at *
    obtain ⟨a,ha⟩:∃ a,11*(n+1) - s=a+1+(11*(n+1) - s'):=⟨11*(n+1) - s - 1 - (11*(n+1) - s'),by omega⟩
    rw [ha,Nat.add_mul,Nat.add_mul,Nat.one_mul] at hM
    have:0<=a*(2*n+2):=Nat.zero_le _
    omega
theorem Xh {items:List D} (P:PC items):∃ T,NI (z8 items).length (Uf items) (Pf items) (Wf items) T []/\uQ [.lst items]=some (true,.lst (zD T)):=by
 have hr:(z8 items).length<=100:=Nat.le_trans (List.length_filter_le _ _) P.ln
 have q1:xO [.lst items]=some (true,.lst (z8 items)):=qm P.it
 have q2:=TM P
 obtain ⟨L,l1,l2,l3,q3⟩:=B2 (n:=(z8 items).length) (W:=Wf items) hr (fun i hi w hw=>Wq hi hw) (Wr items)
 have q3:p6 [.lst (xH items)]=some (false,.lst (L.map fun l=>.lst (zD l))):=q3
 have bd:(11*((z8 items).length+1) - ue (List.replicate (z8 items).length 0++[2047]))*(2*(z8 items).length+2)+(List.range (z8 items).length).length<=300000:=by
  rw [List.length_range]
  have:(11*((z8 items).length+1) - ue (List.replicate (z8 items).length 0++[2047]))*(2*(z8 items).length+2)<=1111*202:=Nat.mul_le_mul (by omega) (by omega)
  omega
 obtain ⟨T,y6,y7,N,ew⟩:=CH P l1 l3 l2 300000 (x6:=none) (x7:=none) CS bd (by omega)
 have ew:=j3 (300000+1) ew (by decide)
 refine ⟨T,N,?_⟩
 have a1:kD (.lst [.int 0]) (.int ((z8 items).length:Nat))=some (.lst (zD (List.replicate (z8 items).length 0))):=by
  show (if 0<=(((z8 items).length:Nat):Int)/\(((z8 items).length:Nat):Int)<=1000000/\([D.int 0]).length*(((z8 items).length:Nat):Int).toNat<=zy then some (D.lst (List.replicate (((z8 items).length:Nat):Int).toNat [D.int 0]).flatten) else none)=_
  rw [if_pos ⟨by omega,by omega,by show 1*_<=16777216; omega⟩,Int.toNat_natCast]
  congr 2
  unfold zD
  rw [List.map_replicate]
  generalize (z8 items).length=n
  induction n with
  | zero=>rfl
  | succ n ih=>rw [List.replicate_succ,List.replicate_succ,List.flatten_cons,ih]; rfl
 have a2:kB (.lst (zD (List.replicate (z8 items).length 0))) (.lst [.int 2047])=some (.lst (zD (List.replicate (z8 items).length 0++[2047]))):=by
  show (if (zD (List.replicate (z8 items).length 0)).length+1<=zy then _ else _)=_
  rw [if_pos (by rw [tD,List.length_replicate]; show _<=16777216; omega),ky]
  rfl
 have h5:VO [.int ((z8 items).length:Nat)]=some (.lst (zD (List.range (z8 items).length))):=by
  show (if 0<=(((z8 items).length:Nat):Int)/\(((z8 items).length:Nat):Int)<=1000000 then some (D.lst ((List.range (((z8 items).length:Nat):Int).toNat).map fun k:Nat=>D.int k)) else none)=_
  rw [if_pos ⟨by omega,by omega⟩,Int.toNat_natCast]
  rfl
 have ew:tJ gu kU [some (false,.lst items),some (false,.lst (z8 items)),some (false,.lst (xH items)),some (false,.lst (L.map fun l=>.lst (zD l))),some (true,.lst (zD (List.replicate (z8 items).length 0++[2047]))),some (true,.lst (zD (List.range (z8 items).length))),none,none]=some (.nx [some (false,.lst items),some (false,.lst (z8 items)),some (false,.lst (xH items)),some (false,.lst (L.map fun l=>.lst (zD l))),some (true,.lst (zD T)),some (true,.lst (zD [])),y6,y7]):=ew
 rw [DF]
 unfold Yn
 generalize zD T=TT at *
 generalize zD (List.range (z8 items).length)=DD at *
 generalize zD (List.replicate (z8 items).length 0++[2047])=T0 at *
 generalize zD (List.replicate (z8 items).length 0)=T1 at *
 generalize zD []=DZ at *
 generalize z8 items=RR at *
 generalize xH items=WW at *
 generalize L.map (fun l=>D.lst (zD l))=LL at *
 simp! [q1,q2,q3,a1,a2,h5,ew]
end L3
namespace L3
open PySem
theorem M1 {α:Type}:∀ l:List α,uV (l.map fun _=>D.bl true)=some (l.map fun _=>true)
 | []=>rfl
 | _::l=>by
  show (uV (l.map fun _=>D.bl true)).bind _=_
  rw [M1 l]
  rfl
theorem Q3 {α:Type} (l:List α):pK [.lst (l.map fun _=>D.bl true)]=some (.bl true):=by
 show (uV _).bind _=_
 rw [M1]
 show some (D.bl ((l.map fun _=>true).all id))=_
 congr 2
 exact List.all_eq_true.mpr fun y hy=>by
  obtain ⟨_,_,rfl⟩:=List.mem_map.mp hy
  rfl
end L3
namespace L3
open PySem
def kP (t:Str) (d:D):Bool:=zM d&&ku t d
theorem Dk {t:Str} {d:D} (h:yA d) (ht:kP t d=true):d=yg t:=by
 unfold kP at ht
 rw [Bool.and_eq_true] at ht
 obtain ⟨u,rfl⟩:=pR h ht.1
 have:(u == t)=true:=ht.2
 rw [beq_iff_eq] at this
 rw [this]
theorem IX {t:Str}:∀ {L:List D} {s:Nat×Option Nat},(∀ d∈L,kP t d=false)->(L.foldl (wS t) s).2=s.2
 | [],_,_=>rfl
 | d::L,s,h=>by
  rw [List.foldl_cons,IX fun x hx=>h x (List.mem_cons_of_mem _ hx)]
  have:=h d (List.mem_cons_self ..)
  unfold kP at this
  unfold wS
  cases hl:zM d with
  | false=>rfl
  | true=>
   rw [hl,Bool.true_and] at this
   rw [this]
end L3
namespace L3
open PySem
def kW:FS:=(zE (qp 4 3)
    (yB (qz (tE (e2 (v8 fun i j=>decide (i<j)) (z6 4) (eL yy (zA (z6 1) zB)))) (tE (e2 qW (z6 4) (wo 2))))
     (zE (j2 2 (z6 4) (eC (.bl true)))
      (xZ 3 (e2 zI (z6 1) (z6 4))))
     yK))
def gx:FT:=(tE (e2 yL (wo 3) (y_ zB)))
def Yr:FS:=
 (zE (zU 1 (zQ uo (zA (z6 0) zB)))
  (zE (wV 2 (eC (.dic [] [])))
  (zE (wV 3 (y_ (zA (eC (.int 0)) zB)))
  (zE (tJ gx
   kW)
  (zE (vi 3) (zE (vi 2) (w8 (eL VR (zA (z6 2) zB)))))))))
def uR:List D->Option (Bool×D):=FR 1 5 Yr
theorem Ki:∀ ds r,uR ds=some r->ds.length=1/\za 5 Yr ds=some r:=yb
theorem DJ (x0:D):uR [x0]=za 5 Yr [x0]:=rfl
inductive tL (n:Nat) (W:Nat->List Nat):Nat->Prop
 | zero:tL n W 0
 | step {i w:Nat}:tL n W i->i<n->w∈W i->tL n W w
structure RI (n:Nat) (W:Nat->List Nat) (F dl:List Nat):Prop where
 nd:F.Nodup
 fl:∀ f∈F,f<n/\tL n W f
 dc:∀ d∈dl,tL n W d
 z:0<n->0∈F\/0∈dl
 cl:∀ f∈F,∀ w∈W f,w<n->w∈F\/w∈dl
theorem U6 {n:Nat}:∀ {F:List Nat},F.Nodup->(∀ f∈F,f<n)->F.length<=n:=fun {F} nd h=>by
 have:=List.Nodup.length_le_of_subset nd (l₂:=List.range n) fun x hx=>List.mem_range.mpr (h x hx)
 rw [List.length_range] at this
 exact this
section
variable {n:Nat} {W:Nat->List Nat} {F dl:List Nat} {m:Nat}
theorem Hr (R:RI n W F (dl++[m])) (h:¬ m<n\/m∈F):RI n W F dl:=by
 have sub:∀ w,w<n->w∈F\/w∈dl++[m]->w∈F\/w∈dl:=fun w hw h'=>by
  rcases h' with h' | h'
  ·exact .inl h'
  ·rcases List.mem_append.mp h' with z | z
   ·exact .inr z
   ·cases List.mem_singleton.mp z
    rcases h with h | h
    ·exact absurd hw h
    ·exact .inl h
 exact ⟨R.nd,R.fl,fun d hd=>R.dc d (List.mem_append_left _ hd),fun h0=>sub 0 h0 (R.z h0),fun f hf w hw hn=>sub w hn (R.cl f hf w hw hn)⟩
theorem UY (R:RI n W F (dl++[m])) (hm:m<n) (hF:m ∉ F):RI n W (F++[m]) (dl++W m):=by
 have cm:tL n W m:=R.dc m (List.mem_append_right _ (List.mem_singleton.mpr rfl))
 have sub:∀ w,w∈F\/w∈dl++[m]->w∈F++[m]\/w∈dl++W m:=fun w h=>by
  rcases h with h | h
  ·exact .inl (List.mem_append_left _ h)
  ·rcases List.mem_append.mp h with z | z
   ·exact .inr (List.mem_append_left _ z)
   ·exact .inl (List.mem_append_right _ z)
 refine ⟨List.nodup_append.mpr ⟨R.nd,List.nodup_cons.mpr ⟨List.not_mem_nil,List.nodup_nil⟩,fun a ha b hb e=>hF (by cases List.mem_singleton.mp hb; exact e ▸ ha)⟩,fun f hf=>?_,fun d hd=>?_,fun h0=>sub 0 (R.z h0),fun f hf w hw hn=>?_⟩
 ·rcases List.mem_append.mp hf with z | z
  ·exact R.fl f z
  ·cases List.mem_singleton.mp z
   exact ⟨hm,cm⟩
 ·rcases List.mem_append.mp hd with z | z
  ·exact R.dc d (List.mem_append_left _ z)
  ·exact .step cm hm z
 ·rcases List.mem_append.mp hf with z | z
  ·exact sub w (R.cl f z w hw hn)
  ·cases List.mem_singleton.mp z
   exact .inr (List.mem_append_right _ hw)
theorem Hq (R:RI n W F []) {i:Nat} (h:tL n W i):i<n->i∈F:=by
 induction h with
 | zero=>exact fun hi=>(R.z hi).resolve_right List.not_mem_nil
 | step hc hj hw ih=>exact fun hi=>(R.cl _ (ih hj) _ hw hi).resolve_right List.not_mem_nil
theorem Ho (R:RI n W F []) (i:Nat):i∈F↔i<n/\tL n W i:=⟨R.fl i,fun h=>Hq R h.2 h.1⟩
end
def w4 (F:List Nat):List (Sum Int Str):=F.map fun i:Nat=>.inl (i:Int)
def uh (F:List Nat):List D:=F.map fun _=>.bl true
theorem FM (F:List Nat):(w4 F).length=F.length:=by unfold w4; rw [List.length_map]
theorem Jj:∀ F:List Nat,je (w4 F)=some (F.map fun i:Nat=>(i:Int))
 | []=>rfl
 | f::F=>by
  show (je (w4 F)).bind _=_
  rw [Jj F]
  rfl
def wy (items:List D) (F dl:List Nat) (x4:Option (Bool×D)):zb:=[some (false,.lst items),some (false,.lst (xH items)),some (true,.dic (w4 F) (uh F)),some (true,.lst (zD dl)),x4]
theorem Hl {items:List D} {F dl:List Nat} {m:Nat} {x4:Option (Bool×D)} (hF:F.length<=1000) (hd:dl.length<=1000):kW (wy items F (dl++[m]) x4)=some (.nx (if m<(z8 items).length/\m ∉ F then wy items (F++[m]) (dl++Wf items m) (some (false,.int (m:Int))) else wy items F dl (some (false,.int (m:Int))))):=by
 have hp:=OG (σ:=wy items F (dl++[m]) x4) (i:=3) (j:=4) (ds:=zD dl) (d:=.int (m:Int)) (by rw [<- ky]; rfl) (by decide)
 have hp:qp 4 3 (wy items F (dl++[m]) x4)=some (.nx (wy items F dl (some (false,.int (m:Int))))):=hp
 have wl:(xH items).length=(z8 items).length:=by unfold xH; rw [List.length_map,List.length_range]
 unfold kW
 rw [xb hp]
 have hn:qW (.int (m:Int)) (.dic (w4 F) (uh F))=some (.bl (!decide (m∈F))):=by
  show (some (yI (w4 F) (.inl (m:Int)))).bind _=_
  rw [show yI (w4 F) (.inl (m:Int))=decide (m∈F) from kL m F]
  rfl
 have ht:(qz (tE (e2 (v8 fun i j=>decide (i<j)) (z6 4) (eL yy (zA (z6 1) zB)))) (tE (e2 qW (z6 4) (wo 2)))) (wy items F dl (some (false,.int (m:Int))))=some (decide (m<(z8 items).length/\m ∉ F)):=by
  have e1:decide ((m:Int)<((xH items).length:Nat))=decide (m<(z8 items).length):=by rw [wl]; exact decide_eq_decide.mpr (by omega)
  unfold wy
  generalize xH items=WW at *
  generalize w4 F=KK at *
  generalize uh F=YY at *
  generalize zD dl=DD at *
  by_cases c:m<(z8 items).length
  ·rw [decide_eq_true c] at e1
   by_cases c2:m∈F
   ·rw [decide_eq_true c2] at hn
    rw [decide_eq_false (fun z=>z.2 c2)]
    simp! [e1,hn,Bool.not_true]
   ·rw [decide_eq_false c2] at hn
    rw [decide_eq_true ⟨c,c2⟩]
    simp! [e1,hn,Bool.not_false]
  ·rw [decide_eq_false c] at e1
   rw [decide_eq_false (fun z=>c z.1)]
   simp! [e1]
 show ((qz _ _) (wy items F dl (some (false,.int (m:Int))))).bind _=_
 rw [ht]
 by_cases c:m<(z8 items).length/\m ∉ F
 ·rw [decide_eq_true c,if_pos c]
  have ew:=TN c.1
  have nh:¬ yI (w4 F) (.inl (m:Int))=true:=by
   rw [show yI (w4 F) (.inl (m:Int))=decide (m∈F) from kL m F,decide_eq_false c.2]
   decide
  have hs:j2 2 (z6 4) (eC (.bl true)) (wy items F dl (some (false,.int (m:Int))))=some (.nx (wy items (F++[m]) dl (some (false,.int (m:Int))))):=by
   show (if (w4 F).length<zy then some (Fl.nx ((wy items F dl (some (false,.int (m:Int)))).set 2 (some (true,.dic (xY (w4 F) (.inl (m:Int))) (xj (w4 F) (uh F) (.inl (m:Int)) (.bl true)))))) else none)=_
   rw [if_pos (by rw [FM]; show _<16777216; omega)]
   unfold xY xj
   rw [if_neg nh,if_neg nh]
   have e1:w4 F++[.inl (m:Int)]=w4 (F++[m]):=by unfold w4; rw [List.map_append]; rfl
   have e2:uh F++[.bl true]=uh (F++[m]):=by unfold uh; rw [List.map_append]; rfl
   rw [e1,e2]
   rfl
  have he:=VG (σ:=wy items (F++[m]) dl (some (false,.int (m:Int)))) (i:=3) (f:=e2 zI (z6 1) (z6 4)) (xs:=zD dl) (ys:=zD (Wf items m)) rfl ew (by rw [tD,tD]; have:=Wr items m; omega)
  rw [<- U2] at he
  show zE _ _ _=_
  rw [xb hs]
  exact he
 ·rw [decide_eq_false c,if_neg c]
  rfl
theorem Hk {items:List D} (hr:(z8 items).length<=100) :
  ∀ (M:Nat) {F dl:List Nat} {x4:Option (Bool×D)},RI (z8 items).length (Wf items) F dl->3*((z8 items).length - F.length)+dl.length<=M->M<=1000->∃ F' y4,RI (z8 items).length (Wf items) F' []/\wJ gx kW (M+1) (wy items F dl x4)=some (.nx (wy items F' [] y4)):=by
 intro M
 induction M with
 | zero=>
  intro F dl x4 R hM _
  have:dl=[]:=List.eq_nil_of_length_eq_zero (by omega)
  subst this
  exact ⟨F,x4,R,jB rfl⟩
 | succ M ih=>
  intro F dl x4 R hM hb
  have hFl:=U6 R.nd fun f hf=>(R.fl f hf).1
  rcases List.eq_nil_or_concat dl with rfl | ⟨dl',m,hdl⟩
  ·exact ⟨F,x4,R,jB rfl⟩
  ·rw [List.concat_eq_append] at hdl
   subst hdl
   have ll:(dl'++[m]).length=dl'.length+1:=by rw [List.length_append]; rfl
   have hc:gx (wy items F (dl'++[m]) x4)=some true:=by
    have:=Xe (zD (dl'++[m]))
    rw [show (zD (dl'++[m])).isEmpty=false by rw [ky]; cases zD dl'<;>rfl] at this
    unfold gx wy
    generalize xH items=WW at *
    generalize w4 F=KK at *
    generalize uh F=YY at *
    generalize zD (dl'++[m])=DD at *
    simp! [this,Bool.not_false]
   rw [gM hc (Hl (by omega) (by omega))]
   by_cases c:m<(z8 items).length/\m ∉ F
   ·rw [if_pos c]
    refine ih (UY R c.1 c.2) ?_ (by omega)
    have h2:=U6 (UY R c.1 c.2).nd fun f hf=>((UY R c.1 c.2).fl f hf).1
    have h3:=Wr items m
    rw [List.length_append,List.length_singleton] at h2
    rw [List.length_append,List.length_append,List.length_singleton]
    omega
   ·rw [if_neg c]
    exact ih (Hr R (Decidable.not_and_iff_or_not.mp c |>.imp id fun z=>Decidable.not_not.mp z)) (by omega) (by omega)
theorem Pl {l:List Int} (h:∀ x∈l,0<=x):(l.map Int.toNat).map (fun i:Nat=>(i:Int))=l:=by
 rw [List.map_map]
 conv=>rhs; rw [<- List.map_id l]
 exact List.map_congr_left fun x hx=>Int.toNat_of_nonneg (h x hx)
theorem X_ {items:List D} (P:PC items) (hr:(z8 items).length<=60):∃ R:List Nat,R.Pairwise (·<·)/\(∀ i,i∈R↔i<(z8 items).length/\tL (z8 items).length (Wf items) i)/\uR [.lst items]=some (true,.lst (zD R)):=by
 have e1:=TM P
 obtain ⟨F,y4,RF,ew⟩:=Hk (items:=items) (by omega) 200 (F:=[]) (dl:=[0]) (x4:=none) ⟨List.nodup_nil,(fun _ h=>by cases h),(fun d hd=>by cases List.mem_singleton.mp hd; exact .zero),fun _=>.inr (List.mem_singleton.mpr rfl),fun _ h=>by cases h⟩ (by
  show 3*((z8 items).length - 0)+1<=200
  omega) (by omega)
 have ew:=j3 (200+1) ew (by decide)
 have hl:=U6 RF.nd fun f hf=>(RF.fl f hf).1
 obtain ⟨R,hR⟩:∃ R,R=(L2.isort (F.map fun i:Nat=>(i:Int))).map Int.toNat:=⟨_,rfl⟩
 have pm:=L2.isort_perm (F.map fun i:Nat=>(i:Int))
 have eR:R.map (fun i:Nat=>(i:Int))=L2.isort (F.map fun i:Nat=>(i:Int)):=by
  rw [hR]
  refine Pl fun x hx=>?_
  obtain ⟨f,_,rfl⟩:=List.mem_map.mp (pm.mem_iff.mp hx)
  omega
 have memR:∀ i,i∈R↔i∈F:=fun i=>by
  have h1:i∈R↔(i:Int)∈R.map (fun i:Nat=>(i:Int)):=⟨fun h=>List.mem_map.mpr ⟨i,h,rfl⟩,fun h=>by
   obtain ⟨j,hj,e⟩:=List.mem_map.mp h
   have:j=i:=by omega
   exact this ▸ hj⟩
  rw [h1,eR,pm.mem_iff]
  exact ⟨fun h=>by
   obtain ⟨j,hj,e⟩:=List.mem_map.mp h
   have:j=i:=by omega
   exact this ▸ hj,fun h=>List.mem_map.mpr ⟨i,h,rfl⟩⟩
 have srt:R.Pairwise (·<·):=by
  have s1:(R.map (fun i:Nat=>(i:Int))).Pairwise (·<=·):=by rw [eR]; exact L2.isort_sorted _
  have n1:R.Nodup:=by
   have:(R.map (fun i:Nat=>(i:Int))).Nodup:=by
    rw [eR,pm.nodup_iff]
    exact List.pairwise_map.mpr (RF.nd.imp fun h e=>h (by omega))
   exact (List.pairwise_map.mp this).imp fun h e=>h (by rw [e])
  rw [List.pairwise_map] at s1
  exact s1.imp₂ (fun a b h1 h2=>by have:a≠b:=h2; omega) n1
 have es:VR [.dic (w4 F) (uh F)]=some (.lst (zD R)):=by
  show (je (w4 F)).bind _=_
  rw [Jj]
  show (if (F.map fun i:Nat=>(i:Int)).length<64 then some (D.lst ((L2.isort (F.map fun i:Nat=>(i:Int))).map D.int)) else none)=_
  rw [if_pos (by rw [List.length_map]; omega),<- eR,List.map_map]
  rfl
 refine ⟨R,srt,fun i=>(memR i).trans (Ho RF i),?_⟩
 have ew:tJ gx kW [some (false,.lst items),some (false,.lst (xH items)),some (true,.dic [] []),some (true,.lst [.int 0]),none]=some (.nx [some (false,.lst items),some (false,.lst (xH items)),some (true,.dic (w4 F) (uh F)),some (true,.lst (zD [])),y4]):=ew
 rw [DJ]
 unfold Yr
 generalize zD R=RR at *
 generalize zD []=DZ at *
 generalize w4 F=KK at *
 generalize uh F=YY at *
 generalize xH items=WW at *
 simp! [e1,ew,es]
end L3
namespace L3
open PySem
def Td:FE:=(xK (zA (z6 2) (zA (eC (.bl true)) zB)))
def Op:FA:=(uX (eC (.int 0)) (eL yy (zA (zQ xO (zA (z6 0) zB)) zB)))
def Lz:FE:=(z6 2)
def To:FT:=(tE (e2 qW (z6 2) (z6 1)))
def Yp:FS:=
 (zE (zU 1 (eL pL (zA (xJ 1 (x_ (zQ uR (zA (z6 0) zB))) (zn 2) xM Td) zB)))
  (w8 (xJ 1 Op (zn 2) To Lz)))
def vY:List D->Option (Bool×D):=FR 1 2 Yp
theorem Kf:∀ ds r,vY ds=some r->ds.length=1/\za 2 Yp ds=some r:=yb
theorem DH (x0:D):vY [x0]=za 2 Yp [x0]:=rfl
def M0:FE:=(z6 1)
def Tq:FT:=(tE (e2 zj (z6 2) (e2 yt (z6 1) (eC (.int 1)))))
def Yv:FS:=
 (w8 (xJ 2 (vP (zQ uS (zA (z6 0) zB))) (xW 1 2) Tq M0))
def va:List D->Option (Bool×D):=FR 1 1 Yv
theorem Km:∀ ds r,va ds=some r->ds.length=1/\za 1 Yv ds=some r:=yb
theorem DN (x0:D):va [x0]=za 1 Yv [x0]:=rfl
def Lv:FE:=(z6 1)
def Ti:FT:=(qz (tE (e2 zj (e2 zI (z6 2) (eC (.int 0))) (eC (.str "copy")))) (tE (e2 zj (e2 zI (z6 2) (eC (.int 1))) (e2 zI (z6 2) (eC (.int 2))))))
def YT:FS:=
 (w8 (xJ 2 (vP (zQ xO (zA (z6 0) zB))) (xW 1 2) Ti Lv))
def vW:List D->Option (Bool×D):=FR 1 1 YT
theorem H_:∀ ds r,vW ds=some r->ds.length=1/\za 1 YT ds=some r:=yb
theorem Bm (x0:D):vW [x0]=za 1 YT [x0]:=rfl
def WR:FE:=(zQ vZ (zA (z6 4) zB))
def Oo:FA:=(uX (eC (.int 0)) (eL yy (zA (z6 3) zB)))
def Ly:FE:=(z6 4)
def Tn:FT:=(qz (tE (e2 yL (e2 zI (z6 3) (z6 4)) (eC (.int 0)))) (tE (e2 zj (e2 (wY Builtin.bitAnd) (e2 zI (z6 3) (z6 4)) (zQ tQ (zA (z6 1) (zA (e2 zI (z6 2) (z6 4)) zB)))) (eC (.int 0)))))
def Yo:FS:=
 (zE (zU 1 (xP uQ (zA (z6 0) zB)))
  (zE (zU 2 (zQ uo (zA (z6 0) zB)))
  (zE (zU 3 (xJ 1 (x_ (zQ xO (zA (z6 0) zB))) (zn 4) xM WR))
  (w8 (xJ 1 Oo (zn 4) Tn Ly)))))
def vX:List D->Option (Bool×D):=FR 1 4 Yo
theorem Ke:∀ ds r,vX ds=some r->ds.length=1/\za 4 Yo ds=some r:=yb
theorem DG (x0:D):vX [x0]=za 4 Yo [x0]:=rfl
def YU:FS:=
 (zE (wV 1 (y_ zB))
  (zE (wr 2 [xZ 1 (zQ vY (zA (z6 0) zB)),xZ 1 (zQ va (zA (z6 0) zB)),xZ 1 (zQ vW (zA (z6 0) zB)),xZ 1 (zQ vX (zA (z6 0) zB))])
  (zE (vi 1) (w8 (eL pP (zA (z6 1) zB))))))
def tO:List D->Option (Bool×D):=FR 1 3 YU
theorem K5:∀ ds r,tO ds=some r->ds.length=1/\za 3 YU ds=some r:=yb
theorem Bn (x0:D):tO [x0]=za 3 YU [x0]:=rfl
theorem IA {g:FG} {c:FT} {e:FE} {σ:zb} (p:Nat->Bool):∀ {ds:List D} (k:Nat),(∀ i d,ds[i]?=some d->∃ σ1,g d σ=some σ1/\c σ1=some (p (k+i))/\e σ1=some (.int ((k+i:Nat):Int)))->xi g c e σ ds=some (zD ((List.range' k ds.length).filter p))
 | [],_,_=>rfl
 | d::ds,k,h=>by
  obtain ⟨σ1,e1,e2,e3⟩:=h 0 d rfl
  have ih:=IA p (ds:=ds) (k+1) fun i d' hd=>by
   rw [show k+1+i=k+(i+1) by omega]
   exact h (i+1) d' (by simpa using hd)
  show (g d σ).bind _=_
  rw [e1]
  show (c σ1).bind _=_
  rw [e2,List.length_cons,List.range'_succ,Nat.add_zero]
  cases hp:p k with
  | false=>
   rw [List.filter_cons_of_neg (by rw [hp]; decide)]
   exact ih
  | true=>
   rw [List.filter_cons_of_pos hp]
   show (e σ1).bind _=_
   rw [e3]
   show (xi g c e σ ds).bind _=_
   rw [ih]
   rfl
def pN (n:Nat) (p:Nat->Bool):List Nat:=(List.range n).filter p
theorem tz {n:Nat} {p:Nat->Bool} {i:Nat}:i∈pN n p↔i<n/\p i=true:=by
 unfold pN
 rw [List.mem_filter,List.mem_range]
theorem XY {g:FG} {c:FT} {e:FE} {σ:zb} (p:Nat->Bool) {ds:List D} (h:∀ i d,ds[i]?=some d->∃ σ1,g d σ=some σ1/\c σ1=some (p i)/\e σ1=some (.int (i:Int))):xi g c e σ ds=some (zD (pN ds.length p)):=by
 have:=IA (g:=g) (c:=c) (e:=e) (σ:=σ) p (ds:=ds) 0 fun i d hd=>by
  rw [Nat.zero_add]
  exact h i d hd
 rw [this,<- List.range_eq_range']
 rfl
theorem Ig {items:List D} (P:PC items) {R:List Nat} (eR:uR [.lst items]=some (true,.lst (zD R))):vY [.lst items]=some (true,.lst (zD (pN (z8 items).length fun i=>!decide (i∈R)))):=by
 have hr:(z8 items).length<=100:=Nat.le_trans (List.length_filter_le _ _) P.ln
 have q1:xO [.lst items]=some (true,.lst (z8 items)):=qm P.it
 have e1:xi (zn 2) xM Td [some (false,.lst items),none,none] (zD R)=some (R.map fun i:Nat=>D.tup [.int i,.bl true]):=by
  have:=qf (g:=zn 2) (e:=Td) (σ:=[some (false,.lst items),none,none]) (fun d=>.tup [d,.bl true]) (ds:=zD R) fun d hd=>⟨_,rfl,rfl⟩
  rw [this]
  unfold zD
  rw [List.map_map]
  rfl
 obtain ⟨K,V,e2,hk⟩:=Qn R
 have r1:Op [some (false,.lst items),some (false,.dic K V)]=some (xy (z8 items).length):=by
  refine qk (n:=((z8 items).length:Nat)) ?_ (by omega)
  generalize z8 items=RR at *
  simp! [q1]
 have e3:=XY (g:=zn 2) (c:=To) (e:=Lz) (σ:=[some (false,.lst items),some (false,.dic K V),none]) (fun i=>!decide (i∈R)) (ds:=xy (z8 items).length) fun i d hd=>by
  obtain ⟨_,rfl⟩:=YB hd
  refine ⟨_,rfl,?_,rfl⟩
  have hn:qW (.int (i:Int)) (.dic K V)=some (.bl (!decide (i∈R))):=by
   show (some (yI K (.inl (i:Int)))).bind _=_
   rw [hk]
   rfl
  unfold To
  simp! [hn]
 rw [jA] at e3
 rw [DH]
 unfold Yp
 generalize zD (pN (z8 items).length fun i=>!decide (i∈R))=AA at *
 generalize zD R=RR at *
 generalize (R.map fun i:Nat=>D.tup [.int i,.bl true])=TT at *
 simp! [eR,e1,e2,r1,e3]
def uZ (items:List D) (i:Nat):Bool:=decide (yS items (zg items i)=some (i+1))
theorem Ep (o:Option Nat) (i:Nat):zj (yN o) (.int ((i:Int)+1))=some (.bl (decide (o=some (i+1)))):=by
 cases o with
 | none=>rfl
 | some p=>
  show some (D.bl ((p:Int) == (i:Int)+1))=_
  by_cases c:p=i+1
  ·subst c
   rw [decide_eq_true rfl,show ((i+1:Nat):Int)=(i:Int)+1 by omega,beq_self_eq_true]
  ·rw [decide_eq_false (by intro z; cases z; exact c rfl),beq_eq_false_iff_ne.mpr (by omega)]
theorem Lg {items:List D} (P:PC items):va [.lst items]=some (true,.lst (zD (pN (z8 items).length (uZ items)))):=by
 have q1:=T9 P
 have e3:=XY (g:=xW 1 2) (c:=Tq) (e:=M0) (σ:=[some (false,.lst items),none,none]) (uZ items) (ds:=vz ((z8 items).map fun r=>yN (yS items r))) fun i d hd=>by
  rw [pd,List.getElem?_map] at hd
  cases hr:(z8 items)[i]? with
  | none=>rw [hr] at hd; cases hd
  | some r=>
   rw [hr] at hd
   cases hd
   have er:zg items i=r:=by
    have:=wc (List.getElem?_eq_some_iff.mp hr).1
    rw [hr] at this
    exact (Option.some.inj this).symm
   refine ⟨_,rfl,?_,rfl⟩
   have hq:=Ep (yS items r) i
   unfold Tq uZ
   rw [er]
   simp! [add_int,hq]
 rw [tu,List.length_map] at e3
 rw [DN]
 unfold Yv
 generalize zD (pN (z8 items).length (uZ items))=AA at *
 generalize (z8 items).map (fun r=>yN (yS items r))=ts at *
 simp! [q1,vP,e3]
def ve:D->Bool
 | .tup [.str w,.int d,.int s]=>(w == "copy")&&(d == s)
 | _=>false
theorem Qg {r:D} (h:yA r):∃ b,zj (.str (wd r)) (.str "copy")=some (.bl b)/\(b=true->∃ x y,zI r (.int 1)=some x/\zI r (.int 2)=some y/\zj x y=some (.bl (ve r)))/\(b=false->ve r=false):=by
 refine ⟨wd r == "copy",T3 _ _,fun hb=>?_,fun hb=>?_⟩
 ·cases h with
  | label t=>cases hb
  | plain h=>
   cases h with
   | stop=>cases hb
   | imm hw=>rcases hw with rfl | rfl<;>cases hb
   | @two w d s hw d0 d1 s0 s1=>
    have q:(w == ("copy" : Str))=true:=hb
    refine ⟨_,_,rfl,rfl,?_⟩
    show some (D.bl (d == s))=some (D.bl ((w == ("copy" : Str))&&(d == s)))
    rw [q]
    rfl
   | mov hw=>rcases hw with rfl | rfl<;>cases hb
   | mem hw=>rcases hw with rfl | rfl | rfl | rfl<;>cases hb
  | jump t=>cases hb
  | cond t hw hk=>rcases hw with rfl | rfl<;>cases hb
 ·unfold ve
  split
  ·rename_i w d s
   have:(w == ("copy" : Str))=false:=hb
   rw [this]
   rfl
  ·rfl
theorem Qe {items:List D} (P:PC items):vW [.lst items]=some (true,.lst (zD (pN (z8 items).length fun i=>ve (zg items i)))):=by
 have q1:xO [.lst items]=some (true,.lst (z8 items)):=qm P.it
 have e3:=XY (g:=xW 1 2) (c:=Ti) (e:=Lv) (σ:=[some (false,.lst items),none,none]) (fun i=>ve (zg items i)) (ds:=vz (z8 items)) fun i d hd=>by
  rw [pd] at hd
  cases hr:(z8 items)[i]? with
  | none=>rw [hr] at hd; cases hd
  | some r=>
   rw [hr] at hd
   cases hd
   have hi:=(List.getElem?_eq_some_iff.mp hr).1
   have er:zg items i=r:=by
    have:=wc hi
    rw [hr] at this
    exact (Option.some.inj this).symm
   have hI:=(wU P hi).1
   rw [er] at hI
   have w0:=Vl hI
   obtain ⟨b,b1,b2,b3⟩:=Qg hI
   refine ⟨_,rfl,?_,rfl⟩
   unfold Ti
   rw [er]
   cases b with
   | true=>
    obtain ⟨x,y,c1,c2,c3⟩:=b2 rfl
    simp! [w0,b1,c1,c2,c3]
   | false=>
    rw [b3 rfl]
    simp! [w0,b1]
 rw [tu] at e3
 rw [Bm]
 unfold YT
 generalize zD (pN (z8 items).length fun i=>ve (zg items i))=AA at *
 generalize z8 items=RR at *
 simp! [q1,vP,e3]
def uY (items:List D) (T:List Nat) (i:Nat):Bool:=decide (Pf items i≠0)&&decide ((Pf items i &&& w6 T (Wf items i))=0)
theorem BN (a:Nat):zj (.int (a:Int)) (.int 0)=some (.bl (decide (a=0))):=by
 show some (D.bl ((a:Int) == 0))=_
 by_cases c:a=0
 ·subst c; rfl
 ·rw [beq_eq_false_iff_ne.mpr (by omega),decide_eq_false c]
theorem Ie {items:List D} (P:PC items) {T:List Nat} (lT:T.length=(z8 items).length+1) (eT:uQ [.lst items]=some (true,.lst (zD T))):vX [.lst items]=some (true,.lst (zD (pN (z8 items).length (uY items T)))):=by
 have hr:(z8 items).length<=100:=Nat.le_trans (List.length_filter_le _ _) P.ln
 have q1:xO [.lst items]=some (true,.lst (z8 items)):=qm P.it
 have q2:=TM P
 obtain ⟨ps,hps⟩:∃ ps:List Nat,ps=(List.range (z8 items).length).map (Pf items):=⟨_,rfl⟩
 have pl:ps.length=(z8 items).length:=by rw [hps,List.length_map,List.length_range]
 have pg:∀ i,i<(z8 items).length->gt ps i=Pf items i:=fun i hi=>by
  unfold gt
  rw [hps,List.getD_eq_getElem?_getD,List.getElem?_map,List.getElem?_range hi]
  rfl
 have e1:xi (zn 4) xM WR [some (false,.lst items),some (false,.lst (zD T)),some (false,.lst (xH items)),none,none] (z8 items)=some (zD ps):=by
  have:=XX (g:=zn 4) (e:=WR) (σ:=[some (false,.lst items),some (false,.lst (zD T)),some (false,.lst (xH items)),none,none]) (fun i=>.int (Pf items i:Nat)) (ds:=z8 items) 0 fun i d hd=>by
   have hi:=(List.getElem?_eq_some_iff.mp hd).1
   have er:zg items i=d:=by
    have:=wc hi
    rw [hd] at this
    exact (Option.some.inj this).symm
   have ep:=(OQ P hi).1
   rw [er] at ep
   refine ⟨_,rfl,?_⟩
   rw [Nat.zero_add]
   unfold WR
   generalize zD T=TT at *
   generalize xH items=WW at *
   simp! [ep]
  rw [this,<- List.range_eq_range',hps]
  unfold zD
  rw [List.map_map]
  rfl
 have r1:Oo [some (false,.lst items),some (false,.lst (zD T)),some (false,.lst (xH items)),some (false,.lst (zD ps))]=some (xy (z8 items).length):=by
  have:=qk (f:=eL yy (zA (z6 3) zB)) (τ:=[some (false,.lst items),some (false,.lst (zD T)),some (false,.lst (xH items)),some (false,.lst (zD ps))]) (n:=((z8 items).length:Nat)) (by
   show some (D.int ((zD ps).length:Nat))=_
   rw [tD,pl]) (by omega)
  rw [Int.toNat_natCast] at this
  exact this
 have e3:=XY (g:=zn 4) (c:=Tn) (e:=Ly) (σ:=[some (false,.lst items),some (false,.lst (zD T)),some (false,.lst (xH items)),some (false,.lst (zD ps)),none]) (uY items T) (ds:=xy (z8 items).length) fun i d hd=>by
  obtain ⟨hi,rfl⟩:=YB hd
  refine ⟨_,rfl,?_,rfl⟩
  have i1:=U3 (T:=ps) (i:=i) (by omega)
  rw [pg i hi] at i1
  have i2:=TN hi
  have i3:=IS (T:=T) (ws:=Wf items i) fun w hw=>by have:=Wq hi hw; omega
  have b1:=MO (Pf items i) (w6 T (Wf items i))
  have z1:=IR (Pf items i) 0
  have z1:yL (.int (Pf items i:Nat)) (.int 0)=some (.bl (!decide (Pf items i=0))):=z1
  have z2:=BN (Pf items i &&& w6 T (Wf items i))
  unfold Tn uY
  generalize zD T=TT at *
  generalize xH items=WW at *
  generalize zD ps=PP at *
  generalize zD (Wf items i)=WI at *
  by_cases c:Pf items i=0
  ·rw [decide_eq_true c] at z1
   rw [decide_eq_false (fun z=>z c),Bool.false_and]
   simp! [i1,z1,Bool.not_true]
  ·rw [decide_eq_false c] at z1
   rw [decide_eq_true c,Bool.true_and]
   simp! [i1,z1,Bool.not_false,i2,i3,b1,z2]
 rw [jA] at e3
 rw [DG]
 unfold Yo
 generalize zD (pN (z8 items).length (uY items T))=AA at *
 generalize zD T=TT at *
 generalize zD ps=PP at *
 generalize xH items=WW at *
 generalize xy (z8 items).length=UU at *
 generalize z8 items=RR at *
 simp! [eT,q2,q1,e1,r1,e3]
theorem UB:∀ (ns acc:List Int),acc.Nodup->(ns.foldl uJ acc).Nodup/\∀ x,x∈ns.foldl uJ acc↔x∈acc\/x∈ns
 | [],acc,h=>⟨h,fun x=>⟨.inl,fun z=>z.elim id fun z=>by cases z⟩⟩
 | n::ns,acc,h=>by
  rw [List.foldl_cons]
  by_cases c:(acc.any fun m=>decide (m=n))=true
  ·have e:uJ acc n=acc:=if_pos c
   rw [e]
   obtain ⟨a,b⟩:=UB ns acc h
   refine ⟨a,fun x=>(b x).trans ⟨fun z=>z.imp id (List.mem_cons_of_mem _),fun z=>z.elim .inl fun z=>?_⟩⟩
   rcases List.mem_cons.mp z with rfl | z
   ·obtain ⟨m,hm,e⟩:=List.any_eq_true.mp c
    exact .inl (of_decide_eq_true e ▸ hm)
   ·exact .inr z
  ·have e:uJ acc n=acc++[n]:=if_neg c
   rw [e]
   have hn:n ∉ acc:=fun z=>c (List.any_eq_true.mpr ⟨n,z,decide_eq_true rfl⟩)
   obtain ⟨a,b⟩:=UB ns (acc++[n]) (List.nodup_append.mpr ⟨h,List.nodup_cons.mpr ⟨List.not_mem_nil,List.nodup_nil⟩,fun x hx y hy z=>hn (by cases List.mem_singleton.mp hy; exact z ▸ hx)⟩)
   refine ⟨a,fun x=>(b x).trans ?_⟩
   rw [List.mem_append,List.mem_singleton,List.mem_cons]
   exact ⟨fun z=>z.elim (fun z=>z.elim .inl fun z=>.inr (.inl z)) fun z=>.inr (.inr z),fun z=>z.elim (fun z=>.inl (.inl z)) fun z=>z.elim (fun z=>.inl (.inr z)) .inr⟩
theorem IM:∀ {a b:List Int},a.Pairwise (·<·)->b.Pairwise (·<·)->(∀ x,x∈a↔x∈b)->a=b
 | [],[],_,_,_=>rfl
 | [],y::b,_,_,h=>by have:=(h y).mpr List.mem_cons_self; cases this
 | x::a,[],_,_,h=>by have:=(h x).mp List.mem_cons_self; cases this
 | x::a,y::b,ha,hb,h=>by
  rw [List.pairwise_cons] at ha hb
  have e:x=y:=by
   rcases List.mem_cons.mp ((h x).mp List.mem_cons_self) with z | z
   ·exact z
   ·rcases List.mem_cons.mp ((h y).mpr List.mem_cons_self) with w | w
    ·exact w.symm
    ·have:=hb.1 x z
     have:=ha.1 y w
     omega
  subst e
  rw [IM ha.2 hb.2 fun z=>⟨fun hz=>by
   rcases List.mem_cons.mp ((h z).mp (List.mem_cons_of_mem _ hz)) with w | w
   ·have:=ha.1 z hz; omega
   ·exact w,fun hz=>by
   rcases List.mem_cons.mp ((h z).mpr (List.mem_cons_of_mem _ hz)) with w | w
   ·have:=hb.1 z hz; omega
   ·exact w⟩]
theorem Ev (n:Nat) (p:Nat->Bool):((pN n p).map fun i:Nat=>(i:Int)).Pairwise (·<·):=by
 rw [List.pairwise_map]
 unfold pN
 exact List.Pairwise.filter _ (List.pairwise_lt_range.imp fun h=>by omega)
theorem LH {n:Nat} (hn:n<64) {l:List Nat} (hl:l.length<1000) {p:Nat->Bool} (h:∀ i,i∈l↔i<n/\p i=true):pP [.lst (zD l)]=some (.lst (zD (pN n p))):=by
 have e0:intsOf (zD l)=some (l.map fun i:Nat=>(i:Int)):=by
  have:=JR (l.map fun i:Nat=>(i:Int))
  rw [List.map_map] at this
  exact this
 obtain ⟨nd,mem⟩:=UB (l.map fun i:Nat=>(i:Int)) [] List.nodup_nil
 have pm:=L2.isort_perm (vC (l.map fun i:Nat=>(i:Int)))
 have s0:(L2.isort (vC (l.map fun i:Nat=>(i:Int)))).Pairwise (·<·):=by
  have n1:(L2.isort (vC (l.map fun i:Nat=>(i:Int)))).Nodup:=pm.nodup_iff.mpr nd
  exact (L2.isort_sorted (vC (l.map fun i:Nat=>(i:Int)))).imp₂ (fun a b h1 h2=>by have:a≠b:=h2; omega) n1
 have eq:L2.isort (vC (l.map fun i:Nat=>(i:Int)))=(pN n p).map fun i:Nat=>(i:Int):=IM s0 (Ev n p) fun x=>by
  rw [pm.mem_iff,show x∈vC (l.map fun i:Nat=>(i:Int))↔x∈([]:List Int)\/x∈l.map (fun i:Nat=>(i:Int)) from mem x]
  constructor
  ·rintro (z | z)
   ·cases z
   ·obtain ⟨i,hi,rfl⟩:=List.mem_map.mp z
    exact List.mem_map.mpr ⟨i,tz.mpr ((h i).mp hi),rfl⟩
  ·intro z
   obtain ⟨i,hi,rfl⟩:=List.mem_map.mp z
   exact .inr (List.mem_map.mpr ⟨i,(h i).mpr (tz.mp hi),rfl⟩)
 have len:(vC (l.map fun i:Nat=>(i:Int))).length<64:=by
  rw [<- pm.length_eq,eq,List.length_map]
  unfold pN
  have:=List.length_filter_le p (List.range n)
  rw [List.length_range] at this
  omega
 show (intsOf (zD l)).bind _=_
 rw [e0]
 show (if (l.map fun i:Nat=>(i:Int)).length<1000/\(vC (l.map fun i:Nat=>(i:Int))).length<64 then some (D.lst ((L2.isort (vC (l.map fun i:Nat=>(i:Int)))).map D.int)) else none)=_
 rw [if_pos ⟨by rw [List.length_map]; exact hl,len⟩,eq,List.map_map]
 rfl
def ja (items:List D) (R T:List Nat) (i:Nat):Bool:=!decide (i∈R)||uZ items i||ve (zg items i)||uY items T i
theorem Dc {items:List D} (P:PC items) (hr:(z8 items).length<=60) {R T:List Nat} (eR:uR [.lst items]=some (true,.lst (zD R))) (lT:T.length=(z8 items).length+1) (eT:uQ [.lst items]=some (true,.lst (zD T))) :
  tO [.lst items]=some (true,.lst (zD (pN (z8 items).length (ja items R T)))):=by
 have a1:=Ig P eR
 have a2:=Lg P
 have a3:=Qe P
 have a4:=Ie P lT eT
 have pl:∀ p:Nat->Bool,(pN (z8 items).length p).length<=60:=fun p=>by
  unfold pN
  have:=List.length_filter_le p (List.range (z8 items).length)
  rw [List.length_range] at this
  omega
 obtain ⟨A,hA⟩:∃ A,A=pN (z8 items).length fun i=>!decide (i∈R):=⟨_,rfl⟩
 obtain ⟨B,hB⟩:∃ B,B=pN (z8 items).length (uZ items):=⟨_,rfl⟩
 obtain ⟨C,hC⟩:∃ C,C=pN (z8 items).length fun i=>ve (zg items i):=⟨_,rfl⟩
 obtain ⟨Z,hZ⟩:∃ Z,Z=pN (z8 items).length (uY items T):=⟨_,rfl⟩
 have lA:A.length<=60:=hA ▸ pl _
 have lB:B.length<=60:=hB ▸ pl _
 have lC:C.length<=60:=hC ▸ pl _
 have lZ:Z.length<=60:=hZ ▸ pl _
 rw [<- hA] at a1
 rw [<- hB] at a2
 rw [<- hC] at a3
 rw [<- hZ] at a4
 have es:=LH (n:=(z8 items).length) (by omega) (l:=A++B++C++Z) (by rw [List.length_append,List.length_append,List.length_append]; omega) (p:=ja items R T) fun i=>by
  rw [List.mem_append,List.mem_append,List.mem_append,hA,hB,hC,hZ,tz,tz,tz,tz]
  unfold ja
  rw [Bool.or_eq_true,Bool.or_eq_true,Bool.or_eq_true]
  constructor
  ·rintro (((⟨h,z⟩ | ⟨h,z⟩) | ⟨h,z⟩) | ⟨h,z⟩)
   ·exact ⟨h,.inl (.inl (.inl z))⟩
   ·exact ⟨h,.inl (.inl (.inr z))⟩
   ·exact ⟨h,.inl (.inr z)⟩
   ·exact ⟨h,.inr z⟩
  ·rintro ⟨h,((z | z) | z) | z⟩
   ·exact .inl (.inl (.inl ⟨h,z⟩))
   ·exact .inl (.inl (.inr ⟨h,z⟩))
   ·exact .inl (.inr ⟨h,z⟩)
   ·exact .inr ⟨h,z⟩
 have c1:∀ X Y:List Nat,X.length<=300->Y.length<=60->∀ F:List D->Option (Bool×D),F [.lst items]=some (true,.lst (zD Y))->xZ 1 (zQ F (zA (z6 0) zB)) [some (false,.lst items),some (true,.lst (zD X)),none]=some (.nx [some (false,.lst items),some (true,.lst (zD (X++Y))),none]):=fun X Y hX hY F hF=>by
  have:=VG (σ:=[some (false,.lst items),some (true,.lst (zD X)),none]) (i:=1) (f:=zQ F (zA (z6 0) zB)) (xs:=zD X) (ys:=zD Y) rfl (by
   show (F [.lst items]).bind _=_
   rw [hF]
   rfl) (by rw [tD,tD]; omega)
  rw [<- U2] at this
  exact this
 have lp:wr 2 [xZ 1 (zQ vY (zA (z6 0) zB)),xZ 1 (zQ va (zA (z6 0) zB)),xZ 1 (zQ vW (zA (z6 0) zB)),xZ 1 (zQ vX (zA (z6 0) zB))] [some (false,.lst items),some (true,.lst (zD [])),none]=some (.nx [some (false,.lst items),some (true,.lst (zD (A++B++C++Z))),none]):=by
  show (xZ 1 (zQ vY (zA (z6 0) zB)) [some (false,.lst items),some (true,.lst (zD [])),none]).bind _=_
  rw [c1 [] A (Nat.zero_le _) lA _ a1]
  show (xZ 1 (zQ va (zA (z6 0) zB)) [some (false,.lst items),some (true,.lst (zD ([]++A))),none]).bind _=_
  rw [c1 ([]++A) B (by rw [List.nil_append]; omega) lB _ a2]
  show (xZ 1 (zQ vW (zA (z6 0) zB)) [some (false,.lst items),some (true,.lst (zD ([]++A++B))),none]).bind _=_
  rw [c1 ([]++A++B) C (by rw [List.nil_append,List.length_append]; omega) lC _ a3]
  show (xZ 1 (zQ vX (zA (z6 0) zB)) [some (false,.lst items),some (true,.lst (zD ([]++A++B++C))),none]).bind _=_
  rw [c1 ([]++A++B++C) Z (by rw [List.nil_append,List.length_append,List.length_append]; omega) lZ _ a4,List.nil_append]
  rfl
 have lp:wr 2 [xZ 1 (zQ vY (zA (z6 0) zB)),xZ 1 (zQ va (zA (z6 0) zB)),xZ 1 (zQ vW (zA (z6 0) zB)),xZ 1 (zQ vX (zA (z6 0) zB))] [some (false,.lst items),some (true,.lst []),none]=some (.nx [some (false,.lst items),some (true,.lst (zD (A++B++C++Z))),none]):=lp
 rw [Bn]
 unfold YU
 generalize wr 2 _=LX at *
 generalize zD (A++B++C++Z)=ZZ at *
 generalize zD (pN (z8 items).length (ja items R T))=AA at *
 simp! [lp,es]
end L3
namespace L3
open PySem
def wb:D->Option Str
 | .tup [_,.str t]=>some t
 | _=>none
def ql (g:Str->Str):D->D
 | .tup [a,.str t]=>.tup [a,.str (g t)]
 | .tup [a,b,.str t]=>.tup [a,b,.str (g t)]
 | d=>d
theorem t5 {d:D} (h:yA d) (hj:zz d=true):∃ (hd:List D) (t:Str),d=.tup (hd++[.str t])/\hd≠[]/\hd.length<=2/\(∀ g,ql g d=.tup (hd++[.str (g t)]))/\(∀ u,yA (.tup (hd++[.str u]))/\zz (.tup (hd++[.str u]))=true/\zM (.tup (hd++[.str u]))=false)/\(∀ u,wb (.tup (hd++[.str u]))=(wb d).map fun _=>u):=by
 cases h with
 | label u=>cases hj
 | plain h=>
  obtain ⟨_,_,_,_,c,_⟩:=qj h
  rw [c] at hj
  cases hj
 | jump t=>exact ⟨[.str "jump"],t,rfl,by simp,by simp,fun _=>rfl,fun u=>⟨.jump u,rfl,rfl⟩,fun _=>rfl⟩
 | cond t hw hk=>
  rename_i w k
  exact ⟨[.str w,.str k],t,rfl,by simp,by simp,fun _=>rfl,fun u=>⟨.cond u hw hk,by rcases hw with rfl | rfl<;>rfl,by rcases hw with rfl | rfl<;>rfl⟩,fun _=>rfl⟩
theorem tf {hd:List D} {t u:Str} (h1:hd≠[]) (h2:hd.length<=2):kE (.tup (hd++[.str t])) none (some (-1))=some (.tup hd)/\zI (.tup (hd++[.str t])) (.int (-1))=some (.str t)/\yt (.tup hd) (.tup [.str u])=some (.tup (hd++[.str u])):=by
 match hd,h1,h2 with
 | [a],_,_=>exact ⟨rfl,rfl,rfl⟩
 | [a,b],_,_=>exact ⟨rfl,rfl,rfl⟩
 | [],h,_=>exact absurd rfl h
 | _::_::_::_,_,h=>simp at h
end L3
namespace L3
open PySem
section
variable (J:Nat->Option Str) (pl:Str->Nat)
inductive vJ:Nat->Str->List Nat->Option Str->Prop
 | stop {a:Str} {seen:List Nat}:J (pl a)=none->vJ 0 a seen (some a)
 | cyc {a r:Str} {seen:List Nat}:J (pl a)=some r->pl a∈seen->vJ 0 a seen none
 | go {a r:Str} {seen:List Nat} {k:Nat} {o:Option Str}:J (pl a)=some r->pl a ∉ seen->vJ k r (pl a::seen) o->vJ (k+1) a seen o
def v0:Nat->Str->Prop
 | 0,a=>J (pl a)=none
 | k+1,a=>∃ r,J (pl a)=some r/\v0 k r
inductive pC:Nat->Str->Str->Prop
 | refl {a:Str}:pC 0 a a
 | step {a r b:Str} {k:Nat}:J (pl a)=some r->pC k r b->pC (k+1) a b
end
section
variable {J:Nat->Option Str} {pl:Str->Nat}
theorem Oz:∀ {k k':Nat} {a:Str} {seen:List Nat} {o o':Option Str},vJ J pl k a seen o->vJ J pl k' a seen o'->o=o'
 | _,_,_,_,_,_,.stop _,.stop _=>rfl
 | _,_,_,_,_,_,.stop h,.cyc h' _=>by rw [h] at h'; cases h'
 | _,_,_,_,_,_,.stop h,.go h' _ _=>by rw [h] at h'; cases h'
 | _,_,_,_,_,_,.cyc h _,.stop h'=>by rw [h] at h'; cases h'
 | _,_,_,_,_,_,.cyc _ _,.cyc _ _=>rfl
 | _,_,_,_,_,_,.cyc _ m,.go _ m' _=>absurd m m'
 | _,_,_,_,_,_,.go h _ _,.stop h'=>by rw [h] at h'; cases h'
 | _,_,_,_,_,_,.go _ m _,.cyc _ m'=>absurd m' m
 | _,_,_,_,_,_,.go h _ r,.go h' _ r'=>by rw [h] at h'; cases h'; exact Oz r r'
theorem j0 {n:Nat} (hJ:∀ p r,J p=some r->p<n):∀ (m:Nat) (a:Str) (seen:List Nat),seen.Nodup->(∀ q∈seen,q<n)->n - seen.length<=m->∃ k o,k<=m/\vJ J pl k a seen o
 | m,a,seen,nd,hs,hm=>by
  cases h:J (pl a) with
  | none=>exact ⟨0,_,Nat.zero_le _,.stop h⟩
  | some r=>
   by_cases hi:pl a∈seen
   ·exact ⟨0,_,Nat.zero_le _,.cyc h hi⟩
   ·have hp:=hJ _ _ h
    have nd':(pl a::seen).Nodup:=List.nodup_cons.mpr ⟨hi,nd⟩
    have hs':∀ q∈pl a::seen,q<n:=fun q hq=>by
     rcases List.mem_cons.mp hq with rfl | hq
     ·exact hp
     ·exact hs q hq
    have:=Wy n nd' hs'
    rw [List.length_cons] at this
    match m,hm with
    | 0,hm=>omega
    | m+1,hm=>
     obtain ⟨k,o,hk,R⟩:=j0 hJ m r (pl a::seen) nd' hs' (by rw [List.length_cons]; omega)
     exact ⟨k+1,o,by omega,.go h hi R⟩
theorem W5:∀ {k:Nat} {a:Str} {seen:List Nat} {b:Str},vJ J pl k a seen (some b)->J (pl b)=none/\∃ j,v0 J pl j a
 | _,_,_,_,.stop h=>⟨h,0,h⟩
 | _,_,_,_,.go h _ r=>by
  obtain ⟨a,j,e⟩:=W5 r
  exact ⟨a,j+1,_,h,e⟩
theorem Qw:∀ {k k':Nat} {a:Str},v0 J pl k a->v0 J pl k' a->k=k'
 | 0,0,_,_,_=>rfl
 | 0,k'+1,_,h,⟨r,h',_⟩=>by rw [show J (pl _)=none from h] at h'; cases h'
 | k+1,0,_,⟨r,h,_⟩,h'=>by rw [show J (pl _)=none from h'] at h; cases h
 | k+1,k'+1,_,⟨r,h,e⟩,⟨r',h',e'⟩=>by
  rw [h] at h'
  cases h'
  rw [Qw e e']
theorem IB:∀ {m k:Nat} {a b:Str},pC J pl m a b->v0 J pl k a->∃ k',k'+m=k/\v0 J pl k' b
 | _,k,_,_,.refl,h=>⟨k,rfl,h⟩
 | _,0,_,_,.step h _,h'=>by rw [show J (pl _)=none from h'] at h; cases h
 | _,k+1,_,_,.step h l,⟨r,h',e⟩=>by
  rw [h] at h'
  cases h'
  obtain ⟨k',e1,e2⟩:=IB l e
  exact ⟨k',by omega,e2⟩
theorem BK {k:Nat} {a b:Str} (h:pl a=pl b) (e:v0 J pl k a):v0 J pl k b:=by
 cases k with
 | zero=>exact (congrArg J h).symm.trans e
 | succ k=>
  obtain ⟨r,h1,h2⟩:=e
  exact ⟨r,by rw [<- h]; exact h1,h2⟩
theorem IC:∀ {m:Nat} {a b r:Str},pC J pl m a b->J (pl b)=some r->pC J pl (m+1) a r
 | _,_,_,_,.refl,h=>.step h .refl
 | _,_,_,_,.step h l,h'=>.step h (IC l h')
theorem Ud:∀ {k:Nat} {a:Str} {seen:List Nat},vJ J pl k a seen none->(∀ q∈seen,∃ m r b,J q=some r/\pC J pl m r b/\pl b=pl a)->¬ ∃ j,v0 J pl j a
 | _,a,seen,.cyc h hi,inv=>fun ⟨j,e⟩=>by
  obtain ⟨m,r,b,hr,l,pb⟩:=inv _ hi
  match j,e with
  | 0,e=>rw [show J (pl a)=none from e] at hr; cases hr
  | j+1,⟨r',h',e'⟩=>
   rw [hr] at h'
   cases h'
   obtain ⟨k',e1,e2⟩:=IB l e'
   have:=Qw (BK pb e2) (show v0 J pl (j+1) a from ⟨r,hr,e'⟩)
   omega
 | _,a,seen,.go (r:=r) h hi R,inv=>fun ⟨j,e⟩=>by
  match j,e with
  | 0,e=>rw [show J (pl a)=none from e] at h; cases h
  | j+1,⟨r',h',e'⟩=>
   rw [h] at h'
   cases h'
   refine Ud R (fun q hq=>?_) ⟨j,e'⟩
   rcases List.mem_cons.mp hq with rfl | hq
   ·exact ⟨0,r,r,h,.refl,rfl⟩
   ·obtain ⟨m,r1,b,hr1,l,pb⟩:=inv q hq
    exact ⟨m+1,r1,r,hr1,IC l (by rw [pb]; exact h),rfl⟩
end
def wZ (J:Nat->Option Str) (pl:Str->Nat) (t:Str):Str:=open Classical in if h:∃ o k,vJ J pl k t [] o then (Classical.choose h).getD t else t
theorem pV {J:Nat->Option Str} {pl:Str->Nat} {t:Str} {k:Nat} {o:Option Str} (h:vJ J pl k t [] o):wZ J pl t=o.getD t:=by
 have ex:∃ o k,vJ J pl k t [] o:=⟨o,k,h⟩
 unfold wZ
 rw [dif_pos ex]
 obtain ⟨k',h'⟩:=Classical.choose_spec ex
 rw [Oz h' h]
theorem Fi {J:Nat->Option Str} {pl:Str->Nat} {n:Nat} (hJ:∀ p r,J p=some r->p<n) (t:Str) :
  wZ (fun p=>(J p).map (wZ J pl)) pl (wZ J pl t)=wZ J pl t:=by
 have hJ':∀ p r,(fun p=>(J p).map (wZ J pl)) p=some r->p<n:=fun p r h=>by
  cases e:J p with
  | none=>rw [show (fun p=>(J p).map (wZ J pl)) p=(J p).map (wZ J pl) from rfl,e] at h; cases h
  | some r'=>exact hJ p r' e
 obtain ⟨k,o,_,R⟩:=j0 (pl:=pl) hJ n t [] List.nodup_nil (fun _ h=>by cases h) (Nat.sub_le _ _)
 rw [pV R]
 cases o with
 | some b=>
  have h:=(W5 R).1
  exact pV (k:=0) (o:=some b) (.stop (by show (J (pl b)).map _=none; rw [h]; rfl))
 | none=>
  have ne:=Ud R (fun _ h=>by cases h)
  show wZ _ pl t=t
  have keep:∀ u,(¬ ∃ j,v0 J pl j u)->∃ r,J (pl u)=some r/\(¬ ∃ j,v0 J pl j r)/\wZ J pl r=r:=fun u hu=>by
   cases e:J (pl u) with
   | none=>exact absurd ⟨0,e⟩ hu
   | some r=>
    have hr:¬ ∃ j,v0 J pl j r:=fun ⟨j,z⟩=>hu ⟨j+1,r,e,z⟩
    refine ⟨r,rfl,hr,?_⟩
    obtain ⟨k',o',_,R'⟩:=j0 (pl:=pl) hJ n r [] List.nodup_nil (fun _ h=>by cases h) (Nat.sub_le _ _)
    rw [pV R']
    cases o' with
    | none=>rfl
    | some b=>exact absurd (W5 R').2 hr
  have same:∀ {k':Nat} {u:Str} {seen:List Nat} {o':Option Str},vJ (fun p=>(J p).map (wZ J pl)) pl k' u seen o'->(¬ ∃ j,v0 J pl j u)->o'=none:=fun {k'}=>by
   induction k' with
   | zero=>
    intro u seen o' R' hu
    obtain ⟨r,hr,_,_⟩:=keep u hu
    cases R' with
    | stop h=>
     have h:(J (pl u)).map (wZ J pl)=none:=h
     rw [hr] at h
     cases h
    | cyc _ _=>rfl
   | succ k' ih=>
    intro u seen o' R' hu
    obtain ⟨r,hr,hn,hl⟩:=keep u hu
    cases R' with
    | go h _ R2=>
     have h:(J (pl u)).map (wZ J pl)=some _:=h
     rw [hr,Option.map_some,hl] at h
     cases h
     exact ih R2 hn
  obtain ⟨k',o',_,R'⟩:=j0 (pl:=pl) hJ' n t [] List.nodup_nil (fun _ h=>by cases h) (Nat.sub_le _ _)
  rw [pV R',same R' ne]
  rfl
end L3
namespace L3
open PySem
theorem UP {t:Str}:∀ {L:List D} (s:Nat×Option Nat),yg t∈L\/s.2.isSome=true->((L.foldl (wS t) s).2).isSome=true
 | [],s,h=>h.elim (fun z=>by cases z) id
 | d::L,s,h=>by
  rw [List.foldl_cons]
  refine UP _ ?_
  rcases h with h | h
  ·rcases List.mem_cons.mp h with rfl | h
   ·refine .inr ?_
    have:ku t (yg t)=true:=beq_self_eq_true t
    unfold wS
    rw [show zM (yg t)=true from rfl]
    dsimp only
    rw [this]
    rfl
   ·exact .inl h
  ·refine .inr ?_
   unfold wS
   cases zM d with
   | true=>
    dsimp only
    cases ku t d with
    | true=>rfl
    | false=>exact h
   | false=>exact h
theorem Nl {items:List D} (h:∀ d∈items,yA d) {t:Str} {p:Nat} (e:(yh t items).2=some p):yg t∈items:=by
 apply Classical.byContradiction
 intro hn
 have:=IX (t:=t) (L:=items) (s:=(0,none)) fun d hd=>by
  cases ht:kP t d with
  | false=>rfl
  | true=>exact absurd (Dk (h d hd) ht ▸ hd) hn
 unfold yh at e
 rw [this] at e
 cases e
end L3
namespace L3
open PySem
def Yi:FS:=
 (yH (g_ (e2 (v8 fun i j=>decide (i<j)) (z6 1) (eL yy (zA (z6 0) zB))) (e2 zj (e2 zI (e2 zI (z6 0) (z6 1)) (eC (.int 0))) (eC (.str "jump")))))
def jM:List D->Option (Bool×D):=FR 2 2 Yi
theorem KR:∀ ds r,jM ds=some r->ds.length=2/\za 2 Yi ds=some r:=yb
theorem B_ (x0 x1:D):jM [x0,x1]=za 2 Yi [x0,x1]:=rfl
def qe:FS:=(zE (yB (tE (e2 yJ (e2 zI (z6 2) (z6 4)) (wo 3)))
     (yH (z6 0))
     yK)
    (zE (j2 3 (e2 zI (z6 2) (z6 4)) (eC (.bl true)))
    (zU 4 (e2 zI (e2 zI (z6 1) (e2 zI (z6 2) (z6 4))) (e1 tY (eC (.int 1)))))))
def qS:FT:=(tE (zQ jM (zA (z6 1) (zA (e2 zI (z6 2) (z6 4)) zB))))
def Yc:FS:=
 (zE (wV 3 (eC (.dic [] [])))
  (zE (zU 4 (z6 0))
  (zE (tJ qS
   qe)
  (zE (vi 3) (yH (z6 4))))))
def jG:List D->Option (Bool×D):=FR 3 5 Yc
theorem KF:∀ ds r,jG ds=some r->ds.length=3/\za 5 Yc ds=some r:=yb
theorem Bu (x0 x1 x2:D):jG [x0,x1,x2]=za 5 Yc [x0,x1,x2]:=rfl
def Tc:FE:=(pJ (tE (zQ uB (zA (z6 3) zB))) (e2 yt (vq (z6 3) v_ (u7 (e1 tY (eC (.int 1))))) (xK (zA (zQ jG (zA (e2 zI (z6 3) (e1 tY (eC (.int 1)))) (zA (z6 1) (zA (z6 2) zB)))) zB))) (z6 3))
def Yj:FS:=
 (zE (zU 1 (zQ xO (zA (z6 0) zB)))
  (zE (zU 2 (zQ uP (zA (z6 0) zB)))
  (w8 (xJ 1 (x_ (z6 0)) (zn 3) xM Tc))))
def uD:List D->Option (Bool×D):=FR 1 3 Yj
theorem KS:∀ ds r,uD ds=some r->ds.length=1/\za 3 Yj ds=some r:=yb
theorem DA (x0:D):uD [x0]=za 3 Yj [x0]:=rfl
def jn (rows:List D) (p:Nat):Option Str:=match rows[p]? with
 | some (.tup [_,.str t])=>some t
 | _=>none
theorem qc (rows:List D) (p:Nat):jn rows p=(rows[p]?).bind wb:=by
 unfold jn
 cases e:rows[p]? with
 | none=>rfl
 | some d=>
  show (match some d with | some (.tup [_,.str t])=>some t | _=>none)=wb d
  unfold wb
  split<;>rename_i h
  ·cases h
   rfl
  ·split
   ·rename_i a b
    exact absurd rfl (h _ _)
   ·rfl
theorem W3 {d:D} (h:yA d) (hl:zM d=false):∃ w,zI d (.int 0)=some (.str w)/\zj (.str w) (.str "jump")=some (.bl (wb d).isSome)/\∀ t,wb d=some t->d=.tup [.str "jump",.str t]:=by
 cases h with
 | label u=>cases hl
 | plain h=>cases h with
  | stop=>exact ⟨_,rfl,rfl,fun t z=>by cases z⟩
  | imm hw=>rcases hw with rfl | rfl<;>exact ⟨_,rfl,rfl,fun t z=>by cases z⟩
  | two hw=>rcases hw with rfl | rfl | rfl | rfl | rfl | rfl | rfl | rfl | rfl<;>exact ⟨_,rfl,rfl,fun t z=>by cases z⟩
  | mov hw=>rcases hw with rfl | rfl<;>exact ⟨_,rfl,rfl,fun t z=>by cases z⟩
  | mem hw=>rcases hw with rfl | rfl | rfl | rfl<;>exact ⟨_,rfl,rfl,fun t z=>by cases z⟩
 | jump u=>exact ⟨_,rfl,rfl,fun t z=>by cases z; rfl⟩
 | cond u hw hk=>rcases hw with rfl | rfl<;>exact ⟨_,rfl,rfl,fun t z=>by cases z⟩
def yZ (items:List D) (t:Str):Nat:=((yh t items).2).getD 0
def tR (items:List D) (t:Str):Prop:=∃ p,(yh t items).2=some p
theorem Fe {items:List D} {t:Str} (h:tR items t):(yh t items).2=some (yZ items t):=by
 obtain ⟨p,e⟩:=h
 unfold yZ
 rw [e]
 rfl
theorem Ub {items:List D} (P:PC items) {p:Nat} {d:D} (h:(z8 items)[p]?=some d):d∈items/\yA d/\zM d=false:=by
 have:=List.mem_filter.mp (List.mem_of_getElem? h)
 exact ⟨this.1,P.it d this.1,by simpa using this.2⟩
theorem jc {items:List D} (P:PC items) {p:Nat} {r:Str} (h:jn (z8 items) p=some r):(z8 items)[p]?=some (.tup [.str "jump",.str r])/\tR items r/\p<(z8 items).length:=by
 rw [qc] at h
 cases e:(z8 items)[p]? with
 | none=>rw [e] at h; cases h
 | some d=>
  rw [e] at h
  obtain ⟨m,hi,hl⟩:=Ub P e
  obtain ⟨w,a,b,c⟩:=W3 hi hl
  have ed:=c r h
  subst ed
  refine ⟨rfl,?_,(List.getElem?_eq_some_iff.mp e).1⟩
  obtain ⟨t,q,e1,e2⟩:=P.tg _ m rfl
  cases e1
  exact ⟨q,e2⟩
theorem ID {items:List D} (P:PC items) (p:Nat):jM [.lst (z8 items),.int (p:Int)]=some (false,.bl (jn (z8 items) p).isSome):=by
 rw [B_]
 unfold Yi
 by_cases h:p<(z8 items).length
 ·have c:decide ((p:Int)<((z8 items).length:Int))=true:=decide_eq_true (by omega)
  have e:(z8 items)[p]?=some (z8 items)[p]:=List.getElem?_eq_getElem h
  obtain ⟨_,hi,hl⟩:=Ub P e
  obtain ⟨w,a,b,_⟩:=W3 hi hl
  have ix:zI (.lst (z8 items)) (.int (p:Int))=some (z8 items)[p]:=vp (by omega) (by rw [Int.toNat_natCast]; exact e)
  have ej:jn (z8 items) p=wb (z8 items)[p]:=by rw [qc,e]; rfl
  rw [ej]
  generalize (z8 items)[p]=d at *
  generalize z8 items=RR at *
  simp! [c,ix,a,b]
 ·have c:decide ((p:Int)<((z8 items).length:Int))=false:=decide_eq_false (by omega)
  have ej:jn (z8 items) p=none:=by rw [qc,List.getElem?_eq_none (by omega)]; rfl
  rw [ej]
  generalize z8 items=RR at *
  simp! [c]
  rfl
theorem Fk {items:List D} (P:PC items) {ks:List (Sum Int Str)} {vs:List D} (hk:∀ t,getK ks vs (.inr t)=((yh t items).2).map fun n:Nat=>D.int n) (name:Str) :
  ∀ {k:Nat} {a:Str} {seen:List Nat} {o:Option Str},vJ (jn (z8 items)) (yZ items) k a seen o->tR items a->∀ (K:List (Sum Int Str)) (V:List D),K.length=V.length->K.length+k<=1000->(∀ q:Nat,yI K (.inl (q:Int))=decide (q∈seen))->
  (∃ b K' V',o=some b/\wJ qS qe (k+1) [some (false,.str name),some (false,.lst (z8 items)),some (false,.dic ks vs),some (true,.dic K V),some (false,.str a)]=some (.nx [some (false,.str name),some (false,.lst (z8 items)),some (false,.dic ks vs),some (true,.dic K' V'),some (false,.str b)])) \/
  (o=none/\wJ qS qe (k+1) [some (false,.str name),some (false,.lst (z8 items)),some (false,.dic ks vs),some (true,.dic K V),some (false,.str a)]=some (.rt false (.str name))):=by
 have ix:∀ {a:Str},tR items a->zI (.dic ks vs) (.str a)=some (.int (yZ items a:Nat)):=fun {a} h=>by
  show getK ks vs (.inr a)=_
  rw [hk,Fe h]
  rfl
 intro k
 induction k with
 | zero=>
  intro a seen o R ka K V l1 l2 inv
  have i1:=ix ka
  have lf:=ID P (yZ items a)
  cases R with
  | stop h=>
   refine .inl ⟨a,K,V,rfl,?_⟩
   rw [h] at lf
   rw [jB]
   unfold qS
   generalize z8 items=RR at *
   simp! [i1,lf]
   rfl
  | cyc h hi=>
   refine .inr ⟨rfl,?_⟩
   rw [h] at lf
   have hin:yJ (.int (yZ items a:Nat)) (.dic K V)=some (.bl true):=by
    show (some (yI K (.inl ((yZ items a:Nat):Int)))).bind _=_
    rw [inv,decide_eq_true hi]
    rfl
   unfold wJ
   have ec:qS [some (false,.str name),some (false,.lst (z8 items)),some (false,.dic ks vs),some (true,.dic K V),some (false,.str a)]=some true:=by
    unfold qS
    generalize z8 items=RR at *
    simp! [i1,lf]
    rfl
   have eb:qe [some (false,.str name),some (false,.lst (z8 items)),some (false,.dic ks vs),some (true,.dic K V),some (false,.str a)]=some (.rt false (.str name)):=by
    unfold qe
    generalize z8 items=RR at *
    simp! [i1,hin]
   rw [ec]
   show (qe _).bind _=_
   rw [eb]
   rfl
 | succ k ih=>
  intro a seen o R ka K V l1 l2 inv
  have i1:=ix ka
  have lf:=ID P (yZ items a)
  cases R with
  | go h hi R=>
   rename_i r
   obtain ⟨er,kr,hp⟩:=jc P h
   rw [h] at lf
   have hin:yJ (.int (yZ items a:Nat)) (.dic K V)=some (.bl false):=by
    show (some (yI K (.inl ((yZ items a:Nat):Int)))).bind _=_
    rw [inv,decide_eq_false hi]
    rfl
   have ir:zI (.lst (z8 items)) (.int (yZ items a:Nat))=some (.tup [.str "jump",.str r]):=vp (by omega) (by rw [Int.toNat_natCast]; exact er)
   have il:zI (.tup [.str "jump",.str r]) (.int (-1))=some (.str r):=rfl
   have kd:uK (.int (yZ items a:Nat))=some (.inl ((yZ items a:Nat):Int)):=rfl
   have lim:K.length<zy:=by show _<16777216; omega
   have ec:qS [some (false,.str name),some (false,.lst (z8 items)),some (false,.dic ks vs),some (true,.dic K V),some (false,.str a)]=some true:=by
    unfold qS
    generalize z8 items=RR at *
    simp! [i1,lf]
    rfl
   have eb:qe [some (false,.str name),some (false,.lst (z8 items)),some (false,.dic ks vs),some (true,.dic K V),some (false,.str a)]=some (.nx [some (false,.str name),some (false,.lst (z8 items)),some (false,.dic ks vs),some (true,.dic (xY K (.inl ((yZ items a:Nat):Int))) (xj K V (.inl ((yZ items a:Nat):Int)) (.bl true))),some (false,.str r)]):=by
    unfold qe
    generalize z8 items=RR at *
    simp! [i1,hin,j2,kd,if_pos lim,ir,il]
   have:=ih R kr (xY K (.inl ((yZ items a:Nat):Int))) (xj K V (.inl ((yZ items a:Nat):Int)) (.bl true)) (pq l1) (by
    have:(xY K (.inl ((yZ items a:Nat):Int))).length<=K.length+1:=by
     unfold xY
     split
     ·omega
     ·rw [List.length_append]; exact Nat.le_refl _
    omega) fun q=>by
    rw [JI,inv]
    by_cases e:q=yZ items a
    ·subst e
     rw [decide_eq_true (p:=(Sum.inl ((yZ items a:Nat):Int):Sum Int Str)=Sum.inl ((yZ items a:Nat):Int)) rfl,Bool.or_true,decide_eq_true (List.mem_cons_self ..)]
    ·rw [decide_eq_false (p:=(Sum.inl ((yZ items a:Nat):Int):Sum Int Str)=Sum.inl (q:Int)) (fun z=>e (by have:=Sum.inl.inj z; omega)),Bool.or_false]
     refine decide_eq_decide.mpr ⟨fun z=>List.mem_cons_of_mem _ z,fun z=>?_⟩
     rcases List.mem_cons.mp z with z | z
     ·exact absurd z e
     ·exact z
   rw [gM ec eb]
   exact this
theorem Fj {items:List D} (P:PC items) {ks:List (Sum Int Str)} {vs:List D} (hk:∀ t,getK ks vs (.inr t)=((yh t items).2).map fun n:Nat=>D.int n) {t:Str} (ht:tR items t) :
  jG [.str t,.lst (z8 items),.dic ks vs]=some (false,.str (wZ (jn (z8 items)) (yZ items) t)):=by
 have rl:(z8 items).length<=100:=Nat.le_trans (List.length_filter_le _ _) P.ln
 obtain ⟨k,o,hk2,R⟩:=j0 (J:=jn (z8 items)) (pl:=yZ items) (n:=(z8 items).length) (fun p r h=>(jc P h).2.2) (z8 items).length t [] List.nodup_nil (fun _ h=>by cases h) (Nat.sub_le _ _)
 rw [pV R,Bu]
 unfold Yc
 rcases Fk P hk t R ht [] [] rfl (by show 0+k<=_; omega) (fun q=>rfl) with ⟨b,K',V',rfl,e⟩ | ⟨rfl,e⟩
 ·have e2:=j3 _ e (Nat.le_trans (show k+1<=101 by omega) (by decide))
  generalize z8 items=RR at *
  simp! [e2]
  rfl
 ·have e2:=j3 _ e (Nat.le_trans (show k+1<=101 by omega) (by decide))
  generalize z8 items=RR at *
  simp! [e2]
  rfl
def xQ (items:List D) (t:Str):Str:=wZ (jn (z8 items)) (yZ items) t
def yP (items:List D) (d:D):D:=match zz d with
 | true=>ql (xQ items) d
 | false=>d
theorem IF {items:List D} (P:PC items):uD [.lst items]=some (true,.lst (items.map (yP items))):=by
 obtain ⟨ks,vs,e1,hk⟩:=Jt P.it (by have:=P.ln; omega)
 have e2:=qm P.it
 have e3:=qf (g:=zn 3) (e:=Tc) (σ:=[some (false,.lst items),some (false,.lst (z8 items)),some (false,.dic ks vs),none]) (yP items) (ds:=items) fun d hd=>by
  have hj:=XN (P.it d hd)
  refine ⟨_,rfl,?_⟩
  unfold Tc yP
  cases z:zz d with
  | false=>
   rw [z] at hj
   generalize z8 items=RR at *
   simp! [hj]
  | true=>
   rw [z] at hj
   obtain ⟨t0,p,q1,q2⟩:=P.tg d hd z
   obtain ⟨hd',t,ed,n1,n2,rl,_,_⟩:=t5 (P.it d hd) z
   obtain ⟨p1,p2,p3⟩:=tf (t:=t) (u:=xQ items t) n1 n2
   rw [rl]
   subst ed
   rw [p2] at q1
   injection q1 with q1
   injection q1 with q1
   subst q1
   have lf:=Fj P hk ⟨p,q2⟩
   unfold xQ at *
   generalize wZ (jn (z8 items)) (yZ items) t=u at *
   generalize z8 items=RR at *
   generalize hd'++[D.str t]=dd at *
   simp! [hj,vq,u7,v_,p1,p2,lf,p3]
 rw [DA]
 unfold Yj
 generalize items.map (yP items)=LL at *
 have e2:xO [.lst items]=some (true,.lst (z8 items)):=e2
 generalize z8 items=RR at *
 simp! [e2,e1,e3]
theorem Je {f:D->D} (t:Str):∀ {L:List D} (s:Nat×Option Nat),(∀ d∈L,zM (f d)=zM d/\(zM d=true->f d=d))->(L.map f).foldl (wS t) s=L.foldl (wS t) s
 | [],_,_=>rfl
 | d::L,s,h=>by
  rw [List.map_cons,List.foldl_cons,List.foldl_cons,Je t _ fun x hx=>h x (List.mem_cons_of_mem _ hx)]
  obtain ⟨a,b⟩:=h d (List.mem_cons_self ..)
  congr 1
  unfold wS
  rw [a]
  cases hl:zM d with
  | true=>rw [b hl]
  | false=>rfl
theorem Jd {f:D->D}:∀ {L:List D},(∀ d∈L,zM (f d)=zM d/\(zM d=true->f d=d))->(L.map f).filter zM=L.filter zM
 | [],_=>rfl
 | d::L,h=>by
  obtain ⟨a,b⟩:=h d (List.mem_cons_self ..)
  have ih:=Jd fun x hx=>h x (List.mem_cons_of_mem _ hx)
  rw [List.map_cons]
  cases hl:zM d with
  | true=>rw [List.filter_cons_of_pos (by rw [a]; exact hl),List.filter_cons_of_pos hl,ih,b hl]
  | false=>rw [List.filter_cons_of_neg (by rw [a,hl]; decide),List.filter_cons_of_neg (by rw [hl]; decide),ih]
theorem Jf {f:D->D}:∀ {L:List D},(∀ d∈L,zM (f d)=zM d)->(L.map f).filter (fun d=>!zM d)=(L.filter fun d=>!zM d).map f
 | [],_=>rfl
 | d::L,h=>by
  have a:=h d (List.mem_cons_self ..)
  have ih:=Jf fun x hx=>h x (List.mem_cons_of_mem _ hx)
  rw [List.map_cons]
  cases hl:zM d with
  | true=>rw [List.filter_cons_of_neg (by rw [a,hl]; decide),List.filter_cons_of_neg (by rw [hl]; decide),ih]
  | false=>rw [List.filter_cons_of_pos (by rw [a,hl]; rfl),List.filter_cons_of_pos (by rw [hl]; rfl),ih,List.map_cons]
theorem IE {items:List D} (P:PC items):∀ d∈items,yA (yP items d)/\zz (yP items d)=zz d/\zM (yP items d)=zM d/\(zM d=true->yP items d=d)/\wb (yP items d)=(if zz d=true then (wb d).map (xQ items) else wb d):=fun d hd=>by
 unfold yP
 cases z:zz d with
 | false=>exact ⟨P.it d hd,z,rfl,fun _=>rfl,by rw [if_neg Bool.false_ne_true]⟩
 | true=>
  obtain ⟨hd',t,ed,n1,n2,rl,it,nj⟩:=t5 (P.it d hd) z
  show yA (ql (xQ items) d)/\_
  rw [rl,if_pos rfl,nj]
  have l0:zM d=false:=by rw [ed]; exact (it t).2.2
  refine ⟨(it _).1,(it _).2.1,by rw [l0]; exact (it _).2.2,(fun y=>by rw [l0] at y; cases y),?_⟩
  have:=nj t
  rw [<- ed] at this
  cases e:wb d with
  | none=>rfl
  | some u=>
   rw [e] at this
   have hu:u=t:=Option.some.inj this
   rw [hu]
   rfl
theorem Fd {items:List D} (P:PC items) {t:Str} (ht:tR items t):tR items (xQ items t):=by
 obtain ⟨k,o,_,R⟩:=j0 (J:=jn (z8 items)) (pl:=yZ items) (n:=(z8 items).length) (fun p r h=>(jc P h).2.2) (z8 items).length t [] List.nodup_nil (fun _ h=>by cases h) (Nat.sub_le _ _)
 unfold xQ
 rw [pV R]
 have go:∀ {k:Nat} {a:Str} {seen:List Nat} {b:Str},vJ (jn (z8 items)) (yZ items) k a seen (some b)->tR items a->tR items b:=fun {k}=>by
  induction k with
  | zero=>intro a seen b R h; cases R; exact h
  | succ k ih=>
   intro a seen b R h
   cases R with
   | go e _ R=>exact ih R (jc P e).2.1
 cases o with
 | none=>exact ht
 | some b=>exact go R ht
theorem kY {items:List D} (P:PC items):PC (items.map (yP items))/\(∀ t,yh t (items.map (yP items))=yh t items)/\z8 (items.map (yP items))=(z8 items).map (yP items):=by
 have kp:=IE P
 have pk:∀ t,yh t (items.map (yP items))=yh t items:=fun t=>Je t _ fun d hd=>⟨(kp d hd).2.2.1,(kp d hd).2.2.2.1⟩
 refine ⟨⟨fun d hd=>?_,?_,fun d hd hj=>?_,by rw [List.length_map]; exact P.ln⟩,pk,Jf fun d hd=>(kp d hd).2.2.1⟩
 ·obtain ⟨x,hx,rfl⟩:=List.mem_map.mp hd
  exact (kp x hx).1
 ·rw [Jd fun d hd=>⟨(kp d hd).2.2.1,(kp d hd).2.2.2.1⟩]
  exact P.nd
 ·obtain ⟨x,hx,rfl⟩:=List.mem_map.mp hd
  have hjx:=hj
  rw [(kp x hx).2.1] at hjx
  obtain ⟨t0,p,q1,q2⟩:=P.tg x hx hjx
  obtain ⟨hd',t,ed,n1,n2,rl,_,_⟩:=t5 (P.it x hx) hjx
  have e:yP items x=.tup (hd'++[.str (xQ items t)]):=by
   unfold yP
   rw [hjx]
   exact rl _
  obtain ⟨_,p2,_⟩:=tf (t:=t) (u:=t) n1 n2
  rw [ed,p2] at q1
  injection q1 with q1
  injection q1 with q1
  subst q1
  obtain ⟨q,eq⟩:=Fd P ⟨p,q2⟩
  refine ⟨xQ items t,q,?_,by rw [pk]; exact eq⟩
  rw [e]
  exact (tf (t:=xQ items t) (u:=t) n1 n2).2.1
theorem Ft {items:List D} (P:PC items):(items.map (yP items)).map (yP (items.map (yP items)))=items.map (yP items):=by
 obtain ⟨P',pk,rk⟩:=kY P
 have kp:=IE P
 have epl:yZ (items.map (yP items))=yZ items:=funext fun t=>by unfold yZ; rw [pk]
 have ej:jn (z8 (items.map (yP items)))=fun p=>(jn (z8 items) p).map (xQ items):=funext fun p=>by
  rw [qc,rk,List.getElem?_map]
  show _=(jn (z8 items) p).map (xQ items)
  rw [qc]
  cases e:(z8 items)[p]? with
  | none=>rfl
  | some d=>
   show wb (yP items d)=(wb d).map (xQ items)
   obtain ⟨m,hi,hl⟩:=Ub P e
   rw [(kp d m).2.2.2.2]
   cases hj:zz d with
   | true=>rw [if_pos rfl]
   | false=>
    rw [if_neg Bool.false_ne_true]
    cases en:wb d with
    | none=>rfl
    | some u=>
     obtain ⟨_,_,_,c⟩:=W3 hi hl
     have:=c u en
     subst this
     cases hj
 have la:∀ t,xQ (items.map (yP items)) (xQ items t)=xQ items t:=fun t=>by
  show wZ (jn (z8 (items.map (yP items)))) (yZ (items.map (yP items))) (xQ items t)=_
  rw [epl,ej]
  exact Fi (n:=(z8 items).length) (fun p r h=>(jc P h).2.2) t
 rw [List.map_map]
 refine List.map_congr_left fun d hd=>?_
 show yP (items.map (yP items)) (yP items d)=yP items d
 cases hj:zz d with
 | false=>
  have e:yP items d=d:=by unfold yP; rw [hj]
  rw [e]
  unfold yP
  rw [hj]
 | true=>
  obtain ⟨hd',t,ed,n1,n2,rl,it,_⟩:=t5 (P.it d hd) hj
  have e:yP items d=.tup (hd'++[.str (xQ items t)]):=by
   unfold yP
   rw [hj]
   exact rl _
  rw [e]
  obtain ⟨hd2,t2,ed2,m1,m2,rl2,_,_⟩:=t5 (it (xQ items t)).1 (it (xQ items t)).2.1
  have e2:yP (items.map (yP items)) (.tup (hd'++[.str (xQ items t)]))=.tup (hd2++[.str (xQ (items.map (yP items)) t2)]):=by
   unfold yP
   rw [(it (xQ items t)).2.1]
   exact rl2 _
  have ee:=D.tup.inj ed2
  obtain ⟨e3,e4⟩:=List.append_inj' ee rfl
  have e5:xQ items t=t2:=by injection e4 with z _; injection z
  rw [e2,<- e5,la,e3]
end L3
namespace L3
open PySem
def Th:FE:=(xK (zA (z6 6) (zA (eC (.bl true)) zB)))
def Vr:FS:=(yB (tE (zQ uC (zA (z6 5) zB)))
     (wN 4 wE (z6 5))
     (zE (yB (tE (e2 qW (z6 3) (z6 2)))
       (wN 4 wE (z6 5))
       yK)
      (zU 3 (e2 (wY fun i j=>i+j) (z6 3) (eC (.int 1))))))
def Yy:FS:=
 (zE (zU 2 (eL pL (zA (xJ 1 (x_ (z6 1)) (zn 6) xM Th) zB)))
  (zE (wV 4 (y_ zB))
  (zE (zU 3 (eC (.int 0)))
  (zE (qo (x_ (z6 0)) (zn 5)
   Vr)
  (qA 4)))))
def pA:List D->Option (Bool×D):=FR 2 6 Yy
theorem Kq:∀ ds r,pA ds=some r->ds.length=2/\za 6 Yy ds=some r:=yb
theorem DQ (x0 x1:D):pA [x0,x1]=za 6 Yy [x0,x1]:=rfl
def xv (qs:List Nat) (s:Nat×List D) (d:D):Nat×List D:=match zM d with
 | true=>(s.1,s.2++[d])
 | false=>(s.1+1,if s.1∈qs then s.2 else s.2++[d])
def xt (qs:List Nat) (L:List D):Nat×List D:=L.foldl (xv qs) (0,[])
theorem Dz (qs:List Nat) (L:List D) (d:D):xt qs (L++[d])=xv qs (xt qs L) d:=by
 unfold xt
 rw [List.foldl_append]
 rfl
theorem Vm (qs:List Nat):∀ (L:List D) (s:Nat×List D),(L.foldl (xv qs) s).2.length<=s.2.length+L.length
 | [],s=>Nat.le_refl _
 | d::L,s=>by
  rw [List.foldl_cons]
  have h:=Vm qs L (xv qs s d)
  have:(xv qs s d).2.length<=s.2.length+1:=by
   unfold xv
   cases zM d with
   | true=>show (s.2++[d]).length<=_; rw [List.length_append]; exact Nat.le_refl _
   | false=>
    show (if s.1∈qs then s.2 else s.2++[d]).length<=_
    split
    ·omega
    ·rw [List.length_append]; exact Nat.le_refl _
  rw [List.length_cons]
  omega
theorem Jh (qs:List Nat):∀ (L:List D) (s:Nat×List D),∀ x∈(L.foldl (xv qs) s).2,x∈s.2\/x∈L
 | [],s,x,h=>.inl h
 | d::L,s,x,h=>by
  rw [List.foldl_cons] at h
  rcases Jh qs L _ x h with h | h
  ·have:x∈s.2\/x=d:=by
    unfold xv at h
    cases hl:zM d with
    | true=>
     rw [hl] at h
     rcases List.mem_append.mp h with h | h
     ·exact .inl h
     ·exact .inr (List.mem_singleton.mp h)
    | false=>
     rw [hl] at h
     have h:x∈(if s.1∈qs then s.2 else s.2++[d]):=h
     split at h
     ·exact .inl h
     ·rcases List.mem_append.mp h with h | h
      ·exact .inl h
      ·exact .inr (List.mem_singleton.mp h)
   rcases this with h | h
   ·exact .inl h
   ·exact .inr (h ▸ List.mem_cons_self ..)
  ·exact .inr (List.mem_cons_of_mem _ h)
theorem RD {items:List D} (h:∀ d∈items,yA d) (hl:items.length<=100) (qs:List Nat):pA [.lst items,.lst (zD qs)]=some (true,.lst (xt qs items).2):=by
 have e1:xi (zn 6) xM Th [some (false,.lst items),some (false,.lst (zD qs)),none,none,none,none,none] (zD qs)=some (qs.map fun i:Nat=>D.tup [.int i,.bl true]):=by
  have:=qf (g:=zn 6) (e:=Th) (σ:=[some (false,.lst items),some (false,.lst (zD qs)),none,none,none,none,none]) (fun d=>.tup [d,.bl true]) (ds:=zD qs) fun d hd=>⟨_,rfl,rfl⟩
  rw [this]
  unfold zD
  rw [List.map_map]
  rfl
 obtain ⟨K,V,e2,hK⟩:=Qn qs
 obtain ⟨σ',e3,x5,rfl⟩:=pW (g:=zn 5) (b:=Vr) (fun i σ=>∃ x5,σ=[some (false,.lst items),some (false,.lst (zD qs)),some (false,.dic K V),some (false,.int (((xt qs (items.take i)).1:Nat):Int)),some (true,.lst (xt qs (items.take i)).2),x5]) (ds:=items)
  (σ:=[some (false,.lst items),some (false,.lst (zD qs)),some (false,.dic K V),some (false,.int 0),some (true,.lst []),none]) 0 ⟨none,rfl⟩ (by
  rintro i v σ hv ⟨x5,rfl⟩
  rw [Nat.zero_add] at *
  have hi:i<items.length:=(List.getElem?_eq_some_iff.mp hv).1
  have ev:items[i]=v:=(List.getElem?_eq_some_iff.mp hv).2
  have ht:items.take (i+1)=items.take i++[v]:=by rw [List.take_succ_eq_append_getElem hi,ev]
  have hf:=XO (h v (List.mem_of_getElem? hv))
  have ll:=Vm qs (items.take i) (0,[])
  have lt:(items.take i).length<=100:=by rw [List.length_take]; omega
  have hni:qW (.int (((xt qs (items.take i)).1:Nat):Int)) (.dic K V)=some (.bl (!decide ((xt qs (items.take i)).1∈qs))):=by
   show (some (yI K (.inl _))).bind _=_
   rw [hK]
   rfl
  have hap:=tV (L:=(xt qs (items.take i)).2) (r:=v) (by have:(xt qs (items.take i)).2.length<=0+(items.take i).length:=ll; omega)
  refine ⟨_,[some (false,.lst items),some (false,.lst (zD qs)),some (false,.dic K V),some (false,.int (((xt qs (items.take (i+1))).1:Nat):Int)),some (true,.lst (xt qs (items.take (i+1))).2),some (false,v)],rfl,.inl ?_,_,rfl⟩
  rw [ht,Dz]
  generalize xt qs (items.take i)=s at *
  unfold Vr xv
  cases hL:zM v with
  | true=>
   rw [hL] at hf
   simp! [hf,hap]
  | false=>
   rw [hL] at hf
   by_cases hm:s.1∈qs
   ·rw [decide_eq_true hm] at hni
    simp! [hf,hni,Bool.not_true,if_pos hm]
    rfl
   ·rw [decide_eq_false hm] at hni
    simp! [hf,hni,Bool.not_false,hap,if_neg hm]
    rfl)
 rw [Nat.zero_add,List.take_length] at e3
 rw [DQ]
 unfold Yy
 generalize zD qs=QQ at *
 simp! [e1,e2,e3]
end L3
namespace L3
open PySem
def pU:FS:=(zE (zU 1 (e2 yt (e2 zI (eC (.str "abcdefghijklmnopqrstuvwxyz")) (e2 ym (e2 XB (z6 2) (eC (.int 1))) (eL yy (zA (eC (.str "abcdefghijklmnopqrstuvwxyz")) zB)))) (z6 1)))
    (zU 2 (e2 wG (e2 XB (z6 2) (eC (.int 1))) (eL yy (zA (eC (.str "abcdefghijklmnopqrstuvwxyz")) zB)))))
def pH:FT:=(tE (e2 (v8 fun i j=>decide (j<i)) (z6 2) (eC (.int 0))))
def Yk:FS:=
 (zE (zU 1 (eC (.str "")))
  (zE (zU 2 (e2 yt (z6 0) (eC (.int 1))))
  (zE (tJ pH
   pU)
  (yH (z6 1)))))
def p9:List D->Option (Bool×D):=FR 1 3 Yk
theorem KY:∀ ds r,p9 ds=some r->ds.length=1/\za 3 Yk ds=some r:=yb
theorem DB (x0:D):p9 [x0]=za 3 Yk [x0]:=rfl
def nm (n:Nat):Str:=if n<26 then lt (n:Int) ++ "" else lt (((n:Int) - 26) / 26)++(lt (((n:Int) - 26) % 26) ++ "")
theorem Ca {n left:Int} {acc:Str} (hl:acc.length<=100):pU [some (false,.int n),some (false,.str acc),some (false,.int left)]=some (.nx [some (false,.int n),some (false,.str (lt ((left - 1) % 26)++acc)),some (false,.int ((left - 1) / 26))]):=by
 have hi:=Ws (k:=(left - 1) % 26) (by omega) (by omega)
 have ha:=add_str (a:=lt ((left - 1) % 26)) (b:=acc) (by rw [ji]; omega)
 unfold pU
 simp! [MC,hi,ha]
theorem Ij {n left:Int} {acc:Str}:pH [some (false,.int n),some (false,.str acc),some (false,.int left)]=some (decide (0<left)):=by
 unfold pH
 simp! []
theorem U8 {n left:Int} {acc:Str} {k:Nat} (h:0<left) (hl:acc.length<=100):wJ pH pU (k+1) [some (false,D.int n),some (false,.str acc),some (false,.int left)] =
  wJ pH pU k [some (false,.int n),some (false,.str (lt ((left - 1) % 26)++acc)),some (false,.int ((left - 1) / 26))]:=gM (Ij.trans (by rw [decide_eq_true h])) (Ca hl)
theorem Ii {n left:Int} {acc:Str} {k:Nat} (h:¬ 0<left):wJ pH pU (k+1) [some (false,D.int n),some (false,.str acc),some (false,.int left)]=some (.nx [some (false,D.int n),some (false,.str acc),some (false,.int left)]):=
 jB (Ij.trans (by rw [decide_eq_false h]))
theorem C9 {n:Nat} (h:n<702):p9 [.int (n:Int)]=some (false,.str (nm n)):=by
 have fin:∀ {s:Str} {left:Int},tJ pH pU [some (false,.int (n:Int)),some (false,.str ""),some (false,.int ((n:Int)+1))]=some (.nx [some (false,.int (n:Int)),some (false,.str s),some (false,.int left)])->p9 [.int (n:Int)]=some (false,.str s):=fun {s left} h=>by
  rw [DB]
  unfold Yk
  simp! [add_int,h]
 unfold nm
 split
 ·refine fin (left:=((n:Int)+1 - 1) / 26) (j3 2 ((U8 (by omega) (by decide)).trans ?_))
  rw [Ii (by omega),show ((n:Int)+1 - 1) % 26=n by omega]
 ·refine fin (left:=(((n:Int)+1 - 1) / 26 - 1) / 26) (j3 3 ((U8 (by omega) (by decide)).trans ((U8 (by omega) (by rw [kZ,ji]; decide)).trans ?_)))
  rw [Ii (by omega),show ((n:Int)+1 - 1) % 26=((n:Int) - 26) % 26 by omega,show (((n:Int)+1 - 1) / 26 - 1) % 26=((n:Int) - 26) / 26 by omega]
end L3
namespace L3
open PySem
theorem Jn (v:Nat->D):∀ qs:List Nat,t6 (qs.map fun i:Nat=>D.tup [.int i,v i])=some (qs.map fun i:Nat=>Sum.inl (i:Int),qs.map v)
 | []=>rfl
 | a::qs=>by
  show (uK (.int (a:Int))).bind _=_
  show (t6 (qs.map fun i:Nat=>D.tup [.int i,v i])).bind _=_
  rw [Jn v qs]
  rfl
theorem J8 (v:Nat->D) (n:Nat):∀ (qs:List Nat) (as:List (Sum Int Str)) (ds:List D),as.length=ds.length->getK (yn as ds (qs.map fun i:Nat=>Sum.inl (i:Int)) (qs.map v)).1 (yn as ds (qs.map fun i:Nat=>Sum.inl (i:Int)) (qs.map v)).2 (.inl (n:Int))=if n∈qs then some (v n) else getK as ds (.inl (n:Int))
 | [],as,ds,_=>by rw [if_neg List.not_mem_nil]; unfold yn; rfl
 | a::qs,as,ds,h=>by
  show getK (yn (xY as (.inl (a:Int))) (xj as ds (.inl (a:Int)) (v a)) (qs.map fun i:Nat=>Sum.inl (i:Int)) (qs.map v)).1 (yn (xY as (.inl (a:Int))) (xj as ds (.inl (a:Int)) (v a)) (qs.map fun i:Nat=>Sum.inl (i:Int)) (qs.map v)).2 (.inl (n:Int))=_
  rw [J8 v n qs _ _ (pq h),J9 h]
  by_cases c:n∈qs
  ·rw [if_pos c,if_pos (List.mem_cons_of_mem _ c)]
  ·rw [if_neg c]
   by_cases e:a=n
   ·subst e
    rw [if_pos rfl,if_pos (List.mem_cons_self ..)]
   ·rw [if_neg (fun z=>e (by have:=Sum.inl.inj z; omega)),if_neg (fun z=>(List.mem_cons.mp z).elim (fun z=>e z.symm) c)]
theorem BA (v:Nat->D) (qs:List Nat):∃ K V,pL [.lst (qs.map fun i:Nat=>D.tup [.int i,v i])]=some (.dic K V)/\(∀ n:Nat,yI K (.inl (n:Int))=decide (n∈qs))/\∀ n∈qs,getK K V (.inl (n:Int))=some (v n):=by
 refine ⟨(yn [] [] (qs.map fun i:Nat=>Sum.inl (i:Int)) (qs.map v)).1,(yn [] [] (qs.map fun i:Nat=>Sum.inl (i:Int)) (qs.map v)).2,?_,fun n=>?_,fun n hn=>?_⟩
 ·show (t6 _).bind _=_
  rw [Jn]
  rfl
 ·rw [Ve (by simp),kL]
  rfl
 ·rw [J8 v n qs [] [] rfl,if_pos hn]
end L3
namespace L3
open PySem
def Lx:FE:=(z6 2)
def Tm:FT:=(tE (e2 VQ (z6 2) (eC .non)))
def WQ:FE:=(xK (zA (z6 3) (zA (zQ p9 (zA (z6 2) zB)) zB)))
def Yl:FS:=
 (zE (zU 1 (eL pP (zA (xJ 1 (x_ (z6 0)) (zn 2) Tm Lx) zB)))
  (w8 (eL pL (zA (xJ 2 (vP (z6 1)) (xW 2 3) xM WQ) zB))))
def jN:List D->Option (Bool×D):=FR 1 2 Yl
theorem KZ:∀ ds r,jN ds=some r->ds.length=1/\za 2 Yl ds=some r:=yb
theorem DC (x0:D):jN [x0]=za 2 Yl [x0]:=rfl
def XT:FS:=(zE (yB (tE (e2 yJ (z6 4) (z6 2)))
     (wN 3 wE (xK (zA (eC (.str "label")) (zA (e2 zI (z6 2) (z6 4)) zB))))
     yK)
    (wN 3 wE (pJ (tE (e2 pM (e2 zI (z6 1) (z6 4)) (eC .non))) (z6 5) (e2 yt (z6 5) (xK (zA (e2 zI (z6 2) (e2 zI (z6 1) (z6 4))) zB))))))
def Yb:FS:=
 (zE (zU 2 (zQ jN (zA (z6 1) zB)))
  (zE (wV 3 (y_ zB))
  (zE (qo (vP (z6 0)) (xW 4 5)
   XT)
  (zE (yB (tE (e2 yJ (eL yy (zA (z6 0) zB)) (z6 2)))
   (wN 3 wE (xK (zA (eC (.str "label")) (zA (e2 zI (z6 2) (eL yy (zA (z6 0) zB))) zB))))
   yK)
  (qA 3)))))
def jF:List D->Option (Bool×D):=FR 2 6 Yb
theorem KE:∀ ds r,jF ds=some r->ds.length=2/\za 6 Yb ds=some r:=yb
theorem Bt (x0 x1:D):jF [x0,x1]=za 6 Yb [x0,x1]:=rfl
def Te:FE:=(pJ (tE (zQ uB (zA (z6 2) zB))) (vq (z6 2) v_ (u7 (e1 tY (eC (.int 1))))) (z6 2))
def Yq:FS:=
 (zE (zU 1 (xJ 1 (x_ (zQ xO (zA (z6 0) zB))) (zn 2) xM Te))
  (w8 (xP jF (zA (z6 1) (zA (zQ uS (zA (z6 0) zB)) zB)))))
def um:List D->Option (Bool×D):=FR 1 2 Yq
theorem Kg:∀ ds r,um ds=some r->ds.length=1/\za 2 Yq ds=some r:=yb
theorem DI (x0:D):um [x0]=za 2 Yq [x0]:=rfl
def qD (tgs:List (Option Nat)):List Nat:=tgs.filterMap id
def yG (n:Nat) (tgs:List (Option Nat)):List Nat:=pN (n+1) fun i=>decide (i∈qD tgs)
theorem UL {n:Nat} {tgs:List (Option Nat)} (h:∀ p,some p∈tgs->p<=n) {p:Nat}:p∈yG n tgs↔some p∈tgs:=by
 unfold yG qD
 rw [tz,decide_eq_true_iff,List.mem_filterMap]
 constructor
 ·rintro ⟨_,a,ha,e⟩
  have e:a=some p:=e
  exact e ▸ ha
 ·exact fun z=>⟨Nat.lt_succ_of_le (h p z),some p,z,rfl⟩
def yr (n:Nat) (tgs:List (Option Nat)) (p:Nat):Str:=nm ((yG n tgs).idxOf p)
theorem UK (n:Nat) (tgs:List (Option Nat)):(yG n tgs).length<=n+1:=by
 unfold yG pN
 have:=List.length_filter_le (fun i=>decide (i∈qD tgs)) (List.range (n+1))
 rw [List.length_range] at this
 exact this
theorem Gb (n:Nat) (tgs:List (Option Nat)):(yG n tgs).Nodup:=by
 unfold yG pN
 exact List.Nodup.sublist List.filter_sublist List.nodup_range
theorem UF:∀ tgs:List (Option Nat),(tgs.map yN).filter (fun d=>!qX d)=zD (qD tgs)
 | []=>rfl
 | none::tgs=>by
  rw [List.map_cons,List.filter_cons_of_neg (by decide),UF tgs]
  rfl
 | some p::tgs=>by
  rw [List.map_cons,List.filter_cons_of_pos (by rfl),UF tgs]
  rfl
theorem CC {n:Nat} (hn:n<=60) {tgs:List (Option Nat)} (hl:tgs.length<=900) (h:∀ p,some p∈tgs->p<=n) :
  ∃ K V,jN [.lst (tgs.map yN)]=some (true,.dic K V)/\(∀ p:Nat,yI K (.inl (p:Int))=decide (p∈yG n tgs))/\∀ p∈yG n tgs,getK K V (.inl (p:Int))=some (.str (yr n tgs p)):=by
 have e1:=tm (g:=zn 2) (c:=Tm) (e:=Lx) (σ:=[some (false,.lst (tgs.map yN)),none,none]) (fun d=>!qX d) id (ds:=tgs.map yN) fun d hd=>by
  refine ⟨_,rfl,?_,fun _=>rfl⟩
  unfold Tm
  simp! []
 rw [List.map_id,UF] at e1
 have e2:=LH (n:=n+1) (by omega) (l:=qD tgs) (by
  have:(qD tgs).length<=tgs.length:=List.length_filterMap_le _ _
  omega) (p:=fun i=>decide (i∈qD tgs)) fun i=>by
  rw [decide_eq_true_iff]
  refine ⟨fun z=>⟨?_,z⟩,fun z=>z.2⟩
  obtain ⟨a,ha,e⟩:=List.mem_filterMap.mp z
  have e:a=some i:=e
  exact Nat.lt_succ_of_le (h i (e ▸ ha))
 have e2:pP [.lst (zD (qD tgs))]=some (.lst (zD (yG n tgs))):=e2
 obtain ⟨K,V,e4,hK,hV⟩:=BA (fun p=>.str (yr n tgs p)) (yG n tgs)
 have e3:xi (xW 2 3) xM WQ [some (false,.lst (tgs.map yN)),some (false,.lst (zD (yG n tgs))),none,none] (vz (zD (yG n tgs)))=some ((yG n tgs).map fun p:Nat=>D.tup [.int p,.str (yr n tgs p)]):=by
  have:=XX (g:=xW 2 3) (e:=WQ) (σ:=[some (false,.lst (tgs.map yN)),some (false,.lst (zD (yG n tgs))),none,none]) (fun i=>match (yG n tgs)[i]? with | some p=>D.tup [.int p,.str (yr n tgs p)] | none=>.non) (ds:=vz (zD (yG n tgs))) 0 fun i d hd=>by
   rw [pd] at hd
   unfold zD at hd
   rw [List.getElem?_map] at hd
   cases hp:(yG n tgs)[i]? with
   | none=>rw [hp] at hd; cases hd
   | some p=>
    rw [hp] at hd
    cases hd
    have hi:=(List.getElem?_eq_some_iff.mp hp).1
    have le:=UK n tgs
    have ix:(yG n tgs).idxOf p=i:=by
     have e:(yG n tgs)[i]=p:=(List.getElem?_eq_some_iff.mp hp).2
     rw [<- e]
     exact (Gb n tgs).idxOf_getElem i hi
    have nf:=C9 (n:=i) (by omega)
    refine ⟨_,rfl,?_⟩
    rw [Nat.zero_add,hp]
    show _=some (D.tup [.int p,.str (nm ((yG n tgs).idxOf p))])
    rw [ix]
    unfold WQ
    generalize zD (yG n tgs)=PP at *
    generalize tgs.map yN=TT at *
    simp! [nf]
  rw [this,<- List.range_eq_range',tu,tD]
  refine congrArg some (List.ext_getElem? fun i=>?_)
  rw [List.getElem?_map,List.getElem?_map]
  by_cases hi:i<(yG n tgs).length
  ·rw [List.getElem?_range hi,List.getElem?_eq_getElem hi]
   show some (match (yG n tgs)[i]? with | some p=>D.tup [.int p,.str (yr n tgs p)] | none=>.non)=_
   rw [List.getElem?_eq_getElem hi]
   rfl
  ·rw [List.getElem?_eq_none (by rw [List.length_range]; omega),List.getElem?_eq_none (by omega)]
   rfl
 refine ⟨K,V,?_,hK,hV⟩
 rw [DC]
 unfold Yl
 generalize (yG n tgs).map (fun p:Nat=>D.tup [.int p,.str (yr n tgs p)])=PR at *
 generalize zD (yG n tgs)=PP at *
 generalize zD (qD tgs)=NN at *
 generalize tgs.map yN=TT at *
 simp! [e1,e2,vP,e3,e4]
def MJ:D->Str->D
 | .tup xs,s=>.tup (xs++[.str s])
 | d,_=>d
def xX (n:Nat) (tgs:List (Option Nat)) (p:Nat):List D:=if p∈yG n tgs then [yg (yr n tgs p)] else []
def vh (n:Nat) (tgs:List (Option Nat)) (r:D):Option Nat->D
 | none=>r
 | some p=>MJ r (yr n tgs p)
def xB (rows:List D) (tgs:List (Option Nat)):Nat->List D
 | 0=>[]
 | i+1=>xB rows tgs i++(xX rows.length tgs i++[vh rows.length tgs (rows.getD i .non) (tgs.getD i none)])
def vx (rows:List D) (tgs:List (Option Nat)):List D:=xB rows tgs rows.length++xX rows.length tgs rows.length
theorem Vs (n:Nat) (tgs:List (Option Nat)) (p:Nat):(xX n tgs p).length<=1:=by
 unfold xX
 split
 ·exact Nat.le_refl _
 ·exact Nat.zero_le _
theorem XW (rows:List D) (tgs:List (Option Nat)):∀ i,(xB rows tgs i).length<=2*i
 | 0=>Nat.le_refl _
 | i+1=>by
  unfold xB
  rw [List.length_append,List.length_append,List.length_singleton]
  have:=XW rows tgs i
  have:=Vs rows.length tgs i
  omega
theorem Ff {rows:List D} {tgs:List (Option Nat)} (hn:rows.length<=60) (hl:tgs.length=rows.length) (h:∀ p,some p∈tgs->p<=rows.length) (hr:∀ i p:Nat,tgs[i]?=some (some p)->∃ hd:List D,rows[i]?=some (D.tup hd)/\hd≠[]/\hd.length<=2) :
  jF [.lst rows,.lst (tgs.map yN)]=some (true,.lst (vx rows tgs)):=by
 obtain ⟨K,V,e1,hK,hV⟩:=CC hn (by omega) h
 have inK:∀ p:Nat,yJ (.int (p:Int)) (.dic K V)=some (.bl (decide (p∈yG rows.length tgs))):=fun p=>by
  show (some (yI K (.inl (p:Int)))).bind _=_
  rw [hK]
  rfl
 have ixK:∀ p∈yG rows.length tgs,zI (.dic K V) (.int (p:Int))=some (.str (yr rows.length tgs p)):=fun p hp=>hV p hp
 have lab:∀ (p:Nat) (L:List D) (f:FE) (σ:zb),σ[3]?=some (some (true,.lst L))->σ[2]?=some (some (false,.dic K V))->f σ=some (.int (p:Int))->L.length<=900->(∀ L',f (σ.set 3 L')=f σ)->yB (tE (e2 yJ f (z6 2))) (wN 3 wE (xK (zA (eC (.str "label")) (zA (e2 zI (z6 2) f) zB)))) yK σ=some (.nx (σ.set 3 (some (true,.lst (L++xX rows.length tgs p))))):=fun p L f σ h3 h2 hf hL _=>by
  have i1:=inK p
  unfold xX
  by_cases c:p∈yG rows.length tgs
  ·rw [if_pos c]
   rw [decide_eq_true c] at i1
   have i2:=ixK p c
   have ap:=tV (L:=L) (r:=yg (yr rows.length tgs p)) (by omega)
   unfold yg at *
   simp! [hf,h2,i1,i2,h3,ap]
  ·rw [if_neg c,List.append_nil]
   rw [decide_eq_false c] at i1
   have e:σ.set 3 (some (true,.lst L))=σ:=by
    refine List.ext_getElem? fun j=>?_
    rw [List.getElem?_set]
    by_cases z:3=j
    ·subst z
     rw [if_pos rfl,if_pos (List.getElem?_eq_some_iff.mp h3).1,h3]
    ·rw [if_neg z]
   rw [e]
   simp! [hf,h2,i1]
 obtain ⟨σ',e2,x4,x5,rfl⟩:=pW (g:=xW 4 5) (b:=XT) (fun i σ=>∃ (x4 x5:Option Sl),σ=[some (false,.lst rows),some (false,.lst (tgs.map yN)),some (false,.dic K V),some (true,.lst (xB rows tgs i)),x4,x5]) (ds:=vz rows)
  (σ:=[some (false,.lst rows),some (false,.lst (tgs.map yN)),some (false,.dic K V),some (true,.lst []),none,none]) 0 ⟨none,none,rfl⟩ (by
  rintro i d σ hd ⟨x4,x5,rfl⟩
  rw [Nat.zero_add] at *
  rw [pd] at hd
  cases hx:rows[i]? with
  | none=>rw [hx] at hd; cases hd
  | some r=>
   rw [hx] at hd
   cases hd
   have hi:=(List.getElem?_eq_some_iff.mp hx).1
   have ll:=XW rows tgs i
   have la:=Vs rows.length tgs i
   have er:rows.getD i .non=r:=by rw [List.getD_eq_getElem?_getD,hx]; rfl
   have ht:tgs[i]?=some tgs[i]:=List.getElem?_eq_getElem (by omega)
   have et:tgs.getD i none=tgs[i]:=by rw [List.getD_eq_getElem?_getD,ht]; rfl
   have it:zI (.lst (tgs.map yN)) (.int (i:Int))=some (yN tgs[i]):=vp (by omega) (by rw [Int.toNat_natCast,List.getElem?_map,ht]; rfl)
   have s1:=lab i (xB rows tgs i) (z6 4) [some (false,.lst rows),some (false,.lst (tgs.map yN)),some (false,.dic K V),some (true,.lst (xB rows tgs i)),some (false,.int (i:Int)),some (false,r)] rfl rfl rfl (by omega) (fun _=>rfl)
   have ap0:=tV (L:=xB rows tgs i++xX rows.length tgs i) (r:=vh rows.length tgs r tgs[i]) (by rw [List.length_append]; omega)
   refine ⟨_,[some (false,.lst rows),some (false,.lst (tgs.map yN)),some (false,.dic K V),some (true,.lst (xB rows tgs (i+1))),some (false,.int (i:Int)),some (false,r)],rfl,.inl ?_,_,_,rfl⟩
   show XT [some (false,.lst rows),some (false,.lst (tgs.map yN)),some (false,.dic K V),some (true,.lst (xB rows tgs i)),some (false,.int (i:Int)),some (false,r)]=some (Fl.nx [some (false,.lst rows),some (false,.lst (tgs.map yN)),some (false,.dic K V),some (true,.lst (xB rows tgs i++(xX rows.length tgs i++[vh rows.length tgs (rows.getD i .non) (tgs.getD i none)]))),some (false,.int (i:Int)),some (false,r)])
   rw [er,et,<- List.append_assoc]
   unfold XT
   rw [xb s1]
   show wN 3 wE _ [some (false,.lst rows),some (false,.lst (tgs.map yN)),some (false,.dic K V),some (true,.lst (xB rows tgs i++xX rows.length tgs i)),some (false,.int (i:Int)),some (false,r)]=_
   cases hg:tgs[i] with
   | none=>
    rw [hg] at it ap0
    have it:zI (.lst (tgs.map yN)) (.int (i:Int))=some .non:=it
    have ap:wE (.lst (xB rows tgs i++xX rows.length tgs i)) r=some (.lst (xB rows tgs i++xX rows.length tgs i++[r])):=ap0
    clear ap0
    show _=some (Fl.nx [some (false,.lst rows),some (false,.lst (tgs.map yN)),some (false,.dic K V),some (true,.lst (xB rows tgs i++xX rows.length tgs i++[r])),some (false,.int (i:Int)),some (false,r)])
    generalize tgs.map yN=TT at *
    generalize xB rows tgs i++xX rows.length tgs i=LL at *
    simp! [it,ap]
   | some p=>
    rw [hg] at it ap0 ht
    obtain ⟨hd,hx',n1,n2⟩:=hr i p ht
    rw [hx] at hx'
    cases hx'
    have hp:p∈yG rows.length tgs:=(UL h).mpr (List.mem_of_getElem? ht)
    have i2:=ixK p hp
    have z:pM (.int (p:Int)) .non=some (.bl false):=rfl
    have it:zI (.lst (tgs.map yN)) (.int (i:Int))=some (.int (p:Int)):=it
    have ad:=(tf (t := "") (u:=yr rows.length tgs p) n1 n2).2.2
    have ap:wE (.lst (xB rows tgs i++xX rows.length tgs i)) (.tup (hd++[.str (yr rows.length tgs p)]))=some (.lst (xB rows tgs i++xX rows.length tgs i++[.tup (hd++[.str (yr rows.length tgs p)])])):=ap0
    clear ap0
    show _=some (Fl.nx [some (false,.lst rows),some (false,.lst (tgs.map yN)),some (false,.dic K V),some (true,.lst (xB rows tgs i++xX rows.length tgs i++[.tup (hd++[.str (yr rows.length tgs p)])])),some (false,.int (i:Int)),some (false,.tup hd)])
    generalize yr rows.length tgs p=u at *
    generalize tgs.map yN=TT at *
    generalize xB rows tgs i++xX rows.length tgs i=LL at *
    generalize D.tup (hd++[.str u])=dd at *
    generalize D.tup hd=dh at *
    simp! [it,z,i2,ad,ap])
 rw [tu,Nat.zero_add] at e2
 have ll:=XW rows tgs rows.length
 have s3:=lab rows.length (xB rows tgs rows.length) (eL yy (zA (z6 0) zB)) [some (false,.lst rows),some (false,.lst (tgs.map yN)),some (false,.dic K V),some (true,.lst (xB rows tgs rows.length)),x4,x5] rfl rfl rfl (by omega) (fun _=>rfl)
 rw [Bt]
 unfold Yb
 show ((zE _ _ [some (false,.lst rows),some (false,.lst (tgs.map yN)),none,none,none,none]).bind _)=_
 rw [xb (σ':=[some (false,.lst rows),some (false,.lst (tgs.map yN)),some (false,.dic K V),none,none,none]) (by
  generalize tgs.map yN=TT at *
  simp! [e1])]
 rw [xb (σ':=[some (false,.lst rows),some (false,.lst (tgs.map yN)),some (false,.dic K V),some (true,.lst []),none,none]) (by simp! [])]
 rw [xb (σ':=[some (false,.lst rows),some (false,.lst (tgs.map yN)),some (false,.dic K V),some (true,.lst (xB rows tgs rows.length)),x4,x5]) (by
  generalize tgs.map yN=TT at *
  simp! [vP,e2])]
 rw [xb s3]
 rfl
def z_ (r:D):D:=match zz r with
 | true=>match r with
  | .tup xs=>.tup xs.dropLast
  | d=>d
 | false=>r
def zu (items:List D):List (Option Nat):=(z8 items).map (yS items)
def yM (items:List D):List D:=vx ((z8 items).map z_) (zu items)
theorem Wv {d:D} (h:yA d) (hj:zz d=true):∃ hd:List D,z_ d=.tup hd/\hd≠[]/\hd.length<=2/\kE d none (some (-1))=some (.tup hd)/\∀ u,yA (.tup (hd++[.str u])):=by
 obtain ⟨hd,t,ed,n1,n2,_,it,_⟩:=t5 h hj
 obtain ⟨p1,_,_⟩:=tf (t:=t) (u:=t) n1 n2
 refine ⟨hd,?_,n1,n2,by rw [ed]; exact p1,fun u=>(it u).1⟩
 unfold z_
 rw [hj]
 subst ed
 show D.tup (hd++[D.str t]).dropLast=_
 rw [List.dropLast_concat]
theorem Lf {items:List D} {r:D} {p:Nat} (h:yS items r=some p):p<=(z8 items).length:=by
 unfold yS at h
 split at h
 ·have:=UN (pY r) items (0,none) (fun _ z=>nomatch z) p h
  rw [Xt] at this
  show p<=(items.filter fun d=>!zM d).length
  omega
 ·cases h
theorem Xq {items:List D} (P:PC items) (hr:(z8 items).length<=60):um [.lst items]=some (true,.lst (yM items))/\∀ d∈yM items,yA d:=by
 have q1:xO [.lst items]=some (true,.lst (z8 items)):=qm P.it
 have q2:=T9 P
 have e1:=qf (g:=zn 2) (e:=Te) (σ:=[some (false,.lst items),none,none]) z_ (ds:=z8 items) fun d hd=>by
  have hI:=P.it d (List.mem_filter.mp hd).1
  have hj:=XN hI
  refine ⟨_,rfl,?_⟩
  unfold Te
  cases z:zz d with
  | false=>
   rw [z] at hj
   have e:z_ d=d:=by unfold z_; rw [z]
   rw [e]
   simp! [hj]
  | true=>
   rw [z] at hj
   obtain ⟨hd',eb,_,_,p1,_⟩:=Wv hI z
   rw [eb]
   simp! [hj,vq,u7,v_,p1]
 have lr:((z8 items).map z_).length=(z8 items).length:=List.length_map _
 have at_:∀ i p,(zu items)[i]?=some (some p)->∃ r,(z8 items)[i]?=some r/\yS items r=some p/\yA r/\zz r=true:=fun i p h=>by
  unfold zu at h
  rw [List.getElem?_map] at h
  cases e:(z8 items)[i]? with
  | none=>rw [e] at h; cases h
  | some r=>
   rw [e] at h
   have h:some (yS items r)=some (some p):=h
   injection h with h
   refine ⟨r,e,h,P.it r (List.mem_filter.mp (List.mem_of_getElem? e)).1,?_⟩
   cases z:zz r with
   | true=>rfl
   | false=>
    unfold yS at h
    rw [z] at h
    cases h
 have hle:∀ p,some p∈zu items->p<=((z8 items).map z_).length:=fun p hp=>by
  rw [lr]
  obtain ⟨r,_,e⟩:=List.mem_map.mp hp
  exact Lf e
 have e3:=Ff (rows:=(z8 items).map z_) (tgs:=zu items) (by omega) (by unfold zu; rw [List.length_map,lr]) hle (fun i p h=>by
  obtain ⟨r,e,_,hI,hj⟩:=at_ i p h
  obtain ⟨hd,eb,n1,n2,_⟩:=Wv hI hj
  exact ⟨hd,by rw [List.getElem?_map,e,<- eb]; rfl,n1,n2⟩)
 have q3:uS [.lst items]=some (true,.lst ((zu items).map yN)):=by
  rw [q2]
  unfold zu
  rw [List.map_map]
  rfl
 clear q2
 refine ⟨?_,?_⟩
 ·rw [DI]
  unfold Yq yM
  generalize vx ((z8 items).map z_) (zu items)=LL at *
  generalize (zu items).map yN=TT at *
  generalize (z8 items).map z_=BB at *
  generalize z8 items=RR at *
  simp! [q1,e1,q3,e3]
 ·have la:∀ n p,∀ d∈xX n (zu items) p,yA d:=fun n p d hd=>by
   unfold xX at hd
   split at hd
   ·cases List.mem_singleton.mp hd
    exact .label _
   ·cases hd
  have go:∀ i,i<=(z8 items).length->∀ d∈xB ((z8 items).map z_) (zu items) i,yA d:=fun i=>by
   induction i with
   | zero=>exact fun _ d hd=>by cases hd
   | succ i ih=>
    intro hi d hd
    unfold xB at hd
    rcases List.mem_append.mp hd with hd | hd
    ·exact ih (by omega) d hd
    ·rcases List.mem_append.mp hd with hd | hd
     ·exact la _ _ d hd
     ·cases List.mem_singleton.mp hd
      have hr:(z8 items)[i]?=some (z8 items)[i]:=List.getElem?_eq_getElem (by omega)
      have hm:=(List.mem_filter.mp (List.mem_of_getElem? hr)).1
      have e1:((z8 items).map z_).getD i .non=z_ (z8 items)[i]:=by rw [List.getD_eq_getElem?_getD,List.getElem?_map,hr]; rfl
      have e2:(zu items).getD i none=yS items (z8 items)[i]:=by unfold zu; rw [List.getD_eq_getElem?_getD,List.getElem?_map,hr]; rfl
      rw [e1,e2]
      generalize (z8 items)[i]=r at hm
      have hI:=P.it r hm
      cases z:zz r with
      | false=>
       have e3:yS items r=none:=by unfold yS; rw [z]
       have e4:z_ r=r:=by unfold z_; rw [z]
       rw [e3,e4]
       exact hI
      | true=>
       have:=(gJ P hm).1
       rw [z] at this
       obtain ⟨p,hp⟩:=Option.isSome_iff_exists.mp this
       obtain ⟨hd',eb,_,_,_,it⟩:=Wv hI z
       rw [hp,eb]
       exact it _
  intro d hd
  unfold yM vx at hd
  rcases List.mem_append.mp hd with hd | hd
  ·exact go _ (by rw [lr]; exact Nat.le_refl _) d hd
  ·exact la _ _ d hd
end L3
namespace L3
open PySem
def XZ:D->Bool
 | .int _=>true
 | .str _=>true
 | _=>false
theorem Fr {x y:D} (hx:XZ x=true) (hy:XZ y=true):xm 4 x y=true/\(zc x y=true↔x=y):=by
 cases x<;>first | (cases hx; done) | skip
 all_goals (cases y<;>first | (cases hy; done) | skip)
 ·rename_i a b
  refine ⟨rfl,?_⟩
  rw [show zc (.int a) (.int b)=(a == b) by unfold zc; rfl,beq_iff_eq]
  exact ⟨fun h=>by rw [h],fun h=>by injection h⟩
 ·exact ⟨rfl,⟨(fun h=>by unfold zc at h; cases h),(fun h=>by cases h)⟩⟩
 ·exact ⟨rfl,⟨(fun h=>by unfold zc at h; cases h),(fun h=>by cases h)⟩⟩
 ·rename_i a b
  refine ⟨rfl,?_⟩
  rw [show zc (.str a) (.str b)=(a == b) by unfold zc; rfl,beq_iff_eq]
  exact ⟨fun h=>by rw [h],fun h=>by injection h⟩
theorem VD {p:D->Bool} {f:D->D->Bool} (h:∀ x y,p x=true->p y=true->f x y=true/\(zc x y=true↔x=y)):∀ {xs ys:List D},(∀ x∈xs,p x=true)->(∀ y∈ys,p y=true)->vN f xs ys=true/\(dEqs xs ys=true↔xs=ys)
 | [],[],_,_=>⟨rfl,by unfold dEqs; exact ⟨fun _=>rfl,fun _=>rfl⟩⟩
 | [],_::_,_,_=>⟨rfl,by unfold dEqs; exact ⟨(fun h=>by cases h),(fun h=>by cases h)⟩⟩
 | _::_,[],_,_=>⟨rfl,by unfold dEqs; exact ⟨(fun h=>by cases h),(fun h=>by cases h)⟩⟩
 | x::xs,y::ys,hx,hy=>by
  obtain ⟨a1,a2⟩:=h x y (hx x (List.mem_cons_self ..)) (hy y (List.mem_cons_self ..))
  obtain ⟨b1,b2⟩:=VD h (xs:=xs) (ys:=ys) (fun z hz=>hx z (List.mem_cons_of_mem _ hz)) (fun z hz=>hy z (List.mem_cons_of_mem _ hz))
  refine ⟨?_,?_⟩
  ·show (f x y&&vN f xs ys)=true
   rw [a1,b1]
   rfl
  ·rw [show dEqs (x::xs) (y::ys)=(zc x y&&dEqs xs ys) by rw [dEqs],Bool.and_eq_true,a2,b2]
   exact ⟨fun ⟨e1,e2⟩=>by rw [e1,e2],fun e=>by injection e with e1 e2; exact ⟨e1,e2⟩⟩
def jx:D->Bool
 | .tup xs=>xs.all XZ
 | _=>false
theorem Hw {x y:D} (hx:jx x=true) (hy:jx y=true):xm 5 x y=true/\(zc x y=true↔x=y):=by
 cases x<;>first | (cases hx; done) | skip
 cases y<;>first | (cases hy; done) | skip
 rename_i xs ys
 obtain ⟨a,b⟩:=VD (p:=XZ) (f:=xm 4) (fun x y=>Fr) (List.all_eq_true.mp hx) (List.all_eq_true.mp hy)
 refine ⟨a,?_⟩
 rw [show zc (.tup xs) (.tup ys)=dEqs xs ys by rw [zc],b]
 exact ⟨fun h=>by rw [h],fun h=>by injection h⟩
theorem Hy {xs ys:List D} (hx:∀ x∈xs,jx x=true) (hy:∀ y∈ys,jx y=true) [Decidable (xs=ys)]:uy (.lst xs) (.lst ys)=some (decide (xs=ys)):=by
 obtain ⟨a,b⟩:=VD (p:=jx) (f:=xm 5) (fun x y=>Hw) hx hy
 show (match xm 6 (.lst xs) (.lst ys) with | true=>some (zc (.lst xs) (.lst ys)) | false=>none)=_
 rw [show xm 6 (.lst xs) (.lst ys)=true from a]
 show some (zc (.lst xs) (.lst ys))=_
 rw [show zc (.lst xs) (.lst ys)=dEqs xs ys by rw [zc]]
 by_cases c:xs=ys
 ·rw [decide_eq_true c,b.mpr c]
 ·rw [decide_eq_false c]
  cases z:dEqs xs ys with
  | false=>rfl
  | true=>exact absurd (b.mp z) c
theorem JW {d:D} (h:yA d):jx d=true:=by
 cases h with
 | label u=>rfl
 | plain h=>cases h<;>rfl
 | jump u=>rfl
 | cond u hw hk=>rfl
theorem Dq {xs ys:List D} (hx:∀ x∈xs,yA x) (hy:∀ y∈ys,yA y) [Decidable (xs=ys)]:yL (.lst xs) (.lst ys)=some (.bl (!decide (xs=ys))):=by
 unfold yL
 rw [Hy (fun x h=>JW (hx x h)) (fun y h=>JW (hy y h))]
 rfl
theorem Xl {items:List D} (h:∀ d∈items,yA d):uM 6 (.lst items)=true:=List.all_eq_true.mpr fun d hd=>(kR (h d hd)).choose_spec.2.2
end L3
namespace L3
open PySem
def wM:FS:=(yB (tE (e2 yL (z6 2) (y_ zB)))
     (yH (z6 2))
     yK)
def YV:FS:=
 (zE (wr 1 [zE (zU 2 (zQ vY (zA (z6 0) zB))) wM,zE (zU 2 (zQ va (zA (z6 0) zB))) wM,zE (zU 2 (zQ vW (zA (z6 0) zB))) wM,zE (zU 2 (zQ vX (zA (z6 0) zB))) wM])
  (w8 (y_ zB)))
def jC:List D->Option (Bool×D):=FR 1 3 YV
theorem K6:∀ ds r,jC ds=some r->ds.length=1/\za 3 YV ds=some r:=yb
theorem Bo (x0:D):jC [x0]=za 3 YV [x0]:=rfl
def vt:List (List Nat)->List Nat
 | []=>[]
 | l::ls=>if l.isEmpty=true then vt ls else l
def j8:Option (Bool×D)->List Nat
 | some (_,.lst ds)=>ds.map fun d=>match d with
  | .int i=>i.toNat
  | _=>0
 | _=>[]
theorem gK (o:Bool) (R:List Nat):j8 (some (o,.lst (zD R)))=R:=by
 show (zD R).map _=R
 unfold zD
 rw [List.map_map]
 exact List.map_id'' (fun i=>Int.toNat_natCast i) R
def t7 (items:List D) (R T:List Nat) (n:Nat):List (List Nat):=[pN n fun i=>!decide (i∈R),pN n (uZ items),pN n fun i=>ve (zg items i),pN n (uY items T)]
def wT (led:List D):List Nat:=vt (t7 led (j8 (uR [.lst led])) (j8 (uQ [.lst led])) (z8 led).length)
theorem J2:∀ {ls:List (List Nat)} {n:Nat},(∀ l∈ls,∀ i∈l,i<n)->∀ i∈vt ls,i<n
 | [],_,_,_,h=>by cases h
 | l::ls,n,h,i,hi=>by
  unfold vt at hi
  split at hi
  ·exact J2 (fun l hl=>h l (List.mem_cons_of_mem _ hl)) i hi
  ·exact h l (List.mem_cons_self ..) i hi
theorem OT {led:List D}:∀ i∈wT led,i<(z8 led).length:=J2 fun l hl i hi=>by
 unfold t7 at hl
 simp only [List.mem_cons,List.not_mem_nil,or_false] at hl
 rcases hl with rfl | rfl | rfl | rfl<;>exact (tz.mp hi).1
theorem CD (Y:List Nat):(zD Y).isEmpty=Y.isEmpty:=by cases Y<;>rfl
theorem Iv {items:List D}:∀ (ps:List ((List D->Option (Bool×D))×List Nat)) (x2:Option Sl),(∀ p∈ps,p.1 [.lst items]=some (true,.lst (zD p.2)))->
  ((vt (ps.map (·.2))=[]/\∃ y2,wr 1 (ps.map fun p=>zE (zU 2 (zQ p.1 (zA (z6 0) zB))) wM) [some (false,.lst items),none,x2]=some (.nx [some (false,.lst items),none,y2])) \/
  wr 1 (ps.map fun p=>zE (zU 2 (zQ p.1 (zA (z6 0) zB))) wM) [some (false,.lst items),none,x2]=some (.rt false (.lst (zD (vt (ps.map (·.2)))))))
 | [],x2,_=>.inl ⟨rfl,x2,rfl⟩
 | (F,Y)::ps,x2,h=>by
  have hF:F [.lst items]=some (true,.lst (zD Y)):=h (F,Y) (List.mem_cons_self ..)
  have ne:=Xe (zD Y)
  rw [CD] at ne
  rw [List.map_cons,List.map_cons]
  show (vt (Y::ps.map (·.2))=[]/\∃ y2,(zE (zU 2 (zQ F (zA (z6 0) zB))) wM [some (false,.lst items),none,x2]).bind _=_)\/(zE (zU 2 (zQ F (zA (z6 0) zB))) wM [some (false,.lst items),none,x2]).bind _=_
  unfold vt
  cases e:Y.isEmpty with
  | true=>
   rw [e] at ne
   have s:zE (zU 2 (zQ F (zA (z6 0) zB))) wM [some (false,.lst items),none,x2]=some (.nx [some (false,.lst items),none,some (false,.lst (zD Y))]):=by
    unfold wM
    generalize zD Y=YY at *
    simp! [hF,ne,Bool.not_true]
   rw [s,if_pos rfl]
   exact Iv ps _ fun p hp=>h p (List.mem_cons_of_mem _ hp)
  | false=>
   rw [e] at ne
   refine .inr ?_
   have s:zE (zU 2 (zQ F (zA (z6 0) zB))) wM [some (false,.lst items),none,x2]=some (.rt false (.lst (zD Y))):=by
    unfold wM
    generalize zD Y=YY at *
    simp! [hF,ne,Bool.not_false]
   rw [s,if_neg Bool.false_ne_true]
   rfl
theorem Db {items:List D} (P:PC items) (hr:(z8 items).length<=60):∃ o,jC [.lst items]=some (o,.lst (zD (wT items))):=by
 obtain ⟨R,_,_,eR⟩:=X_ P hr
 obtain ⟨T,NT,eT⟩:=Xh P
 have a1:=Ig P eR
 have a2:=Lg P
 have a3:=Qe P
 have a4:=Ie P NT.len eT
 have eq:wT items=vt (t7 items R T (z8 items).length):=by
  unfold wT
  rw [eR,eT,gK,gK]
 rw [eq]
 have lp:=Iv (items:=items) [(vY,pN (z8 items).length fun i=>!decide (i∈R)),(va,pN (z8 items).length (uZ items)),(vW,pN (z8 items).length fun i=>ve (zg items i)),(vX,pN (z8 items).length (uY items T))] none fun p hp=>by
  simp only [List.mem_cons,List.not_mem_nil,or_false] at hp
  rcases hp with rfl | rfl | rfl | rfl
  ·exact a1
  ·exact a2
  ·exact a3
  ·exact a4
 rw [Bo]
 unfold YV
 rcases lp with ⟨e0,y2,e⟩ | e
 ·have e0:vt (t7 items R T (z8 items).length)=[]:=e0
  rw [e0]
  refine ⟨true,?_⟩
  have e:wr 1 [zE (zU 2 (zQ vY (zA (z6 0) zB))) wM,zE (zU 2 (zQ va (zA (z6 0) zB))) wM,zE (zU 2 (zQ vW (zA (z6 0) zB))) wM,zE (zU 2 (zQ vX (zA (z6 0) zB))) wM] [some (false,.lst items),none,none]=some (.nx [some (false,.lst items),none,y2]):=e
  show ((zE _ _ [some (false,.lst items),none,none]).bind _)=_
  rw [xb e]
  rfl
 ·refine ⟨false,?_⟩
  show (((wr 1 _ [some (false,.lst items),none,none]).bind _).bind _)=_
  have e:wr 1 [zE (zU 2 (zQ vY (zA (z6 0) zB))) wM,zE (zU 2 (zQ va (zA (z6 0) zB))) wM,zE (zU 2 (zQ vW (zA (z6 0) zB))) wM,zE (zU 2 (zQ vX (zA (z6 0) zB))) wM] [some (false,.lst items),none,none]=some (.rt false (.lst (zD (vt (t7 items R T (z8 items).length))))):=e
  rw [e]
  rfl
end L3
namespace L3
open PySem
theorem Jg (qs:List Nat):∀ (L:List D) (s:Nat×List D),(L.foldl (xv qs) s).2.filter zM=s.2.filter zM++L.filter zM
 | [],s=>by rw [List.filter_nil,List.append_nil]; rfl
 | d::L,s=>by
  rw [List.foldl_cons,Jg qs L]
  unfold xv
  cases hl:zM d with
  | true=>
   show (s.2++[d]).filter zM++_=_
   rw [List.filter_append,List.filter_cons_of_pos hl,List.filter_cons_of_pos hl,List.filter_nil,List.append_assoc]
   rfl
  | false=>
   show (if s.1∈qs then s.2 else s.2++[d]).filter zM++_=_
   rw [List.filter_cons_of_neg (by rw [hl]; decide)]
   split
   ·rfl
   ·rw [List.filter_append,List.filter_cons_of_neg (by rw [hl]; decide),List.filter_nil,List.append_nil]
theorem XQ (qs:List Nat):∀ (L:List D) (s:Nat×List D),(z8 (L.foldl (xv qs) s).2).length<=(z8 s.2).length+(z8 L).length/\((∃ q∈qs,s.1<=q/\q<s.1+(z8 L).length)->(z8 (L.foldl (xv qs) s).2).length<(z8 s.2).length+(z8 L).length)
 | [],s=>⟨Nat.le_refl _,fun ⟨q,_,h1,h2⟩=>by
  have:(z8 []).length=0:=rfl
  omega⟩
 | d::L,s=>by
  rw [List.foldl_cons]
  obtain ⟨a,b⟩:=XQ qs L (xv qs s d)
  have e:(z8 (d::L)).length=(if zM d=true then 0 else 1)+(z8 L).length:=by
   unfold z8
   cases hl:zM d with
   | true=>
    rw [List.filter_cons_of_neg (by rw [hl]; decide)]
    simp
   | false=>
    rw [List.filter_cons_of_pos (by rw [hl]; rfl),List.length_cons]
    simp
    omega
  rw [e]
  have one:∀ x:List D,(z8 (x++[d])).length=(z8 x).length+(if zM d=true then 0 else 1):=fun x=>by
   unfold z8
   rw [List.filter_append,List.length_append]
   cases hl:zM d with
   | true=>rw [List.filter_cons_of_neg (by rw [hl]; decide)]; rfl
   | false=>rw [List.filter_cons_of_pos (by rw [hl]; rfl)]; rfl
  cases hl:zM d with
  | true=>
   have k:xv qs s d=(s.1,s.2++[d]):=by unfold xv; rw [hl]
   rw [k] at a b ⊢
   have o:=one s.2
   rw [hl,if_pos rfl] at o
   rw [o] at a b
   rw [if_pos rfl]
   refine ⟨by omega,fun ⟨q,hq,h1,h2⟩=>?_⟩
   have:=b ⟨q,hq,h1,by show q<s.1+_; omega⟩
   omega
  | false=>
   have o:=one s.2
   rw [hl,if_neg Bool.false_ne_true] at o
   rw [if_neg Bool.false_ne_true]
   by_cases c:s.1∈qs
   ·have k:xv qs s d=(s.1+1,s.2):=by unfold xv; rw [hl]; show (s.1+1,if s.1∈qs then s.2 else s.2++[d])=_; rw [if_pos c]
    rw [k] at a b ⊢
    dsimp only at a b ⊢
    refine ⟨by omega,fun _=>by omega⟩
   ·have k:xv qs s d=(s.1+1,s.2++[d]):=by unfold xv; rw [hl]; show (s.1+1,if s.1∈qs then s.2 else s.2++[d])=_; rw [if_neg c]
    rw [k] at a b ⊢
    rw [o] at a b
    refine ⟨by omega,fun ⟨q,hq,h1,h2⟩=>?_⟩
    have ne:s.1≠q:=fun z=>c (z ▸ hq)
    have:=b ⟨q,hq,by show s.1+1<=q; omega,by show q<s.1+1+_; omega⟩
    omega
theorem kT:∀ (L:List D) (s:Nat×List D),(L.foldl (xv []) s).2=s.2++L
 | [],s=>by rw [List.append_nil]; rfl
 | d::L,s=>by
  rw [List.foldl_cons,kT L]
  have:(xv [] s d).2=s.2++[d]:=by
   unfold xv
   cases zM d with
   | true=>rfl
   | false=>show (if s.1∈([]:List Nat) then s.2 else s.2++[d])=_; rw [if_neg List.not_mem_nil]
  rw [this,List.append_assoc]
  rfl
theorem Dy {L:List D} (P:PC L) (qs:List Nat):PC (xt qs L).2:=by
 have km:∀ x∈(xt qs L).2,x∈L:=fun x hx=>by
  rcases Jh qs L (0,[]) x hx with h | h
  ·cases h
  ·exact h
 have kl:(xt qs L).2.filter zM=L.filter zM:=Jg qs L (0,[])
 refine ⟨fun d hd=>P.it d (km d hd),by rw [kl]; exact P.nd,fun d hd hj=>?_,?_⟩
 ·obtain ⟨t,p,e1,e2⟩:=P.tg d (km d hd) hj
  have h1:=Nl P.it e2
  have h2:yg t∈(xt qs L).2:=by
   have:yg t∈L.filter zM:=List.mem_filter.mpr ⟨h1,rfl⟩
   rw [<- kl] at this
   exact (List.mem_filter.mp this).1
  obtain ⟨q,hq⟩:=Option.isSome_iff_exists.mp (UP (0,none) (.inl h2))
  exact ⟨t,q,e1,hq⟩
 ·have:=Vm qs L (0,[])
  have e:(xt qs L).2.length<=0+L.length:=this
  have:=P.ln
  omega
def yk (items:List D):List D:=items.map (yP items)
def xq (items:List D):List D:=(xt (wT (yk items)) (yk items)).2
theorem Xa {items:List D} (P:PC items):(z8 (yk items)).length=(z8 items).length:=by
 unfold yk
 rw [(kY P).2.2,List.length_map]
theorem Uz {items:List D} (P:PC items):PC (xq items)/\(z8 (xq items)).length<=(z8 items).length:=by
 have P':PC (yk items):=(kY P).1
 refine ⟨Dy P' _,?_⟩
 have:=(XQ (wT (yk items)) (yk items) (0,[])).1
 have e:(z8 (xq items)).length<=0+(z8 (yk items)).length:=this
 rw [Xa P] at e
 omega
inductive qN:Nat->List D->List D->Prop
 | fin {a:List D}:xq a=a->qN 0 a a
 | go {a b:List D} {k:Nat}:xq a≠a->qN k (xq a) b->qN (k+1) a b
theorem LO:∀ (n:Nat) {a:List D},PC a->(z8 a).length<=n->∃ k b,k<=n+1/\qN k a b
 | n,a,P,hn=>by
  by_cases c:xq a=a
  ·exact ⟨0,a,Nat.zero_le _,.fin c⟩
  ·by_cases q:wT (yk a)=[]
   ·have e:xq a=yk a:=by
     unfold xq xt
     rw [q,kT]
     rfl
    have P':PC (yk a):=(kY P).1
    have e2:yk (yk a)=yk a:=Ft P
    have e3:xq (yk a)=yk a:=by
     unfold xq xt
     rw [e2,q,kT]
     rfl
    exact ⟨1,yk a,by omega,.go c (by rw [e]; exact .fin e3)⟩
   ·obtain ⟨x,hx⟩:=List.exists_mem_of_ne_nil _ q
    have lt:=OT x hx
    have dec:=(XQ (wT (yk a)) (yk a) (0,[])).2 ⟨x,hx,Nat.zero_le _,by show x<0+_; omega⟩
    have dec:(z8 (xq a)).length<0+(z8 (yk a)).length:=dec
    rw [Xa P] at dec
    match n,hn with
    | 0,hn=>omega
    | n+1,hn=>
     obtain ⟨k,b,hk,S⟩:=LO n (Uz P).1 (by omega)
     exact ⟨k+1,b,by omega,.go c S⟩
end L3
namespace L3
open PySem
def XV:FS:=(zE (zU 1 (z6 2))
    (zE (zU 3 (xP uD (zA (z6 1) zB)))
    (zU 2 (zQ pA (zA (z6 3) (zA (zQ jC (zA (z6 3) zB)) zB))))))
def gy:FT:=(tE (e2 kC (z6 2) (z6 1)))
def Yt:FS:=
 (zE (zU 1 (eC .non))
  (zE (zU 2 (z6 0))
  (zE (tJ gy
   XV)
  (w8 (xP um (zA (z6 2) zB))))))
def wg:List D->Option (Bool×D):=FR 1 4 Yt
theorem Kk:∀ ds r,wg ds=some r->ds.length=1/\za 4 Yt ds=some r:=yb
theorem DL (x0:D):wg [x0]=za 4 Yt [x0]:=rfl
theorem LD {i0:D} {items:List D} {x1 x3:Option Sl} (P:PC items) (hr:(z8 items).length<=60):∃ y3,XV [some (false,i0),x1,some (false,.lst items),x3]=some (.nx [some (false,i0),some (false,.lst items),some (false,.lst (xq items)),y3]):=by
 have e1:uD [.lst items]=some (true,.lst (yk items)):=IF P
 have P':PC (yk items):=(kY P).1
 obtain ⟨o,e2⟩:=Db P' (by rw [Xa P]; exact hr)
 have e3:pA [.lst (yk items),.lst (zD (wT (yk items)))]=some (true,.lst (xq items)):=RD P'.it P'.ln _
 refine ⟨some (false,.lst (yk items)),?_⟩
 unfold XV
 generalize zD (wT (yk items))=QQ at *
 generalize xq items=SS at *
 generalize yk items=LL at *
 simp! [e1,e2,e3]
theorem NR {i0:D}:∀ {k:Nat} {a b:List D},qN k a b->PC a->(z8 a).length<=60->∀ (x1:D) (x3:Option Sl),kC (.lst a) x1=some (.bl true)->∃ y3,wJ gy XV (k+2) [some (false,i0),some (false,x1),some (false,.lst a),x3]=some (.nx [some (false,i0),some (false,.lst b),some (false,.lst b),y3]):=fun {k}=>by
 induction k with
 | zero=>
  intro a b S P hr x1 x3 hx
  cases S with
  | fin h=>
   obtain ⟨y3,e⟩:=LD (i0:=i0) (x1:=some (false,x1)) (x3:=x3) P hr
   rw [h] at e
   refine ⟨y3,?_⟩
   have q:kC (.lst a) (.lst a)=some (.bl false):=Xg (Xl P.it)
   rw [gM (by unfold gy; simp! [hx]) e,jB (by unfold gy; simp! [q])]
 | succ k ih=>
  intro a b S P hr x1 x3 hx
  cases S with
  | go h S=>
   obtain ⟨y3,e⟩:=LD (i0:=i0) (x1:=some (false,x1)) (x3:=x3) P hr
   obtain ⟨P',r'⟩:=Uz P
   have q:kC (.lst (xq a)) (.lst a)=some (.bl true):=by
    haveI:=Classical.propDecidable (xq a=a)
    show yL _ _=_
    rw [Dq P'.it P.it,decide_eq_false h]
    rfl
   rw [gM (by unfold gy; simp! [hx]) e]
   exact ih S P' (by omega) (.lst a) y3 q
theorem Uy:∀ {k:Nat} {a b:List D},qN k a b->PC a->PC b/\(z8 b).length<=(z8 a).length
 | _,_,_,.fin _,P=>⟨P,Nat.le_refl _⟩
 | _,_,_,.go _ S,P=>by
  obtain ⟨P',r'⟩:=Uz P
  obtain ⟨P2,r2⟩:=Uy S P'
  exact ⟨P2,by omega⟩
theorem LC {k:Nat} {a b:List D} (S:qN k a b) (P:PC a) (hr:(z8 a).length<=60) (hk:k<=100):wg [.lst a]=some (true,.lst (yM b)):=by
 obtain ⟨P2,r2⟩:=Uy S P
 obtain ⟨pF,_⟩:=Xq P2 (by omega)
 obtain ⟨y3,e⟩:=NR (i0:=.lst a) S P hr .non none rfl
 have e2:=j3 _ e (Nat.le_trans (show k+2<=102 by omega) (by decide))
 rw [DL]
 unfold Yt
 generalize yM b=BB at *
 simp! [e2,pF]
end L3
namespace L3
open PySem
def Tb:FE:=(e2 zI (z6 7) (eC (.int 1)))
def WT:FT:=(tE (e2 zj (e2 zI (z6 7) (eC (.int 0))) (eC (.str "label"))))
def On:FA:=(uX (eC (.int 0)) (eL yy (zA (z6 0) zB)))
def pT:FS:=(zE (zU 6 (zQ wX (zA (z6 1) (zA (e2 yt (z6 2) (z6 5)) zB))))
    (yB (xG (tE (e2 zj (e2 zI (e2 zI (z6 0) (z6 5)) (eC (.int 0))) (eC (.str "label")))) (xG (tE (e2 (v8 fun i j=>decide (i<j)) (e2 ym (z6 6) (eC (.int 4))) (eC (.int 2)))) (tE (e2 zj (z6 3) (y_ zB)))))
     (wN 4 wE (e2 zI (z6 0) (z6 5)))
     (yB (tE (e2 zj (e2 ym (z6 6) (eC (.int 4))) (eC (.int 2))))
       (wN 4 wE (xK (zA (eC (.str "jump")) (zA (e2 zI (z6 3) (e2 ym (e2 wG (z6 6) (eC (.int 4))) (eL yy (zA (z6 3) zB)))) zB))))
       (wN 4 wE (xK (zA (eC (.str "copy")) (zA (e2 ym (e2 wG (z6 6) (eC (.int 4))) (eC (.int 8))) (zA (e2 ym (e2 wG (z6 6) (eC (.int 4))) (eC (.int 8))) zB))))))))
def Yh:FS:=
 (zE (zU 3 (xJ 1 (x_ (z6 0)) (zn 7) WT Tb))
  (zE (wV 4 (y_ zB))
  (zE (qo On (zn 5)
   pT)
  (qA 4))))
def jK:List D->Option (Bool×D):=FR 3 7 Yh
theorem KP:∀ ds r,jK ds=some r->ds.length=3/\za 7 Yh ds=some r:=yb
theorem Bz (x0 x1 x2:D):jK [x0,x1,x2]=za 7 Yh [x0,x1,x2]:=rfl
theorem RB {items:List D} (P:PC items) (h40:items.length<=40) {s:D} (em:∀ i:Nat,i<41->∃ m:Int,0<=m/\wX [s,.int (46+(i:Int))]=some (false,.int m)):∃ items',PC items'/\items'.length=items.length/\jK [.lst items,s,.int 46]=some (true,.lst items'):=by
 have ln:=P.ln
 obtain ⟨ns,e1,hns⟩:∃ ns:List Str,xi (zn 7) WT Tb [some (false,.lst items),some (false,s),some (false,.int 46),none,none,none,none,none] items=some (ns.map D.str)/\∀ t∈ns,yg t∈items:=by
  have e:=tm (g:=zn 7) (c:=WT) (e:=Tb) (σ:=[some (false,.lst items),some (false,s),some (false,.int 46),none,none,none,none,none]) zM (fun d=>match d with | .tup [_,x]=>x | d=>d) (ds:=items) fun d hd=>by
   obtain ⟨w,a,b,_⟩:=kR (P.it d hd)
   refine ⟨_,rfl,?_,fun hl=>?_⟩
   ·unfold WT
    simp! [a,b]
   ·obtain ⟨t,rfl⟩:=pR (P.it d hd) hl
    rfl
  have g:∀ L:List D,(∀ d∈L,d∈items)->∃ ns:List Str,(L.filter zM).map (fun d=>match d with | .tup [_,x]=>x | d=>d)=ns.map D.str/\∀ t∈ns,yg t∈items:=fun L=>by
   induction L with
   | nil=>intro _; exact ⟨[],rfl,fun _ h=>by cases h⟩
   | cons d L ih=>
    intro h
    obtain ⟨ns,h1,h2⟩:=ih fun x hx=>h x (List.mem_cons_of_mem _ hx)
    have hd:=h d (List.mem_cons_self ..)
    cases hl:zM d with
    | false=>
     rw [List.filter_cons_of_neg (by rw [hl]; decide)]
     exact ⟨ns,h1,h2⟩
    | true=>
     obtain ⟨t,rfl⟩:=pR (P.it d hd) hl
     rw [List.filter_cons_of_pos hl,List.map_cons,h1]
     exact ⟨t::ns,rfl,fun u hu=>by
      rcases List.mem_cons.mp hu with rfl | hu
      ·exact hd
      ·exact h2 u hu⟩
  obtain ⟨ns,h1,h2⟩:=g items fun _ h=>h
  rw [h1] at e
  exact ⟨ns,e,h2⟩
 have eqn:zj (.lst (ns.map D.str)) (.lst [])=some (.bl (ns.map D.str).isEmpty):=by cases ns<;>rfl
 have r1:On [some (false,.lst items),some (false,s),some (false,.int 46),some (false,.lst (ns.map D.str)),some (true,.lst []),none,none]=some (xy items.length):=qk (n:=(items.length:Int)) rfl (by omega)
 have one:∀ (i:Nat) (hi:i<items.length),∃ y,(y=items[i]\/(zM items[i]=false/\((∃ t∈ns,y=.tup [.str "jump",.str t])\/vI y)))/\∀ (L:List D) (x6:Option Sl),L.length<=1000->∃ y6,pT [some (false,.lst items),some (false,s),some (false,.int 46),some (false,.lst (ns.map D.str)),some (true,.lst L),some (false,.int (i:Int)),x6]=some (.nx [some (false,.lst items),some (false,s),some (false,.int 46),some (false,.lst (ns.map D.str)),some (true,.lst (L++[y])),some (false,.int (i:Int)),y6]):=fun i hi=>by
  obtain ⟨m,m0,ef⟩:=em i (by omega)
  have ix:zI (.lst items) (.int (i:Int))=some items[i]:=vp (by omega) (by rw [Int.toNat_natCast]; exact List.getElem?_eq_getElem hi)
  obtain ⟨w,a,b0,_⟩:=kR (P.it _ (List.getElem_mem hi))
  have old:∀ (b1 b2 b3:Bool),zj (.str w) (.str "label")=some (.bl b1)->decide (m % 4<2)=b2->zj (.lst (ns.map D.str)) (.lst [])=some (.bl b3)->(b1||(b2||b3))=true->∃ y,(y=items[i]\/(zM items[i]=false/\((∃ t∈ns,y=.tup [.str "jump",.str t])\/vI y)))/\∀ (L:List D) (x6:Option Sl),L.length<=1000->∃ y6,pT [some (false,.lst items),some (false,s),some (false,.int 46),some (false,.lst (ns.map D.str)),some (true,.lst L),some (false,.int (i:Int)),x6]=some (.nx [some (false,.lst items),some (false,s),some (false,.int 46),some (false,.lst (ns.map D.str)),some (true,.lst (L++[y])),some (false,.int (i:Int)),y6]):=fun b1 b2 b3 k1 k2 k3 hb=>by
   refine ⟨items[i],.inl rfl,fun L x6 hL=>⟨some (false,.int m),?_⟩⟩
   have hap:=tV (L:=L) (r:=items[i]) hL
   unfold pT
   generalize items[i]=d at *
   generalize ns.map D.str=NN at *
   cases b1 with
   | true=>simp! [add_int,ef,ix,a,k1,hap]
   | false=>
    cases b2 with
    | true=>simp! [add_int,ef,ix,a,k1,k2,hap]
    | false=>
     cases b3 with
     | true=>simp! [add_int,ef,ix,a,k1,k2,k3,hap]
     | false=>cases hb
  cases hl:zM items[i] with
  | true=>
   rw [hl] at b0
   exact hl ▸ old _ _ _ b0 rfl eqn rfl
  | false=>
   rw [hl] at b0
   by_cases h2:m % 4<2
   ·exact hl ▸ old _ _ _ b0 (decide_eq_true h2) eqn rfl
   ·have k2:decide (m % 4<2)=false:=decide_eq_false h2
    by_cases hn:ns=[]
    ·subst hn
     exact hl ▸ old _ _ _ b0 k2 eqn rfl
    ·have hp:0<ns.length:=List.length_pos_iff.mpr hn
     have ie:(ns.map D.str).isEmpty=false:=by
      cases ns with
      | nil=>exact absurd rfl hn
      | cons _ _=>rfl
     rw [ie] at eqn
     by_cases h4:m % 4=2
     ·have k4:=kN h4
      have a0:=Int.emod_nonneg (m / 4) (show (ns.length:Int)≠0 by omega)
      have a1:=Int.emod_lt_of_pos (m / 4) (show 0<(ns.length:Int) by omega)
      have hv:(m / 4 % (ns.length:Int)).toNat<ns.length:=by omega
      have it:zI (.lst (ns.map D.str)) (.int (m / 4 % (ns.length:Int)))=some (.str ns[(m / 4 % (ns.length:Int)).toNat]):=vp a0 (by rw [List.getElem?_map,List.getElem?_eq_getElem hv]; rfl)
      have mt:=List.getElem_mem hv
      generalize ns[(m / 4 % (ns.length:Int)).toNat]=t at it mt
      have gN:decide (0<(ns.length:Int))=true:=decide_eq_true (by omega)
      refine ⟨.tup [.str "jump",.str t],.inr ⟨rfl,.inl ⟨t,mt,rfl⟩⟩,fun L x6 hL=>⟨some (false,.int m),?_⟩⟩
      have hap:=tV (L:=L) (r:=.tup [.str "jump",.str t]) hL
      have ll:(ns.map D.str).length=ns.length:=List.length_map _
      unfold pT
      generalize items[i]=d at *
      generalize ns.map D.str=NN at *
      simp! [add_int,ef,ix,a,b0,k2,eqn,k4,ll,gN,it,hap]
     ·have k4:=kO h4
      refine ⟨.tup [.str "copy",.int (m / 4 % 8),.int (m / 4 % 8)],.inr ⟨rfl,.inr (.two (.inl rfl) (by omega) (by omega) (by omega) (by omega))⟩,fun L x6 hL=>⟨some (false,.int m),?_⟩⟩
      have hap:=tV (L:=L) (r:=.tup [.str "copy",.int (m / 4 % 8),.int (m / 4 % 8)]) hL
      unfold pT
      generalize items[i]=d at *
      generalize ns.map D.str=NN at *
      simp! [add_int,ef,ix,a,b0,k2,eqn,k4,hap]
 obtain ⟨σ',e2,L,x5,x6,l1,l2,rfl⟩:=pW (g:=zn 5) (b:=pT) (fun i σ=>∃ L x5 x6,L.length=i/\(∀ j y,j<i->L[j]?=some y->∃ d,items[j]?=some d/\(y=d\/(zM d=false/\((∃ t∈ns,y=.tup [.str "jump",.str t])\/vI y))))/\σ=[some (false,.lst items),some (false,s),some (false,.int 46),some (false,.lst (ns.map D.str)),some (true,.lst L),x5,x6]) (ds:=xy items.length)
  (σ:=[some (false,.lst items),some (false,s),some (false,.int 46),some (false,.lst (ns.map D.str)),some (true,.lst []),none,none]) 0 ⟨[],none,none,rfl,(fun j _ h=>absurd h (Nat.not_lt_zero _)),rfl⟩ (by
  rintro i v σ hv ⟨L,x5,x6,l1,l2,rfl⟩
  obtain ⟨hi,rfl⟩:=YB hv
  rw [Nat.zero_add] at *
  obtain ⟨y,hy,ey⟩:=one i hi
  obtain ⟨y6,ey⟩:=ey L x6 (by omega)
  refine ⟨_,_,rfl,.inl ey,L++[y],_,_,by rw [List.length_append,l1]; rfl,fun j z hj hz=>?_,rfl⟩
  by_cases c:j<i
  ·rw [List.getElem?_append_left (by omega)] at hz
   exact l2 j z c hz
  ·have:j=i:=by omega
   subst this
   rw [List.getElem?_append_right (by omega),l1,Nat.sub_self] at hz
   cases hz
   exact ⟨items[j],List.getElem?_eq_getElem hi,hy⟩)
 rw [jA,Nat.zero_add] at l1 l2
 have ea:tM (fun d y=>y=d\/(zM d=false/\((∃ t∈ns,y=.tup [.str "jump",.str t])\/vI y))) items L:=Qu l1.symm fun i x y hx hy=>by
  obtain ⟨d,hd,h⟩:=l2 i y (by rw [<- l1]; exact (List.getElem?_eq_some_iff.mp hy).1) hy
  rw [hx] at hd
  cases hd
  exact h
 have plL:∀ y,vI y->zM y=false:=fun y h=>(W2 (m:=0) (.inl h)).choose_spec.2.2.1
 have kl:∀ {xs ys:List D},tM (fun d y=>y=d\/(zM d=false/\((∃ t∈ns,y=.tup [.str "jump",.str t])\/vI y))) xs ys->ys.filter zM=xs.filter zM/\∀ t s,ys.foldl (wS t) s=xs.foldl (wS t) s:=fun {xs ys} h=>by
  induction h with
  | nil=>exact ⟨rfl,fun _ _=>rfl⟩
  | cons r _ ih=>
   rename_i x y _ _ _
   rcases r with rfl | ⟨hl,r⟩
   ·exact ⟨by rw [List.filter_cons,List.filter_cons,ih.1],fun t s=>by rw [List.foldl_cons,List.foldl_cons,ih.2]⟩
   ·have hy:zM y=false:=by
     rcases r with ⟨t,_,rfl⟩ | r
     ·rfl
     ·exact plL y r
    refine ⟨by rw [List.filter_cons_of_neg (by rw [hy]; decide),List.filter_cons_of_neg (by rw [hl]; decide),ih.1],fun u s=>?_⟩
    rw [List.foldl_cons,List.foldl_cons,ih.2]
    congr 1
    unfold wS
    rw [hl,hy]
 obtain ⟨k1,k2⟩:=kl ea
 have k2:∀ t,yh t L=yh t items:=fun t=>k2 t _
 refine ⟨L,⟨fun d hd=>?_,by rw [k1]; exact P.nd,fun d hd hj=>?_,by omega⟩,l1,?_⟩
 ·obtain ⟨x,hx,h⟩:=kA ea d hd
  rcases h with rfl | ⟨_,⟨t,_,rfl⟩ | h⟩
  ·exact P.it _ hx
  ·exact .jump t
  ·exact .plain h
 ·obtain ⟨x,hx,h⟩:=kA ea d hd
  rcases h with rfl | ⟨_,⟨t,ht,rfl⟩ | h⟩
  ·obtain ⟨t,p,q1,q2⟩:=P.tg _ hx hj
   exact ⟨t,p,q1,by rw [k2]; exact q2⟩
  ·obtain ⟨p,hp⟩:=Option.isSome_iff_exists.mp (UP (L:=items) (0,none) (.inl (hns t ht)))
   exact ⟨t,p,rfl,by rw [k2]; exact hp⟩
  ·rw [(qj h).choose_spec.2.2.2.1] at hj
   cases hj
 ·rw [Bz]
  unfold Yh
  generalize ns.map D.str=NN at *
  simp! [e1,r1,e2]
end L3
namespace L3
open PySem
theorem pI (a b:Str):(a++b).cps.toList=a.cps.toList++b.cps.toList:=Array.toList_append
theorem CT {a b:Nat} (ha:a<702) (hb:b<702) (h:nm a=nm b):a=b:=by
 have h1:=congrArg (fun z:Str=>z.cps.toList) h
 have lc:∀ x:Int,(lt x).cps.toList=[97+x.toNat]:=fun _=>rfl
 have le:(("" : Str)).cps.toList=[]:=rfl
 unfold nm at h1
 by_cases ca:a<26
 ·by_cases cb:b<26
  ·simp only [if_pos ca,if_pos cb,pI,lc,le,List.append_nil,List.cons.injEq] at h1
   omega
  ·simp only [if_pos ca,if_neg cb,pI,lc,le,List.append_nil,List.cons_append,List.nil_append,List.cons.injEq] at h1
   exact absurd h1.2 (fun z=>nomatch z)
 ·by_cases cb:b<26
  ·simp only [if_neg ca,if_pos cb,pI,lc,le,List.append_nil,List.cons_append,List.nil_append,List.cons.injEq] at h1
   exact absurd h1.2 (fun z=>nomatch z)
  ·simp only [if_neg ca,if_neg cb,pI,lc,le,List.append_nil,List.cons_append,List.nil_append,List.cons.injEq] at h1
   omega
section
variable {n:Nat} {tgs:List (Option Nat)}
theorem IU (hn:n<=60) {p q:Nat} (hp:p∈yG n tgs) (hq:q∈yG n tgs) (h:yr n tgs p=yr n tgs q):p=q:=by
 have le:=UK n tgs
 have a:=List.idxOf_lt_length_of_mem hp
 have b:=List.idxOf_lt_length_of_mem hq
 have e:=CT (by omega) (by omega) h
 have ga:(yG n tgs)[(yG n tgs).idxOf p]=p:=List.getElem_idxOf a
 have gb:(yG n tgs)[(yG n tgs).idxOf q]=q:=List.getElem_idxOf b
 rw [<- ga,<- gb]
 exact congrArg (fun i=>(yG n tgs).getD i 0) e |> fun z=>by
  rw [List.getD_eq_getElem?_getD,List.getD_eq_getElem?_getD,List.getElem?_eq_getElem a,List.getElem?_eq_getElem b] at z
  exact z
end
structure qL (rows:List D) (tgs:List (Option Nat)):Prop where
 n60:rows.length<=60
 ln:tgs.length=rows.length
 le:∀ p,some p∈tgs->p<=rows.length
 nl:∀ i,i<rows.length->zM (vh rows.length tgs (rows.getD i .non) (tgs.getD i none))=false
section
variable {rows:List D} {tgs:List (Option Nat)}
theorem Vt {n p:Nat}:∀ d∈xX n tgs p,zM d=true:=fun d hd=>by
 unfold xX at hd
 split at hd
 ·cases List.mem_singleton.mp hd
  rfl
 ·cases hd
theorem Js {n p:Nat}:z8 (xX n tgs p)=[]:=List.filter_eq_nil_iff.mpr fun d hd=>by
 rw [Vt d hd]
 decide
theorem Ua (a b:List D):z8 (a++b)=z8 a++z8 b:=List.filter_append ..
theorem W4 (Y:qL rows tgs):∀ i,i<=rows.length->z8 (xB rows tgs i)=(List.range i).map fun j=>vh rows.length tgs (rows.getD j .non) (tgs.getD j none)
 | 0,_=>rfl
 | i+1,h=>by
  unfold xB
  rw [Ua,Ua,W4 Y i (by omega),Js,List.nil_append,List.range_succ,List.map_append]
  congr 1
  show List.filter _ [_]=_
  rw [List.filter_cons_of_pos (by rw [Y.nl i (by omega)]; rfl)]
  rfl
theorem Oy (Y:qL rows tgs):z8 (vx rows tgs)=(List.range rows.length).map fun j=>vh rows.length tgs (rows.getD j .non) (tgs.getD j none):=by
 unfold vx
 rw [Ua,W4 Y _ (Nat.le_refl _),Js,List.append_nil]
theorem Jw (Y:qL rows tgs):∀ i,i<=rows.length->(xB rows tgs i).filter zM=((List.range i).filter fun p=>decide (p∈yG rows.length tgs)).map fun p=>yg (yr rows.length tgs p)
 | 0,_=>rfl
 | i+1,h=>by
  unfold xB
  rw [List.filter_append,List.filter_append,Jw Y i (by omega),List.range_succ,List.filter_append,List.map_append]
  congr 1
  rw [List.filter_cons_of_neg (by rw [Y.nl i (by omega)]; decide),List.filter_nil,List.append_nil,List.filter_eq_self.mpr Vt]
  unfold xX
  by_cases c:i∈yG rows.length tgs
  ·rw [if_pos c,List.filter_cons_of_pos (by rw [decide_eq_true c])]
   rfl
  ·rw [if_neg c,List.filter_cons_of_neg (by rw [decide_eq_false c]; decide)]
   rfl
theorem Jv (Y:qL rows tgs):(vx rows tgs).filter zM=((List.range (rows.length+1)).filter fun p=>decide (p∈yG rows.length tgs)).map fun p=>yg (yr rows.length tgs p):=by
 unfold vx
 rw [List.filter_append,Jw Y _ (Nat.le_refl _),List.range_succ,List.filter_append,List.map_append]
 congr 1
 rw [List.filter_eq_self.mpr Vt]
 unfold xX
 by_cases c:rows.length∈yG rows.length tgs
 ·rw [if_pos c,List.filter_cons_of_pos (by rw [decide_eq_true c])]
  rfl
 ·rw [if_neg c,List.filter_cons_of_neg (by rw [decide_eq_false c]; decide)]
  rfl
theorem OD (Y:qL rows tgs) {q:Nat} (hq:q∈yG rows.length tgs) (L:List D) (i:Nat) (hi:(z8 L).length=i) (h:(yh (yr rows.length tgs q) L).2=if q<i then some q else none):(yh (yr rows.length tgs q) (L++xX rows.length tgs i)).2=if q<i+1 then some q else none:=by
 unfold xX
 by_cases c:i∈yG rows.length tgs
 ·rw [if_pos c,UM]
  by_cases e:i=q
  ·subst e
   rw [if_pos rfl,if_pos (by omega)]
   exact congrArg some hi
  ·rw [if_neg (fun z=>e (IU Y.n60 c hq z)),h]
   by_cases z:q<i
   ·rw [if_pos z,if_pos (by omega)]
   ·rw [if_neg z,if_neg (by omega)]
 ·rw [if_neg c,List.append_nil,h]
  have e:i≠q:=fun z=>c (z ▸ hq)
  by_cases z:q<i
  ·rw [if_pos z,if_pos (by omega)]
  ·rw [if_neg z,if_neg (by omega)]
theorem OE (Y:qL rows tgs) {q:Nat} (hq:q∈yG rows.length tgs):∀ i,i<=rows.length->(yh (yr rows.length tgs q) (xB rows tgs i)).2=if q<i then some q else none
 | 0,_=>rfl
 | i+1,h=>by
  unfold xB
  rw [<- List.append_assoc,UO (Y.nl i (by omega))]
  exact OD Y hq _ i (by rw [W4 Y i (by omega),List.length_map,List.length_range]) (OE Y hq i (by omega))
theorem Gh (Y:qL rows tgs) {q:Nat} (hq:q∈yG rows.length tgs):(yh (yr rows.length tgs q) (vx rows tgs)).2=some q:=by
 unfold vx
 rw [OD Y hq _ rows.length (by rw [W4 Y _ (Nat.le_refl _),List.length_map,List.length_range]) (OE Y hq _ (Nat.le_refl _))]
 have:=(UL Y.le).mp hq
 have:=Y.le q this
 rw [if_pos (by omega)]
end
theorem OC {items:List D} (P:PC items) (hr:(z8 items).length<=60):qL ((z8 items).map z_) (zu items)/\∀ i,i<(z8 items).length->(zz (zg items i)=false/\yS items (zg items i)=none/\vh (z8 items).length (zu items) (((z8 items).map z_).getD i .non) ((zu items).getD i none)=zg items i)\/(zz (zg items i)=true/\∃ (hd:List D) (p:Nat),yS items (zg items i)=some p/\z_ (zg items i)=.tup hd/\hd≠[]/\hd.length<=2/\p∈yG (z8 items).length (zu items)/\vh (z8 items).length (zu items) (((z8 items).map z_).getD i .non) ((zu items).getD i none)=.tup (hd++[.str (yr (z8 items).length (zu items) p)])/\∀ u,yA (.tup (hd++[.str u]))/\zz (.tup (hd++[.str u]))=true/\zM (.tup (hd++[.str u]))=false):=by
 have lr:((z8 items).map z_).length=(z8 items).length:=List.length_map _
 have hle:∀ p,some p∈zu items->p<=(z8 items).length:=fun p hp=>by
  obtain ⟨r,_,e⟩:=List.mem_map.mp hp
  exact Lf e
 have main:∀ i,i<(z8 items).length->(zz (zg items i)=false/\yS items (zg items i)=none/\vh (z8 items).length (zu items) (((z8 items).map z_).getD i .non) ((zu items).getD i none)=zg items i)\/(zz (zg items i)=true/\∃ (hd:List D) (p:Nat),yS items (zg items i)=some p/\z_ (zg items i)=.tup hd/\hd≠[]/\hd.length<=2/\p∈yG (z8 items).length (zu items)/\vh (z8 items).length (zu items) (((z8 items).map z_).getD i .non) ((zu items).getD i none)=.tup (hd++[.str (yr (z8 items).length (zu items) p)])/\∀ u,yA (.tup (hd++[.str u]))/\zz (.tup (hd++[.str u]))=true/\zM (.tup (hd++[.str u]))=false):=fun i hi=>by
  have hr:=wc hi
  have hm:zg items i∈items:=(List.mem_filter.mp (List.mem_of_getElem? hr)).1
  have e1:((z8 items).map z_).getD i .non=z_ (zg items i):=by rw [List.getD_eq_getElem?_getD,List.getElem?_map,hr]; rfl
  have e2:(zu items).getD i none=yS items (zg items i):=by unfold zu; rw [List.getD_eq_getElem?_getD,List.getElem?_map,hr]; rfl
  rw [e1,e2]
  have hI:=P.it _ hm
  cases z:zz (zg items i) with
  | false=>
   have e3:yS items (zg items i)=none:=by unfold yS; rw [z]
   have e4:z_ (zg items i)=zg items i:=by unfold z_; rw [z]
   rw [e3,e4]
   exact .inl ⟨rfl,rfl,rfl⟩
  | true=>
   have:=(gJ P hm).1
   rw [z] at this
   obtain ⟨p,hp⟩:=Option.isSome_iff_exists.mp this
   obtain ⟨hd,t,ed,n1,n2,_,it,_⟩:=t5 hI z
   have eb:z_ (zg items i)=.tup hd:=by
    unfold z_
    rw [z,ed]
    show D.tup (hd++[D.str t]).dropLast=_
    rw [List.dropLast_concat]
   have hpm:some p∈zu items:=List.mem_map.mpr ⟨_,List.mem_of_getElem? hr,hp⟩
   refine .inr ⟨rfl,hd,p,hp,eb,n1,n2,(UL hle).mpr hpm,?_,it⟩
   rw [hp,eb]
   rfl
 refine ⟨⟨by omega,by unfold zu; rw [List.length_map,lr],fun p hp=>by rw [lr]; exact hle p hp,fun i hi=>?_⟩,main⟩
 rw [lr] at hi ⊢
 rcases main i hi with ⟨_,_,e⟩ | ⟨_,hd,p,_,_,_,_,_,e,it⟩
 ·rw [e]
  exact (wU P hi).2
 ·rw [e]
  exact (it _).2.2
structure wQ (X Y:List D):Prop where
 bare:(z8 X).map z_=(z8 Y).map z_
 tgs:zu X=zu Y
theorem Gd {items:List D} (P:PC items) (hr:(z8 items).length<=45):PC (yM items)/\wQ items (yM items):=by
 obtain ⟨Y,main⟩:=OC P (by omega)
 have lr:((z8 items).map z_).length=(z8 items).length:=List.length_map _
 have ra:=Oy Y
 have la:=Jv Y
 rw [lr] at ra la
 have ra:z8 (yM items)=(List.range (z8 items).length).map fun j=>vh (z8 items).length (zu items) (((z8 items).map z_).getD j .non) ((zu items).getD j none):=ra
 have hI:=(Xq P (by omega)).2
 have inr:∀ d∈yM items,zM d=false->∃ i,i<(z8 items).length/\d=vh (z8 items).length (zu items) (((z8 items).map z_).getD i .non) ((zu items).getD i none):=fun d hd hl=>by
  have:d∈z8 (yM items):=List.mem_filter.mpr ⟨hd,by rw [hl]; rfl⟩
  rw [ra] at this
  obtain ⟨i,hi,e⟩:=List.mem_map.mp this
  exact ⟨i,List.mem_range.mp hi,e.symm⟩
 have pa:∀ {q:Nat},q∈yG (z8 items).length (zu items)->(yh (yr (z8 items).length (zu items) q) (yM items)).2=some q:=fun {q} hq=>by
  have:=Gh Y (q:=q) (by rw [lr]; exact hq)
  rw [lr] at this
  exact this
 have one:∀ i,i<(z8 items).length->z_ (vh (z8 items).length (zu items) (((z8 items).map z_).getD i .non) ((zu items).getD i none))=z_ (zg items i)/\yS (yM items) (vh (z8 items).length (zu items) (((z8 items).map z_).getD i .non) ((zu items).getD i none))=yS items (zg items i):=fun i hi=>by
  rcases main i hi with ⟨z,e0,e⟩ | ⟨z,hd,p,e0,eb,n1,n2,hp,e,it⟩
  ·rw [e,e0]
   exact ⟨rfl,by unfold yS; rw [z]⟩
  ·rw [e,e0,eb]
   obtain ⟨i1,i2,i3⟩:=it (yr (z8 items).length (zu items) p)
   refine ⟨?_,?_⟩
   ·unfold z_
    rw [i2]
    show D.tup (hd++[D.str _]).dropLast=_
    rw [List.dropLast_concat]
   ·unfold yS
    rw [i2]
    show (yh (pY _) (yM items)).2=_
    rw [jb i1 i2 (tf (t:=yr (z8 items).length (zu items) p) (u := "") n1 n2).2.1]
    exact pa hp
 refine ⟨⟨hI,?_,fun d hd hj=>?_,?_⟩,⟨?_,?_⟩⟩
 ·show ((vx _ _).filter zM).Nodup
  rw [la]
  refine List.pairwise_map.mpr (List.Pairwise.imp_of_mem (fun {a b} ha hb hab=>?_) (List.Nodup.sublist List.filter_sublist (List.nodup_range (n:=(z8 items).length+1))))
  intro h
  have h:yr (z8 items).length (zu items) a=yr (z8 items).length (zu items) b:=by
   unfold yg at h
   injection h with h
   injection h with _ h
   injection h with h _
   injection h
  exact hab (IU (by omega) (of_decide_eq_true (List.mem_filter.mp ha).2) (of_decide_eq_true (List.mem_filter.mp hb).2) h)
 ·have hl:zM d=false:=by
   cases z:zM d with
   | false=>rfl
   | true=>rw [JU z] at hj; cases hj
  obtain ⟨i,hi,rfl⟩:=inr d hd hl
  rcases main i hi with ⟨z,e0,e⟩ | ⟨z,hd',p,e0,eb,n1,n2,hp,e,it⟩
  ·rw [e,z] at hj
   cases hj
  ·rw [e]
   exact ⟨_,p,(tf (t:=yr (z8 items).length (zu items) p) (u := "") n1 n2).2.1,pa hp⟩
 ·have a:=XW ((z8 items).map z_) (zu items) ((z8 items).map z_).length
  have b:=Vs ((z8 items).map z_).length (zu items) ((z8 items).map z_).length
  show (xB _ _ _++xX _ _ _).length<=100
  rw [List.length_append]
  omega
 ·rw [ra,List.map_map]
  refine List.ext_getElem? fun i=>?_
  rw [List.getElem?_map,List.getElem?_map]
  by_cases hi:i<(z8 items).length
  ·rw [wc hi,List.getElem?_range hi]
   exact congrArg some (one i hi).1.symm
  ·rw [List.getElem?_eq_none (by omega),List.getElem?_eq_none (by rw [List.length_range]; omega)]
   rfl
 ·show (z8 items).map (yS items)=(z8 (yM items)).map (yS (yM items))
  rw [ra,List.map_map]
  refine List.ext_getElem? fun i=>?_
  rw [List.getElem?_map,List.getElem?_map]
  by_cases hi:i<(z8 items).length
  ·rw [wc hi,List.getElem?_range hi]
   exact congrArg some (one i hi).2.symm
  ·rw [List.getElem?_eq_none (by omega),List.getElem?_eq_none (by rw [List.length_range]; omega)]
   rfl
theorem Ge {X Y:List D} (S:wQ X Y):yM X=yM Y:=by
 unfold yM
 rw [S.bare,S.tgs]
end L3
namespace L3
open PySem
def kz (r:D):D:=match zz r with
 | true=>ql (fun _ => "") r
 | false=>r
def uW (r:D):Nat×Nat:=(qi (uE [r]),qi (vZ [r]))
theorem Pw (t:Str):uW (.tup [.str "jump",.str t])=uW (.tup [.str "jump",.str ""]):=by kernel_rfl
theorem Pv (t:Str):(["when", "unless"].all fun w=>["carry", "nought", "sign"].all fun k=>decide (uW (.tup [.str (Str.ofString w),.str (Str.ofString k),.str t])=uW (.tup [.str (Str.ofString w),.str (Str.ofString k),.str ""])))=true:=by kernel_rfl
theorem Lj {r:D} (h:yA r):uW (kz r)=uW r:=by
 unfold kz
 cases z:zz r with
 | false=>rfl
 | true=>
  show uW (ql (fun _ => "") r)=_
  cases h with
  | label u=>cases z
  | plain h=>
   obtain ⟨_,_,_,_,c,_⟩:=qj h
   rw [c] at z
   cases z
  | jump t=>exact (Pw t).symm
  | cond t hw hk=>
   rename_i w k
   have a:=Pv t
   have go:∀ w0∈["when", "unless"],∀ k0∈["carry", "nought", "sign"],uW (.tup [.str (Str.ofString w0),.str (Str.ofString k0),.str ""])=uW (.tup [.str (Str.ofString w0),.str (Str.ofString k0),.str t]):=fun w0 h1 k0 h2=>(of_decide_eq_true (zo (zo a h1) h2)).symm
   rcases hw with rfl | rfl<;>rcases hk with rfl | rfl | rfl
   ·exact go "when" (by decide) "carry" (by decide)
   ·exact go "when" (by decide) "nought" (by decide)
   ·exact go "when" (by decide) "sign" (by decide)
   ·exact go "unless" (by decide) "carry" (by decide)
   ·exact go "unless" (by decide) "nought" (by decide)
   ·exact go "unless" (by decide) "sign" (by decide)
theorem Yz {r r':D} (h:yA r) (h':yA r') (hj:zz r=zz r') (hb:z_ r=z_ r'):kz r=kz r'/\wd r=wd r'/\(zz r=false->r=r'):=by
 cases z:zz r with
 | false=>
  have z':=hj.symm.trans z
  have e:r=r':=by
   unfold z_ at hb
   rw [z,z'] at hb
   exact hb
  rw [e]
  exact ⟨rfl,rfl,fun _=>rfl⟩
 | true=>
  have z':=hj.symm.trans z
  obtain ⟨hd,t,ed,n1,n2,rl,_,_⟩:=t5 h z
  obtain ⟨hd',t',ed',n1',n2',rl',_,_⟩:=t5 h' z'
  have e:hd=hd':=by
   unfold z_ at hb
   rw [z,z',ed,ed'] at hb
   have hb:D.tup (hd++[D.str t]).dropLast=D.tup (hd'++[D.str t']).dropLast:=hb
   rw [List.dropLast_concat,List.dropLast_concat] at hb
   injection hb
  subst e
  refine ⟨?_,?_,fun w=>nomatch w⟩
  ·unfold kz
   rw [z,z']
   show ql _ r=ql _ r'
   rw [rl,rl']
  ·rw [ed,ed']
   match hd,n1 with
   | a::hd,_=>cases a<;>rfl
theorem Qh {r:D} (h:yA r) (hj:zz r=true):ve r=false:=by
 obtain ⟨b,b1,b2,b3⟩:=Qg h
 cases h with
 | label u=>cases hj
 | plain h=>
  obtain ⟨_,_,_,_,c,_⟩:=qj h
  rw [c] at hj
  cases hj
 | jump t=>rfl
 | cond t hw hk=>rfl
section
variable {X Y:List D}
theorem wQ.len (S:wQ X Y):(z8 X).length=(z8 Y).length:=by
 have:=congrArg List.length S.bare
 rw [List.length_map,List.length_map] at this
 exact this
theorem wQ.row (S:wQ X Y) (PX:PC X) (PY:PC Y) {i:Nat} (hi:i<(z8 X).length):z_ (zg X i)=z_ (zg Y i)/\yS X (zg X i)=yS Y (zg Y i)/\zz (zg X i)=zz (zg Y i):=by
 have hi':i<(z8 Y).length:=by rw [<- S.len]; exact hi
 have b:=congrArg (fun l:List D=>l[i]?) S.bare
 have t:=congrArg (fun l:List (Option Nat)=>l[i]?) S.tgs
 unfold zu at t
 simp only [List.getElem?_map,wc hi,wc hi',Option.map_some,Option.some.injEq] at b t
 refine ⟨b,t,?_⟩
 have m1:zg X i∈X:=(List.mem_filter.mp (List.mem_of_getElem? (wc hi))).1
 have m2:zg Y i∈Y:=(List.mem_filter.mp (List.mem_of_getElem? (wc hi'))).1
 rw [<- (gJ PX m1).1,<- (gJ PY m2).1,t]
theorem wQ.at_non {X:List D} {i:Nat} (hi:¬ i<(z8 X).length):zg X i=.non:=by
 unfold zg
 rw [List.getD_eq_getElem?_getD,List.getElem?_eq_none (by omega)]
 rfl
theorem wQ.uf (S:wQ X Y) (PX:PC X) (PY:PC Y):Uf X=Uf Y/\Pf X=Pf Y:=by
 have go:∀ i,uW (zg X i)=uW (zg Y i):=fun i=>by
  by_cases hi:i<(z8 X).length
  ·have hi':i<(z8 Y).length:=by rw [<- S.len]; exact hi
   obtain ⟨b,_,j⟩:=S.row PX PY hi
   rw [<- Lj (wU PX hi).1,<- Lj (wU PY hi').1,(Yz (wU PX hi).1 (wU PY hi').1 j b).1]
  ·rw [wQ.at_non hi,wQ.at_non (by rw [<- S.len]; exact hi)]
 exact ⟨funext fun i=>congrArg Prod.fst (go i),funext fun i=>congrArg Prod.snd (go i)⟩
theorem wQ.wf (S:wQ X Y) (PX:PC X) (PY:PC Y):Wf X=Wf Y:=funext fun i=>by
 unfold Wf
 by_cases hi:i<(z8 X).length
 ·have hi':i<(z8 Y).length:=by rw [<- S.len]; exact hi
  rw [wc hi,wc hi']
  obtain ⟨b,t,j⟩:=S.row PX PY hi
  show qG _ i _=qG _ i _
  rw [t]
  unfold qG
  rw [(Yz (wU PX hi).1 (wU PY hi').1 j b).2.1]
 ·rw [List.getElem?_eq_none (by omega),List.getElem?_eq_none (by rw [<- S.len]; omega)]
theorem CO {n:Nat} {U P:Nat->Nat} {W:Nat->List Nat} {T T':List Nat} (A:NI n U P W T []) (B:NI n U P W T' []):T=T':=by
 have cl:∀ {T:List Nat},NI n U P W T []->Tr n U P W T:=fun A=>⟨A.last,fun i hi=>by rw [A.fx i hi List.not_mem_nil]; exact Sb.refl _⟩
 have eq:∀ i,i<=n->gt T i=gt T' i:=fun i hi=>(A.least T' (cl B) i hi).anti (B.least T (cl A) i hi)
 refine List.ext_getElem? fun i=>?_
 by_cases hi:i<n+1
 ·rw [Vd (by rw [A.len]; exact hi),Vd (by rw [B.len]; exact hi),eq i (by omega)]
 ·rw [List.getElem?_eq_none (by rw [A.len]; omega),List.getElem?_eq_none (by rw [B.len]; omega)]
theorem IL:∀ {a b:List Nat},a.Pairwise (·<·)->b.Pairwise (·<·)->(∀ x,x∈a↔x∈b)->a=b
 | [],[],_,_,_=>rfl
 | [],y::b,_,_,h=>by have:=(h y).mpr List.mem_cons_self; cases this
 | x::a,[],_,_,h=>by have:=(h x).mp List.mem_cons_self; cases this
 | x::a,y::b,ha,hb,h=>by
  rw [List.pairwise_cons] at ha hb
  have e:x=y:=by
   rcases List.mem_cons.mp ((h x).mp List.mem_cons_self) with z | z
   ·exact z
   ·rcases List.mem_cons.mp ((h y).mpr List.mem_cons_self) with w | w
    ·exact w.symm
    ·have:=hb.1 x z
     have:=ha.1 y w
     omega
  subst e
  rw [IL ha.2 hb.2 fun z=>⟨fun hz=>by
   rcases List.mem_cons.mp ((h z).mp (List.mem_cons_of_mem _ hz)) with w | w
   ·have:=ha.1 z hz; omega
   ·exact w,fun hz=>by
   rcases List.mem_cons.mp ((h z).mpr (List.mem_cons_of_mem _ hz)) with w | w
   ·have:=hb.1 z hz; omega
   ·exact w⟩]
theorem UG {n:Nat} {p q:Nat->Bool} (h:∀ i,i<n->p i=q i):pN n p=pN n q:=by
 unfold pN
 exact List.filter_congr fun i hi=>h i (List.mem_range.mp hi)
theorem wQ.kinds (S:wQ X Y) (PX:PC X) (PY:PC Y) (hr:(z8 X).length<=60):wT X=wT Y/\t7 X (j8 (uR [.lst X])) (j8 (uQ [.lst X])) (z8 X).length=t7 Y (j8 (uR [.lst Y])) (j8 (uQ [.lst Y])) (z8 Y).length:=by
 obtain ⟨R,s1,m1,eR⟩:=X_ PX hr
 obtain ⟨R',s2,m2,eR'⟩:=X_ PY (by rw [<- S.len]; exact hr)
 obtain ⟨T,NT,eT⟩:=Xh PX
 obtain ⟨T',NT',eT'⟩:=Xh PY
 obtain ⟨u,p⟩:=S.uf PX PY
 have w:=S.wf PX PY
 have l:=S.len
 rw [<- l,<- u,<- p,<- w] at NT'
 rw [<- l,<- w] at m2
 have e1:R=R':=IL s1 s2 fun i=>by rw [m1,m2]
 have e2:T=T':=CO NT NT'
 subst e1 e2
 have k:t7 X R T (z8 X).length=t7 Y R T (z8 Y).length:=by
  unfold t7
  rw [<- l]
  have k1:pN (z8 X).length (uZ X)=pN (z8 X).length (uZ Y):=UG fun i hi=>by
   unfold uZ
   rw [(S.row PX PY hi).2.1]
  have k2:(pN (z8 X).length fun i=>ve (zg X i))=pN (z8 X).length fun i=>ve (zg Y i):=UG fun i hi=>by
   obtain ⟨b,_,j⟩:=S.row PX PY hi
   have hi':i<(z8 Y).length:=by rw [<- l]; exact hi
   cases z:zz (zg X i) with
   | true=>rw [Qh (wU PX hi).1 z,Qh (wU PY hi').1 (j.symm.trans z)]
   | false=>rw [(Yz (wU PX hi).1 (wU PY hi').1 j b).2.2 z]
  have k3:pN (z8 X).length (uY X T)=pN (z8 X).length (uY Y T):=UG fun i hi=>by
   unfold uY
   rw [p,w]
  rw [k1,k2,k3]
 unfold wT
 rw [eR,eR',eT,eT',gK,gK,k]
 exact ⟨rfl,rfl⟩
def jp (X:List D) (p:Nat):Option Nat:=(jn (z8 X) p).map (yZ X)
def YE (J:Nat->Option Nat):Nat->Nat->Prop
 | 0,a=>J a=none
 | k+1,a=>∃ r,J a=some r/\YE J k r
theorem X4 {J:Nat->Option Str} {pl:Str->Nat}:∀ {k:Nat} {a:Str},v0 J pl k a↔YE (fun p=>(J p).map pl) k (pl a)
 | 0,a=>by
  show J (pl a)=none↔(J (pl a)).map pl=none
  cases J (pl a) with
  | none=>exact ⟨fun _=>rfl,fun _=>rfl⟩
  | some r=>exact ⟨(fun z=>nomatch z),(fun z=>nomatch z)⟩
 | k+1,a=>by
  show (∃ r,J (pl a)=some r/\v0 J pl k r)↔∃ r,(J (pl a)).map pl=some r/\YE (fun p=>(J p).map pl) k r
  constructor
  ·rintro ⟨r,e,h⟩
   exact ⟨pl r,by rw [e]; rfl,X4.mp h⟩
  ·rintro ⟨r,e,h⟩
   cases z:J (pl a) with
   | none=>rw [z] at e; cases e
   | some r0=>
    rw [z] at e
    have e:pl r0=r:=Option.some.inj e
    subst e
    exact ⟨r0,rfl,X4.mpr h⟩
def T_ (J:Nat->Option Nat) (p:Nat):Prop:=J p=none\/¬ ∃ k,YE J k p
theorem Jy (P:PC X) (t:Str):xQ X t=t↔T_ (jp X) (yZ X t):=by
 obtain ⟨k,o,_,R⟩:=j0 (J:=jn (z8 X)) (pl:=yZ X) (n:=(z8 X).length) (fun p r h=>(jc P h).2.2) (z8 X).length t [] List.nodup_nil (fun _ h=>by cases h) (Nat.sub_le _ _)
 have el:xQ X t=o.getD t:=pV R
 rw [el]
 have jn_jp:jn (z8 X) (yZ X t)=none↔jp X (yZ X t)=none:=by
  unfold jp
  cases jn (z8 X) (yZ X t) with
  | none=>exact ⟨fun _=>rfl,fun _=>rfl⟩
  | some r=>exact ⟨(fun z=>nomatch z),(fun z=>nomatch z)⟩
 cases o with
 | none=>
  refine ⟨fun _=>.inr ?_,fun _=>rfl⟩
  rintro ⟨j,hj⟩
  exact Ud R (fun _ h=>by cases h) ⟨j,X4.mpr hj⟩
 | some b=>
  obtain ⟨h1,j,h2⟩:=W5 R
  constructor
  ·intro e
   have e:b=t:=e
   subst e
   exact .inl (jn_jp.mp h1)
  ·rintro (e | e)
   ·have e:=jn_jp.mpr e
    cases R with
    | stop _=>rfl
    | go z _ _=>rw [e] at z; cases z
   ·exact absurd ⟨j,X4.mp h2⟩ e
theorem Xc {f:D->D}:∀ {L:List D},L.map f=L↔∀ d∈L,f d=d
 | []=>⟨(fun _ d h=>by cases h),fun _=>rfl⟩
 | x::L=>by
  rw [List.map_cons]
  constructor
  ·intro h d hd
   injection h with h1 h2
   rcases List.mem_cons.mp hd with rfl | hd
   ·exact h1
   ·exact Xc.mp h2 d hd
  ·intro h
   rw [h x (List.mem_cons_self ..),Xc.mpr fun d hd=>h d (List.mem_cons_of_mem _ hd)]
theorem IG (P:PC X):yk X=X↔∀ i p,i<(z8 X).length->yS X (zg X i)=some p->T_ (jp X) p:=by
 have one:∀ d∈X,zz d=true->∃ (t:Str) (p:Nat),yS X d=some p/\yZ X t=p/\(yP X d=d↔xQ X t=t):=fun d hd hj=>by
  obtain ⟨t0,p,q1,q2⟩:=P.tg d hd hj
  obtain ⟨hd',t,ed,n1,n2,rl,_,_⟩:=t5 (P.it d hd) hj
  have q3:=(tf (t:=t) (u:=t) n1 n2).2.1
  rw [<- ed,q1] at q3
  injection q3 with q3
  injection q3 with q3
  subst q3
  refine ⟨t0,p,?_,?_,?_⟩
  ·unfold yS
   rw [hj]
   show (yh (pY d) X).2=_
   rw [jb (P.it d hd) hj q1]
   exact q2
  ·unfold yZ
   rw [q2]
   rfl
  ·unfold yP
   rw [hj]
   show ql (xQ X) d=d↔_
   rw [rl]
   constructor
   ·intro e
    rw [ed] at e
    injection e with e
    have:=List.append_inj_right e rfl
    injection this with this _
    injection this
   ·intro e
    rw [e,ed]
 constructor
 ·intro h i p hi hp
  have hm:zg X i∈X:=(List.mem_filter.mp (List.mem_of_getElem? (wc hi))).1
  have hj:zz (zg X i)=true:=by
   rw [<- (gJ P hm).1,hp]
   rfl
  obtain ⟨t,p',e1,e2,e3⟩:=one _ hm hj
  rw [hp] at e1
  cases e1
  rw [<- e2]
  refine (Jy P t).mp (e3.mp ?_)
  exact Xc.mp h _ hm
 ·intro h
  refine Xc.mpr fun d hd=>?_
  cases hj:zz d with
  | false=>unfold yP; rw [hj]
  | true=>
   obtain ⟨t,p,e1,e2,e3⟩:=one d hd hj
   refine e3.mpr ((Jy P t).mpr ?_)
   rw [e2]
   have hl:zM d=false:=by
    cases z:zM d with
    | false=>rfl
    | true=>rw [JU z] at hj; cases hj
   have hm:d∈z8 X:=List.mem_filter.mpr ⟨hd,by rw [hl]; rfl⟩
   obtain ⟨i,hi,ei⟩:=List.mem_iff_getElem.mp hm
   have er:zg X i=d:=by
    have:=wc hi
    rw [List.getElem?_eq_getElem hi] at this
    rw [<- ei]
    exact (Option.some.inj this).symm
   exact h i p hi (by rw [er]; exact e1)
theorem Jc (P:PC X) {i:Nat} (hi:i<(z8 X).length):jp X i=if wd (zg X i) = "jump" then yS X (zg X i) else none:=by
 obtain ⟨hI,hl⟩:=wU P hi
 have hm:zg X i∈X:=(List.mem_filter.mp (List.mem_of_getElem? (wc hi))).1
 obtain ⟨w,a,b,c⟩:=W3 hI hl
 have ew:=Vl hI
 rw [ew] at a
 injection a with a
 injection a with a
 subst a
 have b:some (D.bl (wd (zg X i) == "jump"))=some (D.bl (wb (zg X i)).isSome):=b
 injection b with b
 injection b with b
 unfold jp
 rw [qc,wc hi]
 show (wb (zg X i)).map (yZ X)=_
 cases e:wb (zg X i) with
 | none=>
  rw [e] at b
  have:wd (zg X i) ≠ "jump" := fun z=>by rw [z] at b; cases b
  rw [if_neg this]
  rfl
 | some t=>
  rw [e] at b
  have z:wd (zg X i) = "jump" := beq_iff_eq.mp b
  rw [if_pos z]
  have ed:=c t e
  obtain ⟨t0,p,q1,q2⟩:=P.tg _ hm (by rw [ed]; rfl)
  have q1':=q1
  rw [ed] at q1'
  cases q1'
  unfold yS
  rw [show zz (zg X i)=true by rw [ed]; rfl]
  show some (yZ X t)=(yh (pY (zg X i)) X).2
  rw [jb hI (by rw [ed]; rfl) q1,q2]
  unfold yZ
  rw [q2]
  rfl
theorem wQ.jp (S:wQ X Y) (PX:PC X) (PY:PC Y):L3.jp X=L3.jp Y:=funext fun i=>by
 by_cases hi:i<(z8 X).length
 ·have hi':i<(z8 Y).length:=by rw [<- S.len]; exact hi
  obtain ⟨b,t,j⟩:=S.row PX PY hi
  rw [Jc PX hi,Jc PY hi',t,(Yz (wU PX hi).1 (wU PY hi').1 j b).2.1]
 ·unfold L3.jp
  rw [qc,qc,List.getElem?_eq_none (by omega),List.getElem?_eq_none (by rw [<- S.len]; omega)]
  rfl
theorem wQ.led (S:wQ X Y) (PX:PC X) (PY:PC Y) (h:yk X=X):yk Y=Y:=by
 refine (IG PY).mpr fun i p hi hp=>?_
 have hi':i<(z8 X).length:=by rw [S.len]; exact hi
 rw [<- S.jp PX PY]
 exact (IG PX).mp h i p hi' (by rw [(S.row PX PY hi').2.1]; exact hp)
end
end L3
namespace L3
open PySem
def gm:FS:=
 (zE (yB (xG (tE (qU .bool (z6 0))) (tK (tE (qU .int (z6 0)))))
   (yH (eC (.bl false)))
   yK)
  (yH (g_ (e2 (v8 fun i j=>decide (i<=j)) (eC (.int 0)) (z6 0)) (e2 (v8 fun i j=>decide (i<j)) (z6 0) (e2 pO (eC (.int 1)) (z6 1))))))
def jE:List D->Option (Bool×D):=FR 2 2 gm
theorem KB:∀ ds r,jE ds=some r->ds.length=2/\za 2 gm ds=some r:=yb
theorem JG (x0 x1:D):jE [x0,x1]=za 2 gm [x0,x1]:=rfl
def TR:FE:=(e2 yJ (z6 1) (eC (.str "abcdefghijklmnopqrstuvwxyz")))
def gj:FS:=
 (zE (yB (tK (tE (qU .str (z6 0))))
   (yH (eC (.bl false)))
   yK)
  (zE (yB (xG (tE (e2 (v8 fun i j=>decide (i<j)) (eL yy (zA (z6 0) zB)) (eC (.int 1)))) (tE (e2 (v8 fun i j=>decide (j<i)) (eL yy (zA (z6 0) zB)) (eC (.int 8)))))
   (yH (eC (.bl false)))
   yK)
  (yH (eL pK (zA (xJ 1 (x_ (z6 0)) (zn 1) xM TR) zB)))))
def jD:List D->Option (Bool×D):=FR 1 1 gj
theorem KA:∀ ds r,jD ds=some r->ds.length=1/\za 1 gj ds=some r:=yb
theorem JF (x0:D):jD [x0]=za 1 gj [x0]:=rfl
def qR:FS:=
 (zE (yB (tE (e2 zj (z6 1) (eC (.str "name"))))
   (yH (zQ jD (zA (z6 2) zB)))
   yK)
  (zE (yB (tE (e2 zj (z6 1) (eC (.str "mark"))))
   (yH (e2 VL (z6 2) (eC kJ)))
   yK)
  (zE (zU 3 (pJ (tE (e2 zj (z6 1) (eC (.str "n")))) (e1 (qV XD XH) (z6 0)) (e2 zI (e1 (qV kG kK) (z6 1)) (eC (.int 1)))))
  (yH (zQ jE (zA (z6 2) (zA (z6 3) zB)))))))
def p7:List D->Option (Bool×D):=FR 3 4 qR
theorem K0:∀ ds r,p7 ds=some r->ds.length=3/\za 4 qR ds=some r:=yb
theorem kH (x0 x1 x2:D):p7 [x0,x1,x2]=za 4 qR [x0,x1,x2]:=rfl
def YD:FE:=(zQ p7 (zA (z6 1) (zA (z6 3) (zA (z6 4) zB))))
def gi:FS:=
 (zE (yB (xG (tK (tE (qU .tuple (z6 0)))) (tE (e2 zj (eL yy (zA (z6 0) zB)) (eC (.int 0)))))
   (yH (eC (.bl false)))
   yK)
  (zE (zU 1 (e2 zI (z6 0) (eC (.int 0))))
  (zE (yB (xG (tK (tE (qU .str (z6 1)))) (tE (e1 (VI jZ) (z6 1))))
   (yH (eC (.bl false)))
   yK)
  (zE (zU 2 (e1 (qV jZ XG) (z6 1)))
  (zE (yB (tE (e2 yL (eL yy (zA (z6 0) zB)) (e2 yt (eL yy (zA (z6 2) zB)) (eC (.int 1)))))
   (yH (eC (.bl false)))
   yK)
  (yH (eL pK (zA (xJ 2 (Vf (z6 2) (vq (z6 0) (u7 (eC (.int 1))) v_)) (xW 3 4) xM YD) zB))))))))
def ul:List D->Option (Bool×D):=FR 1 3 gi
theorem K7:∀ ds r,ul ds=some r->ds.length=1/\za 3 gi ds=some r:=yb
theorem JE (x0:D):ul [x0]=za 3 gi [x0]:=rfl
inductive Kd where
 | name | mark | num (m:Int)
def wq (z:Str):Bool:=!(Builtin.Str.occurrences "abcdefghijklmnopqrstuvwxyz" z 0 ("abcdefghijklmnopqrstuvwxyz" : Str).length 1).isEmpty
theorem Dd (z:Str):yJ (.str z) (.str "abcdefghijklmnopqrstuvwxyz")=some (.bl (wq z)):=rfl
def jo (t:Str):Bool:=!decide ((t.length:Int)<1)&&(!decide (8<(t.length:Int))&&(t.cps.toList.map fun c=>wq ⟨#[c]⟩).all id)
def C4 (t:Str):Bool:=("carry" : Str) == t||(("nought" : Str) == t||(("sign" : Str) == t||false))
def wK:Kd->D->Bool
 | .name,.str t=>jo t
 | .mark,.str t=>C4 t
 | .num m,.int i=>decide (0<=i)&&decide (i<m)
 | _,_=>false
def vB:D->Bool
 | .dic _ _=>false
 | _=>true
theorem Fv {σ:zb} {n:Nat} {e:FE} (he:∀ z:Str,∃ σ1,zn n (.str z) σ=some σ1/\e σ1=some (.bl (wq z))) (t:Str):xi (zn n) xM e σ (t.cps.toList.map fun c=>.str ⟨#[c]⟩)=some ((t.cps.toList.map fun c=>wq ⟨#[c]⟩).map D.bl):=by
 have:=qf (g:=zn n) (e:=e) (σ:=σ) (fun d=>match d with | .str z=>.bl (wq z) | d=>d) (ds:=t.cps.toList.map fun c=>.str ⟨#[c]⟩) fun d hd=>by
  obtain ⟨c,_,rfl⟩:=List.mem_map.mp hd
  exact he _
 rw [this,List.map_map,List.map_map]
 rfl
theorem Q2 (bs:List Bool):pK [.lst (bs.map D.bl)]=some (.bl (bs.all id)):=by
 show (uV _).bind _=_
 rw [QV]
 rfl
theorem CA {d:D} (h:vB d=true):jD [d]=some (false,.bl (wK .name d)):=by
 cases d with
 | str t=>
  have lc:=Fv (n:=1) (e:=TR) (σ:=[some (false,.str t),none]) (fun z=>⟨_,rfl,by have:=Dd z; unfold TR; simp! [this]⟩) t
  have al:=Q2 (t.cps.toList.map fun c=>wq ⟨#[c]⟩)
  show _=some (false,D.bl (!decide ((t.length:Int)<1)&&(!decide (8<(t.length:Int))&&(t.cps.toList.map fun c=>wq ⟨#[c]⟩).all id)))
  rw [JF]
  unfold gj
  generalize (t.cps.toList.map fun c=>wq ⟨#[c]⟩)=BB at *
  cases h1:decide ((t.length:Int)<1) with
  | true=>simp! [h1,Bool.not_true,Bool.false_and]
  | false=>
   cases h2:decide (8<(t.length:Int)) with
   | true=>simp! [h1,h2,Bool.not_true,Bool.not_false,Bool.false_and,Bool.and_false]
   | false=>simp! [h1,h2,lc,al,Bool.not_false,Bool.true_and]
 | dic ks ds=>cases h
 | _=>rw [JF]; unfold gj; simp! []; rfl
theorem C2 {d:D} (h:vB d=true):VL d kJ=some (.bl (wK .mark d)):=by
 cases d with
 | str t=>
  have e:∀ u:Str,zc (.str u) (.str t)=(u == t):=fun u=>by unfold zc; rfl
  show some (D.bl (zc (.str "carry") (.str t)||(zc (.str "nought") (.str t)||(zc (.str "sign") (.str t)||false))))=_
  rw [e,e,e]
  rfl
 | dic ks ds=>cases h
 | lst xs=>rfl
 | tup xs=>rfl
 | int i=>
  have e:∀ u:Str,zc (.str u) (.int i)=false:=fun u=>by unfold zc; rfl
  show some (D.bl (zc (.str "carry") (.int i)||(zc (.str "nought") (.int i)||(zc (.str "sign") (.int i)||false))))=_
  rw [e,e,e]
  rfl
 | bl b=>
  have e:∀ u:Str,zc (.str u) (.bl b)=false:=fun u=>by unfold zc; rfl
  show some (D.bl (zc (.str "carry") (.bl b)||(zc (.str "nought") (.bl b)||(zc (.str "sign") (.bl b)||false))))=_
  rw [e,e,e]
  rfl
 | non=>
  have e:∀ u:Str,zc (.str u) .non=false:=fun u=>by unfold zc; rfl
  show some (D.bl (zc (.str "carry") .non||(zc (.str "nought") .non||(zc (.str "sign") .non||false))))=_
  rw [e,e,e]
  rfl
theorem Ik {d:D} (h:vB d=true) {W m:Int} (hp:ju 1 W=true) (hm:1*2 ^ W.toNat=m):jE [d,.int W]=some (false,.bl (wK (.num m) d)):=by
 cases d with
 | int i=>
  show _=some (false,D.bl (decide (0<=i)&&decide (i<m)))
  rw [JG]
  unfold gm
  cases h1:decide (0<=i)<;>simp! [h1,hp,hm,Bool.true_and,Bool.false_and]
 | dic ks ds=>cases h
 | _=>rw [JG]; unfold gm; simp! []; rfl
structure FK (w f:Str) (k:Kd) (s:D):Prop where
 ft:∀ d,vB d=true->p7 [.str w,.str f,d]=some (false,.bl (wK k d))
 sh:(k=.name/\s=.str "name")\/(k=.mark/\s=.str "mark")\/∃ m:Int,k=.num m/\s=.int m
theorem VS (w:Str):FK w "name" .name (.str "name"):=⟨fun d h=>by
 have e:zj (.str "name") (.str "name")=some (.bl true):=by rfl
 have n:=CA h
 rw [kH]
 unfold qR
 simp! [e,n],.inl ⟨rfl,rfl⟩⟩
theorem BZ (w:Str):FK w "mark" .mark (.str "mark"):=⟨fun d h=>by
 have e:zj (.str "mark") (.str "name")=some (.bl false):=by rfl
 have e2:zj (.str "mark") (.str "mark")=some (.bl true):=by rfl
 have n:=C2 h
 rw [kH]
 unfold qR
 simp! [e,e2,n],.inr (.inl ⟨rfl,rfl⟩)⟩
theorem jW (w:Str) {f:Str} (hf:f = "d" \/ f = "s"):FK w f (.num 8) (.int 8):=⟨fun d h=>by
 have n:=Ik h (W:=3) (m:=8) (by decide) (by decide)
 rcases hf with rfl | rfl
 ·have e:zj (.str "d") (.str "name")=some (.bl false):=by rfl
  have e2:zj (.str "d") (.str "mark")=some (.bl false):=by rfl
  have e3:zj (.str "d") (.str "n")=some (.bl false):=by rfl
  have g:qV kG kK (.str "d")=some (.tup [.int 24,.int 3]):=by rfl
  have i1:zI (.tup [.int 24,.int 3]) (.int 1)=some (.int 3):=rfl
  rw [kH]
  unfold qR
  simp! [e,e2,e3,g,i1,n]
 ·have e:zj (.str "s") (.str "name")=some (.bl false):=by rfl
  have e2:zj (.str "s") (.str "mark")=some (.bl false):=by rfl
  have e3:zj (.str "s") (.str "n")=some (.bl false):=by rfl
  have g:qV kG kK (.str "s")=some (.tup [.int 21,.int 3]):=by rfl
  have i1:zI (.tup [.int 21,.int 3]) (.int 1)=some (.int 3):=rfl
  rw [kH]
  unfold qR
  simp! [e,e2,e3,g,i1,n],.inr (.inr ⟨8,rfl,rfl⟩)⟩
theorem VT {w:Str} {W m:Int} (hw:qV XD XH (.str w)=some (.int W)) (hp:ju 1 W=true) (hm:1*2 ^ W.toNat=m):FK w "n" (.num m) (.int m):=⟨fun d h=>by
 have n:=Ik h hp hm
 have e:zj (.str "n") (.str "name")=some (.bl false):=by rfl
 have e2:zj (.str "n") (.str "mark")=some (.bl false):=by rfl
 have e3:zj (.str "n") (.str "n")=some (.bl true):=by rfl
 rw [kH]
 unfold qR
 simp! [e,e2,e3,hw,n],.inr (.inr ⟨m,rfl,rfl⟩)⟩
end L3
namespace L3
open PySem
structure Tt (w:Str) (fs:List Str):Prop where
 ni:VI jZ (.str w)=some (.bl false)
 gd:qV jZ XG (.str w)=some (.tup (fs.map D.str))
def uu:List Kd->List D->Bool
 | k::ks,d::ds=>wK k d&&uu ks ds
 | [],[]=>true
 | _,_=>false
inductive p5 (w:Str):List Str->List Kd->List D->Prop
 | nil:p5 w [] [] []
 | cons {f:Str} {k:Kd} {s:D} {fs:List Str} {ks:List Kd} {ss:List D}:FK w f k s->p5 w fs ks ss->p5 w (f::fs) (k::ks) (s::ss)
theorem J4 {w:Str}:∀ {fs:List Str} {ks:List Kd} {ss:List D},p5 w fs ks ss->fs.length=ks.length/\ss.length=ks.length
 | _,_,_,.nil=>⟨rfl,rfl⟩
 | _,_,_,.cons _ r=>by
  obtain ⟨a,b⟩:=J4 r
  exact ⟨by rw [List.length_cons,List.length_cons,a],by rw [List.length_cons,List.length_cons,b]⟩
theorem M3 {w:Str} {σ:zb} (he:∀ f d:D,∃ σ1,xW 3 4 (.tup [f,d]) σ=some σ1/\YD σ1=(p7 [.str w,f,d]).bind fun r=>some r.2):∀ {fs:List Str} {ks:List Kd} {ss ds:List D},p5 w fs ks ss->(∀ d∈ds,vB d=true)->ds.length=ks.length->
  ∃ bs:List Bool,bs.all id=uu ks ds/\xi (xW 3 4) xM YD σ (List.zipWith (fun x y=>D.tup [x,y]) (fs.map D.str) ds)=some (bs.map D.bl)
 | _,_,_,ds,.nil,_,hl=>by
  cases ds with
  | nil=>exact ⟨[],rfl,rfl⟩
  | cons _ _=>cases hl
 | f::fs,k::ks,s::ss,ds,.cons F r,hn,hl=>by
  cases ds with
  | nil=>cases hl
  | cons d ds=>
   obtain ⟨bs,hb,e⟩:=M3 he r (ds:=ds) (fun x hx=>hn x (List.mem_cons_of_mem _ hx)) (by simpa using hl)
   obtain ⟨σ1,e1,e2⟩:=he (.str f) d
   refine ⟨wK k d::bs,by rw [List.all_cons,hb]; rfl,?_⟩
   rw [List.map_cons,List.zipWith_cons_cons]
   show (xW 3 4 (.tup [.str f,d]) σ).bind _=_
   rw [e1]
   show (YD σ1).bind _=_
   rw [e2,F.ft d (hn d (List.mem_cons_self ..))]
   show (xi _ _ _ _ _).bind _=_
   rw [e]
   rfl
theorem Fc {w:Str} {fs:List Str} {ks:List Kd} {ss ds:List D} (W:Tt w fs) (F:p5 w fs ks ss) (hn:∀ d∈ds,vB d=true) (hk:ks.length<=5) (hd:ds.length<=400) :
  ul [.tup (.str w::ds)]=some (false,.bl (uu ks ds)):=by
 obtain ⟨l1,l2⟩:=J4 F
 obtain ⟨ni,gd⟩:=W
 have e0:zj (.int ((ds.length+1:Nat):Int)) (.int 0)=some (.bl false):=kO (by omega)
 have lf:(fs.map D.str).length=ks.length:=by rw [List.length_map,l1]
 have mis:ds.length≠ks.length->uu ks ds=false:=fun h=>by
  have g:∀ {ks:List Kd} {ds:List D},ds.length≠ks.length->uu ks ds=false:=fun {ks}=>by
   induction ks with
   | nil=>
    intro ds h
    cases ds with
    | nil=>exact absurd rfl h
    | cons _ _=>rfl
   | cons k ks ih=>
    intro ds h
    cases ds with
    | nil=>rfl
    | cons d ds=>
     show (wK k d&&uu ks ds)=false
     rw [ih (by simpa using h),Bool.and_false]
  exact g h
 by_cases hl:ds.length=ks.length
 ·have sl:kE (.tup (.str w::ds)) (some 1) none=some (.tup ds):=by
   show (if HT.sIx (ds.length+1) 0 (some 1)=0/\HT.sIx (ds.length+1) (ds.length+1) none=ds.length+1 then none else some (D.tup (tW (.str w::ds) (some 1) none)))=_
   rw [if_neg (fun z=>by
    have:=z.1
    rw [show (1:Int)=((1:Nat):Int) from rfl,HT.sIx_nat] at this
    omega)]
   unfold tW
   rw [show (1:Int)=((1:Nat):Int) from rfl,HT.sIx_nat]
   show some (D.tup ((List.drop (min 1 (ds.length+1)) (.str w::ds)).take (ds.length+1 - min 1 (ds.length+1))))=_
   rw [show min 1 (ds.length+1)=1 by omega,show ds.length+1 - 1=ds.length by omega]
   show some (D.tup (ds.take ds.length))=_
   rw [List.take_length]
  have q1:yL (.int ((ds.length+1:Nat):Int)) (.int ((ks.length:Int)+1))=some (.bl false):=by
   have:=kN (i:=((ds.length+1:Nat):Int)) (j:=(ks.length:Int)+1) (by omega)
   exact Xf this
  obtain ⟨bs,hbs,ez⟩:=M3 (w:=w) (σ:=[some (false,.tup (.str w::ds)),some (false,.str w),some (false,.tup (fs.map D.str)),none,none]) (fun f d=>⟨_,rfl,by unfold YD; simp! []⟩) F hn hl
  have al:=Q2 bs
  rw [hbs] at al
  rw [JE]
  unfold gi
  generalize bs.map D.bl=BB at *
  generalize hF:fs.map D.str=FF at *
  simp! [e0,JY,ni,gd,lf,add_int,q1,Vf,vq,u7,v_,sl,WA,ez,al]
 ·have q1:yL (.int ((ds.length+1:Nat):Int)) (.int ((ks.length:Int)+1))=some (.bl true):=by
   have:=kO (i:=((ds.length+1:Nat):Int)) (j:=(ks.length:Int)+1) (by omega)
   exact Xf this
  rw [mis hl,JE]
  unfold gi
  generalize hF:fs.map D.str=FF at *
  simp! [e0,JY,ni,gd,lf,add_int,q1]
end L3
namespace L3
open PySem
def TU:FE:=(zQ ul (zA (z6 3) zB))
def TV:FE:=(e2 zI (z6 3) (eC (.int 1)))
def Tj:FT:=(tE (zQ uC (zA (z6 3) zB)))
def TW:FE:=(e2 yJ (e2 zI (z6 3) (e1 tY (eC (.int 1)))) (z6 2))
def Tk:FT:=(tE (zQ uB (zA (z6 3) zB)))
def YZ:FS:=
 (zE (yB (xG (tK (tE (qU .list (z6 0)))) (tK (tE (eL pK (zA (xJ 1 (x_ (z6 0)) (zn 3) xM TU) zB)))))
   (yH (eC (.bl false)))
   yK)
  (zE (zU 1 (xJ 1 (x_ (z6 0)) (zn 3) Tj TV))
  (zE (yB (tE (e2 yL (eL VN (zA (z6 1) zB)) (eL yy (zA (z6 1) zB))))
   (yH (eC (.bl false)))
   yK)
  (zE (zU 2 (zQ uP (zA (z6 0) zB)))
  (yH (eL pK (zA (xJ 1 (x_ (z6 0)) (zn 3) Tk TW) zB)))))))
def qI:List D->Option (Bool×D):=FR 1 3 YZ
theorem KC:∀ ds r,qI ds=some r->ds.length=1/\za 3 YZ ds=some r:=yb
theorem Br (x0:D):qI [x0]=za 3 YZ [x0]:=rfl
def t8:D->Str
 | .tup [_,.str t]=>t
 | _ => ""
theorem Dp {d:D} (h:yA d) (hl:zM d=true):zI d (.int 1)=some (.str (t8 d)):=by
 obtain ⟨t,rfl⟩:=pR h hl
 rfl
def VA (N:List Str):Nat:=((N.map Sum.inr).foldl L2.addK []).length
theorem Jo:∀ N:List Str,jd (N.map D.str)=some (N.map Sum.inr)
 | []=>rfl
 | t::N=>by
  show (jd (N.map D.str)).bind _=_
  rw [Jo N]
  rfl
theorem Fu {N:List Str} (h:N.length<1000):VN [.lst (N.map D.str)]=some (.int (VA N:Int)):=by
 show (jd (N.map D.str)).bind _=_
 rw [Jo]
 show (if (N.map Sum.inr).length<1000 then _ else _)=_
 rw [if_pos (by rw [List.length_map]; exact h)]
 rfl
theorem IW:∀ (ks acc:List L2.Key),(acc++ks).Nodup->ks.foldl L2.addK acc=acc++ks
 | [],acc,_=>(List.append_nil _).symm
 | k::ks,acc,h=>by
  have nk:L2.memK acc k=false:=by
   cases c:L2.memK acc k with
   | false=>rfl
   | true=>
    exfalso
    obtain ⟨j,hj,e⟩:=List.any_eq_true.mp c
    have e:=of_decide_eq_true e
    subst e
    exact (List.nodup_append.mp h).2.2 j hj j (List.mem_cons_self ..) rfl
  have e:L2.addK acc k=acc++[k]:=by
   unfold L2.addK
   rw [nk,if_neg Bool.false_ne_true]
  rw [List.foldl_cons,e,IW ks (acc++[k]) (by rw [List.append_assoc]; exact h),List.append_assoc]
  rfl
theorem BI {N:List Str} (h:N.Nodup):VA N=N.length:=by
 unfold VA
 rw [IW (N.map Sum.inr) [] (by
  rw [List.nil_append]
  exact List.Pairwise.map _ (fun a b ne z=>ne (Sum.inr.inj z)) h),List.nil_append,List.length_map]
theorem JH {k:Sum Int Str}:∀ {ks:List (Sum Int Str)} {vs:List D},ks.length=vs.length->yI ks k=(getK ks vs k).isSome
 | [],vs,_=>by
  unfold getK
  rfl
 | j::ks,[],h=>by cases h
 | j::ks,v::vs,h=>by
  show (decide (j=k)||yI ks k)=_
  unfold getK
  by_cases c:j=k
  ·rw [if_pos c,decide_eq_true c]
   rfl
  ·rw [if_neg c,decide_eq_false c,Bool.false_or]
   exact JH (by simpa using h)
theorem tt {m n:Int} (h0:0<=n) (h1:n<m):wK (.num m) (.int n)=true:=by
 show (decide (0<=n)&&decide (n<m))=true
 rw [decide_eq_true h0,decide_eq_true h1]
 rfl
theorem Fz {c:Nat} (h0:97<=c) (h1:c<=122):wq ⟨#[c]⟩=true:=by
 have h:∀ j:Fin 26,wq ⟨#[97+j.val]⟩=true:=by decide +kernel
 have:=h ⟨c - 97,by omega⟩
 rw [show 97+(⟨c - 97,by omega⟩:Fin 26).val=c by show 97+(c - 97)=c; omega] at this
 exact this
theorem Xb {N:List Str} (hN:∀ t∈N,jo t=true) {d:D} (h:gR N d):ul [d]=some (false,.bl true):=by
 have go:∀ {w:Str} {fs:List Str} {ks:List Kd} {ss ds:List D},Tt w fs->p5 w fs ks ss->ks.length<=5->(∀ d∈ds,vB d=true)->ds.length<=400->uu ks ds=true->ul [.tup (.str w::ds)]=some (false,.bl true):=fun W F a b c e=>by
  have:=Fc W F b a c
  rw [e] at this
  exact this
 have a1:∀ {k:Kd} {x:D},wK k x=true->uu [k] [x]=true:=fun {k x} h=>by
  show (wK k x&&true)=true
  rw [h]; rfl
 have a2:∀ {k l:Kd} {x y:D},wK k x=true->wK l y=true->uu [k,l] [x,y]=true:=fun {k l x y} h1 h2=>by
  show (wK k x&&(wK l y&&true))=true
  rw [h1,h2]; rfl
 have a3:∀ {k l m:Kd} {x y z:D},wK k x=true->wK l y=true->wK m z=true->uu [k,l,m] [x,y,z]=true:=fun {k l m x y z} h1 h2 h3=>by
  show (wK k x&&(wK l y&&(wK m z&&true)))=true
  rw [h1,h2,h3]; rfl
 have n1:∀ {x:D},vB x=true->∀ d∈[x],vB d=true:=fun h d hd=>by rw [List.mem_singleton.mp hd]; exact h
 have n2:∀ {x y:D},vB x=true->vB y=true->∀ d∈[x,y],vB d=true:=fun h1 h2 d hd=>by
  rcases List.mem_cons.mp hd with rfl | hd
  ·exact h1
  ·exact n1 h2 d hd
 have n3:∀ {x y z:D},vB x=true->vB y=true->vB z=true->∀ d∈[x,y,z],vB d=true:=fun h1 h2 h3 d hd=>by
  rcases List.mem_cons.mp hd with rfl | hd
  ·exact h1
  ·exact n2 h2 h3 d hd
 rcases h with h | ⟨t,ht,rfl⟩
 ·cases h with
  | plain h=>
   cases h with
   | stop=>exact go (ks:=[]) (ss:=[]) ⟨rfl,rfl⟩ .nil (by simp) (fun _ h=>by cases h) (by simp) rfl
   | imm hw d0 d1 z0 z1=>
    rename_i w x n
    exact go (fs:=["d", "n"]) (ks:=[.num 8,.num 65536]) (ss:=[.int 8,.int 65536]) (by rcases hw with rfl | rfl<;>exact ⟨rfl,rfl⟩) (.cons (jW w (.inl rfl)) (.cons (VT (W:=16) (by rcases hw with rfl | rfl<;>rfl) (by decide) (by decide)) .nil)) (by simp) (n2 rfl rfl) (by simp) (a2 (tt d0 d1) (tt z0 z1))
   | mov hw d0 d1 z0 z1=>
    rename_i w x n
    exact go (fs:=["d", "n"]) (ks:=[.num 8,.num 32]) (ss:=[.int 8,.int 32]) (by rcases hw with rfl | rfl<;>exact ⟨rfl,rfl⟩) (.cons (jW w (.inl rfl)) (.cons (VT (W:=5) (by rcases hw with rfl | rfl<;>rfl) (by decide) (by decide)) .nil)) (by simp) (n2 rfl rfl) (by simp) (a2 (tt d0 d1) (tt z0 z1))
   | two hw d0 d1 z0 z1=>
    rename_i w x n
    exact go (fs:=["d", "s"]) (ks:=[.num 8,.num 8]) (ss:=[.int 8,.int 8]) (by rcases hw with rfl | rfl | rfl | rfl | rfl | rfl | rfl | rfl | rfl<;>exact ⟨rfl,rfl⟩) (.cons (jW w (.inl rfl)) (.cons (jW w (.inr rfl)) .nil)) (by simp) (n2 rfl rfl) (by simp) (a2 (tt d0 d1) (tt z0 z1))
   | mem hw d0 d1 z0 z1 y0 y1=>
    rename_i w x n m
    exact go (fs:=["d", "s", "n"]) (ks:=[.num 8,.num 8,.num 256]) (ss:=[.int 8,.int 8,.int 256]) (by rcases hw with rfl | rfl | rfl | rfl<;>exact ⟨rfl,rfl⟩) (.cons (jW w (.inl rfl)) (.cons (jW w (.inr rfl)) (.cons (VT (W:=8) (by rcases hw with rfl | rfl | rfl | rfl<;>rfl) (by decide) (by decide)) .nil))) (by simp) (n3 rfl rfl rfl) (by simp) (a3 (tt d0 d1) (tt z0 z1) (tt y0 y1))
  | jump ht=>exact go (fs:=["name"]) (ks:=[.name]) (ss:=[.str "name"]) ⟨rfl,rfl⟩ (.cons (VS _) .nil) (by simp) (n1 rfl) (by simp) (a1 (hN _ ht))
  | cond hw hk ht=>
   rename_i w k0 t
   exact go (fs:=["mark", "name"]) (ks:=[.mark,.name]) (ss:=[.str "mark",.str "name"]) (by rcases hw with rfl | rfl<;>exact ⟨rfl,rfl⟩) (.cons (BZ w) (.cons (VS w) .nil)) (by simp) (n2 rfl rfl) (by simp) (a2 (by rcases hk with rfl | rfl | rfl<;>rfl) (hN _ ht))
 ·exact go (fs:=["name"]) (ks:=[.name]) (ss:=[.str "name"]) ⟨rfl,rfl⟩ (.cons (VS _) .nil) (by simp) (n1 rfl) (by simp) (a1 (hN _ ht))
theorem Dl {L:List D} (P:PC L) (hi:∀ d∈L,ul [d]=some (false,.bl true)):qI [.lst L]=some (false,.bl true):=by
 have ln:=P.ln
 have b1:=qf (g:=zn 3) (e:=TU) (σ:=[some (false,.lst L),none,none,none]) (fun _=>D.bl true) (ds:=L) fun d hd=>by
  have e:=hi d hd
  refine ⟨_,rfl,?_⟩
  unfold TU
  simp! [e]
 have al:=Q3 L
 have n1:=tm (g:=zn 3) (c:=Tj) (e:=TV) (σ:=[some (false,.lst L),none,none,none]) zM (fun d=>.str (t8 d)) (ds:=L) fun d hd=>by
  have e:=XO (P.it d hd)
  refine ⟨_,rfl,?_,fun hl=>?_⟩
  ·unfold Tj
   simp! [e]
  ·have f:=Dp (P.it d hd) hl
   unfold TV
   simp! [f]
 have en:(L.filter zM).map (fun d=>D.str (t8 d))=((L.filter zM).map t8).map D.str:=by rw [List.map_map]; rfl
 rw [en] at n1
 have ll:((L.filter zM).map t8).length<=100:=by
  rw [List.length_map]
  have:=List.length_filter_le zM L
  omega
 have nd:((L.filter zM).map t8).Nodup:=by
  refine List.pairwise_map.mpr (List.Pairwise.imp_of_mem (fun {a b} ha hb hab=>?_) P.nd)
  obtain ⟨ma,la⟩:=List.mem_filter.mp ha
  obtain ⟨mb,lb⟩:=List.mem_filter.mp hb
  obtain ⟨t,rfl⟩:=pR (P.it a ma) la
  obtain ⟨u,rfl⟩:=pR (P.it b mb) lb
  intro z
  have z:t=u:=z
  exact hab (by rw [z])
 have ls:=Fu (N:=(L.filter zM).map t8) (by omega)
 rw [BI nd] at ls
 have lm:(((L.filter zM).map t8).map D.str).length=((L.filter zM).map t8).length:=List.length_map _
 generalize (L.filter zM).map t8=N at *
 have q:yL (.int (N.length:Int)) (.int (N.length:Int))=some (.bl false):=Xf (kN rfl)
 obtain ⟨ks,vs,el,lk,hk⟩:=Ju P.it (by omega)
 have j1:=tm (g:=zn 3) (c:=Tk) (e:=TW) (σ:=[some (false,.lst L),some (false,.lst (N.map D.str)),some (false,.dic ks vs),none]) zz (fun _=>D.bl true) (ds:=L) fun d hd=>by
  have e:=XN (P.it d hd)
  refine ⟨_,rfl,?_,fun hj=>?_⟩
  ·unfold Tk
   generalize N.map D.str=NN at *
   simp! [e]
  ·obtain ⟨t,p,e1,e2⟩:=P.tg d hd hj
   have e3:yJ (.str t) (.dic ks vs)=some (.bl true):=by
    show (some (yI ks (.inr t))).bind _=_
    rw [JH lk,hk,e2]
    rfl
   unfold TW
   generalize N.map D.str=NN at *
   simp! [e1,e3]
 have aj:=Q3 (L.filter zz)
 rw [Br]
 unfold YZ
 generalize L.map (fun _=>D.bl true)=A1 at *
 generalize (L.filter zz).map (fun _=>D.bl true)=A2 at *
 generalize N.map D.str=NN at *
 simp! [b1,al,Bool.not_true,n1,ls,lm,q,el,j1,aj]
end L3
namespace L3
open PySem
def Q5:FS:=
 (zE (zU 1 (xP p8 (zA (z6 0) (zA (eC (.int 1)) (zA (eC (.int 14)) zB)))))
  (zE (yB (tE (e2 zj (e2 ym (zQ wX (zA (z6 0) (zA (eC (.int 28)) zB))) (eC (.int 3))) (eC (.int 1))))
   (zU 1 (zQ jK (zA (z6 1) (zA (z6 0) (zA (eC (.int 46)) zB)))))
   yK)
  (zE (wV 2 (eL vf (zA (z6 1) zB)))
  (zE (wV 3 (ux (xP wg (zA (z6 2) zB))))
  (zE (yB (qC (xG (tE (e2 jV (zQ qI (zA (z6 3) zB)) (eC (.bl true)))) (xG (tE (e2 yL (z6 2) (z6 1))) (tE (e2 (v8 fun i j=>decide (j<i)) (eL yy (zA (zQ vn (zA (z6 3) zB)) zB)) (eL yy (zA (zQ vn (zA (z6 1) zB)) zB)))))))
   (yH (eC (.bl false)))
   yK)
  (zE (zU 4 (ux (eL vf (zA (z6 3) zB))))
  (zE (zU 5 (ux (eL vf (zA (z6 3) zB))))
  (zE (yB (qC (xG (tE (e2 yL (xP um (zA (z6 3) zB)) (z6 3))) (xG (tE (e2 yL (xP uD (zA (z6 3) zB)) (z6 3))) (xG (tE (e2 yL (xP tO (zA (z6 3) zB)) (y_ zB))) (tE (e2 yL (xP wg (zA (z6 3) zB)) (z6 3)))))))
   (yH (eC (.bl false)))
   yK)
  (zE (wV 6 (xP wg (zA (z6 4) zB)))
  (zE (wN 6 wE (xK (zA (eC (.str "stop")) zB)))
  (zE (vi 6) (zE (wN 3 wE (xK (zA (eC (.str "stop")) zB)))
  (zE (vi 3) (zE (yB (xG (tE (e2 yL (wo 2) (z6 1))) (tE (e2 yL (z6 4) (z6 5))))
   (yH (eC (.bl false)))
   yK)
  (zE (jy 2 X7)
  (zE (vi 2) (yH (e2 zj (xP wg (zA (z6 1) zB)) (z6 5)))))))))))))))))))
theorem Vy (k:Int) (h0:0<=k) (h1:k<26):wq (lt k)=true:=Fz (c:=97+k.toNat) (by omega) (by omega)
theorem CU {n:Nat} (h:n<702):jo (nm n)=true:=by
 have lc:∀ x:Int,(lt x).cps.toList=[97+x.toNat]:=fun _=>rfl
 have le:(("" : Str)).cps.toList=[]:=rfl
 unfold nm
 split
 ·have l:(lt (n:Int) ++ "").length=1:=by rw [Vz]; rfl
  have z:=Vy (n:Int) (by omega) (by omega)
  have z:wq ⟨#[97+(n:Int).toNat]⟩=true:=z
  unfold jo
  rw [l,pI,lc,le,List.append_nil]
  show (true&&(true&&(wq ⟨#[97+(n:Int).toNat]⟩&&true)))=true
  rw [z]
  rfl
 ·have l:(lt (((n:Int) - 26) / 26)++(lt (((n:Int) - 26) % 26) ++ "")).length=2:=by rw [Vz,Vz]; rfl
  have z:wq ⟨#[97+(((n:Int) - 26) / 26).toNat]⟩=true:=Vy (((n:Int) - 26) / 26) (by omega) (by omega)
  have y:wq ⟨#[97+(((n:Int) - 26) % 26).toNat]⟩=true:=Vy (((n:Int) - 26) % 26) (by omega) (by omega)
  unfold jo
  rw [l,pI,pI,lc,lc,le,List.append_nil]
  show (true&&(true&&(wq ⟨#[97+(((n:Int) - 26) / 26).toNat]⟩&&(wq ⟨#[97+(((n:Int) - 26) % 26).toNat]⟩&&true))))=true
  rw [z,y]
  rfl
theorem Gf {items:List D} (P:PC items) (hr:(z8 items).length<=45):∀ d∈yM items,ul [d]=some (false,.bl true):=fun d hd=>by
 obtain ⟨Y,main⟩:=OC P (by omega)
 have lr:((z8 items).map z_).length=(z8 items).length:=List.length_map _
 have hI:=(Xq P (by omega)).2 d hd
 have nmI:∀ p,p∈yG (z8 items).length (zu items)->jo (yr (z8 items).length (zu items) p)=true:=fun p hp=>by
  have le:=UK (z8 items).length (zu items)
  have:=List.idxOf_lt_length_of_mem hp
  exact CU (by omega)
 cases hl:zM d with
 | true=>
  have hm:d∈(yM items).filter zM:=List.mem_filter.mpr ⟨hd,hl⟩
  have la:=Jv Y
  rw [lr] at la
  have hm:d∈(vx ((z8 items).map z_) (zu items)).filter zM:=hm
  rw [la] at hm
  obtain ⟨p,hp,rfl⟩:=List.mem_map.mp hm
  have hp:=of_decide_eq_true (List.mem_filter.mp hp).2
  exact Xb (N:=[yr (z8 items).length (zu items) p]) (fun t ht=>by rw [List.mem_singleton.mp ht]; exact nmI p hp) (.inr ⟨_,List.mem_singleton.mpr rfl,rfl⟩)
 | false=>
  have hm:d∈z8 (yM items):=List.mem_filter.mpr ⟨hd,by rw [hl]; rfl⟩
  have ra:=Oy Y
  rw [lr] at ra
  have hm:d∈z8 (vx ((z8 items).map z_) (zu items)):=hm
  rw [ra] at hm
  obtain ⟨i,hi,rfl⟩:=List.mem_map.mp hm
  have hi:=List.mem_range.mp hi
  rcases main i hi with ⟨z,_,e⟩ | ⟨z,hd',p,_,_,n1,n2,hp,e,it⟩
  ·rw [e] at hI hl ⊢
   generalize zg items i=r at hI hl z ⊢
   cases hI with
   | label u=>cases hl
   | plain h=>exact Xb (N:=[]) (fun _ h=>by cases h) (.inl (.plain h))
   | jump t=>cases z
   | cond t hw hk=>rcases hw with rfl | rfl<;>cases z
  ·rw [e] at hI hl ⊢
   obtain ⟨i1,i2,i3⟩:=it (yr (z8 items).length (zu items) p)
   obtain ⟨_,e1,_⟩:=tf (t:=yr (z8 items).length (zu items) p) (u := "") n1 n2
   have ok:=nmI p hp
   generalize yr (z8 items).length (zu items) p=u at *
   generalize D.tup (hd'++[D.str u])=dd at *
   cases i1 with
   | label t=>cases i2
   | plain h=>
    obtain ⟨_,_,_,_,c,_⟩:=qj h
    rw [c] at i2
    cases i2
   | jump t=>
    have e1:some (D.str t)=some (D.str u):=e1
    injection e1 with e1
    injection e1 with e1
    subst e1
    exact Xb (N:=[t]) (fun x hx=>by rw [List.mem_singleton.mp hx]; exact ok) (.inl (.jump (List.mem_singleton.mpr rfl)))
   | cond t hw hk=>
    have e1:some (D.str t)=some (D.str u):=e1
    injection e1 with e1
    injection e1 with e1
    subst e1
    exact Xb (N:=[t]) (fun x hx=>by rw [List.mem_singleton.mp hx]; exact ok) (.inl (.cond hw hk (List.mem_singleton.mpr rfl)))
theorem J3:∀ {ls:List (List Nat)},vt ls=[]->∀ l∈ls,l=[]
 | [],_,_,h=>by cases h
 | l::ls,h,x,hx=>by
  unfold vt at h
  split at h
  ·rename_i e
   rcases List.mem_cons.mp hx with rfl | hx
   ·exact List.isEmpty_iff.mp e
   ·exact J3 h x hx
  ·rename_i e
   rw [h] at e
   exact absurd rfl e
theorem BY {b:List D} (P:PC b) (h:xq b=b):wT (yk b)=[]/\yk b=b:=by
 have q:wT (yk b)=[]:=by
  cases z:wT (yk b) with
  | nil=>rfl
  | cons x xs=>
   have hx:x∈wT (yk b):=by rw [z]; exact List.mem_cons_self
   have lt:=OT x hx
   have dec:=(XQ (wT (yk b)) (yk b) (0,[])).2 ⟨x,hx,Nat.zero_le _,by show x<0+_; omega⟩
   have dec:(z8 (xq b)).length<0+(z8 (yk b)).length:=dec
   rw [Xa P,h] at dec
   omega
 refine ⟨q,?_⟩
 have e:xq b=yk b:=by
  unfold xq xt
  rw [q,kT]
  rfl
 rw [<- e]
 exact h
theorem LP:∀ {k:Nat} {a b:List D},qN k a b->xq b=b
 | _,_,_,.fin h=>h
 | _,_,_,.go _ S=>LP S
theorem KG:∀ ns:List Int,ns.length<=63->(∀ m∈ns,xf m<=1048576)->∃ o,za 7 Q5 [.lst (ns.map D.int)]=some (o,.bl true):=fun ns hl hb=>by
 refine ⟨false,?_⟩
 obtain ⟨N,R0,items0,hR0,_,_,_,P0,er0,l0,e0⟩:=Gm hl hb (first:=1) (most:=14) (by decide) (by decide) (by decide) (by decide)
 obtain ⟨a,a0,a1,ea⟩:=jj hl hb (k:=28) (by decide) (by decide)
 have em:∀ i:Nat,i<41->∃ m:Int,0<=m/\wX [.lst (ns.map D.int),.int (46+(i:Int))]=some (false,.int m):=fun i hi=>by
  obtain ⟨m,h0,_,e⟩:=jj hl hb (k:=46+(i:Int)) (by omega) (by omega)
  exact ⟨m,h0,e⟩
 generalize D.lst (ns.map D.int)=s at e0 ea em ⊢
 have go:∀ items:List D,PC items->items.length<=40->(zE (wV 2 (eL vf (zA (z6 1) zB)))
  (zE (wV 3 (ux (xP wg (zA (z6 2) zB))))
  (zE (yB (qC (xG (tE (e2 jV (zQ qI (zA (z6 3) zB)) (eC (.bl true)))) (xG (tE (e2 yL (z6 2) (z6 1))) (tE (e2 (v8 fun i j=>decide (j<i)) (eL yy (zA (zQ vn (zA (z6 3) zB)) zB)) (eL yy (zA (zQ vn (zA (z6 1) zB)) zB)))))))
   (yH (eC (.bl false)))
   yK)
  (zE (zU 4 (ux (eL vf (zA (z6 3) zB))))
  (zE (zU 5 (ux (eL vf (zA (z6 3) zB))))
  (zE (yB (qC (xG (tE (e2 yL (xP um (zA (z6 3) zB)) (z6 3))) (xG (tE (e2 yL (xP uD (zA (z6 3) zB)) (z6 3))) (xG (tE (e2 yL (xP tO (zA (z6 3) zB)) (y_ zB))) (tE (e2 yL (xP wg (zA (z6 3) zB)) (z6 3)))))))
   (yH (eC (.bl false)))
   yK)
  (zE (wV 6 (xP wg (zA (z6 4) zB)))
  (zE (wN 6 wE (xK (zA (eC (.str "stop")) zB)))
  (zE (vi 6) (zE (wN 3 wE (xK (zA (eC (.str "stop")) zB)))
  (zE (vi 3) (zE (yB (xG (tE (e2 yL (wo 2) (z6 1))) (tE (e2 yL (z6 4) (z6 5))))
   (yH (eC (.bl false)))
   yK)
  (zE (jy 2 X7)
  (zE (vi 2) (yH (e2 zj (xP wg (zA (z6 1) zB)) (z6 5))))))))))))))))) [some (false,s),some (false,.lst items),none,none,none,none,none]=some (.rt false (.bl true)):=fun items P h40=>by
  have rl:(z8 items).length<=items.length:=List.length_filter_le _ _
  obtain ⟨k,b,hk,S⟩:=LO (z8 items).length P (Nat.le_refl _)
  have s1:=LC S P (by omega) (by omega)
  obtain ⟨Pb,rb⟩:=Uy S P
  obtain ⟨qb,lb⟩:=BY Pb (LP S)
  obtain ⟨PF,Sm⟩:=Gd Pb (by omega)
  have lF:=Sm.led Pb PF lb
  have rF:(z8 (yM b)).length=(z8 b).length:=Sm.len.symm
  have eqp:yM (yM b)=yM b:=(Ge Sm).symm
  have kF:=Sm.kinds Pb PF (by omega)
  have qF:wT (yM b)=[]:=by
   rw [<- kF.1]
   rw [lb] at qb
   exact qb
  have fF:xq (yM b)=yM b:=by
   unfold xq xt
   rw [lF,qF,kT]
   rfl
  have s2:=LC (.fin fF) PF (by omega) (by omega)
  obtain ⟨p2,_⟩:=Xq PF (by omega)
  rw [eqp] at s2 p2
  have ip:=Dl PF (Gf Pb (by omega))
  have ld:uD [.lst (yM b)]=some (true,.lst (yM b)):=by
   have:=IF PF
   have lF:(yM b).map (yP (yM b))=yM b:=lF
   rw [lF] at this
   exact this
  have idl:tO [.lst (yM b)]=some (true,.lst []):=by
   obtain ⟨R,_,_,eR⟩:=X_ PF (by omega)
   obtain ⟨T,NT,eT⟩:=Xh PF
   have z:=Dc PF (by omega) eR NT.len eT
   have ks:=J3 qF
   rw [eR,eT,gK,gK] at ks
   have no:∀ p:Nat->Bool,pN (z8 (yM b)).length p=[]->∀ i,i<(z8 (yM b)).length->p i=false:=fun p h i hi=>by
    cases e:p i with
    | false=>rfl
    | true=>
     have:i∈pN (z8 (yM b)).length p:=tz.mpr ⟨hi,e⟩
     rw [h] at this
     cases this
   have k0:=no _ (ks _ (List.mem_cons_self ..))
   have k1:=no _ (ks _ (List.mem_cons_of_mem _ (List.mem_cons_self ..)))
   have k2:=no _ (ks _ (List.mem_cons_of_mem _ (List.mem_cons_of_mem _ (List.mem_cons_self ..))))
   have k3:=no _ (ks _ (List.mem_cons_of_mem _ (List.mem_cons_of_mem _ (List.mem_cons_of_mem _ (List.mem_cons_self ..)))))
   have e:pN (z8 (yM b)).length (ja (yM b) R T)=[]:=by
    unfold pN
    refine List.filter_eq_nil_iff.mpr fun i hi=>?_
    have hi:=List.mem_range.mp hi
    unfold ja
    have z0:(!decide (i∈R))=false:=k0 i hi
    have z2:ve (zg (yM b) i)=false:=k2 i hi
    rw [z0,k1 i hi,z2,k3 i hi]
    decide
   rw [e] at z
   exact z
  have r1:vn [.lst (yM b)]=some (true,.lst (z8 (yM b))):=Jz PF.it
  have r2:vn [.lst items]=some (true,.lst (z8 items)):=Jz P.it
  have c1:decide (((z8 items).length:Int)<((z8 (yM b)).length:Int))=false:=decide_eq_false (by omega)
  have fl:∀ L:List D,vf [.lst L]=some (.lst L):=fun _=>rfl
  have tI:∀ {L:List D},(∀ d∈L,yA d)->L.all q_=true:=fun {L} h=>List.all_eq_true.mpr fun d hd=>by
   have:=h d hd
   cases this with
   | label u=>rfl
   | plain h=>cases h<;>rfl
   | jump u=>rfl
   | cond u hw hk=>rfl
  have tF:=tI PF.it
  have n1:=Xg (Xl P.it)
  have n2:=Xg (Xl PF.it)
  have q2:=BO (Xl PF.it)
  have n3:yL (.lst []) (.lst [])=some (.bl false):=rfl
  have nb:jV (.bl true) (.bl true)=some (.bl false):=rfl
  have ap:=tV (L:=yM b) (r:=.tup [.str "stop"]) (by have:=PF.ln; omega)
  have cl:X7 (.lst items)=some (.lst []):=rfl
  generalize z8 (yM b)=RF at *
  generalize z8 items=RI at *
  generalize yM b=FF at *
  have d1:ux (xP wg (zA (z6 2) zB)) [some (false,s),some (false,.lst items),some (true,.lst items),none,none,none,none]=some (.lst FF):=by
   show ((xP wg (zA (z6 2) zB) [some (false,s),some (false,.lst items),some (false,.lst items),none,none,none,none]).bind _)=_
   rw [show xP wg (zA (z6 2) zB) [some (false,s),some (false,.lst items),some (false,.lst items),none,none,none,none]=some (.lst FF) by simp! [s1]]
   show (if FF.all q_=true then _ else _)=_
   rw [if_pos tF]
  have t1:(qC (xG (tE (e2 jV (zQ qI (zA (z6 3) zB)) (eC (.bl true)))) (xG (tE (e2 yL (z6 2) (z6 1))) (tE (e2 (v8 fun i j=>decide (j<i)) (eL yy (zA (zQ vn (zA (z6 3) zB)) zB)) (eL yy (zA (zQ vn (zA (z6 1) zB)) zB))))))) [some (false,s),some (false,.lst items),some (true,.lst items),some (true,.lst FF),none,none,none]=some false:=by
   show (xG _ _) [some (false,s),some (false,.lst items),some (false,.lst items),some (false,.lst FF),none,none,none]=_
   simp! [ip,nb,n1,r1,r2,c1]
  have d2:ux (eL vf (zA (z6 3) zB)) [some (false,s),some (false,.lst items),some (true,.lst items),some (true,.lst FF),none,none,none]=some (.lst FF):=by
   show ((eL vf (zA (z6 3) zB) [some (false,s),some (false,.lst items),some (false,.lst items),some (false,.lst FF),none,none,none]).bind _)=_
   rw [show eL vf (zA (z6 3) zB) [some (false,s),some (false,.lst items),some (false,.lst items),some (false,.lst FF),none,none,none]=some (.lst FF) by simp! [fl]]
   show (if FF.all q_=true then _ else _)=_
   rw [if_pos tF]
  have d3:ux (eL vf (zA (z6 3) zB)) [some (false,s),some (false,.lst items),some (true,.lst items),some (true,.lst FF),some (false,.lst FF),none,none]=some (.lst FF):=by
   show ((eL vf (zA (z6 3) zB) [some (false,s),some (false,.lst items),some (false,.lst items),some (false,.lst FF),some (false,.lst FF),none,none]).bind _)=_
   rw [show eL vf (zA (z6 3) zB) [some (false,s),some (false,.lst items),some (false,.lst items),some (false,.lst FF),some (false,.lst FF),none,none]=some (.lst FF) by simp! [fl]]
   show (if FF.all q_=true then _ else _)=_
   rw [if_pos tF]
  have t2:(qC (xG (tE (e2 yL (xP um (zA (z6 3) zB)) (z6 3))) (xG (tE (e2 yL (xP uD (zA (z6 3) zB)) (z6 3))) (xG (tE (e2 yL (xP tO (zA (z6 3) zB)) (y_ zB))) (tE (e2 yL (xP wg (zA (z6 3) zB)) (z6 3))))))) [some (false,s),some (false,.lst items),some (true,.lst items),some (true,.lst FF),some (false,.lst FF),some (false,.lst FF),none]=some false:=by
   show (xG _ _) [some (false,s),some (false,.lst items),some (false,.lst items),some (false,.lst FF),some (false,.lst FF),some (false,.lst FF),none]=_
   simp! [p2,n2,ld,idl,n3,s2]
  rw [xb (σ':=[some (false,s),some (false,.lst items),some (true,.lst items),none,none,none,none]) (by simp! [fl])]
  rw [xb (σ':=[some (false,s),some (false,.lst items),some (true,.lst items),some (true,.lst FF),none,none,none]) (by simp! [d1])]
  rw [xb (σ':=[some (false,s),some (false,.lst items),some (true,.lst items),some (true,.lst FF),none,none,none]) (by
   show ((qC _ _).bind _)=_
   rw [t1]
   rfl)]
  rw [xb (σ':=[some (false,s),some (false,.lst items),some (true,.lst items),some (true,.lst FF),some (false,.lst FF),none,none]) (by simp! [d2])]
  rw [xb (σ':=[some (false,s),some (false,.lst items),some (true,.lst items),some (true,.lst FF),some (false,.lst FF),some (false,.lst FF),none]) (by simp! [d3])]
  rw [xb (σ':=[some (false,s),some (false,.lst items),some (true,.lst items),some (true,.lst FF),some (false,.lst FF),some (false,.lst FF),none]) (by
   show ((qC _ _).bind _)=_
   rw [t2]
   rfl)]
  simp! [s2,ap,n1,n2,cl,s1,q2]
 unfold Q5
 show ((zE _ _ _).bind _)=_
 rw [xb (σ':=[some (false,s),some (false,.lst items0),none,none,none,none,none]) (by simp! [e0])]
 by_cases h:a % 3=1
 ·have k1:=kN h
  obtain ⟨items,P,l1,ej⟩:=RB P0 l0 em
  rw [xb (σ':=[some (false,s),some (false,.lst items),none,none,none,none,none]) (by simp! [ea,k1,ej]),go items P (by omega)]
  rfl
 ·have k1:=kO h
  rw [xb (σ':=[some (false,s),some (false,.lst items0),none,none,none,none,none]) (by simp! [ea,k1]),go items0 P0 l0]
  rfl
end L3
namespace My
open PySem L2 L3
set_option maxHeartbeats 4000000
def top (i:Nat):Stmt:=PySem.Challenge.pw_markrun_k56_short_is_settled.main.body.getD i (.Pass ⟨0,0,0,0⟩)
section
variable {P:Program} {w:World} {K:PySem.W.Frag} {mg:Str->Option Value} {base:Heap} {A_JUMPS:Addr} {A_MARKS:Addr} {A_LOOK_AT_D:Addr} {A_LOOK_AT_S:Addr} {A_LOOK_AT_CARRY:Addr} {A_PUT_D:Addr} {A_PUT_NOUGHT_AND_SIGN:Addr} {A_FIELDS:Addr} {A_NUMBER_WIDTHS:Addr} {A_PLACES:Addr} {A_PUT_CARRY:Addr} {A_IDLE_KINDS:Addr}
abbrev ZL:Stmt:=top 14
theorem Kw:yD ["item"] ["item"] (zr ZL):=⟨rfl,rfl,rfl,by decide +kernel,rfl,by decide +kernel,by decide +kernel⟩
theorem Cm (d:zJ K mg "is_label" ZL ["item"]):zO P w K mg base "is_label" ["item"] 1 (zP K uC):=
 zJ.okS d Kw (by decide) K9 fun f cdv A outer s H E hr=>(zS (yY (u9 (xU (yO hr)) xS (zF (zf (zd (zT hr)) ze (z7 0) zK)) (zF zh) (zx _))))
abbrev ZK:Stmt:=top 15
theorem Kv:yD ["item"] ["item"] (zr ZK):=⟨rfl,rfl,rfl,by decide +kernel,rfl,by decide +kernel,by decide +kernel⟩
theorem Cl (d:zJ K mg "is_jump" ZK ["item"]) (g_JUMPS:yU mg "JUMPS" (.ref A_JUMPS)) (q_JUMPS:∀ H,zR K H XF (.ref A_JUMPS)):zO P w K mg base "is_jump" ["item"] 1 (zP K uB):=
 zJ.okS d Kv (by decide) K8 fun f cdv A outer s H E hr=>(zS (yY (u9 (wv (zT hr)) wt (zF (zf (zd (zT hr)) ze (z7 0) zK)) (zF (vE g_JUMPS q_JUMPS rfl)) (by with_unfolding_all rfl))))
abbrev Zo:Stmt:=top 16
theorem N3:yD ["items"] ["items"] (zr Zo):=⟨rfl,rfl,rfl,by decide +kernel,rfl,by decide +kernel,by decide +kernel⟩
theorem EM (d:zJ K mg "rows_of" Zo ["items"]) (h_is_label:zO P w K mg base "is_label" ["item"] 1 (zP K uC)):zO P w K mg base "rows_of" ["items"] 2 (zP K xO):=
 zJ.okS d N3 (by decide) Kj fun f cdv A outer s H E hr=>(zS (wO (wI rfl (xg (own:=["item"]) rfl) (wW (z7 0)) (wD (fun C s H fp pn=>(ya (i:=1) (show (yx ["items"] ["item"]).Nodup by decide +kernel) rfl (Or.inl rfl))) rfl) (fun C s H fp pn=>(ud (qy (wz (zt h_is_label hr rfl (zC (z7 1) zH)))))) (fun C s H fp pn=>(z7 1)))))
abbrev ZP:Stmt:=top 17
theorem Zx:yD ["items", "places", "place", "item"] ["items"] (zr ZP):=⟨rfl,rfl,rfl,by decide +kernel,rfl,by decide +kernel,by decide +kernel⟩
theorem Cq (d:zJ K mg "label_places" ZP ["items"]) (h_is_label:zO P w K mg base "is_label" ["item"] 1 (zP K uC)):zO P w K mg base "label_places" ["items"] 2 (zP K uP):=
 zJ.okS d Zx (by decide) KD fun f cdv A outer s H E hr=>(zL (vj (i:=1) Zx.nd rfl (Or.inl rfl) Us)
  (zL (zp (i:=2) Zx.nd rfl (Or.inl rfl) zK)
  (zL (gF PassesOwn.never rfl (wW (z7 0)) (Y6 (ya (i:=3) Zx.nd rfl (Or.inl rfl)) rfl)
   (zS (yR (wz (zt h_is_label hr rfl (zC (z7 3) zH)))
     (zS (Ux (zT hr) (qv 1) (zf (zd (zT hr)) ze (z7 3) zK) (z7 2)))
     (zS (LI (i:=2) JT Im Zx.nd rfl (Or.inl rfl) zK)))))
  (zS (gG 1)))))
abbrev ZN:Stmt:=top 1
theorem Ky:yD ["thing", "width"] ["thing", "width"] (zr ZN):=⟨rfl,rfl,rfl,by decide +kernel,rfl,by decide +kernel,by decide +kernel⟩
theorem Co (d:zJ K mg "is_number" ZN ["thing", "width"]) (z_isinstance:mg "isinstance" = none) (z_int:mg "int" = none) (z_bool:mg "bool" = none):zO P w K mg base "is_number" ["thing", "width"] 1 (zP K jE):=
 zJ.okS d Ky (by decide) KB fun f cdv A outer s H E hr=>(zL (yR (vT (vS (wz (gA .bool rfl rfl z_isinstance z_bool MX (zF (z7 0)))) (ug (qy (wz (gA .int rfl rfl z_isinstance z_int MY (zF (z7 0))))))))
   (zS (yY vD))
   yi)
  (zS (yY (Uo (u9 Ef ub (zF zK) (zF (z7 0)) (zx _)) (W9 (u9 pf ub (zF (z7 0)) (zF (zV Z2 Z0 zK (z7 1))) (zx _)))))))
abbrev ZM:Stmt:=top 12
theorem Kx:yD ["thing"] ["thing"] (zr ZM):=⟨rfl,rfl,rfl,by decide +kernel,rfl,by decide +kernel,by decide +kernel⟩
theorem Cn (d:zJ K mg "is_name" ZM ["thing"]) (z_isinstance:mg "isinstance" = none) (z_str:mg "str" = none) (z_len:mg "len" = none) (z_all:mg "all" = none) (g_NAME_LONGEST:yU mg "NAME_LONGEST" (.int 8)) (q_NAME_LONGEST:∀ H,zR K H (.int 8) (.int 8)) (g_LETTERS:yU mg "LETTERS" (.str "abcdefghijklmnopqrstuvwxyz")) (q_LETTERS:∀ H,zR K H (.str "abcdefghijklmnopqrstuvwxyz") (.str "abcdefghijklmnopqrstuvwxyz")):zO P w K mg base "is_name" ["thing"] 1 (zP K jD):=
 zJ.okS d Kx (by decide) KA fun f cdv A outer s H E hr=>(zL (yR (qy (wz (gA .str rfl rfl z_isinstance z_str QW (zF (z7 0)))))
   (zS (yY vD))
   yi)
  (zL (yR (vT (vS (zm pf ub (zF (xL xl xo rfl z_len xh (xC (zF (z7 0)) xF))) (zF zK) (zx _)) (ug (zm UD ub (zF (xL xl xo rfl z_len xh (xC (zF (z7 0)) xF))) (zF (vE g_NAME_LONGEST q_NAME_LONGEST rfl)) (zx _)))))
   (zS (yY vD))
   yi)
  (zS (yY (xL (X0 rfl) Xk rfl z_all Y_ (xC (zF (yd (wI rfl (xg (own:=["sign"]) rfl) (wW (z7 0)) (wD (fun C s H fp pn=>(ya (i:=1) (show (yx ["thing"] ["sign"]).Nodup by decide +kernel) rfl (Or.inl rfl))) rfl) (fun C s H fp pn=>vk) (fun C s H fp pn=>(u9 (wv (zT hr)) wt (zF (z7 1)) (zF (vE g_LETTERS q_LETTERS rfl)) (by with_unfolding_all rfl)))))) xF))))))
abbrev ZG:Stmt:=top 11
theorem O_:yD ["kind", "field", "thing", "width"] ["kind", "field", "thing"] (zr ZG):=⟨rfl,rfl,rfl,by decide +kernel,rfl,by decide +kernel,by decide +kernel⟩
theorem Cg (d:zJ K mg "fits" ZG ["kind", "field", "thing"]) (g_MARKS:yU mg "MARKS" (.ref A_MARKS)) (q_MARKS:∀ H,zR K H kJ (.ref A_MARKS)) (g_NUMBER_WIDTHS:yU mg "NUMBER_WIDTHS" (.ref A_NUMBER_WIDTHS)) (q_NUMBER_WIDTHS:uT K w A_NUMBER_WIDTHS XD XH) (g_PLACES:yU mg "PLACES" (.ref A_PLACES)) (q_PLACES:uT K w A_PLACES kG kK) (h_is_name:zO P w K mg base "is_name" ["thing"] 1 (zP K jD)) (h_is_number:zO P w K mg base "is_number" ["thing", "width"] 1 (zP K jE)):zO P w K mg base "fits" ["kind", "field", "thing"] 2 (zP K p7):=
 zJ.okS d O_ (by decide) K0 fun f cdv A outer s H E hr=>(zL (yR (zm (xU (yO hr)) xS (zF (z7 1)) (zF zh) (zx _))
   (zS (yY (zt h_is_name hr rfl (zC (z7 2) zH))))
   yi)
  (zL (yR (zm (xU (yO hr)) xS (zF (z7 1)) (zF zh) (zx _))
   (zS (yY (u9 (Eb (zT hr)) Cj (zF (z7 2)) (zF (vE g_MARKS q_MARKS rfl)) (by with_unfolding_all rfl))))
   yi)
  (zL (zp (i:=3) O_.nd rfl (Or.inl rfl) (Y4 (zm (xU (yO hr)) xS (zF (z7 1)) (zF zh) (zx _)) (Up g_NUMBER_WIDTHS q_NUMBER_WIDTHS rfl (z7 0)) (zf (zd (zT hr)) ze (Up g_PLACES q_PLACES rfl (z7 1)) zK)))
  (zS (yY (zt h_is_number hr rfl (zC (z7 2) (zC (z7 3) zH))))))))
abbrev ZJ:Stmt:=top 10
theorem Ui:yD ["thing", "kind", "fields"] ["thing"] (zr ZJ):=⟨rfl,rfl,rfl,by decide +kernel,rfl,by decide +kernel,by decide +kernel⟩
theorem Ck (d:zJ K mg "is_item" ZJ ["thing"]) (z_len:mg "len" = none) (z_isinstance:mg "isinstance" = none) (z_tuple:mg "tuple" = none) (z_str:mg "str" = none) (z_all:mg "all" = none) (z_zip:mg "zip" = none) (g_FIELDS:yU mg "FIELDS" (.ref A_FIELDS)) (q_FIELDS:uT K w A_FIELDS jZ XG) (h_fits:zO P w K mg base "fits" ["kind", "field", "thing"] 2 (zP K p7)):zO P w K mg base "is_item" ["thing"] 3 (zP K ul):=
 zJ.okS d Ui (by decide) K7 fun f cdv A outer s H E hr=>(zL (yR (vT (vS (qy (wz (gA .tuple rfl rfl z_isinstance z_tuple MZ (zF (z7 0))))) (ug (zm (xU (yO hr)) xS (zF (xL xl xo rfl z_len xh (xC (zF (z7 0)) xF))) (zF zK) (zx _)))))
   (zS (yY vD))
   yi)
  (zL (zp (i:=1) Ui.nd rfl (Or.inr rfl) (zf (zd (zT hr)) ze (z7 0) zK))
  (zL (yR (vT (vS (qy (wz (gA .str rfl rfl z_isinstance z_str QW (zF (z7 1))))) (ug (Nz g_FIELDS q_FIELDS rfl (z7 1)))))
   (zS (yY vD))
   yi)
  (zL (zp (i:=2) Ui.nd rfl (Or.inl rfl) (Up g_FIELDS q_FIELDS rfl (z7 1)))
  (zL (yR (zm (ww (yO hr)) wu (zF (xL xl xo rfl z_len xh (xC (zF (z7 0)) xF))) (zF (zV xT xR (xL xl xo rfl z_len xh (xC (zF (z7 2)) xF)) zK)) (zx _))
   (zS (yY vD))
   yi)
  (zS (yY (xL (X0 rfl) Xk rfl z_all Y_ (xC (zF (yd (wI rfl (xg (own:=["field", "held"]) rfl) (NY rfl z_zip (z7 2) (gB (z7 0) (gE zK) gD)) (gr (fun C s H fp pn=>(py (n:=2) rfl (vg (ya (i:=3) (show (yx ["thing", "kind", "fields"] ["field", "held"]).Nodup by decide +kernel) rfl (Or.inl rfl)) (vg (ya (i:=4) (show (yx ["thing", "kind", "fields"] ["field", "held"]).Nodup by decide +kernel) rfl (Or.inl rfl)) pz)))) rfl rfl) (fun C s H fp pn=>vk) (fun C s H fp pn=>(zt h_fits hr rfl (zC (z7 1) (zC (z7 3) (zC (z7 4) zH)))))))) xF)))))))))
abbrev ZO:Stmt:=top 13
theorem Uj:yD ["thing", "names", "places"] ["thing"] (zr ZO):=⟨rfl,rfl,rfl,by decide +kernel,rfl,by decide +kernel,by decide +kernel⟩
theorem Cp (d:zJ K mg "is_program" ZO ["thing"]) (z_all:mg "all" = none) (z_isinstance:mg "isinstance" = none) (z_list:mg "list" = none) (z_len:mg "len" = none) (z_set:mg "set" = none) (h_is_item:zO P w K mg base "is_item" ["thing"] 3 (zP K ul)) (h_is_label:zO P w K mg base "is_label" ["item"] 1 (zP K uC)) (h_label_places:zO P w K mg base "label_places" ["items"] 2 (zP K uP)) (h_is_jump:zO P w K mg base "is_jump" ["item"] 1 (zP K uB)):zO P w K mg base "is_program" ["thing"] 4 (zP K qI):=
 zJ.okS d Uj (by decide) KC fun f cdv A outer s H E hr=>(zL (yR (vT (vS (qy (wz (gA .list rfl rfl z_isinstance z_list V2 (zF (z7 0))))) (ug (qy (wz (xL (X0 rfl) Xk rfl z_all Y_ (xC (zF (yd (wI rfl (xg (own:=["held"]) rfl) (wW (z7 0)) (wD (fun C s H fp pn=>(ya (i:=3) (show (yx ["thing", "names", "places"] ["held"]).Nodup by decide +kernel) rfl (Or.inl rfl))) rfl) (fun C s H fp pn=>vk) (fun C s H fp pn=>(zt h_is_item hr rfl (zC (z7 3) zH)))))) xF)))))))
   (zS (yY vD))
   yi)
  (zL (WC (i:=1) rfl Uj.nd rfl rfl (xg (own:=["item"]) rfl) rfl (wW (z7 0)) (wD (fun C s H fp pn=>(ya (i:=3) (show (yx ["thing", "names", "places"] ["item"]).Nodup by decide +kernel) rfl (Or.inl rfl))) rfl) (fun C s H fp pn=>(ud (wz (zt h_is_label hr rfl (zC (z7 3) zH))))) (fun C s H fp pn=>(zf (zd (zT hr)) ze (z7 3) zK)))
  (zL (yR (zm (ww (yO hr)) wu (zF (NA rfl rfl z_len rfl z_set (zC (z7 1) zH))) (zF (xL xl xo rfl z_len xh (xC (zF (z7 1)) xF))) (zx _))
   (zS (yY vD))
   yi)
  (zL (zp (i:=2) Uj.nd rfl (Or.inr rfl) (zt h_label_places hr rfl (zC (z7 0) zH)))
  (zS (yY (xL (X0 rfl) Xk rfl z_all Y_ (xC (zF (yd (wI rfl (xg (own:=["item"]) rfl) (wW (z7 0)) (wD (fun C s H fp pn=>(ya (i:=3) (show (yx ["thing", "names", "places"] ["item"]).Nodup by decide +kernel) rfl (Or.inl rfl))) rfl) (fun C s H fp pn=>(ud (wz (zt h_is_jump hr rfl (zC (z7 3) zH))))) (fun C s H fp pn=>(u9 (wv (zT hr)) wt (zF (zf (zd (zT hr)) ze (z7 3) (qt j9 j7 zK))) (zF (z7 2)) (by with_unfolding_all rfl)))))) xF))))))))
abbrev Zq:Stmt:=top 18
theorem L6:yD ["items", "places"] ["items"] (zr Zq):=⟨rfl,rfl,rfl,by decide +kernel,rfl,by decide +kernel,by decide +kernel⟩
theorem EO (d:zJ K mg "targets_of" Zq ["items"]) (h_label_places:zO P w K mg base "label_places" ["items"] 2 (zP K uP)) (h_rows_of:zO P w K mg base "rows_of" ["items"] 2 (zP K xO)) (h_is_jump:zO P w K mg base "is_jump" ["item"] 1 (zP K uB)):zO P w K mg base "targets_of" ["items"] 3 (zP K uS):=
 zJ.okS d L6 (by decide) Kl fun f cdv A outer s H E hr=>(zL (zp (i:=1) L6.nd rfl (Or.inr rfl) (zt h_label_places hr rfl (zC (z7 0) zH)))
  (zS (wO (wI rfl (xg (own:=["row"]) rfl) (wW (zt h_rows_of hr rfl (zC (z7 0) zH))) (wD (fun C s H fp pn=>(ya (i:=2) (show (yx ["items", "places"] ["row"]).Nodup by decide +kernel) rfl (Or.inl rfl))) rfl) (fun C s H fp pn=>vk) (fun C s H fp pn=>(Y4 (wz (zt h_is_jump hr rfl (zC (z7 2) zH))) (zf (zd (zT hr)) ze (z7 1) (zf (zd (zT hr)) ze (z7 2) (qt j9 j7 zK))) Y5))))))
abbrev Zd:Stmt:=top 30
theorem N1:yD ["mark"] ["mark"] (zr Zd):=⟨rfl,rfl,rfl,by decide +kernel,rfl,by decide +kernel,by decide +kernel⟩
theorem E7 (d:zJ K mg "mark_bit" Zd ["mark"]) (g_MARK_LOW:yU mg "MARK_LOW" (.int 8)) (q_MARK_LOW:∀ H,zR K H (.int 8) (.int 8)) (g_MARKS:yU mg "MARKS" (.ref A_MARKS)) (q_MARKS:∀ H,zR K H kJ (.ref A_MARKS)) (k_MARKS:ut K A_MARKS):zO P w K mg base "mark_bit" ["mark"] 1 (zP K tP):=
 zJ.okS d N1 (by decide) KU fun f cdv A outer s H E hr=>(zS (yY (zV Z2 Z0 zK (zV xT xR (vE g_MARK_LOW q_MARK_LOW rfl) (N8 g_MARKS q_MARKS k_MARKS rfl (z7 0))))))
abbrev Ze:Stmt:=top 31
theorem N2:yD ["row"] ["row"] (zr Ze):=⟨rfl,rfl,rfl,by decide +kernel,rfl,by decide +kernel,by decide +kernel⟩
theorem E8 (d:zJ K mg "moves_by_nought" Ze ["row"]):zO P w K mg base "moves_by_nought" ["row"] 1 (zP K YH):=
 zJ.okS d N2 (by decide) KW fun f cdv A outer s H E hr=>(zS (yY (Uo (NC (u9 (xU (yO hr)) xS (zF (zf (zd (zT hr)) ze (z7 0) zK)) (zF zh) (zx _)) (W9 (u9 (xU (yO hr)) xS (zF (zf (zd (zT hr)) ze (z7 0) zK)) (zF zh) (zx _)))) (W9 (u9 (xU (yO hr)) xS (zF (zf (zd (zT hr)) ze (z7 0) zK)) (zF zK) (zx _))))))
abbrev Zs:Stmt:=top 28
theorem Y2:yD ["row", "need"] ["row"] (zr Zs):=⟨rfl,rfl,rfl,by decide +kernel,rfl,by decide +kernel,by decide +kernel⟩
theorem ER (d:zJ K mg "used" Zs ["row"]) (g_ALL_NEEDED:yU mg "ALL_NEEDED" (.int 2047)) (q_ALL_NEEDED:∀ H,zR K H (.int 2047) (.int 2047)) (g_LOOK_AT_D:yU mg "LOOK_AT_D" (.ref A_LOOK_AT_D)) (q_LOOK_AT_D:∀ H,zR K H VY (.ref A_LOOK_AT_D)) (g_LOOK_AT_S:yU mg "LOOK_AT_S" (.ref A_LOOK_AT_S)) (q_LOOK_AT_S:∀ H,zR K H VZ (.ref A_LOOK_AT_S)) (g_LOOK_AT_CARRY:yU mg "LOOK_AT_CARRY" (.ref A_LOOK_AT_CARRY)) (q_LOOK_AT_CARRY:∀ H,zR K H VX (.ref A_LOOK_AT_CARRY)) (h_mark_bit:zO P w K mg base "mark_bit" ["mark"] 1 (zP K tP)):zO P w K mg base "used" ["row"] 2 (zP K uE):=
 zJ.okS d Y2 (by decide) Kn fun f cdv A outer s H E hr=>(zL (yR (zm (xU (yO hr)) xS (zF (zf (zd (zT hr)) ze (z7 0) zK)) (zF zh) (zx _))
   (zS (yY (vE g_ALL_NEEDED q_ALL_NEEDED rfl)))
   yi)
  (zL (yR (vT (vS (zm (xU (yO hr)) xS (zF (zf (zd (zT hr)) ze (z7 0) zK)) (zF zh) (zx _)) (ug (zm (xU (yO hr)) xS (zF (zf (zd (zT hr)) ze (z7 0) zK)) (zF zh) (zx _)))))
   (zS (yY (zt h_mark_bit hr rfl (zC (zf (zd (zT hr)) ze (z7 0) zK) zH))))
   yi)
  (zL (zp (i:=1) Y2.nd rfl (Or.inl rfl) zK)
  (zL (yR (zm (wv (zT hr)) wt (zF (zf (zd (zT hr)) ze (z7 0) zK)) (zF (vE g_LOOK_AT_D q_LOOK_AT_D rfl)) (by with_unfolding_all rfl))
   (zS (zp (i:=1) Y2.nd rfl (Or.inl rfl) (zV tw ua (z7 1) (zV Z2 Z0 zK (zf (zd (zT hr)) ze (z7 0) zK)))))
   yi)
  (zL (yR (zm (wv (zT hr)) wt (zF (zf (zd (zT hr)) ze (z7 0) zK)) (zF (vE g_LOOK_AT_S q_LOOK_AT_S rfl)) (by with_unfolding_all rfl))
   (zS (zp (i:=1) Y2.nd rfl (Or.inl rfl) (zV tw ua (z7 1) (zV Z2 Z0 zK (zf (zd (zT hr)) ze (z7 0) zK)))))
   yi)
  (zL (yR (zm (wv (zT hr)) wt (zF (zf (zd (zT hr)) ze (z7 0) zK)) (zF (vE g_LOOK_AT_CARRY q_LOOK_AT_CARRY rfl)) (by with_unfolding_all rfl))
   (zS (zp (i:=1) Y2.nd rfl (Or.inl rfl) (zV tw ua (z7 1) (zt h_mark_bit hr rfl (zC zh zH)))))
   yi)
  (zS (yY (z7 1)))))))))
abbrev Zm:Stmt:=top 29
theorem Y0:yD ["row", "need"] ["row"] (zr Zm):=⟨rfl,rfl,rfl,by decide +kernel,rfl,by decide +kernel,by decide +kernel⟩
theorem EK (d:zJ K mg "put" Zm ["row"]) (g_PUT_D:yU mg "PUT_D" (.ref A_PUT_D)) (q_PUT_D:∀ H,zR K H Vb (.ref A_PUT_D)) (g_PUT_NOUGHT_AND_SIGN:yU mg "PUT_NOUGHT_AND_SIGN" (.ref A_PUT_NOUGHT_AND_SIGN)) (q_PUT_NOUGHT_AND_SIGN:∀ H,zR K H Vc (.ref A_PUT_NOUGHT_AND_SIGN)) (g_PUT_CARRY:yU mg "PUT_CARRY" (.ref A_PUT_CARRY)) (q_PUT_CARRY:∀ H,zR K H Va (.ref A_PUT_CARRY)) (h_mark_bit:zO P w K mg base "mark_bit" ["mark"] 1 (zP K tP)) (h_moves_by_nought:zO P w K mg base "moves_by_nought" ["row"] 1 (zP K YH)):zO P w K mg base "put" ["row"] 2 (zP K vZ):=
 zJ.okS d Y0 (by decide) Kh fun f cdv A outer s H E hr=>(zL (zp (i:=1) Y0.nd rfl (Or.inl rfl) zK)
  (zL (yR (zm (wv (zT hr)) wt (zF (zf (zd (zT hr)) ze (z7 0) zK)) (zF (vE g_PUT_D q_PUT_D rfl)) (by with_unfolding_all rfl))
   (zS (zp (i:=1) Y0.nd rfl (Or.inl rfl) (zV tw ua (z7 1) (zV Z2 Z0 zK (zf (zd (zT hr)) ze (z7 0) zK)))))
   yi)
  (zL (yR (zm (wv (zT hr)) wt (zF (zf (zd (zT hr)) ze (z7 0) zK)) (zF (vE g_PUT_NOUGHT_AND_SIGN q_PUT_NOUGHT_AND_SIGN rfl)) (by with_unfolding_all rfl))
   (zS (zp (i:=1) Y0.nd rfl (Or.inl rfl) (zV tw ua (zV tw ua (z7 1) (zt h_mark_bit hr rfl (zC zh zH))) (zt h_mark_bit hr rfl (zC zh zH)))))
   yi)
  (zL (yR (vT (WE (zm (wv (zT hr)) wt (zF (zf (zd (zT hr)) ze (z7 0) zK)) (zF (vE g_PUT_CARRY q_PUT_CARRY rfl)) (by with_unfolding_all rfl)) (WF (qy (wz (zt h_moves_by_nought hr rfl (zC (z7 0) zH)))))))
   (zS (zp (i:=1) Y0.nd rfl (Or.inl rfl) (zV tw ua (z7 1) (zt h_mark_bit hr rfl (zC zh zH)))))
   yi)
  (zS (yY (z7 1)))))))
abbrev Zt:Stmt:=top 33
theorem N5:yD ["row", "number", "target"] ["row", "number", "target"] (zr Zt):=⟨rfl,rfl,rfl,by decide +kernel,rfl,by decide +kernel,by decide +kernel⟩
theorem ES (d:zJ K mg "ways_from" Zt ["row", "number", "target"]) (z_sorted:mg "sorted" = none) (z_set:mg "set" = none):zO P w K mg base "ways_from" ["row", "number", "target"] 1 (zP K jO):=
 zJ.okS d N5 (by decide) Ko fun f cdv A outer s H E hr=>(zL (yR (zm (xU (yO hr)) xS (zF (zf (zd (zT hr)) ze (z7 0) zK)) (zF zh) (zx _))
   (zS (wO (xV zH (yC yF (by decide)))))
   yi)
  (zL (yR (zm (xU (yO hr)) xS (zF (zf (zd (zT hr)) ze (z7 0) zK)) (zF zh) (zx _))
   (zS (wO (xV (zC (z7 2) zH) (yC (zW yF) (by decide)))))
   yi)
  (zL (yR (zm Iy Io (zF (z7 2)) (zF Y5) (zx _))
   (zS (wO (xV (zC (zV xT xR (z7 1) zK) zH) (yC (zW yF) (by decide)))))
   yi)
  (zS (wO (Uv rfl rfl z_sorted rfl z_set (zC (yd (xV (zC (zV xT xR (z7 1) zK) (zC (z7 2) zH)) (yC (zW (zW yF)) (by decide)))) zH)))))))
abbrev Zu:Stmt:=top 32
theorem L7:yD ["items", "rows"] ["items"] (zr Zu):=⟨rfl,rfl,rfl,by decide +kernel,rfl,by decide +kernel,by decide +kernel⟩
theorem ET (d:zJ K mg "ways_of" Zu ["items"]) (z_enumerate:mg "enumerate" = none) (h_rows_of:zO P w K mg base "rows_of" ["items"] 2 (zP K xO)) (h_targets_of:zO P w K mg base "targets_of" ["items"] 3 (zP K uS)) (h_ways_from:zO P w K mg base "ways_from" ["row", "number", "target"] 1 (zP K jO)):zO P w K mg base "ways_of" ["items"] 4 (zP K uo):=
 zJ.okS d L7 (by decide) Kp fun f cdv A outer s H E hr=>(zL (zp (i:=1) L7.nd rfl (Or.inr rfl) (zt h_rows_of hr rfl (zC (z7 0) zH)))
  (zS (wO (wI rfl (xg (own:=["number", "target"]) rfl) (gC rfl z_enumerate (zt h_targets_of hr rfl (zC (z7 0) zH))) (gr (fun C s H fp pn=>(py (n:=2) rfl (vg (ya (i:=2) (show (yx ["items", "rows"] ["number", "target"]).Nodup by decide +kernel) rfl (Or.inl rfl)) (vg (ya (i:=3) (show (yx ["items", "rows"] ["number", "target"]).Nodup by decide +kernel) rfl (Or.inl rfl)) pz)))) rfl rfl) (fun C s H fp pn=>vk) (fun C s H fp pn=>(zt h_ways_from hr rfl (zC (zf (zd (zT hr)) ze (z7 1) (z7 2)) (zC (z7 2) (zC (z7 3) zH)))))))))
abbrev Zh:Stmt:=top 37
theorem W7:yD ["told", "places", "need", "place"] ["told", "places"] (zr Zh):=⟨rfl,rfl,rfl,by decide +kernel,rfl,by decide +kernel,by decide +kernel⟩
theorem ED (d:zJ K mg "needed_at" Zh ["told", "places"]):zO P w K mg base "needed_at" ["told", "places"] 1 (zP K tQ):=
 zJ.okS d W7 (by decide) Kb fun f cdv A outer s H E hr=>(zL (zp (i:=2) W7.nd rfl (Or.inl rfl) zK)
  (zL (gF PassesOwn.never rfl (wW (z7 1)) (Y6 (ya (i:=3) W7.nd rfl (Or.inl rfl)) rfl)
   (zS (zp (i:=2) W7.nd rfl (Or.inl rfl) (zV tw ua (z7 2) (zf (zd (zT hr)) ze (z7 0) (z7 3))))))
  (zS (yY (z7 2)))))
abbrev ZE:Stmt:=top 38
theorem Zw:yD ["ways", "comers", "place", "number", "places"] ["ways"] (zr ZE):=⟨rfl,rfl,rfl,by decide +kernel,rfl,by decide +kernel,by decide +kernel⟩
theorem Ce (d:zJ K mg "comers_of" ZE ["ways"]) (z_range:mg "range" = none) (z_len:mg "len" = none) (z_enumerate:mg "enumerate" = none):zO P w K mg base "comers_of" ["ways"] 1 (zP K p6):=
 zJ.okS d Zw (by decide) Hz fun f cdv A outer s H E hr=>(Ny (i:=1) rfl (Nk (i:=1) rfl Zw.nd rfl rfl (xg (own:=["place"]) rfl) rfl (qu rfl z_range (zV xT xR (xL xl xo rfl z_len xh (xC (zF (z7 0)) xF)) zK)) (wD (fun C s H fp pn=>(ya (i:=5) (show (yx ["ways", "comers", "place", "number", "places"] ["place"]).Nodup by decide +kernel) rfl (Or.inl rfl))) rfl) (fun _ _=>rfl))
  (CZ (Ih PassesOwn.never rfl (gC rfl z_enumerate (z7 0)) (NP (py (n:=2) rfl (vg (ya (i:=3) Zw.nd rfl (Or.inl rfl)) (vg (ya (i:=4) Zw.nd rfl (Or.inl rfl)) pz))) rfl rfl)
    (U7 (Ih PassesOwn.never rfl (wW (z7 4)) (NQ (ya (i:=2) Zw.nd rfl (Or.inl rfl)) rfl)
      (U7 (CW (zT hr) (qv 1) (z7 2) (z7 3))))))
   (U7 CY)))
abbrev Zn:Stmt:=top 34
theorem Y1:yD ["items", "ways", "found", "due", "number"] ["items"] (zr Zn):=⟨rfl,rfl,rfl,by decide +kernel,rfl,by decide +kernel,by decide +kernel⟩
theorem EL (d:zJ K mg "reached" Zn ["items"]) (z_len:mg "len" = none) (z_sorted:mg "sorted" = none) (h_ways_of:zO P w K mg base "ways_of" ["items"] 4 (zP K uo)):zO P w K mg base "reached" ["items"] 5 (zP K uR):=
 zJ.okS d Y1 (by decide) Ki fun f cdv A outer s H E hr=>(zL (zp (i:=1) Y1.nd rfl (Or.inl rfl) (zt h_ways_of hr rfl (zC (z7 0) zH)))
  (zL (vj (i:=2) Y1.nd rfl (Or.inl rfl) Us)
  (zL (vj (i:=3) Y1.nd rfl (Or.inl rfl) (xV (zC zK zH) (yC (zW yF) (by decide))))
  (zL (Y9 PassesOwn.never (zm (ww (yO hr)) wu (j_ 3) (zF (yd (xV zH (yC yF (by decide))))) (zx _))
   (zL (LM (i:=3) (j:=4) (qv 3) Y1.nd rfl (Or.inl rfl))
    (zS (yR (vT (WE (zm pf ub (zF (z7 4)) (zF (xL xl xo rfl z_len xh (xC (zF (z7 1)) xF))) (zx _)) (WF (zm (UE (zT hr)) UA (zF (z7 4)) (j_ 2) (by with_unfolding_all rfl)))))
     (zL (Ux (zT hr) (qv 2) (z7 4) vD)
      (zS (LJ (qv 3) (zf (zd (zT hr)) ze (z7 1) (z7 4)))))
     yi))))
  (qx 3 (qx 2 (zS (wO (NM rfl rfl z_sorted (zC (z7 2) zH))))))))))
abbrev Zi:Stmt:=top 36
theorem qr:yD ["items", "rows", "ways", "comers", "told", "due", "number", "need"] ["items"] (zr Zi):=⟨rfl,rfl,rfl,by decide +kernel,rfl,by decide +kernel,by decide +kernel⟩
theorem EE (d:zJ K mg "needs" Zi ["items"]) (z_len:mg "len" = none) (z_list:mg "list" = none) (z_range:mg "range" = none) (g_ALL_NEEDED:yU mg "ALL_NEEDED" (.int 2047)) (q_ALL_NEEDED:∀ H,zR K H (.int 2047) (.int 2047)) (h_rows_of:zO P w K mg base "rows_of" ["items"] 2 (zP K xO)) (h_ways_of:zO P w K mg base "ways_of" ["items"] 4 (zP K uo)) (h_comers_of:zO P w K mg base "comers_of" ["ways"] 1 (zP K p6)) (h_used:zO P w K mg base "used" ["row"] 2 (zP K uE)) (h_needed_at:zO P w K mg base "needed_at" ["told", "places"] 1 (zP K tQ)) (h_put:zO P w K mg base "put" ["row"] 2 (zP K vZ)):zO P w K mg base "needs" ["items"] 6 (zP K uQ):=
 zJ.okS d qr (by decide) Kc fun f cdv A outer s H E hr=>(zL (zp (i:=1) qr.nd rfl (Or.inl rfl) (zt h_rows_of hr rfl (zC (z7 0) zH)))
  (zL (zp (i:=2) qr.nd rfl (Or.inl rfl) (zt h_ways_of hr rfl (zC (z7 0) zH)))
  (zL (zp (i:=3) qr.nd rfl (Or.inl rfl) (zt h_comers_of hr rfl (zC (z7 2) zH)))
  (zL (vj (i:=4) qr.nd rfl (Or.inl rfl) (NJ (yd (NL (xV (zC zK zH) (yC (zW yF) (by decide))) (xL xl xo rfl z_len xh (xC (zF (z7 1)) xF)))) (yd (xV (zC (vE g_ALL_NEEDED q_ALL_NEEDED rfl) zH) (yC (zW yF) (by decide))))))
  (zL (vj (i:=5) qr.nd rfl (Or.inl rfl) (NK rfl rfl z_list rfl z_range (zC (xL xl xo rfl z_len xh (xC (zF (z7 1)) xF)) zH)))
  (zL (Y9 PassesOwn.never (zm (ww (yO hr)) wu (j_ 5) (zF (yd (xV zH (yC yF (by decide))))) (zx _))
   (zL (LM (i:=5) (j:=6) (qv 5) qr.nd rfl (Or.inl rfl))
    (zL (zp (i:=7) qr.nd rfl (Or.inl rfl) (zV tw ua (zt h_used hr rfl (zC (zf (zd (zT hr)) ze (z7 1) (z7 6)) zH)) (zV Iw ua (N7 h_needed_at hr rfl (xC (j_ 4) (xC (zF (zf (zd (zT hr)) ze (z7 2) (z7 6))) xF))) (qt Py Px (zt h_put hr rfl (zC (zf (zd (zT hr)) ze (z7 1) (z7 6)) zH))))))
    (zS (yR (zm (ww (yO hr)) wu (zF (z7 7)) (zF (N9 (zT hr) (qv 4) (z7 6))) (zx _))
     (zL (Nw (qv 4) (z7 6) (z7 7))
      (zS (LJ (qv 5) (zf (zd (zT hr)) ze (z7 3) (z7 6)))))
     yi)))))
  (qx 5 (zS (gG 4)))))))))
abbrev Zk:Stmt:=top 40
theorem L4:yD ["items", "there"] ["items"] (zr Zk):=⟨rfl,rfl,rfl,by decide +kernel,rfl,by decide +kernel,by decide +kernel⟩
theorem EI (d:zJ K mg "not_reached" Zk ["items"]) (z_dict:mg "dict" = none) (z_range:mg "range" = none) (z_len:mg "len" = none) (h_reached:zO P w K mg base "reached" ["items"] 5 (zP K uR)) (h_rows_of:zO P w K mg base "rows_of" ["items"] 2 (zP K xO)):zO P w K mg base "not_reached" ["items"] 6 (zP K vY):=
 zJ.okS d L4 (by decide) Kf fun f cdv A outer s H E hr=>(zL (zp (i:=1) L4.nd rfl (Or.inr rfl) (yd (Ur rfl rfl z_dict V1 (zC (yd (wI rfl (xg (own:=["number"]) rfl) (wW (zt h_reached hr rfl (zC (z7 0) zH))) (wD (fun C s H fp pn=>(ya (i:=2) (show (yx ["items", "there"] ["number"]).Nodup by decide +kernel) rfl (Or.inl rfl))) rfl) (fun C s H fp pn=>vk) (fun C s H fp pn=>(xw (zC (z7 2) (zC vD zH)) (yC (zW (zW yF)) (by decide)))))) zH))))
  (zS (wO (wI rfl (xg (own:=["number"]) rfl) (qu rfl z_range (xL xl xo rfl z_len xh (xC (zF (zt h_rows_of hr rfl (zC (z7 0) zH))) xF))) (wD (fun C s H fp pn=>(ya (i:=2) (show (yx ["items", "there"] ["number"]).Nodup by decide +kernel) rfl (Or.inl rfl))) rfl) (fun C s H fp pn=>(ud (zm (UE (zT hr)) UA (zF (z7 2)) (zF (z7 1)) (by with_unfolding_all rfl)))) (fun C s H fp pn=>(z7 2))))))
abbrev Zr:Stmt:=top 41
theorem N4:yD ["items"] ["items"] (zr Zr):=⟨rfl,rfl,rfl,by decide +kernel,rfl,by decide +kernel,by decide +kernel⟩
theorem EQ (d:zJ K mg "to_the_next_row" Zr ["items"]) (z_enumerate:mg "enumerate" = none) (h_targets_of:zO P w K mg base "targets_of" ["items"] 3 (zP K uS)):zO P w K mg base "to_the_next_row" ["items"] 4 (zP K va):=
 zJ.okS d N4 (by decide) Km fun f cdv A outer s H E hr=>(zS (wO (wI rfl (xg (own:=["number", "target"]) rfl) (gC rfl z_enumerate (zt h_targets_of hr rfl (zC (z7 0) zH))) (gr (fun C s H fp pn=>(py (n:=2) rfl (vg (ya (i:=1) (show (yx ["items"] ["number", "target"]).Nodup by decide +kernel) rfl (Or.inl rfl)) (vg (ya (i:=2) (show (yx ["items"] ["number", "target"]).Nodup by decide +kernel) rfl (Or.inl rfl)) pz)))) rfl rfl) (fun C s H fp pn=>(ud (zm (xU (yO hr)) xS (zF (z7 2)) (zF (zV xT xR (z7 1) zK)) (zx _)))) (fun C s H fp pn=>(z7 1)))))
abbrev ZF:Stmt:=top 42
theorem Ku:yD ["items"] ["items"] (zr ZF):=⟨rfl,rfl,rfl,by decide +kernel,rfl,by decide +kernel,by decide +kernel⟩
theorem Cf (d:zJ K mg "copied_to_itself" ZF ["items"]) (z_enumerate:mg "enumerate" = none) (h_rows_of:zO P w K mg base "rows_of" ["items"] 2 (zP K xO)):zO P w K mg base "copied_to_itself" ["items"] 3 (zP K vW):=
 zJ.okS d Ku (by decide) H_ fun f cdv A outer s H E hr=>(zS (wO (wI rfl (xg (own:=["number", "row"]) rfl) (gC rfl z_enumerate (zt h_rows_of hr rfl (zC (z7 0) zH))) (gr (fun C s H fp pn=>(py (n:=2) rfl (vg (ya (i:=1) (show (yx ["items"] ["number", "row"]).Nodup by decide +kernel) rfl (Or.inl rfl)) (vg (ya (i:=2) (show (yx ["items"] ["number", "row"]).Nodup by decide +kernel) rfl (Or.inl rfl)) pz)))) rfl rfl) (fun C s H fp pn=>(ud (vT (WE (zm (xU (yO hr)) xS (zF (zf (zd (zT hr)) ze (z7 2) zK)) (zF zh) (zx _)) (WF (zm (xU (yO hr)) xS (zF (zf (zd (zT hr)) ze (z7 2) zK)) (zF (zf (zd (zT hr)) ze (z7 2) zK)) (zx _))))))) (fun C s H fp pn=>(z7 1)))))
abbrev Zj:Stmt:=top 43
theorem W8:yD ["items", "told", "ways", "puts"] ["items"] (zr Zj):=⟨rfl,rfl,rfl,by decide +kernel,rfl,by decide +kernel,by decide +kernel⟩
theorem EH (d:zJ K mg "not_needed" Zj ["items"]) (z_range:mg "range" = none) (z_len:mg "len" = none) (h_needs:zO P w K mg base "needs" ["items"] 6 (zP K uQ)) (h_ways_of:zO P w K mg base "ways_of" ["items"] 4 (zP K uo)) (h_rows_of:zO P w K mg base "rows_of" ["items"] 2 (zP K xO)) (h_put:zO P w K mg base "put" ["row"] 2 (zP K vZ)) (h_needed_at:zO P w K mg base "needed_at" ["told", "places"] 1 (zP K tQ)):zO P w K mg base "not_needed" ["items"] 7 (zP K vX):=
 zJ.okS d W8 (by decide) Ke fun f cdv A outer s H E hr=>(zL (zp (i:=1) W8.nd rfl (Or.inr rfl) (yd (uN h_needs hr rfl (zC (z7 0) zH))))
  (zL (zp (i:=2) W8.nd rfl (Or.inr rfl) (zt h_ways_of hr rfl (zC (z7 0) zH)))
  (zL (Nx (i:=3) W8.nd rfl (Or.inr rfl) (yd (wI rfl (xg (own:=["row"]) rfl) (wW (zt h_rows_of hr rfl (zC (z7 0) zH))) (wD (fun C s H fp pn=>(ya (i:=4) (show (yx ["items", "told", "ways", "puts"] ["row"]).Nodup by decide +kernel) rfl (Or.inl rfl))) rfl) (fun C s H fp pn=>vk) (fun C s H fp pn=>(zt h_put hr rfl (zC (z7 4) zH))))))
  (zS (wO (wI rfl (xg (own:=["number"]) rfl) (qu rfl z_range (xL xl xo rfl z_len xh (xC (zF (z7 3)) xF))) (wD (fun C s H fp pn=>(ya (i:=4) (show (yx ["items", "told", "ways", "puts"] ["number"]).Nodup by decide +kernel) rfl (Or.inl rfl))) rfl) (fun C s H fp pn=>(ud (vT (WE (zm (ww (yO hr)) wu (zF (zf (zd (zT hr)) ze (z7 3) (z7 4))) (zF zK) (zx _)) (WF (zm (xU (yO hr)) xS (zF (zV Iw ua (zf (zd (zT hr)) ze (z7 3) (z7 4)) (zt h_needed_at hr rfl (zC (z7 1) (zC (zf (zd (zT hr)) ze (z7 2) (z7 4)) zH))))) (zF zK) (zx _))))))) (fun C s H fp pn=>(z7 4))))))))
abbrev ZH:Stmt:=top 45
theorem Ug:yD ["items", "numbers", "told_by"] ["items"] (zr ZH):=⟨rfl,rfl,rfl,by decide +kernel,rfl,by decide +kernel,by decide +kernel⟩
theorem Ch (d:zJ K mg "idle" ZH ["items"]) (z_sorted:mg "sorted" = none) (z_set:mg "set" = none) (g_IDLE_KINDS:yU mg "IDLE_KINDS" (.ref A_IDLE_KINDS)) (t_IDLE_KINDS:ge K mg A_IDLE_KINDS ["not_reached", "to_the_next_row", "copied_to_itself", "not_needed"]) (h_not_reached:zO P w K mg base "not_reached" ["items"] 6 (zP K vY)) (h_to_the_next_row:zO P w K mg base "to_the_next_row" ["items"] 4 (zP K va)) (h_copied_to_itself:zO P w K mg base "copied_to_itself" ["items"] 3 (zP K vW)) (h_not_needed:zO P w K mg base "not_needed" ["items"] 7 (zP K vX)):zO P w K mg base "idle" ["items"] 8 (zP K tO):=
 zJ.okS d Ug (by decide) K5 fun f cdv A outer s H E hr=>(zL (vj (i:=1) Ug.nd rfl (Or.inl rfl) (xV zH (yC yF (by decide))))
  (zL (Nt PassesOwn.never rfl g_IDLE_KINDS rfl t_IDLE_KINDS (v3.cons h_not_reached (v3.cons h_to_the_next_row (v3.cons h_copied_to_itself (v3.cons h_not_needed v3.nil)))) hr (ya (i:=2) Ug.nd rfl (Or.inl rfl)) rfl (qv 2) (qv 1) (zC (z7 0) zH) rfl)
  (qx 1 (zS (wO (Uv rfl rfl z_sorted rfl z_set (zC (z7 1) zH)))))))
abbrev ZI:Stmt:=top 46
theorem Uh:yD ["items", "told_by", "numbers"] ["items"] (zr ZI):=⟨rfl,rfl,rfl,by decide +kernel,rfl,by decide +kernel,by decide +kernel⟩
theorem Ci (d:zJ K mg "idle_of_one_kind" ZI ["items"]) (g_IDLE_KINDS:yU mg "IDLE_KINDS" (.ref A_IDLE_KINDS)) (t_IDLE_KINDS:ge K mg A_IDLE_KINDS ["not_reached", "to_the_next_row", "copied_to_itself", "not_needed"]) (h_not_reached:zO P w K mg base "not_reached" ["items"] 6 (zP K vY)) (h_to_the_next_row:zO P w K mg base "to_the_next_row" ["items"] 4 (zP K va)) (h_copied_to_itself:zO P w K mg base "copied_to_itself" ["items"] 3 (zP K vW)) (h_not_needed:zO P w K mg base "not_needed" ["items"] 7 (zP K vX)):zO P w K mg base "idle_of_one_kind" ["items"] 8 (zP K jC):=
 zJ.okS d Uh (by decide) K6 fun f cdv A outer s H E hr=>(zL (Nu PassesOwn.never rfl g_IDLE_KINDS rfl t_IDLE_KINDS (v3.cons h_not_reached (v3.cons h_to_the_next_row (v3.cons h_copied_to_itself (v3.cons h_not_needed v3.nil)))) hr (ya (i:=1) Uh.nd rfl (Or.inl rfl)) rfl (qv 1) Uh.nd rfl (Or.inl rfl) (zC (z7 0) zH)
   (zS (yR (zm (ww (yO hr)) wu (zF (z7 2)) (zF (yd (xV zH (yC yF (by decide))))) (zx _))
     (zS (yY (z7 2)))
     yi)) rfl)
  (zS (wO (xV zH (yC yF (by decide))))))
abbrev Zv:Stmt:=top 47
theorem g9:yD ["items", "numbers", "dropped", "number", "kept", "item"] ["items", "numbers"] (zr Zv):=⟨rfl,rfl,rfl,by decide +kernel,rfl,by decide +kernel,by decide +kernel⟩
theorem EU (d:zJ K mg "without" Zv ["items", "numbers"]) (z_dict:mg "dict" = none) (h_is_label:zO P w K mg base "is_label" ["item"] 1 (zP K uC)):zO P w K mg base "without" ["items", "numbers"] 2 (zP K pA):=
 zJ.okS d g9 (by decide) Kq fun f cdv A outer s H E hr=>(zL (zp (i:=2) g9.nd rfl (Or.inl rfl) (yd (Ur rfl rfl z_dict V1 (zC (yd (wI rfl (xg (own:=["number"]) rfl) (wW (z7 1)) (wD (fun C s H fp pn=>(ya (i:=6) (show (yx ["items", "numbers", "dropped", "number", "kept", "item"] ["number"]).Nodup by decide +kernel) rfl (Or.inl rfl))) rfl) (fun C s H fp pn=>vk) (fun C s H fp pn=>(xw (zC (z7 6) (zC vD zH)) (yC (zW (zW yF)) (by decide)))))) zH))))
  (zL (vj (i:=4) g9.nd rfl (Or.inl rfl) (xV zH (yC yF (by decide))))
  (zL (zp (i:=3) g9.nd rfl (Or.inl rfl) zK)
  (zL (gF PassesOwn.never rfl (wW (z7 0)) (Y6 (ya (i:=5) g9.nd rfl (Or.inl rfl)) rfl)
   (zS (yR (wz (zt h_is_label hr rfl (zC (z7 5) zH)))
     (zS (uO (qv 4) (z7 5)))
     (zL (yR (zm (UE (zT hr)) UA (zF (z7 3)) (zF (z7 2)) (by with_unfolding_all rfl))
       (zS (uO (qv 4) (z7 5)))
       yi)
      (zS (LI (i:=3) JT Im g9.nd rfl (Or.inl rfl) zK))))))
  (zS (gG 4))))))
abbrev Zb:Stmt:=top 51
theorem N0:yD ["rows", "place"] ["rows", "place"] (zr Zb):=⟨rfl,rfl,rfl,by decide +kernel,rfl,by decide +kernel,by decide +kernel⟩
theorem E5 (d:zJ K mg "leads_on" Zb ["rows", "place"]) (z_len:mg "len" = none):zO P w K mg base "leads_on" ["rows", "place"] 1 (zP K jM):=
 zJ.okS d N0 (by decide) KR fun f cdv A outer s H E hr=>(zS (yY (Uo (u9 pf ub (zF (z7 1)) (zF (xL xl xo rfl z_len xh (xC (zF (z7 0)) xF))) (zx _)) (W9 (u9 (xU (yO hr)) xS (zF (zf (zd (zT hr)) ze (zf (zd (zT hr)) ze (z7 0) (z7 1)) zK)) (zF zh) (zx _))))))
abbrev ZR:Stmt:=top 50
theorem W6:yD ["name", "rows", "places", "met", "last"] ["name", "rows", "places"] (zr ZR):=⟨rfl,rfl,rfl,by decide +kernel,rfl,by decide +kernel,by decide +kernel⟩
theorem Cs (d:zJ K mg "last_name" ZR ["name", "rows", "places"]) (h_leads_on:zO P w K mg base "leads_on" ["rows", "place"] 1 (zP K jM)):zO P w K mg base "last_name" ["name", "rows", "places"] 2 (zP K jG):=
 zJ.okS d W6 (by decide) KF fun f cdv A outer s H E hr=>(zL (vj (i:=3) W6.nd rfl (Or.inl rfl) Us)
  (zL (zp (i:=4) W6.nd rfl (Or.inl rfl) (z7 0))
  (zL (Y9 PassesOwn.never (wz (zt h_leads_on hr rfl (zC (z7 1) (zC (zf (zd (zT hr)) ze (z7 2) (z7 4)) zH))))
   (zL (yR (zm (wv (zT hr)) wt (zF (zf (zd (zT hr)) ze (z7 2) (z7 4))) (j_ 3) (by with_unfolding_all rfl))
     (zS (yY (z7 0)))
     yi)
    (zL (Ux (zT hr) (qv 3) (zf (zd (zT hr)) ze (z7 2) (z7 4)) vD)
    (zS (zp (i:=4) W6.nd rfl (Or.inl rfl) (zf (zd (zT hr)) ze (zf (zd (zT hr)) ze (z7 1) (zf (zd (zT hr)) ze (z7 2) (z7 4))) (qt j9 j7 zK)))))))
  (qx 3 (zS (yY (z7 4)))))))
abbrev Zc:Stmt:=top 49
theorem Ul:yD ["items", "rows", "places"] ["items"] (zr Zc):=⟨rfl,rfl,rfl,by decide +kernel,rfl,by decide +kernel,by decide +kernel⟩
theorem E6 (d:zJ K mg "led_on" Zc ["items"]) (h_rows_of:zO P w K mg base "rows_of" ["items"] 2 (zP K xO)) (h_label_places:zO P w K mg base "label_places" ["items"] 2 (zP K uP)) (h_is_jump:zO P w K mg base "is_jump" ["item"] 1 (zP K uB)) (h_last_name:zO P w K mg base "last_name" ["name", "rows", "places"] 2 (zP K jG)):zO P w K mg base "led_on" ["items"] 3 (zP K uD):=
 zJ.okS d Ul (by decide) KS fun f cdv A outer s H E hr=>(zL (zp (i:=1) Ul.nd rfl (Or.inr rfl) (zt h_rows_of hr rfl (zC (z7 0) zH)))
  (zL (zp (i:=2) Ul.nd rfl (Or.inr rfl) (zt h_label_places hr rfl (zC (z7 0) zH)))
  (zS (wO (wI rfl (xg (own:=["item"]) rfl) (wW (z7 0)) (wD (fun C s H fp pn=>(ya (i:=3) (show (yx ["items", "rows", "places"] ["item"]).Nodup by decide +kernel) rfl (Or.inl rfl))) rfl) (fun C s H fp pn=>vk) (fun C s H fp pn=>(Y4 (wz (zt h_is_jump hr rfl (zC (z7 3) zH))) (zV xT xR (gB (z7 3) gD (gE (qt j9 j7 zK))) (xw (zC (zt h_last_name hr rfl (zC (zf (zd (zT hr)) ze (z7 3) (qt j9 j7 zK)) (zC (z7 1) (zC (z7 2) zH)))) zH) (yC (zW yF) (by decide)))) (z7 3))))))))
abbrev Zf:Stmt:=top 53
theorem Z_:yD ["number", "name", "left"] ["number"] (zr Zf):=⟨rfl,rfl,rfl,by decide +kernel,rfl,by decide +kernel,by decide +kernel⟩
theorem EA (d:zJ K mg "name_of" Zf ["number"]) (z_len:mg "len" = none) (g_LETTERS:yU mg "LETTERS" (.str "abcdefghijklmnopqrstuvwxyz")) (q_LETTERS:∀ H,zR K H (.str "abcdefghijklmnopqrstuvwxyz") (.str "abcdefghijklmnopqrstuvwxyz")):zO P w K mg base "name_of" ["number"] 1 (zP K p9):=
 zJ.okS d Z_ (by decide) KY fun f cdv A outer s H E hr=>(zL (zp (i:=1) Z_.nd rfl (Or.inl rfl) zh)
  (zL (zp (i:=2) Z_.nd rfl (Or.inl rfl) (zV xT xR (z7 0) zK))
  (zL (Y9 PassesOwn.never (zm UD ub (zF (z7 2)) (zF zK) (zx _))
   (zL (zp (i:=1) Z_.nd rfl (Or.inl rfl) (zV xT xR (zf (zd (zT hr)) ze (vE g_LETTERS q_LETTERS rfl) (zV xE xD (zV Iz Ir (z7 2) zK) (xL xl xo rfl z_len xh (xC (zF (vE g_LETTERS q_LETTERS rfl)) xF)))) (z7 1)))
    (zS (zp (i:=2) Z_.nd rfl (Or.inl rfl) (zV vR vQ (zV Iz Ir (z7 2) zK) (xL xl xo rfl z_len xh (xC (zF (vE g_LETTERS q_LETTERS rfl)) xF)))))))
  (zS (yY (z7 1))))))
abbrev Zg:Stmt:=top 56
theorem L1:yD ["targets", "places"] ["targets"] (zr Zg):=⟨rfl,rfl,rfl,by decide +kernel,rfl,by decide +kernel,by decide +kernel⟩
theorem EB (d:zJ K mg "names_of_places" Zg ["targets"]) (z_sorted:mg "sorted" = none) (z_set:mg "set" = none) (z_dict:mg "dict" = none) (z_enumerate:mg "enumerate" = none) (h_name_of:zO P w K mg base "name_of" ["number"] 1 (zP K p9)):zO P w K mg base "names_of_places" ["targets"] 2 (zP K jN):=
 zJ.okS d L1 (by decide) KZ fun f cdv A outer s H E hr=>(zL (zp (i:=1) L1.nd rfl (Or.inl rfl) (yd (Uv rfl rfl z_sorted rfl z_set (zC (yd (wI rfl (xg (own:=["target"]) rfl) (wW (z7 0)) (wD (fun C s H fp pn=>(ya (i:=2) (show (yx ["targets", "places"] ["target"]).Nodup by decide +kernel) rfl (Or.inl rfl))) rfl) (fun C s H fp pn=>(ud (zm En EG (zF (z7 2)) (zF Y5) (zx _)))) (fun C s H fp pn=>(z7 2)))) zH))))
  (zS (wO (Ur rfl rfl z_dict V1 (zC (yd (wI rfl (xg (own:=["number", "place"]) rfl) (gC rfl z_enumerate (z7 1)) (gr (fun C s H fp pn=>(py (n:=2) rfl (vg (ya (i:=2) (show (yx ["targets", "places"] ["number", "place"]).Nodup by decide +kernel) rfl (Or.inl rfl)) (vg (ya (i:=3) (show (yx ["targets", "places"] ["number", "place"]).Nodup by decide +kernel) rfl (Or.inl rfl)) pz)))) rfl rfl) (fun C s H fp pn=>vk) (fun C s H fp pn=>(xw (zC (z7 3) (zC (zt h_name_of hr rfl (zC (z7 2) zH)) zH)) (yC (zW (zW yF)) (by decide)))))) zH)))))
abbrev ZQ:Stmt:=top 55
theorem Zy:yD ["rows", "targets", "names", "items", "number", "row"] ["rows", "targets"] (zr ZQ):=⟨rfl,rfl,rfl,by decide +kernel,rfl,by decide +kernel,by decide +kernel⟩
theorem Cr (d:zJ K mg "labelled" ZQ ["rows", "targets"]) (z_enumerate:mg "enumerate" = none) (z_len:mg "len" = none) (h_names_of_places:zO P w K mg base "names_of_places" ["targets"] 2 (zP K jN)):zO P w K mg base "labelled" ["rows", "targets"] 3 (zP K jF):=
 zJ.okS d Zy (by decide) KE fun f cdv A outer s H E hr=>(zL (zp (i:=2) Zy.nd rfl (Or.inl rfl) (zt h_names_of_places hr rfl (zC (z7 1) zH)))
  (zL (vj (i:=3) Zy.nd rfl (Or.inl rfl) (xV zH (yC yF (by decide))))
  (zL (gF PassesOwn.never rfl (gC rfl z_enumerate (z7 0)) (NO (py (n:=2) rfl (vg (ya (i:=4) Zy.nd rfl (Or.inl rfl)) (vg (ya (i:=5) Zy.nd rfl (Or.inl rfl)) pz))) rfl rfl)
   (zL (yR (zm (wv (zT hr)) wt (zF (z7 4)) (zF (z7 2)) (by with_unfolding_all rfl))
     (zS (uO (qv 3) (xw (zC zh (zC (zf (zd (zT hr)) ze (z7 2) (z7 4)) zH)) (yC (zW (zW yF)) (by decide)))))
     yi)
    (zS (uO (qv 3) (Y4 (zm Iy Io (zF (zf (zd (zT hr)) ze (z7 1) (z7 4))) (zF Y5) (zx _)) (z7 5) (zV xT xR (z7 5) (xw (zC (zf (zd (zT hr)) ze (z7 2) (zf (zd (zT hr)) ze (z7 1) (z7 4))) zH) (yC (zW yF) (by decide)))))))))
  (zL (yR (zm (wv (zT hr)) wt (zF (xL xl xo rfl z_len xh (xC (zF (z7 0)) xF))) (zF (z7 2)) (by with_unfolding_all rfl))
   (zS (uO (qv 3) (xw (zC zh (zC (zf (zd (zT hr)) ze (z7 2) (xL xl xo rfl z_len xh (xC (zF (z7 0)) xF))) zH)) (yC (zW (zW yF)) (by decide)))))
   yi)
  (zS (gG 3))))))
abbrev Zl:Stmt:=top 54
theorem L5:yD ["items", "rows"] ["items"] (zr Zl):=⟨rfl,rfl,rfl,by decide +kernel,rfl,by decide +kernel,by decide +kernel⟩
theorem EJ (d:zJ K mg "plain" Zl ["items"]) (h_rows_of:zO P w K mg base "rows_of" ["items"] 2 (zP K xO)) (h_is_jump:zO P w K mg base "is_jump" ["item"] 1 (zP K uB)) (h_labelled:zO P w K mg base "labelled" ["rows", "targets"] 3 (zP K jF)) (h_targets_of:zO P w K mg base "targets_of" ["items"] 3 (zP K uS)):zO P w K mg base "plain" ["items"] 4 (zP K um):=
 zJ.okS d L5 (by decide) Kg fun f cdv A outer s H E hr=>(zL (WC (i:=1) rfl L5.nd rfl rfl (xg (own:=["row"]) rfl) rfl (wW (zt h_rows_of hr rfl (zC (z7 0) zH))) (wD (fun C s H fp pn=>(ya (i:=2) (show (yx ["items", "rows"] ["row"]).Nodup by decide +kernel) rfl (Or.inl rfl))) rfl) (fun C s H fp pn=>vk) (fun C s H fp pn=>(Y4 (wz (zt h_is_jump hr rfl (zC (z7 2) zH))) (gB (z7 2) gD (gE (qt j9 j7 zK))) (z7 2))))
  (zS (wO (uN h_labelled hr rfl (zC (z7 1) (zC (zt h_targets_of hr rfl (zC (z7 0) zH)) zH))))))
abbrev Zp:Stmt:=top 58
theorem g8:yD ["items", "before", "now", "led"] ["items"] (zr Zp):=⟨rfl,rfl,rfl,by decide +kernel,rfl,by decide +kernel,by decide +kernel⟩
theorem EN (d:zJ K mg "short" Zp ["items"]) (h_led_on:zO P w K mg base "led_on" ["items"] 3 (zP K uD)) (h_without:zO P w K mg base "without" ["items", "numbers"] 2 (zP K pA)) (h_idle_of_one_kind:zO P w K mg base "idle_of_one_kind" ["items"] 8 (zP K jC)) (h_plain:zO P w K mg base "plain" ["items"] 4 (zP K um)):zO P w K mg base "short" ["items"] 9 (zP K wg):=
 zJ.okS d g8 (by decide) Kk fun f cdv A outer s H E hr=>(zL (zp (i:=1) g8.nd rfl (Or.inl rfl) Y5)
  (zL (zp (i:=2) g8.nd rfl (Or.inl rfl) (z7 0))
  (zL (Y9 PassesOwn.never (zm (Ei (yO hr)) EC (zF (z7 2)) (zF (z7 1)) (zx _))
   (zL (zp (i:=1) g8.nd rfl (Or.inl rfl) (z7 2))
    (zL (zp (i:=3) g8.nd rfl (Or.inl rfl) (yd (uN h_led_on hr rfl (zC (z7 1) zH))))
    (zS (zp (i:=2) g8.nd rfl (Or.inl rfl) (zt h_without hr rfl (zC (z7 3) (zC (zt h_idle_of_one_kind hr rfl (zC (z7 3) zH)) zH))))))))
  (zS (wO (uN h_plain hr rfl (zC (z7 2) zH)))))))
abbrev ZS:Stmt:=top 60
theorem Kz:yD ["_law_script", "_law_k"] ["_law_script", "_law_k"] (zr ZS):=⟨rfl,rfl,rfl,by decide +kernel,rfl,by decide +kernel,by decide +kernel⟩
theorem Cu (d:zJ K mg "_law_cell_at" ZS ["_law_script", "_law_k"]) (z_len:mg "len" = none):zO P w K mg base "_law_cell_at" ["_law_script", "_law_k"] 1 (zP K jH):=
 zJ.okS d Kz (by decide) KH fun f cdv A outer s H E hr=>(zL (yR (zm pf ub (zF (z7 1)) (zF (xL xl xo rfl z_len xh (xC (zF (z7 0)) xF))) (zx _))
   (zS (yY (zf (zd (zT hr)) ze (z7 0) (z7 1))))
   yi)
  (zS (yY zK)))
abbrev ZT:Stmt:=top 61
theorem L0:yD ["_law_script", "_law_k", "_law_mark_here"] ["_law_script", "_law_k"] (zr ZT):=⟨rfl,rfl,rfl,by decide +kernel,rfl,by decide +kernel,by decide +kernel⟩
theorem Cv (d:zJ K mg "_law_mark" ZT ["_law_script", "_law_k"]) (z_len:mg "len" = none) (h_law_cell_at:zO P w K mg base "_law_cell_at" ["_law_script", "_law_k"] 1 (zP K jH)):zO P w K mg base "_law_mark" ["_law_script", "_law_k"] 2 (zP K wX):=
 zJ.okS d L0 (by decide) KJ fun f cdv A outer s H E hr=>(zL (zp (i:=2) L0.nd rfl (Or.inl rfl) (zV xT xR (zV xT xR (zV xT xR (zV Xn Iq (zt h_law_cell_at hr rfl (zC (z7 0) (zC (z7 1) zH))) zK) (zV Xn Ip zK (z7 1))) (zV Xn Ip zK (xL xl xo rfl z_len xh (xC (zF (z7 0)) xF)))) zK))
  (zS (yY (zV xE xD (zV Xn Iq (zV xE xD (zV Eg E9 (z7 2) (z7 2)) zK) zK) zK))))
abbrev Za:Stmt:=top 62
theorem Uk:yD ["_law_found"] [] (zr Za):=⟨rfl,rfl,rfl,by decide +kernel,rfl,by decide +kernel,by decide +kernel⟩
theorem E4 (d:zJ K mg "_law_words" Za []):zO P w K mg base "_law_words" [] 1 (zP K jL):=
 zJ.okS d Uk (by decide) KQ fun f cdv A outer s H E hr=>(zL (zp (i:=0) Uk.nd rfl (Or.inl rfl) (yd (xV (zC zh (zC zh (zC zh (zC zh (zC zh (zC zh (zC zh (zC zh (zC zh (zC zh (zC zh (zC zh (zC zh zH))))))))))))) (yC (zW (zW (zW (zW (zW (zW (zW (zW (zW (zW (zW (zW (zW yF))))))))))))) (by decide)))))
  (zL (zp (i:=0) Uk.nd rfl (Or.inl rfl) (zV xT xR (z7 0) (yd (xV (zC zh (zC zh (zC zh (zC zh (zC zh (zC zh (zC zh (zC zh zH)))))))) (yC (zW (zW (zW (zW (zW (zW (zW (zW yF)))))))) (by decide))))))
  (zS (yY (zV xT xR (z7 0) (yd (xV (zC zh (zC zh (zC zh (zC zh (zC zh (zC zh (zC zh zH))))))) (yC (zW (zW (zW (zW (zW (zW (zW yF))))))) (by decide)))))))))
abbrev ZW:Stmt:=top 63
theorem g7:yD ["_law_mark_here", "_law_names_here", "_law_many", "_law_word", "_law_one", "_law_two", "_law_rest"] ["_law_mark_here", "_law_names_here", "_law_many"] (zr ZW):=⟨rfl,rfl,rfl,by decide +kernel,rfl,by decide +kernel,by decide +kernel⟩
theorem Cz (d:zJ K mg "_law_row_by" ZW ["_law_mark_here", "_law_names_here", "_law_many"]) (z_len:mg "len" = none) (h_law_words:zO P w K mg base "_law_words" [] 1 (zP K jL)):zO P w K mg base "_law_row_by" ["_law_mark_here", "_law_names_here", "_law_many"] 2 (zP K jJ):=
 zJ.okS d g7 (by decide) KN fun f cdv A outer s H E hr=>(zL (zp (i:=3) g7.nd rfl (Or.inl rfl) (zf (zd (zT hr)) ze (N6 h_law_words hr rfl) (zV xE xD (z7 0) zK)))
  (zL (zp (i:=0) g7.nd rfl (Or.inl rfl) (zV vR vQ (z7 0) zK))
  (zL (zp (i:=4) g7.nd rfl (Or.inl rfl) (zV xE xD (z7 0) (z7 2)))
  (zL (zp (i:=5) g7.nd rfl (Or.inl rfl) (zV xE xD (zV vR vQ (z7 0) zK) (z7 2)))
  (zL (zp (i:=6) g7.nd rfl (Or.inl rfl) (zV vR vQ (z7 0) zK))
  (zL (yR (zm (wv (zT hr)) wt (zF (z7 3)) (zF (xw (zC zh (zC zh zH)) (yC (zW (zW yF)) (by decide)))) (by with_unfolding_all rfl))
   (zS (yY (xw (zC (z7 3) (zC (z7 4) (zC (zf (zd (zT hr)) ze (yd (xV (zC (zV xE xD (z7 6) zK) (zC (zV xE xD (z7 6) zK) zH)) (yC (zW (zW yF)) (by decide)))) (zV xE xD (zV vR vQ (z7 0) zK) zK)) zH))) (yC (zW (zW (zW yF))) (by decide)))))
   yi)
  (zL (yR (zm (wv (zT hr)) wt (zF (z7 3)) (zF (xw (zC zh (zC zh zH)) (yC (zW (zW yF)) (by decide)))) (by with_unfolding_all rfl))
   (zS (yY (xw (zC (z7 3) (zC (z7 4) (zC (zf (zd (zT hr)) ze (yd (xV (zC (zV xE xD (z7 6) zK) (zC (zV xE xD (z7 6) zK) zH)) (yC (zW (zW yF)) (by decide)))) (zV xE xD (zV vR vQ (z7 0) zK) zK)) zH))) (yC (zW (zW (zW yF))) (by decide)))))
   yi)
  (zL (yR (zm (wv (zT hr)) wt (zF (z7 3)) (zF (xw (zC zh (zC zh (zC zh (zC zh zH)))) (yC (zW (zW (zW (zW yF)))) (by decide)))) (by with_unfolding_all rfl))
   (zS (yY (xw (zC (z7 3) (zC (z7 4) (zC (z7 5) (zC (zf (zd (zT hr)) ze (yd (xV (zC (zV xE xD (z7 6) zK) (zC (zV xE xD (z7 6) zK) zH)) (yC (zW (zW yF)) (by decide)))) (zV xE xD (zV vR vQ (z7 0) zK) zK)) zH)))) (yC (zW (zW (zW (zW yF)))) (by decide)))))
   yi)
  (zL (yR (zm (xU (yO hr)) xS (zF (z7 3)) (zF zh) (zx _))
   (zS (yY (xw (zC (z7 3) (zC (zf (zd (zT hr)) ze (z7 1) (zV xE xD (z7 6) (xL xl xo rfl z_len xh (xC (zF (z7 1)) xF)))) zH)) (yC (zW (zW yF)) (by decide)))))
   yi)
  (zL (yR (zm (wv (zT hr)) wt (zF (z7 3)) (zF (xw (zC zh (zC zh zH)) (yC (zW (zW yF)) (by decide)))) (by with_unfolding_all rfl))
   (zS (yY (xw (zC (z7 3) (zC (zf (zd (zT hr)) ze (yd (xV (zC zh (zC zh (zC zh zH))) (yC (zW (zW (zW yF))) (by decide)))) (zV xE xD (z7 5) zK)) (zC (zf (zd (zT hr)) ze (z7 1) (zV xE xD (z7 6) (xL xl xo rfl z_len xh (xC (zF (z7 1)) xF)))) zH))) (yC (zW (zW (zW yF))) (by decide)))))
   yi)
  (zL (yR (zm (xU (yO hr)) xS (zF (z7 3)) (zF zh) (zx _))
   (zS (yY (xw (zC (z7 3) zH) (yC (zW yF) (by decide)))))
   yi)
  (zS (yY (xw (zC (z7 3) (zC (z7 4) (zC (z7 5) zH))) (yC (zW (zW (zW yF))) (by decide))))))))))))))))
abbrev ZU:Stmt:=top 64
theorem g6:yD ["_law_mark_here", "_law_many", "_law_letters", "_law_size", "_law_word", "_law_spot"] ["_law_mark_here", "_law_many"] (zr ZU):=⟨rfl,rfl,rfl,by decide +kernel,rfl,by decide +kernel,by decide +kernel⟩
theorem Cw (d:zJ K mg "_law_names" ZU ["_law_mark_here", "_law_many"]) (z_range:mg "range" = none):zO P w K mg base "_law_names" ["_law_mark_here", "_law_many"] 1 (zP K jI):=
 zJ.okS d g6 (by decide) KL fun f cdv A outer s H E hr=>(zL (zp (i:=2) g6.nd rfl (Or.inr rfl) zh)
  (zL (zp (i:=3) g6.nd rfl (Or.inl rfl) (zV xE xD (z7 0) zK))
  (zL (zp (i:=4) g6.nd rfl (Or.inr rfl) (NB zh (zF (yd (wI rfl (xg (own:=["_law_k"]) rfl) (qu rfl z_range (z7 3)) (wD (fun C s H fp pn=>(ya (i:=6) (show (yx ["_law_mark_here", "_law_many", "_law_letters", "_law_size", "_law_word", "_law_spot"] ["_law_k"]).Nodup by decide +kernel) rfl (Or.inl rfl))) rfl) (fun C s H fp pn=>vk) (fun C s H fp pn=>(zf (zd (zT hr)) ze (z7 2) (zV xE xD (zV vR vQ (zV vR vQ (z7 0) zK) (zf (zd (zT hr)) ze (yd (xV (Ks (is:=[1,26,676,17576,3,5,7]) rfl) (yC (MH (n:=7) (by decide)) (by decide)))) (z7 6))) zK))))))))
  (zL (zp (i:=5) g6.nd rfl (Or.inr rfl) (zV xE xD (zV vR vQ (z7 0) zK) (zV xT xR (z7 3) zK)))
  (zL (zp (i:=4) g6.nd rfl (Or.inr rfl) (gB (z7 4) gD (gE zK)))
  (zS (wO (wI rfl (xg (own:=["_law_k"]) rfl) (qu rfl z_range (z7 1)) (wD (fun C s H fp pn=>(ya (i:=6) (show (yx ["_law_mark_here", "_law_many", "_law_letters", "_law_size", "_law_word", "_law_spot"] ["_law_k"]).Nodup by decide +kernel) rfl (Or.inl rfl))) rfl) (fun C s H fp pn=>vk) (fun C s H fp pn=>(zV xT xR (zV xT xR (gB (z7 4) gD (gE (z7 5))) (zf (zd (zT hr)) ze (z7 2) (zV xE xD (zV xT xR (zV vR vQ (z7 0) zK) (z7 6)) zK))) (gB (z7 4) (gE (z7 5)) gD)))))))))))
abbrev ZV:Stmt:=top 65
theorem j5:yD ["_law_script", "_law_first", "_law_most", "_law_count", "_law_names_here", "_law_many", "_law_rows_here", "_law_k", "_law_items"] ["_law_script", "_law_first", "_law_most"] (zr ZV):=⟨rfl,rfl,rfl,by decide +kernel,rfl,by decide +kernel,by decide +kernel⟩
theorem Cy (d:zJ K mg "_law_program_by" ZV ["_law_script", "_law_first", "_law_most"]) (z_range:mg "range" = none) (h_law_mark:zO P w K mg base "_law_mark" ["_law_script", "_law_k"] 2 (zP K wX)) (h_law_names:zO P w K mg base "_law_names" ["_law_mark_here", "_law_many"] 1 (zP K jI)) (h_law_row_by:zO P w K mg base "_law_row_by" ["_law_mark_here", "_law_names_here", "_law_many"] 2 (zP K jJ)):zO P w K mg base "_law_program_by" ["_law_script", "_law_first", "_law_most"] 3 (zP K p8):=
 zJ.okS d j5 (by decide) KM fun f cdv A outer s H E hr=>(zL (zp (i:=3) j5.nd rfl (Or.inl rfl) (zV xE xD (zt h_law_mark hr rfl (zC (z7 0) (zC (z7 1) zH))) (zV xT xR (z7 2) zK)))
  (zL (zp (i:=4) j5.nd rfl (Or.inr rfl) (zt h_law_names hr rfl (zC (zt h_law_mark hr rfl (zC (z7 0) (zC (zV xT xR (z7 1) zK) zH))) (zC (zV xT xR (z7 3) zK) zH))))
  (zL (zp (i:=5) j5.nd rfl (Or.inr rfl) (zf (zd (zT hr)) ze (yd (xV (zC zK (zC zK zH)) (yC (zW (zW yF)) (by decide)))) (zV xE xD (zt h_law_mark hr rfl (zC (z7 0) (zC (zV xT xR (z7 1) zK) zH))) zK)))
  (zL (WC (i:=6) rfl j5.nd rfl rfl (xg (own:=["_law_k"]) rfl) rfl (qu rfl z_range (z7 3)) (wD (fun C s H fp pn=>(ya (i:=9) (show (yx ["_law_script", "_law_first", "_law_most", "_law_count", "_law_names_here", "_law_many", "_law_rows_here", "_law_k", "_law_items"] ["_law_k"]).Nodup by decide +kernel) rfl (Or.inl rfl))) rfl) (fun C s H fp pn=>vk) (fun C s H fp pn=>(zt h_law_row_by hr rfl (zC (zt h_law_mark hr rfl (zC (z7 0) (zC (zV xT xR (zV xT xR (z7 1) zK) (z7 9)) zH))) (zC (z7 4) (zC (z7 5) zH))))))
  (zL (vj (i:=8) j5.nd rfl (Or.inl rfl) (xV zH (yC yF (by decide))))
  (zL (gF PassesOwn.never rfl (qu rfl z_range (zV xT xR (z7 3) zK)) (Y6 (ya (i:=7) j5.nd rfl (Or.inr rfl)) rfl)
   (zL (yR (vT (vS (zm (ww (yO hr)) wu (zF (yd (wI rfl (xg (own:=["_law_row"]) rfl) (wW (z7 6)) (wD (fun C s H fp pn=>(ya (i:=9) (show (yx ["_law_script", "_law_first", "_law_most", "_law_count", "_law_names_here", "_law_many", "_law_rows_here", "_law_k", "_law_items"] ["_law_row"]).Nodup by decide +kernel) rfl (Or.inl rfl))) rfl) (fun C s H fp pn=>(ud (zm (xU (yO hr)) xS (zF (zf (zd (zT hr)) ze (z7 9) (qt j9 j7 zK))) (zF (zf (zd (zT hr)) ze (z7 4) (z7 7))) (zx _)))) (fun C s H fp pn=>(z7 9))))) (zF (yd (xV zH (yC yF (by decide))))) (zx _)) (ug (zm (xU (yO hr)) xS (zF (zV xE xD (zV vR vQ (zt h_law_mark hr rfl (zC (z7 0) (zC (zV xT xR (z7 1) zK) zH))) zK) zK)) (zF (z7 7)) (zx _)))))
     (zS (uO (qv 8) (xw (zC zh (zC (zf (zd (zT hr)) ze (z7 4) (z7 7)) zH)) (yC (zW (zW yF)) (by decide)))))
     yi)
    (zS (yR (zm pf ub (zF (z7 7)) (zF (z7 3)) (zx _))
     (zS (uO (qv 8) (zf (zd (zT hr)) ze (z7 6) (z7 7))))
     yi))))
  (zS (gG 8))))))))
abbrev ZX:Stmt:=top 66
theorem K_:yD ["_law_items"] ["_law_items"] (zr ZX):=⟨rfl,rfl,rfl,by decide +kernel,rfl,by decide +kernel,by decide +kernel⟩
theorem C_ (d:zJ K mg "_law_rows" ZX ["_law_items"]):zO P w K mg base "_law_rows" ["_law_items"] 1 (zP K vn):=
 zJ.okS d K_ (by decide) KO fun f cdv A outer s H E hr=>(zS (wO (wI rfl (xg (own:=["_law_item"]) rfl) (wW (z7 0)) (wD (fun C s H fp pn=>(ya (i:=1) (show (yx ["_law_items"] ["_law_item"]).Nodup by decide +kernel) rfl (Or.inl rfl))) rfl) (fun C s H fp pn=>(ud (zm (ww (yO hr)) wu (zF (zf (zd (zT hr)) ze (z7 1) zK)) (zF zh) (zx _)))) (fun C s H fp pn=>(z7 1)))))
abbrev ZY:Stmt:=top 68
theorem Zz:yD ["_law_items", "_law_script", "_law_first", "_law_names_here", "_law_found", "_law_k", "_law_mark_here"] ["_law_items", "_law_script", "_law_first"] (zr ZY):=⟨rfl,rfl,rfl,by decide +kernel,rfl,by decide +kernel,by decide +kernel⟩
theorem E3 (d:zJ K mg "_law_varied" ZY ["_law_items", "_law_script", "_law_first"]) (z_range:mg "range" = none) (z_len:mg "len" = none) (h_law_mark:zO P w K mg base "_law_mark" ["_law_script", "_law_k"] 2 (zP K wX)):zO P w K mg base "_law_varied" ["_law_items", "_law_script", "_law_first"] 3 (zP K jK):=
 zJ.okS d Zz (by decide) KP fun f cdv A outer s H E hr=>(zL (WC (i:=3) rfl Zz.nd rfl rfl (xg (own:=["_law_item"]) rfl) rfl (wW (z7 0)) (wD (fun C s H fp pn=>(ya (i:=7) (show (yx ["_law_items", "_law_script", "_law_first", "_law_names_here", "_law_found", "_law_k", "_law_mark_here"] ["_law_item"]).Nodup by decide +kernel) rfl (Or.inl rfl))) rfl) (fun C s H fp pn=>(ud (zm (xU (yO hr)) xS (zF (zf (zd (zT hr)) ze (z7 7) zK)) (zF zh) (zx _)))) (fun C s H fp pn=>(zf (zd (zT hr)) ze (z7 7) zK)))
  (zL (vj (i:=4) Zz.nd rfl (Or.inl rfl) (xV zH (yC yF (by decide))))
  (zL (gF PassesOwn.never rfl (qu rfl z_range (xL xl xo rfl z_len xh (xC (zF (z7 0)) xF))) (Y6 (ya (i:=5) Zz.nd rfl (Or.inl rfl)) rfl)
   (zL (zp (i:=6) Zz.nd rfl (Or.inl rfl) (zt h_law_mark hr rfl (zC (z7 1) (zC (zV xT xR (z7 2) (z7 5)) zH))))
    (zS (yR (vT (vS (zm (xU (yO hr)) xS (zF (zf (zd (zT hr)) ze (zf (zd (zT hr)) ze (z7 0) (z7 5)) zK)) (zF zh) (zx _)) (vS (zm pf ub (zF (zV xE xD (z7 6) zK)) (zF zK) (zx _)) (ug (zm (xU (yO hr)) xS (zF (z7 3)) (zF (yd (xV zH (yC yF (by decide))))) (zx _))))))
     (zS (uO (qv 4) (zf (zd (zT hr)) ze (z7 0) (z7 5))))
     (zS (yR (zm (xU (yO hr)) xS (zF (zV xE xD (z7 6) zK)) (zF zK) (zx _))
       (zS (uO (qv 4) (xw (zC zh (zC (zf (zd (zT hr)) ze (z7 3) (zV xE xD (zV vR vQ (z7 6) zK) (xL xl xo rfl z_len xh (xC (zF (z7 3)) xF)))) zH)) (yC (zW (zW yF)) (by decide)))))
       (zS (uO (qv 4) (xw (zC zh (zC (zV xE xD (zV vR vQ (z7 6) zK) zK) (zC (zV xE xD (zV vR vQ (z7 6) zK) zK) zH))) (yC (zW (zW (zW yF))) (by decide)))))))))))
  (zS (gG 4)))))
abbrev j4:Stmt:=top 69
theorem qq:yD ["_law_script", "_law_items", "_law_handed", "_law_found", "_law_kept", "_law_held", "_law_more"] ["_law_script"] (zr j4):=⟨rfl,rfl,rfl,by decide +kernel,rfl,by decide +kernel,by decide +kernel⟩
theorem Ct {f:Addr} {fd:FuncData} (d:qJ K "law" "law" j4 f fd) (z_list:mg "list" = none) (z_len:mg "len" = none) (h_law_program_by:zO P w K mg base "_law_program_by" ["_law_script", "_law_first", "_law_most"] 3 (zP K p8)) (h_law_mark:zO P w K mg base "_law_mark" ["_law_script", "_law_k"] 2 (zP K wX)) (h_law_varied:zO P w K mg base "_law_varied" ["_law_items", "_law_script", "_law_first"] 3 (zP K jK)) (h_short:zO P w K mg base "short" ["items"] 9 (zP K wg)) (h_law_rows:zO P w K mg base "_law_rows" ["_law_items"] 1 (zP K vn)) (h_is_program:zO P w K mg base "is_program" ["thing"] 4 (zP K qI)) (h_idle:zO P w K mg base "idle" ["items"] 8 (zP K tO)) (h_led_on:zO P w K mg base "led_on" ["items"] 3 (zP K uD)) (h_plain:zO P w K mg base "plain" ["items"] 4 (zP K um)):vb P w K mg base vV 10 f fd ["_law_script"] (Y8 K):=
 Fn d qq (by decide) KG fun cdv A outer s H E hr=>(zL (zp (i:=1) qq.nd rfl (Or.inl rfl) (yd (uN h_law_program_by hr rfl (zC (z7 0) (zC zK (zC zK zH))))))
  (zL (yR (zm (xU (yO hr)) xS (zF (zV xE xD (zt h_law_mark hr rfl (zC (z7 0) (zC zK zH))) zK)) (zF zK) (zx _))
   (zS (zp (i:=1) qq.nd rfl (Or.inl rfl) (zt h_law_varied hr rfl (zC (z7 1) (zC (z7 0) (zC zK zH))))))
   yi)
  (zL (vj (i:=2) qq.nd rfl (Or.inl rfl) (Uu rfl z_list (zC (z7 1) zH)))
  (zL (vj (i:=3) qq.nd rfl (Or.inl rfl) (Ut (uN h_short hr rfl (zC (z7 2) zH))))
  (zL (yR (LN (vT (vS (zm Ej EF (zF (zt h_is_program hr rfl (zC (z7 3) zH))) (zF vD) (zx _)) (vS (zm (ww (yO hr)) wu (zF (z7 2)) (zF (z7 1)) (zx _)) (ug (zm UD ub (zF (xL xl xo rfl z_len xh (xC (zF (zt h_law_rows hr rfl (zC (z7 3) zH))) xF))) (zF (xL xl xo rfl z_len xh (xC (zF (zt h_law_rows hr rfl (zC (z7 1) zH))) xF))) (zx _)))))))
   (zS (yY vD))
   yi)
  (zL (zp (i:=4) qq.nd rfl (Or.inl rfl) (yd (Ut (Uu rfl z_list (zC (z7 3) zH)))))
  (zL (zp (i:=5) qq.nd rfl (Or.inl rfl) (yd (Ut (Uu rfl z_list (zC (z7 3) zH)))))
  (zL (yR (LN (vT (vS (zm (ww (yO hr)) wu (zF (yd (uN h_plain hr rfl (zC (z7 3) zH)))) (zF (z7 3)) (zx _)) (vS (zm (ww (yO hr)) wu (zF (yd (uN h_led_on hr rfl (zC (z7 3) zH)))) (zF (z7 3)) (zx _)) (vS (zm (ww (yO hr)) wu (zF (yd (uN h_idle hr rfl (zC (z7 3) zH)))) (zF (yd (xV zH (yC yF (by decide))))) (zx _)) (ug (zm (ww (yO hr)) wu (zF (yd (uN h_short hr rfl (zC (z7 3) zH)))) (zF (z7 3)) (zx _))))))))
   (zS (yY vD))
   yi)
  (zL (vj (i:=6) qq.nd rfl (Or.inl rfl) (uN h_short hr rfl (zC (z7 4) zH)))
  (zL (uO (qv 6) (xw (zC zh zH) (yC (zW yF) (by decide))))
  (qx 6 (zL (uO (qv 3) (xw (zC zh zH) (yC (zW yF) (by decide))))
  (qx 3 (zL (yR (vT (vS (zm (ww (yO hr)) wu (j_ 2) (zF (z7 1)) (zx _)) (ug (zm (ww (yO hr)) wu (zF (z7 4)) (zF (z7 5)) (zx _)))))
   (zS (yY vD))
   yi)
  (zL (Nr (qv 2))
  (qx 2 (zS (yY (u9 (xU (yO hr)) xS (zF (yd (uN h_short hr rfl (zC (z7 1) zH)))) (zF (z7 5)) (zx _))))))))))))))))))))
end
theorem all_mk {l:PySem.W.OpenLaw} {w:World} {K:PySem.W.Frag} {h:Heap} {mg:Str->Option Value} {fa:Addr} (X:K.In h) (G:h.Ns mainGlobals mg) (hfa:mg "law" = some (.ref fa))
  {f0:Addr} {od0 an0:Option Addr} {sl0:Array (Option Value)} {oc0 kV0 dc0 pm0 cd0 ct0:Value}
  {f1:Addr} {od1 an1:Option Addr} {sl1:Array (Option Value)} {oc1 kV1 dc1 pm1 cd1 ct1:Value}
  {f2:Addr} {od2 an2:Option Addr} {sl2:Array (Option Value)} {oc2 kV2 dc2 pm2 cd2 ct2:Value}
  {f3:Addr} {od3 an3:Option Addr} {sl3:Array (Option Value)} {oc3 kV3 dc3 pm3 cd3 ct3:Value}
  {f4:Addr} {od4 an4:Option Addr} {sl4:Array (Option Value)} {oc4 kV4 dc4 pm4 cd4 ct4:Value}
  {f5:Addr} {od5 an5:Option Addr} {sl5:Array (Option Value)} {oc5 kV5 dc5 pm5 cd5 ct5:Value}
  {f6:Addr} {od6 an6:Option Addr} {sl6:Array (Option Value)} {oc6 kV6 dc6 pm6 cd6 ct6:Value}
  {f7:Addr} {od7 an7:Option Addr} {sl7:Array (Option Value)} {oc7 kV7 dc7 pm7 cd7 ct7:Value}
  {f8:Addr} {od8 an8:Option Addr} {sl8:Array (Option Value)} {oc8 kV8 dc8 pm8 cd8 ct8:Value}
  {f9:Addr} {od9 an9:Option Addr} {sl9:Array (Option Value)} {oc9 kV9 dc9 pm9 cd9 ct9:Value}
  {f10:Addr} {od10 an10:Option Addr} {sl10:Array (Option Value)} {oc10 kV10 dc10 pm10 cd10 ct10:Value}
  {f11:Addr} {od11 an11:Option Addr} {sl11:Array (Option Value)} {oc11 kV11 dc11 pm11 cd11 ct11:Value}
  {f12:Addr} {od12 an12:Option Addr} {sl12:Array (Option Value)} {oc12 kV12 dc12 pm12 cd12 ct12:Value}
  {f13:Addr} {od13 an13:Option Addr} {sl13:Array (Option Value)} {oc13 kV13 dc13 pm13 cd13 ct13:Value}
  {f14:Addr} {od14 an14:Option Addr} {sl14:Array (Option Value)} {oc14 kV14 dc14 pm14 cd14 ct14:Value}
  {f15:Addr} {od15 an15:Option Addr} {sl15:Array (Option Value)} {oc15 kV15 dc15 pm15 cd15 ct15:Value}
  {f16:Addr} {od16 an16:Option Addr} {sl16:Array (Option Value)} {oc16 kV16 dc16 pm16 cd16 ct16:Value}
  {f17:Addr} {od17 an17:Option Addr} {sl17:Array (Option Value)} {oc17 kV17 dc17 pm17 cd17 ct17:Value}
  {f18:Addr} {od18 an18:Option Addr} {sl18:Array (Option Value)} {oc18 kV18 dc18 pm18 cd18 ct18:Value}
  {f19:Addr} {od19 an19:Option Addr} {sl19:Array (Option Value)} {oc19 kV19 dc19 pm19 cd19 ct19:Value}
  {f20:Addr} {od20 an20:Option Addr} {sl20:Array (Option Value)} {oc20 kV20 dc20 pm20 cd20 ct20:Value}
  {f21:Addr} {od21 an21:Option Addr} {sl21:Array (Option Value)} {oc21 kV21 dc21 pm21 cd21 ct21:Value}
  {f22:Addr} {od22 an22:Option Addr} {sl22:Array (Option Value)} {oc22 kV22 dc22 pm22 cd22 ct22:Value}
  {f23:Addr} {od23 an23:Option Addr} {sl23:Array (Option Value)} {oc23 kV23 dc23 pm23 cd23 ct23:Value}
  {f24:Addr} {od24 an24:Option Addr} {sl24:Array (Option Value)} {oc24 kV24 dc24 pm24 cd24 ct24:Value}
  {f25:Addr} {od25 an25:Option Addr} {sl25:Array (Option Value)} {oc25 kV25 dc25 pm25 cd25 ct25:Value}
  {f26:Addr} {od26 an26:Option Addr} {sl26:Array (Option Value)} {oc26 kV26 dc26 pm26 cd26 ct26:Value}
  {f27:Addr} {od27 an27:Option Addr} {sl27:Array (Option Value)} {oc27 kV27 dc27 pm27 cd27 ct27:Value}
  {f28:Addr} {od28 an28:Option Addr} {sl28:Array (Option Value)} {oc28 kV28 dc28 pm28 cd28 ct28:Value}
  {f29:Addr} {od29 an29:Option Addr} {sl29:Array (Option Value)} {oc29 kV29 dc29 pm29 cd29 ct29:Value}
  {f30:Addr} {od30 an30:Option Addr} {sl30:Array (Option Value)} {oc30 kV30 dc30 pm30 cd30 ct30:Value}
  {f31:Addr} {od31 an31:Option Addr} {sl31:Array (Option Value)} {oc31 kV31 dc31 pm31 cd31 ct31:Value}
  {f32:Addr} {od32 an32:Option Addr} {sl32:Array (Option Value)} {oc32 kV32 dc32 pm32 cd32 ct32:Value}
  {f33:Addr} {od33 an33:Option Addr} {sl33:Array (Option Value)} {oc33 kV33 dc33 pm33 cd33 ct33:Value}
  {f34:Addr} {od34 an34:Option Addr} {sl34:Array (Option Value)} {oc34 kV34 dc34 pm34 cd34 ct34:Value}
  {f35:Addr} {od35 an35:Option Addr} {sl35:Array (Option Value)} {oc35 kV35 dc35 pm35 cd35 ct35:Value}
  {f36:Addr} {od36 an36:Option Addr} {sl36:Array (Option Value)} {oc36 kV36 dc36 pm36 cd36 ct36:Value}
  {f37:Addr} {od37 an37:Option Addr} {sl37:Array (Option Value)} {oc37 kV37 dc37 pm37 cd37 ct37:Value}
  {f38:Addr} {od38 an38:Option Addr} {sl38:Array (Option Value)} {oc38 kV38 dc38 pm38 cd38 ct38:Value}
  {f39:Addr} {od39 an39:Option Addr} {sl39:Array (Option Value)} {oc39 kV39 dc39 pm39 cd39 ct39:Value}
  {f40:Addr} {od40 an40:Option Addr} {sl40:Array (Option Value)} {oc40 kV40 dc40 pm40 cd40 ct40:Value}
  {f41:Addr} {od41 an41:Option Addr} {sl41:Array (Option Value)} {oc41 kV41 dc41 pm41 cd41 ct41:Value}
  {f42:Addr} {od42 an42:Option Addr} {sl42:Array (Option Value)} {oc42 kV42 dc42 pm42 cd42 ct42:Value}
  {f43:Addr} {od43 an43:Option Addr} {sl43:Array (Option Value)} {oc43 kV43 dc43 pm43 cd43 ct43:Value}
  (a0:PySem.W.nsIn K mainGlobals "is_label" = some (some (.ref f0)))
  (l0:K.lookup f0=yV "is_label" ZL oc0 od0 sl0 kV0 dc0 pm0 an0 cd0 ct0)
  (c0:PySem.W.codeIn K cd0 "is_label" = true) (k0:PySem.W.keepIn K (.ref f0)=true)
  (a1:PySem.W.nsIn K mainGlobals "is_jump" = some (some (.ref f1)))
  (l1:K.lookup f1=yV "is_jump" ZK oc1 od1 sl1 kV1 dc1 pm1 an1 cd1 ct1)
  (c1:PySem.W.codeIn K cd1 "is_jump" = true) (k1:PySem.W.keepIn K (.ref f1)=true)
  (a2:PySem.W.nsIn K mainGlobals "rows_of" = some (some (.ref f2)))
  (l2:K.lookup f2=yV "rows_of" Zo oc2 od2 sl2 kV2 dc2 pm2 an2 cd2 ct2)
  (c2:PySem.W.codeIn K cd2 "rows_of" = true) (k2:PySem.W.keepIn K (.ref f2)=true)
  (a3:PySem.W.nsIn K mainGlobals "label_places" = some (some (.ref f3)))
  (l3:K.lookup f3=yV "label_places" ZP oc3 od3 sl3 kV3 dc3 pm3 an3 cd3 ct3)
  (c3:PySem.W.codeIn K cd3 "label_places" = true) (k3:PySem.W.keepIn K (.ref f3)=true)
  (a4:PySem.W.nsIn K mainGlobals "is_number" = some (some (.ref f4)))
  (l4:K.lookup f4=yV "is_number" ZN oc4 od4 sl4 kV4 dc4 pm4 an4 cd4 ct4)
  (c4:PySem.W.codeIn K cd4 "is_number" = true) (k4:PySem.W.keepIn K (.ref f4)=true)
  (a5:PySem.W.nsIn K mainGlobals "is_name" = some (some (.ref f5)))
  (l5:K.lookup f5=yV "is_name" ZM oc5 od5 sl5 kV5 dc5 pm5 an5 cd5 ct5)
  (c5:PySem.W.codeIn K cd5 "is_name" = true) (k5:PySem.W.keepIn K (.ref f5)=true)
  (a6:PySem.W.nsIn K mainGlobals "fits" = some (some (.ref f6)))
  (l6:K.lookup f6=yV "fits" ZG oc6 od6 sl6 kV6 dc6 pm6 an6 cd6 ct6)
  (c6:PySem.W.codeIn K cd6 "fits" = true) (k6:PySem.W.keepIn K (.ref f6)=true)
  (a7:PySem.W.nsIn K mainGlobals "is_item" = some (some (.ref f7)))
  (l7:K.lookup f7=yV "is_item" ZJ oc7 od7 sl7 kV7 dc7 pm7 an7 cd7 ct7)
  (c7:PySem.W.codeIn K cd7 "is_item" = true) (k7:PySem.W.keepIn K (.ref f7)=true)
  (a8:PySem.W.nsIn K mainGlobals "is_program" = some (some (.ref f8)))
  (l8:K.lookup f8=yV "is_program" ZO oc8 od8 sl8 kV8 dc8 pm8 an8 cd8 ct8)
  (c8:PySem.W.codeIn K cd8 "is_program" = true) (k8:PySem.W.keepIn K (.ref f8)=true)
  (a9:PySem.W.nsIn K mainGlobals "targets_of" = some (some (.ref f9)))
  (l9:K.lookup f9=yV "targets_of" Zq oc9 od9 sl9 kV9 dc9 pm9 an9 cd9 ct9)
  (c9:PySem.W.codeIn K cd9 "targets_of" = true) (k9:PySem.W.keepIn K (.ref f9)=true)
  (a10:PySem.W.nsIn K mainGlobals "mark_bit" = some (some (.ref f10)))
  (l10:K.lookup f10=yV "mark_bit" Zd oc10 od10 sl10 kV10 dc10 pm10 an10 cd10 ct10)
  (c10:PySem.W.codeIn K cd10 "mark_bit" = true) (k10:PySem.W.keepIn K (.ref f10)=true)
  (a11:PySem.W.nsIn K mainGlobals "moves_by_nought" = some (some (.ref f11)))
  (l11:K.lookup f11=yV "moves_by_nought" Ze oc11 od11 sl11 kV11 dc11 pm11 an11 cd11 ct11)
  (c11:PySem.W.codeIn K cd11 "moves_by_nought" = true) (k11:PySem.W.keepIn K (.ref f11)=true)
  (a12:PySem.W.nsIn K mainGlobals "used" = some (some (.ref f12)))
  (l12:K.lookup f12=yV "used" Zs oc12 od12 sl12 kV12 dc12 pm12 an12 cd12 ct12)
  (c12:PySem.W.codeIn K cd12 "used" = true) (k12:PySem.W.keepIn K (.ref f12)=true)
  (a13:PySem.W.nsIn K mainGlobals "put" = some (some (.ref f13)))
  (l13:K.lookup f13=yV "put" Zm oc13 od13 sl13 kV13 dc13 pm13 an13 cd13 ct13)
  (c13:PySem.W.codeIn K cd13 "put" = true) (k13:PySem.W.keepIn K (.ref f13)=true)
  (a14:PySem.W.nsIn K mainGlobals "ways_from" = some (some (.ref f14)))
  (l14:K.lookup f14=yV "ways_from" Zt oc14 od14 sl14 kV14 dc14 pm14 an14 cd14 ct14)
  (c14:PySem.W.codeIn K cd14 "ways_from" = true) (k14:PySem.W.keepIn K (.ref f14)=true)
  (a15:PySem.W.nsIn K mainGlobals "ways_of" = some (some (.ref f15)))
  (l15:K.lookup f15=yV "ways_of" Zu oc15 od15 sl15 kV15 dc15 pm15 an15 cd15 ct15)
  (c15:PySem.W.codeIn K cd15 "ways_of" = true) (k15:PySem.W.keepIn K (.ref f15)=true)
  (a16:PySem.W.nsIn K mainGlobals "needed_at" = some (some (.ref f16)))
  (l16:K.lookup f16=yV "needed_at" Zh oc16 od16 sl16 kV16 dc16 pm16 an16 cd16 ct16)
  (c16:PySem.W.codeIn K cd16 "needed_at" = true) (k16:PySem.W.keepIn K (.ref f16)=true)
  (a17:PySem.W.nsIn K mainGlobals "comers_of" = some (some (.ref f17)))
  (l17:K.lookup f17=yV "comers_of" ZE oc17 od17 sl17 kV17 dc17 pm17 an17 cd17 ct17)
  (c17:PySem.W.codeIn K cd17 "comers_of" = true) (k17:PySem.W.keepIn K (.ref f17)=true)
  (a18:PySem.W.nsIn K mainGlobals "reached" = some (some (.ref f18)))
  (l18:K.lookup f18=yV "reached" Zn oc18 od18 sl18 kV18 dc18 pm18 an18 cd18 ct18)
  (c18:PySem.W.codeIn K cd18 "reached" = true) (k18:PySem.W.keepIn K (.ref f18)=true)
  (a19:PySem.W.nsIn K mainGlobals "needs" = some (some (.ref f19)))
  (l19:K.lookup f19=yV "needs" Zi oc19 od19 sl19 kV19 dc19 pm19 an19 cd19 ct19)
  (c19:PySem.W.codeIn K cd19 "needs" = true) (k19:PySem.W.keepIn K (.ref f19)=true)
  (a20:PySem.W.nsIn K mainGlobals "not_reached" = some (some (.ref f20)))
  (l20:K.lookup f20=yV "not_reached" Zk oc20 od20 sl20 kV20 dc20 pm20 an20 cd20 ct20)
  (c20:PySem.W.codeIn K cd20 "not_reached" = true) (k20:PySem.W.keepIn K (.ref f20)=true)
  (a21:PySem.W.nsIn K mainGlobals "to_the_next_row" = some (some (.ref f21)))
  (l21:K.lookup f21=yV "to_the_next_row" Zr oc21 od21 sl21 kV21 dc21 pm21 an21 cd21 ct21)
  (c21:PySem.W.codeIn K cd21 "to_the_next_row" = true) (k21:PySem.W.keepIn K (.ref f21)=true)
  (a22:PySem.W.nsIn K mainGlobals "copied_to_itself" = some (some (.ref f22)))
  (l22:K.lookup f22=yV "copied_to_itself" ZF oc22 od22 sl22 kV22 dc22 pm22 an22 cd22 ct22)
  (c22:PySem.W.codeIn K cd22 "copied_to_itself" = true) (k22:PySem.W.keepIn K (.ref f22)=true)
  (a23:PySem.W.nsIn K mainGlobals "not_needed" = some (some (.ref f23)))
  (l23:K.lookup f23=yV "not_needed" Zj oc23 od23 sl23 kV23 dc23 pm23 an23 cd23 ct23)
  (c23:PySem.W.codeIn K cd23 "not_needed" = true) (k23:PySem.W.keepIn K (.ref f23)=true)
  (a24:PySem.W.nsIn K mainGlobals "idle" = some (some (.ref f24)))
  (l24:K.lookup f24=yV "idle" ZH oc24 od24 sl24 kV24 dc24 pm24 an24 cd24 ct24)
  (c24:PySem.W.codeIn K cd24 "idle" = true) (k24:PySem.W.keepIn K (.ref f24)=true)
  (a25:PySem.W.nsIn K mainGlobals "idle_of_one_kind" = some (some (.ref f25)))
  (l25:K.lookup f25=yV "idle_of_one_kind" ZI oc25 od25 sl25 kV25 dc25 pm25 an25 cd25 ct25)
  (c25:PySem.W.codeIn K cd25 "idle_of_one_kind" = true) (k25:PySem.W.keepIn K (.ref f25)=true)
  (a26:PySem.W.nsIn K mainGlobals "without" = some (some (.ref f26)))
  (l26:K.lookup f26=yV "without" Zv oc26 od26 sl26 kV26 dc26 pm26 an26 cd26 ct26)
  (c26:PySem.W.codeIn K cd26 "without" = true) (k26:PySem.W.keepIn K (.ref f26)=true)
  (a27:PySem.W.nsIn K mainGlobals "leads_on" = some (some (.ref f27)))
  (l27:K.lookup f27=yV "leads_on" Zb oc27 od27 sl27 kV27 dc27 pm27 an27 cd27 ct27)
  (c27:PySem.W.codeIn K cd27 "leads_on" = true) (k27:PySem.W.keepIn K (.ref f27)=true)
  (a28:PySem.W.nsIn K mainGlobals "last_name" = some (some (.ref f28)))
  (l28:K.lookup f28=yV "last_name" ZR oc28 od28 sl28 kV28 dc28 pm28 an28 cd28 ct28)
  (c28:PySem.W.codeIn K cd28 "last_name" = true) (k28:PySem.W.keepIn K (.ref f28)=true)
  (a29:PySem.W.nsIn K mainGlobals "led_on" = some (some (.ref f29)))
  (l29:K.lookup f29=yV "led_on" Zc oc29 od29 sl29 kV29 dc29 pm29 an29 cd29 ct29)
  (c29:PySem.W.codeIn K cd29 "led_on" = true) (k29:PySem.W.keepIn K (.ref f29)=true)
  (a30:PySem.W.nsIn K mainGlobals "name_of" = some (some (.ref f30)))
  (l30:K.lookup f30=yV "name_of" Zf oc30 od30 sl30 kV30 dc30 pm30 an30 cd30 ct30)
  (c30:PySem.W.codeIn K cd30 "name_of" = true) (k30:PySem.W.keepIn K (.ref f30)=true)
  (a31:PySem.W.nsIn K mainGlobals "names_of_places" = some (some (.ref f31)))
  (l31:K.lookup f31=yV "names_of_places" Zg oc31 od31 sl31 kV31 dc31 pm31 an31 cd31 ct31)
  (c31:PySem.W.codeIn K cd31 "names_of_places" = true) (k31:PySem.W.keepIn K (.ref f31)=true)
  (a32:PySem.W.nsIn K mainGlobals "labelled" = some (some (.ref f32)))
  (l32:K.lookup f32=yV "labelled" ZQ oc32 od32 sl32 kV32 dc32 pm32 an32 cd32 ct32)
  (c32:PySem.W.codeIn K cd32 "labelled" = true) (k32:PySem.W.keepIn K (.ref f32)=true)
  (a33:PySem.W.nsIn K mainGlobals "plain" = some (some (.ref f33)))
  (l33:K.lookup f33=yV "plain" Zl oc33 od33 sl33 kV33 dc33 pm33 an33 cd33 ct33)
  (c33:PySem.W.codeIn K cd33 "plain" = true) (k33:PySem.W.keepIn K (.ref f33)=true)
  (a34:PySem.W.nsIn K mainGlobals "short" = some (some (.ref f34)))
  (l34:K.lookup f34=yV "short" Zp oc34 od34 sl34 kV34 dc34 pm34 an34 cd34 ct34)
  (c34:PySem.W.codeIn K cd34 "short" = true) (k34:PySem.W.keepIn K (.ref f34)=true)
  (a35:PySem.W.nsIn K mainGlobals "_law_cell_at" = some (some (.ref f35)))
  (l35:K.lookup f35=yV "_law_cell_at" ZS oc35 od35 sl35 kV35 dc35 pm35 an35 cd35 ct35)
  (c35:PySem.W.codeIn K cd35 "_law_cell_at" = true) (k35:PySem.W.keepIn K (.ref f35)=true)
  (a36:PySem.W.nsIn K mainGlobals "_law_mark" = some (some (.ref f36)))
  (l36:K.lookup f36=yV "_law_mark" ZT oc36 od36 sl36 kV36 dc36 pm36 an36 cd36 ct36)
  (c36:PySem.W.codeIn K cd36 "_law_mark" = true) (k36:PySem.W.keepIn K (.ref f36)=true)
  (a37:PySem.W.nsIn K mainGlobals "_law_words" = some (some (.ref f37)))
  (l37:K.lookup f37=yV "_law_words" Za oc37 od37 sl37 kV37 dc37 pm37 an37 cd37 ct37)
  (c37:PySem.W.codeIn K cd37 "_law_words" = true) (k37:PySem.W.keepIn K (.ref f37)=true)
  (a38:PySem.W.nsIn K mainGlobals "_law_row_by" = some (some (.ref f38)))
  (l38:K.lookup f38=yV "_law_row_by" ZW oc38 od38 sl38 kV38 dc38 pm38 an38 cd38 ct38)
  (c38:PySem.W.codeIn K cd38 "_law_row_by" = true) (k38:PySem.W.keepIn K (.ref f38)=true)
  (a39:PySem.W.nsIn K mainGlobals "_law_names" = some (some (.ref f39)))
  (l39:K.lookup f39=yV "_law_names" ZU oc39 od39 sl39 kV39 dc39 pm39 an39 cd39 ct39)
  (c39:PySem.W.codeIn K cd39 "_law_names" = true) (k39:PySem.W.keepIn K (.ref f39)=true)
  (a40:PySem.W.nsIn K mainGlobals "_law_program_by" = some (some (.ref f40)))
  (l40:K.lookup f40=yV "_law_program_by" ZV oc40 od40 sl40 kV40 dc40 pm40 an40 cd40 ct40)
  (c40:PySem.W.codeIn K cd40 "_law_program_by" = true) (k40:PySem.W.keepIn K (.ref f40)=true)
  (a41:PySem.W.nsIn K mainGlobals "_law_rows" = some (some (.ref f41)))
  (l41:K.lookup f41=yV "_law_rows" ZX oc41 od41 sl41 kV41 dc41 pm41 an41 cd41 ct41)
  (c41:PySem.W.codeIn K cd41 "_law_rows" = true) (k41:PySem.W.keepIn K (.ref f41)=true)
  (a42:PySem.W.nsIn K mainGlobals "_law_varied" = some (some (.ref f42)))
  (l42:K.lookup f42=yV "_law_varied" ZY oc42 od42 sl42 kV42 dc42 pm42 an42 cd42 ct42)
  (c42:PySem.W.codeIn K cd42 "_law_varied" = true) (k42:PySem.W.keepIn K (.ref f42)=true)
  (a43:PySem.W.nsIn K mainGlobals "law" = some (some (.ref f43)))
  (l43:K.lookup f43=yV "law" j4 oc43 od43 sl43 kV43 dc43 pm43 an43 cd43 ct43)
  (c43:PySem.W.codeIn K cd43 "law" = true) (k43:PySem.W.keepIn K (.ref f43)=true)
  (nz_isinstance:PySem.W.nsIn K mainGlobals "isinstance" = some none)
  (nz_int:PySem.W.nsIn K mainGlobals "int" = some none)
  (nz_bool:PySem.W.nsIn K mainGlobals "bool" = some none)
  (nz_str:PySem.W.nsIn K mainGlobals "str" = some none)
  (nz_len:PySem.W.nsIn K mainGlobals "len" = some none)
  (nz_all:PySem.W.nsIn K mainGlobals "all" = some none)
  (nz_tuple:PySem.W.nsIn K mainGlobals "tuple" = some none)
  (nz_zip:PySem.W.nsIn K mainGlobals "zip" = some none)
  (nz_list:PySem.W.nsIn K mainGlobals "list" = some none)
  (nz_set:PySem.W.nsIn K mainGlobals "set" = some none)
  (nz_sorted:PySem.W.nsIn K mainGlobals "sorted" = some none)
  (nz_enumerate:PySem.W.nsIn K mainGlobals "enumerate" = some none)
  (nz_range:PySem.W.nsIn K mainGlobals "range" = some none)
  (nz_dict:PySem.W.nsIn K mainGlobals "dict" = some none)
  {A_JUMPS:Addr} {n_JUMPS:Nat} {sl_JUMPS:Array (Option Value)} {u0_JUMPS u1_JUMPS u2_JUMPS:Tok} (ng_JUMPS:PySem.W.nsIn K mainGlobals "JUMPS" = some (some (.ref A_JUMPS)))
  (nq_JUMPS:K.lookup A_JUMPS=some ⟨.type "tuple",none,.seq #[.str "jump" u0_JUMPS,.str "when" u1_JUMPS,.str "unless" u2_JUMPS] n_JUMPS,sl_JUMPS⟩)
  {tg_NAME_LONGEST:Tok} (ng_NAME_LONGEST:PySem.W.nsIn K mainGlobals "NAME_LONGEST" = some (some (.int 8 tg_NAME_LONGEST)))
  {tg_LETTERS:Tok} (ng_LETTERS:PySem.W.nsIn K mainGlobals "LETTERS" = some (some (.str "abcdefghijklmnopqrstuvwxyz" tg_LETTERS)))
  {A_MARKS:Addr} {n_MARKS:Nat} {sl_MARKS:Array (Option Value)} {u0_MARKS u1_MARKS u2_MARKS:Tok} (ng_MARKS:PySem.W.nsIn K mainGlobals "MARKS" = some (some (.ref A_MARKS)))
  (nq_MARKS:K.lookup A_MARKS=some ⟨.type "tuple",none,.seq #[.str "carry" u0_MARKS,.str "nought" u1_MARKS,.str "sign" u2_MARKS] n_MARKS,sl_MARKS⟩)
  {A_NUMBER_WIDTHS:Addr} {n_NUMBER_WIDTHS:Nat} (ng_NUMBER_WIDTHS:PySem.W.nsIn K mainGlobals "NUMBER_WIDTHS" = some (some (.ref A_NUMBER_WIDTHS)))
  {tk0_NUMBER_WIDTHS:Tok}
  {tv0_NUMBER_WIDTHS:Tok}
  {tk1_NUMBER_WIDTHS:Tok}
  {tv1_NUMBER_WIDTHS:Tok}
  {tk2_NUMBER_WIDTHS:Tok}
  {tv2_NUMBER_WIDTHS:Tok}
  {tk3_NUMBER_WIDTHS:Tok}
  {tv3_NUMBER_WIDTHS:Tok}
  {tk4_NUMBER_WIDTHS:Tok}
  {tv4_NUMBER_WIDTHS:Tok}
  {tk5_NUMBER_WIDTHS:Tok}
  {tv5_NUMBER_WIDTHS:Tok}
  {tk6_NUMBER_WIDTHS:Tok}
  {tv6_NUMBER_WIDTHS:Tok}
  {tk7_NUMBER_WIDTHS:Tok}
  {tv7_NUMBER_WIDTHS:Tok}
  (nq_NUMBER_WIDTHS:K.lookup A_NUMBER_WIDTHS=some { cls:=.type "dict",data:=.dict #[⟨PyData.keyHash w.params "set",.str "set" tk0_NUMBER_WIDTHS,.int 16 tv0_NUMBER_WIDTHS⟩,⟨PyData.keyHash w.params "high",.str "high" tk1_NUMBER_WIDTHS,.int 16 tv1_NUMBER_WIDTHS⟩,⟨PyData.keyHash w.params "left",.str "left" tk2_NUMBER_WIDTHS,.int 5 tv2_NUMBER_WIDTHS⟩,⟨PyData.keyHash w.params "right",.str "right" tk3_NUMBER_WIDTHS,.int 5 tv3_NUMBER_WIDTHS⟩,⟨PyData.keyHash w.params "load",.str "load" tk4_NUMBER_WIDTHS,.int 8 tv4_NUMBER_WIDTHS⟩,⟨PyData.keyHash w.params "store",.str "store" tk5_NUMBER_WIDTHS,.int 8 tv5_NUMBER_WIDTHS⟩,⟨PyData.keyHash w.params "loadw",.str "loadw" tk6_NUMBER_WIDTHS,.int 8 tv6_NUMBER_WIDTHS⟩,⟨PyData.keyHash w.params "storew",.str "storew" tk7_NUMBER_WIDTHS,.int 8 tv7_NUMBER_WIDTHS⟩] n_NUMBER_WIDTHS }) (ns_NUMBER_WIDTHS:(A_NUMBER_WIDTHS == sysModules)=false)
  {A_PLACES:Addr} {n_PLACES:Nat} (ng_PLACES:PySem.W.nsIn K mainGlobals "PLACES" = some (some (.ref A_PLACES)))
  {tk0_PLACES:Tok}
  {A0_PLACES:Addr} {d0_PLACES:Option Addr} {n0_PLACES:Nat} {sl0_PLACES:Array (Option Value)}
  {w0_0_PLACES w0_1_PLACES:Tok}
  {tk1_PLACES:Tok}
  {A1_PLACES:Addr} {d1_PLACES:Option Addr} {n1_PLACES:Nat} {sl1_PLACES:Array (Option Value)}
  {w1_0_PLACES w1_1_PLACES:Tok}
  {tk2_PLACES:Tok}
  {A2_PLACES:Addr} {d2_PLACES:Option Addr} {n2_PLACES:Nat} {sl2_PLACES:Array (Option Value)}
  {w2_0_PLACES w2_1_PLACES:Tok}
  {tk3_PLACES:Tok}
  {A3_PLACES:Addr} {d3_PLACES:Option Addr} {n3_PLACES:Nat} {sl3_PLACES:Array (Option Value)}
  {w3_0_PLACES w3_1_PLACES:Tok}
  {tk4_PLACES:Tok}
  {A4_PLACES:Addr} {d4_PLACES:Option Addr} {n4_PLACES:Nat} {sl4_PLACES:Array (Option Value)}
  {w4_0_PLACES w4_1_PLACES:Tok}
  (nq_PLACES:K.lookup A_PLACES=some { cls:=.type "dict",data:=.dict #[⟨PyData.keyHash w.params "kind",.str "kind" tk0_PLACES,.ref A0_PLACES⟩,⟨PyData.keyHash w.params "d",.str "d" tk1_PLACES,.ref A1_PLACES⟩,⟨PyData.keyHash w.params "s",.str "s" tk2_PLACES,.ref A2_PLACES⟩,⟨PyData.keyHash w.params "mark",.str "mark" tk3_PLACES,.ref A3_PLACES⟩,⟨PyData.keyHash w.params "distance",.str "distance" tk4_PLACES,.ref A4_PLACES⟩] n_PLACES }) (ns_PLACES:(A_PLACES == sysModules)=false)
  (nt0_PLACES:K.lookup A0_PLACES=some ⟨.type "tuple",d0_PLACES,.seq #[.int 27 w0_0_PLACES,.int 5 w0_1_PLACES] n0_PLACES,sl0_PLACES⟩)
  (nt1_PLACES:K.lookup A1_PLACES=some ⟨.type "tuple",d1_PLACES,.seq #[.int 24 w1_0_PLACES,.int 3 w1_1_PLACES] n1_PLACES,sl1_PLACES⟩)
  (nt2_PLACES:K.lookup A2_PLACES=some ⟨.type "tuple",d2_PLACES,.seq #[.int 21 w2_0_PLACES,.int 3 w2_1_PLACES] n2_PLACES,sl2_PLACES⟩)
  (nt3_PLACES:K.lookup A3_PLACES=some ⟨.type "tuple",d3_PLACES,.seq #[.int 24 w3_0_PLACES,.int 2 w3_1_PLACES] n3_PLACES,sl3_PLACES⟩)
  (nt4_PLACES:K.lookup A4_PLACES=some ⟨.type "tuple",d4_PLACES,.seq #[.int 0 w4_0_PLACES,.int 5 w4_1_PLACES] n4_PLACES,sl4_PLACES⟩)
  {A_FIELDS:Addr} {n_FIELDS:Nat} (ng_FIELDS:PySem.W.nsIn K mainGlobals "FIELDS" = some (some (.ref A_FIELDS)))
  {tk0_FIELDS:Tok}
  {A0_FIELDS:Addr} {d0_FIELDS:Option Addr} {n0_FIELDS:Nat} {sl0_FIELDS:Array (Option Value)}
  {w0_0_FIELDS:Tok}
  {tk1_FIELDS:Tok}
  {A1_FIELDS:Addr} {d1_FIELDS:Option Addr} {n1_FIELDS:Nat} {sl1_FIELDS:Array (Option Value)}
  {w1_0_FIELDS w1_1_FIELDS:Tok}
  {tk2_FIELDS:Tok}
  {A2_FIELDS:Addr} {d2_FIELDS:Option Addr} {n2_FIELDS:Nat} {sl2_FIELDS:Array (Option Value)}
  {w2_0_FIELDS w2_1_FIELDS:Tok}
  {tk3_FIELDS:Tok}
  {A3_FIELDS:Addr} {d3_FIELDS:Option Addr} {n3_FIELDS:Nat} {sl3_FIELDS:Array (Option Value)}
  {w3_0_FIELDS w3_1_FIELDS:Tok}
  {tk4_FIELDS:Tok}
  {A4_FIELDS:Addr} {d4_FIELDS:Option Addr} {n4_FIELDS:Nat} {sl4_FIELDS:Array (Option Value)}
  {w4_0_FIELDS w4_1_FIELDS:Tok}
  {tk5_FIELDS:Tok}
  {A5_FIELDS:Addr} {d5_FIELDS:Option Addr} {n5_FIELDS:Nat} {sl5_FIELDS:Array (Option Value)}
  {w5_0_FIELDS w5_1_FIELDS:Tok}
  {tk6_FIELDS:Tok}
  {A6_FIELDS:Addr} {d6_FIELDS:Option Addr} {n6_FIELDS:Nat} {sl6_FIELDS:Array (Option Value)}
  {w6_0_FIELDS w6_1_FIELDS:Tok}
  {tk7_FIELDS:Tok}
  {A7_FIELDS:Addr} {d7_FIELDS:Option Addr} {n7_FIELDS:Nat} {sl7_FIELDS:Array (Option Value)}
  {w7_0_FIELDS w7_1_FIELDS:Tok}
  {tk8_FIELDS:Tok}
  {A8_FIELDS:Addr} {d8_FIELDS:Option Addr} {n8_FIELDS:Nat} {sl8_FIELDS:Array (Option Value)}
  {w8_0_FIELDS w8_1_FIELDS:Tok}
  {tk9_FIELDS:Tok}
  {A9_FIELDS:Addr} {d9_FIELDS:Option Addr} {n9_FIELDS:Nat} {sl9_FIELDS:Array (Option Value)}
  {w9_0_FIELDS w9_1_FIELDS:Tok}
  {tk10_FIELDS:Tok}
  {A10_FIELDS:Addr} {d10_FIELDS:Option Addr} {n10_FIELDS:Nat} {sl10_FIELDS:Array (Option Value)}
  {w10_0_FIELDS w10_1_FIELDS:Tok}
  {tk11_FIELDS:Tok}
  {A11_FIELDS:Addr} {d11_FIELDS:Option Addr} {n11_FIELDS:Nat} {sl11_FIELDS:Array (Option Value)}
  {w11_0_FIELDS w11_1_FIELDS:Tok}
  {tk12_FIELDS:Tok}
  {A12_FIELDS:Addr} {d12_FIELDS:Option Addr} {n12_FIELDS:Nat} {sl12_FIELDS:Array (Option Value)}
  {w12_0_FIELDS w12_1_FIELDS:Tok}
  {tk13_FIELDS:Tok}
  {A13_FIELDS:Addr} {d13_FIELDS:Option Addr} {n13_FIELDS:Nat} {sl13_FIELDS:Array (Option Value)}
  {w13_0_FIELDS w13_1_FIELDS:Tok}
  {tk14_FIELDS:Tok}
  {A14_FIELDS:Addr} {d14_FIELDS:Option Addr} {n14_FIELDS:Nat} {sl14_FIELDS:Array (Option Value)}
  {w14_0_FIELDS w14_1_FIELDS w14_2_FIELDS:Tok}
  {tk15_FIELDS:Tok}
  {A15_FIELDS:Addr} {d15_FIELDS:Option Addr} {n15_FIELDS:Nat} {sl15_FIELDS:Array (Option Value)}
  {w15_0_FIELDS w15_1_FIELDS w15_2_FIELDS:Tok}
  {tk16_FIELDS:Tok}
  {A16_FIELDS:Addr} {d16_FIELDS:Option Addr} {n16_FIELDS:Nat} {sl16_FIELDS:Array (Option Value)}
  {w16_0_FIELDS w16_1_FIELDS w16_2_FIELDS:Tok}
  {tk17_FIELDS:Tok}
  {A17_FIELDS:Addr} {d17_FIELDS:Option Addr} {n17_FIELDS:Nat} {sl17_FIELDS:Array (Option Value)}
  {w17_0_FIELDS w17_1_FIELDS w17_2_FIELDS:Tok}
  {tk18_FIELDS:Tok}
  {A18_FIELDS:Addr} {d18_FIELDS:Option Addr} {n18_FIELDS:Nat} {sl18_FIELDS:Array (Option Value)}
  {w18_0_FIELDS:Tok}
  {tk19_FIELDS:Tok}
  {A19_FIELDS:Addr} {d19_FIELDS:Option Addr} {n19_FIELDS:Nat} {sl19_FIELDS:Array (Option Value)}
  {w19_0_FIELDS w19_1_FIELDS:Tok}
  {tk20_FIELDS:Tok}
  {A20_FIELDS:Addr} {d20_FIELDS:Option Addr} {n20_FIELDS:Nat} {sl20_FIELDS:Array (Option Value)}
  {w20_0_FIELDS w20_1_FIELDS:Tok}
  {tk21_FIELDS:Tok}
  {A21_FIELDS:Addr} {d21_FIELDS:Option Addr} {n21_FIELDS:Nat} {sl21_FIELDS:Array (Option Value)}
  (nq_FIELDS:K.lookup A_FIELDS=some { cls:=.type "dict",data:=.dict #[⟨PyData.keyHash w.params "label",.str "label" tk0_FIELDS,.ref A0_FIELDS⟩,⟨PyData.keyHash w.params "set",.str "set" tk1_FIELDS,.ref A1_FIELDS⟩,⟨PyData.keyHash w.params "high",.str "high" tk2_FIELDS,.ref A2_FIELDS⟩,⟨PyData.keyHash w.params "copy",.str "copy" tk3_FIELDS,.ref A3_FIELDS⟩,⟨PyData.keyHash w.params "add",.str "add" tk4_FIELDS,.ref A4_FIELDS⟩,⟨PyData.keyHash w.params "addc",.str "addc" tk5_FIELDS,.ref A5_FIELDS⟩,⟨PyData.keyHash w.params "sub",.str "sub" tk6_FIELDS,.ref A6_FIELDS⟩,⟨PyData.keyHash w.params "subc",.str "subc" tk7_FIELDS,.ref A7_FIELDS⟩,⟨PyData.keyHash w.params "and",.str "and" tk8_FIELDS,.ref A8_FIELDS⟩,⟨PyData.keyHash w.params "or",.str "or" tk9_FIELDS,.ref A9_FIELDS⟩,⟨PyData.keyHash w.params "xor",.str "xor" tk10_FIELDS,.ref A10_FIELDS⟩,⟨PyData.keyHash w.params "test",.str "test" tk11_FIELDS,.ref A11_FIELDS⟩,⟨PyData.keyHash w.params "left",.str "left" tk12_FIELDS,.ref A12_FIELDS⟩,⟨PyData.keyHash w.params "right",.str "right" tk13_FIELDS,.ref A13_FIELDS⟩,⟨PyData.keyHash w.params "load",.str "load" tk14_FIELDS,.ref A14_FIELDS⟩,⟨PyData.keyHash w.params "store",.str "store" tk15_FIELDS,.ref A15_FIELDS⟩,⟨PyData.keyHash w.params "loadw",.str "loadw" tk16_FIELDS,.ref A16_FIELDS⟩,⟨PyData.keyHash w.params "storew",.str "storew" tk17_FIELDS,.ref A17_FIELDS⟩,⟨PyData.keyHash w.params "jump",.str "jump" tk18_FIELDS,.ref A18_FIELDS⟩,⟨PyData.keyHash w.params "when",.str "when" tk19_FIELDS,.ref A19_FIELDS⟩,⟨PyData.keyHash w.params "unless",.str "unless" tk20_FIELDS,.ref A20_FIELDS⟩,⟨PyData.keyHash w.params "stop",.str "stop" tk21_FIELDS,.ref A21_FIELDS⟩] n_FIELDS }) (ns_FIELDS:(A_FIELDS == sysModules)=false)
  (nt0_FIELDS:K.lookup A0_FIELDS=some ⟨.type "tuple",d0_FIELDS,.seq #[.str "name" w0_0_FIELDS] n0_FIELDS,sl0_FIELDS⟩)
  (nt1_FIELDS:K.lookup A1_FIELDS=some ⟨.type "tuple",d1_FIELDS,.seq #[.str "d" w1_0_FIELDS,.str "n" w1_1_FIELDS] n1_FIELDS,sl1_FIELDS⟩)
  (nt2_FIELDS:K.lookup A2_FIELDS=some ⟨.type "tuple",d2_FIELDS,.seq #[.str "d" w2_0_FIELDS,.str "n" w2_1_FIELDS] n2_FIELDS,sl2_FIELDS⟩)
  (nt3_FIELDS:K.lookup A3_FIELDS=some ⟨.type "tuple",d3_FIELDS,.seq #[.str "d" w3_0_FIELDS,.str "s" w3_1_FIELDS] n3_FIELDS,sl3_FIELDS⟩)
  (nt4_FIELDS:K.lookup A4_FIELDS=some ⟨.type "tuple",d4_FIELDS,.seq #[.str "d" w4_0_FIELDS,.str "s" w4_1_FIELDS] n4_FIELDS,sl4_FIELDS⟩)
  (nt5_FIELDS:K.lookup A5_FIELDS=some ⟨.type "tuple",d5_FIELDS,.seq #[.str "d" w5_0_FIELDS,.str "s" w5_1_FIELDS] n5_FIELDS,sl5_FIELDS⟩)
  (nt6_FIELDS:K.lookup A6_FIELDS=some ⟨.type "tuple",d6_FIELDS,.seq #[.str "d" w6_0_FIELDS,.str "s" w6_1_FIELDS] n6_FIELDS,sl6_FIELDS⟩)
  (nt7_FIELDS:K.lookup A7_FIELDS=some ⟨.type "tuple",d7_FIELDS,.seq #[.str "d" w7_0_FIELDS,.str "s" w7_1_FIELDS] n7_FIELDS,sl7_FIELDS⟩)
  (nt8_FIELDS:K.lookup A8_FIELDS=some ⟨.type "tuple",d8_FIELDS,.seq #[.str "d" w8_0_FIELDS,.str "s" w8_1_FIELDS] n8_FIELDS,sl8_FIELDS⟩)
  (nt9_FIELDS:K.lookup A9_FIELDS=some ⟨.type "tuple",d9_FIELDS,.seq #[.str "d" w9_0_FIELDS,.str "s" w9_1_FIELDS] n9_FIELDS,sl9_FIELDS⟩)
  (nt10_FIELDS:K.lookup A10_FIELDS=some ⟨.type "tuple",d10_FIELDS,.seq #[.str "d" w10_0_FIELDS,.str "s" w10_1_FIELDS] n10_FIELDS,sl10_FIELDS⟩)
  (nt11_FIELDS:K.lookup A11_FIELDS=some ⟨.type "tuple",d11_FIELDS,.seq #[.str "d" w11_0_FIELDS,.str "s" w11_1_FIELDS] n11_FIELDS,sl11_FIELDS⟩)
  (nt12_FIELDS:K.lookup A12_FIELDS=some ⟨.type "tuple",d12_FIELDS,.seq #[.str "d" w12_0_FIELDS,.str "n" w12_1_FIELDS] n12_FIELDS,sl12_FIELDS⟩)
  (nt13_FIELDS:K.lookup A13_FIELDS=some ⟨.type "tuple",d13_FIELDS,.seq #[.str "d" w13_0_FIELDS,.str "n" w13_1_FIELDS] n13_FIELDS,sl13_FIELDS⟩)
  (nt14_FIELDS:K.lookup A14_FIELDS=some ⟨.type "tuple",d14_FIELDS,.seq #[.str "d" w14_0_FIELDS,.str "s" w14_1_FIELDS,.str "n" w14_2_FIELDS] n14_FIELDS,sl14_FIELDS⟩)
  (nt15_FIELDS:K.lookup A15_FIELDS=some ⟨.type "tuple",d15_FIELDS,.seq #[.str "d" w15_0_FIELDS,.str "s" w15_1_FIELDS,.str "n" w15_2_FIELDS] n15_FIELDS,sl15_FIELDS⟩)
  (nt16_FIELDS:K.lookup A16_FIELDS=some ⟨.type "tuple",d16_FIELDS,.seq #[.str "d" w16_0_FIELDS,.str "s" w16_1_FIELDS,.str "n" w16_2_FIELDS] n16_FIELDS,sl16_FIELDS⟩)
  (nt17_FIELDS:K.lookup A17_FIELDS=some ⟨.type "tuple",d17_FIELDS,.seq #[.str "d" w17_0_FIELDS,.str "s" w17_1_FIELDS,.str "n" w17_2_FIELDS] n17_FIELDS,sl17_FIELDS⟩)
  (nt18_FIELDS:K.lookup A18_FIELDS=some ⟨.type "tuple",d18_FIELDS,.seq #[.str "name" w18_0_FIELDS] n18_FIELDS,sl18_FIELDS⟩)
  (nt19_FIELDS:K.lookup A19_FIELDS=some ⟨.type "tuple",d19_FIELDS,.seq #[.str "mark" w19_0_FIELDS,.str "name" w19_1_FIELDS] n19_FIELDS,sl19_FIELDS⟩)
  (nt20_FIELDS:K.lookup A20_FIELDS=some ⟨.type "tuple",d20_FIELDS,.seq #[.str "mark" w20_0_FIELDS,.str "name" w20_1_FIELDS] n20_FIELDS,sl20_FIELDS⟩)
  (nt21_FIELDS:K.lookup A21_FIELDS=some ⟨.type "tuple",d21_FIELDS,.seq #[] n21_FIELDS,sl21_FIELDS⟩)
  {tg_MARK_LOW:Tok} (ng_MARK_LOW:PySem.W.nsIn K mainGlobals "MARK_LOW" = some (some (.int 8 tg_MARK_LOW)))
  {tg_ALL_NEEDED:Tok} (ng_ALL_NEEDED:PySem.W.nsIn K mainGlobals "ALL_NEEDED" = some (some (.int 2047 tg_ALL_NEEDED)))
  {A_LOOK_AT_D:Addr} {n_LOOK_AT_D:Nat} {sl_LOOK_AT_D:Array (Option Value)} {u0_LOOK_AT_D u1_LOOK_AT_D u2_LOOK_AT_D u3_LOOK_AT_D u4_LOOK_AT_D u5_LOOK_AT_D u6_LOOK_AT_D u7_LOOK_AT_D u8_LOOK_AT_D u9_LOOK_AT_D u10_LOOK_AT_D u11_LOOK_AT_D u12_LOOK_AT_D:Tok} (ng_LOOK_AT_D:PySem.W.nsIn K mainGlobals "LOOK_AT_D" = some (some (.ref A_LOOK_AT_D)))
  (nq_LOOK_AT_D:K.lookup A_LOOK_AT_D=some ⟨.type "tuple",none,.seq #[.str "high" u0_LOOK_AT_D,.str "left" u1_LOOK_AT_D,.str "right" u2_LOOK_AT_D,.str "add" u3_LOOK_AT_D,.str "addc" u4_LOOK_AT_D,.str "sub" u5_LOOK_AT_D,.str "subc" u6_LOOK_AT_D,.str "and" u7_LOOK_AT_D,.str "or" u8_LOOK_AT_D,.str "xor" u9_LOOK_AT_D,.str "test" u10_LOOK_AT_D,.str "store" u11_LOOK_AT_D,.str "storew" u12_LOOK_AT_D] n_LOOK_AT_D,sl_LOOK_AT_D⟩)
  {A_LOOK_AT_S:Addr} {n_LOOK_AT_S:Nat} {sl_LOOK_AT_S:Array (Option Value)} {u0_LOOK_AT_S u1_LOOK_AT_S u2_LOOK_AT_S u3_LOOK_AT_S u4_LOOK_AT_S u5_LOOK_AT_S u6_LOOK_AT_S u7_LOOK_AT_S u8_LOOK_AT_S u9_LOOK_AT_S u10_LOOK_AT_S u11_LOOK_AT_S u12_LOOK_AT_S:Tok} (ng_LOOK_AT_S:PySem.W.nsIn K mainGlobals "LOOK_AT_S" = some (some (.ref A_LOOK_AT_S)))
  (nq_LOOK_AT_S:K.lookup A_LOOK_AT_S=some ⟨.type "tuple",none,.seq #[.str "copy" u0_LOOK_AT_S,.str "load" u1_LOOK_AT_S,.str "loadw" u2_LOOK_AT_S,.str "add" u3_LOOK_AT_S,.str "addc" u4_LOOK_AT_S,.str "sub" u5_LOOK_AT_S,.str "subc" u6_LOOK_AT_S,.str "and" u7_LOOK_AT_S,.str "or" u8_LOOK_AT_S,.str "xor" u9_LOOK_AT_S,.str "test" u10_LOOK_AT_S,.str "store" u11_LOOK_AT_S,.str "storew" u12_LOOK_AT_S] n_LOOK_AT_S,sl_LOOK_AT_S⟩)
  {A_LOOK_AT_CARRY:Addr} {n_LOOK_AT_CARRY:Nat} {sl_LOOK_AT_CARRY:Array (Option Value)} {u0_LOOK_AT_CARRY u1_LOOK_AT_CARRY:Tok} (ng_LOOK_AT_CARRY:PySem.W.nsIn K mainGlobals "LOOK_AT_CARRY" = some (some (.ref A_LOOK_AT_CARRY)))
  (nq_LOOK_AT_CARRY:K.lookup A_LOOK_AT_CARRY=some ⟨.type "tuple",none,.seq #[.str "addc" u0_LOOK_AT_CARRY,.str "subc" u1_LOOK_AT_CARRY] n_LOOK_AT_CARRY,sl_LOOK_AT_CARRY⟩)
  {A_PUT_D:Addr} {n_PUT_D:Nat} {sl_PUT_D:Array (Option Value)} {u0_PUT_D u1_PUT_D u2_PUT_D u3_PUT_D u4_PUT_D u5_PUT_D u6_PUT_D u7_PUT_D u8_PUT_D u9_PUT_D u10_PUT_D u11_PUT_D u12_PUT_D u13_PUT_D:Tok} (ng_PUT_D:PySem.W.nsIn K mainGlobals "PUT_D" = some (some (.ref A_PUT_D)))
  (nq_PUT_D:K.lookup A_PUT_D=some ⟨.type "tuple",none,.seq #[.str "set" u0_PUT_D,.str "high" u1_PUT_D,.str "copy" u2_PUT_D,.str "load" u3_PUT_D,.str "loadw" u4_PUT_D,.str "add" u5_PUT_D,.str "addc" u6_PUT_D,.str "sub" u7_PUT_D,.str "subc" u8_PUT_D,.str "and" u9_PUT_D,.str "or" u10_PUT_D,.str "xor" u11_PUT_D,.str "left" u12_PUT_D,.str "right" u13_PUT_D] n_PUT_D,sl_PUT_D⟩)
  {A_PUT_NOUGHT_AND_SIGN:Addr} {n_PUT_NOUGHT_AND_SIGN:Nat} {sl_PUT_NOUGHT_AND_SIGN:Array (Option Value)} {u0_PUT_NOUGHT_AND_SIGN u1_PUT_NOUGHT_AND_SIGN u2_PUT_NOUGHT_AND_SIGN u3_PUT_NOUGHT_AND_SIGN u4_PUT_NOUGHT_AND_SIGN u5_PUT_NOUGHT_AND_SIGN u6_PUT_NOUGHT_AND_SIGN u7_PUT_NOUGHT_AND_SIGN u8_PUT_NOUGHT_AND_SIGN u9_PUT_NOUGHT_AND_SIGN:Tok} (ng_PUT_NOUGHT_AND_SIGN:PySem.W.nsIn K mainGlobals "PUT_NOUGHT_AND_SIGN" = some (some (.ref A_PUT_NOUGHT_AND_SIGN)))
  (nq_PUT_NOUGHT_AND_SIGN:K.lookup A_PUT_NOUGHT_AND_SIGN=some ⟨.type "tuple",none,.seq #[.str "add" u0_PUT_NOUGHT_AND_SIGN,.str "addc" u1_PUT_NOUGHT_AND_SIGN,.str "sub" u2_PUT_NOUGHT_AND_SIGN,.str "subc" u3_PUT_NOUGHT_AND_SIGN,.str "test" u4_PUT_NOUGHT_AND_SIGN,.str "and" u5_PUT_NOUGHT_AND_SIGN,.str "or" u6_PUT_NOUGHT_AND_SIGN,.str "xor" u7_PUT_NOUGHT_AND_SIGN,.str "left" u8_PUT_NOUGHT_AND_SIGN,.str "right" u9_PUT_NOUGHT_AND_SIGN] n_PUT_NOUGHT_AND_SIGN,sl_PUT_NOUGHT_AND_SIGN⟩)
  {A_PUT_CARRY:Addr} {n_PUT_CARRY:Nat} {sl_PUT_CARRY:Array (Option Value)} {u0_PUT_CARRY u1_PUT_CARRY u2_PUT_CARRY u3_PUT_CARRY u4_PUT_CARRY u5_PUT_CARRY u6_PUT_CARRY:Tok} (ng_PUT_CARRY:PySem.W.nsIn K mainGlobals "PUT_CARRY" = some (some (.ref A_PUT_CARRY)))
  (nq_PUT_CARRY:K.lookup A_PUT_CARRY=some ⟨.type "tuple",none,.seq #[.str "add" u0_PUT_CARRY,.str "addc" u1_PUT_CARRY,.str "sub" u2_PUT_CARRY,.str "subc" u3_PUT_CARRY,.str "test" u4_PUT_CARRY,.str "left" u5_PUT_CARRY,.str "right" u6_PUT_CARRY] n_PUT_CARRY,sl_PUT_CARRY⟩)
  {A_IDLE_KINDS:Addr} {n_IDLE_KINDS:Nat} {sl_IDLE_KINDS:Array (Option Value)} (ng_IDLE_KINDS:PySem.W.nsIn K mainGlobals "IDLE_KINDS" = some (some (.ref A_IDLE_KINDS)))
  (nq_IDLE_KINDS:K.lookup A_IDLE_KINDS=some ⟨.type "tuple",none,.seq #[.ref f20,.ref f21,.ref f22,.ref f23] n_IDLE_KINDS,sl_IDLE_KINDS⟩)
  : ∃ fd:FuncData,(∀ (s:Shared) (v:Value),BindsTo s fd ⟨[v],[]⟩ [("_law_script",v)])/\∀ base:Heap,K.In base->base.Ns mainGlobals mg->vb l.prog w K mg base vV 10 fa fd ["_law_script"] (Y8 K):=by
 have e:=hfa.symm.trans (PySem.W.mg_of X G a43)
 cases e
 have z_isinstance:mg "isinstance" = none:=PySem.W.mg_none_of X G nz_isinstance
 have z_int:mg "int" = none:=PySem.W.mg_none_of X G nz_int
 have z_bool:mg "bool" = none:=PySem.W.mg_none_of X G nz_bool
 have z_str:mg "str" = none:=PySem.W.mg_none_of X G nz_str
 have z_len:mg "len" = none:=PySem.W.mg_none_of X G nz_len
 have z_all:mg "all" = none:=PySem.W.mg_none_of X G nz_all
 have z_tuple:mg "tuple" = none:=PySem.W.mg_none_of X G nz_tuple
 have z_zip:mg "zip" = none:=PySem.W.mg_none_of X G nz_zip
 have z_list:mg "list" = none:=PySem.W.mg_none_of X G nz_list
 have z_set:mg "set" = none:=PySem.W.mg_none_of X G nz_set
 have z_sorted:mg "sorted" = none:=PySem.W.mg_none_of X G nz_sorted
 have z_enumerate:mg "enumerate" = none:=PySem.W.mg_none_of X G nz_enumerate
 have z_range:mg "range" = none:=PySem.W.mg_none_of X G nz_range
 have z_dict:mg "dict" = none:=PySem.W.mg_none_of X G nz_dict
 have k_JUMPS:ut K A_JUMPS:=⟨_,nq_JUMPS,rfl,rfl⟩
 have g_JUMPS:yU mg "JUMPS" (.ref A_JUMPS):=⟨_,PySem.W.mg_of X G ng_JUMPS,rfl⟩
 have q_JUMPS:∀ H,zR K H XF (.ref A_JUMPS):=fun H=>⟨A_JUMPS,_,rfl,yq (xs:=[.str "jump",.str "when",.str "unless"]) nq_JUMPS (by show (3:Nat)<=sizeLine; decide) (.cons ⟨_,rfl⟩ (.cons ⟨_,rfl⟩ (.cons ⟨_,rfl⟩ .nil))) H,⟨_,_,rfl,⟨rfl,small (by decide)⟩,⟨_,_,rfl,⟨rfl,small (by decide)⟩,⟨_,_,rfl,⟨rfl,small (by decide)⟩,rfl⟩⟩⟩,small (by decide)⟩
 have g_NAME_LONGEST:yU mg "NAME_LONGEST" (.int 8):=⟨_,PySem.W.mg_of X G ng_NAME_LONGEST,⟨_,rfl⟩⟩
 have q_NAME_LONGEST:∀ H,zR K H (.int 8) (.int 8):=fun _=>rfl
 have g_LETTERS:yU mg "LETTERS" (.str "abcdefghijklmnopqrstuvwxyz"):=⟨_,PySem.W.mg_of X G ng_LETTERS,⟨_,rfl⟩⟩
 have q_LETTERS:∀ H,zR K H (.str "abcdefghijklmnopqrstuvwxyz") (.str "abcdefghijklmnopqrstuvwxyz"):=fun _=>⟨rfl,small (by decide)⟩
 have k_MARKS:ut K A_MARKS:=⟨_,nq_MARKS,rfl,rfl⟩
 have g_MARKS:yU mg "MARKS" (.ref A_MARKS):=⟨_,PySem.W.mg_of X G ng_MARKS,rfl⟩
 have q_MARKS:∀ H,zR K H kJ (.ref A_MARKS):=fun H=>⟨A_MARKS,_,rfl,yq (xs:=[.str "carry",.str "nought",.str "sign"]) nq_MARKS (by show (3:Nat)<=sizeLine; decide) (.cons ⟨_,rfl⟩ (.cons ⟨_,rfl⟩ (.cons ⟨_,rfl⟩ .nil))) H,⟨_,_,rfl,⟨rfl,small (by decide)⟩,⟨_,_,rfl,⟨rfl,small (by decide)⟩,⟨_,_,rfl,⟨rfl,small (by decide)⟩,rfl⟩⟩⟩,small (by decide)⟩
 have g_NUMBER_WIDTHS:yU mg "NUMBER_WIDTHS" (.ref A_NUMBER_WIDTHS):=⟨_,PySem.W.mg_of X G ng_NUMBER_WIDTHS,rfl⟩
 have q_NUMBER_WIDTHS:uT K w A_NUMBER_WIDTHS XD XH:=VV (us:=[.int 16,.int 16,.int 5,.int 5,.int 8,.int 8,.int 8,.int 8]) nq_NUMBER_WIDTHS (.cons (.cons (.cons (.cons (.cons (.cons (.cons (.cons .nil)))))))) (by decide +kernel) ns_NUMBER_WIDTHS (.cons ⟨_,rfl⟩ (.cons ⟨_,rfl⟩ (.cons ⟨_,rfl⟩ (.cons ⟨_,rfl⟩ (.cons ⟨_,rfl⟩ (.cons ⟨_,rfl⟩ (.cons ⟨_,rfl⟩ (.cons ⟨_,rfl⟩ .nil)))))))) fun H=>⟨_,_,rfl,rfl,⟨_,_,rfl,rfl,⟨_,_,rfl,rfl,⟨_,_,rfl,rfl,⟨_,_,rfl,rfl,⟨_,_,rfl,rfl,⟨_,_,rfl,rfl,⟨_,_,rfl,rfl,rfl⟩⟩⟩⟩⟩⟩⟩⟩
 have g_PLACES:yU mg "PLACES" (.ref A_PLACES):=⟨_,PySem.W.mg_of X G ng_PLACES,rfl⟩
 have q_PLACES:uT K w A_PLACES kG kK:=VV (us:=[.ref A0_PLACES,.ref A1_PLACES,.ref A2_PLACES,.ref A3_PLACES,.ref A4_PLACES]) nq_PLACES (.cons (.cons (.cons (.cons (.cons .nil))))) (by decide +kernel) ns_PLACES (.cons rfl (.cons rfl (.cons rfl (.cons rfl (.cons rfl .nil))))) fun H=>⟨_,_,rfl,⟨A0_PLACES,_,rfl,yq (xs:=[.int 27,.int 5]) nt0_PLACES (by show (2:Nat)<=sizeLine; decide) (.cons ⟨_,rfl⟩ (.cons ⟨_,rfl⟩ .nil)) H,⟨_,_,rfl,rfl,⟨_,_,rfl,rfl,rfl⟩⟩,small (by decide)⟩,⟨_,_,rfl,⟨A1_PLACES,_,rfl,yq (xs:=[.int 24,.int 3]) nt1_PLACES (by show (2:Nat)<=sizeLine; decide) (.cons ⟨_,rfl⟩ (.cons ⟨_,rfl⟩ .nil)) H,⟨_,_,rfl,rfl,⟨_,_,rfl,rfl,rfl⟩⟩,small (by decide)⟩,⟨_,_,rfl,⟨A2_PLACES,_,rfl,yq (xs:=[.int 21,.int 3]) nt2_PLACES (by show (2:Nat)<=sizeLine; decide) (.cons ⟨_,rfl⟩ (.cons ⟨_,rfl⟩ .nil)) H,⟨_,_,rfl,rfl,⟨_,_,rfl,rfl,rfl⟩⟩,small (by decide)⟩,⟨_,_,rfl,⟨A3_PLACES,_,rfl,yq (xs:=[.int 24,.int 2]) nt3_PLACES (by show (2:Nat)<=sizeLine; decide) (.cons ⟨_,rfl⟩ (.cons ⟨_,rfl⟩ .nil)) H,⟨_,_,rfl,rfl,⟨_,_,rfl,rfl,rfl⟩⟩,small (by decide)⟩,⟨_,_,rfl,⟨A4_PLACES,_,rfl,yq (xs:=[.int 0,.int 5]) nt4_PLACES (by show (2:Nat)<=sizeLine; decide) (.cons ⟨_,rfl⟩ (.cons ⟨_,rfl⟩ .nil)) H,⟨_,_,rfl,rfl,⟨_,_,rfl,rfl,rfl⟩⟩,small (by decide)⟩,rfl⟩⟩⟩⟩⟩
 have g_FIELDS:yU mg "FIELDS" (.ref A_FIELDS):=⟨_,PySem.W.mg_of X G ng_FIELDS,rfl⟩
 have q_FIELDS:uT K w A_FIELDS jZ XG:=VV (us:=[.ref A0_FIELDS,.ref A1_FIELDS,.ref A2_FIELDS,.ref A3_FIELDS,.ref A4_FIELDS,.ref A5_FIELDS,.ref A6_FIELDS,.ref A7_FIELDS,.ref A8_FIELDS,.ref A9_FIELDS,.ref A10_FIELDS,.ref A11_FIELDS,.ref A12_FIELDS,.ref A13_FIELDS,.ref A14_FIELDS,.ref A15_FIELDS,.ref A16_FIELDS,.ref A17_FIELDS,.ref A18_FIELDS,.ref A19_FIELDS,.ref A20_FIELDS,.ref A21_FIELDS]) nq_FIELDS (.cons (.cons (.cons (.cons (.cons (.cons (.cons (.cons (.cons (.cons (.cons (.cons (.cons (.cons (.cons (.cons (.cons (.cons (.cons (.cons (.cons (.cons .nil)))))))))))))))))))))) (by decide +kernel) ns_FIELDS (.cons rfl (.cons rfl (.cons rfl (.cons rfl (.cons rfl (.cons rfl (.cons rfl (.cons rfl (.cons rfl (.cons rfl (.cons rfl (.cons rfl (.cons rfl (.cons rfl (.cons rfl (.cons rfl (.cons rfl (.cons rfl (.cons rfl (.cons rfl (.cons rfl (.cons rfl .nil)))))))))))))))))))))) fun H=>⟨_,_,rfl,⟨A0_FIELDS,_,rfl,yq (xs:=[.str "name"]) nt0_FIELDS (by show (1:Nat)<=sizeLine; decide) (.cons ⟨_,rfl⟩ .nil) H,⟨_,_,rfl,⟨rfl,small (by decide)⟩,rfl⟩,small (by decide)⟩,⟨_,_,rfl,⟨A1_FIELDS,_,rfl,yq (xs:=[.str "d",.str "n"]) nt1_FIELDS (by show (2:Nat)<=sizeLine; decide) (.cons ⟨_,rfl⟩ (.cons ⟨_,rfl⟩ .nil)) H,⟨_,_,rfl,⟨rfl,small (by decide)⟩,⟨_,_,rfl,⟨rfl,small (by decide)⟩,rfl⟩⟩,small (by decide)⟩,⟨_,_,rfl,⟨A2_FIELDS,_,rfl,yq (xs:=[.str "d",.str "n"]) nt2_FIELDS (by show (2:Nat)<=sizeLine; decide) (.cons ⟨_,rfl⟩ (.cons ⟨_,rfl⟩ .nil)) H,⟨_,_,rfl,⟨rfl,small (by decide)⟩,⟨_,_,rfl,⟨rfl,small (by decide)⟩,rfl⟩⟩,small (by decide)⟩,⟨_,_,rfl,⟨A3_FIELDS,_,rfl,yq (xs:=[.str "d",.str "s"]) nt3_FIELDS (by show (2:Nat)<=sizeLine; decide) (.cons ⟨_,rfl⟩ (.cons ⟨_,rfl⟩ .nil)) H,⟨_,_,rfl,⟨rfl,small (by decide)⟩,⟨_,_,rfl,⟨rfl,small (by decide)⟩,rfl⟩⟩,small (by decide)⟩,⟨_,_,rfl,⟨A4_FIELDS,_,rfl,yq (xs:=[.str "d",.str "s"]) nt4_FIELDS (by show (2:Nat)<=sizeLine; decide) (.cons ⟨_,rfl⟩ (.cons ⟨_,rfl⟩ .nil)) H,⟨_,_,rfl,⟨rfl,small (by decide)⟩,⟨_,_,rfl,⟨rfl,small (by decide)⟩,rfl⟩⟩,small (by decide)⟩,⟨_,_,rfl,⟨A5_FIELDS,_,rfl,yq (xs:=[.str "d",.str "s"]) nt5_FIELDS (by show (2:Nat)<=sizeLine; decide) (.cons ⟨_,rfl⟩ (.cons ⟨_,rfl⟩ .nil)) H,⟨_,_,rfl,⟨rfl,small (by decide)⟩,⟨_,_,rfl,⟨rfl,small (by decide)⟩,rfl⟩⟩,small (by decide)⟩,⟨_,_,rfl,⟨A6_FIELDS,_,rfl,yq (xs:=[.str "d",.str "s"]) nt6_FIELDS (by show (2:Nat)<=sizeLine; decide) (.cons ⟨_,rfl⟩ (.cons ⟨_,rfl⟩ .nil)) H,⟨_,_,rfl,⟨rfl,small (by decide)⟩,⟨_,_,rfl,⟨rfl,small (by decide)⟩,rfl⟩⟩,small (by decide)⟩,⟨_,_,rfl,⟨A7_FIELDS,_,rfl,yq (xs:=[.str "d",.str "s"]) nt7_FIELDS (by show (2:Nat)<=sizeLine; decide) (.cons ⟨_,rfl⟩ (.cons ⟨_,rfl⟩ .nil)) H,⟨_,_,rfl,⟨rfl,small (by decide)⟩,⟨_,_,rfl,⟨rfl,small (by decide)⟩,rfl⟩⟩,small (by decide)⟩,⟨_,_,rfl,⟨A8_FIELDS,_,rfl,yq (xs:=[.str "d",.str "s"]) nt8_FIELDS (by show (2:Nat)<=sizeLine; decide) (.cons ⟨_,rfl⟩ (.cons ⟨_,rfl⟩ .nil)) H,⟨_,_,rfl,⟨rfl,small (by decide)⟩,⟨_,_,rfl,⟨rfl,small (by decide)⟩,rfl⟩⟩,small (by decide)⟩,⟨_,_,rfl,⟨A9_FIELDS,_,rfl,yq (xs:=[.str "d",.str "s"]) nt9_FIELDS (by show (2:Nat)<=sizeLine; decide) (.cons ⟨_,rfl⟩ (.cons ⟨_,rfl⟩ .nil)) H,⟨_,_,rfl,⟨rfl,small (by decide)⟩,⟨_,_,rfl,⟨rfl,small (by decide)⟩,rfl⟩⟩,small (by decide)⟩,⟨_,_,rfl,⟨A10_FIELDS,_,rfl,yq (xs:=[.str "d",.str "s"]) nt10_FIELDS (by show (2:Nat)<=sizeLine; decide) (.cons ⟨_,rfl⟩ (.cons ⟨_,rfl⟩ .nil)) H,⟨_,_,rfl,⟨rfl,small (by decide)⟩,⟨_,_,rfl,⟨rfl,small (by decide)⟩,rfl⟩⟩,small (by decide)⟩,⟨_,_,rfl,⟨A11_FIELDS,_,rfl,yq (xs:=[.str "d",.str "s"]) nt11_FIELDS (by show (2:Nat)<=sizeLine; decide) (.cons ⟨_,rfl⟩ (.cons ⟨_,rfl⟩ .nil)) H,⟨_,_,rfl,⟨rfl,small (by decide)⟩,⟨_,_,rfl,⟨rfl,small (by decide)⟩,rfl⟩⟩,small (by decide)⟩,⟨_,_,rfl,⟨A12_FIELDS,_,rfl,yq (xs:=[.str "d",.str "n"]) nt12_FIELDS (by show (2:Nat)<=sizeLine; decide) (.cons ⟨_,rfl⟩ (.cons ⟨_,rfl⟩ .nil)) H,⟨_,_,rfl,⟨rfl,small (by decide)⟩,⟨_,_,rfl,⟨rfl,small (by decide)⟩,rfl⟩⟩,small (by decide)⟩,⟨_,_,rfl,⟨A13_FIELDS,_,rfl,yq (xs:=[.str "d",.str "n"]) nt13_FIELDS (by show (2:Nat)<=sizeLine; decide) (.cons ⟨_,rfl⟩ (.cons ⟨_,rfl⟩ .nil)) H,⟨_,_,rfl,⟨rfl,small (by decide)⟩,⟨_,_,rfl,⟨rfl,small (by decide)⟩,rfl⟩⟩,small (by decide)⟩,⟨_,_,rfl,⟨A14_FIELDS,_,rfl,yq (xs:=[.str "d",.str "s",.str "n"]) nt14_FIELDS (by show (3:Nat)<=sizeLine; decide) (.cons ⟨_,rfl⟩ (.cons ⟨_,rfl⟩ (.cons ⟨_,rfl⟩ .nil))) H,⟨_,_,rfl,⟨rfl,small (by decide)⟩,⟨_,_,rfl,⟨rfl,small (by decide)⟩,⟨_,_,rfl,⟨rfl,small (by decide)⟩,rfl⟩⟩⟩,small (by decide)⟩,⟨_,_,rfl,⟨A15_FIELDS,_,rfl,yq (xs:=[.str "d",.str "s",.str "n"]) nt15_FIELDS (by show (3:Nat)<=sizeLine; decide) (.cons ⟨_,rfl⟩ (.cons ⟨_,rfl⟩ (.cons ⟨_,rfl⟩ .nil))) H,⟨_,_,rfl,⟨rfl,small (by decide)⟩,⟨_,_,rfl,⟨rfl,small (by decide)⟩,⟨_,_,rfl,⟨rfl,small (by decide)⟩,rfl⟩⟩⟩,small (by decide)⟩,⟨_,_,rfl,⟨A16_FIELDS,_,rfl,yq (xs:=[.str "d",.str "s",.str "n"]) nt16_FIELDS (by show (3:Nat)<=sizeLine; decide) (.cons ⟨_,rfl⟩ (.cons ⟨_,rfl⟩ (.cons ⟨_,rfl⟩ .nil))) H,⟨_,_,rfl,⟨rfl,small (by decide)⟩,⟨_,_,rfl,⟨rfl,small (by decide)⟩,⟨_,_,rfl,⟨rfl,small (by decide)⟩,rfl⟩⟩⟩,small (by decide)⟩,⟨_,_,rfl,⟨A17_FIELDS,_,rfl,yq (xs:=[.str "d",.str "s",.str "n"]) nt17_FIELDS (by show (3:Nat)<=sizeLine; decide) (.cons ⟨_,rfl⟩ (.cons ⟨_,rfl⟩ (.cons ⟨_,rfl⟩ .nil))) H,⟨_,_,rfl,⟨rfl,small (by decide)⟩,⟨_,_,rfl,⟨rfl,small (by decide)⟩,⟨_,_,rfl,⟨rfl,small (by decide)⟩,rfl⟩⟩⟩,small (by decide)⟩,⟨_,_,rfl,⟨A18_FIELDS,_,rfl,yq (xs:=[.str "name"]) nt18_FIELDS (by show (1:Nat)<=sizeLine; decide) (.cons ⟨_,rfl⟩ .nil) H,⟨_,_,rfl,⟨rfl,small (by decide)⟩,rfl⟩,small (by decide)⟩,⟨_,_,rfl,⟨A19_FIELDS,_,rfl,yq (xs:=[.str "mark",.str "name"]) nt19_FIELDS (by show (2:Nat)<=sizeLine; decide) (.cons ⟨_,rfl⟩ (.cons ⟨_,rfl⟩ .nil)) H,⟨_,_,rfl,⟨rfl,small (by decide)⟩,⟨_,_,rfl,⟨rfl,small (by decide)⟩,rfl⟩⟩,small (by decide)⟩,⟨_,_,rfl,⟨A20_FIELDS,_,rfl,yq (xs:=[.str "mark",.str "name"]) nt20_FIELDS (by show (2:Nat)<=sizeLine; decide) (.cons ⟨_,rfl⟩ (.cons ⟨_,rfl⟩ .nil)) H,⟨_,_,rfl,⟨rfl,small (by decide)⟩,⟨_,_,rfl,⟨rfl,small (by decide)⟩,rfl⟩⟩,small (by decide)⟩,⟨_,_,rfl,⟨A21_FIELDS,_,rfl,yq (xs:=[]) nt21_FIELDS (by show (0:Nat)<=sizeLine; decide) .nil H,rfl,small (by decide)⟩,rfl⟩⟩⟩⟩⟩⟩⟩⟩⟩⟩⟩⟩⟩⟩⟩⟩⟩⟩⟩⟩⟩⟩
 have g_MARK_LOW:yU mg "MARK_LOW" (.int 8):=⟨_,PySem.W.mg_of X G ng_MARK_LOW,⟨_,rfl⟩⟩
 have q_MARK_LOW:∀ H,zR K H (.int 8) (.int 8):=fun _=>rfl
 have g_ALL_NEEDED:yU mg "ALL_NEEDED" (.int 2047):=⟨_,PySem.W.mg_of X G ng_ALL_NEEDED,⟨_,rfl⟩⟩
 have q_ALL_NEEDED:∀ H,zR K H (.int 2047) (.int 2047):=fun _=>rfl
 have k_LOOK_AT_D:ut K A_LOOK_AT_D:=⟨_,nq_LOOK_AT_D,rfl,rfl⟩
 have g_LOOK_AT_D:yU mg "LOOK_AT_D" (.ref A_LOOK_AT_D):=⟨_,PySem.W.mg_of X G ng_LOOK_AT_D,rfl⟩
 have q_LOOK_AT_D:∀ H,zR K H VY (.ref A_LOOK_AT_D):=fun H=>⟨A_LOOK_AT_D,_,rfl,yq (xs:=[.str "high",.str "left",.str "right",.str "add",.str "addc",.str "sub",.str "subc",.str "and",.str "or",.str "xor",.str "test",.str "store",.str "storew"]) nq_LOOK_AT_D (by show (13:Nat)<=sizeLine; decide) (.cons ⟨_,rfl⟩ (.cons ⟨_,rfl⟩ (.cons ⟨_,rfl⟩ (.cons ⟨_,rfl⟩ (.cons ⟨_,rfl⟩ (.cons ⟨_,rfl⟩ (.cons ⟨_,rfl⟩ (.cons ⟨_,rfl⟩ (.cons ⟨_,rfl⟩ (.cons ⟨_,rfl⟩ (.cons ⟨_,rfl⟩ (.cons ⟨_,rfl⟩ (.cons ⟨_,rfl⟩ .nil))))))))))))) H,⟨_,_,rfl,⟨rfl,small (by decide)⟩,⟨_,_,rfl,⟨rfl,small (by decide)⟩,⟨_,_,rfl,⟨rfl,small (by decide)⟩,⟨_,_,rfl,⟨rfl,small (by decide)⟩,⟨_,_,rfl,⟨rfl,small (by decide)⟩,⟨_,_,rfl,⟨rfl,small (by decide)⟩,⟨_,_,rfl,⟨rfl,small (by decide)⟩,⟨_,_,rfl,⟨rfl,small (by decide)⟩,⟨_,_,rfl,⟨rfl,small (by decide)⟩,⟨_,_,rfl,⟨rfl,small (by decide)⟩,⟨_,_,rfl,⟨rfl,small (by decide)⟩,⟨_,_,rfl,⟨rfl,small (by decide)⟩,⟨_,_,rfl,⟨rfl,small (by decide)⟩,rfl⟩⟩⟩⟩⟩⟩⟩⟩⟩⟩⟩⟩⟩,small (by decide)⟩
 have k_LOOK_AT_S:ut K A_LOOK_AT_S:=⟨_,nq_LOOK_AT_S,rfl,rfl⟩
 have g_LOOK_AT_S:yU mg "LOOK_AT_S" (.ref A_LOOK_AT_S):=⟨_,PySem.W.mg_of X G ng_LOOK_AT_S,rfl⟩
 have q_LOOK_AT_S:∀ H,zR K H VZ (.ref A_LOOK_AT_S):=fun H=>⟨A_LOOK_AT_S,_,rfl,yq (xs:=[.str "copy",.str "load",.str "loadw",.str "add",.str "addc",.str "sub",.str "subc",.str "and",.str "or",.str "xor",.str "test",.str "store",.str "storew"]) nq_LOOK_AT_S (by show (13:Nat)<=sizeLine; decide) (.cons ⟨_,rfl⟩ (.cons ⟨_,rfl⟩ (.cons ⟨_,rfl⟩ (.cons ⟨_,rfl⟩ (.cons ⟨_,rfl⟩ (.cons ⟨_,rfl⟩ (.cons ⟨_,rfl⟩ (.cons ⟨_,rfl⟩ (.cons ⟨_,rfl⟩ (.cons ⟨_,rfl⟩ (.cons ⟨_,rfl⟩ (.cons ⟨_,rfl⟩ (.cons ⟨_,rfl⟩ .nil))))))))))))) H,⟨_,_,rfl,⟨rfl,small (by decide)⟩,⟨_,_,rfl,⟨rfl,small (by decide)⟩,⟨_,_,rfl,⟨rfl,small (by decide)⟩,⟨_,_,rfl,⟨rfl,small (by decide)⟩,⟨_,_,rfl,⟨rfl,small (by decide)⟩,⟨_,_,rfl,⟨rfl,small (by decide)⟩,⟨_,_,rfl,⟨rfl,small (by decide)⟩,⟨_,_,rfl,⟨rfl,small (by decide)⟩,⟨_,_,rfl,⟨rfl,small (by decide)⟩,⟨_,_,rfl,⟨rfl,small (by decide)⟩,⟨_,_,rfl,⟨rfl,small (by decide)⟩,⟨_,_,rfl,⟨rfl,small (by decide)⟩,⟨_,_,rfl,⟨rfl,small (by decide)⟩,rfl⟩⟩⟩⟩⟩⟩⟩⟩⟩⟩⟩⟩⟩,small (by decide)⟩
 have k_LOOK_AT_CARRY:ut K A_LOOK_AT_CARRY:=⟨_,nq_LOOK_AT_CARRY,rfl,rfl⟩
 have g_LOOK_AT_CARRY:yU mg "LOOK_AT_CARRY" (.ref A_LOOK_AT_CARRY):=⟨_,PySem.W.mg_of X G ng_LOOK_AT_CARRY,rfl⟩
 have q_LOOK_AT_CARRY:∀ H,zR K H VX (.ref A_LOOK_AT_CARRY):=fun H=>⟨A_LOOK_AT_CARRY,_,rfl,yq (xs:=[.str "addc",.str "subc"]) nq_LOOK_AT_CARRY (by show (2:Nat)<=sizeLine; decide) (.cons ⟨_,rfl⟩ (.cons ⟨_,rfl⟩ .nil)) H,⟨_,_,rfl,⟨rfl,small (by decide)⟩,⟨_,_,rfl,⟨rfl,small (by decide)⟩,rfl⟩⟩,small (by decide)⟩
 have k_PUT_D:ut K A_PUT_D:=⟨_,nq_PUT_D,rfl,rfl⟩
 have g_PUT_D:yU mg "PUT_D" (.ref A_PUT_D):=⟨_,PySem.W.mg_of X G ng_PUT_D,rfl⟩
 have q_PUT_D:∀ H,zR K H Vb (.ref A_PUT_D):=fun H=>⟨A_PUT_D,_,rfl,yq (xs:=[.str "set",.str "high",.str "copy",.str "load",.str "loadw",.str "add",.str "addc",.str "sub",.str "subc",.str "and",.str "or",.str "xor",.str "left",.str "right"]) nq_PUT_D (by show (14:Nat)<=sizeLine; decide) (.cons ⟨_,rfl⟩ (.cons ⟨_,rfl⟩ (.cons ⟨_,rfl⟩ (.cons ⟨_,rfl⟩ (.cons ⟨_,rfl⟩ (.cons ⟨_,rfl⟩ (.cons ⟨_,rfl⟩ (.cons ⟨_,rfl⟩ (.cons ⟨_,rfl⟩ (.cons ⟨_,rfl⟩ (.cons ⟨_,rfl⟩ (.cons ⟨_,rfl⟩ (.cons ⟨_,rfl⟩ (.cons ⟨_,rfl⟩ .nil)))))))))))))) H,⟨_,_,rfl,⟨rfl,small (by decide)⟩,⟨_,_,rfl,⟨rfl,small (by decide)⟩,⟨_,_,rfl,⟨rfl,small (by decide)⟩,⟨_,_,rfl,⟨rfl,small (by decide)⟩,⟨_,_,rfl,⟨rfl,small (by decide)⟩,⟨_,_,rfl,⟨rfl,small (by decide)⟩,⟨_,_,rfl,⟨rfl,small (by decide)⟩,⟨_,_,rfl,⟨rfl,small (by decide)⟩,⟨_,_,rfl,⟨rfl,small (by decide)⟩,⟨_,_,rfl,⟨rfl,small (by decide)⟩,⟨_,_,rfl,⟨rfl,small (by decide)⟩,⟨_,_,rfl,⟨rfl,small (by decide)⟩,⟨_,_,rfl,⟨rfl,small (by decide)⟩,⟨_,_,rfl,⟨rfl,small (by decide)⟩,rfl⟩⟩⟩⟩⟩⟩⟩⟩⟩⟩⟩⟩⟩⟩,small (by decide)⟩
 have k_PUT_NOUGHT_AND_SIGN:ut K A_PUT_NOUGHT_AND_SIGN:=⟨_,nq_PUT_NOUGHT_AND_SIGN,rfl,rfl⟩
 have g_PUT_NOUGHT_AND_SIGN:yU mg "PUT_NOUGHT_AND_SIGN" (.ref A_PUT_NOUGHT_AND_SIGN):=⟨_,PySem.W.mg_of X G ng_PUT_NOUGHT_AND_SIGN,rfl⟩
 have q_PUT_NOUGHT_AND_SIGN:∀ H,zR K H Vc (.ref A_PUT_NOUGHT_AND_SIGN):=fun H=>⟨A_PUT_NOUGHT_AND_SIGN,_,rfl,yq (xs:=[.str "add",.str "addc",.str "sub",.str "subc",.str "test",.str "and",.str "or",.str "xor",.str "left",.str "right"]) nq_PUT_NOUGHT_AND_SIGN (by show (10:Nat)<=sizeLine; decide) (.cons ⟨_,rfl⟩ (.cons ⟨_,rfl⟩ (.cons ⟨_,rfl⟩ (.cons ⟨_,rfl⟩ (.cons ⟨_,rfl⟩ (.cons ⟨_,rfl⟩ (.cons ⟨_,rfl⟩ (.cons ⟨_,rfl⟩ (.cons ⟨_,rfl⟩ (.cons ⟨_,rfl⟩ .nil)))))))))) H,⟨_,_,rfl,⟨rfl,small (by decide)⟩,⟨_,_,rfl,⟨rfl,small (by decide)⟩,⟨_,_,rfl,⟨rfl,small (by decide)⟩,⟨_,_,rfl,⟨rfl,small (by decide)⟩,⟨_,_,rfl,⟨rfl,small (by decide)⟩,⟨_,_,rfl,⟨rfl,small (by decide)⟩,⟨_,_,rfl,⟨rfl,small (by decide)⟩,⟨_,_,rfl,⟨rfl,small (by decide)⟩,⟨_,_,rfl,⟨rfl,small (by decide)⟩,⟨_,_,rfl,⟨rfl,small (by decide)⟩,rfl⟩⟩⟩⟩⟩⟩⟩⟩⟩⟩,small (by decide)⟩
 have k_PUT_CARRY:ut K A_PUT_CARRY:=⟨_,nq_PUT_CARRY,rfl,rfl⟩
 have g_PUT_CARRY:yU mg "PUT_CARRY" (.ref A_PUT_CARRY):=⟨_,PySem.W.mg_of X G ng_PUT_CARRY,rfl⟩
 have q_PUT_CARRY:∀ H,zR K H Va (.ref A_PUT_CARRY):=fun H=>⟨A_PUT_CARRY,_,rfl,yq (xs:=[.str "add",.str "addc",.str "sub",.str "subc",.str "test",.str "left",.str "right"]) nq_PUT_CARRY (by show (7:Nat)<=sizeLine; decide) (.cons ⟨_,rfl⟩ (.cons ⟨_,rfl⟩ (.cons ⟨_,rfl⟩ (.cons ⟨_,rfl⟩ (.cons ⟨_,rfl⟩ (.cons ⟨_,rfl⟩ (.cons ⟨_,rfl⟩ .nil))))))) H,⟨_,_,rfl,⟨rfl,small (by decide)⟩,⟨_,_,rfl,⟨rfl,small (by decide)⟩,⟨_,_,rfl,⟨rfl,small (by decide)⟩,⟨_,_,rfl,⟨rfl,small (by decide)⟩,⟨_,_,rfl,⟨rfl,small (by decide)⟩,⟨_,_,rfl,⟨rfl,small (by decide)⟩,⟨_,_,rfl,⟨rfl,small (by decide)⟩,rfl⟩⟩⟩⟩⟩⟩⟩,small (by decide)⟩
 have g_IDLE_KINDS:yU mg "IDLE_KINDS" (.ref A_IDLE_KINDS):=⟨_,PySem.W.mg_of X G ng_IDLE_KINDS,rfl⟩
 have t_IDLE_KINDS:ge K mg A_IDLE_KINDS ["not_reached", "to_the_next_row", "copied_to_itself", "not_needed"]:=⟨[f20,f21,f22,f23],fun H=>yq (xs:=[.ref f20,.ref f21,.ref f22,.ref f23]) nq_IDLE_KINDS (by show (4:Nat)<=sizeLine; decide) (.cons rfl (.cons rfl (.cons rfl (.cons rfl .nil)))) H,by simp only [List.map_cons,List.map_nil,PySem.W.mg_of X G a20,PySem.W.mg_of X G a21,PySem.W.mg_of X G a22,PySem.W.mg_of X G a23]⟩
 have F0:=yW (st:=ZL) l0 c0 k0
 have D0:zJ K mg "is_label" ZL ["item"]:=⟨_,_,F0,PySem.W.mg_of X G a0,F0.binds fun _ _ _ _ _ _=>xN fun _=>rfl⟩
 have F1:=yW (st:=ZK) l1 c1 k1
 have D1:zJ K mg "is_jump" ZK ["item"]:=⟨_,_,F1,PySem.W.mg_of X G a1,F1.binds fun _ _ _ _ _ _=>xN fun _=>rfl⟩
 have F2:=yW (st:=Zo) l2 c2 k2
 have D2:zJ K mg "rows_of" Zo ["items"]:=⟨_,_,F2,PySem.W.mg_of X G a2,F2.binds fun _ _ _ _ _ _=>xN fun _=>rfl⟩
 have F3:=yW (st:=ZP) l3 c3 k3
 have D3:zJ K mg "label_places" ZP ["items"]:=⟨_,_,F3,PySem.W.mg_of X G a3,F3.binds fun _ _ _ _ _ _=>xN fun _=>rfl⟩
 have F4:=yW (st:=ZN) l4 c4 k4
 have D4:zJ K mg "is_number" ZN ["thing", "width"]:=⟨_,_,F4,PySem.W.mg_of X G a4,F4.binds fun _ _ _ _ _ _=>qE fun _ _=>rfl⟩
 have F5:=yW (st:=ZM) l5 c5 k5
 have D5:zJ K mg "is_name" ZM ["thing"]:=⟨_,_,F5,PySem.W.mg_of X G a5,F5.binds fun _ _ _ _ _ _=>xN fun _=>rfl⟩
 have F6:=yW (st:=ZG) l6 c6 k6
 have D6:zJ K mg "fits" ZG ["kind", "field", "thing"]:=⟨_,_,F6,PySem.W.mg_of X G a6,F6.binds fun _ _ _ _ _ _=>gL fun _ _ _=>rfl⟩
 have F7:=yW (st:=ZJ) l7 c7 k7
 have D7:zJ K mg "is_item" ZJ ["thing"]:=⟨_,_,F7,PySem.W.mg_of X G a7,F7.binds fun _ _ _ _ _ _=>xN fun _=>rfl⟩
 have F8:=yW (st:=ZO) l8 c8 k8
 have D8:zJ K mg "is_program" ZO ["thing"]:=⟨_,_,F8,PySem.W.mg_of X G a8,F8.binds fun _ _ _ _ _ _=>xN fun _=>rfl⟩
 have F9:=yW (st:=Zq) l9 c9 k9
 have D9:zJ K mg "targets_of" Zq ["items"]:=⟨_,_,F9,PySem.W.mg_of X G a9,F9.binds fun _ _ _ _ _ _=>xN fun _=>rfl⟩
 have F10:=yW (st:=Zd) l10 c10 k10
 have D10:zJ K mg "mark_bit" Zd ["mark"]:=⟨_,_,F10,PySem.W.mg_of X G a10,F10.binds fun _ _ _ _ _ _=>xN fun _=>rfl⟩
 have F11:=yW (st:=Ze) l11 c11 k11
 have D11:zJ K mg "moves_by_nought" Ze ["row"]:=⟨_,_,F11,PySem.W.mg_of X G a11,F11.binds fun _ _ _ _ _ _=>xN fun _=>rfl⟩
 have F12:=yW (st:=Zs) l12 c12 k12
 have D12:zJ K mg "used" Zs ["row"]:=⟨_,_,F12,PySem.W.mg_of X G a12,F12.binds fun _ _ _ _ _ _=>xN fun _=>rfl⟩
 have F13:=yW (st:=Zm) l13 c13 k13
 have D13:zJ K mg "put" Zm ["row"]:=⟨_,_,F13,PySem.W.mg_of X G a13,F13.binds fun _ _ _ _ _ _=>xN fun _=>rfl⟩
 have F14:=yW (st:=Zt) l14 c14 k14
 have D14:zJ K mg "ways_from" Zt ["row", "number", "target"]:=⟨_,_,F14,PySem.W.mg_of X G a14,F14.binds fun _ _ _ _ _ _=>gL fun _ _ _=>rfl⟩
 have F15:=yW (st:=Zu) l15 c15 k15
 have D15:zJ K mg "ways_of" Zu ["items"]:=⟨_,_,F15,PySem.W.mg_of X G a15,F15.binds fun _ _ _ _ _ _=>xN fun _=>rfl⟩
 have F16:=yW (st:=Zh) l16 c16 k16
 have D16:zJ K mg "needed_at" Zh ["told", "places"]:=⟨_,_,F16,PySem.W.mg_of X G a16,F16.binds fun _ _ _ _ _ _=>qE fun _ _=>rfl⟩
 have F17:=yW (st:=ZE) l17 c17 k17
 have D17:zJ K mg "comers_of" ZE ["ways"]:=⟨_,_,F17,PySem.W.mg_of X G a17,F17.binds fun _ _ _ _ _ _=>xN fun _=>rfl⟩
 have F18:=yW (st:=Zn) l18 c18 k18
 have D18:zJ K mg "reached" Zn ["items"]:=⟨_,_,F18,PySem.W.mg_of X G a18,F18.binds fun _ _ _ _ _ _=>xN fun _=>rfl⟩
 have F19:=yW (st:=Zi) l19 c19 k19
 have D19:zJ K mg "needs" Zi ["items"]:=⟨_,_,F19,PySem.W.mg_of X G a19,F19.binds fun _ _ _ _ _ _=>xN fun _=>rfl⟩
 have F20:=yW (st:=Zk) l20 c20 k20
 have D20:zJ K mg "not_reached" Zk ["items"]:=⟨_,_,F20,PySem.W.mg_of X G a20,F20.binds fun _ _ _ _ _ _=>xN fun _=>rfl⟩
 have F21:=yW (st:=Zr) l21 c21 k21
 have D21:zJ K mg "to_the_next_row" Zr ["items"]:=⟨_,_,F21,PySem.W.mg_of X G a21,F21.binds fun _ _ _ _ _ _=>xN fun _=>rfl⟩
 have F22:=yW (st:=ZF) l22 c22 k22
 have D22:zJ K mg "copied_to_itself" ZF ["items"]:=⟨_,_,F22,PySem.W.mg_of X G a22,F22.binds fun _ _ _ _ _ _=>xN fun _=>rfl⟩
 have F23:=yW (st:=Zj) l23 c23 k23
 have D23:zJ K mg "not_needed" Zj ["items"]:=⟨_,_,F23,PySem.W.mg_of X G a23,F23.binds fun _ _ _ _ _ _=>xN fun _=>rfl⟩
 have F24:=yW (st:=ZH) l24 c24 k24
 have D24:zJ K mg "idle" ZH ["items"]:=⟨_,_,F24,PySem.W.mg_of X G a24,F24.binds fun _ _ _ _ _ _=>xN fun _=>rfl⟩
 have F25:=yW (st:=ZI) l25 c25 k25
 have D25:zJ K mg "idle_of_one_kind" ZI ["items"]:=⟨_,_,F25,PySem.W.mg_of X G a25,F25.binds fun _ _ _ _ _ _=>xN fun _=>rfl⟩
 have F26:=yW (st:=Zv) l26 c26 k26
 have D26:zJ K mg "without" Zv ["items", "numbers"]:=⟨_,_,F26,PySem.W.mg_of X G a26,F26.binds fun _ _ _ _ _ _=>qE fun _ _=>rfl⟩
 have F27:=yW (st:=Zb) l27 c27 k27
 have D27:zJ K mg "leads_on" Zb ["rows", "place"]:=⟨_,_,F27,PySem.W.mg_of X G a27,F27.binds fun _ _ _ _ _ _=>qE fun _ _=>rfl⟩
 have F28:=yW (st:=ZR) l28 c28 k28
 have D28:zJ K mg "last_name" ZR ["name", "rows", "places"]:=⟨_,_,F28,PySem.W.mg_of X G a28,F28.binds fun _ _ _ _ _ _=>gL fun _ _ _=>rfl⟩
 have F29:=yW (st:=Zc) l29 c29 k29
 have D29:zJ K mg "led_on" Zc ["items"]:=⟨_,_,F29,PySem.W.mg_of X G a29,F29.binds fun _ _ _ _ _ _=>xN fun _=>rfl⟩
 have F30:=yW (st:=Zf) l30 c30 k30
 have D30:zJ K mg "name_of" Zf ["number"]:=⟨_,_,F30,PySem.W.mg_of X G a30,F30.binds fun _ _ _ _ _ _=>xN fun _=>rfl⟩
 have F31:=yW (st:=Zg) l31 c31 k31
 have D31:zJ K mg "names_of_places" Zg ["targets"]:=⟨_,_,F31,PySem.W.mg_of X G a31,F31.binds fun _ _ _ _ _ _=>xN fun _=>rfl⟩
 have F32:=yW (st:=ZQ) l32 c32 k32
 have D32:zJ K mg "labelled" ZQ ["rows", "targets"]:=⟨_,_,F32,PySem.W.mg_of X G a32,F32.binds fun _ _ _ _ _ _=>qE fun _ _=>rfl⟩
 have F33:=yW (st:=Zl) l33 c33 k33
 have D33:zJ K mg "plain" Zl ["items"]:=⟨_,_,F33,PySem.W.mg_of X G a33,F33.binds fun _ _ _ _ _ _=>xN fun _=>rfl⟩
 have F34:=yW (st:=Zp) l34 c34 k34
 have D34:zJ K mg "short" Zp ["items"]:=⟨_,_,F34,PySem.W.mg_of X G a34,F34.binds fun _ _ _ _ _ _=>xN fun _=>rfl⟩
 have F35:=yW (st:=ZS) l35 c35 k35
 have D35:zJ K mg "_law_cell_at" ZS ["_law_script", "_law_k"]:=⟨_,_,F35,PySem.W.mg_of X G a35,F35.binds fun _ _ _ _ _ _=>qE fun _ _=>rfl⟩
 have F36:=yW (st:=ZT) l36 c36 k36
 have D36:zJ K mg "_law_mark" ZT ["_law_script", "_law_k"]:=⟨_,_,F36,PySem.W.mg_of X G a36,F36.binds fun _ _ _ _ _ _=>qE fun _ _=>rfl⟩
 have F37:=yW (st:=Za) l37 c37 k37
 have D37:zJ K mg "_law_words" Za []:=⟨_,_,F37,PySem.W.mg_of X G a37,F37.binds fun _ _ _ _ _ _=>Lo rfl⟩
 have F38:=yW (st:=ZW) l38 c38 k38
 have D38:zJ K mg "_law_row_by" ZW ["_law_mark_here", "_law_names_here", "_law_many"]:=⟨_,_,F38,PySem.W.mg_of X G a38,F38.binds fun _ _ _ _ _ _=>gL fun _ _ _=>rfl⟩
 have F39:=yW (st:=ZU) l39 c39 k39
 have D39:zJ K mg "_law_names" ZU ["_law_mark_here", "_law_many"]:=⟨_,_,F39,PySem.W.mg_of X G a39,F39.binds fun _ _ _ _ _ _=>qE fun _ _=>rfl⟩
 have F40:=yW (st:=ZV) l40 c40 k40
 have D40:zJ K mg "_law_program_by" ZV ["_law_script", "_law_first", "_law_most"]:=⟨_,_,F40,PySem.W.mg_of X G a40,F40.binds fun _ _ _ _ _ _=>gL fun _ _ _=>rfl⟩
 have F41:=yW (st:=ZX) l41 c41 k41
 have D41:zJ K mg "_law_rows" ZX ["_law_items"]:=⟨_,_,F41,PySem.W.mg_of X G a41,F41.binds fun _ _ _ _ _ _=>xN fun _=>rfl⟩
 have F42:=yW (st:=ZY) l42 c42 k42
 have D42:zJ K mg "_law_varied" ZY ["_law_items", "_law_script", "_law_first"]:=⟨_,_,F42,PySem.W.mg_of X G a42,F42.binds fun _ _ _ _ _ _=>gL fun _ _ _=>rfl⟩
 have F43:=yW (st:=j4) l43 c43 k43
 refine ⟨PySem.W.fnOf "law" "law" (jT j4) (uw j4) (zr j4) .none kV43 dc43 pm43 an43 cd43 ct43,fun s v=>.of_eq rfl,fun base _ _=>?_⟩
 have h_is_label:=Cm (P:=l.prog) (w:=w) (base:=base) D0 
 have h_is_jump:=Cl (P:=l.prog) (w:=w) (base:=base) D1 g_JUMPS q_JUMPS
 have h_rows_of:=EM (P:=l.prog) (w:=w) (base:=base) D2 h_is_label
 have h_label_places:=Cq (P:=l.prog) (w:=w) (base:=base) D3 h_is_label
 have h_is_number:=Co (P:=l.prog) (w:=w) (base:=base) D4 z_isinstance z_int z_bool
 have h_is_name:=Cn (P:=l.prog) (w:=w) (base:=base) D5 z_isinstance z_str z_len z_all g_NAME_LONGEST q_NAME_LONGEST g_LETTERS q_LETTERS
 have h_fits:=Cg (P:=l.prog) (w:=w) (base:=base) D6 g_MARKS q_MARKS g_NUMBER_WIDTHS q_NUMBER_WIDTHS g_PLACES q_PLACES h_is_name h_is_number
 have h_is_item:=Ck (P:=l.prog) (w:=w) (base:=base) D7 z_len z_isinstance z_tuple z_str z_all z_zip g_FIELDS q_FIELDS h_fits
 have h_is_program:=Cp (P:=l.prog) (w:=w) (base:=base) D8 z_all z_isinstance z_list z_len z_set h_is_item h_is_label h_label_places h_is_jump
 have h_targets_of:=EO (P:=l.prog) (w:=w) (base:=base) D9 h_label_places h_rows_of h_is_jump
 have h_mark_bit:=E7 (P:=l.prog) (w:=w) (base:=base) D10 g_MARK_LOW q_MARK_LOW g_MARKS q_MARKS k_MARKS
 have h_moves_by_nought:=E8 (P:=l.prog) (w:=w) (base:=base) D11 
 have h_used:=ER (P:=l.prog) (w:=w) (base:=base) D12 g_ALL_NEEDED q_ALL_NEEDED g_LOOK_AT_D q_LOOK_AT_D g_LOOK_AT_S q_LOOK_AT_S g_LOOK_AT_CARRY q_LOOK_AT_CARRY h_mark_bit
 have h_put:=EK (P:=l.prog) (w:=w) (base:=base) D13 g_PUT_D q_PUT_D g_PUT_NOUGHT_AND_SIGN q_PUT_NOUGHT_AND_SIGN g_PUT_CARRY q_PUT_CARRY h_mark_bit h_moves_by_nought
 have h_ways_from:=ES (P:=l.prog) (w:=w) (base:=base) D14 z_sorted z_set
 have h_ways_of:=ET (P:=l.prog) (w:=w) (base:=base) D15 z_enumerate h_rows_of h_targets_of h_ways_from
 have h_needed_at:=ED (P:=l.prog) (w:=w) (base:=base) D16 
 have h_comers_of:=Ce (P:=l.prog) (w:=w) (base:=base) D17 z_range z_len z_enumerate
 have h_reached:=EL (P:=l.prog) (w:=w) (base:=base) D18 z_len z_sorted h_ways_of
 have h_needs:=EE (P:=l.prog) (w:=w) (base:=base) D19 z_len z_list z_range g_ALL_NEEDED q_ALL_NEEDED h_rows_of h_ways_of h_comers_of h_used h_needed_at h_put
 have h_not_reached:=EI (P:=l.prog) (w:=w) (base:=base) D20 z_dict z_range z_len h_reached h_rows_of
 have h_to_the_next_row:=EQ (P:=l.prog) (w:=w) (base:=base) D21 z_enumerate h_targets_of
 have h_copied_to_itself:=Cf (P:=l.prog) (w:=w) (base:=base) D22 z_enumerate h_rows_of
 have h_not_needed:=EH (P:=l.prog) (w:=w) (base:=base) D23 z_range z_len h_needs h_ways_of h_rows_of h_put h_needed_at
 have h_idle:=Ch (P:=l.prog) (w:=w) (base:=base) D24 z_sorted z_set g_IDLE_KINDS t_IDLE_KINDS h_not_reached h_to_the_next_row h_copied_to_itself h_not_needed
 have h_idle_of_one_kind:=Ci (P:=l.prog) (w:=w) (base:=base) D25 g_IDLE_KINDS t_IDLE_KINDS h_not_reached h_to_the_next_row h_copied_to_itself h_not_needed
 have h_without:=EU (P:=l.prog) (w:=w) (base:=base) D26 z_dict h_is_label
 have h_leads_on:=E5 (P:=l.prog) (w:=w) (base:=base) D27 z_len
 have h_last_name:=Cs (P:=l.prog) (w:=w) (base:=base) D28 h_leads_on
 have h_led_on:=E6 (P:=l.prog) (w:=w) (base:=base) D29 h_rows_of h_label_places h_is_jump h_last_name
 have h_name_of:=EA (P:=l.prog) (w:=w) (base:=base) D30 z_len g_LETTERS q_LETTERS
 have h_names_of_places:=EB (P:=l.prog) (w:=w) (base:=base) D31 z_sorted z_set z_dict z_enumerate h_name_of
 have h_labelled:=Cr (P:=l.prog) (w:=w) (base:=base) D32 z_enumerate z_len h_names_of_places
 have h_plain:=EJ (P:=l.prog) (w:=w) (base:=base) D33 h_rows_of h_is_jump h_labelled h_targets_of
 have h_short:=EN (P:=l.prog) (w:=w) (base:=base) D34 h_led_on h_without h_idle_of_one_kind h_plain
 have h_law_cell_at:=Cu (P:=l.prog) (w:=w) (base:=base) D35 z_len
 have h_law_mark:=Cv (P:=l.prog) (w:=w) (base:=base) D36 z_len h_law_cell_at
 have h_law_words:=E4 (P:=l.prog) (w:=w) (base:=base) D37 
 have h_law_row_by:=Cz (P:=l.prog) (w:=w) (base:=base) D38 z_len h_law_words
 have h_law_names:=Cw (P:=l.prog) (w:=w) (base:=base) D39 z_range
 have h_law_program_by:=Cy (P:=l.prog) (w:=w) (base:=base) D40 z_range h_law_mark h_law_names h_law_row_by
 have h_law_rows:=C_ (P:=l.prog) (w:=w) (base:=base) D41 
 have h_law_varied:=E3 (P:=l.prog) (w:=w) (base:=base) D42 z_range z_len h_law_mark
 exact Ct F43 z_list z_len h_law_program_by h_law_mark h_law_varied h_short h_law_rows h_is_program h_idle h_led_on h_plain
theorem walk {l:PySem.W.OpenLaw} {q:Program} {loose:List Str} {XP:(Str->Option Value)->Heap->Prop} {YP:World->Heap->Prop} {d:DefRec} {K:Params->PySem.W.Frag} (hn:l.most=some 63) (hdf:d.params.defaults=[])
  (hY:∀ (w:World) (h:Heap),YP w h->(K w.params).In h)
  (F:∀ (w:World) (mg:Str->Option Value) (fa:Addr) (h:Heap),(K w.params).In h->h.Ns mainGlobals mg->mg d.name=some (.ref fa)->
   ∃ fd:FuncData,(∀ (s:Shared) (u:Value),BindsTo s fd ⟨[u],[]⟩ [("_law_script",u)])/\∀ base:Heap,(K w.params).In base->base.Ns mainGlobals mg->vb l.prog w (K w.params) mg base vV 10 fa fd ["_law_script"] (Y8 (K w.params))) :
  PySem.W.WalkO q loose XP YP l.row.toRowW d [] (fun f vs=>PySem.call f vs):=
 L3.walkB (n:=63) (k:=10) (x := "_law_script") (sp:=Y8) hn (by decide) hdf ⟨rfl,by decide,by decide⟩ hY F fun _ _ a ns hl hb hS=>⟨a,ns,rfl,hS,hl,hb,fun _=>rfl⟩
end My
end
namespace PySem.W.Fast
def AD:=0
def AT:=0
def Rt:=0
def S9:=0
def AG:=0
def AL:=0
def Rh:=0
def SY:=0
def Rn:=0
def RQ:=0
def AO:=0
def A4:=0
def AM:=0
def SQ:=0
def SD:=0
def A8:=0
def SL:=0
def S6:=0
def Rx:=0
def Rb:=0
def Rj:=0
def RX:=0
def Sr:=0
def SJ:=0
def S0:=0
def Sz:=0
def SU:=0
def AU:=0
def Sf:=0
def A7:=0
def AJ:=0
def Sw:=0
def RY:=0
def Su:=0
def Rl:=0
def Si:=0
def So:=0
def Rz:=0
def Ri:=0
def S8:=0
def Rk:=0
def Sd:=0
def Ry:=0
def SM:=0
def AH:=0
def AF:=0
def SK:=0
def Rf:=0
def AI:=0
def Sk:=0
def AN:=0
def Ss:=0
def R_:=0
def Re:=0
def AC:=0
def Rg:=0
def Sa:=0
def A9:=0
def AB:=0
def Ru:=0
def S7:=0
def Rv:=0
def RS:=0
def SR:=0
def A6:=0
def Sn:=0
def RP:=0
def AR:=0
def Sx:=0
def Sh:=0
def Rq:=0
def Se:=0
def RV:=0
def S4:=0
def Rw:=0
def AK:=0
def Sj:=0
def A0:=0
def RU:=0
def SC:=0
def SH:=0
def Sc:=0
def Rr:=0
def SX:=0
def AQ:=0
def Rp:=0
def RZ:=0
def SV:=0
def S_:=0
def Sq:=0
def A5:=0
def Sg:=0
def AS:=0
def Ro:=0
def SZ:=0
def Sv:=0
def A3:=0
def Rm:=0
def SN:=0
def RT:=0
def Rs:=0
def Rc:=0
def AE:=0
def RW:=0
def S5:=0
def Sy:=0
def Ra:=0
end PySem.W.Fast
open PySem PySem.W PyProof.Rows
set_option maxRecDepth 100000 in
set_option maxHeartbeats 0 in
theorem PySem.Challenge.cw_markrun_k56_short_is_settled_holds : PySem.Challenge.rw_markrun_k56_short_is_settled.Holds := by
 w_on; o_law; k_head; (case hw=>w_witness2)
 k_fill
 refine My.walk (l:=PySem.Challenge.rw_markrun_k56_short_is_settled) rfl rfl (fun w h Y=>PySem.W.kIn_of Y) ?F
 case F=>
  intro w mg fa h KX G hmg
  refine' My.all_mk KX G hmg ?a0 ?l0 ?c0 ?k0 ?a1 ?l1 ?c1 ?k1 ?a2 ?l2 ?c2 ?k2 ?a3 ?l3 ?c3 ?k3 ?a4 ?l4 ?c4 ?k4 ?a5 ?l5 ?c5 ?k5 ?a6 ?l6 ?c6 ?k6 ?a7 ?l7 ?c7 ?k7 ?a8 ?l8 ?c8 ?k8 ?a9 ?l9 ?c9 ?k9 ?a10 ?l10 ?c10 ?k10 ?a11 ?l11 ?c11 ?k11 ?a12 ?l12 ?c12 ?k12 ?a13 ?l13 ?c13 ?k13 ?a14 ?l14 ?c14 ?k14 ?a15 ?l15 ?c15 ?k15 ?a16 ?l16 ?c16 ?k16 ?a17 ?l17 ?c17 ?k17 ?a18 ?l18 ?c18 ?k18 ?a19 ?l19 ?c19 ?k19 ?a20 ?l20 ?c20 ?k20 ?a21 ?l21 ?c21 ?k21 ?a22 ?l22 ?c22 ?k22 ?a23 ?l23 ?c23 ?k23 ?a24 ?l24 ?c24 ?k24 ?a25 ?l25 ?c25 ?k25 ?a26 ?l26 ?c26 ?k26 ?a27 ?l27 ?c27 ?k27 ?a28 ?l28 ?c28 ?k28 ?a29 ?l29 ?c29 ?k29 ?a30 ?l30 ?c30 ?k30 ?a31 ?l31 ?c31 ?k31 ?a32 ?l32 ?c32 ?k32 ?a33 ?l33 ?c33 ?k33 ?a34 ?l34 ?c34 ?k34 ?a35 ?l35 ?c35 ?k35 ?a36 ?l36 ?c36 ?k36 ?a37 ?l37 ?c37 ?k37 ?a38 ?l38 ?c38 ?k38 ?a39 ?l39 ?c39 ?k39 ?a40 ?l40 ?c40 ?k40 ?a41 ?l41 ?c41 ?k41 ?a42 ?l42 ?c42 ?k42 ?a43 ?l43 ?c43 ?k43 ?nz_isinstance ?nz_int ?nz_bool ?nz_str ?nz_len ?nz_all ?nz_tuple ?nz_zip ?nz_list ?nz_set ?nz_sorted ?nz_enumerate ?nz_range ?nz_dict ?ng_JUMPS ?nq_JUMPS ?ng_NAME_LONGEST ?ng_LETTERS ?ng_MARKS ?nq_MARKS ?ng_NUMBER_WIDTHS ?nq_NUMBER_WIDTHS ?ns_NUMBER_WIDTHS ?ng_PLACES ?nt0_PLACES ?nt1_PLACES ?nt2_PLACES ?nt3_PLACES ?nt4_PLACES ?nq_PLACES ?ns_PLACES ?ng_FIELDS ?nt0_FIELDS ?nt1_FIELDS ?nt2_FIELDS ?nt3_FIELDS ?nt4_FIELDS ?nt5_FIELDS ?nt6_FIELDS ?nt7_FIELDS ?nt8_FIELDS ?nt9_FIELDS ?nt10_FIELDS ?nt11_FIELDS ?nt12_FIELDS ?nt13_FIELDS ?nt14_FIELDS ?nt15_FIELDS ?nt16_FIELDS ?nt17_FIELDS ?nt18_FIELDS ?nt19_FIELDS ?nt20_FIELDS ?nt21_FIELDS ?nq_FIELDS ?ns_FIELDS ?ng_MARK_LOW ?ng_ALL_NEEDED ?ng_LOOK_AT_D ?nq_LOOK_AT_D ?ng_LOOK_AT_S ?nq_LOOK_AT_S ?ng_LOOK_AT_CARRY ?nq_LOOK_AT_CARRY ?ng_PUT_D ?nq_PUT_D ?ng_PUT_NOUGHT_AND_SIGN ?nq_PUT_NOUGHT_AND_SIGN ?ng_PUT_CARRY ?nq_PUT_CARRY ?ng_IDLE_KINDS ?nq_IDLE_KINDS
  all_goals try (first | k_is | k_exc | kit_is | kts_exm)
  all_goals decide
