import PyProof.Rows.All
import Wide.All
import OpenK.AllK
import Wide.FinOn
import Lean
import PyProof.EqAt
import PyProof.EqKinds
import PyProof.TupleCall
import PySem.Challenge.RW_markrun_k60_short_by_rounds
set_option Elab.async false
set_option linter.all false
set_option maxRecDepth 100000
namespace L2
open PySem PySem.Spec PyProof.Rows
noncomputable abbrev zL:=Sum Int Str
noncomputable def wQ:zL->Value->Bool
 | .inl k,v=>Value.isInt k v
 | .inr x,v=>Value.isStrOf x v
noncomputable def MO (w:World):zL->Int
 | .inl k=>hashInt k
 | .inr x=>hashStr w x
theorem vX:∀ {k:zL} {v:Value},wQ k v=true->(∃ i t,k=Sum.inl i/\v=Value.int i t)\/(∃ x t,k=Sum.inr x/\v=Value.str x t)
 | .inl i,v,h=>by
  obtain ⟨t,e⟩:=Value.isInt_shape (k:=i) (v:=v) h
  exact .inl ⟨i,t,rfl,e⟩
 | .inr x,v,h=>by
  obtain ⟨t,e⟩:=Value.isStrOf_shape (x:=x) (v:=v) h
  exact .inr ⟨x,t,rfl,e⟩
theorem MP (i:Int) (t:Tok):wQ (.inl i) (.int i t)=true:=by simp [wQ,Value.isInt]
theorem MQ (x:Str) (t:Tok):wQ (.inr x) (.str x t)=true:=by simp [wQ,Value.isStrOf]
theorem MR (a b:Int):decide ((Sum.inl a:zL)=Sum.inl b)=(a == b):=by
 by_cases e:a=b
 ·subst e; simp
 ·have h:¬ (Sum.inl a:zL)=Sum.inl b:=fun q=>e (Sum.inl.inj q)
  rw [decide_eq_false h]
  exact (beq_eq_false_iff_ne.mpr e).symm
theorem MU (a b:Str):decide ((Sum.inr a:zL)=Sum.inr b)=decide (a=b):=by
 by_cases e:a=b
 ·subst e; simp
 ·have h:¬ (Sum.inr a:zL)=Sum.inr b:=fun q=>e (Sum.inr.inj q)
  rw [decide_eq_false h,decide_eq_false e]
theorem MS (a:Int) (b:Str):decide ((Sum.inl a:zL)=Sum.inr b)=false:=decide_eq_false (fun q=>nomatch q)
theorem MT (a:Str) (b:Int):decide ((Sum.inr a:zL)=Sum.inl b)=false:=decide_eq_false (fun q=>nomatch q)
noncomputable def yc (prog:Program) (w:World):PySem.KeyKind prog w zL where
 is:=wQ
 hash:=MO w
 inj:=fun v a b ha hb=>by
  rcases vX ha with ⟨i,t,rfl,rfl⟩ | ⟨x,t,rfl,rfl⟩
  ·rcases vX hb with ⟨j,u,rfl,e⟩ | ⟨y,u,rfl,e⟩
   ·injection e with e1 _; rw [e1]
   ·exact nomatch e
  ·rcases vX hb with ⟨j,u,rfl,e⟩ | ⟨y,u,rfl,e⟩
   ·exact nomatch e
   ·injection e with e1 _; rw [e1]
 byValue:=fun k v h=>by
  rcases vX h with ⟨i,t,rfl,rfl⟩ | ⟨x,t,rfl,rfl⟩<;>rfl
 pyHash:=fun hv h=>by
  rcases vX hv with ⟨i,t,rfl,rfl⟩ | ⟨x,t,rfl,rfl⟩
  ·exact wpAny_pyHash_int h
  ·exact wpAny_pyHash_str h
 eqBool:=fun hu hv h=>by
  rcases vX hu with ⟨i,t,rfl,rfl⟩ | ⟨x,t,rfl,rfl⟩
  ·rcases vX hv with ⟨j,u,rfl,rfl⟩ | ⟨y,u,rfl,rfl⟩
   ·rw [MR] at h; exact wpAny_eqBool_int h
   ·rw [MS] at h; exact SeqAt.EqAt.int_str i t y u _ _ _ _ h
  ·rcases vX hv with ⟨j,u,rfl,rfl⟩ | ⟨y,u,rfl,rfl⟩
   ·rw [MT] at h; exact SeqAt.EqAt.str_int x t j u _ _ _ _ h
   ·rw [MU] at h; exact wpAny_eqBool_str h
 «strs»:=fun k x t v h=>by
  rcases vX h with ⟨i,u,rfl,e⟩ | ⟨y,u,rfl,e⟩
  ·exact nomatch e
  ·injection e with e1 _
   subst e1
   cases v<;>rfl
theorem Mt (prog:Program) (w:World) (i:Int) (t:Tok):(yc prog w).is (.inl i) (.int i t)=true:=MP i t
theorem Mu (prog:Program) (w:World) (x:Str) (t:Tok):(yc prog w).is (.inr x) (.str x t)=true:=MQ x t
end L2
namespace L2
open PySem PySem.Spec PyProof.Rows
inductive V where
 | non | bl (b:Bool) | int (i:Int) | str (x:Str) | byt (b:Array UInt8) | flt (b:UInt64) | ref (a:Addr) | ty (n:String)
 deriving DecidableEq
noncomputable def zi:V->Value->Prop
 | .non,u=>u=Value.none
 | .bl b,u=>u=Value.bool b
 | .int i,u=>∃ t,u=Value.int i t
 | .str x,u=>∃ t,u=Value.str x t
 | .byt b,u=>∃ t,u=Value.bytes b t
 | .flt b,u=>∃ t,u=Value.float b t
 | .ref a,u=>u=Value.ref a
 | .ty n,u=>u=Value.type n
noncomputable abbrev zb:List V->List Value->Prop:=Paired zi
theorem zb.length {xs:List V} {us:List Value} (r:zb xs us):xs.length=us.length:=Paired.length r
theorem zb.get:∀ {xs:List V} {us:List Value} {i:Nat} {x:V},zb xs us->xs[i]?=some x->∃ u,us[i]?=some u/\zi x u
 | _,_,_,_,.nil,e=>by simp at e
 | _,_,0,_,.cons r _,e=>by simp at e; subst e; exact ⟨_,rfl,r⟩
 | _,_,i+1,x,.cons _ t,e=>by
  obtain ⟨u,h1,h2⟩:=zb.get (i:=i) (x:=x) t (by simpa using e)
  exact ⟨u,by simpa using h1,h2⟩
theorem zb.set {x:V} {u:Value} (r:zi x u):∀ {xs:List V} {us:List Value} (i:Nat),zb xs us->zb (xs.set i x) (us.set i u)
 | _,_,_,.nil=>.nil
 | _,_,0,.cons _ t=>.cons r t
 | _,_,i+1,.cons q t=>.cons q (zb.set r i t)
theorem zb.append:∀ {xs ys:List V} {us ws:List Value},zb xs us->zb ys ws->zb (xs++ys) (us++ws)
 | _,_,_,_,.nil,s=>s
 | _,_,_,_,.cons r t,s=>.cons r (zb.append t s)
theorem zb.take:∀ {xs:List V} {us:List Value} (n:Nat),zb xs us->zb (xs.take n) (us.take n)
 | _,_,0,_=>.nil
 | _,_,_+1,.nil=>.nil
 | _,_,n+1,.cons r t=>.cons r (zb.take n t)
theorem zb.drop:∀ {xs:List V} {us:List Value} (n:Nat),zb xs us->zb (xs.drop n) (us.drop n)
 | _,_,0,r=>r
 | _,_,_+1,.nil=>.nil
 | _,_,n+1,.cons _ t=>zb.drop n t
noncomputable def um:Option V->Option Value->Prop
 | some v,some u=>zi v u
 | none,none=>True
 | _,_=>False
noncomputable def KV {κ:Type}:List (κ×V)->List (κ×Value)->Prop:=Paired fun (p:κ×V) (q:κ×Value)=>p.1=q.1/\zi p.2 q.2
noncomputable def kV:zL->V
 | .inl i=>.int i
 | .inr x=>.str x
inductive HO where
  | lst (xs:List V)
  | tup (xs:List V)
  | dK (kvs:List (zL×V)) | dT (kvs:List (List zL×V))
  | set (S:Int->Bool) (n:Nat)
  | ins (C dx:Addr) (fs:List (Str×V))
  | own (x:Addr)
  | xd (fs:List (Str×V))
  | met (f x:Addr)
  | rng (lo hi:Int)
  | frz (o:Obj) (u:HO)
  | tbl (ps:Array Value)
  | ext (φ:Heap->Prop)
noncomputable abbrev Hp:=Addr->Option HO
noncomputable def ze (H:Hp) (a:Addr) (o:HO):Hp:=fun b=>if b=a then some o else H b
theorem yQ {H:Hp} {a:Addr} {o:HO}:ze H a o a=some o:=by unfold ze; rw [if_pos rfl]
theorem yE {H:Hp} {a b:Addr} {o:HO} (h:b≠a):ze H a o b=H b:=by unfold ze; rw [if_neg h]
theorem B3 {H:Hp} {a b:Addr} {o u:HO} (h:H a=some o) (h':H b=some u) (d:o≠u):a≠b:=by
 intro e; subst e; rw [h] at h'; exact d (Option.some.inj h')
theorem wY {H:Hp} {a b:Addr} {o:HO} (h:H a=some o) (h':H b=none):a≠b:=by
 intro e; subst e; rw [h] at h'; cases h'
section
variable (P:Program) (w:World)
noncomputable def xA (H:Hp) (h:Heap) (a:Addr):HO->Prop
 | .lst xs=>xs.length<=sizeLine/\∃ (its:List Value) (n:Nat),zb xs its/\h.get? a=some { cls:=.type "list",data:=.seq its.toArray n }
 | .tup xs=>xs.length<=sizeLine/\∃ its:List Value,zb xs its/\IsTup h a its.toArray
 | .dK kvs=>kvs.length<=sizeLine/\(a == sysModules)=false/\∃ vs,KV kvs vs/\h.DictOf (yc P w) a vs
 | .dT kvs=>kvs.length<=sizeLine/\(a == sysModules)=false/\∃ xs:List (List zL×Addr×Value),
   Paired (fun (p:List zL×V) (q:List zL×Addr×Value)=>p.1=q.1/\H q.2.1=some (.tup (p.1.map kV))/\zi p.2 q.2.2) kvs xs/\
   ∃ o es ep,h.get? a=some o/\o.ExactDict/\o.data=.dict es ep/\es.toList=xs.map (entryOfKey (tupleKind (yc P w)))/\(xs.map (·.1)).Nodup
 | .set S n=>h.SetOf (intKind P w) a S n
 | .ins C dx fs=>H dx=some (.own a)/\fs.length<=1000/\dx≠a/\h.get? a=some (PySem.W.instObj C dx)/\
   ∃ mA,h.Ns1 dx mA/\(∀ f,um (fs.lookup f) (mA f))/\PySem.Within mA (fs.map (·.1))
 | .own _=>∃ o,h.get? a=some o
 | .xd fs=>∃ mA,h.Ns1 a mA/\∀ f,um (fs.lookup f) (mA f)
 | .rng lo hi=>∃ t u v,h.get? a=some { cls:=.type "range",data:=.fields #[.int lo t,.int hi u,.int 1 v] }
 | .frz o u=>h.get? a=some o/\xA H h a u
 | .tbl ps=>h.get? a=some { cls:=.none,data:=.fields ps }
 | .met f x=>h.get? a=some (PySem.W.methodObj (.ref f) (.ref x))
 | .ext φ=>φ h/\(∃ o,h.get? a=some o)/\∀ h1 h2:Heap,φ h1->(∀ o,h1.get? a=some o->h2.get? a=some o)->φ h2
noncomputable def ye (H:Hp) (h:Heap):Prop:=∀ a o,H a=some o->xA P w H h a o
end
section
variable {P:Program} {w:World} {H H':Hp} {h h':Heap} {a:Addr} {o:HO}
theorem xA.lt (x:xA P w H h a o):a<h.objs.size:=by
 cases o with
 | lst xs=>obtain ⟨_,_,_,_,e⟩:=x; exact Heap.lt_size e
 | tup xs=>obtain ⟨_,_,_,p⟩:=x; exact p.lt
 | dK kvs=>obtain ⟨_,_,_,_,o,_,_,e,_⟩:=x; exact Heap.lt_size e
 | dT kvs=>obtain ⟨_,_,_,_,o,_,_,e,_⟩:=x; exact Heap.lt_size e
 | set S n=>obtain ⟨o,_,_,_,e,_⟩:=x; exact Heap.lt_size e
 | ins C dx fs=>obtain ⟨_,_,_,e,_⟩:=x; exact Heap.lt_size e
 | own y=>obtain ⟨_,e⟩:=x; exact Heap.lt_size e
 | xd fs=>obtain ⟨_,⟨_,_,_,e,_⟩,_⟩:=x; exact Heap.lt_size e
 | rng lo hi=>obtain ⟨_,_,_,e⟩:=x; exact Heap.lt_size e
 | frz ob u=>obtain ⟨e,_⟩:=x; exact Heap.lt_size e
 | tbl ps=>exact Heap.lt_size (show h.get? a=some _ from x)
 | met f y=>exact Heap.lt_size (show h.get? a=some _ from x)
 | ext φ=>obtain ⟨_,⟨_,e⟩,_⟩:=x; exact Heap.lt_size e
theorem Paired.mapP {α β:Type} {F G:α->β->Prop}:∀ {l₁:List α} {l₂:List β},Paired F l₁ l₂->(∀ a b,F a b->G a b)->Paired G l₁ l₂
 | _,_,.nil,_=>.nil
 | _,_,.cons r t,f=>.cons (f _ _ r) (Paired.mapP t f)
theorem xA.stay (x:xA P w H h a o) (k:∀ b u,(b=a\/H b=some (.own a))->h.get? b=some u->h'.get? b=some u)
  (ho:∀ b,H b=some (.own a)->H' b=some (.own a)) (ht:∀ b xs,H b=some (.tup xs)->H' b=some (.tup xs)):xA P w H' h' a o:=by
 induction o with
 | lst xs=>obtain ⟨z,its,n,r,e⟩:=x; exact ⟨z,its,n,r,k _ _ (.inl rfl) e⟩
 | tup xs=>obtain ⟨z,its,r,ob,e,c⟩:=x; exact ⟨z,its,r,ob,k _ _ (.inl rfl) e,c⟩
 | dK kvs=>obtain ⟨z,y,vs,r,ob,es,ep,e,c⟩:=x; exact ⟨z,y,vs,r,ob,es,ep,k _ _ (.inl rfl) e,c⟩
 | dT kvs=>
  obtain ⟨z,y,xs,r,ob,es,ep,e,c⟩:=x
  exact ⟨z,y,xs,Paired.mapP r fun p q z=>⟨z.1,ht _ _ z.2.1,z.2.2⟩,ob,es,ep,k _ _ (.inl rfl) e,c⟩
 | set S n=>obtain ⟨ob,es,ep,t,e,c⟩:=x; exact ⟨ob,es,ep,t,k _ _ (.inl rfl) e,c⟩
 | ins C dx fs=>
  obtain ⟨d,z,ne,e,mA,⟨od,es,ep,e2,c⟩,r⟩:=x
  exact ⟨ho _ d,z,ne,k _ _ (.inl rfl) e,mA,⟨od,es,ep,k _ _ (.inr d) e2,c⟩,r⟩
 | own y=>obtain ⟨ob,e⟩:=x; exact ⟨ob,k _ _ (.inl rfl) e⟩
 | xd fs=>obtain ⟨mA,⟨od,es,ep,e,c⟩,r⟩:=x; exact ⟨mA,⟨od,es,ep,k _ _ (.inl rfl) e,c⟩,r⟩
 | rng lo hi=>obtain ⟨t,u,v,e⟩:=x; exact ⟨t,u,v,k _ _ (.inl rfl) e⟩
 | frz ob u ih=>obtain ⟨e,q⟩:=x; exact ⟨k _ _ (.inl rfl) e,ih q⟩
 | tbl ps=>
  have e:h.get? a=some { cls:=.none,data:=.fields ps }:=x
  show h'.get? a=some { cls:=.none,data:=.fields ps }
  exact k a _ (.inl rfl) e
 | met f y=>
  have e:h.get? a=some (PySem.W.methodObj (.ref f) (.ref y)):=x
  show h'.get? a=some (PySem.W.methodObj (.ref f) (.ref y))
  exact k a _ (.inl rfl) e
 | ext φ=>obtain ⟨p,⟨o,e⟩,st⟩:=x; exact ⟨st _ _ p fun o q=>k _ _ (.inl rfl) q,⟨o,k _ _ (.inl rfl) e⟩,st⟩
theorem ye.lt (x:ye P w H h) (e:H a=some o):a<h.objs.size:=(x a o e).lt
theorem ye.fresh (x:ye P w H h) (e:h.objs.size<=a):H a=none:=by
 cases q:H a with
 | none=>rfl
 | some u=>exact absurd (Nat.lt_of_lt_of_le (x.lt q) e) (Nat.lt_irrefl _)
theorem ye.kept (x:ye P w H h) (k:∀ b u,h.get? b=some u->h'.get? b=some u):ye P w H h':=fun a o e=>
 (x a o e).stay (fun b u _ q=>k b u q) (fun _ q=>q) fun _ _ q=>q
theorem ye.laid (x:ye P w H h) (k:∀ b u,h.get? b=some u->h'.get? b=some u) (hp:h.objs.size<=a) (new:xA P w (ze H a o) h' a o):ye P w (ze H a o) h':=fun b u e=>by
 have hn:=x.fresh hp
 by_cases hb:b=a
 ·subst hb; rw [yQ] at e; cases e; exact new
 ·rw [yE hb] at e
  exact (x b u e).stay (fun c v _ q=>k c v q) (fun c q=>by rw [yE (wY q hn)]; exact q) fun c xs q=>by rw [yE (wY q hn)]; exact q
end
noncomputable def Rd (H:Hp) (a:Addr) (u:HO):Prop:=H a=some u\/∃ o,H a=some (.frz o u)
theorem Rd.ok {P:Program} {w:World} {H:Hp} {h:Heap} {a:Addr} {u:HO} (r:Rd H a u) (x:ye P w H h):xA P w H h a u:=by
 rcases r with r | ⟨o,r⟩
 ·exact x a u r
 ·obtain ⟨_,q⟩:=x a _ r
  exact q
noncomputable def jT:Option HO->Prop
 | some (.lst _)=>True
 | some (.dK _)=>True
 | some (.dT _)=>True
 | some (.set _ _)=>True
 | some (.ins _ _ _)=>True
 | some (.ext _)=>True
 | _=>False
section
variable {P:Program} {w:World} {H:Hp} {h h':Heap} {x e:Addr} {o':HO}
theorem ye.write (ok:ye P w H h) (mu:jT (H x)) (he:e=x\/H e=some (.own x)) (k:∀ b u,b≠e->h.get? b=some u->h'.get? b=some u) (heo:∃ u,h'.get? e=some u)
  (new:xA P w (ze H x o') h' x o'):ye P w (ze H x o') h':=fun b u q=>by
 have nown:∀ c y,H c=some (.own y)->c≠x:=fun c y r z=>by subst z; rw [r] at mu; exact mu
 have ntup:∀ c xs,H c=some (.tup xs)->c≠x:=fun c xs r z=>by subst z; rw [r] at mu; exact mu
 by_cases hb:b=x
 ·subst hb; rw [yQ] at q; cases q; exact new
 ·rw [yE hb] at q
  by_cases hbe:b=e
  ·have q':H b=some (.own x):=by
    rcases he with z | z
    ·exact absurd (hbe.trans z) hb
    ·rw [hbe]; exact z
   rw [q] at q'; cases q'
   obtain ⟨v,hv⟩:=heo
   exact ⟨v,by rw [hbe]; exact hv⟩
  ·refine (ok b u q).stay (fun c v hc r=>k c v ?_ r) (fun c r=>by rw [yE (nown c b r)]; exact r) fun c xs r=>by rw [yE (ntup c xs r)]; exact r
   rcases hc with rfl | hc
   ·exact hbe
   ·rintro rfl
    rcases he with z | z
    ·exact nown c b hc z
    ·rw [hc] at z; cases z; exact hb rfl
end
structure Un (fs ex:List Addr) (H H':Hp) (h h':Heap):Prop where
 keep:∀ b o,h.get? b=some o->H b=none->b ∉ fs->b ∉ ex->h'.get? b=some o
 slot:∀ b o,h.get? b=some o->H b=none->b∈fs->b ∉ ex->∃ sl,h'.get? b=some { o with slots:=sl }
 free:∀ b o,h.get? b=some o->H b=none->b ∉ ex->H' b=none
 there:∀ b o,h.get? b=some o->b ∉ ex->∃ o',h'.get? b=some o'
 tups:∀ b xs,H b=some (.tup xs)->H' b=some (.tup xs)
 frzs:∀ b o u,H b=some (.frz o u)->H' b=some (.frz o u)
 tbls:∀ b ps,H b=some (.tbl ps)->∃ more,H' b=some (.tbl (ps++more))
section
variable {fs fs' ex ex':List Addr} {H H1 H2:Hp} {h h1 h2 h':Heap} {a x e:Addr} {o:HO}
theorem Un.any (u:Un fs ex H H1 h h1) {b:Addr} {ob:Obj} (q:h.get? b=some ob) (n:H b=none) (hx:b ∉ ex):∃ sl,h1.get? b=some { ob with slots:=sl }:=by
 by_cases hb:b∈fs
 ·exact u.slot b ob q n hb hx
 ·exact ⟨ob.slots,u.keep b ob q n hb hx⟩
theorem Un.kept (k:∀ b u,h.get? b=some u->h'.get? b=some u):Un fs ex H H h h':=
 ⟨fun b ob q _ _ _=>k b ob q,fun b ob q _ _ _=>⟨ob.slots,k b ob q⟩,fun _ _ _ n _=>n,fun b ob q _=>⟨ob,k b ob q⟩,fun _ _ q=>q,fun _ _ _ q=>q,fun _ ps q=>⟨#[],by rw [q]; simp⟩⟩
theorem Un.refl:Un fs ex H H h h:=Un.kept fun _ _ q=>q
theorem Un.laid (k:∀ b u,h.get? b=some u->h'.get? b=some u) (hp:h.objs.size<=a) (hn:H a=none):Un fs ex H (ze H a o) h h' where
 keep:=fun b u q _ _ _=>k b u q
 slot:=fun b u q _ _ _=>⟨u.slots,k b u q⟩
 free:=fun b u q n _=>by rw [yE (Nat.ne_of_lt (Nat.lt_of_lt_of_le (Heap.lt_size q) hp))]; exact n
 there:=fun b u q _=>⟨u,k b u q⟩
 tups:=fun b xs q=>by rw [yE (wY q hn)]; exact q
 frzs:=fun b u xs q=>by rw [yE (wY q hn)]; exact q
 tbls:=fun b ps q=>⟨#[],by rw [yE (wY q hn),q]; simp⟩
theorem Un.write (mu:jT (H x)) (he:e=x\/H e=some (.own x)) (k:∀ b u,b≠e->h.get? b=some u->h'.get? b=some u) (heo:∃ u,h'.get? e=some u):Un fs ex H (ze H x o) h h':=by
 have hx:∀ b,H b=none->b≠x:=fun b n z=>by subst z; rw [n] at mu; exact mu
 have hb:∀ b,H b=none->b≠e:=fun b n z=>by
  subst z
  rcases he with r | r
  ·exact hx b n r
  ·rw [n] at r; cases r
 have hm:∀ b u,H b=some u->¬ jT (some u)->b≠x:=fun b u q nm z=>by subst z; rw [q] at mu; exact nm mu
 refine ⟨fun b u q n _ _=>k b u (hb b n) q,fun b u q n _ _=>⟨u.slots,k b u (hb b n) q⟩,fun b u q n _=>by rw [yE (hx b n)]; exact n,fun b u q _=>?_,
  fun b xs q=>by rw [yE (hm b _ q fun z=>z)]; exact q,fun b u xs q=>by rw [yE (hm b _ q fun z=>z)]; exact q,fun b ps q=>⟨#[],by rw [yE (hm b _ q fun z=>z),q]; simp⟩⟩
 by_cases hbe:b=e
 ·subst hbe; exact heo
 ·exact ⟨u,k b u hbe q⟩
end
noncomputable def X6 (h:Heap) (H:Hp):List Addr:=(List.range h.objs.size).filter fun a=>(H a).isSome
noncomputable def uv (h:Heap) (H:Hp):Heap:=PySem.W.hideAll h (X6 h H)
theorem Lz (h:Heap) (H:Hp):(uv h H).objs.size=h.objs.size:=PySem.W.hideAll_size _ _
theorem Ly {h:Heap} {H:Hp} {b:Addr} {o:Obj} (e:h.get? b=some o) (n:H b=none):(uv h H).get? b=some o:=
 PySem.W.hideAll_get _ e fun hm=>by
  have q:(H b).isSome=true:=(List.mem_filter.mp hm).2
  rw [n] at q; simp at q
theorem BJ {h:Heap} {H:Hp} {b:Addr} {o:Obj} (e:(uv h H).get? b=some o):h.get? b=some o/\H b=none:=by
 have e':h.get? b=some o:=PySem.W.of_hideAll (X6 h H) e
 refine ⟨e',?_⟩
 cases q:H b with
 | none=>rfl
 | some x=>
  have hm:b∈X6 h H:=List.mem_filter.mpr ⟨List.mem_range.mpr (Heap.lt_size e'),by simp [q]⟩
  have z:(uv h H).get? b=none:=PySem.W.hideAll_none (X6 h H) hm
  rw [z] at e; cases e
noncomputable def O5 (g h:Heap) (L:Addr):List (Addr×Obj):=(List.range h.objs.size).filterMap fun a=>if a=L\/(g.get? a).isSome=true then none else (h.get? a).map fun o=>(a,o)
noncomputable def yD (g h:Heap) (L d:Addr):List (Addr×Obj):=(O5 g h L).filter fun p=>decide (p.1≠d)
end L2
namespace L2
open PySem PySem.Spec PyProof.Rows
structure Mod (K:PySem.W.Frag) (mg:Str->Option Value) (base:Heap):Prop where
 kin:K.In base
 glob:base.Ns mainGlobals mg
 blt:∃ mb,base.Ns builtinsNs mb/\∀ x:Str,x ≠ "__name__" -> mb x=bootBuiltins x
 nolimit:base.NoLimit
structure Cx where
 prog:Program
 w:World
 K:PySem.W.Frag
 mg:Str->Option Value
 base:Heap
 A:Around
 N:List Str
 s₀:Shared
 H₀:Hp
 env:Env
 outer:List Env
 stack:List Env
 ex:List Addr
 fn:Str->Bool
 calm:Bool
 pn:List (Addr×Obj)
 xe:Value->Shared->Prop
noncomputable def vH (l:List Env):List Addr:=l.filterMap (·.frame)
noncomputable abbrev Cx.fs (X:Cx):List Addr:=vH X.outer
noncomputable def tS (sc:Scope) (x:Str):Prop:=sc.names.lookup x=some .local\/sc.names.lookup x=some .cell\/sc.names.lookup x=some .free
noncomputable def wM (sc:Scope) (x:Str):Prop:=sc.names.lookup x=some .local\/sc.names.lookup x=some .cell
noncomputable def Iv (env:Env) (h:Heap) (m:Str->Option Value) (x:Str) (u:Value):Prop:=
 (env.kindOf x=some .local/\m x=some u)\/((env.kindOf x=some .cell\/env.kindOf x=some .free)/\∃ c,env.cells.lookup x=some c/\h.IsCell c (some u))
structure Cx.Ok (X:Cx):Prop where
 mod:Mod X.K X.mg X.base
 kind:X.env.scope.kind=.function
 glob:X.env.globals=mainGlobals
 blt:X.env.builtins=builtinsNs
 above:X.s₀.heap.objs.size<=X.env.locals
 inj:∀ x y c,X.env.cells.lookup x=some c->X.env.cells.lookup y=some c->x=y
 has:∀ x,(X.env.kindOf x=some .cell\/X.env.kindOf x=some .free)->∃ c,X.env.cells.lookup x=some c
 cab:∀ x c,X.fn x=true->X.env.cells.lookup x=some c->X.s₀.heap.objs.size<=c
 hd:X.calm=true->X.A.handled=none
 frames:X.A.frames=some X.stack
 stk:X.stack=X.outer\/(X.stack=X.env::X.outer/\X.env.frame=some X.env.locals)
 exf:∀ b∈X.ex,b≠X.env.locals/\∀ x c,X.env.cells.lookup x=some c->c≠b
 bs:∀ b o,X.base.get? b=some o->X.s₀.heap.get? b=some o/\X.H₀ b=none
 bsz:X.base.objs.size<=X.s₀.heap.objs.size
 noex:∀ b o,X.base.get? b=some o->b ∉ X.ex
 exfs:∀ b∈X.ex,b ∉ X.fs
 funs:X.s₀.heap.FunFrames X.base X.outer
 frf:∀ b∈X.fs,X.H₀ b=none
structure Inv (X:Cx) (pins:List (Addr×Obj)) (σ:List (Option V)) (H:Hp) (s:Shared):Prop where
 ok:X.Ok
 os:s.os=X.s₀.os
 bare:AllBare s.gens
 base:Un X.fs X.ex X.H₀ H X.s₀.heap s.heap
 loc:∃ m,s.heap.Ns X.env.locals m/\∀ (i:Nat) (x:Str) (v:V),X.N[i]?=some x->σ[i]?=some (some v)->tS X.env.scope x->∃ u,zi v u/\Iv X.env s.heap m x u
 cell:∀ x c,X.env.cells.lookup x=some c->∃ v,s.heap.IsCell c v
 free:H X.env.locals=none
 freeC:∀ x c,X.env.cells.lookup x=some c->H c=none
 pin:∀ p∈X.pn++pins,s.heap.get? p.1=some p.2/\H p.1=none/\p.1≠X.env.locals/\p.1 ∉ X.fs/\∀ v,p.2.data≠.cell v
 hok:ye X.prog X.w H s.heap
 len:σ.length=X.N.length
section
variable {X:Cx} {pins:List (Addr×Obj)} {σ:List (Option V)} {H H':Hp} {s:Shared} {h':Heap}
theorem Cx.Ok.nofr (ok:X.Ok) {b:Addr} {o:Obj} (e:X.base.get? b=some o):b ∉ X.fs:=fun hb=>by
 have:=(ok.funs.mem hb).1
 rw [e] at this; cases this
theorem Inv.bs (I:Inv X pins σ H s):∀ b o,X.base.get? b=some o->s.heap.get? b=some o/\H b=none:=fun b o e=>
 ⟨I.base.keep b o (I.ok.bs b o e).1 (I.ok.bs b o e).2 (I.ok.nofr e) (I.ok.noex b o e),I.base.free b o (I.ok.bs b o e).1 (I.ok.bs b o e).2 (I.ok.noex b o e)⟩
theorem Inv.bk (I:Inv X pins σ H s):∀ b o,X.base.get? b=some o->s.heap.get? b=some o:=fun b o e=>(I.bs b o e).1
theorem Inv.mod (I:Inv X pins σ H s):Mod X.K X.mg X.base:=I.ok.mod
theorem Inv.kIn (I:Inv X pins σ H s):X.K.In s.heap:=I.ok.mod.kin.keeps I.bk
theorem Inv.lt (I:Inv X pins σ H s):X.env.locals<s.heap.objs.size:=let ⟨_,hn,_⟩:=I.loc; hn.lt
theorem Inv.sz (I:Inv X pins σ H s):X.s₀.heap.objs.size<=s.heap.objs.size:=Nat.le_trans I.ok.above (Nat.le_of_lt I.lt)
theorem Inv.nofs (I:Inv X pins σ H s) {a:Addr} (h:s.heap.objs.size<=a):a ∉ X.fs:=fun hb=>by
 obtain ⟨_,o,ho,_⟩:=I.ok.funs.mem hb
 exact absurd (Nat.lt_of_lt_of_le (Heap.lt_size ho) (Nat.le_trans I.sz h)) (Nat.lt_irrefl _)
theorem Inv.cne (I:Inv X pins σ H s):∀ x c,X.env.cells.lookup x=some c->c≠X.env.locals:=fun x c e z=>by
 obtain ⟨v,o,ho,hd⟩:=I.cell x c e
 obtain ⟨m,⟨o',es,ep,ho',hd',_⟩,_⟩:=I.loc
 rw [z,ho'] at ho; cases ho; rw [hd'] at hd; cases hd
theorem Inv.funs (I:Inv X pins σ H s):s.heap.FunFrames X.base X.outer:=by
 have all:∀ (l:List Env),(∀ b∈vH l,b∈X.fs)->X.s₀.heap.FunFrames X.base l->s.heap.FunFrames X.base l:=by
  intro l
  induction l with
  | nil=>intro _ _; trivial
  | cons env r ih=>
   intro hs hl
   obtain ⟨hk,⟨L,o,hf,hn,ho,hd⟩,hr⟩:=hl
   have hL:L∈X.fs:=hs L (by unfold vH; rw [List.filterMap_cons,hf]; exact List.mem_cons_self)
   obtain ⟨sl,e⟩:=I.base.slot L o ho (I.ok.frf L hL) hL fun z=>I.ok.exfs L z hL
   exact ⟨hk,⟨L,_,hf,hn,e,hd⟩,ih (fun b hb=>hs b (by unfold vH; rw [List.filterMap_cons,hf]; exact List.mem_cons_of_mem _ hb)) hr⟩
 exact all X.outer (fun _ hb=>hb) I.ok.funs
theorem Inv.stack (I:Inv X pins σ H s):s.heap.FunFrames X.base X.stack:=by
 rcases I.ok.stk with e | ⟨e,hf⟩
 ·rw [e]; exact I.funs
 ·rw [e]
  obtain ⟨m,hn,_⟩:=I.loc
  refine .cons (by rw [I.ok.kind]; decide) hf hn ?_ I.funs
  exact Heap.get?_none_of_le (Nat.le_trans I.ok.bsz I.ok.above)
theorem Inv.stkSub (I:Inv X pins σ H s):∀ b∈vH X.stack,b∈X.env.locals::X.fs:=fun b hb=>by
 rcases I.ok.stk with e | ⟨e,hf⟩
 ·rw [e] at hb; exact List.mem_cons_of_mem _ hb
 ·rw [e] at hb
  unfold vH at hb
  rw [List.filterMap_cons,hf] at hb
  exact hb
theorem Inv.stkFree (I:Inv X pins σ H s):∀ b∈vH X.stack,H b=none:=fun b hb=>by
 rcases List.mem_cons.mp (I.stkSub b hb) with e | hb
 ·rw [e]; exact I.free
 ·obtain ⟨_,o,ho,_⟩:=I.ok.funs.mem hb
  exact I.base.free b o ho (I.ok.frf b hb) fun z=>I.ok.exfs b z hb
theorem Inv.step {g':Array GenState} {t':Nat} {d':Drawn} {ch:List Addr} (I:Inv X pins σ H s)
  (hch:∀ b∈ch,(b∈X.ex\/X.s₀.heap.objs.size<=b)/\b≠X.env.locals/\(∀ x c,X.env.cells.lookup x=some c->c≠b)/\∀ p∈X.pn++pins,p.1≠b)
  (keep:∀ b o,b≠X.env.locals->b ∉ X.fs->b ∉ ch->s.heap.get? b=some o->H b=none->h'.get? b=some o)
  (slot:∀ b o,b≠X.env.locals->b∈X.fs->b ∉ ch->s.heap.get? b=some o->H b=none->∃ sl,h'.get? b=some { o with slots:=sl }) (free:∀ b o,b ∉ ch->s.heap.get? b=some o->H b=none->H' b=none)
  (there:∀ b o,b ∉ ch->s.heap.get? b=some o->∃ o',h'.get? b=some o')
  (tups:∀ b xs,H b=some (.tup xs)->H' b=some (.tup xs)) (frzs:∀ b o u,H b=some (.frz o u)->H' b=some (.frz o u)) (tbls:∀ b ps,H b=some (.tbl ps)->∃ more,H' b=some (.tbl (ps++more)))
  (ns:∀ m,s.heap.Ns X.env.locals m->h'.Ns X.env.locals m) (hok:ye X.prog X.w H' h') (hg:AllBare g') :
  Inv X pins σ H' { s with heap:=h',gens:=g',drawn:=d',toks:=t' }:=by
 have neL:∀ b o,X.s₀.heap.get? b=some o->b≠X.env.locals:=fun b o e=>Nat.ne_of_lt (Nat.lt_of_lt_of_le (Heap.lt_size e) I.ok.above)
 have neC:∀ b o,X.s₀.heap.get? b=some o->b ∉ X.ex->b ∉ ch:=fun b o e hx hb=>by
  rcases (hch b hb).1 with z | z
  ·exact hx z
  ·exact absurd (Nat.lt_of_lt_of_le (Heap.lt_size e) z) (Nat.lt_irrefl _)
 have cellK:∀ x c,X.env.cells.lookup x=some c->∀ v,s.heap.IsCell c v->h'.IsCell c v:=fun x c e v ⟨o,ho,hd⟩=>by
  have nch:c ∉ ch:=fun z=>(hch c z).2.2.1 x c e rfl
  by_cases hc:c∈X.fs
  ·obtain ⟨sl,q⟩:=slot c o (I.cne x c e) hc nch ho (I.freeC x c e)
   exact ⟨_,q,hd⟩
  ·exact ⟨o,keep c o (I.cne x c e) hc nch ho (I.freeC x c e),hd⟩
 refine ⟨I.ok,I.os,hg,⟨fun b o e n hb hx=>?_,fun b o e n hb hx=>?_,fun b o e n hx=>?_,fun b o e hx=>?_,fun b xs e=>tups b xs (I.base.tups b xs e),fun b o xs e=>frzs b o xs (I.base.frzs b o xs e),fun b ps e=>?_⟩,?_,fun x c e=>?_,?_,fun x c e=>?_,fun p hp=>?_,hok,I.len⟩
 ·exact keep b o (neL b o e) hb (neC b o e hx) (I.base.keep b o e n hb hx) (I.base.free b o e n hx)
 ·obtain ⟨sl,e1⟩:=I.base.slot b o e n hb hx
  obtain ⟨sl',e2⟩:=slot b _ (neL b o e) hb (neC b o e hx) e1 (I.base.free b o e n hx)
  exact ⟨sl',e2⟩
 ·obtain ⟨o',e1⟩:=I.base.there b o e hx
  exact free b o' (neC b o e hx) e1 (I.base.free b o e n hx)
 ·obtain ⟨o',e1⟩:=I.base.there b o e hx
  exact there b o' (neC b o e hx) e1
 ·obtain ⟨m1,e1⟩:=I.base.tbls b ps e
  obtain ⟨m2,e2⟩:=tbls b _ e1
  exact ⟨m1++m2,by rw [e2,Array.append_assoc]⟩
 ·obtain ⟨m,hn,hl⟩:=I.loc
  refine ⟨m,ns m hn,fun i x v e1 e2 e3=>?_⟩
  obtain ⟨u,r,l⟩:=hl i x v e1 e2 e3
  refine ⟨u,r,?_⟩
  rcases l with l | ⟨k,c,e,z⟩
  ·exact .inl l
  ·exact .inr ⟨k,c,e,cellK x c e _ z⟩
 ·obtain ⟨v,z⟩:=I.cell x c e
  exact ⟨v,cellK x c e v z⟩
 ·obtain ⟨m,⟨o,_,_,ho,_⟩,_⟩:=I.loc
  exact free _ o (fun z=>(hch _ z).2.1 rfl) ho I.free
 ·obtain ⟨v,o,ho,hd⟩:=I.cell x c e
  exact free c o (fun z=>(hch c z).2.2.1 x c e rfl) ho (I.freeC x c e)
 ·obtain ⟨e,n,ne,nf,d⟩:=I.pin p hp
  have nch:p.1 ∉ ch:=fun z=>(hch p.1 z).2.2.2 p hp rfl
  exact ⟨keep p.1 p.2 ne nf nch e n,free p.1 p.2 nch e n,ne,nf,d⟩
theorem Inv.un {t':Nat} (I:Inv X pins σ H s) (u:Un X.fs [] H H' s.heap h') (hok:ye X.prog X.w H' h'):Inv X pins σ H' { s with heap:=h',toks:=t' }:=by
 obtain ⟨m,⟨o,es,ep,ho,r⟩,_⟩:=id I.loc
 obtain ⟨sl,hL⟩:=u.any ho I.free (by simp)
 exact I.step (g':=s.gens) (d':=s.drawn) (ch:=[]) (fun _ z=>nomatch z) (fun b o _ hb _ e n=>u.keep b o e n hb (by simp)) (fun b o _ hb _ e n=>u.slot b o e n hb (by simp)) (fun b o _ e n=>u.free b o e n (by simp)) (fun b o _ e=>u.there b o e (by simp)) u.tups u.frzs u.tbls (fun m' hm=>by
  obtain ⟨o',es',ep',ho',r'⟩:=hm
  rw [ho] at ho'; cases ho'
  exact ⟨_,es',ep',hL,r'⟩) hok I.bare
theorem Inv.call {g':Array GenState} {t':Nat} {d':Drawn} {ch:List Addr} (I:Inv X pins σ H s) (u:Un (vH X.stack) ch H H' s.heap h') (hok:ye X.prog X.w H' h') (hg:AllBare g')
  (hch:∀ b∈ch,(b∈X.ex\/X.s₀.heap.objs.size<=b)/\b≠X.env.locals/\(∀ x c,X.env.cells.lookup x=some c->c≠b)/\∀ p∈X.pn++pins,p.1≠b) :
  Inv X pins σ H' { s with heap:=h',gens:=g',drawn:=d',toks:=t' }:=by
 obtain ⟨m,⟨o,es,ep,ho,r⟩,_⟩:=id I.loc
 obtain ⟨sl,hL⟩:=u.any ho I.free fun z=>(hch _ z).2.1 rfl
 exact I.step (ch:=ch) hch (fun b o hL hb hc e n=>u.keep b o e n (fun z=>(List.mem_cons.mp (I.stkSub b z)).elim hL hb) hc) (fun b o _ _ hc e n=>u.any e n hc) (fun b o hc e n=>u.free b o e n hc) (fun b o hc e=>u.there b o e hc) u.tups u.frzs u.tbls (fun m' hm=>by
  obtain ⟨o',es',ep',ho',r'⟩:=hm
  rw [ho] at ho'; cases ho'
  exact ⟨_,es',ep',hL,r'⟩) hok hg
theorem Inv.turned {t':Nat} {it:Addr} (I:Inv X pins σ H s) (k:∀ b o,b≠it->s.heap.get? b=some o->h'.get? b=some o) (hn:H it=none) (hL:it≠X.env.locals)
  (h1:it∈X.ex\/X.s₀.heap.objs.size<=it) (h2:∀ x c,X.env.cells.lookup x=some c->c≠it) (h3:∀ p∈X.pn++pins,p.1≠it):Inv X pins σ H { s with heap:=h',toks:=t' }:=by
 have nit:∀ b u,H b=some u->b≠it:=fun b u e z=>by rw [z,hn] at e; cases e
 refine I.step (g':=s.gens) (d':=s.drawn) (ch:=[it]) (fun b hb=>?_) (fun b o _ _ hc e _=>k b o (fun z=>hc (by simp [z])) e) (fun b o _ _ hc e _=>⟨o.slots,k b o (fun z=>hc (by simp [z])) e⟩) (fun _ _ _ _ n=>n)
  (fun b o hc e=>⟨o,k b o (fun z=>hc (by simp [z])) e⟩) (fun _ _ e=>e) (fun _ _ _ e=>e) (fun b ps e=>⟨#[],by rw [e]; simp⟩) (fun m hm=>?_) (fun b u e=>?_) I.bare
 ·have e:b=it:=by simpa using hb
  subst e
  exact ⟨h1,hL,h2,h3⟩
 ·obtain ⟨o,es,ep,ho,r⟩:=hm
  exact ⟨o,es,ep,k _ o (Ne.symm hL) ho,r⟩
 ·refine (I.hok b u e).stay (fun c v hc q=>k c v ?_ q) (fun _ q=>q) fun _ _ q=>q
  rcases hc with z | z
  ·rw [z]; exact nit b u e
  ·exact nit c _ z
theorem Inv.tok (I:Inv X pins σ H s) (t:Nat):Inv X pins σ H { s with toks:=t }:=I.un (h':=s.heap) (t':=t) Un.refl I.hok
theorem Inv.kept {t':Nat} (I:Inv X pins σ H s) (k:∀ b u,s.heap.get? b=some u->h'.get? b=some u):Inv X pins σ H { s with heap:=h',toks:=t' }:=I.un (Un.kept k) (I.hok.kept k)
theorem Inv.laid {a:Addr} {o:HO} {t':Nat} (I:Inv X pins σ H s) (k:∀ b u,s.heap.get? b=some u->h'.get? b=some u) (hp:s.heap.objs.size<=a) (new:xA X.prog X.w (ze H a o) h' a o) :
  Inv X pins σ (ze H a o) { s with heap:=h',toks:=t' }:=I.un (Un.laid k hp (I.hok.fresh hp)) (I.hok.laid k hp new)
theorem Inv.write {x e:Addr} {o:HO} {t':Nat} (I:Inv X pins σ H s) (mu:jT (H x)) (he:e=x\/H e=some (.own x)) (k:∀ b u,b≠e->s.heap.get? b=some u->h'.get? b=some u) (heo:∃ u,h'.get? e=some u)
  (new:xA X.prog X.w (ze H x o) h' x o):Inv X pins σ (ze H x o) { s with heap:=h',toks:=t' }:=I.un (Un.write mu he k heo) (I.hok.write mu he k heo new)
theorem Inv.weak {σ':List (Option V)} (I:Inv X pins σ H s) (hl:σ'.length=σ.length) (w:∀ (i:Nat) v,σ'[i]?=some (some v)->σ[i]?=some (some v)):Inv X pins σ' H s:=
 ⟨I.ok,I.os,I.bare,I.base,let ⟨m,hn,hl'⟩:=I.loc; ⟨m,hn,fun i x v e1 e2 e3=>hl' i x v e1 (w i v e2) e3⟩,I.cell,I.free,I.freeC,I.pin,I.hok,hl.trans I.len⟩
theorem Inv.pins_of {pins':List (Addr×Obj)} (I:Inv X pins σ H s) (h:∀ p∈pins',s.heap.get? p.1=some p.2/\H p.1=none/\p.1≠X.env.locals/\p.1 ∉ X.fs/\∀ v,p.2.data≠.cell v):Inv X pins' σ H s:=
 ⟨I.ok,I.os,I.bare,I.base,I.loc,I.cell,I.free,I.freeC,fun p hp=>(List.mem_append.mp hp).elim (fun z=>I.pin p (List.mem_append_left _ z)) (h p),I.hok,I.len⟩
theorem QN {N:List Str} (hN:N.Nodup) {i j:Nat} {x:Str} (a:N[i]?=some x) (b:N[j]?=some x):i=j:=by
 obtain ⟨h1,e1⟩:=List.getElem?_eq_some_iff.mp a
 obtain ⟨h2,e2⟩:=List.getElem?_eq_some_iff.mp b
 exact (List.getElem_inj hN).mp (e1.trans e2.symm)
theorem IF {M:Model} {A:Around} {E:Value->Shared->Prop} {i:Nat} {x:Str} {v:V} {u:Value} {Q:Unit->Shared->Prop} (I:Inv X pins σ H s) (hN:X.N.Nodup) (hi:X.N[i]?=some x) (hx:wM X.env.scope x) (r:zi v u)
  (h:∀ s',Inv X pins (σ.set i (some v)) H s'->(∃ a,Heap.SameBut a s.heap s'.heap/\(a=X.env.locals\/X.env.cells.lookup x=some a))->Q () s') (hf:X.fn x=true\/X.env.scope.names.lookup x=some .local:=by first | exact .inl rfl | exact .inr rfl | assumption):wpAny M A (storeName X.env x u) Q E s:=by
 obtain ⟨m,hn,hl⟩:=id I.loc
 have hcls:(X.env.scope.kind == .class||(X.env.scope.kind == .module&&X.env.locals != X.env.globals))=false:=by rw [I.ok.kind]; rfl
 have hiσ:i<σ.length:=by rw [I.len]; exact (List.getElem?_eq_some_iff.mp hi).1
 have cne:=I.cne
 have tracked:∀ {a:Addr} {h':Heap},(∃ o,s.heap.get? a=some o/\H a=none)->Heap.SameBut a s.heap h'->ye X.prog X.w H h':=fun {a h'} ha hs b ob e=>by
  obtain ⟨_,_,hfree⟩:=ha
  refine (I.hok b ob e).stay (fun c w' hc q=>(hs.2 c ?_).trans q) (fun _ q=>q) fun _ _ q=>q
  rintro rfl
  rcases hc with rfl | hc
  ·rw [hfree] at e; cases e
  ·rw [hfree] at hc; cases hc
 rcases hx with hk | hk
 ·refine wpAny_storeName_local hk hn (fun h' hn' hs=>?_) hcls
  obtain ⟨oL,_,_,hoL,_⟩:=id hn
  refine h _ ⟨I.ok,I.os,I.bare,⟨fun b o e n hb hx=>?_,fun b o e n hb hx=>?_,I.base.free,fun b o e hx=>?_,I.base.tups,I.base.frzs,I.base.tbls⟩,⟨_,hn',fun j y v' e1 e2 e3=>?_⟩,fun y c e=>?_,I.free,I.freeC,fun p hp=>?_,tracked ⟨oL,hoL,I.free⟩ hs,by simpa using I.len⟩ ⟨_,hs,.inl rfl⟩
  ·exact (hs.2 b (Nat.ne_of_lt (Nat.lt_of_lt_of_le (Heap.lt_size e) I.ok.above))).trans (I.base.keep b o e n hb hx)
  ·obtain ⟨sl,e1⟩:=I.base.slot b o e n hb hx
   exact ⟨sl,(hs.2 b (Nat.ne_of_lt (Nat.lt_of_lt_of_le (Heap.lt_size e) I.ok.above))).trans e1⟩
  ·obtain ⟨o',e1⟩:=I.base.there b o e hx
   exact ⟨o',(hs.2 b (Nat.ne_of_lt (Nat.lt_of_lt_of_le (Heap.lt_size e) I.ok.above))).trans e1⟩
  ·by_cases hj:j=i
   ·subst hj
    rw [hi] at e1; cases e1
    rw [List.getElem?_set_self hiσ] at e2
    cases e2
    exact ⟨u,r,.inl ⟨hk,by simp⟩⟩
   ·rw [List.getElem?_set_ne (Ne.symm hj)] at e2
    obtain ⟨u',r',q⟩:=hl j y v' e1 e2 e3
    refine ⟨u',r',?_⟩
    rcases q with ⟨k,e⟩ | ⟨k,c,e,z⟩
    ·refine .inl ⟨k,?_⟩
     have:y≠x:=fun e=>hj (QN hN e1 (e ▸ hi))
     simp [this,e]
    ·exact .inr ⟨k,c,e,z.sameBut hs (cne y c e)⟩
  ·obtain ⟨w',z⟩:=I.cell y c e
   exact ⟨w',z.sameBut hs (cne y c e)⟩
  ·obtain ⟨e,n,ne,nf,d⟩:=I.pin p hp
   exact ⟨(hs.2 p.1 ne).trans e,n,ne,nf,d⟩
 ·have hfn:X.fn x=true:=by
   rcases hf with z | z
   ·exact z
   ·rw [z] at hk; cases hk
  obtain ⟨c,hc⟩:=I.ok.has x (.inl hk)
  obtain ⟨w',z⟩:=I.cell x c hc
  refine wpAny_storeName_cell I.ok.kind hk hc z (fun h' hc' hs=>?_)
  obtain ⟨oc,hoc,hocd⟩:=id z
  refine h { s with heap:=h' } ⟨I.ok,I.os,I.bare,⟨fun b o e n hb hx=>?_,fun b o e n hb hx=>?_,I.base.free,fun b o e hx=>?_,I.base.tups,I.base.frzs,I.base.tbls⟩,⟨m,hn.sameBut hs (Ne.symm (cne x c hc)),fun j y v' e1 e2 e3=>?_⟩,fun y c' e=>?_,I.free,I.freeC,fun p hp=>?_,tracked ⟨oc,hoc,I.freeC x c hc⟩ hs,by simpa using I.len⟩ ⟨c,hs,.inr hc⟩
  ·exact (hs.2 b (Nat.ne_of_lt (Nat.lt_of_lt_of_le (Heap.lt_size e) (I.ok.cab x c hfn hc)))).trans (I.base.keep b o e n hb hx)
  ·obtain ⟨sl,e1⟩:=I.base.slot b o e n hb hx
   exact ⟨sl,(hs.2 b (Nat.ne_of_lt (Nat.lt_of_lt_of_le (Heap.lt_size e) (I.ok.cab x c hfn hc)))).trans e1⟩
  ·obtain ⟨o',e1⟩:=I.base.there b o e hx
   exact ⟨o',(hs.2 b (Nat.ne_of_lt (Nat.lt_of_lt_of_le (Heap.lt_size e) (I.ok.cab x c hfn hc)))).trans e1⟩
  ·by_cases hj:j=i
   ·subst hj
    rw [hi] at e1; cases e1
    rw [List.getElem?_set_self hiσ] at e2
    cases e2
    exact ⟨u,r,.inr ⟨.inl hk,c,hc,hc'⟩⟩
   ·rw [List.getElem?_set_ne (Ne.symm hj)] at e2
    obtain ⟨u',r',q⟩:=hl j y v' e1 e2 e3
    refine ⟨u',r',?_⟩
    rcases q with q | ⟨k,c',e,z'⟩
    ·exact .inl q
    ·refine .inr ⟨k,c',e,z'.sameBut hs ?_⟩
     rintro rfl
     exact hj (QN hN e1 (I.ok.inj _ _ _ e hc ▸ hi))
  ·by_cases hcc:c'=c
   ·subst hcc; exact ⟨_,hc'⟩
   ·obtain ⟨w2,z2⟩:=I.cell y c' e
    exact ⟨w2,z2.sameBut hs hcc⟩
  ·obtain ⟨e,n,ne,nf,d⟩:=I.pin p hp
   refine ⟨(hs.2 p.1 ?_).trans e,n,ne,nf,d⟩
   intro q
   rw [q,hoc] at e
   have q':oc=p.2:=Option.some.inj e
   exact d w' (by rw [<- q']; exact hocd)
theorem VT {M:Model} {A:Around} {E:Value->Shared->Prop} {i:Nat} {x:Str} {v:V} {u:Value} {Q:Unit->Shared->Prop} (I:Inv X pins σ H s) (hN:X.N.Nodup) (hi:X.N[i]?=some x) (hx:wM X.env.scope x) (r:zi v u)
  (h:∀ s',Inv X pins (σ.set i (some v)) H s'->Q () s') (hf:X.fn x=true\/X.env.scope.names.lookup x=some .local:=by first | exact .inl rfl | exact .inr rfl | assumption):wpAny M A (storeName X.env x u) Q E s:=
 IF I hN hi hx r (fun s' I' _=>h s' I') hf
theorem Inv.call' {s':Shared} {ch:List Addr} (I:Inv X pins σ H s) (ho:s'.os=s.os) (u:Un (vH X.stack) ch H H' s.heap s'.heap) (hok:ye X.prog X.w H' s'.heap) (hg:AllBare s'.gens)
  (hch:∀ b∈ch,(b∈X.ex\/X.s₀.heap.objs.size<=b)/\b≠X.env.locals/\(∀ x c,X.env.cells.lookup x=some c->c≠b)/\∀ p∈X.pn++pins,p.1≠b):Inv X pins σ H' s':=by
 obtain ⟨h',g',d',t',o'⟩:=s'
 have e:o'=s.os:=ho
 subst e
 exact I.call (g':=g') (t':=t') (d':=d') u hok hg hch
end
noncomputable abbrev XK:=Value->Option Addr->Hp->Prop
noncomputable abbrev St:=List (Option V)
noncomputable abbrev VK:=V->Hp->Prop
noncomputable abbrev TE:=St->Hp->VK->Prop
noncomputable abbrev TT:=St->Hp->(Bool->Hp->Prop)->Prop
noncomputable abbrev TA:=St->Hp->(List V->Hp->Prop)->Prop
structure wV where
 nx:St->Hp->Prop
 rt:VK
 bk:St->Hp->Prop:=fun _ _=>False
 ct:St->Hp->Prop:=fun _ _=>False
noncomputable abbrev TS:=wV->St->Hp->Prop
noncomputable def EP (X:Cx) (pins:List (Addr×Obj)) (σ:St) (Q:VK) (u:Value) (s':Shared):Prop:=∃ v H',Inv X pins σ H' s'/\zi v u/\Q v H'
noncomputable def TP (X:Cx) (pins:List (Addr×Obj)) (σ:St) (Q:Bool->Hp->Prop) (b:Bool) (s':Shared):Prop:=∃ H',Inv X pins σ H' s'/\Q b H'
noncomputable def AP (X:Cx) (pins:List (Addr×Obj)) (σ:St) (Q:List V->Hp->Prop) (us:List Value) (s':Shared):Prop:=∃ vs H',Inv X pins σ H' s'/\zb vs us/\Q vs H'
noncomputable def SP (X:Cx) (pins:List (Addr×Obj)) (D:wV) (f:Flow) (s':Shared):Prop:=
 match f with
 | .next=>∃ σ' H',Inv X pins σ' H' s'/\D.nx σ' H'
 | .brk=>∃ σ' H',Inv X pins σ' H' s'/\D.bk σ' H'
 | .cont=>∃ σ' H',Inv X pins σ' H' s'/\D.ct σ' H'
 | .ret u=>∃ v σ' H',Inv X pins σ' H' s'/\zi v u/\D.rt v H'
noncomputable def PE (X:Cx) (e:Expr) (t:TE):Prop:=
 ∀ (pins:List (Addr×Obj)) (s:Shared) (σ:St) (H:Hp) (Q:VK),Inv X pins σ H s->t σ H Q->wpAny (model X.prog X.w) X.A (eval e X.env) (EP X pins σ Q) X.xe s
noncomputable def PT (X:Cx) (e:Expr) (t:TT):Prop:=
 ∀ (pins:List (Addr×Obj)) (s:Shared) (σ:St) (H:Hp) (Q:Bool->Hp->Prop),Inv X pins σ H s->t σ H Q->wpAny (model X.prog X.w) X.A (isTrue e X.env (eval e X.env)) (TP X pins σ Q) X.xe s
noncomputable def PW (X:Cx) (e:Expr) (t:TT):Prop:=
 ∀ (whole:Sem Value) (pins:List (Addr×Obj)) (s:Shared) (σ:St) (H:Hp) (Q:Bool->Hp->Prop),Inv X pins σ H s->t σ H Q->wpAny (model X.prog X.w) X.A (isTrue e X.env whole) (TP X pins σ Q) X.xe s
theorem PW.pt {X:Cx} {e:Expr} {t:TT} (h:PW X e t):PT X e t:=h _
noncomputable def PA (X:Cx) (es:List Expr) (t:TA):Prop:=
 ∀ (pos:Pos) (pins:List (Addr×Obj)) (s:Shared) (σ:St) (H:Hp) (Q:List V->Hp->Prop),Inv X pins σ H s->t σ H Q->wpAny (model X.prog X.w) X.A (spliced (backTo pos (starEach es X.env))) (AP X pins σ Q) X.xe s
noncomputable def PS (X:Cx) (st:Stmt) (t:TS):Prop:=
 ∀ (pins:List (Addr×Obj)) (s:Shared) (σ:St) (H:Hp) (D:wV),Inv X pins σ H s->t D σ H->wpAny (model X.prog X.w) X.A (exec st X.env) (SP X pins D) X.xe s
noncomputable def wD (X:Cx) (st:List Stmt) (t:TS):Prop:=
 ∀ (pins:List (Addr×Obj)) (s:Shared) (σ:St) (H:Hp) (D:wV),Inv X pins σ H s->t D σ H->wpAny (model X.prog X.w) X.A (execs st X.env) (SP X pins D) X.xe s
theorem zl {α:Type} {t:Sem α} {Q Q':α->Shared->Prop} {M:Model} {A:Around} {E:Value->Shared->Prop} {s:Shared} (h:wpAny M A t Q E s) (hQ:∀ a s,Q a s->Q' a s):wpAny M A t Q' E s:=wpAny_mono h hQ fun _ _ x=>x
end L2
namespace L2
open PySem PySem.Spec PyProof.Rows
section
variable {X:Cx}
theorem OE {a b:Expr} {ta tb:TE} (ha:PE X a ta) (hb:PE X b tb) {pins:List (Addr×Obj)} {s:Shared} {σ:St} {H:Hp} {R:V->V->Hp->Prop} (I:Inv X pins σ H s) (h:ta σ H fun x H1=>tb σ H1 fun y H2=>R x y H2)
  {α:Type} {Q:α->Shared->Prop} {f:Value->Value->Sem α}
  (hf:∀ v u s2 x y H2,Inv X pins σ H2 s2->zi x v->zi y u->R x y H2->wpAny (model X.prog X.w) X.A (f v u) Q X.xe s2) :
  wpAny (model X.prog X.w) X.A (eval a X.env) (fun v s₁=>wpAny (model X.prog X.w) X.A (eval b X.env) (fun u s₂=>wpAny (model X.prog X.w) X.A (f v u) Q X.xe s₂) X.xe s₁) X.xe s:=by
 refine zl (ha pins s σ H _ I h) fun v s1 ⟨x,H1,I1,r1,q1⟩=>?_
 refine zl (hb pins s1 σ H1 _ I1 q1) fun u s2 ⟨y,H2,I2,r2,q2⟩=>?_
 exact hf v u s2 x y H2 I2 r1 r2 q2
noncomputable def vf (i:Nat):TE:=fun σ H Q=>∃ v,σ[i]?=some (some v)/\Q v H
noncomputable def tC (v:V):TE:=fun _ H Q=>Q v H
theorem gD {i:Nat} {x:Str} {pos:Pos} (hN:X.N[i]?=some x) (hv:tS X.env.scope x) (hd:(x == ("__debug__" : Str))=false:=by decide) (hcd:(x == ("__classdict__" : Str))=false:=by decide):PE X (.Name x pos) (vf i):=by
 intro pins s σ H Q I h
 obtain ⟨v,e,h⟩:=h
 obtain ⟨m,hn,hl⟩:=I.loc
 obtain ⟨u,r,l⟩:=hl i x v hN e hv
 have fin:EP X pins σ Q u s:=⟨v,H,I,r,h⟩
 rcases l with ⟨hk,hm⟩ | ⟨hk,c,hc,hcell⟩
 ·exact wpAny_Name (wpAny_loadName_local I.ok.kind hk hn hm fin) hd
 ·rcases hk with hk | hk
  ·exact wpAny_Name (wpAny_loadName_cell I.ok.kind hk hc hcell fin) hd
  ·exact wpAny_Name (wpAny_loadName_free I.ok.kind hk hc hcell fin hcd) hd
theorem Qr {i j pos}:PE X (.Constant (.int i) j pos) (tC (.int i)):=fun _ _ _ H _ I h=>wpAny_Constant_int ⟨.int i,H,I.tok _,⟨_,rfl⟩,h⟩
theorem Dd {b j pos}:PE X (.Constant (.bool b) j pos) (tC (.bl b)):=fun _ _ _ H _ I h=>Constant_bool ⟨.bl b,H,I,rfl,h⟩
theorem Dq {j pos}:PE X (.Constant .none j pos) (tC .non):=fun _ _ _ H _ I h=>Constant_none ⟨.non,H,I,rfl,h⟩
theorem Du {x j pos}:PE X (.Constant (.str x) j pos) (tC (.str x)):=fun _ _ _ H _ I h=>Calls.Constant_str ⟨.str x,H,I.tok _,⟨_,rfl⟩,h⟩
noncomputable def Gl (X:Cx) (x:Str):Prop:=X.env.kindOf x=some .globalImplicit
theorem WT {E:Value->Shared->Prop} {pins:List (Addr×Obj)} {s:Shared} {σ:St} {H:Hp} {x:Str} {u:Value} {pos:Pos} {Q:Value->Shared->Prop} (I:Inv X pins σ H s) (hg:Gl X x) (hm:X.mg x=some u) (h:Q u s)
  (hd:(x == ("__debug__" : Str))=false:=by decide):wpAny (model X.prog X.w) X.A (eval (.Name x pos) X.env) Q E s:=
 Calls.Name_function_global I.ok.kind hg (Calls.loadGlobal_global (by rw [I.ok.glob]; exact I.mod.glob.keeps I.bk) hm h) hd
theorem YQ {E:Value->Shared->Prop} {pins:List (Addr×Obj)} {s:Shared} {σ:St} {H:Hp} {x:Str} {u:Value} {pos:Pos} {Q:Value->Shared->Prop} (I:Inv X pins σ H s) (hg:Gl X x) (hm:X.mg x=none) (hv:bootBuiltins x=some u) (h:Q u s)
  (hn:x ≠ "__name__" := by decide) (hd:(x == ("__debug__" : Str))=false:=by decide):wpAny (model X.prog X.w) X.A (eval (.Name x pos) X.env) Q E s:=by
 obtain ⟨mb,h1,h2⟩:=I.mod.blt
 exact Calls.Name_function_global I.ok.kind hg (Calls.loadGlobal_builtin (by rw [I.ok.glob]; exact I.mod.glob.keeps I.bk) hm (by rw [I.ok.blt]; exact h1.keeps I.bk) ((h2 x hn).trans hv) h) hd
theorem Dn {x:Str} {v:V} {u:Value} {pos:Pos} (hg:Gl X x) (hm:X.mg x=some u) (r:zi v u) (hd:(x == ("__debug__" : Str))=false:=by decide):PE X (.Name x pos) (tC v):=
 fun _ _ _ H _ I h=>WT I hg hm ⟨v,H,I,r,h⟩ hd
noncomputable def GP (ta tb:TE) (k:Int->Int->Hp->Prop):St->Hp->Prop:=fun σ H=>ta σ H fun x H1=>tb σ H1 fun y H2=>∃ i j,x=.int i/\y=.int j/\k i j H2
variable {a b:Expr} {ta tb:TE} {pos:Pos}
noncomputable def PC (X:Cx) (op:CmpOp) (a b:Expr) (t:TE):Prop:=
 ∀ (pins:List (Addr×Obj)) (s:Shared) (σ:St) (H:Hp) (Q:VK),Inv X pins σ H s->t σ H Q->
  wpAny (model X.prog X.w) X.A (eval a X.env) (fun v s₁=>wpAny (model X.prog X.w) X.A (eval b X.env) (fun u s₂=>wpAny (model X.prog X.w) X.A (compareOp op v u) (EP X pins σ Q) X.xe s₂) X.xe s₁) X.xe s
noncomputable def VW (p:Int->Int->Bool) (ta tb:TE):TE:=fun σ H Q=>GP ta tb (fun i j H2=>Q (.bl (p i j)) H2) σ H
noncomputable abbrev GZ:TE->TE->TE:=VW fun i j=>decide (i<j)
noncomputable abbrev GY:TE->TE->TE:=VW fun i j=>decide (i<=j)
theorem Qq {op:CmpOp} {p:Int->Int->Bool} (ha:PE X a ta) (hb:PE X b tb)
  (rule:∀ (i j:Int) (t u:Tok) (Q:Value->Shared->Prop) (s:Shared),Q (.bool (p i j)) s->wpAny (model X.prog X.w) X.A (compareOp op (.int i t) (.int j u)) Q X.xe s):PC X op a b (VW p ta tb):=by
 intro pins s σ H Q I h
 refine OE ha hb I h fun v u s2 x y H2 I2 rx ry q=>?_
 obtain ⟨i,j,rfl,rfl,q⟩:=q
 obtain ⟨t,rfl⟩:=rx
 obtain ⟨t',rfl⟩:=ry
 exact rule i j t t' _ s2 ⟨.bl _,H2,I2,rfl,q⟩
theorem pc_lt (ha:PE X a ta) (hb:PE X b tb):PC X .Lt a b (GZ ta tb):=Qq ha hb fun _ _ _ _ _ _ h=>lt_int h
theorem pc_le (ha:PE X a ta) (hb:PE X b tb):PC X .LtE a b (GY ta tb):=Qq ha hb fun _ _ _ _ _ _ h=>le_int h
noncomputable def tB (t:TE):TT:=fun σ H Q=>t σ H fun x H1=>∃ c,x=.bl c/\Q c H1
theorem Fj {e:Expr} {t:TE} (h:PE X e t) (he:∀ whole,isTrue e X.env whole=(do let v <- whole; standAt e.pos; holding [v] (truthy v)):=by intro _; rfl):PT X e (tB t):=by
 intro pins s σ H Q I hw
 refine isTrue_plain (zl (h pins s σ H _ I hw) fun v s1 ⟨x,H1,I1,r1,q1⟩=>?_) (he _)
 obtain ⟨d,rfl,q⟩:=q1
 cases r1
 exact wpAny_truthy_bool ⟨H1,I1,q⟩
variable {tA tB':TT} {yD:List Expr}
noncomputable def GQ (t u:TT):TT:=fun σ H Q=>t σ H fun c H1=>if c=true then u σ H1 Q else Q false H1
noncomputable def Ge (t u:TT):TT:=fun σ H Q=>t σ H fun c H1=>if c=true then Q true H1 else u σ H1 Q
noncomputable def Gd (t:TT):TT:=fun σ H Q=>t σ H fun c H1=>Q (!c) H1
theorem Fq (ha:PT X a tA):PW X (.BoolOp .And [a] pos) tA:=by
 intro wh pins s σ H Q I h
 refine isTrue_and (zl (ha pins s σ H Q I h) fun c s1 e=>?_)
 cases c with
 | true=>exact isTrue_and_nil e
 | false=>exact e
theorem Ft (ha:PT X a tA):PW X (.BoolOp .Or [a] pos) tA:=by
 intro wh pins s σ H Q I h
 refine isTrue_or (zl (ha pins s σ H Q I h) fun c s1 e=>?_)
 cases c with
 | false=>exact isTrue_or_nil e
 | true=>exact e
theorem Fp (ha:PT X a tA) (hb:PW X (.BoolOp .And (b::yD) pos) tB'):PW X (.BoolOp .And (a::b::yD) pos) (GQ tA tB'):=by
 intro wh pins s σ H Q I h
 refine isTrue_and (zl (ha pins s σ H _ I h) fun c s1 ⟨H1,I1,q1⟩=>?_)
 cases c with
 | true=>exact hb wh pins s1 σ H1 Q I1 q1
 | false=>exact ⟨H1,I1,q1⟩
theorem Fr (ha:PT X a tA) (hb:PW X (.BoolOp .Or (b::yD) pos) tB'):PW X (.BoolOp .Or (a::b::yD) pos) (Ge tA tB'):=by
 intro wh pins s σ H Q I h
 refine isTrue_or (zl (ha pins s σ H _ I h) fun c s1 ⟨H1,I1,q1⟩=>?_)
 cases c with
 | true=>exact ⟨H1,I1,q1⟩
 | false=>exact hb wh pins s1 σ H1 Q I1 q1
theorem Fi (ha:PT X a tA):PT X (.UnaryOp .Not a pos) (Gd tA):=by
 intro pins s σ H Q I h
 exact isTrue_not (ha pins s σ H (fun c H1=>Q (!c) H1) I h)
noncomputable def GR (ta tb:TE):TE:=fun σ H Q=>ta σ H fun x H1=>∃ c,x=.bl c/\if c=true then tb σ H1 Q else Q (.bl false) H1
noncomputable def Gf (ta tb:TE):TE:=fun σ H Q=>ta σ H fun x H1=>∃ c,x=.bl c/\if c=true then Q (.bl true) H1 else tb σ H1 Q
theorem Dr {op} {t:TE} (h:PE X a t):PE X (.BoolOp op [a] pos) t:=fun pins s σ H Q I hw=>BoolOp_one (h pins s σ H Q I hw)
theorem Dc (ha:PE X a ta) (hb:PE X (.BoolOp .And (b::yD) pos) tb):PE X (.BoolOp .And (a::b::yD) pos) (GR ta tb):=by
 intro pins s σ H Q I h
 refine BoolOp_and (zl (ha pins s σ H _ I h) fun v s1 ⟨x,H1,I1,r1,q1⟩=>?_)
 obtain ⟨c,rfl,q1⟩:=q1
 cases r1
 refine wpAny_truthy_bool ?_
 cases c with
 | true=>exact hb pins s1 σ H1 Q I1 q1
 | false=>exact ⟨.bl false,H1,I1,rfl,q1⟩
theorem Ds (ha:PE X a ta) (hb:PE X (.BoolOp .Or (b::yD) pos) tb):PE X (.BoolOp .Or (a::b::yD) pos) (Gf ta tb):=by
 intro pins s σ H Q I h
 refine BoolOp_or (zl (ha pins s σ H _ I h) fun v s1 ⟨x,H1,I1,r1,q1⟩=>?_)
 obtain ⟨c,rfl,q1⟩:=q1
 cases r1
 refine wpAny_truthy_bool ?_
 cases c with
 | false=>exact hb pins s1 σ H1 Q I1 q1
 | true=>exact ⟨.bl true,H1,I1,rfl,q1⟩
noncomputable def GV (t:TT) (ta tb:TE):TE:=fun σ H Q=>t σ H fun c H1=>if c=true then ta σ H1 Q else tb σ H1 Q
theorem Do {c:Expr} (hc:PT X c tA) (ha:PE X a ta) (hb:PE X b tb):PE X (.IfExp c a b pos) (GV tA ta tb):=by
 intro pins s σ H Q I h
 refine wpAny_IfExp (zl (hc pins s σ H _ I h) fun d s1 ⟨H1,I1,q1⟩=>?_)
 cases d with
 | true=>exact ha pins s1 σ H1 Q I1 q1
 | false=>exact hb pins s1 σ H1 Q I1 q1
end
end L2
namespace L2
open PySem PySem.Spec PyProof.Rows
noncomputable def zy (K:PySem.W.Frag) (H:Hp) (a:Addr) (xs:List V):Prop:=
 Rd H a (.lst xs) \/
  ∃ (o:Obj) (its:Array Value) (n:Nat),K.lookup a=some o/\o.cls=.type "list" /\ o.dict=none/\o.data=.seq its n/\its.size<=sizeLine/\zb xs its.toList
noncomputable def yU (K:PySem.W.Frag) (H:Hp) (a:Addr) (xs:List V):Prop:=
 Rd H a (.tup xs) \/
  ∃ (o:Obj) (its:Array Value) (n:Nat),K.lookup a=some o/\o.cls=.type "tuple" /\ o.data=.seq its n/\its.size<=sizeLine/\zb xs its.toList
noncomputable def I_:Value->Option V
 | .none=>some .non
 | .bool b=>some (.bl b)
 | .int i _=>some (.int i)
 | .str x _=>some (.str x)
 | .bytes b _=>some (.byt b)
 | .float b _=>some (.flt b)
 | .ref a=>some (.ref a)
 | .type n=>some (.ty n)
 | _=>none
theorem zi.abs {x:V} {u:Value} (r:zi x u):I_ u=some x:=by
 cases x with
 | non=>cases r; rfl
 | bl _=>cases r; rfl
 | int _=>obtain ⟨t,rfl⟩:=r; rfl
 | str _=>obtain ⟨t,rfl⟩:=r; rfl
 | byt _=>obtain ⟨t,rfl⟩:=r; rfl
 | flt _=>obtain ⟨t,rfl⟩:=r; rfl
 | ref _=>cases r; rfl
 | ty _=>cases r; rfl
theorem zi.inj {x y:V} {u:Value} (r:zi x u) (q:zi y u):x=y:=Option.some.inj (r.abs.symm.trans q.abs)
theorem zb.inj:∀ {xs ys:List V} {us:List Value},zb xs us->zb ys us->xs=ys
 | _,_,_,.nil,.nil=>rfl
 | _,_,_,.cons r t,.cons r' t'=>by rw [r.inj r',zb.inj t t']
section
variable {X:Cx} {pins:List (Addr×Obj)} {σ:St} {H:Hp} {s:Shared} {a:Addr} {xs ys:List V}
theorem zy.of {K:PySem.W.Frag} (h:H a=some (.lst xs)):zy K H a xs:=.inl (.inl h)
theorem yU.of {K:PySem.W.Frag} (h:H a=some (.tup xs)):yU K H a xs:=.inl (.inl h)
theorem Inv.list (I:Inv X pins σ H s) (h:zy X.K H a xs):∃ its:List Value,zb xs its/\PlainL s.heap a its.toArray/\xs.length<=sizeLine:=by
 rcases h with h | ⟨o,its,n,hk,hc,hd,hs,hz,r⟩
 ·obtain ⟨z,its,n,r,e⟩:=h.ok I.hok
  exact ⟨its,r,⟨_,n,e,rfl,rfl,rfl⟩,z⟩
 ·refine ⟨its.toList,r,⟨o,n,I.kIn a o hk,hc,hd,by simpa using hs⟩,?_⟩
  have e:=r.length
  simp only [Array.length_toList] at e
  omega
theorem Inv.tuple (I:Inv X pins σ H s) (h:yU X.K H a xs):∃ its:List Value,zb xs its/\IsTup s.heap a its.toArray/\xs.length<=sizeLine:=by
 rcases h with h | ⟨o,its,n,hk,hc,hs,hz,r⟩
 ·obtain ⟨z,its,r,p⟩:=h.ok I.hok
  exact ⟨its,r,p,z⟩
 ·refine ⟨its.toList,r,⟨o,I.kIn a o hk,hc,n,by simpa using hs⟩,?_⟩
  have e:=r.length
  simp only [Array.length_toList] at e
  omega
theorem Inv.list_inj (I:Inv X pins σ H s) (h:zy X.K H a xs) (h':zy X.K H a ys):xs=ys:=by
 obtain ⟨its,r,⟨o,n,e,_,_,d⟩,_⟩:=I.list h
 obtain ⟨its',r',⟨o',n',e',_,_,d'⟩,_⟩:=I.list h'
 rw [e] at e'; cases e'
 rw [d] at d'
 injection d' with d1 _
 have:its=its':=by simpa using congrArg Array.toList d1
 subst this
 exact r.inj r'
theorem Inv.tuple_inj (I:Inv X pins σ H s) (h:yU X.K H a xs) (h':yU X.K H a ys):xs=ys:=by
 obtain ⟨its,r,⟨o,e,_,n,d⟩,_⟩:=I.tuple h
 obtain ⟨its',r',⟨o',e',_,n',d'⟩,_⟩:=I.tuple h'
 rw [e] at e'; cases e'
 rw [d] at d'
 injection d' with d1 _
 have:its=its':=by simpa using congrArg Array.toList d1
 subst this
 exact r.inj r'
end
noncomputable abbrev Cx.wish (X:Cx) (E:Value->Shared->Prop):Cx:={ X with xe:=E }
noncomputable abbrev Cx.nox (X:Cx):Cx:=X.wish fun _ _=>False
theorem Cx.Ok.wish {X:Cx} (ok:X.Ok) (E:Value->Shared->Prop):(X.wish E).Ok:=
 ⟨ok.mod,ok.kind,ok.glob,ok.blt,ok.above,ok.inj,ok.has,ok.cab,ok.hd,ok.frames,ok.stk,ok.exf,ok.bs,ok.bsz,ok.noex,ok.exfs,ok.funs,ok.frf⟩
theorem Cx.Ok.unwish {X:Cx} {E:Value->Shared->Prop} (ok:(X.wish E).Ok):X.Ok:=
 ⟨ok.mod,ok.kind,ok.glob,ok.blt,ok.above,ok.inj,ok.has,ok.cab,ok.hd,ok.frames,ok.stk,ok.exf,ok.bs,ok.bsz,ok.noex,ok.exfs,ok.funs,ok.frf⟩
section
variable {X:Cx} {pins:List (Addr×Obj)} {σ:St} {H:Hp} {s:Shared} {E:Value->Shared->Prop}
theorem Inv.wish (I:Inv X pins σ H s) (E:Value->Shared->Prop):Inv (X.wish E) pins σ H s:=⟨I.ok.wish E,I.os,I.bare,I.base,I.loc,I.cell,I.free,I.freeC,I.pin,I.hok,I.len⟩
theorem Inv.unwish (I:Inv (X.wish E) pins σ H s):Inv X pins σ H s:=⟨I.ok.unwish,I.os,I.bare,I.base,I.loc,I.cell,I.free,I.freeC,I.pin,I.hok,I.len⟩
theorem SP.unwish {D:wV} {f:Flow} {s':Shared} (h:SP (X.wish E) pins D f s'):SP X pins D f s':=by
 cases f with
 | next=>obtain ⟨σ',H',I,q⟩:=h; exact ⟨σ',H',I.unwish,q⟩
 | brk=>obtain ⟨σ',H',I,q⟩:=h; exact ⟨σ',H',I.unwish,q⟩
 | cont=>obtain ⟨σ',H',I,q⟩:=h; exact ⟨σ',H',I.unwish,q⟩
 | ret u=>obtain ⟨v,σ',H',I,r,q⟩:=h; exact ⟨v,σ',H',I.unwish,r,q⟩
theorem wD.nox {st:List Stmt} {t:TS} (h:wD X.nox st t):wD X st t:=fun pins s σ H D I hw=>
 wpAny_mono (h pins s σ H D (I.wish _) hw) (fun _ _ q=>q.unwish) fun _ _ z=>False.elim z
end
section
variable {X:Cx} {st:Stmt} {yD:List Stmt} {t u:TS} {e:Expr} {te:TE} {pos:Pos}
noncomputable def Gb:TS:=fun D σ H=>D.nx σ H
noncomputable def Gi (t u:TS):TS:=fun D σ H=>t { D with nx:=u D } σ H
theorem J5:wD X [] Gb:=fun _ _ σ H _ I h=>wpAny_execs_nil ⟨σ,H,I,h⟩
theorem Yn (h1:PS X st t) (h2:wD X yD u):wD X (st::yD) (Gi t u):=by
 intro pins s σ H D I h
 refine wpAny_execs_cons (zl (h1 pins s σ H { D with nx:=u D } I h) fun f s1 q=>?_)
 cases f with
 | next=>
  obtain ⟨σ',H',I',q⟩:=q
  exact h2 pins s1 σ' H' D I' q
 | ret v=>exact q
 | brk=>exact q
 | cont=>exact q
theorem J6 (h1:PS X st t):wD X [st] t:=by
 intro pins s σ H D I h
 refine wpAny_execs_cons (zl (h1 pins s σ H D I h) fun f s1 q=>?_)
 cases f with
 | next=>exact wpAny_execs_nil q
 | ret v=>exact q
 | brk=>exact q
 | cont=>exact q
theorem Inv.quiet {pins:List (Addr×Obj)} {σ:St} {H:Hp} {s:Shared} (I:Inv X pins σ H s):interactive X.env=false:=by simp [interactive,I.ok.kind]
noncomputable def IN (te:TE):TS:=fun D σ H=>te σ H fun _ H1=>D.nx σ H1
theorem Ff (he:PE X e te) (hs:swapsWith e none pos.line X.env=pure false:=by rfl):PS X (.Expr e pos) (IN te):=by
 intro pins s σ H D I h
 exact wpAny_Expr_any (zl (he pins s σ H _ I h) fun v s1 ⟨x,H1,I1,r1,q1⟩=>⟨σ,H1,I1,q1⟩) I.quiet hs
noncomputable def Gh (te:TE):TS:=fun D σ H=>te σ H D.rt
theorem Ym (he:PE X e te):PS X (.Return (some e) pos) (Gh te):=by
 intro pins s σ H D I h
 exact wpAny_Return_some (zl (he pins s σ H _ I h) fun v s1 ⟨x,H1,I1,r1,q1⟩=>⟨x,σ,H1,I1,r1,q1⟩)
noncomputable def GW (c:TT) (t u:TS):TS:=fun D σ H=>c σ H fun b H1=>if b=true then t D σ H1 else u D σ H1
theorem J2 {c:Expr} {a b:List Stmt} {tc:TT} (hc:PT X c tc) (ha:wD X a t) (hb:wD X b u):PS X (.If c a b pos) (GW tc t u):=by
 intro pins s σ H D I h
 refine wpAny_If (zl (hc pins s σ H _ I h) fun d s1 ⟨H1,I1,q1⟩=>?_)
 cases d with
 | true=>exact ha pins s1 σ H1 D I1 q1
 | false=>exact hb pins s1 σ H1 D I1 q1
end
noncomputable abbrev TG:=V->St->Hp->(St->Hp->Prop)->Prop
noncomputable abbrev uH:=List V->St->Hp->(St->Hp->Prop)->Prop
noncomputable def PG (X:Cx) (target:Expr) (t:TG):Prop:=
 ∀ (pins:List (Addr×Obj)) (s:Shared) (σ:St) (H:Hp) (v:V) (u:Value) (Q:St->Hp->Prop),Inv X pins σ H s->zi v u->t v σ H Q->
  wpAny (model X.prog X.w) X.A (assign target X.env u) (fun _ s'=>∃ σ' H',Inv X pins σ' H' s'/\Q σ' H') X.xe s
noncomputable def jU (X:Cx) (ts:List Expr) (t:uH):Prop:=
 ∀ (pins:List (Addr×Obj)) (s:Shared) (σ:St) (H:Hp) (vs:List V) (us:List Value) (Q:St->Hp->Prop),Inv X pins σ H s->zb vs us->t vs σ H Q->
  wpAny (model X.prog X.w) X.A (assignInOrder ((assignEach ts X.env).map (·.2)) us) (fun _ s'=>∃ σ' H',Inv X pins σ' H' s'/\Q σ' H') X.xe s
noncomputable abbrev ZG:=V->V->V->Hp->(Hp->Prop)->Prop
noncomputable def XU (X:Cx) (t:ZG):Prop:=
 ∀ (pins:List (Addr×Obj)) (s:Shared) (σ:St) (H:Hp) (o i v:V) (ov iv u:Value) (Q:Hp->Prop),Inv X pins σ H s->zi o ov->zi i iv->zi v u->t o i v H Q->
  wpAny (model X.prog X.w) X.A (setItem ov iv u) (fun _ s'=>∃ H',Inv X pins σ H' s'/\Q H') X.xe s
noncomputable abbrev jY:=V->V->Hp->VK->Prop
noncomputable def XT (X:Cx) (op:Operator) (t:jY):Prop:=
 ∀ (pins:List (Addr×Obj)) (s:Shared) (σ:St) (H:Hp) (x y:V) (v u:Value) (Q:VK),Inv X pins σ H s->zi x v->zi y u->t x y H Q->
  wpAny (model X.prog X.w) X.A (inplaceOp op v u) (EP X pins σ Q) X.xe s
section
variable {X:Cx} {pos:Pos}
noncomputable def xz (i:Nat):TG:=fun v σ H Q=>Q (σ.set i (some v)) H
theorem Dx {i:Nat} {x:Str} (hN:X.N.Nodup) (hi:X.N[i]?=some x) (hx:wM X.env.scope x) (hf:X.fn x=true\/X.env.scope.names.lookup x=some .local:=by first | exact .inl rfl | exact .inr rfl | assumption):PG X (.Name x pos) (xz i):=by
 intro pins s σ H v u Q I r h
 exact wpAny_assign_Name (VT I hN hi hx r (fun s' I'=>⟨_,H,I',h⟩) hf)
noncomputable def pZ:uH:=fun vs σ H Q=>vs=[]/\Q σ H
noncomputable def uN (t:TG) (u:uH):uH:=fun vs σ H Q=>∃ v r,vs=v::r/\t v σ H fun σ' H'=>u r σ' H' Q
theorem FB:jU X [] pZ:=by
 intro pins s σ H vs us Q I r h
 obtain ⟨e,h⟩:=h
 subst e
 cases r
 exact assignInOrder_nil ⟨σ,H,I,h⟩
theorem D_ {e:Expr} {es:List Expr} {t:TG} {u:uH} (h1:PG X e t) (h2:jU X es u)
  (hs:(assignEach (e::es) X.env).map (·.2)=assign e X.env::(assignEach es X.env).map (·.2):=by rfl):jU X (e::es) (uN t u):=by
 intro pins s σ H vs us Q I r h
 obtain ⟨v,vr,e1,h⟩:=h
 subst e1
 cases r with
 | cons r rr=>
  rw [hs]
  refine assignInOrder_cons (zl (h1 pins s σ H _ _ _ I r h) fun _ s1 ⟨σ1,H1,I1,q1⟩=>?_)
  exact h2 pins s1 σ1 H1 _ _ Q I1 rr q1
noncomputable def pd (K:PySem.W.Frag) (n:Nat) (t:uH):TG:=fun v σ H Q=>∃ a xs,v=.ref a/\yU K H a xs/\xs.length=n/\t xs σ H Q
theorem Dz {es:List Expr} {k:Nat} {t:uH} {n:Nat} (hc:X.calm=true) (h:jU X es t)
  (hn:(assignEach es X.env).length=n:=by rfl) (hst:(assignEach es X.env).findIdx? (·.1)=none:=by rfl):PG X (.Tuple es k pos) (pd X.K n t):=by
 intro pins s σ H v u Q I r hw
 obtain ⟨a,xs,e1,hq,hl,hw⟩:=hw
 subst e1
 cases r
 obtain ⟨its,rv,ht,hz⟩:=I.tuple hq
 refine assign_Tuple_tuple (I.ok.hd hc) ht (by simp [hn,<- hl,rv.length]) hst fun h' hx=>?_
 have I1:Inv X pins σ H { s with heap:=h' }:=I.kept (t':=s.toks) fun b o e=>hx b o (Nat.ne_of_lt (Heap.lt_size e)) e
 exact h pins _ σ H xs _ Q I1 (by simpa using rv) hw
noncomputable def U_ (to ti:TE) (t:ZG):TG:=fun v σ H Q=>to σ H fun o H1=>ti σ H1 fun i H2=>t o i v H2 fun H3=>Q σ H3
theorem Dy {o i:Expr} {to ti:TE} {t:ZG} (ho:PE X o to) (hi:PE X i ti) (hs:XU X t)
  (ha:∀ v,assign (.Subscript o i pos) X.env v=(do
   let ov <- holding [v] (eval o X.env)
   let iv <- holding [v,ov] (eval i X.env)
   standAt pos
   holding [v,ov,iv] (setItem ov iv v)
   release [v,ov,iv] []):=by intro _; rfl):PG X (.Subscript o i pos) (U_ to ti t):=by
 intro pins s σ H v u Q I r h
 rw [ha]
 refine wpAny_bind (wpAny_holding (zl (ho pins s σ H _ I h) fun ov s1 ⟨x,H1,I1,r1,q1⟩=>?_))
 refine wpAny_bind (wpAny_holding (zl (hi pins s1 σ H1 _ I1 q1) fun iv s2 ⟨y,H2,I2,r2,q2⟩=>?_))
 refine wpAny_bind (wpAny_standAt (wpAny_bind (wpAny_holding (zl (hs pins s2 σ H2 x y v ov iv u _ I2 r1 r2 r q2) fun _ s3 ⟨H3,I3,q3⟩=>?_))))
 exact wpAny_release ⟨σ,H3,I3,q3⟩
noncomputable def X1 (te:TE) (g:TG):TS:=fun D σ H=>te σ H fun x H1=>g x σ H1 D.nx
theorem Fc {tg e:Expr} {te:TE} {g:TG} (he:PE X e te) (hg:PG X tg g) (hs:swapsWithSole [tg] e pos.line X.env=pure false:=by rfl) (hw:swappedStores [tg] e X.env=pure none:=by rfl)
  (h1:(assignEach [tg] X.env).map (·.2)=[assign tg X.env]:=by rfl):PS X (.Assign [tg] e pos) (X1 te g):=by
 intro pins s σ H D I h
 refine wpAny_Assign_stores (zl (he pins s σ H _ I h) fun v s1 ⟨x,H1,I1,r1,q1⟩=>?_) hs hw
 rw [h1]
 exact zl (hg pins s1 σ H1 x v _ I1 r1 q1) fun _ s2 q=>q
theorem J3 {i:Nat} {x:Str} {e:Expr} {te:TE} {pos':Pos} (hN:X.N.Nodup) (hi:X.N[i]?=some x) (hx:wM X.env.scope x) (he:PE X e te) (hs:swapsWith e (some (.Name x pos')) pos.line X.env=pure false:=by rfl) (hf:X.fn x=true\/X.env.scope.names.lookup x=some .local:=by first | exact .inl rfl | exact .inr rfl | assumption) :
  PS X (.Assign [.Name x pos'] e pos) (X1 te (xz i)):=by
 intro pins s σ H D I h
 refine wpAny_Assign_Name (zl (he pins s σ H _ I h) fun v s1 ⟨y,H1,I1,r1,q1⟩=>?_) hs
 exact VT I1 hN hi hx r1 (fun s2 I2=>⟨_,H1,I2,q1⟩) hf
noncomputable def GS (i:Nat) (te:TE) (ti:jY):TS:=fun D σ H=>∃ x,σ[i]?=some (some x)/\te σ H fun y H1=>ti x y H1 fun z H2=>D.nx (σ.set i (some z)) H2
theorem Fd {i:Nat} {x:Str} {e:Expr} {te:TE} {op:Operator} {ti:jY} {pos':Pos} (hN:X.N.Nodup) (hi:X.N[i]?=some x) (hx:wM X.env.scope x) (he:PE X e te) (ho:XT X op ti) (hf:X.fn x=true\/X.env.scope.names.lookup x=some .local:=by first | exact .inl rfl | exact .inr rfl | assumption) :
  PS X (.AugAssign (.Name x pos') op e pos) (GS i te ti):=by
 intro pins s σ H D I h
 obtain ⟨v,e1,h⟩:=h
 obtain ⟨m,hn,hl⟩:=I.loc
 have vis:tS X.env.scope x:=by rcases hx with k | k; exact .inl k; exact .inr (.inl k)
 obtain ⟨u,r,l⟩:=hl i x v hi e1 vis
 refine wpAny_AugAssign_Name ?_
 have go:wpAny (model X.prog X.w) X.A (eval e X.env) (fun w s₂=>wpAny (model X.prog X.w) X.A (inplaceOp op u w) (fun r s₃=>wpAny (model X.prog X.w) X.A (storeName X.env x r) (fun _=>SP X pins D .next) X.xe s₃) X.xe s₂) X.xe s:=by
  refine zl (he pins s σ H _ I h) fun w s1 ⟨y,H1,I1,r1,q1⟩=>?_
  refine zl (ho pins s1 σ H1 v y u w _ I1 r r1 q1) fun z s2 ⟨zv,H2,I2,r2,q2⟩=>?_
  exact VT I2 hN hi hx r2 (fun s3 I3=>⟨_,H2,I3,q2⟩) hf
 rcases l with ⟨hk,hm⟩ | ⟨hk,c,hc,hcell⟩
 ·exact wpAny_loadName_local I.ok.kind hk hn hm go
 ·rcases hk with hk | hk
  ·exact wpAny_loadName_cell I.ok.kind hk hc hcell go
  ·rcases hx with k | k
   ·have:X.env.scope.names.lookup x=some .free:=hk
    rw [k] at this; cases this
   ·have:X.env.scope.names.lookup x=some .free:=hk
    rw [k] at this; cases this
noncomputable def TV (f:Int->Int->Int):jY:=fun x y H Q=>∃ i j,x=.int i/\y=.int j/\Q (.int (f i j)) H
theorem TW:XT X .Add (TV fun i j=>i+j):=by
 intro pins s σ H x y v u Q I r1 r2 h
 obtain ⟨i,j,e1,e2,q⟩:=h
 subst e1; subst e2
 obtain ⟨t,rfl⟩:=r1
 obtain ⟨t',rfl⟩:=r2
 exact iadd_int ⟨.int _,H,I.tok _,⟨_,rfl⟩,q⟩
end
section
variable {X:Cx} {pos:Pos}
noncomputable def Gp (c:TT) (tb:TS):TS:=fun D σ H=>∃ W:Nat->St->Hp->Prop,(∃ m,W m σ H)/\∀ m σ H,W m σ H->
 c σ H fun b H1=>if b=true then ∃ N:St->Hp->Prop,(∀ σ' H',N σ' H'->∃ m',m'<m/\W m' σ' H')/\tb { D with nx:=N,ct:=N,bk:=D.nx } σ H1 else D.nx σ H1
theorem Fg {c:Expr} {body:List Stmt} {tc:TT} {tb:TS} (hp:PassesOwn (model X.prog X.w) X.A X.env X.xe) (hc:PT X c tc) (hb:wD X body tb):PS X (.While c body [] pos) (Gp tc tb):=by
 intro pins s σ H D I h
 obtain ⟨W,⟨m0,w0⟩,turn⟩:=h
 refine wpAny_While (codeAny_whileLoop (fun n s'=>∃ σ' H',Inv X pins σ' H' s'/\W n σ' H') ?_ m0 ⟨σ,H,I,w0⟩)
 rintro n s1 ⟨σ1,H1,I1,w1⟩
 refine wpAny_passesOwn hp (zl (hc pins s1 σ1 H1 _ I1 (turn n σ1 H1 w1)) fun b s2 ⟨H2,I2,q2⟩=>?_)
 cases b with
 | true=>
  obtain ⟨N,hN,q2⟩:=q2
  rw [if_pos rfl]
  refine wpAny_passesOwn hp (zl (hb pins s2 σ1 H2 _ I2 q2) fun f s3 q3=>?_)
  cases f with
  | next=>
   obtain ⟨σ3,H3,I3,n3⟩:=q3
   obtain ⟨m',hm,w3⟩:=hN σ3 H3 n3
   exact ⟨m',hm,σ3,H3,I3,w3⟩
  | cont=>
   obtain ⟨σ3,H3,I3,n3⟩:=q3
   obtain ⟨m',hm,w3⟩:=hN σ3 H3 n3
   exact ⟨m',hm,σ3,H3,I3,w3⟩
  | brk=>exact q3
  | ret v=>exact q3
 | false=>
  rw [if_neg Bool.false_ne_true]
  exact wpAny_execs_nil ⟨σ1,H2,I2,q2⟩
end
structure It where
 go:Nat->Hp->Prop
 yld:Nat->Hp->V->Hp->Prop
 stop:Nat->Hp->Prop
noncomputable def vT (X:Cx) (pins:List (Addr×Obj)) (H:Hp) (b:Addr):Prop:=
 H b=none/\b≠X.env.locals/\b ∉ X.fs/\(b∈X.ex\/X.s₀.heap.objs.size<=b)/\(∀ x c,X.env.cells.lookup x=some c->c≠b)/\∀ p∈X.pn++pins,p.1≠b
theorem Inv.fpOk {X:Cx} {pins:List (Addr×Obj)} {σ:St} {H H':Hp} {s:Shared} {b:Addr} (I:Inv X pins σ H s) (hb:s.heap.objs.size<=b) (hn:H' b=none):vT X pins H' b:=by
 refine ⟨hn,Nat.ne_of_gt (Nat.lt_of_lt_of_le I.lt hb),I.nofs hb,.inr (Nat.le_trans I.sz hb),fun x c e z=>?_,fun p hp z=>?_⟩
 ·obtain ⟨v,q⟩:=I.cell x c e
  exact absurd (Nat.lt_of_lt_of_le q.lt (by rw [z]; exact hb)) (Nat.lt_irrefl _)
 ·exact absurd (Nat.lt_of_lt_of_le (Heap.lt_size (I.pin p hp).1) (by rw [z]; exact hb)) (Nat.lt_irrefl _)
structure qO (P:Program) (w:World) (K:PySem.W.Frag) (tg:Expr) (J:It) (fp:List Addr) (it:Addr) (tn:Nat->Heap->Prop):Prop where
 mem:it∈fp
 obj:∀ i h,tn i h->∀ b∈fp,∃ o,h.get? b=some o/\∀ v,o.data≠.cell v
 keep:∀ i h h',tn i h->(∀ b∈fp,∀ o,h.get? b=some o->h'.get? b=some o)->tn i h'
 item:∀ (X:Cx),X.prog=P->X.w=w->X.K=K->X.calm=true->∀ (i:Nat) (pins:List (Addr×Obj)) (s:Shared) (σ:St) (H:Hp) (E:Value->Shared->Prop),Inv X pins σ H s->(∀ b∈fp,vT X pins H b)->tn i s.heap->J.go i H->
  wpAny (model P w) X.A (pyNext (.ref it)) (fun r s1=>∃ u,r=some u/\
   wpAny (model P w) X.A (letOwnedTupleGo tg (.ref it) u) (fun _ s2=>∃ x H',Inv X pins σ H' s2/\zi x u/\J.yld i H x H'/\tn (i+1) s2.heap/\∀ b∈fp,H' b=none) E s1) E s
 done:∀ (X:Cx),X.prog=P->X.w=w->X.K=K->X.calm=true->∀ (i:Nat) (pins:List (Addr×Obj)) (s:Shared) (σ:St) (H:Hp) (E:Value->Shared->Prop),Inv X pins σ H s->(∀ b∈fp,vT X pins H b)->tn i s.heap->J.stop i H->
  wpAny (model P w) X.A (pyNext (.ref it)) (fun r s1=>r=none/\Inv X pins σ H s1) E s
 self:∀ (A:Around) (i:Nat) (s:Shared) (Q:Value->Shared->Prop) (E:Value->Shared->Prop),tn i s.heap->Q (.ref it) s->wpAny (model P w) A (pyIter (.ref it)) Q E s
noncomputable abbrev TI:=St->Hp->(It->Hp->Prop)->Prop
noncomputable def XS (X:Cx) (pins:List (Addr×Obj)) (σ:St) (tg:Expr) (R:It->Hp->Prop) (itv:Value) (s2:Shared):Prop:=
 ∃ (it:Addr) (fp:List Addr) (tn:Nat->Heap->Prop) (J:It) (H':Hp),itv=.ref it/\Inv X pins σ H' s2/\qO X.prog X.w X.K tg J fp it tn/\tn 0 s2.heap/\(∀ b∈fp,vT X pins H' b)/\R J H'
noncomputable def PI (X:Cx) (tg iter:Expr) (wi:TI):Prop:=
 ∀ (pins:List (Addr×Obj)) (s:Shared) (σ:St) (H:Hp) (R:It->Hp->Prop),Inv X pins σ H s->wi σ H R->
  wpAny (model X.prog X.w) X.A (eval iter X.env) (fun v s1=>wpAny (model X.prog X.w) X.A (pyIter v) (XS X pins σ tg R) X.xe s1) X.xe s
theorem Y6 {M:Model} {A:Around} {E:Value->Shared->Prop} {s:Shared} {tg:Expr} {it:Addr} {u:Value} {o:Obj} {n:String} {vs:Array Value} {Q:Unit->Shared->Prop} (ho:s.heap.get? it=some o) (hc:o.cls=.type n) (hd:o.data=.fields vs)
    (hn:["enumerate", "zip", "dict_itemiterator", "dict_reverseitemiterator", "odict_iterator", "itertools.zip_longest", "itertools.pairwise"].contains n=false) (hQ:Q () s):wpAny M A (letOwnedTupleGo tg (.ref it) u) Q E s:=by
  unfold letOwnedTupleGo
  cases tg<;>first
    | exact wpAny_pure hQ
    | (cases u<;>first
        | exact wpAny_pure hQ
        | (refine wpAny_bind (wpAny_load ho ?_)
           rw [hc,hd]
           show wpAny M A (if (["enumerate", "zip", "dict_itemiterator", "dict_reverseitemiterator", "odict_iterator", "itertools.zip_longest", "itertools.pairwise"].contains n&&vs[0]? == some (rawInt _))=true then _ else _) Q E s
           rw [if_neg (by intro h; rw [hn,Bool.false_and] at h; cases h)]
           exact wpAny_pure hQ))
noncomputable def XN (K:PySem.W.Frag) (a:Addr):It:=
 ⟨fun i H=>∃ xs x,zy K H a xs/\xs[i]?=some x,fun i H x H'=>H'=H/\∀ xs,zy K H a xs->xs[i]?=some x,fun i H=>∃ xs,zy K H a xs/\xs.length<=i⟩
noncomputable def XO (K:PySem.W.Frag) (a:Addr):It:=
 ⟨fun i H=>∃ xs x,yU K H a xs/\xs[i]?=some x,fun i H x H'=>H'=H/\∀ xs,yU K H a xs->xs[i]?=some x,fun i H=>∃ xs,yU K H a xs/\xs.length<=i⟩
noncomputable def ZA (lo:Int) (n:Nat):It:=⟨fun i _=>i<n,fun i H x H'=>H'=H/\x=.int (lo+i),fun i _=>n<=i⟩
theorem Gy {P:Program} {w:World} {K:PySem.W.Frag} {tg:Expr} (a it:Addr):qO P w K tg (XN K a) [it] it (fun i h=>h.IsListIter it a i) where
 mem:=by simp
 obj:=fun i h st b hb=>by
  have e:b=it:=by simpa using hb
  subst e
  obtain ⟨o,e,c,d⟩:=st
  exact ⟨o,e,fun v z=>by rw [d] at z; cases z⟩
 keep:=fun i h h' st k=>st.at fun o e=>k it (by simp) o e
 item:=by
  intro X hP hw hK hc i pins s σ H E I hf st hg
  subst hP hw hK
  obtain ⟨xs,x,hq,hx⟩:=hg
  obtain ⟨its,rv,p,hz⟩:=I.list hq
  obtain ⟨u,hu,ru⟩:=rv.get hx
  obtain ⟨f0,f1,f2,f3,f4,f5⟩:=hf it (by simp)
  refine wpAny_pyNext_list_item st p.isList (x:=u) (by simpa using hu) fun h' st' sb=>?_
  have I1:Inv X pins σ H { s with heap:=h' }:=I.turned (t':=s.toks) (fun b o hb e=>(sb.2 b hb).trans e) f0 f1 f3 f4 f5
  obtain ⟨o,e,c,d⟩:=id st'
  exact ⟨u,rfl,Y6 (s:={ s with heap:=h' }) e c d (by decide) ⟨x,H,I1,ru,⟨rfl,fun ys hy=>by rw [I.list_inj hy hq]; exact hx⟩,st',fun b hb=>(hf b hb).1⟩⟩
 done:=by
  intro X hP hw hK hc i pins s σ H E I hf st hg
  subst hP hw hK
  obtain ⟨xs,hq,hx⟩:=hg
  obtain ⟨its,rv,p,hz⟩:=I.list hq
  obtain ⟨f0,f1,f2,f3,f4,f5⟩:=hf it (by simp)
  have hl:=rv.length
  exact wpAny_pyNext_list_end (I.ok.hd hc) st p.isList (by simp; omega) fun h' eb=>⟨rfl,I.turned (t':=s.toks) (fun b o hb e=>eb b o hb e) f0 f1 f3 f4 f5⟩
 self:=fun _ _ _ _ _ st h=>wpAny_pyIter_listiter st h
theorem HA {P:Program} {w:World} {K:PySem.W.Frag} {tg:Expr} (a it:Addr):qO P w K tg (XO K a) [it] it (fun i h=>h.IsTupleIter it a i) where
 mem:=by simp
 obj:=fun i h st b hb=>by
  have e:b=it:=by simpa using hb
  subst e
  obtain ⟨o,e,c,d⟩:=st
  exact ⟨o,e,fun v z=>by rw [d] at z; cases z⟩
 keep:=fun i h h' st k=>st.at fun o e=>k it (by simp) o e
 item:=by
  intro X hP hw hK hc i pins s σ H E I hf st hg
  subst hP hw hK
  obtain ⟨xs,x,hq,hx⟩:=hg
  obtain ⟨its,rv,p,hz⟩:=I.tuple hq
  obtain ⟨u,hu,ru⟩:=rv.get hx
  obtain ⟨f0,f1,f2,f3,f4,f5⟩:=hf it (by simp)
  refine wpAny_pyNext_tuple_item st (show s.heap.IsTuple a its.toArray from p) (x:=u) (by simpa using hu) fun h' st' sb=>?_
  have I1:Inv X pins σ H { s with heap:=h' }:=I.turned (t':=s.toks) (fun b o hb e=>(sb.2 b hb).trans e) f0 f1 f3 f4 f5
  obtain ⟨o,e,c,d⟩:=id st'
  exact ⟨u,rfl,Y6 (s:={ s with heap:=h' }) e c d (by decide) ⟨x,H,I1,ru,⟨rfl,fun ys hy=>by rw [I.tuple_inj hy hq]; exact hx⟩,st',fun b hb=>(hf b hb).1⟩⟩
 done:=by
  intro X hP hw hK hc i pins s σ H E I hf st hg
  subst hP hw hK
  obtain ⟨xs,hq,hx⟩:=hg
  obtain ⟨its,rv,p,hz⟩:=I.tuple hq
  obtain ⟨f0,f1,f2,f3,f4,f5⟩:=hf it (by simp)
  have hl:=rv.length
  exact wpAny_pyNext_tuple_end (I.ok.hd hc) st (show s.heap.IsTuple a its.toArray from p) (by simp; omega) fun h' eb=>⟨rfl,I.turned (t':=s.toks) (fun b o hb e=>eb b o hb e) f0 f1 f3 f4 f5⟩
 self:=fun _ _ _ _ _ st h=>wpAny_pyIter_tupleiter st h
theorem Gz {P:Program} {w:World} {K:PySem.W.Frag} {tg:Expr} (it:Addr) (lo:Int) (n:Nat):qO P w K tg (ZA lo n) [it] it (fun i h=>IsRangeIter h it (lo+(i:Nat)*1) ((n:Int) - (i:Nat)) 1) where
 mem:=by simp
 obj:=fun i h st b hb=>by
  have e:b=it:=by simpa using hb
  subst e
  exact ⟨_,st,fun v z=>by
   have z':Data.fields _=Data.cell v:=z
   cases z'⟩
 keep:=fun i h h' st k=>k it (by simp) _ st
 item:=by
  intro X hP hw hK hc i pins s σ H E I hf st hg
  subst hP hw hK
  obtain ⟨f0,f1,f2,f3,f4,f5⟩:=hf it (by simp)
  have W:=Walks.range (prog:=X.prog) (w:=X.w) (I.ok.hd hc) it lo 1 n
  refine W.item i s _ _ hg st fun v h' tk hv st' kk=>?_
  obtain ⟨t,rfl⟩:=hv
  have I1:Inv X pins σ H { s with heap:=h',toks:=tk }:=I.turned (fun b o hb e=>kk b o (by simpa using hb) e) f0 f1 f3 f4 f5
  refine ⟨_,rfl,Y6 (s:={ s with heap:=h',toks:=tk }) (n := "range_iterator") st' rfl rfl (by decide) ⟨.int (lo+i),H,I1,⟨t,?_⟩,⟨rfl,rfl⟩,st',fun b hb=>(hf b hb).1⟩⟩
  rw [Int.mul_one]
 done:=by
  intro X hP hw hK hc i pins s σ H E I hf st hg
  subst hP hw hK
  obtain ⟨f0,f1,f2,f3,f4,f5⟩:=hf it (by simp)
  exact wpAny_pyNext_range_end (I.ok.hd hc) st (by have:n<=i:=hg; omega) fun h' eb=>⟨rfl,I.turned (t':=s.toks) (fun b o hb e=>eb b o hb e) f0 f1 f3 f4 f5⟩
 self:=fun _ _ _ _ _ st h=>wpAny_pyIter_rangeiter st h
end L2
namespace L2
open PySem PySem.Spec PyProof.Rows
section
variable {X:Cx} {tg:Expr}
noncomputable def M1 (K:PySem.W.Frag) (tl:TE):TI:=fun σ H R=>tl σ H fun x H1=>∃ a,x=.ref a/\(∃ xs,zy K H1 a xs)/\R (XN K a) H1
noncomputable def M4 (K:PySem.W.Frag) (tl:TE):TI:=fun σ H R=>tl σ H fun x H1=>∃ a,x=.ref a/\(∃ xs,yU K H1 a xs)/\R (XO K a) H1
theorem FD {l:Expr} {tl:TE} (hl:PE X l tl):PI X tg l (M1 X.K tl):=by
 intro pins s σ H R I h
 refine zl (hl pins s σ H _ I h) fun v s1 ⟨x,H1,I1,r1,q1⟩=>?_
 obtain ⟨a,e,⟨xs,hq⟩,q⟩:=q1
 subst e
 cases r1
 obtain ⟨its,rv,p,hz⟩:=I1.list hq
 refine wpAny_pyIter_list p.isList ?_
 refine ⟨s1.heap.objs.size,[s1.heap.objs.size],_,_,H1,rfl,I1.kept (t':=s1.toks) fun b o e=>Heap.get?_push_of_some _ e,Gy a _,⟨_,Heap.get?_push_size _ rfl,rfl,rfl⟩,fun b hb=>?_,q⟩
 have e:b=s1.heap.objs.size:=by simpa using hb
 subst e
 exact I1.fpOk (Nat.le_refl _) (I1.hok.fresh (Nat.le_refl _))
theorem Qs {l:Expr} {tl:TE} (hl:PE X l tl):PI X tg l (M4 X.K tl):=by
 intro pins s σ H R I h
 refine zl (hl pins s σ H _ I h) fun v s1 ⟨x,H1,I1,r1,q1⟩=>?_
 obtain ⟨a,e,⟨xs,hq⟩,q⟩:=q1
 subst e
 cases r1
 obtain ⟨its,rv,p,hz⟩:=I1.tuple hq
 refine wpAny_pyIter_tuple (show s1.heap.IsTuple a its.toArray from p) ?_
 refine ⟨s1.heap.objs.size,[s1.heap.objs.size],_,_,H1,rfl,I1.kept (t':=s1.toks) fun b o e=>Heap.get?_push_of_some _ e,HA a _,⟨_,Heap.get?_push_size _ rfl,rfl,rfl⟩,fun b hb=>?_,q⟩
 have e:b=s1.heap.objs.size:=by simpa using hb
 subst e
 exact I1.fpOk (Nat.le_refl _) (I1.hok.fresh (Nat.le_refl _))
theorem CF {pins:List (Addr×Obj)} {σ:St} {H:Hp} {s:Shared} {R:It->Hp->Prop} {E:Value->Shared->Prop} {lo hi:Int} {t u v:Tok} {tk:Nat} (I:Inv X pins σ H s) (h1 : -(2 ^ 62)<=lo) (h2:lo<2 ^ 62) (h3 : -(2 ^ 62)<=hi) (h4:hi<2 ^ 62)
  (q:R (ZA lo (hi - lo).toNat) H):wpAny (model X.prog X.w) X.A (pyIter (.ref s.heap.objs.size)) (XS X pins σ tg R) E { s with heap:=s.heap.push { cls:=.type "range",data:=.fields #[.int lo t,.int hi u,.int 1 v] },toks:=tk }:=by
 refine wpAny_pyIter_range (IsRange.new ..) (small_one h1 h2 h3 h4) ?_
 have I1:Inv X pins σ H { s with heap:=s.heap.push { cls:=.type "range",data:=.fields #[.int lo t,.int hi u,.int 1 v] },toks:=tk }:=I.kept fun b o e=>Heap.get?_push_of_some _ e
 refine ⟨(s.heap.push { cls:=.type "range",data:=.fields #[.int lo t,.int hi u,.int 1 v] }).objs.size,[(s.heap.push { cls:=.type "range",data:=.fields #[.int lo t,.int hi u,.int 1 v] }).objs.size],_,_,H,rfl,
  I1.kept (t':=tk) fun b o e=>Heap.get?_push_of_some _ e,Gz _ lo (hi - lo).toNat,?_,fun b hb=>?_,q⟩
 ·have e1:lo+((0:Nat):Int)*1=lo:=by simp
  have e2:(((hi - lo).toNat:Nat):Int) - ((0:Nat):Int)=Builtin.Range.rangeSize lo hi 1:=by rw [rangeSize_one]; split<;>omega
  show IsRangeIter _ _ (lo+((0:Nat):Int)*1) ((((hi - lo).toNat:Nat):Int) - ((0:Nat):Int)) 1
  rw [e1,e2]
  exact Heap.get?_push_size _ rfl
 ·have e:b=(s.heap.push { cls:=.type "range",data:=.fields #[.int lo t,.int hi u,.int 1 v] }).objs.size:=by simpa using hb
  subst e
  exact I1.fpOk (Nat.le_refl _) (I1.hok.fresh (Nat.le_refl _))
noncomputable def M2 (ta:TA):TI:=fun σ H R=>ta σ H fun vs H1=>∃ j:Int,vs=[.int j] /\ -(2 ^ 62)<=j/\j<2 ^ 62/\R (ZA 0 j.toNat) H1
theorem FH {a:Expr} {ta:TA} {p pos:Pos} (hg:Gl X "range") (hm:X.mg "range" = none) (ha:PA X [a] ta) (hs:starEach [a] X.env=[(false,eval a X.env)]:=by rfl):PI X tg (.Call (.Name "range" p) [a] [] pos) (M2 ta):=by
 intro pins s σ H R I h
 refine Call_ (YQ I hg hm boot_range (PyProof.Rows.callWith_type1 (zl (ha pos pins s σ H _ I h) fun us s1 ⟨vs,H1,I1,r1,q1⟩=>?_) hs rfl))
 obtain ⟨j,e,q1,q2,q⟩:=q1
 subst e
 cases r1 with
 | cons r rr=>
  cases rr
  obtain ⟨t,rfl⟩:=r
  exact call_range_1 (CF I1 (by omega) (by omega) q1 q2 (by simpa using q))
noncomputable def GU (wi:TI) (g:TG) (tb:TS):TS:=fun D σ H=>wi σ H fun J H1=>∃ W:Nat->Nat->St->Hp->Prop,(∃ m,W 0 m σ H1)/\∀ i m σ H,W i m σ H->
 (J.stop i H/\D.nx σ H)\/(J.go i H/\∃ N:St->Hp->Prop,(∀ σ' H',N σ' H'->∃ m',m'<m/\W (i+1) m' σ' H')/\∀ x H',J.yld i H x H'->g x σ H' fun σ2 H2=>tb { D with nx:=N,ct:=N,bk:=D.nx } σ2 H2)
noncomputable def gE (fp:List Addr) (h:Heap):List (Addr×Obj):=fp.filterMap fun b=>(h.get? b).map fun o=>(b,o)
theorem YV {fp:List Addr} {h:Heap} {b:Addr} {o:Obj} (hb:b∈fp) (e:h.get? b=some o):(b,o)∈gE fp h:=List.mem_filterMap.mpr ⟨b,hb,by rw [e]; rfl⟩
theorem BK {fp:List Addr} {h:Heap} {p:Addr×Obj} (hp:p∈gE fp h):p.1∈fp/\h.get? p.1=some p.2:=by
 obtain ⟨b,hb,e⟩:=List.mem_filterMap.mp hp
 cases q:h.get? b with
 | none=>rw [q] at e; cases e
 | some o=>
  rw [q] at e
  have e':(b,o)=p:=Option.some.inj e
  subst e'
  exact ⟨hb,q⟩
theorem Inv.pinned {pins:List (Addr×Obj)} {σ:St} {H:Hp} {s:Shared} {fp:List Addr} (I:Inv X pins σ H s) (hf:∀ b∈fp,vT X pins H b) (ho:∀ b∈fp,∃ o,s.heap.get? b=some o/\∀ v,o.data≠.cell v):Inv X (pins++gE fp s.heap) σ H s:=
 I.pins_of fun p hp=>(List.mem_append.mp hp).elim (fun z=>I.pin p (List.mem_append_right _ z)) fun z=>by
  obtain ⟨hb,e⟩:=BK z
  obtain ⟨f0,f1,f2,_⟩:=hf p.1 hb
  obtain ⟨o,e',d⟩:=ho p.1 hb
  rw [e] at e'; cases e'
  exact ⟨e,f0,f1,f2,d⟩
theorem Inv.unpinned {pins pl:List (Addr×Obj)} {σ:St} {H:Hp} {s:Shared} (I:Inv X (pins++pl) σ H s):Inv X pins σ H s:=I.pins_of fun p hp=>I.pin p (List.mem_append_right _ (List.mem_append_left _ hp))
theorem Ww {iter:Expr} {body:List Stmt} {wi:TI} {g:TG} {tb:TS} {pos:Pos} (hp:PassesOwn (model X.prog X.w) X.A X.env X.xe) (hc:X.calm=true) (hi:PI X tg iter wi) (hg:PG X tg g) (hb:wD X body tb)
  (hs:∀ x,foldedSetIterable iter X.env x=pure x:=by intro _; rfl):PS X (.For tg iter body [] pos) (GU wi g tb):=by
 intro pins s σ H D I h
 refine wpAny_For (zl (hi pins s σ H _ I h) fun v s1 h1=>zl h1 fun itv s2 h2=>?_) hs
 obtain ⟨it,fp,tn,J,H2,e,I2,T,st2,f2,W,⟨m0,w0⟩,turn⟩:=h2
 subst e
 have stat:∀ {H':Hp},(∀ b∈fp,H' b=none)->∀ b∈fp,vT X pins H' b:=fun hn b hb=>⟨hn b hb,(f2 b hb).2⟩
 refine codeAny_forLoop_any (fun n s'=>∃ i σ' H',Inv X pins σ' H' s'/\tn i s'.heap/\(∀ b∈fp,H' b=none)/\W i n σ' H') ?_ m0 ⟨0,σ,H2,I2,st2,fun b hb=>(f2 b hb).1,w0⟩
 rintro n s3 ⟨i,σ3,H3,I3,st3,fr3,w3⟩
 rcases turn i n σ3 H3 w3 with ⟨stop,qn⟩ | ⟨go,N,hN,step⟩
 ·refine wpAny_passesOwn hp (zl (T.done X rfl rfl rfl hc i pins s3 σ3 H3 X.xe I3 (stat fr3) st3 stop) fun r s4 ⟨hr,I4⟩=>?_)
  subst hr
  exact wpAny_execs_nil ⟨σ3,H3,I4,qn⟩
 ·refine wpAny_passesOwn hp (zl (T.item X rfl rfl rfl hc i pins s3 σ3 H3 X.xe I3 (stat fr3) st3 go) fun r s4 ⟨u,hr,h4⟩=>?_)
  subst hr
  refine wpAny_passesOwn hp (zl h4 fun _ s5 ⟨x,H5,I5,r5,y5,st5,fr5⟩=>?_)
  have I5':=I5.pinned (stat fr5) (T.obj _ _ st5)
  refine wpAny_passesOwn hp (zl (hg _ s5 σ3 H5 x u _ I5' r5 (step x H5 y5)) fun _ s6 ⟨σ6,H6,I6,q6⟩=>?_)
  refine wpAny_passesOwn hp (zl (hb _ s6 σ6 H6 _ I6 q6) fun f s7 q7=>?_)
  have again:∀ {σ7:St} {H7:Hp},Inv X (pins++gE fp s5.heap) σ7 H7 s7->N σ7 H7->∃ m,m<n/\∃ i σ' H',Inv X pins σ' H' s7/\tn i s7.heap/\(∀ b∈fp,H' b=none)/\W i m σ' H':=fun {σ7 H7} I7 n7=>by
   obtain ⟨m',hm,w7⟩:=hN σ7 H7 n7
   refine ⟨m',hm,i+1,σ7,H7,I7.unpinned,T.keep _ _ _ st5 fun b hb o e=>(I7.pin (b,o) (List.mem_append_right _ (List.mem_append_right _ (YV hb e)))).1,fun b hb=>?_,w7⟩
   obtain ⟨o,e,d⟩:=T.obj _ _ st5 b hb
   exact (I7.pin (b,o) (List.mem_append_right _ (List.mem_append_right _ (YV hb e)))).2.1
  cases f with
  | next=>obtain ⟨σ7,H7,I7,n7⟩:=q7; exact again I7 n7
  | cont=>obtain ⟨σ7,H7,I7,n7⟩:=q7; exact again I7 n7
  | brk=>obtain ⟨σ7,H7,I7,q7⟩:=q7; exact ⟨σ7,H7,I7.unpinned,q7⟩
  | ret v=>obtain ⟨x7,σ7,H7,I7,r7,q7⟩:=q7; exact ⟨x7,σ7,H7,I7.unpinned,r7,q7⟩
end
end L2
namespace L2
open PySem PySem.Spec PyProof.Rows
noncomputable abbrev R2:=V->V->Hp->VK->Prop
noncomputable def yC (X:Cx) (f:Value->Value->Sem Value) (r:R2):Prop:=
 ∀ (pins:List (Addr×Obj)) (s:Shared) (σ:St) (H:Hp) (x y:V) (v u:Value) (Q:VK),Inv X pins σ H s->zi x v->zi y u->r x y H Q->
  wpAny (model X.prog X.w) X.A (f v u) (EP X pins σ Q) X.xe s
noncomputable def jZ (X:Cx) (f:Value->Sem Value) (r:V->Hp->VK->Prop):Prop:=
 ∀ (pins:List (Addr×Obj)) (s:Shared) (σ:St) (H:Hp) (x:V) (v:Value) (Q:VK),Inv X pins σ H s->zi x v->r x H Q->
  wpAny (model X.prog X.w) X.A (f v) (EP X pins σ Q) X.xe s
noncomputable def xi (X:Cx) (f:Value) (r:List V->Hp->VK->Prop):Prop:=
 ∀ (pins:List (Addr×Obj)) (s:Shared) (σ:St) (H:Hp) (xs:List V) (us:List Value) (Q:VK),Inv X pins σ H s->zb xs us->r xs H Q->
  wpAny (model X.prog X.w) X.A (call f us) (EP X pins σ Q) X.xe s
noncomputable def X4 (r:R2) (ta tb:TE):TE:=fun σ H Q=>ta σ H fun x H1=>tb σ H1 fun y H2=>r x y H2 Q
noncomputable def Go (r:V->Hp->VK->Prop) (ta:TE):TE:=fun σ H Q=>ta σ H fun x H1=>r x H1 Q
noncomputable def rI (C:Int->Int->Prop) (g:Int->Int->V):R2:=fun x y H Q=>∃ i j,x=.int i/\y=.int j/\C i j/\Q (g i j) H
noncomputable def vd (g:Int->Int->V):R2:=fun x y H Q=>∃ i j,x=.int i/\y=.int j/\Q (g i j) H
noncomputable def rU (g:Int->V):V->Hp->VK->Prop:=fun x H Q=>∃ i,x=.int i/\Q (g i) H
section
variable {X:Cx} {a b c:Expr} {ta tb tc:TE} {pos:Pos}
theorem Xi (ha:PE X a ta) (hb:PE X b tb) {pins:List (Addr×Obj)} {s:Shared} {σ:St} {H:Hp} {R:V->V->Hp->Prop} (I:Inv X pins σ H s)
  (h:ta σ H fun x H1=>tb σ H1 fun y H2=>R x y H2) {Q:Value->Shared->Prop} {f:Value->Value->Sem Value}
  (hf:∀ v u s2 x y H2,Inv X pins σ H2 s2->zi x v->zi y u->R x y H2->wpAny (model X.prog X.w) X.A (f v u) Q X.xe s2) :
  wpAny (model X.prog X.w) X.A (eval a X.env) (fun v s₁=>wpAny (model X.prog X.w) X.A (eval b X.env) (fun u s₂=>wpAny (model X.prog X.w) X.A (f v u) Q X.xe s₂) X.xe s₁) X.xe s:=by
 refine zl (ha pins s σ H _ I h) fun v s1 ⟨x,H1,I1,r1,q1⟩=>?_
 refine zl (hb pins s1 σ H1 _ I1 q1) fun u s2 ⟨y,H2,I2,r2,q2⟩=>?_
 exact hf v u s2 x y H2 I2 r1 r2 q2
theorem Wr {op:Operator} {r:R2} (ho:yC X (binaryOp op) r) (ha:PE X a ta) (hb:PE X b tb):PE X (.BinOp a op b pos) (X4 r ta tb):=by
 intro pins s σ H Q I h
 exact wpAny_BinOp (Xi ha hb I h fun v u s2 x y H2 I2 rx ry q=>ho pins s2 σ H2 x y v u Q I2 rx ry q)
theorem Dw {op:UnaryOp} {r:V->Hp->VK->Prop} (ho:jZ X (unaryOp op) r) (ha:PE X a ta):PE X (.UnaryOp op a pos) (Go r ta):=by
 intro pins s σ H Q I h
 exact UnaryOp_ (zl (ha pins s σ H _ I h) fun v s1 ⟨x,H1,I1,r1,q1⟩=>ho pins s1 σ H1 x v Q I1 r1 q1)
theorem g9 {f:Value->Value->Sem Value} {C:Int->Int->Prop} {g:Int->Int->Int}
  (rule:∀ (i j:Int) (t u:Tok) (s:Shared) (Q:Value->Shared->Prop) (E:Value->Shared->Prop),C i j->Q (.int (g i j) s.toks) { s with toks:=s.toks+1 }->wpAny (model X.prog X.w) X.A (f (.int i t) (.int j u)) Q E s) :
  yC X f (rI C fun i j=>.int (g i j)):=by
 intro pins s σ H x y v u Q I rx ry h
 obtain ⟨i,j,rfl,rfl,hc,q⟩:=h
 obtain ⟨t,rfl⟩:=rx
 obtain ⟨t',rfl⟩:=ry
 exact rule i j t t' s _ _ hc ⟨.int (g i j),H,I.tok _,⟨_,rfl⟩,q⟩
theorem Yd {f:Value->Value->Sem Value} {g:Int->Int->Int}
  (rule:∀ (i j:Int) (t u:Tok) (s:Shared) (Q:Value->Shared->Prop) (E:Value->Shared->Prop),Q (.int (g i j) s.toks) { s with toks:=s.toks+1 }->wpAny (model X.prog X.w) X.A (f (.int i t) (.int j u)) Q E s) :
  yC X f (vd fun i j=>.int (g i j)):=by
 intro pins s σ H x y v u Q I rx ry h
 obtain ⟨i,j,rfl,rfl,q⟩:=h
 obtain ⟨t,rfl⟩:=rx
 obtain ⟨t',rfl⟩:=ry
 exact rule i j t t' s _ _ ⟨.int (g i j),H,I.tok _,⟨_,rfl⟩,q⟩
theorem Qe {f:Value->Value->Sem Value} {g:Int->Int->Bool}
  (rule:∀ (i j:Int) (t u:Tok) (s:Shared) (Q:Value->Shared->Prop) (E:Value->Shared->Prop),Q (.bool (g i j)) s->wpAny (model X.prog X.w) X.A (f (.int i t) (.int j u)) Q E s) :
  yC X f (vd fun i j=>.bl (g i j)):=by
 intro pins s σ H x y v u Q I rx ry h
 obtain ⟨i,j,rfl,rfl,q⟩:=h
 obtain ⟨t,rfl⟩:=rx
 obtain ⟨t',rfl⟩:=ry
 exact rule i j t t' s _ _ ⟨.bl (g i j),H,I,rfl,q⟩
noncomputable def XJ (i j:Int):Prop:=0<=j/\j<=1000000/\i.natAbs<2 ^ 64
noncomputable def jS (i j:Int):Prop:=(-(2 ^ 64)<i/\i<2 ^ 64)\/(-(2 ^ 64)<j/\j<2 ^ 64)
theorem jS.ok {i j:Int} (h:jS i j):IntMulOk i j:=by
 rcases h with ⟨h1,h2⟩ | ⟨h1,h2⟩
 ·exact .of_left (intBits_le_64 h1 h2)
 ·exact .of_right (intBits_le_64 h1 h2)
theorem DG:yC X (binaryOp .Add) (vd fun i j=>.int (i+j)):=Yd fun _ _ _ _ _ _ _ q=>add_int q
theorem Qi:yC X (binaryOp .Sub) (vd fun i j=>.int (i - j)):=Yd fun _ _ _ _ _ _ _ q=>sub_int q
theorem gB:yC X (binaryOp .Mult) (rI jS fun i j=>.int (i*j)):=g9 fun _ _ _ _ _ _ _ hc q=>mul_int q hc.ok
theorem yq:yC X (binaryOp .Mod) (rI (fun _ j=>0<j) fun i j=>.int (i % j)):=g9 fun i j _ _ _ _ _ hc q=>by
 have h1:(0:Int)<j:=hc
 exact mod_int' (by omega) (by rw [Int.fmod_eq_emod_of_nonneg i (by omega)]; exact q)
theorem Ye:yC X (binaryOp .LShift) (rI XJ fun i j=>.int (i*2 ^ j.toNat)):=g9 fun _ _ _ _ _ _ _ hc q=>lshift_int_small hc.1 hc.2.1 hc.2.2 q
theorem Wm:yC X (binaryOp .BitAnd) (vd fun i j=>.int (Builtin.bitAnd i j)):=Yd fun _ _ _ _ _ _ _ q=>and_int q
theorem uS:yC X (binaryOp .BitOr) (vd fun i j=>.int (Builtin.bitOr i j)):=Yd fun _ _ _ _ _ _ _ q=>or_int q
theorem IS {f:Value->Sem Value} {g:Int->Int}
  (rule:∀ (i:Int) (t:Tok) (s:Shared) (Q:Value->Shared->Prop) (E:Value->Shared->Prop),Q (.int (g i) s.toks) { s with toks:=s.toks+1 }->wpAny (model X.prog X.w) X.A (f (.int i t)) Q E s) :
  jZ X f (rU fun i=>.int (g i)):=by
 intro pins s σ H x v Q I rx h
 obtain ⟨i,rfl,q⟩:=h
 obtain ⟨t,rfl⟩:=rx
 exact rule i t s _ _ ⟨.int (g i),H,I.tok _,⟨_,rfl⟩,q⟩
theorem qC:jZ X (unaryOp .USub) (rU fun i=>.int (-i)):=IS fun _ _ _ _ _ q=>neg_int q
theorem HC:jZ X (unaryOp .Invert) (rU fun i=>.int (Builtin.bitNot i)):=IS fun _ _ _ _ _ q=>invert_int q
theorem DH:yC X (binaryOp .Add) (fun x y H Q=>∃ i k,x=.int i/\y=.bl k/\Q (.int (i+b2i k)) H):=by
 intro pins s σ H x y v u Q I rx ry h
 obtain ⟨i,k,rfl,rfl,q⟩:=h
 obtain ⟨t,rfl⟩:=rx
 cases ry
 exact add_int_bool ⟨.int (i+b2i k),H,I.tok _,⟨_,rfl⟩,q⟩
end
noncomputable def VI:V->V->Bool
 | .non,.non=>true | .non,.int _=>true | .int _,.non=>true | .non,.bl _=>true | .bl _,.non=>true | .non,.str _=>true | .str _,.non=>true
 | .int _,.int _=>true | .bl _,.bl _=>true | .str _,.str _=>true | .byt _,.byt _=>true
 | .int _,.str _=>true | .str _,.int _=>true | .bl _,.str _=>true | .str _,.bl _=>true
 | _,_=>false
noncomputable def C1:R2:=fun x y H Q=>VI x y=true/\Q (.bl (decide (x=y))) H
noncomputable def C5:R2:=fun x y H Q=>VI x y=true/\Q (.bl (!decide (x=y))) H
theorem Xr {i j:Int}:decide (V.int i=V.int j)=(i == j):=by
 rw [Bool.eq_iff_iff]
 simp
theorem Xq {i j:Bool}:decide (V.bl i=V.bl j)=(i == j):=by
 rw [Bool.eq_iff_iff]
 simp
theorem Xs {i j:Str}:decide (V.str i=V.str j)=(i == j):=by
 rw [Bool.eq_iff_iff]
 simp
theorem Ub {i j:Array UInt8}:decide (V.byt i=V.byt j)=(i.toList == j.toList):=by
 rw [Bool.eq_iff_iff]
 cases i
 cases j
 simp
section
variable {X:Cx} {a b c:Expr} {ta tb tc:TE} {pos:Pos}
theorem yf {pins:List (Addr×Obj)} {σ:St} {H:Hp} {s:Shared} {Q:VK} {k k':Bool} (I:Inv X pins σ H s) (q:Q (.bl k) H) (e:k=k'):EP X pins σ Q (.bool k') s:=by
 subst e
 exact ⟨.bl k,H,I,rfl,q⟩
theorem DK:yC X (compareOp .Eq) C1:=by
 intro pins s σ H x y v u Q I rx ry h
 obtain ⟨hs,q⟩:=h
 cases x with
 | non=>
  cases rx
  cases y with
  | non=>cases ry; exact PySem.EqNone.eq_none_none (yf I q (by simp))
  | bl j=>cases ry; exact PySem.EqNone.eq_none_bool (yf I q (by simp))
  | int j=>obtain ⟨t',rfl⟩:=ry; exact PySem.EqNone.eq_none_int (yf I q (by simp))
  | str j=>obtain ⟨t',rfl⟩:=ry; exact PySem.EqNone.eq_none_str (yf I q (by simp))
  | _=>exact absurd (show false=true from hs) Bool.false_ne_true
 | bl i=>
  cases rx
  cases y with
  | non=>cases ry; exact PySem.EqNone.eq_bool_none (yf I q (by simp))
  | bl j=>cases ry; exact eq_bool (yf I q Xq)
  | str j=>obtain ⟨t',rfl⟩:=ry; exact PySem.EqMixed.eq_bool_str (yf I q (by simp))
  | _=>exact absurd (show false=true from hs) Bool.false_ne_true
 | int i=>
  obtain ⟨t,rfl⟩:=rx
  cases y with
  | non=>cases ry; exact PySem.EqNone.eq_int_none (yf I q (by simp))
  | int j=>obtain ⟨t',rfl⟩:=ry; exact eq_int (yf I q Xr)
  | str j=>obtain ⟨t',rfl⟩:=ry; exact PySem.EqMixed.eq_int_str (yf I q (by simp))
  | _=>exact absurd (show false=true from hs) Bool.false_ne_true
 | str i=>
  obtain ⟨t,rfl⟩:=rx
  cases y with
  | non=>cases ry; exact PySem.EqNone.eq_str_none (yf I q (by simp))
  | bl j=>cases ry; exact PySem.EqMixed.eq_str_bool (yf I q (by simp))
  | int j=>obtain ⟨t',rfl⟩:=ry; exact PySem.EqMixed.eq_str_int (yf I q (by simp))
  | str j=>obtain ⟨t',rfl⟩:=ry; exact eq_str (yf I q Xs)
  | _=>exact absurd (show false=true from hs) Bool.false_ne_true
 | byt i=>
  obtain ⟨t,rfl⟩:=rx
  cases y with
  | byt j=>obtain ⟨t',rfl⟩:=ry; exact PySem.W.eq_bytes (yf I q Ub)
  | _=>exact absurd (show false=true from hs) Bool.false_ne_true
 | _=>cases y<;>exact absurd (show false=true from hs) Bool.false_ne_true
theorem DP:yC X (compareOp .NotEq) C5:=by
 intro pins s σ H x y v u Q I rx ry h
 obtain ⟨hs,q⟩:=h
 cases x with
 | non=>
  cases rx
  cases y with
  | non=>cases ry; exact PySem.EqNone.ne_none_none (yf I q (by simp))
  | bl j=>cases ry; exact PySem.EqNone.ne_none_bool (yf I q (by simp))
  | int j=>obtain ⟨t',rfl⟩:=ry; exact PySem.EqNone.ne_none_int (yf I q (by simp))
  | str j=>obtain ⟨t',rfl⟩:=ry; exact PySem.EqNone.ne_none_str (yf I q (by simp))
  | _=>exact absurd (show false=true from hs) Bool.false_ne_true
 | bl i=>
  cases rx
  cases y with
  | non=>cases ry; exact PySem.EqNone.ne_bool_none (yf I q (by simp))
  | bl j=>cases ry; exact ne_bool (yf I q (congrArg not Xq))
  | str j=>obtain ⟨t',rfl⟩:=ry; exact PySem.EqMixed.ne_bool_str (yf I q (by simp))
  | _=>exact absurd (show false=true from hs) Bool.false_ne_true
 | int i=>
  obtain ⟨t,rfl⟩:=rx
  cases y with
  | non=>cases ry; exact PySem.EqNone.ne_int_none (yf I q (by simp))
  | int j=>obtain ⟨t',rfl⟩:=ry; exact ne_int (yf I q (congrArg not Xr))
  | str j=>obtain ⟨t',rfl⟩:=ry; exact PySem.EqMixed.ne_int_str (yf I q (by simp))
  | _=>exact absurd (show false=true from hs) Bool.false_ne_true
 | str i=>
  obtain ⟨t,rfl⟩:=rx
  cases y with
  | non=>cases ry; exact PySem.EqNone.ne_str_none (yf I q (by simp))
  | bl j=>cases ry; exact PySem.EqMixed.ne_str_bool (yf I q (by simp))
  | int j=>obtain ⟨t',rfl⟩:=ry; exact PySem.EqMixed.ne_str_int (yf I q (by simp))
  | str j=>obtain ⟨t',rfl⟩:=ry; exact ne_str (yf I q (congrArg not Xs))
  | _=>exact absurd (show false=true from hs) Bool.false_ne_true
 | byt i=>
  obtain ⟨t,rfl⟩:=rx
  cases y with
  | byt j=>obtain ⟨t',rfl⟩:=ry; exact PySem.W.ne_bytes (yf I q (congrArg not Ub))
  | _=>exact absurd (show false=true from hs) Bool.false_ne_true
 | _=>cases y<;>exact absurd (show false=true from hs) Bool.false_ne_true
theorem gA:yC X (compareOp .Lt) (vd fun i j=>.bl (decide (i<j))):=Qe fun _ _ _ _ _ _ _ q=>lt_int q
theorem Qg:yC X (compareOp .Gt) (vd fun i j=>.bl (decide (j<i))):=Qe fun _ _ _ _ _ _ _ q=>gt_int q
theorem DN:yC X (compareOp .In) (fun x y H Q=>∃ i j,x=.str i/\y=.str j/\Q (.bl (!(Builtin.Str.occurrences j i 0 j.length 1).isEmpty)) H):=by
 intro pins s σ H x y v u Q I rx ry h
 obtain ⟨i,j,rfl,rfl,q⟩:=h
 obtain ⟨t,rfl⟩:=rx
 obtain ⟨t',rfl⟩:=ry
 exact in_str (yf I q rfl)
theorem Qh:yC X (compareOp .Is) (fun x y H Q=>y=.non/\Q (.bl (decide (x=.non))) H):=by
 intro pins s σ H x y v u Q I rx ry h
 obtain ⟨rfl,q⟩:=h
 cases ry
 refine is_none_gen (yf I q ?_)
 cases x<;>first
  | (cases rx; rfl)
  | (obtain ⟨t,rfl⟩:=rx; rfl)
theorem DU:yC X (compareOp .IsNot) (fun x y H Q=>y=.non/\Q (.bl (!decide (x=.non))) H):=by
 intro pins s σ H x y v u Q I rx ry h
 obtain ⟨rfl,q⟩:=h
 cases ry
 refine isnot_none_gen (yf I q ?_)
 cases x<;>first
  | (cases rx; rfl)
  | (obtain ⟨t,rfl⟩:=rx; rfl)
theorem yC.or {f:Value->Value->Sem Value} {r r':R2} (h:yC X f r) (h':yC X f r'):yC X f (fun x y H Q=>r x y H Q\/r' x y H Q):=by
 intro pins s σ H x y v u Q I rx ry q
 rcases q with q | q
 ·exact h pins s σ H x y v u Q I rx ry q
 ·exact h' pins s σ H x y v u Q I rx ry q
theorem y8 (b:Expr) {op:CmpOp} (h:op≠.In:=by decide) (h2:op≠.NotIn:=by decide):behindInMarks op b=false:=by
 have e1:(op == CmpOp.In)=false:=by cases op<;>first | rfl | exact absurd rfl h
 have e2:(op == CmpOp.NotIn)=false:=by cases op<;>first | rfl | exact absurd rfl h2
 cases b<;>simp [behindInMarks,e1,e2]
theorem Dl {op:CmpOp} {r:R2} (ho:yC X (compareOp op) r) (ha:PE X a ta) (hb:PE X b tb) (hm:behindInMarks op b=false):PE X (.Compare a [op] [b] pos) (X4 r ta tb):=by
 intro pins s σ H Q I h
 exact wpAny_Compare1 (Xi ha hb I h fun v u s2 x y H2 I2 rx ry q=>ho pins s2 σ H2 x y v u Q I2 rx ry q) hm
noncomputable def Gm (t:TE):TT:=fun σ H Q=>t σ H fun x H'=>∃ k,x=.bl k/\Q k H'
theorem Fh {op:CmpOp} {r:R2} (ho:yC X (compareOp op) r) (ha:PE X a ta) (hb:PE X b tb) (hm:behindInMarks op b=false):PT X (.Compare a [op] [b] pos) (Gm (X4 r ta tb)):=by
 intro pins s σ H Q I h
 refine wpAny_isTrue_Compare1 (zl (ha pins s σ H _ I h) fun v s1 ⟨x,H1,I1,r1,q1⟩=>zl (hb pins s1 σ H1 _ I1 q1) fun u s2 ⟨y,H2,I2,r2,q2⟩=>
  zl (ho pins s2 σ H2 x y v u _ I2 r1 r2 q2) fun c s3 ⟨z,H3,I3,r3,k,e,q3⟩=>?_) hm
 subst e
 cases r3
 exact wpAny_truthy_bool ⟨H3,I3,q3⟩
theorem p_:(sizeLine:Nat)<2 ^ 63:=by rw [sizeLine_eq]; decide
theorem DI:yC X (binaryOp .Add) (fun x y H Q=>∃ i j,x=.str i/\y=.str j/\i.length+j.length<=sizeLine/\Q (.str (i++j)) H):=by
 intro pins s σ H x y v u Q I rx ry h
 obtain ⟨i,j,rfl,rfl,hz,q⟩:=h
 obtain ⟨t,rfl⟩:=rx
 obtain ⟨t',rfl⟩:=ry
 exact add_str (fun t' tk=>⟨.str (i++j),H,I.tok _,⟨_,rfl⟩,q⟩) hz
theorem vE {x:V} {us:List Value} (r:zb [x] us):∃ u,us=[u]/\zi x u:=by
 cases r with
 | cons r1 r2=>cases r2; exact ⟨_,rfl,r1⟩
theorem HP {x y:V} {us:List Value} (r:zb [x,y] us):∃ u w',us=[u,w']/\zi x u/\zi y w':=by
 cases r with
 | cons r1 r2=>
  cases r2 with
  | cons r3 r4=>cases r4; exact ⟨_,_,rfl,r1,r3⟩
theorem UQ:xi X (.type "int") (fun xs H Q=>(∃ i,xs=[.int i]/\Q (.int i) H)\/∃ k,xs=[.bl k]/\Q (.int (if k then 1 else 0)) H):=by
 intro pins s σ H xs us Q I r h
 rcases h with ⟨i,rfl,q⟩ | ⟨k,rfl,q⟩
 ·obtain ⟨u,rfl,t,rfl⟩:=vE r
  exact call_int_int ⟨.int i,H,I,⟨_,rfl⟩,q⟩
 ·obtain ⟨u,rfl,r1⟩:=vE r
  cases r1
  exact call_int_bool ⟨.int (if k then 1 else 0),H,I.tok _,⟨_,rfl⟩,q⟩
end
end L2
namespace L2
open PySem PySem.Spec PyProof.Rows
section
variable {prog:Program} {w:World} {A:Around} {E:Value->Shared->Prop} {s:Shared} {K:PySem.W.Frag} {x dx C f:Addr} {mA:Str->Option Value} {name:Str} {v:Value}
end
theorem um.some_of {v:V} {o:Option Value} (r:um (some v) o):∃ u,o=some u/\zi v u:=by
 cases o with
 | none=>exact (show False from r).elim
 | some u=>exact ⟨u,rfl,r⟩
section
variable {P:Program} {w:World} {H H':Hp} {h h':Heap} {a C dx:Addr} {fs fs':List (Str×V)}
end
section
variable {X:Cx} {pins:List (Addr×Obj)} {σ:St} {H:Hp} {s:Shared} {a C dx:Addr} {fs:List (Str×V)} {f:Str} {v:V} {A:Around} {E:Value->Shared->Prop}
end
section
variable {X:Cx} {o e value:Expr} {f:Str} {pos pos' tpos:Pos} {ta tv:TE}
end
section
variable {X:Cx} {pins:List (Addr×Obj)} {σ:St} {H:Hp} {s:Shared} {A:Around} {E:Value->Shared->Prop} {Q:Value->Shared->Prop} {c:Value} {b:Bool}
end
end L2
namespace L2
open PySem PySem.Spec PyProof.Rows
structure yj (k:Nat) (A:Around):Prop where
 hd:A.handled=none
 dp:A.depth+3*k+5<recursionLimit
 un:A.units+16*k+200<cLine
theorem yj.mono {j k:Nat} {A:Around} (r:yj k A) (h:j<=k):yj j A:=⟨r.hd,by have:=r.dp; omega,by have:=r.un; omega⟩
theorem yj.deeper {k:Nat} {A:Around} (r:yj (k+1) A) (env:Env):yj k (A.deeper env):=
 ⟨r.hd,by have:=r.dp; show A.depth+1+3*k+5<_; omega,by have:=r.un; show A.units+3+16*k+200<_; omega⟩
theorem yj.depth {k:Nat} {A:Around} (r:yj k A):A.depth<recursionLimit:=by have:=r.dp; omega
theorem yj.units {k:Nat} {A:Around} (r:yj k A):A.units+64<cLine:=by have:=r.un; omega
noncomputable def qz:TA:=fun _ H Q=>Q [] H
noncomputable def X3 (ta:TE) (tr:TA):TA:=fun σ H Q=>ta σ H fun x H1=>tr σ H1 fun xs H2=>Q (x::xs) H2
section
variable {X:Cx} {e:Expr} {es:List Expr} {te:TE} {t:TA} {pos:Pos}
theorem qg:PA X [] qz:=fun _ _ _ _ H Q I h=>Calls.spliced_nil ⟨[],H,I,.nil,h⟩
theorem Db (ha:PE X e te) (hr:PA X es t) (hs:starEach (e::es) X.env=(false,eval e X.env)::starEach es X.env:=by rfl):PA X (e::es) (X3 te t):=by
 intro pos pins s σ H Q I h
 rw [hs]
 show wpAny _ _ (spliced ((false,eval e X.env)::backTo pos (starEach es X.env))) _ _ s
 refine Calls.spliced_cons (zl (ha pins s σ H _ I h) fun u s1 ⟨x,H1,I1,r1,q1⟩=>?_)
 exact zl (hr pos pins s1 σ H1 _ I1 q1) fun us s2 ⟨xs,H2,I2,r2,q2⟩=>⟨x::xs,H2,I2,.cons r1 r2,q2⟩
noncomputable def Gn (t:TA):TE:=fun σ H Q=>t σ H fun xs H1=>xs.length<=sizeLine/\∀ p,H1 p=none->Q (.ref p) (ze H1 p (.tup xs))
noncomputable def Z4 (t:TA):TE:=fun σ H Q=>t σ H fun xs H1=>xs.length<=sizeLine/\∀ p,H1 p=none->Q (.ref p) (ze H1 p (.lst xs))
theorem Dv {x1} (h:PA X es t):PE X (.Tuple es x1 pos) (Gn t):=by
 intro pins s σ H Q I hq
 refine wpAny_Tuple_spliced (zl (h pos pins s σ H _ I hq) fun us s1 ⟨xs,H1,I1,r,z,q⟩=>⟨by rw [<- r.length]; exact z,?_⟩)
 have hf:H1 s1.heap.objs.size=none:=I1.hok.fresh (Nat.le_refl _)
 refine ⟨.ref s1.heap.objs.size,ze H1 s1.heap.objs.size (.tup xs),I1.laid (t':=s1.toks) (fun b u e=>Heap.get?_push_of_some _ e) (Nat.le_refl _) ?_,rfl,q _ hf⟩
 exact ⟨z,us,r,⟨_,Heap.get?_push_size _ rfl,rfl,_,rfl⟩⟩
theorem Yh (h:PA X es t):PE X (.List es pos) (Z4 t):=by
 intro pins s σ H Q I hq
 refine wpAny_List_spliced (zl (h pos pins s σ H _ I hq) fun us s1 ⟨xs,H1,I1,r,z,q⟩=>⟨by rw [<- r.length]; exact z,?_⟩)
 have hf:H1 s1.heap.objs.size=none:=I1.hok.fresh (Nat.le_refl _)
 refine ⟨.ref s1.heap.objs.size,ze H1 s1.heap.objs.size (.lst xs),I1.laid (t':=s1.toks) (fun b u e=>Heap.get?_push_of_some _ e) (Nat.le_refl _) ?_,rfl,q _ hf⟩
 exact ⟨z,us,0,r,Heap.get?_push_size _ rfl⟩
end
noncomputable abbrev Sp:=List V->Hp->VK->XK->Prop
noncomputable abbrev uB:=List Env->Hp->Shared->XK->Value->Shared->Prop
structure Z6 (P:Program) (w:World) (K:PySem.W.Frag) (mg:Str->Option Value) (base:Heap) (A:Around) (outer:List Env) (s:Shared) (H:Hp):Prop where
 frames:A.frames=some outer
 mod:Mod K mg base
 bs:∀ b o,base.get? b=some o->s.heap.get? b=some o/\H b=none
 bsz:base.objs.size<=s.heap.objs.size
 funs:s.heap.FunFrames base outer
 frf:∀ b∈vH outer,H b=none
 hok:ye P w H s.heap
 bare:AllBare s.gens
noncomputable def CE (outer:List Env) (P:Program) (w:World) (H:Hp) (s:Shared) (Q:VK) (u:Value) (s':Shared):Prop:=
 ∃ v H',s'.os=s.os/\AllBare s'.gens/\Un (vH outer) [] H H' s.heap s'.heap/\ye P w H' s'.heap/\zi v u/\Q v H'
noncomputable def CR (CX:uB) (outer:List Env) (P:Program) (w:World) (H:Hp) (s:Shared) (Q:VK) (E:XK) (r:Result) (s':Shared):Prop:=
 match r with
 | .ok (.ret u)=>CE outer P w H s Q u s'
 | .ok _=>False
 | .error e=>CX outer H s E e s'
structure v7 (P:Program) (w:World) (K:PySem.W.Frag) (mg:Str->Option Value) (base:Heap) (CX:uB) (k:Nat) (f:Addr) (fd:FuncData) (ps:List Str) (sp:Sp):Prop where
 len:∀ vs H Q E,sp vs H Q E->vs.length=ps.length
 run:∀ (A:Around) (outer:List Env) (s:Shared) (H:Hp) (args:Args) (us:List Value) (vs:List V) (Q:VK) (E:XK),yj k A->Z6 P w K mg base A outer s H->BindsTo s fd args (ps.zip us)->zb vs us->sp vs H Q E->
  codeAny (model P w) A (.call (.ref f) args) (CR CX outer P w H s Q E) s
section
variable {X:Cx} {pins:List (Addr×Obj)} {σ:St} {H:Hp} {s s':Shared}
theorem Inv.env0 (I:Inv X pins σ H s):Z6 X.prog X.w X.K X.mg X.base X.A X.stack s H:=
 ⟨I.ok.frames,I.ok.mod,I.bs,Nat.le_trans I.ok.bsz I.sz,I.stack,I.stkFree,I.hok,I.bare⟩
theorem Inv.after {Q:VK} {u:Value} (I:Inv X pins σ H s) (h:CE X.stack X.prog X.w H s Q u s'):EP X pins σ Q u s':=by
 obtain ⟨v,H',os,bare,un,hok,r,q⟩:=h
 obtain ⟨hh,g,d,t,os'⟩:=s'
 obtain rfl:os'=s.os:=os
 exact ⟨v,H',I.call (h':=hh) (g':=g) (d':=d) (t':=t) (ch:=[]) un hok bare (fun b z=>absurd z (by simp)),r,q⟩
end
noncomputable def VV (sp:Sp) (dvs:List V) (E:XK) (t:TA):TE:=fun σ H Q=>t σ H fun vs H1=>sp (vs++dvs) H1 Q E
noncomputable def uA (K:PySem.W.Frag) (fd:FuncData) (ps:List Str) (ds:List Value):Prop:=
 ∀ (s:Shared) (us:List Value),K.In s.heap->(us++ds).length=ps.length->BindsTo s fd ⟨us,[]⟩ (ps.zip (us++ds))
theorem uA.all {K:PySem.W.Frag} {fd:FuncData} {ps:List Str} (h:∀ us:List Value,us.length=ps.length->bindArgs fd ⟨us,[]⟩=pure (ps.zip us)):uA K fd ps []:=fun s us _ hl=>by
 rw [List.append_nil] at hl ⊢
 exact .of_eq (h us hl)
noncomputable def ZE (CX:uB) (X:Cx) (E:XK):Prop:=∀ (pins:List (Addr×Obj)) (σ:St) (H:Hp) (s:Shared) (e:Value) (s':Shared),Inv X pins σ H s->CX X.stack H s E e s'->X.xe e s'
section
variable {X:Cx} {CX:uB} {k:Nat} {f C:Addr} {fd:FuncData} {ps:List Str} {sp:Sp} {dvs:List V} {ds:List Value} {E:XK} {x m:Str} {p pos apos:Pos} {e o:Expr} {es:List Expr} {ta:TE} {t:TA}
theorem VC {pins:List (Addr×Obj)} {σ:St} {H:Hp} {s:Shared} {Q:VK} {us:List Value} {vs:List V} (F:v7 X.prog X.w X.K X.mg X.base CX k f fd ps sp) (hr:yj k X.A) (hb:uA X.K fd ps ds) (hd:zb dvs ds) (hx:ZE CX X E)
  (I:Inv X pins σ H s) (r:zb vs us) (h:sp (vs++dvs) H Q E):wpAny (model X.prog X.w) X.A (call (.ref f) us) (EP X pins σ Q) X.xe s:=by
 have r2:zb (vs++dvs) (us++ds):=r.append hd
 have hl:(us++ds).length=ps.length:=by rw [<- r2.length]; exact F.len _ _ _ _ h
 refine wpAny_call (codeAny_mono (F.run X.A X.stack s H ⟨us,[]⟩ (us++ds) (vs++dvs) Q E hr I.env0 (hb s us I.kIn hl) r2 h) fun r s' hq=>?_)
 cases r with
 | error e=>exact hx pins σ H s e s' I hq
 | ok fl=>
  cases fl with
  | ret u=>exact I.after hq
  | next=>exact False.elim hq
  | brk=>exact False.elim hq
  | cont=>exact False.elim hq
theorem Dg (F:v7 X.prog X.w X.K X.mg X.base CX k f fd ps sp) (hr:yj k X.A) (hg:Gl X x) (hm:X.mg x=some (.ref f)) (hk:PySem.W.keepIn X.K (.ref f)=true) (hb:uA X.K fd ps ds) (hd:zb dvs ds) (hx:ZE CX X E)
  (ha:PA X (e::es) t) (hdb:(x == ("__debug__" : Str))=false:=by decide) (he:starEach (e::es) X.env=(false,eval e X.env)::starEach es X.env:=by rfl) (hpl:(backTo pos (starEach es X.env)).any (·.1)=false:=by rfl) :
  PE X (.Call (.Name x p) (e::es) [] pos) (VV sp dvs E t):=by
 intro pins s σ H Q I h
 refine wpAny_Call_Name_kw (WT I hg hm ?_ hdb)
 refine PySem.W.callWith_K (h₀:=X.base) I.ok.mod.kin hk (zl (ha pos pins s σ H _ I h) fun us s1 ⟨vs,H1,I1,r,q⟩=>⟨I1.kIn,?_⟩) he hpl
 exact VC F hr hb hd hx I1 r q
theorem Dh (F:v7 X.prog X.w X.K X.mg X.base CX k f fd ps sp) (hr:yj k X.A) (hg:Gl X x) (hm:X.mg x=some (.ref f)) (hk:PySem.W.keepIn X.K (.ref f)=true) (hb:uA X.K fd ps ds) (hd:zb dvs ds) (hx:ZE CX X E)
  (hdb:(x == ("__debug__" : Str))=false:=by decide):PE X (.Call (.Name x p) [] [] pos) (VV sp dvs E qz):=by
 intro pins s σ H Q I h
 refine wpAny_Call_Name_kw (WT I hg hm ?_ hdb)
 exact PySem.W.callWith_K0 I.kIn hk (VC (us:=[]) F hr hb hd hx I .nil h)
end
section
variable {X:Cx} {CX:uB} {k:Nat} {f C:Addr} {fd:FuncData} {ps ks:List Str} {sp:Sp} {E:XK} {x m:Str} {p pos apos kpos:Pos} {e o:Expr} {es:List Expr} {kws:List Keyword} {te ta:TE} {t tk:TA} {nm:Option Str}
variable {g:List Value->List Value->List Value} {gV:List V->List V->List V}
end
structure y9 (N P:List Str) (sc:Scope):Prop where
 kind:sc.kind=.function
 co:sc.isCoroutine=false
 gen:sc.isGenerator=false
 nd:N.Nodup
 pre:N.take P.length=P
 par:∀ x∈P,sc.names.lookup x=some .local\/sc.names.lookup x=some .cell
 nofree:∀ y∈sc.names,y.2≠.free
theorem UD {kindOf:Str->Option NameKind} {x:Str}:∀ {binds:List (Str×Value)} {m:Str->Option Value},(∀ v,(x,v) ∉ binds)->bindL kindOf binds m x=m x
 | [],_,_=>rfl
 | (n,v)::r,m,h=>by
  unfold bindL
  rw [UD fun w hw=>h w (List.mem_cons_of_mem _ hw)]
  split
  ·have:x≠n:=by rintro rfl; exact h v List.mem_cons_self
   simp [this]
  ·rfl
theorem UB {kindOf:Str->Option NameKind} {x:Str}:∀ {binds:List (Str×Value)} {m:Str->Option Value},(∀ v,(x,v) ∉ binds)->bindC kindOf binds m x=m x
 | [],_,_=>rfl
 | (n,v)::r,m,h=>by
  unfold bindC
  rw [UB fun w hw=>h w (List.mem_cons_of_mem _ hw)]
  split
  ·rfl
  ·have:x≠n:=by rintro rfl; exact h v List.mem_cons_self
   simp [this]
theorem UC {kindOf:Str->Option NameKind} {x:Str} {v:Value}:∀ {P:List Str} {vs:List Value} {i:Nat} {m:Str->Option Value},P.Nodup->P[i]?=some x->vs[i]?=some v->kindOf x=some .local->
  bindL kindOf (P.zip vs) m x=some v
 | [],_,_,_,_,h,_,_=>by simp at h
 | _::_,[],_,_,_,_,h,_=>by simp at h
 | p::P,w::vs,0,m,nd,h1,h2,hk=>by
  simp at h1 h2; subst h1; subst h2
  show bindL kindOf ((p,w)::P.zip vs) m p=_
  unfold bindL
  rw [UD fun v hv=>(List.nodup_cons.mp nd).1 (List.of_mem_zip hv).1,if_pos hk]
  simp
 | p::P,w::vs,i+1,m,nd,h1,h2,hk=>by
  show bindL kindOf ((p,w)::P.zip vs) m x=_
  unfold bindL
  exact UC (i:=i) (List.nodup_cons.mp nd).2 (by simpa using h1) (by simpa using h2) hk
theorem UA {kindOf:Str->Option NameKind} {x:Str} {v:Value}:∀ {P:List Str} {vs:List Value} {i:Nat} {m:Str->Option Value},P.Nodup->P[i]?=some x->vs[i]?=some v->kindOf x≠some .local->
  bindC kindOf (P.zip vs) m x=some v
 | [],_,_,_,_,h,_,_=>by simp at h
 | _::_,[],_,_,_,_,h,_=>by simp at h
 | p::P,w::vs,0,m,nd,h1,h2,hk=>by
  simp at h1 h2; subst h1; subst h2
  show bindC kindOf ((p,w)::P.zip vs) m p=_
  unfold bindC
  rw [UB fun v hv=>(List.nodup_cons.mp nd).1 (List.of_mem_zip hv).1,if_neg hk]
  simp
 | p::P,w::vs,i+1,m,nd,h1,h2,hk=>by
  show bindC kindOf ((p,w)::P.zip vs) m x=_
  unfold bindC
  exact UA (i:=i) (List.nodup_cons.mp nd).2 (by simpa using h1) (by simpa using h2) hk
noncomputable def start (N:List Str) (vs:List V):St:=vs.map some++List.replicate (N.length - vs.length) none
noncomputable def ut (CX:uB) (P:Program) (w:World) (K:PySem.W.Frag) (mg:Str->Option Value) (base:Heap) (N:List Str) (qual:Str) (scope:Scope) (f:Addr) (cd:Value) (A:Around) (outer:List Env) (s:Shared) (H:Hp) (E:XK):Cx where
 prog:=P
 w:=w
 K:=K
 mg:=mg
 base:=base
 A:=A.deeper (envOfC qual scope s.heap.objs.size f cd)
 N:=N
 s₀:=s
 H₀:=H
 env:=envOfC qual scope s.heap.objs.size f cd
 outer:=outer
 stack:=envOfC qual scope s.heap.objs.size f cd::outer
 ex:=[]
 calm:=true
 fn:=fun _=>true
 pn:=[]
 xe:=fun e s'=>wpAny (model P w) (A.deeper (envOfC qual scope s.heap.objs.size f cd)) (leaving (envOfC qual scope s.heap.objs.size f cd) e) (fun _ s''=>CX outer H s E e s'') (fun e' s''=>CX outer H s E e' s'') s'
theorem UR {sc:Scope} {n:Nat} {x:Str} (h:sc.names.lookup x=some .cell):∃ c,(cellsFrom n sc.names []).lookup x=some c:=by
 have q:=PySem.W.cellsFrom_some sc.names n [] (.inl h)
 exact Option.isSome_iff_exists.mp q
theorem MB {CX:uB} {P:Program} {w:World} {K:PySem.W.Frag} {mg:Str->Option Value} {base:Heap} {N ps:List Str} {qual:Str} {scope:Scope} {f:Addr} {cd:Value} {A:Around} {outer:List Env} {s s1:Shared} {H:Hp} {E:XK} {us:List Value} {vs:List V}
  (S:y9 N ps scope) (hd:A.handled=none) (e0:Z6 P w K mg base A outer s H) (hl:vs.length=ps.length) (r:zb vs us)
  (x:InCallC s s.heap.objs.size (bindL (envOfC qual scope s.heap.objs.size f cd).kindOf (ps.zip us) fun _=>none) (cellsFrom (s.heap.objs.size+1) scope.names []) (bindC (envOfC qual scope s.heap.objs.size f cd).kindOf (ps.zip us) fun _=>none) s1) :
  Inv (ut CX P w K mg base N qual scope f cd A outer s H E) [] (start N vs) H s1:=by
 have hpl:ps.length<=N.length:=by have:=congrArg List.length S.pre; rw [List.length_take] at this; omega
 obtain ⟨h1,tk,rfl,hk⟩:=x.done
 have noA:∀ b:Addr,b ∉ (ut CX P w K mg base N qual scope f cd A outer s H E).ex:=fun b z=>absurd (show b∈([]:List Addr) from z) (by simp)
 refine ⟨⟨e0.mod,S.kind,rfl,rfl,Nat.le_refl _,fun y z c h1 h2=>?_,fun y hy=>?_,fun y c _ h=>?_,fun _=>hd,Around.frames_deeper e0.frames,.inr ⟨rfl,rfl⟩,fun b z=>absurd z (noA b),e0.bs,e0.bsz,fun b _ _=>noA b,fun b z=>absurd z (noA b),e0.funs,e0.frf⟩,
  rfl,e0.bare,Un.kept hk,⟨_,x.toInCall.ns,fun i y v h1 h2 h3=>?_⟩,fun y c h=>⟨_,x.cell y c h⟩,e0.hok.fresh (Nat.le_refl _),fun y c h=>?_,fun p hp=>absurd (show p∈([]:List (Addr×Obj)) from hp) (by simp),e0.hok.kept hk,?_⟩
 ·exact name_of_addr x.apart (PySem.mem_of_lookup h1) (PySem.mem_of_lookup h2)
 ·have hy:scope.names.lookup y=some .cell\/scope.names.lookup y=some .free:=hy
  rcases hy with hy | hy
  ·exact UR hy
  ·exact absurd rfl (S.nofree _ (PySem.mem_of_lookup hy))
 ·exact Nat.le_of_lt (x.above y c (PySem.mem_of_lookup h))
 ·have hi:i<vs.length:=by
   unfold start at h2
   by_cases hi:i<vs.length
   ·exact hi
   ·rw [List.getElem?_append_right (by simpa using hi)] at h2
    rw [List.getElem?_replicate] at h2
    split at h2<;>cases h2
  have ha:vs[i]?=some v:=by
   unfold start at h2
   rw [List.getElem?_append_left (by simpa using hi),List.getElem?_map] at h2
   cases e:vs[i]? with
   | none=>rw [e] at h2; cases h2
   | some a=>rw [e] at h2; cases h2; rfl
  obtain ⟨u,hu,rv⟩:=r.get ha
  have hp:ps[i]?=some y:=by
   rw [<- S.pre,List.getElem?_take_of_lt (by omega)]; exact h1
  have ndP:ps.Nodup:=by rw [<- S.pre]; exact S.nd.sublist (List.take_sublist _ _)
  refine ⟨u,rv,?_⟩
  rcases S.par y (List.mem_of_getElem? hp) with k | k
  ·exact .inl ⟨k,UC ndP hp hu k⟩
  ·obtain ⟨c,e⟩:=UR (n:=s.heap.objs.size+1) k
   refine .inr ⟨.inl k,c,e,?_⟩
   have q:=x.cell y c e
   rw [UA ndP hp hu (by show scope.names.lookup y≠_; rw [k]; decide)] at q
   exact q
 ·exact e0.hok.fresh (Nat.le_of_lt (x.above y c (PySem.mem_of_lookup h)))
 ·unfold start
  show _=N.length
  rw [List.length_append,List.length_map,List.length_replicate]
  omega
theorem LC {CX:uB} {P:Program} {w:World} {K:PySem.W.Frag} {mg:Str->Option Value} {base:Heap} {k:Nat} {f:Addr} {name qual:Str} {params:Arguments} {body:List Stmt} {scope:Scope} {dV kV doc pm cdv ct oc:Value} {an od:Option Addr}
  {osl:Array (Option Value)} {N ps:List Str} {sp:Sp} (lk:K.lookup f=some ⟨oc,od,.func (PySem.W.fnOf name qual params body scope dV kV doc pm an cdv ct),osl⟩) (hcd:PySem.W.codeIn K cdv qual=true) (S:y9 N ps scope)
  (len:∀ vs H Q E,sp vs H Q E->vs.length=ps.length)
  (hbody:∀ (A:Around) (outer:List Env) (s:Shared) (H:Hp) (vs:List V) (Q:VK) (E:XK),yj k (A.deeper (envOfC qual scope s.heap.objs.size f cdv))->sp vs H Q E->
   ∃ t,wD (ut CX P w K mg base N qual scope f cdv A outer s H E) body t/\t { nx:=fun _ H'=>Q .non H',rt:=Q } (start N vs) H) :
  v7 P w K mg base CX (k+1) f (PySem.W.fnOf name qual params body scope dV kV doc pm an cdv ct) ps sp:=by
 refine ⟨len,fun A outer s H args us vs Q E hr e0 hb r hsp=>?_⟩
 have hl:=len _ _ _ _ hsp
 have KX:K.In s.heap:=e0.mod.kin.keeps fun b o e=>(e0.bs b o e).1
 have lim:s.heap.NoLimit:=e0.mod.nolimit.keeps fun b o e=>(e0.bs b o e).1
 have hkind:∀ y∈ps.zip us,scope.names.lookup y.1=some .local\/(scope.names.lookup y.1=some .cell/\((cellsFrom (s.heap.objs.size+1) scope.names []).lookup y.1).isSome=true):=fun ⟨n,v⟩ hy=>by
  rcases S.par n (List.of_mem_zip hy).1 with q | q
  ·exact .inl q
  ·exact .inr ⟨q,PySem.W.cellsFrom_some _ _ _ (.inl q)⟩
 refine codeAny_call_function hr.depth (KX _ _ lk) rfl S.co S.gen rfl (PySem.W.codeRec_of KX hcd) (hb _ _ _ _ ?_)
 refine wpAny_newFunctionEnv_cells S.kind hkind fun env he s1 x=>?_
 subst he
 refine ⟨lim.keeps x.toInCall.keep,codeAny_func ?_⟩
 obtain ⟨t,ht,hq⟩:=hbody A outer s H vs Q E (hr.deeper _) hsp
 have I:Inv (ut CX P w K mg base N qual scope f cdv A outer s H E) [] (start N vs) H s1:=MB S hr.hd e0 hl r x
 refine wpAny_mono (ht [] s1 (start N vs) H _ I hq) (fun fl s' hs=>?_) fun e s' hs=>hs
 have fin:∀ {σ':St} {H':Hp} {v:V} {u:Value},Inv (ut CX P w K mg base N qual scope f cdv A outer s H E) [] σ' H' s'->zi v u->Q v H'->CE outer P w H s Q u s':=
  fun {σ' H' v u} J rv q=>⟨v,H',J.os,J.bare,J.base,J.hok,rv,q⟩
 cases fl with
 | ret u=>
  obtain ⟨v,σ',H',J,rv,q⟩:=hs
  exact fin J rv q
 | next=>
  obtain ⟨σ',H',J,q⟩:=hs
  exact fin (v:=V.non) (u:=Value.none) J rfl q
 | brk=>
  obtain ⟨_,_,_,q⟩:=hs
  exact False.elim q
 | cont=>
  obtain ⟨_,_,_,q⟩:=hs
  exact False.elim q
end L2
namespace L2
open PySem PySem.Spec PyProof.Rows
section
variable {X:Cx} {x:Str} {p pos:Pos} {e:Expr} {es:List Expr} {t:TA} {id T:String} {r:List V->Hp->VK->Prop}
noncomputable def X2 (r:List V->Hp->VK->Prop) (t:TA):TE:=fun σ H Q=>t σ H fun vs H1=>r vs H1 Q
theorem Di (hc:xi X (.builtin id) r) (hg:Gl X x) (hm:X.mg x=none) (hv:bootBuiltins x=some (.builtin id)) (ha:PA X (e::es) t) (hn:x ≠ "__name__" := by decide) (hdb:(x == ("__debug__" : Str))=false:=by decide)
  (he:starEach (e::es) X.env=(false,eval e X.env)::starEach es X.env:=by rfl) (hpl:(backTo pos (starEach es X.env)).any (·.1)=false:=by rfl):PE X (.Call (.Name x p) (e::es) [] pos) (X2 r t):=by
 intro pins s σ H Q I h
 refine wpAny_Call_Name_kw (YQ I hg hm hv ?_ hn hdb)
 exact PyProof.Rows.callWith_builtin1 (zl (ha pos pins s σ H _ I h) fun us s1 ⟨vs,H1,I1,r1,q1⟩=>hc pins s1 σ H1 vs us Q I1 r1 q1) he hpl
theorem Dj (hc:xi X (.type T) r) (hg:Gl X x) (hm:X.mg x=none) (hv:bootBuiltins x=some (.type T)) (ha:PA X (e::es) t) (hn:x ≠ "__name__" := by decide) (hdb:(x == ("__debug__" : Str))=false:=by decide)
  (he:starEach (e::es) X.env=(false,eval e X.env)::starEach es X.env:=by rfl) (hpl:(backTo pos (starEach es X.env)).any (·.1)=false:=by rfl):PE X (.Call (.Name x p) (e::es) [] pos) (X2 r t):=by
 intro pins s σ H Q I h
 refine wpAny_Call_Name_kw (YQ I hg hm hv ?_ hn hdb)
 exact PyProof.Rows.callWith_type1 (zl (ha pos pins s σ H _ I h) fun us s1 ⟨vs,H1,I1,r1,q1⟩=>hc pins s1 σ H1 vs us Q I1 r1 q1) he hpl
end
end L2
namespace HT
open PySem PyProof.Rows
section
open PySem.SeqAt
open PySem.AutoSeq1 (wpAny_loadPart')
open PySem.MeetsSeq PySem.MeetsSeq2 PySem.MeetsSeq3
end
section
variable {prog:Program} {w:World} {A:Around} {E:Value->Shared->Prop} {s:Shared}
theorem cat_tup {t b:Addr} {vs ws:List Value} {Q:Value->Shared->Prop} (ht:IsTup s.heap t vs.toArray) (hb:IsTup s.heap b ws.toArray) (hv:vs≠[])
  (h1:ws=[]->Q (.ref t) s) (h2:ws≠[]->Q (.ref s.heap.objs.size) { s with heap:=s.heap.push { cls:=.type "tuple",data:=.seq (vs++ws).toArray } })
  (hsz:vs.length+ws.length<=sizeLine):wpAny (model prog w) A (binaryOp .Add (.ref t) (.ref b)) Q E s:=by
 obtain ⟨⟨cls,dd,data,sl⟩,ho,hc,n,hd⟩:=id ht
 obtain ⟨⟨cls2,dd2,data2,sl2⟩,ho2,hc2,n2,hd2⟩:=id hb
 simp only at hc hd hc2 hd2
 subst hc hd hc2 hd2
 have e:vs.toArray++ws.toArray=(vs++ws).toArray:=by simp
 by_cases hw:ws=[]
 ·exact concat_meets ⟨_,ho,rfl⟩ ⟨_,ho2,rfl⟩ noFill_tuple_add seq_tuple_add PySem.F.slot_tuple_add PySem.F.entry_tuple_add (PySem.F.args_tuple_add_2 _ _)
   (tuple_addW1 t b vs.toArray ws.toArray n n2 dd dd2 sl sl2 (by simpa using hv) (by simp [hw])) ⟨ho,ho2,h1 hw⟩
 ·refine concat_meets ⟨_,ho,rfl⟩ ⟨_,ho2,rfl⟩ noFill_tuple_add seq_tuple_add PySem.F.slot_tuple_add PySem.F.entry_tuple_add (PySem.F.args_tuple_add_2 _ _)
   (tuple_addW2 t b vs.toArray ws.toArray n n2 dd dd2 sl sl2 (by simpa using hv) (by simpa using hw) (by rw [List.size_toArray,List.size_toArray]; exact hsz)) ⟨ho,ho2,?_⟩
  rw [e]
  exact h2 hw
noncomputable def sIx (n d:Nat):Option Int->Nat
 | none=>d
 | some v=>if v<0 then (v+(n:Int)).toNat else min v.toNat n
theorem sIx_nat (n d k:Nat):sIx n d (some (k:Int))=min k n:=by
 show (if (k:Int)<0 then ((k:Int)+(n:Int)).toNat else min (k:Int).toNat n)=min k n
 rw [if_neg (by omega),Int.toNat_natCast]
theorem sIx_le (n d:Nat) (hd:d<=n) (o:Option Int):sIx n d o<=n:=by
 cases o with
 | none=>exact hd
 | some v=>
  show (if v<0 then (v+(n:Int)).toNat else min v.toNat n)<=n
  by_cases hv:v<0
  ·rw [if_pos hv]; omega
  ·rw [if_neg hv]; exact Nat.min_le_right _ _
theorem US (v:Int) (n d:Nat):(if v<0 then max (v+(n:Int)) 0 else min v (n:Int))=((sIx n d (some v):Nat):Int):=by
 show (if v<0 then max (v+(n:Int)) 0 else min v (n:Int))=(((if v<0 then (v+(n:Int)).toNat else min v.toNat n):Nat):Int)
 by_cases hv:v<0
 ·simp only [if_pos hv]; omega
 ·simp only [if_neg hv]; omega
theorem O3 (lo hi:Option Int) (n:Nat):Builtin.Slice.sliceAdjust lo hi 1 (n:Int)=(((sIx n 0 lo:Nat):Int),((sIx n n hi:Nat):Int)):=by
 have h1:¬ ((1:Int)<0):=by omega
 unfold Builtin.Slice.sliceAdjust
 simp only [h1,if_false]
 refine Prod.ext ?_ ?_
 ·cases lo with
  | none=>rfl
  | some v=>exact US v n 0
 ·cases hi with
  | none=>rfl
  | some v=>exact US v n n
theorem FU (i j:Nat):Builtin.Slice.slicePlaces (i:Int) (j:Int) 1=j - i:=by
 unfold Builtin.Slice.slicePlaces
 have h1:(1:Int) > 0:=by omega
 simp only [h1,if_true,Int.ediv_one]
 split<;>omega
theorem Jy {v:Value} {o:Option Int} {Q:Option Int->Shared->Prop} (p:IsPart v o) (h:Q o s):wpAny (model prog w) A (Builtin.Slice.slicePartIndex v) Q E s:=by
 cases p with
 | none=>exact slicePart_none h
 | int i t=>exact slicePart_int h
theorem Ez {sl:Addr} {vl vu:Value} {lo hi:Option Int} {n:Nat} {Q:Int×Int×Nat->Shared->Prop} (hs:s.heap.IsSliceOf sl vl vu .none) (pl:IsPart vl lo) (pu:IsPart vu hi)
  (h:Q (((sIx n 0 lo:Nat):Int),1,sIx n n hi - sIx n 0 lo) s):wpAny (model prog w) A (Builtin.Slice.sliceApplied (.ref sl) (pure (n:Int))) Q E s:=by
 obtain ⟨os,hos,hcs,hds⟩:=id hs
 unfold Builtin.Slice.sliceApplied Builtin.Slice.sliceFields
 refine wpAny_bind (wpAny_bind (wpAny_field hos hds (x:=vl) rfl (wpAny_bind (wpAny_field hos hds (x:=vu) rfl (wpAny_bind (wpAny_field hos hds (x:=.none) rfl (wpAny_pure ?_)))))))
 refine wpAny_bind (slicePart_none ?_)
 show wpAny _ _ (if ((1:Int) == 0)=true then _ else _) _ _ s
 rw [if_neg (by decide)]
 refine wpAny_bind (Jy pl (wpAny_bind (Jy pu (wpAny_bind (wpAny_pure ?_)))))
 show wpAny _ _ (match Builtin.Slice.sliceAdjust lo hi 1 (n:Int) with | (lo,hi)=>pure (lo,(1:Int),Builtin.Slice.slicePlaces lo hi 1)) _ _ s
 rw [O3 lo hi n]
 show wpAny _ _ (pure (((sIx n 0 lo:Nat):Int),(1:Int),Builtin.Slice.slicePlaces ((sIx n 0 lo:Nat):Int) ((sIx n n hi:Nat):Int) 1)) _ _ s
 rw [FU]
 exact wpAny_pure h
theorem FJ (xs:Array Value) (i k:Nat):((List.range k).filterMap fun (m:Nat)=>xs[((i:Int)+(m:Int)*1).toNat]?).toArray=((xs.toList.drop i).take k).toArray:=by
 have e:(fun (m:Nat)=>xs[((i:Int)+(m:Int)*1).toNat]?)=fun m=>xs[i+m]?:=by
  funext m
  have:((i:Int)+(m:Int)*1).toNat=i+m:=by omega
  rw [this]
 rw [e]
 have:=pick_run xs i k
 rw [List.filterMap_map] at this
 have e2:((fun x=>xs[x]?) ∘ fun x=>i+x)=fun m=>xs[i+m]?:=rfl
 rw [e2] at this
 rw [this]
theorem getItem_tuple_cut {t sl:Addr} {items:Array Value} {vl vu:Value} {lo hi:Option Int} {Q:Value->Shared->Prop} (ht:IsTup s.heap t items) (hs:s.heap.IsSliceOf sl vl vu .none) (pl:IsPart vl lo) (pu:IsPart vu hi)
  (hw:¬ (sIx items.size 0 lo=0/\sIx items.size items.size hi=items.size))
  (h:Q (.ref s.heap.objs.size) { s with heap:=s.heap.push { cls:=.type "tuple",data:=.seq ((items.toList.drop (sIx items.size 0 lo)).take (sIx items.size items.size hi - sIx items.size 0 lo)).toArray } })
  (hsz:items.size<=sizeLine):wpAny (model prog w) A (getItem (.ref t) (.ref sl)) Q E s:=by
 have htake:sizeOk (.seq ((items.toList.drop (sIx items.size 0 lo)).take (sIx items.size items.size hi - sIx items.size 0 lo)).toArray):=by
  show ((items.toList.drop (sIx items.size 0 lo)).take (sIx items.size items.size hi - sIx items.size 0 lo)).toArray.size<=sizeLine
  rw [List.size_toArray,List.length_take,List.length_drop,Array.length_toList]
  omega
 have hj:sIx items.size items.size hi<=items.size:=sIx_le _ _ (Nat.le_refl _) hi
 obtain ⟨os,hos,hcs,hds⟩:=id hs
 have hTs:s.TypeIs (.ref sl) "slice" := ⟨os,hos,hcs⟩
 unfold getItem
 try with_reducible refine wpAny_holding ?_
 first | refine wpAny_bind (wpAny_pure ?_) | skip
 refine wpAny_bind (wpAny_sequenceKey ht.typeIs (by decide) ?_)
 refine wpAny_bind (wpAny_callSpecial?_slot (name:=Str.ofString "__getitem__") ht.typeIs PyProof.Rows.slot_tuple_getitem
  (wpAny_call_entry PyProof.Rows.slot_tuple_getitem ht.typeIs entry_tuple_getitem ?_ (args_tuple_getitem _ _)))
 show wpAny _ _ (Builtin.Tuple.tupleItemsOf (.ref t) >>= _) _ _ s
 refine wpAny_bind (tupleItemsOf_ ht ?_)
 refine wpAny_bind (wpAny_typeOf hTs ?_)
 rw [if_pos (by decide)]
 refine wpAny_bind (Ez hs pl pu ?_)
 have hno:¬ ((((sIx items.size 0 lo:Nat):Int) == 0&&(1:Int) == 1&&(sIx items.size items.size hi - sIx items.size 0 lo) == items.size)=true):=by
  intro q
  rw [Bool.and_eq_true,Bool.and_eq_true] at q
  have q1:((sIx items.size 0 lo:Nat):Int)=0:=eq_of_beq q.1.1
  have q2:sIx items.size items.size hi - sIx items.size 0 lo=items.size:=eq_of_beq q.2
  exact hw ⟨by omega,by omega⟩
 show wpAny _ _ (if (((sIx items.size 0 lo:Nat):Int) == 0&&(1:Int) == 1&&(sIx items.size items.size hi - sIx items.size 0 lo) == items.size)=true then _ else _) _ _ s
 rw [if_neg hno,FJ]
 first
  | exact wpAny_bind (m:=Builtin.Tuple.tupleExact _) (wpAny_newObj_type (wpAny_pure ⟨_,rfl,wpAny_pure h⟩) htake)
  | exact wpAny_bind (m:=Builtin.Tuple.tupleExact _) (wpAny_newObj_type (wpAny_bind (wpAny_pure (wpAny_pure ⟨_,rfl,wpAny_pure h⟩))) htake)
  | exact wpAny_bind (wpAny_bind (m:=Builtin.Tuple.tupleExact _) (wpAny_newObj_type (wpAny_pure (wpAny_pure ⟨_,rfl,wpAny_pure h⟩)) htake))
  | exact wpAny_bind (wpAny_bind (m:=Builtin.Tuple.tupleExact _) (wpAny_newObj_type (wpAny_pure ⟨_,rfl,wpAny_pure h⟩) htake))
end
end HT
namespace L2
open PySem PySem.Spec PyProof.Rows
noncomputable abbrev TO:=St->Hp->(Option Int->Hp->Prop)->Prop
noncomputable def PO (X:Cx) (e:Option Expr) (t:TO):Prop:=
 ∀ (pins:List (Addr×Obj)) (s:Shared) (σ:St) (H:Hp) (Q:Option Int->Hp->Prop),Inv X pins σ H s->t σ H Q->
  wpAny (model X.prog X.w) X.A (evalPart e X.env) (fun u s'=>∃ o H',Inv X pins σ H' s'/\IsPart u o/\Q o H') X.xe s
noncomputable def Gc:TO:=fun _ H Q=>Q none H
noncomputable def Gg (t:TE):TO:=fun σ H Q=>t σ H fun x H1=>∃ i,x=.int i/\Q (some i) H1
section
variable {X:Cx} {e:Expr} {te:TE} {lo hi:Option Expr} {tl th:TO} {pos p2:Pos}
theorem FW:PO X none Gc:=by
 intro pins s σ H Q I h
 rw [evalPart_none]
 exact wpAny_pure ⟨none,H,I,.none,h⟩
theorem FY (h:PE X e te):PO X (some e) (Gg te):=by
 intro pins s σ H Q I hw
 rw [evalPart_some]
 refine zl (h pins s σ H _ I hw) fun u s1 ⟨x,H1,I1,r1,q1⟩=>?_
 obtain ⟨i,rfl,q⟩:=q1
 obtain ⟨t,rfl⟩:=r1
 exact ⟨some i,H1,I1,.int i t,q⟩
noncomputable def uo (X:Cx) (r:V->Option Int->Option Int->Hp->VK->Prop):Prop:=
 ∀ (pins:List (Addr×Obj)) (s:Shared) (σ:St) (H:Hp) (x:V) (v vl vu:Value) (lo hi:Option Int) (sl:Addr) (Q:VK),Inv X pins σ H s->zi x v->s.heap.IsSliceOf sl vl vu .none->IsPart vl lo->IsPart vu hi->r x lo hi H Q->
  ∃ T id,typeLookup (.type T) "__getitem__" = pure (some (.builtin id))/\s.TypeIs v T/\wpAny (model X.prog X.w) X.A (getItem v (.ref sl)) (EP X pins σ Q) X.xe s
theorem uo.or {r r':V->Option Int->Option Int->Hp->VK->Prop} (h:uo X r) (h':uo X r'):uo X (fun x lo hi H Q=>r x lo hi H Q\/r' x lo hi H Q):=by
 intro pins s σ H x v vl vu lo hi sl Q I rx hs pl pu q
 rcases q with q | q
 ·exact h pins s σ H x v vl vu lo hi sl Q I rx hs pl pu q
 ·exact h' pins s σ H x v vl vu lo hi sl Q I rx hs pl pu q
noncomputable def Gk (r:V->Option Int->Option Int->Hp->VK->Prop) (te:TE) (tl th:TO):TE:=fun σ H Q=>te σ H fun x H1=>tl σ H1 fun l H2=>th σ H2 fun u H3=>r x l u H3 Q
theorem Dt {r:V->Option Int->Option Int->Hp->VK->Prop} (hr:uo X r) (he:PE X e te) (hl:PO X lo tl) (hu:PO X hi th):PE X (.Subscript e (.Slice lo hi none p2) pos) (Gk r te tl th):=by
 intro pins s σ H Q I h
 refine Subscript_ (zl (he pins s σ H _ I h) fun v s1 ⟨x,H1,I1,r1,q1⟩=>?_)
 refine wpAny_Slice (zl (hl pins s1 σ H1 _ I1 q1) fun vl s2 ⟨l,H2,I2,pl,q2⟩=>zl (hu pins s2 σ H2 _ I2 q2) fun vu s3 ⟨u,H3,I3,pu,q3⟩=>?_)
 rw [evalPart_none]
 refine wpAny_pure ?_
 have I4:Inv X pins σ H3 { s3 with heap:=s3.heap.push { cls:=.type "slice",data:=.fields #[vl,vu,.none] } }:=I3.kept (t':=s3.toks) fun b ob q=>Heap.get?_push_of_some _ q
 obtain ⟨T,id,hT,ht,hg⟩:=hr pins { s3 with heap:=s3.heap.push { cls:=.type "slice",data:=.fields #[vl,vu,.none] } } σ H3 x v vl vu l u s3.heap.objs.size Q I4 r1 (Heap.IsSliceOf.new ..) pl pu q3
 show wpAny (model X.prog X.w) X.A (subscriptTail e (.Slice lo hi none p2) v (.ref s3.heap.objs.size)) (EP X pins σ Q) X.xe { s3 with heap:=s3.heap.push { cls:=.type "slice",data:=.fields #[vl,vu,.none] } }
 exact tail_any (ops:=[.ref s3.heap.objs.size,v]) ht hT hg (by with_unfolding_all rfl)
noncomputable def tV (xs:List V) (lo hi:Option Int):List V:=(xs.drop (HT.sIx xs.length 0 lo)).take (HT.sIx xs.length xs.length hi - HT.sIx xs.length 0 lo)
theorem UY (xs:List V) (lo hi:Option Int):(tV xs lo hi).length<=xs.length:=by
 unfold tV
 rw [List.length_take,List.length_drop]
 omega
noncomputable def JQ (K:PySem.W.Frag):V->Option Int->Option Int->Hp->VK->Prop:=fun x lo hi H Q=>∃ a xs,x=.ref a/\yU K H a xs/\
 ¬ (HT.sIx xs.length 0 lo=0/\HT.sIx xs.length xs.length hi=xs.length)/\∀ p,H p=none->Q (.ref p) (ze H p (.tup (tV xs lo hi)))
theorem Ey:uo X (JQ X.K):=by
 intro pins s σ H x v vl vu lo hi sl Q I rx hs pl pu h
 obtain ⟨a,xs,rfl,hx,hw,q⟩:=h
 cases rx
 obtain ⟨its,r,ht,hz⟩:=I.tuple hx
 have hlen:its.toArray.size=xs.length:=by rw [List.size_toArray]; exact r.length.symm
 refine ⟨"tuple",_,PyProof.Rows.slot_tuple_getitem.lookup,ht.typeIs,?_⟩
 refine HT.getItem_tuple_cut ht hs pl pu (by rw [hlen]; exact hw) ?_ (by rw [hlen]; exact hz)
 rw [hlen]
 refine ⟨.ref s.heap.objs.size,_,I.laid (t':=s.toks) (o:=.tup (tV xs lo hi)) (fun b ob q=>Heap.get?_push_of_some _ q) (Nat.le_refl _) ?_,rfl,q _ (I.hok.fresh (Nat.le_refl _))⟩
 exact ⟨Nat.le_trans (UY xs lo hi) hz,_,(r.drop (HT.sIx xs.length 0 lo)).take (HT.sIx xs.length xs.length hi - HT.sIx xs.length 0 lo),IsTup.new _ _⟩
noncomputable def JH (K:PySem.W.Frag):R2:=fun x y H Q=>∃ a b xs ys,x=.ref a/\y=.ref b/\yU K H a xs/\yU K H b ys/\xs≠[]/\xs.length+ys.length<=sizeLine/\
 (ys=[]->Q (.ref a) H)/\(ys≠[]->∀ p,H p=none->Q (.ref p) (ze H p (.tup (xs++ys))))
theorem zb.nil_iff {xs:List V} {us:List Value} (r:zb xs us):us=[]↔xs=[]:=by
 cases r with
 | nil=>simp
 | cons _ _=>simp
theorem DJ:yC X (binaryOp .Add) (JH X.K):=by
 intro pins s σ H x y v u Q I rx ry h
 obtain ⟨a,b,xs,ys,rfl,rfl,ha,hb,hx,hz,q1,q2⟩:=h
 cases rx
 cases ry
 obtain ⟨its,r1,p1,_⟩:=I.tuple ha
 obtain ⟨its2,r2,p2,_⟩:=I.tuple hb
 refine HT.cat_tup p1 p2 (fun z=>hx (r1.nil_iff.mp z)) (fun z=>⟨.ref a,H,I,rfl,q1 (r2.nil_iff.mp z)⟩) (fun z=>?_) (by rw [<- r1.length,<- r2.length]; exact hz)
 refine ⟨.ref s.heap.objs.size,_,I.laid (t':=s.toks) (o:=.tup (xs++ys)) (fun b ob q=>Heap.get?_push_of_some _ q) (Nat.le_refl _) ?_,rfl,q2 (fun w=>z (r2.nil_iff.mpr w)) _ (I.hok.fresh (Nat.le_refl _))⟩
 exact ⟨by rw [List.length_append]; exact hz,_,r1.append r2,IsTup.new _ _⟩
end
end L2
namespace L2
open PySem PySem.Spec PyProof.Rows
noncomputable def ixN (n:Nat) (i:Int):Option Nat:=if 0<=i then (if i<n then some i.toNat else none) else if -(n:Int)<=i then some (i+n).toNat else none
noncomputable def wj {α:Type} (xs:List α) (i:Int):Option α:=(ixN xs.length i).bind fun j=>xs[j]?
theorem Tc {n:Nat} {i:Int} {j:Nat} (h:ixN n i=some j):seqIndex? i n=some j/\j<n /\ -(n:Int)<=i/\i<n:=by
 unfold ixN at h
 by_cases h0:0<=i
 ·rw [if_pos h0] at h
  by_cases h1:i<n
  ·rw [if_pos h1] at h
   have e:i.toNat=j:=Option.some.inj h
   exact ⟨by rw [seqIndex_of h0 h1,e],by omega,by omega,h1⟩
  ·rw [if_neg h1] at h; cases h
 ·rw [if_neg h0] at h
  by_cases h1 : -(n:Int)<=i
  ·rw [if_pos h1] at h
   have e:(i+n).toNat=j:=Option.some.inj h
   exact ⟨by rw [seqIndex_neg (by omega) h1,e],by omega,h1,by omega⟩
  ·rw [if_neg h1] at h; cases h
theorem Xb {α:Type} {xs:List α} {i:Int} {v:α} (h:wj xs i=some v):∃ j,seqIndex? i xs.length=some j/\xs[j]?=some v/\j<xs.length /\ -(xs.length:Int)<=i/\i<xs.length:=by
 unfold wj at h
 cases e:ixN xs.length i with
 | none=>rw [e] at h; cases h
 | some j=>
  rw [e] at h
  obtain ⟨h1,h2,h3,h4⟩:=Tc e
  exact ⟨j,h1,h,h2,h3,h4⟩
theorem OA {α:Type} {xs:List α} {j:Nat} {v:α} (h:xs[j]?=some v):wj xs (j:Int)=some v:=by
 have hj:j<xs.length:=(List.getElem?_eq_some_iff.mp h).1
 have e:ixN xs.length (j:Int)=some j:=by
  unfold ixN
  rw [if_pos (by omega),if_pos (by omega)]; simp
 unfold wj; rw [e]; exact h
noncomputable def Vx (b:Expr):Prop:=∀ o i,subscripted b false o i=operate [o,i] (getItem o i)
noncomputable def vU (X:Cx) (r:R2):Prop:=
 ∀ (value slice:Expr) (pins:List (Addr×Obj)) (s:Shared) (σ:St) (H:Hp) (x y:V) (v u:Value) (Q:VK),Inv X pins σ H s->zi x v->zi y u->r x y H Q->
  subscripted slice false v u=operate [v,u] (getItem v u)->wpAny (model X.prog X.w) X.A (subscriptTail value slice v u) (EP X pins σ Q) X.xe s
noncomputable def pL (X:Cx) (id:String) (r:V->List V->Hp->VK->Prop):Prop:=
 ∀ (pins:List (Addr×Obj)) (s:Shared) (σ:St) (H:Hp) (x:V) (xs:List V) (v:Value) (us:List Value) (Q:VK),Inv X pins σ H s->zi x v->zb xs us->r x xs H Q->
  wpAny (model X.prog X.w) X.A (call (.builtin id) (v::us)) (EP X pins σ Q) X.xe s
section
variable {X:Cx} {a b:Expr} {ta tb:TE} {pos:Pos}
theorem vU.or {r r':R2} (h:vU X r) (h':vU X r'):vU X (fun x y H Q=>r x y H Q\/r' x y H Q):=by
 intro value slice pins s σ H x y v u Q I rx ry q hs
 rcases q with q | q
 ·exact h value slice pins s σ H x y v u Q I rx ry q hs
 ·exact h' value slice pins s σ H x y v u Q I rx ry q hs
theorem Wq {r:R2} (hr:vU X r) (ha:PE X a ta) (hb:PE X b tb) (hs:Vx b):PE X (.Subscript a b pos) (X4 r ta tb):=by
 intro pins s σ H Q I h
 exact Subscript_ (Xi ha hb I h fun v u s2 x y H2 I2 rx ry q=>hr a b pins s2 σ H2 x y v u Q I2 rx ry q (hs _ _))
noncomputable def JK (K:PySem.W.Frag):R2:=fun x y H Q=>∃ p xs i v,x=.ref p/\y=.int i/\zy K H p xs/\wj xs i=some v/\Q v H
noncomputable def JM (K:PySem.W.Frag):R2:=fun x y H Q=>∃ p xs i v,x=.ref p/\y=.int i/\yU K H p xs/\wj xs i=some v/\Q v H
noncomputable def JL:R2:=fun x y H Q=>∃ z i c,x=.str z/\y=.int i/\z.length<=sizeLine/\wj z.cps.toList i=some c/\Q (.str ⟨#[c]⟩) H
theorem Te:vU X (JK X.K):=by
 intro value slice pins s σ H x y v u Q I rx ry h hs
 obtain ⟨p,xs,i,z,rfl,rfl,hq,he,q⟩:=h
 cases rx
 obtain ⟨t,rfl⟩:=ry
 obtain ⟨its,r,pl,hz⟩:=I.list hq
 obtain ⟨j,h1,h2,h3,h4,h5⟩:=Xb he
 obtain ⟨w,ew,rw'⟩:=r.get h2
 have hl:=r.length
 have hn:=p_
 have fin:EP X pins σ Q w s:=⟨z,H,I,rw',q⟩
 by_cases h0:0<=i
 ·have hj:i.toNat=j:=by
   rw [seqIndex_of h0 h5] at h1
   exact Option.some.inj h1
  exact item_listR pl.isList h0 (by omega) (by rw [hj]; simpa using ew) fin hs
 ·have hj:(i+(its.toArray.size:Int)).toNat=j:=by
   rw [seqIndex_neg (by omega) h4] at h1
   rw [List.size_toArray,<- hl]
   exact Option.some.inj h1
  exact subscriptTail_builtinR (x:=w) pl.isList.typeIs slot_list_getitem.lookup
   (wpAny_getItem_list_neg (Q:=fun r s'=>r=w/\EP X pins σ Q r s') pl.isList (by omega) (by rw [List.size_toArray]<;>omega) (by omega) (by rw [hj]; simpa using ew) ⟨rfl,fin⟩) hs
theorem MK:vU X (JM X.K):=by
 intro value slice pins s σ H x y v u Q I rx ry h hs
 obtain ⟨p,xs,i,z,rfl,rfl,hq,he,q⟩:=h
 cases rx
 obtain ⟨t,rfl⟩:=ry
 obtain ⟨its,r,pl,hz⟩:=I.tuple hq
 obtain ⟨j,h1,h2,h3,h4,h5⟩:=Xb he
 obtain ⟨w,ew,rw'⟩:=r.get h2
 have hl:=r.length
 have hn:=p_
 have fin:EP X pins σ Q w s:=⟨z,H,I,rw',q⟩
 exact subscriptTail_builtinR (x:=w) pl.typeIs slot_tuple_getitem.lookup
  (getItem_tuple (j:=j) (Q:=fun r s'=>r=w/\EP X pins σ Q r s') pl (by omega) (by omega) (by rw [List.size_toArray,<- hl]; exact h1) (by simpa using ew) ⟨rfl,fin⟩) hs
theorem MJ:vU X JL:=by
 intro value slice pins s σ H x y v u Q I rx ry h hs
 obtain ⟨z,i,c,rfl,rfl,hz,he,q⟩:=h
 obtain ⟨t,rfl⟩:=rx
 obtain ⟨t',rfl⟩:=ry
 obtain ⟨j,h1,h2,h3,h4,h5⟩:=Xb he
 have hl:z.cps.toList.length=z.length:=by simp [Str.length]
 rw [hl] at h1 h4 h5
 have hn:=p_
 exact tail_any (typeIs_str s z t) slot_str_getitem.lookup (getItem_str (c:=c) (by
  have e1:decide (i < -(2 ^ 63:Int))=false:=decide_eq_false (by omega)
  have e2:decide (i ≥ 2 ^ 63)=false:=decide_eq_false (by omega)
  rw [e1,e2,Bool.or_false]) (by rw [h1]; simpa using h2) ⟨.str ⟨#[c]⟩,H,I.tok _,⟨_,rfl⟩,q⟩) hs
noncomputable def V2 (K:PySem.W.Frag):R2:=fun x y H Q=>JK K x y H Q\/JM K x y H Q\/JL x y H Q
theorem MI:vU X (V2 X.K):=Te.or (MK.or MJ)
theorem Mr (its:List Value) (n j:Nat) (u:Value):Obj.mapSeq (·.setIfInBounds j u) { cls:=.type "list",data:=.seq its.toArray n }={ cls:=.type "list",data:=.seq (its.set j u).toArray n }:=by
 simp [Obj.mapSeq]
theorem Inv.lst {pins:List (Addr×Obj)} {σ:St} {H:Hp} {s:Shared} {p:Addr} {xs:List V} (I:Inv X pins σ H s) (h:H p=some (.lst xs)) :
  ∃ (its:List Value) (n:Nat),zb xs its/\s.heap.get? p=some { cls:=.type "list",data:=.seq its.toArray n }/\xs.length<=sizeLine:=by
 obtain ⟨z,its,n,r,e⟩:=I.hok p _ h
 exact ⟨its,n,r,e,z⟩
theorem Inv.lstUpd {pins:List (Addr×Obj)} {σ:St} {H:Hp} {s:Shared} {p:Addr} {xs ys:List V} {its its':List Value} {n n':Nat} {f:Obj->Obj} (I:Inv X pins σ H s) (h:H p=some (.lst xs))
  (ho:s.heap.get? p=some { cls:=.type "list",data:=.seq its.toArray n }) (hf:f { cls:=.type "list",data:=.seq its.toArray n }={ cls:=.type "list",data:=.seq its'.toArray n' }) (r:zb ys its') (hz:ys.length<=sizeLine) (t:Nat) :
  Inv X pins σ (ze H p (.lst ys)) { s with heap:=s.heap.update p f,toks:=t }:=by
 have e:(s.heap.update p f).get? p=some { cls:=.type "list",data:=.seq its'.toArray n' }:=by
  rw [Heap.get?_update_self f ho (by rw [hf]<;>rfl),hf]
 refine I.write (x:=p) (e:=p) (by rw [h]; trivial) (.inl rfl) (fun b u hb q=>(Heap.get?_update_other _ _ (Ne.symm hb)).trans q) ⟨_,e⟩ ?_
 exact ⟨hz,its',n',r,e⟩
noncomputable def C9:V->V->V->Hp->(Hp->Prop)->Prop:=fun o i v H Q=>∃ p xs k j,o=.ref p/\i=.int k/\H p=some (.lst xs)/\ixN xs.length k=some j/\Q (ze H p (.lst (xs.set j v)))
theorem Ee:XU X C9:=by
 intro pins s σ H o i v ov iv u Q I ro ri rv h
 obtain ⟨p,xs,k,j,rfl,rfl,hp,hj,q⟩:=h
 cases ro
 obtain ⟨t,rfl⟩:=ri
 obtain ⟨its,n,r,ho,hz⟩:=I.lst hp
 obtain ⟨h1,h2,h3,h4⟩:=Tc hj
 have hl:=r.length
 have hn:=p_
 have I':Inv X pins σ (ze H p (.lst (xs.set j v))) { s with heap:=s.heap.update p (Obj.mapSeq (·.setIfInBounds j u)) }:=
  I.lstUpd hp ho (Mr its n j u) (r.set rv j) (by rw [List.length_set]; exact hz) s.toks
 by_cases h0:0<=k
 ·have hk:k.toNat=j:=by
   rw [seqIndex_of h0 h4] at h1
   exact Option.some.inj h1
  exact PySem.W.ki_setAt ho h0 (by omega) (by rw [List.size_toArray,<- hl]; exact h4) (by rw [hk]; exact ⟨_,I',q⟩)
 ·have hk:(k+(its.toArray.size:Int)).toNat=j:=by
   rw [seqIndex_neg (by omega) h3] at h1
   rw [List.size_toArray,<- hl]
   exact Option.some.inj h1
  exact PySem.W.ki_setBack ho (by omega) (by rw [List.size_toArray,<- hl]; exact h3) (by omega) (by rw [hk]; exact ⟨_,I',q⟩)
theorem G4 (lo hi:Option Int) (n:Nat):(sliceBounds lo hi none n).1=((HT.sIx n 0 lo:Nat):Int)/\(sliceBounds lo hi none n).2.1=((HT.sIx n n hi:Nat):Int)/\(sliceBounds lo hi none n).2.2=1:=by
 refine ⟨?_,?_,rfl⟩
 ·cases lo with
  | none=>simp [sliceBounds,HT.sIx]
  | some i=>
   simp only [sliceBounds,HT.sIx,Option.getD_none,show (1:Int) > 0 by decide,if_true]
   by_cases h:i<0
   ·simp only [h,if_true]<;>omega
   ·simp only [h,if_false]<;>omega
 ·cases hi with
  | none=>simp [sliceBounds,HT.sIx]
  | some i=>
   simp only [sliceBounds,HT.sIx,Option.getD_none,show (1:Int) > 0 by decide,if_true]
   by_cases h:i<0
   ·simp only [h,if_true]<;>omega
   ·simp only [h,if_false]<;>omega
theorem E_ (its:List Value) (lo hi:Option Int):slicePick its.toArray lo hi none=((its.drop (HT.sIx its.length 0 lo)).take (HT.sIx its.length its.length hi - HT.sIx its.length 0 lo)).toArray:=by
 obtain ⟨h1,h2,h3⟩:=G4 lo hi its.toArray.size
 unfold slicePick
 rw [h1,h2,h3]
 simp only [sliceRange_one,pick_run,List.size_toArray]<;>rfl
noncomputable def JO (K:PySem.W.Frag):V->Option Int->Option Int->Hp->VK->Prop:=fun x lo hi H Q=>∃ a xs,x=.ref a/\zy K H a xs/\∀ p,H p=none->Q (.ref p) (ze H p (.lst (tV xs lo hi)))
theorem Ew:uo X (JO X.K):=by
 intro pins s σ H x v vl vu lo hi sl Q I rx hs pl pu h
 obtain ⟨a,xs,rfl,hx,q⟩:=h
 cases rx
 obtain ⟨its,r,ht,hz⟩:=I.list hx
 have hlen:=r.length
 refine ⟨"list",_,slot_list_getitem.lookup,ht.isList.typeIs,?_⟩
 refine wpAny_getItem_list_slice ht.isList hs pl pu .none (by simp) ?_ (by rw [List.size_toArray]<;>omega)
 rw [E_,<- hlen]
 refine ⟨.ref s.heap.objs.size,_,I.laid (t':=s.toks) (o:=.lst (tV xs lo hi)) (fun b ob q=>Heap.get?_push_of_some _ q) (Nat.le_refl _) ?_,rfl,q _ (I.hok.fresh (Nat.le_refl _))⟩
 exact ⟨Nat.le_trans (UY xs lo hi) hz,_,0,(r.drop (HT.sIx xs.length 0 lo)).take (HT.sIx xs.length xs.length hi - HT.sIx xs.length 0 lo),Heap.get?_push_size _ rfl⟩
noncomputable def vG:V->Bool
 | .non=>true
 | .bl _=>true
 | .int _=>true
 | .str _=>true
 | _=>false
noncomputable def wq:V->V->Bool
 | .non,.non=>true
 | .bl a,.bl b=>a == b
 | .bl a,.int b=>(if a then 1 else 0) == b
 | .int a,.bl b=>a == (if b then 1 else 0)
 | .int a,.int b=>a == b
 | .str a,.str b=>a == b
 | _,_=>false
theorem Uq {A:Around} {s:Shared} {y x:V} {u v:Value} (ry:zi y u) (rx:zi x v) (fy:vG y=true) (fx:vG x=true):SeqAt.EqAt A s u v (wq y x):=by
 cases y with
 | non=>
  cases ry
  cases x with
  | non=>cases rx; exact SeqAt.EqAt.same _
  | bl b=>cases rx; exact SeqAt.EqAt.none_bool b
  | int b=>obtain ⟨t,rfl⟩:=rx; exact SeqAt.EqAt.none_int b t
  | str b=>obtain ⟨t,rfl⟩:=rx; exact SeqAt.EqAt.none_str b t
  | _=>exact absurd (show false=true from fx) Bool.false_ne_true
 | bl a=>
  cases ry
  cases x with
  | non=>cases rx; exact SeqAt.EqAt.bool_none a
  | bl b=>cases rx; exact SeqAt.EqAt.bool_bool a b
  | int b=>obtain ⟨t,rfl⟩:=rx; exact SeqAt.EqAt.bool_int a b t
  | str b=>obtain ⟨t,rfl⟩:=rx; exact SeqAt.EqAt.bool_str a b t
  | _=>exact absurd (show false=true from fx) Bool.false_ne_true
 | int a=>
  obtain ⟨t',rfl⟩:=ry
  cases x with
  | non=>cases rx; exact SeqAt.EqAt.int_none a t'
  | bl b=>cases rx; exact SeqAt.EqAt.int_bool a t' b
  | int b=>obtain ⟨t,rfl⟩:=rx; exact SeqAt.EqAt.int_int a t' b t
  | str b=>obtain ⟨t,rfl⟩:=rx; exact SeqAt.EqAt.int_str a t' b t
  | _=>exact absurd (show false=true from fx) Bool.false_ne_true
 | str a=>
  obtain ⟨t',rfl⟩:=ry
  cases x with
  | non=>cases rx; exact SeqAt.EqAt.str_none a t'
  | bl b=>cases rx; exact SeqAt.EqAt.str_bool a t' b
  | int b=>obtain ⟨t,rfl⟩:=rx; exact SeqAt.EqAt.str_int a t' b t
  | str b=>obtain ⟨t,rfl⟩:=rx; exact SeqAt.EqAt.str_str a t' b t
  | _=>exact absurd (show false=true from fx) Bool.false_ne_true
 | _=>exact absurd (show false=true from fy) Bool.false_ne_true
noncomputable def wP (x:V) (u:Value):Bool:=match u with
 | .none=>wq .non x
 | .bool b=>wq (.bl b) x
 | .int i _=>wq (.int i) x
 | .str z _=>wq (.str z) x
 | _=>false
theorem Xu {x y:V} {u:Value} (r:zi y u) (f:vG y=true):wP x u=wq y x:=by
 cases y with
 | non=>cases r; rfl
 | bl b=>cases r; rfl
 | int i=>obtain ⟨t,rfl⟩:=r; rfl
 | str z=>obtain ⟨t,rfl⟩:=r; rfl
 | _=>exact absurd (show false=true from f) Bool.false_ne_true
theorem ja {x:V}:∀ {xs:List V} {us:List Value},zb xs us->xs.all vG=true->us.any (wP x)=xs.any fun y=>wq y x
 | _,_,.nil,_=>rfl
 | y::xs,u::us,.cons r t,f=>by
  rw [List.all_cons,Bool.and_eq_true] at f
  rw [List.any_cons,List.any_cons,Xu r f.1,ja t f.2]
theorem j1 {A:Around} {s:Shared} {x:V} {v:Value} (rx:zi x v) (fx:vG x=true):∀ {xs:List V} {us:List Value},zb xs us->xs.all vG=true->∀ u∈us,SeqAt.EqAt A s u v (wP x u)
 | _,_,.nil,_=>fun u hu=>by cases hu
 | y::xs,u::us,.cons r t,f=>fun u' hu=>by
  rw [List.all_cons,Bool.and_eq_true] at f
  rcases List.mem_cons.mp hu with rfl | hu
  ·rw [Xu r f.1]; exact Uq r rx f.1 fx
  ·exact j1 rx fx t f.2 u' hu
noncomputable def Y9 (x:V) (xs:List V):Bool:=xs.any fun y=>wq y x
noncomputable def V0 (K:PySem.W.Frag) (neg:Bool):R2:=fun x y H Q=>∃ p xs,y=.ref p/\(zy K H p xs\/yU K H p xs)/\vG x=true/\xs.all vG=true/\Q (.bl (if neg then !Y9 x xs else Y9 x xs)) H
theorem DM:yC X (compareOp .In) (V0 X.K false):=by
 intro pins s σ H x y v u Q I rx ry h
 obtain ⟨p,xs,rfl,hq,fx,fs,q⟩:=h
 cases ry
 rcases hq with hq | hq
 ·obtain ⟨its,r,pl,hz⟩:=I.list hq
  refine SeqAt.in_listAt (wP x) pl.isList (fun w hw=>j1 rx fx r fs w (by simpa using hw)) ⟨.bl _,H,I,rfl,?_⟩
  rw [show its.toArray.any (wP x)=its.any (wP x) by simp,ja r fs]
  exact q
 ·obtain ⟨its,r,pl,hz⟩:=I.tuple hq
  refine SeqAt.in_tupleAt (wP x) pl (fun w hw=>j1 rx fx r fs w (by simpa using hw)) ⟨.bl _,H,I,rfl,?_⟩
  rw [show its.toArray.any (wP x)=its.any (wP x) by simp,ja r fs]
  exact q
theorem DS:yC X (compareOp .NotIn) (V0 X.K true):=by
 intro pins s σ H x y v u Q I rx ry h
 obtain ⟨p,xs,rfl,hq,fx,fs,q⟩:=h
 cases ry
 rcases hq with hq | hq
 ·obtain ⟨its,r,pl,hz⟩:=I.list hq
  refine SeqAt.notIn_listAt (wP x) pl.isList (fun w hw=>j1 rx fx r fs w (by simpa using hw)) ⟨.bl _,H,I,rfl,?_⟩
  rw [show its.toArray.any (wP x)=its.any (wP x) by simp,ja r fs]
  exact q
 ·obtain ⟨its,r,pl,hz⟩:=I.tuple hq
  refine SeqAt.notIn_tupleAt (wP x) pl (fun w hw=>j1 rx fx r fs w (by simpa using hw)) ⟨.bl _,H,I,rfl,?_⟩
  rw [show its.toArray.any (wP x)=its.any (wP x) by simp,ja r fs]
  exact q
theorem DT:yC X (compareOp .NotIn) (fun x y H Q=>∃ i j,x=.str i/\y=.str j/\Q (.bl (!(!(Builtin.Str.occurrences j i 0 j.length 1).isEmpty))) H):=by
 intro pins s σ H x y v u Q I rx ry h
 obtain ⟨i,j,rfl,rfl,q⟩:=h
 obtain ⟨t,rfl⟩:=rx
 obtain ⟨t',rfl⟩:=ry
 exact notIn_str ⟨.bl _,H,I,rfl,q⟩
theorem OO:xi X (.builtin "len") (fun xs H Q=>∃ p ys,xs=[.ref p]/\(zy X.K H p ys\/yU X.K H p ys)/\Q (.int ys.length) H):=by
 intro pins s σ H xs us Q I r h
 obtain ⟨p,ys,rfl,hq,q⟩:=h
 obtain ⟨u,rfl,rx⟩:=vE r
 cases rx
 have hn:=p_
 rcases hq with hq | hq
 ·obtain ⟨its,r',pl,hz⟩:=I.list hq
  have hlen:=r'.length
  exact Calls.call_len_list pl.isList (by simp only [List.size_toArray]<;>omega) ⟨.int ys.length,H,I.tok _,⟨s.toks+1,by rw [List.size_toArray,hlen]⟩,q⟩
 ·obtain ⟨its,r',pl,hz⟩:=I.tuple hq
  have hlen:=r'.length
  exact len_tuple pl (by simp only [List.size_toArray]<;>omega) ⟨.int ys.length,H,I.tok _,⟨s.toks+1,by rw [List.size_toArray,hlen]⟩,q⟩
theorem OP:xi X (.builtin "len") (fun xs H Q=>∃ z,xs=[.str z]/\z.length<=sizeLine/\Q (.int z.length) H):=by
 intro pins s σ H xs us Q I r h
 obtain ⟨z,rfl,hz,q⟩:=h
 obtain ⟨u,rfl,t,rfl⟩:=vE r
 have hn:=p_
 exact len_str (by omega) ⟨.int z.length,H,I.tok _,⟨_,rfl⟩,q⟩
theorem xi.or {f:Value} {r r':List V->Hp->VK->Prop} (h:xi X f r) (h':xi X f r'):xi X f (fun xs H Q=>r xs H Q\/r' xs H Q):=by
 intro pins s σ H xs us Q I rs q
 rcases q with q | q
 ·exact h pins s σ H xs us Q I rs q
 ·exact h' pins s σ H xs us Q I rs q
theorem OR:xi X (.type "list") (fun xs H Q=>∃ p ys,xs=[.ref p]/\(zy X.K H p ys\/yU X.K H p ys)/\∀ l,H l=none->Q (.ref l) (ze H l (.lst ys))):=by
 intro pins s σ H xs us Q I r h
 obtain ⟨p,ys,rfl,hq,q⟩:=h
 obtain ⟨u,rfl,rx⟩:=vE r
 cases rx
 have fin:∀ (its:List Value),zb ys its->ys.length<=sizeLine->∀ (h':Heap) (c':Nat),(∀ b o',s.heap.get? b=some o'->h'.get? b=some o')->
   h'.get? s.heap.objs.size=some { cls:=.type "list",dict:=none,data:=.seq its.toArray c',slots:=#[] }->EP X pins σ Q (.ref s.heap.objs.size) { s with heap:=h' }:=fun its r' hz h' c' kp e=>
  ⟨.ref s.heap.objs.size,_,I.laid (t':=s.toks) kp (Nat.le_refl _) (show xA X.prog X.w _ h' _ (.lst ys) from ⟨hz,its,c',r',e⟩),rfl,q _ (I.hok.fresh (Nat.le_refl _))⟩
 rcases hq with hq | hq
 ·obtain ⟨its,r',pl,hz⟩:=I.list hq
  have hlen:=r'.length
  obtain ⟨o,ho,hc,n,hd⟩:=pl.isList
  exact call_list_seq p (.inl rfl) ho hc hd (fun h' c' kp e=>fin its r' hz h' c' kp e) (by simp only [List.size_toArray]<;>omega)
 ·obtain ⟨its,r',pl,hz⟩:=I.tuple hq
  have hlen:=r'.length
  obtain ⟨o,ho,hc,n,hd⟩:=pl
  exact call_list_seq p (.inr rfl) ho hc hd (fun h' c' kp e=>fin its r' hz h' c' kp e) (by simp only [List.size_toArray]<;>omega)
noncomputable def Va (K:PySem.W.Frag) (T:String) (x:V) (H:Hp):Prop:=match x with
 | .str _=>T = "str"
 | .int _=>T = "int"
 | .ref p=>(T = "list" /\ ∃ xs,zy K H p xs)\/(T = "tuple" /\ ∃ o,K.lookup p=some o/\o.cls=.type "tuple" /\ o.dict=none) \/
   (T = "dict" /\ ((∃ kvs,H p=some (.dK kvs))\/∃ kvs,H p=some (.dT kvs)))\/(T = "set" /\ ∃ S n,H p=some (.set S n))
 | _=>False
theorem IR {pins:List (Addr×Obj)} {σ:St} {H:Hp} {s:Shared} {T:String} {x:V} {v:Value} (I:Inv X pins σ H s) (r:zi x v) (ty:Va X.K T x H) :
  s.TypeIs v T/\∀ a,v=.ref a->∃ ob,s.heap.get? a=some ob/\ob.dict=none:=by
 cases x with
 | str z=>
  obtain ⟨t,rfl⟩:=r
  cases (show T = "str" from ty)
  exact ⟨typeIs_str s z t,fun _ e=>nomatch e⟩
 | int i=>
  obtain ⟨t,rfl⟩:=r
  cases (show T = "int" from ty)
  exact ⟨typeIs_int s i t,fun _ e=>nomatch e⟩
 | ref p=>
  cases r
  rcases ty with ⟨rfl,xs,hq⟩ | ⟨rfl,o,hk,hc,hd⟩ | ⟨rfl,hk⟩ | ⟨rfl,S,n,hk⟩
  ·obtain ⟨its,_,pl,_⟩:=I.list hq
   refine ⟨pl.isList.typeIs,fun a e=>?_⟩
   cases e
   obtain ⟨o,n,e,c,hd,_⟩:=pl
   exact ⟨o,e,hd⟩
  ·refine ⟨⟨o,I.kIn p o hk,hc⟩,fun a e=>?_⟩
   cases e
   exact ⟨o,I.kIn _ o hk,hd⟩
  ·have z:∃ o,s.heap.get? p=some o/\o.ExactDict:=by
    rcases hk with ⟨kvs,hk⟩ | ⟨kvs,hk⟩
    ·obtain ⟨_,_,_,_,o,_,_,e,ex,_⟩:=I.hok p _ hk
     exact ⟨o,e,ex⟩
    ·obtain ⟨_,_,_,_,o,_,_,e,ex,_⟩:=I.hok p _ hk
     exact ⟨o,e,ex⟩
   obtain ⟨o,e,ex⟩:=z
   refine ⟨⟨o,e,ex.1⟩,fun a e2=>?_⟩
   cases e2
   exact ⟨o,e,ex.2.1⟩
  ·obtain ⟨o,_,_,_,e,ex,_⟩:=I.hok p _ hk
   refine ⟨⟨o,e,ex.1⟩,fun a e2=>?_⟩
   cases e2
   exact ⟨o,e,ex.2.1⟩
 | _=>exact False.elim ty
noncomputable def IL (K:PySem.W.Frag) (T:String) (r:V->List V->Hp->VK->Prop) (to:TE):TE:=fun σ H Q=>to σ H fun x H1=>Va K T x H1/\r x [] H1 Q
noncomputable def IK (K:PySem.W.Frag) (T:String) (r:V->List V->Hp->VK->Prop) (to:TE) (t:TA):TE:=fun σ H Q=>to σ H fun x H1=>Va K T x H1/\t σ H1 fun xs H2=>r x xs H2 Q
variable {o e:Expr} {es:List Expr} {to:TE} {t:TA} {name:Str} {apos cpos:Pos} {T id:String} {r:V->List V->Hp->VK->Prop}
theorem Df (pa:PlainAttrs T) (slot:Slot T name id) (hty:typeOf (.builtin id)=pure (.type "method_descriptor")) (hm:pL X id r) (ho:PE X o to)
  (hbase:attributeBase o name X.env (eval o X.env)=eval o X.env:=by rfl) (hline:(apos.endLine == cpos.line)=true:=by rfl):PE X (.Call (.Attribute o name apos) [] [] cpos) (IL X.K T r to):=by
 intro pins s σ H Q I h
 refine wpAny_Call_method0_late hbase hline (zl (ho pins s σ H _ I h) fun v s1 ⟨x,H1,I1,r1,ty,q1⟩=>?_)
 obtain ⟨h1,h2⟩:=IR I1 r1 ty
 exact ⟨T,id,pa,slot,hty,h1,h2,Calls.callWith_builtin rfl (PySem.evalArgs_none (hm pins s1 σ H1 x [] v [] Q I1 r1 .nil q1))⟩
theorem De (pa:PlainAttrs T) (slot:Slot T name id) (hty:typeOf (.builtin id)=pure (.type "method_descriptor")) (hm:pL X id r) (ho:PE X o to) (ha:PA X (e::es) t)
  (hbase:attributeBase o name X.env (eval o X.env)=eval o X.env:=by rfl)
  (hfew:((backTo cpos (starEach (e::es) X.env)).all (fun x=>!x.1)&&(backToKw cpos (keywordEach [] X.env)).all (fun x=>x.1.isSome)
   && decide ((e::es).length+([]:List Keyword).length+(if ([]:List Keyword).isEmpty then 0 else 1)<30))=true:=by rfl)
  (hline:(apos.endLine == cpos.line)=true:=by rfl) (hs:starEach (e::es) X.env=(false,eval e X.env)::starEach es X.env:=by rfl) (hplain:(backTo cpos (starEach es X.env)).any (·.1)=false:=by rfl) :
  PE X (.Call (.Attribute o name apos) (e::es) [] cpos) (IK X.K T r to t):=by
 intro pins s σ H Q I h
 refine wpAny_Call_method_late hbase hfew hline rfl (zl (ho pins s σ H _ I h) fun v s1 ⟨x,H1,I1,r1,ty,q1⟩=>?_)
 obtain ⟨h1,h2⟩:=IR I1 r1 ty
 refine ⟨T,id,pa,slot,hty,h1,h2,?_⟩
 have hA:=ha cpos pins s1 σ H1 _ I1 q1
 rw [hs] at hA ⊢
 refine Calls.callWith_builtin (by show (false||(backTo cpos (starEach es X.env)).any (·.1))=false; rw [hplain]<;>rfl) (Calls.evalArgs_plain ?_)
 exact zl hA fun us s2 ⟨vs,H2,I2,r2,q2⟩=>hm pins s2 σ H2 x vs v us Q I2 r1 r2 q2
end
end L2
namespace L2
open PySem PySem.Spec PyProof.Rows
noncomputable def XR (X:Cx) (id:String) (r:V->List V->Hp->VK->Prop):Prop:=
 ∀ (pins:List (Addr×Obj)) (s:Shared) (σ:St) (H:Hp) (x:V) (xs:List V) (v:Value) (us:List Value) (Q:VK),Inv X pins σ H s->zi x v->zb xs us->r x xs H Q->
  wpAny (model X.prog X.w) X.A (call (.builtin id) (v::us)) (EP X pins σ Q) X.xe s
theorem zb.one:∀ {x:V} {us:List Value},zb [x] us->∃ u,us=[u]/\zi x u
 | _,_,.cons r .nil=>⟨_,rfl,r⟩
theorem zb.zero:∀ {us:List Value},zb [] us->us=[]
 | _,.nil=>rfl
theorem zb.dropLast {xs:List V} {us:List Value} (h:zb xs us):zb xs.dropLast us.dropLast:=by
 induction h with
 | nil=>exact .nil
 | cons r t ih=>
  cases t with
  | nil=>exact .nil
  | cons q t'=>exact .cons r ih
theorem zb.rep {xs:List V} {us:List Value} (h:zb xs us):∀ k:Nat,zb (List.replicate k xs).flatten (List.replicate k us).flatten
 | 0=>.nil
 | k+1=>by
  rw [List.replicate_succ,List.replicate_succ,List.flatten_cons,List.flatten_cons]
  exact zb.append h (zb.rep h k)
theorem L4 {α:Type} (l:List α):l.eraseIdx (l.length - 1)=l.dropLast:=by
 induction l with
 | nil=>rfl
 | cons a r ih=>
  cases r with
  | nil=>rfl
  | cons b r=>
   have e:(a::b::r).length - 1=((b::r).length - 1)+1:=by
    have h1:(a::b::r).length=r.length+2:=rfl
    have h2:(b::r).length=r.length+1:=rfl
    omega
   rw [e,List.eraseIdx_cons_succ,ih]
   all_goals rfl
theorem Uz (its:List Value):∀ (k:Nat) (acc:List Value),
  List.foldl (fun x1 x2=>x1++x2) acc.toArray (List.replicate k its.toArray)=(acc++(List.replicate k its).flatten).toArray
 | 0,acc=>by simp
 | k+1,acc=>by
  have e:acc.toArray++its.toArray=(acc++its).toArray:=by simp
  have e2:(acc++its)++(List.replicate k its).flatten=acc++(List.replicate (k+1) its).flatten:=by
   rw [List.replicate_succ,List.flatten_cons,List.append_assoc]
  rw [<- e2,<- Uz its k (acc++its),<- e,List.replicate_succ,List.foldl_cons]
section
variable {X:Cx} {pins:List (Addr×Obj)} {σ:St} {H:Hp} {s:Shared} {l b:Addr} {xs ys zs:List V}
theorem Inv.lset {its its':List Value} {n:Nat} {f:Array Value->Array Value} {t':Nat} (I:Inv X pins σ H s) (hH:H l=some (.lst xs))
  (e:s.heap.get? l=some { cls:=.type "list",data:=.seq its.toArray n }) (hf:f its.toArray=its'.toArray) (hv:zb ys its') (hz:ys.length<=sizeLine) :
  Inv X pins σ (ze H l (.lst ys)) { s with heap:=s.heap.update l (Obj.mapSeq f),toks:=t' }:=by
 have q:=PySem.IsL.update e f
 rw [hf] at q
 refine I.write (x:=l) (e:=l) (by rw [hH]; exact trivial) (.inl rfl) (fun b' u hb hu=>(Heap.get?_update_other s.heap (Obj.mapSeq f) (Ne.symm hb)).trans hu) ⟨_,q⟩ ?_
 exact ⟨hz,its',_,hv,q⟩
theorem Inv.lnew {its:List Value} {t':Nat} (I:Inv X pins σ H s) (hv:zb ys its) (hz:ys.length<=sizeLine) :
  Inv X pins σ (ze H s.heap.objs.size (.lst ys)) { s with heap:=s.heap.push { cls:=.type "list",data:=.seq its.toArray },toks:=t' }:=
 I.laid (fun _ _ q=>Heap.get?_push_of_some _ q) (Nat.le_refl _) ⟨hz,its,0,hv,Heap.get?_push_size _ rfl⟩
theorem Inv.fresh (I:Inv X pins σ H s):H s.heap.objs.size=none:=I.hok.fresh (Nat.le_refl _)
theorem Inv.lstM (I:Inv X pins σ H s) (hH:H l=some (.lst xs)):xs.length<=sizeLine/\∃ (its:List Value) (n:Nat),zb xs its/\xs.length=its.length/\s.heap.get? l=some { cls:=.type "list",data:=.seq its.toArray n }:=by
 obtain ⟨z,its,n,r,e⟩:=I.hok l _ hH
 exact ⟨z,its,n,r,r.length,e⟩
theorem QO {n:Nat} (h:n<=sizeLine):Builtin.List.listTooLong n=false:=by
 unfold Builtin.List.listTooLong
 exact decide_eq_false (by omega)
end
section
variable {X:Cx}
noncomputable def F_:V->List V->Hp->VK->Prop:=fun x vs H Q=>∃ l xs y,x=.ref l/\vs=[y]/\H l=some (.lst xs)/\xs.length<sizeLine/\Q .non (ze H l (.lst (xs++[y])))
theorem QB:XR X "list.append" F_:=by
 intro pins s σ H x vs v us Q I rx rv h
 obtain ⟨l,xs,y,rfl,rfl,hH,hz,q⟩:=h
 cases rx
 obtain ⟨u,rfl,ru⟩:=rv.one
 obtain ⟨z,its,n,r,hl,e⟩:=I.lstM hH
 refine call_meets F.slot_list_append ⟨_,e,rfl⟩ F.entry_list_append (F.args_list_append_2 _ _) (PySem.list_append l its.toArray n u (by rw [List.size_toArray]; omega)) ⟨e,?_⟩
 refine ⟨.non,_,I.lset (its':=its++[u]) hH e (by simp) (r.append (.cons ru .nil)) ?_,rfl,q⟩
 rw [List.length_append,List.length_singleton]
 omega
noncomputable def C6:V->List V->Hp->VK->Prop:=fun x vs H Q=>∃ l xs y,x=.ref l/\vs=[]/\H l=some (.lst xs)/\xs[xs.length - 1]?=some y/\Q y (ze H l (.lst xs.dropLast))
theorem Mz:XR X "list.pop" C6:=by
 intro pins s σ H x vs v us Q I rx rv h
 obtain ⟨l,xs,y,rfl,rfl,hH,hy,q⟩:=h
 cases rx
 have hus:=rv.zero
 subst hus
 obtain ⟨z,its,n,r,hl,e⟩:=I.lstM hH
 obtain ⟨u,hu,ru⟩:=r.get hy
 have hy':its.toArray[its.toArray.size - 1]?=some u:=by
  show its.toArray[its.length - 1]?=some u
  rw [<- Array.getElem?_toList,<- hl]
  exact hu
 refine call_meets F.slot_list_pop ⟨_,e,rfl⟩ F.entry_list_pop (F.args_list_pop_1 _) (MeetsSeq.list_pop_last l its.toArray n u hy' (by rw [List.size_toArray]; omega)) ⟨e,?_⟩
 refine ⟨y,_,I.lset (its':=its.dropLast) hH e ?_ r.dropLast ?_,ru,q⟩
 ·show its.toArray.eraseIdxIfInBounds (its.toArray.size - 1)=its.dropLast.toArray
  rw [List.size_toArray,List.eraseIdxIfInBounds_toArray,L4]
 ·rw [List.length_dropLast]
  omega
noncomputable def C8:R2:=fun x y H Q=>∃ l k xs,x=.ref l/\y=.int k/\H l=some (.lst xs) /\ -(2 ^ 63)<=k/\k<2 ^ 63/\xs.length*k.toNat<=sizeLine/\
 ∀ p,H p=none->Q (.ref p) (ze H p (.lst (List.replicate k.toNat xs).flatten))
theorem Q4 {α:Type} (xs:List α) (k:Nat):(List.replicate k xs).flatten.length=k*xs.length:=by
 induction k with
 | zero=>simp
 | succ k ih=>rw [List.replicate_succ,List.flatten_cons,List.length_append,ih,Nat.succ_mul,Nat.add_comm]
theorem DV:yC X (binaryOp .Mult) C8:=by
 intro pins s σ H x y v u Q I rx ry h
 obtain ⟨l,k,xs,rfl,rfl,hH,h1,h2,hz,q⟩:=h
 cases rx
 obtain ⟨t,rfl⟩:=ry
 obtain ⟨z,its,n,r,hl,e⟩:=I.lstM hH
 have hlen:its.toArray.size*k.toNat<=sizeLine:=by rw [List.size_toArray,<- hl]; exact hz
 have hcap:¬ its.toArray.size*k.toNat > (2 ^ 63 - 1) / 8:=by
  have:(sizeLine:Nat)<=(2 ^ 63 - 1) / 8:=by decide
  omega
 have hfit:¬ (!Builtin.List.listFitsIndex k)=true:=by
  rw [fitsIndex_both h1 h2]
  exact Bool.false_ne_true
 have hlong:¬ Builtin.List.listTooLong (its.toArray.size*k.toNat)=true:=by
  rw [QO hlen]
  exact Bool.false_ne_true
 have hnew:List.foldl (fun x1 x2=>x1++x2) #[] (List.replicate (if its.toArray.isEmpty=true then 0 else k.toNat) its.toArray)=(List.replicate k.toNat its).flatten.toArray:=by
  have f0:∀ m:Nat,List.foldl (fun x1 x2=>x1++x2) #[] (List.replicate m its.toArray)=(List.replicate m its).flatten.toArray:=fun m=>by
   have:=Uz its m []
   rw [List.nil_append] at this
   exact this
  rw [f0]
  cases its with
  | nil=>simp
  | cons a r'=>rw [if_neg (by simp)]
 refine wpAny_binaryOp_repeat_ref (T := "list") (U := "int") (by decide) ⟨_,e,rfl⟩ (fun s'=>typeIs_int s' k t) noFill_list_mul F.fills_int_mul F.slot_int_rmul repeat_list F.slot_int_index.lookup
  (call_meets F.slot_int_rmul (typeIs_int s k t) F.entry_int_rmul (F.args_int_rmul_2 _ _) (int___rmul___int_list k t l its.toArray n)
   ⟨e,rfl,⟨_,e,rfl⟩,call_meets F.slot_list_mul ⟨_,e,rfl⟩ F.entry_list_mul (F.args_list_mul_2 _ _) (AutoListH.list___mul___list_int_3 l its.toArray n k t hfit hcap hlong) ⟨e,?_⟩⟩)
 rw [hnew]
 exact ⟨.ref _,_,I.lnew (t':=s.toks) (r.rep k.toNat) (by rw [Q4,Nat.mul_comm]; exact hz),rfl,q _ I.fresh⟩
end
section
variable {prog:Program} {w:World} {A:Around} {E:Value->Shared->Prop} {s:Shared}
end
section
variable {X:Cx}
end
end L2
namespace Att
open PySem PySem.W PySem.Calls PyProof.Rows
theorem M8 {P:Params} {h:Heap}:∀ (ns:List Int) (vs:List Value),WellAll P h vs (ns.map WData.int)->IntsAre vs ns:=by
 intro ns
 induction ns with
 | nil=>
  intro vs w
  rw [List.map_nil] at w
  cases w
  exact .nil
 | cons n ns ih=>
  intro vs w
  rw [List.map_cons] at w
  cases w with
  | cons a b=>
   cases a
   exact .cons _ _ (ih _ b)
theorem script_of {l:OpenLaw} {n:Nat} (hn:l.most=some n) {P:Params} {h:Heap} {args:List WData} {vals:List Value}
  (hpre:l.row.toRowW.claim.pre args=true) (hwl:WellAll P h vals args) :
  ∃ a vs ns,vals=[Value.ref a]/\args=[WData.list (ns.map WData.int)]/\h.get? a=some { cls:=.type "list",data:=.seq vs.toArray }/\IntsAre vs ns/\ns.length<=n:=by
 have hsh:WShape.hasAll [] args [.list .int]=true:=(pre_splitW hpre).1
 have hc:l.pre.holds [] { args:=args }=true:=(pre_splitW hpre).2
 obtain ⟨d,r,rfl,h1,h2⟩:=hasAllW_cons hsh
 obtain rfl:=hasAllW_nil h2
 obtain ⟨xs,rfl,h3⟩:=hasW_list h1
 obtain ⟨ns,rfl⟩:=items_int h3
 have hlen:ns.length<=n:=by
  unfold OpenLaw.pre at hc
  have h4:(WTm.not (.lt (.lit (.int (n:Int))) (.len (.arg 0)))).holds [] { args:=[.list (ns.map .int)] }=true:=by
   have h4:=(holds_andW hc).1
   rw [hn] at h4
   exact h4
  have h5:=condW_of h4 (w_not (w_lt w_lit (w_len_list (w_arg rfl))))
  rw [List.length_map] at h5
  refine Nat.le_of_not_lt fun q=>?_
  have q':(n:Int)<((ns.length:Nat):Int):=by omega
  first
   | (rw [decide_eq_true q'] at h5; exact absurd h5 (by decide))
   | (simp at h5; omega)
 cases hwl with
 | cons w1 w2=>
  cases w2
  cases w1 with
  | list ho hall=>exact ⟨_,_,ns,rfl,rfl,ho,M8 ns _ hall,hlen⟩
theorem post_true (l:OpenLaw) (args:List WData):l.row.toRowW.claim.post args (.bool true) args=true:=
 postW_of (r:=l.row.toRowW) (X:=(true == true))
  (show WShape.has [] (.bool true) .bool=true by first | rfl | decide | simp [WShape.has,WShape.arms,WShape.armsAll])
  (show (WTm.eq .res (.lit (.bool true))).value [] { args:=args,res:=some (.bool true),after:=args }=some (.bool (true == true)) from w_eq_bool (w_res rfl) w_lit) rfl
section
variable {prog:Program} {w:World} {A:Around} {E:Value->Shared->Prop} {s:Shared} {K:Frag}
end
end Att
namespace L2
open PySem PySem.Spec PyProof.Rows
theorem IZ:∀ {vs:List Value} {ns:List Int},IntsAre vs ns->zb (ns.map V.int) vs
 | _,_,.nil=>.nil
 | _,_,.cons n t h=>.cons ⟨t,rfl⟩ (IZ h)
noncomputable def Vw (H:Hp):Prop:=∀ b,H b=none\/∃ o xs,H b=some (.frz o (.lst xs))
theorem Mg {P:Program} {w:World} {K:PySem.W.Frag} {mg mb:Str->Option Value} {CX:uB} {k:Nat} {fa a:Addr} {fd:FuncData} {x:Str} {sp:Sp} {s₁:Shared} {vs:List Value} {ns:List Int}
  (KX:K.In s₁.heap) (hns:s₁.heap.Ns mainGlobals mg) (hb:s₁.heap.Ns builtinsNs mb) (hbb:∀ x:Str,x ≠ "__name__" -> mb x=bootBuiltins x) (hlim:s₁.heap.NoLimit) (hg:s₁.gens=#[])
  (ha:s₁.heap.get? a=some { cls:=.type "list",data:=.seq vs.toArray }) (hi:IntsAre vs ns) (hl:ns.length<=sizeLine) (hr:yj k callerA)
  (F:∀ base:Heap,K.In base->base.Ns mainGlobals mg->v7 P w K mg base CX k fa fd [x] sp) (hbind:∀ (s:Shared) (u:Value),BindsTo s fd ⟨[u],[]⟩ [(x,u)])
  (hsp:∀ H:Hp,Vw H->zy K H a (ns.map V.int)->sp [.ref a] H (fun v _=>v=.bl true) fun _ _ _=>False)
  (hCX:∀ H e s',CX [] H s₁ (fun _ _ _=>False) e s'->False) :
  codeAny (model P w) callerA (.call (.ref fa) ⟨[.ref a],[]⟩) (fun r s'=>r=.ok (.ret (.bool true))/\OldK s₁.heap s'.heap/\s'.os=s₁.os/\AllBare s'.gens) s₁:=by
 have rv:=IZ hi
 have lenV:=hi.length
 have core:∀ H:Hp,Vw H->zy K H a (ns.map V.int)->ye P w H s₁.heap->(∀ b,H b≠none->b=a)->(H a≠none->K.lookup a=none)->
   codeAny (model P w) callerA (.call (.ref fa) ⟨[.ref a],[]⟩) (fun r s'=>r=.ok (.ret (.bool true))/\OldK s₁.heap s'.heap/\s'.os=s₁.os/\AllBare s'.gens) s₁:=by
  intro H hO hS hok hA hK
  have base_of:∀ {b:Addr} {o:Obj},s₁.heap.get? b=some o->H b=none->(uv s₁.heap H).get? b=some o:=fun e n=>Ly e n
  have noA:∀ {b:Addr} {o:Obj} {es:Array DictEntry} {ep:Nat},s₁.heap.get? b=some o->o.data=.dict es ep->H b=none:=fun {b o es ep} e d=>by
   cases q:H b with
   | none=>rfl
   | some u=>
    have e':b=a:=hA b (by rw [q]; simp)
    subst e'
    rw [ha] at e; cases e
    have d':Data.seq vs.toArray _=Data.dict es ep:=d
    cases d'
  have nsK:∀ {b:Addr} {m:Str->Option Value},s₁.heap.Ns b m->(uv s₁.heap H).Ns b m:=fun {b m} ⟨o,es,ep,e,d,r⟩=>⟨o,es,ep,base_of e (noA e d),d,r⟩
  have hKb:K.In (uv s₁.heap H):=fun b o e=>base_of (KX b o e) (by
   cases q:H b with
   | none=>rfl
   | some u=>
    have e':b=a:=hA b (by rw [q]; simp)
    subst e'
    rw [hK (by rw [q]; simp)] at e; cases e)
  have hM:Mod K mg (uv s₁.heap H):=⟨hKb,nsK hns,⟨mb,nsK hb,hbb⟩,let ⟨mc,h1,h2⟩:=hlim; ⟨mc,nsK h1,h2⟩⟩
  have e0:Z6 P w K mg (uv s₁.heap H) callerA [] s₁ H:=⟨rfl,hM,fun b o e=>BJ e,Nat.le_of_eq (Lz _ _),trivial,fun b hb=>absurd (show b∈([]:List Addr) from hb) (by simp),hok,.of_eq hg⟩
  refine codeAny_mono ((F _ hKb (nsK hns)).run callerA [] s₁ H ⟨[.ref a],[]⟩ [.ref a] [.ref a] _ _ hr e0 (hbind s₁ (.ref a)) (.cons rfl .nil) (hsp H hO hS)) fun r s' h=>?_
  cases r with
  | error e=>exact (hCX H e s' h).elim
  | ok fl=>
   cases fl with
   | next=>exact False.elim h
   | brk=>exact False.elim h
   | cont=>exact False.elim h
   | ret u=>
    obtain ⟨v,H',os,bare,un,hok',r',q⟩:=h
    have q':v=.bl true:=q
    subst q'
    obtain rfl:u=Value.bool true:=r'
    refine ⟨rfl,OldK.of_keep fun b o e=>?_,os,bare⟩
    cases q:H b with
    | none=>exact un.keep b o e q (by intro z; exact absurd (show b∈([]:List Addr) from z) (by simp)) (by simp)
    | some u=>
     rcases hO b with z | ⟨ob,xs,z⟩
     ·rw [q] at z; cases z
     ·have z2:=un.frzs b ob _ z
      obtain ⟨e1,_⟩:=hok b _ z
      obtain ⟨e2,_⟩:=hok' b _ z2
      rw [e] at e1; cases e1
      exact e2
 cases hk:K.lookup a with
 | some o=>
  have e:=KX a o hk
  rw [ha] at e
  cases e
  refine core (fun _=>none) (fun _=>.inl rfl) (.inr ⟨_,vs.toArray,_,hk,rfl,rfl,rfl,by rw [List.size_toArray,lenV]; exact hl,by simpa using rv⟩) (fun b u z=>by have z':(none:Option HO)=some u:=z; cases z') (fun b z=>absurd rfl z) fun z=>absurd rfl z
 | none=>
  refine core (fun b=>if b=a then some (.frz { cls:=.type "list",data:=.seq vs.toArray } (.lst (ns.map V.int))) else none) (fun b=>?_) (.inl (.inr ⟨{ cls:=.type "list",data:=.seq vs.toArray },if_pos rfl⟩)) (fun b u z=>?_) (fun b z=>?_) fun _=>hk
  ·by_cases hb:b=a
   ·exact .inr ⟨_,_,if_pos hb⟩
   ·exact .inl (if_neg hb)
  ·by_cases hb:b=a
   ·have z':=(if_pos hb).symm.trans z
    cases z'
    subst hb
    exact ⟨ha,by rw [List.length_map]; exact hl,vs,_,rv,ha⟩
   ·have z':=(if_neg hb).symm.trans z
    cases z'
  ·by_cases hb:b=a
   ·exact hb
   ·exact absurd (if_neg hb) z
end L2
namespace L2
open PySem PySem.Spec PyProof.Rows
end L2
namespace L2
open PySem PySem.Spec PyProof.Rows
noncomputable def pS (s:Stmt):Arguments:=match s with
 | .FunctionDef _ a _ _ _ _ _ _ _ _=>a
 | _=>{ posonlyargs:=[],args:=[],vararg:=none,kwonlyargs:=[],kw_defaults:=[],kwarg:=none,defaults:=[] }
noncomputable def uK (s:Stmt):List Stmt:=match s with
 | .FunctionDef _ _ b _ _ _ _ _ _ _=>b
 | _=>[]
noncomputable def zo (s:Stmt):Scope:=match s with
 | .FunctionDef _ _ _ _ _ _ sc _ _ _=>sc
 | _=>{ kind:=.function,names:=[],isGenerator:=false,isCoroutine:=false }
noncomputable abbrev v4:uB:=fun _ _ _ _ _ _=>False
noncomputable abbrev E0:XK:=fun _ _ _=>False
theorem Wo {X:Cx}:ZE v4 X E0:=fun _ _ _ _ _ _ _ h=>h.elim
structure tO (K:PySem.W.Frag) (x qual:Str) (st:Stmt) (f:Addr) (fd:FuncData):Prop where
 ex:∃ (oc:Value) (od:Option Addr) (kV doc pm:Value) (an:Option Addr) (cdv ct:Value) (osl:Array (Option Value)),
  fd=PySem.W.fnOf x qual (pS st) (uK st) (zo st) .none kV doc pm an cdv ct/\K.lookup f=some ⟨oc,od,.func fd,osl⟩/\PySem.W.codeIn K cdv qual=true
 kp:PySem.W.keepIn K (.ref f)=true
section
variable {P:Program} {w:World} {K:PySem.W.Frag} {mg:Str->Option Value} {base:Heap}
theorem tO.ok {x qual:Str} {st:Stmt} {f:Addr} {fd:FuncData} {N ps:List Str} {k:Nat} {sp:Sp} (F:tO K x qual st f fd) (S:y9 N ps (zo st)) (len:∀ vs H Q E,sp vs H Q E->vs.length=ps.length)
  (hbody:∀ (cdv:Value) (A:Around) (outer:List Env) (s:Shared) (H:Hp) (vs:List V) (Q:VK) (E:XK),yj k (A.deeper (envOfC qual (zo st) s.heap.objs.size f cdv))->sp vs H Q E->
   ∃ t,wD (ut v4 P w K mg base N qual (zo st) f cdv A outer s H E).nox (uK st) t/\t { nx:=fun _ H'=>Q .non H',rt:=Q } (start N vs) H):v7 P w K mg base v4 (k+1) f fd ps sp:=by
 obtain ⟨oc,od,kV,doc,pm,an,cdv,ct,osl,rfl,lk,hcd⟩:=F.ex
 refine LC lk hcd S len fun A outer s H vs Q E hr hsp=>?_
 obtain ⟨t,h,q⟩:=hbody cdv A outer s H vs Q E hr hsp
 exact ⟨t,h.nox,q⟩
theorem tO.binds {x qual:Str} {st:Stmt} {f:Addr} {fd:FuncData} {ps:List Str} (F:tO K x qual st f fd)
  (h:∀ (kV doc pm:Value) (an:Option Addr) (cdv ct:Value) (us:List Value),us.length=ps.length->bindArgs (PySem.W.fnOf x qual (pS st) (uK st) (zo st) .none kV doc pm an cdv ct) ⟨us,[]⟩=pure (ps.zip us)):uA K fd ps []:=by
 obtain ⟨oc,od,kV,doc,pm,an,cdv,ct,osl,rfl,lk,hcd⟩:=F.ex
 exact .all (h kV doc pm an cdv ct)
theorem yI {x qual:Str} {st:Stmt} {f:Addr} {oc:Value} {od an:Option Addr} {osl:Array (Option Value)} {kV doc pm cdv ct:Value} (l:K.lookup f=some ⟨oc,od,.func (PySem.W.fnOf x qual (pS st) (uK st) (zo st) .none kV doc pm an cdv ct),osl⟩)
  (c:PySem.W.codeIn K cdv qual=true) (k:PySem.W.keepIn K (.ref f)=true):tO K x qual st f (PySem.W.fnOf x qual (pS st) (uK st) (zo st) .none kV doc pm an cdv ct):=⟨⟨oc,od,kV,doc,pm,an,cdv,ct,osl,rfl,l,c⟩,k⟩
end
theorem zQ {A:Around} {k:Nat} (hr:yj k A):A.units+1<cLine:=Nat.lt_of_le_of_lt (Nat.add_le_add_left (by decide:1<=64) _) hr.units
theorem G8 {n:Nat} (h:n<=1000):n<sizeLine:=Nat.lt_of_le_of_lt h (by decide)
section
variable {X:Cx}
end
theorem uw {A B:Prop} (h:B):if false=true then A else B:=by
 rw [if_neg Bool.false_ne_true]
 exact h
theorem ux {A B:Prop} (h:A):if true=true then A else B:=by
 rw [if_pos rfl]
 exact h
noncomputable def zx (H H':Hp):Prop:=∀ b o,H b=some o->H' b=some o
theorem zx.refl (H:Hp):zx H H:=fun _ _ h=>h
theorem zx.trans {H H1 H2:Hp} (a:zx H H1) (b:zx H1 H2):zx H H2:=fun c o h=>b c o (a c o h)
theorem zx.free {H H':Hp} (e:zx H H') {l:Addr} (h:H' l=Option.none):H l=Option.none:=by
 cases q:H l with
 | none=>rfl
 | some o=>
  rw [e l o q] at h
  cases h
end L2
set_option linter.all false
set_option maxRecDepth 100000
set_option maxHeartbeats 4000000
namespace L2
open PySem PySem.Spec PyProof.Rows
noncomputable def zK (K:PySem.W.Frag) (mg:Str->Option Value) (x:Str) (st:Stmt) (ps:List Str):Prop:=
 ∃ (f:Addr) (fd:FuncData),tO K x x st f fd/\mg x=some (.ref f)/\uA K fd ps []
noncomputable def zN (P:Program) (w:World) (K:PySem.W.Frag) (mg:Str->Option Value) (base:Heap) (x:Str) (ps:List Str) (k:Nat) (sp:Sp):Prop:=
 ∃ (f:Addr) (fd:FuncData),mg x=some (.ref f)/\PySem.W.keepIn K (.ref f)=true/\uA K fd ps []/\v7 P w K mg base v4 k f fd ps sp
noncomputable def yt (mg:Str->Option Value) (x:Str) (v:V):Prop:=∃ u,mg x=some u/\zi v u
section
variable {P:Program} {w:World} {K:PySem.W.Frag} {mg:Str->Option Value} {base:Heap}
theorem zK.ok {x:Str} {st:Stmt} {N ps:List Str} {k:Nat} {sp:Sp} (d:zK K mg x st ps) (S:y9 N ps (zo st)) (len:∀ vs H Q E,sp vs H Q E->vs.length=ps.length)
  (hbody:∀ (f:Addr) (cdv:Value) (A:Around) (outer:List Env) (s:Shared) (H:Hp) (vs:List V) (Q:VK) (E:XK),yj k (A.deeper (envOfC x (zo st) s.heap.objs.size f cdv))->sp vs H Q E->
   ∃ t,wD (ut v4 P w K mg base N x (zo st) f cdv A outer s H E).nox (uK st) t/\t { nx:=fun _ H'=>Q .non H',rt:=Q } (start N vs) H):zN P w K mg base x ps (k+1) sp:=by
 obtain ⟨f,fd,F,hm,hb⟩:=d
 exact ⟨f,fd,hm,F.kp,hb,F.ok S len (hbody f)⟩
end
section
variable {X:Cx} {x:Str} {p pos:Pos} {e:Expr} {es:List Expr} {t:TA} {ps:List Str} {j k:Nat} {sp:Sp} {v:V} {T:String}
noncomputable def yl:Expr->Bool
 | .Starred ..=>false
 | _=>true
theorem uY {e:Expr} {es:List Expr} {env:Env} (h:yl e=true):starEach (e::es) env=(false,eval e env)::starEach es env:=by
 cases e<;>first | rfl | cases h
theorem jM {env:Env} {pos:Pos}:∀ {es:List Expr},es.all yl=true->(backTo pos (starEach es env)).any (·.1)=false
 | [],_=>rfl
 | e::es,h=>by
  rw [List.all_cons,Bool.and_eq_true] at h
  rw [uY h.1]
  have ih:=jM (env:=env) (pos:=pos) h.2
  unfold backTo at ih ⊢
  rw [List.map_cons,List.any_cons,ih]
  rfl
theorem gC {te:TE} (ha:PE X e te) (hr:PA X es t) (h:yl e=true:=by rfl):PA X (e::es) (X3 te t):=Db ha hr (uY h)
noncomputable def ZJ:Expr->Option Int
 | .Constant (.int i) _ _=>some i
 | _=>none
theorem O8 {e:Expr} {i:Int} (h:ZJ e=some i):∃ k p,e=.Constant (.int i) k p:=by
 cases e<;>first | (cases h; done) | skip
 rename_i c k p
 cases c<;>first | (cases h; done) | skip
 cases h
 exact ⟨k,p,rfl⟩
noncomputable def intsOf:List Expr->Option (List Int)
 | []=>some []
 | e::r=>(ZJ e).bind fun i=>(intsOf r).map (i::·)
theorem Qn:∀ {es:List Expr} {is:List Int},intsOf es=some is->PA X es (fun _ H Q=>Q (is.map V.int) H)
 | [],is,h=>by
  cases (show some []=some is from h)
  exact qg
 | e::r,is,h=>by
  have q:((ZJ e).bind fun i=>(intsOf r).map (i::·))=some is:=h
  cases e1:ZJ e with
  | none=>rw [e1] at q; cases q
  | some i=>
   rw [e1] at q
   obtain ⟨k,p,rfl⟩:=O8 e1
   cases e2:intsOf r with
   | none=>rw [e2] at q; cases q
   | some js=>
    rw [e2] at q
    cases (show some (i::js)=some is from q)
    exact gC Qr (Qn e2)
theorem Ws (h:zN X.prog X.w X.K X.mg X.base x ps k sp) (hr:yj j X.A) (hg:Gl X x) (ha:PA X (e::es) t) (hk:k<=j:=by decide) (hdb:(x == ("__debug__" : Str))=false:=by decide)
  (he:(e::es).all yl=true:=by rfl):PE X (.Call (.Name x p) (e::es) [] pos) (VV sp [] E0 t):=by
 obtain ⟨f,fd,hm,kp,b,F⟩:=h
 rw [List.all_cons,Bool.and_eq_true] at he
 exact Dg F (hr.mono hk) hg hm kp b .nil Wo ha hdb (uY he.1) (jM he.2)
theorem Wp (h:yt X.mg x v) (hg:Gl X x) (hd:(x == ("__debug__" : Str))=false:=by decide):PE X (.Name x pos) (tC v):=by
 obtain ⟨u,hm,r⟩:=h
 exact Dn hg hm r hd
end
section
variable {X:Cx} {st:Stmt} {t:TS}
end
section
variable {X:Cx}
theorem w_:yC X (binaryOp .FloorDiv) (rI (fun _ j=>0<j/\j<2 ^ 64) fun i j=>.int (i / j)):=g9 fun i j _ _ _ _ _ hc q=>by
 have h1:(0:Int)<j:=hc.1
 have h2:j<2 ^ 64:=hc.2
 have h3:j.natAbs.log2<64:=(Nat.log2_lt (by omega)).mpr (by omega)
 exact PyProof.Rows.floordiv_int (by omega) (by rw [Int.fdiv_eq_ediv_of_nonneg i (by omega)]; exact q) (.inl (PyProof.noPylong_of_log2 (by omega)))
end
theorem xw:bootBuiltins "len" = some (.builtin "len"):=by decide +kernel
theorem UM:bootBuiltins "int" = some (.type "int"):=by decide +kernel
theorem UN:bootBuiltins "list" = some (.type "list"):=by decide +kernel
theorem wJ {H:Hp} {p:Addr} (h:H p=none) (o:HO):zx H (ze H p o):=fun b u q=>by rw [yE (wY q h)]; exact q
theorem small {n:Nat} (h:n<=1000):n<=sizeLine:=Nat.le_of_lt (G8 h)
end L2
namespace L2
open PySem PySem.Spec PyProof.Rows
section
variable {X:Cx} {tg:Expr}
end
end L2
namespace L2
open PySem PySem.Spec PyProof.Rows
noncomputable def tN (env:Env):List (Str×Addr)->Prop
 | []=>True
 | p::r=>env.cells.lookup p.1=some p.2/\tN env r
theorem tN.get {env:Env}:∀ {cl:List (Str×Addr)} {y:Str} {c:Addr},tN env cl->cl.lookup y=some c->env.cells.lookup y=some c
 | [],_,_,_,h=>by cases h
 | (n,a)::r,y,c,hc,h=>by
  rw [List.lookup_cons] at h
  cases e:y == n with
  | true=>
   rw [e] at h
   have e':y=n:=by simpa using e
   subst e'
   have h':a=c:=by simpa using h
   subst h'
   exact hc.1
  | false=>
   rw [e] at h
   exact tN.get hc.2 (by simpa using h)
noncomputable def pR (scope:Scope) (env:Env) (cl:List (Str×Addr)) (own:List Str):Bool:=
 scope.names.all fun p=>p.1 != ("." : Str)&&((p.2 == .local&&(own.contains p.1||p.1 == (".0" : Str)))||p.2 == .globalImplicit||p.2 == .globalExplicit ||
  (p.2 == .free&&(env.kindOf p.1 == some .cell||env.kindOf p.1 == some .free)&&(cl.lookup p.1).isSome))
noncomputable def jl (own:List Str) (y:Str):Str:=if own.contains y||y == (".0" : Str) then "." else y
noncomputable def xB (N own:List Str):List Str:=N.map (jl own)++own
theorem V4 {env:Env}:∀ {names:List (Str×NameKind)} {y:Str} {k:NameKind},
  (names.map fun (n,k)=>if (k == NameKind.free&&env.scope.kind == .function&&env.kindOf n == some .cell) then (n,NameKind.cell) else (n,k)).lookup y=some k->∃ k0,(y,k0)∈names/\(k=k0\/(k0=.free/\k=.cell))
 | [],_,_,h=>by simp at h
 | (n,k')::r,y,k,h=>by
  rw [List.map_cons] at h
  by_cases hc:(k' == NameKind.free&&env.scope.kind == .function&&env.kindOf n == some .cell)=true
  ·dsimp only at h
   rw [if_pos hc,List.lookup_cons] at h
   cases e:y == n with
   | true=>
    rw [e] at h
    have e':y=n:=by simpa using e
    subst e'
    have h':NameKind.cell=k:=by simpa using h
    have hf:k'=.free:=by
     rw [Bool.and_eq_true,Bool.and_eq_true] at hc
     simpa using hc.1.1
    exact ⟨k',List.mem_cons_self,.inr ⟨hf,h'.symm⟩⟩
   | false=>
    rw [e] at h
    obtain ⟨k0,m,z⟩:=V4 (env:=env) (by simpa using h)
    exact ⟨k0,List.mem_cons_of_mem _ m,z⟩
  ·dsimp only at h
   rw [if_neg hc,List.lookup_cons] at h
   cases e:y == n with
   | true=>
    rw [e] at h
    have e':y=n:=by simpa using e
    subst e'
    have h':k'=k:=by simpa using h
    exact ⟨k',List.mem_cons_self,.inl h'.symm⟩
   | false=>
    rw [e] at h
    obtain ⟨k0,m,z⟩:=V4 (env:=env) (by simpa using h)
    exact ⟨k0,List.mem_cons_of_mem _ m,z⟩
noncomputable def xK (X:Cx) (scope:Scope) (cl:List (Str×Addr)) (own:List Str) (C:Addr) (s2:Shared) (H2:Hp) (fp:List Addr) (pn:List (Addr×Obj)):Cx:=
 { X with N:=xB X.N own,s₀:=s2,H₀:=H2,env:=compEnvC scope cl C X.env,outer:=X.stack,stack:=X.stack,ex:=fp,fn:=fun _=>false,pn:=pn,xe:=fun _ _=>False }
section
variable {X:Cx} {pins:List (Addr×Obj)} {σ:St} {H2:Hp} {s2:Shared} {scope:Scope} {cl:List (Str×Addr)} {own:List Str} {C D:Addr} {fp:List Addr}
theorem UG (hb:pR scope X.env cl own=true) {y:Str} {k:NameKind} (h:(relabel scope X.env).names.lookup y=some k) :
  y ≠ "." /\ ((k=.local->own.contains y=true\/y = ".0")/\((k=.cell\/k=.free)->(∃ k0,(y,k0)∈scope.names/\k0=.cell)\/((X.env.kindOf y=some .cell\/X.env.kindOf y=some .free)/\∃ c,cl.lookup y=some c))):=by
 obtain ⟨k0,m,z⟩:=V4 h
 have q:=List.all_eq_true.mp hb _ m
 rw [Bool.and_eq_true] at q
 obtain ⟨q1,q2⟩:=q
 refine ⟨by simpa using q1,fun hk=>?_,fun hk=>?_⟩
 ·rcases z with z | ⟨_,z⟩
  ·subst z
   subst hk
   simpa using q2
  ·rw [z] at hk
   cases hk
 ·have hf:k0=.free\/k0=.cell:=by
   rcases z with z | ⟨z,_⟩
   ·subst z
    rcases hk with hk | hk
    ·exact .inr hk
    ·exact .inl hk
   ·exact .inl z
  rcases hf with hf | hf
  ·subst hf
   right
   have q3:((X.env.kindOf y == some .cell||X.env.kindOf y == some .free)&&(cl.lookup y).isSome)=true:=by simpa using q2
   rw [Bool.and_eq_true] at q3
   refine ⟨?_,Option.isSome_iff_exists.mp q3.2⟩
   have:=q3.1
   rw [Bool.or_eq_true] at this
   rcases this with t | t
   ·exact .inl (by simpa using t)
   ·exact .inr (by simpa using t)
  ·exact .inl ⟨k0,m,hf⟩
theorem Xj (hb:pR scope X.env cl own=true) (hcell:∀ y∈scope.names,y.2≠.cell) {y:Str} {k:NameKind} (h:(relabel scope X.env).names.lookup y=some k) (hk:k=.cell\/k=.free) :
  (X.env.kindOf y=some .cell\/X.env.kindOf y=some .free)/\∃ c,cl.lookup y=some c:=by
 rcases (UG hb h).2.2 hk with ⟨k0,m,e⟩ | q
 ·exact absurd e (hcell _ m)
 ·exact q
theorem UH (I:Inv X pins σ H2 s2) (hk:scope.kind=.function) (hcell:∀ y∈scope.names,y.2≠.cell) (hcap:tN X.env cl) (hb:pR scope X.env cl own=true) (hC:s2.heap.objs.size<=C)
  (hfp:∀ b∈fp,vT X pins H2 b) (hfo:∀ b∈fp,∃ o,s2.heap.get? b=some o):(xK X scope cl own C s2 H2 fp (X.pn++pins)).Ok where
 mod:=I.ok.mod
 kind:=hk
 glob:=I.ok.glob
 blt:=I.ok.blt
 above:=hC
 inj:=fun x y c h1 h2=>I.ok.inj x y c (hcap.get h1) (hcap.get h2)
 has:=fun x hx=>by
  rcases hx with hx | hx
  ·exact (Xj hb hcell (show (relabel scope X.env).names.lookup x=_ from hx) (.inl rfl)).2
  ·exact (Xj hb hcell (show (relabel scope X.env).names.lookup x=_ from hx) (.inr rfl)).2
 cab:=fun x c h=>by cases h
 hd:=I.ok.hd
 frames:=I.ok.frames
 stk:=.inl rfl
 exf:=fun b hx=>⟨by
  obtain ⟨o,e⟩:=hfo b hx
  exact Nat.ne_of_lt (Nat.lt_of_lt_of_le (Heap.lt_size e) hC),fun x c h=>(hfp b hx).2.2.2.2.1 x c (hcap.get h)⟩
 bs:=I.bs
 bsz:=Nat.le_trans I.ok.bsz I.sz
 noex:=fun b o e hx=>by
  rcases (hfp b hx).2.2.2.1 with z | z
  ·exact I.ok.noex b o e z
  ·exact absurd (Nat.lt_of_lt_of_le (Heap.lt_size e) (Nat.le_trans I.ok.bsz z)) (Nat.lt_irrefl _)
 exfs:=fun b hx hz=>by
  rcases List.mem_cons.mp (I.stkSub b hz) with z | z
  ·exact (hfp b hx).2.1 z
  ·exact (hfp b hx).2.2.1 z
 funs:=I.stack
 frf:=I.stkFree
theorem Y5 {α:Type} {σ:List (Option α)} {n i:Nat} {v:α} (h:(σ++List.replicate n none)[i]?=some (some v)):σ[i]?=some (some v):=by
 by_cases hi:i<σ.length
 ·rw [List.getElem?_append_left hi] at h
  exact h
 ·rw [List.getElem?_append_right (by omega),List.getElem?_replicate] at h
  split at h<;>cases h
theorem OI {h4:Heap} {m0:Str->Option Value} {dobj:Obj} {tk:Nat} (I:Inv X pins σ H2 s2) (hk:scope.kind=.function) (hcell:∀ y∈scope.names,y.2≠.cell) (hcap:tN X.env cl) (hb:pR scope X.env cl own=true)
  (hC:s2.heap.objs.size<=C) (hD:s2.heap.objs.size<=D) (hDC:D≠C) (hfp:∀ b∈fp,vT X pins H2 b) (hfo:∀ b∈fp,∃ o,s2.heap.get? b=some o)
  (keep:∀ b o,s2.heap.get? b=some o->h4.get? b=some o) (ns:h4.Ns C m0) (hd:h4.get? D=some dobj) (hdd:∀ v,dobj.data≠.cell v) :
  Inv (xK X scope cl own C s2 H2 fp (X.pn++pins)) [(D,dobj)] (σ++List.replicate own.length none) H2 { s2 with heap:=h4,toks:=tk }:=by
 have nfs:∀ a,s2.heap.objs.size<=a->a ∉ vH X.stack:=fun a ha hz=>by
  rcases List.mem_cons.mp (I.stkSub a hz) with z | z
  ·exact absurd (Nat.lt_of_lt_of_le I.lt ha) (by rw [z]; exact Nat.lt_irrefl _)
  ·exact I.nofs ha z
 refine ⟨UH I hk hcell hcap hb hC hfp hfo,rfl,I.bare,Un.kept keep,⟨m0,ns,fun i y v e1 e2 e3=>?_⟩,fun x c h=>?_,I.hok.fresh hC,fun x c h=>I.freeC x c (hcap.get h),fun p hp=>?_,I.hok.kept keep,?_⟩
 ·have e2':σ[i]?=some (some v):=Y5 e2
  have hi:i<X.N.length:=by
   have:=(List.getElem?_eq_some_iff.mp e2').1
   rw [I.len] at this
   exact this
  have e1':(X.N.map (jl own)++own)[i]?=some y:=e1
  rw [List.getElem?_append_left (by simpa using hi),List.getElem?_map] at e1'
  cases en:X.N[i]? with
  | none=>
   rw [en] at e1'
   cases e1'
  | some n=>
   rw [en] at e1'
   have ey:jl own n=y:=Option.some.inj e1'
   have vis:∃ k,(relabel scope X.env).names.lookup y=some k/\(k=.local\/k=.cell\/k=.free):=by
    rcases e3 with z | z | z
    ·exact ⟨_,z,.inl rfl⟩
    ·exact ⟨_,z,.inr (.inl rfl)⟩
    ·exact ⟨_,z,.inr (.inr rfl)⟩
   obtain ⟨k,lk,kk⟩:=vis
   obtain ⟨nd,loc,_⟩:=UG hb lk
   unfold jl at ey
   by_cases ho:(own.contains n||n == (".0" : Str))=true
   ·rw [if_pos ho] at ey
    exact absurd ey.symm nd
   ·rw [if_neg ho] at ey
    subst ey
    have kk':k=.cell\/k=.free:=by
     rcases kk with z | z
     ·exfalso
      apply ho
      rcases loc z with t | t
      ·rw [t]; rfl
      ·subst t; simp
     ·exact z
    obtain ⟨ok,c,hc⟩:=Xj hb hcell lk kk'
    obtain ⟨m,hn,hl⟩:=I.loc
    obtain ⟨u,r,l⟩:=hl i n v en e2' (.inr ok)
    refine ⟨u,r,.inr ⟨?_,c,hc,?_⟩⟩
    ·rcases kk' with z | z
     ·subst z; exact .inl lk
     ·subst z; exact .inr lk
    ·rcases l with ⟨z,_⟩ | ⟨_,c',hc',z⟩
     ·rcases ok with t | t<;>(rw [t] at z; cases z)
     ·rw [hcap.get hc] at hc'
      cases hc'
      obtain ⟨o,ho',hd'⟩:=z
      exact ⟨o,keep _ _ ho',hd'⟩
 ·obtain ⟨v,o,ho,hd'⟩:=I.cell x c (hcap.get h)
  exact ⟨v,o,keep _ _ ho,hd'⟩
 ·rcases List.mem_append.mp hp with z | z
  ·obtain ⟨e,n,ne,nf,d⟩:=I.pin p z
   refine ⟨keep _ _ e,n,Nat.ne_of_lt (Nat.lt_of_lt_of_le (Heap.lt_size e) hC),fun hz=>?_,d⟩
   rcases List.mem_cons.mp (I.stkSub p.1 hz) with t | t
   ·exact ne t
   ·exact nf t
  ·have e:p=(D,dobj):=by simpa using z
   subst e
   exact ⟨hd,I.hok.fresh hD,hDC,nfs D hD,hdd⟩
 ·show (σ++List.replicate own.length none).length=(X.N.map (jl own)++own).length
  rw [List.length_append,List.length_append,List.length_replicate,List.length_map,I.len]
end
end L2
namespace L2
open PySem PySem.Spec PyProof.Rows
noncomputable def qN (X:Cx) (ifs:List Expr) (tc:TT):Prop:=
 ∀ (pins:List (Addr×Obj)) (s:Shared) (σ:St) (H:Hp) (Q:Bool->Hp->Prop),Inv X pins σ H s->tc σ H Q->
  wpAny (model X.prog X.w) X.A (forIn ifs true fun c r=>if r=true then do let ok <- isTrue c X.env (eval c X.env); pure (ForInStep.yield ok) else pure (ForInStep.yield r)) (TP X pins σ Q) X.xe s
noncomputable def VY:TT:=fun _ H Q=>Q true H
theorem J7 {X:Cx}:qN X [] VY:=fun _ _ _ H _ I h=>wpAny_tests_nil ⟨H,I,h⟩
theorem Fk {X:Cx} {c:Expr} {t:TT} (h:PT X c t):qN X [c] t:=fun pins s σ H Q I q=>wpAny_tests_one (h pins s σ H Q I q)
section
variable {prog:Program} {w:World} {A:Around} {R:Result->Shared->Prop} {s:Shared}
theorem Mm {elt tg iter:Expr} {ifs:List Expr} {scope:Scope} {pos:Pos} {it acc:Value} {env:Env} (J:Nat->Shared->Prop)
  (turn:∀ n s,J n s->wpAny (model prog w) A (pyNext it) (fun r s₁=>match r with
   | none=>R (.ok .next) s₁
   | some v=>wpAny (model prog w) A (letOwnedTupleGo tg it v) (fun _ z=>wpAny (model prog w) A (assign tg env v) (fun _ s₂=>
    wpAny (model prog w) A (forIn ifs true fun c r=>if r=true then do let ok <- isTrue c env (eval c env); pure (ForInStep.yield ok) else pure (ForInStep.yield r)) (fun ok s₃=>
     if ok=true then wpAny (model prog w) A (eval elt env) (fun x s₄=>wpAny (model prog w) A (call (.builtin "list.append") [acc,x]) (fun _ s₅=>∃ m,m<n/\J m s₅) (fun _ _=>False) s₄) (fun _ _=>False) s₃
     else ∃ m,m<n/\J m s₃) (fun _ _=>False) s₂) (fun _ _=>False) z) (fun _ _=>False) s₁) (fun _ _=>False) s)
  (n:Nat) (h:J n s):codeAny (model prog w) A (.compLoop (.ListComp elt [⟨tg,iter,ifs,0⟩] scope pos) 0 it acc env) R s:=by
 have no:∀ {P:Value->Shared->Prop},∀ e s',(fun _ _=>False:Value->Shared->Prop) e s'->P e s':=fun _ _ z=>z.elim
 refine codeAny_loop rfl J (fun n s hI=>?_) n h
 show wpAny _ A (Sem.onRaise (compTurn (.ListComp elt [⟨tg,iter,ifs,0⟩] scope pos) 0 it acc env) (fun x=>do noteFrame x env; theTreesLotGoes x)) _ _ s
 refine wpAny_noted ?_
 rw [compTurn_list]
 refine wpAny_bind (wpAny_standAt (wpAny_bind (wpAny_mono (turn n s hI) (fun r s₁ h₁=>?_) no)))
 cases r with
 | none=>exact wpAny_pure h₁
 | some v=>
  refine wpAny_bind (wpAny_mono h₁ (fun _ z hz=>?_) no)
  refine wpAny_bind (wpAny_mono hz (fun _ s₂ h₂=>?_) no)
  refine wpAny_bind (wpAny_mono h₂ (fun ok s₃ h₃=>?_) no)
  cases ok with
  | false=>exact wpAny_pure ⟨rfl,h₃⟩
  | true=>
   refine wpAny_bind (wpAny_bind (wpAny_mono h₃ (fun x s₄ h₄=>?_) no))
   exact wpAny_bind (wpAny_mono h₄ (fun _ s₅ h₅=>wpAny_pure (wpAny_pure ⟨rfl,h₅⟩)) no)
end
noncomputable abbrev xo (its:List Value) (k:Nat):Obj:={ cls:=.type "list",data:=.seq its.toArray k }
theorem Q6 {its:List Value} {k:Nat}:∀ v,(xo its k).data≠.cell v:=fun _ z=>nomatch z
section
variable {X:Cx} {σ:St} {H:Hp} {s:Shared} {D:Addr}
theorem MA {pl:List (Addr×Obj)} {its its':List Value} {k k' tk:Nat} {h':Heap} (I:Inv X ((D,xo its k)::pl) σ H s) (hD:X.s₀.heap.objs.size<=D) (hpn:∀ p∈X.pn,p.1≠D)
  (hs:Heap.SameBut D s.heap h') (hd:h'.get? D=some (xo its' k')):Inv X [(D,xo its' k')] σ H { s with heap:=h',toks:=tk }:=by
 obtain ⟨e,n,ne,nf,d⟩:=I.pin (D,xo its k) (List.mem_append_right _ List.mem_cons_self)
 have I0:Inv X [] σ H s:=I.pins_of fun p hp=>absurd hp (by simp)
 have I1:Inv X [] σ H { s with heap:=h',toks:=tk }:=I0.turned (it:=D) (fun b o hb q=>(hs.2 b hb).trans q) n ne (.inr hD) (fun x c hc z=>by
  subst z
  obtain ⟨v,o,ho,hv⟩:=I.cell x c hc
  rw [show s.heap.get? c=some (xo its k) from e] at ho
  cases ho
  exact d v hv) (fun p hp=>hpn p (by simpa using hp))
 exact I1.pins_of fun p hp=>by
  have q:p=(D,xo its' k'):=by simpa using hp
  subst q
  exact ⟨hd,n,ne,nf,Q6⟩
end
section
variable {X:Cx} {tg iter elt:Expr} {ifs:List Expr} {scope:Scope} {cl:List (Str×Addr)} {own:List Str} {pos:Pos} {te:TE} {tc:TT} {g:TG} {wi:TI}
theorem HD {fs ex:List Addr} {H H':Hp} {h h':Heap} {D:Addr} {o:HO} (u:Un fs ex H H' h h') (hD:h.objs.size<=D) (hn:H' D=none):Un fs ex H (ze H' D o) h h' where
 keep:=u.keep
 slot:=u.slot
 free:=fun b ob q n hx=>by rw [yE (fun z=>by subst z; exact absurd (Nat.lt_of_lt_of_le (Heap.lt_size q) hD) (Nat.lt_irrefl _))]; exact u.free b ob q n hx
 there:=u.there
 tups:=fun b xs q=>by rw [yE (wY (u.tups b xs q) hn)]; exact u.tups b xs q
 frzs:=fun b ob v q=>by rw [yE (wY (u.frzs b ob v q) hn)]; exact u.frzs b ob v q
 tbls:=fun b ps q=>by
  obtain ⟨more,z⟩:=u.tbls b ps q
  exact ⟨more,by rw [yE (wY z hn)]; exact z⟩
theorem TF {P:Program} {w:World} {H:Hp} {h:Heap} {D:Addr} {o:HO} (x:ye P w H h) (hn:H D=none) (new:xA P w (ze H D o) h D o):ye P w (ze H D o) h:=fun b u e=>by
 by_cases hb:b=D
 ·subst hb
  rw [yQ] at e
  cases e
  exact new
 ·rw [yE hb] at e
  refine (x b u e).stay (fun c v _ q=>q) (fun c q=>?_) (fun c xs q=>?_)
  ·rw [yE (wY q hn)]; exact q
  ·rw [yE (wY q hn)]; exact q
structure qD (X:Cx) (scope:Scope) (cl:List (Str×Addr)) (own:List Str):Prop where
 kind:scope.kind=.function
 cell:∀ y∈scope.names,y.2≠.cell
 cap:tN X.env cl
 ok:pR scope X.env cl own=true
 clos:closureFor scope X.env=pure cl
 names:∀ y∈scope.names,y.2=.local->scope.names.lookup y.1=some .local
structure ZC (X:Cx) (pins:List (Addr×Obj)) (H:Hp) (s:Shared) (C:Addr):Prop where
 free:H C=none
 ne:C≠X.env.locals
 old:X.s₀.heap.objs.size<=C
 cell:∀ x c,X.env.cells.lookup x=some c->c≠C
 pin:∀ p∈X.pn++pins,p.1≠C
noncomputable def jv (σ:St) (n:Nat) (J:It) (g:TG) (tc:TT) (te:TE) (W:Nat->Nat->List V->Hp->Prop) (Fin:List V->Hp->Prop):Prop:=
 ∀ i m ys H,W i m ys H->(J.stop i H/\Fin ys H)\/(J.go i H/\ys.length<sizeLine/\∃ N:List V->Hp->Prop,(∀ ys' H',N ys' H'->∃ m',m'<m/\W (i+1) m' ys' H')/\
  ∀ x H',J.yld i H x H'->g x (σ++List.replicate n none) H' fun σ2 H3=>(∃ τ,σ2=σ++τ)/\tc σ2 H3 fun c H4=>if c=true then te σ2 H4 fun y H5=>N (ys++[y]) H5 else N ys H4)
theorem UK {pins:List (Addr×Obj)} {σ:St} {H2:Hp} {s2:Shared} {fp:List Addr} {it:Addr} {tn:Nat->Heap->Prop} {J:It} {W:Nat->Nat->List V->Hp->Prop} {Fin:List V->Hp->Prop} {m0:Nat}
  {RR:Value->Addr->Result->Shared->Prop} (hcalm:X.calm=true) (B:qD X scope cl own) (I:Inv X pins σ H2 s2) (T:qO X.prog X.w X.K tg J fp it tn) (t0:tn 0 s2.heap) (hfp:∀ b∈fp,vT X pins H2 b)
  (hg:∀ C s H fp pn,PG (xK X scope cl own C s H fp pn) tg g) (hc:∀ C s H fp pn,qN (xK X scope cl own C s H fp pn) ifs tc) (he:∀ C s H fp pn,PE (xK X scope cl own C s H fp pn) elt te)
  (W0:W 0 m0 [] H2) (turn:jv σ own.length J g tc te W Fin)
  (hRR:∀ D C s' H' ys m',Inv X pins σ (ze H' D (.lst ys)) s'->H' D=none->Fin ys H'->s'.heap.Ns C m'->ZC X pins (ze H' D (.lst ys)) s' C->RR (.ref D) C (.ok .next) s') {E:Value->Shared->Prop} :
  wpAny (model X.prog X.w) X.A (newList []) (fun acc s3=>wpAny (model X.prog X.w) X.A (newFunctionEnv scope X.env.globals cl [] X.env.qual none .none (some X.env)) (fun cenv s4=>
   codeAny (model X.prog X.w) X.A (.compStart (.ListComp elt [⟨tg,iter,ifs,0⟩] scope pos) 0 (.ref it) acc { cenv with scope:=relabel scope X.env }) (RR acc cenv.locals) s4) E s3) E s2:=by
 refine wpAny_newObj_type (wpAny_newFunctionEnv B.cell (by intro y hy; simp at hy) (fun h4 hns hsb=>?_) B.kind)
 dsimp only at hns hsb ⊢
 generalize hP:s2.heap.push (xo [] 0)=P2 at hns hsb ⊢
 have hC:P2.objs.size=s2.heap.objs.size+1:=by rw [<- hP,Heap.size_push]
 have hDC:s2.heap.objs.size≠P2.objs.size:=by rw [hC]; exact Nat.ne_of_lt (Nat.lt_succ_self _)
 have hCle:s2.heap.objs.size<=P2.objs.size:=by rw [hC]; exact Nat.le_succ _
 have keep:∀ b o,s2.heap.get? b=some o->h4.get? b=some o:=fun b o e=>
  hsb.extBut b o (Nat.ne_of_lt (Nat.lt_of_lt_of_le (Heap.lt_size e) hCle)) (Heap.get?_push_of_some _ (hP ▸ Heap.get?_push_of_some _ e))
 have hd4:h4.get? s2.heap.objs.size=some (xo [] 0):=hsb.extBut _ _ hDC (Heap.get?_push_of_some _ (hP ▸ Heap.get?_push_size _ rfl))
 have hfo:∀ b∈fp,∃ o,s2.heap.get? b=some o:=fun b hb=>let ⟨o,e,_⟩:=T.obj 0 _ t0 b hb; ⟨o,e⟩
 have lt:∀ b∈fp,b<s2.heap.objs.size:=fun b hb=>let ⟨o,e⟩:=hfo b hb; Heap.lt_size e
 generalize hDD:s2.heap.objs.size=D at hDC hd4 ⊢
 generalize hCC:P2.objs.size=C at hDC hns hsb hCle ⊢
 have hDle:s2.heap.objs.size<=D:=Nat.le_of_eq hDD
 let X':=xK X scope cl own C s2 H2 fp (X.pn++pins)
 have hpn:∀ p∈X'.pn,p.1≠D:=fun p hp z=>by
  obtain ⟨e,_⟩:=I.pin p hp
  rw [z] at e
  exact absurd (Nat.lt_of_lt_of_le (Heap.lt_size e) hDle) (Nat.lt_irrefl _)
 have okb:=UH I B.kind B.cell B.cap B.ok hCle hfp hfo
 have fpok:∀ {k:Nat} {its:List Value} {H':Hp},(∀ b∈fp,H' b=none)->∀ b∈fp,vT X' [(D,xo its k)] H' b:=fun {k its H'} hn b hb=>
  ⟨hn b hb,(okb.exf b hb).1,okb.exfs b hb,.inl hb,(okb.exf b hb).2,fun p hp=>by
   rcases List.mem_append.mp hp with z | z
   ·exact (hfp b hb).2.2.2.2.2 p z
   ·have q:p=(D,xo its k):=by simpa using z
    subst q
    exact fun z=>absurd (lt b hb) (by rw [<- z]; exact Nat.not_lt.mpr hDle)⟩
 have loop:∀ s4:Shared,s4={ s2 with heap:=h4,toks:=s2.toks+([]:List (Str×Value)).length }->
   codeAny (model X.prog X.w) X.A (.compLoop (.ListComp elt [⟨tg,iter,ifs,0⟩] scope pos) 0 (.ref it) (.ref D) (compEnvC scope cl C X.env)) (RR (.ref D) C) s4:=by
  rintro s4 rfl
  refine Mm (fun n s'=>∃ (i:Nat) (ys:List V) (its:List Value) (k:Nat) (H':Hp),Inv X' [(D,xo its k)] (σ++List.replicate own.length none) H' s'/\zb ys its/\tn i s'.heap/\(∀ b∈fp,H' b=none)/\W i n ys H'/\ys.length<=sizeLine) ?_ m0
   ⟨0,[],[],0,H2,OI I B.kind B.cell B.cap B.ok hCle hDle hDC hfp hfo keep hns hd4 Q6,.nil,T.keep _ _ _ t0 fun b _ o e=>keep b o e,fun b hb=>(hfp b hb).1,W0,Nat.zero_le _⟩
  rintro n s5 ⟨i,ys,its,k,H5,I5,v5,st5,fr5,w5,z5⟩
  rcases turn i n ys H5 w5 with ⟨stop,fin⟩ | ⟨go,room,N,hN,step⟩
  ·refine wpAny_mono (T.done X' rfl rfl rfl hcalm i _ s5 _ H5 (fun _ _=>False) I5 (fpok fr5) st5 stop) (fun r s6 ⟨hr,I6⟩=>?_) fun _ _ z=>z
   subst hr
   obtain ⟨e6,n6,ne6,nf6,d6⟩:=I6.pin (D,xo its k) (List.mem_append_right _ List.mem_cons_self)
   obtain ⟨m6,ns6,_⟩:=I6.loc
   have u6:Un (vH X.stack) fp H2 (ze H5 D (.lst ys)) s2.heap s6.heap:=HD I6.base hDle n6
   have new6:xA X.prog X.w (ze H5 D (.lst ys)) s6.heap D (.lst ys):=⟨z5,its,k,v5,e6⟩
   have I7:Inv X pins σ (ze H5 D (.lst ys)) s6:=I.call' I6.os u6 (TF I6.hok n6 new6) I6.bare (fun b hb=>⟨(hfp b hb).2.2.2.1,(hfp b hb).2.1,(hfp b hb).2.2.2.2.1,(hfp b hb).2.2.2.2.2⟩)
   refine hRR D C s6 H5 ys m6 I7 n6 fin ns6 ⟨?_,?_,?_,fun x c hcx z=>?_,fun p hp z=>?_⟩
   ·rw [yE (Ne.symm hDC)]; exact I6.free
   ·exact fun z=>absurd I.lt (by rw [<- z]; exact Nat.not_lt.mpr hCle)
   ·exact Nat.le_trans I.sz hCle
   ·subst z
    obtain ⟨v,o,ho,_⟩:=I.cell x c hcx
    exact absurd (Nat.lt_of_lt_of_le (Heap.lt_size ho) hCle) (Nat.lt_irrefl _)
   ·obtain ⟨e,_⟩:=I.pin p hp
    rw [z] at e
    exact absurd (Nat.lt_of_lt_of_le (Heap.lt_size e) hCle) (Nat.lt_irrefl _)
  ·refine wpAny_mono (T.item X' rfl rfl rfl hcalm i _ s5 _ H5 (fun _ _=>False) I5 (fpok fr5) st5 go) (fun r s6 ⟨u,hr,h6⟩=>?_) fun _ _ z=>z
   subst hr
   refine wpAny_mono h6 (fun _ s7 ⟨x,H7,I7,r7,y7,st7,fr7⟩=>?_) fun _ _ z=>z
   have I7':=I7.pinned (fpok fr7) (T.obj _ _ st7)
   refine wpAny_mono (hg C s2 H2 fp _ _ s7 _ H7 x u _ I7' r7 (step x H7 y7)) (fun _ s8 ⟨σ8,H8,I8,⟨τ,hτ⟩,q8⟩=>?_) fun _ _ z=>z
   subst hτ
   have back:∀ {n':Nat} {ys':List V} {its':List Value} {k':Nat} {H9:Hp} {s9:Shared} {pl:List (Addr×Obj)},Inv X' ((D,xo its' k')::pl) (σ++τ) H9 s9->zb ys' its'->tn (i+1) s9.heap->(∀ b∈fp,H9 b=none)->W (i+1) n' ys' H9->ys'.length<=sizeLine->
     ∃ (i:Nat) (ys:List V) (its:List Value) (k:Nat) (H':Hp),Inv X' [(D,xo its k)] (σ++List.replicate own.length none) H' s9/\zb ys its/\tn i s9.heap/\(∀ b∈fp,H' b=none)/\W i n' ys H'/\ys.length<=sizeLine:=fun {n' ys' its' k' H9 s9 pl} I9 v9 st9 fr9 w9 z9=>by
    have I9':Inv X' [(D,xo its' k')] (σ++τ) H9 s9:=I9.pins_of fun p hp=>I9.pin p (List.mem_append_right _ (by
     have q:p=(D,xo its' k'):=by simpa using hp
     subst q
     exact List.mem_cons_self))
    refine ⟨i+1,ys',its',k',H9,I9'.weak ?_ (fun j v e=>?_),v9,st9,fr9,w9,z9⟩
    ·rw [I9'.len,<- I5.len]
    ·have e':=Y5 e
     rw [List.getElem?_append_left (List.getElem?_eq_some_iff.mp e').1]
     exact e'
   have keepIt:∀ {σ9:St} {H9:Hp} {s9:Shared},Inv X' ([(D,xo its k)]++gE fp s7.heap) σ9 H9 s9->tn (i+1) s9.heap/\∀ b∈fp,H9 b=none:=fun {σ9 H9 s9} I9=>
    ⟨T.keep _ _ _ st7 fun b hb o e=>(I9.pin (b,o) (List.mem_append_right _ (List.mem_append_right _ (YV hb e)))).1,fun b hb=>by
     obtain ⟨o,e,_⟩:=T.obj _ _ st7 b hb
     exact (I9.pin (b,o) (List.mem_append_right _ (List.mem_append_right _ (YV hb e)))).2.1⟩
   refine wpAny_mono (hc C s2 H2 fp _ _ s8 _ H8 _ I8 q8) (fun c s9 ⟨H9,I9,q9⟩=>?_) fun _ _ z=>z
   cases c with
   | false=>
    rw [if_neg Bool.false_ne_true] at q9 ⊢
    obtain ⟨m',hm,w9⟩:=hN _ _ q9
    exact ⟨m',hm,back I9 v5 (keepIt I9).1 (keepIt I9).2 w9 z5⟩
   | true=>
    rw [if_pos rfl] at q9 ⊢
    refine wpAny_mono (he C s2 H2 fp _ _ s9 _ H9 _ I9 q9) (fun yv sa ⟨y,Ha,Ia,ra,qa⟩=>?_) fun _ _ z=>z
    obtain ⟨m',hm,wa⟩:=hN _ _ qa
    obtain ⟨ea,na,_⟩:=Ia.pin (D,xo its k) (List.mem_append_right _ (List.mem_append_left _ List.mem_cons_self))
    have szi:its.toArray.size<=sizeLine:=by
     have:=v5.length
     simp only [List.size_toArray]
     omega
    refine wpAny_list_append_plain (hsz:=szi) ⟨k,ea⟩ fun hb hlb hsb'=>?_
    obtain ⟨kb,eb⟩:=hlb
    have eb':hb.get? D=some (xo (its++[yv]) kb):=by rw [eb]; simp
    have Ib:Inv X' [(D,xo (its++[yv]) kb)] (σ++τ) Ha { sa with heap:=hb,toks:=sa.toks }:=MA (tk:=sa.toks) Ia hDle hpn hsb' eb'
    have stb:tn (i+1) hb:=T.keep _ _ _ (keepIt Ia).1 fun b hbf o e=>(hsb'.2 b (fun z=>absurd (lt b hbf) (by rw [z]; exact Nat.not_lt.mpr hDle))).trans e
    exact ⟨m',hm,back Ib (zb.append v5 (.cons ra .nil)) stb (keepIt Ia).2 wa (by rw [List.length_append]; exact room)⟩
 exact codeAny_compStart_list (loop _ rfl) (T.self X.A 0 _ _ _ (T.keep _ _ _ t0 fun b _ o e=>keep b o e) (loop _ rfl))
noncomputable def GX (n:Nat) (wi:TI) (g:TG) (tc:TT) (te:TE):TE:=fun σ H Q=>wi σ H fun J H1=>∃ W:Nat->Nat->List V->Hp->Prop,(∃ m,W 0 m [] H1)/\
 jv σ n J g tc te W fun ys H'=>∀ p,H' p=none->Q (.ref p) (ze H' p (.lst ys))
theorem ZC.inv {pins:List (Addr×Obj)} {σ:St} {H:Hp} {s:Shared} {C:Addr} {h':Heap} (o:ZC X pins H s C) (I:Inv X pins σ H s) (hs:Heap.SameBut C s.heap h'):Inv X pins σ H { s with heap:=h' }:=
 I.turned (it:=C) (t':=s.toks) (fun b u hb q=>(hs.2 b hb).trans q) o.free o.ne (.inr o.old) o.cell o.pin
theorem Dp (hcalm:X.calm=true) (B:qD X scope cl own) (hi:PI X tg iter wi) (hg:∀ C s H fp pn,PG (xK X scope cl own C s H fp pn) tg g) (hc:∀ C s H fp pn,qN (xK X scope cl own C s H fp pn) ifs tc)
  (he:∀ C s H fp pn,PE (xK X scope cl own C s H fp pn) elt te) (hs:∀ x,foldedSetIterable iter X.env x=pure x:=by intro _; rfl) :
  PE X (.ListComp elt [⟨tg,iter,ifs,0⟩] scope pos) (GX own.length wi g tc te):=by
 intro pins s σ H Q I h
 rw [eval_ListComp]
 refine wpAny_comprehension_free (use:=none) rfl hs B.clos B.kind B.names (zl (hi pins s σ H _ I h) fun v s1 h1=>zl h1 fun itv s2 h2=>?_)
 obtain ⟨it,fp,tn,J,H2,e,I2,T,st2,f2,W,⟨m0,w0⟩,turn⟩:=h2
 subst e
 refine UK (RR:=fun acc C=>compPost (model X.prog X.w) X.A X.xe none (EP X pins σ Q) acc C) hcalm B I2 T st2 f2 hg hc he w0 turn ?_
 intro D C s' H' ys m' I' n' fin ns' off
 exact ⟨m',ns',fun h' hs'=>⟨.ref D,ze H' D (.lst ys),off.inv I' hs',rfl,fin D n'⟩⟩
noncomputable def Gj (i n:Nat) (wi:TI) (g:TG) (tc:TT) (te:TE):TS:=fun D σ H=>wi σ H fun J H1=>∃ W:Nat->Nat->List V->Hp->Prop,(∃ m,W 0 m [] H1)/\
 jv σ n J g tc te W fun ys H'=>∀ p,H' p=none->D.nx (σ.set i (some (.ref p))) (ze H' p (.lst ys))
theorem J4 {i:Nat} {x:Str} {px spos:Pos} (hcalm:X.calm=true) (hN:X.N.Nodup) (hix:X.N[i]?=some x) (hx:X.env.scope.names.lookup x=some .local) (B:qD X scope cl own)
  (hsw:swapsWith (.ListComp elt [⟨tg,iter,ifs,0⟩] scope pos) (some (.Name x px)) spos.line X.env=pure true) (hi:PI X tg iter wi)
  (hg:∀ C s H fp pn,PG (xK X scope cl own C s H fp pn) tg g) (hc:∀ C s H fp pn,qN (xK X scope cl own C s H fp pn) ifs tc) (he:∀ C s H fp pn,PE (xK X scope cl own C s H fp pn) elt te)
  (hs:∀ x,foldedSetIterable iter X.env x=pure x:=by intro _; rfl) :
  PS X (.Assign [.Name x px] (.ListComp elt [⟨tg,iter,ifs,0⟩] scope pos) spos) (Gj i own.length wi g tc te):=by
 intro pins s σ H D I h
 rw [exec_Assign_Name_used _ _ _ _ hsw]
 refine wpAny_bind (wpAny_standAt (wpAny_bind ?_))
 show wpAny _ X.A (do let _ <- comprehension (.ListComp elt [⟨tg,iter,ifs,0⟩] scope pos) scope X.env _ (newList []) false (eval iter X.env) (some (assign (.Name x px) X.env))) _ _ s
 refine wpAny_bind (zl (wpAny_comprehension_free (use:=some (assign (.Name x px) X.env)) (Q:=fun _ s'=>SP X pins D .next s') rfl hs B.clos B.kind B.names
  (zl (hi pins s σ H _ I h) fun v s1 h1=>zl h1 fun itv s2 h2=>?_)) fun _ s' hq=>wpAny_pure (wpAny_pure hq))
 obtain ⟨it,fp,tn,J,H2,e,I2,T,st2,f2,W,⟨m0,w0⟩,turn⟩:=h2
 subst e
 refine UK (RR:=fun acc C=>compPost (model X.prog X.w) X.A X.xe (some (assign (.Name x px) X.env)) (fun _ s'=>SP X pins D .next s') acc C) hcalm B I2 T st2 f2 hg hc he w0 turn ?_
 intro L C s' H' ys m' I' n' fin ns' off
 show wpAny _ X.A (assign (.Name x px) X.env (.ref L)) _ _ s'
 refine wpAny_assign_Name (IF I' hN hix (.inl hx) (v:=.ref L) rfl (fun s3 I3 q3=>?_) (.inr hx))
 obtain ⟨a,hsa,ha⟩:=q3
 have hCa:C≠a:=by
  rcases ha with z | z
  ·rw [z]; exact off.ne
  ·exact fun y=>off.cell x a z y.symm
 refine ⟨m',ns'.sameBut hsa hCa,fun h' hs'=>?_⟩
 exact ⟨_,_,ZC.inv (H:=ze H' L (.lst ys)) ⟨off.free,off.ne,off.old,off.cell,off.pin⟩ I3 hs',fin L n'⟩
end
end L2
namespace L2
open PySem PySem.Spec PyProof.Rows
structure QE (X:Cx) (e:Expr) (t:TE):Prop where
 h:PE X e t
structure QA (X:Cx) (es:List Expr) (t:TA):Prop where
 h:PA X es t
structure QS (X:Cx) (st:Stmt) (t:TS):Prop where
 h:PS X st t
structure QG (X:Cx) (e:Expr) (t:TG):Prop where
 h:PG X e t
structure ZF (X:Cx) (es:List Expr) (t:uH):Prop where
 h:jU X es t
section
variable {X:Cx} {x y:Str} {p pos pos' apos cpos p2:Pos} {e a b c o tg iter elt:Expr} {es yD:List Expr} {te ta tb tc to:TE} {t:TA} {tA tB':TT} {r r':R2} {v:V} {T id:String} {ps:List Str} {j k i:Nat} {sp:Sp}
theorem qv (i:Nat) {x:Str} {pos:Pos} (hN:X.N[i]?=some x:=by rfl) (hv:tS X.env.scope x:=by first | exact Or.inl rfl | exact Or.inr (Or.inl rfl) | exact Or.inr (Or.inr rfl)) (hd:(x == ("__debug__" : Str))=false:=by decide)
  (hcd:(x == ("__classdict__" : Str))=false:=by decide):QE X (.Name x pos) (vf i):=⟨gD hN hv hd hcd⟩
theorem Fx (h:yt X.mg x v) (hg:Gl X x) (hd:(x == ("__debug__" : Str))=false:=by decide):QE X (.Name x pos) (tC v):=⟨Wp h hg hd⟩
noncomputable def Qw:Expr->Bool
 | .Name ..=>true
 | .Call ..=>true
 | .Subscript ..=>true
 | .Attribute ..=>true
 | .Constant ..=>true
 | .List ..=>true
 | .Tuple ..=>true
 | .BinOp ..=>true
 | _=>false
theorem FV {e:Expr} {env:Env} (h:Qw e=true):∀ whole,isTrue e env whole=(do let v <- whole; standAt e.pos; holding [v] (truthy v)):=by
 cases e<;>first | (intro _; rfl) | cases h
theorem JE:QA X [] qz:=⟨qg⟩
theorem JD (ha:QE X e te) (hr:QA X es t) (h:yl e=true:=by rfl):QA X (e::es) (X3 te t):=⟨gC ha.h hr.h h⟩
noncomputable def j7:Expr->Bool
 | .Name ..=>true
 | .Constant ..=>true
 | .BinOp ..=>true
 | .Call ..=>true
 | .UnaryOp ..=>true
 | .Subscript ..=>true
 | .Attribute ..=>true
 | _=>false
theorem Wt {b:Expr} (h:j7 b=true):Vx b:=by
 cases b<;>first | (intro _ _; rfl) | cases h
theorem Wz {r:List V->Hp->VK->Prop} (hc:xi X (.builtin id) r) (hg:Gl X x) (hm:X.mg x=none) (hv:bootBuiltins x=some (.builtin id)) (ha:QA X (e::es) t) (hn:x ≠ "__name__" := by decide) (hdb:(x == ("__debug__" : Str))=false:=by decide)
  (he:(e::es).all yl=true:=by rfl):QE X (.Call (.Name x p) (e::es) [] pos) (X2 r t):=by
 rw [List.all_cons,Bool.and_eq_true] at he
 exact ⟨Di hc hg hm hv ha.h hn hdb (uY he.1) (jM he.2)⟩
theorem j9 {r:List V->Hp->VK->Prop} (hc:xi X (.type T) r) (hg:Gl X x) (hm:X.mg x=none) (hv:bootBuiltins x=some (.type T)) (ha:QA X (e::es) t) (hn:x ≠ "__name__" := by decide) (hdb:(x == ("__debug__" : Str))=false:=by decide)
  (he:(e::es).all yl=true:=by rfl):QE X (.Call (.Name x p) (e::es) [] pos) (X2 r t):=by
 rw [List.all_cons,Bool.and_eq_true] at he
 exact ⟨Dj hc hg hm hv ha.h hn hdb (uY he.1) (jM he.2)⟩
variable {st:Stmt} {sts body:List Stmt} {ts us tbs:TS} {g:TG} {wi:TI}
noncomputable def t9:Expr->Bool
 | .ListComp ..=>false
 | .SetComp ..=>false
 | .DictComp ..=>false
 | _=>true
theorem QL {e:Expr} {tgt:Option Expr} {n:Nat} {env:Env} (h:t9 e=true):swapsWith e tgt n env=pure false:=by
 cases e<;>first | rfl | cases h
theorem W_ (he:QE X e te) (hs:t9 e=true:=by rfl):QS X (.Expr e pos) (IN te):=⟨Ff he.h (QL hs)⟩
theorem jC {i:Nat} {x:Str} {pos':Pos} (hN:X.N.Nodup) (hi:X.N[i]?=some x) (hx:wM X.env.scope x) (he:QE X e te) (hs:t9 e=true:=by rfl) (hf:X.fn x=true\/X.env.scope.names.lookup x=some .local:=by first | exact .inl rfl | exact .inr rfl | assumption) :
  QS X (.Assign [.Name x pos'] e pos) (X1 te (xz i)):=⟨J3 hN hi hx he.h (QL hs) hf⟩
theorem yJ {i:Nat} {x:Str} (hN:X.N.Nodup) (hi:X.N[i]?=some x) (hx:wM X.env.scope x) (hf:X.fn x=true\/X.env.scope.names.lookup x=some .local:=by first | exact .inl rfl | exact .inr rfl | assumption):QG X (.Name x pos) (xz i):=⟨Dx hN hi hx hf⟩
theorem Fy {o i:Expr} {to ti:TE} {t:ZG} (ho:QE X o to) (hi:QE X i ti) (hs:XU X t) (hp:j7 i=true:=by rfl):QG X (.Subscript o i pos) (U_ to ti t):=by
 refine ⟨Dy ho.h hi.h hs ?_⟩
 cases i<;>first | (intro _; rfl) | cases hp
theorem jB:ZF X [] pZ:=⟨FB⟩
theorem vc {t:TG} {u:uH} (h1:QG X e t) (h2:ZF X es u) (hs:(assignEach (e::es) X.env).map (·.2)=assign e X.env::(assignEach es X.env).map (·.2):=by rfl):ZF X (e::es) (uN t u):=⟨D_ h1.h h2.h hs⟩
theorem jA {k:Nat} {t:uH} {n:Nat} (hc:X.calm=true) (h:ZF X es t) (hn:(assignEach es X.env).length=n:=by rfl) (hst:(assignEach es X.env).findIdx? (·.1)=none:=by rfl):QG X (.Tuple es k pos) (pd X.K n t):=⟨Dz hc h.h hn hst⟩
variable {ifs:List Expr} {scope:Scope} {cl:List (Str×Addr)} {own:List Str} {tcc:TT}
variable {name:Str} {rm:V->List V->Hp->VK->Prop}
theorem ID {env:Env} {pos:Pos}:∀ {es:List Expr},es.all yl=true->(backTo pos (starEach es env)).all (fun x=>!x.1)=true
 | [],_=>rfl
 | e::es,h=>by
  rw [List.all_cons,Bool.and_eq_true] at h
  rw [uY h.1]
  have ih:=ID (env:=env) (pos:=pos) h.2
  unfold backTo at ih ⊢
  rw [List.map_cons,List.all_cons,ih]
  rfl
theorem gG (pa:PlainAttrs T) (slot:Slot T name id) (hty:typeOf (.builtin id)=pure (.type "method_descriptor")) (hm:pL X id rm) (ho:QE X o to) (ha:QA X (e::es) t)
  (hbase:attributeBase o name X.env (eval o X.env)=eval o X.env:=by rfl) (hline:(apos.endLine == cpos.line)=true:=by rfl) (he:(e::es).all yl=true:=by rfl) (hl:(e::es).length<30:=by decide) :
  QE X (.Call (.Attribute o name apos) (e::es) [] cpos) (IK X.K T rm to t):=⟨by
 have ha':=ID (env:=X.env) (pos:=cpos) he
 rw [List.all_cons,Bool.and_eq_true] at he
 refine De pa slot hty hm ho.h ha.h hbase ?_ hline (uY he.1) (jM he.2)
 rw [ha']
 show (true&&true&&decide ((e::es).length+0+0<30))=true
 rw [decide_eq_true (show (e::es).length+0+0<30 from hl)]
 rfl⟩
end
section
variable {P:Program} {w:World} {K:PySem.W.Frag} {mg:Str->Option Value} {base:Heap}
end
end L2
namespace L2
open PySem PySem.Spec PyProof.Rows
noncomputable def Vz (K:PySem.W.Frag) (H:Hp) (a c:Addr) (xs ys:List V):Prop:=(yU K H a xs/\yU K H c ys)\/(zy K H a xs/\zy K H c ys)
section
variable {X:Cx} {pins:List (Addr×Obj)} {σ:St} {H:Hp} {s:Shared}
theorem CG {A:Around} {a c:Addr} {xs ys:List V} {e:Nat->Bool} (I:Inv X pins σ H s) (hu:A.units<cLine) (hq:Vz X.K H a c xs ys)
  (he:∀ (j:Nat) x' y' u v,xs[j]?=some x'->ys[j]?=some y'->zi x' u->zi y' v->SeqAt.EqAt A.in1 s u v (e j)) :
  SeqAt.RcAt A s (.ref a) (.ref c) ((List.range (min xs.length ys.length)).all e&&xs.length == ys.length)/\SeqAt.RcNeAt A s (.ref a) (.ref c) (!((List.range (min xs.length ys.length)).all e&&xs.length == ys.length)):=by
 have get:∀ {zs:List V} {us:List Value} {j:Nat} (hj:j<us.toArray.size),zb zs us->∃ z,zs[j]?=some z/\zi z us.toArray[j]:=fun {zs us j} hj r=>by
  have hl:=r.length
  have hj':j<zs.length:=by
   rw [List.size_toArray] at hj
   omega
  obtain ⟨u,hu',ru⟩:=r.get (List.getElem?_eq_getElem hj')
  refine ⟨_,List.getElem?_eq_getElem hj',?_⟩
  have:us.toArray[j]=u:=by
   have h2:us[j]?=some us[j]:=List.getElem?_eq_getElem (by omega)
   rw [h2] at hu'
   simpa using hu'
  rw [this]
  exact ru
 rcases hq with ⟨ha,hc⟩ | ⟨ha,hc⟩
 ·obtain ⟨us,ra,pa,_⟩:=I.tuple ha
  obtain ⟨vs,rc,pc,_⟩:=I.tuple hc
  have h1:=ra.length
  have h2:=rc.length
  have key:∀ j (k1:j<us.toArray.size) (k2:j<vs.toArray.size),SeqAt.EqAt A.in1 s us.toArray[j] vs.toArray[j] (e j):=fun j k1 k2=>by
   obtain ⟨z1,e1,r1⟩:=get k1 ra
   obtain ⟨z2,e2,r2⟩:=get k2 rc
   exact he j z1 z2 _ _ e1 e2 r1 r2
  have p:=SeqAt.RcAt.tuples (e:=e) pa pc hu key
  have q:=SeqAt.RcNeAt.tuples (e:=e) pa pc hu key
  rw [List.size_toArray,List.size_toArray,<- h1,<- h2] at p q
  exact ⟨p,q⟩
 ·obtain ⟨us,ra,pa,_⟩:=I.list ha
  obtain ⟨vs,rc,pc,_⟩:=I.list hc
  have h1:=ra.length
  have h2:=rc.length
  have key:∀ j (k1:j<us.toArray.size) (k2:j<vs.toArray.size),SeqAt.EqAt A.in1 s us.toArray[j] vs.toArray[j] (e j):=fun j k1 k2=>by
   obtain ⟨z1,e1,r1⟩:=get k1 ra
   obtain ⟨z2,e2,r2⟩:=get k2 rc
   exact he j z1 z2 _ _ e1 e2 r1 r2
  by_cases hl:xs.length=ys.length
  ·have hs:us.toArray.size=vs.toArray.size:=by rw [List.size_toArray,List.size_toArray]; omega
   have p:=SeqAt.RcAt.lists (e:=e) pa.isList pc.isList hs hu key
   have q:=SeqAt.RcNeAt.lists (e:=e) pa.isList pc.isList hs hu key
   have e1:min xs.length ys.length=us.toArray.size:=by rw [List.size_toArray]; omega
   have e2:(xs.length == ys.length)=true:=by simp [hl]
   rw [e1,e2,Bool.and_true]
   exact ⟨p,q⟩
  ·have hs:(us.toArray.size != vs.toArray.size)=true:=by
    rw [List.size_toArray,List.size_toArray]
    simp
    omega
   have e2:(xs.length == ys.length)=false:=by simp [hl]
   rw [e2,Bool.and_false]
   exact ⟨SeqAt.RcAt.lists_lengths pa.isList pc.isList hs hu,SeqAt.RcNeAt.lists_lengths pa.isList pc.isList hs hu⟩
theorem Y8 (A:Around):A.in1.units=A.units+1:=rfl
end
theorem O_ {x:V} (h:vG x=true):wq x x=true:=by
 cases x<;>first | rfl | (simp [wq]; done) | cases h
end L2
namespace L2
open PySem PySem.Spec PyProof.Rows
open PySem.W (hideAll)
section
variable {P:Program} {w:World} {l:List Env} {H H':Hp} {h B h' h'':Heap}
end
section
variable {X:Cx} {pins:List (Addr×Obj)} {σ:St} {H H':Hp} {s:Shared} {B h':Heap}
variable {x:Str} {C:Addr} {np cpos pos:Pos} {e:Expr} {es:List Expr} {t:TA} {E:XK}
end
section
variable {P:Program} {w:World} {K:PySem.W.Frag} {mg:Str->Option Value} {base:Heap} {N:List Str} {qual:Str} {scope:Scope} {f:Addr} {cd:Value} {A:Around} {outer:List Env} {s₀:Shared} {H₀:Hp} {E:XK}
end
section
variable {X:Cx} {x:Str} {np cpos pos p:Pos} {e:Expr} {es:List Expr} {t:TA} {E:XK} {C:Addr} {ps:List Str} {j k:Nat} {sp:Sp}
end
end L2
namespace L2
open PySem PySem.Spec PyProof.Rows
section
variable {X:Cx} {pins:List (Addr×Obj)} {σ:St} {H H':Hp} {s:Shared} {a C:Addr}
theorem HE {fs ex:List Addr} {H H':Hp} {h h':Heap} {D:Addr} {o:HO} (u:Un fs ex H H' h h') (hD:h.get? D=none) (hn:H' D=none):Un fs ex H (ze H' D o) h h' where
 keep:=u.keep
 slot:=u.slot
 free:=fun b ob q n hx=>by rw [yE (fun z=>by subst z; rw [hD] at q; cases q)]; exact u.free b ob q n hx
 there:=u.there
 tups:=fun b xs q=>by rw [yE (wY (u.tups b xs q) hn)]; exact u.tups b xs q
 frzs:=fun b ob v q=>by rw [yE (wY (u.frzs b ob v q) hn)]; exact u.frzs b ob v q
 tbls:=fun b ps q=>by
  obtain ⟨more,z⟩:=u.tbls b ps q
  exact ⟨more,by rw [yE (wY z hn)]; exact z⟩
end
section
variable {X:Cx} {x n:Str} {p pos np hpos tpos:Pos} {e e1 e2:Expr} {es:List Expr} {ta:TA} {te:TE} {tx:TX} {ps:List Str} {j k i:Nat} {sp:Sp} {E:XK} {D:Addr}
variable {suite:List Stmt} {ts:TS} {b₀:Stmt}
end
end L2
namespace L2
open PySem PySem.Spec PyProof.Rows
section
variable {X:Cx} {x:Str} {p pos:Pos} {e:Expr} {es:List Expr} {t:TA} {ps:List Str} {j k:Nat} {sp:Sp}
end
end L2
namespace L2
open PySem PySem.Spec PyProof.Rows
section
variable {X:Cx} {e e1 e2:Expr} {es:List Expr} {te:TE} {t:TJ} {pos:Pos}
end
end L2
namespace L2
open PySem PySem.Spec PyProof.Rows
open PySem.W (Looks findIn mroIn looks_findIn looks_mroIn clsIn)
section
variable {prog:Program} {w:World} {A:Around} {E:Value->Shared->Prop} {h:Heap} {g:Array GenState} {d:Drawn} {t:Nat} {os:OsState} {a C:Addr} {o:Obj} {K:PySem.W.Frag}
end
end L2
namespace L2
open PySem PySem.Spec PyProof.Rows
section
variable {X:Cx}
end
end L2
namespace L2
open PySem PySem.Spec PyProof.Rows
open Builtin.SmallTypes (nextOf)
section
variable {prog:Program} {w:World} {A:Around} {E:Value->Shared->Prop} {s:Shared}
variable {z TI TO i1 i2 l1 l2:Addr} {st1 st2:Nat->Heap->Prop} {n1 n2:Nat} {v1 v2:Nat->Value} {a b:Value} {k:Nat}
end
end L2
namespace L2
open PySem PySem.Spec PyProof.Rows
section
variable {prog:Program} {w:World} {A:Around} {E:Value->Shared->Prop} {s:Shared}
end
section
variable {X:Cx} {pins:List (Addr×Obj)} {σ:St} {H:Hp} {s:Shared}
theorem IT {fs ch:List Addr} {h h':Heap} (k:∀ b o,b ∉ ch->h.get? b=some o->h'.get? b=some o):Un fs ch H H h h':=
 ⟨fun b o e _ _ hx=>k b o hx e,fun b o e _ _ hx=>⟨o.slots,k b o hx e⟩,fun _ _ _ n _=>n,fun b o e hx=>⟨o,k b o hx e⟩,fun _ _ z=>z,fun _ _ _ z=>z,fun b ps e=>⟨#[],by rw [e]; simp⟩⟩
theorem TD {P:Program} {w:World} {ch:List Addr} {h h':Heap} (x:ye P w H h) (hn:∀ b∈ch,H b=none) (k:∀ b o,b ∉ ch->h.get? b=some o->h'.get? b=some o):ye P w H h':=fun b u e=>by
 have nit:∀ c v,H c=some v->c ∉ ch:=fun c v e z=>by rw [hn c z] at e; cases e
 refine (x b u e).stay (fun c v hc q=>k c v ?_ q) (fun _ q=>q) fun _ _ q=>q
 rcases hc with z | z
 ·rw [z]; exact nit b u e
 ·exact nit c _ z
theorem Inv.but {ch:List Addr} {h':Heap} {tk:Nat} (I:Inv X pins σ H s) (hf:∀ b∈ch,vT X pins H b) (k:∀ b o,b ∉ ch->s.heap.get? b=some o->h'.get? b=some o):Inv X pins σ H { s with heap:=h',toks:=tk }:=
 I.call' (s':={ s with heap:=h',toks:=tk }) rfl (IT k) (TD I.hok (fun b hb=>(hf b hb).1) k) I.bare fun b hb=>⟨(hf b hb).2.2.2.1,(hf b hb).2.1,(hf b hb).2.2.2.2.1,(hf b hb).2.2.2.2.2⟩
theorem Inv.butNew {ch:List Addr} {h':Heap} {tk:Nat} {T:Addr} {o:HO} (I:Inv X pins σ H s) (hf:∀ b∈ch,vT X pins H b) (k:∀ b o,b ∉ ch->s.heap.get? b=some o->h'.get? b=some o) (hT:s.heap.get? T=none) (hn:H T=none)
  (new:xA X.prog X.w (ze H T o) h' T o):Inv X pins σ (ze H T o) { s with heap:=h',toks:=tk }:=
 I.call' (s':={ s with heap:=h',toks:=tk }) rfl (HE (IT k) hT hn) (TF (TD I.hok (fun b hb=>(hf b hb).1) k) hn new) I.bare fun b hb=>⟨(hf b hb).2.2.2.1,(hf b hb).2.1,(hf b hb).2.2.2.2.1,(hf b hb).2.2.2.2.2⟩
end
theorem xg {a b:Nat} (h:a≠b):@Ne Addr a b:=h
section
variable {X:Cx}
end
end L2
namespace L2
open PySem PySem.Spec PyProof.Rows
noncomputable def UE (scope:Scope) (env:Env) (cl:List (Str×Addr)) (own:List Str):Bool:=
 scope.kind == .function&&scope.names.all (fun y=>y.2 != .cell)&&pR scope env cl own&&scope.names.all (fun y=>y.2 != .local||scope.names.lookup y.1 == some .local)
theorem xl {X:Cx} {scope:Scope} {cl:List (Str×Addr)} {own:List Str} (clos:closureFor scope X.env=pure cl) (cap:tN X.env cl:=by first | exact True.intro | exact ⟨rfl,True.intro⟩ | exact ⟨rfl,rfl,True.intro⟩ | exact ⟨rfl,rfl,rfl,True.intro⟩ | exact ⟨rfl,rfl,rfl,rfl,True.intro⟩)
  (ok:UE scope X.env cl own=true:=by rfl):qD X scope cl own:=by
 unfold UE at ok
 simp only [Bool.and_eq_true] at ok
 obtain ⟨⟨⟨h1,h2⟩,h3⟩,h4⟩:=ok
 refine ⟨beq_iff_eq.mp h1,fun y hy e=>?_,cap,h3,clos,fun y hy e=>?_⟩
 ·have:=List.all_eq_true.mp h2 y hy
  rw [e] at this
  cases this
 ·have:=List.all_eq_true.mp h4 y hy
  rw [e] at this
  simpa using this
theorem Fz {X:Cx} {e:Expr} {te:TE} {pos:Pos} {i:Nat} {x:Str} {pos':Pos} (hN:X.N.Nodup) (hi:X.N[i]?=some x) (hx:wM X.env.scope x) (he:QE X e te) (hs:swapsWith e (some (.Name x pos')) pos.line X.env=pure false:=by rfl)
  (hf:X.fn x=true\/X.env.scope.names.lookup x=some .local:=by first | exact .inl rfl | exact .inr rfl | assumption):QS X (.Assign [.Name x pos'] e pos) (X1 te (xz i)):=⟨J3 hN hi hx he.h hs hf⟩
section
variable {X:Cx} (K:PySem.W.Frag) (hK:X.K=K)
include hK
end
noncomputable def Iu (K:PySem.W.Frag) (a:Addr) (xs:List V):Prop:=∀ H,yU K H a xs
theorem ur {K:PySem.W.Frag} {a:Addr} {xs:List V} {d:Option Addr} {its:Array Value} {n:Nat} {sl:Array (Option Value)} (h:K.lookup a=some ⟨.type "tuple",d,.seq its n,sl⟩) (hz:its.size<=sizeLine) (r:zb xs its.toList):Iu K a xs:=
 fun _=>.inr ⟨_,its,n,h,rfl,rfl,hz,r⟩
end L2
namespace L2
open PySem PySem.Spec PyProof.Rows
open Builtin Builtin.Str
section
variable {X:Cx}
theorem Ic:∀ {ts:List Str} {its:List Value},zb (ts.map V.str) its->∃ l:List (Str×Tok),its=strValues l/\l.map (·.1)=ts
 | [],_,.nil=>⟨[],rfl,rfl⟩
 | t::ts,_,.cons r rr=>by
  obtain ⟨k,e⟩:=(show ∃ k,_=Value.str t k from r)
  obtain ⟨l,e1,e2⟩:=Ic rr
  subst e e1
  exact ⟨(t,k)::l,rfl,by rw [List.map_cons,e2]⟩
noncomputable def C3 (K:PySem.W.Frag):V->List V->Hp->VK->Prop:=fun x vs H Q=>∃ (sep:Str) (p:Addr) (ts:List Str),x=.str sep/\vs=[.ref p]/\zy K H p (ts.map V.str)/\(ts.map (·.length)).sum+ts.length*sep.length<=sizeLine/\Q (.str (glued sep ts)) H
theorem T9 (sep:Str):∀ ts:List Str,(glued sep ts).length<=(ts.map (·.length)).sum+ts.length*sep.length
 | []=>by show (Str.length _)<=_; simp [glued,Str.length,Str.empty]
 | t::ts=>by
  have h:∀ (us:List Str) (a:Array Nat),(us.foldl (fun acc p=>acc++sep.cps++p.cps) a).size=a.size+(us.map (·.length)).sum+us.length*sep.length:=fun us=>by
   induction us with
   | nil=>intro a; simp
   | cons u us ih=>
    intro a
    rw [List.foldl_cons,ih]
    simp only [Array.size_append,List.map_cons,List.sum_cons,List.length_cons,Nat.succ_mul,Str.length]
    omega
  show (ts.foldl (fun acc p=>acc++sep.cps++p.cps) t.cps).size<=_
  rw [h]
  simp only [List.map_cons,List.sum_cons,List.length_cons,Nat.succ_mul,Str.length]
  omega
theorem Mx:pL X "str.join" (C3 X.K):=by
 intro pins s σ H x vs v us Q I rx rv h
 obtain ⟨sep,p,ts,rfl,rfl,hq,hz,q⟩:=h
 obtain ⟨t,rfl⟩:=(show ∃ t,v=Value.str sep t from rx)
 obtain ⟨u,rfl,ru⟩:=vE rv
 cases (show u=Value.ref p from ru)
 obtain ⟨its,r,pl,_⟩:=I.list hq
 obtain ⟨l,rfl,el⟩:=Ic r
 have hT:s.TypeIs (.ref p) "list" := pl.isList.typeIs
 obtain ⟨o,ho,hc,n,hd⟩:=pl.isList
 have hno:tooLong ((l.map (·.1)).toArray.foldl (·+·.length+sep.length) 0)=false:=by
  rw [el,StrLaws.joinTotal]
  unfold tooLong
  exact decide_eq_false (by omega)
 have fit:(glued sep ts).length<=sizeLine:=Nat.le_trans (T9 sep ts) hz
 refine wpAny_call (codeAny_call_builtin F.slot_str_join.plain F.entry_str_join (F.slot_str_join.check _ _ _ _ _ _ _ _ (typeIs_str _ _ _) (F.args_str_join_2 _ _) ?_))
 obtain ⟨other,e⟩:=join_tree sep t p
 rw [e]
 refine wpAny_bind (wpAny_typeOf hT ?_)
 rw [if_pos (by decide)]
 refine wpAny_bind (wpAny_seqItems ho hd ?_)
 show wpAny _ _ (joinTail sep (strValues l)) _ _ _
 rcases l with _ | ⟨a,_ | ⟨b,c⟩⟩
 ·subst el
  exact gives_joinTail sep [] hno X.prog X.w _ (fun r s'=>match r with | .ok (.ret v)=>EP X pins σ Q v s' | .ok _=>False | .error e=>X.xe e s') s ⟨fit,.str _,H,I.tok _,⟨_,rfl⟩,q⟩
 ·subst el
  exact gives_joinTail sep [a] hno X.prog X.w _ (fun r s'=>match r with | .ok (.ret v)=>EP X pins σ Q v s' | .ok _=>False | .error e=>X.xe e s') s ⟨.str _,H,I,⟨_,rfl⟩,q⟩
 ·subst el
  exact gives_joinTail sep (a::b::c) hno X.prog X.w _ (fun r s'=>match r with | .ok (.ret v)=>EP X pins σ Q v s' | .ok _=>False | .error e=>X.xe e s') s ⟨fit,.str _,H,I.tok _,⟨_,rfl⟩,q⟩
end
noncomputable def ZB (z:Str):It:=⟨fun i _=>i<z.length,fun i H x H'=>H'=H/\∃ c,z.cps[i]?=some c/\x=.str ⟨#[c]⟩,fun i _=>z.length<=i⟩
section
variable {X:Cx} {tg:Expr}
noncomputable def M3 (te:TE):TI:=fun σ H R=>te σ H fun x H1=>∃ z,x=.str z/\R (ZB z) H1
theorem G_ {P:Program} {w:World} {K:PySem.W.Frag} {it:Addr} {z:Str} {t:Tok} {ty:String} (hty:ty = "str_ascii_iterator" \/ ty = "str_iterator"):qO P w K tg (ZB z) [it] it (fun i h=>h.IsStrIter it ty z t i/\i<=z.length) where
 mem:=by simp
 obj:=fun i h st b hb=>by
  have e:b=it:=by simpa using hb
  subst e
  obtain ⟨⟨o,e,c,d⟩,_⟩:=st
  exact ⟨o,e,fun v z=>by rw [d] at z; cases z⟩
 keep:=fun i h h' st k=>⟨let ⟨o,ho,r⟩:=st.1; ⟨o,k it (by simp) o ho,r⟩,st.2⟩
 item:=by
  intro X hP hw hK hc i pins s σ H E I hf st hg
  subst hP hw hK
  obtain ⟨f0,f1,f2,f3,f4,f5⟩:=hf it (by simp)
  have hg':i<z.cps.size:=hg
  have hx:z.cps[i]?=some z.cps[i]:=by simp [hg']
  have go:∀ h' tk (u:Value),(∃ t',u=Value.str ⟨#[z.cps[i]]⟩ t')->h'.IsStrIter it ty z t (i+1)->Heap.SameBut it s.heap h'->∃ v,some u=some v/\
    wpAny (model X.prog X.w) X.A (letOwnedTupleGo tg (.ref it) v) (fun _ s2=>∃ x H',Inv X pins σ H' s2/\zi x v/\(ZB z).yld i H x H'/\(s2.heap.IsStrIter it ty z t (i+1)/\i+1<=z.length)/\∀ b∈[it],H' b=none) E { s with heap:=h',toks:=tk }:=fun h' tk u hu st' sb=>by
   obtain ⟨t',rfl⟩:=hu
   have I1:Inv X pins σ H { s with heap:=h',toks:=tk }:=I.turned (fun b o hb e=>(sb.2 b hb).trans e) f0 f1 f3 f4 f5
   obtain ⟨o,e,c,d⟩:=id st'
   exact ⟨_,rfl,Y6 (s:={ s with heap:=h',toks:=tk }) e c d (by rcases hty with rfl | rfl<;>decide) ⟨.str ⟨#[z.cps[i]]⟩,H,I1,⟨t',rfl⟩,⟨rfl,_,hx,rfl⟩,⟨st',hg⟩,fun b hb=>(hf b hb).1⟩⟩
  rcases hty with rfl | rfl
  ·exact wpAny_pyNext_ascii_item st.1 hx fun h' st' sb=>go h' _ _ ⟨_,rfl⟩ st' sb
  ·exact wpAny_pyNext_wide_item st.1 hx fun h' st' sb=>go h' _ _ ⟨_,rfl⟩ st' sb
 done:=by
  intro X hP hw hK hc i pins s σ H E I hf st hg
  subst hP hw hK
  obtain ⟨f0,f1,f2,f3,f4,f5⟩:=hf it (by simp)
  have hx:z.cps[i]?=none:=Array.getElem?_eq_none hg
  rcases hty with rfl | rfl
  ·exact wpAny_pyNext_ascii_end (I.ok.hd hc) st.1 hx fun h' eb=>⟨rfl,I.turned (t':=s.toks) (fun b o hb e=>eb b o hb e) f0 f1 f3 f4 f5⟩
  ·exact wpAny_pyNext_wide_end (I.ok.hd hc) st.1 hx fun h' eb=>⟨rfl,I.turned (t':=s.toks) (fun b o hb e=>eb b o hb e) f0 f1 f3 f4 f5⟩
 self:=fun _ _ _ _ _ st h=>by
  rcases hty with rfl | rfl
  ·exact wpAny_pyIter_striter_ascii st.1 h
  ·exact wpAny_pyIter_striter_wide st.1 h
theorem FI {e:Expr} {te:TE} (he:PE X e te):PI X tg e (M3 te):=by
 intro pins s σ H R I h
 refine zl (he pins s σ H _ I h) fun v s1 ⟨x,H1,I1,r1,q1⟩=>?_
 obtain ⟨z,rfl,q⟩:=q1
 obtain ⟨t,rfl⟩:=(show ∃ t,v=Value.str z t from r1)
 have fin:∀ (ty:String),(ty = "str_ascii_iterator" \/ ty = "str_iterator")->∀ o:Obj,(s1.heap.push o).IsStrIter s1.heap.objs.size ty z t 0->XS X pins σ tg R (.ref s1.heap.objs.size) { s1 with heap:=s1.heap.push o }:=fun ty hty o st=>
  ⟨s1.heap.objs.size,[s1.heap.objs.size],_,_,H1,rfl,I1.kept (t':=s1.toks) fun b o e=>Heap.get?_push_of_some _ e,G_ hty,⟨st,Nat.zero_le _⟩,fun b hb=>by
   have e:b=s1.heap.objs.size:=by simpa using hb
   subst e
   exact I1.fpOk (Nat.le_refl _) (I1.hok.fresh (Nat.le_refl _)),q⟩
 cases ha:z.cps.all (·<128)
 ·exact wpAny_pyIter_wide ha (fin _ (.inr rfl) _ ⟨_,Heap.get?_push_size _ rfl,rfl,rfl⟩)
 ·exact wpAny_pyIter_ascii ha (fin _ (.inl rfl) _ ⟨_,Heap.get?_push_size _ rfl,rfl,rfl⟩)
end
end L2
namespace L2
open PySem PySem.Spec PyProof.Rows
open Builtin Builtin.Str
noncomputable def cutS (z:Str) (lo hi:Option Int):Str:=⟨((z.cps.toList.drop (HT.sIx z.length 0 lo)).take (HT.sIx z.length z.length hi - HT.sIx z.length 0 lo)).toArray⟩
theorem Ob (n:Nat) (lo:Option Int):(match lo with | none=>(0:Int) | some i=>max 0 (min (if i<0 then i+(n:Int) else i) (n:Int)))=((HT.sIx n 0 lo:Nat):Int)\/∃ i,lo=some i/\i<0/\(n:Int)<i+n:=by
 cases lo with
 | none=>left; rfl
 | some i=>
  left
  show max 0 (min (if i<0 then i+(n:Int) else i) (n:Int))=(((if i<0 then (i+(n:Int)).toNat else min i.toNat n):Nat):Int)
  by_cases h:i<0
  ·simp only [h,if_true]; omega
  ·simp only [h,if_false]; omega
theorem Oa (n:Nat) (hi:Option Int):(match hi with | none=>(n:Int) | some i=>max 0 (min (if i<0 then i+(n:Int) else i) (n:Int)))=((HT.sIx n n hi:Nat):Int):=by
 cases hi with
 | none=>rfl
 | some i=>
  show max 0 (min (if i<0 then i+(n:Int) else i) (n:Int))=(((if i<0 then (i+(n:Int)).toNat else min i.toNat n):Nat):Int)
  by_cases h:i<0
  ·simp only [h,if_true]; omega
  ·simp only [h,if_false]; omega
theorem Oc (n:Nat) (lo:Option Int):(match lo with | none=>(0:Int) | some i=>max 0 (min (if i<0 then i+(n:Int) else i) (n:Int)))=((HT.sIx n 0 lo:Nat):Int):=by
 rcases Ob n lo with h | ⟨i,_,h1,h2⟩
 ·exact h
 ·omega
theorem Qu (z:Str) (lo hi:Option Int):(strSliceIndices lo hi 1 z.length)=(List.range (HT.sIx z.length z.length hi - HT.sIx z.length 0 lo)).map (HT.sIx z.length 0 lo+·):=by
 have h1:=Oc z.length lo
 have h2:=Oa z.length hi
 rw [<- sliceRange_one,<- h1,<- h2]
 unfold strSliceIndices
 simp only [show (1:Int) > 0 by decide,if_true]
 cases lo<;>cases hi<;>rfl
theorem Oj (z:Str) (lo hi:Option Int):(⟨((strSliceIndices lo hi 1 z.length).filterMap (z.cps[·]?)).toArray⟩:Str)=cutS z lo hi:=by
 rw [Qu,pick_run]
 rfl
theorem sIx_le (n d:Nat) (hd:d<=n) (v:Option Int):HT.sIx n d v<=n:=by
 cases v with
 | none=>exact hd
 | some i=>
  show (if i<0 then (i+(n:Int)).toNat else min i.toNat n)<=n
  by_cases h:i<0
  ·simp only [h,if_true]; omega
  ·simp only [h,if_false]; omega
theorem Ol (z:Str) (lo hi:Option Int) (h:(strSliceIndices lo hi 1 z.length).length=z.length):cutS z lo hi=z:=by
 rw [Qu,List.length_map,List.length_range] at h
 have a:=sIx_le z.length 0 (Nat.zero_le _) lo
 have b:=sIx_le z.length z.length (Nat.le_refl _) hi
 unfold cutS
 rw [h]
 have hz:HT.sIx z.length 0 lo=0\/z.length=0:=by omega
 have hl:z.cps.toList.length=z.length:=by simp [Str.length]
 rcases hz with q | q
 ·rw [q,List.drop_zero,<- hl,List.take_length]
 ·have e:z.cps.toList=[]:=List.eq_nil_of_length_eq_zero (by omega)
  rw [e]
  simp
  cases z with
  | mk c=>simp [Str.length] at q; simp [q]
theorem cut_len (z:Str) (lo hi:Option Int):(cutS z lo hi).length<=z.length:=by
 show (List.toArray _).size<=z.cps.size
 rw [List.size_toArray,List.length_take,List.length_drop,Array.length_toList]
 omega
section
variable {X:Cx}
theorem Qp {v:Value} {lo:Option Int} (h:IsPart v lo):∃ l:Option (Int×Tok),v=partValue l/\l.map (·.1)=lo:=by
 cases h with
 | none=>exact ⟨none,rfl,rfl⟩
 | int i t=>exact ⟨some (i,t),rfl,rfl⟩
noncomputable def JP:V->Option Int->Option Int->Hp->VK->Prop:=fun x lo hi H Q=>∃ z:Str,x=.str z/\z.length<=sizeLine/\Q (.str (cutS z lo hi)) H
theorem Ex:uo X JP:=by
 intro pins s σ H x v vl vu lo hi sl Q I rx hs pl pu h
 obtain ⟨z,rfl,hz,q⟩:=h
 obtain ⟨t,rfl⟩:=(show ∃ t,v=Value.str z t from rx)
 obtain ⟨l,rfl,rfl⟩:=Qp pl
 obtain ⟨u,rfl,rfl⟩:=Qp pu
 refine ⟨"str",_,F.slot_str_getitem.lookup,typeIs_str _ _ _,?_⟩
 refine wpAny_getItem_str_slice (l:=l) (u:=u) (st:=none) hs rfl ?_
 unfold sliceMade
 have hp:slicePicked z l u none=strSliceIndices (l.map (·.1)) (u.map (·.1)) 1 z.length:=rfl
 rw [hp]
 split
 ·rename_i hc
  have e:(strSliceIndices (l.map (·.1)) (u.map (·.1)) 1 z.length).length=z.length:=by
   rw [Bool.and_eq_true] at hc
   exact beq_iff_eq.mp hc.2
  rw [Ol z _ _ e] at q
  exact ⟨.str z,H,I,⟨_,rfl⟩,q⟩
 ·rw [Oj]
  exact ⟨Nat.le_trans (cut_len z _ _) hz,.str _,H,I.tok _,⟨_,rfl⟩,q⟩
end
end L2
namespace L2
open PySem PySem.Spec PyProof.Rows
open Builtin Builtin.Str
section
variable {X:Cx} {e o:Expr} {te to:TE} {pos apos cpos:Pos} {name:Str} {T id:String} {rm:V->List V->Hp->VK->Prop}
theorem Fw (pa:PlainAttrs T) (slot:Slot T name id) (hty:typeOf (.builtin id)=pure (.type "method_descriptor")) (hm:pL X id rm) (ho:QE X o to)
  (hbase:attributeBase o name X.env (eval o X.env)=eval o X.env:=by rfl) (hline:(apos.endLine == cpos.line)=true:=by rfl):QE X (.Call (.Attribute o name apos) [] [] cpos) (IL X.K T rm to):=⟨Df pa slot hty hm ho.h hbase hline⟩
end
end L2
namespace L2
open PySem PySem.Spec PyProof.Rows
section
variable {κ:Type} [DecidableEq κ]
noncomputable def vD (kvs:List (κ×V)) (k:κ):Option V:=(kvs.find? fun kv=>decide (kv.1=k)).map (·.2)
noncomputable def wR (kvs:List (κ×V)) (k:κ) (v:V):List (κ×V):=
 if (kvs.any fun kv=>decide (kv.1=k))=true then kvs.map (fun kv=>if kv.1=k then (kv.1,v) else kv) else kvs++[(k,v)]
theorem XA {p:κ×V} {r:List (κ×V)} {k:κ} (e:p.1=k):vD (p::r) k=some p.2:=by simp [vD,List.find?_cons,e]
theorem X9 {p:κ×V} {r:List (κ×V)} {k:κ} (e:¬ p.1=k):vD (p::r) k=vD r k:=by simp [vD,List.find?_cons,e]
theorem IY (k:κ):∀ kvs:List (κ×V),(kvs.any fun kv=>decide (kv.1=k))=(vD kvs k).isSome
 | []=>rfl
 | p::r=>by
  rw [List.any_cons]
  by_cases e:p.1=k
  ·simp only [XA e,decide_eq_true e,Bool.true_or,Option.isSome_some]
  ·rw [X9 e,decide_eq_false e,Bool.false_or]; exact IY k r
theorem WU (kvs:List (κ×V)) (k:κ) (v:V):(wR kvs k v).length<=kvs.length+1:=by
 unfold wR
 split
 ·rw [List.length_map]; omega
 ·rw [List.length_append,List.length_cons,List.length_nil]; omega
theorem um.isSome_eq {o:Option V} {u:Option Value} (r:um o u):o.isSome=u.isSome:=by
 cases o with
 | none=>cases u with
  | none=>rfl
  | some _=>exact (show False from r).elim
 | some _=>cases u with
  | none=>exact (show False from r).elim
  | some _=>rfl
theorem KV.val {kvs:List (κ×V)} {vs:List (κ×Value)} (r:KV kvs vs) (k:κ):um (vD kvs k) (valueAt vs k):=by
 unfold KV at r
 induction r with
 | nil=>exact True.intro
 | @cons p q ps qs h t ih=>
  obtain ⟨h1,h2⟩:=h
  by_cases e:p.1=k
  ·have e':q.1=k:=h1.symm.trans e
   have b:valueAt (q::qs) k=some q.2:=by simp [valueAt,List.find?_cons,e']
   rw [XA e,b]; exact h2
  ·have e':¬ q.1=k:=fun z=>e (h1.trans z)
   have b:valueAt (q::qs) k=valueAt qs k:=by simp [valueAt,List.find?_cons,e']
   rw [X9 e,b]; exact ih
theorem KV.any {kvs:List (κ×V)} {vs:List (κ×Value)} (r:KV kvs vs) (k:κ):(kvs.any fun kv=>decide (kv.1=k))=vs.any fun kv=>decide (kv.1=k):=by
 unfold KV at r
 induction r with
 | nil=>rfl
 | cons h t ih=>rw [List.any_cons,List.any_cons,ih,h.1]
theorem KV.repl {kvs:List (κ×V)} {vs:List (κ×Value)} (r:KV kvs vs) (k:κ) {y:V} {u:Value} (ry:zi y u) :
  KV (kvs.map fun kv=>if kv.1=k then (kv.1,y) else kv) (vs.map fun kv=>if kv.1=k then (kv.1,u) else kv):=by
 unfold KV at r ⊢
 induction r with
 | nil=>exact .nil
 | @cons p q ps qs h t ih=>
  rw [List.map_cons,List.map_cons]
  refine .cons ?_ ih
  obtain ⟨h1,h2⟩:=h
  by_cases e:p.1=k
  ·rw [if_pos e,if_pos (h1.symm.trans e)]; exact ⟨h1,ry⟩
  ·rw [if_neg e,if_neg (fun z=>e (h1.trans z))]; exact ⟨h1,h2⟩
theorem KV.put {kvs:List (κ×V)} {vs:List (κ×Value)} (r:KV kvs vs) (k:κ) {y:V} {u:Value} (ry:zi y u):KV (wR kvs k y) (stored vs k u):=by
 unfold wR stored
 rw [r.any k]
 by_cases e:(vs.any fun kv=>decide (kv.1=k))=true
 ·rw [if_pos e,if_pos e]; exact r.repl k ry
 ·rw [if_neg e,if_neg e]; exact Paired.snoc r ⟨rfl,ry⟩
theorem KV.length {kvs:List (κ×V)} {vs:List (κ×Value)} (r:KV kvs vs):kvs.length=vs.length:=Paired.length r
end
theorem qV {P:Program} {w:World} {k:zL} {u:Value} (r:zi (kV k) u):(yc P w).is k u=true:=by
 cases k with
 | inl i=>obtain ⟨t,e⟩:=(show ∃ t,u=Value.int i t from r); subst e; exact Mt P w i t
 | inr x=>obtain ⟨t,e⟩:=(show ∃ t,u=Value.str x t from r); subst e; exact Mu P w x t
theorem Tb {P:Program} {w:World}:∀ {ks:List zL} {us:List Value},zb (ks.map kV) us->ItemsAre (yc P w) ks us
 | [],_,r=>by rw [List.map_nil] at r; cases r; exact .nil
 | k::ks,_,r=>by
  rw [List.map_cons] at r
  cases r with
  | cons h t=>exact .cons (qV h) (Tb t)
noncomputable abbrev KT (H:Hp):List (List zL×V)->List (List zL×Addr×Value)->Prop:=Paired fun p q=>p.1=q.1/\H q.2.1=some (.tup (p.1.map kV))/\zi p.2 q.2.2
theorem KT.val {H:Hp} {kvs:List (List zL×V)} {xs:List (List zL×Addr×Value)} (r:KT H kvs xs) (k:List zL):um (vD kvs k) ((atKey xs k).map (·.2)):=by
 induction r with
 | nil=>exact True.intro
 | @cons p q ps qs h t ih=>
  obtain ⟨h1,_,h2⟩:=h
  by_cases e:p.1=k
  ·have e':q.1=k:=h1.symm.trans e
   have b:atKey (q::qs) k=some q.2:=by simp [atKey,List.find?_cons,e']
   rw [XA e,b]; exact h2
  ·have e':¬ q.1=k:=fun z=>e (h1.trans z)
   have b:atKey (q::qs) k=atKey qs k:=by simp [atKey,List.find?_cons,e']
   rw [X9 e,b]; exact ih
theorem KT.repl {H:Hp} {kvs:List (List zL×V)} {xs:List (List zL×Addr×Value)} (r:KT H kvs xs) (k:List zL) {y:V} {u:Value} (ry:zi y u) :
  KT H (kvs.map fun kv=>if kv.1=k then (kv.1,y) else kv) (xs.map (putAt k u)):=by
 induction r with
 | nil=>exact .nil
 | @cons p q ps qs h t ih=>
  rw [List.map_cons,List.map_cons]
  refine .cons ?_ ih
  obtain ⟨h1,h2,h3⟩:=h
  unfold putAt
  by_cases e:p.1=k
  ·rw [if_pos e,if_pos (h1.symm.trans e)]; exact ⟨h1,h2,ry⟩
  ·rw [if_neg e,if_neg (fun z=>e (h1.trans z))]; exact ⟨h1,h2,h3⟩
theorem KT.put {H:Hp} {kvs:List (List zL×V)} {xs:List (List zL×Addr×Value)} (r:KT H kvs xs) (k:List zL) {b:Addr} {y:V} {u:Value} (hb:H b=some (.tup (k.map kV))) (ry:zi y u) :
  KT H (wR kvs k y) (storedH xs k b u):=by
 have e:(kvs.any fun kv=>decide (kv.1=k))=(atKey xs k).isSome:=by
  rw [IY,(r.val k).isSome_eq,Option.isSome_map]
 unfold wR storedH
 rw [e]
 by_cases q:(atKey xs k).isSome=true
 ·rw [if_pos q,if_pos q]; exact r.repl k ry
 ·rw [if_neg q,if_neg q]; exact Paired.snoc r ⟨rfl,hb,ry⟩
theorem KT.keeps {H H':Hp} {kvs:List (List zL×V)} {xs:List (List zL×Addr×Value)} (r:KT H kvs xs) (ht:∀ b ys,H b=some (.tup ys)->H' b=some (.tup ys)):KT H' kvs xs:=
 Paired.mapP r fun _ _ z=>⟨z.1,ht _ _ z.2.1,z.2.2⟩
section
variable {P:Program} {w:World} {H:Hp} {h:Heap} {a:Addr}
theorem JY {u:HO} (ok:ye P w H h) (e:Rd H a u):xA P w H h a u:=e.ok ok
theorem pT {kvs:List (zL×V)} (ok:ye P w H h) (e:Rd H a (.dK kvs)):kvs.length<=sizeLine/\(a == sysModules)=false/\∃ vs,KV kvs vs/\h.DictOf (yc P w) a vs:=
 show xA P w H h a (.dK kvs) from JY ok e
theorem Ot {kvs:List (zL×V)} (ok:ye P w H h) (e:H a=some (.dK kvs)):kvs.length<=sizeLine/\(a == sysModules)=false/\∃ vs,KV kvs vs/\h.DictOf (yc P w) a vs:=pT ok (.inl e)
theorem YG {ks:List zL} (ok:ye P w H h) (e:H a=some (.tup (ks.map kV))):(tupleKind (yc P w)).is h ks a:=by
 obtain ⟨_,its,r,o,h1,h2,n,h3⟩:=(show xA P w H h a (.tup (ks.map kV)) from ok a _ e)
 exact ⟨o,its.toArray,n,h1,h2,h3,by simpa using Tb r⟩
theorem Zu {kvs:List (List zL×V)} (ok:ye P w H h) (e:Rd H a (.dT kvs)):kvs.length<=sizeLine/\(a == sysModules)=false/\
  ∃ xs,KT H kvs xs/\h.DictOfH (tupleKind (yc P w)) a xs:=by
 obtain ⟨z,y,xs,r,o,es,ep,h1,h2,h3,h4,h5⟩:=(show xA P w H h a (.dT kvs) from JY ok e)
 refine ⟨z,y,xs,r,o,es,ep,h1,h2,h3,h4,fun x hx=>?_,h5⟩
 have all:∀ {l:List (List zL×V)} {m:List (List zL×Addr×Value)},KT H l m->∀ x∈m,(tupleKind (yc P w)).is h x.1 x.2.1:=by
  intro l m q
  induction q with
  | nil=>intro x hx; exact nomatch hx
  | @cons p q ps qs hq t ih=>
   intro x hx
   rcases List.mem_cons.mp hx with e | hx
   ·subst e
    exact YG ok (by rw [<- hq.1]; exact hq.2.1)
   ·exact ih x hx
 exact all r x hx
theorem Ov {kvs:List (List zL×V)} (ok:ye P w H h) (e:H a=some (.dT kvs)):kvs.length<=sizeLine/\(a == sysModules)=false/\
  ∃ xs,KT H kvs xs/\h.DictOfH (tupleKind (yc P w)) a xs:=Zu ok (.inl e)
end
noncomputable def XL (H:Hp) (a:Addr) (y:V) (r:Option V):Prop:=
 (∃ kvs k,Rd H a (.dK kvs)/\y=kV k/\r=vD kvs k)\/∃ kvs k b,Rd H a (.dT kvs)/\y=.ref b/\H b=some (.tup (k.map kV))/\r=vD kvs k
noncomputable def Vv (H:Hp) (a:Addr) (y v:V) (H':Hp):Prop:=
 (∃ kvs k,H a=some (.dK kvs)/\y=kV k/\kvs.length<sizeLine/\H'=ze H a (.dK (wR kvs k v))) \/
 ∃ kvs k b,H a=some (.dT kvs)/\y=.ref b/\H b=some (.tup (k.map kV))/\kvs.length<sizeLine/\H'=ze H a (.dT (wR kvs k v))
section
variable {X:Cx} {pins:List (Addr×Obj)} {σ:St} {H:Hp} {s:Shared} {a:Addr} {y v:V} {u r:Value} {o:Option V} {A:Around} {E:Value->Shared->Prop}
theorem Inv.big (I:Inv X pins σ H s):sysModules<s.heap.objs.size:=by
 have h:mainGlobals<s.heap.objs.size:=(I.mod.glob.keeps I.bk).lt
 exact Nat.lt_trans (by decide) h
theorem Om {Q:Value->Shared->Prop} (hu:A.units+1<cLine) (I:Inv X pins σ H s) (g:XL H a y o) (ry:zi y u) (h:∀ s',Inv X pins σ H s'->Q (.bool o.isSome) s') :
  wpAny (model X.prog X.w) A (compareOp .In u (.ref a)) Q E s:=by
 rcases g with ⟨kvs,k,e,ey,l⟩ | ⟨kvs,k,b,e,ey,eb,l⟩
 ·subst ey
  obtain ⟨z,hd,vs,rel,dd⟩:=pT I.hok e
  refine wpAny_in_of (qV ry) hd dd.mapOf ?_
  rw [<- (rel.val k).isSome_eq,<- l]
  exact h _ (I.tok _)
 ·subst ey
  cases (show u=Value.ref b from ry)
  obtain ⟨z,hd,xs,rel,dd⟩:=Zu I.hok e
  refine wpAny_in_heap (tupleKind_room_in1 hu) (YG I.hok eb) hd dd ?_
  have q:=(rel.val k).isSome_eq
  rw [Option.isSome_map] at q
  rw [<- q,<- l]
  exact h _ (I.tok _)
theorem On {Q:Value->Shared->Prop} (hu:A.units+1<cLine) (I:Inv X pins σ H s) (g:XL H a y o) (ry:zi y u) (h:∀ s',Inv X pins σ H s'->Q (.bool (!o.isSome)) s') :
  wpAny (model X.prog X.w) A (compareOp .NotIn u (.ref a)) Q E s:=by
 rcases g with ⟨kvs,k,e,ey,l⟩ | ⟨kvs,k,b,e,ey,eb,l⟩
 ·subst ey
  obtain ⟨z,hd,vs,rel,dd⟩:=pT I.hok e
  refine wpAny_notIn_of (qV ry) hd dd.mapOf ?_
  rw [<- (rel.val k).isSome_eq,<- l]
  exact h _ (I.tok _)
 ·subst ey
  cases (show u=Value.ref b from ry)
  obtain ⟨z,hd,xs,rel,dd⟩:=Zu I.hok e
  refine wpAny_notIn_heap (tupleKind_room_in1 hu) (YG I.hok eb) hd dd ?_
  have q:=(rel.val k).isSome_eq
  rw [Option.isSome_map] at q
  rw [<- q,<- l]
  exact h _ (I.tok _)
theorem Ua {h':Heap} {t':Nat} {ob:HO} (I:Inv X pins σ H s) (mu:jT (H a)) (hs:Heap.SameBut a s.heap h') (he:∃ q,h'.get? a=some q) (new:xA X.prog X.w (ze H a ob) h' a ob) :
  Inv X pins σ (ze H a ob) { s with heap:=h',toks:=t' }:=
 I.write (x:=a) (e:=a) mu (.inl rfl) (fun b q hb z=>(hs.2 b hb).trans z) he new
theorem Ud {P:Program} {w:World} {H':Hp} {h':Heap} {kvs:List (zL×V)} {vs:List (zL×Value)} (z:kvs.length<=sizeLine) (hd:(a == sysModules)=false) (rel:KV kvs vs) (dd:h'.DictOf (yc P w) a vs) :
  xA P w H' h' a (.dK kvs):=⟨z,hd,vs,rel,dd⟩
theorem Oo {H':Hp} {Q:Unit->Shared->Prop} (hu:A.units+1<cLine) (I:Inv X pins σ H s) (g:Vv H a y v H') (ry:zi y u) (rv:zi v r) (h:∀ s',Inv X pins σ H' s'->Q () s') :
  wpAny (model X.prog X.w) A (setItem (.ref a) u r) Q E s:=by
 rcases g with ⟨kvs,k,e,ey,l,eH⟩ | ⟨kvs,k,b,e,ey,eb,l,eH⟩
 ·subst ey eH
  obtain ⟨z,hd,vs,rel,dd⟩:=Ot I.hok e
  have hz:vs.length<=sizeLine:=by rw [<- rel.length]; exact z
  have hl:(wR kvs k v).length<=sizeLine:=by have:=WU kvs k v; omega
  refine wpAny_setItem_pairs (hsz:=hz) (qV ry) dd fun h' dd' hs=>h _ ?_
  have he:∃ q,h'.get? a=some q:=let ⟨q,_,_,hq,_⟩:=dd'; ⟨q,hq⟩
  exact Ua I (by rw [e]; exact True.intro) hs he (Ud hl hd (rel.put k rv) dd')
 ·subst ey eH
  cases (show u=Value.ref b from ry)
  obtain ⟨z,hd,xs,rel,dd⟩:=Ov I.hok e
  have hz:xs.length<=sizeLine:=by rw [<- Paired.length rel]; exact z
  have hl:(wR kvs k v).length<=sizeLine:=by have:=WU kvs k v; omega
  refine wpAny_setItem_heap (hsz:=hz) (tupleKind_room_in1 hu) (YG I.hok eb) dd fun h' dd' hs=>h _ ?_
  obtain ⟨q,es,ep,hq,h2,h3,h4,_,h5⟩:=dd'
  refine Ua I (by rw [e]; exact True.intro) hs ⟨q,hq⟩ ⟨hl,hd,_,(rel.put k eb rv).keeps fun c ys ec=>?_,q,es,ep,hq,h2,h3,h4,h5⟩
  rw [yE (B3 ec e (fun z=>nomatch z))]
  exact ec
end
section
variable {X:Cx} {pins:List (Addr×Obj)} {σ:St} {H:Hp} {s:Shared} {a:Addr} {kvs:List (zL×V)} {k:zL} {u:Value} {A:Around} {E:Value->Shared->Prop}
end
theorem Oq {X:Cx} {pins:List (Addr×Obj)} {σ:St} {H:Hp} {s:Shared} {a:Addr} {y:V} {o:Option V} (I:Inv X pins σ H s) (g:XL H a y o):s.TypeIs (.ref a) "dict" := by
 rcases g with ⟨kvs,k,e,_,_⟩ | ⟨kvs,k,b,e,_,_,_⟩
 ·obtain ⟨_,_,vs,_,dd⟩:=pT I.hok e
  exact dd.typeIs
 ·obtain ⟨_,_,xs,_,dd⟩:=Zu I.hok e
  exact dd.typeIs
noncomputable def EF (td ty tv:TE):TS:=fun D σ H=>tv σ H fun v H1=>td σ H1 fun x H2=>ty σ H2 fun y H3=>∃ a H4,x=.ref a/\Vv H3 a y v H4/\D.nx σ H4
section
variable {X:Cx} {o i e value:Expr} {pos pos' tpos:Pos} {td ty tv:TE}
theorem Fe (hu:X.A.units+1<cLine) (ho:PE X o td) (hi:PE X i ty) (hv:PE X value tv) (hs:swapsWith value (some (.Subscript o i pos')) pos.line X.env=pure false) :
  PS X (.Assign [.Subscript o i pos'] value pos) (EF td ty tv):=by
 intro pins s σ H D I h
 refine wpAny_Assign_Subscript (zl (hv pins s σ H _ I h) fun r s1 ⟨v,H1,I1,rv,q1⟩=>zl (ho pins s1 σ H1 _ I1 q1) fun u s2 ⟨x,H2,I2,rx,q2⟩=>zl (hi pins s2 σ H2 _ I2 q2) fun iv s3 ⟨y,H3,I3,ry,a,H4,ex,g,q3⟩=>?_) hs
 subst ex
 obtain rfl:u=Value.ref a:=rx
 exact Oo hu I3 g ry rv fun s4 I4=>⟨σ,H4,I4,q3⟩
end
theorem Os {P:Program} {w:World} {H:Hp} (h:Heap) (hb:sysModules<h.objs.size):xA P w H (h.push { cls:=.type "dict",data:=.dict #[] }) h.objs.size (.dK []):=
 ⟨Nat.zero_le _,beq_eq_false_iff_ne.mpr (Ne.symm (Nat.ne_of_lt hb)),[],.nil,Heap.DictOf.new h⟩
noncomputable def GT:TE:=fun _ H Q=>∀ p,H p=none->Q (.ref p) (ze H p (.dK []))
section
variable {X:Cx} {pos:Pos}
theorem Dm:PE X (.Dict [] [] pos) GT:=fun pins s σ H Q I h=>
 wpAny_Dict_empty ⟨.ref s.heap.objs.size,_,I.laid (a:=s.heap.objs.size) (o:=.dK []) (t':=s.toks) (fun _ _ q=>Heap.get?_push_of_some _ q) (Nat.le_refl _) (Os s.heap I.big),rfl,h _ (I.hok.fresh (Nat.le_refl _))⟩
end
noncomputable def t6 (kvs more:List (zL×V)):List (zL×V):=more.foldl (fun acc kv=>wR acc kv.1 kv.2) kvs
theorem KV.merge:∀ {more:List (zL×V)} {rs:List (zL×Value)} {kvs:List (zL×V)} {vs:List (zL×Value)},KV more rs->KV kvs vs->KV (t6 kvs more) (merged vs rs):=by
 intro more rs kvs vs r
 unfold KV at r
 induction r generalizing kvs vs with
 | nil=>intro q; exact q
 | @cons p q ps qs h t ih=>
  intro r0
  have e:KV (wR kvs p.1 p.2) (stored vs q.1 q.2):=by
   have:=r0.put p.1 h.2
   rw [<- h.1]; exact this
  exact ih e
theorem Q5:∀ (more kvs:List (zL×V)),(t6 kvs more).length<=kvs.length+more.length
 | [],kvs=>by show kvs.length<=kvs.length+0; omega
 | p::r,kvs=>by
  have h1:=Q5 r (wR kvs p.1 p.2)
  have h2:=WU kvs p.1 p.2
  show (t6 (wR kvs p.1 p.2) r).length<=_
  rw [List.length_cons]; omega
section
variable {X:Cx} {pins:List (Addr×Obj)} {σ:St} {H:Hp} {s:Shared} {a:Addr} {y d:V} {u r:Value} {o:Option V} {A:Around} {E:Value->Shared->Prop}
end
section
variable {X:Cx} {o e f:Expr} {apos cpos:Pos} {td ty tx:TE}
end
section
variable {X:Cx} {pins:List (Addr×Obj)} {σ:St} {H:Hp} {s:Shared} {a:Addr} {kvs:List (zL×V)} {A:Around} {E:Value->Shared->Prop}
end
section
variable {X:Cx} {pins:List (Addr×Obj)} {σ:St} {H:Hp} {s:Shared} {a:Addr} {y:V} {u:Value} {A:Around} {E:Value->Shared->Prop}
end
end L2
namespace L3
open PySem
inductive D where
 | non | bl (b:Bool) | int (i:Int) | str (x:Str) | tup (xs:List D) | lst (xs:List D) | dic (ks:List (Sum Int Str)) (vs:List D)
theorem D.ind {P:D->Prop} (non:P .non) (bl:∀ b,P (.bl b)) (int:∀ i,P (.int i)) (str:∀ x,P (.str x)) (tup:∀ xs,(∀ d∈xs,P d)->P (.tup xs)) (lst:∀ xs,(∀ d∈xs,P d)->P (.lst xs))
  (dic:∀ ks xs,(∀ d∈xs,P d)->P (.dic ks xs)) (d:D):P d:=
 D.rec (motive_1:=P) (motive_2:=fun ds=>∀ d∈ds,P d) non bl int str (fun xs h=>tup xs h) (fun xs h=>lst xs h) (fun ks xs h=>dic ks xs h) (fun _ h=>absurd h (by simp))
  (fun d ds hd hds e he=>by
   rcases List.mem_cons.mp he with z | z
   ·exact z ▸ hd
   ·exact hds e z) d
mutual
noncomputable def zk:D->D->Bool
 | .non,.non=>true
 | .bl a,.bl b=>a == b
 | .bl a,.int b=>(if a then 1 else 0) == b
 | .int a,.bl b=>a == (if b then 1 else 0)
 | .int a,.int b=>a == b
 | .str a,.str b=>a == b
 | .tup xs,.tup ys=>dEqs xs ys
 | .lst xs,.lst ys=>dEqs xs ys
 | _,_=>false
noncomputable def dEqs:List D->List D->Bool
 | [],[]=>true
 | x::xs,y::ys=>zk x y&&dEqs xs ys
 | _,_=>false
end
noncomputable abbrev Sl:=Bool×D
noncomputable abbrev zd:=List (Option Sl)
noncomputable abbrev FE:=zd->Option D
noncomputable abbrev FT:=zd->Option Bool
noncomputable abbrev FA:=zd->Option (List D)
noncomputable abbrev FG:=D->zd->Option zd
inductive Fl where
 | nx (σ:zd) | rt (o:Bool) (d:D) | bk (σ:zd) | ct (σ:zd)
noncomputable abbrev FS:=zd->Option Fl
noncomputable abbrev zu:Nat:=16777216
noncomputable def z6 (i:Nat):FE:=fun σ=>match σ[i]? with
 | some (some (false,d))=>some d
 | _=>none
noncomputable def wp (i:Nat):FE:=fun σ=>match σ[i]? with
 | some (some (_,d))=>some d
 | _=>none
noncomputable def eC (d:D):FE:=fun _=>some d
noncomputable def e1 (F:D->Option D) (a:FE):FE:=fun σ=>(a σ).bind F
noncomputable def e2 (F:D->D->Option D) (a b:FE):FE:=fun σ=>(a σ).bind fun x=>(b σ).bind fun y=>F x y
noncomputable def eL (F:List D->Option D) (a:FA):FE:=fun σ=>(a σ).bind F
noncomputable def zD:FA:=fun _=>some []
noncomputable def zB (a:FE) (r:FA):FA:=fun σ=>(a σ).bind fun x=>(r σ).bind fun xs=>some (x::xs)
noncomputable def pQ:D->Option Bool
 | .bl b=>some b
 | _=>none
noncomputable def tE (a:FE):FT:=fun σ=>(a σ).bind pQ
noncomputable def vB (a b:FT):FT:=fun σ=>(a σ).bind fun k=>match k with
 | true=>b σ
 | false=>some false
noncomputable def qA (a b:FT):FT:=fun σ=>(a σ).bind fun k=>match k with
 | true=>some true
 | false=>b σ
noncomputable def q5 (a:FT):FT:=fun σ=>(a σ).bind fun k=>some (!k)
noncomputable def Zv (a b:FE):FE:=fun σ=>(a σ).bind fun x=>(pQ x).bind fun k=>match k with
 | true=>b σ
 | false=>some (.bl false)
noncomputable def Xt (a b:FE):FE:=fun σ=>(a σ).bind fun x=>(pQ x).bind fun k=>match k with
 | true=>some (.bl true)
 | false=>b σ
noncomputable def Ox (a:FE):FE:=fun σ=>(a σ).bind fun x=>(pQ x).bind fun k=>some (.bl (!k))
noncomputable def pU (c:FT) (a b:FE):FE:=fun σ=>(c σ).bind fun k=>match k with
 | true=>a σ
 | false=>b σ
noncomputable def yu (a:FA):FE:=fun σ=>(a σ).bind fun xs=>some (.tup xs)
noncomputable def yk (a:FA):FE:=fun σ=>(a σ).bind fun xs=>some (.lst xs)
noncomputable def yO:D->D->Option D
 | .int i,.int j=>some (.int (i+j))
 | .int i,.bl b=>some (.int (i+(if b then 1 else 0)))
 | .str x,.str y=>if x.length+y.length<=zu then some (.str (x++y)) else none
 | .lst x,.lst y=>if x.length+y.length<=zu then some (.lst (x++y)) else none
 | .tup x,.tup y=>if x.isEmpty=false/\x.length+y.length<=zu then some (.tup (x++y)) else none
 | _,_=>none
noncomputable def fI (C:Int->Int->Bool) (g:Int->Int->Int):D->D->Option D
 | .int i,.int j=>match C i j with
  | true=>some (.int (g i j))
  | false=>none
 | _,_=>none
noncomputable def Y4:D->D->Option D
 | .int i,.int j=>some (.int (i - j))
 | _,_=>none
noncomputable def tj (i:Int):Bool:=decide (-(2 ^ 64)<i)&&decide (i<2 ^ 64)
noncomputable def pW:D->D->Option D:=fI (fun i _=>tj i) (·*·)
noncomputable def Y2:D->D->Option D:=fI (fun _ j=>tj j) (·*·)
noncomputable def yR:D->D->Option D:=fI (fun _ j=>decide (0<j)) (· % ·)
noncomputable def xm:D->D->Option D:=fI (fun _ j=>decide (0<j)&&decide (j<2 ^ 64)) (· / ·)
noncomputable def Yl (i j:Int):Bool:=decide (0<=j)&&(decide (j<=1000000)&&decide (i.natAbs<2 ^ 64))
noncomputable def L9:D->D->Option D:=fI Yl fun i j=>i ^ j.toNat
noncomputable def pX:D->D->Option D:=fI Yl fun i j=>i*2 ^ j.toNat
noncomputable def LB:D->D->Option D:=fI (fun _ j=>decide (0<=j)) fun i j=>i / 2 ^ j.toNat
noncomputable def xt (g:Int->Int->Int):D->D->Option D
 | .int i,.int j=>some (.int (g i j))
 | _,_=>none
noncomputable def vk:D->Option D
 | .int i=>some (.int (-i))
 | _=>none
noncomputable def Y0:D->Option D
 | .int i=>some (.int (Builtin.bitNot i))
 | _=>none
noncomputable def uL (g:Int->Int->Bool):D->D->Option D
 | .int i,.int j=>some (.bl (g i j))
 | _,_=>none
noncomputable def tX:D->Bool
 | .non=>true
 | _=>false
noncomputable def qS:D->D->Option D
 | x,.non=>some (.bl (tX x))
 | _,_=>none
noncomputable def W2:D->D->Option D
 | x,.non=>some (.bl (!tX x))
 | _,_=>none
noncomputable def yG:D->Bool
 | .non=>true
 | .bl _=>true
 | .int _=>true
 | .str _=>true
 | _=>false
noncomputable def wm (f:D->D->Bool):List D->List D->Bool
 | x::xs,y::ys=>f x y&&wm f xs ys
 | _,_=>true
noncomputable def xJ:Nat->D->D->Bool
 | 0,_,_=>false
 | n+1,x,y=>match x,y with
  | .tup xs,.tup ys=>wm (xJ n) xs ys
  | .lst xs,.lst ys=>wm (xJ n) xs ys
  | x,y=>yG x&&yG y
noncomputable def uM:D->D->Option Bool
 | .int _,.bl _=>none
 | .bl _,.int _=>none
 | x,y=>match xJ 6 x y with
  | true=>some (zk x y)
  | false=>none
noncomputable def zm (x y:D):Option D:=(uM x y).bind fun k=>some (.bl k)
noncomputable def xM (x y:D):Option D:=(uM x y).bind fun k=>some (.bl (!k))
noncomputable def uy:D->Option (Sum Int Str)
 | .int i=>some (.inl i)
 | .str x=>some (.inr x)
 | _=>none
noncomputable def getK {α:Type}:List (Sum Int Str)->List α->Sum Int Str->Option α
 | k'::ks,v::vs,k=>if k'=k then some v else getK ks vs k
 | _,_,_=>none
noncomputable def yF (ks:List (Sum Int Str)) (k:Sum Int Str):Bool:=ks.any fun j=>decide (j=k)
noncomputable def xE (ks:List (Sum Int Str)) (k:Sum Int Str):List (Sum Int Str):=if yF ks k=true then ks else ks++[k]
noncomputable def xI {α:Type} (ks:List (Sum Int Str)) (vs:List α) (k:Sum Int Str) (v:α):List α:=if yF ks k=true then List.zipWith (fun k' x=>if k'=k then v else x) ks vs else vs++[v]
noncomputable def pV (x:D):D->Option Bool
 | .lst ys=>match yG x&&ys.all yG with
  | true=>some (ys.any fun y=>zk y x)
  | false=>none
 | .tup ys=>match yG x&&ys.all yG with
  | true=>some (ys.any fun y=>zk y x)
  | false=>none
 | .str j=>match x with
  | .str i=>some (!(Builtin.Str.occurrences j i 0 j.length 1).isEmpty)
  | _=>none
 | .dic ks _=>(uy x).bind fun k=>some (yF ks k)
 | _=>none
noncomputable def yA (x y:D):Option D:=(pV x y).bind fun k=>some (.bl k)
noncomputable def wH (x y:D):Option D:=(pV x y).bind fun k=>some (.bl (!k))
noncomputable def wN {α:Type} (xs:List α) (i:Int):Option α:=if 0<=i then xs[i.toNat]? else if -(xs.length:Int)<=i then xs[(i+xs.length).toNat]? else none
noncomputable def zG:D->D->Option D
 | .lst xs,.int i=>wN xs i
 | .tup xs,.int i=>wN xs i
 | .str z,.int i=>(wN z.cps.toList i).bind fun c=>some (.str ⟨#[c]⟩)
 | .dic ks vs,k=>(uy k).bind fun k=>getK ks vs k
 | _,_=>none
noncomputable def xL:List D->Option D
 | [.lst xs]=>some (.int xs.length)
 | [.tup xs]=>some (.int xs.length)
 | [.str z]=>some (.int z.length)
 | _=>none
noncomputable def Z_:List D->Option D
 | [.int i]=>some (.int i)
 | [.bl k]=>some (.int (if k then 1 else 0))
 | _=>none
inductive U0 where
 | int | bool | str | list | tuple
noncomputable def TZ:U0->D->Option Bool
 | _,.dic _ _=>none
 | .int,.int _=>some true
 | .int,.bl _=>some true
 | .int,_=>some false
 | .bool,.bl _=>some true
 | .bool,_=>some false
 | .str,.str _=>some true
 | .str,_=>some false
 | .list,.lst _=>some true
 | .list,_=>some false
 | .tuple,.tup _=>some true
 | .tuple,_=>some false
noncomputable def Ow (T:U0) (a:FE):FE:=fun τ=>(a τ).bind fun d=>(TZ T d).bind fun b=>some (.bl b)
noncomputable def xc (a:FE):FA:=fun σ=>(a σ).bind fun d=>match d with
 | .lst xs=>some xs
 | .tup xs=>some xs
 | .str z=>some (z.cps.toList.map fun c=>.str ⟨#[c]⟩)
 | _=>none
noncomputable def vI (lo hi:FE):FA:=fun σ=>(lo σ).bind fun x=>(hi σ).bind fun y=>match x,y with
 | .int i,.int j=>if i.natAbs<=zu/\j.natAbs<=zu/\(j - i).toNat<=zu then some ((List.range (j - i).toNat).map fun k:Nat=>.int (i+k)) else none
 | _,_=>none
noncomputable def zh (i:Nat):FG:=fun d σ=>some (σ.set i (some (false,d)))
noncomputable def xW (i j:Nat):FG:=fun d σ=>match d with
 | .tup [x,y]=>some ((σ.set i (some (false,x))).set j (some (false,y)))
 | _=>none
noncomputable def yW:FS:=fun σ=>some (.nx σ)
noncomputable def zE (a b:FS):FS:=fun σ=>(a σ).bind fun f=>match f with
 | .nx σ'=>b σ'
 | f=>some f
noncomputable def zS (i:Nat) (e:FE):FS:=fun σ=>(e σ).bind fun d=>some (.nx (σ.set i (some (false,d))))
noncomputable def vO (i:Nat) (e:FE):FS:=fun σ=>(e σ).bind fun d=>some (.nx (σ.set i (some (true,d))))
noncomputable def ya (e:FE):FS:=fun σ=>(e σ).bind fun d=>some (.rt false d)
noncomputable def xq (e:FE):FS:=fun σ=>(e σ).bind fun d=>some (.rt true d)
noncomputable def uU (i:Nat):FS:=fun σ=>match σ[i]? with
 | some (some (true,d))=>some (.rt true d)
 | _=>none
noncomputable def yP (c:FT) (a b:FS):FS:=fun σ=>(c σ).bind fun k=>match k with
 | true=>a σ
 | false=>b σ
noncomputable def wu (g:FG) (b:FS):List D->zd->Option Fl
 | [],σ=>some (.nx σ)
 | d::r,σ=>(g d σ).bind fun σ1=>(b σ1).bind fun f=>match f with
  | .nx σ2=>wu g b r σ2
  | .ct σ2=>wu g b r σ2
  | .bk σ2=>some (.nx σ2)
  | .rt o d=>some (.rt o d)
noncomputable def vA (it:FA) (g:FG) (b:FS):FS:=fun σ=>(it σ).bind fun ds=>wu g b ds σ
noncomputable def xr (c:FT) (b:FS):Nat->zd->Option Fl
 | 0,_=>none
 | n+1,σ=>(c σ).bind fun k=>match k with
  | false=>some (.nx σ)
  | true=>(b σ).bind fun f=>match f with
   | .nx σ2=>xr c b n σ2
   | .ct σ2=>xr c b n σ2
   | .bk σ2=>some (.nx σ2)
   | .rt o d=>some (.rt o d)
noncomputable def Z7:Nat:=100000000
noncomputable def uV (c:FT) (b:FS):FS:=fun σ=>xr c b Z7 σ
noncomputable def qk (i:Nat):FS:=fun σ=>match σ[i]? with
 | some (some (_,d))=>some (.nx (σ.set i (some (false,d))))
 | _=>none
noncomputable def EG (i:Nat) (F:D->Option D):FS:=fun σ=>match σ[i]? with
 | some (some (true,d))=>(F d).bind fun d'=>some (.nx (σ.set i (some (true,d'))))
 | _=>none
noncomputable def wS (i:Nat) (F:D->D->Option D) (e:FE):FS:=fun σ=>match σ[i]? with
 | some (some (true,d))=>(e σ).bind fun x=>(F d x).bind fun d'=>some (.nx (σ.set i (some (true,d'))))
 | _=>none
noncomputable def wG:D->D->Option D
 | .lst xs,y=>if xs.length<zu then some (.lst (xs++[y])) else none
 | _,_=>none
noncomputable def qm (i:Nat) (k v:FE):FS:=fun σ=>(v σ).bind fun y=>match σ[i]? with
 | some (some (true,.dic ks ds))=>(k σ).bind fun x=>(uy x).bind fun x=>if ks.length<zu then some (.nx (σ.set i (some (true,.dic (xE ks x) (xI ks ds x y))))) else none
 | _=>none
noncomputable def xX (g:FG) (c:FT) (e:FE) (σ:zd):List D->Option (List D)
 | []=>some []
 | d::r=>(g d σ).bind fun σ1=>(c σ1).bind fun k=>match k with
  | true=>(e σ1).bind fun x=>(xX g c e σ r).bind fun xs=>some (x::xs)
  | false=>xX g c e σ r
noncomputable def xV:FT:=fun _=>some true
noncomputable def xP (n:Nat) (it:FA) (g:FG) (c:FT) (e:FE):FE:=fun σ=>(it σ).bind fun ds=>(xX g c e (σ++List.replicate n none) ds).bind fun xs=>some (.lst xs)
noncomputable def zc (n:Nat) (b:FS) (ds:List D):Option (Bool×D):=(b (ds.map (fun d=>some (false,d))++List.replicate (n - ds.length) none)).bind fun f=>match f with
 | .rt o d=>some (o,d)
 | .nx _=>some (false,.non)
 | _=>none
noncomputable def zX (F:List D->Option (Bool×D)) (a:FA):FE:=fun σ=>(a σ).bind fun ds=>(F ds).bind fun r=>some r.2
noncomputable def vi (F:List D->Option (Bool×D)) (a:FA):FE:=fun σ=>(a σ).bind fun ds=>(F ds).bind fun r=>match r with
 | (true,d)=>some d
 | _=>none
noncomputable def Zw (F:List D->Option (Bool×D)) (a:FA):FE:=fun σ=>(zX F a σ).bind fun d=>if yG d=true then some d else none
end L3
namespace L3
open PySem PySem.Spec PyProof.Rows L2
noncomputable abbrev St:=L2.St
noncomputable def Ix (_:PySem.W.Frag) (H:Hp) (a:Addr) (kvs:List (zL×V)):Prop:=Rd H a (.dK kvs)
mutual
noncomputable def zV (K:PySem.W.Frag) (H:Hp):D->V->Prop
 | .non,v=>v=.non
 | .bl b,v=>v=.bl b
 | .int i,v=>v=.int i
 | .str x,v=>v=.str x/\x.length<=sizeLine
 | .tup ds,v=>∃ a vs,v=.ref a/\yU K H a vs/\Reps K H ds vs/\ds.length<=sizeLine
 | .lst ds,v=>∃ a vs,v=.ref a/\zy K H a vs/\Reps K H ds vs/\ds.length<=sizeLine
 | .dic ks ds,v=>∃ a vs,v=.ref a/\Ix K H a (ks.zip vs)/\ks.length=vs.length/\Reps K H ds vs/\ds.length<=sizeLine
noncomputable def Reps (K:PySem.W.Frag) (H:Hp):List D->List V->Prop
 | [],vs=>vs=[]
 | d::ds,vs=>∃ v r,vs=v::r/\zV K H d v/\Reps K H ds r
end
section
variable {K:PySem.W.Frag} {G H H':Hp}
theorem Rd.mono {a:Addr} {u:HO} (s:zx H H') (h:Rd H a u):Rd H' a u:=by
 rcases h with h | ⟨o,h⟩
 ·exact .inl (s _ _ h)
 ·exact .inr ⟨o,s _ _ h⟩
theorem v3 {a:Addr} {xs:List V} (s:zx H H') (h:yU K H a xs):yU K H' a xs:=by
 rcases h with h | h
 ·exact .inl (Rd.mono s h)
 ·exact .inr h
theorem wA {a:Addr} {xs:List V} (s:zx H H') (h:zy K H a xs):zy K H' a xs:=by
 rcases h with h | h
 ·exact .inl (Rd.mono s h)
 ·exact .inr h
theorem Reps.imp:∀ {ds:List D} {vs:List V},(∀ d∈ds,∀ v,zV K H d v->zV K H' d v)->Reps K H ds vs->Reps K H' ds vs
 | [],_,_,h=>h
 | d::ds,vs,f,h=>by
  obtain ⟨v,r,rfl,hv,hr⟩:=h
  exact ⟨v,r,rfl,f d List.mem_cons_self v hv,Reps.imp (fun d' m=>f d' (List.mem_cons_of_mem _ m)) hr⟩
theorem zV.mono (s:zx H H'):∀ {d:D} {v:V},zV K H d v->zV K H' d v:=fun {d}=>by
 refine D.ind (P:=fun d=>∀ v,zV K H d v->zV K H' d v) (fun v h=>h) (fun b v h=>h) (fun i v h=>h) (fun x v h=>h) ?_ ?_ ?_ d _
 ·rintro xs ih v ⟨a,vs,e,q,r,l⟩
  exact ⟨a,vs,e,v3 s q,Reps.imp ih r,l⟩
 ·rintro xs ih v ⟨a,vs,e,q,r,l⟩
  exact ⟨a,vs,e,wA s q,Reps.imp ih r,l⟩
 ·rintro ks xs ih v ⟨a,vs,e,q,z,r,l⟩
  exact ⟨a,vs,e,Rd.mono s q,z,Reps.imp ih r,l⟩
theorem Reps.mono (s:zx H H') {ds:List D} {vs:List V} (h:Reps K H ds vs):Reps K H' ds vs:=Reps.imp (fun _ _ _=>zV.mono s) h
theorem Reps.length:∀ {ds:List D} {vs:List V},Reps K H ds vs->vs.length=ds.length
 | [],_,h=>by cases (show _=[] from h); rfl
 | d::ds,_,h=>by
  obtain ⟨v,r,rfl,_,hr⟩:=h
  rw [List.length_cons,List.length_cons,Reps.length hr]
theorem Reps.get:∀ {ds:List D} {vs:List V} {i:Nat} {d:D},Reps K H ds vs->ds[i]?=some d->∃ v,vs[i]?=some v/\zV K H d v
 | [],_,_,_,_,e=>by cases e
 | d::ds,_,0,_,h,e=>by
  obtain ⟨v,r,rfl,hv,hr⟩:=h
  cases e
  exact ⟨v,rfl,hv⟩
 | d::ds,_,i+1,d',h,e=>by
  obtain ⟨v,r,rfl,hv,hr⟩:=h
  exact Reps.get (i:=i) hr (by simpa using e)
theorem Reps.at {ds:List D} {vs:List V} {i:Nat} {v:V} (h:Reps K H ds vs) (e:vs[i]?=some v):∃ d,ds[i]?=some d/\zV K H d v:=by
 have l:=h.length
 have hi:i<ds.length:=by rw [<- l]; exact (List.getElem?_eq_some_iff.mp e).1
 obtain ⟨v',e',r⟩:=h.get (List.getElem?_eq_getElem hi)
 rw [e] at e'
 cases e'
 exact ⟨_,List.getElem?_eq_getElem hi,r⟩
theorem Reps.append:∀ {ds es:List D} {vs us:List V},Reps K H ds vs->Reps K H es us->Reps K H (ds++es) (vs++us)
 | [],_,_,_,h,g=>by cases (show _=[] from h); exact g
 | d::ds,_,_,_,h,g=>by
  obtain ⟨v,r,rfl,hv,hr⟩:=h
  exact ⟨v,_,rfl,hv,Reps.append hr g⟩
theorem Reps.one {d:D} {v:V} (h:zV K H d v):Reps K H [d] [v]:=⟨v,[],rfl,h,rfl⟩
theorem Reps.take:∀ {ds:List D} {vs:List V} (n:Nat),Reps K H ds vs->Reps K H (ds.take n) (vs.take n)
 | _,_,0,_=>by rw [List.take_zero,List.take_zero]; rfl
 | [],_,n+1,h=>by cases (show _=[] from h); rfl
 | d::ds,_,n+1,h=>by
  obtain ⟨v,r,rfl,hv,hr⟩:=h
  exact ⟨v,_,rfl,hv,Reps.take n hr⟩
theorem Reps.drop:∀ {ds:List D} {vs:List V} (n:Nat),Reps K H ds vs->Reps K H (ds.drop n) (vs.drop n)
 | _,_,0,h=>h
 | [],_,n+1,h=>by cases (show _=[] from h); rfl
 | d::ds,_,n+1,h=>by
  obtain ⟨v,r,rfl,hv,hr⟩:=h
  exact Reps.drop n hr
theorem Reps.ints:∀ {ns:List Int},Reps K H (ns.map D.int) (ns.map V.int)
 | []=>rfl
 | n::ns=>⟨_,_,rfl,rfl,Reps.ints⟩
end
structure zM (G H G' H':Hp):Prop where
 g:zx G G'
 h:zx H H'
 gh:zx G' H'
 new:∀ p,G' p≠none->G p≠none\/H p=none
section
variable {G H G' H' G0 H0 G1 H1 G2 H2:Hp} {p:Addr} {o:HO}
theorem zM.refl (s:zx G H):zM G H G H:=⟨zx.refl _,zx.refl _,s,fun _ h=>.inl h⟩
theorem zM.trans (a:zM G H G1 H1) (b:zM G1 H1 G2 H2):zM G H G2 H2:=⟨a.g.trans b.g,a.h.trans b.h,b.gh,fun p h=>by
 rcases b.new p h with z | z
 ·exact a.new p z
 ·exact .inr (a.h.free z)⟩
theorem zM.rebase (a:zM G0 H0 G1 H1) (b:zM G1 H0 G2 H2):zM G0 H0 G2 H2:=⟨a.g.trans b.g,b.h,b.gh,fun p h=>by
 rcases b.new p h with z | z
 ·exact a.new p z
 ·exact .inr z⟩
theorem zM.far (a:zM G0 H0 G1 H1):zM G1 H0 G1 H1:=⟨zx.refl _,a.h,a.gh,fun _ h=>.inl h⟩
theorem IW {H:Hp} {p q:Addr} {o:HO} (h:ze H p o q≠none):q=p\/H q≠none:=by
 by_cases e:q=p
 ·exact .inl e
 ·rw [yE e] at h
  exact .inr h
theorem EI (s:zx G H):zx (ze G p o) (ze H p o):=fun b u e=>by
 by_cases hb:b=p
 ·subst hb
  rw [yQ] at e ⊢
  exact e
 ·rw [yE hb] at e ⊢
  exact s _ _ e
theorem zM.lay (s:zx G H) (h:H p=none):zM G H (ze G p o) (ze H p o):=⟨wJ (s.free h) o,wJ h o,EI s,fun q z=>by
 rcases IW z with e | e
 ·exact .inr (e ▸ h)
 ·exact .inl e⟩
theorem zM.layO (s:zx G H) (h:H p=none):zM G H G (ze H p o):=⟨zx.refl _,wJ h o,s.trans (wJ h o),fun _ z=>.inl z⟩
theorem zM.frz (a:zM G H G1 H1) (h:H p=none) (g:G1 p=none) (e:H1 p=some o):zM G H (ze G1 p o) H1:=⟨a.g.trans (wJ g o),a.h,fun b u q=>by
 by_cases hb:b=p
 ·subst hb
  rw [yQ] at q
  cases q
  exact e
 ·rw [yE hb] at q
  exact a.gh _ _ q,fun q z=>by
 rcases IW z with w | w
 ·exact .inr (w ▸ h)
 ·exact a.new q w⟩
end
noncomputable def wc (K:PySem.W.Frag) (G H:Hp) (d:D) (p:Addr):Prop:=match d with
 | .lst ds=>∃ vs,H p=some (.lst vs)/\Reps K G ds vs/\ds.length<=sizeLine
 | .dic ks ds=>∃ vs,H p=some (.dK (ks.zip vs))/\ks.length=vs.length/\Reps K G ds vs/\ds.length<=sizeLine
 | _=>False
section
variable {K:PySem.W.Frag} {G H G' H':Hp} {d:D} {p:Addr}
theorem wc.some (h:wc K G H d p):H p≠none:=by
 cases d with
 | lst ds=>obtain ⟨vs,e,_⟩:=h; rw [e]; exact fun z=>nomatch z
 | dic ks ds=>obtain ⟨vs,e,_⟩:=h; rw [e]; exact fun z=>nomatch z
 | _=>exact h.elim
theorem wc.mono (g:zx G G') (h:zx H H') (o:wc K G H d p):wc K G' H' d p:=by
 cases d with
 | lst ds=>obtain ⟨vs,e,r,l⟩:=o; exact ⟨vs,h _ _ e,r.mono g,l⟩
 | dic ks ds=>obtain ⟨vs,e,z,r,l⟩:=o; exact ⟨vs,h _ _ e,z,r.mono g,l⟩
 | _=>exact o.elim
theorem wc.rep (s:zx G H) (o:wc K G H d p):zV K H d (.ref p):=by
 cases d with
 | lst ds=>obtain ⟨vs,e,r,l⟩:=o; exact ⟨p,vs,rfl,zy.of e,r.mono s,l⟩
 | dic ks ds=>obtain ⟨vs,e,z,r,l⟩:=o; exact ⟨p,vs,rfl,.inl e,z,r.mono s,l⟩
 | _=>exact o.elim
theorem wc.frz (o:wc K G H d p) (g:G p=none):∃ u,H p=Option.some u/\zV K (ze G p u) d (.ref p):=by
 cases d with
 | lst ds=>obtain ⟨vs,e,r,l⟩:=o; exact ⟨_,e,p,vs,rfl,zy.of yQ,r.mono (wJ g _),l⟩
 | dic ks ds=>obtain ⟨vs,e,z,r,l⟩:=o; exact ⟨_,e,p,vs,rfl,.inl yQ,z,r.mono (wJ g _),l⟩
 | _=>exact o.elim
end
structure zf (K:PySem.W.Frag) (n:Nat) (G0 H0 G H:Hp) (τ:zd) (σ:St):Prop where
 ext:zM G0 H0 G H
 l1:σ.length=n
 l2:τ.length=n
 fr:∀ (i:Nat) (d:D),τ[i]?=some (some (false,d))->∃ v,σ[i]?=some (some v)/\zV K G d v
 ow:∀ (i:Nat) (d:D),τ[i]?=some (some (true,d))->∃ p,σ[i]?=some (some (V.ref p))/\G p=none/\H0 p=none/\wc K G H d p
 ap:∀ (i j:Nat) (d e:D) (p:Addr),i≠j->τ[i]?=some (some (true,d))->τ[j]?=some (some (true,e))->σ[i]?=some (some (V.ref p))->σ[j]?=some (some (V.ref p))->False
section
variable {K:PySem.W.Frag} {n:Nat} {G0 H0 G H G' H':Hp} {τ:zd} {σ:St}
theorem zf.go (E:zf K n G0 H0 G H τ σ) (x:zM G H G' H'):zf K n G0 H0 G' H' τ σ:=⟨E.ext.trans x,E.l1,E.l2,fun i d h=>by
 obtain ⟨v,e,r⟩:=E.fr i d h
 exact ⟨v,e,r.mono x.g⟩,fun i d h=>by
 obtain ⟨p,e,g,z,o⟩:=E.ow i d h
 refine ⟨p,e,?_,z,o.mono x.g x.h⟩
 cases q:G' p with
 | none=>rfl
 | some u=>
  rcases x.new p (by rw [q]; exact fun z=>nomatch z) with w | w
  ·exact absurd g w
  ·exact absurd w o.some,E.ap⟩
theorem zf.far (E:zf K n G0 H0 G H τ σ):zf K n G H0 G H τ σ:=⟨E.ext.far,E.l1,E.l2,E.fr,E.ow,E.ap⟩
theorem zf.near {Ga Ha:Hp} (a:zM G0 H0 Ga Ha) (E:zf K n Ga H0 G H τ σ):zf K n G0 H0 G H τ σ:=⟨a.rebase E.ext,E.l1,E.l2,E.fr,E.ow,E.ap⟩
theorem zf.lt {i:Nat} {s:Option Sl} (E:zf K n G0 H0 G H τ σ) (h:τ[i]?=some s):i<n:=by
 rw [<- E.l2]
 exact (List.getElem?_eq_some_iff.mp h).1
theorem xb {α:Type} {xs:List α} {i j:Nat} {x y:α} (h:(xs.set i x)[j]?=some y):(j=i/\y=x)\/(j≠i/\xs[j]?=some y):=by
 rw [List.getElem?_set] at h
 by_cases e:i=j
 ·subst e
  rw [if_pos rfl] at h
  split at h
  ·cases h; exact .inl ⟨rfl,rfl⟩
  ·cases h
 ·rw [if_neg e] at h
  exact .inr ⟨fun z=>e z.symm,h⟩
theorem tW {α:Type} {xs:List α} {i:Nat} {x:α} (h:i<xs.length):(xs.set i x)[i]?=some x:=by rw [List.getElem?_set,if_pos rfl,if_pos h]
theorem xn {α:Type} {xs:List α} {i j:Nat} {x:α} (h:j≠i):(xs.set i x)[j]?=xs[j]?:=by rw [List.getElem?_set,if_neg (fun z=>h z.symm)]
theorem zf.set {i:Nat} {d:D} {v:V} (E:zf K n G0 H0 G H τ σ) (hi:i<n) (r:zV K G d v):zf K n G0 H0 G H (τ.set i (some (false,d))) (σ.set i (some v)):=⟨E.ext,by rw [List.length_set]; exact E.l1,by rw [List.length_set]; exact E.l2,fun j e h=>by
 rcases xb h with ⟨rfl,z⟩ | ⟨ne,z⟩
 ·cases z
  exact ⟨v,tW (by rw [E.l1]; exact hi),r⟩
 ·rw [xn ne]
  exact E.fr j e z,fun j e h=>by
 rcases xb h with ⟨rfl,z⟩ | ⟨ne,z⟩
 ·cases z
 ·rw [xn ne]
  exact E.ow j e z,fun j k e f p hne h1 h2=>by
 rcases xb h1 with ⟨rfl,z⟩ | ⟨ne,z⟩
 ·cases z
 ·rcases xb h2 with ⟨rfl,z'⟩ | ⟨ne',z'⟩
  ·cases z'
  ·rw [xn ne,xn ne']
   exact E.ap j k e f p hne z z'⟩
theorem zf.setO {i:Nat} {d:D} {p:Addr} (E:zf K n G0 H0 G H τ σ) (hi:i<n) (hg:G p=none) (h0:H0 p=none) (o:wc K G H d p) (hn:∀ (j:Nat) (e:D),j≠i->τ[j]?=some (some (true,e))->σ[j]?=some (some (V.ref p))->False) :
  zf K n G0 H0 G H (τ.set i (some (true,d))) (σ.set i (some (.ref p))):=⟨E.ext,by rw [List.length_set]; exact E.l1,by rw [List.length_set]; exact E.l2,fun j e h=>by
 rcases xb h with ⟨rfl,z⟩ | ⟨ne,z⟩
 ·cases z
 ·rw [xn ne]
  exact E.fr j e z,fun j e h=>by
 rcases xb h with ⟨rfl,z⟩ | ⟨ne,z⟩
 ·cases z
  exact ⟨p,tW (by rw [E.l1]; exact hi),hg,h0,o⟩
 ·rw [xn ne]
  exact E.ow j e z,fun j k e f q hne h1 h2 h3 h4=>by
 rcases xb h1 with ⟨rfl,z⟩ | ⟨ne,z⟩
 ·rcases xb h2 with ⟨rfl,z'⟩ | ⟨ne',z'⟩
  ·exact hne rfl
  ·rw [tW (by rw [E.l1]; exact hi)] at h3
   rw [xn ne'] at h4
   cases h3
   exact hn k f ne' z' h4
 ·rcases xb h2 with ⟨rfl,z'⟩ | ⟨ne',z'⟩
  ·rw [tW (by rw [E.l1]; exact hi)] at h4
   rw [xn ne] at h3
   cases h4
   exact hn j e ne z h3
  ·rw [xn ne] at h3
   rw [xn ne'] at h4
   exact E.ap j k e f q hne z z' h3 h4⟩
theorem zf.newO {i:Nat} {p:Addr} (E:zf K n G0 H0 G H τ σ) (hp:H p=none):∀ (j:Nat) (e:D),j≠i->τ[j]?=some (some (true,e))->σ[j]?=some (some (V.ref p))->False:=fun j e _ h1 h2=>by
 obtain ⟨q,e1,_,_,o⟩:=E.ow j e h1
 rw [h2] at e1
 cases e1
 exact o.some hp
theorem zf.freeze {i:Nat} {b:Bool} {d:D} (E:zf K n G0 H0 G H τ σ) (hi:τ[i]?=some (some (b,d))):∃ G',zf K n G0 H0 G' H (τ.set i (some (false,d))) σ/\zx G G':=by
 have hin:=E.lt hi
 cases b with
 | false=>
  refine ⟨G,?_,zx.refl _⟩
  have e:τ.set i (some (false,d))=τ:=by
   apply List.ext_getElem?
   intro j
   by_cases hj:j=i
   ·subst hj; rw [tW (by rw [E.l2]; exact hin),hi]
   ·rw [xn hj]
  rw [e]
  exact E
 | true=>
  obtain ⟨p,e,g,z,o⟩:=E.ow i d hi
  obtain ⟨u,hu,r⟩:=o.frz g
  have x:zM G0 H0 (ze G p u) H:=E.ext.frz z g hu
  refine ⟨ze G p u,⟨x,E.l1,by rw [List.length_set]; exact E.l2,fun j d' h=>?_,fun j d' h=>?_,fun j k e1 f q hne h1 h2=>?_⟩,wJ g _⟩
  ·rcases xb h with ⟨rfl,w⟩ | ⟨ne,w⟩
   ·cases w
    exact ⟨_,e,r⟩
   ·obtain ⟨v,e',r'⟩:=E.fr j d' w
    exact ⟨v,e',r'.mono (wJ g _)⟩
  ·rcases xb h with ⟨rfl,w⟩ | ⟨ne,w⟩
   ·cases w
   ·obtain ⟨q,e',g',z',o'⟩:=E.ow j d' w
    refine ⟨q,e',?_,z',o'.mono (wJ g _) (zx.refl _)⟩
    rw [yE (fun c=>?_)]
    ·exact g'
    ·subst c
     exact E.ap i j d d' q (fun c=>ne c.symm) hi w e e'
  ·rcases xb h1 with ⟨rfl,w⟩ | ⟨ne,w⟩
   ·cases w
   ·rcases xb h2 with ⟨rfl,w'⟩ | ⟨ne',w'⟩
    ·cases w'
    ·exact E.ap j k e1 f q hne w w'
end
section
variable (X:Cx)
structure SE (e:Expr) (f:FE):Prop where
 h:∃ t,PE X e t/\∀ {G0 H0 G H:Hp} {τ:zd} {σ:St} {d:D} {Q:VK},zf X.K X.N.length G0 H0 G H τ σ->f τ=some d->(∀ v G' H',zM G H G' H'->zV X.K G' d v->Q v H')->t σ H Q
structure SB (e:Expr) (f:FE):Prop where
 h:∃ t,PE X e t/\∀ {G0 H0 G H:Hp} {τ:zd} {σ:St} {d:D} {Q:VK},zf X.K X.N.length G0 H0 G H τ σ->f τ=some d->(∀ v G' H',zM G H G' H'->zV X.K H' d v->Q v H')->t σ H Q
structure SF (e:Expr) (f:FE):Prop where
 h:∃ t,PE X e t/\∀ {G0 H0 G H:Hp} {τ:zd} {σ:St} {d:D} {Q:VK},zf X.K X.N.length G0 H0 G H τ σ->f τ=some d->(∀ p G' H',zM G H G' H'->H p=none->G' p=none->wc X.K G' H' d p->Q (.ref p) H')->t σ H Q
structure ST (e:Expr) (f:FT):Prop where
 h:∃ t,PT X e t/\∀ {G0 H0 G H:Hp} {τ:zd} {σ:St} {d:Bool} {Q:Bool->Hp->Prop},zf X.K X.N.length G0 H0 G H τ σ->f τ=some d->(∀ G' H',zM G H G' H'->Q d H')->t σ H Q
structure SW (e:Expr) (f:FT):Prop where
 h:∃ t,PW X e t/\∀ {G0 H0 G H:Hp} {τ:zd} {σ:St} {d:Bool} {Q:Bool->Hp->Prop},zf X.K X.N.length G0 H0 G H τ σ->f τ=some d->(∀ G' H',zM G H G' H'->Q d H')->t σ H Q
structure SA (es:List Expr) (f:FA):Prop where
 h:∃ t,PA X es t/\∀ {G0 H0 G H:Hp} {τ:zd} {σ:St} {ds:List D} {Q:List V->Hp->Prop},zf X.K X.N.length G0 H0 G H τ σ->f τ=some ds->(∀ vs G' H',zM G H G' H'->Reps X.K G' ds vs->Q vs H')->t σ H Q
structure pO (es:List Expr) (f:FA):Prop where
 h:∃ t,PA X es t/\∀ {G0 H0 G H:Hp} {τ:zd} {σ:St} {ds:List D} {Q:List V->Hp->Prop},zf X.K X.N.length G0 H0 G H τ σ->f τ=some ds->(∀ vs G' H',zM G H G' H'->Reps X.K H' ds vs->Q vs H')->t σ H Q
end
noncomputable def wL (K:PySem.W.Frag) (n:Nat) (G0 H0:Hp) (E:wV):Fl->Prop
 | .nx τ=>∀ σ G H,zf K n G0 H0 G H τ σ->E.nx σ H
 | .bk τ=>∀ σ G H,zf K n G0 H0 G H τ σ->E.bk σ H
 | .ct τ=>∀ σ G H,zf K n G0 H0 G H τ σ->E.ct σ H
 | .rt false d=>∀ v G H,zM G0 H0 G H->zV K G d v->E.rt v H
 | .rt true d=>∀ p G H,zM G0 H0 G H->H0 p=none->G p=none->wc K G H d p->E.rt (.ref p) H
section
variable (X:Cx)
structure SS (st:Stmt) (f:FS):Prop where
 h:∃ t,PS X st t/\∀ {G0 H0 G H:Hp} {τ:zd} {σ:St} {fl:Fl} {E:wV},zf X.K X.N.length G0 H0 G H τ σ->f τ=some fl->wL X.K X.N.length G0 H0 E fl->t E σ H
structure wg (st:List Stmt) (f:FS):Prop where
 h:∃ t,wD X st t/\∀ {G0 H0 G H:Hp} {τ:zd} {σ:St} {fl:Fl} {E:wV},zf X.K X.N.length G0 H0 G H τ σ->f τ=some fl->wL X.K X.N.length G0 H0 E fl->t E σ H
end
structure tT (K:PySem.W.Frag) (J:It) (G:Hp) (ds:List D):Prop where
 go:∀ i G2 H,zx G G2->zx G2 H->i<ds.length->J.go i H
 yld:∀ i G2 H x H',zx G G2->zx G2 H->i<ds.length->J.yld i H x H'->∃ G3 d,zM G2 H G3 H'/\ds[i]?=some d/\zV K G3 d x
 stop:∀ i G2 H,zx G G2->zx G2 H->ds.length<=i->J.stop i H
structure SI (X:Cx) (tg iter:Expr) (f:FA):Prop where
 h:∃ wi,PI X tg iter wi/\∀ {G0 H0 G H:Hp} {τ:zd} {σ:St} {ds:List D} {R:It->Hp->Prop},zf X.K X.N.length G0 H0 G H τ σ->f τ=some ds->(∀ J G' H',zM G H G' H'->ds.length<=sizeLine->tT X.K J G' ds->R J H')->wi σ H R
noncomputable def zO (K:PySem.W.Frag) (F:List D->Option (Bool×D)):Sp:=fun vs H Q _=>∃ G ds o d,zx G H/\Reps K G ds vs/\F ds=some (o,d)/\
 match o with
 | false=>∀ v G' H',zM G H G' H'->zV K G' d v->Q v H'
 | true=>∀ p G' H',zM G H G' H'->H p=none->G' p=none->wc K G' H' d p->Q (.ref p) H'
end L3
namespace L3
open PySem PySem.Spec PyProof.Rows L2
theorem zJ {α β:Type} {o:Option α} {f:α->Option β} {b:β} (h:o.bind f=some b):∃ a,o=some a/\f a=some b:=by
 cases o with
 | none=>cases h
 | some a=>exact ⟨a,rfl,h⟩
theorem Ui {i:Nat} {τ:zd} {d:D} (h:z6 i τ=some d):τ[i]?=some (some (false,d)):=by
 unfold z6 at h
 split at h
 ·rename_i e
  cases h
  exact e
 ·cases h
theorem Uh {i:Nat} {τ:zd} {d:D} (h:wp i τ=some d):∃ b,τ[i]?=some (some (b,d)):=by
 unfold wp at h
 split at h
 ·rename_i b d' e
  cases h
  exact ⟨_,e⟩
 ·cases h
section
variable {X:Cx} {x:Str} {p pos apos cpos p2:Pos} {e a b c o:Expr} {es yD:List Expr} {f fa fb fc:FE} {ft fu:FT} {fs:FA} {F:D->D->Option D} {r:R2}
theorem SE.sb (h:SE X e f):SB X e f:=⟨let ⟨t,p,k⟩:=h.h; ⟨t,p,fun E hf q=>k E hf fun v G' H' x r=>q v G' H' x (r.mono x.gh)⟩⟩
theorem SF.se (h:SF X e f):SE X e f:=⟨let ⟨t,p,k⟩:=h.h; ⟨t,p,fun E hf q=>k E hf fun p G' H' x hp gp o=>by
 obtain ⟨u,hu,r⟩:=o.frz gp
 exact q _ _ _ (x.frz hp gp hu) r⟩⟩
theorem zF (h:SE X e f):SB X e f:=h.sb
theorem yX (h:SF X e f):SE X e f:=h.se
theorem z7 (i:Nat) {x:Str} {pos:Pos} (hN:X.N[i]?=some x:=by rfl) (hv:tS X.env.scope x:=by first | exact Or.inl rfl | exact Or.inr (Or.inl rfl) | exact Or.inr (Or.inr rfl)) (hd:(x == ("__debug__" : Str))=false:=by decide)
  (hcd:(x == ("__classdict__" : Str))=false:=by decide):SE X (.Name x pos) (z6 i):=⟨⟨_,gD hN hv hd hcd,fun E hf q=>by
 obtain ⟨v,e,r⟩:=E.fr _ _ (Ui hf)
 exact ⟨v,e,q v _ _ (zM.refl E.ext.gh) r⟩⟩⟩
theorem kR (i:Nat) {x:Str} {pos:Pos} (hN:X.N[i]?=some x:=by rfl) (hv:tS X.env.scope x:=by first | exact Or.inl rfl | exact Or.inr (Or.inl rfl) | exact Or.inr (Or.inr rfl)) (hd:(x == ("__debug__" : Str))=false:=by decide)
  (hcd:(x == ("__classdict__" : Str))=false:=by decide):SB X (.Name x pos) (wp i):=⟨⟨_,gD hN hv hd hcd,fun E hf q=>by
 obtain ⟨b,hb⟩:=Uh hf
 cases b with
 | false=>
  obtain ⟨v,e,r⟩:=E.fr _ _ hb
  exact ⟨v,e,q v _ _ (zM.refl E.ext.gh) (r.mono E.ext.gh)⟩
 | true=>
  obtain ⟨p,e,_,_,o⟩:=E.ow _ _ hb
  exact ⟨_,e,q _ _ _ (zM.refl E.ext.gh) (o.rep E.ext.gh)⟩⟩⟩
theorem kn {v:V} {d:D} (h:PE X e (tC v)) (r:∀ H,zV X.K H d v):SE X e (eC d):=⟨⟨_,h,fun E hf q=>by
 cases hf
 exact q v _ _ (zM.refl E.ext.gh) (r _)⟩⟩
theorem zH {i k pos}:SE X (.Constant (.int i) k pos) (eC (.int i)):=kn Qr fun _=>rfl
theorem kj {i k pos}:SE X (.Constant (.bool i) k pos) (eC (.bl i)):=kn Dd fun _=>rfl
theorem kq {k pos}:SE X (.Constant .none k pos) (eC .non):=kn Dq fun _=>rfl
theorem zg {x k pos} (h:x.length<=1000:=by decide):SE X (.Constant (.str x) k pos) (eC (.str x)):=kn Du fun _=>⟨rfl,small h⟩
theorem vP {v:V} {d:D} (h:yt X.mg x v) (r:∀ H,zV X.K H d v) (hg:Gl X x) (hd:(x == ("__debug__" : Str))=false:=by decide):SE X (.Name x pos) (eC d):=kn (Wp h hg hd) r
noncomputable def wW (K:PySem.W.Frag) (r:R2) (F:D->D->Option D):Prop:=∀ G H x y u v d (Q:VK),zx G H->zV K G x u->zV K G y v->F x y=some d->(∀ w G' H',zM G H G' H'->zV K G' d w->Q w H')->r u v H Q
noncomputable def uG (K:PySem.W.Frag) (r:R2) (F:D->D->Option D):Prop:=∀ H x y u v d (Q:VK),zV K H x u->zV K H y v->F x y=some d->∃ k,d=.bl k/\(Q (.bl k) H->r u v H Q)
theorem zU {op:Operator} (ho:yC X (binaryOp op) r) (hF:wW X.K r F) (ha:SE X a fa) (hb:SE X b fb):SE X (.BinOp a op b pos) (e2 F fa fb):=by
 obtain ⟨ta,pa,ka⟩:=ha.h
 obtain ⟨tb,pb,kb⟩:=hb.h
 refine ⟨⟨_,Wr ho pa pb,fun E hf q=>?_⟩⟩
 obtain ⟨x,hx,hf⟩:=zJ hf
 obtain ⟨y,hy,hf⟩:=zJ hf
 refine ka E hx fun v G1 H1 x1 r1=>?_
 refine kb (E.go x1) hy fun u G2 H2 x2 r2=>?_
 exact hF G2 H2 x y v u _ _ x2.gh (r1.mono x2.g) r2 hf fun w G' H' x3 r3=>q w G' H' (x1.trans (x2.trans x3)) r3
theorem za (hr:vU X r) (hF:wW X.K r F) (ha:SE X a fa) (hb:SE X b fb) (hs:j7 b=true:=by rfl):SE X (.Subscript a b pos) (e2 F fa fb):=by
 obtain ⟨ta,pa,ka⟩:=ha.h
 obtain ⟨tb,pb,kb⟩:=hb.h
 refine ⟨⟨_,Wq hr pa pb (Wt hs),fun E hf q=>?_⟩⟩
 obtain ⟨x,hx,hf⟩:=zJ hf
 obtain ⟨y,hy,hf⟩:=zJ hf
 refine ka E hx fun v G1 H1 x1 r1=>?_
 refine kb (E.go x1) hy fun u G2 H2 x2 r2=>?_
 exact hF G2 H2 x y v u _ _ x2.gh (r1.mono x2.g) r2 hf fun w G' H' x3 r3=>q w G' H' (x1.trans (x2.trans x3)) r3
theorem ve {op:CmpOp} (ho:yC X (compareOp op) r) (hF:uG X.K r F) (ha:SB X a fa) (hb:SB X b fb) (hm:behindInMarks op b=false):SE X (.Compare a [op] [b] pos) (e2 F fa fb):=by
 obtain ⟨ta,pa,ka⟩:=ha.h
 obtain ⟨tb,pb,kb⟩:=hb.h
 refine ⟨⟨_,Dl ho pa pb hm,fun E hf q=>?_⟩⟩
 obtain ⟨x,hx,hf⟩:=zJ hf
 obtain ⟨y,hy,hf⟩:=zJ hf
 refine ka E hx fun v G1 H1 x1 r1=>?_
 refine kb (E.go x1) hy fun u G2 H2 x2 r2=>?_
 obtain ⟨k,rfl,z⟩:=hF H2 x y v u _ _ (r1.mono x2.h) r2 hf
 exact z (q _ _ _ (x1.trans x2) rfl)
theorem zr {op:CmpOp} (ho:yC X (compareOp op) r) (hF:uG X.K r F) (ha:SB X a fa) (hb:SB X b fb) (hm:behindInMarks op b=false):ST X (.Compare a [op] [b] pos) (tE (e2 F fa fb)):=by
 obtain ⟨ta,pa,ka⟩:=ha.h
 obtain ⟨tb,pb,kb⟩:=hb.h
 refine ⟨⟨_,Fh ho pa pb hm,fun E hf q=>?_⟩⟩
 obtain ⟨z,hz,hf⟩:=zJ hf
 obtain ⟨x,hx,hz⟩:=zJ hz
 obtain ⟨y,hy,hz⟩:=zJ hz
 refine ka E hx fun v G1 H1 x1 r1=>?_
 refine kb (E.go x1) hy fun u G2 H2 x2 r2=>?_
 obtain ⟨k,rfl,z⟩:=hF H2 x y v u _ _ (r1.mono x2.h) r2 hz
 cases hf
 exact z ⟨_,rfl,q _ _ (x1.trans x2)⟩
theorem vy (h:SE X e f) (he:Qw e=true:=by rfl):ST X e (tE f):=by
 obtain ⟨t,p,k⟩:=h.h
 refine ⟨⟨_,Fj p (FV he),fun E hf q=>?_⟩⟩
 obtain ⟨z,hz,hf⟩:=zJ hf
 refine k E hz fun v G' H' x r=>?_
 cases z<;>first | cases hf | skip
 cases r
 exact ⟨_,rfl,q _ _ x⟩
theorem qy (h:ST X a ft):SW X (.BoolOp .And [a] pos) ft:=⟨let ⟨t,p,k⟩:=h.h; ⟨t,Fq p,k⟩⟩
theorem X0 (h:ST X a ft):SW X (.BoolOp .Or [a] pos) ft:=⟨let ⟨t,p,k⟩:=h.h; ⟨t,Ft p,k⟩⟩
theorem qx (ha:ST X a ft) (hb:SW X (.BoolOp .And (b::yD) pos) fu):SW X (.BoolOp .And (a::b::yD) pos) (vB ft fu):=by
 obtain ⟨ta,pa,ka⟩:=ha.h
 obtain ⟨tb,pb,kb⟩:=hb.h
 refine ⟨⟨_,Fp pa pb,fun E hf q=>?_⟩⟩
 obtain ⟨k,hk,hf⟩:=zJ hf
 refine ka E hk fun G1 H1 x1=>?_
 cases k with
 | true=>exact ux (kb (E.go x1) hf fun G' H' x2=>q _ _ (x1.trans x2))
 | false=>cases hf; exact uw (q _ _ x1)
theorem Z2 (ha:ST X a ft) (hb:SW X (.BoolOp .Or (b::yD) pos) fu):SW X (.BoolOp .Or (a::b::yD) pos) (qA ft fu):=by
 obtain ⟨ta,pa,ka⟩:=ha.h
 obtain ⟨tb,pb,kb⟩:=hb.h
 refine ⟨⟨_,Fr pa pb,fun E hf q=>?_⟩⟩
 obtain ⟨k,hk,hf⟩:=zJ hf
 refine ka E hk fun G1 H1 x1=>?_
 cases k with
 | false=>exact uw (kb (E.go x1) hf fun G' H' x2=>q _ _ (x1.trans x2))
 | true=>cases hf; exact ux (q _ _ x1)
theorem u7 (h:SW X e ft):ST X e ft:=⟨let ⟨t,p,k⟩:=h.h; ⟨t,p.pt,k⟩⟩
theorem Yz (h:ST X a ft):ST X (.UnaryOp .Not a pos) (q5 ft):=by
 obtain ⟨ta,pa,ka⟩:=h.h
 refine ⟨⟨_,Fi pa,fun E hf q=>?_⟩⟩
 obtain ⟨k,hk,hf⟩:=zJ hf
 cases hf
 exact ka E hk fun G1 H1 x1=>q _ _ x1
theorem VJ {op} (h:SE X a f):SE X (.BoolOp op [a] pos) f:=⟨let ⟨t,p,k⟩:=h.h; ⟨t,Dr p,k⟩⟩
theorem Ja {K:PySem.W.Frag} {G:Hp} {z:D} {v:V} {k:Bool} (r:zV K G z v) (h:pQ z=some k):v=.bl k:=by
 cases z<;>first | cases h | skip
 exact r
theorem Jq (ha:SE X a fa) (hb:SE X (.BoolOp .And (b::yD) pos) fb):SE X (.BoolOp .And (a::b::yD) pos) (Zv fa fb):=by
 obtain ⟨ta,pa,ka⟩:=ha.h
 obtain ⟨tb,pb,kb⟩:=hb.h
 refine ⟨⟨_,Dc pa pb,fun E hf q=>?_⟩⟩
 obtain ⟨z,hz,hf⟩:=zJ hf
 obtain ⟨k,hk,hf⟩:=zJ hf
 refine ka E hz fun v G1 H1 x1 r1=>⟨k,Ja r1 hk,?_⟩
 cases k with
 | true=>exact ux (kb (E.go x1) hf fun v G' H' x2 r2=>q v _ _ (x1.trans x2) r2)
 | false=>cases hf; exact uw (q _ _ _ x1 rfl)
theorem Eb (ha:SE X a fa) (hb:SE X (.BoolOp .Or (b::yD) pos) fb):SE X (.BoolOp .Or (a::b::yD) pos) (Xt fa fb):=by
 obtain ⟨ta,pa,ka⟩:=ha.h
 obtain ⟨tb,pb,kb⟩:=hb.h
 refine ⟨⟨_,Ds pa pb,fun E hf q=>?_⟩⟩
 obtain ⟨z,hz,hf⟩:=zJ hf
 obtain ⟨k,hk,hf⟩:=zJ hf
 refine ka E hz fun v G1 H1 x1 r1=>⟨k,Ja r1 hk,?_⟩
 cases k with
 | false=>exact uw (kb (E.go x1) hf fun v G' H' x2 r2=>q v _ _ (x1.trans x2) r2)
 | true=>cases hf; exact ux (q _ _ _ x1 rfl)
theorem Yx (hc:ST X c ft) (ha:SE X a fa) (hb:SE X b fb):SE X (.IfExp c a b pos) (pU ft fa fb):=by
 obtain ⟨tc,pc,kc⟩:=hc.h
 obtain ⟨ta,pa,ka⟩:=ha.h
 obtain ⟨tb,pb,kb⟩:=hb.h
 refine ⟨⟨_,Do pc pa pb,fun E hf q=>?_⟩⟩
 obtain ⟨k,hk,hf⟩:=zJ hf
 refine kc E hk fun G1 H1 x1=>?_
 cases k with
 | true=>exact ux (ka (E.go x1) hf fun v G' H' x2 r2=>q v _ _ (x1.trans x2) r2)
 | false=>exact uw (kb (E.go x1) hf fun v G' H' x2 r2=>q v _ _ (x1.trans x2) r2)
theorem zI:SA X [] zD:=⟨⟨_,qg,fun E hf q=>by cases hf; exact q _ _ _ (zM.refl E.ext.gh) rfl⟩⟩
theorem zC (ha:SE X e f) (hr:SA X es fs) (h:yl e=true:=by rfl):SA X (e::es) (zB f fs):=by
 obtain ⟨ta,pa,ka⟩:=ha.h
 obtain ⟨tb,pb,kb⟩:=hr.h
 refine ⟨⟨_,gC pa pb h,fun E hf q=>?_⟩⟩
 obtain ⟨x,hx,hf⟩:=zJ hf
 obtain ⟨xs,hxs,hf⟩:=zJ hf
 cases hf
 refine ka E hx fun v G1 H1 x1 r1=>kb (E.go x1) hxs fun vs G2 H2 x2 r2=>?_
 exact q _ _ _ (x1.trans x2) ⟨v,vs,rfl,r1.mono x2.g,r2⟩
theorem xZ:pO X [] zD:=⟨⟨_,qg,fun E hf q=>by cases hf; exact q _ _ _ (zM.refl E.ext.gh) rfl⟩⟩
theorem xS (ha:SB X e f) (hr:pO X es fs) (h:yl e=true:=by rfl):pO X (e::es) (zB f fs):=by
 obtain ⟨ta,pa,ka⟩:=ha.h
 obtain ⟨tb,pb,kb⟩:=hr.h
 refine ⟨⟨_,gC pa pb h,fun E hf q=>?_⟩⟩
 obtain ⟨x,hx,hf⟩:=zJ hf
 obtain ⟨xs,hxs,hf⟩:=zJ hf
 cases hf
 refine ka E hx fun v G1 H1 x1 r1=>kb (E.go x1) hxs fun vs G2 H2 x2 r2=>?_
 exact q _ _ _ (x1.trans x2) ⟨v,vs,rfl,r1.mono x2.h,r2⟩
theorem EH {is:List Int} (h:intsOf es=some is):SA X es (fun _=>some (is.map D.int)):=⟨⟨_,Qn h,fun E hf q=>by cases hf; exact q _ _ _ (zM.refl E.ext.gh) Reps.ints⟩⟩
theorem xT {x1} (h:SA X es fs) (hl:∀ τ ds,fs τ=some ds->ds.length<=1000):SE X (.Tuple es x1 pos) (yu fs):=by
 obtain ⟨t,pt,k⟩:=h.h
 refine ⟨⟨_,Dv pt,fun E hf q=>?_⟩⟩
 obtain ⟨xs,hx,hf⟩:=zJ hf
 cases hf
 have l:xs.length<=sizeLine:=small (hl _ _ hx)
 refine k E hx fun vs G1 H1 x1 r1=>⟨by rw [r1.length]; exact l,fun p hp=>?_⟩
 exact q _ _ _ (x1.trans (zM.lay x1.gh hp)) ⟨p,vs,rfl,yU.of yQ,r1.mono (wJ (x1.gh.free hp) _),l⟩
theorem xC (h:SA X es fs) (hl:∀ τ ds,fs τ=some ds->ds.length<=1000):SF X (.List es pos) (yk fs):=by
 obtain ⟨t,pt,k⟩:=h.h
 refine ⟨⟨_,Yh pt,fun E hf q=>?_⟩⟩
 obtain ⟨xs,hx,hf⟩:=zJ hf
 cases hf
 have l:xs.length<=sizeLine:=small (hl _ _ hx)
 refine k E hx fun vs G1 H1 x1 r1=>⟨by rw [r1.length]; exact l,fun p hp=>?_⟩
 exact q _ _ _ (x1.trans (zM.layO x1.gh hp)) (x1.h.free hp) (x1.gh.free hp) ⟨vs,yQ,r1,l⟩
theorem y0:∀ (τ:zd) ds,zD τ=some ds->ds.length<=0:=fun _ _ h=>by cases h; exact Nat.le_refl _
theorem zT {n:Nat} (h:∀ τ ds,fs τ=some ds->ds.length<=n):∀ τ ds,zB f fs τ=some ds->ds.length<=n+1:=fun τ ds e=>by
 obtain ⟨x,_,e⟩:=zJ e
 obtain ⟨xs,hx,e⟩:=zJ e
 cases e
 exact Nat.succ_le_succ (h _ _ hx)
theorem O4 {is:List Int} {n:Nat} (h:is.length<=n):∀ (τ:zd) ds,(some (is.map D.int))=some ds->ds.length<=n:=fun _ _ e=>by
 cases e
 rw [List.length_map]
 exact h
theorem z_ {m n:Nat} (h:∀ τ ds,fs τ=some ds->ds.length<=m) (hmn:m<=n):∀ τ ds,fs τ=some ds->ds.length<=n:=fun τ ds e=>Nat.le_trans (h τ ds e) hmn
variable {ps:List Str} {j k:Nat} {FF:List D->Option (Bool×D)} {FL:List D->Option D} {id T:String}
theorem tJ (h:zN X.prog X.w X.K X.mg X.base x ps k (zO X.K FF)) (hr:yj j X.A) (hg:Gl X x) (ha:SA X (e::es) fs) (hk:k<=j:=by decide) (hdb:(x == ("__debug__" : Str))=false:=by decide)
  (he:(e::es).all yl=true:=by rfl):SF X (.Call (.Name x p) (e::es) [] pos) (vi FF fs):=by
 obtain ⟨t,pt,kt⟩:=ha.h
 refine ⟨⟨_,Ws h hr hg pt hk hdb he,fun E hf q=>?_⟩⟩
 obtain ⟨ds,hd,hf⟩:=zJ hf
 obtain ⟨⟨o,d⟩,hr,hf⟩:=zJ hf
 cases o with
 | false=>cases hf
 | true=>
  cases hf
  refine kt E hd fun vs G1 H1 x1 r1=>⟨G1,ds,true,_,x1.gh,by rw [List.append_nil]; exact r1,hr,fun p G' H' x2 hp gp o=>?_⟩
  exact q p G' H' (x1.trans x2) (x1.h.free hp) gp o
theorem zp (h:zN X.prog X.w X.K X.mg X.base x ps k (zO X.K FF)) (hr:yj j X.A) (hg:Gl X x) (ha:SA X (e::es) fs) (hk:k<=j:=by decide) (hdb:(x == ("__debug__" : Str))=false:=by decide)
  (he:(e::es).all yl=true:=by rfl):SE X (.Call (.Name x p) (e::es) [] pos) (zX FF fs):=by
 obtain ⟨t,pt,kt⟩:=ha.h
 refine ⟨⟨_,Ws h hr hg pt hk hdb he,fun E hf q=>?_⟩⟩
 obtain ⟨ds,hd,hf⟩:=zJ hf
 obtain ⟨⟨o,d⟩,hr,hf⟩:=zJ hf
 cases hf
 refine kt E hd fun vs G1 H1 x1 r1=>⟨G1,ds,o,d,x1.gh,by rw [List.append_nil]; exact r1,hr,?_⟩
 cases o with
 | false=>exact fun v G' H' x2 r=>q v G' H' (x1.trans x2) r
 | true=>
  intro p G' H' x2 hp gp o
  obtain ⟨u,hu,r⟩:=o.frz gp
  exact q _ _ _ (x1.trans (x2.frz hp gp hu)) r
theorem EX (h:zN X.prog X.w X.K X.mg X.base x ps k (zO X.K FF)) (hr:yj j X.A) (hg:Gl X x) (ha:pO X (e::es) fs) (hk:k<=j:=by decide) (hdb:(x == ("__debug__" : Str))=false:=by decide)
  (he:(e::es).all yl=true:=by rfl):SE X (.Call (.Name x p) (e::es) [] pos) (Zw FF fs):=by
 obtain ⟨t,pt,kt⟩:=ha.h
 refine ⟨⟨_,Ws h hr hg pt hk hdb he,fun E hf q=>?_⟩⟩
 obtain ⟨d0,h0,hf⟩:=zJ hf
 obtain ⟨ds,hd,h0⟩:=zJ h0
 obtain ⟨⟨o,d⟩,hr,h0⟩:=zJ h0
 cases h0
 by_cases fl:yG d=true
 ·rw [if_pos fl] at hf
  cases hf
  refine kt E hd fun vs G1 H1 x1 r1=>⟨H1,ds,o,d,zx.refl _,by rw [List.append_nil]; exact r1,hr,?_⟩
  have flat:∀ {G G':Hp} {v:V},zV X.K G d v->zV X.K G' d v:=fun {G G' v} r=>by
   cases d<;>first | exact r | exact absurd fl Bool.false_ne_true
  cases o with
  | false=>exact fun v G' H' x2 r=>q v G1 H' (x1.trans ⟨zx.refl _,x2.h,x1.gh.trans x2.h,fun _ z=>.inl z⟩) (flat r)
  | true=>
   intro p G' H' x2 hp gp o
   cases d<;>first | exact o.elim | exact absurd fl Bool.false_ne_true
 ·rw [if_neg fl] at hf
  cases hf
noncomputable def ZD (K:PySem.W.Frag) (r:List V->Hp->VK->Prop) (F:List D->Option D):Prop:=∀ G H ds vs d (Q:VK),zx G H->Reps K H ds vs->F ds=some d->(∀ w G' H',zM G H G' H'->zV K G' d w->Q w H')->r vs H Q
theorem w6 {rc:List V->Hp->VK->Prop} (hc:xi X (.builtin id) rc) (hF:ZD X.K rc FL) (hg:Gl X x) (hm:X.mg x=none) (hv:bootBuiltins x=some (.builtin id)) (ha:pO X (e::es) fs) (hn:x ≠ "__name__" := by decide) (hdb:(x == ("__debug__" : Str))=false:=by decide)
  (he:(e::es).all yl=true:=by rfl):SE X (.Call (.Name x p) (e::es) [] pos) (eL FL fs):=by
 obtain ⟨t,pt,kt⟩:=ha.h
 refine ⟨⟨_,(Wz hc hg hm hv ⟨pt⟩ hn hdb he).h,fun E hf q=>?_⟩⟩
 obtain ⟨ds,hd,hf⟩:=zJ hf
 exact kt E hd fun vs G1 H1 x1 r1=>hF G1 H1 ds vs _ _ x1.gh r1 hf fun w G' H' x2 r2=>q w G' H' (x1.trans x2) r2
theorem Jr {rc:List V->Hp->VK->Prop} (hc:xi X (.type T) rc) (hF:ZD X.K rc FL) (hg:Gl X x) (hm:X.mg x=none) (hv:bootBuiltins x=some (.type T)) (ha:pO X (e::es) fs) (hn:x ≠ "__name__" := by decide) (hdb:(x == ("__debug__" : Str))=false:=by decide)
  (he:(e::es).all yl=true:=by rfl):SE X (.Call (.Name x p) (e::es) [] pos) (eL FL fs):=by
 obtain ⟨t,pt,kt⟩:=ha.h
 refine ⟨⟨_,(j9 hc hg hm hv ⟨pt⟩ hn hdb he).h,fun E hf q=>?_⟩⟩
 obtain ⟨ds,hd,hf⟩:=zJ hf
 exact kt E hd fun vs G1 H1 x1 r1=>hF G1 H1 ds vs _ _ x1.gh r1 hf fun w G' H' x2 r2=>q w G' H' (x1.trans x2) r2
theorem tH {op:UnaryOp} {ru:V->Hp->VK->Prop} {F1:D->Option D} (ho:jZ X (unaryOp op) ru) (hF:∀ (G H:Hp) x u d (Q:VK),zV X.K G x u->F1 x=some d->∃ w,(∀ G,zV X.K G d w)/\(Q w H->ru u H Q)) (ha:SE X a fa):SE X (.UnaryOp op a pos) (e1 F1 fa):=by
 obtain ⟨t,pt,kt⟩:=ha.h
 refine ⟨⟨_,Dw ho pt,fun E hf q=>?_⟩⟩
 obtain ⟨x,hx,hf⟩:=zJ hf
 refine kt E hx fun v G1 H1 x1 r1=>?_
 obtain ⟨w,rw_,z⟩:=hF G1 H1 x v _ _ r1 hf
 exact z (q w _ _ x1 (rw_ _))
end
end L3
namespace L3
open PySem PySem.Spec PyProof.Rows L2
section
variable {X:Cx} {x:Str} {p pos pos' apos cpos:Pos} {e a b c tg iter elt:Expr} {es ifs:List Expr} {f fa fb:FE} {ft:FT} {fs:FA} {st:Stmt} {sts body:List Stmt} {g g':FS}
theorem yi:wg X [] yW:=⟨⟨_,J5,fun {_ _ G H τ σ fl E} K hf q=>by
 cases hf
 exact q σ G H K⟩⟩
theorem wL.with {K:PySem.W.Frag} {n:Nat} {G0 H0:Hp} {E E':wV} {fl:Fl} (h:wL K n G0 H0 E fl) (hn:∀ τ,fl=.nx τ->wL K n G0 H0 E' (.nx τ)) (hb:∀ τ,fl=.bk τ->wL K n G0 H0 E' (.bk τ)) (hc:∀ τ,fl=.ct τ->wL K n G0 H0 E' (.ct τ)) (hr:E'.rt=E.rt):wL K n G0 H0 E' fl:=by
 cases fl with
 | nx τ=>exact hn τ rfl
 | bk τ=>exact hb τ rfl
 | ct τ=>exact hc τ rfl
 | rt o d=>
  cases o with
  | false=>intro v G H x r; rw [hr]; exact h v G H x r
  | true=>intro v G H x r1 r2 r3; rw [hr]; exact h v G H x r1 r2 r3
theorem zP (h1:SS X st g) (h2:wg X sts g'):wg X (st::sts) (zE g g'):=by
 obtain ⟨t,p,k⟩:=h1.h
 obtain ⟨t',p',k'⟩:=h2.h
 refine ⟨⟨_,Yn p p',fun {G0 H0 G H τ σ fl E} K hf q=>?_⟩⟩
 obtain ⟨f1,h1,hf⟩:=zJ hf
 refine k K h1 ?_
 cases f1 with
 | nx τ'=>exact fun σ' G' H' K'=>k' K' hf q
 | bk τ'=>cases hf; exact q
 | ct τ'=>cases hf; exact q
 | rt o d=>cases hf; exact wL.with q (fun _ z=>nomatch z) (fun _ z=>nomatch z) (fun _ z=>nomatch z) rfl
theorem zW (h1:SS X st g):wg X [st] g:=⟨let ⟨t,p,k⟩:=h1.h; ⟨t,J6 p,k⟩⟩
theorem Yy (i:Nat) (h:wg X sts g):wg X sts (zE (qk i) g):=by
 obtain ⟨t,p,k⟩:=h.h
 refine ⟨⟨t,p,fun {G0 H0 G H τ σ fl E} K hf q=>?_⟩⟩
 obtain ⟨f1,h1,hf⟩:=zJ hf
 unfold qk at h1
 split at h1
 ·rename_i bb d hd
  cases h1
  obtain ⟨G',K',_⟩:=K.freeze hd
  exact k K' hf q
 ·cases h1
theorem zj {i:Nat} {x:Str} {pos':Pos} (hN:X.N.Nodup) (hi:X.N[i]?=some x) (hx:wM X.env.scope x) (he:SE X e f) (hs:t9 e=true:=by rfl) (hf:X.fn x=true\/X.env.scope.names.lookup x=some .local:=by first | exact .inl rfl | exact .inr rfl | assumption) :
  SS X (.Assign [.Name x pos'] e pos) (zS i f):=by
 obtain ⟨t,p,k⟩:=he.h
 refine ⟨⟨_,(jC hN hi hx ⟨p⟩ hs hf).h,fun {G0 H0 G H τ σ fl E} K hf q=>?_⟩⟩
 obtain ⟨d,hd,hf⟩:=zJ hf
 cases hf
 exact k K hd fun v G' H' x r=>q _ _ _ ((K.go x).set (List.getElem?_eq_some_iff.mp hi).1 r)
theorem vx {i:Nat} {x:Str} {pos':Pos} (hN:X.N.Nodup) (hi:X.N[i]?=some x) (hx:wM X.env.scope x) (he:SF X e f) (hs:t9 e=true:=by rfl) (hf:X.fn x=true\/X.env.scope.names.lookup x=some .local:=by first | exact .inl rfl | exact .inr rfl | assumption) :
  SS X (.Assign [.Name x pos'] e pos) (vO i f):=by
 obtain ⟨t,p,k⟩:=he.h
 refine ⟨⟨_,(jC hN hi hx ⟨p⟩ hs hf).h,fun {G0 H0 G H τ σ fl E} K hf q=>?_⟩⟩
 obtain ⟨d,hd,hf⟩:=zJ hf
 cases hf
 refine k K hd fun p G' H' x hp gp o=>q _ _ _ ((K.go x).setO (List.getElem?_eq_some_iff.mp hi).1 gp (K.ext.h.free hp) o ?_)
 exact K.newO hp
theorem yh (he:SE X e f):SS X (.Return (some e) pos) (ya f):=by
 obtain ⟨t,p,k⟩:=he.h
 refine ⟨⟨_,Ym p,fun {G0 H0 G H τ σ fl E} K hf q=>?_⟩⟩
 obtain ⟨d,hd,hf⟩:=zJ hf
 cases hf
 exact k K hd fun v G' H' x r=>q v _ _ (K.ext.trans x) r
theorem wB (he:SF X e f):SS X (.Return (some e) pos) (xq f):=by
 obtain ⟨t,p,k⟩:=he.h
 refine ⟨⟨_,Ym p,fun {G0 H0 G H τ σ fl E} K hf q=>?_⟩⟩
 obtain ⟨d,hd,hf⟩:=zJ hf
 cases hf
 exact k K hd fun p G' H' x hp gp o=>q p _ _ (K.ext.trans x) (K.ext.h.free hp) gp o
theorem qu (i:Nat) {x:Str} {pos':Pos} (hN:X.N[i]?=some x:=by rfl) (hv:tS X.env.scope x:=by first | exact Or.inl rfl | exact Or.inr (Or.inl rfl) | exact Or.inr (Or.inr rfl)) (hd:(x == ("__debug__" : Str))=false:=by decide)
  (hcd:(x == ("__classdict__" : Str))=false:=by decide):SS X (.Return (some (.Name x pos')) pos) (uU i):=by
 refine ⟨⟨_,Ym (gD hN hv hd hcd),fun {G0 H0 G H τ σ fl E} K hf q=>?_⟩⟩
 unfold uU at hf
 split at hf
 ·rename_i d he
  cases hf
  obtain ⟨p,e,g,z,o⟩:=K.ow _ _ he
  exact ⟨_,e,q p _ _ K.ext z g o⟩
 ·cases hf
theorem yY {sa sb:List Stmt} (hc:ST X c ft) (ha:wg X sa g) (hb:wg X sb g'):SS X (.If c sa sb pos) (yP ft g g'):=by
 obtain ⟨tc,pc,kc⟩:=hc.h
 obtain ⟨ta,pa,ka⟩:=ha.h
 obtain ⟨tb,pb,kb⟩:=hb.h
 refine ⟨⟨_,J2 pc pa pb,fun {G0 H0 G H τ σ fl E} K hf q=>?_⟩⟩
 obtain ⟨k,hk,hf⟩:=zJ hf
 refine kc K hk fun G1 H1 x1=>?_
 cases k with
 | true=>exact ux (ka (K.go x1) hf q)
 | false=>exact uw (kb (K.go x1) hf q)
theorem Z1 {ft:FT} (hp:PassesOwn (model X.prog X.w) X.A X.env X.xe) (hc:ST X c ft) (hb:wg X body g):SS X (.While c body [] pos) (uV ft g):=by
 obtain ⟨tc,pc,kc⟩:=hc.h
 obtain ⟨tb,pb,kb⟩:=hb.h
 refine ⟨⟨_,Fg hp pc pb,fun {G0 H0 G H τ σ fl E} K hf q=>?_⟩⟩
 refine ⟨fun m σ H=>∃ τ G,zf X.K X.N.length G0 H0 G H τ σ/\xr ft g m τ=some fl,⟨Z7,τ,G,K,hf⟩,?_⟩
 rintro m σ H ⟨τ,G,K,hf⟩
 cases m with
 | zero=>cases hf
 | succ n=>
  obtain ⟨k,hk,hf⟩:=zJ (show (ft τ).bind _=_ from hf)
  refine kc K hk fun G1 H1 x1=>?_
  cases k with
  | false=>
   cases hf
   exact uw (q _ _ _ (K.go x1))
  | true=>
   obtain ⟨f1,h1,hf⟩:=zJ (show (g τ).bind _=_ from hf)
   refine ux ⟨fun σ' H'=>∃ τ G,zf X.K X.N.length G0 H0 G H' τ σ'/\xr ft g n τ=some fl,fun σ' H' z=>⟨n,Nat.lt_succ_self n,z⟩,kb (K.go x1) h1 ?_⟩
   cases f1 with
   | nx τ2=>exact fun σ2 G2 H2 K2=>⟨τ2,G2,K2,hf⟩
   | ct τ2=>exact fun σ2 G2 H2 K2=>⟨τ2,G2,K2,hf⟩
   | bk τ2=>cases hf; exact q
   | rt o d=>cases hf; exact wL.with q (fun _ z=>nomatch z) (fun _ z=>nomatch z) (fun _ z=>nomatch z) rfl
theorem wL.near {K:PySem.W.Frag} {n:Nat} {G0 H0 Ga Ha:Hp} {E:wV} {fl:Fl} (x:zM G0 H0 Ga Ha) (h:wL K n G0 H0 E fl):wL K n Ga H0 E fl:=by
 cases fl with
 | nx τ=>exact fun σ G H z=>h σ G H (zf.near x z)
 | bk τ=>exact fun σ G H z=>h σ G H (zf.near x z)
 | ct τ=>exact fun σ G H z=>h σ G H (zf.near x z)
 | rt o d=>
  cases o with
  | false=>exact fun v G H y r=>h v G H (x.rebase y) r
  | true=>exact fun p G H y r1 r2 r3=>h p G H (x.rebase y) r1 r2 r3
structure SG (X:Cx) (tg:Expr) (fg:FG):Prop where
 h:∃ t,PG X tg t/\∀ {G0 H0 G H:Hp} {τ τ':zd} {σ:St} {d:D} {v:V} {Q:St->Hp->Prop},zf X.K X.N.length G0 H0 G H τ σ->zV X.K G d v->fg d τ=some τ'->(∀ σ',zf X.K X.N.length G0 H0 G H τ' σ'->Q σ' H)->t v σ H Q
theorem uW {i:Nat} {x:Str} (h:QG X (.Name x pos) (xz i)) (hi:X.N[i]?=some x):SG X (.Name x pos) (zh i):=⟨⟨_,h.h,fun K r hf q=>by
 cases hf
 exact q _ (K.set (List.getElem?_eq_some_iff.mp hi).1 r)⟩⟩
theorem El {i j:Nat} {x y:Str} {p1 p2:Pos} {kk:Nat} (h:QG X (.Tuple [.Name x p1,.Name y p2] kk pos) (pd X.K 2 (uN (xz i) (uN (xz j) pZ)))) (hi:X.N[i]?=some x) (hj:X.N[j]?=some y):SG X (.Tuple [.Name x p1,.Name y p2] kk pos) (xW i j):=⟨⟨_,h.h,fun {G0 H0 G H τ τ' σ d v Q} K r hf q=>by
 unfold xW at hf
 split at hf
 ·rename_i d1 d2
  cases hf
  obtain ⟨a,vs,rfl,sq,⟨v1,r1,rfl,h1,⟨v2,r2,rfl,h2,h3⟩⟩,_⟩:=r
  cases (show r2=[] from h3)
  refine ⟨a,_,rfl,v3 K.ext.gh sq,rfl,v1,_,rfl,v2,_,rfl,rfl,?_⟩
  exact q _ ((K.set (List.getElem?_eq_some_iff.mp hi).1 h1).set (List.getElem?_eq_some_iff.mp hj).1 h2)
 ·cases hf⟩⟩
theorem vw {fg:FG} (hp:PassesOwn (model X.prog X.w) X.A X.env X.xe) (hc:X.calm=true) (hi:SI X tg iter fs) (hg:SG X tg fg) (hb:wg X body g) (hs:∀ x,foldedSetIterable iter X.env x=pure x:=by intro _; rfl):SS X (.For tg iter body [] pos) (vA fs fg g):=by
 obtain ⟨ti,pi,ki⟩:=hi.h
 obtain ⟨tg',pg,kg⟩:=hg.h
 obtain ⟨tb,pb,kb⟩:=hb.h
 refine ⟨⟨_,Ww hp hc pi pg pb hs,fun {G0 H0 G H τ σ fl E} K hf q=>?_⟩⟩
 obtain ⟨ds,hd,hf⟩:=zJ hf
 refine ki K hd fun J Ga Ha xa _ wk=>?_
 have Ka:=K.go xa
 have q':=wL.near Ka.ext q
 refine ⟨fun i m σ H=>m=ds.length - i/\i<=ds.length/\∃ τ G,zf X.K X.N.length Ga H0 G H τ σ/\wu fg g (ds.drop i) τ=some fl,⟨ds.length,rfl,Nat.zero_le _,τ,Ga,Ka.far,hf⟩,?_⟩
 rintro i m σ H ⟨rfl,hle,τ,G,K,hf⟩
 by_cases hlt:i<ds.length
 ·refine .inr ⟨wk.go i G H K.ext.g K.ext.gh hlt,fun σ' H'=>∃ τ G,zf X.K X.N.length Ga H0 G H' τ σ'/\wu fg g (ds.drop (i+1)) τ=some fl,fun σ' H' z=>⟨ds.length - (i+1),by omega,rfl,hlt,z⟩,fun x H' y=>?_⟩
  obtain ⟨G3,d,x3,ed,rd⟩:=wk.yld i G H x H' K.ext.g K.ext.gh hlt y
  rw [List.drop_eq_getElem_cons hlt] at hf
  rw [List.getElem?_eq_getElem hlt] at ed
  cases ed
  obtain ⟨τ1,h1,hf⟩:=zJ (show (fg _ τ).bind _=_ from hf)
  obtain ⟨f1,h2,hf⟩:=zJ hf
  refine kg (K.go x3) rd h1 fun σ1 K1=>kb K1 h2 ?_
  cases f1 with
  | nx τ2=>exact fun σ2 G2 H2 K2=>⟨τ2,G2,K2,hf⟩
  | ct τ2=>exact fun σ2 G2 H2 K2=>⟨τ2,G2,K2,hf⟩
  | bk τ2=>cases hf; exact q'
  | rt o d=>cases hf; exact wL.with q' (fun _ z=>nomatch z) (fun _ z=>nomatch z) (fun _ z=>nomatch z) rfl
 ·have e:ds.drop i=[]:=List.drop_eq_nil_of_le (by omega)
  rw [e] at hf
  cases hf
  exact .inl ⟨wk.stop i G H K.ext.g K.ext.gh (by omega),q' _ _ _ K⟩
theorem M9 {K:PySem.W.Frag} {G:Hp} {lo:Int} {n:Nat}:tT K (ZA lo n) G ((List.range n).map fun k:Nat=>D.int (lo+k)) where
 go:=fun i G2 H _ _ hi=>by
  show i<n
  simpa using hi
 yld:=fun i G2 H x H' _ g2 hi y=>by
  obtain ⟨rfl,rfl⟩:=y
  exact ⟨G2,.int (lo+i),zM.refl g2,by simp at hi; simp [hi],rfl⟩
 stop:=fun i G2 H _ _ hi=>by
  show n<=i
  simpa using hi
theorem uX (hg:Gl X "range") (hm:X.mg "range" = none) (ha:SE X a fa) (hs:yl a=true:=by rfl):SI X tg (.Call (.Name "range" p) [a] [] pos) (vI (eC (.int 0)) fa):=by
 obtain ⟨t,pt,k⟩:=(zC ha zI hs).h
 refine ⟨⟨_,FH hg hm pt (uY hs),fun {G0 H0 G H τ σ ds R} K hf q=>?_⟩⟩
 obtain ⟨x,hx,hf⟩:=zJ hf
 cases hx
 obtain ⟨y,hy,hf⟩:=zJ hf
 refine k K (ds:=[y]) (by unfold zB; rw [hy]; rfl) fun vs G1 H1 x1 r1=>?_
 cases y<;>first | cases hf | skip
 rename_i j
 obtain ⟨v,r,rfl,hv,hr⟩:=r1
 cases (show r=[] from hr)
 cases (show v=.int j from hv)
 change (if (0:Int).natAbs<=zu/\j.natAbs<=zu/\(j - 0).toNat<=zu then _ else _)=_ at hf
 by_cases c:(0:Int).natAbs<=zu/\j.natAbs<=zu/\(j - 0).toNat<=zu
 ·rw [if_pos c] at hf
  cases hf
  have c2:j.natAbs<=16777216:=c.2.1
  have c3:(j - 0).toNat<=16777216:=c.2.2
  refine ⟨j,rfl,by omega,by omega,q _ _ _ x1 ?_ ?_⟩
  ·rw [List.length_map,List.length_range,sizeLine_eq]; omega
  ·have e:(j - 0).toNat=j.toNat:=by omega
   rw [e]
   exact M9
 ·rw [if_neg c] at hf
  cases hf
theorem Mq {K:PySem.W.Frag} {G:Hp} {a:Addr} {vs:List V} {ds:List D} (sq:zy K G a vs) (r:Reps K G ds vs):tT K (XN K a) G ds where
 go:=fun i G2 H g1 g2 hi=>by
  obtain ⟨v,e,_⟩:=r.get (List.getElem?_eq_getElem hi)
  exact ⟨vs,v,wA (g1.trans g2) sq,e⟩
 yld:=fun i G2 H x H' g1 g2 hi y=>by
  obtain ⟨rfl,y⟩:=y
  have e:=y vs (wA (g1.trans g2) sq)
  obtain ⟨d,ed,rd⟩:=r.at e
  exact ⟨G2,d,zM.refl g2,ed,rd.mono g1⟩
 stop:=fun i G2 H g1 g2 hi=>⟨vs,wA (g1.trans g2) sq,by rw [r.length]; exact hi⟩
theorem Gv {K:PySem.W.Frag} {G:Hp} {a:Addr} {vs:List V} {ds:List D} (sq:yU K G a vs) (r:Reps K G ds vs):tT K (XO K a) G ds where
 go:=fun i G2 H g1 g2 hi=>by
  obtain ⟨v,e,_⟩:=r.get (List.getElem?_eq_getElem hi)
  exact ⟨vs,v,v3 (g1.trans g2) sq,e⟩
 yld:=fun i G2 H x H' g1 g2 hi y=>by
  obtain ⟨rfl,y⟩:=y
  have e:=y vs (v3 (g1.trans g2) sq)
  obtain ⟨d,ed,rd⟩:=r.at e
  exact ⟨G2,d,zM.refl g2,ed,rd.mono g1⟩
 stop:=fun i G2 H g1 g2 hi=>⟨vs,v3 (g1.trans g2) sq,by rw [r.length]; exact hi⟩
theorem GO {K:PySem.W.Frag} {G:Hp} {z:Str}:tT K (ZB z) G (z.cps.toList.map fun c=>D.str ⟨#[c]⟩) where
 go:=fun i G2 H _ _ hi=>by
  rw [List.length_map,Array.length_toList] at hi
  exact hi
 yld:=fun i G2 H x H' _ g2 hi y=>by
  obtain ⟨rfl,c,ec,rfl⟩:=y
  refine ⟨G2,.str ⟨#[c]⟩,zM.refl g2,?_,rfl,small (n:=1) (by decide)⟩
  rw [List.getElem?_map,Array.getElem?_toList,ec]
  rfl
 stop:=fun i G2 H _ _ hi=>by
  rw [List.length_map,Array.length_toList] at hi
  exact hi
theorem PI.or {w1 w2:TI} (h1:PI X tg e w1) (h2:PI X tg e w2):PI X tg e (fun σ H R=>w1 σ H R\/w2 σ H R):=fun pins s σ H R I q=>by
 rcases q with q | q
 ·exact h1 pins s σ H R I q
 ·exact h2 pins s σ H R I q
theorem w8 (h:SE X e f):SI X tg e (xc f):=by
 obtain ⟨t,p,k⟩:=h.h
 refine ⟨⟨_,PI.or (FD p) (PI.or (Qs p) (FI p)),fun {G0 H0 G H τ σ ds R} K hf q=>?_⟩⟩
 obtain ⟨d,hd,hf⟩:=zJ hf
 cases d<;>first | cases hf | skip
 ·rename_i z
  refine .inr (.inr (k K hd fun v G' H' x r=>?_))
  obtain ⟨rfl,l⟩:=r
  exact ⟨z,rfl,q _ _ _ x (by rw [List.length_map,Array.length_toList]; exact l) GO⟩
 ·refine .inr (.inl (k K hd fun v G' H' x r=>?_))
  obtain ⟨a,vs,rfl,sq,rs,l⟩:=r
  exact ⟨a,rfl,⟨vs,v3 x.gh sq⟩,q _ _ _ x l (Gv sq rs)⟩
 ·refine .inl (k K hd fun v G' H' x r=>?_)
  obtain ⟨a,vs,rfl,sq,rs,l⟩:=r
  exact ⟨a,rfl,⟨vs,wA x.gh sq⟩,q _ _ _ x l (Mq sq rs)⟩
end
noncomputable def VX (K:PySem.W.Frag) (n:Nat) (f:FE):TE:=fun σ H Q=>∃ G0 H0 G τ d,zf K n G0 H0 G H τ σ/\f τ=some d/\∀ v G' H',zM G H G' H'->zV K G' d v->Q v H'
noncomputable def X5 (K:PySem.W.Frag) (n:Nat) (f:FT):TT:=fun σ H Q=>∃ G0 H0 G τ d,zf K n G0 H0 G H τ σ/\f τ=some d/\∀ G' H',zM G H G' H'->Q d H'
structure jW (X:Cx) (es:List Expr) (f:FT):Prop where
 h:qN X es (X5 X.K X.N.length f)
section
variable {X:Cx} {e c:Expr} {f:FE} {ft:FT}
theorem SE.pe (h:SE X e f):PE X e (VX X.K X.N.length f):=fun pins s σ H Q I q=>by
 obtain ⟨t,p,k⟩:=h.h
 obtain ⟨G0,H0,G,τ,d,K,hf,z⟩:=q
 exact p pins s σ H Q I (k K hf z)
theorem ST.pt (h:ST X e ft):PT X e (X5 X.K X.N.length ft):=fun pins s σ H Q I q=>by
 obtain ⟨t,p,k⟩:=h.h
 obtain ⟨G0,H0,G,τ,d,K,hf,z⟩:=q
 exact p pins s σ H Q I (k K hf z)
theorem vz:jW X [] xV:=⟨fun pins s σ H Q I q=>by
 obtain ⟨G0,H0,G,τ,d,K,hf,z⟩:=q
 cases hf
 exact J7 pins s σ H Q I (z _ _ (zM.refl K.ext.gh))⟩
theorem tK (h:ST X c ft):jW X [c] ft:=⟨Fk h.pt⟩
end
theorem zf.more {K:PySem.W.Frag} {n:Nat} {G0 H0 G H:Hp} {τ:zd} {σ:St} (k:Nat) (E:zf K n G0 H0 G H τ σ):zf K (n+k) G0 H0 G H (τ++List.replicate k none) (σ++List.replicate k none):=by
 have at_:∀ {i:Nat} {s:Sl},(τ++List.replicate k none)[i]?=some (some s)->τ[i]?=some (some s)/\(σ++List.replicate k none)[i]?=σ[i]?:=fun {i s} h=>by
  have h':=Y5 h
  have hi:i<n:=E.lt h'
  exact ⟨h',List.getElem?_append_left (by rw [E.l1]; exact hi)⟩
 refine ⟨E.ext,by rw [List.length_append,List.length_replicate,E.l1],by rw [List.length_append,List.length_replicate,E.l2],fun i d h=>?_,fun i d h=>?_,fun i j d e p hne h1 h2 h3 h4=>?_⟩
 ·obtain ⟨h',e⟩:=at_ h
  rw [e]
  exact E.fr i d h'
 ·obtain ⟨h',e⟩:=at_ h
  rw [e]
  exact E.ow i d h'
 ·obtain ⟨h1',e1⟩:=at_ h1
  obtain ⟨h2',e2⟩:=at_ h2
  rw [e1] at h3
  rw [e2] at h4
  exact E.ap i j d e p hne h1' h2' h3 h4
theorem Tx {K:PySem.W.Frag} {n k:Nat} {G0 H0 Ga Ha:Hp} {τ:zd} {σ:St} {J:It} {ds out:List D} {g:TG} {fg:FG} {ft:FT} {f:FE} {Fin:List V->Hp->Prop} (wk:tT K J Ga ds) (hl:ds.length<=sizeLine) (Ka:zf K n G0 H0 Ga Ha τ σ)
  (hf:xX fg ft f (τ++List.replicate k none) ds=some out)
  (kg:∀ G H d v τ' (Q:St->Hp->Prop),zf K (n+k) G0 H0 G H (τ++List.replicate k none) (σ++List.replicate k none)->zV K G d v->fg d (τ++List.replicate k none)=some τ'->(∀ ρ,zf K (n+k) G0 H0 G H τ' (σ++ρ)->Q (σ++ρ) H)->g v (σ++List.replicate k none) H Q)
  (fin:∀ ys G H,zM Ga Ha G H->Reps K G out ys->out.length<=sizeLine->Fin ys H) :
  ∃ W:Nat->Nat->List V->Hp->Prop,(∃ m,W 0 m [] Ha)/\jv σ k J g (X5 K (n+k) ft) (VX K (n+k) f) W Fin:=by
 refine ⟨fun i m ys H=>m=ds.length - i/\i<=ds.length/\ys.length<=i/\∃ G done yD,zM Ga Ha G H/\Reps K G done ys/\xX fg ft f (τ++List.replicate k none) (ds.drop i)=some yD/\done++yD=out,⟨ds.length,rfl,Nat.zero_le _,Nat.le_refl _,Ga,[],out,zM.refl Ka.ext.gh,rfl,hf,rfl⟩,?_⟩
 rintro i m ys H ⟨rfl,hle,hys,G,done,yD,x,rd,hf,eo⟩
 by_cases hlt:i<ds.length
 ·refine .inr ⟨wk.go i G H x.g x.gh hlt,by omega,fun ys H=>ys.length<=i+1/\∃ G done yD,zM Ga Ha G H/\Reps K G done ys/\xX fg ft f (τ++List.replicate k none) (ds.drop (i+1))=some yD/\done++yD=out,fun ys' H' z=>⟨ds.length - (i+1),by omega,rfl,hlt,z.1,z.2⟩,fun v H' y=>?_⟩
  obtain ⟨G3,d,x3,ed,rv⟩:=wk.yld i G H v H' x.g x.gh hlt y
  rw [List.drop_eq_getElem_cons hlt] at hf
  rw [List.getElem?_eq_getElem hlt] at ed
  cases ed
  obtain ⟨τ1,h1,hf⟩:=zJ (show (fg _ _).bind _=_ from hf)
  obtain ⟨kk,h2,hf⟩:=zJ hf
  have K3:=((Ka.go x).go x3).more k
  refine kg G3 H' _ v τ1 _ K3 rv h1 fun ρ K4=>⟨⟨ρ,rfl⟩,_,_,_,_,kk,K4,h2,fun G5 H5 x5=>?_⟩
  cases kk with
  | false=>exact uw ⟨by omega,G5,done,yD,x.trans (x3.trans x5),rd.mono (x3.g.trans x5.g),hf,eo⟩
  | true=>
   obtain ⟨z,hz,hf⟩:=zJ (show (f _).bind _=_ from hf)
   obtain ⟨more,hm,hf⟩:=zJ hf
   cases hf
   refine ux ⟨_,_,_,_,z,K4.go x5,hz,fun u G6 H6 x6 r6=>⟨by rw [List.length_append]; exact Nat.succ_le_succ hys,G6,done++[z],more,x.trans (x3.trans (x5.trans x6)),(rd.mono (x3.g.trans (x5.g.trans x6.g))).append (Reps.one r6),hm,?_⟩⟩
   rw [List.append_assoc]
   exact eo
 ·have e:ds.drop i=[]:=List.drop_eq_nil_of_le (by omega)
  rw [e] at hf
  cases hf
  rw [List.append_nil] at eo
  subst eo
  refine .inl ⟨wk.stop i G H x.g x.gh (by omega),fin ys G H x rd ?_⟩
  rw [<- rd.length]
  omega
section
variable {X:Cx} {tg iter elt:Expr} {ifs:List Expr} {scope:Scope} {cl:List (Str×Addr)} {own:List Str} {pos:Pos} {fs:FA} {fg:FG} {ft:FT} {f:FE} {g:TG}
theorem VL {α:Type} (xs:List α) (y:α) (ys:List α) {n:Nat} (h:n=xs.length) (z:α):(xs++y::ys).set n z=xs++z::ys:=by
 subst h
 rw [List.set_append_right _ _ (Nat.le_refl _),Nat.sub_self]
 rfl
structure BG (X:Cx) (scope:Scope) (cl:List (Str×Addr)) (own:List Str) (tg:Expr) (g:TG) (fg:FG):Prop where
 q:∀ C s H fp pn,QG (xK X scope cl own C s H fp pn) tg g
 k:∀ {G0 H0:Hp} {τ:zd} {σ:St},τ.length=X.N.length->σ.length=X.N.length->∀ G H d v τ' (Q:St->Hp->Prop),zf X.K (X.N.length+own.length) G0 H0 G H (τ++List.replicate own.length none) (σ++List.replicate own.length none)->zV X.K G d v->fg d (τ++List.replicate own.length none)=some τ'->
  (∀ ρ,zf X.K (X.N.length+own.length) G0 H0 G H τ' (σ++ρ)->Q (σ++ρ) H)->g v (σ++List.replicate own.length none) H Q
theorem wO {x:Str} {i:Nat} (q:∀ C s H fp pn,QG (xK X scope cl [x] C s H fp pn) tg (xz i)) (hi:i=X.N.length):BG X scope cl [x] tg (xz i) (zh i):=⟨q,fun {G0 H0 τ σ} l1 l2 G H d v τ' Q E r hf k=>by
 cases hf
 have E':=E.set (i:=i) (v:=v) (by rw [hi]; exact Nat.lt_succ_self _) r
 have es:(σ++List.replicate 1 none).set i (some v)=σ++[some v]:=VL σ none [] (hi.trans l2.symm) (some v)
 show Q ((σ++List.replicate 1 none).set i (some v)) H
 rw [es]
 refine k [some v] ?_
 rw [<- es]
 exact E'⟩
theorem Zs {x y:Str} {i j:Nat} (q:∀ C s H fp pn,QG (xK X scope cl [x,y] C s H fp pn) tg (pd X.K 2 (uN (xz i) (uN (xz j) pZ)))) (hi:i=X.N.length) (hj:j=X.N.length+1):BG X scope cl [x,y] tg (pd X.K 2 (uN (xz i) (uN (xz j) pZ))) (xW i j):=⟨q,fun {G0 H0 τ σ} l1 l2 G H d v τ' Q E r hf k=>by
 unfold xW at hf
 split at hf
 ·rename_i d1 d2
  cases hf
  obtain ⟨a,vs,rfl,sq,⟨v1,r1,rfl,h1,⟨v2,r2,rfl,h2,h3⟩⟩,_⟩:=r
  cases (show r2=[] from h3)
  have E':=(E.set (i:=i) (v:=v1) (by rw [hi]; exact Nat.lt_add_of_pos_right (Nat.succ_pos _)) h1).set (i:=j) (v:=v2) (by rw [hj]; exact Nat.lt_succ_self _) h2
  have es:((σ++List.replicate 2 none).set i (some v1)).set j (some v2)=σ++[some v1,some v2]:=by
   have e1:(σ++List.replicate 2 none).set i (some v1)=σ++[some v1,none]:=VL σ none [none] (hi.trans l2.symm) (some v1)
   rw [e1]
   have e2:σ++[some v1,none]=(σ++[some v1])++[none]:=by simp
   rw [e2,VL (σ++[some v1]) none [] (by rw [List.length_append,hj,l2]; rfl) (some v2)]
   simp
  refine ⟨a,_,rfl,v3 E.ext.gh sq,rfl,v1,_,rfl,v2,_,rfl,rfl,?_⟩
  show Q (((σ++List.replicate 2 none).set i (some v1)).set j (some v2)) H
  rw [es]
  refine k [some v1,some v2] ?_
  rw [<- es]
  exact E'
 ·cases hf⟩
theorem UF (X:Cx) (own:List Str):(xB X.N own).length=X.N.length+own.length:=by
 unfold xB
 rw [List.length_append,List.length_map]
theorem UI {C:Addr} {s:Shared} {H:Hp} {fp:List Addr} {pn:List (Addr×Obj)} (h:SE (xK X scope cl own C s H fp pn) elt f):PE (xK X scope cl own C s H fp pn) elt (VX X.K (X.N.length+own.length) f):=by
 have q:=h.pe
 rw [show (xK X scope cl own C s H fp pn).N.length=X.N.length+own.length from UF X own] at q
 exact q
theorem UJ {C:Addr} {s:Shared} {H:Hp} {fp:List Addr} {pn:List (Addr×Obj)} (h:jW (xK X scope cl own C s H fp pn) ifs ft):qN (xK X scope cl own C s H fp pn) ifs (X5 X.K (X.N.length+own.length) ft):=by
 have q:=h.h
 rw [show (xK X scope cl own C s H fp pn).N.length=X.N.length+own.length from UF X own] at q
 exact q
theorem wT (hcalm:X.calm=true) (B:qD X scope cl own) (hi:SI X tg iter fs) (hg:BG X scope cl own tg g fg) (hc:∀ C s H fp pn,jW (xK X scope cl own C s H fp pn) ifs ft)
  (he:∀ C s H fp pn,SE (xK X scope cl own C s H fp pn) elt f) (hs:∀ x,foldedSetIterable iter X.env x=pure x:=by intro _; rfl) :
  SF X (.ListComp elt [⟨tg,iter,ifs,0⟩] scope pos) (xP own.length fs fg ft f):=by
 obtain ⟨ti,pi,ki⟩:=hi.h
 refine ⟨⟨_,Dp hcalm B pi (fun C s H fp pn=>(hg.q C s H fp pn).h) (fun C s H fp pn=>UJ (hc C s H fp pn)) (fun C s H fp pn=>UI (he C s H fp pn)) hs,fun {G0 H0 G H τ σ d Q} K hf q=>?_⟩⟩
 obtain ⟨ds,hd,hf⟩:=zJ hf
 obtain ⟨out,ho,hf⟩:=zJ hf
 cases hf
 refine ki K hd fun J Ga Ha xa l wk=>Tx wk l (K.go xa) ho (hg.k K.l2 K.l1) fun ys G1 H1 x1 r1 l1 p hp=>?_
 exact q p _ _ (xa.trans (x1.trans (zM.layO x1.gh hp))) (xa.h.free (x1.h.free hp)) (x1.gh.free hp) ⟨ys,yQ,r1,l1⟩
theorem VQ {i:Nat} {x:Str} {px spos:Pos} (hcalm:X.calm=true) (hN:X.N.Nodup) (hix:X.N[i]?=some x) (hx:X.env.scope.names.lookup x=some .local) (B:qD X scope cl own)
  (hsw:swapsWith (.ListComp elt [⟨tg,iter,ifs,0⟩] scope pos) (some (.Name x px)) spos.line X.env=pure true) (hi:SI X tg iter fs) (hg:BG X scope cl own tg g fg) (hc:∀ C s H fp pn,jW (xK X scope cl own C s H fp pn) ifs ft)
  (he:∀ C s H fp pn,SE (xK X scope cl own C s H fp pn) elt f) (hs:∀ x,foldedSetIterable iter X.env x=pure x:=by intro _; rfl) :
  SS X (.Assign [.Name x px] (.ListComp elt [⟨tg,iter,ifs,0⟩] scope pos) spos) (zS i (xP own.length fs fg ft f)):=by
 obtain ⟨ti,pi,ki⟩:=hi.h
 refine ⟨⟨_,J4 hcalm hN hix hx B hsw pi (fun C s H fp pn=>(hg.q C s H fp pn).h) (fun C s H fp pn=>UJ (hc C s H fp pn)) (fun C s H fp pn=>UI (he C s H fp pn)) hs,fun {G0 H0 G H τ σ fl E} K hf q=>?_⟩⟩
 obtain ⟨d,hf1,hf⟩:=zJ hf
 cases hf
 obtain ⟨ds,hd,hf1⟩:=zJ hf1
 obtain ⟨out,ho,hf1⟩:=zJ hf1
 cases hf1
 refine ki K hd fun J Ga Ha xa l wk=>Tx wk l (K.go xa) ho (hg.k K.l2 K.l1) fun ys G1 H1 x1 r1 l1 p hp=>?_
 have K2:=((K.go xa).go x1).go (zM.lay (o:=.lst ys) x1.gh hp)
 exact q _ _ _ (K2.set (List.getElem?_eq_some_iff.mp hix).1 ⟨p,ys,rfl,zy.of yQ,r1.mono (wJ (x1.gh.free hp) _),l1⟩)
end
section
variable {K:PySem.W.Frag} {n:Nat} {G0 H0 G H:Hp} {τ:zd} {σ:St}
theorem zf.mut {i:Nat} {d d':D} {p:Addr} {o:HO} (E:zf K n G0 H0 G H τ σ) (hi:τ[i]?=some (some (true,d))) (hp:σ[i]?=some (some (.ref p))) (new:wc K G (ze H p o) d' p):zf K n G0 H0 G (ze H p o) (τ.set i (some (true,d'))) σ:=by
 obtain ⟨p',e,g,z,_⟩:=E.ow i d hi
 rw [hp] at e
 cases e
 have keep:∀ {H1:Hp},H1 p=none->zx H1 H->zx H1 (ze H p o):=fun {H1} h s b u q=>by
  rw [yE (wY q h)]
  exact s _ _ q
 refine ⟨⟨E.ext.g,keep z E.ext.h,keep g E.ext.gh,E.ext.new⟩,E.l1,by rw [List.length_set]; exact E.l2,fun j e h=>?_,fun j e h=>?_,fun j k e f q hne h1 h2 h3 h4=>?_⟩
 ·rcases xb h with ⟨rfl,w⟩ | ⟨ne,w⟩
  ·cases w
  ·exact E.fr j e w
 ·rcases xb h with ⟨rfl,w⟩ | ⟨ne,w⟩
  ·cases w
   exact ⟨p,hp,g,z,new⟩
  ·obtain ⟨q,eq,gq,zq,oq⟩:=E.ow j e w
   refine ⟨q,eq,gq,zq,?_⟩
   have hne:q≠p:=fun c=>by
    subst c
    exact E.ap i j d e q (fun c=>ne c.symm) hi w hp eq
   cases e with
   | lst ds=>obtain ⟨vs,ev,r⟩:=oq; exact ⟨vs,by rw [yE hne]; exact ev,r⟩
   | dic ks ds=>obtain ⟨vs,ev,r⟩:=oq; exact ⟨vs,by rw [yE hne]; exact ev,r⟩
   | _=>exact oq.elim
 ·have t:∀ {j:Nat} {e:D},(τ.set i (some (true,d')))[j]?=some (some (true,e))->∃ e,τ[j]?=some (some (true,e)):=fun {j e} h=>by
   rcases xb h with ⟨rfl,_⟩ | ⟨_,w⟩
   ·exact ⟨_,hi⟩
   ·exact ⟨_,w⟩
  obtain ⟨e1,w1⟩:=t h1
  obtain ⟨e2,w2⟩:=t h2
  exact E.ap j k e1 e2 q hne w1 w2 h3 h4
end
section
variable {X:Cx} {x:Str} {xp pos apos cpos:Pos} {e:Expr} {f:FE}
theorem vv {i:Nat} (ho:QE X (.Name x xp) (vf i)) (he:SE X e f) (hbase:attributeBase (.Name x xp) "append" X.env (eval (.Name x xp) X.env)=eval (.Name x xp) X.env:=by rfl) (hline:(apos.endLine == cpos.line)=true:=by rfl) (hs:yl e=true:=by rfl) :
  SS X (.Expr (.Call (.Attribute (.Name x xp) "append" apos) [e] [] cpos) pos) (wS i wG f):=by
 obtain ⟨t,p,k⟩:=(zC he zI hs).h
 refine ⟨⟨_,(W_ (gG PySem.F.plainAttrs_list PySem.F.slot_list_append PySem.F.type_list_append QB ho ⟨p⟩ hbase hline (by rw [List.all_cons,hs]; rfl) (by show 1<30; decide)) rfl).h,fun {G0 H0 G H τ σ fl E} K hf q=>?_⟩⟩
 unfold wS at hf
 split at hf
 ·rename_i d hd
  obtain ⟨y,hy,hf⟩:=zJ hf
  obtain ⟨d',hd',hf⟩:=zJ hf
  cases hf
  obtain ⟨a,ea,g,z,o⟩:=K.ow _ _ hd
  cases d with
  | lst ds=>
   obtain ⟨vs,ev,rs,l⟩:=o
   refine ⟨_,ea,.inl ⟨rfl,vs,zy.of ev⟩,k K (ds:=[y]) (by unfold zB; rw [hy]; rfl) fun us G1 H1 x1 r1=>?_⟩
   obtain ⟨u,r,rfl,hu,hr⟩:=r1
   cases (show r=[] from hr)
   change (if ds.length<zu then some (D.lst (ds++[y])) else none)=some d' at hd'
   by_cases c:ds.length<zu
   ·rw [if_pos c] at hd'
    cases hd'
    refine ⟨a,vs,u,rfl,rfl,x1.h _ _ ev,by rw [rs.length,sizeLine_eq]; exact c,?_⟩
    refine q _ _ _ ((K.go x1).mut hd ea ⟨vs++[u],yQ,(rs.mono x1.g).append (Reps.one hu),?_⟩)
    rw [List.length_append,sizeLine_eq]
    exact c
   ·rw [if_neg c] at hd'
    cases hd'
  | _=>cases hd'
 ·cases hf
end
section
variable {P:Program} {w:World} {K:PySem.W.Frag} {mg:Str->Option Value} {base:Heap}
theorem WV {α β:Type} {ds:List α} {k i:Nat} {h:α->Option β} {y:β} (e:(ds.map h++List.replicate k none)[i]?=some (some y)):∃ d,ds[i]?=some d/\h d=some y:=by
 have e':=Y5 e
 rw [List.getElem?_map] at e'
 cases q:ds[i]? with
 | none=>rw [q] at e'; cases e'
 | some d=>
  rw [q] at e'
  exact ⟨d,rfl,Option.some.inj e'⟩
theorem Up {N:List Str} {G H:Hp} {ds:List D} {vs:List V} (s:zx G H) (r:Reps K G ds vs) (hl:ds.length<=N.length):zf K N.length G H G H (ds.map (fun d=>some (false,d))++List.replicate (N.length - ds.length) none) (L2.start N vs):=by
 have l:=r.length
 refine ⟨zM.refl s,?_,?_,fun i d h=>?_,fun i d h=>?_,fun i j d e p _ h1=>?_⟩
 ·unfold L2.start
  rw [List.length_append,List.length_map,List.length_replicate]
  omega
 ·rw [List.length_append,List.length_map,List.length_replicate]
  omega
 ·obtain ⟨d',e,z⟩:=WV h
  cases z
  obtain ⟨v,ev,rv⟩:=r.get e
  refine ⟨v,?_,rv⟩
  unfold L2.start
  rw [List.getElem?_append_left (by rw [List.length_map]; exact (List.getElem?_eq_some_iff.mp ev).1),List.getElem?_map,ev]
  rfl
 ·obtain ⟨d',e,z⟩:=WV h
  cases z
 ·obtain ⟨d',e,z⟩:=WV h1
  cases z
theorem zK.okS {x:Str} {st:Stmt} {N ps:List Str} {k:Nat} {F:List D->Option (Bool×D)} {b:FS} (d:zK K mg x st ps) (S:y9 N ps (zo st)) (hN:ps.length<=N.length) (hF:∀ ds r,F ds=some r->ds.length=ps.length/\zc N.length b ds=some r)
  (hb:∀ (f:Addr) (cdv:Value) (A:Around) (outer:List Env) (s:Shared) (H:Hp) (E:XK),yj k (A.deeper (envOfC x (zo st) s.heap.objs.size f cdv))->wg (ut v4 P w K mg base N x (zo st) f cdv A outer s H E).nox (uK st) b):zN P w K mg base x ps (k+1) (zO K F):=by
 refine d.ok S (fun vs H Q E h=>?_) fun f cdv A outer s H vs Q E hr h=>?_
 ·obtain ⟨G,ds,o,dd,_,r,e,_⟩:=h
  rw [r.length,(hF _ _ e).1]
 ·obtain ⟨G,ds,o,dd,s',r,e,q⟩:=h
  obtain ⟨l,hrun⟩:=hF _ _ e
  obtain ⟨t,p,kt⟩:=(hb f cdv A outer s H E hr).h
  obtain ⟨fl,hfl,hrun⟩:=zJ hrun
  refine ⟨t,p,kt (Up (N:=N) s' r (by omega)) hfl ?_⟩
  cases fl with
  | nx τ=>
   cases hrun
   exact fun σ G' H' z=>q .non G' H' z.ext rfl
  | rt o' d'=>
   cases hrun
   cases o with
   | false=>exact q
   | true=>exact q
  | _=>cases hrun
end
end L3
namespace L3
open PySem PySem.Spec PyProof.Rows L2
section
variable {P:Program} {w:World} {K:PySem.W.Frag} {mg:Str->Option Value} {base:Heap}
end
end L3
namespace L3
open PySem PySem.Spec PyProof.Rows L2
section
variable {X:Cx} {K:PySem.W.Frag}
theorem j4 {C:Int->Int->Prop} {Cb:Int->Int->Bool} {g:Int->Int->Int} (h:∀ i j,Cb i j=true->C i j):wW K (rI C fun i j=>.int (g i j)) (fI Cb g):=fun G H x y u v d Q s rx ry hf q=>by
 cases x<;>first | (cases hf; done) | skip
 cases y<;>first | (cases hf; done) | skip
 rename_i i j
 change (match Cb i j with | true=>some (D.int (g i j)) | false=>none)=some d at hf
 cases c:Cb i j with
 | false=>rw [c] at hf; cases hf
 | true=>
  rw [c] at hf
  cases hf
  exact ⟨i,j,rx,ry,h i j c,q _ _ _ (zM.refl s) rfl⟩
theorem vN {g:Int->Int->Int}:wW K (vd fun i j=>.int (g i j)) (xt g):=fun G H x y u v d Q s rx ry hf q=>by
 cases x<;>first | (cases hf; done) | skip
 cases y<;>first | (cases hf; done) | skip
 cases hf
 exact ⟨_,_,rx,ry,q _ _ _ (zM.refl s) rfl⟩
theorem Qb:wW K (vd fun i j=>.int (i - j)) Y4:=fun G H x y u v d Q s rx ry hf q=>by
 cases x<;>first | (cases hf; done) | skip
 cases y<;>first | (cases hf; done) | skip
 cases hf
 exact ⟨_,_,rx,ry,q _ _ _ (zM.refl s) rfl⟩
theorem Q7 {i:Int} (h:tj i=true) : -(2 ^ 64)<i/\i<2 ^ 64:=by
 unfold tj at h
 rw [Bool.and_eq_true] at h
 exact ⟨of_decide_eq_true h.1,of_decide_eq_true h.2⟩
theorem Wj:wW K (rI jS fun i j=>.int (i*j)) pW:=j4 fun _ _ h=>.inl (Q7 h)
theorem Qa:wW K (rI jS fun i j=>.int (i*j)) Y2:=j4 fun _ _ h=>.inr (Q7 h)
theorem yn:wW K (rI (fun _ j=>0<j) fun i j=>.int (i % j)) yR:=j4 fun _ _ h=>of_decide_eq_true h
theorem wy:wW K (rI (fun _ j=>0<j/\j<2 ^ 64) fun i j=>.int (i / j)) xm:=j4 fun _ _ h=>by
 rw [Bool.and_eq_true] at h
 exact ⟨of_decide_eq_true h.1,of_decide_eq_true h.2⟩
theorem FZ {i j:Int} (h:Yl i j=true):XJ i j:=by
 unfold Yl at h
 rw [Bool.and_eq_true,Bool.and_eq_true] at h
 exact ⟨of_decide_eq_true h.1,of_decide_eq_true h.2.1,of_decide_eq_true h.2.2⟩
theorem Yc:wW K (rI XJ fun i j=>.int (i*2 ^ j.toNat)) pX:=j4 fun _ _ h=>FZ h
theorem qf {g:Int->Int->Bool}:uG K (vd fun i j=>.bl (g i j)) (uL g):=fun H x y u v d Q rx ry hf=>by
 cases x<;>first | (cases hf; done) | skip
 cases y<;>first | (cases hf; done) | skip
 cases hf
 exact ⟨_,rfl,fun q=>⟨_,_,rx,ry,q⟩⟩
theorem TY {H:Hp} {x:D} {u:V} (r:zV K H x u):tX x=decide (u=.non):=by
 cases x with
 | non=>cases r; rfl
 | bl b=>cases r; rfl
 | int b=>cases r; rfl
 | str b=>obtain ⟨rfl,_⟩:=r; rfl
 | tup b=>obtain ⟨a,vs,rfl,_⟩:=r; rfl
 | lst b=>obtain ⟨a,vs,rfl,_⟩:=r; rfl
 | dic b c=>obtain ⟨a,vs,rfl,_⟩:=r; rfl
theorem QZ:uG K (fun x y H Q=>y=.non/\Q (.bl (decide (x=.non))) H) qS:=fun H x y u v d Q rx ry hf=>by
 cases y<;>first | (cases hf; done) | skip
 have e:=TY rx
 refine ⟨tX x,(Option.some.inj hf).symm,fun q=>⟨ry,?_⟩⟩
 rw [<- e]
 exact q
theorem Bs:uG K (fun x y H Q=>y=.non/\Q (.bl (!decide (x=.non))) H) W2:=fun H x y u v d Q rx ry hf=>by
 cases y<;>first | (cases hf; done) | skip
 have e:=TY rx
 refine ⟨!tX x,(Option.some.inj hf).symm,fun q=>⟨ry,?_⟩⟩
 rw [<- e]
 exact q
theorem qB:∀ (G H:Hp) x u d (Q:VK),zV K G x u->vk x=some d->∃ w,(∀ G,zV K G d w)/\(Q w H->rU (fun i=>.int (-i)) u H Q):=fun G H x u d Q r hf=>by
 cases x<;>first | (cases hf; done) | skip
 cases hf
 exact ⟨_,fun _=>rfl,fun q=>⟨_,r,q⟩⟩
theorem HB:∀ (G H:Hp) x u d (Q:VK),zV K G x u->Y0 x=some d->∃ w,(∀ G,zV K G d w)/\(Q w H->rU (fun i=>.int (Builtin.bitNot i)) u H Q):=fun G H x u d Q r hf=>by
 cases x<;>first | (cases hf; done) | skip
 cases hf
 exact ⟨_,fun _=>rfl,fun q=>⟨_,r,q⟩⟩
noncomputable def JG (K:PySem.W.Frag):R2:=fun x y H Q=>∃ l b xs zs,x=.ref l/\y=.ref b/\zy K H l xs/\zy K H b zs/\xs.length+zs.length<=sizeLine/\∀ p,H p=none->Q (.ref p) (ze H p (.lst (xs++zs)))
theorem Qf:yC X (binaryOp .Add) (JG X.K):=by
 intro pins s σ H x y v u Q I rx ry h
 obtain ⟨l,b,xs,zs,rfl,rfl,hl,hb,hz,q⟩:=h
 cases rx
 cases ry
 obtain ⟨its,r1,p1,_⟩:=I.list hl
 obtain ⟨its2,r2,p2,_⟩:=I.list hb
 obtain ⟨⟨c1,d1,t1,sl1⟩,n1,ho1,hc1,hd1,ht1⟩:=p1
 obtain ⟨⟨c2,d2,t2,sl2⟩,n2,ho2,hc2,hd2,ht2⟩:=p2
 simp only at hc1 ht1 hc2 ht2
 subst hc1 ht1 hc2 ht2
 refine concat_meets ⟨_,ho1,rfl⟩ ⟨_,ho2,rfl⟩ noFill_list_add seq_list_add PySem.F.slot_list_add PySem.F.entry_list_add (PySem.F.args_list_add_2 _ _)
  (list_addW l b its.toArray its2.toArray n1 n2 d1 d2 sl1 sl2 (by rw [List.size_toArray,List.size_toArray,<- r1.length,<- r2.length]; exact hz)) ⟨ho1,ho2,?_⟩
 rw [show its.toArray++its2.toArray=(its++its2).toArray by simp]
 exact ⟨.ref _,_,I.lnew (t':=s.toks) (r1.append r2) (by rw [List.length_append]; exact hz),rfl,q _ I.fresh⟩
noncomputable def JF (K:PySem.W.Frag):R2:=fun x y H Q=>vd (fun i j=>.int (i+j)) x y H Q\/(∃ i k,x=.int i/\y=.bl k/\Q (.int (i+b2i k)) H)\/(∃ i j,x=.str i/\y=.str j/\i.length+j.length<=sizeLine/\Q (.str (i++j)) H)\/JG K x y H Q\/JH K x y H Q
theorem yo:yC X (binaryOp .Add) (JF X.K):=DG.or (DH.or (DI.or (Qf.or DJ)))
theorem ym:wW K (JF K) yO:=fun G H x y u v d Q s rx ry hf q=>by
 cases x<;>cases y<;>first | (cases hf; done) | skip
 ·rename_i i b
  cases rx
  cases ry
  cases hf
  refine .inr (.inl ⟨i,b,rfl,rfl,?_⟩)
  have e:i+b2i b=i+(if b then 1 else 0):=by cases b<;>rfl
  rw [e]
  exact q _ _ _ (zM.refl s) rfl
 ·cases hf
  exact .inl ⟨_,_,rx,ry,q _ _ _ (zM.refl s) rfl⟩
 ·rename_i i j
  obtain ⟨rfl,l1⟩:=rx
  obtain ⟨rfl,l2⟩:=ry
  change (if i.length+j.length<=zu then _ else _)=_ at hf
  by_cases c:i.length+j.length<=zu
  ·rw [if_pos c] at hf
   cases hf
   have c':i.length+j.length<=sizeLine:=by rw [sizeLine_eq]; exact c
   exact .inr (.inr (.inl ⟨i,j,rfl,rfl,c',q _ _ _ (zM.refl s) ⟨rfl,by rw [strLen_append]; exact c'⟩⟩))
  ·rw [if_neg c] at hf
   cases hf
 ·rename_i xs ys
  obtain ⟨a,vs,rfl,sa,ra,_⟩:=rx
  obtain ⟨b,us,rfl,sb,rb,_⟩:=ry
  change (if xs.isEmpty=false/\xs.length+ys.length<=zu then _ else _)=_ at hf
  by_cases c0:xs.isEmpty=false/\xs.length+ys.length<=zu
  ·rw [if_pos c0] at hf
   have c:=c0.2
   cases hf
   have c':(xs++ys).length<=sizeLine:=by rw [sizeLine_eq,List.length_append]; exact c
   have hx:vs≠[]:=fun e=>by
    have l:=ra.length
    rw [e] at l
    cases xs with
    | nil=>cases c0.1
    | cons=>cases l
   ·refine .inr (.inr (.inr (.inr ⟨a,b,vs,us,rfl,rfl,v3 s sa,v3 s sb,hx,by rw [ra.length,rb.length,sizeLine_eq]; exact c,fun e=>?_,fun e p hp=>?_⟩)))
    ·subst e
     have e2:ys=[]:=by
      cases ys with
      | nil=>rfl
      | cons=>obtain ⟨_,_,z,_⟩:=rb; cases z
     subst e2
     exact q _ _ _ (zM.refl s) ⟨a,vs,rfl,sa,by rw [List.append_nil]; exact ra,c'⟩
    ·exact q _ _ _ (zM.lay s hp) ⟨p,vs++us,rfl,yU.of yQ,(ra.append rb).mono (wJ (s.free hp) _),c'⟩
  ·rw [if_neg c0] at hf
   cases hf
 ·rename_i xs ys
  obtain ⟨a,vs,rfl,sa,ra,_⟩:=rx
  obtain ⟨b,us,rfl,sb,rb,_⟩:=ry
  change (if xs.length+ys.length<=zu then _ else _)=_ at hf
  by_cases c:xs.length+ys.length<=zu
  ·rw [if_pos c] at hf
   cases hf
   have c':(xs++ys).length<=sizeLine:=by rw [sizeLine_eq,List.length_append]; exact c
   refine .inr (.inr (.inr (.inl ⟨a,b,vs,us,rfl,rfl,wA s sa,wA s sb,by rw [ra.length,rb.length,sizeLine_eq]; exact c,fun p hp=>?_⟩)))
   exact q _ _ _ (zM.lay s hp) ⟨p,vs++us,rfl,zy.of yQ,(ra.append rb).mono (wJ (s.free hp) _),c'⟩
  ·rw [if_neg c] at hf
   cases hf
theorem O9 {α:Type} {xs:List α} {i:Int} {x:α} (h:wj xs i=some x):∃ j:Nat,xs[j]?=some x/\∀ {β:Type} (ys:List β),ys.length=xs.length->wj ys i=ys[j]?:=by
 unfold wj at h
 cases e:ixN xs.length i with
 | none=>rw [e] at h; cases h
 | some j=>
  rw [e] at h
  exact ⟨j,h,fun ys l=>by unfold wj; rw [l,e]; rfl⟩
theorem U1 {α:Type} (xs:List α) (i:Int):wj xs i=wN xs i:=by
 unfold wj wN ixN
 by_cases h:0<=i
 ·rw [if_pos h,if_pos h]
  by_cases h2:i<xs.length
  ·rw [if_pos h2]; rfl
  ·rw [if_neg h2]
   exact (List.getElem?_eq_none (by omega)).symm
 ·rw [if_neg h,if_neg h]
  split<;>rfl
theorem V6 {H:Hp} {ds:List D} {vs:List V} {i:Int} {d:D} (r:Reps K H ds vs) (h:wN ds i=some d):∃ v,wj vs i=some v/\zV K H d v:=by
 rw [<- U1] at h
 obtain ⟨j,e,k⟩:=O9 h
 obtain ⟨v,ev,rv⟩:=r.get e
 exact ⟨v,by rw [k vs r.length]; exact ev,rv⟩
noncomputable def L8:D->D->Option D
 | .lst xs,.int i=>wN xs i
 | .tup xs,.int i=>wN xs i
 | .str z,.int i=>(wN z.cps.toList i).bind fun c=>some (.str ⟨#[c]⟩)
 | _,_=>none
theorem Wi:wW K (V2 K) L8:=fun G H x y u v d Q s rx ry hf q=>by
 cases x<;>first | (cases hf; done) | skip
 all_goals (cases y<;>first | (cases hf; done) | skip)
 ·rename_i z i
  obtain ⟨rfl,l⟩:=rx
  cases ry
  obtain ⟨c,hc,hf⟩:=zJ hf
  cases hf
  rw [<- U1] at hc
  exact .inr (.inr ⟨z,i,c,rfl,rfl,l,hc,q _ _ _ (zM.refl s) ⟨rfl,small (n:=1) (by decide)⟩⟩)
 ·rename_i xs i
  obtain ⟨a,vs,rfl,sa,ra,_⟩:=rx
  cases ry
  obtain ⟨w,hw,rw_⟩:=V6 ra hf
  exact .inr (.inl ⟨a,vs,i,w,rfl,rfl,v3 s sa,hw,q _ _ _ (zM.refl s) rw_⟩)
 ·rename_i xs i
  obtain ⟨a,vs,rfl,sa,ra,_⟩:=rx
  cases ry
  obtain ⟨w,hw,rw_⟩:=V6 ra hf
  exact .inl ⟨a,vs,i,w,rfl,rfl,wA s sa,hw,q _ _ _ (zM.refl s) rw_⟩
theorem xy:xi X (.builtin "len") (fun xs H Q=>(∃ p ys,xs=[.ref p]/\(zy X.K H p ys\/yU X.K H p ys)/\Q (.int ys.length) H)\/∃ z,xs=[.str z]/\z.length<=sizeLine/\Q (.int z.length) H):=OO.or OP
theorem w4:ZD K (fun xs H Q=>(∃ p ys,xs=[.ref p]/\(zy K H p ys\/yU K H p ys)/\Q (.int ys.length) H)\/∃ z,xs=[.str z]/\z.length<=sizeLine/\Q (.int z.length) H) xL:=fun G H ds vs d Q s r hf q=>by
 match ds,hf with
 | [.lst xs],hf=>
  cases hf
  obtain ⟨v,r',rfl,⟨a,us,rfl,sq,ru,_⟩,h2⟩:=r
  cases (show r'=[] from h2)
  exact .inl ⟨a,us,rfl,.inl sq,by rw [ru.length]; exact q _ _ _ (zM.refl s) rfl⟩
 | [.tup xs],hf=>
  cases hf
  obtain ⟨v,r',rfl,⟨a,us,rfl,sq,ru,_⟩,h2⟩:=r
  cases (show r'=[] from h2)
  exact .inl ⟨a,us,rfl,.inr sq,by rw [ru.length]; exact q _ _ _ (zM.refl s) rfl⟩
 | [.str z],hf=>
  cases hf
  obtain ⟨v,r',rfl,⟨rfl,l⟩,h2⟩:=r
  cases (show r'=[] from h2)
  exact .inr ⟨z,rfl,l,q _ _ _ (zM.refl s) rfl⟩
theorem QX:ZD K (fun xs H Q=>(∃ i,xs=[.int i]/\Q (.int i) H)\/∃ k,xs=[.bl k]/\Q (.int (if k then 1 else 0)) H) Z_:=fun G H ds vs d Q s r hf q=>by
 match ds,hf with
 | [.int i],hf=>
  cases hf
  obtain ⟨v,r',rfl,rfl,h2⟩:=r
  cases (show r'=[] from h2)
  exact .inl ⟨i,rfl,q _ _ _ (zM.refl s) rfl⟩
 | [.bl k],hf=>
  cases hf
  obtain ⟨v,r',rfl,rfl,h2⟩:=r
  cases (show r'=[] from h2)
  exact .inr ⟨k,rfl,q _ _ _ (zM.refl s) rfl⟩
end
end L3
namespace L3
open PySem PySem.Spec PyProof.Rows L2
theorem UZ:∀ xs ys:List D,(((List.range (min xs.length ys.length)).all fun j=>zk (xs.getD j .non) (ys.getD j .non))&&xs.length == ys.length)=dEqs xs ys
 | [],[]=>rfl
 | [],_::_=>rfl
 | _::_,[]=>rfl
 | x::xs,y::ys=>by
  have ih:=UZ xs ys
  show _=(zk x y&&dEqs xs ys)
  rw [<- ih,List.length_cons,List.length_cons,Nat.succ_min_succ,List.range_succ_eq_map,List.all_cons,List.all_map,Bool.and_assoc]
  congr 1
  congr 1
  rw [Bool.eq_iff_iff]
  simp
theorem UT {f:D->D->Bool}:∀ {xs ys:List D},wm f xs ys=true->∀ (j:Nat) x y,xs[j]?=some x->ys[j]?=some y->f x y=true
 | [],_,_,j,x,y,e,_=>by cases e
 | x::xs,[],_,j,_,y,_,e=>by cases e
 | x::xs,y::ys,h,0,_,_,e1,e2=>by
  cases e1
  cases e2
  have h':(f x y&&wm f xs ys)=true:=h
  rw [Bool.and_eq_true] at h'
  exact h'.1
 | x::xs,y::ys,h,j+1,a,b,e1,e2=>by
  have h':(f x y&&wm f xs ys)=true:=h
  rw [Bool.and_eq_true] at h'
  exact UT h'.2 j a b (by simpa using e1) (by simpa using e2)
section
variable {X:Cx} {pins:List (Addr×Obj)} {σ:St} {H:Hp} {s:Shared} {K:PySem.W.Frag}
theorem Xw {n:Nat} (ih:∀ d1 d2 v,xJ n d1 d2=true->zV K H d1 v->zV K H d2 v->zk d1 d2=true):∀ {xs ys:List D} {vs:List V},wm (xJ n) xs ys=true->Reps K H xs vs->Reps K H ys vs->dEqs xs ys=true
 | [],[],_,_,_,_=>rfl
 | [],_::_,_,_,r1,r2=>by
  cases (show _=[] from r1)
  obtain ⟨_,_,e,_⟩:=r2
  cases e
 | _::_,[],_,_,r1,r2=>by
  cases (show _=[] from r2)
  obtain ⟨_,_,e,_⟩:=r1
  cases e
 | x::xs,y::ys,_,h,r1,r2=>by
  obtain ⟨v,r,rfl,a,b⟩:=r1
  obtain ⟨v',r',e,a',b'⟩:=r2
  cases e
  have h':(xJ n x y&&wm (xJ n) xs ys)=true:=h
  rw [Bool.and_eq_true] at h'
  show (zk x y&&dEqs xs ys)=true
  rw [ih x y v h'.1 a a',Xw ih h'.2 b b']
  rfl
theorem Xo {n:Nat} {x y:D} (h:xJ (n+1) x y=true):(∃ xs ys,x=.tup xs/\y=.tup ys/\wm (xJ n) xs ys=true)\/(∃ xs ys,x=.lst xs/\y=.lst ys/\wm (xJ n) xs ys=true)\/(yG x=true/\yG y=true):=by
 unfold xJ at h
 split at h
 ·exact .inl ⟨_,_,rfl,rfl,h⟩
 ·exact .inr (.inl ⟨_,_,rfl,rfl,h⟩)
 ·rw [Bool.and_eq_true] at h
  exact .inr (.inr h)
theorem qi {d:D} {v:V} (h:yG d=true) (r:zV K H d v):vG v=true:=by
 cases d<;>first | exact absurd h Bool.false_ne_true | skip
 ·cases (show v=_ from r); rfl
 ·cases (show v=_ from r); rfl
 ·cases (show v=_ from r); rfl
 ·cases (show v=_/\_ from r).1; rfl
theorem gK {d1 d2:D} {x y:V} (h1:yG d1=true) (h2:yG d2=true) (r1:zV K H d1 x) (r2:zV K H d2 y):wq x y=zk d1 d2:=by
 cases d1<;>first | exact absurd h1 Bool.false_ne_true | skip
 all_goals (cases d2<;>first | exact absurd h2 Bool.false_ne_true | skip)
 all_goals first
  | (cases (show x=_ from r1); cases (show y=_ from r2); rfl)
  | (cases (show x=_ from r1); cases (show y=_/\_ from r2).1; rfl)
  | (cases (show x=_/\_ from r1).1; cases (show y=_ from r2); rfl)
  | (cases (show x=_/\_ from r1).1; cases (show y=_/\_ from r2).1; rfl)
theorem Zy (I:Inv X pins σ H s):∀ (n:Nat) (d1 d2:D) (v:V),xJ n d1 d2=true->zV X.K H d1 v->zV X.K H d2 v->zk d1 d2=true
 | 0,_,_,_,h,_,_=>by cases h
 | n+1,d1,d2,v,h,r1,r2=>by
  rcases Xo h with ⟨xs,ys,rfl,rfl,h⟩ | ⟨xs,ys,rfl,rfl,h⟩ | ⟨f1,f2⟩
  ·obtain ⟨a,vs,rfl,s1,q1,_⟩:=r1
   obtain ⟨a',us,e,s2,q2,_⟩:=r2
   cases e
   cases I.tuple_inj s1 s2
   exact Xw (fun d1 d2 v=>Zy I n d1 d2 v) h q1 q2
  ·obtain ⟨a,vs,rfl,s1,q1,_⟩:=r1
   obtain ⟨a',us,e,s2,q2,_⟩:=r2
   cases e
   cases I.list_inj s1 s2
   exact Xw (fun d1 d2 v=>Zy I n d1 d2 v) h q1 q2
  ·rw [<- gK f1 f2 r1 r2]
   exact O_ (qi f1 r1)
theorem T2 {α:Type} {xs:List α} {j:Nat} {x d:α} (h:xs[j]?=some x):xs.getD j d=x:=by rw [List.getD_eq_getElem?_getD,h]; rfl
theorem Yp {A:Around} {n:Nat} {a c:Addr} {xs ys:List D} {vs us:List V} (I:Inv X pins σ H s) (hu:A.units<cLine) (hq:Vz X.K H a c vs us) (q1:Reps X.K H xs vs) (q2:Reps X.K H ys us) (h:wm (xJ n) xs ys=true)
  (ih:∀ (d1 d2:D) (x y:V) (u v:Value),xJ n d1 d2=true->zV X.K H d1 x->zV X.K H d2 y->zi x u->zi y v->SeqAt.EqAt A.in1 s u v (zk d1 d2)):SeqAt.RcAt A s (.ref a) (.ref c) (dEqs xs ys)/\SeqAt.RcNeAt A s (.ref a) (.ref c) (!dEqs xs ys):=by
 have z:=CG (A:=A) (e:=fun j=>zk (xs.getD j .non) (ys.getD j .non)) I hu hq fun j x' y' u' v' e1 e2 w1 w2=>by
  obtain ⟨d1,g1,t1⟩:=q1.at e1
  obtain ⟨d2,g2,t2⟩:=q2.at e2
  show SeqAt.EqAt A.in1 s u' v' (zk (xs.getD j .non) (ys.getD j .non))
  rw [T2 g1,T2 g2]
  exact ih d1 d2 x' y' u' v' (UT h j d1 d2 g1 g2) t1 t2 w1 w2
 rw [q1.length,q2.length,UZ] at z
 exact z
theorem Zx (I:Inv X pins σ H s):∀ (n:Nat) (A:Around) (d1 d2:D) (x y:V) (u v:Value),A.units+n<cLine->xJ n d1 d2=true->zV X.K H d1 x->zV X.K H d2 y->zi x u->zi y v->SeqAt.EqAt A s u v (zk d1 d2)
 | 0,_,_,_,_,_,_,_,_,h,_,_,_,_=>by cases h
 | n+1,A,d1,d2,x,y,u,v,hu,h,r1,r2,rx,ry=>by
  have h0:=h
  have ra:=r1
  have rb:=r2
  rcases Xo h with ⟨xs,ys,rfl,rfl,h⟩ | ⟨xs,ys,rfl,rfl,h⟩ | ⟨f1,f2⟩
  ·obtain ⟨a,vs,rfl,s1,q1,l1⟩:=r1
   obtain ⟨c,us,rfl,s2,q2,l2⟩:=r2
   cases (show u=Value.ref a from rx)
   cases (show v=Value.ref c from ry)
   by_cases hac:a=c
   ·subst hac
    rw [Zy I (n+1) _ _ _ h0 ra rb]
    exact SeqAt.EqAt.same _
   ·exact SeqAt.EqAt.of_refs hac (Yp I (by omega) (.inl ⟨s1,s2⟩) q1 q2 h fun d1 d2 x y u v hh t1 t2 w1 w2=>Zx I n A.in1 d1 d2 x y u v (by rw [Y8]; omega) hh t1 t2 w1 w2).1
  ·obtain ⟨a,vs,rfl,s1,q1,l1⟩:=r1
   obtain ⟨c,us,rfl,s2,q2,l2⟩:=r2
   cases (show u=Value.ref a from rx)
   cases (show v=Value.ref c from ry)
   by_cases hac:a=c
   ·subst hac
    rw [Zy I (n+1) _ _ _ h0 ra rb]
    exact SeqAt.EqAt.same _
   ·exact SeqAt.EqAt.of_refs hac (Yp I (by omega) (.inr ⟨s1,s2⟩) q1 q2 h fun d1 d2 x y u v hh t1 t2 w1 w2=>Zx I n A.in1 d1 d2 x y u v (by rw [Y8]; omega) hh t1 t2 w1 w2).1
  ·rw [<- gK f1 f2 r1 r2]
   exact Uq rx ry (qi f1 r1) (qi f2 r2)
end
noncomputable def gH (K:PySem.W.Frag) (neg:Bool):R2:=fun x y H Q=>∃ d1 d2 k,zV K H d1 x/\zV K H d2 y/\uM d1 d2=some k/\Q (.bl (if neg then !k else k)) H
theorem yL {A:Around} {k:Nat} (hr:yj k A):A.units+7<cLine:=Nat.lt_of_le_of_lt (Nat.add_le_add_left (by decide:7<=64) _) hr.units
section
variable {X:Cx} {K:PySem.W.Frag}
theorem Xy {d1 d2:D} {k:Bool} (h:uM d1 d2=some k):xJ 6 d1 d2=true/\k=zk d1 d2:=by
 unfold uM at h
 split at h
 ·cases h
 ·cases h
 ·split at h
  ·rename_i e
   cases h
   exact ⟨e,rfl⟩
  ·cases h
theorem Jp {H:Hp} {d1 d2:D} {x y:V} {k:Bool} (h:uM d1 d2=some k) (h1:yG d1=true) (h2:yG d2=true) (r1:zV K H d1 x) (r2:zV K H d2 y):VI x y=true/\decide (x=y)=k:=by
 obtain ⟨_,e⟩:=Xy h
 subst e
 cases d1<;>first | exact absurd h1 Bool.false_ne_true | skip
 all_goals (cases d2<;>first | exact absurd h2 Bool.false_ne_true | (cases h; done) | skip)
 all_goals first
  | (cases (show x=_ from r1); cases (show y=_ from r2); exact ⟨rfl,by first | rfl | exact Xr | exact Xq⟩)
  | (cases (show x=_ from r1); cases (show y=_/\_ from r2).1; exact ⟨rfl,rfl⟩)
  | (cases (show x=_/\_ from r1).1; cases (show y=_ from r2); exact ⟨rfl,rfl⟩)
  | (cases (show x=_/\_ from r1).1; cases (show y=_/\_ from r2).1; exact ⟨rfl,Xs⟩)
theorem Us {pins:List (Addr×Obj)} {σ:St} {H:Hp} {s:Shared} {A:Around} {d1 d2:D} {x y:V} {u v:Value} (I:Inv X pins σ H s) (hu:A.units+7<cLine) (h:xJ 6 d1 d2=true) (hf:¬ (yG d1&&yG d2)=true) (r1:zV X.K H d1 x) (r2:zV X.K H d2 y) (rx:zi x u) (ry:zi y v) :
  SeqAt.RcAt A s u v (zk d1 d2)/\SeqAt.RcNeAt A s u v (!zk d1 d2):=by
 rcases Xo h with ⟨xs,ys,rfl,rfl,h⟩ | ⟨xs,ys,rfl,rfl,h⟩ | ⟨f1,f2⟩
 ·obtain ⟨a,vs,rfl,s1,q1,l1⟩:=r1
  obtain ⟨c,us,rfl,s2,q2,l2⟩:=r2
  cases (show u=Value.ref a from rx)
  cases (show v=Value.ref c from ry)
  exact Yp I (by omega) (.inl ⟨s1,s2⟩) q1 q2 h fun d1 d2 x y u v hh t1 t2 w1 w2=>Zx I 5 A.in1 d1 d2 x y u v (by rw [Y8]; omega) hh t1 t2 w1 w2
 ·obtain ⟨a,vs,rfl,s1,q1,l1⟩:=r1
  obtain ⟨c,us,rfl,s2,q2,l2⟩:=r2
  cases (show u=Value.ref a from rx)
  cases (show v=Value.ref c from ry)
  exact Yp I (by omega) (.inr ⟨s1,s2⟩) q1 q2 h fun d1 d2 x y u v hh t1 t2 w1 w2=>Zx I 5 A.in1 d1 d2 x y u v (by rw [Y8]; omega) hh t1 t2 w1 w2
 ·exact absurd (by rw [f1,f2]; rfl) hf
theorem yx (hu:X.A.units+7<cLine):yC X (compareOp .Eq) (gH X.K false):=by
 intro pins s σ H x y v u Q I rx ry h
 obtain ⟨d1,d2,k,r1,r2,hk,q⟩:=h
 by_cases hf:(yG d1&&yG d2)=true
 ·have hf':=hf
  rw [Bool.and_eq_true] at hf'
  obtain ⟨a,b⟩:=Jp hk hf'.1 hf'.2 r1 r2
  exact DK pins s σ H x y v u Q I rx ry ⟨a,by rw [b]; exact q⟩
 ·obtain ⟨hc,rfl⟩:=Xy hk
  exact (Us I hu hc hf r1 r2 rx ry).1 _ _ _ _ ⟨.bl _,H,I,rfl,q⟩
theorem vq (hu:X.A.units+7<cLine):yC X (compareOp .NotEq) (gH X.K true):=by
 intro pins s σ H x y v u Q I rx ry h
 obtain ⟨d1,d2,k,r1,r2,hk,q⟩:=h
 by_cases hf:(yG d1&&yG d2)=true
 ·have hf':=hf
  rw [Bool.and_eq_true] at hf'
  obtain ⟨a,b⟩:=Jp hk hf'.1 hf'.2 r1 r2
  exact DP pins s σ H x y v u Q I rx ry ⟨a,by rw [b]; exact q⟩
 ·obtain ⟨hc,rfl⟩:=Xy hk
  exact (Us I hu hc hf r1 r2 rx ry).2 _ _ _ _ ⟨.bl _,H,I,rfl,q⟩
theorem yw:uG K (gH K false) zm:=fun H x y u v d Q rx ry hf=>by
 obtain ⟨k,hk,hf⟩:=zJ hf
 cases hf
 exact ⟨_,rfl,fun q=>⟨x,y,k,rx,ry,hk,q⟩⟩
theorem vp:uG K (gH K true) xM:=fun H x y u v d Q rx ry hf=>by
 obtain ⟨k,hk,hf⟩:=zJ hf
 cases hf
 exact ⟨_,rfl,fun q=>⟨x,y,k,rx,ry,hk,q⟩⟩
end
end L3
namespace L3
open PySem
theorem Vd {c:FT} {b:FS}:∀ {n:Nat} {σ:zd} {fl:Fl} (k:Nat),xr c b n σ=some fl->xr c b (n+k) σ=some fl
 | 0,_,_,_,h=>by cases h
 | n+1,σ,fl,k,h=>by
  rw [Nat.succ_add]
  unfold xr at h ⊢
  cases hc:c σ with
  | none=>rw [hc] at h; cases h
  | some kk=>
   rw [hc] at h
   cases kk with
   | false=>exact h
   | true=>
    change (b σ).bind _=_ at h
    show (b σ).bind _=_
    cases hb:b σ with
    | none=>rw [hb] at h; cases h
    | some f=>
     rw [hb] at h
     cases f with
     | nx τ=>exact Vd k h
     | ct τ=>exact Vd k h
     | bk τ=>exact h
     | rt o d=>exact h
theorem qo {c:FT} {b:FS} {σ:zd} {fl:Fl} (n:Nat) (h:xr c b n σ=some fl) (hn:n<=Z7:=by decide):uV c b σ=some fl:=by
 have e:=Vd (Z7 - n) h
 rw [Nat.add_sub_of_le hn] at e
 exact e
theorem jR {c:FT} {b:FS} {σ σ':zd} {n:Nat} (hc:c σ=some true) (hb:b σ=some (.nx σ')):xr c b (n+1) σ=xr c b n σ':=by
 show (c σ).bind _=_
 rw [hc]
 show (b σ).bind _=_
 rw [hb]
 rfl
theorem p4 {c:FT} {b:FS} {σ:zd} {n:Nat} (hc:c σ=some false):xr c b (n+1) σ=some (.nx σ):=by
 show (c σ).bind _=_
 rw [hc]
 rfl
theorem t5 {g:FG} {b:FS} (P:Nat->zd->Prop):∀ {ds:List D} {σ:zd} (n:Nat),P n σ->(∀ i d σ,ds[i]?=some d->P (n+i) σ->∃ σ1 σ2,g d σ=some σ1/\(b σ1=some (.nx σ2)\/b σ1=some (.ct σ2))/\P (n+i+1) σ2)->
  ∃ σ',wu g b ds σ=some (.nx σ')/\P (n+ds.length) σ'
 | [],σ,n,h,_=>⟨σ,rfl,h⟩
 | d::ds,σ,n,h,step=>by
  obtain ⟨σ1,σ2,e1,e2,p2⟩:=step 0 d σ rfl h
  obtain ⟨σ',e3,p3⟩:=t5 P (ds:=ds) (σ:=σ2) (n+1) p2 fun i d' τ hd hp=>by
   obtain ⟨a,b',c1,c2,c3⟩:=step (i+1) d' τ (by simpa using hd) (by rw [show n+(i+1)=n+1+i by omega]; exact hp)
   exact ⟨a,b',c1,c2,by rw [show n+1+i+1=n+(i+1)+1 by omega]; exact c3⟩
  refine ⟨σ',?_,by rw [List.length_cons,show n+(ds.length+1)=n+1+ds.length by omega]; exact p3⟩
  show (g d σ).bind _=_
  rw [e1]
  show (b σ1).bind _=_
  rcases e2 with e2 | e2
  ·rw [e2]; exact e3
  ·rw [e2]; exact e3
theorem xU {a b:FS} {σ σ':zd} (h:a σ=some (.nx σ')):zE a b σ=b σ':=by
 show (a σ).bind _=_
 rw [h]
 rfl
noncomputable abbrev xD (j:Nat):List D:=(List.range j).map fun k:Nat=>D.int k
theorem uT {f:FE} {τ:zd} {n:Int} (h:f τ=some (.int n)) (h1:n.natAbs<=1000000):vI (eC (.int 0)) f τ=some (xD n.toNat):=by
 unfold vI
 rw [h]
 show (if (0:Int).natAbs<=zu/\n.natAbs<=zu/\(n - 0).toNat<=zu then _ else _)=_
 rw [if_pos ⟨by decide,by show _<=16777216; omega,by show _<=16777216; omega⟩,Int.sub_zero]
 simp only [Int.zero_add]
end L3
namespace L3
noncomputable def shx:=
 And.intro zc.eq_1 <| And.intro zE.eq_1 <| And.intro zS.eq_1 <| And.intro vO.eq_1 <| And.intro ya.eq_1 <| And.intro xq.eq_1 <| And.intro uU.eq_1 <| And.intro yP.eq_1 <| And.intro yW.eq_1 <| And.intro qk.eq_1 <|
 And.intro EG.eq_1 <| And.intro wS.eq_1 <| And.intro vA.eq_1 <| And.intro wu.eq_1 <| And.intro wu.eq_2 <| And.intro e1.eq_1 <| And.intro e2.eq_1 <| And.intro eL.eq_1 <| And.intro eC.eq_1 <| And.intro z6.eq_1 <| And.intro wp.eq_1 <|
 And.intro zB.eq_1 <| And.intro zD.eq_1 <| And.intro tE.eq_1 <| And.intro pQ.eq_def <| And.intro vB.eq_1 <| And.intro qA.eq_1 <| And.intro q5.eq_1 <| And.intro Zv.eq_1 <| And.intro Xt.eq_1 <| And.intro Ox.eq_1 <| And.intro pU.eq_1 <|
 And.intro yu.eq_1 <| And.intro yk.eq_1 <| And.intro Ow.eq_1 <| And.intro TZ.eq_def <| And.intro fI.eq_def <| And.intro Y4.eq_def <| And.intro uL.eq_def <| And.intro pW.eq_1 <| And.intro Y2.eq_1 <| And.intro yR.eq_1 <| And.intro xm.eq_1 <|
 And.intro L9.eq_1 <| And.intro pX.eq_1 <| And.intro LB.eq_1 <| And.intro xt.eq_def <| And.intro vk.eq_def <| And.intro xL.eq_def <| And.intro Z_.eq_def <| And.intro qS.eq_def <| And.intro W2.eq_def <| And.intro tX.eq_def <|
 And.intro zh.eq_1 <| And.intro xW.eq_1 <| And.intro xc.eq_1 <| And.intro zX.eq_1 <| And.intro vi.eq_1 <| And.intro xP.eq_1 <|
 And.intro @Option.bind_some.{0,0} <| And.intro @Option.bind_none.{0,0} <| And.intro @List.getElem?_cons_zero.{0} <| And.intro @List.getElem?_cons_succ.{0} <| And.intro @List.set_cons_zero.{0} <| And.intro @List.set_cons_succ.{0} <| And.intro @List.map_cons.{0,0} <| And.intro @List.map_nil.{0,0} <|
 And.intro @List.cons_append.{0} <| And.intro @List.nil_append.{0} <| And.intro @List.length_cons.{0} <| And.intro @List.length_nil.{0} <| And.intro @List.replicate_zero.{0} <| And.intro @List.replicate_succ.{0} <| And.intro Bool.not_true <| And.intro Bool.not_false <|
 And.intro @decide_true <| And.intro @decide_false <| And.intro Bool.and_self <| And.intro Bool.and_true Bool.true_and
end L3
namespace L3
open PySem PySem.Spec PyProof.Rows L2
section
variable {α:Type}
theorem Io:∀ {ks:List zL} {vs:List α} (k:zL),ks.length=vs.length->((ks.zip vs).any fun kv=>decide (kv.1=k))=yF ks k
 | [],[],_,_=>rfl
 | k'::ks,v::vs,k,h=>by
  have ih:=Io (ks:=ks) (vs:=vs) k (by simpa using h)
  show (decide (k'=k)||((ks.zip vs).any fun kv=>decide (kv.1=k)))=(decide (k'=k)||yF ks k)
  rw [ih]
theorem XI:∀ {ks:List zL} {vs:List V} (k:zL),ks.length=vs.length->vD (ks.zip vs) k=getK ks vs k
 | [],[],_,_=>rfl
 | k'::ks,v::vs,k,h=>by
  have ih:=XI (ks:=ks) (vs:=vs) k (by simpa using h)
  by_cases e:k'=k
  ·rw [List.zip_cons_cons,XA (p:=(k',v)) e]
   show _=(if k'=k then some v else _)
   rw [if_pos e]
  ·rw [List.zip_cons_cons,X9 (p:=(k',v)) e,ih]
   show _=(if k'=k then some v else _)
   rw [if_neg e]
theorem Ip:∀ {ks:List zL} {vs:List V} (k:zL) (v:V),ks.length=vs.length->((ks.zip vs).map fun kv=>if kv.1=k then (kv.1,v) else kv)=ks.zip (List.zipWith (fun k' x=>if k'=k then v else x) ks vs)
 | [],[],_,_,_=>rfl
 | k'::ks,u::vs,k,v,h=>by
  have ih:=Ip (ks:=ks) (vs:=vs) k v (by simpa using h)
  rw [List.zip_cons_cons,List.map_cons,ih,List.zipWith_cons_cons,List.zip_cons_cons]
  by_cases e:k'=k
  ·rw [if_pos e,if_pos e]
  ·rw [if_neg e,if_neg e]
theorem Iq {ks:List zL} {vs:List V} {k:zL} {v:V} (h:ks.length=vs.length):wR (ks.zip vs) k v=(xE ks k).zip (xI ks vs k v):=by
 unfold wR xE xI
 rw [Io k h]
 by_cases c:yF ks k=true
 ·rw [if_pos c,if_pos c,if_pos c,Ip k v h]
 ·rw [if_neg c,if_neg c,if_neg c,List.zip_append h]
  rfl
theorem qh {ks:List zL} {vs:List α} {k:zL} {v:α} (h:ks.length=vs.length):(xE ks k).length=(xI ks vs k v).length:=by
 unfold xE xI
 split
 ·rw [List.length_zipWith,h,Nat.min_self]
 ·rw [List.length_append,List.length_append,h]
  rfl
theorem JC {ks:List zL} {vs:List α} {k:zL} {v:α} (h:ks.length=vs.length):(xI ks vs k v).length<=vs.length+1:=by
 unfold xI
 split
 ·rw [List.length_zipWith,h,Nat.min_self]
  exact Nat.le_succ _
 ·rw [List.length_append]
  exact Nat.le_refl _
end
section
variable {K:PySem.W.Frag} {G H:Hp}
theorem Reps.getK:∀ {ks:List zL} {ds:List D} {vs:List V} {k:zL} {d:D},Reps K H ds vs->getK ks ds k=some d->∃ v,getK ks vs k=some v/\zV K H d v
 | [],_,_,_,_,_,e=>by cases e
 | _::_,[],_,_,_,_,e=>by cases e
 | k'::ks,d'::ds,_,k,d,r,e=>by
  obtain ⟨v,r',rfl,hv,hr⟩:=r
  change (if k'=k then some d' else L3.getK ks ds k)=some d at e
  by_cases c:k'=k
  ·rw [if_pos c] at e
   cases e
   exact ⟨v,by show (if k'=k then some v else _)=_; rw [if_pos c],hv⟩
  ·rw [if_neg c] at e
   obtain ⟨u,hu,ru⟩:=Reps.getK hr e
   exact ⟨u,by show (if k'=k then some v else _)=_; rw [if_neg c]; exact hu,ru⟩
theorem T3 {α:Type}:∀ {ks:List zL} {vs:List α} (k:zL),ks.length=vs.length->(getK ks vs k).isSome=yF ks k
 | [],[],_,_=>rfl
 | k'::ks,v::vs,k,h=>by
  have ih:=T3 (ks:=ks) (vs:=vs) k (by simpa using h)
  show (if k'=k then some v else getK ks vs k).isSome=(decide (k'=k)||_)
  by_cases c:k'=k
  ·rw [if_pos c,decide_eq_true c]; rfl
  ·rw [if_neg c,decide_eq_false c,ih]; rfl
theorem Reps.zipW {k:zL} {d:D} {v:V} (hv:zV K H d v):∀ {ks:List zL} {ds:List D} {vs:List V},Reps K H ds vs->Reps K H (List.zipWith (fun k' x=>if k'=k then d else x) ks ds) (List.zipWith (fun k' x=>if k'=k then v else x) ks vs)
 | [],_,_,_=>rfl
 | _::_,[],_,r=>by cases (show _=[] from r); rfl
 | k'::ks,d'::ds,_,r=>by
  obtain ⟨u,r',rfl,hu,hr⟩:=r
  refine ⟨_,_,rfl,?_,Reps.zipW hv hr⟩
  show zV K H (if k'=k then d else d') (if k'=k then v else u)
  by_cases c:k'=k
  ·rw [if_pos c,if_pos c]; exact hv
  ·rw [if_neg c,if_neg c]; exact hu
theorem Reps.put {ks:List zL} {ds:List D} {vs:List V} {k:zL} {d:D} {v:V} (r:Reps K H ds vs) (hv:zV K H d v):Reps K H (xI ks ds k d) (xI ks vs k v):=by
 unfold xI
 split
 ·exact Reps.zipW hv r
 ·exact r.append (Reps.one hv)
theorem jr {x:D} {k:zL} {u:V} (h:uy x=some k) (r:zV K H x u):u=kV k:=by
 cases x<;>first | (cases h; done) | skip
 ·cases h; exact r
 ·cases h; exact (show u=_/\_ from r).1
end
section
variable {X:Cx} {K:PySem.W.Frag}
noncomputable def JJ:R2:=fun x y H Q=>∃ a kvs k v,x=.ref a/\y=kV k/\Rd H a (.dK kvs)/\vD kvs k=some v/\Q v H
theorem MH:vU X JJ:=by
 intro value slice pins s σ H x y v u Q I rx ry h hs
 obtain ⟨a,kvs,k,z,rfl,rfl,e,l,q⟩:=h
 cases rx
 obtain ⟨_,_,vs,rel,dd⟩:=pT I.hok e
 obtain ⟨w',hw,rw'⟩:=um.some_of (v:=z) (o:=valueAt vs k) (by rw [<- l]; exact rel.val k)
 exact subscriptTail_builtinR (x:=w') (Oq I (.inl ⟨kvs,k,e,rfl,rfl⟩)) PySem.F.slot_dict_getitem.lookup
  (wpAny_getItem_of (Q:=fun r s'=>r=w'/\EP X pins σ Q r s') (qV ry) dd.mapOf hw ⟨rfl,z,H,I.tok _,rw',q⟩) hs
noncomputable def JI (K:PySem.W.Frag):R2:=fun x y H Q=>V2 K x y H Q\/JJ x y H Q
theorem zY (_:X.A.units+1<cLine):vU X (JI X.K):=MI.or MH
theorem zZ:wW K (JI K) zG:=fun G H x y u v d Q s rx ry hf q=>by
 cases x with
 | dic ks ds=>
  obtain ⟨a,vs,rfl,sq,l,rs,_⟩:=rx
  obtain ⟨k,hk,hf⟩:=zJ hf
  obtain ⟨z,hz,rz⟩:=rs.getK hf
  exact .inr ⟨a,_,k,z,rfl,jr hk ry,Rd.mono s sq,by rw [XI k l]; exact hz,q _ _ _ (zM.refl s) rz⟩
 | non=>cases hf
 | bl b=>cases hf
 | int b=>cases hf
 | str z=>exact .inl (Wi G H (.str z) y u v d Q s rx ry (by cases y<;>exact hf) q)
 | tup z=>exact .inl (Wi G H (.tup z) y u v d Q s rx ry (by cases y<;>exact hf) q)
 | lst z=>exact .inl (Wi G H (.lst z) y u v d Q s rx ry (by cases y<;>exact hf) q)
theorem EZ {i:Nat} {x:Str} {p pos:Pos} {b:Expr} {fb:FE} (hu:X.A.units+1<cLine) (ho:QE X (.Name x p) (vf i)) (hb:SE X b fb) (hs:j7 b=true:=by rfl):SE X (.Subscript (.Name x p) b pos) (e2 zG (wp i) fb):=by
 obtain ⟨tb,pb,kb⟩:=hb.h
 refine ⟨⟨_,Wq (zY hu) ho.h pb (Wt hs),fun {G0 H0 G H τ σ d Q} E hf q=>?_⟩⟩
 obtain ⟨x,hx,hf⟩:=zJ hf
 obtain ⟨y,hy,hf⟩:=zJ hf
 obtain ⟨o,ho⟩:=Uh hx
 cases o with
 | false=>
  obtain ⟨v,ev,rv⟩:=E.fr _ _ ho
  exact ⟨v,ev,kb E hy fun u G2 H2 x2 r2=>zZ G2 H2 x y v u _ _ x2.gh (rv.mono x2.g) r2 hf fun w G' H' x3 r3=>q w G' H' (x2.trans x3) r3⟩
 | true=>
  obtain ⟨p,ev,_,_,o⟩:=E.ow _ _ ho
  refine ⟨_,ev,kb E hy fun u G2 H2 x2 r2=>?_⟩
  cases x with
  | lst ds=>
   obtain ⟨vs,e1,rs,_⟩:=o
   cases y<;>first | (cases hf; done) | skip
   rename_i i
   obtain ⟨w,hw,rw_⟩:=V6 rs hf
   cases r2
   exact .inl (.inl ⟨p,vs,i,w,rfl,rfl,zy.of (x2.h _ _ e1),hw,q _ _ _ x2 (rw_.mono x2.g)⟩)
  | dic ks ds=>
   obtain ⟨vs,e1,l,rs,_⟩:=o
   obtain ⟨k,hk,hf⟩:=zJ hf
   obtain ⟨z,hz,rz⟩:=rs.getK hf
   exact .inr ⟨p,_,k,z,rfl,jr hk r2,.inl (x2.h _ _ e1),by rw [XI k l]; exact hz,q _ _ _ x2 (rz.mono x2.g)⟩
  | _=>exact o.elim
noncomputable def V1 (neg:Bool):R2:=fun x y H Q=>∃ a kvs k,y=.ref a/\x=kV k/\Rd H a (.dK kvs)/\Q (.bl (if neg then !(vD kvs k).isSome else (vD kvs k).isSome)) H
theorem DL (hu:X.A.units+1<cLine):yC X (compareOp .In) (V1 false):=by
 intro pins s σ H x y v u Q I rx ry h
 obtain ⟨a,kvs,k,rfl,rfl,e,q⟩:=h
 cases ry
 exact Om hu I (.inl ⟨kvs,k,e,rfl,rfl⟩) rx fun s' I'=>⟨.bl _,H,I',rfl,q⟩
theorem DR (hu:X.A.units+1<cLine):yC X (compareOp .NotIn) (V1 true):=by
 intro pins s σ H x y v u Q I rx ry h
 obtain ⟨a,kvs,k,rfl,rfl,e,q⟩:=h
 cases ry
 exact On hu I (.inl ⟨kvs,k,e,rfl,rfl⟩) rx fun s' I'=>⟨.bl _,H,I',rfl,q⟩
noncomputable def gI (K:PySem.W.Frag) (neg:Bool):R2:=fun x y H Q=>V0 K neg x y H Q\/(∃ i j,x=.str i/\y=.str j/\Q (.bl (if neg then !(!(Builtin.Str.occurrences j i 0 j.length 1).isEmpty) else !(Builtin.Str.occurrences j i 0 j.length 1).isEmpty)) H)\/V1 neg x y H Q
theorem v0 (hu:X.A.units+1<cLine):yC X (compareOp .In) (gI X.K false):=DM.or (DN.or (DL hu))
theorem j6 (hu:X.A.units+1<cLine):yC X (compareOp .NotIn) (gI X.K true):=DS.or (DT.or (DR hu))
theorem Yq {H:Hp} {x:D} {u:V} (hx:yG x=true) (rx:zV K H x u):∀ {ys:List D} {vs:List V},Reps K H ys vs->ys.all yG=true->vs.all vG=true/\Y9 u vs=ys.any fun y=>zk y x
 | [],_,r,_=>by cases (show _=[] from r); exact ⟨rfl,rfl⟩
 | y::ys,_,r,h=>by
  obtain ⟨v,r',rfl,hv,hr⟩:=r
  rw [List.all_cons,Bool.and_eq_true] at h
  obtain ⟨a,b⟩:=Yq hx rx hr h.2
  refine ⟨by rw [List.all_cons,qi h.1 hv,a]; rfl,?_⟩
  show (wq v u||Y9 u r')=(zk y x||_)
  rw [gK h.1 hx hv rx,b]
theorem TK {neg:Bool} {H:Hp} {x y:D} {u v:V} {k:Bool} {Q:VK} (rx:zV K H x u) (ry:zV K H y v) (hf:pV x y=some k) (q:Q (.bl (if neg then !k else k)) H):gI K neg u v H Q:=by
 cases y with
 | lst ys=>
  obtain ⟨a,vs,rfl,sq,rs,_⟩:=ry
  change (match yG x&&ys.all yG with | true=>some (ys.any fun y=>zk y x) | false=>none)=some k at hf
  cases c:(yG x&&ys.all yG) with
  | false=>rw [c] at hf; cases hf
  | true=>
   rw [c] at hf
   cases hf
   rw [Bool.and_eq_true] at c
   obtain ⟨c1,c2⟩:=Yq c.1 rx rs c.2
   exact .inl ⟨a,vs,rfl,.inl sq,qi c.1 rx,c1,by rw [c2]; exact q⟩
 | tup ys=>
  obtain ⟨a,vs,rfl,sq,rs,_⟩:=ry
  change (match yG x&&ys.all yG with | true=>some (ys.any fun y=>zk y x) | false=>none)=some k at hf
  cases c:(yG x&&ys.all yG) with
  | false=>rw [c] at hf; cases hf
  | true=>
   rw [c] at hf
   cases hf
   rw [Bool.and_eq_true] at c
   obtain ⟨c1,c2⟩:=Yq c.1 rx rs c.2
   exact .inl ⟨a,vs,rfl,.inr sq,qi c.1 rx,c1,by rw [c2]; exact q⟩
 | str j=>
  cases x<;>first | (cases hf; done) | skip
  rename_i i
  cases hf
  exact .inr (.inl ⟨i,j,(show u=_/\_ from rx).1,(show v=_/\_ from ry).1,q⟩)
 | dic ks ds=>
  obtain ⟨kk,hk,hf⟩:=zJ hf
  cases hf
  obtain ⟨a,vs,rfl,sq,l,rs,_⟩:=ry
  refine .inr (.inr ⟨a,_,kk,rfl,jr hk rx,sq,?_⟩)
  rw [XI kk l,T3 kk l]
  exact q
 | _=>cases hf
theorem wz:uG K (gI K false) yA:=fun H x y u v d Q rx ry hf=>by
 obtain ⟨k,hk,hf⟩:=zJ hf
 cases hf
 exact ⟨_,rfl,fun q=>TK rx ry hk q⟩
theorem j5:uG K (gI K true) wH:=fun H x y u v d Q rx ry hf=>by
 obtain ⟨k,hk,hf⟩:=zJ hf
 cases hf
 exact ⟨_,rfl,fun q=>TK rx ry hk q⟩
theorem VN {pos:Pos}:SF X (.Dict [] [] pos) (eC (.dic [] [])):=⟨⟨_,Dm,fun {G0 H0 G H τ σ d Q} E hf q p hp=>by
 cases hf
 exact q p G _ (zM.layO E.ext.gh hp) hp (E.ext.gh.free hp) ⟨[],yQ,rfl,rfl,Nat.zero_le _⟩⟩⟩
theorem VP {i:Nat} {x:Str} {xp pos pos':Pos} {k v:Expr} {fk fv:FE} (hu:X.A.units+1<cLine) (ho:QE X (.Name x xp) (vf i)) (hk:SE X k fk) (hv:SE X v fv) (hs:swapsWith v (some (.Subscript (.Name x xp) k pos')) pos.line X.env=pure false:=by rfl) :
  SS X (.Assign [.Subscript (.Name x xp) k pos'] v pos) (qm i fk fv):=by
 obtain ⟨tk,pk,kk⟩:=hk.h
 obtain ⟨tv,pv,kv⟩:=hv.h
 refine ⟨⟨_,Fe hu ho.h pk pv hs,fun {G0 H0 G H τ σ fl E} K hf q=>?_⟩⟩
 obtain ⟨y,hy,hf⟩:=zJ hf
 refine kv K hy fun w G1 H1 x1 r1=>?_
 split at hf
 ·rename_i ks ds hd
  obtain ⟨xk,hx,hf⟩:=zJ hf
  obtain ⟨key,hkey,hf⟩:=zJ hf
  by_cases c:ks.length<zu
  ·rw [if_pos c] at hf
   cases hf
   have K1:=K.go x1
   obtain ⟨a,ea,g,z,vs,ev,l,rs,hl⟩:=K1.ow _ _ hd
   refine ⟨_,ea,kk K1 hx fun u G2 H2 x2 r2=>⟨a,_,rfl,.inl ⟨_,key,x2.h _ _ ev,jr hkey r2,?_,rfl⟩,?_⟩⟩
   ·rw [List.length_zip,l,Nat.min_self,sizeLine_eq,<- l]; exact c
   ·refine q _ _ _ ((K1.go x2).mut hd ea ⟨xI ks vs key w,?_,qh l,(rs.mono x2.g).put (r1.mono x2.g),?_⟩)
    ·rw [yQ,Iq l]
    ·have h1:=JC (ks:=ks) (vs:=ds) (k:=key) (v:=y) (by rw [l,rs.length])
     have h2:ds.length<16777216:=by rw [<- rs.length,<- l]; exact c
     rw [sizeLine_eq]
     omega
  ·rw [if_neg c] at hf
   cases hf
 ·cases hf
end
end L3
namespace L3
open PySem PySem.Spec PyProof.Rows L2
section
variable {K:PySem.W.Frag} {G H:Hp}
end
section
variable {X:Cx} {a b e o:Expr} {fa fb f:FE} {p pos apos cpos:Pos}
noncomputable abbrev FO:=zd->Option (Option Int)
noncomputable def vn:FO:=fun _=>some none
noncomputable def vo (f:FE):FO:=fun σ=>(f σ).bind fun d=>match d with
 | .int i=>some (some i)
 | _=>none
noncomputable def qQ {α:Type} (xs:List α) (lo hi:Option Int):List α:=(xs.drop (HT.sIx xs.length 0 lo)).take (HT.sIx xs.length xs.length hi - HT.sIx xs.length 0 lo)
noncomputable def Y3 (d:D) (lo hi:Option Int):Option D:=match d with
 | .lst xs=>some (.lst (qQ xs lo hi))
 | .tup xs=>if HT.sIx xs.length 0 lo=0/\HT.sIx xs.length xs.length hi=xs.length then none else some (.tup (qQ xs lo hi))
 | .str z=>some (.str (cutS z lo hi))
 | _=>none
noncomputable def vj (a:FE) (lo hi:FO):FE:=fun σ=>(a σ).bind fun d=>(lo σ).bind fun l=>(hi σ).bind fun h=>Y3 d l h
structure SO (X:Cx) (e:Option Expr) (f:FO):Prop where
 h:∃ t,PO X e t/\∀ {G0 H0 G H:Hp} {τ:zd} {σ:St} {d:Option Int} {Q:Option Int->Hp->Prop},zf X.K X.N.length G0 H0 G H τ σ->f τ=some d->(∀ G' H',zM G H G' H'->Q d H')->t σ H Q
theorem kz:SO X none vn:=⟨⟨_,FW,fun E hf q=>by cases hf; exact q _ _ (zM.refl E.ext.gh)⟩⟩
theorem k_ (h:SE X e f):SO X (some e) (vo f):=by
 obtain ⟨t,pt,k⟩:=h.h
 refine ⟨⟨_,FY pt,fun {G0 H0 G H τ σ d Q} E hf q=>?_⟩⟩
 obtain ⟨x,hx,hf⟩:=zJ hf
 cases x<;>first | (cases hf; done) | skip
 cases hf
 exact k E hx fun v G' H' x r=>⟨_,r,q _ _ x⟩
theorem Reps.cut {K:PySem.W.Frag} {G:Hp} {ds:List D} {vs:List V} (r:Reps K G ds vs) (lo hi:Option Int):Reps K G (qQ ds lo hi) (tV vs lo hi):=by
 unfold qQ tV
 rw [r.length]
 exact (r.drop _).take _
theorem UX {α:Type} (xs:List α) (lo hi:Option Int):(qQ xs lo hi).length<=xs.length:=by
 unfold qQ
 rw [List.length_take,List.length_drop]
 omega
noncomputable def CB (K:PySem.W.Frag):V->Option Int->Option Int->Hp->VK->Prop:=fun x lo hi H Q=>JO K x lo hi H Q\/JQ K x lo hi H Q\/JP x lo hi H Q
theorem Ev:uo X (CB X.K):=Ew.or (Ey.or Ex)
theorem ku {lo hi:Option Expr} {fl fh:FO} {p2:Pos} (ha:SE X a fa) (hl:SO X lo fl) (hh:SO X hi fh):SE X (.Subscript a (.Slice lo hi none p2) pos) (vj fa fl fh):=by
 obtain ⟨ta,pa,ka⟩:=ha.h
 obtain ⟨tl,pl,kl⟩:=hl.h
 obtain ⟨th,ph,kh⟩:=hh.h
 refine ⟨⟨_,Dt Ev pa pl ph,fun {G0 H0 G H τ σ d Q} E hf q=>?_⟩⟩
 obtain ⟨x,hx,hf⟩:=zJ hf
 obtain ⟨l,hl,hf⟩:=zJ hf
 obtain ⟨h,hh,hf⟩:=zJ hf
 refine ka E hx fun v G1 H1 x1 r1=>kl (E.go x1) hl fun G2 H2 x2=>kh ((E.go x1).go x2) hh fun G3 H3 x3=>?_
 have xx:=x1.trans (x2.trans x3)
 have r3:=r1.mono (x2.g.trans x3.g)
 cases x with
 | lst xs=>
  cases hf
  obtain ⟨a,vs,rfl,sq,rs,ll⟩:=r3
  refine .inl ⟨a,vs,rfl,wA x3.gh sq,fun p hp=>q _ _ _ (xx.trans (zM.lay x3.gh hp)) ⟨p,_,rfl,zy.of yQ,(rs.cut l h).mono (wJ (x3.gh.free hp) _),Nat.le_trans (UX ..) ll⟩⟩
 | tup xs=>
  change (if HT.sIx xs.length 0 l=0/\HT.sIx xs.length xs.length h=xs.length then none else some (D.tup (qQ xs l h)))=some d at hf
  by_cases c:HT.sIx xs.length 0 l=0/\HT.sIx xs.length xs.length h=xs.length
  ·rw [if_pos c] at hf
   cases hf
  ·rw [if_neg c] at hf
   cases hf
   obtain ⟨a,vs,rfl,sq,rs,ll⟩:=r3
   refine .inr (.inl ⟨a,vs,rfl,v3 x3.gh sq,by rw [rs.length]; exact c,fun p hp=>?_⟩)
   exact q _ _ _ (xx.trans (zM.lay x3.gh hp)) ⟨p,_,rfl,yU.of yQ,(rs.cut l h).mono (wJ (x3.gh.free hp) _),Nat.le_trans (UX ..) ll⟩
 | str z=>
  cases hf
  obtain ⟨rfl,ll⟩:=r3
  exact .inr (.inr ⟨z,rfl,ll,q _ _ _ xx ⟨rfl,Nat.le_trans (cut_len ..) ll⟩⟩)
 | _=>cases hf
noncomputable def Y1:List D->Option D
 | [.lst xs]=>some (.lst xs)
 | [.tup xs]=>some (.lst xs)
 | _=>none
theorem tF {K:PySem.W.Frag} {G:Hp} {d:D} {vs:List V} (r:Reps K G [d] vs):∃ v,vs=[v]/\zV K G d v:=by
 obtain ⟨v,r',rfl,hv,hr⟩:=r
 cases (show r'=[] from hr)
 exact ⟨v,rfl,hv⟩
theorem Eh {fs:FA} (hg:Gl X "list") (hm:X.mg "list" = none) (ha:SA X [e] fs) (hs:yl e=true:=by rfl):SF X (.Call (.Name "list" p) [e] [] pos) (eL Y1 fs):=by
 obtain ⟨t,pt,k⟩:=ha.h
 refine ⟨⟨_,(j9 OR hg hm UN ⟨pt⟩ (by decide) (by decide) (by rw [List.all_cons,hs]; rfl)).h,fun {G0 H0 G H τ σ d Q} E hf q=>?_⟩⟩
 obtain ⟨ds,hd,hf⟩:=zJ hf
 refine k E hd fun vs G1 H1 x1 r1=>?_
 match ds,hf with
 | [.lst xs],hf=>
  cases hf
  obtain ⟨v,rfl,a,us,rfl,sq,rs,l⟩:=tF r1
  exact ⟨a,us,rfl,.inl (wA x1.gh sq),fun p hp=>q p _ _ (x1.trans (zM.layO x1.gh hp)) (x1.h.free hp) (x1.gh.free hp) ⟨us,yQ,rs,l⟩⟩
 | [.tup xs],hf=>
  cases hf
  obtain ⟨v,rfl,a,us,rfl,sq,rs,l⟩:=tF r1
  exact ⟨a,us,rfl,.inr (v3 x1.gh sq),fun p hp=>q p _ _ (x1.trans (zM.layO x1.gh hp)) (x1.h.free hp) (x1.gh.free hp) ⟨us,yQ,rs,l⟩⟩
noncomputable def jm (x:D):List D->Nat->Option Nat
 | [],_=>none
 | y::ys,n=>match zk y x with
  | true=>some n
  | false=>jm x ys (n+1)
noncomputable def L7:D->D->Option D
 | .lst ys,x=>match yG x&&ys.all yG with
  | true=>(jm x ys 0).bind fun n=>some (.int n)
  | false=>none
 | _,_=>none
theorem Td {x:D}:∀ {ys:List D} {n m:Nat},jm x ys n=some m->∃ j y,m=n+j/\ys[j]?=some y/\zk y x=true/\∀ i z,i<j->ys[i]?=some z->zk z x=false
 | [],_,_,h=>by cases h
 | y::ys,n,m,h=>by
  change (match zk y x with | true=>some n | false=>jm x ys (n+1))=some m at h
  cases c:zk y x with
  | true=>
   rw [c] at h
   cases h
   exact ⟨0,y,rfl,rfl,c,fun i z hi=>absurd hi (Nat.not_lt_zero _)⟩
  | false=>
   rw [c] at h
   obtain ⟨j,y',e1,e2,e3,e4⟩:=Td h
   refine ⟨j+1,y',by omega,by simpa using e2,e3,fun i z hi ez=>?_⟩
   cases i with
   | zero=>cases ez; exact c
   | succ i=>exact e4 i z (by omega) (by simpa using ez)
theorem Jz {i:Nat} {x:Str} {op:Operator} {ti:jY} {F:D->D->Option D} {pos':Pos} (ho:XT X op ti) (hF:wW X.K ti F) (hN:X.N.Nodup) (hi:X.N[i]?=some x) (hx:wM X.env.scope x) (he:SE X e f) (hf:X.fn x=true\/X.env.scope.names.lookup x=some .local:=by first | exact .inl rfl | exact .inr rfl | assumption) :
  SS X (.AugAssign (.Name x pos') op e pos) (zS i (e2 F (z6 i) f)):=by
 obtain ⟨t,pt,k⟩:=he.h
 refine ⟨⟨_,Fd hN hi hx pt ho hf,fun {G0 H0 G H τ σ fl E} K hf q=>?_⟩⟩
 obtain ⟨d,hd,hf⟩:=zJ hf
 cases hf
 obtain ⟨x,hx,hd⟩:=zJ hd
 obtain ⟨y,hy,hd⟩:=zJ hd
 obtain ⟨v,ev,rv⟩:=K.fr _ _ (Ui hx)
 refine ⟨v,ev,k K hy fun u G1 H1 x1 r1=>hF G1 H1 x y v u d _ x1.gh (rv.mono x1.g) r1 hd fun w G2 H2 x2 r2=>?_⟩
 exact q _ _ _ (((K.go x1).go x2).set (List.getElem?_eq_some_iff.mp hi).1 r2)
theorem QY {K:PySem.W.Frag}:wW K (TV fun i j=>i+j) (xt fun i j=>i+j):=fun G H x y u v d Q s rx ry hf q=>by
 cases x<;>first | (cases hf; done) | skip
 cases y<;>first | (cases hf; done) | skip
 cases hf
 exact ⟨_,_,rx,ry,q _ _ _ (zM.refl s) rfl⟩
theorem GK {i:Nat} {x:Str} {pos':Pos} (hN:X.N.Nodup) (hi:X.N[i]?=some x) (hx:wM X.env.scope x) (he:SE X e f) (hs:swapsWith e (some (.Name x pos')) pos.line X.env=pure false:=by rfl)
  (hf:X.fn x=true\/X.env.scope.names.lookup x=some .local:=by first | exact .inl rfl | exact .inr rfl | assumption):SS X (.Assign [.Name x pos'] e pos) (zS i f):=by
 obtain ⟨t,p,k⟩:=he.h
 refine ⟨⟨_,(Fz hN hi hx ⟨p⟩ hs hf).h,fun {G0 H0 G H τ σ fl E} K hf q=>?_⟩⟩
 obtain ⟨d,hd,hf⟩:=zJ hf
 cases hf
 exact k K hd fun v G' H' x r=>q _ _ _ ((K.go x).set (List.getElem?_eq_some_iff.mp hi).1 r)
variable {x:Str} {ps:List Str} {j k:Nat} {FF:List D->Option (Bool×D)}
theorem EW (h:zN X.prog X.w X.K X.mg X.base x ps k (zO X.K FF)) (hr:yj j X.A) (hg:Gl X x) (hk:k<=j:=by decide) (hdb:(x == ("__debug__" : Str))=false:=by decide):SE X (.Call (.Name x p) [] [] pos) (zX FF zD):=by
 obtain ⟨f,fd,hm,kp,b,F⟩:=h
 refine ⟨⟨_,Dh F (hr.mono hk) hg hm kp b .nil Wo hdb,fun {G0 H0 G H τ σ d Q} E hf q=>?_⟩⟩
 obtain ⟨ds,hd,hf⟩:=zJ hf
 cases hd
 obtain ⟨⟨o,d⟩,hr,hf⟩:=zJ hf
 cases hf
 refine ⟨G,[],o,d,E.ext.gh,rfl,hr,?_⟩
 cases o with
 | false=>exact fun v G' H' x2 r=>q v G' H' x2 r
 | true=>
  intro p G' H' x2 hp gp o
  obtain ⟨u,hu,r⟩:=o.frz gp
  exact q _ _ _ (x2.frz hp gp hu) r
end
noncomputable def FR (n N:Nat) (b:FS) (ds:List D):Option (Bool×D):=if ds.length=n then zc N b ds else none
theorem yK {n N:Nat} {b:FS}:∀ ds r,FR n N b ds=some r->ds.length=n/\zc N b ds=some r:=fun ds r h=>by
 unfold FR at h
 split at h
 ·rename_i c
  exact ⟨c,h⟩
 ·cases h
end L3
namespace L3
open PySem PySem.Spec PyProof.Rows L2
theorem IQ {M:Model} {A:Around} {E:Value->Shared->Prop} {items:Array Value} {x:Value} {e:Value->Bool} {j:Nat} (hM:∃ prog w,M=model prog w) (hj:j<items.size) (hit:e items[j]=true) (no:∀ m (hm:m<items.size),m<j->e items[m]=false) {s:Shared}
  (he:∀ y∈items,SeqAt.EqAt A s y x (e y)) {Q:Option PySem.Fin×Unit->Shared->Prop} (h:Q (some (.done (.ret (.int j s.toks))),()) { s with toks:=s.toks+1 }):∀ m i:Nat,i+m=items.size->i<=j->
  wpAny M A (forIn (List.range' i m) ((none,()):Option PySem.Fin×Unit) fun (i:Nat) (_:Option PySem.Fin×Unit)=>match items[i]? with
   | some y=>do
    let __do_lift <- eqBool y x
    if __do_lift=true then do
      let __do_lift <- retInt (i:Int)
      pure (ForInStep.done (some __do_lift,()))
     else pure (ForInStep.yield (none,()))
   | _=>pure (ForInStep.yield (none,()))) Q E s
 | 0,i,h1,h2=>by omega
 | m+1,i,h1,h2=>by
  obtain ⟨prog,w,rfl⟩:=hM
  have hi:i<items.size:=by omega
  rw [List.range'_succ,List.forIn_cons]
  refine wpAny_bind ?_
  rw [Array.getElem?_eq_getElem hi]
  refine wpAny_bind (he _ (Array.getElem_mem hi) prog w E _ ?_)
  by_cases c:i=j
  ·subst c
   rw [hit,if_pos rfl]
   wp_walk
   exact h
  ·rw [no i hi (by omega),if_neg (by decide)]
   refine wpAny_pure ?_
   exact IQ ⟨prog,w,rfl⟩ hj hit no he h m (i+1) (by omega) (by omega)
theorem Gw (t:Addr) (items:Array Value) (x:Value) (e:Value->Bool) (j:Nat) (hj:j<items.size) (hit:e items[j]=true) (no:∀ m (hm:m<items.size),m<j->e items[m]=false) :
  Meets (Builtin.«tuple.index» ⟨[.ref t,x],[]⟩) (fun A R s=>IsTup s.heap t items/\(∀ y∈items,SeqAt.EqAt A.in1 s y x (e y))/\R (.ok (.ret (.int j s.toks))) { s with toks:=s.toks+1 }):=by
 intro prog w A R s h
 obtain ⟨hp,g,d,tk,os⟩:=s
 obtain ⟨⟨o,ho,hc,n,hd⟩,he,h⟩:=h
 unfold Builtin.«tuple.index»
 wp_walk
 skip
 rw [hd]
 refine wpAny_pure (wpAny_pure ?_)
 show wpAny _ _ (pure 0 >>= _) _ _ _
 refine wpAny_bind (wpAny_pure (wpAny_bind (wpAny_pure (wpAny_bind ?_))))
 rw [Std.Legacy.Range.forIn_eq_forIn_range']
 have hs:Std.Legacy.Range.size [0:min items.size items.size]=items.size:=by simp [Std.Legacy.Range.size]
 rw [hs]
 refine IQ ⟨prog,w,rfl⟩ hj hit no he ?_ items.size 0 (by omega) (by omega)
 exact wpAny_pure h
section
variable {X:Cx} {e o k v:Expr} {f fo fk fv:FE} {x:Str} {xp p pos apos cpos:Pos}
theorem Mw:pL X "tuple.index" (fun x vs H Q=>∃ (a:Addr) (us:List V) (y:V) (j:Nat) (u:V),x=.ref a/\vs=[y]/\yU X.K H a us/\vG y=true/\us.all vG=true/\us[j]?=some u/\wq u y=true/\(∀ i z,i<j->us[i]?=some z->wq z y=false)/\Q (.int (j:Int)) H):=by
 intro pins s σ H x xs v us' Q I rx rs h
 obtain ⟨a,us,y,j,u,rfl,rfl,sq,fy,fu,eu,hit,no,q⟩:=h
 cases rx
 obtain ⟨w,rfl,ry⟩:=vE rs
 obtain ⟨its,r,pt,hz⟩:=I.tuple sq
 have hl:=r.length
 have hj:j<us.length:=(List.getElem?_eq_some_iff.mp eu).1
 have key:∀ (i:Nat) (z:V) (hi:i<its.toArray.size),us[i]?=some z->wP y its.toArray[i]=wq z y:=fun i z hi ez=>by
  obtain ⟨t,et,rt⟩:=r.get ez
  have e:its.toArray[i]=t:=by
   have h2:its[i]?=some its[i]:=List.getElem?_eq_getElem (by rw [List.size_toArray] at hi; exact hi)
   rw [h2] at et
   simpa using et
  rw [e]
  exact Xu rt (List.all_eq_true.mp fu z (List.mem_of_getElem? ez))
 have hjs:j<its.toArray.size:=by rw [List.size_toArray,<- hl]; exact hj
 refine call_meets PySem.F.slot_tuple_index pt.typeIs PySem.F.entry_tuple_index (PySem.F.args_tuple_index_2 _ _) (Gw a its.toArray w (wP y) j hjs (by rw [key j u hjs eu]; exact hit) fun m hm hlt=>?_) ⟨pt,fun t ht=>?_,⟨.int j,H,I.tok _,⟨_,rfl⟩,q⟩⟩
 ·have hm':m<us.length:=by rw [List.size_toArray,<- hl] at hm; exact hm
  rw [key m us[m] hm (List.getElem?_eq_getElem hm')]
  exact no m _ hlt (List.getElem?_eq_getElem hm')
 ·exact j1 ry fy r fu t (by simpa using ht)
noncomputable def uI (K:PySem.W.Frag) (A:Addr):Prop:=∃ o,K.lookup A=some o/\o.cls=.type "tuple" /\ o.dict=none
noncomputable def Uw (ds:List D) (y:D):Option D:=L7 (.lst ds) y
theorem EY {A:Addr} {ds:List D} (h:yt X.mg x (.ref A)) (r:∀ H,zV X.K H (.tup ds) (.ref A)) (kt:uI X.K A) (hg:Gl X x) (he:SE X e f) (hd:(x == ("__debug__" : Str))=false:=by decide)
  (hbase:attributeBase (.Name x xp) "index" X.env (eval (.Name x xp) X.env)=eval (.Name x xp) X.env:=by rfl) (hline:(apos.endLine == cpos.line)=true:=by rfl) (hs:yl e=true:=by rfl) :
  SE X (.Call (.Attribute (.Name x xp) "index" apos) [e] [] cpos) (e1 (Uw ds) f):=by
 obtain ⟨te,pe,ke⟩:=(zC he zI hs).h
 refine ⟨⟨_,(gG PySem.F.plainAttrs_tuple PySem.F.slot_tuple_index PySem.F.type_tuple_index Mw (Fx h hg hd) ⟨pe⟩ hbase hline (by rw [List.all_cons,hs]; rfl) (by show 1<30; decide)).h,fun {G0 H0 G H τ σ d Q} E hf q=>?_⟩⟩
 obtain ⟨y,hy,hf⟩:=zJ hf
 refine ⟨.inr (.inl ⟨rfl,kt⟩),ke E (ds:=[y]) (by unfold zB; rw [hy]; rfl) fun ws G2 H2 x2 r2=>?_⟩
 obtain ⟨w,rfl,rw_⟩:=tF r2
 obtain ⟨a,us,ea,sq,rs,_⟩:=r G2
 cases ea
 change (match yG y&&ds.all yG with | true=>(jm y ds 0).bind fun n=>some (D.int n) | false=>none)=some d at hf
 cases c:(yG y&&ds.all yG) with
 | false=>rw [c] at hf; cases hf
 | true=>
  rw [c] at hf
  obtain ⟨n,hn,hf⟩:=zJ hf
  cases hf
  rw [Bool.and_eq_true] at c
  obtain ⟨j,z,e1,e2,e3,e4⟩:=Td hn
  rw [Nat.zero_add] at e1
  subst e1
  obtain ⟨u,eu,ru⟩:=rs.get e2
  have fl:∀ {i:Nat} {z:D},ds[i]?=some z->yG z=true:=fun {i z} ez=>List.all_eq_true.mp c.2 z (List.mem_of_getElem? ez)
  refine ⟨A,us,w,n,u,rfl,rfl,v3 x2.gh sq,qi c.1 rw_,(Yq c.1 rw_ rs c.2).1,eu,by rw [gK (fl e2) c.1 ru rw_]; exact e3,fun i z hi ez=>?_,q _ _ _ x2 rfl⟩
  obtain ⟨dz,ed,rd⟩:=rs.at ez
  rw [gK (fl ed) c.1 rd rw_]
  exact e4 i dz hi ed
noncomputable def xH (i:Int):Nat:=Builtin.Int.intBits i
noncomputable def W1:D->D->Option D:=fI (fun i j=>decide (xH i+xH j<=134217728)) (·*·)
theorem DO:yC X (binaryOp .Mult) (rI (fun i j=>xH i+xH j<=134217728) fun i j=>.int (i*j)):=g9 fun i j _ _ _ _ _ hc q=>mul_int q (by
 unfold IntMulOk
 intro h
 rw [Bool.and_eq_true] at h
 have h2:decide (((Builtin.Int.intBits i+Builtin.Int.intBits j:Nat):Int) > (134217728:Nat))=true:=h.2
 have h3:=of_decide_eq_true h2
 have h4:Builtin.Int.intBits i+Builtin.Int.intBits j<=134217728:=hc
 omega)
theorem Bl {K:PySem.W.Frag}:wW K (rI (fun i j=>xH i+xH j<=134217728) fun i j=>.int (i*j)) W1:=j4 fun _ _ h=>of_decide_eq_true h
end
end L3
namespace L3
open PySem PySem.Spec PyProof.Rows L2 PySem.W
theorem Ie:∀ {ns:List Int} {m:Int},m∈ns->xH m<=WData.weightAll (ns.map WData.int)
 | [],_,h=>by cases h
 | n::ns,m,h=>by
  have e:WData.weightAll ((n::ns).map WData.int)=xH n+1+WData.weightAll (ns.map WData.int):=by
   show WData.weightAll (WData.int n::ns.map WData.int)=_
   rw [WData.weightAll]
   rfl
  rw [e]
  rcases List.mem_cons.mp h with rfl | h
  ·omega
  ·have:=Ie h
   omega
theorem Mk {ns:List Int} (h:WData.layableAll [.list (ns.map WData.int)]=true):∀ m∈ns,xH m<=1048576:=fun m hm=>by
 have h1:WData.layable (.list (ns.map WData.int))=true:=List.all_eq_true.mp h _ (List.mem_singleton.mpr rfl)
 unfold WData.layable at h1
 rw [Bool.and_eq_true] at h1
 have h2:WData.weight (.list (ns.map WData.int))<=2 ^ 20:=of_decide_eq_true h1.2
 have h3:=Ie hm
 have h4:WData.weight (.list (ns.map WData.int))=WData.weightAll (ns.map WData.int):=by rw [WData.weight]
 omega
section
variable {P:Program} {w:World} {K:PySem.W.Frag} {mg:Str->Option Value} {base:Heap}
noncomputable def Z0 (K:PySem.W.Frag):Sp:=fun vs H Q _=>∃ (a:Addr) (ns:List Int),vs=[.ref a]/\zy K H a (ns.map V.int)/\ns.length<=63/\(∀ m∈ns,xH m<=1048576)/\∀ H',Q (.bl true) H'
theorem Mi {x:Str} {st:Stmt} {N:List Str} {k:Nat} {b:FS} {f:Addr} {fd:FuncData} (d:tO K "law" "law" st f fd) (S:y9 N [x] (zo st)) (hN:1<=N.length) (hrun:∀ ns:List Int,ns.length<=63->(∀ m∈ns,xH m<=1048576)->∃ o,zc N.length b [.lst (ns.map D.int)]=some (o,.bl true))
  (hb:∀ (cdv:Value) (A:Around) (outer:List Env) (s:Shared) (H:Hp) (E:XK),yj k (A.deeper (envOfC "law" (zo st) s.heap.objs.size f cdv))->wg (ut v4 P w K mg base N "law" (zo st) f cdv A outer s H E).nox (uK st) b):v7 P w K mg base v4 (k+1) f fd [x] (Z0 K):=by
 refine d.ok S (fun vs H Q E h=>?_) fun cdv A outer s H vs Q E hr h=>?_
 ·obtain ⟨a,ns,rfl,_⟩:=h
  rfl
 ·obtain ⟨a,ns,rfl,sq,l,hbits,q⟩:=h
  obtain ⟨o,hrun⟩:=hrun ns l hbits
  obtain ⟨t,p,kt⟩:=(hb cdv A outer s H E hr).h
  obtain ⟨fl,hfl,hrun⟩:=zJ hrun
  have r:Reps K H [.lst (ns.map D.int)] [.ref a]:=⟨_,_,rfl,⟨a,_,rfl,sq,Reps.ints,by rw [List.length_map]; exact small (by omega)⟩,rfl⟩
  refine ⟨t,p,kt (Up (N:=N) (zx.refl H) r hN) hfl ?_⟩
  cases fl with
  | nx τ=>cases hrun
  | rt o' d'=>
   cases hrun
   cases o with
   | false=>
    intro v G H' _ r
    cases (show v=.bl true from r)
    exact q H'
   | true=>exact fun p G H' _ _ _ z=>z.elim
  | _=>cases hrun
end
theorem walkB {l:PySem.W.OpenLaw} {n k:Nat} {q:Program} {loose:List Str} {XP:(Str->Option Value)->Heap->Prop} {YP:World->Heap->Prop} {d:DefRec} {K:Params->PySem.W.Frag} {sp:PySem.W.Frag->Sp} {x:Str}
  (hn:l.most=some n) (hn2:n<=sizeLine) (hdf:d.params.defaults=[]) (hr:yj k callerA) (hY:∀ (w:World) (h:Heap),YP w h->(K w.params).In h)
  (F:∀ (w:World) (mg:Str->Option Value) (fa:Addr) (h:Heap),(K w.params).In h->h.Ns mainGlobals mg->mg d.name=some (.ref fa)->
   ∃ fd:FuncData,(∀ (s:Shared) (u:Value),BindsTo s fd ⟨[u],[]⟩ [(x,u)])/\∀ base:Heap,(K w.params).In base->base.Ns mainGlobals mg->v7 l.prog w (K w.params) mg base v4 k fa fd [x] (sp (K w.params)))
  (hsp:∀ (K:PySem.W.Frag) (H:Hp) (a:Addr) (ns:List Int),ns.length<=n->(∀ m∈ns,xH m<=1048576)->zy K H a (ns.map V.int)->sp K [.ref a] H (fun v _=>v=.bl true) fun _ _ _=>False) :
  PySem.W.WalkO q loose XP YP l.row.toRowW d [] (fun f vs=>PySem.call f vs):=by
 intro w s0 s1 mg mb Gr Y fa o pm cd doc dV kV ho hd hcd hD hmg hg args vals as hpre hlay hrd hwl hlo
 have e1:dV=.none:=Dflts.none hD hdf
 have e2:kV=.none:=Dflts.noKw hD
 subst e1 e2
 obtain ⟨a,vs,ns,rfl,rfl,hobj,hints,hlen⟩:=Att.script_of hn hpre hwl
 have KX:=hY w _ Y
 obtain ⟨fd,hb,hF⟩:=F w mg fa _ KX Gr.T.g hmg
 have main:=Mg KX Gr.T.g Gr.T.b Gr.T.builtins Gr.T.nolimit hg hobj hints (Nat.le_trans hlen hn2) hr hF hb (fun H _ hS=>hsp _ H a ns hlen (Mk hlay) hS) (fun _ _ _ z=>z)
 refine enter_call (codeAny_mono main fun r s' hq=>?_)
 obtain ⟨rfl,h2,h3,h4⟩:=hq
 refine ⟨.inl ⟨.bool true,.bool true,[],rfl,fun _=>rfl,.bool true,Att.post_true l _,fun _=>?_⟩,h2,h3,h4⟩
 exact ⟨List.Pairwise.nil,fun _ hm=>nomatch hm⟩
end L3
namespace L3
open PySem PySem.Spec PyProof.Rows L2
theorem LD {prog:Program} {w:World} {A:Around} {E:Value->Shared->Prop} {s:Shared} {a:Addr} {o:Obj} {xs:Array Value} {k:Nat} {name:Str} {Q:Option Value->Shared->Prop}
  (hx:s.heap.get? a=some o) (hc:o.cls=.type "list") (hdat:o.data=.seq xs k) (hd:o.dict=none) (hmiss:typeLookup (.type "list") name=pure none)
  (hname:(["__module__", "__name__", "__qualname__", "__doc__", "__annotations__"]:List Str).contains name=false) (hA:A.handled=none)
  (h:∀ h' tk,(∀ b ob,s.heap.get? b=some ob->h'.get? b=some ob)->Q none { s with heap:=h',toks:=tk }) (hsz:name.length+100<=sizeLine) :
  wpAny (model prog w) A (getAttr? (.ref a) name) Q E s:=by
 obtain ⟨c,dct,dat,sl⟩:=o
 simp only at hc hdat hd
 subst hc hdat hd
 obtain ⟨hp,g,d,tk,os⟩:=s
 have hT:∀ tk',(⟨hp,g,d,tk',os⟩:Shared).TypeIs (.ref a) "list" := fun _=>⟨_,hx,rfl⟩
 have f1:=sub_AttributeError
 have f3:=F.slot_list_getattribute.lookup
 have f4:=F.slot_list_getattribute.bind (.ref a)
 have f5:=am_list_getattr_none
 unfold getAttr? getAttrBy? getAttrBy
 repeat (any_goals (first | assumption | exact hT _ | ((with_reducible show wpAny _ _ (call (Value.builtin "list.__getattribute__") _ _) _ _ _); refine call_meets F.slot_list_getattribute (hT _) am_entry_list_getattribute (F.args_list_getattribute_2 _ _) (meets_getattribute_miss_list a xs k sl name _ hmiss hname hsz) ⟨hx,hA,fun h' tk' e hx'=>?_⟩) | wp_step))
 obtain ⟨t',u',he⟩:=hx'.there
 show wpAny _ _ (getattributeRaised _ _ _ _ _ _ _) _ _ _
 unfold getattributeRaised
 repeat (any_goals (first | assumption | wp_step))
 exact h _ _ hx'.keeps
theorem Yj:plainId "dict.update.loop" = true:=by decide +kernel
theorem Uo:entryFor table "dict.update.loop" = some Builtin.«dict.update.loop»:=entryFor_of_fast (by kernel_rfl)
theorem _root_.PySem.Heap.DictOf.keepB {prog:Program} {w:World} {h h':Heap} {a:Addr} {kvs:List (zL×Value)} (hm:h.DictOf (yc prog w) a kvs) (k:∀ o,h.get? a=some o->h'.get? a=some o):h'.DictOf (yc prog w) a kvs:=
 let ⟨o',es,ep,ho,r⟩:=hm; ⟨o',es,ep,k _ ho,r⟩
theorem GN (kvs:List (zL×Value)) (k:zL) (v:Value):(stored kvs k v).length<=kvs.length+1:=by
 unfold stored
 split
 ·rw [List.length_map]; omega
 ·rw [List.length_append]; exact Nat.le_refl _
noncomputable def XV (h:Heap) (v:Value) (k:zL) (x:Value):Prop:=∃ b key,v=.ref b/\wQ k key=true/\IsTup h b #[key,x]
theorem IV {prog:Program} {w:World} {A:Around} {R:Result->Shared->Prop} {d it l:Addr} {its:List Value} (hA:A.handled=none) (hdl:d≠l) (hdi:d≠it) (hli:l≠it) :
  ∀ (kvs:List (zL×Value)) (i:Nat) (acc:List (zL×Value)) (s:Shared),s.heap.IsListIter it l i->s.heap.IsList l its.toArray->i+kvs.length=its.length->(∀ j kv,kvs[j]?=some kv->∃ v,its[i+j]?=some v/\XV s.heap v kv.1 kv.2)->
   s.heap.DictOf (yc prog w) d acc->acc.length+kvs.length<=sizeLine->(∀ h' tk,h'.DictOf (yc prog w) d (kvs.foldl (fun a kv=>stored a kv.1 kv.2) acc)->(∀ b o,b≠d->b≠it->s.heap.get? b=some o->h'.get? b=some o)->R (.ok (.ret .none)) { s with heap:=h',toks:=tk })->
   wpAny (model prog w) A.in1 (Builtin.«dict.update.loop» ⟨[.ref d,.ref it,rawInt i,.none],[]⟩) (fun fin s'=>match fin with | .done f=>R (.ok f) s' | .again c'=>c'.quiet=true/\codeAny (model prog w) A c' R s') (fun e s'=>R (.error e) s') s
 | [],i,acc,s,st,hl,hn,hp,hd,hz,h=>by
  unfold Builtin.«dict.update.loop»
  refine wpAny_bind (wpAny_pyNext_list_end (by exact hA) st hl (by simp at hn ⊢; omega) fun h' eb=>?_)
  show wpAny _ _ (Builtin.Dict.addKeywords d [] >>= _) _ _ _
  refine wpAny_bind (wpAny_pure (wpAny_pure ?_))
  exact h h' s.toks (hd.keepB fun o e=>eb d o hdi e) (fun b o _ hb e=>eb b o hb e)
 | kv::kvs,i,acc,s,st,hl,hn,hp,hd,hz,h=>by
  obtain ⟨v,hv,b,key,rfl,hk,ht⟩:=hp 0 kv rfl
  unfold Builtin.«dict.update.loop»
  refine wpAny_bind (wpAny_pyNext_list_item st hl (x:=.ref b) (by simpa using hv) fun h1 st1 sb=>?_)
  have keep1:∀ c o,c≠it->s.heap.get? c=some o->h1.get? c=some o:=fun c o hc e=>(sb.2 c hc).trans e
  have notIt:∀ {c:Addr} {xs:Array Value},IsTup s.heap c xs->c≠it:=fun {c xs} t e=>by
   subst e
   obtain ⟨o,e1,c1,_⟩:=t
   obtain ⟨o',e2,c2,_⟩:=st
   rw [e1] at e2
   cases e2
   rw [c1] at c2
   exact absurd (Value.type.inj c2) (by decide)
  have notD:∀ {c:Addr} {xs:Array Value},IsTup s.heap c xs->c≠d:=fun {c xs} t e=>by
   subst e
   obtain ⟨o,e1,c1,_⟩:=t
   obtain ⟨o',es,ep,e2,c2,_⟩:=hd
   rw [e1] at e2
   cases e2
   have c3:=c2.1
   rw [c1] at c3
   exact absurd (Value.type.inj c3) (by decide)
  obtain ⟨o,ho,hc,n,hdat⟩:=ht
  have ho1:=keep1 b o (notIt ⟨o,ho,hc,n,hdat⟩) ho
  have hd1:h1.DictOf (yc prog w) d acc:=hd.keepB fun o e=>keep1 d o hdi e
  refine wpAny_bind (wpAny_holding (wpAny_bind (wpAny_tryCatch ?_)))
  unfold Builtin.Dict.pairItems
  refine wpAny_bind (wpAny_typeOf (T := "tuple") ⟨o,ho1,hc⟩ ?_)
  rw [if_pos (by rfl)]
  refine wpAny_bind (wpAny_seqItems ho1 hdat (wpAny_pure ?_))
  refine wpAny_holding (wpAny_dictSet_pairs (knd:=yc prog w) (k:=kv.1) hk hd1 (fun h2 hd2 sb2=>?_) (by omega))
  refine wpAny_pure ⟨plainId_quiet Yj _,codeAny_builtin Uo ?_⟩
  rw [Around.under_plainId Yj _]
  have keep2:∀ c o,c≠d->c≠it->s.heap.get? c=some o->h2.get? c=some o:=fun c o h1' h2' e=>(sb2.2 c h1').trans (keep1 c o h2' e)
  have key2:∀ {c:Addr} {xs:Array Value},IsTup s.heap c xs->IsTup h2 c xs:=fun {c xs} t=>by
   have a1:=notD t
   have a2:=notIt t
   obtain ⟨o,e1,r⟩:=t
   exact ⟨o,keep2 c o a1 a2 e1,r⟩
  refine IV (its:=its) hA hdl hdi hli kvs (i+1) (stored acc kv.1 kv.2) _ ?_ ?_ (by rw [List.length_cons] at hn; omega) (fun j kv' e=>?_) hd2 ?_ fun h' tk hd' kp=>?_
  ·exact st1.at fun o e=>(sb2.2 it (fun z=>hdi z.symm)).trans e
  ·obtain ⟨o,e,r⟩:=hl
   exact ⟨o,keep2 l o (fun z=>hdl z.symm) hli e,r⟩
  ·obtain ⟨v',hv',b',key',rfl,hk',ht'⟩:=hp (j+1) kv' (by simpa using e)
   exact ⟨_,by rw [show i+1+j=i+(j+1) by omega]; exact hv',b',key',rfl,hk',key2 ht'⟩
  ·have:=GN acc kv.1 kv.2
   rw [List.length_cons] at hz
   omega
  ·exact h h' tk hd' fun c o h1' h2' e=>kp c o h1' h2' (keep2 c o h1' h2' e)
theorem ON {prog:Program} {w:World} {A:Around} {E:Value->Shared->Prop} {s:Shared} {l:Addr} {o:Obj} {its:List Value} {n:Nat} {kvs:List (zL×Value)} {Q:Value->Shared->Prop} (hA:A.handled=none) (ho:s.heap.get? l=some o) (hc:o.cls=.type "list") (hdd:o.dict=none) (hdat:o.data=.seq its.toArray n)
  (hn:kvs.length=its.length) (hp:∀ (j:Nat) (kv:zL×Value),kvs[j]?=some kv->∃ v,its[j]?=some v/\XV s.heap v kv.1 kv.2) (hz:kvs.length<=sizeLine)
  (h:∀ h' tk,h'.DictOf (yc prog w) s.heap.objs.size (kvs.foldl (fun a kv=>stored a kv.1 kv.2) [])->(∀ b o,s.heap.get? b=some o->h'.get? b=some o)->Q (.ref s.heap.objs.size) { s with heap:=h',toks:=tk }) :
  wpAny (model prog w) A (call (.type "dict") [.ref l]) Q E s:=by
 refine callType_codes (Q₁:=fun obj s₁=>obj=.ref s.heap.objs.size/\s₁={ s with heap:=s.heap.push { cls:=.type "dict",data:=.dict #[] } }) F.kt_called_dict (F.kt_typeCall_dict_1 _) F.entry_dict_init (kt_code_dict_new _ ⟨rfl,rfl⟩) ?_
 rintro obj s₁ ⟨rfl,rfl⟩
 have hnew:(s.heap.push { cls:=.type "dict",data:=.dict #[] }).DictOf (yc prog w) s.heap.objs.size []:=Heap.DictOf.new s.heap
 refine ⟨hnew.typeIs,F.args_dict_init_2 _ _,?_⟩
 unfold Builtin.«dict.__init__»
 refine wpAny_bind ?_
 unfold Builtin.Dict.selfAndRest
 refine wpAny_bind (wpAny_notOrdered_dict hnew.typeIs ?_)
 show wpAny _ _ (pure (s.heap.objs.size,[Value.ref l])) _ _ _
 refine wpAny_pure ?_
 show wpAny _ _ (Builtin.Dict.updateFrom "dict.__init__" s.heap.objs.size (.ref l) [] .none) _ _ _
 unfold Builtin.Dict.updateFrom
 have hlt:=Heap.lt_size ho
 have ho1:(s.heap.push { cls:=.type "dict",data:=.dict #[] }).get? l=some o:=Heap.get?_push_of_some _ ho
 refine wpAny_bind (wpAny_typeOf (T := "list") ⟨o,ho1,hc⟩ ?_)
 rw [if_pos (by rfl)]
 refine wpAny_bind (LD (o:=o) ho1 hc hdat hdd (am_miss_of_fast (by kernel_rfl)) (by decide) (by exact hA) (fun h1 tk1 kp1=>?_) (by decide))
 rw [if_pos (by rfl)]
 have hd1:h1.DictOf (yc prog w) s.heap.objs.size []:=hnew.keepB fun o e=>kp1 _ _ e
 have ho2:h1.get? l=some o:=kp1 _ _ ho1
 have hl1:h1.IsList l its.toArray:=⟨o,ho2,hc,n,hdat⟩
 have hd1lt:s.heap.objs.size<h1.objs.size:=by
  obtain ⟨o',_,_,e,_⟩:=hd1
  exact Heap.lt_size e
 show wpAny _ _ (pure () >>= _) _ _ _
 refine wpAny_bind (wpAny_pure (wpAny_bind ?_))
 refine wpAny_pyIter_list (s:={ s with heap:=h1,toks:=tk1 }) hl1 ?_
 refine wpAny_pure ⟨plainId_quiet Yj _,codeAny_builtin Uo ?_⟩
 rw [Around.under_plainId Yj _]
 have k0:∀ b ob,s.heap.get? b=some ob->(h1.push { cls:=.type "list_iterator",data:=.fields #[.ref l,.int 0 0] }).get? b=some ob:=fun b ob e=>Heap.get?_push_of_some _ (kp1 b ob (Heap.get?_push_of_some _ e))
 refine IV (l:=l) (its:=its) (A:=A.in1) (by exact hA) (xg (Nat.ne_of_gt hlt)) (xg (Nat.ne_of_lt hd1lt)) (xg (Nat.ne_of_lt (Nat.lt_trans hlt hd1lt))) kvs 0 [] _ ⟨_,Heap.get?_push_size _ rfl,rfl,rfl⟩ ⟨o,k0 l o ho,hc,n,hdat⟩ (by rw [Nat.zero_add]; exact hn) (fun j kv e=>?_) (hd1.push _) (by simpa using hz) fun h' tk hd' kp=>?_
 ·obtain ⟨v,hv,b,key,rfl,hk,o',e1,r⟩:=hp j kv e
  exact ⟨_,by rw [Nat.zero_add]; exact hv,b,key,rfl,hk,o',k0 b o' e1,r⟩
 ·refine ⟨rfl,h h' tk hd' fun b ob e=>?_⟩
  have hb:=Heap.lt_size e
  exact kp b ob (xg (Nat.ne_of_lt hb)) (xg (Nat.ne_of_lt (Nat.lt_trans hb hd1lt))) (k0 b ob e)
section
variable {X:Cx}
theorem Qo {pins:List (Addr×Obj)} {σ:St} {H:Hp} {s:Shared} (I:Inv X pins σ H s):∀ {kvs:List (zL×V)} {vs:List V} {its:List Value},zb vs its->kvs.length=vs.length->(∀ (j:Nat) (kv:zL×V),kvs[j]?=some kv->∃ b,vs[j]?=some (V.ref b)/\yU X.K H b [kV kv.1,kv.2])->
  ∃ ws:List (zL×Value),KV kvs ws/\∀ (j:Nat) (kw:zL×Value),ws[j]?=some kw->∃ v,its[j]?=some v/\XV s.heap v kw.1 kw.2
 | [],_,_,_,_,_=>⟨[],.nil,fun j kw e=>by cases e⟩
 | kv::kvs,[],_,_,h,_=>by cases h
 | kv::kvs,_::vs,_::its,.cons r t,h,hp=>by
  obtain ⟨ws,rk,hw⟩:=Qo I t (by simpa using h) fun j kv' e=>by
   obtain ⟨b,e1,q⟩:=hp (j+1) kv' (by simpa using e)
   exact ⟨b,by simpa using e1,q⟩
  obtain ⟨b,e1,sq⟩:=hp 0 kv rfl
  cases e1
  obtain ⟨is,ri,pt,_⟩:=I.tuple sq
  obtain ⟨key,x,rfl,rkey,rx⟩:=HP ri
  refine ⟨(kv.1,x)::ws,.cons ⟨rfl,rx⟩ rk,fun j kw e=>?_⟩
  cases j with
  | zero=>
   cases e
   exact ⟨_,rfl,b,key,r,qV (P:=X.prog) (w:=X.w) rkey,pt⟩
  | succ j=>
   obtain ⟨v,e2,q⟩:=hw j kw (by simpa using e)
   exact ⟨v,by simpa using e2,q⟩
noncomputable def C0 (K:PySem.W.Frag):List V->Hp->VK->Prop:=fun xs H Q=>∃ a vs kvs,xs=[.ref a]/\zy K H a vs/\kvs.length=vs.length/\(∀ (j:Nat) (kv:zL×V),kvs[j]?=some kv->∃ b,vs[j]?=some (.ref b)/\yU K H b [kV kv.1,kv.2])/\∀ p,H p=none->Q (.ref p) (ze H p (.dK (t6 [] kvs)))
theorem OM (hcalm:X.calm=true):xi X (.type "dict") (C0 X.K):=by
 intro pins s σ H xs us Q I r h
 obtain ⟨a,vs,kvs,rfl,sq,hl,hp,q⟩:=h
 obtain ⟨u,rfl,ru⟩:=vE r
 cases (show u=Value.ref a from ru)
 obtain ⟨its,rv,⟨o,n,ho,hc,hdd,hdat⟩,hz⟩:=I.list sq
 obtain ⟨ws,rk,hw⟩:=Qo I rv hl hp
 have hlw:ws.length=its.length:=by rw [<- rk.length,hl,rv.length]
 refine ON (I.ok.hd hcalm) ho hc hdd hdat hlw hw (by rw [hlw,<- rv.length]; exact hz) fun h' tk dd kp=>?_
 have hle:(t6 [] kvs).length<=sizeLine:=by
  have h1:=Q5 kvs []
  rw [List.length_nil] at h1
  omega
 have hm:(s.heap.objs.size == sysModules)=false:=by
  have:=I.big
  rw [beq_eq_false_iff_ne]
  exact xg (Nat.ne_of_gt this)
 exact ⟨.ref s.heap.objs.size,_,I.laid (a:=s.heap.objs.size) (o:=.dK (t6 [] kvs)) (t':=tk) kp (Nat.le_refl _) (Ud hle hm (rk.merge .nil) dd),rfl,q _ I.fresh⟩
end
noncomputable def uO:List D->Option (List (Sum Int Str)×List D)
 | []=>some ([],[])
 | .tup [k,v]::r=>(uy k).bind fun k=>(uO r).bind fun p=>some (k::p.1,v::p.2)
 | _=>none
noncomputable def yT {α:Type}:List (Sum Int Str)->List α->List (Sum Int Str)->List α->List (Sum Int Str)×List α
 | ks,ds,k::r,v::q=>yT (xE ks k) (xI ks ds k v) r q
 | ks,ds,_,_=>(ks,ds)
noncomputable def qR:List D->Option D
 | [.lst xs]=>(uO xs).bind fun p=>some (.dic (yT [] [] p.1 p.2).1 (yT [] [] p.1 p.2).2)
 | _=>none
theorem JA:∀ {ks:List zL} {us:List V} {as:List zL} {vs:List V},ks.length=us.length->as.length=vs.length->t6 (as.zip vs) (ks.zip us)=(yT as vs ks us).1.zip (yT as vs ks us).2/\(yT as vs ks us).1.length=(yT as vs ks us).2.length
 | [],[],as,vs,_,h=>⟨rfl,h⟩
 | k::ks,u::us,as,vs,h1,h2=>by
  have ih:=JA (ks:=ks) (us:=us) (as:=xE as k) (vs:=xI as vs k u) (by simpa using h1) (qh h2)
  refine ⟨?_,ih.2⟩
  show t6 (wR (as.zip vs) k u) (ks.zip us)=_
  rw [Iq h2]
  exact ih.1
theorem J9 {K:PySem.W.Frag} {G:Hp}:∀ {ks:List zL} {es:List D} {us:List V} {as:List zL} {ds:List D} {vs:List V},Reps K G es us->Reps K G ds vs->ks.length=us.length->as.length=vs.length->Reps K G (yT as ds ks es).2 (yT as vs ks us).2/\(yT as ds ks es).1=(yT as vs ks us).1
 | [],es,us,as,ds,vs,r1,r2,h1,h2=>by
  have e1:yT as ds [] es=(as,ds):=by unfold yT; rfl
  have e2:yT as vs [] us=(as,vs):=by unfold yT; rfl
  rw [e1,e2]
  exact ⟨r2,rfl⟩
 | k::ks,es,[],as,ds,vs,r1,r2,h1,h2=>by cases h1
 | k::ks,[],u::us,as,ds,vs,r1,r2,h1,h2=>by cases (show _=[] from r1)
 | k::ks,e::es,_::_,as,ds,vs,r1,r2,h1,h2=>by
  obtain ⟨v,r,ev,hv,hr⟩:=r1
  cases ev
  exact J9 (ks:=ks) (es:=es) (as:=xE as k) hr (r2.put hv) (by simpa using h1) (qh h2)
theorem J8 {α:Type}:∀ {ks:List zL} {es:List α} {as:List zL} {ds:List α},as.length=ds.length->(yT as ds ks es).2.length<=ds.length+es.length
 | [],es,as,ds,_=>by
  have e:yT as ds [] es=(as,ds):=by unfold yT; rfl
  rw [e]
  exact Nat.le_add_right _ _
 | _::_,[],as,ds,_=>by
  have e:∀ k ks,yT as ds (k::ks) ([]:List α)=(as,ds):=fun _ _=>by unfold yT; rfl
  rw [e]
  exact Nat.le_add_right _ _
 | k::ks,e::es,as,ds,h=>by
  have ih:=J8 (ks:=ks) (es:=es) (as:=xE as k) (ds:=xI as ds k e) (qh h)
  have:=JC (ks:=as) (vs:=ds) (k:=k) (v:=e) h
  show (yT (xE as k) (xI as ds k e) ks es).2.length<=_
  rw [List.length_cons]
  omega
theorem To {K:PySem.W.Frag} {G:Hp}:∀ {xs:List D} {vs:List V} {ks:List zL} {ds:List D},uO xs=some (ks,ds)->Reps K G xs vs->∃ us,Reps K G ds us/\ks.length=us.length/\ks.length=vs.length/\∀ (j:Nat) (kv:zL×V),(ks.zip us)[j]?=some kv->∃ b,vs[j]?=some (V.ref b)/\yU K G b [kV kv.1,kv.2]
 | [],_,_,_,h,r=>by
  cases h
  cases (show _=[] from r)
  exact ⟨[],rfl,rfl,rfl,fun j kv e=>by cases e⟩
 | x::xs,_,ks,ds,h,r=>by
  obtain ⟨v,r',rfl,hv,hr⟩:=r
  unfold uO at h
  split at h
  ·rename_i e; cases e
  ·rename_i k y r2 e
   cases e
   obtain ⟨key,hk,h⟩:=zJ h
   obtain ⟨⟨ks2,ds2⟩,h2,h⟩:=zJ h
   cases h
   obtain ⟨us,q1,q2,q3,q4⟩:=To h2 hr
   obtain ⟨b,ws,rfl,sq,⟨u1,_,rfl,hu1,⟨u2,_,rfl,hu2,e3⟩⟩,_⟩:=hv
   cases (show _=[] from e3)
   refine ⟨u2::us,⟨u2,us,rfl,hu2,q1⟩,by rw [List.length_cons,List.length_cons,q2],by rw [List.length_cons,List.length_cons,q3],fun j kv e=>?_⟩
   cases j with
   | zero=>
    cases e
    refine ⟨b,rfl,?_⟩
    rw [<- jr hk hu1]
    exact sq
   | succ j=>
    obtain ⟨b',e1,e2⟩:=q4 j kv (by simpa using e)
    exact ⟨b',by simpa using e1,e2⟩
  ·cases h
theorem VM {X:Cx} {e:Expr} {fs:FA} {p pos:Pos} (hcalm:X.calm=true) (hg:Gl X "dict") (hm:X.mg "dict" = none) (hv:bootBuiltins "dict" = some (.type "dict")) (ha:SA X [e] fs) (hs:yl e=true:=by rfl):SF X (.Call (.Name "dict" p) [e] [] pos) (eL qR fs):=by
 obtain ⟨t,pt,k⟩:=ha.h
 refine ⟨⟨_,(j9 (OM hcalm) hg hm hv ⟨pt⟩ (by decide) (by decide) (by rw [List.all_cons,hs]; rfl)).h,fun {G0 H0 G H τ σ d Q} E hf q=>?_⟩⟩
 obtain ⟨ds,hd,hf⟩:=zJ hf
 refine k E hd fun vs G1 H1 x1 r1=>?_
 unfold qR at hf
 split at hf
 ·rename_i xs
  obtain ⟨⟨ks,es⟩,hk,hf⟩:=zJ hf
  cases hf
  obtain ⟨v,rfl,a,ws,rfl,sq,rs,l⟩:=tF r1
  obtain ⟨us,q1,q2,q3,q4⟩:=To hk rs
  obtain ⟨z1,z2⟩:=JA (ks:=ks) (us:=us) (as:=[]) (vs:=[]) q2 rfl
  obtain ⟨z3,z4⟩:=J9 (ks:=ks) (as:=[]) (ds:=[]) (vs:=[]) q1 rfl q2 rfl
  refine ⟨a,ws,ks.zip us,rfl,wA x1.gh sq,by rw [List.length_zip,q2,Nat.min_self,<- q2,q3],fun j kv e=>?_,fun p hp=>?_⟩
  ·obtain ⟨b,e1,e2⟩:=q4 j kv e
   exact ⟨b,e1,v3 x1.gh e2⟩
  ·refine q p _ _ (x1.trans (zM.layO x1.gh hp)) (x1.h.free hp) (x1.gh.free hp) ⟨(yT [] [] ks us).2,?_,?_,z3,?_⟩
   ·show ze H1 p (.dK (t6 [] (ks.zip us))) p=some (.dK ((yT [] [] ks es).1.zip (yT [] [] ks us).2))
    rw [yQ,z4]
    exact congrArg (fun x=>some (HO.dK x)) z1
   ·show (yT [] [] ks es).1.length=_
    rw [z4]
    exact z2
   ·have:=J8 (ks:=ks) (es:=es) (as:=[]) (ds:=[]) rfl
    have e1:es.length=ws.length:=by rw [<- q1.length,<- q2,q3]
    rw [rs.length] at e1
    show (yT [] [] ks es).2.length<=sizeLine
    simp only [List.length_nil,Nat.zero_add] at this
    omega
 ·cases hf
end L3
namespace L3
open PySem PySem.Spec PyProof PyProof.Rows L2 Builtin Builtin.Str
section
variable {X:Cx} {e o a b c:Expr} {f fo fa fb fc:FE} {x:Str} {xp p pos apos cpos:Pos}
noncomputable def qw:List D->Option (List Str)
 | []=>some []
 | .str z::r=>(qw r).bind fun ts=>some (z::ts)
 | _=>none
noncomputable def Xz:D->D->Option D
 | .str sep,.lst xs=>(qw xs).bind fun ts=>if (ts.map (·.length)).sum+ts.length*sep.length<=zu then some (.str (glued sep ts)) else none
 | _,_=>none
theorem IH {K:PySem.W.Frag} {G:Hp}:∀ {xs:List D} {vs:List V} {ts:List Str},qw xs=some ts->Reps K G xs vs->vs=ts.map V.str
 | [],_,_,h,r=>by
  cases h
  exact r
 | x::xs,_,ts,h,r=>by
  obtain ⟨v,r',rfl,hv,hr⟩:=r
  unfold qw at h
  split at h
  ·rename_i e; cases e
  ·rename_i z r2 e
   cases e
   obtain ⟨ts2,h2,h⟩:=zJ h
   cases h
   rw [List.map_cons,(show v=_/\_ from hv).1,IH h2 hr]
  ·cases h
theorem Ea (ho:SE X o fo) (he:SB X e f) (hbase:attributeBase o "join" X.env (eval o X.env)=eval o X.env:=by rfl) (hline:(apos.endLine == cpos.line)=true:=by rfl) (hs:yl e=true:=by rfl) :
  SE X (.Call (.Attribute o "join" apos) [e] [] cpos) (e2 Xz fo f):=by
 obtain ⟨to,po,ko⟩:=ho.h
 obtain ⟨te,pe,ke⟩:=(xS he xZ hs).h
 refine ⟨⟨_,(gG PySem.F.plainAttrs_str PySem.F.slot_str_join PySem.F.type_str_join Mx ⟨po⟩ ⟨pe⟩ hbase hline (by rw [List.all_cons,hs]; rfl) (by show 1<30; decide)).h,fun {G0 H0 G H τ σ d Q} E hf q=>?_⟩⟩
 obtain ⟨x,hx,hf⟩:=zJ hf
 obtain ⟨y,hy,hf⟩:=zJ hf
 refine ko E hx fun v G1 H1 x1 r1=>?_
 cases x with
 | str sep=>
  obtain ⟨rfl,l1⟩:=r1
  refine ⟨rfl,ke (E.go x1) (ds:=[y]) (by unfold zB; rw [hy]; rfl) fun ws G2 H2 x2 r2=>?_⟩
  obtain ⟨w,rfl,rw_⟩:=tF r2
  cases y with
  | lst xs=>
   obtain ⟨ts,hts,hf⟩:=zJ hf
   obtain ⟨aa,vs,rfl,sq,rs,_⟩:=rw_
   have ev:=IH hts rs
   subst ev
   by_cases cc:(ts.map (·.length)).sum+ts.length*sep.length<=zu
   ·rw [if_pos cc] at hf
    cases hf
    have c':(ts.map (·.length)).sum+ts.length*sep.length<=sizeLine:=by rw [sizeLine_eq]; exact cc
    exact ⟨sep,aa,ts,rfl,rfl,sq,c',q _ _ _ (x1.trans x2) ⟨rfl,Nat.le_trans (T9 sep ts) c'⟩⟩
   ·rw [if_neg cc] at hf
    cases hf
  | _=>cases hf
 | _=>cases hf
theorem Xl:bootBuiltins "dict" = some (.type "dict"):=by decide +kernel
noncomputable def gM (i:Nat) (k v:FE):FS:=fun σ=>(v σ).bind fun y=>match σ[i]? with
 | some (some (true,.lst ds))=>(k σ).bind fun x=>match x with
  | .int j=>(ixN ds.length j).bind fun n=>some (.nx (σ.set i (some (true,.lst (ds.set n y)))))
  | _=>none
 | _=>none
theorem Reps.set {K:PySem.W.Frag} {G:Hp} {d:D} {v:V} (hv:zV K G d v):∀ {ds:List D} {vs:List V} (n:Nat),Reps K G ds vs->Reps K G (ds.set n d) (vs.set n v)
 | [],_,_,r=>by cases (show _=[] from r); rfl
 | d'::ds,_,0,r=>by
  obtain ⟨u,r',rfl,hu,hr⟩:=r
  exact ⟨v,r',rfl,hv,hr⟩
 | d'::ds,_,n+1,r=>by
  obtain ⟨u,r',rfl,hu,hr⟩:=r
  exact ⟨u,_,rfl,hu,Reps.set hv n hr⟩
theorem GJ {i:Nat} {k v:Expr} {fk fv:FE} {pos':Pos} (ho:QE X (.Name x xp) (vf i)) (hk:SE X k fk) (hv:SE X v fv) (hp:j7 k=true:=by rfl) (hs:swapsWithSole [.Subscript (.Name x xp) k pos'] v pos.line X.env=pure false:=by rfl)
  (hw:swappedStores [.Subscript (.Name x xp) k pos'] v X.env=pure none:=by rfl) (h1:(assignEach [.Subscript (.Name x xp) k pos'] X.env).map (·.2)=[assign (.Subscript (.Name x xp) k pos') X.env]:=by rfl):SS X (.Assign [.Subscript (.Name x xp) k pos'] v pos) (gM i fk fv):=by
 obtain ⟨tk,pk,kk⟩:=hk.h
 obtain ⟨tv,pv,kv⟩:=hv.h
 refine ⟨⟨_,Fc pv (Fy ho ⟨pk⟩ Ee hp).h hs hw h1,fun {G0 H0 G H τ σ fl E} K hf q=>?_⟩⟩
 obtain ⟨y,hy,hf⟩:=zJ hf
 refine kv K hy fun w G1 H1 x1 r1=>?_
 split at hf
 ·rename_i ds hd
  obtain ⟨xk,hx,hf⟩:=zJ hf
  cases xk with
  | int j=>
   obtain ⟨n,hn,hf⟩:=zJ hf
   cases hf
   have K1:=K.go x1
   obtain ⟨aa,ea,g,z,vs,ev,rs,l⟩:=K1.ow _ _ hd
   refine ⟨_,ea,kk K1 hx fun u G2 H2 x2 r2=>?_⟩
   cases (show u=_ from r2)
   refine ⟨aa,vs,j,n,rfl,rfl,x2.h _ _ ev,by rw [rs.length]; exact hn,?_⟩
   exact q _ _ _ ((K1.go x2).mut hd ea ⟨_,yQ,Reps.set (r1.mono x2.g) n (rs.mono x2.g),by rw [List.length_set]; exact l⟩)
  | _=>cases hf
 ·cases hf
noncomputable def tw (j i:Nat):FS:=fun σ=>match σ[i]? with
 | some (some (true,.lst ds))=>(ds.getLast?).bind fun d=>if j=i then none else some (.nx ((σ.set i (some (true,.lst ds.dropLast))).set j (some (false,d))))
 | _=>none
theorem Reps.dropLast {K:PySem.W.Frag} {G:Hp} {ds:List D} {vs:List V} (r:Reps K G ds vs):Reps K G ds.dropLast vs.dropLast:=by
 rw [List.dropLast_eq_take,List.dropLast_eq_take,r.length]
 exact r.take _
end
end L3
namespace L2
open PySem PySem.Spec PyProof.Rows
noncomputable def XM (K:PySem.W.Frag) (a:Addr):It:=
  ⟨fun i H=>∃ xs x,zy K H a xs/\xs[i]?=some x,
   fun i H v H'=>∃ p,H p=none/\v=.ref p/\∀ xs,zy K H a xs->∃ x,xs[i]?=some x/\H'=ze H p (.tup [.int (i:Int),x]),
   fun i H=>∃ xs,zy K H a xs/\xs.length<=i⟩
theorem Gx {P:Program} {w:World} {K:PySem.W.Frag} {elts:List Expr} {kk:Nat} {pos:Pos} (a e it:Addr) (hei:e≠it) :
  qO P w K (.Tuple elts kk pos) (XM K a) [e,it] e (fun i h=>(∃ old,IsEnum h e it (i:Int) old)/\h.IsListIter it a i) where
 mem:=by simp
 obj:=fun i h st c hc=>by
  obtain ⟨⟨old,s1⟩,⟨o2,s2,_,d2⟩⟩:=st
  simp only [List.mem_cons,List.not_mem_nil,or_false] at hc
  rcases hc with rfl | rfl
  ·exact ⟨_,s1,fun v q=>nomatch q⟩
  ·exact ⟨_,s2,fun v q=>by rw [d2] at q; cases q⟩
 keep:=fun i h h' st k=>by
  obtain ⟨⟨old,s1⟩,s2⟩:=st
  exact ⟨⟨old,k e (by simp) _ s1⟩,s2.at fun o x=>k it (by simp) o x⟩
 item:=by
  intro X hP hw hK hc i pins s σ H E I hf st hg
  subst hP hw hK
  obtain ⟨⟨old,s1⟩,s2⟩:=st
  obtain ⟨xs,x,hx,ex⟩:=hg
  obtain ⟨us,ru,pu,_⟩:=I.list hx
  have pl:=pu.isList
  obtain ⟨xu,hxu,rxu⟩:=ru.get ex
  have hx':us.toArray[i]?=some xu:=by rw [List.getElem?_toArray]; exact hxu
  have lt1:e<s.heap.objs.size:=Heap.lt_size s1
  have lt2:it<s.heap.objs.size:=by obtain ⟨o,z,_⟩:=s2; exact Heap.lt_size z
  refine wpAny_pyNext_enum_item s1 s2 pl hx' hei fun h1 heo hit1 ht1 hz1 hk1=>?_
  refine ⟨_,rfl,wpAny_letOwnedTupleGo_enum (s:={ s with heap:=h1,toks:=s.toks+1 }) heo fun h2 he2 hs2=>?_⟩
  replace hs2:Heap.SameBut e h1 h2:=hs2
  have hTs:s.heap.get? s.heap.objs.size=none:=by
   cases q:s.heap.get? s.heap.objs.size with
   | none=>rfl
   | some o=>exact absurd (Heap.lt_size q) (Nat.lt_irrefl _)
  have hTf:H s.heap.objs.size=none:=I.hok.fresh (Nat.le_refl _)
  have tup:h2.get? s.heap.objs.size=some { cls:=.type "tuple",data:=.seq #[.int i s.toks,xu] }:=hs2.extBut _ _ (Nat.ne_of_gt lt1) ht1
  have kk:∀ c o,c ∉ [e,it]->s.heap.get? c=some o->h2.get? c=some o:=fun c o hc z=>by
   simp only [List.mem_cons,List.not_mem_nil,or_false,not_or] at hc
   exact hs2.extBut _ _ hc.1 (hk1 c o hc.1 hc.2 z)
  have new:xA X.prog X.w (ze H s.heap.objs.size (.tup [.int (i:Int),x])) h2 s.heap.objs.size (.tup [.int (i:Int),x]):=⟨(by show 2<=sizeLine; decide),[.int i s.toks,xu],.cons ⟨_,rfl⟩ (.cons rxu .nil),⟨_,tup,rfl,_,rfl⟩⟩
  refine ⟨.ref s.heap.objs.size,ze H s.heap.objs.size (.tup [.int (i:Int),x]),I.butNew (tk:=s.toks+1) hf kk hTs hTf new,rfl,⟨s.heap.objs.size,hTf,rfl,fun xs' hx'=>?_⟩,⟨⟨xu,?_⟩,hit1.at fun o z=>hs2.extBut _ _ hei.symm z⟩,fun c hc=>?_⟩
  ·rw [I.list_inj hx' hx]
   exact ⟨x,ex,rfl⟩
  ·rw [show ((i+1:Nat):Int)=(i:Int)+1 from rfl]
   exact he2
  ·rw [yE]
   ·exact (hf c hc).1
   ·intro q
    have hlt:c<s.heap.objs.size:=by
     simp only [List.mem_cons,List.not_mem_nil,or_false] at hc
     rcases hc with rfl | rfl
     ·exact lt1
     ·exact lt2
    rw [q] at hlt
    exact absurd hlt (Nat.lt_irrefl _)
 done:=by
  intro X hP hw hK hc i pins s σ H E I hf st hg
  subst hP hw hK
  obtain ⟨⟨old,s1⟩,s2⟩:=st
  obtain ⟨xs,hx,hend⟩:=hg
  obtain ⟨us,ru,pu,_⟩:=I.list hx
  have pl:=pu.isList
  have hx':us.toArray[i]?=none:=by
   rw [List.getElem?_toArray]
   exact List.getElem?_eq_none (by have:=ru.length; omega)
  refine wpAny_pyNext_enum_end (by exact I.ok.hd hc) s1 s2 pl hx' fun h1 he1=>?_
  refine ⟨rfl,I.but (tk:=s.toks) hf fun c ob hcc eb=>?_⟩
  simp only [List.mem_cons,List.not_mem_nil,or_false,not_or] at hcc
  exact he1 c ob hcc.2 eb
 self:=fun _ _ _ _ _ st h=>by
  obtain ⟨⟨old,s1⟩,_⟩:=st
  exact wpAny_pyIter_enum s1 h
section
variable {X:Cx}
noncomputable def M0 (K:PySem.W.Frag) (ta:TA):TI:=fun σ H R=>ta σ H fun vs H1=>∃ a xs,vs=[.ref a]/\zy K H1 a xs/\R (XM K a) H1
theorem FC {a:Expr} {ta:TA} {p pos:Pos} {elts:List Expr} {kk:Nat} {tp:Pos} (hg:Gl X "enumerate") (hm:X.mg "enumerate" = none) (ha:PA X [a] ta) (hs:starEach [a] X.env=[(false,eval a X.env)]:=by rfl) :
  PI X (.Tuple elts kk tp) (.Call (.Name "enumerate" p) [a] [] pos) (M0 X.K ta):=by
 intro pins s σ H R I h
 refine Call_ (YQ I hg hm boot_enumerate (PyProof.Rows.callWith_type1 (zl (ha pos pins s σ H _ I h) fun us s1 ⟨vs,H1,I1,r1,q1⟩=>?_) (by rw [hs]; rfl) rfl))
 obtain ⟨l1,xs,rfl,hx,q⟩:=q1
 obtain ⟨u,rfl,ru⟩:=vE r1
 cases (show u=Value.ref l1 from ru)
 obtain ⟨us,_,pu,_⟩:=I1.list hx
 refine call_enumerate_list pu.isList fun h' a1 a2 hz kp=>?_
 have I2:Inv X pins σ H1 { s1 with heap:=h' }:=I1.kept (t':=s1.toks) kp
 refine wpAny_pyIter_enum (s:={ s1 with heap:=h' }) a1 ?_
 generalize hn:s1.heap.objs.size=n at a1 a2 hz
 refine ⟨n+1,[n+1,n],_,_,H1,rfl,I2,Gx l1 (n+1) n (xg (by omega)),⟨⟨_,a1⟩,a2⟩,fun c hc=>?_,q⟩
 have hle:s1.heap.objs.size<=c:=by
  rw [hn]
  simp only [List.mem_cons,List.not_mem_nil,or_false] at hc
  rcases hc with rfl | rfl
  ·exact Nat.le_add_right _ _
  ·exact Nat.le_refl _
 exact I1.fpOk hle (I1.hok.fresh hle)
end
end L2
namespace L3
open PySem PySem.Spec PyProof.Rows L2
noncomputable def vM (xs:List D):List D:=List.zipWith (fun (i:Nat) x=>D.tup [.int (i:Int),x]) (List.range xs.length) xs
noncomputable def wt (a:FE):FA:=fun σ=>(a σ).bind fun d=>match d with
 | .lst xs=>some (vM xs)
 | _=>none
theorem tD (xs:List D):(vM xs).length=xs.length:=by simp [vM]
theorem qe (xs:List D) (i:Nat):(vM xs)[i]?=(xs[i]?).map fun x=>D.tup [.int (i:Int),x]:=by
 unfold vM
 rw [List.getElem?_zipWith]
 by_cases h:i<xs.length
 ·rw [List.getElem?_range h,List.getElem?_eq_getElem h]; rfl
 ·rw [List.getElem?_eq_none (by simpa using h),List.getElem?_eq_none (by omega)]; rfl
section
variable {K:PySem.W.Frag} {G H:Hp}
theorem Oz {a:Addr} {vs:List V} {xs:List D} (s1:zy K G a vs) (r1:Reps K G xs vs):tT K (XM K a) G (vM xs) where
 go:=fun i G2 H g1 g2 hi=>by
  rw [tD] at hi
  obtain ⟨v,e1,_⟩:=r1.get (List.getElem?_eq_getElem hi)
  exact ⟨vs,v,wA (g1.trans g2) s1,e1⟩
 yld:=fun i G2 H x H' g1 g2 hi y=>by
  obtain ⟨p,hp,rfl,k⟩:=y
  obtain ⟨v,e1,rfl⟩:=k vs (wA (g1.trans g2) s1)
  obtain ⟨d1,f1,q1⟩:=r1.at e1
  refine ⟨ze G2 p (.tup [.int (i:Int),v]),.tup [.int (i:Int),d1],zM.lay g2 hp,by rw [qe,f1]; rfl,?_⟩
  have sm:zx G (ze G2 p (.tup [.int (i:Int),v])):=g1.trans (wJ (g2.free hp) _)
  exact ⟨p,[.int (i:Int),v],rfl,yU.of yQ,⟨_,_,rfl,rfl,⟨v,_,rfl,q1.mono sm,rfl⟩⟩,small (n:=2) (by decide)⟩
 stop:=fun i G2 H g1 g2 hi=>by
  rw [tD] at hi
  exact ⟨vs,wA (g1.trans g2) s1,by rw [r1.length]; exact hi⟩
end
theorem jL {X:Cx} {a:Expr} {fa:FE} {p pos:Pos} {elts:List Expr} {kk:Nat} {tp:Pos} (hg:Gl X "enumerate") (hm:X.mg "enumerate" = none) (ha:SE X a fa) (hs:yl a=true:=by rfl):SI X (.Tuple elts kk tp) (.Call (.Name "enumerate" p) [a] [] pos) (wt fa):=by
 obtain ⟨t,pt,k⟩:=(zC ha zI hs).h
 refine ⟨⟨_,FC hg hm pt (uY hs),fun {G0 H0 G H τ σ ds R} K hf q=>?_⟩⟩
 obtain ⟨x,hx,hf⟩:=zJ hf
 cases x<;>first | (cases hf; done) | skip
 cases hf
 rename_i xs
 refine k K (ds:=[.lst xs]) (by unfold zB; rw [hx]; rfl) fun vs G1 H1 x1 r1=>?_
 obtain ⟨v,r,rfl,hv,hr⟩:=r1
 cases (show r=[] from hr)
 obtain ⟨aa,vs1,rfl,s1,q1,l1⟩:=hv
 exact ⟨aa,vs1,rfl,wA x1.gh s1,q _ _ _ x1 (by rw [tD]; exact l1) (Oz s1 q1)⟩
end L3
namespace L2
open PySem PySem.Spec PyProof PyProof.Rows
noncomputable def insI (a:Int):List Int->List Int
 | []=>[a]
 | b::r=>if a<=b then a::b::r else b::insI a r
noncomputable def isort:List Int->List Int
 | []=>[]
 | a::r=>insI a (isort r)
theorem WB (a:Int):∀ l:List Int,(insI a l).Perm (a::l)
 | []=>List.Perm.refl _
 | b::r=>by
  unfold insI
  split
  ·exact List.Perm.refl _
  ·exact ((WB a r).cons b).trans (List.Perm.swap a b r)
theorem isort_perm:∀ l:List Int,(isort l).Perm l
 | []=>List.Perm.refl _
 | a::r=>(WB a _).trans ((isort_perm r).cons a)
theorem TM (a:Int):∀ {l:List Int},l.Pairwise (·<=·)->(insI a l).Pairwise (·<=·)
 | [],_=>by simp [insI]
 | b::r,h=>by
  obtain ⟨h1,h2⟩:=List.pairwise_cons.mp h
  unfold insI
  split
  ·rename_i hab
   exact List.pairwise_cons.mpr ⟨fun x hx=>by
    rcases List.mem_cons.mp hx with rfl | hx
    ·exact hab
    ·exact Int.le_trans hab (h1 x hx),h⟩
  ·rename_i hab
   refine List.pairwise_cons.mpr ⟨fun x hx=>?_,TM a h2⟩
   rcases List.mem_cons.mp ((WB a r).mem_iff.mp hx) with rfl | hx
   ·omega
   ·exact h1 x hx
theorem isort_sorted:∀ l:List Int,(isort l).Pairwise (·<=·)
 | []=>List.Pairwise.nil
 | a::r=>TM a (isort_sorted r)
theorem VO:∀ {a b:List Int},a.Perm b->a.Pairwise (·<=·)->b.Pairwise (·<=·)->a=b
 | [],b,p,_,_=>(List.nil_perm.mp p).symm
 | x::a,[],p,_,_=>by cases p.length_eq
 | x::a,y::b,p,ha,hb=>by
  obtain ⟨h1,h2⟩:=List.pairwise_cons.mp ha
  obtain ⟨g1,g2⟩:=List.pairwise_cons.mp hb
  have e:x=y:=by
   have hx:x∈y::b:=p.mem_iff.mp (List.mem_cons_self ..)
   have hy:y∈x::a:=p.mem_iff.mpr (List.mem_cons_self ..)
   rcases List.mem_cons.mp hx with rfl | hx
   ·rfl
   ·rcases List.mem_cons.mp hy with e | hy
    ·exact e.symm
    ·exact Int.le_antisymm (h1 y hy) (g1 x hx)
  subst e
  rw [VO (List.perm_cons x |>.mp p) h2 g2]
theorem WG:∀ {ns:List Int} {its:List Value},IntsAre its ns->zb (ns.map V.int) its
 | [],_,.nil=>.nil
 | _::_,_,.cons _ _ r=>.cons ⟨_,rfl⟩ (WG r)
section
variable {X:Cx}
end
end L2
namespace L3
open PySem PySem.Spec PyProof.Rows L2
theorem UO:bootBuiltins "sorted" = some (.builtin "sorted"):=by decide +kernel
noncomputable def intsOf:List D->Option (List Int)
 | []=>some []
 | .int i::r=>(intsOf r).bind fun ns=>some (i::ns)
 | _=>none
theorem TU:∀ ns:List Int,intsOf (ns.map D.int)=some ns
 | []=>rfl
 | n::ns=>by
  show (intsOf (ns.map D.int)).bind _=_
  rw [TU ns]
  rfl
theorem TR:∀ {ds:List D} {ns:List Int},intsOf ds=some ns->ds=ns.map D.int
 | [],_,h=>by cases h; rfl
 | d::ds,ns,h=>by
  unfold intsOf at h
  split at h
  ·rename_i e; cases e
  ·rename_i i r e
   cases e
   obtain ⟨ns',h1,h⟩:=zJ h
   cases h
   rw [TR h1]
   rfl
  ·cases h
theorem Jb {K:PySem.W.Frag} {G:Hp}:∀ {ns:List Int} {vs:List V},Reps K G (ns.map D.int) vs->vs=ns.map V.int
 | [],_,r=>r
 | n::ns,_,r=>by
  obtain ⟨v,r',rfl,hv,hr⟩:=r
  rw [Jb hr,show v=V.int n from hv]
  rfl
theorem TN {K:PySem.W.Frag} {G:Hp}:∀ ns:List Int,Reps K G (ns.map D.int) (ns.map V.int)
 | []=>rfl
 | n::ns=>⟨.int n,_,rfl,rfl,TN ns⟩
end L3
namespace L2
open PySem PySem.Spec PyProof.Rows
section
variable {X:Cx}
end
end L2
namespace L3
open PySem PySem.Spec PyProof.Rows L2
section
variable {X:Cx} {e o a b c:Expr} {f fo fa fb fc:FE} {x:Str} {xp p pos apos cpos:Pos}
end
end L3
namespace L3
open PySem PySem.Spec PyProof.Rows L2
noncomputable def jh:D->D->Option D
 | .lst x,.lst y=>if x.length+y.length<=zu then some (.lst (x++y)) else none
 | _,_=>none
theorem L6 {x y d:D} (h:jh x y=some d):∃ xs ys,x=.lst xs/\y=.lst ys/\xs.length+ys.length<=zu/\d=.lst (xs++ys):=by
 unfold jh at h
 split at h
 ·rename_i xs ys
  by_cases c:xs.length+ys.length<=zu
  ·rw [if_pos c] at h
   cases h
   exact ⟨_,_,rfl,rfl,c,rfl⟩
  ·rw [if_neg c] at h
   cases h
 ·cases h
section
variable {X:Cx} {a b:Expr} {fa fb:FE} {x:Str} {xp pos:Pos}
theorem Eg (ha:SE X a fa) (hb:SE X b fb):SF X (.BinOp a .Add b pos) (e2 jh fa fb):=by
 obtain ⟨ta,pa,ka⟩:=ha.h
 obtain ⟨tb,pb,kb⟩:=hb.h
 refine ⟨⟨_,Wr Qf pa pb,fun {G0 H0 G H τ σ d Q} E hf q=>?_⟩⟩
 obtain ⟨x,hx,hf⟩:=zJ hf
 obtain ⟨y,hy,hf⟩:=zJ hf
 refine ka E hx fun v G1 H1 x1 r1=>?_
 refine kb (E.go x1) hy fun u G2 H2 x2 r2=>?_
 obtain ⟨xs,ys,rfl,rfl,c,rfl⟩:=L6 hf
 obtain ⟨aa,vs,rfl,sa,ra,_⟩:=r1
 obtain ⟨bb,us,rfl,sb,rb,_⟩:=r2
 ·have c':(xs++ys).length<=sizeLine:=by rw [sizeLine_eq,List.length_append]; exact c
  have x12:=x1.trans x2
  refine ⟨aa,bb,vs,us,rfl,rfl,wA (x2.g.trans x2.gh) sa,wA x2.gh sb,by rw [ra.length,rb.length,sizeLine_eq]; exact c,fun p hp=>?_⟩
  exact q p _ _ (x12.trans (zM.layO x12.gh hp)) (x12.h.free hp) (x12.gh.free hp) ⟨_,yQ,(ra.mono x2.g).append rb,c'⟩
end
end L3
namespace L3
open PySem PySem.Spec PyProof.Rows L2
section
variable {X:Cx} {e:Expr} {es:List Expr} {fs:FA} {x:Str} {ps:List Str} {k j:Nat} {FF:List D->Option (Bool×D)} {p pos:Pos}
end
end L3
namespace L3
open PySem PySem.Spec PyProof.Rows L2
section
variable {X:Cx} {e:Expr} {es:List Expr} {fs:FA} {x y:Str} {ps:List Str} {k j:Nat} {FF:List D->Option (Bool×D)} {p pos pos' cpos:Pos}
end
end L3
namespace L3
open PySem PySem.Spec PyProof.Rows L2
section
variable {X:Cx} {x:Str} {xp pos apos cpos:Pos}
end
end L3
namespace L3
open PySem PySem.Spec PyProof.Rows L2
section
variable {K:PySem.W.Frag} {n:Nat} {G0 H0 G H G' H':Hp} {τ:zd} {σ:St}
end
section
variable {X:Cx} {e:Expr} {f:FE} {ft:FT}
end
noncomputable def qj (i:Nat) (e:FE):FS:=fun σ=>match σ[i]? with
 | some (some (true,.lst xs))=>(e σ).bind fun y=>match y with
  | .lst ys=>if xs.length+ys.length<=zu then some (.nx (σ.set i (some (true,.lst (xs++ys))))) else none
  | _=>none
 | _=>none
noncomputable def jj:D->D->Option D
 | .lst x,.int k=>if 0<=k/\k<=1000000/\x.length*k.toNat<=zu then some (.lst (List.replicate k.toNat x).flatten) else none
 | _,_=>none
theorem LA {x y d:D} (h:jj x y=some d):∃ xs k,x=.lst xs/\y=.int k/\(0<=k/\k<=1000000/\xs.length*k.toNat<=zu)/\d=.lst (List.replicate k.toNat xs).flatten:=by
 unfold jj at h
 split at h
 ·rename_i xs k
  by_cases c:0<=k/\k<=1000000/\xs.length*k.toNat<=zu
  ·rw [if_pos c] at h
   cases h
   exact ⟨_,_,rfl,rfl,c,rfl⟩
  ·rw [if_neg c] at h
   cases h
 ·cases h
theorem Reps.rep {K:PySem.W.Frag} {G:Hp} {ds:List D} {vs:List V} (r:Reps K G ds vs):∀ k:Nat,Reps K G (List.replicate k ds).flatten (List.replicate k vs).flatten
 | 0=>rfl
 | k+1=>by
  rw [List.replicate_succ,List.flatten_cons,List.replicate_succ,List.flatten_cons]
  exact r.append (Reps.rep r k)
section
variable {X:Cx} {a b:Expr} {f fa fb:FE} {x:Str} {xp pos apos cpos:Pos} {e:Expr}
theorem Ej (ha:SF X a fa) (hb:SE X b fb):SF X (.BinOp a .Mult b pos) (e2 jj fa fb):=by
 obtain ⟨ta,pa,ka⟩:=ha.h
 obtain ⟨tb,pb,kb⟩:=hb.h
 refine ⟨⟨_,Wr DV pa pb,fun {G0 H0 G H τ σ d Q} E hf q=>?_⟩⟩
 obtain ⟨x,hx,hf⟩:=zJ hf
 obtain ⟨y,hy,hf⟩:=zJ hf
 refine ka E hx fun p G1 H1 x1 hp gp o=>?_
 refine kb (E.go x1) hy fun u G2 H2 x2 r2=>?_
 obtain ⟨xs,k,rfl,rfl,c,rfl⟩:=LA hf
 obtain ⟨vs,ev,rv,_⟩:=o
 cases (show u=.int k from r2)
 have x12:=x1.trans x2
 refine ⟨p,k,vs,rfl,rfl,x2.h _ _ ev,by omega,by omega,by rw [rv.length,sizeLine_eq]; exact c.2.2,fun p' hp'=>?_⟩
 refine q p' _ _ (x12.trans (zM.layO x12.gh hp')) (x12.h.free hp') (x12.gh.free hp') ⟨_,yQ,Reps.rep (rv.mono x2.g) _,?_⟩
 rw [sizeLine_eq,Q4,Nat.mul_comm]; exact c.2.2
end
end L3
namespace L3
open PySem PySem.Spec PyProof.Rows L2
section
variable {X:Cx} {js:List Nat} {e c:Expr} {f:FE} {ft:FT} {g g':FS} {sts sa:List Stmt} {pos xp apos cpos:Pos} {x:Str}
end
noncomputable def vL (τ:zd):Bool:=τ.all fun s=>match s with
 | some (true,_)=>false
 | _=>true
section
variable {X:Cx} {js:List Nat} {e0 e1:Expr} {f0 f1:FE} {fm fr:FS} {mid yD:List Stmt} {p1 p2 p3 xp cp sp apos cpos pos:Pos} {x:Str} {kd:Nat}
end
end L3
namespace L2
open PySem PySem.Spec PyProof PyProof.Rows
section
variable {X:Cx}
end
end L2
namespace L3
open PySem PySem.Spec PyProof.Rows L2
section
variable {X:Cx} {K:PySem.W.Frag}
end
end L3
namespace L2
open PySem PySem.Spec PyProof PyProof.Rows
noncomputable def tm (ks:List zL) (k:zL):Bool:=ks.any fun k'=>decide (k'=k)
noncomputable def wE (acc:List zL) (k:zL):List zL:=if tm acc k=true then acc else acc++[k]
theorem O1 (acc:List zL) (k:zL):(wE acc k).length<=acc.length+1:=by
 unfold wE
 split
 ·omega
 ·rw [List.length_append]; exact Nat.le_refl _
theorem Tl {k:zL} {v:Value} (h:wQ k v=true):v.scannable=true:=by
 rcases vX h with ⟨i,t,_,rfl⟩ | ⟨x,t,_,rfl⟩<;>rfl
section
variable {prog:Program} {w:World}
end
end L2
namespace L2
open PySem PySem.Spec PyProof PyProof.Rows
section
variable {X:Cx}
theorem Tp (P:Program) (w:World):∀ {ks:List zL} {its:List Value},zb (ks.map kV) its->∀ (j:Nat) (k:zL),ks[j]?=some k->∃ v,its[j]?=some v/\wQ k v=true
 | [],_,.nil,j,k,h=>by cases h
 | k::ks,_,.cons r t,j,k',h=>by
  cases j with
  | zero=>
   cases h
   exact ⟨_,rfl,qV (P:=P) (w:=w) r⟩
  | succ j=>
   obtain ⟨v,e,q⟩:=Tp P w t j k' (by simpa using h)
   exact ⟨v,by simpa using e,q⟩
end
end L2
namespace L2
open PySem PySem.Spec PyProof PyProof.Rows
end L2
namespace L3
open PySem PySem.Spec PyProof.Rows L2
theorem OJ:bootBuiltins "set" = some (.type "set"):=by decide +kernel
section
variable {X:Cx} {K:PySem.W.Frag}
end
end L3
namespace L2
open PySem PySem.Spec PyProof PyProof.Rows
structure yz (t:SetTable):Prop where
 du:t.dummies=#[]
 up:t.place.toList.Pairwise (·<·)
theorem Xe {xs:Array Nat} (up:xs.toList.Pairwise (·<·)) (j:Nat):∀ (f lo hi:Nat),lo<=hi->hi<=xs.size->hi - lo<=f->(∀ (i:Nat) (h:i<xs.size),i<lo->xs[i]<j)->(∀ (i:Nat) (h:i<xs.size),hi<=i->j<=xs[i])->
  SetTable.below.go xs j f lo hi<=xs.size/\(∀ (i:Nat) (h:i<xs.size),i<SetTable.below.go xs j f lo hi->xs[i]<j)/\(∀ (i:Nat) (h:i<xs.size),SetTable.below.go xs j f lo hi<=i->j<=xs[i])
 | 0,lo,hi,h1,h2,h3,a,b=>by
  unfold SetTable.below.go
  exact ⟨by omega,a,fun i h c=>b i h (by omega)⟩
 | f+1,lo,hi,h1,h2,h3,a,b=>by
  have mono:∀ (i k:Nat) (hi:i<xs.size) (hk:k<xs.size),i<k->xs[i]<xs[k]:=fun i k hi hk c=>by
   have:=List.pairwise_iff_getElem.mp up i k (by simpa using hi) (by simpa using hk) c
   simpa using this
  unfold SetTable.below.go
  by_cases c:lo<hi
  ·rw [if_pos c]
   have hm:(lo+hi) / 2<xs.size:=by omega
   have e:xs.getD ((lo+hi) / 2) j=xs[(lo+hi) / 2]:=by simp [Array.getD,hm]
   show (if xs.getD ((lo+hi) / 2) j<j then _ else _)<=_/\_
   dsimp only
   rw [e]
   by_cases q:xs[(lo+hi) / 2]<j
   ·rw [if_pos q]
    refine Xe up j f ((lo+hi) / 2+1) hi (by omega) h2 (by omega) (fun i h z=>?_) b
    by_cases y:i=(lo+hi) / 2
    ·subst y; exact q
    ·exact Nat.lt_trans (mono i _ h hm (by omega)) q
   ·rw [if_neg q]
    refine Xe up j f lo ((lo+hi) / 2) (by omega) (by omega) (by omega) a (fun i h z=>?_)
    by_cases y:i=(lo+hi) / 2
    ·subst y; omega
    ·have:=mono _ i hm h (by omega)
     omega
  ·rw [if_neg c]
   exact ⟨by omega,a,fun i h z=>b i h (by omega)⟩
theorem Xf {xs:Array Nat} (up:xs.toList.Pairwise (·<·)) (j:Nat):SetTable.below xs j<=xs.size/\(∀ (i:Nat) (h:i<xs.size),i<SetTable.below xs j->xs[i]<j)/\(∀ (i:Nat) (h:i<xs.size),SetTable.below xs j<=i->j<=xs[i]):=
 Xe up j xs.size 0 xs.size (Nat.zero_le _) (Nat.le_refl _) (by omega) (fun i _ h=>by omega) fun i h c=>by omega
theorem Fn {xs:Array Nat} {j:Nat} (up:xs.toList.Pairwise (·<·)) (no:xs[SetTable.below xs j]?≠some j):(SetTable.insertAt xs (SetTable.below xs j) j).toList.Pairwise (·<·):=by
 obtain ⟨b0,b1,b2⟩:=Xf up j
 generalize SetTable.below xs j=p at *
 rw [SetTable.toList_insertAt]
 refine List.pairwise_append.mpr ⟨up.sublist (List.take_sublist ..),List.pairwise_cons.mpr ⟨fun a ha=>?_,up.sublist (List.drop_sublist ..)⟩,fun a ha b hb=>?_⟩
 ·obtain ⟨i,hi,rfl⟩:=List.getElem_of_mem ha
  rw [List.length_drop,Array.length_toList] at hi
  rw [List.getElem_drop,Array.getElem_toList]
  have h1:=b2 (p+i) (by omega) (by omega)
  have h2:xs[p+i]'(by omega)≠j:=fun z=>by
   cases i with
   | zero=>exact no (by rw [Array.getElem?_eq_getElem (by omega)]; exact congrArg some z)
   | succ i=>
    have h3:=b2 p (by omega) (Nat.le_refl _)
    have h4:=List.pairwise_iff_getElem.mp up p (p+(i+1)) (by simp; omega) (by simp; omega) (by omega)
    simp only [Array.getElem_toList] at h4
    omega
  omega
 ·have lt:a<j:=by
   obtain ⟨i,hi,rfl⟩:=List.getElem_of_mem ha
   rw [List.length_take,Array.length_toList] at hi
   rw [List.getElem_take,Array.getElem_toList]
   exact b1 i (by omega) (by omega)
  rcases List.mem_cons.mp hb with rfl | hb
  ·exact lt
  ·obtain ⟨i,hi,rfl⟩:=List.getElem_of_mem hb
   rw [List.length_drop,Array.length_toList] at hi
   rw [List.getElem_drop,Array.getElem_toList]
   have:=b2 (p+i) (by omega) (by omega)
   omega
theorem QK {t:SetTable} (h:yz t) (j:Nat):SetTable.has t.dummies j=false:=by
 rw [h.du]
 rfl
theorem G7 {t:SetTable} (h:yz t) (j:Nat):(t.slot j=.empty/\t.place[SetTable.below t.place j]?≠some j)\/∃ i,t.slot j=.live i:=by
 unfold SetTable.slot
 dsimp only
 by_cases c:t.place[SetTable.below t.place j]?=some j
 ·rw [if_pos (by rw [c]; exact beq_self_eq_true _)]
  exact .inr ⟨_,rfl⟩
 ·rw [if_neg (by rw [beq_iff_eq]; exact c),QK h,if_neg Bool.false_ne_true]
  exact .inl ⟨rfl,c⟩
theorem J1 {t:SetTable} (h:yz t) {f:Nat->Int} {hh:Int}:∀ (n:Nat) (p:SetTable.Probe) {j:Nat} {d:Option Nat},p.dummy=none->SetTable.probe.go t f hh n p=some (.empty j d)->d=none/\t.place[SetTable.below t.place j]?≠some j
 | 0,p,j,d,hp,e=>by
  unfold SetTable.probe.go at e
  cases e
 | n+1,p,j,d,hp,e=>by
  have adv:(t.advance p).dummy=none:=by
   unfold SetTable.advance
   split
   ·exact hp
   ·exact hp
  unfold SetTable.probe.go at e
  rcases G7 h p.j with ⟨s,no⟩ | ⟨i,s⟩
  ·rw [s] at e
   dsimp only at e
   cases e
   exact ⟨hp,no⟩
  ·rw [s] at e
   dsimp only at e
   split at e
   ·cases e
   ·exact J1 h n (t.advance p) adv e
theorem yz.stand (t:SetTable) (n:Nat):yz (t.standIn n):=⟨rfl,by
 show (Array.range n).toList.Pairwise (·<·)
 rw [Array.toList_range]
 exact List.pairwise_lt_range⟩
theorem yz.lay {t:SetTable} (h:yz t) (es:Array (Int×Value)) (hh:Int) (x:Value):yz (layNew t es hh x).2.1:=by
 unfold layNew
 split
 ·rename_i slot wd hs
  dsimp only
  have put:yz (t.put slot).1:=by
   unfold SetTable.freeSlot at hs
   split at hs
   ·rename_i j d e
    obtain ⟨rfl,no⟩:=J1 h _ _ (show (t.probeStart hh).dummy=none from rfl) e
    cases hs
    unfold SetTable.put
    refine ⟨?_,?_⟩
    ·show (if SetTable.has t.dummies _=true then _ else _)=_
     rw [QK h,if_neg Bool.false_ne_true]
     exact h.du
    ·exact Fn h.up no
   ·cases hs
  unfold SetTable.orStandIn
  split
  ·exact put
  ·exact yz.stand _ _
 ·exact yz.stand _ _
theorem yz.plain {t:SetTable} (h:yz t) (b:Bool):yz { t with plain:=b }:=⟨h.du,h.up⟩
theorem Mb {mask finger moves:Nat} {led plain:Bool} {hs:Array Int} {t':SetTable} {order:Array Nat} (e:SetTable.laid mask finger moves led plain hs=some (t',order)):yz t'/\t'.led=led:=by
 unfold SetTable.laid at e
 cases c:SetTable.layClean mask hs with
 | none=>rw [c] at e; cases e
 | some owner=>
  rw [c] at e
  cases e
  refine ⟨⟨rfl,?_⟩,rfl⟩
  show ((List.filterMap _ _).map _).Pairwise _
  refine List.Pairwise.map _ (R:=fun a b:Nat×Nat=>a.1<b.1) (fun a b z=>z) ?_
  refine List.Pairwise.filterMap _ (R:=fun a b:Nat=>a<b) (fun a b z x hx y hy=>?_) List.pairwise_lt_range
  obtain ⟨_,_,rfl⟩:=Option.map_eq_some_iff.mp hx
  obtain ⟨_,_,rfl⟩:=Option.map_eq_some_iff.mp hy
  exact z
theorem yz.relay {t:SetTable} (es:Array (Int×Value)) (n:Nat) (h:yz t):yz (relayAll t es n).2.1/\(relayAll t es n).2.1.led=t.led:=by
 unfold relayAll
 split
 ·rename_i t' order e
  dsimp only
  split
  ·exact Mb e
  ·exact ⟨yz.stand _ _,rfl⟩
 ·exact ⟨yz.stand _ _,rfl⟩
theorem Ml (t:SetTable) (es:Array (Int×Value)) (hh:Int) (x:Value):(layNew t es hh x).2.1.led=t.led:=by
 unfold layNew
 split
 ·dsimp only
  unfold SetTable.orStandIn
  split<;>rfl
 ·rfl
end L2
namespace L2
open PySem PySem.Spec PyProof PyProof.Rows
section
variable {prog:Program} {w:World} {K:Type} [DecidableEq K] {knd:KeyKind prog w K} {A:Around} {E:Value->Shared->Prop}
theorem JB {h:Heap} {a:Addr} {o:Obj} {es es2:Array (Int×Value)} {ep:Nat} {t t2:SetTable} (ho:h.get? a=some o) (hd:o.data=.set es ep t) :
  (h.update a (Obj.putSet es2 t2)).get? a=some { o with data:=.set es2 (ep+1) t2 }:=by
 have e:=Heap.get?_update_self (Obj.putSet es2 t2) ho (by rw [putSet_of es2 t2 hd]; rfl)
 rw [putSet_of es2 t2 hd] at e
 exact e
theorem IO {s:Shared} {g:Bool->Sem Unit} (hg:∀ (b:Bool) (s1:Shared) (Q1:Unit->Shared->Prop),Q1 () s1->wpAny (model prog w) A (g b) Q1 E s1) {a:Addr} {o:Obj} {es:Array (Int×Value)} {ep:Nat} {t:SetTable} (ho:s.heap.get? a=some o) (hd:o.data=.set es ep t)
  {es1:Array (Int×Value)} {t2:SetTable} (hb:es1.size<scanBound) (hf:t2.fits es1.size=true) (tb:yz t2) {wd:Bool} {R:Option Bool->Shared->Prop}
  (h:∀ (h':Heap) (es':Array (Int×Value)) (ep':Nat) (t':SetTable),Heap.SameBut a s.heap h'->h'.get? a=some { o with data:=.set es' ep' t' }->es'.toList.Perm es1.toList->t'.fits es'.size=true->yz t'->t'.led=t2.led->R (some true) { s with heap:=h' }) :
  wpAny (model prog w) A (storeSet a es1 t2 >>= fun _=>if (!wd&&t2.tooFull)=true then g (relayAll t2 es1 (SetTable.grown es1.size)).2.2 >>= fun _=>storeSet a (relayAll t2 es1 (SetTable.grown es1.size)).1 (relayAll t2 es1 (SetTable.grown es1.size)).2.1 >>= fun _=>pure (some true) else pure (some true)) R E s:=by
 refine wpAny_bind (wpAny_storeSet_of (es':=es1) (t':=t2) ho hd ?_ (fits_of_scanBound hb))
 have h1:=JB (es2:=es1) (t2:=t2) ho hd
 have k1:=Heap.SameBut.update s.heap a (Obj.putSet es1 t2)
 split
 ·have pm:=relayAll_perm t2 es1 (SetTable.grown es1.size)
  have hf3:=relayAll_fits t2 es1 (SetTable.grown es1.size)
  obtain ⟨tb3,ld3⟩:=tb.relay es1 (SetTable.grown es1.size)
  generalize relayAll t2 es1 (SetTable.grown es1.size)=L at *
  obtain ⟨es2,t3,gv⟩:=L
  dsimp only at *
  have hz:es2.size=es1.size:=by rw [<- Array.length_toList,pm.length_eq,Array.length_toList]
  refine wpAny_bind (hg gv _ _ (wpAny_bind (wpAny_storeSet_of (es':=es2) (t':=t3) h1 rfl (wpAny_pure ?_) (fits_of_scanBound (by omega)))))
  exact h _ es2 _ t3 (k1.trans (Heap.SameBut.update _ a _)) (JB (o:={ o with data:=.set es1 (ep+1) t2 }) h1 rfl) pm hf3 tb3 ld3
 ·exact wpAny_pure (h _ es1 _ t2 k1 h1 (List.Perm.refl _) hf tb rfl)
theorem O2 {s:Shared} {a:Addr} {o:Obj} {es:Array (Int×Value)} {ep:Nat} {t:SetTable} {k:K} {x:Value} {Q:Bool->Shared->Prop} (hkey:knd.is k x=true) (hsc:x.scannable=true) (ho:s.heap.get? a=some o) (hd:o.data=.set es ep t) (hel:ElemsOf knd es.toList) (hb:es.size+1<scanBound) (hf:t.fits es.size=true) (tb:yz t)
  (h0:(∃ e∈es.toList,knd.is k e.2=true)->Q false s)
  (h1:(∀ e∈es.toList,knd.is k e.2=false)->∀ (h':Heap) (es':Array (Int×Value)) (ep':Nat) (t':SetTable),Heap.SameBut a s.heap h'->h'.get? a=some { o with data:=.set es' ep' t' }->es'.toList.Perm (es.toList++[(knd.hash k,x)])->t'.fits es'.size=true->yz t'->t'.led=t.led->Q true { s with heap:=h' }) :
  wpAny (model prog w) A (setAddHashed a x (knd.hash k)) Q E s:=by
 unfold setAddHashed setAddHashedIn
 refine wpAny_holding (wpAny_bind (wpAny_setState_of (es:=es) (t:=t) ho hd hf ?_))
 dsimp only
 rw [byScan_of hsc (Nat.lt_of_succ_lt hb) hel,if_pos rfl]
 unfold setAddByScan
 refine wpAny_bind (wpAny_bind (wpAny_rule (wpAny_bind (wpAny_setScan_of hkey ho hd hf hel ?_))))
 cases hr:List.findIdx? (fun e=>knd.is k e.2) es.toList with
 | some j=>
  dsimp only
  obtain ⟨hj,hp,_⟩:=List.findIdx?_eq_some_iff_getElem.mp hr
  exact wpAny_pure (wpAny_pure (h0 ⟨es.toList[j],List.getElem_mem hj,hp⟩))
 | none=>
  dsimp only
  have no:∀ e∈es.toList,knd.is k e.2=false:=fun e he=>List.findIdx?_eq_none_iff.mp hr e he
  have gw:∀ (b:Bool) {s1:Shared} {Q1:Unit->Shared->Prop},Q1 () s1->wpAny (model prog w) A (match b with | true=>rule "set.scan.the-table-gave-way" | false=>pure ()) Q1 E s1:=fun b _ _ q=>by
   cases b
   ·exact wpAny_pure q
   ·exact wpAny_rule q
  have pm:=layNew_perm t es (knd.hash k) x
  have hf1:=layNew_fits t es (knd.hash k) x
  have tb1:=tb.lay es (knd.hash k) x
  have ld1:=Ml t es (knd.hash k) x
  generalize layNew t es (knd.hash k) x=L at *
  obtain ⟨es1,t1,wd,gv⟩:=L
  dsimp only at *
  rw [Array.toList_push] at pm
  have hb1:es1.size<scanBound:=by
   rw [<- Array.length_toList,pm.length_eq,List.length_append,Array.length_toList]
   exact hb
  refine wpAny_bind (gw gv ?_)
  split
  ·refine wpAny_bind ?_
   rw [hashByValue_scannable 8 hsc]
   refine wpAny_pure ?_
   have tb2:yz (if plainKind x=true then t1 else { t1 with plain:=false })/\(if plainKind x=true then t1 else { t1 with plain:=false }).led=t1.led/\(if plainKind x=true then t1 else { t1 with plain:=false }).fits es1.size=true:=by
    split
    ·exact ⟨tb1,rfl,hf1⟩
    ·exact ⟨tb1.plain false,rfl,SetTable.fits_plain_off hf1⟩
   refine IO (fun b s1 Q1 q=>gw b q) ho hd hb1 tb2.2.2 tb2.1 fun h' es' ep' t' kp g p f b l=>?_
   dsimp only
   exact wpAny_pure (h1 no h' es' ep' t' kp g (p.trans pm) f b ((l.trans tb2.2.1).trans ld1))
  ·refine wpAny_bind (wpAny_pure ?_)
   simp only [↓reduceIte]
   refine IO (fun b s1 Q1 q=>gw b q) ho hd hb1 hf1 tb1 fun h' es' ep' t' kp g p f b l=>?_
   dsimp only
   exact wpAny_pure (h1 no h' es' ep' t' kp g (p.trans pm) f b (l.trans ld1))
end
end L2
namespace L2
open PySem PySem.Spec PyProof PyProof.Rows
noncomputable def tY:Value->zL
 | .int i _=>.inl i
 | .str x _=>.inr x
 | _=>.inl 0
theorem WN {k:zL} {v:Value} (h:wQ k v=true):tY v=k:=by
 rcases vX h with ⟨i,t,rfl,rfl⟩ | ⟨x,t,rfl,rfl⟩<;>rfl
section
variable {prog:Program} {w:World}
noncomputable def v8 (prog:Program) (w:World) (a:Addr) (ks:List zL) (h:Heap):Prop:=∃ o es ep t,h.get? a=some o/\o.ExactSet/\o.data=.set es ep t/\ElemsOf (yc prog w) es.toList/\es.size<scanBound/\t.fits es.size=true/\yz t/\t.led=(!w.params.followText "set-order")/\(es.toList.map fun e=>tY e.2).Perm ks
theorem v8.keep {a:Addr} {ks:List zL} {h h':Heap} (z:v8 prog w a ks h) (k:∀ o,h.get? a=some o->h'.get? a=some o):v8 prog w a ks h':=by
 obtain ⟨o,es,ep,t,ho,r⟩:=z
 exact ⟨o,es,ep,t,k o ho,r⟩
theorem Ul {es:List (Int×Value)} (hel:ElemsOf (yc prog w) es) {e:Int×Value} (he:e∈es):wQ (tY e.2) e.2=true:=by
 obtain ⟨⟨k,hk,_⟩,_⟩:=hel e he
 have hk:wQ k e.2=true:=hk
 rw [WN hk]
 exact hk
theorem Q9 {ks:List zL} {k:zL}:tm ks k=true↔k∈ks:=by
 unfold tm
 rw [List.any_eq_true]
 exact ⟨fun ⟨x,hx,e⟩=>of_decide_eq_true e ▸ hx,fun h=>⟨k,h,decide_eq_true rfl⟩⟩
theorem v8.add {A:Around} {E:Value->Shared->Prop} {s:Shared} {a:Addr} {ks:List zL} {k:zL} {x:Value} {Q:Bool->Shared->Prop} (z:v8 prog w a ks s.heap) (hk:wQ k x=true) (hb:ks.length+1<scanBound)
  (h:∀ (h':Heap) (b:Bool),(∀ c o,c≠a->s.heap.get? c=some o->h'.get? c=some o)->v8 prog w a (wE ks k) h'->Q b { s with heap:=h' }):wpAny (model prog w) A (setAddHashed a x ((yc prog w).hash k)) Q E s:=by
 obtain ⟨o,es,ep,t,ho,hx,hd,hel,hb0,hf,tb,ld,pm⟩:=z
 have hz:es.size=ks.length:=by rw [<- pm.length_eq,List.length_map,Array.length_toList]
 refine O2 (knd:=yc prog w) (k:=k) hk (Tl hk) ho hd hel (by omega) hf tb (fun ⟨e,he,q⟩=>?_) fun no h' es' ep' t' kp g p f tb' l=>?_
 ·have q:wQ k e.2=true:=q
  have m:tm ks k=true:=Q9.mpr (pm.mem_iff.mp (List.mem_map.mpr ⟨e,he,WN q⟩))
  have ea:wE ks k=ks:=by unfold wE; rw [m,if_pos rfl]
  have:=h s.heap false (fun _ _ _ e=>e) (by rw [ea]; exact ⟨o,es,ep,t,ho,hx,hd,hel,hb0,hf,tb,ld,pm⟩)
  exact this
 ·have m:tm ks k=false:=by
   cases c:tm ks k with
   | false=>rfl
   | true=>
    exfalso
    obtain ⟨e,he,q⟩:=List.mem_map.mp (pm.mem_iff.mpr (Q9.mp c))
    have i:=Ul hel he
    rw [q] at i
    have n:wQ k e.2=false:=no e he
    rw [n] at i
    cases i
  have ea:wE ks k=ks++[k]:=by unfold wE; rw [m,if_neg Bool.false_ne_true]
  have ez:es'.size=es.size+1:=by rw [<- Array.length_toList,p.length_eq,List.length_append,Array.length_toList]; rfl
  refine h h' true (fun c oc hc e=>(kp.2 c hc).trans e) ?_
  rw [ea]
  refine ⟨_,es',ep',t',g,hx,rfl,(hel.push (knd:=yc prog w) (k:=k) hk (Tl hk)).perm p,by omega,f,tb',l.trans ld,?_⟩
  refine (p.map fun e=>tY e.2).trans ?_
  rw [List.map_append]
  refine pm.append (List.Perm.of_eq ?_)
  show [tY x]=[k]
  rw [WN hk]
theorem Ef {A:Around} {E:Value->Shared->Prop} {s:Shared} (a:Value) {Q₁:Value->Shared->Prop} (h:Q₁ (.ref s.heap.objs.size) { s with heap:=s.heap.push { cls:=.type "set",dict:=none,data:=.set #[] 0 (.fresh 0 0 (!w.params.followText "set-order")) } }) :
  codeAny (model prog w) A (.call (.builtin "set.__new__") ⟨[.type "set",a],[]⟩) (wants Q₁ E) s:=by
 refine codeAny_of_tree (show wpAny _ A.in1 (checkBuiltinCall "set.__new__" ⟨[.type "set",a],[]⟩ >>= fun _=>again (.builtin "set.__new__" ⟨[.type "set",a],[]⟩)) _ _ s from ?_)
 refine wpAny_bind (wpAny_of_eq (F.newCall_set_1 a) (wpAny_pure ⟨plainId_quiet F.plain_set_new _,codeAny_builtin (F.entry_set_new) ?_⟩))
 rw [Around.under_plainId (F.plain_set_new) _]
 unfold Builtin.«set.__new__» Builtin.Frozenset.newClass
 have e:=sub_set_self
 obtain ⟨hp,g,d,tk,os⟩:=s
 dsimp only
 wp_walk
 refine wpAny_askSetting (wpAny_pure ?_)
 dsimp only
 simp only [newObj]
 exact wpAny_bind (wpAny_alloc (wpAny_pure (wpAny_pure h)))
theorem Js {A:Around} {R:Result->Shared->Prop} {d it l:Addr} {its:List Value} (hA:A.handled=none) (hdl:d≠l) (hdi:d≠it) (hli:l≠it) :
  ∀ (ks:List zL) (i:Nat) (acc:List zL) (s:Shared),s.heap.IsListIter it l i->s.heap.IsList l its.toArray->i+ks.length=its.length->(∀ (j:Nat) (k:zL),ks[j]?=some k->∃ v,its[i+j]?=some v/\wQ k v=true)->
   v8 prog w d acc s.heap->acc.length+ks.length+1<scanBound->(∀ h' tk,v8 prog w d (ks.foldl wE acc) h'->(∀ b o,b≠d->b≠it->s.heap.get? b=some o->h'.get? b=some o)->R (.ok (.ret .none)) { s with heap:=h',toks:=tk })->
   codeAny (model prog w) A (.builtin "set.update.loop" ⟨[.ref d,.ref it],[]⟩) R s
 | [],i,acc,s,st,hl,hn,hp,hd,hz,h=>by
  refine codeAny_builtin F.entry_set_update_loop ?_
  rw [Around.under_plainId F.plain_set_update_loop _]
  unfold Builtin.«set.update.loop»
  refine wpAny_bind (wpAny_pyNext_list_end (by exact hA) st hl (by simp at hn ⊢; omega) fun h' eb=>?_)
  exact wpAny_pure (h h' s.toks (hd.keep fun o e=>eb d o hdi e) fun b o _ hb e=>eb b o hb e)
 | k::ks,i,acc,s,st,hl,hn,hp,hd,hz,h=>by
  obtain ⟨v,hv,hk⟩:=hp 0 k rfl
  refine codeAny_builtin F.entry_set_update_loop ?_
  rw [Around.under_plainId F.plain_set_update_loop _]
  unfold Builtin.«set.update.loop»
  refine wpAny_bind (wpAny_pyNext_list_item st hl (x:=v) (by simpa using hv) fun h1 st1 sb=>?_)
  have keep1:∀ c o,c≠it->s.heap.get? c=some o->h1.get? c=some o:=fun c o hc e=>(sb.2 c hc).trans e
  have hd1:v8 prog w d acc h1:=hd.keep fun o e=>keep1 d o hdi e
  rw [List.length_cons] at hz hn
  refine wpAny_bind (wpAny_holding ?_)
  unfold setAdd
  refine wpAny_holding (wpAny_bind ((yc prog w).pyHash (k:=k) hk ?_))
  refine hd1.add (s:={ s with heap:=h1,toks:=_ }) hk (by omega) fun h2 bb kp2 hd2=>?_
  have keep2:∀ c o,c≠d->c≠it->s.heap.get? c=some o->h2.get? c=some o:=fun c o a1 a2 e=>(kp2 c o a1 (keep1 c o a2 e))
  refine wpAny_pure ⟨plainId_quiet (F.plain_set_update_loop) _,?_⟩
  have hl2:=O1 acc k
  refine Js (its:=its) hA hdl hdi hli ks (i+1) (wE acc k) _ ?_ ?_ (by omega) (fun j k' e=>?_) hd2 (by omega) fun h' tk hd' kp=>?_
  ·exact st1.at fun o e=>kp2 it o (fun z=>hdi z.symm) e
  ·obtain ⟨o,e,r⟩:=hl
   exact ⟨o,keep2 l o (fun z=>hdl z.symm) hli e,r⟩
  ·obtain ⟨v',hv',hk'⟩:=hp (j+1) k' (by simpa using e)
   exact ⟨v',by rw [show i+1+j=i+(j+1) by omega]; exact hv',hk'⟩
  ·exact h h' tk hd' fun c o a1 a2 e=>kp c o a1 a2 (keep2 c o a1 a2 e)
set_option maxHeartbeats 8000000 in
theorem OU {A:Around} {E:Value->Shared->Prop} {s:Shared} {l:Addr} {o:Obj} {its:List Value} {n:Nat} {ks:List zL} {Q:Value->Shared->Prop} (hA:A.handled=none) (ho:s.heap.get? l=some o) (hc:o.cls=.type "list") (hdat:o.data=.seq its.toArray n)
  (hn:ks.length=its.length) (hp:∀ (j:Nat) (k:zL),ks[j]?=some k->∃ v,its[j]?=some v/\wQ k v=true) (hz:ks.length+1<scanBound)
  (h:∀ h' tk,v8 prog w s.heap.objs.size (ks.foldl wE []) h'->(∀ b o,s.heap.get? b=some o->h'.get? b=some o)->Q (.ref s.heap.objs.size) { s with heap:=h',toks:=tk }) :
  wpAny (model prog w) A (call (.type "set") [.ref l]) Q E s:=by
 obtain ⟨_,_,em⟩:=F.called_set.mro
 have e1:=F.called_set.made; have e2:=F.called_set.sub; have e3:=F.called_set.notType; have e4:=F.called_set.canCreate; have e5:=F.typeCall_set_1 (.ref l)
 refine wpAny_call (codeAny_of_tree (show wpAny _ _ (callAny (.type "set") _) _ _ _ from wpAny_pure ⟨Code.quiet_builtin _ (by decide +kernel),codeAny_builtin F.entry_type_call ?_⟩))
 rw [Around.under_plain (weight_type_call_type "set" [.ref l] []) rfl]
 repeat (any_goals (first | wp_step | assumption))
 refine codeAny_mono (Ef (.ref l) (E:=E) (Q₁:=fun v s1=>v=.ref s.heap.objs.size/\s1={ s with heap:=s.heap.push { cls:=.type "set",dict:=none,data:=.set #[] 0 (.fresh 0 0 (!w.params.followText "set-order")) } }) ⟨rfl,rfl⟩) fun r s1 hr=>?_
 cases r with
 | error e=>exact hr
 | ok fl=>
  cases fl with
  | ret v=>
   obtain ⟨rfl,rfl⟩:=hr
   generalize hb0:(!w.params.followText "set-order")=b
   obtain ⟨h0,hh0⟩:∃ h0,h0=s.heap.push { cls:=.type "set",dict:=none,data:=.set #[] 0 (.fresh 0 0 b) }:=⟨_,rfl⟩
   have g0:h0.get? s.heap.objs.size=some { cls:=.type "set",dict:=none,data:=.set #[] 0 (.fresh 0 0 b) }:=by rw [hh0]; exact Heap.get?_push_size _ rfl
   have k0:∀ c oc,s.heap.get? c=some oc->h0.get? c=some oc:=fun c oc e=>by rw [hh0]; exact Heap.get?_push_of_some _ e
   have z0:h0.objs.size=s.heap.objs.size+1:=by rw [hh0]; exact Heap.size_push ..
   have set0:v8 prog w s.heap.objs.size [] h0:=⟨_,#[],0,_,g0,⟨rfl,rfl,rfl⟩,rfl,fun e he=>by simp at he,by decide,by rfl,⟨rfl,List.Pairwise.nil⟩,hb0.symm,List.Perm.refl _⟩
   rw [<- hh0]
   have hT:Shared.TypeIs { s with heap:=h0 } (.ref s.heap.objs.size) "set" := ⟨_,g0,rfl⟩
   have i1:=F.called_set.init.lookup; have i2:=F.called_set.init.bind (.ref s.heap.objs.size)
   repeat (any_goals (first | wp_step | assumption))
   refine codeAny_mono (codeAny_call_builtin (R:=wants (fun r s2=>r=.none/\∃ h' tk,s2={ s with heap:=h',toks:=tk }/\v8 prog w s.heap.objs.size (ks.foldl wE []) h'/\∀ b o,s.heap.get? b=some o->h'.get? b=some o) E) F.called_set.init.plain F.entry_set_init (check_set_init_1 hT ?_)) fun r2 s2 hr2=>?_
   ·have ho0:=k0 l o ho
    obtain ⟨oc,od,odt,os⟩:=o
    simp only at hc hdat
    subst hc hdat
    have hl0:h0.IsList l its.toArray:=⟨_,ho0,rfl,n,rfl⟩
    have s1:=F.sub_list_set; have s2:=F.sub_list_frozenset
    have ne:(Value.type "list" == Value.type "dict")=false:=by decide
    have hlt:=Heap.lt_size ho
    unfold Builtin.«set.__init__» noKeywords Builtin.Frozenset.updateFrom
    generalize eP:pyIter=P
    wp_walk
    subst eP
    refine wpAny_pyIter_list hl0 (wpAny_bind (wpAny_runValue ?_))
    have ki:∀ c oc,s.heap.get? c=some oc->(h0.push { cls:=.type "list_iterator",data:=.fields #[.ref l,.int 0 0] }).get? c=some oc:=fun c oc e=>Heap.get?_push_of_some _ (k0 c oc e)
    refine Js (l:=l) (its:=its) (by simp [hA]) (xg (Nat.ne_of_gt hlt)) (xg (by rw [z0]; exact Nat.ne_of_lt (Nat.lt_succ_self _))) (xg (by rw [z0]; exact Nat.ne_of_lt (Nat.lt_succ_of_lt hlt))) ks 0 [] _ ⟨_,Heap.get?_push_size _ rfl,rfl,rfl⟩ ⟨_,ki l _ ho,rfl,n,rfl⟩ (by rw [Nat.zero_add]; exact hn) (fun j k e=>by rw [Nat.zero_add]; exact hp j k e) (set0.keep fun oc e=>Heap.get?_push_of_some _ e) (by simpa using hz) fun h' tk hs kp=>?_
    refine wpAny_pure (show wpAny _ _ (ret Value.none) _ _ _ from wpAny_pure ⟨rfl,h',tk,rfl,hs,fun c oc e=>?_⟩)
    have hb:=Heap.lt_size e
    exact kp c oc (xg (Nat.ne_of_lt hb)) (xg (by rw [z0]; exact Nat.ne_of_lt (Nat.lt_succ_of_lt hb))) (ki c oc e)
   ·cases r2 with
    | error e=>exact hr2
    | ok f2=>
     cases f2 with
     | ret r=>
      obtain ⟨rfl,h',tk,rfl,hs,kp⟩:=hr2
      repeat (any_goals (first | wp_step | assumption))
      exact h _ _ hs kp
     | _=>exact hr2.elim
  | _=>exact hr.elim
end
end L2
namespace L2
open PySem PySem.Spec PyProof PyProof.Rows
theorem ky:Slot "set_iterator" "__next__" "set_iterator.__next__":=
 .of (owner := "set_iterator") (n := "__next__") (by rw [typeLookup_type,builtinLookup_eq_fast]; kernel_rfl) (by decide +kernel) (by decide +kernel) (by decide +kernel) (by first | exact .inl (by decide +kernel) | exact .inr (by decide +kernel)) (by rw [isSubtype_type]; kernel_rfl)
theorem Jx:Slot "set_iterator" "__iter__" "set_iterator.__iter__":=
 .of (owner := "set_iterator") (n := "__iter__") (by rw [typeLookup_type,builtinLookup_eq_fast]; kernel_rfl) (by decide +kernel) (by decide +kernel) (by decide +kernel) (by first | exact .inl (by decide +kernel) | exact .inr (by decide +kernel)) (by rw [isSubtype_type]; kernel_rfl)
theorem Eu:entryFor table "set_iterator.__next__" = some Builtin.«set_iterator.__next__»:=entryFor_of_tree (by kernel_rfl)
theorem Et:entryFor table "set_iterator.__iter__" = some Builtin.«dict_keyiterator.__iter__»:=entryFor_alias (id' := "dict_keyiterator.__iter__") (by kernel_rfl) (by first | rfl | decide +kernel) (by decide +kernel) (by kernel_rfl)
theorem Ed:entryFor table "set.__iter__" = some Builtin.«frozenset.__iter__»:=entryFor_alias (id' := "frozenset.__iter__") (by kernel_rfl) rfl (by decide +kernel) (by kernel_rfl)
theorem Jw:Manifest.owners.lookup (String.ofList "set_iterator".toList)=some Manifest.sig_set_iterator:=by kernel_rfl
theorem Er (a:Value):argsOk "set_iterator.__next__" ⟨[a],[]⟩:=by
 unfold argsOk; rw [signature?_of (id := "set_iterator.__next__") (n:=['_','_','t','x','e','n','_','_']) (o:=['r','o','t','a','r','e','t','i','_','t','e','s']) (by kernel_rfl) Jw]; kernel_rfl
theorem Ep (a:Value):argsOk "set_iterator.__iter__" ⟨[a],[]⟩:=by
 unfold argsOk; rw [signature?_of (id := "set_iterator.__iter__") (n:=['_','_','r','e','t','i','_','_']) (o:=['r','o','t','a','r','e','t','i','_','t','e','s']) (by kernel_rfl) Jw]; kernel_rfl
section
variable {M:Model} {A:Around} {E:Value->Shared->Prop}
theorem OZ {s:Shared} {src:Source} {n:Nat} {Q:Nat->Shared->Prop} (hn:n≠0) (h:∀ i d,i<n->Q i { s with drawn:=d }):wpAny M A (choose src n) Q E s:=
 fun _ _ _=>⟨hn,h _ _ (Nat.mod_lt _ (Nat.pos_of_ne_zero hn))⟩
theorem Xx {α:Type}:∀ {xs:List α} {i:Nat} {x:α},xs[i]?=some x->(x::xs.eraseIdx i).Perm xs
 | [],_,_,h=>by cases h
 | y::ys,0,x,h=>by
  cases h
  exact List.Perm.refl _
 | y::ys,i+1,x,h=>(List.Perm.swap y x _).trans ((Xx (by simpa using h)).cons y)
theorem Ug {α:Type}:∀ (n:Nat) (xs:List α) (s:Shared) {Q:List α->Shared->Prop},xs.length<=n->(∀ ys d,ys.Perm xs->Q ys { s with drawn:=d })->wpAny M A (drawOrder n xs) Q E s
 | 0,xs,s,Q,hn,h=>by
  cases xs with
  | nil=>
   unfold drawOrder
   exact wpAny_pure (h [] s.drawn (List.Perm.refl _))
  | cons _ _=>simp at hn
 | n+1,[],s,Q,hn,h=>by
  unfold drawOrder
  exact wpAny_pure (h [] s.drawn (List.Perm.refl _))
 | n+1,x::xs,s,Q,hn,h=>by
  unfold drawOrder
  refine wpAny_bind (OZ (by simp) fun i d hi=>?_)
  have e:(x::xs)[i]?=some ((x::xs)[i]):=List.getElem?_eq_getElem hi
  rw [e]
  have hl:((x::xs).eraseIdx i).length<=n:=by
   rw [List.length_eraseIdx,if_pos hi]
   rw [List.length_cons] at hn ⊢
   omega
  refine wpAny_bind (Ug n _ { s with drawn:=d } hl fun ys d' p=>wpAny_pure ?_)
  exact h _ d' ((List.Perm.cons _ p).trans (Xx e))
end
theorem Qt {α:Type} (next:Nat->Nat):∀ (n k:Nat) (left:List α) (out:Array α),left.length<=n->(pickOrder.go next n k left out).toList.Perm (out.toList++left)
 | 0,k,left,out,h=>by
  cases left with
  | nil=>
   unfold pickOrder.go
   exact List.Perm.of_eq (List.append_nil _).symm
  | cons _ _=>simp at h
 | n+1,k,left,out,h=>by
  unfold pickOrder.go
  cases left with
  | nil=>exact List.Perm.of_eq (List.append_nil _).symm
  | cons x xs=>
   have hi:next k % (x::xs).length<(x::xs).length:=Nat.mod_lt _ (by simp)
   have e:(x::xs)[next k % (x::xs).length]?=some ((x::xs)[next k % (x::xs).length]):=List.getElem?_eq_getElem hi
   rw [e]
   dsimp only
   have hl:((x::xs).eraseIdx (next k % (x::xs).length)).length<=n:=by
    rw [List.length_eraseIdx,if_pos hi]
    rw [List.length_cons] at h ⊢
    omega
   refine (Qt next n (k+1) _ _ hl).trans ?_
   rw [Array.toList_push,List.append_assoc]
   exact (List.Perm.refl _).append (Xx e)
theorem FK {α:Type} (next:Nat->Nat) (xs:Array α):(pickOrder next xs).toList.Perm xs.toList:=by
 show (pickOrder.go next xs.size 0 xs.toList #[]).toList.Perm _
 have:=Qt next xs.size 0 xs.toList #[] (by simp)
 simpa using this
theorem OD {xs:Array Nat} (up:xs.toList.Pairwise (·<·)):SetTable.below xs 0=0:=by
 obtain ⟨a,b,_⟩:=Xf up 0
 by_cases c:SetTable.below xs 0=0
 ·exact c
 ·have:=b 0 (by omega) (by omega)
  omega
theorem OC {xs:Array Nat} (up:xs.toList.Pairwise (·<·)) {i:Nat} (h:i<xs.size):SetTable.below xs (xs[i]+1)=i+1:=by
 obtain ⟨a,b,c⟩:=Xf up (xs[i]+1)
 generalize SetTable.below xs (xs[i]+1)=p at *
 rcases Nat.lt_trichotomy p (i+1) with q | q | q
 ·have:=c i h (by omega)
  omega
 ·exact q
 ·have h1:=b (i+1) (by omega) q
  have h2:=List.pairwise_iff_getElem.mp up i (i+1) (by simpa using h) (by simp; omega) (by omega)
  simp only [Array.getElem_toList] at h2
  omega
end L2
namespace L2
open PySem PySem.Spec PyProof PyProof.Rows
section
variable {prog:Program} {w:World} {A:Around} {E:Value->Shared->Prop}
noncomputable def pP (h:Heap) (I:Addr) (fs:Array Value):Prop:=h.get? I=some { cls:=.type "set_iterator",data:=.fields fs }
structure Wk (w:World) (a:Addr) (es:Array (Int×Value)) (ep:Nat) (t:SetTable) (ord:List Value) (I tp:Addr) (i:Nat) (h:Heap):Prop where
 st:∃ o,h.get? a=some o/\o.data=.set es ep t
 md:(w.params.followText "set-order" = true/\ord=(pickOrder (w.params.setOrder a ep) es).toList.map (·.2)/\∃ sl:Nat,pP h I #[rawInt sl,rawInt i,.ref a,rawInt es.size,rawInt ep]) \/
  (w.params.followText "set-order" = false/\(!t.plain&&decide (es.size > 1))=false/\t.led=true/\yz t/\ord=es.toList.map (·.2)/\∃ sl:Nat,pP h I #[rawInt sl,rawInt i,.ref a,rawInt es.size,rawInt ep]/\SetTable.below t.place sl=i) \/
  ∃ places:List Nat,ord=places.map (fun p=>(es.getD p (0,.none)).2)/\(∀ p∈places,p<es.size)/\pP h I #[.ref tp,rawInt i,.ref a,rawInt es.size,rawInt ep]/\h.get? tp=some { cls:=.type "tuple",data:=.seq (places.map fun p:Nat=>rawInt p).toArray }
theorem MG {s:Shared} {a:Addr} {o:Obj} {es:Array (Int×Value)} {ep:Nat} {t:SetTable} {Q:Value->Shared->Prop} (ho:s.heap.get? a=some o) (hx:o.ExactSet) (hd:o.data=.set es ep t) (hf:t.fits es.size=true) (hb:es.size<scanBound) (tb:yz t) (ld:t.led=(!w.params.followText "set-order"))
  (h:∀ h' d ord I tp,ord.Perm (es.toList.map (·.2))->s.heap.objs.size<=I->(tp=a\/s.heap.objs.size<=tp)->I≠tp->Wk w a es ep t ord I tp 0 h'->(∀ b ob,s.heap.get? b=some ob->h'.get? b=some ob)->Q (.ref I) { s with heap:=h',drawn:=d }):wpAny (model prog w) A (pyIter (.ref a)) Q E s:=by
 have hT:s.TypeIs (.ref a) "set" := ⟨o,ho,hx.1⟩
 refine wpAny_pyIter_slot hT F.slot_set_iter (wpAny_call_entry (F.slot_set_iter) hT Ed ?_ (F.args_set_iter_1 _))
 unfold Builtin.«frozenset.__iter__» Builtin.Frozenset.slot0 slotArgs
 simp only [List.isEmpty_nil,Bool.not_true,Bool.false_eq_true,↓reduceIte,bind_assoc,List.length_nil,bne_self_eq_false]
 unfold Builtin.Frozenset.addrOf Builtin.Frozenset.sizeOf
 refine wpAny_bind (wpAny_pure ?_)
 try dsimp only
 refine wpAny_bind (wpAny_pure ?_)
 refine wpAny_bind (wpAny_bind (wpAny_setEntries_of (es:=es) ho hd hf (wpAny_pure ?_)))
 unfold setDrawn setsByText
 refine wpAny_bind (wpAny_bind (wpAny_setState_of (es:=es) (t:=t) ho hd hf ?_))
 dsimp only
 refine wpAny_bind (wpAny_bind (wpAny_askSetting (wpAny_pure (wpAny_pure ?_))))
 show wpAny _ _ (if (!w.params.followText "set-order" && (!t.plain&&decide (es.size > 1)))=true then _ else _) _ _ _
 have hn:es.size<=sizeLine:=fits_of_scanBound hb
 by_cases c:(!w.params.followText "set-order" && (!t.plain&&decide (es.size > 1)))=true
 ·rw [if_pos c]
  refine wpAny_bind (Ug es.size _ s (by simp) fun ys d p=>?_)
  have ly:ys.length=es.size:=by rw [p.length_eq,List.length_range]
  refine wpAny_bind (wpAny_newTuple ?_ (by rw [List.length_map,ly]; exact hn))
  have ho1:(s.heap.push { cls:=.type "tuple",data:=.seq (ys.map fun i:Nat=>rawInt i).toArray }).get? a=some o:=Heap.get?_push_of_some _ ho
  refine wpAny_bind (wpAny_setEpoch_of (es:=es) (t:=t) ho1 hd hf ?_)
  unfold newFields
  refine wpAny_bind (wpAny_newObj_type (wpAny_pure ⟨_,rfl, "set_iterator",_,⟨_,Heap.get?_push_size _ rfl,rfl⟩,ky.lookup,?_⟩))
  refine h _ d (ys.map fun p=>(es.getD p (0,.none)).2) _ s.heap.objs.size ?_ ?_ (.inr (Nat.le_refl _)) ?_ ⟨⟨o,Heap.get?_push_of_some _ ho1,hd⟩,.inr (.inr ⟨ys,rfl,fun q hq=>?_,Heap.get?_push_size _ rfl,Heap.get?_push_of_some _ (Heap.get?_push_size _ rfl)⟩)⟩ fun b ob e=>Heap.get?_push_of_some _ (Heap.get?_push_of_some _ e)
  ·refine (p.map _).trans (List.Perm.of_eq ?_)
   refine List.ext_getElem (by simp) fun j h1 h2=>?_
   have hj:j<es.size:=by simpa using h1
   simp [Array.getD,hj]
  ·rw [Heap.size_push]
   exact Nat.le_succ _
  ·rw [Heap.size_push]
   exact xg (Nat.ne_of_gt (Nat.lt_succ_self _))
  ·simpa using p.mem_iff.mp hq
 ·rw [if_neg c]
  refine wpAny_bind (wpAny_pure (wpAny_bind (wpAny_setEpoch_of (es:=es) (t:=t) ho hd hf ?_)))
  unfold newFields
  refine wpAny_bind (wpAny_newObj_type (wpAny_pure ⟨_,rfl, "set_iterator",_,⟨_,Heap.get?_push_size _ rfl,rfl⟩,ky.lookup,?_⟩))
  cases f:w.params.followText "set-order" with
  | true=>
   exact h _ s.drawn _ _ a ((FK (w.params.setOrder a ep) es).map (·.2)) (Nat.le_refl _) (.inl rfl) (xg (Nat.ne_of_gt (Heap.lt_size ho))) ⟨⟨o,Heap.get?_push_of_some _ ho,hd⟩,.inl ⟨f,rfl,0,Heap.get?_push_size _ rfl⟩⟩ fun b ob e=>Heap.get?_push_of_some _ e
  | false=>
   rw [f] at c ld
   have c:(!t.plain&&decide (es.size > 1))=false:=by
    rw [Bool.not_eq_true] at c
    exact c
   exact h _ s.drawn _ _ a (List.Perm.refl _) (Nat.le_refl _) (.inl rfl) (xg (Nat.ne_of_gt (Heap.lt_size ho))) ⟨⟨o,Heap.get?_push_of_some _ ho,hd⟩,.inr (.inl ⟨f,c,ld,tb,rfl,0,Heap.get?_push_size _ rfl,OD tb.up⟩)⟩ fun b ob e=>Heap.get?_push_of_some _ e
theorem B9 {s:Shared} {a:Addr} {o:Obj} {es:Array (Int×Value)} {ep:Nat} {t:SetTable} {sl g:Nat} {Q:Option (Value×Nat)->Shared->Prop} (ho:s.heap.get? a=some o) (hd:o.data=.set es ep t) (hf:t.fits es.size=true) (f:w.params.followText "set-order" = true)
  (h:Q (((pickOrder (w.params.setOrder a ep) es)[g]?).map fun e=>(e.2,sl)) s):wpAny (model prog w) A (setNext a sl g ep) Q E s:=by
 unfold setNext setsByText
 refine wpAny_bind (wpAny_setState_of (es:=es) (t:=t) ho hd hf ?_)
 dsimp only
 refine wpAny_bind (wpAny_bind (wpAny_askSetting (wpAny_pure ?_)))
 show wpAny _ _ (if w.params.followText "set-order" = true then _ else _) _ _ _
 rw [if_pos f,if_neg (by simp)]
 unfold setWalk setsByText
 refine wpAny_bind (wpAny_bind (wpAny_setState_of (es:=es) (t:=t) ho hd hf ?_))
 dsimp only
 refine wpAny_bind (wpAny_bind (wpAny_askSetting (wpAny_pure ?_)))
 show wpAny _ _ (if w.params.followText "set-order" = true then _ else _) _ _ _
 rw [if_pos f]
 exact wpAny_bind (wpAny_askSetting (wpAny_pure (wpAny_pure h)))
theorem B8 {s:Shared} {a:Addr} {o:Obj} {es:Array (Int×Value)} {ep:Nat} {t:SetTable} {sl g e:Nat} {Q:Option (Value×Nat)->Shared->Prop} (ho:s.heap.get? a=some o) (hd:o.data=.set es ep t) (hf:t.fits es.size=true) (f:w.params.followText "set-order" = false) (c:(!t.plain&&decide (es.size > 1))=false) (ld:t.led=true)
  (h:Q (match es[SetTable.below t.place sl]?,t.place[SetTable.below t.place sl]? with | some (_,x),some j=>some (x,j+1) | _,_=>none) s):wpAny (model prog w) A (setNext a sl g e) Q E s:=by
 unfold setNext setsByText
 refine wpAny_bind (wpAny_setState_of (es:=es) (t:=t) ho hd hf ?_)
 dsimp only
 refine wpAny_bind (wpAny_bind (wpAny_askSetting (wpAny_pure ?_)))
 show wpAny _ _ (if w.params.followText "set-order" = true then _ else _) _ _ _
 rw [if_neg (by rw [f]; exact Bool.false_ne_true)]
 refine wpAny_bind (wpAny_pure ?_)
 show wpAny _ _ (if (!t.plain&&decide (es.size > 1))=true then _ else _) _ _ _
 rw [if_neg (by rw [c]; exact Bool.false_ne_true)]
 refine wpAny_bind (show wpAny _ _ (if (!t.led&&!es.isEmpty)=true then _ else _) _ _ _ from ?_)
 rw [if_neg (by rw [ld]; exact Bool.false_ne_true)]
 exact wpAny_pure (wpAny_pure h)
theorem VS {s:Shared} {P:Fin->Shared->Prop} {Q:Option Value->Shared->Prop} (hh:A.handled=none) (h:∀ h',(∀ b ob,s.heap.get? b=some ob->h'.get? b=some ob)->Q none { s with heap:=h' }) :
  wpAny (model prog w) A.in1 (newExc (.type "StopIteration") [] >>= fun e=>(raiseNew e:Sem Fin)) P (fun e s'=>wpAny (model prog w) A (isInstance e (.type "StopIteration") >>= fun b=>if b=true then pure none else throw e) Q E s') s:=by
 refine wpAny_bind ?_
 simp only [newExc,newTuple]
 refine wpAny_bind (wpAny_newObj_type (wpAny_bind (m:=firstArgMember _ _) (wpAny_of_eq (a:=Value.none) (by first | rfl | (simp only [firstArgMember]; rfl)) (wpAny_newObj_type ?_ (by size_fits)))) (by size_fits))
 simp only [raiseNew]
 refine wpAny_bind (wpAny_handled ?_)
 rw [show A.in1.handled=none from hh]
 refine wpAny_bind (wpAny_pure ?_)
 refine wpAny_throw (wpAny_bind ?_)
 refine wpAny_isInstance (T := "StopIteration") (b:=true) ⟨_,Heap.get?_push_size _ rfl,rfl⟩ isSubtype_stop ?_
 exact wpAny_pure (h _ fun b ob e=>Heap.get?_push_of_some _ (Heap.get?_push_of_some _ e))
theorem tI {s:Shared} {I:Addr} {fs:Array Value} {k:Nat} {v:Value} {Q:Unit->Shared->Prop} (hit:pP s.heap I fs) (hk:k<fs.size) (h:∀ h',pP h' I (fs.setIfInBounds k v)->Heap.SameBut I s.heap h'->Q () { s with heap:=h' }):wpAny (model prog w) A (setField (.ref I) k v) Q E s:=
 wpAny_setField hit rfl hk (h _ (Heap.get?_update_self _ hit rfl) (Heap.SameBut.update ..))
theorem QJ {s:Shared} {a:Addr} {es:Array (Int×Value)} {ep:Nat} {t:SetTable} {ord:List Value} {I tp:Addr} {i:Nat} {Q:Option Value->Shared->Prop} (hh:A.handled=none) (hIa:I≠a) (hIt:I≠tp) (hf:t.fits es.size=true) (lo:ord.length=es.size) (W:Wk w a es ep t ord I tp i s.heap) (hi:i<=ord.length)
  (h1:∀ v h',ord[i]?=some v->Wk w a es ep t ord I tp (i+1) h'->Heap.SameBut I s.heap h'->Q (some v) { s with heap:=h' })
  (h0:i=ord.length->∀ h',(∀ b ob,b≠I->s.heap.get? b=some ob->h'.get? b=some ob)->Q none { s with heap:=h' }):wpAny (model prog w) A (pyNext (.ref I)) Q E s:=by
 obtain ⟨⟨o,ho,hd⟩,md⟩:=W
 obtain ⟨first,hit⟩:∃ first,pP s.heap I #[first,rawInt i,.ref a,rawInt es.size,rawInt ep]:=by
  rcases md with ⟨_,_,sl,z⟩ | ⟨_,_,_,_,_,sl,z,_⟩ | ⟨_,_,_,z,_⟩
  ·exact ⟨_,z⟩
  ·exact ⟨_,z⟩
  ·exact ⟨_,z⟩
 have hT:s.TypeIs (.ref I) "set_iterator" := ⟨_,hit,rfl⟩
 unfold pyNext
 refine wpAny_bind (wpAny_attempt (wpAny_callSpecial?_slot (name:=Str.ofString "__next__") hT ky (wpAny_call_entry ky hT Eu ?_ (Er _))))
 unfold Builtin.«set_iterator.__next__» slotArgs
 simp only [List.isEmpty_nil,Bool.not_true,Bool.false_eq_true,↓reduceIte,bind_assoc,List.length_nil,bne_self_eq_false]
 refine wpAny_bind (wpAny_pure ?_)
 try dsimp only
 refine wpAny_bind (wpAny_fieldsOf hit rfl ?_)
 show wpAny _ _ (setEntries a >>= _) _ _ s
 refine wpAny_bind (wpAny_setEntries_of (es:=es) ho hd hf ?_)
 rw [if_neg (by simp)]
 refine wpAny_bind (wpAny_pure ?_)
 rcases md with ⟨f,eo,sl,z⟩ | ⟨f,c,ld,tb,eo,sl,z,hb⟩ | ⟨places,eo,hp,z,ht⟩
 ·cases (Option.some.inj (hit.symm.trans z))
  show wpAny _ _ (setNext a (sl:Int).toNat (i:Int).toNat (ep:Int).toNat >>= _) _ _ s
  rw [Int.toNat_natCast,Int.toNat_natCast,Int.toNat_natCast]
  have eg:((pickOrder (w.params.setOrder a ep) es)[i]?).map (fun e=>(e.2,sl))=(ord[i]?).map fun v=>(v,sl):=by
   rw [eo,List.getElem?_map,Array.getElem?_toList,Option.map_map]
   rfl
  refine wpAny_bind (B9 ho hd hf f ?_)
  rw [eg]
  cases hv:ord[i]? with
  | some v=>
   show wpAny _ _ (setField (.ref I) 0 (rawInt sl) >>= _) _ _ _
   refine wpAny_bind (tI hit (by simp) fun h2 i2 k2=>?_)
   refine wpAny_bind (tI (s:={ s with heap:=h2 }) i2 (by simp) fun h3 i3 k3=>?_)
   refine wpAny_pure ⟨v,rfl,wpAny_pure (h1 v h3 hv ⟨⟨o,?_,hd⟩,.inl ⟨f,eo,sl,?_⟩⟩ (k2.trans k3))⟩
   ·exact (k3.2 a hIa.symm).trans ((k2.2 a hIa.symm).trans ho)
   ·exact i3
  | none=>
   show wpAny _ _ (setField (.ref I) 2 .none >>= _) _ _ _
   refine wpAny_bind (tI hit (by simp) fun h2 i2 k2=>?_)
   have e:i=ord.length:=by
    have:=List.getElem?_eq_none_iff.mp hv
    omega
   exact VS hh fun h3 k3=>h0 e h3 fun b ob hbI eb=>k3 b ob ((k2.2 b hbI).trans eb)
 ·cases (Option.some.inj (hit.symm.trans z))
  show wpAny _ _ (setNext a (sl:Int).toNat (i:Int).toNat (ep:Int).toNat >>= _) _ _ s
  rw [Int.toNat_natCast,Int.toNat_natCast,Int.toNat_natCast]
  refine wpAny_bind (B8 ho hd hf f c ld ?_)
  rw [hb]
  have hps:t.place.size=es.size:=by
   simp only [SetTable.fits,Bool.and_eq_true,beq_iff_eq] at hf
   exact hf.1
  by_cases hlt:i<es.size
  ·have e1:es[i]?=some (es[i].1,es[i].2):=Array.getElem?_eq_getElem hlt
   have e2:t.place[i]?=some (t.place[i]'(by omega)):=Array.getElem?_eq_getElem (by omega)
   rw [e1,e2]
   have hv:ord[i]?=some es[i].2:=by
    rw [eo,List.getElem?_map,Array.getElem?_toList,e1]
    rfl
   show wpAny _ _ (setField (.ref I) 0 (rawInt ((t.place[i]'(by omega)+1:Nat):Int)) >>= _) _ _ _
   refine wpAny_bind (tI hit (by simp) fun h2 i2 k2=>?_)
   refine wpAny_bind (tI (s:={ s with heap:=h2 }) i2 (by simp) fun h3 i3 k3=>?_)
   refine wpAny_pure ⟨es[i].2,rfl,wpAny_pure (h1 _ h3 hv ⟨⟨o,?_,hd⟩,.inr (.inl ⟨f,c,ld,tb,eo,t.place[i]'(by omega)+1,?_,OC tb.up (by omega)⟩)⟩ (k2.trans k3))⟩
   ·exact (k3.2 a hIa.symm).trans ((k2.2 a hIa.symm).trans ho)
   ·exact i3
  ·have e1:es[i]?=none:=Array.getElem?_eq_none (by omega)
   rw [e1]
   show wpAny _ _ (setField (.ref I) 2 .none >>= _) _ _ _
   refine wpAny_bind (tI hit (by simp) fun h2 i2 k2=>?_)
   exact VS hh fun h3 k3=>h0 (by omega) h3 fun b ob hbI eb=>k3 b ob ((k2.2 b hbI).trans eb)
 ·cases (Option.some.inj (hit.symm.trans z))
  show wpAny _ _ (seqItems? (.ref tp) >>= _) _ _ s
  refine wpAny_bind (wpAny_seqItems ht rfl ?_)
  have lp:places.length=es.size:=by rw [<- lo,eo,List.length_map]
  show wpAny _ _ (match (places.map fun p:Nat=>rawInt p).toArray[(i:Int).toNat]? with | some (.int place _)=>_ | some _=>_ | none=>_) _ _ _
  rw [Int.toNat_natCast]
  by_cases hlt:i<places.length
  ·have e1:(places.map fun p:Nat=>rawInt p).toArray[i]?=some (rawInt (places[i]:Nat)):=by simp [hlt]
   have hpi:=hp places[i] (List.getElem_mem hlt)
   have e2:es[places[i]]?=some (es[places[i]].1,es[places[i]].2):=Array.getElem?_eq_getElem hpi
   have hv:ord[i]?=some es[places[i]].2:=by
    rw [eo,List.getElem?_map,List.getElem?_eq_getElem hlt]
    simp [Array.getD,hpi]
   rw [e1]
   show wpAny _ _ (setNextDrawn a ((places[i]:Nat):Int).toNat (ep:Int).toNat >>= _) _ _ _
   rw [Int.toNat_natCast,Int.toNat_natCast]
   unfold setNextDrawn
   refine wpAny_bind (wpAny_bind (wpAny_setState_of (es:=es) (t:=t) ho hd hf ?_))
   dsimp only
   rw [if_neg (by simp),e2]
   refine wpAny_pure ?_
   refine wpAny_bind (tI hit (by simp) fun h2 i2 k2=>?_)
   refine wpAny_pure ⟨_,rfl,wpAny_pure (h1 _ h2 hv ⟨⟨o,(k2.2 a hIa.symm).trans ho,hd⟩,.inr (.inr ⟨places,eo,hp,i2,(k2.2 tp hIt.symm).trans ht⟩)⟩ k2)⟩
  ·have e1:(places.map fun p:Nat=>rawInt p).toArray[i]?=none:=by simp; omega
   rw [e1]
   show wpAny _ _ (setField (.ref I) 0 (rawInt 0) >>= _) _ _ _
   refine wpAny_bind (tI hit (by simp) fun h2 i2 k2=>?_)
   refine wpAny_bind (tI (s:={ s with heap:=h2 }) i2 (by simp) fun h3 i3 k3=>?_)
   exact VS hh fun h4 k4=>h0 (by omega) h4 fun b ob hbI eb=>k4 b ob ((k3.2 b hbI).trans ((k2.2 b hbI).trans eb))
end
end L2
namespace L2
open PySem PySem.Spec PyProof PyProof.Rows
section
variable {prog:Program} {w:World} {A:Around} {E:Value->Shared->Prop}
theorem HU {a:Addr} {es:Array (Int×Value)} {ep:Nat} {t:SetTable} {ord:List Value} {I tp:Addr} (hh:A.handled=none) (hIa:I≠a) (hIt:I≠tp) (hf:t.fits es.size=true) (lo:ord.length=es.size) :
  Walks prog w A I [I,a,tp] [I] ord.length (fun i v=>ord[i]?=some v) (fun i h=>i<=ord.length/\Wk w a es ep t ord I tp i h) where
 sub:=fun b hb=>by
  rw [List.mem_singleton.mp hb]
  exact List.mem_cons_self ..
 frame:=fun i h h' ⟨hi,W⟩ k=>by
  obtain ⟨⟨o,ho,hd⟩,md⟩:=W
  have kI:=k I (List.mem_cons_self ..)
  have ka:=k a (List.mem_cons_of_mem _ (List.mem_cons_self ..))
  have kt:=k tp (List.mem_cons_of_mem _ (List.mem_cons_of_mem _ (List.mem_cons_self ..)))
  refine ⟨hi,⟨o,ka o ho,hd⟩,?_⟩
  rcases md with ⟨f,eo,sl,z⟩ | ⟨f,c,ld,tb,eo,sl,z,hb⟩ | ⟨places,eo,hp,z,ht⟩
  ·exact .inl ⟨f,eo,sl,kI _ z⟩
  ·exact .inr (.inl ⟨f,c,ld,tb,eo,sl,kI _ z,hb⟩)
  ·exact .inr (.inr ⟨places,eo,hp,kI _ z,kt _ ht⟩)
 item:=fun i s Q E hi ⟨hle,W⟩ hQ=>QJ hh hIa hIt hf lo W hle (fun v h' hv W' k=>by
  have:=hQ v h' s.toks hv ⟨hi,W'⟩ fun b o hb e=>(k.2 b fun z=>hb (by rw [z]; exact List.mem_cons_self ..)).trans e
  exact this) fun z=>absurd z (Nat.ne_of_lt hi)
 done:=fun s Q E ⟨hle,W⟩ hQ=>QJ hh hIa hIt hf lo W hle (fun v h' hv=>by
  rw [List.getElem?_eq_none (Nat.le_refl _)] at hv
  cases hv) fun _ h' k=>hQ h' s.toks fun b o hb e=>k b o (fun z=>hb (by rw [z]; exact List.mem_cons_self ..)) e
 self:=fun i s Q E ⟨hle,W⟩ hQ=>by
  obtain ⟨_,md⟩:=W
  have hT:s.TypeIs (.ref I) "set_iterator" := by
   rcases md with ⟨_,_,sl,z⟩ | ⟨_,_,_,_,_,sl,z,_⟩ | ⟨_,_,_,z,_⟩<;>exact ⟨_,z,rfl⟩
  refine wpAny_pyIter_slot hT Jx (wpAny_call_entry Jx hT Et (show wpAny _ _ (ret (.ref I)) _ _ s from ?_) (Ep _))
  exact wpAny_pure ⟨_,rfl, "set_iterator",_,hT,ky.lookup,hQ⟩
theorem L_ {s:Shared} {a:Addr} {Q:Bool->Shared->Prop} (hT:s.TypeIs (.ref a) "set") (h:Q false s):wpAny (model prog w) A (Builtin.List.listLengthHint (.ref a)) Q E s:=by
 unfold Builtin.List.listLengthHint
 refine wpAny_bind (wpAny_specialOf hT (F.slot_set_len.lookup) ?_)
 generalize hi:("set.__len__" : String)=x
 wp_delta
 rw [show splitId x=some ("set", "__len__") from by subst hi; decide +kernel]
 subst hi
 refine wpAny_bind (wpAny_isInstance (T := "set") (b:=true) hT (by rw [isSubtype_type]; kernel_rfl) ?_)
 refine wpAny_ite_split (fun z=>absurd z (by decide)) fun _=>wpAny_ite_split (fun _=>?_) fun z=>absurd (by decide +kernel) z
 exact wpAny_bind (wpAny_typeOf hT (wpAny_pure h))
theorem Oe {s:Shared} {a:Addr} {o:Obj} {es:Array (Int×Value)} {ep:Nat} {t:SetTable} {Q:List Value->Shared->Prop} (hh:A.handled=none) (ho:s.heap.get? a=some o) (hx:o.ExactSet) (hd:o.data=.set es ep t) (hf:t.fits es.size=true) (hb:es.size<scanBound) (tb:yz t) (ld:t.led=(!w.params.followText "set-order"))
  (h:∀ h' d tk ord,ord.Perm (es.toList.map (·.2))->s.heap.objs.size<h'.objs.size->(∀ b ob,s.heap.get? b=some ob->h'.get? b=some ob)->Q ord { s with heap:=h',drawn:=d,toks:=tk }):wpAny (model prog w) A (collect (.ref a)) Q E s:=by
 unfold collect
 refine wpAny_bind (wpAny_runValue (codeAny_builtin (entry_proto_collect') ?_))
 show wpAny _ _ (newList [] >>= fun l=>again (.builtin "list.__iadd__" ⟨[l,.ref a],[]⟩)) _ _ s
 refine wpAny_bind (wpAny_newList (wpAny_pure ⟨Code.quiet_builtin _ (by decide +kernel),codeAny_builtin (entry_list_iadd') ?_⟩))
 show wpAny _ _ (Builtin.List.listExtendWith (.ref s.heap.objs.size) (.ref a) (.ref s.heap.objs.size)) _ _ { s with heap:=s.heap.push (seqObj "list" #[] 0) }
 unfold Builtin.List.listExtendWith
 have ho0:(s.heap.push (seqObj "list" #[] 0)).get? a=some o:=Heap.get?_push_of_some _ ho
 have hlt:=Heap.lt_size ho
 have neS:s.heap.objs.size≠a:=xg (Nat.ne_of_gt hlt)
 refine wpAny_bind (wpAny_typeOf (T := "set") ⟨o,ho0,hx.1⟩ ?_)
 have q1:Builtin.List.listSameRef (.ref s.heap.objs.size) (.ref a)=false:=by simp [Builtin.List.listSameRef,neS]
 have q2:(Value.type "set" == Value.type "list")=false:=by decide
 have q3:(Value.type "set" == Value.type "tuple")=false:=by decide
 rw [if_neg (by rw [q1,q2,q3]; exact Bool.false_ne_true)]
 refine wpAny_bind (MG ho0 hx hd hf hb tb ld fun h1 d ord I tp pm hI htp hIt W0 kp=>?_)
 refine wpAny_bind (wpAny_holding (L_ ⟨o,kp a o ho0,hx.1⟩ ?_))
 refine wpAny_ite_split (fun _=>?_) fun z=>absurd (by decide +kernel) z
 refine wpAny_bind (wpAny_rule (wpAny_bind ?_))
 have z0:(s.heap.push (seqObj "list" #[] 0)).objs.size=s.heap.objs.size+1:=Heap.size_push ..
 rw [z0] at hI htp
 have lo:ord.length=es.size:=by rw [pm.length_eq,List.length_map,Array.length_toList]
 have hIa:I≠a:=xg (Nat.ne_of_gt (Nat.lt_of_lt_of_le (Nat.lt_succ_of_lt hlt) hI))
 have hSf:s.heap.objs.size ∉ [I,a,tp]:=fun m=>by
  simp only [List.mem_cons,List.not_mem_nil,or_false] at m
  rcases m with m | m | m
  ·exact absurd hI (by rw [<- m]; exact Nat.not_succ_le_self _)
  ·exact neS m
  ·rcases htp with e | e
   ·exact neS (m.trans e)
   ·exact absurd e (by rw [<- m]; exact Nat.not_succ_le_self _)
 show wpAny _ _ (updateSeq s.heap.objs.size (·.push .none) >>= fun _=>updateSeq s.heap.objs.size (·.pop)) _ _ _
 have S1:h1.get? s.heap.objs.size=some (seqObj "list" #[] 0):=kp _ _ (Heap.get?_push_size _ rfl)
 refine wpAny_bind (wpAny_updateSeq S1 rfl ?_)
 have S2:=Heap.get?_update_self (Obj.mapSeq (·.push Value.none)) S1 rfl
 refine wpAny_updateSeq (hz:=by seq_fits) S2 rfl (wpAny_pure ⟨plainId_quiet (F.plain_extend_loop) _,?_⟩)
 have S3:=Heap.get?_update_self (Obj.mapSeq (·.pop)) S2 rfl
 have W:=HU (prog:=prog) (w:=w) (A:=A.in1) (ep:=ep) (t:=t) (es:=es) (by exact hh) hIa hIt hf lo
 have keep:∀ b ob,b≠s.heap.objs.size->h1.get? b=some ob->((h1.update s.heap.objs.size (Obj.mapSeq (·.push Value.none))).update s.heap.objs.size (Obj.mapSeq (·.pop))).get? b=some ob:=fun b ob hbS e=>
  (Heap.get?_update_other _ _ (Ne.symm hbS)).trans ((Heap.get?_update_other _ _ (Ne.symm hbS)).trans e)
 refine codeAny_extend_loopS W.toS (by rw [lo]; exact fits_of_scanBound hb) s.heap.objs.size hSf (.ref s.heap.objs.size) ord.length 0 _ #[] _ rfl (Nat.zero_le _) (W.frame 0 h1 _ ⟨Nat.zero_le _,W0⟩ fun b hb' ob e=>keep b ob (fun z=>hSf (z ▸ hb')) e) S3 (ItemsOf.nil _) fun s' acc' c' hm hS' hacc=>?_
 rw [Moved.eq_with hm]
 refine wpAny_bind (wpAny_load hS' ?_)
 have ea:acc'.toList=ord:=by
  refine List.ext_getElem? fun j=>?_
  by_cases c:j<ord.length
  ·have hj:j<acc'.size:=by rw [hacc.1]; exact c
   rw [Array.getElem?_toList,Array.getElem?_eq_getElem hj]
   exact (hacc.2 j _ (Array.getElem?_eq_getElem hj)).symm
  ·rw [List.getElem?_eq_none (by rw [Array.length_toList,hacc.1]; omega),List.getElem?_eq_none (by omega)]
 show wpAny _ _ (pure acc'.toList) _ _ _
 rw [ea]
 refine wpAny_pure (h s'.heap d s'.toks ord pm (Heap.lt_size hS') fun b ob e=>?_)
 have hbl:=Heap.lt_size e
 refine hm.heap b ob (fun m=>?_) (keep b ob (xg (Nat.ne_of_lt hbl)) (kp b ob (Heap.get?_push_of_some _ e)))
 rcases List.mem_cons.mp m with m | m
 ·exact absurd hbl (by rw [m]; exact Nat.lt_irrefl _)
 ·rw [List.mem_singleton.mp m] at hbl
  exact absurd (Nat.lt_of_lt_of_le hbl (Nat.le_of_succ_le hI)) (Nat.lt_irrefl _)
end
end L2
namespace L2
open PySem PySem.Spec PyProof PyProof.Rows
noncomputable def WC:Value->Int
 | .int i _=>i
 | _=>0
theorem TQ:∀ {vs:List Value},(∀ v∈vs,∃ i t,v=.int i t)->IntsAre vs (vs.map WC)
 | [],_=>.nil
 | v::vs,h=>by
  obtain ⟨i,t,rfl⟩:=h v (List.mem_cons_self ..)
  exact .cons _ _ (TQ fun x hx=>h x (List.mem_cons_of_mem _ hx))
section
variable {prog:Program} {w:World} {A:Around} {E:Value->Shared->Prop}
theorem GF {s:Shared} {a:Addr} {ns:List Int} {Q:Value->Shared->Prop} (hh:A.handled=none) (z:v8 prog w a (ns.map Sum.inl) s.heap) (h64:ns.length<64)
  (h:∀ h' d tk p out c ns',s.heap.objs.size<=p->h'.get? p=some (seqObj "list" out c)->IntsAre out.toList ns'->ns'.Perm ns->ns'.Pairwise (·<=·)->(∀ b ob,s.heap.get? b=some ob->h'.get? b=some ob)->Q (.ref p) { s with heap:=h',drawn:=d,toks:=tk }) :
  wpAny (model prog w) A (call (.builtin "sorted") [.ref a]) Q E s:=by
 obtain ⟨o,es,ep,t,ho,hx,hd,hel,hb,hf,tb,ld,pk⟩:=z
 refine Calls.call_function_entry kind_sorted plain_sorted entry_sorted (args_sorted1 _) ?_
 unfold Builtin.«sorted»
 refine wpAny_bind (m:=checkCount "sorted" 1 1 _) (wpAny_pure (wpAny_bind (Oe (by exact hh) ho hx hd hf hb tb ld fun h1 d tk ord pm hle kp=>wpAny_bind (wpAny_newList ?_ (by rw [pm.length_eq,List.length_map,Array.length_toList]; exact fits_of_scanBound hb)))))
 have pk2:(ord.map tY).Perm (ns.map Sum.inl):=by
  have:=pm.map tY
  rw [List.map_map] at this
  exact this.trans pk
 have hv:∀ v∈ord,∃ i tk,v=Value.int i tk:=fun v hv=>by
  obtain ⟨e,he,rfl⟩:=List.mem_map.mp (pm.mem_iff.mp hv)
  obtain ⟨i,_,ei⟩:=List.mem_map.mp (pk2.mem_iff.mp (List.mem_map_of_mem hv))
  have:=Ul hel he
  rw [<- ei] at this
  rcases vX this with ⟨j,tk,_,e⟩ | ⟨x,tk,e,_⟩
  ·exact ⟨j,tk,e⟩
  ·cases e
 have hI:=TQ hv
 have pj:(ord.map WC).Perm ns:=by
  have g:=pk2.map fun k:zL=>match k with | .inl i=>i | .inr _=>(0:Int)
  rw [List.map_map,List.map_map] at g
  have e1:ns.map ((fun k:zL=>match k with | .inl i=>i | .inr _=>(0:Int)) ∘ Sum.inl)=ns:=by
   rw [show ((fun k:zL=>match k with | .inl i=>i | .inr _=>(0:Int)) ∘ Sum.inl)=id from rfl,List.map_id]
  have e2:ord.map ((fun k:zL=>match k with | .inl i=>i | .inr _=>(0:Int)) ∘ tY)=ord.map WC:=List.map_congr_left fun v hvv=>by
   obtain ⟨i,tk,rfl⟩:=hv v hvv
   rfl
  rw [e1,e2] at g
  exact g
 have l64:ord.length<64:=by
  have:=pj.length_eq
  rw [List.length_map] at this
  omega
 have g1:(h1.push (seqObj "list" ord.toArray 0)).get? h1.objs.size=some (seqObj "list" ord.toArray 0):=Heap.get?_push_size _ rfl
 refine wpAny_bind (wpAny_holding (wpAny_call_entry slot_list_sort ⟨_,g1,rfl⟩ entry_list_sort (list_sort_tree g1 hI l64 fun out ns' a1 a2 a3=>⟨_,rfl,?_⟩) (args_list_sort _)))
 obtain ⟨c,hc⟩:=sortedHeap_at (vs:=ord) (out:=out) g1
 refine wpAny_pure ⟨_,rfl,h _ d tk h1.objs.size out c ns' (Nat.le_of_lt hle) hc a1 (a2.trans pj) a3 fun b ob e=>?_⟩
 have hbl:=Heap.lt_size (kp b ob e)
 rw [sortedHeap_old (xg (Nat.ne_of_lt hbl)) (by rw [size_push']; exact Nat.lt_succ_of_lt hbl)]
 exact Heap.get?_push_of_some _ (kp b ob e)
end
section
variable {X:Cx}
noncomputable abbrev jX (prog:Program) (w:World) (a:Addr) (ks:List zL):HO:=.ext (v8 prog w a ks)
noncomputable def CA (X:Cx):List V->Hp->VK->Prop:=fun xs H Q=>∃ (a:Addr) (ks:List zL),xs=[.ref a]/\zy X.K H a (ks.map kV)/\ks.length<1000/\∀ p,H p=none->Q (.ref p) (ze H p (jX X.prog X.w p (ks.foldl wE [])))
theorem OT (hcalm:X.calm=true):xi X (.type "set") (CA X):=by
 intro pins s σ H xs us Q I r h
 obtain ⟨a,ks,rfl,sq,hl,q⟩:=h
 obtain ⟨u,rfl,ru⟩:=vE r
 cases (show u=Value.ref a from ru)
 obtain ⟨its,rv,⟨o,n,ho,hc,hdd,hdat⟩,hz⟩:=I.list sq
 have hn:ks.length=its.length:=by rw [<- rv.length,List.length_map]
 refine OU (I.ok.hd hcalm) ho hc hdat hn (Tp X.prog X.w rv) (by unfold scanBound; omega) fun h' tk hs kp=>?_
 refine ⟨.ref s.heap.objs.size,_,I.laid (a:=s.heap.objs.size) (o:=jX X.prog X.w s.heap.objs.size (ks.foldl wE [])) (t':=tk) kp (Nat.le_refl _) ⟨hs,?_,fun h1 h2 z k=>z.keep k⟩,rfl,q _ I.fresh⟩
 obtain ⟨o',_,_,_,e,_⟩:=hs
 exact ⟨o',e⟩
theorem _root_.L2.Inv.draw {pins:List (Addr×Obj)} {σ:St} {H:Hp} {s:Shared} (I:Inv X pins σ H s) (d:Drawn):Inv X pins σ H { s with drawn:=d }:=⟨I.ok,I.os,I.bare,I.base,I.loc,I.cell,I.free,I.freeC,I.pin,I.hok,I.len⟩
noncomputable def CD (X:Cx):List V->Hp->VK->Prop:=fun xs H Q=>∃ (a:Addr) (ns:List Int),xs=[.ref a]/\H a=some (jX X.prog X.w a (ns.map Sum.inl))/\ns.length<64/\∀ l,H l=none->Q (.ref l) (ze H l (.lst ((isort ns).map V.int)))
theorem OW (hcalm:X.calm=true):xi X (.builtin "sorted") (CD X):=by
 intro pins s σ H xs us Q I r h
 obtain ⟨a,ns,rfl,ea,h64,q⟩:=h
 obtain ⟨u,rfl,ru⟩:=vE r
 cases (show u=Value.ref a from ru)
 obtain ⟨z,_⟩:=(show xA X.prog X.w H s.heap a (jX X.prog X.w a (ns.map Sum.inl)) from I.hok a _ ea)
 refine GF (I.ok.hd hcalm) z h64 fun h' d tk p out c ns' hp hc a1 a2 a3 kp=>?_
 have e:ns'=isort ns:=VO (a2.trans (isort_perm ns).symm) a3 (isort_sorted ns)
 subst e
 have hl2:(isort ns).length=ns.length:=(isort_perm ns).length_eq
 refine ⟨.ref p,_,(I.draw d).laid (t':=tk) (h':=h') kp hp (show xA X.prog X.w _ _ _ (.lst ((isort ns).map V.int)) from ⟨?_,out.toList,c,WG a1,?_⟩),rfl,q _ (I.hok.fresh hp)⟩
 ·rw [List.length_map,hl2]
  show _<=sizeLine
  rw [sizeLine_eq]
  omega
 ·rw [Array.toArray_toList]
  exact hc
end
end L2
namespace L3
open PySem PySem.Spec PyProof.Rows L2
noncomputable def vW (acc:List Int) (n:Int):List Int:=if (acc.any fun m=>decide (m=n))=true then acc else acc++[n]
noncomputable def wb (ns:List Int):List Int:=ns.foldl vW []
theorem O0 (acc:List Int) (n:Int):wE (acc.map Sum.inl) (.inl n)=(vW acc n).map Sum.inl:=by
 have e:tm (acc.map Sum.inl) (.inl n)=acc.any fun m=>decide (m=n):=by
  unfold tm
  rw [List.any_map]
  congr 1
  funext m
  exact decide_eq_decide.mpr ⟨Sum.inl.inj,congrArg _⟩
 unfold wE vW
 rw [e]
 split
 ·rfl
 ·rw [List.map_append]
  rfl
theorem Qc:∀ (ns acc:List Int),(ns.map Sum.inl).foldl wE (acc.map Sum.inl)=(ns.foldl vW acc).map Sum.inl
 | [],_=>rfl
 | n::ns,acc=>by
  rw [List.map_cons,List.foldl_cons,List.foldl_cons,O0]
  exact Qc ns (vW acc n)
noncomputable def pY:List D->Option D
 | [.lst xs]=>(intsOf xs).bind fun ns=>if ns.length<1000/\(wb ns).length<64 then some (.lst ((isort (wb ns)).map D.int)) else none
 | _=>none
theorem Jt {X:Cx} {e:Expr} {fs:FA} {p p2 pos pos2:Pos} (hcalm:X.calm=true) (hg:Gl X "sorted") (hm:X.mg "sorted" = none) (hg2:Gl X "set") (hm2:X.mg "set" = none) (ha:SA X [e] fs) (hs:yl e=true:=by rfl) :
  SF X (.Call (.Name "sorted" p) [.Call (.Name "set" p2) [e] [] pos2] [] pos) (eL pY fs):=by
 obtain ⟨t,pt,k⟩:=ha.h
 have q1:=j9 (p:=p2) (pos:=pos2) (OT hcalm) hg2 hm2 OJ ⟨pt⟩ (by decide) (by decide) (by rw [List.all_cons,hs]; rfl)
 refine ⟨⟨_,(Wz (p:=p) (pos:=pos) (OW hcalm) hg hm UO (JD q1 JE) (by decide) (by decide)).h,fun {G0 H0 G H τ σ d Q} E hf q=>?_⟩⟩
 obtain ⟨ds,hd,hf⟩:=zJ hf
 refine k E hd fun vs G1 H1 x1 r1=>?_
 match ds,hf with
 | [.lst xs],hf=>
  obtain ⟨ns,hn,hf⟩:=zJ (show (intsOf xs).bind _=some d from hf)
  split at hf
  ·rename_i h64
   cases hf
   obtain ⟨v,rfl,a,us,rfl,sq,rs,l⟩:=tF r1
   rw [TR hn] at rs l
   rw [Jb rs] at sq
   have sq:zy X.K G1 a ((ns.map Sum.inl).map kV):=by
    rw [List.map_map]
    exact sq
   have ek:(ns.map Sum.inl).foldl wE []=(wb ns).map Sum.inl:=Qc ns []
   refine ⟨a,ns.map Sum.inl,rfl,wA x1.gh sq,by rw [List.length_map]; exact h64.1,fun p1 hp1=>?_⟩
   have x2:=x1.trans (zM.layO (o:=jX X.prog X.w p1 ((ns.map Sum.inl).foldl wE [])) x1.gh hp1)
   refine ⟨p1,wb ns,rfl,by rw [ek]; exact yQ,h64.2,fun p hp=>?_⟩
   refine q p _ _ (x2.trans (zM.layO x2.gh hp)) (x2.h.free hp) (x2.gh.free hp) ⟨_,yQ,TN _,?_⟩
   rw [List.length_map,(isort_perm _).length_eq]
   show _<=16777216
   omega
  ·cases hf
end L3
namespace L2
open PySem PySem.Spec PyProof PyProof.Rows
noncomputable def jN (i j c:Int):Nat:=if i<j then ((j - i - 1) / c+1).toNat else 0
theorem IE {i j c:Int} (hc:0<c):Builtin.Range.rangeSize i j c=(jN i j c:Int):=by
 unfold Builtin.Range.rangeSize jN
 rw [if_pos hc]
 split
 ·have:0<=(j - i - 1) / c:=Int.ediv_nonneg (by omega) (by omega)
  omega
 ·rfl
theorem GM {i j c:Int} (hc:0<c):jN i j c<=(j - i).toNat:=by
 unfold jN
 split
 ·have:(j - i - 1) / c<=j - i - 1:=Int.ediv_le_self _ (by omega)
  omega
 ·omega
theorem G9 {i j c:Int} (hc:0<c) (h1:i.natAbs<=16777216) (h2:j.natAbs<=16777216) (h3:c<=16777216):Builtin.Range.small i j c=true:=by
 unfold Builtin.Range.small
 rw [IE hc]
 have:=GM (i:=i) (j:=j) hc
 simp only [Builtin.Range.rangeFitsLong,Bool.and_eq_true,Bool.or_eq_true,decide_eq_true_eq,beq_iff_eq,if_pos (show c > 0 from hc)]
 generalize jN i j c=n at *
 omega
section
variable {X:Cx} {tg:Expr}
end
end L2
namespace L3
open PySem PySem.Spec PyProof.Rows L2
end L3
namespace L2
open PySem PySem.Spec PyProof PyProof.Rows
open PySem.AutoSeq1 in
theorem Mp (l:Addr) (items:Array Value) (n:Nat) (b:Addr) (items2:Array Value) (n2:Nat) (d2:Option Addr) (sl2:Array (Option Value)) (hc0:¬(!items.isEmpty&&Builtin.List.listTooLong (items.size+items2.size))=true) (hc1:items.size<=sizeLine) (hs2:items.size+items2.size<=sizeLine+1) :
  Meets (Builtin.«list.extend» ⟨[.ref l,.ref b],[]⟩) (fun _ R s=>s.heap.get? l=some { cls:=.type "list",dict:=none,data:=.seq items n,slots:=#[] }/\s.heap.get? b=some { cls:=.type "list",dict:=d2,data:=.seq items2 n2,slots:=sl2 }/\R (.ok (.ret Value.none)) { s with heap:=s.heap.update l (Obj.mapSeq fun x=>x++items2),toks:=s.toks }):=
 .of_wp fun prog w A R s h=>by
  obtain ⟨hp,g,d,tk,os⟩:=s
  obtain ⟨hl,hb,h⟩:=h
  have f1:=idx_int; have f2:=AutoSeq1.sub_tuple_tuple; have f3:=AutoSeq1.sub_list_list; have f4:=AutoSeq1.sub_tuple_list; have f5:=AutoSeq1.sub_list_tuple
  have hz':(items++items2).size<=sizeLine+1:=by rw [Array.size_append]; exact hs2
  wp_walk using (wpAny_updateSeq hl rfl (hz:=hc1) (_hz':=hz')),wpAny_loadPart' hl,wpAny_loadPart' hb
  exact ⟨_,rfl,h⟩
theorem zb.of_get:∀ {xs:List V} {us:List Value},us.length=xs.length->(∀ (j:Nat) (x:V) (v:Value),xs[j]?=some x->us[j]?=some v->zi x v)->zb xs us
 | [],[],_,_=>.nil
 | [],_::_,h,_=>by cases h
 | _::_,[],h,_=>by cases h
 | x::xs,u::us,h,f=>.cons (f 0 x u rfl rfl) (zb.of_get (by simpa using h) fun j y v h1 h2=>f (j+1) y v (by simpa using h1) (by simpa using h2))
section
variable {X:Cx}
noncomputable def C2 (K:PySem.W.Frag):V->List V->Hp->VK->Prop:=fun x vs H Q=>∃ l b xs zs,x=.ref l/\vs=[.ref b]/\H l=some (.lst xs)/\zy K H b zs/\xs.length+zs.length<=sizeLine/\Q .non (ze H l (.lst (xs++zs)))
theorem Mv:XR X "list.extend" (C2 X.K):=by
 intro pins s σ H x vs v us Q I rx rv h
 obtain ⟨l,b,xs,zs,rfl,rfl,hH,hB,hz,q⟩:=h
 cases rx
 obtain ⟨u,rfl,ru⟩:=rv.one
 cases ru
 obtain ⟨z,its,n,r,hl,e⟩:=I.lstM hH
 obtain ⟨its2,r2,p2,_⟩:=I.list hB
 obtain ⟨⟨c2,d2,t2,sl2⟩,n2,ho2,hc2,hd2,ht2⟩:=p2
 simp only at hc2 ht2
 subst hc2 ht2
 have hl2:=r2.length
 have hsz:its.toArray.size+its2.toArray.size<=sizeLine:=by rw [List.size_toArray,List.size_toArray]; omega
 have hlong:¬ (!its.toArray.isEmpty&&Builtin.List.listTooLong (its.toArray.size+its2.toArray.size))=true:=by
  rw [QO hsz,Bool.and_false]
  exact Bool.false_ne_true
 refine call_meets F.slot_list_extend ⟨_,e,rfl⟩ F.entry_list_extend (F.args_list_extend_2 _ _)
  (Mp l its.toArray n b its2.toArray n2 d2 sl2 hlong (by rw [List.size_toArray]; omega) (by omega)) ⟨e,ho2,?_⟩
 refine ⟨.non,_,I.lset (its':=its++its2) hH e (by simp) (r.append r2) ?_,rfl,q⟩
 rw [List.length_append]
 omega
noncomputable def Vy (a:Addr) (n:Nat) (h:Heap):Prop:=∃ t u v,IsRange h a 0 n 1 t u v
noncomputable abbrev jV (a:Addr) (n:Nat):HO:=.ext (Vy a n)
noncomputable def C7:List V->Hp->VK->Prop:=fun xs H Q=>∃ j:Int,xs=[.int j]/\0<=j/\∀ p,H p=none->Q (.ref p) (ze H p (jV p j.toNat))
theorem OS:xi X (.type "range") C7:=by
 intro pins s σ H xs us Q I r h
 obtain ⟨j,rfl,h0,q⟩:=h
 obtain ⟨u,rfl,ru⟩:=vE r
 obtain ⟨t,rfl⟩:=(show ∃ t,u=Value.int j t from ru)
 refine call_range_1 ?_
 have e:((j.toNat:Nat):Int)=j:=by omega
 have hr:Vy s.heap.objs.size j.toNat (s.heap.push { cls:=.type "range",data:=.fields #[.int 0 s.toks,.int j t,.int 1 (s.toks+1)] }):=by
  refine ⟨s.toks,t,s.toks+1,?_⟩
  rw [e]
  exact IsRange.new ..
 refine ⟨.ref s.heap.objs.size,_,I.laid (a:=s.heap.objs.size) (o:=jV s.heap.objs.size j.toNat) (fun _ _ q=>Heap.get?_push_of_some _ q) (Nat.le_refl _) ⟨hr,?_,fun h1 h2 z k=>?_⟩,rfl,q _ I.fresh⟩
 ·obtain ⟨t,u,v,e⟩:=hr
  exact ⟨_,e⟩
 ·obtain ⟨t,u,v,e⟩:=z
  exact ⟨t,u,v,k _ e⟩
noncomputable def C4:List V->Hp->VK->Prop:=fun xs H Q=>∃ (a:Addr) (n:Nat),xs=[.ref a]/\H a=some (jV a n)/\n<=1000000/\∀ p,H p=none->Q (.ref p) (ze H p (.lst ((List.range n).map fun k:Nat=>V.int k)))
theorem OQ (hcalm:X.calm=true):xi X (.type "list") C4:=by
 intro pins s σ H xs us Q I r h
 obtain ⟨a,n,rfl,ea,hn,q⟩:=h
 obtain ⟨u,rfl,ru⟩:=vE r
 cases (show u=Value.ref a from ru)
 obtain ⟨⟨t,u,v,hr⟩,_⟩:=(show xA X.prog X.w H s.heap a (jV a n) from I.hok a _ ea)
 have hs:Builtin.Range.rangeSize 0 (n:Int) 1=(n:Int):=by
  rw [IE (by decide)]
  unfold jN
  split<;>omega
 refine call_list_range (I.ok.hd hcalm) hr (G9 (by decide) (by decide) (by omega) (by decide)) hs (by omega) fun h' tk acc' c' kp hS hacc=>?_
 obtain ⟨hsz,hat⟩:=hacc
 have rv:zb ((List.range n).map fun k:Nat=>V.int k) acc'.toList:=by
  refine zb.of_get (by simp [hsz]) fun j x v h1 h2=>?_
  rw [List.getElem?_map,List.getElem?_range (by
   have:=(List.getElem?_eq_some_iff.mp h2).1
   rw [Array.length_toList,hsz] at this
   exact this)] at h1
  cases h1
  obtain ⟨t,e⟩:=hat j v (by rw [<- Array.getElem?_toList]; exact h2)
  refine ⟨t,?_⟩
  rw [e]
  simp
 refine ⟨.ref s.heap.objs.size,_,I.laid (a:=s.heap.objs.size) (o:=.lst ((List.range n).map fun k:Nat=>V.int k)) (t':=tk) kp (Nat.le_refl _) ⟨?_,acc'.toList,c',rv,?_⟩,rfl,q _ I.fresh⟩
 ·rw [List.length_map,List.length_range,sizeLine_eq]
  show n<=16777216
  omega
 ·rw [hS]
end
end L2
namespace L3
open PySem PySem.Spec PyProof.Rows L2
noncomputable def X_:List D->Option D
 | [.int j]=>if 0<=j/\j<=1000000 then some (.lst ((List.range j.toNat).map fun k:Nat=>.int k)) else none
 | _=>none
theorem CJ {K:PySem.W.Frag} {G:Hp} (l:List Nat):Reps K G (l.map fun k:Nat=>D.int k) (l.map fun k:Nat=>V.int k):=by
 induction l with
 | nil=>rfl
 | cons a r ih=>exact ⟨_,_,rfl,rfl,ih⟩
section
variable {X:Cx} {x y:Str} {xp yp pos apos cpos:Pos} {e:Expr} {f:FE}
theorem IA {i j:Nat} (ho:QE X (.Name x xp) (vf i)) (hN:X.N.Nodup) (hj:X.N[j]?=some y) (hy:wM X.env.scope y)
  (hbase:attributeBase (.Name x xp) "pop" X.env (eval (.Name x xp) X.env)=eval (.Name x xp) X.env:=by rfl) (hline:(apos.endLine == cpos.line)=true:=by rfl) (hf:X.fn y=true\/X.env.scope.names.lookup y=some .local:=by first | exact .inl rfl | exact .inr rfl | assumption) :
  SS X (.Assign [.Name y yp] (.Call (.Attribute (.Name x xp) "pop" apos) [] [] cpos) pos) (tw j i):=by
 refine ⟨⟨_,(jC hN hj hy (Fw PySem.F.plainAttrs_list PySem.F.slot_list_pop PySem.F.type_list_pop Mz ho hbase hline) rfl hf).h,fun {G0 H0 G H τ σ fl E} K hf q=>?_⟩⟩
 unfold tw at hf
 split at hf
 ·rename_i ds hd
  obtain ⟨d,hl,hf⟩:=zJ hf
  by_cases hne:j=i
  ·rw [if_pos hne] at hf
   cases hf
  ·rw [if_neg hne] at hf
   cases hf
   obtain ⟨aa,ea,g,z,vs,ev,rs,l⟩:=K.ow _ _ hd
   rw [List.getLast?_eq_getElem?] at hl
   obtain ⟨v,hv,rv⟩:=rs.get hl
   rw [<- rs.length] at hv
   refine ⟨_,ea,.inl ⟨rfl,vs,zy.of ev⟩,aa,vs,v,rfl,rfl,ev,hv,?_⟩
   refine q _ _ _ ((K.mut (d':=.lst ds.dropLast) hd ea ⟨_,yQ,Reps.dropLast rs,?_⟩).set (List.getElem?_eq_some_iff.mp hj).1 rv)
   rw [List.length_dropLast]
   omega
 ·cases hf
theorem J_ {i:Nat} (ho:QE X (.Name x xp) (vf i)) (he:SE X e f) (hbase:attributeBase (.Name x xp) "extend" X.env (eval (.Name x xp) X.env)=eval (.Name x xp) X.env:=by rfl) (hline:(apos.endLine == cpos.line)=true:=by rfl) (hs:yl e=true:=by rfl) :
  SS X (.Expr (.Call (.Attribute (.Name x xp) "extend" apos) [e] [] cpos) pos) (qj i f):=by
 obtain ⟨t,p,k⟩:=(zC he zI hs).h
 refine ⟨⟨_,(W_ (gG PySem.F.plainAttrs_list PySem.F.slot_list_extend PySem.F.type_list_extend Mv ho ⟨p⟩ hbase hline (by rw [List.all_cons,hs]; rfl) (by show 1<30; decide)) rfl).h,fun {G0 H0 G H τ σ fl E} K hf q=>?_⟩⟩
 unfold qj at hf
 split at hf
 ·rename_i xs hd
  obtain ⟨y,hy,hf⟩:=zJ hf
  cases y with
  | lst ys=>
   change (if xs.length+ys.length<=zu then some (Fl.nx (τ.set i (some (true,.lst (xs++ys))))) else none)=some fl at hf
   by_cases c:xs.length+ys.length<=zu
   ·rw [if_pos c] at hf
    cases hf
    obtain ⟨aa,ea,g,z,vs,ev,rs,l⟩:=K.ow _ _ hd
    refine ⟨_,ea,.inl ⟨rfl,vs,zy.of ev⟩,k K (ds:=[.lst ys]) (by unfold zB; rw [hy]; rfl) fun us G1 H1 x1 r1=>?_⟩
    obtain ⟨v,rfl,b,zs,rfl,sq,rz,_⟩:=tF r1
    refine ⟨aa,b,vs,zs,rfl,rfl,x1.h _ _ ev,wA x1.gh sq,by rw [rs.length,rz.length,sizeLine_eq]; exact c,?_⟩
    refine q _ _ _ ((K.go x1).mut hd ea ⟨_,yQ,(rs.mono x1.g).append rz,?_⟩)
    rw [sizeLine_eq,List.length_append]; exact c
   ·rw [if_neg c] at hf
    cases hf
  | _=>cases hf
 ·cases hf
theorem Ei {p p2 pos2:Pos} {fs:FA} (hcalm:X.calm=true) (hg:Gl X "list") (hm:X.mg "list" = none) (hg2:Gl X "range") (hm2:X.mg "range" = none) (ha:SA X [e] fs) (hs:yl e=true:=by rfl) :
  SF X (.Call (.Name "list" p) [.Call (.Name "range" p2) [e] [] pos2] [] pos) (eL X_ fs):=by
 obtain ⟨t,pt,k⟩:=ha.h
 have q1:=j9 (p:=p2) (pos:=pos2) OS hg2 hm2 boot_range ⟨pt⟩ (by decide) (by decide) (by rw [List.all_cons,hs]; rfl)
 refine ⟨⟨_,(j9 (p:=p) (pos:=pos) (OQ hcalm) hg hm UN (JD q1 JE) (by decide) (by decide)).h,fun {G0 H0 G H τ σ d Q} E hf q=>?_⟩⟩
 obtain ⟨ds,hd,hf⟩:=zJ hf
 refine k E hd fun vs G1 H1 x1 r1=>?_
 match ds,hf with
 | [.int j],hf=>
  change (if 0<=j/\j<=1000000 then some (D.lst ((List.range j.toNat).map fun k:Nat=>.int k)) else none)=some d at hf
  by_cases c:0<=j/\j<=1000000
  ·rw [if_pos c] at hf
   cases hf
   obtain ⟨v,rfl,hv⟩:=tF r1
   cases (show v=.int j from hv)
   refine ⟨j,rfl,c.1,fun p hp=>⟨p,j.toNat,rfl,yQ,by omega,fun p' hp'=>?_⟩⟩
   have x2:=x1.trans (zM.layO (o:=jV p j.toNat) x1.gh hp)
   refine q p' _ _ (x2.trans (zM.layO x2.gh hp')) (x2.h.free hp') (x2.gh.free hp') ⟨_,yQ,CJ _,?_⟩
   rw [List.length_map,List.length_range,sizeLine_eq]
   show j.toNat<=16777216
   omega
  ·rw [if_neg c] at hf
   cases hf
end
end L3
namespace L3
open PySem PySem.Spec PyProof.Rows L2
structure ul (K:PySem.W.Frag) (H0 G H:Hp) (p:Addr) (qs:List Addr) (nds:List (List D)):Prop where
 hp:H p=some (.lst (qs.map V.ref))
 p0:H0 p=none
 pg:G p=none
 np:p ∉ qs
 nd:qs.Nodup
 ln:nds.length=qs.length
 el:∀ (j:Nat) (q:Addr),qs[j]?=some q->∃ ds vs,nds[j]?=some ds/\H q=some (.lst vs)/\H0 q=none/\G q=none/\Reps K G ds vs/\ds.length<=sizeLine
structure tP (K:PySem.W.Frag) (n:Nat) (G0 H0 G H:Hp) (τ:zd) (σ:St) (i:Nat) (nds:List (List D)):Prop where
 env:zf K n G0 H0 G H τ σ
 no:vL τ=true
 nst:∃ p qs,σ[i]?=some (some (.ref p))/\ul K H0 G H p qs nds
inductive NF where
 | nx (nds:List (List D)) (τ:zd)
 | rt (d:D)
noncomputable abbrev xj:=List (List D)->zd->Option NF
noncomputable def pM (K:PySem.W.Frag) (n:Nat) (G0 H0:Hp) (E:wV) (i:Nat):NF->Prop
 | .nx nds τ=>∀ σ G H,tP K n G0 H0 G H τ σ i nds->E.nx σ H
 | .rt d=>∀ v G H,zM G0 H0 G H->zV K G d v->E.rt v H
structure NS (X:Cx) (i:Nat) (st:Stmt) (f:xj):Prop where
 h:∃ t,PS X st t/\∀ {G0 H0 G H:Hp} {τ:zd} {σ:St} {nds:List (List D)} {fl:NF} {E:wV},tP X.K X.N.length G0 H0 G H τ σ i nds->f nds τ=some fl->pM X.K X.N.length G0 H0 E i fl->t E σ H
structure tQ (X:Cx) (i:Nat) (st:List Stmt) (f:xj):Prop where
 h:∃ t,wD X st t/\∀ {G0 H0 G H:Hp} {τ:zd} {σ:St} {nds:List (List D)} {fl:NF} {E:wV},tP X.K X.N.length G0 H0 G H τ σ i nds->f nds τ=some fl->pM X.K X.N.length G0 H0 E i fl->t E σ H
section
variable {K:PySem.W.Frag} {n:Nat} {G0 H0 G H G' H':Hp} {τ:zd} {σ:St} {i:Nat} {nds:List (List D)} {p:Addr} {qs:List Addr}
theorem Wa (x:zM G H G' H') {a:Addr} (hg:G a=none) (hh:H a≠none):G' a=none:=by
 cases e:G' a with
 | none=>rfl
 | some u=>
  rcases x.new a (by rw [e]; exact fun z=>nomatch z) with w | w
  ·exact absurd hg w
  ·exact absurd w hh
theorem ul.go (N:ul K H0 G H p qs nds) (x:zM G H G' H'):ul K H0 G' H' p qs nds:=⟨x.h _ _ N.hp,N.p0,Wa x N.pg (by rw [N.hp]; exact fun z=>nomatch z),N.np,N.nd,N.ln,fun j q hq=>by
 obtain ⟨ds,vs,e1,e2,e3,e4,r,l⟩:=N.el j q hq
 exact ⟨ds,vs,e1,x.h _ _ e2,e3,Wa x e4 (by rw [e2]; exact fun z=>nomatch z),r.mono x.g,l⟩⟩
theorem tP.go (N:tP K n G0 H0 G H τ σ i nds) (x:zM G H G' H'):tP K n G0 H0 G' H' τ σ i nds:=by
 obtain ⟨p,qs,e,w⟩:=N.nst
 exact ⟨N.env.go x,N.no,p,qs,e,w.go x⟩
theorem YZ (h:vL τ=true) {j:Nat} {d:D} (e:τ[j]?=some (some (true,d))):False:=by
 have:=List.all_eq_true.mp h _ (List.mem_of_getElem? e)
 cases this
theorem zf.poke (E:zf K n G0 H0 G H τ σ) (no:vL τ=true) {q:Addr} {o:HO} (h0:H0 q=none) (hg:G q=none):zf K n G0 H0 G (ze H q o) τ σ:=by
 have keep:∀ {H1:Hp},H1 q=none->zx H1 H->zx H1 (ze H q o):=fun {H1} h s b u z=>by
  rw [yE (wY z h)]
  exact s _ _ z
 exact ⟨⟨E.ext.g,keep h0 E.ext.h,keep hg E.ext.gh,E.ext.new⟩,E.l1,E.l2,E.fr,fun j d h=>(YZ no h).elim,fun j k d e p _ h=>(YZ no h).elim⟩
theorem zf.unset (E:zf K n G0 H0 G H τ σ) (no:vL τ=true) (v:V):zf K n G0 H0 G H (τ.set i none) (σ.set i (some v)):=by
 refine ⟨E.ext,by rw [List.length_set]; exact E.l1,by rw [List.length_set]; exact E.l2,fun j d h=>?_,fun j d h=>?_,fun j k d e p _ h=>?_⟩
 ·rcases xb h with ⟨_,z⟩ | ⟨ne,z⟩
  ·cases z
  ·rw [xn ne]
   exact E.fr j d z
 ·rcases xb h with ⟨_,z⟩ | ⟨ne,z⟩
  ·cases z
  ·exact (YZ no z).elim
 ·rcases xb h with ⟨_,z⟩ | ⟨ne,z⟩
  ·cases z
  ·exact (YZ no z).elim
theorem BE (h:vL τ=true) (i:Nat):vL (τ.set i none)=true:=by
 refine List.all_eq_true.mpr fun s hs=>?_
 rcases List.mem_or_eq_of_mem_set hs with z | z
 ·exact List.all_eq_true.mp h _ z
 ·subst z; rfl
theorem Ya (h:vL τ=true) (i:Nat) (d:D):vL (τ.set i (some (false,d)))=true:=by
 refine List.all_eq_true.mpr fun s hs=>?_
 rcases List.mem_or_eq_of_mem_set hs with z | z
 ·exact List.all_eq_true.mp h _ z
 ·subst z; rfl
theorem zM.frzs (x:zM G0 H0 G H):∀ (l:List Addr),l.Nodup->(∀ a∈l,H0 a=none/\G a=none/\H a≠none)->∃ G',zM G0 H0 G' H/\zx G G'/\(∀ a∈l,G' a=H a)/\∀ b,b ∉ l->G' b=G b
 | [],_,_=>⟨G,x,zx.refl _,fun _ h=>(List.not_mem_nil h).elim,fun _ _=>rfl⟩
 | a::l,nd,h=>by
  obtain ⟨na,nl⟩:=List.nodup_cons.mp nd
  obtain ⟨G1,x1,s1,e1,f1⟩:=zM.frzs x l nl fun b hb=>h b (List.mem_cons_of_mem _ hb)
  obtain ⟨h0,hg,hh⟩:=h a List.mem_cons_self
  cases e:H a with
  | none=>exact absurd e hh
  | some u=>
   have ga:G1 a=none:=by rw [f1 a na]; exact hg
   refine ⟨ze G1 a u,x1.frz h0 ga e,s1.trans (wJ ga u),fun b hb=>?_,fun b hb=>?_⟩
   ·by_cases c:b=a
    ·subst c; rw [yQ,e]
    ·rw [yE c]
     exact e1 b ((List.mem_cons.mp hb).resolve_left c)
   ·rw [yE (fun c:b=a=>hb (by rw [c]; exact List.mem_cons_self)),f1 b fun c=>hb (List.mem_cons_of_mem _ c)]
theorem ul.rep (N:ul K H0 G H p qs nds) (x:zM G0 H0 G H) (hl:nds.length<=sizeLine):∃ G',zM G0 H0 G' H/\zV K G' (.lst (nds.map .lst)) (.ref p):=by
 have all:∀ a∈p::qs,H0 a=none/\G a=none/\H a≠none:=fun a ha=>by
  rcases List.mem_cons.mp ha with rfl | ha
  ·exact ⟨N.p0,N.pg,by rw [N.hp]; exact fun z=>nomatch z⟩
  ·obtain ⟨j,hj⟩:=List.getElem?_of_mem ha
   obtain ⟨ds,vs,_,e2,e3,e4,_⟩:=N.el j a hj
   exact ⟨e3,e4,by rw [e2]; exact fun z=>nomatch z⟩
 obtain ⟨G',x',s',e',f'⟩:=x.frzs (p::qs) (List.nodup_cons.mpr ⟨N.np,N.nd⟩) all
 refine ⟨G',x',p,qs.map V.ref,rfl,zy.of ((e' p List.mem_cons_self).trans N.hp),?_,by rw [List.length_map]; exact hl⟩
 have el:∀ (j:Nat) (q:Addr),qs[j]?=some q->∃ ds,nds[j]?=some ds/\zV K G' (.lst ds) (.ref q):=fun j q hq=>by
  obtain ⟨ds,vs,e1,e2,_,_,r,l⟩:=N.el j q hq
  exact ⟨ds,e1,q,vs,rfl,zy.of ((e' q (List.mem_cons_of_mem _ (List.mem_of_getElem? hq))).trans e2),r.mono s',l⟩
 have ln:=N.ln
 clear all N x' e' f' hl x s'
 induction nds generalizing qs with
 | nil=>
  cases qs with
  | nil=>rfl
  | cons q qs=>cases ln
 | cons d nds ih=>
  cases qs with
  | nil=>cases ln
  | cons q qs=>
   obtain ⟨ds,e1,r1⟩:=el 0 q rfl
   cases e1
   exact ⟨_,_,rfl,r1,ih (fun j q' h=>by
    obtain ⟨ds,e,r⟩:=el (j+1) q' (by simpa using h)
    exact ⟨ds,by simpa using e,r⟩) (by simpa using ln)⟩
theorem pM.near {Ga Ha:Hp} {E:wV} {fl:NF} (x:zM G0 H0 Ga Ha) (h:pM K n G0 H0 E i fl):pM K n Ga H0 E i fl:=by
 cases fl with
 | nx nds τ=>exact fun σ G H z=>h σ G H ⟨zf.near x z.env,z.no,z.nst⟩
 | rt d=>exact fun v G H y r=>h v G H (x.rebase y) r
end
noncomputable def wv (f g:xj):xj:=fun nds τ=>(f nds τ).bind fun fl=>match fl with
 | .nx nds τ=>g nds τ
 | .rt d=>some (.rt d)
noncomputable def va:xj:=fun nds τ=>some (.nx nds τ)
noncomputable def vJ (k v:FE):xj:=fun nds τ=>(k τ).bind fun x=>(v τ).bind fun y=>match x with
 | .int j=>match nds[j.toNat]? with
  | some ds=>if 0<=j/\ds.length<zu then some (.nx (nds.set j.toNat (ds++[y])) τ) else none
  | none=>none
 | _=>none
noncomputable def jw (g:FG) (b:xj):List D->List (List D)->zd->Option NF
 | [],nds,τ=>some (.nx nds τ)
 | d::ds,nds,τ=>(g d τ).bind fun τ'=>(b nds τ').bind fun fl=>match fl with
  | .nx nds' τ''=>jw g b ds nds' τ''
  | .rt d=>some (.rt d)
noncomputable def t7 (it:FA) (g:FG) (b:xj):xj:=fun nds τ=>(it τ).bind fun ds=>jw g b ds nds τ
noncomputable def vZ (c:FT) (a b:xj):xj:=fun nds τ=>(c τ).bind fun k=>match k with
 | true=>a nds τ
 | false=>b nds τ
noncomputable def qZ (j:Nat) (f:FE):xj:=fun nds τ=>(f τ).bind fun d=>some (.nx nds (τ.set j (some (false,d))))
noncomputable def tq:xj:=fun nds _=>if nds.length<=zu then some (.rt (.lst (nds.map .lst))) else none
section
variable {X:Cx} {i:Nat} {x:Str} {p pos pos' apos cpos xp sp:Pos} {e k v c tg iter:Expr} {f fk fv:FE} {ft:FT} {fs:FA} {st:Stmt} {sts body sa sb:List Stmt} {g g':xj} {fg:FG}
theorem g7:tQ X i [] va:=⟨⟨_,J5,fun {_ _ G H τ σ nds fl E} K hf q=>by
 cases hf
 exact q σ G H K⟩⟩
theorem qd (h1:NS X i st g) (h2:tQ X i sts g'):tQ X i (st::sts) (wv g g'):=by
 obtain ⟨t,p,k⟩:=h1.h
 obtain ⟨t',p',k'⟩:=h2.h
 refine ⟨⟨_,Yn p p',fun {G0 H0 G H τ σ nds fl E} K hf q=>?_⟩⟩
 obtain ⟨f1,h1,hf⟩:=zJ hf
 refine k K h1 ?_
 cases f1 with
 | nx nds' τ'=>exact fun σ' G' H' K'=>k' K' hf q
 | rt d=>cases hf; exact q
theorem uQ (h1:NS X i st g):tQ X i [st] g:=⟨let ⟨t,p,k⟩:=h1.h; ⟨t,J6 p,k⟩⟩
theorem g6 (hc:ST X c ft) (ha:tQ X i sa g) (hb:tQ X i sb g'):NS X i (.If c sa sb pos) (vZ ft g g'):=by
 obtain ⟨tc,pc,kc⟩:=hc.h
 obtain ⟨ta,pa,ka⟩:=ha.h
 obtain ⟨tb,pb,kb⟩:=hb.h
 refine ⟨⟨_,J2 pc pa pb,fun {G0 H0 G H τ σ nds fl E} K hf q=>?_⟩⟩
 obtain ⟨k,hk,hf⟩:=zJ hf
 refine kc K.env hk fun G1 H1 x1=>?_
 cases k with
 | true=>exact ux (ka (K.go x1) hf q)
 | false=>exact uw (kb (K.go x1) hf q)
theorem QT {j:Nat} (hN:X.N.Nodup) (hi:X.N[j]?=some x) (hx:wM X.env.scope x) (he:SE X e f) (hij:i≠j:=by decide) (hs:t9 e=true:=by rfl) (hf:X.fn x=true\/X.env.scope.names.lookup x=some .local:=by first | exact .inl rfl | exact .inr rfl | assumption) :
  NS X i (.Assign [.Name x pos'] e pos) (qZ j f):=by
 obtain ⟨t,p,k⟩:=he.h
 refine ⟨⟨_,(jC hN hi hx ⟨p⟩ hs hf).h,fun {G0 H0 G H τ σ nds fl E} K hf q=>?_⟩⟩
 obtain ⟨d,hd,hf⟩:=zJ hf
 cases hf
 refine k K.env hd fun v G' H' x r=>q _ G' H' ?_
 have K':=K.go x
 obtain ⟨a,qs,ea,w⟩:=K'.nst
 exact ⟨K'.env.set (List.getElem?_eq_some_iff.mp hi).1 r,Ya K'.no j d,a,qs,by rw [xn hij]; exact ea,w⟩
theorem g5 (hu:X.A.units+1<cLine) (ho:QE X (.Name x xp) (vf i)) (hk:SE X k fk) (hv:SE X v fv) (hp:j7 k=true:=by rfl)
  (hbase:attributeBase (.Subscript (.Name x xp) k sp) "append" X.env (eval (.Subscript (.Name x xp) k sp) X.env)=eval (.Subscript (.Name x xp) k sp) X.env:=by rfl) (hline:(apos.endLine == cpos.line)=true:=by rfl) (hs:yl v=true:=by rfl) :
  NS X i (.Expr (.Call (.Attribute (.Subscript (.Name x xp) k sp) "append" apos) [v] [] cpos) pos) (vJ fk fv):=by
 obtain ⟨tk,pk,kk⟩:=hk.h
 obtain ⟨t,pv,kv⟩:=(zC hv zI hs).h
 refine ⟨⟨_,(W_ (gG PySem.F.plainAttrs_list PySem.F.slot_list_append PySem.F.type_list_append QB (o:=.Subscript (.Name x xp) k sp) ⟨Wq (Te (X:=X)) ho.h pk (Wt hp)⟩ ⟨pv⟩ hbase hline (by rw [List.all_cons,hs]; rfl) (by show 1<30; decide)) rfl).h,fun {G0 H0 G H τ σ nds fl E} K hf q=>?_⟩⟩
 obtain ⟨xk,hk,hf⟩:=zJ hf
 obtain ⟨y,hy,hf⟩:=zJ hf
 cases xk with
 | int j=>
  dsimp only at hf
  cases hds:nds[j.toNat]? with
  | none=>rw [hds] at hf; cases hf
  | some ds=>
  rw [hds] at hf
  dsimp only at hf
  by_cases c:0<=j/\ds.length<zu
  ·rw [if_pos c] at hf
   cases hf
   obtain ⟨a,qs,ea,w⟩:=K.nst
   refine ⟨_,ea,kk K.env hk fun u G1 H1 x1 r1=>?_⟩
   cases (show u=.int j from r1)
   have w1:=w.go x1
   have hq:qs[j.toNat]?=some (qs[j.toNat]'(by rw [<- w.ln]; exact (List.getElem?_eq_some_iff.mp hds).1)):=List.getElem?_eq_getElem _
   generalize (qs[j.toNat]'(by rw [<- w.ln]; exact (List.getElem?_eq_some_iff.mp hds).1))=q0 at hq
   have hat:wj (qs.map V.ref) j=some (.ref q0):=by
    have e:=OA (xs:=qs.map V.ref) (j:=j.toNat) (v:=.ref q0) (by rw [List.getElem?_map,hq]; rfl)
    rw [show ((j.toNat:Nat):Int)=j by omega] at e
    exact e
   obtain ⟨ds1,vs1,e1,e2,_⟩:=w1.el _ _ hq
   refine ⟨a,qs.map V.ref,j,.ref q0,rfl,rfl,zy.of w1.hp,hat,.inl ⟨rfl,vs1,zy.of e2⟩,kv (K.env.go x1) (ds:=[y]) (by unfold zB; rw [hy]; rfl) fun us G2 H2 x2 r2=>?_⟩
   obtain ⟨u,r,rfl,hu',hr⟩:=r2
   cases (show r=[] from hr)
   have K2:=K.go (x1.trans x2)
   have w2:=w1.go x2
   obtain ⟨ds2,vs2,e1',e2',h0,hg,rs,l⟩:=w2.el _ _ hq
   rw [hds] at e1'
   cases e1'
   refine ⟨q0,vs2,u,rfl,rfl,e2',by rw [rs.length,sizeLine_eq]; exact c.2,?_⟩
   refine q _ _ _ ⟨K2.env.poke K2.no h0 hg,K2.no,a,qs,ea,?_⟩
   have nea:a≠q0:=fun z=>w.np (z ▸ List.mem_of_getElem? hq)
   refine ⟨by rw [yE nea]; exact w2.hp,w2.p0,w2.pg,w2.np,w2.nd,by rw [List.length_set]; exact w2.ln,fun j' q' hq'=>?_⟩
   by_cases cj:j'=j.toNat
   ·subst cj
    rw [hq] at hq'
    cases hq'
    refine ⟨ds++[y],vs2++[u],tW (List.getElem?_eq_some_iff.mp hds).1,yQ,h0,hg,rs.append (Reps.one hu'),?_⟩
    rw [List.length_append,sizeLine_eq]
    exact c.2
   ·have neq:q'≠q0:=fun z=>cj ((List.getElem?_inj (List.getElem?_eq_some_iff.mp hq').1 w2.nd).mp (by rw [hq',hq,z]))
    obtain ⟨ds3,vs3,f1,f2,f3⟩:=w2.el _ _ hq'
    exact ⟨ds3,vs3,by rw [xn cj]; exact f1,by rw [yE neq]; exact f2,f3⟩
  ·rw [if_neg c] at hf
   cases hf
 | _=>cases hf
structure XW (X:Cx) (i:Nat) (tg:Expr) (fg:FG):Prop where
 h:∃ t,PG X tg t/\∀ {G0 H0 G H:Hp} {τ τ':zd} {σ:St} {d:D} {v:V} {Q:St->Hp->Prop},zf X.K X.N.length G0 H0 G H τ σ->vL τ=true->zV X.K G d v->fg d τ=some τ'->(∀ σ',zf X.K X.N.length G0 H0 G H τ' σ'->vL τ'=true->σ'[i]?=σ[i]?->Q σ' H)->t v σ H Q
theorem Ju {j:Nat} (h:QG X (.Name x pos) (xz j)) (hi:X.N[j]?=some x) (hij:i≠j:=by decide):XW X i (.Name x pos) (zh j):=⟨⟨_,h.h,fun K no r hf q=>by
 cases hf
 exact q _ (K.set (List.getElem?_eq_some_iff.mp hi).1 r) (Ya no _ _) (xn hij)⟩⟩
theorem Em {j l:Nat} {y:Str} {p1 p2:Pos} {kk:Nat} (h:QG X (.Tuple [.Name x p1,.Name y p2] kk pos) (pd X.K 2 (uN (xz j) (uN (xz l) pZ)))) (hi:X.N[j]?=some x) (hj:X.N[l]?=some y) (hij:i≠j:=by decide) (hil:i≠l:=by decide):XW X i (.Tuple [.Name x p1,.Name y p2] kk pos) (xW j l):=⟨⟨_,h.h,fun {G0 H0 G H τ τ' σ d v Q} K no r hf q=>by
 unfold xW at hf
 split at hf
 ·rename_i d1 d2
  cases hf
  obtain ⟨a,vs,rfl,sq,⟨v1,r1,rfl,h1,⟨v2,r2,rfl,h2,h3⟩⟩,_⟩:=r
  cases (show r2=[] from h3)
  refine ⟨a,_,rfl,v3 K.ext.gh sq,rfl,v1,_,rfl,v2,_,rfl,rfl,?_⟩
  exact q _ ((K.set (List.getElem?_eq_some_iff.mp hi).1 h1).set (List.getElem?_eq_some_iff.mp hj).1 h2) (Ya (Ya no _ _) _ _) (by rw [xn hil,xn hij])
 ·cases hf⟩⟩
theorem We (hp:PassesOwn (model X.prog X.w) X.A X.env X.xe) (hc:X.calm=true) (hi:SI X tg iter fs) (hg:XW X i tg fg) (hb:tQ X i body g) (hs:∀ x,foldedSetIterable iter X.env x=pure x:=by intro _; rfl):NS X i (.For tg iter body [] pos) (t7 fs fg g):=by
 obtain ⟨ti,pi,ki⟩:=hi.h
 obtain ⟨tg',pg,kg⟩:=hg.h
 obtain ⟨tb,pb,kb⟩:=hb.h
 refine ⟨⟨_,Ww hp hc pi pg pb hs,fun {G0 H0 G H τ σ nds fl E} K hf q=>?_⟩⟩
 obtain ⟨ds,hd,hf⟩:=zJ hf
 refine ki K.env hd fun J Ga Ha xa _ wk=>?_
 have Ka:=K.go xa
 have q':=pM.near Ka.env.ext q
 refine ⟨fun j m σ H=>m=ds.length - j/\j<=ds.length/\∃ τ G nds,tP X.K X.N.length Ga H0 G H τ σ i nds/\jw fg g (ds.drop j) nds τ=some fl,⟨ds.length,rfl,Nat.zero_le _,τ,Ga,nds,⟨Ka.env.far,Ka.no,Ka.nst⟩,hf⟩,?_⟩
 rintro j m σ H ⟨rfl,hle,τ,G,nds,K,hf⟩
 by_cases hlt:j<ds.length
 ·refine .inr ⟨wk.go j G H K.env.ext.g K.env.ext.gh hlt,fun σ' H'=>∃ τ G nds,tP X.K X.N.length Ga H0 G H' τ σ' i nds/\jw fg g (ds.drop (j+1)) nds τ=some fl,fun σ' H' z=>⟨ds.length - (j+1),by omega,rfl,hlt,z⟩,fun x H' y=>?_⟩
  obtain ⟨G3,d,x3,ed,rd⟩:=wk.yld j G H x H' K.env.ext.g K.env.ext.gh hlt y
  rw [List.drop_eq_getElem_cons hlt] at hf
  rw [List.getElem?_eq_getElem hlt] at ed
  cases ed
  obtain ⟨τ1,h1,hf⟩:=zJ (show (fg _ τ).bind _=_ from hf)
  obtain ⟨f1,h2,hf⟩:=zJ hf
  have K3:=K.go x3
  obtain ⟨a,qs,ea,w⟩:=K3.nst
  refine kg K3.env K3.no rd h1 fun σ1 E1 no1 s1=>kb (nds:=nds) ⟨E1,no1,a,qs,by rw [s1]; exact ea,w⟩ h2 ?_
  cases f1 with
  | nx nds2 τ2=>exact fun σ2 G2 H2 K2=>⟨τ2,G2,nds2,K2,hf⟩
  | rt d=>cases hf; exact q'
 ·have e:ds.drop j=[]:=List.drop_eq_nil_of_le (by omega)
  rw [e] at hf
  cases hf
  exact .inl ⟨wk.stop j G H K.env.ext.g K.env.ext.gh (by omega),q' _ _ _ K⟩
theorem QR (hN:X.N[i]?=some x:=by rfl) (hv:tS X.env.scope x:=by first | exact Or.inl rfl | exact Or.inr (Or.inl rfl) | exact Or.inr (Or.inr rfl)) (hd:(x == ("__debug__" : Str))=false:=by decide)
  (hcd:(x == ("__classdict__" : Str))=false:=by decide):NS X i (.Return (some (.Name x pos')) pos) tq:=by
 refine ⟨⟨_,Ym (gD hN hv hd hcd),fun {G0 H0 G H τ σ nds fl E} K hf q=>?_⟩⟩
 unfold tq at hf
 by_cases c:nds.length<=zu
 ·rw [if_pos c] at hf
  cases hf
  obtain ⟨a,qs,ea,w⟩:=K.nst
  obtain ⟨G',x',r⟩:=w.rep K.env.ext (by rw [sizeLine_eq]; exact c)
  exact ⟨_,ea,q _ G' H x' r⟩
 ·rw [if_neg c] at hf
  cases hf
end
noncomputable def ql (i:Nat) (fi:zd->Option Nat) (g:xj):FS:=fun τ=>match vL τ with
 | false=>none
 | true=>(fi τ).bind fun m=>(g (List.replicate m []) (τ.set i none)).bind fun fl=>match fl with
  | .rt d=>some (.rt false d)
  | .nx _ _=>none
noncomputable def jy (it:FA):zd->Option Nat:=fun τ=>(it τ).bind fun ds=>some ds.length
section
variable {X:Cx} {i:Nat} {x:Str} {pos pos' p spos:Pos} {e tg iter:Expr} {st:Stmt} {fi:zd->Option Nat} {fs:FA} {yD:List Stmt} {g:xj} {scope:Scope} {cl:List (Str×Addr)} {own:List Str} {tG:TG} {fg:FG}
theorem B6 {G0 H0 G H Ga Ha:Hp} {τ:zd} {σ:St} {J:It} {ds:List D} {Q:Addr->Hp->Prop} (wk:tT X.K J Ga ds) (l:ds.length<=sizeLine) (K:zf X.K X.N.length G0 H0 G H τ σ) (xa:zM G H Ga Ha) (hg:BG X scope cl own tg tG fg) (hfg:∀ d τ,(fg d τ).isSome=true)
  (q:∀ p qs G' H',zM G H G' H'->ul X.K H G' H' p qs (List.replicate ds.length [])->Q p H') :
  ∃ W:Nat->Nat->List V->Hp->Prop,(∃ m,W 0 m [] Ha)/\jv σ own.length J tG VY (Z4 qz) W fun ys H'=>∀ p,H' p=none->Q p (ze H' p (.lst ys)):=by
 have Ka:=K.go xa
 refine ⟨fun i m ys H'=>m=ds.length - i/\i<=ds.length/\∃ (G':Hp) (qs:List Addr),zM Ga Ha G' H'/\ys=qs.map V.ref/\qs.length=i/\qs.Nodup/\∀ b∈qs,H' b=some (.lst [])/\Ha b=none/\G' b=none,⟨ds.length,rfl,Nat.zero_le _,Ga,[],zM.refl Ka.ext.gh,rfl,rfl,List.nodup_nil,fun _ h=>(List.not_mem_nil h).elim⟩,?_⟩
 rintro i m ys H1 ⟨rfl,hle,G1,qs,x1,rfl,lq,nd,hq⟩
 by_cases hlt:i<ds.length
 ·refine .inr ⟨wk.go i G1 H1 x1.g x1.gh hlt,by rw [List.length_map]; omega,fun ys H'=>∃ (G':Hp) (qs:List Addr),zM Ga Ha G' H'/\ys=qs.map V.ref/\qs.length=i+1/\qs.Nodup/\∀ b∈qs,H' b=some (.lst [])/\Ha b=none/\G' b=none,fun ys' H' z=>⟨ds.length - (i+1),by omega,rfl,hlt,z⟩,fun v H' y=>?_⟩
  obtain ⟨G3,d,x3,ed,rv⟩:=wk.yld i G1 H1 v H' x1.g x1.gh hlt y
  have K3:=((Ka.go x1).go x3).more own.length
  obtain ⟨τ1,h1⟩:=Option.isSome_iff_exists.mp (hfg d (τ++List.replicate own.length none))
  refine hg.k K.l2 K.l1 G3 H' d v τ1 _ K3 rv h1 fun ρ K4=>⟨⟨ρ,rfl⟩,?_⟩
  dsimp only
  unfold VY
  dsimp only
  rw [if_pos rfl]
  refine ⟨Nat.zero_le _,fun b hb=>?_⟩
  have x13:=x1.trans x3
  have fresh:b ∉ qs:=fun z=>by
   have:=x3.h _ _ (hq b z).1
   rw [this] at hb
   cases hb
  refine ⟨G3,qs++[b],x13.trans (zM.layO x13.gh hb),by rw [List.map_append]; rfl,by rw [List.length_append,lq]; rfl,?_,fun c hc=>?_⟩
  ·exact List.nodup_append.mpr ⟨nd,List.nodup_cons.mpr ⟨List.not_mem_nil,List.nodup_nil⟩,fun u hu w hw e=>fresh (by cases List.mem_singleton.mp hw; exact e ▸ hu)⟩
  ·rcases List.mem_append.mp hc with z | z
   ·obtain ⟨z1,z2,z3⟩:=hq c z
    have z1':=x3.h _ _ z1
    refine ⟨by rw [yE (fun e:c=b=>fresh (e ▸ z))]; exact z1',z2,Wa x3 z3 (by rw [z1]; exact fun z=>nomatch z)⟩
   ·cases List.mem_singleton.mp z
    exact ⟨yQ,x13.h.free hb,x13.gh.free hb⟩
 ·have ei:i=ds.length:=by omega
  subst ei
  refine .inl ⟨wk.stop ds.length G1 H1 x1.g x1.gh (Nat.le_refl _),fun b hb=>?_⟩
  have xx:=xa.trans x1
  have fresh:b ∉ qs:=fun z=>by
   rw [(hq b z).1] at hb
   cases hb
  refine q b qs G1 _ (xx.trans (zM.layO xx.gh hb)) ⟨yQ,xx.h.free hb,xx.gh.free hb,fresh,nd,by rw [List.length_replicate]; exact lq.symm,fun j c hc=>?_⟩
  have mem:=List.mem_of_getElem? hc
  obtain ⟨z1,z2,z3⟩:=hq c mem
  refine ⟨[],[],?_,by rw [yE (fun e:c=b=>fresh (e ▸ mem))]; exact z1,xa.h.free z2,z3,rfl,Nat.zero_le _⟩
  rw [List.getElem?_replicate,if_pos (by have:=(List.getElem?_eq_some_iff.mp hc).1; omega)]
structure XX (X:Cx) (i:Nat) (st:Stmt) (f:zd->Option Nat):Prop where
 h:∃ t,PS X st t/\∀ {G0 H0 G H:Hp} {τ:zd} {σ:St} {m:Nat} {E:wV},zf X.K X.N.length G0 H0 G H τ σ->f τ=some m->(∀ p qs G' H',zM G H G' H'->ul X.K H G' H' p qs (List.replicate m [])->E.nx (σ.set i (some (.ref p))) H')->t E σ H
theorem GA (hcalm:X.calm=true) (hN:X.N.Nodup) (hix:X.N[i]?=some x) (hx:X.env.scope.names.lookup x=some .local) (B:qD X scope cl own)
  (hsw:swapsWith (.ListComp (.List [] p) [⟨tg,iter,[],0⟩] scope pos) (some (.Name x pos')) spos.line X.env=pure true) (hi:SI X tg iter fs) (hg:BG X scope cl own tg tG fg) (hfg:∀ d τ,(fg d τ).isSome=true) (hs:∀ x,foldedSetIterable iter X.env x=pure x:=by intro _; rfl) :
  XX X i (.Assign [.Name x pos'] (.ListComp (.List [] p) [⟨tg,iter,[],0⟩] scope pos) spos) (jy fs):=by
 obtain ⟨ti,pi,ki⟩:=hi.h
 refine ⟨⟨_,J4 hcalm hN hix hx B hsw pi (fun C s H fp pn=>(hg.q C s H fp pn).h) (fun C s H fp pn=>J7) (fun C s H fp pn=>Yh qg) hs,fun {G0 H0 G H τ σ m E} K hf q=>?_⟩⟩
 obtain ⟨ds,hd,hf⟩:=zJ hf
 cases hf
 exact ki K hd fun J Ga Ha xa l wk=>B6 (Q:=fun p H'=>E.nx (σ.set i (some (.ref p))) H') wk l K xa hg hfg q
theorem IB (hi:X.N[i]?=some x) (he:XX X i st fi) (hr:tQ X i yD g):wg X (st::yD) (ql i fi g):=by
 obtain ⟨t,p,k⟩:=he.h
 obtain ⟨tr,pr,kr⟩:=hr.h
 refine ⟨⟨_,Yn p pr,fun {G0 H0 G H τ σ fl E} K hf q=>?_⟩⟩
 unfold ql at hf
 cases no:vL τ with
 | false=>rw [no] at hf; cases hf
 | true=>
 rw [no] at hf
 obtain ⟨m,hm,hf⟩:=zJ (show (fi τ).bind _=some fl from hf)
 obtain ⟨f1,h1,hf⟩:=zJ hf
 refine k K hm fun a qs G' H' x w=>?_
 have in_:i<X.N.length:=(List.getElem?_eq_some_iff.mp hi).1
 have w':ul X.K H0 G' H' a qs (List.replicate m []):=⟨w.hp,K.ext.h.free w.p0,w.pg,w.np,w.nd,w.ln,fun j q hq=>by
  obtain ⟨ds,vs,e1,e2,e3,e4⟩:=w.el j q hq
  exact ⟨ds,vs,e1,e2,K.ext.h.free e3,e4⟩⟩
 refine kr (nds:=List.replicate m []) (τ:=τ.set i none) ⟨(K.go x).unset no _,BE no i,a,qs,tW (by rw [K.l1]; exact in_),w'⟩ h1 ?_
 cases f1 with
 | nx nds τ2=>cases hf
 | rt d=>cases hf; exact q
end
end L3
namespace L3
open PySem PySem.Spec PyProof.Rows L2
section
variable {P:Program} {w:World} {K:PySem.W.Frag} {mg:Str->Option Value} {base:Heap}
end
section
variable {X:Cx} {e:Expr} {es:List Expr} {f:FE} {fs:FA} {x:Str} {p pos:Pos} {ps:List Str} {j k:Nat} {FF:List D->Option (Bool×D)}
end
end L3
namespace L2
open PySem PySem.Spec PyProof PyProof.Rows
section
variable {prog:Program} {w:World} {A:Around} {E:Value->Shared->Prop}
theorem Od {s:Shared} {a:Addr} {kvs:List (zL×Value)} {ep:Nat} {Q:List Value->Shared->Prop} (hh:A.handled=none) (lo:(a == sysModules)=false) (hm:s.heap.DictAt (yc prog w) a kvs ep) (hb:kvs.length<=sizeLine)
  (h:∀ h' tk vs,vs.length=kvs.length->(∀ (j:Nat) (v:Value),vs[j]?=some v->∃ k x,kvs[j]?=some (k,x)/\(yc prog w).is k v=true)->s.heap.objs.size<h'.objs.size->(∀ b ob,s.heap.get? b=some ob->h'.get? b=some ob)->Q vs { s with heap:=h',toks:=tk }):wpAny (model prog w) A (collect (.ref a)) Q E s:=by
 unfold collect
 refine wpAny_bind (wpAny_runValue (codeAny_builtin (entry_proto_collect') ?_))
 show wpAny _ _ (newList [] >>= fun l=>again (.builtin "list.__iadd__" ⟨[l,.ref a],[]⟩)) _ _ s
 refine wpAny_bind (wpAny_newList (wpAny_pure ⟨Code.quiet_builtin _ (by decide +kernel),codeAny_builtin (entry_list_iadd') ?_⟩))
 have hlt:a<s.heap.objs.size:=hm.lt_size
 have neS:s.heap.objs.size≠a:=xg (Nat.ne_of_gt hlt)
 rw [Around.under_plainId (by decide +kernel)]
 refine PySem.W.kdl_extend (R:=fun r s'=>match r with
  | .ok (.ret v)=>wpAny (model prog w) A (match v with
   | Value.ref a=>(do
    let o <- load a
    match o.data with
    | .seq xs _=>pure xs.toList
    | _=>unsupported "internal:collect")
   | _=>unsupported "internal:collect") Q E s'
  | .ok _=>False
  | .error e=>E e s') (s:={ s with heap:=s.heap.push (seqObj "list" #[] 0) }) (PySem.W.kdl_dict (knd:=yc prog w) (kvs:=kvs) (ep:=ep) lo) (by exact hh) (hm.push _) s.heap.objs.size neS neS (.ref s.heap.objs.size) 0 (Heap.get?_push_size _ rfl) (fun h' tk acc' c' hk hS' hacc=>?_) hb
 refine wpAny_bind (wpAny_load hS' ?_)
 show wpAny _ _ (pure acc'.toList) _ _ _
 refine wpAny_pure (h h' tk acc'.toList (by rw [Array.length_toList]; exact hacc.1) (fun j v e=>hacc.2 j v (by rw [<- Array.getElem?_toList]; exact e)) (Heap.lt_size hS') fun b ob e=>?_)
 exact hk b ob (xg (Nat.ne_of_lt (Heap.lt_size e))) (Heap.get?_push_of_some _ e)
theorem GE {s:Shared} {a:Addr} {kvs:List (zL×Value)} {ep:Nat} {ns:List Int} {Q:Value->Shared->Prop} (hh:A.handled=none) (lo:(a == sysModules)=false) (hm:s.heap.DictAt (yc prog w) a kvs ep) (hk:kvs.map (·.1)=ns.map Sum.inl) (h64:ns.length<64)
  (h:∀ h' tk p out c ns',s.heap.objs.size<=p->h'.get? p=some (seqObj "list" out c)->IntsAre out.toList ns'->ns'.Perm ns->ns'.Pairwise (·<=·)->(∀ b ob,s.heap.get? b=some ob->h'.get? b=some ob)->Q (.ref p) { s with heap:=h',toks:=tk }) :
  wpAny (model prog w) A (call (.builtin "sorted") [.ref a]) Q E s:=by
 have hl:kvs.length=ns.length:=by
  have:=congrArg List.length hk
  rwa [List.length_map,List.length_map] at this
 have hb:kvs.length<=sizeLine:=by rw [sizeLine_eq]; omega
 refine Calls.call_function_entry kind_sorted plain_sorted entry_sorted (args_sorted1 _) ?_
 unfold Builtin.«sorted»
 refine wpAny_bind (m:=checkCount "sorted" 1 1 _) (wpAny_pure (wpAny_bind (Od (by exact hh) lo hm hb fun h1 tk ord ol oe hle kp=>wpAny_bind (wpAny_newList ?_ (by rw [ol]; exact hb)))))
 have hI:IntsAre ord ns:=by
  have:∀ (vs:List Value) (kvs:List (zL×Value)) (ns:List Int),vs.length=kvs.length->kvs.map (·.1)=ns.map Sum.inl->(∀ (j:Nat) (v:Value),vs[j]?=some v->∃ k x,kvs[j]?=some (k,x)/\(yc prog w).is k v=true)->IntsAre vs ns:=by
   intro vs
   induction vs with
   | nil=>
    intro kvs ns h1 h2 _
    cases kvs with
    | nil=>
     cases ns with
     | nil=>exact .nil
     | cons n ns=>cases h2
    | cons _ _=>cases h1
   | cons v vs ih=>
    intro kvs ns h1 h2 h3
    cases kvs with
    | nil=>cases h1
    | cons kx kvs=>
     cases ns with
     | nil=>cases h2
     | cons n ns=>
      obtain ⟨k,x,e,z⟩:=h3 0 v rfl
      cases e
      have e0:k=Sum.inl n:=(List.cons.inj h2).1
      subst e0
      obtain ⟨t,rfl⟩:=Value.isInt_shape (k:=n) (v:=v) z
      exact .cons _ _ (ih kvs ns (by simpa using h1) (List.cons.inj h2).2 fun j u hu=>by simpa using h3 (j+1) u (by simpa using hu))
  exact this ord kvs ns ol hk oe
 have l64:ord.length<64:=by omega
 have g1:(h1.push (seqObj "list" ord.toArray 0)).get? h1.objs.size=some (seqObj "list" ord.toArray 0):=Heap.get?_push_size _ rfl
 refine wpAny_bind (wpAny_holding (wpAny_call_entry slot_list_sort ⟨_,g1,rfl⟩ entry_list_sort (list_sort_tree g1 hI l64 fun out ns' a1 a2 a3=>⟨_,rfl,?_⟩) (args_list_sort _)))
 obtain ⟨c,hc⟩:=sortedHeap_at (vs:=ord) (out:=out) g1
 refine wpAny_pure ⟨_,rfl,h _ tk h1.objs.size out c ns' (Nat.le_of_lt hle) hc a1 a2 a3 fun b ob e=>?_⟩
 have hbl:=Heap.lt_size (kp b ob e)
 rw [sortedHeap_old (xg (Nat.ne_of_lt hbl)) (by rw [size_push']; exact Nat.lt_succ_of_lt hbl)]
 exact Heap.get?_push_of_some _ (kp b ob e)
end
section
variable {X:Cx}
theorem Ts:∀ {kvs:List (zL×V)} {vs:List (zL×Value)},KV kvs vs->vs.map (·.1)=kvs.map (·.1)
 | _,_,.nil=>rfl
 | _,_,.cons r t=>by rw [List.map_cons,List.map_cons,Ts t,r.1]
noncomputable def CC:List V->Hp->VK->Prop:=fun xs H Q=>∃ (a:Addr) (kvs:List (zL×V)) (ns:List Int),xs=[.ref a]/\Rd H a (.dK kvs)/\kvs.map (·.1)=ns.map Sum.inl/\ns.length<64/\∀ l,H l=none->Q (.ref l) (ze H l (.lst ((isort ns).map V.int)))
theorem OV (hcalm:X.calm=true):xi X (.builtin "sorted") CC:=by
 intro pins s σ H xs us Q I r h
 obtain ⟨a,kvs,ns,rfl,ea,hk,h64,q⟩:=h
 obtain ⟨u,rfl,ru⟩:=vE r
 cases (show u=Value.ref a from ru)
 obtain ⟨_,lo,vs,rel,o,es,ep,ho,hx,hd,k1,k2,k3⟩:=pT I.hok ea
 have hm:s.heap.DictAt (yc X.prog X.w) a vs ep:=⟨o,es,ho,hx,hd,k1,k2,k3⟩
 refine GE (I.ok.hd hcalm) lo hm ((Ts rel).trans hk) h64 fun h' tk p out c ns' hp hc a1 a2 a3 kp=>?_
 have e:ns'=isort ns:=VO (a2.trans (isort_perm ns).symm) a3 (isort_sorted ns)
 subst e
 have hl2:(isort ns).length=ns.length:=(isort_perm ns).length_eq
 refine ⟨.ref p,_,I.laid (t':=tk) (h':=h') kp hp (show xA X.prog X.w _ _ _ (.lst ((isort ns).map V.int)) from ⟨?_,out.toList,c,WG a1,?_⟩),rfl,q _ (I.hok.fresh hp)⟩
 ·rw [List.length_map,hl2]
  show _<=sizeLine
  rw [sizeLine_eq]
  omega
 ·rw [Array.toArray_toList]
  exact hc
end
end L2
namespace L3
open PySem PySem.Spec PyProof.Rows L2
noncomputable def pp:List (Sum Int Str)->Option (List Int)
 | []=>some []
 | .inl i::r=>(pp r).bind fun ns=>some (i::ns)
 | .inr _::_=>none
theorem Tn:∀ {ks:List (Sum Int Str)} {ns:List Int},pp ks=some ns->ks=ns.map Sum.inl
 | [],_,h=>by cases h; rfl
 | .inl i::r,_,h=>by
  obtain ⟨ns,h1,h⟩:=zJ h
  cases h
  rw [Tn h1]
  rfl
 | .inr _::_,_,h=>by cases h
noncomputable def W3:List D->Option D
 | [.dic ks _]=>(pp ks).bind fun ns=>if ns.length<64 then some (.lst ((isort ns).map D.int)) else none
 | _=>none
theorem Ek {X:Cx} {e:Expr} {fs:FA} {p pos:Pos} (hcalm:X.calm=true) (hg:Gl X "sorted") (hm:X.mg "sorted" = none) (ha:SA X [e] fs) (hs:yl e=true:=by rfl) :
  SF X (.Call (.Name "sorted" p) [e] [] pos) (eL W3 fs):=by
 obtain ⟨t,pt,k⟩:=ha.h
 refine ⟨⟨_,(Wz (p:=p) (pos:=pos) (OV hcalm) hg hm UO ⟨pt⟩ (by decide) (by decide) (by rw [List.all_cons,hs]; rfl)).h,fun {G0 H0 G H τ σ d Q} E hf q=>?_⟩⟩
 obtain ⟨ds,hd,hf⟩:=zJ hf
 refine k E hd fun vs G1 H1 x1 r1=>?_
 match ds,hf with
 | [.dic ks xs],hf=>
  obtain ⟨ns,hn,hf⟩:=zJ hf
  by_cases c:ns.length<64
  ·rw [if_pos c] at hf
   cases hf
   obtain ⟨v,rfl,a,us,rfl,sq,hl,rs,l⟩:=tF r1
   refine ⟨a,ks.zip us,ns,rfl,Rd.mono x1.gh sq,?_,c,fun p' hp'=>?_⟩
   ·rw [<- Tn hn]
    exact List.map_fst_zip (by omega)
   ·refine q p' _ _ (x1.trans (zM.layO x1.gh hp')) (x1.h.free hp') (x1.gh.free hp') ⟨_,yQ,Reps.ints,?_⟩
    rw [List.length_map,(isort_perm ns).length_eq,sizeLine_eq]
    show _<=16777216
    omega
  ·rw [if_neg c] at hf
   cases hf
end L3
namespace L2
open PySem PySem.Spec PyProof PyProof.Rows
section
variable {X:Cx} {x:Str} {e:Expr} {es:List Expr} {t:TA} {p pos:Pos} {i j:Nat}
noncomputable def IM (X:Cx) (j i:Nat) (t:TA):TE:=fun σ H Q=>∃ (f:Addr) (fd:FuncData) (ps:List Str) (k:Nat) (sp:Sp),σ[i]?=some (some (.ref f))/\k<=j/\PySem.W.keepIn X.K (.ref f)=true/\uA X.K fd ps []/\v7 X.prog X.w X.K X.mg X.base v4 k f fd ps sp/\t σ H fun vs H1=>sp (vs++[]) H1 Q E0
theorem Dk (hr:yj j X.A) (ho:PE X (.Name x p) (vf i)) (ha:PA X (e::es) t) (he:(e::es).all yl=true:=by rfl):PE X (.Call (.Name x p) (e::es) [] pos) (IM X j i t):=by
 intro pins s σ H Q I h
 obtain ⟨f,fd,ps,k,sp,ei,hk,kp,b,F,h⟩:=h
 rw [List.all_cons,Bool.and_eq_true] at he
 refine wpAny_Call_Name_kw (zl (ho pins s σ H (fun v H1=>v=.ref f/\H1=H) I ⟨_,ei,rfl,rfl⟩) fun u s1 ⟨v,H1,I1,r1,e1,e2⟩=>?_)
 subst e1 e2
 cases r1
 refine PySem.W.callWith_K (h₀:=X.base) I.ok.mod.kin kp (zl (ha pos pins s1 σ _ _ I1 h) fun us s2 ⟨vs,H2,I2,r,q⟩=>⟨I2.kIn,?_⟩) (uY he.1) (jM he.2)
 exact VC F (hr.mono hk) b .nil Wo I2 r q
end
end L2
namespace L3
open PySem PySem.Spec PyProof.Rows L2
theorem zf.lose {K:PySem.W.Frag} {n:Nat} {G0 H0 G H:Hp} {τ:zd} {σ:St} {i:Nat} (E:zf K n G0 H0 G H τ σ) (v:V):zf K n G0 H0 G H (τ.set i none) (σ.set i (some v)):=by
 refine ⟨E.ext,by rw [List.length_set]; exact E.l1,by rw [List.length_set]; exact E.l2,fun j d h=>?_,fun j d h=>?_,fun j k d e p hne h1 h2 h3 h4=>?_⟩
 ·rcases xb h with ⟨_,z⟩ | ⟨ne,z⟩
  ·cases z
  ·rw [xn ne]
   exact E.fr j d z
 ·rcases xb h with ⟨_,z⟩ | ⟨ne,z⟩
  ·cases z
  ·rw [xn ne]
   exact E.ow j d z
 ·rcases xb h1 with ⟨_,z1⟩ | ⟨n1,z1⟩
  ·cases z1
  ·rcases xb h2 with ⟨_,z2⟩ | ⟨n2,z2⟩
   ·cases z2
   ·rw [xn n1] at h3
    rw [xn n2] at h4
    exact E.ap j k d e p hne z1 z2 h3 h4
noncomputable def pK (X:Cx) (j:Nat) (f:Addr) (F:List D->Option (Bool×D)):Prop:=∃ (fd:FuncData) (ps:List Str) (k:Nat),k<=j/\PySem.W.keepIn X.K (.ref f)=true/\uA X.K fd ps []/\v7 X.prog X.w X.K X.mg X.base v4 k f fd ps (zO X.K F)
structure BX (X:Cx) (i:Nat) (t:TS) (f:Addr) (g:FS):Prop where
 h:∀ {G0 H0 G H:Hp} {τ:zd} {σ:St} {fl:Fl} {E:wV},zf X.K X.N.length G0 H0 G H τ σ->σ[i]?=some (some (.ref f))->g τ=some fl->wL X.K X.N.length G0 H0 E fl->t E σ H
inductive u9 (X:Cx) (i:Nat) (t:TS):List Addr->List FS->Prop
 | nil:u9 X i t [] []
 | cons {f:Addr} {fs:List Addr} {g:FS} {gs:List FS}:BX X i t f g->u9 X i t fs gs->u9 X i t (f::fs) (g::gs)
theorem u9.len {X:Cx} {i:Nat} {t:TS}:∀ {fs:List Addr} {gs:List FS},u9 X i t fs gs->fs.length=gs.length
 | _,_,.nil=>rfl
 | _,_,.cons _ h=>by rw [List.length_cons,List.length_cons,h.len]
theorem u9.get {X:Cx} {i:Nat} {t:TS}:∀ {fs:List Addr} {gs:List FS} {k:Nat} {f:Addr},u9 X i t fs gs->fs[k]?=some f->∃ g,gs[k]?=some g/\BX X i t f g
 | _,_,_,_,.nil,h=>by cases h
 | _,_,0,_,.cons b _,h=>by cases h; exact ⟨_,rfl,b⟩
 | _,_,k+1,_,.cons _ h,e=>u9.get (k:=k) h (by simpa using e)
noncomputable def vY (i:Nat):List FS->zd->Option Fl
 | [],τ=>some (.nx τ)
 | g::gs,τ=>(g (τ.set i none)).bind fun fl=>match fl with
  | .nx τ'=>vY i gs τ'
  | .ct τ'=>vY i gs τ'
  | .bk τ'=>some (.nx τ')
  | f=>some f
section
variable {X:Cx} {x y o gn:Str} {e:Expr} {es:List Expr} {fs:FA} {p p2 pos pos' xp gp op apos cpos:Pos} {i io iy j:Nat} {body yD:List Stmt} {t:TS} {g:FS}
theorem pK.of {n:Str} {ps:List Str} {k:Nat} {f:Addr} {F:List D->Option (Bool×D)} (h:zN X.prog X.w X.K X.mg X.base n ps k (zO X.K F)) (hm:X.mg n=some (.ref f)) (hk:k<=j:=by decide):pK X j f F:=by
 obtain ⟨f',fd,hm',kp,b,F⟩:=h
 rw [hm] at hm'
 cases hm'
 exact ⟨fd,ps,k,hk,kp,b,F⟩
theorem OL {ta:TA} (ka:∀ {G0 H0 G H:Hp} {τ:zd} {σ:St} {ds:List D} {Q:List V->Hp->Prop},zf X.K X.N.length G0 H0 G H τ σ->fs τ=some ds->(∀ vs G' H',zM G H G' H'->Reps X.K G' ds vs->Q vs H')->ta σ H Q)
  {f:Addr} {F:List D->Option (Bool×D)} (h:pK X j f F) {G0 H0 G H:Hp} {τ:zd} {σ:St} {d:D} {Q:VK} (E:zf X.K X.N.length G0 H0 G H τ σ) (hs:σ[i]?=some (some (.ref f))) (hf:zX F fs τ=some d) (q:∀ v G' H',zM G H G' H'->zV X.K G' d v->Q v H'):IM X j i ta σ H Q:=by
 obtain ⟨fd,ps,k,hk,kp,b,F'⟩:=h
 obtain ⟨ds,hd,hf⟩:=zJ hf
 obtain ⟨⟨o,d'⟩,hr,hf⟩:=zJ hf
 cases hf
 refine ⟨f,fd,ps,k,_,hs,hk,kp,b,F',ka E hd fun vs G1 H1 x1 r1=>⟨G1,ds,o,d',x1.gh,by rw [List.append_nil]; exact r1,hr,?_⟩⟩
 cases o with
 | false=>exact fun v G' H' x2 r=>q v G' H' (x1.trans x2) r
 | true=>
  intro p G' H' x2 hp gp o
  obtain ⟨u,hu,r⟩:=o.frz gp
  exact q _ _ _ (x1.trans (x2.frz hp gp hu)) r
theorem OK (hr:yj j X.A) (hx:PE X (.Name x xp) (vf i)) (hN:X.N.Nodup) (hy:X.N[iy]?=some y) (hl:wM X.env.scope y) (ha:SA X (e::es) fs) (hrest:wg X yD g) (he:(e::es).all yl=true:=by rfl) (hs:t9 (.Call (.Name x xp) (e::es) [] p2)=true:=by rfl) (hf:X.fn y=true\/X.env.scope.names.lookup y=some .local:=by first | exact .inl rfl | exact .inr rfl | assumption) :
  ∃ t,wD X (.Assign [.Name y pos'] (.Call (.Name x xp) (e::es) [] p2) pos::yD) t/\∀ f F,pK X j f F->BX X i t f (zE (zS iy (zX F fs)) g):=by
 obtain ⟨ta,pa,ka⟩:=ha.h
 obtain ⟨tr,pr,kr⟩:=hrest.h
 refine ⟨_,Yn (jC hN hy hl ⟨Dk hr hx pa he⟩ hs hf).h pr,fun f F hF=>⟨fun {G0 H0 G H τ σ fl E} K hs hf q=>?_⟩⟩
 obtain ⟨f1,h1,hf⟩:=zJ hf
 obtain ⟨d,hd,h1⟩:=zJ h1
 cases h1
 exact OL ka hF K hs hd fun v G' H' x r=>kr ((K.go x).set (List.getElem?_eq_some_iff.mp hy).1 r) hf q
theorem GI {a:Addr} {fs:List Addr} {gs:List FS} (hp:PassesOwn (model X.prog X.w) X.A X.env X.xe) (hc:X.calm=true) (hgl:PE X (.Name gn gp) (tC (.ref a))) (hT:∀ H,yU X.K H a (fs.map V.ref)) (hg:QG X (.Name x xp) (xz i)) (hi:X.N[i]?=some x) (hb:wD X body t) (hB:u9 X i t fs gs)
  (hs:∀ x,foldedSetIterable (.Name gn gp) X.env x=pure x:=by intro _; rfl):SS X (.For (.Name x xp) (.Name gn gp) body [] pos) (vY i gs):=by
 refine ⟨⟨_,Ww hp hc (Qs hgl) hg.h hb hs,fun {G0 H0 G H τ σ fl E} K hf q=>?_⟩⟩
 refine ⟨a,rfl,⟨_,hT H⟩,?_⟩
 have gl:=hB.len
 refine ⟨fun k m σ H=>m=gs.length - k/\k<=gs.length/\∃ τ G,zf X.K X.N.length G0 H0 G H τ σ/\vY i (gs.drop k) τ=some fl,⟨gs.length,rfl,Nat.zero_le _,τ,G,K,hf⟩,?_⟩
 rintro k m σ H ⟨rfl,hle,τ,G,K,hf⟩
 by_cases hlt:k<gs.length
 ·have hfk:fs[k]?=some (fs[k]'(by omega)):=List.getElem?_eq_getElem (by omega)
  generalize (fs[k]'(by omega))=f at hfk
  have hk:(fs.map V.ref)[k]?=some (V.ref f):=by rw [List.getElem?_map,hfk]; rfl
  refine .inr ⟨⟨_,_,hT H,hk⟩,fun σ' H'=>∃ τ G,zf X.K X.N.length G0 H0 G H' τ σ'/\vY i (gs.drop (k+1)) τ=some fl,fun σ' H' z=>⟨gs.length - (k+1),by omega,rfl,hlt,z⟩,fun v H' y=>?_⟩
  obtain ⟨rfl,y⟩:=y
  have e:=y _ (hT _)
  rw [hk] at e
  cases e
  obtain ⟨g,eg,B⟩:=hB.get hfk
  rw [List.drop_eq_getElem_cons hlt] at hf
  rw [List.getElem?_eq_getElem hlt] at eg
  cases eg
  obtain ⟨f1,h2,hf⟩:=zJ (show (gs[k] (τ.set i none)).bind _=_ from hf)
  have in_:i<X.N.length:=(List.getElem?_eq_some_iff.mp hi).1
  refine B.h (K.lose (i:=i) (.ref f)) (tW (by rw [K.l1]; exact in_)) h2 ?_
  cases f1 with
  | nx τ2=>exact fun σ2 G2 H2 K2=>⟨τ2,G2,K2,hf⟩
  | ct τ2=>exact fun σ2 G2 H2 K2=>⟨τ2,G2,K2,hf⟩
  | bk τ2=>cases hf; exact q
  | rt o d=>cases hf; exact wL.with q (fun _ z=>nomatch z) (fun _ z=>nomatch z) (fun _ z=>nomatch z) rfl
 ·have e:gs.drop k=[]:=List.drop_eq_nil_of_le (by omega)
  rw [e] at hf
  cases hf
  exact .inl ⟨⟨_,hT H,by rw [List.length_map]; omega⟩,q _ _ _ K⟩
end
noncomputable def XY (K:PySem.W.Frag) (mg:Str->Option Value) (A:Addr) (names:List Str):Prop:=∃ fs:List Addr,(∀ H,yU K H A (fs.map V.ref))/\names.map mg=fs.map fun f=>some (.ref f)
inductive uF (X:Cx) (j:Nat):List Str->List (List D->Option (Bool×D))->Prop
 | nil:uF X j [] []
 | cons {n:Str} {ns:List Str} {F:List D->Option (Bool×D)} {Fs:List (List D->Option (Bool×D))} {ps:List Str} {k:Nat} (h:zN X.prog X.w X.K X.mg X.base n ps k (zO X.K F)) (r:uF X j ns Fs) (hk:k<=j:=by decide):uF X j (n::ns) (F::Fs)
section
variable {X:Cx} {x y o gn:Str} {e:Expr} {es:List Expr} {fs:FA} {p p2 pos pos' xp xp2 gp op apos cpos:Pos} {i io iy j:Nat} {yD:List Stmt} {g:FS} {a:Addr} {names:List Str} {Fs:List (List D->Option (Bool×D))} {gs:List FS}
theorem UP {t:TS} {G:(List D->Option (Bool×D))->FS} (hB:∀ f F,pK X j f F->BX X i t f (G F)):∀ {names:List Str} {Fs:List (List D->Option (Bool×D))} {as:List Addr},uF X j names Fs->names.map X.mg=as.map (fun f=>some (.ref f))->u9 X i t as (Fs.map G)
 | _,_,[],.nil,_=>.nil
 | _,_,_::_,.nil,h=>by cases h
 | _,_,[],.cons _ _ _,h=>by cases h
 | _,_,f::as,.cons hh r hk,h=>by
  rw [List.map_cons,List.map_cons] at h
  injection h with h1 h2
  exact .cons (hB _ _ (pK.of hh h1 hk)) (UP hB r h2)
theorem GH (hp:PassesOwn (model X.prog X.w) X.A X.env X.xe) (hc:X.calm=true) (hG:yt X.mg gn (.ref a)) (hgl:Gl X gn) (hT:XY X.K X.mg a names) (hL:uF X j names Fs) (hr:yj j X.A) (hg:QG X (.Name x xp) (xz i)) (hi:X.N[i]?=some x) (hx:QE X (.Name x xp2) (vf i)) (hN:X.N.Nodup) (hy:X.N[iy]?=some y) (hl:wM X.env.scope y) (ha:SA X (e::es) fs) (hrest:wg X yD g)
  (hgs:gs=Fs.map fun F=>zE (zS iy (zX F fs)) g) (hdb:(gn == ("__debug__" : Str))=false:=by decide) (he:(e::es).all yl=true:=by rfl) (hnc:t9 (.Call (.Name x xp2) (e::es) [] p2)=true:=by rfl) (hf:X.fn y=true\/X.env.scope.names.lookup y=some .local:=by first | exact .inl rfl | exact .inr rfl | assumption) (hs:∀ x,foldedSetIterable (.Name gn gp) X.env x=pure x:=by intro _; rfl) :
  SS X (.For (.Name x xp) (.Name gn gp) (.Assign [.Name y op] (.Call (.Name x xp2) (e::es) [] p2) pos'::yD) [] pos) (vY i gs):=by
 subst hgs
 obtain ⟨t,pt,hB⟩:=OK (p2:=p2) (pos:=pos') (pos':=op) hr hx.h hN hy hl ha hrest he hnc hf
 obtain ⟨as,h1,h2⟩:=hT
 exact GI hp hc (Wp hG hgl hdb) h1 hg hi pt (UP hB hL h2) hs
end
end L3
namespace L3
open PySem PySem.Spec PyProof.Rows L2
section
variable {α:Type} {P:List α->Prop}
theorem IX (h:P []):∀ us:List α,us.length=0->P us
 | [],_=>h
theorem X8 {n:Nat} (h:∀ a (r:List α),r.length=n->P (a::r)):∀ us:List α,us.length=n+1->P us
 | a::r,e=>h a r (Nat.succ.inj e)
theorem xG (h:∀ a,P [a]):∀ us:List α,us.length=1->P us:=X8 fun a=>IX (P:=fun r=>P (a::r)) (h a)
theorem uZ (h:∀ a b,P [a,b]):∀ us:List α,us.length=2->P us:=X8 fun a=>xG (P:=fun r=>P (a::r)) (h a)
theorem jP (h:∀ a b c,P [a,b,c]):∀ us:List α,us.length=3->P us:=X8 fun a=>uZ (P:=fun r=>P (a::r)) (h a)
theorem HM (h:∀ a b c d,P [a,b,c,d]):∀ us:List α,us.length=4->P us:=X8 fun a=>jP (P:=fun r=>P (a::r)) (h a)
end
noncomputable abbrev yH (x:Str) (st:Stmt) (oc:Value) (od:Option Addr) (sl:Array (Option Value)) (kV dc pm:Value) (an:Option Addr) (cd ct:Value):Option Obj:=some ⟨oc,od,.func (PySem.W.fnOf x x (pS st) (uK st) (zo st) .none kV dc pm an cd ct),sl⟩
end L3
namespace L3
open PySem PySem.Spec PyProof.Rows L2
section
variable {P:Program} {w:World} {K:PySem.W.Frag} {mg:Str->Option Value} {base:Heap}
end
section
variable {X:Cx} {tg iter elt:Expr} {scope:Scope} {cl:List (Str×Addr)} {own:List Str} {pos p1:Pos} {fs:FA} {fg:FG} {f:FE} {tG:TG} {st:Stmt} {sts:List Stmt} {g:FS} {b:FSN}
end
end L3
namespace L3
open PySem PySem.Spec PyProof PyProof.Rows L2
noncomputable def Z3:Nat->TA
 | 0=>qz
 | m+1=>X3 (Z4 qz) (Z3 m)
structure Es (X:Cx) (es:List Expr) (m:Nat):Prop where
 h:PA X es (Z3 m)
section
variable {X:Cx} {i m:Nat} {x:Str} {es:List Expr} {p pos pos' spos:Pos}
theorem L5:Es X [] 0:=⟨qg⟩
theorem Zz (h:Es X es m):Es X (.List [] p::es) (m+1):=⟨gC (Yh qg) h.h rfl⟩
theorem Uu {G H:Hp} {σ:St} (gh:zx G H):∀ (m:Nat) (qs0:List Addr) (H1:Hp) (Q:List V->Hp->Prop),zM G H G H1->qs0.Nodup->(∀ b∈qs0,H1 b=some (.lst [])/\H b=none/\G b=none)->
  (∀ qs H',qs.length=m->zM G H G H'->(qs0++qs).Nodup->(∀ b∈qs0++qs,H' b=some (.lst [])/\H b=none/\G b=none)->Q (qs.map V.ref) H')->Z3 m σ H1 Q
 | 0,qs0,H1,Q,x1,nd,hq,k=>k [] H1 rfl x1 (by rw [List.append_nil]; exact nd) (by rw [List.append_nil]; exact hq)
 | m+1,qs0,H1,Q,x1,nd,hq,k=>by
  show Z4 qz σ H1 (fun x H2=>Z3 m σ H2 fun xs H3=>Q (x::xs) H3)
  refine ⟨Nat.zero_le _,fun b hb=>?_⟩
  have fresh:b ∉ qs0:=fun z=>by
   rw [(hq b z).1] at hb
   cases hb
  refine Uu gh m (qs0++[b]) _ _ (x1.trans (zM.layO x1.gh hb)) ?_ (fun c hc=>?_) fun qs H' l x' nd' hq'=>?_
  ·exact List.nodup_append.mpr ⟨nd,List.nodup_cons.mpr ⟨List.not_mem_nil,List.nodup_nil⟩,fun u hu w hw e=>fresh (by cases List.mem_singleton.mp hw; exact e ▸ hu)⟩
  ·rcases List.mem_append.mp hc with z | z
   ·obtain ⟨z1,z2,z3⟩:=hq c z
    exact ⟨by rw [yE (fun e:c=b=>fresh (e ▸ z))]; exact z1,z2,z3⟩
   ·cases List.mem_singleton.mp z
    exact ⟨yQ,x1.h.free hb,x1.gh.free hb⟩
  ·rw [List.append_assoc] at nd' hq'
   exact k (b::qs) H' (by rw [List.length_cons,l]) x' nd' hq'
theorem GB (hN:X.N.Nodup) (hix:X.N[i]?=some x) (hx:wM X.env.scope x) (he:Es X es m) (hm:m<=1000:=by decide) (hs:t9 (.List es pos)=true:=by rfl) (hf:X.fn x=true\/X.env.scope.names.lookup x=some .local:=by first | exact .inl rfl | exact .inr rfl | assumption) :
  XX X i (.Assign [.Name x pos'] (.List es pos) spos) (fun _=>some m):=by
 refine ⟨⟨_,(jC hN hix hx ⟨Yh he.h⟩ hs hf).h,fun {G0 H0 G H τ σ m' E} K hf q=>?_⟩⟩
 cases hf
 show Z4 (Z3 m) σ H _
 refine Uu K.ext.gh m [] H _ (zM.refl K.ext.gh) List.nodup_nil (fun _ h=>(List.not_mem_nil h).elim) fun qs H' l x' nd hq=>⟨?_,fun a ha=>?_⟩
 ·rw [List.length_map,l,sizeLine_eq]
  exact Nat.le_trans hm (by decide)
 ·rw [List.nil_append] at nd hq
  have fresh:a ∉ qs:=fun z=>by
   rw [(hq a z).1] at ha
   cases ha
  refine q a qs G _ (x'.trans (zM.layO x'.gh ha)) ⟨yQ,x'.h.free ha,x'.gh.free ha,fresh,nd,by rw [List.length_replicate]; exact l.symm,fun j c hc=>?_⟩
  have mem:=List.mem_of_getElem? hc
  obtain ⟨z1,z2,z3⟩:=hq c mem
  refine ⟨[],[],?_,by rw [yE (fun e:c=a=>fresh (e ▸ mem))]; exact z1,z2,z3,rfl,Nat.zero_le _⟩
  rw [List.getElem?_replicate,if_pos (by have:=(List.getElem?_eq_some_iff.mp hc).1; omega)]
end
noncomputable def ji:D->D->Option D
 | .lst _,.non=>some (.bl true)
 | .lst xs,.lst ys=>xM (.lst xs) (.lst ys)
 | _,_=>none
noncomputable def JN (K:PySem.W.Frag):R2:=fun x y H Q=>(∃ a xs,x=.ref a/\y=.non/\zy K H a xs/\Q (.bl true) H)\/gH K true x y H Q
section
variable {X:Cx} {K:PySem.W.Frag}
theorem DQ (hu:X.A.units+7<cLine):yC X (compareOp .NotEq) (JN X.K):=by
 intro pins s σ H x y v u Q I rx ry h
 rcases h with ⟨a,xs,rfl,rfl,sq,q⟩ | h
 ·cases (show v=Value.ref a from rx)
  cases (show u=Value.none from ry)
  obtain ⟨its,_,hl,_⟩:=I.list sq
  exact SeqAt.RcNeAt.list_none hl.isList (by omega) _ _ _ _ ⟨.bl true,H,I,rfl,q⟩
 ·exact vq hu pins s σ H x y v u Q I rx ry h
theorem Bo:uG K (JN K) ji:=fun H x y u v d Q rx ry hf=>by
 cases x with
 | lst xs=>
  cases y with
  | non=>
   cases hf
   obtain ⟨a,vs,rfl,sq,_⟩:=rx
   cases (show v=V.non from ry)
   exact ⟨_,rfl,fun q=>.inl ⟨a,vs,rfl,rfl,sq,q⟩⟩
  | lst ys=>
   obtain ⟨w,e,k⟩:=vp (K:=K) H (.lst xs) (.lst ys) u v d Q rx ry hf
   exact ⟨w,e,fun q=>.inr (k q)⟩
  | _=>cases hf
 | _=>cases hf
end
end L3
namespace L3
open PySem PySem.Spec PyProof PyProof.Rows L2
end L3
namespace L2
open PySem PySem.Spec PyProof PyProof.Rows
end L2
namespace L3
open PySem PySem.Spec PyProof PyProof.Rows L2
end L3
namespace L2
open PySem PySem.Spec PyProof PyProof.Rows
section
variable {X:Cx} {A:Addr} {ks:List zL} {us:List V} {x:Str} {p apos cpos:Pos}
end
end L2
namespace L3
open PySem PySem.Spec PyProof PyProof.Rows L2
end L3
namespace L2
open PySem PySem.Spec PyProof PyProof.Rows
section
variable {X:Cx} {x n:Str} {p pos np hpos tpos:Pos} {e e1 e2:Expr} {es:List Expr} {ta:TA} {te:TE} {tx:TX} {ps:List Str} {j k i:Nat} {sp:Sp} {E:XK} {D:Addr} {suite:List Stmt} {ts:TS} {b₀:Stmt}
end
end L2
namespace L3
open PySem PySem.Spec PyProof PyProof.Rows L2
section
variable {X:Cx} {E:XK} {x:Str} {C:Addr} {st:Stmt} {sts yD:List Stmt} {g:FS} {f:FSX} {ft:FT} {fa:FA} {c e:Expr} {es:List Expr} {np cpos pos ipos:Pos}
end
section
variable {P:Program} {w:World} {K:PySem.W.Frag} {mg:Str->Option Value} {base:Heap}
end
section
variable {X:Cx} {iy i j k kb:Nat} {y n x z f g pn:Str} {C D:Addr} {ps:List Str} {F:FX} {B:Str->Option Bool} {fa:FA} {fc:FE} {c e:Expr} {es:List Expr} {yp fp cp ap np gp mp gc bp rp hpos tpos:Pos}
end
end L3
local macro_rules
 | `(tactic| simp! [$ls,*])=>`(tactic| simp only [L3.shx,Nat.reduceAdd,Nat.reduceSub,Int.reduceLT,Int.reduceLE,Int.reducePow,Int.reduceToNat,Int.reduceAdd,Int.reduceSub,Int.reduceMul,Int.reduceNeg,$ls,*])
namespace L3
open PySem
noncomputable def LE:List D:=[(.str "jump"),(.str "when"),(.str "unless")]
noncomputable def Y7:D:=.tup LE
noncomputable def T6:List D:=[(.str "carry"),(.str "nought"),(.str "sign")]
noncomputable def TB:D:=.tup T6
noncomputable def LG:List D:=[(.str "high"),(.str "left"),(.str "right"),(.str "add"),(.str "addc"),(.str "sub"),(.str "subc"),(.str "and"),(.str "or"),(.str "xor"),(.str "test"),(.str "store"),(.str "storew")]
noncomputable def W5:D:=.tup LG
noncomputable def LH:List D:=[(.str "copy"),(.str "load"),(.str "loadw"),(.str "add"),(.str "addc"),(.str "sub"),(.str "subc"),(.str "and"),(.str "or"),(.str "xor"),(.str "test"),(.str "store"),(.str "storew")]
noncomputable def W6:D:=.tup LH
noncomputable def LF:List D:=[(.str "addc"),(.str "subc")]
noncomputable def W4:D:=.tup LF
noncomputable def LJ:List D:=[(.str "set"),(.str "high"),(.str "copy"),(.str "load"),(.str "loadw"),(.str "add"),(.str "addc"),(.str "sub"),(.str "subc"),(.str "and"),(.str "or"),(.str "xor"),(.str "left"),(.str "right")]
noncomputable def W8:D:=.tup LJ
noncomputable def LK:List D:=[(.str "add"),(.str "addc"),(.str "sub"),(.str "subc"),(.str "test"),(.str "and"),(.str "or"),(.str "xor"),(.str "left"),(.str "right")]
noncomputable def W9:D:=.tup LK
noncomputable def LI:List D:=[(.str "add"),(.str "addc"),(.str "sub"),(.str "subc"),(.str "test"),(.str "left"),(.str "right")]
noncomputable def W7:D:=.tup LI
end L3
namespace L3
open PySem
noncomputable def U3:FS:=
 (zE (yP (tE (e2 (uL fun i j=>decide (i<j)) (z6 1) (eL xL (zB (z6 0) zD))))
   (ya (e2 zG (z6 0) (z6 1)))
   yW)
  (ya (eC (.int 0))))
theorem M7 (ns:List Int) (k:Nat):(ns.map D.int)[k]?=(ns[k]?).map D.int:=List.getElem?_map
noncomputable def jf (ns:List Int) (k:Int):Int:=ns.getD k.toNat 0
noncomputable def p8:List D->Option (Bool×D)
 | [.lst xs,.int k]=>if 0<=k then ((xs[k.toNat]?).getD (.int 0) |> fun d=>some (false,d)) else none
 | _=>none
theorem OY (ns:List Int) {k:Int} (h:0<=k):p8 [.lst (ns.map D.int),.int k]=some (false,.int (jf ns k)):=by
 show (if 0<=k then _ else _)=_
 rw [if_pos h,M7]
 unfold jf
 rw [List.getD_eq_getElem?_getD]
 cases ns[k.toNat]?<;>rfl
theorem Cf:∀ ds r,p8 ds=some r->ds.length=2/\zc 2 U3 ds=some r:=fun ds r h=>by
 unfold p8 at h
 split at h
 ·rename_i xs k
  refine ⟨rfl,?_⟩
  by_cases h0:0<=k
  ·rw [if_pos h0] at h
   cases h
   unfold U3
   by_cases c:k<(xs.length:Int)
   ·have e:zG (.lst xs) (.int k)=some ((xs[k.toNat]?).getD (.int 0)):=by
     show wN xs k=_
     unfold wN
     rw [if_pos h0,List.getElem?_eq_getElem (by omega)]
     rfl
    simp! [decide_eq_true c,e]
   ·have e:xs[k.toNat]?=none:=List.getElem?_eq_none (by omega)
    simp! [decide_eq_false c,e,Option.getD]
  ·rw [if_neg h0] at h
   cases h
 ·cases h
end L3
namespace L3
open PySem
noncomputable def lt (k:Int):Str:=⟨#[97+k.toNat]⟩
theorem Iy {k:Int} (h0:0<=k) (h1:k<26):wN ("abcdefghijklmnopqrstuvwxyz" : Str).cps.toList k=some (97+k.toNat):=by
 have h:∀ j:Fin 26,wN ("abcdefghijklmnopqrstuvwxyz" : Str).cps.toList (j.val:Int)=some (97+j.val):=by decide +kernel
 have:=h ⟨k.toNat,by omega⟩
 rw [show ((⟨k.toNat,by omega⟩:Fin 26).val:Int)=k by show (k.toNat:Int)=k; omega] at this
 exact this
theorem Xa {k:Int} (h0:0<=k) (h1:k<26):zG (.str "abcdefghijklmnopqrstuvwxyz") (.int k)=some (.str (lt k)):=by
 show (wN _ k).bind _=_
 rw [Iy h0 h1]
 rfl
theorem add_str {a b:Str} (h:a.length+b.length<=100000):yO (.str a) (.str b)=some (.str (a++b)):=by
 show (if a.length+b.length<=zu then _ else _)=_
 rw [if_pos (by show _<=16777216; omega)]
theorem YT (a b:Str):(a++b).length=a.length+b.length:=Array.size_append
theorem jx (k:Int):(lt k).length=1:=rfl
theorem Iz:((("abcdefghijklmnopqrstuvwxyz" : Str).length:Nat):Int)=26:=by decide +kernel
end L3
namespace L3
open PySem
theorem qY {g:FG} {c:FT} {e:FE} {σ:zd} (p:D->Bool) (v:D->D):∀ {ds:List D},(∀ d∈ds,∃ σ1,g d σ=some σ1/\c σ1=some (p d)/\(p d=true->e σ1=some (v d)))->xX g c e σ ds=some ((ds.filter p).map v)
 | [],_=>rfl
 | d::ds,h=>by
  obtain ⟨σ1,e1,e2,e3⟩:=h d (List.mem_cons_self ..)
  have ih:=qY p v (ds:=ds) fun x hx=>h x (List.mem_cons_of_mem _ hx)
  show (g d σ).bind _=_
  rw [e1]
  show (c σ1).bind _=_
  rw [e2]
  cases hp:p d with
  | false=>
   rw [List.filter_cons_of_neg (by rw [hp]; decide)]
   exact ih
  | true=>
   rw [List.filter_cons_of_pos hp]
   show (e σ1).bind _=_
   rw [e3 hp]
   show (xX g c e σ ds).bind _=_
   rw [ih]
   rfl
theorem pw {g:FG} {e:FE} {σ:zd} (v:D->D) {ds:List D} (h:∀ d∈ds,∃ σ1,g d σ=some σ1/\e σ1=some (v d)):xX g xV e σ ds=some (ds.map v):=by
 have:=qY (g:=g) (c:=xV) (e:=e) (σ:=σ) (fun _=>true) v (ds:=ds) fun d hd=>by
  obtain ⟨σ1,a,b⟩:=h d hd
  exact ⟨σ1,a,rfl,fun _=>b⟩
 rw [this,List.filter_eq_self.mpr (fun _ _=>rfl)]
inductive ub (R:D->D->Prop):List D->List D->Prop
 | nil:ub R [] []
 | cons {x y:D} {xs ys:List D}:R x y->ub R xs ys->ub R (x::xs) (y::ys)
theorem WS {g:FG} {e:FE} {σ:zd} (R:D->D->Prop):∀ {ds:List D},(∀ d∈ds,∃ σ1 x,g d σ=some σ1/\e σ1=some x/\R d x)->∃ xs,xX g xV e σ ds=some xs/\ub R ds xs
 | [],_=>⟨[],rfl,.nil⟩
 | d::ds,h=>by
  obtain ⟨σ1,x,e1,e2,r⟩:=h d (List.mem_cons_self ..)
  obtain ⟨xs,ih,rs⟩:=WS R (ds:=ds) fun x hx=>h x (List.mem_cons_of_mem _ hx)
  refine ⟨x::xs,?_,.cons r rs⟩
  show (g d σ).bind _=_
  rw [e1]
  show (e σ1).bind _=_
  rw [e2]
  show (xX g xV e σ ds).bind _=_
  rw [ih]
  rfl
theorem jO {n i:Nat} {d:D} (h:(xD n)[i]?=some d):i<n/\d=.int (i:Int):=by
 have hi:i<n:=by
  have:=(List.getElem?_eq_some_iff.mp h).1
  simpa using this
 refine ⟨hi,?_⟩
 simp [hi] at h
 exact h.symm
theorem Vb {n:Nat} {d:D} (h:d∈xD n):∃ i:Nat,i<n/\d=.int (i:Int):=by
 obtain ⟨i,hi,e⟩:=List.getElem_of_mem h
 exact ⟨i,(jO (List.getElem?_eq_some_iff.mpr ⟨hi,e⟩))⟩
theorem tM (n:Nat):(xD n).length=n:=by simp
theorem vF {α:Type} {xs:List α} {i:Int} {a:α} (h0:0<=i) (h:xs[i.toNat]?=some a):wN xs i=some a:=by
 unfold wN
 rw [if_pos h0,h]
noncomputable def vb:Nat->D->Bool
 | 0,_=>false
 | n+1,.tup xs=>xs.all (vb n)
 | n+1,.lst xs=>xs.all (vb n)
 | _+1,d=>yG d
theorem Xn {f:D->D->Bool}:∀ {xs:List D},(∀ x∈xs,f x x=true)->wm f xs xs=true
 | [],_=>rfl
 | x::xs,h=>by
  show (f x x&&wm f xs xs)=true
  rw [h x (List.mem_cons_self ..),Xn fun y hy=>h y (List.mem_cons_of_mem _ hy)]
  rfl
theorem Xp:∀ {xs:List D},(∀ x∈xs,zk x x=true)->dEqs xs xs=true
 | [],_=>by unfold dEqs; rfl
 | x::xs,h=>by
  unfold dEqs
  rw [h x (List.mem_cons_self ..),Xp fun y hy=>h y (List.mem_cons_of_mem _ hy)]
  rfl
theorem g8:∀ (n:Nat) (d:D),vb n d=true->xJ n d d=true/\zk d d=true
 | 0,_,h=>by cases h
 | n+1,d,h=>by
  cases d with
  | tup xs=>
   have h':∀ x∈xs,vb n x=true:=List.all_eq_true.mp h
   exact ⟨Xn fun x hx=>(g8 n x (h' x hx)).1,by unfold zk; exact Xp fun x hx=>(g8 n x (h' x hx)).2⟩
  | lst xs=>
   have h':∀ x∈xs,vb n x=true:=List.all_eq_true.mp h
   exact ⟨Xn fun x hx=>(g8 n x (h' x hx)).1,by unfold zk; exact Xp fun x hx=>(g8 n x (h' x hx)).2⟩
  | dic ks vs=>cases h
  | non=>exact ⟨rfl,by unfold zk; rfl⟩
  | bl b=>exact ⟨rfl,by unfold zk; exact beq_self_eq_true b⟩
  | int i=>exact ⟨rfl,by unfold zk; exact beq_self_eq_true i⟩
  | str z=>exact ⟨rfl,by unfold zk; exact beq_self_eq_true z⟩
theorem Ur {d:D} (h:vb 6 d=true):uM d d=some true:=by
 obtain ⟨h1,h2⟩:=g8 6 d h
 have e:uM d d=match xJ 6 d d with
  | true=>some (zk d d)
  | false=>none:=by cases d<;>rfl
 rw [e,h1,h2]
theorem Ut {d:D} (h:vb 6 d=true):zm d d=some (.bl true):=by
 unfold zm
 rw [Ur h]
 rfl
theorem QF {d:D} (h:vb 6 d=true):xM d d=some (.bl false):=by
 unfold xM
 rw [Ur h]
 rfl
theorem WE {i j:Int} (h:i=j):zm (.int i) (.int j)=some (.bl true):=by
 subst h
 show some (D.bl (i == i))=_
 rw [beq_self_eq_true]
theorem WF {i j:Int} (h:i≠j):zm (.int i) (.int j)=some (.bl false):=by
 show some (D.bl (i == j))=_
 rw [beq_eq_false_iff_ne.mpr h]
theorem add_int {i j:Int}:yO (.int i) (.int j)=some (.int (i+j)):=rfl
theorem IG:∀ ts:List Str,qw (ts.map D.str)=some ts
 | []=>rfl
 | t::ts=>by
  show (qw (ts.map D.str)).bind _=_
  rw [IG ts]
  rfl
theorem ML {sep:Str} {ts:List Str} (h:(ts.map (·.length)).sum+ts.length*sep.length<=1000000):Xz (.str sep) (.lst (ts.map D.str))=some (.str (Builtin.Str.glued sep ts)):=by
 show (qw (ts.map D.str)).bind _=_
 rw [IG]
 show (if _<=zu then _ else _)=_
 rw [if_pos (by show _<=16777216; omega)]
theorem cut_len (z:Str) (lo hi:Option Int):(L2.cutS z lo hi).length<=z.length:=by
 show ((z.cps.toList.drop _).take _).toArray.size<=z.cps.size
 simp only [List.size_toArray,List.length_take,List.length_drop,Array.length_toList]
 omega
theorem T5 {α:Type} {k:Sum Int Str} {v:α}:∀ {ks:List (Sum Int Str)} {vs:List α},ks.length=vs.length->∀ k',getK (xE ks k) (xI ks vs k v) k'=if k=k' then some v else getK ks vs k':=by
 have one:∀ {ks:List (Sum Int Str)} {vs:List α},ks.length=vs.length->∀ k',yF ks k=true->getK ks (List.zipWith (fun k' x=>if k'=k then v else x) ks vs) k'=if k=k' then some v else getK ks vs k':=by
  intro ks
  induction ks with
  | nil=>intro vs _ k' h; cases h
  | cons a ks ih=>
   intro vs hl k' h
   cases vs with
   | nil=>cases hl
   | cons b vs=>
    rw [List.zipWith_cons_cons]
    unfold getK
    by_cases e1:a=k
    ·subst e1
     by_cases e2:a=k'
     ·rw [if_pos e2,if_pos e2,if_pos rfl]
     ·rw [if_neg e2,if_neg e2,if_neg e2]
      by_cases e3:yF ks a=true
      ·have:=ih (vs:=vs) (by simpa using hl) k' e3
       rw [this,if_neg e2]
      ·have:∀ {ks:List (Sum Int Str)} {vs:List α},ks.length=vs.length->yF ks a=false->getK ks (List.zipWith (fun k' x=>if k'=a then v else x) ks vs) k'=getK ks vs k':=by
        intro ks
        induction ks with
        | nil=>intro vs _ _; rfl
        | cons a' ks ih'=>
         intro vs hl h
         cases vs with
         | nil=>cases hl
         | cons b vs=>
          have h2:decide (a'=a)=false/\yF ks a=false:=by
           have:(decide (a'=a)||yF ks a)=false:=h
           exact Bool.or_eq_false_iff.mp this
          rw [List.zipWith_cons_cons]
          unfold getK
          rw [if_neg (of_decide_eq_false h2.1),ih' (by simpa using hl) h2.2]
       exact this (by simpa using hl) (by simpa using e3)
    ·have h2:yF ks k=true:=by
      have:(decide (a=k)||yF ks k)=true:=h
      rw [decide_eq_false e1] at this
      exact this
     have:=ih (vs:=vs) (by simpa using hl) k' h2
     rw [this,if_neg e1]
     by_cases e2:a=k'
     ·rw [if_pos e2]
      rw [if_neg (fun e=>e1 (e2.trans e.symm)),if_pos e2]
     ·rw [if_neg e2]
      by_cases e3:k=k'
      ·rw [if_pos e3,if_pos e3]
      ·rw [if_neg e3,if_neg e3,if_neg e2]
 intro ks vs hl k'
 unfold xE xI
 by_cases h:yF ks k=true
 ·rw [if_pos h,if_pos h]
  exact one hl k' h
 ·rw [if_neg h,if_neg h]
  clear one
  induction ks generalizing vs with
  | nil=>
   cases vs with
   | nil=>rfl
   | cons _ _=>cases hl
  | cons a ks ih=>
   cases vs with
   | nil=>cases hl
   | cons b vs=>
    have h2:¬ a=k/\¬ yF ks k=true:=by
     have:¬ (decide (a=k)||yF ks k)=true:=h
     constructor
     ·intro e; exact this (by rw [decide_eq_true e]; rfl)
     ·intro e; exact this (by rw [e,Bool.or_true])
    rw [List.cons_append,List.cons_append]
    show (if a=k' then some b else getK (ks++[k]) (vs++[v]) k')=if k=k' then some v else if a=k' then some b else getK ks vs k'
    rw [ih (by simpa using hl) h2.2]
    by_cases e:a=k'
    ·rw [if_pos e,if_pos e]
     rw [if_neg (fun e'=>h2.1 (e.trans e'.symm))]
    ·rw [if_neg e,if_neg e]
theorem TC {k:Sum Int Str} {ks:List (Sum Int Str)} (k':Sum Int Str):yF (xE ks k) k'=(yF ks k'||decide (k=k')):=by
 unfold xE
 by_cases h:yF ks k=true
 ·rw [if_pos h]
  by_cases e:k=k'
  ·subst e; rw [h]; rfl
  ·rw [decide_eq_false e,Bool.or_false]
 ·rw [if_neg h]
  unfold yF
  rw [List.any_append]
  simp
theorem WA {α:Type}:∀ {ks:List (Sum Int Str)} {us:List α} {as:List (Sum Int Str)} {vs:List α},ks.length=us.length->∀ k,yF (yT as vs ks us).1 k=(yF as k||yF ks k)
 | [],us,as,vs,_,k=>by
  show yF as k=(yF as k||false)
  rw [Bool.or_false]
 | a::ks,[],_,_,h,_=>by cases h
 | a::ks,u::us,as,vs,h,k=>by
  show yF (yT (xE as a) (xI as vs a u) ks us).1 k=_
  rw [WA (by simpa using h),TC]
  show _=(yF as k||(decide (a=k)||yF ks k))
  rw [Bool.or_assoc]
theorem g3 (xs:List D):xM (.lst xs) (.lst [])=some (.bl (!xs.isEmpty)):=by
 cases xs with
 | nil=>exact QF (d:=.lst []) rfl
 | cons x r=>
  have e:zk (.lst (x::r)) (.lst [])=false:=by unfold zk; unfold dEqs; rfl
  show (some (zk (.lst (x::r)) (.lst []))).bind _=_
  rw [e]
  rfl
theorem Xg:∀ (n:Nat) {l:List Nat},l.Nodup->(∀ x∈l,x<n)->l.length<=n
 | 0,l,_,h=>by
  cases l with
  | nil=>exact Nat.le_refl _
  | cons x r=>exact absurd (h x (List.mem_cons_self ..)) (Nat.not_lt_zero _)
 | n+1,l,hd,h=>by
  by_cases hm:n∈l
  ·have h1:=Xg n (hd.erase n) fun x hx=>by
    have:=(hd.mem_erase_iff).mp hx
    have:=h x this.2
    omega
   rw [List.length_erase_of_mem hm] at h1
   omega
  ·have h1:=Xg n hd fun x hx=>by
    have h2:=h x hx
    have h3:x≠n:=fun e=>hm (e ▸ hx)
    omega
   omega
theorem WZ {x y:D} {b:Bool} (h:zm x y=some (.bl b)):xM x y=some (.bl (!b)):=by
 unfold zm at h
 unfold xM
 cases e:uM x y with
 | none=>rw [e] at h; cases h
 | some k=>
  rw [e] at h
  cases h
  rfl
end L3
namespace L3
open PySem
theorem OH {i:Int} {m:Nat} (h:xH i<=m):i.natAbs<2 ^ m:=by
 by_cases c:i=0
 ·subst c
  exact Nat.pow_pos (by decide)
 ·have e:xH i=i.natAbs.log2+1:=by
   show (if (i == 0)=true then 0 else i.natAbs.log2+1)=_
   rw [if_neg (by simpa using c)]
  exact (Nat.log2_lt (by omega)).mp (by omega)
theorem OG {i:Int} {m:Nat} (h:i.natAbs<2 ^ m):xH i<=m:=by
 by_cases c:i=0
 ·subst c
  exact Nat.zero_le _
 ·have e:xH i=i.natAbs.log2+1:=by
   show (if (i == 0)=true then 0 else i.natAbs.log2+1)=_
   rw [if_neg (by simpa using c)]
  rw [e]
  exact (Nat.log2_lt (by omega)).mpr h
theorem OX {ns:List Int} {M:Nat} (hb:∀ m∈ns,xH m<=M) (k:Int):xH (jf ns k)<=M:=by
 unfold jf
 rw [List.getD_eq_getElem?_getD]
 cases e:ns[k.toNat]? with
 | none=>exact Nat.zero_le _
 | some m=>exact hb m (List.mem_of_getElem? e)
end L3
namespace L3
open PySem
noncomputable def ZT:FS:=
 (zE (zS 2 (e2 yO (e2 yO (e2 yO (e2 Y2 (zX p8 (zB (z6 0) (zB (z6 1) zD))) (eC (.int 48271))) (e2 pW (eC (.int 104729)) (z6 1))) (e2 pW (eC (.int 7919)) (eL xL (zB (z6 0) zD)))) (eC (.int 1))))
  (ya (e2 yR (e2 Y2 (e2 yR (e2 W1 (z6 2) (z6 2)) (eC (.int 2147483647))) (eC (.int 2003))) (eC (.int 2147483629)))))
noncomputable def wC:List D->Option (Bool×D):=FR 2 3 ZT
theorem Ci:∀ ds r,wC ds=some r->ds.length=2/\zc 3 ZT ds=some r:=yK
theorem LW (x0 x1:D):wC [x0,x1]=zc 3 ZT [x0,x1]:=rfl
theorem Ms {c k l:Int} {M:Nat} (hM:4<=M) (hc:xH c<=M) (k0:0<=k) (k1:k<100) (l0:0<=l) (l1:l<=63):xH (c*48271+104729*k+7919*l+1)<=M+20:=by
 have h1:=OH hc
 have h2:2 ^ 4<=2 ^ M:=Nat.pow_le_pow_right (by decide) hM
 refine OG ?_
 rw [Nat.pow_add]
 generalize 2 ^ M=P at h1 h2
 have h3:(2:Nat) ^ 20=1048576:=by decide
 have h4:(2:Nat) ^ 4=16:=by decide
 rw [h3]
 rw [h4] at h2
 omega
theorem j0 {ns:List Int} (hl:ns.length<=63) (hb:∀ m∈ns,xH m<=1048576) {k:Int} (k0:0<=k) (k1:k<100):∃ m:Int,0<=m/\m<2147483629/\wC [.lst (ns.map D.int),.int k]=some (false,.int m):=by
 have hc:=OY ns (k:=k) k0
 have cb:=OX hb k
 generalize jf ns k=c at hc cb
 have mb:=Ms (M:=1048576) (l:=(ns.length:Int)) (by decide) cb k0 k1 (by omega) (by omega)
 have g1:decide (xH (c*48271+104729*k+7919*(ns.length:Int)+1)+xH (c*48271+104729*k+7919*(ns.length:Int)+1)<=134217728)=true:=decide_eq_true (by omega)
 have g2:tj 48271=true/\tj 104729=true/\tj 7919=true/\tj 2003=true:=⟨by decide,by decide,by decide,by decide⟩
 have ai:∀ {i j:Int},yO (.int i) (.int j)=some (.int (i+j)):=rfl
 refine ⟨(c*48271+104729*k+7919*(ns.length:Int)+1)*(c*48271+104729*k+7919*(ns.length:Int)+1) % 2147483647*2003 % 2147483629,Int.emod_nonneg _ (by decide),Int.emod_lt_of_pos _ (by decide),?_⟩
 rw [LW]
 unfold ZT
 simp only [shx,Nat.reduceAdd,Nat.reduceSub,hc,List.length_map,ai,g2,W1,g1,decide_true,Int.reduceLT]
end L3
namespace L3
open PySem
inductive we:D->Prop
 | stop:we (.tup [.str "stop"])
 | imm {w:Str} {d n:Int} (hw:w = "set" \/ w = "high") (d0:0<=d) (d1:d<8) (n0:0<=n) (n1:n<65536):we (.tup [.str w,.int d,.int n])
 | two {w:Str} {d s:Int} (hw:w = "copy" \/ w = "add" \/ w = "addc" \/ w = "sub" \/ w = "subc" \/ w = "and" \/ w = "or" \/ w = "xor" \/ w = "test") (d0:0<=d) (d1:d<8) (s0:0<=s) (s1:s<8):we (.tup [.str w,.int d,.int s])
 | mov {w:Str} {d n:Int} (hw:w = "left" \/ w = "right") (d0:0<=d) (d1:d<8) (n0:0<=n) (n1:n<32):we (.tup [.str w,.int d,.int n])
 | mem {w:Str} {d s n:Int} (hw:w = "load" \/ w = "store" \/ w = "loadw" \/ w = "storew") (d0:0<=d) (d1:d<8) (s0:0<=s) (s1:s<8) (n0:0<=n) (n1:n<256):we (.tup [.str w,.int d,.int s,.int n])
inductive XQ (m:Int):D->Prop
 | jump {p:Int} (p0:0<=p) (p1:p<=m):XQ m (.tup [.str "jump",.int p])
 | cond {w k:Str} {p:Int} (hw:w = "when" \/ w = "unless") (hk:k = "carry" \/ k = "nought" \/ k = "sign") (p0:0<=p) (p1:p<=m):XQ m (.tup [.str w,.str k,.int p])
noncomputable def Iw (m:Int) (d:D):Prop:=we d\/XQ m d
noncomputable def yb:D->Bool
 | .tup (.str w::_)=>w == "jump" || w == "when" || w == "unless"
 | _=>false
noncomputable def Tw:D->D
 | .tup xs=>(wN xs (-1)).getD .non
 | _=>.non
noncomputable def MM:D:=.tup [.str "jump",.str "when",.str "unless"]
theorem gF {d:D} (h:we d):∃ w,zG d (.int 0)=some (.str w)/\yA (.str w) MM=some (.bl false)/\zm (.str w) (.str "label")=some (.bl false)/\yb d=false/\vb 5 d=true:=by
 cases h with
 | stop=>exact ⟨_,rfl,rfl,rfl,rfl,rfl⟩
 | imm hw=>rcases hw with rfl | rfl<;>exact ⟨_,rfl,rfl,rfl,rfl,rfl⟩
 | two hw=>rcases hw with rfl | rfl | rfl | rfl | rfl | rfl | rfl | rfl | rfl<;>exact ⟨_,rfl,rfl,rfl,rfl,rfl⟩
 | mov hw=>rcases hw with rfl | rfl<;>exact ⟨_,rfl,rfl,rfl,rfl,rfl⟩
 | mem hw=>rcases hw with rfl | rfl | rfl | rfl<;>exact ⟨_,rfl,rfl,rfl,rfl,rfl⟩
noncomputable def zR:D->Bool
 | .tup (.str w::_)=>w == "label"
 | _=>false
noncomputable def yM (t:Str):D:=.tup [.str "label",.str t]
theorem Yr {m:Int} {d:D} (h:Iw m d):∃ w,zG d (.int 0)=some (.str w)/\zm (.str w) (.str "label")=some (.bl false)/\zR d=false/\vb 5 d=true:=by
 rcases h with h | h
 ·cases h with
  | stop=>exact ⟨_,rfl,rfl,rfl,rfl⟩
  | imm hw=>rcases hw with rfl | rfl<;>exact ⟨_,rfl,rfl,rfl,rfl⟩
  | two hw=>rcases hw with rfl | rfl | rfl | rfl | rfl | rfl | rfl | rfl | rfl<;>exact ⟨_,rfl,rfl,rfl,rfl⟩
  | mov hw=>rcases hw with rfl | rfl<;>exact ⟨_,rfl,rfl,rfl,rfl⟩
  | mem hw=>rcases hw with rfl | rfl | rfl | rfl<;>exact ⟨_,rfl,rfl,rfl,rfl⟩
 ·cases h with
  | jump=>exact ⟨_,rfl,rfl,rfl,rfl⟩
  | cond hw hk=>rcases hw with rfl | rfl<;>rcases hk with rfl | rfl | rfl<;>exact ⟨_,rfl,rfl,rfl,rfl⟩
noncomputable def qb (t:Str):D->Bool
 | .tup [_,.str u]=>u == t
 | _=>false
noncomputable def xY (t:Str) (s:Nat×Option Nat) (d:D):Nat×Option Nat:=match zR d with
 | true=>(s.1,match qb t d with
  | true=>some s.1
  | false=>s.2)
 | false=>(s.1+1,s.2)
noncomputable def yV (t:Str) (L:List D):Nat×Option Nat:=L.foldl (xY t) (0,none)
theorem Q_ (t:Str) (L:List D) (d:D):yV t (L++[d])=xY t (yV t L) d:=by
 unfold yV
 rw [List.foldl_append]
 rfl
theorem Yk (t:Str):∀ (L:List D) (s:Nat×Option Nat),(L.foldl (xY t) s).1=s.1+(L.filter fun d=>!zR d).length
 | [],_=>rfl
 | d::L,s=>by
  rw [List.foldl_cons,Yk t L]
  unfold xY
  cases h:zR d with
  | true=>rw [List.filter_cons_of_neg (by rw [h]; decide)]
  | false=>
   rw [List.filter_cons_of_pos (by rw [h]; rfl),List.length_cons]
   show s.1+1+_=_
   omega
theorem Qy (t u:Str) (L:List D):(yV t (L++[yM u])).2=if u=t then some (L.filter fun d=>!zR d).length else (yV t L).2:=by
 rw [Q_]
 have h:=Yk t L (0,none)
 show (match (u == t) with | true=>some (yV t L).1 | false=>(yV t L).2)=_
 by_cases e:u=t
 ·rw [if_pos e,beq_iff_eq.mpr e]
  show some (yV t L).1=_
  rw [show (yV t L).1=_ from h,Nat.zero_add]
 ·rw [if_neg e,beq_eq_false_iff_ne.mpr e]
theorem Qz {t:Str} {L:List D} {d:D} (h:zR d=false):(yV t (L++[d])).2=(yV t L).2:=by
 rw [Q_]
 unfold xY
 rw [h]
theorem uq {L:List D} {r:D} (h:L.length<=1000):wG (.lst L) r=some (.lst (L++[r])):=by
 show (if L.length<zu then _ else _)=_
 rw [if_pos (by show _<16777216; omega)]
inductive zw:D->Prop
 | label (t:Str):zw (yM t)
 | plain {d:D}:we d->zw d
 | jump (t:Str):zw (.tup [.str "jump",.str t])
 | cond {w k:Str} (t:Str) (hw:w = "when" \/ w = "unless") (hk:k = "carry" \/ k = "nought" \/ k = "sign"):zw (.tup [.str w,.str k,.str t])
theorem qU {d:D} (h:zw d):∃ w,zG d (.int 0)=some (.str w)/\zm (.str w) (.str "label")=some (.bl (zR d))/\vb 5 d=true:=by
 cases h with
 | label=>exact ⟨_,rfl,rfl,rfl⟩
 | plain h=>
  obtain ⟨w,a,b,c,e⟩:=Yr (m:=0) (.inl h)
  exact ⟨w,a,by rw [c]; exact b,e⟩
 | jump=>exact ⟨_,rfl,rfl,rfl⟩
 | cond t hw hk=>rcases hw with rfl | rfl<;>rcases hk with rfl | rfl | rfl<;>exact ⟨_,rfl,rfl,rfl⟩
theorem Uj {R:D->D->Prop}:∀ {xs ys:List D},ub R xs ys->xs.length=ys.length
 | _,_,.nil=>rfl
 | _,_,.cons _ r=>by rw [List.length_cons,List.length_cons,Uj r]
theorem jg {R:D->D->Prop}:∀ {xs ys:List D},ub R xs ys->∀ y∈ys,∃ x∈xs,R x y
 | _,_,.nil,_,h=>by cases h
 | x::xs,y::ys,.cons r rs,z,hz=>by
  rcases List.mem_cons.mp hz with rfl | hz
  ·exact ⟨x,List.mem_cons_self ..,r⟩
  ·obtain ⟨w,hw,h⟩:=jg rs z hz
   exact ⟨w,List.mem_cons_of_mem _ hw,h⟩
theorem Uk {R:D->D->Prop}:∀ {xs ys:List D},xs.length=ys.length->(∀ (i:Nat) x y,xs[i]?=some x->ys[i]?=some y->R x y)->ub R xs ys
 | [],[],_,_=>.nil
 | [],_::_,h,_=>by cases h
 | _::_,[],h,_=>by cases h
 | x::xs,y::ys,h,r=>.cons (r 0 x y rfl rfl) (Uk (by simpa using h) fun i a b ha hb=>r (i+1) a b (by simpa using ha) (by simpa using hb))
inductive vV (N:List Str):D->Prop
 | plain {d:D}:we d->vV N d
 | jump {t:Str} (ht:t∈N):vV N (.tup [.str "jump",.str t])
 | cond {w k t:Str} (hw:w = "when" \/ w = "unless") (hk:k = "carry" \/ k = "nought" \/ k = "sign") (ht:t∈N):vV N (.tup [.str w,.str k,.str t])
noncomputable def Z9 (N:List Str) (d:D):Prop:=vV N d\/∃ t∈N,d=yM t
theorem V8 {N:List Str} {d:D} (h:vV N d):zw d/\zR d=false:=by
 cases h with
 | plain h=>
  obtain ⟨_,_,_,l,_⟩:=Yr (m:=0) (.inl h)
  exact ⟨.plain h,l⟩
 | jump ht=>exact ⟨.jump _,rfl⟩
 | cond hw hk ht=>exact ⟨.cond _ hw hk,by rcases hw with rfl | rfl<;>rfl⟩
theorem MD {N:List Str} {d:D} (h:Z9 N d):zw d:=by
 rcases h with h | ⟨t,_,rfl⟩
 ·exact (V8 h).1
 ·exact .label t
end L3
namespace L3
open PySem
noncomputable def ZN:FS:=
 (ya (e2 zm (e2 zG (z6 0) (eC (.int 0))) (eC (.str "label"))))
noncomputable def uD:List D->Option (Bool×D):=FR 1 1 ZN
theorem CZ:∀ ds r,uD ds=some r->ds.length=1/\zc 1 ZN ds=some r:=yK
theorem LQ (x0:D):uD [x0]=zc 1 ZN [x0]:=rfl
noncomputable def Il:FE:=(z6 1)
noncomputable def Vt:FT:=(q5 (tE (zX uD (zB (z6 1) zD))))
noncomputable def Zl:FS:=
 (xq (xP 1 (xc (z6 0)) (zh 1) Vt Il))
noncomputable def x9:List D->Option (Bool×D):=FR 1 1 Zl
theorem E7:∀ ds r,x9 ds=some r->ds.length=1/\zc 1 Zl ds=some r:=yK
theorem Lo (x0:D):x9 [x0]=zc 1 Zl [x0]:=rfl
theorem WK {d:D} (h:zw d):uD [d]=some (false,.bl (zR d)):=by
 obtain ⟨w,a,b,_⟩:=qU h
 rw [LQ]
 unfold ZN
 simp! [a,b]
theorem tu {items:List D} (h:∀ d∈items,zw d):x9 [.lst items]=some (true,.lst (items.filter fun d=>!zR d)):=by
 have e:=qY (g:=zh 1) (c:=Vt) (e:=Il) (σ:=[some (false,.lst items),none]) (fun d=>!zR d) id (ds:=items) fun d hd=>by
  have hf:=WK (h d hd)
  refine ⟨_,rfl,?_,fun _=>rfl⟩
  unfold Vt
  simp! [hf]
 rw [List.map_id] at e
 rw [Lo]
 unfold Zl
 simp! [e]
end L3
namespace L3
open PySem
noncomputable def ZM:FS:=
 (ya (e2 yA (e2 zG (z6 0) (eC (.int 0))) (eC Y7)))
noncomputable def uC:List D->Option (Bool×D):=FR 1 1 ZM
theorem CY:∀ ds r,uC ds=some r->ds.length=1/\zc 1 ZM ds=some r:=yK
theorem LP (x0:D):uC [x0]=zc 1 ZM [x0]:=rfl
noncomputable def YH:FS:=(yP (tE (zX uD (zB (z6 3) zD)))
     (qm 1 (e2 zG (z6 3) (eC (.int 1))) (z6 2))
     (zS 2 (e2 (xt fun i j=>i+j) (z6 2) (eC (.int 1)))))
noncomputable def ZO:FS:=
 (zE (vO 1 (eC (.dic [] [])))
  (zE (zS 2 (eC (.int 0)))
  (zE (vA (xc (z6 0)) (zh 3)
   YH)
  (uU 1))))
noncomputable def ud:List D->Option (Bool×D):=FR 1 4 ZO
theorem Ca:∀ ds r,ud ds=some r->ds.length=1/\zc 4 ZO ds=some r:=yK
theorem LR (x0:D):ud [x0]=zc 4 ZO [x0]:=rfl
theorem WJ {d:D} (h:zw d):uC [d]=some (false,.bl (yb d)):=by
 have:∃ w,zG d (.int 0)=some (.str w)/\yA (.str w) Y7=some (.bl (yb d)):=by
  cases h with
  | label=>exact ⟨_,rfl,rfl⟩
  | plain h=>
   obtain ⟨w,a,b,_,c,_⟩:=gF h
   exact ⟨w,a,by rw [c]; exact b⟩
  | jump=>exact ⟨_,rfl,rfl⟩
  | cond t hw hk=>rcases hw with rfl | rfl<;>exact ⟨_,rfl,rfl⟩
 obtain ⟨w,a,b⟩:=this
 rw [LP]
 unfold ZM
 simp! [a,b]
theorem YB {d:D} (h:zw d) (hl:zR d=true):∃ t,d=yM t:=by
 cases h with
 | label t=>exact ⟨t,rfl⟩
 | plain h=>
  obtain ⟨_,_,_,z,_⟩:=Yr (m:=0) (.inl h)
  rw [z] at hl
  cases hl
 | jump=>cases hl
 | cond t hw hk=>rcases hw with rfl | rfl<;>cases hl
theorem Ma {items:List D} (h:∀ d∈items,zw d) (hl:items.length<=1000):∃ ks vs,ud [.lst items]=some (true,.dic ks vs)/\ks.length=vs.length/\∀ t,getK ks vs (.inr t)=((yV t items).2).map fun n:Nat=>D.int n:=by
 obtain ⟨σ',e,ks,vs,x3,a1,a2,a3,rfl⟩:=t5 (g:=zh 3) (b:=YH) (fun i σ=>∃ ks vs x3,ks.length=vs.length/\ks.length<=i/\(∀ t,getK ks vs (.inr t)=((yV t (items.take i)).2).map fun n:Nat=>D.int n)/\σ=[some (false,.lst items),some (true,.dic ks vs),some (false,.int (((items.take i).filter fun d=>!zR d).length:Nat)),x3]) (ds:=items)
  (σ:=[some (false,.lst items),some (true,.dic [] []),some (false,.int 0),none]) 0 ⟨[],[],none,rfl,Nat.le_refl _,fun t=>rfl,rfl⟩ (by
  rintro i v σ hv ⟨ks,vs,x3,a1,a2,a3,rfl⟩
  rw [Nat.zero_add] at *
  have hi:i<items.length:=(List.getElem?_eq_some_iff.mp hv).1
  have ev:items[i]=v:=(List.getElem?_eq_some_iff.mp hv).2
  have ht:items.take (i+1)=items.take i++[v]:=by rw [List.take_succ_eq_append_getElem hi,ev]
  have hI:=h v (List.mem_of_getElem? hv)
  have hf:=WK hI
  generalize hn:((items.take i).filter fun d=>!zR d).length=n
  cases hL:zR v with
  | true=>
   obtain ⟨u,rfl⟩:=YB hI hL
   rw [hL] at hf
   have i1:zG (yM u) (.int 1)=some (.str u):=rfl
   have kd:uy (.str u)=some (.inr u):=rfl
   have hlim:ks.length<zu:=by show _<16777216; omega
   have hn2:((items.take (i+1)).filter fun d=>!zR d).length=n:=by
    rw [ht,List.filter_append,List.length_append,hn]
    rfl
   have hlk:(xE ks (.inr u)).length<=i+1:=by
    unfold xE
    split
    ·omega
    ·rw [List.length_append]; show _+1<=_; omega
   refine ⟨_,[some (false,.lst items),some (true,.dic (xE ks (.inr u)) (xI ks vs (.inr u) (.int (n:Nat)))),some (false,.int (n:Nat)),some (false,yM u)],rfl,.inl ?_,xE ks (.inr u),xI ks vs (.inr u) (.int (n:Nat)),_,qh a1,hlk,fun t=>?_,by rw [hn2]⟩
   ·unfold YH
    simp! [hf,qm,i1,kd,if_pos hlim]
   ·rw [T5 a1,ht,Qy,hn,a3]
    by_cases e:u=t
    ·rw [if_pos (by rw [e]),if_pos e]
     rfl
    ·rw [if_neg (fun z=>e (Sum.inr.inj z)),if_neg e]
  | false=>
   rw [hL] at hf
   have hn2:((items.take (i+1)).filter fun d=>!zR d).length=n+1:=by
    rw [ht,List.filter_append,List.length_append,hn,List.filter_cons_of_pos (by rw [hL]; rfl)]
    rfl
   refine ⟨_,[some (false,.lst items),some (true,.dic ks vs),some (false,.int ((n:Nat)+1:Int)),some (false,v)],rfl,.inl ?_,ks,vs,_,a1,by omega,fun t=>?_,by rw [hn2]; rfl⟩
   ·unfold YH
    simp! [hf]
   ·rw [ht,Qz hL,a3])
 rw [Nat.zero_add,List.take_length] at a3
 refine ⟨ks,vs,?_,a1,a3⟩
 rw [LR]
 unfold ZO
 simp! [e]
theorem Tv {items:List D} (h:∀ d∈items,zw d) (hl:items.length<=1000):∃ ks vs,ud [.lst items]=some (true,.dic ks vs)/\∀ t,getK ks vs (.inr t)=((yV t items).2).map fun n:Nat=>D.int n:=by
 obtain ⟨ks,vs,a,_,b⟩:=Ma h hl
 exact ⟨ks,vs,a,b⟩
end L3
namespace L3
open PySem
noncomputable def U4:FS:=
 (zE (zS 0 (yk (zB (eC (.str "set")) (zB (eC (.str "high")) (zB (eC (.str "copy")) (zB (eC (.str "add")) (zB (eC (.str "addc")) (zB (eC (.str "sub")) (zB (eC (.str "subc")) (zB (eC (.str "and")) (zB (eC (.str "or")) (zB (eC (.str "xor")) (zB (eC (.str "test")) (zB (eC (.str "left")) (zB (eC (.str "right")) zD)))))))))))))))
  (zE (zS 0 (e2 yO (z6 0) (yk (zB (eC (.str "load")) (zB (eC (.str "store")) (zB (eC (.str "loadw")) (zB (eC (.str "storew")) (zB (eC (.str "jump")) (zB (eC (.str "when")) (zB (eC (.str "unless")) (zB (eC (.str "stop")) zD)))))))))))
  (ya (e2 yO (z6 0) (yk (zB (eC (.str "set")) (zB (eC (.str "copy")) (zB (eC (.str "add")) (zB (eC (.str "when")) (zB (eC (.str "unless")) (zB (eC (.str "test")) (zB (eC (.str "sub")) zD))))))))))))
noncomputable def pE:List D->Option (Bool×D):=FR 0 1 U4
theorem Cq:∀ ds r,pE ds=some r->ds.length=0/\zc 1 U4 ds=some r:=yK
noncomputable def uJ:FS:=
 (zE (zS 3 (e2 zG (zX pE zD) (e2 yR (z6 0) (eC (.int 28)))))
  (zE (zS 0 (e2 xm (z6 0) (eC (.int 28))))
  (zE (zS 4 (e2 yR (z6 0) (z6 2)))
  (zE (zS 5 (e2 yR (e2 xm (z6 0) (eC (.int 8))) (z6 2)))
  (zE (zS 6 (e2 xm (z6 0) (eC (.int 64))))
  (zE (yP (tE (e2 yA (z6 3) (yu (zB (eC (.str "set")) (zB (eC (.str "high")) zD)))))
   (ya (yu (zB (z6 3) (zB (z6 4) (zB (e2 zG (yk (zB (e2 yR (z6 6) (eC (.int 65536))) (zB (e2 yR (z6 6) (eC (.int 3))) zD))) (e2 yR (e2 xm (z6 0) (eC (.int 32))) (eC (.int 2)))) zD)))))
   yW)
  (zE (yP (tE (e2 yA (z6 3) (yu (zB (eC (.str "left")) (zB (eC (.str "right")) zD)))))
   (ya (yu (zB (z6 3) (zB (z6 4) (zB (e2 zG (yk (zB (e2 yR (z6 6) (eC (.int 32))) (zB (e2 yR (z6 6) (eC (.int 3))) zD))) (e2 yR (e2 xm (z6 0) (eC (.int 32))) (eC (.int 2)))) zD)))))
   yW)
  (zE (yP (tE (e2 yA (z6 3) (yu (zB (eC (.str "load")) (zB (eC (.str "store")) (zB (eC (.str "loadw")) (zB (eC (.str "storew")) zD)))))))
   (ya (yu (zB (z6 3) (zB (z6 4) (zB (z6 5) (zB (e2 zG (yk (zB (e2 yR (z6 6) (eC (.int 256))) (zB (e2 yR (z6 6) (eC (.int 4))) zD))) (e2 yR (e2 xm (z6 0) (eC (.int 32))) (eC (.int 2)))) zD))))))
   yW)
  (zE (yP (tE (e2 zm (z6 3) (eC (.str "jump"))))
   (ya (yu (zB (z6 3) (zB (e2 zG (z6 1) (e2 yR (z6 6) (eL xL (zB (z6 1) zD)))) zD))))
   yW)
  (zE (yP (tE (e2 yA (z6 3) (yu (zB (eC (.str "when")) (zB (eC (.str "unless")) zD)))))
   (ya (yu (zB (z6 3) (zB (e2 zG (yk (zB (eC (.str "carry")) (zB (eC (.str "nought")) (zB (eC (.str "sign")) zD)))) (e2 yR (z6 5) (eC (.int 3)))) (zB (e2 zG (z6 1) (e2 yR (z6 6) (eL xL (zB (z6 1) zD)))) zD)))))
   yW)
  (zE (yP (tE (e2 zm (z6 3) (eC (.str "stop"))))
   (ya (yu (zB (z6 3) zD)))
   yW)
  (ya (yu (zB (z6 3) (zB (z6 4) (zB (z6 5) zD))))))))))))))))
noncomputable def pC:List D->Option (Bool×D):=FR 3 7 uJ
theorem Cn:∀ ds r,pC ds=some r->ds.length=3/\zc 7 uJ ds=some r:=yK
theorem qT (x0 x1 x2:D):pC [x0,x1,x2]=zc 7 uJ [x0,x1,x2]:=rfl
noncomputable def JR:FA:=(vI (eC (.int 0)) (z6 3))
noncomputable def XD:FE:=(e2 zG (z6 2) (e2 yR (e2 xm (e2 xm (z6 0) (eC (.int 8))) (e2 zG (yk (fun _=>some (List.map D.int [1,26,676,17576,3,5,7]))) (z6 6))) (eC (.int 26))))
noncomputable def JS:FA:=(vI (eC (.int 0)) (z6 1))
noncomputable def Ve:FE:=(e2 yO (e2 yO (vj (z6 4) vn (vo (z6 5))) (e2 zG (z6 2) (e2 yR (e2 yO (e2 xm (z6 0) (eC (.int 512))) (z6 6)) (eC (.int 26))))) (vj (z6 4) (vo (z6 5)) vn))
noncomputable def ZU:FS:=
 (zE (zS 2 (eC (.str "abcdefghijklmnopqrstuvwxyz")))
  (zE (zS 3 (e2 yR (z6 0) (eC (.int 8))))
  (zE (zS 4 (e2 Xz (eC (.str "")) (xP 1 JR (zh 6) xV XD)))
  (zE (zS 5 (e2 yR (e2 xm (z6 0) (eC (.int 64))) (e2 yO (z6 3) (eC (.int 1)))))
  (zE (zS 4 (vj (z6 4) vn (vo (eC (.int 7)))))
  (xq (xP 1 JS (zh 6) xV Ve)))))))
noncomputable def pA:List D->Option (Bool×D):=FR 2 6 ZU
theorem Cj:∀ ds r,pA ds=some r->ds.length=2/\zc 6 ZU ds=some r:=yK
theorem LX (x0 x1:D):pA [x0,x1]=zc 6 ZU [x0,x1]:=rfl
noncomputable def JT:FA:=(vI (eC (.int 0)) (z6 3))
noncomputable def Vf:FE:=(zX pC (zB (zX wC (zB (z6 0) (zB (e2 yO (e2 yO (z6 1) (eC (.int 3))) (z6 9)) zD))) (zB (z6 4) (zB (z6 5) zD))))
noncomputable def JU:FA:=(vI (eC (.int 0)) (e2 yO (z6 3) (eC (.int 1))))
noncomputable def Vg:FE:=(z6 9)
noncomputable def XG:FT:=(tE (e2 zm (e2 zG (z6 9) (e1 vk (eC (.int 1)))) (e2 zG (z6 4) (z6 7))))
noncomputable def YJ:FS:=(zE (yP (qA (tE (e2 xM (xP 1 (xc (z6 6)) (zh 9) XG Vg) (yk zD))) (tE (e2 zm (e2 yR (e2 xm (zX wC (zB (z6 0) (zB (e2 yO (z6 1) (eC (.int 2))) zD))) (eC (.int 2))) (eC (.int 5))) (z6 7))))
     (wS 8 wG (yu (zB (eC (.str "label")) (zB (e2 zG (z6 4) (z6 7)) zD))))
     yW)
    (yP (tE (e2 (uL fun i j=>decide (i<j)) (z6 7) (z6 3)))
     (wS 8 wG (e2 zG (z6 6) (z6 7)))
     yW))
noncomputable def ZW:FS:=
 (zE (zS 3 (e2 yR (zX wC (zB (z6 0) (zB (z6 1) zD))) (e2 yO (z6 2) (eC (.int 1)))))
  (zE (zS 4 (zX pA (zB (zX wC (zB (z6 0) (zB (e2 yO (z6 1) (eC (.int 1))) zD))) (zB (e2 yO (z6 3) (eC (.int 1))) zD))))
  (zE (zS 5 (e2 zG (yk (zB (eC (.int 3)) (zB (eC (.int 8)) zD))) (e2 yR (zX wC (zB (z6 0) (zB (e2 yO (z6 1) (eC (.int 2))) zD))) (eC (.int 2)))))
  (zE (zS 6 (xP 1 JT (zh 9) xV Vf))
  (zE (vO 8 (yk zD))
  (zE (vA JU (zh 7)
   YJ)
  (uU 8)))))))
noncomputable def qH:List D->Option (Bool×D):=FR 3 9 ZW
theorem Cl:∀ ds r,qH ds=some r->ds.length=3/\zc 9 ZW ds=some r:=yK
theorem LZ (x0 x1 x2:D):qH [x0,x1,x2]=zc 9 ZW [x0,x1,x2]:=rfl
theorem Oh (a b:Str):(a++b).cps.toList=a.cps.toList++b.cps.toList:=Array.toList_append
theorem Zt (z:Str) (lo hi:Option Int):(L2.cutS z lo hi).length<=z.length:=cut_len z lo hi
theorem Oi (z:Str):(L2.cutS z none (some 7)).length<=7:=by
 show (((z.cps.toList.drop 0).take (HT.sIx z.length z.length (some ((7:Nat):Int)) - 0)).toArray).size<=7
 rw [HT.sIx_nat,List.size_toArray,List.length_take]
 omega
theorem B0 {m:Int} (m0:0<=m) {many:Int} (n0:0<=many) (n1:many<=20):∃ N:List Str,N.length=many.toNat/\N.Nodup/\(∃ ln:Nat,ln<=100/\∀ t∈N,t.length=ln)/\pA [.int m,.int many]=some (true,.lst (N.map D.str)):=by
 have r1:JR [some (false,.int m),some (false,.int many),some (false,.str "abcdefghijklmnopqrstuvwxyz"),some (false,.int (m % 8)),none,none]=some (xD (m % 8).toNat):=uT (n:=m % 8) rfl (by omega)
 obtain ⟨ts,e1,ht⟩:∃ ts:List Str,xX (zh 6) xV XD [some (false,.int m),some (false,.int many),some (false,.str "abcdefghijklmnopqrstuvwxyz"),some (false,.int (m % 8)),none,none,none] (xD (m % 8).toNat)=some (ts.map D.str)/\∀ t∈ts,t.length=1:=by
  obtain ⟨xs,ex,ea⟩:=WS (g:=zh 6) (e:=XD) (σ:=[some (false,.int m),some (false,.int many),some (false,.str "abcdefghijklmnopqrstuvwxyz"),some (false,.int (m % 8)),none,none,none]) (fun _ y=>∃ t:Str,y=.str t/\t.length=1) (ds:=xD (m % 8).toNat) fun d hd=>by
   obtain ⟨i,hi,rfl⟩:=Vb hd
   obtain ⟨p,p0,p1,ep⟩:∃ p:Int,0<p/\p<20000/\zG (.lst (List.map D.int [1,26,676,17576,3,5,7])) (.int (i:Int))=some (.int p):=by
    rcases (show i=0\/i=1\/i=2\/i=3\/i=4\/i=5\/i=6 by omega) with rfl | rfl | rfl | rfl | rfl | rfl | rfl<;>exact ⟨_,by decide,by decide,rfl⟩
   have a:=Xa (k:=m / 8 / p % 26) (by omega) (by omega)
   have g1:decide (0<p)=true:=decide_eq_true p0
   have g2:decide (p<18446744073709551616)=true:=decide_eq_true (by omega)
   refine ⟨_,.str (lt (m / 8 / p % 26)),rfl,?_,_,rfl,jx _⟩
   unfold XD
   generalize List.map D.int [1,26,676,17576,3,5,7]=PS at ep
   simp! [ep,g1,g2,a,Bool.true_and]
  have:∃ ts:List Str,xs=ts.map D.str/\∀ t∈ts,t.length=1:=by
   have h:∀ x∈xs,∃ t:Str,x=.str t/\t.length=1:=fun x hx=>by
    obtain ⟨_,_,r⟩:=jg ea x hx
    exact r
   clear ex ea
   induction xs with
   | nil=>exact ⟨[],rfl,fun _ h=>by cases h⟩
   | cons x xs ih=>
    obtain ⟨t,rfl,l⟩:=h x (List.mem_cons_self ..)
    obtain ⟨ts,rfl,ls⟩:=ih fun y hy=>h y (List.mem_cons_of_mem _ hy)
    exact ⟨t::ts,rfl,fun y hy=>by
     rcases List.mem_cons.mp hy with rfl | hy
     ·exact l
     ·exact ls y hy⟩
  obtain ⟨ts,rfl,h⟩:=this
  exact ⟨ts,ex,h⟩
 have tl:ts.length=(m % 8).toNat:=by
  have:=congrArg (fun o=>(o.getD []).length) e1
  have h2:∀ {g:FG} {e:FE} {σ:zd} {ds xs:List D},xX g xV e σ ds=some xs->xs.length=ds.length:=fun {g e σ ds}=>by
   induction ds with
   | nil=>intro xs h; cases h; rfl
   | cons d ds ih=>
    intro xs h
    obtain ⟨σ1,h1,h⟩:=zJ (show (g d σ).bind _=some xs from h)
    obtain ⟨x,h3,h⟩:=zJ (show (e σ1).bind _=some xs from h)
    obtain ⟨ys,h4,h⟩:=zJ h
    cases h
    rw [List.length_cons,List.length_cons,ih h4]
  have:=h2 e1
  rw [List.length_map,tM] at this
  exact this
 have sm:∀ {l:List Str},(∀ t∈l,t.length=1)->(l.map (·.length)).sum=l.length:=fun {l}=>by
  induction l with
  | nil=>intro _; rfl
  | cons x l ih=>
   intro h
   rw [List.map_cons,List.sum_cons,ih fun y hy=>h y (List.mem_cons_of_mem _ hy),h x (List.mem_cons_self ..),List.length_cons]
   omega
 have e0:("" : Str).length=0:=rfl
 have jn:=ML (sep := "") (ts:=ts) (by rw [sm ht,e0,tl]; omega)
 generalize Builtin.Str.glued "" ts=W0 at jn
 obtain ⟨W,hW⟩:∃ W:Str,W=L2.cutS W0 none (some 7):=⟨_,rfl⟩
 have lW:W.length<=7:=by rw [hW]; exact Oi W0
 have g1:decide (0<m % 8+1)=true:=decide_eq_true (by omega)
 obtain ⟨sp,hsp⟩:∃ sp:Int,sp=m / 64 % (m % 8+1):=⟨_,rfl⟩
 have r2:JS [some (false,.int m),some (false,.int many),some (false,.str "abcdefghijklmnopqrstuvwxyz"),some (false,.int (m % 8)),some (false,.str W),some (false,.int sp)]=some (xD many.toNat):=uT (n:=many) rfl (by omega)
 have e2:=pw (g:=zh 6) (e:=Ve) (σ:=[some (false,.int m),some (false,.int many),some (false,.str "abcdefghijklmnopqrstuvwxyz"),some (false,.int (m % 8)),some (false,.str W),some (false,.int sp),none]) (fun d=>match d with | .int j=>D.str (L2.cutS W none (some sp)++lt ((m / 512+j) % 26)++L2.cutS W (some sp) none) | d=>d) (ds:=xD many.toNat) fun d hd=>by
  obtain ⟨i,hi,rfl⟩:=Vb hd
  have a:=Xa (k:=(m / 512+(i:Int)) % 26) (by omega) (by omega)
  have l1:=Zt W none (some sp)
  have l2:=Zt W (some sp) none
  have l3:=jx ((m / 512+(i:Int)) % 26)
  have s1:vj (z6 4) vn (vo (z6 5)) [some (false,.int m),some (false,.int many),some (false,.str "abcdefghijklmnopqrstuvwxyz"),some (false,.int (m % 8)),some (false,.str W),some (false,.int sp),some (false,.int (i:Int))]=some (.str (L2.cutS W none (some sp))):=rfl
  have s2:vj (z6 4) (vo (z6 5)) vn [some (false,.int m),some (false,.int many),some (false,.str "abcdefghijklmnopqrstuvwxyz"),some (false,.int (m % 8)),some (false,.str W),some (false,.int sp),some (false,.int (i:Int))]=some (.str (L2.cutS W (some sp) none)):=rfl
  have ad1:=add_str (a:=L2.cutS W none (some sp)) (b:=lt ((m / 512+(i:Int)) % 26)) (by omega)
  have ad2:=add_str (a:=L2.cutS W none (some sp)++lt ((m / 512+(i:Int)) % 26)) (b:=L2.cutS W (some sp) none) (by rw [YT]; omega)
  refine ⟨_,rfl,?_⟩
  unfold Ve
  simp! [s1,s2,add_int,a,ad1,ad2]
 have w2:(xD many.toNat).map (fun d=>match d with | .int j=>D.str (L2.cutS W none (some sp)++lt ((m / 512+j) % 26)++L2.cutS W (some sp) none) | d=>d)=((List.range many.toNat).map fun j:Nat=>L2.cutS W none (some sp)++lt ((m / 512+(j:Int)) % 26)++L2.cutS W (some sp) none).map D.str:=by
  rw [List.map_map,List.map_map]
  rfl
 rw [w2] at e2
 refine ⟨(List.range many.toNat).map fun j:Nat=>L2.cutS W none (some sp)++lt ((m / 512+(j:Int)) % 26)++L2.cutS W (some sp) none,by rw [List.length_map,List.length_range],?_,⟨(L2.cutS W none (some sp)).length+1+(L2.cutS W (some sp) none).length,?_,fun t ht=>?_⟩,?_⟩
 ·refine List.pairwise_map.mpr (List.Pairwise.imp_of_mem (fun {a b} ha hb hab=>?_) (List.nodup_range (n:=many.toNat)))
  intro h
  have ha:=List.mem_range.mp ha
  have hb:=List.mem_range.mp hb
  have h1:=congrArg (fun z:Str=>z.cps.toList) h
  have lc:∀ x:Int,(lt x).cps.toList=[97+x.toNat]:=fun _=>rfl
  simp only [Oh,lc,List.append_assoc,List.append_cancel_left_eq,List.cons_append,List.nil_append,List.cons.injEq] at h1
  omega
 ·have l1:=Zt W none (some sp)
  have l2:=Zt W (some sp) none
  omega
 ·obtain ⟨j,_,rfl⟩:=List.mem_map.mp ht
  rw [YT,YT,jx]
 ·have sl:Y3 (.str W0) none (some 7)=some (.str W):=by rw [hW]; rfl
  rw [LX]
  unfold ZU
  generalize List.map D.str (List.map (fun j:Nat=>L2.cutS W none (some sp)++lt ((m / 512+(j:Int)) % 26)++L2.cutS W (some sp) none) (List.range many.toNat))=NN at *
  generalize ts.map D.str=TT at *
  simp! [r1,e1,jn,add_int,g1,<- hsp,vj,vo,vn,sl,r2,e2]
noncomputable abbrev Z5:D:=.lst [.str "set",.str "high",.str "copy",.str "add",.str "addc",.str "sub",.str "subc",.str "and",.str "or",.str "xor",.str "test",.str "left",.str "right",.str "load",.str "store",.str "loadw",.str "storew",.str "jump",.str "when",.str "unless",.str "stop",.str "set",.str "copy",.str "add",.str "when",.str "unless",.str "test",.str "sub"]
theorem HX:pE []=some (false,Z5):=by rfl
noncomputable def ZI (w:Str):Prop:=(w = "set" \/ w = "high")\/(w = "left" \/ w = "right")\/(w = "load" \/ w = "store" \/ w = "loadw" \/ w = "storew")\/(w = "copy" \/ w = "add" \/ w = "addc" \/ w = "sub" \/ w = "subc" \/ w = "and" \/ w = "or" \/ w = "xor" \/ w = "test")\/w = "jump" \/ (w = "when" \/ w = "unless")\/w = "stop"
noncomputable def Id (w:Str):Decidable (ZI w):=by unfold ZI; infer_instance
theorem HV:((List.range 28).all fun k:Nat=>match zG Z5 (.int (k:Int)) with
  | some (.str w)=>@decide (ZI w) (Id w)
  | _=>false)=true:=by decide +kernel
theorem HW {v:Int} (h0:0<=v) (h1:v<28):∃ w:Str,ZI w/\zG Z5 (.int v)=some (.str w):=by
 have h:=List.all_eq_true.mp HV v.toNat (List.mem_range.mpr (by omega))
 rw [Int.toNat_of_nonneg h0] at h
 generalize zG Z5 (.int v)=o at h ⊢
 split at h
 ·exact ⟨_,@of_decide_eq_true _ (Id _) h,rfl⟩
 ·cases h
theorem Yi {a b i:Int} (h0:0<=i) (h1:i<2):∃ n,(n=a\/n=b)/\zG (.lst [.int a,.int b]) (.int i)=some (.int n):=by
 rcases (show i=0\/i=1 by omega) with rfl | rfl
 ·exact ⟨a,by simp,rfl⟩
 ·exact ⟨b,by simp,rfl⟩
theorem CS {N:List Str} (hN:N≠[]) {m:Int} (m0:0<=m) {mn:Int} (hm:mn=3\/mn=8):∃ r,vV N r/\pC [.int m,.lst (N.map D.str),.int mn]=some (false,r):=by
 obtain ⟨w,hw,ew⟩:=HW (v:=m % 28) (by omega) (by omega)
 have wF:=HX
 have hp:0<N.length:=List.length_pos_iff.mpr hN
 have g0:decide (0<mn)=true:=decide_eq_true (by omega)
 obtain ⟨q,hq⟩:∃ q:Int,q=m / 28:=⟨_,rfl⟩
 have o0:=Int.emod_nonneg q (show mn≠0 by omega)
 have o1:=Int.emod_lt_of_pos q (show 0<mn by omega)
 have t0:=Int.emod_nonneg (q / 8) (show mn≠0 by omega)
 have t1:=Int.emod_lt_of_pos (q / 8) (show 0<mn by omega)
 obtain ⟨one,h1⟩:∃ z:Int,z=q % mn:=⟨_,rfl⟩
 obtain ⟨two,h2⟩:∃ z:Int,z=q / 8 % mn:=⟨_,rfl⟩
 rw [<- h1] at o0 o1
 rw [<- h2] at t0 t1
 have start:∀ yD:FS,zE (zS 3 (e2 zG (zX pE zD) (e2 yR (z6 0) (eC (.int 28)))))
  (zE (zS 0 (e2 xm (z6 0) (eC (.int 28))))
  (zE (zS 4 (e2 yR (z6 0) (z6 2)))
  (zE (zS 5 (e2 yR (e2 xm (z6 0) (eC (.int 8))) (z6 2)))
  (zE (zS 6 (e2 xm (z6 0) (eC (.int 64)))) yD)))) [some (false,.int m),some (false,.lst (N.map D.str)),some (false,.int mn),none,none,none,none]=yD [some (false,.int q),some (false,.lst (N.map D.str)),some (false,.int mn),some (false,.str w),some (false,.int one),some (false,.int two),some (false,.int (q / 64))]:=fun yD=>by
  generalize N.map D.str=NN at *
  rw [xU (σ':=[some (false,.int m),some (false,.lst NN),some (false,.int mn),some (false,.str w),none,none,none]) (by
   generalize Z5=WD at *
   simp! [wF,ew])]
  rw [xU (σ':=[some (false,.int q),some (false,.lst NN),some (false,.int mn),some (false,.str w),none,none,none]) (by simp! [<- hq])]
  rw [xU (σ':=[some (false,.int q),some (false,.lst NN),some (false,.int mn),some (false,.str w),some (false,.int one),none,none]) (by simp! [g0,<- h1])]
  rw [xU (σ':=[some (false,.int q),some (false,.lst NN),some (false,.int mn),some (false,.str w),some (false,.int one),some (false,.int two),none]) (by simp! [g0,<- h2])]
  rw [xU (σ':=[some (false,.int q),some (false,.lst NN),some (false,.int mn),some (false,.str w),some (false,.int one),some (false,.int two),some (false,.int (q / 64))]) (by simp! [])]
 have nm:∃ t∈N,zG (.lst (N.map D.str)) (.int (q / 64 % (N.length:Int)))=some (.str t):=by
  have a0:=Int.emod_nonneg (q / 64) (show (N.length:Int)≠0 by omega)
  have a1:=Int.emod_lt_of_pos (q / 64) (show 0<(N.length:Int) by omega)
  have hv:(q / 64 % (N.length:Int)).toNat<N.length:=by omega
  exact ⟨N[(q / 64 % (N.length:Int)).toNat],List.getElem_mem hv,vF a0 (by rw [List.getElem?_map,List.getElem?_eq_getElem hv]; rfl)⟩
 obtain ⟨t,ht,et⟩:=nm
 have gN:decide (0<(N.length:Int))=true:=decide_eq_true (by omega)
 rcases hw with hw | hw | hw | hw | hw | hw | hw
 ·obtain ⟨n,hn,en⟩:=Yi (a:=q / 64 % 65536) (b:=q / 64 % 3) (i:=q / 32 % 2) (by omega) (by omega)
  have k1:yA (.str w) (.tup [.str "set",.str "high"])=some (.bl true):=by rcases hw with rfl | rfl<;>rfl
  refine ⟨_,.plain (.imm hw o0 (by omega) (show 0<=n by omega) (by omega)),?_⟩
  rw [qT]
  unfold uJ
  show ((zE _ _ [some (false,.int m),some (false,.lst (N.map D.str)),some (false,.int mn),none,none,none,none]).bind _)=_
  rw [start]
  simp! [k1,en]
 ·obtain ⟨n,hn,en⟩:=Yi (a:=q / 64 % 32) (b:=q / 64 % 3) (i:=q / 32 % 2) (by omega) (by omega)
  have k1:yA (.str w) (.tup [.str "set",.str "high"])=some (.bl false):=by rcases hw with rfl | rfl<;>rfl
  have k2:yA (.str w) (.tup [.str "left",.str "right"])=some (.bl true):=by rcases hw with rfl | rfl<;>rfl
  refine ⟨_,.plain (.mov hw o0 (by omega) (show 0<=n by omega) (by omega)),?_⟩
  rw [qT]
  unfold uJ
  show ((zE _ _ [some (false,.int m),some (false,.lst (N.map D.str)),some (false,.int mn),none,none,none,none]).bind _)=_
  rw [start]
  simp! [k1,k2,en]
 ·obtain ⟨n,hn,en⟩:=Yi (a:=q / 64 % 256) (b:=q / 64 % 4) (i:=q / 32 % 2) (by omega) (by omega)
  have k1:yA (.str w) (.tup [.str "set",.str "high"])=some (.bl false):=by rcases hw with rfl | rfl | rfl | rfl<;>rfl
  have k2:yA (.str w) (.tup [.str "left",.str "right"])=some (.bl false):=by rcases hw with rfl | rfl | rfl | rfl<;>rfl
  have k3:yA (.str w) (.tup [.str "load",.str "store",.str "loadw",.str "storew"])=some (.bl true):=by rcases hw with rfl | rfl | rfl | rfl<;>rfl
  refine ⟨_,.plain (.mem hw o0 (by omega) t0 (by omega) (show 0<=n by omega) (by omega)),?_⟩
  rw [qT]
  unfold uJ
  show ((zE _ _ [some (false,.int m),some (false,.lst (N.map D.str)),some (false,.int mn),none,none,none,none]).bind _)=_
  rw [start]
  simp! [k1,k2,k3,en]
 ·have k:yA (.str w) (.tup [.str "set",.str "high"])=some (.bl false)/\yA (.str w) (.tup [.str "left",.str "right"])=some (.bl false)/\yA (.str w) (.tup [.str "load",.str "store",.str "loadw",.str "storew"])=some (.bl false)/\zm (.str w) (.str "jump")=some (.bl false)/\yA (.str w) (.tup [.str "when",.str "unless"])=some (.bl false)/\zm (.str w) (.str "stop")=some (.bl false):=by
   rcases hw with rfl | rfl | rfl | rfl | rfl | rfl | rfl | rfl | rfl<;>exact ⟨rfl,rfl,rfl,rfl,rfl,rfl⟩
  obtain ⟨k1,k2,k3,k4,k5,k6⟩:=k
  refine ⟨_,.plain (.two hw o0 (by omega) t0 (by omega)),?_⟩
  rw [qT]
  unfold uJ
  show ((zE _ _ [some (false,.int m),some (false,.lst (N.map D.str)),some (false,.int mn),none,none,none,none]).bind _)=_
  rw [start]
  simp! [k1,k2,k3,k4,k5,k6]
 ·subst hw
  have k:yA (.str "jump") (.tup [.str "set",.str "high"])=some (.bl false)/\yA (.str "jump") (.tup [.str "left",.str "right"])=some (.bl false)/\yA (.str "jump") (.tup [.str "load",.str "store",.str "loadw",.str "storew"])=some (.bl false)/\zm (.str "jump") (.str "jump")=some (.bl true):=⟨rfl,rfl,rfl,rfl⟩
  obtain ⟨k1,k2,k3,k4⟩:=k
  refine ⟨_,.jump ht,?_⟩
  rw [qT]
  unfold uJ
  show ((zE _ _ [some (false,.int m),some (false,.lst (N.map D.str)),some (false,.int mn),none,none,none,none]).bind _)=_
  rw [start]
  simp! [k1,k2,k3,k4,List.length_map,gN,et]
 ·have k:yA (.str w) (.tup [.str "set",.str "high"])=some (.bl false)/\yA (.str w) (.tup [.str "left",.str "right"])=some (.bl false)/\yA (.str w) (.tup [.str "load",.str "store",.str "loadw",.str "storew"])=some (.bl false)/\zm (.str w) (.str "jump")=some (.bl false)/\yA (.str w) (.tup [.str "when",.str "unless"])=some (.bl true):=by
   rcases hw with rfl | rfl<;>exact ⟨rfl,rfl,rfl,rfl,rfl⟩
  obtain ⟨k1,k2,k3,k4,k5⟩:=k
  obtain ⟨kk,hk,ek⟩:∃ k:Str,(k = "carry" \/ k = "nought" \/ k = "sign")/\zG (.lst [.str "carry",.str "nought",.str "sign"]) (.int (two % 3))=some (.str k):=by
   rcases (show two % 3=0\/two % 3=1\/two % 3=2 by omega) with h | h | h<;>rw [h]
   ·exact ⟨"carry",by simp,rfl⟩
   ·exact ⟨"nought",by simp,rfl⟩
   ·exact ⟨"sign",by simp,rfl⟩
  refine ⟨_,.cond hw hk ht,?_⟩
  rw [qT]
  unfold uJ
  show ((zE _ _ [some (false,.int m),some (false,.lst (N.map D.str)),some (false,.int mn),none,none,none,none]).bind _)=_
  rw [start]
  simp! [k1,k2,k3,k4,k5,List.length_map,gN,et,ek]
 ·subst hw
  have k:yA (.str "stop") (.tup [.str "set",.str "high"])=some (.bl false)/\yA (.str "stop") (.tup [.str "left",.str "right"])=some (.bl false)/\yA (.str "stop") (.tup [.str "load",.str "store",.str "loadw",.str "storew"])=some (.bl false)/\zm (.str "stop") (.str "jump")=some (.bl false)/\yA (.str "stop") (.tup [.str "when",.str "unless"])=some (.bl false)/\zm (.str "stop") (.str "stop")=some (.bl true):=⟨rfl,rfl,rfl,rfl,rfl,rfl⟩
  obtain ⟨k1,k2,k3,k4,k5,k6⟩:=k
  refine ⟨_,.plain .stop,?_⟩
  rw [qT]
  unfold uJ
  show ((zE _ _ [some (false,.int m),some (false,.lst (N.map D.str)),some (false,.int mn),none,none,none,none]).bind _)=_
  rw [start]
  simp! [k1,k2,k3,k4,k5,k6]
structure PC (items:List D):Prop where
 it:∀ d∈items,zw d
 nd:(items.filter zR).Nodup
 tg:∀ d∈items,yb d=true->∃ (t:Str) (p:Nat),zG d (.int (-1))=some (.str t)/\(yV t items).2=some p
 ln:items.length<=100
noncomputable def uP (t:Str) (d:D):Bool:=zk (Tw d) (.str t)
theorem Mc {N:List Str} {d:D} (h:vV N d) (t:Str):∃ x,zG d (.int (-1))=some x/\zm x (.str t)=some (.bl (uP t d)):=by
 cases h with
 | plain h=>cases h<;>exact ⟨_,rfl,rfl⟩
 | jump ht=>exact ⟨_,rfl,rfl⟩
 | cond hw hk ht=>exact ⟨_,rfl,rfl⟩
theorem CQ {N:List Str} {d:D} (h:vV N d) (hj:yb d=true):∃ t∈N,zG d (.int (-1))=some (.str t)/\uP t d=true:=by
 cases h with
 | plain h=>
  obtain ⟨_,_,_,_,c,_⟩:=gF h
  rw [c] at hj
  cases hj
 | jump ht=>
  rename_i t
  exact ⟨t,ht,rfl,by show zk (.str t) (.str t)=true; unfold zk; exact beq_self_eq_true _⟩
 | cond hw hk ht=>
  rename_i t
  exact ⟨t,ht,rfl,by show zk (.str t) (.str t)=true; unfold zk; exact beq_self_eq_true _⟩
structure V_ (N:List Str) (R:List D) (k:Nat) (L:List D):Prop where
 it:∀ d∈L,Z9 N d
 rs:L.filter (fun d=>!zR d)=R.take k
 nd:(L.filter zR).Nodup
 lb:∀ d∈L,zR d=true->∃ j,j<k/\∃ t,N[j]?=some t/\d=yM t
 pl:∀ j t,j<k->N[j]?=some t->(∃ r∈R,uP t r=true)->(yV t L).2=some j
 ln:L.length<=2*k
theorem QM:∀ {N:List Str},N.Nodup->∀ {i j:Nat} {u:Str},N[i]?=some u->N[j]?=some u->i=j
 | [],_,_,_,_,h,_=>by cases h
 | x::N,h,0,0,_,_,_=>rfl
 | x::N,h,0,j+1,u,hi,hj=>by
  cases hi
  exact absurd (List.mem_of_getElem? (by simpa using hj)) (List.nodup_cons.mp h).1
 | x::N,h,i+1,0,u,hi,hj=>by
  cases hj
  exact absurd (List.mem_of_getElem? (by simpa using hi)) (List.nodup_cons.mp h).1
 | x::N,h,i+1,j+1,u,hi,hj=>by rw [QM (List.nodup_cons.mp h).2 (i:=i) (j:=j) (by simpa using hi) (by simpa using hj)]
theorem Tu {t u:Str} (h:yM t=yM u):t=u:=by
 unfold yM at h
 injection h with h
 injection h with _ h
 injection h with h _
 injection h
theorem GL {N:List Str} (hN:N.Nodup) {R L:List D} {k:Nat} (S:V_ N R k L) {t:Str} (ht:N[k]?=some t) (hk:k<=R.length) :
  (∀ d∈L++[yM t],Z9 N d)/\(L++[yM t]).filter (fun d=>!zR d)=R.take k/\((L++[yM t]).filter zR).Nodup/\(∀ d∈L++[yM t],zR d=true->∃ j,j<k+1/\∃ t,N[j]?=some t/\d=yM t)/\(∀ j u,j<k+1->N[j]?=some u->(∃ r∈R,uP u r=true)->(yV u (L++[yM t])).2=some j):=by
 have inj:∀ {i j:Nat} {u:Str},N[i]?=some u->N[j]?=some u->i=j:=fun hi hj=>QM hN hi hj
 refine ⟨fun d hd=>?_,?_,?_,fun d hd hl=>?_,fun j u hj hu hr=>?_⟩
 ·rcases List.mem_append.mp hd with hd | hd
  ·exact S.it d hd
  ·cases List.mem_singleton.mp hd
   exact .inr ⟨t,List.mem_of_getElem? ht,rfl⟩
 ·rw [List.filter_append,S.rs]
  show R.take k++[]=_
  rw [List.append_nil]
 ·rw [List.filter_append]
  show (L.filter zR++[yM t]).Nodup
  refine List.nodup_append.mpr ⟨S.nd,List.nodup_cons.mpr ⟨by simp,List.nodup_nil⟩,fun a ha b hb e=>?_⟩
  cases List.mem_singleton.mp hb
  obtain ⟨ha,hl⟩:=List.mem_filter.mp ha
  obtain ⟨j,hj,u,hu,ed⟩:=S.lb a ha hl
  have:=Tu (ed.symm.trans e)
  subst this
  have:=inj hu ht
  omega
 ·rcases List.mem_append.mp hd with hd | hd
  ·obtain ⟨j,hj,u,hu,ed⟩:=S.lb d hd hl
   exact ⟨j,by omega,u,hu,ed⟩
  ·cases List.mem_singleton.mp hd
   exact ⟨k,by omega,t,ht,rfl⟩
 ·rw [Qy]
  by_cases e:t=u
  ·subst e
   have:=inj hu ht
   rw [if_pos rfl,S.rs,List.length_take,this]
   congr 1
   omega
  ·rw [if_neg e]
   refine S.pl j u ?_ hu hr
   rcases Nat.lt_or_ge j k with h | h
   ·exact h
   ·have:j=k:=by omega
    subst this
    rw [ht] at hu
    cases hu
    exact absurd rfl e
theorem Fb {ns:List Int} (hl:ns.length<=63) (hb:∀ m∈ns,xH m<=1048576) {first most:Int} (f0:0<=first) (f1:first<=40) (m0:0<=most) (m1:most<=14) :
  ∃ (N:List Str) (R items:List D),R.length<=14/\N.length=R.length+1/\N.Nodup/\(∀ r∈R,vV N r)/\PC items/\items.filter (fun d=>!zR d)=R/\items.length<=40/\qH [.lst (ns.map D.int),.int first,.int most]=some (true,.lst items)/\(∃ ln:Nat,∀ t∈N,t.length=ln)/\∀ t,yM t∈items->t∈N:=by
 obtain ⟨a,a0,a1,ea⟩:=j0 hl hb (k:=first) f0 (by omega)
 obtain ⟨b,b0,b1,eb⟩:=j0 hl hb (k:=first+1) (by omega) (by omega)
 obtain ⟨c,c0,c1,ec⟩:=j0 hl hb (k:=first+2) (by omega) (by omega)
 have em:∀ i:Nat,i<20->∃ m:Int,0<=m/\wC [.lst (ns.map D.int),.int (first+3+(i:Int))]=some (false,.int m):=fun i hi=>by
  obtain ⟨m,h0,_,e⟩:=j0 hl hb (k:=first+3+(i:Int)) (by omega) (by omega)
  exact ⟨m,h0,e⟩
 generalize D.lst (ns.map D.int)=s at ea eb ec em ⊢
 have g0:decide (0<most+1)=true:=decide_eq_true (by omega)
 obtain ⟨ct,hct⟩:∃ z:Int,z=a % (most+1):=⟨_,rfl⟩
 have ct0:0<=ct:=by rw [hct]; exact Int.emod_nonneg _ (by omega)
 have ct1:ct<most+1:=by rw [hct]; exact Int.emod_lt_of_pos _ (by omega)
 obtain ⟨N,nl,nd,nlen,en⟩:=B0 b0 (many:=ct+1) (by omega) (by omega)
 have nn:N≠[]:=fun z=>by rw [z] at nl; simp at nl; omega
 obtain ⟨mn,hmn,emn⟩:=Yi (a:=3) (b:=8) (i:=c % 2) (by omega) (by omega)
 have r1:JT [some (false,s),some (false,.int first),some (false,.int most),some (false,.int ct),some (false,.lst (N.map D.str)),some (false,.int mn),none,none,none]=some (xD ct.toNat):=uT (n:=ct) rfl (by omega)
 obtain ⟨R,e1,eR⟩:=WS (g:=zh 9) (e:=Vf) (σ:=[some (false,s),some (false,.int first),some (false,.int most),some (false,.int ct),some (false,.lst (N.map D.str)),some (false,.int mn),none,none,none,none]) (fun _ y=>vV N y) (ds:=xD ct.toNat) fun d hd=>by
  obtain ⟨i,hi,rfl⟩:=Vb hd
  obtain ⟨m,h0,e⟩:=em i (by omega)
  obtain ⟨r,hr,er⟩:=CS nn h0 hmn
  refine ⟨_,r,rfl,?_,hr⟩
  unfold Vf
  generalize N.map D.str=NN at *
  simp! [add_int,e,er]
 have rl:R.length=ct.toNat:=by rw [<- Uj eR,tM]
 have hR:∀ r∈R,vV N r:=fun r hr=>by
  obtain ⟨_,_,h⟩:=jg eR r hr
  exact h
 have r2:JU [some (false,s),some (false,.int first),some (false,.int most),some (false,.int ct),some (false,.lst (N.map D.str)),some (false,.int mn),some (false,.lst R),none,some (true,.lst [])]=some (xD (ct.toNat+1)):=by
  have:=uT (f:=e2 yO (z6 3) (eC (.int 1))) (τ:=[some (false,s),some (false,.int first),some (false,.int most),some (false,.int ct),some (false,.lst (N.map D.str)),some (false,.int mn),some (false,.lst R),none,some (true,.lst [])]) (n:=ct+1) rfl (by omega)
  rw [show (ct+1).toNat=ct.toNat+1 by omega] at this
  exact this
 obtain ⟨σ',e3,L,x7,S,rfl⟩:=t5 (g:=zh 7) (b:=YJ) (fun i σ=>∃ L x7,V_ N R i L/\σ=[some (false,s),some (false,.int first),some (false,.int most),some (false,.int ct),some (false,.lst (N.map D.str)),some (false,.int mn),some (false,.lst R),x7,some (true,.lst L)]) (ds:=xD (ct.toNat+1))
  (σ:=[some (false,s),some (false,.int first),some (false,.int most),some (false,.int ct),some (false,.lst (N.map D.str)),some (false,.int mn),some (false,.lst R),none,some (true,.lst [])]) 0 ⟨[],none,⟨(fun _ h=>by cases h),by rw [List.take_zero]; rfl,List.nodup_nil,(fun _ h=>by cases h),(fun j _ h=>absurd h (Nat.not_lt_zero _)),Nat.le_refl _⟩,rfl⟩ (by
  rintro i v σ hv ⟨L,x7,S,rfl⟩
  obtain ⟨hi,rfl⟩:=jO hv
  rw [Nat.zero_add] at *
  have hiN:i<N.length:=by omega
  have gN:N[i]?=some N[i]:=List.getElem?_eq_getElem hiN
  have ix:zG (.lst (N.map D.str)) (.int (i:Int))=some (.str N[i]):=vF (by omega) (by rw [Int.toNat_natCast,List.getElem?_map,gN]; rfl)
  have f1:=qY (g:=zh 9) (c:=XG) (e:=Vg) (σ:=[some (false,s),some (false,.int first),some (false,.int most),some (false,.int ct),some (false,.lst (N.map D.str)),some (false,.int mn),some (false,.lst R),some (false,.int (i:Int)),some (true,.lst L),none]) (uP N[i]) id (ds:=R) fun d hd=>by
   obtain ⟨x,q1,q2⟩:=Mc (hR d hd) N[i]
   refine ⟨_,rfl,?_,fun _=>rfl⟩
   unfold XG
   generalize N.map D.str=NN at *
   simp! [q1,ix,q2]
  rw [List.map_id] at f1
  have ne:=g3 (R.filter (uP N[i]))
  have lab:∃ L',yP (qA (tE (e2 xM (xP 1 (xc (z6 6)) (zh 9) XG Vg) (yk zD))) (tE (e2 zm (e2 yR (e2 xm (zX wC (zB (z6 0) (zB (e2 yO (z6 1) (eC (.int 2))) zD))) (eC (.int 2))) (eC (.int 5))) (z6 7))))
     (wS 8 wG (yu (zB (eC (.str "label")) (zB (e2 zG (z6 4) (z6 7)) zD))))
     yW [some (false,s),some (false,.int first),some (false,.int most),some (false,.int ct),some (false,.lst (N.map D.str)),some (false,.int mn),some (false,.lst R),some (false,.int (i:Int)),some (true,.lst L)]=some (.nx [some (false,s),some (false,.int first),some (false,.int most),some (false,.int ct),some (false,.lst (N.map D.str)),some (false,.int mn),some (false,.lst R),some (false,.int (i:Int)),some (true,.lst L')])/\
    L'.length<=2*i+1/\(∀ d∈L',Z9 N d)/\L'.filter (fun d=>!zR d)=R.take i/\(L'.filter zR).Nodup/\(∀ d∈L',zR d=true->∃ j,j<i+1/\∃ t,N[j]?=some t/\d=yM t)/\(∀ j u,j<i+1->N[j]?=some u->(∃ r∈R,uP u r=true)->(yV u L').2=some j):=by
   have hap:=uq (L:=L) (r:=yM N[i]) (by have:=S.ln; omega)
   have with_:=GL nd S gN (by omega)
   have ll:(L++[yM N[i]]).length<=2*i+1:=by rw [List.length_append]; have:=S.ln; show L.length+1<=_; omega
   unfold yM at hap
   cases hE:(R.filter (uP N[i])).isEmpty with
   | false=>
    rw [hE] at ne
    refine ⟨L++[yM N[i]],?_,ll,with_⟩
    unfold yM
    generalize N.map D.str=NN at *
    simp! [f1,ne,ix,hap,Bool.not_false]
   | true=>
    rw [hE] at ne
    have none_:¬ ∃ r∈R,uP N[i] r=true:=fun ⟨r,hr,h⟩=>by
     have:r∈R.filter (uP N[i]):=List.mem_filter.mpr ⟨hr,h⟩
     rw [List.isEmpty_iff.mp hE] at this
     cases this
    by_cases hc:c / 2 % 5=(i:Int)
    ·have k:=WE hc
     refine ⟨L++[yM N[i]],?_,ll,with_⟩
     unfold yM
     generalize N.map D.str=NN at *
     simp! [f1,ne,add_int,ec,k,ix,hap,Bool.not_true]
    ·have k:=WF hc
     refine ⟨L,?_,by have:=S.ln; omega,S.it,S.rs,S.nd,fun d hd hl=>?_,fun j u hj hu hr=>?_⟩
     ·generalize N.map D.str=NN at *
      simp! [f1,ne,add_int,ec,k,Bool.not_true]
     ·obtain ⟨j,hj,t,ht,e⟩:=S.lb d hd hl
      exact ⟨j,by omega,t,ht,e⟩
     ·rcases Nat.lt_or_ge j i with h | h
      ·exact S.pl j u h hu hr
      ·have:j=i:=by omega
       subst this
       rw [gN] at hu
       cases hu
       exact absurd hr none_
  obtain ⟨L',el,ll,l1,l2,l3,l4,l5⟩:=lab
  by_cases hir:i<ct.toNat
  ·have cond:decide ((i:Int)<ct)=true:=decide_eq_true (by omega)
   have hiR:i<R.length:=by omega
   have ixR:zG (.lst R) (.int (i:Int))=some R[i]:=vF (by omega) (by rw [Int.toNat_natCast]; exact List.getElem?_eq_getElem hiR)
   have hap:=uq (L:=L') (r:=R[i]) (by omega)
   have rA:=hR _ (List.getElem_mem hiR)
   have rl0:=(V8 rA).2
   refine ⟨_,[some (false,s),some (false,.int first),some (false,.int most),some (false,.int ct),some (false,.lst (N.map D.str)),some (false,.int mn),some (false,.lst R),some (false,.int (i:Int)),some (true,.lst (L'++[R[i]]))],rfl,.inl ?_,L'++[R[i]],_,⟨?_,?_,?_,?_,?_,?_⟩,rfl⟩
   ·unfold YJ
    show zE _ _ [some (false,s),some (false,.int first),some (false,.int most),some (false,.int ct),some (false,.lst (N.map D.str)),some (false,.int mn),some (false,.lst R),some (false,.int (i:Int)),some (true,.lst L)]=_
    rw [xU el]
    generalize N.map D.str=NN at *
    generalize R[i]=RI at *
    simp! [cond,ixR,hap]
   ·intro d hd
    rcases List.mem_append.mp hd with hd | hd
    ·exact l1 d hd
    ·cases List.mem_singleton.mp hd
     exact .inl rA
   ·rw [List.filter_append,l2,List.filter_cons_of_pos (by rw [rl0]; rfl),List.filter_nil,List.take_succ_eq_append_getElem hiR]
   ·rw [List.filter_append,List.filter_cons_of_neg (by rw [rl0]; decide),List.filter_nil,List.append_nil]
    exact l3
   ·intro d hd hl
    rcases List.mem_append.mp hd with hd | hd
    ·exact l4 d hd hl
    ·cases List.mem_singleton.mp hd
     rw [rl0] at hl
     cases hl
   ·intro j u hj hu hr
    rw [Qz rl0]
    exact l5 j u hj hu hr
   ·rw [List.length_append]
    show L'.length+1<=_
    omega
  ·have cond:decide ((i:Int)<ct)=false:=decide_eq_false (by omega)
   refine ⟨_,[some (false,s),some (false,.int first),some (false,.int most),some (false,.int ct),some (false,.lst (N.map D.str)),some (false,.int mn),some (false,.lst R),some (false,.int (i:Int)),some (true,.lst L')],rfl,.inl ?_,L',_,⟨l1,?_,l3,l4,l5,by omega⟩,rfl⟩
   ·unfold YJ
    show zE _ _ [some (false,s),some (false,.int first),some (false,.int most),some (false,.int ct),some (false,.lst (N.map D.str)),some (false,.int mn),some (false,.lst R),some (false,.int (i:Int)),some (true,.lst L)]=_
    rw [xU el]
    generalize N.map D.str=NN at *
    simp! [cond]
   ·rw [l2,List.take_of_length_le (by omega),List.take_of_length_le (by omega)])
 rw [tM,Nat.zero_add] at S
 have ln:=S.ln
 refine ⟨N,R,L,by omega,by omega,nd,hR,⟨fun d hd=>MD (S.it d hd),S.nd,fun d hd hj=>?_,by omega⟩,by rw [S.rs,List.take_of_length_le (by omega)],by omega,?_,?_,fun t ht=>?_⟩
 ·rcases S.it d hd with h | ⟨t,_,rfl⟩
  ·obtain ⟨t,ht,e,li⟩:=CQ h hj
   obtain ⟨j,hj2,ej⟩:=List.getElem_of_mem ht
   have dR:d∈R:=by
    have:d∈L.filter fun d=>!zR d:=List.mem_filter.mpr ⟨hd,by rw [(V8 h).2]; rfl⟩
    rw [S.rs] at this
    exact List.mem_of_mem_take this
   exact ⟨t,j,e,S.pl j t (by omega) (by rw [List.getElem?_eq_getElem hj2,ej]) ⟨d,dR,li⟩⟩
  ·cases hj
 ·rw [LZ]
  unfold ZW
  generalize N.map D.str=NN at *
  simp! [ea,add_int,g0,<- hct,eb,en,ec,emn,r1,e1,r2,e3]
 ·obtain ⟨ln,_,h⟩:=nlen
  exact ⟨ln,h⟩
 ·obtain ⟨j,_,u,hu,e⟩:=S.lb _ ht rfl
  rw [Tu e]
  exact List.mem_of_getElem? hu
theorem Fa {ns:List Int} (hl:ns.length<=63) (hb:∀ m∈ns,xH m<=1048576) {first most:Int} (f0:0<=first) (f1:first<=40) (m0:0<=most) (m1:most<=14) :
  ∃ (N:List Str) (R items:List D),R.length<=14/\N.length=R.length+1/\N.Nodup/\(∀ r∈R,vV N r)/\PC items/\items.filter (fun d=>!zR d)=R/\items.length<=40/\qH [.lst (ns.map D.int),.int first,.int most]=some (true,.lst items):=by
 obtain ⟨N,R,items,a,b,c,d,e,f,g,h,_⟩:=Fb hl hb f0 f1 m0 m1
 exact ⟨N,R,items,a,b,c,d,e,f,g,h⟩
end L3
namespace L3
open PySem
noncomputable def Ih:FE:=(z6 1)
noncomputable def Vp:FT:=(tE (e2 xM (e2 zG (z6 1) (eC (.int 0))) (eC (.str "label"))))
noncomputable def ZY:FS:=
 (xq (xP 1 (xc (z6 0)) (zh 1) Vp Ih))
noncomputable def qI:List D->Option (Bool×D):=FR 1 1 ZY
theorem Co:∀ ds r,qI ds=some r->ds.length=1/\zc 1 ZY ds=some r:=yK
theorem Lb (x0:D):qI [x0]=zc 1 ZY [x0]:=rfl
theorem Mj {items:List D} (h:∀ d∈items,zw d):qI [.lst items]=some (true,.lst (items.filter fun d=>!zR d)):=by
 have e:=qY (g:=zh 1) (c:=Vp) (e:=Ih) (σ:=[some (false,.lst items),none]) (fun d=>!zR d) id (ds:=items) fun d hd=>by
  obtain ⟨w,a,b,_⟩:=qU (h d hd)
  have b:=WZ b
  refine ⟨_,rfl,?_,fun _=>rfl⟩
  unfold Vp
  simp! [a,b]
 rw [List.map_id] at e
 rw [Lb]
 unfold ZY
 simp! [e]
end L3
namespace L3
open PySem
noncomputable def z8 (qs:List Nat):List D:=qs.map fun i:Nat=>D.int i
theorem TL (q:Nat) (qs:List Nat):pV (.int (q:Int)) (.lst (z8 qs))=some (decide (q∈qs)):=by
 have ha:(z8 qs).all yG=true:=List.all_eq_true.mpr fun y hy=>by
  obtain ⟨p,_,rfl⟩:=List.mem_map.mp hy
  rfl
 show (match yG (.int (q:Int))&&(z8 qs).all yG with | true=>some ((z8 qs).any fun y=>zk y (.int (q:Int))) | false=>none)=_
 rw [ha]
 show some _=_
 congr 1
 have e:∀ y:Nat,zk (.int (y:Int)) (.int (q:Int))=((y:Int) == (q:Int)):=fun y=>by unfold zk; rfl
 by_cases h:q∈qs
 ·rw [decide_eq_true h]
  exact List.any_eq_true.mpr ⟨.int (q:Int),List.mem_map.mpr ⟨q,h,rfl⟩,by rw [e]; exact beq_self_eq_true _⟩
 ·rw [decide_eq_false h]
  cases z:(z8 qs).any fun y=>zk y (.int (q:Int)) with
  | false=>rfl
  | true=>
   obtain ⟨d,hd,w⟩:=List.any_eq_true.mp z
   obtain ⟨y,hy,rfl⟩:=List.mem_map.mp hd
   rw [e,beq_iff_eq] at w
   have:y=q:=by omega
   exact absurd (this ▸ hy) h
theorem Tq:∀ qs:List Nat,uO (qs.map fun i:Nat=>D.tup [.int i,.bl true])=some (qs.map fun i:Nat=>Sum.inl (i:Int),qs.map fun _=>D.bl true)
 | []=>rfl
 | a::qs=>by
  show (uy (.int (a:Int))).bind _=_
  show (uO (qs.map fun i:Nat=>D.tup [.int i,.bl true])).bind _=_
  rw [Tq qs]
  rfl
theorem jk (n:Nat):∀ qs:List Nat,yF (qs.map fun i:Nat=>Sum.inl (i:Int)) (.inl (n:Int))=decide (n∈qs)
 | []=>rfl
 | a::qs=>by
  show (decide ((Sum.inl (a:Int):Sum Int Str)=.inl (n:Int))||yF (qs.map fun i:Nat=>Sum.inl (i:Int)) (.inl (n:Int)))=_
  rw [jk n qs]
  by_cases h:a=n
  ·subst h
   rw [decide_eq_true (p:=(Sum.inl (a:Int):Sum Int Str)=.inl (a:Int)) rfl,decide_eq_true (List.mem_cons_self ..)]
   rfl
  ·rw [decide_eq_false (p:=(Sum.inl (a:Int):Sum Int Str)=.inl (n:Int)) (fun e=>h (by have:=Sum.inl.inj e; omega)),Bool.false_or]
   refine decide_eq_decide.mpr ⟨fun z=>List.mem_cons_of_mem _ z,fun z=>?_⟩
   rcases List.mem_cons.mp z with z | z
   ·exact absurd z.symm h
   ·exact z
theorem Uc (qs:List Nat):∃ K V,qR [.lst (qs.map fun i:Nat=>D.tup [.int i,.bl true])]=some (.dic K V)/\∀ n:Nat,yF K (.inl (n:Int))=decide (n∈qs):=by
 refine ⟨(yT [] [] (qs.map fun i:Nat=>Sum.inl (i:Int)) (qs.map fun _=>D.bl true)).1,(yT [] [] (qs.map fun i:Nat=>Sum.inl (i:Int)) (qs.map fun _=>D.bl true)).2,?_,fun n=>?_⟩
 ·show (uO _).bind _=_
  rw [Tq]
  rfl
 ·rw [WA (by simp),jk]
  rfl
end L3
namespace L3
open PySem
noncomputable def Sb (a b:Nat):Prop:=∀ k,a.testBit k=true->b.testBit k=true
theorem Sb.refl (a:Nat):Sb a a:=fun _ h=>h
theorem Sb.trans {a b c:Nat} (h:Sb a b) (g:Sb b c):Sb a c:=fun k z=>g k (h k z)
theorem Sb.anti {a b:Nat} (h:Sb a b) (g:Sb b a):a=b:=Nat.eq_of_testBit_eq fun k=>by
 cases ea:a.testBit k with
 | true=>exact (h k ea).symm
 | false=>
  cases eb:b.testBit k with
  | false=>rfl
  | true=>rw [g k eb] at ea; cases ea
theorem VE (a:Nat):Sb 0 a:=fun k h=>by rw [Nat.zero_testBit] at h; cases h
theorem Ue:∀ (k a p:Nat),(a - (a &&& p)).testBit k=(a.testBit k&&!p.testBit k)
 | 0,a,p=>by
  have h1:(a &&& p) % 2=(a % 2)*(p % 2):=by
   have:(a &&& p).testBit 0=(a.testBit 0&&p.testBit 0):=Nat.testBit_and ..
   simp only [Nat.testBit_zero] at this
   rcases Nat.mod_two_eq_zero_or_one a with e | e<;>rcases Nat.mod_two_eq_zero_or_one p with f | f<;>rcases Nat.mod_two_eq_zero_or_one (a &&& p) with g | g<;>rw [e,f,g] at this<;>rw [e,f,g]<;>first | rfl | (simp at this)
  have h2:(a &&& p)<=a:=Nat.and_le_left
  simp only [Nat.testBit_zero]
  rcases Nat.mod_two_eq_zero_or_one a with e | e<;>rcases Nat.mod_two_eq_zero_or_one p with f | f<;>rw [e,f] at h1<;>simp only [e,f]<;>simp<;>omega
 | k+1,a,p=>by
  have h1:(a - (a &&& p)) / 2=a / 2 - (a / 2 &&& p / 2):=by
   have d:(a &&& p) / 2=(a / 2 &&& p / 2):=by
    refine Nat.eq_of_testBit_eq fun j=>?_
    rw [Nat.testBit_and,<- Nat.testBit_succ,<- Nat.testBit_succ,<- Nat.testBit_succ,Nat.testBit_and]
   have h2:(a &&& p)<=a:=Nat.and_le_left
   have h3:(a &&& p) % 2<=a % 2:=by
    have:(a &&& p).testBit 0=(a.testBit 0&&p.testBit 0):=Nat.testBit_and ..
    simp only [Nat.testBit_zero] at this
    rcases Nat.mod_two_eq_zero_or_one a with e | e<;>rcases Nat.mod_two_eq_zero_or_one (a &&& p) with g | g<;>rw [e,g] at this<;>rw [e,g]<;>first | omega | (simp at this)
   rw [<- d]
   omega
  rw [Nat.testBit_succ,h1,Ue k,Nat.testBit_succ,Nat.testBit_succ]
theorem Xk (a:Nat):decide ((0:Int)<=Builtin.bitNot (a:Int))=false:=decide_eq_false (by unfold Builtin.bitNot; omega)
theorem b0 (a:Nat):decide ((0:Int)<=(a:Int))=true:=decide_eq_true (Int.natCast_nonneg a)
theorem UL (a:Int):Builtin.bitNot (Builtin.bitNot a)=a:=by unfold Builtin.bitNot; omega
theorem Xm (a b:Nat):Builtin.bitOr (a:Int) (b:Int)=((a ||| b:Nat):Int):=by
 unfold Builtin.bitOr Builtin.bitAnd
 rw [Xk,Xk]
 simp only [UL,Int.toNat_natCast]
theorem U9 (a b:Nat):Builtin.bitAnd (a:Int) (b:Int)=((a &&& b:Nat):Int):=by
 unfold Builtin.bitAnd
 rw [b0,b0]
 simp only [Int.toNat_natCast]
theorem OB (a p:Nat):Builtin.bitAnd (a:Int) (Builtin.bitNot (p:Int))=((a - (a &&& p):Nat):Int):=by
 have h2:(a &&& p)<=a:=Nat.and_le_left
 unfold Builtin.bitAnd
 rw [b0,Xk]
 simp only [UL,Int.toNat_natCast]
 omega
theorem OF {x k:Nat} (h:x<2048) (hk:x.testBit k=true):k<11:=by
 rcases Nat.lt_or_ge k 11 with c | c
 ·exact c
 ·have:x<2 ^ k:=Nat.lt_of_lt_of_le h (Nat.pow_le_pow_right (n:=2) (by decide) c)
  rw [Nat.testBit_lt_two_pow this] at hk
  cases hk
theorem Qk {a b:Nat} (ha:a<2048) (hb:b<2048):(a ||| b)<2048:=Nat.or_lt_two_pow (n:=11) ha hb
theorem Ou {a:Nat} (p:Nat) (ha:a<2048):a - (a &&& p)<2048:=by omega
noncomputable def pc (x:Nat):Nat:=(List.range 11).countP fun k=>x.testBit k
theorem pc_le (x:Nat):pc x<=11:=by
 have:=List.countP_le_length (p:=fun k=>x.testBit k) (l:=List.range 11)
 rw [List.length_range] at this
 exact this
theorem UV {p q:Nat->Bool}:∀ {l:List Nat},(∀ k∈l,p k=true->q k=true)->(∃ k∈l,q k=true/\p k=false)->l.countP p<l.countP q
 | [],_,⟨k,h,_⟩=>by cases h
 | a::l,h,⟨k,hk,h1,h2⟩=>by
  have hm:l.countP p<=l.countP q:=List.countP_mono_left fun k hk z=>h k (List.mem_cons_of_mem _ hk) z
  rcases List.mem_cons.mp hk with rfl | hk
  ·rw [List.countP_cons_of_pos h1,List.countP_cons_of_neg (by rw [h2]; decide)]
   omega
  ·have ih:=UV (l:=l) (fun k hk=>h k (List.mem_cons_of_mem _ hk)) ⟨k,hk,h1,h2⟩
   rw [List.countP_cons,List.countP_cons]
   have:=h a List.mem_cons_self
   by_cases c:p a=true
   ·rw [if_pos c,if_pos (this c)]; omega
   ·rw [if_neg c]; omega
theorem pc_lt {a b:Nat} (h:Sb a b) (hb:b<2048) (ne:a≠b):pc a<pc b:=by
 refine UV (fun k _ z=>h k z) ?_
 apply Classical.byContradiction
 intro hn
 refine ne (h.anti fun k z=>?_)
 cases e:a.testBit k with
 | true=>rfl
 | false=>exact (hn ⟨k,List.mem_range.mpr (OF hb z),z,e⟩).elim
end L3
namespace L3
open PySem
noncomputable def U5:FS:=
 (ya (e2 pX (eC (.int 1)) (e2 yO (eC (.int 8)) (e1 (Uw T6) (z6 0)))))
noncomputable def ue:List D->Option (Bool×D):=FR 1 1 U5
theorem Ct:∀ ds r,ue ds=some r->ds.length=1/\zc 1 U5 ds=some r:=yK
noncomputable def U6:FS:=
 (ya (Zv (Xt (e2 zm (e2 zG (z6 0) (eC (.int 0))) (eC (.str "left"))) (e2 zm (e2 zG (z6 0) (eC (.int 0))) (eC (.str "right")))) (e2 zm (e2 zG (z6 0) (eC (.int 2))) (eC (.int 0)))))
noncomputable def Z8:List D->Option (Bool×D):=FR 1 1 U6
theorem Cu:∀ ds r,Z8 ds=some r->ds.length=1/\zc 1 U6 ds=some r:=yK
noncomputable def U8:FS:=
 (zE (yP (tE (e2 zm (e2 zG (z6 0) (eC (.int 0))) (eC (.str "stop"))))
   (ya (eC (.int 2047)))
   yW)
  (zE (yP (qA (tE (e2 zm (e2 zG (z6 0) (eC (.int 0))) (eC (.str "when")))) (tE (e2 zm (e2 zG (z6 0) (eC (.int 0))) (eC (.str "unless")))))
   (ya (zX ue (zB (e2 zG (z6 0) (eC (.int 1))) zD)))
   yW)
  (zE (zS 1 (eC (.int 0)))
  (zE (yP (tE (e2 yA (e2 zG (z6 0) (eC (.int 0))) (eC W5)))
   (zS 1 (e2 (xt Builtin.bitOr) (z6 1) (e2 pX (eC (.int 1)) (e2 zG (z6 0) (eC (.int 1))))))
   yW)
  (zE (yP (tE (e2 yA (e2 zG (z6 0) (eC (.int 0))) (eC W6)))
   (zS 1 (e2 (xt Builtin.bitOr) (z6 1) (e2 pX (eC (.int 1)) (e2 zG (z6 0) (eC (.int 2))))))
   yW)
  (zE (yP (tE (e2 yA (e2 zG (z6 0) (eC (.int 0))) (eC W4)))
   (zS 1 (e2 (xt Builtin.bitOr) (z6 1) (zX ue (zB (eC (.str "carry")) zD))))
   yW)
  (ya (z6 1))))))))
noncomputable def vh:List D->Option (Bool×D):=FR 1 2 U8
theorem EB:∀ ds r,vh ds=some r->ds.length=1/\zc 2 U8 ds=some r:=yK
noncomputable def U7:FS:=
 (zE (zS 1 (eC (.int 0)))
  (zE (yP (tE (e2 yA (e2 zG (z6 0) (eC (.int 0))) (eC W8)))
   (zS 1 (e2 (xt Builtin.bitOr) (z6 1) (e2 pX (eC (.int 1)) (e2 zG (z6 0) (eC (.int 1))))))
   yW)
  (zE (yP (tE (e2 yA (e2 zG (z6 0) (eC (.int 0))) (eC W9)))
   (zS 1 (e2 (xt Builtin.bitOr) (e2 (xt Builtin.bitOr) (z6 1) (zX ue (zB (eC (.str "nought")) zD))) (zX ue (zB (eC (.str "sign")) zD))))
   yW)
  (zE (yP (vB (tE (e2 yA (e2 zG (z6 0) (eC (.int 0))) (eC W7))) (q5 (tE (zX Z8 (zB (z6 0) zD)))))
   (zS 1 (e2 (xt Builtin.bitOr) (z6 1) (zX ue (zB (eC (.str "carry")) zD))))
   yW)
  (ya (z6 1))))))
noncomputable def wK:List D->Option (Bool×D):=FR 1 2 U7
theorem E5:∀ ds r,wK ds=some r->ds.length=1/\zc 2 U7 ds=some r:=yK
noncomputable def Yb:Option (Bool×D)->Bool
 | some (false,.int u)=>decide (0<=u/\u<2048)
 | _=>false
noncomputable def uR (r:D):Bool:=Yb (vh [r])&&Yb (wK [r])
theorem HK:uR (.tup [.str "stop"])=true:=by decide +kernel
theorem HG:∀ n:Int,(["set", "high"].all fun w=>(List.range 8).all fun d=>uR (.tup [.str (Str.ofString w),.int d,.int n]))=true:=fun n=>by kernel_rfl
theorem HL:(["copy", "add", "addc", "sub", "subc", "and", "or", "xor", "test"].all fun w=>(List.range 8).all fun d=>(List.range 8).all fun s=>uR (.tup [.str (Str.ofString w),.int d,.int s]))=true:=by kernel_rfl
theorem HJ:(["left", "right"].all fun w=>(List.range 8).all fun d=>(List.range 32).all fun s=>uR (.tup [.str (Str.ofString w),.int d,.int s]))=true:=by kernel_rfl
theorem HI:∀ n:Int,(["load", "store", "loadw", "storew"].all fun w=>(List.range 8).all fun d=>(List.range 8).all fun s=>uR (.tup [.str (Str.ofString w),.int d,.int s,.int n]))=true:=fun n=>by kernel_rfl
theorem HH:∀ t:Str,uR (.tup [.str "jump",.str t])=true:=fun n=>by kernel_rfl
theorem HF:∀ t:Str,(["when", "unless"].all fun w=>["carry", "nought", "sign"].all fun k=>uR (.tup [.str (Str.ofString w),.str (Str.ofString k),.str t]))=true:=fun n=>by kernel_rfl
theorem QW {o:Option (Bool×D)} (h:Yb o=true):∃ u:Nat,u<2048/\o=some (false,.int u):=by
 unfold Yb at h
 split at h
 ·rename_i u
  have:=of_decide_eq_true h
  exact ⟨u.toNat,by omega,by rw [Int.toNat_of_nonneg this.1]⟩
 ·cases h
theorem zn {α:Type} {l:List α} {f:α->Bool} (h:l.all f=true) {x:α} (hx:x∈l):f x=true:=List.all_eq_true.mp h x hx
theorem qc {d:Int} {n:Nat} (h0:0<=d) (h1:d<n):∃ k∈List.range n,d=(k:Nat):=⟨d.toNat,List.mem_range.mpr (by omega),by omega⟩
theorem Ta {f:D->Bool} (u0:f (.tup [.str "stop"])=true)
  (u1:∀ n:Int,(["set", "high"].all fun w=>(List.range 8).all fun d=>f (.tup [.str (Str.ofString w),.int d,.int n]))=true)
  (u2:(["copy", "add", "addc", "sub", "subc", "and", "or", "xor", "test"].all fun w=>(List.range 8).all fun d=>(List.range 8).all fun s=>f (.tup [.str (Str.ofString w),.int d,.int s]))=true)
  (u3:(["left", "right"].all fun w=>(List.range 8).all fun d=>(List.range 32).all fun s=>f (.tup [.str (Str.ofString w),.int d,.int s]))=true)
  (u4:∀ n:Int,(["load", "store", "loadw", "storew"].all fun w=>(List.range 8).all fun d=>(List.range 8).all fun s=>f (.tup [.str (Str.ofString w),.int d,.int s,.int n]))=true)
  (u5:∀ t:Str,f (.tup [.str "jump",.str t])=true)
  (u6:∀ t:Str,(["when", "unless"].all fun w=>["carry", "nought", "sign"].all fun k=>f (.tup [.str (Str.ofString w),.str (Str.ofString k),.str t]))=true)
  {r:D} (h:zw r) (hl:zR r=false):f r=true:=by
 cases h with
 | label t=>cases hl
 | plain h=>
  cases h with
  | stop=>exact u0
  | imm hw d0 d1 n0 n1=>
   obtain ⟨k,hk,rfl⟩:=qc (n:=8) d0 d1
   rcases hw with rfl | rfl
   ·exact zn (zn (u1 _) (x := "set") (by decide)) hk
   ·exact zn (zn (u1 _) (x := "high") (by decide)) hk
  | two hw d0 d1 s0 s1=>
   obtain ⟨k,hk,rfl⟩:=qc (n:=8) d0 d1
   obtain ⟨j,hj,rfl⟩:=qc (n:=8) s0 s1
   rcases hw with rfl | rfl | rfl | rfl | rfl | rfl | rfl | rfl | rfl
   ·exact zn (zn (zn u2 (x := "copy") (by decide)) hk) hj
   ·exact zn (zn (zn u2 (x := "add") (by decide)) hk) hj
   ·exact zn (zn (zn u2 (x := "addc") (by decide)) hk) hj
   ·exact zn (zn (zn u2 (x := "sub") (by decide)) hk) hj
   ·exact zn (zn (zn u2 (x := "subc") (by decide)) hk) hj
   ·exact zn (zn (zn u2 (x := "and") (by decide)) hk) hj
   ·exact zn (zn (zn u2 (x := "or") (by decide)) hk) hj
   ·exact zn (zn (zn u2 (x := "xor") (by decide)) hk) hj
   ·exact zn (zn (zn u2 (x := "test") (by decide)) hk) hj
  | mov hw d0 d1 n0 n1=>
   obtain ⟨k,hk,rfl⟩:=qc (n:=8) d0 d1
   obtain ⟨j,hj,rfl⟩:=qc (n:=32) n0 n1
   rcases hw with rfl | rfl
   ·exact zn (zn (zn u3 (x := "left") (by decide)) hk) hj
   ·exact zn (zn (zn u3 (x := "right") (by decide)) hk) hj
  | mem hw d0 d1 s0 s1 n0 n1=>
   obtain ⟨k,hk,rfl⟩:=qc (n:=8) d0 d1
   obtain ⟨j,hj,rfl⟩:=qc (n:=8) s0 s1
   rcases hw with rfl | rfl | rfl | rfl
   ·exact zn (zn (zn (u4 _) (x := "load") (by decide)) hk) hj
   ·exact zn (zn (zn (u4 _) (x := "store") (by decide)) hk) hj
   ·exact zn (zn (zn (u4 _) (x := "loadw") (by decide)) hk) hj
   ·exact zn (zn (zn (u4 _) (x := "storew") (by decide)) hk) hj
 | jump t=>exact u5 t
 | cond t hw hk=>
  rcases hw with rfl | rfl<;>rcases hk with rfl | rfl | rfl
  ·exact zn (zn (u6 t) (x := "when") (by decide)) (x := "carry") (by decide)
  ·exact zn (zn (u6 t) (x := "when") (by decide)) (x := "nought") (by decide)
  ·exact zn (zn (u6 t) (x := "when") (by decide)) (x := "sign") (by decide)
  ·exact zn (zn (u6 t) (x := "unless") (by decide)) (x := "carry") (by decide)
  ·exact zn (zn (u6 t) (x := "unless") (by decide)) (x := "nought") (by decide)
  ·exact zn (zn (u6 t) (x := "unless") (by decide)) (x := "sign") (by decide)
theorem IU {r:D} (h:zw r) (hl:zR r=false):uR r=true:=Ta HK HG HL HJ HI HH HF h hl
noncomputable def tt:Option (Bool×D)->Nat
 | some (_,.int u)=>u.toNat
 | _=>0
theorem HN {r:D} (h:zw r) (hl:zR r=false):vh [r]=some (false,.int (tt (vh [r]):Nat))/\tt (vh [r])<2048:=by
 have:=IU h hl
 unfold uR at this
 rw [Bool.and_eq_true] at this
 obtain ⟨u,hu,e⟩:=QW this.1
 rw [e]
 exact ⟨rfl,hu⟩
theorem Fm {r:D} (h:zw r) (hl:zR r=false):wK [r]=some (false,.int (tt (wK [r]):Nat))/\tt (wK [r])<2048:=by
 have:=IU h hl
 unfold uR at this
 rw [Bool.and_eq_true] at this
 obtain ⟨u,hu,e⟩:=QW this.2
 rw [e]
 exact ⟨rfl,hu⟩
end L3
namespace L3
open PySem
noncomputable def Vl:FE:=(pU (tE (zX uC (zB (z6 2) zD))) (e2 zG (z6 1) (e2 zG (z6 2) (e1 vk (eC (.int 1))))) (eC .non))
noncomputable def Zn:FS:=
 (zE (zS 1 (zX ud (zB (z6 0) zD)))
  (xq (xP 1 (xc (zX x9 (zB (z6 0) zD))) (zh 2) xV Vl)))
noncomputable def vg:List D->Option (Bool×D):=FR 1 2 Zn
theorem E9:∀ ds r,vg ds=some r->ds.length=1/\zc 2 Zn ds=some r:=yK
theorem Lq (x0:D):vg [x0]=zc 2 Zn [x0]:=rfl
noncomputable def Zp:FS:=
 (zE (yP (tE (e2 zm (e2 zG (z6 0) (eC (.int 0))) (eC (.str "stop"))))
   (xq (yk zD))
   yW)
  (zE (yP (tE (e2 zm (e2 zG (z6 0) (eC (.int 0))) (eC (.str "jump"))))
   (xq (yk (zB (z6 2) zD)))
   yW)
  (zE (yP (tE (e2 qS (z6 2) (eC .non)))
   (xq (yk (zB (e2 yO (z6 1) (eC (.int 1))) zD)))
   yW)
  (xq (eL pY (zB (yk (zB (e2 yO (z6 1) (eC (.int 1))) (zB (z6 2) zD))) zD))))))
noncomputable def pJ:List D->Option (Bool×D):=FR 3 3 Zp
theorem EC:∀ ds r,pJ ds=some r->ds.length=3/\zc 3 Zp ds=some r:=yK
theorem Ls (x0 x1 x2:D):pJ [x0,x1,x2]=zc 3 Zp [x0,x1,x2]:=rfl
noncomputable def Vm:FE:=(zX pJ (zB (e2 zG (z6 1) (z6 2)) (zB (z6 2) (zB (z6 3) zD))))
noncomputable def Zq:FS:=
 (zE (zS 1 (zX x9 (zB (z6 0) zD)))
  (xq (xP 2 (wt (zX vg (zB (z6 0) zD))) (xW 2 3) xV Vm)))
noncomputable def vS:List D->Option (Bool×D):=FR 1 2 Zq
theorem ED:∀ ds r,vS ds=some r->ds.length=1/\zc 2 Zq ds=some r:=yK
theorem Lu (x0:D):vS [x0]=zc 2 Zq [x0]:=rfl
noncomputable def Zg:FS:=
 (ya (e2 zG (zX vS (zB (z6 0) zD)) (z6 1)))
noncomputable def pI:List D->Option (Bool×D):=FR 2 2 Zg
theorem C_:∀ ds r,pI ds=some r->ds.length=2/\zc 2 Zg ds=some r:=yK
theorem Lj (x0 x1:D):pI [x0,x1]=zc 2 Zg [x0,x1]:=rfl
noncomputable def wd:D->Str
 | .tup (.str w::_)=>w
 | _ => ""
noncomputable def g4 (r:D):Str:=match Tw r with
 | .str t=>t
 | _ => ""
noncomputable def y_ (items:List D) (r:D):Option Nat:=match yb r with
 | true=>(yV (g4 r) items).2
 | false=>none
noncomputable def yB:Option Nat->D
 | none=>.non
 | some p=>.int (p:Int)
noncomputable def two (a b:Nat):List Nat:=if a=b then [a] else if a<b then [a,b] else [b,a]
noncomputable def jQ (r:D) (i:Nat) (t:Option Nat):List Nat:=if wd r = "stop" then [] else match t with
 | none=>[i+1]
 | some p=>if wd r = "jump" then [p] else two (i+1) p
noncomputable def zA (items:List D):List D:=items.filter fun d=>!zR d
noncomputable def Wf (items:List D) (i:Nat):List Nat:=match (zA items)[i]? with
 | some r=>jQ r i (y_ items r)
 | none=>[]
theorem YN {g:FG} {e:FE} {σ:zd} (v:Nat->D):∀ {ds:List D} (k:Nat),(∀ i d,ds[i]?=some d->∃ σ1,g d σ=some σ1/\e σ1=some (v (k+i)))->xX g xV e σ ds=some ((List.range' k ds.length).map v)
 | [],_,_=>rfl
 | d::ds,k,h=>by
  obtain ⟨σ1,e1,e2⟩:=h 0 d rfl
  have ih:=YN v (ds:=ds) (k+1) fun i d' hd=>by
   rw [show k+1+i=k+(i+1) by omega]
   exact h (i+1) d' (by simpa using hd)
  show (g d σ).bind _=_
  rw [e1]
  show (e σ1).bind _=_
  rw [e2]
  show (xX g xV e σ ds).bind _=_
  rw [ih]
  rfl
theorem WL {r:D} (h:zw r):zG r (.int 0)=some (.str (wd r)):=by
 cases h with
 | label t=>rfl
 | plain h=>cases h<;>rfl
 | jump t=>rfl
 | cond t hw hk=>rfl
theorem YA {r:D} (h:zw r):yb r=(wd r == "jump" || wd r == "when" || wd r == "unless"):=by
 cases h with
 | label t=>rfl
 | plain h=>cases h<;>rfl
 | jump t=>rfl
 | cond t hw hk=>rfl
theorem YC {r:D} {t:Str} (h:zw r) (hj:yb r=true) (e:zG r (.int (-1))=some (.str t)):g4 r=t:=by
 cases h with
 | label u=>cases hj
 | plain h=>
  obtain ⟨_,_,_,_,z,_⟩:=gF h
  rw [z] at hj
  cases hj
 | jump u=>cases e; rfl
 | cond u hw hk=>cases e; rfl
theorem VU (a b:Str):zm (.str a) (.str b)=some (.bl (a == b)):=rfl
theorem GD (a b:Nat):pY [.lst [.int (a:Int),.int (b:Int)]]=some (.lst (z8 (two a b))):=by
 have e:wb [(a:Int),(b:Int)]=if a=b then [(a:Int)] else [(a:Int),(b:Int)]:=by
  show vW (vW [] (a:Int)) (b:Int)=_
  unfold vW
  by_cases h:a=b
  ·subst h; simp
  ·have:¬ (a:Int)=(b:Int):=by omega
   simp [h,this]
 show (if ([(a:Int),(b:Int)]).length<1000/\(wb [(a:Int),(b:Int)]).length<64 then some (D.lst ((L2.isort (wb [(a:Int),(b:Int)])).map D.int)) else none)=_
 rw [e]
 unfold two
 by_cases h:a=b
 ·rw [if_pos h,if_pos h]
  rfl
 ·rw [if_neg h,if_neg h,if_pos ⟨by show 2<1000; decide,by show 2<64; decide⟩]
  show some (D.lst ((L2.insI (a:Int) [(b:Int)]).map D.int))=_
  unfold L2.insI
  by_cases h2:a<b
  ·rw [if_pos h2,if_pos (by omega)]; rfl
  ·rw [if_neg h2,if_neg (by omega)]; rfl
theorem HR {r:D} (h:zw r) (i:Nat) {t:Option Nat} (ht:t.isSome=yb r):pJ [r,.int (i:Int),yB t]=some (true,.lst (z8 (jQ r i t))):=by
 have e0:=WL h
 have ej:=YA h
 have e1:=VU (wd r) "stop"
 have e2:=VU (wd r) "jump"
 rw [Ls]
 unfold Zp jQ
 by_cases c1:wd r = "stop"
 ·rw [if_pos c1]
  rw [beq_iff_eq.mpr c1] at e1
  simp! [e0,e1]
  rfl
 ·rw [if_neg c1]
  rw [beq_eq_false_iff_ne.mpr c1] at e1
  by_cases c2:wd r = "jump"
  ·rw [beq_iff_eq.mpr c2] at e2 ej
   rw [ej] at ht
   cases t with
   | none=>cases ht
   | some p=>
    dsimp only
    rw [if_pos c2]
    unfold yB
    simp! [e0,e1,e2]
    rfl
  ·rw [beq_eq_false_iff_ne.mpr c2] at e2
   cases t with
   | none=>
    unfold yB
    simp! [e0,e1,e2,qS,add_int]
    rfl
   | some p=>
    dsimp only
    rw [if_neg c2]
    unfold yB
    have e3:=GD (i+1) p
    rw [show ((i+1:Nat):Int)=(i:Int)+1 by omega] at e3
    simp! [e0,e1,e2,qS,add_int,e3]
theorem IP {items:List D} (P:PC items) {r:D} (hr:r∈items):(y_ items r).isSome=yb r/\∀ t,yb r=true->zG r (.int (-1))=some (.str t)->g4 r=t:=by
 have hi:=P.it r hr
 refine ⟨?_,fun t hj e=>YC hi hj e⟩
 unfold y_
 cases hj:yb r with
 | false=>rfl
 | true=>
  obtain ⟨t,p,e1,e2⟩:=P.tg r hr hj
  rw [YC hi hj e1,e2]
  rfl
theorem VZ {items:List D} (P:PC items):vg [.lst items]=some (true,.lst ((zA items).map fun r=>yB (y_ items r))):=by
 obtain ⟨ks,vs,e1,hk⟩:=Tv P.it (by have:=P.ln; omega)
 have e2:x9 [.lst items]=some (true,.lst (zA items)):=tu P.it
 have e3:=pw (g:=zh 2) (e:=Vl) (σ:=[some (false,.lst items),some (false,.dic ks vs),none]) (fun r=>yB (y_ items r)) (ds:=zA items) fun r hr=>by
  have hm:r∈items:=(List.mem_filter.mp hr).1
  have hj:=WJ (P.it r hm)
  refine ⟨_,rfl,?_⟩
  unfold Vl y_
  cases z:yb r with
  | true=>
   rw [z] at hj
   obtain ⟨t,p,b1,b2⟩:=P.tg r hm z
   have eg:zG (.dic ks vs) (.str t)=some (.int (p:Int)):=by
    show getK ks vs (.inr t)=_
    rw [hk,b2]
    rfl
   rw [YC (P.it r hm) z b1,b2]
   unfold yB
   simp! [hj,b1,eg]
  | false=>
   rw [z] at hj
   unfold yB
   simp! [hj]
 rw [Lq]
 unfold Zn
 simp! [e1,e2,e3]
noncomputable def yy (items:List D):List D:=(List.range (zA items).length).map fun i=>.lst (z8 (Wf items i))
theorem XB {items:List D} (P:PC items):vS [.lst items]=some (true,.lst (yy items)):=by
 have e1:x9 [.lst items]=some (true,.lst (zA items)):=tu P.it
 have e2:=VZ P
 have e3:=YN (g:=xW 2 3) (e:=Vm) (σ:=[some (false,.lst items),some (false,.lst (zA items)),none,none]) (fun i=>.lst (z8 (Wf items i))) (ds:=vM ((zA items).map fun r=>yB (y_ items r))) 0 fun i d hd=>by
  rw [qe,List.getElem?_map] at hd
  cases hr:(zA items)[i]? with
  | none=>rw [hr] at hd; cases hd
  | some r=>
   rw [hr] at hd
   cases hd
   refine ⟨_,rfl,?_⟩
   have hm:r∈items:=(List.mem_filter.mp (List.mem_of_getElem? hr)).1
   have e4:=HR (P.it r hm) i (t:=y_ items r) (IP P hm).1
   have ew:Wf items i=jQ r i (y_ items r):=by unfold Wf; rw [hr]
   rw [Nat.zero_add,ew]
   have ix:zG (.lst (zA items)) (.int (i:Int))=some r:=vF (by omega) (by rw [Int.toNat_natCast]; exact hr)
   unfold Vm
   simp! [ix,e4]
 rw [tD,List.length_map,<- List.range_eq_range'] at e3
 rw [Lu]
 unfold Zq yy
 generalize (zA items).map (fun r=>yB (y_ items r))=ts at *
 simp! [e1,e2,wt,e3]
theorem XC {items:List D} {i:Nat} (h:i<(zA items).length):zG (.lst (yy items)) (.int (i:Int))=some (.lst (z8 (Wf items i))):=by
 refine vF (by omega) ?_
 unfold yy
 rw [Int.toNat_natCast,List.getElem?_map,List.getElem?_range h]
 rfl
theorem B7 {items:List D} (P:PC items) {i:Nat} (h:i<(zA items).length):pI [.lst items,.int (i:Int)]=some (false,.lst (z8 (Wf items i))):=by
 have e1:=XB P
 have e2:=XC h
 rw [Lj]
 unfold Zg
 simp! [e1,e2]
theorem Wu (t:Str):∀ (L:List D) (s:Nat×Option Nat),(∀ p,s.2=some p->p<=s.1)->∀ p,(L.foldl (xY t) s).2=some p->p<=(L.foldl (xY t) s).1
 | [],s,h=>h
 | d::L,s,h=>by
  rw [List.foldl_cons]
  refine Wu t L _ fun p hp=>?_
  unfold xY at hp ⊢
  cases hl:zR d with
  | true=>
   rw [hl] at hp
   dsimp only at hp ⊢
   cases hn:qb t d with
   | true=>
    rw [hn] at hp
    cases hp
    exact Nat.le_refl _
   | false=>
    rw [hn] at hp
    exact h p hp
  | false=>
   rw [hl] at hp
   exact Nat.le_succ_of_le (h p hp)
theorem ZH {items:List D} {i w:Nat} (hi:i<(zA items).length) (h:w∈Wf items i):w<=(zA items).length:=by
 have bound:∀ t p,(yV t items).2=some p->p<=(zA items).length:=fun t p hp=>by
  have:=Wu t items (0,none) (fun p z=>nomatch z) p hp
  rw [Yk t items (0,none),Nat.zero_add] at this
  exact this
 unfold Wf at h
 rw [List.getElem?_eq_getElem hi] at h
 generalize (zA items)[i]=r at h
 dsimp only at h
 unfold jQ at h
 split at h
 ·cases h
 ·have hb:∀ p,y_ items r=some p->p<=(zA items).length:=fun p hp=>by
   unfold y_ at hp
   split at hp
   ·exact bound _ _ hp
   ·cases hp
  split at h
  ·cases List.mem_singleton.mp h
   omega
  ·rename_i p hp
   have:=hb p hp
   split at h
   ·cases List.mem_singleton.mp h
    omega
   ·unfold two at h
    split at h
    ·cases List.mem_singleton.mp h
     omega
    ·split at h
     ·rcases List.mem_cons.mp h with rfl | h
      ·omega
      ·cases List.mem_singleton.mp h; omega
     ·rcases List.mem_cons.mp h with rfl | h
      ·omega
      ·cases List.mem_singleton.mp h; omega
theorem XZ (items:List D) (i:Nat):(Wf items i).length<=2:=by
 unfold Wf jQ two
 split
 ·split
  ·exact Nat.zero_le _
  ·split
   ·exact Nat.succ_le_succ (Nat.zero_le _)
   ·split
    ·exact Nat.succ_le_succ (Nat.zero_le _)
    ·split
     ·exact Nat.succ_le_succ (Nat.zero_le _)
     ·split<;>exact Nat.le_refl 2
 ·exact Nat.zero_le _
end L3
namespace L3
open PySem
noncomputable def WP:FS:=(zS 2 (e2 (xt Builtin.bitOr) (z6 2) (e2 zG (z6 0) (z6 3))))
noncomputable def Ze:FS:=
 (zE (zS 2 (eC (.int 0)))
  (zE (vA (xc (z6 1)) (zh 3)
   WP)
  (ya (z6 2))))
noncomputable def uf:List D->Option (Bool×D):=FR 2 4 Ze
theorem Cy:∀ ds r,uf ds=some r->ds.length=2/\zc 4 Ze ds=some r:=yK
theorem Lh (x0 x1:D):uf [x0,x1]=zc 4 Ze [x0,x1]:=rfl
noncomputable def Yo:FA:=(vI (eC (.int 0)) (e2 yO (eL xL (zB (z6 0) zD)) (eC (.int 1))))
noncomputable def WX:xj:=(vJ (z6 2) (z6 3))
noncomputable def jz:xj:=(t7 (xc (z6 4)) (zh 2)
      WX)
noncomputable def Xc:FS:=
 (ql 1 (jy Yo)
  (wv (t7 (wt (z6 0)) (xW 3 4)
    jz)
   tq))
noncomputable def qE:List D->Option (Bool×D):=FR 1 5 Xc
theorem CU:∀ ds r,qE ds=some r->ds.length=1/\zc 5 Xc ds=some r:=yK
theorem LM (x0:D):qE [x0]=zc 5 Xc [x0]:=rfl
noncomputable def jt:FS:=(zE (tw 6 5)
    (zE (zS 7 (e2 (xt Builtin.bitOr) (zX vh (zB (e2 zG (z6 1) (z6 6)) zD)) (e2 (xt Builtin.bitAnd) (Zw uf (zB (wp 4) (zB (e2 zG (z6 2) (z6 6)) zD))) (e1 Y0 (zX wK (zB (e2 zG (z6 1) (z6 6)) zD))))))
    (yP (tE (e2 xM (z6 7) (e2 zG (wp 4) (z6 6))))
     (zE (gM 4 (z6 6) (z6 7))
      (qj 5 (e2 zG (z6 3) (z6 6))))
     yW)))
noncomputable def jc:FT:=(tE (e2 xM (wp 5) (yk zD)))
noncomputable def Zf:FS:=
 (zE (zS 1 (zX x9 (zB (z6 0) zD)))
  (zE (zS 2 (zX vS (zB (z6 0) zD)))
  (zE (zS 3 (zX qE (zB (z6 2) zD)))
  (zE (vO 4 (e2 jh (e2 jj (yk (zB (eC (.int 0)) zD)) (eL xL (zB (z6 1) zD))) (yk (zB (eC (.int 2047)) zD))))
  (zE (vO 5 (eL X_ (zB (eL xL (zB (z6 1) zD)) zD)))
  (zE (uV jc
   jt)
  (zE (qk 5) (uU 4))))))))
noncomputable def vQ:List D->Option (Bool×D):=FR 1 8 Zf
theorem Cz:∀ ds r,vQ ds=some r->ds.length=1/\zc 8 Zf ds=some r:=yK
theorem Li (x0:D):vQ [x0]=zc 8 Zf [x0]:=rfl
noncomputable def gt (T:List Nat) (i:Nat):Nat:=T.getD i 0
theorem Lx {T:List Nat} {i:Nat} (h:i<T.length):T[i]?=some (gt T i):=by
 unfold gt
 rw [List.getD_eq_getElem?_getD,List.getElem?_eq_getElem h]
 rfl
theorem Lw {T:List Nat} {m i x:Nat} (h:m<T.length):gt (T.set m x) i=if i=m then x else gt T i:=by
 unfold gt
 rw [List.getD_eq_getElem?_getD,List.getD_eq_getElem?_getD,List.getElem?_set]
 by_cases c:m=i
 ·rw [if_pos c,if_pos c.symm,if_pos (c ▸ h)]
  rfl
 ·rw [if_neg c,if_neg (fun z=>c z.symm)]
noncomputable def yd (T:List Nat) (ws:List Nat):Nat:=ws.foldl (fun a w=>a ||| gt T w) 0
theorem Ql (T:List Nat) (k:Nat):∀ (ws:List Nat) (a:Nat),(ws.foldl (fun a w=>a ||| gt T w) a).testBit k=true↔a.testBit k=true\/∃ w∈ws,(gt T w).testBit k=true
 | [],a=>⟨.inl,fun h=>h.elim id fun ⟨_,z,_⟩=>by cases z⟩
 | w::ws,a=>by
  rw [List.foldl_cons,Ql T k ws,Nat.testBit_or,Bool.or_eq_true]
  constructor
  ·rintro ((h | h) | ⟨v,hv,h⟩)
   ·exact .inl h
   ·exact .inr ⟨w,List.mem_cons_self,h⟩
   ·exact .inr ⟨v,List.mem_cons_of_mem _ hv,h⟩
  ·rintro (h | ⟨v,hv,h⟩)
   ·exact .inl (.inl h)
   ·rcases List.mem_cons.mp hv with rfl | hv
    ·exact .inl (.inr h)
    ·exact .inr ⟨v,hv,h⟩
theorem DW (T ws:List Nat) (k:Nat):(yd T ws).testBit k=true↔∃ w∈ws,(gt T w).testBit k=true:=by
 unfold yd
 rw [Ql,Nat.zero_testBit]
 exact ⟨fun h=>h.elim (fun z=>by cases z) id,.inr⟩
theorem Qm (T ws:List Nat) (w:Nat):yd T (ws++[w])=(yd T ws ||| gt T w):=by
 unfold yd
 rw [List.foldl_append]
 rfl
theorem DX {T:List Nat} (h:∀ i,gt T i<2048) (ws:List Nat):yd T ws<2048:=by
 have:∀ (ws:List Nat) (a:Nat),a<2048->ws.foldl (fun a w=>a ||| gt T w) a<2048:=by
  intro ws
  induction ws with
  | nil=>exact fun a ha=>ha
  | cons w ws ih=>exact fun a ha=>ih _ (Qk ha (h w))
 exact this ws 0 (by decide)
noncomputable def rl (u p:Nat) (T ws:List Nat):Nat:=u ||| (yd T ws - (yd T ws &&& p))
theorem CN (u p:Nat) (T ws:List Nat) (k:Nat):(rl u p T ws).testBit k=true↔u.testBit k=true\/((∃ w∈ws,(gt T w).testBit k=true)/\p.testBit k=false):=by
 unfold rl
 rw [Nat.testBit_or,Ue,Bool.or_eq_true,Bool.and_eq_true,DW,Bool.not_eq_true']
theorem gL {u p:Nat} {T T' ws:List Nat} (h:∀ w∈ws,Sb (gt T w) (gt T' w)):Sb (rl u p T ws) (rl u p T' ws):=fun k z=>by
 rw [CN] at z ⊢
 exact z.imp id fun ⟨⟨w,hw,e⟩,hp⟩=>⟨⟨w,hw,h w hw k e⟩,hp⟩
theorem CO {u p:Nat} {T T' ws:List Nat} (h:∀ w∈ws,gt T w=gt T' w):rl u p T ws=rl u p T' ws:=
 (gL fun w hw=>by rw [h w hw]; exact Sb.refl _).anti (gL fun w hw=>by rw [h w hw]; exact Sb.refl _)
theorem Jc {u p:Nat} {T ws:List Nat} (hu:u<2048) (h:∀ i,gt T i<2048):rl u p T ws<2048:=Qk hu (Ou _ (DX h ws))
structure Ir (n:Nat) (U P:Nat->Nat) (W:Nat->List Nat) (S:List Nat):Prop where
 last:gt S n=2047
 all:∀ i,i<n->Sb (rl (U i) (P i) S (W i)) (gt S i)
structure NI (n:Nat) (U P:Nat->Nat) (W:Nat->List Nat) (T dl:List Nat):Prop where
 len:T.length=n+1
 last:gt T n=2047
 lt:∀ i,gt T i<2048
 up:∀ i,i<n->Sb (gt T i) (rl (U i) (P i) T (W i))
 fx:∀ i,i<n->i ∉ dl->gt T i=rl (U i) (P i) T (W i)
 dn:∀ i∈dl,i<n
 least:∀ S,Ir n U P W S->∀ i,i<=n->Sb (gt T i) (gt S i)
section
variable {n:Nat} {U P:Nat->Nat} {W:Nat->List Nat} {T dl:List Nat} {m:Nat}
theorem BD:NI n U P W (List.replicate n 0++[2047]) (List.range n):=by
 have g0:∀ i,i<n->gt (List.replicate n 0++[2047]) i=0:=fun i hi=>by
  unfold gt
  rw [List.getD_eq_getElem?_getD,List.getElem?_append_left (by rw [List.length_replicate]; exact hi),List.getElem?_replicate,if_pos hi]
  rfl
 have gn:gt (List.replicate n 0++[2047]) n=2047:=by
  unfold gt
  rw [List.getD_eq_getElem?_getD,List.getElem?_append_right (by rw [List.length_replicate]; exact Nat.le_refl _),List.length_replicate,Nat.sub_self]
  rfl
 refine ⟨by rw [List.length_append,List.length_replicate]; rfl,gn,fun i=>?_,fun i hi=>by rw [g0 i hi]; exact VE _,fun i hi z=>(z (List.mem_range.mpr hi)).elim,fun i hi=>List.mem_range.mp hi,fun S c i hi=>?_⟩
 ·rcases Nat.lt_trichotomy i n with h | h | h
  ·rw [g0 i h]; decide
  ·rw [h,gn]; decide
  ·unfold gt
   rw [List.getD_eq_getElem?_getD,List.getElem?_eq_none (by rw [List.length_append,List.length_replicate]; exact h)]
   decide
 ·rcases Nat.lt_or_ge i n with h | h
  ·rw [g0 i h]; exact VE _
  ·have:i=n:=by omega
   rw [this,gn,c.last]
   exact Sb.refl _
theorem BC (N:NI n U P W T (dl++[m])) (e:rl (U m) (P m) T (W m)=gt T m):NI n U P W T dl:=⟨N.len,N.last,N.lt,N.up,fun i hi h=>by
 by_cases c:i=m
 ·rw [c,e]
 ·exact N.fx i hi fun z=>(List.mem_append.mp z).elim h fun z=>c (List.mem_singleton.mp z),fun i hi=>N.dn i (List.mem_append_left _ hi),N.least⟩
theorem BA {C:List Nat} (N:NI n U P W T (dl++[m])) (hu:U m<2048) (hC:∀ j,j∈C↔(j<n/\m∈W j)):NI n U P W (T.set m (rl (U m) (P m) T (W m))) (dl++C):=by
 have hm:m<n:=N.dn m (List.mem_append_right _ (List.mem_singleton.mpr rfl))
 have ht:m<T.length:=by rw [N.len]; omega
 have gs:∀ i,gt (T.set m (rl (U m) (P m) T (W m))) i=if i=m then rl (U m) (P m) T (W m) else gt T i:=fun i=>Lw ht
 have up:∀ i,Sb (gt T i) (gt (T.set m (rl (U m) (P m) T (W m))) i):=fun i=>by
  rw [gs]
  by_cases c:i=m
  ·rw [if_pos c,c]; exact N.up m hm
  ·rw [if_neg c]; exact Sb.refl _
 have same:∀ i,m ∉ W i->rl (U i) (P i) T (W i)=rl (U i) (P i) (T.set m (rl (U m) (P m) T (W m))) (W i):=fun i h=>CO fun w hw=>by
  rw [gs,if_neg (fun z:w=m=>h (z ▸ hw))]
 refine ⟨by rw [List.length_set]; exact N.len,by rw [gs,if_neg (by omega)]; exact N.last,fun i=>?_,fun i hi=>?_,fun i hi h=>?_,fun i hi=>?_,fun S c i hi=>?_⟩
 ·rw [gs]
  split
  ·exact Jc hu N.lt
  ·exact N.lt i
 ·rw [gs]
  by_cases c:i=m
  ·rw [if_pos c,c]; exact gL fun w _=>up w
  ·rw [if_neg c]; exact (N.up i hi).trans (gL fun w _=>up w)
 ·have nw:m ∉ W i:=fun z=>h (List.mem_append_right _ ((hC i).mpr ⟨hi,z⟩))
  rw [<- same i nw,gs]
  by_cases c:i=m
  ·rw [if_pos c,c]
  ·rw [if_neg c]
   exact N.fx i hi fun z=>(List.mem_append.mp z).elim (fun z=>h (List.mem_append_left _ z)) fun z=>c (List.mem_singleton.mp z)
 ·rcases List.mem_append.mp hi with z | z
  ·exact N.dn i (List.mem_append_left _ z)
  ·exact ((hC i).mp z).1
 ·rw [gs]
  by_cases e:i=m
  ·rw [if_pos e,e]
   refine Sb.trans (gL fun w hw=>?_) (c.all m hm)
   rcases Nat.lt_or_ge w (n+1) with hw' | hw'
   ·exact N.least S c w (by omega)
   ·have:gt T w=0:=by
     unfold gt
     rw [List.getD_eq_getElem?_getD,List.getElem?_eq_none (by rw [N.len]; exact hw')]
     rfl
    rw [this]
    exact VE _
  ·rw [if_neg e]; exact N.least S c i hi
noncomputable def v_ (T:List Nat):Nat:=(T.map pc).sum
theorem II:∀ T:List Nat,v_ T<=11*T.length
 | []=>Nat.le_refl _
 | x::T=>by
  have:=II T
  have h:=pc_le x
  show pc x+(T.map pc).sum<=11*(T.length+1)
  unfold v_ at this
  omega
theorem IJ:∀ {T:List Nat} {m x:Nat},m<T.length->v_ (T.set m x)+pc (gt T m)=v_ T+pc x
 | [],m,x,h=>by cases h
 | y::T,0,x,_=>by
  show pc x+(T.map pc).sum+pc y=pc y+(T.map pc).sum+pc x
  omega
 | y::T,m+1,x,h=>by
  have ih:=IJ (T:=T) (m:=m) (x:=x) (by simpa using h)
  have e:gt (y::T) (m+1)=gt T m:=rfl
  rw [e]
  show pc y+v_ (T.set m x)+pc (gt T m)=pc y+v_ T+pc x
  omega
end
theorem YX {T:List Nat} {i:Nat} (h:i<T.length):zG (.lst (z8 T)) (.int (i:Int))=some (.int (gt T i:Nat)):=by
 refine vF (by omega) ?_
 unfold z8
 rw [Int.toNat_natCast,List.getElem?_map,Lx h]
 rfl
theorem QH {T ws:List Nat} (h:∀ w∈ws,w<T.length):uf [.lst (z8 T),.lst (z8 ws)]=some (false,.int (yd T ws:Nat)):=by
 obtain ⟨σ',e1,x3,rfl⟩:=t5 (g:=zh 3) (b:=WP) (fun i σ=>∃ x3,σ=[some (false,.lst (z8 T)),some (false,.lst (z8 ws)),some (false,.int ((yd T (ws.take i):Nat):Int)),x3]) (ds:=z8 ws)
  (σ:=[some (false,.lst (z8 T)),some (false,.lst (z8 ws)),some (false,.int 0),none]) 0 ⟨none,rfl⟩ (by
  rintro i d σ hd ⟨x3,rfl⟩
  rw [Nat.zero_add]
  unfold z8 at hd
  rw [List.getElem?_map] at hd
  cases hw:ws[i]? with
  | none=>rw [hw] at hd; cases hd
  | some w=>
   rw [hw] at hd
   cases hd
   have hi:=(List.getElem?_eq_some_iff.mp hw).1
   have ix:=YX (T:=T) (h w (List.mem_of_getElem? hw))
   have eo:yd T (ws.take (i+1))=(yd T (ws.take i) ||| gt T w):=by
    rw [List.take_succ_eq_append_getElem hi,Qm]
    rw [List.getElem?_eq_getElem hi] at hw
    cases hw
    rfl
   have eb:=Xm (yd T (ws.take i)) (gt T w)
   rw [<- eo] at eb
   refine ⟨_,[some (false,.lst (z8 T)),some (false,.lst (z8 ws)),some (false,.int ((yd T (ws.take (i+1)):Nat):Int)),some (false,.int (w:Int))],rfl,.inl ?_,_,rfl⟩
   unfold WP
   generalize z8 T=TT at *
   generalize z8 ws=WW at *
   simp! [ix,eb])
 have hl:(z8 ws).length=ws.length:=by unfold z8; rw [List.length_map]
 rw [hl,Nat.zero_add,List.take_length] at e1
 rw [Lh]
 unfold Ze
 generalize z8 T=TT at *
 generalize z8 ws=WW at *
 simp! [e1]
theorem YU {g:FG} {b:xj} (P:Nat->List (List D)->zd->Prop):∀ {ds:List D} {nds:List (List D)} {σ:zd} (n:Nat),P n nds σ->(∀ i d nds σ,ds[i]?=some d->P (n+i) nds σ->∃ σ1 nds2 σ2,g d σ=some σ1/\b nds σ1=some (.nx nds2 σ2)/\P (n+i+1) nds2 σ2)->
  ∃ nds' σ',jw g b ds nds σ=some (.nx nds' σ')/\P (n+ds.length) nds' σ'
 | [],nds,σ,n,h,_=>⟨nds,σ,rfl,h⟩
 | d::ds,nds,σ,n,h,step=>by
  obtain ⟨σ1,nds2,σ2,e1,e2,p2⟩:=step 0 d nds σ rfl h
  obtain ⟨nds',σ',e3,p3⟩:=YU P (ds:=ds) (nds:=nds2) (σ:=σ2) (n+1) p2 fun i d' nn τ hd hp=>by
   obtain ⟨a,b1,b2,c1,c2,c3⟩:=step (i+1) d' nn τ (by simpa using hd) (by rw [show n+(i+1)=n+1+i by omega]; exact hp)
   exact ⟨a,b1,b2,c1,c2,by rw [show n+1+i+1=n+(i+1)+1 by omega]; exact c3⟩
  refine ⟨nds',σ',?_,by rw [List.length_cons,show n+(ds.length+1)=n+1+ds.length by omega]; exact p3⟩
  show (g d σ).bind _=_
  rw [e1]
  show (b nds σ1).bind _=_
  rw [e2]
  exact e3
noncomputable def gl (L:List (List Nat)) (p:Nat):List Nat:=L.getD p []
theorem T8 {L:List (List Nat)} {i:Nat} (h:i<L.length):L[i]?=some (gl L i):=by
 unfold gl
 rw [List.getD_eq_getElem?_getD,List.getElem?_eq_getElem h]
 rfl
theorem T7 {T:List (List Nat)} {m i:Nat} {x:List Nat} (h:m<T.length):gl (T.set m x) i=if i=m then x else gl T i:=by
 unfold gl
 rw [List.getD_eq_getElem?_getD,List.getD_eq_getElem?_getD,List.getElem?_set]
 by_cases c:m=i
 ·rw [if_pos c,if_pos c.symm,if_pos (c ▸ h)]
  rfl
 ·rw [if_neg c,if_neg (fun z=>c z.symm)]
theorem Of {n:Nat} {W:Nat->List Nat} (hn:n<=100) (hw:∀ i,i<n->∀ w∈W i,w<=n) (hl:∀ i,(W i).length<=2) :
  ∃ L:List (List Nat),L.length=n+1/\(∀ p,p<=n->∀ j,j∈gl L p↔(j<n/\p∈W j))/\(∀ p,(gl L p).length<=2*n)/\qE [.lst ((List.range n).map fun i=>.lst (z8 (W i)))]=some (false,.lst (L.map fun l=>.lst (z8 l))):=by
 obtain ⟨ws,hws⟩:∃ ws:List D,ws=(List.range n).map fun i=>.lst (z8 (W i)):=⟨_,rfl⟩
 have wl:ws.length=n:=by rw [hws,List.length_map,List.length_range]
 have r1:Yo [some (false,.lst ws),none,none,none,none]=some (xD (n+1)):=by
  refine uT (n:=((n+1:Nat):Int)) ?_ (by omega)
  show some (D.int ((ws.length:Int)+1))=_
  rw [wl]
  rfl
 rw [<- hws]
 obtain ⟨nds',σ',e1,L,x2,x3,x4,l1,l2,l3,rfl,rfl⟩:=YU (g:=xW 3 4) (b:=jz) (fun i nds σ=>∃ (L:List (List Nat)) (x2 x3 x4:Option (Bool×D)),L.length=n+1/\(∀ p,p<=n->∀ j,j∈gl L p↔(j<i/\p∈W j))/\(∀ p,(gl L p).length<=2*i)/\nds=L.map z8/\σ=[some (false,.lst ws),none,x2,x3,x4]) (ds:=vM ws)
  (nds:=List.replicate (n+1) []) (σ:=[some (false,.lst ws),none,none,none,none]) 0 ⟨List.replicate (n+1) [],none,none,none,List.length_replicate,fun p hp j=>by
   rw [show gl (List.replicate (n+1) []) p=[] by unfold gl; rw [List.getD_eq_getElem?_getD,List.getElem?_replicate]; split<;>rfl]
   exact ⟨fun z=>(List.not_mem_nil z).elim,fun z=>(Nat.not_lt_zero _ z.1).elim⟩,fun p=>by
   rw [show gl (List.replicate (n+1) []) p=[] by unfold gl; rw [List.getD_eq_getElem?_getD,List.getElem?_replicate]; split<;>rfl]
   exact Nat.zero_le _,by rw [List.map_replicate]; rfl,rfl⟩ (by
  rintro i d nds σ hd ⟨L,x2,x3,x4,l1,l2,l3,rfl,rfl⟩
  rw [Nat.zero_add] at *
  rw [qe] at hd
  have hi:i<n:=by
   rw [<- wl]
   cases z:ws[i]? with
   | none=>rw [z] at hd; cases hd
   | some y=>exact (List.getElem?_eq_some_iff.mp z).1
  have ew:ws[i]?=some (.lst (z8 (W i))):=by rw [hws,List.getElem?_map,List.getElem?_range hi]; rfl
  rw [ew] at hd
  cases hd
  obtain ⟨nds2,σ2,e2,L2,y2,k1,k2,k3,rfl,rfl⟩:=YU (g:=zh 2) (b:=WX) (fun k nds σ=>∃ (L:List (List Nat)) (x2:Option (Bool×D)),L.length=n+1/\(∀ p,p<=n->∀ j,j∈gl L p↔(j<i/\p∈W j\/j=i/\p∈(W i).take k))/\(∀ p,(gl L p).length<=2*i+k)/\nds=L.map z8/\σ=[some (false,.lst ws),none,x2,some (false,.int (i:Int)),some (false,.lst (z8 (W i)))]) (ds:=z8 (W i))
   (nds:=L.map z8) (σ:=[some (false,.lst ws),none,x2,some (false,.int (i:Int)),some (false,.lst (z8 (W i)))]) 0 ⟨L,x2,l1,fun p hp j=>by
    rw [l2 p hp j]
    exact ⟨.inl,fun z=>z.elim id fun z=>by rw [List.take_zero] at z; cases z.2⟩,l3,rfl,rfl⟩ (by
   rintro k d nds σ hd ⟨L,x2,l1,l2,l3,rfl,rfl⟩
   rw [Nat.zero_add] at *
   unfold z8 at hd
   rw [List.getElem?_map] at hd
   cases hw':(W i)[k]? with
   | none=>rw [hw'] at hd; cases hd
   | some w=>
    rw [hw'] at hd
    cases hd
    have hk:=(List.getElem?_eq_some_iff.mp hw').1
    have wn:=hw i hi w (List.mem_of_getElem? hw')
    have hwl:w<L.length:=by omega
    have et:(W i).take (k+1)=(W i).take k++[w]:=by
     rw [List.take_succ_eq_append_getElem hk]
     rw [List.getElem?_eq_getElem hk] at hw'
     cases hw'
     rfl
    refine ⟨_,(L.set w (gl L w++[i])).map z8,[some (false,.lst ws),none,some (false,.int (w:Int)),some (false,.int (i:Int)),some (false,.lst (z8 (W i)))],rfl,?_,L.set w (gl L w++[i]),_,by rw [List.length_set]; exact l1,fun p hp j=>?_,fun p=>?_,rfl,rfl⟩
    ·have en:(L.map z8)[w]?=some (z8 (gl L w)):=by rw [List.getElem?_map,T8 hwl]; rfl
     have es:(L.map z8).set w (z8 (gl L w)++[D.int (i:Int)])=(L.set w (gl L w++[i])).map z8:=by
      rw [List.map_set]
      unfold z8
      rw [List.map_append]
      rfl
     unfold WX
     show (match (L.map z8)[((w:Nat):Int).toNat]? with
      | some ds=>if 0<=((w:Nat):Int)/\ds.length<zu then some (NF.nx ((L.map z8).set ((w:Nat):Int).toNat (ds++[D.int (i:Int)])) [some (false,.lst ws),none,some (false,.int (w:Int)),some (false,.int (i:Int)),some (false,.lst (z8 (W i)))]) else none
      | none=>none)=_
     rw [Int.toNat_natCast,en]
     dsimp only
     rw [if_pos ⟨by omega,by
      unfold z8
      rw [List.length_map]
      have:=l3 w
      have:=hl i
      show _<16777216
      omega⟩,es]
    ·rw [T7 hwl,et]
     by_cases c:p=w
     ·rw [if_pos c,List.mem_append,c,l2 w wn,List.mem_append,List.mem_singleton,List.mem_singleton]
      constructor
      ·rintro ((h | h) | h)
       ·exact .inl h
       ·exact .inr ⟨h.1,.inl h.2⟩
       ·exact .inr ⟨h,.inr rfl⟩
      ·rintro (h | ⟨h,h2 | h2⟩)
       ·exact .inl (.inl h)
       ·exact .inl (.inr ⟨h,h2⟩)
       ·exact .inr h
     ·rw [if_neg c,l2 p hp,List.mem_append,List.mem_singleton]
      constructor
      ·rintro (h | h)
       ·exact .inl h
       ·exact .inr ⟨h.1,.inl h.2⟩
      ·rintro (h | ⟨h,h2 | h2⟩)
       ·exact .inl h
       ·exact .inr ⟨h,h2⟩
       ·exact absurd h2 c
    ·rw [T7 hwl]
     have:=l3 p
     have:=l3 w
     split
     ·rw [List.length_append,List.length_singleton]; omega
     ·omega)
  have hln:(z8 (W i)).length=(W i).length:=by unfold z8; rw [List.length_map]
  rw [hln,Nat.zero_add,List.take_length] at k2
  rw [hln,Nat.zero_add] at k3
  refine ⟨_,_,_,rfl,?_,L2,y2,some (false,.int (i:Int)),some (false,.lst (z8 (W i))),k1,fun p hp j=>?_,fun p=>?_,rfl,rfl⟩
  ·exact e2
  ·rw [k2 p hp j]
   constructor
   ·rintro (h | ⟨rfl,h⟩)
    ·exact ⟨by omega,h.2⟩
    ·exact ⟨by omega,h⟩
   ·rintro ⟨h1,h2⟩
    rcases Nat.lt_or_ge j i with c | c
    ·exact .inl ⟨c,h2⟩
    ·have:j=i:=by omega
     subst this
     exact .inr ⟨rfl,h2⟩
  ·have:=k3 p
   have:=hl i
   omega)
 rw [tD,wl,Nat.zero_add] at l2 l3
 refine ⟨L,l1,l2,l3,?_⟩
 rw [LM]
 show (ql 1 (jy Yo) _ [some (false,.lst ws),none,none,none,none]).bind _=_
 have en:ql 1 (jy Yo) (wv (t7 (wt (z6 0)) (xW 3 4) jz) tq) [some (false,.lst ws),none,none,none,none]=some (.rt false (.lst (L.map fun l=>.lst (z8 l)))):=by
  unfold ql
  rw [show vL [some (false,.lst ws),none,none,none,none]=true from rfl]
  dsimp only
  unfold jy
  rw [r1]
  have e3:t7 (wt (z6 0)) (xW 3 4) jz (List.replicate (n+1) []) [some (false,.lst ws),none,none,none,none]=some (.nx (L.map z8) [some (false,.lst ws),none,x2,x3,x4]):=e1
  have e4:wv (t7 (wt (z6 0)) (xW 3 4) jz) tq (List.replicate (n+1) []) [some (false,.lst ws),none,none,none,none]=some (.rt (.lst (L.map fun l=>.lst (z8 l)))):=by
   unfold wv
   rw [e3]
   show (if (L.map z8).length<=zu then some (NF.rt (.lst ((L.map z8).map .lst))) else none)=_
   rw [if_pos (by rw [List.length_map,l1]; show _<=16777216; omega),List.map_map]
   rfl
  show ((some (xD (n+1)).length).bind _)=_
  rw [tM]
  show ((wv _ _ (List.replicate (n+1) []) [some (false,.lst ws),none,none,none,none]).bind _)=_
  rw [e4]
  rfl
 rw [en]
 rfl
end L3
namespace L3
open PySem
theorem J0 {σ:zd} {i j:Nat} {ds:List D} {d:D} (h:σ[i]?=some (some (true,.lst (ds++[d])))) (ne:j≠i):tw j i σ=some (.nx ((σ.set i (some (true,.lst ds))).set j (some (false,d)))):=by
 unfold tw
 rw [h]
 dsimp only
 rw [List.getLast?_append,List.dropLast_concat]
 show (if j=i then none else _)=_
 rw [if_neg ne]
 rfl
theorem Ec {σ:zd} {i j:Nat} {k v:FE} {ds:List D} {y:D} (hv:v σ=some y) (h:σ[i]?=some (some (true,.lst ds))) (hk:k σ=some (.int (j:Int))) (hj:j<ds.length):gM i k v σ=some (.nx (σ.set i (some (true,.lst (ds.set j y))))):=by
 unfold gM
 rw [hv]
 show (match σ[i]? with
  | some (some (true,.lst ds))=>(k σ).bind fun x=>match x with
   | .int j=>(L2.ixN ds.length j).bind fun n=>some (Fl.nx (σ.set i (some (true,.lst (ds.set n y)))))
   | _=>none
  | _=>none)=_
 rw [h]
 dsimp only
 rw [hk]
 show (L2.ixN ds.length (j:Int)).bind _=_
 unfold L2.ixN
 rw [if_pos (by omega),if_pos (by omega),Int.toNat_natCast]
 rfl
theorem Uv {σ:zd} {i:Nat} {f:FE} {xs ys:List D} (h:σ[i]?=some (some (true,.lst xs))) (hf:f σ=some (.lst ys)) (hl:xs.length+ys.length<=10000000):qj i f σ=some (.nx (σ.set i (some (true,.lst (xs++ys))))):=by
 unfold qj
 rw [h]
 dsimp only
 rw [hf]
 show (if xs.length+ys.length<=zu then _ else _)=_
 rw [if_pos (by show _<=16777216; omega)]
theorem vK (T:List Nat):(z8 T).length=T.length:=by unfold z8; rw [List.length_map]
theorem j_ (T:List Nat) (m:Nat):z8 (T++[m])=z8 T++[.int (m:Int)]:=by unfold z8; rw [List.map_append]; rfl
theorem WY (T S:List Nat):z8 (T++S)=z8 T++z8 S:=by unfold z8; rw [List.map_append]
theorem B2 (T:List Nat) (m x:Nat):(z8 T).set m (.int (x:Int))=z8 (T.set m x):=by unfold z8; rw [List.map_set]
noncomputable def zt (items:List D) (i:Nat):D:=(zA items).getD i .non
noncomputable def Uf (items:List D) (i:Nat):Nat:=tt (vh [zt items i])
noncomputable def Pf (items:List D) (i:Nat):Nat:=tt (wK [zt items i])
theorem jE {items:List D} {i:Nat} (h:i<(zA items).length):(zA items)[i]?=some (zt items i):=by
 unfold zt
 rw [List.getD_eq_getElem?_getD,List.getElem?_eq_getElem h]
 rfl
theorem Jf {items:List D} {i:Nat} (h:i<(zA items).length):zG (.lst (zA items)) (.int (i:Int))=some (zt items i):=vF (by omega) (by rw [Int.toNat_natCast]; exact jE h)
theorem jF {items:List D} (P:PC items) {i:Nat} (h:i<(zA items).length):zw (zt items i)/\zR (zt items i)=false:=by
 have:=List.mem_filter.mp (List.mem_of_getElem? (jE h))
 exact ⟨P.it _ this.1,by simpa using this.2⟩
theorem Vc {items:List D} (P:PC items) {i:Nat} (h:i<(zA items).length):vh [zt items i]=some (false,.int (Uf items i:Nat))/\Uf items i<2048:=HN (jF P h).1 (jF P h).2
theorem Wx {items:List D} (P:PC items) {i:Nat} (h:i<(zA items).length):wK [zt items i]=some (false,.int (Pf items i:Nat))/\Pf items i<2048:=Fm (jF P h).1 (jF P h).2
noncomputable def xh (items:List D) (L:List (List Nat)) (T dl:List Nat) (x6 x7:Option (Bool×D)):zd:=[some (false,.lst items),some (false,.lst (zA items)),some (false,.lst (yy items)),some (false,.lst (L.map fun l=>.lst (z8 l))),some (true,.lst (z8 T)),some (true,.lst (z8 dl)),x6,x7]
theorem QD (a b:Nat):xM (.int (a:Int)) (.int (b:Int))=some (.bl (!decide (a=b))):=by
 show some (D.bl (!((a:Int) == (b:Int))))=_
 by_cases c:a=b
 ·subst c; simp
 ·rw [beq_eq_false_iff_ne.mpr (by omega),decide_eq_false c]
theorem B5 {items:List D} (P:PC items) {L:List (List Nat)} {T dl:List Nat} {m:Nat} {x6 x7:Option (Bool×D)} (hL:L.length=(zA items).length+1) (hlen:∀ p,(gl L p).length<=2*(zA items).length) (hd:dl.length<=1000000)
  (N:NI (zA items).length (Uf items) (Pf items) (Wf items) T (dl++[m])) :
  jt (xh items L T (dl++[m]) x6 x7)=some (.nx (if rl (Uf items m) (Pf items m) T (Wf items m)=gt T m then xh items L T dl (some (false,.int (m:Int))) (some (false,.int (rl (Uf items m) (Pf items m) T (Wf items m):Nat)))
   else xh items L (T.set m (rl (Uf items m) (Pf items m) T (Wf items m))) (dl++gl L m) (some (false,.int (m:Int))) (some (false,.int (rl (Uf items m) (Pf items m) T (Wf items m):Nat))))):=by
 have hm:m<(zA items).length:=N.dn m (List.mem_append_right _ (List.mem_singleton.mpr rfl))
 have hr:(zA items).length<=100:=Nat.le_trans (List.length_filter_le _ _) P.ln
 have ix:=Jf hm
 have eu:=(Vc P hm).1
 have ep:=(Wx P hm).1
 have ew:=XC hm
 have en:=QH (T:=T) (ws:=Wf items m) fun w hw=>by rw [N.len]; have:=ZH hm hw; omega
 have eb:=OB (yd T (Wf items m)) (Pf items m)
 have eo:=Xm (Uf items m) (yd T (Wf items m) - (yd T (Wf items m) &&& Pf items m))
 have eo:Builtin.bitOr (Uf items m:Nat) ((yd T (Wf items m) - (yd T (Wf items m) &&& Pf items m):Nat):Int)=((rl (Uf items m) (Pf items m) T (Wf items m):Nat):Int):=eo
 have et:=YX (T:=T) (i:=m) (by rw [N.len]; omega)
 have hne:=QD (rl (Uf items m) (Pf items m) T (Wf items m)) (gt T m)
 have hp:=J0 (σ:=xh items L T (dl++[m]) x6 x7) (i:=5) (j:=6) (ds:=z8 dl) (d:=.int (m:Int)) (by rw [<- j_]; rfl) (by decide)
 have hp:tw 6 5 (xh items L T (dl++[m]) x6 x7)=some (.nx (xh items L T dl (some (false,.int (m:Int))) x7)):=hp
 have ec:zG (.lst (L.map fun l=>D.lst (z8 l))) (.int (m:Int))=some (.lst (z8 (gl L m))):=vF (by omega) (by rw [Int.toNat_natCast,List.getElem?_map,T8 (by omega)]; rfl)
 unfold jt
 rw [xU hp]
 have h7:zS 7 (e2 (xt Builtin.bitOr) (zX vh (zB (e2 zG (z6 1) (z6 6)) zD)) (e2 (xt Builtin.bitAnd) (Zw uf (zB (wp 4) (zB (e2 zG (z6 2) (z6 6)) zD))) (e1 Y0 (zX wK (zB (e2 zG (z6 1) (z6 6)) zD))))) (xh items L T dl (some (false,.int (m:Int))) x7)=some (.nx (xh items L T dl (some (false,.int (m:Int))) (some (false,.int (rl (Uf items m) (Pf items m) T (Wf items m):Nat))))):=by
  unfold xh
  generalize rl (Uf items m) (Pf items m) T (Wf items m)=need at *
  generalize zA items=RR at *
  generalize yy items=WW at *
  generalize L.map (fun l=>D.lst (z8 l))=LL at *
  generalize z8 T=TT at *
  generalize z8 dl=DD at *
  simp! [ix,eu,ew,Zw,en,yG,if_true,ep,Y0,eb,eo]
 rw [xU h7]
 generalize hneed:rl (Uf items m) (Pf items m) T (Wf items m)=need at *
 by_cases c:need=gt T m
 ·rw [decide_eq_true c] at hne
  rw [if_pos c]
  unfold xh
  generalize zA items=RR at *
  generalize yy items=WW at *
  generalize L.map (fun l=>D.lst (z8 l))=LL at *
  generalize z8 T=TT at *
  generalize z8 dl=DD at *
  simp! [et,hne,Bool.not_true]
 ·rw [decide_eq_false c] at hne
  rw [if_neg c]
  have hs:=Ec (σ:=xh items L T dl (some (false,.int (m:Int))) (some (false,.int (need:Int)))) (i:=4) (j:=m) (k:=z6 6) (v:=z6 7) (ds:=z8 T) (y:=.int (need:Int)) rfl rfl rfl (by rw [vK,N.len]; omega)
  rw [B2] at hs
  have hs:gM 4 (z6 6) (z6 7) (xh items L T dl (some (false,.int (m:Int))) (some (false,.int (need:Int))))=some (.nx (xh items L (T.set m need) dl (some (false,.int (m:Int))) (some (false,.int (need:Int))))):=hs
  have he:=Uv (σ:=xh items L (T.set m need) dl (some (false,.int (m:Int))) (some (false,.int (need:Int)))) (i:=5) (f:=e2 zG (z6 3) (z6 6)) (xs:=z8 dl) (ys:=z8 (gl L m)) rfl (by
   show zG (.lst (L.map fun l=>D.lst (z8 l))) (.int (m:Int))=_
   exact ec) (by rw [vK,vK]; have:=hlen m; omega)
  rw [<- WY] at he
  have he:qj 5 (e2 zG (z6 3) (z6 6)) (xh items L (T.set m need) dl (some (false,.int (m:Int))) (some (false,.int (need:Int))))=some (.nx (xh items L (T.set m need) (dl++gl L m) (some (false,.int (m:Int))) (some (false,.int (need:Int))))):=he
  have ht:(tE (e2 xM (z6 7) (e2 zG (wp 4) (z6 6)))) (xh items L T dl (some (false,.int (m:Int))) (some (false,.int (need:Int))))=some true:=by
   unfold xh
   generalize zA items=RR at *
   generalize yy items=WW at *
   generalize L.map (fun l=>D.lst (z8 l))=LL at *
   generalize z8 T=TT at *
   generalize z8 dl=DD at *
   simp! [et,hne,Bool.not_false]
  show ((tE (e2 xM (z6 7) (e2 zG (wp 4) (z6 6)))) _).bind _=_
  rw [ht]
  show zE _ _ _=_
  rw [xU hs,he]
theorem B4 {items:List D} (P:PC items) {L:List (List Nat)} (hL:L.length=(zA items).length+1) (hlen:∀ p,(gl L p).length<=2*(zA items).length) (hC:∀ p,p<=(zA items).length->∀ j,j∈gl L p↔(j<(zA items).length/\p∈Wf items j)) :
  ∀ (M:Nat) {T dl:List Nat} {x6 x7:Option (Bool×D)},NI (zA items).length (Uf items) (Pf items) (Wf items) T dl->(11*((zA items).length+1) - v_ T)*(2*(zA items).length+2)+dl.length<=M->M<=1000000->
   ∃ T' y6 y7,NI (zA items).length (Uf items) (Pf items) (Wf items) T' []/\xr jc jt (M+1) (xh items L T dl x6 x7)=some (.nx (xh items L T' [] y6 y7)):=by
 intro M
 induction M with
 | zero=>
  intro T dl x6 x7 N hM _
  have:dl=[]:=List.eq_nil_of_length_eq_zero (by omega)
  subst this
  exact ⟨T,x6,x7,N,p4 rfl⟩
 | succ M ih=>
  intro T dl x6 x7 N hM hb
  rcases List.eq_nil_or_concat dl with rfl | ⟨dl',m,hdl⟩
  ·exact ⟨T,x6,x7,N,p4 rfl⟩
  ·rw [List.concat_eq_append] at hdl
   subst hdl
   have ll:(dl'++[m]).length=dl'.length+1:=by rw [List.length_append]; rfl
   have hm:m<(zA items).length:=N.dn m (List.mem_append_right _ (List.mem_singleton.mpr rfl))
   have hc:jc (xh items L T (dl'++[m]) x6 x7)=some true:=by
    have:=g3 (z8 (dl'++[m]))
    rw [show (z8 (dl'++[m])).isEmpty=false by rw [j_]; cases z8 dl'<;>rfl] at this
    unfold jc xh
    generalize zA items=RR at *
    generalize yy items=WW at *
    generalize L.map (fun l=>D.lst (z8 l))=LL at *
    generalize z8 T=TT at *
    generalize z8 (dl'++[m])=DD at *
    simp! [this,Bool.not_false]
   have ht:=B5 P (x6:=x6) (x7:=x7) hL hlen (by omega) N
   rw [jR hc ht]
   by_cases c:rl (Uf items m) (Pf items m) T (Wf items m)=gt T m
   ·rw [if_pos c]
    exact ih (BC N c) (by omega) (by omega)
   ·rw [if_neg c]
    refine ih (BA N (Vc P hm).2 (hC m (by omega))) ?_ (by omega)
    have h1:=IJ (T:=T) (m:=m) (x:=rl (Uf items m) (Pf items m) T (Wf items m)) (by rw [N.len]; omega)
    have h2:=pc_lt (N.up m hm) (Jc (Vc P hm).2 N.lt) (fun z=>c z.symm)
    have h3:=II (T.set m (rl (Uf items m) (Pf items m) T (Wf items m)))
    rw [List.length_set,N.len] at h3
    have h4:=hlen m
    rw [List.length_append]
    generalize v_ (T.set m (rl (Uf items m) (Pf items m) T (Wf items m)))=s' at *
    generalize v_ T=s at *
    generalize (zA items).length=n at *
    obtain ⟨a,ha⟩:∃ a,11*(n+1) - s=a+1+(11*(n+1) - s'):=⟨11*(n+1) - s - 1 - (11*(n+1) - s'),by omega⟩
    rw [ha,Nat.add_mul,Nat.add_mul,Nat.one_mul] at hM
    have:0<=a*(2*n+2):=Nat.zero_le _
    omega
theorem QI {items:List D} (P:PC items):∃ T,NI (zA items).length (Uf items) (Pf items) (Wf items) T []/\vQ [.lst items]=some (true,.lst (z8 T)):=by
 have hr:(zA items).length<=100:=Nat.le_trans (List.length_filter_le _ _) P.ln
 have q1:x9 [.lst items]=some (true,.lst (zA items)):=tu P.it
 have q2:=XB P
 obtain ⟨L,l1,l2,l3,q3⟩:=Of (n:=(zA items).length) (W:=Wf items) hr (fun i hi w hw=>ZH hi hw) (XZ items)
 have q3:qE [.lst (yy items)]=some (false,.lst (L.map fun l=>.lst (z8 l))):=q3
 have bd:(11*((zA items).length+1) - v_ (List.replicate (zA items).length 0++[2047]))*(2*(zA items).length+2)+(List.range (zA items).length).length<=300000:=by
  rw [List.length_range]
  have:(11*((zA items).length+1) - v_ (List.replicate (zA items).length 0++[2047]))*(2*(zA items).length+2)<=1111*202:=Nat.mul_le_mul (by omega) (by omega)
  omega
 obtain ⟨T,y6,y7,N,ew⟩:=B4 P l1 l3 l2 300000 (x6:=none) (x7:=none) BD bd (by omega)
 have ew:=qo (300000+1) ew (by decide)
 refine ⟨T,N,?_⟩
 have a1:jj (.lst [.int 0]) (.int ((zA items).length:Nat))=some (.lst (z8 (List.replicate (zA items).length 0))):=by
  show (if 0<=(((zA items).length:Nat):Int)/\(((zA items).length:Nat):Int)<=1000000/\([D.int 0]).length*(((zA items).length:Nat):Int).toNat<=zu then some (D.lst (List.replicate (((zA items).length:Nat):Int).toNat [D.int 0]).flatten) else none)=_
  rw [if_pos ⟨by omega,by omega,by show 1*_<=16777216; omega⟩,Int.toNat_natCast]
  congr 2
  unfold z8
  rw [List.map_replicate]
  generalize (zA items).length=n
  induction n with
  | zero=>rfl
  | succ n ih=>rw [List.replicate_succ,List.replicate_succ,List.flatten_cons,ih]; rfl
 have a2:jh (.lst (z8 (List.replicate (zA items).length 0))) (.lst [.int 2047])=some (.lst (z8 (List.replicate (zA items).length 0++[2047]))):=by
  show (if (z8 (List.replicate (zA items).length 0)).length+1<=zu then _ else _)=_
  rw [if_pos (by rw [vK,List.length_replicate]; show _<=16777216; omega),j_]
  rfl
 have h5:X_ [.int ((zA items).length:Nat)]=some (.lst (z8 (List.range (zA items).length))):=by
  show (if 0<=(((zA items).length:Nat):Int)/\(((zA items).length:Nat):Int)<=1000000 then some (D.lst ((List.range (((zA items).length:Nat):Int).toNat).map fun k:Nat=>D.int k)) else none)=_
  rw [if_pos ⟨by omega,by omega⟩,Int.toNat_natCast]
  rfl
 have ew:uV jc jt [some (false,.lst items),some (false,.lst (zA items)),some (false,.lst (yy items)),some (false,.lst (L.map fun l=>.lst (z8 l))),some (true,.lst (z8 (List.replicate (zA items).length 0++[2047]))),some (true,.lst (z8 (List.range (zA items).length))),none,none]=some (.nx [some (false,.lst items),some (false,.lst (zA items)),some (false,.lst (yy items)),some (false,.lst (L.map fun l=>.lst (z8 l))),some (true,.lst (z8 T)),some (true,.lst (z8 [])),y6,y7]):=ew
 rw [Li]
 unfold Zf
 generalize z8 T=TT at *
 generalize z8 (List.range (zA items).length)=DD at *
 generalize z8 (List.replicate (zA items).length 0++[2047])=T0 at *
 generalize z8 (List.replicate (zA items).length 0)=T1 at *
 generalize z8 []=DZ at *
 generalize zA items=RR at *
 generalize yy items=WW at *
 generalize L.map (fun l=>D.lst (z8 l))=LL at *
 simp! [q1,q2,q3,a1,a2,h5,ew]
end L3
namespace L3
open PySem
end L3
namespace L3
open PySem
noncomputable def tf:FS:=(zE (yP (tE (e2 zm (z6 3) (yu (zB (eC (.str "label")) (zB (z6 1) zD)))))
     (ya (z6 2))
     yW)
    (zS 2 (e2 yO (z6 2) (eL Z_ (zB (e2 xM (e2 zG (z6 3) (eC (.int 0))) (eC (.str "label"))) zD)))))
noncomputable def ZV:FS:=
 (zE (zS 2 (eC (.int 0)))
  (zE (vA (xc (z6 0)) (zh 3)
   tf)
  (ya (e1 vk (eC (.int 1))))))
noncomputable def qG:List D->Option (Bool×D):=FR 2 4 ZV
theorem Ck:∀ ds r,qG ds=some r->ds.length=2/\zc 4 ZV ds=some r:=yK
theorem LY (x0 x1:D):qG [x0,x1]=zc 4 ZV [x0,x1]:=rfl
noncomputable def vm (t:Str) (d:D):Bool:=zR d&&qb t d
theorem WH {t:Str} {d:D} (h:zw d) (ht:vm t d=true):d=yM t:=by
 unfold vm at ht
 rw [Bool.and_eq_true] at ht
 obtain ⟨u,rfl⟩:=YB h ht.1
 have:(u == t)=true:=ht.2
 rw [beq_iff_eq] at this
 rw [this]
theorem L1 {d:D} (h:zw d) (t:Str):zm d (.tup [.str "label",.str t])=some (.bl (vm t d)):=by
 have e:∀ (w u:Str),zk (.tup [.str w,.str u]) (.tup [.str "label",.str t])=((w == "label")&&((u == t)&&true)):=fun w u=>by
  unfold zk; unfold dEqs; unfold dEqs; unfold dEqs; unfold zk; rfl
 cases h with
 | label u=>
  show some (D.bl (zk (.tup [.str "label",.str u]) (.tup [.str "label",.str t])))=_
  rw [e,Bool.and_true]
  rfl
 | plain h=>cases h with
  | stop=>rfl
  | imm hw=>rcases hw with rfl | rfl<;>rfl
  | two hw=>rcases hw with rfl | rfl | rfl | rfl | rfl | rfl | rfl | rfl | rfl<;>rfl
  | mov hw=>rcases hw with rfl | rfl<;>rfl
  | mem hw=>rcases hw with rfl | rfl | rfl | rfl<;>rfl
 | jump u=>
  show some (D.bl (zk (.tup [.str "jump",.str u]) (.tup [.str "label",.str t])))=_
  rw [e]
  rfl
 | cond u hw hk=>rcases hw with rfl | rfl<;>rcases hk with rfl | rfl | rfl<;>rfl
noncomputable def uu (t:Str):List D->Nat->Option Nat
 | [],_=>none
 | d::L,n=>if vm t d=true then some n else uu t L (n+(if zR d then 0 else 1))
theorem Qv {I:D} {t:Str}:∀ {L:List D} {n p:Nat} {x:Option Sl},(∀ d∈L,zw d)->uu t L n=some p->wu (zh 3) tf L [some (false,I),some (false,.str t),some (false,.int (n:Int)),x]=some (.rt false (.int (p:Int)))
 | [],_,_,_,_,h=>by cases h
 | d::L,n,p,x,hI,h=>by
  have hd:=hI d (List.mem_cons_self ..)
  have q:=L1 hd t
  obtain ⟨w,a,b,_⟩:=qU hd
  have b:=WZ b
  unfold uu at h
  unfold wu
  show (tf [some (false,I),some (false,.str t),some (false,.int (n:Int)),some (false,d)]).bind _=_
  cases ht:vm t d with
  | true=>
   rw [if_pos ht] at h
   cases h
   rw [ht] at q
   have e:tf [some (false,I),some (false,.str t),some (false,.int (n:Int)),some (false,d)]=some (.rt false (.int (n:Int))):=by
    unfold tf
    simp! [q]
   rw [e]
   rfl
  | false=>
   rw [if_neg (by rw [ht]; decide)] at h
   rw [ht] at q
   have e:tf [some (false,I),some (false,.str t),some (false,.int (n:Int)),some (false,d)]=some (.nx [some (false,I),some (false,.str t),some (false,.int ((n+(if zR d then 0 else 1):Nat):Int)),some (false,d)]):=by
    unfold tf
    cases hl:zR d<;>rw [hl] at b<;>simp! [q,a,b,add_int]<;>rfl
   rw [e]
   exact Qv (fun x hx=>hI x (List.mem_cons_of_mem _ hx)) h
theorem Wc {t:Str}:∀ {L:List D} {s:Nat×Option Nat},(∀ d∈L,vm t d=false)->(L.foldl (xY t) s).2=s.2
 | [],_,_=>rfl
 | d::L,s,h=>by
  rw [List.foldl_cons,Wc fun x hx=>h x (List.mem_cons_of_mem _ hx)]
  have:=h d (List.mem_cons_self ..)
  unfold vm at this
  unfold xY
  cases hl:zR d with
  | false=>rfl
  | true=>
   rw [hl,Bool.true_and] at this
   rw [this]
theorem Uy {t:Str}:∀ {L:List D} {s:Nat×Option Nat},(∀ d∈L,zw d)->(L.filter zR).Nodup->(L.foldl (xY t) s).2=match uu t L s.1 with
  | some p=>some p
  | none=>s.2
 | [],_,_,_=>rfl
 | d::L,s,hI,nd=>by
  have hI':∀ x∈L,zw x:=fun x hx=>hI x (List.mem_cons_of_mem _ hx)
  rw [List.foldl_cons]
  unfold uu
  cases ht:vm t d with
  | true=>
   rw [if_pos rfl]
   have ed:=WH (hI d (List.mem_cons_self ..)) ht
   subst ed
   rw [List.filter_cons_of_pos (show zR (yM t)=true from rfl)] at nd
   rw [Wc fun x hx=>?_]
   ·unfold xY
    show (match qb t (yM t) with | true=>some s.1 | false=>s.2)=_
    rw [show qb t (yM t)=true from beq_self_eq_true t]
   ·cases hx2:vm t x with
    | false=>rfl
    | true=>
     have ex:=WH (hI' x hx) hx2
     subst ex
     exact absurd (List.mem_filter.mpr ⟨hx,rfl⟩) (List.nodup_cons.mp nd).1
  | false=>
   rw [if_neg Bool.false_ne_true]
   have nd':(L.filter zR).Nodup:=by
    cases hl:zR d with
    | true=>rw [List.filter_cons_of_pos hl] at nd; exact (List.nodup_cons.mp nd).2
    | false=>rw [List.filter_cons_of_neg (by rw [hl]; decide)] at nd; exact nd
   rw [Uy hI' nd']
   have e:xY t s d=(s.1+(if zR d then 0 else 1),s.2):=by
    unfold vm at ht
    unfold xY
    cases hl:zR d with
    | false=>rfl
    | true=>
     rw [hl,Bool.true_and] at ht
     rw [ht]
     rfl
   rw [e]
theorem FQ {items:List D} (P:PC items) {t:Str} {p:Nat} (h:(yV t items).2=some p):qG [.lst items,.str t]=some (false,.int (p:Int)):=by
 have f:uu t items 0=some p:=by
  have:=Uy (t:=t) (s:=(0,none)) P.it P.nd
  unfold yV at h
  rw [h] at this
  cases e:uu t items 0 with
  | some q=>rw [show uu t items (0,(none:Option Nat)).1=some q from e] at this; exact this.symm
  | none=>rw [show uu t items (0,(none:Option Nat)).1=none from e] at this; cases this
 have e:=Qv (I:=.lst items) (x:=none) P.it f
 rw [LY]
 unfold ZV
 have e:wu (zh 3) tf items [some (false,.lst items),some (false,.str t),some (false,.int 0),none]=some (.rt false (.int (p:Int))):=e
 simp! [e]
end L3
namespace L3
open PySem
noncomputable def ju:FS:=(zE (tw 4 3)
    (yP (vB (tE (e2 (uL fun i j=>decide (i<j)) (z6 4) (eL xL (zB (z6 1) zD)))) (tE (e2 wH (z6 4) (wp 2))))
     (zE (qm 2 (z6 4) (eC (.bl true)))
      (qj 3 (e2 zG (z6 1) (z6 4))))
     yW))
noncomputable def jd:FT:=(tE (e2 xM (wp 3) (yk zD)))
noncomputable def Zk:FS:=
 (zE (zS 1 (zX vS (zB (z6 0) zD)))
  (zE (vO 2 (eC (.dic [] [])))
  (zE (vO 3 (yk (zB (eC (.int 0)) zD)))
  (zE (uV jd
   ju)
  (zE (qk 3) (zE (qk 2) (xq (eL W3 (zB (z6 2) zD)))))))))
noncomputable def vR:List D->Option (Bool×D):=FR 1 5 Zk
theorem E6:∀ ds r,vR ds=some r->ds.length=1/\zc 5 Zk ds=some r:=yK
theorem Ln (x0:D):vR [x0]=zc 5 Zk [x0]:=rfl
inductive ua (n:Nat) (W:Nat->List Nat):Nat->Prop
 | zero:ua n W 0
 | step {i w:Nat}:ua n W i->i<n->w∈W i->ua n W w
structure RI (n:Nat) (W:Nat->List Nat) (F dl:List Nat):Prop where
 nd:F.Nodup
 fl:∀ f∈F,f<n/\ua n W f
 dc:∀ d∈dl,ua n W d
 z:0<n->0∈F\/0∈dl
 cl:∀ f∈F,∀ w∈W f,w<n->w∈F\/w∈dl
theorem Wd {n:Nat}:∀ {F:List Nat},F.Nodup->(∀ f∈F,f<n)->F.length<=n:=fun {F} nd h=>by
 have:=List.Nodup.length_le_of_subset nd (l₂:=List.range n) fun x hx=>List.mem_range.mpr (h x hx)
 rw [List.length_range] at this
 exact this
section
variable {n:Nat} {W:Nat->List Nat} {F dl:List Nat} {m:Nat}
theorem CM (R:RI n W F (dl++[m])) (h:¬ m<n\/m∈F):RI n W F dl:=by
 have sub:∀ w,w<n->w∈F\/w∈dl++[m]->w∈F\/w∈dl:=fun w hw h'=>by
  rcases h' with h' | h'
  ·exact .inl h'
  ·rcases List.mem_append.mp h' with z | z
   ·exact .inr z
   ·cases List.mem_singleton.mp z
    rcases h with h | h
    ·exact absurd hw h
    ·exact .inl h
 exact ⟨R.nd,R.fl,fun d hd=>R.dc d (List.mem_append_left _ hd),fun h0=>sub 0 h0 (R.z h0),fun f hf w hw hn=>sub w hn (R.cl f hf w hw hn)⟩
theorem V7 (R:RI n W F (dl++[m])) (hm:m<n) (hF:m ∉ F):RI n W (F++[m]) (dl++W m):=by
 have cm:ua n W m:=R.dc m (List.mem_append_right _ (List.mem_singleton.mpr rfl))
 have sub:∀ w,w∈F\/w∈dl++[m]->w∈F++[m]\/w∈dl++W m:=fun w h=>by
  rcases h with h | h
  ·exact .inl (List.mem_append_left _ h)
  ·rcases List.mem_append.mp h with z | z
   ·exact .inr (List.mem_append_left _ z)
   ·exact .inl (List.mem_append_right _ z)
 refine ⟨List.nodup_append.mpr ⟨R.nd,List.nodup_cons.mpr ⟨List.not_mem_nil,List.nodup_nil⟩,fun a ha b hb e=>hF (by cases List.mem_singleton.mp hb; exact e ▸ ha)⟩,fun f hf=>?_,fun d hd=>?_,fun h0=>sub 0 (R.z h0),fun f hf w hw hn=>?_⟩
 ·rcases List.mem_append.mp hf with z | z
  ·exact R.fl f z
  ·cases List.mem_singleton.mp z
   exact ⟨hm,cm⟩
 ·rcases List.mem_append.mp hd with z | z
  ·exact R.dc d (List.mem_append_left _ z)
  ·exact .step cm hm z
 ·rcases List.mem_append.mp hf with z | z
  ·exact sub w (R.cl f z w hw hn)
  ·cases List.mem_singleton.mp z
   exact .inr (List.mem_append_right _ hw)
theorem CL (R:RI n W F []) {i:Nat} (h:ua n W i):i<n->i∈F:=by
 induction h with
 | zero=>exact fun hi=>(R.z hi).resolve_right List.not_mem_nil
 | step hc hj hw ih=>exact fun hi=>(R.cl _ (ih hj) _ hw hi).resolve_right List.not_mem_nil
theorem CK (R:RI n W F []) (i:Nat):i∈F↔i<n/\ua n W i:=⟨R.fl i,fun h=>CL R h.2 h.1⟩
end
noncomputable def xf (F:List Nat):List (Sum Int Str):=F.map fun i:Nat=>.inl (i:Int)
noncomputable def u8 (F:List Nat):List D:=F.map fun _=>.bl true
theorem MV (F:List Nat):(xf F).length=F.length:=by unfold xf; rw [List.length_map]
theorem Tm:∀ F:List Nat,pp (xf F)=some (F.map fun i:Nat=>(i:Int))
 | []=>rfl
 | f::F=>by
  show (pp (xf F)).bind _=_
  rw [Tm F]
  rfl
noncomputable def wU (items:List D) (F dl:List Nat) (x4:Option (Bool×D)):zd:=[some (false,.lst items),some (false,.lst (yy items)),some (true,.dic (xf F) (u8 F)),some (true,.lst (z8 dl)),x4]
theorem CI {items:List D} {F dl:List Nat} {m:Nat} {x4:Option (Bool×D)} (hF:F.length<=1000) (hd:dl.length<=1000):ju (wU items F (dl++[m]) x4)=some (.nx (if m<(zA items).length/\m ∉ F then wU items (F++[m]) (dl++Wf items m) (some (false,.int (m:Int))) else wU items F dl (some (false,.int (m:Int))))):=by
 have hp:=J0 (σ:=wU items F (dl++[m]) x4) (i:=3) (j:=4) (ds:=z8 dl) (d:=.int (m:Int)) (by rw [<- j_]; rfl) (by decide)
 have hp:tw 4 3 (wU items F (dl++[m]) x4)=some (.nx (wU items F dl (some (false,.int (m:Int))))):=hp
 have wl:(yy items).length=(zA items).length:=by unfold yy; rw [List.length_map,List.length_range]
 unfold ju
 rw [xU hp]
 have hn:wH (.int (m:Int)) (.dic (xf F) (u8 F))=some (.bl (!decide (m∈F))):=by
  show (some (yF (xf F) (.inl (m:Int)))).bind _=_
  rw [show yF (xf F) (.inl (m:Int))=decide (m∈F) from jk m F]
  rfl
 have ht:(vB (tE (e2 (uL fun i j=>decide (i<j)) (z6 4) (eL xL (zB (z6 1) zD)))) (tE (e2 wH (z6 4) (wp 2)))) (wU items F dl (some (false,.int (m:Int))))=some (decide (m<(zA items).length/\m ∉ F)):=by
  have e1:decide ((m:Int)<((yy items).length:Nat))=decide (m<(zA items).length):=by rw [wl]; exact decide_eq_decide.mpr (by omega)
  unfold wU
  generalize yy items=WW at *
  generalize xf F=KK at *
  generalize u8 F=YY at *
  generalize z8 dl=DD at *
  by_cases c:m<(zA items).length
  ·rw [decide_eq_true c] at e1
   by_cases c2:m∈F
   ·rw [decide_eq_true c2] at hn
    rw [decide_eq_false (fun z=>z.2 c2)]
    simp! [e1,hn,Bool.not_true]
   ·rw [decide_eq_false c2] at hn
    rw [decide_eq_true ⟨c,c2⟩]
    simp! [e1,hn,Bool.not_false]
  ·rw [decide_eq_false c] at e1
   rw [decide_eq_false (fun z=>c z.1)]
   simp! [e1]
 show ((vB _ _) (wU items F dl (some (false,.int (m:Int))))).bind _=_
 rw [ht]
 by_cases c:m<(zA items).length/\m ∉ F
 ·rw [decide_eq_true c,if_pos c]
  have ew:=XC c.1
  have nh:¬ yF (xf F) (.inl (m:Int))=true:=by
   rw [show yF (xf F) (.inl (m:Int))=decide (m∈F) from jk m F,decide_eq_false c.2]
   decide
  have hs:qm 2 (z6 4) (eC (.bl true)) (wU items F dl (some (false,.int (m:Int))))=some (.nx (wU items (F++[m]) dl (some (false,.int (m:Int))))):=by
   show (if (xf F).length<zu then some (Fl.nx ((wU items F dl (some (false,.int (m:Int)))).set 2 (some (true,.dic (xE (xf F) (.inl (m:Int))) (xI (xf F) (u8 F) (.inl (m:Int)) (.bl true)))))) else none)=_
   rw [if_pos (by rw [MV]; show _<16777216; omega)]
   unfold xE xI
   rw [if_neg nh,if_neg nh]
   have e1:xf F++[.inl (m:Int)]=xf (F++[m]):=by unfold xf; rw [List.map_append]; rfl
   have e2:u8 F++[.bl true]=u8 (F++[m]):=by unfold u8; rw [List.map_append]; rfl
   rw [e1,e2]
   rfl
  have he:=Uv (σ:=wU items (F++[m]) dl (some (false,.int (m:Int)))) (i:=3) (f:=e2 zG (z6 1) (z6 4)) (xs:=z8 dl) (ys:=z8 (Wf items m)) rfl ew (by rw [vK,vK]; have:=XZ items m; omega)
  rw [<- WY] at he
  show zE _ _ _=_
  rw [xU hs]
  exact he
 ·rw [decide_eq_false c,if_neg c]
  rfl
theorem CH {items:List D} (hr:(zA items).length<=100) :
  ∀ (M:Nat) {F dl:List Nat} {x4:Option (Bool×D)},RI (zA items).length (Wf items) F dl->3*((zA items).length - F.length)+dl.length<=M->M<=1000->∃ F' y4,RI (zA items).length (Wf items) F' []/\xr jd ju (M+1) (wU items F dl x4)=some (.nx (wU items F' [] y4)):=by
 intro M
 induction M with
 | zero=>
  intro F dl x4 R hM _
  have:dl=[]:=List.eq_nil_of_length_eq_zero (by omega)
  subst this
  exact ⟨F,x4,R,p4 rfl⟩
 | succ M ih=>
  intro F dl x4 R hM hb
  have hFl:=Wd R.nd fun f hf=>(R.fl f hf).1
  rcases List.eq_nil_or_concat dl with rfl | ⟨dl',m,hdl⟩
  ·exact ⟨F,x4,R,p4 rfl⟩
  ·rw [List.concat_eq_append] at hdl
   subst hdl
   have ll:(dl'++[m]).length=dl'.length+1:=by rw [List.length_append]; rfl
   have hc:jd (wU items F (dl'++[m]) x4)=some true:=by
    have:=g3 (z8 (dl'++[m]))
    rw [show (z8 (dl'++[m])).isEmpty=false by rw [j_]; cases z8 dl'<;>rfl] at this
    unfold jd wU
    generalize yy items=WW at *
    generalize xf F=KK at *
    generalize u8 F=YY at *
    generalize z8 (dl'++[m])=DD at *
    simp! [this,Bool.not_false]
   rw [jR hc (CI (by omega) (by omega))]
   by_cases c:m<(zA items).length/\m ∉ F
   ·rw [if_pos c]
    refine ih (V7 R c.1 c.2) ?_ (by omega)
    have h2:=Wd (V7 R c.1 c.2).nd fun f hf=>((V7 R c.1 c.2).fl f hf).1
    have h3:=XZ items m
    rw [List.length_append,List.length_singleton] at h2
    rw [List.length_append,List.length_append,List.length_singleton]
    omega
   ·rw [if_neg c]
    exact ih (CM R (Decidable.not_and_iff_or_not.mp c |>.imp id fun z=>Decidable.not_not.mp z)) (by omega) (by omega)
theorem Gs {l:List Int} (h:∀ x∈l,0<=x):(l.map Int.toNat).map (fun i:Nat=>(i:Int))=l:=by
 rw [List.map_map]
 conv=>rhs; rw [<- List.map_id l]
 exact List.map_congr_left fun x hx=>Int.toNat_of_nonneg (h x hx)
theorem JZ {items:List D} (P:PC items) (hr:(zA items).length<=60):∃ R:List Nat,R.Pairwise (·<·)/\(∀ i,i∈R↔i<(zA items).length/\ua (zA items).length (Wf items) i)/\vR [.lst items]=some (true,.lst (z8 R)):=by
 have e1:=XB P
 obtain ⟨F,y4,RF,ew⟩:=CH (items:=items) (by omega) 200 (F:=[]) (dl:=[0]) (x4:=none) ⟨List.nodup_nil,(fun _ h=>by cases h),(fun d hd=>by cases List.mem_singleton.mp hd; exact .zero),fun _=>.inr (List.mem_singleton.mpr rfl),fun _ h=>by cases h⟩ (by
  show 3*((zA items).length - 0)+1<=200
  omega) (by omega)
 have ew:=qo (200+1) ew (by decide)
 have hl:=Wd RF.nd fun f hf=>(RF.fl f hf).1
 obtain ⟨R,hR⟩:∃ R,R=(L2.isort (F.map fun i:Nat=>(i:Int))).map Int.toNat:=⟨_,rfl⟩
 have pm:=L2.isort_perm (F.map fun i:Nat=>(i:Int))
 have eR:R.map (fun i:Nat=>(i:Int))=L2.isort (F.map fun i:Nat=>(i:Int)):=by
  rw [hR]
  refine Gs fun x hx=>?_
  obtain ⟨f,_,rfl⟩:=List.mem_map.mp (pm.mem_iff.mp hx)
  omega
 have memR:∀ i,i∈R↔i∈F:=fun i=>by
  have h1:i∈R↔(i:Int)∈R.map (fun i:Nat=>(i:Int)):=⟨fun h=>List.mem_map.mpr ⟨i,h,rfl⟩,fun h=>by
   obtain ⟨j,hj,e⟩:=List.mem_map.mp h
   have:j=i:=by omega
   exact this ▸ hj⟩
  rw [h1,eR,pm.mem_iff]
  exact ⟨fun h=>by
   obtain ⟨j,hj,e⟩:=List.mem_map.mp h
   have:j=i:=by omega
   exact this ▸ hj,fun h=>List.mem_map.mpr ⟨i,h,rfl⟩⟩
 have srt:R.Pairwise (·<·):=by
  have s1:(R.map (fun i:Nat=>(i:Int))).Pairwise (·<=·):=by rw [eR]; exact L2.isort_sorted _
  have n1:R.Nodup:=by
   have:(R.map (fun i:Nat=>(i:Int))).Nodup:=by
    rw [eR,pm.nodup_iff]
    exact List.pairwise_map.mpr (RF.nd.imp fun h e=>h (by omega))
   exact (List.pairwise_map.mp this).imp fun h e=>h (by rw [e])
  rw [List.pairwise_map] at s1
  exact s1.imp₂ (fun a b h1 h2=>by have:a≠b:=h2; omega) n1
 have es:W3 [.dic (xf F) (u8 F)]=some (.lst (z8 R)):=by
  show (pp (xf F)).bind _=_
  rw [Tm]
  show (if (F.map fun i:Nat=>(i:Int)).length<64 then some (D.lst ((L2.isort (F.map fun i:Nat=>(i:Int))).map D.int)) else none)=_
  rw [if_pos (by rw [List.length_map]; omega),<- eR,List.map_map]
  rfl
 refine ⟨R,srt,fun i=>(memR i).trans (CK RF i),?_⟩
 have ew:uV jd ju [some (false,.lst items),some (false,.lst (yy items)),some (true,.dic [] []),some (true,.lst [.int 0]),none]=some (.nx [some (false,.lst items),some (false,.lst (yy items)),some (true,.dic (xf F) (u8 F)),some (true,.lst (z8 [])),y4]):=ew
 rw [Ln]
 unfold Zk
 generalize z8 R=RR at *
 generalize z8 []=DZ at *
 generalize xf F=KK at *
 generalize u8 F=YY at *
 generalize yy items=WW at *
 simp! [e1,ew,es]
end L3
namespace L3
open PySem
noncomputable def Vj:FE:=(yu (zB (z6 2) (zB (eC (.bl true)) zD)))
noncomputable def JX:FA:=(vI (eC (.int 0)) (eL xL (zB (zX x9 (zB (z6 0) zD)) zD)))
noncomputable def Ik:FE:=(z6 2)
noncomputable def Vs:FT:=(tE (e2 wH (z6 2) (z6 1)))
noncomputable def Zi:FS:=
 (zE (zS 1 (eL qR (zB (xP 1 (xc (zX vR (zB (z6 0) zD))) (zh 2) xV Vj) zD)))
  (xq (xP 1 JX (zh 2) Vs Ik)))
noncomputable def uh:List D->Option (Bool×D):=FR 1 2 Zi
theorem E3:∀ ds r,uh ds=some r->ds.length=1/\zc 2 Zi ds=some r:=yK
theorem Ll (x0:D):uh [x0]=zc 2 Zi [x0]:=rfl
noncomputable def Im:FE:=(z6 1)
noncomputable def Vu:FT:=(tE (e2 zm (z6 2) (e2 yO (z6 1) (eC (.int 1)))))
noncomputable def Zo:FS:=
 (xq (xP 2 (wt (zX vg (zB (z6 0) zD))) (xW 1 2) Vu Im))
noncomputable def uj:List D->Option (Bool×D):=FR 1 1 Zo
theorem EA:∀ ds r,uj ds=some r->ds.length=1/\zc 1 Zo ds=some r:=yK
theorem Lr (x0:D):uj [x0]=zc 1 Zo [x0]:=rfl
noncomputable def Ig:FE:=(z6 1)
noncomputable def Vo:FT:=(vB (tE (e2 zm (e2 zG (z6 2) (eC (.int 0))) (eC (.str "copy")))) (tE (e2 zm (e2 zG (z6 2) (eC (.int 1))) (e2 zG (z6 2) (eC (.int 2))))))
noncomputable def ZK:FS:=
 (xq (xP 2 (wt (zX x9 (zB (z6 0) zD))) (xW 1 2) Vo Ig))
noncomputable def uc:List D->Option (Bool×D):=FR 1 1 ZK
theorem CV:∀ ds r,uc ds=some r->ds.length=1/\zc 1 ZK ds=some r:=yK
theorem LN (x0:D):uc [x0]=zc 1 ZK [x0]:=rfl
noncomputable def XF:FE:=(zX wK (zB (z6 4) zD))
noncomputable def JW:FA:=(vI (eC (.int 0)) (eL xL (zB (z6 3) zD)))
noncomputable def Ij:FE:=(z6 4)
noncomputable def Vr:FT:=(vB (tE (e2 xM (e2 zG (z6 3) (z6 4)) (eC (.int 0)))) (tE (e2 zm (e2 (xt Builtin.bitAnd) (e2 zG (z6 3) (z6 4)) (zX uf (zB (z6 1) (zB (e2 zG (z6 2) (z6 4)) zD)))) (eC (.int 0)))))
noncomputable def Zh:FS:=
 (zE (zS 1 (vi vQ (zB (z6 0) zD)))
  (zE (zS 2 (zX vS (zB (z6 0) zD)))
  (zE (zS 3 (xP 1 (xc (zX x9 (zB (z6 0) zD))) (zh 4) xV XF))
  (xq (xP 1 JW (zh 4) Vr Ij)))))
noncomputable def ug:List D->Option (Bool×D):=FR 1 4 Zh
theorem E2:∀ ds r,ug ds=some r->ds.length=1/\zc 4 Zh ds=some r:=yK
theorem Lk (x0:D):ug [x0]=zc 4 Zh [x0]:=rfl
theorem Ty {g:FG} {c:FT} {e:FE} {σ:zd} (p:Nat->Bool):∀ {ds:List D} (k:Nat),(∀ i d,ds[i]?=some d->∃ σ1,g d σ=some σ1/\c σ1=some (p (k+i))/\e σ1=some (.int ((k+i:Nat):Int)))->xX g c e σ ds=some (z8 ((List.range' k ds.length).filter p))
 | [],_,_=>rfl
 | d::ds,k,h=>by
  obtain ⟨σ1,e1,e2,e3⟩:=h 0 d rfl
  have ih:=Ty p (ds:=ds) (k+1) fun i d' hd=>by
   rw [show k+1+i=k+(i+1) by omega]
   exact h (i+1) d' (by simpa using hd)
  show (g d σ).bind _=_
  rw [e1]
  show (c σ1).bind _=_
  rw [e2,List.length_cons,List.range'_succ,Nat.add_zero]
  cases hp:p k with
  | false=>
   rw [List.filter_cons_of_neg (by rw [hp]; decide)]
   exact ih
  | true=>
   rw [List.filter_cons_of_pos hp]
   show (e σ1).bind _=_
   rw [e3]
   show (xX g c e σ ds).bind _=_
   rw [ih]
   rfl
noncomputable def pN (n:Nat) (p:Nat->Bool):List Nat:=(List.range n).filter p
theorem Yg {n:Nat} {p:Nat->Bool} {i:Nat}:i∈pN n p↔i<n/\p i=true:=by
 unfold pN
 rw [List.mem_filter,List.mem_range]
theorem YO {g:FG} {c:FT} {e:FE} {σ:zd} (p:Nat->Bool) {ds:List D} (h:∀ i d,ds[i]?=some d->∃ σ1,g d σ=some σ1/\c σ1=some (p i)/\e σ1=some (.int (i:Int))):xX g c e σ ds=some (z8 (pN ds.length p)):=by
 have:=Ty (g:=g) (c:=c) (e:=e) (σ:=σ) p (ds:=ds) 0 fun i d hd=>by
  rw [Nat.zero_add]
  exact h i d hd
 rw [this,<- List.range_eq_range']
 rfl
theorem BH {items:List D} (P:PC items) {R:List Nat} (eR:vR [.lst items]=some (true,.lst (z8 R))):uh [.lst items]=some (true,.lst (z8 (pN (zA items).length fun i=>!decide (i∈R)))):=by
 have hr:(zA items).length<=100:=Nat.le_trans (List.length_filter_le _ _) P.ln
 have q1:x9 [.lst items]=some (true,.lst (zA items)):=tu P.it
 have e1:xX (zh 2) xV Vj [some (false,.lst items),none,none] (z8 R)=some (R.map fun i:Nat=>D.tup [.int i,.bl true]):=by
  have:=pw (g:=zh 2) (e:=Vj) (σ:=[some (false,.lst items),none,none]) (fun d=>.tup [d,.bl true]) (ds:=z8 R) fun d hd=>⟨_,rfl,rfl⟩
  rw [this]
  unfold z8
  rw [List.map_map]
  rfl
 obtain ⟨K,V,e2,hk⟩:=Uc R
 have r1:JX [some (false,.lst items),some (false,.dic K V)]=some (xD (zA items).length):=by
  refine uT (n:=((zA items).length:Nat)) ?_ (by omega)
  generalize zA items=RR at *
  simp! [q1]
 have e3:=YO (g:=zh 2) (c:=Vs) (e:=Ik) (σ:=[some (false,.lst items),some (false,.dic K V),none]) (fun i=>!decide (i∈R)) (ds:=xD (zA items).length) fun i d hd=>by
  obtain ⟨_,rfl⟩:=jO hd
  refine ⟨_,rfl,?_,rfl⟩
  have hn:wH (.int (i:Int)) (.dic K V)=some (.bl (!decide (i∈R))):=by
   show (some (yF K (.inl (i:Int)))).bind _=_
   rw [hk]
   rfl
  unfold Vs
  simp! [hn]
 rw [tM] at e3
 rw [Ll]
 unfold Zi
 generalize z8 (pN (zA items).length fun i=>!decide (i∈R))=AA at *
 generalize z8 R=RR at *
 generalize (R.map fun i:Nat=>D.tup [.int i,.bl true])=TT at *
 simp! [eR,e1,e2,r1,e3]
noncomputable def wZ (items:List D) (i:Nat):Bool:=decide (y_ items (zt items i)=some (i+1))
theorem Qj (o:Option Nat) (i:Nat):zm (yB o) (.int ((i:Int)+1))=some (.bl (decide (o=some (i+1)))):=by
 cases o with
 | none=>rfl
 | some p=>
  show some (D.bl ((p:Int) == (i:Int)+1))=_
  by_cases c:p=i+1
  ·subst c
   rw [decide_eq_true rfl,show ((i+1:Nat):Int)=(i:Int)+1 by omega,beq_self_eq_true]
  ·rw [decide_eq_false (by intro z; cases z; exact c rfl),beq_eq_false_iff_ne.mpr (by omega)]
theorem Gu {items:List D} (P:PC items):uj [.lst items]=some (true,.lst (z8 (pN (zA items).length (wZ items)))):=by
 have q1:=VZ P
 have e3:=YO (g:=xW 1 2) (c:=Vu) (e:=Im) (σ:=[some (false,.lst items),none,none]) (wZ items) (ds:=vM ((zA items).map fun r=>yB (y_ items r))) fun i d hd=>by
  rw [qe,List.getElem?_map] at hd
  cases hr:(zA items)[i]? with
  | none=>rw [hr] at hd; cases hd
  | some r=>
   rw [hr] at hd
   cases hd
   have er:zt items i=r:=by
    have:=jE (List.getElem?_eq_some_iff.mp hr).1
    rw [hr] at this
    exact (Option.some.inj this).symm
   refine ⟨_,rfl,?_,rfl⟩
   have hq:=Qj (y_ items r) i
   unfold Vu wZ
   rw [er]
   simp! [add_int,hq]
 rw [tD,List.length_map] at e3
 rw [Lr]
 unfold Zo
 generalize z8 (pN (zA items).length (wZ items))=AA at *
 generalize (zA items).map (fun r=>yB (y_ items r))=ts at *
 simp! [q1,wt,e3]
noncomputable def wo:D->Bool
 | .tup [.str w,.int d,.int s]=>(w == "copy")&&(d == s)
 | _=>false
theorem UW {r:D} (h:zw r):∃ b,zm (.str (wd r)) (.str "copy")=some (.bl b)/\(b=true->∃ x y,zG r (.int 1)=some x/\zG r (.int 2)=some y/\zm x y=some (.bl (wo r)))/\(b=false->wo r=false):=by
 refine ⟨wd r == "copy",VU _ _,fun hb=>?_,fun hb=>?_⟩
 ·cases h with
  | label t=>cases hb
  | plain h=>
   cases h with
   | stop=>cases hb
   | imm hw=>rcases hw with rfl | rfl<;>cases hb
   | @two w d s hw d0 d1 s0 s1=>
    have q:(w == ("copy" : Str))=true:=hb
    refine ⟨_,_,rfl,rfl,?_⟩
    show some (D.bl (d == s))=some (D.bl ((w == ("copy" : Str))&&(d == s)))
    rw [q]
    rfl
   | mov hw=>rcases hw with rfl | rfl<;>cases hb
   | mem hw=>rcases hw with rfl | rfl | rfl | rfl<;>cases hb
  | jump t=>cases hb
  | cond t hw hk=>rcases hw with rfl | rfl<;>cases hb
 ·unfold wo
  split
  ·rename_i w d s
   have:(w == ("copy" : Str))=false:=hb
   rw [this]
   rfl
  ·rfl
theorem Og {items:List D} (P:PC items):uc [.lst items]=some (true,.lst (z8 (pN (zA items).length fun i=>wo (zt items i)))):=by
 have q1:x9 [.lst items]=some (true,.lst (zA items)):=tu P.it
 have e3:=YO (g:=xW 1 2) (c:=Vo) (e:=Ig) (σ:=[some (false,.lst items),none,none]) (fun i=>wo (zt items i)) (ds:=vM (zA items)) fun i d hd=>by
  rw [qe] at hd
  cases hr:(zA items)[i]? with
  | none=>rw [hr] at hd; cases hd
  | some r=>
   rw [hr] at hd
   cases hd
   have hi:=(List.getElem?_eq_some_iff.mp hr).1
   have er:zt items i=r:=by
    have:=jE hi
    rw [hr] at this
    exact (Option.some.inj this).symm
   have hI:=(jF P hi).1
   rw [er] at hI
   have w0:=WL hI
   obtain ⟨b,b1,b2,b3⟩:=UW hI
   refine ⟨_,rfl,?_,rfl⟩
   unfold Vo
   rw [er]
   cases b with
   | true=>
    obtain ⟨x,y,c1,c2,c3⟩:=b2 rfl
    simp! [w0,b1,c1,c2,c3]
   | false=>
    rw [b3 rfl]
    simp! [w0,b1]
 rw [tD] at e3
 rw [LN]
 unfold ZK
 generalize z8 (pN (zA items).length fun i=>wo (zt items i))=AA at *
 generalize zA items=RR at *
 simp! [q1,wt,e3]
noncomputable def t8 (items:List D) (T:List Nat) (i:Nat):Bool:=decide (Pf items i≠0)&&decide ((Pf items i &&& yd T (Wf items i))=0)
theorem L0 (a:Nat):zm (.int (a:Int)) (.int 0)=some (.bl (decide (a=0))):=by
 show some (D.bl ((a:Int) == 0))=_
 by_cases c:a=0
 ·subst c; rfl
 ·rw [beq_eq_false_iff_ne.mpr (by omega),decide_eq_false c]
theorem BF {items:List D} (P:PC items) {T:List Nat} (lT:T.length=(zA items).length+1) (eT:vQ [.lst items]=some (true,.lst (z8 T))):ug [.lst items]=some (true,.lst (z8 (pN (zA items).length (t8 items T)))):=by
 have hr:(zA items).length<=100:=Nat.le_trans (List.length_filter_le _ _) P.ln
 have q1:x9 [.lst items]=some (true,.lst (zA items)):=tu P.it
 have q2:=XB P
 obtain ⟨ps,hps⟩:∃ ps:List Nat,ps=(List.range (zA items).length).map (Pf items):=⟨_,rfl⟩
 have pl:ps.length=(zA items).length:=by rw [hps,List.length_map,List.length_range]
 have pg:∀ i,i<(zA items).length->gt ps i=Pf items i:=fun i hi=>by
  unfold gt
  rw [hps,List.getD_eq_getElem?_getD,List.getElem?_map,List.getElem?_range hi]
  rfl
 have e1:xX (zh 4) xV XF [some (false,.lst items),some (false,.lst (z8 T)),some (false,.lst (yy items)),none,none] (zA items)=some (z8 ps):=by
  have:=YN (g:=zh 4) (e:=XF) (σ:=[some (false,.lst items),some (false,.lst (z8 T)),some (false,.lst (yy items)),none,none]) (fun i=>.int (Pf items i:Nat)) (ds:=zA items) 0 fun i d hd=>by
   have hi:=(List.getElem?_eq_some_iff.mp hd).1
   have er:zt items i=d:=by
    have:=jE hi
    rw [hd] at this
    exact (Option.some.inj this).symm
   have ep:=(Wx P hi).1
   rw [er] at ep
   refine ⟨_,rfl,?_⟩
   rw [Nat.zero_add]
   unfold XF
   generalize z8 T=TT at *
   generalize yy items=WW at *
   simp! [ep]
  rw [this,<- List.range_eq_range',hps]
  unfold z8
  rw [List.map_map]
  rfl
 have r1:JW [some (false,.lst items),some (false,.lst (z8 T)),some (false,.lst (yy items)),some (false,.lst (z8 ps))]=some (xD (zA items).length):=by
  have:=uT (f:=eL xL (zB (z6 3) zD)) (τ:=[some (false,.lst items),some (false,.lst (z8 T)),some (false,.lst (yy items)),some (false,.lst (z8 ps))]) (n:=((zA items).length:Nat)) (by
   show some (D.int ((z8 ps).length:Nat))=_
   rw [vK,pl]) (by omega)
  rw [Int.toNat_natCast] at this
  exact this
 have e3:=YO (g:=zh 4) (c:=Vr) (e:=Ij) (σ:=[some (false,.lst items),some (false,.lst (z8 T)),some (false,.lst (yy items)),some (false,.lst (z8 ps)),none]) (t8 items T) (ds:=xD (zA items).length) fun i d hd=>by
  obtain ⟨hi,rfl⟩:=jO hd
  refine ⟨_,rfl,?_,rfl⟩
  have i1:=YX (T:=ps) (i:=i) (by omega)
  rw [pg i hi] at i1
  have i2:=XC hi
  have i3:=QH (T:=T) (ws:=Wf items i) fun w hw=>by have:=ZH hi hw; omega
  have b1:=U9 (Pf items i) (yd T (Wf items i))
  have z1:=QD (Pf items i) 0
  have z1:xM (.int (Pf items i:Nat)) (.int 0)=some (.bl (!decide (Pf items i=0))):=z1
  have z2:=L0 (Pf items i &&& yd T (Wf items i))
  unfold Vr t8
  generalize z8 T=TT at *
  generalize yy items=WW at *
  generalize z8 ps=PP at *
  generalize z8 (Wf items i)=WI at *
  by_cases c:Pf items i=0
  ·rw [decide_eq_true c] at z1
   rw [decide_eq_false (fun z=>z c),Bool.false_and]
   simp! [i1,z1,Bool.not_true]
  ·rw [decide_eq_false c] at z1
   rw [decide_eq_true c,Bool.true_and]
   simp! [i1,z1,Bool.not_false,i2,i3,b1,z2]
 rw [tM] at e3
 rw [Lk]
 unfold Zh
 generalize z8 (pN (zA items).length (t8 items T))=AA at *
 generalize z8 T=TT at *
 generalize z8 ps=PP at *
 generalize yy items=WW at *
 generalize xD (zA items).length=UU at *
 generalize zA items=RR at *
 simp! [eT,q2,q1,e1,r1,e3]
theorem Wl:∀ (ns acc:List Int),acc.Nodup->(ns.foldl vW acc).Nodup/\∀ x,x∈ns.foldl vW acc↔x∈acc\/x∈ns
 | [],acc,h=>⟨h,fun x=>⟨.inl,fun z=>z.elim id fun z=>by cases z⟩⟩
 | n::ns,acc,h=>by
  rw [List.foldl_cons]
  by_cases c:(acc.any fun m=>decide (m=n))=true
  ·have e:vW acc n=acc:=if_pos c
   rw [e]
   obtain ⟨a,b⟩:=Wl ns acc h
   refine ⟨a,fun x=>(b x).trans ⟨fun z=>z.imp id (List.mem_cons_of_mem _),fun z=>z.elim .inl fun z=>?_⟩⟩
   rcases List.mem_cons.mp z with rfl | z
   ·obtain ⟨m,hm,e⟩:=List.any_eq_true.mp c
    exact .inl (of_decide_eq_true e ▸ hm)
   ·exact .inr z
  ·have e:vW acc n=acc++[n]:=if_neg c
   rw [e]
   have hn:n ∉ acc:=fun z=>c (List.any_eq_true.mpr ⟨n,z,decide_eq_true rfl⟩)
   obtain ⟨a,b⟩:=Wl ns (acc++[n]) (List.nodup_append.mpr ⟨h,List.nodup_cons.mpr ⟨List.not_mem_nil,List.nodup_nil⟩,fun x hx y hy z=>hn (by cases List.mem_singleton.mp hy; exact z ▸ hx)⟩)
   refine ⟨a,fun x=>(b x).trans ?_⟩
   rw [List.mem_append,List.mem_singleton,List.mem_cons]
   exact ⟨fun z=>z.elim (fun z=>z.elim .inl fun z=>.inr (.inl z)) fun z=>.inr (.inr z),fun z=>z.elim (fun z=>.inl (.inl z)) fun z=>z.elim (fun z=>.inl (.inr z)) .inr⟩
theorem Q8:∀ {a b:List Int},a.Pairwise (·<·)->b.Pairwise (·<·)->(∀ x,x∈a↔x∈b)->a=b
 | [],[],_,_,_=>rfl
 | [],y::b,_,_,h=>by have:=(h y).mpr List.mem_cons_self; cases this
 | x::a,[],_,_,h=>by have:=(h x).mp List.mem_cons_self; cases this
 | x::a,y::b,ha,hb,h=>by
  rw [List.pairwise_cons] at ha hb
  have e:x=y:=by
   rcases List.mem_cons.mp ((h x).mp List.mem_cons_self) with z | z
   ·exact z
   ·rcases List.mem_cons.mp ((h y).mpr List.mem_cons_self) with w | w
    ·exact w.symm
    ·have:=hb.1 x z
     have:=ha.1 y w
     omega
  subst e
  rw [Q8 ha.2 hb.2 fun z=>⟨fun hz=>by
   rcases List.mem_cons.mp ((h z).mp (List.mem_cons_of_mem _ hz)) with w | w
   ·have:=ha.1 z hz; omega
   ·exact w,fun hz=>by
   rcases List.mem_cons.mp ((h z).mpr (List.mem_cons_of_mem _ hz)) with w | w
   ·have:=hb.1 z hz; omega
   ·exact w⟩]
theorem DY (n:Nat) (p:Nat->Bool):((pN n p).map fun i:Nat=>(i:Int)).Pairwise (·<·):=by
 rw [List.pairwise_map]
 unfold pN
 exact List.Pairwise.filter _ (List.pairwise_lt_range.imp fun h=>by omega)
theorem GG {n:Nat} (hn:n<64) {l:List Nat} (hl:l.length<1000) {p:Nat->Bool} (h:∀ i,i∈l↔i<n/\p i=true):pY [.lst (z8 l)]=some (.lst (z8 (pN n p))):=by
 have e0:intsOf (z8 l)=some (l.map fun i:Nat=>(i:Int)):=by
  have:=TU (l.map fun i:Nat=>(i:Int))
  rw [List.map_map] at this
  exact this
 obtain ⟨nd,mem⟩:=Wl (l.map fun i:Nat=>(i:Int)) [] List.nodup_nil
 have pm:=L2.isort_perm (wb (l.map fun i:Nat=>(i:Int)))
 have s0:(L2.isort (wb (l.map fun i:Nat=>(i:Int)))).Pairwise (·<·):=by
  have n1:(L2.isort (wb (l.map fun i:Nat=>(i:Int)))).Nodup:=pm.nodup_iff.mpr nd
  exact (L2.isort_sorted (wb (l.map fun i:Nat=>(i:Int)))).imp₂ (fun a b h1 h2=>by have:a≠b:=h2; omega) n1
 have eq:L2.isort (wb (l.map fun i:Nat=>(i:Int)))=(pN n p).map fun i:Nat=>(i:Int):=Q8 s0 (DY n p) fun x=>by
  rw [pm.mem_iff,show x∈wb (l.map fun i:Nat=>(i:Int))↔x∈([]:List Int)\/x∈l.map (fun i:Nat=>(i:Int)) from mem x]
  constructor
  ·rintro (z | z)
   ·cases z
   ·obtain ⟨i,hi,rfl⟩:=List.mem_map.mp z
    exact List.mem_map.mpr ⟨i,Yg.mpr ((h i).mp hi),rfl⟩
  ·intro z
   obtain ⟨i,hi,rfl⟩:=List.mem_map.mp z
   exact .inr (List.mem_map.mpr ⟨i,(h i).mpr (Yg.mp hi),rfl⟩)
 have len:(wb (l.map fun i:Nat=>(i:Int))).length<64:=by
  rw [<- pm.length_eq,eq,List.length_map]
  unfold pN
  have:=List.length_filter_le p (List.range n)
  rw [List.length_range] at this
  omega
 show (intsOf (z8 l)).bind _=_
 rw [e0]
 show (if (l.map fun i:Nat=>(i:Int)).length<1000/\(wb (l.map fun i:Nat=>(i:Int))).length<64 then some (D.lst ((L2.isort (wb (l.map fun i:Nat=>(i:Int)))).map D.int)) else none)=_
 rw [if_pos ⟨by rw [List.length_map]; exact hl,len⟩,eq,List.map_map]
 rfl
end L3
namespace L3
open PySem
noncomputable def ww:D->Option Str
 | .tup [_,.str t]=>some t
 | _=>none
noncomputable def V5 (g:Str->Str):D->D
 | .tup [a,.str t]=>.tup [a,.str (g t)]
 | .tup [a,b,.str t]=>.tup [a,b,.str (g t)]
 | d=>d
theorem pf {d:D} (h:zw d) (hj:yb d=true):∃ (hd:List D) (t:Str),d=.tup (hd++[.str t])/\hd≠[]/\hd.length<=2/\(∀ g,V5 g d=.tup (hd++[.str (g t)]))/\(∀ u,zw (.tup (hd++[.str u]))/\yb (.tup (hd++[.str u]))=true/\zR (.tup (hd++[.str u]))=false)/\(∀ u,ww (.tup (hd++[.str u]))=(ww d).map fun _=>u):=by
 cases h with
 | label u=>cases hj
 | plain h=>
  obtain ⟨_,_,_,_,c,_⟩:=gF h
  rw [c] at hj
  cases hj
 | jump t=>exact ⟨[.str "jump"],t,rfl,by simp,by simp,fun _=>rfl,fun u=>⟨.jump u,rfl,rfl⟩,fun _=>rfl⟩
 | cond t hw hk=>
  rename_i w k
  exact ⟨[.str w,.str k],t,rfl,by simp,by simp,fun _=>rfl,fun u=>⟨.cond u hw hk,by rcases hw with rfl | rfl<;>rfl,by rcases hw with rfl | rfl<;>rfl⟩,fun _=>rfl⟩
theorem jq {hd:List D} {t u:Str} (h1:hd≠[]) (h2:hd.length<=2):Y3 (.tup (hd++[.str t])) none (some (-1))=some (.tup hd)/\zG (.tup (hd++[.str t])) (.int (-1))=some (.str t)/\yO (.tup hd) (.tup [.str u])=some (.tup (hd++[.str u])):=by
 match hd,h1,h2 with
 | [a],_,_=>exact ⟨rfl,rfl,rfl⟩
 | [a,b],_,_=>exact ⟨rfl,rfl,rfl⟩
 | [],h,_=>exact absurd rfl h
 | _::_::_::_,_,h=>simp at h
end L3
namespace L3
open PySem
section
variable (J:Nat->Option Str) (pl:Str->Nat)
inductive wf:Nat->Str->List Nat->Option Str->Prop
 | stop {a:Str} {seen:List Nat}:J (pl a)=none->wf 0 a seen (some a)
 | cyc {a r:Str} {seen:List Nat}:J (pl a)=some r->pl a∈seen->wf 0 a seen none
 | go {a r:Str} {seen:List Nat} {k:Nat} {o:Option Str}:J (pl a)=some r->pl a ∉ seen->wf k r (pl a::seen) o->wf (k+1) a seen o
noncomputable def v6:Nat->Str->Prop
 | 0,a=>J (pl a)=none
 | k+1,a=>∃ r,J (pl a)=some r/\v6 k r
inductive qM:Nat->Str->Str->Prop
 | refl {a:Str}:qM 0 a a
 | step {a r b:Str} {k:Nat}:J (pl a)=some r->qM k r b->qM (k+1) a b
end
section
variable {J:Nat->Option Str} {pl:Str->Nat}
theorem Jh:∀ {k k':Nat} {a:Str} {seen:List Nat} {o o':Option Str},wf J pl k a seen o->wf J pl k' a seen o'->o=o'
 | _,_,_,_,_,_,.stop _,.stop _=>rfl
 | _,_,_,_,_,_,.stop h,.cyc h' _=>by rw [h] at h'; cases h'
 | _,_,_,_,_,_,.stop h,.go h' _ _=>by rw [h] at h'; cases h'
 | _,_,_,_,_,_,.cyc h _,.stop h'=>by rw [h] at h'; cases h'
 | _,_,_,_,_,_,.cyc _ _,.cyc _ _=>rfl
 | _,_,_,_,_,_,.cyc _ m,.go _ m' _=>absurd m m'
 | _,_,_,_,_,_,.go h _ _,.stop h'=>by rw [h] at h'; cases h'
 | _,_,_,_,_,_,.go _ m _,.cyc _ m'=>absurd m' m
 | _,_,_,_,_,_,.go h _ r,.go h' _ r'=>by rw [h] at h'; cases h'; exact Jh r r'
theorem jG {n:Nat} (hJ:∀ p r,J p=some r->p<n):∀ (m:Nat) (a:Str) (seen:List Nat),seen.Nodup->(∀ q∈seen,q<n)->n - seen.length<=m->∃ k o,k<=m/\wf J pl k a seen o
 | m,a,seen,nd,hs,hm=>by
  cases h:J (pl a) with
  | none=>exact ⟨0,_,Nat.zero_le _,.stop h⟩
  | some r=>
   by_cases hi:pl a∈seen
   ·exact ⟨0,_,Nat.zero_le _,.cyc h hi⟩
   ·have hp:=hJ _ _ h
    have nd':(pl a::seen).Nodup:=List.nodup_cons.mpr ⟨hi,nd⟩
    have hs':∀ q∈pl a::seen,q<n:=fun q hq=>by
     rcases List.mem_cons.mp hq with rfl | hq
     ·exact hp
     ·exact hs q hq
    have:=Xg n nd' hs'
    rw [List.length_cons] at this
    match m,hm with
    | 0,hm=>omega
    | m+1,hm=>
     obtain ⟨k,o,hk,R⟩:=jG hJ m r (pl a::seen) nd' hs' (by rw [List.length_cons]; omega)
     exact ⟨k+1,o,by omega,.go h hi R⟩
theorem VD:∀ {k:Nat} {a:Str} {seen:List Nat} {b:Str},wf J pl k a seen (some b)->J (pl b)=none/\∃ j,v6 J pl j a
 | _,_,_,_,.stop h=>⟨h,0,h⟩
 | _,_,_,_,.go h _ r=>by
  obtain ⟨a,j,e⟩:=VD r
  exact ⟨a,j+1,_,h,e⟩
theorem Um:∀ {k k':Nat} {a:Str},v6 J pl k a->v6 J pl k' a->k=k'
 | 0,0,_,_,_=>rfl
 | 0,k'+1,_,h,⟨r,h',_⟩=>by rw [show J (pl _)=none from h] at h'; cases h'
 | k+1,0,_,⟨r,h,_⟩,h'=>by rw [show J (pl _)=none from h'] at h; cases h
 | k+1,k'+1,_,⟨r,h,e⟩,⟨r',h',e'⟩=>by
  rw [h] at h'
  cases h'
  rw [Um e e']
theorem Tz:∀ {m k:Nat} {a b:Str},qM J pl m a b->v6 J pl k a->∃ k',k'+m=k/\v6 J pl k' b
 | _,k,_,_,.refl,h=>⟨k,rfl,h⟩
 | _,0,_,_,.step h _,h'=>by rw [show J (pl _)=none from h'] at h; cases h
 | _,k+1,_,_,.step h l,⟨r,h',e⟩=>by
  rw [h] at h'
  cases h'
  obtain ⟨k',e1,e2⟩:=Tz l e
  exact ⟨k',by omega,e2⟩
theorem Oy {k:Nat} {a b:Str} (h:pl a=pl b) (e:v6 J pl k a):v6 J pl k b:=by
 cases k with
 | zero=>exact (congrArg J h).symm.trans e
 | succ k=>
  obtain ⟨r,h1,h2⟩:=e
  exact ⟨r,by rw [<- h]; exact h1,h2⟩
theorem T_:∀ {m:Nat} {a b r:Str},qM J pl m a b->J (pl b)=some r->qM J pl (m+1) a r
 | _,_,_,_,.refl,h=>.step h .refl
 | _,_,_,_,.step h l,h'=>.step h (T_ l h')
theorem Ji:∀ {k:Nat} {a:Str} {seen:List Nat},wf J pl k a seen none->(∀ q∈seen,∃ m r b,J q=some r/\qM J pl m r b/\pl b=pl a)->¬ ∃ j,v6 J pl j a
 | _,a,seen,.cyc h hi,inv=>fun ⟨j,e⟩=>by
  obtain ⟨m,r,b,hr,l,pb⟩:=inv _ hi
  match j,e with
  | 0,e=>rw [show J (pl a)=none from e] at hr; cases hr
  | j+1,⟨r',h',e'⟩=>
   rw [hr] at h'
   cases h'
   obtain ⟨k',e1,e2⟩:=Tz l e'
   have:=Um (Oy pb e2) (show v6 J pl (j+1) a from ⟨r,hr,e'⟩)
   omega
 | _,a,seen,.go (r:=r) h hi R,inv=>fun ⟨j,e⟩=>by
  match j,e with
  | 0,e=>rw [show J (pl a)=none from e] at h; cases h
  | j+1,⟨r',h',e'⟩=>
   rw [h] at h'
   cases h'
   refine Ji R (fun q hq=>?_) ⟨j,e'⟩
   rcases List.mem_cons.mp hq with rfl | hq
   ·exact ⟨0,r,r,h,.refl,rfl⟩
   ·obtain ⟨m,r1,b,hr1,l,pb⟩:=inv q hq
    exact ⟨m+1,r1,r,hr1,T_ l (by rw [pb]; exact h),rfl⟩
end
noncomputable def wI (J:Nat->Option Str) (pl:Str->Nat) (t:Str):Str:=open Classical in if h:∃ o k,wf J pl k t [] o then (Classical.choose h).getD t else t
theorem pq {J:Nat->Option Str} {pl:Str->Nat} {t:Str} {k:Nat} {o:Option Str} (h:wf J pl k t [] o):wI J pl t=o.getD t:=by
 have ex:∃ o k,wf J pl k t [] o:=⟨o,k,h⟩
 unfold wI
 rw [dif_pos ex]
 obtain ⟨k',h'⟩:=Classical.choose_spec ex
 rw [Jh h' h]
theorem Md {J:Nat->Option Str} {pl:Str->Nat} {n:Nat} (hJ:∀ p r,J p=some r->p<n) (t:Str) :
  wI (fun p=>(J p).map (wI J pl)) pl (wI J pl t)=wI J pl t:=by
 have hJ':∀ p r,(fun p=>(J p).map (wI J pl)) p=some r->p<n:=fun p r h=>by
  cases e:J p with
  | none=>rw [show (fun p=>(J p).map (wI J pl)) p=(J p).map (wI J pl) from rfl,e] at h; cases h
  | some r'=>exact hJ p r' e
 obtain ⟨k,o,_,R⟩:=jG (pl:=pl) hJ n t [] List.nodup_nil (fun _ h=>by cases h) (Nat.sub_le _ _)
 rw [pq R]
 cases o with
 | some b=>
  have h:=(VD R).1
  exact pq (k:=0) (o:=some b) (.stop (by show (J (pl b)).map _=none; rw [h]; rfl))
 | none=>
  have ne:=Ji R (fun _ h=>by cases h)
  show wI _ pl t=t
  have keep:∀ u,(¬ ∃ j,v6 J pl j u)->∃ r,J (pl u)=some r/\(¬ ∃ j,v6 J pl j r)/\wI J pl r=r:=fun u hu=>by
   cases e:J (pl u) with
   | none=>exact absurd ⟨0,e⟩ hu
   | some r=>
    have hr:¬ ∃ j,v6 J pl j r:=fun ⟨j,z⟩=>hu ⟨j+1,r,e,z⟩
    refine ⟨r,rfl,hr,?_⟩
    obtain ⟨k',o',_,R'⟩:=jG (pl:=pl) hJ n r [] List.nodup_nil (fun _ h=>by cases h) (Nat.sub_le _ _)
    rw [pq R']
    cases o' with
    | none=>rfl
    | some b=>exact absurd (VD R').2 hr
  have same:∀ {k':Nat} {u:Str} {seen:List Nat} {o':Option Str},wf (fun p=>(J p).map (wI J pl)) pl k' u seen o'->(¬ ∃ j,v6 J pl j u)->o'=none:=fun {k'}=>by
   induction k' with
   | zero=>
    intro u seen o' R' hu
    obtain ⟨r,hr,_,_⟩:=keep u hu
    cases R' with
    | stop h=>
     have h:(J (pl u)).map (wI J pl)=none:=h
     rw [hr] at h
     cases h
    | cyc _ _=>rfl
   | succ k' ih=>
    intro u seen o' R' hu
    obtain ⟨r,hr,hn,hl⟩:=keep u hu
    cases R' with
    | go h _ R2=>
     have h:(J (pl u)).map (wI J pl)=some _:=h
     rw [hr,Option.map_some,hl] at h
     cases h
     exact ih R2 hn
  obtain ⟨k',o',_,R'⟩:=jG (pl:=pl) hJ' n t [] List.nodup_nil (fun _ h=>by cases h) (Nat.sub_le _ _)
  rw [pq R',same R' ne]
  rfl
end L3
namespace L3
open PySem
theorem Wv {t:Str}:∀ {L:List D} (s:Nat×Option Nat),yM t∈L\/s.2.isSome=true->((L.foldl (xY t) s).2).isSome=true
 | [],s,h=>h.elim (fun z=>by cases z) id
 | d::L,s,h=>by
  rw [List.foldl_cons]
  refine Wv _ ?_
  rcases h with h | h
  ·rcases List.mem_cons.mp h with rfl | h
   ·refine .inr ?_
    have:qb t (yM t)=true:=beq_self_eq_true t
    unfold xY
    rw [show zR (yM t)=true from rfl]
    dsimp only
    rw [this]
    rfl
   ·exact .inl h
  ·refine .inr ?_
   unfold xY
   cases zR d with
   | true=>
    dsimp only
    cases qb t d with
    | true=>rfl
    | false=>exact h
   | false=>exact h
theorem GC {items:List D} (h:∀ d∈items,zw d) {t:Str} {p:Nat} (e:(yV t items).2=some p):yM t∈items:=by
 apply Classical.byContradiction
 intro hn
 have:=Wc (t:=t) (L:=items) (s:=(0,none)) fun d hd=>by
  cases ht:vm t d with
  | false=>rfl
  | true=>exact absurd (WH (h d hd) ht ▸ hd) hn
 unfold yV at e
 rw [this] at e
 cases e
end L3
namespace L3
open PySem
noncomputable def Za:FS:=
 (ya (Zv (e2 (uL fun i j=>decide (i<j)) (z6 1) (eL xL (zB (z6 0) zD))) (e2 zm (e2 zG (e2 zG (z6 0) (z6 1)) (eC (.int 0))) (eC (.str "jump")))))
noncomputable def pG:List D->Option (Bool×D):=FR 2 2 Za
theorem Cr:∀ ds r,pG ds=some r->ds.length=2/\zc 2 Za ds=some r:=yK
theorem Ld (x0 x1:D):pG [x0,x1]=zc 2 Za [x0,x1]:=rfl
noncomputable def tZ:FS:=(zE (yP (tE (e2 yA (e2 zG (z6 2) (z6 4)) (wp 3)))
     (ya (z6 0))
     yW)
    (zE (qm 3 (e2 zG (z6 2) (z6 4)) (eC (.bl true)))
    (zS 4 (e2 zG (e2 zG (z6 1) (e2 zG (z6 2) (z6 4))) (e1 vk (eC (.int 1)))))))
noncomputable def tU:FT:=(tE (zX pG (zB (z6 1) (zB (e2 zG (z6 2) (z6 4)) zD))))
noncomputable def ZQ:FS:=
 (zE (vO 3 (eC (.dic [] [])))
  (zE (zS 4 (z6 0))
  (zE (uV tU
   tZ)
  (zE (qk 3) (ya (z6 4))))))
noncomputable def p7:List D->Option (Bool×D):=FR 3 5 ZQ
theorem Cd:∀ ds r,p7 ds=some r->ds.length=3/\zc 5 ZQ ds=some r:=yK
theorem LT (x0 x1 x2:D):p7 [x0,x1,x2]=zc 5 ZQ [x0,x1,x2]:=rfl
noncomputable def Vi:FE:=(pU (tE (zX uC (zB (z6 3) zD))) (e2 yO (vj (z6 3) vn (vo (e1 vk (eC (.int 1))))) (yu (zB (zX p7 (zB (e2 zG (z6 3) (e1 vk (eC (.int 1)))) (zB (z6 1) (zB (z6 2) zD)))) zD))) (z6 3))
noncomputable def Zb:FS:=
 (zE (zS 1 (zX x9 (zB (z6 0) zD)))
  (zE (zS 2 (zX ud (zB (z6 0) zD)))
  (xq (xP 1 (xc (z6 0)) (zh 3) xV Vi))))
noncomputable def uE:List D->Option (Bool×D):=FR 1 3 Zb
theorem Cs:∀ ds r,uE ds=some r->ds.length=1/\zc 3 Zb ds=some r:=yK
theorem Le (x0:D):uE [x0]=zc 3 Zb [x0]:=rfl
noncomputable def jn (rows:List D) (p:Nat):Option Str:=match rows[p]? with
 | some (.tup [_,.str t])=>some t
 | _=>none
theorem jo (rows:List D) (p:Nat):jn rows p=(rows[p]?).bind ww:=by
 unfold jn
 cases e:rows[p]? with
 | none=>rfl
 | some d=>
  show (match some d with | some (.tup [_,.str t])=>some t | _=>none)=ww d
  unfold ww
  split<;>rename_i h
  ·cases h
   rfl
  ·split
   ·rename_i a b
    exact absurd rfl (h _ _)
   ·rfl
theorem VA {d:D} (h:zw d) (hl:zR d=false):∃ w,zG d (.int 0)=some (.str w)/\zm (.str w) (.str "jump")=some (.bl (ww d).isSome)/\∀ t,ww d=some t->d=.tup [.str "jump",.str t]:=by
 cases h with
 | label u=>cases hl
 | plain h=>cases h with
  | stop=>exact ⟨_,rfl,rfl,fun t z=>by cases z⟩
  | imm hw=>rcases hw with rfl | rfl<;>exact ⟨_,rfl,rfl,fun t z=>by cases z⟩
  | two hw=>rcases hw with rfl | rfl | rfl | rfl | rfl | rfl | rfl | rfl | rfl<;>exact ⟨_,rfl,rfl,fun t z=>by cases z⟩
  | mov hw=>rcases hw with rfl | rfl<;>exact ⟨_,rfl,rfl,fun t z=>by cases z⟩
  | mem hw=>rcases hw with rfl | rfl | rfl | rfl<;>exact ⟨_,rfl,rfl,fun t z=>by cases z⟩
 | jump u=>exact ⟨_,rfl,rfl,fun t z=>by cases z; rfl⟩
 | cond u hw hk=>rcases hw with rfl | rfl<;>exact ⟨_,rfl,rfl,fun t z=>by cases z⟩
noncomputable def yg (items:List D) (t:Str):Nat:=((yV t items).2).getD 0
noncomputable def uk (items:List D) (t:Str):Prop:=∃ p,(yV t items).2=some p
theorem MY {items:List D} {t:Str} (h:uk items t):(yV t items).2=some (yg items t):=by
 obtain ⟨p,e⟩:=h
 unfold yg
 rw [e]
 rfl
theorem VB {items:List D} (P:PC items) {p:Nat} {d:D} (h:(zA items)[p]?=some d):d∈items/\zw d/\zR d=false:=by
 have:=List.mem_filter.mp (List.mem_of_getElem? h)
 exact ⟨this.1,P.it d this.1,by simpa using this.2⟩
theorem jp {items:List D} (P:PC items) {p:Nat} {r:Str} (h:jn (zA items) p=some r):(zA items)[p]?=some (.tup [.str "jump",.str r])/\uk items r/\p<(zA items).length:=by
 rw [jo] at h
 cases e:(zA items)[p]? with
 | none=>rw [e] at h; cases h
 | some d=>
  rw [e] at h
  obtain ⟨m,hi,hl⟩:=VB P e
  obtain ⟨w,a,b,c⟩:=VA hi hl
  have ed:=c r h
  subst ed
  refine ⟨rfl,?_,(List.getElem?_eq_some_iff.mp e).1⟩
  obtain ⟨t,q,e1,e2⟩:=P.tg _ m rfl
  cases e1
  exact ⟨q,e2⟩
theorem Q0 {items:List D} (P:PC items) (p:Nat):pG [.lst (zA items),.int (p:Int)]=some (false,.bl (jn (zA items) p).isSome):=by
 rw [Ld]
 unfold Za
 by_cases h:p<(zA items).length
 ·have c:decide ((p:Int)<((zA items).length:Int))=true:=decide_eq_true (by omega)
  have e:(zA items)[p]?=some (zA items)[p]:=List.getElem?_eq_getElem h
  obtain ⟨_,hi,hl⟩:=VB P e
  obtain ⟨w,a,b,_⟩:=VA hi hl
  have ix:zG (.lst (zA items)) (.int (p:Int))=some (zA items)[p]:=vF (by omega) (by rw [Int.toNat_natCast]; exact e)
  have ej:jn (zA items) p=ww (zA items)[p]:=by rw [jo,e]; rfl
  rw [ej]
  generalize (zA items)[p]=d at *
  generalize zA items=RR at *
  simp! [c,ix,a,b]
 ·have c:decide ((p:Int)<((zA items).length:Int))=false:=decide_eq_false (by omega)
  have ej:jn (zA items) p=none:=by rw [jo,List.getElem?_eq_none (by omega)]; rfl
  rw [ej]
  generalize zA items=RR at *
  simp! [c]
  rfl
theorem Mf {items:List D} (P:PC items) {ks:List (Sum Int Str)} {vs:List D} (hk:∀ t,getK ks vs (.inr t)=((yV t items).2).map fun n:Nat=>D.int n) (name:Str) :
  ∀ {k:Nat} {a:Str} {seen:List Nat} {o:Option Str},wf (jn (zA items)) (yg items) k a seen o->uk items a->∀ (K:List (Sum Int Str)) (V:List D),K.length=V.length->K.length+k<=1000->(∀ q:Nat,yF K (.inl (q:Int))=decide (q∈seen))->
  (∃ b K' V',o=some b/\xr tU tZ (k+1) [some (false,.str name),some (false,.lst (zA items)),some (false,.dic ks vs),some (true,.dic K V),some (false,.str a)]=some (.nx [some (false,.str name),some (false,.lst (zA items)),some (false,.dic ks vs),some (true,.dic K' V'),some (false,.str b)])) \/
  (o=none/\xr tU tZ (k+1) [some (false,.str name),some (false,.lst (zA items)),some (false,.dic ks vs),some (true,.dic K V),some (false,.str a)]=some (.rt false (.str name))):=by
 have ix:∀ {a:Str},uk items a->zG (.dic ks vs) (.str a)=some (.int (yg items a:Nat)):=fun {a} h=>by
  show getK ks vs (.inr a)=_
  rw [hk,MY h]
  rfl
 intro k
 induction k with
 | zero=>
  intro a seen o R ka K V l1 l2 inv
  have i1:=ix ka
  have lf:=Q0 P (yg items a)
  cases R with
  | stop h=>
   refine .inl ⟨a,K,V,rfl,?_⟩
   rw [h] at lf
   rw [p4]
   unfold tU
   generalize zA items=RR at *
   simp! [i1,lf]
   rfl
  | cyc h hi=>
   refine .inr ⟨rfl,?_⟩
   rw [h] at lf
   have hin:yA (.int (yg items a:Nat)) (.dic K V)=some (.bl true):=by
    show (some (yF K (.inl ((yg items a:Nat):Int)))).bind _=_
    rw [inv,decide_eq_true hi]
    rfl
   unfold xr
   have ec:tU [some (false,.str name),some (false,.lst (zA items)),some (false,.dic ks vs),some (true,.dic K V),some (false,.str a)]=some true:=by
    unfold tU
    generalize zA items=RR at *
    simp! [i1,lf]
    rfl
   have eb:tZ [some (false,.str name),some (false,.lst (zA items)),some (false,.dic ks vs),some (true,.dic K V),some (false,.str a)]=some (.rt false (.str name)):=by
    unfold tZ
    generalize zA items=RR at *
    simp! [i1,hin]
   rw [ec]
   show (tZ _).bind _=_
   rw [eb]
   rfl
 | succ k ih=>
  intro a seen o R ka K V l1 l2 inv
  have i1:=ix ka
  have lf:=Q0 P (yg items a)
  cases R with
  | go h hi R=>
   rename_i r
   obtain ⟨er,kr,hp⟩:=jp P h
   rw [h] at lf
   have hin:yA (.int (yg items a:Nat)) (.dic K V)=some (.bl false):=by
    show (some (yF K (.inl ((yg items a:Nat):Int)))).bind _=_
    rw [inv,decide_eq_false hi]
    rfl
   have ir:zG (.lst (zA items)) (.int (yg items a:Nat))=some (.tup [.str "jump",.str r]):=vF (by omega) (by rw [Int.toNat_natCast]; exact er)
   have il:zG (.tup [.str "jump",.str r]) (.int (-1))=some (.str r):=rfl
   have kd:uy (.int (yg items a:Nat))=some (.inl ((yg items a:Nat):Int)):=rfl
   have lim:K.length<zu:=by show _<16777216; omega
   have ec:tU [some (false,.str name),some (false,.lst (zA items)),some (false,.dic ks vs),some (true,.dic K V),some (false,.str a)]=some true:=by
    unfold tU
    generalize zA items=RR at *
    simp! [i1,lf]
    rfl
   have eb:tZ [some (false,.str name),some (false,.lst (zA items)),some (false,.dic ks vs),some (true,.dic K V),some (false,.str a)]=some (.nx [some (false,.str name),some (false,.lst (zA items)),some (false,.dic ks vs),some (true,.dic (xE K (.inl ((yg items a:Nat):Int))) (xI K V (.inl ((yg items a:Nat):Int)) (.bl true))),some (false,.str r)]):=by
    unfold tZ
    generalize zA items=RR at *
    simp! [i1,hin,qm,kd,if_pos lim,ir,il]
   have:=ih R kr (xE K (.inl ((yg items a:Nat):Int))) (xI K V (.inl ((yg items a:Nat):Int)) (.bl true)) (qh l1) (by
    have:(xE K (.inl ((yg items a:Nat):Int))).length<=K.length+1:=by
     unfold xE
     split
     ·omega
     ·rw [List.length_append]; exact Nat.le_refl _
    omega) fun q=>by
    rw [TC,inv]
    by_cases e:q=yg items a
    ·subst e
     rw [decide_eq_true (p:=(Sum.inl ((yg items a:Nat):Int):Sum Int Str)=Sum.inl ((yg items a:Nat):Int)) rfl,Bool.or_true,decide_eq_true (List.mem_cons_self ..)]
    ·rw [decide_eq_false (p:=(Sum.inl ((yg items a:Nat):Int):Sum Int Str)=Sum.inl (q:Int)) (fun z=>e (by have:=Sum.inl.inj z; omega)),Bool.or_false]
     refine decide_eq_decide.mpr ⟨fun z=>List.mem_cons_of_mem _ z,fun z=>?_⟩
     rcases List.mem_cons.mp z with z | z
     ·exact absurd z e
     ·exact z
   rw [jR ec eb]
   exact this
theorem Me {items:List D} (P:PC items) {ks:List (Sum Int Str)} {vs:List D} (hk:∀ t,getK ks vs (.inr t)=((yV t items).2).map fun n:Nat=>D.int n) {t:Str} (ht:uk items t) :
  p7 [.str t,.lst (zA items),.dic ks vs]=some (false,.str (wI (jn (zA items)) (yg items) t)):=by
 have rl:(zA items).length<=100:=Nat.le_trans (List.length_filter_le _ _) P.ln
 obtain ⟨k,o,hk2,R⟩:=jG (J:=jn (zA items)) (pl:=yg items) (n:=(zA items).length) (fun p r h=>(jp P h).2.2) (zA items).length t [] List.nodup_nil (fun _ h=>by cases h) (Nat.sub_le _ _)
 rw [pq R,LT]
 unfold ZQ
 rcases Mf P hk t R ht [] [] rfl (by show 0+k<=_; omega) (fun q=>rfl) with ⟨b,K',V',rfl,e⟩ | ⟨rfl,e⟩
 ·have e2:=qo _ e (Nat.le_trans (show k+1<=101 by omega) (by decide))
  generalize zA items=RR at *
  simp! [e2]
  rfl
 ·have e2:=qo _ e (Nat.le_trans (show k+1<=101 by omega) (by decide))
  generalize zA items=RR at *
  simp! [e2]
  rfl
noncomputable def xR (items:List D) (t:Str):Str:=wI (jn (zA items)) (yg items) t
noncomputable def yN (items:List D) (d:D):D:=match yb d with
 | true=>V5 (xR items) d
 | false=>d
theorem Q3 {items:List D} (P:PC items):uE [.lst items]=some (true,.lst (items.map (yN items))):=by
 obtain ⟨ks,vs,e1,hk⟩:=Tv P.it (by have:=P.ln; omega)
 have e2:=tu P.it
 have e3:=pw (g:=zh 3) (e:=Vi) (σ:=[some (false,.lst items),some (false,.lst (zA items)),some (false,.dic ks vs),none]) (yN items) (ds:=items) fun d hd=>by
  have hj:=WJ (P.it d hd)
  refine ⟨_,rfl,?_⟩
  unfold Vi yN
  cases z:yb d with
  | false=>
   rw [z] at hj
   generalize zA items=RR at *
   simp! [hj]
  | true=>
   rw [z] at hj
   obtain ⟨t0,p,q1,q2⟩:=P.tg d hd z
   obtain ⟨hd',t,ed,n1,n2,rl,_,_⟩:=pf (P.it d hd) z
   obtain ⟨p1,p2,p3⟩:=jq (t:=t) (u:=xR items t) n1 n2
   rw [rl]
   subst ed
   rw [p2] at q1
   injection q1 with q1
   injection q1 with q1
   subst q1
   have lf:=Me P hk ⟨p,q2⟩
   unfold xR at *
   generalize wI (jn (zA items)) (yg items) t=u at *
   generalize zA items=RR at *
   generalize hd'++[D.str t]=dd at *
   simp! [hj,vj,vo,vn,p1,p2,lf,p3]
 rw [Le]
 unfold Zb
 generalize items.map (yN items)=LL at *
 have e2:x9 [.lst items]=some (true,.lst (zA items)):=e2
 generalize zA items=RR at *
 simp! [e2,e1,e3]
theorem Tg {f:D->D} (t:Str):∀ {L:List D} (s:Nat×Option Nat),(∀ d∈L,zR (f d)=zR d/\(zR d=true->f d=d))->(L.map f).foldl (xY t) s=L.foldl (xY t) s
 | [],_,_=>rfl
 | d::L,s,h=>by
  rw [List.map_cons,List.foldl_cons,List.foldl_cons,Tg t _ fun x hx=>h x (List.mem_cons_of_mem _ hx)]
  obtain ⟨a,b⟩:=h d (List.mem_cons_self ..)
  congr 1
  unfold xY
  rw [a]
  cases hl:zR d with
  | true=>rw [b hl]
  | false=>rfl
theorem Tf {f:D->D}:∀ {L:List D},(∀ d∈L,zR (f d)=zR d/\(zR d=true->f d=d))->(L.map f).filter zR=L.filter zR
 | [],_=>rfl
 | d::L,h=>by
  obtain ⟨a,b⟩:=h d (List.mem_cons_self ..)
  have ih:=Tf fun x hx=>h x (List.mem_cons_of_mem _ hx)
  rw [List.map_cons]
  cases hl:zR d with
  | true=>rw [List.filter_cons_of_pos (by rw [a]; exact hl),List.filter_cons_of_pos hl,ih,b hl]
  | false=>rw [List.filter_cons_of_neg (by rw [a,hl]; decide),List.filter_cons_of_neg (by rw [hl]; decide),ih]
theorem Th {f:D->D}:∀ {L:List D},(∀ d∈L,zR (f d)=zR d)->(L.map f).filter (fun d=>!zR d)=(L.filter fun d=>!zR d).map f
 | [],_=>rfl
 | d::L,h=>by
  have a:=h d (List.mem_cons_self ..)
  have ih:=Th fun x hx=>h x (List.mem_cons_of_mem _ hx)
  rw [List.map_cons]
  cases hl:zR d with
  | true=>rw [List.filter_cons_of_neg (by rw [a,hl]; decide),List.filter_cons_of_neg (by rw [hl]; decide),ih]
  | false=>rw [List.filter_cons_of_pos (by rw [a,hl]; rfl),List.filter_cons_of_pos (by rw [hl]; rfl),ih,List.map_cons]
theorem Q2 {items:List D} (P:PC items):∀ d∈items,zw (yN items d)/\yb (yN items d)=yb d/\zR (yN items d)=zR d/\(zR d=true->yN items d=d)/\ww (yN items d)=(if yb d=true then (ww d).map (xR items) else ww d):=fun d hd=>by
 unfold yN
 cases z:yb d with
 | false=>exact ⟨P.it d hd,z,rfl,fun _=>rfl,by rw [if_neg Bool.false_ne_true]⟩
 | true=>
  obtain ⟨hd',t,ed,n1,n2,rl,it,nj⟩:=pf (P.it d hd) z
  show zw (V5 (xR items) d)/\_
  rw [rl,if_pos rfl,nj]
  have l0:zR d=false:=by rw [ed]; exact (it t).2.2
  refine ⟨(it _).1,(it _).2.1,by rw [l0]; exact (it _).2.2,(fun y=>by rw [l0] at y; cases y),?_⟩
  have:=nj t
  rw [<- ed] at this
  cases e:ww d with
  | none=>rfl
  | some u=>
   rw [e] at this
   have hu:u=t:=Option.some.inj this
   rw [hu]
   rfl
theorem MX {items:List D} (P:PC items) {t:Str} (ht:uk items t):uk items (xR items t):=by
 obtain ⟨k,o,_,R⟩:=jG (J:=jn (zA items)) (pl:=yg items) (n:=(zA items).length) (fun p r h=>(jp P h).2.2) (zA items).length t [] List.nodup_nil (fun _ h=>by cases h) (Nat.sub_le _ _)
 unfold xR
 rw [pq R]
 have go:∀ {k:Nat} {a:Str} {seen:List Nat} {b:Str},wf (jn (zA items)) (yg items) k a seen (some b)->uk items a->uk items b:=fun {k}=>by
  induction k with
  | zero=>intro a seen b R h; cases R; exact h
  | succ k ih=>
   intro a seen b R h
   cases R with
   | go e _ R=>exact ih R (jp P e).2.1
 cases o with
 | none=>exact ht
 | some b=>exact go R ht
theorem py {items:List D} (P:PC items):PC (items.map (yN items))/\(∀ t,yV t (items.map (yN items))=yV t items)/\zA (items.map (yN items))=(zA items).map (yN items):=by
 have kp:=Q2 P
 have pk:∀ t,yV t (items.map (yN items))=yV t items:=fun t=>Tg t _ fun d hd=>⟨(kp d hd).2.2.1,(kp d hd).2.2.2.1⟩
 refine ⟨⟨fun d hd=>?_,?_,fun d hd hj=>?_,by rw [List.length_map]; exact P.ln⟩,pk,Th fun d hd=>(kp d hd).2.2.1⟩
 ·obtain ⟨x,hx,rfl⟩:=List.mem_map.mp hd
  exact (kp x hx).1
 ·rw [Tf fun d hd=>⟨(kp d hd).2.2.1,(kp d hd).2.2.2.1⟩]
  exact P.nd
 ·obtain ⟨x,hx,rfl⟩:=List.mem_map.mp hd
  have hjx:=hj
  rw [(kp x hx).2.1] at hjx
  obtain ⟨t0,p,q1,q2⟩:=P.tg x hx hjx
  obtain ⟨hd',t,ed,n1,n2,rl,_,_⟩:=pf (P.it x hx) hjx
  have e:yN items x=.tup (hd'++[.str (xR items t)]):=by
   unfold yN
   rw [hjx]
   exact rl _
  obtain ⟨_,p2,_⟩:=jq (t:=t) (u:=t) n1 n2
  rw [ed,p2] at q1
  injection q1 with q1
  injection q1 with q1
  subst q1
  obtain ⟨q,eq⟩:=MX P ⟨p,q2⟩
  refine ⟨xR items t,q,?_,by rw [pk]; exact eq⟩
  rw [e]
  exact (jq (t:=xR items t) (u:=t) n1 n2).2.1
theorem Mo {items:List D} (P:PC items):(items.map (yN items)).map (yN (items.map (yN items)))=items.map (yN items):=by
 obtain ⟨P',pk,rk⟩:=py P
 have kp:=Q2 P
 have epl:yg (items.map (yN items))=yg items:=funext fun t=>by unfold yg; rw [pk]
 have ej:jn (zA (items.map (yN items)))=fun p=>(jn (zA items) p).map (xR items):=funext fun p=>by
  rw [jo,rk,List.getElem?_map]
  show _=(jn (zA items) p).map (xR items)
  rw [jo]
  cases e:(zA items)[p]? with
  | none=>rfl
  | some d=>
   show ww (yN items d)=(ww d).map (xR items)
   obtain ⟨m,hi,hl⟩:=VB P e
   rw [(kp d m).2.2.2.2]
   cases hj:yb d with
   | true=>rw [if_pos rfl]
   | false=>
    rw [if_neg Bool.false_ne_true]
    cases en:ww d with
    | none=>rfl
    | some u=>
     obtain ⟨_,_,_,c⟩:=VA hi hl
     have:=c u en
     subst this
     cases hj
 have la:∀ t,xR (items.map (yN items)) (xR items t)=xR items t:=fun t=>by
  show wI (jn (zA (items.map (yN items)))) (yg (items.map (yN items))) (xR items t)=_
  rw [epl,ej]
  exact Md (n:=(zA items).length) (fun p r h=>(jp P h).2.2) t
 rw [List.map_map]
 refine List.map_congr_left fun d hd=>?_
 show yN (items.map (yN items)) (yN items d)=yN items d
 cases hj:yb d with
 | false=>
  have e:yN items d=d:=by unfold yN; rw [hj]
  rw [e]
  unfold yN
  rw [hj]
 | true=>
  obtain ⟨hd',t,ed,n1,n2,rl,it,_⟩:=pf (P.it d hd) hj
  have e:yN items d=.tup (hd'++[.str (xR items t)]):=by
   unfold yN
   rw [hj]
   exact rl _
  rw [e]
  obtain ⟨hd2,t2,ed2,m1,m2,rl2,_,_⟩:=pf (it (xR items t)).1 (it (xR items t)).2.1
  have e2:yN (items.map (yN items)) (.tup (hd'++[.str (xR items t)]))=.tup (hd2++[.str (xR (items.map (yN items)) t2)]):=by
   unfold yN
   rw [(it (xR items t)).2.1]
   exact rl2 _
  have ee:=D.tup.inj ed2
  obtain ⟨e3,e4⟩:=List.append_inj' ee rfl
  have e5:xR items t=t2:=by injection e4 with z _; injection z
  rw [e2,<- e5,la,e3]
end L3
namespace L3
open PySem
noncomputable def Vn:FE:=(yu (zB (z6 6) (zB (eC (.bl true)) zD)))
noncomputable def WQ:FS:=(yP (tE (zX uD (zB (z6 5) zD)))
     (wS 4 wG (z6 5))
     (zE (yP (tE (e2 wH (z6 3) (z6 2)))
       (wS 4 wG (z6 5))
       yW)
      (zS 3 (e2 (xt fun i j=>i+j) (z6 3) (eC (.int 1))))))
noncomputable def Zr:FS:=
 (zE (zS 2 (eL qR (zB (xP 1 (xc (z6 1)) (zh 6) xV Vn) zD)))
  (zE (vO 4 (yk zD))
  (zE (zS 3 (eC (.int 0)))
  (zE (vA (xc (z6 0)) (zh 5)
   WQ)
  (uU 4)))))
noncomputable def qL:List D->Option (Bool×D):=FR 2 6 Zr
theorem EE:∀ ds r,qL ds=some r->ds.length=2/\zc 6 Zr ds=some r:=yK
theorem Lv (x0 x1:D):qL [x0,x1]=zc 6 Zr [x0,x1]:=rfl
noncomputable def xQ (qs:List Nat) (s:Nat×List D) (d:D):Nat×List D:=match zR d with
 | true=>(s.1,s.2++[d])
 | false=>(s.1+1,if s.1∈qs then s.2 else s.2++[d])
noncomputable def yZ (qs:List Nat) (L:List D):Nat×List D:=L.foldl (xQ qs) (0,[])
theorem Tk (qs:List Nat) (L:List D) (d:D):yZ qs (L++[d])=xQ qs (yZ qs L) d:=by
 unfold yZ
 rw [List.foldl_append]
 rfl
theorem YE (qs:List Nat):∀ (L:List D) (s:Nat×List D),(L.foldl (xQ qs) s).2.length<=s.2.length+L.length
 | [],s=>Nat.le_refl _
 | d::L,s=>by
  rw [List.foldl_cons]
  have h:=YE qs L (xQ qs s d)
  have:(xQ qs s d).2.length<=s.2.length+1:=by
   unfold xQ
   cases zR d with
   | true=>show (s.2++[d]).length<=_; rw [List.length_append]; exact Nat.le_refl _
   | false=>
    show (if s.1∈qs then s.2 else s.2++[d]).length<=_
    split
    ·omega
    ·rw [List.length_append]; exact Nat.le_refl _
  rw [List.length_cons]
  omega
theorem Tj (qs:List Nat):∀ (L:List D) (s:Nat×List D),∀ x∈(L.foldl (xQ qs) s).2,x∈s.2\/x∈L
 | [],s,x,h=>.inl h
 | d::L,s,x,h=>by
  rw [List.foldl_cons] at h
  rcases Tj qs L _ x h with h | h
  ·have:x∈s.2\/x=d:=by
    unfold xQ at h
    cases hl:zR d with
    | true=>
     rw [hl] at h
     rcases List.mem_append.mp h with h | h
     ·exact .inl h
     ·exact .inr (List.mem_singleton.mp h)
    | false=>
     rw [hl] at h
     have h:x∈(if s.1∈qs then s.2 else s.2++[d]):=h
     split at h
     ·exact .inl h
     ·rcases List.mem_append.mp h with h | h
      ·exact .inl h
      ·exact .inr (List.mem_singleton.mp h)
   rcases this with h | h
   ·exact .inl h
   ·exact .inr (h ▸ List.mem_cons_self ..)
  ·exact .inr (List.mem_cons_of_mem _ h)
theorem HS {items:List D} (h:∀ d∈items,zw d) (hl:items.length<=100) (qs:List Nat):qL [.lst items,.lst (z8 qs)]=some (true,.lst (yZ qs items).2):=by
 have e1:xX (zh 6) xV Vn [some (false,.lst items),some (false,.lst (z8 qs)),none,none,none,none,none] (z8 qs)=some (qs.map fun i:Nat=>D.tup [.int i,.bl true]):=by
  have:=pw (g:=zh 6) (e:=Vn) (σ:=[some (false,.lst items),some (false,.lst (z8 qs)),none,none,none,none,none]) (fun d=>.tup [d,.bl true]) (ds:=z8 qs) fun d hd=>⟨_,rfl,rfl⟩
  rw [this]
  unfold z8
  rw [List.map_map]
  rfl
 obtain ⟨K,V,e2,hK⟩:=Uc qs
 obtain ⟨σ',e3,x5,rfl⟩:=t5 (g:=zh 5) (b:=WQ) (fun i σ=>∃ x5,σ=[some (false,.lst items),some (false,.lst (z8 qs)),some (false,.dic K V),some (false,.int (((yZ qs (items.take i)).1:Nat):Int)),some (true,.lst (yZ qs (items.take i)).2),x5]) (ds:=items)
  (σ:=[some (false,.lst items),some (false,.lst (z8 qs)),some (false,.dic K V),some (false,.int 0),some (true,.lst []),none]) 0 ⟨none,rfl⟩ (by
  rintro i v σ hv ⟨x5,rfl⟩
  rw [Nat.zero_add] at *
  have hi:i<items.length:=(List.getElem?_eq_some_iff.mp hv).1
  have ev:items[i]=v:=(List.getElem?_eq_some_iff.mp hv).2
  have ht:items.take (i+1)=items.take i++[v]:=by rw [List.take_succ_eq_append_getElem hi,ev]
  have hf:=WK (h v (List.mem_of_getElem? hv))
  have ll:=YE qs (items.take i) (0,[])
  have lt:(items.take i).length<=100:=by rw [List.length_take]; omega
  have hni:wH (.int (((yZ qs (items.take i)).1:Nat):Int)) (.dic K V)=some (.bl (!decide ((yZ qs (items.take i)).1∈qs))):=by
   show (some (yF K (.inl _))).bind _=_
   rw [hK]
   rfl
  have hap:=uq (L:=(yZ qs (items.take i)).2) (r:=v) (by have:(yZ qs (items.take i)).2.length<=0+(items.take i).length:=ll; omega)
  refine ⟨_,[some (false,.lst items),some (false,.lst (z8 qs)),some (false,.dic K V),some (false,.int (((yZ qs (items.take (i+1))).1:Nat):Int)),some (true,.lst (yZ qs (items.take (i+1))).2),some (false,v)],rfl,.inl ?_,_,rfl⟩
  rw [ht,Tk]
  generalize yZ qs (items.take i)=s at *
  unfold WQ xQ
  cases hL:zR v with
  | true=>
   rw [hL] at hf
   simp! [hf,hap]
  | false=>
   rw [hL] at hf
   by_cases hm:s.1∈qs
   ·rw [decide_eq_true hm] at hni
    simp! [hf,hni,Bool.not_true,if_pos hm]
    rfl
   ·rw [decide_eq_false hm] at hni
    simp! [hf,hni,Bool.not_false,hap,if_neg hm]
    rfl)
 rw [Nat.zero_add,List.take_length] at e3
 rw [Lv]
 unfold Zr
 generalize z8 qs=QQ at *
 simp! [e1,e2,e3]
end L3
namespace L3
open PySem
noncomputable def qX:FS:=(zE (zS 1 (e2 yO (e2 zG (eC (.str "abcdefghijklmnopqrstuvwxyz")) (e2 yR (e2 Y4 (z6 2) (eC (.int 1))) (eL xL (zB (eC (.str "abcdefghijklmnopqrstuvwxyz")) zD)))) (z6 1)))
    (zS 2 (e2 xm (e2 Y4 (z6 2) (eC (.int 1))) (eL xL (zB (eC (.str "abcdefghijklmnopqrstuvwxyz")) zD)))))
noncomputable def qP:FT:=(tE (e2 (uL fun i j=>decide (j<i)) (z6 2) (eC (.int 0))))
noncomputable def Zc:FS:=
 (zE (zS 1 (eC (.str "")))
  (zE (zS 2 (e2 yO (z6 0) (eC (.int 1))))
  (zE (uV qP
   qX)
  (ya (z6 1)))))
noncomputable def qJ:List D->Option (Bool×D):=FR 1 3 Zc
theorem Cv:∀ ds r,qJ ds=some r->ds.length=1/\zc 3 Zc ds=some r:=yK
theorem Lf (x0:D):qJ [x0]=zc 3 Zc [x0]:=rfl
noncomputable def nm (n:Nat):Str:=if n<26 then lt (n:Int) ++ "" else lt (((n:Int) - 26) / 26)++(lt (((n:Int) - 26) % 26) ++ "")
theorem BI {n left:Int} {acc:Str} (hl:acc.length<=100):qX [some (false,.int n),some (false,.str acc),some (false,.int left)]=some (.nx [some (false,.int n),some (false,.str (lt ((left - 1) % 26)++acc)),some (false,.int ((left - 1) / 26))]):=by
 have hi:=Xa (k:=(left - 1) % 26) (by omega) (by omega)
 have ha:=add_str (a:=lt ((left - 1) % 26)) (b:=acc) (by rw [jx]; omega)
 unfold qX
 simp! [Iz,hi,ha]
theorem QV {n left:Int} {acc:Str}:qP [some (false,.int n),some (false,.str acc),some (false,.int left)]=some (decide (0<left)):=by
 unfold qP
 simp! []
theorem Wg {n left:Int} {acc:Str} {k:Nat} (h:0<left) (hl:acc.length<=100):xr qP qX (k+1) [some (false,D.int n),some (false,.str acc),some (false,.int left)] =
  xr qP qX k [some (false,.int n),some (false,.str (lt ((left - 1) % 26)++acc)),some (false,.int ((left - 1) / 26))]:=jR (QV.trans (by rw [decide_eq_true h])) (BI hl)
theorem QU {n left:Int} {acc:Str} {k:Nat} (h:¬ 0<left):xr qP qX (k+1) [some (false,D.int n),some (false,.str acc),some (false,.int left)]=some (.nx [some (false,D.int n),some (false,.str acc),some (false,.int left)]):=
 p4 (QV.trans (by rw [decide_eq_false h]))
theorem M_ {n:Nat} (h:n<702):qJ [.int (n:Int)]=some (false,.str (nm n)):=by
 have fin:∀ {s:Str} {left:Int},uV qP qX [some (false,.int (n:Int)),some (false,.str ""),some (false,.int ((n:Int)+1))]=some (.nx [some (false,.int (n:Int)),some (false,.str s),some (false,.int left)])->qJ [.int (n:Int)]=some (false,.str s):=fun {s left} h=>by
  rw [Lf]
  unfold Zc
  simp! [add_int,h]
 unfold nm
 split
 ·refine fin (left:=((n:Int)+1 - 1) / 26) (qo 2 ((Wg (by omega) (by decide)).trans ?_))
  rw [QU (by omega),show ((n:Int)+1 - 1) % 26=n by omega]
 ·refine fin (left:=(((n:Int)+1 - 1) / 26 - 1) / 26) (qo 3 ((Wg (by omega) (by decide)).trans ((Wg (by omega) (by rw [YT,jx]; decide)).trans ?_)))
  rw [QU (by omega),show ((n:Int)+1 - 1) % 26=((n:Int) - 26) % 26 by omega,show (((n:Int)+1 - 1) / 26 - 1) % 26=((n:Int) - 26) / 26 by omega]
end L3
namespace L3
open PySem
theorem Tr (v:Nat->D):∀ qs:List Nat,uO (qs.map fun i:Nat=>D.tup [.int i,v i])=some (qs.map fun i:Nat=>Sum.inl (i:Int),qs.map v)
 | []=>rfl
 | a::qs=>by
  show (uy (.int (a:Int))).bind _=_
  show (uO (qs.map fun i:Nat=>D.tup [.int i,v i])).bind _=_
  rw [Tr v qs]
  rfl
theorem T4 (v:Nat->D) (n:Nat):∀ (qs:List Nat) (as:List (Sum Int Str)) (ds:List D),as.length=ds.length->getK (yT as ds (qs.map fun i:Nat=>Sum.inl (i:Int)) (qs.map v)).1 (yT as ds (qs.map fun i:Nat=>Sum.inl (i:Int)) (qs.map v)).2 (.inl (n:Int))=if n∈qs then some (v n) else getK as ds (.inl (n:Int))
 | [],as,ds,_=>by rw [if_neg List.not_mem_nil]; unfold yT; rfl
 | a::qs,as,ds,h=>by
  show getK (yT (xE as (.inl (a:Int))) (xI as ds (.inl (a:Int)) (v a)) (qs.map fun i:Nat=>Sum.inl (i:Int)) (qs.map v)).1 (yT (xE as (.inl (a:Int))) (xI as ds (.inl (a:Int)) (v a)) (qs.map fun i:Nat=>Sum.inl (i:Int)) (qs.map v)).2 (.inl (n:Int))=_
  rw [T4 v n qs _ _ (qh h),T5 h]
  by_cases c:n∈qs
  ·rw [if_pos c,if_pos (List.mem_cons_of_mem _ c)]
  ·rw [if_neg c]
   by_cases e:a=n
   ·subst e
    rw [if_pos rfl,if_pos (List.mem_cons_self ..)]
   ·rw [if_neg (fun z=>e (by have:=Sum.inl.inj z; omega)),if_neg (fun z=>(List.mem_cons.mp z).elim (fun z=>e z.symm) c)]
theorem Op (v:Nat->D) (qs:List Nat):∃ K V,qR [.lst (qs.map fun i:Nat=>D.tup [.int i,v i])]=some (.dic K V)/\(∀ n:Nat,yF K (.inl (n:Int))=decide (n∈qs))/\∀ n∈qs,getK K V (.inl (n:Int))=some (v n):=by
 refine ⟨(yT [] [] (qs.map fun i:Nat=>Sum.inl (i:Int)) (qs.map v)).1,(yT [] [] (qs.map fun i:Nat=>Sum.inl (i:Int)) (qs.map v)).2,?_,fun n=>?_,fun n hn=>?_⟩
 ·show (uO _).bind _=_
  rw [Tr]
  rfl
 ·rw [WA (by simp),jk]
  rfl
 ·rw [T4 v n qs [] [] rfl,if_pos hn]
end L3
namespace L3
open PySem
noncomputable def Ii:FE:=(z6 2)
noncomputable def Vq:FT:=(tE (e2 W2 (z6 2) (eC .non)))
noncomputable def XE:FE:=(yu (zB (z6 3) (zB (zX qJ (zB (z6 2) zD)) zD)))
noncomputable def Zd:FS:=
 (zE (zS 1 (eL pY (zB (xP 1 (xc (z6 0)) (zh 2) Vq Ii) zD)))
  (xq (eL qR (zB (xP 2 (wt (z6 1)) (xW 2 3) xV XE) zD))))
noncomputable def pH:List D->Option (Bool×D):=FR 1 2 Zd
theorem Cw:∀ ds r,pH ds=some r->ds.length=1/\zc 2 Zd ds=some r:=yK
theorem Lg (x0:D):pH [x0]=zc 2 Zd [x0]:=rfl
noncomputable def YI:FS:=(zE (yP (tE (e2 yA (z6 4) (z6 2)))
     (wS 3 wG (yu (zB (eC (.str "label")) (zB (e2 zG (z6 2) (z6 4)) zD))))
     yW)
    (wS 3 wG (pU (tE (e2 qS (e2 zG (z6 1) (z6 4)) (eC .non))) (z6 5) (e2 yO (z6 5) (yu (zB (e2 zG (z6 2) (e2 zG (z6 1) (z6 4))) zD))))))
noncomputable def ZP:FS:=
 (zE (zS 2 (zX pH (zB (z6 1) zD)))
  (zE (vO 3 (yk zD))
  (zE (vA (wt (z6 0)) (xW 4 5)
   YI)
  (zE (yP (tE (e2 yA (eL xL (zB (z6 0) zD)) (z6 2)))
   (wS 3 wG (yu (zB (eC (.str "label")) (zB (e2 zG (z6 2) (eL xL (zB (z6 0) zD))) zD))))
   yW)
  (uU 3)))))
noncomputable def p6:List D->Option (Bool×D):=FR 2 6 ZP
theorem Cc:∀ ds r,p6 ds=some r->ds.length=2/\zc 6 ZP ds=some r:=yK
theorem LS (x0 x1:D):p6 [x0,x1]=zc 6 ZP [x0,x1]:=rfl
noncomputable def Vk:FE:=(pU (tE (zX uC (zB (z6 2) zD))) (vj (z6 2) vn (vo (e1 vk (eC (.int 1))))) (z6 2))
noncomputable def Zj:FS:=
 (zE (zS 1 (xP 1 (xc (zX x9 (zB (z6 0) zD))) (zh 2) xV Vk))
  (xq (vi p6 (zB (z6 1) (zB (zX vg (zB (z6 0) zD)) zD)))))
noncomputable def ui:List D->Option (Bool×D):=FR 1 2 Zj
theorem E4:∀ ds r,ui ds=some r->ds.length=1/\zc 2 Zj ds=some r:=yK
theorem Lm (x0:D):ui [x0]=zc 2 Zj [x0]:=rfl
noncomputable def tL (tgs:List (Option Nat)):List Nat:=tgs.filterMap id
noncomputable def yr (n:Nat) (tgs:List (Option Nat)):List Nat:=pN (n+1) fun i=>decide (i∈tL tgs)
theorem FN {n:Nat} {tgs:List (Option Nat)} (h:∀ p,some p∈tgs->p<=n) {p:Nat}:p∈yr n tgs↔some p∈tgs:=by
 unfold yr tL
 rw [Yg,decide_eq_true_iff,List.mem_filterMap]
 constructor
 ·rintro ⟨_,a,ha,e⟩
  have e:a=some p:=e
  exact e ▸ ha
 ·exact fun z=>⟨Nat.lt_succ_of_le (h p z),some p,z,rfl⟩
noncomputable def wx (n:Nat) (tgs:List (Option Nat)) (p:Nat):Str:=nm ((yr n tgs).idxOf p)
theorem FM (n:Nat) (tgs:List (Option Nat)):(yr n tgs).length<=n+1:=by
 unfold yr pN
 have:=List.length_filter_le (fun i=>decide (i∈tL tgs)) (List.range (n+1))
 rw [List.length_range] at this
 exact this
theorem FP (n:Nat) (tgs:List (Option Nat)):(yr n tgs).Nodup:=by
 unfold yr pN
 exact List.Nodup.sublist List.filter_sublist List.nodup_range
theorem Wn:∀ tgs:List (Option Nat),(tgs.map yB).filter (fun d=>!tX d)=z8 (tL tgs)
 | []=>rfl
 | none::tgs=>by
  rw [List.map_cons,List.filter_cons_of_neg (by decide),Wn tgs]
  rfl
 | some p::tgs=>by
  rw [List.map_cons,List.filter_cons_of_pos (by rfl),Wn tgs]
  rfl
theorem B1 {n:Nat} (hn:n<=60) {tgs:List (Option Nat)} (hl:tgs.length<=900) (h:∀ p,some p∈tgs->p<=n) :
  ∃ K V,pH [.lst (tgs.map yB)]=some (true,.dic K V)/\(∀ p:Nat,yF K (.inl (p:Int))=decide (p∈yr n tgs))/\∀ p∈yr n tgs,getK K V (.inl (p:Int))=some (.str (wx n tgs p)):=by
 have e1:=qY (g:=zh 2) (c:=Vq) (e:=Ii) (σ:=[some (false,.lst (tgs.map yB)),none,none]) (fun d=>!tX d) id (ds:=tgs.map yB) fun d hd=>by
  refine ⟨_,rfl,?_,fun _=>rfl⟩
  unfold Vq
  simp! []
 rw [List.map_id,Wn] at e1
 have e2:=GG (n:=n+1) (by omega) (l:=tL tgs) (by
  have:(tL tgs).length<=tgs.length:=List.length_filterMap_le _ _
  omega) (p:=fun i=>decide (i∈tL tgs)) fun i=>by
  rw [decide_eq_true_iff]
  refine ⟨fun z=>⟨?_,z⟩,fun z=>z.2⟩
  obtain ⟨a,ha,e⟩:=List.mem_filterMap.mp z
  have e:a=some i:=e
  exact Nat.lt_succ_of_le (h i (e ▸ ha))
 have e2:pY [.lst (z8 (tL tgs))]=some (.lst (z8 (yr n tgs))):=e2
 obtain ⟨K,V,e4,hK,hV⟩:=Op (fun p=>.str (wx n tgs p)) (yr n tgs)
 have e3:xX (xW 2 3) xV XE [some (false,.lst (tgs.map yB)),some (false,.lst (z8 (yr n tgs))),none,none] (vM (z8 (yr n tgs)))=some ((yr n tgs).map fun p:Nat=>D.tup [.int p,.str (wx n tgs p)]):=by
  have:=YN (g:=xW 2 3) (e:=XE) (σ:=[some (false,.lst (tgs.map yB)),some (false,.lst (z8 (yr n tgs))),none,none]) (fun i=>match (yr n tgs)[i]? with | some p=>D.tup [.int p,.str (wx n tgs p)] | none=>.non) (ds:=vM (z8 (yr n tgs))) 0 fun i d hd=>by
   rw [qe] at hd
   unfold z8 at hd
   rw [List.getElem?_map] at hd
   cases hp:(yr n tgs)[i]? with
   | none=>rw [hp] at hd; cases hd
   | some p=>
    rw [hp] at hd
    cases hd
    have hi:=(List.getElem?_eq_some_iff.mp hp).1
    have le:=FM n tgs
    have ix:(yr n tgs).idxOf p=i:=by
     have e:(yr n tgs)[i]=p:=(List.getElem?_eq_some_iff.mp hp).2
     rw [<- e]
     exact (FP n tgs).idxOf_getElem i hi
    have nf:=M_ (n:=i) (by omega)
    refine ⟨_,rfl,?_⟩
    rw [Nat.zero_add,hp]
    show _=some (D.tup [.int p,.str (nm ((yr n tgs).idxOf p))])
    rw [ix]
    unfold XE
    generalize z8 (yr n tgs)=PP at *
    generalize tgs.map yB=TT at *
    simp! [nf]
  rw [this,<- List.range_eq_range',tD,vK]
  refine congrArg some (List.ext_getElem? fun i=>?_)
  rw [List.getElem?_map,List.getElem?_map]
  by_cases hi:i<(yr n tgs).length
  ·rw [List.getElem?_range hi,List.getElem?_eq_getElem hi]
   show some (match (yr n tgs)[i]? with | some p=>D.tup [.int p,.str (wx n tgs p)] | none=>.non)=_
   rw [List.getElem?_eq_getElem hi]
   rfl
  ·rw [List.getElem?_eq_none (by rw [List.length_range]; omega),List.getElem?_eq_none (by omega)]
   rfl
 refine ⟨K,V,?_,hK,hV⟩
 rw [Lg]
 unfold Zd
 generalize (yr n tgs).map (fun p:Nat=>D.tup [.int p,.str (wx n tgs p)])=PR at *
 generalize z8 (yr n tgs)=PP at *
 generalize z8 (tL tgs)=NN at *
 generalize tgs.map yB=TT at *
 simp! [e1,e2,wt,e3,e4]
noncomputable def O6:D->Str->D
 | .tup xs,s=>.tup (xs++[.str s])
 | d,_=>d
noncomputable def x_ (n:Nat) (tgs:List (Option Nat)) (p:Nat):List D:=if p∈yr n tgs then [yM (wx n tgs p)] else []
noncomputable def V9 (n:Nat) (tgs:List (Option Nat)) (r:D):Option Nat->D
 | none=>r
 | some p=>O6 r (wx n tgs p)
noncomputable def xO (rows:List D) (tgs:List (Option Nat)):Nat->List D
 | 0=>[]
 | i+1=>xO rows tgs i++(x_ rows.length tgs i++[V9 rows.length tgs (rows.getD i .non) (tgs.getD i none)])
noncomputable def YM (rows:List D) (tgs:List (Option Nat)):List D:=xO rows tgs rows.length++x_ rows.length tgs rows.length
theorem Tt (n:Nat) (tgs:List (Option Nat)) (p:Nat):(x_ n tgs p).length<=1:=by
 unfold x_
 split
 ·exact Nat.le_refl _
 ·exact Nat.zero_le _
theorem WR (rows:List D) (tgs:List (Option Nat)):∀ i,(xO rows tgs i).length<=2*i
 | 0=>Nat.le_refl _
 | i+1=>by
  unfold xO
  rw [List.length_append,List.length_append,List.length_singleton]
  have:=WR rows tgs i
  have:=Tt rows.length tgs i
  omega
theorem MZ {rows:List D} {tgs:List (Option Nat)} (hn:rows.length<=60) (hl:tgs.length=rows.length) (h:∀ p,some p∈tgs->p<=rows.length) (hr:∀ i p:Nat,tgs[i]?=some (some p)->∃ hd:List D,rows[i]?=some (D.tup hd)/\hd≠[]/\hd.length<=2) :
  p6 [.lst rows,.lst (tgs.map yB)]=some (true,.lst (YM rows tgs)):=by
 obtain ⟨K,V,e1,hK,hV⟩:=B1 hn (by omega) h
 have inK:∀ p:Nat,yA (.int (p:Int)) (.dic K V)=some (.bl (decide (p∈yr rows.length tgs))):=fun p=>by
  show (some (yF K (.inl (p:Int)))).bind _=_
  rw [hK]
  rfl
 have ixK:∀ p∈yr rows.length tgs,zG (.dic K V) (.int (p:Int))=some (.str (wx rows.length tgs p)):=fun p hp=>hV p hp
 have lab:∀ (p:Nat) (L:List D) (f:FE) (σ:zd),σ[3]?=some (some (true,.lst L))->σ[2]?=some (some (false,.dic K V))->f σ=some (.int (p:Int))->L.length<=900->(∀ L',f (σ.set 3 L')=f σ)->yP (tE (e2 yA f (z6 2))) (wS 3 wG (yu (zB (eC (.str "label")) (zB (e2 zG (z6 2) f) zD)))) yW σ=some (.nx (σ.set 3 (some (true,.lst (L++x_ rows.length tgs p))))):=fun p L f σ h3 h2 hf hL _=>by
  have i1:=inK p
  unfold x_
  by_cases c:p∈yr rows.length tgs
  ·rw [if_pos c]
   rw [decide_eq_true c] at i1
   have i2:=ixK p c
   have ap:=uq (L:=L) (r:=yM (wx rows.length tgs p)) (by omega)
   unfold yM at *
   simp! [hf,h2,i1,i2,h3,ap]
  ·rw [if_neg c,List.append_nil]
   rw [decide_eq_false c] at i1
   have e:σ.set 3 (some (true,.lst L))=σ:=by
    refine List.ext_getElem? fun j=>?_
    rw [List.getElem?_set]
    by_cases z:3=j
    ·subst z
     rw [if_pos rfl,if_pos (List.getElem?_eq_some_iff.mp h3).1,h3]
    ·rw [if_neg z]
   rw [e]
   simp! [hf,h2,i1]
 obtain ⟨σ',e2,x4,x5,rfl⟩:=t5 (g:=xW 4 5) (b:=YI) (fun i σ=>∃ (x4 x5:Option Sl),σ=[some (false,.lst rows),some (false,.lst (tgs.map yB)),some (false,.dic K V),some (true,.lst (xO rows tgs i)),x4,x5]) (ds:=vM rows)
  (σ:=[some (false,.lst rows),some (false,.lst (tgs.map yB)),some (false,.dic K V),some (true,.lst []),none,none]) 0 ⟨none,none,rfl⟩ (by
  rintro i d σ hd ⟨x4,x5,rfl⟩
  rw [Nat.zero_add] at *
  rw [qe] at hd
  cases hx:rows[i]? with
  | none=>rw [hx] at hd; cases hd
  | some r=>
   rw [hx] at hd
   cases hd
   have hi:=(List.getElem?_eq_some_iff.mp hx).1
   have ll:=WR rows tgs i
   have la:=Tt rows.length tgs i
   have er:rows.getD i .non=r:=by rw [List.getD_eq_getElem?_getD,hx]; rfl
   have ht:tgs[i]?=some tgs[i]:=List.getElem?_eq_getElem (by omega)
   have et:tgs.getD i none=tgs[i]:=by rw [List.getD_eq_getElem?_getD,ht]; rfl
   have it:zG (.lst (tgs.map yB)) (.int (i:Int))=some (yB tgs[i]):=vF (by omega) (by rw [Int.toNat_natCast,List.getElem?_map,ht]; rfl)
   have s1:=lab i (xO rows tgs i) (z6 4) [some (false,.lst rows),some (false,.lst (tgs.map yB)),some (false,.dic K V),some (true,.lst (xO rows tgs i)),some (false,.int (i:Int)),some (false,r)] rfl rfl rfl (by omega) (fun _=>rfl)
   have ap0:=uq (L:=xO rows tgs i++x_ rows.length tgs i) (r:=V9 rows.length tgs r tgs[i]) (by rw [List.length_append]; omega)
   refine ⟨_,[some (false,.lst rows),some (false,.lst (tgs.map yB)),some (false,.dic K V),some (true,.lst (xO rows tgs (i+1))),some (false,.int (i:Int)),some (false,r)],rfl,.inl ?_,_,_,rfl⟩
   show YI [some (false,.lst rows),some (false,.lst (tgs.map yB)),some (false,.dic K V),some (true,.lst (xO rows tgs i)),some (false,.int (i:Int)),some (false,r)]=some (Fl.nx [some (false,.lst rows),some (false,.lst (tgs.map yB)),some (false,.dic K V),some (true,.lst (xO rows tgs i++(x_ rows.length tgs i++[V9 rows.length tgs (rows.getD i .non) (tgs.getD i none)]))),some (false,.int (i:Int)),some (false,r)])
   rw [er,et,<- List.append_assoc]
   unfold YI
   rw [xU s1]
   show wS 3 wG _ [some (false,.lst rows),some (false,.lst (tgs.map yB)),some (false,.dic K V),some (true,.lst (xO rows tgs i++x_ rows.length tgs i)),some (false,.int (i:Int)),some (false,r)]=_
   cases hg:tgs[i] with
   | none=>
    rw [hg] at it ap0
    have it:zG (.lst (tgs.map yB)) (.int (i:Int))=some .non:=it
    have ap:wG (.lst (xO rows tgs i++x_ rows.length tgs i)) r=some (.lst (xO rows tgs i++x_ rows.length tgs i++[r])):=ap0
    clear ap0
    show _=some (Fl.nx [some (false,.lst rows),some (false,.lst (tgs.map yB)),some (false,.dic K V),some (true,.lst (xO rows tgs i++x_ rows.length tgs i++[r])),some (false,.int (i:Int)),some (false,r)])
    generalize tgs.map yB=TT at *
    generalize xO rows tgs i++x_ rows.length tgs i=LL at *
    simp! [it,ap]
   | some p=>
    rw [hg] at it ap0 ht
    obtain ⟨hd,hx',n1,n2⟩:=hr i p ht
    rw [hx] at hx'
    cases hx'
    have hp:p∈yr rows.length tgs:=(FN h).mpr (List.mem_of_getElem? ht)
    have i2:=ixK p hp
    have z:qS (.int (p:Int)) .non=some (.bl false):=rfl
    have it:zG (.lst (tgs.map yB)) (.int (i:Int))=some (.int (p:Int)):=it
    have ad:=(jq (t := "") (u:=wx rows.length tgs p) n1 n2).2.2
    have ap:wG (.lst (xO rows tgs i++x_ rows.length tgs i)) (.tup (hd++[.str (wx rows.length tgs p)]))=some (.lst (xO rows tgs i++x_ rows.length tgs i++[.tup (hd++[.str (wx rows.length tgs p)])])):=ap0
    clear ap0
    show _=some (Fl.nx [some (false,.lst rows),some (false,.lst (tgs.map yB)),some (false,.dic K V),some (true,.lst (xO rows tgs i++x_ rows.length tgs i++[.tup (hd++[.str (wx rows.length tgs p)])])),some (false,.int (i:Int)),some (false,.tup hd)])
    generalize wx rows.length tgs p=u at *
    generalize tgs.map yB=TT at *
    generalize xO rows tgs i++x_ rows.length tgs i=LL at *
    generalize D.tup (hd++[.str u])=dd at *
    generalize D.tup hd=dh at *
    simp! [it,z,i2,ad,ap])
 rw [tD,Nat.zero_add] at e2
 have ll:=WR rows tgs rows.length
 have s3:=lab rows.length (xO rows tgs rows.length) (eL xL (zB (z6 0) zD)) [some (false,.lst rows),some (false,.lst (tgs.map yB)),some (false,.dic K V),some (true,.lst (xO rows tgs rows.length)),x4,x5] rfl rfl rfl (by omega) (fun _=>rfl)
 rw [LS]
 unfold ZP
 show ((zE _ _ [some (false,.lst rows),some (false,.lst (tgs.map yB)),none,none,none,none]).bind _)=_
 rw [xU (σ':=[some (false,.lst rows),some (false,.lst (tgs.map yB)),some (false,.dic K V),none,none,none]) (by
  generalize tgs.map yB=TT at *
  simp! [e1])]
 rw [xU (σ':=[some (false,.lst rows),some (false,.lst (tgs.map yB)),some (false,.dic K V),some (true,.lst []),none,none]) (by simp! [])]
 rw [xU (σ':=[some (false,.lst rows),some (false,.lst (tgs.map yB)),some (false,.dic K V),some (true,.lst (xO rows tgs rows.length)),x4,x5]) (by
  generalize tgs.map yB=TT at *
  simp! [wt,e2])]
 rw [xU s3]
 rfl
noncomputable def wX (r:D):D:=match yb r with
 | true=>match r with
  | .tup xs=>.tup xs.dropLast
  | d=>d
 | false=>r
noncomputable def vC (items:List D):List (Option Nat):=(zA items).map (y_ items)
noncomputable def j8 (items:List D):List D:=YM ((zA items).map wX) (vC items)
theorem Xd {d:D} (h:zw d) (hj:yb d=true):∃ hd:List D,wX d=.tup hd/\hd≠[]/\hd.length<=2/\Y3 d none (some (-1))=some (.tup hd)/\∀ u,zw (.tup (hd++[.str u])):=by
 obtain ⟨hd,t,ed,n1,n2,_,it,_⟩:=pf h hj
 obtain ⟨p1,_,_⟩:=jq (t:=t) (u:=t) n1 n2
 refine ⟨hd,?_,n1,n2,by rw [ed]; exact p1,fun u=>(it u).1⟩
 unfold wX
 rw [hj]
 subst ed
 show D.tup (hd++[D.str t]).dropLast=_
 rw [List.dropLast_concat]
theorem Gq {items:List D} {r:D} {p:Nat} (h:y_ items r=some p):p<=(zA items).length:=by
 unfold y_ at h
 split at h
 ·have:=Wu (g4 r) items (0,none) (fun _ z=>nomatch z) p h
  rw [Yk] at this
  show p<=(items.filter fun d=>!zR d).length
  omega
 ·cases h
theorem Qx {items:List D} (P:PC items) (hr:(zA items).length<=60):ui [.lst items]=some (true,.lst (j8 items))/\∀ d∈j8 items,zw d:=by
 have q1:x9 [.lst items]=some (true,.lst (zA items)):=tu P.it
 have q2:=VZ P
 have e1:=pw (g:=zh 2) (e:=Vk) (σ:=[some (false,.lst items),none,none]) wX (ds:=zA items) fun d hd=>by
  have hI:=P.it d (List.mem_filter.mp hd).1
  have hj:=WJ hI
  refine ⟨_,rfl,?_⟩
  unfold Vk
  cases z:yb d with
  | false=>
   rw [z] at hj
   have e:wX d=d:=by unfold wX; rw [z]
   rw [e]
   simp! [hj]
  | true=>
   rw [z] at hj
   obtain ⟨hd',eb,_,_,p1,_⟩:=Xd hI z
   rw [eb]
   simp! [hj,vj,vo,vn,p1]
 have lr:((zA items).map wX).length=(zA items).length:=List.length_map _
 have at_:∀ i p,(vC items)[i]?=some (some p)->∃ r,(zA items)[i]?=some r/\y_ items r=some p/\zw r/\yb r=true:=fun i p h=>by
  unfold vC at h
  rw [List.getElem?_map] at h
  cases e:(zA items)[i]? with
  | none=>rw [e] at h; cases h
  | some r=>
   rw [e] at h
   have h:some (y_ items r)=some (some p):=h
   injection h with h
   refine ⟨r,e,h,P.it r (List.mem_filter.mp (List.mem_of_getElem? e)).1,?_⟩
   cases z:yb r with
   | true=>rfl
   | false=>
    unfold y_ at h
    rw [z] at h
    cases h
 have hle:∀ p,some p∈vC items->p<=((zA items).map wX).length:=fun p hp=>by
  rw [lr]
  obtain ⟨r,_,e⟩:=List.mem_map.mp hp
  exact Gq e
 have e3:=MZ (rows:=(zA items).map wX) (tgs:=vC items) (by omega) (by unfold vC; rw [List.length_map,lr]) hle (fun i p h=>by
  obtain ⟨r,e,_,hI,hj⟩:=at_ i p h
  obtain ⟨hd,eb,n1,n2,_⟩:=Xd hI hj
  exact ⟨hd,by rw [List.getElem?_map,e,<- eb]; rfl,n1,n2⟩)
 have q3:vg [.lst items]=some (true,.lst ((vC items).map yB)):=by
  rw [q2]
  unfold vC
  rw [List.map_map]
  rfl
 clear q2
 refine ⟨?_,?_⟩
 ·rw [Lm]
  unfold Zj j8
  generalize YM ((zA items).map wX) (vC items)=LL at *
  generalize (vC items).map yB=TT at *
  generalize (zA items).map wX=BB at *
  generalize zA items=RR at *
  simp! [q1,e1,q3,e3]
 ·have la:∀ n p,∀ d∈x_ n (vC items) p,zw d:=fun n p d hd=>by
   unfold x_ at hd
   split at hd
   ·cases List.mem_singleton.mp hd
    exact .label _
   ·cases hd
  have go:∀ i,i<=(zA items).length->∀ d∈xO ((zA items).map wX) (vC items) i,zw d:=fun i=>by
   induction i with
   | zero=>exact fun _ d hd=>by cases hd
   | succ i ih=>
    intro hi d hd
    unfold xO at hd
    rcases List.mem_append.mp hd with hd | hd
    ·exact ih (by omega) d hd
    ·rcases List.mem_append.mp hd with hd | hd
     ·exact la _ _ d hd
     ·cases List.mem_singleton.mp hd
      have hr:(zA items)[i]?=some (zA items)[i]:=List.getElem?_eq_getElem (by omega)
      have hm:=(List.mem_filter.mp (List.mem_of_getElem? hr)).1
      have e1:((zA items).map wX).getD i .non=wX (zA items)[i]:=by rw [List.getD_eq_getElem?_getD,List.getElem?_map,hr]; rfl
      have e2:(vC items).getD i none=y_ items (zA items)[i]:=by unfold vC; rw [List.getD_eq_getElem?_getD,List.getElem?_map,hr]; rfl
      rw [e1,e2]
      generalize (zA items)[i]=r at hm
      have hI:=P.it r hm
      cases z:yb r with
      | false=>
       have e3:y_ items r=none:=by unfold y_; rw [z]
       have e4:wX r=r:=by unfold wX; rw [z]
       rw [e3,e4]
       exact hI
      | true=>
       have:=(IP P hm).1
       rw [z] at this
       obtain ⟨p,hp⟩:=Option.isSome_iff_exists.mp this
       obtain ⟨hd',eb,_,_,_,it⟩:=Xd hI z
       rw [hp,eb]
       exact it _
  intro d hd
  unfold j8 YM at hd
  rcases List.mem_append.mp hd with hd | hd
  ·exact go _ (by rw [lr]; exact Nat.le_refl _) d hd
  ·exact la _ _ d hd
end L3
namespace L3
open PySem
noncomputable def YR:D->Bool
 | .int _=>true
 | .str _=>true
 | _=>false
theorem Mn {x y:D} (hx:YR x=true) (hy:YR y=true):xJ 4 x y=true/\(zk x y=true↔x=y):=by
 cases x<;>first | (cases hx; done) | skip
 all_goals (cases y<;>first | (cases hy; done) | skip)
 ·rename_i a b
  refine ⟨rfl,?_⟩
  rw [show zk (.int a) (.int b)=(a == b) by unfold zk; rfl,beq_iff_eq]
  exact ⟨fun h=>by rw [h],fun h=>by injection h⟩
 ·exact ⟨rfl,⟨(fun h=>by unfold zk at h; cases h),(fun h=>by cases h)⟩⟩
 ·exact ⟨rfl,⟨(fun h=>by unfold zk at h; cases h),(fun h=>by cases h)⟩⟩
 ·rename_i a b
  refine ⟨rfl,?_⟩
  rw [show zk (.str a) (.str b)=(a == b) by unfold zk; rfl,beq_iff_eq]
  exact ⟨fun h=>by rw [h],fun h=>by injection h⟩
theorem Xv {p:D->Bool} {f:D->D->Bool} (h:∀ x y,p x=true->p y=true->f x y=true/\(zk x y=true↔x=y)):∀ {xs ys:List D},(∀ x∈xs,p x=true)->(∀ y∈ys,p y=true)->wm f xs ys=true/\(dEqs xs ys=true↔xs=ys)
 | [],[],_,_=>⟨rfl,by unfold dEqs; exact ⟨fun _=>rfl,fun _=>rfl⟩⟩
 | [],_::_,_,_=>⟨rfl,by unfold dEqs; exact ⟨(fun h=>by cases h),(fun h=>by cases h)⟩⟩
 | _::_,[],_,_=>⟨rfl,by unfold dEqs; exact ⟨(fun h=>by cases h),(fun h=>by cases h)⟩⟩
 | x::xs,y::ys,hx,hy=>by
  obtain ⟨a1,a2⟩:=h x y (hx x (List.mem_cons_self ..)) (hy y (List.mem_cons_self ..))
  obtain ⟨b1,b2⟩:=Xv h (xs:=xs) (ys:=ys) (fun z hz=>hx z (List.mem_cons_of_mem _ hz)) (fun z hz=>hy z (List.mem_cons_of_mem _ hz))
  refine ⟨?_,?_⟩
  ·show (f x y&&wm f xs ys)=true
   rw [a1,b1]
   rfl
  ·rw [show dEqs (x::xs) (y::ys)=(zk x y&&dEqs xs ys) by rw [dEqs],Bool.and_eq_true,a2,b2]
   exact ⟨fun ⟨e1,e2⟩=>by rw [e1,e2],fun e=>by injection e with e1 e2; exact ⟨e1,e2⟩⟩
noncomputable def jD:D->Bool
 | .tup xs=>xs.all YR
 | _=>false
theorem CT {x y:D} (hx:jD x=true) (hy:jD y=true):xJ 5 x y=true/\(zk x y=true↔x=y):=by
 cases x<;>first | (cases hx; done) | skip
 cases y<;>first | (cases hy; done) | skip
 rename_i xs ys
 obtain ⟨a,b⟩:=Xv (p:=YR) (f:=xJ 4) (fun x y=>Mn) (List.all_eq_true.mp hx) (List.all_eq_true.mp hy)
 refine ⟨a,?_⟩
 rw [show zk (.tup xs) (.tup ys)=dEqs xs ys by rw [zk],b]
 exact ⟨fun h=>by rw [h],fun h=>by injection h⟩
theorem Jg {xs ys:List D} (hx:∀ x∈xs,jD x=true) (hy:∀ y∈ys,jD y=true) [Decidable (xs=ys)]:uM (.lst xs) (.lst ys)=some (decide (xs=ys)):=by
 obtain ⟨a,b⟩:=Xv (p:=jD) (f:=xJ 5) (fun x y=>CT) hx hy
 show (match xJ 6 (.lst xs) (.lst ys) with | true=>some (zk (.lst xs) (.lst ys)) | false=>none)=_
 rw [show xJ 6 (.lst xs) (.lst ys)=true from a]
 show some (zk (.lst xs) (.lst ys))=_
 rw [show zk (.lst xs) (.lst ys)=dEqs xs ys by rw [zk]]
 by_cases c:xs=ys
 ·rw [decide_eq_true c,b.mpr c]
 ·rw [decide_eq_false c]
  cases z:dEqs xs ys with
  | false=>rfl
  | true=>exact absurd (b.mp z) c
theorem YD {d:D} (h:zw d):jD d=true:=by
 cases h with
 | label u=>rfl
 | plain h=>cases h<;>rfl
 | jump u=>rfl
 | cond u hw hk=>rfl
theorem ME {xs ys:List D} (hx:∀ x∈xs,zw x) (hy:∀ y∈ys,zw y) [Decidable (xs=ys)]:zm (.lst xs) (.lst ys)=some (.bl (decide (xs=ys))):=by
 unfold zm
 rw [Jg (fun x h=>YD (hx x h)) (fun y h=>YD (hy y h))]
 rfl
theorem MF {xs ys:List D} (hx:∀ x∈xs,zw x) (hy:∀ y∈ys,zw y) [Decidable (xs=ys)]:xM (.lst xs) (.lst ys)=some (.bl (!decide (xs=ys))):=by
 unfold xM
 rw [Jg (fun x h=>YD (hx x h)) (fun y h=>YD (hy y h))]
 rfl
theorem Wh {items:List D} (h:∀ d∈items,zw d):vb 6 (.lst items)=true:=List.all_eq_true.mpr fun d hd=>(qU (h d hd)).choose_spec.2.2
end L3
namespace L3
open PySem
noncomputable def Wb (w:Str):Bool:=["jump", "when", "unless", "stop", "store", "storew"].any fun z=>w == Str.ofString z
noncomputable def Wy (r:D):Bool:=decide (tt (wK [r])=0) == Wb (wd r)
theorem Fu {r:D} (h:zw r) (hl:zR r=false):Wy r=true:=Ta (f:=Wy) (by kernel_rfl) (fun n=>by kernel_rfl) (by kernel_rfl) (by kernel_rfl) (fun n=>by kernel_rfl) (fun n=>by kernel_rfl) (fun n=>by kernel_rfl) h hl
theorem TH (w a b c:Str):yA (.str w) (.tup [.str a,.str b,.str c])=some (.bl ((a == w)||((b == w)||((c == w)||false)))):=rfl
theorem Xh (a b:Str):(a == b)=(b == a):=Bool.eq_iff_iff.mpr ⟨fun h=>by rw [beq_iff_eq] at *; exact h.symm,fun h=>by rw [beq_iff_eq] at *; exact h.symm⟩
theorem M6 {r:D} (h:zw r):yA (.str (wd r)) (.tup [.str "jump",.str "when",.str "unless"])=some (.bl (yb r)):=by
 rw [TH,YA h,Bool.or_false,Bool.or_assoc,Xh "jump",Xh "when",Xh "unless"]
theorem Fo {r:D} (h:zw r) (hl:zR r=false):(tt (wK [r])=0)↔Wb (wd r)=true:=by
 have:=Fu h hl
 unfold Wy at this
 rw [beq_iff_eq] at this
 rw [<- this,decide_eq_true_iff]
theorem QP {x y:D} {b:Bool} (h:yA x y=some (.bl b)):wH x y=some (.bl (!b)):=by
 unfold yA at h
 unfold wH
 cases e:pV x y with
 | none=>rw [e] at h; cases h
 | some k=>
  rw [e] at h
  cases h
  rfl
end L3
namespace L3
open PySem
noncomputable def xv:FS:=(yP (tE (e2 xM (z6 2) (yk zD)))
     (ya (z6 2))
     yW)
noncomputable def ZL:FS:=
 (zE (vY 1 [zE (zS 2 (zX uh (zB (z6 0) zD))) xv,zE (zS 2 (zX uj (zB (z6 0) zD))) xv,zE (zS 2 (zX uc (zB (z6 0) zD))) xv,zE (zS 2 (zX ug (zB (z6 0) zD))) xv])
  (xq (yk zD)))
noncomputable def p5:List D->Option (Bool×D):=FR 1 3 ZL
theorem CW:∀ ds r,p5 ds=some r->ds.length=1/\zc 3 ZL ds=some r:=yK
theorem LO (x0:D):p5 [x0]=zc 3 ZL [x0]:=rfl
noncomputable def wr:List (List Nat)->List Nat
 | []=>[]
 | l::ls=>if l.isEmpty=true then wr ls else l
noncomputable def q_:Option (Bool×D)->List Nat
 | some (_,.lst ds)=>ds.map fun d=>match d with
  | .int i=>i.toNat
  | _=>0
 | _=>[]
theorem X7 (o:Bool) (R:List Nat):q_ (some (o,.lst (z8 R)))=R:=by
 show (z8 R).map _=R
 unfold z8
 rw [List.map_map]
 exact List.map_id'' (fun i=>Int.toNat_natCast i) R
noncomputable def xN (items:List D) (R T:List Nat) (n:Nat):List (List Nat):=[pN n fun i=>!decide (i∈R),pN n (wZ items),pN n fun i=>wo (zt items i),pN n (t8 items T)]
noncomputable def vt (led:List D):List Nat:=wr (xN led (q_ (vR [.lst led])) (q_ (vQ [.lst led])) (zA led).length)
theorem Ux:∀ {ls:List (List Nat)} {n:Nat},(∀ l∈ls,∀ i∈l,i<n)->∀ i∈wr ls,i<n
 | [],_,_,_,h=>by cases h
 | l::ls,n,h,i,hi=>by
  unfold wr at hi
  split at hi
  ·exact Ux (fun l hl=>h l (List.mem_cons_of_mem _ hl)) i hi
  ·exact h l (List.mem_cons_self ..) i hi
theorem Fv {led:List D}:∀ i∈vt led,i<(zA led).length:=Ux fun l hl i hi=>by
 unfold xN at hl
 simp only [List.mem_cons,List.not_mem_nil,or_false] at hl
 rcases hl with rfl | rfl | rfl | rfl<;>exact (Yg.mp hi).1
theorem QC (Y:List Nat):(z8 Y).isEmpty=Y.isEmpty:=by cases Y<;>rfl
theorem Qd {items:List D}:∀ (ps:List ((List D->Option (Bool×D))×List Nat)) (x2:Option Sl),(∀ p∈ps,p.1 [.lst items]=some (true,.lst (z8 p.2)))->
  ((wr (ps.map (·.2))=[]/\∃ y2,vY 1 (ps.map fun p=>zE (zS 2 (zX p.1 (zB (z6 0) zD))) xv) [some (false,.lst items),none,x2]=some (.nx [some (false,.lst items),none,y2])) \/
  vY 1 (ps.map fun p=>zE (zS 2 (zX p.1 (zB (z6 0) zD))) xv) [some (false,.lst items),none,x2]=some (.rt false (.lst (z8 (wr (ps.map (·.2)))))))
 | [],x2,_=>.inl ⟨rfl,x2,rfl⟩
 | (F,Y)::ps,x2,h=>by
  have hF:F [.lst items]=some (true,.lst (z8 Y)):=h (F,Y) (List.mem_cons_self ..)
  have ne:=g3 (z8 Y)
  rw [QC] at ne
  rw [List.map_cons,List.map_cons]
  show (wr (Y::ps.map (·.2))=[]/\∃ y2,(zE (zS 2 (zX F (zB (z6 0) zD))) xv [some (false,.lst items),none,x2]).bind _=_)\/(zE (zS 2 (zX F (zB (z6 0) zD))) xv [some (false,.lst items),none,x2]).bind _=_
  unfold wr
  cases e:Y.isEmpty with
  | true=>
   rw [e] at ne
   have s:zE (zS 2 (zX F (zB (z6 0) zD))) xv [some (false,.lst items),none,x2]=some (.nx [some (false,.lst items),none,some (false,.lst (z8 Y))]):=by
    unfold xv
    generalize z8 Y=YY at *
    simp! [hF,ne,Bool.not_true]
   rw [s,if_pos rfl]
   exact Qd ps _ fun p hp=>h p (List.mem_cons_of_mem _ hp)
  | false=>
   rw [e] at ne
   refine .inr ?_
   have s:zE (zS 2 (zX F (zB (z6 0) zD))) xv [some (false,.lst items),none,x2]=some (.rt false (.lst (z8 Y))):=by
    unfold xv
    generalize z8 Y=YY at *
    simp! [hF,ne,Bool.not_false]
   rw [s,if_neg Bool.false_ne_true]
   rfl
theorem M5 {items:List D} (P:PC items) (hr:(zA items).length<=60):∃ o,p5 [.lst items]=some (o,.lst (z8 (vt items))):=by
 obtain ⟨R,_,_,eR⟩:=JZ P hr
 obtain ⟨T,NT,eT⟩:=QI P
 have a1:=BH P eR
 have a2:=Gu P
 have a3:=Og P
 have a4:=BF P NT.len eT
 have eq:vt items=wr (xN items R T (zA items).length):=by
  unfold vt
  rw [eR,eT,X7,X7]
 rw [eq]
 have lp:=Qd (items:=items) [(uh,pN (zA items).length fun i=>!decide (i∈R)),(uj,pN (zA items).length (wZ items)),(uc,pN (zA items).length fun i=>wo (zt items i)),(ug,pN (zA items).length (t8 items T))] none fun p hp=>by
  simp only [List.mem_cons,List.not_mem_nil,or_false] at hp
  rcases hp with rfl | rfl | rfl | rfl
  ·exact a1
  ·exact a2
  ·exact a3
  ·exact a4
 rw [LO]
 unfold ZL
 rcases lp with ⟨e0,y2,e⟩ | e
 ·have e0:wr (xN items R T (zA items).length)=[]:=e0
  rw [e0]
  refine ⟨true,?_⟩
  have e:vY 1 [zE (zS 2 (zX uh (zB (z6 0) zD))) xv,zE (zS 2 (zX uj (zB (z6 0) zD))) xv,zE (zS 2 (zX uc (zB (z6 0) zD))) xv,zE (zS 2 (zX ug (zB (z6 0) zD))) xv] [some (false,.lst items),none,none]=some (.nx [some (false,.lst items),none,y2]):=e
  show ((zE _ _ [some (false,.lst items),none,none]).bind _)=_
  rw [xU e]
  rfl
 ·refine ⟨false,?_⟩
  show (((vY 1 _ [some (false,.lst items),none,none]).bind _).bind _)=_
  have e:vY 1 [zE (zS 2 (zX uh (zB (z6 0) zD))) xv,zE (zS 2 (zX uj (zB (z6 0) zD))) xv,zE (zS 2 (zX uc (zB (z6 0) zD))) xv,zE (zS 2 (zX ug (zB (z6 0) zD))) xv] [some (false,.lst items),none,none]=some (.rt false (.lst (z8 (wr (xN items R T (zA items).length))))):=e
  rw [e]
  rfl
end L3
namespace L3
open PySem
theorem Ti (qs:List Nat):∀ (L:List D) (s:Nat×List D),(L.foldl (xQ qs) s).2.filter zR=s.2.filter zR++L.filter zR
 | [],s=>by rw [List.filter_nil,List.append_nil]; rfl
 | d::L,s=>by
  rw [List.foldl_cons,Ti qs L]
  unfold xQ
  cases hl:zR d with
  | true=>
   show (s.2++[d]).filter zR++_=_
   rw [List.filter_append,List.filter_cons_of_pos hl,List.filter_cons_of_pos hl,List.filter_nil,List.append_assoc]
   rfl
  | false=>
   show (if s.1∈qs then s.2 else s.2++[d]).filter zR++_=_
   rw [List.filter_cons_of_neg (by rw [hl]; decide)]
   split
   ·rfl
   ·rw [List.filter_append,List.filter_cons_of_neg (by rw [hl]; decide),List.filter_nil,List.append_nil]
theorem WM (qs:List Nat):∀ (L:List D) (s:Nat×List D),(zA (L.foldl (xQ qs) s).2).length<=(zA s.2).length+(zA L).length/\((∃ q∈qs,s.1<=q/\q<s.1+(zA L).length)->(zA (L.foldl (xQ qs) s).2).length<(zA s.2).length+(zA L).length)
 | [],s=>⟨Nat.le_refl _,fun ⟨q,_,h1,h2⟩=>by
  have:(zA []).length=0:=rfl
  omega⟩
 | d::L,s=>by
  rw [List.foldl_cons]
  obtain ⟨a,b⟩:=WM qs L (xQ qs s d)
  have e:(zA (d::L)).length=(if zR d=true then 0 else 1)+(zA L).length:=by
   unfold zA
   cases hl:zR d with
   | true=>
    rw [List.filter_cons_of_neg (by rw [hl]; decide)]
    simp
   | false=>
    rw [List.filter_cons_of_pos (by rw [hl]; rfl),List.length_cons]
    simp
    omega
  rw [e]
  have one:∀ x:List D,(zA (x++[d])).length=(zA x).length+(if zR d=true then 0 else 1):=fun x=>by
   unfold zA
   rw [List.filter_append,List.length_append]
   cases hl:zR d with
   | true=>rw [List.filter_cons_of_neg (by rw [hl]; decide)]; rfl
   | false=>rw [List.filter_cons_of_pos (by rw [hl]; rfl)]; rfl
  cases hl:zR d with
  | true=>
   have k:xQ qs s d=(s.1,s.2++[d]):=by unfold xQ; rw [hl]
   rw [k] at a b ⊢
   have o:=one s.2
   rw [hl,if_pos rfl] at o
   rw [o] at a b
   rw [if_pos rfl]
   refine ⟨by omega,fun ⟨q,hq,h1,h2⟩=>?_⟩
   have:=b ⟨q,hq,h1,by show q<s.1+_; omega⟩
   omega
  | false=>
   have o:=one s.2
   rw [hl,if_neg Bool.false_ne_true] at o
   rw [if_neg Bool.false_ne_true]
   by_cases c:s.1∈qs
   ·have k:xQ qs s d=(s.1+1,s.2):=by unfold xQ; rw [hl]; show (s.1+1,if s.1∈qs then s.2 else s.2++[d])=_; rw [if_pos c]
    rw [k] at a b ⊢
    dsimp only at a b ⊢
    refine ⟨by omega,fun _=>by omega⟩
   ·have k:xQ qs s d=(s.1+1,s.2++[d]):=by unfold xQ; rw [hl]; show (s.1+1,if s.1∈qs then s.2 else s.2++[d])=_; rw [if_neg c]
    rw [k] at a b ⊢
    rw [o] at a b
    refine ⟨by omega,fun ⟨q,hq,h1,h2⟩=>?_⟩
    have ne:s.1≠q:=fun z=>c (z ▸ hq)
    have:=b ⟨q,hq,by show s.1+1<=q; omega,by show q<s.1+1+_; omega⟩
    omega
theorem YF:∀ (L:List D) (s:Nat×List D),(L.foldl (xQ []) s).2=s.2++L
 | [],s=>by rw [List.append_nil]; rfl
 | d::L,s=>by
  rw [List.foldl_cons,YF L]
  have:(xQ [] s d).2=s.2++[d]:=by
   unfold xQ
   cases zR d with
   | true=>rfl
   | false=>show (if s.1∈([]:List Nat) then s.2 else s.2++[d])=_; rw [if_neg List.not_mem_nil]
  rw [this,List.append_assoc]
  rfl
theorem MN {L:List D} (P:PC L) (qs:List Nat):PC (yZ qs L).2:=by
 have km:∀ x∈(yZ qs L).2,x∈L:=fun x hx=>by
  rcases Tj qs L (0,[]) x hx with h | h
  ·cases h
  ·exact h
 have kl:(yZ qs L).2.filter zR=L.filter zR:=Ti qs L (0,[])
 refine ⟨fun d hd=>P.it d (km d hd),by rw [kl]; exact P.nd,fun d hd hj=>?_,?_⟩
 ·obtain ⟨t,p,e1,e2⟩:=P.tg d (km d hd) hj
  have h1:=GC P.it e2
  have h2:yM t∈(yZ qs L).2:=by
   have:yM t∈L.filter zR:=List.mem_filter.mpr ⟨h1,rfl⟩
   rw [<- kl] at this
   exact (List.mem_filter.mp this).1
  obtain ⟨q,hq⟩:=Option.isSome_iff_exists.mp (Wv (0,none) (.inl h2))
  exact ⟨t,q,e1,hq⟩
 ·have:=YE qs L (0,[])
  have e:(yZ qs L).2.length<=0+L.length:=this
  have:=P.ln
  omega
noncomputable def yS (items:List D):List D:=items.map (yN items)
noncomputable def xF (items:List D):List D:=(yZ (vt (yS items)) (yS items)).2
theorem YS {items:List D} (P:PC items):(zA (yS items)).length=(zA items).length:=by
 unfold yS
 rw [(py P).2.2,List.length_map]
theorem Y_ {items:List D} (P:PC items):PC (xF items)/\(zA (xF items)).length<=(zA items).length:=by
 have P':PC (yS items):=(py P).1
 refine ⟨MN P' _,?_⟩
 have:=(WM (vt (yS items)) (yS items) (0,[])).1
 have e:(zA (xF items)).length<=0+(zA (yS items)).length:=this
 rw [YS P] at e
 omega
inductive tR:Nat->List D->List D->Prop
 | fin {a:List D}:xF a=a->tR 0 a a
 | go {a b:List D} {k:Nat}:xF a≠a->tR k (xF a) b->tR (k+1) a b
theorem IC:∀ (n:Nat) {a:List D},PC a->(zA a).length<=n->∃ k b,k<=n+1/\tR k a b
 | n,a,P,hn=>by
  by_cases c:xF a=a
  ·exact ⟨0,a,Nat.zero_le _,.fin c⟩
  ·by_cases q:vt (yS a)=[]
   ·have e:xF a=yS a:=by
     unfold xF yZ
     rw [q,YF]
     rfl
    have P':PC (yS a):=(py P).1
    have e2:yS (yS a)=yS a:=Mo P
    have e3:xF (yS a)=yS a:=by
     unfold xF yZ
     rw [e2,q,YF]
     rfl
    exact ⟨1,yS a,by omega,.go c (by rw [e]; exact .fin e3)⟩
   ·obtain ⟨x,hx⟩:=List.exists_mem_of_ne_nil _ q
    have lt:=Fv x hx
    have dec:=(WM (vt (yS a)) (yS a) (0,[])).2 ⟨x,hx,Nat.zero_le _,by show x<0+_; omega⟩
    have dec:(zA (xF a)).length<0+(zA (yS a)).length:=dec
    rw [YS P] at dec
    match n,hn with
    | 0,hn=>omega
    | n+1,hn=>
     obtain ⟨k,b,hk,S⟩:=IC n (Y_ P).1 (by omega)
     exact ⟨k+1,b,by omega,.go c S⟩
end L3
namespace L3
open PySem
noncomputable def WO:FS:=(zS 4 (e2 (xt Builtin.bitOr) (z6 4) (e2 zG (z6 1) (z6 5))))
noncomputable def ZR:FS:=
 (zE (zS 4 (eC (.int 0)))
  (zE (vA (xc (zX pI (zB (z6 0) (zB (z6 3) zD)))) (zh 5)
   WO)
  (ya (e2 (uL fun i j=>decide (j<i)) (e2 (xt Builtin.bitAnd) (zX wK (zB (z6 2) zD)) (z6 4)) (eC (.int 0))))))
noncomputable def qF:List D->Option (Bool×D):=FR 4 6 ZR
theorem Cg:∀ ds r,qF ds=some r->ds.length=4/\zc 6 ZR ds=some r:=yK
theorem LU (x0 x1 x2 x3:D):qF [x0,x1,x2,x3]=zc 6 ZR [x0,x1,x2,x3]:=rfl
noncomputable def gJ:FA:=(vI (eC (.int 0)) (eL xL (zB (z6 1) zD)))
noncomputable def j2:xj:=(wv (qZ 6 (e2 zG (z6 1) (z6 5)))
     (wv (qZ 7 (e2 yA (e2 zG (z6 6) (eC (.int 0))) (yu (zB (eC (.str "jump")) (zB (eC (.str "when")) (zB (eC (.str "unless")) zD))))))
     (wv (vZ (tE (e2 wH (z6 5) (z6 2)))
      (vJ (eC (.int 0)) (z6 5))
      va)
     (wv (vZ (vB (tE (z6 7)) (tE (e2 zm (zX qG (zB (z6 0) (zB (e2 zG (z6 6) (e1 vk (eC (.int 1)))) zD))) (e2 yO (z6 5) (eC (.int 1))))))
      (vJ (eC (.int 1)) (z6 5))
      va)
     (wv (vZ (vB (tE (e2 zm (e2 zG (z6 6) (eC (.int 0))) (eC (.str "copy")))) (tE (e2 zm (e2 zG (z6 6) (eC (.int 1))) (e2 zG (z6 6) (eC (.int 2))))))
      (vJ (eC (.int 2)) (z6 5))
      va)
     (vZ (vB (q5 (tE (z6 7))) (tE (e2 wH (e2 zG (z6 6) (eC (.int 0))) (yu (zB (eC (.str "stop")) (zB (eC (.str "store")) (zB (eC (.str "storew")) zD)))))))
      (vZ (q5 (tE (zX qF (zB (z6 0) (zB (z6 3) (zB (z6 6) (zB (z6 5) zD)))))))
        (vJ (eC (.int 3)) (z6 5))
        va)
      va))))))
noncomputable def ZS:FS:=
 (zE (zS 1 (zX qI (zB (z6 0) zD)))
  (zE (zS 2 (zX vR (zB (z6 0) zD)))
  (zE (zS 3 (vi vQ (zB (z6 0) zD)))
  (ql 4 (fun _=>some 4)
  (wv (t7 gJ (zh 5)
    j2)
   tq)))))
noncomputable def p9:List D->Option (Bool×D):=FR 1 8 ZS
theorem Ch:∀ ds r,p9 ds=some r->ds.length=1/\zc 8 ZS ds=some r:=yK
theorem LV (x0:D):p9 [x0]=zc 8 ZS [x0]:=rfl
noncomputable def YK:FS:=(zE (yP (qA (tE (e2 zm (e2 zG (z6 4) (eC (.int 0))) (eC (.str "label")))) (tE (e2 wH (z6 3) (z6 1))))
         (wS 2 wG (z6 4))
         yW)
        (zS 3 (e2 yO (z6 3) (eL Z_ (zB (e2 xM (e2 zG (z6 4) (eC (.int 0))) (eC (.str "label"))) zD)))))
noncomputable def u_:FS:=(yP (tE (e2 xM (z6 1) (yk zD)))
     (zE (vO 2 (yk zD))
      (zE (zS 3 (eC (.int 0)))
      (zE (vA (xc (z6 0)) (zh 4)
       YK)
      (uU 2))))
     yW)
noncomputable def ZX:FS:=
 (zE (zS 0 (vi uE (zB (z6 0) zD)))
  (zE (vA (xc (zX p9 (zB (z6 0) zD))) (zh 1)
   u_)
  (ya (z6 0))))
noncomputable def pB:List D->Option (Bool×D):=FR 1 5 ZX
theorem Cm:∀ ds r,pB ds=some r->ds.length=1/\zc 5 ZX ds=some r:=yK
theorem La (x0:D):pB [x0]=zc 5 ZX [x0]:=rfl
theorem MC {items:List D} (P:PC items) {T:List Nat} (lT:T.length=(zA items).length+1) {i:Nat} (hi:i<(zA items).length) :
  qF [.lst items,.lst (z8 T),zt items i,.int (i:Int)]=some (false,.bl (!decide ((Pf items i &&& yd T (Wf items i))=0))):=by
 obtain ⟨ep,_⟩:=Wx P hi
 have en:=B7 P hi
 obtain ⟨σ',e4,y5,rfl⟩:=t5 (g:=zh 5) (b:=WO) (fun k σ=>∃ (x5:Option (Bool×D)),σ=[some (false,.lst items),some (false,.lst (z8 T)),some (false,zt items i),some (false,.int (i:Int)),some (false,.int ((yd T ((Wf items i).take k):Nat):Int)),x5]) (ds:=z8 (Wf items i))
  (σ:=[some (false,.lst items),some (false,.lst (z8 T)),some (false,zt items i),some (false,.int (i:Int)),some (false,.int 0),none]) 0 ⟨none,rfl⟩ (by
  rintro k d σ hd ⟨x8,rfl⟩
  rw [Nat.zero_add]
  unfold z8 at hd
  rw [List.getElem?_map] at hd
  cases hw:(Wf items i)[k]? with
  | none=>rw [hw] at hd; cases hd
  | some w=>
   rw [hw] at hd
   cases hd
   have hk:=(List.getElem?_eq_some_iff.mp hw).1
   have iw:=YX (T:=T) (i:=w) (by have:=ZH hi (List.mem_of_getElem? hw); omega)
   have eo:yd T ((Wf items i).take (k+1))=(yd T ((Wf items i).take k) ||| gt T w):=by
    rw [List.take_succ_eq_append_getElem hk,Qm]
    rw [List.getElem?_eq_getElem hk] at hw
    cases hw
    rfl
   have eb:=Xm (yd T ((Wf items i).take k)) (gt T w)
   rw [<- eo] at eb
   refine ⟨_,_,rfl,.inl ?_,some (false,.int (w:Int)),rfl⟩
   unfold WO
   generalize zt items i=r at *
   generalize z8 T=TT at *
   simp! [iw,eb])
 rw [vK,Nat.zero_add,List.take_length] at e4
 have bb:=U9 (Pf items i) (yd T (Wf items i))
 have z2:decide ((0:Int)<(((Pf items i &&& yd T (Wf items i):Nat)):Int))=!decide ((Pf items i &&& yd T (Wf items i))=0):=by
  by_cases c:(Pf items i &&& yd T (Wf items i))=0
  ·rw [decide_eq_true c,decide_eq_false (by omega)]
   rfl
  ·rw [decide_eq_false c,decide_eq_true (by omega)]
   rfl
 rw [LU]
 unfold ZR
 rw [<- z2]
 generalize (Pf items i &&& yd T (Wf items i))=zz at *
 generalize zt items i=r at *
 generalize z8 T=TT at *
 generalize z8 (Wf items i)=WW at *
 simp! [en,e4,ep,bb]
theorem jb {nds:List (List D)} {σ:zd} {c:FT} {k i:Nat} {ds:List D} {b:Bool} (hc:c σ=some b) (h5:z6 5 σ=some (.int (i:Int))) (hk:nds[k]?=some ds) (hl:ds.length<=1000):vZ c (vJ (eC (.int (k:Int))) (z6 5)) va nds σ=some (.nx (nds.set k (ds++if b=true then [.int (i:Int)] else [])) σ):=by
 show (c σ).bind _=_
 rw [hc]
 cases b with
 | true=>
  show vJ (eC (.int (k:Int))) (z6 5) nds σ=_
  unfold vJ eC
  rw [h5]
  dsimp only [Option.bind]
  rw [Int.toNat_natCast,hk]
  dsimp only
  rw [if_pos ⟨by omega,by show _<16777216; omega⟩,if_pos rfl]
 | false=>
  rw [if_neg Bool.false_ne_true,List.append_nil]
  show some (NF.nx nds σ)=_
  congr 2
  refine List.ext_getElem? fun j=>?_
  rw [List.getElem?_set]
  by_cases z:k=j
  ·subst z
   rw [if_pos rfl,if_pos (List.getElem?_eq_some_iff.mp hk).1,hk]
  ·rw [if_neg z]
theorem O7 {nds:List (List D)} {σ:zd} {c1 c2:FT} {k i:Nat} {ds:List D} {b1 b2:Bool} (h1:c1 σ=some b1) (h2:b1=true->c2 σ=some b2) (h5:z6 5 σ=some (.int (i:Int))) (hk:nds[k]?=some ds) (hl:ds.length<=1000):vZ c1 (vZ c2 (vJ (eC (.int (k:Int))) (z6 5)) va) va nds σ=some (.nx (nds.set k (ds++if (b1&&b2)=true then [.int (i:Int)] else [])) σ):=by
 cases b1 with
 | true=>
  show _=some (NF.nx (nds.set k (ds++if b2=true then [.int (i:Int)] else [])) σ)
  rw [<- jb (h2 rfl) h5 hk hl]
  show (c1 σ).bind _=_
  rw [h1]
  rfl
 | false=>
  have:=jb (c:=fun _=>some false) (σ:=σ) (nds:=nds) (b:=false) rfl h5 hk hl
  show _=some (NF.nx (nds.set k (ds++if (false:Bool)=true then [.int (i:Int)] else [])) σ)
  rw [<- this]
  show (c1 σ).bind _=_
  rw [h1]
  rfl
theorem Da (n:Nat) (p:Nat->Bool):pN (n+1) p=pN n p++if p n=true then [n] else []:=by
 unfold pN
 rw [List.range_succ,List.filter_append,List.filter_cons]
 rfl
theorem Yf (n:Nat) (p:Nat->Bool):(pN n p).length<=n:=by
 unfold pN
 have:=List.length_filter_le p (List.range n)
 rw [List.length_range] at this
 exact this
theorem YW (n:Nat) (p:Nat->Bool):z8 (pN (n+1) p)=z8 (pN n p)++if p n=true then [.int (n:Int)] else []:=by
 rw [Da,WY]
 split<;>rfl
theorem j3 {f g:xj} {nds nds':List (List D)} {σ σ':zd} (h:f nds σ=some (.nx nds' σ')):wv f g nds σ=g nds' σ':=by
 show (f nds σ).bind _=_
 rw [h]
 rfl
theorem MW {items:List D} (P:PC items) (hr:(zA items).length<=60):p9 [.lst items]=some (false,.lst ((xN items (q_ (vR [.lst items])) (q_ (vQ [.lst items])) (zA items).length).map fun l=>.lst (z8 l))):=by
 obtain ⟨R,_,_,eR⟩:=JZ P hr
 obtain ⟨T,NT,eT⟩:=QI P
 rw [eR,eT,X7,X7]
 have q2:qI [.lst items]=some (true,.lst (zA items)):=Mj P.it
 have r1:gJ [some (false,.lst items),some (false,.lst (zA items)),some (false,.lst (z8 R)),some (false,.lst (z8 T)),none,none,none,none]=some (xD (zA items).length):=uT (n:=((zA items).length:Nat)) rfl (by omega)
 obtain ⟨nds',σ',e1,x5,x6,x7,rfl,rfl⟩:=YU (g:=zh 5) (b:=j2) (fun i nds σ=>∃ (x5 x6 x7:Option (Bool×D)),nds=(xN items R T i).map z8/\σ=[some (false,.lst items),some (false,.lst (zA items)),some (false,.lst (z8 R)),some (false,.lst (z8 T)),none,x5,x6,x7]) (ds:=xD (zA items).length)
  (nds:=List.replicate 4 []) (σ:=[some (false,.lst items),some (false,.lst (zA items)),some (false,.lst (z8 R)),some (false,.lst (z8 T)),none,none,none,none]) 0 ⟨none,none,none,rfl,rfl⟩ (by
  rintro i d nds σ hd ⟨x5,x6,x7,rfl,rfl⟩
  rw [Nat.zero_add] at *
  obtain ⟨hi,rfl⟩:=jO hd
  have ix:=Jf hi
  obtain ⟨hI,hL⟩:=jF P hi
  have hm:zt items i∈items:=(List.mem_filter.mp (List.mem_of_getElem? (jE hi))).1
  have w0:=WL hI
  have w1:=M6 hI
  have w2:=TH (wd (zt items i)) "stop" "store" "storew"
  obtain ⟨b,b1,b2,b3⟩:=UW hI
  have pz:Pf items i=0↔Wb (wd (zt items i))=true:=Fo hI hL
  have hn:wH (.int (i:Int)) (.lst (z8 R))=some (.bl (!decide (i∈R))):=by
   unfold wH
   rw [TL]
   rfl
  have nf:=MC P (T:=T) NT.len hi
  obtain ⟨S,hS⟩:∃ S:zd,S=[some (false,.lst items),some (false,.lst (zA items)),some (false,.lst (z8 R)),some (false,.lst (z8 T)),none,some (false,.int (i:Int)),some (false,zt items i),some (false,.bl (yb (zt items i)))]:=⟨_,rfl⟩
  have v5:z6 5 S=some (.int (i:Int)):=by rw [hS]; rfl
  have s1:qZ 6 (e2 zG (z6 1) (z6 5)) ((xN items R T i).map z8) [some (false,.lst items),some (false,.lst (zA items)),some (false,.lst (z8 R)),some (false,.lst (z8 T)),none,some (false,.int (i:Int)),x6,x7]=some (.nx ((xN items R T i).map z8) [some (false,.lst items),some (false,.lst (zA items)),some (false,.lst (z8 R)),some (false,.lst (z8 T)),none,some (false,.int (i:Int)),some (false,zt items i),x7]):=by
   unfold qZ
   generalize (xN items R T i).map z8=KK
   generalize zt items i=r at *
   generalize zA items=RR at *
   generalize z8 R=R1 at *
   generalize z8 T=T1 at *
   simp! [ix]
  have s2:qZ 7 (e2 yA (e2 zG (z6 6) (eC (.int 0))) (yu (zB (eC (.str "jump")) (zB (eC (.str "when")) (zB (eC (.str "unless")) zD))))) ((xN items R T i).map z8) [some (false,.lst items),some (false,.lst (zA items)),some (false,.lst (z8 R)),some (false,.lst (z8 T)),none,some (false,.int (i:Int)),some (false,zt items i),x7]=some (.nx ((xN items R T i).map z8) S):=by
   rw [hS]
   unfold qZ
   generalize (xN items R T i).map z8=KK
   generalize zt items i=r at *
   generalize zA items=RR at *
   generalize z8 R=R1 at *
   generalize z8 T=T1 at *
   simp! [w0,w1]
  have t0:tE (e2 wH (z6 5) (z6 2)) S=some (!decide (i∈R)):=by
   rw [hS]
   generalize zt items i=r at *
   generalize zA items=RR at *
   generalize z8 R=R1 at *
   generalize z8 T=T1 at *
   simp! [hn]
  have t1:vB (tE (z6 7)) (tE (e2 zm (zX qG (zB (z6 0) (zB (e2 zG (z6 6) (e1 vk (eC (.int 1)))) zD))) (e2 yO (z6 5) (eC (.int 1))))) S=some (wZ items i):=by
   rw [hS]
   unfold wZ
   cases hj:yb (zt items i) with
   | true=>
    obtain ⟨t,p,f1,f2⟩:=P.tg _ hm hj
    have pl:=FQ P f2
    have tg:y_ items (zt items i)=some p:=by
     unfold y_
     rw [hj]
     show (yV (g4 (zt items i)) items).2=_
     rw [YC hI hj f1]
     exact f2
    have q:=Qj (some p) i
    have q:zm (.int (p:Int)) (.int ((i:Int)+1))=some (.bl (decide (some p=some (i+1)))):=q
    rw [tg]
    generalize zt items i=r at *
    generalize zA items=RR at *
    generalize z8 R=R1 at *
    generalize z8 T=T1 at *
    simp! [f1,pl,add_int,q]
   | false=>
    have tg:y_ items (zt items i)=none:=by unfold y_; rw [hj]
    rw [tg,decide_eq_false (fun z=>nomatch z:¬ (none:Option Nat)=some (i+1))]
    generalize zt items i=r at *
    generalize zA items=RR at *
    generalize z8 R=R1 at *
    generalize z8 T=T1 at *
    simp! []
  have t2:vB (tE (e2 zm (e2 zG (z6 6) (eC (.int 0))) (eC (.str "copy")))) (tE (e2 zm (e2 zG (z6 6) (eC (.int 1))) (e2 zG (z6 6) (eC (.int 2))))) S=some (wo (zt items i)):=by
   rw [hS]
   generalize zt items i=r at *
   generalize zA items=RR at *
   generalize z8 R=R1 at *
   generalize z8 T=T1 at *
   cases b with
   | true=>
    obtain ⟨x,y,c1,c2,c3⟩:=b2 rfl
    simp! [w0,b1,c1,c2,c3]
   | false=>
    rw [b3 rfl]
    simp! [w0,b1]
  have t3:vB (q5 (tE (z6 7))) (tE (e2 wH (e2 zG (z6 6) (eC (.int 0))) (yu (zB (eC (.str "stop")) (zB (eC (.str "store")) (zB (eC (.str "storew")) zD)))))) S=some (decide (Pf items i≠0)):=by
   have nz:∀ z,wd (zt items i)=Str.ofString z->z∈["jump", "when", "unless", "stop", "store", "storew"]->Pf items i=0:=fun z h1 h2=>pz.mpr (List.any_eq_true.mpr ⟨z,h2,by rw [h1]; exact beq_self_eq_true _⟩)
   rw [hS]
   cases hj:yb (zt items i) with
   | true=>
    have p0:Pf items i=0:=by
     rw [YA hI,Bool.or_eq_true,Bool.or_eq_true] at hj
     rcases hj with (h | h) | h
     ·exact nz "jump" (beq_iff_eq.mp h) (by decide)
     ·exact nz "when" (beq_iff_eq.mp h) (by decide)
     ·exact nz "unless" (beq_iff_eq.mp h) (by decide)
    rw [decide_eq_false (fun z=>z p0:¬ Pf items i≠0)]
    generalize zt items i=r at *
    generalize zA items=RR at *
    generalize z8 R=R1 at *
    generalize z8 T=T1 at *
    simp! []
   | false=>
    cases hs:(("stop" : Str) == wd (zt items i)||(("store" : Str) == wd (zt items i)||(("storew" : Str) == wd (zt items i)||false))) with
    | true=>
     rw [hs] at w2
     have p0:Pf items i=0:=by
      rw [Bool.or_false,Bool.or_eq_true,Bool.or_eq_true] at hs
      rcases hs with h | h | h
      ·exact nz "stop" (beq_iff_eq.mp h).symm (by decide)
      ·exact nz "store" (beq_iff_eq.mp h).symm (by decide)
      ·exact nz "storew" (beq_iff_eq.mp h).symm (by decide)
     have w2:=QP w2
     rw [decide_eq_false (fun z=>z p0:¬ Pf items i≠0)]
     generalize zt items i=r at *
     generalize zA items=RR at *
     generalize z8 R=R1 at *
     generalize z8 T=T1 at *
     simp! [w0,w2,Bool.not_true]
    | false=>
     rw [hs] at w2
     have pn:Pf items i≠0:=fun z=>by
      have:=pz.mp z
      obtain ⟨y,hy,e⟩:=List.any_eq_true.mp this
      rw [beq_iff_eq] at e
      have hj':=hj
      rw [YA hI,e] at hj'
      rw [e] at hs
      have all:∀ y∈["jump", "when", "unless", "stop", "store", "storew"],((Str.ofString y == ("jump" : Str)||Str.ofString y == ("when" : Str)||Str.ofString y == ("unless" : Str))||(("stop" : Str) == Str.ofString y||(("store" : Str) == Str.ofString y||(("storew" : Str) == Str.ofString y||false))))=true:=by decide +kernel
      have:=all y hy
      rw [hj',hs] at this
      cases this
     have w2:=QP w2
     rw [decide_eq_true pn]
     generalize zt items i=r at *
     generalize zA items=RR at *
     generalize z8 R=R1 at *
     generalize z8 T=T1 at *
     simp! [w0,w2,Bool.not_false]
  have t4:q5 (tE (zX qF (zB (z6 0) (zB (z6 3) (zB (z6 6) (zB (z6 5) zD)))))) S=some (decide ((Pf items i &&& yd T (Wf items i))=0)):=by
   rw [hS]
   generalize zt items i=r at *
   generalize zA items=RR at *
   generalize z8 R=R1 at *
   generalize z8 T=T1 at *
   simp! [nf,Bool.not_not]
  obtain ⟨A0,h0⟩:∃ A,A=z8 (pN i fun i=>!decide (i∈R)):=⟨_,rfl⟩
  obtain ⟨A1,h1⟩:∃ A,A=z8 (pN i (wZ items)):=⟨_,rfl⟩
  obtain ⟨A2,h2⟩:∃ A,A=z8 (pN i fun i=>wo (zt items i)):=⟨_,rfl⟩
  obtain ⟨A3,h3⟩:∃ A,A=z8 (pN i (t8 items T)):=⟨_,rfl⟩
  have l0:A0.length<=1000:=by have:=Yf i fun i=>!decide (i∈R); rw [h0,vK]; omega
  have l1:A1.length<=1000:=by have:=Yf i (wZ items); rw [h1,vK]; omega
  have l2:A2.length<=1000:=by have:=Yf i fun i=>wo (zt items i); rw [h2,vK]; omega
  have l3:A3.length<=1000:=by have:=Yf i (t8 items T); rw [h3,vK]; omega
  have ek:(xN items R T i).map z8=[A0,A1,A2,A3]:=by rw [h0,h1,h2,h3]; rfl
  have ek':(xN items R T (i+1)).map z8=[A0++(if (!decide (i∈R))=true then [.int (i:Int)] else []),A1++(if wZ items i=true then [.int (i:Int)] else []),A2++(if wo (zt items i)=true then [.int (i:Int)] else []),A3++(if (decide (Pf items i≠0)&&decide ((Pf items i &&& yd T (Wf items i))=0))=true then [.int (i:Int)] else [])]:=by
   show [z8 (pN (i+1) fun i=>!decide (i∈R)),z8 (pN (i+1) (wZ items)),z8 (pN (i+1) fun i=>wo (zt items i)),z8 (pN (i+1) (t8 items T))]=_
   rw [YW,YW,YW,YW,h0,h1,h2,h3]
   rfl
  have k0:=jb (nds:=[A0,A1,A2,A3]) (k:=0) t0 v5 rfl l0
  have k1:=jb (nds:=[A0++(if (!decide (i∈R))=true then [.int (i:Int)] else []),A1,A2,A3]) (k:=1) t1 v5 rfl l1
  have k2:=jb (nds:=[A0++(if (!decide (i∈R))=true then [.int (i:Int)] else []),A1++(if wZ items i=true then [.int (i:Int)] else []),A2,A3]) (k:=2) t2 v5 rfl l2
  have k3:=O7 (nds:=[A0++(if (!decide (i∈R))=true then [.int (i:Int)] else []),A1++(if wZ items i=true then [.int (i:Int)] else []),A2++(if wo (zt items i)=true then [.int (i:Int)] else []),A3]) (k:=3) t3 (fun _=>t4) v5 rfl l3
  refine ⟨_,(xN items R T (i+1)).map z8,S,rfl,?_,some (false,.int (i:Int)),some (false,zt items i),some (false,.bl (yb (zt items i))),rfl,hS⟩
  show j2 ((xN items R T i).map z8) [some (false,.lst items),some (false,.lst (zA items)),some (false,.lst (z8 R)),some (false,.lst (z8 T)),none,some (false,.int (i:Int)),x6,x7]=_
  unfold j2
  rw [j3 s1,j3 s2,ek,ek']
  rw [j3 (show vZ _ (vJ (eC (.int 0)) (z6 5)) va _ _=some (NF.nx [A0++(if (!decide (i∈R))=true then [.int (i:Int)] else []),A1,A2,A3] S) from k0)]
  rw [j3 (show vZ _ (vJ (eC (.int 1)) (z6 5)) va _ _=some (NF.nx [A0++(if (!decide (i∈R))=true then [.int (i:Int)] else []),A1++(if wZ items i=true then [.int (i:Int)] else []),A2,A3] S) from k1)]
  rw [j3 (show vZ _ (vJ (eC (.int 2)) (z6 5)) va _ _=some (NF.nx [A0++(if (!decide (i∈R))=true then [.int (i:Int)] else []),A1++(if wZ items i=true then [.int (i:Int)] else []),A2++(if wo (zt items i)=true then [.int (i:Int)] else []),A3] S) from k2)]
  exact k3)
 rw [tM,Nat.zero_add] at e1
 have e2:wv (t7 gJ (zh 5) j2) tq (List.replicate 4 []) [some (false,.lst items),some (false,.lst (zA items)),some (false,.lst (z8 R)),some (false,.lst (z8 T)),none,none,none,none]=some (.rt (.lst ((xN items R T (zA items).length).map fun l=>.lst (z8 l)))):=by
  rw [j3 (nds':=(xN items R T (zA items).length).map z8) (σ':=[some (false,.lst items),some (false,.lst (zA items)),some (false,.lst (z8 R)),some (false,.lst (z8 T)),none,x5,x6,x7]) (by
   show (gJ _).bind _=_
   rw [r1]
   exact e1)]
  show (if ((xN items R T (zA items).length).map z8).length<=zu then some (NF.rt (.lst (((xN items R T (zA items).length).map z8).map .lst))) else none)=_
  rw [if_pos (show ((xN items R T (zA items).length).map z8).length<=zu from (show 4<=16777216 by decide)),List.map_map]
  rfl
 rw [LV]
 unfold ZS
 show ((zE _ _ [some (false,.lst items),none,none,none,none,none,none,none]).bind _)=_
 rw [xU (σ':=[some (false,.lst items),some (false,.lst (zA items)),none,none,none,none,none,none]) (by
  generalize zA items=RR at *
  simp! [q2])]
 rw [xU (σ':=[some (false,.lst items),some (false,.lst (zA items)),some (false,.lst (z8 R)),none,none,none,none,none]) (by
  generalize zA items=RR at *
  generalize z8 R=R1 at *
  simp! [eR])]
 rw [xU (σ':=[some (false,.lst items),some (false,.lst (zA items)),some (false,.lst (z8 R)),some (false,.lst (z8 T)),none,none,none,none]) (by
  generalize zA items=RR at *
  generalize z8 R=R1 at *
  generalize z8 T=T1 at *
  simp! [eT])]
 show (((wv (t7 gJ (zh 5) j2) tq (List.replicate 4 []) [some (false,.lst items),some (false,.lst (zA items)),some (false,.lst (z8 R)),some (false,.lst (z8 T)),none,none,none,none]).bind _).bind _)=_
 rw [e2]
 rfl
end L3
namespace L3
open PySem
theorem CP {led:List D} (P:PC led) (qs:List Nat):∃ x3 x4,wu (zh 4) YK led [some (false,.lst led),some (false,.lst (z8 qs)),some (true,.lst []),some (false,.int 0),none]=some (.nx [some (false,.lst led),some (false,.lst (z8 qs)),some (true,.lst (yZ qs led).2),x3,x4]):=by
 have ln:=P.ln
 obtain ⟨σ',e3,x4,rfl⟩:=t5 (g:=zh 4) (b:=YK) (fun i σ=>∃ x4,σ=[some (false,.lst led),some (false,.lst (z8 qs)),some (true,.lst (yZ qs (led.take i)).2),some (false,.int (((yZ qs (led.take i)).1:Nat):Int)),x4]) (ds:=led)
  (σ:=[some (false,.lst led),some (false,.lst (z8 qs)),some (true,.lst []),some (false,.int 0),none]) 0 ⟨none,rfl⟩ (by
  rintro i v σ hv ⟨x7,rfl⟩
  rw [Nat.zero_add] at *
  have hi:i<led.length:=(List.getElem?_eq_some_iff.mp hv).1
  have ev:led[i]=v:=(List.getElem?_eq_some_iff.mp hv).2
  have ht:led.take (i+1)=led.take i++[v]:=by rw [List.take_succ_eq_append_getElem hi,ev]
  obtain ⟨w,ia,ib,_⟩:=qU (P.it v (List.mem_of_getElem? hv))
  have inb:=WZ ib
  have ll:=YE qs (led.take i) (0,[])
  have lt:(led.take i).length<=100:=by rw [List.length_take]; omega
  have hni:wH (.int (((yZ qs (led.take i)).1:Nat):Int)) (.lst (z8 qs))=some (.bl (!decide ((yZ qs (led.take i)).1∈qs))):=by
   show (pV _ _).bind _=_
   rw [TL]
   rfl
  have hap:=uq (L:=(yZ qs (led.take i)).2) (r:=v) (by have:(yZ qs (led.take i)).2.length<=0+(led.take i).length:=ll; omega)
  refine ⟨_,[some (false,.lst led),some (false,.lst (z8 qs)),some (true,.lst (yZ qs (led.take (i+1))).2),some (false,.int (((yZ qs (led.take (i+1))).1:Nat):Int)),some (false,v)],rfl,.inl ?_,_,rfl⟩
  rw [ht,Tk]
  generalize yZ qs (led.take i)=st at *
  unfold YK xQ
  generalize z8 qs=QQ at *
  cases hL:zR v with
  | true=>
   rw [hL] at ib inb
   simp! [ia,ib,inb,hap,add_int,Bool.not_true,Bool.false_eq_true,if_false,Int.add_zero]
  | false=>
   rw [hL] at ib inb
   by_cases hm:st.1∈qs
   ·rw [decide_eq_true hm] at hni
    simp! [ia,ib,inb,hni,add_int,Bool.not_true,Bool.not_false,if_true,if_pos hm]
    rfl
   ·rw [decide_eq_false hm] at hni
    simp! [ia,ib,inb,hni,hap,add_int,Bool.not_false,if_true,if_neg hm]
    rfl)
 rw [Nat.zero_add,List.take_length] at e3
 exact ⟨_,_,e3⟩
theorem Je {led:List D} (P:PC led):∀ (ls:List (List Nat)) (x1:Option Sl),
  ((wr ls=[]/\∃ y1,wu (zh 1) u_ (ls.map fun l=>.lst (z8 l)) [some (false,.lst led),x1,none,none,none]=some (.nx [some (false,.lst led),y1,none,none,none])) \/
  wu (zh 1) u_ (ls.map fun l=>.lst (z8 l)) [some (false,.lst led),x1,none,none,none]=some (.rt true (.lst (yZ (wr ls) led).2)))
 | [],x1=>.inl ⟨rfl,x1,rfl⟩
 | l::ls,x1=>by
  have ne:=g3 (z8 l)
  rw [QC] at ne
  rw [List.map_cons]
  show (wr (l::ls)=[]/\∃ y1,(u_ [some (false,.lst led),some (false,.lst (z8 l)),none,none,none]).bind _=_)\/(u_ [some (false,.lst led),some (false,.lst (z8 l)),none,none,none]).bind _=_
  unfold wr
  cases e:l.isEmpty with
  | true=>
   rw [e] at ne
   have s:u_ [some (false,.lst led),some (false,.lst (z8 l)),none,none,none]=some (.nx [some (false,.lst led),some (false,.lst (z8 l)),none,none,none]):=by
    unfold u_
    generalize z8 l=YY at *
    simp! [ne,Bool.not_true]
   rw [s,if_pos rfl]
   exact Je P ls _
  | false=>
   rw [e] at ne
   refine .inr ?_
   obtain ⟨x3,x4,e3⟩:=CP P l
   have s:u_ [some (false,.lst led),some (false,.lst (z8 l)),none,none,none]=some (.rt true (.lst (yZ l led).2)):=by
    unfold u_
    generalize z8 l=YY at *
    generalize (yZ l led).2=KK at *
    simp! [ne,Bool.not_false,e3]
   rw [s,if_neg Bool.false_ne_true]
   rfl
theorem Jd {items:List D} (P:PC items) (hr:(zA items).length<=60):∃ o,pB [.lst items]=some (o,.lst (xF items)):=by
 have e1:uE [.lst items]=some (true,.lst (yS items)):=Q3 P
 have P':PC (yS items):=(py P).1
 have e2:=MW P' (by rw [YS P]; exact hr)
 have lp:=Je P' (xN (yS items) (q_ (vR [.lst (yS items)])) (q_ (vQ [.lst (yS items)])) (zA (yS items)).length) none
 rw [La]
 unfold ZX
 rcases lp with ⟨e0,y1,e⟩ | e
 ·refine ⟨false,?_⟩
  have e0:vt (yS items)=[]:=e0
  have es:xF items=yS items:=by
   unfold xF yZ
   rw [e0,YF]
   rfl
  rw [es]
  generalize yS items=LL at *
  generalize (xN LL _ _ _).map (fun l=>D.lst (z8 l))=KK at *
  simp! [e1,e2,e]
 ·refine ⟨true,?_⟩
  have e:_=some (Fl.rt true (.lst (xF items))):=e
  generalize xF items=SS at *
  generalize yS items=LL at *
  generalize (xN LL _ _ _).map (fun l=>D.lst (z8 l))=KK at *
  simp! [e1,e2,e]
end L3
namespace L3
open PySem
noncomputable def YL:FS:=(zE (zS 1 (z6 2))
    (zE (zS 3 (vi uE (zB (z6 1) zD)))
    (zS 2 (zX qL (zB (z6 3) (zB (zX p5 (zB (z6 3) zD)) zD))))))
noncomputable def je:FT:=(tE (e2 ji (z6 2) (z6 1)))
noncomputable def Zm:FS:=
 (zE (zS 1 (eC .non))
  (zE (zS 2 (z6 0))
  (zE (uV je
   YL)
  (xq (vi ui (zB (z6 2) zD))))))
noncomputable def qK:List D->Option (Bool×D):=FR 1 4 Zm
theorem E8:∀ ds r,qK ds=some r->ds.length=1/\zc 4 Zm ds=some r:=yK
theorem Lp (x0:D):qK [x0]=zc 4 Zm [x0]:=rfl
theorem Jv {i0:D} {items:List D} {x1 x3:Option Sl} (P:PC items) (hr:(zA items).length<=60):∃ y3,YL [some (false,i0),x1,some (false,.lst items),x3]=some (.nx [some (false,i0),some (false,.lst items),some (false,.lst (xF items)),y3]):=by
 have e1:uE [.lst items]=some (true,.lst (yS items)):=Q3 P
 have P':PC (yS items):=(py P).1
 obtain ⟨o,e2⟩:=M5 P' (by rw [YS P]; exact hr)
 have e3:qL [.lst (yS items),.lst (z8 (vt (yS items)))]=some (true,.lst (xF items)):=HS P'.it P'.ln _
 refine ⟨some (false,.lst (yS items)),?_⟩
 unfold YL
 generalize z8 (vt (yS items))=QQ at *
 generalize xF items=SS at *
 generalize yS items=LL at *
 simp! [e1,e2,e3]
theorem Eo {i0:D}:∀ {k:Nat} {a b:List D},tR k a b->PC a->(zA a).length<=60->∀ (x1:D) (x3:Option Sl),ji (.lst a) x1=some (.bl true)->∃ y3,xr je YL (k+2) [some (false,i0),some (false,x1),some (false,.lst a),x3]=some (.nx [some (false,i0),some (false,.lst b),some (false,.lst b),y3]):=fun {k}=>by
 induction k with
 | zero=>
  intro a b S P hr x1 x3 hx
  cases S with
  | fin h=>
   obtain ⟨y3,e⟩:=Jv (i0:=i0) (x1:=some (false,x1)) (x3:=x3) P hr
   rw [h] at e
   refine ⟨y3,?_⟩
   have q:ji (.lst a) (.lst a)=some (.bl false):=QF (Wh P.it)
   rw [jR (by unfold je; simp! [hx]) e,p4 (by unfold je; simp! [q])]
 | succ k ih=>
  intro a b S P hr x1 x3 hx
  cases S with
  | go h S=>
   obtain ⟨y3,e⟩:=Jv (i0:=i0) (x1:=some (false,x1)) (x3:=x3) P hr
   obtain ⟨P',r'⟩:=Y_ P
   have q:ji (.lst (xF a)) (.lst a)=some (.bl true):=by
    haveI:=Classical.propDecidable (xF a=a)
    show xM _ _=_
    rw [MF P'.it P.it,decide_eq_false h]
    rfl
   rw [jR (by unfold je; simp! [hx]) e]
   exact ih S P' (by omega) (.lst a) y3 q
theorem VR:∀ {k:Nat} {a b:List D},tR k a b->PC a->PC b/\(zA b).length<=(zA a).length
 | _,_,_,.fin _,P=>⟨P,Nat.le_refl _⟩
 | _,_,_,.go _ S,P=>by
  obtain ⟨P',r'⟩:=Y_ P
  obtain ⟨P2,r2⟩:=VR S P'
  exact ⟨P2,by omega⟩
theorem En {k:Nat} {a b:List D} (S:tR k a b) (P:PC a) (hr:(zA a).length<=60) (hk:k<=100):qK [.lst a]=some (true,.lst (j8 b)):=by
 obtain ⟨P2,r2⟩:=VR S P
 obtain ⟨pF,_⟩:=Qx P2 (by omega)
 obtain ⟨y3,e⟩:=Eo (i0:=.lst a) S P hr .non none rfl
 have e2:=qo _ e (Nat.le_trans (show k+2<=102 by omega) (by decide))
 rw [Lp]
 unfold Zm
 generalize j8 b=BB at *
 simp! [e2,pF]
end L3
namespace L3
open PySem
noncomputable def Vh:FE:=(e2 zG (z6 7) (eC (.int 1)))
noncomputable def XH:FT:=(tE (e2 zm (e2 zG (z6 7) (eC (.int 0))) (eC (.str "label"))))
noncomputable def JV:FA:=(vI (eC (.int 0)) (eL xL (zB (z6 0) zD)))
noncomputable def qW:FS:=(zE (zS 6 (zX wC (zB (z6 1) (zB (e2 yO (z6 2) (z6 5)) zD))))
    (yP (qA (tE (e2 zm (e2 zG (e2 zG (z6 0) (z6 5)) (eC (.int 0))) (eC (.str "label")))) (qA (tE (e2 (uL fun i j=>decide (i<j)) (e2 yR (z6 6) (eC (.int 4))) (eC (.int 2)))) (tE (e2 zm (z6 3) (yk zD)))))
     (wS 4 wG (e2 zG (z6 0) (z6 5)))
     (yP (tE (e2 zm (e2 yR (z6 6) (eC (.int 4))) (eC (.int 2))))
       (wS 4 wG (yu (zB (eC (.str "jump")) (zB (e2 zG (z6 3) (e2 yR (e2 xm (z6 6) (eC (.int 4))) (eL xL (zB (z6 3) zD)))) zD))))
       (wS 4 wG (yu (zB (eC (.str "copy")) (zB (e2 yR (e2 xm (z6 6) (eC (.int 4))) (eC (.int 8))) (zB (e2 yR (e2 xm (z6 6) (eC (.int 4))) (eC (.int 8))) zD))))))))
noncomputable def ZZ:FS:=
 (zE (zS 3 (xP 1 (xc (z6 0)) (zh 7) XH Vh))
  (zE (vO 4 (yk zD))
  (zE (vA JV (zh 5)
   qW)
  (uU 4))))
noncomputable def pD:List D->Option (Bool×D):=FR 3 7 ZZ
theorem Cp:∀ ds r,pD ds=some r->ds.length=3/\zc 7 ZZ ds=some r:=yK
theorem Lc (x0 x1 x2:D):pD [x0,x1,x2]=zc 7 ZZ [x0,x1,x2]:=rfl
theorem HQ {items:List D} (P:PC items) (h40:items.length<=40) {s:D} (em:∀ i:Nat,i<41->∃ m:Int,0<=m/\wC [s,.int (46+(i:Int))]=some (false,.int m)):∃ items',PC items'/\items'.length=items.length/\pD [.lst items,s,.int 46]=some (true,.lst items'):=by
 have ln:=P.ln
 obtain ⟨ns,e1,hns⟩:∃ ns:List Str,xX (zh 7) XH Vh [some (false,.lst items),some (false,s),some (false,.int 46),none,none,none,none,none] items=some (ns.map D.str)/\∀ t∈ns,yM t∈items:=by
  have e:=qY (g:=zh 7) (c:=XH) (e:=Vh) (σ:=[some (false,.lst items),some (false,s),some (false,.int 46),none,none,none,none,none]) zR (fun d=>match d with | .tup [_,x]=>x | d=>d) (ds:=items) fun d hd=>by
   obtain ⟨w,a,b,_⟩:=qU (P.it d hd)
   refine ⟨_,rfl,?_,fun hl=>?_⟩
   ·unfold XH
    simp! [a,b]
   ·obtain ⟨t,rfl⟩:=YB (P.it d hd) hl
    rfl
  have g:∀ L:List D,(∀ d∈L,d∈items)->∃ ns:List Str,(L.filter zR).map (fun d=>match d with | .tup [_,x]=>x | d=>d)=ns.map D.str/\∀ t∈ns,yM t∈items:=fun L=>by
   induction L with
   | nil=>intro _; exact ⟨[],rfl,fun _ h=>by cases h⟩
   | cons d L ih=>
    intro h
    obtain ⟨ns,h1,h2⟩:=ih fun x hx=>h x (List.mem_cons_of_mem _ hx)
    have hd:=h d (List.mem_cons_self ..)
    cases hl:zR d with
    | false=>
     rw [List.filter_cons_of_neg (by rw [hl]; decide)]
     exact ⟨ns,h1,h2⟩
    | true=>
     obtain ⟨t,rfl⟩:=YB (P.it d hd) hl
     rw [List.filter_cons_of_pos hl,List.map_cons,h1]
     exact ⟨t::ns,rfl,fun u hu=>by
      rcases List.mem_cons.mp hu with rfl | hu
      ·exact hd
      ·exact h2 u hu⟩
  obtain ⟨ns,h1,h2⟩:=g items fun _ h=>h
  rw [h1] at e
  exact ⟨ns,e,h2⟩
 have eqn:zm (.lst (ns.map D.str)) (.lst [])=some (.bl (ns.map D.str).isEmpty):=by cases ns<;>rfl
 have r1:JV [some (false,.lst items),some (false,s),some (false,.int 46),some (false,.lst (ns.map D.str)),some (true,.lst []),none,none]=some (xD items.length):=uT (n:=(items.length:Int)) rfl (by omega)
 have one:∀ (i:Nat) (hi:i<items.length),∃ y,(y=items[i]\/(zR items[i]=false/\((∃ t∈ns,y=.tup [.str "jump",.str t])\/we y)))/\∀ (L:List D) (x6:Option Sl),L.length<=1000->∃ y6,qW [some (false,.lst items),some (false,s),some (false,.int 46),some (false,.lst (ns.map D.str)),some (true,.lst L),some (false,.int (i:Int)),x6]=some (.nx [some (false,.lst items),some (false,s),some (false,.int 46),some (false,.lst (ns.map D.str)),some (true,.lst (L++[y])),some (false,.int (i:Int)),y6]):=fun i hi=>by
  obtain ⟨m,m0,ef⟩:=em i (by omega)
  have ix:zG (.lst items) (.int (i:Int))=some items[i]:=vF (by omega) (by rw [Int.toNat_natCast]; exact List.getElem?_eq_getElem hi)
  obtain ⟨w,a,b0,_⟩:=qU (P.it _ (List.getElem_mem hi))
  have old:∀ (b1 b2 b3:Bool),zm (.str w) (.str "label")=some (.bl b1)->decide (m % 4<2)=b2->zm (.lst (ns.map D.str)) (.lst [])=some (.bl b3)->(b1||(b2||b3))=true->∃ y,(y=items[i]\/(zR items[i]=false/\((∃ t∈ns,y=.tup [.str "jump",.str t])\/we y)))/\∀ (L:List D) (x6:Option Sl),L.length<=1000->∃ y6,qW [some (false,.lst items),some (false,s),some (false,.int 46),some (false,.lst (ns.map D.str)),some (true,.lst L),some (false,.int (i:Int)),x6]=some (.nx [some (false,.lst items),some (false,s),some (false,.int 46),some (false,.lst (ns.map D.str)),some (true,.lst (L++[y])),some (false,.int (i:Int)),y6]):=fun b1 b2 b3 k1 k2 k3 hb=>by
   refine ⟨items[i],.inl rfl,fun L x6 hL=>⟨some (false,.int m),?_⟩⟩
   have hap:=uq (L:=L) (r:=items[i]) hL
   unfold qW
   generalize items[i]=d at *
   generalize ns.map D.str=NN at *
   cases b1 with
   | true=>simp! [add_int,ef,ix,a,k1,hap]
   | false=>
    cases b2 with
    | true=>simp! [add_int,ef,ix,a,k1,k2,hap]
    | false=>
     cases b3 with
     | true=>simp! [add_int,ef,ix,a,k1,k2,k3,hap]
     | false=>cases hb
  cases hl:zR items[i] with
  | true=>
   rw [hl] at b0
   exact hl ▸ old _ _ _ b0 rfl eqn rfl
  | false=>
   rw [hl] at b0
   by_cases h2:m % 4<2
   ·exact hl ▸ old _ _ _ b0 (decide_eq_true h2) eqn rfl
   ·have k2:decide (m % 4<2)=false:=decide_eq_false h2
    by_cases hn:ns=[]
    ·subst hn
     exact hl ▸ old _ _ _ b0 k2 eqn rfl
    ·have hp:0<ns.length:=List.length_pos_iff.mpr hn
     have ie:(ns.map D.str).isEmpty=false:=by
      cases ns with
      | nil=>exact absurd rfl hn
      | cons _ _=>rfl
     rw [ie] at eqn
     by_cases h4:m % 4=2
     ·have k4:=WE h4
      have a0:=Int.emod_nonneg (m / 4) (show (ns.length:Int)≠0 by omega)
      have a1:=Int.emod_lt_of_pos (m / 4) (show 0<(ns.length:Int) by omega)
      have hv:(m / 4 % (ns.length:Int)).toNat<ns.length:=by omega
      have it:zG (.lst (ns.map D.str)) (.int (m / 4 % (ns.length:Int)))=some (.str ns[(m / 4 % (ns.length:Int)).toNat]):=vF a0 (by rw [List.getElem?_map,List.getElem?_eq_getElem hv]; rfl)
      have mt:=List.getElem_mem hv
      generalize ns[(m / 4 % (ns.length:Int)).toNat]=t at it mt
      have gN:decide (0<(ns.length:Int))=true:=decide_eq_true (by omega)
      refine ⟨.tup [.str "jump",.str t],.inr ⟨rfl,.inl ⟨t,mt,rfl⟩⟩,fun L x6 hL=>⟨some (false,.int m),?_⟩⟩
      have hap:=uq (L:=L) (r:=.tup [.str "jump",.str t]) hL
      have ll:(ns.map D.str).length=ns.length:=List.length_map _
      unfold qW
      generalize items[i]=d at *
      generalize ns.map D.str=NN at *
      simp! [add_int,ef,ix,a,b0,k2,eqn,k4,ll,gN,it,hap]
     ·have k4:=WF h4
      refine ⟨.tup [.str "copy",.int (m / 4 % 8),.int (m / 4 % 8)],.inr ⟨rfl,.inr (.two (.inl rfl) (by omega) (by omega) (by omega) (by omega))⟩,fun L x6 hL=>⟨some (false,.int m),?_⟩⟩
      have hap:=uq (L:=L) (r:=.tup [.str "copy",.int (m / 4 % 8),.int (m / 4 % 8)]) hL
      unfold qW
      generalize items[i]=d at *
      generalize ns.map D.str=NN at *
      simp! [add_int,ef,ix,a,b0,k2,eqn,k4,hap]
 obtain ⟨σ',e2,L,x5,x6,l1,l2,rfl⟩:=t5 (g:=zh 5) (b:=qW) (fun i σ=>∃ L x5 x6,L.length=i/\(∀ j y,j<i->L[j]?=some y->∃ d,items[j]?=some d/\(y=d\/(zR d=false/\((∃ t∈ns,y=.tup [.str "jump",.str t])\/we y))))/\σ=[some (false,.lst items),some (false,s),some (false,.int 46),some (false,.lst (ns.map D.str)),some (true,.lst L),x5,x6]) (ds:=xD items.length)
  (σ:=[some (false,.lst items),some (false,s),some (false,.int 46),some (false,.lst (ns.map D.str)),some (true,.lst []),none,none]) 0 ⟨[],none,none,rfl,(fun j _ h=>absurd h (Nat.not_lt_zero _)),rfl⟩ (by
  rintro i v σ hv ⟨L,x5,x6,l1,l2,rfl⟩
  obtain ⟨hi,rfl⟩:=jO hv
  rw [Nat.zero_add] at *
  obtain ⟨y,hy,ey⟩:=one i hi
  obtain ⟨y6,ey⟩:=ey L x6 (by omega)
  refine ⟨_,_,rfl,.inl ey,L++[y],_,_,by rw [List.length_append,l1]; rfl,fun j z hj hz=>?_,rfl⟩
  by_cases c:j<i
  ·rw [List.getElem?_append_left (by omega)] at hz
   exact l2 j z c hz
  ·have:j=i:=by omega
   subst this
   rw [List.getElem?_append_right (by omega),l1,Nat.sub_self] at hz
   cases hz
   exact ⟨items[j],List.getElem?_eq_getElem hi,hy⟩)
 rw [tM,Nat.zero_add] at l1 l2
 have ea:ub (fun d y=>y=d\/(zR d=false/\((∃ t∈ns,y=.tup [.str "jump",.str t])\/we y))) items L:=Uk l1.symm fun i x y hx hy=>by
  obtain ⟨d,hd,h⟩:=l2 i y (by rw [<- l1]; exact (List.getElem?_eq_some_iff.mp hy).1) hy
  rw [hx] at hd
  cases hd
  exact h
 have plL:∀ y,we y->zR y=false:=fun y h=>(Yr (m:=0) (.inl h)).choose_spec.2.2.1
 have kl:∀ {xs ys:List D},ub (fun d y=>y=d\/(zR d=false/\((∃ t∈ns,y=.tup [.str "jump",.str t])\/we y))) xs ys->ys.filter zR=xs.filter zR/\∀ t s,ys.foldl (xY t) s=xs.foldl (xY t) s:=fun {xs ys} h=>by
  induction h with
  | nil=>exact ⟨rfl,fun _ _=>rfl⟩
  | cons r _ ih=>
   rename_i x y _ _ _
   rcases r with rfl | ⟨hl,r⟩
   ·exact ⟨by rw [List.filter_cons,List.filter_cons,ih.1],fun t s=>by rw [List.foldl_cons,List.foldl_cons,ih.2]⟩
   ·have hy:zR y=false:=by
     rcases r with ⟨t,_,rfl⟩ | r
     ·rfl
     ·exact plL y r
    refine ⟨by rw [List.filter_cons_of_neg (by rw [hy]; decide),List.filter_cons_of_neg (by rw [hl]; decide),ih.1],fun u s=>?_⟩
    rw [List.foldl_cons,List.foldl_cons,ih.2]
    congr 1
    unfold xY
    rw [hl,hy]
 obtain ⟨k1,k2⟩:=kl ea
 have k2:∀ t,yV t L=yV t items:=fun t=>k2 t _
 refine ⟨L,⟨fun d hd=>?_,by rw [k1]; exact P.nd,fun d hd hj=>?_,by omega⟩,l1,?_⟩
 ·obtain ⟨x,hx,h⟩:=jg ea d hd
  rcases h with rfl | ⟨_,⟨t,_,rfl⟩ | h⟩
  ·exact P.it _ hx
  ·exact .jump t
  ·exact .plain h
 ·obtain ⟨x,hx,h⟩:=jg ea d hd
  rcases h with rfl | ⟨_,⟨t,ht,rfl⟩ | h⟩
  ·obtain ⟨t,p,q1,q2⟩:=P.tg _ hx hj
   exact ⟨t,p,q1,by rw [k2]; exact q2⟩
  ·obtain ⟨p,hp⟩:=Option.isSome_iff_exists.mp (Wv (L:=items) (0,none) (.inl (hns t ht)))
   exact ⟨t,p,rfl,by rw [k2]; exact hp⟩
  ·rw [(gF h).choose_spec.2.2.2.1] at hj
   cases hj
 ·rw [Lc]
  unfold ZZ
  generalize ns.map D.str=NN at *
  simp! [e1,r1,e2]
end L3
namespace L3
open PySem
noncomputable def V3:FA:=(vI (eC (.int 0)) (e2 yO (e2 pW (eC (.int 2)) (eL xL (zB (z6 1) zD))) (eC (.int 2))))
noncomputable def uz:FS:=(zE (zS 4 (zX pB (zB (z6 2) zD)))
    (zE (yP (tE (e2 zm (z6 4) (z6 2)))
     (ya (e2 zm (vi qK (zB (z6 1) zD)) (vi ui (zB (z6 2) zD))))
     yW)
    (zS 2 (z6 4))))
noncomputable def U2:FS:=
 (zE (zS 1 (vi qH (zB (z6 0) (zB (eC (.int 1)) (zB (eC (.int 9)) zD)))))
  (zE (yP (tE (e2 zm (e2 yR (zX wC (zB (z6 0) (zB (eC (.int 28)) zD))) (eC (.int 3))) (eC (.int 1))))
   (zS 1 (zX pD (zB (z6 1) (zB (z6 0) (zB (eC (.int 46)) zD)))))
   yW)
  (zE (zS 2 (eL Y1 (zB (z6 1) zD)))
  (zE (vA V3 (zh 3)
   uz)
  (ya (eC (.bl false)))))))
theorem Mh {s i0 p0:D} {b:List D} (hs:qK [i0]=some (true,p0)) (hp:ui [.lst b]=some (true,p0)) (hq:zm p0 p0=some (.bl true)) :
  ∀ {k:Nat} {a:List D},tR k a b->PC a->(zA a).length<=60->∀ (ds:List D) (x3 x4:Option Sl),k<ds.length->wu (zh 3) uz ds [some (false,s),some (false,i0),some (false,.lst a),x3,x4]=some (.rt false (.bl true)):=fun {k}=>by
 induction k with
 | zero=>
  intro a S P hr ds x3 x4 hk
  cases S with
  | fin h=>
   cases ds with
   | nil=>cases hk
   | cons d ds=>
    obtain ⟨o,e⟩:=Jd P hr
    rw [h] at e
    have q:=Ut (Wh P.it)
    show (uz [some (false,s),some (false,i0),some (false,.lst b),some (false,d),x4]).bind _=_
    have z:uz [some (false,s),some (false,i0),some (false,.lst b),some (false,d),x4]=some (.rt false (.bl true)):=by
     unfold uz
     simp! [e,q,hs,hp,hq]
    rw [z]
    rfl
 | succ k ih=>
  intro a S P hr ds x3 x4 hk
  cases S with
  | go h S=>
   cases ds with
   | nil=>cases hk
   | cons d ds=>
    obtain ⟨o,e⟩:=Jd P hr
    obtain ⟨P',r'⟩:=Y_ P
    have q:zm (.lst (xF a)) (.lst a)=some (.bl false):=by
     haveI:=Classical.propDecidable (xF a=a)
     rw [ME P'.it P.it,decide_eq_false h]
    show (uz [some (false,s),some (false,i0),some (false,.lst a),some (false,d),x4]).bind _=_
    have z:uz [some (false,s),some (false,i0),some (false,.lst a),some (false,d),x4]=some (.nx [some (false,s),some (false,i0),some (false,.lst (xF a)),some (false,d),some (false,.lst (xF a))]):=by
     unfold uz
     generalize xF a=SS at *
     simp! [e,q]
    rw [z]
    exact ih S P' (by omega) ds _ _ (by simpa using hk)
theorem Ce:∀ ns:List Int,ns.length<=63->(∀ m∈ns,xH m<=1048576)->∃ o,zc 5 U2 [.lst (ns.map D.int)]=some (o,.bl true):=fun ns hl hb=>by
 refine ⟨false,?_⟩
 obtain ⟨N,R,items0,_,_,_,_,P0,_,l0,e0⟩:=Fa hl hb (first:=1) (most:=9) (by decide) (by decide) (by decide) (by decide)
 obtain ⟨a,a0,a1,ea⟩:=j0 hl hb (k:=28) (by decide) (by decide)
 have em:∀ i:Nat,i<41->∃ m:Int,0<=m/\wC [.lst (ns.map D.int),.int (46+(i:Int))]=some (false,.int m):=fun i hi=>by
  obtain ⟨m,h0,_,e⟩:=j0 hl hb (k:=46+(i:Int)) (by omega) (by omega)
  exact ⟨m,h0,e⟩
 generalize D.lst (ns.map D.int)=s at e0 ea em ⊢
 have go:∀ items:List D,PC items->items.length<=40->zE (zS 2 (eL Y1 (zB (z6 1) zD)))
  (zE (vA V3 (zh 3)
   uz)
  (ya (eC (.bl false)))) [some (false,s),some (false,.lst items),none,none,none]=some (.rt false (.bl true)):=fun items P h40=>by
  have rl:(zA items).length<=items.length:=List.length_filter_le _ _
  obtain ⟨k,b,hk,S⟩:=IC (zA items).length P (Nat.le_refl _)
  have sF:=En S P (by omega) (by omega)
  obtain ⟨P2,r2⟩:=VR S P
  obtain ⟨pF,hI⟩:=Qx P2 (by omega)
  have lp:=Mh (s:=s) sF pF (Ut (Wh hI)) S P (by omega) (xD (2*items.length+2)) none none (by rw [tM]; omega)
  have r1:V3 [some (false,s),some (false,.lst items),some (false,.lst items),none,none]=some (xD (2*items.length+2)):=by
   have:=uT (f:=e2 yO (e2 pW (eC (.int 2)) (eL xL (zB (z6 1) zD))) (eC (.int 2))) (τ:=[some (false,s),some (false,.lst items),some (false,.lst items),none,none]) (n:=((2*items.length+2:Nat):Int)) (by
    show some (D.int (2*(items.length:Int)+2))=_
    congr 2) (by omega)
   rw [Int.toNat_natCast] at this
   exact this
  have fl:Y1 [.lst items]=some (.lst items):=rfl
  generalize xD (2*items.length+2)=UU at *
  simp! [fl,r1,lp]
 unfold U2
 show ((zE _ _ _).bind _)=_
 rw [xU (σ':=[some (false,s),some (false,.lst items0),none,none,none]) (by simp! [e0])]
 by_cases h:a % 3=1
 ·have k1:=WE h
  obtain ⟨items,P,l1,ej⟩:=HQ P0 l0 em
  rw [xU (σ':=[some (false,s),some (false,.lst items),none,none,none]) (by simp! [ea,k1,ej]),go items P (by omega)]
  rfl
 ·have k1:=WF h
  rw [xU (σ':=[some (false,s),some (false,.lst items0),none,none,none]) (by simp! [ea,k1]),go items0 P0 l0]
  rfl
end L3
namespace My
open PySem L2 L3
set_option maxHeartbeats 4000000
noncomputable def top (i:Nat):Stmt:=PySem.Challenge.pw_markrun_k60_short_by_rounds.main.body.getD i (.Pass ⟨0,0,0,0⟩)
section
variable {P:Program} {w:World} {K:PySem.W.Frag} {mg:Str->Option Value} {base:Heap} {A_JUMPS:Addr} {A_MARKS:Addr} {A_LOOK_AT_D:Addr} {A_LOOK_AT_S:Addr} {A_LOOK_AT_CARRY:Addr} {A_PUT_D:Addr} {A_PUT_NOUGHT_AND_SIGN:Addr} {A_PUT_CARRY:Addr} {A_IDLE_KINDS:Addr}
noncomputable abbrev gS:Stmt:=top 4
theorem EL:y9 ["item"] ["item"] (zo gS):=⟨rfl,rfl,rfl,by decide +kernel,rfl,by decide +kernel,by decide +kernel⟩
theorem BP (d:zK K mg "is_label" gS ["item"]):zN P w K mg base "is_label" ["item"] 1 (zO K uD):=
 zK.okS d EL (by decide) CZ fun f cdv A outer s H E hr=>(zW (yh (ve (yx (yL hr)) yw (zF (za (zY (zQ hr)) zZ (z7 0) zH)) (zF zg) (y8 _))))
noncomputable abbrev gR:Stmt:=top 5
theorem EK:y9 ["item"] ["item"] (zo gR):=⟨rfl,rfl,rfl,by decide +kernel,rfl,by decide +kernel,by decide +kernel⟩
theorem BO (d:zK K mg "is_jump" gR ["item"]) (g_JUMPS:yt mg "JUMPS" (.ref A_JUMPS)) (q_JUMPS:∀ H,zV K H Y7 (.ref A_JUMPS)):zN P w K mg base "is_jump" ["item"] 1 (zO K uC):=
 zK.okS d EK (by decide) CY fun f cdv A outer s H E hr=>(zW (yh (ve (v0 (zQ hr)) wz (zF (za (zY (zQ hr)) zZ (z7 0) zH)) (zF (vP g_JUMPS q_JUMPS rfl)) (by with_unfolding_all rfl))))
noncomputable abbrev kJ:Stmt:=top 6
theorem ET:y9 ["items"] ["items"] (zo kJ):=⟨rfl,rfl,rfl,by decide +kernel,rfl,by decide +kernel,by decide +kernel⟩
theorem By (d:zK K mg "rows_of" kJ ["items"]) (h_is_label:zN P w K mg base "is_label" ["item"] 1 (zO K uD)):zN P w K mg base "rows_of" ["items"] 2 (zO K x9):=
 zK.okS d ET (by decide) E7 fun f cdv A outer s H E hr=>(zW (wB (wT rfl (xl (own:=["item"]) rfl) (w8 (z7 0)) (wO (fun C s H fp pn=>(yJ (i:=1) (show (xB ["items"] ["item"]).Nodup by decide +kernel) rfl (Or.inl rfl))) rfl) (fun C s H fp pn=>(tK (Yz (vy (zp h_is_label hr rfl (zC (z7 1) zI)))))) (fun C s H fp pn=>(z7 1)))))
noncomputable abbrev gT:Stmt:=top 7
theorem kT:y9 ["items", "places", "place", "item"] ["items"] (zo gT):=⟨rfl,rfl,rfl,by decide +kernel,rfl,by decide +kernel,by decide +kernel⟩
theorem BQ (d:zK K mg "label_places" gT ["items"]) (h_is_label:zN P w K mg base "is_label" ["item"] 1 (zO K uD)):zN P w K mg base "label_places" ["items"] 2 (zO K ud):=
 zK.okS d kT (by decide) Ca fun f cdv A outer s H E hr=>(zP (vx (i:=1) kT.nd rfl (Or.inl rfl) VN)
  (zP (zj (i:=2) kT.nd rfl (Or.inl rfl) zH)
  (zP (vw PassesOwn.never rfl (w8 (z7 0)) (uW (yJ (i:=3) kT.nd rfl (Or.inl rfl)) rfl)
   (zW (yY (vy (zp h_is_label hr rfl (zC (z7 3) zI)))
     (zW (VP (zQ hr) (qv 1) (za (zY (zQ hr)) zZ (z7 3) zH) (z7 2)))
     (zW (Jz (i:=2) TW QY kT.nd rfl (Or.inl rfl) zH)))))
  (zW (qu 1)))))
noncomputable abbrev kL:Stmt:=top 8
theorem Jn:y9 ["items", "places"] ["items"] (zo kL):=⟨rfl,rfl,rfl,by decide +kernel,rfl,by decide +kernel,by decide +kernel⟩
theorem B_ (d:zK K mg "targets_of" kL ["items"]) (h_label_places:zN P w K mg base "label_places" ["items"] 2 (zO K ud)) (h_rows_of:zN P w K mg base "rows_of" ["items"] 2 (zO K x9)) (h_is_jump:zN P w K mg base "is_jump" ["item"] 1 (zO K uC)):zN P w K mg base "targets_of" ["items"] 3 (zO K vg):=
 zK.okS d Jn (by decide) E9 fun f cdv A outer s H E hr=>(zP (zj (i:=1) Jn.nd rfl (Or.inr rfl) (zp h_label_places hr rfl (zC (z7 0) zI)))
  (zW (wB (wT rfl (xl (own:=["row"]) rfl) (w8 (zp h_rows_of hr rfl (zC (z7 0) zI))) (wO (fun C s H fp pn=>(yJ (i:=2) (show (xB ["items", "places"] ["row"]).Nodup by decide +kernel) rfl (Or.inl rfl))) rfl) (fun C s H fp pn=>vz) (fun C s H fp pn=>(Yx (vy (zp h_is_jump hr rfl (zC (z7 2) zI))) (za (zY (zQ hr)) zZ (z7 1) (za (zY (zQ hr)) zZ (z7 2) (tH qC qB zH))) kq))))))
noncomputable abbrev gx:Stmt:=top 20
theorem EQ:y9 ["mark"] ["mark"] (zo gx):=⟨rfl,rfl,rfl,by decide +kernel,rfl,by decide +kernel,by decide +kernel⟩
theorem Bj (d:zK K mg "mark_bit" gx ["mark"]) (g_MARK_LOW:yt mg "MARK_LOW" (.int 8)) (q_MARK_LOW:∀ H,zV K H (.int 8) (.int 8)) (g_MARKS:yt mg "MARKS" (.ref A_MARKS)) (q_MARKS:∀ H,zV K H TB (.ref A_MARKS)) (k_MARKS:uI K A_MARKS):zN P w K mg base "mark_bit" ["mark"] 1 (zO K ue):=
 zK.okS d EQ (by decide) Ct fun f cdv A outer s H E hr=>(zW (yh (zU Ye Yc zH (zU yo ym (vP g_MARK_LOW q_MARK_LOW rfl) (EY g_MARKS q_MARKS k_MARKS rfl (z7 0))))))
noncomputable abbrev gy:Stmt:=top 21
theorem ER:y9 ["row"] ["row"] (zo gy):=⟨rfl,rfl,rfl,by decide +kernel,rfl,by decide +kernel,by decide +kernel⟩
theorem Bk (d:zK K mg "moves_by_nought" gy ["row"]):zN P w K mg base "moves_by_nought" ["row"] 1 (zO K Z8):=
 zK.okS d ER (by decide) Cu fun f cdv A outer s H E hr=>(zW (yh (Jq (Eb (ve (yx (yL hr)) yw (zF (za (zY (zQ hr)) zZ (z7 0) zH)) (zF zg) (y8 _)) (VJ (ve (yx (yL hr)) yw (zF (za (zY (zQ hr)) zZ (z7 0) zH)) (zF zg) (y8 _)))) (VJ (ve (yx (yL hr)) yw (zF (za (zY (zQ hr)) zZ (z7 0) zH)) (zF zH) (y8 _))))))
noncomputable abbrev kN:Stmt:=top 18
theorem kf:y9 ["row", "need"] ["row"] (zo kN):=⟨rfl,rfl,rfl,by decide +kernel,rfl,by decide +kernel,by decide +kernel⟩
theorem DB (d:zK K mg "used" kN ["row"]) (g_ALL_NEEDED:yt mg "ALL_NEEDED" (.int 2047)) (q_ALL_NEEDED:∀ H,zV K H (.int 2047) (.int 2047)) (g_LOOK_AT_D:yt mg "LOOK_AT_D" (.ref A_LOOK_AT_D)) (q_LOOK_AT_D:∀ H,zV K H W5 (.ref A_LOOK_AT_D)) (g_LOOK_AT_S:yt mg "LOOK_AT_S" (.ref A_LOOK_AT_S)) (q_LOOK_AT_S:∀ H,zV K H W6 (.ref A_LOOK_AT_S)) (g_LOOK_AT_CARRY:yt mg "LOOK_AT_CARRY" (.ref A_LOOK_AT_CARRY)) (q_LOOK_AT_CARRY:∀ H,zV K H W4 (.ref A_LOOK_AT_CARRY)) (h_mark_bit:zN P w K mg base "mark_bit" ["mark"] 1 (zO K ue)):zN P w K mg base "used" ["row"] 2 (zO K vh):=
 zK.okS d kf (by decide) EB fun f cdv A outer s H E hr=>(zP (yY (zr (yx (yL hr)) yw (zF (za (zY (zQ hr)) zZ (z7 0) zH)) (zF zg) (y8 _))
   (zW (yh (vP g_ALL_NEEDED q_ALL_NEEDED rfl)))
   yi)
  (zP (yY (u7 (Z2 (zr (yx (yL hr)) yw (zF (za (zY (zQ hr)) zZ (z7 0) zH)) (zF zg) (y8 _)) (X0 (zr (yx (yL hr)) yw (zF (za (zY (zQ hr)) zZ (z7 0) zH)) (zF zg) (y8 _)))))
   (zW (yh (zp h_mark_bit hr rfl (zC (za (zY (zQ hr)) zZ (z7 0) zH) zI))))
   yi)
  (zP (zj (i:=1) kf.nd rfl (Or.inl rfl) zH)
  (zP (yY (zr (v0 (zQ hr)) wz (zF (za (zY (zQ hr)) zZ (z7 0) zH)) (zF (vP g_LOOK_AT_D q_LOOK_AT_D rfl)) (by with_unfolding_all rfl))
   (zW (zj (i:=1) kf.nd rfl (Or.inl rfl) (zU uS vN (z7 1) (zU Ye Yc zH (za (zY (zQ hr)) zZ (z7 0) zH)))))
   yi)
  (zP (yY (zr (v0 (zQ hr)) wz (zF (za (zY (zQ hr)) zZ (z7 0) zH)) (zF (vP g_LOOK_AT_S q_LOOK_AT_S rfl)) (by with_unfolding_all rfl))
   (zW (zj (i:=1) kf.nd rfl (Or.inl rfl) (zU uS vN (z7 1) (zU Ye Yc zH (za (zY (zQ hr)) zZ (z7 0) zH)))))
   yi)
  (zP (yY (zr (v0 (zQ hr)) wz (zF (za (zY (zQ hr)) zZ (z7 0) zH)) (zF (vP g_LOOK_AT_CARRY q_LOOK_AT_CARRY rfl)) (by with_unfolding_all rfl))
   (zW (zj (i:=1) kf.nd rfl (Or.inl rfl) (zU uS vN (z7 1) (zp h_mark_bit hr rfl (zC zg zI)))))
   yi)
  (zW (yh (z7 1)))))))))
noncomputable abbrev kG:Stmt:=top 19
theorem kY:y9 ["row", "need"] ["row"] (zo kG):=⟨rfl,rfl,rfl,by decide +kernel,rfl,by decide +kernel,by decide +kernel⟩
theorem Bw (d:zK K mg "put" kG ["row"]) (g_PUT_D:yt mg "PUT_D" (.ref A_PUT_D)) (q_PUT_D:∀ H,zV K H W8 (.ref A_PUT_D)) (g_PUT_NOUGHT_AND_SIGN:yt mg "PUT_NOUGHT_AND_SIGN" (.ref A_PUT_NOUGHT_AND_SIGN)) (q_PUT_NOUGHT_AND_SIGN:∀ H,zV K H W9 (.ref A_PUT_NOUGHT_AND_SIGN)) (g_PUT_CARRY:yt mg "PUT_CARRY" (.ref A_PUT_CARRY)) (q_PUT_CARRY:∀ H,zV K H W7 (.ref A_PUT_CARRY)) (h_mark_bit:zN P w K mg base "mark_bit" ["mark"] 1 (zO K ue)) (h_moves_by_nought:zN P w K mg base "moves_by_nought" ["row"] 1 (zO K Z8)):zN P w K mg base "put" ["row"] 2 (zO K wK):=
 zK.okS d kY (by decide) E5 fun f cdv A outer s H E hr=>(zP (zj (i:=1) kY.nd rfl (Or.inl rfl) zH)
  (zP (yY (zr (v0 (zQ hr)) wz (zF (za (zY (zQ hr)) zZ (z7 0) zH)) (zF (vP g_PUT_D q_PUT_D rfl)) (by with_unfolding_all rfl))
   (zW (zj (i:=1) kY.nd rfl (Or.inl rfl) (zU uS vN (z7 1) (zU Ye Yc zH (za (zY (zQ hr)) zZ (z7 0) zH)))))
   yi)
  (zP (yY (zr (v0 (zQ hr)) wz (zF (za (zY (zQ hr)) zZ (z7 0) zH)) (zF (vP g_PUT_NOUGHT_AND_SIGN q_PUT_NOUGHT_AND_SIGN rfl)) (by with_unfolding_all rfl))
   (zW (zj (i:=1) kY.nd rfl (Or.inl rfl) (zU uS vN (zU uS vN (z7 1) (zp h_mark_bit hr rfl (zC zg zI))) (zp h_mark_bit hr rfl (zC zg zI)))))
   yi)
  (zP (yY (u7 (qx (zr (v0 (zQ hr)) wz (zF (za (zY (zQ hr)) zZ (z7 0) zH)) (zF (vP g_PUT_CARRY q_PUT_CARRY rfl)) (by with_unfolding_all rfl)) (qy (Yz (vy (zp h_moves_by_nought hr rfl (zC (z7 0) zI)))))))
   (zW (zj (i:=1) kY.nd rfl (Or.inl rfl) (zU uS vN (z7 1) (zp h_mark_bit hr rfl (zC zg zI)))))
   yi)
  (zW (yh (z7 1)))))))
noncomputable abbrev kO:Stmt:=top 24
theorem EV:y9 ["row", "number", "target"] ["row", "number", "target"] (zo kO):=⟨rfl,rfl,rfl,by decide +kernel,rfl,by decide +kernel,by decide +kernel⟩
theorem DC (d:zK K mg "ways_from" kO ["row", "number", "target"]) (z_sorted:mg "sorted" = none) (z_set:mg "set" = none):zN P w K mg base "ways_from" ["row", "number", "target"] 1 (zO K pJ):=
 zK.okS d EV (by decide) EC fun f cdv A outer s H E hr=>(zP (yY (zr (yx (yL hr)) yw (zF (za (zY (zQ hr)) zZ (z7 0) zH)) (zF zg) (y8 _))
   (zW (wB (xC zI (z_ y0 (by decide)))))
   yi)
  (zP (yY (zr (yx (yL hr)) yw (zF (za (zY (zQ hr)) zZ (z7 0) zH)) (zF zg) (y8 _))
   (zW (wB (xC (zC (z7 2) zI) (z_ (zT y0) (by decide)))))
   yi)
  (zP (yY (zr Qh QZ (zF (z7 2)) (zF kq) (y8 _))
   (zW (wB (xC (zC (zU yo ym (z7 1) zH) zI) (z_ (zT y0) (by decide)))))
   yi)
  (zW (wB (Jt rfl rfl z_sorted rfl z_set (zC (yX (xC (zC (zU yo ym (z7 1) zH) (zC (z7 2) zI)) (z_ (zT (zT y0)) (by decide)))) zI)))))))
noncomputable abbrev kP:Stmt:=top 23
theorem Jo:y9 ["items", "rows"] ["items"] (zo kP):=⟨rfl,rfl,rfl,by decide +kernel,rfl,by decide +kernel,by decide +kernel⟩
theorem DE (d:zK K mg "ways_of" kP ["items"]) (z_enumerate:mg "enumerate" = none) (h_rows_of:zN P w K mg base "rows_of" ["items"] 2 (zO K x9)) (h_targets_of:zN P w K mg base "targets_of" ["items"] 3 (zO K vg)) (h_ways_from:zN P w K mg base "ways_from" ["row", "number", "target"] 1 (zO K pJ)):zN P w K mg base "ways_of" ["items"] 4 (zO K vS):=
 zK.okS d Jo (by decide) ED fun f cdv A outer s H E hr=>(zP (zj (i:=1) Jo.nd rfl (Or.inr rfl) (zp h_rows_of hr rfl (zC (z7 0) zI)))
  (zW (wB (wT rfl (xl (own:=["number", "target"]) rfl) (jL rfl z_enumerate (zp h_targets_of hr rfl (zC (z7 0) zI))) (Zs (fun C s H fp pn=>(jA (n:=2) rfl (vc (yJ (i:=2) (show (xB ["items", "rows"] ["number", "target"]).Nodup by decide +kernel) rfl (Or.inl rfl)) (vc (yJ (i:=3) (show (xB ["items", "rows"] ["number", "target"]).Nodup by decide +kernel) rfl (Or.inl rfl)) jB)))) rfl rfl) (fun C s H fp pn=>vz) (fun C s H fp pn=>(zp h_ways_from hr rfl (zC (za (zY (zQ hr)) zZ (z7 1) (z7 2)) (zC (z7 2) (zC (z7 3) zI)))))))))
noncomputable abbrev kC:Stmt:=top 22
theorem ES:y9 ["items", "number"] ["items", "number"] (zo kC):=⟨rfl,rfl,rfl,by decide +kernel,rfl,by decide +kernel,by decide +kernel⟩
theorem Br (d:zK K mg "next_rows" kC ["items", "number"]) (h_ways_of:zN P w K mg base "ways_of" ["items"] 4 (zO K vS)):zN P w K mg base "next_rows" ["items", "number"] 5 (zO K pI):=
 zK.okS d ES (by decide) C_ fun f cdv A outer s H E hr=>(zW (yh (za (zY (zQ hr)) zZ (zp h_ways_of hr rfl (zC (z7 0) zI)) (z7 1))))
noncomputable abbrev kA:Stmt:=top 28
theorem Yv:y9 ["told", "places", "need", "place"] ["told", "places"] (zo kA):=⟨rfl,rfl,rfl,by decide +kernel,rfl,by decide +kernel,by decide +kernel⟩
theorem Bp (d:zK K mg "needed_at" kA ["told", "places"]):zN P w K mg base "needed_at" ["told", "places"] 1 (zO K uf):=
 zK.okS d Yv (by decide) Cy fun f cdv A outer s H E hr=>(zP (zj (i:=2) Yv.nd rfl (Or.inl rfl) zH)
  (zP (vw PassesOwn.never rfl (w8 (z7 1)) (uW (yJ (i:=3) Yv.nd rfl (Or.inl rfl)) rfl)
   (zW (zj (i:=2) Yv.nd rfl (Or.inl rfl) (zU uS vN (z7 2) (za (zY (zQ hr)) zZ (z7 0) (z7 3))))))
  (zW (yh (z7 2)))))
noncomputable abbrev gO:Stmt:=top 29
theorem kS:y9 ["ways", "comers", "place", "number", "places"] ["ways"] (zo gO):=⟨rfl,rfl,rfl,by decide +kernel,rfl,by decide +kernel,by decide +kernel⟩
theorem BL (d:zK K mg "comers_of" gO ["ways"]) (z_range:mg "range" = none) (z_len:mg "len" = none) (z_enumerate:mg "enumerate" = none):zN P w K mg base "comers_of" ["ways"] 1 (zO K qE):=
 zK.okS d kS (by decide) CU fun f cdv A outer s H E hr=>(IB (i:=1) rfl (GA (i:=1) rfl kS.nd rfl rfl (xl (own:=["place"]) rfl) rfl (uX rfl z_range (zU yo ym (w6 xy w4 rfl z_len xw (xS (zF (z7 0)) xZ)) zH)) (wO (fun C s H fp pn=>(yJ (i:=5) (show (xB ["ways", "comers", "place", "number", "places"] ["place"]).Nodup by decide +kernel) rfl (Or.inl rfl))) rfl) (fun _ _=>rfl))
  (qd (We PassesOwn.never rfl (jL rfl z_enumerate (z7 0)) (Em (jA (n:=2) rfl (vc (yJ (i:=3) kS.nd rfl (Or.inl rfl)) (vc (yJ (i:=4) kS.nd rfl (Or.inl rfl)) jB))) rfl rfl)
    (uQ (We PassesOwn.never rfl (w8 (z7 4)) (Ju (yJ (i:=2) kS.nd rfl (Or.inl rfl)) rfl)
      (uQ (g5 (zQ hr) (qv 1) (z7 2) (z7 3))))))
   (uQ QR)))
noncomputable abbrev kH:Stmt:=top 25
theorem kZ:y9 ["items", "ways", "found", "due", "number"] ["items"] (zo kH):=⟨rfl,rfl,rfl,by decide +kernel,rfl,by decide +kernel,by decide +kernel⟩
theorem Bx (d:zK K mg "reached" kH ["items"]) (z_len:mg "len" = none) (z_sorted:mg "sorted" = none) (h_ways_of:zN P w K mg base "ways_of" ["items"] 4 (zO K vS)):zN P w K mg base "reached" ["items"] 5 (zO K vR):=
 zK.okS d kZ (by decide) E6 fun f cdv A outer s H E hr=>(zP (zj (i:=1) kZ.nd rfl (Or.inl rfl) (zp h_ways_of hr rfl (zC (z7 0) zI)))
  (zP (vx (i:=2) kZ.nd rfl (Or.inl rfl) VN)
  (zP (vx (i:=3) kZ.nd rfl (Or.inl rfl) (xC (zC zH zI) (z_ (zT y0) (by decide))))
  (zP (Z1 PassesOwn.never (zr (vq (yL hr)) vp (kR 3) (zF (yX (xC zI (z_ y0 (by decide))))) (y8 _))
   (zP (IA (i:=3) (j:=4) (qv 3) kZ.nd rfl (Or.inl rfl))
    (zW (yY (u7 (qx (zr gA qf (zF (z7 4)) (zF (w6 xy w4 rfl z_len xw (xS (zF (z7 1)) xZ))) (y8 _)) (qy (zr (j6 (zQ hr)) j5 (zF (z7 4)) (kR 2) (by with_unfolding_all rfl)))))
     (zP (VP (zQ hr) (qv 2) (z7 4) kj)
      (zW (J_ (qv 3) (za (zY (zQ hr)) zZ (z7 1) (z7 4)))))
     yi))))
  (Yy 3 (Yy 2 (zW (wB (Ek rfl rfl z_sorted (zC (z7 2) zI))))))))))
noncomputable abbrev kB:Stmt:=top 27
theorem t_:y9 ["items", "rows", "ways", "comers", "told", "due", "number", "need"] ["items"] (zo kB):=⟨rfl,rfl,rfl,by decide +kernel,rfl,by decide +kernel,by decide +kernel⟩
theorem Bq (d:zK K mg "needs" kB ["items"]) (z_len:mg "len" = none) (z_list:mg "list" = none) (z_range:mg "range" = none) (g_ALL_NEEDED:yt mg "ALL_NEEDED" (.int 2047)) (q_ALL_NEEDED:∀ H,zV K H (.int 2047) (.int 2047)) (h_rows_of:zN P w K mg base "rows_of" ["items"] 2 (zO K x9)) (h_ways_of:zN P w K mg base "ways_of" ["items"] 4 (zO K vS)) (h_comers_of:zN P w K mg base "comers_of" ["ways"] 1 (zO K qE)) (h_used:zN P w K mg base "used" ["row"] 2 (zO K vh)) (h_needed_at:zN P w K mg base "needed_at" ["told", "places"] 1 (zO K uf)) (h_put:zN P w K mg base "put" ["row"] 2 (zO K wK)):zN P w K mg base "needs" ["items"] 6 (zO K vQ):=
 zK.okS d t_ (by decide) Cz fun f cdv A outer s H E hr=>(zP (zj (i:=1) t_.nd rfl (Or.inl rfl) (zp h_rows_of hr rfl (zC (z7 0) zI)))
  (zP (zj (i:=2) t_.nd rfl (Or.inl rfl) (zp h_ways_of hr rfl (zC (z7 0) zI)))
  (zP (zj (i:=3) t_.nd rfl (Or.inl rfl) (zp h_comers_of hr rfl (zC (z7 2) zI)))
  (zP (vx (i:=4) t_.nd rfl (Or.inl rfl) (Eg (yX (Ej (xC (zC zH zI) (z_ (zT y0) (by decide))) (w6 xy w4 rfl z_len xw (xS (zF (z7 1)) xZ)))) (yX (xC (zC (vP g_ALL_NEEDED q_ALL_NEEDED rfl) zI) (z_ (zT y0) (by decide))))))
  (zP (vx (i:=5) t_.nd rfl (Or.inl rfl) (Ei rfl rfl z_list rfl z_range (zC (w6 xy w4 rfl z_len xw (xS (zF (z7 1)) xZ)) zI)))
  (zP (Z1 PassesOwn.never (zr (vq (yL hr)) vp (kR 5) (zF (yX (xC zI (z_ y0 (by decide))))) (y8 _))
   (zP (IA (i:=5) (j:=6) (qv 5) t_.nd rfl (Or.inl rfl))
    (zP (zj (i:=7) t_.nd rfl (Or.inl rfl) (zU uS vN (zp h_used hr rfl (zC (za (zY (zQ hr)) zZ (z7 1) (z7 6)) zI)) (zU Wm vN (EX h_needed_at hr rfl (xS (kR 4) (xS (zF (za (zY (zQ hr)) zZ (z7 2) (z7 6))) xZ))) (tH HC HB (zp h_put hr rfl (zC (za (zY (zQ hr)) zZ (z7 1) (z7 6)) zI))))))
    (zW (yY (zr (vq (yL hr)) vp (zF (z7 7)) (zF (EZ (zQ hr) (qv 4) (z7 6))) (y8 _))
     (zP (GJ (qv 4) (z7 6) (z7 7))
      (zW (J_ (qv 5) (za (zY (zQ hr)) zZ (z7 3) (z7 6)))))
     yi)))))
  (Yy 5 (zW (qu 4)))))))))
noncomputable abbrev kE:Stmt:=top 31
theorem Jl:y9 ["items", "there"] ["items"] (zo kE):=⟨rfl,rfl,rfl,by decide +kernel,rfl,by decide +kernel,by decide +kernel⟩
theorem Bu (d:zK K mg "not_reached" kE ["items"]) (z_dict:mg "dict" = none) (z_range:mg "range" = none) (z_len:mg "len" = none) (h_reached:zN P w K mg base "reached" ["items"] 5 (zO K vR)) (h_rows_of:zN P w K mg base "rows_of" ["items"] 2 (zO K x9)):zN P w K mg base "not_reached" ["items"] 6 (zO K uh):=
 zK.okS d Jl (by decide) E3 fun f cdv A outer s H E hr=>(zP (zj (i:=1) Jl.nd rfl (Or.inr rfl) (yX (VM rfl rfl z_dict Xl (zC (yX (wT rfl (xl (own:=["number"]) rfl) (w8 (zp h_reached hr rfl (zC (z7 0) zI))) (wO (fun C s H fp pn=>(yJ (i:=2) (show (xB ["items", "there"] ["number"]).Nodup by decide +kernel) rfl (Or.inl rfl))) rfl) (fun C s H fp pn=>vz) (fun C s H fp pn=>(xT (zC (z7 2) (zC kj zI)) (z_ (zT (zT y0)) (by decide)))))) zI))))
  (zW (wB (wT rfl (xl (own:=["number"]) rfl) (uX rfl z_range (w6 xy w4 rfl z_len xw (xS (zF (zp h_rows_of hr rfl (zC (z7 0) zI))) xZ))) (wO (fun C s H fp pn=>(yJ (i:=2) (show (xB ["items", "there"] ["number"]).Nodup by decide +kernel) rfl (Or.inl rfl))) rfl) (fun C s H fp pn=>(tK (zr (j6 (zQ hr)) j5 (zF (z7 2)) (zF (z7 1)) (by with_unfolding_all rfl)))) (fun C s H fp pn=>(z7 2))))))
noncomputable abbrev kM:Stmt:=top 32
theorem EU:y9 ["items"] ["items"] (zo kM):=⟨rfl,rfl,rfl,by decide +kernel,rfl,by decide +kernel,by decide +kernel⟩
theorem DA (d:zK K mg "to_the_next_row" kM ["items"]) (z_enumerate:mg "enumerate" = none) (h_targets_of:zN P w K mg base "targets_of" ["items"] 3 (zO K vg)):zN P w K mg base "to_the_next_row" ["items"] 4 (zO K uj):=
 zK.okS d EU (by decide) EA fun f cdv A outer s H E hr=>(zW (wB (wT rfl (xl (own:=["number", "target"]) rfl) (jL rfl z_enumerate (zp h_targets_of hr rfl (zC (z7 0) zI))) (Zs (fun C s H fp pn=>(jA (n:=2) rfl (vc (yJ (i:=1) (show (xB ["items"] ["number", "target"]).Nodup by decide +kernel) rfl (Or.inl rfl)) (vc (yJ (i:=2) (show (xB ["items"] ["number", "target"]).Nodup by decide +kernel) rfl (Or.inl rfl)) jB)))) rfl rfl) (fun C s H fp pn=>(tK (zr (yx (yL hr)) yw (zF (z7 2)) (zF (zU yo ym (z7 1) zH)) (y8 _)))) (fun C s H fp pn=>(z7 1)))))
noncomputable abbrev gP:Stmt:=top 33
theorem EJ:y9 ["items"] ["items"] (zo gP):=⟨rfl,rfl,rfl,by decide +kernel,rfl,by decide +kernel,by decide +kernel⟩
theorem BM (d:zK K mg "copied_to_itself" gP ["items"]) (z_enumerate:mg "enumerate" = none) (h_rows_of:zN P w K mg base "rows_of" ["items"] 2 (zO K x9)):zN P w K mg base "copied_to_itself" ["items"] 3 (zO K uc):=
 zK.okS d EJ (by decide) CV fun f cdv A outer s H E hr=>(zW (wB (wT rfl (xl (own:=["number", "row"]) rfl) (jL rfl z_enumerate (zp h_rows_of hr rfl (zC (z7 0) zI))) (Zs (fun C s H fp pn=>(jA (n:=2) rfl (vc (yJ (i:=1) (show (xB ["items"] ["number", "row"]).Nodup by decide +kernel) rfl (Or.inl rfl)) (vc (yJ (i:=2) (show (xB ["items"] ["number", "row"]).Nodup by decide +kernel) rfl (Or.inl rfl)) jB)))) rfl rfl) (fun C s H fp pn=>(tK (u7 (qx (zr (yx (yL hr)) yw (zF (za (zY (zQ hr)) zZ (z7 2) zH)) (zF zg) (y8 _)) (qy (zr (yx (yL hr)) yw (zF (za (zY (zQ hr)) zZ (z7 2) zH)) (zF (za (zY (zQ hr)) zZ (z7 2) zH)) (y8 _))))))) (fun C s H fp pn=>(z7 1)))))
noncomputable abbrev kD:Stmt:=top 34
theorem Yw:y9 ["items", "told", "ways", "puts"] ["items"] (zo kD):=⟨rfl,rfl,rfl,by decide +kernel,rfl,by decide +kernel,by decide +kernel⟩
theorem Bt (d:zK K mg "not_needed" kD ["items"]) (z_range:mg "range" = none) (z_len:mg "len" = none) (h_needs:zN P w K mg base "needs" ["items"] 6 (zO K vQ)) (h_ways_of:zN P w K mg base "ways_of" ["items"] 4 (zO K vS)) (h_rows_of:zN P w K mg base "rows_of" ["items"] 2 (zO K x9)) (h_put:zN P w K mg base "put" ["row"] 2 (zO K wK)) (h_needed_at:zN P w K mg base "needed_at" ["told", "places"] 1 (zO K uf)):zN P w K mg base "not_needed" ["items"] 7 (zO K ug):=
 zK.okS d Yw (by decide) E2 fun f cdv A outer s H E hr=>(zP (zj (i:=1) Yw.nd rfl (Or.inr rfl) (yX (tJ h_needs hr rfl (zC (z7 0) zI))))
  (zP (zj (i:=2) Yw.nd rfl (Or.inr rfl) (zp h_ways_of hr rfl (zC (z7 0) zI)))
  (zP (GK (i:=3) Yw.nd rfl (Or.inr rfl) (yX (wT rfl (xl (own:=["row"]) rfl) (w8 (zp h_rows_of hr rfl (zC (z7 0) zI))) (wO (fun C s H fp pn=>(yJ (i:=4) (show (xB ["items", "told", "ways", "puts"] ["row"]).Nodup by decide +kernel) rfl (Or.inl rfl))) rfl) (fun C s H fp pn=>vz) (fun C s H fp pn=>(zp h_put hr rfl (zC (z7 4) zI))))))
  (zW (wB (wT rfl (xl (own:=["number"]) rfl) (uX rfl z_range (w6 xy w4 rfl z_len xw (xS (zF (z7 3)) xZ))) (wO (fun C s H fp pn=>(yJ (i:=4) (show (xB ["items", "told", "ways", "puts"] ["number"]).Nodup by decide +kernel) rfl (Or.inl rfl))) rfl) (fun C s H fp pn=>(tK (u7 (qx (zr (vq (yL hr)) vp (zF (za (zY (zQ hr)) zZ (z7 3) (z7 4))) (zF zH) (y8 _)) (qy (zr (yx (yL hr)) yw (zF (zU Wm vN (za (zY (zQ hr)) zZ (z7 3) (z7 4)) (zp h_needed_at hr rfl (zC (z7 1) (zC (za (zY (zQ hr)) zZ (z7 2) (z7 4)) zI))))) (zF zH) (y8 _))))))) (fun C s H fp pn=>(z7 4))))))))
noncomputable abbrev gQ:Stmt:=top 36
theorem VF:y9 ["items", "told_by", "numbers"] ["items"] (zo gQ):=⟨rfl,rfl,rfl,by decide +kernel,rfl,by decide +kernel,by decide +kernel⟩
theorem BN (d:zK K mg "idle_of_one_kind" gQ ["items"]) (g_IDLE_KINDS:yt mg "IDLE_KINDS" (.ref A_IDLE_KINDS)) (t_IDLE_KINDS:XY K mg A_IDLE_KINDS ["not_reached", "to_the_next_row", "copied_to_itself", "not_needed"]) (h_not_reached:zN P w K mg base "not_reached" ["items"] 6 (zO K uh)) (h_to_the_next_row:zN P w K mg base "to_the_next_row" ["items"] 4 (zO K uj)) (h_copied_to_itself:zN P w K mg base "copied_to_itself" ["items"] 3 (zO K uc)) (h_not_needed:zN P w K mg base "not_needed" ["items"] 7 (zO K ug)):zN P w K mg base "idle_of_one_kind" ["items"] 8 (zO K p5):=
 zK.okS d VF (by decide) CW fun f cdv A outer s H E hr=>(zP (GH PassesOwn.never rfl g_IDLE_KINDS rfl t_IDLE_KINDS (uF.cons h_not_reached (uF.cons h_to_the_next_row (uF.cons h_copied_to_itself (uF.cons h_not_needed uF.nil)))) hr (yJ (i:=1) VF.nd rfl (Or.inl rfl)) rfl (qv 1) VF.nd rfl (Or.inl rfl) (zC (z7 0) zI)
   (zW (yY (zr (vq (yL hr)) vp (zF (z7 2)) (zF (yX (xC zI (z_ y0 (by decide))))) (y8 _))
     (zW (yh (z7 2)))
     yi)) rfl)
  (zW (wB (xC zI (z_ y0 (by decide))))))
noncomputable abbrev kQ:Stmt:=top 37
theorem jK:y9 ["items", "numbers", "dropped", "number", "kept", "item"] ["items", "numbers"] (zo kQ):=⟨rfl,rfl,rfl,by decide +kernel,rfl,by decide +kernel,by decide +kernel⟩
theorem DF (d:zK K mg "without" kQ ["items", "numbers"]) (z_dict:mg "dict" = none) (h_is_label:zN P w K mg base "is_label" ["item"] 1 (zO K uD)):zN P w K mg base "without" ["items", "numbers"] 2 (zO K qL):=
 zK.okS d jK (by decide) EE fun f cdv A outer s H E hr=>(zP (zj (i:=2) jK.nd rfl (Or.inl rfl) (yX (VM rfl rfl z_dict Xl (zC (yX (wT rfl (xl (own:=["number"]) rfl) (w8 (z7 1)) (wO (fun C s H fp pn=>(yJ (i:=6) (show (xB ["items", "numbers", "dropped", "number", "kept", "item"] ["number"]).Nodup by decide +kernel) rfl (Or.inl rfl))) rfl) (fun C s H fp pn=>vz) (fun C s H fp pn=>(xT (zC (z7 6) (zC kj zI)) (z_ (zT (zT y0)) (by decide)))))) zI))))
  (zP (vx (i:=4) jK.nd rfl (Or.inl rfl) (xC zI (z_ y0 (by decide))))
  (zP (zj (i:=3) jK.nd rfl (Or.inl rfl) zH)
  (zP (vw PassesOwn.never rfl (w8 (z7 0)) (uW (yJ (i:=5) jK.nd rfl (Or.inl rfl)) rfl)
   (zW (yY (vy (zp h_is_label hr rfl (zC (z7 5) zI)))
     (zW (vv (qv 4) (z7 5)))
     (zP (yY (zr (j6 (zQ hr)) j5 (zF (z7 3)) (zF (z7 2)) (by with_unfolding_all rfl))
       (zW (vv (qv 4) (z7 5)))
       yi)
      (zW (Jz (i:=3) TW QY jK.nd rfl (Or.inl rfl) zH))))))
  (zW (qu 4))))))
noncomputable abbrev gr:Stmt:=top 41
theorem EO:y9 ["rows", "place"] ["rows", "place"] (zo gr):=⟨rfl,rfl,rfl,by decide +kernel,rfl,by decide +kernel,by decide +kernel⟩
theorem Bh (d:zK K mg "leads_on" gr ["rows", "place"]) (z_len:mg "len" = none):zN P w K mg base "leads_on" ["rows", "place"] 1 (zO K pG):=
 zK.okS d EO (by decide) Cr fun f cdv A outer s H E hr=>(zW (yh (Jq (ve gA qf (zF (z7 1)) (zF (w6 xy w4 rfl z_len xw (xS (zF (z7 0)) xZ))) (y8 _)) (VJ (ve (yx (yL hr)) yw (zF (za (zY (zQ hr)) zZ (za (zY (zQ hr)) zZ (z7 0) (z7 1)) zH)) (zF zg) (y8 _))))))
noncomputable abbrev gW:Stmt:=top 40
theorem Ys:y9 ["name", "rows", "places", "met", "last"] ["name", "rows", "places"] (zo gW):=⟨rfl,rfl,rfl,by decide +kernel,rfl,by decide +kernel,by decide +kernel⟩
theorem BS (d:zK K mg "last_name" gW ["name", "rows", "places"]) (h_leads_on:zN P w K mg base "leads_on" ["rows", "place"] 1 (zO K pG)):zN P w K mg base "last_name" ["name", "rows", "places"] 2 (zO K p7):=
 zK.okS d Ys (by decide) Cd fun f cdv A outer s H E hr=>(zP (vx (i:=3) Ys.nd rfl (Or.inl rfl) VN)
  (zP (zj (i:=4) Ys.nd rfl (Or.inl rfl) (z7 0))
  (zP (Z1 PassesOwn.never (vy (zp h_leads_on hr rfl (zC (z7 1) (zC (za (zY (zQ hr)) zZ (z7 2) (z7 4)) zI))))
   (zP (yY (zr (v0 (zQ hr)) wz (zF (za (zY (zQ hr)) zZ (z7 2) (z7 4))) (kR 3) (by with_unfolding_all rfl))
     (zW (yh (z7 0)))
     yi)
    (zP (VP (zQ hr) (qv 3) (za (zY (zQ hr)) zZ (z7 2) (z7 4)) kj)
    (zW (zj (i:=4) Ys.nd rfl (Or.inl rfl) (za (zY (zQ hr)) zZ (za (zY (zQ hr)) zZ (z7 1) (za (zY (zQ hr)) zZ (z7 2) (z7 4))) (tH qC qB zH)))))))
  (Yy 3 (zW (yh (z7 4)))))))
noncomputable abbrev gu:Stmt:=top 39
theorem VH:y9 ["items", "rows", "places"] ["items"] (zo gu):=⟨rfl,rfl,rfl,by decide +kernel,rfl,by decide +kernel,by decide +kernel⟩
theorem Bi (d:zK K mg "led_on" gu ["items"]) (h_rows_of:zN P w K mg base "rows_of" ["items"] 2 (zO K x9)) (h_label_places:zN P w K mg base "label_places" ["items"] 2 (zO K ud)) (h_is_jump:zN P w K mg base "is_jump" ["item"] 1 (zO K uC)) (h_last_name:zN P w K mg base "last_name" ["name", "rows", "places"] 2 (zO K p7)):zN P w K mg base "led_on" ["items"] 3 (zO K uE):=
 zK.okS d VH (by decide) Cs fun f cdv A outer s H E hr=>(zP (zj (i:=1) VH.nd rfl (Or.inr rfl) (zp h_rows_of hr rfl (zC (z7 0) zI)))
  (zP (zj (i:=2) VH.nd rfl (Or.inr rfl) (zp h_label_places hr rfl (zC (z7 0) zI)))
  (zW (wB (wT rfl (xl (own:=["item"]) rfl) (w8 (z7 0)) (wO (fun C s H fp pn=>(yJ (i:=3) (show (xB ["items", "rows", "places"] ["item"]).Nodup by decide +kernel) rfl (Or.inl rfl))) rfl) (fun C s H fp pn=>vz) (fun C s H fp pn=>(Yx (vy (zp h_is_jump hr rfl (zC (z7 3) zI))) (zU yo ym (ku (z7 3) kz (k_ (tH qC qB zH))) (xT (zC (zp h_last_name hr rfl (zC (za (zY (zQ hr)) zZ (z7 3) (tH qC qB zH)) (zC (z7 1) (zC (z7 2) zI)))) zI) (z_ (zT y0) (by decide)))) (z7 3))))))))
noncomputable abbrev gz:Stmt:=top 43
theorem kX:y9 ["number", "name", "left"] ["number"] (zo gz):=⟨rfl,rfl,rfl,by decide +kernel,rfl,by decide +kernel,by decide +kernel⟩
theorem Bm (d:zK K mg "name_of" gz ["number"]) (z_len:mg "len" = none) (g_LETTERS:yt mg "LETTERS" (.str "abcdefghijklmnopqrstuvwxyz")) (q_LETTERS:∀ H,zV K H (.str "abcdefghijklmnopqrstuvwxyz") (.str "abcdefghijklmnopqrstuvwxyz")):zN P w K mg base "name_of" ["number"] 1 (zO K qJ):=
 zK.okS d kX (by decide) Cv fun f cdv A outer s H E hr=>(zP (zj (i:=1) kX.nd rfl (Or.inl rfl) zg)
  (zP (zj (i:=2) kX.nd rfl (Or.inl rfl) (zU yo ym (z7 0) zH))
  (zP (Z1 PassesOwn.never (zr Qg qf (zF (z7 2)) (zF zH) (y8 _))
   (zP (zj (i:=1) kX.nd rfl (Or.inl rfl) (zU yo ym (za (zY (zQ hr)) zZ (vP g_LETTERS q_LETTERS rfl) (zU yq yn (zU Qi Qb (z7 2) zH) (w6 xy w4 rfl z_len xw (xS (zF (vP g_LETTERS q_LETTERS rfl)) xZ)))) (z7 1)))
    (zW (zj (i:=2) kX.nd rfl (Or.inl rfl) (zU w_ wy (zU Qi Qb (z7 2) zH) (w6 xy w4 rfl z_len xw (xS (zF (vP g_LETTERS q_LETTERS rfl)) xZ)))))))
  (zW (yh (z7 1))))))
noncomputable abbrev g_:Stmt:=top 46
theorem Jk:y9 ["targets", "places"] ["targets"] (zo g_):=⟨rfl,rfl,rfl,by decide +kernel,rfl,by decide +kernel,by decide +kernel⟩
theorem Bn (d:zK K mg "names_of_places" g_ ["targets"]) (z_sorted:mg "sorted" = none) (z_set:mg "set" = none) (z_dict:mg "dict" = none) (z_enumerate:mg "enumerate" = none) (h_name_of:zN P w K mg base "name_of" ["number"] 1 (zO K qJ)):zN P w K mg base "names_of_places" ["targets"] 2 (zO K pH):=
 zK.okS d Jk (by decide) Cw fun f cdv A outer s H E hr=>(zP (zj (i:=1) Jk.nd rfl (Or.inl rfl) (yX (Jt rfl rfl z_sorted rfl z_set (zC (yX (wT rfl (xl (own:=["target"]) rfl) (w8 (z7 0)) (wO (fun C s H fp pn=>(yJ (i:=2) (show (xB ["targets", "places"] ["target"]).Nodup by decide +kernel) rfl (Or.inl rfl))) rfl) (fun C s H fp pn=>(tK (zr DU Bs (zF (z7 2)) (zF kq) (y8 _)))) (fun C s H fp pn=>(z7 2)))) zI))))
  (zW (wB (VM rfl rfl z_dict Xl (zC (yX (wT rfl (xl (own:=["number", "place"]) rfl) (jL rfl z_enumerate (z7 1)) (Zs (fun C s H fp pn=>(jA (n:=2) rfl (vc (yJ (i:=2) (show (xB ["targets", "places"] ["number", "place"]).Nodup by decide +kernel) rfl (Or.inl rfl)) (vc (yJ (i:=3) (show (xB ["targets", "places"] ["number", "place"]).Nodup by decide +kernel) rfl (Or.inl rfl)) jB)))) rfl rfl) (fun C s H fp pn=>vz) (fun C s H fp pn=>(xT (zC (z7 3) (zC (zp h_name_of hr rfl (zC (z7 2) zI)) zI)) (z_ (zT (zT y0)) (by decide)))))) zI)))))
noncomputable abbrev gU:Stmt:=top 45
theorem kU:y9 ["rows", "targets", "names", "items", "number", "row"] ["rows", "targets"] (zo gU):=⟨rfl,rfl,rfl,by decide +kernel,rfl,by decide +kernel,by decide +kernel⟩
theorem BR (d:zK K mg "labelled" gU ["rows", "targets"]) (z_enumerate:mg "enumerate" = none) (z_len:mg "len" = none) (h_names_of_places:zN P w K mg base "names_of_places" ["targets"] 2 (zO K pH)):zN P w K mg base "labelled" ["rows", "targets"] 3 (zO K p6):=
 zK.okS d kU (by decide) Cc fun f cdv A outer s H E hr=>(zP (zj (i:=2) kU.nd rfl (Or.inl rfl) (zp h_names_of_places hr rfl (zC (z7 1) zI)))
  (zP (vx (i:=3) kU.nd rfl (Or.inl rfl) (xC zI (z_ y0 (by decide))))
  (zP (vw PassesOwn.never rfl (jL rfl z_enumerate (z7 0)) (El (jA (n:=2) rfl (vc (yJ (i:=4) kU.nd rfl (Or.inl rfl)) (vc (yJ (i:=5) kU.nd rfl (Or.inl rfl)) jB))) rfl rfl)
   (zP (yY (zr (v0 (zQ hr)) wz (zF (z7 4)) (zF (z7 2)) (by with_unfolding_all rfl))
     (zW (vv (qv 3) (xT (zC zg (zC (za (zY (zQ hr)) zZ (z7 2) (z7 4)) zI)) (z_ (zT (zT y0)) (by decide)))))
     yi)
    (zW (vv (qv 3) (Yx (zr Qh QZ (zF (za (zY (zQ hr)) zZ (z7 1) (z7 4))) (zF kq) (y8 _)) (z7 5) (zU yo ym (z7 5) (xT (zC (za (zY (zQ hr)) zZ (z7 2) (za (zY (zQ hr)) zZ (z7 1) (z7 4))) zI) (z_ (zT y0) (by decide)))))))))
  (zP (yY (zr (v0 (zQ hr)) wz (zF (w6 xy w4 rfl z_len xw (xS (zF (z7 0)) xZ))) (zF (z7 2)) (by with_unfolding_all rfl))
   (zW (vv (qv 3) (xT (zC zg (zC (za (zY (zQ hr)) zZ (z7 2) (w6 xy w4 rfl z_len xw (xS (zF (z7 0)) xZ))) zI)) (z_ (zT (zT y0)) (by decide)))))
   yi)
  (zW (qu 3))))))
noncomputable abbrev kF:Stmt:=top 44
theorem Jm:y9 ["items", "rows"] ["items"] (zo kF):=⟨rfl,rfl,rfl,by decide +kernel,rfl,by decide +kernel,by decide +kernel⟩
theorem Bv (d:zK K mg "plain" kF ["items"]) (h_rows_of:zN P w K mg base "rows_of" ["items"] 2 (zO K x9)) (h_is_jump:zN P w K mg base "is_jump" ["item"] 1 (zO K uC)) (h_labelled:zN P w K mg base "labelled" ["rows", "targets"] 3 (zO K p6)) (h_targets_of:zN P w K mg base "targets_of" ["items"] 3 (zO K vg)):zN P w K mg base "plain" ["items"] 4 (zO K ui):=
 zK.okS d Jm (by decide) E4 fun f cdv A outer s H E hr=>(zP (VQ (i:=1) rfl Jm.nd rfl rfl (xl (own:=["row"]) rfl) rfl (w8 (zp h_rows_of hr rfl (zC (z7 0) zI))) (wO (fun C s H fp pn=>(yJ (i:=2) (show (xB ["items", "rows"] ["row"]).Nodup by decide +kernel) rfl (Or.inl rfl))) rfl) (fun C s H fp pn=>vz) (fun C s H fp pn=>(Yx (vy (zp h_is_jump hr rfl (zC (z7 2) zI))) (ku (z7 2) kz (k_ (tH qC qB zH))) (z7 2))))
  (zW (wB (tJ h_labelled hr rfl (zC (z7 1) (zC (zp h_targets_of hr rfl (zC (z7 0) zI)) zI))))))
noncomputable abbrev kK:Stmt:=top 48
theorem jJ:y9 ["items", "before", "now", "led"] ["items"] (zo kK):=⟨rfl,rfl,rfl,by decide +kernel,rfl,by decide +kernel,by decide +kernel⟩
theorem Bz (d:zK K mg "short" kK ["items"]) (h_led_on:zN P w K mg base "led_on" ["items"] 3 (zO K uE)) (h_without:zN P w K mg base "without" ["items", "numbers"] 2 (zO K qL)) (h_idle_of_one_kind:zN P w K mg base "idle_of_one_kind" ["items"] 8 (zO K p5)) (h_plain:zN P w K mg base "plain" ["items"] 4 (zO K ui)):zN P w K mg base "short" ["items"] 9 (zO K qK):=
 zK.okS d jJ (by decide) E8 fun f cdv A outer s H E hr=>(zP (zj (i:=1) jJ.nd rfl (Or.inl rfl) kq)
  (zP (zj (i:=2) jJ.nd rfl (Or.inl rfl) (z7 0))
  (zP (Z1 PassesOwn.never (zr (DQ (yL hr)) Bo (zF (z7 2)) (zF (z7 1)) (y8 _))
   (zP (zj (i:=1) jJ.nd rfl (Or.inl rfl) (z7 2))
    (zP (zj (i:=3) jJ.nd rfl (Or.inl rfl) (yX (tJ h_led_on hr rfl (zC (z7 1) zI))))
    (zW (zj (i:=2) jJ.nd rfl (Or.inl rfl) (zp h_without hr rfl (zC (z7 3) (zC (zp h_idle_of_one_kind hr rfl (zC (z7 3) zI)) zI))))))))
  (zW (wB (tJ h_plain hr rfl (zC (z7 2) zI)))))))
noncomputable abbrev gX:Stmt:=top 50
theorem EM:y9 ["_law_script", "_law_k"] ["_law_script", "_law_k"] (zo gX):=⟨rfl,rfl,rfl,by decide +kernel,rfl,by decide +kernel,by decide +kernel⟩
theorem BU (d:zK K mg "_law_cell_at" gX ["_law_script", "_law_k"]) (z_len:mg "len" = none):zN P w K mg base "_law_cell_at" ["_law_script", "_law_k"] 1 (zO K p8):=
 zK.okS d EM (by decide) Cf fun f cdv A outer s H E hr=>(zP (yY (zr gA qf (zF (z7 1)) (zF (w6 xy w4 rfl z_len xw (xS (zF (z7 0)) xZ))) (y8 _))
   (zW (yh (za (zY (zQ hr)) zZ (z7 0) (z7 1))))
   yi)
  (zW (yh zH)))
noncomputable abbrev gb:Stmt:=top 51
theorem Jj:y9 ["_law_script", "_law_k", "_law_mark_here"] ["_law_script", "_law_k"] (zo gb):=⟨rfl,rfl,rfl,by decide +kernel,rfl,by decide +kernel,by decide +kernel⟩
theorem BY (d:zK K mg "_law_mark" gb ["_law_script", "_law_k"]) (z_len:mg "len" = none) (h_law_cell_at:zN P w K mg base "_law_cell_at" ["_law_script", "_law_k"] 1 (zO K p8)):zN P w K mg base "_law_mark" ["_law_script", "_law_k"] 2 (zO K wC):=
 zK.okS d Jj (by decide) Ci fun f cdv A outer s H E hr=>(zP (zj (i:=2) Jj.nd rfl (Or.inl rfl) (zU yo ym (zU yo ym (zU yo ym (zU gB Qa (zp h_law_cell_at hr rfl (zC (z7 0) (zC (z7 1) zI))) zH) (zU gB Wj zH (z7 1))) (zU gB Wj zH (w6 xy w4 rfl z_len xw (xS (zF (z7 0)) xZ)))) zH))
  (zW (yh (zU yq yn (zU gB Qa (zU yq yn (zU DO Bl (z7 2) (z7 2)) zH) zH) zH))))
noncomputable abbrev gm:Stmt:=top 52
theorem VG:y9 ["_law_found"] [] (zo gm):=⟨rfl,rfl,rfl,by decide +kernel,rfl,by decide +kernel,by decide +kernel⟩
theorem Bg (d:zK K mg "_law_words" gm []):zN P w K mg base "_law_words" [] 1 (zO K pE):=
 zK.okS d VG (by decide) Cq fun f cdv A outer s H E hr=>(zP (zj (i:=0) VG.nd rfl (Or.inl rfl) (yX (xC (zC zg (zC zg (zC zg (zC zg (zC zg (zC zg (zC zg (zC zg (zC zg (zC zg (zC zg (zC zg (zC zg zI))))))))))))) (z_ (zT (zT (zT (zT (zT (zT (zT (zT (zT (zT (zT (zT (zT y0))))))))))))) (by decide)))))
  (zP (zj (i:=0) VG.nd rfl (Or.inl rfl) (zU yo ym (z7 0) (yX (xC (zC zg (zC zg (zC zg (zC zg (zC zg (zC zg (zC zg (zC zg zI)))))))) (z_ (zT (zT (zT (zT (zT (zT (zT (zT y0)))))))) (by decide))))))
  (zW (yh (zU yo ym (z7 0) (yX (xC (zC zg (zC zg (zC zg (zC zg (zC zg (zC zg (zC zg zI))))))) (z_ (zT (zT (zT (zT (zT (zT (zT y0))))))) (by decide)))))))))
noncomputable abbrev gi:Stmt:=top 53
theorem jI:y9 ["_law_mark_here", "_law_names_here", "_law_many", "_law_word", "_law_one", "_law_two", "_law_rest"] ["_law_mark_here", "_law_names_here", "_law_many"] (zo gi):=⟨rfl,rfl,rfl,by decide +kernel,rfl,by decide +kernel,by decide +kernel⟩
theorem Bd (d:zK K mg "_law_row_by" gi ["_law_mark_here", "_law_names_here", "_law_many"]) (z_len:mg "len" = none) (h_law_words:zN P w K mg base "_law_words" [] 1 (zO K pE)):zN P w K mg base "_law_row_by" ["_law_mark_here", "_law_names_here", "_law_many"] 2 (zO K pC):=
 zK.okS d jI (by decide) Cn fun f cdv A outer s H E hr=>(zP (zj (i:=3) jI.nd rfl (Or.inl rfl) (za (zY (zQ hr)) zZ (EW h_law_words hr rfl) (zU yq yn (z7 0) zH)))
  (zP (zj (i:=0) jI.nd rfl (Or.inl rfl) (zU w_ wy (z7 0) zH))
  (zP (zj (i:=4) jI.nd rfl (Or.inl rfl) (zU yq yn (z7 0) (z7 2)))
  (zP (zj (i:=5) jI.nd rfl (Or.inl rfl) (zU yq yn (zU w_ wy (z7 0) zH) (z7 2)))
  (zP (zj (i:=6) jI.nd rfl (Or.inl rfl) (zU w_ wy (z7 0) zH))
  (zP (yY (zr (v0 (zQ hr)) wz (zF (z7 3)) (zF (xT (zC zg (zC zg zI)) (z_ (zT (zT y0)) (by decide)))) (by with_unfolding_all rfl))
   (zW (yh (xT (zC (z7 3) (zC (z7 4) (zC (za (zY (zQ hr)) zZ (yX (xC (zC (zU yq yn (z7 6) zH) (zC (zU yq yn (z7 6) zH) zI)) (z_ (zT (zT y0)) (by decide)))) (zU yq yn (zU w_ wy (z7 0) zH) zH)) zI))) (z_ (zT (zT (zT y0))) (by decide)))))
   yi)
  (zP (yY (zr (v0 (zQ hr)) wz (zF (z7 3)) (zF (xT (zC zg (zC zg zI)) (z_ (zT (zT y0)) (by decide)))) (by with_unfolding_all rfl))
   (zW (yh (xT (zC (z7 3) (zC (z7 4) (zC (za (zY (zQ hr)) zZ (yX (xC (zC (zU yq yn (z7 6) zH) (zC (zU yq yn (z7 6) zH) zI)) (z_ (zT (zT y0)) (by decide)))) (zU yq yn (zU w_ wy (z7 0) zH) zH)) zI))) (z_ (zT (zT (zT y0))) (by decide)))))
   yi)
  (zP (yY (zr (v0 (zQ hr)) wz (zF (z7 3)) (zF (xT (zC zg (zC zg (zC zg (zC zg zI)))) (z_ (zT (zT (zT (zT y0)))) (by decide)))) (by with_unfolding_all rfl))
   (zW (yh (xT (zC (z7 3) (zC (z7 4) (zC (z7 5) (zC (za (zY (zQ hr)) zZ (yX (xC (zC (zU yq yn (z7 6) zH) (zC (zU yq yn (z7 6) zH) zI)) (z_ (zT (zT y0)) (by decide)))) (zU yq yn (zU w_ wy (z7 0) zH) zH)) zI)))) (z_ (zT (zT (zT (zT y0)))) (by decide)))))
   yi)
  (zP (yY (zr (yx (yL hr)) yw (zF (z7 3)) (zF zg) (y8 _))
   (zW (yh (xT (zC (z7 3) (zC (za (zY (zQ hr)) zZ (z7 1) (zU yq yn (z7 6) (w6 xy w4 rfl z_len xw (xS (zF (z7 1)) xZ)))) zI)) (z_ (zT (zT y0)) (by decide)))))
   yi)
  (zP (yY (zr (v0 (zQ hr)) wz (zF (z7 3)) (zF (xT (zC zg (zC zg zI)) (z_ (zT (zT y0)) (by decide)))) (by with_unfolding_all rfl))
   (zW (yh (xT (zC (z7 3) (zC (za (zY (zQ hr)) zZ (yX (xC (zC zg (zC zg (zC zg zI))) (z_ (zT (zT (zT y0))) (by decide)))) (zU yq yn (z7 5) zH)) (zC (za (zY (zQ hr)) zZ (z7 1) (zU yq yn (z7 6) (w6 xy w4 rfl z_len xw (xS (zF (z7 1)) xZ)))) zI))) (z_ (zT (zT (zT y0))) (by decide)))))
   yi)
  (zP (yY (zr (yx (yL hr)) yw (zF (z7 3)) (zF zg) (y8 _))
   (zW (yh (xT (zC (z7 3) zI) (z_ (zT y0) (by decide)))))
   yi)
  (zW (yh (xT (zC (z7 3) (zC (z7 4) (zC (z7 5) zI))) (z_ (zT (zT (zT y0))) (by decide))))))))))))))))
noncomputable abbrev gd:Stmt:=top 54
theorem jH:y9 ["_law_mark_here", "_law_many", "_law_letters", "_law_size", "_law_word", "_law_spot"] ["_law_mark_here", "_law_many"] (zo gd):=⟨rfl,rfl,rfl,by decide +kernel,rfl,by decide +kernel,by decide +kernel⟩
theorem BZ (d:zK K mg "_law_names" gd ["_law_mark_here", "_law_many"]) (z_range:mg "range" = none):zN P w K mg base "_law_names" ["_law_mark_here", "_law_many"] 1 (zO K pA):=
 zK.okS d jH (by decide) Cj fun f cdv A outer s H E hr=>(zP (zj (i:=2) jH.nd rfl (Or.inr rfl) zg)
  (zP (zj (i:=3) jH.nd rfl (Or.inl rfl) (zU yq yn (z7 0) zH))
  (zP (zj (i:=4) jH.nd rfl (Or.inr rfl) (Ea zg (zF (yX (wT rfl (xl (own:=["_law_k"]) rfl) (uX rfl z_range (z7 3)) (wO (fun C s H fp pn=>(yJ (i:=6) (show (xB ["_law_mark_here", "_law_many", "_law_letters", "_law_size", "_law_word", "_law_spot"] ["_law_k"]).Nodup by decide +kernel) rfl (Or.inl rfl))) rfl) (fun C s H fp pn=>vz) (fun C s H fp pn=>(za (zY (zQ hr)) zZ (z7 2) (zU yq yn (zU w_ wy (zU w_ wy (z7 0) zH) (za (zY (zQ hr)) zZ (yX (xC (EH (is:=[1,26,676,17576,3,5,7]) rfl) (z_ (O4 (n:=7) (by decide)) (by decide)))) (z7 6))) zH))))))))
  (zP (zj (i:=5) jH.nd rfl (Or.inr rfl) (zU yq yn (zU w_ wy (z7 0) zH) (zU yo ym (z7 3) zH)))
  (zP (zj (i:=4) jH.nd rfl (Or.inr rfl) (ku (z7 4) kz (k_ zH)))
  (zW (wB (wT rfl (xl (own:=["_law_k"]) rfl) (uX rfl z_range (z7 1)) (wO (fun C s H fp pn=>(yJ (i:=6) (show (xB ["_law_mark_here", "_law_many", "_law_letters", "_law_size", "_law_word", "_law_spot"] ["_law_k"]).Nodup by decide +kernel) rfl (Or.inl rfl))) rfl) (fun C s H fp pn=>vz) (fun C s H fp pn=>(zU yo ym (zU yo ym (ku (z7 4) kz (k_ (z7 5))) (za (zY (zQ hr)) zZ (z7 2) (zU yq yn (zU yo ym (zU w_ wy (z7 0) zH) (z7 6)) zH))) (ku (z7 4) (k_ (z7 5)) kz)))))))))))
noncomputable abbrev gf:Stmt:=top 55
theorem qr:y9 ["_law_script", "_law_first", "_law_most", "_law_count", "_law_names_here", "_law_many", "_law_rows_here", "_law_k", "_law_items"] ["_law_script", "_law_first", "_law_most"] (zo gf):=⟨rfl,rfl,rfl,by decide +kernel,rfl,by decide +kernel,by decide +kernel⟩
theorem Bb (d:zK K mg "_law_program_by" gf ["_law_script", "_law_first", "_law_most"]) (z_range:mg "range" = none) (h_law_mark:zN P w K mg base "_law_mark" ["_law_script", "_law_k"] 2 (zO K wC)) (h_law_names:zN P w K mg base "_law_names" ["_law_mark_here", "_law_many"] 1 (zO K pA)) (h_law_row_by:zN P w K mg base "_law_row_by" ["_law_mark_here", "_law_names_here", "_law_many"] 2 (zO K pC)):zN P w K mg base "_law_program_by" ["_law_script", "_law_first", "_law_most"] 3 (zO K qH):=
 zK.okS d qr (by decide) Cl fun f cdv A outer s H E hr=>(zP (zj (i:=3) qr.nd rfl (Or.inl rfl) (zU yq yn (zp h_law_mark hr rfl (zC (z7 0) (zC (z7 1) zI))) (zU yo ym (z7 2) zH)))
  (zP (zj (i:=4) qr.nd rfl (Or.inr rfl) (zp h_law_names hr rfl (zC (zp h_law_mark hr rfl (zC (z7 0) (zC (zU yo ym (z7 1) zH) zI))) (zC (zU yo ym (z7 3) zH) zI))))
  (zP (zj (i:=5) qr.nd rfl (Or.inr rfl) (za (zY (zQ hr)) zZ (yX (xC (zC zH (zC zH zI)) (z_ (zT (zT y0)) (by decide)))) (zU yq yn (zp h_law_mark hr rfl (zC (z7 0) (zC (zU yo ym (z7 1) zH) zI))) zH)))
  (zP (VQ (i:=6) rfl qr.nd rfl rfl (xl (own:=["_law_k"]) rfl) rfl (uX rfl z_range (z7 3)) (wO (fun C s H fp pn=>(yJ (i:=9) (show (xB ["_law_script", "_law_first", "_law_most", "_law_count", "_law_names_here", "_law_many", "_law_rows_here", "_law_k", "_law_items"] ["_law_k"]).Nodup by decide +kernel) rfl (Or.inl rfl))) rfl) (fun C s H fp pn=>vz) (fun C s H fp pn=>(zp h_law_row_by hr rfl (zC (zp h_law_mark hr rfl (zC (z7 0) (zC (zU yo ym (zU yo ym (z7 1) zH) (z7 9)) zI))) (zC (z7 4) (zC (z7 5) zI))))))
  (zP (vx (i:=8) qr.nd rfl (Or.inl rfl) (xC zI (z_ y0 (by decide))))
  (zP (vw PassesOwn.never rfl (uX rfl z_range (zU yo ym (z7 3) zH)) (uW (yJ (i:=7) qr.nd rfl (Or.inr rfl)) rfl)
   (zP (yY (u7 (Z2 (zr (vq (yL hr)) vp (zF (yX (wT rfl (xl (own:=["_law_row"]) rfl) (w8 (z7 6)) (wO (fun C s H fp pn=>(yJ (i:=9) (show (xB ["_law_script", "_law_first", "_law_most", "_law_count", "_law_names_here", "_law_many", "_law_rows_here", "_law_k", "_law_items"] ["_law_row"]).Nodup by decide +kernel) rfl (Or.inl rfl))) rfl) (fun C s H fp pn=>(tK (zr (yx (yL hr)) yw (zF (za (zY (zQ hr)) zZ (z7 9) (tH qC qB zH))) (zF (za (zY (zQ hr)) zZ (z7 4) (z7 7))) (y8 _)))) (fun C s H fp pn=>(z7 9))))) (zF (yX (xC zI (z_ y0 (by decide))))) (y8 _)) (X0 (zr (yx (yL hr)) yw (zF (zU yq yn (zU w_ wy (zp h_law_mark hr rfl (zC (z7 0) (zC (zU yo ym (z7 1) zH) zI))) zH) zH)) (zF (z7 7)) (y8 _)))))
     (zW (vv (qv 8) (xT (zC zg (zC (za (zY (zQ hr)) zZ (z7 4) (z7 7)) zI)) (z_ (zT (zT y0)) (by decide)))))
     yi)
    (zW (yY (zr gA qf (zF (z7 7)) (zF (z7 3)) (y8 _))
     (zW (vv (qv 8) (za (zY (zQ hr)) zZ (z7 6) (z7 7))))
     yi))))
  (zW (qu 8))))))))
noncomputable abbrev gj:Stmt:=top 56
theorem EN:y9 ["_law_items"] ["_law_items"] (zo gj):=⟨rfl,rfl,rfl,by decide +kernel,rfl,by decide +kernel,by decide +kernel⟩
theorem Be (d:zK K mg "_law_rows" gj ["_law_items"]):zN P w K mg base "_law_rows" ["_law_items"] 1 (zO K qI):=
 zK.okS d EN (by decide) Co fun f cdv A outer s H E hr=>(zW (wB (wT rfl (xl (own:=["_law_item"]) rfl) (w8 (z7 0)) (wO (fun C s H fp pn=>(yJ (i:=1) (show (xB ["_law_items"] ["_law_item"]).Nodup by decide +kernel) rfl (Or.inl rfl))) rfl) (fun C s H fp pn=>(tK (zr (vq (yL hr)) vp (zF (za (zY (zQ hr)) zZ (z7 1) zH)) (zF zg) (y8 _)))) (fun C s H fp pn=>(z7 1)))))
noncomputable abbrev ge:Stmt:=top 57
theorem Yu:y9 ["_law_items", "_law_name", "_law_number", "_law_item"] ["_law_items", "_law_name"] (zo ge):=⟨rfl,rfl,rfl,by decide +kernel,rfl,by decide +kernel,by decide +kernel⟩
theorem Ba (d:zK K mg "_law_place" ge ["_law_items", "_law_name"]) (z_int:mg "int" = none):zN P w K mg base "_law_place" ["_law_items", "_law_name"] 1 (zO K qG):=
 zK.okS d Yu (by decide) Ck fun f cdv A outer s H E hr=>(zP (zj (i:=2) Yu.nd rfl (Or.inl rfl) zH)
  (zP (vw PassesOwn.never rfl (w8 (z7 0)) (uW (yJ (i:=3) Yu.nd rfl (Or.inl rfl)) rfl)
   (zP (yY (zr (yx (yL hr)) yw (zF (z7 3)) (zF (xT (zC zg (zC (z7 1) zI)) (z_ (zT (zT y0)) (by decide)))) (y8 _))
     (zW (yh (z7 2)))
     yi)
    (zW (zj (i:=2) Yu.nd rfl (Or.inl rfl) (zU yo ym (z7 2) (Jr UQ QX rfl z_int UM (xS (zF (ve (vq (yL hr)) vp (zF (za (zY (zQ hr)) zZ (z7 3) zH)) (zF zg) (y8 _))) xZ)))))))
  (zW (yh (tH qC qB zH)))))
noncomputable abbrev gY:Stmt:=top 58
theorem Yt:y9 ["_law_items", "_law_told", "_law_row", "_law_number", "_law_behind", "_law_other"] ["_law_items", "_law_told", "_law_row", "_law_number"] (zo gY):=⟨rfl,rfl,rfl,by decide +kernel,rfl,by decide +kernel,by decide +kernel⟩
theorem BV (d:zK K mg "_law_is_needed" gY ["_law_items", "_law_told", "_law_row", "_law_number"]) (h_next_rows:zN P w K mg base "next_rows" ["items", "number"] 5 (zO K pI)) (h_put:zN P w K mg base "put" ["row"] 2 (zO K wK)):zN P w K mg base "_law_is_needed" ["_law_items", "_law_told", "_law_row", "_law_number"] 6 (zO K qF):=
 zK.okS d Yt (by decide) Cg fun f cdv A outer s H E hr=>(zP (zj (i:=4) Yt.nd rfl (Or.inl rfl) zH)
  (zP (vw PassesOwn.never rfl (w8 (zp h_next_rows hr rfl (zC (z7 0) (zC (z7 3) zI)))) (uW (yJ (i:=5) Yt.nd rfl (Or.inl rfl)) rfl)
   (zW (zj (i:=4) Yt.nd rfl (Or.inl rfl) (zU uS vN (z7 4) (za (zY (zQ hr)) zZ (z7 1) (z7 5))))))
  (zW (yh (ve Qg qf (zF (zU Wm vN (zp h_put hr rfl (zC (z7 2) zI)) (z7 4))) (zF zH) (y8 _))))))
noncomputable abbrev gZ:Stmt:=top 59
theorem tz:y9 ["_law_items", "_law_rows_here", "_law_there", "_law_told", "_law_found", "_law_number", "_law_row", "_law_is_jump_here"] ["_law_items"] (zo gZ):=⟨rfl,rfl,rfl,by decide +kernel,rfl,by decide +kernel,by decide +kernel⟩
theorem BW (d:zK K mg "_law_kinds" gZ ["_law_items"]) (z_range:mg "range" = none) (z_len:mg "len" = none) (h_law_rows:zN P w K mg base "_law_rows" ["_law_items"] 1 (zO K qI)) (h_reached:zN P w K mg base "reached" ["items"] 5 (zO K vR)) (h_needs:zN P w K mg base "needs" ["items"] 6 (zO K vQ)) (h_law_place:zN P w K mg base "_law_place" ["_law_items", "_law_name"] 1 (zO K qG)) (h_law_is_needed:zN P w K mg base "_law_is_needed" ["_law_items", "_law_told", "_law_row", "_law_number"] 6 (zO K qF)):zN P w K mg base "_law_kinds" ["_law_items"] 7 (zO K p9):=
 zK.okS d tz (by decide) Ch fun f cdv A outer s H E hr=>(zP (zj (i:=1) tz.nd rfl (Or.inl rfl) (zp h_law_rows hr rfl (zC (z7 0) zI)))
  (zP (zj (i:=2) tz.nd rfl (Or.inl rfl) (zp h_reached hr rfl (zC (z7 0) zI)))
  (zP (zj (i:=3) tz.nd rfl (Or.inl rfl) (yX (tJ h_needs hr rfl (zC (z7 0) zI))))
  (IB (i:=4) rfl (GB (i:=4) (m:=4) tz.nd rfl (Or.inl rfl) (Zz (Zz (Zz (Zz L5)))))
  (qd (We PassesOwn.never rfl (uX rfl z_range (w6 xy w4 rfl z_len xw (xS (zF (z7 1)) xZ))) (Ju (yJ (i:=5) tz.nd rfl (Or.inl rfl)) rfl)
    (qd (QT (j:=6) tz.nd rfl (Or.inl rfl) (za (zY (zQ hr)) zZ (z7 1) (z7 5)))
     (qd (QT (j:=7) tz.nd rfl (Or.inl rfl) (ve (v0 (zQ hr)) wz (zF (za (zY (zQ hr)) zZ (z7 6) zH)) (zF (xT (zC zg (zC zg (zC zg zI))) (z_ (zT (zT (zT y0))) (by decide)))) (by with_unfolding_all rfl)))
     (qd (g6 (zr (j6 (zQ hr)) j5 (zF (z7 5)) (zF (z7 2)) (by with_unfolding_all rfl))
      (uQ (g5 (zQ hr) (qv 4) zH (z7 5)))
      g7)
     (qd (g6 (u7 (qx (vy (z7 7)) (qy (zr (yx (yL hr)) yw (zF (zp h_law_place hr rfl (zC (z7 0) (zC (za (zY (zQ hr)) zZ (z7 6) (tH qC qB zH)) zI)))) (zF (zU yo ym (z7 5) zH)) (y8 _)))))
      (uQ (g5 (zQ hr) (qv 4) zH (z7 5)))
      g7)
     (qd (g6 (u7 (qx (zr (yx (yL hr)) yw (zF (za (zY (zQ hr)) zZ (z7 6) zH)) (zF zg) (y8 _)) (qy (zr (yx (yL hr)) yw (zF (za (zY (zQ hr)) zZ (z7 6) zH)) (zF (za (zY (zQ hr)) zZ (z7 6) zH)) (y8 _)))))
      (uQ (g5 (zQ hr) (qv 4) zH (z7 5)))
      g7)
     (uQ (g6 (u7 (qx (Yz (vy (z7 7))) (qy (zr (j6 (zQ hr)) j5 (zF (za (zY (zQ hr)) zZ (z7 6) zH)) (zF (xT (zC zg (zC zg (zC zg zI))) (z_ (zT (zT (zT y0))) (by decide)))) (by with_unfolding_all rfl)))))
      (uQ (g6 (Yz (vy (zp h_law_is_needed hr rfl (zC (z7 0) (zC (z7 3) (zC (z7 6) (zC (z7 5) zI)))))))
        (uQ (g5 (zQ hr) (qv 4) zH (z7 5)))
        g7))
      g7))))))))
   (uQ QR))))))
noncomputable abbrev gg:Stmt:=top 60
theorem qt:y9 ["_law_items", "_law_numbers", "_law_found", "_law_number", "_law_item"] ["_law_items"] (zo gg):=⟨rfl,rfl,rfl,by decide +kernel,rfl,by decide +kernel,by decide +kernel⟩
theorem Bc (d:zK K mg "_law_round" gg ["_law_items"]) (z_int:mg "int" = none) (h_led_on:zN P w K mg base "led_on" ["items"] 3 (zO K uE)) (h_law_kinds:zN P w K mg base "_law_kinds" ["_law_items"] 7 (zO K p9)):zN P w K mg base "_law_round" ["_law_items"] 8 (zO K pB):=
 zK.okS d qt (by decide) Cm fun f cdv A outer s H E hr=>(zP (zj (i:=0) qt.nd rfl (Or.inl rfl) (yX (tJ h_led_on hr rfl (zC (z7 0) zI))))
  (zP (vw PassesOwn.never rfl (w8 (zp h_law_kinds hr rfl (zC (z7 0) zI))) (uW (yJ (i:=1) qt.nd rfl (Or.inl rfl)) rfl)
   (zW (yY (zr (vq (yL hr)) vp (zF (z7 1)) (zF (yX (xC zI (z_ y0 (by decide))))) (y8 _))
     (zP (vx (i:=2) qt.nd rfl (Or.inl rfl) (xC zI (z_ y0 (by decide))))
      (zP (zj (i:=3) qt.nd rfl (Or.inl rfl) zH)
      (zP (vw PassesOwn.never rfl (w8 (z7 0)) (uW (yJ (i:=4) qt.nd rfl (Or.inl rfl)) rfl)
       (zP (yY (u7 (Z2 (zr (yx (yL hr)) yw (zF (za (zY (zQ hr)) zZ (z7 4) zH)) (zF zg) (y8 _)) (X0 (zr (j6 (zQ hr)) j5 (zF (z7 3)) (zF (z7 1)) (by with_unfolding_all rfl)))))
         (zW (vv (qv 2) (z7 4)))
         yi)
        (zW (zj (i:=3) qt.nd rfl (Or.inl rfl) (zU yo ym (z7 3) (Jr UQ QX rfl z_int UM (xS (zF (ve (vq (yL hr)) vp (zF (za (zY (zQ hr)) zZ (z7 4) zH)) (zF zg) (y8 _))) xZ)))))))
      (zW (qu 2)))))
     yi)))
  (zW (yh (z7 0)))))
noncomputable abbrev gk:Stmt:=top 61
theorem kW:y9 ["_law_items", "_law_script", "_law_first", "_law_names_here", "_law_found", "_law_k", "_law_mark_here"] ["_law_items", "_law_script", "_law_first"] (zo gk):=⟨rfl,rfl,rfl,by decide +kernel,rfl,by decide +kernel,by decide +kernel⟩
theorem Bf (d:zK K mg "_law_varied" gk ["_law_items", "_law_script", "_law_first"]) (z_range:mg "range" = none) (z_len:mg "len" = none) (h_law_mark:zN P w K mg base "_law_mark" ["_law_script", "_law_k"] 2 (zO K wC)):zN P w K mg base "_law_varied" ["_law_items", "_law_script", "_law_first"] 3 (zO K pD):=
 zK.okS d kW (by decide) Cp fun f cdv A outer s H E hr=>(zP (VQ (i:=3) rfl kW.nd rfl rfl (xl (own:=["_law_item"]) rfl) rfl (w8 (z7 0)) (wO (fun C s H fp pn=>(yJ (i:=7) (show (xB ["_law_items", "_law_script", "_law_first", "_law_names_here", "_law_found", "_law_k", "_law_mark_here"] ["_law_item"]).Nodup by decide +kernel) rfl (Or.inl rfl))) rfl) (fun C s H fp pn=>(tK (zr (yx (yL hr)) yw (zF (za (zY (zQ hr)) zZ (z7 7) zH)) (zF zg) (y8 _)))) (fun C s H fp pn=>(za (zY (zQ hr)) zZ (z7 7) zH)))
  (zP (vx (i:=4) kW.nd rfl (Or.inl rfl) (xC zI (z_ y0 (by decide))))
  (zP (vw PassesOwn.never rfl (uX rfl z_range (w6 xy w4 rfl z_len xw (xS (zF (z7 0)) xZ))) (uW (yJ (i:=5) kW.nd rfl (Or.inl rfl)) rfl)
   (zP (zj (i:=6) kW.nd rfl (Or.inl rfl) (zp h_law_mark hr rfl (zC (z7 1) (zC (zU yo ym (z7 2) (z7 5)) zI))))
    (zW (yY (u7 (Z2 (zr (yx (yL hr)) yw (zF (za (zY (zQ hr)) zZ (za (zY (zQ hr)) zZ (z7 0) (z7 5)) zH)) (zF zg) (y8 _)) (Z2 (zr gA qf (zF (zU yq yn (z7 6) zH)) (zF zH) (y8 _)) (X0 (zr (yx (yL hr)) yw (zF (z7 3)) (zF (yX (xC zI (z_ y0 (by decide))))) (y8 _))))))
     (zW (vv (qv 4) (za (zY (zQ hr)) zZ (z7 0) (z7 5))))
     (zW (yY (zr (yx (yL hr)) yw (zF (zU yq yn (z7 6) zH)) (zF zH) (y8 _))
       (zW (vv (qv 4) (xT (zC zg (zC (za (zY (zQ hr)) zZ (z7 3) (zU yq yn (zU w_ wy (z7 6) zH) (w6 xy w4 rfl z_len xw (xS (zF (z7 3)) xZ)))) zI)) (z_ (zT (zT y0)) (by decide)))))
       (zW (vv (qv 4) (xT (zC zg (zC (zU yq yn (zU w_ wy (z7 6) zH) zH) (zC (zU yq yn (zU w_ wy (z7 6) zH) zH) zI))) (z_ (zT (zT (zT y0))) (by decide)))))))))))
  (zW (qu 4)))))
noncomputable abbrev qp:Stmt:=top 62
theorem qq:y9 ["_law_script", "_law_items", "_law_due", "_law_turn", "_law_more"] ["_law_script"] (zo qp):=⟨rfl,rfl,rfl,by decide +kernel,rfl,by decide +kernel,by decide +kernel⟩
theorem BT {f:Addr} {fd:FuncData} (d:tO K "law" "law" qp f fd) (z_list:mg "list" = none) (z_range:mg "range" = none) (z_len:mg "len" = none) (h_law_program_by:zN P w K mg base "_law_program_by" ["_law_script", "_law_first", "_law_most"] 3 (zO K qH)) (h_law_mark:zN P w K mg base "_law_mark" ["_law_script", "_law_k"] 2 (zO K wC)) (h_law_varied:zN P w K mg base "_law_varied" ["_law_items", "_law_script", "_law_first"] 3 (zO K pD)) (h_law_round:zN P w K mg base "_law_round" ["_law_items"] 8 (zO K pB)) (h_short:zN P w K mg base "short" ["items"] 9 (zO K qK)) (h_plain:zN P w K mg base "plain" ["items"] 4 (zO K ui)):v7 P w K mg base v4 10 f fd ["_law_script"] (Z0 K):=
 Mi d qq (by decide) Ce fun cdv A outer s H E hr=>(zP (zj (i:=1) qq.nd rfl (Or.inl rfl) (yX (tJ h_law_program_by hr rfl (zC (z7 0) (zC zH (zC zH zI))))))
  (zP (yY (zr (yx (yL hr)) yw (zF (zU yq yn (zp h_law_mark hr rfl (zC (z7 0) (zC zH zI))) zH)) (zF zH) (y8 _))
   (zW (zj (i:=1) qq.nd rfl (Or.inl rfl) (zp h_law_varied hr rfl (zC (z7 1) (zC (z7 0) (zC zH zI))))))
   yi)
  (zP (zj (i:=2) qq.nd rfl (Or.inl rfl) (yX (Eh rfl z_list (zC (z7 1) zI))))
  (zP (vw PassesOwn.never rfl (uX rfl z_range (zU yo ym (zU gB Wj zH (w6 xy w4 rfl z_len xw (xS (zF (z7 1)) xZ))) zH)) (uW (yJ (i:=3) qq.nd rfl (Or.inl rfl)) rfl)
   (zP (zj (i:=4) qq.nd rfl (Or.inl rfl) (zp h_law_round hr rfl (zC (z7 2) zI)))
    (zP (yY (zr (yx (yL hr)) yw (zF (z7 4)) (zF (z7 2)) (y8 _))
     (zW (yh (ve (yx (yL hr)) yw (zF (yX (tJ h_short hr rfl (zC (z7 1) zI)))) (zF (yX (tJ h_plain hr rfl (zC (z7 2) zI)))) (y8 _))))
     yi)
    (zW (zj (i:=2) qq.nd rfl (Or.inl rfl) (z7 4))))))
  (zW (yh kj))))))
end
theorem all_mk {l:PySem.W.OpenLaw} {w:World} {K:PySem.W.Frag} {h:Heap} {mg:Str->Option Value} {fa:Addr} (X:K.In h) (G:h.Ns mainGlobals mg) (hfa:mg "law" = some (.ref fa))
  {f0:Addr} {od0 an0:Option Addr} {sl0:Array (Option Value)} {oc0 kV0 dc0 pm0 cd0 ct0:Value}
  {f1:Addr} {od1 an1:Option Addr} {sl1:Array (Option Value)} {oc1 kV1 dc1 pm1 cd1 ct1:Value}
  {f2:Addr} {od2 an2:Option Addr} {sl2:Array (Option Value)} {oc2 kV2 dc2 pm2 cd2 ct2:Value}
  {f3:Addr} {od3 an3:Option Addr} {sl3:Array (Option Value)} {oc3 kV3 dc3 pm3 cd3 ct3:Value}
  {f4:Addr} {od4 an4:Option Addr} {sl4:Array (Option Value)} {oc4 kV4 dc4 pm4 cd4 ct4:Value}
  {f5:Addr} {od5 an5:Option Addr} {sl5:Array (Option Value)} {oc5 kV5 dc5 pm5 cd5 ct5:Value}
  {f6:Addr} {od6 an6:Option Addr} {sl6:Array (Option Value)} {oc6 kV6 dc6 pm6 cd6 ct6:Value}
  {f7:Addr} {od7 an7:Option Addr} {sl7:Array (Option Value)} {oc7 kV7 dc7 pm7 cd7 ct7:Value}
  {f8:Addr} {od8 an8:Option Addr} {sl8:Array (Option Value)} {oc8 kV8 dc8 pm8 cd8 ct8:Value}
  {f9:Addr} {od9 an9:Option Addr} {sl9:Array (Option Value)} {oc9 kV9 dc9 pm9 cd9 ct9:Value}
  {f10:Addr} {od10 an10:Option Addr} {sl10:Array (Option Value)} {oc10 kV10 dc10 pm10 cd10 ct10:Value}
  {f11:Addr} {od11 an11:Option Addr} {sl11:Array (Option Value)} {oc11 kV11 dc11 pm11 cd11 ct11:Value}
  {f12:Addr} {od12 an12:Option Addr} {sl12:Array (Option Value)} {oc12 kV12 dc12 pm12 cd12 ct12:Value}
  {f13:Addr} {od13 an13:Option Addr} {sl13:Array (Option Value)} {oc13 kV13 dc13 pm13 cd13 ct13:Value}
  {f14:Addr} {od14 an14:Option Addr} {sl14:Array (Option Value)} {oc14 kV14 dc14 pm14 cd14 ct14:Value}
  {f15:Addr} {od15 an15:Option Addr} {sl15:Array (Option Value)} {oc15 kV15 dc15 pm15 cd15 ct15:Value}
  {f16:Addr} {od16 an16:Option Addr} {sl16:Array (Option Value)} {oc16 kV16 dc16 pm16 cd16 ct16:Value}
  {f17:Addr} {od17 an17:Option Addr} {sl17:Array (Option Value)} {oc17 kV17 dc17 pm17 cd17 ct17:Value}
  {f18:Addr} {od18 an18:Option Addr} {sl18:Array (Option Value)} {oc18 kV18 dc18 pm18 cd18 ct18:Value}
  {f19:Addr} {od19 an19:Option Addr} {sl19:Array (Option Value)} {oc19 kV19 dc19 pm19 cd19 ct19:Value}
  {f20:Addr} {od20 an20:Option Addr} {sl20:Array (Option Value)} {oc20 kV20 dc20 pm20 cd20 ct20:Value}
  {f21:Addr} {od21 an21:Option Addr} {sl21:Array (Option Value)} {oc21 kV21 dc21 pm21 cd21 ct21:Value}
  {f22:Addr} {od22 an22:Option Addr} {sl22:Array (Option Value)} {oc22 kV22 dc22 pm22 cd22 ct22:Value}
  {f23:Addr} {od23 an23:Option Addr} {sl23:Array (Option Value)} {oc23 kV23 dc23 pm23 cd23 ct23:Value}
  {f24:Addr} {od24 an24:Option Addr} {sl24:Array (Option Value)} {oc24 kV24 dc24 pm24 cd24 ct24:Value}
  {f25:Addr} {od25 an25:Option Addr} {sl25:Array (Option Value)} {oc25 kV25 dc25 pm25 cd25 ct25:Value}
  {f26:Addr} {od26 an26:Option Addr} {sl26:Array (Option Value)} {oc26 kV26 dc26 pm26 cd26 ct26:Value}
  {f27:Addr} {od27 an27:Option Addr} {sl27:Array (Option Value)} {oc27 kV27 dc27 pm27 cd27 ct27:Value}
  {f28:Addr} {od28 an28:Option Addr} {sl28:Array (Option Value)} {oc28 kV28 dc28 pm28 cd28 ct28:Value}
  {f29:Addr} {od29 an29:Option Addr} {sl29:Array (Option Value)} {oc29 kV29 dc29 pm29 cd29 ct29:Value}
  {f30:Addr} {od30 an30:Option Addr} {sl30:Array (Option Value)} {oc30 kV30 dc30 pm30 cd30 ct30:Value}
  {f31:Addr} {od31 an31:Option Addr} {sl31:Array (Option Value)} {oc31 kV31 dc31 pm31 cd31 ct31:Value}
  {f32:Addr} {od32 an32:Option Addr} {sl32:Array (Option Value)} {oc32 kV32 dc32 pm32 cd32 ct32:Value}
  {f33:Addr} {od33 an33:Option Addr} {sl33:Array (Option Value)} {oc33 kV33 dc33 pm33 cd33 ct33:Value}
  {f34:Addr} {od34 an34:Option Addr} {sl34:Array (Option Value)} {oc34 kV34 dc34 pm34 cd34 ct34:Value}
  {f35:Addr} {od35 an35:Option Addr} {sl35:Array (Option Value)} {oc35 kV35 dc35 pm35 cd35 ct35:Value}
  {f36:Addr} {od36 an36:Option Addr} {sl36:Array (Option Value)} {oc36 kV36 dc36 pm36 cd36 ct36:Value}
  {f37:Addr} {od37 an37:Option Addr} {sl37:Array (Option Value)} {oc37 kV37 dc37 pm37 cd37 ct37:Value}
  {f38:Addr} {od38 an38:Option Addr} {sl38:Array (Option Value)} {oc38 kV38 dc38 pm38 cd38 ct38:Value}
  {f39:Addr} {od39 an39:Option Addr} {sl39:Array (Option Value)} {oc39 kV39 dc39 pm39 cd39 ct39:Value}
  {f40:Addr} {od40 an40:Option Addr} {sl40:Array (Option Value)} {oc40 kV40 dc40 pm40 cd40 ct40:Value}
  {f41:Addr} {od41 an41:Option Addr} {sl41:Array (Option Value)} {oc41 kV41 dc41 pm41 cd41 ct41:Value}
  {f42:Addr} {od42 an42:Option Addr} {sl42:Array (Option Value)} {oc42 kV42 dc42 pm42 cd42 ct42:Value}
  (a0:PySem.W.nsIn K mainGlobals "is_label" = some (some (.ref f0)))
  (l0:K.lookup f0=yH "is_label" gS oc0 od0 sl0 kV0 dc0 pm0 an0 cd0 ct0)
  (c0:PySem.W.codeIn K cd0 "is_label" = true) (k0:PySem.W.keepIn K (.ref f0)=true)
  (a1:PySem.W.nsIn K mainGlobals "is_jump" = some (some (.ref f1)))
  (l1:K.lookup f1=yH "is_jump" gR oc1 od1 sl1 kV1 dc1 pm1 an1 cd1 ct1)
  (c1:PySem.W.codeIn K cd1 "is_jump" = true) (k1:PySem.W.keepIn K (.ref f1)=true)
  (a2:PySem.W.nsIn K mainGlobals "rows_of" = some (some (.ref f2)))
  (l2:K.lookup f2=yH "rows_of" kJ oc2 od2 sl2 kV2 dc2 pm2 an2 cd2 ct2)
  (c2:PySem.W.codeIn K cd2 "rows_of" = true) (k2:PySem.W.keepIn K (.ref f2)=true)
  (a3:PySem.W.nsIn K mainGlobals "label_places" = some (some (.ref f3)))
  (l3:K.lookup f3=yH "label_places" gT oc3 od3 sl3 kV3 dc3 pm3 an3 cd3 ct3)
  (c3:PySem.W.codeIn K cd3 "label_places" = true) (k3:PySem.W.keepIn K (.ref f3)=true)
  (a4:PySem.W.nsIn K mainGlobals "targets_of" = some (some (.ref f4)))
  (l4:K.lookup f4=yH "targets_of" kL oc4 od4 sl4 kV4 dc4 pm4 an4 cd4 ct4)
  (c4:PySem.W.codeIn K cd4 "targets_of" = true) (k4:PySem.W.keepIn K (.ref f4)=true)
  (a5:PySem.W.nsIn K mainGlobals "mark_bit" = some (some (.ref f5)))
  (l5:K.lookup f5=yH "mark_bit" gx oc5 od5 sl5 kV5 dc5 pm5 an5 cd5 ct5)
  (c5:PySem.W.codeIn K cd5 "mark_bit" = true) (k5:PySem.W.keepIn K (.ref f5)=true)
  (a6:PySem.W.nsIn K mainGlobals "moves_by_nought" = some (some (.ref f6)))
  (l6:K.lookup f6=yH "moves_by_nought" gy oc6 od6 sl6 kV6 dc6 pm6 an6 cd6 ct6)
  (c6:PySem.W.codeIn K cd6 "moves_by_nought" = true) (k6:PySem.W.keepIn K (.ref f6)=true)
  (a7:PySem.W.nsIn K mainGlobals "used" = some (some (.ref f7)))
  (l7:K.lookup f7=yH "used" kN oc7 od7 sl7 kV7 dc7 pm7 an7 cd7 ct7)
  (c7:PySem.W.codeIn K cd7 "used" = true) (k7:PySem.W.keepIn K (.ref f7)=true)
  (a8:PySem.W.nsIn K mainGlobals "put" = some (some (.ref f8)))
  (l8:K.lookup f8=yH "put" kG oc8 od8 sl8 kV8 dc8 pm8 an8 cd8 ct8)
  (c8:PySem.W.codeIn K cd8 "put" = true) (k8:PySem.W.keepIn K (.ref f8)=true)
  (a9:PySem.W.nsIn K mainGlobals "ways_from" = some (some (.ref f9)))
  (l9:K.lookup f9=yH "ways_from" kO oc9 od9 sl9 kV9 dc9 pm9 an9 cd9 ct9)
  (c9:PySem.W.codeIn K cd9 "ways_from" = true) (k9:PySem.W.keepIn K (.ref f9)=true)
  (a10:PySem.W.nsIn K mainGlobals "ways_of" = some (some (.ref f10)))
  (l10:K.lookup f10=yH "ways_of" kP oc10 od10 sl10 kV10 dc10 pm10 an10 cd10 ct10)
  (c10:PySem.W.codeIn K cd10 "ways_of" = true) (k10:PySem.W.keepIn K (.ref f10)=true)
  (a11:PySem.W.nsIn K mainGlobals "next_rows" = some (some (.ref f11)))
  (l11:K.lookup f11=yH "next_rows" kC oc11 od11 sl11 kV11 dc11 pm11 an11 cd11 ct11)
  (c11:PySem.W.codeIn K cd11 "next_rows" = true) (k11:PySem.W.keepIn K (.ref f11)=true)
  (a12:PySem.W.nsIn K mainGlobals "needed_at" = some (some (.ref f12)))
  (l12:K.lookup f12=yH "needed_at" kA oc12 od12 sl12 kV12 dc12 pm12 an12 cd12 ct12)
  (c12:PySem.W.codeIn K cd12 "needed_at" = true) (k12:PySem.W.keepIn K (.ref f12)=true)
  (a13:PySem.W.nsIn K mainGlobals "comers_of" = some (some (.ref f13)))
  (l13:K.lookup f13=yH "comers_of" gO oc13 od13 sl13 kV13 dc13 pm13 an13 cd13 ct13)
  (c13:PySem.W.codeIn K cd13 "comers_of" = true) (k13:PySem.W.keepIn K (.ref f13)=true)
  (a14:PySem.W.nsIn K mainGlobals "reached" = some (some (.ref f14)))
  (l14:K.lookup f14=yH "reached" kH oc14 od14 sl14 kV14 dc14 pm14 an14 cd14 ct14)
  (c14:PySem.W.codeIn K cd14 "reached" = true) (k14:PySem.W.keepIn K (.ref f14)=true)
  (a15:PySem.W.nsIn K mainGlobals "needs" = some (some (.ref f15)))
  (l15:K.lookup f15=yH "needs" kB oc15 od15 sl15 kV15 dc15 pm15 an15 cd15 ct15)
  (c15:PySem.W.codeIn K cd15 "needs" = true) (k15:PySem.W.keepIn K (.ref f15)=true)
  (a16:PySem.W.nsIn K mainGlobals "not_reached" = some (some (.ref f16)))
  (l16:K.lookup f16=yH "not_reached" kE oc16 od16 sl16 kV16 dc16 pm16 an16 cd16 ct16)
  (c16:PySem.W.codeIn K cd16 "not_reached" = true) (k16:PySem.W.keepIn K (.ref f16)=true)
  (a17:PySem.W.nsIn K mainGlobals "to_the_next_row" = some (some (.ref f17)))
  (l17:K.lookup f17=yH "to_the_next_row" kM oc17 od17 sl17 kV17 dc17 pm17 an17 cd17 ct17)
  (c17:PySem.W.codeIn K cd17 "to_the_next_row" = true) (k17:PySem.W.keepIn K (.ref f17)=true)
  (a18:PySem.W.nsIn K mainGlobals "copied_to_itself" = some (some (.ref f18)))
  (l18:K.lookup f18=yH "copied_to_itself" gP oc18 od18 sl18 kV18 dc18 pm18 an18 cd18 ct18)
  (c18:PySem.W.codeIn K cd18 "copied_to_itself" = true) (k18:PySem.W.keepIn K (.ref f18)=true)
  (a19:PySem.W.nsIn K mainGlobals "not_needed" = some (some (.ref f19)))
  (l19:K.lookup f19=yH "not_needed" kD oc19 od19 sl19 kV19 dc19 pm19 an19 cd19 ct19)
  (c19:PySem.W.codeIn K cd19 "not_needed" = true) (k19:PySem.W.keepIn K (.ref f19)=true)
  (a20:PySem.W.nsIn K mainGlobals "idle_of_one_kind" = some (some (.ref f20)))
  (l20:K.lookup f20=yH "idle_of_one_kind" gQ oc20 od20 sl20 kV20 dc20 pm20 an20 cd20 ct20)
  (c20:PySem.W.codeIn K cd20 "idle_of_one_kind" = true) (k20:PySem.W.keepIn K (.ref f20)=true)
  (a21:PySem.W.nsIn K mainGlobals "without" = some (some (.ref f21)))
  (l21:K.lookup f21=yH "without" kQ oc21 od21 sl21 kV21 dc21 pm21 an21 cd21 ct21)
  (c21:PySem.W.codeIn K cd21 "without" = true) (k21:PySem.W.keepIn K (.ref f21)=true)
  (a22:PySem.W.nsIn K mainGlobals "leads_on" = some (some (.ref f22)))
  (l22:K.lookup f22=yH "leads_on" gr oc22 od22 sl22 kV22 dc22 pm22 an22 cd22 ct22)
  (c22:PySem.W.codeIn K cd22 "leads_on" = true) (k22:PySem.W.keepIn K (.ref f22)=true)
  (a23:PySem.W.nsIn K mainGlobals "last_name" = some (some (.ref f23)))
  (l23:K.lookup f23=yH "last_name" gW oc23 od23 sl23 kV23 dc23 pm23 an23 cd23 ct23)
  (c23:PySem.W.codeIn K cd23 "last_name" = true) (k23:PySem.W.keepIn K (.ref f23)=true)
  (a24:PySem.W.nsIn K mainGlobals "led_on" = some (some (.ref f24)))
  (l24:K.lookup f24=yH "led_on" gu oc24 od24 sl24 kV24 dc24 pm24 an24 cd24 ct24)
  (c24:PySem.W.codeIn K cd24 "led_on" = true) (k24:PySem.W.keepIn K (.ref f24)=true)
  (a25:PySem.W.nsIn K mainGlobals "name_of" = some (some (.ref f25)))
  (l25:K.lookup f25=yH "name_of" gz oc25 od25 sl25 kV25 dc25 pm25 an25 cd25 ct25)
  (c25:PySem.W.codeIn K cd25 "name_of" = true) (k25:PySem.W.keepIn K (.ref f25)=true)
  (a26:PySem.W.nsIn K mainGlobals "names_of_places" = some (some (.ref f26)))
  (l26:K.lookup f26=yH "names_of_places" g_ oc26 od26 sl26 kV26 dc26 pm26 an26 cd26 ct26)
  (c26:PySem.W.codeIn K cd26 "names_of_places" = true) (k26:PySem.W.keepIn K (.ref f26)=true)
  (a27:PySem.W.nsIn K mainGlobals "labelled" = some (some (.ref f27)))
  (l27:K.lookup f27=yH "labelled" gU oc27 od27 sl27 kV27 dc27 pm27 an27 cd27 ct27)
  (c27:PySem.W.codeIn K cd27 "labelled" = true) (k27:PySem.W.keepIn K (.ref f27)=true)
  (a28:PySem.W.nsIn K mainGlobals "plain" = some (some (.ref f28)))
  (l28:K.lookup f28=yH "plain" kF oc28 od28 sl28 kV28 dc28 pm28 an28 cd28 ct28)
  (c28:PySem.W.codeIn K cd28 "plain" = true) (k28:PySem.W.keepIn K (.ref f28)=true)
  (a29:PySem.W.nsIn K mainGlobals "short" = some (some (.ref f29)))
  (l29:K.lookup f29=yH "short" kK oc29 od29 sl29 kV29 dc29 pm29 an29 cd29 ct29)
  (c29:PySem.W.codeIn K cd29 "short" = true) (k29:PySem.W.keepIn K (.ref f29)=true)
  (a30:PySem.W.nsIn K mainGlobals "_law_cell_at" = some (some (.ref f30)))
  (l30:K.lookup f30=yH "_law_cell_at" gX oc30 od30 sl30 kV30 dc30 pm30 an30 cd30 ct30)
  (c30:PySem.W.codeIn K cd30 "_law_cell_at" = true) (k30:PySem.W.keepIn K (.ref f30)=true)
  (a31:PySem.W.nsIn K mainGlobals "_law_mark" = some (some (.ref f31)))
  (l31:K.lookup f31=yH "_law_mark" gb oc31 od31 sl31 kV31 dc31 pm31 an31 cd31 ct31)
  (c31:PySem.W.codeIn K cd31 "_law_mark" = true) (k31:PySem.W.keepIn K (.ref f31)=true)
  (a32:PySem.W.nsIn K mainGlobals "_law_words" = some (some (.ref f32)))
  (l32:K.lookup f32=yH "_law_words" gm oc32 od32 sl32 kV32 dc32 pm32 an32 cd32 ct32)
  (c32:PySem.W.codeIn K cd32 "_law_words" = true) (k32:PySem.W.keepIn K (.ref f32)=true)
  (a33:PySem.W.nsIn K mainGlobals "_law_row_by" = some (some (.ref f33)))
  (l33:K.lookup f33=yH "_law_row_by" gi oc33 od33 sl33 kV33 dc33 pm33 an33 cd33 ct33)
  (c33:PySem.W.codeIn K cd33 "_law_row_by" = true) (k33:PySem.W.keepIn K (.ref f33)=true)
  (a34:PySem.W.nsIn K mainGlobals "_law_names" = some (some (.ref f34)))
  (l34:K.lookup f34=yH "_law_names" gd oc34 od34 sl34 kV34 dc34 pm34 an34 cd34 ct34)
  (c34:PySem.W.codeIn K cd34 "_law_names" = true) (k34:PySem.W.keepIn K (.ref f34)=true)
  (a35:PySem.W.nsIn K mainGlobals "_law_program_by" = some (some (.ref f35)))
  (l35:K.lookup f35=yH "_law_program_by" gf oc35 od35 sl35 kV35 dc35 pm35 an35 cd35 ct35)
  (c35:PySem.W.codeIn K cd35 "_law_program_by" = true) (k35:PySem.W.keepIn K (.ref f35)=true)
  (a36:PySem.W.nsIn K mainGlobals "_law_rows" = some (some (.ref f36)))
  (l36:K.lookup f36=yH "_law_rows" gj oc36 od36 sl36 kV36 dc36 pm36 an36 cd36 ct36)
  (c36:PySem.W.codeIn K cd36 "_law_rows" = true) (k36:PySem.W.keepIn K (.ref f36)=true)
  (a37:PySem.W.nsIn K mainGlobals "_law_place" = some (some (.ref f37)))
  (l37:K.lookup f37=yH "_law_place" ge oc37 od37 sl37 kV37 dc37 pm37 an37 cd37 ct37)
  (c37:PySem.W.codeIn K cd37 "_law_place" = true) (k37:PySem.W.keepIn K (.ref f37)=true)
  (a38:PySem.W.nsIn K mainGlobals "_law_is_needed" = some (some (.ref f38)))
  (l38:K.lookup f38=yH "_law_is_needed" gY oc38 od38 sl38 kV38 dc38 pm38 an38 cd38 ct38)
  (c38:PySem.W.codeIn K cd38 "_law_is_needed" = true) (k38:PySem.W.keepIn K (.ref f38)=true)
  (a39:PySem.W.nsIn K mainGlobals "_law_kinds" = some (some (.ref f39)))
  (l39:K.lookup f39=yH "_law_kinds" gZ oc39 od39 sl39 kV39 dc39 pm39 an39 cd39 ct39)
  (c39:PySem.W.codeIn K cd39 "_law_kinds" = true) (k39:PySem.W.keepIn K (.ref f39)=true)
  (a40:PySem.W.nsIn K mainGlobals "_law_round" = some (some (.ref f40)))
  (l40:K.lookup f40=yH "_law_round" gg oc40 od40 sl40 kV40 dc40 pm40 an40 cd40 ct40)
  (c40:PySem.W.codeIn K cd40 "_law_round" = true) (k40:PySem.W.keepIn K (.ref f40)=true)
  (a41:PySem.W.nsIn K mainGlobals "_law_varied" = some (some (.ref f41)))
  (l41:K.lookup f41=yH "_law_varied" gk oc41 od41 sl41 kV41 dc41 pm41 an41 cd41 ct41)
  (c41:PySem.W.codeIn K cd41 "_law_varied" = true) (k41:PySem.W.keepIn K (.ref f41)=true)
  (a42:PySem.W.nsIn K mainGlobals "law" = some (some (.ref f42)))
  (l42:K.lookup f42=yH "law" qp oc42 od42 sl42 kV42 dc42 pm42 an42 cd42 ct42)
  (c42:PySem.W.codeIn K cd42 "law" = true) (k42:PySem.W.keepIn K (.ref f42)=true)
  (nz_sorted:PySem.W.nsIn K mainGlobals "sorted" = some none)
  (nz_set:PySem.W.nsIn K mainGlobals "set" = some none)
  (nz_enumerate:PySem.W.nsIn K mainGlobals "enumerate" = some none)
  (nz_range:PySem.W.nsIn K mainGlobals "range" = some none)
  (nz_len:PySem.W.nsIn K mainGlobals "len" = some none)
  (nz_list:PySem.W.nsIn K mainGlobals "list" = some none)
  (nz_dict:PySem.W.nsIn K mainGlobals "dict" = some none)
  (nz_int:PySem.W.nsIn K mainGlobals "int" = some none)
  {A_JUMPS:Addr} {n_JUMPS:Nat} {sl_JUMPS:Array (Option Value)} {u0_JUMPS u1_JUMPS u2_JUMPS:Tok} (ng_JUMPS:PySem.W.nsIn K mainGlobals "JUMPS" = some (some (.ref A_JUMPS)))
  (nq_JUMPS:K.lookup A_JUMPS=some ⟨.type "tuple",none,.seq #[.str "jump" u0_JUMPS,.str "when" u1_JUMPS,.str "unless" u2_JUMPS] n_JUMPS,sl_JUMPS⟩)
  {tg_MARK_LOW:Tok} (ng_MARK_LOW:PySem.W.nsIn K mainGlobals "MARK_LOW" = some (some (.int 8 tg_MARK_LOW)))
  {A_MARKS:Addr} {n_MARKS:Nat} {sl_MARKS:Array (Option Value)} {u0_MARKS u1_MARKS u2_MARKS:Tok} (ng_MARKS:PySem.W.nsIn K mainGlobals "MARKS" = some (some (.ref A_MARKS)))
  (nq_MARKS:K.lookup A_MARKS=some ⟨.type "tuple",none,.seq #[.str "carry" u0_MARKS,.str "nought" u1_MARKS,.str "sign" u2_MARKS] n_MARKS,sl_MARKS⟩)
  {tg_ALL_NEEDED:Tok} (ng_ALL_NEEDED:PySem.W.nsIn K mainGlobals "ALL_NEEDED" = some (some (.int 2047 tg_ALL_NEEDED)))
  {A_LOOK_AT_D:Addr} {n_LOOK_AT_D:Nat} {sl_LOOK_AT_D:Array (Option Value)} {u0_LOOK_AT_D u1_LOOK_AT_D u2_LOOK_AT_D u3_LOOK_AT_D u4_LOOK_AT_D u5_LOOK_AT_D u6_LOOK_AT_D u7_LOOK_AT_D u8_LOOK_AT_D u9_LOOK_AT_D u10_LOOK_AT_D u11_LOOK_AT_D u12_LOOK_AT_D:Tok} (ng_LOOK_AT_D:PySem.W.nsIn K mainGlobals "LOOK_AT_D" = some (some (.ref A_LOOK_AT_D)))
  (nq_LOOK_AT_D:K.lookup A_LOOK_AT_D=some ⟨.type "tuple",none,.seq #[.str "high" u0_LOOK_AT_D,.str "left" u1_LOOK_AT_D,.str "right" u2_LOOK_AT_D,.str "add" u3_LOOK_AT_D,.str "addc" u4_LOOK_AT_D,.str "sub" u5_LOOK_AT_D,.str "subc" u6_LOOK_AT_D,.str "and" u7_LOOK_AT_D,.str "or" u8_LOOK_AT_D,.str "xor" u9_LOOK_AT_D,.str "test" u10_LOOK_AT_D,.str "store" u11_LOOK_AT_D,.str "storew" u12_LOOK_AT_D] n_LOOK_AT_D,sl_LOOK_AT_D⟩)
  {A_LOOK_AT_S:Addr} {n_LOOK_AT_S:Nat} {sl_LOOK_AT_S:Array (Option Value)} {u0_LOOK_AT_S u1_LOOK_AT_S u2_LOOK_AT_S u3_LOOK_AT_S u4_LOOK_AT_S u5_LOOK_AT_S u6_LOOK_AT_S u7_LOOK_AT_S u8_LOOK_AT_S u9_LOOK_AT_S u10_LOOK_AT_S u11_LOOK_AT_S u12_LOOK_AT_S:Tok} (ng_LOOK_AT_S:PySem.W.nsIn K mainGlobals "LOOK_AT_S" = some (some (.ref A_LOOK_AT_S)))
  (nq_LOOK_AT_S:K.lookup A_LOOK_AT_S=some ⟨.type "tuple",none,.seq #[.str "copy" u0_LOOK_AT_S,.str "load" u1_LOOK_AT_S,.str "loadw" u2_LOOK_AT_S,.str "add" u3_LOOK_AT_S,.str "addc" u4_LOOK_AT_S,.str "sub" u5_LOOK_AT_S,.str "subc" u6_LOOK_AT_S,.str "and" u7_LOOK_AT_S,.str "or" u8_LOOK_AT_S,.str "xor" u9_LOOK_AT_S,.str "test" u10_LOOK_AT_S,.str "store" u11_LOOK_AT_S,.str "storew" u12_LOOK_AT_S] n_LOOK_AT_S,sl_LOOK_AT_S⟩)
  {A_LOOK_AT_CARRY:Addr} {n_LOOK_AT_CARRY:Nat} {sl_LOOK_AT_CARRY:Array (Option Value)} {u0_LOOK_AT_CARRY u1_LOOK_AT_CARRY:Tok} (ng_LOOK_AT_CARRY:PySem.W.nsIn K mainGlobals "LOOK_AT_CARRY" = some (some (.ref A_LOOK_AT_CARRY)))
  (nq_LOOK_AT_CARRY:K.lookup A_LOOK_AT_CARRY=some ⟨.type "tuple",none,.seq #[.str "addc" u0_LOOK_AT_CARRY,.str "subc" u1_LOOK_AT_CARRY] n_LOOK_AT_CARRY,sl_LOOK_AT_CARRY⟩)
  {A_PUT_D:Addr} {n_PUT_D:Nat} {sl_PUT_D:Array (Option Value)} {u0_PUT_D u1_PUT_D u2_PUT_D u3_PUT_D u4_PUT_D u5_PUT_D u6_PUT_D u7_PUT_D u8_PUT_D u9_PUT_D u10_PUT_D u11_PUT_D u12_PUT_D u13_PUT_D:Tok} (ng_PUT_D:PySem.W.nsIn K mainGlobals "PUT_D" = some (some (.ref A_PUT_D)))
  (nq_PUT_D:K.lookup A_PUT_D=some ⟨.type "tuple",none,.seq #[.str "set" u0_PUT_D,.str "high" u1_PUT_D,.str "copy" u2_PUT_D,.str "load" u3_PUT_D,.str "loadw" u4_PUT_D,.str "add" u5_PUT_D,.str "addc" u6_PUT_D,.str "sub" u7_PUT_D,.str "subc" u8_PUT_D,.str "and" u9_PUT_D,.str "or" u10_PUT_D,.str "xor" u11_PUT_D,.str "left" u12_PUT_D,.str "right" u13_PUT_D] n_PUT_D,sl_PUT_D⟩)
  {A_PUT_NOUGHT_AND_SIGN:Addr} {n_PUT_NOUGHT_AND_SIGN:Nat} {sl_PUT_NOUGHT_AND_SIGN:Array (Option Value)} {u0_PUT_NOUGHT_AND_SIGN u1_PUT_NOUGHT_AND_SIGN u2_PUT_NOUGHT_AND_SIGN u3_PUT_NOUGHT_AND_SIGN u4_PUT_NOUGHT_AND_SIGN u5_PUT_NOUGHT_AND_SIGN u6_PUT_NOUGHT_AND_SIGN u7_PUT_NOUGHT_AND_SIGN u8_PUT_NOUGHT_AND_SIGN u9_PUT_NOUGHT_AND_SIGN:Tok} (ng_PUT_NOUGHT_AND_SIGN:PySem.W.nsIn K mainGlobals "PUT_NOUGHT_AND_SIGN" = some (some (.ref A_PUT_NOUGHT_AND_SIGN)))
  (nq_PUT_NOUGHT_AND_SIGN:K.lookup A_PUT_NOUGHT_AND_SIGN=some ⟨.type "tuple",none,.seq #[.str "add" u0_PUT_NOUGHT_AND_SIGN,.str "addc" u1_PUT_NOUGHT_AND_SIGN,.str "sub" u2_PUT_NOUGHT_AND_SIGN,.str "subc" u3_PUT_NOUGHT_AND_SIGN,.str "test" u4_PUT_NOUGHT_AND_SIGN,.str "and" u5_PUT_NOUGHT_AND_SIGN,.str "or" u6_PUT_NOUGHT_AND_SIGN,.str "xor" u7_PUT_NOUGHT_AND_SIGN,.str "left" u8_PUT_NOUGHT_AND_SIGN,.str "right" u9_PUT_NOUGHT_AND_SIGN] n_PUT_NOUGHT_AND_SIGN,sl_PUT_NOUGHT_AND_SIGN⟩)
  {A_PUT_CARRY:Addr} {n_PUT_CARRY:Nat} {sl_PUT_CARRY:Array (Option Value)} {u0_PUT_CARRY u1_PUT_CARRY u2_PUT_CARRY u3_PUT_CARRY u4_PUT_CARRY u5_PUT_CARRY u6_PUT_CARRY:Tok} (ng_PUT_CARRY:PySem.W.nsIn K mainGlobals "PUT_CARRY" = some (some (.ref A_PUT_CARRY)))
  (nq_PUT_CARRY:K.lookup A_PUT_CARRY=some ⟨.type "tuple",none,.seq #[.str "add" u0_PUT_CARRY,.str "addc" u1_PUT_CARRY,.str "sub" u2_PUT_CARRY,.str "subc" u3_PUT_CARRY,.str "test" u4_PUT_CARRY,.str "left" u5_PUT_CARRY,.str "right" u6_PUT_CARRY] n_PUT_CARRY,sl_PUT_CARRY⟩)
  {tg_LETTERS:Tok} (ng_LETTERS:PySem.W.nsIn K mainGlobals "LETTERS" = some (some (.str "abcdefghijklmnopqrstuvwxyz" tg_LETTERS)))
  {A_IDLE_KINDS:Addr} {n_IDLE_KINDS:Nat} {sl_IDLE_KINDS:Array (Option Value)} (ng_IDLE_KINDS:PySem.W.nsIn K mainGlobals "IDLE_KINDS" = some (some (.ref A_IDLE_KINDS)))
  (nq_IDLE_KINDS:K.lookup A_IDLE_KINDS=some ⟨.type "tuple",none,.seq #[.ref f16,.ref f17,.ref f18,.ref f19] n_IDLE_KINDS,sl_IDLE_KINDS⟩)
  : ∃ fd:FuncData,(∀ (s:Shared) (v:Value),BindsTo s fd ⟨[v],[]⟩ [("_law_script",v)])/\∀ base:Heap,K.In base->base.Ns mainGlobals mg->v7 l.prog w K mg base v4 10 fa fd ["_law_script"] (Z0 K):=by
 have e:=hfa.symm.trans (PySem.W.mg_of X G a42)
 cases e
 have z_sorted:mg "sorted" = none:=PySem.W.mg_none_of X G nz_sorted
 have z_set:mg "set" = none:=PySem.W.mg_none_of X G nz_set
 have z_enumerate:mg "enumerate" = none:=PySem.W.mg_none_of X G nz_enumerate
 have z_range:mg "range" = none:=PySem.W.mg_none_of X G nz_range
 have z_len:mg "len" = none:=PySem.W.mg_none_of X G nz_len
 have z_list:mg "list" = none:=PySem.W.mg_none_of X G nz_list
 have z_dict:mg "dict" = none:=PySem.W.mg_none_of X G nz_dict
 have z_int:mg "int" = none:=PySem.W.mg_none_of X G nz_int
 have k_JUMPS:uI K A_JUMPS:=⟨_,nq_JUMPS,rfl,rfl⟩
 have g_JUMPS:yt mg "JUMPS" (.ref A_JUMPS):=⟨_,PySem.W.mg_of X G ng_JUMPS,rfl⟩
 have q_JUMPS:∀ H,zV K H Y7 (.ref A_JUMPS):=fun H=>⟨A_JUMPS,_,rfl,ur (xs:=[.str "jump",.str "when",.str "unless"]) nq_JUMPS (by show (3:Nat)<=sizeLine; decide) (.cons ⟨_,rfl⟩ (.cons ⟨_,rfl⟩ (.cons ⟨_,rfl⟩ .nil))) H,⟨_,_,rfl,⟨rfl,small (by decide)⟩,⟨_,_,rfl,⟨rfl,small (by decide)⟩,⟨_,_,rfl,⟨rfl,small (by decide)⟩,rfl⟩⟩⟩,small (by decide)⟩
 have g_MARK_LOW:yt mg "MARK_LOW" (.int 8):=⟨_,PySem.W.mg_of X G ng_MARK_LOW,⟨_,rfl⟩⟩
 have q_MARK_LOW:∀ H,zV K H (.int 8) (.int 8):=fun _=>rfl
 have k_MARKS:uI K A_MARKS:=⟨_,nq_MARKS,rfl,rfl⟩
 have g_MARKS:yt mg "MARKS" (.ref A_MARKS):=⟨_,PySem.W.mg_of X G ng_MARKS,rfl⟩
 have q_MARKS:∀ H,zV K H TB (.ref A_MARKS):=fun H=>⟨A_MARKS,_,rfl,ur (xs:=[.str "carry",.str "nought",.str "sign"]) nq_MARKS (by show (3:Nat)<=sizeLine; decide) (.cons ⟨_,rfl⟩ (.cons ⟨_,rfl⟩ (.cons ⟨_,rfl⟩ .nil))) H,⟨_,_,rfl,⟨rfl,small (by decide)⟩,⟨_,_,rfl,⟨rfl,small (by decide)⟩,⟨_,_,rfl,⟨rfl,small (by decide)⟩,rfl⟩⟩⟩,small (by decide)⟩
 have g_ALL_NEEDED:yt mg "ALL_NEEDED" (.int 2047):=⟨_,PySem.W.mg_of X G ng_ALL_NEEDED,⟨_,rfl⟩⟩
 have q_ALL_NEEDED:∀ H,zV K H (.int 2047) (.int 2047):=fun _=>rfl
 have k_LOOK_AT_D:uI K A_LOOK_AT_D:=⟨_,nq_LOOK_AT_D,rfl,rfl⟩
 have g_LOOK_AT_D:yt mg "LOOK_AT_D" (.ref A_LOOK_AT_D):=⟨_,PySem.W.mg_of X G ng_LOOK_AT_D,rfl⟩
 have q_LOOK_AT_D:∀ H,zV K H W5 (.ref A_LOOK_AT_D):=fun H=>⟨A_LOOK_AT_D,_,rfl,ur (xs:=[.str "high",.str "left",.str "right",.str "add",.str "addc",.str "sub",.str "subc",.str "and",.str "or",.str "xor",.str "test",.str "store",.str "storew"]) nq_LOOK_AT_D (by show (13:Nat)<=sizeLine; decide) (.cons ⟨_,rfl⟩ (.cons ⟨_,rfl⟩ (.cons ⟨_,rfl⟩ (.cons ⟨_,rfl⟩ (.cons ⟨_,rfl⟩ (.cons ⟨_,rfl⟩ (.cons ⟨_,rfl⟩ (.cons ⟨_,rfl⟩ (.cons ⟨_,rfl⟩ (.cons ⟨_,rfl⟩ (.cons ⟨_,rfl⟩ (.cons ⟨_,rfl⟩ (.cons ⟨_,rfl⟩ .nil))))))))))))) H,⟨_,_,rfl,⟨rfl,small (by decide)⟩,⟨_,_,rfl,⟨rfl,small (by decide)⟩,⟨_,_,rfl,⟨rfl,small (by decide)⟩,⟨_,_,rfl,⟨rfl,small (by decide)⟩,⟨_,_,rfl,⟨rfl,small (by decide)⟩,⟨_,_,rfl,⟨rfl,small (by decide)⟩,⟨_,_,rfl,⟨rfl,small (by decide)⟩,⟨_,_,rfl,⟨rfl,small (by decide)⟩,⟨_,_,rfl,⟨rfl,small (by decide)⟩,⟨_,_,rfl,⟨rfl,small (by decide)⟩,⟨_,_,rfl,⟨rfl,small (by decide)⟩,⟨_,_,rfl,⟨rfl,small (by decide)⟩,⟨_,_,rfl,⟨rfl,small (by decide)⟩,rfl⟩⟩⟩⟩⟩⟩⟩⟩⟩⟩⟩⟩⟩,small (by decide)⟩
 have k_LOOK_AT_S:uI K A_LOOK_AT_S:=⟨_,nq_LOOK_AT_S,rfl,rfl⟩
 have g_LOOK_AT_S:yt mg "LOOK_AT_S" (.ref A_LOOK_AT_S):=⟨_,PySem.W.mg_of X G ng_LOOK_AT_S,rfl⟩
 have q_LOOK_AT_S:∀ H,zV K H W6 (.ref A_LOOK_AT_S):=fun H=>⟨A_LOOK_AT_S,_,rfl,ur (xs:=[.str "copy",.str "load",.str "loadw",.str "add",.str "addc",.str "sub",.str "subc",.str "and",.str "or",.str "xor",.str "test",.str "store",.str "storew"]) nq_LOOK_AT_S (by show (13:Nat)<=sizeLine; decide) (.cons ⟨_,rfl⟩ (.cons ⟨_,rfl⟩ (.cons ⟨_,rfl⟩ (.cons ⟨_,rfl⟩ (.cons ⟨_,rfl⟩ (.cons ⟨_,rfl⟩ (.cons ⟨_,rfl⟩ (.cons ⟨_,rfl⟩ (.cons ⟨_,rfl⟩ (.cons ⟨_,rfl⟩ (.cons ⟨_,rfl⟩ (.cons ⟨_,rfl⟩ (.cons ⟨_,rfl⟩ .nil))))))))))))) H,⟨_,_,rfl,⟨rfl,small (by decide)⟩,⟨_,_,rfl,⟨rfl,small (by decide)⟩,⟨_,_,rfl,⟨rfl,small (by decide)⟩,⟨_,_,rfl,⟨rfl,small (by decide)⟩,⟨_,_,rfl,⟨rfl,small (by decide)⟩,⟨_,_,rfl,⟨rfl,small (by decide)⟩,⟨_,_,rfl,⟨rfl,small (by decide)⟩,⟨_,_,rfl,⟨rfl,small (by decide)⟩,⟨_,_,rfl,⟨rfl,small (by decide)⟩,⟨_,_,rfl,⟨rfl,small (by decide)⟩,⟨_,_,rfl,⟨rfl,small (by decide)⟩,⟨_,_,rfl,⟨rfl,small (by decide)⟩,⟨_,_,rfl,⟨rfl,small (by decide)⟩,rfl⟩⟩⟩⟩⟩⟩⟩⟩⟩⟩⟩⟩⟩,small (by decide)⟩
 have k_LOOK_AT_CARRY:uI K A_LOOK_AT_CARRY:=⟨_,nq_LOOK_AT_CARRY,rfl,rfl⟩
 have g_LOOK_AT_CARRY:yt mg "LOOK_AT_CARRY" (.ref A_LOOK_AT_CARRY):=⟨_,PySem.W.mg_of X G ng_LOOK_AT_CARRY,rfl⟩
 have q_LOOK_AT_CARRY:∀ H,zV K H W4 (.ref A_LOOK_AT_CARRY):=fun H=>⟨A_LOOK_AT_CARRY,_,rfl,ur (xs:=[.str "addc",.str "subc"]) nq_LOOK_AT_CARRY (by show (2:Nat)<=sizeLine; decide) (.cons ⟨_,rfl⟩ (.cons ⟨_,rfl⟩ .nil)) H,⟨_,_,rfl,⟨rfl,small (by decide)⟩,⟨_,_,rfl,⟨rfl,small (by decide)⟩,rfl⟩⟩,small (by decide)⟩
 have k_PUT_D:uI K A_PUT_D:=⟨_,nq_PUT_D,rfl,rfl⟩
 have g_PUT_D:yt mg "PUT_D" (.ref A_PUT_D):=⟨_,PySem.W.mg_of X G ng_PUT_D,rfl⟩
 have q_PUT_D:∀ H,zV K H W8 (.ref A_PUT_D):=fun H=>⟨A_PUT_D,_,rfl,ur (xs:=[.str "set",.str "high",.str "copy",.str "load",.str "loadw",.str "add",.str "addc",.str "sub",.str "subc",.str "and",.str "or",.str "xor",.str "left",.str "right"]) nq_PUT_D (by show (14:Nat)<=sizeLine; decide) (.cons ⟨_,rfl⟩ (.cons ⟨_,rfl⟩ (.cons ⟨_,rfl⟩ (.cons ⟨_,rfl⟩ (.cons ⟨_,rfl⟩ (.cons ⟨_,rfl⟩ (.cons ⟨_,rfl⟩ (.cons ⟨_,rfl⟩ (.cons ⟨_,rfl⟩ (.cons ⟨_,rfl⟩ (.cons ⟨_,rfl⟩ (.cons ⟨_,rfl⟩ (.cons ⟨_,rfl⟩ (.cons ⟨_,rfl⟩ .nil)))))))))))))) H,⟨_,_,rfl,⟨rfl,small (by decide)⟩,⟨_,_,rfl,⟨rfl,small (by decide)⟩,⟨_,_,rfl,⟨rfl,small (by decide)⟩,⟨_,_,rfl,⟨rfl,small (by decide)⟩,⟨_,_,rfl,⟨rfl,small (by decide)⟩,⟨_,_,rfl,⟨rfl,small (by decide)⟩,⟨_,_,rfl,⟨rfl,small (by decide)⟩,⟨_,_,rfl,⟨rfl,small (by decide)⟩,⟨_,_,rfl,⟨rfl,small (by decide)⟩,⟨_,_,rfl,⟨rfl,small (by decide)⟩,⟨_,_,rfl,⟨rfl,small (by decide)⟩,⟨_,_,rfl,⟨rfl,small (by decide)⟩,⟨_,_,rfl,⟨rfl,small (by decide)⟩,⟨_,_,rfl,⟨rfl,small (by decide)⟩,rfl⟩⟩⟩⟩⟩⟩⟩⟩⟩⟩⟩⟩⟩⟩,small (by decide)⟩
 have k_PUT_NOUGHT_AND_SIGN:uI K A_PUT_NOUGHT_AND_SIGN:=⟨_,nq_PUT_NOUGHT_AND_SIGN,rfl,rfl⟩
 have g_PUT_NOUGHT_AND_SIGN:yt mg "PUT_NOUGHT_AND_SIGN" (.ref A_PUT_NOUGHT_AND_SIGN):=⟨_,PySem.W.mg_of X G ng_PUT_NOUGHT_AND_SIGN,rfl⟩
 have q_PUT_NOUGHT_AND_SIGN:∀ H,zV K H W9 (.ref A_PUT_NOUGHT_AND_SIGN):=fun H=>⟨A_PUT_NOUGHT_AND_SIGN,_,rfl,ur (xs:=[.str "add",.str "addc",.str "sub",.str "subc",.str "test",.str "and",.str "or",.str "xor",.str "left",.str "right"]) nq_PUT_NOUGHT_AND_SIGN (by show (10:Nat)<=sizeLine; decide) (.cons ⟨_,rfl⟩ (.cons ⟨_,rfl⟩ (.cons ⟨_,rfl⟩ (.cons ⟨_,rfl⟩ (.cons ⟨_,rfl⟩ (.cons ⟨_,rfl⟩ (.cons ⟨_,rfl⟩ (.cons ⟨_,rfl⟩ (.cons ⟨_,rfl⟩ (.cons ⟨_,rfl⟩ .nil)))))))))) H,⟨_,_,rfl,⟨rfl,small (by decide)⟩,⟨_,_,rfl,⟨rfl,small (by decide)⟩,⟨_,_,rfl,⟨rfl,small (by decide)⟩,⟨_,_,rfl,⟨rfl,small (by decide)⟩,⟨_,_,rfl,⟨rfl,small (by decide)⟩,⟨_,_,rfl,⟨rfl,small (by decide)⟩,⟨_,_,rfl,⟨rfl,small (by decide)⟩,⟨_,_,rfl,⟨rfl,small (by decide)⟩,⟨_,_,rfl,⟨rfl,small (by decide)⟩,⟨_,_,rfl,⟨rfl,small (by decide)⟩,rfl⟩⟩⟩⟩⟩⟩⟩⟩⟩⟩,small (by decide)⟩
 have k_PUT_CARRY:uI K A_PUT_CARRY:=⟨_,nq_PUT_CARRY,rfl,rfl⟩
 have g_PUT_CARRY:yt mg "PUT_CARRY" (.ref A_PUT_CARRY):=⟨_,PySem.W.mg_of X G ng_PUT_CARRY,rfl⟩
 have q_PUT_CARRY:∀ H,zV K H W7 (.ref A_PUT_CARRY):=fun H=>⟨A_PUT_CARRY,_,rfl,ur (xs:=[.str "add",.str "addc",.str "sub",.str "subc",.str "test",.str "left",.str "right"]) nq_PUT_CARRY (by show (7:Nat)<=sizeLine; decide) (.cons ⟨_,rfl⟩ (.cons ⟨_,rfl⟩ (.cons ⟨_,rfl⟩ (.cons ⟨_,rfl⟩ (.cons ⟨_,rfl⟩ (.cons ⟨_,rfl⟩ (.cons ⟨_,rfl⟩ .nil))))))) H,⟨_,_,rfl,⟨rfl,small (by decide)⟩,⟨_,_,rfl,⟨rfl,small (by decide)⟩,⟨_,_,rfl,⟨rfl,small (by decide)⟩,⟨_,_,rfl,⟨rfl,small (by decide)⟩,⟨_,_,rfl,⟨rfl,small (by decide)⟩,⟨_,_,rfl,⟨rfl,small (by decide)⟩,⟨_,_,rfl,⟨rfl,small (by decide)⟩,rfl⟩⟩⟩⟩⟩⟩⟩,small (by decide)⟩
 have g_LETTERS:yt mg "LETTERS" (.str "abcdefghijklmnopqrstuvwxyz"):=⟨_,PySem.W.mg_of X G ng_LETTERS,⟨_,rfl⟩⟩
 have q_LETTERS:∀ H,zV K H (.str "abcdefghijklmnopqrstuvwxyz") (.str "abcdefghijklmnopqrstuvwxyz"):=fun _=>⟨rfl,small (by decide)⟩
 have g_IDLE_KINDS:yt mg "IDLE_KINDS" (.ref A_IDLE_KINDS):=⟨_,PySem.W.mg_of X G ng_IDLE_KINDS,rfl⟩
 have t_IDLE_KINDS:XY K mg A_IDLE_KINDS ["not_reached", "to_the_next_row", "copied_to_itself", "not_needed"]:=⟨[f16,f17,f18,f19],fun H=>ur (xs:=[.ref f16,.ref f17,.ref f18,.ref f19]) nq_IDLE_KINDS (by show (4:Nat)<=sizeLine; decide) (.cons rfl (.cons rfl (.cons rfl (.cons rfl .nil)))) H,by simp only [List.map_cons,List.map_nil,PySem.W.mg_of X G a16,PySem.W.mg_of X G a17,PySem.W.mg_of X G a18,PySem.W.mg_of X G a19]⟩
 have F0:=yI (st:=gS) l0 c0 k0
 have D0:zK K mg "is_label" gS ["item"]:=⟨_,_,F0,PySem.W.mg_of X G a0,F0.binds fun _ _ _ _ _ _=>xG fun _=>rfl⟩
 have F1:=yI (st:=gR) l1 c1 k1
 have D1:zK K mg "is_jump" gR ["item"]:=⟨_,_,F1,PySem.W.mg_of X G a1,F1.binds fun _ _ _ _ _ _=>xG fun _=>rfl⟩
 have F2:=yI (st:=kJ) l2 c2 k2
 have D2:zK K mg "rows_of" kJ ["items"]:=⟨_,_,F2,PySem.W.mg_of X G a2,F2.binds fun _ _ _ _ _ _=>xG fun _=>rfl⟩
 have F3:=yI (st:=gT) l3 c3 k3
 have D3:zK K mg "label_places" gT ["items"]:=⟨_,_,F3,PySem.W.mg_of X G a3,F3.binds fun _ _ _ _ _ _=>xG fun _=>rfl⟩
 have F4:=yI (st:=kL) l4 c4 k4
 have D4:zK K mg "targets_of" kL ["items"]:=⟨_,_,F4,PySem.W.mg_of X G a4,F4.binds fun _ _ _ _ _ _=>xG fun _=>rfl⟩
 have F5:=yI (st:=gx) l5 c5 k5
 have D5:zK K mg "mark_bit" gx ["mark"]:=⟨_,_,F5,PySem.W.mg_of X G a5,F5.binds fun _ _ _ _ _ _=>xG fun _=>rfl⟩
 have F6:=yI (st:=gy) l6 c6 k6
 have D6:zK K mg "moves_by_nought" gy ["row"]:=⟨_,_,F6,PySem.W.mg_of X G a6,F6.binds fun _ _ _ _ _ _=>xG fun _=>rfl⟩
 have F7:=yI (st:=kN) l7 c7 k7
 have D7:zK K mg "used" kN ["row"]:=⟨_,_,F7,PySem.W.mg_of X G a7,F7.binds fun _ _ _ _ _ _=>xG fun _=>rfl⟩
 have F8:=yI (st:=kG) l8 c8 k8
 have D8:zK K mg "put" kG ["row"]:=⟨_,_,F8,PySem.W.mg_of X G a8,F8.binds fun _ _ _ _ _ _=>xG fun _=>rfl⟩
 have F9:=yI (st:=kO) l9 c9 k9
 have D9:zK K mg "ways_from" kO ["row", "number", "target"]:=⟨_,_,F9,PySem.W.mg_of X G a9,F9.binds fun _ _ _ _ _ _=>jP fun _ _ _=>rfl⟩
 have F10:=yI (st:=kP) l10 c10 k10
 have D10:zK K mg "ways_of" kP ["items"]:=⟨_,_,F10,PySem.W.mg_of X G a10,F10.binds fun _ _ _ _ _ _=>xG fun _=>rfl⟩
 have F11:=yI (st:=kC) l11 c11 k11
 have D11:zK K mg "next_rows" kC ["items", "number"]:=⟨_,_,F11,PySem.W.mg_of X G a11,F11.binds fun _ _ _ _ _ _=>uZ fun _ _=>rfl⟩
 have F12:=yI (st:=kA) l12 c12 k12
 have D12:zK K mg "needed_at" kA ["told", "places"]:=⟨_,_,F12,PySem.W.mg_of X G a12,F12.binds fun _ _ _ _ _ _=>uZ fun _ _=>rfl⟩
 have F13:=yI (st:=gO) l13 c13 k13
 have D13:zK K mg "comers_of" gO ["ways"]:=⟨_,_,F13,PySem.W.mg_of X G a13,F13.binds fun _ _ _ _ _ _=>xG fun _=>rfl⟩
 have F14:=yI (st:=kH) l14 c14 k14
 have D14:zK K mg "reached" kH ["items"]:=⟨_,_,F14,PySem.W.mg_of X G a14,F14.binds fun _ _ _ _ _ _=>xG fun _=>rfl⟩
 have F15:=yI (st:=kB) l15 c15 k15
 have D15:zK K mg "needs" kB ["items"]:=⟨_,_,F15,PySem.W.mg_of X G a15,F15.binds fun _ _ _ _ _ _=>xG fun _=>rfl⟩
 have F16:=yI (st:=kE) l16 c16 k16
 have D16:zK K mg "not_reached" kE ["items"]:=⟨_,_,F16,PySem.W.mg_of X G a16,F16.binds fun _ _ _ _ _ _=>xG fun _=>rfl⟩
 have F17:=yI (st:=kM) l17 c17 k17
 have D17:zK K mg "to_the_next_row" kM ["items"]:=⟨_,_,F17,PySem.W.mg_of X G a17,F17.binds fun _ _ _ _ _ _=>xG fun _=>rfl⟩
 have F18:=yI (st:=gP) l18 c18 k18
 have D18:zK K mg "copied_to_itself" gP ["items"]:=⟨_,_,F18,PySem.W.mg_of X G a18,F18.binds fun _ _ _ _ _ _=>xG fun _=>rfl⟩
 have F19:=yI (st:=kD) l19 c19 k19
 have D19:zK K mg "not_needed" kD ["items"]:=⟨_,_,F19,PySem.W.mg_of X G a19,F19.binds fun _ _ _ _ _ _=>xG fun _=>rfl⟩
 have F20:=yI (st:=gQ) l20 c20 k20
 have D20:zK K mg "idle_of_one_kind" gQ ["items"]:=⟨_,_,F20,PySem.W.mg_of X G a20,F20.binds fun _ _ _ _ _ _=>xG fun _=>rfl⟩
 have F21:=yI (st:=kQ) l21 c21 k21
 have D21:zK K mg "without" kQ ["items", "numbers"]:=⟨_,_,F21,PySem.W.mg_of X G a21,F21.binds fun _ _ _ _ _ _=>uZ fun _ _=>rfl⟩
 have F22:=yI (st:=gr) l22 c22 k22
 have D22:zK K mg "leads_on" gr ["rows", "place"]:=⟨_,_,F22,PySem.W.mg_of X G a22,F22.binds fun _ _ _ _ _ _=>uZ fun _ _=>rfl⟩
 have F23:=yI (st:=gW) l23 c23 k23
 have D23:zK K mg "last_name" gW ["name", "rows", "places"]:=⟨_,_,F23,PySem.W.mg_of X G a23,F23.binds fun _ _ _ _ _ _=>jP fun _ _ _=>rfl⟩
 have F24:=yI (st:=gu) l24 c24 k24
 have D24:zK K mg "led_on" gu ["items"]:=⟨_,_,F24,PySem.W.mg_of X G a24,F24.binds fun _ _ _ _ _ _=>xG fun _=>rfl⟩
 have F25:=yI (st:=gz) l25 c25 k25
 have D25:zK K mg "name_of" gz ["number"]:=⟨_,_,F25,PySem.W.mg_of X G a25,F25.binds fun _ _ _ _ _ _=>xG fun _=>rfl⟩
 have F26:=yI (st:=g_) l26 c26 k26
 have D26:zK K mg "names_of_places" g_ ["targets"]:=⟨_,_,F26,PySem.W.mg_of X G a26,F26.binds fun _ _ _ _ _ _=>xG fun _=>rfl⟩
 have F27:=yI (st:=gU) l27 c27 k27
 have D27:zK K mg "labelled" gU ["rows", "targets"]:=⟨_,_,F27,PySem.W.mg_of X G a27,F27.binds fun _ _ _ _ _ _=>uZ fun _ _=>rfl⟩
 have F28:=yI (st:=kF) l28 c28 k28
 have D28:zK K mg "plain" kF ["items"]:=⟨_,_,F28,PySem.W.mg_of X G a28,F28.binds fun _ _ _ _ _ _=>xG fun _=>rfl⟩
 have F29:=yI (st:=kK) l29 c29 k29
 have D29:zK K mg "short" kK ["items"]:=⟨_,_,F29,PySem.W.mg_of X G a29,F29.binds fun _ _ _ _ _ _=>xG fun _=>rfl⟩
 have F30:=yI (st:=gX) l30 c30 k30
 have D30:zK K mg "_law_cell_at" gX ["_law_script", "_law_k"]:=⟨_,_,F30,PySem.W.mg_of X G a30,F30.binds fun _ _ _ _ _ _=>uZ fun _ _=>rfl⟩
 have F31:=yI (st:=gb) l31 c31 k31
 have D31:zK K mg "_law_mark" gb ["_law_script", "_law_k"]:=⟨_,_,F31,PySem.W.mg_of X G a31,F31.binds fun _ _ _ _ _ _=>uZ fun _ _=>rfl⟩
 have F32:=yI (st:=gm) l32 c32 k32
 have D32:zK K mg "_law_words" gm []:=⟨_,_,F32,PySem.W.mg_of X G a32,F32.binds fun _ _ _ _ _ _=>IX rfl⟩
 have F33:=yI (st:=gi) l33 c33 k33
 have D33:zK K mg "_law_row_by" gi ["_law_mark_here", "_law_names_here", "_law_many"]:=⟨_,_,F33,PySem.W.mg_of X G a33,F33.binds fun _ _ _ _ _ _=>jP fun _ _ _=>rfl⟩
 have F34:=yI (st:=gd) l34 c34 k34
 have D34:zK K mg "_law_names" gd ["_law_mark_here", "_law_many"]:=⟨_,_,F34,PySem.W.mg_of X G a34,F34.binds fun _ _ _ _ _ _=>uZ fun _ _=>rfl⟩
 have F35:=yI (st:=gf) l35 c35 k35
 have D35:zK K mg "_law_program_by" gf ["_law_script", "_law_first", "_law_most"]:=⟨_,_,F35,PySem.W.mg_of X G a35,F35.binds fun _ _ _ _ _ _=>jP fun _ _ _=>rfl⟩
 have F36:=yI (st:=gj) l36 c36 k36
 have D36:zK K mg "_law_rows" gj ["_law_items"]:=⟨_,_,F36,PySem.W.mg_of X G a36,F36.binds fun _ _ _ _ _ _=>xG fun _=>rfl⟩
 have F37:=yI (st:=ge) l37 c37 k37
 have D37:zK K mg "_law_place" ge ["_law_items", "_law_name"]:=⟨_,_,F37,PySem.W.mg_of X G a37,F37.binds fun _ _ _ _ _ _=>uZ fun _ _=>rfl⟩
 have F38:=yI (st:=gY) l38 c38 k38
 have D38:zK K mg "_law_is_needed" gY ["_law_items", "_law_told", "_law_row", "_law_number"]:=⟨_,_,F38,PySem.W.mg_of X G a38,F38.binds fun _ _ _ _ _ _=>HM fun _ _ _ _=>rfl⟩
 have F39:=yI (st:=gZ) l39 c39 k39
 have D39:zK K mg "_law_kinds" gZ ["_law_items"]:=⟨_,_,F39,PySem.W.mg_of X G a39,F39.binds fun _ _ _ _ _ _=>xG fun _=>rfl⟩
 have F40:=yI (st:=gg) l40 c40 k40
 have D40:zK K mg "_law_round" gg ["_law_items"]:=⟨_,_,F40,PySem.W.mg_of X G a40,F40.binds fun _ _ _ _ _ _=>xG fun _=>rfl⟩
 have F41:=yI (st:=gk) l41 c41 k41
 have D41:zK K mg "_law_varied" gk ["_law_items", "_law_script", "_law_first"]:=⟨_,_,F41,PySem.W.mg_of X G a41,F41.binds fun _ _ _ _ _ _=>jP fun _ _ _=>rfl⟩
 have F42:=yI (st:=qp) l42 c42 k42
 refine ⟨PySem.W.fnOf "law" "law" (pS qp) (uK qp) (zo qp) .none kV42 dc42 pm42 an42 cd42 ct42,fun s v=>.of_eq rfl,fun base _ _=>?_⟩
 have h_is_label:=BP (P:=l.prog) (w:=w) (base:=base) D0 
 have h_is_jump:=BO (P:=l.prog) (w:=w) (base:=base) D1 g_JUMPS q_JUMPS
 have h_rows_of:=By (P:=l.prog) (w:=w) (base:=base) D2 h_is_label
 have h_label_places:=BQ (P:=l.prog) (w:=w) (base:=base) D3 h_is_label
 have h_targets_of:=B_ (P:=l.prog) (w:=w) (base:=base) D4 h_label_places h_rows_of h_is_jump
 have h_mark_bit:=Bj (P:=l.prog) (w:=w) (base:=base) D5 g_MARK_LOW q_MARK_LOW g_MARKS q_MARKS k_MARKS
 have h_moves_by_nought:=Bk (P:=l.prog) (w:=w) (base:=base) D6 
 have h_used:=DB (P:=l.prog) (w:=w) (base:=base) D7 g_ALL_NEEDED q_ALL_NEEDED g_LOOK_AT_D q_LOOK_AT_D g_LOOK_AT_S q_LOOK_AT_S g_LOOK_AT_CARRY q_LOOK_AT_CARRY h_mark_bit
 have h_put:=Bw (P:=l.prog) (w:=w) (base:=base) D8 g_PUT_D q_PUT_D g_PUT_NOUGHT_AND_SIGN q_PUT_NOUGHT_AND_SIGN g_PUT_CARRY q_PUT_CARRY h_mark_bit h_moves_by_nought
 have h_ways_from:=DC (P:=l.prog) (w:=w) (base:=base) D9 z_sorted z_set
 have h_ways_of:=DE (P:=l.prog) (w:=w) (base:=base) D10 z_enumerate h_rows_of h_targets_of h_ways_from
 have h_next_rows:=Br (P:=l.prog) (w:=w) (base:=base) D11 h_ways_of
 have h_needed_at:=Bp (P:=l.prog) (w:=w) (base:=base) D12 
 have h_comers_of:=BL (P:=l.prog) (w:=w) (base:=base) D13 z_range z_len z_enumerate
 have h_reached:=Bx (P:=l.prog) (w:=w) (base:=base) D14 z_len z_sorted h_ways_of
 have h_needs:=Bq (P:=l.prog) (w:=w) (base:=base) D15 z_len z_list z_range g_ALL_NEEDED q_ALL_NEEDED h_rows_of h_ways_of h_comers_of h_used h_needed_at h_put
 have h_not_reached:=Bu (P:=l.prog) (w:=w) (base:=base) D16 z_dict z_range z_len h_reached h_rows_of
 have h_to_the_next_row:=DA (P:=l.prog) (w:=w) (base:=base) D17 z_enumerate h_targets_of
 have h_copied_to_itself:=BM (P:=l.prog) (w:=w) (base:=base) D18 z_enumerate h_rows_of
 have h_not_needed:=Bt (P:=l.prog) (w:=w) (base:=base) D19 z_range z_len h_needs h_ways_of h_rows_of h_put h_needed_at
 have h_idle_of_one_kind:=BN (P:=l.prog) (w:=w) (base:=base) D20 g_IDLE_KINDS t_IDLE_KINDS h_not_reached h_to_the_next_row h_copied_to_itself h_not_needed
 have h_without:=DF (P:=l.prog) (w:=w) (base:=base) D21 z_dict h_is_label
 have h_leads_on:=Bh (P:=l.prog) (w:=w) (base:=base) D22 z_len
 have h_last_name:=BS (P:=l.prog) (w:=w) (base:=base) D23 h_leads_on
 have h_led_on:=Bi (P:=l.prog) (w:=w) (base:=base) D24 h_rows_of h_label_places h_is_jump h_last_name
 have h_name_of:=Bm (P:=l.prog) (w:=w) (base:=base) D25 z_len g_LETTERS q_LETTERS
 have h_names_of_places:=Bn (P:=l.prog) (w:=w) (base:=base) D26 z_sorted z_set z_dict z_enumerate h_name_of
 have h_labelled:=BR (P:=l.prog) (w:=w) (base:=base) D27 z_enumerate z_len h_names_of_places
 have h_plain:=Bv (P:=l.prog) (w:=w) (base:=base) D28 h_rows_of h_is_jump h_labelled h_targets_of
 have h_short:=Bz (P:=l.prog) (w:=w) (base:=base) D29 h_led_on h_without h_idle_of_one_kind h_plain
 have h_law_cell_at:=BU (P:=l.prog) (w:=w) (base:=base) D30 z_len
 have h_law_mark:=BY (P:=l.prog) (w:=w) (base:=base) D31 z_len h_law_cell_at
 have h_law_words:=Bg (P:=l.prog) (w:=w) (base:=base) D32 
 have h_law_row_by:=Bd (P:=l.prog) (w:=w) (base:=base) D33 z_len h_law_words
 have h_law_names:=BZ (P:=l.prog) (w:=w) (base:=base) D34 z_range
 have h_law_program_by:=Bb (P:=l.prog) (w:=w) (base:=base) D35 z_range h_law_mark h_law_names h_law_row_by
 have h_law_rows:=Be (P:=l.prog) (w:=w) (base:=base) D36 
 have h_law_place:=Ba (P:=l.prog) (w:=w) (base:=base) D37 z_int
 have h_law_is_needed:=BV (P:=l.prog) (w:=w) (base:=base) D38 h_next_rows h_put
 have h_law_kinds:=BW (P:=l.prog) (w:=w) (base:=base) D39 z_range z_len h_law_rows h_reached h_needs h_law_place h_law_is_needed
 have h_law_round:=Bc (P:=l.prog) (w:=w) (base:=base) D40 z_int h_led_on h_law_kinds
 have h_law_varied:=Bf (P:=l.prog) (w:=w) (base:=base) D41 z_range z_len h_law_mark
 exact BT F42 z_list z_range z_len h_law_program_by h_law_mark h_law_varied h_law_round h_short h_plain
theorem walk {l:PySem.W.OpenLaw} {q:Program} {loose:List Str} {XP:(Str->Option Value)->Heap->Prop} {YP:World->Heap->Prop} {d:DefRec} {K:Params->PySem.W.Frag} (hn:l.most=some 63) (hdf:d.params.defaults=[])
  (hY:∀ (w:World) (h:Heap),YP w h->(K w.params).In h)
  (F:∀ (w:World) (mg:Str->Option Value) (fa:Addr) (h:Heap),(K w.params).In h->h.Ns mainGlobals mg->mg d.name=some (.ref fa)->
   ∃ fd:FuncData,(∀ (s:Shared) (u:Value),BindsTo s fd ⟨[u],[]⟩ [("_law_script",u)])/\∀ base:Heap,(K w.params).In base->base.Ns mainGlobals mg->v7 l.prog w (K w.params) mg base v4 10 fa fd ["_law_script"] (Z0 (K w.params))) :
  PySem.W.WalkO q loose XP YP l.row.toRowW d [] (fun f vs=>PySem.call f vs):=
 L3.walkB (n:=63) (k:=10) (x := "_law_script") (sp:=Z0) hn (by decide) hdf ⟨rfl,by decide,by decide⟩ hY F fun _ _ a ns hl hb hS=>⟨a,ns,rfl,hS,hl,hb,fun _=>rfl⟩
end My
namespace PySem.W.Fast
noncomputable def tw9734560866802873444:=0
noncomputable def tw9264464883295910247:=0
noncomputable def tw12404326212795269193:=0
noncomputable def tw7289603921026988455:=0
noncomputable def tw5221524406759536278:=0
noncomputable def tw8212102993787413006:=0
noncomputable def tw17401536871721151924:=0
noncomputable def tw5855285938535809256:=0
noncomputable def tw11588249763469161449:=0
noncomputable def tw17658638657008973491:=0
noncomputable def tw1823037974019612325:=0
noncomputable def tw10668775180745363269:=0
noncomputable def tw11475305619902096904:=0
noncomputable def tw3878333363212097158:=0
noncomputable def tw2518529408566497247:=0
noncomputable def tw12171000182719384985:=0
noncomputable def tw8860623725976536829:=0
noncomputable def tw2622885036445819716:=0
noncomputable def tw8639731371420394919:=0
noncomputable def tw6680366747805439653:=0
noncomputable def tw18064960375417364732:=0
noncomputable def tw10614081231165954694:=0
noncomputable def tw3319991776919058777:=0
noncomputable def tw16719595023012417904:=0
noncomputable def tw2858654047922080323:=0
noncomputable def tw16233146788865366336:=0
noncomputable def tw9000539126802704000:=0
noncomputable def tw12503228020395656526:=0
noncomputable def tw14346654627182745829:=0
noncomputable def tw11936957906524186672:=0
noncomputable def tw8416383478476533541:=0
noncomputable def tw15528241595996927290:=0
noncomputable def tw6222848313995695014:=0
noncomputable def tw12133617664594930773:=0
noncomputable def tw7619704255112843467:=0
noncomputable def tw6587089596953989043:=0
noncomputable def tw3825735137635603917:=0
noncomputable def tw5492198568338042431:=0
noncomputable def tw2289249605927665516:=0
noncomputable def tw17557321094106446011:=0
noncomputable def tw11081225308876965665:=0
noncomputable def tw4413568940740220967:=0
noncomputable def tw5374738298767972412:=0
noncomputable def tw994102064554491696:=0
noncomputable def tw15702694472648956557:=0
noncomputable def tw1932953421059565364:=0
noncomputable def tw14755257566322077830:=0
noncomputable def tw11778742087825405387:=0
noncomputable def tw11099008750311503867:=0
noncomputable def tw14724350454665732770:=0
noncomputable def tw13527467625455455855:=0
noncomputable def tw11058616930383749811:=0
noncomputable def tw17707233052105902213:=0
noncomputable def tw10425725389471045675:=0
noncomputable def tw14079802487821371191:=0
noncomputable def tw4582194488691135073:=0
noncomputable def tw13508268298790455674:=0
noncomputable def tw7824532126035442484:=0
noncomputable def tw16257240096459514142:=0
noncomputable def tw8360198327387611461:=0
noncomputable def tw1236927294655179524:=0
noncomputable def tw4726955226495315974:=0
noncomputable def tw18002506147050901450:=0
noncomputable def tw2685626015422497075:=0
noncomputable def tw17541027636948504123:=0
noncomputable def tw5325723542455020860:=0
noncomputable def tw9415748654939182534:=0
noncomputable def tw36473203517052212:=0
noncomputable def tw8734430648588921774:=0
noncomputable def tw9273694814885643328:=0
noncomputable def tw11867654861365776147:=0
noncomputable def tw4164858462760966845:=0
noncomputable def tw17982790257049917529:=0
noncomputable def tw29214356210436985:=0
noncomputable def tw12049864155514611424:=0
noncomputable def tw2357077125286442210:=0
noncomputable def tw15185961050330643518:=0
noncomputable def tw10602101928740078564:=0
noncomputable def tw11848380102796411566:=0
noncomputable def tw7091737900620650097:=0
noncomputable def tw5097696740348711257:=0
noncomputable def tw15894846093967303684:=0
noncomputable def tw11038704222535374677:=0
noncomputable def tw1399072348962750089:=0
noncomputable def tw7767296328061197561:=0
noncomputable def tw9538220532601324620:=0
noncomputable def tw6324533809184048213:=0
noncomputable def tw1776691819303111473:=0
noncomputable def tw5359892621402692191:=0
noncomputable def tw6158212266944259137:=0
noncomputable def tw3336639613267182775:=0
noncomputable def tw14275243345387864999:=0
noncomputable def tw16725653064904965714:=0
end PySem.W.Fast
open PySem PySem.W PyProof.Rows
set_option maxRecDepth 100000 in
set_option maxHeartbeats 0 in
theorem PySem.Challenge.cw_markrun_k60_short_by_rounds_holds : PySem.Challenge.rw_markrun_k60_short_by_rounds.Holds := by
 w_on; o_law; k_head; (case hw=>w_witness2)
 k_fill
 refine My.walk (l:=PySem.Challenge.rw_markrun_k60_short_by_rounds) rfl rfl (fun w h Y=>PySem.W.kIn_of Y) ?F
 case F=>
  intro w mg fa h KX G hmg
  refine' My.all_mk KX G hmg ?a0 ?l0 ?c0 ?k0 ?a1 ?l1 ?c1 ?k1 ?a2 ?l2 ?c2 ?k2 ?a3 ?l3 ?c3 ?k3 ?a4 ?l4 ?c4 ?k4 ?a5 ?l5 ?c5 ?k5 ?a6 ?l6 ?c6 ?k6 ?a7 ?l7 ?c7 ?k7 ?a8 ?l8 ?c8 ?k8 ?a9 ?l9 ?c9 ?k9 ?a10 ?l10 ?c10 ?k10 ?a11 ?l11 ?c11 ?k11 ?a12 ?l12 ?c12 ?k12 ?a13 ?l13 ?c13 ?k13 ?a14 ?l14 ?c14 ?k14 ?a15 ?l15 ?c15 ?k15 ?a16 ?l16 ?c16 ?k16 ?a17 ?l17 ?c17 ?k17 ?a18 ?l18 ?c18 ?k18 ?a19 ?l19 ?c19 ?k19 ?a20 ?l20 ?c20 ?k20 ?a21 ?l21 ?c21 ?k21 ?a22 ?l22 ?c22 ?k22 ?a23 ?l23 ?c23 ?k23 ?a24 ?l24 ?c24 ?k24 ?a25 ?l25 ?c25 ?k25 ?a26 ?l26 ?c26 ?k26 ?a27 ?l27 ?c27 ?k27 ?a28 ?l28 ?c28 ?k28 ?a29 ?l29 ?c29 ?k29 ?a30 ?l30 ?c30 ?k30 ?a31 ?l31 ?c31 ?k31 ?a32 ?l32 ?c32 ?k32 ?a33 ?l33 ?c33 ?k33 ?a34 ?l34 ?c34 ?k34 ?a35 ?l35 ?c35 ?k35 ?a36 ?l36 ?c36 ?k36 ?a37 ?l37 ?c37 ?k37 ?a38 ?l38 ?c38 ?k38 ?a39 ?l39 ?c39 ?k39 ?a40 ?l40 ?c40 ?k40 ?a41 ?l41 ?c41 ?k41 ?a42 ?l42 ?c42 ?k42 ?nz_sorted ?nz_set ?nz_enumerate ?nz_range ?nz_len ?nz_list ?nz_dict ?nz_int ?ng_JUMPS ?nq_JUMPS ?ng_MARK_LOW ?ng_MARKS ?nq_MARKS ?ng_ALL_NEEDED ?ng_LOOK_AT_D ?nq_LOOK_AT_D ?ng_LOOK_AT_S ?nq_LOOK_AT_S ?ng_LOOK_AT_CARRY ?nq_LOOK_AT_CARRY ?ng_PUT_D ?nq_PUT_D ?ng_PUT_NOUGHT_AND_SIGN ?nq_PUT_NOUGHT_AND_SIGN ?ng_PUT_CARRY ?nq_PUT_CARRY ?ng_LETTERS ?ng_IDLE_KINDS ?nq_IDLE_KINDS
  all_goals try (first | k_is | k_exc | kit_is | kts_exm)
  all_goals decide
