import PyProof.Rows.All
import Wide.All
import OpenK.AllK
import Wide.FinOn
import Lean
import PyProof.EqAt
import PyProof.EqKinds
import PyProof.TupleCall
import PySem.Challenge.RW_markrun_k64_listings_refused
set_option Elab.async false
set_option linter.all false
set_option maxRecDepth 100000
namespace L2
open PySem PySem.Spec PyProof.Rows
noncomputable abbrev y0:=Sum Int Str
noncomputable def je:y0->Value->Bool
 | .inl k,v=>Value.isInt k v
 | .inr x,v=>Value.isStrOf x v
noncomputable def MZ (w:World):y0->Int
 | .inl k=>hashInt k
 | .inr x=>hashStr w x
theorem tU:∀ {k:y0} {v:Value},je k v=true->(∃ i t,k=Sum.inl i/\v=Value.int i t)\/(∃ x t,k=Sum.inr x/\v=Value.str x t)
 | .inl i,v,h=>by
  obtain ⟨t,e⟩:=Value.isInt_shape (k:=i) (v:=v) h
  exact .inl ⟨i,t,rfl,e⟩
 | .inr x,v,h=>by
  obtain ⟨t,e⟩:=Value.isStrOf_shape (x:=x) (v:=v) h
  exact .inr ⟨x,t,rfl,e⟩
theorem Ma (i:Int) (t:Tok):je (.inl i) (.int i t)=true:=by simp [je,Value.isInt]
theorem Mb (x:Str) (t:Tok):je (.inr x) (.str x t)=true:=by simp [je,Value.isStrOf]
theorem Md (a b:Int):decide ((Sum.inl a:y0)=Sum.inl b)=(a == b):=by
 by_cases e:a=b
 ·subst e; simp
 ·have h:¬ (Sum.inl a:y0)=Sum.inl b:=fun q=>e (Sum.inl.inj q)
  rw [decide_eq_false h]
  exact (beq_eq_false_iff_ne.mpr e).symm
theorem Mg (a b:Str):decide ((Sum.inr a:y0)=Sum.inr b)=decide (a=b):=by
 by_cases e:a=b
 ·subst e; simp
 ·have h:¬ (Sum.inr a:y0)=Sum.inr b:=fun q=>e (Sum.inr.inj q)
  rw [decide_eq_false h,decide_eq_false e]
theorem Me (a:Int) (b:Str):decide ((Sum.inl a:y0)=Sum.inr b)=false:=decide_eq_false (fun q=>nomatch q)
theorem Mf (a:Str) (b:Int):decide ((Sum.inr a:y0)=Sum.inl b)=false:=decide_eq_false (fun q=>nomatch q)
noncomputable def vU (prog:Program) (w:World):PySem.KeyKind prog w y0 where
 is:=je
 hash:=MZ w
 inj:=fun v a b ha hb=>by
  rcases tU ha with ⟨i,t,rfl,rfl⟩ | ⟨x,t,rfl,rfl⟩
  ·rcases tU hb with ⟨j,u,rfl,e⟩ | ⟨y,u,rfl,e⟩
   ·injection e with e1 _; rw [e1]
   ·exact nomatch e
  ·rcases tU hb with ⟨j,u,rfl,e⟩ | ⟨y,u,rfl,e⟩
   ·exact nomatch e
   ·injection e with e1 _; rw [e1]
 byValue:=fun k v h=>by
  rcases tU h with ⟨i,t,rfl,rfl⟩ | ⟨x,t,rfl,rfl⟩<;>rfl
 pyHash:=fun hv h=>by
  rcases tU hv with ⟨i,t,rfl,rfl⟩ | ⟨x,t,rfl,rfl⟩
  ·exact wpAny_pyHash_int h
  ·exact wpAny_pyHash_str h
 eqBool:=fun hu hv h=>by
  rcases tU hu with ⟨i,t,rfl,rfl⟩ | ⟨x,t,rfl,rfl⟩
  ·rcases tU hv with ⟨j,u,rfl,rfl⟩ | ⟨y,u,rfl,rfl⟩
   ·rw [Md] at h; exact wpAny_eqBool_int h
   ·rw [Me] at h; exact SeqAt.EqAt.int_str i t y u _ _ _ _ h
  ·rcases tU hv with ⟨j,u,rfl,rfl⟩ | ⟨y,u,rfl,rfl⟩
   ·rw [Mf] at h; exact SeqAt.EqAt.str_int x t j u _ _ _ _ h
   ·rw [Mg] at h; exact wpAny_eqBool_str h
 «strs»:=fun k x t v h=>by
  rcases tU h with ⟨i,u,rfl,e⟩ | ⟨y,u,rfl,e⟩
  ·exact nomatch e
  ·injection e with e1 _
   subst e1
   cases v<;>rfl
theorem M_ (prog:Program) (w:World) (i:Int) (t:Tok):(vU prog w).is (.inl i) (.int i t)=true:=Ma i t
theorem BC (prog:Program) (w:World) (x:Str) (t:Tok):(vU prog w).is (.inr x) (.str x t)=true:=Mb x t
end L2
namespace L2
open PySem PySem.Spec PyProof.Rows
inductive V where
 | non | bl (b:Bool) | int (i:Int) | str (x:Str) | byt (b:Array UInt8) | flt (b:UInt64) | ref (a:Addr) | ty (n:String)
 deriving DecidableEq
noncomputable def zi:V->Value->Prop
 | .non,u=>u=Value.none
 | .bl b,u=>u=Value.bool b
 | .int i,u=>∃ t,u=Value.int i t
 | .str x,u=>∃ t,u=Value.str x t
 | .byt b,u=>∃ t,u=Value.bytes b t
 | .flt b,u=>∃ t,u=Value.float b t
 | .ref a,u=>u=Value.ref a
 | .ty n,u=>u=Value.type n
noncomputable abbrev zj:List V->List Value->Prop:=Paired zi
theorem zj.length {xs:List V} {us:List Value} (r:zj xs us):xs.length=us.length:=Paired.length r
theorem zj.get:∀ {xs:List V} {us:List Value} {i:Nat} {x:V},zj xs us->xs[i]?=some x->∃ u,us[i]?=some u/\zi x u
 | _,_,_,_,.nil,e=>by simp at e
 | _,_,0,_,.cons r _,e=>by simp at e; subst e; exact ⟨_,rfl,r⟩
 | _,_,i+1,x,.cons _ t,e=>by
  obtain ⟨u,h1,h2⟩:=zj.get (i:=i) (x:=x) t (by simpa using e)
  exact ⟨u,by simpa using h1,h2⟩
theorem zj.set {x:V} {u:Value} (r:zi x u):∀ {xs:List V} {us:List Value} (i:Nat),zj xs us->zj (xs.set i x) (us.set i u)
 | _,_,_,.nil=>.nil
 | _,_,0,.cons _ t=>.cons r t
 | _,_,i+1,.cons q t=>.cons q (zj.set r i t)
theorem zj.append:∀ {xs ys:List V} {us ws:List Value},zj xs us->zj ys ws->zj (xs++ys) (us++ws)
 | _,_,_,_,.nil,s=>s
 | _,_,_,_,.cons r t,s=>.cons r (zj.append t s)
theorem zj.take:∀ {xs:List V} {us:List Value} (n:Nat),zj xs us->zj (xs.take n) (us.take n)
 | _,_,0,_=>.nil
 | _,_,_+1,.nil=>.nil
 | _,_,n+1,.cons r t=>.cons r (zj.take n t)
theorem zj.drop:∀ {xs:List V} {us:List Value} (n:Nat),zj xs us->zj (xs.drop n) (us.drop n)
 | _,_,0,r=>r
 | _,_,_+1,.nil=>.nil
 | _,_,n+1,.cons _ t=>zj.drop n t
noncomputable def tM:Option V->Option Value->Prop
 | some v,some u=>zi v u
 | none,none=>True
 | _,_=>False
noncomputable def KV {κ:Type}:List (κ×V)->List (κ×Value)->Prop:=Paired fun (p:κ×V) (q:κ×Value)=>p.1=q.1/\zi p.2 q.2
noncomputable def kV:y0->V
 | .inl i=>.int i
 | .inr x=>.str x
inductive HO where
  | lst (xs:List V)
  | tup (xs:List V)
  | dK (kvs:List (y0×V)) | dT (kvs:List (List y0×V))
  | set (S:Int->Bool) (n:Nat)
  | ins (C dx:Addr) (fs:List (Str×V))
  | own (x:Addr)
  | xd (fs:List (Str×V))
  | met (f x:Addr)
  | rng (lo hi:Int)
  | frz (o:Obj) (u:HO)
  | tbl (ps:Array Value)
  | ext (φ:Heap->Prop)
noncomputable abbrev Hp:=Addr->Option HO
noncomputable def zu (H:Hp) (a:Addr) (o:HO):Hp:=fun b=>if b=a then some o else H b
theorem xH {H:Hp} {a:Addr} {o:HO}:zu H a o a=some o:=by unfold zu; rw [if_pos rfl]
theorem yn {H:Hp} {a b:Addr} {o:HO} (h:b≠a):zu H a o b=H b:=by unfold zu; rw [if_neg h]
theorem BK {H:Hp} {a b:Addr} {o u:HO} (h:H a=some o) (h':H b=some u) (d:o≠u):a≠b:=by
 intro e; subst e; rw [h] at h'; exact d (Option.some.inj h')
theorem wm {H:Hp} {a b:Addr} {o:HO} (h:H a=some o) (h':H b=none):a≠b:=by
 intro e; subst e; rw [h] at h'; cases h'
section
variable (P:Program) (w:World)
noncomputable def xI (H:Hp) (h:Heap) (a:Addr):HO->Prop
 | .lst xs=>xs.length<=sizeLine/\∃ (its:List Value) (n:Nat),zj xs its/\h.get? a=some { cls:=.type "list",data:=.seq its.toArray n }
 | .tup xs=>xs.length<=sizeLine/\∃ its:List Value,zj xs its/\IsTup h a its.toArray
 | .dK kvs=>kvs.length<=sizeLine/\(a == sysModules)=false/\∃ vs,KV kvs vs/\h.DictOf (vU P w) a vs
 | .dT kvs=>kvs.length<=sizeLine/\(a == sysModules)=false/\∃ xs:List (List y0×Addr×Value),
   Paired (fun (p:List y0×V) (q:List y0×Addr×Value)=>p.1=q.1/\H q.2.1=some (.tup (p.1.map kV))/\zi p.2 q.2.2) kvs xs/\
   ∃ o es ep,h.get? a=some o/\o.ExactDict/\o.data=.dict es ep/\es.toList=xs.map (entryOfKey (tupleKind (vU P w)))/\(xs.map (·.1)).Nodup
 | .set S n=>h.SetOf (intKind P w) a S n
 | .ins C dx fs=>H dx=some (.own a)/\fs.length<=1000/\dx≠a/\h.get? a=some (PySem.W.instObj C dx)/\
   ∃ mA,h.Ns1 dx mA/\(∀ f,tM (fs.lookup f) (mA f))/\PySem.Within mA (fs.map (·.1))
 | .own _=>∃ o,h.get? a=some o
 | .xd fs=>∃ mA,h.Ns1 a mA/\∀ f,tM (fs.lookup f) (mA f)
 | .rng lo hi=>∃ t u v,h.get? a=some { cls:=.type "range",data:=.fields #[.int lo t,.int hi u,.int 1 v] }
 | .frz o u=>h.get? a=some o/\xI H h a u
 | .tbl ps=>h.get? a=some { cls:=.none,data:=.fields ps }
 | .met f x=>h.get? a=some (PySem.W.methodObj (.ref f) (.ref x))
 | .ext φ=>φ h/\(∃ o,h.get? a=some o)/\∀ h1 h2:Heap,φ h1->(∀ o,h1.get? a=some o->h2.get? a=some o)->φ h2
noncomputable def yo (H:Hp) (h:Heap):Prop:=∀ a o,H a=some o->xI P w H h a o
end
section
variable {P:Program} {w:World} {H H':Hp} {h h':Heap} {a:Addr} {o:HO}
theorem xI.lt (x:xI P w H h a o):a<h.objs.size:=by
 cases o with
 | lst xs=>obtain ⟨_,_,_,_,e⟩:=x; exact Heap.lt_size e
 | tup xs=>obtain ⟨_,_,_,p⟩:=x; exact p.lt
 | dK kvs=>obtain ⟨_,_,_,_,o,_,_,e,_⟩:=x; exact Heap.lt_size e
 | dT kvs=>obtain ⟨_,_,_,_,o,_,_,e,_⟩:=x; exact Heap.lt_size e
 | set S n=>obtain ⟨o,_,_,_,e,_⟩:=x; exact Heap.lt_size e
 | ins C dx fs=>obtain ⟨_,_,_,e,_⟩:=x; exact Heap.lt_size e
 | own y=>obtain ⟨_,e⟩:=x; exact Heap.lt_size e
 | xd fs=>obtain ⟨_,⟨_,_,_,e,_⟩,_⟩:=x; exact Heap.lt_size e
 | rng lo hi=>obtain ⟨_,_,_,e⟩:=x; exact Heap.lt_size e
 | frz ob u=>obtain ⟨e,_⟩:=x; exact Heap.lt_size e
 | tbl ps=>exact Heap.lt_size (show h.get? a=some _ from x)
 | met f y=>exact Heap.lt_size (show h.get? a=some _ from x)
 | ext φ=>obtain ⟨_,⟨_,e⟩,_⟩:=x; exact Heap.lt_size e
theorem Paired.mapP {α β:Type} {F G:α->β->Prop}:∀ {l₁:List α} {l₂:List β},Paired F l₁ l₂->(∀ a b,F a b->G a b)->Paired G l₁ l₂
 | _,_,.nil,_=>.nil
 | _,_,.cons r t,f=>.cons (f _ _ r) (Paired.mapP t f)
theorem xI.stay (x:xI P w H h a o) (k:∀ b u,(b=a\/H b=some (.own a))->h.get? b=some u->h'.get? b=some u)
  (ho:∀ b,H b=some (.own a)->H' b=some (.own a)) (ht:∀ b xs,H b=some (.tup xs)->H' b=some (.tup xs)):xI P w H' h' a o:=by
 induction o with
 | lst xs=>obtain ⟨z,its,n,r,e⟩:=x; exact ⟨z,its,n,r,k _ _ (.inl rfl) e⟩
 | tup xs=>obtain ⟨z,its,r,ob,e,c⟩:=x; exact ⟨z,its,r,ob,k _ _ (.inl rfl) e,c⟩
 | dK kvs=>obtain ⟨z,y,vs,r,ob,es,ep,e,c⟩:=x; exact ⟨z,y,vs,r,ob,es,ep,k _ _ (.inl rfl) e,c⟩
 | dT kvs=>
  obtain ⟨z,y,xs,r,ob,es,ep,e,c⟩:=x
  exact ⟨z,y,xs,Paired.mapP r fun p q z=>⟨z.1,ht _ _ z.2.1,z.2.2⟩,ob,es,ep,k _ _ (.inl rfl) e,c⟩
 | set S n=>obtain ⟨ob,es,ep,t,e,c⟩:=x; exact ⟨ob,es,ep,t,k _ _ (.inl rfl) e,c⟩
 | ins C dx fs=>
  obtain ⟨d,z,ne,e,mA,⟨od,es,ep,e2,c⟩,r⟩:=x
  exact ⟨ho _ d,z,ne,k _ _ (.inl rfl) e,mA,⟨od,es,ep,k _ _ (.inr d) e2,c⟩,r⟩
 | own y=>obtain ⟨ob,e⟩:=x; exact ⟨ob,k _ _ (.inl rfl) e⟩
 | xd fs=>obtain ⟨mA,⟨od,es,ep,e,c⟩,r⟩:=x; exact ⟨mA,⟨od,es,ep,k _ _ (.inl rfl) e,c⟩,r⟩
 | rng lo hi=>obtain ⟨t,u,v,e⟩:=x; exact ⟨t,u,v,k _ _ (.inl rfl) e⟩
 | frz ob u ih=>obtain ⟨e,q⟩:=x; exact ⟨k _ _ (.inl rfl) e,ih q⟩
 | tbl ps=>
  have e:h.get? a=some { cls:=.none,data:=.fields ps }:=x
  show h'.get? a=some { cls:=.none,data:=.fields ps }
  exact k a _ (.inl rfl) e
 | met f y=>
  have e:h.get? a=some (PySem.W.methodObj (.ref f) (.ref y)):=x
  show h'.get? a=some (PySem.W.methodObj (.ref f) (.ref y))
  exact k a _ (.inl rfl) e
 | ext φ=>obtain ⟨p,⟨o,e⟩,st⟩:=x; exact ⟨st _ _ p fun o q=>k _ _ (.inl rfl) q,⟨o,k _ _ (.inl rfl) e⟩,st⟩
theorem yo.lt (x:yo P w H h) (e:H a=some o):a<h.objs.size:=(x a o e).lt
theorem yo.fresh (x:yo P w H h) (e:h.objs.size<=a):H a=none:=by
 cases q:H a with
 | none=>rfl
 | some u=>exact absurd (Nat.lt_of_lt_of_le (x.lt q) e) (Nat.lt_irrefl _)
theorem yo.kept (x:yo P w H h) (k:∀ b u,h.get? b=some u->h'.get? b=some u):yo P w H h':=fun a o e=>
 (x a o e).stay (fun b u _ q=>k b u q) (fun _ q=>q) fun _ _ q=>q
theorem yo.laid (x:yo P w H h) (k:∀ b u,h.get? b=some u->h'.get? b=some u) (hp:h.objs.size<=a) (new:xI P w (zu H a o) h' a o):yo P w (zu H a o) h':=fun b u e=>by
 have hn:=x.fresh hp
 by_cases hb:b=a
 ·subst hb; rw [xH] at e; cases e; exact new
 ·rw [yn hb] at e
  exact (x b u e).stay (fun c v _ q=>k c v q) (fun c q=>by rw [yn (wm q hn)]; exact q) fun c xs q=>by rw [yn (wm q hn)]; exact q
end
noncomputable def Rd (H:Hp) (a:Addr) (u:HO):Prop:=H a=some u\/∃ o,H a=some (.frz o u)
theorem Rd.ok {P:Program} {w:World} {H:Hp} {h:Heap} {a:Addr} {u:HO} (r:Rd H a u) (x:yo P w H h):xI P w H h a u:=by
 rcases r with r | ⟨o,r⟩
 ·exact x a u r
 ·obtain ⟨_,q⟩:=x a _ r
  exact q
noncomputable def gM:Option HO->Prop
 | some (.lst _)=>True
 | some (.dK _)=>True
 | some (.dT _)=>True
 | some (.set _ _)=>True
 | some (.ins _ _ _)=>True
 | some (.ext _)=>True
 | _=>False
section
variable {P:Program} {w:World} {H:Hp} {h h':Heap} {x e:Addr} {o':HO}
theorem yo.write (ok:yo P w H h) (mu:gM (H x)) (he:e=x\/H e=some (.own x)) (k:∀ b u,b≠e->h.get? b=some u->h'.get? b=some u) (heo:∃ u,h'.get? e=some u)
  (new:xI P w (zu H x o') h' x o'):yo P w (zu H x o') h':=fun b u q=>by
 have nown:∀ c y,H c=some (.own y)->c≠x:=fun c y r z=>by subst z; rw [r] at mu; exact mu
 have ntup:∀ c xs,H c=some (.tup xs)->c≠x:=fun c xs r z=>by subst z; rw [r] at mu; exact mu
 by_cases hb:b=x
 ·subst hb; rw [xH] at q; cases q; exact new
 ·rw [yn hb] at q
  by_cases hbe:b=e
  ·have q':H b=some (.own x):=by
    rcases he with z | z
    ·exact absurd (hbe.trans z) hb
    ·rw [hbe]; exact z
   rw [q] at q'; cases q'
   obtain ⟨v,hv⟩:=heo
   exact ⟨v,by rw [hbe]; exact hv⟩
  ·refine (ok b u q).stay (fun c v hc r=>k c v ?_ r) (fun c r=>by rw [yn (nown c b r)]; exact r) fun c xs r=>by rw [yn (ntup c xs r)]; exact r
   rcases hc with rfl | hc
   ·exact hbe
   ·rintro rfl
    rcases he with z | z
    ·exact nown c b hc z
    ·rw [hc] at z; cases z; exact hb rfl
end
structure Un (fs ex:List Addr) (H H':Hp) (h h':Heap):Prop where
 keep:∀ b o,h.get? b=some o->H b=none->b ∉ fs->b ∉ ex->h'.get? b=some o
 slot:∀ b o,h.get? b=some o->H b=none->b∈fs->b ∉ ex->∃ sl,h'.get? b=some { o with slots:=sl }
 free:∀ b o,h.get? b=some o->H b=none->b ∉ ex->H' b=none
 there:∀ b o,h.get? b=some o->b ∉ ex->∃ o',h'.get? b=some o'
 tups:∀ b xs,H b=some (.tup xs)->H' b=some (.tup xs)
 frzs:∀ b o u,H b=some (.frz o u)->H' b=some (.frz o u)
 tbls:∀ b ps,H b=some (.tbl ps)->∃ more,H' b=some (.tbl (ps++more))
section
variable {fs fs' ex ex':List Addr} {H H1 H2:Hp} {h h1 h2 h':Heap} {a x e:Addr} {o:HO}
theorem Un.any (u:Un fs ex H H1 h h1) {b:Addr} {ob:Obj} (q:h.get? b=some ob) (n:H b=none) (hx:b ∉ ex):∃ sl,h1.get? b=some { ob with slots:=sl }:=by
 by_cases hb:b∈fs
 ·exact u.slot b ob q n hb hx
 ·exact ⟨ob.slots,u.keep b ob q n hb hx⟩
theorem Un.kept (k:∀ b u,h.get? b=some u->h'.get? b=some u):Un fs ex H H h h':=
 ⟨fun b ob q _ _ _=>k b ob q,fun b ob q _ _ _=>⟨ob.slots,k b ob q⟩,fun _ _ _ n _=>n,fun b ob q _=>⟨ob,k b ob q⟩,fun _ _ q=>q,fun _ _ _ q=>q,fun _ ps q=>⟨#[],by rw [q]; simp⟩⟩
theorem Un.refl:Un fs ex H H h h:=Un.kept fun _ _ q=>q
theorem Un.laid (k:∀ b u,h.get? b=some u->h'.get? b=some u) (hp:h.objs.size<=a) (hn:H a=none):Un fs ex H (zu H a o) h h' where
 keep:=fun b u q _ _ _=>k b u q
 slot:=fun b u q _ _ _=>⟨u.slots,k b u q⟩
 free:=fun b u q n _=>by rw [yn (Nat.ne_of_lt (Nat.lt_of_lt_of_le (Heap.lt_size q) hp))]; exact n
 there:=fun b u q _=>⟨u,k b u q⟩
 tups:=fun b xs q=>by rw [yn (wm q hn)]; exact q
 frzs:=fun b u xs q=>by rw [yn (wm q hn)]; exact q
 tbls:=fun b ps q=>⟨#[],by rw [yn (wm q hn),q]; simp⟩
theorem Un.write (mu:gM (H x)) (he:e=x\/H e=some (.own x)) (k:∀ b u,b≠e->h.get? b=some u->h'.get? b=some u) (heo:∃ u,h'.get? e=some u):Un fs ex H (zu H x o) h h':=by
 have hx:∀ b,H b=none->b≠x:=fun b n z=>by subst z; rw [n] at mu; exact mu
 have hb:∀ b,H b=none->b≠e:=fun b n z=>by
  subst z
  rcases he with r | r
  ·exact hx b n r
  ·rw [n] at r; cases r
 have hm:∀ b u,H b=some u->¬ gM (some u)->b≠x:=fun b u q nm z=>by subst z; rw [q] at mu; exact nm mu
 refine ⟨fun b u q n _ _=>k b u (hb b n) q,fun b u q n _ _=>⟨u.slots,k b u (hb b n) q⟩,fun b u q n _=>by rw [yn (hx b n)]; exact n,fun b u q _=>?_,
  fun b xs q=>by rw [yn (hm b _ q fun z=>z)]; exact q,fun b u xs q=>by rw [yn (hm b _ q fun z=>z)]; exact q,fun b ps q=>⟨#[],by rw [yn (hm b _ q fun z=>z),q]; simp⟩⟩
 by_cases hbe:b=e
 ·subst hbe; exact heo
 ·exact ⟨u,k b u hbe q⟩
end
noncomputable def Yz (h:Heap) (H:Hp):List Addr:=(List.range h.objs.size).filter fun a=>(H a).isSome
noncomputable def tT (h:Heap) (H:Hp):Heap:=PySem.W.hideAll h (Yz h H)
theorem M5 (h:Heap) (H:Hp):(tT h H).objs.size=h.objs.size:=PySem.W.hideAll_size _ _
theorem M4 {h:Heap} {H:Hp} {b:Addr} {o:Obj} (e:h.get? b=some o) (n:H b=none):(tT h H).get? b=some o:=
 PySem.W.hideAll_get _ e fun hm=>by
  have q:(H b).isSome=true:=(List.mem_filter.mp hm).2
  rw [n] at q; simp at q
theorem BQ {h:Heap} {H:Hp} {b:Addr} {o:Obj} (e:(tT h H).get? b=some o):h.get? b=some o/\H b=none:=by
 have e':h.get? b=some o:=PySem.W.of_hideAll (Yz h H) e
 refine ⟨e',?_⟩
 cases q:H b with
 | none=>rfl
 | some x=>
  have hm:b∈Yz h H:=List.mem_filter.mpr ⟨List.mem_range.mpr (Heap.lt_size e'),by simp [q]⟩
  have z:(tT h H).get? b=none:=PySem.W.hideAll_none (Yz h H) hm
  rw [z] at e; cases e
noncomputable def OJ (g h:Heap) (L:Addr):List (Addr×Obj):=(List.range h.objs.size).filterMap fun a=>if a=L\/(g.get? a).isSome=true then none else (h.get? a).map fun o=>(a,o)
noncomputable def yG (g h:Heap) (L d:Addr):List (Addr×Obj):=(OJ g h L).filter fun p=>decide (p.1≠d)
end L2
namespace L2
open PySem PySem.Spec PyProof.Rows
structure Mod (K:PySem.W.Frag) (mg:Str->Option Value) (base:Heap):Prop where
 kin:K.In base
 glob:base.Ns mainGlobals mg
 blt:∃ mb,base.Ns builtinsNs mb/\∀ x:Str,x ≠ "__name__" -> mb x=bootBuiltins x
 nolimit:base.NoLimit
structure Cx where
 prog:Program
 w:World
 K:PySem.W.Frag
 mg:Str->Option Value
 base:Heap
 A:Around
 N:List Str
 s₀:Shared
 H₀:Hp
 env:Env
 outer:List Env
 stack:List Env
 ex:List Addr
 fn:Str->Bool
 calm:Bool
 pn:List (Addr×Obj)
 xe:Value->Shared->Prop
noncomputable def yT (l:List Env):List Addr:=l.filterMap (·.frame)
noncomputable abbrev Cx.fs (X:Cx):List Addr:=yT X.outer
noncomputable def qL (sc:Scope) (x:Str):Prop:=sc.names.lookup x=some .local\/sc.names.lookup x=some .cell\/sc.names.lookup x=some .free
noncomputable def uf (sc:Scope) (x:Str):Prop:=sc.names.lookup x=some .local\/sc.names.lookup x=some .cell
noncomputable def O4 (env:Env) (h:Heap) (m:Str->Option Value) (x:Str) (u:Value):Prop:=
 (env.kindOf x=some .local/\m x=some u)\/((env.kindOf x=some .cell\/env.kindOf x=some .free)/\∃ c,env.cells.lookup x=some c/\h.IsCell c (some u))
structure Cx.Ok (X:Cx):Prop where
 mod:Mod X.K X.mg X.base
 kind:X.env.scope.kind=.function
 glob:X.env.globals=mainGlobals
 blt:X.env.builtins=builtinsNs
 above:X.s₀.heap.objs.size<=X.env.locals
 inj:∀ x y c,X.env.cells.lookup x=some c->X.env.cells.lookup y=some c->x=y
 has:∀ x,(X.env.kindOf x=some .cell\/X.env.kindOf x=some .free)->∃ c,X.env.cells.lookup x=some c
 cab:∀ x c,X.fn x=true->X.env.cells.lookup x=some c->X.s₀.heap.objs.size<=c
 hd:X.calm=true->X.A.handled=none
 frames:X.A.frames=some X.stack
 stk:X.stack=X.outer\/(X.stack=X.env::X.outer/\X.env.frame=some X.env.locals)
 exf:∀ b∈X.ex,b≠X.env.locals/\∀ x c,X.env.cells.lookup x=some c->c≠b
 bs:∀ b o,X.base.get? b=some o->X.s₀.heap.get? b=some o/\X.H₀ b=none
 bsz:X.base.objs.size<=X.s₀.heap.objs.size
 noex:∀ b o,X.base.get? b=some o->b ∉ X.ex
 exfs:∀ b∈X.ex,b ∉ X.fs
 funs:X.s₀.heap.FunFrames X.base X.outer
 frf:∀ b∈X.fs,X.H₀ b=none
structure Inv (X:Cx) (pins:List (Addr×Obj)) (σ:List (Option V)) (H:Hp) (s:Shared):Prop where
 ok:X.Ok
 os:s.os=X.s₀.os
 bare:AllBare s.gens
 base:Un X.fs X.ex X.H₀ H X.s₀.heap s.heap
 loc:∃ m,s.heap.Ns X.env.locals m/\∀ (i:Nat) (x:Str) (v:V),X.N[i]?=some x->σ[i]?=some (some v)->qL X.env.scope x->∃ u,zi v u/\O4 X.env s.heap m x u
 cell:∀ x c,X.env.cells.lookup x=some c->∃ v,s.heap.IsCell c v
 free:H X.env.locals=none
 freeC:∀ x c,X.env.cells.lookup x=some c->H c=none
 pin:∀ p∈X.pn++pins,s.heap.get? p.1=some p.2/\H p.1=none/\p.1≠X.env.locals/\p.1 ∉ X.fs/\∀ v,p.2.data≠.cell v
 hok:yo X.prog X.w H s.heap
 len:σ.length=X.N.length
section
variable {X:Cx} {pins:List (Addr×Obj)} {σ:List (Option V)} {H H':Hp} {s:Shared} {h':Heap}
theorem Cx.Ok.nofr (ok:X.Ok) {b:Addr} {o:Obj} (e:X.base.get? b=some o):b ∉ X.fs:=fun hb=>by
 have:=(ok.funs.mem hb).1
 rw [e] at this; cases this
theorem Inv.bs (I:Inv X pins σ H s):∀ b o,X.base.get? b=some o->s.heap.get? b=some o/\H b=none:=fun b o e=>
 ⟨I.base.keep b o (I.ok.bs b o e).1 (I.ok.bs b o e).2 (I.ok.nofr e) (I.ok.noex b o e),I.base.free b o (I.ok.bs b o e).1 (I.ok.bs b o e).2 (I.ok.noex b o e)⟩
theorem Inv.bk (I:Inv X pins σ H s):∀ b o,X.base.get? b=some o->s.heap.get? b=some o:=fun b o e=>(I.bs b o e).1
theorem Inv.mod (I:Inv X pins σ H s):Mod X.K X.mg X.base:=I.ok.mod
theorem Inv.kIn (I:Inv X pins σ H s):X.K.In s.heap:=I.ok.mod.kin.keeps I.bk
theorem Inv.lt (I:Inv X pins σ H s):X.env.locals<s.heap.objs.size:=let ⟨_,hn,_⟩:=I.loc; hn.lt
theorem Inv.sz (I:Inv X pins σ H s):X.s₀.heap.objs.size<=s.heap.objs.size:=Nat.le_trans I.ok.above (Nat.le_of_lt I.lt)
theorem Inv.nofs (I:Inv X pins σ H s) {a:Addr} (h:s.heap.objs.size<=a):a ∉ X.fs:=fun hb=>by
 obtain ⟨_,o,ho,_⟩:=I.ok.funs.mem hb
 exact absurd (Nat.lt_of_lt_of_le (Heap.lt_size ho) (Nat.le_trans I.sz h)) (Nat.lt_irrefl _)
theorem Inv.cne (I:Inv X pins σ H s):∀ x c,X.env.cells.lookup x=some c->c≠X.env.locals:=fun x c e z=>by
 obtain ⟨v,o,ho,hd⟩:=I.cell x c e
 obtain ⟨m,⟨o',es,ep,ho',hd',_⟩,_⟩:=I.loc
 rw [z,ho'] at ho; cases ho; rw [hd'] at hd; cases hd
theorem Inv.funs (I:Inv X pins σ H s):s.heap.FunFrames X.base X.outer:=by
 have all:∀ (l:List Env),(∀ b∈yT l,b∈X.fs)->X.s₀.heap.FunFrames X.base l->s.heap.FunFrames X.base l:=by
  intro l
  induction l with
  | nil=>intro _ _; trivial
  | cons env r ih=>
   intro hs hl
   obtain ⟨hk,⟨L,o,hf,hn,ho,hd⟩,hr⟩:=hl
   have hL:L∈X.fs:=hs L (by unfold yT; rw [List.filterMap_cons,hf]; exact List.mem_cons_self)
   obtain ⟨sl,e⟩:=I.base.slot L o ho (I.ok.frf L hL) hL fun z=>I.ok.exfs L z hL
   exact ⟨hk,⟨L,_,hf,hn,e,hd⟩,ih (fun b hb=>hs b (by unfold yT; rw [List.filterMap_cons,hf]; exact List.mem_cons_of_mem _ hb)) hr⟩
 exact all X.outer (fun _ hb=>hb) I.ok.funs
theorem Inv.stack (I:Inv X pins σ H s):s.heap.FunFrames X.base X.stack:=by
 rcases I.ok.stk with e | ⟨e,hf⟩
 ·rw [e]; exact I.funs
 ·rw [e]
  obtain ⟨m,hn,_⟩:=I.loc
  refine .cons (by rw [I.ok.kind]; decide) hf hn ?_ I.funs
  exact Heap.get?_none_of_le (Nat.le_trans I.ok.bsz I.ok.above)
theorem Inv.stkSub (I:Inv X pins σ H s):∀ b∈yT X.stack,b∈X.env.locals::X.fs:=fun b hb=>by
 rcases I.ok.stk with e | ⟨e,hf⟩
 ·rw [e] at hb; exact List.mem_cons_of_mem _ hb
 ·rw [e] at hb
  unfold yT at hb
  rw [List.filterMap_cons,hf] at hb
  exact hb
theorem Inv.stkFree (I:Inv X pins σ H s):∀ b∈yT X.stack,H b=none:=fun b hb=>by
 rcases List.mem_cons.mp (I.stkSub b hb) with e | hb
 ·rw [e]; exact I.free
 ·obtain ⟨_,o,ho,_⟩:=I.ok.funs.mem hb
  exact I.base.free b o ho (I.ok.frf b hb) fun z=>I.ok.exfs b z hb
theorem Inv.step {g':Array GenState} {t':Nat} {d':Drawn} {ch:List Addr} (I:Inv X pins σ H s)
  (hch:∀ b∈ch,(b∈X.ex\/X.s₀.heap.objs.size<=b)/\b≠X.env.locals/\(∀ x c,X.env.cells.lookup x=some c->c≠b)/\∀ p∈X.pn++pins,p.1≠b)
  (keep:∀ b o,b≠X.env.locals->b ∉ X.fs->b ∉ ch->s.heap.get? b=some o->H b=none->h'.get? b=some o)
  (slot:∀ b o,b≠X.env.locals->b∈X.fs->b ∉ ch->s.heap.get? b=some o->H b=none->∃ sl,h'.get? b=some { o with slots:=sl }) (free:∀ b o,b ∉ ch->s.heap.get? b=some o->H b=none->H' b=none)
  (there:∀ b o,b ∉ ch->s.heap.get? b=some o->∃ o',h'.get? b=some o')
  (tups:∀ b xs,H b=some (.tup xs)->H' b=some (.tup xs)) (frzs:∀ b o u,H b=some (.frz o u)->H' b=some (.frz o u)) (tbls:∀ b ps,H b=some (.tbl ps)->∃ more,H' b=some (.tbl (ps++more)))
  (ns:∀ m,s.heap.Ns X.env.locals m->h'.Ns X.env.locals m) (hok:yo X.prog X.w H' h') (hg:AllBare g') :
  Inv X pins σ H' { s with heap:=h',gens:=g',drawn:=d',toks:=t' }:=by
 have neL:∀ b o,X.s₀.heap.get? b=some o->b≠X.env.locals:=fun b o e=>Nat.ne_of_lt (Nat.lt_of_lt_of_le (Heap.lt_size e) I.ok.above)
 have neC:∀ b o,X.s₀.heap.get? b=some o->b ∉ X.ex->b ∉ ch:=fun b o e hx hb=>by
  rcases (hch b hb).1 with z | z
  ·exact hx z
  ·exact absurd (Nat.lt_of_lt_of_le (Heap.lt_size e) z) (Nat.lt_irrefl _)
 have cellK:∀ x c,X.env.cells.lookup x=some c->∀ v,s.heap.IsCell c v->h'.IsCell c v:=fun x c e v ⟨o,ho,hd⟩=>by
  have nch:c ∉ ch:=fun z=>(hch c z).2.2.1 x c e rfl
  by_cases hc:c∈X.fs
  ·obtain ⟨sl,q⟩:=slot c o (I.cne x c e) hc nch ho (I.freeC x c e)
   exact ⟨_,q,hd⟩
  ·exact ⟨o,keep c o (I.cne x c e) hc nch ho (I.freeC x c e),hd⟩
 refine ⟨I.ok,I.os,hg,⟨fun b o e n hb hx=>?_,fun b o e n hb hx=>?_,fun b o e n hx=>?_,fun b o e hx=>?_,fun b xs e=>tups b xs (I.base.tups b xs e),fun b o xs e=>frzs b o xs (I.base.frzs b o xs e),fun b ps e=>?_⟩,?_,fun x c e=>?_,?_,fun x c e=>?_,fun p hp=>?_,hok,I.len⟩
 ·exact keep b o (neL b o e) hb (neC b o e hx) (I.base.keep b o e n hb hx) (I.base.free b o e n hx)
 ·obtain ⟨sl,e1⟩:=I.base.slot b o e n hb hx
  obtain ⟨sl',e2⟩:=slot b _ (neL b o e) hb (neC b o e hx) e1 (I.base.free b o e n hx)
  exact ⟨sl',e2⟩
 ·obtain ⟨o',e1⟩:=I.base.there b o e hx
  exact free b o' (neC b o e hx) e1 (I.base.free b o e n hx)
 ·obtain ⟨o',e1⟩:=I.base.there b o e hx
  exact there b o' (neC b o e hx) e1
 ·obtain ⟨m1,e1⟩:=I.base.tbls b ps e
  obtain ⟨m2,e2⟩:=tbls b _ e1
  exact ⟨m1++m2,by rw [e2,Array.append_assoc]⟩
 ·obtain ⟨m,hn,hl⟩:=I.loc
  refine ⟨m,ns m hn,fun i x v e1 e2 e3=>?_⟩
  obtain ⟨u,r,l⟩:=hl i x v e1 e2 e3
  refine ⟨u,r,?_⟩
  rcases l with l | ⟨k,c,e,z⟩
  ·exact .inl l
  ·exact .inr ⟨k,c,e,cellK x c e _ z⟩
 ·obtain ⟨v,z⟩:=I.cell x c e
  exact ⟨v,cellK x c e v z⟩
 ·obtain ⟨m,⟨o,_,_,ho,_⟩,_⟩:=I.loc
  exact free _ o (fun z=>(hch _ z).2.1 rfl) ho I.free
 ·obtain ⟨v,o,ho,hd⟩:=I.cell x c e
  exact free c o (fun z=>(hch c z).2.2.1 x c e rfl) ho (I.freeC x c e)
 ·obtain ⟨e,n,ne,nf,d⟩:=I.pin p hp
  have nch:p.1 ∉ ch:=fun z=>(hch p.1 z).2.2.2 p hp rfl
  exact ⟨keep p.1 p.2 ne nf nch e n,free p.1 p.2 nch e n,ne,nf,d⟩
theorem Inv.un {t':Nat} (I:Inv X pins σ H s) (u:Un X.fs [] H H' s.heap h') (hok:yo X.prog X.w H' h'):Inv X pins σ H' { s with heap:=h',toks:=t' }:=by
 obtain ⟨m,⟨o,es,ep,ho,r⟩,_⟩:=id I.loc
 obtain ⟨sl,hL⟩:=u.any ho I.free (by simp)
 exact I.step (g':=s.gens) (d':=s.drawn) (ch:=[]) (fun _ z=>nomatch z) (fun b o _ hb _ e n=>u.keep b o e n hb (by simp)) (fun b o _ hb _ e n=>u.slot b o e n hb (by simp)) (fun b o _ e n=>u.free b o e n (by simp)) (fun b o _ e=>u.there b o e (by simp)) u.tups u.frzs u.tbls (fun m' hm=>by
  obtain ⟨o',es',ep',ho',r'⟩:=hm
  rw [ho] at ho'; cases ho'
  exact ⟨_,es',ep',hL,r'⟩) hok I.bare
theorem Inv.call {g':Array GenState} {t':Nat} {d':Drawn} {ch:List Addr} (I:Inv X pins σ H s) (u:Un (yT X.stack) ch H H' s.heap h') (hok:yo X.prog X.w H' h') (hg:AllBare g')
  (hch:∀ b∈ch,(b∈X.ex\/X.s₀.heap.objs.size<=b)/\b≠X.env.locals/\(∀ x c,X.env.cells.lookup x=some c->c≠b)/\∀ p∈X.pn++pins,p.1≠b) :
  Inv X pins σ H' { s with heap:=h',gens:=g',drawn:=d',toks:=t' }:=by
 obtain ⟨m,⟨o,es,ep,ho,r⟩,_⟩:=id I.loc
 obtain ⟨sl,hL⟩:=u.any ho I.free fun z=>(hch _ z).2.1 rfl
 exact I.step (ch:=ch) hch (fun b o hL hb hc e n=>u.keep b o e n (fun z=>(List.mem_cons.mp (I.stkSub b z)).elim hL hb) hc) (fun b o _ _ hc e n=>u.any e n hc) (fun b o hc e n=>u.free b o e n hc) (fun b o hc e=>u.there b o e hc) u.tups u.frzs u.tbls (fun m' hm=>by
  obtain ⟨o',es',ep',ho',r'⟩:=hm
  rw [ho] at ho'; cases ho'
  exact ⟨_,es',ep',hL,r'⟩) hok hg
theorem Inv.turned {t':Nat} {it:Addr} (I:Inv X pins σ H s) (k:∀ b o,b≠it->s.heap.get? b=some o->h'.get? b=some o) (hn:H it=none) (hL:it≠X.env.locals)
  (h1:it∈X.ex\/X.s₀.heap.objs.size<=it) (h2:∀ x c,X.env.cells.lookup x=some c->c≠it) (h3:∀ p∈X.pn++pins,p.1≠it):Inv X pins σ H { s with heap:=h',toks:=t' }:=by
 have nit:∀ b u,H b=some u->b≠it:=fun b u e z=>by rw [z,hn] at e; cases e
 refine I.step (g':=s.gens) (d':=s.drawn) (ch:=[it]) (fun b hb=>?_) (fun b o _ _ hc e _=>k b o (fun z=>hc (by simp [z])) e) (fun b o _ _ hc e _=>⟨o.slots,k b o (fun z=>hc (by simp [z])) e⟩) (fun _ _ _ _ n=>n)
  (fun b o hc e=>⟨o,k b o (fun z=>hc (by simp [z])) e⟩) (fun _ _ e=>e) (fun _ _ _ e=>e) (fun b ps e=>⟨#[],by rw [e]; simp⟩) (fun m hm=>?_) (fun b u e=>?_) I.bare
 ·have e:b=it:=by simpa using hb
  subst e
  exact ⟨h1,hL,h2,h3⟩
 ·obtain ⟨o,es,ep,ho,r⟩:=hm
  exact ⟨o,es,ep,k _ o (Ne.symm hL) ho,r⟩
 ·refine (I.hok b u e).stay (fun c v hc q=>k c v ?_ q) (fun _ q=>q) fun _ _ q=>q
  rcases hc with z | z
  ·rw [z]; exact nit b u e
  ·exact nit c _ z
theorem Inv.tok (I:Inv X pins σ H s) (t:Nat):Inv X pins σ H { s with toks:=t }:=I.un (h':=s.heap) (t':=t) Un.refl I.hok
theorem Inv.kept {t':Nat} (I:Inv X pins σ H s) (k:∀ b u,s.heap.get? b=some u->h'.get? b=some u):Inv X pins σ H { s with heap:=h',toks:=t' }:=I.un (Un.kept k) (I.hok.kept k)
theorem Inv.laid {a:Addr} {o:HO} {t':Nat} (I:Inv X pins σ H s) (k:∀ b u,s.heap.get? b=some u->h'.get? b=some u) (hp:s.heap.objs.size<=a) (new:xI X.prog X.w (zu H a o) h' a o) :
  Inv X pins σ (zu H a o) { s with heap:=h',toks:=t' }:=I.un (Un.laid k hp (I.hok.fresh hp)) (I.hok.laid k hp new)
theorem Inv.write {x e:Addr} {o:HO} {t':Nat} (I:Inv X pins σ H s) (mu:gM (H x)) (he:e=x\/H e=some (.own x)) (k:∀ b u,b≠e->s.heap.get? b=some u->h'.get? b=some u) (heo:∃ u,h'.get? e=some u)
  (new:xI X.prog X.w (zu H x o) h' x o):Inv X pins σ (zu H x o) { s with heap:=h',toks:=t' }:=I.un (Un.write mu he k heo) (I.hok.write mu he k heo new)
theorem Inv.weak {σ':List (Option V)} (I:Inv X pins σ H s) (hl:σ'.length=σ.length) (w:∀ (i:Nat) v,σ'[i]?=some (some v)->σ[i]?=some (some v)):Inv X pins σ' H s:=
 ⟨I.ok,I.os,I.bare,I.base,let ⟨m,hn,hl'⟩:=I.loc; ⟨m,hn,fun i x v e1 e2 e3=>hl' i x v e1 (w i v e2) e3⟩,I.cell,I.free,I.freeC,I.pin,I.hok,hl.trans I.len⟩
theorem Inv.pins_of {pins':List (Addr×Obj)} (I:Inv X pins σ H s) (h:∀ p∈pins',s.heap.get? p.1=some p.2/\H p.1=none/\p.1≠X.env.locals/\p.1 ∉ X.fs/\∀ v,p.2.data≠.cell v):Inv X pins' σ H s:=
 ⟨I.ok,I.os,I.bare,I.base,I.loc,I.cell,I.free,I.freeC,fun p hp=>(List.mem_append.mp hp).elim (fun z=>I.pin p (List.mem_append_left _ z)) (h p),I.hok,I.len⟩
theorem Qj {N:List Str} (hN:N.Nodup) {i j:Nat} {x:Str} (a:N[i]?=some x) (b:N[j]?=some x):i=j:=by
 obtain ⟨h1,e1⟩:=List.getElem?_eq_some_iff.mp a
 obtain ⟨h2,e2⟩:=List.getElem?_eq_some_iff.mp b
 exact (List.getElem_inj hN).mp (e1.trans e2.symm)
theorem IQ {M:Model} {A:Around} {E:Value->Shared->Prop} {i:Nat} {x:Str} {v:V} {u:Value} {Q:Unit->Shared->Prop} (I:Inv X pins σ H s) (hN:X.N.Nodup) (hi:X.N[i]?=some x) (hx:uf X.env.scope x) (r:zi v u)
  (h:∀ s',Inv X pins (σ.set i (some v)) H s'->(∃ a,Heap.SameBut a s.heap s'.heap/\(a=X.env.locals\/X.env.cells.lookup x=some a))->Q () s') (hf:X.fn x=true\/X.env.scope.names.lookup x=some .local:=by first | exact .inl rfl | exact .inr rfl | assumption):wpAny M A (storeName X.env x u) Q E s:=by
 obtain ⟨m,hn,hl⟩:=id I.loc
 have hcls:(X.env.scope.kind == .class||(X.env.scope.kind == .module&&X.env.locals != X.env.globals))=false:=by rw [I.ok.kind]; rfl
 have hiσ:i<σ.length:=by rw [I.len]; exact (List.getElem?_eq_some_iff.mp hi).1
 have cne:=I.cne
 have tracked:∀ {a:Addr} {h':Heap},(∃ o,s.heap.get? a=some o/\H a=none)->Heap.SameBut a s.heap h'->yo X.prog X.w H h':=fun {a h'} ha hs b ob e=>by
  obtain ⟨_,_,hfree⟩:=ha
  refine (I.hok b ob e).stay (fun c w' hc q=>(hs.2 c ?_).trans q) (fun _ q=>q) fun _ _ q=>q
  rintro rfl
  rcases hc with rfl | hc
  ·rw [hfree] at e; cases e
  ·rw [hfree] at hc; cases hc
 rcases hx with hk | hk
 ·refine wpAny_storeName_local hk hn (fun h' hn' hs=>?_) hcls
  obtain ⟨oL,_,_,hoL,_⟩:=id hn
  refine h _ ⟨I.ok,I.os,I.bare,⟨fun b o e n hb hx=>?_,fun b o e n hb hx=>?_,I.base.free,fun b o e hx=>?_,I.base.tups,I.base.frzs,I.base.tbls⟩,⟨_,hn',fun j y v' e1 e2 e3=>?_⟩,fun y c e=>?_,I.free,I.freeC,fun p hp=>?_,tracked ⟨oL,hoL,I.free⟩ hs,by simpa using I.len⟩ ⟨_,hs,.inl rfl⟩
  ·exact (hs.2 b (Nat.ne_of_lt (Nat.lt_of_lt_of_le (Heap.lt_size e) I.ok.above))).trans (I.base.keep b o e n hb hx)
  ·obtain ⟨sl,e1⟩:=I.base.slot b o e n hb hx
   exact ⟨sl,(hs.2 b (Nat.ne_of_lt (Nat.lt_of_lt_of_le (Heap.lt_size e) I.ok.above))).trans e1⟩
  ·obtain ⟨o',e1⟩:=I.base.there b o e hx
   exact ⟨o',(hs.2 b (Nat.ne_of_lt (Nat.lt_of_lt_of_le (Heap.lt_size e) I.ok.above))).trans e1⟩
  ·by_cases hj:j=i
   ·subst hj
    rw [hi] at e1; cases e1
    rw [List.getElem?_set_self hiσ] at e2
    cases e2
    exact ⟨u,r,.inl ⟨hk,by simp⟩⟩
   ·rw [List.getElem?_set_ne (Ne.symm hj)] at e2
    obtain ⟨u',r',q⟩:=hl j y v' e1 e2 e3
    refine ⟨u',r',?_⟩
    rcases q with ⟨k,e⟩ | ⟨k,c,e,z⟩
    ·refine .inl ⟨k,?_⟩
     have:y≠x:=fun e=>hj (Qj hN e1 (e ▸ hi))
     simp [this,e]
    ·exact .inr ⟨k,c,e,z.sameBut hs (cne y c e)⟩
  ·obtain ⟨w',z⟩:=I.cell y c e
   exact ⟨w',z.sameBut hs (cne y c e)⟩
  ·obtain ⟨e,n,ne,nf,d⟩:=I.pin p hp
   exact ⟨(hs.2 p.1 ne).trans e,n,ne,nf,d⟩
 ·have hfn:X.fn x=true:=by
   rcases hf with z | z
   ·exact z
   ·rw [z] at hk; cases hk
  obtain ⟨c,hc⟩:=I.ok.has x (.inl hk)
  obtain ⟨w',z⟩:=I.cell x c hc
  refine wpAny_storeName_cell I.ok.kind hk hc z (fun h' hc' hs=>?_)
  obtain ⟨oc,hoc,hocd⟩:=id z
  refine h { s with heap:=h' } ⟨I.ok,I.os,I.bare,⟨fun b o e n hb hx=>?_,fun b o e n hb hx=>?_,I.base.free,fun b o e hx=>?_,I.base.tups,I.base.frzs,I.base.tbls⟩,⟨m,hn.sameBut hs (Ne.symm (cne x c hc)),fun j y v' e1 e2 e3=>?_⟩,fun y c' e=>?_,I.free,I.freeC,fun p hp=>?_,tracked ⟨oc,hoc,I.freeC x c hc⟩ hs,by simpa using I.len⟩ ⟨c,hs,.inr hc⟩
  ·exact (hs.2 b (Nat.ne_of_lt (Nat.lt_of_lt_of_le (Heap.lt_size e) (I.ok.cab x c hfn hc)))).trans (I.base.keep b o e n hb hx)
  ·obtain ⟨sl,e1⟩:=I.base.slot b o e n hb hx
   exact ⟨sl,(hs.2 b (Nat.ne_of_lt (Nat.lt_of_lt_of_le (Heap.lt_size e) (I.ok.cab x c hfn hc)))).trans e1⟩
  ·obtain ⟨o',e1⟩:=I.base.there b o e hx
   exact ⟨o',(hs.2 b (Nat.ne_of_lt (Nat.lt_of_lt_of_le (Heap.lt_size e) (I.ok.cab x c hfn hc)))).trans e1⟩
  ·by_cases hj:j=i
   ·subst hj
    rw [hi] at e1; cases e1
    rw [List.getElem?_set_self hiσ] at e2
    cases e2
    exact ⟨u,r,.inr ⟨.inl hk,c,hc,hc'⟩⟩
   ·rw [List.getElem?_set_ne (Ne.symm hj)] at e2
    obtain ⟨u',r',q⟩:=hl j y v' e1 e2 e3
    refine ⟨u',r',?_⟩
    rcases q with q | ⟨k,c',e,z'⟩
    ·exact .inl q
    ·refine .inr ⟨k,c',e,z'.sameBut hs ?_⟩
     rintro rfl
     exact hj (Qj hN e1 (I.ok.inj _ _ _ e hc ▸ hi))
  ·by_cases hcc:c'=c
   ·subst hcc; exact ⟨_,hc'⟩
   ·obtain ⟨w2,z2⟩:=I.cell y c' e
    exact ⟨w2,z2.sameBut hs hcc⟩
  ·obtain ⟨e,n,ne,nf,d⟩:=I.pin p hp
   refine ⟨(hs.2 p.1 ?_).trans e,n,ne,nf,d⟩
   intro q
   rw [q,hoc] at e
   have q':oc=p.2:=Option.some.inj e
   exact d w' (by rw [<- q']; exact hocd)
theorem Yr {M:Model} {A:Around} {E:Value->Shared->Prop} {i:Nat} {x:Str} {v:V} {u:Value} {Q:Unit->Shared->Prop} (I:Inv X pins σ H s) (hN:X.N.Nodup) (hi:X.N[i]?=some x) (hx:uf X.env.scope x) (r:zi v u)
  (h:∀ s',Inv X pins (σ.set i (some v)) H s'->Q () s') (hf:X.fn x=true\/X.env.scope.names.lookup x=some .local:=by first | exact .inl rfl | exact .inr rfl | assumption):wpAny M A (storeName X.env x u) Q E s:=
 IQ I hN hi hx r (fun s' I' _=>h s' I') hf
theorem Inv.call' {s':Shared} {ch:List Addr} (I:Inv X pins σ H s) (ho:s'.os=s.os) (u:Un (yT X.stack) ch H H' s.heap s'.heap) (hok:yo X.prog X.w H' s'.heap) (hg:AllBare s'.gens)
  (hch:∀ b∈ch,(b∈X.ex\/X.s₀.heap.objs.size<=b)/\b≠X.env.locals/\(∀ x c,X.env.cells.lookup x=some c->c≠b)/\∀ p∈X.pn++pins,p.1≠b):Inv X pins σ H' s':=by
 obtain ⟨h',g',d',t',o'⟩:=s'
 have e:o'=s.os:=ho
 subst e
 exact I.call (g':=g') (t':=t') (d':=d') u hok hg hch
end
noncomputable abbrev XK:=Value->Option Addr->Hp->Prop
noncomputable abbrev St:=List (Option V)
noncomputable abbrev VK:=V->Hp->Prop
noncomputable abbrev TE:=St->Hp->VK->Prop
noncomputable abbrev TT:=St->Hp->(Bool->Hp->Prop)->Prop
noncomputable abbrev TA:=St->Hp->(List V->Hp->Prop)->Prop
structure wq where
 nx:St->Hp->Prop
 rt:VK
 bk:St->Hp->Prop:=fun _ _=>False
 ct:St->Hp->Prop:=fun _ _=>False
noncomputable abbrev TS:=wq->St->Hp->Prop
noncomputable def EP (X:Cx) (pins:List (Addr×Obj)) (σ:St) (Q:VK) (u:Value) (s':Shared):Prop:=∃ v H',Inv X pins σ H' s'/\zi v u/\Q v H'
noncomputable def TP (X:Cx) (pins:List (Addr×Obj)) (σ:St) (Q:Bool->Hp->Prop) (b:Bool) (s':Shared):Prop:=∃ H',Inv X pins σ H' s'/\Q b H'
noncomputable def AP (X:Cx) (pins:List (Addr×Obj)) (σ:St) (Q:List V->Hp->Prop) (us:List Value) (s':Shared):Prop:=∃ vs H',Inv X pins σ H' s'/\zj vs us/\Q vs H'
noncomputable def SP (X:Cx) (pins:List (Addr×Obj)) (D:wq) (f:Flow) (s':Shared):Prop:=
 match f with
 | .next=>∃ σ' H',Inv X pins σ' H' s'/\D.nx σ' H'
 | .brk=>∃ σ' H',Inv X pins σ' H' s'/\D.bk σ' H'
 | .cont=>∃ σ' H',Inv X pins σ' H' s'/\D.ct σ' H'
 | .ret u=>∃ v σ' H',Inv X pins σ' H' s'/\zi v u/\D.rt v H'
noncomputable def PE (X:Cx) (e:Expr) (t:TE):Prop:=
 ∀ (pins:List (Addr×Obj)) (s:Shared) (σ:St) (H:Hp) (Q:VK),Inv X pins σ H s->t σ H Q->wpAny (model X.prog X.w) X.A (eval e X.env) (EP X pins σ Q) X.xe s
noncomputable def PT (X:Cx) (e:Expr) (t:TT):Prop:=
 ∀ (pins:List (Addr×Obj)) (s:Shared) (σ:St) (H:Hp) (Q:Bool->Hp->Prop),Inv X pins σ H s->t σ H Q->wpAny (model X.prog X.w) X.A (isTrue e X.env (eval e X.env)) (TP X pins σ Q) X.xe s
noncomputable def PW (X:Cx) (e:Expr) (t:TT):Prop:=
 ∀ (whole:Sem Value) (pins:List (Addr×Obj)) (s:Shared) (σ:St) (H:Hp) (Q:Bool->Hp->Prop),Inv X pins σ H s->t σ H Q->wpAny (model X.prog X.w) X.A (isTrue e X.env whole) (TP X pins σ Q) X.xe s
theorem PW.pt {X:Cx} {e:Expr} {t:TT} (h:PW X e t):PT X e t:=h _
noncomputable def PA (X:Cx) (es:List Expr) (t:TA):Prop:=
 ∀ (pos:Pos) (pins:List (Addr×Obj)) (s:Shared) (σ:St) (H:Hp) (Q:List V->Hp->Prop),Inv X pins σ H s->t σ H Q->wpAny (model X.prog X.w) X.A (spliced (backTo pos (starEach es X.env))) (AP X pins σ Q) X.xe s
noncomputable def PS (X:Cx) (st:Stmt) (t:TS):Prop:=
 ∀ (pins:List (Addr×Obj)) (s:Shared) (σ:St) (H:Hp) (D:wq),Inv X pins σ H s->t D σ H->wpAny (model X.prog X.w) X.A (exec st X.env) (SP X pins D) X.xe s
noncomputable def wL (X:Cx) (st:List Stmt) (t:TS):Prop:=
 ∀ (pins:List (Addr×Obj)) (s:Shared) (σ:St) (H:Hp) (D:wq),Inv X pins σ H s->t D σ H->wpAny (model X.prog X.w) X.A (execs st X.env) (SP X pins D) X.xe s
theorem zf {α:Type} {t:Sem α} {Q Q':α->Shared->Prop} {M:Model} {A:Around} {E:Value->Shared->Prop} {s:Shared} (h:wpAny M A t Q E s) (hQ:∀ a s,Q a s->Q' a s):wpAny M A t Q' E s:=wpAny_mono h hQ fun _ _ x=>x
end L2
namespace L2
open PySem PySem.Spec PyProof.Rows
section
variable {X:Cx}
noncomputable def tw (i:Nat):TE:=fun σ H Q=>∃ v,σ[i]?=some (some v)/\Q v H
noncomputable def tC (v:V):TE:=fun _ H Q=>Q v H
theorem kS {i:Nat} {x:Str} {pos:Pos} (hN:X.N[i]?=some x) (hv:qL X.env.scope x) (hd:(x == ("__debug__" : Str))=false:=by decide) (hcd:(x == ("__classdict__" : Str))=false:=by decide):PE X (.Name x pos) (tw i):=by
 intro pins s σ H Q I h
 obtain ⟨v,e,h⟩:=h
 obtain ⟨m,hn,hl⟩:=I.loc
 obtain ⟨u,r,l⟩:=hl i x v hN e hv
 have fin:EP X pins σ Q u s:=⟨v,H,I,r,h⟩
 rcases l with ⟨hk,hm⟩ | ⟨hk,c,hc,hcell⟩
 ·exact wpAny_Name (wpAny_loadName_local I.ok.kind hk hn hm fin) hd
 ·rcases hk with hk | hk
  ·exact wpAny_Name (wpAny_loadName_cell I.ok.kind hk hc hcell fin) hd
  ·exact wpAny_Name (wpAny_loadName_free I.ok.kind hk hc hcell fin hcd) hd
theorem Qv {i j pos}:PE X (.Constant (.int i) j pos) (tC (.int i)):=fun _ _ _ H _ I h=>wpAny_Constant_int ⟨.int i,H,I.tok _,⟨_,rfl⟩,h⟩
theorem DQ {b j pos}:PE X (.Constant (.bool b) j pos) (tC (.bl b)):=fun _ _ _ H _ I h=>Constant_bool ⟨.bl b,H,I,rfl,h⟩
theorem Dd {j pos}:PE X (.Constant .none j pos) (tC .non):=fun _ _ _ H _ I h=>Constant_none ⟨.non,H,I,rfl,h⟩
theorem Dg {x j pos}:PE X (.Constant (.str x) j pos) (tC (.str x)):=fun _ _ _ H _ I h=>Calls.Constant_str ⟨.str x,H,I.tok _,⟨_,rfl⟩,h⟩
noncomputable def Gl (X:Cx) (x:Str):Prop:=X.env.kindOf x=some .globalImplicit
theorem tW {E:Value->Shared->Prop} {pins:List (Addr×Obj)} {s:Shared} {σ:St} {H:Hp} {x:Str} {u:Value} {pos:Pos} {Q:Value->Shared->Prop} (I:Inv X pins σ H s) (hg:Gl X x) (hm:X.mg x=some u) (h:Q u s)
  (hd:(x == ("__debug__" : Str))=false:=by decide):wpAny (model X.prog X.w) X.A (eval (.Name x pos) X.env) Q E s:=
 Calls.Name_function_global I.ok.kind hg (Calls.loadGlobal_global (by rw [I.ok.glob]; exact I.mod.glob.keeps I.bk) hm h) hd
theorem kJ {E:Value->Shared->Prop} {pins:List (Addr×Obj)} {s:Shared} {σ:St} {H:Hp} {x:Str} {u:Value} {pos:Pos} {Q:Value->Shared->Prop} (I:Inv X pins σ H s) (hg:Gl X x) (hm:X.mg x=none) (hv:bootBuiltins x=some u) (h:Q u s)
  (hn:x ≠ "__name__" := by decide) (hd:(x == ("__debug__" : Str))=false:=by decide):wpAny (model X.prog X.w) X.A (eval (.Name x pos) X.env) Q E s:=by
 obtain ⟨mb,h1,h2⟩:=I.mod.blt
 exact Calls.Name_function_global I.ok.kind hg (Calls.loadGlobal_builtin (by rw [I.ok.glob]; exact I.mod.glob.keeps I.bk) hm (by rw [I.ok.blt]; exact h1.keeps I.bk) ((h2 x hn).trans hv) h) hd
theorem DZ {x:Str} {v:V} {u:Value} {pos:Pos} (hg:Gl X x) (hm:X.mg x=some u) (r:zi v u) (hd:(x == ("__debug__" : Str))=false:=by decide):PE X (.Name x pos) (tC v):=
 fun _ _ _ H _ I h=>tW I hg hm ⟨v,H,I,r,h⟩ hd
theorem DR {x:Str} {v:V} {u:Value} {pos:Pos} (hg:Gl X x) (hm:X.mg x=none) (hv:bootBuiltins x=some u) (r:zi v u) (hn:x ≠ "__name__" := by decide) (hd:(x == ("__debug__" : Str))=false:=by decide):PE X (.Name x pos) (tC v):=
 fun _ _ _ H _ I h=>kJ I hg hm hv ⟨v,H,I,r,h⟩ hn hd
variable {a b:Expr} {ta tb:TE} {pos:Pos}
noncomputable def tB (t:TE):TT:=fun σ H Q=>t σ H fun x H1=>∃ c,x=.bl c/\Q c H1
theorem FP {e:Expr} {t:TE} (h:PE X e t) (he:∀ whole,isTrue e X.env whole=(do let v <- whole; standAt e.pos; holding [v] (truthy v)):=by intro _; rfl):PT X e (tB t):=by
 intro pins s σ H Q I hw
 refine isTrue_plain (zf (h pins s σ H _ I hw) fun v s1 ⟨x,H1,I1,r1,q1⟩=>?_) (he _)
 obtain ⟨d,rfl,q⟩:=q1
 cases r1
 exact wpAny_truthy_bool ⟨H1,I1,q⟩
variable {tA tB':TT} {yG:List Expr}
noncomputable def E6 (t u:TT):TT:=fun σ H Q=>t σ H fun c H1=>if c=true then u σ H1 Q else Q false H1
noncomputable def EM (t u:TT):TT:=fun σ H Q=>t σ H fun c H1=>if c=true then Q true H1 else u σ H1 Q
noncomputable def EL (t:TT):TT:=fun σ H Q=>t σ H fun c H1=>Q (!c) H1
theorem FY (ha:PT X a tA):PW X (.BoolOp .And [a] pos) tA:=by
 intro wh pins s σ H Q I h
 refine isTrue_and (zf (ha pins s σ H Q I h) fun c s1 e=>?_)
 cases c with
 | true=>exact isTrue_and_nil e
 | false=>exact e
theorem Fa (ha:PT X a tA):PW X (.BoolOp .Or [a] pos) tA:=by
 intro wh pins s σ H Q I h
 refine isTrue_or (zf (ha pins s σ H Q I h) fun c s1 e=>?_)
 cases c with
 | false=>exact isTrue_or_nil e
 | true=>exact e
theorem FW (ha:PT X a tA) (hb:PW X (.BoolOp .And (b::yG) pos) tB'):PW X (.BoolOp .And (a::b::yG) pos) (E6 tA tB'):=by
 intro wh pins s σ H Q I h
 refine isTrue_and (zf (ha pins s σ H _ I h) fun c s1 ⟨H1,I1,q1⟩=>?_)
 cases c with
 | true=>exact hb wh pins s1 σ H1 Q I1 q1
 | false=>exact ⟨H1,I1,q1⟩
theorem FZ (ha:PT X a tA) (hb:PW X (.BoolOp .Or (b::yG) pos) tB'):PW X (.BoolOp .Or (a::b::yG) pos) (EM tA tB'):=by
 intro wh pins s σ H Q I h
 refine isTrue_or (zf (ha pins s σ H _ I h) fun c s1 ⟨H1,I1,q1⟩=>?_)
 cases c with
 | true=>exact ⟨H1,I1,q1⟩
 | false=>exact hb wh pins s1 σ H1 Q I1 q1
theorem FN (ha:PT X a tA):PT X (.UnaryOp .Not a pos) (EL tA):=by
 intro pins s σ H Q I h
 exact isTrue_not (ha pins s σ H (fun c H1=>Q (!c) H1) I h)
noncomputable def E7 (ta tb:TE):TE:=fun σ H Q=>ta σ H fun x H1=>∃ c,x=.bl c/\if c=true then tb σ H1 Q else Q (.bl false) H1
theorem De {op} {t:TE} (h:PE X a t):PE X (.BoolOp op [a] pos) t:=fun pins s σ H Q I hw=>BoolOp_one (h pins s σ H Q I hw)
theorem DP (ha:PE X a ta) (hb:PE X (.BoolOp .And (b::yG) pos) tb):PE X (.BoolOp .And (a::b::yG) pos) (E7 ta tb):=by
 intro pins s σ H Q I h
 refine BoolOp_and (zf (ha pins s σ H _ I h) fun v s1 ⟨x,H1,I1,r1,q1⟩=>?_)
 obtain ⟨c,rfl,q1⟩:=q1
 cases r1
 refine wpAny_truthy_bool ?_
 cases c with
 | true=>exact hb pins s1 σ H1 Q I1 q1
 | false=>exact ⟨.bl false,H1,I1,rfl,q1⟩
noncomputable def EE (t:TT) (ta tb:TE):TE:=fun σ H Q=>t σ H fun c H1=>if c=true then ta σ H1 Q else tb σ H1 Q
theorem Da {c:Expr} (hc:PT X c tA) (ha:PE X a ta) (hb:PE X b tb):PE X (.IfExp c a b pos) (EE tA ta tb):=by
 intro pins s σ H Q I h
 refine wpAny_IfExp (zf (hc pins s σ H _ I h) fun d s1 ⟨H1,I1,q1⟩=>?_)
 cases d with
 | true=>exact ha pins s1 σ H1 Q I1 q1
 | false=>exact hb pins s1 σ H1 Q I1 q1
end
end L2
namespace L2
open PySem PySem.Spec PyProof.Rows
noncomputable def yU (K:PySem.W.Frag) (H:Hp) (a:Addr) (xs:List V):Prop:=
 Rd H a (.lst xs) \/
  ∃ (o:Obj) (its:Array Value) (n:Nat),K.lookup a=some o/\o.cls=.type "list" /\ o.dict=none/\o.data=.seq its n/\its.size<=sizeLine/\zj xs its.toList
noncomputable def yx (K:PySem.W.Frag) (H:Hp) (a:Addr) (xs:List V):Prop:=
 Rd H a (.tup xs) \/
  ∃ (o:Obj) (its:Array Value) (n:Nat),K.lookup a=some o/\o.cls=.type "tuple" /\ o.data=.seq its n/\its.size<=sizeLine/\zj xs its.toList
noncomputable def OB:Value->Option V
 | .none=>some .non
 | .bool b=>some (.bl b)
 | .int i _=>some (.int i)
 | .str x _=>some (.str x)
 | .bytes b _=>some (.byt b)
 | .float b _=>some (.flt b)
 | .ref a=>some (.ref a)
 | .type n=>some (.ty n)
 | _=>none
theorem zi.abs {x:V} {u:Value} (r:zi x u):OB u=some x:=by
 cases x with
 | non=>cases r; rfl
 | bl _=>cases r; rfl
 | int _=>obtain ⟨t,rfl⟩:=r; rfl
 | str _=>obtain ⟨t,rfl⟩:=r; rfl
 | byt _=>obtain ⟨t,rfl⟩:=r; rfl
 | flt _=>obtain ⟨t,rfl⟩:=r; rfl
 | ref _=>cases r; rfl
 | ty _=>cases r; rfl
theorem zi.inj {x y:V} {u:Value} (r:zi x u) (q:zi y u):x=y:=Option.some.inj (r.abs.symm.trans q.abs)
theorem zj.inj:∀ {xs ys:List V} {us:List Value},zj xs us->zj ys us->xs=ys
 | _,_,_,.nil,.nil=>rfl
 | _,_,_,.cons r t,.cons r' t'=>by rw [r.inj r',zj.inj t t']
section
variable {X:Cx} {pins:List (Addr×Obj)} {σ:St} {H:Hp} {s:Shared} {a:Addr} {xs ys:List V}
theorem yU.of {K:PySem.W.Frag} (h:H a=some (.lst xs)):yU K H a xs:=.inl (.inl h)
theorem yx.of {K:PySem.W.Frag} (h:H a=some (.tup xs)):yx K H a xs:=.inl (.inl h)
theorem Inv.list (I:Inv X pins σ H s) (h:yU X.K H a xs):∃ its:List Value,zj xs its/\PlainL s.heap a its.toArray/\xs.length<=sizeLine:=by
 rcases h with h | ⟨o,its,n,hk,hc,hd,hs,hz,r⟩
 ·obtain ⟨z,its,n,r,e⟩:=h.ok I.hok
  exact ⟨its,r,⟨_,n,e,rfl,rfl,rfl⟩,z⟩
 ·refine ⟨its.toList,r,⟨o,n,I.kIn a o hk,hc,hd,by simpa using hs⟩,?_⟩
  have e:=r.length
  simp only [Array.length_toList] at e
  omega
theorem Inv.tuple (I:Inv X pins σ H s) (h:yx X.K H a xs):∃ its:List Value,zj xs its/\IsTup s.heap a its.toArray/\xs.length<=sizeLine:=by
 rcases h with h | ⟨o,its,n,hk,hc,hs,hz,r⟩
 ·obtain ⟨z,its,r,p⟩:=h.ok I.hok
  exact ⟨its,r,p,z⟩
 ·refine ⟨its.toList,r,⟨o,I.kIn a o hk,hc,n,by simpa using hs⟩,?_⟩
  have e:=r.length
  simp only [Array.length_toList] at e
  omega
theorem Inv.list_inj (I:Inv X pins σ H s) (h:yU X.K H a xs) (h':yU X.K H a ys):xs=ys:=by
 obtain ⟨its,r,⟨o,n,e,_,_,d⟩,_⟩:=I.list h
 obtain ⟨its',r',⟨o',n',e',_,_,d'⟩,_⟩:=I.list h'
 rw [e] at e'; cases e'
 rw [d] at d'
 injection d' with d1 _
 have:its=its':=by simpa using congrArg Array.toList d1
 subst this
 exact r.inj r'
theorem Inv.tuple_inj (I:Inv X pins σ H s) (h:yx X.K H a xs) (h':yx X.K H a ys):xs=ys:=by
 obtain ⟨its,r,⟨o,e,_,n,d⟩,_⟩:=I.tuple h
 obtain ⟨its',r',⟨o',e',_,n',d'⟩,_⟩:=I.tuple h'
 rw [e] at e'; cases e'
 rw [d] at d'
 injection d' with d1 _
 have:its=its':=by simpa using congrArg Array.toList d1
 subst this
 exact r.inj r'
end
noncomputable abbrev Cx.wish (X:Cx) (E:Value->Shared->Prop):Cx:={ X with xe:=E }
noncomputable abbrev Cx.nox (X:Cx):Cx:=X.wish fun _ _=>False
theorem Cx.Ok.wish {X:Cx} (ok:X.Ok) (E:Value->Shared->Prop):(X.wish E).Ok:=
 ⟨ok.mod,ok.kind,ok.glob,ok.blt,ok.above,ok.inj,ok.has,ok.cab,ok.hd,ok.frames,ok.stk,ok.exf,ok.bs,ok.bsz,ok.noex,ok.exfs,ok.funs,ok.frf⟩
theorem Cx.Ok.unwish {X:Cx} {E:Value->Shared->Prop} (ok:(X.wish E).Ok):X.Ok:=
 ⟨ok.mod,ok.kind,ok.glob,ok.blt,ok.above,ok.inj,ok.has,ok.cab,ok.hd,ok.frames,ok.stk,ok.exf,ok.bs,ok.bsz,ok.noex,ok.exfs,ok.funs,ok.frf⟩
section
variable {X:Cx} {pins:List (Addr×Obj)} {σ:St} {H:Hp} {s:Shared} {E:Value->Shared->Prop}
theorem Inv.wish (I:Inv X pins σ H s) (E:Value->Shared->Prop):Inv (X.wish E) pins σ H s:=⟨I.ok.wish E,I.os,I.bare,I.base,I.loc,I.cell,I.free,I.freeC,I.pin,I.hok,I.len⟩
theorem Inv.unwish (I:Inv (X.wish E) pins σ H s):Inv X pins σ H s:=⟨I.ok.unwish,I.os,I.bare,I.base,I.loc,I.cell,I.free,I.freeC,I.pin,I.hok,I.len⟩
theorem SP.unwish {D:wq} {f:Flow} {s':Shared} (h:SP (X.wish E) pins D f s'):SP X pins D f s':=by
 cases f with
 | next=>obtain ⟨σ',H',I,q⟩:=h; exact ⟨σ',H',I.unwish,q⟩
 | brk=>obtain ⟨σ',H',I,q⟩:=h; exact ⟨σ',H',I.unwish,q⟩
 | cont=>obtain ⟨σ',H',I,q⟩:=h; exact ⟨σ',H',I.unwish,q⟩
 | ret u=>obtain ⟨v,σ',H',I,r,q⟩:=h; exact ⟨v,σ',H',I.unwish,r,q⟩
theorem wL.nox {st:List Stmt} {t:TS} (h:wL X.nox st t):wL X st t:=fun pins s σ H D I hw=>
 wpAny_mono (h pins s σ H D (I.wish _) hw) (fun _ _ q=>q.unwish) fun _ _ z=>False.elim z
end
section
variable {X:Cx} {st:Stmt} {yG:List Stmt} {t u:TS} {e:Expr} {te:TE} {pos:Pos}
noncomputable def EJ:TS:=fun D σ H=>D.nx σ H
noncomputable def ER (t u:TS):TS:=fun D σ H=>t { D with nx:=u D } σ H
theorem VM:wL X [] EJ:=fun _ _ σ H _ I h=>wpAny_execs_nil ⟨σ,H,I,h⟩
theorem YS (h1:PS X st t) (h2:wL X yG u):wL X (st::yG) (ER t u):=by
 intro pins s σ H D I h
 refine wpAny_execs_cons (zf (h1 pins s σ H { D with nx:=u D } I h) fun f s1 q=>?_)
 cases f with
 | next=>
  obtain ⟨σ',H',I',q⟩:=q
  exact h2 pins s1 σ' H' D I' q
 | ret v=>exact q
 | brk=>exact q
 | cont=>exact q
theorem J9 (h1:PS X st t):wL X [st] t:=by
 intro pins s σ H D I h
 refine wpAny_execs_cons (zf (h1 pins s σ H D I h) fun f s1 q=>?_)
 cases f with
 | next=>exact wpAny_execs_nil q
 | ret v=>exact q
 | brk=>exact q
 | cont=>exact q
theorem Inv.quiet {pins:List (Addr×Obj)} {σ:St} {H:Hp} {s:Shared} (I:Inv X pins σ H s):interactive X.env=false:=by simp [interactive,I.ok.kind]
noncomputable def IX (te:TE):TS:=fun D σ H=>te σ H fun _ H1=>D.nx σ H1
theorem F7 (he:PE X e te) (hs:swapsWith e none pos.line X.env=pure false:=by rfl):PS X (.Expr e pos) (IX te):=by
 intro pins s σ H D I h
 exact wpAny_Expr_any (zf (he pins s σ H _ I h) fun v s1 ⟨x,H1,I1,r1,q1⟩=>⟨σ,H1,I1,q1⟩) I.quiet hs
noncomputable def EQ (te:TE):TS:=fun D σ H=>te σ H D.rt
theorem VL (he:PE X e te):PS X (.Return (some e) pos) (EQ te):=by
 intro pins s σ H D I h
 exact wpAny_Return_some (zf (he pins s σ H _ I h) fun v s1 ⟨x,H1,I1,r1,q1⟩=>⟨x,σ,H1,I1,r1,q1⟩)
noncomputable def EF (c:TT) (t u:TS):TS:=fun D σ H=>c σ H fun b H1=>if b=true then t D σ H1 else u D σ H1
theorem VJ {c:Expr} {a b:List Stmt} {tc:TT} (hc:PT X c tc) (ha:wL X a t) (hb:wL X b u):PS X (.If c a b pos) (EF tc t u):=by
 intro pins s σ H D I h
 refine wpAny_If (zf (hc pins s σ H _ I h) fun d s1 ⟨H1,I1,q1⟩=>?_)
 cases d with
 | true=>exact ha pins s1 σ H1 D I1 q1
 | false=>exact hb pins s1 σ H1 D I1 q1
end
noncomputable abbrev TG:=V->St->Hp->(St->Hp->Prop)->Prop
noncomputable abbrev vM:=List V->St->Hp->(St->Hp->Prop)->Prop
noncomputable def PG (X:Cx) (target:Expr) (t:TG):Prop:=
 ∀ (pins:List (Addr×Obj)) (s:Shared) (σ:St) (H:Hp) (v:V) (u:Value) (Q:St->Hp->Prop),Inv X pins σ H s->zi v u->t v σ H Q->
  wpAny (model X.prog X.w) X.A (assign target X.env u) (fun _ s'=>∃ σ' H',Inv X pins σ' H' s'/\Q σ' H') X.xe s
noncomputable def jE (X:Cx) (ts:List Expr) (t:vM):Prop:=
 ∀ (pins:List (Addr×Obj)) (s:Shared) (σ:St) (H:Hp) (vs:List V) (us:List Value) (Q:St->Hp->Prop),Inv X pins σ H s->zj vs us->t vs σ H Q->
  wpAny (model X.prog X.w) X.A (assignInOrder ((assignEach ts X.env).map (·.2)) us) (fun _ s'=>∃ σ' H',Inv X pins σ' H' s'/\Q σ' H') X.xe s
noncomputable abbrev ZJ:=V->V->V->Hp->(Hp->Prop)->Prop
noncomputable def Xt (X:Cx) (t:ZJ):Prop:=
 ∀ (pins:List (Addr×Obj)) (s:Shared) (σ:St) (H:Hp) (o i v:V) (ov iv u:Value) (Q:Hp->Prop),Inv X pins σ H s->zi o ov->zi i iv->zi v u->t o i v H Q->
  wpAny (model X.prog X.w) X.A (setItem ov iv u) (fun _ s'=>∃ H',Inv X pins σ H' s'/\Q H') X.xe s
noncomputable abbrev gR:=V->V->Hp->VK->Prop
noncomputable def Xs (X:Cx) (op:Operator) (t:gR):Prop:=
 ∀ (pins:List (Addr×Obj)) (s:Shared) (σ:St) (H:Hp) (x y:V) (v u:Value) (Q:VK),Inv X pins σ H s->zi x v->zi y u->t x y H Q->
  wpAny (model X.prog X.w) X.A (inplaceOp op v u) (EP X pins σ Q) X.xe s
section
variable {X:Cx} {pos:Pos}
noncomputable def vR (i:Nat):TG:=fun v σ H Q=>Q (σ.set i (some v)) H
theorem Dk {i:Nat} {x:Str} (hN:X.N.Nodup) (hi:X.N[i]?=some x) (hx:uf X.env.scope x) (hf:X.fn x=true\/X.env.scope.names.lookup x=some .local:=by first | exact .inl rfl | exact .inr rfl | assumption):PG X (.Name x pos) (vR i):=by
 intro pins s σ H v u Q I r h
 exact wpAny_assign_Name (Yr I hN hi hx r (fun s' I'=>⟨_,H,I',h⟩) hf)
noncomputable def Zv:vM:=fun vs σ H Q=>vs=[]/\Q σ H
noncomputable def qV (t:TG) (u:vM):vM:=fun vs σ H Q=>∃ v r,vs=v::r/\t v σ H fun σ' H'=>u r σ' H' Q
theorem Do:jE X [] Zv:=by
 intro pins s σ H vs us Q I r h
 obtain ⟨e,h⟩:=h
 subst e
 cases r
 exact assignInOrder_nil ⟨σ,H,I,h⟩
theorem Dn {e:Expr} {es:List Expr} {t:TG} {u:vM} (h1:PG X e t) (h2:jE X es u)
  (hs:(assignEach (e::es) X.env).map (·.2)=assign e X.env::(assignEach es X.env).map (·.2):=by rfl):jE X (e::es) (qV t u):=by
 intro pins s σ H vs us Q I r h
 obtain ⟨v,vr,e1,h⟩:=h
 subst e1
 cases r with
 | cons r rr=>
  rw [hs]
  refine assignInOrder_cons (zf (h1 pins s σ H _ _ _ I r h) fun _ s1 ⟨σ1,H1,I1,q1⟩=>?_)
  exact h2 pins s1 σ1 H1 _ _ Q I1 rr q1
noncomputable def Wk (K:PySem.W.Frag) (n:Nat) (t:vM):TG:=fun v σ H Q=>∃ a xs,v=.ref a/\yx K H a xs/\xs.length=n/\t xs σ H Q
theorem Dm {es:List Expr} {k:Nat} {t:vM} {n:Nat} (hc:X.calm=true) (h:jE X es t)
  (hn:(assignEach es X.env).length=n:=by rfl) (hst:(assignEach es X.env).findIdx? (·.1)=none:=by rfl):PG X (.Tuple es k pos) (Wk X.K n t):=by
 intro pins s σ H v u Q I r hw
 obtain ⟨a,xs,e1,hq,hl,hw⟩:=hw
 subst e1
 cases r
 obtain ⟨its,rv,ht,hz⟩:=I.tuple hq
 refine assign_Tuple_tuple (I.ok.hd hc) ht (by simp [hn,<- hl,rv.length]) hst fun h' hx=>?_
 have I1:Inv X pins σ H { s with heap:=h' }:=I.kept (t':=s.toks) fun b o e=>hx b o (Nat.ne_of_lt (Heap.lt_size e)) e
 exact h pins _ σ H xs _ Q I1 (by simpa using rv) hw
noncomputable def Tr (to ti:TE) (t:ZJ):TG:=fun v σ H Q=>to σ H fun o H1=>ti σ H1 fun i H2=>t o i v H2 fun H3=>Q σ H3
theorem Dl {o i:Expr} {to ti:TE} {t:ZJ} (ho:PE X o to) (hi:PE X i ti) (hs:Xt X t)
  (ha:∀ v,assign (.Subscript o i pos) X.env v=(do
   let ov <- holding [v] (eval o X.env)
   let iv <- holding [v,ov] (eval i X.env)
   standAt pos
   holding [v,ov,iv] (setItem ov iv v)
   release [v,ov,iv] []):=by intro _; rfl):PG X (.Subscript o i pos) (Tr to ti t):=by
 intro pins s σ H v u Q I r h
 rw [ha]
 refine wpAny_bind (wpAny_holding (zf (ho pins s σ H _ I h) fun ov s1 ⟨x,H1,I1,r1,q1⟩=>?_))
 refine wpAny_bind (wpAny_holding (zf (hi pins s1 σ H1 _ I1 q1) fun iv s2 ⟨y,H2,I2,r2,q2⟩=>?_))
 refine wpAny_bind (wpAny_standAt (wpAny_bind (wpAny_holding (zf (hs pins s2 σ H2 x y v ov iv u _ I2 r1 r2 r q2) fun _ s3 ⟨H3,I3,q3⟩=>?_))))
 exact wpAny_release ⟨σ,H3,I3,q3⟩
noncomputable def UH (te:TE) (g:TG):TS:=fun D σ H=>te σ H fun x H1=>g x σ H1 D.nx
theorem J7 {tg e:Expr} {te:TE} {g:TG} (he:PE X e te) (hg:PG X tg g) (hs:swapsWithSole [tg] e pos.line X.env=pure false:=by rfl) (hw:swappedStores [tg] e X.env=pure none:=by rfl)
  (h1:(assignEach [tg] X.env).map (·.2)=[assign tg X.env]:=by rfl):PS X (.Assign [tg] e pos) (UH te g):=by
 intro pins s σ H D I h
 refine wpAny_Assign_stores (zf (he pins s σ H _ I h) fun v s1 ⟨x,H1,I1,r1,q1⟩=>?_) hs hw
 rw [h1]
 exact zf (hg pins s1 σ H1 x v _ I1 r1 q1) fun _ s2 q=>q
theorem F9 {i:Nat} {x:Str} {e:Expr} {te:TE} {pos':Pos} (hN:X.N.Nodup) (hi:X.N[i]?=some x) (hx:uf X.env.scope x) (he:PE X e te) (hs:swapsWith e (some (.Name x pos')) pos.line X.env=pure false:=by rfl) (hf:X.fn x=true\/X.env.scope.names.lookup x=some .local:=by first | exact .inl rfl | exact .inr rfl | assumption) :
  PS X (.Assign [.Name x pos'] e pos) (UH te (vR i)):=by
 intro pins s σ H D I h
 refine wpAny_Assign_Name (zf (he pins s σ H _ I h) fun v s1 ⟨y,H1,I1,r1,q1⟩=>?_) hs
 exact Yr I1 hN hi hx r1 (fun s2 I2=>⟨_,H1,I2,q1⟩) hf
noncomputable def E8 (i:Nat) (te:TE) (ti:gR):TS:=fun D σ H=>∃ x,σ[i]?=some (some x)/\te σ H fun y H1=>ti x y H1 fun z H2=>D.nx (σ.set i (some z)) H2
theorem F5 {i:Nat} {x:Str} {e:Expr} {te:TE} {op:Operator} {ti:gR} {pos':Pos} (hN:X.N.Nodup) (hi:X.N[i]?=some x) (hx:uf X.env.scope x) (he:PE X e te) (ho:Xs X op ti) (hf:X.fn x=true\/X.env.scope.names.lookup x=some .local:=by first | exact .inl rfl | exact .inr rfl | assumption) :
  PS X (.AugAssign (.Name x pos') op e pos) (E8 i te ti):=by
 intro pins s σ H D I h
 obtain ⟨v,e1,h⟩:=h
 obtain ⟨m,hn,hl⟩:=I.loc
 have vis:qL X.env.scope x:=by rcases hx with k | k; exact .inl k; exact .inr (.inl k)
 obtain ⟨u,r,l⟩:=hl i x v hi e1 vis
 refine wpAny_AugAssign_Name ?_
 have go:wpAny (model X.prog X.w) X.A (eval e X.env) (fun w s₂=>wpAny (model X.prog X.w) X.A (inplaceOp op u w) (fun r s₃=>wpAny (model X.prog X.w) X.A (storeName X.env x r) (fun _=>SP X pins D .next) X.xe s₃) X.xe s₂) X.xe s:=by
  refine zf (he pins s σ H _ I h) fun w s1 ⟨y,H1,I1,r1,q1⟩=>?_
  refine zf (ho pins s1 σ H1 v y u w _ I1 r r1 q1) fun z s2 ⟨zv,H2,I2,r2,q2⟩=>?_
  exact Yr I2 hN hi hx r2 (fun s3 I3=>⟨_,H2,I3,q2⟩) hf
 rcases l with ⟨hk,hm⟩ | ⟨hk,c,hc,hcell⟩
 ·exact wpAny_loadName_local I.ok.kind hk hn hm go
 ·rcases hk with hk | hk
  ·exact wpAny_loadName_cell I.ok.kind hk hc hcell go
  ·rcases hx with k | k
   ·have:X.env.scope.names.lookup x=some .free:=hk
    rw [k] at this; cases this
   ·have:X.env.scope.names.lookup x=some .free:=hk
    rw [k] at this; cases this
noncomputable def QB (f:Int->Int->Int):gR:=fun x y H Q=>∃ i j,x=.int i/\y=.int j/\Q (.int (f i j)) H
theorem QC:Xs X .Add (QB fun i j=>i+j):=by
 intro pins s σ H x y v u Q I r1 r2 h
 obtain ⟨i,j,e1,e2,q⟩:=h
 subst e1; subst e2
 obtain ⟨t,rfl⟩:=r1
 obtain ⟨t',rfl⟩:=r2
 exact iadd_int ⟨.int _,H,I.tok _,⟨_,rfl⟩,q⟩
end
section
variable {X:Cx} {pos:Pos}
noncomputable def EY (c:TT) (tb:TS):TS:=fun D σ H=>∃ W:Nat->St->Hp->Prop,(∃ m,W m σ H)/\∀ m σ H,W m σ H->
 c σ H fun b H1=>if b=true then ∃ N:St->Hp->Prop,(∀ σ' H',N σ' H'->∃ m',m'<m/\W m' σ' H')/\tb { D with nx:=N,ct:=N,bk:=D.nx } σ H1 else D.nx σ H1
theorem FI {c:Expr} {body:List Stmt} {tc:TT} {tb:TS} (hp:PassesOwn (model X.prog X.w) X.A X.env X.xe) (hc:PT X c tc) (hb:wL X body tb):PS X (.While c body [] pos) (EY tc tb):=by
 intro pins s σ H D I h
 obtain ⟨W,⟨m0,w0⟩,turn⟩:=h
 refine wpAny_While (codeAny_whileLoop (fun n s'=>∃ σ' H',Inv X pins σ' H' s'/\W n σ' H') ?_ m0 ⟨σ,H,I,w0⟩)
 rintro n s1 ⟨σ1,H1,I1,w1⟩
 refine wpAny_passesOwn hp (zf (hc pins s1 σ1 H1 _ I1 (turn n σ1 H1 w1)) fun b s2 ⟨H2,I2,q2⟩=>?_)
 cases b with
 | true=>
  obtain ⟨N,hN,q2⟩:=q2
  rw [if_pos rfl]
  refine wpAny_passesOwn hp (zf (hb pins s2 σ1 H2 _ I2 q2) fun f s3 q3=>?_)
  cases f with
  | next=>
   obtain ⟨σ3,H3,I3,n3⟩:=q3
   obtain ⟨m',hm,w3⟩:=hN σ3 H3 n3
   exact ⟨m',hm,σ3,H3,I3,w3⟩
  | cont=>
   obtain ⟨σ3,H3,I3,n3⟩:=q3
   obtain ⟨m',hm,w3⟩:=hN σ3 H3 n3
   exact ⟨m',hm,σ3,H3,I3,w3⟩
  | brk=>exact q3
  | ret v=>exact q3
 | false=>
  rw [if_neg Bool.false_ne_true]
  exact wpAny_execs_nil ⟨σ1,H2,I2,q2⟩
end
structure It where
 go:Nat->Hp->Prop
 yld:Nat->Hp->V->Hp->Prop
 stop:Nat->Hp->Prop
noncomputable def ue (X:Cx) (pins:List (Addr×Obj)) (H:Hp) (b:Addr):Prop:=
 H b=none/\b≠X.env.locals/\b ∉ X.fs/\(b∈X.ex\/X.s₀.heap.objs.size<=b)/\(∀ x c,X.env.cells.lookup x=some c->c≠b)/\∀ p∈X.pn++pins,p.1≠b
theorem Inv.fpOk {X:Cx} {pins:List (Addr×Obj)} {σ:St} {H H':Hp} {s:Shared} {b:Addr} (I:Inv X pins σ H s) (hb:s.heap.objs.size<=b) (hn:H' b=none):ue X pins H' b:=by
 refine ⟨hn,Nat.ne_of_gt (Nat.lt_of_lt_of_le I.lt hb),I.nofs hb,.inr (Nat.le_trans I.sz hb),fun x c e z=>?_,fun p hp z=>?_⟩
 ·obtain ⟨v,q⟩:=I.cell x c e
  exact absurd (Nat.lt_of_lt_of_le q.lt (by rw [z]; exact hb)) (Nat.lt_irrefl _)
 ·exact absurd (Nat.lt_of_lt_of_le (Heap.lt_size (I.pin p hp).1) (by rw [z]; exact hb)) (Nat.lt_irrefl _)
structure jF (P:Program) (w:World) (K:PySem.W.Frag) (tg:Expr) (J:It) (fp:List Addr) (it:Addr) (tn:Nat->Heap->Prop):Prop where
 mem:it∈fp
 obj:∀ i h,tn i h->∀ b∈fp,∃ o,h.get? b=some o/\∀ v,o.data≠.cell v
 keep:∀ i h h',tn i h->(∀ b∈fp,∀ o,h.get? b=some o->h'.get? b=some o)->tn i h'
 item:∀ (X:Cx),X.prog=P->X.w=w->X.K=K->X.calm=true->∀ (i:Nat) (pins:List (Addr×Obj)) (s:Shared) (σ:St) (H:Hp) (E:Value->Shared->Prop),Inv X pins σ H s->(∀ b∈fp,ue X pins H b)->tn i s.heap->J.go i H->
  wpAny (model P w) X.A (pyNext (.ref it)) (fun r s1=>∃ u,r=some u/\
   wpAny (model P w) X.A (letOwnedTupleGo tg (.ref it) u) (fun _ s2=>∃ x H',Inv X pins σ H' s2/\zi x u/\J.yld i H x H'/\tn (i+1) s2.heap/\∀ b∈fp,H' b=none) E s1) E s
 done:∀ (X:Cx),X.prog=P->X.w=w->X.K=K->X.calm=true->∀ (i:Nat) (pins:List (Addr×Obj)) (s:Shared) (σ:St) (H:Hp) (E:Value->Shared->Prop),Inv X pins σ H s->(∀ b∈fp,ue X pins H b)->tn i s.heap->J.stop i H->
  wpAny (model P w) X.A (pyNext (.ref it)) (fun r s1=>r=none/\Inv X pins σ H s1) E s
 self:∀ (A:Around) (i:Nat) (s:Shared) (Q:Value->Shared->Prop) (E:Value->Shared->Prop),tn i s.heap->Q (.ref it) s->wpAny (model P w) A (pyIter (.ref it)) Q E s
noncomputable abbrev TI:=St->Hp->(It->Hp->Prop)->Prop
noncomputable def Xr (X:Cx) (pins:List (Addr×Obj)) (σ:St) (tg:Expr) (R:It->Hp->Prop) (itv:Value) (s2:Shared):Prop:=
 ∃ (it:Addr) (fp:List Addr) (tn:Nat->Heap->Prop) (J:It) (H':Hp),itv=.ref it/\Inv X pins σ H' s2/\jF X.prog X.w X.K tg J fp it tn/\tn 0 s2.heap/\(∀ b∈fp,ue X pins H' b)/\R J H'
noncomputable def PI (X:Cx) (tg iter:Expr) (wi:TI):Prop:=
 ∀ (pins:List (Addr×Obj)) (s:Shared) (σ:St) (H:Hp) (R:It->Hp->Prop),Inv X pins σ H s->wi σ H R->
  wpAny (model X.prog X.w) X.A (eval iter X.env) (fun v s1=>wpAny (model X.prog X.w) X.A (pyIter v) (Xr X pins σ tg R) X.xe s1) X.xe s
theorem Y5 {M:Model} {A:Around} {E:Value->Shared->Prop} {s:Shared} {tg:Expr} {it:Addr} {u:Value} {o:Obj} {n:String} {vs:Array Value} {Q:Unit->Shared->Prop} (ho:s.heap.get? it=some o) (hc:o.cls=.type n) (hd:o.data=.fields vs)
    (hn:["enumerate", "zip", "dict_itemiterator", "dict_reverseitemiterator", "odict_iterator", "itertools.zip_longest", "itertools.pairwise"].contains n=false) (hQ:Q () s):wpAny M A (letOwnedTupleGo tg (.ref it) u) Q E s:=by
  unfold letOwnedTupleGo
  cases tg<;>first
    | exact wpAny_pure hQ
    | (cases u<;>first
        | exact wpAny_pure hQ
        | (refine wpAny_bind (wpAny_load ho ?_)
           rw [hc,hd]
           show wpAny M A (if (["enumerate", "zip", "dict_itemiterator", "dict_reverseitemiterator", "odict_iterator", "itertools.zip_longest", "itertools.pairwise"].contains n&&vs[0]? == some (rawInt _))=true then _ else _) Q E s
           rw [if_neg (by intro h; rw [hn,Bool.false_and] at h; cases h)]
           exact wpAny_pure hQ))
noncomputable def Xp (K:PySem.W.Frag) (a:Addr):It:=
 ⟨fun i H=>∃ xs x,yU K H a xs/\xs[i]?=some x,fun i H x H'=>H'=H/\∀ xs,yU K H a xs->xs[i]?=some x,fun i H=>∃ xs,yU K H a xs/\xs.length<=i⟩
noncomputable def Xq (K:PySem.W.Frag) (a:Addr):It:=
 ⟨fun i H=>∃ xs x,yx K H a xs/\xs[i]?=some x,fun i H x H'=>H'=H/\∀ xs,yx K H a xs->xs[i]?=some x,fun i H=>∃ xs,yx K H a xs/\xs.length<=i⟩
noncomputable def gL (lo:Int) (n:Nat):It:=⟨fun i _=>i<n,fun i H x H'=>H'=H/\x=.int (lo+i),fun i _=>n<=i⟩
theorem Ef {P:Program} {w:World} {K:PySem.W.Frag} {tg:Expr} (a it:Addr):jF P w K tg (Xp K a) [it] it (fun i h=>h.IsListIter it a i) where
 mem:=by simp
 obj:=fun i h st b hb=>by
  have e:b=it:=by simpa using hb
  subst e
  obtain ⟨o,e,c,d⟩:=st
  exact ⟨o,e,fun v z=>by rw [d] at z; cases z⟩
 keep:=fun i h h' st k=>st.at fun o e=>k it (by simp) o e
 item:=by
  intro X hP hw hK hc i pins s σ H E I hf st hg
  subst hP hw hK
  obtain ⟨xs,x,hq,hx⟩:=hg
  obtain ⟨its,rv,p,hz⟩:=I.list hq
  obtain ⟨u,hu,ru⟩:=rv.get hx
  obtain ⟨f0,f1,f2,f3,f4,f5⟩:=hf it (by simp)
  refine wpAny_pyNext_list_item st p.isList (x:=u) (by simpa using hu) fun h' st' sb=>?_
  have I1:Inv X pins σ H { s with heap:=h' }:=I.turned (t':=s.toks) (fun b o hb e=>(sb.2 b hb).trans e) f0 f1 f3 f4 f5
  obtain ⟨o,e,c,d⟩:=id st'
  exact ⟨u,rfl,Y5 (s:={ s with heap:=h' }) e c d (by decide) ⟨x,H,I1,ru,⟨rfl,fun ys hy=>by rw [I.list_inj hy hq]; exact hx⟩,st',fun b hb=>(hf b hb).1⟩⟩
 done:=by
  intro X hP hw hK hc i pins s σ H E I hf st hg
  subst hP hw hK
  obtain ⟨xs,hq,hx⟩:=hg
  obtain ⟨its,rv,p,hz⟩:=I.list hq
  obtain ⟨f0,f1,f2,f3,f4,f5⟩:=hf it (by simp)
  have hl:=rv.length
  exact wpAny_pyNext_list_end (I.ok.hd hc) st p.isList (by simp; omega) fun h' eb=>⟨rfl,I.turned (t':=s.toks) (fun b o hb e=>eb b o hb e) f0 f1 f3 f4 f5⟩
 self:=fun _ _ _ _ _ st h=>wpAny_pyIter_listiter st h
theorem Ei {P:Program} {w:World} {K:PySem.W.Frag} {tg:Expr} (a it:Addr):jF P w K tg (Xq K a) [it] it (fun i h=>h.IsTupleIter it a i) where
 mem:=by simp
 obj:=fun i h st b hb=>by
  have e:b=it:=by simpa using hb
  subst e
  obtain ⟨o,e,c,d⟩:=st
  exact ⟨o,e,fun v z=>by rw [d] at z; cases z⟩
 keep:=fun i h h' st k=>st.at fun o e=>k it (by simp) o e
 item:=by
  intro X hP hw hK hc i pins s σ H E I hf st hg
  subst hP hw hK
  obtain ⟨xs,x,hq,hx⟩:=hg
  obtain ⟨its,rv,p,hz⟩:=I.tuple hq
  obtain ⟨u,hu,ru⟩:=rv.get hx
  obtain ⟨f0,f1,f2,f3,f4,f5⟩:=hf it (by simp)
  refine wpAny_pyNext_tuple_item st (show s.heap.IsTuple a its.toArray from p) (x:=u) (by simpa using hu) fun h' st' sb=>?_
  have I1:Inv X pins σ H { s with heap:=h' }:=I.turned (t':=s.toks) (fun b o hb e=>(sb.2 b hb).trans e) f0 f1 f3 f4 f5
  obtain ⟨o,e,c,d⟩:=id st'
  exact ⟨u,rfl,Y5 (s:={ s with heap:=h' }) e c d (by decide) ⟨x,H,I1,ru,⟨rfl,fun ys hy=>by rw [I.tuple_inj hy hq]; exact hx⟩,st',fun b hb=>(hf b hb).1⟩⟩
 done:=by
  intro X hP hw hK hc i pins s σ H E I hf st hg
  subst hP hw hK
  obtain ⟨xs,hq,hx⟩:=hg
  obtain ⟨its,rv,p,hz⟩:=I.tuple hq
  obtain ⟨f0,f1,f2,f3,f4,f5⟩:=hf it (by simp)
  have hl:=rv.length
  exact wpAny_pyNext_tuple_end (I.ok.hd hc) st (show s.heap.IsTuple a its.toArray from p) (by simp; omega) fun h' eb=>⟨rfl,I.turned (t':=s.toks) (fun b o hb e=>eb b o hb e) f0 f1 f3 f4 f5⟩
 self:=fun _ _ _ _ _ st h=>wpAny_pyIter_tupleiter st h
theorem Eg {P:Program} {w:World} {K:PySem.W.Frag} {tg:Expr} (it:Addr) (lo:Int) (n:Nat):jF P w K tg (gL lo n) [it] it (fun i h=>IsRangeIter h it (lo+(i:Nat)*1) ((n:Int) - (i:Nat)) 1) where
 mem:=by simp
 obj:=fun i h st b hb=>by
  have e:b=it:=by simpa using hb
  subst e
  exact ⟨_,st,fun v z=>by
   have z':Data.fields _=Data.cell v:=z
   cases z'⟩
 keep:=fun i h h' st k=>k it (by simp) _ st
 item:=by
  intro X hP hw hK hc i pins s σ H E I hf st hg
  subst hP hw hK
  obtain ⟨f0,f1,f2,f3,f4,f5⟩:=hf it (by simp)
  have W:=Walks.range (prog:=X.prog) (w:=X.w) (I.ok.hd hc) it lo 1 n
  refine W.item i s _ _ hg st fun v h' tk hv st' kk=>?_
  obtain ⟨t,rfl⟩:=hv
  have I1:Inv X pins σ H { s with heap:=h',toks:=tk }:=I.turned (fun b o hb e=>kk b o (by simpa using hb) e) f0 f1 f3 f4 f5
  refine ⟨_,rfl,Y5 (s:={ s with heap:=h',toks:=tk }) (n := "range_iterator") st' rfl rfl (by decide) ⟨.int (lo+i),H,I1,⟨t,?_⟩,⟨rfl,rfl⟩,st',fun b hb=>(hf b hb).1⟩⟩
  rw [Int.mul_one]
 done:=by
  intro X hP hw hK hc i pins s σ H E I hf st hg
  subst hP hw hK
  obtain ⟨f0,f1,f2,f3,f4,f5⟩:=hf it (by simp)
  exact wpAny_pyNext_range_end (I.ok.hd hc) st (by have:n<=i:=hg; omega) fun h' eb=>⟨rfl,I.turned (t':=s.toks) (fun b o hb e=>eb b o hb e) f0 f1 f3 f4 f5⟩
 self:=fun _ _ _ _ _ st h=>wpAny_pyIter_rangeiter st h
end L2
namespace L2
open PySem PySem.Spec PyProof.Rows
section
variable {X:Cx} {tg:Expr}
noncomputable def M7 (K:PySem.W.Frag) (tl:TE):TI:=fun σ H R=>tl σ H fun x H1=>∃ a,x=.ref a/\(∃ xs,yU K H1 a xs)/\R (Xp K a) H1
noncomputable def MB (K:PySem.W.Frag) (tl:TE):TI:=fun σ H R=>tl σ H fun x H1=>∃ a,x=.ref a/\(∃ xs,yx K H1 a xs)/\R (Xq K a) H1
theorem Dp {l:Expr} {tl:TE} (hl:PE X l tl):PI X tg l (M7 X.K tl):=by
 intro pins s σ H R I h
 refine zf (hl pins s σ H _ I h) fun v s1 ⟨x,H1,I1,r1,q1⟩=>?_
 obtain ⟨a,e,⟨xs,hq⟩,q⟩:=q1
 subst e
 cases r1
 obtain ⟨its,rv,p,hz⟩:=I1.list hq
 refine wpAny_pyIter_list p.isList ?_
 refine ⟨s1.heap.objs.size,[s1.heap.objs.size],_,_,H1,rfl,I1.kept (t':=s1.toks) fun b o e=>Heap.get?_push_of_some _ e,Ef a _,⟨_,Heap.get?_push_size _ rfl,rfl,rfl⟩,fun b hb=>?_,q⟩
 have e:b=s1.heap.objs.size:=by simpa using hb
 subst e
 exact I1.fpOk (Nat.le_refl _) (I1.hok.fresh (Nat.le_refl _))
theorem Dt {l:Expr} {tl:TE} (hl:PE X l tl):PI X tg l (MB X.K tl):=by
 intro pins s σ H R I h
 refine zf (hl pins s σ H _ I h) fun v s1 ⟨x,H1,I1,r1,q1⟩=>?_
 obtain ⟨a,e,⟨xs,hq⟩,q⟩:=q1
 subst e
 cases r1
 obtain ⟨its,rv,p,hz⟩:=I1.tuple hq
 refine wpAny_pyIter_tuple (show s1.heap.IsTuple a its.toArray from p) ?_
 refine ⟨s1.heap.objs.size,[s1.heap.objs.size],_,_,H1,rfl,I1.kept (t':=s1.toks) fun b o e=>Heap.get?_push_of_some _ e,Ei a _,⟨_,Heap.get?_push_size _ rfl,rfl,rfl⟩,fun b hb=>?_,q⟩
 have e:b=s1.heap.objs.size:=by simpa using hb
 subst e
 exact I1.fpOk (Nat.le_refl _) (I1.hok.fresh (Nat.le_refl _))
theorem Ja {pins:List (Addr×Obj)} {σ:St} {H:Hp} {s:Shared} {R:It->Hp->Prop} {E:Value->Shared->Prop} {lo hi:Int} {t u v:Tok} {tk:Nat} (I:Inv X pins σ H s) (h1 : -(2 ^ 62)<=lo) (h2:lo<2 ^ 62) (h3 : -(2 ^ 62)<=hi) (h4:hi<2 ^ 62)
  (q:R (gL lo (hi - lo).toNat) H):wpAny (model X.prog X.w) X.A (pyIter (.ref s.heap.objs.size)) (Xr X pins σ tg R) E { s with heap:=s.heap.push { cls:=.type "range",data:=.fields #[.int lo t,.int hi u,.int 1 v] },toks:=tk }:=by
 refine wpAny_pyIter_range (IsRange.new ..) (small_one h1 h2 h3 h4) ?_
 have I1:Inv X pins σ H { s with heap:=s.heap.push { cls:=.type "range",data:=.fields #[.int lo t,.int hi u,.int 1 v] },toks:=tk }:=I.kept fun b o e=>Heap.get?_push_of_some _ e
 refine ⟨(s.heap.push { cls:=.type "range",data:=.fields #[.int lo t,.int hi u,.int 1 v] }).objs.size,[(s.heap.push { cls:=.type "range",data:=.fields #[.int lo t,.int hi u,.int 1 v] }).objs.size],_,_,H,rfl,
  I1.kept (t':=tk) fun b o e=>Heap.get?_push_of_some _ e,Eg _ lo (hi - lo).toNat,?_,fun b hb=>?_,q⟩
 ·have e1:lo+((0:Nat):Int)*1=lo:=by simp
  have e2:(((hi - lo).toNat:Nat):Int) - ((0:Nat):Int)=Builtin.Range.rangeSize lo hi 1:=by rw [rangeSize_one]; split<;>omega
  show IsRangeIter _ _ (lo+((0:Nat):Int)*1) ((((hi - lo).toNat:Nat):Int) - ((0:Nat):Int)) 1
  rw [e1,e2]
  exact Heap.get?_push_size _ rfl
 ·have e:b=(s.heap.push { cls:=.type "range",data:=.fields #[.int lo t,.int hi u,.int 1 v] }).objs.size:=by simpa using hb
  subst e
  exact I1.fpOk (Nat.le_refl _) (I1.hok.fresh (Nat.le_refl _))
noncomputable def M8 (ta:TA):TI:=fun σ H R=>ta σ H fun vs H1=>∃ j:Int,vs=[.int j] /\ -(2 ^ 62)<=j/\j<2 ^ 62/\R (gL 0 j.toNat) H1
noncomputable def M9 (ta:TA):TI:=fun σ H R=>ta σ H fun vs H1=>∃ i j:Int,vs=[.int i,.int j]/\(-(2 ^ 62)<=i/\i<2 ^ 62 /\ -(2 ^ 62)<=j/\j<2 ^ 62)/\R (gL i (j - i).toNat) H1
theorem Dq {a:Expr} {ta:TA} {p pos:Pos} (hg:Gl X "range") (hm:X.mg "range" = none) (ha:PA X [a] ta) (hs:starEach [a] X.env=[(false,eval a X.env)]:=by rfl):PI X tg (.Call (.Name "range" p) [a] [] pos) (M8 ta):=by
 intro pins s σ H R I h
 refine Call_ (kJ I hg hm boot_range (PyProof.Rows.callWith_type1 (zf (ha pos pins s σ H _ I h) fun us s1 ⟨vs,H1,I1,r1,q1⟩=>?_) hs rfl))
 obtain ⟨j,e,q1,q2,q⟩:=q1
 subst e
 cases r1 with
 | cons r rr=>
  cases rr
  obtain ⟨t,rfl⟩:=r
  exact call_range_1 (Ja I1 (by omega) (by omega) q1 q2 (by simpa using q))
theorem Dr {a b:Expr} {ta:TA} {p pos:Pos} (hg:Gl X "range") (hm:X.mg "range" = none) (ha:PA X [a,b] ta) (hs:starEach [a,b] X.env=[(false,eval a X.env),(false,eval b X.env)]:=by rfl) (hs2:starEach [b] X.env=[(false,eval b X.env)]:=by rfl) :
  PI X tg (.Call (.Name "range" p) [a,b] [] pos) (M9 ta):=by
 intro pins s σ H R I h
 refine Call_ (kJ I hg hm boot_range (PyProof.Rows.callWith_type1 (zf (ha pos pins s σ H _ I h) fun us s1 ⟨vs,H1,I1,r1,q1⟩=>?_) (by rw [hs,hs2]) (by rw [hs2]; rfl)))
 obtain ⟨i,j,e,⟨q1,q2,q3,q4⟩,q⟩:=q1
 subst e
 cases r1 with
 | cons r rr=>
  cases rr with
  | cons r' rr=>
   cases rr
   obtain ⟨t,rfl⟩:=r
   obtain ⟨t',rfl⟩:=r'
   exact call_range_2 (Ja I1 q1 q2 q3 q4 q)
noncomputable def ED (wi:TI) (g:TG) (tb:TS):TS:=fun D σ H=>wi σ H fun J H1=>∃ W:Nat->Nat->St->Hp->Prop,(∃ m,W 0 m σ H1)/\∀ i m σ H,W i m σ H->
 (J.stop i H/\D.nx σ H)\/(J.go i H/\∃ N:St->Hp->Prop,(∀ σ' H',N σ' H'->∃ m',m'<m/\W (i+1) m' σ' H')/\∀ x H',J.yld i H x H'->g x σ H' fun σ2 H2=>tb { D with nx:=N,ct:=N,bk:=D.nx } σ2 H2)
noncomputable def kT (fp:List Addr) (h:Heap):List (Addr×Obj):=fp.filterMap fun b=>(h.get? b).map fun o=>(b,o)
theorem YJ {fp:List Addr} {h:Heap} {b:Addr} {o:Obj} (hb:b∈fp) (e:h.get? b=some o):(b,o)∈kT fp h:=List.mem_filterMap.mpr ⟨b,hb,by rw [e]; rfl⟩
theorem BR {fp:List Addr} {h:Heap} {p:Addr×Obj} (hp:p∈kT fp h):p.1∈fp/\h.get? p.1=some p.2:=by
 obtain ⟨b,hb,e⟩:=List.mem_filterMap.mp hp
 cases q:h.get? b with
 | none=>rw [q] at e; cases e
 | some o=>
  rw [q] at e
  have e':(b,o)=p:=Option.some.inj e
  subst e'
  exact ⟨hb,q⟩
theorem Inv.pinned {pins:List (Addr×Obj)} {σ:St} {H:Hp} {s:Shared} {fp:List Addr} (I:Inv X pins σ H s) (hf:∀ b∈fp,ue X pins H b) (ho:∀ b∈fp,∃ o,s.heap.get? b=some o/\∀ v,o.data≠.cell v):Inv X (pins++kT fp s.heap) σ H s:=
 I.pins_of fun p hp=>(List.mem_append.mp hp).elim (fun z=>I.pin p (List.mem_append_right _ z)) fun z=>by
  obtain ⟨hb,e⟩:=BR z
  obtain ⟨f0,f1,f2,_⟩:=hf p.1 hb
  obtain ⟨o,e',d⟩:=ho p.1 hb
  rw [e] at e'; cases e'
  exact ⟨e,f0,f1,f2,d⟩
theorem Inv.unpinned {pins pl:List (Addr×Obj)} {σ:St} {H:Hp} {s:Shared} (I:Inv X (pins++pl) σ H s):Inv X pins σ H s:=I.pins_of fun p hp=>I.pin p (List.mem_append_right _ (List.mem_append_left _ hp))
theorem J8 {iter:Expr} {body:List Stmt} {wi:TI} {g:TG} {tb:TS} {pos:Pos} (hp:PassesOwn (model X.prog X.w) X.A X.env X.xe) (hc:X.calm=true) (hi:PI X tg iter wi) (hg:PG X tg g) (hb:wL X body tb)
  (hs:∀ x,foldedSetIterable iter X.env x=pure x:=by intro _; rfl):PS X (.For tg iter body [] pos) (ED wi g tb):=by
 intro pins s σ H D I h
 refine wpAny_For (zf (hi pins s σ H _ I h) fun v s1 h1=>zf h1 fun itv s2 h2=>?_) hs
 obtain ⟨it,fp,tn,J,H2,e,I2,T,st2,f2,W,⟨m0,w0⟩,turn⟩:=h2
 subst e
 have stat:∀ {H':Hp},(∀ b∈fp,H' b=none)->∀ b∈fp,ue X pins H' b:=fun hn b hb=>⟨hn b hb,(f2 b hb).2⟩
 refine codeAny_forLoop_any (fun n s'=>∃ i σ' H',Inv X pins σ' H' s'/\tn i s'.heap/\(∀ b∈fp,H' b=none)/\W i n σ' H') ?_ m0 ⟨0,σ,H2,I2,st2,fun b hb=>(f2 b hb).1,w0⟩
 rintro n s3 ⟨i,σ3,H3,I3,st3,fr3,w3⟩
 rcases turn i n σ3 H3 w3 with ⟨stop,qn⟩ | ⟨go,N,hN,step⟩
 ·refine wpAny_passesOwn hp (zf (T.done X rfl rfl rfl hc i pins s3 σ3 H3 X.xe I3 (stat fr3) st3 stop) fun r s4 ⟨hr,I4⟩=>?_)
  subst hr
  exact wpAny_execs_nil ⟨σ3,H3,I4,qn⟩
 ·refine wpAny_passesOwn hp (zf (T.item X rfl rfl rfl hc i pins s3 σ3 H3 X.xe I3 (stat fr3) st3 go) fun r s4 ⟨u,hr,h4⟩=>?_)
  subst hr
  refine wpAny_passesOwn hp (zf h4 fun _ s5 ⟨x,H5,I5,r5,y5,st5,fr5⟩=>?_)
  have I5':=I5.pinned (stat fr5) (T.obj _ _ st5)
  refine wpAny_passesOwn hp (zf (hg _ s5 σ3 H5 x u _ I5' r5 (step x H5 y5)) fun _ s6 ⟨σ6,H6,I6,q6⟩=>?_)
  refine wpAny_passesOwn hp (zf (hb _ s6 σ6 H6 _ I6 q6) fun f s7 q7=>?_)
  have again:∀ {σ7:St} {H7:Hp},Inv X (pins++kT fp s5.heap) σ7 H7 s7->N σ7 H7->∃ m,m<n/\∃ i σ' H',Inv X pins σ' H' s7/\tn i s7.heap/\(∀ b∈fp,H' b=none)/\W i m σ' H':=fun {σ7 H7} I7 n7=>by
   obtain ⟨m',hm,w7⟩:=hN σ7 H7 n7
   refine ⟨m',hm,i+1,σ7,H7,I7.unpinned,T.keep _ _ _ st5 fun b hb o e=>(I7.pin (b,o) (List.mem_append_right _ (List.mem_append_right _ (YJ hb e)))).1,fun b hb=>?_,w7⟩
   obtain ⟨o,e,d⟩:=T.obj _ _ st5 b hb
   exact (I7.pin (b,o) (List.mem_append_right _ (List.mem_append_right _ (YJ hb e)))).2.1
  cases f with
  | next=>obtain ⟨σ7,H7,I7,n7⟩:=q7; exact again I7 n7
  | cont=>obtain ⟨σ7,H7,I7,n7⟩:=q7; exact again I7 n7
  | brk=>obtain ⟨σ7,H7,I7,q7⟩:=q7; exact ⟨σ7,H7,I7.unpinned,q7⟩
  | ret v=>obtain ⟨x7,σ7,H7,I7,r7,q7⟩:=q7; exact ⟨x7,σ7,H7,I7.unpinned,r7,q7⟩
end
end L2
namespace L2
open PySem PySem.Spec PyProof.Rows
noncomputable abbrev R2:=V->V->Hp->VK->Prop
noncomputable def yS (X:Cx) (f:Value->Value->Sem Value) (r:R2):Prop:=
 ∀ (pins:List (Addr×Obj)) (s:Shared) (σ:St) (H:Hp) (x y:V) (v u:Value) (Q:VK),Inv X pins σ H s->zi x v->zi y u->r x y H Q->
  wpAny (model X.prog X.w) X.A (f v u) (EP X pins σ Q) X.xe s
noncomputable def ZK (X:Cx) (f:Value->Sem Value) (r:V->Hp->VK->Prop):Prop:=
 ∀ (pins:List (Addr×Obj)) (s:Shared) (σ:St) (H:Hp) (x:V) (v:Value) (Q:VK),Inv X pins σ H s->zi x v->r x H Q->
  wpAny (model X.prog X.w) X.A (f v) (EP X pins σ Q) X.xe s
noncomputable def xn (X:Cx) (f:Value) (r:List V->Hp->VK->Prop):Prop:=
 ∀ (pins:List (Addr×Obj)) (s:Shared) (σ:St) (H:Hp) (xs:List V) (us:List Value) (Q:VK),Inv X pins σ H s->zj xs us->r xs H Q->
  wpAny (model X.prog X.w) X.A (call f us) (EP X pins σ Q) X.xe s
noncomputable def Yx (r:R2) (ta tb:TE):TE:=fun σ H Q=>ta σ H fun x H1=>tb σ H1 fun y H2=>r x y H2 Q
noncomputable def EX (r:V->Hp->VK->Prop) (ta:TE):TE:=fun σ H Q=>ta σ H fun x H1=>r x H1 Q
noncomputable def rI (C:Int->Int->Prop) (g:Int->Int->V):R2:=fun x y H Q=>∃ i j,x=.int i/\y=.int j/\C i j/\Q (g i j) H
noncomputable def t7 (g:Int->Int->V):R2:=fun x y H Q=>∃ i j,x=.int i/\y=.int j/\Q (g i j) H
noncomputable def rU (g:Int->V):V->Hp->VK->Prop:=fun x H Q=>∃ i,x=.int i/\Q (g i) H
section
variable {X:Cx} {a b c:Expr} {ta tb tc:TE} {pos:Pos}
theorem WL (ha:PE X a ta) (hb:PE X b tb) {pins:List (Addr×Obj)} {s:Shared} {σ:St} {H:Hp} {R:V->V->Hp->Prop} (I:Inv X pins σ H s)
  (h:ta σ H fun x H1=>tb σ H1 fun y H2=>R x y H2) {Q:Value->Shared->Prop} {f:Value->Value->Sem Value}
  (hf:∀ v u s2 x y H2,Inv X pins σ H2 s2->zi x v->zi y u->R x y H2->wpAny (model X.prog X.w) X.A (f v u) Q X.xe s2) :
  wpAny (model X.prog X.w) X.A (eval a X.env) (fun v s₁=>wpAny (model X.prog X.w) X.A (eval b X.env) (fun u s₂=>wpAny (model X.prog X.w) X.A (f v u) Q X.xe s₂) X.xe s₁) X.xe s:=by
 refine zf (ha pins s σ H _ I h) fun v s1 ⟨x,H1,I1,r1,q1⟩=>?_
 refine zf (hb pins s1 σ H1 _ I1 q1) fun u s2 ⟨y,H2,I2,r2,q2⟩=>?_
 exact hf v u s2 x y H2 I2 r1 r2 q2
theorem Qx {op:Operator} {r:R2} (ho:yS X (binaryOp op) r) (ha:PE X a ta) (hb:PE X b tb):PE X (.BinOp a op b pos) (Yx r ta tb):=by
 intro pins s σ H Q I h
 exact wpAny_BinOp (WL ha hb I h fun v u s2 x y H2 I2 rx ry q=>ho pins s2 σ H2 x y v u Q I2 rx ry q)
theorem Di {op:UnaryOp} {r:V->Hp->VK->Prop} (ho:ZK X (unaryOp op) r) (ha:PE X a ta):PE X (.UnaryOp op a pos) (EX r ta):=by
 intro pins s σ H Q I h
 exact UnaryOp_ (zf (ha pins s σ H _ I h) fun v s1 ⟨x,H1,I1,r1,q1⟩=>ho pins s1 σ H1 x v Q I1 r1 q1)
theorem YM {f:Value->Value->Sem Value} {C:Int->Int->Prop} {g:Int->Int->Int}
  (rule:∀ (i j:Int) (t u:Tok) (s:Shared) (Q:Value->Shared->Prop) (E:Value->Shared->Prop),C i j->Q (.int (g i j) s.toks) { s with toks:=s.toks+1 }->wpAny (model X.prog X.w) X.A (f (.int i t) (.int j u)) Q E s) :
  yS X f (rI C fun i j=>.int (g i j)):=by
 intro pins s σ H x y v u Q I rx ry h
 obtain ⟨i,j,rfl,rfl,hc,q⟩:=h
 obtain ⟨t,rfl⟩:=rx
 obtain ⟨t',rfl⟩:=ry
 exact rule i j t t' s _ _ hc ⟨.int (g i j),H,I.tok _,⟨_,rfl⟩,q⟩
theorem Qn {f:Value->Value->Sem Value} {g:Int->Int->Int}
  (rule:∀ (i j:Int) (t u:Tok) (s:Shared) (Q:Value->Shared->Prop) (E:Value->Shared->Prop),Q (.int (g i j) s.toks) { s with toks:=s.toks+1 }->wpAny (model X.prog X.w) X.A (f (.int i t) (.int j u)) Q E s) :
  yS X f (t7 fun i j=>.int (g i j)):=by
 intro pins s σ H x y v u Q I rx ry h
 obtain ⟨i,j,rfl,rfl,q⟩:=h
 obtain ⟨t,rfl⟩:=rx
 obtain ⟨t',rfl⟩:=ry
 exact rule i j t t' s _ _ ⟨.int (g i j),H,I.tok _,⟨_,rfl⟩,q⟩
theorem VE {f:Value->Value->Sem Value} {g:Int->Int->Bool}
  (rule:∀ (i j:Int) (t u:Tok) (s:Shared) (Q:Value->Shared->Prop) (E:Value->Shared->Prop),Q (.bool (g i j)) s->wpAny (model X.prog X.w) X.A (f (.int i t) (.int j u)) Q E s) :
  yS X f (t7 fun i j=>.bl (g i j)):=by
 intro pins s σ H x y v u Q I rx ry h
 obtain ⟨i,j,rfl,rfl,q⟩:=h
 obtain ⟨t,rfl⟩:=rx
 obtain ⟨t',rfl⟩:=ry
 exact rule i j t t' s _ _ ⟨.bl (g i j),H,I,rfl,q⟩
noncomputable def XF (i j:Int):Prop:=0<=j/\j<=1000000/\i.natAbs<2 ^ 64
noncomputable def g6 (i j:Int):Prop:=(-(2 ^ 64)<i/\i<2 ^ 64)\/(-(2 ^ 64)<j/\j<2 ^ 64)
theorem g6.ok {i j:Int} (h:g6 i j):IntMulOk i j:=by
 rcases h with ⟨h1,h2⟩ | ⟨h1,h2⟩
 ·exact .of_left (intBits_le_64 h1 h2)
 ·exact .of_right (intBits_le_64 h1 h2)
theorem D4:yS X (binaryOp .Add) (t7 fun i j=>.int (i+j)):=Qn fun _ _ _ _ _ _ _ q=>add_int q
theorem vW:yS X (binaryOp .Sub) (t7 fun i j=>.int (i - j)):=Qn fun _ _ _ _ _ _ _ q=>sub_int q
theorem tf:yS X (binaryOp .Mult) (rI g6 fun i j=>.int (i*j)):=YM fun _ _ _ _ _ _ _ hc q=>mul_int q hc.ok
theorem yK:yS X (binaryOp .Mod) (rI (fun _ j=>0<j) fun i j=>.int (i % j)):=YM fun i j _ _ _ _ _ hc q=>by
 have h1:(0:Int)<j:=hc
 exact mod_int' (by omega) (by rw [Int.fmod_eq_emod_of_nonneg i (by omega)]; exact q)
theorem vw:yS X (binaryOp .Pow) (rI XF fun i j=>.int (i ^ j.toNat)):=YM fun _ _ _ _ _ _ _ hc q=>pow_int_small hc.1 hc.2.1 hc.2.2 q
theorem Em {f:Value->Sem Value} {g:Int->Int}
  (rule:∀ (i:Int) (t:Tok) (s:Shared) (Q:Value->Shared->Prop) (E:Value->Shared->Prop),Q (.int (g i) s.toks) { s with toks:=s.toks+1 }->wpAny (model X.prog X.w) X.A (f (.int i t)) Q E s) :
  ZK X f (rU fun i=>.int (g i)):=by
 intro pins s σ H x v Q I rx h
 obtain ⟨i,rfl,q⟩:=h
 obtain ⟨t,rfl⟩:=rx
 exact rule i t s _ _ ⟨.int (g i),H,I.tok _,⟨_,rfl⟩,q⟩
theorem vc:ZK X (unaryOp .USub) (rU fun i=>.int (-i)):=Em fun _ _ _ _ _ q=>neg_int q
theorem D5:yS X (binaryOp .Add) (fun x y H Q=>∃ i k,x=.int i/\y=.bl k/\Q (.int (i+b2i k)) H):=by
 intro pins s σ H x y v u Q I rx ry h
 obtain ⟨i,k,rfl,rfl,q⟩:=h
 obtain ⟨t,rfl⟩:=rx
 cases ry
 exact add_int_bool ⟨.int (i+b2i k),H,I.tok _,⟨_,rfl⟩,q⟩
end
noncomputable def U2:V->V->Bool
 | .non,.non=>true | .non,.int _=>true | .int _,.non=>true | .non,.bl _=>true | .bl _,.non=>true | .non,.str _=>true | .str _,.non=>true
 | .int _,.int _=>true | .bl _,.bl _=>true | .str _,.str _=>true | .byt _,.byt _=>true
 | .int _,.str _=>true | .str _,.int _=>true | .bl _,.str _=>true | .str _,.bl _=>true
 | _,_=>false
noncomputable def Fq:R2:=fun x y H Q=>U2 x y=true/\Q (.bl (decide (x=y))) H
noncomputable def Ft:R2:=fun x y H Q=>U2 x y=true/\Q (.bl (!decide (x=y))) H
theorem WS {i j:Int}:decide (V.int i=V.int j)=(i == j):=by
 rw [Bool.eq_iff_iff]
 simp
theorem WR {i j:Bool}:decide (V.bl i=V.bl j)=(i == j):=by
 rw [Bool.eq_iff_iff]
 simp
theorem WU {i j:Str}:decide (V.str i=V.str j)=(i == j):=by
 rw [Bool.eq_iff_iff]
 simp
theorem TH {i j:Array UInt8}:decide (V.byt i=V.byt j)=(i.toList == j.toList):=by
 rw [Bool.eq_iff_iff]
 cases i
 cases j
 simp
section
variable {X:Cx} {a b c:Expr} {ta tb tc:TE} {pos:Pos}
theorem yu {pins:List (Addr×Obj)} {σ:St} {H:Hp} {s:Shared} {Q:VK} {k k':Bool} (I:Inv X pins σ H s) (q:Q (.bl k) H) (e:k=k'):EP X pins σ Q (.bool k') s:=by
 subst e
 exact ⟨.bl k,H,I,rfl,q⟩
theorem D8:yS X (compareOp .Eq) Fq:=by
 intro pins s σ H x y v u Q I rx ry h
 obtain ⟨hs,q⟩:=h
 cases x with
 | non=>
  cases rx
  cases y with
  | non=>cases ry; exact PySem.EqNone.eq_none_none (yu I q (by simp))
  | bl j=>cases ry; exact PySem.EqNone.eq_none_bool (yu I q (by simp))
  | int j=>obtain ⟨t',rfl⟩:=ry; exact PySem.EqNone.eq_none_int (yu I q (by simp))
  | str j=>obtain ⟨t',rfl⟩:=ry; exact PySem.EqNone.eq_none_str (yu I q (by simp))
  | _=>exact absurd (show false=true from hs) Bool.false_ne_true
 | bl i=>
  cases rx
  cases y with
  | non=>cases ry; exact PySem.EqNone.eq_bool_none (yu I q (by simp))
  | bl j=>cases ry; exact eq_bool (yu I q WR)
  | str j=>obtain ⟨t',rfl⟩:=ry; exact PySem.EqMixed.eq_bool_str (yu I q (by simp))
  | _=>exact absurd (show false=true from hs) Bool.false_ne_true
 | int i=>
  obtain ⟨t,rfl⟩:=rx
  cases y with
  | non=>cases ry; exact PySem.EqNone.eq_int_none (yu I q (by simp))
  | int j=>obtain ⟨t',rfl⟩:=ry; exact eq_int (yu I q WS)
  | str j=>obtain ⟨t',rfl⟩:=ry; exact PySem.EqMixed.eq_int_str (yu I q (by simp))
  | _=>exact absurd (show false=true from hs) Bool.false_ne_true
 | str i=>
  obtain ⟨t,rfl⟩:=rx
  cases y with
  | non=>cases ry; exact PySem.EqNone.eq_str_none (yu I q (by simp))
  | bl j=>cases ry; exact PySem.EqMixed.eq_str_bool (yu I q (by simp))
  | int j=>obtain ⟨t',rfl⟩:=ry; exact PySem.EqMixed.eq_str_int (yu I q (by simp))
  | str j=>obtain ⟨t',rfl⟩:=ry; exact eq_str (yu I q WU)
  | _=>exact absurd (show false=true from hs) Bool.false_ne_true
 | byt i=>
  obtain ⟨t,rfl⟩:=rx
  cases y with
  | byt j=>obtain ⟨t',rfl⟩:=ry; exact PySem.W.eq_bytes (yu I q TH)
  | _=>exact absurd (show false=true from hs) Bool.false_ne_true
 | _=>cases y<;>exact absurd (show false=true from hs) Bool.false_ne_true
theorem DC:yS X (compareOp .NotEq) Ft:=by
 intro pins s σ H x y v u Q I rx ry h
 obtain ⟨hs,q⟩:=h
 cases x with
 | non=>
  cases rx
  cases y with
  | non=>cases ry; exact PySem.EqNone.ne_none_none (yu I q (by simp))
  | bl j=>cases ry; exact PySem.EqNone.ne_none_bool (yu I q (by simp))
  | int j=>obtain ⟨t',rfl⟩:=ry; exact PySem.EqNone.ne_none_int (yu I q (by simp))
  | str j=>obtain ⟨t',rfl⟩:=ry; exact PySem.EqNone.ne_none_str (yu I q (by simp))
  | _=>exact absurd (show false=true from hs) Bool.false_ne_true
 | bl i=>
  cases rx
  cases y with
  | non=>cases ry; exact PySem.EqNone.ne_bool_none (yu I q (by simp))
  | bl j=>cases ry; exact ne_bool (yu I q (congrArg not WR))
  | str j=>obtain ⟨t',rfl⟩:=ry; exact PySem.EqMixed.ne_bool_str (yu I q (by simp))
  | _=>exact absurd (show false=true from hs) Bool.false_ne_true
 | int i=>
  obtain ⟨t,rfl⟩:=rx
  cases y with
  | non=>cases ry; exact PySem.EqNone.ne_int_none (yu I q (by simp))
  | int j=>obtain ⟨t',rfl⟩:=ry; exact ne_int (yu I q (congrArg not WS))
  | str j=>obtain ⟨t',rfl⟩:=ry; exact PySem.EqMixed.ne_int_str (yu I q (by simp))
  | _=>exact absurd (show false=true from hs) Bool.false_ne_true
 | str i=>
  obtain ⟨t,rfl⟩:=rx
  cases y with
  | non=>cases ry; exact PySem.EqNone.ne_str_none (yu I q (by simp))
  | bl j=>cases ry; exact PySem.EqMixed.ne_str_bool (yu I q (by simp))
  | int j=>obtain ⟨t',rfl⟩:=ry; exact PySem.EqMixed.ne_str_int (yu I q (by simp))
  | str j=>obtain ⟨t',rfl⟩:=ry; exact ne_str (yu I q (congrArg not WU))
  | _=>exact absurd (show false=true from hs) Bool.false_ne_true
 | byt i=>
  obtain ⟨t,rfl⟩:=rx
  cases y with
  | byt j=>obtain ⟨t',rfl⟩:=ry; exact PySem.W.ne_bytes (yu I q (congrArg not TH))
  | _=>exact absurd (show false=true from hs) Bool.false_ne_true
 | _=>cases y<;>exact absurd (show false=true from hs) Bool.false_ne_true
theorem wV:yS X (compareOp .Lt) (t7 fun i j=>.bl (decide (i<j))):=VE fun _ _ _ _ _ _ _ q=>lt_int q
theorem YN:yS X (compareOp .LtE) (t7 fun i j=>.bl (decide (i<=j))):=VE fun _ _ _ _ _ _ _ q=>le_int q
theorem tZ:yS X (compareOp .Gt) (t7 fun i j=>.bl (decide (j<i))):=VE fun _ _ _ _ _ _ _ q=>gt_int q
theorem DB:yS X (compareOp .In) (fun x y H Q=>∃ i j,x=.str i/\y=.str j/\Q (.bl (!(Builtin.Str.occurrences j i 0 j.length 1).isEmpty)) H):=by
 intro pins s σ H x y v u Q I rx ry h
 obtain ⟨i,j,rfl,rfl,q⟩:=h
 obtain ⟨t,rfl⟩:=rx
 obtain ⟨t',rfl⟩:=ry
 exact in_str (yu I q rfl)
theorem DH:yS X (compareOp .IsNot) (fun x y H Q=>y=.non/\Q (.bl (!decide (x=.non))) H):=by
 intro pins s σ H x y v u Q I rx ry h
 obtain ⟨rfl,q⟩:=h
 cases ry
 refine isnot_none_gen (yu I q ?_)
 cases x<;>first
  | (cases rx; rfl)
  | (obtain ⟨t,rfl⟩:=rx; rfl)
theorem yS.or {f:Value->Value->Sem Value} {r r':R2} (h:yS X f r) (h':yS X f r'):yS X f (fun x y H Q=>r x y H Q\/r' x y H Q):=by
 intro pins s σ H x y v u Q I rx ry q
 rcases q with q | q
 ·exact h pins s σ H x y v u Q I rx ry q
 ·exact h' pins s σ H x y v u Q I rx ry q
theorem yE (b:Expr) {op:CmpOp} (h:op≠.In:=by decide) (h2:op≠.NotIn:=by decide):behindInMarks op b=false:=by
 have e1:(op == CmpOp.In)=false:=by cases op<;>first | rfl | exact absurd rfl h
 have e2:(op == CmpOp.NotIn)=false:=by cases op<;>first | rfl | exact absurd rfl h2
 cases b<;>simp [behindInMarks,e1,e2]
theorem DX {op:CmpOp} {r:R2} (ho:yS X (compareOp op) r) (ha:PE X a ta) (hb:PE X b tb) (hm:behindInMarks op b=false):PE X (.Compare a [op] [b] pos) (Yx r ta tb):=by
 intro pins s σ H Q I h
 exact wpAny_Compare1 (WL ha hb I h fun v u s2 x y H2 I2 rx ry q=>ho pins s2 σ H2 x y v u Q I2 rx ry q) hm
noncomputable def IZ (t:TE):TT:=fun σ H Q=>t σ H fun x H'=>∃ k,x=.bl k/\Q k H'
theorem FM {op:CmpOp} {r:R2} (ho:yS X (compareOp op) r) (ha:PE X a ta) (hb:PE X b tb) (hm:behindInMarks op b=false):PT X (.Compare a [op] [b] pos) (IZ (Yx r ta tb)):=by
 intro pins s σ H Q I h
 refine wpAny_isTrue_Compare1 (zf (ha pins s σ H _ I h) fun v s1 ⟨x,H1,I1,r1,q1⟩=>zf (hb pins s1 σ H1 _ I1 q1) fun u s2 ⟨y,H2,I2,r2,q2⟩=>
  zf (ho pins s2 σ H2 x y v u _ I2 r1 r2 q2) fun c s3 ⟨z,H3,I3,r3,k,e,q3⟩=>?_) hm
 subst e
 cases r3
 exact wpAny_truthy_bool ⟨H3,I3,q3⟩
noncomputable def E9 (r r':R2) (ta tb tc:TE):TE:=fun σ H Q=>ta σ H fun x H1=>tb σ H1 fun y H2=>r x y H2 fun z H3=>∃ k,z=.bl k/\
 (if k=true then tc σ H3 fun w' H4=>r' y w' H4 Q else Q (.bl false) H3)
theorem FK {op op':CmpOp} {r r':R2} (ho:yS X (compareOp op) r) (ho':yS X (compareOp op') r') (ha:PE X a ta) (hb:PE X b tb) (hc:PE X c tc)
  (hm:lastMarks [op,op'] [b,c]=false:=by with_unfolding_all rfl):PT X (.Compare a [op,op'] [b,c] pos) (IZ (E9 r r' ta tb tc)):=by
 intro pins s σ H Q I h
 refine isTrue_chain (zf (ha pins s σ H _ I h) fun v s1 ⟨x,H1,I1,r1,q1⟩=>test_link (zf (hb pins s1 σ H1 _ I1 q1) fun u s2 ⟨y,H2,I2,r2,q2⟩=>
  zf (ho pins s2 σ H2 x y v u _ I2 r1 r2 q2) fun d s3 ⟨z,H3,I3,r3,k,e,q3⟩=>?_)) hm
 subst e
 cases r3
 refine wpAny_truthy_bool ?_
 cases k with
 | false=>
  obtain ⟨k',e',q'⟩:=q3
  cases e'
  exact ite_ff ⟨H3,I3,q'⟩
 | true=>
  refine ite_tt (test_last (zf (hc pins s3 σ H3 _ I3 q3) fun w' s4 ⟨z',H4,I4,r4,q4⟩=>zf (ho' pins s4 σ H4 y z' u w' _ I4 r2 r4 q4) fun d' s5 ⟨z2,H5,I5,r5,k2,e2,q5⟩=>?_))
  subst e2
  cases r5
  exact wpAny_truthy_bool ⟨H5,I5,q5⟩
theorem pN:(sizeLine:Nat)<2 ^ 63:=by rw [sizeLine_eq]; decide
theorem D6:yS X (binaryOp .Add) (fun x y H Q=>∃ i j,x=.str i/\y=.str j/\i.length+j.length<=sizeLine/\Q (.str (i++j)) H):=by
 intro pins s σ H x y v u Q I rx ry h
 obtain ⟨i,j,rfl,rfl,hz,q⟩:=h
 obtain ⟨t,rfl⟩:=rx
 obtain ⟨t',rfl⟩:=ry
 exact add_str (fun t' tk=>⟨.str (i++j),H,I.tok _,⟨_,rfl⟩,q⟩) hz
theorem vd {x:V} {us:List Value} (r:zj [x] us):∃ u,us=[u]/\zi x u:=by
 cases r with
 | cons r1 r2=>cases r2; exact ⟨_,rfl,r1⟩
theorem UQ {x y:V} {us:List Value} (r:zj [x,y] us):∃ u w',us=[u,w']/\zi x u/\zi y w':=by
 cases r with
 | cons r1 r2=>
  cases r2 with
  | cons r3 r4=>cases r4; exact ⟨_,_,rfl,r1,r3⟩
theorem Oi (hc:X.calm=true):xn X (.builtin "max") (fun xs H Q=>∃ i j,xs=[.int i,.int j]/\Q (.int (if j > i then j else i)) H):=by
 intro pins s σ H xs us Q I r h
 obtain ⟨i,j,rfl,q⟩:=h
 obtain ⟨u,w',rfl,⟨t,rfl⟩,⟨t',rfl⟩⟩:=UQ r
 refine max_two_ints (I.ok.hd hc) fun h' tk k=>⟨_,H,I.kept k,?_,q⟩
 by_cases hj:j > i
 ·rw [if_pos hj,if_pos hj]; exact ⟨_,rfl⟩
 ·rw [if_neg hj,if_neg hj]; exact ⟨_,rfl⟩
theorem Oj (hc:X.calm=true):xn X (.builtin "min") (fun xs H Q=>∃ i j,xs=[.int i,.int j]/\Q (.int (if j<i then j else i)) H):=by
 intro pins s σ H xs us Q I r h
 obtain ⟨i,j,rfl,q⟩:=h
 obtain ⟨u,w',rfl,⟨t,rfl⟩,⟨t',rfl⟩⟩:=UQ r
 refine min_two_ints (I.ok.hd hc) fun h' tk k=>⟨_,H,I.kept k,?_,q⟩
 by_cases hj:j<i
 ·rw [if_pos hj,if_pos hj]; exact ⟨_,rfl⟩
 ·rw [if_neg hj,if_neg hj]; exact ⟨_,rfl⟩
theorem jT:xn X (.type "int") (fun xs H Q=>(∃ i,xs=[.int i]/\Q (.int i) H)\/∃ k,xs=[.bl k]/\Q (.int (if k then 1 else 0)) H):=by
 intro pins s σ H xs us Q I r h
 rcases h with ⟨i,rfl,q⟩ | ⟨k,rfl,q⟩
 ·obtain ⟨u,rfl,t,rfl⟩:=vd r
  exact call_int_int ⟨.int i,H,I,⟨_,rfl⟩,q⟩
 ·obtain ⟨u,rfl,r1⟩:=vd r
  cases r1
  exact call_int_bool ⟨.int (if k then 1 else 0),H,I.tok _,⟨_,rfl⟩,q⟩
theorem Om:xn X (.type "str") (fun xs H Q=>∃ i,xs=[.int i]/\i.natAbs.log2<1920/\Q (.str (toString i)) H):=by
 intro pins s σ H xs us Q I r h
 obtain ⟨i,rfl,hz,q⟩:=h
 obtain ⟨u,rfl,t,rfl⟩:=vd r
 exact PySem.P.str_of_int hz ⟨.str _,H,I.tok _,⟨_,rfl⟩,q⟩
end
end L2
namespace L2
open PySem PySem.Spec PyProof.Rows
theorem tM.some_of {v:V} {o:Option Value} (r:tM (some v) o):∃ u,o=some u/\zi v u:=by
 cases o with
 | none=>exact (show False from r).elim
 | some u=>exact ⟨u,rfl,r⟩
end L2
namespace L2
open PySem PySem.Spec PyProof.Rows
structure yg (k:Nat) (A:Around):Prop where
 hd:A.handled=none
 dp:A.depth+3*k+5<recursionLimit
 un:A.units+16*k+200<cLine
 gd:A.guards=some []
theorem yg.mono {j k:Nat} {A:Around} (r:yg k A) (h:j<=k):yg j A:=⟨r.hd,by have:=r.dp; omega,by have:=r.un; omega,r.gd⟩
theorem yg.deeper {k:Nat} {A:Around} (r:yg (k+1) A) (env:Env):yg k (A.deeper env):=
 ⟨r.hd,by have:=r.dp; show A.depth+1+3*k+5<_; omega,by have:=r.un; show A.units+3+16*k+200<_; omega,by first | exact r.gd | simp [Around.under,Code.guards,pushGuards,r.gd]⟩
theorem yg.depth {k:Nat} {A:Around} (r:yg k A):A.depth<recursionLimit:=by have:=r.dp; omega
theorem yg.units {k:Nat} {A:Around} (r:yg k A):A.units+64<cLine:=by have:=r.un; omega
noncomputable def UJ:TA:=fun _ H Q=>Q [] H
noncomputable def UI (ta:TE) (tr:TA):TA:=fun σ H Q=>ta σ H fun x H1=>tr σ H1 fun xs H2=>Q (x::xs) H2
section
variable {X:Cx} {e:Expr} {es:List Expr} {te:TE} {t:TA} {pos:Pos}
theorem YO:PA X [] UJ:=fun _ _ _ _ H Q I h=>Calls.spliced_nil ⟨[],H,I,.nil,h⟩
theorem DL (ha:PE X e te) (hr:PA X es t) (hs:starEach (e::es) X.env=(false,eval e X.env)::starEach es X.env:=by rfl):PA X (e::es) (UI te t):=by
 intro pos pins s σ H Q I h
 rw [hs]
 show wpAny _ _ (spliced ((false,eval e X.env)::backTo pos (starEach es X.env))) _ _ s
 refine Calls.spliced_cons (zf (ha pins s σ H _ I h) fun u s1 ⟨x,H1,I1,r1,q1⟩=>?_)
 exact zf (hr pos pins s1 σ H1 _ I1 q1) fun us s2 ⟨xs,H2,I2,r2,q2⟩=>⟨x::xs,H2,I2,.cons r1 r2,q2⟩
noncomputable def EW (t:TA):TE:=fun σ H Q=>t σ H fun xs H1=>xs.length<=sizeLine/\∀ p,H1 p=none->Q (.ref p) (zu H1 p (.tup xs))
noncomputable def EI (t:TA):TE:=fun σ H Q=>t σ H fun xs H1=>xs.length<=sizeLine/\∀ p,H1 p=none->Q (.ref p) (zu H1 p (.lst xs))
theorem Dh {x1} (h:PA X es t):PE X (.Tuple es x1 pos) (EW t):=by
 intro pins s σ H Q I hq
 refine wpAny_Tuple_spliced (zf (h pos pins s σ H _ I hq) fun us s1 ⟨xs,H1,I1,r,z,q⟩=>⟨by rw [<- r.length]; exact z,?_⟩)
 have hf:H1 s1.heap.objs.size=none:=I1.hok.fresh (Nat.le_refl _)
 refine ⟨.ref s1.heap.objs.size,zu H1 s1.heap.objs.size (.tup xs),I1.laid (t':=s1.toks) (fun b u e=>Heap.get?_push_of_some _ e) (Nat.le_refl _) ?_,rfl,q _ hf⟩
 exact ⟨z,us,r,⟨_,Heap.get?_push_size _ rfl,rfl,_,rfl⟩⟩
theorem Dc (h:PA X es t):PE X (.List es pos) (EI t):=by
 intro pins s σ H Q I hq
 refine wpAny_List_spliced (zf (h pos pins s σ H _ I hq) fun us s1 ⟨xs,H1,I1,r,z,q⟩=>⟨by rw [<- r.length]; exact z,?_⟩)
 have hf:H1 s1.heap.objs.size=none:=I1.hok.fresh (Nat.le_refl _)
 refine ⟨.ref s1.heap.objs.size,zu H1 s1.heap.objs.size (.lst xs),I1.laid (t':=s1.toks) (fun b u e=>Heap.get?_push_of_some _ e) (Nat.le_refl _) ?_,rfl,q _ hf⟩
 exact ⟨z,us,0,r,Heap.get?_push_size _ rfl⟩
end
noncomputable abbrev Sp:=List V->Hp->VK->XK->Prop
noncomputable abbrev ua:=List Env->Hp->Shared->XK->Value->Shared->Prop
structure ZA (P:Program) (w:World) (K:PySem.W.Frag) (mg:Str->Option Value) (base:Heap) (A:Around) (outer:List Env) (s:Shared) (H:Hp):Prop where
 frames:A.frames=some outer
 mod:Mod K mg base
 bs:∀ b o,base.get? b=some o->s.heap.get? b=some o/\H b=none
 bsz:base.objs.size<=s.heap.objs.size
 funs:s.heap.FunFrames base outer
 frf:∀ b∈yT outer,H b=none
 hok:yo P w H s.heap
 bare:AllBare s.gens
noncomputable def CE (outer:List Env) (P:Program) (w:World) (H:Hp) (s:Shared) (Q:VK) (u:Value) (s':Shared):Prop:=
 ∃ v H',s'.os=s.os/\AllBare s'.gens/\Un (yT outer) [] H H' s.heap s'.heap/\yo P w H' s'.heap/\zi v u/\Q v H'
noncomputable def CR (CX:ua) (outer:List Env) (P:Program) (w:World) (H:Hp) (s:Shared) (Q:VK) (E:XK) (r:Result) (s':Shared):Prop:=
 match r with
 | .ok (.ret u)=>CE outer P w H s Q u s'
 | .ok _=>False
 | .error e=>CX outer H s E e s'
structure wv (P:Program) (w:World) (K:PySem.W.Frag) (mg:Str->Option Value) (base:Heap) (CX:ua) (k:Nat) (f:Addr) (fd:FuncData) (ps:List Str) (sp:Sp):Prop where
 len:∀ vs H Q E,sp vs H Q E->vs.length=ps.length
 run:∀ (A:Around) (outer:List Env) (s:Shared) (H:Hp) (args:Args) (us:List Value) (vs:List V) (Q:VK) (E:XK),yg k A->ZA P w K mg base A outer s H->BindsTo s fd args (ps.zip us)->zj vs us->sp vs H Q E->
  codeAny (model P w) A (.call (.ref f) args) (CR CX outer P w H s Q E) s
section
variable {X:Cx} {pins:List (Addr×Obj)} {σ:St} {H:Hp} {s s':Shared}
theorem Inv.env0 (I:Inv X pins σ H s):ZA X.prog X.w X.K X.mg X.base X.A X.stack s H:=
 ⟨I.ok.frames,I.ok.mod,I.bs,Nat.le_trans I.ok.bsz I.sz,I.stack,I.stkFree,I.hok,I.bare⟩
theorem Inv.after {Q:VK} {u:Value} (I:Inv X pins σ H s) (h:CE X.stack X.prog X.w H s Q u s'):EP X pins σ Q u s':=by
 obtain ⟨v,H',os,bare,un,hok,r,q⟩:=h
 obtain ⟨hh,g,d,t,os'⟩:=s'
 obtain rfl:os'=s.os:=os
 exact ⟨v,H',I.call (h':=hh) (g':=g) (d':=d) (t':=t) (ch:=[]) un hok bare (fun b z=>absurd z (by simp)),r,q⟩
end
noncomputable def Yw (sp:Sp) (dvs:List V) (E:XK) (t:TA):TE:=fun σ H Q=>t σ H fun vs H1=>sp (vs++dvs) H1 Q E
noncomputable def uZ (K:PySem.W.Frag) (fd:FuncData) (ps:List Str) (ds:List Value):Prop:=
 ∀ (s:Shared) (us:List Value),K.In s.heap->(us++ds).length=ps.length->BindsTo s fd ⟨us,[]⟩ (ps.zip (us++ds))
theorem uZ.all {K:PySem.W.Frag} {fd:FuncData} {ps:List Str} (h:∀ us:List Value,us.length=ps.length->bindArgs fd ⟨us,[]⟩=pure (ps.zip us)):uZ K fd ps []:=fun s us _ hl=>by
 rw [List.append_nil] at hl ⊢
 exact .of_eq (h us hl)
noncomputable def qK (CX:ua) (X:Cx) (E:XK):Prop:=∀ (pins:List (Addr×Obj)) (σ:St) (H:Hp) (s:Shared) (e:Value) (s':Shared),Inv X pins σ H s->CX X.stack H s E e s'->X.xe e s'
section
variable {X:Cx} {CX:ua} {k:Nat} {f C:Addr} {fd:FuncData} {ps:List Str} {sp:Sp} {dvs:List V} {ds:List Value} {E:XK} {x m:Str} {p pos apos:Pos} {e o:Expr} {es:List Expr} {ta:TE} {t:TA}
theorem Jo {pins:List (Addr×Obj)} {σ:St} {H:Hp} {s:Shared} {Q:VK} {us:List Value} {vs:List V} (F:wv X.prog X.w X.K X.mg X.base CX k f fd ps sp) (hr:yg k X.A) (hb:uZ X.K fd ps ds) (hd:zj dvs ds) (hx:qK CX X E)
  (I:Inv X pins σ H s) (r:zj vs us) (h:sp (vs++dvs) H Q E):wpAny (model X.prog X.w) X.A (call (.ref f) us) (EP X pins σ Q) X.xe s:=by
 have r2:zj (vs++dvs) (us++ds):=r.append hd
 have hl:(us++ds).length=ps.length:=by rw [<- r2.length]; exact F.len _ _ _ _ h
 refine wpAny_call (codeAny_mono (F.run X.A X.stack s H ⟨us,[]⟩ (us++ds) (vs++dvs) Q E hr I.env0 (hb s us I.kIn hl) r2 h) fun r s' hq=>?_)
 cases r with
 | error e=>exact hx pins σ H s e s' I hq
 | ok fl=>
  cases fl with
  | ret u=>exact I.after hq
  | next=>exact False.elim hq
  | brk=>exact False.elim hq
  | cont=>exact False.elim hq
theorem Qt (F:wv X.prog X.w X.K X.mg X.base CX k f fd ps sp) (hr:yg k X.A) (hg:Gl X x) (hm:X.mg x=some (.ref f)) (hk:PySem.W.keepIn X.K (.ref f)=true) (hb:uZ X.K fd ps ds) (hd:zj dvs ds) (hx:qK CX X E)
  (ha:PA X (e::es) t) (hdb:(x == ("__debug__" : Str))=false:=by decide) (he:starEach (e::es) X.env=(false,eval e X.env)::starEach es X.env:=by rfl) (hpl:(backTo pos (starEach es X.env)).any (·.1)=false:=by rfl) :
  PE X (.Call (.Name x p) (e::es) [] pos) (Yw sp dvs E t):=by
 intro pins s σ H Q I h
 refine wpAny_Call_Name_kw (tW I hg hm ?_ hdb)
 refine PySem.W.callWith_K (h₀:=X.base) I.ok.mod.kin hk (zf (ha pos pins s σ H _ I h) fun us s1 ⟨vs,H1,I1,r,q⟩=>⟨I1.kIn,?_⟩) he hpl
 exact Jo F hr hb hd hx I1 r q
theorem DU (F:wv X.prog X.w X.K X.mg X.base CX k f fd ps sp) (hr:yg k X.A) (hg:Gl X x) (hm:X.mg x=some (.ref f)) (hk:PySem.W.keepIn X.K (.ref f)=true) (hb:uZ X.K fd ps ds) (hd:zj dvs ds) (hx:qK CX X E)
  (hdb:(x == ("__debug__" : Str))=false:=by decide):PE X (.Call (.Name x p) [] [] pos) (Yw sp dvs E UJ):=by
 intro pins s σ H Q I h
 refine wpAny_Call_Name_kw (tW I hg hm ?_ hdb)
 exact PySem.W.callWith_K0 I.kIn hk (Jo (us:=[]) F hr hb hd hx I .nil h)
end
structure yc (N P:List Str) (sc:Scope):Prop where
 kind:sc.kind=.function
 co:sc.isCoroutine=false
 gen:sc.isGenerator=false
 nd:N.Nodup
 pre:N.take P.length=P
 par:∀ x∈P,sc.names.lookup x=some .local\/sc.names.lookup x=some .cell
 nofree:∀ y∈sc.names,y.2≠.free
theorem Uv {kindOf:Str->Option NameKind} {x:Str}:∀ {binds:List (Str×Value)} {m:Str->Option Value},(∀ v,(x,v) ∉ binds)->bindL kindOf binds m x=m x
 | [],_,_=>rfl
 | (n,v)::r,m,h=>by
  unfold bindL
  rw [Uv fun w hw=>h w (List.mem_cons_of_mem _ hw)]
  split
  ·have:x≠n:=by rintro rfl; exact h v List.mem_cons_self
   simp [this]
  ·rfl
theorem Ut {kindOf:Str->Option NameKind} {x:Str}:∀ {binds:List (Str×Value)} {m:Str->Option Value},(∀ v,(x,v) ∉ binds)->bindC kindOf binds m x=m x
 | [],_,_=>rfl
 | (n,v)::r,m,h=>by
  unfold bindC
  rw [Ut fun w hw=>h w (List.mem_cons_of_mem _ hw)]
  split
  ·rfl
  ·have:x≠n:=by rintro rfl; exact h v List.mem_cons_self
   simp [this]
theorem Uu {kindOf:Str->Option NameKind} {x:Str} {v:Value}:∀ {P:List Str} {vs:List Value} {i:Nat} {m:Str->Option Value},P.Nodup->P[i]?=some x->vs[i]?=some v->kindOf x=some .local->
  bindL kindOf (P.zip vs) m x=some v
 | [],_,_,_,_,h,_,_=>by simp at h
 | _::_,[],_,_,_,_,h,_=>by simp at h
 | p::P,w::vs,0,m,nd,h1,h2,hk=>by
  simp at h1 h2; subst h1; subst h2
  show bindL kindOf ((p,w)::P.zip vs) m p=_
  unfold bindL
  rw [Uv fun v hv=>(List.nodup_cons.mp nd).1 (List.of_mem_zip hv).1,if_pos hk]
  simp
 | p::P,w::vs,i+1,m,nd,h1,h2,hk=>by
  show bindL kindOf ((p,w)::P.zip vs) m x=_
  unfold bindL
  exact Uu (i:=i) (List.nodup_cons.mp nd).2 (by simpa using h1) (by simpa using h2) hk
theorem Us {kindOf:Str->Option NameKind} {x:Str} {v:Value}:∀ {P:List Str} {vs:List Value} {i:Nat} {m:Str->Option Value},P.Nodup->P[i]?=some x->vs[i]?=some v->kindOf x≠some .local->
  bindC kindOf (P.zip vs) m x=some v
 | [],_,_,_,_,h,_,_=>by simp at h
 | _::_,[],_,_,_,_,h,_=>by simp at h
 | p::P,w::vs,0,m,nd,h1,h2,hk=>by
  simp at h1 h2; subst h1; subst h2
  show bindC kindOf ((p,w)::P.zip vs) m p=_
  unfold bindC
  rw [Ut fun v hv=>(List.nodup_cons.mp nd).1 (List.of_mem_zip hv).1,if_neg hk]
  simp
 | p::P,w::vs,i+1,m,nd,h1,h2,hk=>by
  show bindC kindOf ((p,w)::P.zip vs) m x=_
  unfold bindC
  exact Us (i:=i) (List.nodup_cons.mp nd).2 (by simpa using h1) (by simpa using h2) hk
noncomputable def start (N:List Str) (vs:List V):St:=vs.map some++List.replicate (N.length - vs.length) none
noncomputable def vj (CX:ua) (P:Program) (w:World) (K:PySem.W.Frag) (mg:Str->Option Value) (base:Heap) (N:List Str) (qual:Str) (scope:Scope) (f:Addr) (cd:Value) (A:Around) (outer:List Env) (s:Shared) (H:Hp) (E:XK):Cx where
 prog:=P
 w:=w
 K:=K
 mg:=mg
 base:=base
 A:=A.deeper (envOfC qual scope s.heap.objs.size f cd)
 N:=N
 s₀:=s
 H₀:=H
 env:=envOfC qual scope s.heap.objs.size f cd
 outer:=outer
 stack:=envOfC qual scope s.heap.objs.size f cd::outer
 ex:=[]
 calm:=true
 fn:=fun _=>true
 pn:=[]
 xe:=fun e s'=>wpAny (model P w) (A.deeper (envOfC qual scope s.heap.objs.size f cd)) (leaving (envOfC qual scope s.heap.objs.size f cd) e) (fun _ s''=>CX outer H s E e s'') (fun e' s''=>CX outer H s E e' s'') s'
theorem T6 {sc:Scope} {n:Nat} {x:Str} (h:sc.names.lookup x=some .cell):∃ c,(cellsFrom n sc.names []).lookup x=some c:=by
 have q:=PySem.W.cellsFrom_some sc.names n [] (.inl h)
 exact Option.isSome_iff_exists.mp q
theorem MI {CX:ua} {P:Program} {w:World} {K:PySem.W.Frag} {mg:Str->Option Value} {base:Heap} {N ps:List Str} {qual:Str} {scope:Scope} {f:Addr} {cd:Value} {A:Around} {outer:List Env} {s s1:Shared} {H:Hp} {E:XK} {us:List Value} {vs:List V}
  (S:yc N ps scope) (hd:A.handled=none) (e0:ZA P w K mg base A outer s H) (hl:vs.length=ps.length) (r:zj vs us)
  (x:InCallC s s.heap.objs.size (bindL (envOfC qual scope s.heap.objs.size f cd).kindOf (ps.zip us) fun _=>none) (cellsFrom (s.heap.objs.size+1) scope.names []) (bindC (envOfC qual scope s.heap.objs.size f cd).kindOf (ps.zip us) fun _=>none) s1) :
  Inv (vj CX P w K mg base N qual scope f cd A outer s H E) [] (start N vs) H s1:=by
 have hpl:ps.length<=N.length:=by have:=congrArg List.length S.pre; rw [List.length_take] at this; omega
 obtain ⟨h1,tk,rfl,hk⟩:=x.done
 have noA:∀ b:Addr,b ∉ (vj CX P w K mg base N qual scope f cd A outer s H E).ex:=fun b z=>absurd (show b∈([]:List Addr) from z) (by simp)
 refine ⟨⟨e0.mod,S.kind,rfl,rfl,Nat.le_refl _,fun y z c h1 h2=>?_,fun y hy=>?_,fun y c _ h=>?_,fun _=>hd,Around.frames_deeper e0.frames,.inr ⟨rfl,rfl⟩,fun b z=>absurd z (noA b),e0.bs,e0.bsz,fun b _ _=>noA b,fun b z=>absurd z (noA b),e0.funs,e0.frf⟩,
  rfl,e0.bare,Un.kept hk,⟨_,x.toInCall.ns,fun i y v h1 h2 h3=>?_⟩,fun y c h=>⟨_,x.cell y c h⟩,e0.hok.fresh (Nat.le_refl _),fun y c h=>?_,fun p hp=>absurd (show p∈([]:List (Addr×Obj)) from hp) (by simp),e0.hok.kept hk,?_⟩
 ·exact name_of_addr x.apart (PySem.mem_of_lookup h1) (PySem.mem_of_lookup h2)
 ·have hy:scope.names.lookup y=some .cell\/scope.names.lookup y=some .free:=hy
  rcases hy with hy | hy
  ·exact T6 hy
  ·exact absurd rfl (S.nofree _ (PySem.mem_of_lookup hy))
 ·exact Nat.le_of_lt (x.above y c (PySem.mem_of_lookup h))
 ·have hi:i<vs.length:=by
   unfold start at h2
   by_cases hi:i<vs.length
   ·exact hi
   ·rw [List.getElem?_append_right (by simpa using hi)] at h2
    rw [List.getElem?_replicate] at h2
    split at h2<;>cases h2
  have ha:vs[i]?=some v:=by
   unfold start at h2
   rw [List.getElem?_append_left (by simpa using hi),List.getElem?_map] at h2
   cases e:vs[i]? with
   | none=>rw [e] at h2; cases h2
   | some a=>rw [e] at h2; cases h2; rfl
  obtain ⟨u,hu,rv⟩:=r.get ha
  have hp:ps[i]?=some y:=by
   rw [<- S.pre,List.getElem?_take_of_lt (by omega)]; exact h1
  have ndP:ps.Nodup:=by rw [<- S.pre]; exact S.nd.sublist (List.take_sublist _ _)
  refine ⟨u,rv,?_⟩
  rcases S.par y (List.mem_of_getElem? hp) with k | k
  ·exact .inl ⟨k,Uu ndP hp hu k⟩
  ·obtain ⟨c,e⟩:=T6 (n:=s.heap.objs.size+1) k
   refine .inr ⟨.inl k,c,e,?_⟩
   have q:=x.cell y c e
   rw [Us ndP hp hu (by show scope.names.lookup y≠_; rw [k]; decide)] at q
   exact q
 ·exact e0.hok.fresh (Nat.le_of_lt (x.above y c (PySem.mem_of_lookup h)))
 ·unfold start
  show _=N.length
  rw [List.length_append,List.length_map,List.length_replicate]
  omega
theorem Wg {CX:ua} {P:Program} {w:World} {K:PySem.W.Frag} {mg:Str->Option Value} {base:Heap} {k:Nat} {f:Addr} {name qual:Str} {params:Arguments} {body:List Stmt} {scope:Scope} {dV kV doc pm cdv ct oc:Value} {an od:Option Addr}
  {osl:Array (Option Value)} {N ps:List Str} {sp:Sp} (lk:K.lookup f=some ⟨oc,od,.func (PySem.W.fnOf name qual params body scope dV kV doc pm an cdv ct),osl⟩) (hcd:PySem.W.codeIn K cdv qual=true) (S:yc N ps scope)
  (len:∀ vs H Q E,sp vs H Q E->vs.length=ps.length)
  (hbody:∀ (A:Around) (outer:List Env) (s:Shared) (H:Hp) (vs:List V) (Q:VK) (E:XK),yg k (A.deeper (envOfC qual scope s.heap.objs.size f cdv))->sp vs H Q E->
   ∃ t,wL (vj CX P w K mg base N qual scope f cdv A outer s H E) body t/\t { nx:=fun _ H'=>Q .non H',rt:=Q } (start N vs) H) :
  wv P w K mg base CX (k+1) f (PySem.W.fnOf name qual params body scope dV kV doc pm an cdv ct) ps sp:=by
 refine ⟨len,fun A outer s H args us vs Q E hr e0 hb r hsp=>?_⟩
 have hl:=len _ _ _ _ hsp
 have KX:K.In s.heap:=e0.mod.kin.keeps fun b o e=>(e0.bs b o e).1
 have lim:s.heap.NoLimit:=e0.mod.nolimit.keeps fun b o e=>(e0.bs b o e).1
 have hkind:∀ y∈ps.zip us,scope.names.lookup y.1=some .local\/(scope.names.lookup y.1=some .cell/\((cellsFrom (s.heap.objs.size+1) scope.names []).lookup y.1).isSome=true):=fun ⟨n,v⟩ hy=>by
  rcases S.par n (List.of_mem_zip hy).1 with q | q
  ·exact .inl q
  ·exact .inr ⟨q,PySem.W.cellsFrom_some _ _ _ (.inl q)⟩
 refine codeAny_call_function hr.depth (KX _ _ lk) rfl S.co S.gen rfl (PySem.W.codeRec_of KX hcd) (hb _ _ _ _ ?_)
 refine wpAny_newFunctionEnv_cells S.kind hkind fun env he s1 x=>?_
 subst he
 refine ⟨lim.keeps x.toInCall.keep,codeAny_func ?_⟩
 obtain ⟨t,ht,hq⟩:=hbody A outer s H vs Q E (hr.deeper _) hsp
 have I:Inv (vj CX P w K mg base N qual scope f cdv A outer s H E) [] (start N vs) H s1:=MI S hr.hd e0 hl r x
 refine wpAny_mono (ht [] s1 (start N vs) H _ I hq) (fun fl s' hs=>?_) fun e s' hs=>hs
 have fin:∀ {σ':St} {H':Hp} {v:V} {u:Value},Inv (vj CX P w K mg base N qual scope f cdv A outer s H E) [] σ' H' s'->zi v u->Q v H'->CE outer P w H s Q u s':=
  fun {σ' H' v u} J rv q=>⟨v,H',J.os,J.bare,J.base,J.hok,rv,q⟩
 cases fl with
 | ret u=>
  obtain ⟨v,σ',H',J,rv,q⟩:=hs
  exact fin J rv q
 | next=>
  obtain ⟨σ',H',J,q⟩:=hs
  exact fin (v:=V.non) (u:=Value.none) J rfl q
 | brk=>
  obtain ⟨_,_,_,q⟩:=hs
  exact False.elim q
 | cont=>
  obtain ⟨_,_,_,q⟩:=hs
  exact False.elim q
end L2
namespace L2
open PySem PySem.Spec PyProof.Rows
section
variable {X:Cx} {x:Str} {p pos:Pos} {e:Expr} {es:List Expr} {t:TA} {id T:String} {r:List V->Hp->VK->Prop}
noncomputable def Yv (r:List V->Hp->VK->Prop) (t:TA):TE:=fun σ H Q=>t σ H fun vs H1=>r vs H1 Q
theorem DV (hc:xn X (.builtin id) r) (hg:Gl X x) (hm:X.mg x=none) (hv:bootBuiltins x=some (.builtin id)) (ha:PA X (e::es) t) (hn:x ≠ "__name__" := by decide) (hdb:(x == ("__debug__" : Str))=false:=by decide)
  (he:starEach (e::es) X.env=(false,eval e X.env)::starEach es X.env:=by rfl) (hpl:(backTo pos (starEach es X.env)).any (·.1)=false:=by rfl):PE X (.Call (.Name x p) (e::es) [] pos) (Yv r t):=by
 intro pins s σ H Q I h
 refine wpAny_Call_Name_kw (kJ I hg hm hv ?_ hn hdb)
 exact PyProof.Rows.callWith_builtin1 (zf (ha pos pins s σ H _ I h) fun us s1 ⟨vs,H1,I1,r1,q1⟩=>hc pins s1 σ H1 vs us Q I1 r1 q1) he hpl
theorem DW (hc:xn X (.type T) r) (hg:Gl X x) (hm:X.mg x=none) (hv:bootBuiltins x=some (.type T)) (ha:PA X (e::es) t) (hn:x ≠ "__name__" := by decide) (hdb:(x == ("__debug__" : Str))=false:=by decide)
  (he:starEach (e::es) X.env=(false,eval e X.env)::starEach es X.env:=by rfl) (hpl:(backTo pos (starEach es X.env)).any (·.1)=false:=by rfl):PE X (.Call (.Name x p) (e::es) [] pos) (Yv r t):=by
 intro pins s σ H Q I h
 refine wpAny_Call_Name_kw (kJ I hg hm hv ?_ hn hdb)
 exact PyProof.Rows.callWith_type1 (zf (ha pos pins s σ H _ I h) fun us s1 ⟨vs,H1,I1,r1,q1⟩=>hc pins s1 σ H1 vs us Q I1 r1 q1) he hpl
end
end L2
namespace HT
open PySem PyProof.Rows
section
variable {prog:Program} {w:World} {A:Around} {E:Value->Shared->Prop} {s:Shared}
theorem cat_tup {t b:Addr} {vs ws:List Value} {Q:Value->Shared->Prop} (ht:IsTup s.heap t vs.toArray) (hb:IsTup s.heap b ws.toArray) (hv:vs≠[])
  (h1:ws=[]->Q (.ref t) s) (h2:ws≠[]->Q (.ref s.heap.objs.size) { s with heap:=s.heap.push { cls:=.type "tuple",data:=.seq (vs++ws).toArray } })
  (hsz:vs.length+ws.length<=sizeLine):wpAny (model prog w) A (binaryOp .Add (.ref t) (.ref b)) Q E s:=by
 obtain ⟨⟨cls,dd,data,sl⟩,ho,hc,n,hd⟩:=id ht
 obtain ⟨⟨cls2,dd2,data2,sl2⟩,ho2,hc2,n2,hd2⟩:=id hb
 simp only at hc hd hc2 hd2
 subst hc hd hc2 hd2
 have e:vs.toArray++ws.toArray=(vs++ws).toArray:=by simp
 by_cases hw:ws=[]
 ·exact concat_meets ⟨_,ho,rfl⟩ ⟨_,ho2,rfl⟩ noFill_tuple_add seq_tuple_add PySem.F.slot_tuple_add PySem.F.entry_tuple_add (PySem.F.args_tuple_add_2 _ _)
   (tuple_addW1 t b vs.toArray ws.toArray n n2 dd dd2 sl sl2 (by simpa using hv) (by simp [hw])) ⟨ho,ho2,h1 hw⟩
 ·refine concat_meets ⟨_,ho,rfl⟩ ⟨_,ho2,rfl⟩ noFill_tuple_add seq_tuple_add PySem.F.slot_tuple_add PySem.F.entry_tuple_add (PySem.F.args_tuple_add_2 _ _)
   (tuple_addW2 t b vs.toArray ws.toArray n n2 dd dd2 sl sl2 (by simpa using hv) (by simpa using hw) (by rw [List.size_toArray,List.size_toArray]; exact hsz)) ⟨ho,ho2,?_⟩
  rw [e]
  exact h2 hw
noncomputable def sIx (n d:Nat):Option Int->Nat
 | none=>d
 | some v=>if v<0 then (v+(n:Int)).toNat else min v.toNat n
theorem sIx_nat (n d k:Nat):sIx n d (some (k:Int))=min k n:=by
 show (if (k:Int)<0 then ((k:Int)+(n:Int)).toNat else min (k:Int).toNat n)=min k n
 rw [if_neg (by omega),Int.toNat_natCast]
theorem sIx_le (n d:Nat) (hd:d<=n) (o:Option Int):sIx n d o<=n:=by
 cases o with
 | none=>exact hd
 | some v=>
  show (if v<0 then (v+(n:Int)).toNat else min v.toNat n)<=n
  by_cases hv:v<0
  ·rw [if_pos hv]; omega
  ·rw [if_neg hv]; exact Nat.min_le_right _ _
theorem T8 (v:Int) (n d:Nat):(if v<0 then max (v+(n:Int)) 0 else min v (n:Int))=((sIx n d (some v):Nat):Int):=by
 show (if v<0 then max (v+(n:Int)) 0 else min v (n:Int))=(((if v<0 then (v+(n:Int)).toNat else min v.toNat n):Nat):Int)
 by_cases hv:v<0
 ·simp only [if_pos hv]; omega
 ·simp only [if_neg hv]; omega
theorem OE (lo hi:Option Int) (n:Nat):Builtin.Slice.sliceAdjust lo hi 1 (n:Int)=(((sIx n 0 lo:Nat):Int),((sIx n n hi:Nat):Int)):=by
 have h1:¬ ((1:Int)<0):=by omega
 unfold Builtin.Slice.sliceAdjust
 simp only [h1,if_false]
 refine Prod.ext ?_ ?_
 ·cases lo with
  | none=>rfl
  | some v=>exact T8 v n 0
 ·cases hi with
  | none=>rfl
  | some v=>exact T8 v n n
theorem Dx (i j:Nat):Builtin.Slice.slicePlaces (i:Int) (j:Int) 1=j - i:=by
 unfold Builtin.Slice.slicePlaces
 have h1:(1:Int) > 0:=by omega
 simp only [h1,if_true,Int.ediv_one]
 split<;>omega
theorem IF {v:Value} {o:Option Int} {Q:Option Int->Shared->Prop} (p:IsPart v o) (h:Q o s):wpAny (model prog w) A (Builtin.Slice.slicePartIndex v) Q E s:=by
 cases p with
 | none=>exact slicePart_none h
 | int i t=>exact slicePart_int h
theorem IE {sl:Addr} {vl vu:Value} {lo hi:Option Int} {n:Nat} {Q:Int×Int×Nat->Shared->Prop} (hs:s.heap.IsSliceOf sl vl vu .none) (pl:IsPart vl lo) (pu:IsPart vu hi)
  (h:Q (((sIx n 0 lo:Nat):Int),1,sIx n n hi - sIx n 0 lo) s):wpAny (model prog w) A (Builtin.Slice.sliceApplied (.ref sl) (pure (n:Int))) Q E s:=by
 obtain ⟨os,hos,hcs,hds⟩:=id hs
 unfold Builtin.Slice.sliceApplied Builtin.Slice.sliceFields
 refine wpAny_bind (wpAny_bind (wpAny_field hos hds (x:=vl) rfl (wpAny_bind (wpAny_field hos hds (x:=vu) rfl (wpAny_bind (wpAny_field hos hds (x:=.none) rfl (wpAny_pure ?_)))))))
 refine wpAny_bind (slicePart_none ?_)
 show wpAny _ _ (if ((1:Int) == 0)=true then _ else _) _ _ s
 rw [if_neg (by decide)]
 refine wpAny_bind (IF pl (wpAny_bind (IF pu (wpAny_bind (wpAny_pure ?_)))))
 show wpAny _ _ (match Builtin.Slice.sliceAdjust lo hi 1 (n:Int) with | (lo,hi)=>pure (lo,(1:Int),Builtin.Slice.slicePlaces lo hi 1)) _ _ s
 rw [OE lo hi n]
 show wpAny _ _ (pure (((sIx n 0 lo:Nat):Int),(1:Int),Builtin.Slice.slicePlaces ((sIx n 0 lo:Nat):Int) ((sIx n n hi:Nat):Int) 1)) _ _ s
 rw [Dx]
 exact wpAny_pure h
theorem Dv (xs:Array Value) (i k:Nat):((List.range k).filterMap fun (m:Nat)=>xs[((i:Int)+(m:Int)*1).toNat]?).toArray=((xs.toList.drop i).take k).toArray:=by
 have e:(fun (m:Nat)=>xs[((i:Int)+(m:Int)*1).toNat]?)=fun m=>xs[i+m]?:=by
  funext m
  have:((i:Int)+(m:Int)*1).toNat=i+m:=by omega
  rw [this]
 rw [e]
 have:=pick_run xs i k
 rw [List.filterMap_map] at this
 have e2:((fun x=>xs[x]?) ∘ fun x=>i+x)=fun m=>xs[i+m]?:=rfl
 rw [e2] at this
 rw [this]
theorem getItem_tuple_cut {t sl:Addr} {items:Array Value} {vl vu:Value} {lo hi:Option Int} {Q:Value->Shared->Prop} (ht:IsTup s.heap t items) (hs:s.heap.IsSliceOf sl vl vu .none) (pl:IsPart vl lo) (pu:IsPart vu hi)
  (hw:¬ (sIx items.size 0 lo=0/\sIx items.size items.size hi=items.size))
  (h:Q (.ref s.heap.objs.size) { s with heap:=s.heap.push { cls:=.type "tuple",data:=.seq ((items.toList.drop (sIx items.size 0 lo)).take (sIx items.size items.size hi - sIx items.size 0 lo)).toArray } })
  (hsz:items.size<=sizeLine):wpAny (model prog w) A (getItem (.ref t) (.ref sl)) Q E s:=by
 have htake:sizeOk (.seq ((items.toList.drop (sIx items.size 0 lo)).take (sIx items.size items.size hi - sIx items.size 0 lo)).toArray):=by
  show ((items.toList.drop (sIx items.size 0 lo)).take (sIx items.size items.size hi - sIx items.size 0 lo)).toArray.size<=sizeLine
  rw [List.size_toArray,List.length_take,List.length_drop,Array.length_toList]
  omega
 have hj:sIx items.size items.size hi<=items.size:=sIx_le _ _ (Nat.le_refl _) hi
 obtain ⟨os,hos,hcs,hds⟩:=id hs
 have hTs:s.TypeIs (.ref sl) "slice" := ⟨os,hos,hcs⟩
 unfold getItem
 try with_reducible refine wpAny_holding ?_
 first | refine wpAny_bind (wpAny_pure ?_) | skip
 refine wpAny_bind (wpAny_sequenceKey ht.typeIs (by decide) ?_)
 refine wpAny_bind (wpAny_callSpecial?_slot (name:=Str.ofString "__getitem__") ht.typeIs PyProof.Rows.slot_tuple_getitem
  (wpAny_call_entry PyProof.Rows.slot_tuple_getitem ht.typeIs entry_tuple_getitem ?_ (args_tuple_getitem _ _)))
 show wpAny _ _ (Builtin.Tuple.tupleItemsOf (.ref t) >>= _) _ _ s
 refine wpAny_bind (tupleItemsOf_ ht ?_)
 refine wpAny_bind (wpAny_typeOf hTs ?_)
 rw [if_pos (by decide)]
 refine wpAny_bind (IE hs pl pu ?_)
 have hno:¬ ((((sIx items.size 0 lo:Nat):Int) == 0&&(1:Int) == 1&&(sIx items.size items.size hi - sIx items.size 0 lo) == items.size)=true):=by
  intro q
  rw [Bool.and_eq_true,Bool.and_eq_true] at q
  have q1:((sIx items.size 0 lo:Nat):Int)=0:=eq_of_beq q.1.1
  have q2:sIx items.size items.size hi - sIx items.size 0 lo=items.size:=eq_of_beq q.2
  exact hw ⟨by omega,by omega⟩
 show wpAny _ _ (if (((sIx items.size 0 lo:Nat):Int) == 0&&(1:Int) == 1&&(sIx items.size items.size hi - sIx items.size 0 lo) == items.size)=true then _ else _) _ _ s
 rw [if_neg hno,Dv]
 first
  | exact wpAny_bind (m:=Builtin.Tuple.tupleExact _) (wpAny_newObj_type (wpAny_pure ⟨_,rfl,wpAny_pure h⟩) htake)
  | exact wpAny_bind (m:=Builtin.Tuple.tupleExact _) (wpAny_newObj_type (wpAny_bind (wpAny_pure (wpAny_pure ⟨_,rfl,wpAny_pure h⟩))) htake)
  | exact wpAny_bind (wpAny_bind (m:=Builtin.Tuple.tupleExact _) (wpAny_newObj_type (wpAny_pure (wpAny_pure ⟨_,rfl,wpAny_pure h⟩)) htake))
  | exact wpAny_bind (wpAny_bind (m:=Builtin.Tuple.tupleExact _) (wpAny_newObj_type (wpAny_pure ⟨_,rfl,wpAny_pure h⟩) htake))
end
end HT
namespace L2
open PySem PySem.Spec PyProof.Rows
noncomputable abbrev TO:=St->Hp->(Option Int->Hp->Prop)->Prop
noncomputable def PO (X:Cx) (e:Option Expr) (t:TO):Prop:=
 ∀ (pins:List (Addr×Obj)) (s:Shared) (σ:St) (H:Hp) (Q:Option Int->Hp->Prop),Inv X pins σ H s->t σ H Q->
  wpAny (model X.prog X.w) X.A (evalPart e X.env) (fun u s'=>∃ o H',Inv X pins σ H' s'/\IsPart u o/\Q o H') X.xe s
noncomputable def EK:TO:=fun _ H Q=>Q none H
noncomputable def EN (t:TE):TO:=fun σ H Q=>t σ H fun x H1=>∃ i,x=.int i/\Q (some i) H1
section
variable {X:Cx} {e:Expr} {te:TE} {lo hi:Option Expr} {tl th:TO} {pos p2:Pos}
theorem F2:PO X none EK:=by
 intro pins s σ H Q I h
 rw [evalPart_none]
 exact wpAny_pure ⟨none,H,I,.none,h⟩
theorem F3 (h:PE X e te):PO X (some e) (EN te):=by
 intro pins s σ H Q I hw
 rw [evalPart_some]
 refine zf (h pins s σ H _ I hw) fun u s1 ⟨x,H1,I1,r1,q1⟩=>?_
 obtain ⟨i,rfl,q⟩:=q1
 obtain ⟨t,rfl⟩:=r1
 exact ⟨some i,H1,I1,.int i t,q⟩
noncomputable def uh (X:Cx) (r:V->Option Int->Option Int->Hp->VK->Prop):Prop:=
 ∀ (pins:List (Addr×Obj)) (s:Shared) (σ:St) (H:Hp) (x:V) (v vl vu:Value) (lo hi:Option Int) (sl:Addr) (Q:VK),Inv X pins σ H s->zi x v->s.heap.IsSliceOf sl vl vu .none->IsPart vl lo->IsPart vu hi->r x lo hi H Q->
  ∃ T id,typeLookup (.type T) "__getitem__" = pure (some (.builtin id))/\s.TypeIs v T/\wpAny (model X.prog X.w) X.A (getItem v (.ref sl)) (EP X pins σ Q) X.xe s
theorem uh.or {r r':V->Option Int->Option Int->Hp->VK->Prop} (h:uh X r) (h':uh X r'):uh X (fun x lo hi H Q=>r x lo hi H Q\/r' x lo hi H Q):=by
 intro pins s σ H x v vl vu lo hi sl Q I rx hs pl pu q
 rcases q with q | q
 ·exact h pins s σ H x v vl vu lo hi sl Q I rx hs pl pu q
 ·exact h' pins s σ H x v vl vu lo hi sl Q I rx hs pl pu q
noncomputable def ET (r:V->Option Int->Option Int->Hp->VK->Prop) (te:TE) (tl th:TO):TE:=fun σ H Q=>te σ H fun x H1=>tl σ H1 fun l H2=>th σ H2 fun u H3=>r x l u H3 Q
theorem Qy {r:V->Option Int->Option Int->Hp->VK->Prop} (hr:uh X r) (he:PE X e te) (hl:PO X lo tl) (hu:PO X hi th):PE X (.Subscript e (.Slice lo hi none p2) pos) (ET r te tl th):=by
 intro pins s σ H Q I h
 refine Subscript_ (zf (he pins s σ H _ I h) fun v s1 ⟨x,H1,I1,r1,q1⟩=>?_)
 refine wpAny_Slice (zf (hl pins s1 σ H1 _ I1 q1) fun vl s2 ⟨l,H2,I2,pl,q2⟩=>zf (hu pins s2 σ H2 _ I2 q2) fun vu s3 ⟨u,H3,I3,pu,q3⟩=>?_)
 rw [evalPart_none]
 refine wpAny_pure ?_
 have I4:Inv X pins σ H3 { s3 with heap:=s3.heap.push { cls:=.type "slice",data:=.fields #[vl,vu,.none] } }:=I3.kept (t':=s3.toks) fun b ob q=>Heap.get?_push_of_some _ q
 obtain ⟨T,id,hT,ht,hg⟩:=hr pins { s3 with heap:=s3.heap.push { cls:=.type "slice",data:=.fields #[vl,vu,.none] } } σ H3 x v vl vu l u s3.heap.objs.size Q I4 r1 (Heap.IsSliceOf.new ..) pl pu q3
 show wpAny (model X.prog X.w) X.A (subscriptTail e (.Slice lo hi none p2) v (.ref s3.heap.objs.size)) (EP X pins σ Q) X.xe { s3 with heap:=s3.heap.push { cls:=.type "slice",data:=.fields #[vl,vu,.none] } }
 exact tail_any (ops:=[.ref s3.heap.objs.size,v]) ht hT hg (by with_unfolding_all rfl)
noncomputable def qR (xs:List V) (lo hi:Option Int):List V:=(xs.drop (HT.sIx xs.length 0 lo)).take (HT.sIx xs.length xs.length hi - HT.sIx xs.length 0 lo)
theorem TC (xs:List V) (lo hi:Option Int):(qR xs lo hi).length<=xs.length:=by
 unfold qR
 rw [List.length_take,List.length_drop]
 omega
noncomputable def JS (K:PySem.W.Frag):V->Option Int->Option Int->Hp->VK->Prop:=fun x lo hi H Q=>∃ a xs,x=.ref a/\yx K H a xs/\
 ¬ (HT.sIx xs.length 0 lo=0/\HT.sIx xs.length xs.length hi=xs.length)/\∀ p,H p=none->Q (.ref p) (zu H p (.tup (qR xs lo hi)))
theorem Co:uh X (JS X.K):=by
 intro pins s σ H x v vl vu lo hi sl Q I rx hs pl pu h
 obtain ⟨a,xs,rfl,hx,hw,q⟩:=h
 cases rx
 obtain ⟨its,r,ht,hz⟩:=I.tuple hx
 have hlen:its.toArray.size=xs.length:=by rw [List.size_toArray]; exact r.length.symm
 refine ⟨"tuple",_,PyProof.Rows.slot_tuple_getitem.lookup,ht.typeIs,?_⟩
 refine HT.getItem_tuple_cut ht hs pl pu (by rw [hlen]; exact hw) ?_ (by rw [hlen]; exact hz)
 rw [hlen]
 refine ⟨.ref s.heap.objs.size,_,I.laid (t':=s.toks) (o:=.tup (qR xs lo hi)) (fun b ob q=>Heap.get?_push_of_some _ q) (Nat.le_refl _) ?_,rfl,q _ (I.hok.fresh (Nat.le_refl _))⟩
 exact ⟨Nat.le_trans (TC xs lo hi) hz,_,(r.drop (HT.sIx xs.length 0 lo)).take (HT.sIx xs.length xs.length hi - HT.sIx xs.length 0 lo),IsTup.new _ _⟩
noncomputable def JK (K:PySem.W.Frag):R2:=fun x y H Q=>∃ a b xs ys,x=.ref a/\y=.ref b/\yx K H a xs/\yx K H b ys/\xs≠[]/\xs.length+ys.length<=sizeLine/\
 (ys=[]->Q (.ref a) H)/\(ys≠[]->∀ p,H p=none->Q (.ref p) (zu H p (.tup (xs++ys))))
theorem zj.nil_iff {xs:List V} {us:List Value} (r:zj xs us):us=[]↔xs=[]:=by
 cases r with
 | nil=>simp
 | cons _ _=>simp
theorem D7:yS X (binaryOp .Add) (JK X.K):=by
 intro pins s σ H x y v u Q I rx ry h
 obtain ⟨a,b,xs,ys,rfl,rfl,ha,hb,hx,hz,q1,q2⟩:=h
 cases rx
 cases ry
 obtain ⟨its,r1,p1,_⟩:=I.tuple ha
 obtain ⟨its2,r2,p2,_⟩:=I.tuple hb
 refine HT.cat_tup p1 p2 (fun z=>hx (r1.nil_iff.mp z)) (fun z=>⟨.ref a,H,I,rfl,q1 (r2.nil_iff.mp z)⟩) (fun z=>?_) (by rw [<- r1.length,<- r2.length]; exact hz)
 refine ⟨.ref s.heap.objs.size,_,I.laid (t':=s.toks) (o:=.tup (xs++ys)) (fun b ob q=>Heap.get?_push_of_some _ q) (Nat.le_refl _) ?_,rfl,q2 (fun w=>z (r2.nil_iff.mpr w)) _ (I.hok.fresh (Nat.le_refl _))⟩
 exact ⟨by rw [List.length_append]; exact hz,_,r1.append r2,IsTup.new _ _⟩
end
end L2
namespace L2
open PySem PySem.Spec PyProof.Rows
noncomputable def ixN (n:Nat) (i:Int):Option Nat:=if 0<=i then (if i<n then some i.toNat else none) else if -(n:Int)<=i then some (i+n).toNat else none
noncomputable def vg {α:Type} (xs:List α) (i:Int):Option α:=(ixN xs.length i).bind fun j=>xs[j]?
theorem QI {n:Nat} {i:Int} {j:Nat} (h:ixN n i=some j):seqIndex? i n=some j/\j<n /\ -(n:Int)<=i/\i<n:=by
 unfold ixN at h
 by_cases h0:0<=i
 ·rw [if_pos h0] at h
  by_cases h1:i<n
  ·rw [if_pos h1] at h
   have e:i.toNat=j:=Option.some.inj h
   exact ⟨by rw [seqIndex_of h0 h1,e],by omega,by omega,h1⟩
  ·rw [if_neg h1] at h; cases h
 ·rw [if_neg h0] at h
  by_cases h1 : -(n:Int)<=i
  ·rw [if_pos h1] at h
   have e:(i+n).toNat=j:=Option.some.inj h
   exact ⟨by rw [seqIndex_neg (by omega) h1,e],by omega,h1,by omega⟩
  ·rw [if_neg h1] at h; cases h
theorem Xy {α:Type} {xs:List α} {i:Int} {v:α} (h:vg xs i=some v):∃ j,seqIndex? i xs.length=some j/\xs[j]?=some v/\j<xs.length /\ -(xs.length:Int)<=i/\i<xs.length:=by
 unfold vg at h
 cases e:ixN xs.length i with
 | none=>rw [e] at h; cases h
 | some j=>
  rw [e] at h
  obtain ⟨h1,h2,h3,h4⟩:=QI e
  exact ⟨j,h1,h,h2,h3,h4⟩
noncomputable def UZ (b:Expr):Prop:=∀ o i,subscripted b false o i=operate [o,i] (getItem o i)
noncomputable def vf (X:Cx) (r:R2):Prop:=
 ∀ (value slice:Expr) (pins:List (Addr×Obj)) (s:Shared) (σ:St) (H:Hp) (x y:V) (v u:Value) (Q:VK),Inv X pins σ H s->zi x v->zi y u->r x y H Q->
  subscripted slice false v u=operate [v,u] (getItem v u)->wpAny (model X.prog X.w) X.A (subscriptTail value slice v u) (EP X pins σ Q) X.xe s
noncomputable def qJ (X:Cx) (id:String) (r:V->List V->Hp->VK->Prop):Prop:=
 ∀ (pins:List (Addr×Obj)) (s:Shared) (σ:St) (H:Hp) (x:V) (xs:List V) (v:Value) (us:List Value) (Q:VK),Inv X pins σ H s->zi x v->zj xs us->r x xs H Q->
  wpAny (model X.prog X.w) X.A (call (.builtin id) (v::us)) (EP X pins σ Q) X.xe s
section
variable {X:Cx} {a b:Expr} {ta tb:TE} {pos:Pos}
theorem vf.or {r r':R2} (h:vf X r) (h':vf X r'):vf X (fun x y H Q=>r x y H Q\/r' x y H Q):=by
 intro value slice pins s σ H x y v u Q I rx ry q hs
 rcases q with q | q
 ·exact h value slice pins s σ H x y v u Q I rx ry q hs
 ·exact h' value slice pins s σ H x y v u Q I rx ry q hs
theorem Qw {r:R2} (hr:vf X r) (ha:PE X a ta) (hb:PE X b tb) (hs:UZ b):PE X (.Subscript a b pos) (Yx r ta tb):=by
 intro pins s σ H Q I h
 exact Subscript_ (WL ha hb I h fun v u s2 x y H2 I2 rx ry q=>hr a b pins s2 σ H2 x y v u Q I2 rx ry q (hs _ _))
noncomputable def JN (K:PySem.W.Frag):R2:=fun x y H Q=>∃ p xs i v,x=.ref p/\y=.int i/\yU K H p xs/\vg xs i=some v/\Q v H
noncomputable def JP (K:PySem.W.Frag):R2:=fun x y H Q=>∃ p xs i v,x=.ref p/\y=.int i/\yx K H p xs/\vg xs i=some v/\Q v H
noncomputable def JO:R2:=fun x y H Q=>∃ z i c,x=.str z/\y=.int i/\z.length<=sizeLine/\vg z.cps.toList i=some c/\Q (.str ⟨#[c]⟩) H
theorem MP:vf X (JN X.K):=by
 intro value slice pins s σ H x y v u Q I rx ry h hs
 obtain ⟨p,xs,i,z,rfl,rfl,hq,he,q⟩:=h
 cases rx
 obtain ⟨t,rfl⟩:=ry
 obtain ⟨its,r,pl,hz⟩:=I.list hq
 obtain ⟨j,h1,h2,h3,h4,h5⟩:=Xy he
 obtain ⟨w,ew,rw'⟩:=r.get h2
 have hl:=r.length
 have hn:=pN
 have fin:EP X pins σ Q w s:=⟨z,H,I,rw',q⟩
 by_cases h0:0<=i
 ·have hj:i.toNat=j:=by
   rw [seqIndex_of h0 h5] at h1
   exact Option.some.inj h1
  exact item_listR pl.isList h0 (by omega) (by rw [hj]; simpa using ew) fin hs
 ·have hj:(i+(its.toArray.size:Int)).toNat=j:=by
   rw [seqIndex_neg (by omega) h4] at h1
   rw [List.size_toArray,<- hl]
   exact Option.some.inj h1
  exact subscriptTail_builtinR (x:=w) pl.isList.typeIs slot_list_getitem.lookup
   (wpAny_getItem_list_neg (Q:=fun r s'=>r=w/\EP X pins σ Q r s') pl.isList (by omega) (by rw [List.size_toArray]<;>omega) (by omega) (by rw [hj]; simpa using ew) ⟨rfl,fin⟩) hs
theorem MS:vf X (JP X.K):=by
 intro value slice pins s σ H x y v u Q I rx ry h hs
 obtain ⟨p,xs,i,z,rfl,rfl,hq,he,q⟩:=h
 cases rx
 obtain ⟨t,rfl⟩:=ry
 obtain ⟨its,r,pl,hz⟩:=I.tuple hq
 obtain ⟨j,h1,h2,h3,h4,h5⟩:=Xy he
 obtain ⟨w,ew,rw'⟩:=r.get h2
 have hl:=r.length
 have hn:=pN
 have fin:EP X pins σ Q w s:=⟨z,H,I,rw',q⟩
 exact subscriptTail_builtinR (x:=w) pl.typeIs slot_tuple_getitem.lookup
  (getItem_tuple (j:=j) (Q:=fun r s'=>r=w/\EP X pins σ Q r s') pl (by omega) (by omega) (by rw [List.size_toArray,<- hl]; exact h1) (by simpa using ew) ⟨rfl,fin⟩) hs
theorem MR:vf X JO:=by
 intro value slice pins s σ H x y v u Q I rx ry h hs
 obtain ⟨z,i,c,rfl,rfl,hz,he,q⟩:=h
 obtain ⟨t,rfl⟩:=rx
 obtain ⟨t',rfl⟩:=ry
 obtain ⟨j,h1,h2,h3,h4,h5⟩:=Xy he
 have hl:z.cps.toList.length=z.length:=by simp [Str.length]
 rw [hl] at h1 h4 h5
 have hn:=pN
 exact tail_any (typeIs_str s z t) slot_str_getitem.lookup (getItem_str (c:=c) (by
  have e1:decide (i < -(2 ^ 63:Int))=false:=decide_eq_false (by omega)
  have e2:decide (i ≥ 2 ^ 63)=false:=decide_eq_false (by omega)
  rw [e1,e2,Bool.or_false]) (by rw [h1]; simpa using h2) ⟨.str ⟨#[c]⟩,H,I.tok _,⟨_,rfl⟩,q⟩) hs
noncomputable def VR (K:PySem.W.Frag):R2:=fun x y H Q=>JN K x y H Q\/JP K x y H Q\/JO x y H Q
theorem MQ:vf X (VR X.K):=MP.or (MS.or MR)
theorem Mz (its:List Value) (n j:Nat) (u:Value):Obj.mapSeq (·.setIfInBounds j u) { cls:=.type "list",data:=.seq its.toArray n }={ cls:=.type "list",data:=.seq (its.set j u).toArray n }:=by
 simp [Obj.mapSeq]
theorem Inv.lst {pins:List (Addr×Obj)} {σ:St} {H:Hp} {s:Shared} {p:Addr} {xs:List V} (I:Inv X pins σ H s) (h:H p=some (.lst xs)) :
  ∃ (its:List Value) (n:Nat),zj xs its/\s.heap.get? p=some { cls:=.type "list",data:=.seq its.toArray n }/\xs.length<=sizeLine:=by
 obtain ⟨z,its,n,r,e⟩:=I.hok p _ h
 exact ⟨its,n,r,e,z⟩
theorem Inv.lstUpd {pins:List (Addr×Obj)} {σ:St} {H:Hp} {s:Shared} {p:Addr} {xs ys:List V} {its its':List Value} {n n':Nat} {f:Obj->Obj} (I:Inv X pins σ H s) (h:H p=some (.lst xs))
  (ho:s.heap.get? p=some { cls:=.type "list",data:=.seq its.toArray n }) (hf:f { cls:=.type "list",data:=.seq its.toArray n }={ cls:=.type "list",data:=.seq its'.toArray n' }) (r:zj ys its') (hz:ys.length<=sizeLine) (t:Nat) :
  Inv X pins σ (zu H p (.lst ys)) { s with heap:=s.heap.update p f,toks:=t }:=by
 have e:(s.heap.update p f).get? p=some { cls:=.type "list",data:=.seq its'.toArray n' }:=by
  rw [Heap.get?_update_self f ho (by rw [hf]<;>rfl),hf]
 refine I.write (x:=p) (e:=p) (by rw [h]; trivial) (.inl rfl) (fun b u hb q=>(Heap.get?_update_other _ _ (Ne.symm hb)).trans q) ⟨_,e⟩ ?_
 exact ⟨hz,its',n',r,e⟩
noncomputable def Fu:V->V->V->Hp->(Hp->Prop)->Prop:=fun o i v H Q=>∃ p xs k j,o=.ref p/\i=.int k/\H p=some (.lst xs)/\ixN xs.length k=some j/\Q (zu H p (.lst (xs.set j v)))
theorem Cc:Xt X Fu:=by
 intro pins s σ H o i v ov iv u Q I ro ri rv h
 obtain ⟨p,xs,k,j,rfl,rfl,hp,hj,q⟩:=h
 cases ro
 obtain ⟨t,rfl⟩:=ri
 obtain ⟨its,n,r,ho,hz⟩:=I.lst hp
 obtain ⟨h1,h2,h3,h4⟩:=QI hj
 have hl:=r.length
 have hn:=pN
 have I':Inv X pins σ (zu H p (.lst (xs.set j v))) { s with heap:=s.heap.update p (Obj.mapSeq (·.setIfInBounds j u)) }:=
  I.lstUpd hp ho (Mz its n j u) (r.set rv j) (by rw [List.length_set]; exact hz) s.toks
 by_cases h0:0<=k
 ·have hk:k.toNat=j:=by
   rw [seqIndex_of h0 h4] at h1
   exact Option.some.inj h1
  exact PySem.W.ki_setAt ho h0 (by omega) (by rw [List.size_toArray,<- hl]; exact h4) (by rw [hk]; exact ⟨_,I',q⟩)
 ·have hk:(k+(its.toArray.size:Int)).toNat=j:=by
   rw [seqIndex_neg (by omega) h3] at h1
   rw [List.size_toArray,<- hl]
   exact Option.some.inj h1
  exact PySem.W.ki_setBack ho (by omega) (by rw [List.size_toArray,<- hl]; exact h3) (by omega) (by rw [hk]; exact ⟨_,I',q⟩)
theorem Cr (lo hi:Option Int) (n:Nat):(sliceBounds lo hi none n).1=((HT.sIx n 0 lo:Nat):Int)/\(sliceBounds lo hi none n).2.1=((HT.sIx n n hi:Nat):Int)/\(sliceBounds lo hi none n).2.2=1:=by
 refine ⟨?_,?_,rfl⟩
 ·cases lo with
  | none=>simp [sliceBounds,HT.sIx]
  | some i=>
   simp only [sliceBounds,HT.sIx,Option.getD_none,show (1:Int) > 0 by decide,if_true]
   by_cases h:i<0
   ·simp only [h,if_true]<;>omega
   ·simp only [h,if_false]<;>omega
 ·cases hi with
  | none=>simp [sliceBounds,HT.sIx]
  | some i=>
   simp only [sliceBounds,HT.sIx,Option.getD_none,show (1:Int) > 0 by decide,if_true]
   by_cases h:i<0
   ·simp only [h,if_true]<;>omega
   ·simp only [h,if_false]<;>omega
theorem Cq (its:List Value) (lo hi:Option Int):slicePick its.toArray lo hi none=((its.drop (HT.sIx its.length 0 lo)).take (HT.sIx its.length its.length hi - HT.sIx its.length 0 lo)).toArray:=by
 obtain ⟨h1,h2,h3⟩:=Cr lo hi its.toArray.size
 unfold slicePick
 rw [h1,h2,h3]
 simp only [sliceRange_one,pick_run,List.size_toArray]<;>rfl
noncomputable def JQ (K:PySem.W.Frag):V->Option Int->Option Int->Hp->VK->Prop:=fun x lo hi H Q=>∃ a xs,x=.ref a/\yU K H a xs/\∀ p,H p=none->Q (.ref p) (zu H p (.lst (qR xs lo hi)))
theorem Cm:uh X (JQ X.K):=by
 intro pins s σ H x v vl vu lo hi sl Q I rx hs pl pu h
 obtain ⟨a,xs,rfl,hx,q⟩:=h
 cases rx
 obtain ⟨its,r,ht,hz⟩:=I.list hx
 have hlen:=r.length
 refine ⟨"list",_,slot_list_getitem.lookup,ht.isList.typeIs,?_⟩
 refine wpAny_getItem_list_slice ht.isList hs pl pu .none (by simp) ?_ (by rw [List.size_toArray]<;>omega)
 rw [Cq,<- hlen]
 refine ⟨.ref s.heap.objs.size,_,I.laid (t':=s.toks) (o:=.lst (qR xs lo hi)) (fun b ob q=>Heap.get?_push_of_some _ q) (Nat.le_refl _) ?_,rfl,q _ (I.hok.fresh (Nat.le_refl _))⟩
 exact ⟨Nat.le_trans (TC xs lo hi) hz,_,0,(r.drop (HT.sIx xs.length 0 lo)).take (HT.sIx xs.length xs.length hi - HT.sIx xs.length 0 lo),Heap.get?_push_size _ rfl⟩
noncomputable def vQ:V->Bool
 | .non=>true
 | .bl _=>true
 | .int _=>true
 | .str _=>true
 | _=>false
noncomputable def we:V->V->Bool
 | .non,.non=>true
 | .bl a,.bl b=>a == b
 | .bl a,.int b=>(if a then 1 else 0) == b
 | .int a,.bl b=>a == (if b then 1 else 0)
 | .int a,.int b=>a == b
 | .str a,.str b=>a == b
 | _,_=>false
theorem Tc {A:Around} {s:Shared} {y x:V} {u v:Value} (ry:zi y u) (rx:zi x v) (fy:vQ y=true) (fx:vQ x=true):SeqAt.EqAt A s u v (we y x):=by
 cases y with
 | non=>
  cases ry
  cases x with
  | non=>cases rx; exact SeqAt.EqAt.same _
  | bl b=>cases rx; exact SeqAt.EqAt.none_bool b
  | int b=>obtain ⟨t,rfl⟩:=rx; exact SeqAt.EqAt.none_int b t
  | str b=>obtain ⟨t,rfl⟩:=rx; exact SeqAt.EqAt.none_str b t
  | _=>exact absurd (show false=true from fx) Bool.false_ne_true
 | bl a=>
  cases ry
  cases x with
  | non=>cases rx; exact SeqAt.EqAt.bool_none a
  | bl b=>cases rx; exact SeqAt.EqAt.bool_bool a b
  | int b=>obtain ⟨t,rfl⟩:=rx; exact SeqAt.EqAt.bool_int a b t
  | str b=>obtain ⟨t,rfl⟩:=rx; exact SeqAt.EqAt.bool_str a b t
  | _=>exact absurd (show false=true from fx) Bool.false_ne_true
 | int a=>
  obtain ⟨t',rfl⟩:=ry
  cases x with
  | non=>cases rx; exact SeqAt.EqAt.int_none a t'
  | bl b=>cases rx; exact SeqAt.EqAt.int_bool a t' b
  | int b=>obtain ⟨t,rfl⟩:=rx; exact SeqAt.EqAt.int_int a t' b t
  | str b=>obtain ⟨t,rfl⟩:=rx; exact SeqAt.EqAt.int_str a t' b t
  | _=>exact absurd (show false=true from fx) Bool.false_ne_true
 | str a=>
  obtain ⟨t',rfl⟩:=ry
  cases x with
  | non=>cases rx; exact SeqAt.EqAt.str_none a t'
  | bl b=>cases rx; exact SeqAt.EqAt.str_bool a t' b
  | int b=>obtain ⟨t,rfl⟩:=rx; exact SeqAt.EqAt.str_int a t' b t
  | str b=>obtain ⟨t,rfl⟩:=rx; exact SeqAt.EqAt.str_str a t' b t
  | _=>exact absurd (show false=true from fx) Bool.false_ne_true
 | _=>exact absurd (show false=true from fy) Bool.false_ne_true
noncomputable def wN (x:V) (u:Value):Bool:=match u with
 | .none=>we .non x
 | .bool b=>we (.bl b) x
 | .int i _=>we (.int i) x
 | .str z _=>we (.str z) x
 | _=>false
theorem WY {x y:V} {u:Value} (r:zi y u) (f:vQ y=true):wN x u=we y x:=by
 cases y with
 | non=>cases r; rfl
 | bl b=>cases r; rfl
 | int i=>obtain ⟨t,rfl⟩:=r; rfl
 | str z=>obtain ⟨t,rfl⟩:=r; rfl
 | _=>exact absurd (show false=true from f) Bool.false_ne_true
theorem gS {x:V}:∀ {xs:List V} {us:List Value},zj xs us->xs.all vQ=true->us.any (wN x)=xs.any fun y=>we y x
 | _,_,.nil,_=>rfl
 | y::xs,u::us,.cons r t,f=>by
  rw [List.all_cons,Bool.and_eq_true] at f
  rw [List.any_cons,List.any_cons,WY r f.1,gS t f.2]
theorem jg {A:Around} {s:Shared} {x:V} {v:Value} (rx:zi x v) (fx:vQ x=true):∀ {xs:List V} {us:List Value},zj xs us->xs.all vQ=true->∀ u∈us,SeqAt.EqAt A s u v (wN x u)
 | _,_,.nil,_=>fun u hu=>by cases hu
 | y::xs,u::us,.cons r t,f=>fun u' hu=>by
  rw [List.all_cons,Bool.and_eq_true] at f
  rcases List.mem_cons.mp hu with rfl | hu
  ·rw [WY r f.1]; exact Tc r rx f.1 fx
  ·exact jg rx fx t f.2 u' hu
noncomputable def Y7 (x:V) (xs:List V):Bool:=xs.any fun y=>we y x
noncomputable def VP (K:PySem.W.Frag) (neg:Bool):R2:=fun x y H Q=>∃ p xs,y=.ref p/\(yU K H p xs\/yx K H p xs)/\vQ x=true/\xs.all vQ=true/\Q (.bl (if neg then !Y7 x xs else Y7 x xs)) H
theorem DA:yS X (compareOp .In) (VP X.K false):=by
 intro pins s σ H x y v u Q I rx ry h
 obtain ⟨p,xs,rfl,hq,fx,fs,q⟩:=h
 cases ry
 rcases hq with hq | hq
 ·obtain ⟨its,r,pl,hz⟩:=I.list hq
  refine SeqAt.in_listAt (wN x) pl.isList (fun w hw=>jg rx fx r fs w (by simpa using hw)) ⟨.bl _,H,I,rfl,?_⟩
  rw [show its.toArray.any (wN x)=its.any (wN x) by simp,gS r fs]
  exact q
 ·obtain ⟨its,r,pl,hz⟩:=I.tuple hq
  refine SeqAt.in_tupleAt (wN x) pl (fun w hw=>jg rx fx r fs w (by simpa using hw)) ⟨.bl _,H,I,rfl,?_⟩
  rw [show its.toArray.any (wN x)=its.any (wN x) by simp,gS r fs]
  exact q
theorem DF:yS X (compareOp .NotIn) (VP X.K true):=by
 intro pins s σ H x y v u Q I rx ry h
 obtain ⟨p,xs,rfl,hq,fx,fs,q⟩:=h
 cases ry
 rcases hq with hq | hq
 ·obtain ⟨its,r,pl,hz⟩:=I.list hq
  refine SeqAt.notIn_listAt (wN x) pl.isList (fun w hw=>jg rx fx r fs w (by simpa using hw)) ⟨.bl _,H,I,rfl,?_⟩
  rw [show its.toArray.any (wN x)=its.any (wN x) by simp,gS r fs]
  exact q
 ·obtain ⟨its,r,pl,hz⟩:=I.tuple hq
  refine SeqAt.notIn_tupleAt (wN x) pl (fun w hw=>jg rx fx r fs w (by simpa using hw)) ⟨.bl _,H,I,rfl,?_⟩
  rw [show its.toArray.any (wN x)=its.any (wN x) by simp,gS r fs]
  exact q
theorem DG:yS X (compareOp .NotIn) (fun x y H Q=>∃ i j,x=.str i/\y=.str j/\Q (.bl (!(!(Builtin.Str.occurrences j i 0 j.length 1).isEmpty))) H):=by
 intro pins s σ H x y v u Q I rx ry h
 obtain ⟨i,j,rfl,rfl,q⟩:=h
 obtain ⟨t,rfl⟩:=rx
 obtain ⟨t',rfl⟩:=ry
 exact notIn_str ⟨.bl _,H,I,rfl,q⟩
theorem Og:xn X (.builtin "len") (fun xs H Q=>∃ p ys,xs=[.ref p]/\(yU X.K H p ys\/yx X.K H p ys)/\Q (.int ys.length) H):=by
 intro pins s σ H xs us Q I r h
 obtain ⟨p,ys,rfl,hq,q⟩:=h
 obtain ⟨u,rfl,rx⟩:=vd r
 cases rx
 have hn:=pN
 rcases hq with hq | hq
 ·obtain ⟨its,r',pl,hz⟩:=I.list hq
  have hlen:=r'.length
  exact Calls.call_len_list pl.isList (by simp only [List.size_toArray]<;>omega) ⟨.int ys.length,H,I.tok _,⟨s.toks+1,by rw [List.size_toArray,hlen]⟩,q⟩
 ·obtain ⟨its,r',pl,hz⟩:=I.tuple hq
  have hlen:=r'.length
  exact len_tuple pl (by simp only [List.size_toArray]<;>omega) ⟨.int ys.length,H,I.tok _,⟨s.toks+1,by rw [List.size_toArray,hlen]⟩,q⟩
theorem Oh:xn X (.builtin "len") (fun xs H Q=>∃ z,xs=[.str z]/\z.length<=sizeLine/\Q (.int z.length) H):=by
 intro pins s σ H xs us Q I r h
 obtain ⟨z,rfl,hz,q⟩:=h
 obtain ⟨u,rfl,t,rfl⟩:=vd r
 have hn:=pN
 exact len_str (by omega) ⟨.int z.length,H,I.tok _,⟨_,rfl⟩,q⟩
theorem xn.or {f:Value} {r r':List V->Hp->VK->Prop} (h:xn X f r) (h':xn X f r'):xn X f (fun xs H Q=>r xs H Q\/r' xs H Q):=by
 intro pins s σ H xs us Q I rs q
 rcases q with q | q
 ·exact h pins s σ H xs us Q I rs q
 ·exact h' pins s σ H xs us Q I rs q
noncomputable def Ik (K:PySem.W.Frag) (T:String) (x:V) (H:Hp):Prop:=match x with
 | .str _=>T = "str"
 | .int _=>T = "int"
 | .ref p=>(T = "list" /\ ∃ xs,yU K H p xs)\/(T = "tuple" /\ ∃ o,K.lookup p=some o/\o.cls=.type "tuple" /\ o.dict=none) \/
   (T = "dict" /\ ((∃ kvs,H p=some (.dK kvs))\/∃ kvs,H p=some (.dT kvs)))\/(T = "set" /\ ∃ S n,H p=some (.set S n))
 | _=>False
theorem El {pins:List (Addr×Obj)} {σ:St} {H:Hp} {s:Shared} {T:String} {x:V} {v:Value} (I:Inv X pins σ H s) (r:zi x v) (ty:Ik X.K T x H) :
  s.TypeIs v T/\∀ a,v=.ref a->∃ ob,s.heap.get? a=some ob/\ob.dict=none:=by
 cases x with
 | str z=>
  obtain ⟨t,rfl⟩:=r
  cases (show T = "str" from ty)
  exact ⟨typeIs_str s z t,fun _ e=>nomatch e⟩
 | int i=>
  obtain ⟨t,rfl⟩:=r
  cases (show T = "int" from ty)
  exact ⟨typeIs_int s i t,fun _ e=>nomatch e⟩
 | ref p=>
  cases r
  rcases ty with ⟨rfl,xs,hq⟩ | ⟨rfl,o,hk,hc,hd⟩ | ⟨rfl,hk⟩ | ⟨rfl,S,n,hk⟩
  ·obtain ⟨its,_,pl,_⟩:=I.list hq
   refine ⟨pl.isList.typeIs,fun a e=>?_⟩
   cases e
   obtain ⟨o,n,e,c,hd,_⟩:=pl
   exact ⟨o,e,hd⟩
  ·refine ⟨⟨o,I.kIn p o hk,hc⟩,fun a e=>?_⟩
   cases e
   exact ⟨o,I.kIn _ o hk,hd⟩
  ·have z:∃ o,s.heap.get? p=some o/\o.ExactDict:=by
    rcases hk with ⟨kvs,hk⟩ | ⟨kvs,hk⟩
    ·obtain ⟨_,_,_,_,o,_,_,e,ex,_⟩:=I.hok p _ hk
     exact ⟨o,e,ex⟩
    ·obtain ⟨_,_,_,_,o,_,_,e,ex,_⟩:=I.hok p _ hk
     exact ⟨o,e,ex⟩
   obtain ⟨o,e,ex⟩:=z
   refine ⟨⟨o,e,ex.1⟩,fun a e2=>?_⟩
   cases e2
   exact ⟨o,e,ex.2.1⟩
  ·obtain ⟨o,_,_,_,e,ex,_⟩:=I.hok p _ hk
   refine ⟨⟨o,e,ex.1⟩,fun a e2=>?_⟩
   cases e2
   exact ⟨o,e,ex.2.1⟩
 | _=>exact False.elim ty
noncomputable def IW (K:PySem.W.Frag) (T:String) (r:V->List V->Hp->VK->Prop) (to:TE) (t:TA):TE:=fun σ H Q=>to σ H fun x H1=>Ik K T x H1/\t σ H1 fun xs H2=>r x xs H2 Q
variable {o e:Expr} {es:List Expr} {to:TE} {t:TA} {name:Str} {apos cpos:Pos} {T id:String} {r:V->List V->Hp->VK->Prop}
theorem DS (pa:PlainAttrs T) (slot:Slot T name id) (hty:typeOf (.builtin id)=pure (.type "method_descriptor")) (hm:qJ X id r) (ho:PE X o to) (ha:PA X (e::es) t)
  (hbase:attributeBase o name X.env (eval o X.env)=eval o X.env:=by rfl)
  (hfew:((backTo cpos (starEach (e::es) X.env)).all (fun x=>!x.1)&&(backToKw cpos (keywordEach [] X.env)).all (fun x=>x.1.isSome)
   && decide ((e::es).length+([]:List Keyword).length+(if ([]:List Keyword).isEmpty then 0 else 1)<30))=true:=by rfl)
  (hline:(apos.endLine == cpos.line)=true:=by rfl) (hs:starEach (e::es) X.env=(false,eval e X.env)::starEach es X.env:=by rfl) (hplain:(backTo cpos (starEach es X.env)).any (·.1)=false:=by rfl) :
  PE X (.Call (.Attribute o name apos) (e::es) [] cpos) (IW X.K T r to t):=by
 intro pins s σ H Q I h
 refine wpAny_Call_method_late hbase hfew hline rfl (zf (ho pins s σ H _ I h) fun v s1 ⟨x,H1,I1,r1,ty,q1⟩=>?_)
 obtain ⟨h1,h2⟩:=El I1 r1 ty
 refine ⟨T,id,pa,slot,hty,h1,h2,?_⟩
 have hA:=ha cpos pins s1 σ H1 _ I1 q1
 rw [hs] at hA ⊢
 refine Calls.callWith_builtin (by show (false||(backTo cpos (starEach es X.env)).any (·.1))=false; rw [hplain]<;>rfl) (Calls.evalArgs_plain ?_)
 exact zf hA fun us s2 ⟨vs,H2,I2,r2,q2⟩=>hm pins s2 σ H2 x vs v us Q I2 r1 r2 q2
end
end L2
namespace L2
open PySem PySem.Spec PyProof.Rows
noncomputable def O5 (X:Cx) (id:String) (r:V->List V->Hp->VK->Prop):Prop:=
 ∀ (pins:List (Addr×Obj)) (s:Shared) (σ:St) (H:Hp) (x:V) (xs:List V) (v:Value) (us:List Value) (Q:VK),Inv X pins σ H s->zi x v->zj xs us->r x xs H Q->
  wpAny (model X.prog X.w) X.A (call (.builtin id) (v::us)) (EP X pins σ Q) X.xe s
theorem zj.one:∀ {x:V} {us:List Value},zj [x] us->∃ u,us=[u]/\zi x u
 | _,_,.cons r .nil=>⟨_,rfl,r⟩
section
variable {X:Cx} {pins:List (Addr×Obj)} {σ:St} {H:Hp} {s:Shared} {l b:Addr} {xs ys zs:List V}
theorem Inv.lset {its its':List Value} {n:Nat} {f:Array Value->Array Value} {t':Nat} (I:Inv X pins σ H s) (hH:H l=some (.lst xs))
  (e:s.heap.get? l=some { cls:=.type "list",data:=.seq its.toArray n }) (hf:f its.toArray=its'.toArray) (hv:zj ys its') (hz:ys.length<=sizeLine) :
  Inv X pins σ (zu H l (.lst ys)) { s with heap:=s.heap.update l (Obj.mapSeq f),toks:=t' }:=by
 have q:=PySem.IsL.update e f
 rw [hf] at q
 refine I.write (x:=l) (e:=l) (by rw [hH]; exact trivial) (.inl rfl) (fun b' u hb hu=>(Heap.get?_update_other s.heap (Obj.mapSeq f) (Ne.symm hb)).trans hu) ⟨_,q⟩ ?_
 exact ⟨hz,its',_,hv,q⟩
theorem Inv.lnew {its:List Value} {t':Nat} (I:Inv X pins σ H s) (hv:zj ys its) (hz:ys.length<=sizeLine) :
  Inv X pins σ (zu H s.heap.objs.size (.lst ys)) { s with heap:=s.heap.push { cls:=.type "list",data:=.seq its.toArray },toks:=t' }:=
 I.laid (fun _ _ q=>Heap.get?_push_of_some _ q) (Nat.le_refl _) ⟨hz,its,0,hv,Heap.get?_push_size _ rfl⟩
theorem Inv.fresh (I:Inv X pins σ H s):H s.heap.objs.size=none:=I.hok.fresh (Nat.le_refl _)
theorem Inv.lstM (I:Inv X pins σ H s) (hH:H l=some (.lst xs)):xs.length<=sizeLine/\∃ (its:List Value) (n:Nat),zj xs its/\xs.length=its.length/\s.heap.get? l=some { cls:=.type "list",data:=.seq its.toArray n }:=by
 obtain ⟨z,its,n,r,e⟩:=I.hok l _ hH
 exact ⟨z,its,n,r,r.length,e⟩
end
section
variable {X:Cx}
noncomputable def Fp:V->List V->Hp->VK->Prop:=fun x vs H Q=>∃ l xs y,x=.ref l/\vs=[y]/\H l=some (.lst xs)/\xs.length<sizeLine/\Q .non (zu H l (.lst (xs++[y])))
theorem Qe:O5 X "list.append" Fp:=by
 intro pins s σ H x vs v us Q I rx rv h
 obtain ⟨l,xs,y,rfl,rfl,hH,hz,q⟩:=h
 cases rx
 obtain ⟨u,rfl,ru⟩:=rv.one
 obtain ⟨z,its,n,r,hl,e⟩:=I.lstM hH
 refine call_meets F.slot_list_append ⟨_,e,rfl⟩ F.entry_list_append (F.args_list_append_2 _ _) (PySem.list_append l its.toArray n u (by rw [List.size_toArray]; omega)) ⟨e,?_⟩
 refine ⟨.non,_,I.lset (its':=its++[u]) hH e (by simp) (r.append (.cons ru .nil)) ?_,rfl,q⟩
 rw [List.length_append,List.length_singleton]
 omega
end
end L2
namespace Att
open PySem PySem.W PySem.Calls PyProof.Rows
theorem MG {P:Params} {h:Heap}:∀ (ns:List Int) (vs:List Value),WellAll P h vs (ns.map WData.int)->IntsAre vs ns:=by
 intro ns
 induction ns with
 | nil=>
  intro vs w
  rw [List.map_nil] at w
  cases w
  exact .nil
 | cons n ns ih=>
  intro vs w
  rw [List.map_cons] at w
  cases w with
  | cons a b=>
   cases a
   exact .cons _ _ (ih _ b)
theorem script_of {l:OpenLaw} {n:Nat} (hn:l.most=some n) {P:Params} {h:Heap} {args:List WData} {vals:List Value}
  (hpre:l.row.toRowW.claim.pre args=true) (hwl:WellAll P h vals args) :
  ∃ a vs ns,vals=[Value.ref a]/\args=[WData.list (ns.map WData.int)]/\h.get? a=some { cls:=.type "list",data:=.seq vs.toArray }/\IntsAre vs ns/\ns.length<=n:=by
 have hsh:WShape.hasAll [] args [.list .int]=true:=(pre_splitW hpre).1
 have hc:l.pre.holds [] { args:=args }=true:=(pre_splitW hpre).2
 obtain ⟨d,r,rfl,h1,h2⟩:=hasAllW_cons hsh
 obtain rfl:=hasAllW_nil h2
 obtain ⟨xs,rfl,h3⟩:=hasW_list h1
 obtain ⟨ns,rfl⟩:=items_int h3
 have hlen:ns.length<=n:=by
  unfold OpenLaw.pre at hc
  have h4:(WTm.not (.lt (.lit (.int (n:Int))) (.len (.arg 0)))).holds [] { args:=[.list (ns.map .int)] }=true:=by
   have h4:=(holds_andW hc).1
   rw [hn] at h4
   exact h4
  have h5:=condW_of h4 (w_not (w_lt w_lit (w_len_list (w_arg rfl))))
  rw [List.length_map] at h5
  refine Nat.le_of_not_lt fun q=>?_
  have q':(n:Int)<((ns.length:Nat):Int):=by omega
  first
   | (rw [decide_eq_true q'] at h5; exact absurd h5 (by decide))
   | (simp at h5; omega)
 cases hwl with
 | cons w1 w2=>
  cases w2
  cases w1 with
  | list ho hall=>exact ⟨_,_,ns,rfl,rfl,ho,MG ns _ hall,hlen⟩
theorem post_true (l:OpenLaw) (args:List WData):l.row.toRowW.claim.post args (.bool true) args=true:=
 postW_of (r:=l.row.toRowW) (X:=(true == true))
  (show WShape.has [] (.bool true) .bool=true by first | rfl | decide | simp [WShape.has,WShape.arms,WShape.armsAll])
  (show (WTm.eq .res (.lit (.bool true))).value [] { args:=args,res:=some (.bool true),after:=args }=some (.bool (true == true)) from w_eq_bool (w_res rfl) w_lit) rfl
end Att
namespace L2
open PySem PySem.Spec PyProof.Rows
theorem Iu:∀ {vs:List Value} {ns:List Int},IntsAre vs ns->zj (ns.map V.int) vs
 | _,_,.nil=>.nil
 | _,_,.cons n t h=>.cons ⟨t,rfl⟩ (Iu h)
noncomputable def UY (H:Hp):Prop:=∀ b,H b=none\/∃ o xs,H b=some (.frz o (.lst xs))
theorem Mk {P:Program} {w:World} {K:PySem.W.Frag} {mg mb:Str->Option Value} {CX:ua} {k:Nat} {fa a:Addr} {fd:FuncData} {x:Str} {sp:Sp} {s₁:Shared} {vs:List Value} {ns:List Int}
  (KX:K.In s₁.heap) (hns:s₁.heap.Ns mainGlobals mg) (hb:s₁.heap.Ns builtinsNs mb) (hbb:∀ x:Str,x ≠ "__name__" -> mb x=bootBuiltins x) (hlim:s₁.heap.NoLimit) (hg:s₁.gens=#[])
  (ha:s₁.heap.get? a=some { cls:=.type "list",data:=.seq vs.toArray }) (hi:IntsAre vs ns) (hl:ns.length<=sizeLine) (hr:yg k callerA)
  (F:∀ base:Heap,K.In base->base.Ns mainGlobals mg->wv P w K mg base CX k fa fd [x] sp) (hbind:∀ (s:Shared) (u:Value),BindsTo s fd ⟨[u],[]⟩ [(x,u)])
  (hsp:∀ H:Hp,UY H->yU K H a (ns.map V.int)->sp [.ref a] H (fun v _=>v=.bl true) fun _ _ _=>False)
  (hCX:∀ H e s',CX [] H s₁ (fun _ _ _=>False) e s'->False) :
  codeAny (model P w) callerA (.call (.ref fa) ⟨[.ref a],[]⟩) (fun r s'=>r=.ok (.ret (.bool true))/\OldK s₁.heap s'.heap/\s'.os=s₁.os/\AllBare s'.gens) s₁:=by
 have rv:=Iu hi
 have lenV:=hi.length
 have core:∀ H:Hp,UY H->yU K H a (ns.map V.int)->yo P w H s₁.heap->(∀ b,H b≠none->b=a)->(H a≠none->K.lookup a=none)->
   codeAny (model P w) callerA (.call (.ref fa) ⟨[.ref a],[]⟩) (fun r s'=>r=.ok (.ret (.bool true))/\OldK s₁.heap s'.heap/\s'.os=s₁.os/\AllBare s'.gens) s₁:=by
  intro H hO hS hok hA hK
  have base_of:∀ {b:Addr} {o:Obj},s₁.heap.get? b=some o->H b=none->(tT s₁.heap H).get? b=some o:=fun e n=>M4 e n
  have noA:∀ {b:Addr} {o:Obj} {es:Array DictEntry} {ep:Nat},s₁.heap.get? b=some o->o.data=.dict es ep->H b=none:=fun {b o es ep} e d=>by
   cases q:H b with
   | none=>rfl
   | some u=>
    have e':b=a:=hA b (by rw [q]; simp)
    subst e'
    rw [ha] at e; cases e
    have d':Data.seq vs.toArray _=Data.dict es ep:=d
    cases d'
  have nsK:∀ {b:Addr} {m:Str->Option Value},s₁.heap.Ns b m->(tT s₁.heap H).Ns b m:=fun {b m} ⟨o,es,ep,e,d,r⟩=>⟨o,es,ep,base_of e (noA e d),d,r⟩
  have hKb:K.In (tT s₁.heap H):=fun b o e=>base_of (KX b o e) (by
   cases q:H b with
   | none=>rfl
   | some u=>
    have e':b=a:=hA b (by rw [q]; simp)
    subst e'
    rw [hK (by rw [q]; simp)] at e; cases e)
  have hM:Mod K mg (tT s₁.heap H):=⟨hKb,nsK hns,⟨mb,nsK hb,hbb⟩,let ⟨mc,h1,h2⟩:=hlim; ⟨mc,nsK h1,h2⟩⟩
  have e0:ZA P w K mg (tT s₁.heap H) callerA [] s₁ H:=⟨rfl,hM,fun b o e=>BQ e,Nat.le_of_eq (M5 _ _),trivial,fun b hb=>absurd (show b∈([]:List Addr) from hb) (by simp),hok,.of_eq hg⟩
  refine codeAny_mono ((F _ hKb (nsK hns)).run callerA [] s₁ H ⟨[.ref a],[]⟩ [.ref a] [.ref a] _ _ hr e0 (hbind s₁ (.ref a)) (.cons rfl .nil) (hsp H hO hS)) fun r s' h=>?_
  cases r with
  | error e=>exact (hCX H e s' h).elim
  | ok fl=>
   cases fl with
   | next=>exact False.elim h
   | brk=>exact False.elim h
   | cont=>exact False.elim h
   | ret u=>
    obtain ⟨v,H',os,bare,un,hok',r',q⟩:=h
    have q':v=.bl true:=q
    subst q'
    obtain rfl:u=Value.bool true:=r'
    refine ⟨rfl,OldK.of_keep fun b o e=>?_,os,bare⟩
    cases q:H b with
    | none=>exact un.keep b o e q (by intro z; exact absurd (show b∈([]:List Addr) from z) (by simp)) (by simp)
    | some u=>
     rcases hO b with z | ⟨ob,xs,z⟩
     ·rw [q] at z; cases z
     ·have z2:=un.frzs b ob _ z
      obtain ⟨e1,_⟩:=hok b _ z
      obtain ⟨e2,_⟩:=hok' b _ z2
      rw [e] at e1; cases e1
      exact e2
 cases hk:K.lookup a with
 | some o=>
  have e:=KX a o hk
  rw [ha] at e
  cases e
  refine core (fun _=>none) (fun _=>.inl rfl) (.inr ⟨_,vs.toArray,_,hk,rfl,rfl,rfl,by rw [List.size_toArray,lenV]; exact hl,by simpa using rv⟩) (fun b u z=>by have z':(none:Option HO)=some u:=z; cases z') (fun b z=>absurd rfl z) fun z=>absurd rfl z
 | none=>
  refine core (fun b=>if b=a then some (.frz { cls:=.type "list",data:=.seq vs.toArray } (.lst (ns.map V.int))) else none) (fun b=>?_) (.inl (.inr ⟨{ cls:=.type "list",data:=.seq vs.toArray },if_pos rfl⟩)) (fun b u z=>?_) (fun b z=>?_) fun _=>hk
  ·by_cases hb:b=a
   ·exact .inr ⟨_,_,if_pos hb⟩
   ·exact .inl (if_neg hb)
  ·by_cases hb:b=a
   ·have z':=(if_pos hb).symm.trans z
    cases z'
    subst hb
    exact ⟨ha,by rw [List.length_map]; exact hl,vs,_,rv,ha⟩
   ·have z':=(if_neg hb).symm.trans z
    cases z'
  ·by_cases hb:b=a
   ·exact hb
   ·exact absurd (if_neg hb) z
end L2
namespace L2
open PySem PySem.Spec PyProof.Rows
end L2
namespace L2
open PySem PySem.Spec PyProof.Rows
noncomputable def qS (s:Stmt):Arguments:=match s with
 | .FunctionDef _ a _ _ _ _ _ _ _ _=>a
 | _=>{ posonlyargs:=[],args:=[],vararg:=none,kwonlyargs:=[],kw_defaults:=[],kwarg:=none,defaults:=[] }
noncomputable def wU (s:Stmt):List Stmt:=match s with
 | .FunctionDef _ _ b _ _ _ _ _ _ _=>b
 | _=>[]
noncomputable def y9 (s:Stmt):Scope:=match s with
 | .FunctionDef _ _ _ _ _ _ sc _ _ _=>sc
 | _=>{ kind:=.function,names:=[],isGenerator:=false,isCoroutine:=false }
noncomputable abbrev vG:ua:=fun _ _ _ _ _ _=>False
noncomputable abbrev E0:XK:=fun _ _ _=>False
theorem Qs {X:Cx}:qK vG X E0:=fun _ _ _ _ _ _ _ h=>h.elim
structure qH (K:PySem.W.Frag) (x qual:Str) (st:Stmt) (f:Addr) (fd:FuncData):Prop where
 ex:∃ (oc:Value) (od:Option Addr) (kV doc pm:Value) (an:Option Addr) (cdv ct:Value) (osl:Array (Option Value)),
  fd=PySem.W.fnOf x qual (qS st) (wU st) (y9 st) .none kV doc pm an cdv ct/\K.lookup f=some ⟨oc,od,.func fd,osl⟩/\PySem.W.codeIn K cdv qual=true
 kp:PySem.W.keepIn K (.ref f)=true
section
variable {P:Program} {w:World} {K:PySem.W.Frag} {mg:Str->Option Value} {base:Heap}
theorem qH.ok {x qual:Str} {st:Stmt} {f:Addr} {fd:FuncData} {N ps:List Str} {k:Nat} {sp:Sp} (F:qH K x qual st f fd) (S:yc N ps (y9 st)) (len:∀ vs H Q E,sp vs H Q E->vs.length=ps.length)
  (hbody:∀ (cdv:Value) (A:Around) (outer:List Env) (s:Shared) (H:Hp) (vs:List V) (Q:VK) (E:XK),yg k (A.deeper (envOfC qual (y9 st) s.heap.objs.size f cdv))->sp vs H Q E->
   ∃ t,wL (vj vG P w K mg base N qual (y9 st) f cdv A outer s H E).nox (wU st) t/\t { nx:=fun _ H'=>Q .non H',rt:=Q } (start N vs) H):wv P w K mg base vG (k+1) f fd ps sp:=by
 obtain ⟨oc,od,kV,doc,pm,an,cdv,ct,osl,rfl,lk,hcd⟩:=F.ex
 refine Wg lk hcd S len fun A outer s H vs Q E hr hsp=>?_
 obtain ⟨t,h,q⟩:=hbody cdv A outer s H vs Q E hr hsp
 exact ⟨t,h.nox,q⟩
theorem qH.binds {x qual:Str} {st:Stmt} {f:Addr} {fd:FuncData} {ps:List Str} (F:qH K x qual st f fd)
  (h:∀ (kV doc pm:Value) (an:Option Addr) (cdv ct:Value) (us:List Value),us.length=ps.length->bindArgs (PySem.W.fnOf x qual (qS st) (wU st) (y9 st) .none kV doc pm an cdv ct) ⟨us,[]⟩=pure (ps.zip us)):uZ K fd ps []:=by
 obtain ⟨oc,od,kV,doc,pm,an,cdv,ct,osl,rfl,lk,hcd⟩:=F.ex
 exact .all (h kV doc pm an cdv ct)
theorem Tn {x qual:Str} {st:Stmt} {f:Addr} {oc:Value} {od an:Option Addr} {osl:Array (Option Value)} {kV doc pm cdv ct:Value} (l:K.lookup f=some ⟨oc,od,.func (PySem.W.fnOf x qual (qS st) (wU st) (y9 st) .none kV doc pm an cdv ct),osl⟩)
  (c:PySem.W.codeIn K cdv qual=true) (k:PySem.W.keepIn K (.ref f)=true):qH K x qual st f (PySem.W.fnOf x qual (qS st) (wU st) (y9 st) .none kV doc pm an cdv ct):=⟨⟨oc,od,kV,doc,pm,an,cdv,ct,osl,rfl,l,c⟩,k⟩
end
theorem zX {A:Around} {k:Nat} (hr:yg k A):A.units+1<cLine:=Nat.lt_of_le_of_lt (Nat.add_le_add_left (by decide:1<=64) _) hr.units
theorem Cs {n:Nat} (h:n<=1000):n<sizeLine:=Nat.lt_of_le_of_lt h (by decide)
section
variable {X:Cx}
theorem pv (i:Nat) {x:Str} {pos:Pos} (hN:X.N[i]?=some x:=by rfl) (hv:qL X.env.scope x:=by first | exact Or.inl rfl | exact Or.inr (Or.inl rfl) | exact Or.inr (Or.inr rfl)) (hd:(x == ("__debug__" : Str))=false:=by decide)
  (hcd:(x == ("__classdict__" : Str))=false:=by decide):PE X (.Name x pos) (tw i):=kS hN hv hd hcd
end
theorem ur {A B:Prop} (h:B):if false=true then A else B:=by
 rw [if_neg Bool.false_ne_true]
 exact h
theorem ut {A B:Prop} (h:A):if true=true then A else B:=by
 rw [if_pos rfl]
 exact h
noncomputable def yO (H H':Hp):Prop:=∀ b o,H b=some o->H' b=some o
theorem yO.refl (H:Hp):yO H H:=fun _ _ h=>h
theorem yO.trans {H H1 H2:Hp} (a:yO H H1) (b:yO H1 H2):yO H H2:=fun c o h=>b c o (a c o h)
theorem yO.free {H H':Hp} (e:yO H H') {l:Addr} (h:H' l=Option.none):H l=Option.none:=by
 cases q:H l with
 | none=>rfl
 | some o=>
  rw [e l o q] at h
  cases h
end L2
set_option linter.all false
set_option maxRecDepth 100000
set_option maxHeartbeats 4000000
namespace L2
open PySem PySem.Spec PyProof.Rows
noncomputable def Def (K:PySem.W.Frag) (mg:Str->Option Value) (x:Str) (st:Stmt) (ps:List Str):Prop:=
 ∃ (f:Addr) (fd:FuncData),qH K x x st f fd/\mg x=some (.ref f)/\uZ K fd ps []
noncomputable def yt (P:Program) (w:World) (K:PySem.W.Frag) (mg:Str->Option Value) (base:Heap) (x:Str) (ps:List Str) (k:Nat) (sp:Sp):Prop:=
 ∃ (f:Addr) (fd:FuncData),mg x=some (.ref f)/\PySem.W.keepIn K (.ref f)=true/\uZ K fd ps []/\wv P w K mg base vG k f fd ps sp
noncomputable def qI (mg:Str->Option Value) (x:Str) (v:V):Prop:=∃ u,mg x=some u/\zi v u
section
variable {P:Program} {w:World} {K:PySem.W.Frag} {mg:Str->Option Value} {base:Heap}
theorem Def.ok {x:Str} {st:Stmt} {N ps:List Str} {k:Nat} {sp:Sp} (d:Def K mg x st ps) (S:yc N ps (y9 st)) (len:∀ vs H Q E,sp vs H Q E->vs.length=ps.length)
  (hbody:∀ (f:Addr) (cdv:Value) (A:Around) (outer:List Env) (s:Shared) (H:Hp) (vs:List V) (Q:VK) (E:XK),yg k (A.deeper (envOfC x (y9 st) s.heap.objs.size f cdv))->sp vs H Q E->
   ∃ t,wL (vj vG P w K mg base N x (y9 st) f cdv A outer s H E).nox (wU st) t/\t { nx:=fun _ H'=>Q .non H',rt:=Q } (start N vs) H):yt P w K mg base x ps (k+1) sp:=by
 obtain ⟨f,fd,F,hm,hb⟩:=d
 exact ⟨f,fd,hm,F.kp,hb,F.ok S len (hbody f)⟩
end
section
variable {X:Cx} {x:Str} {p pos:Pos} {e:Expr} {es:List Expr} {t:TA} {ps:List Str} {j k:Nat} {sp:Sp} {v:V} {T:String}
noncomputable def yf:Expr->Bool
 | .Starred ..=>false
 | _=>true
theorem wc {e:Expr} {es:List Expr} {env:Env} (h:yf e=true):starEach (e::es) env=(false,eval e env)::starEach es env:=by
 cases e<;>first | rfl | cases h
theorem tG {env:Env} {pos:Pos}:∀ {es:List Expr},es.all yf=true->(backTo pos (starEach es env)).any (·.1)=false
 | [],_=>rfl
 | e::es,h=>by
  rw [List.all_cons,Bool.and_eq_true] at h
  rw [wc h.1]
  have ih:=tG (env:=env) (pos:=pos) h.2
  unfold backTo at ih ⊢
  rw [List.map_cons,List.any_cons,ih]
  rfl
theorem YQ {te:TE} (ha:PE X e te) (hr:PA X es t) (h:yf e=true:=by rfl):PA X (e::es) (UI te t):=DL ha hr (wc h)
noncomputable def ZR:Expr->Option Int
 | .Constant (.int i) _ _=>some i
 | _=>none
theorem OM {e:Expr} {i:Int} (h:ZR e=some i):∃ k p,e=.Constant (.int i) k p:=by
 cases e<;>first | (cases h; done) | skip
 rename_i c k p
 cases c<;>first | (cases h; done) | skip
 cases h
 exact ⟨k,p,rfl⟩
noncomputable def intsOf:List Expr->Option (List Int)
 | []=>some []
 | e::r=>(ZR e).bind fun i=>(intsOf r).map (i::·)
theorem Qq:∀ {es:List Expr} {is:List Int},intsOf es=some is->PA X es (fun _ H Q=>Q (is.map V.int) H)
 | [],is,h=>by
  cases (show some []=some is from h)
  exact YO
 | e::r,is,h=>by
  have q:((ZR e).bind fun i=>(intsOf r).map (i::·))=some is:=h
  cases e1:ZR e with
  | none=>rw [e1] at q; cases q
  | some i=>
   rw [e1] at q
   obtain ⟨k,p,rfl⟩:=OM e1
   cases e2:intsOf r with
   | none=>rw [e2] at q; cases q
   | some js=>
    rw [e2] at q
    cases (show some (i::js)=some is from q)
    exact YQ Qv (Qq e2)
theorem Df (h:yt X.prog X.w X.K X.mg X.base x ps k sp) (hr:yg j X.A) (hg:Gl X x) (ha:PA X (e::es) t) (hk:k<=j:=by decide) (hdb:(x == ("__debug__" : Str))=false:=by decide)
  (he:(e::es).all yf=true:=by rfl):PE X (.Call (.Name x p) (e::es) [] pos) (Yw sp [] E0 t):=by
 obtain ⟨f,fd,hm,kp,b,F⟩:=h
 rw [List.all_cons,Bool.and_eq_true] at he
 exact Qt F (hr.mono hk) hg hm kp b .nil Qs ha hdb (wc he.1) (tG he.2)
theorem Qu (h:qI X.mg x v) (hg:Gl X x) (hd:(x == ("__debug__" : Str))=false:=by decide):PE X (.Name x pos) (tC v):=by
 obtain ⟨u,hm,r⟩:=h
 exact DZ hg hm r hd
theorem DT (hg:Gl X x) (hm:X.mg x=none) (hv:bootBuiltins x=some (.type T)) (hn:x ≠ "__name__" := by decide) (hd:(x == ("__debug__" : Str))=false:=by decide):PE X (.Name x pos) (tC (.ty T)):=
 DR hg hm hv rfl hn hd
end
section
variable {X:Cx}
theorem xM:yS X (binaryOp .FloorDiv) (rI (fun _ j=>0<j/\j<2 ^ 64) fun i j=>.int (i / j)):=YM fun i j _ _ _ _ _ hc q=>by
 have h1:(0:Int)<j:=hc.1
 have h2:j<2 ^ 64:=hc.2
 have h3:j.natAbs.log2<64:=(Nat.log2_lt (by omega)).mpr (by omega)
 exact PyProof.Rows.floordiv_int (by omega) (by rw [Int.fdiv_eq_ediv_of_nonneg i (by omega)]; exact q) (.inl (PyProof.noPylong_of_log2 (by omega)))
end
theorem w8:bootBuiltins "len" = some (.builtin "len"):=by decide +kernel
theorem T3:bootBuiltins "isinstance" = some (.builtin "isinstance"):=by decide +kernel
theorem Oc:bootBuiltins "min" = some (.builtin "min"):=by decide +kernel
theorem Ob:bootBuiltins "max" = some (.builtin "max"):=by decide +kernel
theorem pH:bootBuiltins "int" = some (.type "int"):=by decide +kernel
theorem jS:bootBuiltins "str" = some (.type "str"):=by decide +kernel
theorem wJ {H:Hp} {p:Addr} (h:H p=none) (o:HO):yO H (zu H p o):=fun b u q=>by rw [yn (wm q h)]; exact q
theorem qo {n:Nat} (h:n<=1000):n<=sizeLine:=Nat.le_of_lt (Cs h)
end L2
namespace L2
open PySem PySem.Spec PyProof.Rows
noncomputable def qC (env:Env):List (Str×Addr)->Prop
 | []=>True
 | p::r=>env.cells.lookup p.1=some p.2/\qC env r
theorem qC.get {env:Env}:∀ {cl:List (Str×Addr)} {y:Str} {c:Addr},qC env cl->cl.lookup y=some c->env.cells.lookup y=some c
 | [],_,_,_,h=>by cases h
 | (n,a)::r,y,c,hc,h=>by
  rw [List.lookup_cons] at h
  cases e:y == n with
  | true=>
   rw [e] at h
   have e':y=n:=by simpa using e
   subst e'
   have h':a=c:=by simpa using h
   subst h'
   exact hc.1
  | false=>
   rw [e] at h
   exact qC.get hc.2 (by simpa using h)
noncomputable def jR (scope:Scope) (env:Env) (cl:List (Str×Addr)) (own:List Str):Bool:=
 scope.names.all fun p=>p.1 != ("." : Str)&&((p.2 == .local&&(own.contains p.1||p.1 == (".0" : Str)))||p.2 == .globalImplicit||p.2 == .globalExplicit ||
  (p.2 == .free&&(env.kindOf p.1 == some .cell||env.kindOf p.1 == some .free)&&(cl.lookup p.1).isSome))
noncomputable def kC (own:List Str) (y:Str):Str:=if own.contains y||y == (".0" : Str) then "." else y
noncomputable def um (N own:List Str):List Str:=N.map (kC own)++own
theorem VV {env:Env}:∀ {names:List (Str×NameKind)} {y:Str} {k:NameKind},
  (names.map fun (n,k)=>if (k == NameKind.free&&env.scope.kind == .function&&env.kindOf n == some .cell) then (n,NameKind.cell) else (n,k)).lookup y=some k->∃ k0,(y,k0)∈names/\(k=k0\/(k0=.free/\k=.cell))
 | [],_,_,h=>by simp at h
 | (n,k')::r,y,k,h=>by
  rw [List.map_cons] at h
  by_cases hc:(k' == NameKind.free&&env.scope.kind == .function&&env.kindOf n == some .cell)=true
  ·dsimp only at h
   rw [if_pos hc,List.lookup_cons] at h
   cases e:y == n with
   | true=>
    rw [e] at h
    have e':y=n:=by simpa using e
    subst e'
    have h':NameKind.cell=k:=by simpa using h
    have hf:k'=.free:=by
     rw [Bool.and_eq_true,Bool.and_eq_true] at hc
     simpa using hc.1.1
    exact ⟨k',List.mem_cons_self,.inr ⟨hf,h'.symm⟩⟩
   | false=>
    rw [e] at h
    obtain ⟨k0,m,z⟩:=VV (env:=env) (by simpa using h)
    exact ⟨k0,List.mem_cons_of_mem _ m,z⟩
  ·dsimp only at h
   rw [if_neg hc,List.lookup_cons] at h
   cases e:y == n with
   | true=>
    rw [e] at h
    have e':y=n:=by simpa using e
    subst e'
    have h':k'=k:=by simpa using h
    exact ⟨k',List.mem_cons_self,.inl h'.symm⟩
   | false=>
    rw [e] at h
    obtain ⟨k0,m,z⟩:=VV (env:=env) (by simpa using h)
    exact ⟨k0,List.mem_cons_of_mem _ m,z⟩
noncomputable def xT (X:Cx) (scope:Scope) (cl:List (Str×Addr)) (own:List Str) (C:Addr) (s2:Shared) (H2:Hp) (fp:List Addr) (pn:List (Addr×Obj)):Cx:=
 { X with N:=um X.N own,s₀:=s2,H₀:=H2,env:=compEnvC scope cl C X.env,outer:=X.stack,stack:=X.stack,ex:=fp,fn:=fun _=>false,pn:=pn,xe:=fun _ _=>False }
section
variable {X:Cx} {pins:List (Addr×Obj)} {σ:St} {H2:Hp} {s2:Shared} {scope:Scope} {cl:List (Str×Addr)} {own:List Str} {C D:Addr} {fp:List Addr}
theorem Uy (hb:jR scope X.env cl own=true) {y:Str} {k:NameKind} (h:(relabel scope X.env).names.lookup y=some k) :
  y ≠ "." /\ ((k=.local->own.contains y=true\/y = ".0")/\((k=.cell\/k=.free)->(∃ k0,(y,k0)∈scope.names/\k0=.cell)\/((X.env.kindOf y=some .cell\/X.env.kindOf y=some .free)/\∃ c,cl.lookup y=some c))):=by
 obtain ⟨k0,m,z⟩:=VV h
 have q:=List.all_eq_true.mp hb _ m
 rw [Bool.and_eq_true] at q
 obtain ⟨q1,q2⟩:=q
 refine ⟨by simpa using q1,fun hk=>?_,fun hk=>?_⟩
 ·rcases z with z | ⟨_,z⟩
  ·subst z
   subst hk
   simpa using q2
  ·rw [z] at hk
   cases hk
 ·have hf:k0=.free\/k0=.cell:=by
   rcases z with z | ⟨z,_⟩
   ·subst z
    rcases hk with hk | hk
    ·exact .inr hk
    ·exact .inl hk
   ·exact .inl z
  rcases hf with hf | hf
  ·subst hf
   right
   have q3:((X.env.kindOf y == some .cell||X.env.kindOf y == some .free)&&(cl.lookup y).isSome)=true:=by simpa using q2
   rw [Bool.and_eq_true] at q3
   refine ⟨?_,Option.isSome_iff_exists.mp q3.2⟩
   have:=q3.1
   rw [Bool.or_eq_true] at this
   rcases this with t | t
   ·exact .inl (by simpa using t)
   ·exact .inr (by simpa using t)
  ·exact .inl ⟨k0,m,hf⟩
theorem WM (hb:jR scope X.env cl own=true) (hcell:∀ y∈scope.names,y.2≠.cell) {y:Str} {k:NameKind} (h:(relabel scope X.env).names.lookup y=some k) (hk:k=.cell\/k=.free) :
  (X.env.kindOf y=some .cell\/X.env.kindOf y=some .free)/\∃ c,cl.lookup y=some c:=by
 rcases (Uy hb h).2.2 hk with ⟨k0,m,e⟩ | q
 ·exact absurd e (hcell _ m)
 ·exact q
theorem Uz (I:Inv X pins σ H2 s2) (hk:scope.kind=.function) (hcell:∀ y∈scope.names,y.2≠.cell) (hcap:qC X.env cl) (hb:jR scope X.env cl own=true) (hC:s2.heap.objs.size<=C)
  (hfp:∀ b∈fp,ue X pins H2 b) (hfo:∀ b∈fp,∃ o,s2.heap.get? b=some o):(xT X scope cl own C s2 H2 fp (X.pn++pins)).Ok where
 mod:=I.ok.mod
 kind:=hk
 glob:=I.ok.glob
 blt:=I.ok.blt
 above:=hC
 inj:=fun x y c h1 h2=>I.ok.inj x y c (hcap.get h1) (hcap.get h2)
 has:=fun x hx=>by
  rcases hx with hx | hx
  ·exact (WM hb hcell (show (relabel scope X.env).names.lookup x=_ from hx) (.inl rfl)).2
  ·exact (WM hb hcell (show (relabel scope X.env).names.lookup x=_ from hx) (.inr rfl)).2
 cab:=fun x c h=>by cases h
 hd:=I.ok.hd
 frames:=I.ok.frames
 stk:=.inl rfl
 exf:=fun b hx=>⟨by
  obtain ⟨o,e⟩:=hfo b hx
  exact Nat.ne_of_lt (Nat.lt_of_lt_of_le (Heap.lt_size e) hC),fun x c h=>(hfp b hx).2.2.2.2.1 x c (hcap.get h)⟩
 bs:=I.bs
 bsz:=Nat.le_trans I.ok.bsz I.sz
 noex:=fun b o e hx=>by
  rcases (hfp b hx).2.2.2.1 with z | z
  ·exact I.ok.noex b o e z
  ·exact absurd (Nat.lt_of_lt_of_le (Heap.lt_size e) (Nat.le_trans I.ok.bsz z)) (Nat.lt_irrefl _)
 exfs:=fun b hx hz=>by
  rcases List.mem_cons.mp (I.stkSub b hz) with z | z
  ·exact (hfp b hx).2.1 z
  ·exact (hfp b hx).2.2.1 z
 funs:=I.stack
 frf:=I.stkFree
theorem Zx {α:Type} {σ:List (Option α)} {n i:Nat} {v:α} (h:(σ++List.replicate n none)[i]?=some (some v)):σ[i]?=some (some v):=by
 by_cases hi:i<σ.length
 ·rw [List.getElem?_append_left hi] at h
  exact h
 ·rw [List.getElem?_append_right (by omega),List.getElem?_replicate] at h
  split at h<;>cases h
theorem OZ {h4:Heap} {m0:Str->Option Value} {dobj:Obj} {tk:Nat} (I:Inv X pins σ H2 s2) (hk:scope.kind=.function) (hcell:∀ y∈scope.names,y.2≠.cell) (hcap:qC X.env cl) (hb:jR scope X.env cl own=true)
  (hC:s2.heap.objs.size<=C) (hD:s2.heap.objs.size<=D) (hDC:D≠C) (hfp:∀ b∈fp,ue X pins H2 b) (hfo:∀ b∈fp,∃ o,s2.heap.get? b=some o)
  (keep:∀ b o,s2.heap.get? b=some o->h4.get? b=some o) (ns:h4.Ns C m0) (hd:h4.get? D=some dobj) (hdd:∀ v,dobj.data≠.cell v) :
  Inv (xT X scope cl own C s2 H2 fp (X.pn++pins)) [(D,dobj)] (σ++List.replicate own.length none) H2 { s2 with heap:=h4,toks:=tk }:=by
 have nfs:∀ a,s2.heap.objs.size<=a->a ∉ yT X.stack:=fun a ha hz=>by
  rcases List.mem_cons.mp (I.stkSub a hz) with z | z
  ·exact absurd (Nat.lt_of_lt_of_le I.lt ha) (by rw [z]; exact Nat.lt_irrefl _)
  ·exact I.nofs ha z
 refine ⟨Uz I hk hcell hcap hb hC hfp hfo,rfl,I.bare,Un.kept keep,⟨m0,ns,fun i y v e1 e2 e3=>?_⟩,fun x c h=>?_,I.hok.fresh hC,fun x c h=>I.freeC x c (hcap.get h),fun p hp=>?_,I.hok.kept keep,?_⟩
 ·have e2':σ[i]?=some (some v):=Zx e2
  have hi:i<X.N.length:=by
   have:=(List.getElem?_eq_some_iff.mp e2').1
   rw [I.len] at this
   exact this
  have e1':(X.N.map (kC own)++own)[i]?=some y:=e1
  rw [List.getElem?_append_left (by simpa using hi),List.getElem?_map] at e1'
  cases en:X.N[i]? with
  | none=>
   rw [en] at e1'
   cases e1'
  | some n=>
   rw [en] at e1'
   have ey:kC own n=y:=Option.some.inj e1'
   have vis:∃ k,(relabel scope X.env).names.lookup y=some k/\(k=.local\/k=.cell\/k=.free):=by
    rcases e3 with z | z | z
    ·exact ⟨_,z,.inl rfl⟩
    ·exact ⟨_,z,.inr (.inl rfl)⟩
    ·exact ⟨_,z,.inr (.inr rfl)⟩
   obtain ⟨k,lk,kk⟩:=vis
   obtain ⟨nd,loc,_⟩:=Uy hb lk
   unfold kC at ey
   by_cases ho:(own.contains n||n == (".0" : Str))=true
   ·rw [if_pos ho] at ey
    exact absurd ey.symm nd
   ·rw [if_neg ho] at ey
    subst ey
    have kk':k=.cell\/k=.free:=by
     rcases kk with z | z
     ·exfalso
      apply ho
      rcases loc z with t | t
      ·rw [t]; rfl
      ·subst t; simp
     ·exact z
    obtain ⟨ok,c,hc⟩:=WM hb hcell lk kk'
    obtain ⟨m,hn,hl⟩:=I.loc
    obtain ⟨u,r,l⟩:=hl i n v en e2' (.inr ok)
    refine ⟨u,r,.inr ⟨?_,c,hc,?_⟩⟩
    ·rcases kk' with z | z
     ·subst z; exact .inl lk
     ·subst z; exact .inr lk
    ·rcases l with ⟨z,_⟩ | ⟨_,c',hc',z⟩
     ·rcases ok with t | t<;>(rw [t] at z; cases z)
     ·rw [hcap.get hc] at hc'
      cases hc'
      obtain ⟨o,ho',hd'⟩:=z
      exact ⟨o,keep _ _ ho',hd'⟩
 ·obtain ⟨v,o,ho,hd'⟩:=I.cell x c (hcap.get h)
  exact ⟨v,o,keep _ _ ho,hd'⟩
 ·rcases List.mem_append.mp hp with z | z
  ·obtain ⟨e,n,ne,nf,d⟩:=I.pin p z
   refine ⟨keep _ _ e,n,Nat.ne_of_lt (Nat.lt_of_lt_of_le (Heap.lt_size e) hC),fun hz=>?_,d⟩
   rcases List.mem_cons.mp (I.stkSub p.1 hz) with t | t
   ·exact ne t
   ·exact nf t
  ·have e:p=(D,dobj):=by simpa using z
   subst e
   exact ⟨hd,I.hok.fresh hD,hDC,nfs D hD,hdd⟩
 ·show (σ++List.replicate own.length none).length=(X.N.map (kC own)++own).length
  rw [List.length_append,List.length_append,List.length_replicate,List.length_map,I.len]
end
end L2
namespace L2
open PySem PySem.Spec PyProof.Rows
noncomputable def p8 (X:Cx) (ifs:List Expr) (tc:TT):Prop:=
 ∀ (pins:List (Addr×Obj)) (s:Shared) (σ:St) (H:Hp) (Q:Bool->Hp->Prop),Inv X pins σ H s->tc σ H Q->
  wpAny (model X.prog X.w) X.A (forIn ifs true fun c r=>if r=true then do let ok <- isTrue c X.env (eval c X.env); pure (ForInStep.yield ok) else pure (ForInStep.yield r)) (TP X pins σ Q) X.xe s
noncomputable def EZ:TT:=fun _ H Q=>Q true H
theorem FQ {X:Cx}:p8 X [] EZ:=fun _ _ _ H _ I h=>wpAny_tests_nil ⟨H,I,h⟩
theorem FU {X:Cx} {c:Expr} {t:TT} (h:PT X c t):p8 X [c] t:=fun pins s σ H Q I q=>wpAny_tests_one (h pins s σ H Q I q)
section
variable {prog:Program} {w:World} {A:Around} {R:Result->Shared->Prop} {s:Shared}
theorem Mr {elt tg iter:Expr} {ifs:List Expr} {scope:Scope} {pos:Pos} {it acc:Value} {env:Env} (J:Nat->Shared->Prop)
  (turn:∀ n s,J n s->wpAny (model prog w) A (pyNext it) (fun r s₁=>match r with
   | none=>R (.ok .next) s₁
   | some v=>wpAny (model prog w) A (letOwnedTupleGo tg it v) (fun _ z=>wpAny (model prog w) A (assign tg env v) (fun _ s₂=>
    wpAny (model prog w) A (forIn ifs true fun c r=>if r=true then do let ok <- isTrue c env (eval c env); pure (ForInStep.yield ok) else pure (ForInStep.yield r)) (fun ok s₃=>
     if ok=true then wpAny (model prog w) A (eval elt env) (fun x s₄=>wpAny (model prog w) A (call (.builtin "list.append") [acc,x]) (fun _ s₅=>∃ m,m<n/\J m s₅) (fun _ _=>False) s₄) (fun _ _=>False) s₃
     else ∃ m,m<n/\J m s₃) (fun _ _=>False) s₂) (fun _ _=>False) z) (fun _ _=>False) s₁) (fun _ _=>False) s)
  (n:Nat) (h:J n s):codeAny (model prog w) A (.compLoop (.ListComp elt [⟨tg,iter,ifs,0⟩] scope pos) 0 it acc env) R s:=by
 have no:∀ {P:Value->Shared->Prop},∀ e s',(fun _ _=>False:Value->Shared->Prop) e s'->P e s':=fun _ _ z=>z.elim
 refine codeAny_loop rfl J (fun n s hI=>?_) n h
 show wpAny _ A (Sem.onRaise (compTurn (.ListComp elt [⟨tg,iter,ifs,0⟩] scope pos) 0 it acc env) (fun x=>do noteFrame x env; theTreesLotGoes x)) _ _ s
 refine wpAny_noted ?_
 rw [compTurn_list]
 refine wpAny_bind (wpAny_standAt (wpAny_bind (wpAny_mono (turn n s hI) (fun r s₁ h₁=>?_) no)))
 cases r with
 | none=>exact wpAny_pure h₁
 | some v=>
  refine wpAny_bind (wpAny_mono h₁ (fun _ z hz=>?_) no)
  refine wpAny_bind (wpAny_mono hz (fun _ s₂ h₂=>?_) no)
  refine wpAny_bind (wpAny_mono h₂ (fun ok s₃ h₃=>?_) no)
  cases ok with
  | false=>exact wpAny_pure ⟨rfl,h₃⟩
  | true=>
   refine wpAny_bind (wpAny_bind (wpAny_mono h₃ (fun x s₄ h₄=>?_) no))
   exact wpAny_bind (wpAny_mono h₄ (fun _ s₅ h₅=>wpAny_pure (wpAny_pure ⟨rfl,h₅⟩)) no)
end
noncomputable abbrev xo (its:List Value) (k:Nat):Obj:={ cls:=.type "list",data:=.seq its.toArray k }
theorem Qb {its:List Value} {k:Nat}:∀ v,(xo its k).data≠.cell v:=fun _ z=>nomatch z
section
variable {X:Cx} {σ:St} {H:Hp} {s:Shared} {D:Addr}
theorem MH {pl:List (Addr×Obj)} {its its':List Value} {k k' tk:Nat} {h':Heap} (I:Inv X ((D,xo its k)::pl) σ H s) (hD:X.s₀.heap.objs.size<=D) (hpn:∀ p∈X.pn,p.1≠D)
  (hs:Heap.SameBut D s.heap h') (hd:h'.get? D=some (xo its' k')):Inv X [(D,xo its' k')] σ H { s with heap:=h',toks:=tk }:=by
 obtain ⟨e,n,ne,nf,d⟩:=I.pin (D,xo its k) (List.mem_append_right _ List.mem_cons_self)
 have I0:Inv X [] σ H s:=I.pins_of fun p hp=>absurd hp (by simp)
 have I1:Inv X [] σ H { s with heap:=h',toks:=tk }:=I0.turned (it:=D) (fun b o hb q=>(hs.2 b hb).trans q) n ne (.inr hD) (fun x c hc z=>by
  subst z
  obtain ⟨v,o,ho,hv⟩:=I.cell x c hc
  rw [show s.heap.get? c=some (xo its k) from e] at ho
  cases ho
  exact d v hv) (fun p hp=>hpn p (by simpa using hp))
 exact I1.pins_of fun p hp=>by
  have q:p=(D,xo its' k'):=by simpa using hp
  subst q
  exact ⟨hd,n,ne,nf,Qb⟩
end
section
variable {X:Cx} {tg iter elt:Expr} {ifs:List Expr} {scope:Scope} {cl:List (Str×Addr)} {own:List Str} {pos:Pos} {te:TE} {tc:TT} {g:TG} {wi:TI}
theorem Eo {fs ex:List Addr} {H H':Hp} {h h':Heap} {D:Addr} {o:HO} (u:Un fs ex H H' h h') (hD:h.objs.size<=D) (hn:H' D=none):Un fs ex H (zu H' D o) h h' where
 keep:=u.keep
 slot:=u.slot
 free:=fun b ob q n hx=>by rw [yn (fun z=>by subst z; exact absurd (Nat.lt_of_lt_of_le (Heap.lt_size q) hD) (Nat.lt_irrefl _))]; exact u.free b ob q n hx
 there:=u.there
 tups:=fun b xs q=>by rw [yn (wm (u.tups b xs q) hn)]; exact u.tups b xs q
 frzs:=fun b ob v q=>by rw [yn (wm (u.frzs b ob v q) hn)]; exact u.frzs b ob v q
 tbls:=fun b ps q=>by
  obtain ⟨more,z⟩:=u.tbls b ps q
  exact ⟨more,by rw [yn (wm z hn)]; exact z⟩
theorem Wu {P:Program} {w:World} {H:Hp} {h:Heap} {D:Addr} {o:HO} (x:yo P w H h) (hn:H D=none) (new:xI P w (zu H D o) h D o):yo P w (zu H D o) h:=fun b u e=>by
 by_cases hb:b=D
 ·subst hb
  rw [xH] at e
  cases e
  exact new
 ·rw [yn hb] at e
  refine (x b u e).stay (fun c v _ q=>q) (fun c q=>?_) (fun c xs q=>?_)
  ·rw [yn (wm q hn)]; exact q
  ·rw [yn (wm q hn)]; exact q
structure j1 (X:Cx) (scope:Scope) (cl:List (Str×Addr)) (own:List Str):Prop where
 kind:scope.kind=.function
 cell:∀ y∈scope.names,y.2≠.cell
 cap:qC X.env cl
 ok:jR scope X.env cl own=true
 clos:closureFor scope X.env=pure cl
 names:∀ y∈scope.names,y.2=.local->scope.names.lookup y.1=some .local
structure ZH (X:Cx) (pins:List (Addr×Obj)) (H:Hp) (s:Shared) (C:Addr):Prop where
 free:H C=none
 ne:C≠X.env.locals
 old:X.s₀.heap.objs.size<=C
 cell:∀ x c,X.env.cells.lookup x=some c->c≠C
 pin:∀ p∈X.pn++pins,p.1≠C
noncomputable def YG (σ:St) (n:Nat) (J:It) (g:TG) (tc:TT) (te:TE) (W:Nat->Nat->List V->Hp->Prop) (Fin:List V->Hp->Prop):Prop:=
 ∀ i m ys H,W i m ys H->(J.stop i H/\Fin ys H)\/(J.go i H/\ys.length<sizeLine/\∃ N:List V->Hp->Prop,(∀ ys' H',N ys' H'->∃ m',m'<m/\W (i+1) m' ys' H')/\
  ∀ x H',J.yld i H x H'->g x (σ++List.replicate n none) H' fun σ2 H3=>(∃ τ,σ2=σ++τ)/\tc σ2 H3 fun c H4=>if c=true then te σ2 H4 fun y H5=>N (ys++[y]) H5 else N ys H4)
theorem T2 {pins:List (Addr×Obj)} {σ:St} {H2:Hp} {s2:Shared} {fp:List Addr} {it:Addr} {tn:Nat->Heap->Prop} {J:It} {W:Nat->Nat->List V->Hp->Prop} {Fin:List V->Hp->Prop} {m0:Nat}
  {RR:Value->Addr->Result->Shared->Prop} (hcalm:X.calm=true) (B:j1 X scope cl own) (I:Inv X pins σ H2 s2) (T:jF X.prog X.w X.K tg J fp it tn) (t0:tn 0 s2.heap) (hfp:∀ b∈fp,ue X pins H2 b)
  (hg:∀ C s H fp pn,PG (xT X scope cl own C s H fp pn) tg g) (hc:∀ C s H fp pn,p8 (xT X scope cl own C s H fp pn) ifs tc) (he:∀ C s H fp pn,PE (xT X scope cl own C s H fp pn) elt te)
  (W0:W 0 m0 [] H2) (turn:YG σ own.length J g tc te W Fin)
  (hRR:∀ D C s' H' ys m',Inv X pins σ (zu H' D (.lst ys)) s'->H' D=none->Fin ys H'->s'.heap.Ns C m'->ZH X pins (zu H' D (.lst ys)) s' C->RR (.ref D) C (.ok .next) s') {E:Value->Shared->Prop} :
  wpAny (model X.prog X.w) X.A (newList []) (fun acc s3=>wpAny (model X.prog X.w) X.A (newFunctionEnv scope X.env.globals cl [] X.env.qual none .none (some X.env)) (fun cenv s4=>
   codeAny (model X.prog X.w) X.A (.compStart (.ListComp elt [⟨tg,iter,ifs,0⟩] scope pos) 0 (.ref it) acc { cenv with scope:=relabel scope X.env }) (RR acc cenv.locals) s4) E s3) E s2:=by
 refine wpAny_newObj_type (wpAny_newFunctionEnv B.cell (by intro y hy; simp at hy) (fun h4 hns hsb=>?_) B.kind)
 dsimp only at hns hsb ⊢
 generalize hP:s2.heap.push (xo [] 0)=P2 at hns hsb ⊢
 have hC:P2.objs.size=s2.heap.objs.size+1:=by rw [<- hP,Heap.size_push]
 have hDC:s2.heap.objs.size≠P2.objs.size:=by rw [hC]; exact Nat.ne_of_lt (Nat.lt_succ_self _)
 have hCle:s2.heap.objs.size<=P2.objs.size:=by rw [hC]; exact Nat.le_succ _
 have keep:∀ b o,s2.heap.get? b=some o->h4.get? b=some o:=fun b o e=>
  hsb.extBut b o (Nat.ne_of_lt (Nat.lt_of_lt_of_le (Heap.lt_size e) hCle)) (Heap.get?_push_of_some _ (hP ▸ Heap.get?_push_of_some _ e))
 have hd4:h4.get? s2.heap.objs.size=some (xo [] 0):=hsb.extBut _ _ hDC (Heap.get?_push_of_some _ (hP ▸ Heap.get?_push_size _ rfl))
 have hfo:∀ b∈fp,∃ o,s2.heap.get? b=some o:=fun b hb=>let ⟨o,e,_⟩:=T.obj 0 _ t0 b hb; ⟨o,e⟩
 have lt:∀ b∈fp,b<s2.heap.objs.size:=fun b hb=>let ⟨o,e⟩:=hfo b hb; Heap.lt_size e
 generalize hDD:s2.heap.objs.size=D at hDC hd4 ⊢
 generalize hCC:P2.objs.size=C at hDC hns hsb hCle ⊢
 have hDle:s2.heap.objs.size<=D:=Nat.le_of_eq hDD
 let X':=xT X scope cl own C s2 H2 fp (X.pn++pins)
 have hpn:∀ p∈X'.pn,p.1≠D:=fun p hp z=>by
  obtain ⟨e,_⟩:=I.pin p hp
  rw [z] at e
  exact absurd (Nat.lt_of_lt_of_le (Heap.lt_size e) hDle) (Nat.lt_irrefl _)
 have okb:=Uz I B.kind B.cell B.cap B.ok hCle hfp hfo
 have fpok:∀ {k:Nat} {its:List Value} {H':Hp},(∀ b∈fp,H' b=none)->∀ b∈fp,ue X' [(D,xo its k)] H' b:=fun {k its H'} hn b hb=>
  ⟨hn b hb,(okb.exf b hb).1,okb.exfs b hb,.inl hb,(okb.exf b hb).2,fun p hp=>by
   rcases List.mem_append.mp hp with z | z
   ·exact (hfp b hb).2.2.2.2.2 p z
   ·have q:p=(D,xo its k):=by simpa using z
    subst q
    exact fun z=>absurd (lt b hb) (by rw [<- z]; exact Nat.not_lt.mpr hDle)⟩
 have loop:∀ s4:Shared,s4={ s2 with heap:=h4,toks:=s2.toks+([]:List (Str×Value)).length }->
   codeAny (model X.prog X.w) X.A (.compLoop (.ListComp elt [⟨tg,iter,ifs,0⟩] scope pos) 0 (.ref it) (.ref D) (compEnvC scope cl C X.env)) (RR (.ref D) C) s4:=by
  rintro s4 rfl
  refine Mr (fun n s'=>∃ (i:Nat) (ys:List V) (its:List Value) (k:Nat) (H':Hp),Inv X' [(D,xo its k)] (σ++List.replicate own.length none) H' s'/\zj ys its/\tn i s'.heap/\(∀ b∈fp,H' b=none)/\W i n ys H'/\ys.length<=sizeLine) ?_ m0
   ⟨0,[],[],0,H2,OZ I B.kind B.cell B.cap B.ok hCle hDle hDC hfp hfo keep hns hd4 Qb,.nil,T.keep _ _ _ t0 fun b _ o e=>keep b o e,fun b hb=>(hfp b hb).1,W0,Nat.zero_le _⟩
  rintro n s5 ⟨i,ys,its,k,H5,I5,v5,st5,fr5,w5,z5⟩
  rcases turn i n ys H5 w5 with ⟨stop,fin⟩ | ⟨go,room,N,hN,step⟩
  ·refine wpAny_mono (T.done X' rfl rfl rfl hcalm i _ s5 _ H5 (fun _ _=>False) I5 (fpok fr5) st5 stop) (fun r s6 ⟨hr,I6⟩=>?_) fun _ _ z=>z
   subst hr
   obtain ⟨e6,n6,ne6,nf6,d6⟩:=I6.pin (D,xo its k) (List.mem_append_right _ List.mem_cons_self)
   obtain ⟨m6,ns6,_⟩:=I6.loc
   have u6:Un (yT X.stack) fp H2 (zu H5 D (.lst ys)) s2.heap s6.heap:=Eo I6.base hDle n6
   have new6:xI X.prog X.w (zu H5 D (.lst ys)) s6.heap D (.lst ys):=⟨z5,its,k,v5,e6⟩
   have I7:Inv X pins σ (zu H5 D (.lst ys)) s6:=I.call' I6.os u6 (Wu I6.hok n6 new6) I6.bare (fun b hb=>⟨(hfp b hb).2.2.2.1,(hfp b hb).2.1,(hfp b hb).2.2.2.2.1,(hfp b hb).2.2.2.2.2⟩)
   refine hRR D C s6 H5 ys m6 I7 n6 fin ns6 ⟨?_,?_,?_,fun x c hcx z=>?_,fun p hp z=>?_⟩
   ·rw [yn (Ne.symm hDC)]; exact I6.free
   ·exact fun z=>absurd I.lt (by rw [<- z]; exact Nat.not_lt.mpr hCle)
   ·exact Nat.le_trans I.sz hCle
   ·subst z
    obtain ⟨v,o,ho,_⟩:=I.cell x c hcx
    exact absurd (Nat.lt_of_lt_of_le (Heap.lt_size ho) hCle) (Nat.lt_irrefl _)
   ·obtain ⟨e,_⟩:=I.pin p hp
    rw [z] at e
    exact absurd (Nat.lt_of_lt_of_le (Heap.lt_size e) hCle) (Nat.lt_irrefl _)
  ·refine wpAny_mono (T.item X' rfl rfl rfl hcalm i _ s5 _ H5 (fun _ _=>False) I5 (fpok fr5) st5 go) (fun r s6 ⟨u,hr,h6⟩=>?_) fun _ _ z=>z
   subst hr
   refine wpAny_mono h6 (fun _ s7 ⟨x,H7,I7,r7,y7,st7,fr7⟩=>?_) fun _ _ z=>z
   have I7':=I7.pinned (fpok fr7) (T.obj _ _ st7)
   refine wpAny_mono (hg C s2 H2 fp _ _ s7 _ H7 x u _ I7' r7 (step x H7 y7)) (fun _ s8 ⟨σ8,H8,I8,⟨τ,hτ⟩,q8⟩=>?_) fun _ _ z=>z
   subst hτ
   have back:∀ {n':Nat} {ys':List V} {its':List Value} {k':Nat} {H9:Hp} {s9:Shared} {pl:List (Addr×Obj)},Inv X' ((D,xo its' k')::pl) (σ++τ) H9 s9->zj ys' its'->tn (i+1) s9.heap->(∀ b∈fp,H9 b=none)->W (i+1) n' ys' H9->ys'.length<=sizeLine->
     ∃ (i:Nat) (ys:List V) (its:List Value) (k:Nat) (H':Hp),Inv X' [(D,xo its k)] (σ++List.replicate own.length none) H' s9/\zj ys its/\tn i s9.heap/\(∀ b∈fp,H' b=none)/\W i n' ys H'/\ys.length<=sizeLine:=fun {n' ys' its' k' H9 s9 pl} I9 v9 st9 fr9 w9 z9=>by
    have I9':Inv X' [(D,xo its' k')] (σ++τ) H9 s9:=I9.pins_of fun p hp=>I9.pin p (List.mem_append_right _ (by
     have q:p=(D,xo its' k'):=by simpa using hp
     subst q
     exact List.mem_cons_self))
    refine ⟨i+1,ys',its',k',H9,I9'.weak ?_ (fun j v e=>?_),v9,st9,fr9,w9,z9⟩
    ·rw [I9'.len,<- I5.len]
    ·have e':=Zx e
     rw [List.getElem?_append_left (List.getElem?_eq_some_iff.mp e').1]
     exact e'
   have keepIt:∀ {σ9:St} {H9:Hp} {s9:Shared},Inv X' ([(D,xo its k)]++kT fp s7.heap) σ9 H9 s9->tn (i+1) s9.heap/\∀ b∈fp,H9 b=none:=fun {σ9 H9 s9} I9=>
    ⟨T.keep _ _ _ st7 fun b hb o e=>(I9.pin (b,o) (List.mem_append_right _ (List.mem_append_right _ (YJ hb e)))).1,fun b hb=>by
     obtain ⟨o,e,_⟩:=T.obj _ _ st7 b hb
     exact (I9.pin (b,o) (List.mem_append_right _ (List.mem_append_right _ (YJ hb e)))).2.1⟩
   refine wpAny_mono (hc C s2 H2 fp _ _ s8 _ H8 _ I8 q8) (fun c s9 ⟨H9,I9,q9⟩=>?_) fun _ _ z=>z
   cases c with
   | false=>
    rw [if_neg Bool.false_ne_true] at q9 ⊢
    obtain ⟨m',hm,w9⟩:=hN _ _ q9
    exact ⟨m',hm,back I9 v5 (keepIt I9).1 (keepIt I9).2 w9 z5⟩
   | true=>
    rw [if_pos rfl] at q9 ⊢
    refine wpAny_mono (he C s2 H2 fp _ _ s9 _ H9 _ I9 q9) (fun yv sa ⟨y,Ha,Ia,ra,qa⟩=>?_) fun _ _ z=>z
    obtain ⟨m',hm,wa⟩:=hN _ _ qa
    obtain ⟨ea,na,_⟩:=Ia.pin (D,xo its k) (List.mem_append_right _ (List.mem_append_left _ List.mem_cons_self))
    have szi:its.toArray.size<=sizeLine:=by
     have:=v5.length
     simp only [List.size_toArray]
     omega
    refine wpAny_list_append_plain (hsz:=szi) ⟨k,ea⟩ fun hb hlb hsb'=>?_
    obtain ⟨kb,eb⟩:=hlb
    have eb':hb.get? D=some (xo (its++[yv]) kb):=by rw [eb]; simp
    have Ib:Inv X' [(D,xo (its++[yv]) kb)] (σ++τ) Ha { sa with heap:=hb,toks:=sa.toks }:=MH (tk:=sa.toks) Ia hDle hpn hsb' eb'
    have stb:tn (i+1) hb:=T.keep _ _ _ (keepIt Ia).1 fun b hbf o e=>(hsb'.2 b (fun z=>absurd (lt b hbf) (by rw [z]; exact Nat.not_lt.mpr hDle))).trans e
    exact ⟨m',hm,back Ib (zj.append v5 (.cons ra .nil)) stb (keepIt Ia).2 wa (by rw [List.length_append]; exact room)⟩
 exact codeAny_compStart_list (loop _ rfl) (T.self X.A 0 _ _ _ (T.keep _ _ _ t0 fun b _ o e=>keep b o e) (loop _ rfl))
noncomputable def EH (n:Nat) (wi:TI) (g:TG) (tc:TT) (te:TE):TE:=fun σ H Q=>wi σ H fun J H1=>∃ W:Nat->Nat->List V->Hp->Prop,(∃ m,W 0 m [] H1)/\
 YG σ n J g tc te W fun ys H'=>∀ p,H' p=none->Q (.ref p) (zu H' p (.lst ys))
theorem ZH.inv {pins:List (Addr×Obj)} {σ:St} {H:Hp} {s:Shared} {C:Addr} {h':Heap} (o:ZH X pins H s C) (I:Inv X pins σ H s) (hs:Heap.SameBut C s.heap h'):Inv X pins σ H { s with heap:=h' }:=
 I.turned (it:=C) (t':=s.toks) (fun b u hb q=>(hs.2 b hb).trans q) o.free o.ne (.inr o.old) o.cell o.pin
theorem Db (hcalm:X.calm=true) (B:j1 X scope cl own) (hi:PI X tg iter wi) (hg:∀ C s H fp pn,PG (xT X scope cl own C s H fp pn) tg g) (hc:∀ C s H fp pn,p8 (xT X scope cl own C s H fp pn) ifs tc)
  (he:∀ C s H fp pn,PE (xT X scope cl own C s H fp pn) elt te) (hs:∀ x,foldedSetIterable iter X.env x=pure x:=by intro _; rfl) :
  PE X (.ListComp elt [⟨tg,iter,ifs,0⟩] scope pos) (EH own.length wi g tc te):=by
 intro pins s σ H Q I h
 rw [eval_ListComp]
 refine wpAny_comprehension_free (use:=none) rfl hs B.clos B.kind B.names (zf (hi pins s σ H _ I h) fun v s1 h1=>zf h1 fun itv s2 h2=>?_)
 obtain ⟨it,fp,tn,J,H2,e,I2,T,st2,f2,W,⟨m0,w0⟩,turn⟩:=h2
 subst e
 refine T2 (RR:=fun acc C=>compPost (model X.prog X.w) X.A X.xe none (EP X pins σ Q) acc C) hcalm B I2 T st2 f2 hg hc he w0 turn ?_
 intro D C s' H' ys m' I' n' fin ns' off
 exact ⟨m',ns',fun h' hs'=>⟨.ref D,zu H' D (.lst ys),off.inv I' hs',rfl,fin D n'⟩⟩
noncomputable def ES (i n:Nat) (wi:TI) (g:TG) (tc:TT) (te:TE):TS:=fun D σ H=>wi σ H fun J H1=>∃ W:Nat->Nat->List V->Hp->Prop,(∃ m,W 0 m [] H1)/\
 YG σ n J g tc te W fun ys H'=>∀ p,H' p=none->D.nx (σ.set i (some (.ref p))) (zu H' p (.lst ys))
theorem FC {i:Nat} {x:Str} {px spos:Pos} (hcalm:X.calm=true) (hN:X.N.Nodup) (hix:X.N[i]?=some x) (hx:X.env.scope.names.lookup x=some .local) (B:j1 X scope cl own)
  (hsw:swapsWith (.ListComp elt [⟨tg,iter,ifs,0⟩] scope pos) (some (.Name x px)) spos.line X.env=pure true) (hi:PI X tg iter wi)
  (hg:∀ C s H fp pn,PG (xT X scope cl own C s H fp pn) tg g) (hc:∀ C s H fp pn,p8 (xT X scope cl own C s H fp pn) ifs tc) (he:∀ C s H fp pn,PE (xT X scope cl own C s H fp pn) elt te)
  (hs:∀ x,foldedSetIterable iter X.env x=pure x:=by intro _; rfl) :
  PS X (.Assign [.Name x px] (.ListComp elt [⟨tg,iter,ifs,0⟩] scope pos) spos) (ES i own.length wi g tc te):=by
 intro pins s σ H D I h
 rw [exec_Assign_Name_used _ _ _ _ hsw]
 refine wpAny_bind (wpAny_standAt (wpAny_bind ?_))
 show wpAny _ X.A (do let _ <- comprehension (.ListComp elt [⟨tg,iter,ifs,0⟩] scope pos) scope X.env _ (newList []) false (eval iter X.env) (some (assign (.Name x px) X.env))) _ _ s
 refine wpAny_bind (zf (wpAny_comprehension_free (use:=some (assign (.Name x px) X.env)) (Q:=fun _ s'=>SP X pins D .next s') rfl hs B.clos B.kind B.names
  (zf (hi pins s σ H _ I h) fun v s1 h1=>zf h1 fun itv s2 h2=>?_)) fun _ s' hq=>wpAny_pure (wpAny_pure hq))
 obtain ⟨it,fp,tn,J,H2,e,I2,T,st2,f2,W,⟨m0,w0⟩,turn⟩:=h2
 subst e
 refine T2 (RR:=fun acc C=>compPost (model X.prog X.w) X.A X.xe (some (assign (.Name x px) X.env)) (fun _ s'=>SP X pins D .next s') acc C) hcalm B I2 T st2 f2 hg hc he w0 turn ?_
 intro L C s' H' ys m' I' n' fin ns' off
 show wpAny _ X.A (assign (.Name x px) X.env (.ref L)) _ _ s'
 refine wpAny_assign_Name (IQ I' hN hix (.inl hx) (v:=.ref L) rfl (fun s3 I3 q3=>?_) (.inr hx))
 obtain ⟨a,hsa,ha⟩:=q3
 have hCa:C≠a:=by
  rcases ha with z | z
  ·rw [z]; exact off.ne
  ·exact fun y=>off.cell x a z y.symm
 refine ⟨m',ns'.sameBut hsa hCa,fun h' hs'=>?_⟩
 exact ⟨_,_,ZH.inv (H:=zu H' L (.lst ys)) ⟨off.free,off.ne,off.old,off.cell,off.pin⟩ I3 hs',fin L n'⟩
end
end L2
namespace L2
open PySem PySem.Spec PyProof.Rows
structure QE (X:Cx) (e:Expr) (t:TE):Prop where
 h:PE X e t
structure QA (X:Cx) (es:List Expr) (t:TA):Prop where
 h:PA X es t
structure QS (X:Cx) (st:Stmt) (t:TS):Prop where
 h:PS X st t
structure Xu (X:Cx) (st:List Stmt) (t:TS):Prop where
 h:wL X st t
structure QG (X:Cx) (e:Expr) (t:TG):Prop where
 h:PG X e t
structure gN (X:Cx) (es:List Expr) (t:vM):Prop where
 h:jE X es t
section
variable {X:Cx} {x y:Str} {p pos pos' apos cpos p2:Pos} {e a b c o tg iter elt:Expr} {es yG:List Expr} {te ta tb tc to:TE} {t:TA} {tA tB':TT} {r r':R2} {v:V} {T id:String} {ps:List Str} {j k i:Nat} {sp:Sp}
theorem qv (i:Nat) {x:Str} {pos:Pos} (hN:X.N[i]?=some x:=by rfl) (hv:qL X.env.scope x:=by first | exact Or.inl rfl | exact Or.inr (Or.inl rfl) | exact Or.inr (Or.inr rfl)) (hd:(x == ("__debug__" : Str))=false:=by decide)
  (hcd:(x == ("__classdict__" : Str))=false:=by decide):QE X (.Name x pos) (tw i):=⟨kS hN hv hd hcd⟩
theorem Fg (h:qI X.mg x v) (hg:Gl X x) (hd:(x == ("__debug__" : Str))=false:=by decide):QE X (.Name x pos) (tC v):=⟨Qu h hg hd⟩
theorem Fb (hg:Gl X x) (hm:X.mg x=none) (hv:bootBuiltins x=some (.type T)) (hn:x ≠ "__name__" := by decide) (hd:(x == ("__debug__" : Str))=false:=by decide):QE X (.Name x pos) (tC (.ty T)):=⟨DT hg hm hv hn hd⟩
noncomputable def Q_:Expr->Bool
 | .Name ..=>true
 | .Call ..=>true
 | .Subscript ..=>true
 | .Attribute ..=>true
 | .Constant ..=>true
 | .List ..=>true
 | .Tuple ..=>true
 | .BinOp ..=>true
 | _=>false
theorem Dz {e:Expr} {env:Env} (h:Q_ e=true):∀ whole,isTrue e env whole=(do let v <- whole; standAt e.pos; holding [v] (truthy v)):=by
 cases e<;>first | (intro _; rfl) | cases h
theorem VO:QA X [] UJ:=⟨YO⟩
theorem kZ (ha:QE X e te) (hr:QA X es t) (h:yf e=true:=by rfl):QA X (e::es) (UI te t):=⟨YQ ha.h hr.h h⟩
noncomputable def kU:Expr->Bool
 | .Name ..=>true
 | .Constant ..=>true
 | .BinOp ..=>true
 | .Call ..=>true
 | .UnaryOp ..=>true
 | .Subscript ..=>true
 | .Attribute ..=>true
 | _=>false
theorem J1 {b:Expr} (h:kU b=true):UZ b:=by
 cases b<;>first | (intro _ _; rfl) | cases h
theorem YT {r:List V->Hp->VK->Prop} (hc:xn X (.builtin id) r) (hg:Gl X x) (hm:X.mg x=none) (hv:bootBuiltins x=some (.builtin id)) (ha:QA X (e::es) t) (hn:x ≠ "__name__" := by decide) (hdb:(x == ("__debug__" : Str))=false:=by decide)
  (he:(e::es).all yf=true:=by rfl):QE X (.Call (.Name x p) (e::es) [] pos) (Yv r t):=by
 rw [List.all_cons,Bool.and_eq_true] at he
 exact ⟨DV hc hg hm hv ha.h hn hdb (wc he.1) (tG he.2)⟩
theorem JB {r:List V->Hp->VK->Prop} (hc:xn X (.type T) r) (hg:Gl X x) (hm:X.mg x=none) (hv:bootBuiltins x=some (.type T)) (ha:QA X (e::es) t) (hn:x ≠ "__name__" := by decide) (hdb:(x == ("__debug__" : Str))=false:=by decide)
  (he:(e::es).all yf=true:=by rfl):QE X (.Call (.Name x p) (e::es) [] pos) (Yv r t):=by
 rw [List.all_cons,Bool.and_eq_true] at he
 exact ⟨DW hc hg hm hv ha.h hn hdb (wc he.1) (tG he.2)⟩
variable {st:Stmt} {sts body:List Stmt} {ts us tbs:TS} {g:TG} {wi:TI}
noncomputable def pO:Expr->Bool
 | .ListComp ..=>false
 | .SetComp ..=>false
 | .DictComp ..=>false
 | _=>true
theorem VB {e:Expr} {tgt:Option Expr} {n:Nat} {env:Env} (h:pO e=true):swapsWith e tgt n env=pure false:=by
 cases e<;>first | rfl | cases h
theorem JG (he:QE X e te) (hs:pO e=true:=by rfl):QS X (.Expr e pos) (IX te):=⟨F7 he.h (VB hs)⟩
theorem JH {i:Nat} {x:Str} {pos':Pos} (hN:X.N.Nodup) (hi:X.N[i]?=some x) (hx:uf X.env.scope x) (he:QE X e te) (hs:pO e=true:=by rfl) (hf:X.fn x=true\/X.env.scope.names.lookup x=some .local:=by first | exact .inl rfl | exact .inr rfl | assumption) :
  QS X (.Assign [.Name x pos'] e pos) (UH te (vR i)):=⟨F9 hN hi hx he.h (VB hs) hf⟩
theorem xZ {i:Nat} {x:Str} (hN:X.N.Nodup) (hi:X.N[i]?=some x) (hx:uf X.env.scope x) (hf:X.fn x=true\/X.env.scope.names.lookup x=some .local:=by first | exact .inl rfl | exact .inr rfl | assumption):QG X (.Name x pos) (vR i):=⟨Dk hN hi hx hf⟩
theorem Fi {o i:Expr} {to ti:TE} {t:ZJ} (ho:QE X o to) (hi:QE X i ti) (hs:Xt X t) (hp:kU i=true:=by rfl):QG X (.Subscript o i pos) (Tr to ti t):=by
 refine ⟨Dl ho.h hi.h hs ?_⟩
 cases i<;>first | (intro _; rfl) | cases hp
theorem JD:gN X [] Zv:=⟨Do⟩
theorem jq {t:TG} {u:vM} (h1:QG X e t) (h2:gN X es u) (hs:(assignEach (e::es) X.env).map (·.2)=assign e X.env::(assignEach es X.env).map (·.2):=by rfl):gN X (e::es) (qV t u):=⟨Dn h1.h h2.h hs⟩
theorem Fj {k:Nat} {t:vM} {n:Nat} (hc:X.calm=true) (h:gN X es t) (hn:(assignEach es X.env).length=n:=by rfl) (hst:(assignEach es X.env).findIdx? (·.1)=none:=by rfl):QG X (.Tuple es k pos) (Wk X.K n t):=⟨Dm hc h.h hn hst⟩
variable {ifs:List Expr} {scope:Scope} {cl:List (Str×Addr)} {own:List Str} {tcc:TT}
variable {name:Str} {rm:V->List V->Hp->VK->Prop}
theorem IP {env:Env} {pos:Pos}:∀ {es:List Expr},es.all yf=true->(backTo pos (starEach es env)).all (fun x=>!x.1)=true
 | [],_=>rfl
 | e::es,h=>by
  rw [List.all_cons,Bool.and_eq_true] at h
  rw [wc h.1]
  have ih:=IP (env:=env) (pos:=pos) h.2
  unfold backTo at ih ⊢
  rw [List.map_cons,List.all_cons,ih]
  rfl
theorem pR (pa:PlainAttrs T) (slot:Slot T name id) (hty:typeOf (.builtin id)=pure (.type "method_descriptor")) (hm:qJ X id rm) (ho:QE X o to) (ha:QA X (e::es) t)
  (hbase:attributeBase o name X.env (eval o X.env)=eval o X.env:=by rfl) (hline:(apos.endLine == cpos.line)=true:=by rfl) (he:(e::es).all yf=true:=by rfl) (hl:(e::es).length<30:=by decide) :
  QE X (.Call (.Attribute o name apos) (e::es) [] cpos) (IW X.K T rm to t):=⟨by
 have ha':=IP (env:=X.env) (pos:=cpos) he
 rw [List.all_cons,Bool.and_eq_true] at he
 refine DS pa slot hty hm ho.h ha.h hbase ?_ hline (wc he.1) (tG he.2)
 rw [ha']
 show (true&&true&&decide ((e::es).length+0+0<30))=true
 rw [decide_eq_true (show (e::es).length+0+0<30 from hl)]
 rfl⟩
end
end L2
namespace L2
open PySem PySem.Spec PyProof.Rows
noncomputable def Ub (K:PySem.W.Frag) (H:Hp) (a c:Addr) (xs ys:List V):Prop:=(yx K H a xs/\yx K H c ys)\/(yU K H a xs/\yU K H c ys)
section
variable {X:Cx} {pins:List (Addr×Obj)} {σ:St} {H:Hp} {s:Shared}
theorem C0 {A:Around} {a c:Addr} {xs ys:List V} {e:Nat->Bool} (I:Inv X pins σ H s) (hu:A.units<cLine) (hq:Ub X.K H a c xs ys)
  (he:∀ (j:Nat) x' y' u v,xs[j]?=some x'->ys[j]?=some y'->zi x' u->zi y' v->SeqAt.EqAt A.in1 s u v (e j)) :
  SeqAt.RcAt A s (.ref a) (.ref c) ((List.range (min xs.length ys.length)).all e&&xs.length == ys.length)/\SeqAt.RcNeAt A s (.ref a) (.ref c) (!((List.range (min xs.length ys.length)).all e&&xs.length == ys.length)):=by
 have get:∀ {zs:List V} {us:List Value} {j:Nat} (hj:j<us.toArray.size),zj zs us->∃ z,zs[j]?=some z/\zi z us.toArray[j]:=fun {zs us j} hj r=>by
  have hl:=r.length
  have hj':j<zs.length:=by
   rw [List.size_toArray] at hj
   omega
  obtain ⟨u,hu',ru⟩:=r.get (List.getElem?_eq_getElem hj')
  refine ⟨_,List.getElem?_eq_getElem hj',?_⟩
  have:us.toArray[j]=u:=by
   have h2:us[j]?=some us[j]:=List.getElem?_eq_getElem (by omega)
   rw [h2] at hu'
   simpa using hu'
  rw [this]
  exact ru
 rcases hq with ⟨ha,hc⟩ | ⟨ha,hc⟩
 ·obtain ⟨us,ra,pa,_⟩:=I.tuple ha
  obtain ⟨vs,rc,pc,_⟩:=I.tuple hc
  have h1:=ra.length
  have h2:=rc.length
  have key:∀ j (k1:j<us.toArray.size) (k2:j<vs.toArray.size),SeqAt.EqAt A.in1 s us.toArray[j] vs.toArray[j] (e j):=fun j k1 k2=>by
   obtain ⟨z1,e1,r1⟩:=get k1 ra
   obtain ⟨z2,e2,r2⟩:=get k2 rc
   exact he j z1 z2 _ _ e1 e2 r1 r2
  have p:=SeqAt.RcAt.tuples (e:=e) pa pc hu key
  have q:=SeqAt.RcNeAt.tuples (e:=e) pa pc hu key
  rw [List.size_toArray,List.size_toArray,<- h1,<- h2] at p q
  exact ⟨p,q⟩
 ·obtain ⟨us,ra,pa,_⟩:=I.list ha
  obtain ⟨vs,rc,pc,_⟩:=I.list hc
  have h1:=ra.length
  have h2:=rc.length
  have key:∀ j (k1:j<us.toArray.size) (k2:j<vs.toArray.size),SeqAt.EqAt A.in1 s us.toArray[j] vs.toArray[j] (e j):=fun j k1 k2=>by
   obtain ⟨z1,e1,r1⟩:=get k1 ra
   obtain ⟨z2,e2,r2⟩:=get k2 rc
   exact he j z1 z2 _ _ e1 e2 r1 r2
  by_cases hl:xs.length=ys.length
  ·have hs:us.toArray.size=vs.toArray.size:=by rw [List.size_toArray,List.size_toArray]; omega
   have p:=SeqAt.RcAt.lists (e:=e) pa.isList pc.isList hs hu key
   have q:=SeqAt.RcNeAt.lists (e:=e) pa.isList pc.isList hs hu key
   have e1:min xs.length ys.length=us.toArray.size:=by rw [List.size_toArray]; omega
   have e2:(xs.length == ys.length)=true:=by simp [hl]
   rw [e1,e2,Bool.and_true]
   exact ⟨p,q⟩
  ·have hs:(us.toArray.size != vs.toArray.size)=true:=by
    rw [List.size_toArray,List.size_toArray]
    simp
    omega
   have e2:(xs.length == ys.length)=false:=by simp [hl]
   rw [e2,Bool.and_false]
   exact ⟨SeqAt.RcAt.lists_lengths pa.isList pc.isList hs hu,SeqAt.RcNeAt.lists_lengths pa.isList pc.isList hs hu⟩
theorem Y6 (A:Around):A.in1.units=A.units+1:=rfl
end
theorem LI {x:V} (h:vQ x=true):we x x=true:=by
 cases x<;>first | rfl | (simp [we]; done) | cases h
end L2
namespace L2
open PySem PySem.Spec PyProof.Rows
open PySem.W (hideAll)
structure xQ (P:Program) (w:World) (l:List Env) (H:Hp) (h B:Heap) (H':Hp) (h':Heap):Prop where
 un:Un (yT l) [] H H' h h'
 ok:yo P w H' h'
 kb:∀ b o,h.get? b=some o->H b=none->b ∉ yT l->B.get? b=some o
 all:∀ b o,h.get? b=some o->b ∉ yT l->∃ o',B.get? b=some o'
 tr:∀ b o,H' b=some o->∃ ob,B.get? b=some ob
noncomputable def qD (P:Program) (w:World) (l:List Env) (H:Hp) (s:Shared) (E:XK) (e:Value) (s':Shared):Prop:=
 ∃ (a C:Addr) (a0:Value) (B:Heap) (H':Hp),e=.ref a/\s'.os=s.os/\AllBare s'.gens/\Heap.FlyingW B l a (.ref C) a0 s'.heap/\xQ P w l H s.heap B H' s'.heap/\E (.ref C) none H'
theorem xI.there {P:Program} {w:World} {H:Hp} {h:Heap} {a:Addr} {o:HO} (x:xI P w H h a o):∃ ob,h.get? a=some ob:=by
 cases o with
 | lst xs=>obtain ⟨_,_,_,_,e⟩:=x; exact ⟨_,e⟩
 | tup xs=>obtain ⟨_,_,_,o,e,_⟩:=x; exact ⟨_,e⟩
 | dK kvs=>obtain ⟨_,_,_,_,o,_,_,e,_⟩:=x; exact ⟨_,e⟩
 | dT kvs=>obtain ⟨_,_,_,_,o,_,_,e,_⟩:=x; exact ⟨_,e⟩
 | set S n=>obtain ⟨o,_,_,_,e,_⟩:=x; exact ⟨_,e⟩
 | ins C dx fs=>obtain ⟨_,_,_,e,_⟩:=x; exact ⟨_,e⟩
 | own y=>obtain ⟨_,e⟩:=x; exact ⟨_,e⟩
 | xd fs=>obtain ⟨_,⟨_,_,_,e,_⟩,_⟩:=x; exact ⟨_,e⟩
 | rng lo hi=>obtain ⟨_,_,_,e⟩:=x; exact ⟨_,e⟩
 | frz ob u=>obtain ⟨e,_⟩:=x; exact ⟨_,e⟩
 | tbl ps=>exact ⟨_,(show h.get? a=some _ from x)⟩
 | met f y=>exact ⟨_,(show h.get? a=some _ from x)⟩
 | ext φ=>obtain ⟨_,⟨_,e⟩,_⟩:=x; exact ⟨_,e⟩
section
variable {P:Program} {w:World} {l:List Env} {H H':Hp} {h B h' h'':Heap}
theorem xQ.hok (x:yo P w H' h') (tr:∀ b o,H' b=some o->∃ ob,B.get? b=some ob) (k1:B.StaysIn h') (k2:B.StaysIn h''):yo P w H' h'':=fun b o e=>
 (x b o e).stay (fun c u hc q=>by
  have hc':∃ z,H' c=some z:=by
   rcases hc with z | z
   ·exact ⟨o,by rw [z]; exact e⟩
   ·exact ⟨_,z⟩
  obtain ⟨z,hz⟩:=hc'
  obtain ⟨ob,hb⟩:=tr c z hz
  have e1:some ob=some u:=(k1 c ob hb).symm.trans q
  cases e1
  exact k2 c _ hb) (fun _ z=>z) (fun _ _ z=>z)
theorem xQ.fly (x:xQ P w l H h B H' h') (k1:B.StaysIn h') (k2:B.StaysIn h'') (up:h'.UpToSlots h'') (fr:∀ b∈yT l,H b=none/\∃ o,h.get? b=some o/\∀ vs,o.data≠.fields vs):xQ P w l H h B H' h'' where
 un:=by
  have sl:∀ b o,h.get? b=some o->H b=none->b∈yT l->∃ sl,h''.get? b=some { o with slots:=sl }:=fun b o e n hb=>by
   obtain ⟨s1,e1⟩:=x.un.slot b o e n hb (by simp)
   obtain ⟨_,o2,e2,d2⟩:=fr b hb
   rw [e] at e2
   cases e2
   obtain ⟨s2,e3⟩:=up b _ e1 d2
   exact ⟨s2,e3⟩
  exact ⟨fun b o e n hb _=>k2 b o (x.kb b o e n hb),fun b o e n hb _=>sl b o e n hb,x.un.free,fun b o e hx=>by
   by_cases hb:b∈yT l
   ·obtain ⟨s1,e1⟩:=sl b o e (fr b hb).1 hb
    exact ⟨_,e1⟩
   ·obtain ⟨o',e'⟩:=x.all b o e hb
    exact ⟨o',k2 b o' e'⟩,x.un.tups,x.un.frzs,x.un.tbls⟩
 ok:=xQ.hok x.ok x.tr k1 k2
 kb:=x.kb
 all:=x.all
 tr:=x.tr
end
section
variable {X:Cx} {pins:List (Addr×Obj)} {σ:St} {H H':Hp} {s:Shared} {B h':Heap}
theorem Inv.frData (I:Inv X pins σ H s):∀ b∈yT X.stack,H b=none/\∃ o,s.heap.get? b=some o/\∀ vs,o.data≠.fields vs:=fun b hb=>⟨I.stkFree b hb,(I.stack.mem hb).2⟩
theorem xQ.pop (I:Inv X pins σ H s) (hst:X.stack=X.env::X.outer) (hf:X.env.frame=some X.env.locals) (hex:X.ex=[]) (x:xQ X.prog X.w X.stack H s.heap B H' h'):xQ X.prog X.w X.outer X.H₀ X.s₀.heap B H' h':=by
 have ne:∀ b o,X.s₀.heap.get? b=some o->b≠X.env.locals:=fun b o e=>Nat.ne_of_lt (Nat.lt_of_lt_of_le (Heap.lt_size e) I.ok.above)
 have nex:∀ b,b ∉ X.ex:=fun b=>by rw [hex]; simp
 have nst:∀ b o,X.s₀.heap.get? b=some o->b ∉ X.fs->b ∉ yT X.stack:=fun b o e hb z=>(List.mem_cons.mp (I.stkSub b z)).elim (ne b o e) hb
 have ist:∀ b,b∈X.fs->b∈yT X.stack:=fun b hb=>by
  rw [hst]
  unfold yT
  rw [List.filterMap_cons,hf]
  exact List.mem_cons_of_mem _ hb
 have kb':∀ b o,X.s₀.heap.get? b=some o->X.H₀ b=none->b ∉ yT X.outer->B.get? b=some o:=fun b o e n hb=>
  x.kb b o (I.base.keep b o e n hb (nex b)) (I.base.free b o e n (nex b)) (nst b o e hb)
 have all':∀ b o,X.s₀.heap.get? b=some o->b ∉ yT X.outer->∃ o',B.get? b=some o':=fun b o e hb=>by
  obtain ⟨o1,e1⟩:=I.base.there b o e (nex b)
  exact x.all b o1 e1 (nst b o e hb)
 refine ⟨⟨fun b o e n hb _=>?_,fun b o e n hb _=>?_,fun b o e n _=>?_,fun b o e _=>?_,fun b xs e=>x.un.tups b xs (I.base.tups b xs e),fun b o u e=>x.un.frzs b o u (I.base.frzs b o u e),fun b ps e=>?_⟩,x.ok,kb',all',x.tr⟩
 ·exact x.un.keep b o (I.base.keep b o e n hb (nex b)) (I.base.free b o e n (nex b)) (nst b o e hb) (by simp)
 ·obtain ⟨s1,e1⟩:=I.base.slot b o e n hb (nex b)
  obtain ⟨s2,e2⟩:=x.un.slot b _ e1 (I.base.free b o e n (nex b)) (ist b hb) (by simp)
  exact ⟨s2,e2⟩
 ·obtain ⟨o1,e1⟩:=I.base.there b o e (nex b)
  exact x.un.free b o1 e1 (I.base.free b o e n (nex b)) (by simp)
 ·obtain ⟨o1,e1⟩:=I.base.there b o e (nex b)
  exact x.un.there b o1 e1 (by simp)
 ·obtain ⟨m1,e1⟩:=I.base.tbls b ps e
  obtain ⟨m2,e2⟩:=x.un.tbls b _ e1
  exact ⟨m1++m2,by rw [e2,Array.append_assoc]⟩
theorem xQ.made (I:Inv X pins σ H s) (k:(hideAll s.heap (yT X.stack)).StaysIn h') (up:s.heap.UpToSlots h'):xQ X.prog X.w X.stack H s.heap (hideAll s.heap (yT X.stack)) H h':=by
 have hid:∀ b o,s.heap.get? b=some o->b ∉ yT X.stack->(hideAll s.heap (yT X.stack)).get? b=some o:=fun b o e hb=>PySem.W.hideAll_get _ e hb
 have tr:∀ b o,H b=some o->∃ ob,(hideAll s.heap (yT X.stack)).get? b=some ob:=fun b o e=>by
  have hb:b ∉ yT X.stack:=fun z=>by rw [I.stkFree b z] at e; cases e
  have lt:=I.hok.lt e
  cases q:s.heap.get? b with
  | some ob=>exact ⟨ob,hid b ob q hb⟩
  | none=>
   exfalso
   have hk:=I.hok b o e
   have th:∃ ob,s.heap.get? b=some ob:=xI.there hk
   obtain ⟨ob,z⟩:=th
   rw [q] at z
   cases z
 have sl:∀ b o,s.heap.get? b=some o->b∈yT X.stack->∃ sl,h'.get? b=some { o with slots:=sl }:=fun b o e hb=>by
  obtain ⟨_,o2,e2,d2⟩:=I.frData b hb
  rw [e] at e2
  cases e2
  exact up b o e d2
 refine ⟨⟨fun b o e n hb _=>k b o (hid b o e hb),fun b o e n hb _=>sl b o e hb,fun b o e n _=>n,fun b o e _=>?_,fun _ _ z=>z,fun _ _ _ z=>z,fun b ps e=>⟨#[],by rw [e]; simp⟩⟩,?_,fun b o e _ hb=>hid b o e hb,fun b o e hb=>⟨o,hid b o e hb⟩,tr⟩
 ·by_cases hb:b∈yT X.stack
  ·obtain ⟨s1,e1⟩:=sl b o e hb
   exact ⟨_,e1⟩
  ·exact ⟨o,k b o (hid b o e hb)⟩
 ·exact xQ.hok I.hok tr (fun b o e=>PySem.W.of_hideAll _ e) k
structure xO (K:PySem.W.Frag) (mg:Str->Option Value) (x:Str) (C:Addr):Prop where
 at_:mg x=some (.ref C)
 ex:PySem.W.excIn K C [.type "ValueError",.type "Exception",.type "BaseException",.type "object"] "ValueError.__new__" = true
theorem xO.own {K:PySem.W.Frag} {mg:Str->Option Value} {x:Str} {C:Addr} {h:Heap} (c:xO K mg x C) (X:K.In h):OwnCls x C [.type "ValueError",.type "Exception",.type "BaseException",.type "object"] "ValueError.__new__" mg h:=by
 refine ⟨c.at_,?_⟩
 have q:=c.ex
 unfold PySem.W.excIn at q
 split at q
 ·rename_i dd cd sl ho
  split at q
  ·rename_i C' bm k0 k1 k2 k3 n k5 hm hs
   simp only [Bool.and_eq_true,beq_iff_eq,Bool.not_eq_true'] at q
   obtain ⟨⟨⟨⟨⟨rfl,rfl⟩,hdel⟩,ht⟩,hok⟩,hni⟩:=q
   obtain ⟨nm,bs,mro,ns,qn,hd,sn,sub,ab,col,del⟩:=cd
   dsimp only at hm hdel hok hni
   subst hm hdel
   have hsl:sl=#[k0,k1,k2,k3,some (.builtin "ValueError.__new__"),k5]:=by
    obtain ⟨l⟩:=sl
    simp only at hs
    rw [hs]
   subst hsl
   exact ⟨bm,ns,nm,qn,bs,hd,sn,sub,ab,col,dd,k0,k1,k2,k3,k5,_,X _ _ ho,.of_isNs (PySem.W.isNs_of_in X hok),PySem.W.nsMap_none_of_in X hok hni,PySem.W.tail_of_in X ht⟩
  ·cases q
 ·cases q
variable {x:Str} {C:Addr} {np cpos pos:Pos} {e:Expr} {es:List Expr} {t:TA} {E:XK}
noncomputable def ZI (X:Cx) (E:XK):Prop:=∀ (pins:List (Addr×Obj)) (σ:St) (H:Hp) (s:Shared) (a C:Addr) (vs:List Value) (h':Heap),Inv X pins σ H s->Heap.MadeExcOf s.heap h' a (.ref C) vs->E (.ref C) none H->X.xe (.ref a) { s with heap:=h' }
noncomputable def EO (C:Addr) (E:XK) (t:TA):TS:=fun _ σ H=>t σ H fun vs H1=>vs.length<=sizeLine/\E (.ref C) none H1
theorem F8 (c:xO X.K X.mg x C) (hr:ZI X E) (hh:X.A.handled=none) (hg:Gl X x) (ha:PA X (e::es) t) (hdb:(x == ("__debug__" : Str))=false:=by decide) (he:(e::es).all yf=true:=by rfl) :
  PS X (.Raise (some (.Call (.Name x np) (e::es) [] cpos)) none pos) (EO C E t):=by
 intro pins s σ H D I h
 have he':=he
 rw [List.all_cons,Bool.and_eq_true] at he'
 have O:=c.own I.mod.kin
 obtain ⟨tl,N,nm,q,bs,hdct,sn,sub,ab,col,dd,k0,k1,k2,k3,k5,mN,hC,hN,hni,T⟩:=O.obj
 have FB:=PySem.F.excBase_ValueError
 refine wpAny_Raise_call_subT (C:=C) (nm:=nm) (q:=q) (N:=N) (bs:=bs) (bm:=tl) (hdct:=hdct) (sn:=sn) (sub:=sub) (ab:=ab) (col:=col) (dd:=dd) (k0:=k0) (k1:=k1) (k2:=k2) (k3:=k3) (k5:=k5)
  FB (mN:=mN) (T.hasType FB.hasBase) hh (tG he) hni (tW I hg c.at_ ⟨rfl,?_⟩ hdb)
 have ha':=ha cpos pins s σ H _ I h
 rw [wc he'.1] at ha' ⊢
 refine Calls.evalArgs_plain (zf ha' fun us s2 ⟨vs,H1,I1,r,hl,q1⟩=>?_)
 exact ⟨rfl,by rw [<- r.length]; exact hl,I1.bk _ _ hC,hN.keeps I1.bk,T.keeps I1.bk,fun h' a hm=>hr pins σ H1 s2 a C us h' I1 hm q1⟩
end
section
variable {P:Program} {w:World} {K:PySem.W.Frag} {mg:Str->Option Value} {base:Heap} {N:List Str} {qual:Str} {scope:Scope} {f:Addr} {cd:Value} {A:Around} {outer:List Env} {s₀:Shared} {H₀:Hp} {E:XK}
noncomputable abbrev uH (P:Program) (w:World) (K:PySem.W.Frag) (mg:Str->Option Value) (base:Heap) (N:List Str) (qual:Str) (scope:Scope) (f:Addr) (cd:Value) (A:Around) (outer:List Env) (s:Shared) (H:Hp) (E:XK):Cx:=
 vj (qD P w) P w K mg base N qual scope f cd A outer s H E
theorem F_:ZI (uH P w K mg base N qual scope f cd A outer s₀ H₀ E) E:=by
 intro pins σ H s a C vs h' I hm hE
 have hin:∀ env∈(uH P w K mg base N qual scope f cd A outer s₀ H₀ E).stack,∀ b,env.frame=some b->b∈yT (uH P w K mg base N qual scope f cd A outer s₀ H₀ E).stack:=fun env he b hb=>List.mem_filterMap.mpr ⟨env,he,hb⟩
 show wpAny (model P w) _ (leaving _ (.ref a)) _ _ _
 refine wpAny_leaves_madeW (s:={ s with heap:=h' }) (base:=hideAll s.heap (yT (uH P w K mg base N qual scope f cd A outer s₀ H₀ E).stack)) I.ok.frames rfl (fun b o q=>PySem.W.of_hideAll _ q) (PySem.W.funFrames_hide I.stack hin) hm fun h2 t x1 x2 x3 x4=>?_
 have up:s.heap.UpToSlots h2:=(Heap.UpToSlots.of_keeps hm.keeps).trans x4
 exact ⟨a,C,.ref t,_,H,rfl,I.os,I.bare,x1,xQ.pop I rfl rfl rfl (xQ.made I x1.1 up),hE⟩
theorem DN:qK (qD P w) (uH P w K mg base N qual scope f cd A outer s₀ H₀ E) E:=by
 intro pins σ H s e s' I h
 obtain ⟨a,C,a0,B,H',rfl,ho,hg,hf,hx,hE⟩:=h
 show wpAny (model P w) _ (leaving _ (.ref a)) _ _ _
 refine wpAny_leaves_onW (s:=s') I.ok.frames rfl hf fun h2 x1 up=>?_
 exact ⟨a,C,a0,B,H',rfl,ho.trans I.os,hg,x1,xQ.pop I rfl rfl rfl (hx.fly hf.1 x1.1 up I.frData),hE⟩
theorem DI:PassesOwn (model P w) (uH P w K mg base N qual scope f cd A outer s₀ H₀ E).A (uH P w K mg base N qual scope f cd A outer s₀ H₀ E).env (uH P w K mg base N qual scope f cd A outer s₀ H₀ E).xe:=PassesOwn.leaving
noncomputable def uF (P:Program) (w:World) (K:PySem.W.Frag) (mg:Str->Option Value) (base:Heap) (x:Str) (ps:List Str) (k:Nat) (sp:Sp):Prop:=
 ∃ (f:Addr) (fd:FuncData),mg x=some (.ref f)/\PySem.W.keepIn K (.ref f)=true/\uZ K fd ps []/\wv P w K mg base (qD P w) k f fd ps sp
theorem Def.okX {x:Str} {st:Stmt} {N ps:List Str} {k:Nat} {sp:Sp} (d:Def K mg x st ps) (S:yc N ps (y9 st)) (len:∀ vs H Q E,sp vs H Q E->vs.length=ps.length)
  (hbody:∀ (f:Addr) (cdv:Value) (A:Around) (outer:List Env) (s:Shared) (H:Hp) (vs:List V) (Q:VK) (E:XK),yg k (A.deeper (envOfC x (y9 st) s.heap.objs.size f cdv))->sp vs H Q E->
   ∃ t,Xu (uH P w K mg base N x (y9 st) f cdv A outer s H E) (wU st) t/\t { nx:=fun _ H'=>Q .non H',rt:=Q } (start N vs) H):uF P w K mg base x ps (k+1) sp:=by
 obtain ⟨f,fd,F,hm,hb⟩:=d
 obtain ⟨oc,od,kV,doc,pm,an,cdv,ct,osl,rfl,lk,hcd⟩:=F.ex
 refine ⟨f,_,hm,F.kp,hb,Wg lk hcd S len fun A outer s H vs Q E hr hsp=>?_⟩
 obtain ⟨t,h,q⟩:=hbody f cdv A outer s H vs Q E hr hsp
 exact ⟨t,h.h,q⟩
end
section
variable {X:Cx} {x:Str} {np cpos pos p:Pos} {e:Expr} {es:List Expr} {t:TA} {E:XK} {C:Addr} {ps:List Str} {j k:Nat} {sp:Sp}
theorem JC (h:uF X.prog X.w X.K X.mg X.base x ps k sp) (hx:qK (qD X.prog X.w) X E) (hr:yg j X.A) (hg:Gl X x) (ha:QA X (e::es) t) (hk:k<=j:=by decide) (hdb:(x == ("__debug__" : Str))=false:=by decide)
  (he:(e::es).all yf=true:=by rfl):QE X (.Call (.Name x p) (e::es) [] pos) (Yw sp [] E t):=by
 obtain ⟨f,fd,hm,kp,b,F⟩:=h
 rw [List.all_cons,Bool.and_eq_true] at he
 exact ⟨Qt F (hr.mono hk) hg hm kp b .nil hx ha.h hdb (wc he.1) (tG he.2)⟩
end
end L2
namespace L2
open PySem PySem.Spec PyProof.Rows
noncomputable abbrev Cx.marked (X:Cx) (a:Addr):Cx:={ X with A:=X.A.mark (some (.ref a)),calm:=false,xe:=fun _ _=>False }
noncomputable abbrev Cx.uncalm (X:Cx) (A:Around) (xe:Value->Shared->Prop):Cx:={ X with A:=A,calm:=false,xe:=xe }
section
variable {X:Cx} {pins:List (Addr×Obj)} {σ:St} {H H':Hp} {s:Shared} {a C:Addr}
theorem Inv.uncalm (I:Inv X pins σ H s) {A:Around} (hf:A.frames=X.A.frames) (xe:Value->Shared->Prop):Inv (X.uncalm A xe) pins σ H s:=
 ⟨⟨I.ok.mod,I.ok.kind,I.ok.glob,I.ok.blt,I.ok.above,I.ok.inj,I.ok.has,I.ok.cab,(fun z=>nomatch z),hf.trans I.ok.frames,I.ok.stk,I.ok.exf,I.ok.bs,I.ok.bsz,I.ok.noex,I.ok.exfs,I.ok.funs,I.ok.frf⟩,I.os,I.bare,I.base,I.loc,I.cell,I.free,I.freeC,I.pin,I.hok,I.len⟩
theorem Inv.marked (I:Inv X pins σ H s) (a:Addr):Inv (X.marked a) pins σ H s:=I.uncalm (A:=X.A.mark (some (.ref a))) rfl _
theorem Inv.unmarked (I:Inv (X.marked a) pins σ H s) (hd:X.calm=true->X.A.handled=none):Inv X pins σ H s:=
 ⟨⟨I.ok.mod,I.ok.kind,I.ok.glob,I.ok.blt,I.ok.above,I.ok.inj,I.ok.has,I.ok.cab,hd,I.ok.frames,I.ok.stk,I.ok.exf,I.ok.bs,I.ok.bsz,I.ok.noex,I.ok.exfs,I.ok.funs,I.ok.frf⟩,I.os,I.bare,I.base,I.loc,I.cell,I.free,I.freeC,I.pin,I.hok,I.len⟩
theorem Inv.forget {h':Heap} {m':Str->Option Value} {tk:Nat} (I:Inv X pins σ H s) (ns:h'.Ns X.env.locals m') (hs:Heap.SameBut X.env.locals s.heap h'):Inv X pins (List.replicate X.N.length none) H { s with heap:=h',toks:=tk }:=by
 have ne:∀ b o,X.s₀.heap.get? b=some o->b≠X.env.locals:=fun b o e=>Nat.ne_of_lt (Nat.lt_of_lt_of_le (Heap.lt_size e) I.ok.above)
 have kp:∀ b o,b≠X.env.locals->s.heap.get? b=some o->h'.get? b=some o:=fun b o hb e=>(hs.2 b hb).trans e
 have tn:∀ b o,H b=some o->b≠X.env.locals:=fun b o e z=>by rw [z,I.free] at e; cases e
 refine ⟨I.ok,I.os,I.bare,⟨fun b o e n hb hx=>kp b o (ne b o e) (I.base.keep b o e n hb hx),fun b o e n hb hx=>?_,I.base.free,fun b o e hx=>?_,I.base.tups,I.base.frzs,I.base.tbls⟩,⟨m',ns,fun i x v _ e2 _=>?_⟩,fun x c e=>?_,I.free,I.freeC,fun p hp=>?_,fun b o e=>?_,List.length_replicate ..⟩
 ·obtain ⟨sl,e1⟩:=I.base.slot b o e n hb hx
  exact ⟨sl,kp b _ (ne b o e) e1⟩
 ·obtain ⟨o',e1⟩:=I.base.there b o e hx
  exact ⟨o',kp b _ (ne b o e) e1⟩
 ·rw [List.getElem?_replicate] at e2
  split at e2<;>cases e2
 ·obtain ⟨v,o,ho,hd⟩:=I.cell x c e
  exact ⟨v,o,kp c o (I.cne x c e) ho,hd⟩
 ·obtain ⟨e,n,hne,nf,d⟩:=I.pin p hp
  exact ⟨kp _ _ hne e,n,hne,nf,d⟩
 ·refine (I.hok b o e).stay (fun c u hc q=>kp c u ?_ q) (fun _ z=>z) (fun _ _ z=>z)
  rcases hc with z | z
  ·rw [z]; exact tn b o e
  ·exact tn c _ z
noncomputable def uA (a C:Addr) (h:Heap):Prop:=∃ o vs,h.get? a=some o/\o.cls=.ref C/\o.data=.fields vs
theorem Il {fs ex:List Addr} {H H':Hp} {h h':Heap} {D:Addr} {o:HO} (u:Un fs ex H H' h h') (hD:h.get? D=none) (hn:H' D=none):Un fs ex H (zu H' D o) h h' where
 keep:=u.keep
 slot:=u.slot
 free:=fun b ob q n hx=>by rw [yn (fun z=>by subst z; rw [hD] at q; cases q)]; exact u.free b ob q n hx
 there:=u.there
 tups:=fun b xs q=>by rw [yn (wm (u.tups b xs q) hn)]; exact u.tups b xs q
 frzs:=fun b ob v q=>by rw [yn (wm (u.frzs b ob v q) hn)]; exact u.frzs b ob v q
 tbls:=fun b ps q=>by
  obtain ⟨more,z⟩:=u.tbls b ps q
  exact ⟨more,by rw [yn (wm z hn)]; exact z⟩
noncomputable def XP (X:Cx) (pins:List (Addr×Obj)) (σ:St) (E:XK) (ev:Value) (s':Shared):Prop:=∃ H s1,Inv X pins σ H s1/\qD X.prog X.w X.stack H s1 E ev s'
end
noncomputable abbrev TX:=St->Hp->VK->XK->Prop
structure QX (X:Cx) (e:Expr) (t:TX):Prop where
 h:∀ (pins:List (Addr×Obj)) (s:Shared) (σ:St) (H:Hp) (Q:VK) (E:XK),Inv X pins σ H s->t σ H Q E->wpAny (model X.prog X.w) X.A (eval e X.env) (EP X pins σ Q) (XP X pins σ E) s
section
variable {X:Cx} {x n:Str} {p pos np hpos tpos:Pos} {e e1 e2:Expr} {es:List Expr} {ta:TA} {te:TE} {tx:TX} {ps:List Str} {j k i:Nat} {sp:Sp} {E:XK} {D:Addr}
noncomputable def Iz (sp:Sp) (t:TA):TX:=fun σ H Q E=>t σ H fun vs H1=>sp vs H1 Q E
theorem Fn (h:uF X.prog X.w X.K X.mg X.base x ps k sp) (hr:yg j X.A) (hg:Gl X x) (ha:QA X.nox (e::es) ta) (hk:k<=j:=by decide) (hdb:(x == ("__debug__" : Str))=false:=by decide)
  (he:(e::es).all yf=true:=by rfl):QX X (.Call (.Name x p) (e::es) [] pos) (Iz sp ta):=by
 obtain ⟨f,fd,hm,kp,b,F⟩:=h
 rw [List.all_cons,Bool.and_eq_true] at he
 refine ⟨fun pins s σ H Q E I q=>?_⟩
 refine wpAny_Call_Name_kw (tW I hg hm ?_ hdb)
 have ha':=ha.h pos pins s σ H (fun vs H1=>sp vs H1 Q E) (I.wish _) q
 refine PySem.W.callWith_K (h₀:=X.base) I.ok.mod.kin kp (wpAny_mono ha' (fun us s1 ⟨vs,H1,I1',r,q1⟩=>?_) fun _ _ z=>z.elim) (wc he.1) (tG he.2)
 have I1:Inv X pins σ H1 s1:=I1'.unwish
 refine ⟨I1.kIn,?_⟩
 have hl:us.length=ps.length:=by rw [<- r.length]; exact F.len _ _ _ _ q1
 have hl2:(us++[]).length=ps.length:=by rw [List.append_nil]; exact hl
 have hb:=b s1 us I1.kIn hl2
 rw [List.append_nil] at hb
 refine wpAny_call (codeAny_mono (F.run X.A X.stack s1 H1 ⟨us,[]⟩ us vs Q E (hr.mono hk) I1.env0 hb r q1) fun r s' hq=>?_)
 cases r with
 | error e=>exact ⟨H1,s1,I1,hq⟩
 | ok fl=>
  cases fl with
  | ret u=>exact I1.after hq
  | next=>exact False.elim hq
  | brk=>exact False.elim hq
  | cont=>exact False.elim hq
theorem Zn {pins:List (Addr×Obj)} {σ:St} {H H':Hp} {s1 s':Shared} {a C:Addr} {a0:Value} {B:Heap} (I:Inv X pins σ H s1) (hex:X.ex=[]) (ho:s'.os=s1.os) (hg:AllBare s'.gens)
  (fl:Heap.FlyingW B X.stack a (.ref C) a0 s'.heap) (x:xQ X.prog X.w X.stack H s1.heap B H' s'.heap):H' a=none/\Inv X pins σ H' s'/\Inv X pins σ (zu H' a (.ext (uA a C))) s':=by
 have na:H' a=none:=by
  cases q:H' a with
  | none=>rfl
  | some o=>
   obtain ⟨ob,e⟩:=x.tr a o q
   rw [fl.2.1] at e
   cases e
 obtain ⟨oe,vs,e1,c1,d1,_⟩:=fl.first
 have ns:s1.heap.get? a=none:=by
  cases q:s1.heap.get? a with
  | none=>rfl
  | some o=>
   exfalso
   by_cases hb:a∈yT X.stack
   ·obtain ⟨n0,o2,e2,d2⟩:=I.frData a hb
    obtain ⟨sl,e3⟩:=x.un.slot a o2 e2 n0 hb (by simp)
    rw [e1] at e3
    cases e3
    exact d2 vs d1
   ·obtain ⟨o',e'⟩:=x.all a o q hb
    rw [fl.2.1] at e'
    cases e'
 have J:Inv X pins σ H' s':=I.call' ho x.un x.ok hg (ch:=[]) (fun b hb=>absurd hb (by simp))
 have new:xI X.prog X.w (zu H' a (.ext (uA a C))) s'.heap a (.ext (uA a C)):=⟨⟨oe,vs,e1,c1,d1⟩,⟨oe,e1⟩,fun h1 h2 ⟨o,ws,q1,q2,q3⟩ k=>⟨o,ws,k o q1,q2,q3⟩⟩
 exact ⟨na,J,I.call' ho (Il x.un ns na) (Wu x.ok na new) hg (ch:=[]) (fun b hb=>absurd hb (by simp))⟩
variable {suite:List Stmt} {ts:TS} {b₀:Stmt}
end
end L2
namespace L2
open PySem PySem.Spec PyProof.Rows
noncomputable abbrev TJ:=St->Hp->Str->VK->Prop
structure QJ (X:Cx) (es:List Expr) (t:TJ):Prop where
 h:∀ (pins:List (Addr×Obj)) (s:Shared) (σ:St) (H:Hp) (acc:Str) (Q:VK),Inv X pins σ H s->t σ H acc Q->wpAny (model X.prog X.w) X.A (joinParts acc (evalEach es X.env)) (EP X pins σ Q) X.xe s
section
variable {X:Cx} {e e1 e2:Expr} {es:List Expr} {te:TE} {t:TJ} {pos:Pos}
noncomputable def EG (te:TE) (t:TJ):TJ:=fun σ H acc Q=>te σ H fun v H1=>∃ y,v=.str y/\(acc++y).length<=sizeLine/\t σ H1 (acc++y) Q
theorem Fm:QJ X [] (fun _ H acc Q=>acc.length<=sizeLine/\Q (.str acc) H):=⟨fun pins s σ H acc Q I q=>wpAny_mkStr ⟨.str acc,H,I.tok _,⟨_,rfl⟩,q.2⟩ q.1⟩
theorem Fk (he:QE X e te) (ht:QJ X es t):QJ X (e::es) (EG te t):=by
 refine ⟨fun pins s σ H acc Q I q=>?_⟩
 show wpAny _ _ (joinParts acc (eval e X.env::evalEach es X.env)) _ _ s
 refine joinParts_cons (zf (he.h pins s σ H _ I q) fun u s1 ⟨v,H1,I1,r,y,hv,hl,q1⟩=>?_)
 subst hv
 obtain ⟨tk,rfl⟩:=(show ∃ tk,u=Value.str y tk from r)
 exact ⟨hl,ht.h pins s1 σ H1 _ Q I1 q1⟩
theorem Ff (h:QJ X (e1::e2::es) t):QE X (.JoinedStr (e1::e2::es) pos) (fun σ H Q=>t σ H Str.empty Q):=⟨fun pins s σ H Q I q=>h.h pins s σ H _ Q I q⟩
noncomputable def EB (te:TE):TE:=fun σ H Q=>te σ H fun v H1=>(∃ a:Int,v=.int a/\a.natAbs.log2<1920/\Q (.str (Str.ofString (toString a))) H1)\/∃ y:Str,v=.str y/\y.length<=sizeLine/\Q (.str y) H1
theorem Fc (he:QE X e te):QE X (.FormattedValue e (-1) none pos) (EB te):=by
 refine ⟨fun pins s σ H Q I q=>?_⟩
 refine FormattedValue_plain (zf (he.h pins s σ H _ I q) fun u s1 ⟨v,H1,I1,r,z⟩=>?_)
 rcases z with ⟨a,rfl,hl,q1⟩ | ⟨y,rfl,hl,q1⟩
 ·obtain ⟨tk,rfl⟩:=(show ∃ tk,u=Value.int a tk from r)
  exact formatField_int_small hl ⟨.str (Str.ofString (toString a)),H1,I1.tok _,⟨_,rfl⟩,q1⟩
 ·obtain ⟨tk,rfl⟩:=(show ∃ tk,u=Value.str y tk from r)
  exact formatField_str (fun t' tk'=>⟨.str y,H1,I1.tok _,⟨_,rfl⟩,q1⟩) hl
theorem int_le {a:Int} (h:a.natAbs.log2<1920):(Str.ofString (toString a)).length<=1921:=by
 have e:=int_text_length_le (k:=1920) (by decide) h
 rw [PySem.ofString_length]; exact e
theorem Ec {a:Str} {m:Nat} (h:a.length<=m) (hm:m<=16777216:=by decide):a.length<=sizeLine:=Nat.le_trans h (by rw [sizeLine_eq]; exact hm)
end
end L2
namespace L2
open PySem PySem.Spec PyProof.Rows
open PySem.W (Looks findIn mroIn looks_findIn looks_mroIn clsIn)
structure u9 (K:PySem.W.Frag) (C:Addr):Prop where
 ga:findIn K (.ref C) "__getattribute__" = some (some (.builtin "BaseException.__getattribute__"))
 gt:findIn K (.ref C) "__getattr__" = some none
 cl:findIn K (.ref C) "__class__" = some (some (.builtin "object.__class__"))
 mo:mroIn K C (.type "object")=some true
 mb:mroIn K C (.type "BaseException")=some true
section
variable {prog:Program} {w:World} {A:Around} {E:Value->Shared->Prop} {h:Heap} {g:Array GenState} {d:Drawn} {t:Nat} {os:OsState} {a C:Addr} {o:Obj} {K:PySem.W.Frag}
theorem LQ {R:Result->Shared->Prop} (Z:u9 K C) (KI:K.In h) (hx:h.get? a=some o) (hc:o.cls=.ref C) (hq:R (.ok (.ret (.ref C))) ⟨h,g,d,t,os⟩) :
  codeAny (model prog w) A (.call (.builtin "getset_descriptor.__get__") ⟨[.builtin "object.__class__",.ref a,.ref C],[]⟩) R ⟨h,g,d,t,os⟩:=by
 have hT5:(⟨h,g,d,t,os⟩:Shared).TypeIs (.builtin "object.__class__") "getset_descriptor" := F.typeOf_object_class
 have L:Looks (model prog w) h (isSubtype (.ref C) (.type (".".intercalate ("object.__class__".cutAt '.').dropLast))) true:=by rw [F.owner_object_class]; exact looks_mroIn KI Z.mo
 refine codeAny_call_builtin F.slot_gs_get.plain F.entry_gs_get (F.slot_gs_get.check _ _ _ _ _ _ _ _ hT5 (F.args_gs_get _ _ _) ?_)
 repeat (any_goals (first | assumption | (with_reducible refine wpAny_loadPart_at hx ?_; rw [hc]) | with_reducible refine L.at ?_ | wp_step))
 refine ⟨Code.quiet_builtin _ (by decide +kernel),codeAny_builtin F.entry_object_class ?_⟩
 repeat (any_goals (first | assumption | (with_reducible refine wpAny_loadPart_at hx ?_; rw [hc]) | wp_step))
theorem LO {M:Model} {nameV:Value} {Q:Unit->Shared->Prop} (Z:u9 K C) (KI:K.In h) (hx:h.get? a=some o) (hc:o.cls=.ref C) (hq:Q () ⟨h,g,d,t,os⟩) :
  wpAny M A (checkBuiltinCall "BaseException.__getattribute__" ⟨[.ref a,nameV],[]⟩) Q E ⟨h,g,d,t,os⟩:=by
 have hk:builtinKind "BaseException.__getattribute__" = some .slot:=by decide +kernel
 have hsplit:splitId "BaseException.__getattribute__" = some ("BaseException", "__getattribute__"):=by decide +kernel
 have L:Looks M h (isSubtype (.ref C) (.type "BaseException")) true:=looks_mroIn KI Z.mb
 have ha:=F.args_bexc_ga (.ref a) nameV
 simp only [checkBuiltinCall,hk,hsplit]
 refine wpAny_bind ?_
 ·unfold isInstance
  repeat (first | (with_reducible refine wpAny_loadPart_at hx ?_; rw [hc]) | with_reducible refine L.at ?_ | wp_step)
  exact hq
theorem LP {tk:Tok} {Q:Fin->Shared->Prop} (Z:u9 K C) (KI:K.In h) (hx:h.get? a=some o) (hc:o.cls=.ref C) (hq:Q (.done (.ret (.ref C))) ⟨h,g,d,t,os⟩) :
  wpAny (model prog w) A (Builtin.«object.__getattribute__» ⟨[.ref a,.str "__class__" tk],[]⟩) Q E ⟨h,g,d,t,os⟩:=by
 have hT5:(⟨h,g,d,t,os⟩:Shared).TypeIs (.builtin "object.__class__") "getset_descriptor" := F.typeOf_object_class
 have L:=looks_findIn (M:=model prog w) KI Z.cl
 have f5:=F.typeOf_object_class
 have f6:=F.slot_gs_get.lookup
 have f7:=F.slot_gs_set.lookup
 repeat (any_goals (first | assumption | (with_reducible refine wpAny_loadPart_at hx ?_; rw [hc]) | with_reducible refine L.at ?_ | wp_step))
 refine LQ Z KI hx hc ?_
 repeat (any_goals (first | assumption | wp_step))
theorem LN {tk:Tok} {Q:Value->Shared->Prop} (Z:u9 K C) (KI:K.In h) (hx:h.get? a=some o) (hc:o.cls=.ref C) (hq:Q (.ref C) ⟨h,g,d,t,os⟩) :
  wpAny (model prog w) A (getAttrBy (.ref a) (.str "__class__" tk) false) Q E ⟨h,g,d,t,os⟩:=by
 have FB:=F.excAttr_ValueError
 have f3:=FB.ga.bind (.ref a)
 have hx2:(Value.builtin "BaseException.__getattribute__" == Value.builtin "object.__getattribute__")=false:=by decide +kernel
 have hx1:(onTheHeap (Value.ref C)&&Value.builtin "BaseException.__getattribute__" == Value.builtin "object.__getattribute__")=false:=by rw [hx2]; rfl
 have L1:=looks_findIn (M:=model prog w) KI Z.ga
 have L2:=looks_findIn (M:=model prog w) KI Z.gt
 repeat (any_goals (first | assumption | (with_reducible refine wpAny_loadPart_at hx ?_; rw [hc]) | with_reducible refine L1.at ?_ | with_reducible refine L2.at ?_ | wp_step))
 refine codeAny_call_builtin FB.ga.plain F.entry_bexc_ga (LO Z KI hx hc (LP Z KI hx hc ?_))
 repeat (any_goals (first | assumption | wp_step))
theorem LM {Q:Option Value->Shared->Prop} (Z:u9 K C) (KI:K.In h) (hx:h.get? a=some o) (hc:o.cls=.ref C) (hq:Q (some (.ref C)) ⟨h,g,d,t+1,os⟩) :
  wpAny (model prog w) A (getAttr? (.ref a) "__class__") Q E ⟨h,g,d,t,os⟩:=by
 unfold getAttr? getAttrBy?
 repeat (any_goals (first | assumption | with_reducible apply LN Z KI hx hc | wp_step))
theorem Mi (Z:u9 K C):PySem.W.KitX K (.ref a) (.ref C) (uA a C) where
 ty:=fun M h _ ⟨o,vs,e,c,_⟩=>c ▸ (Looks.ld e).andThen .now
 it:=fun M h X _=>by
  have q:=Z.mo
  unfold mroIn at q
  cases hcD:clsIn K C with
  | none=>rw [hcD] at q; cases q
  | some cd=>
   unfold clsIn at hcD
   split at hcD
   ·rename_i c' d' cd' sl' ho
    intro A' Q' E' s' k q
    unfold isType loadHead
    exact wpAny_bind (wpAny_loadPart (k _ _ (X _ _ ho)) (wpAny_pure q))
   ·cases hcD
 ne:=fun h tp dd its n sl X htp=>by
  have q:=Z.mo
  unfold mroIn at q
  refine Bool.eq_false_iff.mpr fun z=>?_
  have e:C=tp:=Value.ref.inj (beq_iff_eq.mp z)
  subst e
  cases hcD:clsIn K C with
  | none=>rw [hcD] at q; cases q
  | some cd=>
   unfold clsIn at hcD
   split at hcD
   ·rename_i c' d' cd' sl' ho
    have z:=(X _ _ ho).symm.trans htp
    cases z
   ·cases hcD
 ca:=fun {prog w A E Q s} X ⟨o,vs,e,c,_⟩ k=>by obtain ⟨h,g,d,t,os⟩:=s; exact LM Z X e c k
end
theorem xO.glb {K:PySem.W.Frag} {mg:Str->Option Value} {x:Str} {C:Addr} (c:xO K mg x C):qI mg x (.ref C):=⟨.ref C,c.at_,rfl⟩
theorem Oa:bootBuiltins "ValueError" = some (.type "ValueError"):=by decide +kernel
noncomputable def T9:V->Option Value
 | .ref D=>some (.ref D)
 | .ty T=>some (.type T)
 | _=>none
theorem Os {c:V} {cv u:Value} (h:T9 c=some cv) (r:zi c u):u=cv:=by
 cases c<;>first | (cases h; exact r) | cases h
theorem T4 {X:Cx}:xn X (.builtin "isinstance") (fun xs H Q=>∃ a C c cv b,xs=[.ref a,c]/\H a=some (.ext (uA a C))/\u9 X.K C/\T9 c=some cv/\PySem.W.kitOne X.K (.ref C) cv=some b/\Q (.bl b) H):=by
 intro pins s σ H xs us Q I r h
 obtain ⟨a,C,c,cv,b,rfl,ea,Z,hc,e,q⟩:=h
 obtain ⟨u,c',rfl,rx,rc⟩:=UQ r
 cases (show u=Value.ref a from rx)
 obtain rfl:=Os hc rc
 obtain ⟨ho,_⟩:=(show xI X.prog X.w H s.heap a (.ext (uA a C)) from I.hok a _ ea)
 exact PySem.W.kia_one (Mi Z) I.kIn ho e (fun z=>nomatch z) fun tk=>⟨.bl b,H,I.tok tk,rfl,q⟩
end L2
namespace L2
open PySem PySem.Spec PyProof.Rows
noncomputable def Uw (scope:Scope) (env:Env) (cl:List (Str×Addr)) (own:List Str):Bool:=
 scope.kind == .function&&scope.names.all (fun y=>y.2 != .cell)&&jR scope env cl own&&scope.names.all (fun y=>y.2 != .local||scope.names.lookup y.1 == some .local)
theorem pG {X:Cx} {scope:Scope} {cl:List (Str×Addr)} {own:List Str} (clos:closureFor scope X.env=pure cl) (cap:qC X.env cl:=by first | exact True.intro | exact ⟨rfl,True.intro⟩ | exact ⟨rfl,rfl,True.intro⟩ | exact ⟨rfl,rfl,rfl,True.intro⟩ | exact ⟨rfl,rfl,rfl,rfl,True.intro⟩)
  (ok:Uw scope X.env cl own=true:=by rfl):j1 X scope cl own:=by
 unfold Uw at ok
 simp only [Bool.and_eq_true] at ok
 obtain ⟨⟨⟨h1,h2⟩,h3⟩,h4⟩:=ok
 refine ⟨beq_iff_eq.mp h1,fun y hy e=>?_,cap,h3,clos,fun y hy e=>?_⟩
 ·have:=List.all_eq_true.mp h2 y hy
  rw [e] at this
  cases this
 ·have:=List.all_eq_true.mp h4 y hy
  rw [e] at this
  simpa using this
section
variable {X:Cx} (K:PySem.W.Frag) (hK:X.K=K)
include hK
end
noncomputable def O2 (K:PySem.W.Frag) (a:Addr) (xs:List V):Prop:=∀ H,yx K H a xs
theorem Ov {K:PySem.W.Frag} {a:Addr} {xs:List V} {d:Option Addr} {its:Array Value} {n:Nat} {sl:Array (Option Value)} (h:K.lookup a=some ⟨.type "tuple",d,.seq its n,sl⟩) (hz:its.size<=sizeLine) (r:zj xs its.toList):O2 K a xs:=
 fun _=>.inr ⟨_,its,n,h,rfl,rfl,hz,r⟩
end L2
namespace L2
open PySem PySem.Spec PyProof.Rows
open Builtin Builtin.Str
section
variable {X:Cx}
theorem BD:qJ X "str.index" (fun x vs H Q=>∃ (z y:Str) (i:Nat) (yG:List Nat),x=.str z/\vs=[.str y]/\occurrences z y 0 z.length 1=i::yG/\Q (.int (i:Int)) H):=by
 intro pins s σ H x vs v us Q I rx rv h
 obtain ⟨z,y,i,yG,rfl,rfl,ho,q⟩:=h
 obtain ⟨t,rfl⟩:=(show ∃ t,v=Value.str z t from rx)
 obtain ⟨u,rfl,t',rfl⟩:=vd rv
 exact call_gives F.slot_str_index (typeIs_str _ _ _) F.entry_str_index (F.args_str_index_2 _ _) (gives_str_index z y t t' i yG ho) ⟨.int i,H,I.tok _,⟨_,rfl⟩,q⟩
theorem UR:∀ {ts:List Str} {its:List Value},zj (ts.map V.str) its->∃ l:List (Str×Tok),its=strValues l/\l.map (·.1)=ts
 | [],_,.nil=>⟨[],rfl,rfl⟩
 | t::ts,_,.cons r rr=>by
  obtain ⟨k,e⟩:=(show ∃ k,_=Value.str t k from r)
  obtain ⟨l,e1,e2⟩:=UR rr
  subst e e1
  exact ⟨(t,k)::l,rfl,by rw [List.map_cons,e2]⟩
noncomputable def Fr (K:PySem.W.Frag):V->List V->Hp->VK->Prop:=fun x vs H Q=>∃ (sep:Str) (p:Addr) (ts:List Str),x=.str sep/\vs=[.ref p]/\yU K H p (ts.map V.str)/\(ts.map (·.length)).sum+ts.length*sep.length<=sizeLine/\Q (.str (glued sep ts)) H
theorem glued_len (sep:Str):∀ ts:List Str,(glued sep ts).length<=(ts.map (·.length)).sum+ts.length*sep.length
 | []=>by show (Str.length _)<=_; simp [glued,Str.length,Str.empty]
 | t::ts=>by
  have h:∀ (us:List Str) (a:Array Nat),(us.foldl (fun acc p=>acc++sep.cps++p.cps) a).size=a.size+(us.map (·.length)).sum+us.length*sep.length:=fun us=>by
   induction us with
   | nil=>intro a; simp
   | cons u us ih=>
    intro a
    rw [List.foldl_cons,ih]
    simp only [Array.size_append,List.map_cons,List.sum_cons,List.length_cons,Nat.succ_mul,Str.length]
    omega
  show (ts.foldl (fun acc p=>acc++sep.cps++p.cps) t.cps).size<=_
  rw [h]
  simp only [List.map_cons,List.sum_cons,List.length_cons,Nat.succ_mul,Str.length]
  omega
theorem BF:qJ X "str.join" (Fr X.K):=by
 intro pins s σ H x vs v us Q I rx rv h
 obtain ⟨sep,p,ts,rfl,rfl,hq,hz,q⟩:=h
 obtain ⟨t,rfl⟩:=(show ∃ t,v=Value.str sep t from rx)
 obtain ⟨u,rfl,ru⟩:=vd rv
 cases (show u=Value.ref p from ru)
 obtain ⟨its,r,pl,_⟩:=I.list hq
 obtain ⟨l,rfl,el⟩:=UR r
 have hT:s.TypeIs (.ref p) "list" := pl.isList.typeIs
 obtain ⟨o,ho,hc,n,hd⟩:=pl.isList
 have hno:tooLong ((l.map (·.1)).toArray.foldl (·+·.length+sep.length) 0)=false:=by
  rw [el,StrLaws.joinTotal]
  unfold tooLong
  exact decide_eq_false (by omega)
 have fit:(glued sep ts).length<=sizeLine:=Nat.le_trans (glued_len sep ts) hz
 refine wpAny_call (codeAny_call_builtin F.slot_str_join.plain F.entry_str_join (F.slot_str_join.check _ _ _ _ _ _ _ _ (typeIs_str _ _ _) (F.args_str_join_2 _ _) ?_))
 obtain ⟨other,e⟩:=join_tree sep t p
 rw [e]
 refine wpAny_bind (wpAny_typeOf hT ?_)
 rw [if_pos (by decide)]
 refine wpAny_bind (wpAny_seqItems ho hd ?_)
 show wpAny _ _ (joinTail sep (strValues l)) _ _ _
 rcases l with _ | ⟨a,_ | ⟨b,c⟩⟩
 ·subst el
  exact gives_joinTail sep [] hno X.prog X.w _ (fun r s'=>match r with | .ok (.ret v)=>EP X pins σ Q v s' | .ok _=>False | .error e=>X.xe e s') s ⟨fit,.str _,H,I.tok _,⟨_,rfl⟩,q⟩
 ·subst el
  exact gives_joinTail sep [a] hno X.prog X.w _ (fun r s'=>match r with | .ok (.ret v)=>EP X pins σ Q v s' | .ok _=>False | .error e=>X.xe e s') s ⟨.str _,H,I,⟨_,rfl⟩,q⟩
 ·subst el
  exact gives_joinTail sep (a::b::c) hno X.prog X.w _ (fun r s'=>match r with | .ok (.ret v)=>EP X pins σ Q v s' | .ok _=>False | .error e=>X.xe e s') s ⟨fit,.str _,H,I.tok _,⟨_,rfl⟩,q⟩
end
noncomputable def ZF (z:Str):It:=⟨fun i _=>i<z.length,fun i H x H'=>H'=H/\∃ c,z.cps[i]?=some c/\x=.str ⟨#[c]⟩,fun i _=>z.length<=i⟩
section
variable {X:Cx} {tg:Expr}
noncomputable def MA (te:TE):TI:=fun σ H R=>te σ H fun x H1=>∃ z,x=.str z/\R (ZF z) H1
theorem Eh {P:Program} {w:World} {K:PySem.W.Frag} {it:Addr} {z:Str} {t:Tok} {ty:String} (hty:ty = "str_ascii_iterator" \/ ty = "str_iterator"):jF P w K tg (ZF z) [it] it (fun i h=>h.IsStrIter it ty z t i/\i<=z.length) where
 mem:=by simp
 obj:=fun i h st b hb=>by
  have e:b=it:=by simpa using hb
  subst e
  obtain ⟨⟨o,e,c,d⟩,_⟩:=st
  exact ⟨o,e,fun v z=>by rw [d] at z; cases z⟩
 keep:=fun i h h' st k=>⟨let ⟨o,ho,r⟩:=st.1; ⟨o,k it (by simp) o ho,r⟩,st.2⟩
 item:=by
  intro X hP hw hK hc i pins s σ H E I hf st hg
  subst hP hw hK
  obtain ⟨f0,f1,f2,f3,f4,f5⟩:=hf it (by simp)
  have hg':i<z.cps.size:=hg
  have hx:z.cps[i]?=some z.cps[i]:=by simp [hg']
  have go:∀ h' tk (u:Value),(∃ t',u=Value.str ⟨#[z.cps[i]]⟩ t')->h'.IsStrIter it ty z t (i+1)->Heap.SameBut it s.heap h'->∃ v,some u=some v/\
    wpAny (model X.prog X.w) X.A (letOwnedTupleGo tg (.ref it) v) (fun _ s2=>∃ x H',Inv X pins σ H' s2/\zi x v/\(ZF z).yld i H x H'/\(s2.heap.IsStrIter it ty z t (i+1)/\i+1<=z.length)/\∀ b∈[it],H' b=none) E { s with heap:=h',toks:=tk }:=fun h' tk u hu st' sb=>by
   obtain ⟨t',rfl⟩:=hu
   have I1:Inv X pins σ H { s with heap:=h',toks:=tk }:=I.turned (fun b o hb e=>(sb.2 b hb).trans e) f0 f1 f3 f4 f5
   obtain ⟨o,e,c,d⟩:=id st'
   exact ⟨_,rfl,Y5 (s:={ s with heap:=h',toks:=tk }) e c d (by rcases hty with rfl | rfl<;>decide) ⟨.str ⟨#[z.cps[i]]⟩,H,I1,⟨t',rfl⟩,⟨rfl,_,hx,rfl⟩,⟨st',hg⟩,fun b hb=>(hf b hb).1⟩⟩
  rcases hty with rfl | rfl
  ·exact wpAny_pyNext_ascii_item st.1 hx fun h' st' sb=>go h' _ _ ⟨_,rfl⟩ st' sb
  ·exact wpAny_pyNext_wide_item st.1 hx fun h' st' sb=>go h' _ _ ⟨_,rfl⟩ st' sb
 done:=by
  intro X hP hw hK hc i pins s σ H E I hf st hg
  subst hP hw hK
  obtain ⟨f0,f1,f2,f3,f4,f5⟩:=hf it (by simp)
  have hx:z.cps[i]?=none:=Array.getElem?_eq_none hg
  rcases hty with rfl | rfl
  ·exact wpAny_pyNext_ascii_end (I.ok.hd hc) st.1 hx fun h' eb=>⟨rfl,I.turned (t':=s.toks) (fun b o hb e=>eb b o hb e) f0 f1 f3 f4 f5⟩
  ·exact wpAny_pyNext_wide_end (I.ok.hd hc) st.1 hx fun h' eb=>⟨rfl,I.turned (t':=s.toks) (fun b o hb e=>eb b o hb e) f0 f1 f3 f4 f5⟩
 self:=fun _ _ _ _ _ st h=>by
  rcases hty with rfl | rfl
  ·exact wpAny_pyIter_striter_ascii st.1 h
  ·exact wpAny_pyIter_striter_wide st.1 h
theorem Ds {e:Expr} {te:TE} (he:PE X e te):PI X tg e (MA te):=by
 intro pins s σ H R I h
 refine zf (he pins s σ H _ I h) fun v s1 ⟨x,H1,I1,r1,q1⟩=>?_
 obtain ⟨z,rfl,q⟩:=q1
 obtain ⟨t,rfl⟩:=(show ∃ t,v=Value.str z t from r1)
 have fin:∀ (ty:String),(ty = "str_ascii_iterator" \/ ty = "str_iterator")->∀ o:Obj,(s1.heap.push o).IsStrIter s1.heap.objs.size ty z t 0->Xr X pins σ tg R (.ref s1.heap.objs.size) { s1 with heap:=s1.heap.push o }:=fun ty hty o st=>
  ⟨s1.heap.objs.size,[s1.heap.objs.size],_,_,H1,rfl,I1.kept (t':=s1.toks) fun b o e=>Heap.get?_push_of_some _ e,Eh hty,⟨st,Nat.zero_le _⟩,fun b hb=>by
   have e:b=s1.heap.objs.size:=by simpa using hb
   subst e
   exact I1.fpOk (Nat.le_refl _) (I1.hok.fresh (Nat.le_refl _)),q⟩
 cases ha:z.cps.all (·<128)
 ·exact wpAny_pyIter_wide ha (fin _ (.inr rfl) _ ⟨_,Heap.get?_push_size _ rfl,rfl,rfl⟩)
 ·exact wpAny_pyIter_ascii ha (fin _ (.inl rfl) _ ⟨_,Heap.get?_push_size _ rfl,rfl,rfl⟩)
end
end L2
namespace L2
open PySem PySem.Spec PyProof.Rows
open Builtin Builtin.Str
noncomputable def cutS (z:Str) (lo hi:Option Int):Str:=⟨((z.cps.toList.drop (HT.sIx z.length 0 lo)).take (HT.sIx z.length z.length hi - HT.sIx z.length 0 lo)).toArray⟩
theorem Op (n:Nat) (lo:Option Int):(match lo with | none=>(0:Int) | some i=>max 0 (min (if i<0 then i+(n:Int) else i) (n:Int)))=((HT.sIx n 0 lo:Nat):Int)\/∃ i,lo=some i/\i<0/\(n:Int)<i+n:=by
 cases lo with
 | none=>left; rfl
 | some i=>
  left
  show max 0 (min (if i<0 then i+(n:Int) else i) (n:Int))=(((if i<0 then (i+(n:Int)).toNat else min i.toNat n):Nat):Int)
  by_cases h:i<0
  ·simp only [h,if_true]; omega
  ·simp only [h,if_false]; omega
theorem Oo (n:Nat) (hi:Option Int):(match hi with | none=>(n:Int) | some i=>max 0 (min (if i<0 then i+(n:Int) else i) (n:Int)))=((HT.sIx n n hi:Nat):Int):=by
 cases hi with
 | none=>rfl
 | some i=>
  show max 0 (min (if i<0 then i+(n:Int) else i) (n:Int))=(((if i<0 then (i+(n:Int)).toNat else min i.toNat n):Nat):Int)
  by_cases h:i<0
  ·simp only [h,if_true]; omega
  ·simp only [h,if_false]; omega
theorem Oq (n:Nat) (lo:Option Int):(match lo with | none=>(0:Int) | some i=>max 0 (min (if i<0 then i+(n:Int) else i) (n:Int)))=((HT.sIx n 0 lo:Nat):Int):=by
 rcases Op n lo with h | ⟨i,_,h1,h2⟩
 ·exact h
 ·omega
theorem Qz (z:Str) (lo hi:Option Int):(strSliceIndices lo hi 1 z.length)=(List.range (HT.sIx z.length z.length hi - HT.sIx z.length 0 lo)).map (HT.sIx z.length 0 lo+·):=by
 have h1:=Oq z.length lo
 have h2:=Oo z.length hi
 rw [<- sliceRange_one,<- h1,<- h2]
 unfold strSliceIndices
 simp only [show (1:Int) > 0 by decide,if_true]
 cases lo<;>cases hi<;>rfl
theorem L4 (z:Str) (lo hi:Option Int):(⟨((strSliceIndices lo hi 1 z.length).filterMap (z.cps[·]?)).toArray⟩:Str)=cutS z lo hi:=by
 rw [Qz,pick_run]
 rfl
theorem sIx_le (n d:Nat) (hd:d<=n) (v:Option Int):HT.sIx n d v<=n:=by
 cases v with
 | none=>exact hd
 | some i=>
  show (if i<0 then (i+(n:Int)).toNat else min i.toNat n)<=n
  by_cases h:i<0
  ·simp only [h,if_true]; omega
  ·simp only [h,if_false]; omega
theorem L5 (z:Str) (lo hi:Option Int) (h:(strSliceIndices lo hi 1 z.length).length=z.length):cutS z lo hi=z:=by
 rw [Qz,List.length_map,List.length_range] at h
 have a:=sIx_le z.length 0 (Nat.zero_le _) lo
 have b:=sIx_le z.length z.length (Nat.le_refl _) hi
 unfold cutS
 rw [h]
 have hz:HT.sIx z.length 0 lo=0\/z.length=0:=by omega
 have hl:z.cps.toList.length=z.length:=by simp [Str.length]
 rcases hz with q | q
 ·rw [q,List.drop_zero,<- hl,List.take_length]
 ·have e:z.cps.toList=[]:=List.eq_nil_of_length_eq_zero (by omega)
  rw [e]
  simp
  cases z with
  | mk c=>simp [Str.length] at q; simp [q]
theorem cut_len (z:Str) (lo hi:Option Int):(cutS z lo hi).length<=z.length:=by
 show (List.toArray _).size<=z.cps.size
 rw [List.size_toArray,List.length_take,List.length_drop,Array.length_toList]
 omega
section
variable {X:Cx}
theorem Qr {v:Value} {lo:Option Int} (h:IsPart v lo):∃ l:Option (Int×Tok),v=partValue l/\l.map (·.1)=lo:=by
 cases h with
 | none=>exact ⟨none,rfl,rfl⟩
 | int i t=>exact ⟨some (i,t),rfl,rfl⟩
noncomputable def JR:V->Option Int->Option Int->Hp->VK->Prop:=fun x lo hi H Q=>∃ z:Str,x=.str z/\z.length<=sizeLine/\Q (.str (cutS z lo hi)) H
theorem Cn:uh X JR:=by
 intro pins s σ H x v vl vu lo hi sl Q I rx hs pl pu h
 obtain ⟨z,rfl,hz,q⟩:=h
 obtain ⟨t,rfl⟩:=(show ∃ t,v=Value.str z t from rx)
 obtain ⟨l,rfl,rfl⟩:=Qr pl
 obtain ⟨u,rfl,rfl⟩:=Qr pu
 refine ⟨"str",_,F.slot_str_getitem.lookup,typeIs_str _ _ _,?_⟩
 refine wpAny_getItem_str_slice (l:=l) (u:=u) (st:=none) hs rfl ?_
 unfold sliceMade
 have hp:slicePicked z l u none=strSliceIndices (l.map (·.1)) (u.map (·.1)) 1 z.length:=rfl
 rw [hp]
 split
 ·rename_i hc
  have e:(strSliceIndices (l.map (·.1)) (u.map (·.1)) 1 z.length).length=z.length:=by
   rw [Bool.and_eq_true] at hc
   exact beq_iff_eq.mp hc.2
  rw [L5 z _ _ e] at q
  exact ⟨.str z,H,I,⟨_,rfl⟩,q⟩
 ·rw [L4]
  exact ⟨Nat.le_trans (cut_len z _ _) hz,.str _,H,I.tok _,⟨_,rfl⟩,q⟩
end
end L2
namespace L2
open PySem PySem.Spec PyProof.Rows
open Builtin Builtin.Str
section
variable {X:Cx} {e o:Expr} {te to:TE} {pos apos cpos:Pos} {name:Str} {T id:String} {rm:V->List V->Hp->VK->Prop}
noncomputable def EC (te:TE):TE:=fun σ H Q=>te σ H fun v H1=>∃ y:Str,v=.str y/\(reprText y).length<=sizeLine/\Q (.str (reprText y)) H1
theorem Fe (he:QE X e te):QE X (.FormattedValue e 114 none pos) (EC te):=by
 refine ⟨fun pins s σ H Q I q=>?_⟩
 refine wpAny_FormattedValue_repr (zf (he.h pins s σ H _ I q) fun u s1 ⟨v,H1,I1,r,y,hv,hl,q1⟩=>?_)
 subst hv
 obtain ⟨tk,rfl⟩:=(show ∃ tk,u=Value.str y tk from r)
 refine wpAny_pyReprObj_str (formatField_str (fun t' tk'=>⟨.str (reprText y),H1,I1.tok _,⟨_,rfl⟩,q1⟩) hl) hl
end
end L2
namespace L2
open PySem PySem.Spec PyProof.Rows
section
variable {κ:Type} [DecidableEq κ]
noncomputable def vD (kvs:List (κ×V)) (k:κ):Option V:=(kvs.find? fun kv=>decide (kv.1=k)).map (·.2)
noncomputable def vx (kvs:List (κ×V)) (k:κ) (v:V):List (κ×V):=
 if (kvs.any fun kv=>decide (kv.1=k))=true then kvs.map (fun kv=>if kv.1=k then (kv.1,v) else kv) else kvs++[(k,v)]
theorem X0 {p:κ×V} {r:List (κ×V)} {k:κ} (e:p.1=k):vD (p::r) k=some p.2:=by simp [vD,List.find?_cons,e]
theorem Y_ {p:κ×V} {r:List (κ×V)} {k:κ} (e:¬ p.1=k):vD (p::r) k=vD r k:=by simp [vD,List.find?_cons,e]
theorem Is (k:κ):∀ kvs:List (κ×V),(kvs.any fun kv=>decide (kv.1=k))=(vD kvs k).isSome
 | []=>rfl
 | p::r=>by
  rw [List.any_cons]
  by_cases e:p.1=k
  ·simp only [X0 e,decide_eq_true e,Bool.true_or,Option.isSome_some]
  ·rw [Y_ e,decide_eq_false e,Bool.false_or]; exact Is k r
theorem QR (kvs:List (κ×V)) (k:κ) (v:V):(vx kvs k v).length<=kvs.length+1:=by
 unfold vx
 split
 ·rw [List.length_map]; omega
 ·rw [List.length_append,List.length_cons,List.length_nil]; omega
theorem tM.isSome_eq {o:Option V} {u:Option Value} (r:tM o u):o.isSome=u.isSome:=by
 cases o with
 | none=>cases u with
  | none=>rfl
  | some _=>exact (show False from r).elim
 | some _=>cases u with
  | none=>exact (show False from r).elim
  | some _=>rfl
theorem KV.val {kvs:List (κ×V)} {vs:List (κ×Value)} (r:KV kvs vs) (k:κ):tM (vD kvs k) (valueAt vs k):=by
 unfold KV at r
 induction r with
 | nil=>exact True.intro
 | @cons p q ps qs h t ih=>
  obtain ⟨h1,h2⟩:=h
  by_cases e:p.1=k
  ·have e':q.1=k:=h1.symm.trans e
   have b:valueAt (q::qs) k=some q.2:=by simp [valueAt,List.find?_cons,e']
   rw [X0 e,b]; exact h2
  ·have e':¬ q.1=k:=fun z=>e (h1.trans z)
   have b:valueAt (q::qs) k=valueAt qs k:=by simp [valueAt,List.find?_cons,e']
   rw [Y_ e,b]; exact ih
theorem KV.any {kvs:List (κ×V)} {vs:List (κ×Value)} (r:KV kvs vs) (k:κ):(kvs.any fun kv=>decide (kv.1=k))=vs.any fun kv=>decide (kv.1=k):=by
 unfold KV at r
 induction r with
 | nil=>rfl
 | cons h t ih=>rw [List.any_cons,List.any_cons,ih,h.1]
theorem KV.repl {kvs:List (κ×V)} {vs:List (κ×Value)} (r:KV kvs vs) (k:κ) {y:V} {u:Value} (ry:zi y u) :
  KV (kvs.map fun kv=>if kv.1=k then (kv.1,y) else kv) (vs.map fun kv=>if kv.1=k then (kv.1,u) else kv):=by
 unfold KV at r ⊢
 induction r with
 | nil=>exact .nil
 | @cons p q ps qs h t ih=>
  rw [List.map_cons,List.map_cons]
  refine .cons ?_ ih
  obtain ⟨h1,h2⟩:=h
  by_cases e:p.1=k
  ·rw [if_pos e,if_pos (h1.symm.trans e)]; exact ⟨h1,ry⟩
  ·rw [if_neg e,if_neg (fun z=>e (h1.trans z))]; exact ⟨h1,h2⟩
theorem KV.put {kvs:List (κ×V)} {vs:List (κ×Value)} (r:KV kvs vs) (k:κ) {y:V} {u:Value} (ry:zi y u):KV (vx kvs k y) (stored vs k u):=by
 unfold vx stored
 rw [r.any k]
 by_cases e:(vs.any fun kv=>decide (kv.1=k))=true
 ·rw [if_pos e,if_pos e]; exact r.repl k ry
 ·rw [if_neg e,if_neg e]; exact Paired.snoc r ⟨rfl,ry⟩
theorem KV.length {kvs:List (κ×V)} {vs:List (κ×Value)} (r:KV kvs vs):kvs.length=vs.length:=Paired.length r
end
theorem kF {P:Program} {w:World} {k:y0} {u:Value} (r:zi (kV k) u):(vU P w).is k u=true:=by
 cases k with
 | inl i=>obtain ⟨t,e⟩:=(show ∃ t,u=Value.int i t from r); subst e; exact M_ P w i t
 | inr x=>obtain ⟨t,e⟩:=(show ∃ t,u=Value.str x t from r); subst e; exact BC P w x t
theorem QH {P:Program} {w:World}:∀ {ks:List y0} {us:List Value},zj (ks.map kV) us->ItemsAre (vU P w) ks us
 | [],_,r=>by rw [List.map_nil] at r; cases r; exact .nil
 | k::ks,_,r=>by
  rw [List.map_cons] at r
  cases r with
  | cons h t=>exact .cons (kF h) (QH t)
noncomputable abbrev KT (H:Hp):List (List y0×V)->List (List y0×Addr×Value)->Prop:=Paired fun p q=>p.1=q.1/\H q.2.1=some (.tup (p.1.map kV))/\zi p.2 q.2.2
theorem KT.val {H:Hp} {kvs:List (List y0×V)} {xs:List (List y0×Addr×Value)} (r:KT H kvs xs) (k:List y0):tM (vD kvs k) ((atKey xs k).map (·.2)):=by
 induction r with
 | nil=>exact True.intro
 | @cons p q ps qs h t ih=>
  obtain ⟨h1,_,h2⟩:=h
  by_cases e:p.1=k
  ·have e':q.1=k:=h1.symm.trans e
   have b:atKey (q::qs) k=some q.2:=by simp [atKey,List.find?_cons,e']
   rw [X0 e,b]; exact h2
  ·have e':¬ q.1=k:=fun z=>e (h1.trans z)
   have b:atKey (q::qs) k=atKey qs k:=by simp [atKey,List.find?_cons,e']
   rw [Y_ e,b]; exact ih
theorem KT.repl {H:Hp} {kvs:List (List y0×V)} {xs:List (List y0×Addr×Value)} (r:KT H kvs xs) (k:List y0) {y:V} {u:Value} (ry:zi y u) :
  KT H (kvs.map fun kv=>if kv.1=k then (kv.1,y) else kv) (xs.map (putAt k u)):=by
 induction r with
 | nil=>exact .nil
 | @cons p q ps qs h t ih=>
  rw [List.map_cons,List.map_cons]
  refine .cons ?_ ih
  obtain ⟨h1,h2,h3⟩:=h
  unfold putAt
  by_cases e:p.1=k
  ·rw [if_pos e,if_pos (h1.symm.trans e)]; exact ⟨h1,h2,ry⟩
  ·rw [if_neg e,if_neg (fun z=>e (h1.trans z))]; exact ⟨h1,h2,h3⟩
theorem KT.put {H:Hp} {kvs:List (List y0×V)} {xs:List (List y0×Addr×Value)} (r:KT H kvs xs) (k:List y0) {b:Addr} {y:V} {u:Value} (hb:H b=some (.tup (k.map kV))) (ry:zi y u) :
  KT H (vx kvs k y) (storedH xs k b u):=by
 have e:(kvs.any fun kv=>decide (kv.1=k))=(atKey xs k).isSome:=by
  rw [Is,(r.val k).isSome_eq,Option.isSome_map]
 unfold vx storedH
 rw [e]
 by_cases q:(atKey xs k).isSome=true
 ·rw [if_pos q,if_pos q]; exact r.repl k ry
 ·rw [if_neg q,if_neg q]; exact Paired.snoc r ⟨rfl,hb,ry⟩
theorem KT.keeps {H H':Hp} {kvs:List (List y0×V)} {xs:List (List y0×Addr×Value)} (r:KT H kvs xs) (ht:∀ b ys,H b=some (.tup ys)->H' b=some (.tup ys)):KT H' kvs xs:=
 Paired.mapP r fun _ _ z=>⟨z.1,ht _ _ z.2.1,z.2.2⟩
section
variable {P:Program} {w:World} {H:Hp} {h:Heap} {a:Addr}
theorem Jc {u:HO} (ok:yo P w H h) (e:Rd H a u):xI P w H h a u:=e.ok ok
theorem gg {kvs:List (y0×V)} (ok:yo P w H h) (e:Rd H a (.dK kvs)):kvs.length<=sizeLine/\(a == sysModules)=false/\∃ vs,KV kvs vs/\h.DictOf (vU P w) a vs:=
 show xI P w H h a (.dK kvs) from Jc ok e
theorem LF {kvs:List (y0×V)} (ok:yo P w H h) (e:H a=some (.dK kvs)):kvs.length<=sizeLine/\(a == sysModules)=false/\∃ vs,KV kvs vs/\h.DictOf (vU P w) a vs:=gg ok (.inl e)
theorem Y9 {ks:List y0} (ok:yo P w H h) (e:H a=some (.tup (ks.map kV))):(tupleKind (vU P w)).is h ks a:=by
 obtain ⟨_,its,r,o,h1,h2,n,h3⟩:=(show xI P w H h a (.tup (ks.map kV)) from ok a _ e)
 exact ⟨o,its.toArray,n,h1,h2,h3,by simpa using QH r⟩
theorem Zf {kvs:List (List y0×V)} (ok:yo P w H h) (e:Rd H a (.dT kvs)):kvs.length<=sizeLine/\(a == sysModules)=false/\
  ∃ xs,KT H kvs xs/\h.DictOfH (tupleKind (vU P w)) a xs:=by
 obtain ⟨z,y,xs,r,o,es,ep,h1,h2,h3,h4,h5⟩:=(show xI P w H h a (.dT kvs) from Jc ok e)
 refine ⟨z,y,xs,r,o,es,ep,h1,h2,h3,h4,fun x hx=>?_,h5⟩
 have all:∀ {l:List (List y0×V)} {m:List (List y0×Addr×Value)},KT H l m->∀ x∈m,(tupleKind (vU P w)).is h x.1 x.2.1:=by
  intro l m q
  induction q with
  | nil=>intro x hx; exact nomatch hx
  | @cons p q ps qs hq t ih=>
   intro x hx
   rcases List.mem_cons.mp hx with e | hx
   ·subst e
    exact Y9 ok (by rw [<- hq.1]; exact hq.2.1)
   ·exact ih x hx
 exact all r x hx
theorem LG {kvs:List (List y0×V)} (ok:yo P w H h) (e:H a=some (.dT kvs)):kvs.length<=sizeLine/\(a == sysModules)=false/\
  ∃ xs,KT H kvs xs/\h.DictOfH (tupleKind (vU P w)) a xs:=Zf ok (.inl e)
end
noncomputable def XG (H:Hp) (a:Addr) (y:V) (r:Option V):Prop:=
 (∃ kvs k,Rd H a (.dK kvs)/\y=kV k/\r=vD kvs k)\/∃ kvs k b,Rd H a (.dT kvs)/\y=.ref b/\H b=some (.tup (k.map kV))/\r=vD kvs k
noncomputable def UW (H:Hp) (a:Addr) (y v:V) (H':Hp):Prop:=
 (∃ kvs k,H a=some (.dK kvs)/\y=kV k/\kvs.length<sizeLine/\H'=zu H a (.dK (vx kvs k v))) \/
 ∃ kvs k b,H a=some (.dT kvs)/\y=.ref b/\H b=some (.tup (k.map kV))/\kvs.length<sizeLine/\H'=zu H a (.dT (vx kvs k v))
section
variable {X:Cx} {pins:List (Addr×Obj)} {σ:St} {H:Hp} {s:Shared} {a:Addr} {y v:V} {u r:Value} {o:Option V} {A:Around} {E:Value->Shared->Prop}
theorem Inv.big (I:Inv X pins σ H s):sysModules<s.heap.objs.size:=by
 have h:mainGlobals<s.heap.objs.size:=(I.mod.glob.keeps I.bk).lt
 exact Nat.lt_trans (by decide) h
theorem L6 {Q:Value->Shared->Prop} (hu:A.units+1<cLine) (I:Inv X pins σ H s) (g:XG H a y o) (ry:zi y u) (h:∀ s',Inv X pins σ H s'->Q (.bool o.isSome) s') :
  wpAny (model X.prog X.w) A (compareOp .In u (.ref a)) Q E s:=by
 rcases g with ⟨kvs,k,e,ey,l⟩ | ⟨kvs,k,b,e,ey,eb,l⟩
 ·subst ey
  obtain ⟨z,hd,vs,rel,dd⟩:=gg I.hok e
  refine wpAny_in_of (kF ry) hd dd.mapOf ?_
  rw [<- (rel.val k).isSome_eq,<- l]
  exact h _ (I.tok _)
 ·subst ey
  cases (show u=Value.ref b from ry)
  obtain ⟨z,hd,xs,rel,dd⟩:=Zf I.hok e
  refine wpAny_in_heap (tupleKind_room_in1 hu) (Y9 I.hok eb) hd dd ?_
  have q:=(rel.val k).isSome_eq
  rw [Option.isSome_map] at q
  rw [<- q,<- l]
  exact h _ (I.tok _)
theorem L7 {Q:Value->Shared->Prop} (hu:A.units+1<cLine) (I:Inv X pins σ H s) (g:XG H a y o) (ry:zi y u) (h:∀ s',Inv X pins σ H s'->Q (.bool (!o.isSome)) s') :
  wpAny (model X.prog X.w) A (compareOp .NotIn u (.ref a)) Q E s:=by
 rcases g with ⟨kvs,k,e,ey,l⟩ | ⟨kvs,k,b,e,ey,eb,l⟩
 ·subst ey
  obtain ⟨z,hd,vs,rel,dd⟩:=gg I.hok e
  refine wpAny_notIn_of (kF ry) hd dd.mapOf ?_
  rw [<- (rel.val k).isSome_eq,<- l]
  exact h _ (I.tok _)
 ·subst ey
  cases (show u=Value.ref b from ry)
  obtain ⟨z,hd,xs,rel,dd⟩:=Zf I.hok e
  refine wpAny_notIn_heap (tupleKind_room_in1 hu) (Y9 I.hok eb) hd dd ?_
  have q:=(rel.val k).isSome_eq
  rw [Option.isSome_map] at q
  rw [<- q,<- l]
  exact h _ (I.tok _)
theorem TF {h':Heap} {t':Nat} {ob:HO} (I:Inv X pins σ H s) (mu:gM (H a)) (hs:Heap.SameBut a s.heap h') (he:∃ q,h'.get? a=some q) (new:xI X.prog X.w (zu H a ob) h' a ob) :
  Inv X pins σ (zu H a ob) { s with heap:=h',toks:=t' }:=
 I.write (x:=a) (e:=a) mu (.inl rfl) (fun b q hb z=>(hs.2 b hb).trans z) he new
theorem LE {P:Program} {w:World} {H':Hp} {h':Heap} {kvs:List (y0×V)} {vs:List (y0×Value)} (z:kvs.length<=sizeLine) (hd:(a == sysModules)=false) (rel:KV kvs vs) (dd:h'.DictOf (vU P w) a vs) :
  xI P w H' h' a (.dK kvs):=⟨z,hd,vs,rel,dd⟩
theorem L8 {H':Hp} {Q:Unit->Shared->Prop} (hu:A.units+1<cLine) (I:Inv X pins σ H s) (g:UW H a y v H') (ry:zi y u) (rv:zi v r) (h:∀ s',Inv X pins σ H' s'->Q () s') :
  wpAny (model X.prog X.w) A (setItem (.ref a) u r) Q E s:=by
 rcases g with ⟨kvs,k,e,ey,l,eH⟩ | ⟨kvs,k,b,e,ey,eb,l,eH⟩
 ·subst ey eH
  obtain ⟨z,hd,vs,rel,dd⟩:=LF I.hok e
  have hz:vs.length<=sizeLine:=by rw [<- rel.length]; exact z
  have hl:(vx kvs k v).length<=sizeLine:=by have:=QR kvs k v; omega
  refine wpAny_setItem_pairs (hsz:=hz) (kF ry) dd fun h' dd' hs=>h _ ?_
  have he:∃ q,h'.get? a=some q:=let ⟨q,_,_,hq,_⟩:=dd'; ⟨q,hq⟩
  exact TF I (by rw [e]; exact True.intro) hs he (LE hl hd (rel.put k rv) dd')
 ·subst ey eH
  cases (show u=Value.ref b from ry)
  obtain ⟨z,hd,xs,rel,dd⟩:=LG I.hok e
  have hz:xs.length<=sizeLine:=by rw [<- Paired.length rel]; exact z
  have hl:(vx kvs k v).length<=sizeLine:=by have:=QR kvs k v; omega
  refine wpAny_setItem_heap (hsz:=hz) (tupleKind_room_in1 hu) (Y9 I.hok eb) dd fun h' dd' hs=>h _ ?_
  obtain ⟨q,es,ep,hq,h2,h3,h4,_,h5⟩:=dd'
  refine TF I (by rw [e]; exact True.intro) hs ⟨q,hq⟩ ⟨hl,hd,_,(rel.put k eb rv).keeps fun c ys ec=>?_,q,es,ep,hq,h2,h3,h4,h5⟩
  rw [yn (BK ec e (fun z=>nomatch z))]
  exact ec
end
theorem LC {X:Cx} {pins:List (Addr×Obj)} {σ:St} {H:Hp} {s:Shared} {a:Addr} {y:V} {o:Option V} (I:Inv X pins σ H s) (g:XG H a y o):s.TypeIs (.ref a) "dict" := by
 rcases g with ⟨kvs,k,e,_,_⟩ | ⟨kvs,k,b,e,_,_,_⟩
 ·obtain ⟨_,_,vs,_,dd⟩:=gg I.hok e
  exact dd.typeIs
 ·obtain ⟨_,_,xs,_,dd⟩:=Zf I.hok e
  exact dd.typeIs
noncomputable def CI (td ty tv:TE):TS:=fun D σ H=>tv σ H fun v H1=>td σ H1 fun x H2=>ty σ H2 fun y H3=>∃ a H4,x=.ref a/\UW H3 a y v H4/\D.nx σ H4
section
variable {X:Cx} {o i e value:Expr} {pos pos' tpos:Pos} {td ty tv:TE}
theorem F6 (hu:X.A.units+1<cLine) (ho:PE X o td) (hi:PE X i ty) (hv:PE X value tv) (hs:swapsWith value (some (.Subscript o i pos')) pos.line X.env=pure false) :
  PS X (.Assign [.Subscript o i pos'] value pos) (CI td ty tv):=by
 intro pins s σ H D I h
 refine wpAny_Assign_Subscript (zf (hv pins s σ H _ I h) fun r s1 ⟨v,H1,I1,rv,q1⟩=>zf (ho pins s1 σ H1 _ I1 q1) fun u s2 ⟨x,H2,I2,rx,q2⟩=>zf (hi pins s2 σ H2 _ I2 q2) fun iv s3 ⟨y,H3,I3,ry,a,H4,ex,g,q3⟩=>?_) hs
 subst ex
 obtain rfl:u=Value.ref a:=rx
 exact L8 hu I3 g ry rv fun s4 I4=>⟨σ,H4,I4,q3⟩
end
theorem LD {P:Program} {w:World} {H:Hp} (h:Heap) (hb:sysModules<h.objs.size):xI P w H (h.push { cls:=.type "dict",data:=.dict #[] }) h.objs.size (.dK []):=
 ⟨Nat.zero_le _,beq_eq_false_iff_ne.mpr (Ne.symm (Nat.ne_of_lt hb)),[],.nil,Heap.DictOf.new h⟩
noncomputable def EA:TE:=fun _ H Q=>∀ p,H p=none->Q (.ref p) (zu H p (.dK []))
section
variable {X:Cx} {pos:Pos}
theorem DY:PE X (.Dict [] [] pos) EA:=fun pins s σ H Q I h=>
 wpAny_Dict_empty ⟨.ref s.heap.objs.size,_,I.laid (a:=s.heap.objs.size) (o:=.dK []) (t':=s.toks) (fun _ _ q=>Heap.get?_push_of_some _ q) (Nat.le_refl _) (LD s.heap I.big),rfl,h _ (I.hok.fresh (Nat.le_refl _))⟩
end
end L2
namespace L3
open PySem
inductive D where
 | non | bl (b:Bool) | int (i:Int) | str (x:Str) | tup (xs:List D) | lst (xs:List D) | dic (ks:List (Sum Int Str)) (vs:List D) | exc (x:Str) | obj (x:Str) (fs:List Str) (vs:List D)
theorem D.ind {P:D->Prop} (non:P .non) (bl:∀ b,P (.bl b)) (int:∀ i,P (.int i)) (str:∀ x,P (.str x)) (tup:∀ xs,(∀ d∈xs,P d)->P (.tup xs)) (lst:∀ xs,(∀ d∈xs,P d)->P (.lst xs))
  (dic:∀ ks xs,(∀ d∈xs,P d)->P (.dic ks xs)) (exc:∀ x,P (.exc x)) (obj:∀ x fs xs,(∀ d∈xs,P d)->P (.obj x fs xs)) (d:D):P d:=
 D.rec (motive_1:=P) (motive_2:=fun ds=>∀ d∈ds,P d) non bl int str (fun xs h=>tup xs h) (fun xs h=>lst xs h) (fun ks xs h=>dic ks xs h) exc (fun x fs xs h=>obj x fs xs h) (fun _ h=>absurd h (by simp))
  (fun d ds hd hds e he=>by
   rcases List.mem_cons.mp he with z | z
   ·exact z ▸ hd
   ·exact hds e z) d
mutual
noncomputable def yR:D->D->Bool
 | .non,.non=>true
 | .bl a,.bl b=>a == b
 | .bl a,.int b=>(if a then 1 else 0) == b
 | .int a,.bl b=>a == (if b then 1 else 0)
 | .int a,.int b=>a == b
 | .str a,.str b=>a == b
 | .tup xs,.tup ys=>dEqs xs ys
 | .lst xs,.lst ys=>dEqs xs ys
 | _,_=>false
noncomputable def dEqs:List D->List D->Bool
 | [],[]=>true
 | x::xs,y::ys=>yR x y&&dEqs xs ys
 | _,_=>false
end
noncomputable abbrev Sl:=Bool×D
noncomputable abbrev zz:=List (Option Sl)
noncomputable abbrev FE:=zz->Option D
noncomputable abbrev FT:=zz->Option Bool
noncomputable abbrev FA:=zz->Option (List D)
noncomputable abbrev FG:=D->zz->Option zz
inductive Fl where
 | nx (σ:zz) | rt (o:Bool) (d:D) | bk (σ:zz) | ct (σ:zz)
noncomputable abbrev FS:=zz->Option Fl
noncomputable abbrev yA:Nat:=16777216
noncomputable def z7 (i:Nat):FE:=fun σ=>match σ[i]? with
 | some (some (false,d))=>some d
 | _=>none
noncomputable def w_ (i:Nat):FE:=fun σ=>match σ[i]? with
 | some (some (_,d))=>some d
 | _=>none
noncomputable def eC (d:D):FE:=fun _=>some d
noncomputable def e1 (F:D->Option D) (a:FE):FE:=fun σ=>(a σ).bind F
noncomputable def e2 (F:D->D->Option D) (a b:FE):FE:=fun σ=>(a σ).bind fun x=>(b σ).bind fun y=>F x y
noncomputable def eL (F:List D->Option D) (a:FA):FE:=fun σ=>(a σ).bind F
noncomputable def zC:FA:=fun _=>some []
noncomputable def z8 (a:FE) (r:FA):FA:=fun σ=>(a σ).bind fun x=>(r σ).bind fun xs=>some (x::xs)
noncomputable def qO:D->Option Bool
 | .bl b=>some b
 | _=>none
noncomputable def tE (a:FE):FT:=fun σ=>(a σ).bind qO
noncomputable def pj (a b:FT):FT:=fun σ=>(a σ).bind fun k=>match k with
 | true=>b σ
 | false=>some false
noncomputable def vC (a b:FT):FT:=fun σ=>(a σ).bind fun k=>match k with
 | true=>some true
 | false=>b σ
noncomputable def pp (a:FT):FT:=fun σ=>(a σ).bind fun k=>some (!k)
noncomputable def pI (a b:FE):FE:=fun σ=>(a σ).bind fun x=>(qO x).bind fun k=>match k with
 | true=>b σ
 | false=>some (.bl false)
noncomputable def TR (a b:FE):FE:=fun σ=>(a σ).bind fun x=>(qO x).bind fun k=>match k with
 | true=>some (.bl true)
 | false=>b σ
noncomputable def TQ (a:FE):FE:=fun σ=>(a σ).bind fun x=>(qO x).bind fun k=>some (.bl (!k))
noncomputable def uI (c:FT) (a b:FE):FE:=fun σ=>(c σ).bind fun k=>match k with
 | true=>a σ
 | false=>b σ
noncomputable def yQ (a:FA):FE:=fun σ=>(a σ).bind fun xs=>some (.tup xs)
noncomputable def yC (a:FA):FE:=fun σ=>(a σ).bind fun xs=>some (.lst xs)
noncomputable def zR:D->D->Option D
 | .int i,.int j=>some (.int (i+j))
 | .int i,.bl b=>some (.int (i+(if b then 1 else 0)))
 | .str x,.str y=>if x.length+y.length<=yA then some (.str (x++y)) else none
 | .lst x,.lst y=>if x.length+y.length<=yA then some (.lst (x++y)) else none
 | .tup x,.tup y=>if x.isEmpty=false/\x.length+y.length<=yA then some (.tup (x++y)) else none
 | _,_=>none
noncomputable def fI (C:Int->Int->Bool) (g:Int->Int->Int):D->D->Option D
 | .int i,.int j=>match C i j with
  | true=>some (.int (g i j))
  | false=>none
 | _,_=>none
noncomputable def xg:D->D->Option D
 | .int i,.int j=>some (.int (i - j))
 | _,_=>none
noncomputable def xq (i:Int):Bool:=decide (-(2 ^ 64)<i)&&decide (i<2 ^ 64)
noncomputable def gv:D->D->Option D:=fI (fun i _=>xq i) (·*·)
noncomputable def uK:D->D->Option D:=fI (fun _ j=>xq j) (·*·)
noncomputable def zr:D->D->Option D:=fI (fun _ j=>decide (0<j)) (· % ·)
noncomputable def yh:D->D->Option D:=fI (fun _ j=>decide (0<j)&&decide (j<2 ^ 64)) (· / ·)
noncomputable def xS (i j:Int):Bool:=decide (0<=j)&&(decide (j<=1000000)&&decide (i.natAbs<2 ^ 64))
noncomputable def wf:D->D->Option D:=fI xS fun i j=>i ^ j.toNat
noncomputable def Zs:D->D->Option D:=fI xS fun i j=>i*2 ^ j.toNat
noncomputable def Wd:D->D->Option D:=fI (fun _ j=>decide (0<=j)) fun i j=>i / 2 ^ j.toNat
noncomputable def qT (g:Int->Int->Int):D->D->Option D
 | .int i,.int j=>some (.int (g i j))
 | _,_=>none
noncomputable def xy:D->Option D
 | .int i=>some (.int (-i))
 | _=>none
noncomputable def yW (g:Int->Int->Bool):D->D->Option D
 | .int i,.int j=>some (.bl (g i j))
 | _,_=>none
noncomputable def jc:D->Bool
 | .non=>true
 | _=>false
noncomputable def gu:D->D->Option D
 | x,.non=>some (.bl (jc x))
 | _,_=>none
noncomputable def Zr:D->D->Option D
 | x,.non=>some (.bl (!jc x))
 | _,_=>none
noncomputable def yL:D->Bool
 | .non=>true
 | .bl _=>true
 | .int _=>true
 | .str _=>true
 | _=>false
noncomputable def vO (f:D->D->Bool):List D->List D->Bool
 | x::xs,y::ys=>f x y&&vO f xs ys
 | _,_=>true
noncomputable def wC:Nat->D->D->Bool
 | 0,_,_=>false
 | n+1,x,y=>match x,y with
  | .tup xs,.tup ys=>vO (wC n) xs ys
  | .lst xs,.lst ys=>vO (wC n) xs ys
  | x,y=>yL x&&yL y
noncomputable def tP:D->D->Option Bool
 | .int _,.bl _=>none
 | .bl _,.int _=>none
 | x,y=>match wC 6 x y with
  | true=>some (yR x y)
  | false=>none
noncomputable def zS (x y:D):Option D:=(tP x y).bind fun k=>some (.bl k)
noncomputable def yd (x y:D):Option D:=(tP x y).bind fun k=>some (.bl (!k))
noncomputable def jd:D->Option (Sum Int Str)
 | .int i=>some (.inl i)
 | .str x=>some (.inr x)
 | _=>none
noncomputable def getK {α:Type}:List (Sum Int Str)->List α->Sum Int Str->Option α
 | k'::ks,v::vs,k=>if k'=k then some v else getK ks vs k
 | _,_,_=>none
noncomputable def wO (ks:List (Sum Int Str)) (k:Sum Int Str):Bool:=ks.any fun j=>decide (j=k)
noncomputable def vy (ks:List (Sum Int Str)) (k:Sum Int Str):List (Sum Int Str):=if wO ks k=true then ks else ks++[k]
noncomputable def wW {α:Type} (ks:List (Sum Int Str)) (vs:List α) (k:Sum Int Str) (v:α):List α:=if wO ks k=true then List.zipWith (fun k' x=>if k'=k then v else x) ks vs else vs++[v]
noncomputable def tQ (x:D):D->Option Bool
 | .lst ys=>match yL x&&ys.all yL with
  | true=>some (ys.any fun y=>yR y x)
  | false=>none
 | .tup ys=>match yL x&&ys.all yL with
  | true=>some (ys.any fun y=>yR y x)
  | false=>none
 | .str j=>match x with
  | .str i=>some (!(Builtin.Str.occurrences j i 0 j.length 1).isEmpty)
  | _=>none
 | .dic ks _=>(jd x).bind fun k=>some (wO ks k)
 | _=>none
noncomputable def yb (x y:D):Option D:=(tQ x y).bind fun k=>some (.bl k)
noncomputable def tR (x y:D):Option D:=(tQ x y).bind fun k=>some (.bl (!k))
noncomputable def xu {α:Type} (xs:List α) (i:Int):Option α:=if 0<=i then xs[i.toNat]? else if -(xs.length:Int)<=i then xs[(i+xs.length).toNat]? else none
noncomputable def zF:D->D->Option D
 | .lst xs,.int i=>xu xs i
 | .tup xs,.int i=>xu xs i
 | .str z,.int i=>(xu z.cps.toList i).bind fun c=>some (.str ⟨#[c]⟩)
 | .dic ks vs,k=>(jd k).bind fun k=>getK ks vs k
 | _,_=>none
noncomputable def yz:List D->Option D
 | [.lst xs]=>some (.int xs.length)
 | [.tup xs]=>some (.int xs.length)
 | [.str z]=>some (.int z.length)
 | _=>none
noncomputable def Zp:List D->Option D
 | [.int i,.int j]=>some (.int (if j > i then j else i))
 | _=>none
noncomputable def Zq:List D->Option D
 | [.int i,.int j]=>some (.int (if j<i then j else i))
 | _=>none
noncomputable def uq:List D->Option D
 | [.int i]=>some (.int i)
 | [.bl k]=>some (.int (if k then 1 else 0))
 | _=>none
inductive Uc where
 | int | bool | str | list | tuple
noncomputable def Wy:Uc->D->Option Bool
 | _,.dic _ _=>none
 | _,.exc _=>none
 | _,.obj _ _ _=>none
 | .int,.int _=>some true
 | .int,.bl _=>some true
 | .int,_=>some false
 | .bool,.bl _=>some true
 | .bool,_=>some false
 | .str,.str _=>some true
 | .str,_=>some false
 | .list,.lst _=>some true
 | .list,_=>some false
 | .tuple,.tup _=>some true
 | .tuple,_=>some false
noncomputable def TN (T:Uc) (a:FE):FE:=fun τ=>(a τ).bind fun d=>(Wy T d).bind fun b=>some (.bl b)
noncomputable def wg (a:FE):FA:=fun σ=>(a σ).bind fun d=>match d with
 | .lst xs=>some xs
 | .tup xs=>some xs
 | .str z=>some (z.cps.toList.map fun c=>.str ⟨#[c]⟩)
 | _=>none
noncomputable def v7 (lo hi:FE):FA:=fun σ=>(lo σ).bind fun x=>(hi σ).bind fun y=>match x,y with
 | .int i,.int j=>if i.natAbs<=yA/\j.natAbs<=yA/\(j - i).toNat<=yA then some ((List.range (j - i).toNat).map fun k:Nat=>.int (i+k)) else none
 | _,_=>none
noncomputable def zt (i:Nat):FG:=fun d σ=>some (σ.set i (some (false,d)))
noncomputable def qW (i j:Nat):FG:=fun d σ=>match d with
 | .tup [x,y]=>some ((σ.set i (some (false,x))).set j (some (false,y)))
 | _=>none
noncomputable def zm:FS:=fun σ=>some (.nx σ)
noncomputable def zG (a b:FS):FS:=fun σ=>(a σ).bind fun f=>match f with
 | .nx σ'=>b σ'
 | f=>some f
noncomputable def zP (i:Nat) (e:FE):FS:=fun σ=>(e σ).bind fun d=>some (.nx (σ.set i (some (false,d))))
noncomputable def vB (i:Nat) (e:FE):FS:=fun σ=>(e σ).bind fun d=>some (.nx (σ.set i (some (true,d))))
noncomputable def za (e:FE):FS:=fun σ=>(e σ).bind fun d=>some (.rt false d)
noncomputable def qi (e:FE):FS:=fun σ=>(e σ).bind fun d=>some (.rt true d)
noncomputable def t8 (i:Nat):FS:=fun σ=>match σ[i]? with
 | some (some (true,d))=>some (.rt true d)
 | _=>none
noncomputable def zY (c:FT) (a b:FS):FS:=fun σ=>(c σ).bind fun k=>match k with
 | true=>a σ
 | false=>b σ
noncomputable def uy (g:FG) (b:FS):List D->zz->Option Fl
 | [],σ=>some (.nx σ)
 | d::r,σ=>(g d σ).bind fun σ1=>(b σ1).bind fun f=>match f with
  | .nx σ2=>uy g b r σ2
  | .ct σ2=>uy g b r σ2
  | .bk σ2=>some (.nx σ2)
  | .rt o d=>some (.rt o d)
noncomputable def vz (it:FA) (g:FG) (b:FS):FS:=fun σ=>(it σ).bind fun ds=>uy g b ds σ
noncomputable def vE (c:FT) (b:FS):Nat->zz->Option Fl
 | 0,_=>none
 | n+1,σ=>(c σ).bind fun k=>match k with
  | false=>some (.nx σ)
  | true=>(b σ).bind fun f=>match f with
   | .nx σ2=>vE c b n σ2
   | .ct σ2=>vE c b n σ2
   | .bk σ2=>some (.nx σ2)
   | .rt o d=>some (.rt o d)
noncomputable def ZC:Nat:=100000000
noncomputable def Yb (c:FT) (b:FS):FS:=fun σ=>vE c b ZC σ
noncomputable def qh (i:Nat):FS:=fun σ=>match σ[i]? with
 | some (some (_,d))=>some (.nx (σ.set i (some (false,d))))
 | _=>none
noncomputable def Jq (i:Nat) (F:D->Option D):FS:=fun σ=>match σ[i]? with
 | some (some (true,d))=>(F d).bind fun d'=>some (.nx (σ.set i (some (true,d'))))
 | _=>none
noncomputable def xX (i:Nat) (F:D->D->Option D) (e:FE):FS:=fun σ=>match σ[i]? with
 | some (some (true,d))=>(e σ).bind fun x=>(F d x).bind fun d'=>some (.nx (σ.set i (some (true,d'))))
 | _=>none
noncomputable def xJ:D->D->Option D
 | .lst xs,y=>if xs.length<yA then some (.lst (xs++[y])) else none
 | _,_=>none
noncomputable def kx (i:Nat) (k v:FE):FS:=fun σ=>(v σ).bind fun y=>match σ[i]? with
 | some (some (true,.dic ks ds))=>(k σ).bind fun x=>(jd x).bind fun x=>if ks.length<yA then some (.nx (σ.set i (some (true,.dic (vy ks x) (wW ks ds x y))))) else none
 | _=>none
noncomputable def yy (ks:List (Sum Int Str)) (ds:List D) (x:D):Option D:=(jd x).bind fun k=>getK ks ds k
noncomputable def vm (F F':D->D->Option D) (a b c:FE):FE:=fun τ=>(a τ).bind fun x=>(b τ).bind fun y=>(F x y).bind fun k=>(qO k).bind fun k=>match k with
 | true=>(c τ).bind fun z=>F' y z
 | false=>some (.bl false)
noncomputable def ye (g:FG) (c:FT) (e:FE) (σ:zz):List D->Option (List D)
 | []=>some []
 | d::r=>(g d σ).bind fun σ1=>(c σ1).bind fun k=>match k with
  | true=>(e σ1).bind fun x=>(ye g c e σ r).bind fun xs=>some (x::xs)
  | false=>ye g c e σ r
noncomputable def yk:FT:=fun _=>some true
noncomputable def wD (n:Nat) (it:FA) (g:FG) (c:FT) (e:FE):FE:=fun σ=>(it σ).bind fun ds=>(ye g c e (σ++List.replicate n none) ds).bind fun xs=>some (.lst xs)
noncomputable def yP (n:Nat) (b:FS) (ds:List D):Option (Bool×D):=(b (ds.map (fun d=>some (false,d))++List.replicate (n - ds.length) none)).bind fun f=>match f with
 | .rt o d=>some (o,d)
 | .nx _=>some (false,.non)
 | _=>none
noncomputable def zV (F:List D->Option (Bool×D)) (a:FA):FE:=fun σ=>(a σ).bind fun ds=>(F ds).bind fun r=>some r.2
noncomputable def Zg (F:List D->Option (Bool×D)) (a:FA):FE:=fun σ=>(a σ).bind fun ds=>(F ds).bind fun r=>match r with
 | (true,d)=>some d
 | _=>none
end L3
namespace L3
open PySem PySem.Spec PyProof.Rows L2
noncomputable abbrev St:=L2.St
noncomputable def O6 (_:PySem.W.Frag) (H:Hp) (a:Addr) (kvs:List (y0×V)):Prop:=Rd H a (.dK kvs)
mutual
noncomputable def zb (K:PySem.W.Frag) (H:Hp):D->V->Prop
 | .non,v=>v=.non
 | .bl b,v=>v=.bl b
 | .int i,v=>v=.int i
 | .str x,v=>v=.str x/\x.length<=sizeLine
 | .tup ds,v=>∃ a vs,v=.ref a/\yx K H a vs/\Reps K H ds vs/\ds.length<=sizeLine
 | .lst ds,v=>∃ a vs,v=.ref a/\yU K H a vs/\Reps K H ds vs/\ds.length<=sizeLine
 | .dic ks ds,v=>∃ a vs,v=.ref a/\O6 K H a (ks.zip vs)/\ks.length=vs.length/\Reps K H ds vs/\ds.length<=sizeLine
 | .exc x,v=>∃ a C,v=.ref a/\PySem.W.nsIn K mainGlobals x=some (some (.ref C))/\H a=some (.ext (uA a C))
 | .obj x fs ds,v=>∃ a C dx vs,v=.ref a/\PySem.W.nsIn K mainGlobals x=some (some (.ref C))/\H a=some (.ins C dx (fs.zip vs))/\fs.length=vs.length/\Reps K H ds vs
noncomputable def Reps (K:PySem.W.Frag) (H:Hp):List D->List V->Prop
 | [],vs=>vs=[]
 | d::ds,vs=>∃ v r,vs=v::r/\zb K H d v/\Reps K H ds r
end
section
variable {K:PySem.W.Frag} {G H H':Hp}
theorem Rd.mono {a:Addr} {u:HO} (s:yO H H') (h:Rd H a u):Rd H' a u:=by
 rcases h with h | ⟨o,h⟩
 ·exact .inl (s _ _ h)
 ·exact .inr ⟨o,s _ _ h⟩
theorem u7 {a:Addr} {xs:List V} (s:yO H H') (h:yx K H a xs):yx K H' a xs:=by
 rcases h with h | h
 ·exact .inl (Rd.mono s h)
 ·exact .inr h
theorem wR {a:Addr} {xs:List V} (s:yO H H') (h:yU K H a xs):yU K H' a xs:=by
 rcases h with h | h
 ·exact .inl (Rd.mono s h)
 ·exact .inr h
theorem Reps.imp:∀ {ds:List D} {vs:List V},(∀ d∈ds,∀ v,zb K H d v->zb K H' d v)->Reps K H ds vs->Reps K H' ds vs
 | [],_,_,h=>h
 | d::ds,vs,f,h=>by
  obtain ⟨v,r,rfl,hv,hr⟩:=h
  exact ⟨v,r,rfl,f d List.mem_cons_self v hv,Reps.imp (fun d' m=>f d' (List.mem_cons_of_mem _ m)) hr⟩
theorem zb.mono (s:yO H H'):∀ {d:D} {v:V},zb K H d v->zb K H' d v:=fun {d}=>by
 refine D.ind (P:=fun d=>∀ v,zb K H d v->zb K H' d v) (fun v h=>h) (fun b v h=>h) (fun i v h=>h) (fun x v h=>h) ?_ ?_ ?_ ?_ ?_ d _
 ·rintro xs ih v ⟨a,vs,e,q,r,l⟩
  exact ⟨a,vs,e,u7 s q,Reps.imp ih r,l⟩
 ·rintro xs ih v ⟨a,vs,e,q,r,l⟩
  exact ⟨a,vs,e,wR s q,Reps.imp ih r,l⟩
 ·rintro ks xs ih v ⟨a,vs,e,q,z,r,l⟩
  exact ⟨a,vs,e,Rd.mono s q,z,Reps.imp ih r,l⟩
 ·rintro x v ⟨a,C,e,n,h⟩
  exact ⟨a,C,e,n,s _ _ h⟩
 ·rintro x fs xs ih v ⟨a,C,dx,vs,e,n,h,l,r⟩
  exact ⟨a,C,dx,vs,e,n,s _ _ h,l,Reps.imp ih r⟩
theorem Reps.mono (s:yO H H') {ds:List D} {vs:List V} (h:Reps K H ds vs):Reps K H' ds vs:=Reps.imp (fun _ _ _=>zb.mono s) h
theorem Reps.length:∀ {ds:List D} {vs:List V},Reps K H ds vs->vs.length=ds.length
 | [],_,h=>by cases (show _=[] from h); rfl
 | d::ds,_,h=>by
  obtain ⟨v,r,rfl,_,hr⟩:=h
  rw [List.length_cons,List.length_cons,Reps.length hr]
theorem Reps.get:∀ {ds:List D} {vs:List V} {i:Nat} {d:D},Reps K H ds vs->ds[i]?=some d->∃ v,vs[i]?=some v/\zb K H d v
 | [],_,_,_,_,e=>by cases e
 | d::ds,_,0,_,h,e=>by
  obtain ⟨v,r,rfl,hv,hr⟩:=h
  cases e
  exact ⟨v,rfl,hv⟩
 | d::ds,_,i+1,d',h,e=>by
  obtain ⟨v,r,rfl,hv,hr⟩:=h
  exact Reps.get (i:=i) hr (by simpa using e)
theorem Reps.at {ds:List D} {vs:List V} {i:Nat} {v:V} (h:Reps K H ds vs) (e:vs[i]?=some v):∃ d,ds[i]?=some d/\zb K H d v:=by
 have l:=h.length
 have hi:i<ds.length:=by rw [<- l]; exact (List.getElem?_eq_some_iff.mp e).1
 obtain ⟨v',e',r⟩:=h.get (List.getElem?_eq_getElem hi)
 rw [e] at e'
 cases e'
 exact ⟨_,List.getElem?_eq_getElem hi,r⟩
theorem Reps.append:∀ {ds es:List D} {vs us:List V},Reps K H ds vs->Reps K H es us->Reps K H (ds++es) (vs++us)
 | [],_,_,_,h,g=>by cases (show _=[] from h); exact g
 | d::ds,_,_,_,h,g=>by
  obtain ⟨v,r,rfl,hv,hr⟩:=h
  exact ⟨v,_,rfl,hv,Reps.append hr g⟩
theorem Reps.one {d:D} {v:V} (h:zb K H d v):Reps K H [d] [v]:=⟨v,[],rfl,h,rfl⟩
theorem Reps.take:∀ {ds:List D} {vs:List V} (n:Nat),Reps K H ds vs->Reps K H (ds.take n) (vs.take n)
 | _,_,0,_=>by rw [List.take_zero,List.take_zero]; rfl
 | [],_,n+1,h=>by cases (show _=[] from h); rfl
 | d::ds,_,n+1,h=>by
  obtain ⟨v,r,rfl,hv,hr⟩:=h
  exact ⟨v,_,rfl,hv,Reps.take n hr⟩
theorem Reps.drop:∀ {ds:List D} {vs:List V} (n:Nat),Reps K H ds vs->Reps K H (ds.drop n) (vs.drop n)
 | _,_,0,h=>h
 | [],_,n+1,h=>by cases (show _=[] from h); rfl
 | d::ds,_,n+1,h=>by
  obtain ⟨v,r,rfl,hv,hr⟩:=h
  exact Reps.drop n hr
theorem Reps.ints:∀ {ns:List Int},Reps K H (ns.map D.int) (ns.map V.int)
 | []=>rfl
 | n::ns=>⟨_,_,rfl,rfl,Reps.ints⟩
end
structure zU (G H G' H':Hp):Prop where
 g:yO G G'
 h:yO H H'
 gh:yO G' H'
 new:∀ p,G' p≠none->G p≠none\/H p=none
section
variable {G H G' H' G0 H0 G1 H1 G2 H2:Hp} {p:Addr} {o:HO}
theorem zU.refl (s:yO G H):zU G H G H:=⟨yO.refl _,yO.refl _,s,fun _ h=>.inl h⟩
theorem zU.trans (a:zU G H G1 H1) (b:zU G1 H1 G2 H2):zU G H G2 H2:=⟨a.g.trans b.g,a.h.trans b.h,b.gh,fun p h=>by
 rcases b.new p h with z | z
 ·exact a.new p z
 ·exact .inr (a.h.free z)⟩
theorem zU.rebase (a:zU G0 H0 G1 H1) (b:zU G1 H0 G2 H2):zU G0 H0 G2 H2:=⟨a.g.trans b.g,b.h,b.gh,fun p h=>by
 rcases b.new p h with z | z
 ·exact a.new p z
 ·exact .inr z⟩
theorem zU.far (a:zU G0 H0 G1 H1):zU G1 H0 G1 H1:=⟨yO.refl _,a.h,a.gh,fun _ h=>.inl h⟩
theorem Io {H:Hp} {p q:Addr} {o:HO} (h:zu H p o q≠none):q=p\/H q≠none:=by
 by_cases e:q=p
 ·exact .inl e
 ·rw [yn e] at h
  exact .inr h
theorem CK (s:yO G H):yO (zu G p o) (zu H p o):=fun b u e=>by
 by_cases hb:b=p
 ·subst hb
  rw [xH] at e ⊢
  exact e
 ·rw [yn hb] at e ⊢
  exact s _ _ e
theorem zU.lay (s:yO G H) (h:H p=none):zU G H (zu G p o) (zu H p o):=⟨wJ (s.free h) o,wJ h o,CK s,fun q z=>by
 rcases Io z with e | e
 ·exact .inr (e ▸ h)
 ·exact .inl e⟩
theorem zU.layO (s:yO G H) (h:H p=none):zU G H G (zu H p o):=⟨yO.refl _,wJ h o,s.trans (wJ h o),fun _ z=>.inl z⟩
theorem zU.frz (a:zU G H G1 H1) (h:H p=none) (g:G1 p=none) (e:H1 p=some o):zU G H (zu G1 p o) H1:=⟨a.g.trans (wJ g o),a.h,fun b u q=>by
 by_cases hb:b=p
 ·subst hb
  rw [xH] at q
  cases q
  exact e
 ·rw [yn hb] at q
  exact a.gh _ _ q,fun q z=>by
 rcases Io z with w | w
 ·exact .inr (w ▸ h)
 ·exact a.new q w⟩
end
noncomputable def wK (K:PySem.W.Frag) (G H:Hp) (d:D) (p:Addr):Prop:=match d with
 | .lst ds=>∃ vs,H p=some (.lst vs)/\Reps K G ds vs/\ds.length<=sizeLine
 | .dic ks ds=>∃ vs,H p=some (.dK (ks.zip vs))/\ks.length=vs.length/\Reps K G ds vs/\ds.length<=sizeLine
 | _=>False
section
variable {K:PySem.W.Frag} {G H G' H':Hp} {d:D} {p:Addr}
theorem wK.some (h:wK K G H d p):H p≠none:=by
 cases d with
 | lst ds=>obtain ⟨vs,e,_⟩:=h; rw [e]; exact fun z=>nomatch z
 | dic ks ds=>obtain ⟨vs,e,_⟩:=h; rw [e]; exact fun z=>nomatch z
 | _=>exact h.elim
theorem wK.mono (g:yO G G') (h:yO H H') (o:wK K G H d p):wK K G' H' d p:=by
 cases d with
 | lst ds=>obtain ⟨vs,e,r,l⟩:=o; exact ⟨vs,h _ _ e,r.mono g,l⟩
 | dic ks ds=>obtain ⟨vs,e,z,r,l⟩:=o; exact ⟨vs,h _ _ e,z,r.mono g,l⟩
 | _=>exact o.elim
theorem wK.rep (s:yO G H) (o:wK K G H d p):zb K H d (.ref p):=by
 cases d with
 | lst ds=>obtain ⟨vs,e,r,l⟩:=o; exact ⟨p,vs,rfl,yU.of e,r.mono s,l⟩
 | dic ks ds=>obtain ⟨vs,e,z,r,l⟩:=o; exact ⟨p,vs,rfl,.inl e,z,r.mono s,l⟩
 | _=>exact o.elim
theorem wK.frz (o:wK K G H d p) (g:G p=none):∃ u,H p=Option.some u/\zb K (zu G p u) d (.ref p):=by
 cases d with
 | lst ds=>obtain ⟨vs,e,r,l⟩:=o; exact ⟨_,e,p,vs,rfl,yU.of xH,r.mono (wJ g _),l⟩
 | dic ks ds=>obtain ⟨vs,e,z,r,l⟩:=o; exact ⟨_,e,p,vs,rfl,.inl xH,z,r.mono (wJ g _),l⟩
 | _=>exact o.elim
end
structure zo (K:PySem.W.Frag) (n:Nat) (G0 H0 G H:Hp) (τ:zz) (σ:St):Prop where
 ext:zU G0 H0 G H
 l1:σ.length=n
 l2:τ.length=n
 fr:∀ (i:Nat) (d:D),τ[i]?=some (some (false,d))->∃ v,σ[i]?=some (some v)/\zb K G d v
 ow:∀ (i:Nat) (d:D),τ[i]?=some (some (true,d))->∃ p,σ[i]?=some (some (V.ref p))/\G p=none/\H0 p=none/\wK K G H d p
 ap:∀ (i j:Nat) (d e:D) (p:Addr),i≠j->τ[i]?=some (some (true,d))->τ[j]?=some (some (true,e))->σ[i]?=some (some (V.ref p))->σ[j]?=some (some (V.ref p))->False
section
variable {K:PySem.W.Frag} {n:Nat} {G0 H0 G H G' H':Hp} {τ:zz} {σ:St}
theorem zo.go (E:zo K n G0 H0 G H τ σ) (x:zU G H G' H'):zo K n G0 H0 G' H' τ σ:=⟨E.ext.trans x,E.l1,E.l2,fun i d h=>by
 obtain ⟨v,e,r⟩:=E.fr i d h
 exact ⟨v,e,r.mono x.g⟩,fun i d h=>by
 obtain ⟨p,e,g,z,o⟩:=E.ow i d h
 refine ⟨p,e,?_,z,o.mono x.g x.h⟩
 cases q:G' p with
 | none=>rfl
 | some u=>
  rcases x.new p (by rw [q]; exact fun z=>nomatch z) with w | w
  ·exact absurd g w
  ·exact absurd w o.some,E.ap⟩
theorem zo.far (E:zo K n G0 H0 G H τ σ):zo K n G H0 G H τ σ:=⟨E.ext.far,E.l1,E.l2,E.fr,E.ow,E.ap⟩
theorem zo.near {Ga Ha:Hp} (a:zU G0 H0 Ga Ha) (E:zo K n Ga H0 G H τ σ):zo K n G0 H0 G H τ σ:=⟨a.rebase E.ext,E.l1,E.l2,E.fr,E.ow,E.ap⟩
theorem zo.lt {i:Nat} {s:Option Sl} (E:zo K n G0 H0 G H τ σ) (h:τ[i]?=some s):i<n:=by
 rw [<- E.l2]
 exact (List.getElem?_eq_some_iff.mp h).1
theorem wY {α:Type} {xs:List α} {i j:Nat} {x y:α} (h:(xs.set i x)[j]?=some y):(j=i/\y=x)\/(j≠i/\xs[j]?=some y):=by
 rw [List.getElem?_set] at h
 by_cases e:i=j
 ·subst e
  rw [if_pos rfl] at h
  split at h
  ·cases h; exact .inl ⟨rfl,rfl⟩
  ·cases h
 ·rw [if_neg e] at h
  exact .inr ⟨fun z=>e z.symm,h⟩
theorem gx {α:Type} {xs:List α} {i:Nat} {x:α} (h:i<xs.length):(xs.set i x)[i]?=some x:=by rw [List.getElem?_set,if_pos rfl,if_pos h]
theorem uM {α:Type} {xs:List α} {i j:Nat} {x:α} (h:j≠i):(xs.set i x)[j]?=xs[j]?:=by rw [List.getElem?_set,if_neg (fun z=>h z.symm)]
theorem zo.set {i:Nat} {d:D} {v:V} (E:zo K n G0 H0 G H τ σ) (hi:i<n) (r:zb K G d v):zo K n G0 H0 G H (τ.set i (some (false,d))) (σ.set i (some v)):=⟨E.ext,by rw [List.length_set]; exact E.l1,by rw [List.length_set]; exact E.l2,fun j e h=>by
 rcases wY h with ⟨rfl,z⟩ | ⟨ne,z⟩
 ·cases z
  exact ⟨v,gx (by rw [E.l1]; exact hi),r⟩
 ·rw [uM ne]
  exact E.fr j e z,fun j e h=>by
 rcases wY h with ⟨rfl,z⟩ | ⟨ne,z⟩
 ·cases z
 ·rw [uM ne]
  exact E.ow j e z,fun j k e f p hne h1 h2=>by
 rcases wY h1 with ⟨rfl,z⟩ | ⟨ne,z⟩
 ·cases z
 ·rcases wY h2 with ⟨rfl,z'⟩ | ⟨ne',z'⟩
  ·cases z'
  ·rw [uM ne,uM ne']
   exact E.ap j k e f p hne z z'⟩
theorem zo.setO {i:Nat} {d:D} {p:Addr} (E:zo K n G0 H0 G H τ σ) (hi:i<n) (hg:G p=none) (h0:H0 p=none) (o:wK K G H d p) (hn:∀ (j:Nat) (e:D),j≠i->τ[j]?=some (some (true,e))->σ[j]?=some (some (V.ref p))->False) :
  zo K n G0 H0 G H (τ.set i (some (true,d))) (σ.set i (some (.ref p))):=⟨E.ext,by rw [List.length_set]; exact E.l1,by rw [List.length_set]; exact E.l2,fun j e h=>by
 rcases wY h with ⟨rfl,z⟩ | ⟨ne,z⟩
 ·cases z
 ·rw [uM ne]
  exact E.fr j e z,fun j e h=>by
 rcases wY h with ⟨rfl,z⟩ | ⟨ne,z⟩
 ·cases z
  exact ⟨p,gx (by rw [E.l1]; exact hi),hg,h0,o⟩
 ·rw [uM ne]
  exact E.ow j e z,fun j k e f q hne h1 h2 h3 h4=>by
 rcases wY h1 with ⟨rfl,z⟩ | ⟨ne,z⟩
 ·rcases wY h2 with ⟨rfl,z'⟩ | ⟨ne',z'⟩
  ·exact hne rfl
  ·rw [gx (by rw [E.l1]; exact hi)] at h3
   rw [uM ne'] at h4
   cases h3
   exact hn k f ne' z' h4
 ·rcases wY h2 with ⟨rfl,z'⟩ | ⟨ne',z'⟩
  ·rw [gx (by rw [E.l1]; exact hi)] at h4
   rw [uM ne] at h3
   cases h4
   exact hn j e ne z h3
  ·rw [uM ne] at h3
   rw [uM ne'] at h4
   exact E.ap j k e f q hne z z' h3 h4⟩
theorem zo.newO {i:Nat} {p:Addr} (E:zo K n G0 H0 G H τ σ) (hp:H p=none):∀ (j:Nat) (e:D),j≠i->τ[j]?=some (some (true,e))->σ[j]?=some (some (V.ref p))->False:=fun j e _ h1 h2=>by
 obtain ⟨q,e1,_,_,o⟩:=E.ow j e h1
 rw [h2] at e1
 cases e1
 exact o.some hp
theorem zo.freeze {i:Nat} {b:Bool} {d:D} (E:zo K n G0 H0 G H τ σ) (hi:τ[i]?=some (some (b,d))):∃ G',zo K n G0 H0 G' H (τ.set i (some (false,d))) σ/\yO G G':=by
 have hin:=E.lt hi
 cases b with
 | false=>
  refine ⟨G,?_,yO.refl _⟩
  have e:τ.set i (some (false,d))=τ:=by
   apply List.ext_getElem?
   intro j
   by_cases hj:j=i
   ·subst hj; rw [gx (by rw [E.l2]; exact hin),hi]
   ·rw [uM hj]
  rw [e]
  exact E
 | true=>
  obtain ⟨p,e,g,z,o⟩:=E.ow i d hi
  obtain ⟨u,hu,r⟩:=o.frz g
  have x:zU G0 H0 (zu G p u) H:=E.ext.frz z g hu
  refine ⟨zu G p u,⟨x,E.l1,by rw [List.length_set]; exact E.l2,fun j d' h=>?_,fun j d' h=>?_,fun j k e1 f q hne h1 h2=>?_⟩,wJ g _⟩
  ·rcases wY h with ⟨rfl,w⟩ | ⟨ne,w⟩
   ·cases w
    exact ⟨_,e,r⟩
   ·obtain ⟨v,e',r'⟩:=E.fr j d' w
    exact ⟨v,e',r'.mono (wJ g _)⟩
  ·rcases wY h with ⟨rfl,w⟩ | ⟨ne,w⟩
   ·cases w
   ·obtain ⟨q,e',g',z',o'⟩:=E.ow j d' w
    refine ⟨q,e',?_,z',o'.mono (wJ g _) (yO.refl _)⟩
    rw [yn (fun c=>?_)]
    ·exact g'
    ·subst c
     exact E.ap i j d d' q (fun c=>ne c.symm) hi w e e'
  ·rcases wY h1 with ⟨rfl,w⟩ | ⟨ne,w⟩
   ·cases w
   ·rcases wY h2 with ⟨rfl,w'⟩ | ⟨ne',w'⟩
    ·cases w'
    ·exact E.ap j k e1 f q hne w w'
end
section
variable (X:Cx)
structure SE (e:Expr) (f:FE):Prop where
 h:∃ t,PE X e t/\∀ {G0 H0 G H:Hp} {τ:zz} {σ:St} {d:D} {Q:VK},zo X.K X.N.length G0 H0 G H τ σ->f τ=some d->(∀ v G' H',zU G H G' H'->zb X.K G' d v->Q v H')->t σ H Q
structure SB (e:Expr) (f:FE):Prop where
 h:∃ t,PE X e t/\∀ {G0 H0 G H:Hp} {τ:zz} {σ:St} {d:D} {Q:VK},zo X.K X.N.length G0 H0 G H τ σ->f τ=some d->(∀ v G' H',zU G H G' H'->zb X.K H' d v->Q v H')->t σ H Q
structure SF (e:Expr) (f:FE):Prop where
 h:∃ t,PE X e t/\∀ {G0 H0 G H:Hp} {τ:zz} {σ:St} {d:D} {Q:VK},zo X.K X.N.length G0 H0 G H τ σ->f τ=some d->(∀ p G' H',zU G H G' H'->H p=none->G' p=none->wK X.K G' H' d p->Q (.ref p) H')->t σ H Q
structure ST (e:Expr) (f:FT):Prop where
 h:∃ t,PT X e t/\∀ {G0 H0 G H:Hp} {τ:zz} {σ:St} {d:Bool} {Q:Bool->Hp->Prop},zo X.K X.N.length G0 H0 G H τ σ->f τ=some d->(∀ G' H',zU G H G' H'->Q d H')->t σ H Q
structure SW (e:Expr) (f:FT):Prop where
 h:∃ t,PW X e t/\∀ {G0 H0 G H:Hp} {τ:zz} {σ:St} {d:Bool} {Q:Bool->Hp->Prop},zo X.K X.N.length G0 H0 G H τ σ->f τ=some d->(∀ G' H',zU G H G' H'->Q d H')->t σ H Q
structure SA (es:List Expr) (f:FA):Prop where
 h:∃ t,PA X es t/\∀ {G0 H0 G H:Hp} {τ:zz} {σ:St} {ds:List D} {Q:List V->Hp->Prop},zo X.K X.N.length G0 H0 G H τ σ->f τ=some ds->(∀ vs G' H',zU G H G' H'->Reps X.K G' ds vs->Q vs H')->t σ H Q
structure gO (es:List Expr) (f:FA):Prop where
 h:∃ t,PA X es t/\∀ {G0 H0 G H:Hp} {τ:zz} {σ:St} {ds:List D} {Q:List V->Hp->Prop},zo X.K X.N.length G0 H0 G H τ σ->f τ=some ds->(∀ vs G' H',zU G H G' H'->Reps X.K H' ds vs->Q vs H')->t σ H Q
end
noncomputable def xf (K:PySem.W.Frag) (n:Nat) (G0 H0:Hp) (E:wq):Fl->Prop
 | .nx τ=>∀ σ G H,zo K n G0 H0 G H τ σ->E.nx σ H
 | .bk τ=>∀ σ G H,zo K n G0 H0 G H τ σ->E.bk σ H
 | .ct τ=>∀ σ G H,zo K n G0 H0 G H τ σ->E.ct σ H
 | .rt false d=>∀ v G H,zU G0 H0 G H->zb K G d v->E.rt v H
 | .rt true d=>∀ p G H,zU G0 H0 G H->H0 p=none->G p=none->wK K G H d p->E.rt (.ref p) H
section
variable (X:Cx)
structure SS (st:Stmt) (f:FS):Prop where
 h:∃ t,PS X st t/\∀ {G0 H0 G H:Hp} {τ:zz} {σ:St} {fl:Fl} {E:wq},zo X.K X.N.length G0 H0 G H τ σ->f τ=some fl->xf X.K X.N.length G0 H0 E fl->t E σ H
structure wM (st:List Stmt) (f:FS):Prop where
 h:∃ t,wL X st t/\∀ {G0 H0 G H:Hp} {τ:zz} {σ:St} {fl:Fl} {E:wq},zo X.K X.N.length G0 H0 G H τ σ->f τ=some fl->xf X.K X.N.length G0 H0 E fl->t E σ H
end
structure jI (K:PySem.W.Frag) (J:It) (G:Hp) (ds:List D):Prop where
 go:∀ i G2 H,yO G G2->yO G2 H->i<ds.length->J.go i H
 yld:∀ i G2 H x H',yO G G2->yO G2 H->i<ds.length->J.yld i H x H'->∃ G3 d,zU G2 H G3 H'/\ds[i]?=some d/\zb K G3 d x
 stop:∀ i G2 H,yO G G2->yO G2 H->ds.length<=i->J.stop i H
structure SI (X:Cx) (tg iter:Expr) (f:FA):Prop where
 h:∃ wi,PI X tg iter wi/\∀ {G0 H0 G H:Hp} {τ:zz} {σ:St} {ds:List D} {R:It->Hp->Prop},zo X.K X.N.length G0 H0 G H τ σ->f τ=some ds->(∀ J G' H',zU G H G' H'->ds.length<=sizeLine->jI X.K J G' ds->R J H')->wi σ H R
noncomputable def xB (K:PySem.W.Frag) (F:List D->Option (Bool×D)):Sp:=fun vs H Q _=>∃ G ds o d,yO G H/\Reps K G ds vs/\F ds=some (o,d)/\
 match o with
 | false=>∀ v G' H',zU G H G' H'->zb K G' d v->Q v H'
 | true=>∀ p G' H',zU G H G' H'->H p=none->G' p=none->wK K G' H' d p->Q (.ref p) H'
end L3
namespace L3
open PySem PySem.Spec PyProof.Rows L2
theorem zL {α β:Type} {o:Option α} {f:α->Option β} {b:β} (h:o.bind f=some b):∃ a,o=some a/\f a=some b:=by
 cases o with
 | none=>cases h
 | some a=>exact ⟨a,rfl,h⟩
theorem TU {i:Nat} {τ:zz} {d:D} (h:z7 i τ=some d):τ[i]?=some (some (false,d)):=by
 unfold z7 at h
 split at h
 ·rename_i e
  cases h
  exact e
 ·cases h
theorem WX {i:Nat} {τ:zz} {d:D} (h:w_ i τ=some d):∃ b,τ[i]?=some (some (b,d)):=by
 unfold w_ at h
 split at h
 ·rename_i b d' e
  cases h
  exact ⟨_,e⟩
 ·cases h
section
variable {X:Cx} {x:Str} {p pos apos cpos p2:Pos} {e a b c o:Expr} {es yG:List Expr} {f fa fb fc:FE} {ft fu:FT} {fs:FA} {F:D->D->Option D} {r:R2}
theorem SE.sb (h:SE X e f):SB X e f:=⟨let ⟨t,p,k⟩:=h.h; ⟨t,p,fun E hf q=>k E hf fun v G' H' x r=>q v G' H' x (r.mono x.gh)⟩⟩
theorem SF.se (h:SF X e f):SE X e f:=⟨let ⟨t,p,k⟩:=h.h; ⟨t,p,fun E hf q=>k E hf fun p G' H' x hp gp o=>by
 obtain ⟨u,hu,r⟩:=o.frz gp
 exact q _ _ _ (x.frz hp gp hu) r⟩⟩
theorem zI (h:SE X e f):SB X e f:=h.sb
theorem yj (h:SF X e f):SE X e f:=h.se
theorem zA (i:Nat) {x:Str} {pos:Pos} (hN:X.N[i]?=some x:=by rfl) (hv:qL X.env.scope x:=by first | exact Or.inl rfl | exact Or.inr (Or.inl rfl) | exact Or.inr (Or.inr rfl)) (hd:(x == ("__debug__" : Str))=false:=by decide)
  (hcd:(x == ("__classdict__" : Str))=false:=by decide):SE X (.Name x pos) (z7 i):=⟨⟨_,kS hN hv hd hcd,fun E hf q=>by
 obtain ⟨v,e,r⟩:=E.fr _ _ (TU hf)
 exact ⟨v,e,q v _ _ (zU.refl E.ext.gh) r⟩⟩⟩
theorem CL (i:Nat) {x:Str} {pos:Pos} (hN:X.N[i]?=some x:=by rfl) (hv:qL X.env.scope x:=by first | exact Or.inl rfl | exact Or.inr (Or.inl rfl) | exact Or.inr (Or.inr rfl)) (hd:(x == ("__debug__" : Str))=false:=by decide)
  (hcd:(x == ("__classdict__" : Str))=false:=by decide):SB X (.Name x pos) (w_ i):=⟨⟨_,kS hN hv hd hcd,fun E hf q=>by
 obtain ⟨b,hb⟩:=WX hf
 cases b with
 | false=>
  obtain ⟨v,e,r⟩:=E.fr _ _ hb
  exact ⟨v,e,q v _ _ (zU.refl E.ext.gh) (r.mono E.ext.gh)⟩
 | true=>
  obtain ⟨p,e,_,_,o⟩:=E.ow _ _ hb
  exact ⟨_,e,q _ _ _ (zU.refl E.ext.gh) (o.rep E.ext.gh)⟩⟩⟩
theorem Z2 {v:V} {d:D} (h:PE X e (tC v)) (r:∀ H,zb X.K H d v):SE X e (eC d):=⟨⟨_,h,fun E hf q=>by
 cases hf
 exact q v _ _ (zU.refl E.ext.gh) (r _)⟩⟩
theorem zD {i k pos}:SE X (.Constant (.int i) k pos) (eC (.int i)):=Z2 Qv fun _=>rfl
theorem Yk {i k pos}:SE X (.Constant (.bool i) k pos) (eC (.bl i)):=Z2 DQ fun _=>rfl
theorem pZ {k pos}:SE X (.Constant .none k pos) (eC .non):=Z2 Dd fun _=>rfl
theorem zO {x k pos} (h:x.length<=1000:=by decide):SE X (.Constant (.str x) k pos) (eC (.str x)):=Z2 Dg fun _=>⟨rfl,qo h⟩
theorem U3 {v:V} {d:D} (h:qI X.mg x v) (r:∀ H,zb X.K H d v) (hg:Gl X x) (hd:(x == ("__debug__" : Str))=false:=by decide):SE X (.Name x pos) (eC d):=Z2 (Qu h hg hd) r
noncomputable def ww (K:PySem.W.Frag) (r:R2) (F:D->D->Option D):Prop:=∀ G H x y u v d (Q:VK),yO G H->zb K G x u->zb K G y v->F x y=some d->(∀ w G' H',zU G H G' H'->zb K G' d w->Q w H')->r u v H Q
noncomputable def ug (K:PySem.W.Frag) (r:R2) (F:D->D->Option D):Prop:=∀ H x y u v d (Q:VK),zb K H x u->zb K H y v->F x y=some d->∃ k,d=.bl k/\(Q (.bl k) H->r u v H Q)
theorem zJ {op:Operator} (ho:yS X (binaryOp op) r) (hF:ww X.K r F) (ha:SE X a fa) (hb:SE X b fb):SE X (.BinOp a op b pos) (e2 F fa fb):=by
 obtain ⟨ta,pa,ka⟩:=ha.h
 obtain ⟨tb,pb,kb⟩:=hb.h
 refine ⟨⟨_,Qx ho pa pb,fun E hf q=>?_⟩⟩
 obtain ⟨x,hx,hf⟩:=zL hf
 obtain ⟨y,hy,hf⟩:=zL hf
 refine ka E hx fun v G1 H1 x1 r1=>?_
 refine kb (E.go x1) hy fun u G2 H2 x2 r2=>?_
 exact hF G2 H2 x y v u _ _ x2.gh (r1.mono x2.g) r2 hf fun w G' H' x3 r3=>q w G' H' (x1.trans (x2.trans x3)) r3
theorem zh (hr:vf X r) (hF:ww X.K r F) (ha:SE X a fa) (hb:SE X b fb) (hs:kU b=true:=by rfl):SE X (.Subscript a b pos) (e2 F fa fb):=by
 obtain ⟨ta,pa,ka⟩:=ha.h
 obtain ⟨tb,pb,kb⟩:=hb.h
 refine ⟨⟨_,Qw hr pa pb (J1 hs),fun E hf q=>?_⟩⟩
 obtain ⟨x,hx,hf⟩:=zL hf
 obtain ⟨y,hy,hf⟩:=zL hf
 refine ka E hx fun v G1 H1 x1 r1=>?_
 refine kb (E.go x1) hy fun u G2 H2 x2 r2=>?_
 exact hF G2 H2 x y v u _ _ x2.gh (r1.mono x2.g) r2 hf fun w G' H' x3 r3=>q w G' H' (x1.trans (x2.trans x3)) r3
theorem jv {op:CmpOp} (ho:yS X (compareOp op) r) (hF:ug X.K r F) (ha:SB X a fa) (hb:SB X b fb) (hm:behindInMarks op b=false):SE X (.Compare a [op] [b] pos) (e2 F fa fb):=by
 obtain ⟨ta,pa,ka⟩:=ha.h
 obtain ⟨tb,pb,kb⟩:=hb.h
 refine ⟨⟨_,DX ho pa pb hm,fun E hf q=>?_⟩⟩
 obtain ⟨x,hx,hf⟩:=zL hf
 obtain ⟨y,hy,hf⟩:=zL hf
 refine ka E hx fun v G1 H1 x1 r1=>?_
 refine kb (E.go x1) hy fun u G2 H2 x2 r2=>?_
 obtain ⟨k,rfl,z⟩:=hF H2 x y v u _ _ (r1.mono x2.h) r2 hf
 exact z (q _ _ _ (x1.trans x2) rfl)
theorem yB {op:CmpOp} (ho:yS X (compareOp op) r) (hF:ug X.K r F) (ha:SB X a fa) (hb:SB X b fb) (hm:behindInMarks op b=false):ST X (.Compare a [op] [b] pos) (tE (e2 F fa fb)):=by
 obtain ⟨ta,pa,ka⟩:=ha.h
 obtain ⟨tb,pb,kb⟩:=hb.h
 refine ⟨⟨_,FM ho pa pb hm,fun E hf q=>?_⟩⟩
 obtain ⟨z,hz,hf⟩:=zL hf
 obtain ⟨x,hx,hz⟩:=zL hz
 obtain ⟨y,hy,hz⟩:=zL hz
 refine ka E hx fun v G1 H1 x1 r1=>?_
 refine kb (E.go x1) hy fun u G2 H2 x2 r2=>?_
 obtain ⟨k,rfl,z⟩:=hF H2 x y v u _ _ (r1.mono x2.h) r2 hz
 cases hf
 exact z ⟨_,rfl,q _ _ (x1.trans x2)⟩
theorem qq (h:SE X e f) (he:Q_ e=true:=by rfl):ST X e (tE f):=by
 obtain ⟨t,p,k⟩:=h.h
 refine ⟨⟨_,FP p (Dz he),fun E hf q=>?_⟩⟩
 obtain ⟨z,hz,hf⟩:=zL hf
 refine k E hz fun v G' H' x r=>?_
 cases z<;>first | cases hf | skip
 cases r
 exact ⟨_,rfl,q _ _ x⟩
theorem UD (h:ST X a ft):SW X (.BoolOp .And [a] pos) ft:=⟨let ⟨t,p,k⟩:=h.h; ⟨t,FY p,k⟩⟩
theorem jz (h:ST X a ft):SW X (.BoolOp .Or [a] pos) ft:=⟨let ⟨t,p,k⟩:=h.h; ⟨t,Fa p,k⟩⟩
theorem UC (ha:ST X a ft) (hb:SW X (.BoolOp .And (b::yG) pos) fu):SW X (.BoolOp .And (a::b::yG) pos) (pj ft fu):=by
 obtain ⟨ta,pa,ka⟩:=ha.h
 obtain ⟨tb,pb,kb⟩:=hb.h
 refine ⟨⟨_,FW pa pb,fun E hf q=>?_⟩⟩
 obtain ⟨k,hk,hf⟩:=zL hf
 refine ka E hk fun G1 H1 x1=>?_
 cases k with
 | true=>exact ut (kb (E.go x1) hf fun G' H' x2=>q _ _ (x1.trans x2))
 | false=>cases hf; exact ur (q _ _ x1)
theorem pd (ha:ST X a ft) (hb:SW X (.BoolOp .Or (b::yG) pos) fu):SW X (.BoolOp .Or (a::b::yG) pos) (vC ft fu):=by
 obtain ⟨ta,pa,ka⟩:=ha.h
 obtain ⟨tb,pb,kb⟩:=hb.h
 refine ⟨⟨_,FZ pa pb,fun E hf q=>?_⟩⟩
 obtain ⟨k,hk,hf⟩:=zL hf
 refine ka E hk fun G1 H1 x1=>?_
 cases k with
 | false=>exact ur (kb (E.go x1) hf fun G' H' x2=>q _ _ (x1.trans x2))
 | true=>cases hf; exact ut (q _ _ x1)
theorem tu (h:SW X e ft):ST X e ft:=⟨let ⟨t,p,k⟩:=h.h; ⟨t,p.pt,k⟩⟩
theorem IN (h:ST X a ft):ST X (.UnaryOp .Not a pos) (pp ft):=by
 obtain ⟨ta,pa,ka⟩:=h.h
 refine ⟨⟨_,FN pa,fun E hf q=>?_⟩⟩
 obtain ⟨k,hk,hf⟩:=zL hf
 cases hf
 exact ka E hk fun G1 H1 x1=>q _ _ x1
theorem Jz {op} (h:SE X a f):SE X (.BoolOp op [a] pos) f:=⟨let ⟨t,p,k⟩:=h.h; ⟨t,De p,k⟩⟩
theorem C7 {K:PySem.W.Frag} {G:Hp} {z:D} {v:V} {k:Bool} (r:zb K G z v) (h:qO z=some k):v=.bl k:=by
 cases z<;>first | cases h | skip
 exact r
theorem Jv (ha:SE X a fa) (hb:SE X (.BoolOp .And (b::yG) pos) fb):SE X (.BoolOp .And (a::b::yG) pos) (pI fa fb):=by
 obtain ⟨ta,pa,ka⟩:=ha.h
 obtain ⟨tb,pb,kb⟩:=hb.h
 refine ⟨⟨_,DP pa pb,fun E hf q=>?_⟩⟩
 obtain ⟨z,hz,hf⟩:=zL hf
 obtain ⟨k,hk,hf⟩:=zL hf
 refine ka E hz fun v G1 H1 x1 r1=>⟨k,C7 r1 hk,?_⟩
 cases k with
 | true=>exact ut (kb (E.go x1) hf fun v G' H' x2 r2=>q v _ _ (x1.trans x2) r2)
 | false=>cases hf; exact ur (q _ _ _ x1 rfl)
theorem CT (hc:ST X c ft) (ha:SE X a fa) (hb:SE X b fb):SE X (.IfExp c a b pos) (uI ft fa fb):=by
 obtain ⟨tc,pc,kc⟩:=hc.h
 obtain ⟨ta,pa,ka⟩:=ha.h
 obtain ⟨tb,pb,kb⟩:=hb.h
 refine ⟨⟨_,Da pc pa pb,fun E hf q=>?_⟩⟩
 obtain ⟨k,hk,hf⟩:=zL hf
 refine kc E hk fun G1 H1 x1=>?_
 cases k with
 | true=>exact ut (ka (E.go x1) hf fun v G' H' x2 r2=>q v _ _ (x1.trans x2) r2)
 | false=>exact ur (kb (E.go x1) hf fun v G' H' x2 r2=>q v _ _ (x1.trans x2) r2)
theorem zM:SA X [] zC:=⟨⟨_,YO,fun E hf q=>by cases hf; exact q _ _ _ (zU.refl E.ext.gh) rfl⟩⟩
theorem zB (ha:SE X e f) (hr:SA X es fs) (h:yf e=true:=by rfl):SA X (e::es) (z8 f fs):=by
 obtain ⟨ta,pa,ka⟩:=ha.h
 obtain ⟨tb,pb,kb⟩:=hr.h
 refine ⟨⟨_,YQ pa pb h,fun E hf q=>?_⟩⟩
 obtain ⟨x,hx,hf⟩:=zL hf
 obtain ⟨xs,hxs,hf⟩:=zL hf
 cases hf
 refine ka E hx fun v G1 H1 x1 r1=>kb (E.go x1) hxs fun vs G2 H2 x2 r2=>?_
 exact q _ _ _ (x1.trans x2) ⟨v,vs,rfl,r1.mono x2.g,r2⟩
theorem ym:gO X [] zC:=⟨⟨_,YO,fun E hf q=>by cases hf; exact q _ _ _ (zU.refl E.ext.gh) rfl⟩⟩
theorem yl (ha:SB X e f) (hr:gO X es fs) (h:yf e=true:=by rfl):gO X (e::es) (z8 f fs):=by
 obtain ⟨ta,pa,ka⟩:=ha.h
 obtain ⟨tb,pb,kb⟩:=hr.h
 refine ⟨⟨_,YQ pa pb h,fun E hf q=>?_⟩⟩
 obtain ⟨x,hx,hf⟩:=zL hf
 obtain ⟨xs,hxs,hf⟩:=zL hf
 cases hf
 refine ka E hx fun v G1 H1 x1 r1=>kb (E.go x1) hxs fun vs G2 H2 x2 r2=>?_
 exact q _ _ _ (x1.trans x2) ⟨v,vs,rfl,r1.mono x2.h,r2⟩
theorem CJ {is:List Int} (h:intsOf es=some is):SA X es (fun _=>some (is.map D.int)):=⟨⟨_,Qq h,fun E hf q=>by cases hf; exact q _ _ _ (zU.refl E.ext.gh) Reps.ints⟩⟩
theorem xN {x1} (h:SA X es fs) (hl:∀ τ ds,fs τ=some ds->ds.length<=1000):SE X (.Tuple es x1 pos) (yQ fs):=by
 obtain ⟨t,pt,k⟩:=h.h
 refine ⟨⟨_,Dh pt,fun E hf q=>?_⟩⟩
 obtain ⟨xs,hx,hf⟩:=zL hf
 cases hf
 have l:xs.length<=sizeLine:=qo (hl _ _ hx)
 refine k E hx fun vs G1 H1 x1 r1=>⟨by rw [r1.length]; exact l,fun p hp=>?_⟩
 exact q _ _ _ (x1.trans (zU.lay x1.gh hp)) ⟨p,vs,rfl,yx.of xH,r1.mono (wJ (x1.gh.free hp) _),l⟩
theorem yX (h:SA X es fs) (hl:∀ τ ds,fs τ=some ds->ds.length<=1000):SF X (.List es pos) (yC fs):=by
 obtain ⟨t,pt,k⟩:=h.h
 refine ⟨⟨_,Dc pt,fun E hf q=>?_⟩⟩
 obtain ⟨xs,hx,hf⟩:=zL hf
 cases hf
 have l:xs.length<=sizeLine:=qo (hl _ _ hx)
 refine k E hx fun vs G1 H1 x1 r1=>⟨by rw [r1.length]; exact l,fun p hp=>?_⟩
 exact q _ _ _ (x1.trans (zU.layO x1.gh hp)) (x1.h.free hp) (x1.gh.free hp) ⟨vs,xH,r1,l⟩
theorem zk:∀ (τ:zz) ds,zC τ=some ds->ds.length<=0:=fun _ _ h=>by cases h; exact Nat.le_refl _
theorem zH {n:Nat} (h:∀ τ ds,fs τ=some ds->ds.length<=n):∀ τ ds,z8 f fs τ=some ds->ds.length<=n+1:=fun τ ds e=>by
 obtain ⟨x,_,e⟩:=zL e
 obtain ⟨xs,hx,e⟩:=zL e
 cases e
 exact Nat.succ_le_succ (h _ _ hx)
theorem OF {is:List Int} {n:Nat} (h:is.length<=n):∀ (τ:zz) ds,(some (is.map D.int))=some ds->ds.length<=n:=fun _ _ e=>by
 cases e
 rw [List.length_map]
 exact h
theorem zg {m n:Nat} (h:∀ τ ds,fs τ=some ds->ds.length<=m) (hmn:m<=n):∀ τ ds,fs τ=some ds->ds.length<=n:=fun τ ds e=>Nat.le_trans (h τ ds e) hmn
variable {ps:List Str} {j k:Nat} {FF:List D->Option (Bool×D)} {FL:List D->Option D} {id T:String}
theorem yM (h:yt X.prog X.w X.K X.mg X.base x ps k (xB X.K FF)) (hr:yg j X.A) (hg:Gl X x) (ha:SA X (e::es) fs) (hk:k<=j:=by decide) (hdb:(x == ("__debug__" : Str))=false:=by decide)
  (he:(e::es).all yf=true:=by rfl):SE X (.Call (.Name x p) (e::es) [] pos) (zV FF fs):=by
 obtain ⟨t,pt,kt⟩:=ha.h
 refine ⟨⟨_,Df h hr hg pt hk hdb he,fun E hf q=>?_⟩⟩
 obtain ⟨ds,hd,hf⟩:=zL hf
 obtain ⟨⟨o,d⟩,hr,hf⟩:=zL hf
 cases hf
 refine kt E hd fun vs G1 H1 x1 r1=>⟨G1,ds,o,d,x1.gh,by rw [List.append_nil]; exact r1,hr,?_⟩
 cases o with
 | false=>exact fun v G' H' x2 r=>q v G' H' (x1.trans x2) r
 | true=>
  intro p G' H' x2 hp gp o
  obtain ⟨u,hu,r⟩:=o.frz gp
  exact q _ _ _ (x1.trans (x2.frz hp gp hu)) r
noncomputable def q_ (K:PySem.W.Frag) (r:List V->Hp->VK->Prop) (F:List D->Option D):Prop:=∀ G H ds vs d (Q:VK),yO G H->Reps K H ds vs->F ds=some d->(∀ w G' H',zU G H G' H'->zb K G' d w->Q w H')->r vs H Q
theorem xr {rc:List V->Hp->VK->Prop} (hc:xn X (.builtin id) rc) (hF:q_ X.K rc FL) (hg:Gl X x) (hm:X.mg x=none) (hv:bootBuiltins x=some (.builtin id)) (ha:gO X (e::es) fs) (hn:x ≠ "__name__" := by decide) (hdb:(x == ("__debug__" : Str))=false:=by decide)
  (he:(e::es).all yf=true:=by rfl):SE X (.Call (.Name x p) (e::es) [] pos) (eL FL fs):=by
 obtain ⟨t,pt,kt⟩:=ha.h
 refine ⟨⟨_,(YT hc hg hm hv ⟨pt⟩ hn hdb he).h,fun E hf q=>?_⟩⟩
 obtain ⟨ds,hd,hf⟩:=zL hf
 exact kt E hd fun vs G1 H1 x1 r1=>hF G1 H1 ds vs _ _ x1.gh r1 hf fun w G' H' x2 r2=>q w G' H' (x1.trans x2) r2
theorem v_ {rc:List V->Hp->VK->Prop} (hc:xn X (.type T) rc) (hF:q_ X.K rc FL) (hg:Gl X x) (hm:X.mg x=none) (hv:bootBuiltins x=some (.type T)) (ha:gO X (e::es) fs) (hn:x ≠ "__name__" := by decide) (hdb:(x == ("__debug__" : Str))=false:=by decide)
  (he:(e::es).all yf=true:=by rfl):SE X (.Call (.Name x p) (e::es) [] pos) (eL FL fs):=by
 obtain ⟨t,pt,kt⟩:=ha.h
 refine ⟨⟨_,(JB hc hg hm hv ⟨pt⟩ hn hdb he).h,fun E hf q=>?_⟩⟩
 obtain ⟨ds,hd,hf⟩:=zL hf
 exact kt E hd fun vs G1 H1 x1 r1=>hF G1 H1 ds vs _ _ x1.gh r1 hf fun w G' H' x2 r2=>q w G' H' (x1.trans x2) r2
theorem vY {op:UnaryOp} {ru:V->Hp->VK->Prop} {F1:D->Option D} (ho:ZK X (unaryOp op) ru) (hF:∀ (G H:Hp) x u d (Q:VK),zb X.K G x u->F1 x=some d->∃ w,(∀ G,zb X.K G d w)/\(Q w H->ru u H Q)) (ha:SE X a fa):SE X (.UnaryOp op a pos) (e1 F1 fa):=by
 obtain ⟨t,pt,kt⟩:=ha.h
 refine ⟨⟨_,Di ho pt,fun E hf q=>?_⟩⟩
 obtain ⟨x,hx,hf⟩:=zL hf
 refine kt E hx fun v G1 H1 x1 r1=>?_
 obtain ⟨w,rw_,z⟩:=hF G1 H1 x v _ _ r1 hf
 exact z (q w _ _ x1 (rw_ _))
end
end L3
namespace L3
open PySem PySem.Spec PyProof.Rows L2
section
variable {X:Cx} {x:Str} {p pos pos' apos cpos:Pos} {e a b c tg iter elt:Expr} {es ifs:List Expr} {f fa fb:FE} {ft:FT} {fs:FA} {st:Stmt} {sts body:List Stmt} {g g':FS}
theorem yY:wM X [] zm:=⟨⟨_,VM,fun {_ _ G H τ σ fl E} K hf q=>by
 cases hf
 exact q σ G H K⟩⟩
theorem xf.with {K:PySem.W.Frag} {n:Nat} {G0 H0:Hp} {E E':wq} {fl:Fl} (h:xf K n G0 H0 E fl) (hn:∀ τ,fl=.nx τ->xf K n G0 H0 E' (.nx τ)) (hb:∀ τ,fl=.bk τ->xf K n G0 H0 E' (.bk τ)) (hc:∀ τ,fl=.ct τ->xf K n G0 H0 E' (.ct τ)) (hr:E'.rt=E.rt):xf K n G0 H0 E' fl:=by
 cases fl with
 | nx τ=>exact hn τ rfl
 | bk τ=>exact hb τ rfl
 | ct τ=>exact hc τ rfl
 | rt o d=>
  cases o with
  | false=>intro v G H x r; rw [hr]; exact h v G H x r
  | true=>intro v G H x r1 r2 r3; rw [hr]; exact h v G H x r1 r2 r3
theorem zQ (h1:SS X st g) (h2:wM X sts g'):wM X (st::sts) (zG g g'):=by
 obtain ⟨t,p,k⟩:=h1.h
 obtain ⟨t',p',k'⟩:=h2.h
 refine ⟨⟨_,YS p p',fun {G0 H0 G H τ σ fl E} K hf q=>?_⟩⟩
 obtain ⟨f1,h1,hf⟩:=zL hf
 refine k K h1 ?_
 cases f1 with
 | nx τ'=>exact fun σ' G' H' K'=>k' K' hf q
 | bk τ'=>cases hf; exact q
 | ct τ'=>cases hf; exact q
 | rt o d=>cases hf; exact xf.with q (fun _ z=>nomatch z) (fun _ z=>nomatch z) (fun _ z=>nomatch z) rfl
theorem zW (h1:SS X st g):wM X [st] g:=⟨let ⟨t,p,k⟩:=h1.h; ⟨t,J9 p,k⟩⟩
theorem U9 (i:Nat) (h:wM X sts g):wM X sts (zG (qh i) g):=by
 obtain ⟨t,p,k⟩:=h.h
 refine ⟨⟨t,p,fun {G0 H0 G H τ σ fl E} K hf q=>?_⟩⟩
 obtain ⟨f1,h1,hf⟩:=zL hf
 unfold qh at h1
 split at h1
 ·rename_i bb d hd
  cases h1
  obtain ⟨G',K',_⟩:=K.freeze hd
  exact k K' hf q
 ·cases h1
theorem zZ {i:Nat} {x:Str} {pos':Pos} (hN:X.N.Nodup) (hi:X.N[i]?=some x) (hx:uf X.env.scope x) (he:SE X e f) (hs:pO e=true:=by rfl) (hf:X.fn x=true\/X.env.scope.names.lookup x=some .local:=by first | exact .inl rfl | exact .inr rfl | assumption) :
  SS X (.Assign [.Name x pos'] e pos) (zP i f):=by
 obtain ⟨t,p,k⟩:=he.h
 refine ⟨⟨_,(JH hN hi hx ⟨p⟩ hs hf).h,fun {G0 H0 G H τ σ fl E} K hf q=>?_⟩⟩
 obtain ⟨d,hd,hf⟩:=zL hf
 cases hf
 exact k K hd fun v G' H' x r=>q _ _ _ ((K.go x).set (List.getElem?_eq_some_iff.mp hi).1 r)
theorem tF {i:Nat} {x:Str} {pos':Pos} (hN:X.N.Nodup) (hi:X.N[i]?=some x) (hx:uf X.env.scope x) (he:SF X e f) (hs:pO e=true:=by rfl) (hf:X.fn x=true\/X.env.scope.names.lookup x=some .local:=by first | exact .inl rfl | exact .inr rfl | assumption) :
  SS X (.Assign [.Name x pos'] e pos) (vB i f):=by
 obtain ⟨t,p,k⟩:=he.h
 refine ⟨⟨_,(JH hN hi hx ⟨p⟩ hs hf).h,fun {G0 H0 G H τ σ fl E} K hf q=>?_⟩⟩
 obtain ⟨d,hd,hf⟩:=zL hf
 cases hf
 refine k K hd fun p G' H' x hp gp o=>q _ _ _ ((K.go x).setO (List.getElem?_eq_some_iff.mp hi).1 gp (K.ext.h.free hp) o ?_)
 exact K.newO hp
theorem yZ (he:SE X e f):SS X (.Return (some e) pos) (za f):=by
 obtain ⟨t,p,k⟩:=he.h
 refine ⟨⟨_,VL p,fun {G0 H0 G H τ σ fl E} K hf q=>?_⟩⟩
 obtain ⟨d,hd,hf⟩:=zL hf
 cases hf
 exact k K hd fun v G' H' x r=>q v _ _ (K.ext.trans x) r
theorem Yq (he:SF X e f):SS X (.Return (some e) pos) (qi f):=by
 obtain ⟨t,p,k⟩:=he.h
 refine ⟨⟨_,VL p,fun {G0 H0 G H τ σ fl E} K hf q=>?_⟩⟩
 obtain ⟨d,hd,hf⟩:=zL hf
 cases hf
 exact k K hd fun p G' H' x hp gp o=>q p _ _ (K.ext.trans x) (K.ext.h.free hp) gp o
theorem jy (i:Nat) {x:Str} {pos':Pos} (hN:X.N[i]?=some x:=by rfl) (hv:qL X.env.scope x:=by first | exact Or.inl rfl | exact Or.inr (Or.inl rfl) | exact Or.inr (Or.inr rfl)) (hd:(x == ("__debug__" : Str))=false:=by decide)
  (hcd:(x == ("__classdict__" : Str))=false:=by decide):SS X (.Return (some (.Name x pos')) pos) (t8 i):=by
 refine ⟨⟨_,VL (kS hN hv hd hcd),fun {G0 H0 G H τ σ fl E} K hf q=>?_⟩⟩
 unfold t8 at hf
 split at hf
 ·rename_i d he
  cases hf
  obtain ⟨p,e,g,z,o⟩:=K.ow _ _ he
  exact ⟨_,e,q p _ _ K.ext z g o⟩
 ·cases hf
theorem yN {sa sb:List Stmt} (hc:ST X c ft) (ha:wM X sa g) (hb:wM X sb g'):SS X (.If c sa sb pos) (zY ft g g'):=by
 obtain ⟨tc,pc,kc⟩:=hc.h
 obtain ⟨ta,pa,ka⟩:=ha.h
 obtain ⟨tb,pb,kb⟩:=hb.h
 refine ⟨⟨_,VJ pc pa pb,fun {G0 H0 G H τ σ fl E} K hf q=>?_⟩⟩
 obtain ⟨k,hk,hf⟩:=zL hf
 refine kc K hk fun G1 H1 x1=>?_
 cases k with
 | true=>exact ut (ka (K.go x1) hf q)
 | false=>exact ur (kb (K.go x1) hf q)
theorem IL {ft:FT} (hp:PassesOwn (model X.prog X.w) X.A X.env X.xe) (hc:ST X c ft) (hb:wM X body g):SS X (.While c body [] pos) (Yb ft g):=by
 obtain ⟨tc,pc,kc⟩:=hc.h
 obtain ⟨tb,pb,kb⟩:=hb.h
 refine ⟨⟨_,FI hp pc pb,fun {G0 H0 G H τ σ fl E} K hf q=>?_⟩⟩
 refine ⟨fun m σ H=>∃ τ G,zo X.K X.N.length G0 H0 G H τ σ/\vE ft g m τ=some fl,⟨ZC,τ,G,K,hf⟩,?_⟩
 rintro m σ H ⟨τ,G,K,hf⟩
 cases m with
 | zero=>cases hf
 | succ n=>
  obtain ⟨k,hk,hf⟩:=zL (show (ft τ).bind _=_ from hf)
  refine kc K hk fun G1 H1 x1=>?_
  cases k with
  | false=>
   cases hf
   exact ur (q _ _ _ (K.go x1))
  | true=>
   obtain ⟨f1,h1,hf⟩:=zL (show (g τ).bind _=_ from hf)
   refine ut ⟨fun σ' H'=>∃ τ G,zo X.K X.N.length G0 H0 G H' τ σ'/\vE ft g n τ=some fl,fun σ' H' z=>⟨n,Nat.lt_succ_self n,z⟩,kb (K.go x1) h1 ?_⟩
   cases f1 with
   | nx τ2=>exact fun σ2 G2 H2 K2=>⟨τ2,G2,K2,hf⟩
   | ct τ2=>exact fun σ2 G2 H2 K2=>⟨τ2,G2,K2,hf⟩
   | bk τ2=>cases hf; exact q
   | rt o d=>cases hf; exact xf.with q (fun _ z=>nomatch z) (fun _ z=>nomatch z) (fun _ z=>nomatch z) rfl
theorem xf.near {K:PySem.W.Frag} {n:Nat} {G0 H0 Ga Ha:Hp} {E:wq} {fl:Fl} (x:zU G0 H0 Ga Ha) (h:xf K n G0 H0 E fl):xf K n Ga H0 E fl:=by
 cases fl with
 | nx τ=>exact fun σ G H z=>h σ G H (zo.near x z)
 | bk τ=>exact fun σ G H z=>h σ G H (zo.near x z)
 | ct τ=>exact fun σ G H z=>h σ G H (zo.near x z)
 | rt o d=>
  cases o with
  | false=>exact fun v G H y r=>h v G H (x.rebase y) r
  | true=>exact fun p G H y r1 r2 r3=>h p G H (x.rebase y) r1 r2 r3
structure SG (X:Cx) (tg:Expr) (fg:FG):Prop where
 h:∃ t,PG X tg t/\∀ {G0 H0 G H:Hp} {τ τ':zz} {σ:St} {d:D} {v:V} {Q:St->Hp->Prop},zo X.K X.N.length G0 H0 G H τ σ->zb X.K G d v->fg d τ=some τ'->(∀ σ',zo X.K X.N.length G0 H0 G H τ' σ'->Q σ' H)->t v σ H Q
theorem t9 {i:Nat} {x:Str} (h:QG X (.Name x pos) (vR i)) (hi:X.N[i]?=some x):SG X (.Name x pos) (zt i):=⟨⟨_,h.h,fun K r hf q=>by
 cases hf
 exact q _ (K.set (List.getElem?_eq_some_iff.mp hi).1 r)⟩⟩
theorem qp {fg:FG} (hp:PassesOwn (model X.prog X.w) X.A X.env X.xe) (hc:X.calm=true) (hi:SI X tg iter fs) (hg:SG X tg fg) (hb:wM X body g) (hs:∀ x,foldedSetIterable iter X.env x=pure x:=by intro _; rfl):SS X (.For tg iter body [] pos) (vz fs fg g):=by
 obtain ⟨ti,pi,ki⟩:=hi.h
 obtain ⟨tg',pg,kg⟩:=hg.h
 obtain ⟨tb,pb,kb⟩:=hb.h
 refine ⟨⟨_,J8 hp hc pi pg pb hs,fun {G0 H0 G H τ σ fl E} K hf q=>?_⟩⟩
 obtain ⟨ds,hd,hf⟩:=zL hf
 refine ki K hd fun J Ga Ha xa _ wk=>?_
 have Ka:=K.go xa
 have q':=xf.near Ka.ext q
 refine ⟨fun i m σ H=>m=ds.length - i/\i<=ds.length/\∃ τ G,zo X.K X.N.length Ga H0 G H τ σ/\uy fg g (ds.drop i) τ=some fl,⟨ds.length,rfl,Nat.zero_le _,τ,Ga,Ka.far,hf⟩,?_⟩
 rintro i m σ H ⟨rfl,hle,τ,G,K,hf⟩
 by_cases hlt:i<ds.length
 ·refine .inr ⟨wk.go i G H K.ext.g K.ext.gh hlt,fun σ' H'=>∃ τ G,zo X.K X.N.length Ga H0 G H' τ σ'/\uy fg g (ds.drop (i+1)) τ=some fl,fun σ' H' z=>⟨ds.length - (i+1),by omega,rfl,hlt,z⟩,fun x H' y=>?_⟩
  obtain ⟨G3,d,x3,ed,rd⟩:=wk.yld i G H x H' K.ext.g K.ext.gh hlt y
  rw [List.drop_eq_getElem_cons hlt] at hf
  rw [List.getElem?_eq_getElem hlt] at ed
  cases ed
  obtain ⟨τ1,h1,hf⟩:=zL (show (fg _ τ).bind _=_ from hf)
  obtain ⟨f1,h2,hf⟩:=zL hf
  refine kg (K.go x3) rd h1 fun σ1 K1=>kb K1 h2 ?_
  cases f1 with
  | nx τ2=>exact fun σ2 G2 H2 K2=>⟨τ2,G2,K2,hf⟩
  | ct τ2=>exact fun σ2 G2 H2 K2=>⟨τ2,G2,K2,hf⟩
  | bk τ2=>cases hf; exact q'
  | rt o d=>cases hf; exact xf.with q' (fun _ z=>nomatch z) (fun _ z=>nomatch z) (fun _ z=>nomatch z) rfl
 ·have e:ds.drop i=[]:=List.drop_eq_nil_of_le (by omega)
  rw [e] at hf
  cases hf
  exact .inl ⟨wk.stop i G H K.ext.g K.ext.gh (by omega),q' _ _ _ K⟩
theorem Q9 {K:PySem.W.Frag} {G:Hp} {lo:Int} {n:Nat}:jI K (gL lo n) G ((List.range n).map fun k:Nat=>D.int (lo+k)) where
 go:=fun i G2 H _ _ hi=>by
  show i<n
  simpa using hi
 yld:=fun i G2 H x H' _ g2 hi y=>by
  obtain ⟨rfl,rfl⟩:=y
  exact ⟨G2,.int (lo+i),zU.refl g2,by simp at hi; simp [hi],rfl⟩
 stop:=fun i G2 H _ _ hi=>by
  show n<=i
  simpa using hi
theorem ql (hg:Gl X "range") (hm:X.mg "range" = none) (ha:SE X a fa) (hs:yf a=true:=by rfl):SI X tg (.Call (.Name "range" p) [a] [] pos) (v7 (eC (.int 0)) fa):=by
 obtain ⟨t,pt,k⟩:=(zB ha zM hs).h
 refine ⟨⟨_,Dq hg hm pt (wc hs),fun {G0 H0 G H τ σ ds R} K hf q=>?_⟩⟩
 obtain ⟨x,hx,hf⟩:=zL hf
 cases hx
 obtain ⟨y,hy,hf⟩:=zL hf
 refine k K (ds:=[y]) (by unfold z8; rw [hy]; rfl) fun vs G1 H1 x1 r1=>?_
 cases y<;>first | cases hf | skip
 rename_i j
 obtain ⟨v,r,rfl,hv,hr⟩:=r1
 cases (show r=[] from hr)
 cases (show v=.int j from hv)
 change (if (0:Int).natAbs<=yA/\j.natAbs<=yA/\(j - 0).toNat<=yA then _ else _)=_ at hf
 by_cases c:(0:Int).natAbs<=yA/\j.natAbs<=yA/\(j - 0).toNat<=yA
 ·rw [if_pos c] at hf
  cases hf
  have c2:j.natAbs<=16777216:=c.2.1
  have c3:(j - 0).toNat<=16777216:=c.2.2
  refine ⟨j,rfl,by omega,by omega,q _ _ _ x1 ?_ ?_⟩
  ·rw [List.length_map,List.length_range,sizeLine_eq]; omega
  ·have e:(j - 0).toNat=j.toNat:=by omega
   rw [e]
   exact Q9
 ·rw [if_neg c] at hf
  cases hf
theorem Cl (hg:Gl X "range") (hm:X.mg "range" = none) (ha:SE X a fa) (hb:SE X b fb) (hs:yf a=true:=by rfl) (hs2:yf b=true:=by rfl):SI X tg (.Call (.Name "range" p) [a,b] [] pos) (v7 fa fb):=by
 obtain ⟨t,pt,k⟩:=(zB ha (zB hb zM hs2) hs).h
 refine ⟨⟨_,Dr hg hm pt (by rw [wc hs,wc hs2]; rfl) (wc hs2),fun {G0 H0 G H τ σ ds R} K hf q=>?_⟩⟩
 obtain ⟨x,hx,hf⟩:=zL hf
 obtain ⟨y,hy,hf⟩:=zL hf
 refine k K (ds:=[x,y]) (by unfold z8; rw [hx,hy]; rfl) fun vs G1 H1 x1 r1=>?_
 cases x with
 | int i=>
  cases y with
  | int j=>
   obtain ⟨v,r,rfl,hv,⟨v2,r2,rfl,hv2,hr⟩⟩:=r1
   cases (show r2=[] from hr)
   cases (show v=.int i from hv)
   cases (show v2=.int j from hv2)
   change (if i.natAbs<=yA/\j.natAbs<=yA/\(j - i).toNat<=yA then _ else _)=_ at hf
   by_cases c:i.natAbs<=yA/\j.natAbs<=yA/\(j - i).toNat<=yA
   ·rw [if_pos c] at hf
    have c1:i.natAbs<=16777216:=c.1
    have c2:j.natAbs<=16777216:=c.2.1
    have c3:(j - i).toNat<=16777216:=c.2.2
    cases hf
    refine ⟨i,j,rfl,⟨by omega,by omega,by omega,by omega⟩,q _ _ _ x1 ?_ Q9⟩
    rw [List.length_map,List.length_range,sizeLine_eq]; exact c3
   ·rw [if_neg c] at hf
    cases hf
  | _=>cases hf
 | _=>cases hf
theorem Mv {K:PySem.W.Frag} {G:Hp} {a:Addr} {vs:List V} {ds:List D} (sq:yU K G a vs) (r:Reps K G ds vs):jI K (Xp K a) G ds where
 go:=fun i G2 H g1 g2 hi=>by
  obtain ⟨v,e,_⟩:=r.get (List.getElem?_eq_getElem hi)
  exact ⟨vs,v,wR (g1.trans g2) sq,e⟩
 yld:=fun i G2 H x H' g1 g2 hi y=>by
  obtain ⟨rfl,y⟩:=y
  have e:=y vs (wR (g1.trans g2) sq)
  obtain ⟨d,ed,rd⟩:=r.at e
  exact ⟨G2,d,zU.refl g2,ed,rd.mono g1⟩
 stop:=fun i G2 H g1 g2 hi=>⟨vs,wR (g1.trans g2) sq,by rw [r.length]; exact hi⟩
theorem Ee {K:PySem.W.Frag} {G:Hp} {a:Addr} {vs:List V} {ds:List D} (sq:yx K G a vs) (r:Reps K G ds vs):jI K (Xq K a) G ds where
 go:=fun i G2 H g1 g2 hi=>by
  obtain ⟨v,e,_⟩:=r.get (List.getElem?_eq_getElem hi)
  exact ⟨vs,v,u7 (g1.trans g2) sq,e⟩
 yld:=fun i G2 H x H' g1 g2 hi y=>by
  obtain ⟨rfl,y⟩:=y
  have e:=y vs (u7 (g1.trans g2) sq)
  obtain ⟨d,ed,rd⟩:=r.at e
  exact ⟨G2,d,zU.refl g2,ed,rd.mono g1⟩
 stop:=fun i G2 H g1 g2 hi=>⟨vs,u7 (g1.trans g2) sq,by rw [r.length]; exact hi⟩
theorem E1 {K:PySem.W.Frag} {G:Hp} {z:Str}:jI K (ZF z) G (z.cps.toList.map fun c=>D.str ⟨#[c]⟩) where
 go:=fun i G2 H _ _ hi=>by
  rw [List.length_map,Array.length_toList] at hi
  exact hi
 yld:=fun i G2 H x H' _ g2 hi y=>by
  obtain ⟨rfl,c,ec,rfl⟩:=y
  refine ⟨G2,.str ⟨#[c]⟩,zU.refl g2,?_,rfl,qo (n:=1) (by decide)⟩
  rw [List.getElem?_map,Array.getElem?_toList,ec]
  rfl
 stop:=fun i G2 H _ _ hi=>by
  rw [List.length_map,Array.length_toList] at hi
  exact hi
theorem PI.or {w1 w2:TI} (h1:PI X tg e w1) (h2:PI X tg e w2):PI X tg e (fun σ H R=>w1 σ H R\/w2 σ H R):=fun pins s σ H R I q=>by
 rcases q with q | q
 ·exact h1 pins s σ H R I q
 ·exact h2 pins s σ H R I q
theorem qm (h:SE X e f):SI X tg e (wg f):=by
 obtain ⟨t,p,k⟩:=h.h
 refine ⟨⟨_,PI.or (Dp p) (PI.or (Dt p) (Ds p)),fun {G0 H0 G H τ σ ds R} K hf q=>?_⟩⟩
 obtain ⟨d,hd,hf⟩:=zL hf
 cases d<;>first | cases hf | skip
 ·rename_i z
  refine .inr (.inr (k K hd fun v G' H' x r=>?_))
  obtain ⟨rfl,l⟩:=r
  exact ⟨z,rfl,q _ _ _ x (by rw [List.length_map,Array.length_toList]; exact l) E1⟩
 ·refine .inr (.inl (k K hd fun v G' H' x r=>?_))
  obtain ⟨a,vs,rfl,sq,rs,l⟩:=r
  exact ⟨a,rfl,⟨vs,u7 x.gh sq⟩,q _ _ _ x l (Ee sq rs)⟩
 ·refine .inl (k K hd fun v G' H' x r=>?_)
  obtain ⟨a,vs,rfl,sq,rs,l⟩:=r
  exact ⟨a,rfl,⟨vs,wR x.gh sq⟩,q _ _ _ x l (Mv sq rs)⟩
end
noncomputable def UK (K:PySem.W.Frag) (n:Nat) (f:FE):TE:=fun σ H Q=>∃ G0 H0 G τ d,zo K n G0 H0 G H τ σ/\f τ=some d/\∀ v G' H',zU G H G' H'->zb K G' d v->Q v H'
noncomputable def Yy (K:PySem.W.Frag) (n:Nat) (f:FT):TT:=fun σ H Q=>∃ G0 H0 G τ d,zo K n G0 H0 G H τ σ/\f τ=some d/\∀ G' H',zU G H G' H'->Q d H'
structure gP (X:Cx) (es:List Expr) (f:FT):Prop where
 h:p8 X es (Yy X.K X.N.length f)
section
variable {X:Cx} {e c:Expr} {f:FE} {ft:FT}
theorem SE.pe (h:SE X e f):PE X e (UK X.K X.N.length f):=fun pins s σ H Q I q=>by
 obtain ⟨t,p,k⟩:=h.h
 obtain ⟨G0,H0,G,τ,d,K,hf,z⟩:=q
 exact p pins s σ H Q I (k K hf z)
theorem ST.pt (h:ST X e ft):PT X e (Yy X.K X.N.length ft):=fun pins s σ H Q I q=>by
 obtain ⟨t,p,k⟩:=h.h
 obtain ⟨G0,H0,G,τ,d,K,hf,z⟩:=q
 exact p pins s σ H Q I (k K hf z)
theorem Yt:gP X [] yk:=⟨fun pins s σ H Q I q=>by
 obtain ⟨G0,H0,G,τ,d,K,hf,z⟩:=q
 cases hf
 exact FQ pins s σ H Q I (z _ _ (zU.refl K.ext.gh))⟩
theorem UB (h:ST X c ft):gP X [c] ft:=⟨FU h.pt⟩
end
theorem zo.more {K:PySem.W.Frag} {n:Nat} {G0 H0 G H:Hp} {τ:zz} {σ:St} (k:Nat) (E:zo K n G0 H0 G H τ σ):zo K (n+k) G0 H0 G H (τ++List.replicate k none) (σ++List.replicate k none):=by
 have at_:∀ {i:Nat} {s:Sl},(τ++List.replicate k none)[i]?=some (some s)->τ[i]?=some (some s)/\(σ++List.replicate k none)[i]?=σ[i]?:=fun {i s} h=>by
  have h':=Zx h
  have hi:i<n:=E.lt h'
  exact ⟨h',List.getElem?_append_left (by rw [E.l1]; exact hi)⟩
 refine ⟨E.ext,by rw [List.length_append,List.length_replicate,E.l1],by rw [List.length_append,List.length_replicate,E.l2],fun i d h=>?_,fun i d h=>?_,fun i j d e p hne h1 h2 h3 h4=>?_⟩
 ·obtain ⟨h',e⟩:=at_ h
  rw [e]
  exact E.fr i d h'
 ·obtain ⟨h',e⟩:=at_ h
  rw [e]
  exact E.ow i d h'
 ·obtain ⟨h1',e1⟩:=at_ h1
  obtain ⟨h2',e2⟩:=at_ h2
  rw [e1] at h3
  rw [e2] at h4
  exact E.ap i j d e p hne h1' h2' h3 h4
theorem QQ {K:PySem.W.Frag} {n k:Nat} {G0 H0 Ga Ha:Hp} {τ:zz} {σ:St} {J:It} {ds out:List D} {g:TG} {fg:FG} {ft:FT} {f:FE} {Fin:List V->Hp->Prop} (wk:jI K J Ga ds) (hl:ds.length<=sizeLine) (Ka:zo K n G0 H0 Ga Ha τ σ)
  (hf:ye fg ft f (τ++List.replicate k none) ds=some out)
  (kg:∀ G H d v τ' (Q:St->Hp->Prop),zo K (n+k) G0 H0 G H (τ++List.replicate k none) (σ++List.replicate k none)->zb K G d v->fg d (τ++List.replicate k none)=some τ'->(∀ ρ,zo K (n+k) G0 H0 G H τ' (σ++ρ)->Q (σ++ρ) H)->g v (σ++List.replicate k none) H Q)
  (fin:∀ ys G H,zU Ga Ha G H->Reps K G out ys->out.length<=sizeLine->Fin ys H) :
  ∃ W:Nat->Nat->List V->Hp->Prop,(∃ m,W 0 m [] Ha)/\YG σ k J g (Yy K (n+k) ft) (UK K (n+k) f) W Fin:=by
 refine ⟨fun i m ys H=>m=ds.length - i/\i<=ds.length/\ys.length<=i/\∃ G done yG,zU Ga Ha G H/\Reps K G done ys/\ye fg ft f (τ++List.replicate k none) (ds.drop i)=some yG/\done++yG=out,⟨ds.length,rfl,Nat.zero_le _,Nat.le_refl _,Ga,[],out,zU.refl Ka.ext.gh,rfl,hf,rfl⟩,?_⟩
 rintro i m ys H ⟨rfl,hle,hys,G,done,yG,x,rd,hf,eo⟩
 by_cases hlt:i<ds.length
 ·refine .inr ⟨wk.go i G H x.g x.gh hlt,by omega,fun ys H=>ys.length<=i+1/\∃ G done yG,zU Ga Ha G H/\Reps K G done ys/\ye fg ft f (τ++List.replicate k none) (ds.drop (i+1))=some yG/\done++yG=out,fun ys' H' z=>⟨ds.length - (i+1),by omega,rfl,hlt,z.1,z.2⟩,fun v H' y=>?_⟩
  obtain ⟨G3,d,x3,ed,rv⟩:=wk.yld i G H v H' x.g x.gh hlt y
  rw [List.drop_eq_getElem_cons hlt] at hf
  rw [List.getElem?_eq_getElem hlt] at ed
  cases ed
  obtain ⟨τ1,h1,hf⟩:=zL (show (fg _ _).bind _=_ from hf)
  obtain ⟨kk,h2,hf⟩:=zL hf
  have K3:=((Ka.go x).go x3).more k
  refine kg G3 H' _ v τ1 _ K3 rv h1 fun ρ K4=>⟨⟨ρ,rfl⟩,_,_,_,_,kk,K4,h2,fun G5 H5 x5=>?_⟩
  cases kk with
  | false=>exact ur ⟨by omega,G5,done,yG,x.trans (x3.trans x5),rd.mono (x3.g.trans x5.g),hf,eo⟩
  | true=>
   obtain ⟨z,hz,hf⟩:=zL (show (f _).bind _=_ from hf)
   obtain ⟨more,hm,hf⟩:=zL hf
   cases hf
   refine ut ⟨_,_,_,_,z,K4.go x5,hz,fun u G6 H6 x6 r6=>⟨by rw [List.length_append]; exact Nat.succ_le_succ hys,G6,done++[z],more,x.trans (x3.trans (x5.trans x6)),(rd.mono (x3.g.trans (x5.g.trans x6.g))).append (Reps.one r6),hm,?_⟩⟩
   rw [List.append_assoc]
   exact eo
 ·have e:ds.drop i=[]:=List.drop_eq_nil_of_le (by omega)
  rw [e] at hf
  cases hf
  rw [List.append_nil] at eo
  subst eo
  refine .inl ⟨wk.stop i G H x.g x.gh (by omega),fin ys G H x rd ?_⟩
  rw [<- rd.length]
  omega
section
variable {X:Cx} {tg iter elt:Expr} {ifs:List Expr} {scope:Scope} {cl:List (Str×Addr)} {own:List Str} {pos:Pos} {fs:FA} {fg:FG} {ft:FT} {f:FE} {g:TG}
theorem Cd {α:Type} (xs:List α) (y:α) (ys:List α) {n:Nat} (h:n=xs.length) (z:α):(xs++y::ys).set n z=xs++z::ys:=by
 subst h
 rw [List.set_append_right _ _ (Nat.le_refl _),Nat.sub_self]
 rfl
structure BG (X:Cx) (scope:Scope) (cl:List (Str×Addr)) (own:List Str) (tg:Expr) (g:TG) (fg:FG):Prop where
 q:∀ C s H fp pn,QG (xT X scope cl own C s H fp pn) tg g
 k:∀ {G0 H0:Hp} {τ:zz} {σ:St},τ.length=X.N.length->σ.length=X.N.length->∀ G H d v τ' (Q:St->Hp->Prop),zo X.K (X.N.length+own.length) G0 H0 G H (τ++List.replicate own.length none) (σ++List.replicate own.length none)->zb X.K G d v->fg d (τ++List.replicate own.length none)=some τ'->
  (∀ ρ,zo X.K (X.N.length+own.length) G0 H0 G H τ' (σ++ρ)->Q (σ++ρ) H)->g v (σ++List.replicate own.length none) H Q
theorem pE {x:Str} {i:Nat} (q:∀ C s H fp pn,QG (xT X scope cl [x] C s H fp pn) tg (vR i)) (hi:i=X.N.length):BG X scope cl [x] tg (vR i) (zt i):=⟨q,fun {G0 H0 τ σ} l1 l2 G H d v τ' Q E r hf k=>by
 cases hf
 have E':=E.set (i:=i) (v:=v) (by rw [hi]; exact Nat.lt_succ_self _) r
 have es:(σ++List.replicate 1 none).set i (some v)=σ++[some v]:=Cd σ none [] (hi.trans l2.symm) (some v)
 show Q ((σ++List.replicate 1 none).set i (some v)) H
 rw [es]
 refine k [some v] ?_
 rw [<- es]
 exact E'⟩
theorem Ux (X:Cx) (own:List Str):(um X.N own).length=X.N.length+own.length:=by
 unfold um
 rw [List.length_append,List.length_map]
theorem U_ {C:Addr} {s:Shared} {H:Hp} {fp:List Addr} {pn:List (Addr×Obj)} (h:SE (xT X scope cl own C s H fp pn) elt f):PE (xT X scope cl own C s H fp pn) elt (UK X.K (X.N.length+own.length) f):=by
 have q:=h.pe
 rw [show (xT X scope cl own C s H fp pn).N.length=X.N.length+own.length from Ux X own] at q
 exact q
theorem T0 {C:Addr} {s:Shared} {H:Hp} {fp:List Addr} {pn:List (Addr×Obj)} (h:gP (xT X scope cl own C s H fp pn) ifs ft):p8 (xT X scope cl own C s H fp pn) ifs (Yy X.K (X.N.length+own.length) ft):=by
 have q:=h.h
 rw [show (xT X scope cl own C s H fp pn).N.length=X.N.length+own.length from Ux X own] at q
 exact q
theorem Ym (hcalm:X.calm=true) (B:j1 X scope cl own) (hi:SI X tg iter fs) (hg:BG X scope cl own tg g fg) (hc:∀ C s H fp pn,gP (xT X scope cl own C s H fp pn) ifs ft)
  (he:∀ C s H fp pn,SE (xT X scope cl own C s H fp pn) elt f) (hs:∀ x,foldedSetIterable iter X.env x=pure x:=by intro _; rfl) :
  SF X (.ListComp elt [⟨tg,iter,ifs,0⟩] scope pos) (wD own.length fs fg ft f):=by
 obtain ⟨ti,pi,ki⟩:=hi.h
 refine ⟨⟨_,Db hcalm B pi (fun C s H fp pn=>(hg.q C s H fp pn).h) (fun C s H fp pn=>T0 (hc C s H fp pn)) (fun C s H fp pn=>U_ (he C s H fp pn)) hs,fun {G0 H0 G H τ σ d Q} K hf q=>?_⟩⟩
 obtain ⟨ds,hd,hf⟩:=zL hf
 obtain ⟨out,ho,hf⟩:=zL hf
 cases hf
 refine ki K hd fun J Ga Ha xa l wk=>QQ wk l (K.go xa) ho (hg.k K.l2 K.l1) fun ys G1 H1 x1 r1 l1 p hp=>?_
 exact q p _ _ (xa.trans (x1.trans (zU.layO x1.gh hp))) (xa.h.free (x1.h.free hp)) (x1.gh.free hp) ⟨ys,xH,r1,l1⟩
theorem U8 {i:Nat} {x:Str} {px spos:Pos} (hcalm:X.calm=true) (hN:X.N.Nodup) (hix:X.N[i]?=some x) (hx:X.env.scope.names.lookup x=some .local) (B:j1 X scope cl own)
  (hsw:swapsWith (.ListComp elt [⟨tg,iter,ifs,0⟩] scope pos) (some (.Name x px)) spos.line X.env=pure true) (hi:SI X tg iter fs) (hg:BG X scope cl own tg g fg) (hc:∀ C s H fp pn,gP (xT X scope cl own C s H fp pn) ifs ft)
  (he:∀ C s H fp pn,SE (xT X scope cl own C s H fp pn) elt f) (hs:∀ x,foldedSetIterable iter X.env x=pure x:=by intro _; rfl) :
  SS X (.Assign [.Name x px] (.ListComp elt [⟨tg,iter,ifs,0⟩] scope pos) spos) (zP i (wD own.length fs fg ft f)):=by
 obtain ⟨ti,pi,ki⟩:=hi.h
 refine ⟨⟨_,FC hcalm hN hix hx B hsw pi (fun C s H fp pn=>(hg.q C s H fp pn).h) (fun C s H fp pn=>T0 (hc C s H fp pn)) (fun C s H fp pn=>U_ (he C s H fp pn)) hs,fun {G0 H0 G H τ σ fl E} K hf q=>?_⟩⟩
 obtain ⟨d,hf1,hf⟩:=zL hf
 cases hf
 obtain ⟨ds,hd,hf1⟩:=zL hf1
 obtain ⟨out,ho,hf1⟩:=zL hf1
 cases hf1
 refine ki K hd fun J Ga Ha xa l wk=>QQ wk l (K.go xa) ho (hg.k K.l2 K.l1) fun ys G1 H1 x1 r1 l1 p hp=>?_
 have K2:=((K.go xa).go x1).go (zU.lay (o:=.lst ys) x1.gh hp)
 exact q _ _ _ (K2.set (List.getElem?_eq_some_iff.mp hix).1 ⟨p,ys,rfl,yU.of xH,r1.mono (wJ (x1.gh.free hp) _),l1⟩)
end
section
variable {K:PySem.W.Frag} {n:Nat} {G0 H0 G H:Hp} {τ:zz} {σ:St}
theorem zo.mut {i:Nat} {d d':D} {p:Addr} {o:HO} (E:zo K n G0 H0 G H τ σ) (hi:τ[i]?=some (some (true,d))) (hp:σ[i]?=some (some (.ref p))) (new:wK K G (zu H p o) d' p):zo K n G0 H0 G (zu H p o) (τ.set i (some (true,d'))) σ:=by
 obtain ⟨p',e,g,z,_⟩:=E.ow i d hi
 rw [hp] at e
 cases e
 have keep:∀ {H1:Hp},H1 p=none->yO H1 H->yO H1 (zu H p o):=fun {H1} h s b u q=>by
  rw [yn (wm q h)]
  exact s _ _ q
 refine ⟨⟨E.ext.g,keep z E.ext.h,keep g E.ext.gh,E.ext.new⟩,E.l1,by rw [List.length_set]; exact E.l2,fun j e h=>?_,fun j e h=>?_,fun j k e f q hne h1 h2 h3 h4=>?_⟩
 ·rcases wY h with ⟨rfl,w⟩ | ⟨ne,w⟩
  ·cases w
  ·exact E.fr j e w
 ·rcases wY h with ⟨rfl,w⟩ | ⟨ne,w⟩
  ·cases w
   exact ⟨p,hp,g,z,new⟩
  ·obtain ⟨q,eq,gq,zq,oq⟩:=E.ow j e w
   refine ⟨q,eq,gq,zq,?_⟩
   have hne:q≠p:=fun c=>by
    subst c
    exact E.ap i j d e q (fun c=>ne c.symm) hi w hp eq
   cases e with
   | lst ds=>obtain ⟨vs,ev,r⟩:=oq; exact ⟨vs,by rw [yn hne]; exact ev,r⟩
   | dic ks ds=>obtain ⟨vs,ev,r⟩:=oq; exact ⟨vs,by rw [yn hne]; exact ev,r⟩
   | _=>exact oq.elim
 ·have t:∀ {j:Nat} {e:D},(τ.set i (some (true,d')))[j]?=some (some (true,e))->∃ e,τ[j]?=some (some (true,e)):=fun {j e} h=>by
   rcases wY h with ⟨rfl,_⟩ | ⟨_,w⟩
   ·exact ⟨_,hi⟩
   ·exact ⟨_,w⟩
  obtain ⟨e1,w1⟩:=t h1
  obtain ⟨e2,w2⟩:=t h2
  exact E.ap j k e1 e2 q hne w1 w2 h3 h4
end
section
variable {X:Cx} {x:Str} {xp pos apos cpos:Pos} {e:Expr} {f:FE}
theorem u8 {i:Nat} (ho:QE X (.Name x xp) (tw i)) (he:SE X e f) (hbase:attributeBase (.Name x xp) "append" X.env (eval (.Name x xp) X.env)=eval (.Name x xp) X.env:=by rfl) (hline:(apos.endLine == cpos.line)=true:=by rfl) (hs:yf e=true:=by rfl) :
  SS X (.Expr (.Call (.Attribute (.Name x xp) "append" apos) [e] [] cpos) pos) (xX i xJ f):=by
 obtain ⟨t,p,k⟩:=(zB he zM hs).h
 refine ⟨⟨_,(JG (pR PySem.F.plainAttrs_list PySem.F.slot_list_append PySem.F.type_list_append Qe ho ⟨p⟩ hbase hline (by rw [List.all_cons,hs]; rfl) (by show 1<30; decide)) rfl).h,fun {G0 H0 G H τ σ fl E} K hf q=>?_⟩⟩
 unfold xX at hf
 split at hf
 ·rename_i d hd
  obtain ⟨y,hy,hf⟩:=zL hf
  obtain ⟨d',hd',hf⟩:=zL hf
  cases hf
  obtain ⟨a,ea,g,z,o⟩:=K.ow _ _ hd
  cases d with
  | lst ds=>
   obtain ⟨vs,ev,rs,l⟩:=o
   refine ⟨_,ea,.inl ⟨rfl,vs,yU.of ev⟩,k K (ds:=[y]) (by unfold z8; rw [hy]; rfl) fun us G1 H1 x1 r1=>?_⟩
   obtain ⟨u,r,rfl,hu,hr⟩:=r1
   cases (show r=[] from hr)
   change (if ds.length<yA then some (D.lst (ds++[y])) else none)=some d' at hd'
   by_cases c:ds.length<yA
   ·rw [if_pos c] at hd'
    cases hd'
    refine ⟨a,vs,u,rfl,rfl,x1.h _ _ ev,by rw [rs.length,sizeLine_eq]; exact c,?_⟩
    refine q _ _ _ ((K.go x1).mut hd ea ⟨vs++[u],xH,(rs.mono x1.g).append (Reps.one hu),?_⟩)
    rw [List.length_append,sizeLine_eq]
    exact c
   ·rw [if_neg c] at hd'
    cases hd'
  | _=>cases hd'
 ·cases hf
end
section
variable {P:Program} {w:World} {K:PySem.W.Frag} {mg:Str->Option Value} {base:Heap}
theorem V8 {α β:Type} {ds:List α} {k i:Nat} {h:α->Option β} {y:β} (e:(ds.map h++List.replicate k none)[i]?=some (some y)):∃ d,ds[i]?=some d/\h d=some y:=by
 have e':=Zx e
 rw [List.getElem?_map] at e'
 cases q:ds[i]? with
 | none=>rw [q] at e'; cases e'
 | some d=>
  rw [q] at e'
  exact ⟨d,rfl,Option.some.inj e'⟩
theorem Zi {N:List Str} {G H:Hp} {ds:List D} {vs:List V} (s:yO G H) (r:Reps K G ds vs) (hl:ds.length<=N.length):zo K N.length G H G H (ds.map (fun d=>some (false,d))++List.replicate (N.length - ds.length) none) (L2.start N vs):=by
 have l:=r.length
 refine ⟨zU.refl s,?_,?_,fun i d h=>?_,fun i d h=>?_,fun i j d e p _ h1=>?_⟩
 ·unfold L2.start
  rw [List.length_append,List.length_map,List.length_replicate]
  omega
 ·rw [List.length_append,List.length_map,List.length_replicate]
  omega
 ·obtain ⟨d',e,z⟩:=V8 h
  cases z
  obtain ⟨v,ev,rv⟩:=r.get e
  refine ⟨v,?_,rv⟩
  unfold L2.start
  rw [List.getElem?_append_left (by rw [List.length_map]; exact (List.getElem?_eq_some_iff.mp ev).1),List.getElem?_map,ev]
  rfl
 ·obtain ⟨d',e,z⟩:=V8 h
  cases z
 ·obtain ⟨d',e,z⟩:=V8 h1
  cases z
theorem Def.okS {x:Str} {st:Stmt} {N ps:List Str} {k:Nat} {F:List D->Option (Bool×D)} {b:FS} (d:Def K mg x st ps) (S:yc N ps (y9 st)) (hN:ps.length<=N.length) (hF:∀ ds r,F ds=some r->ds.length=ps.length/\yP N.length b ds=some r)
  (hb:∀ (f:Addr) (cdv:Value) (A:Around) (outer:List Env) (s:Shared) (H:Hp) (E:XK),yg k (A.deeper (envOfC x (y9 st) s.heap.objs.size f cdv))->wM (vj vG P w K mg base N x (y9 st) f cdv A outer s H E).nox (wU st) b):yt P w K mg base x ps (k+1) (xB K F):=by
 refine d.ok S (fun vs H Q E h=>?_) fun f cdv A outer s H vs Q E hr h=>?_
 ·obtain ⟨G,ds,o,dd,_,r,e,_⟩:=h
  rw [r.length,(hF _ _ e).1]
 ·obtain ⟨G,ds,o,dd,s',r,e,q⟩:=h
  obtain ⟨l,hrun⟩:=hF _ _ e
  obtain ⟨t,p,kt⟩:=(hb f cdv A outer s H E hr).h
  obtain ⟨fl,hfl,hrun⟩:=zL hrun
  refine ⟨t,p,kt (Zi (N:=N) s' r (by omega)) hfl ?_⟩
  cases fl with
  | nx τ=>
   cases hrun
   exact fun σ G' H' z=>q .non G' H' z.ext rfl
  | rt o' d'=>
   cases hrun
   cases o with
   | false=>exact q
   | true=>exact q
  | _=>cases hrun
end
end L3
namespace L3
open PySem PySem.Spec PyProof.Rows L2
section
variable {X:Cx} {K:PySem.W.Frag}
theorem kP {C:Int->Int->Prop} {Cb:Int->Int->Bool} {g:Int->Int->Int} (h:∀ i j,Cb i j=true->C i j):ww K (rI C fun i j=>.int (g i j)) (fI Cb g):=fun G H x y u v d Q s rx ry hf q=>by
 cases x<;>first | (cases hf; done) | skip
 cases y<;>first | (cases hf; done) | skip
 rename_i i j
 change (match Cb i j with | true=>some (D.int (g i j)) | false=>none)=some d at hf
 cases c:Cb i j with
 | false=>rw [c] at hf; cases hf
 | true=>
  rw [c] at hf
  cases hf
  exact ⟨i,j,rx,ry,h i j c,q _ _ _ (zU.refl s) rfl⟩
theorem vV:ww K (t7 fun i j=>.int (i - j)) xg:=fun G H x y u v d Q s rx ry hf q=>by
 cases x<;>first | (cases hf; done) | skip
 cases y<;>first | (cases hf; done) | skip
 cases hf
 exact ⟨_,_,rx,ry,q _ _ _ (zU.refl s) rfl⟩
theorem Qc {i:Int} (h:xq i=true) : -(2 ^ 64)<i/\i<2 ^ 64:=by
 unfold xq at h
 rw [Bool.and_eq_true] at h
 exact ⟨of_decide_eq_true h.1,of_decide_eq_true h.2⟩
theorem Bv:ww K (rI g6 fun i j=>.int (i*j)) gv:=kP fun _ _ h=>.inl (Qc h)
theorem qd:ww K (rI g6 fun i j=>.int (i*j)) uK:=kP fun _ _ h=>.inr (Qc h)
theorem yJ:ww K (rI (fun _ j=>0<j) fun i j=>.int (i % j)) zr:=kP fun _ _ h=>of_decide_eq_true h
theorem xL:ww K (rI (fun _ j=>0<j/\j<2 ^ 64) fun i j=>.int (i / j)) yh:=kP fun _ _ h=>by
 rw [Bool.and_eq_true] at h
 exact ⟨of_decide_eq_true h.1,of_decide_eq_true h.2⟩
theorem F4 {i j:Int} (h:xS i j=true):XF i j:=by
 unfold xS at h
 rw [Bool.and_eq_true,Bool.and_eq_true] at h
 exact ⟨of_decide_eq_true h.1,of_decide_eq_true h.2.1,of_decide_eq_true h.2.2⟩
theorem vv:ww K (rI XF fun i j=>.int (i ^ j.toNat)) wf:=kP fun _ _ h=>F4 h
theorem xE {g:Int->Int->Bool}:ug K (t7 fun i j=>.bl (g i j)) (yW g):=fun H x y u v d Q rx ry hf=>by
 cases x<;>first | (cases hf; done) | skip
 cases y<;>first | (cases hf; done) | skip
 cases hf
 exact ⟨_,rfl,fun q=>⟨_,_,rx,ry,q⟩⟩
theorem ML {H:Hp} {x:D} {u:V} (r:zb K H x u):jc x=decide (u=.non):=by
 cases x with
 | non=>cases r; rfl
 | bl b=>cases r; rfl
 | int b=>cases r; rfl
 | str b=>obtain ⟨rfl,_⟩:=r; rfl
 | tup b=>obtain ⟨a,vs,rfl,_⟩:=r; rfl
 | lst b=>obtain ⟨a,vs,rfl,_⟩:=r; rfl
 | dic b c=>obtain ⟨a,vs,rfl,_⟩:=r; rfl
 | exc b=>obtain ⟨a,C,rfl,_⟩:=r; rfl
 | obj b c e=>obtain ⟨a,C,dx,vs,rfl,_⟩:=r; rfl
theorem Bw:ug K (fun x y H Q=>y=.non/\Q (.bl (!decide (x=.non))) H) Zr:=fun H x y u v d Q rx ry hf=>by
 cases y<;>first | (cases hf; done) | skip
 have e:=ML rx
 refine ⟨!jc x,(Option.some.inj hf).symm,fun q=>⟨ry,?_⟩⟩
 rw [<- e]
 exact q
theorem vb:∀ (G H:Hp) x u d (Q:VK),zb K G x u->xy x=some d->∃ w,(∀ G,zb K G d w)/\(Q w H->rU (fun i=>.int (-i)) u H Q):=fun G H x u d Q r hf=>by
 cases x<;>first | (cases hf; done) | skip
 cases hf
 exact ⟨_,fun _=>rfl,fun q=>⟨_,r,q⟩⟩
noncomputable def JJ (K:PySem.W.Frag):R2:=fun x y H Q=>∃ l b xs zs,x=.ref l/\y=.ref b/\yU K H l xs/\yU K H b zs/\xs.length+zs.length<=sizeLine/\∀ p,H p=none->Q (.ref p) (zu H p (.lst (xs++zs)))
theorem Qo:yS X (binaryOp .Add) (JJ X.K):=by
 intro pins s σ H x y v u Q I rx ry h
 obtain ⟨l,b,xs,zs,rfl,rfl,hl,hb,hz,q⟩:=h
 cases rx
 cases ry
 obtain ⟨its,r1,p1,_⟩:=I.list hl
 obtain ⟨its2,r2,p2,_⟩:=I.list hb
 obtain ⟨⟨c1,d1,t1,sl1⟩,n1,ho1,hc1,hd1,ht1⟩:=p1
 obtain ⟨⟨c2,d2,t2,sl2⟩,n2,ho2,hc2,hd2,ht2⟩:=p2
 simp only at hc1 ht1 hc2 ht2
 subst hc1 ht1 hc2 ht2
 refine concat_meets ⟨_,ho1,rfl⟩ ⟨_,ho2,rfl⟩ noFill_list_add seq_list_add PySem.F.slot_list_add PySem.F.entry_list_add (PySem.F.args_list_add_2 _ _)
  (list_addW l b its.toArray its2.toArray n1 n2 d1 d2 sl1 sl2 (by rw [List.size_toArray,List.size_toArray,<- r1.length,<- r2.length]; exact hz)) ⟨ho1,ho2,?_⟩
 rw [show its.toArray++its2.toArray=(its++its2).toArray by simp]
 exact ⟨.ref _,_,I.lnew (t':=s.toks) (r1.append r2) (by rw [List.length_append]; exact hz),rfl,q _ I.fresh⟩
noncomputable def JI (K:PySem.W.Frag):R2:=fun x y H Q=>t7 (fun i j=>.int (i+j)) x y H Q\/(∃ i k,x=.int i/\y=.bl k/\Q (.int (i+b2i k)) H)\/(∃ i j,x=.str i/\y=.str j/\i.length+j.length<=sizeLine/\Q (.str (i++j)) H)\/JJ K x y H Q\/JK K x y H Q
theorem zy:yS X (binaryOp .Add) (JI X.K):=D4.or (D5.or (D6.or (Qo.or D7)))
theorem zx:ww K (JI K) zR:=fun G H x y u v d Q s rx ry hf q=>by
 cases x<;>cases y<;>first | (cases hf; done) | skip
 ·rename_i i b
  cases rx
  cases ry
  cases hf
  refine .inr (.inl ⟨i,b,rfl,rfl,?_⟩)
  have e:i+b2i b=i+(if b then 1 else 0):=by cases b<;>rfl
  rw [e]
  exact q _ _ _ (zU.refl s) rfl
 ·cases hf
  exact .inl ⟨_,_,rx,ry,q _ _ _ (zU.refl s) rfl⟩
 ·rename_i i j
  obtain ⟨rfl,l1⟩:=rx
  obtain ⟨rfl,l2⟩:=ry
  change (if i.length+j.length<=yA then _ else _)=_ at hf
  by_cases c:i.length+j.length<=yA
  ·rw [if_pos c] at hf
   cases hf
   have c':i.length+j.length<=sizeLine:=by rw [sizeLine_eq]; exact c
   exact .inr (.inr (.inl ⟨i,j,rfl,rfl,c',q _ _ _ (zU.refl s) ⟨rfl,by rw [strLen_append]; exact c'⟩⟩))
  ·rw [if_neg c] at hf
   cases hf
 ·rename_i xs ys
  obtain ⟨a,vs,rfl,sa,ra,_⟩:=rx
  obtain ⟨b,us,rfl,sb,rb,_⟩:=ry
  change (if xs.isEmpty=false/\xs.length+ys.length<=yA then _ else _)=_ at hf
  by_cases c0:xs.isEmpty=false/\xs.length+ys.length<=yA
  ·rw [if_pos c0] at hf
   have c:=c0.2
   cases hf
   have c':(xs++ys).length<=sizeLine:=by rw [sizeLine_eq,List.length_append]; exact c
   have hx:vs≠[]:=fun e=>by
    have l:=ra.length
    rw [e] at l
    cases xs with
    | nil=>cases c0.1
    | cons=>cases l
   ·refine .inr (.inr (.inr (.inr ⟨a,b,vs,us,rfl,rfl,u7 s sa,u7 s sb,hx,by rw [ra.length,rb.length,sizeLine_eq]; exact c,fun e=>?_,fun e p hp=>?_⟩)))
    ·subst e
     have e2:ys=[]:=by
      cases ys with
      | nil=>rfl
      | cons=>obtain ⟨_,_,z,_⟩:=rb; cases z
     subst e2
     exact q _ _ _ (zU.refl s) ⟨a,vs,rfl,sa,by rw [List.append_nil]; exact ra,c'⟩
    ·exact q _ _ _ (zU.lay s hp) ⟨p,vs++us,rfl,yx.of xH,(ra.append rb).mono (wJ (s.free hp) _),c'⟩
  ·rw [if_neg c0] at hf
   cases hf
 ·rename_i xs ys
  obtain ⟨a,vs,rfl,sa,ra,_⟩:=rx
  obtain ⟨b,us,rfl,sb,rb,_⟩:=ry
  change (if xs.length+ys.length<=yA then _ else _)=_ at hf
  by_cases c:xs.length+ys.length<=yA
  ·rw [if_pos c] at hf
   cases hf
   have c':(xs++ys).length<=sizeLine:=by rw [sizeLine_eq,List.length_append]; exact c
   refine .inr (.inr (.inr (.inl ⟨a,b,vs,us,rfl,rfl,wR s sa,wR s sb,by rw [ra.length,rb.length,sizeLine_eq]; exact c,fun p hp=>?_⟩)))
   exact q _ _ _ (zU.lay s hp) ⟨p,vs++us,rfl,yU.of xH,(ra.append rb).mono (wJ (s.free hp) _),c'⟩
  ·rw [if_neg c] at hf
   cases hf
theorem ON {α:Type} {xs:List α} {i:Int} {x:α} (h:vg xs i=some x):∃ j:Nat,xs[j]?=some x/\∀ {β:Type} (ys:List β),ys.length=xs.length->vg ys i=ys[j]?:=by
 unfold vg at h
 cases e:ixN xs.length i with
 | none=>rw [e] at h; cases h
 | some j=>
  rw [e] at h
  exact ⟨j,h,fun ys l=>by unfold vg; rw [l,e]; rfl⟩
theorem Uj {α:Type} (xs:List α) (i:Int):vg xs i=xu xs i:=by
 unfold vg xu ixN
 by_cases h:0<=i
 ·rw [if_pos h,if_pos h]
  by_cases h2:i<xs.length
  ·rw [if_pos h2]; rfl
  ·rw [if_neg h2]
   exact (List.getElem?_eq_none (by omega)).symm
 ·rw [if_neg h,if_neg h]
  split<;>rfl
theorem VW {H:Hp} {ds:List D} {vs:List V} {i:Int} {d:D} (r:Reps K H ds vs) (h:xu ds i=some d):∃ v,vg vs i=some v/\zb K H d v:=by
 rw [<- Uj] at h
 obtain ⟨j,e,k⟩:=ON h
 obtain ⟨v,ev,rv⟩:=r.get e
 exact ⟨v,by rw [k vs r.length]; exact ev,rv⟩
noncomputable def LU:D->D->Option D
 | .lst xs,.int i=>xu xs i
 | .tup xs,.int i=>xu xs i
 | .str z,.int i=>(xu z.cps.toList i).bind fun c=>some (.str ⟨#[c]⟩)
 | _,_=>none
theorem VD:ww K (VR K) LU:=fun G H x y u v d Q s rx ry hf q=>by
 cases x<;>first | (cases hf; done) | skip
 all_goals (cases y<;>first | (cases hf; done) | skip)
 ·rename_i z i
  obtain ⟨rfl,l⟩:=rx
  cases ry
  obtain ⟨c,hc,hf⟩:=zL hf
  cases hf
  rw [<- Uj] at hc
  exact .inr (.inr ⟨z,i,c,rfl,rfl,l,hc,q _ _ _ (zU.refl s) ⟨rfl,qo (n:=1) (by decide)⟩⟩)
 ·rename_i xs i
  obtain ⟨a,vs,rfl,sa,ra,_⟩:=rx
  cases ry
  obtain ⟨w,hw,rw_⟩:=VW ra hf
  exact .inr (.inl ⟨a,vs,i,w,rfl,rfl,u7 s sa,hw,q _ _ _ (zU.refl s) rw_⟩)
 ·rename_i xs i
  obtain ⟨a,vs,rfl,sa,ra,_⟩:=rx
  cases ry
  obtain ⟨w,hw,rw_⟩:=VW ra hf
  exact .inl ⟨a,vs,i,w,rfl,rfl,wR s sa,hw,q _ _ _ (zU.refl s) rw_⟩
theorem wB:xn X (.builtin "len") (fun xs H Q=>(∃ p ys,xs=[.ref p]/\(yU X.K H p ys\/yx X.K H p ys)/\Q (.int ys.length) H)\/∃ z,xs=[.str z]/\z.length<=sizeLine/\Q (.int z.length) H):=Og.or Oh
theorem wE:q_ K (fun xs H Q=>(∃ p ys,xs=[.ref p]/\(yU K H p ys\/yx K H p ys)/\Q (.int ys.length) H)\/∃ z,xs=[.str z]/\z.length<=sizeLine/\Q (.int z.length) H) yz:=fun G H ds vs d Q s r hf q=>by
 match ds,hf with
 | [.lst xs],hf=>
  cases hf
  obtain ⟨v,r',rfl,⟨a,us,rfl,sq,ru,_⟩,h2⟩:=r
  cases (show r'=[] from h2)
  exact .inl ⟨a,us,rfl,.inl sq,by rw [ru.length]; exact q _ _ _ (zU.refl s) rfl⟩
 | [.tup xs],hf=>
  cases hf
  obtain ⟨v,r',rfl,⟨a,us,rfl,sq,ru,_⟩,h2⟩:=r
  cases (show r'=[] from h2)
  exact .inl ⟨a,us,rfl,.inr sq,by rw [ru.length]; exact q _ _ _ (zU.refl s) rfl⟩
 | [.str z],hf=>
  cases hf
  obtain ⟨v,r',rfl,⟨rfl,l⟩,h2⟩:=r
  cases (show r'=[] from h2)
  exact .inr ⟨z,rfl,l,q _ _ _ (zU.refl s) rfl⟩
theorem Bt:q_ K (fun xs H Q=>∃ i j,xs=[.int i,.int j]/\Q (.int (if j > i then j else i)) H) Zp:=fun G H ds vs d Q s r hf q=>by
 match ds,hf with
 | [.int i,.int j],hf=>
  cases hf
  obtain ⟨v,r',rfl,rfl,⟨v2,r2,rfl,rfl,h2⟩⟩:=r
  cases (show r2=[] from h2)
  exact ⟨i,j,rfl,q _ _ _ (zU.refl s) rfl⟩
theorem Bu:q_ K (fun xs H Q=>∃ i j,xs=[.int i,.int j]/\Q (.int (if j<i then j else i)) H) Zq:=fun G H ds vs d Q s r hf q=>by
 match ds,hf with
 | [.int i,.int j],hf=>
  cases hf
  obtain ⟨v,r',rfl,rfl,⟨v2,r2,rfl,rfl,h2⟩⟩:=r
  cases (show r2=[] from h2)
  exact ⟨i,j,rfl,q _ _ _ (zU.refl s) rfl⟩
theorem jk:q_ K (fun xs H Q=>(∃ i,xs=[.int i]/\Q (.int i) H)\/∃ k,xs=[.bl k]/\Q (.int (if k then 1 else 0)) H) uq:=fun G H ds vs d Q s r hf q=>by
 match ds,hf with
 | [.int i],hf=>
  cases hf
  obtain ⟨v,r',rfl,rfl,h2⟩:=r
  cases (show r'=[] from h2)
  exact .inl ⟨i,rfl,q _ _ _ (zU.refl s) rfl⟩
 | [.bl k],hf=>
  cases hf
  obtain ⟨v,r',rfl,rfl,h2⟩:=r
  cases (show r'=[] from h2)
  exact .inr ⟨k,rfl,q _ _ _ (zU.refl s) rfl⟩
end
end L3
namespace L3
open PySem PySem.Spec PyProof.Rows L2
theorem TD:∀ xs ys:List D,(((List.range (min xs.length ys.length)).all fun j=>yR (xs.getD j .non) (ys.getD j .non))&&xs.length == ys.length)=dEqs xs ys
 | [],[]=>rfl
 | [],_::_=>rfl
 | _::_,[]=>rfl
 | x::xs,y::ys=>by
  have ih:=TD xs ys
  show _=(yR x y&&dEqs xs ys)
  rw [<- ih,List.length_cons,List.length_cons,Nat.succ_min_succ,List.range_succ_eq_map,List.all_cons,List.all_map,Bool.and_assoc]
  congr 1
  congr 1
  rw [Bool.eq_iff_iff]
  simp
theorem TB {f:D->D->Bool}:∀ {xs ys:List D},vO f xs ys=true->∀ (j:Nat) x y,xs[j]?=some x->ys[j]?=some y->f x y=true
 | [],_,_,j,x,y,e,_=>by cases e
 | x::xs,[],_,j,_,y,_,e=>by cases e
 | x::xs,y::ys,h,0,_,_,e1,e2=>by
  cases e1
  cases e2
  have h':(f x y&&vO f xs ys)=true:=h
  rw [Bool.and_eq_true] at h'
  exact h'.1
 | x::xs,y::ys,h,j+1,a,b,e1,e2=>by
  have h':(f x y&&vO f xs ys)=true:=h
  rw [Bool.and_eq_true] at h'
  exact TB h'.2 j a b (by simpa using e1) (by simpa using e2)
section
variable {X:Cx} {pins:List (Addr×Obj)} {σ:St} {H:Hp} {s:Shared} {K:PySem.W.Frag}
theorem WZ {n:Nat} (ih:∀ d1 d2 v,wC n d1 d2=true->zb K H d1 v->zb K H d2 v->yR d1 d2=true):∀ {xs ys:List D} {vs:List V},vO (wC n) xs ys=true->Reps K H xs vs->Reps K H ys vs->dEqs xs ys=true
 | [],[],_,_,_,_=>rfl
 | [],_::_,_,_,r1,r2=>by
  cases (show _=[] from r1)
  obtain ⟨_,_,e,_⟩:=r2
  cases e
 | _::_,[],_,_,r1,r2=>by
  cases (show _=[] from r2)
  obtain ⟨_,_,e,_⟩:=r1
  cases e
 | x::xs,y::ys,_,h,r1,r2=>by
  obtain ⟨v,r,rfl,a,b⟩:=r1
  obtain ⟨v',r',e,a',b'⟩:=r2
  cases e
  have h':(wC n x y&&vO (wC n) xs ys)=true:=h
  rw [Bool.and_eq_true] at h'
  show (yR x y&&dEqs xs ys)=true
  rw [ih x y v h'.1 a a',WZ ih h'.2 b b']
  rfl
theorem WO {n:Nat} {x y:D} (h:wC (n+1) x y=true):(∃ xs ys,x=.tup xs/\y=.tup ys/\vO (wC n) xs ys=true)\/(∃ xs ys,x=.lst xs/\y=.lst ys/\vO (wC n) xs ys=true)\/(yL x=true/\yL y=true):=by
 unfold wC at h
 split at h
 ·exact .inl ⟨_,_,rfl,rfl,h⟩
 ·exact .inr (.inl ⟨_,_,rfl,rfl,h⟩)
 ·rw [Bool.and_eq_true] at h
  exact .inr (.inr h)
theorem pT {d:D} {v:V} (h:yL d=true) (r:zb K H d v):vQ v=true:=by
 cases d<;>first | exact absurd h Bool.false_ne_true | skip
 ·cases (show v=_ from r); rfl
 ·cases (show v=_ from r); rfl
 ·cases (show v=_ from r); rfl
 ·cases (show v=_/\_ from r).1; rfl
theorem km {d1 d2:D} {x y:V} (h1:yL d1=true) (h2:yL d2=true) (r1:zb K H d1 x) (r2:zb K H d2 y):we x y=yR d1 d2:=by
 cases d1<;>first | exact absurd h1 Bool.false_ne_true | skip
 all_goals (cases d2<;>first | exact absurd h2 Bool.false_ne_true | skip)
 all_goals first
  | (cases (show x=_ from r1); cases (show y=_ from r2); rfl)
  | (cases (show x=_ from r1); cases (show y=_/\_ from r2).1; rfl)
  | (cases (show x=_/\_ from r1).1; cases (show y=_ from r2); rfl)
  | (cases (show x=_/\_ from r1).1; cases (show y=_/\_ from r2).1; rfl)
theorem Zk (I:Inv X pins σ H s):∀ (n:Nat) (d1 d2:D) (v:V),wC n d1 d2=true->zb X.K H d1 v->zb X.K H d2 v->yR d1 d2=true
 | 0,_,_,_,h,_,_=>by cases h
 | n+1,d1,d2,v,h,r1,r2=>by
  rcases WO h with ⟨xs,ys,rfl,rfl,h⟩ | ⟨xs,ys,rfl,rfl,h⟩ | ⟨f1,f2⟩
  ·obtain ⟨a,vs,rfl,s1,q1,_⟩:=r1
   obtain ⟨a',us,e,s2,q2,_⟩:=r2
   cases e
   cases I.tuple_inj s1 s2
   exact WZ (fun d1 d2 v=>Zk I n d1 d2 v) h q1 q2
  ·obtain ⟨a,vs,rfl,s1,q1,_⟩:=r1
   obtain ⟨a',us,e,s2,q2,_⟩:=r2
   cases e
   cases I.list_inj s1 s2
   exact WZ (fun d1 d2 v=>Zk I n d1 d2 v) h q1 q2
  ·rw [<- km f1 f2 r1 r2]
   exact LI (pT f1 r1)
theorem Ts {α:Type} {xs:List α} {j:Nat} {x d:α} (h:xs[j]?=some x):xs.getD j d=x:=by rw [List.getD_eq_getElem?_getD,h]; rfl
theorem YW {A:Around} {n:Nat} {a c:Addr} {xs ys:List D} {vs us:List V} (I:Inv X pins σ H s) (hu:A.units<cLine) (hq:Ub X.K H a c vs us) (q1:Reps X.K H xs vs) (q2:Reps X.K H ys us) (h:vO (wC n) xs ys=true)
  (ih:∀ (d1 d2:D) (x y:V) (u v:Value),wC n d1 d2=true->zb X.K H d1 x->zb X.K H d2 y->zi x u->zi y v->SeqAt.EqAt A.in1 s u v (yR d1 d2)):SeqAt.RcAt A s (.ref a) (.ref c) (dEqs xs ys)/\SeqAt.RcNeAt A s (.ref a) (.ref c) (!dEqs xs ys):=by
 have z:=C0 (A:=A) (e:=fun j=>yR (xs.getD j .non) (ys.getD j .non)) I hu hq fun j x' y' u' v' e1 e2 w1 w2=>by
  obtain ⟨d1,g1,t1⟩:=q1.at e1
  obtain ⟨d2,g2,t2⟩:=q2.at e2
  show SeqAt.EqAt A.in1 s u' v' (yR (xs.getD j .non) (ys.getD j .non))
  rw [Ts g1,Ts g2]
  exact ih d1 d2 x' y' u' v' (TB h j d1 d2 g1 g2) t1 t2 w1 w2
 rw [q1.length,q2.length,TD] at z
 exact z
theorem Zj (I:Inv X pins σ H s):∀ (n:Nat) (A:Around) (d1 d2:D) (x y:V) (u v:Value),A.units+n<cLine->wC n d1 d2=true->zb X.K H d1 x->zb X.K H d2 y->zi x u->zi y v->SeqAt.EqAt A s u v (yR d1 d2)
 | 0,_,_,_,_,_,_,_,_,h,_,_,_,_=>by cases h
 | n+1,A,d1,d2,x,y,u,v,hu,h,r1,r2,rx,ry=>by
  have h0:=h
  have ra:=r1
  have rb:=r2
  rcases WO h with ⟨xs,ys,rfl,rfl,h⟩ | ⟨xs,ys,rfl,rfl,h⟩ | ⟨f1,f2⟩
  ·obtain ⟨a,vs,rfl,s1,q1,l1⟩:=r1
   obtain ⟨c,us,rfl,s2,q2,l2⟩:=r2
   cases (show u=Value.ref a from rx)
   cases (show v=Value.ref c from ry)
   by_cases hac:a=c
   ·subst hac
    rw [Zk I (n+1) _ _ _ h0 ra rb]
    exact SeqAt.EqAt.same _
   ·exact SeqAt.EqAt.of_refs hac (YW I (by omega) (.inl ⟨s1,s2⟩) q1 q2 h fun d1 d2 x y u v hh t1 t2 w1 w2=>Zj I n A.in1 d1 d2 x y u v (by rw [Y6]; omega) hh t1 t2 w1 w2).1
  ·obtain ⟨a,vs,rfl,s1,q1,l1⟩:=r1
   obtain ⟨c,us,rfl,s2,q2,l2⟩:=r2
   cases (show u=Value.ref a from rx)
   cases (show v=Value.ref c from ry)
   by_cases hac:a=c
   ·subst hac
    rw [Zk I (n+1) _ _ _ h0 ra rb]
    exact SeqAt.EqAt.same _
   ·exact SeqAt.EqAt.of_refs hac (YW I (by omega) (.inr ⟨s1,s2⟩) q1 q2 h fun d1 d2 x y u v hh t1 t2 w1 w2=>Zj I n A.in1 d1 d2 x y u v (by rw [Y6]; omega) hh t1 t2 w1 w2).1
  ·rw [<- km f1 f2 r1 r2]
   exact Tc rx ry (pT f1 r1) (pT f2 r2)
end
noncomputable def YU (K:PySem.W.Frag) (neg:Bool):R2:=fun x y H Q=>∃ d1 d2 k,zb K H d1 x/\zb K H d2 y/\tP d1 d2=some k/\Q (.bl (if neg then !k else k)) H
theorem xK {A:Around} {k:Nat} (hr:yg k A):A.units+7<cLine:=Nat.lt_of_le_of_lt (Nat.add_le_add_left (by decide:7<=64) _) hr.units
section
variable {X:Cx} {K:PySem.W.Frag}
theorem Wa {d1 d2:D} {k:Bool} (h:tP d1 d2=some k):wC 6 d1 d2=true/\k=yR d1 d2:=by
 unfold tP at h
 split at h
 ·cases h
 ·cases h
 ·split at h
  ·rename_i e
   cases h
   exact ⟨e,rfl⟩
  ·cases h
theorem Ju {H:Hp} {d1 d2:D} {x y:V} {k:Bool} (h:tP d1 d2=some k) (h1:yL d1=true) (h2:yL d2=true) (r1:zb K H d1 x) (r2:zb K H d2 y):U2 x y=true/\decide (x=y)=k:=by
 obtain ⟨_,e⟩:=Wa h
 subst e
 cases d1<;>first | exact absurd h1 Bool.false_ne_true | skip
 all_goals (cases d2<;>first | exact absurd h2 Bool.false_ne_true | (cases h; done) | skip)
 all_goals first
  | (cases (show x=_ from r1); cases (show y=_ from r2); exact ⟨rfl,by first | rfl | exact WS | exact WR⟩)
  | (cases (show x=_ from r1); cases (show y=_/\_ from r2).1; exact ⟨rfl,rfl⟩)
  | (cases (show x=_/\_ from r1).1; cases (show y=_ from r2); exact ⟨rfl,rfl⟩)
  | (cases (show x=_/\_ from r1).1; cases (show y=_/\_ from r2).1; exact ⟨rfl,WU⟩)
theorem Te {pins:List (Addr×Obj)} {σ:St} {H:Hp} {s:Shared} {A:Around} {d1 d2:D} {x y:V} {u v:Value} (I:Inv X pins σ H s) (hu:A.units+7<cLine) (h:wC 6 d1 d2=true) (hf:¬ (yL d1&&yL d2)=true) (r1:zb X.K H d1 x) (r2:zb X.K H d2 y) (rx:zi x u) (ry:zi y v) :
  SeqAt.RcAt A s u v (yR d1 d2)/\SeqAt.RcNeAt A s u v (!yR d1 d2):=by
 rcases WO h with ⟨xs,ys,rfl,rfl,h⟩ | ⟨xs,ys,rfl,rfl,h⟩ | ⟨f1,f2⟩
 ·obtain ⟨a,vs,rfl,s1,q1,l1⟩:=r1
  obtain ⟨c,us,rfl,s2,q2,l2⟩:=r2
  cases (show u=Value.ref a from rx)
  cases (show v=Value.ref c from ry)
  exact YW I (by omega) (.inl ⟨s1,s2⟩) q1 q2 h fun d1 d2 x y u v hh t1 t2 w1 w2=>Zj I 5 A.in1 d1 d2 x y u v (by rw [Y6]; omega) hh t1 t2 w1 w2
 ·obtain ⟨a,vs,rfl,s1,q1,l1⟩:=r1
  obtain ⟨c,us,rfl,s2,q2,l2⟩:=r2
  cases (show u=Value.ref a from rx)
  cases (show v=Value.ref c from ry)
  exact YW I (by omega) (.inr ⟨s1,s2⟩) q1 q2 h fun d1 d2 x y u v hh t1 t2 w1 w2=>Zj I 5 A.in1 d1 d2 x y u v (by rw [Y6]; omega) hh t1 t2 w1 w2
 ·exact absurd (by rw [f1,f2]; rfl) hf
theorem wI (hu:X.A.units+7<cLine):yS X (compareOp .Eq) (YU X.K false):=by
 intro pins s σ H x y v u Q I rx ry h
 obtain ⟨d1,d2,k,r1,r2,hk,q⟩:=h
 by_cases hf:(yL d1&&yL d2)=true
 ·have hf':=hf
  rw [Bool.and_eq_true] at hf'
  obtain ⟨a,b⟩:=Ju hk hf'.1 hf'.2 r1 r2
  exact D8 pins s σ H x y v u Q I rx ry ⟨a,by rw [b]; exact q⟩
 ·obtain ⟨hc,rfl⟩:=Wa hk
  exact (Te I hu hc hf r1 r2 rx ry).1 _ _ _ _ ⟨.bl _,H,I,rfl,q⟩
theorem tj (hu:X.A.units+7<cLine):yS X (compareOp .NotEq) (YU X.K true):=by
 intro pins s σ H x y v u Q I rx ry h
 obtain ⟨d1,d2,k,r1,r2,hk,q⟩:=h
 by_cases hf:(yL d1&&yL d2)=true
 ·have hf':=hf
  rw [Bool.and_eq_true] at hf'
  obtain ⟨a,b⟩:=Ju hk hf'.1 hf'.2 r1 r2
  exact DC pins s σ H x y v u Q I rx ry ⟨a,by rw [b]; exact q⟩
 ·obtain ⟨hc,rfl⟩:=Wa hk
  exact (Te I hu hc hf r1 r2 rx ry).2 _ _ _ _ ⟨.bl _,H,I,rfl,q⟩
theorem wH:ug K (YU K false) zS:=fun H x y u v d Q rx ry hf=>by
 obtain ⟨k,hk,hf⟩:=zL hf
 cases hf
 exact ⟨_,rfl,fun q=>⟨x,y,k,rx,ry,hk,q⟩⟩
theorem tY:ug K (YU K true) yd:=fun H x y u v d Q rx ry hf=>by
 obtain ⟨k,hk,hf⟩:=zL hf
 cases hf
 exact ⟨_,rfl,fun q=>⟨x,y,k,rx,ry,hk,q⟩⟩
end
end L3
namespace L3
open PySem
theorem US {c:FT} {b:FS}:∀ {n:Nat} {σ:zz} {fl:Fl} (k:Nat),vE c b n σ=some fl->vE c b (n+k) σ=some fl
 | 0,_,_,_,h=>by cases h
 | n+1,σ,fl,k,h=>by
  rw [Nat.succ_add]
  unfold vE at h ⊢
  cases hc:c σ with
  | none=>rw [hc] at h; cases h
  | some kk=>
   rw [hc] at h
   cases kk with
   | false=>exact h
   | true=>
    change (b σ).bind _=_ at h
    show (b σ).bind _=_
    cases hb:b σ with
    | none=>rw [hb] at h; cases h
    | some f=>
     rw [hb] at h
     cases f with
     | nx τ=>exact US k h
     | ct τ=>exact US k h
     | bk τ=>exact h
     | rt o d=>exact h
theorem Jr {c:FT} {b:FS} {σ:zz} {fl:Fl} (n:Nat) (h:vE c b n σ=some fl) (hn:n<=ZC:=by decide):Yb c b σ=some fl:=by
 have e:=US (ZC - n) h
 rw [Nat.add_sub_of_le hn] at e
 exact e
theorem Iy {c:FT} {b:FS} {σ σ':zz} {n:Nat} (hc:c σ=some true) (hb:b σ=some (.nx σ')):vE c b (n+1) σ=vE c b n σ':=by
 show (c σ).bind _=_
 rw [hc]
 show (b σ).bind _=_
 rw [hb]
 rfl
theorem Ix {c:FT} {b:FS} {σ:zz} {n:Nat} (hc:c σ=some false):vE c b (n+1) σ=some (.nx σ):=by
 show (c σ).bind _=_
 rw [hc]
 rfl
theorem qb {g:FG} {b:FS} (P:Nat->zz->Prop):∀ {ds:List D} {σ:zz} (n:Nat),P n σ->(∀ i d σ,ds[i]?=some d->P (n+i) σ->∃ σ1 σ2,g d σ=some σ1/\(b σ1=some (.nx σ2)\/b σ1=some (.ct σ2))/\P (n+i+1) σ2)->
  ∃ σ',uy g b ds σ=some (.nx σ')/\P (n+ds.length) σ'
 | [],σ,n,h,_=>⟨σ,rfl,h⟩
 | d::ds,σ,n,h,step=>by
  obtain ⟨σ1,σ2,e1,e2,p2⟩:=step 0 d σ rfl h
  obtain ⟨σ',e3,p3⟩:=qb P (ds:=ds) (σ:=σ2) (n+1) p2 fun i d' τ hd hp=>by
   obtain ⟨a,b',c1,c2,c3⟩:=step (i+1) d' τ (by simpa using hd) (by rw [show n+(i+1)=n+1+i by omega]; exact hp)
   exact ⟨a,b',c1,c2,by rw [show n+1+i+1=n+(i+1)+1 by omega]; exact c3⟩
  refine ⟨σ',?_,by rw [List.length_cons,show n+(ds.length+1)=n+1+ds.length by omega]; exact p3⟩
  show (g d σ).bind _=_
  rw [e1]
  show (b σ1).bind _=_
  rcases e2 with e2 | e2
  ·rw [e2]; exact e3
  ·rw [e2]; exact e3
theorem qk {a b:FS} {σ σ':zz} (h:a σ=some (.nx σ')):zG a b σ=b σ':=by
 show (a σ).bind _=_
 rw [h]
 rfl
theorem MC {c:FT} {a b:FS} {σ:zz} (h:c σ=some true):zY c a b σ=a σ:=by
 show (c σ).bind _=_
 rw [h]
 rfl
noncomputable abbrev xm (j:Nat):List D:=(List.range j).map fun k:Nat=>D.int k
theorem pS {f:FE} {τ:zz} {n:Int} (h:f τ=some (.int n)) (h1:n.natAbs<=1000000):v7 (eC (.int 0)) f τ=some (xm n.toNat):=by
 unfold v7
 rw [h]
 show (if (0:Int).natAbs<=yA/\n.natAbs<=yA/\(n - 0).toNat<=yA then _ else _)=_
 rw [if_pos ⟨by decide,by show _<=16777216; omega,by show _<=16777216; omega⟩,Int.sub_zero]
 simp only [Int.zero_add]
end L3
namespace L3
noncomputable def shx:=
 And.intro yP.eq_1 <| And.intro zG.eq_1 <| And.intro zP.eq_1 <| And.intro vB.eq_1 <| And.intro za.eq_1 <| And.intro qi.eq_1 <| And.intro t8.eq_1 <| And.intro zY.eq_1 <| And.intro zm.eq_1 <| And.intro qh.eq_1 <|
 And.intro Jq.eq_1 <| And.intro xX.eq_1 <| And.intro vz.eq_1 <| And.intro uy.eq_1 <| And.intro uy.eq_2 <| And.intro e1.eq_1 <| And.intro e2.eq_1 <| And.intro eL.eq_1 <| And.intro eC.eq_1 <| And.intro z7.eq_1 <| And.intro w_.eq_1 <|
 And.intro z8.eq_1 <| And.intro zC.eq_1 <| And.intro tE.eq_1 <| And.intro qO.eq_def <| And.intro pj.eq_1 <| And.intro vC.eq_1 <| And.intro pp.eq_1 <| And.intro pI.eq_1 <| And.intro TR.eq_1 <| And.intro TQ.eq_1 <| And.intro uI.eq_1 <|
 And.intro yQ.eq_1 <| And.intro yC.eq_1 <| And.intro TN.eq_1 <| And.intro Wy.eq_def <| And.intro fI.eq_def <| And.intro xg.eq_def <| And.intro yW.eq_def <| And.intro gv.eq_1 <| And.intro uK.eq_1 <| And.intro zr.eq_1 <| And.intro yh.eq_1 <|
 And.intro wf.eq_1 <| And.intro Zs.eq_1 <| And.intro Wd.eq_1 <| And.intro qT.eq_def <| And.intro xy.eq_def <| And.intro yz.eq_def <| And.intro uq.eq_def <| And.intro gu.eq_def <| And.intro Zr.eq_def <| And.intro jc.eq_def <|
 And.intro zt.eq_1 <| And.intro qW.eq_1 <| And.intro wg.eq_1 <| And.intro zV.eq_1 <| And.intro Zg.eq_1 <| And.intro wD.eq_1 <|
 And.intro @Option.bind_some.{0,0} <| And.intro @Option.bind_none.{0,0} <| And.intro @List.getElem?_cons_zero.{0} <| And.intro @List.getElem?_cons_succ.{0} <| And.intro @List.set_cons_zero.{0} <| And.intro @List.set_cons_succ.{0} <| And.intro @List.map_cons.{0,0} <| And.intro @List.map_nil.{0,0} <|
 And.intro @List.cons_append.{0} <| And.intro @List.nil_append.{0} <| And.intro @List.length_cons.{0} <| And.intro @List.length_nil.{0} <| And.intro @List.replicate_zero.{0} <| And.intro @List.replicate_succ.{0} <| And.intro Bool.not_true <| And.intro Bool.not_false <|
 And.intro @decide_true <| And.intro @decide_false <| And.intro Bool.and_self <| And.intro Bool.and_true Bool.true_and
end L3
namespace L3
open PySem PySem.Spec PyProof.Rows L2
section
variable {α:Type}
theorem O0:∀ {ks:List y0} {vs:List α} (k:y0),ks.length=vs.length->((ks.zip vs).any fun kv=>decide (kv.1=k))=wO ks k
 | [],[],_,_=>rfl
 | k'::ks,v::vs,k,h=>by
  have ih:=O0 (ks:=ks) (vs:=vs) k (by simpa using h)
  show (decide (k'=k)||((ks.zip vs).any fun kv=>decide (kv.1=k)))=(decide (k'=k)||wO ks k)
  rw [ih]
theorem XD:∀ {ks:List y0} {vs:List V} (k:y0),ks.length=vs.length->vD (ks.zip vs) k=getK ks vs k
 | [],[],_,_=>rfl
 | k'::ks,v::vs,k,h=>by
  have ih:=XD (ks:=ks) (vs:=vs) k (by simpa using h)
  by_cases e:k'=k
  ·rw [List.zip_cons_cons,X0 (p:=(k',v)) e]
   show _=(if k'=k then some v else _)
   rw [if_pos e]
  ·rw [List.zip_cons_cons,Y_ (p:=(k',v)) e,ih]
   show _=(if k'=k then some v else _)
   rw [if_neg e]
theorem O1:∀ {ks:List y0} {vs:List V} (k:y0) (v:V),ks.length=vs.length->((ks.zip vs).map fun kv=>if kv.1=k then (kv.1,v) else kv)=ks.zip (List.zipWith (fun k' x=>if k'=k then v else x) ks vs)
 | [],[],_,_,_=>rfl
 | k'::ks,u::vs,k,v,h=>by
  have ih:=O1 (ks:=ks) (vs:=vs) k v (by simpa using h)
  rw [List.zip_cons_cons,List.map_cons,ih,List.zipWith_cons_cons,List.zip_cons_cons]
  by_cases e:k'=k
  ·rw [if_pos e,if_pos e]
  ·rw [if_neg e,if_neg e]
theorem GA {ks:List y0} {vs:List V} {k:y0} {v:V} (h:ks.length=vs.length):vx (ks.zip vs) k v=(vy ks k).zip (wW ks vs k v):=by
 unfold vx vy wW
 rw [O0 k h]
 by_cases c:wO ks k=true
 ·rw [if_pos c,if_pos c,if_pos c,O1 k v h]
 ·rw [if_neg c,if_neg c,if_neg c,List.zip_append h]
  rfl
theorem JA {ks:List y0} {vs:List α} {k:y0} {v:α} (h:ks.length=vs.length):(vy ks k).length=(wW ks vs k v).length:=by
 unfold vy wW
 split
 ·rw [List.length_zipWith,h,Nat.min_self]
 ·rw [List.length_append,List.length_append,h]
  rfl
theorem FV {ks:List y0} {vs:List α} {k:y0} {v:α} (h:ks.length=vs.length):(wW ks vs k v).length<=vs.length+1:=by
 unfold wW
 split
 ·rw [List.length_zipWith,h,Nat.min_self]
  exact Nat.le_succ _
 ·rw [List.length_append]
  exact Nat.le_refl _
end
section
variable {K:PySem.W.Frag} {G H:Hp}
theorem Reps.getK:∀ {ks:List y0} {ds:List D} {vs:List V} {k:y0} {d:D},Reps K H ds vs->getK ks ds k=some d->∃ v,getK ks vs k=some v/\zb K H d v
 | [],_,_,_,_,_,e=>by cases e
 | _::_,[],_,_,_,_,e=>by cases e
 | k'::ks,d'::ds,_,k,d,r,e=>by
  obtain ⟨v,r',rfl,hv,hr⟩:=r
  change (if k'=k then some d' else L3.getK ks ds k)=some d at e
  by_cases c:k'=k
  ·rw [if_pos c] at e
   cases e
   exact ⟨v,by show (if k'=k then some v else _)=_; rw [if_pos c],hv⟩
  ·rw [if_neg c] at e
   obtain ⟨u,hu,ru⟩:=Reps.getK hr e
   exact ⟨u,by show (if k'=k then some v else _)=_; rw [if_neg c]; exact hu,ru⟩
theorem Tt {α:Type}:∀ {ks:List y0} {vs:List α} (k:y0),ks.length=vs.length->(getK ks vs k).isSome=wO ks k
 | [],[],_,_=>rfl
 | k'::ks,v::vs,k,h=>by
  have ih:=Tt (ks:=ks) (vs:=vs) k (by simpa using h)
  show (if k'=k then some v else getK ks vs k).isSome=(decide (k'=k)||_)
  by_cases c:k'=k
  ·rw [if_pos c,decide_eq_true c]; rfl
  ·rw [if_neg c,decide_eq_false c,ih]; rfl
theorem Reps.zipW {k:y0} {d:D} {v:V} (hv:zb K H d v):∀ {ks:List y0} {ds:List D} {vs:List V},Reps K H ds vs->Reps K H (List.zipWith (fun k' x=>if k'=k then d else x) ks ds) (List.zipWith (fun k' x=>if k'=k then v else x) ks vs)
 | [],_,_,_=>rfl
 | _::_,[],_,r=>by cases (show _=[] from r); rfl
 | k'::ks,d'::ds,_,r=>by
  obtain ⟨u,r',rfl,hu,hr⟩:=r
  refine ⟨_,_,rfl,?_,Reps.zipW hv hr⟩
  show zb K H (if k'=k then d else d') (if k'=k then v else u)
  by_cases c:k'=k
  ·rw [if_pos c,if_pos c]; exact hv
  ·rw [if_neg c,if_neg c]; exact hu
theorem Reps.put {ks:List y0} {ds:List D} {vs:List V} {k:y0} {d:D} {v:V} (r:Reps K H ds vs) (hv:zb K H d v):Reps K H (wW ks ds k d) (wW ks vs k v):=by
 unfold wW
 split
 ·exact Reps.zipW hv r
 ·exact r.append (Reps.one hv)
theorem YA {x:D} {k:y0} {u:V} (h:jd x=some k) (r:zb K H x u):u=kV k:=by
 cases x<;>first | (cases h; done) | skip
 ·cases h; exact r
 ·cases h; exact (show u=_/\_ from r).1
end
section
variable {X:Cx} {K:PySem.W.Frag}
noncomputable def JM:R2:=fun x y H Q=>∃ a kvs k v,x=.ref a/\y=kV k/\Rd H a (.dK kvs)/\vD kvs k=some v/\Q v H
theorem MO:vf X JM:=by
 intro value slice pins s σ H x y v u Q I rx ry h hs
 obtain ⟨a,kvs,k,z,rfl,rfl,e,l,q⟩:=h
 cases rx
 obtain ⟨_,_,vs,rel,dd⟩:=gg I.hok e
 obtain ⟨w',hw,rw'⟩:=tM.some_of (v:=z) (o:=valueAt vs k) (by rw [<- l]; exact rel.val k)
 exact subscriptTail_builtinR (x:=w') (LC I (.inl ⟨kvs,k,e,rfl,rfl⟩)) PySem.F.slot_dict_getitem.lookup
  (wpAny_getItem_of (Q:=fun r s'=>r=w'/\EP X pins σ Q r s') (kF ry) dd.mapOf hw ⟨rfl,z,H,I.tok _,rw',q⟩) hs
noncomputable def JL (K:PySem.W.Frag):R2:=fun x y H Q=>VR K x y H Q\/JM x y H Q
theorem zc (_:X.A.units+1<cLine):vf X (JL X.K):=MQ.or MO
theorem zd:ww K (JL K) zF:=fun G H x y u v d Q s rx ry hf q=>by
 cases x with
 | dic ks ds=>
  obtain ⟨a,vs,rfl,sq,l,rs,_⟩:=rx
  obtain ⟨k,hk,hf⟩:=zL hf
  obtain ⟨z,hz,rz⟩:=rs.getK hf
  exact .inr ⟨a,_,k,z,rfl,YA hk ry,Rd.mono s sq,by rw [XD k l]; exact hz,q _ _ _ (zU.refl s) rz⟩
 | non=>cases hf
 | bl b=>cases hf
 | int b=>cases hf
 | str z=>exact .inl (VD G H (.str z) y u v d Q s rx ry (by cases y<;>exact hf) q)
 | tup z=>exact .inl (VD G H (.tup z) y u v d Q s rx ry (by cases y<;>exact hf) q)
 | lst z=>exact .inl (VD G H (.lst z) y u v d Q s rx ry (by cases y<;>exact hf) q)
 | exc z=>cases hf
 | obj z _ _=>cases hf
theorem U5 {i:Nat} {x:Str} {p pos:Pos} {b:Expr} {fb:FE} (hu:X.A.units+1<cLine) (ho:QE X (.Name x p) (tw i)) (hb:SE X b fb) (hs:kU b=true:=by rfl):SE X (.Subscript (.Name x p) b pos) (e2 zF (w_ i) fb):=by
 obtain ⟨tb,pb,kb⟩:=hb.h
 refine ⟨⟨_,Qw (zc hu) ho.h pb (J1 hs),fun {G0 H0 G H τ σ d Q} E hf q=>?_⟩⟩
 obtain ⟨x,hx,hf⟩:=zL hf
 obtain ⟨y,hy,hf⟩:=zL hf
 obtain ⟨o,ho⟩:=WX hx
 cases o with
 | false=>
  obtain ⟨v,ev,rv⟩:=E.fr _ _ ho
  exact ⟨v,ev,kb E hy fun u G2 H2 x2 r2=>zd G2 H2 x y v u _ _ x2.gh (rv.mono x2.g) r2 hf fun w G' H' x3 r3=>q w G' H' (x2.trans x3) r3⟩
 | true=>
  obtain ⟨p,ev,_,_,o⟩:=E.ow _ _ ho
  refine ⟨_,ev,kb E hy fun u G2 H2 x2 r2=>?_⟩
  cases x with
  | lst ds=>
   obtain ⟨vs,e1,rs,_⟩:=o
   cases y<;>first | (cases hf; done) | skip
   rename_i i
   obtain ⟨w,hw,rw_⟩:=VW rs hf
   cases r2
   exact .inl (.inl ⟨p,vs,i,w,rfl,rfl,yU.of (x2.h _ _ e1),hw,q _ _ _ x2 (rw_.mono x2.g)⟩)
  | dic ks ds=>
   obtain ⟨vs,e1,l,rs,_⟩:=o
   obtain ⟨k,hk,hf⟩:=zL hf
   obtain ⟨z,hz,rz⟩:=rs.getK hf
   exact .inr ⟨p,_,k,z,rfl,YA hk r2,.inl (x2.h _ _ e1),by rw [XD k l]; exact hz,q _ _ _ x2 (rz.mono x2.g)⟩
  | _=>exact o.elim
noncomputable def VQ (neg:Bool):R2:=fun x y H Q=>∃ a kvs k,y=.ref a/\x=kV k/\Rd H a (.dK kvs)/\Q (.bl (if neg then !(vD kvs k).isSome else (vD kvs k).isSome)) H
theorem D9 (hu:X.A.units+1<cLine):yS X (compareOp .In) (VQ false):=by
 intro pins s σ H x y v u Q I rx ry h
 obtain ⟨a,kvs,k,rfl,rfl,e,q⟩:=h
 cases ry
 exact L6 hu I (.inl ⟨kvs,k,e,rfl,rfl⟩) rx fun s' I'=>⟨.bl _,H,I',rfl,q⟩
theorem DE (hu:X.A.units+1<cLine):yS X (compareOp .NotIn) (VQ true):=by
 intro pins s σ H x y v u Q I rx ry h
 obtain ⟨a,kvs,k,rfl,rfl,e,q⟩:=h
 cases ry
 exact L7 hu I (.inl ⟨kvs,k,e,rfl,rfl⟩) rx fun s' I'=>⟨.bl _,H,I',rfl,q⟩
noncomputable def kj (K:PySem.W.Frag) (neg:Bool):R2:=fun x y H Q=>VP K neg x y H Q\/(∃ i j,x=.str i/\y=.str j/\Q (.bl (if neg then !(!(Builtin.Str.occurrences j i 0 j.length 1).isEmpty) else !(Builtin.Str.occurrences j i 0 j.length 1).isEmpty)) H)\/VQ neg x y H Q
theorem t6 (hu:X.A.units+1<cLine):yS X (compareOp .In) (kj X.K false):=DA.or (DB.or (D9 hu))
theorem Qp (hu:X.A.units+1<cLine):yS X (compareOp .NotIn) (kj X.K true):=DF.or (DG.or (DE hu))
theorem YX {H:Hp} {x:D} {u:V} (hx:yL x=true) (rx:zb K H x u):∀ {ys:List D} {vs:List V},Reps K H ys vs->ys.all yL=true->vs.all vQ=true/\Y7 u vs=ys.any fun y=>yR y x
 | [],_,r,_=>by cases (show _=[] from r); exact ⟨rfl,rfl⟩
 | y::ys,_,r,h=>by
  obtain ⟨v,r',rfl,hv,hr⟩:=r
  rw [List.all_cons,Bool.and_eq_true] at h
  obtain ⟨a,b⟩:=YX hx rx hr h.2
  refine ⟨by rw [List.all_cons,pT h.1 hv,a]; rfl,?_⟩
  show (we v u||Y7 u r')=(yR y x||_)
  rw [km h.1 hx hv rx,b]
theorem Q3 {neg:Bool} {H:Hp} {x y:D} {u v:V} {k:Bool} {Q:VK} (rx:zb K H x u) (ry:zb K H y v) (hf:tQ x y=some k) (q:Q (.bl (if neg then !k else k)) H):kj K neg u v H Q:=by
 cases y with
 | lst ys=>
  obtain ⟨a,vs,rfl,sq,rs,_⟩:=ry
  change (match yL x&&ys.all yL with | true=>some (ys.any fun y=>yR y x) | false=>none)=some k at hf
  cases c:(yL x&&ys.all yL) with
  | false=>rw [c] at hf; cases hf
  | true=>
   rw [c] at hf
   cases hf
   rw [Bool.and_eq_true] at c
   obtain ⟨c1,c2⟩:=YX c.1 rx rs c.2
   exact .inl ⟨a,vs,rfl,.inl sq,pT c.1 rx,c1,by rw [c2]; exact q⟩
 | tup ys=>
  obtain ⟨a,vs,rfl,sq,rs,_⟩:=ry
  change (match yL x&&ys.all yL with | true=>some (ys.any fun y=>yR y x) | false=>none)=some k at hf
  cases c:(yL x&&ys.all yL) with
  | false=>rw [c] at hf; cases hf
  | true=>
   rw [c] at hf
   cases hf
   rw [Bool.and_eq_true] at c
   obtain ⟨c1,c2⟩:=YX c.1 rx rs c.2
   exact .inl ⟨a,vs,rfl,.inr sq,pT c.1 rx,c1,by rw [c2]; exact q⟩
 | str j=>
  cases x<;>first | (cases hf; done) | skip
  rename_i i
  cases hf
  exact .inr (.inl ⟨i,j,(show u=_/\_ from rx).1,(show v=_/\_ from ry).1,q⟩)
 | dic ks ds=>
  obtain ⟨kk,hk,hf⟩:=zL hf
  cases hf
  obtain ⟨a,vs,rfl,sq,l,rs,_⟩:=ry
  refine .inr (.inr ⟨a,_,kk,rfl,YA hk rx,sq,?_⟩)
  rw [XD kk l,Tt kk l]
  exact q
 | _=>cases hf
theorem t5:ug K (kj K false) yb:=fun H x y u v d Q rx ry hf=>by
 obtain ⟨k,hk,hf⟩:=zL hf
 cases hf
 exact ⟨_,rfl,fun q=>Q3 rx ry hk q⟩
theorem Qm:ug K (kj K true) tR:=fun H x y u v d Q rx ry hf=>by
 obtain ⟨k,hk,hf⟩:=zL hf
 cases hf
 exact ⟨_,rfl,fun q=>Q3 rx ry hk q⟩
theorem Cf {pos:Pos}:SF X (.Dict [] [] pos) (eC (.dic [] [])):=⟨⟨_,DY,fun {G0 H0 G H τ σ d Q} E hf q p hp=>by
 cases hf
 exact q p G _ (zU.layO E.ext.gh hp) hp (E.ext.gh.free hp) ⟨[],xH,rfl,rfl,Nat.zero_le _⟩⟩⟩
theorem Cw {i:Nat} {x:Str} {xp pos pos':Pos} {k v:Expr} {fk fv:FE} (hu:X.A.units+1<cLine) (ho:QE X (.Name x xp) (tw i)) (hk:SE X k fk) (hv:SE X v fv) (hs:swapsWith v (some (.Subscript (.Name x xp) k pos')) pos.line X.env=pure false:=by rfl) :
  SS X (.Assign [.Subscript (.Name x xp) k pos'] v pos) (kx i fk fv):=by
 obtain ⟨tk,pk,kk⟩:=hk.h
 obtain ⟨tv,pv,kv⟩:=hv.h
 refine ⟨⟨_,F6 hu ho.h pk pv hs,fun {G0 H0 G H τ σ fl E} K hf q=>?_⟩⟩
 obtain ⟨y,hy,hf⟩:=zL hf
 refine kv K hy fun w G1 H1 x1 r1=>?_
 split at hf
 ·rename_i ks ds hd
  obtain ⟨xk,hx,hf⟩:=zL hf
  obtain ⟨key,hkey,hf⟩:=zL hf
  by_cases c:ks.length<yA
  ·rw [if_pos c] at hf
   cases hf
   have K1:=K.go x1
   obtain ⟨a,ea,g,z,vs,ev,l,rs,hl⟩:=K1.ow _ _ hd
   refine ⟨_,ea,kk K1 hx fun u G2 H2 x2 r2=>⟨a,_,rfl,.inl ⟨_,key,x2.h _ _ ev,YA hkey r2,?_,rfl⟩,?_⟩⟩
   ·rw [List.length_zip,l,Nat.min_self,sizeLine_eq,<- l]; exact c
   ·refine q _ _ _ ((K1.go x2).mut hd ea ⟨wW ks vs key w,?_,JA l,(rs.mono x2.g).put (r1.mono x2.g),?_⟩)
    ·rw [xH,GA l]
    ·have h1:=FV (ks:=ks) (vs:=ds) (k:=key) (v:=y) (by rw [l,rs.length])
     have h2:ds.length<16777216:=by rw [<- rs.length,<- l]; exact c
     rw [sizeLine_eq]
     omega
  ·rw [if_neg c] at hf
   cases hf
 ·cases hf
end
end L3
namespace L3
open PySem PySem.Spec PyProof.Rows L2
noncomputable def vZ:D->Option (List D)
 | .lst xs=>some xs
 | .tup xs=>some xs
 | _=>none
noncomputable def vp (a b:FE):FA:=fun σ=>(a σ).bind fun x=>(b σ).bind fun y=>(vZ x).bind fun xs=>(vZ y).bind fun ys=>some (List.zipWith (fun x y=>D.tup [x,y]) xs ys)
section
variable {X:Cx} {a b e o:Expr} {fa fb f:FE} {p pos apos cpos:Pos}
noncomputable abbrev FO:=zz->Option (Option Int)
noncomputable def yH:FO:=fun _=>some none
noncomputable def yI (f:FE):FO:=fun σ=>(f σ).bind fun d=>match d with
 | .int i=>some (some i)
 | _=>none
noncomputable def wT {α:Type} (xs:List α) (lo hi:Option Int):List α:=(xs.drop (HT.sIx xs.length 0 lo)).take (HT.sIx xs.length xs.length hi - HT.sIx xs.length 0 lo)
noncomputable def uL (d:D) (lo hi:Option Int):Option D:=match d with
 | .lst xs=>some (.lst (wT xs lo hi))
 | .tup xs=>if HT.sIx xs.length 0 lo=0/\HT.sIx xs.length xs.length hi=xs.length then none else some (.tup (wT xs lo hi))
 | .str z=>some (.str (cutS z lo hi))
 | _=>none
noncomputable def ya (a:FE) (lo hi:FO):FE:=fun σ=>(a σ).bind fun d=>(lo σ).bind fun l=>(hi σ).bind fun h=>uL d l h
structure SO (X:Cx) (e:Option Expr) (f:FO):Prop where
 h:∃ t,PO X e t/\∀ {G0 H0 G H:Hp} {τ:zz} {σ:St} {d:Option Int} {Q:Option Int->Hp->Prop},zo X.K X.N.length G0 H0 G H τ σ->f τ=some d->(∀ G' H',zU G H G' H'->Q d H')->t σ H Q
theorem wZ:SO X none yH:=⟨⟨_,F2,fun E hf q=>by cases hf; exact q _ _ (zU.refl E.ext.gh)⟩⟩
theorem wb (h:SE X e f):SO X (some e) (yI f):=by
 obtain ⟨t,pt,k⟩:=h.h
 refine ⟨⟨_,F3 pt,fun {G0 H0 G H τ σ d Q} E hf q=>?_⟩⟩
 obtain ⟨x,hx,hf⟩:=zL hf
 cases x<;>first | (cases hf; done) | skip
 cases hf
 exact k E hx fun v G' H' x r=>⟨_,r,q _ _ x⟩
theorem Reps.cut {K:PySem.W.Frag} {G:Hp} {ds:List D} {vs:List V} (r:Reps K G ds vs) (lo hi:Option Int):Reps K G (wT ds lo hi) (qR vs lo hi):=by
 unfold wT qR
 rw [r.length]
 exact (r.drop _).take _
theorem Zc {α:Type} (xs:List α) (lo hi:Option Int):(wT xs lo hi).length<=xs.length:=by
 unfold wT
 rw [List.length_take,List.length_drop]
 omega
noncomputable def Fv (K:PySem.W.Frag):V->Option Int->Option Int->Hp->VK->Prop:=fun x lo hi H Q=>JQ K x lo hi H Q\/JS K x lo hi H Q\/JR x lo hi H Q
theorem IB:uh X (Fv X.K):=Cm.or (Co.or Cn)
theorem wn {lo hi:Option Expr} {fl fh:FO} {p2:Pos} (ha:SE X a fa) (hl:SO X lo fl) (hh:SO X hi fh):SE X (.Subscript a (.Slice lo hi none p2) pos) (ya fa fl fh):=by
 obtain ⟨ta,pa,ka⟩:=ha.h
 obtain ⟨tl,pl,kl⟩:=hl.h
 obtain ⟨th,ph,kh⟩:=hh.h
 refine ⟨⟨_,Qy IB pa pl ph,fun {G0 H0 G H τ σ d Q} E hf q=>?_⟩⟩
 obtain ⟨x,hx,hf⟩:=zL hf
 obtain ⟨l,hl,hf⟩:=zL hf
 obtain ⟨h,hh,hf⟩:=zL hf
 refine ka E hx fun v G1 H1 x1 r1=>kl (E.go x1) hl fun G2 H2 x2=>kh ((E.go x1).go x2) hh fun G3 H3 x3=>?_
 have xx:=x1.trans (x2.trans x3)
 have r3:=r1.mono (x2.g.trans x3.g)
 cases x with
 | lst xs=>
  cases hf
  obtain ⟨a,vs,rfl,sq,rs,ll⟩:=r3
  refine .inl ⟨a,vs,rfl,wR x3.gh sq,fun p hp=>q _ _ _ (xx.trans (zU.lay x3.gh hp)) ⟨p,_,rfl,yU.of xH,(rs.cut l h).mono (wJ (x3.gh.free hp) _),Nat.le_trans (Zc ..) ll⟩⟩
 | tup xs=>
  change (if HT.sIx xs.length 0 l=0/\HT.sIx xs.length xs.length h=xs.length then none else some (D.tup (wT xs l h)))=some d at hf
  by_cases c:HT.sIx xs.length 0 l=0/\HT.sIx xs.length xs.length h=xs.length
  ·rw [if_pos c] at hf
   cases hf
  ·rw [if_neg c] at hf
   cases hf
   obtain ⟨a,vs,rfl,sq,rs,ll⟩:=r3
   refine .inr (.inl ⟨a,vs,rfl,u7 x3.gh sq,by rw [rs.length]; exact c,fun p hp=>?_⟩)
   exact q _ _ _ (xx.trans (zU.lay x3.gh hp)) ⟨p,_,rfl,yx.of xH,(rs.cut l h).mono (wJ (x3.gh.free hp) _),Nat.le_trans (Zc ..) ll⟩
 | str z=>
  cases hf
  obtain ⟨rfl,ll⟩:=r3
  exact .inr (.inr ⟨z,rfl,ll,q _ _ _ xx ⟨rfl,Nat.le_trans (cut_len ..) ll⟩⟩)
 | _=>cases hf
noncomputable def Wf:List D->Option D
 | [.lst xs]=>some (.tup xs)
 | [.tup xs]=>some (.tup xs)
 | _=>none
theorem tq {K:PySem.W.Frag} {G:Hp} {d:D} {vs:List V} (r:Reps K G [d] vs):∃ v,vs=[v]/\zb K G d v:=by
 obtain ⟨v,r',rfl,hv,hr⟩:=r
 cases (show r'=[] from hr)
 exact ⟨v,rfl,hv⟩
noncomputable def kD (x:D):List D->Nat->Option Nat
 | [],_=>none
 | y::ys,n=>match yR y x with
  | true=>some n
  | false=>kD x ys (n+1)
noncomputable def xw:D->D->Option D
 | .lst ys,x=>match yL x&&ys.all yL with
  | true=>(kD x ys 0).bind fun n=>some (.int n)
  | false=>none
 | _,_=>none
theorem QK {x:D}:∀ {ys:List D} {n m:Nat},kD x ys n=some m->∃ j y,m=n+j/\ys[j]?=some y/\yR y x=true/\∀ i z,i<j->ys[i]?=some z->yR z x=false
 | [],_,_,h=>by cases h
 | y::ys,n,m,h=>by
  change (match yR y x with | true=>some n | false=>kD x ys (n+1))=some m at h
  cases c:yR y x with
  | true=>
   rw [c] at h
   cases h
   exact ⟨0,y,rfl,rfl,c,fun i z hi=>absurd hi (Nat.not_lt_zero _)⟩
  | false=>
   rw [c] at h
   obtain ⟨j,y',e1,e2,e3,e4⟩:=QK h
   refine ⟨j+1,y',by omega,by simpa using e2,e3,fun i z hi ez=>?_⟩
   cases i with
   | zero=>cases ez; exact c
   | succ i=>exact e4 i z (by omega) (by simpa using ez)
theorem BE:qJ X "list.index" (fun x vs H Q=>∃ (a:Addr) (us:List V) (y:V) (j:Nat) (u:V),x=.ref a/\vs=[y]/\yU X.K H a us/\vQ y=true/\us.all vQ=true/\us[j]?=some u/\we u y=true/\(∀ i z,i<j->us[i]?=some z->we z y=false)/\Q (.int (j:Int)) H):=by
 intro pins s σ H x xs v us' Q I rx rs h
 obtain ⟨a,us,y,j,u,rfl,rfl,sq,fy,fu,eu,hit,no,q⟩:=h
 cases rx
 obtain ⟨w,rfl,ry⟩:=vd rs
 obtain ⟨its,r,⟨⟨c1,d1,t1,sl1⟩,n1,ho,hc,hd,ht⟩,hz⟩:=I.list sq
 simp only at hc ht
 subst hc ht
 have hl:=r.length
 have hj:j<us.length:=(List.getElem?_eq_some_iff.mp eu).1
 have key:∀ (i:Nat) (z:V) (hi:i<its.toArray.size),us[i]?=some z->wN y its.toArray[i]=we z y:=fun i z hi ez=>by
  obtain ⟨t,et,rt⟩:=r.get ez
  have e:its.toArray[i]=t:=by
   have h2:its[i]?=some its[i]:=List.getElem?_eq_getElem (by rw [List.size_toArray] at hi; exact hi)
   rw [h2] at et
   simpa using et
  rw [e]
  exact WY rt (List.all_eq_true.mp fu z (List.mem_of_getElem? ez))
 have hjs:j<its.toArray.size:=by rw [List.size_toArray,<- hl]; exact hj
 have hsz:=pN
 refine call_meets PySem.F.slot_list_index ⟨_,ho,rfl⟩ PySem.F.entry_list_index (PySem.F.args_list_index_2 _ _) (SeqAt.list_indexAt a its.toArray n1 d1 sl1 w (wN y) j hjs (by omega) (by rw [key j u hjs eu]; exact hit) fun m hm hlt=>?_) ⟨ho,fun t ht=>?_,⟨.int j,H,I.tok _,⟨_,rfl⟩,q⟩⟩
 ·have hm':m<us.length:=by rw [List.size_toArray,<- hl] at hm; exact hm
  rw [key m us[m] hm (List.getElem?_eq_getElem hm')]
  exact no m _ hlt (List.getElem?_eq_getElem hm')
 ·exact jg ry fy r fu t (by simpa using ht)
theorem U4 {fo:FE} (ho:SE X o fo) (he:SE X e f) (hbase:attributeBase o "index" X.env (eval o X.env)=eval o X.env:=by rfl) (hline:(apos.endLine == cpos.line)=true:=by rfl) (hs:yf e=true:=by rfl) :
  SE X (.Call (.Attribute o "index" apos) [e] [] cpos) (e2 xw fo f):=by
 obtain ⟨to,po,ko⟩:=ho.h
 obtain ⟨te,pe,ke⟩:=(zB he zM hs).h
 refine ⟨⟨_,(pR PySem.F.plainAttrs_list PySem.F.slot_list_index PySem.F.type_list_index BE ⟨po⟩ ⟨pe⟩ hbase hline (by rw [List.all_cons,hs]; rfl) (by show 1<30; decide)).h,fun {G0 H0 G H τ σ d Q} E hf q=>?_⟩⟩
 obtain ⟨x,hx,hf⟩:=zL hf
 obtain ⟨y,hy,hf⟩:=zL hf
 refine ko E hx fun v G1 H1 x1 r1=>?_
 cases x with
 | lst ys=>
  obtain ⟨a,us,rfl,sq,rs,_⟩:=r1
  refine ⟨.inl ⟨rfl,us,wR x1.gh sq⟩,ke (E.go x1) (ds:=[y]) (by unfold z8; rw [hy]; rfl) fun ws G2 H2 x2 r2=>?_⟩
  obtain ⟨w,rfl,rw_⟩:=tq r2
  change (match yL y&&ys.all yL with | true=>(kD y ys 0).bind fun n=>some (D.int n) | false=>none)=some d at hf
  cases c:(yL y&&ys.all yL) with
  | false=>rw [c] at hf; cases hf
  | true=>
   rw [c] at hf
   obtain ⟨n,hn,hf⟩:=zL hf
   cases hf
   rw [Bool.and_eq_true] at c
   obtain ⟨j,z,e1,e2,e3,e4⟩:=QK hn
   rw [Nat.zero_add] at e1
   subst e1
   have rs2:=rs.mono x2.g
   obtain ⟨u,eu,ru⟩:=rs2.get e2
   have fl:∀ {i:Nat} {z:D},ys[i]?=some z->yL z=true:=fun {i z} ez=>List.all_eq_true.mp c.2 z (List.mem_of_getElem? ez)
   refine ⟨a,us,w,n,u,rfl,rfl,wR (x1.gh.trans x2.h) sq,pT c.1 rw_,(YX c.1 rw_ rs2 c.2).1,eu,by rw [km (fl e2) c.1 ru rw_]; exact e3,fun i z hi ez=>?_,q _ _ _ (x1.trans x2) rfl⟩
   obtain ⟨dz,ed,rd⟩:=rs2.at ez
   rw [km (fl ed) c.1 rd rw_]
   exact e4 i dz hi ed
 | _=>cases hf
theorem IK {i:Nat} {x:Str} {op:Operator} {ti:gR} {F:D->D->Option D} {pos':Pos} (ho:Xs X op ti) (hF:ww X.K ti F) (hN:X.N.Nodup) (hi:X.N[i]?=some x) (hx:uf X.env.scope x) (he:SE X e f) (hf:X.fn x=true\/X.env.scope.names.lookup x=some .local:=by first | exact .inl rfl | exact .inr rfl | assumption) :
  SS X (.AugAssign (.Name x pos') op e pos) (zP i (e2 F (z7 i) f)):=by
 obtain ⟨t,pt,k⟩:=he.h
 refine ⟨⟨_,F5 hN hi hx pt ho hf,fun {G0 H0 G H τ σ fl E} K hf q=>?_⟩⟩
 obtain ⟨d,hd,hf⟩:=zL hf
 cases hf
 obtain ⟨x,hx,hd⟩:=zL hd
 obtain ⟨y,hy,hd⟩:=zL hd
 obtain ⟨v,ev,rv⟩:=K.fr _ _ (TU hx)
 refine ⟨v,ev,k K hy fun u G1 H1 x1 r1=>hF G1 H1 x y v u d _ x1.gh (rv.mono x1.g) r1 hd fun w G2 H2 x2 r2=>?_⟩
 exact q _ _ _ (((K.go x1).go x2).set (List.getElem?_eq_some_iff.mp hi).1 r2)
theorem Ql {K:PySem.W.Frag}:ww K (QB fun i j=>i+j) (qT fun i j=>i+j):=fun G H x y u v d Q s rx ry hf q=>by
 cases x<;>first | (cases hf; done) | skip
 cases y<;>first | (cases hf; done) | skip
 cases hf
 exact ⟨_,_,rx,ry,q _ _ _ (zU.refl s) rfl⟩
variable {x:Str} {ps:List Str} {j k:Nat} {FF:List D->Option (Bool×D)}
theorem Jw (h:yt X.prog X.w X.K X.mg X.base x ps k (xB X.K FF)) (hr:yg j X.A) (hg:Gl X x) (hk:k<=j:=by decide) (hdb:(x == ("__debug__" : Str))=false:=by decide):SE X (.Call (.Name x p) [] [] pos) (zV FF zC):=by
 obtain ⟨f,fd,hm,kp,b,F⟩:=h
 refine ⟨⟨_,DU F (hr.mono hk) hg hm kp b .nil Qs hdb,fun {G0 H0 G H τ σ d Q} E hf q=>?_⟩⟩
 obtain ⟨ds,hd,hf⟩:=zL hf
 cases hd
 obtain ⟨⟨o,d⟩,hr,hf⟩:=zL hf
 cases hf
 refine ⟨G,[],o,d,E.ext.gh,rfl,hr,?_⟩
 cases o with
 | false=>exact fun v G' H' x2 r=>q v G' H' x2 r
 | true=>
  intro p G' H' x2 hp gp o
  obtain ⟨u,hu,r⟩:=o.frz gp
  exact q _ _ _ (x2.frz hp gp hu) r
end
noncomputable def FR (n N:Nat) (b:FS) (ds:List D):Option (Bool×D):=if ds.length=n then yP N b ds else none
theorem xR {n N:Nat} {b:FS}:∀ ds r,FR n N b ds=some r->ds.length=n/\yP N b ds=some r:=fun ds r h=>by
 unfold FR at h
 split at h
 ·rename_i c
  exact ⟨c,h⟩
 ·cases h
end L3
namespace L3
open PySem PySem.Spec PyProof.Rows L2
section
variable {X:Cx} {e o k v:Expr} {f fo fk fv:FE} {x:Str} {xp p pos apos cpos:Pos}
noncomputable def O7 (K:PySem.W.Frag) (A:Addr):Prop:=∃ o,K.lookup A=some o/\o.cls=.type "tuple" /\ o.dict=none
noncomputable def Zt (ds:List D) (y:D):Option D:=xw (.lst ds) y
noncomputable def pF (i:Int):Nat:=Builtin.Int.intBits i
end
end L3
namespace L3
open PySem PySem.Spec PyProof.Rows L2 PySem.W
theorem Iw:∀ {ns:List Int} {m:Int},m∈ns->pF m<=WData.weightAll (ns.map WData.int)
 | [],_,h=>by cases h
 | n::ns,m,h=>by
  have e:WData.weightAll ((n::ns).map WData.int)=pF n+1+WData.weightAll (ns.map WData.int):=by
   show WData.weightAll (WData.int n::ns.map WData.int)=_
   rw [WData.weightAll]
   rfl
  rw [e]
  rcases List.mem_cons.mp h with rfl | h
  ·omega
  ·have:=Iw h
   omega
theorem Mq {ns:List Int} (h:WData.layableAll [.list (ns.map WData.int)]=true):∀ m∈ns,pF m<=1048576:=fun m hm=>by
 have h1:WData.layable (.list (ns.map WData.int))=true:=List.all_eq_true.mp h _ (List.mem_singleton.mpr rfl)
 unfold WData.layable at h1
 rw [Bool.and_eq_true] at h1
 have h2:WData.weight (.list (ns.map WData.int))<=2 ^ 20:=of_decide_eq_true h1.2
 have h3:=Iw hm
 have h4:WData.weight (.list (ns.map WData.int))=WData.weightAll (ns.map WData.int):=by rw [WData.weight]
 omega
section
variable {P:Program} {w:World} {K:PySem.W.Frag} {mg:Str->Option Value} {base:Heap}
noncomputable def Z3 (K:PySem.W.Frag):Sp:=fun vs H Q _=>∃ (a:Addr) (ns:List Int),vs=[.ref a]/\yU K H a (ns.map V.int)/\ns.length<=63/\(∀ m∈ns,pF m<=1048576)/\∀ H',Q (.bl true) H'
theorem Mn {x:Str} {st:Stmt} {N:List Str} {k:Nat} {b:FS} {f:Addr} {fd:FuncData} (d:qH K "law" "law" st f fd) (S:yc N [x] (y9 st)) (hN:1<=N.length) (hrun:∀ ns:List Int,ns.length<=63->(∀ m∈ns,pF m<=1048576)->∃ o,yP N.length b [.lst (ns.map D.int)]=some (o,.bl true))
  (hb:∀ (cdv:Value) (A:Around) (outer:List Env) (s:Shared) (H:Hp) (E:XK),yg k (A.deeper (envOfC "law" (y9 st) s.heap.objs.size f cdv))->wM (vj vG P w K mg base N "law" (y9 st) f cdv A outer s H E).nox (wU st) b):wv P w K mg base vG (k+1) f fd [x] (Z3 K):=by
 refine d.ok S (fun vs H Q E h=>?_) fun cdv A outer s H vs Q E hr h=>?_
 ·obtain ⟨a,ns,rfl,_⟩:=h
  rfl
 ·obtain ⟨a,ns,rfl,sq,l,hbits,q⟩:=h
  obtain ⟨o,hrun⟩:=hrun ns l hbits
  obtain ⟨t,p,kt⟩:=(hb cdv A outer s H E hr).h
  obtain ⟨fl,hfl,hrun⟩:=zL hrun
  have r:Reps K H [.lst (ns.map D.int)] [.ref a]:=⟨_,_,rfl,⟨a,_,rfl,sq,Reps.ints,by rw [List.length_map]; exact qo (by omega)⟩,rfl⟩
  refine ⟨t,p,kt (Zi (N:=N) (yO.refl H) r hN) hfl ?_⟩
  cases fl with
  | nx τ=>cases hrun
  | rt o' d'=>
   cases hrun
   cases o with
   | false=>
    intro v G H' _ r
    cases (show v=.bl true from r)
    exact q H'
   | true=>exact fun p G H' _ _ _ z=>z.elim
  | _=>cases hrun
end
theorem walkB {l:PySem.W.OpenLaw} {n k:Nat} {q:Program} {loose:List Str} {XP:(Str->Option Value)->Heap->Prop} {YP:World->Heap->Prop} {d:DefRec} {K:Params->PySem.W.Frag} {sp:PySem.W.Frag->Sp} {x:Str}
  (hn:l.most=some n) (hn2:n<=sizeLine) (hdf:d.params.defaults=[]) (hr:yg k callerA) (hY:∀ (w:World) (h:Heap),YP w h->(K w.params).In h)
  (F:∀ (w:World) (mg:Str->Option Value) (fa:Addr) (h:Heap),(K w.params).In h->h.Ns mainGlobals mg->mg d.name=some (.ref fa)->
   ∃ fd:FuncData,(∀ (s:Shared) (u:Value),BindsTo s fd ⟨[u],[]⟩ [(x,u)])/\∀ base:Heap,(K w.params).In base->base.Ns mainGlobals mg->wv l.prog w (K w.params) mg base vG k fa fd [x] (sp (K w.params)))
  (hsp:∀ (K:PySem.W.Frag) (H:Hp) (a:Addr) (ns:List Int),ns.length<=n->(∀ m∈ns,pF m<=1048576)->yU K H a (ns.map V.int)->sp K [.ref a] H (fun v _=>v=.bl true) fun _ _ _=>False) :
  PySem.W.WalkO q loose XP YP l.row.toRowW d [] (fun f vs=>PySem.call f vs):=by
 intro w s0 s1 mg mb Gr Y fa o pm cd doc dV kV ho hd hcd hD hmg hg args vals as hpre hlay hrd hwl hlo
 have e1:dV=.none:=Dflts.none hD hdf
 have e2:kV=.none:=Dflts.noKw hD
 subst e1 e2
 obtain ⟨a,vs,ns,rfl,rfl,hobj,hints,hlen⟩:=Att.script_of hn hpre hwl
 have KX:=hY w _ Y
 obtain ⟨fd,hb,hF⟩:=F w mg fa _ KX Gr.T.g hmg
 have main:=Mk KX Gr.T.g Gr.T.b Gr.T.builtins Gr.T.nolimit hg hobj hints (Nat.le_trans hlen hn2) hr hF hb (fun H _ hS=>hsp _ H a ns hlen (Mq hlay) hS) (fun _ _ _ z=>z)
 refine enter_call (codeAny_mono main fun r s' hq=>?_)
 obtain ⟨rfl,h2,h3,h4⟩:=hq
 refine ⟨.inl ⟨.bool true,.bool true,[],rfl,fun _=>rfl,.bool true,Att.post_true l _,fun _=>?_⟩,h2,h3,h4⟩
 exact ⟨List.Pairwise.nil,fun _ hm=>nomatch hm⟩
end L3
namespace L3
open PySem PySem.Spec PyProof PyProof.Rows L2 Builtin Builtin.Str
section
variable {X:Cx} {e o a b c:Expr} {f fo fa fb fc:FE} {x:Str} {xp p pos apos cpos:Pos}
noncomputable def tH:List D->Option (List Str)
 | []=>some []
 | .str z::r=>(tH r).bind fun ts=>some (z::ts)
 | _=>none
noncomputable def y_:D->D->Option D
 | .str sep,.lst xs=>(tH xs).bind fun ts=>if (ts.map (·.length)).sum+ts.length*sep.length<=yA then some (.str (glued sep ts)) else none
 | _,_=>none
theorem UA {K:PySem.W.Frag} {G:Hp}:∀ {xs:List D} {vs:List V} {ts:List Str},tH xs=some ts->Reps K G xs vs->vs=ts.map V.str
 | [],_,_,h,r=>by
  cases h
  exact r
 | x::xs,_,ts,h,r=>by
  obtain ⟨v,r',rfl,hv,hr⟩:=r
  unfold tH at h
  split at h
  ·rename_i e; cases e
  ·rename_i z r2 e
   cases e
   obtain ⟨ts2,h2,h⟩:=zL h
   cases h
   rw [List.map_cons,(show v=_/\_ from hv).1,UA h2 hr]
  ·cases h
theorem pY (ho:SE X o fo) (he:SB X e f) (hbase:attributeBase o "join" X.env (eval o X.env)=eval o X.env:=by rfl) (hline:(apos.endLine == cpos.line)=true:=by rfl) (hs:yf e=true:=by rfl) :
  SE X (.Call (.Attribute o "join" apos) [e] [] cpos) (e2 y_ fo f):=by
 obtain ⟨to,po,ko⟩:=ho.h
 obtain ⟨te,pe,ke⟩:=(yl he ym hs).h
 refine ⟨⟨_,(pR PySem.F.plainAttrs_str PySem.F.slot_str_join PySem.F.type_str_join BF ⟨po⟩ ⟨pe⟩ hbase hline (by rw [List.all_cons,hs]; rfl) (by show 1<30; decide)).h,fun {G0 H0 G H τ σ d Q} E hf q=>?_⟩⟩
 obtain ⟨x,hx,hf⟩:=zL hf
 obtain ⟨y,hy,hf⟩:=zL hf
 refine ko E hx fun v G1 H1 x1 r1=>?_
 cases x with
 | str sep=>
  obtain ⟨rfl,l1⟩:=r1
  refine ⟨rfl,ke (E.go x1) (ds:=[y]) (by unfold z8; rw [hy]; rfl) fun ws G2 H2 x2 r2=>?_⟩
  obtain ⟨w,rfl,rw_⟩:=tq r2
  cases y with
  | lst xs=>
   obtain ⟨ts,hts,hf⟩:=zL hf
   obtain ⟨aa,vs,rfl,sq,rs,_⟩:=rw_
   have ev:=UA hts rs
   subst ev
   by_cases cc:(ts.map (·.length)).sum+ts.length*sep.length<=yA
   ·rw [if_pos cc] at hf
    cases hf
    have c':(ts.map (·.length)).sum+ts.length*sep.length<=sizeLine:=by rw [sizeLine_eq]; exact cc
    exact ⟨sep,aa,ts,rfl,rfl,sq,c',q _ _ _ (x1.trans x2) ⟨rfl,Nat.le_trans (glued_len sep ts) c'⟩⟩
   ·rw [if_neg cc] at hf
    cases hf
  | _=>cases hf
 | _=>cases hf
noncomputable def wP (i:Int):Bool:=decide (i.natAbs.log2<1920)
noncomputable def vo:List D->Option D
 | [.int i]=>match wP i with
  | true=>some (.str (toString i))
  | false=>none
 | [.str z]=>some (.str z)
 | _=>none
theorem jU:xn X (.type "str") (fun xs H Q=>(∃ i,xs=[.int i]/\i.natAbs.log2<1920/\Q (.str (toString i)) H)\/∃ z,xs=[.str z]/\Q (.str z) H):=Om.or (by
 intro pins s σ H xs us Q I r h
 obtain ⟨z,rfl,q⟩:=h
 obtain ⟨u,rfl,t,rfl⟩:=vd r
 exact PySem.P.str_of_str ⟨.str z,H,I,⟨_,rfl⟩,q⟩)
theorem IR {i:Int} (h:i.natAbs.log2<1920):(Str.ofString (toString i)).length<=sizeLine:=Ec (int_le h)
theorem jo {K:PySem.W.Frag}:q_ K (fun xs H Q=>(∃ i,xs=[.int i]/\i.natAbs.log2<1920/\Q (.str (toString i)) H)\/∃ z,xs=[.str z]/\Q (.str z) H) vo:=fun G H ds vs d Q s r hf q=>by
 unfold vo at hf
 split at hf
 ·rename_i i
  obtain ⟨v,rfl,hv⟩:=tq r
  cases c:wP i with
  | false=>rw [c] at hf; cases hf
  | true=>
   rw [c] at hf
   cases hf
   cases (show v=_ from hv)
   have h:=of_decide_eq_true c
   exact .inl ⟨i,rfl,h,q _ _ _ (zU.refl s) ⟨rfl,IR h⟩⟩
 ·rename_i z
  cases hf
  obtain ⟨v,rfl,hv⟩:=tq r
  obtain ⟨rfl,l⟩:=hv
  exact .inr ⟨z,rfl,q _ _ _ (zU.refl s) ⟨rfl,l⟩⟩
 ·cases hf
noncomputable def pJ:D->Option D
 | .int i=>match wP i with
  | true=>some (.str (Str.ofString (toString i)))
  | false=>none
 | .str z=>some (.str z)
 | _=>none
theorem Jx (he:SE X e f):SE X (.FormattedValue e (-1) none pos) (e1 pJ f):=by
 obtain ⟨t,pt,k⟩:=he.h
 refine ⟨⟨_,(Fc ⟨pt⟩).h,fun {G0 H0 G H τ σ d Q} E hf q=>?_⟩⟩
 obtain ⟨x,hx,hf⟩:=zL hf
 refine k E hx fun v G1 H1 x1 r1=>?_
 cases x with
 | int i=>
  change (match wP i with | true=>some (D.str (Str.ofString (toString i))) | false=>none)=some d at hf
  cases c:wP i with
  | false=>rw [c] at hf; cases hf
  | true=>
   rw [c] at hf
   cases hf
   cases (show v=_ from r1)
   have h:=of_decide_eq_true c
   exact .inl ⟨i,rfl,h,q _ _ _ x1 ⟨rfl,IR h⟩⟩
 | str z=>
  cases hf
  obtain ⟨rfl,l⟩:=r1
  exact .inr ⟨z,rfl,l,q _ _ _ x1 ⟨rfl,l⟩⟩
 | _=>cases hf
noncomputable abbrev FJ:=zz->Str->Option D
noncomputable def uu:FJ:=fun _ acc=>some (.str acc)
noncomputable def xh (f:FE) (r:FJ):FJ:=fun σ acc=>(f σ).bind fun d=>match d with
 | .str y=>if (acc++y).length<=yA then r σ (acc++y) else none
 | _=>none
noncomputable def vn (f:FJ):FE:=fun σ=>f σ Str.empty
structure SJ (X:Cx) (es:List Expr) (f:FJ):Prop where
 h:∃ t,QJ X es t/\∀ {G0 H0 G H:Hp} {τ:zz} {σ:St} {acc:Str} {d:D} {Q:VK},zo X.K X.N.length G0 H0 G H τ σ->acc.length<=sizeLine->f τ acc=some d->(∀ v G' H',zU G H G' H'->zb X.K G' d v->Q v H')->t σ H acc Q
theorem Yn:SJ X [] uu:=⟨⟨_,Fm,fun E l hf q=>by
 cases hf
 exact ⟨l,q _ _ _ (zU.refl E.ext.gh) ⟨rfl,l⟩⟩⟩⟩
theorem tD {es:List Expr} {fj:FJ} (he:SE X e f) (hr:SJ X es fj):SJ X (e::es) (xh f fj):=by
 obtain ⟨te,pe,ke⟩:=he.h
 obtain ⟨tr,pr,kr⟩:=hr.h
 refine ⟨⟨_,Fk ⟨pe⟩ pr,fun {G0 H0 G H τ σ acc d Q} E l hf q=>?_⟩⟩
 obtain ⟨x,hx,hf⟩:=zL hf
 refine ke E hx fun v G1 H1 x1 r1=>?_
 cases x with
 | str y=>
  obtain ⟨rfl,_⟩:=r1
  change (if (acc++y).length<=yA then fj τ (acc++y) else none)=some d at hf
  by_cases cc:(acc++y).length<=yA
  ·rw [if_pos cc] at hf
   have c':(acc++y).length<=sizeLine:=by rw [sizeLine_eq]; exact cc
   exact ⟨y,rfl,c',kr (E.go x1) c' hf fun v G' H' x2 r2=>q v _ _ (x1.trans x2) r2⟩
  ·rw [if_neg cc] at hf
   cases hf
 | _=>cases hf
theorem Yl {e1' e2':Expr} {es:List Expr} {fj:FJ} (h:SJ X (e1'::e2'::es) fj):SE X (.JoinedStr (e1'::e2'::es) pos) (vn fj):=by
 obtain ⟨t,pt,k⟩:=h.h
 exact ⟨⟨_,(Ff pt).h,fun E hf q=>k E (Nat.zero_le _) hf q⟩⟩
noncomputable def kq (f:FE) (fg:FG):FS:=fun τ=>(f τ).bind fun d=>(fg d τ).bind fun τ'=>some (.nx τ')
theorem IJ {tg:Expr} {fg:FG} (he:SE X e f) (hg:SG X tg fg) (hs:swapsWithSole [tg] e pos.line X.env=pure false:=by rfl) (hw:swappedStores [tg] e X.env=pure none:=by rfl) (h1:(assignEach [tg] X.env).map (·.2)=[assign tg X.env]:=by rfl) :
  SS X (.Assign [tg] e pos) (kq f fg):=by
 obtain ⟨te,pe,ke⟩:=he.h
 obtain ⟨tt,pt,kt⟩:=hg.h
 refine ⟨⟨_,J7 pe pt hs hw h1,fun {G0 H0 G H τ σ fl E} K hf q=>?_⟩⟩
 obtain ⟨d,hd,hf⟩:=zL hf
 obtain ⟨τ',ht,hf⟩:=zL hf
 cases hf
 exact ke K hd fun v G' H' x1 r1=>kt (K.go x1) r1 ht fun σ' K'=>q _ _ _ K'
noncomputable def Ya (i:Nat) (k v:FE):FS:=fun σ=>(v σ).bind fun y=>match σ[i]? with
 | some (some (true,.lst ds))=>(k σ).bind fun x=>match x with
  | .int j=>(ixN ds.length j).bind fun n=>some (.nx (σ.set i (some (true,.lst (ds.set n y)))))
  | _=>none
 | _=>none
theorem Reps.set {K:PySem.W.Frag} {G:Hp} {d:D} {v:V} (hv:zb K G d v):∀ {ds:List D} {vs:List V} (n:Nat),Reps K G ds vs->Reps K G (ds.set n d) (vs.set n v)
 | [],_,_,r=>by cases (show _=[] from r); rfl
 | d'::ds,_,0,r=>by
  obtain ⟨u,r',rfl,hu,hr⟩:=r
  exact ⟨v,r',rfl,hv,hr⟩
 | d'::ds,_,n+1,r=>by
  obtain ⟨u,r',rfl,hu,hr⟩:=r
  exact ⟨u,_,rfl,hu,Reps.set hv n hr⟩
theorem Cy {i:Nat} {k v:Expr} {fk fv:FE} {pos':Pos} (ho:QE X (.Name x xp) (tw i)) (hk:SE X k fk) (hv:SE X v fv) (hp:kU k=true:=by rfl) (hs:swapsWithSole [.Subscript (.Name x xp) k pos'] v pos.line X.env=pure false:=by rfl)
  (hw:swappedStores [.Subscript (.Name x xp) k pos'] v X.env=pure none:=by rfl) (h1:(assignEach [.Subscript (.Name x xp) k pos'] X.env).map (·.2)=[assign (.Subscript (.Name x xp) k pos') X.env]:=by rfl):SS X (.Assign [.Subscript (.Name x xp) k pos'] v pos) (Ya i fk fv):=by
 obtain ⟨tk,pk,kk⟩:=hk.h
 obtain ⟨tv,pv,kv⟩:=hv.h
 refine ⟨⟨_,J7 pv (Fi ho ⟨pk⟩ Cc hp).h hs hw h1,fun {G0 H0 G H τ σ fl E} K hf q=>?_⟩⟩
 obtain ⟨y,hy,hf⟩:=zL hf
 refine kv K hy fun w G1 H1 x1 r1=>?_
 split at hf
 ·rename_i ds hd
  obtain ⟨xk,hx,hf⟩:=zL hf
  cases xk with
  | int j=>
   obtain ⟨n,hn,hf⟩:=zL hf
   cases hf
   have K1:=K.go x1
   obtain ⟨aa,ea,g,z,vs,ev,rs,l⟩:=K1.ow _ _ hd
   refine ⟨_,ea,kk K1 hx fun u G2 H2 x2 r2=>?_⟩
   cases (show u=_ from r2)
   refine ⟨aa,vs,j,n,rfl,rfl,x2.h _ _ ev,by rw [rs.length]; exact hn,?_⟩
   exact q _ _ _ ((K1.go x2).mut hd ea ⟨_,xH,Reps.set (r1.mono x2.g) n (rs.mono x2.g),by rw [List.length_set]; exact l⟩)
  | _=>cases hf
 ·cases hf
theorem IM {op op':CmpOp} {r r':R2} {F F':D->D->Option D} (ho:yS X (compareOp op) r) (hF:ug X.K r F) (ho':yS X (compareOp op') r') (hF':ug X.K r' F') (ha:SB X a fa) (hb:SB X b fb) (hc:SB X c fc) (hm:lastMarks [op,op'] [b,c]=false:=by with_unfolding_all rfl) :
  ST X (.Compare a [op,op'] [b,c] pos) (tE (vm F F' fa fb fc)):=by
 obtain ⟨ta,pa,ka⟩:=ha.h
 obtain ⟨tb,pb,kb⟩:=hb.h
 obtain ⟨tc,pc,kc⟩:=hc.h
 refine ⟨⟨_,FK ho ho' pa pb pc hm,fun {G0 H0 G H τ σ d Q} E hf q=>?_⟩⟩
 obtain ⟨w0,hw0,hf0⟩:=zL hf
 obtain ⟨x,hx,hw0⟩:=zL hw0
 obtain ⟨y,hy,hw0⟩:=zL hw0
 obtain ⟨k,hk,hw0⟩:=zL hw0
 refine ka E hx fun v G1 H1 x1 r1=>?_
 refine kb (E.go x1) hy fun u G2 H2 x2 r2=>?_
 obtain ⟨k,rfl,z⟩:=hF H2 x y v u _ _ (r1.mono x2.h) r2 hk
 refine z ⟨k,rfl,?_⟩
 cases k with
 | false=>
  cases hw0
  cases hf0
  exact ur ⟨_,rfl,q _ _ (x1.trans x2)⟩
 | true=>
  obtain ⟨w,hw,hw0⟩:=zL (show (fc _).bind _=_ from hw0)
  refine ut (kc ((E.go x1).go x2) hw fun u3 G3 H3 x3 r3=>?_)
  obtain ⟨k,rfl,z⟩:=hF' H3 y w u u3 _ _ (r2.mono x3.h) r3 hw0
  cases hf0
  exact z ⟨_,rfl,q _ _ (x1.trans (x2.trans x3))⟩
end
end L3
namespace L2
open PySem PySem.Spec PyProof PyProof.Rows
noncomputable def pM (a:Int):List Int->List Int
 | []=>[a]
 | b::r=>if a<=b then a::b::r else b::pM a r
noncomputable def isort:List Int->List Int
 | []=>[]
 | a::r=>pM a (isort r)
theorem Wx (a:Int):∀ l:List Int,(pM a l).Perm (a::l)
 | []=>List.Perm.refl _
 | b::r=>by
  unfold pM
  split
  ·exact List.Perm.refl _
  ·exact ((Wx a r).cons b).trans (List.Perm.swap a b r)
theorem isort_perm:∀ l:List Int,(isort l).Perm l
 | []=>List.Perm.refl _
 | a::r=>(Wx a _).trans ((isort_perm r).cons a)
theorem Q4 (a:Int):∀ {l:List Int},l.Pairwise (·<=·)->(pM a l).Pairwise (·<=·)
 | [],_=>by simp [pM]
 | b::r,h=>by
  obtain ⟨h1,h2⟩:=List.pairwise_cons.mp h
  unfold pM
  split
  ·rename_i hab
   exact List.pairwise_cons.mpr ⟨fun x hx=>by
    rcases List.mem_cons.mp hx with rfl | hx
    ·exact hab
    ·exact Int.le_trans hab (h1 x hx),h⟩
  ·rename_i hab
   refine List.pairwise_cons.mpr ⟨fun x hx=>?_,Q4 a h2⟩
   rcases List.mem_cons.mp ((Wx a r).mem_iff.mp hx) with rfl | hx
   ·omega
   ·exact h1 x hx
theorem QD:∀ l:List Int,(isort l).Pairwise (·<=·)
 | []=>List.Pairwise.nil
 | a::r=>Q4 a (QD r)
theorem IG:∀ {a b:List Int},a.Perm b->a.Pairwise (·<=·)->b.Pairwise (·<=·)->a=b
 | [],b,p,_,_=>(List.nil_perm.mp p).symm
 | x::a,[],p,_,_=>by cases p.length_eq
 | x::a,y::b,p,ha,hb=>by
  obtain ⟨h1,h2⟩:=List.pairwise_cons.mp ha
  obtain ⟨g1,g2⟩:=List.pairwise_cons.mp hb
  have e:x=y:=by
   have hx:x∈y::b:=p.mem_iff.mp (List.mem_cons_self ..)
   have hy:y∈x::a:=p.mem_iff.mpr (List.mem_cons_self ..)
   rcases List.mem_cons.mp hx with rfl | hx
   ·rfl
   ·rcases List.mem_cons.mp hy with e | hy
    ·exact e.symm
    ·exact Int.le_antisymm (h1 y hy) (g1 x hx)
  subst e
  rw [IG (List.perm_cons x |>.mp p) h2 g2]
theorem Iv:∀ {ns:List Int} {its:List Value},zj (ns.map V.int) its->IntsAre its ns
 | [],_,.nil=>.nil
 | n::ns,_,.cons r rr=>by
  obtain ⟨t,rfl⟩:=r
  exact .cons _ _ (Iv rr)
theorem Q6:∀ {ns:List Int} {its:List Value},IntsAre its ns->zj (ns.map V.int) its
 | [],_,.nil=>.nil
 | _::_,_,.cons _ _ r=>.cons ⟨_,rfl⟩ (Q6 r)
section
variable {X:Cx}
theorem Ol:xn X (.builtin "sorted") (fun xs H Q=>∃ p ns,xs=[.ref p]/\yU X.K H p (ns.map V.int)/\ns.length<64/\∀ l,H l=none->Q (.ref l) (zu H l (.lst ((isort ns).map V.int)))):=by
 intro pins s σ H xs us Q I r h
 obtain ⟨p,ns,rfl,hq,h64,q⟩:=h
 obtain ⟨u,rfl,rx⟩:=vd r
 cases rx
 obtain ⟨its,r',pl,hz⟩:=I.list hq
 have hlen:=r'.length
 rw [List.length_map] at hlen
 refine sorted_ints pl.isList (Iv r') (by omega) fun out ns' a1 a2 a3=>?_
 have e:ns'=isort ns:=IG (a2.trans (isort_perm ns).symm) a3 (QD ns)
 subst e
 obtain ⟨c,hc⟩:=sortedAll_at s.heap its out
 have hl2:(isort ns).length=ns.length:=(isort_perm ns).length_eq
 refine ⟨.ref (s.heap.objs.size+1),_,I.laid (t':=s.toks) (h':=sortedAll s.heap its out) (fun _ _=>sortedAll_old) (Nat.le_succ _) (show xI X.prog X.w _ _ _ (.lst ((isort ns).map V.int)) from ⟨?_,out.toList,c,Q6 a1,?_⟩),rfl,q _ (I.hok.fresh (Nat.le_succ _))⟩
 ·rw [List.length_map,hl2]
  show _<=sizeLine
  rw [List.length_map] at hz
  exact hz
 ·rw [Array.toArray_toList]
  exact hc
end
end L2
namespace L3
open PySem PySem.Spec PyProof.Rows L2
theorem Od:bootBuiltins "sorted" = some (.builtin "sorted"):=by decide +kernel
noncomputable def intsOf:List D->Option (List Int)
 | []=>some []
 | .int i::r=>(intsOf r).bind fun ns=>some (i::ns)
 | _=>none
theorem Q8:∀ ns:List Int,intsOf (ns.map D.int)=some ns
 | []=>rfl
 | n::ns=>by
  show (intsOf (ns.map D.int)).bind _=_
  rw [Q8 ns]
  rfl
theorem Q7:∀ {ds:List D} {ns:List Int},intsOf ds=some ns->ds=ns.map D.int
 | [],_,h=>by cases h; rfl
 | d::ds,ns,h=>by
  unfold intsOf at h
  split at h
  ·rename_i e; cases e
  ·rename_i i r e
   cases e
   obtain ⟨ns',h1,h⟩:=zL h
   cases h
   rw [Q7 h1]
   rfl
  ·cases h
theorem Jf {K:PySem.W.Frag} {G:Hp}:∀ {ns:List Int} {vs:List V},Reps K G (ns.map D.int) vs->vs=ns.map V.int
 | [],_,r=>r
 | n::ns,_,r=>by
  obtain ⟨v,r',rfl,hv,hr⟩:=r
  rw [Jf hr,show v=V.int n from hv]
  rfl
theorem Q5 {K:PySem.W.Frag} {G:Hp}:∀ ns:List Int,Reps K G (ns.map D.int) (ns.map V.int)
 | []=>rfl
 | n::ns=>⟨.int n,_,rfl,rfl,Q5 ns⟩
noncomputable def We:List D->Option D
 | [.lst xs]=>(intsOf xs).bind fun ns=>if ns.length<64 then some (.lst ((isort ns).map D.int)) else none
 | _=>none
theorem Cg {X:Cx} {e:Expr} {fs:FA} {p pos:Pos} (hg:Gl X "sorted") (hm:X.mg "sorted" = none) (ha:SA X [e] fs) (hs:yf e=true:=by rfl):SF X (.Call (.Name "sorted" p) [e] [] pos) (eL We fs):=by
 obtain ⟨t,pt,k⟩:=ha.h
 refine ⟨⟨_,(YT Ol hg hm Od ⟨pt⟩ (by decide) (by decide) (by rw [List.all_cons,hs]; rfl)).h,fun {G0 H0 G H τ σ d Q} E hf q=>?_⟩⟩
 obtain ⟨ds,hd,hf⟩:=zL hf
 refine k E hd fun vs G1 H1 x1 r1=>?_
 match ds,hf with
 | [.lst xs],hf=>
  obtain ⟨ns,hn,hf⟩:=zL (show (intsOf xs).bind _=some d from hf)
  split at hf
  ·rename_i h64
   cases hf
   obtain ⟨v,rfl,a,us,rfl,sq,rs,l⟩:=tq r1
   rw [Q7 hn] at rs l
   rw [Jf rs] at sq
   refine ⟨a,ns,rfl,wR x1.gh sq,h64,fun p hp=>q p _ _ (x1.trans (zU.layO x1.gh hp)) (x1.h.free hp) (x1.gh.free hp) ⟨_,xH,Q5 _,?_⟩⟩
   rw [List.length_map,(isort_perm ns).length_eq]
   rw [List.length_map] at l
   exact l
  ·cases hf
end L3
namespace L3
open PySem PySem.Spec PyProof.Rows L2
noncomputable def gj:D->D->Option D
 | .lst x,.lst y=>if x.length+y.length<=yA then some (.lst (x++y)) else none
 | _,_=>none
theorem LS {x y d:D} (h:gj x y=some d):∃ xs ys,x=.lst xs/\y=.lst ys/\xs.length+ys.length<=yA/\d=.lst (xs++ys):=by
 unfold gj at h
 split at h
 ·rename_i xs ys
  by_cases c:xs.length+ys.length<=yA
  ·rw [if_pos c] at h
   cases h
   exact ⟨_,_,rfl,rfl,c,rfl⟩
  ·rw [if_neg c] at h
   cases h
 ·cases h
section
variable {X:Cx} {a b:Expr} {fa fb:FE} {x:Str} {xp pos:Pos}
theorem Ce {i:Nat} (ho:QE X (.Name x xp) (tw i)) (hb:SE X b fb):SF X (.BinOp (.Name x xp) .Add b pos) (e2 gj (w_ i) fb):=by
 obtain ⟨tb,pb,kb⟩:=hb.h
 refine ⟨⟨_,Qx Qo ho.h pb,fun {G0 H0 G H τ σ d Q} E hf q=>?_⟩⟩
 obtain ⟨x,hx,hf⟩:=zL hf
 obtain ⟨y,hy,hf⟩:=zL hf
 obtain ⟨xs,ys,rfl,rfl,c,rfl⟩:=LS hf
 ·have c':(xs++ys).length<=sizeLine:=by rw [sizeLine_eq,List.length_append]; exact c
  obtain ⟨o,ho⟩:=WX hx
  cases o with
  | false=>
   obtain ⟨v,ev,rv⟩:=E.fr _ _ ho
   refine ⟨v,ev,kb E hy fun u G2 H2 x2 r2=>?_⟩
   obtain ⟨aa,vs,rfl,sa,ra,_⟩:=rv
   obtain ⟨bb,us,rfl,sb,rb,_⟩:=r2
   refine ⟨aa,bb,vs,us,rfl,rfl,wR (x2.g.trans x2.gh) sa,wR x2.gh sb,by rw [ra.length,rb.length,sizeLine_eq]; exact c,fun p hp=>?_⟩
   exact q p _ _ (x2.trans (zU.layO x2.gh hp)) (x2.h.free hp) (x2.gh.free hp) ⟨_,xH,(ra.mono x2.g).append rb,c'⟩
  | true=>
   obtain ⟨p,ev,_,_,vs,e1,ra,_⟩:=E.ow _ _ ho
   refine ⟨_,ev,kb E hy fun u G2 H2 x2 r2=>?_⟩
   obtain ⟨bb,us,rfl,sb,rb,_⟩:=r2
   refine ⟨p,bb,vs,us,rfl,rfl,yU.of (x2.h _ _ e1),wR x2.gh sb,by rw [ra.length,rb.length,sizeLine_eq]; exact c,fun p hp=>?_⟩
   exact q p _ _ (x2.trans (zU.layO x2.gh hp)) (x2.h.free hp) (x2.gh.free hp) ⟨_,xH,(ra.mono x2.g).append rb,c'⟩
end
end L3
namespace L3
open PySem PySem.Spec PyProof.Rows L2
noncomputable def Jp (i:Nat) (e:FE):FS:=fun σ=>match σ[i]? with
 | some (some (true,.lst xs))=>(e σ).bind fun y=>match y with
  | .lst ys=>if xs.length+ys.length<=yA then some (.nx (σ.set i (some (true,.lst (xs++ys))))) else none
  | _=>none
 | _=>none
end L3
namespace L2
open PySem PySem.Spec PyProof PyProof.Rows
section
variable {prog:Program} {w:World} {K:Type} [DecidableEq K] {knd:KeyKind prog w K} {A:Around} {E:Value->Shared->Prop}
theorem put_at {h:Heap} {a:Addr} {o:Obj} {es es2:Array (Int×Value)} {ep:Nat} {t t2:SetTable} (ho:h.get? a=some o) (hd:o.data=.set es ep t) :
  (h.update a (Obj.putSet es2 t2)).get? a=some { o with data:=.set es2 (ep+1) t2 }:=by
 have e:=Heap.get?_update_self (Obj.putSet es2 t2) ho (by rw [putSet_of es2 t2 hd]; rfl)
 rw [putSet_of es2 t2 hd] at e
 exact e
end
end L2
namespace L3
open PySem PySem.Spec PyProof.Rows L2
section
variable {α:Type} {P:List α->Prop}
theorem Ip (h:P []):∀ us:List α,us.length=0->P us
 | [],_=>h
theorem UP {n:Nat} (h:∀ a (r:List α),r.length=n->P (a::r)):∀ us:List α,us.length=n+1->P us
 | a::r,e=>h a r (Nat.succ.inj e)
theorem Iq (h:∀ a,P [a]):∀ us:List α,us.length=1->P us:=UP fun a=>Ip (P:=fun r=>P (a::r)) (h a)
theorem Ir (h:∀ a b,P [a,b]):∀ us:List α,us.length=2->P us:=UP fun a=>Iq (P:=fun r=>P (a::r)) (h a)
theorem Er (h:∀ a b c,P [a,b,c]):∀ us:List α,us.length=3->P us:=UP fun a=>Ir (P:=fun r=>P (a::r)) (h a)
end
noncomputable abbrev Ti (x:Str) (st:Stmt) (oc:Value) (od:Option Addr) (sl:Array (Option Value)) (kV dc pm:Value) (an:Option Addr) (cd ct:Value):Option Obj:=some ⟨oc,od,.func (PySem.W.fnOf x x (qS st) (wU st) (y9 st) .none kV dc pm an cd ct),sl⟩
end L3
namespace L3
open PySem PySem.Spec PyProof PyProof.Rows L2
noncomputable def Mc:y0->D
 | .inl i=>.int i
 | .inr x=>.str x
noncomputable def iG (ks:List y0):FA:=fun _=>some (ks.map Mc)
end L3
namespace L3
open PySem PySem.Spec PyProof PyProof.Rows L2
noncomputable abbrev FX:=List D->Option (Sum (Bool×D) Str)
noncomputable abbrev yr:=zz->Option (Sum Fl Str)
noncomputable def qM (mg:Str->Option Value) (G0 H0:Hp) (E:XK) (x:Str):Prop:=∃ C,mg x=some (.ref C)/\∀ G' H',zU G0 H0 G' H'->E (.ref C) none H'
noncomputable def Xv (K:PySem.W.Frag) (n:Nat) (mg:Str->Option Value) (G0 H0:Hp) (En:wq) (E:XK):Sum Fl Str->Prop
 | .inl fl=>xf K n G0 H0 En fl
 | .inr x=>qM mg G0 H0 E x
structure vL (X:Cx) (E:XK) (sts:List Stmt) (f:yr):Prop where
 h:∃ t,wL X sts t/\∀ {G0 H0 G H:Hp} {τ:zz} {σ:St} {r:Sum Fl Str} {En:wq},zo X.K X.N.length G0 H0 G H τ σ->f τ=some r->Xv X.K X.N.length X.mg G0 H0 En E r->t En σ H
noncomputable def qB (g:FS):yr:=fun τ=>(g τ).bind fun fl=>some (.inl fl)
noncomputable def uX (g:FS) (f:yr):yr:=fun τ=>(g τ).bind fun fl=>match fl with
 | .nx τ'=>f τ'
 | fl=>some (.inl fl)
noncomputable def vF (c:FT) (a:FA) (x:Str) (f:yr):yr:=fun τ=>(c τ).bind fun b=>match b with
 | true=>(a τ).bind fun ds=>if ds.length<=1000 then some (.inr x) else none
 | false=>f τ
section
variable {X:Cx} {E:XK} {x:Str} {C:Addr} {st:Stmt} {sts yG:List Stmt} {g:FS} {f:yr} {ft:FT} {fa:FA} {c e:Expr} {es:List Expr} {np cpos pos ipos:Pos}
theorem UF (h:wM X sts g):vL X E sts (qB g):=by
 obtain ⟨t,p,k⟩:=h.h
 refine ⟨⟨t,p,fun {G0 H0 G H τ σ r En} K hf q=>?_⟩⟩
 obtain ⟨fl,h1,hf⟩:=zL hf
 cases hf
 exact k K h1 q
theorem UE (h1:SS X st g) (h2:vL X E yG f):vL X E (st::yG) (uX g f):=by
 obtain ⟨t,p,k⟩:=h1.h
 obtain ⟨t',p',k'⟩:=h2.h
 refine ⟨⟨_,YS p p',fun {G0 H0 G H τ σ r En} K hf q=>?_⟩⟩
 obtain ⟨fl,h1,hf⟩:=zL hf
 refine k K h1 ?_
 cases fl with
 | nx τ'=>exact fun σ' G' H' K'=>k' K' hf q
 | rt o d=>cases hf; exact xf.with q (fun _ z=>nomatch z) (fun _ z=>nomatch z) (fun _ z=>nomatch z) rfl
 | bk τ'=>cases hf; exact q
 | ct τ'=>cases hf; exact q
theorem UG (hc:ST X c ft) (cx:xO X.K X.mg x C) (hr:ZI X E) (hh:X.A.handled=none) (hg:Gl X x) (ha:SA X (e::es) fa) (hrest:vL X E yG f) (hdb:(x == ("__debug__" : Str))=false:=by decide) (he:(e::es).all yf=true:=by rfl) :
  vL X E (.If c [.Raise (some (.Call (.Name x np) (e::es) [] cpos)) none pos] [] ipos::yG) (vF ft fa x f):=by
 obtain ⟨tc,pc,kc⟩:=hc.h
 obtain ⟨ta,pa,ka⟩:=ha.h
 obtain ⟨tr,pr,kr⟩:=hrest.h
 refine ⟨⟨_,YS (VJ pc (J9 (F8 cx hr hh hg pa hdb he)) VM) pr,fun {G0 H0 G H τ σ r En} K hf q=>?_⟩⟩
 obtain ⟨b,hb,hf⟩:=zL hf
 refine kc K hb fun G1 H1 x1=>?_
 cases b with
 | true=>
  obtain ⟨ds,hd,hf⟩:=zL hf
  by_cases z:ds.length<=1000
  ·rw [if_pos z] at hf
   cases hf
   refine ut (ka (K.go x1) hd fun vs G2 H2 x2 r2=>⟨?_,?_⟩)
   ·rw [r2.length,sizeLine_eq]
    exact Nat.le_trans z (by decide)
   ·obtain ⟨C',hm,q⟩:=q
    rw [cx.at_] at hm
    cases hm
    exact q G2 H2 (((K.ext).trans x1).trans x2)
  ·rw [if_neg z] at hf
   cases hf
 | false=>exact ur (kr (K.go x1) hf q)
end
noncomputable def u0 (K:PySem.W.Frag) (mg:Str->Option Value) (F:FX):Sp:=fun vs H Q E=>∃ G ds r,yO G H/\Reps K G ds vs/\F ds=some r/\
 match r with
 | .inl (false,d)=>∀ v G' H',zU G H G' H'->zb K G' d v->Q v H'
 | .inl (true,d)=>∀ p G' H',zU G H G' H'->H p=none->G' p=none->wK K G' H' d p->Q (.ref p) H'
 | .inr x=>qM mg G H E x
noncomputable def wX (n:Nat) (b:yr) (ds:List D):Option (Sum (Bool×D) Str):=(b (ds.map (fun d=>some (false,d))++List.replicate (n - ds.length) none)).bind fun r=>match r with
 | .inl (.rt o d)=>some (.inl (o,d))
 | .inl (.nx _)=>some (.inl (false,.non))
 | .inl _=>none
 | .inr x=>some (.inr x)
noncomputable def g8 (n N:Nat) (b:yr):FX:=fun ds=>if ds.length=n then wX N b ds else none
theorem XI {n N:Nat} {b:yr}:∀ ds r,g8 n N b ds=some r->ds.length=n/\wX N b ds=some r:=fun ds r h=>by
 unfold g8 at h
 split at h
 ·rename_i c
  exact ⟨c,h⟩
 ·cases h
section
variable {P:Program} {w:World} {K:PySem.W.Frag} {mg:Str->Option Value} {base:Heap}
theorem Def.okXS {x:Str} {st:Stmt} {N ps:List Str} {k:Nat} {F:FX} {b:yr} (d:Def K mg x st ps) (S:yc N ps (y9 st)) (hN:ps.length<=N.length) (hF:∀ ds r,F ds=some r->ds.length=ps.length/\wX N.length b ds=some r)
  (hb:∀ (f:Addr) (cdv:Value) (A:Around) (outer:List Env) (s:Shared) (H:Hp) (E:XK),yg k (A.deeper (envOfC x (y9 st) s.heap.objs.size f cdv))->vL (uH P w K mg base N x (y9 st) f cdv A outer s H E) E (wU st) b):uF P w K mg base x ps (k+1) (u0 K mg F):=by
 refine d.okX S (fun vs H Q E h=>?_) fun f cdv A outer s H vs Q E hr h=>?_
 ·obtain ⟨G,ds,r,_,rs,e,_⟩:=h
  rw [rs.length,(hF _ _ e).1]
 ·obtain ⟨G,ds,r,s',rs,e,q⟩:=h
  obtain ⟨l,hrun⟩:=hF _ _ e
  obtain ⟨t,p,kt⟩:=(hb f cdv A outer s H E hr).h
  obtain ⟨fl,hfl,hrun⟩:=zL hrun
  refine ⟨t,⟨p⟩,kt (Zi (N:=N) s' rs (by omega)) hfl ?_⟩
  cases fl with
  | inr y=>
   cases hrun
   exact q
  | inl fl=>
   cases fl with
   | nx τ=>
    cases hrun
    exact fun σ G' H' z=>q .non G' H' z.ext rfl
   | rt o' d'=>
    cases hrun
    cases o' with
    | false=>exact q
    | true=>exact q
   | bk τ=>cases hrun
   | ct τ=>cases hrun
end
end L3
namespace L2
open PySem PySem.Spec PyProof PyProof.Rows
section
variable {prog:Program} {w:World} {A:Around} {E:Value->Shared->Prop} {s:Shared}
open HT in
theorem Lb {t sl:Addr} {items:Array Value} {vl vu:Value} {lo hi:Option Int} {Q:Value->Shared->Prop} (ht:IsTup s.heap t items) (hs:s.heap.IsSliceOf sl vl vu .none) (pl:IsPart vl lo) (pu:IsPart vu hi)
  (hw:sIx items.size 0 lo=0/\sIx items.size items.size hi=items.size) (h:Q (.ref t) s):wpAny (model prog w) A (getItem (.ref t) (.ref sl)) Q E s:=by
 obtain ⟨os,hos,hcs,hds⟩:=id hs
 have hTs:s.TypeIs (.ref sl) "slice" := ⟨os,hos,hcs⟩
 unfold getItem
 try with_reducible refine wpAny_holding ?_
 first | refine wpAny_bind (wpAny_pure ?_) | skip
 refine wpAny_bind (wpAny_sequenceKey ht.typeIs (by decide) ?_)
 refine wpAny_bind (wpAny_callSpecial?_slot (name:=Str.ofString "__getitem__") ht.typeIs PyProof.Rows.slot_tuple_getitem
  (wpAny_call_entry PyProof.Rows.slot_tuple_getitem ht.typeIs entry_tuple_getitem ?_ (args_tuple_getitem _ _)))
 show wpAny _ _ (Builtin.Tuple.tupleItemsOf (.ref t) >>= _) _ _ s
 refine wpAny_bind (tupleItemsOf_ ht ?_)
 refine wpAny_bind (wpAny_typeOf hTs ?_)
 rw [if_pos (by decide)]
 refine wpAny_bind (IE hs pl pu ?_)
 have hyes:(((sIx items.size 0 lo:Nat):Int) == 0&&(1:Int) == 1&&(sIx items.size items.size hi - sIx items.size 0 lo) == items.size)=true:=by
  rw [hw.1,hw.2,Nat.sub_zero]
  simp
 show wpAny _ _ (if (((sIx items.size 0 lo:Nat):Int) == 0&&(1:Int) == 1&&(sIx items.size items.size hi - sIx items.size 0 lo) == items.size)=true then _ else _) _ _ s
 rw [if_pos hyes]
 have hT:s.TypeIs (.ref t) "tuple" := ht.typeIs
 unfold Builtin.Tuple.tupleIsExact
 exact wpAny_bind (wpAny_bind (wpAny_typeOf hT (wpAny_pure (wpAny_bind (wpAny_rule (wpAny_pure ⟨_,rfl,wpAny_pure h⟩))))))
end
noncomputable def Fw (K:PySem.W.Frag):V->Option Int->Option Int->Hp->VK->Prop:=fun x lo hi H Q=>∃ a xs,x=.ref a/\yx K H a xs/\
 (HT.sIx xs.length 0 lo=0/\HT.sIx xs.length xs.length hi=xs.length)/\Q (.ref a) H
theorem Cp {X:Cx}:uh X (Fw X.K):=by
 intro pins s σ H x v vl vu lo hi sl Q I rx hs pl pu h
 obtain ⟨a,xs,rfl,hx,hw,q⟩:=h
 cases rx
 obtain ⟨its,r,ht,hz⟩:=I.tuple hx
 have hlen:its.toArray.size=xs.length:=by rw [List.size_toArray]; exact r.length.symm
 refine ⟨"tuple",_,PyProof.Rows.slot_tuple_getitem.lookup,ht.typeIs,?_⟩
 exact Lb ht hs pl pu (by rw [hlen]; exact hw) ⟨.ref a,H,I,rfl,q⟩
end L2
namespace L3
open PySem PySem.Spec PyProof PyProof.Rows L2
noncomputable def pK (d:D) (lo hi:Option Int):Option D:=match d with
 | .tup xs=>some (.tup (wT xs lo hi))
 | d=>uL d lo hi
noncomputable def uo (a:FE) (lo hi:FO):FE:=fun σ=>(a σ).bind fun d=>(lo σ).bind fun l=>(hi σ).bind fun h=>pK d l h
theorem O_ {α:Type} {xs:List α} {lo hi:Option Int} (c:HT.sIx xs.length 0 lo=0/\HT.sIx xs.length xs.length hi=xs.length):wT xs lo hi=xs:=by
 unfold wT
 rw [c.1,c.2,Nat.sub_zero,List.drop_zero,List.take_length]
theorem CZ {X:Cx} {a:Expr} {fa:FE} {pos:Pos} {lo hi:Option Expr} {fl fh:FO} {p2:Pos} (ha:SE X a fa) (hl:SO X lo fl) (hh:SO X hi fh):SE X (.Subscript a (.Slice lo hi none p2) pos) (uo fa fl fh):=by
 obtain ⟨ta,pa,ka⟩:=ha.h
 obtain ⟨tl,pl,kl⟩:=hl.h
 obtain ⟨th,ph,kh⟩:=hh.h
 refine ⟨⟨_,Qy (IB.or Cp) pa pl ph,fun {G0 H0 G H τ σ d Q} E hf q=>?_⟩⟩
 obtain ⟨x,hx,hf⟩:=zL hf
 obtain ⟨l,hl,hf⟩:=zL hf
 obtain ⟨h,hh,hf⟩:=zL hf
 refine ka E hx fun v G1 H1 x1 r1=>kl (E.go x1) hl fun G2 H2 x2=>kh ((E.go x1).go x2) hh fun G3 H3 x3=>?_
 have xx:=x1.trans (x2.trans x3)
 have r3:=r1.mono (x2.g.trans x3.g)
 cases x with
 | lst xs=>
  cases hf
  obtain ⟨a,vs,rfl,sq,rs,ll⟩:=r3
  refine .inl (.inl ⟨a,vs,rfl,wR x3.gh sq,fun p hp=>q _ _ _ (xx.trans (zU.lay x3.gh hp)) ⟨p,_,rfl,yU.of xH,(rs.cut l h).mono (wJ (x3.gh.free hp) _),Nat.le_trans (Zc ..) ll⟩⟩)
 | tup xs=>
  cases hf
  obtain ⟨a,vs,rfl,sq,rs,ll⟩:=r3
  by_cases c:HT.sIx xs.length 0 l=0/\HT.sIx xs.length xs.length h=xs.length
  ·refine .inr ⟨a,vs,rfl,u7 x3.gh sq,by rw [rs.length]; exact c,?_⟩
   rw [O_ c] at q
   exact q _ _ _ xx ⟨a,vs,rfl,sq,rs,ll⟩
  ·refine .inl (.inr (.inl ⟨a,vs,rfl,u7 x3.gh sq,by rw [rs.length]; exact c,fun p hp=>?_⟩))
   exact q _ _ _ (xx.trans (zU.lay x3.gh hp)) ⟨p,_,rfl,yx.of xH,(rs.cut l h).mono (wJ (x3.gh.free hp) _),Nat.le_trans (Zc ..) ll⟩
 | str z=>
  cases hf
  obtain ⟨rfl,ll⟩:=r3
  exact .inl (.inr (.inr ⟨z,rfl,ll,q _ _ _ xx ⟨rfl,Nat.le_trans (cut_len ..) ll⟩⟩))
 | _=>cases hf
end L3
namespace L3
open PySem PySem.Spec PyProof PyProof.Rows L2
noncomputable abbrev g7:=zz->Option (Sum (Bool×D) Str)
structure SX (X:Cx) (e:Expr) (f:g7):Prop where
 h:∃ t,QX X e t/\∀ {G0 H0 G H:Hp} {τ:zz} {σ:St} {r:Sum (Bool×D) Str} {Q:VK} {E:XK},zo X.K X.N.length G0 H0 G H τ σ->f τ=some r->(match r with
  | .inl (false,d)=>∀ v G' H',zU G H G' H'->zb X.K G' d v->Q v H'
  | .inl (true,d)=>∀ p G' H',zU G H G' H'->H p=none->G' p=none->wK X.K G' H' d p->Q (.ref p) H'
  | .inr x=>qM X.mg G H E x)->t σ H Q E
noncomputable def UT (F:FX) (fa:FA):g7:=fun τ=>(fa τ).bind fun ds=>F ds
section
variable {X:Cx} {j k kk i:Nat} {f x n z g:Str} {C D':Addr} {ps:List Str} {F:FX} {FF:List D->Option (Bool×D)} {fa:FA} {fc:FE} {fx:g7} {gs:FS} {c e b:Expr} {es:List Expr} {b₀:Stmt} {suite sts:List Stmt} {fp cp np p p1 pos rp hpos tpos:Pos}
theorem E5 (hnx:X.nox=X) (hF:uF X.prog X.w X.K X.mg X.base f ps k (u0 X.K X.mg F)) (hr:yg j X.A) (hg:Gl X f) (ha:SA X (e::es) fa) (hk:k<=j:=by decide) (hdb:(f == ("__debug__" : Str))=false:=by decide) (he:(e::es).all yf=true:=by rfl) :
  SX X (.Call (.Name f fp) (e::es) [] cp) (UT F fa):=by
 obtain ⟨ta,pa,ka⟩:=ha.h
 have pa':QA X.nox (e::es) ta:=by rw [hnx]; exact ⟨pa⟩
 refine ⟨⟨_,Fn hF hr hg pa' hk hdb he,fun {G0 H0 G H τ σ r Q E} K hf q=>?_⟩⟩
 obtain ⟨ds,hd,hf⟩:=zL hf
 refine ka K hd fun vs G1 H1 x1 r1=>⟨G1,ds,r,x1.gh,r1,hf,?_⟩
 cases r with
 | inl od=>
  obtain ⟨o,d⟩:=od
  cases o with
  | false=>exact fun v G' H' x2 rv=>q v G' H' (x1.trans x2) rv
  | true=>exact fun p G' H' x2 hp gp o=>q p G' H' (x1.trans x2) (x1.h.free hp) gp o
 | inr w=>
  obtain ⟨C',hm,q⟩:=q
  exact ⟨C',hm,fun G' H' x2=>q G' H' (x1.trans x2)⟩
noncomputable def UL (K:PySem.W.Frag) (n:Nat) (f:FS):TS:=fun En σ H=>∃ G0 H0 G τ fl,zo K n G0 H0 G H τ σ/\f τ=some fl/\xf K n G0 H0 En fl
theorem wM.asT (h:wM X sts gs):Xu X sts (UL X.K X.N.length gs):=by
 obtain ⟨t,p,k⟩:=h.h
 refine ⟨fun pins s σ H F I q=>?_⟩
 obtain ⟨G0,H0,G,τ,fl,K,hf,q⟩:=q
 exact p pins s σ H F I (k K hf q)
noncomputable def uJ (z:Str) (b:Bool):D->Option D
 | .exc x=>if x=z then some (.bl b) else none
 | _=>none
theorem QF {K:PySem.W.Frag} {G:Hp} {d u:D} {v:V} {b:Bool} (hns:PySem.W.nsIn K mainGlobals z=some (some (.ref C))) (hf:uJ z b d=some u) (r:zb K G d v):u=.bl b/\∃ a,v=.ref a/\G a=some (.ext (uA a C)):=by
 cases d with
 | exc w=>
  change (if w=z then some (D.bl b) else none)=some u at hf
  by_cases ez:w=z
  ·rw [if_pos ez] at hf
   cases hf
   subst ez
   obtain ⟨a,C',rfl,h1,h2⟩:=r
   rw [hns] at h1
   cases h1
   exact ⟨rfl,a,rfl,h2⟩
  ·rw [if_neg ez] at hf
   cases hf
 | _=>cases hf
theorem jw {B:Addr} {y:Str} {bb:Bool} (hg:Gl X "isinstance") (hmi:X.mg "isinstance" = none) (hns:PySem.W.nsIn X.K mainGlobals z=some (some (.ref C))) (hZ:u9 X.K C) (cy:xO X.K X.mg y B) (hgy:Gl X y) (ht:PySem.W.kitOne X.K (.ref C) (.ref B)=some bb) (ha:SE X e fc) (hs:yf e=true:=by rfl) (hdb:(y == ("__debug__" : Str))=false:=by decide) :
  SE X (.Call (.Name "isinstance" p) [e,.Name y p1] [] pos) (e1 (uJ z bb) fc):=by
 obtain ⟨t,pt,k⟩:=ha.h
 refine ⟨⟨_,(YT T4 hg hmi T3 (kZ ⟨pt⟩ (kZ (Fg cy.glb hgy hdb) VO rfl) hs) (by decide) (by decide) (by rw [List.all_cons,hs]; rfl)).h,fun {G0 H0 G H τ σ d Q} E hf q=>?_⟩⟩
 obtain ⟨u,hu,hf⟩:=zL hf
 refine k E hu fun v G' H' x r=>?_
 obtain ⟨rfl,a,rfl,ga⟩:=QF hns hf r
 exact ⟨a,C,_,_,bb,rfl,x.gh _ _ ga,hZ,rfl,ht,q _ _ _ x rfl⟩
theorem CV {y:Str} {T:String} {bb:Bool} (hg:Gl X "isinstance") (hmi:X.mg "isinstance" = none) (hns:PySem.W.nsIn X.K mainGlobals z=some (some (.ref C))) (hZ:u9 X.K C) (hgy:Gl X y) (hmy:X.mg y=none) (hv:bootBuiltins y=some (.type T)) (ht:PySem.W.kitOne X.K (.ref C) (.type T)=some bb) (ha:SE X e fc) (hs:yf e=true:=by rfl) (hn:y ≠ "__name__" := by decide) (hdb:(y == ("__debug__" : Str))=false:=by decide) :
  SE X (.Call (.Name "isinstance" p) [e,.Name y p1] [] pos) (e1 (uJ z bb) fc):=by
 obtain ⟨t,pt,k⟩:=ha.h
 refine ⟨⟨_,(YT T4 hg hmi T3 (kZ ⟨pt⟩ (kZ (Fb hgy hmy hv hn hdb) VO rfl) hs) (by decide) (by decide) (by rw [List.all_cons,hs]; rfl)).h,fun {G0 H0 G H τ σ d Q} E hf q=>?_⟩⟩
 obtain ⟨u,hu,hf⟩:=zL hf
 refine k E hu fun v G' H' x r=>?_
 obtain ⟨rfl,a,rfl,ga⟩:=QF hns hf r
 exact ⟨a,C,_,_,bb,rfl,x.gh _ _ ga,hZ,rfl,ht,q _ _ _ x rfl⟩
noncomputable def gk:D->Option D
 | .str y=>if (reprText y).length<=16777216 then some (.str (reprText y)) else none
 | _=>none
theorem Jy (he:SE X e fc):SE X (.FormattedValue e 114 none pos) (e1 gk fc):=by
 obtain ⟨t,pt,k⟩:=he.h
 refine ⟨⟨_,(Fe ⟨pt⟩).h,fun {G0 H0 G H τ σ d Q} E hf q=>?_⟩⟩
 obtain ⟨u,hu,hf⟩:=zL hf
 refine k E hu fun v G' H' x r=>?_
 cases u with
 | str y=>
  change (if (reprText y).length<=16777216 then some (D.str (reprText y)) else none)=some d at hf
  by_cases c:(reprText y).length<=16777216
  ·rw [if_pos c] at hf
   cases hf
   obtain ⟨rfl,_⟩:=r
   have l:(reprText y).length<=sizeLine:=by rw [sizeLine_eq]; exact c
   exact ⟨y,rfl,l,q _ _ _ x ⟨rfl,l⟩⟩
  ·rw [if_neg c] at hf
   cases hf
 | _=>cases hf
end
end L3
namespace L2
open PySem PySem.Spec PyProof PyProof.Rows
open Builtin Builtin.Str
section
variable {X:Cx}
theorem IS:∀ l:List (Str×Tok),zj ((l.map (·.1)).map V.str) (strValues l)
 | []=>.nil
 | p::r=>.cons ⟨p.2,rfl⟩ (IS r)
theorem II (x y:Str) (h:x.length+2<=sizeLine):(Txt.split x y).length<=sizeLine:=by
 have one:[x].length<=sizeLine:=by show 1<=sizeLine; decide
 unfold Txt.split
 split
 ·exact one
 ·split
  ·exact one
  ·have e1:=StrLaws.occ_length_le x y 0 x.length (x.length+1)
   rw [length_partsBetween]
   omega
theorem BI:qJ X "str.split" (fun x vs H Q=>∃ z y:Str,x=.str z/\vs=[.str y]/\(y.length == 0)=false/\z.length+2<=sizeLine/\∀ p,H p=none->Q (.ref p) (zu H p (.lst ((Txt.split z y).map V.str)))):=by
 intro pins s σ H xv vs v us Q I rx rv h
 obtain ⟨x,y,rfl,rfl,hy,hz,q⟩:=h
 obtain ⟨t,rfl⟩:=(show ∃ t,v=Value.str x t from rx)
 obtain ⟨u',rfl,u,rfl⟩:=vd rv
 have lay:∀ (l:List (Str×Tok)) (k:Nat),l.map (·.1)=Txt.split x y->EP X pins σ Q (.ref s.heap.objs.size) { s with toks:=k,heap:=s.heap.push { cls:=.type "list",data:=.seq (strValues l).toArray } }:=fun l k e=>by
  refine ⟨.ref s.heap.objs.size,_,I.laid (o:=.lst ((Txt.split x y).map V.str)) (t':=k) (fun b u e=>Heap.get?_push_of_some _ e) (Nat.le_refl _) ⟨?_,strValues l,0,?_,Heap.get?_push_size _ rfl⟩,rfl,q _ I.fresh⟩
  ·rw [List.length_map]
   exact II x y hz
  ·rw [<- e]
   exact IS l
 have hn:(partsBetween x (occurrences x y 0 x.length (x.length+1)) y.length).length<=sizeLine:=by
  have e1:=StrLaws.occ_length_le x y 0 x.length (x.length+1)
  rw [length_partsBetween]; omega
 cases h1:(decide (x.length<y.length)||decide (strKind x<strKind y))
 ·cases hf:(occurrences x y 0 x.length (x.length+1)).isEmpty
  ·refine call_meets F.slot_str_split (typeIs_str _ _ _) F.entry_str_split (F.args_str_split_2 _ _) (meets_str_split_sep x y t u h1 hy hf (by omega) hn) ?_
   show wants (EP X pins σ Q) X.xe _ { s with toks:=_,heap:=s.heap.push { cls:=.type "list",data:=.seq (strsFrom s.toks (partsBetween x (occurrences x y 0 x.length (x.length+1)) y.length)).toArray } }
   rw [strsFrom_eq]
   exact lay (PySem.numbered s.toks _) _ ((numbered_texts _ _).trans ((if_neg (ne_true_of_eq_false h1)).trans (if_neg (ne_true_of_eq_false hf))).symm)
  ·exact call_meets F.slot_str_split (typeIs_str _ _ _) F.entry_str_split (F.args_str_split_2 _ _) (meets_str_split_not_found x y t u h1 hy hf)
    (lay [(x,t)] s.toks ((if_neg (ne_true_of_eq_false h1)).trans (if_pos hf)).symm)
 ·exact call_meets F.slot_str_split (typeIs_str _ _ _) F.entry_str_split (F.args_str_split_2 _ _) (meets_str_split_cannot_occur x y t u h1)
   (lay [(x,t)] s.toks (if_pos h1).symm)
variable {a o:Expr} {ta to:TE} {i:Int} {ck ck1 ck2:Nat} {cp pos apos cpos p1 p2:Pos} {y z:Str}
end
end L2
namespace L3
open PySem PySem.Spec PyProof PyProof.Rows L2
noncomputable def qU:D->D->Option D
 | .str z,.str y=>if (y.length == 0)=false/\z.length+2<=16777216 then some (.lst ((Txt.split z y).map D.str)) else none
 | _,_=>none
section
variable {X:Cx} {o e a:Expr} {fo f fa:FE} {apos cpos p1 p2 cp pos:Pos} {nm:Str} {id:String} {rm:V->List V->Hp->VK->Prop} {F:D->D->Option D} {ck ck1 ck2:Nat} {i:Int} {y z:Str}
theorem Ca (slot:Slot "str" nm id) (hty:typeOf (.builtin id)=pure (.type "method_descriptor")) (hm:qJ X id rm)
  (hF:∀ {x y d:D},F x y=some d->∃ w,x=.str w) (hR:∀ {w:Str} {y d:D} {v:V} {G H:Hp} {Q:VK},yO G H->w.length<=sizeLine->F (.str w) y=some d->zb X.K G y v->(∀ u G' H',zU G H G' H'->zb X.K G' d u->Q u H')->rm (.str w) [v] H Q)
  (ho:SE X o fo) (he:SE X e f) (hbase:attributeBase o nm X.env (eval o X.env)=eval o X.env:=by rfl) (hline:(apos.endLine == cpos.line)=true:=by rfl) (hs:yf e=true:=by rfl) :
  SE X (.Call (.Attribute o nm apos) [e] [] cpos) (e2 F fo f):=by
 obtain ⟨to,po,ko⟩:=ho.h
 obtain ⟨te,pe,ke⟩:=(zB he zM hs).h
 refine ⟨⟨_,(pR PySem.F.plainAttrs_str slot hty hm ⟨po⟩ ⟨pe⟩ hbase hline (by rw [List.all_cons,hs]; rfl) (by show 1<30; decide)).h,fun {G0 H0 G H τ σ d Q} E hf q=>?_⟩⟩
 obtain ⟨x,hx,hf⟩:=zL hf
 obtain ⟨y,hy,hf⟩:=zL hf
 obtain ⟨w,rfl⟩:=hF hf
 refine ko E hx fun v G1 H1 x1 r1=>?_
 obtain ⟨rfl,l1⟩:=r1
 refine ⟨rfl,ke (E.go x1) (ds:=[y]) (by unfold z8; rw [hy]; rfl) fun ws G2 H2 x2 r2=>?_⟩
 obtain ⟨u,rfl,ru⟩:=tq r2
 exact hR x2.gh l1 hf ru fun u G' H' x3 r3=>q u G' H' ((x1.trans x2).trans x3) r3
theorem Jg {K:PySem.W.Frag} {G:Hp}:∀ {l:List Str},(∀ a∈l,a.length<=sizeLine)->Reps K G (l.map D.str) (l.map V.str)
 | [],_=>rfl
 | a::l,h=>⟨_,_,rfl,⟨rfl,h a (List.mem_cons_self ..)⟩,Jg fun b hb=>h b (List.mem_cons_of_mem _ hb)⟩
theorem J_ (ho:SE X o fo) (he:SE X e f) (hbase:attributeBase o "split" X.env (eval o X.env)=eval o X.env:=by rfl) (hline:(apos.endLine == cpos.line)=true:=by rfl) (hs:yf e=true:=by rfl) :
  SF X (.Call (.Attribute o "split" apos) [e] [] cpos) (e2 qU fo f):=by
 obtain ⟨to,po,ko⟩:=ho.h
 obtain ⟨te,pe,ke⟩:=(zB he zM hs).h
 refine ⟨⟨_,(pR PySem.F.plainAttrs_str PySem.F.slot_str_split PySem.F.type_str_split BI ⟨po⟩ ⟨pe⟩ hbase hline (by rw [List.all_cons,hs]; rfl) (by show 1<30; decide)).h,fun {G0 H0 G H τ σ d Q} E hf q=>?_⟩⟩
 obtain ⟨x,hx,hf⟩:=zL hf
 obtain ⟨y,hy,hf⟩:=zL hf
 refine ko E hx fun v G1 H1 x1 r1=>?_
 cases x with
 | str w=>
  obtain ⟨rfl,l1⟩:=r1
  refine ⟨rfl,ke (E.go x1) (ds:=[y]) (by unfold z8; rw [hy]; rfl) fun ws G2 H2 x2 r2=>?_⟩
  obtain ⟨u,rfl,ru⟩:=tq r2
  cases y with
  | str y=>
   change (if (y.length == 0)=false/\w.length+2<=16777216 then some (D.lst ((Txt.split w y).map D.str)) else none)=some d at hf
   by_cases c:(y.length == 0)=false/\w.length+2<=16777216
   ·rw [if_pos c] at hf
    cases hf
    obtain ⟨rfl,_⟩:=ru
    have c2:w.length+2<=sizeLine:=by rw [sizeLine_eq]; exact c.2
    have x12:=x1.trans x2
    refine ⟨w,y,rfl,rfl,c.1,c2,fun p hp=>q p _ _ (x12.trans (zU.layO x12.gh hp)) (x12.h.free hp) (x12.gh.free hp) ⟨_,xH,Jg fun a ha=>Nat.le_trans (part_short ha) l1,?_⟩⟩
    rw [List.length_map]
    exact II w y c2
   ·rw [if_neg c] at hf
    cases hf
  | _=>cases hf
 | _=>cases hf
end
end L3
namespace L2
open PySem PySem.Spec PyProof PyProof.Rows
theorem Of {X:Cx}:xn X (.type "int") (fun xs H Q=>∃ (z:Str) (n:Int),xs=[.str z]/\z.length<=640/\PySem.intText? z=some n/\Q (.int n) H):=by
 intro pins s σ H xs us Q I r h
 obtain ⟨z,n,rfl,hl,hn,q⟩:=h
 obtain ⟨u,rfl,t,rfl⟩:=vd r
 exact PySem.W.KIN.call_text hn hl ⟨.int n,H,I.tok _,⟨_,rfl⟩,q⟩
end L2
namespace L3
open PySem PySem.Spec PyProof PyProof.Rows L2
noncomputable def Wb:List D->Option D
 | [.str z]=>if z.length<=640 then (PySem.intText? z).bind fun n=>some (.int n) else none
 | _=>none
theorem CU {X:Cx} {e:Expr} {fs:FA} {p pos:Pos} (hg:Gl X "int") (hm:X.mg "int" = none) (ha:SA X [e] fs) (hs:yf e=true:=by rfl):SE X (.Call (.Name "int" p) [e] [] pos) (eL Wb fs):=by
 obtain ⟨t,pt,k⟩:=ha.h
 refine ⟨⟨_,(JB (p:=p) (pos:=pos) Of hg hm pH ⟨pt⟩ (by decide) (by decide) (by rw [List.all_cons,hs]; rfl)).h,fun {G0 H0 G H τ σ d Q} E hf q=>?_⟩⟩
 obtain ⟨ds,hd,hf⟩:=zL hf
 refine k E hd fun vs G1 H1 x1 r1=>?_
 match ds,hf with
 | [.str z],hf=>
  change (if z.length<=640 then (PySem.intText? z).bind fun n=>some (D.int n) else none)=some d at hf
  by_cases c:z.length<=640
  ·rw [if_pos c] at hf
   obtain ⟨n,hn,hf⟩:=zL hf
   cases hf
   obtain ⟨v,rfl,rv⟩:=tq r1
   obtain ⟨rfl,_⟩:=rv
   exact ⟨z,n,rfl,c,hn,q _ _ _ x1 rfl⟩
  ·rw [if_neg c] at hf
   cases hf
end L3
namespace L2
open PySem PySem.Spec PyProof PyProof.Rows
section
variable {X:Cx} {x n:Str} {p pos np hpos tpos:Pos} {e e1 e2:Expr} {es:List Expr} {ta:TA} {te:TE} {tx:TX} {ps:List Str} {j k i:Nat} {sp:Sp} {E:XK} {D:Addr} {suite:List Stmt} {ts:TS} {b₀:Stmt}
noncomputable def EU (K:PySem.W.Frag) (i m:Nat) (D:Addr) (tx:TX) (ts:TS):TS:=fun F σ H=>tx σ H (fun _ H1=>F.nx σ H1) fun cv _ H1=>∃ C,cv=.ref C/\PySem.W.exmOne K (.ref C) (.ref D)=some true/\
 ∀ a,H1 a=none->ts { nx:=fun _ H2=>F.nx (List.replicate m none) H2,rt:=F.rt,bk:=fun _ H2=>F.bk (List.replicate m none) H2,ct:=fun _ H2=>F.ct (List.replicate m none) H2 } (σ.set i (some (.ref a))) (zu H1 a (.ext (uA a C)))
theorem FD (hst:X.stack=X.env::X.outer) (hf:X.env.frame=some X.env.locals) (hex:X.ex=[]) (hcalm:X.A.handled=none) (hd:X.mg x=some (.ref D)) (hg:Gl X x) (hN:X.N.Nodup) (hi:X.N[i]?=some n) (hx:X.env.scope.names.lookup n=some .local)
  (hb:QX X e tx) (hs:∀ a,Xu (X.marked a) (b₀::suite) ts) (hdb:(x == ("__debug__" : Str))=false:=by decide) (hnc:pO e=true:=by rfl) :
  PS X (.Try [.Expr e pos] [.ExceptHandler (some (.Name x np)) (some n) (b₀::suite) hpos] [] [] tpos) (EU X.K i X.N.length D tx ts):=by
 intro pins s σ H F I h
 have hloc:X.env.kindOf n=some .local:=hx
 have hp:(X.env.scope.kind == .class||(X.env.scope.kind == .module&&X.env.locals != X.env.globals))=false:=by rw [I.ok.kind]; rfl
 refine wpAny_Try_except ?_
 refine wpAny_execs_cons ?_
 refine wpAny_Expr_any (wpAny_mono (hb.h pins s σ H _ _ I h) (fun u s1 ⟨v,H1,I1,r1,q1⟩=>?_) fun ev s1 z=>?_) I.quiet (VB hnc)
 ·exact wpAny_execs_nil (wpAny_execs_nil ⟨_,H1,I1,q1⟩)
 obtain ⟨H0,s0,I0,a,C,a0,B,H',rfl,ho,hg',fl,xd,C',hC,hm,hq⟩:=z
 cases hC
 have fr:=I0.frData
 have hfr:X.A.frames=some (X.env::X.outer):=by rw [I0.ok.frames,hst]
 have fl':=fl
 rw [hst] at fl'
 refine wpAny_looks_onW hfr hf fl' fun h2 held up2=>?_
 refine wpAny_landsW (s:={ s1 with heap:=h2 }) held fun h3 fl3 up3=>?_
 have fl3':Heap.FlyingW B X.stack a (.ref C) a0 h3:=by rw [hst]; exact fl3
 have x3:xQ X.prog X.w X.stack H0 s0.heap B H' h3:=xd.fly fl.1 fl3.1 (up2.trans up3) fr
 obtain ⟨na,J3,_⟩:=Zn (s':={ s1 with heap:=h3 }) I0 hex ho hg' fl3' x3
 refine wpAny_handleBy_cons (codeAny_handlers_test ?_) (by intro q; cases q)
 refine tW (X:=X.marked a) (J3.marked a) hg hd ?_ hdb
 obtain ⟨ob,hob,hobc⟩:=fl3.there
 have LT:PySem.W.Looks (model X.prog X.w) h3 (typeOf (.ref a)) (.ref C):=hobc ▸ (PySem.W.Looks.ld hob).andThen .now
 refine (PySem.W.exm_one (K:=X.K) (show X.K.In h3 from J3.kIn) LT hm).here ?_
 show codeAny _ _ (.handlers (.ref a) [.ExceptHandler none (some n) (b₀::suite) hpos] X.env) _ _
 refine codeAny_handlers_suite_as ?_
 refine lands_againW (s:={ s1 with heap:=h3 }) fl3 fun h4 fl4 up4=>?_
 have fl4':Heap.FlyingW B X.stack a (.ref C) a0 h4:=by rw [hst]; exact fl4
 have x4:xQ X.prog X.w X.stack H0 s0.heap B H' h4:=x3.fly fl3.1 fl4.1 up4 fr
 obtain ⟨_,_,J4⟩:=Zn (s':={ s1 with heap:=h4 }) I0 hex ho hg' fl4' x4
 refine Yr (X:=X.marked a) (J4.marked a) hN hi (.inl hx) (v:=.ref a) rfl (fun s5 I5=>?_) (.inr hx)
 refine wpAny_mono ((hs a).h pins s5 _ _ _ I5 (hq a na)) (fun f s6 z6=>?_) fun _ _ z=>z.elim
 show wpAny _ X.A _ _ _ s6
 have go:∀ {σ6:St} {H6:Hp},Inv (X.marked a) pins σ6 H6 s6->(∀ h7 m7,Inv X pins (List.replicate X.N.length none) H6 { s6 with heap:=h7,toks:=s6.toks+1 }->SP X pins F f { s6 with heap:=h7,toks:=s6.toks+1 })->
   wpAny (model X.prog X.w) X.A (do bindName X.env n .none; unbindBehindTheSuite X.env n hpos) (fun _ s7=>SP X pins F f s7) X.xe s6:=fun {σ6 H6} I6 k=>by
  have I6':Inv X pins σ6 H6 s6:=I6.unmarked fun _=>hcalm
  obtain ⟨m6,ns6,_⟩:=I6'.loc
  refine wpAny_nameGoes hloc ns6 hp fun h7 m7 ns7 hs7=>k h7 m7 (I6'.forget ns7 hs7)
 cases f with
 | next=>obtain ⟨σ6,H6,I6,q6⟩:=z6; exact go I6 fun h7 m7 I7=>⟨_,_,I7,q6⟩
 | brk=>obtain ⟨σ6,H6,I6,q6⟩:=z6; exact go I6 fun h7 m7 I7=>⟨_,_,I7,q6⟩
 | cont=>obtain ⟨σ6,H6,I6,q6⟩:=z6; exact go I6 fun h7 m7 I7=>⟨_,_,I7,q6⟩
 | ret u=>obtain ⟨v6,σ6,H6,I6,r6,q6⟩:=z6; exact go I6 fun h7 m7 I7=>⟨v6,_,_,I7,r6,q6⟩
end
end L2
namespace L3
open PySem PySem.Spec PyProof PyProof.Rows L2
noncomputable def Zm (i:Nat) (z:Str) (g:FS) (τ:zz) (x:Str):Option Fl:=if x=z then (g (τ.set i (some (false,.exc x)))).bind fun fl=>match fl with
   | .rt o d=>some (.rt o d)
   | _=>none
  else none
noncomputable def VY (i:Nat) (z:Str) (fx:g7) (g:FS):FS:=fun τ=>(fx τ).bind fun r=>match r with
 | .inl _=>some (.nx τ)
 | .inr x=>Zm i z g τ x
section
variable {X:Cx} {j i iy:Nat} {x n z y:Str} {C D':Addr} {fx:g7} {gs:FS} {e:Expr} {b₀:Stmt} {suite:List Stmt} {np pos yp hpos tpos:Pos}
theorem LK {G0 H0 G H:Hp} {τ:zz} {σ:St} {fl:Fl} {En En':wq} {w:Str} (hz:X.mg z=some (.ref C)) (hns:PySem.W.nsIn X.K mainGlobals z=some (some (.ref C))) (hm:PySem.W.exmOne X.K (.ref C) (.ref D')=some true) (hi:X.N[i]?=some n) (K:zo X.K X.N.length G0 H0 G H τ σ) (hf:Zm i z gs τ w=some fl) (q:xf X.K X.N.length G0 H0 En fl) (hr:En'.rt=En.rt) :
  qM X.mg G H (fun cv _ H1=>∃ C,cv=.ref C/\PySem.W.exmOne X.K (.ref C) (.ref D')=some true/\∀ a,H1 a=none->UL X.K X.N.length gs En' (σ.set i (some (.ref a))) (zu H1 a (.ext (uA a C)))) w:=by
 unfold Zm at hf
 by_cases ez:w=z
 ·subst ez
  rw [if_pos rfl] at hf
  obtain ⟨fl',hg',hf⟩:=zL hf
  refine ⟨C,hz,fun G2 H2 x2=>⟨C,rfl,hm,fun a na=>?_⟩⟩
  have K2:=(K.go x2).go (zU.lay (o:=.ext (uA a C)) x2.gh na)
  have K3:=K2.set (i:=i) (d:=.exc w) (v:=.ref a) (List.getElem?_eq_some_iff.mp hi).1 ⟨a,C,rfl,hns,xH⟩
  refine ⟨G0,H0,_,_,fl',K3,hg',?_⟩
  cases fl' with
  | rt o d=>
   cases hf
   cases o with
   | false=>exact fun v G H xx r=>by rw [hr]; exact q v G H xx r
   | true=>exact fun p G H xx h0 g o=>by rw [hr]; exact q p G H xx h0 g o
  | nx _=>cases hf
  | bk _=>cases hf
  | ct _=>cases hf
 ·rw [if_neg ez] at hf
  cases hf
theorem Cz (hst:X.stack=X.env::X.outer) (hfr:X.env.frame=some X.env.locals) (hex:X.ex=[]) (hr:yg j X.A) (hD:X.mg x=some (.ref D')) (hgx:Gl X x) (hz:X.mg z=some (.ref C)) (hns:PySem.W.nsIn X.K mainGlobals z=some (some (.ref C))) (hm:PySem.W.exmOne X.K (.ref C) (.ref D')=some true)
  (hN:X.N.Nodup) (hi:X.N[i]?=some n) (hx:X.env.scope.names.lookup n=some .local) (hb:SX X e fx) (hs:∀ a,wM (X.marked a) (b₀::suite) gs) (hdb:(x == ("__debug__" : Str))=false:=by decide) (hnc:pO e=true:=by rfl) :
  SS X (.Try [.Expr e pos] [.ExceptHandler (some (.Name x np)) (some n) (b₀::suite) hpos] [] [] tpos) (VY i z fx gs):=by
 obtain ⟨t,pt,kt⟩:=hb.h
 refine ⟨⟨_,FD (ts:=UL X.K X.N.length gs) hst hfr hex hr.hd hD hgx hN hi hx pt (fun a=>(hs a).asT) hdb hnc,fun {G0 H0 G H τ σ fl En} K hf q=>?_⟩⟩
 obtain ⟨r,hr',hf⟩:=zL hf
 refine kt K hr' ?_
 cases r with
 | inl od=>
  obtain ⟨o,d⟩:=od
  cases hf
  cases o with
  | false=>exact fun v G' H' x2 _=>q _ _ _ (K.go x2)
  | true=>exact fun p G' H' x2 _ _ _=>q _ _ _ (K.go x2)
 | inr w=>exact LK hz hns hm hi K hf q rfl
end
end L3
namespace L3
open PySem PySem.Spec PyProof.Rows L2
inductive M where
 | fz (d:D) | own (d:D) | obj (x:Str) (fs:List Str) (ms:List M) | tab (ks:List (Sum Int Str)) (ms:List M)
end L3
namespace L3
open PySem PySem.Spec PyProof.Rows L2
noncomputable def zp (K:PySem.W.Frag) (x:Str) (st:Stmt):Prop:=
 ∃ (f:Addr) (od an:Option Addr) (sl:Array (Option Value)) (oc kV dc pm cd ct:Value),PySem.W.nsIn K mainGlobals x=some (some (.ref f))/\K.lookup f=Ti x st oc od sl kV dc pm an cd ct/\PySem.W.codeIn K cd x=true/\PySem.W.keepIn K (.ref f)=true
section
variable {K:PySem.W.Frag} {mg:Str->Option Value} {h:Heap} {x p0 p1 p2 p3 p4 p5:Str} {st:Stmt} {ps:List Str}
theorem zp.d (a:zp K x st) (X:K.In h) (G:h.Ns mainGlobals mg) (b:∀ (kV doc pm:Value) (an:Option Addr) (cdv ct:Value) (us:List Value),us.length=ps.length->bindArgs (PySem.W.fnOf x x (qS st) (wU st) (y9 st) .none kV doc pm an cdv ct) ⟨us,[]⟩=pure (ps.zip us)):Def K mg x st ps:=by
 obtain ⟨f,od,an,sl,oc,kV,dc,pm,cd,ct,a,l,c,k⟩:=a
 have F:=Tn (st:=st) l c k
 exact ⟨_,_,F,PySem.W.mg_of X G a,F.binds b⟩
noncomputable abbrev BA (x:Str) (st:Stmt) (us:List Value) (ps:List Str):Prop:=∀ (kV doc pm:Value) (an:Option Addr) (cdv ct:Value),bindArgs (PySem.W.fnOf x x (qS st) (wU st) (y9 st) .none kV doc pm an cdv ct) ⟨us,[]⟩=pure (ps.zip us)
theorem zp.d0 (a:zp K x st) (X:K.In h) (G:h.Ns mainGlobals mg) (b:BA x st [] []:=by intros; exact fun _ _ _ _ _ _=>rfl):Def K mg x st []:=a.d X G fun _ _ _ _ _ _=>Ip (b _ _ _ _ _ _)
theorem zp.d1 (a:zp K x st) (X:K.In h) (G:h.Ns mainGlobals mg) (b:∀ u,BA x st [u] [p0]:=by intros; exact fun _ _ _ _ _ _=>rfl):Def K mg x st [p0]:=a.d X G fun _ _ _ _ _ _=>Iq fun u=>b u _ _ _ _ _ _
theorem zp.d2 (a:zp K x st) (X:K.In h) (G:h.Ns mainGlobals mg) (b:∀ u v,BA x st [u,v] [p0,p1]:=by intros; exact fun _ _ _ _ _ _=>rfl):Def K mg x st [p0,p1]:=a.d X G fun _ _ _ _ _ _=>Ir fun u v=>b u v _ _ _ _ _ _
theorem zp.d3 (a:zp K x st) (X:K.In h) (G:h.Ns mainGlobals mg) (b:∀ u v y,BA x st [u,v,y] [p0,p1,p2]:=by intros; exact fun _ _ _ _ _ _=>rfl):Def K mg x st [p0,p1,p2]:=a.d X G fun _ _ _ _ _ _=>Er fun u v y=>b u v y _ _ _ _ _ _
theorem _root_.L2.Def.oS (d:Def K mg x st ps) (P:Program) (w:World) (base:Heap) (k:Nat) (F:List D->Option (Bool×D)) {N:List Str} {b:FS} (S:yc N ps (y9 st)) (hF:∀ ds r,F ds=some r->ds.length=ps.length/\yP N.length b ds=some r)
  (hb:∀ {f:Addr} {cdv:Value} {A:Around} {outer:List Env} {s:Shared} {H:Hp} {E:XK},yg k (A.deeper (envOfC x (y9 st) s.heap.objs.size f cdv))->wM (vj vG P w K mg base N x (y9 st) f cdv A outer s H E).nox (wU st) b)
  (hN:ps.length<=N.length:=by decide):yt P w K mg base x ps (k+1) (xB K F):=Def.okS d S hN hF fun _ _ _ _ _ _ _ hr=>hb hr
end
end L3
namespace L3
open PySem PySem.Spec PyProof PyProof.Rows L2
noncomputable def Zo:D->D->Option D
 | .str z,.str y=>match Builtin.Str.occurrences z y 0 z.length 1 with
  | i::_=>some (.int (i:Int))
  | []=>none
 | _,_=>none
end L3
namespace L3
open PySem PySem.Spec PyProof PyProof.Rows L2
noncomputable def jX (i j k:Nat):FG:=fun d σ=>match d with
 | .tup [x,y,z]=>some (((σ.set i (some (false,x))).set j (some (false,y))).set k (some (false,z)))
 | _=>none
section
variable {X:Cx} {E:XK} {i j k:Nat} {y f:Str} {ps:List Str} {F:FX} {fa:FA} {g:yr} {e:Expr} {es:List Expr} {yG:List Stmt} {yp fp cp pos:Pos}
theorem Ci {l:Nat} {x z:Str} {p1 p2 p3:Pos} {kk:Nat} (h:QG X (.Tuple [.Name x p1,.Name y p2,.Name z p3] kk pos) (Wk X.K 3 (qV (vR i) (qV (vR j) (qV (vR l) Zv))))) (hi:X.N[i]?=some x) (hj:X.N[j]?=some y) (hl:X.N[l]?=some z):SG X (.Tuple [.Name x p1,.Name y p2,.Name z p3] kk pos) (jX i j l):=⟨⟨_,h.h,fun {G0 H0 G H τ τ' σ d v Q} K r hf q=>by
 unfold jX at hf
 split at hf
 ·rename_i d1 d2 d3
  cases hf
  obtain ⟨a,vs,rfl,sq,⟨v1,r1,rfl,h1,⟨v2,r2,rfl,h2,⟨v3,r3,rfl,h3,h4⟩⟩⟩,_⟩:=r
  cases (show r3=[] from h4)
  refine ⟨a,_,rfl,u7 K.ext.gh sq,rfl,v1,_,rfl,v2,_,rfl,v3,_,rfl,rfl,?_⟩
  exact q _ (((K.set (List.getElem?_eq_some_iff.mp hi).1 h1).set (List.getElem?_eq_some_iff.mp hj).1 h2).set (List.getElem?_eq_some_iff.mp hl).1 h3)
 ·cases hf⟩⟩
end
end L3
namespace L2
open PySem PySem.Spec PyProof PyProof.Rows
section
variable {X:Cx} {pos:Pos}
noncomputable def Wj (K:PySem.W.Frag) (n:Nat) (t:vM):TG:=fun v σ H Q=>∃ a xs,v=.ref a/\yU K H a xs/\xs.length=n/\t xs σ H Q
theorem Dj {es:List Expr} {k:Nat} {t:vM} {n:Nat} (hc:X.calm=true) (h:jE X es t)
  (hn:(assignEach es X.env).length=n:=by rfl) (hst:(assignEach es X.env).findIdx? (·.1)=none:=by rfl):PG X (.Tuple es k pos) (Wj X.K n t):=by
 intro pins s σ H v u Q I r hw
 obtain ⟨a,xs,e1,hq,hl,hw⟩:=hw
 subst e1
 cases r
 obtain ⟨its,rv,ht,hz⟩:=I.list hq
 rw [assign_Tuple]
 refine wpAny_bind (wpAny_standAt ?_)
 unfold unpack
 rw [show (assignEach es X.env).length=its.toArray.size by simp [hn,<- hl,rv.length],hst]
 refine wpAny_bind (wpAny_holding (PySem.W.kun_itemsOf (I.ok.hd hc) ht.isList fun h' hx=>?_))
 have I1:Inv X pins σ H { s with heap:=h' }:=I.kept (t':=s.toks) fun b o e=>hx b o (Nat.ne_of_lt (Heap.lt_size e)) e
 exact h pins _ σ H xs _ Q I1 (by simpa using rv) hw
end
end L2
namespace L3
open PySem PySem.Spec PyProof PyProof.Rows L2
noncomputable def Zw (i j k:Nat):FG:=fun d σ=>match d with
 | .lst [x,y,z]=>some (((σ.set i (some (false,x))).set j (some (false,y))).set k (some (false,z)))
 | _=>none
section
variable {X:Cx} {i j:Nat} {y:Str} {pos:Pos}
theorem Fh {es:List Expr} {k:Nat} {t:vM} {n:Nat} (hc:X.calm=true) (h:gN X es t)
  (hn:(assignEach es X.env).length=n:=by rfl) (hst:(assignEach es X.env).findIdx? (·.1)=none:=by rfl):QG X (.Tuple es k pos) (Wj X.K n t):=⟨Dj hc h.h hn hst⟩
theorem Cj {l:Nat} {x z:Str} {p1 p2 p3:Pos} {kk:Nat} (h:QG X (.Tuple [.Name x p1,.Name y p2,.Name z p3] kk pos) (Wj X.K 3 (qV (vR i) (qV (vR j) (qV (vR l) Zv))))) (hi:X.N[i]?=some x) (hj:X.N[j]?=some y) (hl:X.N[l]?=some z):SG X (.Tuple [.Name x p1,.Name y p2,.Name z p3] kk pos) (Zw i j l):=⟨⟨_,h.h,fun {G0 H0 G H τ τ' σ d v Q} K r hf q=>by
 unfold Zw at hf
 split at hf
 ·rename_i d1 d2 d3
  cases hf
  obtain ⟨a,vs,rfl,sq,⟨v1,r1,rfl,h1,⟨v2,r2,rfl,h2,⟨v3,r3,rfl,h3,h4⟩⟩⟩,_⟩:=r
  cases (show r3=[] from h4)
  refine ⟨a,_,rfl,wR K.ext.gh sq,rfl,v1,_,rfl,v2,_,rfl,v3,_,rfl,rfl,?_⟩
  exact q _ (((K.set (List.getElem?_eq_some_iff.mp hi).1 h1).set (List.getElem?_eq_some_iff.mp hj).1 h2).set (List.getElem?_eq_some_iff.mp hl).1 h3)
 ·cases hf⟩⟩
end
end L3
namespace L2
open PySem PySem.Spec PyProof.Rows
open Builtin Builtin.Str
section
variable {X:Cx}
noncomputable def Fs (K:PySem.W.Frag):V->List V->Hp->VK->Prop:=fun x vs H Q=>∃ (sep:Str) (p:Addr) (ts:List Str),x=.str sep/\vs=[.ref p]/\yx K H p (ts.map V.str)/\(ts.map (·.length)).sum+ts.length*sep.length<=sizeLine/\Q (.str (glued sep ts)) H
theorem BH:qJ X "str.join" (Fs X.K):=by
 intro pins s σ H x vs v us Q I rx rv h
 obtain ⟨sep,p,ts,rfl,rfl,hq,hz,q⟩:=h
 obtain ⟨t,rfl⟩:=(show ∃ t,v=Value.str sep t from rx)
 obtain ⟨u,rfl,ru⟩:=vd rv
 cases (show u=Value.ref p from ru)
 obtain ⟨its,r,pl,_⟩:=I.tuple hq
 obtain ⟨l,rfl,el⟩:=UR r
 have hT:s.TypeIs (.ref p) "tuple" := pl.typeIs
 obtain ⟨o,ho,hc,n,hd⟩:=pl
 have hno:tooLong ((l.map (·.1)).toArray.foldl (·+·.length+sep.length) 0)=false:=by
  rw [el,StrLaws.joinTotal]
  unfold tooLong
  exact decide_eq_false (by omega)
 have fit:(glued sep ts).length<=sizeLine:=Nat.le_trans (glued_len sep ts) hz
 refine wpAny_call (codeAny_call_builtin F.slot_str_join.plain F.entry_str_join (F.slot_str_join.check _ _ _ _ _ _ _ _ (typeIs_str _ _ _) (F.args_str_join_2 _ _) ?_))
 obtain ⟨other,e⟩:=join_tree sep t p
 rw [e]
 refine wpAny_bind (wpAny_typeOf hT ?_)
 rw [if_pos (by decide)]
 refine wpAny_bind (wpAny_seqItems ho hd ?_)
 show wpAny _ _ (joinTail sep (strValues l)) _ _ _
 rcases l with _ | ⟨a,_ | ⟨b,c⟩⟩
 ·subst el
  exact gives_joinTail sep [] hno X.prog X.w _ (fun r s'=>match r with | .ok (.ret v)=>EP X pins σ Q v s' | .ok _=>False | .error e=>X.xe e s') s ⟨fit,.str _,H,I.tok _,⟨_,rfl⟩,q⟩
 ·subst el
  exact gives_joinTail sep [a] hno X.prog X.w _ (fun r s'=>match r with | .ok (.ret v)=>EP X pins σ Q v s' | .ok _=>False | .error e=>X.xe e s') s ⟨.str _,H,I,⟨_,rfl⟩,q⟩
 ·subst el
  exact gives_joinTail sep (a::b::c) hno X.prog X.w _ (fun r s'=>match r with | .ok (.ret v)=>EP X pins σ Q v s' | .ok _=>False | .error e=>X.xe e s') s ⟨fit,.str _,H,I.tok _,⟨_,rfl⟩,q⟩
end
end L2
namespace L3
open PySem PySem.Spec PyProof PyProof.Rows L2 Builtin Builtin.Str
section
variable {X:Cx} {e o a b c:Expr} {f fo fa fb fc:FE} {x:Str} {xp p pos apos cpos:Pos}
noncomputable def Wc:D->D->Option D
 | .str sep,.tup xs=>(tH xs).bind fun ts=>if (ts.map (·.length)).sum+ts.length*sep.length<=yA then some (.str (glued sep ts)) else none
 | _,_=>none
theorem CW (ho:SE X o fo) (he:SB X e f) (hbase:attributeBase o "join" X.env (eval o X.env)=eval o X.env:=by rfl) (hline:(apos.endLine == cpos.line)=true:=by rfl) (hs:yf e=true:=by rfl) :
  SE X (.Call (.Attribute o "join" apos) [e] [] cpos) (e2 Wc fo f):=by
 obtain ⟨to,po,ko⟩:=ho.h
 obtain ⟨te,pe,ke⟩:=(yl he ym hs).h
 refine ⟨⟨_,(pR PySem.F.plainAttrs_str PySem.F.slot_str_join PySem.F.type_str_join BH ⟨po⟩ ⟨pe⟩ hbase hline (by rw [List.all_cons,hs]; rfl) (by show 1<30; decide)).h,fun {G0 H0 G H τ σ d Q} E hf q=>?_⟩⟩
 obtain ⟨x,hx,hf⟩:=zL hf
 obtain ⟨y,hy,hf⟩:=zL hf
 refine ko E hx fun v G1 H1 x1 r1=>?_
 cases x with
 | str sep=>
  obtain ⟨rfl,l1⟩:=r1
  refine ⟨rfl,ke (E.go x1) (ds:=[y]) (by unfold z8; rw [hy]; rfl) fun ws G2 H2 x2 r2=>?_⟩
  obtain ⟨w,rfl,rw_⟩:=tq r2
  cases y with
  | tup xs=>
   obtain ⟨ts,hts,hf⟩:=zL hf
   obtain ⟨aa,vs,rfl,sq,rs,_⟩:=rw_
   have ev:=UA hts rs
   subst ev
   by_cases cc:(ts.map (·.length)).sum+ts.length*sep.length<=yA
   ·rw [if_pos cc] at hf
    cases hf
    have c':(ts.map (·.length)).sum+ts.length*sep.length<=sizeLine:=by rw [sizeLine_eq]; exact cc
    exact ⟨sep,aa,ts,rfl,rfl,sq,c',q _ _ _ (x1.trans x2) ⟨rfl,Nat.le_trans (glued_len sep ts) c'⟩⟩
   ·rw [if_neg cc] at hf
    cases hf
  | _=>cases hf
 | _=>cases hf
end
end L3
namespace L3
open PySem PySem.Spec PyProof PyProof.Rows L2
section
variable {X:Cx} {e o:Expr} {f fo:FE} {pos tpos apos cpos:Pos} {h₀:ExceptHandler} {hs:List ExceptHandler}
theorem CY (ho:SE X o fo) (he:SE X e f) (hbase:attributeBase o "index" X.env (eval o X.env)=eval o X.env:=by rfl) (hline:(apos.endLine == cpos.line)=true:=by rfl) (hs:yf e=true:=by rfl) :
  SE X (.Call (.Attribute o "index" apos) [e] [] cpos) (e2 Zo fo f):=
 Ca PySem.F.slot_str_index PySem.F.type_str_index BD (fun {x y d} h=>by
  cases x with
  | str w=>exact ⟨w,rfl⟩
  | _=>cases h) (fun {w y d v G H Q} g l h r q=>by
  cases y with
  | str y=>
   have h:(match Builtin.Str.occurrences w y 0 w.length 1 with
    | i::_=>some (D.int (i:Int))
    | []=>none)=some d:=h
   split at h
   ·rename_i i yG hoc
    cases h
    obtain ⟨rfl,_⟩:=r
    exact ⟨w,y,i,yG,rfl,rfl,hoc,q _ G H (zU.refl g) rfl⟩
   ·cases h
  | _=>cases h) ho he hbase hline hs
end
end L3
namespace L2
open PySem PySem.Spec PyProof PyProof.Rows
noncomputable def vK (e:Addr) (h:Heap):Prop:=∃ o vs,h.get? e=some o/\o.data=.fields vs/\vs[2]?=some .none
section
variable {M:Model} {A:Around} {E:Value->Shared->Prop} {s:Shared} {base:Heap} {env:Env} {outer l:List Env} {L e:Addr} {oe:Obj} {vs:Array Value} {head a0 cls fl:Value} {hadNext:Bool} {Q:Unit->Shared->Prop}
theorem Ta (hfr:A.frames=some (env::outer)) (hl:s.heap.FunFrames base (env::outer)) (hf:env.frame=some L) (he:s.heap.get? e=some oe) (hkb:base.StaysIn s.heap) (hen:base.get? e=none) (hd:oe.data=.fields vs) (hsz:1<vs.size) (h0:vs[0]?=some a0) (h2:vs[2]?=some .none)
  (h:∀ h',Heap.NotedW base (env::outer) e oe.cls a0 (rawInt L) s.heap h'->vK e h'->Q () { s with heap:=h' }) :
  wpAny M A (do let a <- frameOf env; let pl <- entryPlaceOf L hadNext; let b <- EntryCells.newEntry head a .none (rawInt L) .none pl; setField (.ref e) 1 b) Q E s:=by
 have ne:e ∉ (env::outer).filterMap (·.frame):=fun hm=>by
  obtain ⟨_,o,ho,nf⟩:=hl.mem hm
  rw [he] at ho
  cases ho
  exact nf vs hd
 refine wpAny_bind (wpAny_frameOf_fun hfr hl hf fun g1 sm=>wpAny_bind (wpAny_entryPlaceOf fun pl hpl=>?_))
 unfold EntryCells.newEntry newFields
 refine wpAny_bind (wpAny_newObj_type ?_ (hpl.sizeOk5 _ _ _ _ _))
 have e1:g1.get? e=some oe:=(sm.2.1 e ne).trans he
 have kb:base.StaysIn g1:=fun b o q=>(sm.2.1 b fun hm=>by rw [(hl.mem hm).1] at q; cases q).trans (hkb b o q)
 have lt:=Heap.lt_size e1
 have nT:g1.objs.size≠e:=Nat.ne_of_gt lt
 generalize hN:({ cls:=.type "traceback",dict:=none,data:=.fields ([head,.ref L,.none,rawInt L,.none]++(if pl.isEmpty then List.replicate 6 Value.none else pl)).toArray }:Obj)=N
 have dN:N.data=.fields ([head,.ref L,.none,rawInt L,.none]++(if pl.isEmpty then List.replicate 6 Value.none else pl)).toArray:=by rw [<- hN]
 have nfN:N.isFreed=false:=Obj.isFreed_of_fields dN
 have e2:(g1.push N).get? e=some oe:=Heap.get?_push_of_some _ e1
 refine wpAny_setField e2 hd hsz ?_
 have d3:=Obj.data_mapFields hd (·.setIfInBounds 1 (Value.ref g1.objs.size))
 have e3:=Heap.get?_update_self (Obj.mapFields (·.setIfInBounds 1 (Value.ref g1.objs.size))) e2 (Obj.isFreed_of_fields d3)
 have t3:((g1.push N).update e (Obj.mapFields (·.setIfInBounds 1 (Value.ref g1.objs.size)))).get? g1.objs.size=some N:=(Heap.get?_update_other _ _ (Ne.symm nT)).trans (Heap.get?_push_size _ nfN)
 have kp:∀ b o,b≠e->g1.get? b=some o->((g1.push N).update e (Obj.mapFields (·.setIfInBounds 1 (Value.ref g1.objs.size)))).get? b=some o:=fun b o q z=>(Heap.get?_update_other _ _ (Ne.symm q)).trans (Heap.get?_push_of_some _ z)
 have nr:∀ b o,s.heap.get? b=some o->(∀ ws,o.data≠.fields ws)->b≠e:=fun b o q nf z=>by
  rw [z,he] at q
  cases q
  exact nf vs hd
 refine h _ ⟨fun b o q=>kp b o (fun z=>by rw [z,hen] at q; cases q) (kb b o q),hl.of_keeps fun b o q nf=>?_,⟨_,_,g1.objs.size,N,_,e3,⟨Obj.cls_mapFields _ _,?_⟩,d3,by simp [hsz],kb.fresh,nT,t3,dN,?_⟩,fun b o q nf=>?_⟩ ⟨_,_,e3,d3,?_⟩
 ·obtain ⟨sl,z⟩:=sm.2.2 b o q
  exact ⟨_,kp b _ (nr b o q nf) z,rfl⟩
 ·rw [Array.getElem?_setIfInBounds_ne (by decide)]
  exact h0
 ·first | (simp; done) | (rcases hpl with rfl | ⟨_,_,_,_,_,_,_,rfl⟩<;>simp)
 ·obtain ⟨sl,z⟩:=sm.2.2 b o q
  exact ⟨sl,kp b _ (nr b o q nf) z⟩
 ·rw [Array.getElem?_setIfInBounds_ne (by decide)]
  exact h2
theorem Zu {fr:Option Addr} (hkb:base.StaysIn s.heap) (hl:s.heap.FunFrames base l) (ht:s.heap.TracedAtW base e cls a0 fl)
  (h:∀ h',base.StaysIn h'->h'.FunFrames base l->h'.TracedAtW base e cls a0 (fr.elim .none fun f=>rawInt f)->(vK e s.heap->vK e h')->s.heap.UpToSlots h'->Q () { s with heap:=h' }):wpAny M A (setFlight (.ref e) fr) Q E s:=by
 obtain ⟨oe,vs,T,oT,ts,he,hcl,hd,h1,nT,hne,hT,dT,h3⟩:=ht
 have s3:=(Array.getElem?_eq_some_iff.mp h3).1
 have ot:∀ b,b≠T->(s.heap.update T (Obj.mapFields (·.setIfInBounds 3 (fr.elim .none fun f=>rawInt f)))).get? b=s.heap.get? b:=fun b q=>Heap.get?_update_other _ _ (Ne.symm q)
 have nr:∀ b o,s.heap.get? b=some o->(∀ ws,o.data≠.fields ws)->b≠T:=fun b o q nf z=>by
  rw [z,hT] at q
  cases q
  exact nf ts dT
 unfold setFlight
 refine wpAny_bind (wpAny_field he hd h1 ?_)
 rw [if_pos (show (Value.ref T != Value.none)=true by simp)]
 refine wpAny_setField hT dT s3 (h _ (fun b o q=>(ot b fun z=>by rw [z,nT] at q; cases q).trans (hkb b o q)) (hl.of_keeps fun b o q nf=>⟨o,(ot b (nr b o q nf)).trans q,rfl⟩) ⟨oe,vs,T,_,_,(ot e (Ne.symm hne)).trans he,hcl,hd,h1,nT,hne,Heap.get?_update_self _ hT (Obj.isFreed_of_fields (Obj.data_mapFields dT _)),Obj.data_mapFields dT _,by simp [s3]⟩ (fun ⟨o2,v2,q1,q2,q3⟩=>⟨o2,v2,(ot e (Ne.symm hne)).trans q1,q2,q3⟩) fun b o q nf=>⟨o.slots,(ot b (nr b o q nf)).trans q⟩)
theorem Mw (hfr:A.frames=some (env::outer)) (hf:env.frame=some L) (hfl:Heap.FlyingW base (env::outer) e cls a0 s.heap) (hc:vK e s.heap)
  (hQ:∀ h',Heap.HeldW base (env::outer) e cls a0 L h'->vK e h'->s.heap.UpToSlots h'->Q () { s with heap:=h' }):wpAny M A (noteFrame (.ref e) env) Q E s:=by
 obtain ⟨hkb,hen,hl,oe,vs,T,oT,ts,he,⟨rfl,h0⟩,hd,h1,nT,hne,hT,dT,h3⟩:=hfl
 obtain ⟨o2,v2,q1,q2,q3⟩:=hc
 rw [he] at q1
 cases q1
 rw [hd] at q2
 cases q2
 have s3:=(Array.getElem?_eq_some_iff.mp h3).1
 have ot:∀ b,b≠T->(s.heap.update T (Obj.mapFields (·.setIfInBounds 3 Value.none))).get? b=s.heap.get? b:=fun b q=>Heap.get?_update_other _ _ (Ne.symm q)
 have nr:∀ b o,s.heap.get? b=some o->(∀ ws,o.data≠.fields ws)->b≠T:=fun b o q nf z=>by
  rw [z,hT] at q
  cases q
  exact nf ts dT
 unfold noteFrame
 simp only [hf]
 refine wpAny_bind (wpAny_field he hd h1 ?_)
 rw [if_pos (show (Value.ref T != Value.none)=true by simp)]
 refine wpAny_bind (wpAny_field hT dT h3 ?_)
 rw [if_neg (show ¬ ((Value.none == rawInt L)=true) by simp [rawInt])]
 refine wpAny_bind (wpAny_setField hT dT s3 ?_)
 refine Ta (base:=base) hfr (hl.of_keeps fun b o q nf=>⟨o,(ot b (nr b o q nf)).trans q,rfl⟩) hf ((ot e (Ne.symm hne)).trans he) (fun b o q=>(ot b fun z=>by rw [z,nT] at q; cases q).trans (hkb b o q)) hen hd (Array.getElem?_eq_some_iff.mp h1).1 h0 q3 fun h' ⟨x1,x2,x3,x4⟩ hc=>?_
 exact hQ h' ⟨x1,hen,x2,x3⟩ hc fun b o q nf=>x4 b o ((ot b (nr b o q nf)).trans q) nf
theorem BP (hfr:A.frames=some (env::outer)) (hl:s.heap.FunFrames base (env::outer)) (hf:env.frame=some L) (he:s.heap.get? e=some oe) (hkb:base.StaysIn s.heap) (hen:base.get? e=none) (hd:oe.data=.fields vs) (h0:vs[0]?=some a0) (h1:vs[1]?=some .none)
  (h:∀ h',Heap.HeldW base (env::outer) e oe.cls a0 L h'->s.heap.UpToSlots h'->Q () { s with heap:=h' }):wpAny M A (noteFrame (.ref e) env) Q E s:=by
 unfold noteFrame
 simp only [hf]
 refine wpAny_bind (wpAny_field he hd h1 ?_)
 rw [if_neg (by decide)]
 exact wpAny_entryW hfr hl hf he hkb hen hd (Array.getElem?_eq_some_iff.mp h1).1 h0 fun h' ⟨x1,x2,x3,x4⟩=>h h' ⟨x1,hen,x2,x3⟩ x4
theorem Ms {h:Heap} {args:List Value} (hfr:A.frames=some (env::outer)) (hf:env.frame=some L) (hkb:base.StaysIn h) (hl:h.FunFrames base (env::outer)) (hx:Heap.MadeExcOf h s.heap e cls args)
  (hQ:∀ h' t,Heap.FlyingW base outer e cls (.ref t) h'->vK e h'->s.heap.UpToSlots h'->Q () { s with heap:=h' }):wpAny M A (leaving env (.ref e)) Q E s:=by
 obtain ⟨t,he,_,_⟩:=hx.there
 have en:base.get? e=none:=by
  cases q:base.get? e with
  | none=>rfl
  | some o=>
   have:=hkb e o q
   rw [hx.new] at this
   cases this
 unfold leaving
 refine wpAny_bind ?_
 unfold noteFrame
 simp only [hf]
 refine wpAny_bind (wpAny_field (x:=.none) he rfl rfl ?_)
 rw [if_neg (by decide)]
 refine Ta (base:=base) (a0:=.ref t) hfr (hl.of_keeps fun b o q _=>⟨o,hx.keeps b o q,rfl⟩) hf he (fun b o q=>hx.keeps b o (hkb b o q)) en rfl (by show 1<6; decide) rfl rfl fun h' ⟨x1,x2,x3,x4⟩ hc=>?_
 refine Zu (s:={ s with heap:=h' }) (fr:=none) x1 x2 x3 fun h2 y1 y2 y3 y4 y5=>?_
 obtain ⟨_,_,y2⟩:=y2
 exact hQ h2 t ⟨y1,en,y2,y3⟩ (y4 hc) (Heap.UpToSlots.trans x4 y5)
end
end L2
namespace L2
open PySem PySem.Spec PyProof PyProof.Rows
theorem LH:entryFor table "proto.unchain" = some Builtin.«proto.unchain»:=entryFor_of_fast (by kernel_rfl)
noncomputable def g5 (h:Heap) (e a:Addr):Heap:=((h.update e (Obj.mapFields (·.setIfInBounds 3 .none))).update e (Obj.mapFields (·.setIfInBounds 4 (.bool true)))).update e (Obj.mapFields (·.setIfInBounds 2 (.ref a)))
section
variable {prog:Program} {w:World} {A:Around} {E:Value->Shared->Prop} {s:Shared} {env:Env} {a e:Addr}
theorem Ep {Q:Value->Shared->Prop} (hc:vK a s.heap) (h:Q .none s):wpAny (model prog w) A (runValue (.builtin "proto.unchain" ⟨[.ref e,.ref a,.ref a,.bool false],[]⟩)) Q E s:=by
 obtain ⟨o,vs,h1,h2,h3⟩:=hc
 refine wpAny_runValue (codeAny_builtin LH ?_)
 unfold Builtin.«proto.unchain»
 refine wpAny_bind (wpAny_field h1 h2 h3 ?_)
 exact wpAny_pure h
theorem Fx {α:Type} {o:Obj} {vs:Array Value} {Q:α->Shared->Prop} (hh:A.handled=some (.ref a)) (hne:a≠e) (hc:vK a s.heap) (he:s.heap.get? e=some o) (hd:o.data=.fields vs) (h2:2<vs.size) (h:E (.ref e) { s with heap:=s.heap.update e (Obj.mapFields (·.setIfInBounds 2 (.ref a))) }):wpAny (model prog w) A (raiseNew (.ref e):Sem α) Q E s:=by
 unfold raiseNew
 refine wpAny_bind (wpAny_handled ?_)
 rw [hh]
 have nb:(Value.ref a != Value.ref e)=true:=by
  simp only [bne_iff_ne,ne_eq,Value.ref.injEq]
  exact hne
 simp only [nb,if_true]
 refine wpAny_bind (wpAny_holding (Ep hc ?_))
 refine wpAny_bind (wpAny_mono (wpAny_setField (x:=.ref a) he hd h2 (Q:=fun _ s'=>E (.ref e) s') h) (fun _ _ z=>wpAny_throw z) fun _ _ z=>z)
variable {nm q:Str} {C N:Addr} {bs bm:List Value} {hdct:Bool} {sn:List Str} {sub:List Value} {ab:Bool} {col:Option Bool} {dd:Option Addr} {k0 k1 k2 k3 k5:Option Value} {newId:String}
theorem Fy {x c:Sem Value} {Q:Flow->Shared->Prop} (hbase:bm.contains (.type "BaseException")=true) (hh:A.handled=some (.ref a))
  (h:wpAny (model prog w) A x (fun v s₁=>∃ e t,v=.ref e/\s₁.heap.get? C=some (excClassObj nm q C N bs bm hdct sn sub ab col dd k0 k1 k2 k3 k5 newId)/\s₁.heap.get? e=some { cls:=.ref C,data:=.fields #[.ref t,.none,.none,.none,.bool false,.none] }/\a≠e/\C≠e/\vK a s₁.heap/\E (.ref e) { s₁ with heap:=g5 s₁.heap e a }) E s)
  (hc:∀ (s':Shared) (P:Value->Shared->Prop),P .none s'->wpAny (model prog w) A c P E s'):wpAny (model prog w) A (raiseStmt env (some x) (some c)) Q E s:=by
 have hcB:(Value.ref C::bm).contains (.type "BaseException")=true:=by rw [List.contains_cons,hbase,Bool.or_true]
 unfold raiseStmt
 refine wpAny_bind (wpAny_mono h (fun v s₁ h₁=>?_) fun _ _ z=>z)
 obtain ⟨e,t,rfl,hC,he,hae,hCe,hl,hE⟩:=h₁
 refine wpAny_bind (wpAny_holding (hc _ _ (wpAny_bind (wpAny_pure ?_))))
 obtain ⟨hp,g,d,tk,os⟩:=s₁
 have e3:(hp.update e (Obj.mapFields (·.setIfInBounds 3 .none))).get? e=some { cls:=.ref C,data:=.fields #[.ref t,.none,.none,.none,.bool false,.none] }:=(Heap.get?_update_self _ he rfl).trans rfl
 have e4:((hp.update e (Obj.mapFields (·.setIfInBounds 3 .none))).update e (Obj.mapFields (·.setIfInBounds 4 (.bool true)))).get? e=some { cls:=.ref C,data:=.fields #[.ref t,.none,.none,.none,.bool true,.none] }:=(Heap.get?_update_self _ e3 rfl).trans rfl
 have ot:∀ b,b≠e->((hp.update e (Obj.mapFields (·.setIfInBounds 3 .none))).update e (Obj.mapFields (·.setIfInBounds 4 (.bool true)))).get? b=hp.get? b:=fun b z=>by rw [Heap.get?_update_other _ _ (Ne.symm z),Heap.get?_update_other _ _ (Ne.symm z)]
 have C4:=(ot C hCe).trans hC
 repeat (first | with_reducible refine wpAny_loadPart_at he ?_ | with_reducible refine wpAny_loadPart_at hC ?_ | (with_reducible refine wpAny_isSubtype_exc hC ?_; rw [hcB]) | wp_step)
 obtain ⟨oa,va,l1,l2,l3⟩:=hl
 exact Fx hh hae ⟨oa,va,(ot a hae).trans l1,l2,l3⟩ e4 rfl (by show 2<6; decide) hE
theorem Fz {bmB:List Value} {B initId:String} (F:ExcBaseFacts B newId initId bmB) {mN:Str->Option Value} {x:Str} {np cpos pos kp:Pos} {ck:Nat} {args:List Expr} {Q:Flow->Shared->Prop}
  (hbase:bm.contains (.type "BaseException")=true) (hh:A.handled=some (.ref a)) (hplain:(backTo cpos (starEach args env)).any (·.1)=false) (hni:mN "__init__" = none)
  (h:wpAny (model prog w) A (eval (.Name x np) env) (fun f s₁=>f=.ref C/\wpAny (model prog w) A (evalArgs (.ref C) true (backTo cpos (starEach args env)) [])
   (fun v s₂=>v.kw=[]/\v.pos.length<=sizeLine/\s₂.heap.get? C=some (excClassObj nm q C N bs bm hdct sn sub ab col dd k0 k1 k2 k3 k5 newId)/\s₂.heap.Ns N mN/\OwnTail s₂.heap bmB bm/\vK a s₂.heap/\
    ∀ h' e,Heap.MadeExcOf s₂.heap h' e (.ref C) v.pos->E (.ref e) { s₂ with heap:=g5 h' e a }) E s₁) E s) :
  wpAny (model prog w) A (exec (.Raise (some (.Call (.Name x np) args [] cpos)) (some (.Constant .none ck kp)) pos) env) Q E s:=by
 rw [arm_exec_Raise]
 simp only [evalOpt,Option.map]
 refine wpAny_bind (wpAny_standAt (Fy (C:=C) (nm:=nm) (q:=q) (N:=N) (bs:=bs) (bm:=bm) (hdct:=hdct) (sn:=sn) (sub:=sub) (ab:=ab) (col:=col) (dd:=dd) (k0:=k0) (k1:=k1) (k2:=k2) (k3:=k3) (k5:=k5) (newId:=newId) hbase hh ?_ fun s' P z=>wpAny_bind (wpAny_Constant_none (wpAny_bind (wpAny_standAt (wpAny_pure z))))))
 refine wpAny_bind (wpAny_mono (wpAny_Call_ofName (wpAny_mono h (fun f s₁ h₁=>?_) fun _ _ z=>z)) (fun v s₃ h₃=>wpAny_bind (wpAny_standAt (wpAny_pure h₃))) fun _ _ z=>z)
 obtain ⟨rfl,h₁⟩:=h₁
 unfold callWith
 refine wpAny_bind (wpAny_holding (wpAny_mono h₁ (fun v s₂ h₂=>wpAny_bind (wpAny_standAt ?_)) fun _ _ z=>z))
 obtain ⟨ps,kw⟩:=v
 obtain ⟨hkw,hlen,hC,hn,T,hl,h₂⟩:=h₂
 cases (show kw=[] from hkw)
 obtain ⟨hp,g,d,tk,os⟩:=s₂
 simp only [hplain]
 refine wpAny_bind (wpAny_keeperOf_exc hC (wpAny_bind (wpAny_call_exc_subT (hrest:=hlen) F T hC hn hni fun h' e hm=>wpAny_bind (wpAny_holding (wpAny_point (wpAny_pure ?_))))))
 obtain ⟨t,ht,_,_⟩:=hm.there
 obtain ⟨oa,va,l1,l2,l3⟩:=hl
 have new:=hm.new
 refine ⟨e,t,rfl,hm.keeps _ _ hC,ht,fun z=>?_,fun z=>?_,⟨oa,va,hm.keeps _ _ l1,l2,l3⟩,h₂ h' e hm⟩
 ·rw [z,new] at l1
  cases l1
 ·have hC:hp.get? C=_:=hC
  rw [z,new] at hC
  cases hC
end
end L2
namespace L2
open PySem PySem.Spec PyProof PyProof.Rows
open PySem.W (hideAll)
noncomputable def XH (P:Program) (w:World):ua:=fun l H s E e s'=>qD P w l H s E e s'/\∃ a,e=.ref a/\vK a s'.heap
section
variable {P:Program} {w:World} {K:PySem.W.Frag} {mg:Str->Option Value} {base:Heap} {N:List Str} {qual:Str} {scope:Scope} {f:Addr} {cd:Value} {A:Around} {outer:List Env} {s₀:Shared} {H₀:Hp} {E:XK}
noncomputable abbrev jW (P:Program) (w:World) (K:PySem.W.Frag) (mg:Str->Option Value) (base:Heap) (N:List Str) (qual:Str) (scope:Scope) (f:Addr) (cd:Value) (A:Around) (outer:List Env) (s:Shared) (H:Hp) (E:XK):Cx:=
 vj (XH P w) P w K mg base N qual scope f cd A outer s H E
theorem JZ:ZI (jW P w K mg base N qual scope f cd A outer s₀ H₀ E) E:=by
 intro pins σ H s a C vs h' I hm hE
 show wpAny (model P w) _ (leaving _ (.ref a)) _ _ _
 refine Ms (s:={ s with heap:=h' }) (base:=hideAll s.heap (yT (jW P w K mg base N qual scope f cd A outer s₀ H₀ E).stack)) I.ok.frames rfl (fun b o q=>PySem.W.of_hideAll _ q) (PySem.W.funFrames_hide I.stack fun env he b hb=>List.mem_filterMap.mpr ⟨env,he,hb⟩) hm fun h2 t x1 x2 x4=>?_
 exact ⟨⟨a,C,.ref t,_,H,rfl,I.os,I.bare,x1,xQ.pop I rfl rfl rfl (xQ.made I x1.1 ((Heap.UpToSlots.of_keeps hm.keeps).trans x4)),hE⟩,a,rfl,x2⟩
theorem DK:PassesOwn (model P w) (jW P w K mg base N qual scope f cd A outer s₀ H₀ E).A (jW P w K mg base N qual scope f cd A outer s₀ H₀ E).env (jW P w K mg base N qual scope f cd A outer s₀ H₀ E).xe:=PassesOwn.leaving
noncomputable def gK (P:Program) (w:World) (K:PySem.W.Frag) (mg:Str->Option Value) (base:Heap) (x:Str) (ps:List Str) (k:Nat) (sp:Sp):Prop:=
 ∃ (f:Addr) (fd:FuncData),mg x=some (.ref f)/\PySem.W.keepIn K (.ref f)=true/\uZ K fd ps []/\wv P w K mg base (XH P w) k f fd ps sp
noncomputable def Xo (X:Cx) (E:XK):Prop:=∀ (pins:List (Addr×Obj)) (σ:St) (H:Hp) (s:Shared) (e C:Addr) (a0:Value) (h':Heap),Inv X pins σ H s->Heap.HeldW (hideAll s.heap (yT X.stack)) X.stack e (.ref C) a0 X.env.locals h'->s.heap.UpToSlots h'->E (.ref C) none H->X.xe (.ref e) { s with heap:=h' }
theorem M2:Xo (uH P w K mg base N qual scope f cd A outer s₀ H₀ E) E:=by
 intro pins σ H s e C a0 h' I hh up hE
 show wpAny (model P w) _ (leaving _ (.ref e)) _ _ _
 unfold leaving
 refine wpAny_bind (wpAny_noteFrame_againW (s:={ s with heap:=h' }) rfl hh.2.2.2 ?_)
 refine wpAny_landsW (s:={ s with heap:=h' }) hh fun h2 fl up2=>?_
 obtain ⟨k1,k2,⟨_,_,k3⟩,k4⟩:=fl
 exact ⟨e,C,a0,_,H,rfl,I.os,I.bare,⟨k1,k2,k3,k4⟩,xQ.pop I rfl rfl rfl (xQ.made I k1 (up.trans up2)),hE⟩
end
noncomputable def ZB (a C:Addr) (h:Heap):Prop:=∃ o vs,h.get? a=some o/\o.cls=.ref C/\o.data=.fields vs/\vs[2]?=some .none
structure Ua (X:Cx) (e:Expr) (t:TX):Prop where
 h:∀ (pins:List (Addr×Obj)) (s:Shared) (σ:St) (H:Hp) (Q:VK) (E:XK),Inv X pins σ H s->t σ H Q E->wpAny (model X.prog X.w) X.A (eval e X.env) (EP X pins σ Q) (fun ev s'=>∃ H s1,Inv X pins σ H s1/\XH X.prog X.w X.stack H s1 E ev s') s
section
variable {X:Cx} {x y:Str} {p pos np yp hpos tpos cpos kp rpos:Pos} {e a1:Expr} {es as_:List Expr} {ta:TA} {tx:TX} {ps:List Str} {j k ck:Nat} {sp:Sp} {E:XK} {D C2:Addr}
theorem Fo (h:gK X.prog X.w X.K X.mg X.base x ps k sp) (hr:yg j X.A) (hg:Gl X x) (ha:QA X.nox (e::es) ta) (hk:k<=j:=by decide) (hdb:(x == ("__debug__" : Str))=false:=by decide)
  (he:(e::es).all yf=true:=by rfl):Ua X (.Call (.Name x p) (e::es) [] pos) (Iz sp ta):=by
 obtain ⟨f,fd,hm,kp,b,F⟩:=h
 rw [List.all_cons,Bool.and_eq_true] at he
 refine ⟨fun pins s σ H Q E I q=>wpAny_Call_Name_kw (tW I hg hm ?_ hdb)⟩
 have ha':=ha.h pos pins s σ H (fun vs H1=>sp vs H1 Q E) (I.wish _) q
 refine PySem.W.callWith_K (h₀:=X.base) I.ok.mod.kin kp (wpAny_mono ha' (fun us s1 ⟨vs,H1,I1',r,q1⟩=>?_) fun _ _ z=>z.elim) (wc he.1) (tG he.2)
 have I1:Inv X pins σ H1 s1:=I1'.unwish
 refine ⟨I1.kIn,?_⟩
 have hl:us.length=ps.length:=by rw [<- r.length]; exact F.len _ _ _ _ q1
 have hb:=b s1 us I1.kIn (by rw [List.append_nil]; exact hl)
 rw [List.append_nil] at hb
 refine wpAny_call (codeAny_mono (F.run X.A X.stack s1 H1 ⟨us,[]⟩ us vs Q E (hr.mono hk) I1.env0 hb r q1) fun r s' hq=>?_)
 cases r with
 | error e=>exact ⟨H1,s1,I1,hq⟩
 | ok fl=>
  cases fl with
  | ret u=>exact I1.after hq
  | next=>exact False.elim hq
  | brk=>exact False.elim hq
  | cont=>exact False.elim hq
theorem LR {pins:List (Addr×Obj)} {σ:St} {H H':Hp} {s1 s':Shared} {a C:Addr} {a0:Value} {B:Heap} (I:Inv X pins σ H s1) (hex:X.ex=[]) (ho:s'.os=s1.os) (hg:AllBare s'.gens)
  (fl:Heap.FlyingW B X.stack a (.ref C) a0 s'.heap) (x:xQ X.prog X.w X.stack H s1.heap B H' s'.heap) (hl:vK a s'.heap):H' a=none/\Inv X pins σ (zu H' a (.ext (ZB a C))) s':=by
 obtain ⟨na,_,_⟩:=Zn I hex ho hg fl x
 obtain ⟨oe,vs,e1,c1,d1,_⟩:=fl.first
 have ns:s1.heap.get? a=none:=by
  cases q:s1.heap.get? a with
  | none=>rfl
  | some o=>
   exfalso
   by_cases hb:a∈yT X.stack
   ·obtain ⟨n0,o2,e2,d2⟩:=I.frData a hb
    obtain ⟨sl,e3⟩:=x.un.slot a o2 e2 n0 hb (by simp)
    rw [e1] at e3
    cases e3
    exact d2 vs d1
   ·obtain ⟨o',e'⟩:=x.all a o q hb
    rw [fl.2.1] at e'
    cases e'
 obtain ⟨o2,v2,q1,q2,q3⟩:=hl
 rw [e1] at q1
 cases q1
 rw [d1] at q2
 cases q2
 exact ⟨na,I.call' ho (Il x.un ns na) (Wu x.ok na ⟨⟨oe,vs,e1,c1,d1,q3⟩,⟨oe,e1⟩,fun h1 h2 ⟨o,ws,q1,q2,q3,q4⟩ k=>⟨o,ws,k o q1,q2,q3,q4⟩⟩) hg (ch:=[]) (fun b hb=>absurd hb (by simp))⟩
noncomputable def EV (K:PySem.W.Frag) (D C2:Addr) (tx:TX) (ta:TA) (E:XK):TS:=fun F σ H=>tx σ H F.rt fun cv _ H1=>∃ C,cv=.ref C/\PySem.W.exmOne K (.ref C) (.ref D)=some true/\
 ∀ a,H1 a=none->ta σ (zu H1 a (.ext (ZB a C))) fun vs H2=>vs.length<=sizeLine/\H2 a=some (.ext (ZB a C))/\E (.ref C2) none H2
theorem FH (hst:X.stack=X.env::X.outer) (hf:X.env.frame=some X.env.locals) (hex:X.ex=[]) (hcalm:X.A.handled=none) (hd:X.mg x=some (.ref D)) (hg:Gl X x) (hb:Ua X e tx) (c2:xO X.K X.mg y C2) (hgy:Gl X y) (hH:Xo X E) (ha:∀ a,QA (X.marked a) (a1::as_) ta)
  (hdb:(x == ("__debug__" : Str))=false:=by decide) (hdy:(y == ("__debug__" : Str))=false:=by decide) (he:(a1::as_).all yf=true:=by rfl) :
  PS X (.Try [.Return (some e) pos] [.ExceptHandler (some (.Name x np)) none [.Raise (some (.Call (.Name y yp) (a1::as_) [] cpos)) (some (.Constant .none ck kp)) rpos] hpos] [] [] tpos) (EV X.K D C2 tx ta E):=by
 intro pins s σ H F I h
 refine wpAny_Try_except (wpAny_execs_cons (wpAny_Return_some (wpAny_mono (hb.h pins s σ H _ _ I h) (fun u s1 ⟨v,H1,I1,r1,q1⟩=>⟨v,σ,H1,I1,r1,q1⟩) fun ev s1 z=>?_)))
 obtain ⟨H0,s0,I0,⟨a,C,a0,B,H',rfl,ho,hg',fl,xd,C',hC,hm,hq⟩,a',ea,lone⟩:=z
 cases hC
 cases ea
 have fr:=I0.frData
 have hfr:X.A.frames=some (X.env::X.outer):=by rw [I0.ok.frames,hst]
 have fl':=fl
 rw [hst] at fl'
 refine Mw hfr hf fl' lone fun h2 held l2 up2=>?_
 refine Zu (s:={ s1 with heap:=h2 }) (fr:=none) held.1 held.2.2.1 held.2.2.2 fun h3 k1 k2 k3 l3 up3=>?_
 have fl3:Heap.FlyingW B X.stack a (.ref C) a0 h3:=by rw [hst]; exact ⟨k1,held.2.1,k2,k3⟩
 have x3:xQ X.prog X.w X.stack H0 s0.heap B H' h3:=xd.fly fl.1 k1 (up2.trans up3) fr
 obtain ⟨na,J3,_⟩:=Zn (s':={ s1 with heap:=h3 }) I0 hex ho hg' fl3 x3
 refine wpAny_handleBy_cons (codeAny_handlers_test ?_) (by intro q; cases q)
 refine tW (X:=X.marked a) (J3.marked a) hg hd ?_ hdb
 obtain ⟨ob,hob,hobc⟩:=fl3.there
 have LT:PySem.W.Looks (model X.prog X.w) h3 (typeOf (.ref a)) (.ref C):=hobc ▸ (PySem.W.Looks.ld hob).andThen .now
 refine (PySem.W.exm_one (K:=X.K) (show X.K.In h3 from J3.kIn) LT hm).here ?_
 show codeAny _ _ (.handlers (.ref a) [.ExceptHandler none none [_] hpos] X.env) _ _
 refine codeAny_handlers_suite ?_
 refine Zu (s:={ s1 with heap:=h3 }) (fr:=none) k1 k2 k3 fun h4 m1 m2 m3 l4 up4=>?_
 have fl4:Heap.FlyingW B X.stack a (.ref C) a0 h4:=by rw [hst]; exact ⟨m1,held.2.1,m2,m3⟩
 have x4:xQ X.prog X.w X.stack H0 s0.heap B H' h4:=x3.fly k1 m1 up4 fr
 obtain ⟨_,J4⟩:=LR (s':={ s1 with heap:=h4 }) I0 hex ho hg' fl4 x4 (l4 (l3 l2))
 refine wpAny_execs_cons ?_
 have he':=he
 rw [List.all_cons,Bool.and_eq_true] at he'
 have O:=c2.own J4.mod.kin
 obtain ⟨tl,N,nm,q,bs,hdct,sn,sub,ab,col,dd,k0,k1',k2',k3',k5,mN,hC,hN,hni,T⟩:=O.obj
 have FB:=PySem.F.excBase_ValueError
 refine Fz (C:=C2) (nm:=nm) (q:=q) (N:=N) (bs:=bs) (bm:=tl) (hdct:=hdct) (sn:=sn) (sub:=sub) (ab:=ab) (col:=col) (dd:=dd) (k0:=k0) (k1:=k1') (k2:=k2') (k3:=k3') (k5:=k5)
  FB (mN:=mN) (T.hasType FB.hasBase) rfl (tG he) hni (tW (X:=X.marked a) (J4.marked a) hgy c2.at_ ⟨rfl,?_⟩ hdy)
 have ha':=(ha a).h cpos pins _ σ _ _ (J4.marked a) (hq a na)
 rw [wc he'.1] at ha' ⊢
 refine Calls.evalArgs_plain (wpAny_mono ha' (fun us s2 ⟨vs,H2,I2m,r,hl,hHa,q1⟩=>?_) fun _ _ z=>z.elim)
 have I2:Inv X pins σ H2 s2:=I2m.unmarked fun _=>hcalm
 have Lo:vK a s2.heap:=by
  obtain ⟨⟨o,ws,z1,_,z3,z4⟩,_⟩:=I2.hok a _ hHa
  exact ⟨o,ws,z1,z3,z4⟩
 refine ⟨rfl,by rw [<- r.length]; exact hl,I2m.bk _ _ hC,hN.keeps I2m.bk,T.keeps I2m.bk,Lo,fun h' e2 hm2=>?_⟩
 obtain ⟨t,ht,_,_⟩:=hm2.there
 have new:=hm2.new
 have kp:∀ b o,s2.heap.get? b=some o->(g5 h' e2 a).get? b=some o:=fun b o z=>by
  have ne:e2≠b:=fun w=>by rw [<- w,new] at z; cases z
  unfold g5
  rw [Heap.get?_update_other _ _ ne,Heap.get?_update_other _ _ ne,Heap.get?_update_other _ _ ne]
  exact hm2.keeps b o z
 have oe:(g5 h' e2 a).get? e2=some { cls:=.ref C2,data:=.fields #[.ref t,.none,.ref a,.none,.bool true,.none] }:=by
  have e3:=(Heap.get?_update_self (Obj.mapFields (·.setIfInBounds 3 .none)) ht rfl)
  have e4:=(Heap.get?_update_self (Obj.mapFields (·.setIfInBounds 4 (.bool true))) e3 rfl)
  exact (Heap.get?_update_self (Obj.mapFields (·.setIfInBounds 2 (.ref a))) e4 rfl).trans rfl
 have hfs:=PySem.W.funFrames_hide I2.stack fun env he b hb=>List.mem_filterMap.mpr ⟨env,he,hb⟩
 have hen:(hideAll s2.heap (yT X.stack)).get? e2=none:=by
  cases z:(hideAll s2.heap (yT X.stack)).get? e2 with
  | none=>rfl
  | some o=>
   have:=PySem.W.of_hideAll _ z
   rw [new] at this
   cases this
 have hfs':s2.heap.FunFrames (hideAll s2.heap (yT X.stack)) (X.env::X.outer):=by rw [<- hst]; exact hfs
 refine BP (s:={ s2 with heap:=g5 h' e2 a }) (base:=hideAll s2.heap (yT X.stack)) hfr (hfs'.of_keeps fun b o z _=>⟨o,kp b o z,rfl⟩) hf oe (fun b o z=>kp b o (PySem.W.of_hideAll _ z)) hen rfl (a0:=.ref t) rfl rfl fun h5 held5 up5=>?_
 obtain ⟨b1,b2,b3,oe5,vs5,T5,oT5,ts5,he5,hc5,hd5,h15,r5⟩:=held5
 show wpAny (model X.prog X.w) X.A (do
  if (<- field (.ref e2) 1) == .none then unsupported "frame.own-activation:exception-without-traceback"
  setFlight (.ref e2) X.env.frame) _ _ _
 refine wpAny_bind (wpAny_field (s:={ s2 with heap:=h5 }) he5 hd5 h15 ?_)
 rw [if_neg (by simp),hf]
 refine Zu (s:={ s2 with heap:=h5 }) (fr:=some X.env.locals) b1 b3 ⟨oe5,vs5,T5,oT5,ts5,he5,hc5,hd5,h15,r5⟩ fun h6 c1 c3 c4 _ up6=>?_
 have st6:∀ l,l=X.env::X.outer->h6.FunFrames (hideAll s2.heap (yT X.stack)) l:=fun l z=>by rw [z]; exact c3
 exact hH pins σ H2 s2 e2 C2 (.ref t) h6 I2 ⟨c1,b2,st6 _ hst,c4⟩ (((Heap.UpToSlots.of_keeps kp).trans up5).trans up6) q1
end
end L2
namespace L3
open PySem PySem.Spec PyProof PyProof.Rows L2
structure gQ (X:Cx) (E:XK) (st:Stmt) (f:yr):Prop where
 h:∃ t,PS X st t/\∀ {G0 H0 G H:Hp} {τ:zz} {σ:St} {r:Sum Fl Str} {En:wq},zo X.K X.N.length G0 H0 G H τ σ->f τ=some r->Xv X.K X.N.length X.mg G0 H0 En E r->t En σ H
noncomputable def qr:yr:=fun τ=>some (.inl (.nx τ))
noncomputable def wo (g f:yr):yr:=fun τ=>(g τ).bind fun r=>match r with
 | .inl (.nx τ')=>f τ'
 | r=>some r
noncomputable def Z8 (c:FT) (a b:yr):yr:=fun τ=>(c τ).bind fun k=>match k with
 | true=>a τ
 | false=>b τ
noncomputable def tX (g:FG) (b:yr):List D->yr
 | [],τ=>some (.inl (.nx τ))
 | d::ds,τ=>(g d τ).bind fun τ1=>(b τ1).bind fun r=>match r with
  | .inl (.nx τ2)=>tX g b ds τ2
  | .inl (.ct τ2)=>tX g b ds τ2
  | .inl (.bk τ2)=>some (.inl (.nx τ2))
  | .inl (.rt o x)=>some (.inl (.rt o x))
  | .inr x=>some (.inr x)
noncomputable def py (fs:FA) (g:FG) (b:yr):yr:=fun τ=>(fs τ).bind fun ds=>tX g b ds τ
noncomputable def X5 (i:Nat) (F:FX) (fa:FA):yr:=fun τ=>(fa τ).bind fun ds=>(F ds).bind fun r=>match r with
 | .inl (false,d)=>(xX i xJ (eC d) τ).bind fun fl=>some (.inl fl)
 | .inl (true,_)=>none
 | .inr x=>match τ[i]? with
  | some (some (true,.lst _))=>some (.inr x)
  | _=>none
noncomputable def X6 (z y:Str) (F:FX) (fa fb:FA):yr:=fun τ=>(fa τ).bind fun ds=>(F ds).bind fun r=>match r with
 | .inl (o,d)=>some (.inl (.rt o d))
 | .inr x=>if x=z then (fb τ).bind fun vs=>if vs.length<=1000 then some (.inr y) else none else none
noncomputable def gi (F:FX) (fa:FA):FE:=fun τ=>(fa τ).bind fun ds=>(F ds).bind fun r=>match r with
 | .inl (_,d)=>some d
 | .inr _=>none
section
variable {X:Cx} {E:XK} {i j k ck:Nat} {f x y z v:Str} {C C2 D':Addr} {st:Stmt} {yG sa sb body:List Stmt} {g fa' fb' fbd:yr} {ff:yr} {ft:FT} {fa fb fs:FA} {fg:FG} {F:FX} {ps:List Str} {c e a1 tg iter:Expr} {es as_:List Expr} {pos np yp fp xp cp apos cpos hpos tpos kp rpos:Pos}
theorem Yu:vL X E [] qr:=⟨⟨_,VM,fun {G0 H0 G H τ σ r En} K hf q=>by cases hf; exact q _ _ _ K⟩⟩
theorem Z5 (h1:gQ X E st g) (h2:vL X E yG ff):vL X E (st::yG) (wo g ff):=by
 obtain ⟨t,p,k⟩:=h1.h
 obtain ⟨t',p',k'⟩:=h2.h
 refine ⟨⟨_,YS p p',fun {G0 H0 G H τ σ r En} K hf q=>?_⟩⟩
 obtain ⟨r1,h1,hf⟩:=zL hf
 refine k K h1 ?_
 cases r1 with
 | inr x=>cases hf; exact q
 | inl fl=>
  cases fl with
  | nx τ'=>exact fun σ' G' H' K'=>k' K' hf q
  | rt o d=>cases hf; exact xf.with (E:=En) (fl:=.rt o d) q (fun _ z=>nomatch z) (fun _ z=>nomatch z) (fun _ z=>nomatch z) rfl
  | bk τ'=>cases hf; exact q
  | ct τ'=>cases hf; exact q
theorem E3 (hc:ST X c ft) (ha:vL X E sa fa') (hb:vL X E sb fb'):gQ X E (.If c sa sb pos) (Z8 ft fa' fb'):=by
 obtain ⟨tc,pc,kc⟩:=hc.h
 obtain ⟨ta,pa,ka⟩:=ha.h
 obtain ⟨tb,pb,kb⟩:=hb.h
 refine ⟨⟨_,VJ pc pa pb,fun {G0 H0 G H τ σ r En} K hf q=>?_⟩⟩
 obtain ⟨b,hk,hf⟩:=zL hf
 refine kc K hk fun G1 H1 x1=>?_
 cases b with
 | true=>exact ut (ka (K.go x1) hf q)
 | false=>exact ur (kb (K.go x1) hf q)
theorem qM.near {mg:Str->Option Value} {G0 H0 Ga Ha:Hp} (xx:zU G0 H0 Ga Ha) (h:qM mg G0 H0 E x):qM mg Ga H0 E x:=by
 obtain ⟨C,h1,h2⟩:=h
 exact ⟨C,h1,fun G' H' y=>h2 G' H' (xx.rebase y)⟩
theorem IV (hp:PassesOwn (model X.prog X.w) X.A X.env X.xe) (hc:X.calm=true) (hi:SI X tg iter fs) (hg:SG X tg fg) (hb:vL X E body fbd) (hs:∀ x,foldedSetIterable iter X.env x=pure x:=by intro _; rfl):gQ X E (.For tg iter body [] pos) (py fs fg fbd):=by
 obtain ⟨ti,pi,ki⟩:=hi.h
 obtain ⟨tg',pg,kg⟩:=hg.h
 obtain ⟨tb,pb,kb⟩:=hb.h
 refine ⟨⟨_,J8 hp hc pi pg pb hs,fun {G0 H0 G H τ σ r En} K hf q=>?_⟩⟩
 obtain ⟨ds,hd,hf⟩:=zL hf
 refine ki K hd fun J Ga Ha xa _ wk=>?_
 have Ka:=K.go xa
 have q':Xv X.K X.N.length X.mg Ga H0 En E r:=by
  cases r with
  | inl fl=>exact xf.near Ka.ext q
  | inr x=>exact qM.near Ka.ext q
 refine ⟨fun i m σ H=>m=ds.length - i/\i<=ds.length/\∃ τ G,zo X.K X.N.length Ga H0 G H τ σ/\tX fg fbd (ds.drop i) τ=some r,⟨ds.length,rfl,Nat.zero_le _,τ,Ga,Ka.far,hf⟩,?_⟩
 rintro i m σ H ⟨rfl,hle,τ,G,K,hf⟩
 by_cases hlt:i<ds.length
 ·refine .inr ⟨wk.go i G H K.ext.g K.ext.gh hlt,fun σ' H'=>∃ τ G,zo X.K X.N.length Ga H0 G H' τ σ'/\tX fg fbd (ds.drop (i+1)) τ=some r,fun σ' H' z=>⟨ds.length - (i+1),by omega,rfl,hlt,z⟩,fun x H' y=>?_⟩
  obtain ⟨G3,d,x3,ed,rd⟩:=wk.yld i G H x H' K.ext.g K.ext.gh hlt y
  rw [List.drop_eq_getElem_cons hlt] at hf
  rw [List.getElem?_eq_getElem hlt] at ed
  cases ed
  obtain ⟨τ1,h1,hf⟩:=zL (show (fg _ τ).bind _=_ from hf)
  obtain ⟨f1,h2,hf⟩:=zL hf
  refine kg (K.go x3) rd h1 fun σ1 K1=>kb K1 h2 ?_
  cases f1 with
  | inr x=>cases hf; exact q'
  | inl fl=>
   cases fl with
   | nx τ2=>exact fun σ2 G2 H2 K2=>⟨τ2,G2,K2,hf⟩
   | ct τ2=>exact fun σ2 G2 H2 K2=>⟨τ2,G2,K2,hf⟩
   | bk τ2=>cases hf; exact q'
   | rt o d=>cases hf; exact xf.with (E:=En) (fl:=.rt o d) q' (fun _ z=>nomatch z) (fun _ z=>nomatch z) (fun _ z=>nomatch z) rfl
 ·have e:ds.drop i=[]:=List.drop_eq_nil_of_le (by omega)
  rw [e] at hf
  cases hf
  exact .inl ⟨wk.stop i G H K.ext.g K.ext.gh (by omega),q' _ _ _ K⟩
theorem E2 (ho:QE X (.Name v xp) (tw i)) (hF:uF X.prog X.w X.K X.mg X.base f ps k (u0 X.K X.mg F)) (hx:qK (qD X.prog X.w) X E) (hr:yg j X.A) (hg:Gl X f) (ha:SA X (e::es) fa) (hk:k<=j:=by decide) (hdb:(f == ("__debug__" : Str))=false:=by decide) (he:(e::es).all yf=true:=by rfl)
  (hbase:attributeBase (.Name v xp) "append" X.env (eval (.Name v xp) X.env)=eval (.Name v xp) X.env:=by rfl) (hline:(apos.endLine == cpos.line)=true:=by rfl) :
  gQ X E (.Expr (.Call (.Attribute (.Name v xp) "append" apos) [.Call (.Name f fp) (e::es) [] cp] [] cpos) pos) (X5 i F fa):=by
 obtain ⟨ta,pa,ka⟩:=ha.h
 refine ⟨⟨_,(JG (pR PySem.F.plainAttrs_list PySem.F.slot_list_append PySem.F.type_list_append Qe ho (kZ (JC hF hx hr hg ⟨pa⟩ hk hdb he) VO rfl) hbase hline rfl (by show 1<30; decide)) rfl).h,fun {G0 H0 G H τ σ r En} K hf q=>?_⟩⟩
 obtain ⟨ds,hd,hf⟩:=zL hf
 obtain ⟨r',hr',hf⟩:=zL hf
 cases r' with
 | inr w=>
  dsimp only at hf
  split at hf
  ·rename_i L hL
   cases hf
   obtain ⟨a,ea,g,z,o⟩:=K.ow _ _ hL
   obtain ⟨vs,ev,rs,l⟩:=o
   refine ⟨_,ea,.inl ⟨rfl,vs,yU.of ev⟩,ka K hd fun us G1 H1 x1 r1=>?_⟩
   rw [List.append_nil]
   refine ⟨G1,ds,_,x1.gh,r1,hr',?_⟩
   obtain ⟨C',hm,q⟩:=q
   exact ⟨C',hm,fun G' H' x2=>q G' H' ((K.ext.trans x1).trans x2)⟩
  ·cases hf
 | inl od=>
  obtain ⟨o,d⟩:=od
  cases o with
  | true=>cases hf
  | false=>
   obtain ⟨fl,h1,hf⟩:=zL hf
   cases hf
   unfold xX at h1
   split at h1
   ·rename_i d0 hd0
    obtain ⟨y',hy,h1⟩:=zL h1
    cases hy
    obtain ⟨d',hd',h1⟩:=zL h1
    cases h1
    obtain ⟨a,ea,g,z,o⟩:=K.ow _ _ hd0
    cases d0 with
    | lst ls=>
     obtain ⟨vs,ev,rs,l⟩:=o
     refine ⟨_,ea,.inl ⟨rfl,vs,yU.of ev⟩,ka K hd fun us G1 H1 x1 r1=>?_⟩
     rw [List.append_nil]
     refine ⟨G1,ds,_,x1.gh,r1,hr',fun u G2 H2 x2 hu=>?_⟩
     change (if ls.length<yA then some (D.lst (ls++[d])) else none)=some d' at hd'
     by_cases c:ls.length<yA
     ·rw [if_pos c] at hd'
      cases hd'
      have x12:=x1.trans x2
      refine ⟨a,vs,u,rfl,rfl,x12.h _ _ ev,by rw [rs.length,sizeLine_eq]; exact c,?_⟩
      refine q _ _ _ ((K.go x12).mut hd0 ea ⟨vs++[u],xH,(rs.mono x12.g).append (Reps.one hu),?_⟩)
      rw [List.length_append,sizeLine_eq]
      exact c
     ·rw [if_neg c] at hd'
      cases hd'
    | _=>cases hd'
   ·cases h1
noncomputable def IY (K:PySem.W.Frag) (n:Nat) (f:FA):TA:=fun σ H Q=>∃ G0 H0 G τ ds,zo K n G0 H0 G H τ σ/\f τ=some ds/\∀ vs G' H',zU G H G' H'->Reps K G' ds vs->Q vs H'
theorem SA.asT (h:SA X es fa):QA X es (IY X.K X.N.length fa):=by
 obtain ⟨t,p,k⟩:=h.h
 refine ⟨fun q pins s σ H Q I z=>?_⟩
 obtain ⟨G0,H0,G,τ,ds,K,hf,z⟩:=z
 exact p q pins s σ H Q I (k K hf z)
theorem E4 (hst:X.stack=X.env::X.outer) (hfr:X.env.frame=some X.env.locals) (hex:X.ex=[]) (hr:yg j X.A) (hF:gK X.prog X.w X.K X.mg X.base f ps k (u0 X.K X.mg F)) (hgf:Gl X f) (ha:SA X.nox (e::es) fa) (hD:X.mg x=some (.ref D')) (hgx:Gl X x) (hz:X.mg z=some (.ref C)) (hm:PySem.W.exmOne X.K (.ref C) (.ref D')=some true)
  (c2:xO X.K X.mg y C2) (hgy:Gl X y) (hH:Xo X E) (hb:∀ a,SA (X.marked a) (a1::as_) fb) (hk:k<=j:=by decide) (hdf:(f == ("__debug__" : Str))=false:=by decide) (he:(e::es).all yf=true:=by rfl) (hdb:(x == ("__debug__" : Str))=false:=by decide) (hdy:(y == ("__debug__" : Str))=false:=by decide) (he2:(a1::as_).all yf=true:=by rfl) :
  gQ X E (.Try [.Return (some (.Call (.Name f fp) (e::es) [] cp)) pos] [.ExceptHandler (some (.Name x np)) none [.Raise (some (.Call (.Name y yp) (a1::as_) [] cpos)) (some (.Constant .none ck kp)) rpos] hpos] [] [] tpos) (X6 z y F fa fb):=by
 obtain ⟨ta,pa,ka⟩:=ha.h
 refine ⟨⟨_,FH (ta:=IY X.K X.N.length fb) hst hfr hex hr.hd hD hgx (Fo hF hr hgf ⟨pa⟩ hk hdf he) c2 hgy hH (fun a=>(hb a).asT) hdb hdy he2,fun {G0 H0 G H τ σ r En} K hf q=>?_⟩⟩
 obtain ⟨ds,hd,hf⟩:=zL hf
 obtain ⟨r',hr',hf⟩:=zL hf
 refine ka K hd fun vs G1 H1 x1 r1=>⟨G1,ds,r',x1.gh,r1,hr',?_⟩
 cases r' with
 | inl od=>
  obtain ⟨o,d⟩:=od
  cases hf
  cases o with
  | false=>exact fun v G' H' x2 rv=>q v G' H' ((K.ext.trans x1).trans x2) rv
  | true=>exact fun p G' H' x2 hp gp ow=>q p G' H' ((K.ext.trans x1).trans x2) ((K.ext.trans x1).h.free hp) gp ow
 | inr w=>
  dsimp only at hf
  by_cases ez:w=z
  ·rw [if_pos ez] at hf
   obtain ⟨us,hu,hf⟩:=zL hf
   by_cases hl:us.length<=1000
   ·rw [if_pos hl] at hf
    cases hf
    refine ⟨C,by rw [ez]; exact hz,fun G2 H2 x2=>⟨C,rfl,hm,fun a na=>?_⟩⟩
    have x3:=zU.layO (o:=.ext (ZB a C)) ((K.ext.trans x1).trans x2).gh na
    refine ⟨G0,H0,G2,τ,us,(K.go (x1.trans x2)).go x3,hu,fun ws G3 H3 x4 r4=>⟨?_,x4.h _ _ xH,?_⟩⟩
    ·rw [r4.length,sizeLine_eq]
     exact Nat.le_trans hl (by decide)
    ·obtain ⟨C',hm',q⟩:=q
     rw [c2.at_] at hm'
     cases hm'
     exact q G3 H3 ((((K.ext.trans x1).trans x2).trans x3).trans x4)
   ·rw [if_neg hl] at hf
    cases hf
  ·rw [if_neg ez] at hf
   cases hf
theorem DO {P:Program} {w:World}:qK (qD P w) X fun _ _ _=>False:=by
 intro pins σ H s e s' I h
 obtain ⟨a,C,a0,B,H',_,_,_,_,_,hE⟩:=h
 exact hE.elim
theorem CS (hF:uF X.prog X.w X.K X.mg X.base f ps k (u0 X.K X.mg F)) (hr:yg j X.A) (hg:Gl X f) (ha:SA X (e::es) fa) (hk:k<=j:=by decide) (hdb:(f == ("__debug__" : Str))=false:=by decide) (he:(e::es).all yf=true:=by rfl) :
  SE X (.Call (.Name f fp) (e::es) [] cp) (gi F fa):=by
 obtain ⟨ta,pa,ka⟩:=ha.h
 refine ⟨⟨_,(JC hF DO hr hg ⟨pa⟩ hk hdb he).h,fun {G0 H0 G H τ σ d Q} K hf q=>?_⟩⟩
 obtain ⟨ds,hd,hf⟩:=zL hf
 obtain ⟨r',hr',hf⟩:=zL hf
 refine ka K hd fun vs G1 H1 x1 r1=>?_
 rw [List.append_nil]
 refine ⟨G1,ds,r',x1.gh,r1,hr',?_⟩
 cases r' with
 | inr w=>cases hf
 | inl od=>
  obtain ⟨o,u⟩:=od
  cases hf
  cases o with
  | false=>exact fun v G' H' x2 rv=>q v G' H' (x1.trans x2) rv
  | true=>
   intro p G' H' x2 hp gp ow
   obtain ⟨u,hu,rv⟩:=ow.frz gp
   exact q _ _ _ (x1.trans (x2.frz hp gp hu)) rv
end
section
variable {P:Program} {w:World} {K:PySem.W.Frag} {mg:Str->Option Value} {base:Heap}
theorem Def.okXSN {x:Str} {st:Stmt} {N ps:List Str} {k:Nat} {F:FX} {b:yr} (d:Def K mg x st ps) (S:yc N ps (y9 st)) (hN:ps.length<=N.length) (hF:∀ ds r,F ds=some r->ds.length=ps.length/\wX N.length b ds=some r)
  (hb:∀ (f:Addr) (cdv:Value) (A:Around) (outer:List Env) (s:Shared) (H:Hp) (E:XK),yg k (A.deeper (envOfC x (y9 st) s.heap.objs.size f cdv))->vL (jW P w K mg base N x (y9 st) f cdv A outer s H E) E (wU st) b):gK P w K mg base x ps (k+1) (u0 K mg F):=by
 obtain ⟨f,fd,Fd,hm,hbd⟩:=d
 obtain ⟨oc,od,kV,doc,pm,an,cdv,ct,osl,rfl,lk,hcd⟩:=Fd.ex
 refine ⟨f,_,hm,Fd.kp,hbd,Wg lk hcd S (fun vs H Q E h=>?_) fun A outer s H vs Q E hr h=>?_⟩
 ·obtain ⟨G,ds,r,_,rs,e,_⟩:=h
  rw [rs.length,(hF _ _ e).1]
 ·obtain ⟨G,ds,r,s',rs,e,q⟩:=h
  obtain ⟨l,hrun⟩:=hF _ _ e
  obtain ⟨t,p,kt⟩:=(hb f cdv A outer s H E hr).h
  obtain ⟨fl,hfl,hrun⟩:=zL hrun
  refine ⟨t,p,kt (Zi (N:=N) s' rs (by omega)) hfl ?_⟩
  cases fl with
  | inr y=>
   cases hrun
   exact q
  | inl fl=>
   cases fl with
   | nx τ=>
    cases hrun
    exact fun σ G' H' z=>q .non G' H' z.ext rfl
   | rt o' d'=>
    cases hrun
    cases o' with
    | false=>exact q
    | true=>exact q
   | bk τ=>cases hrun
   | ct τ=>cases hrun
end
end L3
namespace L3
open PySem
local macro_rules
 | `(tactic| simp! [$ls,*])=>`(tactic| simp only [yP.eq_1,zG.eq_1,zP.eq_1,vB.eq_1,za.eq_1,qi.eq_1,t8.eq_1,zY.eq_1,zm.eq_1,qh.eq_1,Jq.eq_1,xX.eq_1,vz.eq_1,uy.eq_1,uy.eq_2,e1.eq_1,e2.eq_1,eL.eq_1,eC.eq_1,z7.eq_1,w_.eq_1,z8.eq_1,zC.eq_1,tE.eq_1,qO.eq_def,pj.eq_1,vC.eq_1,pp.eq_1,pI.eq_1,TR.eq_1,TQ.eq_1,uI.eq_1,yQ.eq_1,yC.eq_1,TN.eq_1,Wy.eq_def,fI.eq_def,xg.eq_def,yW.eq_def,gv.eq_1,uK.eq_1,zr.eq_1,yh.eq_1,wf.eq_1,Zs.eq_1,Wd.eq_1,qT.eq_def,xy.eq_def,yz.eq_def,uq.eq_def,gu.eq_def,Zr.eq_def,jc.eq_def,zt.eq_1,qW.eq_1,wg.eq_1,zV.eq_1,Zg.eq_1,wD.eq_1,Option.bind_some,Option.bind_none,List.getElem?_cons_zero,List.getElem?_cons_succ,List.set_cons_zero,List.set_cons_succ,List.map_cons,List.map_nil,List.cons_append,List.nil_append,List.length_cons,List.length_nil,List.replicate_zero,List.replicate_succ,Bool.not_true,Bool.not_false,decide_true,decide_false,Bool.and_self,Bool.and_true,Bool.true_and,Nat.reduceAdd,Nat.reduceSub,Int.reduceLT,Int.reduceLE,Int.reducePow,Int.reduceToNat,Int.reduceAdd,Int.reduceSub,Int.reduceMul,Int.reduceNeg,$ls,*])
noncomputable def gy:List D:=[(.str "carry"),(.str "nought"),(.str "sign")]
noncomputable def k9:D:=.tup gy
noncomputable def qX:List (Sum Int Str):=List.map .inr ["label", "set", "high", "copy", "add", "addc", "sub", "subc", "and", "or", "xor", "test", "left", "right", "load", "store", "loadw", "storew", "jump", "when", "unless", "stop"]
noncomputable def qY:List D:=[(.tup [(.str "name")]),(.tup [(.str "d"),(.str "n")]),(.tup [(.str "d"),(.str "n")]),(.tup [(.str "d"),(.str "s")]),(.tup [(.str "d"),(.str "s")]),(.tup [(.str "d"),(.str "s")]),(.tup [(.str "d"),(.str "s")]),(.tup [(.str "d"),(.str "s")]),(.tup [(.str "d"),(.str "s")]),(.tup [(.str "d"),(.str "s")]),(.tup [(.str "d"),(.str "s")]),(.tup [(.str "d"),(.str "s")]),(.tup [(.str "d"),(.str "n")]),(.tup [(.str "d"),(.str "n")]),(.tup [(.str "d"),(.str "s"),(.str "n")]),(.tup [(.str "d"),(.str "s"),(.str "n")]),(.tup [(.str "d"),(.str "s"),(.str "n")]),(.tup [(.str "d"),(.str "s"),(.str "n")]),(.tup [(.str "name")]),(.tup [(.str "mark"),(.str "name")]),(.tup [(.str "mark"),(.str "name")]),(.tup [])]
noncomputable def Ld:List (Sum Int Str):=List.map .inr ["set", "high", "left", "right", "load", "store", "loadw", "storew"]
noncomputable def M1:List D:=[(.int 16),(.int 16),(.int 5),(.int 5),(.int 8),(.int 8),(.int 8),(.int 8)]
noncomputable def vS:List (Sum Int Str):=List.map .inr ["kind", "d", "s", "mark", "distance"]
noncomputable def vT:List D:=[(.tup [(.int 27),(.int 5)]),(.tup [(.int 24),(.int 3)]),(.tup [(.int 21),(.int 3)]),(.tup [(.int 24),(.int 2)]),(.tup [(.int 0),(.int 5)])]
noncomputable def jY:List (Sum Int Str):=List.map .inr ["stop", "set", "high", "copy", "add", "addc", "sub", "subc", "and", "or", "xor", "test", "left", "right", "load", "store", "loadw", "storew"]
noncomputable def kB:List D:=[(.int 0),(.int 1),(.int 2),(.int 3),(.int 4),(.int 5),(.int 6),(.int 7),(.int 8),(.int 9),(.int 10),(.int 11),(.int 12),(.int 13),(.int 14),(.int 15),(.int 16),(.int 17)]
noncomputable def Wm:List (Sum Int Str):=List.map .inr ["jump", "when", "unless"]
noncomputable def Wt:List D:=[(.int 18),(.int 19),(.int 20)]
noncomputable def Wl:List (Sum Int Str):=List.map .inr ["jump", "when", "unless"]
noncomputable def Ws:List D:=[(.int 21),(.int 22),(.int 23)]
noncomputable def gz:List D:=[(.int 28),(.int 24),(.int 20),(.int 16),(.int 12),(.int 8),(.int 4),(.int 0)]
noncomputable def kA:D:=.tup gz
noncomputable def Up:FS:=
 (zG (zY (tE (e2 (yW fun i j=>decide (i<j)) (z7 1) (eL yz (z8 (z7 0) zC))))
   (za (e2 zF (z7 0) (z7 1)))
   zm)
  (za (eC (.int 0))))
theorem MF (ns:List Int) (k:Nat):(ns.map D.int)[k]?=(ns[k]?).map D.int:=List.getElem?_map
noncomputable def vN (ns:List Int) (k:Int):Int:=ns.getD k.toNat 0
noncomputable def wd:List D->Option (Bool×D)
 | [.lst xs,.int k]=>if 0<=k then ((xs[k.toNat]?).getD (.int 0) |> fun d=>some (false,d)) else none
 | _=>none
theorem gZ (ns:List Int) {k:Int} (h:0<=k):wd [.lst (ns.map D.int),.int k]=some (false,.int (vN ns k)):=by
 show (if 0<=k then _ else _)=_
 rw [if_pos h,MF]
 unfold vN
 rw [List.getD_eq_getElem?_getD]
 cases ns[k.toNat]?<;>rfl
theorem CH:∀ ds r,wd ds=some r->ds.length=2/\yP 2 Up ds=some r:=fun ds r h=>by
 unfold wd at h
 split at h
 ·rename_i xs k
  refine ⟨rfl,?_⟩
  by_cases h0:0<=k
  ·rw [if_pos h0] at h
   cases h
   unfold Up
   by_cases c:k<(xs.length:Int)
   ·have e:zF (.lst xs) (.int k)=some ((xs[k.toNat]?).getD (.int 0)):=by
     show xu xs k=_
     unfold xu
     rw [if_pos h0,List.getElem?_eq_getElem (by omega)]
     rfl
    simp! [decide_eq_true c,e]
   ·have e:xs[k.toNat]?=none:=List.getElem?_eq_none (by omega)
    simp! [decide_eq_false c,e,Option.getD]
  ·rw [if_neg h0] at h
   cases h
 ·cases h
noncomputable def lt (k:Int):Str:=⟨#[97+k.toNat]⟩
theorem OA {k:Int} (h0:0<=k) (h1:k<26):xu ("abcdefghijklmnopqrstuvwxyz" : Str).cps.toList k=some (97+k.toNat):=by
 have h:∀ j:Fin 26,xu ("abcdefghijklmnopqrstuvwxyz" : Str).cps.toList (j.val:Int)=some (97+j.val):=by decide +kernel
 have:=h ⟨k.toNat,by omega⟩
 rw [show ((⟨k.toNat,by omega⟩:Fin 26).val:Int)=k by show (k.toNat:Int)=k; omega] at this
 exact this
theorem Xw {k:Int} (h0:0<=k) (h1:k<26):zF (.str "abcdefghijklmnopqrstuvwxyz") (.int k)=some (.str (lt k)):=by
 show (xu _ k).bind _=_
 rw [OA h0 h1]
 rfl
theorem add_str {a b:Str} (h:a.length+b.length<=100000):zR (.str a) (.str b)=some (.str (a++b)):=by
 show (if a.length+b.length<=yA then _ else _)=_
 rw [if_pos (by show _<=16777216; omega)]
theorem xA (a b:Str):(a++b).length=a.length+b.length:=Array.size_append
theorem YI (k:Int):(lt k).length=1:=rfl
theorem kI {g:FG} {c:FT} {e:FE} {σ:zz} (p:D->Bool) (v:D->D):∀ {ds:List D},(∀ d∈ds,∃ σ1,g d σ=some σ1/\c σ1=some (p d)/\(p d=true->e σ1=some (v d)))->ye g c e σ ds=some ((ds.filter p).map v)
 | [],_=>rfl
 | d::ds,h=>by
  obtain ⟨σ1,e1,e2,e3⟩:=h d (List.mem_cons_self ..)
  have ih:=kI p v (ds:=ds) fun x hx=>h x (List.mem_cons_of_mem _ hx)
  show (g d σ).bind _=_
  rw [e1]
  show (c σ1).bind _=_
  rw [e2]
  cases hp:p d with
  | false=>
   rw [List.filter_cons_of_neg (by rw [hp]; decide)]
   exact ih
  | true=>
   rw [List.filter_cons_of_pos hp]
   show (e σ1).bind _=_
   rw [e3 hp]
   show (ye g c e σ ds).bind _=_
   rw [ih]
   rfl
theorem QP {g:FG} {e:FE} {σ:zz} (v:D->D) {ds:List D} (h:∀ d∈ds,∃ σ1,g d σ=some σ1/\e σ1=some (v d)):ye g yk e σ ds=some (ds.map v):=by
 have:=kI (g:=g) (c:=yk) (e:=e) (σ:=σ) (fun _=>true) v (ds:=ds) fun d hd=>by
  obtain ⟨σ1,a,b⟩:=h d hd
  exact ⟨σ1,a,rfl,fun _=>b⟩
 rw [this,List.filter_eq_self.mpr (fun _ _=>rfl)]
inductive vH (R:D->D->Prop):List D->List D->Prop
 | nil:vH R [] []
 | cons {x y:D} {xs ys:List D}:R x y->vH R xs ys->vH R (x::xs) (y::ys)
theorem QO {g:FG} {e:FE} {σ:zz} (R:D->D->Prop):∀ {ds:List D},(∀ d∈ds,∃ σ1 x,g d σ=some σ1/\e σ1=some x/\R d x)->∃ xs,ye g yk e σ ds=some xs/\vH R ds xs
 | [],_=>⟨[],rfl,.nil⟩
 | d::ds,h=>by
  obtain ⟨σ1,x,e1,e2,r⟩:=h d (List.mem_cons_self ..)
  obtain ⟨xs,ih,rs⟩:=QO R (ds:=ds) fun x hx=>h x (List.mem_cons_of_mem _ hx)
  refine ⟨x::xs,?_,.cons r rs⟩
  show (g d σ).bind _=_
  rw [e1]
  show (e σ1).bind _=_
  rw [e2]
  show (ye g yk e σ ds).bind _=_
  rw [ih]
  rfl
theorem pq {n i:Nat} {d:D} (h:(xm n)[i]?=some d):i<n/\d=.int (i:Int):=by
 have hi:i<n:=by
  have:=(List.getElem?_eq_some_iff.mp h).1
  simpa using this
 refine ⟨hi,?_⟩
 simp [hi] at h
 exact h.symm
theorem Im {n:Nat} {d:D} (h:d∈xm n):∃ i:Nat,i<n/\d=.int (i:Int):=by
 obtain ⟨i,hi,e⟩:=List.getElem_of_mem h
 exact ⟨i,(pq (List.getElem?_eq_some_iff.mpr ⟨hi,e⟩))⟩
theorem g4 (n:Nat):(xm n).length=n:=by simp
theorem Uk {α:Type} (xs:List α) (a:α):xu (xs++[a]) (-1)=some a:=by
 unfold xu
 rw [if_neg (by decide),if_pos (by rw [List.length_append,List.length_singleton]; omega)]
 rw [show ((-1:Int)+((xs++[a]).length:Nat)).toNat=xs.length by rw [List.length_append,List.length_singleton]; omega]
 simp
theorem vh {α:Type} {xs:List α} {i:Int} {a:α} (h0:0<=i) (h:xs[i.toNat]?=some a):xu xs i=some a:=by
 unfold xu
 rw [if_pos h0,h]
noncomputable def vt:Nat->D->Bool
 | 0,_=>false
 | n+1,.tup xs=>xs.all (vt n)
 | n+1,.lst xs=>xs.all (vt n)
 | _+1,d=>yL d
theorem WN {f:D->D->Bool}:∀ {xs:List D},(∀ x∈xs,f x x=true)->vO f xs xs=true
 | [],_=>rfl
 | x::xs,h=>by
  show (f x x&&vO f xs xs)=true
  rw [h x (List.mem_cons_self ..),WN fun y hy=>h y (List.mem_cons_of_mem _ hy)]
  rfl
theorem WQ:∀ {xs:List D},(∀ x∈xs,yR x x=true)->dEqs xs xs=true
 | [],_=>by unfold dEqs; rfl
 | x::xs,h=>by
  unfold dEqs
  rw [h x (List.mem_cons_self ..),WQ fun y hy=>h y (List.mem_cons_of_mem _ hy)]
  rfl
theorem kQ:∀ (n:Nat) (d:D),vt n d=true->wC n d d=true/\yR d d=true
 | 0,_,h=>by cases h
 | n+1,d,h=>by
  cases d with
  | tup xs=>
   have h':∀ x∈xs,vt n x=true:=List.all_eq_true.mp h
   exact ⟨WN fun x hx=>(kQ n x (h' x hx)).1,by unfold yR; exact WQ fun x hx=>(kQ n x (h' x hx)).2⟩
  | lst xs=>
   have h':∀ x∈xs,vt n x=true:=List.all_eq_true.mp h
   exact ⟨WN fun x hx=>(kQ n x (h' x hx)).1,by unfold yR; exact WQ fun x hx=>(kQ n x (h' x hx)).2⟩
  | dic ks vs=>cases h
  | exc _=>cases h
  | obj _ _ _=>cases h
  | non=>exact ⟨rfl,by unfold yR; rfl⟩
  | bl b=>exact ⟨rfl,by unfold yR; exact beq_self_eq_true b⟩
  | int i=>exact ⟨rfl,by unfold yR; exact beq_self_eq_true i⟩
  | str z=>exact ⟨rfl,by unfold yR; exact beq_self_eq_true z⟩
theorem Td {d:D} (h:vt 6 d=true):tP d d=some true:=by
 obtain ⟨h1,h2⟩:=kQ 6 d h
 have e:tP d d=match wC 6 d d with
  | true=>some (yR d d)
  | false=>none:=by cases d<;>rfl
 rw [e,h1,h2]
theorem LJ {d:D} (h:vt 6 d=true):zS d d=some (.bl true):=by
 unfold zS
 rw [Td h]
 rfl
theorem VA {d:D} (h:vt 6 d=true):yd d d=some (.bl false):=by
 unfold yd
 rw [Td h]
 rfl
theorem qZ {i j:Int} (h:i=j):zS (.int i) (.int j)=some (.bl true):=by
 subst h
 show some (D.bl (i == i))=_
 rw [beq_self_eq_true]
theorem vq {i j:Int} (h:i≠j):zS (.int i) (.int j)=some (.bl false):=by
 show some (D.bl (i == j))=_
 rw [beq_eq_false_iff_ne.mpr h]
theorem add_int {i j:Int}:zR (.int i) (.int j)=some (.int (i+j)):=rfl
theorem Ys:∀ ts:List Str,tH (ts.map D.str)=some ts
 | []=>rfl
 | t::ts=>by
  show (tH (ts.map D.str)).bind _=_
  rw [Ys ts]
  rfl
theorem MU {sep:Str} {ts:List Str} (h:(ts.map (·.length)).sum+ts.length*sep.length<=1000000):y_ (.str sep) (.lst (ts.map D.str))=some (.str (Builtin.Str.glued sep ts)):=by
 show (tH (ts.map D.str)).bind _=_
 rw [Ys]
 show (if _<=yA then _ else _)=_
 rw [if_pos (by show _<=16777216; omega)]
theorem cut_len (z:Str) (lo hi:Option Int):(L2.cutS z lo hi).length<=z.length:=by
 show ((z.cps.toList.drop _).take _).toArray.size<=z.cps.size
 simp only [List.size_toArray,List.length_take,List.length_drop,Array.length_toList]
 omega
theorem Lc {α:Type} {k:Sum Int Str} {v:α}:∀ {ks:List (Sum Int Str)} {vs:List α},ks.length=vs.length->∀ k',getK (vy ks k) (wW ks vs k v) k'=if k=k' then some v else getK ks vs k':=by
 have one:∀ {ks:List (Sum Int Str)} {vs:List α},ks.length=vs.length->∀ k',wO ks k=true->getK ks (List.zipWith (fun k' x=>if k'=k then v else x) ks vs) k'=if k=k' then some v else getK ks vs k':=by
  intro ks
  induction ks with
  | nil=>intro vs _ k' h; cases h
  | cons a ks ih=>
   intro vs hl k' h
   cases vs with
   | nil=>cases hl
   | cons b vs=>
    rw [List.zipWith_cons_cons]
    unfold getK
    by_cases e1:a=k
    ·subst e1
     by_cases e2:a=k'
     ·rw [if_pos e2,if_pos e2,if_pos rfl]
     ·rw [if_neg e2,if_neg e2,if_neg e2]
      by_cases e3:wO ks a=true
      ·have:=ih (vs:=vs) (by simpa using hl) k' e3
       rw [this,if_neg e2]
      ·have:∀ {ks:List (Sum Int Str)} {vs:List α},ks.length=vs.length->wO ks a=false->getK ks (List.zipWith (fun k' x=>if k'=a then v else x) ks vs) k'=getK ks vs k':=by
        intro ks
        induction ks with
        | nil=>intro vs _ _; rfl
        | cons a' ks ih'=>
         intro vs hl h
         cases vs with
         | nil=>cases hl
         | cons b vs=>
          have h2:decide (a'=a)=false/\wO ks a=false:=by
           have:(decide (a'=a)||wO ks a)=false:=h
           exact Bool.or_eq_false_iff.mp this
          rw [List.zipWith_cons_cons]
          unfold getK
          rw [if_neg (of_decide_eq_false h2.1),ih' (by simpa using hl) h2.2]
       exact this (by simpa using hl) (by simpa using e3)
    ·have h2:wO ks k=true:=by
      have:(decide (a=k)||wO ks k)=true:=h
      rw [decide_eq_false e1] at this
      exact this
     have:=ih (vs:=vs) (by simpa using hl) k' h2
     rw [this,if_neg e1]
     by_cases e2:a=k'
     ·rw [if_pos e2]
      rw [if_neg (fun e=>e1 (e2.trans e.symm)),if_pos e2]
     ·rw [if_neg e2]
      by_cases e3:k=k'
      ·rw [if_pos e3,if_pos e3]
      ·rw [if_neg e3,if_neg e3,if_neg e2]
 intro ks vs hl k'
 unfold vy wW
 by_cases h:wO ks k=true
 ·rw [if_pos h,if_pos h]
  exact one hl k' h
 ·rw [if_neg h,if_neg h]
  clear one
  induction ks generalizing vs with
  | nil=>
   cases vs with
   | nil=>rfl
   | cons _ _=>cases hl
  | cons a ks ih=>
   cases vs with
   | nil=>cases hl
   | cons b vs=>
    have h2:¬ a=k/\¬ wO ks k=true:=by
     have:¬ (decide (a=k)||wO ks k)=true:=h
     constructor
     ·intro e; exact this (by rw [decide_eq_true e]; rfl)
     ·intro e; exact this (by rw [e,Bool.or_true])
    rw [List.cons_append,List.cons_append]
    show (if a=k' then some b else getK (ks++[k]) (vs++[v]) k')=if k=k' then some v else if a=k' then some b else getK ks vs k'
    rw [ih (by simpa using hl) h2.2]
    by_cases e:a=k'
    ·rw [if_pos e,if_pos e]
     rw [if_neg (fun e'=>h2.1 (e.trans e'.symm))]
    ·rw [if_neg e,if_neg e]
theorem qN {L M:List D} (h:L.length+M.length<=1000):zR (.lst L) (.lst M)=some (.lst (L++M)):=by
 show (if L.length+M.length<=yA then _ else _)=_
 rw [if_pos (by show _<=16777216; omega)]
theorem Qh (xs:List D):yd (.lst xs) (.lst [])=some (.bl (!xs.isEmpty)):=by
 cases xs with
 | nil=>exact VA (d:=.lst []) rfl
 | cons x r=>
  have e:yR (.lst (x::r)) (.lst [])=false:=by unfold yR; unfold dEqs; rfl
  show (some (yR (.lst (x::r)) (.lst []))).bind _=_
  rw [e]
  rfl
theorem WK:∀ (n:Nat) {l:List Nat},l.Nodup->(∀ x∈l,x<n)->l.length<=n
 | 0,l,_,h=>by
  cases l with
  | nil=>exact Nat.le_refl _
  | cons x r=>exact absurd (h x (List.mem_cons_self ..)) (Nat.not_lt_zero _)
 | n+1,l,hd,h=>by
  by_cases hm:n∈l
  ·have h1:=WK n (hd.erase n) fun x hx=>by
    have:=(hd.mem_erase_iff).mp hx
    have:=h x this.2
    omega
   rw [List.length_erase_of_mem hm] at h1
   omega
  ·have h1:=WK n hd fun x hx=>by
    have h2:=h x hx
    have h3:x≠n:=fun e=>hm (e ▸ hx)
    omega
   omega
theorem qc {x y:D} {b:Bool} (h:zS x y=some (.bl b)):yd x y=some (.bl (!b)):=by
 unfold zS at h
 unfold yd
 cases e:tP x y with
 | none=>rw [e] at h; cases h
 | some k=>
  rw [e] at h
  cases h
  rfl
theorem DM (x:Int) (w:Nat):Builtin.bitAnd x ((1:Int)*2 ^ w - 1)=x % 2 ^ w:=by
 rw [Int.one_mul,PySem.W.kbt_mask]
theorem VG {a b c d i:Int} (h0:0<=i) (h1:i<4):∃ n,(n=a\/n=b\/n=c\/n=d)/\zF (.lst [.int a,.int b,.int c,.int d]) (.int i)=some (.int n):=by
 rcases (show i=0\/i=1\/i=2\/i=3 by omega) with rfl | rfl | rfl | rfl
 ·exact ⟨a,by simp,rfl⟩
 ·exact ⟨b,by simp,rfl⟩
 ·exact ⟨c,by simp,rfl⟩
 ·exact ⟨d,by simp,rfl⟩
theorem Du {a b c i:Int} (h0:0<=i) (h1:i<3):∃ n,(n=a\/n=b\/n=c)/\zF (.lst [.int a,.int b,.int c]) (.int i)=some (.int n):=by
 rcases (show i=0\/i=1\/i=2 by omega) with rfl | rfl | rfl
 ·exact ⟨a,by simp,rfl⟩
 ·exact ⟨b,by simp,rfl⟩
 ·exact ⟨c,by simp,rfl⟩
inductive wx:D->Prop
 | stop:wx (.tup [.str "stop"])
 | imm {w:Str} {d n:Int} (hw:w = "set" \/ w = "high") (d0:0<=d) (d1:d<8) (n0:0<=n) (n1:n<65536):wx (.tup [.str w,.int d,.int n])
 | two {w:Str} {d s:Int} (hw:w = "copy" \/ w = "add" \/ w = "addc" \/ w = "sub" \/ w = "subc" \/ w = "and" \/ w = "or" \/ w = "xor" \/ w = "test") (d0:0<=d) (d1:d<8) (s0:0<=s) (s1:s<8):wx (.tup [.str w,.int d,.int s])
 | mov {w:Str} {d n:Int} (hw:w = "left" \/ w = "right") (d0:0<=d) (d1:d<8) (n0:0<=n) (n1:n<32):wx (.tup [.str w,.int d,.int n])
 | mem {w:Str} {d s n:Int} (hw:w = "load" \/ w = "store" \/ w = "loadw" \/ w = "storew") (d0:0<=d) (d1:d<8) (s0:0<=s) (s1:s<8) (n0:0<=n) (n1:n<256):wx (.tup [.str w,.int d,.int s,.int n])
inductive tL (m:Int):D->Prop
 | jump {p:Int} (p0:0<=p) (p1:p<=m):tL m (.tup [.str "jump",.int p])
 | cond {w k:Str} {p:Int} (hw:w = "when" \/ w = "unless") (hk:k = "carry" \/ k = "nought" \/ k = "sign") (p0:0<=p) (p1:p<=m):tL m (.tup [.str w,.str k,.int p])
noncomputable def w4 (m:Int) (d:D):Prop:=wx d\/tL m d
theorem yq {a:D} {r:List D}:zF (.tup (a::r)) (.int 0)=some a:=rfl
noncomputable def yi:D->Bool
 | .tup (.str w::_)=>w == "jump" || w == "when" || w == "unless"
 | _=>false
noncomputable def ux:D->D
 | .tup xs=>(xu xs (-1)).getD .non
 | _=>.non
noncomputable def Y8:D:=.tup [.str "jump",.str "when",.str "unless"]
theorem tm {d:D} (h:wx d):∃ w,zF d (.int 0)=some (.str w)/\yb (.str w) Y8=some (.bl false)/\zS (.str w) (.str "label")=some (.bl false)/\yi d=false/\vt 5 d=true:=by
 cases h with
 | stop=>exact ⟨_,rfl,rfl,rfl,rfl,rfl⟩
 | imm hw=>rcases hw with rfl | rfl<;>exact ⟨_,rfl,rfl,rfl,rfl,rfl⟩
 | two hw=>rcases hw with rfl | rfl | rfl | rfl | rfl | rfl | rfl | rfl | rfl<;>exact ⟨_,rfl,rfl,rfl,rfl,rfl⟩
 | mov hw=>rcases hw with rfl | rfl<;>exact ⟨_,rfl,rfl,rfl,rfl,rfl⟩
 | mem hw=>rcases hw with rfl | rfl | rfl | rfl<;>exact ⟨_,rfl,rfl,rfl,rfl,rfl⟩
theorem uN {m:Int} {d:D} (h:tL m d):∃ (w:Str) (p:Int),zF d (.int 0)=some (.str w)/\yb (.str w) Y8=some (.bl true)/\zS (.str w) (.str "label")=some (.bl false)/\yi d=true/\vt 5 d=true/\zF d (.int (-1))=some (.int p)/\ux d=.int p/\0<=p/\p<=m:=by
 cases h with
 | jump p0 p1=>exact ⟨_,_,rfl,rfl,rfl,rfl,rfl,rfl,rfl,p0,p1⟩
 | cond hw hk p0 p1=>rcases hw with rfl | rfl<;>rcases hk with rfl | rfl | rfl<;>exact ⟨_,_,rfl,rfl,rfl,rfl,rfl,rfl,rfl,p0,p1⟩
noncomputable def xV (rows:List D):List Nat:=(List.range rows.length).filter fun i=>yi (rows.getD i .non)
theorem kE {rows:List D} {i:Nat} (h:i∈xV rows):i<rows.length/\yi (rows.getD i .non)=true:=by
 obtain ⟨a,b⟩:=List.mem_filter.mp h
 exact ⟨List.mem_range.mp a,b⟩
noncomputable def xU:D->Bool
 | .tup (.str w::_)=>w == "label"
 | _=>false
noncomputable def v8 (t:Str):D:=.tup [.str "label",.str t]
theorem Jk {m:Int} {d:D} (h:w4 m d):∃ w,zF d (.int 0)=some (.str w)/\zS (.str w) (.str "label")=some (.bl false)/\xU d=false/\vt 5 d=true:=by
 rcases h with h | h
 ·cases h with
  | stop=>exact ⟨_,rfl,rfl,rfl,rfl⟩
  | imm hw=>rcases hw with rfl | rfl<;>exact ⟨_,rfl,rfl,rfl,rfl⟩
  | two hw=>rcases hw with rfl | rfl | rfl | rfl | rfl | rfl | rfl | rfl | rfl<;>exact ⟨_,rfl,rfl,rfl,rfl⟩
  | mov hw=>rcases hw with rfl | rfl<;>exact ⟨_,rfl,rfl,rfl,rfl⟩
  | mem hw=>rcases hw with rfl | rfl | rfl | rfl<;>exact ⟨_,rfl,rfl,rfl,rfl⟩
 ·cases h with
  | jump=>exact ⟨_,rfl,rfl,rfl,rfl⟩
  | cond hw hk=>rcases hw with rfl | rfl<;>rcases hk with rfl | rfl | rfl<;>exact ⟨_,rfl,rfl,rfl,rfl⟩
noncomputable def BJ (t:Str):D->Bool
 | .tup [_,.str u]=>u == t
 | _=>false
noncomputable def qf (t:Str) (s:Nat×Option Nat) (d:D):Nat×Option Nat:=match xU d with
 | true=>(s.1,match BJ t d with
  | true=>some s.1
  | false=>s.2)
 | false=>(s.1+1,s.2)
noncomputable def xz (t:Str) (L:List D):Nat×Option Nat:=L.foldl (qf t) (0,none)
theorem J5 (t:Str) (L:List D) (d:D):xz t (L++[d])=qf t (xz t L) d:=by
 unfold xz
 rw [List.foldl_append]
 rfl
theorem J2 (t:Str):∀ (L:List D) (s:Nat×Option Nat),(L.foldl (qf t) s).1=s.1+(L.filter fun d=>!xU d).length
 | [],_=>rfl
 | d::L,s=>by
  rw [List.foldl_cons,J2 t L]
  unfold qf
  cases h:xU d with
  | true=>rw [List.filter_cons_of_neg (by rw [h]; decide)]
  | false=>
   rw [List.filter_cons_of_pos (by rw [h]; rfl),List.length_cons]
   show s.1+1+_=_
   omega
theorem VH (t u:Str) (L:List D):(xz t (L++[v8 u])).2=if u=t then some (L.filter fun d=>!xU d).length else (xz t L).2:=by
 rw [J5]
 have h:=J2 t L (0,none)
 show (match (u == t) with | true=>some (xz t L).1 | false=>(xz t L).2)=_
 by_cases e:u=t
 ·rw [if_pos e,beq_iff_eq.mpr e]
  show some (xz t L).1=_
  rw [show (xz t L).1=_ from h,Nat.zero_add]
 ·rw [if_neg e,beq_eq_false_iff_ne.mpr e]
theorem F0 {t:Str} {L:List D} {d:D} (h:xU d=false):(xz t (L++[d])).2=(xz t L).2:=by
 rw [J5]
 unfold qf
 rw [h]
theorem wz {L:List D} {r:D} (h:L.length<=1000):xJ (.lst L) r=some (.lst (L++[r])):=by
 show (if L.length<yA then _ else _)=_
 rw [if_pos (by show _<16777216; omega)]
inductive qz:D->Prop
 | label (t:Str):qz (v8 t)
 | plain {d:D}:wx d->qz d
 | jump (t:Str):qz (.tup [.str "jump",.str t])
 | cond {w k:Str} (t:Str) (hw:w = "when" \/ w = "unless") (hk:k = "carry" \/ k = "nought" \/ k = "sign"):qz (.tup [.str w,.str k,.str t])
noncomputable def O3 (x y:D):Prop:=(yi x=false->y=x)/\(yi x=true->∃ (h:List D) (a:D) (t:Str),x=.tup (h++[a])/\y=.tup (h++[.str t]))
theorem MK {x:D} (h:xU x=true):yi x=false:=by
 unfold xU at h
 split at h
 ·rename_i w r
  have e:w = "label" := by simpa using h
  subst e
  rfl
 ·cases h
noncomputable def qy (L:List D) (x y:D):Prop:=qz y/\xU y=xU x/\O3 x y/\yi y=yi x/\(yi x=true->∃ (t:Str) (p:Nat),zF y (.int (-1))=some (.str t)/\(xz t L).2=some p/\ux x=.int (p:Int))
theorem TW {R:D->D->Prop}:∀ {xs ys:List D},vH R xs ys->xs.length=ys.length
 | _,_,.nil=>rfl
 | _,_,.cons _ r=>by rw [List.length_cons,List.length_cons,TW r]
theorem TY {R:D->D->Prop}:∀ {xs ys:List D},vH R xs ys->∀ y∈ys,∃ x∈xs,R x y
 | _,_,.nil,_,h=>by cases h
 | x::xs,y::ys,.cons r rs,z,hz=>by
  rcases List.mem_cons.mp hz with rfl | hz
  ·exact ⟨x,List.mem_cons_self ..,r⟩
  ·obtain ⟨w,hw,h⟩:=TY rs z hz
   exact ⟨w,List.mem_cons_of_mem _ hw,h⟩
theorem TV {R R':D->D->Prop} (h:∀ x y,R x y->R' x y):∀ {xs ys:List D},vH R xs ys->vH R' xs ys
 | _,_,.nil=>.nil
 | _,_,.cons r rs=>.cons (h _ _ r) (TV h rs)
theorem Tf {L0:List D}:∀ {xs ys:List D},vH (qy L0) xs ys->vH (qy L0) (xs.filter fun d=>!xU d) (ys.filter fun d=>!xU d)
 | _,_,.nil=>.nil
 | x::xs,y::ys,.cons r rs=>by
  have a:=Tf rs
  cases h:xU x with
  | true=>
   rw [List.filter_cons_of_neg (p:=fun d=>!xU d) (a:=y) (by rw [r.2.1,h]; decide),List.filter_cons_of_neg (p:=fun d=>!xU d) (a:=x) (by rw [h]; decide)]
   exact a
  | false=>
   rw [List.filter_cons_of_pos (p:=fun d=>!xU d) (a:=y) (by rw [r.2.1,h]; rfl),List.filter_cons_of_pos (p:=fun d=>!xU d) (a:=x) (by rw [h]; rfl)]
   exact .cons r a
theorem Tg {L0:List D} (t:Str):∀ {xs ys:List D} (s:Nat×Option Nat),vH (qy L0) xs ys->ys.foldl (qf t) s=xs.foldl (qf t) s
 | _,_,_,.nil=>rfl
 | x::xs,y::ys,s,.cons r rs=>by
  rw [List.foldl_cons,List.foldl_cons,Tg t _ rs]
  congr 1
  unfold qf
  rw [r.2.1]
  cases h:xU x with
  | true=>rw [r.2.2.1.1 (MK h)]
  | false=>rfl
noncomputable def W8:FS:=
 (za (e2 zr (e2 wf (e2 zr (e2 zR (e2 uK (z7 0) (eC (.int 48271))) (e2 uK (e2 zR (z7 1) (eC (.int 1))) (eC (.int 1299721)))) (eC (.int 2147483647))) (eC (.int 5))) (eC (.int 2147483647))))
noncomputable def xc:List D->Option (Bool×D):=FR 2 2 W8
theorem Ln (x0 x1:D):xc [x0,x1]=yP 2 W8 [x0,x1]:=rfl
noncomputable def pD:FS:=
 (zG (zP 1 (e2 zr (z7 0) (eC (.int 18))))
  (zG (zP 2 (e2 zr (e2 yh (z7 0) (eC (.int 18))) (eC (.int 8))))
  (zG (zP 3 (e2 zr (e2 yh (z7 0) (eC (.int 144))) (eC (.int 8))))
  (zG (zP 4 (e2 yh (z7 0) (eC (.int 1152))))
  (zG (zY (tE (e2 zS (z7 1) (eC (.int 0))))
   (za (yQ (z8 (eC (.str "stop")) zC)))
   zm)
  (zG (zY (tE (e2 (yW fun i j=>decide (i<j)) (z7 1) (eC (.int 3))))
   (za (yQ (z8 (e2 zF (yC (z8 (eC (.str "set")) (z8 (eC (.str "high")) zC))) (e2 xg (z7 1) (eC (.int 1)))) (z8 (z7 2) (z8 (e2 zF (yC (z8 (e2 zr (z7 4) (eC (.int 65536))) (z8 (eC (.int 0)) (z8 (eC (.int 65535)) (z8 (e2 zr (z7 4) (eC (.int 9))) zC))))) (e2 zr (e2 yh (z7 4) (eC (.int 65536))) (eC (.int 4)))) zC)))))
   zm)
  (zG (zY (tE (e2 (yW fun i j=>decide (i<j)) (z7 1) (eC (.int 12))))
   (za (yQ (z8 (e2 zF (yC (z8 (eC (.str "copy")) (z8 (eC (.str "add")) (z8 (eC (.str "addc")) (z8 (eC (.str "sub")) (z8 (eC (.str "subc")) (z8 (eC (.str "and")) (z8 (eC (.str "or")) (z8 (eC (.str "xor")) (z8 (eC (.str "test")) zC)))))))))) (e2 xg (z7 1) (eC (.int 3)))) (z8 (z7 2) (z8 (z7 3) zC)))))
   zm)
  (zG (zY (tE (e2 (yW fun i j=>decide (i<j)) (z7 1) (eC (.int 14))))
   (za (yQ (z8 (e2 zF (yC (z8 (eC (.str "left")) (z8 (eC (.str "right")) zC))) (e2 xg (z7 1) (eC (.int 12)))) (z8 (z7 2) (z8 (e2 zF (yC (z8 (e2 zr (z7 4) (eC (.int 32))) (z8 (eC (.int 0)) (z8 (eC (.int 31)) (z8 (eC (.int 1)) zC))))) (e2 zr (e2 yh (z7 4) (eC (.int 32))) (eC (.int 4)))) zC)))))
   zm)
  (za (yQ (z8 (e2 zF (yC (z8 (eC (.str "load")) (z8 (eC (.str "store")) (z8 (eC (.str "loadw")) (z8 (eC (.str "storew")) zC))))) (e2 xg (z7 1) (eC (.int 14)))) (z8 (z7 2) (z8 (z7 3) (z8 (e2 zF (yC (z8 (e2 zr (z7 4) (eC (.int 256))) (z8 (eC (.int 0)) (z8 (eC (.int 255)) zC)))) (e2 zr (e2 yh (z7 4) (eC (.int 256))) (eC (.int 3)))) zC))))))))))))))
noncomputable def j7:List D->Option (Bool×D):=FR 1 5 pD
theorem k8 (x0:D):j7 [x0]=yP 5 pD [x0]:=rfl
noncomputable def xP (c k:Int):Int:=((c*48271+(k+1)*1299721) % 2147483647) ^ 5 % 2147483647
theorem VI {i j:Int} (h0:0<=j) (h1:j<64) (h2:0<=i) (h3:i<2 ^ 64):xS i j=true:=by
 unfold xS
 rw [decide_eq_true h0,decide_eq_true (show j<=1000000 by omega),decide_eq_true (show i.natAbs<2 ^ 64 by omega)]
 rfl
theorem u_ (c k:Int):xc [.int c,.int k]=some (false,.int (xP c k)):=by
 have h0:=Int.emod_nonneg (c*48271+(k+1)*1299721) (show (2147483647:Int)≠0 by decide)
 have h1:=Int.emod_lt_of_pos (c*48271+(k+1)*1299721) (show (0:Int)<2147483647 by decide)
 have hp:=VI (i:=(c*48271+(k+1)*1299721) % 2147483647) (j:=5) (by decide) (by decide) h0 (by omega)
 have l1:xq 48271=true/\xq 1299721=true:=⟨by decide,by decide⟩
 rw [Ln]
 unfold W8
 simp! [add_int,l1,hp]
 rfl
theorem C9 (c:Int):∃ r,j7 [.int c]=some (false,r)/\wx r:=by
 have d0:0<=c / 18 % 8:=by omega
 have d1:c / 18 % 8<8:=by omega
 have s0:0<=c / 144 % 8:=by omega
 have s1:c / 144 % 8<8:=by omega
 by_cases h0:c % 18=0
 ·refine ⟨_,?_,.stop⟩
  rw [k8]
  unfold pD
  simp! [h0,qZ]
 ·by_cases h3:c % 18<3
  ·obtain ⟨n,hn,e⟩:=VG (a:=c / 1152 % 65536) (b:=0) (c:=65535) (d:=c / 1152 % 9) (i:=c / 1152 / 65536 % 4) (by omega) (by omega)
   obtain ⟨w,hw,ew⟩:∃ w:Str,(w = "set" \/ w = "high")/\zF (.lst [.str "set",.str "high"]) (.int (c % 18 - 1))=some (.str w):=by
    rcases (show c % 18=1\/c % 18=2 by omega) with h | h<;>rw [h]
    ·exact ⟨"set",.inl rfl,rfl⟩
    ·exact ⟨"high",.inr rfl,rfl⟩
   refine ⟨_,?_,.imm hw d0 d1 (show 0<=n by omega) (by omega)⟩
   rw [k8]
   unfold pD
   simp! [vq h0,decide_eq_true h3,ew,e]
  ·by_cases h12:c % 18<12
   ·obtain ⟨w,hw,ew⟩:∃ w:Str,(w = "copy" \/ w = "add" \/ w = "addc" \/ w = "sub" \/ w = "subc" \/ w = "and" \/ w = "or" \/ w = "xor" \/ w = "test")/\zF (.lst [.str "copy",.str "add",.str "addc",.str "sub",.str "subc",.str "and",.str "or",.str "xor",.str "test"]) (.int (c % 18 - 3))=some (.str w):=by
     rcases (show c % 18=3\/c % 18=4\/c % 18=5\/c % 18=6\/c % 18=7\/c % 18=8\/c % 18=9\/c % 18=10\/c % 18=11 by omega) with h | h | h | h | h | h | h | h | h<;>rw [h]
     ·exact ⟨"copy",by simp,rfl⟩
     ·exact ⟨"add",by simp,rfl⟩
     ·exact ⟨"addc",by simp,rfl⟩
     ·exact ⟨"sub",by simp,rfl⟩
     ·exact ⟨"subc",by simp,rfl⟩
     ·exact ⟨"and",by simp,rfl⟩
     ·exact ⟨"or",by simp,rfl⟩
     ·exact ⟨"xor",by simp,rfl⟩
     ·exact ⟨"test",by simp,rfl⟩
    refine ⟨_,?_,.two hw d0 d1 s0 s1⟩
    rw [k8]
    unfold pD
    simp! [vq h0,decide_eq_false h3,decide_eq_true h12,ew]
   ·by_cases h14:c % 18<14
    ·obtain ⟨n,hn,e⟩:=VG (a:=c / 1152 % 32) (b:=0) (c:=31) (d:=1) (i:=c / 1152 / 32 % 4) (by omega) (by omega)
     obtain ⟨w,hw,ew⟩:∃ w:Str,(w = "left" \/ w = "right")/\zF (.lst [.str "left",.str "right"]) (.int (c % 18 - 12))=some (.str w):=by
      rcases (show c % 18=12\/c % 18=13 by omega) with h | h<;>rw [h]
      ·exact ⟨"left",.inl rfl,rfl⟩
      ·exact ⟨"right",.inr rfl,rfl⟩
     refine ⟨_,?_,.mov hw d0 d1 (show 0<=n by omega) (by omega)⟩
     rw [k8]
     unfold pD
     simp! [vq h0,decide_eq_false h3,decide_eq_false h12,decide_eq_true h14,ew,e]
    ·obtain ⟨n,hn,e⟩:=Du (a:=c / 1152 % 256) (b:=0) (c:=255) (i:=c / 1152 / 256 % 3) (by omega) (by omega)
     obtain ⟨w,hw,ew⟩:∃ w:Str,(w = "load" \/ w = "store" \/ w = "loadw" \/ w = "storew")/\zF (.lst [.str "load",.str "store",.str "loadw",.str "storew"]) (.int (c % 18 - 14))=some (.str w):=by
      rcases (show c % 18=14\/c % 18=15\/c % 18=16\/c % 18=17 by omega) with h | h | h | h<;>rw [h]
      ·exact ⟨"load",by simp,rfl⟩
      ·exact ⟨"store",by simp,rfl⟩
      ·exact ⟨"loadw",by simp,rfl⟩
      ·exact ⟨"storew",by simp,rfl⟩
     refine ⟨_,?_,.mem hw d0 d1 s0 s1 (show 0<=n by omega) (by omega)⟩
     rw [k8]
     unfold pD
     simp! [vq h0,decide_eq_false h3,decide_eq_false h12,decide_eq_false h14,ew,e]
noncomputable def VS:FA:=(v7 (eC (.int 0)) (e2 zr (e2 yh (z7 1) (eC (.int 3))) (eC (.int 7))))
noncomputable def X9:FE:=(e2 zF (z7 2) (e2 zr (zV xc (z8 (z7 1) (z8 (z7 6) zC))) (eC (.int 26))))
noncomputable def JV:FA:=(v7 (eC (.int 0)) (e2 yh (z7 0) (eC (.int 26))))
noncomputable def V1:FS:=(zP 4 (e2 zR (z7 4) (eC (.str "q"))))
noncomputable def gV:FS:=
 (zG (zP 2 (eC (.str "abcdefghijklmnopqrstuvwxyz")))
  (zG (zP 3 (e2 y_ (eC (.str "")) (wD 1 VS (zt 6) yk X9)))
  (zG (zY (tE (e2 zS (e2 zr (z7 1) (eC (.int 3))) (eC (.int 0))))
   (zG (zP 4 (e2 zF (z7 2) (e2 zr (z7 0) (eC (.int 26)))))
    (zG (vz JV (zt 5)
     V1)
    (za (z7 4))))
   zm)
  (zG (zY (tE (e2 zS (e2 zr (z7 1) (eC (.int 3))) (eC (.int 1))))
   (za (e2 zR (e2 zR (e2 zF (z7 2) (e2 zr (z7 0) (eC (.int 26)))) (e2 zF (z7 2) (e2 yh (z7 0) (eC (.int 26))))) (ya (z7 3) yH (yI (eC (.int 6))))))
   zm)
  (za (e2 zR (e2 zR (ya (z7 3) yH (yI (eC (.int 6)))) (e2 zF (z7 2) (e2 yh (z7 0) (eC (.int 26))))) (e2 zF (z7 2) (e2 zr (z7 0) (eC (.int 26))))))))))
noncomputable def tJ:List D->Option (Bool×D):=FR 2 6 gV
theorem Wo (x0 x1:D):tJ [x0,x1]=yP 6 gV [x0,x1]:=rfl
noncomputable def JU:FA:=(v7 (eC (.int 0)) (eL yz (z8 (z7 0) zC)))
noncomputable def I_:FE:=(z7 1)
noncomputable def XB:FT:=(tE (e2 yb (e2 zF (e2 zF (z7 0) (z7 1)) (eC (.int 0))) (yQ (z8 (eC (.str "jump")) (z8 (eC (.str "when")) (z8 (eC (.str "unless")) zC))))))
noncomputable def W6:FS:=
 (qi (wD 1 JU (zt 1) XB I_))
noncomputable def qu:List D->Option (Bool×D):=FR 1 1 W6
theorem Ll (x0:D):qu [x0]=yP 1 W6 [x0]:=rfl
noncomputable def X8:FE:=(e2 zF (e2 zF (z7 0) (z7 10)) (e1 xy (eC (.int 1))))
noncomputable def JT:FA:=(v7 (eC (.int 0)) (e2 zR (eL yz (z8 (z7 0) zC)) (eC (.int 1))))
noncomputable def YB:FS:=(zG (zP 8 (e2 zr (zV xc (z8 (z7 1) (z8 (z7 7) zC))) (eC (.int 12))))
    (zG (zY (vC (tE (e2 yb (z7 7) (z7 3))) (tE (e2 zS (z7 8) (eC (.int 0)))))
     (zG (kx 4 (z7 7) (zV tJ (z8 (z7 6) (z8 (z7 2) zC))))
      (zG (xX 5 xJ (yQ (z8 (eC (.str "label")) (z8 (e2 zF (w_ 4) (z7 7)) zC))))
      (zP 6 (e2 (qT fun i j=>i+j) (z7 6) (eC (.int 1))))))
     zm)
    (zG (zY (tE (e2 zS (z7 8) (eC (.int 1))))
     (zG (xX 5 xJ (yQ (z8 (eC (.str "label")) (z8 (zV tJ (z8 (z7 6) (z8 (z7 2) zC))) zC))))
      (zP 6 (e2 (qT fun i j=>i+j) (z7 6) (eC (.int 1)))))
     zm)
    (zY (tE (e2 (yW fun i j=>decide (i<j)) (z7 7) (eL yz (z8 (z7 0) zC))))
     (xX 5 xJ (e2 zF (z7 0) (z7 7)))
     zm))))
noncomputable def p_:FE:=(uI (tE (e2 yb (e2 zF (z7 10) (eC (.int 0))) (z7 9))) (e2 zR (ya (z7 10) yH (yI (e1 xy (eC (.int 1))))) (yQ (z8 (e2 zF (z7 4) (e2 zF (z7 10) (e1 xy (eC (.int 1))))) zC))) (z7 10))
noncomputable def W5:FS:=
 (zG (zP 2 (e2 zr (e2 yh (z7 1) (eC (.int 4))) (eC (.int 999))))
  (zG (zP 3 (wD 1 (wg (zV qu (z8 (z7 0) zC))) (zt 10) yk X8))
  (zG (vB 4 (eC (.dic [] [])))
  (zG (vB 5 (yC zC))
  (zG (zP 6 (eC (.int 0)))
  (zG (vz JT (zt 7)
   YB)
  (zG (qh 5) (zG (qh 4) (zG (zP 9 (yQ (z8 (eC (.str "jump")) (z8 (eC (.str "when")) (z8 (eC (.str "unless")) zC)))))
  (qi (wD 1 (wg (z7 5)) (zt 10) yk p_)))))))))))
noncomputable def gB:List D->Option (Bool×D):=FR 2 10 W5
theorem Lk (x0 x1:D):gB [x0,x1]=yP 10 W5 [x0,x1]:=rfl
theorem Mt:∀ (sh:Int) (n:Nat),(xm n).map (fun d=>match d with | .int j=>D.str (lt (xP sh j % 26)) | d=>d)=((List.range n).map fun j:Nat=>lt (xP sh j % 26)).map D.str:=fun sh n=>by
 rw [List.map_map,List.map_map]
 rfl
theorem IU (f:Nat->Int):∀ l:List Nat,((l.map fun j=>lt (f j)).map (·.length)).sum=l.length
 | []=>rfl
 | a::l=>by
  rw [List.map_cons,List.map_cons,List.sum_cons,IU f l,YI,List.length_cons]
  omega
noncomputable def Z6 (sh:Int):Str:=Builtin.Str.glued "" ((List.range (sh / 3 % 7).toNat).map fun j:Nat=>lt (xP sh j % 26))
noncomputable def qg (x:Str):Nat->Str
 | 0=>x
 | n+1=>qg x n ++ "q"
noncomputable def vA (sh k:Int):Str:=if sh % 3=0 then qg (lt (k % 26)) (k / 26).toNat else if sh % 3=1 then lt (k % 26)++lt (k / 26)++L2.cutS (Z6 sh) none (some 6) else L2.cutS (Z6 sh) none (some 6)++lt (k / 26)++lt (k % 26)
theorem Ea {k sh:Int} {x3 x4 x5:Option Sl}:∃ ds xs:List D,(Z6 sh).length<=7/\VS [some (false,.int k),some (false,.int sh),some (false,.str "abcdefghijklmnopqrstuvwxyz"),x3,x4,x5]=some ds/\ye (zt 6) yk X9 [some (false,.int k),some (false,.int sh),some (false,.str "abcdefghijklmnopqrstuvwxyz"),x3,x4,x5,none] ds=some xs/\y_ (.str "") (.lst xs)=some (.str (Z6 sh)):=by
 have hr:VS [some (false,.int k),some (false,.int sh),some (false,.str "abcdefghijklmnopqrstuvwxyz"),x3,x4,x5]=some (xm (sh / 3 % 7).toNat):=
  pS (n:=sh / 3 % 7) rfl (by omega)
 have hl:=QP (g:=zt 6) (e:=X9) (σ:=[some (false,.int k),some (false,.int sh),some (false,.str "abcdefghijklmnopqrstuvwxyz"),x3,x4,x5]++List.replicate 1 none) (fun d=>match d with | .int j=>D.str (lt (xP sh j % 26)) | d=>d) (ds:=xm (sh / 3 % 7).toNat) fun d hd=>by
  obtain ⟨i,hi,rfl⟩:=Im hd
  have hm:=u_ sh (i:Int)
  have hx:=Xw (k:=xP sh i % 26) (by omega) (by omega)
  refine ⟨_,rfl,?_⟩
  unfold X9
  simp! [hm,hx]
 rw [Mt] at hl
 have hs:=IU (fun j:Nat=>xP sh j % 26) (List.range (sh / 3 % 7).toNat)
 rw [List.length_range] at hs
 have hg:=L2.glued_len "" ((List.range (sh / 3 % 7).toNat).map fun j:Nat=>lt (xP sh j % 26))
 have e0:("" : Str).length=0:=rfl
 rw [hs,e0,Nat.mul_zero,Nat.add_zero] at hg
 have hj:=MU (sep := "") (ts:=(List.range (sh / 3 % 7).toNat).map fun j:Nat=>lt (xP sh j % 26)) (by rw [hs,e0]; omega)
 exact ⟨_,_,Nat.le_trans hg (by omega),hr,hl,hj⟩
theorem JF (x:Str):∀ n,(qg x n).length=x.length+n
 | 0=>rfl
 | n+1=>by
  show (qg x n ++ "q").length=_
  rw [xA,JF x n]
  rfl
theorem Qf {k sh:Int} (k0:0<=k) (k1:k<676) (s0:0<=sh):tJ [.int k,.int sh]=some (false,.str (vA sh k)):=by
 obtain ⟨ds,xs,ht,er,ex,ej⟩:=Ea (k:=k) (sh:=sh) (x3:=none) (x4:=none) (x5:=none)
 unfold vA
 generalize Z6 sh=t at ht ej ⊢
 have a1:=Xw (k:=k % 26) (by omega) (by omega)
 have a2:=Xw (k:=k / 26) (by omega) (by omega)
 have c6:=cut_len t none (some 6)
 have l1:=YI (k % 26)
 have l2:=YI (k / 26)
 have h2:∀ x y:Str,(x++y).length=x.length+y.length:=xA
 have sl:ya (z7 3) yH (yI (eC (.int 6))) [some (false,.int k),some (false,.int sh),some (false,.str "abcdefghijklmnopqrstuvwxyz"),some (false,.str t),none,none]=some (.str (L2.cutS t none (some 6))):=rfl
 rcases (show sh % 3=0\/sh % 3=1\/sh % 3=2 by omega) with h | h | h
 ·have hr:JV [some (false,.int k),some (false,.int sh),some (false,.str "abcdefghijklmnopqrstuvwxyz"),some (false,.str t),some (false,.str (lt (k % 26))),none]=some (xm (k / 26).toNat):=pS (n:=k / 26) rfl (by omega)
  obtain ⟨σ',e2,x,rfl⟩:=qb (g:=zt 5) (b:=V1) (fun i σ=>∃ x,σ=[some (false,.int k),some (false,.int sh),some (false,.str "abcdefghijklmnopqrstuvwxyz"),some (false,.str t),some (false,.str (qg (lt (k % 26)) i)),x]) (ds:=xm (k / 26).toNat)
   (σ:=[some (false,.int k),some (false,.int sh),some (false,.str "abcdefghijklmnopqrstuvwxyz"),some (false,.str t),some (false,.str (lt (k % 26))),none]) 0 ⟨_,rfl⟩ (by
   rintro i v σ hv ⟨x,rfl⟩
   obtain ⟨hi,rfl⟩:=pq hv
   rw [Nat.zero_add]
   have lq:("q" : Str).length=1:=rfl
   have ha:=add_str (a:=qg (lt (k % 26)) i) (b := "q") (by rw [lq,JF,YI]; omega)
   exact ⟨_,_,rfl,.inl (by unfold V1; simp! [ha]; rfl),_,rfl⟩)
  rw [g4,Nat.zero_add] at e2
  rw [if_pos h,Wo]
  unfold gV
  simp! [er,ex,ej,h,qZ,a1,hr,e2]
 ·rw [if_neg (by omega),if_pos h]
  have h1:=add_str (a:=lt (k % 26)) (b:=lt (k / 26)) (by omega)
  have h3:=add_str (a:=lt (k % 26)++lt (k / 26)) (b:=L2.cutS t none (some 6)) (by rw [h2]; omega)
  have z:zS (.int 1) (.int 0)=some (.bl false):=rfl
  rw [Wo]
  unfold gV
  simp! [er,ex,ej,h,z,qZ,a1,a2,h1,sl,h3]
 ·rw [if_neg (by omega),if_neg (by omega)]
  have h1:=add_str (a:=L2.cutS t none (some 6)) (b:=lt (k / 26)) (by omega)
  have h3:=add_str (a:=L2.cutS t none (some 6)++lt (k / 26)) (b:=lt (k % 26)) (by rw [h2]; omega)
  have z:zS (.int 2) (.int 0)=some (.bl false):=rfl
  have z1:zS (.int 2) (.int 1)=some (.bl false):=rfl
  rw [Wo]
  unfold gV
  simp! [er,ex,ej,h,z,z1,a1,a2,h1,sl,h3]
theorem WP (a b:Str):(a++b).cps.toList=a.cps.toList++b.cps.toList:=Array.toList_append
theorem JE (x:Str):∀ n,(qg x n).cps.toList=x.cps.toList++List.replicate n 113
 | 0=>by rw [List.replicate_zero,List.append_nil]; rfl
 | n+1=>by
  show (qg x n ++ "q").cps.toList=_
  rw [WP,JE x n,List.append_assoc,List.replicate_succ']
  rfl
theorem Qg {sh k k':Int} (a0:0<=k) (b0:0<=k') (h:vA sh k=vA sh k'):k=k':=by
 unfold vA at h
 have lc:∀ x:Int,(lt x).cps.toList=[97+x.toNat]:=fun _=>rfl
 have h1:=congrArg (fun z:Str=>z.cps.toList) h
 by_cases c:sh % 3=0
 ·simp only [if_pos c,JE,lc,List.cons_append,List.nil_append,List.cons.injEq] at h1
  have h2:=congrArg List.length h1.2
  rw [List.length_replicate,List.length_replicate] at h2
  omega
 ·by_cases c1:sh % 3=1
  ·simp only [if_neg c,if_pos c1,WP,lc,List.cons_append,List.nil_append,List.cons.injEq] at h1
   omega
  ·simp only [if_neg c,if_neg c1,WP,lc,List.append_assoc,List.append_cancel_left_eq,List.cons_append,List.nil_append,List.cons.injEq] at h1
   omega
theorem W_ {m:Int} {rows:List D} (hr:∀ r∈rows,w4 m r) (hl:rows.length<=1000):qu [.lst rows]=some (true,.lst ((xV rows).map fun i:Nat=>D.int i)):=by
 have h1:JU [some (false,.lst rows)]=some (xm rows.length):=pS (n:=(rows.length:Int)) rfl (by omega)
 have h2:=kI (g:=zt 1) (c:=XB) (e:=I_) (σ:=[some (false,.lst rows),none]) (fun d=>match d with | .int i=>yi (rows.getD i.toNat .non) | _=>false) id (ds:=xm rows.length) fun d hd=>by
  obtain ⟨i,hi,rfl⟩:=Im hd
  have ex:zF (.lst rows) (.int (i:Int))=some rows[i]:=vh (by omega) (by rw [Int.toNat_natCast]; exact List.getElem?_eq_getElem hi)
  have eg:rows.getD ((i:Int)).toNat .non=rows[i]:=by rw [Int.toNat_natCast,List.getD_eq_getElem?_getD,List.getElem?_eq_getElem hi]; rfl
  have ej:∃ w,zF rows[i] (.int 0)=some (.str w)/\yb (.str w) (.tup [.str "jump",.str "when",.str "unless"])=some (.bl (yi rows[i])):=by
   rcases hr _ (List.getElem_mem hi) with h | h
   ·obtain ⟨w,a,b,_,c,_⟩:=tm h
    exact ⟨w,a,by rw [c]; exact b⟩
   ·obtain ⟨w,p,a,b,_,c,_⟩:=uN h
    exact ⟨w,a,by rw [c]; exact b⟩
  obtain ⟨w,ew,ein⟩:=ej
  refine ⟨_,rfl,?_,fun _=>?_⟩
  ·show XB [some (false,.lst rows),some (false,.int (i:Int))]=some (yi (rows.getD ((i:Int)).toNat .non))
   rw [eg]
   unfold XB
   simp! [ex,ew,ein]
  ·rfl
 have h3:List.map id ((xm rows.length).filter fun d=>match d with | .int i=>yi (rows.getD i.toNat .non) | _=>false)=(xV rows).map fun i:Nat=>D.int i:=by
  rw [List.map_id,List.filter_map]
  rfl
 rw [h3] at h2
 rw [Ll]
 unfold W6
 simp! [h1,h2]
noncomputable def xF (rows:List D):List D:=(xV rows).map fun i=>ux (rows.getD i .non)
noncomputable def pL (rows:List D) (q:Int):Bool:=(xF rows).any fun y=>yR y (.int q)
theorem Dy {m:Int} {rows:List D} (hr:∀ r∈rows,w4 m r) {y:D} (h:y∈xF rows):∃ p:Int,y=.int p/\0<=p/\p<=m:=by
 obtain ⟨i,hi,rfl⟩:=List.mem_map.mp h
 obtain ⟨hl,hj⟩:=kE hi
 have eg:rows.getD i .non=rows[i]:=by rw [List.getD_eq_getElem?_getD,List.getElem?_eq_getElem hl]; rfl
 rw [eg] at hj ⊢
 rcases hr _ (List.getElem_mem hl) with h | h
 ·obtain ⟨_,_,_,_,c,_⟩:=tm h
  rw [c] at hj
  cases hj
 ·obtain ⟨w,p,_,_,_,_,_,_,e,p0,p1⟩:=uN h
  exact ⟨p,e,p0,p1⟩
theorem ME {m:Int} {rows:List D} (hr:∀ r∈rows,w4 m r) (q:Int):yb (.int q) (.lst (xF rows))=some (.bl (pL rows q)):=by
 have ha:(xF rows).all yL=true:=List.all_eq_true.mpr fun y hy=>by
  obtain ⟨p,rfl,_⟩:=Dy hr hy
  rfl
 show (tQ (.int q) (.lst (xF rows))).bind _=_
 have:tQ (.int q) (.lst (xF rows))=some (pL rows q):=by
  show (match yL (.int q)&&(xF rows).all yL with | true=>_ | false=>_)=_
  rw [ha]
  rfl
 rw [this]
 rfl
theorem MD {rows:List D} {i:Nat} {p:Int} (hl:i<rows.length) (hj:yi rows[i]=true) (he:ux rows[i]=.int p):pL rows p=true:=by
 refine List.any_eq_true.mpr ⟨.int p,List.mem_map.mpr ⟨i,List.mem_filter.mpr ⟨List.mem_range.mpr hl,?_⟩,?_⟩,?_⟩
 ·rw [List.getD_eq_getElem?_getD,List.getElem?_eq_getElem hl]; exact hj
 ·rw [List.getD_eq_getElem?_getD,List.getElem?_eq_getElem hl]; exact he
 ·unfold yR; exact beq_self_eq_true p
structure Inv (rows:List D) (sh:Int) (i:Nat) (ks:List (Sum Int Str)) (vs L:List D) (c:Int):Prop where
 hk:ks.length=vs.length
 k1:ks.length<=i
 l1:L.length<=3*i
 c0:0<=c
 c1:c<=2*i
 nm:∀ q:Int,0<=q->q<i->pL rows q=true->∃ k:Int,0<=k/\k<c/\getK ks vs (.inl q)=some (.str (vA sh k))/\(xz (vA sh k) L).2=some q.toNat
 fl:L.filter (fun d=>!xU d)=rows.take i
 el:∀ d∈L,(∃ t,d=v8 t)\/d∈rows
theorem MN {m:Int} {rows:List D} (hr:∀ r∈rows,w4 m r) (hl:rows.length<=100) {cell sh:Int} (s0:0<=sh) {i:Nat} (hi:i<=rows.length) {ks:List (Sum Int Str)} {vs L:List D} {c:Int} (I:Inv rows sh i ks vs L c) {x8 x9:Option Sl} :
  ∃ ks' vs' L' c' y8,Inv rows sh (i+1) ks' vs' L' c'/\YB [some (false,.lst rows),some (false,.int cell),some (false,.int sh),some (false,.lst (xF rows)),some (true,.dic ks vs),some (true,.lst L),some (false,.int c),some (false,.int (i:Int)),x8,x9] =
   some (.nx [some (false,.lst rows),some (false,.int cell),some (false,.int sh),some (false,.lst (xF rows)),some (true,.dic ks' vs'),some (true,.lst L'),some (false,.int c'),some (false,.int (i:Int)),y8,x9]):=by
 obtain ⟨hk,k1,l1,c0,c1,nm,fl,el⟩:=I
 have hm:=u_ cell (i:Int)
 generalize xP cell (i:Int)=mx at hm
 have hin:=ME hr (i:Int)
 have A:∃ (ks':List (Sum Int Str)) (vs' L':List D) (c':Int),(ks'.length=vs'.length/\ks'.length<=i+1/\L'.length<=3*i+1/\0<=c'/\c'<=2*i+1)/\(∀ q:Int,0<=q->q<(i+1:Nat)->pL rows q=true->∃ k:Int,0<=k/\k<c'/\getK ks' vs' (.inl q)=some (.str (vA sh k))/\(xz (vA sh k) L').2=some q.toNat)/\L'.filter (fun d=>!xU d)=rows.take i/\(∀ d∈L',(∃ t,d=v8 t)\/d∈rows)/\
   zY (vC (tE (e2 yb (z7 7) (z7 3))) (tE (e2 zS (z7 8) (eC (.int 0)))))
     (zG (kx 4 (z7 7) (zV tJ (z8 (z7 6) (z8 (z7 2) zC))))
      (zG (xX 5 xJ (yQ (z8 (eC (.str "label")) (z8 (e2 zF (w_ 4) (z7 7)) zC))))
      (zP 6 (e2 (qT fun i j=>i+j) (z7 6) (eC (.int 1))))))
     zm [some (false,.lst rows),some (false,.int cell),some (false,.int sh),some (false,.lst (xF rows)),some (true,.dic ks vs),some (true,.lst L),some (false,.int c),some (false,.int (i:Int)),some (false,.int (mx % 12)),x9] =
   some (.nx [some (false,.lst rows),some (false,.int cell),some (false,.int sh),some (false,.lst (xF rows)),some (true,.dic ks' vs'),some (true,.lst L'),some (false,.int c'),some (false,.int (i:Int)),some (false,.int (mx % 12)),x9]):=by
  obtain ⟨k0,e0⟩:∃ k,zS (.int (mx % 12)) (.int 0)=some (.bl k):=⟨_,rfl⟩
  by_cases h:pL rows (i:Int)=false/\k0=false
  ·refine ⟨ks,vs,L,c,⟨hk,by omega,by omega,c0,by omega⟩,?_,fl,el,?_⟩
   ·intro q q0 q1 hq
    by_cases e:q=(i:Int)
    ·subst e; rw [h.1] at hq; cases hq
    ·exact nm q q0 (by omega) hq
   ·rw [h.1] at hin
    rw [h.2] at e0
    simp! [hin,e0]
  ·have et:=Qf (k:=c) (sh:=sh) c0 (by omega) s0
   obtain ⟨t,ht⟩:∃ t,t=vA sh c:=⟨_,rfl⟩
   rw [<- ht] at et
   have hc:vC (tE (e2 yb (z7 7) (z7 3))) (tE (e2 zS (z7 8) (eC (.int 0)))) [some (false,.lst rows),some (false,.int cell),some (false,.int sh),some (false,.lst (xF rows)),some (true,.dic ks vs),some (true,.lst L),some (false,.int c),some (false,.int (i:Int)),some (false,.int (mx % 12)),x9]=some true:=by
    cases hb:pL rows (i:Int) with
    | true=>rw [hb] at hin; simp! [hin]
    | false=>
     have:k0=true:=by cases k0 with | true=>rfl | false=>exact absurd ⟨hb,rfl⟩ h
     rw [hb] at hin
     rw [this] at e0
     simp! [hin,e0]
   have gp:=Lc (k:=.inl (i:Int)) (v:=D.str t) hk
   have g0:zF (.dic (vy ks (.inl (i:Int))) (wW ks vs (.inl (i:Int)) (.str t))) (.int (i:Int))=some (.str t):=by
    show getK _ _ _=_
    rw [gp,if_pos rfl]
   have hlk:(vy ks (.inl (i:Int))).length<=i+1:=by
    unfold vy
    split
    ·omega
    ·rw [List.length_append]; show _+1<=_; omega
   have hap:=wz (L:=L) (r:=v8 t) (by omega)
   refine ⟨vy ks (.inl (i:Int)),wW ks vs (.inl (i:Int)) (.str t),L++[v8 t],c+1,⟨JA hk,hlk,by rw [List.length_append]; show _+1<=_; omega,by omega,by omega⟩,?_,?_,?_,?_⟩
   ·intro q q0 q1 hq
    rw [gp]
    by_cases e:(i:Int)=q
    ·subst e
     refine ⟨c,c0,by omega,by rw [if_pos rfl,ht],?_⟩
     rw [VH,if_pos ht,fl,List.length_take,Int.toNat_natCast,Nat.min_eq_left hi]
    ·rw [if_neg (fun h=>e (Sum.inl.inj h))]
     obtain ⟨k,k0,k1,k2,k3⟩:=nm q q0 (by omega) hq
     refine ⟨k,k0,by omega,k2,?_⟩
     rw [VH,if_neg,k3]
     intro z
     have:=Qg c0 k0 (ht.symm.trans z)
     omega
   ·rw [List.filter_append,fl]
    show rows.take i++[]=_
    rw [List.append_nil]
   ·intro d hd
    rcases List.mem_append.mp hd with hd | hd
    ·exact el d hd
    ·cases List.mem_singleton.mp hd; exact .inl ⟨t,rfl⟩
   ·rw [MC hc]
    have kd:jd (.int (i:Int))=some (.inl (i:Int)):=rfl
    have hlim:ks.length<yA:=by show _<16777216; omega
    have sp:kx 4 (z7 7) (zV tJ (z8 (z7 6) (z8 (z7 2) zC))) [some (false,.lst rows),some (false,.int cell),some (false,.int sh),some (false,.lst (xF rows)),some (true,.dic ks vs),some (true,.lst L),some (false,.int c),some (false,.int (i:Int)),some (false,.int (mx % 12)),x9] =
      some (.nx [some (false,.lst rows),some (false,.int cell),some (false,.int sh),some (false,.lst (xF rows)),some (true,.dic (vy ks (.inl (i:Int))) (wW ks vs (.inl (i:Int)) (.str t))),some (true,.lst L),some (false,.int c),some (false,.int (i:Int)),some (false,.int (mx % 12)),x9]):=by
     simp! [kx,et,kd,if_pos hlim]
    rw [qk sp]
    unfold v8 at hap ⊢
    simp! [g0,hap]
 obtain ⟨ks',vs',L',c',⟨a1,a2,a3,a4,a5⟩,anm,afl,ael,ae⟩:=A
 have B:∃ (L2:List D) (c2:Int),(L2.length<=3*i+2/\0<=c2/\c2<=2*i+2/\c'<=c2/\∀ k:Int,0<=k->k<c'->(xz (vA sh k) L2).2=(xz (vA sh k) L').2)/\L2.filter (fun d=>!xU d)=rows.take i/\(∀ d∈L2,(∃ t,d=v8 t)\/d∈rows)/\
   zY (tE (e2 zS (z7 8) (eC (.int 1))))
     (zG (xX 5 xJ (yQ (z8 (eC (.str "label")) (z8 (zV tJ (z8 (z7 6) (z8 (z7 2) zC))) zC))))
      (zP 6 (e2 (qT fun i j=>i+j) (z7 6) (eC (.int 1)))))
     zm [some (false,.lst rows),some (false,.int cell),some (false,.int sh),some (false,.lst (xF rows)),some (true,.dic ks' vs'),some (true,.lst L'),some (false,.int c'),some (false,.int (i:Int)),some (false,.int (mx % 12)),x9] =
   some (.nx [some (false,.lst rows),some (false,.int cell),some (false,.int sh),some (false,.lst (xF rows)),some (true,.dic ks' vs'),some (true,.lst L2),some (false,.int c2),some (false,.int (i:Int)),some (false,.int (mx % 12)),x9]):=by
  obtain ⟨k0,e0⟩:∃ k,zS (.int (mx % 12)) (.int 1)=some (.bl k):=⟨_,rfl⟩
  cases k0 with
  | false=>exact ⟨L',c',⟨by omega,a4,by omega,by omega,fun _ _ _=>rfl⟩,afl,ael,by simp! [e0]⟩
  | true=>
   have et:=Qf (k:=c') (sh:=sh) a4 (by omega) s0
   obtain ⟨t,ht⟩:∃ t,t=vA sh c':=⟨_,rfl⟩
   rw [<- ht] at et
   have hap:=wz (L:=L') (r:=v8 t) (by omega)
   refine ⟨L'++[v8 t],c'+1,⟨by rw [List.length_append]; show _+1<=_; omega,by omega,by omega,by omega,fun k k0 k1=>?_⟩,?_,?_,?_⟩
   ·rw [VH,if_neg]
    intro z
    have:=Qg a4 k0 (ht.symm.trans z)
    omega
   ·rw [List.filter_append,afl]
    show rows.take i++[]=_
    rw [List.append_nil]
   ·intro d hd
    rcases List.mem_append.mp hd with hd | hd
    ·exact ael d hd
    ·cases List.mem_singleton.mp hd; exact .inl ⟨t,rfl⟩
   ·unfold v8 at hap ⊢
    simp! [e0,et,hap]
 obtain ⟨L2,c2,⟨b1,b2,b3,b4,b5⟩,bfl,bel,be⟩:=B
 have C:∃ L3:List D,L3.length<=3*(i+1)/\(∀ t,(xz t L3).2=(xz t L2).2)/\L3.filter (fun d=>!xU d)=rows.take (i+1)/\(∀ d∈L3,(∃ t,d=v8 t)\/d∈rows)/\
   zY (tE (e2 (yW fun i j=>decide (i<j)) (z7 7) (eL yz (z8 (z7 0) zC))))
     (xX 5 xJ (e2 zF (z7 0) (z7 7)))
     zm [some (false,.lst rows),some (false,.int cell),some (false,.int sh),some (false,.lst (xF rows)),some (true,.dic ks' vs'),some (true,.lst L2),some (false,.int c2),some (false,.int (i:Int)),some (false,.int (mx % 12)),x9] =
   some (.nx [some (false,.lst rows),some (false,.int cell),some (false,.int sh),some (false,.lst (xF rows)),some (true,.dic ks' vs'),some (true,.lst L3),some (false,.int c2),some (false,.int (i:Int)),some (false,.int (mx % 12)),x9]):=by
  by_cases h:i<rows.length
  ·have hap:=wz (L:=L2) (r:=rows[i]) (by omega)
   have ex:zF (.lst rows) (.int (i:Int))=some rows[i]:=vh (by omega) (by rw [Int.toNat_natCast]; exact List.getElem?_eq_getElem h)
   have hd:decide ((i:Int)<(rows.length:Int))=true:=decide_eq_true (by omega)
   refine ⟨L2++[rows[i]],by rw [List.length_append]; show _+1<=_; omega,?_,?_,?_,?_⟩
   ·intro t
    obtain ⟨_,_,_,z,_⟩:=Jk (hr _ (List.getElem_mem h))
    exact F0 z
   ·obtain ⟨_,_,_,z,_⟩:=Jk (hr _ (List.getElem_mem h))
    rw [List.filter_append,bfl,List.filter_cons_of_pos (by rw [z]; rfl),List.filter_nil,List.take_succ_eq_append_getElem h]
   ·intro d hd
    rcases List.mem_append.mp hd with hd | hd
    ·exact bel d hd
    ·cases List.mem_singleton.mp hd; exact .inr (List.getElem_mem h)
   ·simp! [hd,ex,hap]
  ·have hd:decide ((i:Int)<(rows.length:Int))=false:=decide_eq_false (by omega)
   refine ⟨L2,by omega,fun _=>rfl,?_,bel,by simp! [hd]⟩
   rw [bfl,List.take_of_length_le (by omega),List.take_of_length_le (by omega)]
 obtain ⟨L3,d1,dpl,dfl,del,de⟩:=C
 refine ⟨ks',vs',L3,c2,some (false,.int (mx % 12)),⟨a1,a2,by omega,b2,by omega,fun q q0 q1 hq=>?_,dfl,del⟩,?_⟩
 ·obtain ⟨k,k0,k1,k2,k3⟩:=anm q q0 q1 hq
  exact ⟨k,k0,by omega,k2,by rw [dpl,b5 k k0 k1,k3]⟩
 unfold YB
 have s1:zP 8 (e2 zr (zV xc (z8 (z7 1) (z8 (z7 7) zC))) (eC (.int 12))) [some (false,.lst rows),some (false,.int cell),some (false,.int sh),some (false,.lst (xF rows)),some (true,.dic ks vs),some (true,.lst L),some (false,.int c),some (false,.int (i:Int)),x8,x9]=some (.nx [some (false,.lst rows),some (false,.int cell),some (false,.int sh),some (false,.lst (xF rows)),some (true,.dic ks vs),some (true,.lst L),some (false,.int c),some (false,.int (i:Int)),some (false,.int (mx % 12)),x9]):=by simp! [hm]
 refine Eq.trans (qk s1) ?_
 rw [qk ae,qk be]
 exact de
theorem MM {rows:List D} (hr:∀ r∈rows,w4 (rows.length:Int) r) (hl:rows.length<=100) {cell:Int}:∃ items:List D,gB [.lst rows,.int cell]=some (true,.lst items)/\(∀ d∈items,qz d)/\vH (qy items) rows (items.filter fun d=>!xU d)/\items.length<=1000:=by
 have hj:=W_ hr (by omega)
 have q9:ye (zt 10) yk X8 [some (false,.lst rows),some (false,.int cell),some (false,.int (cell / 4 % 999)),none,none,none,none,none,none,none,none] ((xV rows).map fun i:Nat=>D.int i)=some (xF rows):=by
  have:=QP (g:=zt 10) (e:=X8) (σ:=[some (false,.lst rows),some (false,.int cell),some (false,.int (cell / 4 % 999)),none,none,none,none,none,none,none,none]) (fun d=>match d with | .int i=>ux (rows.getD i.toNat .non) | d=>d) (ds:=(xV rows).map fun i:Nat=>D.int i) fun d hd=>by
   obtain ⟨i,hi,rfl⟩:=List.mem_map.mp hd
   obtain ⟨h1,h2⟩:=kE hi
   have eg:rows.getD i .non=rows[i]:=by rw [List.getD_eq_getElem?_getD,List.getElem?_eq_getElem h1]; rfl
   have ex:zF (.lst rows) (.int (i:Int))=some rows[i]:=vh (by omega) (by rw [Int.toNat_natCast]; exact List.getElem?_eq_getElem h1)
   rw [eg] at h2
   refine ⟨_,rfl,?_⟩
   show _=some (ux (rows.getD ((i:Int)).toNat .non))
   rw [Int.toNat_natCast,eg]
   rcases hr _ (List.getElem_mem h1) with h | h
   ·obtain ⟨_,_,_,_,c,_⟩:=tm h
    rw [c] at h2
    cases h2
   ·obtain ⟨w,p,_,_,_,_,_,q1,q2,_⟩:=uN h
    rw [q2]
    unfold X8
    simp! [ex,q1]
  rw [this,List.map_map]
  rfl
 have e2:JT [some (false,.lst rows),some (false,.int cell),some (false,.int (cell / 4 % 999)),some (false,.lst (xF rows)),some (true,.dic [] []),some (true,.lst []),some (false,.int 0),none,none,none]=some (xm (rows.length+1)):=by
  have:=pS (f:=e2 zR (eL yz (z8 (z7 0) zC)) (eC (.int 1))) (τ:=[some (false,.lst rows),some (false,.int cell),some (false,.int (cell / 4 % 999)),some (false,.lst (xF rows)),some (true,.dic [] []),some (true,.lst []),some (false,.int 0),none,none,none]) (n:=(rows.length:Int)+1) rfl (by omega)
  rw [show ((rows.length:Int)+1).toNat=rows.length+1 by omega] at this
  exact this
 obtain ⟨σ',e3,ks,vs,L,c,x7,x8,I,rfl⟩:=qb (g:=zt 7) (b:=YB) (fun i σ=>∃ ks vs L c x7 x8,Inv rows (cell / 4 % 999) i ks vs L c/\σ=[some (false,.lst rows),some (false,.int cell),some (false,.int (cell / 4 % 999)),some (false,.lst (xF rows)),some (true,.dic ks vs),some (true,.lst L),some (false,.int c),x7,x8,none]) (ds:=xm (rows.length+1))
  (σ:=[some (false,.lst rows),some (false,.int cell),some (false,.int (cell / 4 % 999)),some (false,.lst (xF rows)),some (true,.dic [] []),some (true,.lst []),some (false,.int 0),none,none,none]) 0
  ⟨[],[],[],0,none,none,⟨rfl,Nat.le_refl _,Nat.le_refl _,by decide,by decide,(fun q q0 q1=>by omega),rfl,(fun _ h=>by cases h)⟩,rfl⟩ (by
  rintro i v σ hv ⟨ks,vs,L,c,x7,x8,I,rfl⟩
  obtain ⟨hi,rfl⟩:=pq hv
  rw [Nat.zero_add] at I ⊢
  obtain ⟨ks',vs',L',c',y8,I',e⟩:=MN (cell:=cell) (sh:=cell / 4 % 999) hr hl (by omega) (by omega) I (x8:=x8) (x9:=none)
  exact ⟨_,_,rfl,.inl e,ks',vs',L',c',_,y8,I',rfl⟩)
 rw [g4,Nat.zero_add] at I
 obtain ⟨hk,k1,l1,c0,c1,nm,fl,el⟩:=I
 obtain ⟨items,e4,ea⟩:=QO (g:=zt 10) (e:=p_) (σ:=[some (false,.lst rows),some (false,.int cell),some (false,.int (cell / 4 % 999)),some (false,.lst (xF rows)),some (false,.dic ks vs),some (false,.lst L),some (false,.int c),x7,x8,some (false,.tup [.str "jump",.str "when",.str "unless"]),none]) (qy L) (ds:=L) fun d hd=>by
  have pr:∀ d,wx d->∃ σ1 x,zt 10 d [some (false,.lst rows),some (false,.int cell),some (false,.int (cell / 4 % 999)),some (false,.lst (xF rows)),some (false,.dic ks vs),some (false,.lst L),some (false,.int c),x7,x8,some (false,.tup [.str "jump",.str "when",.str "unless"]),none]=some σ1/\p_ σ1=some x/\qy L d x:=fun d h=>by
   obtain ⟨w,a,b,_,jf,_⟩:=tm h
   unfold Y8 at b
   refine ⟨_,d,rfl,?_,.plain h,rfl,⟨fun _=>rfl,fun z=>by rw [jf] at z; cases z⟩,rfl,fun z=>by rw [jf] at z; cases z⟩
   unfold p_
   simp! [a,b]
  rcases el d hd with ⟨t,rfl⟩ | hd
  ·have a:zF (v8 t) (.int 0)=some (.str "label"):=rfl
   have b:yb (.str "label") (.tup [.str "jump",.str "when",.str "unless"])=some (.bl false):=rfl
   refine ⟨_,v8 t,rfl,?_,.label t,rfl,⟨fun _=>rfl,fun z=>by cases z⟩,rfl,fun z=>by cases z⟩
   unfold p_
   simp! [a,b]
  ·obtain ⟨i,hi,rfl⟩:=List.getElem_of_mem hd
   rcases hr _ (List.getElem_mem hi) with h | h
   ·exact pr _ h
   ·obtain ⟨w,p,a,b,_,j,_,q1,q2,p0,p1⟩:=uN h
    obtain ⟨kn,kn0,kn1,et,ep⟩:=nm p p0 (by omega) (MD hi j q2)
    generalize vA (cell / 4 % 999) kn=t at et ep
    have eg:zF (.dic ks vs) (.int p)=some (.str t):=et
    have hp:ux rows[i]=.int ((p.toNat:Nat):Int):=by rw [q2,show ((p.toNat:Nat):Int)=p by omega]
    unfold Y8 at b
    generalize rows[i]=r at h a j q1 q2 hp
    cases h with
    | jump p0 p1=>
     rename_i p'
     cases a
     have sl:ya (z7 10) yH (yI (e1 xy (eC (.int 1)))) [some (false,.lst rows),some (false,.int cell),some (false,.int (cell / 4 % 999)),some (false,.lst (xF rows)),some (false,.dic ks vs),some (false,.lst L),some (false,.int c),x7,x8,some (false,.tup [.str "jump",.str "when",.str "unless"]),some (false,.tup [.str "jump",.int p'])]=some (.tup [.str "jump"]):=rfl
     have ad:zR (.tup [.str "jump"]) (.tup [.str t])=some (.tup [.str "jump",.str t]):=rfl
     refine ⟨_,_,rfl,?_,.jump t,rfl,⟨(fun z=>by cases z),fun _=>⟨[.str "jump"],_,t,rfl,rfl⟩⟩,rfl,fun _=>⟨t,p.toNat,rfl,ep,hp⟩⟩
     unfold p_
     simp! [yq,b,sl,q1,eg,ad]
    | cond hw hk p0 p1=>
     rename_i w' k' p'
     cases a
     have sl:ya (z7 10) yH (yI (e1 xy (eC (.int 1)))) [some (false,.lst rows),some (false,.int cell),some (false,.int (cell / 4 % 999)),some (false,.lst (xF rows)),some (false,.dic ks vs),some (false,.lst L),some (false,.int c),x7,x8,some (false,.tup [.str "jump",.str "when",.str "unless"]),some (false,.tup [.str w,.str k',.int p'])]=some (.tup [.str w,.str k']):=rfl
     have ad:zR (.tup [.str w,.str k']) (.tup [.str t])=some (.tup [.str w,.str k',.str t]):=rfl
     refine ⟨_,.tup [.str w,.str k',.str t],rfl,?_,.cond t hw hk,?_,⟨fun z=>?_,fun _=>⟨[.str w,.str k'],_,t,rfl,rfl⟩⟩,?_,fun _=>⟨t,p.toNat,rfl,ep,hp⟩⟩
     ·unfold p_
      simp! [yq,b,sl,q1,eg,ad]
     ·rcases hw with rfl | rfl<;>rfl
     ·rcases hw with rfl | rfl<;>cases z
     ·rcases hw with rfl | rfl<;>rfl
 have f1:=Tf ea
 have f3:=TW ea
 have f4:∀ t,xz t items=xz t L:=fun t=>Tg t _ ea
 rw [fl,List.take_of_length_le (by omega)] at f1
 refine ⟨items,?_,fun d hd=>?_,TV (fun x y h=>⟨h.1,h.2.1,h.2.2.1,h.2.2.2.1,fun z=>?_⟩) f1,by omega⟩
 rotate_left
 ·obtain ⟨x,_,h⟩:=TY ea d hd
  exact h.1
 ·obtain ⟨t,p,a,b,c⟩:=h.2.2.2.2 z
  exact ⟨t,p,a,by rw [f4]; exact b,c⟩
 rw [Lk]
 unfold W5
 simp! [hj,q9,e2,e3,e4]
noncomputable def qP:FS:=
 (zG (zP 3 (e2 zr (z7 2) (eC (.int 8))))
  (zG (zP 4 (e2 zR (z7 0) (e2 zF (yC (z8 (eC (.int 14)) (z8 (eC (.int 15)) (z8 (eC (.int 16)) (z8 (eC (.int 13)) (z8 (e1 xy (eC (.int 15))) (z8 (e1 xy (eC (.int 16))) (z8 (e1 xy (eC (.int 17))) (z8 (e1 xy (eC (.int 14))) zC))))))))) (e2 zr (e2 yh (z7 2) (eC (.int 8))) (eC (.int 8))))))
  (zG (zY (pj (tE (e2 (yW fun i j=>decide (i<j)) (z7 3) (eC (.int 4)))) (tE (vm (yW fun i j=>decide (i<=j)) (yW fun i j=>decide (i<=j)) (eC (.int 0)) (z7 4) (z7 1))))
   (za (z7 4))
   zm)
  (zG (zY (tE (e2 (yW fun i j=>decide (i<j)) (z7 3) (eC (.int 6))))
   (za (e2 zr (e2 yh (z7 2) (eC (.int 64))) (e2 zR (z7 1) (eC (.int 1)))))
   zm)
  (za (eL Zp (z8 (eC (.int 0)) (z8 (eL Zq (z8 (z7 1) (z8 (e2 xg (e2 zR (z7 0) (e2 zr (e2 yh (z7 2) (eC (.int 64))) (eC (.int 7)))) (eC (.int 3))) zC))) zC))))))))
noncomputable def j6:List D->Option (Bool×D):=FR 3 5 qP
theorem ja (x0 x1 x2:D):j6 [x0,x1,x2]=yP 5 qP [x0,x1,x2]:=rfl
noncomputable def JW:FA:=(v7 (eC (.int 0)) (z7 1))
noncomputable def kH:FS:=(zG (zP 5 (zV wd (z8 (z7 0) (z8 (e2 zR (eC (.int 3)) (z7 4)) zC))))
    (zG (zY (tE (e2 (yW fun i j=>decide (i<j)) (eL yz (z8 (z7 0) zC)) (e2 zR (eC (.int 4)) (z7 4))))
     (zP 5 (zV xc (z8 (zV wd (z8 (z7 0) (z8 (eC (.int 2)) zC))) (z8 (z7 4) zC))))
     zm)
    (zY (tE (e2 (yW fun i j=>decide (i<j)) (e2 zr (zV xc (z8 (z7 5) (z8 (eC (.int 1)) zC))) (eC (.int 8))) (z7 2)))
     (zG (zP 6 (zV j6 (z8 (z7 4) (z8 (z7 1) (z8 (zV xc (z8 (z7 5) (z8 (eC (.int 2)) zC))) zC)))))
      (zG (zP 7 (e2 zF (yC (z8 (eC (.str "jump")) (z8 (eC (.str "when")) (z8 (eC (.str "unless")) zC)))) (e2 zr (zV xc (z8 (z7 5) (z8 (eC (.int 3)) zC))) (eC (.int 3)))))
      (zY (tE (e2 zS (z7 7) (eC (.str "jump"))))
       (xX 3 xJ (yQ (z8 (z7 7) (z8 (z7 6) zC))))
       (xX 3 xJ (yQ (z8 (z7 7) (z8 (e2 zF (yC (z8 (eC (.str "carry")) (z8 (eC (.str "nought")) (z8 (eC (.str "sign")) zC)))) (e2 zr (zV xc (z8 (z7 5) (z8 (eC (.int 4)) zC))) (eC (.int 3)))) (z8 (z7 6) zC))))))))
     (xX 3 xJ (zV j7 (z8 (zV xc (z8 (z7 5) (z8 (eC (.int 5)) zC))) zC))))))
noncomputable def WB:FS:=
 (zG (vB 3 (yC zC))
  (zG (vz JW (zt 4)
   kH)
  (t8 3)))
noncomputable def gH:List D->Option (Bool×D):=FR 3 8 WB
theorem Lr (x0 x1 x2:D):gH [x0,x1,x2]=yP 8 WB [x0,x1,x2]:=rfl
noncomputable def jN:FS:=
 (zG (zP 1 (e2 zr (z7 0) (eC (.int 24))))
  (zG (zY (tE (e2 zS (e2 zr (e2 yh (z7 0) (eC (.int 24))) (eC (.int 4))) (eC (.int 1))))
   (zP 1 (e2 zR (eC (.int 16)) (e2 zr (e2 yh (z7 0) (eC (.int 96))) (eC (.int 24)))))
   zm)
  (zG (zY (tE (e2 zS (e2 zr (e2 yh (z7 0) (eC (.int 24))) (eC (.int 8))) (eC (.int 3))))
   (zP 1 (e2 zR (eC (.int 30)) (e2 zr (e2 yh (z7 0) (eC (.int 192))) (eC (.int 31)))))
   zm)
  (za (z7 1)))))
noncomputable def gD:List D->Option (Bool×D):=FR 1 2 jN
theorem Y1 (x0:D):gD [x0]=yP 2 jN [x0]:=rfl
noncomputable def W3:FS:=
 (zG (zP 1 (zV gD (z8 (zV wd (z8 (z7 0) (z8 (eC (.int 0)) zC))) zC)))
  (zG (zP 2 (e2 zF (yC (fun _=>some (List.map D.int [4,2,6,8]))) (e2 zr (zV wd (z8 (z7 0) (z8 (eC (.int 1)) zC))) (eC (.int 4)))))
  (zG (zP 3 (zV gH (z8 (z7 0) (z8 (z7 1) (z8 (z7 2) zC)))))
  (za (yQ (z8 (z7 3) (z8 (zV gB (z8 (z7 3) (z8 (e2 yh (zV wd (z8 (z7 0) (z8 (eC (.int 1)) zC))) (eC (.int 4))) zC))) zC)))))))
noncomputable def gA:List D->Option (Bool×D):=FR 1 4 W3
theorem Li (x0:D):gA [x0]=yP 4 W3 [x0]:=rfl
theorem Dw {n m c:Int} (n0:0<=n) (m0:0<=m):∃ p:Int,0<=p/\p<=m/\j6 [.int n,.int m,.int c]=some (false,.int p):=by
 obtain ⟨z,e⟩:∃ z:Int,zF (.lst [.int 14,.int 15,.int 16,.int 13,.int (-15),.int (-16),.int (-17),.int (-14)]) (.int (c / 8 % 8))=some (.int z):=by
  rcases (show c / 8 % 8=0\/c / 8 % 8=1\/c / 8 % 8=2\/c / 8 % 8=3\/c / 8 % 8=4\/c / 8 % 8=5\/c / 8 % 8=6\/c / 8 % 8=7 by omega) with h | h | h | h | h | h | h | h<;>rw [h]<;>exact ⟨_,rfl⟩
 have hm:decide (0<m+1)=true:=decide_eq_true (by omega)
 have q0:=Int.emod_nonneg (c / 64) (show m+1≠0 by omega)
 have q1:=Int.emod_lt_of_pos (c / 64) (show 0<m+1 by omega)
 have hch:vm (yW fun i j=>decide (i<=j)) (yW fun i j=>decide (i<=j)) (eC (.int 0)) (z7 4) (z7 1) [some (false,.int n),some (false,.int m),some (false,.int c),some (false,.int (c % 8)),some (false,.int (n+z))]=some (.bl (decide (0<=n+z)&&decide (n+z<=m))):=by
  by_cases g0:0<=n+z
  ·simp! [vm,decide_eq_true g0,Bool.true_and]
  ·simp! [vm,decide_eq_false g0,Bool.false_and]
 have hg:(decide (0<=n+z)&&decide (n+z<=m))=true->0<=n+z/\n+z<=m:=fun h=>by
  rw [Bool.and_eq_true] at h
  exact ⟨of_decide_eq_true h.1,of_decide_eq_true h.2⟩
 generalize (decide (0<=n+z)&&decide (n+z<=m))=bc at hch hg
 cases h4:decide (c % 8<4)<;>cases bc
 ·by_cases h6:c % 8<6
  ·refine ⟨_,q0,by omega,?_⟩
   rw [ja]
   unfold qP
   simp! [e,add_int,h4,hch,decide_eq_true h6,hm]
  ·refine ⟨if (if n+c / 64 % 7 - 3<m then n+c / 64 % 7 - 3 else m) > 0 then (if n+c / 64 % 7 - 3<m then n+c / 64 % 7 - 3 else m) else 0,?_,?_,?_⟩
   ·split<;>omega
   ·split
    ·split<;>omega
    ·omega
   ·rw [ja]
    unfold qP
    simp! [e,add_int,h4,hch,decide_eq_false h6,Zq,Zp]
 ·by_cases h6:c % 8<6
  ·refine ⟨_,q0,by omega,?_⟩
   rw [ja]
   unfold qP
   simp! [e,add_int,h4,hch,decide_eq_true h6,hm]
  ·refine ⟨if (if n+c / 64 % 7 - 3<m then n+c / 64 % 7 - 3 else m) > 0 then (if n+c / 64 % 7 - 3<m then n+c / 64 % 7 - 3 else m) else 0,?_,?_,?_⟩
   ·split<;>omega
   ·split
    ·split<;>omega
    ·omega
   ·rw [ja]
    unfold qP
    simp! [e,add_int,h4,hch,decide_eq_false h6,Zq,Zp]
 ·have h6:c % 8<6:=by have:=of_decide_eq_true h4; omega
  refine ⟨_,q0,by omega,?_⟩
  rw [ja]
  unfold qP
  simp! [e,add_int,h4,hch,decide_eq_true h6,hm]
 ·obtain ⟨g0,g1⟩:=hg rfl
  refine ⟨n+z,g0,g1,?_⟩
  rw [ja]
  unfold qP
  simp! [e,add_int,h4,hch]
theorem CF {s:D} {ns:List Int} {m dn i:Int} {L:List D} {x5 x6 x7:Option Sl} (hs:s=.lst (ns.map D.int)) (i0:0<=i) (m0:0<=m) (hl:L.length<=1000) :
  ∃ r,w4 m r/\∃ y5 y6 y7,kH [some (false,s),some (false,.int m),some (false,.int dn),some (true,.lst L),some (false,.int i),x5,x6,x7]=some (.nx [some (false,s),some (false,.int m),some (false,.int dn),some (true,.lst (L++[r])),some (false,.int i),y5,y6,y7]):=by
 have hap:∀ r,xJ (.lst L) r=some (.lst (L++[r])):=fun r=>by
  show (if L.length<yA then _ else _)=_
  rw [if_pos (by show _<16777216; omega)]
 have hc:=gZ ns (k:=3+i) (by omega)
 have hc2:=gZ ns (k:=2) (by decide)
 have hln:yz [s]=some (.int (ns.length:Int)):=by rw [hs]; show some (D.int ((ns.map D.int).length:Nat))=_; rw [List.length_map]
 rw [<- hs] at hc hc2
 have go:∀ c:Int,∃ r,w4 m r/\∃ y5 y6 y7,zY (tE (e2 (yW fun i j=>decide (i<j)) (e2 zr (zV xc (z8 (z7 5) (z8 (eC (.int 1)) zC))) (eC (.int 8))) (z7 2)))
     (zG (zP 6 (zV j6 (z8 (z7 4) (z8 (z7 1) (z8 (zV xc (z8 (z7 5) (z8 (eC (.int 2)) zC))) zC)))))
      (zG (zP 7 (e2 zF (yC (z8 (eC (.str "jump")) (z8 (eC (.str "when")) (z8 (eC (.str "unless")) zC)))) (e2 zr (zV xc (z8 (z7 5) (z8 (eC (.int 3)) zC))) (eC (.int 3)))))
      (zY (tE (e2 zS (z7 7) (eC (.str "jump"))))
       (xX 3 xJ (yQ (z8 (z7 7) (z8 (z7 6) zC))))
       (xX 3 xJ (yQ (z8 (z7 7) (z8 (e2 zF (yC (z8 (eC (.str "carry")) (z8 (eC (.str "nought")) (z8 (eC (.str "sign")) zC)))) (e2 zr (zV xc (z8 (z7 5) (z8 (eC (.int 4)) zC))) (eC (.int 3)))) (z8 (z7 6) zC))))))))
     (xX 3 xJ (zV j7 (z8 (zV xc (z8 (z7 5) (z8 (eC (.int 5)) zC))) zC))) [some (false,s),some (false,.int m),some (false,.int dn),some (true,.lst L),some (false,.int i),some (false,.int c),x6,x7]=some (.nx [some (false,s),some (false,.int m),some (false,.int dn),some (true,.lst (L++[r])),some (false,.int i),y5,y6,y7]):=fun c=>by
  have m1:=u_ c 1
  have m2:=u_ c 2
  have m3:=u_ c 3
  have m4:=u_ c 4
  have m5:=u_ c 5
  cases hd:decide (xP c 1 % 8<dn) with
  | false=>
   obtain ⟨r,er,pr⟩:=C9 (xP c 5)
   refine ⟨r,.inl pr,some (false,.int c),x6,x7,?_⟩
   simp! [m1,hd,m5,er,hap]
  | true=>
   obtain ⟨p,p0,p1,ep⟩:=Dw (c:=xP c 2) i0 m0
   obtain ⟨w,hw,ew⟩:∃ w:Str,(w = "jump" \/ w = "when" \/ w = "unless")/\zF (.lst [.str "jump",.str "when",.str "unless"]) (.int (xP c 3 % 3))=some (.str w):=by
    rcases (show xP c 3 % 3=0\/xP c 3 % 3=1\/xP c 3 % 3=2 by omega) with h | h | h<;>rw [h]
    ·exact ⟨"jump",by simp,rfl⟩
    ·exact ⟨"when",by simp,rfl⟩
    ·exact ⟨"unless",by simp,rfl⟩
   obtain ⟨k,hk,ek⟩:∃ w:Str,(w = "carry" \/ w = "nought" \/ w = "sign")/\zF (.lst [.str "carry",.str "nought",.str "sign"]) (.int (xP c 4 % 3))=some (.str w):=by
    rcases (show xP c 4 % 3=0\/xP c 4 % 3=1\/xP c 4 % 3=2 by omega) with h | h | h<;>rw [h]
    ·exact ⟨"carry",by simp,rfl⟩
    ·exact ⟨"nought",by simp,rfl⟩
    ·exact ⟨"sign",by simp,rfl⟩
   rcases hw with rfl | hw
   ·have q:zS (.str "jump") (.str "jump")=some (.bl true):=by rfl
    refine ⟨_,.inr (.jump p0 p1),some (false,.int c),some (false,.int p),some (false,.str "jump"),?_⟩
    simp! [m1,m2,m3,hd,ep,ew,q,hap]
   ·have q:zS (.str w) (.str "jump")=some (.bl false):=by rcases hw with rfl | rfl<;>rfl
    refine ⟨_,.inr (.cond hw hk p0 p1),some (false,.int c),some (false,.int p),some (false,.str w),?_⟩
    simp! [m1,m2,m3,m4,hd,ep,ew,ek,q,hap]
 cases hd:decide ((ns.length:Int)<4+i) with
 | false=>
  obtain ⟨r,hr,y5,y6,y7,e⟩:=go (vN ns (3+i))
  refine ⟨r,hr,y5,y6,y7,?_⟩
  unfold kH
  rw [qk (σ':=[some (false,s),some (false,.int m),some (false,.int dn),some (true,.lst L),some (false,.int i),some (false,.int (vN ns (3+i))),x6,x7]) (by simp! [add_int,hc])]
  rw [qk (σ':=[some (false,s),some (false,.int m),some (false,.int dn),some (true,.lst L),some (false,.int i),some (false,.int (vN ns (3+i))),x6,x7]) (by rw [hs]; simp! [add_int,List.length_map,hd])]
  exact e
 | true=>
  obtain ⟨r,hr,y5,y6,y7,e⟩:=go (xP (vN ns 2) i)
  refine ⟨r,hr,y5,y6,y7,?_⟩
  have mm:=u_ (vN ns 2) i
  unfold kH
  rw [qk (σ':=[some (false,s),some (false,.int m),some (false,.int dn),some (true,.lst L),some (false,.int i),some (false,.int (vN ns (3+i))),x6,x7]) (by simp! [add_int,hc])]
  rw [qk (σ':=[some (false,s),some (false,.int m),some (false,.int dn),some (true,.lst L),some (false,.int i),some (false,.int (xP (vN ns 2) i)),x6,x7]) (by rw [hs] at hc2 ⊢; simp! [add_int,List.length_map,hd,hc2,mm])]
  exact e
theorem CD {ns:List Int} {m dn:Int} (m0:0<=m) (m1:m<=100):∃ rows:List D,rows.length=m.toNat/\(∀ r∈rows,w4 m r)/\gH [.lst (ns.map D.int),.int m,.int dn]=some (true,.lst rows):=by
 obtain ⟨s,hs⟩:∃ s:D,s=.lst (ns.map D.int):=⟨_,rfl⟩
 rw [<- hs]
 have hr:JW [some (false,s),some (false,.int m),some (false,.int dn),some (true,.lst []),none,none,none,none]=some (xm m.toNat):=pS (n:=m) rfl (by omega)
 obtain ⟨σ',e,L,x4,x5,x6,x7,hl,hL,rfl⟩:=qb (g:=zt 4) (b:=kH) (fun i σ=>∃ L x4 x5 x6 x7,L.length=i/\(∀ r∈L,w4 m r)/\σ=[some (false,s),some (false,.int m),some (false,.int dn),some (true,.lst L),x4,x5,x6,x7]) (ds:=xm m.toNat)
  (σ:=[some (false,s),some (false,.int m),some (false,.int dn),some (true,.lst []),none,none,none,none]) 0 ⟨[],none,none,none,none,rfl,(fun _ h=>by cases h),rfl⟩ (by
  rintro i v σ hv ⟨L,x4,x5,x6,x7,hl,hL,rfl⟩
  obtain ⟨hi,rfl⟩:=pq hv
  obtain ⟨r,hr,y5,y6,y7,e⟩:=CF (s:=s) (ns:=ns) (m:=m) (dn:=dn) (i:=(i:Int)) (L:=L) (x5:=x5) (x6:=x6) (x7:=x7) hs (by omega) m0 (by omega)
  refine ⟨_,_,rfl,.inl e,L++[r],_,y5,y6,y7,by rw [List.length_append,hl]; rfl,?_,rfl⟩
  intro x hx
  rcases List.mem_append.mp hx with hx | hx
  ·exact hL x hx
  ·cases List.mem_singleton.mp hx
   exact hr)
 rw [g4,Nat.zero_add] at hl
 refine ⟨L,hl,hL,?_⟩
 rw [Lr]
 unfold WB
 simp! [hr,e]
theorem Mx (c:Int):∃ m:Int,0<=m/\m<=60/\gD [.int c]=some (false,.int m):=by
 have b1:∀ x:Int,(∃ k,zS (.int (c / 24 % 4)) (.int 1)=some (.bl k)):=fun _=>⟨_,rfl⟩
 obtain ⟨k1,e1⟩:∃ k,zS (.int (c / 24 % 4)) (.int 1)=some (.bl k):=⟨_,rfl⟩
 obtain ⟨k2,e2⟩:∃ k,zS (.int (c / 24 % 8)) (.int 3)=some (.bl k):=⟨_,rfl⟩
 cases k1<;>cases k2
 ·refine ⟨c % 24,by omega,by omega,?_⟩
  rw [Y1]
  unfold jN
  simp! [e1,e2,add_int]
 ·refine ⟨30+c / 192 % 31,by omega,by omega,?_⟩
  rw [Y1]
  unfold jN
  simp! [e1,e2,add_int]
 ·refine ⟨16+c / 96 % 24,by omega,by omega,?_⟩
  rw [Y1]
  unfold jN
  simp! [e1,e2,add_int]
 ·refine ⟨30+c / 192 % 31,by omega,by omega,?_⟩
  rw [Y1]
  unfold jN
  simp! [e1,e2,add_int]
theorem Oe (ns:List Int):∃ rows items:List D,rows.length<=60/\(∀ r∈rows,w4 (rows.length:Int) r)/\(∀ d∈items,qz d)/\vH (qy items) rows (items.filter fun d=>!xU d)/\items.length<=1000/\gA [.lst (ns.map D.int)]=some (false,.tup [.lst rows,.lst items]):=by
 have hc0:=gZ ns (k:=0) (by decide)
 have hc1:=gZ ns (k:=1) (by decide)
 obtain ⟨m,m0,m1,em⟩:=Mx (vN ns 0)
 obtain ⟨dn,_,ed⟩:=VG (a:=4) (b:=2) (c:=6) (d:=8) (i:=vN ns 1 % 4) (by omega) (by omega)
 obtain ⟨rows,hl,hr,er⟩:=CD (ns:=ns) (m:=m) (dn:=dn) m0 (by omega)
 have hr':∀ r∈rows,w4 (rows.length:Int) r:=by rw [hl,show ((m.toNat:Nat):Int)=m by omega]; exact hr
 obtain ⟨items,ei,h1,h2,h3⟩:=MM (cell:=vN ns 1 / 4) hr' (by omega)
 refine ⟨rows,items,by omega,hr',h1,h2,h3,?_⟩
 generalize D.lst (ns.map D.int)=s at hc0 hc1 er ⊢
 rw [Li]
 unfold W3
 simp! [hc0,em,hc1,ed,er,ei]
noncomputable def pB:FS:=
 (za (e2 zS (e2 zF (z7 0) (eC (.int 0))) (eC (.str "label"))))
noncomputable def qt:List D->Option (Bool×D):=FR 1 1 pB
theorem k6 (x0:D):qt [x0]=yP 1 pB [x0]:=rfl
noncomputable def zK (f:Nat->Bool):Nat->Int
 | 0=>0
 | n+1=>zK f n+(if f n then 2 else 1)
noncomputable def xC (f:Nat->Bool) (n:Nat):List D:=(List.range n).map fun i=>D.int (zK f i)
theorem Uf (f:Nat->Bool) (n:Nat):xC f (n+1)=xC f n++[.int (zK f n)]:=by
 unfold xC
 rw [List.range_succ,List.map_append]
 rfl
theorem OD (f:Nat->Bool) (n:Nat):(xC f n).length=n:=by simp [xC]
noncomputable def z_ (far:List Nat):List D:=far.map fun i:Nat=>D.int i
noncomputable def zE (far:List Nat) (n:Nat):Bool:=(z_ far).any fun y=>yR y (.int (n:Int))
noncomputable def tgt (r:D):D:=match yi r with
 | true=>ux r
 | false=>.non
theorem Eb {m:Int} {r:D} (h:w4 m r):(yi r=false/\tgt r=.non)\/(yi r=true/\∃ p:Nat,(p:Int)<=m/\tgt r=.int (p:Int)/\ux r=.int (p:Int)/\zF r (.int (-1))=some (.int (p:Int))):=by
 rcases h with h | h
 ·obtain ⟨_,_,_,_,c,_⟩:=tm h
  refine .inl ⟨c,?_⟩
  unfold tgt
  rw [c]
 ·obtain ⟨w,p,_,_,_,c,_,q1,q2,p0,p1⟩:=uN h
  have hp:((p.toNat:Nat):Int)=p:=by omega
  refine .inr ⟨c,p.toNat,by omega,?_,by rw [hp,q2],by rw [hp,q1]⟩
  unfold tgt
  rw [c,hp]
  exact q2
noncomputable def dv (f:Nat->Bool) (d:D):D:=match d with
 | .tup [.int i,.int p]=>.int (zK f p.toNat - zK f i.toNat)
 | _=>.non
theorem ZM {f:Nat->Bool} {n p:Nat} (h:p<n):zF (.lst (xC f n)) (.int (p:Int))=some (.int (zK f p)):=by
 refine vh (by omega) ?_
 rw [Int.toNat_natCast]
 unfold xC
 rw [List.getElem?_map,List.getElem?_range h]
 rfl
noncomputable def Qi:D->Bool
 | .non=>true
 | .int x=>decide (-16<=x)&&decide (x<=15)
 | _=>false
noncomputable def uk (rows:List D) (far:List Nat) (i:Nat):Bool:=!Qi (dv (zE far) (.tup [.int (i:Int),tgt (rows.getD i .non)]))
noncomputable def gF (rows:List D) (far:List Nat):List Nat:=((List.range rows.length).filter fun i=>!zE far i).filter (uk rows far)
noncomputable def uV (l:List Nat):List Nat:=(L2.isort (l.map fun i:Nat=>(i:Int))).map Int.toNat
theorem Ct (l:List Nat):z_ (uV l)=(L2.isort (l.map fun i:Nat=>(i:Int))).map D.int:=by
 unfold z_ uV
 rw [List.map_map]
 refine List.map_congr_left fun x hx=>?_
 obtain ⟨i,_,rfl⟩:=List.mem_map.mp ((L2.isort_perm _).mem_iff.mp hx)
 rfl
theorem Yo (l:List Nat):(uV l).Perm l:=by
 have h:=(L2.isort_perm (l.map fun i:Nat=>(i:Int))).map Int.toNat
 rw [List.map_map] at h
 have e:l.map (Int.toNat ∘ fun i:Nat=>(i:Int))=l:=by
  rw [show (Int.toNat ∘ fun i:Nat=>(i:Int))=id from funext fun i=>Int.toNat_natCast i,List.map_id]
 rw [e] at h
 exact h
inductive tN (g:List Nat->List Nat):List Nat->List Nat->Nat->Prop
 | stop {far:List Nat}:g far=[]->tN g far far 0
 | go {far R:List Nat} {k:Nat}:g far≠[]->(far++g far).length<64->tN g (uV (far++g far)) R k->tN g far R (k+1)
noncomputable def tK (n:Nat) (l:List Nat):Prop:=l.Nodup/\∀ x∈l,x<n
theorem Jh {g:List Nat->List Nat} {n:Nat} (hn:n<64) (hg:∀ far,tK n far->tK n (far++g far)):∀ (m:Nat) (far:List Nat),tK n far->n - far.length<=m->∃ R k,tN g far R k/\k<=m/\tK n R
 | m,far,gf,hm=>by
  by_cases e:g far=[]
  ·exact ⟨far,0,.stop e,Nat.zero_le _,gf⟩
  ·have g2:=hg far gf
   have l2:=WK n g2.1 g2.2
   have l3:0<(g far).length:=List.length_pos_iff.mpr e
   rw [List.length_append] at l2
   have g3:tK n (uV (far++g far)):=⟨(Yo _).nodup_iff.mpr g2.1,fun x hx=>g2.2 x ((Yo _).mem_iff.mp hx)⟩
   have l4:(uV (far++g far)).length=far.length+(g far).length:=by rw [(Yo _).length_eq,List.length_append]
   match m,hm with
   | 0,hm=>omega
   | m+1,hm=>
    obtain ⟨R,k,h,hk,gr⟩:=Jh hn hg m (uV (far++g far)) g3 (by omega)
    exact ⟨R,k+1,.go e (by rw [List.length_append]; omega) h,by omega,gr⟩
theorem Cu {l:List Nat} (h:l.length<64):We [.lst (z_ l)]=some (.lst (z_ (uV l))):=by
 have e:z_ l=(l.map fun i:Nat=>(i:Int)).map D.int:=by
  unfold z_
  rw [List.map_map]
  rfl
 rw [Ct,e]
 show (intsOf _).bind _=_
 rw [Q8]
 show (if (l.map fun i:Nat=>(i:Int)).length<64 then _ else _)=_
 rw [if_pos (by rw [List.length_map]; exact h)]
theorem OC {a b:List Nat} (h:(a++b).length<64):zR (.lst (z_ a)) (.lst (z_ b))=some (.lst (z_ (a++b))):=by
 show (if (z_ a).length+(z_ b).length<=yA then _ else _)=_
 rw [List.length_append] at h
 unfold z_
 rw [if_pos (by rw [List.length_map,List.length_map]; show _<=16777216; omega),List.map_append]
theorem LW (l:List Nat):(!(z_ l).isEmpty)=decide (l≠[]):=by
 cases l<;>rfl
theorem M0 {rows:List D} {far:List Nat} (h:tK rows.length far):tK rows.length (far++gF rows far):=by
 have mem:∀ x∈gF rows far,x<rows.length/\zE far x=false:=fun x hx=>by
  have h1:=List.mem_filter.mp (List.mem_filter.mp hx).1
  exact ⟨List.mem_range.mp h1.1,by simpa using h1.2⟩
 refine ⟨List.nodup_append.mpr ⟨h.1,(List.nodup_range.filter _).filter _,fun a ha b hb e=>?_⟩,fun x hx=>?_⟩
 ·subst e
  have h2:=(mem a hb).2
  have:zE far a=true:=List.any_eq_true.mpr ⟨.int (a:Int),List.mem_map.mpr ⟨a,ha,rfl⟩,by unfold yR; exact beq_self_eq_true _⟩
  rw [this] at h2
  cases h2
 ·rcases List.mem_append.mp hx with hx | hx
  ·exact h.2 x hx
  ·exact (mem x hx).1
theorem Ww (far:List Nat) (n:Nat):tQ (.int (n:Int)) (.lst (z_ far))=some (zE far n):=by
 have ha:(z_ far).all yL=true:=List.all_eq_true.mpr fun y hy=>by
  obtain ⟨p,_,rfl⟩:=List.mem_map.mp hy
  rfl
 show (match yL (.int (n:Int))&&(z_ far).all yL with | true=>_ | false=>_)=_
 rw [ha]
 rfl
noncomputable def vi (rows:List D) (far:List Nat) (i:Nat):Bool:=!zE far i&&uk rows far i
theorem Um {rows:List D} {far:List Nat} {i:Nat} (h:yi (rows.getD i .non)=false):uk rows far i=false:=by
 unfold uk tgt
 rw [h]
 rfl
theorem La (rows:List D) (far:List Nat):gF rows far=(xV rows).filter (vi rows far):=by
 unfold gF xV
 rw [List.filter_filter,List.filter_filter]
 refine List.filter_congr fun i _=>?_
 unfold vi
 cases h:yi (rows.getD i .non) with
 | true=>rw [Bool.and_true,Bool.and_comm]
 | false=>rw [Um h,Bool.and_false,Bool.false_and]
noncomputable def JX:FA:=(v7 (eC (.int 0)) (eL yz (z8 (z7 0) zC)))
noncomputable def V4:FS:=(zG (xX 2 xJ (e2 zR (e2 zF (w_ 2) (e1 xy (eC (.int 1)))) (eC (.int 1))))
    (zY (tE (e2 yb (z7 3) (z7 1)))
     (Ya 2 (e1 xy (eC (.int 1))) (e2 zR (e2 zF (w_ 2) (e1 xy (eC (.int 1)))) (eC (.int 1))))
     zm))
noncomputable def WC:FS:=
 (zG (vB 2 (yC (z8 (eC (.int 0)) zC)))
  (zG (vz JX (zt 3)
   V4)
  (t8 2)))
noncomputable def j8:List D->Option (Bool×D):=FR 2 4 WC
theorem Lu (x0 x1:D):j8 [x0,x1]=yP 4 WC [x0,x1]:=rfl
noncomputable def V2:FS:=(zG (zP 5 (e2 xg (e2 zF (z7 2) (e2 zF (e2 zF (z7 0) (z7 4)) (e1 xy (eC (.int 1))))) (e2 zF (z7 2) (z7 4))))
    (zY (pj (tE (e2 tR (z7 4) (z7 1))) (vC (tE (e2 (yW fun i j=>decide (i<j)) (z7 5) (e1 xy (eC (.int 16))))) (tE (e2 (yW fun i j=>decide (j<i)) (z7 5) (eC (.int 15))))))
     (xX 3 xJ (z7 4))
     zm))
noncomputable def W9:FS:=
 (zG (zP 2 (zV j8 (z8 (z7 0) (z8 (z7 1) zC))))
  (zG (vB 3 (yC zC))
  (zG (vz (wg (zV qu (z8 (z7 0) zC))) (zt 4)
   V2)
  (t8 3))))
noncomputable def qE:List D->Option (Bool×D):=FR 2 6 W9
theorem Lp (x0 x1:D):qE [x0,x1]=yP 6 W9 [x0,x1]:=rfl
theorem IO {rows:List D} {far:List Nat} (hl:rows.length<=900):j8 [.lst rows,.lst (z_ far)]=some (true,.lst (xC (zE far) (rows.length+1))):=by
 have e3:JX [some (false,.lst rows),some (false,.lst (z_ far)),some (true,.lst [.int 0]),none]=some (xm rows.length):=pS (n:=(rows.length:Int)) rfl (by omega)
 obtain ⟨σ',e4,x3,rfl⟩:=qb (g:=zt 3) (b:=V4) (fun i σ=>∃ x3,σ=[some (false,.lst rows),some (false,.lst (z_ far)),some (true,.lst (xC (zE far) (i+1))),x3]) (ds:=xm rows.length)
  (σ:=[some (false,.lst rows),some (false,.lst (z_ far)),some (true,.lst [.int 0]),none]) 0 ⟨none,rfl⟩ (by
  rintro i v σ hv ⟨x3,rfl⟩
  obtain ⟨hi,rfl⟩:=pq hv
  rw [Nat.zero_add] at *
  have hap:=wz (L:=xC (zE far) (i+1)) (r:=.int (zK (zE far) i+1)) (by rw [OD]; omega)
  have hin:yb (.int (i:Int)) (.lst (z_ far))=some (.bl (zE far i)):=by
   show (tQ _ _).bind _=_
   rw [Ww]
   rfl
  have i1:zF (.lst (xC (zE far) (i+1))) (.int (-1))=some (.int (zK (zE far) i)):=by rw [Uf]; exact Uk _ _
  have i2:zF (.lst (xC (zE far) (i+1)++[.int (zK (zE far) i+1)])) (.int (-1))=some (.int (zK (zE far) i+1)):=Uk _ _
  refine ⟨_,[some (false,.lst rows),some (false,.lst (z_ far)),some (true,.lst (xC (zE far) (i+1+1))),some (false,.int (i:Int))],rfl,.inl ?_,_,rfl⟩
  rw [Uf _ (i+1)]
  show _=some (Fl.nx [_,_,some (true,.lst (_++[.int (zK (zE far) i+(if zE far i then 2 else 1))])),_])
  unfold V4
  cases hf:zE far i
  ·rw [hf] at hin
   simp! [i1,add_int,hap,hin]
   rfl
  ·rw [hf] at hin
   have hs:Ya 2 (e1 xy (eC (.int 1))) (e2 zR (e2 zF (w_ 2) (e1 xy (eC (.int 1)))) (eC (.int 1))) [some (false,.lst rows),some (false,.lst (z_ far)),some (true,.lst (xC (zE far) (i+1)++[.int (zK (zE far) i+1)])),some (false,.int (i:Int))] =
     some (.nx [some (false,.lst rows),some (false,.lst (z_ far)),some (true,.lst (xC (zE far) (i+1)++[.int (zK (zE far) i+2)])),some (false,.int (i:Int))]):=by
    have hn:L2.ixN (xC (zE far) (i+1)++[D.int (zK (zE far) i+1)]).length (-1)=some (xC (zE far) (i+1)).length:=by
     rw [List.length_append,List.length_singleton]
     unfold L2.ixN
     rw [if_neg (by decide),if_pos (by omega)]
     congr 1
     omega
    have ht:(xC (zE far) (i+1)++[D.int (zK (zE far) i+1)]).set (xC (zE far) (i+1)).length (.int (zK (zE far) i+2))=xC (zE far) (i+1)++[.int (zK (zE far) i+2)]:=by
     rw [List.set_append_right _ _ (Nat.le_refl _),Nat.sub_self]
     rfl
    have h2:zK (zE far) i+1+1=zK (zE far) i+2:=by omega
    simp! [Ya,i2,add_int,hn,h2,ht]
   simp! [i1,add_int,hap,hin,hs]
   rfl)
 rw [g4,Nat.zero_add] at e4
 rw [Lu]
 unfold WC
 simp! [e3,e4]
theorem BM {rows:List D} (hr:∀ r∈rows,w4 (rows.length:Int) r) (hn:rows.length<=900) {far:List Nat}:qE [.lst rows,.lst (z_ far)]=some (true,.lst (z_ (gF rows far))):=by
 have e1:=IO (rows:=rows) (far:=far) hn
 have e2:=W_ hr (by omega)
 have jl:(xV rows).length<=900:=by
  have:=List.length_filter_le (fun i=>yi (rows.getD i .non)) (List.range rows.length)
  rw [List.length_range] at this
  exact Nat.le_trans this hn
 obtain ⟨σ',e3,x4,x5,rfl⟩:=qb (g:=zt 4) (b:=V2) (fun i σ=>∃ x4 x5,σ=[some (false,.lst rows),some (false,.lst (z_ far)),some (false,.lst (xC (zE far) (rows.length+1))),some (true,.lst (z_ (((xV rows).take i).filter (vi rows far)))),x4,x5]) (ds:=(xV rows).map fun i:Nat=>D.int i)
  (σ:=[some (false,.lst rows),some (false,.lst (z_ far)),some (false,.lst (xC (zE far) (rows.length+1))),some (true,.lst []),none,none]) 0 ⟨none,none,rfl⟩ (by
  rintro i v σ hv ⟨x4,x5,rfl⟩
  rw [Nat.zero_add] at *
  rw [List.getElem?_map] at hv
  cases hj:(xV rows)[i]? with
  | none=>rw [hj] at hv; cases hv
  | some j=>
  rw [hj] at hv
  cases hv
  have hi:=(List.getElem?_eq_some_iff.mp hj).1
  have ej:=(List.getElem?_eq_some_iff.mp hj).2
  have ht:(xV rows).take (i+1)=(xV rows).take i++[j]:=by rw [List.take_succ_eq_append_getElem hi,ej]
  obtain ⟨jl1,jj⟩:=kE (List.mem_of_getElem? hj)
  have eg:rows.getD j .non=rows[j]:=by rw [List.getD_eq_getElem?_getD,List.getElem?_eq_getElem jl1]; rfl
  rw [eg] at jj
  have ex:zF (.lst rows) (.int (j:Int))=some rows[j]:=vh (by omega) (by rw [Int.toNat_natCast]; exact List.getElem?_eq_getElem jl1)
  rcases Eb (hr _ (List.getElem_mem jl1)) with ⟨z,_⟩ | ⟨_,p,p1,tp,_,lp⟩
  ·rw [z] at jj; cases jj
  have ap:=ZM (f:=zE far) (n:=rows.length+1) (p:=p) (by omega)
  have aj:=ZM (f:=zE far) (n:=rows.length+1) (p:=j) (by omega)
  have hni:tR (.int (j:Int)) (.lst (z_ far))=some (.bl (!zE far j)):=by
   show (tQ _ _).bind _=_
   rw [Ww]
   rfl
  have ea:uk rows far j=(decide (zK (zE far) p - zK (zE far) j < -16)||decide (15<zK (zE far) p - zK (zE far) j)):=by
   unfold uk
   rw [eg,tp]
   show (!(decide (-16<=zK (zE far) ((p:Int)).toNat - zK (zE far) ((j:Int)).toNat)&&decide (zK (zE far) ((p:Int)).toNat - zK (zE far) ((j:Int)).toNat<=15)))=_
   rw [Int.toNat_natCast,Int.toNat_natCast,Bool.not_and,<- decide_not,<- decide_not]
   congr 1
   ·exact decide_eq_decide.mpr (by omega)
   ·exact decide_eq_decide.mpr (by omega)
  have hap:=wz (L:=z_ (((xV rows).take i).filter (vi rows far))) (r:=.int (j:Int)) (by
   unfold z_
   rw [List.length_map]
   have h1:=List.length_filter_le (vi rows far) ((xV rows).take i)
   rw [List.length_take] at h1
   omega)
  have eL:z_ (((xV rows).take (i+1)).filter (vi rows far))=match vi rows far j with
   | true=>z_ (((xV rows).take i).filter (vi rows far))++[.int (j:Int)]
   | false=>z_ (((xV rows).take i).filter (vi rows far)):=by
   rw [ht,List.filter_append]
   cases hA:vi rows far j with
   | true=>
    rw [List.filter_cons_of_pos hA]
    unfold z_
    rw [List.map_append]
    rfl
   | false=>
    rw [List.filter_cons_of_neg (by rw [hA]; decide),List.filter_nil,List.append_nil]
  refine ⟨_,[some (false,.lst rows),some (false,.lst (z_ far)),some (false,.lst (xC (zE far) (rows.length+1))),some (true,.lst (z_ (((xV rows).take (i+1)).filter (vi rows far)))),some (false,.int (j:Int)),some (false,.int (zK (zE far) p - zK (zE far) j))],rfl,.inl ?_,_,_,rfl⟩
  rw [eL]
  unfold vi at *
  rw [ea]
  generalize z_ (List.filter (fun i=>!zE far i&&uk rows far i) ((xV rows).take i))=LL at *
  unfold V2
  cases hf:zE far j with
  | true=>
   rw [hf] at hni
   simp! [ex,lp,ap,aj,hni,Bool.false_and]
  | false=>
   rw [hf] at hni
   cases c1:decide (zK (zE far) p - zK (zE far) j < -16) with
   | true=>simp! [ex,lp,ap,aj,hni,c1,hap,Bool.true_and,Bool.true_or]
   | false=>
    cases c2:decide (15<zK (zE far) p - zK (zE far) j) with
    | true=>simp! [ex,lp,ap,aj,hni,c1,c2,hap,Bool.true_and,Bool.false_or]
    | false=>simp! [ex,lp,ap,aj,hni,c1,c2,Bool.true_and,Bool.false_or])
 rw [List.length_map,Nat.zero_add,List.take_length,<- La] at e3
 rw [Lp]
 unfold W9
 simp! [e1,e2,e3]
noncomputable def UX:List D->Option (Bool×D)
 | [.int x,.int l,.int d,.int n]=>if (0<=x/\0<=l/\l<64/\0<=d/\d<64)/\0<=n/\n<2 ^ d.toNat then some (false,.int (x+(n - x / 2 ^ l.toNat % 2 ^ d.toNat)*2 ^ l.toNat)) else none
 | _=>none
theorem Ev {x l d n:Int} (h:(0<=x/\0<=l/\l<64/\0<=d/\d<64)/\0<=n/\n<2 ^ d.toNat):UX [.int x,.int l,.int d,.int n]=some (false,.int (x+(n - x / 2 ^ l.toNat % 2 ^ d.toNat)*2 ^ l.toNat)):=if_pos h
noncomputable def OU:FS:=
 (zG (zY (tE (e2 zS (z7 1) (eC (.str "n"))))
   (za (yQ (z8 (eC (.int 0)) (z8 (e1 (yy Ld M1) (z7 0)) zC))))
   zm)
  (za (e1 (yy vS vT) (z7 1))))
noncomputable def xG:List D->Option (Bool×D):=FR 2 2 OU
noncomputable def WI:FS:=
 (za (zV UX (z8 (z7 0) (z8 (e2 zF (z7 1) (eC (.int 0))) (z8 (e2 zF (z7 1) (eC (.int 1))) (z8 (z7 2) zC))))))
noncomputable def ud:List D->Option (Bool×D):=FR 3 3 WI
theorem L_ (x0 x1 x2:D):ud [x0,x1,x2]=yP 3 WI [x0,x1,x2]:=rfl
theorem X4 {x l d n:Int} (h:(0<=x/\0<=l/\l<64/\0<=d/\d<64)/\0<=n/\n<2 ^ d.toNat):ud [.int x,.tup [.int l,.int d],.int n]=some (false,.int (x+(n - x / 2 ^ l.toNat % 2 ^ d.toNat)*2 ^ l.toNat)):=by
 have i0:zF (.tup [.int l,.int d]) (.int 0)=some (.int l):=rfl
 have i1:zF (.tup [.int l,.int d]) (.int 1)=some (.int d):=rfl
 rw [L_]
 unfold WI
 simp! [i0,i1,Ev h]
noncomputable def Ew:FE:=(z7 1)
noncomputable def E_:FT:=(tE (e2 yd (z7 1) (eC (.str "name"))))
noncomputable def OP:FS:=
 (qi (wD 1 (wg (e1 (yy qX qY) (z7 0))) (zt 1) E_ Ew))
noncomputable def xb:List D->Option (Bool×D):=FR 1 1 OP
noncomputable def kG:FS:=(zG (zP 5 (uI (tE (e2 zS (z7 3) (eC (.str "mark")))) (e1 (Zt gy) (z7 4)) (z7 4)))
    (zP 2 (zV ud (z8 (z7 2) (z8 (zV xG (z8 (e2 zF (z7 0) (eC (.int 0))) (z8 (z7 3) zC))) (z8 (z7 5) zC))))))
noncomputable def pA:FS:=
 (zG (zP 2 (zV ud (z8 (eC (.int 0)) (z8 (e1 (yy vS vT) (eC (.str "kind"))) (z8 (z7 1) zC)))))
  (zG (vz (vp (Zg xb (z8 (e2 zF (z7 0) (eC (.int 0))) zC)) (uo (z7 0) (yI (eC (.int 1))) yH)) (qW 3 4)
   kG)
  (za (z7 2))))
noncomputable def uB:List D->Option (Bool×D):=FR 2 6 pA
theorem g_ (x0 x1:D):uB [x0,x1]=yP 6 pA [x0,x1]:=rfl
theorem kX {c:Int} (h0:0<=c) (h1:c<32):ud [.int 0,.tup [.int 27,.int 5],.int c]=some (false,.int (c*134217728)):=by
 rw [X4 (x:=0) (l:=27) (d:=5) (n:=c) ⟨by decide,h0,h1⟩]
 simp
theorem put_at {x l d n m:Int} (hl:0<=l/\l<64) (hd:0<=d/\d<64) (x0:0<=x) (n0:0<=n) (n1:n<2 ^ d.toNat) (hz:x / 2 ^ l.toNat % 2 ^ d.toNat=0) (hm:m=2 ^ l.toNat):ud [.int x,.tup [.int l,.int d],.int n]=some (false,.int (x+n*m)):=by
 rw [X4 ⟨⟨x0,hl.1,hl.2,hd.1,hd.2⟩,n0,n1⟩,hz,hm,Int.sub_zero]
theorem gw {c:Int} (c0:0<=c) (c1:c<32) {w:Str} (hf:xb [.str w]=some (true,.lst [])):uB [.tup [.str w],.int c]=some (false,.int (c*134217728)):=by
 have hk:yy vS vT (.str "kind")=some (.tup [.int 27,.int 5]):=by rfl
 have q1:=kX c0 c1
 have sl:pK (.tup [.str w]) (some 1) none=some (.tup []):=by rfl
 rw [g_]
 unfold pA
 simp! [hk,q1,yq,hf,vp,uo,yI,yH,sl,vZ,List.zipWith_nil_left]
theorem To {w:Str} {c W d n:Int} (hf:xb [.str w]=some (true,.lst [.str "d",.str "n"])) (hd:xG [.str w,.str "d"]=some (false,.tup [.int 24,.int 3])) (hn:xG [.str w,.str "n"]=some (false,.tup [.int 0,.int W]))
  (c0:0<=c) (c1:c<32) (w0:0<=W) (w1:W<=16) (d0:0<=d) (d1:d<8) (n0:0<=n) (n1:n<2 ^ W.toNat) (hp:(2:Int) ^ W.toNat ∣ 16777216) :
  uB [.tup [.str w,.int d,.int n],.int c]=some (false,.int (c*134217728+d*16777216+n)):=by
 have hk:yy vS vT (.str "kind")=some (.tup [.int 27,.int 5]):=by rfl
 have q1:=kX c0 c1
 have q2:=put_at (x:=c*134217728) (l:=24) (d:=3) (n:=d) (m:=16777216) (by decide) (by decide) (by omega) d0 d1 (by show c*134217728 / 16777216 % 8=0; omega) (by decide)
 have q3:=put_at (x:=c*134217728+d*16777216) (l:=0) (d:=W) (n:=n) (m:=1) (by decide) ⟨w0,by omega⟩ (by omega) n0 n1 (by
  show (c*134217728+d*16777216) / 1 % 2 ^ W.toNat=0
  rw [Int.ediv_one]
  obtain ⟨k,hk⟩:=hp
  rw [show c*134217728+d*16777216=2 ^ W.toNat*(k*(8*c+d)) by rw [<- Int.mul_assoc,<- hk]; omega]
  exact Int.mul_emod_right _ _) (by decide)
 have m1:zS (.str "d") (.str "mark")=some (.bl false):=by rfl
 have m2:zS (.str "n") (.str "mark")=some (.bl false):=by rfl
 have sl:pK (.tup [.str w,.int d,.int n]) (some 1) none=some (.tup [.int d,.int n]):=by rfl
 rw [g_]
 unfold pA
 simp! [hk,q1,yq,hf,vp,uo,yI,yH,sl,vZ,List.zipWith_cons_cons,List.zipWith_nil_left,kG,m1,m2,hd,q2,hn,q3,Int.mul_one]
theorem Tp {w:Str} {c d s:Int} (hf:xb [.str w]=some (true,.lst [.str "d",.str "s"])) (hd:xG [.str w,.str "d"]=some (false,.tup [.int 24,.int 3])) (hs:xG [.str w,.str "s"]=some (false,.tup [.int 21,.int 3]))
  (c0:0<=c) (c1:c<32) (d0:0<=d) (d1:d<8) (s0:0<=s) (s1:s<8) :
  uB [.tup [.str w,.int d,.int s],.int c]=some (false,.int (c*134217728+d*16777216+s*2097152)):=by
 have hk:yy vS vT (.str "kind")=some (.tup [.int 27,.int 5]):=by rfl
 have q1:=kX c0 c1
 have q2:=put_at (x:=c*134217728) (l:=24) (d:=3) (n:=d) (m:=16777216) (by decide) (by decide) (by omega) d0 d1 (by show c*134217728 / 16777216 % 8=0; omega) (by decide)
 have q3:=put_at (x:=c*134217728+d*16777216) (l:=21) (d:=3) (n:=s) (m:=2097152) (by decide) (by decide) (by omega) s0 s1 (by show (c*134217728+d*16777216) / 2097152 % 8=0; omega) (by decide)
 have m1:zS (.str "d") (.str "mark")=some (.bl false):=by rfl
 have m2:zS (.str "s") (.str "mark")=some (.bl false):=by rfl
 have sl:pK (.tup [.str w,.int d,.int s]) (some 1) none=some (.tup [.int d,.int s]):=by rfl
 rw [g_]
 unfold pA
 simp! [hk,q1,yq,hf,vp,uo,yI,yH,sl,vZ,List.zipWith_cons_cons,List.zipWith_nil_left,kG,m1,m2,hd,q2,hs,q3]
theorem Tq {w:Str} {c d s n:Int} (hf:xb [.str w]=some (true,.lst [.str "d",.str "s",.str "n"])) (hd:xG [.str w,.str "d"]=some (false,.tup [.int 24,.int 3])) (hs:xG [.str w,.str "s"]=some (false,.tup [.int 21,.int 3]))
  (hn:xG [.str w,.str "n"]=some (false,.tup [.int 0,.int 8])) (c0:0<=c) (c1:c<32) (d0:0<=d) (d1:d<8) (s0:0<=s) (s1:s<8) (n0:0<=n) (n1:n<256) :
  uB [.tup [.str w,.int d,.int s,.int n],.int c]=some (false,.int (c*134217728+d*16777216+s*2097152+n)):=by
 have hk:yy vS vT (.str "kind")=some (.tup [.int 27,.int 5]):=by rfl
 have q1:=kX c0 c1
 have q2:=put_at (x:=c*134217728) (l:=24) (d:=3) (n:=d) (m:=16777216) (by decide) (by decide) (by omega) d0 d1 (by show c*134217728 / 16777216 % 8=0; omega) (by decide)
 have q3:=put_at (x:=c*134217728+d*16777216) (l:=21) (d:=3) (n:=s) (m:=2097152) (by decide) (by decide) (by omega) s0 s1 (by show (c*134217728+d*16777216) / 2097152 % 8=0; omega) (by decide)
 have q4:=put_at (x:=c*134217728+d*16777216+s*2097152) (l:=0) (d:=8) (n:=n) (m:=1) (by decide) (by decide) (by omega) n0 n1 (by show (c*134217728+d*16777216+s*2097152) / 1 % 256=0; omega) (by decide)
 have m1:zS (.str "d") (.str "mark")=some (.bl false):=by rfl
 have m2:zS (.str "s") (.str "mark")=some (.bl false):=by rfl
 have m3:zS (.str "n") (.str "mark")=some (.bl false):=by rfl
 have sl:pK (.tup [.str w,.int d,.int s,.int n]) (some 1) none=some (.tup [.int d,.int s,.int n]):=by rfl
 rw [g_]
 unfold pA
 simp! [hk,q1,yq,hf,vp,uo,yI,yH,sl,vZ,List.zipWith_cons_cons,List.zipWith_nil_left,kG,m1,m2,m3,hd,q2,hs,q3,hn,q4,Int.mul_one]
theorem Wi {c m:Int} {w k:Str} (hf:xb [.str w]=some (true,.lst [.str "mark"])) (hp:xG [.str w,.str "mark"]=some (false,.tup [.int 24,.int 2])) (hm:Zt gy (.str k)=some (.int m)) (m0:0<=m) (m1:m<3) (c0:0<=c) (c1:c<32):uB [.tup [.str w,.str k],.int c]=some (false,.int (c*134217728+m*16777216)):=by
 have hk:yy vS vT (.str "kind")=some (.tup [.int 27,.int 5]):=by rfl
 have q1:=kX c0 c1
 have q2:=put_at (x:=c*134217728) (l:=24) (d:=2) (n:=m) (m:=16777216) (by decide) (by decide) (by omega) m0 (by show m<4; omega) (by show c*134217728 / 16777216 % 4=0; omega) (by decide)
 have e1:zS (.str "mark") (.str "mark")=some (.bl true):=by rfl
 have sl:pK (.tup [.str w,.str k]) (some 1) none=some (.tup [.str k]):=by rfl
 rw [g_]
 unfold pA
 simp! [hk,q1,yq,hf,vp,uo,yI,yH,sl,vZ,List.zipWith_cons_cons,List.zipWith_nil_left,kG,e1,hm,hp,q2]
noncomputable def OT:FS:=
 (zG (zP 0 (yC (z8 (eC (.str "stop")) (z8 (eC (.str "set")) (z8 (eC (.str "high")) (z8 (eC (.str "copy")) (z8 (eC (.str "add")) (z8 (eC (.str "addc")) (z8 (eC (.str "sub")) (z8 (eC (.str "subc")) (z8 (eC (.str "and")) (z8 (eC (.str "or")) (z8 (eC (.str "xor")) (z8 (eC (.str "test")) zC))))))))))))))
  (za (e2 zR (z7 0) (yC (z8 (eC (.str "left")) (z8 (eC (.str "right")) (z8 (eC (.str "load")) (z8 (eC (.str "store")) (z8 (eC (.str "loadw")) (z8 (eC (.str "storew")) zC))))))))))
noncomputable def gE:List D->Option (Bool×D):=FR 0 1 OT
noncomputable def jQ:FS:=
 (zG (zP 1 (e2 uK (e2 xw (zV gE zC) (e2 zF (z7 0) (eC (.int 0)))) (e2 wf (eC (.int 2)) (eC (.int 27)))))
  (zG (zY (tE (e2 zS (e2 zF (z7 0) (eC (.int 0))) (eC (.str "stop"))))
   (za (z7 1))
   zm)
  (zG (zP 1 (e2 zR (z7 1) (e2 uK (e2 zF (z7 0) (eC (.int 1))) (e2 wf (eC (.int 2)) (eC (.int 24))))))
  (zG (zY (tE (e2 yb (e2 zF (z7 0) (eC (.int 0))) (yQ (z8 (eC (.str "set")) (z8 (eC (.str "high")) (z8 (eC (.str "left")) (z8 (eC (.str "right")) zC)))))))
   (za (e2 zR (z7 1) (e2 zF (z7 0) (eC (.int 2)))))
   zm)
  (zG (zP 1 (e2 zR (z7 1) (e2 uK (e2 zF (z7 0) (eC (.int 2))) (e2 wf (eC (.int 2)) (eC (.int 21))))))
  (zG (zY (tE (e2 zS (eL yz (z8 (z7 0) zC)) (eC (.int 4))))
   (zP 1 (e2 zR (z7 1) (e2 zF (z7 0) (eC (.int 3)))))
   zm)
  (za (z7 1))))))))
noncomputable def vJ:List D->Option (Bool×D):=FR 1 2 jQ
theorem Y4 (x0:D):vJ [x0]=yP 2 jQ [x0]:=rfl
noncomputable abbrev wQ:D:=.lst [.str "stop",.str "set",.str "high",.str "copy",.str "add",.str "addc",.str "sub",.str "subc",.str "and",.str "or",.str "xor",.str "test",.str "left",.str "right",.str "load",.str "store",.str "loadw",.str "storew"]
theorem kR:gE []=some (false,wQ):=by rfl
theorem kY:xS 2 27=true/\xS 2 24=true/\xS 2 21=true/\xq 134217728=true/\xq 16777216=true/\xq 2097152=true:=⟨by decide,by decide,by decide,by decide,by decide,by decide⟩
theorem Qd:vJ [.tup [.str "stop"]]=some (false,.int 0):=by
 have hi:xw wQ (.str "stop")=some (.int 0):=by rfl
 have hs:zS (.str "stop") (.str "stop")=some (.bl true):=by rfl
 have hO:=kR
 rw [Y4]
 unfold jQ
 generalize wQ=O at hi hO
 simp! [hO,yq,hi,kY,hs]
theorem kL {w:Str} {c d n:Int} (hi:xw wQ (.str w)=some (.int c)) (hs:zS (.str w) (.str "stop")=some (.bl false)) (hin:yb (.str w) (.tup [.str "set",.str "high",.str "left",.str "right"])=some (.bl true)) :
  vJ [.tup [.str w,.int d,.int n]]=some (false,.int (c*134217728+d*16777216+n)):=by
 have i1:∀ {a b c:D},zF (.tup [a,b,c]) (.int 1)=some b:=rfl
 have i2:∀ {a b c:D},zF (.tup [a,b,c]) (.int 2)=some c:=rfl
 have hO:=kR
 rw [Y4]
 unfold jQ
 generalize wQ=O at hi hO
 simp! [hO,yq,i1,i2,hi,kY,hs,hin,add_int]
theorem uz {w:Str} {c d n:Int} (hi:xw wQ (.str w)=some (.int c)) (hs:zS (.str w) (.str "stop")=some (.bl false)) (hin:yb (.str w) (.tup [.str "set",.str "high",.str "left",.str "right"])=some (.bl false)) :
  vJ [.tup [.str w,.int d,.int n]]=some (false,.int (c*134217728+d*16777216+n*2097152)):=by
 have i1:∀ {a b c:D},zF (.tup [a,b,c]) (.int 1)=some b:=rfl
 have i2:∀ {a b c:D},zF (.tup [a,b,c]) (.int 2)=some c:=rfl
 have hl:zS (.int ((0+1+1+1:Nat):Int)) (.int 4)=some (.bl false):=by rfl
 have hO:=kR
 rw [Y4]
 unfold jQ
 generalize wQ=O at hi hO
 simp! [hO,yq,i1,i2,hi,kY,hs,hin,add_int,hl]
theorem kM {w:Str} {c d s n:Int} (hi:xw wQ (.str w)=some (.int c)) (hs:zS (.str w) (.str "stop")=some (.bl false)) (hin:yb (.str w) (.tup [.str "set",.str "high",.str "left",.str "right"])=some (.bl false)) :
  vJ [.tup [.str w,.int d,.int s,.int n]]=some (false,.int (c*134217728+d*16777216+s*2097152+n)):=by
 have i1:∀ {a b c e:D},zF (.tup [a,b,c,e]) (.int 1)=some b:=rfl
 have i2:∀ {a b c e:D},zF (.tup [a,b,c,e]) (.int 2)=some c:=rfl
 have i3:∀ {a b c e:D},zF (.tup [a,b,c,e]) (.int 3)=some e:=rfl
 have hl:zS (.int ((0+1+1+1+1:Nat):Int)) (.int 4)=some (.bl true):=by rfl
 have hO:=kR
 rw [Y4]
 unfold jQ
 generalize wQ=O at hi hO
 simp! [hO,yq,i1,i2,i3,hi,kY,hs,hin,add_int,hl]
noncomputable def WG:FS:=
 (za (e2 (qT Builtin.bitAnd) (e2 Wd (z7 0) (z7 1)) (e2 xg (e2 Zs (eC (.int 1)) (z7 2)) (eC (.int 1)))))
noncomputable def XJ:List D->Option (Bool×D):=FR 3 3 WG
theorem Ly (x0 x1 x2:D):XJ [x0,x1,x2]=yP 3 WG [x0,x1,x2]:=rfl
noncomputable def WF:FS:=
 (za (zV XJ (z8 (z7 0) (z8 (e2 zF (z7 1) (eC (.int 0))) (z8 (e2 zF (z7 1) (eC (.int 1))) zC)))))
noncomputable def qF:List D->Option (Bool×D):=FR 2 2 WF
theorem Lx (x0 x1:D):qF [x0,x1]=yP 2 WF [x0,x1]:=rfl
noncomputable def Xz:FS:=
 (za (zV qF (z8 (z7 0) (z8 (e1 (yy vS vT) (eC (.str "kind"))) zC))))
noncomputable def wu:List D->Option (Bool×D):=FR 1 1 Xz
theorem Lf (x0:D):wu [x0]=yP 1 Xz [x0]:=rfl
noncomputable def Ex:FE:=(z7 2)
noncomputable def G4:FT:=(tE (e2 zS (e1 (yy jY kB) (z7 2)) (z7 0)))
noncomputable def Ey:FE:=(z7 2)
noncomputable def G7:FT:=(tE (e2 zS (e1 (yy Wm Wt) (z7 2)) (z7 0)))
noncomputable def Ez:FE:=(z7 2)
noncomputable def G8:FT:=(tE (e2 zS (e1 (yy Wl Ws) (z7 2)) (z7 0)))
noncomputable def OS:FS:=
 (zG (vB 1 (wD 1 (iG jY) (zt 2) G4 Ex))
  (zG (Jp 1 (wD 1 (iG Wm) (zt 2) G7 Ey))
  (zG (Jp 1 (wD 1 (iG Wl) (zt 2) G8 Ez))
  (zG (qh 1) (za (uI (tE (e2 zS (z7 1) (yC zC))) (eC .non) (e2 zF (z7 1) (eC (.int 0)))))))))
noncomputable def j4:List D->Option (Bool×D):=FR 1 2 OS
noncomputable def OR:FS:=
 (za (e2 yb (z7 0) (eC (.lst Wt))))
noncomputable def tI:List D->Option (Bool×D):=FR 1 1 OR
noncomputable def OQ:FS:=
 (za (e2 yb (z7 0) (eC (.lst Ws))))
noncomputable def ub:List D->Option (Bool×D):=FR 1 1 OQ
noncomputable def ZT:FS:=
 (zG (zP 3 (zV qF (z8 (z7 0) (z8 (zV xG (z8 (z7 1) (z8 (z7 2) zC))) zC))))
  (zG (zY (tE (e2 yd (z7 2) (eC (.str "mark"))))
   (za (z7 3))
   zm)
  (za (uI (tE (e2 (yW fun i j=>decide (i<j)) (z7 3) (eL yz (z8 (eC k9) zC)))) (e2 zF (eC k9) (z7 3)) (eC .non)))))
noncomputable def x_:List D->Option (Bool×D):=FR 3 4 ZT
theorem Tw (x0 x1 x2:D):x_ [x0,x1,x2]=yP 4 ZT [x0,x1,x2]:=rfl
noncomputable def wS:FE:=(zV x_ (z8 (z7 0) (z8 (z7 2) (z8 (z7 5) zC))))
noncomputable def gX:FS:=
 (zG (zP 1 (zV wu (z8 (z7 0) zC)))
  (zG (zP 2 (zV j4 (z8 (z7 1) zC)))
  (zG (zY (tE (e2 gu (z7 2) (eC .non)))
   (za (eC .non))
   zm)
  (zG (zP 3 (eL Wf (z8 (e2 zR (yC (z8 (z7 2) zC)) (wD 1 (wg (Zg xb (z8 (z7 2) zC))) (zt 5) yk wS)) zC)))
  (zG (zY (tE (e2 yb (eC .non) (z7 3)))
   (za (eC .non))
   zm)
  (zG (zP 4 (uI (tE (zV tI (z8 (z7 1) zC))) (zV ud (z8 (z7 0) (z8 (e1 (yy vS vT) (eC (.str "distance"))) (z8 (eC (.int 0)) zC)))) (z7 0)))
  (za (uI (tE (e2 zS (zV uB (z8 (z7 3) (z8 (z7 1) zC))) (z7 4))) (z7 3) (eC .non)))))))))
noncomputable def wG:List D->Option (Bool×D):=FR 1 5 gX
theorem Wq (x0:D):wG [x0]=yP 5 gX [x0]:=rfl
noncomputable def WH:FS:=
 (zG (zP 2 (e2 Zs (eC (.int 1)) (z7 1)))
  (za (uI (tE (e2 (yW fun i j=>decide (i<j)) (e2 gv (eC (.int 2)) (z7 0)) (z7 2))) (z7 0) (e2 xg (z7 0) (z7 2)))))
noncomputable def jB:List D->Option (Bool×D):=FR 2 3 WH
theorem Lz (x0 x1:D):jB [x0,x1]=yP 3 WH [x0,x1]:=rfl
noncomputable def ZS:FS:=
 (zG (zY (tE (e2 (yW fun i j=>decide (j<=i)) (e2 zR (z7 1) (eC (.int 1))) (eL yz (z8 (z7 0) zC))))
   (za (eC .non))
   zm)
  (za (yQ (z8 (z7 2) (z8 (e2 zR (z7 1) (eC (.int 2))) (z8 (e2 zR (z7 1) (zV jB (z8 (e2 zF (z7 0) (e2 zR (z7 1) (eC (.int 1)))) (z8 (eC (.int 32)) zC)))) zC))))))
noncomputable def ZD:List D->Option (Bool×D):=FR 3 3 ZS
theorem Tv (x0 x1 x2:D):ZD [x0,x1,x2]=yP 3 ZS [x0,x1,x2]:=rfl
noncomputable def qQ:FS:=
 (zG (zY (vC (tE (e2 (yW fun i j=>decide (i<j)) (z7 1) (eC (.int 0)))) (tE (e2 (yW fun i j=>decide (j<=i)) (z7 1) (eL yz (z8 (z7 0) zC)))))
   (za (eC .non))
   zm)
  (zG (zP 2 (zV wG (z8 (e2 zF (z7 0) (z7 1)) zC)))
  (zG (zY (tE (e2 gu (z7 2) (eC .non)))
   (za (eC .non))
   zm)
  (zG (zP 3 (zV wu (z8 (e2 zF (z7 0) (z7 1)) zC)))
  (zG (zY (tE (zV ub (z8 (z7 3) zC)))
   (za (zV ZD (z8 (z7 0) (z8 (z7 1) (z8 (z7 2) zC)))))
   zm)
  (zG (zY (tE (zV tI (z8 (z7 3) zC)))
   (zG (zP 4 (e1 (yy vS vT) (eC (.str "distance"))))
    (za (yQ (z8 (z7 2) (z8 (e2 zR (z7 1) (eC (.int 1))) (z8 (e2 zR (z7 1) (zV jB (z8 (zV qF (z8 (e2 zF (z7 0) (z7 1)) (z8 (z7 4) zC))) (z8 (e2 zF (z7 4) (eC (.int 1))) zC)))) zC))))))
   zm)
  (za (yQ (z8 (z7 2) (z8 (e2 zR (z7 1) (eC (.int 1))) (z8 (eC .non) zC)))))))))))
noncomputable def uc:List D->Option (Bool×D):=FR 2 5 qQ
theorem jb (x0 x1:D):uc [x0,x1]=yP 5 qQ [x0,x1]:=rfl
noncomputable def jM:FS:=
 (zG (zP 3 (e2 uK (e2 zR (e2 zR (eC (.int 18)) (e2 xw (yC (z8 (eC (.str "jump")) (z8 (eC (.str "when")) (z8 (eC (.str "unless")) zC)))) (e2 zF (z7 0) (eC (.int 0))))) (e2 gv (eC (.int 3)) (eL uq (z8 (z7 2) zC)))) (e2 wf (eC (.int 2)) (eC (.int 27)))))
  (zG (zY (tE (e2 yd (e2 zF (z7 0) (eC (.int 0))) (eC (.str "jump"))))
   (zP 3 (e2 zR (z7 3) (e2 uK (e2 xw (yC (z8 (eC (.str "carry")) (z8 (eC (.str "nought")) (z8 (eC (.str "sign")) zC)))) (e2 zF (z7 0) (eC (.int 1)))) (e2 wf (eC (.int 2)) (eC (.int 24))))))
   zm)
  (zG (zY (tE (z7 2))
   (qi (yC (z8 (z7 3) (z8 (e2 zr (z7 1) (e2 wf (eC (.int 2)) (eC (.int 32)))) zC))))
   zm)
  (qi (yC (z8 (e2 zR (z7 3) (e2 zr (z7 1) (eC (.int 32)))) zC))))))
noncomputable def uD:List D->Option (Bool×D):=FR 3 4 jM
theorem Y0 (x0 x1 x2:D):uD [x0,x1,x2]=yP 4 jM [x0,x1,x2]:=rfl
noncomputable def jL:FS:=
 (zG (zP 3 (e2 zF (z7 0) (z7 1)))
  (zG (zP 4 (e2 zF (yC (z8 (eC (.str "jump")) (z8 (eC (.str "when")) (z8 (eC (.str "unless")) zC)))) (e2 zr (e2 xg (z7 2) (eC (.int 18))) (eC (.int 3)))))
  (zG (zP 5 (e2 zr (e2 yh (z7 3) (e2 wf (eC (.int 2)) (eC (.int 24)))) (eC (.int 4))))
  (zG (zP 6 (e2 (yW fun i j=>decide (j<i)) (z7 2) (eC (.int 20))))
  (zG (zY (vC (tE (e2 zS (z7 5) (eC (.int 3)))) (tE (e2 (yW fun i j=>decide (j<i)) (e2 zR (e2 zR (z7 1) (eC (.int 1))) (eL uq (z8 (z7 6) zC))) (eL yz (z8 (z7 0) zC)))))
   (za (eC .non))
   zm)
  (zG (zP 7 (yQ (z8 (eC (.str "jump")) zC)))
  (zG (zY (tE (e2 yd (z7 4) (eC (.str "jump"))))
   (zP 7 (yQ (z8 (z7 4) (z8 (e2 zF (yC (z8 (eC (.str "carry")) (z8 (eC (.str "nought")) (z8 (eC (.str "sign")) zC)))) (z7 5)) zC))))
   zm)
  (zG (zP 8 (e2 zr (z7 3) (eC (.int 32))))
  (zG (zY (tE (e2 (yW fun i j=>decide (j<i)) (z7 8) (eC (.int 15))))
   (zP 8 (e2 xg (z7 8) (eC (.int 32))))
   zm)
  (zG (zY (tE (z7 6))
   (zG (zP 8 (e2 zF (z7 0) (e2 zR (z7 1) (eC (.int 1)))))
    (zY (tE (e2 (yW fun i j=>decide (j<i)) (z7 8) (eC (.int 2147483647))))
     (zP 8 (e2 xg (z7 8) (e2 wf (eC (.int 2)) (eC (.int 32)))))
     zm))
   zm)
  (zG (zY (tE (e2 yd (e2 zF (zV uD (z8 (z7 7) (z8 (z7 8) (z8 (z7 6) zC)))) (eC (.int 0))) (z7 3)))
   (za (eC .non))
   zm)
  (za (yQ (z8 (z7 7) (z8 (e2 zR (e2 zR (z7 1) (eC (.int 1))) (eL uq (z8 (z7 6) zC))) (z8 (e2 zR (z7 1) (z7 8)) zC))))))))))))))))
noncomputable def uC:List D->Option (Bool×D):=FR 3 9 jL
theorem Z_ (x0 x1 x2:D):uC [x0,x1,x2]=yP 9 jL [x0,x1,x2]:=rfl
noncomputable def jO:FS:=
 (zG (zY (pp (tE (vm (yW fun i j=>decide (i<=j)) (yW fun i j=>decide (i<j)) (eC (.int 0)) (z7 1) (eL yz (z8 (z7 0) zC)))))
   (za (eC .non))
   zm)
  (zG (zP 2 (e2 zF (z7 0) (z7 1)))
  (zG (zP 3 (e2 yh (z7 2) (e2 wf (eC (.int 2)) (eC (.int 27)))))
  (zG (zY (tE (e2 (yW fun i j=>decide (j<i)) (z7 3) (eC (.int 23))))
   (za (eC .non))
   zm)
  (zG (zY (tE (e2 (yW fun i j=>decide (j<i)) (z7 3) (eC (.int 17))))
   (za (zV uC (z8 (z7 0) (z8 (z7 1) (z8 (z7 3) zC)))))
   zm)
  (zG (zP 4 (e2 zF (zV gE zC) (z7 3)))
  (zG (zP 5 (yQ (z8 (z7 4) (z8 (e2 zr (e2 yh (z7 2) (e2 wf (eC (.int 2)) (eC (.int 24)))) (eC (.int 8))) (z8 (e2 zr (e2 yh (z7 2) (e2 wf (eC (.int 2)) (eC (.int 21)))) (eC (.int 8))) zC)))))
  (zG (zY (tE (e2 zS (z7 4) (eC (.str "stop"))))
   (zP 5 (yQ (z8 (eC (.str "stop")) zC)))
   (zY (tE (e2 yb (z7 4) (yQ (z8 (eC (.str "set")) (z8 (eC (.str "high")) (z8 (eC (.str "left")) (z8 (eC (.str "right")) zC)))))))
     (zP 5 (e2 zR (uo (z7 5) yH (yI (eC (.int 2)))) (yQ (z8 (e2 zr (z7 2) (e2 zF (yC (z8 (eC (.int 65536)) (z8 (eC (.int 32)) zC))) (eL uq (z8 (e2 yb (z7 4) (yQ (z8 (eC (.str "left")) (z8 (eC (.str "right")) zC)))) zC)))) zC))))
     (zY (tE (e2 (yW fun i j=>decide (j<i)) (z7 3) (eC (.int 13))))
       (zP 5 (e2 zR (z7 5) (yQ (z8 (e2 zr (z7 2) (eC (.int 256))) zC))))
       zm)))
  (zG (zY (tE (e2 yd (zV vJ (z8 (z7 5) zC)) (z7 2)))
   (za (eC .non))
   zm)
  (za (yQ (z8 (z7 5) (z8 (e2 zR (z7 1) (eC (.int 1))) (z8 (eC .non) zC))))))))))))))
noncomputable def vI:List D->Option (Bool×D):=FR 2 6 jO
theorem Y2 (x0 x1:D):vI [x0,x1]=yP 6 jO [x0,x1]:=rfl
theorem YL {x l W:Int} (l0:0<=l) (w0:0<=W) (w1:W<64):qF [.int x,.tup [.int l,.int W]]=some (false,.int (x / 2 ^ l.toNat % 2 ^ W.toNat)):=by
 have i0:zF (.tup [.int l,.int W]) (.int 0)=some (.int l):=rfl
 have i1:zF (.tup [.int l,.int W]) (.int 1)=some (.int W):=rfl
 have e1:=VI (i:=1) (j:=W) w0 w1 (by decide) (by decide)
 have p:XJ [.int x,.int l,.int W]=some (false,.int (x / 2 ^ l.toNat % 2 ^ W.toNat)):=by
  rw [Ly]
  unfold WG
  simp! [e1,decide_eq_true l0,DM]
 rw [Lx]
 unfold WF
 simp! [i0,i1,p]
theorem vP {x:Int} (h0:0<=x) (h1:x<4294967296):wu [.int x]=some (false,.int (x / 134217728)):=by
 have hk:yy vS vT (.str "kind")=some (.tup [.int 27,.int 5]):=by rfl
 have n:qF [.int x,.tup [.int 27,.int 5]]=some (false,.int (x / 134217728 % 32)):=YL (by decide) (by decide) (by decide)
 rw [show x / 134217728 % 32=x / 134217728 by omega] at n
 rw [Lf]
 unfold Xz
 simp! [hk,n]
noncomputable def wj:List D:=[.str "stop",.str "set",.str "high",.str "copy",.str "add",.str "addc",.str "sub",.str "subc",.str "and",.str "or",.str "xor",.str "test",.str "left",.str "right",.str "load",.str "store",.str "loadw",.str "storew",.str "jump",.str "when",.str "unless",.str "jump",.str "when",.str "unless"]
theorem Mh:(List.range 32).map (fun c:Nat=>j4 [.int (c:Int)])=(List.range 32).map fun c=>some (false,wj.getD c .non):=by kernel_rfl
theorem BL:(List.range 32).map (fun c:Nat=>tI [.int (c:Int)])=(List.range 32).map fun c=>some (false,.bl (decide (18<=c)&&decide (c<=20))):=by kernel_rfl
theorem LV:(List.range 32).map (fun c:Nat=>ub [.int (c:Int)])=(List.range 32).map fun c=>some (false,.bl (decide (21<=c)&&decide (c<=23))):=by kernel_rfl
theorem VC {f g:Nat->Option (Bool×D)} (h:(List.range 32).map f=(List.range 32).map g) {n:Nat} (hn:n<32):f n=g n:=by
 have e:=congrArg (fun l=>l[n]?) h
 simp only [List.getElem?_map,List.getElem?_range hn,Option.map_some] at e
 exact Option.some.inj e
theorem uw {n:Nat} (h:n<32):j4 [.int (n:Int)]=some (false,wj.getD n .non):=VC Mh h
theorem uQ {n:Nat} (h:n<32):tI [.int (n:Int)]=some (false,.bl (decide (18<=n)&&decide (n<=20))):=VC BL h
theorem tS {n:Nat} (h:n<32):ub [.int (n:Int)]=some (false,.bl (decide (21<=n)&&decide (n<=23))):=VC LV h
theorem v4 {x l W:Int} {k f:Str} (hp:xG [.str k,.str f]=some (false,.tup [.int l,.int W])) (hm:yd (.str f) (.str "mark")=some (.bl true)) (l0:0<=l) (w0:0<=W) (w1:W<64):x_ [.int x,.str k,.str f]=some (false,.int (x / 2 ^ l.toNat % 2 ^ W.toNat)):=by
 have n:=YL (x:=x) l0 w0 w1
 rw [Tw]
 unfold ZT
 simp! [hp,n,hm]
noncomputable def V9:List D:=[.str "carry",.str "nought",.str "sign",.non]
theorem Q1 {x:Int} {k:Str} (hp:xG [.str k,.str "mark"]=some (false,.tup [.int 24,.int 2])):x_ [.int x,.str k,.str "mark"]=some (false,V9.getD (x / 16777216 % 4).toNat .non):=by
 have n:qF [.int x,.tup [.int 24,.int 2]]=some (false,.int (x / 16777216 % 4)):=YL (by decide) (by decide) (by decide)
 have hm:yd (.str "mark") (.str "mark")=some (.bl false):=by rfl
 rw [Tw]
 unfold ZT
 rcases (show x / 16777216 % 4=0\/x / 16777216 % 4=1\/x / 16777216 % 4=2\/x / 16777216 % 4=3 by omega) with e | e | e | e<;>rw [e] at n ⊢
 ·have i:zF k9 (.int 0)=some (.str "carry"):=rfl
  simp only [shx,hp,n,hm,i]
  rfl
 ·have i:zF k9 (.int 1)=some (.str "nought"):=rfl
  simp only [shx,hp,n,hm,i]
  rfl
 ·have i:zF k9 (.int 2)=some (.str "sign"):=rfl
  simp only [shx,hp,n,hm,i]
  rfl
 ·simp only [shx,hp,n,hm]
  rfl
theorem uR {x c Z known:Int} {b:Bool} {k:Str} {fs R:List D} (hc:wu [.int x]=some (false,.int c)) (hk:j4 [.int c]=some (false,.str k)) (hf:xb [.str k]=some (true,.lst fs))
  (hl:ye (zt 5) yk wS [some (false,.int x),some (false,.int c),some (false,.str k),none,none,none] fs=some R) (hn:yb .non (.tup (.str k::R))=some (.bl false)) (hR:R.length<=3) (hnear:tI [.int c]=some (false,.bl b))
  (hw:b=true->ud [.int x,.tup [.int 0,.int 5],.int 0]=some (false,.int known)) (hb:b=false->known=x) (hz:uB [.tup (.str k::R),.int c]=some (false,.int Z)) :
  wG [.int x]=some (false,if Z=known then .tup (.str k::R) else .non):=by
 have ha:zR (.lst [.str k]) (.lst R)=some (.lst (.str k::R)):=by
  rw [qN (by simp only [List.length_cons,List.length_nil]; omega)]
  rfl
 have ht:Wf [.lst (.str k::R)]=some (.tup (.str k::R)):=rfl
 have hd:yy vS vT (.str "distance")=some (.tup [.int 0,.int 5]):=by rfl
 have hq:zS (.int Z) (.int known)=some (.bl (decide (Z=known))):=by
  by_cases e:Z=known
  ·rw [qZ e,decide_eq_true e]
  ·rw [vq e,decide_eq_false e]
 rw [Wq]
 unfold gX
 cases b with
 | true=>
  have hw:=hw rfl
  by_cases e:Z=known
  ·rw [if_pos e]
   rw [decide_eq_true e] at hq
   simp! [hc,hk,hf,hl,ha,ht,hn,hnear,hd,hw,hz,hq]
  ·rw [if_neg e]
   rw [decide_eq_false e] at hq
   simp! [hc,hk,hf,hl,ha,ht,hn,hnear,hd,hw,hz,hq]
 | false=>
  cases hb rfl
  by_cases e:Z=x
  ·rw [if_pos e]
   rw [decide_eq_true e] at hq
   simp! [hc,hk,hf,hl,ha,ht,hn,hnear,hd,hz,hq]
  ·rw [if_neg e]
   rw [decide_eq_false e] at hq
   simp! [hc,hk,hf,hl,ha,ht,hn,hnear,hd,hz,hq]
theorem CB {x c:Int} {k:Str} {fs R:List D} {b:Bool} (hc:wu [.int x]=some (false,.int c)) (hk:j4 [.int c]=some (false,.str k)) (hf:xb [.str k]=some (true,.lst fs))
  (hl:ye (zt 5) yk wS [some (false,.int x),some (false,.int c),some (false,.str k),none,none,none] fs=some R) (hn:yb .non (.tup (.str k::R))=some (.bl true)) (hR:R.length<=3) :
  wG [.int x]=some (false,.non):=by
 have ha:zR (.lst [.str k]) (.lst R)=some (.lst (.str k::R)):=by
  rw [qN (by simp only [List.length_cons,List.length_nil]; omega)]
  rfl
 have ht:Wf [.lst (.str k::R)]=some (.tup (.str k::R)):=rfl
 rw [Wq]
 unfold gX
 simp! [hc,hk,hf,hl,ha,ht,hn]
theorem CC {x c:Int} (hc:wu [.int x]=some (false,.int c)) (hk:j4 [.int c]=some (false,.non)):wG [.int x]=some (false,.non):=by
 rw [Wq]
 unfold gX
 simp! [hc,hk]
theorem IA {n W:Int} (w0:0<=W) (w1:W<64):jB [.int n,.int W]=some (false,.int (if 2*n<2 ^ W.toNat then n else n - 2 ^ W.toNat)):=by
 have e1:=VI (i:=1) (j:=W) w0 w1 (by decide) (by decide)
 have l2:xq 2=true:=by decide
 rw [Lz]
 unfold WH
 by_cases c:2*n<2 ^ W.toNat
 ·rw [if_pos c]
  have c':decide (2*n<1*2 ^ W.toNat)=true:=decide_eq_true (by omega)
  simp! [e1,l2,c']
 ·rw [if_neg c]
  have c':decide (2*n<1*2 ^ W.toNat)=false:=decide_eq_false (by omega)
  simp! [e1,l2,c',decide_eq_false c,Int.one_mul]
theorem Ih {ws:List D} {a:Int} (h:a<0\/(ws.length:Int)<=a):uc [.lst ws,.int a]=some (false,.non):=by
 rw [jb]
 unfold qQ
 by_cases c:a<0
 ·simp! [decide_eq_true c]
 ·have d:(ws.length:Int)<=a:=by omega
  simp! [decide_eq_false c,decide_eq_true d]
theorem Mo {ws:List D} {a:Int} (h:a<0\/(ws.length:Int)<=a):vI [.lst ws,.int a]=some (false,.non):=by
 rw [Y2]
 unfold jO
 by_cases c:a<0
 ·have c':decide (0<=a)=false:=decide_eq_false (by omega)
  simp! [vm,c']
 ·have c':decide (0<=a)=true:=decide_eq_true (by omega)
  have d:decide (a<(ws.length:Int))=false:=decide_eq_false (by omega)
  simp! [vm,c',d]
structure At (ws:List D) (a x:Int):Prop where
 a0:0<=a
 a1:a<(ws.length:Int)
 ix:zF (.lst ws) (.int a)=some (.int x)
 x0:0<=x
 x1:x<4294967296
section
variable {ws:List D} {a x:Int} (A:At ws a x)
include A
theorem At.cond {α:Type}:decide (a<0)=false/\decide ((ws.length:Int)<=a)=false/\decide (0<=a)=true/\decide (a<(ws.length:Int))=true:=by
 obtain ⟨a0,a1,_,_,_⟩:=A
 exact ⟨decide_eq_false (by omega),decide_eq_false (by omega),decide_eq_true a0,decide_eq_true a1⟩
theorem tz (hr:wG [.int x]=some (false,.non)):uc [.lst ws,.int a]=some (false,.non):=by
 obtain ⟨c1,c2,_,_⟩:=A.cond (α:=Nat)
 have ix:=A.ix
 rw [jb]
 unfold qQ
 simp! [c1,c2,ix,hr]
theorem Ii {c:Int} {R:List D} (hc:wu [.int x]=some (false,.int c)) (hf:ub [.int c]=some (false,.bl false)) (hn:tI [.int c]=some (false,.bl false)) (hr:wG [.int x]=some (false,.tup R)) :
  uc [.lst ws,.int a]=some (false,.tup [.tup R,.int (a+1),.non]):=by
 obtain ⟨c1,c2,_,_⟩:=A.cond (α:=Nat)
 have ix:=A.ix
 rw [jb]
 unfold qQ
 simp! [c1,c2,ix,hr,hc,hf,hn,add_int]
theorem Ig {c:Int} {R:List D} (hc:wu [.int x]=some (false,.int c)) (hf:ub [.int c]=some (false,.bl false)) (hn:tI [.int c]=some (false,.bl true)) (hr:wG [.int x]=some (false,.tup R)) :
  uc [.lst ws,.int a]=some (false,.tup [.tup R,.int (a+1),.int (a+(if 2*(x % 32)<32 then x % 32 else x % 32 - 32))]):=by
 obtain ⟨c1,c2,_,_⟩:=A.cond (α:=Nat)
 have ix:=A.ix
 have hk:yy vS vT (.str "distance")=some (.tup [.int 0,.int 5]):=by rfl
 have n:qF [.int x,.tup [.int 0,.int 5]]=some (false,.int (x / 1 % 32)):=YL (by decide) (by decide) (by decide)
 rw [Int.ediv_one] at n
 have s:jB [.int (x % 32),.int 5]=some (false,.int (if 2*(x % 32)<32 then x % 32 else x % 32 - 32)):=IA (by decide) (by decide)
 have i1:zF (.tup [.int 0,.int 5]) (.int 1)=some (.int 5):=rfl
 rw [jb]
 unfold qQ
 generalize (if 2*(x % 32)<32 then x % 32 else x % 32 - 32)=S at s ⊢
 simp! [c1,c2,ix,hr,hc,hf,hn,hk,n,i1,s,add_int]
theorem Ie {c:Int} {R:List D} (hc:wu [.int x]=some (false,.int c)) (hf:ub [.int c]=some (false,.bl true)) (hr:wG [.int x]=some (false,.tup R)) {y:Int} (hy:zF (.lst ws) (.int (a+1))=some (.int y)) (hl:a+1<(ws.length:Int)) :
  uc [.lst ws,.int a]=some (false,.tup [.tup R,.int (a+2),.int (a+(if 2*y<4294967296 then y else y - 4294967296))]):=by
 obtain ⟨c1,c2,_,_⟩:=A.cond (α:=Nat)
 have ix:=A.ix
 have s:jB [.int y,.int 32]=some (false,.int (if 2*y<4294967296 then y else y - 4294967296)):=IA (by decide) (by decide)
 have d:decide ((ws.length:Int)<=a+1)=false:=decide_eq_false (by omega)
 have e:ZD [.lst ws,.int a,.tup R]=some (false,.tup [.tup R,.int (a+2),.int (a+(if 2*y<4294967296 then y else y - 4294967296))]):=by
  rw [Tv]
  unfold ZS
  generalize (if 2*y<4294967296 then y else y - 4294967296)=S at s ⊢
  simp! [add_int,d,hy,s]
 rw [jb]
 unfold qQ
 simp! [c1,c2,ix,hr,hc,hf,e]
theorem Id {c:Int} {R:List D} (hc:wu [.int x]=some (false,.int c)) (hf:ub [.int c]=some (false,.bl true)) (hr:wG [.int x]=some (false,.tup R)) (hl:(ws.length:Int)<=a+1) :
  uc [.lst ws,.int a]=some (false,.non):=by
 obtain ⟨c1,c2,_,_⟩:=A.cond (α:=Nat)
 have ix:=A.ix
 have e:ZD [.lst ws,.int a,.tup R]=some (false,.non):=by
  rw [Tv]
  unfold ZS
  simp! [add_int,decide_eq_true hl]
 rw [jb]
 unfold qQ
 simp! [c1,c2,ix,hr,hc,hf,e]
theorem Ml (h:24<=x / 134217728):vI [.lst ws,.int a]=some (false,.non):=by
 obtain ⟨_,_,c3,c4⟩:=A.cond (α:=Nat)
 have ix:=A.ix
 have p27:xS 2 27=true:=by decide
 have d:decide (23<x / 134217728)=true:=decide_eq_true (by omega)
 rw [Y2]
 unfold jO
 simp! [vm,c3,c4,ix,p27,d]
theorem tV {r:D} (h0:18<=x / 134217728) (h1:x / 134217728<=23) (hj:uC [.lst ws,.int a,.int (x / 134217728)]=some (false,r)):vI [.lst ws,.int a]=some (false,r):=by
 obtain ⟨_,_,c3,c4⟩:=A.cond (α:=Nat)
 have ix:=A.ix
 have p27:xS 2 27=true:=by decide
 have d:decide (23<x / 134217728)=false:=decide_eq_false (by omega)
 have d2:decide (17<x / 134217728)=true:=decide_eq_true (by omega)
 rw [Y2]
 unfold jO
 simp! [vm,c3,c4,ix,p27,d,d2,hj]
theorem YF {c Z:Int} {k:Str} {R:List D} (hc:x / 134217728=c) (c1:c<=17) (hk:zF wQ (.int c)=some (.str k))
  (hb:(zY (tE (e2 zS (z7 4) (eC (.str "stop"))))
   (zP 5 (yQ (z8 (eC (.str "stop")) zC)))
   (zY (tE (e2 yb (z7 4) (yQ (z8 (eC (.str "set")) (z8 (eC (.str "high")) (z8 (eC (.str "left")) (z8 (eC (.str "right")) zC)))))))
     (zP 5 (e2 zR (uo (z7 5) yH (yI (eC (.int 2)))) (yQ (z8 (e2 zr (z7 2) (e2 zF (yC (z8 (eC (.int 65536)) (z8 (eC (.int 32)) zC))) (eL uq (z8 (e2 yb (z7 4) (yQ (z8 (eC (.str "left")) (z8 (eC (.str "right")) zC)))) zC)))) zC))))
     (zY (tE (e2 (yW fun i j=>decide (j<i)) (z7 3) (eC (.int 13))))
       (zP 5 (e2 zR (z7 5) (yQ (z8 (e2 zr (z7 2) (eC (.int 256))) zC))))
       zm)))
    [some (false,.lst ws),some (false,.int a),some (false,.int x),some (false,.int c),some (false,.str k),some (false,.tup [.str k,.int (x / 16777216 % 8),.int (x / 2097152 % 8)])] =
    some (.nx [some (false,.lst ws),some (false,.int a),some (false,.int x),some (false,.int c),some (false,.str k),some (false,.tup R)]))
  (hw:vJ [.tup R]=some (false,.int Z)):vI [.lst ws,.int a]=some (false,if Z=x then .tup [.tup R,.int (a+1),.non] else .non):=by
 obtain ⟨_,_,c3,c4⟩:=A.cond (α:=Nat)
 have ix:=A.ix
 obtain ⟨p27,p24,p21,_⟩:=kY
 have d:decide (23<c)=false:=decide_eq_false (by omega)
 have d2:decide (17<c)=false:=decide_eq_false (by omega)
 have hO:=kR
 rw [Y2]
 unfold jO
 generalize wQ=O at hk hO
 have e16:(2:Int) ^ (24:Int).toNat=16777216:=by decide
 have e21:(2:Int) ^ (21:Int).toNat=2097152:=by decide
 have e27:(2:Int) ^ (27:Int).toNat=134217728:=by decide
 by_cases e:Z=x
 ·rw [if_pos e]
  have hq:=qc (qZ e)
  generalize (zY (tE (e2 zS (z7 4) (eC (.str "stop")))) _ _)=B at hb ⊢
  simp! [vm,c3,c4,ix,p27,p24,p21,hc,d,d2,hO,hk,hb,hw,hq,add_int]
 ·rw [if_neg e]
  have hq:=qc (vq e)
  generalize (zY (tE (e2 zS (z7 4) (eC (.str "stop")))) _ _)=B at hb ⊢
  simp! [vm,c3,c4,ix,p27,p24,p21,hc,d,d2,hO,hk,hb,hw,hq]
end
noncomputable def uY (ws:List D) (a:Int):Prop:=∃ r,uc [.lst ws,.int a]=some (false,r)/\vI [.lst ws,.int a]=some (false,r)/\(r=.non\/∃ R n t,r=.tup [.tup R,.int n,t]/\R.all yL=true/\yL t=true/\(t=.non\/∃ i:Int,t=.int i))
section
variable {ws:List D} {a x:Int} (A:At ws a x)
include A
theorem ZQ {c Z:Int} {k:Str} {R:List D} (hR:(D.str k::R).all yL=true) (hc:wu [.int x]=some (false,.int c)) (hf:ub [.int c]=some (false,.bl false)) (hn:tI [.int c]=some (false,.bl false))
  (hr:wG [.int x]=some (false,if Z=x then .tup (.str k::R) else .non)) (hl:vI [.lst ws,.int a]=some (false,if Z=x then .tup [.tup (.str k::R),.int (a+1),.non] else .non)):uY ws a:=by
 by_cases e:Z=x
 ·rw [if_pos e] at hr hl
  exact ⟨_,Ii A hc hf hn hr,hl,.inr ⟨_,_,_,rfl,hR,rfl,.inl rfl⟩⟩
 ·rw [if_neg e] at hr hl
  exact ⟨_,tz A hr,hl,.inl rfl⟩
theorem ZP {n:Nat} {k:Str} {W P:Int} {b:Bool} (hn:x / 134217728=(n:Int)) (n17:n<=17) (hk:wj.getD n .non=.str k) (ho:zF wQ (.int (n:Int))=some (.str k)) (hf:xb [.str k]=some (true,.lst [.str "d",.str "n"])) (hd:xG [.str k,.str "d"]=some (false,.tup [.int 24,.int 3]))
  (hp:xG [.str k,.str "n"]=some (false,.tup [.int 0,.int W])) (w0:0<=W) (w1:W<=16) (hP:(2:Int) ^ W.toNat=P) (hdv:(2:Int) ^ W.toNat ∣ 16777216) (hi:xw wQ (.str k)=some (.int (n:Int))) (hs:zS (.str k) (.str "stop")=some (.bl false))
  (hin:yb (.str k) (.tup [.str "set",.str "high",.str "left",.str "right"])=some (.bl true)) (hin2:yb (.str k) (.tup [.str "left",.str "right"])=some (.bl b)) (hix:zF (.lst [.int 65536,.int 32]) (.int (if b then 1 else 0))=some (.int P)):uY ws a:=by
 have x0:=A.x0
 have x1:=A.x1
 have p0:0<P:=by rw [<- hP]; exact Int.pow_pos (by decide)
 have hc:=vP x0 x1
 rw [hn] at hc
 have hkk:=uw (n:=n) (by omega)
 rw [hk] at hkk
 have hnear:=uQ (n:=n) (by omega)
 rw [decide_eq_false (show ¬ 18<=n by omega),Bool.false_and] at hnear
 have hfar:=tS (n:=n) (by omega)
 rw [decide_eq_false (show ¬ 21<=n by omega),Bool.false_and] at hfar
 have h1:x_ [.int x,.str k,.str "d"]=some (false,.int (x / 16777216 % 8)):=v4 hd (by rfl) (by decide) (by decide) (by decide)
 have h2:x_ [.int x,.str k,.str "n"]=some (false,.int (x / 1 % P)):=by rw [<- hP]; exact v4 hp (by rfl) (by decide) w0 (by omega)
 rw [Int.ediv_one] at h2
 have hfw:=To (c:=(n:Int)) (d:=x / 16777216 % 8) (n:=x % P) hf hd hp (by omega) (by omega) w0 w1 (by omega) (by omega) (Int.emod_nonneg _ (by omega)) (by rw [hP]; exact Int.emod_lt_of_pos _ p0) hdv
 have hr:=uR (R:=[.int (x / 16777216 % 8),.int (x % P)]) hc hkk hf (by simp only [ye,zt.eq_1,yk,wS,shx,h1,h2]) (by rfl) (by simp) hnear (fun h=>by cases h) (fun _=>rfl) hfw
 refine ZQ A rfl hc hfar hnear hr (YF A hn (by omega) ho ?_ (kL hi hs hin))
 have sl:pK (.tup [.str k,.int (x / 16777216 % 8),.int (x / 2097152 % 8)]) none (some 2)=some (.tup [.str k,.int (x / 16777216 % 8)]):=by rfl
 have ad:zR (.tup [.str k,.int (x / 16777216 % 8)]) (.tup [.int (x % P)])=some (.tup [.str k,.int (x / 16777216 % 8),.int (x % P)]):=by rfl
 simp! [hs,hin,hin2,hix,uo,yH,yI,sl,decide_eq_true p0,ad]
theorem tO {n:Nat} {k:Str} (hn:x / 134217728=(n:Int)) (n13:n<=13) (hk:wj.getD n .non=.str k) (ho:zF wQ (.int (n:Int))=some (.str k)) (hf:xb [.str k]=some (true,.lst [.str "d",.str "s"])) (hd:xG [.str k,.str "d"]=some (false,.tup [.int 24,.int 3]))
  (hp:xG [.str k,.str "s"]=some (false,.tup [.int 21,.int 3])) (hi:xw wQ (.str k)=some (.int (n:Int))) (hs:zS (.str k) (.str "stop")=some (.bl false))
  (hin:yb (.str k) (.tup [.str "set",.str "high",.str "left",.str "right"])=some (.bl false)):uY ws a:=by
 have x0:=A.x0
 have x1:=A.x1
 have hc:=vP x0 x1
 rw [hn] at hc
 have hkk:=uw (n:=n) (by omega)
 rw [hk] at hkk
 have hnear:=uQ (n:=n) (by omega)
 rw [decide_eq_false (show ¬ 18<=n by omega),Bool.false_and] at hnear
 have hfar:=tS (n:=n) (by omega)
 rw [decide_eq_false (show ¬ 21<=n by omega),Bool.false_and] at hfar
 have h1:x_ [.int x,.str k,.str "d"]=some (false,.int (x / 16777216 % 8)):=v4 hd (by rfl) (by decide) (by decide) (by decide)
 have h2:x_ [.int x,.str k,.str "s"]=some (false,.int (x / 2097152 % 8)):=v4 hp (by rfl) (by decide) (by decide) (by decide)
 have hfw:=Tp (c:=(n:Int)) (d:=x / 16777216 % 8) (s:=x / 2097152 % 8) hf hd hp (by omega) (by omega) (by omega) (by omega) (by omega) (by omega)
 have hr:=uR (R:=[.int (x / 16777216 % 8),.int (x / 2097152 % 8)]) hc hkk hf (by simp only [ye,zt.eq_1,yk,wS,shx,h1,h2]) (by rfl) (by simp) hnear (fun h=>by cases h) (fun _=>rfl) hfw
 refine ZQ A rfl hc hfar hnear hr (YF A hn (by omega) ho ?_ (uz hi hs hin))
 have d13:decide (13<(n:Int))=false:=decide_eq_false (by omega)
 simp! [hs,hin,d13]
theorem ZO {n:Nat} {k:Str} (hn:x / 134217728=(n:Int)) (n14:14<=n) (n17:n<=17) (hk:wj.getD n .non=.str k) (ho:zF wQ (.int (n:Int))=some (.str k)) (hf:xb [.str k]=some (true,.lst [.str "d",.str "s",.str "n"])) (hd:xG [.str k,.str "d"]=some (false,.tup [.int 24,.int 3]))
  (hp:xG [.str k,.str "s"]=some (false,.tup [.int 21,.int 3])) (hp2:xG [.str k,.str "n"]=some (false,.tup [.int 0,.int 8])) (hi:xw wQ (.str k)=some (.int (n:Int))) (hs:zS (.str k) (.str "stop")=some (.bl false))
  (hin:yb (.str k) (.tup [.str "set",.str "high",.str "left",.str "right"])=some (.bl false)):uY ws a:=by
 have x0:=A.x0
 have x1:=A.x1
 have hc:=vP x0 x1
 rw [hn] at hc
 have hkk:=uw (n:=n) (by omega)
 rw [hk] at hkk
 have hnear:=uQ (n:=n) (by omega)
 rw [decide_eq_false (show ¬ 18<=n by omega),Bool.false_and] at hnear
 have hfar:=tS (n:=n) (by omega)
 rw [decide_eq_false (show ¬ 21<=n by omega),Bool.false_and] at hfar
 have h1:x_ [.int x,.str k,.str "d"]=some (false,.int (x / 16777216 % 8)):=v4 hd (by rfl) (by decide) (by decide) (by decide)
 have h2:x_ [.int x,.str k,.str "s"]=some (false,.int (x / 2097152 % 8)):=v4 hp (by rfl) (by decide) (by decide) (by decide)
 have h3:x_ [.int x,.str k,.str "n"]=some (false,.int (x / 1 % 256)):=v4 hp2 (by rfl) (by decide) (by decide) (by decide)
 rw [Int.ediv_one] at h3
 have hfw:=Tq (c:=(n:Int)) (d:=x / 16777216 % 8) (s:=x / 2097152 % 8) (n:=x % 256) hf hd hp hp2 (by omega) (by omega) (by omega) (by omega) (by omega) (by omega) (by omega) (by omega)
 have hr:=uR (R:=[.int (x / 16777216 % 8),.int (x / 2097152 % 8),.int (x % 256)]) hc hkk hf (by simp only [ye,zt.eq_1,yk,wS,shx,h1,h2,h3]) (by rfl) (by simp) hnear (fun h=>by cases h) (fun _=>rfl) hfw
 refine ZQ A rfl hc hfar hnear hr (YF A hn (by omega) ho ?_ (kM hi hs hin))
 have d13:decide (13<(n:Int))=true:=decide_eq_true (by omega)
 have ad:zR (.tup [.str k,.int (x / 16777216 % 8),.int (x / 2097152 % 8)]) (.tup [.int (x % 256)])=some (.tup [.str k,.int (x / 16777216 % 8),.int (x / 2097152 % 8),.int (x % 256)]):=by rfl
 have p0:decide ((0:Int)<256)=true:=rfl
 simp! [hs,hin,d13,p0,ad]
theorem OI (hn:x / 134217728=0):uY ws a:=by
 have x0:=A.x0
 have x1:=A.x1
 have hc:=vP x0 x1
 rw [hn] at hc
 have hkk:=uw (n:=0) (by decide)
 have hnear:=uQ (n:=0) (by decide)
 have hfar:=tS (n:=0) (by decide)
 have hf:xb [.str "stop"]=some (true,.lst []):=by rfl
 have hfw:=gw (c:=0) (by decide) (by decide) hf
 have hr:=uR (R:=[]) (Z:=0) (known:=x) hc hkk hf rfl (by rfl) (by simp) hnear (fun h=>by cases h) (fun _=>rfl) hfw
 refine ZQ A rfl hc hfar hnear hr (YF A hn (by decide) (by rfl) ?_ Qd)
 have hs:zS (.str "stop") (.str "stop")=some (.bl true):=by rfl
 simp! [hs]
end
theorem Qa (d:Int) (b:Bool):uD [.tup [.str "jump"],.int d,.bl b]=some (true,.lst (match b with
  | true=>[.int (21*134217728),.int (d % 4294967296)]
  | false=>[.int (18*134217728+d % 32)])):=by
 have pw:xS 2 27=true/\xS 2 24=true/\xS 2 32=true/\xq 134217728=true/\xq 16777216=true/\xq 3=true:=⟨by decide,by decide,by decide,by decide,by decide,by decide⟩
 have i0:xw (.lst [.str "jump",.str "when",.str "unless"]) (.str "jump")=some (.int 0):=by rfl
 have ne:yd (.str "jump") (.str "jump")=some (.bl false):=by rfl
 rw [Y0]
 unfold jM
 cases b
 ·simp! [yq,i0,pw,add_int,ne,Bool.false_eq_true,if_false]
 ·simp! [yq,i0,pw,add_int,ne,if_true]
theorem QZ {w k:Str} {c m:Int} (hi:xw (.lst [.str "jump",.str "when",.str "unless"]) (.str w)=some (.int c)) (hk:xw (.lst [.str "carry",.str "nought",.str "sign"]) (.str k)=some (.int m)) (ne:yd (.str w) (.str "jump")=some (.bl true)) (d:Int) (b:Bool) :
  uD [.tup [.str w,.str k],.int d,.bl b]=some (true,.lst (match b with
  | true=>[.int ((21+c)*134217728+m*16777216),.int (d % 4294967296)]
  | false=>[.int ((18+c)*134217728+m*16777216+d % 32)])):=by
 have pw:xS 2 27=true/\xS 2 24=true/\xS 2 32=true/\xq 134217728=true/\xq 16777216=true/\xq 3=true:=⟨by decide,by decide,by decide,by decide,by decide,by decide⟩
 have i1:zF (.tup [.str w,.str k]) (.int 1)=some (.str k):=rfl
 rw [Y0]
 unfold jM
 cases b
 ·simp! [yq,i1,hi,hk,pw,add_int,ne,Bool.false_eq_true,if_false,Int.add_zero]
 ·have e3:(18+c+3:Int)=21+c:=by omega
  simp! [yq,i1,hi,hk,pw,add_int,ne,if_true,e3]
section
variable {ws:List D} {a x:Int} (A:At ws a x)
include A
theorem V7 {c:Int} {k:Str} (hk:zF (.lst [.str "jump",.str "when",.str "unless"]) (.int ((c - 18) % 3))=some (.str k)) (m3:x / 16777216 % 4=3):uC [.lst ws,.int a,.int c]=some (false,.non):=by
 have ix:=A.ix
 have p24:xS 2 24=true:=by decide
 have e3:zS (.int 3) (.int 3)=some (.bl true):=by rfl
 rw [Z_]
 unfold jL
 simp! [ix,hk,p24,m3,e3]
theorem QV {c:Int} {k:Str} (hk:zF (.lst [.str "jump",.str "when",.str "unless"]) (.int ((c - 18) % 3))=some (.str k)) (hb:decide (20<c)=true) (hl:(ws.length:Int)<=a+1) (m3:x / 16777216 % 4≠3):uC [.lst ws,.int a,.int c]=some (false,.non):=by
 have ix:=A.ix
 have p24:xS 2 24=true:=by decide
 have e3:=vq m3
 have d:decide ((ws.length:Int)<a+1+1)=true:=decide_eq_true (by omega)
 rw [Z_]
 unfold jL
 simp! [ix,hk,p24,e3,hb,add_int,if_true,d]
theorem QY {c B:Int} {k:Str} {R:List D} (hk:zF (.lst [.str "jump",.str "when",.str "unless"]) (.int ((c - 18) % 3))=some (.str k)) (hb:decide (20<c)=false) (m3:x / 16777216 % 4≠3)
  (hrow:(zY (tE (e2 yd (z7 4) (eC (.str "jump")))) (zP 7 (yQ (z8 (z7 4) (z8 (e2 zF (yC (z8 (eC (.str "carry")) (z8 (eC (.str "nought")) (z8 (eC (.str "sign")) zC)))) (z7 5)) zC)))) zm) [some (false,.lst ws),some (false,.int a),some (false,.int c),some (false,.int x),some (false,.str k),some (false,.int (x / 16777216 % 4)),some (false,.bl false),some (false,.tup [.str "jump"]),none] =
   some (.nx [some (false,.lst ws),some (false,.int a),some (false,.int c),some (false,.int x),some (false,.str k),some (false,.int (x / 16777216 % 4)),some (false,.bl false),some (false,.tup R),none]))
  (hj:∀ d:Int,uD [.tup R,.int d,.bl false]=some (true,.lst [.int (B+d % 32)])) :
  uC [.lst ws,.int a,.int c]=some (false,if B+x % 32=x then .tup [.tup R,.int (a+1),.int (a+(if 2*(x % 32)<32 then x % 32 else x % 32 - 32))] else .non):=by
 have ix:=A.ix
 have a1:=A.a1
 have p24:xS 2 24=true:=by decide
 have e3:=vq m3
 have d:decide ((ws.length:Int)<a+1+0)=false:=decide_eq_false (by omega)
 have d':decide ((ws.length:Int)<a+1)=false:=decide_eq_false (by omega)
 have i0:∀ v:D,zF (.lst [v]) (.int 0)=some v:=fun _=>rfl
 rw [Z_]
 unfold jL
 generalize (zY (tE (e2 yd (z7 4) (eC (.str "jump")))) _ _)=RJ at hrow ⊢
 by_cases h:15<x % 32
 ·have hd:decide (15<x % 32)=true:=decide_eq_true h
  have hs:¬ 2*(x % 32)<32:=by omega
  have hw:=hj (x % 32 - 32)
  rw [show (x % 32 - 32) % 32=x % 32 by omega] at hw
  rw [if_neg hs]
  by_cases e:B+x % 32=x
  ·rw [if_pos e]
   have hq:=qc (qZ e)
   simp! [ix,hk,p24,e3,hb,add_int,Bool.false_eq_true,if_false,d,d',Int.add_zero,hrow,hd,hw,i0,hq]
  ·rw [if_neg e]
   have hq:=qc (vq e)
   simp! [ix,hk,p24,e3,hb,add_int,Bool.false_eq_true,if_false,d,d',Int.add_zero,hrow,hd,hw,i0,hq]
 ·have hd:decide (15<x % 32)=false:=decide_eq_false h
  have hs:2*(x % 32)<32:=by omega
  have hw:=hj (x % 32)
  rw [show (x % 32) % 32=x % 32 by omega] at hw
  rw [if_pos hs]
  by_cases e:B+x % 32=x
  ·rw [if_pos e]
   have hq:=qc (qZ e)
   simp! [ix,hk,p24,e3,hb,add_int,Bool.false_eq_true,if_false,d,d',Int.add_zero,hrow,hd,hw,i0,hq]
  ·rw [if_neg e]
   have hq:=qc (vq e)
   simp! [ix,hk,p24,e3,hb,add_int,Bool.false_eq_true,if_false,d,d',Int.add_zero,hrow,hd,hw,i0,hq]
end
section
variable {ws:List D} {a x:Int} (A:At ws a x)
include A
theorem QW {c B y:Int} {k:Str} {R:List D} (hk:zF (.lst [.str "jump",.str "when",.str "unless"]) (.int ((c - 18) % 3))=some (.str k)) (hb:decide (20<c)=true) (m3:x / 16777216 % 4≠3) (hy:zF (.lst ws) (.int (a+1))=some (.int y)) (hl:a+1<(ws.length:Int))
  (hrow:(zY (tE (e2 yd (z7 4) (eC (.str "jump")))) (zP 7 (yQ (z8 (z7 4) (z8 (e2 zF (yC (z8 (eC (.str "carry")) (z8 (eC (.str "nought")) (z8 (eC (.str "sign")) zC)))) (z7 5)) zC)))) zm) [some (false,.lst ws),some (false,.int a),some (false,.int c),some (false,.int x),some (false,.str k),some (false,.int (x / 16777216 % 4)),some (false,.bl true),some (false,.tup [.str "jump"]),none] =
   some (.nx [some (false,.lst ws),some (false,.int a),some (false,.int c),some (false,.int x),some (false,.str k),some (false,.int (x / 16777216 % 4)),some (false,.bl true),some (false,.tup R),none]))
  (hj:∀ d:Int,uD [.tup R,.int d,.bl true]=some (true,.lst [.int B,.int (d % 4294967296)])) :
  uC [.lst ws,.int a,.int c]=some (false,if B=x then .tup [.tup R,.int (a+2),.int (a+(if 2*y<4294967296 then y else y - 4294967296))] else .non):=by
 have ix:=A.ix
 have p24:xS 2 24=true:=by decide
 have p32:xS 2 32=true:=by decide
 have e3:=vq m3
 have d:decide ((ws.length:Int)<a+1+1)=false:=decide_eq_false (by omega)
 have e11:a+1+1=a+2:=by omega
 have d2:decide ((ws.length:Int)<a+2)=false:=decide_eq_false (by omega)
 have i0:∀ v u:D,zF (.lst [v,u]) (.int 0)=some v:=fun _ _=>rfl
 rw [Z_]
 unfold jL
 generalize (zY (tE (e2 yd (z7 4) (eC (.str "jump")))) _ _)=RJ at hrow ⊢
 obtain ⟨h1,e1⟩:∃ h1,decide (15<x % 32)=h1:=⟨_,rfl⟩
 obtain ⟨h2,e2⟩:∃ h2,decide (2147483647<y)=h2:=⟨_,rfl⟩
 obtain ⟨h3,e3'⟩:∃ h3,decide (B=x)=h3:=⟨_,rfl⟩
 have hq:yd (.int B) (.int x)=some (.bl (!h3)):=by
  cases h3
  ·exact qc (vq (of_decide_eq_false e3'))
  ·exact qc (qZ (of_decide_eq_true e3'))
 have hS:(if 2*y<4294967296 then y else y - 4294967296)=(bif h2 then y - 4294967296 else y):=by
  cases h2
  ·have:=of_decide_eq_false e2
   rw [if_pos (by omega)]
   rfl
  ·have:=of_decide_eq_true e2
   rw [if_neg (by omega)]
   rfl
 have hB:∀ u v:D,(if B=x then u else v)=(bif h3 then u else v):=fun u v=>by
  cases h3
  ·rw [if_neg (of_decide_eq_false e3')]
   rfl
  ·rw [if_pos (of_decide_eq_true e3')]
   rfl
 rw [hS,hB]
 have hw:=hj
 cases h1<;>cases h2<;>cases h3<;>simp! [ix,hk,p24,p32,e3,hb,add_int,if_true,d,d2,hrow,e1,hy,e2,hw,i0,hq,e11,cond_true,cond_false]
theorem Ui {c B:Int} {k:Str} {R:List D} (hR:(D.str k::R).all yL=true) (h0:18<=x / 134217728) (h1:x / 134217728<=20) (hc:wu [.int x]=some (false,.int c)) (hf:ub [.int c]=some (false,.bl false)) (hn:tI [.int c]=some (false,.bl true))
  (hr:wG [.int x]=some (false,if B=x+(0 - x % 32)*1 then .tup (.str k::R) else .non)) (hl:uC [.lst ws,.int a,.int (x / 134217728)]=some (false,if B+x % 32=x then .tup [.tup (.str k::R),.int (a+1),.int (a+(if 2*(x % 32)<32 then x % 32 else x % 32 - 32))] else .non)):uY ws a:=by
 by_cases e:B+x % 32=x
 ·rw [if_pos (show B=x+(0 - x % 32)*1 by omega)] at hr
  rw [if_pos e] at hl
  exact ⟨_,Ig A hc hf hn hr,tV A h0 (by omega) hl,.inr ⟨_,_,_,rfl,hR,rfl,.inr ⟨_,rfl⟩⟩⟩
 ·rw [if_neg (show ¬ B=x+(0 - x % 32)*1 by omega)] at hr
  rw [if_neg e] at hl
  exact ⟨_,tz A hr,tV A h0 (by omega) hl,.inl rfl⟩
theorem Ug {c B y:Int} {k:Str} {R:List D} (hR:(D.str k::R).all yL=true) (h0:21<=x / 134217728) (h1:x / 134217728<=23) (hc:wu [.int x]=some (false,.int c)) (hf:ub [.int c]=some (false,.bl true)) (hy:zF (.lst ws) (.int (a+1))=some (.int y)) (hl':a+1<(ws.length:Int))
  (hr:wG [.int x]=some (false,if B=x then .tup (.str k::R) else .non)) (hl:uC [.lst ws,.int a,.int (x / 134217728)]=some (false,if B=x then .tup [.tup (.str k::R),.int (a+2),.int (a+(if 2*y<4294967296 then y else y - 4294967296))] else .non)):uY ws a:=by
 by_cases e:B=x
 ·rw [if_pos e] at hr hl
  exact ⟨_,Ie A hc hf hr hy hl',tV A (by omega) h1 hl,.inr ⟨_,_,_,rfl,hR,rfl,.inr ⟨_,rfl⟩⟩⟩
 ·rw [if_neg e] at hr hl
  exact ⟨_,tz A hr,tV A (by omega) h1 hl,.inl rfl⟩
theorem QL:ud [.int x,.tup [.int 0,.int 5],.int 0]=some (false,.int (x+(0 - x % 32)*1)):=by
 have h:=X4 (x:=x) (l:=0) (d:=5) (n:=0) ⟨⟨A.x0,by decide,by decide,by decide,by decide⟩,by decide,by decide⟩
 rw [h]
 have e:x / 2 ^ (0:Int).toNat % 2 ^ (5:Int).toNat=x % 32:=by
  show x / 1 % 32=x % 32
  rw [Int.ediv_one]
 rw [e]
 rfl
theorem Uh {n:Nat} (hn:x / 134217728=(n:Int)) (h:n=18\/n=21) (hws:∀ i:Nat,∀ d,ws[i]?=some d->∃ y:Int,d=.int y):uY ws a:=by
 have x0:=A.x0
 have x1:=A.x1
 have a0:=A.a0
 have hc:=vP x0 x1
 rw [hn] at hc
 have hkk:=uw (n:=n) (by omega)
 have hf:xb [.str "jump"]=some (true,.lst []):=by rfl
 have hfw:=gw (c:=(n:Int)) (by omega) (by omega) hf
 have hne:yd (.str "jump") (.str "jump")=some (.bl false):=by rfl
 have hnear:=uQ (n:=n) (by omega)
 have hfar:=tS (n:=n) (by omega)
 rcases h with rfl | rfl
 ·have hr:=uR (R:=[]) (known:=x+(0 - x % 32)*1) hc hkk hf rfl (by rfl) (by decide) hnear (fun _=>QL A) (fun h=>by cases h) hfw
  by_cases m3:x / 16777216 % 4=3
  ·have hz:¬ ((18:Nat):Int)*134217728=x+(0 - x % 32)*1:=by omega
   rw [if_neg hz] at hr
   exact ⟨_,tz A hr,tV A (by omega) (by omega) (V7 A (k := "jump") (by rw [hn]; rfl) m3),.inl rfl⟩
  ·refine Ui A rfl (by omega) (by omega) hc hfar hnear hr ?_
   rw [hn]
   refine QY A (k := "jump") (by rfl) (by rfl) m3 ?_ fun d=>Qa d false
   simp! [hne]
 ·have hr:=uR (R:=[]) (known:=x) hc hkk hf rfl (by rfl) (by decide) hnear (fun h=>by cases h) (fun _=>rfl) hfw
  by_cases m3:x / 16777216 % 4=3
  ·have hz:¬ ((21:Nat):Int)*134217728=x:=by omega
   rw [if_neg hz] at hr
   exact ⟨_,tz A hr,tV A (by omega) (by omega) (V7 A (k := "jump") (by rw [hn]; rfl) m3),.inl rfl⟩
  ·by_cases hl:a+1<(ws.length:Int)
   ·obtain ⟨y,hy⟩:=hws (a.toNat+1) _ (List.getElem?_eq_getElem (by omega))
    have hy':zF (.lst ws) (.int (a+1))=some (.int y):=vh (by omega) (by rw [show (a+1).toNat=a.toNat+1 by omega,List.getElem?_eq_getElem (by omega),hy])
    refine Ug A rfl (by omega) (by omega) hc hfar hy' hl hr ?_
    rw [hn]
    refine QW A (k := "jump") (by rfl) (by rfl) m3 hy' hl ?_ fun d=>Qa d true
    simp! [hne]
   ·refine ⟨.non,?_,tV A (by omega) (by omega) (QV A (k := "jump") (by rw [hn]; rfl) (by rw [hn]; rfl) (by omega) m3),.inl rfl⟩
    by_cases e:((21:Nat):Int)*134217728=x
    ·rw [if_pos e] at hr
     exact Id A hc hfar hr (by omega)
    ·rw [if_neg e] at hr
     exact tz A hr
theorem ZN {n:Nat} {q:Int} {k:Str} (hn:x / 134217728=(n:Int)) (h:(n:Int)=18+q\/(n:Int)=21+q) (q0:1<=q) (q1:q<=2) (hk:wj.getD n .non=.str k) (hix:zF (.lst [.str "jump",.str "when",.str "unless"]) (.int (((n:Int) - 18) % 3))=some (.str k))
  (hi:xw (.lst [.str "jump",.str "when",.str "unless"]) (.str k)=some (.int q)) (hne:yd (.str k) (.str "jump")=some (.bl true)) (hf:xb [.str k]=some (true,.lst [.str "mark"])) (hp:xG [.str k,.str "mark"]=some (false,.tup [.int 24,.int 2]))
  (hws:∀ i:Nat,∀ d,ws[i]?=some d->∃ y:Int,d=.int y):uY ws a:=by
 have x0:=A.x0
 have x1:=A.x1
 have a0:=A.a0
 have hc:=vP x0 x1
 rw [hn] at hc
 have hkk:=uw (n:=n) (by omega)
 rw [hk] at hkk
 have hm:=Q1 (x:=x) hp
 have hnear:=uQ (n:=n) (by omega)
 have hfar:=tS (n:=n) (by omega)
 by_cases m3:x / 16777216 % 4=3
 ·rw [m3] at hm
  have hr:=CB (R:=[.non]) (b:=true) hc hkk hf (by simp only [ye,zt.eq_1,yk,wS,shx,hm]; rfl) (by rfl) (by simp)
  exact ⟨_,tz A hr,tV A (by omega) (by omega) (V7 A (by rw [hn]; exact hix) m3),.inl rfl⟩
 ·obtain ⟨mk,hmk,hme,hmi,hmt⟩:∃ mk:Str,V9.getD (x / 16777216 % 4).toNat .non=.str mk/\zF (.lst [.str "carry",.str "nought",.str "sign"]) (.int (x / 16777216 % 4))=some (.str mk)/\xw (.lst [.str "carry",.str "nought",.str "sign"]) (.str mk)=some (.int (x / 16777216 % 4))/\Zt gy (.str mk)=some (.int (x / 16777216 % 4)):=by
   rcases (show x / 16777216 % 4=0\/x / 16777216 % 4=1\/x / 16777216 % 4=2 by omega) with e | e | e<;>rw [e]
   ·exact ⟨"carry",rfl,rfl,by rfl,by rfl⟩
   ·exact ⟨"nought",rfl,rfl,by rfl,by rfl⟩
   ·exact ⟨"sign",rfl,rfl,by rfl,by rfl⟩
  rw [hmk] at hm
  have hfw:=Wi (c:=(n:Int)) (m:=x / 16777216 % 4) (k:=mk) hf hp hmt (by omega) (by omega) (by omega) (by omega)
  have hl1:ye (zt 5) yk wS [some (false,.int x),some (false,.int (n:Int)),some (false,.str k),none,none,none] [.str "mark"]=some [.str mk]:=by simp only [ye,zt.eq_1,yk,wS,shx,hm]
  rcases h with h | h
  ·rw [decide_eq_true (show 18<=n by omega),decide_eq_true (show n<=20 by omega),Bool.and_self] at hnear
   rw [decide_eq_false (show ¬ 21<=n by omega),Bool.false_and] at hfar
   have hr:=uR (R:=[.str mk]) (known:=x+(0 - x % 32)*1) hc hkk hf hl1 (by rfl) (by simp) hnear (fun _=>QL A) (fun h=>by cases h) hfw
   refine Ui A rfl (by omega) (by omega) hc hfar hnear hr ?_
   rw [hn]
   refine QY A hix (decide_eq_false (by omega)) m3 ?_ fun d=>by rw [h]; exact QZ hi hmi hne d false
   simp! [hne,hme]
  ·rw [decide_eq_false (show ¬ n<=20 by omega),Bool.and_false] at hnear
   rw [decide_eq_true (show 21<=n by omega),decide_eq_true (show n<=23 by omega),Bool.and_self] at hfar
   have hr:=uR (R:=[.str mk]) (known:=x) hc hkk hf hl1 (by rfl) (by simp) hnear (fun h=>by cases h) (fun _=>rfl) hfw
   by_cases hl:a+1<(ws.length:Int)
   ·obtain ⟨y,hy⟩:=hws (a.toNat+1) _ (List.getElem?_eq_getElem (by omega))
    have hy':zF (.lst ws) (.int (a+1))=some (.int y):=vh (by omega) (by rw [show (a+1).toNat=a.toNat+1 by omega,List.getElem?_eq_getElem (by omega),hy])
    refine Ug A rfl (by omega) (by omega) hc hfar hy' hl hr ?_
    rw [hn]
    refine QW A hix (decide_eq_true (by omega)) m3 hy' hl ?_ fun d=>by rw [h]; exact QZ hi hmi hne d true
    simp! [hne,hme]
   ·refine ⟨.non,?_,tV A (by omega) (by omega) (QV A (by rw [hn]; exact hix) (by rw [hn]; exact decide_eq_true (by omega)) (by omega) m3),.inl rfl⟩
    by_cases e:(n:Int)*134217728+x / 16777216 % 4*16777216=x
    ·rw [if_pos e] at hr
     exact Id A hc hfar hr (by omega)
    ·rw [if_neg e] at hr
     exact tz A hr
end
theorem OH {ns:List Int} (h:∀ m∈ns,0<=m/\m<4294967296) (a:Int):uY (ns.map D.int) a:=by
 by_cases hr:0<=a/\a<((ns.map D.int).length:Int)
 case neg=>exact ⟨_,Ih (by omega),Mo (by omega),.inl rfl⟩
 obtain ⟨a0,a1⟩:=hr
 have a1':a.toNat<ns.length:=by rw [List.length_map] at a1; omega
 have hm:=h _ (List.getElem_mem a1')
 obtain ⟨x,hx⟩:∃ x,x=ns[a.toNat]:=⟨_,rfl⟩
 rw [<- hx] at hm
 have A:At (ns.map D.int) a x:=⟨a0,a1,vh a0 (by rw [List.getElem?_map,List.getElem?_eq_getElem a1',hx]; rfl),hm.1,hm.2⟩
 have hws:∀ i:Nat,∀ d,(ns.map D.int)[i]?=some d->∃ y:Int,d=.int y:=fun i d hd=>by
  rw [List.getElem?_map] at hd
  cases e:ns[i]? with
  | none=>rw [e] at hd; cases hd
  | some y=>rw [e] at hd; cases hd; exact ⟨y,rfl⟩
 obtain ⟨n,hn⟩:=Int.eq_ofNat_of_zero_le (show 0<=x / 134217728 by omega)
 have hn:x / 134217728=(n:Int):=hn
 by_cases hh:24<=n
 ·have hc:=vP hm.1 hm.2
  rw [hn] at hc
  have hkk:=uw (n:=n) (by omega)
  rw [show wj.getD n .non=.non from by rw [List.getD_eq_getElem?_getD,List.getElem?_eq_none (by show 24<=n; exact hh)]; rfl] at hkk
  exact ⟨_,tz A (CC hc hkk),Ml A (by omega),.inl rfl⟩
 ·rcases (show n=0\/n=1\/n=2\/n=3\/n=4\/n=5\/n=6\/n=7\/n=8\/n=9\/n=10\/n=11\/n=12\/n=13\/n=14\/n=15\/n=16\/n=17\/n=18\/n=19\/n=20\/n=21\/n=22\/n=23 by omega) with
   rfl | rfl | rfl | rfl | rfl | rfl | rfl | rfl | rfl | rfl | rfl | rfl | rfl | rfl | rfl | rfl | rfl | rfl | rfl | rfl | rfl | rfl | rfl | rfl
  ·exact OI A hn
  ·exact ZP A (W:=16) (P:=65536) hn (by decide) rfl (by rfl) (by rfl) (by rfl) (by rfl) (by decide) (by decide) (by decide) (by decide) (by rfl) (by rfl) (by rfl) (by rfl) (by rfl)
  ·exact ZP A (W:=16) (P:=65536) hn (by decide) rfl (by rfl) (by rfl) (by rfl) (by rfl) (by decide) (by decide) (by decide) (by decide) (by rfl) (by rfl) (by rfl) (by rfl) (by rfl)
  ·exact tO A hn (by decide) rfl (by rfl) (by rfl) (by rfl) (by rfl) (by rfl) (by rfl) (by rfl)
  ·exact tO A hn (by decide) rfl (by rfl) (by rfl) (by rfl) (by rfl) (by rfl) (by rfl) (by rfl)
  ·exact tO A hn (by decide) rfl (by rfl) (by rfl) (by rfl) (by rfl) (by rfl) (by rfl) (by rfl)
  ·exact tO A hn (by decide) rfl (by rfl) (by rfl) (by rfl) (by rfl) (by rfl) (by rfl) (by rfl)
  ·exact tO A hn (by decide) rfl (by rfl) (by rfl) (by rfl) (by rfl) (by rfl) (by rfl) (by rfl)
  ·exact tO A hn (by decide) rfl (by rfl) (by rfl) (by rfl) (by rfl) (by rfl) (by rfl) (by rfl)
  ·exact tO A hn (by decide) rfl (by rfl) (by rfl) (by rfl) (by rfl) (by rfl) (by rfl) (by rfl)
  ·exact tO A hn (by decide) rfl (by rfl) (by rfl) (by rfl) (by rfl) (by rfl) (by rfl) (by rfl)
  ·exact tO A hn (by decide) rfl (by rfl) (by rfl) (by rfl) (by rfl) (by rfl) (by rfl) (by rfl)
  ·exact ZP A (W:=5) (P:=32) hn (by decide) rfl (by rfl) (by rfl) (by rfl) (by rfl) (by decide) (by decide) (by decide) (by decide) (by rfl) (by rfl) (by rfl) (by rfl) (by rfl)
  ·exact ZP A (W:=5) (P:=32) hn (by decide) rfl (by rfl) (by rfl) (by rfl) (by rfl) (by decide) (by decide) (by decide) (by decide) (by rfl) (by rfl) (by rfl) (by rfl) (by rfl)
  ·exact ZO A hn (by decide) (by decide) rfl (by rfl) (by rfl) (by rfl) (by rfl) (by rfl) (by rfl) (by rfl) (by rfl)
  ·exact ZO A hn (by decide) (by decide) rfl (by rfl) (by rfl) (by rfl) (by rfl) (by rfl) (by rfl) (by rfl) (by rfl)
  ·exact ZO A hn (by decide) (by decide) rfl (by rfl) (by rfl) (by rfl) (by rfl) (by rfl) (by rfl) (by rfl) (by rfl)
  ·exact ZO A hn (by decide) (by decide) rfl (by rfl) (by rfl) (by rfl) (by rfl) (by rfl) (by rfl) (by rfl) (by rfl)
  ·exact Uh A hn (.inl rfl) hws
  ·exact ZN A (q:=1) hn (.inl rfl) (by decide) (by decide) rfl (by rfl) (by rfl) (by rfl) (by rfl) (by rfl) hws
  ·exact ZN A (q:=2) hn (.inl rfl) (by decide) (by decide) rfl (by rfl) (by rfl) (by rfl) (by rfl) (by rfl) hws
  ·exact Uh A hn (.inr rfl) hws
  ·exact ZN A (q:=1) hn (.inr rfl) (by decide) (by decide) rfl (by rfl) (by rfl) (by rfl) (by rfl) (by rfl) hws
  ·exact ZN A (q:=2) hn (.inr rfl) (by decide) (by decide) rfl (by rfl) (by rfl) (by rfl) (by rfl) (by rfl) hws
noncomputable def vk (m:Nat):List Nat:=(Nat.toDigits 10 m).map Char.toNat
theorem LB:∀ d:Nat,d<10->(Nat.digitChar d).toNat=48+d:=by decide
theorem Ze {m:Nat} (h:m<10):vk m=[48+m]:=by
 unfold vk
 rw [Nat.toDigits_of_lt_base h,List.map_cons,List.map_nil,LB m h]
theorem TL {m:Nat} (h:10<=m):vk m=vk (m / 10)++[48+m % 10]:=by
 have hm:m % 10<10:=Nat.mod_lt m (by decide)
 have t:Nat.toDigits 10 (m / 10)++Nat.toDigits 10 (m % 10)=Nat.toDigits 10 (10*(m / 10)+m % 10):=Nat.toDigits_append_toDigits (by decide) (by omega) hm
 rw [Nat.div_add_mod] at t
 have e:vk (m % 10)=[48+m % 10]:=Ze hm
 unfold vk at e ⊢
 rw [<- t,List.map_append,e]
theorem WV:∀ m:Nat,vk m≠[]/\(∀ c∈vk m,48<=c/\c<=57)/\(m≠0->(vk m).head?≠some 48):=fun m=>by
 induction m using Nat.strongRecOn with
 | _ m ih=>
  by_cases h:m<10
  ·rw [Ze h]
   refine ⟨by simp,fun c hc=>?_,fun h0 z=>?_⟩
   ·rw [List.mem_singleton.mp hc]
    omega
   ·have:48+m=48:=Option.some.inj z
    omega
  ·obtain ⟨a,b,c⟩:=ih (m / 10) (by omega)
   rw [TL (by omega)]
   refine ⟨by simp,fun x hx=>?_,fun _=>?_⟩
   ·rcases List.mem_append.mp hx with hx | hx
    ·exact b x hx
    ·rw [List.mem_singleton.mp hx]
     omega
   ·cases e:vk (m / 10) with
    | nil=>exact absurd e a
    | cons y r=>
     have:=c (by omega)
     rw [e] at this
     exact this
theorem TM:∀ (k m:Nat),m<10 ^ (k+1)->(vk m).length<=k+1
 | 0,m,h=>by rw [Ze (by simpa using h)]; exact Nat.le_refl _
 | k+1,m,h=>by
  by_cases c:m<10
  ·rw [Ze c]
   show 1<=_
   omega
  ·rw [TL (by omega),List.length_append]
   have:=TM k (m / 10) (by rw [Nat.div_lt_iff_lt_mul (by decide)]; rw [Nat.pow_succ] at h; exact h)
   simp only [List.length_cons,List.length_nil]
   omega
noncomputable def zN (n:Int):Str:=Str.ofString (toString n)
theorem Zd {n:Int} (h:0<=n):(zN n).cps.toList=vk n.toNat:=by
 have:=PySem.W.KIN.signs_num n.toNat
 rw [show ((n.toNat:Nat):Int)=n by omega] at this
 exact this
noncomputable def xt (c:Nat):List Nat->List (List Nat)
 | []=>[[]]
 | a::l=>if a=c then []::xt c l else match xt c l with
  | p::r=>(a::p)::r
  | []=>[[a]]
theorem jx (c a:Nat) (l:List Nat):xt c (a::l)=if a=c then []::xt c l else match xt c l with
  | p::r=>(a::p)::r
  | []=>[[a]]:=rfl
noncomputable def jn (c:Nat):List (List Nat)->List Nat
 | []=>[]
 | [p]=>p
 | p::q::r=>p++c::jn c (q::r)
theorem IH (c:Nat):∀ l,∃ p r,xt c l=p::r
 | []=>⟨_,_,rfl⟩
 | a::l=>by
  obtain ⟨p,r,e⟩:=IH c l
  rw [jx,e]
  split
  ·exact ⟨_,_,rfl⟩
  ·exact ⟨_,_,rfl⟩
theorem Z4 {c:Nat}:∀ {p:List Nat},c ∉ p->xt c p=[p]
 | [],_=>rfl
 | a::p,h=>by
  have ne:¬ a=c:=fun e=>h (by rw [e]; exact List.mem_cons_self)
  rw [jx,if_neg ne,Z4 (fun z=>h (List.mem_cons_of_mem _ z))]
theorem Yp (c:Nat):∀ (p l:List Nat),xt c (p++c::l)=xt c p++xt c l
 | [],l=>by
  rw [List.nil_append,jx,if_pos rfl]
  rfl
 | a::p,l=>by
  rw [List.cons_append,jx,jx,Yp c p l]
  obtain ⟨q,r,e⟩:=IH c p
  rw [e]
  split
  ·rfl
  ·rfl
theorem U6 {c:Nat}:∀ {ps:List (List Nat)},ps≠[]->(∀ p∈ps,c ∉ p)->xt c (jn c ps)=ps
 | [],h,_=>absurd rfl h
 | [p],_,h=>Z4 (h p List.mem_cons_self)
 | p::q::r,_,h=>by
  show xt c (p++c::jn c (q::r))=_
  rw [Yp,Z4 (h p List.mem_cons_self),U6 (ps:=q::r) (by simp) fun z hz=>h z (List.mem_cons_of_mem _ hz)]
  rfl
theorem uG (a b:Str):(a++b).cps.toList=a.cps.toList++b.cps.toList:=Array.toList_append
theorem Wz (c:Nat):∀ ts:List Str,(Str.join ⟨#[c]⟩ ts).cps.toList=jn c (ts.map fun t=>t.cps.toList)
 | []=>rfl
 | [x]=>rfl
 | x::y::r=>by
  show (x++⟨#[c]⟩++Str.join ⟨#[c]⟩ (y::r)).cps.toList=_
  rw [uG,uG,Wz c (y::r),List.append_assoc]
  rfl
theorem U7 (x:Str) (c:Nat):(Txt.split x ⟨#[c]⟩).map (fun t=>t.cps.toList)=xt c x.cps.toList:=by
 have h1:=congrArg (fun z:Str=>z.cps.toList) (StrLaws.join_split x ⟨#[c]⟩)
 have h1:jn c ((Txt.split x ⟨#[c]⟩).map fun t=>t.cps.toList)=x.cps.toList:=(Wz c _).symm.trans h1
 rw [<- h1,U6]
 ·intro z
  have:=congrArg List.length z
  rw [List.length_map] at this
  have p:=PyProof.Rows.split_pos x ⟨#[c]⟩
  rw [this] at p
  exact absurd p (by decide)
 ·intro p hp
  obtain ⟨t,ht,rfl⟩:=List.mem_map.mp hp
  exact StrLaws.split_free x c t ht
noncomputable def tb (a:Nat):Nat:=if a=9 then 32 else a
noncomputable def W (l:List Nat):List (List Nat):=(xt 32 ((l.takeWhile (· != 59)).map tb)).filter fun p=>!p.isEmpty
structure jJ (r:D) (v:Int):Prop where
 v0:0<=v
 v1:v<4294967296
 c:∃ n:Nat,n<=17/\v / 134217728=(n:Int)
 r:wG [.int v]=some (false,r)
theorem X3 {k:Str} {n:Nat} {v:Int} {R fs:List D} (v0:0<=v) (v1:v<4294967296) (n17:n<=17) (hv:v / 134217728=(n:Int)) (hk:wj.getD n .non=.str k) (hc:yy jY kB (.str k)=some (.int (n:Int))) (hf:xb [.str k]=some (true,.lst fs))
  (hl:ye (zt 5) yk wS [some (false,.int v),some (false,.int (n:Int)),some (false,.str k),none,none,none] fs=some R) (hn:yb .non (.tup (.str k::R))=some (.bl false)) (hR:R.length<=3) (hz:uB [.tup (.str k::R),.int (n:Int)]=some (false,.int v)):jJ (.tup (.str k::R)) v:=by
 refine ⟨v0,v1,⟨n,n17,hv⟩,?_⟩
 ·have hcc:=vP v0 v1
  rw [hv] at hcc
  have hkk:=uw (n:=n) (by omega)
  rw [hk] at hkk
  have hnear:=uQ (n:=n) (by omega)
  rw [decide_eq_false (show ¬ 18<=n by omega),Bool.false_and] at hnear
  have:=uR hcc hkk hf hl hn hR hnear (fun h=>by cases h) (fun _=>rfl) hz
  rw [this,if_pos rfl]
theorem X2 {n:Nat} {k:Str} {W P d m:Int} (n17:n<=17) (hk:wj.getD n .non=.str k) (hc:yy jY kB (.str k)=some (.int (n:Int))) (hf:xb [.str k]=some (true,.lst [.str "d",.str "n"])) (hd:xG [.str k,.str "d"]=some (false,.tup [.int 24,.int 3]))
  (hp:xG [.str k,.str "n"]=some (false,.tup [.int 0,.int W])) (w0:0<=W) (w1:W<=16) (hP:(2:Int) ^ W.toNat=P) (hdv:(2:Int) ^ W.toNat ∣ 16777216) (d0:0<=d) (d1:d<8) (m0:0<=m) (m1:m<P) (hP2:P<=65536) (hx:((n:Int)*134217728+d*16777216+m) % P=m):jJ (.tup [.str k,.int d,.int m]) ((n:Int)*134217728+d*16777216+m):=by
 have hfw:=To (c:=(n:Int)) (d:=d) (n:=m) hf hd hp (by omega) (by omega) w0 w1 d0 d1 m0 (by rw [hP]; exact m1) hdv
 have h1:x_ [.int ((n:Int)*134217728+d*16777216+m),.str k,.str "d"]=some (false,.int (((n:Int)*134217728+d*16777216+m) / 16777216 % 8)):=v4 hd (by rfl) (by decide) (by decide) (by decide)
 have h2:x_ [.int ((n:Int)*134217728+d*16777216+m),.str k,.str "n"]=some (false,.int (((n:Int)*134217728+d*16777216+m) / 1 % P)):=by rw [<- hP]; exact v4 hp (by rfl) (by decide) w0 (by omega)
 rw [Int.ediv_one,hx] at h2
 rw [show ((n:Int)*134217728+d*16777216+m) / 16777216 % 8=d by omega] at h1
 refine X3 (by omega) (by omega) n17 (by omega) hk hc hf ?_ rfl (by simp) hfw
 generalize (n:Int)*134217728+d*16777216+m=x at *
 simp only [ye,zt.eq_1,yk,wS,shx,h1,h2]
theorem t_ {n:Nat} {k:Str} {d s:Int} (n13:n<=13) (hk:wj.getD n .non=.str k) (hc:yy jY kB (.str k)=some (.int (n:Int))) (hf:xb [.str k]=some (true,.lst [.str "d",.str "s"])) (hd:xG [.str k,.str "d"]=some (false,.tup [.int 24,.int 3]))
  (hp:xG [.str k,.str "s"]=some (false,.tup [.int 21,.int 3])) (d0:0<=d) (d1:d<8) (s0:0<=s) (s1:s<8):jJ (.tup [.str k,.int d,.int s]) ((n:Int)*134217728+d*16777216+s*2097152):=by
 have hfw:=Tp (c:=(n:Int)) (d:=d) (s:=s) hf hd hp (by omega) (by omega) d0 d1 s0 s1
 have h1:x_ [.int ((n:Int)*134217728+d*16777216+s*2097152),.str k,.str "d"]=some (false,.int (((n:Int)*134217728+d*16777216+s*2097152) / 16777216 % 8)):=v4 hd (by rfl) (by decide) (by decide) (by decide)
 have h2:x_ [.int ((n:Int)*134217728+d*16777216+s*2097152),.str k,.str "s"]=some (false,.int (((n:Int)*134217728+d*16777216+s*2097152) / 2097152 % 8)):=v4 hp (by rfl) (by decide) (by decide) (by decide)
 rw [show ((n:Int)*134217728+d*16777216+s*2097152) / 16777216 % 8=d by omega] at h1
 rw [show ((n:Int)*134217728+d*16777216+s*2097152) / 2097152 % 8=s by omega] at h2
 refine X3 (by omega) (by omega) (by omega) (by omega) hk hc hf ?_ rfl (by simp) hfw
 generalize (n:Int)*134217728+d*16777216+s*2097152=x at *
 simp only [ye,zt.eq_1,yk,wS,shx,h1,h2]
theorem X1 {n:Nat} {k:Str} {d s m:Int} (n17:n<=17) (hk:wj.getD n .non=.str k) (hc:yy jY kB (.str k)=some (.int (n:Int))) (hf:xb [.str k]=some (true,.lst [.str "d",.str "s",.str "n"])) (hd:xG [.str k,.str "d"]=some (false,.tup [.int 24,.int 3]))
  (hp:xG [.str k,.str "s"]=some (false,.tup [.int 21,.int 3])) (hp2:xG [.str k,.str "n"]=some (false,.tup [.int 0,.int 8])) (d0:0<=d) (d1:d<8) (s0:0<=s) (s1:s<8) (m0:0<=m) (m1:m<256):jJ (.tup [.str k,.int d,.int s,.int m]) ((n:Int)*134217728+d*16777216+s*2097152+m):=by
 have hfw:=Tq (c:=(n:Int)) (d:=d) (s:=s) (n:=m) hf hd hp hp2 (by omega) (by omega) d0 d1 s0 s1 m0 m1
 have h1:x_ [.int ((n:Int)*134217728+d*16777216+s*2097152+m),.str k,.str "d"]=some (false,.int (((n:Int)*134217728+d*16777216+s*2097152+m) / 16777216 % 8)):=v4 hd (by rfl) (by decide) (by decide) (by decide)
 have h2:x_ [.int ((n:Int)*134217728+d*16777216+s*2097152+m),.str k,.str "s"]=some (false,.int (((n:Int)*134217728+d*16777216+s*2097152+m) / 2097152 % 8)):=v4 hp (by rfl) (by decide) (by decide) (by decide)
 have h3:x_ [.int ((n:Int)*134217728+d*16777216+s*2097152+m),.str k,.str "n"]=some (false,.int (((n:Int)*134217728+d*16777216+s*2097152+m) / 1 % 256)):=v4 hp2 (by rfl) (by decide) (by decide) (by decide)
 rw [show ((n:Int)*134217728+d*16777216+s*2097152+m) / 16777216 % 8=d by omega] at h1
 rw [show ((n:Int)*134217728+d*16777216+s*2097152+m) / 2097152 % 8=s by omega] at h2
 rw [show ((n:Int)*134217728+d*16777216+s*2097152+m) / 1 % 256=m by omega] at h3
 refine X3 (by omega) (by omega) n17 (by omega) hk hc hf ?_ rfl (by simp) hfw
 generalize (n:Int)*134217728+d*16777216+s*2097152+m=x at *
 simp only [ye,zt.eq_1,yk,wS,shx,h1,h2,h3]
noncomputable def gY:D->D
 | .tup xs=>.tup xs.dropLast
 | d=>d
noncomputable def cJ:D->Int
 | .tup (.str w::_)=>if w = "when" then 1 else if w = "unless" then 2 else 0
 | _=>0
noncomputable def mJ:D->Int
 | .tup [_,.str k,_]=>if k = "nought" then 1 else if k = "sign" then 2 else 0
 | _=>0
structure ZL (r:D) (c m:Int):Prop where
 c0:0<=c
 c1:c<3
 m0:0<=m
 m1:m<3
 nr:∀ d:Int,wG [.int ((18+c)*134217728+m*16777216+d % 32)]=some (false,gY r)
 fr:wG [.int ((21+c)*134217728+m*16777216)]=some (false,gY r)
 hd:∃ R,gY r=.tup R/\R≠[]/\R.length<=2/\R.all yL=true
theorem Qk {x Z:Int} {n:Nat} {k:Str} {fs R:List D} (x0:0<=x) (x1:x<4294967296) (hx:x / 134217728=(n:Int)) (n0:18<=n) (n1:n<=20) (hk:wj.getD n .non=.str k) (hf:xb [.str k]=some (true,.lst fs)) (hl:ye (zt 5) yk wS [some (false,.int x),some (false,.int (n:Int)),some (false,.str k),none,none,none] fs=some R)
  (hn:yb .non (.tup (.str k::R))=some (.bl false)) (hR:R.length<=3) (hz:uB [.tup (.str k::R),.int (n:Int)]=some (false,.int Z)) (hZ:Z=x+(0 - x % 32)*1):wG [.int x]=some (false,.tup (.str k::R)):=by
 have hcc:=vP x0 x1
 rw [hx] at hcc
 have hkk:=uw (n:=n) (by omega)
 rw [hk] at hkk
 have hnear:=uQ (n:=n) (by omega)
 rw [decide_eq_true n0,decide_eq_true n1,Bool.true_and] at hnear
 have hw:ud [.int x,.tup [.int 0,.int 5],.int 0]=some (false,.int (x+(0 - x / 1 % 32)*1)):=X4 ⟨⟨x0,by decide,by decide,by decide,by decide⟩,by decide,by decide⟩
 rw [Int.ediv_one] at hw
 have:=uR hcc hkk hf hl hn hR hnear (fun _=>hw) (fun h=>by cases h) hz
 rw [this,if_pos hZ]
theorem Tk {x:Int} {n:Nat} {k:Str} {fs R:List D} (x0:0<=x) (x1:x<4294967296) (hx:x / 134217728=(n:Int)) (n0:21<=n) (n1:n<=23) (hk:wj.getD n .non=.str k) (hf:xb [.str k]=some (true,.lst fs)) (hl:ye (zt 5) yk wS [some (false,.int x),some (false,.int (n:Int)),some (false,.str k),none,none,none] fs=some R)
  (hn:yb .non (.tup (.str k::R))=some (.bl false)) (hR:R.length<=3) (hz:uB [.tup (.str k::R),.int (n:Int)]=some (false,.int x)):wG [.int x]=some (false,.tup (.str k::R)):=by
 have hcc:=vP x0 x1
 rw [hx] at hcc
 have hkk:=uw (n:=n) (by omega)
 rw [hk] at hkk
 have hnear:=uQ (n:=n) (by omega)
 rw [decide_eq_false (show ¬ n<=20 by omega),Bool.and_false] at hnear
 have:=uR hcc hkk hf hl hn hR hnear (fun h=>by cases h) (fun _=>rfl) hz
 rw [this,if_pos rfl]
theorem MY {p:Int}:ZL (.tup [.str "jump",.int p]) 0 0:=by
 refine ⟨by decide,by decide,by decide,by decide,fun d=>?_,?_,⟨_,rfl,by simp,by simp,rfl⟩⟩
 ·refine Qk (n:=18) (k := "jump") (fs:=[]) (R:=[]) (Z:=18*134217728) (by omega) (by omega) (by omega) (by decide) (by decide) rfl rfl rfl rfl (by simp) (gw (c:=18) (by decide) (by decide) rfl) (by omega)
 ·exact Tk (n:=21) (k := "jump") (fs:=[]) (R:=[]) (by omega) (by omega) (by omega) (by decide) (by decide) rfl rfl rfl rfl (by simp) (gw (c:=21) (by decide) (by decide) rfl)
theorem Ot {w k:Str} {p:Int} (hw:w = "when" \/ w = "unless") (hk:k = "carry" \/ k = "nought" \/ k = "sign"):ZL (.tup [.str w,.str k,.int p]) (cJ (.tup [.str w,.str k,.int p])) (mJ (.tup [.str w,.str k,.int p])):=by
 obtain ⟨c,ec,c0,c1,hn,hfar,kn,kf⟩:∃ c:Nat,cJ (.tup [.str w,.str k,.int p])=(c:Int)/\1<=c/\c<=2/\yy Wm Wt (.str w)=some (.int (18+(c:Int)))/\yy Wl Ws (.str w)=some (.int (21+(c:Int)))/\wj.getD (18+c) .non=.str w/\wj.getD (21+c) .non=.str w:=by
  rcases hw with rfl | rfl
  ·exact ⟨1,by rfl,by decide,by decide,by rfl,by rfl,rfl,rfl⟩
  ·exact ⟨2,by rfl,by decide,by decide,by rfl,by rfl,rfl,rfl⟩
 obtain ⟨m,em,m1,hm,mk⟩:∃ m:Nat,mJ (.tup [.str w,.str k,.int p])=(m:Int)/\m<3/\Zt gy (.str k)=some (.int (m:Int))/\V9.getD m .non=.str k:=by
  rcases hk with rfl | rfl | rfl
  ·exact ⟨0,by rfl,by decide,by rfl,rfl⟩
  ·exact ⟨1,by rfl,by decide,by rfl,rfl⟩
  ·exact ⟨2,by rfl,by decide,by rfl,rfl⟩
 rw [ec,em]
 have hf:xb [.str w]=some (true,.lst [.str "mark"]):=by rcases hw with rfl | rfl<;>rfl
 have hp:xG [.str w,.str "mark"]=some (false,.tup [.int 24,.int 2]):=by rcases hw with rfl | rfl<;>rfl
 have held:∀ x:Int,x / 16777216 % 4=(m:Int)->x_ [.int x,.str w,.str "mark"]=some (false,.str k):=fun x hx=>by
  have:=Q1 (x:=x) hp
  rw [hx,Int.toNat_natCast,mk] at this
  exact this
 refine ⟨by omega,by omega,by omega,by omega,fun d=>?_,?_,⟨_,rfl,by simp,by simp,rfl⟩⟩
 ·have hh:=held ((18+(c:Int))*134217728+(m:Int)*16777216+d % 32) (by omega)
  refine Qk (n:=18+c) (k:=w) (fs:=[.str "mark"]) (R:=[.str k]) (Z:=((18+c:Nat):Int)*134217728+(m:Int)*16777216) (by omega) (by omega) (by omega) (by omega) (by omega) kn hf ?_ rfl (by simp) (Wi hf hp hm (by omega) (by omega) (by omega) (by omega)) (by omega)
  generalize (18+(c:Int))*134217728+(m:Int)*16777216+d % 32=x at *
  simp only [ye,zt.eq_1,yk,wS,shx,hh]
 ·have hh:=held ((21+(c:Int))*134217728+(m:Int)*16777216) (by omega)
  have hz:=Wi (c:=((21+c:Nat):Int)) hf hp hm (by omega) (by omega) (by omega) (by omega)
  rw [show ((21+c:Nat):Int)*134217728+(m:Int)*16777216=(21+(c:Int))*134217728+(m:Int)*16777216 by omega] at hz
  refine Tk (n:=21+c) (k:=w) (fs:=[.str "mark"]) (R:=[.str k]) (by omega) (by omega) (by omega) (by omega) (by omega) kf hf ?_ rfl (by simp) hz
  generalize (21+(c:Int))*134217728+(m:Int)*16777216=x at *
  simp only [ye,zt.eq_1,yk,wS,shx,hh]
theorem MV {n:Int} {r:D} (h:tL n r):ZL r (cJ r) (mJ r):=by
 cases h with
 | jump p0 p1=>exact MY
 | cond hw hk p0 p1=>exact Ot hw hk
noncomputable def tA (A:Nat->Int):Option Nat->D
 | none=>.non
 | some p=>.int (A p)
structure Tb (ws:List D) (n:Nat) (A:Nat->Int) (b:Nat->D) (tg:Nat->Option Nat):Prop where
 up:∀ i,i<n->A i<A (i+1)
 z:A 0=0
 e:A n=(ws.length:Int)
 told:∀ i,i<n->uc [.lst ws,.int (A i)]=some (false,.tup [b i,.int (A (i+1)),tA A (tg i)])
 fin:uc [.lst ws,.int (A n)]=some (false,.non)
 le:∀ i p,i<n->tg i=some p->p<=n
 few:n<=400
section
variable {ws:List D} {n:Nat} {A:Nat->Int} {b:Nat->D} {tg:Nat->Option Nat} (T:Tb ws n A b tg)
include T
theorem Tb.lt {i j:Nat} (h:i<j) (hj:j<=n):A i<A j:=by
 induction j with
 | zero=>omega
 | succ j ih=>
  have u:=T.up j (by omega)
  by_cases e:i=j
  ·rw [e]; exact u
  ·have:=ih (by omega) (by omega)
   omega
end
noncomputable def V3:FS:=(zG (zP 1 (eL We (z8 (e2 zR (z7 1) (z7 2)) zC)))
    (zP 2 (zV qE (z8 (z7 0) (z8 (z7 1) zC)))))
noncomputable def Za:FT:=(tE (e2 yd (z7 2) (yC zC)))
noncomputable def WA:FS:=
 (zG (zP 2 (zV qE (z8 (z7 0) (z8 (z7 1) zC))))
  (zG (Yb Za
   V3)
  (za (z7 1))))
noncomputable def gG:List D->Option (Bool×D):=FR 2 3 WA
theorem Lq (x0 x1:D):gG [x0,x1]=yP 3 WA [x0,x1]:=rfl
noncomputable def X7:FE:=(z7 3)
noncomputable def XA:FT:=(tE (e2 (yW fun i j=>decide (i<j)) (e2 zr (zV xc (z8 (z7 1) (z8 (z7 3) zC))) (eC (.int 4))) (z7 2)))
noncomputable def X_:FS:=
 (za (zV gG (z8 (z7 0) (z8 (wD 1 (wg (zV qu (z8 (z7 0) zC))) (zt 3) XA X7) zC))))
noncomputable def g9:List D->Option (Bool×D):=FR 3 3 X_
theorem Lg (x0 x1 x2:D):g9 [x0,x1,x2]=yP 3 X_ [x0,x1,x2]:=rfl
noncomputable def JY:FA:=(v7 (eC (.int 0)) (eL yz (z8 (z7 0) zC)))
noncomputable def YE:FS:=(zY (tE (e2 yb (e2 zF (e2 zF (z7 0) (z7 4)) (eC (.int 0))) (yQ (z8 (eC (.str "jump")) (z8 (eC (.str "when")) (z8 (eC (.str "unless")) zC))))))
     (zG (zP 5 (e2 xg (e2 zF (z7 2) (e2 zF (e2 zF (z7 0) (z7 4)) (e1 xy (eC (.int 1))))) (e2 zF (z7 2) (z7 4))))
      (vB 3 (e2 gj (w_ 3) (zV uD (z8 (e2 zF (z7 0) (z7 4)) (z8 (z7 5) (z8 (e2 yb (z7 4) (z7 1)) zC)))))))
     (xX 3 xJ (zV vJ (z8 (e2 zF (z7 0) (z7 4)) zC))))
noncomputable def WE:FS:=
 (zG (zP 2 (zV j8 (z8 (z7 0) (z8 (z7 1) zC))))
  (zG (vB 3 (yC zC))
  (zG (vz JY (zt 4)
   YE)
  (t8 3))))
noncomputable def gJ:List D->Option (Bool×D):=FR 2 6 WE
theorem Lw (x0 x1:D):gJ [x0,x1]=yP 6 WE [x0,x1]:=rfl
noncomputable def xj (r:D):Nat:=match ux r with
 | .int p=>p.toNat
 | _=>0
noncomputable def qA (c m d:Int) (far:Bool):List Int:=bif far then [(21+c)*134217728+m*16777216,d % 4294967296] else [(18+c)*134217728+m*16777216+d % 32]
noncomputable def pQ (r:D):Int:=match vJ [r] with
 | some (_,.int v)=>v
 | _=>0
noncomputable def dJ (rows:List D) (far:List Nat) (i:Nat):Int:=zK (zE far) (xj (rows.getD i .non)) - zK (zE far) i
noncomputable def xW (rows:List D) (far:List Nat) (i:Nat):List Int:=bif yi (rows.getD i .non) then qA (cJ (rows.getD i .non)) (mJ (rows.getD i .non)) (dJ rows far i) (zE far i) else [pQ (rows.getD i .non)]
noncomputable def yD (rows:List D) (far:List Nat):Nat->List Int
 | 0=>[]
 | n+1=>yD rows far n++xW rows far n
noncomputable def ul (rows:List D) (i:Nat):D:=bif yi (rows.getD i .non) then gY (rows.getD i .non) else rows.getD i .non
noncomputable def uW (rows:List D) (i:Nat):Option Nat:=bif yi (rows.getD i .non) then some (xj (rows.getD i .non)) else none
structure Wr (rows:List D) (far:List Nat):Prop where
 hr:∀ r∈rows,w4 (rows.length:Int) r
 hn:rows.length<64
 hg:gF rows far=[]
 hj:∀ i,zE far i=true->yi (rows.getD i .non)=true
structure W1 (rows:List D) (far:List Nat) (i:Nat):Prop where
 pl:yi (rows.getD i .non)=false->jJ (rows.getD i .non) (pQ (rows.getD i .non))/\vJ [rows.getD i .non]=some (false,.int (pQ (rows.getD i .non)))/\zE far i=false/\tgt (rows.getD i .non)=.non
 jm:yi (rows.getD i .non)=true->ZL (rows.getD i .non) (cJ (rows.getD i .non)) (mJ (rows.getD i .non))/\xj (rows.getD i .non)<=rows.length/\tgt (rows.getD i .non)=.int (xj (rows.getD i .non):Nat)/\(zE far i=false -> -16<=dJ rows far i/\dJ rows far i<=15) /\ -200<=dJ rows far i/\dJ rows far i<=200
theorem J0 {r:D} (h:wx r):∃ v:Int,jJ r v/\vJ [r]=some (false,.int v):=by
 cases h with
 | stop=>exact ⟨0,X3 (n:=0) (fs:=[]) (by decide) (by decide) (by decide) (by decide) rfl rfl rfl rfl rfl (by simp) (gw (c:=0) (by decide) (by decide) rfl),Qd⟩
 | imm hw d0 d1 n0 n1=>
  rcases hw with rfl | rfl
  ·exact ⟨_,X2 (n:=1) (W:=16) (P:=65536) (by decide) rfl rfl rfl rfl rfl (by decide) (by decide) (by decide) (by decide) d0 d1 n0 n1 (by decide) (by omega),kL (c:=1) (by rfl) (by rfl) (by rfl)⟩
  ·exact ⟨_,X2 (n:=2) (W:=16) (P:=65536) (by decide) rfl rfl rfl rfl rfl (by decide) (by decide) (by decide) (by decide) d0 d1 n0 n1 (by decide) (by omega),kL (c:=2) (by rfl) (by rfl) (by rfl)⟩
 | two hw d0 d1 s0 s1=>
  rcases hw with rfl | rfl | rfl | rfl | rfl | rfl | rfl | rfl | rfl
  ·exact ⟨_,t_ (n:=3) (by decide) rfl rfl rfl rfl rfl d0 d1 s0 s1,uz (c:=3) (by rfl) (by rfl) (by rfl)⟩
  ·exact ⟨_,t_ (n:=4) (by decide) rfl rfl rfl rfl rfl d0 d1 s0 s1,uz (c:=4) (by rfl) (by rfl) (by rfl)⟩
  ·exact ⟨_,t_ (n:=5) (by decide) rfl rfl rfl rfl rfl d0 d1 s0 s1,uz (c:=5) (by rfl) (by rfl) (by rfl)⟩
  ·exact ⟨_,t_ (n:=6) (by decide) rfl rfl rfl rfl rfl d0 d1 s0 s1,uz (c:=6) (by rfl) (by rfl) (by rfl)⟩
  ·exact ⟨_,t_ (n:=7) (by decide) rfl rfl rfl rfl rfl d0 d1 s0 s1,uz (c:=7) (by rfl) (by rfl) (by rfl)⟩
  ·exact ⟨_,t_ (n:=8) (by decide) rfl rfl rfl rfl rfl d0 d1 s0 s1,uz (c:=8) (by rfl) (by rfl) (by rfl)⟩
  ·exact ⟨_,t_ (n:=9) (by decide) rfl rfl rfl rfl rfl d0 d1 s0 s1,uz (c:=9) (by rfl) (by rfl) (by rfl)⟩
  ·exact ⟨_,t_ (n:=10) (by decide) rfl rfl rfl rfl rfl d0 d1 s0 s1,uz (c:=10) (by rfl) (by rfl) (by rfl)⟩
  ·exact ⟨_,t_ (n:=11) (by decide) rfl rfl rfl rfl rfl d0 d1 s0 s1,uz (c:=11) (by rfl) (by rfl) (by rfl)⟩
 | mov hw d0 d1 n0 n1=>
  rcases hw with rfl | rfl
  ·exact ⟨_,X2 (n:=12) (W:=5) (P:=32) (by decide) rfl rfl rfl rfl rfl (by decide) (by decide) (by decide) (by decide) d0 d1 n0 n1 (by decide) (by omega),kL (c:=12) (by rfl) (by rfl) (by rfl)⟩
  ·exact ⟨_,X2 (n:=13) (W:=5) (P:=32) (by decide) rfl rfl rfl rfl rfl (by decide) (by decide) (by decide) (by decide) d0 d1 n0 n1 (by decide) (by omega),kL (c:=13) (by rfl) (by rfl) (by rfl)⟩
 | mem hw d0 d1 s0 s1 n0 n1=>
  rcases hw with rfl | rfl | rfl | rfl
  ·exact ⟨_,X1 (n:=14) (by decide) rfl rfl rfl rfl rfl rfl d0 d1 s0 s1 n0 n1,kM (c:=14) (by rfl) (by rfl) (by rfl)⟩
  ·exact ⟨_,X1 (n:=15) (by decide) rfl rfl rfl rfl rfl rfl d0 d1 s0 s1 n0 n1,kM (c:=15) (by rfl) (by rfl) (by rfl)⟩
  ·exact ⟨_,X1 (n:=16) (by decide) rfl rfl rfl rfl rfl rfl d0 d1 s0 s1 n0 n1,kM (c:=16) (by rfl) (by rfl) (by rfl)⟩
  ·exact ⟨_,X1 (n:=17) (by decide) rfl rfl rfl rfl rfl rfl d0 d1 s0 s1 n0 n1,kM (c:=17) (by rfl) (by rfl) (by rfl)⟩
theorem uj (f:Nat->Bool):∀ n:Nat,0<=zK f n/\zK f n<=2*n
 | 0=>⟨Int.le_refl _,Int.le_refl _⟩
 | n+1=>by
  obtain ⟨a,b⟩:=uj f n
  show 0<=zK f n+(if f n then 2 else 1)/\zK f n+(if f n then 2 else 1)<=_
  split<;>omega
section
variable {rows:List D} {far:List Nat} (W:Wr rows far)
include W
theorem Wr.one {i:Nat} (hi:i<rows.length):W1 rows far i:=by
 have eg:rows.getD i .non=rows[i]:=by rw [List.getD_eq_getElem?_getD,List.getElem?_eq_getElem hi]; rfl
 have hR:=W.hr _ (List.getElem_mem hi)
 refine ⟨fun hj=>?_,fun hj=>?_⟩
 ·rw [eg] at hj ⊢
  have pr:wx rows[i]:=by
   rcases hR with h | h
   ·exact h
   ·obtain ⟨_,_,_,_,_,z,_⟩:=uN h
    rw [z] at hj
    cases hj
  obtain ⟨v,w,wl⟩:=J0 pr
  have pv:pQ rows[i]=v:=by unfold pQ; rw [wl]
  refine ⟨?_,?_,?_,?_⟩
  ·rw [pv]
   exact w
  ·rw [pv]
   exact wl
  ·cases c:zE far i with
   | false=>rfl
   | true=>
    have:=W.hj i c
    rw [eg,hj] at this
    cases this
  ·unfold tgt
   rw [hj]
 ·rw [eg] at hj ⊢
  have jr:tL (rows.length:Int) rows[i]:=by
   rcases hR with h | h
   ·obtain ⟨_,_,_,_,z,_⟩:=tm h
    rw [z] at hj
    cases hj
   ·exact h
  obtain ⟨_,p,_,_,_,_,_,_,lp,p0,p1⟩:=uN jr
  have hp:xj rows[i]=p.toNat:=by unfold xj; rw [lp]
  have pn:(xj rows[i]:Int)=p:=by rw [hp]; omega
  have tp:tgt rows[i]=.int (xj rows[i]:Nat):=by
   unfold tgt
   rw [hj,pn]
   exact lp
  have a1:=uj (zE far) (xj rows[i])
  have a2:=uj (zE far) i
  have hn:=W.hn
  have ed:dJ rows far i=zK (zE far) (xj rows[i]) - zK (zE far) i:=by unfold dJ; rw [eg]
  refine ⟨MV jr,by omega,tp,fun hF=>?_,by omega,by omega⟩
  have aw:uk rows far i=false:=by
   cases z:uk rows far i with
   | false=>rfl
   | true=>
    have:i∈gF rows far:=List.mem_filter.mpr ⟨List.mem_filter.mpr ⟨List.mem_range.mpr hi,by rw [hF]; rfl⟩,z⟩
    rw [W.hg] at this
    cases this
  unfold uk at aw
  rw [eg,tp] at aw
  have nb:(decide (-16<=zK (zE far) (xj rows[i]) - zK (zE far) i)&&decide (zK (zE far) (xj rows[i]) - zK (zE far) i<=15))=true:=by simpa [Qi,dv] using aw
  rw [Bool.and_eq_true] at nb
  rw [ed]
  exact ⟨of_decide_eq_true nb.1,of_decide_eq_true nb.2⟩
theorem Wr.len1 {i:Nat} (hi:i<rows.length):((xW rows far i).length:Int)=if zE far i then 2 else 1:=by
 have h:=W.one hi
 unfold xW
 cases hj:yi (rows.getD i .non) with
 | false=>
  rw [(h.pl hj).2.2.1]
  rfl
 | true=>
  unfold qA
  cases zE far i<;>rfl
theorem Wr.len:∀ {n:Nat},n<=rows.length->((yD rows far n).length:Int)=zK (zE far) n
 | 0,_=>rfl
 | n+1,h=>by
  have a:=Wr.len (n:=n) (by omega)
  have b:=W.len1 (i:=n) (by omega)
  show ((yD rows far n++xW rows far n).length:Int)=zK (zE far) n+(if zE far n then 2 else 1)
  rw [List.length_append]
  omega
omit W in
theorem OK:∀ {i n:Nat},i<=n->∃ r,yD rows far n=yD rows far i++r
 | i,n,h=>by
  induction n with
  | zero=>exact ⟨[],by rw [show i=0 by omega]; rfl⟩
  | succ n ih=>
   by_cases e:i=n+1
   ·exact ⟨[],by rw [e,List.append_nil]⟩
   ·obtain ⟨r,q⟩:=ih (by omega)
    exact ⟨r++xW rows far n,by show yD rows far n++xW rows far n=_; rw [q,List.append_assoc]⟩
theorem Wr.at {i k:Nat} {v:Int} (hi:i<rows.length) (hk:(xW rows far i)[k]?=some v):zF (.lst ((yD rows far rows.length).map D.int)) (.int (zK (zE far) i+k))=some (.int v)/\zK (zE far) i+k<((yD rows far rows.length).length:Int):=by
 obtain ⟨r,e⟩:=OK (rows:=rows) (far:=far) (i:=i+1) (n:=rows.length) hi
 have l:=W.len (n:=i) (by omega)
 have kl:k<(xW rows far i).length:=(List.getElem?_eq_some_iff.mp hk).1
 have e2:yD rows far (i+1)=yD rows far i++xW rows far i:=rfl
 have g:(yD rows far rows.length)[(yD rows far i).length+k]?=some v:=by
  rw [e,e2,List.append_assoc,List.getElem?_append_right (by omega),Nat.add_sub_cancel_left,List.getElem?_append_left kl]
  exact hk
 have lt:=(List.getElem?_eq_some_iff.mp g).1
 refine ⟨vh (by omega) ?_,by omega⟩
 rw [show (zK (zE far) i+(k:Int)).toNat=(yD rows far i).length+k by omega,List.getElem?_map,g]
 rfl
theorem Wr.tb:Tb ((yD rows far rows.length).map D.int) rows.length (zK (zE far)) (ul rows) (uW rows):=by
 refine ⟨fun i hi=>?_,rfl,?_,fun i hi=>?_,?_,fun i p hi h=>?_,by have:=W.hn; omega⟩
 ·show zK (zE far) i<zK (zE far) i+(if zE far i then 2 else 1)
  split<;>omega
 ·rw [List.length_map]
  exact (W.len (Nat.le_refl _)).symm
 ·have h:=W.one hi
  have a0:=uj (zE far) i
  have ll:(((yD rows far rows.length).map D.int).length:Int)=((yD rows far rows.length).length:Int):=by rw [List.length_map]
  unfold ul uW
  show _=some (false,D.tup [_,.int (zK (zE far) i+(if zE far i then 2 else 1)),_])
  cases hj:yi (rows.getD i .non) with
  | false=>
   obtain ⟨w,_,nf,_⟩:=h.pl hj
   have g:=W.at (k:=0) (v:=pQ (rows.getD i .non)) hi (by unfold xW; rw [hj]; rfl)
   rw [Int.ofNat_zero,Int.add_zero] at g
   obtain ⟨n,n17,hc⟩:=w.c
   have hcc:=vP w.v0 w.v1
   rw [hc] at hcc
   have hnear:=uQ (n:=n) (by omega)
   rw [decide_eq_false (show ¬ 18<=n by omega),Bool.false_and] at hnear
   have hfar:=tS (n:=n) (by omega)
   rw [decide_eq_false (show ¬ 21<=n by omega),Bool.false_and] at hfar
   obtain ⟨R,hR⟩:∃ R,rows.getD i .non=.tup R:=by
    have:=W.hr _ (List.getElem_mem hi)
    have eg:rows.getD i .non=rows[i]:=by rw [List.getD_eq_getElem?_getD,List.getElem?_eq_getElem hi]; rfl
    rw [eg]
    generalize rows[i]=rr at this
    rcases this with q | q<;>cases q<;>exact ⟨_,rfl⟩
   have wr:=w.r
   rw [hR] at wr g
   have:=Ii ⟨a0.1,by rw [ll]; exact g.2,g.1,by rw [<- hR]; exact w.v0,by rw [<- hR]; exact w.v1⟩ (by rw [<- hR]; exact hcc) hfar hnear wr
   rw [this,nf,hR]
   rfl
  | true=>
   obtain ⟨w,p1,tp,nr,d0,d1⟩:=h.jm hj
   obtain ⟨R,hR,_,_,_⟩:=w.hd
   have c0:=w.c0
   have c1:=w.c1
   have m0:=w.m0
   have m1:=w.m1
   have ea:zK (zE far) i+dJ rows far i=zK (zE far) (xj (rows.getD i .non)):=by unfold dJ; omega
   cases hF:zE far i with
   | true=>
    have rv:xW rows far i=[(21+cJ (rows.getD i .non))*134217728+mJ (rows.getD i .non)*16777216,dJ rows far i % 4294967296]:=by
     unfold xW
     rw [hj,hF]
     rfl
    have g:=W.at (k:=0) hi (by rw [rv]; rfl)
    rw [Int.ofNat_zero,Int.add_zero] at g
    have g1:=W.at (k:=1) hi (by rw [rv]; rfl)
    rw [show ((1:Nat):Int)=1 from rfl] at g1
    have fr:=w.fr
    rw [hR] at fr
    obtain ⟨x,hx⟩:∃ x,x=(21+cJ (rows.getD i .non))*134217728+mJ (rows.getD i .non)*16777216:=⟨_,rfl⟩
    obtain ⟨n,hn'⟩:∃ n:Nat,(n:Int)=21+cJ (rows.getD i .non):=⟨(21+cJ (rows.getD i .non)).toNat,by omega⟩
    rw [<- hx] at g fr
    have hcc:=vP (x:=x) (by omega) (by omega)
    rw [show x / 134217728=(n:Int) by omega] at hcc
    have hfar:=tS (n:=n) (by omega)
    rw [decide_eq_true (show 21<=n by omega),decide_eq_true (show n<=23 by omega),Bool.true_and] at hfar
    have:=Ie (a:=zK (zE far) i) ⟨a0.1,by rw [ll]; exact g.2,g.1,by omega,by omega⟩ hcc hfar fr g1.1 (by rw [ll]; exact g1.2)
    rw [this,show zK (zE far) i+(if 2*(dJ rows far i % 4294967296)<4294967296 then dJ rows far i % 4294967296 else dJ rows far i % 4294967296 - 4294967296)=zK (zE far) (xj (rows.getD i .non)) by rw [<- ea]; split<;>omega]
    simp only [cond_true,hR]
    rfl
   | false=>
    have rv:xW rows far i=[(18+cJ (rows.getD i .non))*134217728+mJ (rows.getD i .non)*16777216+dJ rows far i % 32]:=by
     unfold xW
     rw [hj,hF]
     rfl
    obtain ⟨n0,n1⟩:=nr hF
    have g:=W.at (k:=0) hi (by rw [rv]; rfl)
    rw [Int.ofNat_zero,Int.add_zero] at g
    have fr:=w.nr (dJ rows far i)
    rw [hR] at fr
    obtain ⟨x,hx⟩:∃ x,x=(18+cJ (rows.getD i .non))*134217728+mJ (rows.getD i .non)*16777216+dJ rows far i % 32:=⟨_,rfl⟩
    obtain ⟨n,hn'⟩:∃ n:Nat,(n:Int)=18+cJ (rows.getD i .non):=⟨(18+cJ (rows.getD i .non)).toNat,by omega⟩
    rw [<- hx] at g fr
    have hcc:=vP (x:=x) (by omega) (by omega)
    rw [show x / 134217728=(n:Int) by omega] at hcc
    have hfar:=tS (n:=n) (by omega)
    rw [decide_eq_false (show ¬ 21<=n by omega),Bool.false_and] at hfar
    have hnear:=uQ (n:=n) (by omega)
    rw [decide_eq_true (show 18<=n by omega),decide_eq_true (show n<=20 by omega),Bool.true_and] at hnear
    have:=Ig (a:=zK (zE far) i) ⟨a0.1,by rw [ll]; exact g.2,g.1,by omega,by omega⟩ hcc hfar hnear fr
    rw [this,show zK (zE far) i+(if 2*(x % 32)<32 then x % 32 else x % 32 - 32)=zK (zE far) (xj (rows.getD i .non)) by rw [<- ea]; split<;>omega]
    simp only [cond_true,hR]
    rfl
 ·refine Ih (.inr ?_)
  rw [List.length_map]
  exact Int.le_of_eq (W.len (Nat.le_refl _))
 ·have w:=W.one hi
  unfold uW at h
  cases hj:yi (rows.getD i .non) with
  | false=>rw [hj] at h; cases h
  | true=>
   rw [hj] at h
   cases h
   exact (w.jm hj).2.1
end
theorem MW {m:Int} {r:D} (h:tL m r) (d:Int) (b:Bool):uD [r,.int d,.bl b]=some (true,.lst ((qA (cJ r) (mJ r) d b).map D.int)):=by
 have pw:xS 2 27=true/\xS 2 24=true/\xS 2 32=true/\xq 134217728=true/\xq 16777216=true/\xq 3=true:=⟨by decide,by decide,by decide,by decide,by decide,by decide⟩
 have one:∀ (w k:Str) (c m p:Int) (hi:xw (.lst [.str "jump",.str "when",.str "unless"]) (.str w)=some (.int c)) (hk:xw (.lst [.str "carry",.str "nought",.str "sign"]) (.str k)=some (.int m)) (ne:yd (.str w) (.str "jump")=some (.bl true)),uD [.tup [.str w,.str k,.int p],.int d,.bl b]=some (true,.lst ((qA c m d b).map D.int)):=fun w k c m p hi hk ne=>by
  have i1:zF (.tup [.str w,.str k,.int p]) (.int 1)=some (.str k):=rfl
  rw [Y0]
  unfold jM qA
  cases b
  ·simp! [yq,i1,hi,hk,pw,add_int,ne,Bool.false_eq_true,if_false,Int.add_zero,cond_false,List.map_cons,List.map_nil]
  ·have e3:(18+c+3:Int)=21+c:=by omega
   simp! [yq,i1,hi,hk,pw,add_int,ne,if_true,e3,cond_true,List.map_cons,List.map_nil]
 cases h with
 | jump p0 p1=>
  rename_i p
  have i0:xw (.lst [.str "jump",.str "when",.str "unless"]) (.str "jump")=some (.int 0):=by rfl
  have ne:yd (.str "jump") (.str "jump")=some (.bl false):=by rfl
  have c0:cJ (.tup [.str "jump",.int p])=0:=by rfl
  have m0:mJ (.tup [.str "jump",.int p])=0:=by rfl
  rw [c0,m0,Y0]
  unfold jM qA
  cases b
  ·simp! [yq,i0,pw,add_int,ne,Bool.false_eq_true,if_false,cond_false,List.map_cons,List.map_nil,Int.add_zero,Int.zero_mul]
  ·simp! [yq,i0,pw,add_int,ne,if_true,cond_true,List.map_cons,List.map_nil,Int.add_zero,Int.zero_mul]
 | cond hw hk p0 p1=>rcases hw with rfl | rfl<;>rcases hk with rfl | rfl | rfl<;>exact one _ _ _ _ _ (by rfl) (by rfl) (by rfl)
theorem On {L W:List D} (h1:L.length<=1000) (h2:W.length<=2):gj (.lst L) (.lst W)=some (.lst (L++W)):=by
 show (if L.length+W.length<=yA then _ else _)=_
 rw [if_pos (by show _<=16777216; omega)]
theorem Mp {rows:List D} {far:List Nat} (W:Wr rows far):gJ [.lst rows,.lst (z_ far)]=some (true,.lst ((yD rows far rows.length).map D.int)):=by
 have hn:=W.hn
 have e1:=IO (rows:=rows) (far:=far) (by omega)
 have e2:JY [some (false,.lst rows),some (false,.lst (z_ far)),some (false,.lst (xC (zE far) (rows.length+1))),some (true,.lst []),none,none]=some (xm rows.length):=pS (n:=(rows.length:Int)) rfl (by omega)
 obtain ⟨σ',e3,x4,x5,rfl⟩:=qb (g:=zt 4) (b:=YE) (fun i σ=>∃ x4 x5,σ=[some (false,.lst rows),some (false,.lst (z_ far)),some (false,.lst (xC (zE far) (rows.length+1))),some (true,.lst ((yD rows far i).map D.int)),x4,x5]) (ds:=xm rows.length)
  (σ:=[some (false,.lst rows),some (false,.lst (z_ far)),some (false,.lst (xC (zE far) (rows.length+1))),some (true,.lst []),none,none]) 0 ⟨none,none,rfl⟩ (by
  rintro i v σ hv ⟨x4,x5,rfl⟩
  obtain ⟨hi,rfl⟩:=pq hv
  rw [Nat.zero_add] at *
  have H:=W.one hi
  have eg:rows.getD i .non=rows[i]:=by rw [List.getD_eq_getElem?_getD,List.getElem?_eq_getElem hi]; rfl
  have al:((yD rows far i).map D.int).length<=900:=by
   have:=W.len (n:=i) (by omega)
   have:=uj (zE far) i
   rw [List.length_map]
   omega
  have ex:zF (.lst rows) (.int (i:Int))=some (rows.getD i .non):=vh (by omega) (by rw [Int.toNat_natCast,eg]; exact List.getElem?_eq_getElem hi)
  have hR:w4 (rows.length:Int) (rows.getD i .non):=by rw [eg]; exact W.hr _ (List.getElem_mem hi)
  have ej:∃ w,zF (rows.getD i .non) (.int 0)=some (.str w)/\yb (.str w) (.tup [.str "jump",.str "when",.str "unless"])=some (.bl (yi (rows.getD i .non))):=by
   rcases hR with h | h
   ·obtain ⟨w,a,b,_,c,_⟩:=tm h
    exact ⟨w,a,by rw [c]; exact b⟩
   ·obtain ⟨w,p,a,b,_,c,_⟩:=uN h
    exact ⟨w,a,by rw [c]; exact b⟩
  obtain ⟨w,ew,ein⟩:=ej
  have hin:yb (.int (i:Int)) (.lst (z_ far))=some (.bl (zE far i)):=by
   show (tQ _ _).bind _=_
   rw [Ww]
   rfl
  have s1:(yD rows far (i+1)).map D.int=(yD rows far i).map D.int++(xW rows far i).map D.int:=by
   show (yD rows far i++xW rows far i).map D.int=_
   rw [List.map_append]
  cases hj:yi (rows.getD i .non) with
  | false=>
   have pr:wx (rows.getD i .non):=by
    rcases hR with h | h
    ·exact h
    ·obtain ⟨_,_,_,_,_,z,_⟩:=uN h
     rw [z] at hj
     cases hj
   obtain ⟨v,w1,w2⟩:=J0 pr
   have rv:xW rows far i=[v]:=by
    unfold xW pQ
    rw [hj,w2]
    rfl
   have hap:=wz (L:=(yD rows far i).map D.int) (r:=.int v) (by omega)
   rw [hj] at ein
   refine ⟨_,[some (false,.lst rows),some (false,.lst (z_ far)),some (false,.lst (xC (zE far) (rows.length+1))),some (true,.lst ((yD rows far (i+1)).map D.int)),some (false,.int (i:Int)),x5],rfl,.inl ?_,_,_,rfl⟩
   rw [s1,rv]
   unfold YE
   generalize (yD rows far i).map D.int=LL at *
   generalize rows.getD i .non=RR at *
   simp! [ex,ew,ein,w2,hap]
  | true=>
   have jr:tL (rows.length:Int) (rows.getD i .non):=by
    rcases hR with h | h
    ·obtain ⟨_,_,_,_,z,_⟩:=tm h
     rw [z] at hj
     cases hj
    ·exact h
   obtain ⟨_,p1,tp,_,_,_⟩:=H.jm hj
   have lx:zF (rows.getD i .non) (.int (-1))=some (.int (xj (rows.getD i .non):Nat)):=by
    obtain ⟨_,p,_,_,_,_,_,l1,l2,_⟩:=uN jr
    unfold tgt at tp
    rw [hj] at tp
    rw [l1,<- tp,<- l2]
   have q4:=MW jr (dJ rows far i) (zE far i)
   have rv:xW rows far i=qA (cJ (rows.getD i .non)) (mJ (rows.getD i .non)) (dJ rows far i) (zE far i):=by
    unfold xW
    rw [hj]
    rfl
   rw [<- rv] at q4
   have hc:=On (L:=(yD rows far i).map D.int) (W:=(xW rows far i).map D.int) (by omega) (by rw [rv,List.length_map]; unfold qA; cases zE far i<;>simp)
   have ap:=ZM (f:=zE far) (n:=rows.length+1) (p:=xj (rows.getD i .non)) (by omega)
   have aj:=ZM (f:=zE far) (n:=rows.length+1) (p:=i) (by omega)
   rw [hj] at ein
   have sb:xg (.int (zK (zE far) (xj (rows.getD i .non)))) (.int (zK (zE far) i))=some (.int (dJ rows far i)):=rfl
   refine ⟨_,[some (false,.lst rows),some (false,.lst (z_ far)),some (false,.lst (xC (zE far) (rows.length+1))),some (true,.lst ((yD rows far (i+1)).map D.int)),some (false,.int (i:Int)),some (false,.int (dJ rows far i))],rfl,.inl ?_,_,_,rfl⟩
   rw [s1]
   unfold YE
   generalize (yD rows far i).map D.int=LL at *
   generalize (xW rows far i).map D.int=WW at *
   generalize dJ rows far i=DJ at *
   generalize zK (zE far) (xj (rows.getD i .non))=AP at *
   generalize zK (zE far) i=AI at *
   generalize xj (rows.getD i .non)=PP at *
   generalize rows.getD i .non=RR at *
   generalize xC (zE far) (rows.length+1)=AA at *
   have hs:xg (.int AP) (.int AI)=some (.int DJ):=sb
   simp only [xg.eq_1] at hs
   have hd:AP - AI=DJ:=by injection hs with z; injection z
   simp! [ex,ew,ein,lx,ap,aj,hd,hin,q4,hc])
 rw [g4,Nat.zero_add] at e3
 rw [Lw]
 unfold WE
 simp! [e1,e2,e3]
theorem Jd {rows:List D} (hf:∀ far,qE [.lst rows,.lst (z_ far)]=some (true,.lst (z_ (gF rows far)))):∀ {far R:List Nat} {k:Nat},tN (gF rows) far R k->
  vE Za V3 (k+1) [some (false,.lst rows),some (false,.lst (z_ far)),some (false,.lst (z_ (gF rows far)))]=some (.nx [some (false,.lst rows),some (false,.lst (z_ R)),some (false,.lst (z_ []))])
 | far,_,_,.stop e=>by
  rw [Ix]
  ·rw [e]
  ·have h:=Qh (z_ (gF rows far))
   rw [e] at h ⊢
   unfold Za
   simp! [h]
   rfl
 | far,_,_,.go e h r=>by
  rw [Iy (σ':=[some (false,.lst rows),some (false,.lst (z_ (uV (far++gF rows far)))),some (false,.lst (z_ (gF rows (uV (far++gF rows far)))))]) ?_ ?_]
  ·exact Jd hf r
  ·have h:=Qh (z_ (gF rows far))
   rw [LW,decide_eq_true e] at h
   unfold Za
   simp! [h]
  ·have h1:=OC h
   have h2:=Cu h
   have h3:=hf (uV (far++gF rows far))
   unfold V3
   simp! [h1,h2,h3]
theorem C1 {rows:List D} (hr:∀ r∈rows,w4 (rows.length:Int) r) (hn:rows.length<64) {far0:List Nat} (g0:tK rows.length far0):∃ R k,tN (gF rows) far0 R k/\gG [.lst rows,.lst (z_ far0)]=some (false,.lst (z_ R)):=by
 obtain ⟨R,k,hR,hk,gr⟩:=Jh hn (fun far=>M0 (rows:=rows)) rows.length far0 g0 (Nat.sub_le _ _)
 have hf:∀ far,qE [.lst rows,.lst (z_ far)]=some (true,.lst (z_ (gF rows far))):=fun far=>BM hr (by omega)
 have e1:=Jd hf hR
 have e2:=Jr _ e1 (Nat.le_trans (show k+1<=65 by omega) (by decide))
 have e3:=hf far0
 refine ⟨R,k,hR,?_⟩
 rw [Lq]
 unfold WA
 simp! [e3,e2]
theorem OL {rows:List D} (hr:∀ r∈rows,w4 (rows.length:Int) r) (hn:rows.length<64) (c m:Int):∃ far0 R k,(∀ i∈far0,yi (rows.getD i .non)=true)/\tN (gF rows) far0 R k/\g9 [.lst rows,.int c,.int m]=some (false,.lst (z_ R)):=by
 obtain ⟨far0,e0⟩:∃ f:List Nat,f=(xV rows).filter fun i:Nat=>decide (xP c (i:Int) % 4<m):=⟨_,rfl⟩
 have g0:tK rows.length far0:=by
  rw [e0]
  refine ⟨(List.nodup_range.sublist List.filter_sublist).sublist List.filter_sublist,fun x hx=>?_⟩
  exact (kE (List.mem_filter.mp hx).1).1
 obtain ⟨R,k,hR,e4⟩:=C1 hr hn g0
 have ej:=W_ hr (by omega)
 have el:ye (zt 3) XA X7 [some (false,.lst rows),some (false,.int c),some (false,.int m),none] ((xV rows).map fun i:Nat=>D.int i)=some (z_ far0):=by
  have h2:=kI (g:=zt 3) (c:=XA) (e:=X7) (σ:=[some (false,.lst rows),some (false,.int c),some (false,.int m),none]) (fun d=>match d with | .int i=>decide (xP c i % 4<m) | _=>false) id (ds:=(xV rows).map fun i:Nat=>D.int i) fun d hd=>by
   obtain ⟨i,_,rfl⟩:=List.mem_map.mp hd
   have hm:=u_ c (i:Int)
   refine ⟨_,rfl,?_,fun _=>?_⟩
   ·unfold XA
    show tE _ [some (false,.lst rows),some (false,.int c),some (false,.int m),some (false,.int (i:Int))]=_
    simp! [hm]
   ·unfold X7
    rfl
  rw [h2,e0]
  unfold z_
  rw [List.map_id,List.filter_map]
  rfl
 refine ⟨far0,R,k,fun i hi=>?_,hR,?_⟩
 ·rw [e0] at hi
  exact (kE (List.mem_filter.mp hi).1).2
 ·rw [Lg]
  unfold X_
  simp! [ej,vZ,el,e4]
theorem MJ {far:List Nat} {n:Nat}:zE far n=true↔n∈far:=by
 unfold zE z_
 rw [List.any_eq_true]
 have e:∀ a:Nat,yR (.int (a:Int)) (.int (n:Int))=true↔a=n:=fun a=>by
  have:yR (.int (a:Int)) (.int (n:Int))=((a:Int) == (n:Int)):=by unfold yR; rfl
  rw [this,beq_iff_eq]
  omega
 constructor
 ·rintro ⟨x,hx,h⟩
  obtain ⟨a,ha,rfl⟩:=List.mem_map.mp hx
  exact (e a).mp h ▸ ha
 ·exact fun h=>⟨_,List.mem_map.mpr ⟨n,h,rfl⟩,(e n).mpr rfl⟩
theorem Jj {g:List Nat->List Nat}:∀ {far R:List Nat} {k:Nat},tN g far R k->g R=[]
 | _,_,_,.stop e=>e
 | _,_,_,.go _ _ r=>Jj r
theorem Ji {rows:List D}:∀ {far R:List Nat} {k:Nat},tN (gF rows) far R k->(∀ i∈far,yi (rows.getD i .non)=true)->∀ i∈R,yi (rows.getD i .non)=true
 | _,_,_,.stop _,h=>h
 | far,_,_,.go _ _ r,h=>Ji r fun i hi=>by
  have hi:i∈far++gF rows far:=(Yo _).mem_iff.mp hi
  rcases List.mem_append.mp hi with hi | hi
  ·exact h i hi
  ·cases c:yi (rows.getD i .non) with
   | true=>rfl
   | false=>
    have:=(List.mem_filter.mp hi).2
    rw [Um c] at this
    cases this
noncomputable def gU:FS:=
 (zG (zY (tE (e2 zS (z7 0) (eC (.str "n"))))
   (za (eL vo (z8 (z7 1) zC)))
   zm)
  (zG (zY (vC (tE (e2 zS (z7 0) (eC (.str "d")))) (tE (e2 zS (z7 0) (eC (.str "s")))))
   (za (vn (xh (eC (.str "r")) (xh (e1 pJ (z7 1)) uu))))
   zm)
  (za (z7 1))))
noncomputable def j2:List D->Option (Bool×D):=FR 2 2 gU
theorem Wn (x0 x1:D):j2 [x0,x1]=yP 2 gU [x0,x1]:=rfl
noncomputable def Z9:FE:=(zV j2 (z8 (z7 2) (z8 (z7 3) zC)))
noncomputable def pC:FS:=
 (zG (zY (tE (zV qt (z8 (z7 0) zC)))
   (za (e2 zR (e2 zF (z7 0) (eC (.int 1))) (eC (.str ":"))))
   zm)
  (zG (zP 1 (e1 (yy qX qY) (e2 zF (z7 0) (eC (.int 0)))))
  (za (e2 y_ (eC (.str " ")) (e2 zR (yC (z8 (e2 zF (z7 0) (eC (.int 0))) zC)) (wD 2 (vp (z7 1) (ya (z7 0) (yI (eC (.int 1))) yH)) (qW 2 3) yk Z9))))))
noncomputable def j3:List D->Option (Bool×D):=FR 1 2 pC
theorem k7 (x0:D):j3 [x0]=yP 2 pC [x0]:=rfl
noncomputable def ZW:FS:=
 (zG (zP 1 (e2 zF (z7 0) (eC (.int 2))))
  (za (zV j3 (z8 (uI (tE (e2 gu (z7 1) (eC .non))) (e2 zF (z7 0) (eC (.int 0))) (e2 zR (e2 zF (z7 0) (eC (.int 0))) (yQ (z8 (eL vo (z8 (z7 1) zC)) zC)))) zC))))
noncomputable def ZE:List D->Option (Bool×D):=FR 1 2 ZW
theorem T_ (x0:D):ZE [x0]=yP 2 ZW [x0]:=rfl
noncomputable def YV:FA:=(v7 (eC (.int 1)) (eL yz (z8 (z7 0) zC)))
noncomputable def YD:FS:=(xX 2 xJ (e2 zR (e2 zF (yC (z8 (eC (.str "")) (z8 (eC (.str "r")) zC))) (eL uq (z8 (e2 (yW fun i j=>decide (i<=j)) (z7 4) (z7 3)) zC))) (eL vo (z8 (e2 zF (z7 0) (z7 4)) zC))))
noncomputable def jP:FS:=
 (zG (zY (tE (e2 Zr (z7 1) (eC .non)))
   (za (e2 Wc (eC (.str " ")) (e2 zR (z7 0) (yQ (z8 (eL vo (z8 (z7 1) zC)) zC)))))
   zm)
  (zG (vB 2 (yC (z8 (e2 zF (z7 0) (eC (.int 0))) zC)))
  (zG (zP 3 (e2 xg (eL yz (z8 (z7 0) zC)) (eC (.int 1))))
  (zG (zY (tE (e2 yb (e2 zF (z7 0) (eC (.int 0))) (yQ (z8 (eC (.str "set")) (z8 (eC (.str "high")) (z8 (eC (.str "left")) (z8 (eC (.str "right")) (z8 (eC (.str "load")) (z8 (eC (.str "store")) (z8 (eC (.str "loadw")) (z8 (eC (.str "storew")) zC)))))))))))
   (zP 3 (e2 xg (z7 3) (eC (.int 1))))
   zm)
  (zG (vz YV (zt 4)
   YD)
  (zG (qh 2) (za (e2 y_ (eC (.str " ")) (z7 2)))))))))
noncomputable def qw:List D->Option (Bool×D):=FR 2 5 jP
theorem Y3 (x0 x1:D):qw [x0,x1]=yP 5 jP [x0,x1]:=rfl
theorem pP {n:Int} (h0:0<=n) (h1:n<100000):wP n=true:=decide_eq_true (by
 by_cases e:n.natAbs=0
 ·rw [e]; decide
 ·have p:(2:Nat) ^ 17=131072:=by decide
  have:n.natAbs.log2<17:=(Nat.log2_lt e).mpr (by omega)
  omega)
theorem str_int {n:Int} (h:wP n=true):vo [.int n]=some (.str (zN n)):=by
 show (match wP n with | true=>_ | false=>_)=_
 rw [h]
 rfl
theorem Th {n:Int} (h:wP n=true):pJ (.int n)=some (.str (zN n)):=by
 show (match wP n with | true=>_ | false=>_)=_
 rw [h]
 rfl
theorem gb {n:Int} (h:wP n=true):(zN n).length<=1921:=L2.int_le (of_decide_eq_true h)
theorem Zh (x:Str):("" : Str)++x=x:=by
 cases x with
 | mk c=>
  show (⟨#[]++c⟩:Str)=⟨c⟩
  rw [Array.empty_append]
theorem LY {n:Int} (h:wP n=true):j2 [.str "n",.int n]=some (false,.str (zN n)):=by
 have e:zS (.str "n") (.str "n")=some (.bl true):=by rfl
 have s:=str_int h
 rw [Wn]
 unfold gU
 simp! [e,s]
theorem LZ {f:Str} {n:Int} (hf:f = "d" \/ f = "s") (h:wP n=true):j2 [.str f,.int n]=some (false,.str ("r" ++ zN n)):=by
 have l:=gb h
 have g1:zS (.str f) (.str "n")=some (.bl false):=by rcases hf with rfl | rfl<;>rfl
 have s:=Th h
 have j:vn (xh (eC (.str "r")) (xh (e1 pJ (z7 1)) uu)) [some (false,.str f),some (false,.int n)]=some (.str ("r" ++ zN n)):=by
  have c1:("r" : Str).length<=yA:=by decide
  have c2:(("r" : Str)++zN n).length<=yA:=by rw [xA]; show 1+_<=16777216; omega
  have ee:∀ x:Str,Str.empty++x=x:=Zh
  simp! [vn,xh,uu,s,ee,if_pos c1,if_pos c2]
 rw [Wn]
 unfold gU
 rcases hf with rfl | rfl
 ·have e2:zS (.str "d") (.str "d")=some (.bl true):=by rfl
  simp! [g1,e2,j]
 ·have e2:zS (.str "s") (.str "d")=some (.bl false):=by rfl
  have e3:zS (.str "s") (.str "s")=some (.bl true):=by rfl
  simp! [g1,e2,e3,j]
theorem Wh {f t:Str} (hf:f = "name" \/ f = "mark"):j2 [.str f,.str t]=some (false,.str t):=by
 have e1:zS (.str f) (.str "n")=some (.bl false):=by rcases hf with rfl | rfl<;>rfl
 have e2:zS (.str f) (.str "d")=some (.bl false):=by rcases hf with rfl | rfl<;>rfl
 have e3:zS (.str f) (.str "s")=some (.bl false):=by rcases hf with rfl | rfl<;>rfl
 rw [Wn]
 unfold gU
 simp! [e1,e2,e3]
theorem uv {sep:Str} {ts:List Str} (h:(ts.map (·.length)).sum+ts.length*sep.length<=16777216):y_ (.str sep) (.lst (ts.map D.str))=some (.str (Builtin.Str.glued sep ts)):=by
 show (tH _).bind _=_
 rw [Ys]
 show (if _<=yA then _ else _)=_
 rw [if_pos h]
theorem MT {sep:Str} {ts:List Str} (h:(ts.map (·.length)).sum+ts.length*sep.length<=16777216):Wc (.str sep) (.tup (ts.map D.str))=some (.str (Builtin.Str.glued sep ts)):=by
 show (tH _).bind _=_
 rw [Ys]
 show (if _<=yA then _ else _)=_
 rw [if_pos h]
noncomputable def rS (b:Bool):Str:=bif b then "r" else ""
noncomputable abbrev NL (z:Str):Prop:=10 ∉ z.cps.toList
theorem kN {a b:Str} (ha:NL a) (hb:NL b):NL (a++b):=fun h=>by
 rw [show (a++b).cps.toList=a.cps.toList++b.cps.toList from Array.toList_append] at h
 rcases List.mem_append.mp h with q | q
 ·exact ha q
 ·exact hb q
theorem jh {n:Int} (h:0<=n):NL (zN n):=fun q=>by
 rw [Zd h] at q
 have:=(WV n.toNat).2.1 10 q
 omega
theorem kO {w:Str} {zs:List Str} (hw:NL w) (hz:∀ z∈zs,NL z):NL (Builtin.Str.glued " " (w::zs)):=by
 have h:∀ (us:List Str) (a:Array Nat),10 ∉ a.toList->(∀ u∈us,NL u)->10 ∉ (us.foldl (fun acc p=>acc++(" " : Str).cps++p.cps) a).toList:=fun us=>by
  induction us with
  | nil=>intro a ha _; exact ha
  | cons u us ih=>
   intro a ha hu
   rw [List.foldl_cons]
   refine ih _ (fun q=>?_) fun v hv=>hu v (List.mem_cons_of_mem _ hv)
   rw [Array.toList_append,Array.toList_append] at q
   rcases List.mem_append.mp q with q | q
   ·rcases List.mem_append.mp q with q | q
    ·exact ha q
    ·exact absurd q (by decide)
   ·exact hu u List.mem_cons_self q
 exact h zs w.cps hw hz
structure Pt (f:Str) (b:Bool) (d:D) (z:Str):Prop where
 ft:j2 [.str f,d]=some (false,.str z)
 lt:∃ sd:Str,vo [d]=some (.str sd)/\zR (.str (rS b)) (.str sd)=some (.str z)
 ln:z.length<=2000
 nl:NL z
theorem jp {f:Str} {n:Int} (hf:f = "d" \/ f = "s") (n0:0<=n) (n1:n<8):Pt f true (.int n) ("r" ++ zN n):=by
 have h:=pP n0 (by omega)
 have l:=gb h
 exact ⟨LZ hf h,⟨zN n,str_int h,add_str (by show 1+_<=_; omega)⟩,by rw [xA]; show 1+_<=_; omega,kN (by decide +kernel) (jh n0)⟩
theorem VN {n:Int} (n0:0<=n) (n1:n<65536):Pt "n" false (.int n) (zN n):=by
 have h:=pP n0 (by omega)
 have l:=gb h
 exact ⟨LY h,⟨zN n,str_int h,by
  have:=add_str (a := "") (b:=zN n) (by show 0+_<=_; omega)
  rw [Zh] at this
  exact this⟩,by omega,jh n0⟩
structure Tx (r t:D) (z:Str):Prop where
 tp:∀ nx,ZE [.tup [r,nx,t]]=some (false,.str z)
 lw:qw [r,t]=some (false,.str z)
 ln:z.length<=7000
 ne:1<=z.length
 nl:NL z
theorem Zy (sep w:Str) (zs:List Str):w.length<=(Builtin.Str.glued sep (w::zs)).length:=by
 have h:∀ (us:List Str) (a:Array Nat),a.size<=(us.foldl (fun acc p=>acc++sep.cps++p.cps) a).size:=fun us=>by
  induction us with
  | nil=>intro a; exact Nat.le_refl _
  | cons u us ih=>
   intro a
   rw [List.foldl_cons]
   refine Nat.le_trans ?_ (ih _)
   rw [Array.size_append,Array.size_append]
   omega
 exact h zs w.cps
theorem Zz {w:Str} {zs:List Str} (hw:w.length<=100) (hz:∀ z∈zs,z.length<=2000) (hn:zs.length<=3):(Builtin.Str.glued " " (w::zs)).length<=7000:=by
 have h:=L2.glued_len " " (w::zs)
 have e:(" " : Str).length=1:=rfl
 rw [e] at h
 have s:∀ {l:List Str},(∀ z∈l,z.length<=2000)->(l.map (·.length)).sum<=2000*l.length:=fun {l}=>by
  induction l with
  | nil=>intro _; exact Nat.le_refl _
  | cons z l ih=>
   intro h
   have h1:=h z (List.mem_cons_self ..)
   have h2:=ih fun y hy=>h y (List.mem_cons_of_mem _ hy)
   rw [List.map_cons,List.sum_cons,List.length_cons]
   omega
 have:=s hz
 rw [List.map_cons,List.sum_cons,List.length_cons] at h
 omega
theorem UM {r nx:D} {z:Str} (h:j3 [r]=some (false,.str z)):ZE [.tup [r,nx,.non]]=some (false,.str z):=by
 have i2:zF (.tup [r,nx,.non]) (.int 2)=some .non:=rfl
 have i0:zF (.tup [r,nx,.non]) (.int 0)=some r:=rfl
 rw [T_]
 unfold ZW
 simp! [i2,i0,h]
theorem Ed {R:List D} {nx:D} {a:Int} {z:Str} (ha:wP a=true) (hR:R≠[]) (hl:R.length<=3) (h:j3 [.tup (R++[.str (zN a)])]=some (false,.str z)):ZE [.tup [.tup R,nx,.int a]]=some (false,.str z):=by
 have i2:zF (.tup [.tup R,nx,.int a]) (.int 2)=some (.int a):=rfl
 have i0:zF (.tup [.tup R,nx,.int a]) (.int 0)=some (.tup R):=rfl
 have s:=str_int ha
 have ad:zR (.tup R) (.tup [.str (zN a)])=some (.tup (R++[.str (zN a)])):=by
  show (if R.isEmpty=false/\R.length+1<=yA then _ else _)=_
  rw [if_pos ⟨by cases R with | nil=>exact absurd rfl hR | cons _ _=>rfl,by show _<=16777216; omega⟩]
 rw [T_]
 unfold ZW
 simp! [i2,i0,s,ad,h]
noncomputable def ji:D:=.tup [.str "set",.str "high",.str "left",.str "right",.str "load",.str "store",.str "loadw",.str "storew"]
theorem Ej {w:Str} (hl:zS (.str w) (.str "label")=some (.bl false)) (hw:w.length<=100) (hw1:1<=w.length) (hwn:NL w) (hF:yy qX qY (.str w)=some (.tup [])) (hi:yb (.str w) ji=some (.bl false)):Tx (.tup [.str w]) .non (Builtin.Str.glued " " [w]):=by
 have sl:uL (.tup [.str w]) (some 1) none=some (.tup []):=by rfl
 have jn:y_ (.str " ") (.lst [.str w])=some (.str (Builtin.Str.glued " " [w])):=uv (ts:=[w]) (by show w.length+0+1*1<=_; omega)
 have il:qt [.tup [.str w]]=some (false,.bl false):=by rw [k6]; unfold pB; simp! [yq,hl]
 have ad:=qN (L:=[.str w]) (M:=[]) (by show 1+0<=_; omega)
 rw [show [D.str w]++[]=[.str w] from rfl] at ad
 refine ⟨fun nx=>UM ?_,?_,Zz hw (fun _ h=>by cases h) (by decide),Nat.le_trans hw1 (Zy ..),kO hwn (fun _ h=>by cases h)⟩
 ·rw [k7]
  unfold pC
  simp! [il,yq,hF,vp,ya,yI,yH,sl,vZ,List.zipWith_nil_left,ye,ad,jn]
 ·have rr:∀ x,YV [some (false,.tup [.str w]),some (false,.non),some (true,.lst [.str w]),x,none]=some []:=fun _=>rfl
  unfold ji at hi
  rw [Y3]
  unfold jP
  simp! [yq,hi,rr,jn]
theorem UN {w f1 z1 f2 z2:Str} {d1 d2:D} {b:Bool} (hl:zS (.str w) (.str "label")=some (.bl false)) (hw:w.length<=100) (hw1:1<=w.length) (hwn:NL w) (hF:yy qX qY (.str w)=some (.tup [.str f1,.str f2])) (hi:yb (.str w) ji=some (.bl (!b))) (P1:Pt f1 true d1 z1) (P2:Pt f2 b d2 z2):Tx (.tup [.str w,d1,d2]) .non (Builtin.Str.glued " " [w,z1,z2]):=by
 obtain ⟨g1,⟨s1,a1,a2⟩,l1,n1⟩:=P1
 obtain ⟨g2,⟨s2,c1,c2⟩,l2,n2⟩:=P2
 have sl:uL (.tup [.str w,d1,d2]) (some 1) none=some (.tup [d1,d2]):=by rfl
 have jn:y_ (.str " ") (.lst [.str w,.str z1,.str z2])=some (.str (Builtin.Str.glued " " [w,z1,z2])):=uv (ts:=[w,z1,z2]) (by show w.length+(z1.length+(z2.length+0))+3*1<=_; omega)
 have il:qt [.tup [.str w,d1,d2]]=some (false,.bl false):=by rw [k6]; unfold pB; simp! [yq,hl]
 have ad:=qN (L:=[.str w]) (M:=[.str z1,.str z2]) (by show 1+2<=_; omega)
 rw [show [D.str w]++[.str z1,.str z2]=[.str w,.str z1,.str z2] from rfl] at ad
 refine ⟨fun nx=>UM ?_,?_,Zz hw (fun z hz=>by
  rcases List.mem_cons.mp hz with rfl | hz
  ·exact l1
  ·cases List.mem_singleton.mp hz; exact l2) (by simp),Nat.le_trans hw1 (Zy ..),kO hwn fun z hz=>by
  rcases List.mem_cons.mp hz with rfl | hz
  ·exact n1
  ·cases List.mem_singleton.mp hz; exact n2⟩
 ·rw [k7]
  unfold pC
  simp! [il,yq,hF,vp,ya,yI,yH,sl,vZ,List.zipWith_cons_cons,List.zipWith_nil_left,Z9,ye,yk,qW,g1,g2,ad,jn]
 ·have rr:∀ x,YV [some (false,.tup [.str w,d1,d2]),some (false,.non),some (true,.lst [.str w]),x,none]=some [.int 1,.int 2]:=fun _=>rfl
  have i1:zF (.tup [.str w,d1,d2]) (.int 1)=some d1:=rfl
  have i2:zF (.tup [.str w,d1,d2]) (.int 2)=some d2:=rfl
  have p1:xJ (.lst [.str w]) (.str z1)=some (.lst [.str w,.str z1]):=wz (by simp)
  have p2:xJ (.lst [.str w,.str z1]) (.str z2)=some (.lst [.str w,.str z1,.str z2]):=wz (by simp)
  have x1:zF (.lst [.str "",.str "r"]) (.int 1)=some (.str "r"):=rfl
  have x0:zF (.lst [.str "",.str "r"]) (.int 0)=some (.str ""):=rfl
  have k1:rS true = "r" := rfl
  have c3:((3:Nat):Int)=3:=rfl
  rw [k1] at a2
  unfold ji at hi
  rw [Y3]
  unfold jP
  cases b with
  | true=>
   rw [k1] at c2
   simp! [yq,hi,rr,YD,List.length_cons,List.length_nil,c3,Bool.not_true,x1,i1,i2,a1,a2,c1,c2,p1,p2,jn,decide_true,decide_false,if_true]
  | false=>
   have k0:rS false = "" := rfl
   rw [k0] at c2
   simp! [yq,hi,rr,YD,List.length_cons,List.length_nil,c3,Bool.not_false,x1,x0,i1,i2,a1,a2,c1,c2,p1,p2,jn,decide_true,decide_false,if_true,Bool.false_eq_true,if_false]
theorem Ek {w f1 z1 f2 z2 f3 z3:Str} {d1 d2 d3:D} (hl:zS (.str w) (.str "label")=some (.bl false)) (hw:w.length<=100) (hw1:1<=w.length) (hwn:NL w) (hF:yy qX qY (.str w)=some (.tup [.str f1,.str f2,.str f3])) (hi:yb (.str w) ji=some (.bl true)) (P1:Pt f1 true d1 z1) (P2:Pt f2 true d2 z2) (P3:Pt f3 false d3 z3):Tx (.tup [.str w,d1,d2,d3]) .non (Builtin.Str.glued " " [w,z1,z2,z3]):=by
 obtain ⟨g1,⟨s1,a1,a2⟩,l1,n1⟩:=P1
 obtain ⟨g2,⟨s2,c1,c2⟩,l2,n2⟩:=P2
 obtain ⟨g3,⟨s3,q1,q2⟩,l3,n3⟩:=P3
 have sl:uL (.tup [.str w,d1,d2,d3]) (some 1) none=some (.tup [d1,d2,d3]):=by rfl
 have jn:y_ (.str " ") (.lst [.str w,.str z1,.str z2,.str z3])=some (.str (Builtin.Str.glued " " [w,z1,z2,z3])):=uv (ts:=[w,z1,z2,z3]) (by show w.length+(z1.length+(z2.length+(z3.length+0)))+4*1<=_; omega)
 have il:qt [.tup [.str w,d1,d2,d3]]=some (false,.bl false):=by rw [k6]; unfold pB; simp! [yq,hl]
 have ad:=qN (L:=[.str w]) (M:=[.str z1,.str z2,.str z3]) (by show 1+3<=_; omega)
 rw [show [D.str w]++[.str z1,.str z2,.str z3]=[.str w,.str z1,.str z2,.str z3] from rfl] at ad
 refine ⟨fun nx=>UM ?_,?_,Zz hw (fun z hz=>by
  rcases List.mem_cons.mp hz with rfl | hz
  ·exact l1
  ·rcases List.mem_cons.mp hz with rfl | hz
   ·exact l2
   ·cases List.mem_singleton.mp hz; exact l3) (by simp),Nat.le_trans hw1 (Zy ..),kO hwn fun z hz=>by
  rcases List.mem_cons.mp hz with rfl | hz
  ·exact n1
  ·rcases List.mem_cons.mp hz with rfl | hz
   ·exact n2
   ·cases List.mem_singleton.mp hz; exact n3⟩
 ·rw [k7]
  unfold pC
  simp! [il,yq,hF,vp,ya,yI,yH,sl,vZ,List.zipWith_cons_cons,List.zipWith_nil_left,Z9,ye,yk,qW,g1,g2,g3,ad,jn]
 ·have rr:∀ x,YV [some (false,.tup [.str w,d1,d2,d3]),some (false,.non),some (true,.lst [.str w]),x,none]=some [.int 1,.int 2,.int 3]:=fun _=>rfl
  have i1:zF (.tup [.str w,d1,d2,d3]) (.int 1)=some d1:=rfl
  have i2:zF (.tup [.str w,d1,d2,d3]) (.int 2)=some d2:=rfl
  have i3:zF (.tup [.str w,d1,d2,d3]) (.int 3)=some d3:=rfl
  have p1:xJ (.lst [.str w]) (.str z1)=some (.lst [.str w,.str z1]):=wz (by simp)
  have p2:xJ (.lst [.str w,.str z1]) (.str z2)=some (.lst [.str w,.str z1,.str z2]):=wz (by simp)
  have p3:xJ (.lst [.str w,.str z1,.str z2]) (.str z3)=some (.lst [.str w,.str z1,.str z2,.str z3]):=wz (by simp)
  have x1:zF (.lst [.str "",.str "r"]) (.int 1)=some (.str "r"):=rfl
  have x0:zF (.lst [.str "",.str "r"]) (.int 0)=some (.str ""):=rfl
  have k1:rS true = "r" := rfl
  have k0:rS false = "" := rfl
  have c4:((4:Nat):Int)=4:=rfl
  rw [k1] at a2 c2
  rw [k0] at q2
  unfold ji at hi
  rw [Y3]
  unfold jP
  simp! [yq,hi,rr,YD,List.length_cons,List.length_nil,c4,x1,x0,i1,i2,i3,a1,a2,c1,c2,q1,q2,p1,p2,p3,jn,decide_true,decide_false,if_true,Bool.false_eq_true,if_false]
theorem Ij {w:Str} {R:List D} {zs fs:List Str} {a:Int} (ha:wP a=true) (hl:zS (.str w) (.str "label")=some (.bl false)) (hw:w.length<=100) (hw1:1<=w.length) (hwn:NL w) (hR:R=zs.map D.str) (hz:zs.length<=1) (hzl:∀ z∈zs,z.length<=100) (hzn:∀ z∈zs,NL z) (ha0:0<=a) (hF:yy qX qY (.str w)=some (.tup (fs.map D.str)))
  (he:zs=[]/\fs=[("name" : Str)]\/∃ k:Str,zs=[k]/\fs=[("mark" : Str), "name"]):Tx (.tup (.str w::R)) (.int a) (Builtin.Str.glued " " (w::(zs++[zN a]))):=by
 have al:=gb ha
 have s:=str_int ha
 subst hR
 have lw:qw [.tup (.str w::zs.map D.str),.int a]=some (false,.str (Builtin.Str.glued " " (w::(zs++[zN a])))):=by
  have ad:zR (.tup (.str w::zs.map D.str)) (.tup [.str (zN a)])=some (.tup ((w::(zs++[zN a])).map D.str)):=by
   show (if (D.str w::zs.map D.str).isEmpty=false/\(D.str w::zs.map D.str).length+1<=yA then some (D.tup ((D.str w::zs.map D.str)++[.str (zN a)])) else none)=_
   rw [if_pos ⟨rfl,by rw [List.length_cons,List.length_map]; show _<=16777216; omega⟩,List.map_cons,List.map_append]
   rfl
  have jn:=MT (sep := " ") (ts:=w::(zs++[zN a])) (by
   rcases he with ⟨rfl,_⟩ | ⟨k,rfl,_⟩
   ·show w.length+((zN a).length+0)+2*1<=_; omega
   ·have:=hzl k (List.mem_singleton.mpr rfl)
    show w.length+(k.length+((zN a).length+0))+3*1<=_; omega)
  rw [Y3]
  unfold jP
  generalize (w::(zs++[zN a])).map D.str=LL at *
  generalize zs.map D.str=ZZ at *
  simp! [s,ad,jn]
 refine ⟨fun nx=>?_,lw,Zz hw (fun z hz=>?_) (by rw [List.length_append]; show _+1<=_; omega),Nat.le_trans hw1 (Zy ..),kO hwn fun z hz=>?_⟩
 ·refine Ed ha (by simp) (by rw [List.length_cons,List.length_map]; omega) ?_
  rcases he with ⟨rfl,rfl⟩ | ⟨k,rfl,rfl⟩
  ·show j3 [.tup [.str w,.str (zN a)]]=_
   have hF:yy qX qY (.str w)=some (.tup [.str "name"]):=hF
   have sl:uL (.tup [.str w,.str (zN a)]) (some 1) none=some (.tup [.str (zN a)]):=by rfl
   have jn:y_ (.str " ") (.lst [.str w,.str (zN a)])=some (.str (Builtin.Str.glued " " [w,zN a])):=uv (ts:=[w,zN a]) (by show w.length+((zN a).length+0)+2*1<=_; omega)
   have il:qt [.tup [.str w,.str (zN a)]]=some (false,.bl false):=by rw [k6]; unfold pB; simp! [yq,hl]
   have ad:=qN (L:=[.str w]) (M:=[.str (zN a)]) (by show 1+1<=_; omega)
   rw [show [D.str w]++[.str (zN a)]=[.str w,.str (zN a)] from rfl] at ad
   have g1:=Wh (f := "name") (t:=zN a) (.inl rfl)
   rw [k7]
   unfold pC
   generalize zN a=A at *
   simp! [il,yq,hF,vp,ya,yI,yH,sl,vZ,List.zipWith_cons_cons,List.zipWith_nil_left,Z9,ye,yk,qW,g1,ad,jn,List.nil_append]
  ·have kl:=hzl k (List.mem_singleton.mpr rfl)
   show j3 [.tup [.str w,.str k,.str (zN a)]]=_
   have hF:yy qX qY (.str w)=some (.tup [.str "mark",.str "name"]):=hF
   have sl:uL (.tup [.str w,.str k,.str (zN a)]) (some 1) none=some (.tup [.str k,.str (zN a)]):=by rfl
   have jn:y_ (.str " ") (.lst [.str w,.str k,.str (zN a)])=some (.str (Builtin.Str.glued " " [w,k,zN a])):=uv (ts:=[w,k,zN a]) (by show w.length+(k.length+((zN a).length+0))+3*1<=_; omega)
   have il:qt [.tup [.str w,.str k,.str (zN a)]]=some (false,.bl false):=by rw [k6]; unfold pB; simp! [yq,hl]
   have ad:=qN (L:=[.str w]) (M:=[.str k,.str (zN a)]) (by show 1+2<=_; omega)
   rw [show [D.str w]++[.str k,.str (zN a)]=[.str w,.str k,.str (zN a)] from rfl] at ad
   have g1:=Wh (f := "name") (t:=zN a) (.inl rfl)
   have g2:=Wh (f := "mark") (t:=k) (.inr rfl)
   have e:([k]++[zN a]:List Str)=[k,zN a]:=rfl
   rw [e,k7]
   unfold pC
   generalize zN a=A at *
   simp! [il,yq,hF,vp,ya,yI,yH,sl,vZ,List.zipWith_cons_cons,List.zipWith_nil_left,Z9,ye,yk,qW,g1,g2,ad,jn]
 ·rcases List.mem_append.mp hz with h | h
  ·have:=hzl z h; omega
  ·cases List.mem_singleton.mp h; omega
 ·rcases List.mem_append.mp hz with h | h
  ·exact hzn z h
  ·cases List.mem_singleton.mp h; exact jh ha0
theorem D_ {r:D} (h:wx r):∃ z,Tx r .non z:=by
 cases h with
 | stop=>exact ⟨_,Ej (w := "stop") (by rfl) (by decide) (by decide) (by decide +kernel) (by rfl) (by rfl)⟩
 | imm hw d0 d1 n0 n1=>exact ⟨_,UN (b:=false) (by rcases hw with rfl | rfl<;>rfl) (by rcases hw with rfl | rfl<;>decide) (by rcases hw with rfl | rfl<;>decide) (by rcases hw with rfl | rfl<;>decide +kernel) (by rcases hw with rfl | rfl<;>rfl) (by rcases hw with rfl | rfl<;>rfl) (jp (.inl rfl) d0 d1) (VN n0 n1)⟩
 | mov hw d0 d1 n0 n1=>exact ⟨_,UN (b:=false) (by rcases hw with rfl | rfl<;>rfl) (by rcases hw with rfl | rfl<;>decide) (by rcases hw with rfl | rfl<;>decide) (by rcases hw with rfl | rfl<;>decide +kernel) (by rcases hw with rfl | rfl<;>rfl) (by rcases hw with rfl | rfl<;>rfl) (jp (.inl rfl) d0 d1) (VN n0 (by omega))⟩
 | two hw d0 d1 s0 s1=>exact ⟨_,UN (b:=true) (by rcases hw with rfl | rfl | rfl | rfl | rfl | rfl | rfl | rfl | rfl<;>rfl) (by rcases hw with rfl | rfl | rfl | rfl | rfl | rfl | rfl | rfl | rfl<;>decide) (by rcases hw with rfl | rfl | rfl | rfl | rfl | rfl | rfl | rfl | rfl<;>decide) (by rcases hw with rfl | rfl | rfl | rfl | rfl | rfl | rfl | rfl | rfl<;>decide +kernel) (by rcases hw with rfl | rfl | rfl | rfl | rfl | rfl | rfl | rfl | rfl<;>rfl) (by rcases hw with rfl | rfl | rfl | rfl | rfl | rfl | rfl | rfl | rfl<;>rfl) (jp (.inl rfl) d0 d1) (jp (.inr rfl) s0 s1)⟩
 | mem hw d0 d1 s0 s1 n0 n1=>exact ⟨_,Ek (by rcases hw with rfl | rfl | rfl | rfl<;>rfl) (by rcases hw with rfl | rfl | rfl | rfl<;>decide) (by rcases hw with rfl | rfl | rfl | rfl<;>decide) (by rcases hw with rfl | rfl | rfl | rfl<;>decide +kernel) (by rcases hw with rfl | rfl | rfl | rfl<;>rfl) (by rcases hw with rfl | rfl | rfl | rfl<;>rfl) (jp (.inl rfl) d0 d1) (jp (.inr rfl) s0 s1) (VN n0 (by omega))⟩
theorem MX {m:Int} {r:D} (h:tL m r) {a:Int} (a0:0<=a) (a1:a<1000):∃ z,Tx (gY r) (.int a) z:=by
 have ha:=pP a0 (by omega)
 cases h with
 | jump p0 p1=>exact ⟨_,Ij (w := "jump") (zs:=[]) (fs:=["name"]) ha (by rfl) (by decide) (by decide) (by decide +kernel) rfl (by simp) (fun _ h=>by cases h) (fun _ h=>by cases h) a0 (by rfl) (.inl ⟨rfl,rfl⟩)⟩
 | cond hw hk p0 p1=>
  rename_i w k p
  exact ⟨_,Ij (w:=w) (zs:=[k]) (fs:=["mark", "name"]) ha (by rcases hw with rfl | rfl<;>rfl) (by rcases hw with rfl | rfl<;>decide) (by rcases hw with rfl | rfl<;>decide) (by rcases hw with rfl | rfl<;>decide +kernel) rfl (by simp) (fun z h=>by cases List.mem_singleton.mp h; rcases hk with rfl | rfl | rfl<;>decide) (fun z h=>by cases List.mem_singleton.mp h; rcases hk with rfl | rfl | rfl<;>decide +kernel) a0 (by rcases hw with rfl | rfl<;>rfl) (.inr ⟨k,rfl,rfl⟩)⟩
noncomputable def V0:FS:=(zG (zP 1 (e2 zR (e2 zF (eC (.str "0123456789abcdef")) (e2 zr (z7 0) (eC (.int 16)))) (z7 1)))
    (zP 0 (e2 yh (z7 0) (eC (.int 16)))))
noncomputable def W4:FS:=
 (zG (zP 1 (eC (.str "")))
  (zG (vz (v7 (eC (.int 0)) (eC (.int 8))) (zt 2)
   V0)
  (za (z7 1))))
noncomputable def j5:List D->Option (Bool×D):=FR 1 3 W4
theorem Lj (x0:D):j5 [x0]=yP 3 W4 [x0]:=rfl
noncomputable def xD (d:Int):Str:=⟨#[("0123456789abcdef" : Str).cps.getD d.toNat 0]⟩
theorem hix:∀ n:Nat,n<16->zF (.str "0123456789abcdef") (.int (n:Int))=some (.str (xD (n:Int)))
 | 0,_=>rfl
 | 1,_=>rfl
 | 2,_=>rfl
 | 3,_=>rfl
 | 4,_=>rfl
 | 5,_=>rfl
 | 6,_=>rfl
 | 7,_=>rfl
 | 8,_=>rfl
 | 9,_=>rfl
 | 10,_=>rfl
 | 11,_=>rfl
 | 12,_=>rfl
 | 13,_=>rfl
 | 14,_=>rfl
 | 15,_=>rfl
 | n+16,h=>absurd h (by omega)
theorem M3 {d:Int} (h0:0<=d) (h1:d<16):zF (.str "0123456789abcdef") (.int d)=some (.str (xD d)):=by
 obtain ⟨n,rfl⟩:=Int.eq_ofNat_of_zero_le h0
 exact hix n (by omega)
noncomputable def hx (x:Int):Str:=Builtin.Str.glued "" [xD (x / 268435456 % 16),xD (x / 16777216 % 16),xD (x / 1048576 % 16),xD (x / 65536 % 16),xD (x / 4096 % 16),xD (x / 256 % 16),xD (x / 16 % 16),xD (x % 16)]
noncomputable def wF (x:Int):Nat->Str
 | 0 => ""
 | n+1=>xD (x / 16 ^ n % 16)++wF x n
theorem Z7 (x:Int):∀ n,(wF x n).length=n
 | 0=>rfl
 | n+1=>by
  show (xD _++wF x n).length=_
  rw [xA,Z7 x n]
  show 1+n=n+1
  omega
noncomputable def jV:List Str->Str
 | [] => ""
 | a::r=>a++jV r
theorem TZ:("" : Str).cps=#[]:=by rfl
theorem Ou (a b:Str):(a++b).cps=a.cps++b.cps:=rfl
theorem Tj:∀ (ts:List Str) (a:Array Nat),ts.foldl (fun acc p=>acc++("" : Str).cps++p.cps) a=a++(jV ts).cps
 | [],a=>by
  show a=a++("" : Str).cps
  rw [TZ,Array.append_empty]
 | t::ts,a=>by
  rw [List.foldl_cons,Tj ts]
  show _=a++(t++jV ts).cps
  rw [Ou,TZ,Array.append_empty,Array.append_assoc]
theorem Le:∀ ts:List Str,Builtin.Str.glued "" ts=jV ts
 | []=>by
  show (⟨Str.empty.cps⟩:Str) = ""
  rfl
 | t::ts=>by
  have h:=Tj ts t.cps
  show (⟨ts.foldl (fun acc p=>acc++("" : Str).cps++p.cps) t.cps⟩:Str)=t++jV ts
  rw [h]
  rfl
theorem j_ (x:Int):wF x 8=hx x:=by
 have p7:(16:Int) ^ 7=268435456:=by decide
 have p6:(16:Int) ^ 6=16777216:=by decide
 have p5:(16:Int) ^ 5=1048576:=by decide
 have p4:(16:Int) ^ 4=65536:=by decide
 have p3:(16:Int) ^ 3=4096:=by decide
 have p2:(16:Int) ^ 2=256:=by decide
 have p1:(16:Int) ^ 1=16:=by decide
 have p0:(16:Int) ^ 0=1:=by decide
 unfold hx
 rw [Le]
 simp only [jV,wF,p7,p6,p5,p4,p3,p2,p1,p0,Int.ediv_one]
theorem QM {x:Int}:j5 [.int x]=some (false,.str (hx x)):=by
 obtain ⟨σ',e1,x2,rfl⟩:=qb (g:=zt 2) (b:=V0) (fun i σ=>∃ x2,σ=[some (false,.int (x / 16 ^ i)),some (false,.str (wF x i)),x2]) (ds:=xm 8) (σ:=[some (false,.int x),some (false,.str ""),none]) 0 ⟨none,by rw [Int.pow_zero,Int.ediv_one]; rfl⟩ (by
  rintro i v σ hv ⟨x2,rfl⟩
  obtain ⟨hi,rfl⟩:=pq hv
  rw [Nat.zero_add] at *
  refine ⟨_,[some (false,.int (x / 16 ^ (i+1))),some (false,.str (wF x (i+1))),some (false,.int (i:Int))],rfl,.inl ?_,_,rfl⟩
  have q:=M3 (d:=x / 16 ^ i % 16) (by omega) (by omega)
  have ad:=add_str (a:=xD (x / 16 ^ i % 16)) (b:=wF x i) (by rw [Z7]; show 1+i<=_; omega)
  have d1:x / 16 ^ (i+1)=x / 16 ^ i / 16:=by rw [Int.pow_succ,Int.ediv_ediv_of_nonneg (Int.le_of_lt (Int.pow_pos (by decide)))]
  have t1:wF x (i+1)=xD (x / 16 ^ i % 16)++wF x i:=rfl
  have fm:zr (.int (x / 16 ^ i)) (.int 16)=some (.int (x / 16 ^ i % 16)):=rfl
  have fd:yh (.int (x / 16 ^ i)) (.int 16)=some (.int (x / 16 ^ i / 16)):=rfl
  rw [d1,t1]
  unfold V0
  generalize wF x i=T at *
  generalize x / 16 ^ i=Y at *
  simp! [fm,q,ad,fd])
 rw [g4,Nat.zero_add,j_] at e1
 have r:v7 (eC (.int 0)) (eC (.int 8)) [some (false,.int x),some (false,.str ""),none]=some (xm 8):=rfl
 rw [Lj]
 unfold W4
 simp! [r,e1]
theorem Ch:∀ n:Nat,n<16->Builtin.Str.occurrences "0123456789abcdef" (xD (n:Int)) 0 ("0123456789abcdef" : Str).length 1=[n]:=by decide +kernel
theorem Ck {d:Int} (h0:0<=d) (h1:d<16):tR (.str (xD d)) (.str "0123456789abcdef")=some (.bl false)/\Zo (.str "0123456789abcdef") (.str (xD d))=some (.int d):=by
 obtain ⟨n,rfl⟩:=Int.eq_ofNat_of_zero_le h0
 have o:=Ch n (by omega)
 refine ⟨?_,?_⟩
 ·show (some (!(Builtin.Str.occurrences "0123456789abcdef" (xD (n:Int)) 0 ("0123456789abcdef" : Str).length 1).isEmpty)).bind _=_
  rw [o]
  rfl
 ·show (match Builtin.Str.occurrences "0123456789abcdef" (xD (n:Int)) 0 ("0123456789abcdef" : Str).length 1 with
   | i::_=>some (D.int (i:Int))
   | []=>none)=_
  rw [o]
noncomputable def Zb (z:Str):List D:=z.cps.toList.map fun c=>.str ⟨#[c]⟩
noncomputable def V (l:List Nat):List (List Nat):=(xt 32 l).filter fun p=>!p.isEmpty
theorem Ud (l:List Nat):V (32::l)=V l:=by
 unfold V
 rw [jx,if_pos rfl,List.filter_cons_of_neg (by decide)]
theorem Ue {g:List Nat} (h:∀ b∈g,b=32) (l:List Nat):V (g++l)=V l:=by
 induction g with
 | nil=>rfl
 | cons b g ih=>
  rw [h b List.mem_cons_self,List.cons_append,Ud,ih fun x hx=>h x (List.mem_cons_of_mem _ hx)]
theorem p9 {w:List Nat} (hn:w≠[]) (h:32 ∉ w) (l:List Nat):V (w++32::l)=w::V l:=by
 unfold V
 rw [Yp,Z4 h,List.singleton_append,List.filter_cons_of_pos (by
  cases w with
  | nil=>exact absurd rfl hn
  | cons _ _=>rfl)]
theorem O9 {w:List Nat} (hn:w≠[]) (h:32 ∉ w):V w=[w]:=by
 unfold V
 rw [Z4 h,List.filter_cons_of_pos (by
  cases w with
  | nil=>exact absurd rfl hn
  | cons _ _=>rfl)]
 rfl
noncomputable def sD (l:List Nat):D:=.str ⟨l.toArray⟩
theorem ku (z:Str):sD z.cps.toList=.str z:=by
 obtain ⟨⟨l⟩⟩:=z
 rfl
inductive LT:List (List Nat)->Nat->List Int->Prop
 | nil {n:Nat}:LT [] n []
 | skip {l:List Nat} {ps:List (List Nat)} {n:Nat} {ws:List Int}:V l=[]->LT ps n ws->LT (l::ps) n ws
 | one {l:List Nat} {r ps:List (List Nat)} {n:Nat} {w:Int} {ws:List Int}:V l=(zN (n:Int)).cps.toList::(hx w).cps.toList::r->0<=w->w<4294967296->LT ps (n+1) ws->LT (l::ps) n (w::ws)
theorem L9:∀ n:Nat,n<16->∀ c∈(xD (n:Int)).cps.toList,c≠32/\c≠10:=by decide +kernel
theorem Ic (x:Int):∀ (n c:Nat),c∈(wF x n).cps.toList->c≠32/\c≠10
 | 0,c,h=>by
  have h:c∈([]:List Nat):=h
  cases h
 | n+1,c,h=>by
  have h:c∈(xD (x / 16 ^ n % 16)).cps.toList++(wF x n).cps.toList:=by rw [<- uG]; exact h
  rcases List.mem_append.mp h with q | q
  ·have d0:0<=x / 16 ^ n % 16:=by omega
   have d1:x / 16 ^ n % 16<16:=by omega
   generalize x / 16 ^ n % 16=d at *
   obtain ⟨k,rfl⟩:=Int.eq_ofNat_of_zero_le d0
   exact L9 k (by omega) c q
  ·exact Ic x n c q
theorem Wv (x:Int):(hx x).cps.toList≠[]/\∀ c∈(hx x).cps.toList,c≠32/\c≠10:=by
 rw [<- j_]
 refine ⟨fun z=>?_,Ic x 8⟩
 have:=congrArg List.length z
 rw [Array.length_toList] at this
 exact absurd ((Z7 x 8).symm.trans this) (by decide)
theorem gc {n:Int} (h:0<=n):(zN n).cps.toList≠[]/\∀ c∈(zN n).cps.toList,c≠32/\c≠10:=by
 rw [Zd h]
 obtain ⟨a,b,_⟩:=WV n.toNat
 exact ⟨a,fun c hc=>by have:=b c hc; omega⟩
theorem O8 {g d b h r:List Nat} (hg:∀ x∈g,x=32) (dn:d≠[]) (d3:32 ∉ d) (bn:b≠[]) (hb:∀ x∈b,x=32) (hn:h≠[]) (h3:32 ∉ h) (hr:r=[]\/∃ q,r=32::q):∃ q,V (g++(d++(b++(h++r))))=d::h::q:=by
 cases b with
 | nil=>exact absurd rfl bn
 | cons y b=>
  cases hb y List.mem_cons_self
  rw [Ue hg,List.cons_append,p9 dn d3,Ue fun x hx=>hb x (List.mem_cons_of_mem _ hx)]
  rcases hr with rfl | ⟨q,rfl⟩
  ·rw [List.append_nil,O9 hn h3]
   exact ⟨_,rfl⟩
  ·rw [p9 hn h3]
   exact ⟨_,rfl⟩
theorem ui {a b:Str} (h:a.length+b.length<=16777216):zR (.str a) (.str b)=some (.str (a++b)):=by
 show (if a.length+b.length<=yA then _ else _)=_
 rw [if_pos h]
theorem Q2 (x:Int):(hx x).length=8:=by rw [<- j_,Z7]
noncomputable def YC:FS:=(zG (kq (zV vI (z8 (z7 0) (z8 (z7 2) zC))) (jX 3 4 5))
    (zG (xX 1 xJ (yC (z8 (eL vo (z8 (z7 2) zC)) (z8 (zV j5 (z8 (e2 zF (z7 0) (z7 2)) zC)) (z8 (zV qw (z8 (z7 3) (z8 (z7 5) zC))) zC)))))
    (zG (zY (tE (e2 (yW fun i j=>decide (j<i)) (z7 4) (e2 zR (z7 2) (eC (.int 1)))))
     (xX 1 xJ (yC (z8 (eL vo (z8 (e2 zR (z7 2) (eC (.int 1))) zC)) (z8 (zV j5 (z8 (e2 zF (z7 0) (e2 zR (z7 2) (eC (.int 1)))) zC)) (z8 (eC (.str "")) zC)))))
     zm)
    (zP 2 (z7 4)))))
noncomputable def ZY:FT:=(tE (e2 (yW fun i j=>decide (i<j)) (z7 2) (eL yz (z8 (z7 0) zC))))
noncomputable def W7:FS:=
 (zG (vB 1 (yC zC))
  (zG (zP 2 (eC (.int 0)))
  (zG (Yb ZY
   YC)
  (t8 1))))
noncomputable def gC:List D->Option (Bool×D):=FR 1 6 W7
theorem Lm (x0:D):gC [x0]=yP 6 W7 [x0]:=rfl
section
variable (rows:List D) (far:List Nat)
noncomputable def zT (i:Nat):Str:=match qw [ul rows i,tA (zK (zE far)) (uW rows i)] with
 | some (_,.str z)=>z
 | _ => ""
noncomputable def pU (i:Nat):List (Int×Str):=(zK (zE far) i,zT rows far i)::(bif zE far i then [(zK (zE far) i+1, "")] else [])
noncomputable def yV:Nat->List (Int×Str)
 | 0=>[]
 | n+1=>yV n++pU rows far n
end
section
variable {rows:List D} {far:List Nat} (W:Wr rows far)
include W
theorem C8 {i:Nat} (hi:i<rows.length):∀ m∈xW rows far i,0<=m/\m<4294967296:=by
 have h:=W.one hi
 unfold xW
 cases hj:yi (rows.getD i .non) with
 | false=>
  intro m hm
  obtain ⟨w,_⟩:=h.pl hj
  cases List.mem_singleton.mp hm
  exact ⟨w.v0,w.v1⟩
 | true=>
  obtain ⟨w,_⟩:=h.jm hj
  have c0:=w.c0
  have c1:=w.c1
  have m0:=w.m0
  have m1:=w.m1
  intro m hm
  unfold qA at hm
  cases hF:zE far i with
  | true=>
   rw [hF] at hm
   rcases List.mem_cons.mp hm with rfl | hm
   ·omega
   ·cases List.mem_singleton.mp hm
    omega
  | false=>
   rw [hF] at hm
   cases List.mem_singleton.mp hm
   omega
theorem VX:∀ {n:Nat},n<=rows.length->∀ m∈yD rows far n,0<=m/\m<4294967296
 | 0,_,m,hm=>by cases hm
 | n+1,h,m,hm=>by
  rcases List.mem_append.mp hm with q | q
  ·exact VX (by omega) m q
  ·exact C8 W (by omega) m q
theorem UO {i:Nat} (hi:i<rows.length):Tx (ul rows i) (tA (zK (zE far)) (uW rows i)) (zT rows far i):=by
 have:∃ z,Tx (ul rows i) (tA (zK (zE far)) (uW rows i)) z:=by
  have eg:rows.getD i .non=rows[i]:=by rw [List.getD_eq_getElem?_getD,List.getElem?_eq_getElem hi]; rfl
  have hR:w4 (rows.length:Int) (rows.getD i .non):=by rw [eg]; exact W.hr _ (List.getElem_mem hi)
  unfold ul uW
  cases hj:yi (rows.getD i .non) with
  | false=>
   rcases hR with h | h
   ·exact D_ h
   ·obtain ⟨_,_,_,_,_,z,_⟩:=uN h
    rw [z] at hj
    cases hj
  | true=>
   obtain ⟨_,p1,_⟩:=(W.one hi).jm hj
   have a:=uj (zE far) (xj (rows.getD i .non))
   have:=W.hn
   rcases hR with h | h
   ·obtain ⟨_,_,_,_,z,_⟩:=tm h
    rw [z] at hj
    cases hj
   ·exact MX h (a:=zK (zE far) (xj (rows.getD i .non))) a.1 (by omega)
 obtain ⟨z,h⟩:=this
 have e:zT rows far i=z:=by unfold zT; rw [h.lw]
 rw [e]
 exact h
theorem Mj {i:Nat} (hi:i<rows.length):vI [.lst ((yD rows far rows.length).map D.int),.int (zK (zE far) i)]=some (false,.tup [ul rows i,.int (zK (zE far) (i+1)),tA (zK (zE far)) (uW rows i)]):=by
 obtain ⟨r,h1,h2,_⟩:=OH (VX W (Nat.le_refl _)) (zK (zE far) i)
 have:=W.tb.told i hi
 rw [h1] at this
 rw [h2]
 exact this
omit W in
theorem Xx (i:Nat):zK (zE far) (i+1)=zK (zE far) i+(if zE far i then 2 else 1):=rfl
theorem YH:∀ {n:Nat},n<=rows.length->(yV rows far n).map (·.1)=(List.range (zK (zE far) n).toNat).map fun k:Nat=>(k:Int)
 | 0,_=>rfl
 | n+1,h=>by
  have ih:=YH (n:=n) (by omega)
  have a:=uj (zE far) n
  show (yV rows far n++pU rows far n).map (·.1)=_
  rw [List.map_append,ih,Xx]
  unfold pU
  cases zE far n with
  | true=>
   rw [if_pos rfl,show (zK (zE far) n+2).toNat=(zK (zE far) n).toNat+1+1 by omega,List.range_succ,List.range_succ,List.map_append,List.map_append,List.append_assoc]
   congr 1
   show [zK (zE far) n,zK (zE far) n+1]=[(((zK (zE far) n).toNat:Nat):Int),(((zK (zE far) n).toNat+1:Nat):Int)]
   rw [show (((zK (zE far) n).toNat:Nat):Int)=zK (zE far) n by omega,show (((zK (zE far) n).toNat+1:Nat):Int)=zK (zE far) n+1 by omega]
  | false=>
   rw [if_neg (by decide),show (zK (zE far) n+1).toNat=(zK (zE far) n).toNat+1 by omega,List.range_succ,List.map_append]
   congr 1
   show [zK (zE far) n]=[(((zK (zE far) n).toNat:Nat):Int)]
   rw [show (((zK (zE far) n).toNat:Nat):Int)=zK (zE far) n by omega]
theorem V5 {k:Nat} {p:Int×Str} (h:(yV rows far rows.length)[k]?=some p):p.1=(k:Int)/\k<(yD rows far rows.length).length/\k<128:=by
 have e:=YH W (Nat.le_refl rows.length)
 have l:=W.len (Nat.le_refl rows.length)
 have a:=uj (zE far) rows.length
 have hn:=W.hn
 have g:((yV rows far rows.length).map (·.1))[k]?=some p.1:=by rw [List.getElem?_map,h]; rfl
 rw [e,List.getElem?_map] at g
 have hk:k<(zK (zE far) rows.length).toNat:=by
  cases z:(List.range (zK (zE far) rows.length).toNat)[k]? with
  | none=>rw [z] at g; cases g
  | some y=>
   have:=(List.getElem?_eq_some_iff.mp z).1
   rw [List.length_range] at this
   exact this
 rw [List.getElem?_range hk] at g
 exact ⟨(Option.some.inj g).symm,by omega,by omega⟩
theorem QT:(yV rows far rows.length).length=(yD rows far rows.length).length:=by
 have e:=congrArg List.length (YH W (Nat.le_refl rows.length))
 have l:=W.len (Nat.le_refl rows.length)
 rw [List.length_map,List.length_map,List.length_range] at e
 omega
omit W in
theorem V6:∀ {n:Nat} {p:Int×Str},p∈yV rows far n->∃ i,i<n/\(p=(zK (zE far) i,zT rows far i)\/zE far i=true/\p=(zK (zE far) i+1,("" : Str)))
 | 0,p,h=>by cases h
 | n+1,p,h=>by
  rcases List.mem_append.mp h with q | q
  ·obtain ⟨i,hi,e⟩:=V6 q
   exact ⟨i,by omega,e⟩
  ·rcases List.mem_cons.mp q with rfl | q
   ·exact ⟨n,by omega,.inl rfl⟩
   ·cases hF:zE far n with
    | true=>
     rw [hF] at q
     cases List.mem_singleton.mp q
     exact ⟨n,by omega,.inr ⟨hF,rfl⟩⟩
    | false=>
     rw [hF] at q
     cases q
end
noncomputable def WD:FS:=
 (zG (zP 1 (e2 zF (zV gA (z8 (z7 0) zC)) (eC (.int 0))))
  (zG (zP 2 (zV wd (z8 (z7 0) (z8 (eC (.int 2)) zC))))
  (za (zV gJ (z8 (z7 1) (z8 (zV g9 (z8 (z7 1) (z8 (z7 2) (z8 (e2 zr (z7 2) (eC (.int 3))) zC)))) zC))))))
noncomputable def gI:List D->Option (Bool×D):=FR 1 3 WD
theorem Lv (x0:D):gI [x0]=yP 3 WD [x0]:=rfl
section
variable {rows:List D} {far:List Nat}
noncomputable def wA (rows:List D) (far:List Nat) (a:Int):Int:=(yD rows far rows.length).getD a.toNat 0
noncomputable def yw (rows:List D) (far:List Nat) (p:Int×Str):D:=.lst [.str (zN p.1),.str (hx (wA rows far p.1)),.str p.2]
variable (W:Wr rows far)
include W
theorem OO {k:Nat} (hk:k<(yD rows far rows.length).length):zF (.lst ((yD rows far rows.length).map D.int)) (.int (k:Int))=some (.int (wA rows far (k:Int))):=by
 refine vh (by omega) ?_
 rw [Int.toNat_natCast,List.getElem?_map,List.getElem?_eq_getElem hk]
 unfold wA
 rw [Int.toNat_natCast,List.getD_eq_getElem?_getD,List.getElem?_eq_getElem hk]
 rfl
theorem Ul {a:Int} (h0:0<=a) (h1:a<zK (zE far) rows.length):zF (.lst ((yD rows far rows.length).map D.int)) (.int a)=some (.int (wA rows far a)):=by
 obtain ⟨k,rfl⟩:=Int.eq_ofNat_of_zero_le h0
 have:=W.len (Nat.le_refl rows.length)
 exact OO W (by omega)
theorem Mu {i:Nat} (hi:i<rows.length) (x3 x4 x5:Option Sl):∃ y3 y4 y5,YC [some (false,.lst ((yD rows far rows.length).map D.int)),some (true,.lst ((yV rows far i).map (yw rows far))),some (false,.int (zK (zE far) i)),x3,x4,x5]=some (.nx [some (false,.lst ((yD rows far rows.length).map D.int)),some (true,.lst ((yV rows far (i+1)).map (yw rows far))),some (false,.int (zK (zE far) (i+1))),y3,y4,y5]):=by
 have e1:=Mj W hi
 have tx:=UO W hi
 have a0:=uj (zE far) i
 have hn:=W.hn
 have lt:=W.tb.lt (i:=i) (j:=rows.length) hi (Nat.le_refl _)
 have w0:=Ul W a0.1 lt
 have s0:=str_int (pP a0.1 (by omega))
 have h0:=QM (x:=wA rows far (zK (zE far) i))
 have ll:(yV rows far i).length<=200:=by
  have e:=congrArg List.length (YH W (n:=i) (by omega))
  rw [List.length_map,List.length_map,List.length_range] at e
  omega
 have p0:=wz (L:=(yV rows far i).map (yw rows far)) (r:=yw rows far (zK (zE far) i,zT rows far i)) (by rw [List.length_map]; omega)
 refine ⟨some (false,ul rows i),some (false,.int (zK (zE far) (i+1))),some (false,tA (zK (zE far)) (uW rows i)),?_⟩
 have lw:=tx.lw
 have ap1:∀ σ:zz,kq (zV vI (z8 (z7 0) (z8 (z7 2) zC))) (jX 3 4 5) σ=((zV vI (z8 (z7 0) (z8 (z7 2) zC))) σ).bind fun d=>(jX 3 4 5 d σ).bind fun σ'=>some (.nx σ'):=fun _=>rfl
 have g3:∀ (a b c:D) (σ:zz),jX 3 4 5 (.tup [a,b,c]) σ=some (((σ.set 3 (some (false,a))).set 4 (some (false,b))).set 5 (some (false,c))):=fun _ _ _ _=>rfl
 unfold YC
 cases hF:zE far i with
 | false=>
  have ad:zK (zE far) (i+1)=zK (zE far) i+1:=by rw [Xx,hF]; rfl
  have al:(yV rows far (i+1)).map (yw rows far)=(yV rows far i).map (yw rows far)++[yw rows far (zK (zE far) i,zT rows far i)]:=by
   show (yV rows far i++pU rows far i).map (yw rows far)=_
   unfold pU
   rw [hF,List.map_append]
   rfl
  have c:decide (zK (zE far) i+1<zK (zE far) i+1)=false:=decide_eq_false (by omega)
  rw [al]
  rw [ad] at e1 ⊢
  have ld:yw rows far (zK (zE far) i,zT rows far i)=.lst [.str (zN (zK (zE far) i)),.str (hx (wA rows far (zK (zE far) i))),.str (zT rows far i)]:=rfl
  rw [ld] at p0 ⊢
  generalize (yV rows far i).map (yw rows far)=LL at *
  generalize (yD rows far rows.length).map D.int=WW at *
  generalize tA (zK (zE far)) (uW rows i)=TT at *
  generalize ul rows i=BB at *
  generalize zT rows far i=ZZ at *
  generalize wA rows far (zK (zE far) i)=XX at *
  generalize zK (zE far) i=AA at *
  simp! [ap1,e1,g3,s0,w0,h0,lw,p0,add_int,c]
 | true=>
  have ad:zK (zE far) (i+1)=zK (zE far) i+2:=by rw [Xx,hF]; rfl
  have al:(yV rows far (i+1)).map (yw rows far)=(yV rows far i).map (yw rows far)++[yw rows far (zK (zE far) i,zT rows far i)]++[yw rows far (zK (zE far) i+1, "")]:=by
   show (yV rows far i++pU rows far i).map (yw rows far)=_
   unfold pU
   rw [hF,List.map_append,List.append_assoc]
   rfl
  have lt1:zK (zE far) i+1<zK (zE far) rows.length:=by
   have:=W.tb.up i hi
   by_cases e:i+1=rows.length
   ·rw [<- e]; omega
   ·have:=W.tb.lt (i:=i+1) (j:=rows.length) (by omega) (Nat.le_refl _)
    omega
  have w1:=Ul W (a:=zK (zE far) i+1) (by omega) lt1
  have s1:=str_int (pP (n:=zK (zE far) i+1) (by omega) (by omega))
  have h1:=QM (x:=wA rows far (zK (zE far) i+1))
  have p1:=wz (L:=(yV rows far i).map (yw rows far)++[yw rows far (zK (zE far) i,zT rows far i)]) (r:=yw rows far (zK (zE far) i+1, "")) (by rw [List.length_append,List.length_map]; show _+1<=_; omega)
  have c:decide (zK (zE far) i+1<zK (zE far) i+2)=true:=decide_eq_true (by omega)
  rw [al]
  rw [ad] at e1 ⊢
  have ld:yw rows far (zK (zE far) i,zT rows far i)=.lst [.str (zN (zK (zE far) i)),.str (hx (wA rows far (zK (zE far) i))),.str (zT rows far i)]:=rfl
  have ld1:yw rows far (zK (zE far) i+1, "")=.lst [.str (zN (zK (zE far) i+1)),.str (hx (wA rows far (zK (zE far) i+1))),.str ""]:=rfl
  rw [ld] at p0 p1 ⊢
  rw [ld1] at p1 ⊢
  generalize (yV rows far i).map (yw rows far)=LL at *
  generalize (yD rows far rows.length).map D.int=WW at *
  generalize tA (zK (zE far)) (uW rows i)=TT at *
  generalize ul rows i=BB at *
  generalize zT rows far i=ZZ at *
  generalize wA rows far (zK (zE far) i)=XX at *
  generalize wA rows far (zK (zE far) i+1)=XY at *
  generalize zK (zE far) i=AA at *
  simp! [ap1,e1,g3,s0,w0,h0,lw,p0,add_int,c,s1,w1,h1,p1]
theorem QU:∀ (k i:Nat) (x3 x4 x5:Option Sl),i+k=rows.length->∃ y3 y4 y5,vE ZY YC (k+1) [some (false,.lst ((yD rows far rows.length).map D.int)),some (true,.lst ((yV rows far i).map (yw rows far))),some (false,.int (zK (zE far) i)),x3,x4,x5]=some (.nx [some (false,.lst ((yD rows far rows.length).map D.int)),some (true,.lst ((yV rows far rows.length).map (yw rows far))),some (false,.int (zK (zE far) rows.length)),y3,y4,y5])
 | 0,i,x3,x4,x5,h=>by
  have e:i=rows.length:=by omega
  subst e
  refine ⟨x3,x4,x5,Ix ?_⟩
  have l:=W.len (Nat.le_refl rows.length)
  have c:decide (zK (zE far) rows.length<(((yD rows far rows.length).map D.int).length:Int))=false:=decide_eq_false (by rw [List.length_map]; omega)
  unfold ZY
  generalize (yV rows far rows.length).map (yw rows far)=LL at *
  generalize (yD rows far rows.length).map D.int=WW at *
  simp! [c]
 | k+1,i,x3,x4,x5,h=>by
  have hi:i<rows.length:=by omega
  obtain ⟨y3,y4,y5,st⟩:=Mu W hi x3 x4 x5
  obtain ⟨z3,z4,z5,go⟩:=QU k (i+1) y3 y4 y5 (by omega)
  refine ⟨z3,z4,z5,?_⟩
  rw [Iy ?_ st]
  ·exact go
  ·have l:=W.len (Nat.le_refl rows.length)
   have lt:=W.tb.lt (i:=i) (j:=rows.length) hi (Nat.le_refl _)
   have c:decide (zK (zE far) i<(((yD rows far rows.length).map D.int).length:Int))=true:=decide_eq_true (by rw [List.length_map]; omega)
   unfold ZY
   generalize (yV rows far i).map (yw rows far)=LL at *
   generalize (yD rows far rows.length).map D.int=WW at *
   simp! [c]
theorem Mm:gC [.lst ((yD rows far rows.length).map D.int)]=some (true,.lst ((yV rows far rows.length).map (yw rows far))):=by
 obtain ⟨y3,y4,y5,lp⟩:=QU W rows.length 0 none none none (Nat.zero_add _)
 have lp:=Jr (rows.length+1) lp (by have:=W.hn; show _<=100000000; omega)
 have z0:zK (zE far) 0=0:=rfl
 have l0:(yV rows far 0).map (yw rows far)=[]:=rfl
 rw [z0,l0] at lp
 rw [Lm]
 unfold W7
 generalize (yV rows far rows.length).map (yw rows far)=LL at *
 generalize (yD rows far rows.length).map D.int=WW at *
 simp! [lp]
end
section
variable {rows:List D} {far:List Nat} (W:Wr rows far)
include W
theorem yF {k:Nat} {p:Int×Str} (h:(yV rows far rows.length)[k]?=some p):p.2.length<=7000:=by
 obtain ⟨i,hi,e | ⟨_,e⟩⟩:=V6 (List.mem_of_getElem? h)
 ·rw [e]; exact (UO W hi).ln
 ·rw [e]; show ("" : Str).length<=7000; decide
theorem OG:(yV rows far rows.length).length<=126:=by
 have:=QT W
 have:=W.len (Nat.le_refl rows.length)
 have:=uj (zE far) rows.length
 have:=W.hn
 omega
theorem G9 {k:Nat} {p:Int×Str} (h:(yV rows far rows.length)[k]?=some p):NL p.2:=by
 obtain ⟨i,hi,e | ⟨_,e⟩⟩:=V6 (List.mem_of_getElem? h)
 ·rw [e]; exact (UO W hi).nl
 ·rw [e]; show NL ""; decide +kernel
theorem Es {k:Nat} (h:k<(yD rows far rows.length).length):0<=wA rows far (k:Int)/\wA rows far (k:Int)<4294967296:=by
 have e:wA rows far (k:Int)=(yD rows far rows.length)[k]:=by
  unfold wA
  rw [Int.toNat_natCast,List.getD_eq_getElem?_getD,List.getElem?_eq_getElem h]
  rfl
 rw [e]
 exact VX W (Nat.le_refl _) _ (List.getElem_mem h)
end
noncomputable def uO:yr:=(vF (tE (e2 tR (z7 2) (eC (.str "0123456789abcdef")))) (z8 (vn (xh (e1 gk (z7 2)) (xh (eC (.str " is no sign of a word")) uu))) zC) "BadNumber"
     (qB (zP 1 (e2 zR (e2 uK (z7 1) (eC (.int 16))) (e2 Zo (eC (.str "0123456789abcdef")) (z7 2))))))
noncomputable def ZU:yr:=
 (vF (tE (e2 yd (eL yz (z8 (z7 0) zC)) (eL yz (z8 (eC kA) zC)))) (z8 (vn (xh (e1 gk (z7 0)) (xh (eC (.str " is not of eight signs")) uu))) zC) "BadNumber"
  (uX (zP 1 (eC (.int 0)))
   (wo (py (wg (z7 0)) (zt 2) uO)
    (qB (za (z7 1))))))
noncomputable def jA:FX:=g8 1 3 ZU
theorem Ty (x0:D):jA [x0]=wX 3 ZU [x0]:=rfl
noncomputable def ZX:yr:=
 (vF (vC (tE (e2 (yW fun i j=>decide (i<j)) (eL yz (z8 (z7 0) zC)) (eC (.int 2)))) (tE (e2 yd (e2 zF (z7 0) (eC (.int 0))) (eL vo (z8 (z7 1) zC))))) (z8 (vn (xh (eC (.str "row ")) (xh (e1 pJ (z7 1)) (xh (eC (.str " does not begin with its number and a word")) uu)))) zC) "BadText"
  (wo (X6 "BadNumber" "BadText" jA (z8 (e2 zF (z7 0) (eC (.int 1))) zC) (z8 (vn (xh (eC (.str "row ")) (xh (e1 pJ (z7 1)) (xh (eC (.str " has no word of eight signs")) uu)))) zC))
   qr))
noncomputable def jD:FX:=g8 2 2 ZX
theorem Q0 (x0 x1:D):jD [x0,x1]=wX 2 ZX [x0,x1]:=rfl
noncomputable def UV:FE:=(z7 4)
noncomputable def XC:FT:=(tE (e2 yd (z7 4) (eC (.str ""))))
noncomputable def uP:yr:=(uX (zP 3 (wD 1 (wg (e2 qU (z7 2) (eC (.str " ")))) (zt 4) XC UV))
    (wo (Z8 (tE (e2 yd (z7 3) (yC zC))) (wo (X5 1 jD (z8 (z7 3) (z8 (eL yz (z8 (w_ 1) zC)) zC)))
      qr) qr)
     qr))
noncomputable def ZV:yr:=
 (uX (vB 1 (yC zC))
  (wo (py (wg (e2 qU (z7 0) (eC (.str "\n")))) (zt 2) uP)
   (qB (t8 1))))
noncomputable def uE:FX:=g8 1 4 ZV
theorem Tz (x0:D):uE [x0]=wX 4 ZV [x0]:=rfl
theorem xi (z:Str):z.cps.toList.length=z.length:=Array.length_toList
theorem jC {f:FE} {r:FJ} {σ:zz} {acc y:Str} (h:f σ=some (.str y)) (l:(acc++y).length<=16777216):xh f r σ acc=r σ (acc++y):=by
 show (f σ).bind _=_
 rw [h]
 exact if_pos l
theorem Tl {σ:zz} {n:Int} {A B:Str} {f:FE} (hf:f σ=some (.str (zN n))) (hn:wP n=true) (hA:A.length<=100) (hB:B.length<=100):∃ z,vn (xh (eC (.str A)) (xh f (xh (eC (.str B)) uu))) σ=some (.str z):=by
 have l:=gb hn
 have ee:Str.empty++A=A:=Zh A
 unfold vn
 rw [jC (y:=A) rfl (by rw [ee]; omega),ee,jC hf (by rw [xA]; omega),jC (y:=B) rfl (by rw [xA,xA]; omega)]
 exact ⟨_,rfl⟩
theorem Tm {σ:zz} {y B:Str} {f:FE} (hf:f σ=some (.str y)) (hy:y.length<=20) (h1:∀ c∈y.cps.toList,c<128) (hB:B.length<=100):∃ z,vn (xh (e1 gk f) (xh (eC (.str B)) uu)) σ=some (.str z):=by
 have rl:=StrLaws.reprText_len y fun c hc=>Nat.lt_trans (h1 c hc) (by decide)
 have ee:Str.empty++reprText y=reprText y:=Zh _
 have fr:e1 gk f σ=some (.str (reprText y)):=by
  show (f σ).bind _=_
  rw [hf]
  exact if_pos (by omega)
 unfold vn
 rw [jC fr (by rw [ee]; omega),ee,jC (y:=B) rfl (by rw [xA]; omega)]
 exact ⟨_,rfl⟩
theorem Jb (T:D) (x:Int):∀ (n:Nat) (y:Option Sl),∃ y',tX (zt 2) uO (Zb (wF x n)) [some (false,T),some (false,.int (x / 16 ^ n)),y]=some (.inl (.nx [some (false,T),some (false,.int x),y']))
 | 0,y=>⟨y,by rw [Int.pow_zero,Int.ediv_one]; rfl⟩
 | n+1,y=>by
  obtain ⟨y',ih⟩:=Jb T x n (some (false,.str (xD (x / 16 ^ n % 16))))
  refine ⟨y',?_⟩
  obtain ⟨q1,q2⟩:=Ck (d:=x / 16 ^ n % 16) (by omega) (by omega)
  have ec:Zb (wF x (n+1))=.str (xD (x / 16 ^ n % 16))::Zb (wF x n):=by
   show ((xD (x / 16 ^ n % 16)++wF x n).cps.toList.map fun c=>D.str ⟨#[c]⟩)=_
   rw [uG]
   rfl
  have d1:x / 16 ^ (n+1)=x / 16 ^ n / 16:=by rw [Int.pow_succ,Int.ediv_ediv_of_nonneg (Int.le_of_lt (Int.pow_pos (by decide)))]
  have st:uO [some (false,T),some (false,.int (x / 16 ^ (n+1))),some (false,.str (xD (x / 16 ^ n % 16)))]=some (.inl (.nx [some (false,T),some (false,.int (x / 16 ^ n)),some (false,.str (xD (x / 16 ^ n % 16)))])):=by
   rw [d1]
   have l16:xq 16=true:=by decide
   have g:∀ m:Int,m / 16*16+m % 16=m:=fun m=>by omega
   unfold uO
   generalize x / 16 ^ n=Y at *
   simp! [vF,qB,q1,q2,l16,add_int,g]
  rw [ec]
  show (uO [some (false,T),some (false,.int (x / 16 ^ (n+1))),some (false,.str (xD (x / 16 ^ n % 16)))]).bind _=_
  rw [st]
  exact ih
theorem C3 {x:Int} (h0:0<=x) (h1:x<4294967296):jA [.str (hx x)]=some (.inl (false,.int x)):=by
 have hz:x / 16 ^ 8=0:=by
  have p:(16:Int) ^ 8=4294967296:=by decide
  rw [p]
  omega
 obtain ⟨y',e⟩:=Jb (.str (hx x)) x 8 none
 rw [hz,j_] at e
 have l:(hx x).length=8:=by rw [<- j_,Z7]
 have n:yd (.int ((hx x).length:Int)) (.int ((8:Nat):Int))=some (.bl false):=by rw [l]; rfl
 have gl:kA=.tup gz:=rfl
 have ll:gz.length=8:=rfl
 rw [Ty]
 unfold ZU
 unfold Zb at e
 simp! [wX,vF,uX,wo,py,qB,gl,ll,n,e]
noncomputable def XE (z:Str):Prop:=z.length<=20/\(∀ c∈z.cps.toList,c<128)/\(z.length≠8\/∃ c∈z.cps.toList,c=65\/c=103\/c=45)
theorem BN:∀ c∈[65,103,45],Builtin.Str.occurrences "0123456789abcdef" ⟨#[c]⟩ 0 ("0123456789abcdef" : Str).length 1=[]:=by decide +kernel
theorem BO {c:Nat} (h:c=65\/c=103\/c=45):tR (.str ⟨#[c]⟩) (.str "0123456789abcdef")=some (.bl true):=by
 have o:=BN c (by rcases h with rfl | rfl | rfl<;>simp)
 show (some (!(Builtin.Str.occurrences "0123456789abcdef" ⟨#[c]⟩ 0 ("0123456789abcdef" : Str).length 1).isEmpty)).bind _=_
 rw [o]
 rfl
theorem Uq (T:D):∀ {l:List Nat} {w:Int} {y:Option Sl},(∀ c∈l,c<128)->(∃ c∈l,c=65\/c=103\/c=45)->tX (zt 2) uO (l.map fun c=>D.str ⟨#[c]⟩) [some (false,T),some (false,.int w),y]=some (.inr "BadNumber")
 | [],_,_,_,h=>by
  obtain ⟨c,hc,_⟩:=h
  cases hc
 | c::l,w,y,ha,h=>by
  show (uO [some (false,T),some (false,.int w),some (false,.str ⟨#[c]⟩)]).bind _=_
  have fi:tR (.str ⟨#[c]⟩) (.str "0123456789abcdef")=some (.bl (!(!(Builtin.Str.occurrences "0123456789abcdef" ⟨#[c]⟩ 0 ("0123456789abcdef" : Str).length 1).isEmpty))):=rfl
  have rs:∀ b,tR (.str ⟨#[c]⟩) (.str "0123456789abcdef")=some (.bl b)->b=true->uO [some (false,T),some (false,.int w),some (false,.str ⟨#[c]⟩)]=some (.inr "BadNumber"):=fun b q hb=>by
   subst hb
   obtain ⟨z,ez⟩:=Tm (σ:=[some (false,T),some (false,.int w),some (false,.str ⟨#[c]⟩)]) (f:=z7 2) (y:=⟨#[c]⟩) (B := " is no sign of a word") rfl (by show 1<=20; decide) (fun d hd=>by
    cases List.mem_singleton.mp (show d∈[c] from hd)
    exact ha c List.mem_cons_self) (by decide)
   have l1:([D.str z]:List D).length<=1000:=by show 1<=1000; decide
   unfold uO
   generalize (⟨#[c]⟩:Str)=cc at *
   simp! [vF,q,ez,if_pos l1]
   rfl
  cases ho:Builtin.Str.occurrences "0123456789abcdef" ⟨#[c]⟩ 0 ("0123456789abcdef" : Str).length 1 with
  | nil=>
   rw [ho] at fi
   rw [rs _ fi rfl]
   rfl
  | cons i r=>
   rw [ho] at fi
   have fi:tR (.str ⟨#[c]⟩) (.str "0123456789abcdef")=some (.bl false):=fi
   have ix:Zo (.str "0123456789abcdef") (.str ⟨#[c]⟩)=some (.int (i:Int)):=by
    show (match Builtin.Str.occurrences "0123456789abcdef" ⟨#[c]⟩ 0 ("0123456789abcdef" : Str).length 1 with
     | i::_=>some (D.int (i:Int))
     | []=>none)=_
    rw [ho]
   have l16:xq 16=true:=by decide
   have st:uO [some (false,T),some (false,.int w),some (false,.str ⟨#[c]⟩)]=some (.inl (.nx [some (false,T),some (false,.int (w*16+(i:Int))),some (false,.str ⟨#[c]⟩)])):=by
    unfold uO
    generalize (⟨#[c]⟩:Str)=cc at *
    simp! [vF,qB,fi,ix,l16,add_int]
   rw [st]
   refine Uq T (fun d hd=>ha d (List.mem_cons_of_mem _ hd)) ?_
   obtain ⟨d,hd,hb⟩:=h
   rcases List.mem_cons.mp hd with rfl | hd
   ·have:=(BO hb).symm.trans fi
    cases this
   ·exact ⟨d,hd,hb⟩
theorem C5 {z:Str} (h:XE z):jA [.str z]=some (.inr "BadNumber"):=by
 obtain ⟨hl,ha,hb⟩:=h
 have gl:kA=.tup gz:=rfl
 have ll:gz.length=8:=rfl
 rw [Ty]
 unfold ZU
 by_cases h8:z.length=8
 ·have n:yd (.int (z.length:Int)) (.int ((8:Nat):Int))=some (.bl false):=by rw [h8]; rfl
  have e:=Uq (.str z) (w:=0) (y:=none) ha (hb.resolve_left fun q=>q h8)
  simp! [wX,vF,uX,wo,py,qB,gl,ll,n,e]
 ·have n:yd (.int (z.length:Int)) (.int ((8:Nat):Int))=some (.bl true):=by
   show some (D.bl (!((z.length:Int) == ((8:Nat):Int))))=_
   rw [show ((z.length:Int) == ((8:Nat):Int))=false from beq_eq_false_iff_ne.mpr (by omega)]
   rfl
  obtain ⟨q,ez⟩:=Tm (σ:=[some (false,.str z),none,none]) (f:=z7 0) (y:=z) (B := " is not of eight signs") rfl hl ha (by decide)
  have l1:([D.str q]:List D).length<=1000:=by show 1<=1000; decide
  simp! [wX,vF,gl,ll,n,ez,if_pos l1]
  rfl
theorem ge {n:Nat} (hn:n<=1000):wP (n:Int)=true:=pP (by omega) (by omega)
theorem Et {r:List D} {n:Nat} {w:Int} (hn:n<=1000) (h0:0<=w) (h1:w<4294967296):jD [.lst (.str (zN (n:Int))::.str (hx w)::r),.int (n:Int)]=some (.inl (false,.int w)):=by
 have e:=C3 h0 h1
 have s:=str_int (ge hn)
 have c:decide ((((D.str (zN (n:Int))::.str (hx w)::r).length:Nat):Int)<2)=false:=decide_eq_false (by rw [List.length_cons,List.length_cons]; omega)
 have i0:zF (.lst (.str (zN (n:Int))::.str (hx w)::r)) (.int 0)=some (.str (zN (n:Int))):=rfl
 have i1:zF (.lst (.str (zN (n:Int))::.str (hx w)::r)) (.int 1)=some (.str (hx w)):=rfl
 have q:=VA (d:=.str (zN (n:Int))) rfl
 rw [Q0]
 unfold ZX
 generalize D.str (zN (n:Int))=DD at *
 generalize D.str (hx w)=HH at *
 generalize DD::HH::r=LL at *
 simp! [wX,vF,wo,X6,c,i0,s,q,i1,e]
noncomputable def wp (n:Nat) (ps:List (List Nat)):Prop:=ps≠[]/\(ps.length<2\/ps.head?≠some (zN (n:Int)).cps.toList\/∃ z:Str,ps[1]?=some z.cps.toList/\XE z)
theorem C_ {a b:Str} (h:a.cps.toList≠b.cps.toList):yd (.str a) (.str b)=some (.bl true):=by
 have q:(a == b)=false:=by
  cases c:(a == b) with
  | false=>rfl
  | true=>exact absurd (congrArg (fun z:Str=>z.cps.toList) (eq_of_beq c)) h
 show some (D.bl (!(a == b)))=_
 rw [q]
 rfl
theorem Eu {ps:List (List Nat)} {n:Nat} (hn:n<=1000) (h:wp n ps):jD [.lst (ps.map sD),.int (n:Int)]=some (.inr "BadText"):=by
 obtain ⟨hne,h⟩:=h
 have s:=str_int (ge hn)
 have fm:e1 pJ (z7 1) [some (false,.lst (ps.map sD)),some (false,.int (n:Int))]=some (.str (zN (n:Int))):=Th (ge hn)
 obtain ⟨z1,f1⟩:=Tl (A := "row ") (B := " does not begin with its number and a word") fm (ge hn) (by decide) (by decide)
 obtain ⟨z2,f2⟩:=Tl (A := "row ") (B := " has no word of eight signs") fm (ge hn) (by decide) (by decide)
 have l1:([D.str z1]:List D).length<=1000:=by show 1<=1000; decide
 have l2:([D.str z2]:List D).length<=1000:=by show 1<=1000; decide
 have ln:(ps.map sD).length=ps.length:=List.length_map _
 rw [Q0]
 unfold ZX
 by_cases h2:ps.length<2
 ·have c:decide (((ps.map sD).length:Int)<2)=true:=decide_eq_true (by omega)
  generalize ps.map sD=PP at *
  simp! [wX,vF,c,f1,if_pos l1]
  rfl
 ·have c:decide (((ps.map sD).length:Int)<2)=false:=decide_eq_false (by omega)
  obtain ⟨p0,p1,r,rfl⟩:∃ p0 p1 r,ps=p0::p1::r:=by
   match ps,h2 with
   | [],h2=>exact absurd (by show 0<2; decide) h2
   | [_],h2=>exact absurd (by show 1<2; decide) h2
   | p0::p1::r,_=>exact ⟨p0,p1,r,rfl⟩
  have i0:zF (.lst ((p0::p1::r).map sD)) (.int 0)=some (sD p0):=rfl
  have i1:zF (.lst ((p0::p1::r).map sD)) (.int 1)=some (sD p1):=rfl
  by_cases h0:p0=(zN (n:Int)).cps.toList
  ·obtain ⟨z,hz,hb⟩:=(h.resolve_left h2).resolve_left (fun q=>q (by rw [h0]; rfl))
   have hz:p1=z.cps.toList:=Option.some.inj hz
   have e:=C5 hb
   have q:yd (sD p0) (.str (zN (n:Int)))=some (.bl false):=by
    rw [h0,ku]
    exact VA rfl
   generalize (p0::p1::r).map sD=PP at *
   rw [hz,ku] at i1
   generalize D.str z=ZZ at *
   simp! [wX,vF,wo,X6,c,i0,s,q,i1,e,if_true,f2,if_pos l2]
   rfl
  ·have q:yd (sD p0) (.str (zN (n:Int)))=some (.bl true):=C_ (a:=⟨p0.toArray⟩) h0
   generalize (p0::p1::r).map sD=PP at *
   simp! [wX,vF,c,i0,s,q,f1,if_pos l1]
   rfl
inductive LX:List (List Nat)->Nat->Prop
 | skip {l:List Nat} {ps:List (List Nat)} {n:Nat}:V l=[]->LX ps n->LX (l::ps) n
 | one {l:List Nat} {r ps:List (List Nat)} {n:Nat} {w:Int}:V l=(zN (n:Int)).cps.toList::(hx w).cps.toList::r->0<=w->w<4294967296->LX ps (n+1)->LX (l::ps) n
 | bad {l:List Nat} {ps:List (List Nat)} {n:Nat}:wp n (V l)->LX (l::ps) n
theorem LX.app:∀ {a:List (List Nat)} {n:Nat} (b:List (List Nat)),LX a n->LX (a++b) n
 | _,_,b,.skip e h=>.skip e (h.app b)
 | _,_,b,.one e h0 h1 h=>.one e h0 h1 (h.app b)
 | _,_,_,.bad h=>.bad h
theorem VF {row:Str} (s:D) (w x:Option Sl):ye (zt 4) XC UV [some (false,s),w,some (false,.str row),x,none] ((Txt.split row ⟨#[32]⟩).map D.str)=some ((V row.cps.toList).map sD):=by
 have lc:=kI (g:=zt 4) (c:=XC) (e:=UV) (σ:=[some (false,s),w,some (false,.str row),x,none]) (fun d=>match d with | .str z=>!z.cps.toList.isEmpty | _=>false) id (ds:=(Txt.split row ⟨#[32]⟩).map D.str) fun d hd=>by
  obtain ⟨z,_,rfl⟩:=List.mem_map.mp hd
  have n:yd (.str z) (.str "")=some (.bl (!z.cps.toList.isEmpty)):=by
   obtain ⟨⟨l⟩⟩:=z
   cases l<;>rfl
  refine ⟨_,rfl,?_,fun _=>rfl⟩
  unfold XC
  simp! [n]
 have fin:(((Txt.split row ⟨#[32]⟩).map D.str).filter fun d=>match d with | .str z=>!z.cps.toList.isEmpty | _=>false).map id=(V row.cps.toList).map sD:=by
  have ws:V row.cps.toList=((Txt.split row ⟨#[32]⟩).map fun t=>t.cps.toList).filter fun p=>!p.isEmpty:=by
   unfold V
   rw [U7]
  rw [ws,List.map_id,List.filter_map,List.filter_map,List.map_map]
  refine List.map_congr_left fun z _=>(ku z).symm
 rw [fin] at lc
 exact lc
section
variable (T:D) {r:Str} {us:List Int} {x3:Option Sl} (hr:r.length<=1000000) (hu:us.length<=1000)
include hr
theorem Jn (e:V r.cps.toList=[]):uP [some (false,T),some (true,.lst (us.map D.int)),some (false,.str r),x3]=some (.inl (.nx [some (false,T),some (true,.lst (us.map D.int)),some (false,.str r),some (false,.lst [])])):=by
 have fs:qU (.str r) (.str " ")=some (.lst ((Txt.split r ⟨#[32]⟩).map D.str)):=if_pos ⟨rfl,by omega⟩
 have pf:=VF (row:=r) T (some (true,.lst (us.map D.int))) x3
 rw [e,List.map_nil] at pf
 have ne:yd (.lst []) (.lst [])=some (.bl false):=by rfl
 unfold uP
 generalize us.map D.int=UU at *
 generalize (Txt.split r ⟨#[32]⟩).map D.str=SS at *
 simp! [uX,wo,Z8,qr,fs,pf,ne]
include hu
theorem Jm {rr:List (List Nat)} {w:Int} (e:V r.cps.toList=(zN (us.length:Int)).cps.toList::(hx w).cps.toList::rr) (w0:0<=w) (w1:w<4294967296):∃ y3,uP [some (false,T),some (true,.lst (us.map D.int)),some (false,.str r),x3]=some (.inl (.nx [some (false,T),some (true,.lst ((us++[w]).map D.int)),some (false,.str r),y3])):=by
 have fs:qU (.str r) (.str " ")=some (.lst ((Txt.split r ⟨#[32]⟩).map D.str)):=if_pos ⟨rfl,by omega⟩
 have pf:=VF (row:=r) T (some (true,.lst (us.map D.int))) x3
 rw [e,List.map_cons,List.map_cons,ku,ku] at pf
 have wt:=Et (r:=rr.map sD) hu w0 w1
 have ne:yd (.lst (.str (zN (us.length:Int))::.str (hx w)::rr.map sD)) (.lst [])=some (.bl true):=by rfl
 have ap:=wz (L:=us.map D.int) (r:=.int w) (by rw [List.length_map]; omega)
 have ln:(us.map D.int).length=us.length:=List.length_map _
 refine ⟨some (false,.lst (.str (zN (us.length:Int))::.str (hx w)::rr.map sD)),?_⟩
 rw [List.map_append]
 show _=some (Sum.inl (Fl.nx [some (false,T),some (true,.lst (us.map D.int++[.int w])),some (false,.str r),some (false,.lst (.str (zN (us.length:Int))::.str (hx w)::rr.map sD))]))
 unfold uP
 generalize (.str (zN (us.length:Int))::.str (hx w)::rr.map sD)=LL at *
 generalize us.map D.int=UU at *
 generalize (Txt.split r ⟨#[32]⟩).map D.str=SS at *
 simp! [uX,wo,Z8,qr,X5,fs,pf,ne,ln,wt,ap]
theorem CA (e:wp us.length (V r.cps.toList)):uP [some (false,T),some (true,.lst (us.map D.int)),some (false,.str r),x3]=some (.inr "BadText"):=by
 have fs:qU (.str r) (.str " ")=some (.lst ((Txt.split r ⟨#[32]⟩).map D.str)):=if_pos ⟨rfl,by omega⟩
 have pf:=VF (row:=r) T (some (true,.lst (us.map D.int))) x3
 have wt:=Eu hu e
 have ne:yd (.lst ((V r.cps.toList).map sD)) (.lst [])=some (.bl true):=by
  have:=e.1
  cases q:V r.cps.toList with
  | nil=>exact absurd q this
  | cons a b=>rfl
 have ln:(us.map D.int).length=us.length:=List.length_map _
 unfold uP
 generalize (V r.cps.toList).map sD=LL at *
 generalize us.map D.int=UU at *
 generalize (Txt.split r ⟨#[32]⟩).map D.str=SS at *
 simp! [uX,wo,Z8,qr,X5,fs,pf,ne,ln,wt]
end
theorem VT (T:D):∀ {rs:List Str} {ws us:List Int} {x2 x3:Option Sl},LT (rs.map fun t=>t.cps.toList) us.length ws->(∀ r∈rs,r.length<=1000000)->us.length+ws.length<=1000->∃ y2 y3,tX (zt 2) uP (rs.map D.str) [some (false,T),some (true,.lst (us.map D.int)),x2,x3]=some (.inl (.nx [some (false,T),some (true,.lst ((us++ws).map D.int)),y2,y3]))
 | [],ws,us,x2,x3,h,_,_=>by
  cases h
  exact ⟨x2,x3,by rw [List.append_nil]; rfl⟩
 | r::rs,ws,us,x2,x3,h,hl,hn=>by
  have hr:=hl r List.mem_cons_self
  have hl':∀ q∈rs,q.length<=1000000:=fun q hq=>hl q (List.mem_cons_of_mem _ hq)
  rw [List.map_cons] at h
  show ∃ y2 y3,(uP [some (false,T),some (true,.lst (us.map D.int)),some (false,.str r),x3]).bind _=_
  cases h with
  | skip e h=>
   obtain ⟨y2,y3,ih⟩:=VT T (x2:=some (false,.str r)) (x3:=some (false,.lst [])) h hl' hn
   exact ⟨y2,y3,by rw [Jn T hr e]; exact ih⟩
  | one e w0 w1 h=>
   rename_i rr w ws'
   rw [List.length_cons] at hn
   obtain ⟨z3,st⟩:=Jm T (x3:=x3) hr (by omega) e w0 w1
   have h':LT (rs.map fun t=>t.cps.toList) (us++[w]).length ws':=by
    rw [List.length_append]
    exact h
   obtain ⟨y2,y3,ih⟩:=VT T (us:=us++[w]) (x2:=some (false,.str r)) (x3:=z3) h' hl' (by rw [List.length_append]; show _+1+_<=_; omega)
   rw [List.append_assoc] at ih
   exact ⟨y2,y3,by rw [st]; exact ih⟩
theorem VU (T:D):∀ {rs:List Str} {us:List Int} {x2 x3:Option Sl},LX (rs.map fun t=>t.cps.toList) us.length->(∀ r∈rs,r.length<=1000000)->us.length+rs.length<=1000->tX (zt 2) uP (rs.map D.str) [some (false,T),some (true,.lst (us.map D.int)),x2,x3]=some (.inr "BadText")
 | [],us,x2,x3,h,_,_=>by cases h
 | r::rs,us,x2,x3,h,hl,hn=>by
  have hr:=hl r List.mem_cons_self
  have hl':∀ q∈rs,q.length<=1000000:=fun q hq=>hl q (List.mem_cons_of_mem _ hq)
  rw [List.map_cons] at h
  rw [List.length_cons] at hn
  show (uP [some (false,T),some (true,.lst (us.map D.int)),some (false,.str r),x3]).bind _=_
  cases h with
  | skip e h=>
   rw [Jn T hr e]
   exact VU T h hl' (by omega)
  | one e w0 w1 h=>
   rename_i rr w
   obtain ⟨z3,st⟩:=Jm T (x3:=x3) hr (by omega) e w0 w1
   rw [st]
   exact VU T (us:=us++[w]) (by rw [List.length_append]; exact h) hl' (by rw [List.length_append]; show _+1+_<=_; omega)
  | bad e=>
   rw [CA T hr (by omega) e]
   rfl
theorem C6 {T:Str} {ws:List Int} (h:LT (xt 10 T.cps.toList) 0 ws) (hl:T.length<=1000000) (hn:ws.length<=1000):uE [.str T]=some (.inl (true,.lst (ws.map D.int))):=by
 have fs:qU (.str T) (.str "\n")=some (.lst ((Txt.split T ⟨#[10]⟩).map D.str)):=if_pos ⟨rfl,by omega⟩
 rw [<- U7] at h
 obtain ⟨y2,y3,e⟩:=VT (.str T) (rs:=Txt.split T ⟨#[10]⟩) (us:=[]) (ws:=ws) (x2:=none) (x3:=none) h (fun r hr=>by
  have:r.length<=T.length:=PyProof.Rows.part_short hr
  omega) (by show 0+_<=_; omega)
 rw [List.nil_append,List.map_nil] at e
 rw [Tz]
 unfold ZV
 generalize ws.map D.int=WW at *
 generalize (Txt.split T ⟨#[10]⟩).map D.str=SS at *
 simp! [wX,uX,wo,py,qB,fs,e]
theorem Je {T:Str} (h:LX (xt 10 T.cps.toList) 0) (hl:T.length<=1000000) (hn:(xt 10 T.cps.toList).length<=1000):uE [.str T]=some (.inr "BadText"):=by
 have fs:qU (.str T) (.str "\n")=some (.lst ((Txt.split T ⟨#[10]⟩).map D.str)):=if_pos ⟨rfl,by omega⟩
 rw [<- U7] at h hn
 rw [List.length_map] at hn
 have e:=VU (.str T) (rs:=Txt.split T ⟨#[10]⟩) (us:=[]) (x2:=none) (x3:=none) h (fun r hr=>by
  have:r.length<=T.length:=PyProof.Rows.part_short hr
  omega) (by show 0+_<=_; omega)
 rw [List.map_nil] at e
 rw [Tz]
 unfold ZV
 generalize (Txt.split T ⟨#[10]⟩).map D.str=SS at *
 simp! [wX,uX,wo,py,fs,e]
noncomputable def gW:FS:=
 (zG (kq (z7 0) (Zw 2 3 4))
  (zG (zP 5 (e2 zr (z7 1) (eC (.int 14))))
  (zG (zP 6 (e2 yh (z7 1) (eC (.int 14))))
  (zG (zP 7 (yC (z8 (eL vo (z8 (e2 zR (e2 zR (eL Wb (z8 (z7 2) zC)) (eC (.int 1))) (e2 zr (z7 6) (eC (.int 9)))) zC)) (z8 (e2 zR (eC (.str "0")) (z7 2)) (z8 (e2 zR (eC (.str "-")) (z7 2)) (z8 (eC (.str "")) (z8 (e2 zR (z7 2) (eC (.str ":"))) (z8 (e2 zR (eC (.str "+")) (z7 2)) (z8 (eC (.str "a")) zC)))))))))
  (zG (zY (tE (e2 (yW fun i j=>decide (i<j)) (z7 5) (eC (.int 7))))
   (zP 2 (e2 zF (z7 7) (z7 5)))
   (zG (zP 8 (yC (z8 (ya (z7 3) (yI (eC (.int 1))) yH) (z8 (e2 zR (eC (.str "0")) (z7 3)) (z8 (e2 zR (eC (.str "A")) (ya (z7 3) (yI (eC (.int 1))) yH)) (z8 (e2 zR (ya (z7 3) yH (yI (eC (.int 7)))) (eC (.str "g"))) (z8 (e2 zR (eC (.str "-")) (ya (z7 3) (yI (eC (.int 1))) yH)) (z8 (e2 zR (z7 3) (eC (.str "\t"))) (z8 (eC (.str "")) zC)))))))))
    (zG (zP 3 (e2 zF (z7 8) (e2 xg (z7 5) (eC (.int 7)))))
    (zP 4 (e2 zF (yC (z8 (z7 4) (z8 (eC (.str "")) zC))) (eL uq (z8 (e2 zS (z7 3) (eC (.str ""))) zC)))))))
  (za (e2 y_ (eC (.str " ")) (yC (z8 (z7 2) (z8 (z7 3) (z8 (z7 4) zC)))))))))))
noncomputable def qx:List D->Option (Bool×D):=FR 2 9 gW
theorem Wp (x0 x1:D):qx [x0,x1]=yP 9 gW [x0,x1]:=rfl
theorem Tu (c:Nat) (ts:List Str):(Builtin.Str.glued ⟨#[c]⟩ ts).cps.toList=jn c (ts.map fun t=>t.cps.toList):=by
 rw [StrLaws.glued_eq_join]
 exact Wz c ts
theorem jZ (a b c:Str):(Builtin.Str.glued " " [a,b,c]).cps.toList=a.cps.toList++32::(b.cps.toList++32::c.cps.toList):=Tu 32 [a,b,c]
theorem WT {k:Nat} (h:k<=200):(zN (k:Int)).cps.toList.length<=3:=by
 rw [Zd (by omega)]
 exact TM 2 _ (by rw [Int.toNat_natCast]; show _<1000; omega)
theorem TK:∀ a:Nat,a<140->∀ j:Nat,j<9->(zN (a:Int)).cps.toList≠(zN ((a+1+j:Nat):Int)).cps.toList:=by decide +kernel
section
variable {k:Nat} {n s t:Str}
theorem WJ (n0:n.cps.toList≠[]) (n3:32 ∉ n.cps.toList) (ne:n.cps.toList≠(zN (k:Int)).cps.toList):wp k (V (Builtin.Str.glued " " [n,s,t]).cps.toList):=by
 rw [jZ,p9 n0 n3]
 exact ⟨by simp,.inr (.inl fun h=>ne (Option.some.inj h))⟩
theorem OV (s0:s.cps.toList≠[]) (s3:32 ∉ s.cps.toList) (ne:s.cps.toList≠(zN (k:Int)).cps.toList):wp k (V (Builtin.Str.glued " " ["",s,t]).cps.toList):=by
 rw [jZ]
 show wp k (V (32::(s.cps.toList++32::t.cps.toList)))
 rw [Ud,p9 s0 s3]
 exact ⟨by simp,.inr (.inl fun h=>ne (Option.some.inj h))⟩
theorem OW (s0:s.cps.toList≠[]) (s3:32 ∉ s.cps.toList) (hb:XE s):wp k (V (Builtin.Str.glued " " [zN (k:Int),s,t]).cps.toList):=by
 obtain ⟨d0,d1⟩:=gc (n:=(k:Int)) (by omega)
 rw [jZ,p9 d0 (fun z=>(d1 32 z).1 rfl),p9 s0 s3]
 exact ⟨by simp,.inr (.inr ⟨s,rfl,hb⟩)⟩
theorem OX:wp k (V (Builtin.Str.glued " " [zN (k:Int), "", ""]).cps.toList):=by
 obtain ⟨d0,d1⟩:=gc (n:=(k:Int)) (by omega)
 rw [jZ,p9 d0 (fun z=>(d1 32 z).1 rfl),show V (("" : Str).cps.toList++32::("" : Str).cps.toList)=[] from rfl]
 exact ⟨by simp,.inl (by show 1<2; decide)⟩
end
structure Sp (k:Nat) (x:Str):Prop where
 bad:wp k (V x.cps.toList)
 nl:NL x
 ln:x.length<=7050
theorem kK (a b c:Str):(Builtin.Str.glued " " [a,b,c]).length=a.length+b.length+c.length+2:=by
 rw [<- xi,jZ,List.length_append,List.length_cons,List.length_append,List.length_cons,xi,xi,xi]
 omega
theorem YK {a b c:Str} (ha:NL a) (hb:NL b) (hc:NL c):NL (Builtin.Str.glued " " [a,b,c]):=kO ha fun z hz=>by
 rcases List.mem_cons.mp hz with rfl | hz
 ·exact hb
 ·cases List.mem_singleton.mp hz
  exact hc
theorem Ow (z:Str):(L2.cutS z (some 1) none).cps.toList=z.cps.toList.drop 1:=by
 show ((z.cps.toList.drop (HT.sIx z.length 0 (some ((1:Nat):Int)))).take (z.length - HT.sIx z.length 0 (some ((1:Nat):Int))))=_
 rw [HT.sIx_nat]
 rcases Nat.lt_or_ge z.length 1 with h | h
 ·have:z.cps.toList=[]:=List.length_eq_zero_iff.mp (by rw [xi]; omega)
  rw [this,List.drop_nil,List.take_nil,List.drop_nil]
 ·rw [Nat.min_eq_left h]
  exact List.take_of_length_le (by rw [List.length_drop,xi]; exact Nat.le_refl _)
theorem Ox (z:Str):(L2.cutS z none (some 7)).cps.toList=z.cps.toList.take 7:=by
 show ((z.cps.toList.drop 0).take (HT.sIx z.length z.length (some ((7:Nat):Int)) - 0))=_
 rw [HT.sIx_nat,List.drop_zero,Nat.sub_zero]
 rcases Nat.le_total 7 z.length with h | h
 ·rw [Nat.min_eq_left h]
 ·rw [Nat.min_eq_right h,List.take_of_length_le (by rw [xi]; omega),List.take_of_length_le (by rw [xi]; omega)]
theorem M6 (x:Int):∀ c∈(hx x).cps.toList,c<128:=by
 rw [<- j_]
 have go:∀ n,∀ c∈(wF x n).cps.toList,c<128:=fun n=>by
  induction n with
  | zero=>intro c h; cases (show c∈([]:List Nat) from h)
  | succ n ih=>
   intro c h
   have h:c∈(xD (x / 16 ^ n % 16)).cps.toList++(wF x n).cps.toList:=by rw [<- uG]; exact h
   rcases List.mem_append.mp h with q | q
   ·have d0:0<=x / 16 ^ n % 16:=by omega
    have d1:x / 16 ^ n % 16<16:=by omega
    generalize x / 16 ^ n % 16=d at *
    obtain ⟨k,rfl⟩:=Int.eq_ofNat_of_zero_le d0
    have:∀ n:Nat,n<16->∀ c∈(xD (n:Int)).cps.toList,c<128:=by decide +kernel
    exact this k (by omega) c q
   ·exact ih c q
 exact go 8
theorem Cv {k:Nat} (hk:k<140) {w:Int} {z:Str} (zn:NL z) (zl:z.length<=7000) (c:Int):∃ x,Sp k x/\qx [.lst [.str (zN (k:Int)),.str (hx w),.str z],.int c]=some (false,.str x):=by
 obtain ⟨d0,d1⟩:=gc (n:=(k:Int)) (by omega)
 obtain ⟨h0,h1⟩:=Wv w
 have ha:=M6 w
 have hl:=Q2 w
 have dl:=WT (k:=k) (by omega)
 rw [xi] at dl
 have dn:NL (zN (k:Int)):=jh (by omega)
 have hn:NL (hx w):=fun q=>(h1 10 q).2 rfl
 have d32:32 ∉ (zN (k:Int)).cps.toList:=fun q=>(d1 32 q).1 rfl
 have h32:32 ∉ (hx w).cps.toList:=fun q=>(h1 32 q).1 rfl
 have dp:1<=(zN (k:Int)).length:=by
  rw [<- xi]
  exact List.length_pos_iff.mpr d0
 have q9:0<=c / 14 % 9/\c / 14 % 9<9:=by omega
 obtain ⟨j,hj⟩:∃ j:Nat,c / 14 % 9=(j:Int):=Int.eq_ofNat_of_zero_le q9.1
 have j9:j<9:=by omega
 have it:Wb [.str (zN (k:Int))]=some (.int (k:Int)):=by
  show (if (zN (k:Int)).length<=640 then (PySem.intText? (zN (k:Int))).bind _ else none)=_
  rw [if_pos (by omega),show PySem.intText? (zN (k:Int))=some (k:Int) from PySem.W.KIN.num_reads (by omega) (by omega)]
  rfl
 have sn:=str_int (pP (n:=(k:Int)+1+c / 14 % 9) (by omega) (by omega))
 have sl:uL (.str (hx w)) (some 1) none=some (.str (L2.cutS (hx w) (some 1) none)):=rfl
 have s7:uL (.str (hx w)) none (some 7)=some (.str (L2.cutS (hx w) none (some 7))):=rfl
 have c1:=Ow (hx w)
 have c7:=Ox (hx w)
 have l1:(L2.cutS (hx w) (some 1) none).length=7:=by rw [<- xi,c1,List.length_drop,xi,hl]
 have l7:(L2.cutS (hx w) none (some 7)).length=7:=by rw [<- xi,c7,List.length_take,xi,hl]; rfl
 have m1:∀ d∈(L2.cutS (hx w) (some 1) none).cps.toList,d≠32/\d≠10/\d<128:=fun d hd=>by
  rw [c1] at hd
  have:=List.mem_of_mem_drop hd
  exact ⟨(h1 d this).1,(h1 d this).2,ha d this⟩
 have m7:∀ d∈(L2.cutS (hx w) none (some 7)).cps.toList,d≠32/\d≠10/\d<128:=fun d hd=>by
  rw [c7] at hd
  have:=List.mem_of_mem_take hd
  exact ⟨(h1 d this).1,(h1 d this).2,ha d this⟩
 generalize L2.cutS (hx w) (some 1) none=T1 at *
 generalize L2.cutS (hx w) none (some 7)=T7 at *
 have mh:∀ d∈(hx w).cps.toList,d≠32/\d≠10/\d<128:=fun d hd=>⟨(h1 d hd).1,(h1 d hd).2,ha d hd⟩
 have nm:∃ n:Str,zF (.lst [.str (zN ((k:Int)+1+c / 14 % 9)),.str ("0" ++ zN (k:Int)),.str ("-" ++ zN (k:Int)),.str "",.str (zN (k:Int) ++ ":"),.str ("+" ++ zN (k:Int)),.str "a"]) (.int (c % 14))=some (.str n)/\n.length<=5/\wp k (V (Builtin.Str.glued " " [n,hx w,z]).cps.toList)/\NL n\/7<=c % 14:=by
  by_cases h7:7<=c % 14
  ·exact ⟨"",.inr h7⟩
  have longer:∀ {a:Str},a.length=(zN (k:Int)).length+1->(∀ d∈a.cps.toList,d≠32)->wp k (V (Builtin.Str.glued " " [a,hx w,z]).cps.toList):=fun {a} e q=>by
   refine WJ (fun z=>?_) (fun z=>q 32 z rfl) fun z=>?_
   ·have:=congrArg List.length z
    rw [xi] at this
    rw [this] at e
    exact absurd e (by show ¬ 0=_; omega)
   ·have:=congrArg List.length z
    rw [xi,xi] at this
    omega
  have two:∀ {a b:Str} {d:Nat},d∈(a++b).cps.toList->d∈a.cps.toList\/d∈b.cps.toList:=fun {a b d} h=>by
   rw [uG] at h
   exact List.mem_append.mp h
  rcases (show c % 14=0\/c % 14=1\/c % 14=2\/c % 14=3\/c % 14=4\/c % 14=5\/c % 14=6 by omega) with h | h | h | h | h | h | h<;>rw [h]
  ·have eq:(k:Int)+1+c / 14 % 9=((k+1+j:Nat):Int):=by omega
   rw [eq]
   obtain ⟨x0,x1⟩:=gc (n:=((k+1+j:Nat):Int)) (by omega)
   have xl:=WT (k:=k+1+j) (by omega)
   rw [xi] at xl
   exact ⟨_,.inl ⟨rfl,by omega,WJ x0 (fun q=>(x1 32 q).1 rfl) (fun q=>TK k hk j j9 q.symm),jh (by omega)⟩⟩
  ·exact ⟨_,.inl ⟨rfl,by rw [xA]; show 1+_<=_; omega,longer (by rw [xA]; show 1+_=_; omega) (fun d hd=>by
    rcases two hd with q | q
    ·cases List.mem_singleton.mp (show d∈[48] from q); decide
    ·exact (d1 d q).1),kN (by decide +kernel) dn⟩⟩
  ·exact ⟨_,.inl ⟨rfl,by rw [xA]; show 1+_<=_; omega,longer (by rw [xA]; show 1+_=_; omega) (fun d hd=>by
    rcases two hd with q | q
    ·cases List.mem_singleton.mp (show d∈[45] from q); decide
    ·exact (d1 d q).1),kN (by decide +kernel) dn⟩⟩
  ·exact ⟨_,.inl ⟨rfl,by decide,OV h0 h32 (fun q=>by
    have:=congrArg List.length q
    rw [xi,xi] at this
    omega),by decide +kernel⟩⟩
  ·exact ⟨_,.inl ⟨rfl,by rw [xA]; show _+1<=_; omega,longer (by rw [xA]; rfl) (fun d hd=>by
    rcases two hd with q | q
    ·exact (d1 d q).1
    ·cases List.mem_singleton.mp (show d∈[58] from q); decide),kN dn (by decide +kernel)⟩⟩
  ·exact ⟨_,.inl ⟨rfl,by rw [xA]; show 1+_<=_; omega,longer (by rw [xA]; show 1+_=_; omega) (fun d hd=>by
    rcases two hd with q | q
    ·cases List.mem_singleton.mp (show d∈[43] from q); decide
    ·exact (d1 d q).1),kN (by decide +kernel) dn⟩⟩
  ·exact ⟨_,.inl ⟨rfl,by decide,WJ (by decide +kernel) (by decide +kernel) (fun q=>by
    have:(97:Nat)∈(zN (k:Int)).cps.toList:=by rw [<- q]; decide +kernel
    rw [Zd (by omega)] at this
    have:=(WV ((k:Int)).toNat).2.1 97 this
    omega),by decide +kernel⟩⟩
 have a0:=ui (a := "0") (b:=zN (k:Int)) (by show 1+_<=_; omega)
 have a1:=ui (a := "-") (b:=zN (k:Int)) (by show 1+_<=_; omega)
 have a2:=ui (a:=zN (k:Int)) (b := ":") (by show _+1<=_; omega)
 have a3:=ui (a := "+") (b:=zN (k:Int)) (by show 1+_<=_; omega)
 have g3:∀ (a b c:D) (σ:zz),Zw 2 3 4 (.lst [a,b,c]) σ=some (((σ.set 2 (some (false,a))).set 3 (some (false,b))).set 4 (some (false,c))):=fun _ _ _ _=>rfl
 have f1:zr (.int c) (.int 14)=some (.int (c % 14)):=rfl
 have f2:yh (.int c) (.int 14)=some (.int (c / 14)):=rfl
 have f3:zr (.int (c / 14)) (.int 9)=some (.int (c / 14 % 9)):=rfl
 have ag:∀ (f:FE) (g:FG) (σ:zz),kq f g σ=(f σ).bind fun d=>(g d σ).bind fun σ'=>some (.nx σ'):=fun _ _ _=>rfl
 by_cases h7:7<=c % 14
 ·-- the signs
  have b0:=ui (a := "0") (b:=hx w) (by show 1+_<=_; omega)
  have b1:=ui (a := "A") (b:=T1) (by show 1+_<=_; omega)
  have b2:=ui (a:=T7) (b := "g") (by show _+1<=_; omega)
  have b3:=ui (a := "-") (b:=T1) (by show 1+_<=_; omega)
  have b4:=ui (a:=hx w) (b := "\t") (by show _+1<=_; omega)
  have ct:decide (c % 14<7)=false:=decide_eq_false (by omega)
  have sg:∃ g:Str,zF (.lst [.str T1,.str ("0" ++ hx w),.str ("A" ++ T1),.str (T7 ++ "g"),.str ("-" ++ T1),.str (hx w ++ "\t"),.str ""]) (.int (c % 14 - 7))=some (.str g)/\NL g/\g.length<=9/\(zS (.str g) (.str "")=some (.bl false)/\wp k (V (Builtin.Str.glued " " [zN (k:Int),g,z]).cps.toList)\/g = ""):=by
   have fe:∀ {g:Str},1<=g.length->zS (.str g) (.str "")=some (.bl false):=fun {g} q=>by
    show some (D.bl (g == ""))=_
    have:(g == ("" : Str))=false:=by
     cases cc:(g == ("" : Str)) with
     | false=>rfl
     | true=>
      rw [eq_of_beq cc] at q
      exact absurd q (by decide)
    rw [this]
   have mk:∀ {g:Str},1<=g.length->g.length<=9->(∀ d∈g.cps.toList,d≠32/\d≠10/\d<128)->(g.length≠8\/∃ c∈g.cps.toList,c=65\/c=103\/c=45)->NL g/\g.length<=9/\(zS (.str g) (.str "")=some (.bl false)/\wp k (V (Builtin.Str.glued " " [zN (k:Int),g,z]).cps.toList)\/g = ""):=fun {g} q1 q2 q3 q4=>by
    refine ⟨fun q=>(q3 10 q).2.1 rfl,q2,.inl ⟨fe q1,OW (fun q=>?_) (fun q=>(q3 32 q).1 rfl) ⟨by omega,fun d hd=>(q3 d hd).2.2,q4⟩⟩⟩
    have:=congrArg List.length q
    rw [xi] at this
    rw [this] at q1
    exact absurd q1 (by decide)
   have two:∀ {a b:Str} {P:Nat->Prop},(∀ d∈a.cps.toList,P d)->(∀ d∈b.cps.toList,P d)->∀ d∈(a++b).cps.toList,P d:=fun {a b P} ha hb d h=>by
    rw [uG] at h
    rcases List.mem_append.mp h with q | q
    ·exact ha d q
    ·exact hb d q
   rcases (show c % 14 - 7=0\/c % 14 - 7=1\/c % 14 - 7=2\/c % 14 - 7=3\/c % 14 - 7=4\/c % 14 - 7=5\/c % 14 - 7=6 by omega) with h | h | h | h | h | h | h<;>rw [h]
   ·exact ⟨_,rfl,mk (by omega) (by omega) m1 (.inl (by omega))⟩
   ·exact ⟨_,rfl,mk (by rw [xA]; show 1<=1+_; omega) (by rw [xA]; show 1+_<=_; omega) (two (by decide +kernel) mh) (.inl (by rw [xA]; show 1+_≠_; omega))⟩
   ·exact ⟨_,rfl,mk (by rw [xA]; show 1<=1+_; omega) (by rw [xA]; show 1+_<=_; omega) (two (by decide +kernel) m1) (.inr ⟨65,by rw [uG]; exact List.mem_append_left _ (by decide +kernel),.inl rfl⟩)⟩
   ·exact ⟨_,rfl,mk (by rw [xA]; show 1<=_+1; omega) (by rw [xA]; show _+1<=_; omega) (two m7 (by decide +kernel)) (.inr ⟨103,by rw [uG]; exact List.mem_append_right _ (by decide +kernel),.inr (.inl rfl)⟩)⟩
   ·exact ⟨_,rfl,mk (by rw [xA]; show 1<=1+_; omega) (by rw [xA]; show 1+_<=_; omega) (two (by decide +kernel) m1) (.inr ⟨45,by rw [uG]; exact List.mem_append_left _ (by decide +kernel),.inr (.inr rfl)⟩)⟩
   ·exact ⟨_,rfl,mk (by rw [xA]; show 1<=_+1; omega) (by rw [xA]; show _+1<=_; omega) (two mh (by decide +kernel)) (.inl (by rw [xA]; show _+1≠_; omega))⟩
   ·exact ⟨_,rfl,by decide +kernel,by decide,.inr rfl⟩
  obtain ⟨g,hg,gn,gl,hb⟩:=sg
  have fsb:xg (.int (c % 14)) (.int 7)=some (.int (c % 14 - 7)):=rfl
  rcases hb with ⟨eq,hb⟩ | eq
  ·have jn:=uv (sep := " ") (ts:=[zN (k:Int),g,z]) (by show (zN (k:Int)).length+(g.length+(z.length+0))+3*1<=_; omega)
   refine ⟨_,⟨hb,YK dn gn zn,by rw [kK]; omega⟩,?_⟩
   have i0:zF (.lst [.str z,.str ""]) (.int 0)=some (.str z):=rfl
   have jn:y_ (.str " ") (.lst [.str (zN (k:Int)),.str g,.str z])=some (.str (Builtin.Str.glued " " [zN (k:Int),g,z])):=jn
   rw [Wp]
   unfold gW
   generalize Builtin.Str.glued " " [zN (k:Int),g,z]=RR at *
   generalize zN (k:Int)=DD at *
   generalize zN ((k:Int)+1+c / 14 % 9)=NN at *
   generalize hx w=HX at *
   simp! [ag,g3,f1,f2,f3,it,add_int,sn,a0,a1,a2,a3,ct,ya,yI,yH,sl,s7,b0,b1,b2,b3,b4,fsb,hg,eq,i0,jn,Bool.false_eq_true,if_false]
  ·have jn:=uv (sep := " ") (ts:=[zN (k:Int), "", ""]) (by show (zN (k:Int)).length+(0+(0+0))+3*1<=_; omega)
   refine ⟨_,⟨OX,YK dn (by decide +kernel) (by decide +kernel),by rw [kK]; show _+0+0+2<=_; omega⟩,?_⟩
   have eq2:zS (.str g) (.str "")=some (.bl true):=by rw [eq]; rfl
   have i0:zF (.lst [.str z,.str ""]) (.int 1)=some (.str ""):=rfl
   have jn:y_ (.str " ") (.lst [.str (zN (k:Int)),.str g,.str ""])=some (.str (Builtin.Str.glued " " [zN (k:Int), "", ""])):=by rw [eq]; exact jn
   rw [Wp]
   unfold gW
   generalize Builtin.Str.glued " " [zN (k:Int), "", ""]=RR at *
   generalize zN (k:Int)=DD at *
   generalize zN ((k:Int)+1+c / 14 % 9)=NN at *
   generalize hx w=HX at *
   simp! [ag,g3,f1,f2,f3,it,add_int,sn,a0,a1,a2,a3,ct,ya,yI,yH,sl,s7,b0,b1,b2,b3,b4,fsb,hg,eq2,i0,jn,if_true]
 ·obtain ⟨n,hn7⟩:=nm
  obtain ⟨hi,nl,hb,nn⟩:=hn7.resolve_right h7
  have ct:decide (c % 14<7)=true:=decide_eq_true (by omega)
  have jn:=uv (sep := " ") (ts:=[n,hx w,z]) (by show n.length+((hx w).length+(z.length+0))+3*1<=_; omega)
  refine ⟨_,⟨hb,YK nn hn zn,by rw [kK]; omega⟩,?_⟩
  have jn:y_ (.str " ") (.lst [.str n,.str (hx w),.str z])=some (.str (Builtin.Str.glued " " [n,hx w,z])):=jn
  rw [Wp]
  unfold gW
  generalize Builtin.Str.glued " " [n,hx w,z]=RR at *
  generalize zN (k:Int)=DD at *
  generalize zN ((k:Int)+1+c / 14 % 9)=NN at *
  generalize hx w=HX at *
  simp! [ag,g3,f1,f2,f3,it,add_int,sn,a0,a1,a2,a3,ct,hi,jn]
noncomputable def W2:FS:=
 (zG (VY 1 "BadText" (UT uE (z8 (z7 0) zC)) (zG (zY (vC (tE (e1 (uJ "BadText" false) (z7 1))) (vC (tE (e1 (uJ "BadText" false) (z7 1))) (tE (e1 (uJ "BadText" false) (z7 1)))))
     (za (eC (.bl false)))
     zm)
    (zG (zY (vC (tE (e1 (uJ "BadText" false) (z7 1))) (tE (e1 (uJ "BadText" false) (z7 1))))
     (za (eC (.bl false)))
     zm)
    (za (pI (e1 (uJ "BadText" true) (z7 1)) (e1 (uJ "BadText" true) (z7 1)))))))
  (za (eC (.bl false))))
noncomputable def ve:List D->Option (Bool×D):=FR 1 2 W2
theorem Lh (x0:D):ve [x0]=yP 2 W2 [x0]:=rfl
noncomputable def pz:FE:=(e2 y_ (eC (.str " ")) (z7 8))
noncomputable def Uo:FS:=
 (zG (zP 1 (zV gI (z8 (z7 0) zC)))
  (zG (zP 2 (zV gC (z8 (z7 1) zC)))
  (zG (zY (tE (e2 zS (z7 2) (yC zC)))
   (zG (zP 2 (yC (z8 (yC (z8 (eC (.str "0")) (z8 (eC (.str "0000002a")) (z8 (eC (.str "")) zC)))) zC)))
    (zP 1 (yC (z8 (eC (.int 42)) zC))))
   zm)
  (zG (zP 3 (wD 1 (wg (z7 2)) (zt 8) yk pz))
  (zG (zP 4 (zV xc (z8 (zV wd (z8 (z7 0) (z8 (eC (.int 2)) zC))) (z8 (eC (.int 200)) zC))))
  (zG (zP 5 (e2 zr (z7 4) (eL yz (z8 (z7 3) zC))))
  (zG (zP 6 (e2 zr (e2 yh (z7 4) (eC (.int 97))) (eC (.int 6))))
  (zG (zP 7 (e2 zR (e2 zR (ya (z7 3) yH (yI (z7 5))) (yC (z8 (zV qx (z8 (e2 zF (z7 2) (z7 5)) (z8 (e2 yh (z7 4) (eC (.int 7))) zC))) zC))) (ya (z7 3) (yI (e2 zR (z7 5) (eC (.int 1)))) yH)))
  (zG (zY (pj (tE (e2 zS (z7 6) (eC (.int 0)))) (tE (e2 (yW fun i j=>decide (i<j)) (e2 zR (z7 5) (eC (.int 1))) (eL yz (z8 (z7 3) zC)))))
   (zP 7 (e2 zR (ya (z7 3) yH (yI (z7 5))) (ya (z7 3) (yI (e2 zR (z7 5) (eC (.int 1)))) yH)))
   zm)
  (zG (zY (tE (e2 zS (z7 6) (eC (.int 1))))
   (zP 7 (e2 zR (ya (z7 3) yH (yI (e2 zR (z7 5) (eC (.int 1))))) (ya (z7 3) (yI (z7 5)) yH)))
   zm)
  (zG (zY (tE (e2 zS (z7 6) (eC (.int 2))))
   (zP 7 (e2 zR (e2 zR (ya (z7 3) yH (yI (z7 5))) (yC (z8 (eC (.str "\t")) zC))) (ya (z7 3) (yI (z7 5)) yH)))
   zm)
  (zG (zY (pp (tE (zV ve (z8 (e2 y_ (eC (.str "\n")) (z7 7)) zC))))
   (za (eC (.bl false)))
   zm)
  (za (pI (e2 zS (gi uE (z8 (e2 y_ (eC (.str "\n")) (z7 3)) zC)) (z7 1)) (zV ve (z8 (e2 zR (e2 y_ (eC (.str "\n")) (z7 7)) (eC (.str "\n"))) zC))))))))))))))))
theorem Ur {T:Str} (h:uE [.str T]=some (.inr "BadText")):ve [.str T]=some (false,.bl true):=by
 have x1:∀ b,uJ "BadText" b (.exc "BadText")=some (.bl b):=fun b=>by
  show (if ("BadText" : Str) = "BadText" then some (D.bl b) else none)=_
  rw [if_pos rfl]
 rw [Lh]
 unfold W2
 simp! [VY,UT,h,Zm,x1,if_true]
noncomputable def xY (p:Int×Int×Str):D:=.lst [.str (zN p.1),.str (hx p.2.1),.str p.2.2]
noncomputable def ze (p:Int×Int×Str):Str:=Builtin.Str.glued " " [zN p.1,hx p.2.1,p.2.2]
noncomputable def cp (t:Str):List Nat:=t.cps.toList
structure ZG (Z:List (Int×Int×Str)):Prop where
 num:∀ (k:Nat) p,Z[k]?=some p->p.1=(k:Int)
 rng:∀ p∈Z,0<=p.2.1/\p.2.1<4294967296
 nl:∀ p∈Z,NL p.2.2
 ln:∀ p∈Z,p.2.2.length<=7000
 m1:1<=Z.length
 m2:Z.length<=130
section
variable {Z:List (Int×Int×Str)} (L:ZG Z)
include L
theorem YZ {k:Nat} {p:Int×Int×Str} (h:Z[k]?=some p):∃ q,V (cp (ze p))=(zN (k:Int)).cps.toList::(hx p.2.1).cps.toList::q:=by
 have e:=L.num k p h
 obtain ⟨d0,d1⟩:=gc (n:=(k:Int)) (by omega)
 obtain ⟨h0,h1⟩:=Wv p.2.1
 have:cp (ze p)=[]++((zN (k:Int)).cps.toList++([32]++((hx p.2.1).cps.toList++32::p.2.2.cps.toList))):=by
  unfold cp ze
  rw [jZ,e]
  rfl
 rw [this]
 exact O8 (g:=[]) (b:=[32]) (fun _ z=>by cases z) d0 (fun z=>(d1 32 z).1 rfl) (by simp) (by simp) h0 (fun z=>(h1 32 z).1 rfl) (.inr ⟨_,rfl⟩)
theorem Jl {k:Nat} {p:Int×Int×Str} (h:Z[k]?=some p):NL (ze p)/\(ze p).length<=7050:=by
 have e:=L.num k p h
 have hm:=List.mem_of_getElem? h
 have hk:=(List.getElem?_eq_some_iff.mp h).1
 have m2:=L.m2
 have dl:=WT (k:=k) (by omega)
 rw [xi] at dl
 have hl:=Q2 p.2.1
 have zl:=L.ln p hm
 unfold ze
 rw [e]
 exact ⟨YK (jh (by omega)) (fun q=>((Wv p.2.1).2 10 q).2 rfl) (L.nl p hm),by rw [kK]; omega⟩
theorem kW:∀ {k:Nat} {yG:List (List Nat)},k<=Z.length->LX yG k->LX (((Z.take k).map ze).map cp++yG) 0
 | 0,yG,_,h=>h
 | k+1,yG,hk,h=>by
  have g:=List.getElem?_eq_getElem (show k<Z.length by omega)
  obtain ⟨q,e⟩:=YZ L g
  have r:=L.rng _ (List.mem_of_getElem? g)
  rw [List.take_succ,g,List.map_append,List.map_append,List.append_assoc]
  exact kW (by omega) (.one e r.1 r.2 h)
theorem J6:∀ {k:Nat} {yG:List (List Nat)} {us:List Int},k<=Z.length->LT yG k us->LT (((Z.take k).map ze).map cp++yG) 0 ((Z.take k).map (·.2.1)++us)
 | 0,yG,us,_,h=>h
 | k+1,yG,us,hk,h=>by
  have g:=List.getElem?_eq_getElem (show k<Z.length by omega)
  obtain ⟨q,e⟩:=YZ L g
  have r:=L.rng _ (List.mem_of_getElem? g)
  rw [List.take_succ,g,List.map_append,List.map_append,List.map_append,List.append_assoc,List.append_assoc]
  exact J6 (by omega) (.one e r.1 r.2 h)
end
structure jH (bs:List Str):Prop where
 ne:bs≠[]
 ok:∀ b∈bs,NL b/\b.length<=7050
 ln:bs.length<=131
theorem IT:∀ {bs:List Str},(∀ b∈bs,b.length<=7050)->(bs.map (·.length)).sum<=7050*bs.length
 | [],_=>Nat.le_refl _
 | b::bs,h=>by
  have h1:=h b List.mem_cons_self
  have h2:=IT fun x hx=>h x (List.mem_cons_of_mem b hx)
  rw [List.map_cons,List.sum_cons,List.length_cons]
  omega
theorem jH.txt {bs:List Str} (h:jH bs):∃ T:Str,y_ (.str "\n") (.lst (bs.map D.str))=some (.str T)/\T.length<=930000/\xt 10 T.cps.toList=bs.map cp:=by
 have s:=IT fun b hb=>(h.ok b hb).2
 have l:=h.ln
 have j:y_ (.str "\n") (.lst (bs.map D.str))=_:=uv (by show _+_*1<=_; omega)
 have gl:=L2.glued_len "\n" bs
 have gl:(Builtin.Str.glued "\n" bs).length<=(bs.map (·.length)).sum+bs.length*1:=gl
 refine ⟨_,j,by omega,?_⟩
 rw [show (Builtin.Str.glued "\n" bs).cps.toList=jn 10 (bs.map cp) from Tu 10 bs]
 exact U6 (fun z=>h.ne (List.map_eq_nil_iff.mp z)) fun p hp=>by
  obtain ⟨b,hb,rfl⟩:=List.mem_map.mp hp
  exact (h.ok b hb).1
theorem OY {bs:List Str} (h:jH bs) (x:LX (bs.map cp) 0):∃ T:Str,y_ (.str "\n") (.lst (bs.map D.str))=some (.str T)/\zR (.str T) (.str "\n")=some (.str (T ++ "\n"))/\ve [.str T]=some (false,.bl true)/\ve [.str (T ++ "\n")]=some (false,.bl true):=by
 obtain ⟨T,j,tl,sp⟩:=h.txt
 have l:=h.ln
 have sp2:xt 10 (T ++ "\n").cps.toList=bs.map cp++[[]]:=by
  rw [uG]
  show xt 10 (T.cps.toList++10::[])=_
  rw [Yp,sp]
  rfl
 refine ⟨T,j,ui (by show _+1<=_; omega),Ur (Je (by rw [sp]; exact x) (by omega) (by rw [sp,List.length_map]; omega)),Ur (Je (by rw [sp2]; exact x.app _) (by rw [xA]; show _+1<=_; omega) (by rw [sp2,List.length_append,List.length_map]; show _+1<=_; omega))⟩
theorem jK {A B:List Str} (h:A.length+B.length<=1000):zR (.lst (A.map D.str)) (.lst (B.map D.str))=some (.lst ((A++B).map D.str)):=by
 rw [List.map_append]
 exact qN (by rw [List.length_map,List.length_map]; omega)
theorem Oz {α:Type} (xs:List α) (k:Nat):wT xs none (some (k:Int))=xs.take k:=by
 unfold wT
 show (xs.drop 0).take (HT.sIx xs.length xs.length (some (k:Int)) - 0)=_
 rw [HT.sIx_nat,List.drop_zero,Nat.sub_zero]
 rcases Nat.le_total k xs.length with h | h
 ·rw [Nat.min_eq_left h]
 ·rw [Nat.min_eq_right h,List.take_length,List.take_of_length_le h]
theorem Oy {α:Type} (xs:List α) (k:Nat):wT xs (some (k:Int)) none=xs.drop k:=by
 unfold wT
 show (xs.drop (HT.sIx xs.length 0 (some (k:Int)))).take (xs.length - HT.sIx xs.length 0 (some (k:Int)))=_
 rw [HT.sIx_nat]
 rcases Nat.le_total k xs.length with h | h
 ·rw [Nat.min_eq_left h]
  exact List.take_of_length_le (by rw [List.length_drop]; exact Nat.le_refl _)
 ·rw [Nat.min_eq_right h,List.drop_length,List.take_nil,List.drop_eq_nil_of_le h]
theorem ID (ts:List Str) (k:Nat):uL (.lst (ts.map D.str)) none (some (k:Int))=some (.lst ((ts.take k).map D.str)):=by
 show some (D.lst (wT (ts.map D.str) none (some (k:Int))))=_
 rw [Oz,List.map_take]
theorem IC (ts:List Str) (k:Nat):uL (.lst (ts.map D.str)) (some (k:Int)) none=some (.lst ((ts.drop k).map D.str)):=by
 show some (D.lst (wT (ts.map D.str) (some (k:Int)) none))=_
 rw [Oy,List.map_drop]
theorem QN {Z:List (Int×Int×Str)} (L:ZG Z) (s:D) (c:Int) (hc:wd [s,.int 2]=some (false,.int c)) (x3:Option Sl) :
    ∃ o,(zG (zP 3 (wD 1 (wg (z7 2)) (zt 8) yk pz))
    (zG (zP 4 (zV xc (z8 (zV wd (z8 (z7 0) (z8 (eC (.int 2)) zC))) (z8 (eC (.int 200)) zC))))
    (zG (zP 5 (e2 zr (z7 4) (eL yz (z8 (z7 3) zC))))
    (zG (zP 6 (e2 zr (e2 yh (z7 4) (eC (.int 97))) (eC (.int 6))))
    (zG (zP 7 (e2 zR (e2 zR (ya (z7 3) yH (yI (z7 5))) (yC (z8 (zV qx (z8 (e2 zF (z7 2) (z7 5)) (z8 (e2 yh (z7 4) (eC (.int 7))) zC))) zC))) (ya (z7 3) (yI (e2 zR (z7 5) (eC (.int 1)))) yH)))
    (zG (zY (pj (tE (e2 zS (z7 6) (eC (.int 0)))) (tE (e2 (yW fun i j=>decide (i<j)) (e2 zR (z7 5) (eC (.int 1))) (eL yz (z8 (z7 3) zC)))))
      (zP 7 (e2 zR (ya (z7 3) yH (yI (z7 5))) (ya (z7 3) (yI (e2 zR (z7 5) (eC (.int 1)))) yH)))
      zm)
    (zG (zY (tE (e2 zS (z7 6) (eC (.int 1))))
      (zP 7 (e2 zR (ya (z7 3) yH (yI (e2 zR (z7 5) (eC (.int 1))))) (ya (z7 3) (yI (z7 5)) yH)))
      zm)
    (zG (zY (tE (e2 zS (z7 6) (eC (.int 2))))
      (zP 7 (e2 zR (e2 zR (ya (z7 3) yH (yI (z7 5))) (yC (z8 (eC (.str "\t")) zC))) (ya (z7 3) (yI (z7 5)) yH)))
      zm)
    (zG (zY (pp (tE (zV ve (z8 (e2 y_ (eC (.str "\n")) (z7 7)) zC))))
      (za (eC (.bl false)))
      zm)
    (za (pI (e2 zS (gi uE (z8 (e2 y_ (eC (.str "\n")) (z7 3)) zC)) (z7 1)) (zV ve (z8 (e2 zR (e2 y_ (eC (.str "\n")) (z7 7)) (eC (.str "\n"))) zC)))))))))))))
     [some (false,s),some (false,.lst ((Z.map (·.2.1)).map D.int)),some (false,.lst (Z.map xY)),none,none,none,none,none]=some (.rt o (.bl true)):=by
  have m1:=L.m1
  have m2:=L.m2
  have mx:=u_ c 200
  generalize xP c 200=m at mx
  have rw1:∀ p∈Z,pz [some (false,s),some (false,.lst ((Z.map (·.2.1)).map D.int)),some (false,.lst (Z.map xY)),none,none,none,none,none,some (false,xY p)]=some (.str (ze p)):=fun p hp=>by
    obtain ⟨k,hk⟩:=List.mem_iff_getElem?.mp hp
    have ro:=Jl L hk
    have rl:(ze p).length=_:=kK (zN p.1) (hx p.2.1) p.2.2
    have j:y_ (.str " ") (xY p)=some (.str (ze p)):=uv (ts:=[zN p.1,hx p.2.1,p.2.2]) (by show (zN p.1).length+((hx p.2.1).length+(p.2.2.length+0))+3*1<=_; omega)
    unfold pz
    generalize (Z.map (·.2.1)).map D.int=WW
    generalize Z.map xY=LL
    simp! [j]
  have lc:ye (zt 8) yk pz [some (false,s),some (false,.lst ((Z.map (·.2.1)).map D.int)),some (false,.lst (Z.map xY)),none,none,none,none,none,none] (Z.map xY)=some ((Z.map ze).map D.str):=by
    have go:∀ Y:List (Int×Int×Str),(∀ p∈Y,p∈Z)->ye (zt 8) yk pz [some (false,s),some (false,.lst ((Z.map (·.2.1)).map D.int)),some (false,.lst (Z.map xY)),none,none,none,none,none,none] (Y.map xY)=some ((Y.map ze).map D.str):=fun Y=>by
      induction Y with
      | nil=>intro _; rfl
      | cons p Y ih=>
        intro h
        have e1:=rw1 p (h p List.mem_cons_self)
        have e2:=ih fun q hq=>h q (List.mem_cons_of_mem _ hq)
        rw [List.map_cons,List.map_cons,List.map_cons]
        generalize (Z.map (·.2.1)).map D.int=WW at *
        generalize Z.map xY=LL at *
        generalize Y.map xY=YY at *
        generalize (Y.map ze).map D.str=YR at *
        simp! [ye,yk,e1,e2]
    exact go Z fun _ h=>h
  have lR:((Z.map ze).map D.str).length=Z.length:=by rw [List.length_map,List.length_map]
  have dz:decide (0<(Z.length:Int))=true:=decide_eq_true (by omega)
  have a0:0<=m % (Z.length:Int):=Int.emod_nonneg _ (by omega)
  have a1:m % (Z.length:Int)<(Z.length:Int):=Int.emod_lt_of_pos _ (by omega)
  obtain ⟨a,ha⟩:∃ a:Nat,m % (Z.length:Int)=(a:Int):=Int.eq_ofNat_of_zero_le a0
  have al:a<Z.length:=by omega
  have g:=List.getElem?_eq_getElem al
  have gm:=List.mem_of_getElem? g
  have pn:=L.num a _ g
  obtain ⟨x,sp,fx⟩:=Cv (k:=a) (by omega) (w:=Z[a].2.1) (L.nl _ gm) (L.ln _ gm) (m / 7)
  have ix:zF (.lst (Z.map xY)) (.int (a:Int))=some (xY Z[a]):=by
    show xu (Z.map xY) (a:Int)=_
    refine vh (by omega) ?_
    rw [Int.toNat_natCast,List.getElem?_map,g]
    rfl
  have le:xY Z[a]=.lst [.str (zN (a:Int)),.str (hx Z[a].2.1),.str Z[a].2.2]:=by
    unfold xY
    rw [pn]
  rw [<- le] at fx
  have f1:yh (.int m) (.int 97)=some (.int (m / 97)):=rfl
  have f2:zr (.int (m / 97)) (.int 6)=some (.int (m / 97 % 6)):=rfl
  have f3:yh (.int m) (.int 7)=some (.int (m / 7)):=rfl
  have f4:zR (.int (a:Int)) (.int 1)=some (.int ((a+1:Nat):Int)):=rfl
  have all:∀ {b:Str},b∈Z.map ze->NL b/\b.length<=7050:=fun {b} hb=>by
    obtain ⟨p,hp,rfl⟩:=List.mem_map.mp hb
    obtain ⟨k,hk⟩:=List.mem_iff_getElem?.mp hp
    exact Jl L hk
  have RL:(Z.map ze).length=Z.length:=List.length_map _
  have gT:jH (Z.map ze):=⟨fun z=>by rw [z] at RL; simp at RL; omega,fun b hb=>all hb,by omega⟩
  obtain ⟨TG,jG,tgl,sG⟩:=gT.txt
  have rG:uE [.str TG]=some (.inl (true,.lst ((Z.map (·.2.1)).map D.int))):=by
    refine C6 ?_ (by omega) (by rw [List.length_map]; omega)
    rw [sG]
    have:=J6 L (k:=Z.length) (Nat.le_refl _) .nil
    rw [List.take_length,List.append_nil,List.append_nil] at this
    exact this
  have okd:vt 6 (.lst ((Z.map (·.2.1)).map D.int))=true:=List.all_eq_true.mpr fun d hd=>by
    obtain ⟨v,_,rfl⟩:=List.mem_map.mp hd
    rfl
  have qG:=LJ okd
  have t1:=ID (Z.map ze) a
  have t2:=IC (Z.map ze) (a+1)
  have t3:=ID (Z.map ze) (a+1)
  have t4:=IC (Z.map ze) a
  have u1:zR (.lst (((Z.map ze).take a).map D.str)) (.lst [.str x])=some (.lst (((Z.map ze).take a++[x]).map D.str)):=jK (B:=[x]) (by rw [List.length_take]; show _+1<=_; omega)
  have u2:=jK (A:=(Z.map ze).take a++[x]) (B:=(Z.map ze).drop (a+1)) (by rw [List.length_append,List.length_take,List.length_drop]; show _+1+_<=_; omega)
  have u3:=jK (A:=(Z.map ze).take a) (B:=(Z.map ze).drop (a+1)) (by rw [List.length_take,List.length_drop]; omega)
  have u4:=jK (A:=(Z.map ze).take (a+1)) (B:=(Z.map ze).drop a) (by rw [List.length_take,List.length_drop]; omega)
  have u5:zR (.lst (((Z.map ze).take a).map D.str)) (.lst [.str "\t"])=some (.lst (((Z.map ze).take a++[("\t" : Str)]).map D.str)):=jK (B:=["\t"]) (by rw [List.length_take]; show _+1<=_; omega)
  have u6:=jK (A:=(Z.map ze).take a++[("\t" : Str)]) (B:=(Z.map ze).drop a) (by rw [List.length_append,List.length_take,List.length_drop]; show _+1+_<=_; omega)
  have tk:∀ k,((Z.map ze).take k).map cp=((Z.take k).map ze).map cp:=fun k=>congrArg (List.map cp) List.map_take.symm
  have fin:∀ bs:List Str,jH bs->LX (bs.map cp) 0->(zG (zY (pp (tE (zV ve (z8 (e2 y_ (eC (.str "\n")) (z7 7)) zC))))
      (za (eC (.bl false)))
      zm)
    (za (pI (e2 zS (gi uE (z8 (e2 y_ (eC (.str "\n")) (z7 3)) zC)) (z7 1)) (zV ve (z8 (e2 zR (e2 y_ (eC (.str "\n")) (z7 7)) (eC (.str "\n"))) zC)))))
     [some (false,s),some (false,.lst ((Z.map (·.2.1)).map D.int)),some (false,.lst (Z.map xY)),some (false,.lst ((Z.map ze).map D.str)),some (false,.int m),some (false,.int (a:Int)),some (false,.int (m / 97 % 6)),some (false,.lst (bs.map D.str))]=some (.rt false (.bl true)):=fun bs h1 h2=>by
    obtain ⟨T,j,ad,b1,b2⟩:=OY h1 h2
    generalize (Z.map (·.2.1)).map D.int=WW at *
    generalize Z.map xY=LL at *
    generalize (Z.map ze).map D.str=RR at *
    generalize bs.map D.str=BB at *
    simp! [j,b1,jG,gi,rG,qG,ad,b2]
  have txs:∀ {A B:List Str},(∀ b∈A,b∈Z.map ze\/b=x\/b = "\t")->A.length<=131->A≠[]->jH A:=fun {A B} h l n=>⟨n,fun b hb=>by
    rcases h b hb with q | rfl | rfl
    · exact all q
    · exact ⟨sp.nl,sp.ln⟩
    · exact ⟨by decide +kernel,by decide⟩,l⟩
  have lt:=fun k=>List.length_take (l:=Z.map ze) (i:=k)
  have ld:=fun k=>List.length_drop (l:=Z.map ze) (i:=k)
  have d0:=TK a (by omega) 0 (by decide)
  have f0:=fin ((Z.map ze).take a++[x]++(Z.map ze).drop (a+1)) (txs (B:=[]) (fun b hb=>by
    rcases List.mem_append.mp hb with q | q
    · rcases List.mem_append.mp q with q | q
      · exact .inl (List.mem_of_mem_take q)
      · exact .inr (.inl (List.mem_singleton.mp q))
    · exact .inl (List.mem_of_mem_drop q)) (by rw [List.length_append,List.length_append,lt,ld]; show _+1+_<=_; omega) (by simp)) (by
    rw [List.map_append,List.map_append,tk,List.append_assoc]
    exact kW L (by omega) (.bad sp.bad))
  have fl0:a+1<Z.length->_:=fun hlt=>fin ((Z.map ze).take a++(Z.map ze).drop (a+1)) (txs (B:=[]) (fun b hb=>by
    rcases List.mem_append.mp hb with q | q
    · exact .inl (List.mem_of_mem_take q)
    · exact .inl (List.mem_of_mem_drop q)) (by rw [List.length_append,lt,ld]; omega) (fun z=>by
      have:=congrArg List.length z
      rw [List.length_append,lt,ld,List.length_nil] at this
      omega)) (by
    have gq:=List.getElem?_eq_getElem hlt
    obtain ⟨q,e⟩:=YZ L gq
    have dr:(Z.map ze).drop (a+1)=ze Z[a+1]::(Z.map ze).drop (a+2):=by
      rw [List.drop_eq_getElem_cons (by omega),List.getElem_map]
    rw [List.map_append,tk,dr,List.map_cons]
    refine kW L (by omega) (.bad ?_)
    rw [e]
    exact ⟨by simp,.inr (.inl fun z=>d0 (Option.some.inj z).symm)⟩)
  have fl1:=fin ((Z.map ze).take (a+1)++(Z.map ze).drop a) (txs (B:=[]) (fun b hb=>by
    rcases List.mem_append.mp hb with q | q
    · exact .inl (List.mem_of_mem_take q)
    · exact .inl (List.mem_of_mem_drop q)) (by rw [List.length_append,lt,ld]; omega) (fun z=>by
      have:=congrArg List.length z
      rw [List.length_append,lt,ld,List.length_nil] at this
      omega)) (by
    obtain ⟨q,e⟩:=YZ L g
    have dr:(Z.map ze).drop a=ze Z[a]::(Z.map ze).drop (a+1):=by
      rw [List.drop_eq_getElem_cons (by omega),List.getElem_map]
    rw [List.map_append,tk,dr,List.map_cons]
    refine kW L (by omega) (.bad ?_)
    rw [e]
    exact ⟨by simp,.inr (.inl fun z=>d0 (Option.some.inj z))⟩)
  have fl2:=fin ((Z.map ze).take a++[("\t" : Str)]++(Z.map ze).drop a) (txs (B:=[]) (fun b hb=>by
    rcases List.mem_append.mp hb with q | q
    · rcases List.mem_append.mp q with q | q
      · exact .inl (List.mem_of_mem_take q)
      · exact .inr (.inr (List.mem_singleton.mp q))
    · exact .inl (List.mem_of_mem_drop q)) (by rw [List.length_append,List.length_append,lt,ld]; show _+1+_<=_; omega) (by simp)) (by
    rw [List.map_append,List.map_append,tk,List.append_assoc]
    refine kW L (by omega) (.bad ?_)
    show wp a (V [9])
    exact ⟨by decide,.inl (by decide)⟩)
  refine ⟨false,?_⟩
  have ct:∀ {i j:Int},decide (i=j)=false->zS (.int i) (.int j)=some (.bl false):=fun {i j} h=>by
    show some (D.bl (i == j))=_
    rw [show (i == j)=false from beq_eq_false_iff_ne.mpr (of_decide_eq_false h)]
  have lnc:decide (((a+1:Nat):Int)<(((Z.map ze).map D.str).length:Int))=decide (a+1<Z.length):=by
    rw [lR]
    exact decide_eq_decide.mpr (by omega)
  generalize hw:m / 97 % 6=wy at *
  have w0:0<=wy:=by omega
  have w6:wy<6:=by omega
  generalize (Z.map (·.2.1)).map D.int=WW at *
  generalize hLL:Z.map xY=LL at *
  generalize ((Z.map ze).take a++[x]++(Z.map ze).drop (a+1)).map D.str=B0 at *
  generalize ((Z.map ze).take a++(Z.map ze).drop (a+1)).map D.str=B1 at *
  generalize ((Z.map ze).take (a+1)++(Z.map ze).drop a).map D.str=B2 at *
  generalize ((Z.map ze).take a++[("\t" : Str)]++(Z.map ze).drop a).map D.str=B3 at *
  generalize ((Z.map ze).take a++[x]).map D.str=B4 at *
  generalize ((Z.map ze).take a++[("\t" : Str)]).map D.str=B5 at *
  generalize ((Z.map ze).take a).map D.str=B6 at *
  generalize ((Z.map ze).take (a+1)).map D.str=B7 at *
  generalize ((Z.map ze).drop a).map D.str=B8 at *
  generalize ((Z.map ze).drop (a+1)).map D.str=B9 at *
  generalize (Z.map ze).map D.str=RR at *
  generalize xY Z[a]=LA at *
  have sq:∀ (a b:FS) (σ σ':zz),a σ=some (.nx σ')->zG a b σ=b σ':=fun a b σ σ' h=>by
    show (a σ).bind _=_
    rw [h]
    rfl
  have head:∀ (b:FS),(zG (zP 3 (wD 1 (wg (z7 2)) (zt 8) yk pz))
    (zG (zP 4 (zV xc (z8 (zV wd (z8 (z7 0) (z8 (eC (.int 2)) zC))) (z8 (eC (.int 200)) zC))))
    (zG (zP 5 (e2 zr (z7 4) (eL yz (z8 (z7 3) zC))))
    (zG (zP 6 (e2 zr (e2 yh (z7 4) (eC (.int 97))) (eC (.int 6))))
    (zG (zP 7 (e2 zR (e2 zR (ya (z7 3) yH (yI (z7 5))) (yC (z8 (zV qx (z8 (e2 zF (z7 2) (z7 5)) (z8 (e2 yh (z7 4) (eC (.int 7))) zC))) zC))) (ya (z7 3) (yI (e2 zR (z7 5) (eC (.int 1)))) yH))) b))))) [some (false,s),some (false,.lst WW),some (false,.lst LL),none,none,none,none,none]=b [some (false,s),some (false,.lst WW),some (false,.lst LL),some (false,.lst RR),some (false,.int m),some (false,.int (a:Int)),some (false,.int wy),some (false,.lst B0)]:=fun b=>by
    rw [sq _ _ _ [some (false,s),some (false,.lst WW),some (false,.lst LL),some (false,.lst RR),none,none,none,none] (by simp! [lc]),
      sq _ _ _ [some (false,s),some (false,.lst WW),some (false,.lst LL),some (false,.lst RR),some (false,.int m),none,none,none] (by simp! [hc,mx]),
      sq _ _ _ [some (false,s),some (false,.lst WW),some (false,.lst LL),some (false,.lst RR),some (false,.int m),some (false,.int (a:Int)),none,none] (by simp! [lR,dz,ha]),
      sq _ _ _ [some (false,s),some (false,.lst WW),some (false,.lst LL),some (false,.lst RR),some (false,.int m),some (false,.int (a:Int)),some (false,.int wy),none] (by simp! [f1,f2,hw]),
      sq _ _ _ [some (false,s),some (false,.lst WW),some (false,.lst LL),some (false,.lst RR),some (false,.int m),some (false,.int (a:Int)),some (false,.int wy),some (false,.lst B0)] (by simp! [ya,yH,yI,t1,ix,f3,fx,u1,f4,t2,u2])]
  rw [head]
  rcases (show wy=0\/wy=1\/wy=2\/3<=wy by omega) with h | h | h | h
  · have e0:zS (.int wy) (.int 0)=some (.bl true):=by rw [h]; rfl
    have e1:zS (.int wy) (.int 1)=some (.bl false):=ct (by rw [h]; rfl)
    have e2:zS (.int wy) (.int 2)=some (.bl false):=ct (by rw [h]; rfl)
    by_cases hl:a+1<Z.length
    · rw [decide_eq_true hl] at lnc
      rw [sq _ _ _ [some (false,s),some (false,.lst WW),some (false,.lst LL),some (false,.lst RR),some (false,.int m),some (false,.int (a:Int)),some (false,.int wy),some (false,.lst B1)] (by simp! [e0,f4,lnc,ya,yH,yI,t1,t2,u3]),sq _ _ _ _ (by simp! [e1]; rfl),sq _ _ _ _ (by simp! [e2]; rfl)]
      exact fl0 hl
    · rw [decide_eq_false hl] at lnc
      rw [sq _ _ _ [some (false,s),some (false,.lst WW),some (false,.lst LL),some (false,.lst RR),some (false,.int m),some (false,.int (a:Int)),some (false,.int wy),some (false,.lst B0)] (by simp! [e0,f4,lnc]),sq _ _ _ _ (by simp! [e1]; rfl),sq _ _ _ _ (by simp! [e2]; rfl)]
      exact f0
  · have e0:zS (.int wy) (.int 0)=some (.bl false):=ct (by rw [h]; rfl)
    have e1:zS (.int wy) (.int 1)=some (.bl true):=by rw [h]; rfl
    have e2:zS (.int wy) (.int 2)=some (.bl false):=ct (by rw [h]; rfl)
    rw [sq _ _ _ [some (false,s),some (false,.lst WW),some (false,.lst LL),some (false,.lst RR),some (false,.int m),some (false,.int (a:Int)),some (false,.int wy),some (false,.lst B0)] (by simp! [e0]),sq _ _ _ [some (false,s),some (false,.lst WW),some (false,.lst LL),some (false,.lst RR),some (false,.int m),some (false,.int (a:Int)),some (false,.int wy),some (false,.lst B2)] (by simp! [e1,f4,ya,yH,yI,t3,t4,u4]),sq _ _ _ _ (by simp! [e2]; rfl)]
    exact fl1
  · have e0:zS (.int wy) (.int 0)=some (.bl false):=ct (by rw [h]; rfl)
    have e1:zS (.int wy) (.int 1)=some (.bl false):=ct (by rw [h]; rfl)
    have e2:zS (.int wy) (.int 2)=some (.bl true):=by rw [h]; rfl
    rw [sq _ _ _ [some (false,s),some (false,.lst WW),some (false,.lst LL),some (false,.lst RR),some (false,.int m),some (false,.int (a:Int)),some (false,.int wy),some (false,.lst B0)] (by simp! [e0]),sq _ _ _ [some (false,s),some (false,.lst WW),some (false,.lst LL),some (false,.lst RR),some (false,.int m),some (false,.int (a:Int)),some (false,.int wy),some (false,.lst B0)] (by simp! [e1]),sq _ _ _ [some (false,s),some (false,.lst WW),some (false,.lst LL),some (false,.lst RR),some (false,.int m),some (false,.int (a:Int)),some (false,.int wy),some (false,.lst B3)] (by simp! [e2,ya,yH,yI,t1,u5,t4,u6])]
    exact fl2
  · have e0:zS (.int wy) (.int 0)=some (.bl false):=ct (decide_eq_false (by omega))
    have e1:zS (.int wy) (.int 1)=some (.bl false):=ct (decide_eq_false (by omega))
    have e2:zS (.int wy) (.int 2)=some (.bl false):=ct (decide_eq_false (by omega))
    rw [sq _ _ _ [some (false,s),some (false,.lst WW),some (false,.lst LL),some (false,.lst RR),some (false,.int m),some (false,.int (a:Int)),some (false,.int wy),some (false,.lst B0)] (by simp! [e0]),sq _ _ _ [some (false,s),some (false,.lst WW),some (false,.lst LL),some (false,.lst RR),some (false,.int m),some (false,.int (a:Int)),some (false,.int wy),some (false,.lst B0)] (by simp! [e1]),sq _ _ _ [some (false,s),some (false,.lst WW),some (false,.lst LL),some (false,.lst RR),some (false,.int m),some (false,.int (a:Int)),some (false,.int wy),some (false,.lst B0)] (by simp! [e2])]
    exact f0
theorem D3:ZG [(0,42,("" : Str))]:=by
 refine ⟨fun k p h=>?_,fun p h=>?_,fun p h=>?_,fun p h=>?_,by decide,by decide⟩
 ·cases k with
  | zero=>cases h; rfl
  | succ k=>cases h
 ·cases List.mem_singleton.mp h
  decide
 ·cases List.mem_singleton.mp h
  decide +kernel
 ·cases List.mem_singleton.mp h
  decide
theorem B_:xY (0,42,("" : Str))=.lst [.str "0",.str "0000002a",.str ""]:=by
 have h1:zN 0 = "0" := by decide +kernel
 have h2:hx 42 = "0000002a" := by decide +kernel
 unfold xY
 rw [h1,h2]
theorem CG:∀ ns:List Int,ns.length<=63->(∀ m∈ns,pF m<=1048576)->∃ o,yP 8 Uo [.lst (ns.map D.int)]=some (o,.bl true):=fun ns hl hb=>by
 obtain ⟨rows,items,h1,h2,_,_,_,eb⟩:=Oe ns
 have ec:=gZ ns (k:=2) (by omega)
 generalize vN ns 2=c at ec
 generalize D.lst (ns.map D.int)=s at eb ec ⊢
 obtain ⟨far0,R,k,j0,hR,ea⟩:=OL h2 (by omega) c (c % 3)
 have W:Wr rows R:=⟨h2,by omega,Jj hR,fun i hi=>Ji hR j0 i (MJ.mp hi)⟩
 have el:=Mp W
 have i0:zF (.tup [.lst rows,.lst items]) (.int 0)=some (.lst rows):=rfl
 have fm:zr (.int c) (.int 3)=some (.int (c % 3)):=rfl
 have eB:∃ o,gI [s]=some (o,.lst ((yD rows R rows.length).map D.int)):=by
  rw [Lv]
  unfold WD
  generalize (yD rows R rows.length).map D.int=WW at *
  refine ⟨false,?_⟩
  simp! [eb,i0,ec,fm,ea,el]
 obtain ⟨o,eB⟩:=eB
 have e2:=Mm W
 have al:=OG W
 have ll:=QT W
 have sq:∀ (a b:FS) (σ σ':zz),a σ=some (.nx σ')->zG a b σ=b σ':=fun a b σ σ' h=>by
  show (a σ).bind _=_
  rw [h]
  rfl
 unfold Uo
 by_cases hn:yV rows R rows.length=[]
 ·have e3:(yV rows R rows.length).map (yw rows R)=[]:=by rw [hn]; rfl
  rw [e3] at e2
  obtain ⟨o',ft⟩:=QN D3 s c ec none
  have qe:zS (.lst []) (.lst [])=some (.bl true):=by rfl
  refine ⟨o',?_⟩
  show ((zG _ _ [some (false,s),none,none,none,none,none,none,none]).bind _)=_
  rw [List.map_singleton,List.map_singleton,List.map_singleton,B_] at ft
  generalize (yD rows R rows.length).map D.int=WW at *
  rw [sq _ _ _ [some (false,s),some (false,.lst WW),none,none,none,none,none,none] (by simp! [eB]),sq _ _ _ [some (false,s),some (false,.lst WW),some (false,.lst []),none,none,none,none,none] (by simp! [e2]),sq _ _ _ [some (false,s),some (false,.lst [.int 42]),some (false,.lst [.lst [.str "0",.str "0000002a",.str ""]]),none,none,none,none,none] (by simp! [qe]),ft]
  rfl
 ·have Zl:((yV rows R rows.length).map fun p=>(p.1,wA rows R p.1,p.2)).map xY=(yV rows R rows.length).map (yw rows R):=by
   rw [List.map_map]
   rfl
  have zw:((yV rows R rows.length).map fun p=>(p.1,wA rows R p.1,p.2)).map (·.2.1)=yD rows R rows.length:=by
   rw [List.map_map]
   refine List.ext_getElem? fun i=>?_
   rw [List.getElem?_map]
   cases g:(yV rows R rows.length)[i]? with
   | none=>
    have:=List.getElem?_eq_none_iff.mp g
    exact (List.getElem?_eq_none (by omega)).symm
   | some p=>
    obtain ⟨pe,hv,_⟩:=V5 W g
    show some (wA rows R p.1)=_
    rw [pe,List.getElem?_eq_getElem hv]
    unfold wA
    rw [Int.toNat_natCast,List.getD_eq_getElem?_getD,List.getElem?_eq_getElem hv]
    rfl
  have Ls:ZG ((yV rows R rows.length).map fun p=>(p.1,wA rows R p.1,p.2)):=by
   have mem:∀ {q:Int×Int×Str},q∈((yV rows R rows.length).map fun p=>(p.1,wA rows R p.1,p.2))->∃ (i:Nat) (p:Int×Str),(yV rows R rows.length)[i]?=some p/\q=(p.1,wA rows R p.1,p.2):=fun {q} hq=>by
    obtain ⟨p,hp,rfl⟩:=List.mem_map.mp hq
    obtain ⟨i,hi⟩:=List.mem_iff_getElem?.mp hp
    exact ⟨i,p,hi,rfl⟩
   refine ⟨fun i q h=>?_,fun q hq=>?_,fun q hq=>?_,fun q hq=>?_,?_,?_⟩
   ·rw [List.getElem?_map] at h
    cases g:(yV rows R rows.length)[i]? with
    | none=>rw [g] at h; cases h
    | some p=>rw [g] at h; cases h; exact (V5 W g).1
   ·obtain ⟨i,p,g,rfl⟩:=mem hq
    obtain ⟨pe,hv,_⟩:=V5 W g
    show 0<=wA rows R p.1/\_
    rw [pe]
    exact Es W hv
   ·obtain ⟨i,p,g,e⟩:=mem hq
    have:=G9 W g
    rw [e]
    exact this
   ·obtain ⟨i,p,g,e⟩:=mem hq
    have:=yF W g
    rw [e]
    exact this
   ·rw [List.length_map]
    exact List.length_pos_iff.mpr hn
   ·rw [List.length_map]; omega
  obtain ⟨o',ft⟩:=QN Ls s c ec none
  rw [Zl,zw] at ft
  have qe:zS (.lst ((yV rows R rows.length).map (yw rows R))) (.lst [])=some (.bl false):=by
   cases g:yV rows R rows.length with
   | nil=>exact absurd g hn
   | cons p r=>rfl
  refine ⟨o',?_⟩
  show ((zG _ _ [some (false,s),none,none,none,none,none,none,none]).bind _)=_
  generalize (yD rows R rows.length).map D.int=WW at *
  generalize (yV rows R rows.length).map (yw rows R)=LL at *
  rw [sq _ _ _ [some (false,s),some (false,.lst WW),none,none,none,none,none,none] (by simp! [eB]),sq _ _ _ [some (false,s),some (false,.lst WW),some (false,.lst LL),none,none,none,none,none] (by simp! [e2]),sq _ _ _ [some (false,s),some (false,.lst WW),some (false,.lst LL),none,none,none,none,none] (by simp! [qe]),ft]
  rfl
end L3
local macro_rules
 | `(tactic| ac_rfl)=>`(tactic| exact ⟨rfl,rfl,rfl,by decide +kernel,rfl,by decide +kernel,by decide +kernel⟩)
namespace My
open PySem L2 L3
set_option maxHeartbeats 4000000
noncomputable def top (i:Nat):Stmt:=PySem.Challenge.pw_markrun_k64_listings_refused.main.body.getD i (.Pass ⟨0,0,0,0⟩)
section
variable {P:Program} {w:World} {K:PySem.W.Frag} {mg:Str->Option Value} {base:Heap} {A_MARKS:Addr} {A_FIELDS:Addr} {A_NUMBER_WIDTHS:Addr} {A_PLACES:Addr} {A_CODES:Addr} {A_NEAR_CODES:Addr} {A_FAR_CODES:Addr} {A_SIGN_LOWS:Addr} {C_BadNumber:Addr} {C_BadState:Addr} {C_BadText:Addr} {C_BadWords:Addr} {C_NoAddress:Addr} {C_NoLabel:Addr} {C_RunError:Addr}
noncomputable abbrev Yc:Stmt:=top 11
theorem Yi:yc ["text", "word", "sign"] ["text"] (y9 Yc):=by ac_rfl
theorem Bx (d:Def K mg "read_hex" Yc ["text"]) (yF:mg "len" = none) (g_SIGN_LOWS:qI mg "SIGN_LOWS" (.ref A_SIGN_LOWS)) (q_SIGN_LOWS:∀ H,zb K H kA (.ref A_SIGN_LOWS)) (g_SIGNS:qI mg "SIGNS" (.str "0123456789abcdef")) (q_SIGNS:∀ H,zb K H (.str "0123456789abcdef") (.str "0123456789abcdef")) (c_BadNumber:xO K mg "BadNumber" C_BadNumber):gK P w K mg base "read_hex" ["text"] 1 (u0 K mg jA):=
 Def.okXSN d Yi (by decide) XI fun f cdv A outer s H E hr=>(UG (yB (tj (xK hr)) tY (zI (xr wB wE rfl yF w8 (yl (zI (zA 0)) ym))) (zI (xr wB wE rfl yF w8 (yl (zI (U3 g_SIGN_LOWS q_SIGN_LOWS rfl)) ym))) (yE _)) c_BadNumber JZ hr.hd rfl (zB (Yl (tD (Jy (zA 0)) (tD zO Yn))) zM)
  (UE (zZ (i:=1) Yi.nd rfl (Or.inl rfl) zD)
   (Z5 (IV DK rfl (qm (zA 0)) (t9 (xZ (i:=2) Yi.nd rfl (Or.inl rfl)) rfl) (UG (yB (Qp (zX hr)) Qm (zI (zA 2)) (zI (U3 g_SIGNS q_SIGNS rfl)) (by with_unfolding_all rfl)) c_BadNumber JZ hr.hd rfl (zB (Yl (tD (Jy (zA 2)) (tD zO Yn))) zM)
     (UF (zW (zZ (i:=1) Yi.nd rfl (Or.inl rfl) (zJ zy zx (zJ tf qd (zA 1) zD) (CY (U3 g_SIGNS q_SIGNS rfl) (zA 2))))))))
    (UF (zW (yZ (zA 1)))))))
noncomputable abbrev Ye:Stmt:=top 14
theorem CQ:yc ["parts", "number"] ["parts", "number"] (y9 Ye):=by ac_rfl
theorem Bz (d:Def K mg "word_told" Ye ["parts", "number"]) (z_str:mg "str" = none) (yF:mg "len" = none) (c_BadText:xO K mg "BadText" C_BadText) (c_BadNumber:xO K mg "BadNumber" C_BadNumber) (m_BadNumber_BadNumber:PySem.W.exmOne K (.ref C_BadNumber) (.ref C_BadNumber)=some true) (h_read_hex:gK P w K mg base "read_hex" ["text"] 1 (u0 K mg jA)):uF P w K mg base "word_told" ["parts", "number"] 2 (u0 K mg jD):=
 Def.okXS d CQ (by decide) XI fun f cdv A outer s H E hr=>(UG (tu (pd (yB wV xE (zI (xr wB wE rfl yF w8 (yl (zI (zA 0)) ym))) (zI zD) (yE _)) (jz (yB (tj (xK hr)) tY (zI (zh (zc (zX hr)) zd (zA 0) zD)) (zI (v_ jU jo rfl z_str jS (yl (zI (zA 1)) ym))) (yE _))))) c_BadText F_ hr.hd rfl (zB (Yl (tD zO (tD (Jx (zA 1)) (tD zO Yn)))) zM)
  (Z5 (E4 rfl rfl rfl hr h_read_hex rfl (zB (zh (zc (zX hr)) zd (zA 0) zD) zM) c_BadNumber.at_ rfl c_BadNumber.at_ m_BadNumber_BadNumber c_BadText rfl M2 (fun a=>(zB (Yl (tD zO (tD (Jx (zA 1)) (tD zO Yn)))) zM)))
   Yu))
noncomputable abbrev Yd:Stmt:=top 13
theorem Yj:yc ["text", "words", "row", "parts"] ["text"] (y9 Yd):=by ac_rfl
theorem By (d:Def K mg "read_listing" Yd ["text"]) (yF:mg "len" = none) (h_word_told:uF P w K mg base "word_told" ["parts", "number"] 2 (u0 K mg jD)):uF P w K mg base "read_listing" ["text"] 3 (u0 K mg uE):=
 Def.okXS d Yj (by decide) XI fun f cdv A outer s H E hr=>(UE (tF (i:=1) Yj.nd rfl (Or.inl rfl) (yX zM (zg zk (by decide))))
  (Z5 (IV DI rfl (qm (yj (J_ (zA 0) zO))) (t9 (xZ (i:=2) Yj.nd rfl (Or.inl rfl)) rfl) (UE (U8 (i:=3) rfl Yj.nd rfl rfl (pG (own:=["word"]) rfl) rfl (qm (yj (J_ (zA 2) zO))) (pE (fun C s H fp pn=>(xZ (i:=4) (show (um ["text", "words", "row", "parts"] ["word"]).Nodup by decide +kernel) rfl (Or.inl rfl))) rfl) (fun C s H fp pn=>(UB (yB (tj (xK hr)) tY (zI (zA 4)) (zI zO) (yE _)))) (fun C s H fp pn=>(zA 4)))
    (Z5 (E3 (yB (tj (xK hr)) tY (zI (zA 3)) (zI (yj (yX zM (zg zk (by decide))))) (yE _)) (Z5 (E2 (qv 1) h_word_told DN hr rfl (zB (zA 3) (zB (xr wB wE rfl yF w8 (yl (CL 1) ym)) zM)))
      Yu) Yu)
     Yu)))
   (UF (zW (jy 1)))))
noncomputable abbrev HT:=Program->World->PySem.W.Frag->(Str->Option Value)->Heap->Prop
section
variable {h:Heap} (X:K.In h) (G:h.Ns mainGlobals mg)
noncomputable abbrev Vc:Stmt:=top 16
theorem CN:yc ["_law_script", "_law_k"] ["_law_script", "_law_k"] (y9 Vc):=by ac_rfl
variable (yF:mg "len" = none)
noncomputable def XO:HT:=fun P w K mg base=>yt P w K mg base "_law_cell_at" ["_law_script", "_law_k"] 1 (xB K wd)
include X G yF in
theorem BW (a:zp K "_law_cell_at" Vc):XO P w K mg base:=(a.d2 X G).oS P w base 0 wd CN CH fun hr=>(zQ (yN (yB wV xE (zI (zA 1)) (zI (xr wB wE rfl yF w8 (yl (zI (zA 0)) ym))) (yE _)) (zW (yZ (zh (zc (zX hr)) zd (zA 0) (zA 1)))) yY) (zW (yZ zD)))
noncomputable abbrev Vk:Stmt:=top 17
theorem CP:yc ["_law_cell", "_law_k"] ["_law_cell", "_law_k"] (y9 Vk):=by ac_rfl
noncomputable def XZ:HT:=fun P w K mg base=>yt P w K mg base "_law_mixed" ["_law_cell", "_law_k"] 1 (xB K xc)
include X G in
theorem Be (a:zp K "_law_mixed" Vk):XZ P w K mg base:=(a.d2 X G).oS P w base 0 xc CP xR fun hr=>(zW (yZ (zJ yK yJ (zJ vw vv (zJ yK yJ (zJ zy zx (zJ tf qd (zA 0) zD) (zJ tf qd (zJ zy zx (zA 1) zD) zD)) zD) zD) zD)))
noncomputable abbrev Vl:Stmt:=top 18
theorem jt:yc ["_law_k", "_law_shape", "_law_letters", "_law_tail", "_law_name", "_law_turn"] ["_law_k", "_law_shape"] (y9 Vl):=by ac_rfl
variable (z_range:mg "range" = none) (h_law_mixed:XZ P w K mg base)
noncomputable def Xa:HT:=fun P w K mg base=>yt P w K mg base "_law_name_by" ["_law_k", "_law_shape"] 2 (xB K tJ)
include X G z_range h_law_mixed in
theorem Bf (a:zp K "_law_name_by" Vl):Xa P w K mg base:=(a.d2 X G).oS P w base 1 tJ jt xR fun hr=>(zQ (zZ (i:=2) jt.nd rfl (Or.inr rfl) zO) (zQ (zZ (i:=3) jt.nd rfl (Or.inl rfl) (pY zO (zI (yj (Ym rfl (pG (own:=["_law_j"]) rfl) (ql rfl z_range (zJ yK yJ (zJ xM xL (zA 1) zD) zD)) (pE (fun C s H fp pn=>(xZ (i:=6) (show (um ["_law_k", "_law_shape", "_law_letters", "_law_tail", "_law_name", "_law_turn"] ["_law_j"]).Nodup by decide +kernel) rfl (Or.inl rfl))) rfl) (fun C s H fp pn=>Yt) (fun C s H fp pn=>(zh (zc (zX hr)) zd (zA 2) (zJ yK yJ (yM h_law_mixed hr rfl (zB (zA 1) (zB (zA 6) zM))) zD)))))))) (zQ (yN (yB (wI (xK hr)) wH (zI (zJ yK yJ (zA 1) zD)) (zI zD) (yE _)) (zQ (zZ (i:=4) jt.nd rfl (Or.inl rfl) (zh (zc (zX hr)) zd (zA 2) (zJ yK yJ (zA 0) zD))) (zQ (qp PassesOwn.never rfl (ql rfl z_range (zJ xM xL (zA 0) zD)) (t9 (xZ (i:=5) jt.nd rfl (Or.inl rfl)) rfl) (zW (zZ (i:=4) jt.nd rfl (Or.inl rfl) (zJ zy zx (zA 4) zO)))) (zW (yZ (zA 4))))) yY) (zQ (yN (yB (wI (xK hr)) wH (zI (zJ yK yJ (zA 1) zD)) (zI zD) (yE _)) (zW (yZ (zJ zy zx (zJ zy zx (zh (zc (zX hr)) zd (zA 2) (zJ yK yJ (zA 0) zD)) (zh (zc (zX hr)) zd (zA 2) (zJ xM xL (zA 0) zD))) (wn (zA 3) wZ (wb zD))))) yY) (zW (yZ (zJ zy zx (zJ zy zx (wn (zA 3) wZ (wb zD)) (zh (zc (zX hr)) zd (zA 2) (zJ xM xL (zA 0) zD))) (zh (zc (zX hr)) zd (zA 2) (zJ yK yJ (zA 0) zD)))))))))
noncomputable abbrev Vr:Stmt:=top 19
theorem k_:yc ["_law_cell", "_law_kind", "_law_first", "_law_other", "_law_rest"] ["_law_cell"] (y9 Vr):=by ac_rfl
noncomputable def Xg:HT:=fun P w K mg base=>yt P w K mg base "_law_row_by" ["_law_cell"] 1 (xB K j7)
include X G in
theorem Bl (a:zp K "_law_row_by" Vr):Xg P w K mg base:=(a.d1 X G).oS P w base 0 j7 k_ xR fun hr=>(zQ (zZ (i:=1) k_.nd rfl (Or.inl rfl) (zJ yK yJ (zA 0) zD)) (zQ (zZ (i:=2) k_.nd rfl (Or.inl rfl) (zJ yK yJ (zJ xM xL (zA 0) zD) zD)) (zQ (zZ (i:=3) k_.nd rfl (Or.inl rfl) (zJ yK yJ (zJ xM xL (zA 0) zD) zD)) (zQ (zZ (i:=4) k_.nd rfl (Or.inl rfl) (zJ xM xL (zA 0) zD)) (zQ (yN (yB (wI (xK hr)) wH (zI (zA 1)) (zI zD) (yE _)) (zW (yZ (xN (zB zO zM) (zg (zH zk) (by decide))))) yY) (zQ (yN (yB wV xE (zI (zA 1)) (zI zD) (yE _)) (zW (yZ (xN (zB (zh (zc (zX hr)) zd (yj (yX (zB zO (zB zO zM)) (zg (zH (zH zk)) (by decide)))) (zJ vW vV (zA 1) zD)) (zB (zA 2) (zB (zh (zc (zX hr)) zd (yj (yX (zB (zJ yK yJ (zA 4) zD) (zB zD (zB zD (zB (zJ yK yJ (zA 4) zD) zM)))) (zg (zH (zH (zH (zH zk)))) (by decide)))) (zJ yK yJ (zJ xM xL (zA 4) zD) zD)) zM))) (zg (zH (zH (zH zk))) (by decide))))) yY) (zQ (yN (yB wV xE (zI (zA 1)) (zI zD) (yE _)) (zW (yZ (xN (zB (zh (zc (zX hr)) zd (yj (yX (zB zO (zB zO (zB zO (zB zO (zB zO (zB zO (zB zO (zB zO (zB zO zM))))))))) (zg (zH (zH (zH (zH (zH (zH (zH (zH (zH zk))))))))) (by decide)))) (zJ vW vV (zA 1) zD)) (zB (zA 2) (zB (zA 3) zM))) (zg (zH (zH (zH zk))) (by decide))))) yY) (zQ (yN (yB wV xE (zI (zA 1)) (zI zD) (yE _)) (zW (yZ (xN (zB (zh (zc (zX hr)) zd (yj (yX (zB zO (zB zO zM)) (zg (zH (zH zk)) (by decide)))) (zJ vW vV (zA 1) zD)) (zB (zA 2) (zB (zh (zc (zX hr)) zd (yj (yX (zB (zJ yK yJ (zA 4) zD) (zB zD (zB zD (zB zD zM)))) (zg (zH (zH (zH (zH zk)))) (by decide)))) (zJ yK yJ (zJ xM xL (zA 4) zD) zD)) zM))) (zg (zH (zH (zH zk))) (by decide))))) yY) (zW (yZ (xN (zB (zh (zc (zX hr)) zd (yj (yX (zB zO (zB zO (zB zO (zB zO zM)))) (zg (zH (zH (zH (zH zk)))) (by decide)))) (zJ vW vV (zA 1) zD)) (zB (zA 2) (zB (zA 3) (zB (zh (zc (zX hr)) zd (yj (yX (zB (zJ yK yJ (zA 4) zD) (zB zD (zB zD zM))) (zg (zH (zH (zH zk))) (by decide)))) (zJ yK yJ (zJ xM xL (zA 4) zD) zD)) zM)))) (zg (zH (zH (zH (zH zk)))) (by decide)))))))))))))
noncomputable abbrev Vo:Stmt:=top 20
theorem V_:yc ["_law_number", "_law_many", "_law_cell", "_law_way", "_law_far"] ["_law_number", "_law_many", "_law_cell"] (y9 Vo):=by ac_rfl
variable (z_max:mg "max" = none) (z_min:mg "min" = none)
noncomputable def Xd:HT:=fun P w K mg base=>yt P w K mg base "_law_place_by" ["_law_number", "_law_many", "_law_cell"] 1 (xB K j6)
include X G z_max z_min in
theorem Bi (a:zp K "_law_place_by" Vo):Xd P w K mg base:=(a.d3 X G).oS P w base 0 j6 V_ xR fun hr=>(zQ (zZ (i:=3) V_.nd rfl (Or.inl rfl) (zJ yK yJ (zA 2) zD)) (zQ (zZ (i:=4) V_.nd rfl (Or.inl rfl) (zJ zy zx (zA 0) (zh (zc (zX hr)) zd (yj (yX (zB zD (zB zD (zB zD (zB zD (zB (vY vc vb zD) (zB (vY vc vb zD) (zB (vY vc vb zD) (zB (vY vc vb zD) zM)))))))) (zg (zH (zH (zH (zH (zH (zH (zH (zH zk)))))))) (by decide)))) (zJ yK yJ (zJ xM xL (zA 2) zD) zD)))) (zQ (yN (tu (UC (yB wV xE (zI (zA 3)) (zI zD) (yE _)) (UD (IM YN xE YN xE (zI zD) (zI (zA 4)) (zI (zA 1)))))) (zW (yZ (zA 4))) yY) (zQ (yN (yB wV xE (zI (zA 3)) (zI zD) (yE _)) (zW (yZ (zJ yK yJ (zJ xM xL (zA 2) zD) (zJ zy zx (zA 1) zD)))) yY) (zW (yZ (xr (Oi rfl) Bt rfl z_max Ob (yl (zI zD) (yl (zI (xr (Oj rfl) Bu rfl z_min Oc (yl (zI (zA 1)) (yl (zI (zJ vW vV (zJ zy zx (zA 0) (zJ yK yJ (zJ xM xL (zA 2) zD) zD)) zD)) ym)))) ym)))))))))
noncomputable abbrev Vt:Stmt:=top 21
theorem pX:yc ["_law_script", "_law_many", "_law_dense", "_law_found", "_law_number", "_law_cell", "_law_place", "_law_word_here"] ["_law_script", "_law_many", "_law_dense"] (y9 Vt):=by ac_rfl
variable (h_law_cell_at:XO P w K mg base) (h_law_place_by:Xd P w K mg base) (h_law_row_by:Xg P w K mg base)
noncomputable def Xi:HT:=fun P w K mg base=>yt P w K mg base "_law_rows_by" ["_law_script", "_law_many", "_law_dense"] 3 (xB K gH)
include X G z_range yF h_law_cell_at h_law_mixed h_law_place_by h_law_row_by in
theorem Bn (a:zp K "_law_rows_by" Vt):Xi P w K mg base:=(a.d3 X G).oS P w base 2 gH pX xR fun hr=>(zQ (tF (i:=3) pX.nd rfl (Or.inl rfl) (yX zM (zg zk (by decide)))) (zQ (qp PassesOwn.never rfl (ql rfl z_range (zA 1)) (t9 (xZ (i:=4) pX.nd rfl (Or.inl rfl)) rfl) (zQ (zZ (i:=5) pX.nd rfl (Or.inl rfl) (yM h_law_cell_at hr rfl (zB (zA 0) (zB (zJ zy zx zD (zA 4)) zM)))) (zQ (yN (yB wV xE (zI (xr wB wE rfl yF w8 (yl (zI (zA 0)) ym))) (zI (zJ zy zx zD (zA 4))) (yE _)) (zW (zZ (i:=5) pX.nd rfl (Or.inl rfl) (yM h_law_mixed hr rfl (zB (yM h_law_cell_at hr rfl (zB (zA 0) (zB zD zM))) (zB (zA 4) zM))))) yY) (zW (yN (yB wV xE (zI (zJ yK yJ (yM h_law_mixed hr rfl (zB (zA 5) (zB zD zM))) zD)) (zI (zA 2)) (yE _)) (zQ (zZ (i:=6) pX.nd rfl (Or.inl rfl) (yM h_law_place_by hr rfl (zB (zA 4) (zB (zA 1) (zB (yM h_law_mixed hr rfl (zB (zA 5) (zB zD zM))) zM))))) (zQ (zZ (i:=7) pX.nd rfl (Or.inl rfl) (zh (zc (zX hr)) zd (yj (yX (zB zO (zB zO (zB zO zM))) (zg (zH (zH (zH zk))) (by decide)))) (zJ yK yJ (yM h_law_mixed hr rfl (zB (zA 5) (zB zD zM))) zD))) (zW (yN (yB (wI (xK hr)) wH (zI (zA 7)) (zI zO) (yE _)) (zW (u8 (qv 3) (xN (zB (zA 7) (zB (zA 6) zM)) (zg (zH (zH zk)) (by decide))))) (zW (u8 (qv 3) (xN (zB (zA 7) (zB (zh (zc (zX hr)) zd (yj (yX (zB zO (zB zO (zB zO zM))) (zg (zH (zH (zH zk))) (by decide)))) (zJ yK yJ (yM h_law_mixed hr rfl (zB (zA 5) (zB zD zM))) zD)) (zB (zA 6) zM))) (zg (zH (zH (zH zk))) (by decide))))))))) (zW (u8 (qv 3) (yM h_law_row_by hr rfl (zB (yM h_law_mixed hr rfl (zB (zA 5) (zB zD zM))) zM))))))))) (zW (jy 3))))
noncomputable abbrev Vh:Stmt:=top 22
theorem CO:yc ["_law_rows"] ["_law_rows"] (y9 Vh):=by ac_rfl
noncomputable def XU:HT:=fun P w K mg base=>yt P w K mg base "_law_jumps_in" ["_law_rows"] 1 (xB K qu)
include X G z_range yF in
theorem Bb (a:zp K "_law_jumps_in" Vh):XU P w K mg base:=(a.d1 X G).oS P w base 0 qu CO xR fun hr=>(zW (Yq (Ym rfl (pG (own:=["_law_number"]) rfl) (ql rfl z_range (xr wB wE rfl yF w8 (yl (zI (zA 0)) ym))) (pE (fun C s H fp pn=>(xZ (i:=1) (show (um ["_law_rows"] ["_law_number"]).Nodup by decide +kernel) rfl (Or.inl rfl))) rfl) (fun C s H fp pn=>(UB (yB (t6 (zX hr)) t5 (zI (zh (zc (zX hr)) zd (zh (zc (zX hr)) zd (zA 0) (zA 1)) zD)) (zI (xN (zB zO (zB zO (zB zO zM))) (zg (zH (zH (zH zk))) (by decide)))) (by with_unfolding_all rfl)))) (fun C s H fp pn=>(zA 1)))))
noncomputable abbrev Vj:Stmt:=top 23
theorem Yg:yc ["_law_cell", "_law_many"] ["_law_cell"] (y9 Vj):=by ac_rfl
noncomputable def XW:HT:=fun P w K mg base=>yt P w K mg base "_law_many_by" ["_law_cell"] 1 (xB K gD)
include X G in
theorem Bd (a:zp K "_law_many_by" Vj):XW P w K mg base:=(a.d1 X G).oS P w base 0 gD Yg xR fun hr=>(zQ (zZ (i:=1) Yg.nd rfl (Or.inl rfl) (zJ yK yJ (zA 0) zD)) (zQ (yN (yB (wI (xK hr)) wH (zI (zJ yK yJ (zJ xM xL (zA 0) zD) zD)) (zI zD) (yE _)) (zW (zZ (i:=1) Yg.nd rfl (Or.inl rfl) (zJ zy zx zD (zJ yK yJ (zJ xM xL (zA 0) zD) zD)))) yY) (zQ (yN (yB (wI (xK hr)) wH (zI (zJ yK yJ (zJ xM xL (zA 0) zD) zD)) (zI zD) (yE _)) (zW (zZ (i:=1) Yg.nd rfl (Or.inl rfl) (zJ zy zx zD (zJ yK yJ (zJ xM xL (zA 0) zD) zD)))) yY) (zW (yZ (zA 1))))))
noncomputable abbrev Ve:Stmt:=top 24
theorem uS:yc ["_law_rows", "_law_cell", "_law_shape", "_law_places", "_law_names", "_law_items", "_law_count", "_law_place", "_law_more", "_law_jumps"] ["_law_rows", "_law_cell"] (y9 Ve):=by ac_rfl
variable (h_law_jumps_in:XU P w K mg base) (h_law_name_by:Xa P w K mg base)
noncomputable def XR:HT:=fun P w K mg base=>yt P w K mg base "_law_items_by" ["_law_rows", "_law_cell"] 4 (xB K gB)
include X G z_range yF h_law_jumps_in h_law_mixed h_law_name_by in
theorem BY (a:zp K "_law_items_by" Ve):XR P w K mg base:=(a.d2 X G).oS P w base 3 gB uS xR fun hr=>(zQ (zZ (i:=2) uS.nd rfl (Or.inl rfl) (zJ yK yJ (zJ xM xL (zA 1) zD) zD)) (zQ (U8 (i:=3) rfl uS.nd rfl rfl (pG (own:=["_law_number"]) rfl) rfl (qm (yM h_law_jumps_in hr rfl (zB (zA 0) zM))) (pE (fun C s H fp pn=>(xZ (i:=10) (show (um ["_law_rows", "_law_cell", "_law_shape", "_law_places", "_law_names", "_law_items", "_law_count", "_law_place", "_law_more", "_law_jumps"] ["_law_number"]).Nodup by decide +kernel) rfl (Or.inl rfl))) rfl) (fun C s H fp pn=>Yt) (fun C s H fp pn=>(zh (zc (zX hr)) zd (zh (zc (zX hr)) zd (zA 0) (zA 10)) (vY vc vb zD)))) (zQ (tF (i:=4) uS.nd rfl (Or.inr rfl) Cf) (zQ (tF (i:=5) uS.nd rfl (Or.inl rfl) (yX zM (zg zk (by decide)))) (zQ (zZ (i:=6) uS.nd rfl (Or.inl rfl) zD) (zQ (qp PassesOwn.never rfl (ql rfl z_range (zJ zy zx (xr wB wE rfl yF w8 (yl (zI (zA 0)) ym)) zD)) (t9 (xZ (i:=7) uS.nd rfl (Or.inl rfl)) rfl) (zQ (zZ (i:=8) uS.nd rfl (Or.inl rfl) (zJ yK yJ (yM h_law_mixed hr rfl (zB (zA 1) (zB (zA 7) zM))) zD)) (zQ (yN (tu (pd (yB (t6 (zX hr)) t5 (zI (zA 7)) (zI (zA 3)) (by with_unfolding_all rfl)) (jz (yB (wI (xK hr)) wH (zI (zA 8)) (zI zD) (yE _))))) (zQ (Cw (zX hr) (qv 4) (zA 7) (yM h_law_name_by hr rfl (zB (zA 6) (zB (zA 2) zM)))) (zQ (u8 (qv 5) (xN (zB zO (zB (U5 (zX hr) (qv 4) (zA 7)) zM)) (zg (zH (zH zk)) (by decide)))) (zW (IK (i:=6) QC Ql uS.nd rfl (Or.inl rfl) zD)))) yY) (zQ (yN (yB (wI (xK hr)) wH (zI (zA 8)) (zI zD) (yE _)) (zQ (u8 (qv 5) (xN (zB zO (zB (yM h_law_name_by hr rfl (zB (zA 6) (zB (zA 2) zM))) zM)) (zg (zH (zH zk)) (by decide)))) (zW (IK (i:=6) QC Ql uS.nd rfl (Or.inl rfl) zD))) yY) (zW (yN (yB wV xE (zI (zA 7)) (zI (xr wB wE rfl yF w8 (yl (zI (zA 0)) ym))) (yE _)) (zW (u8 (qv 5) (zh (zc (zX hr)) zd (zA 0) (zA 7)))) yY)))))) (U9 5 (U9 4 (zQ (zZ (i:=9) uS.nd rfl (Or.inr rfl) (xN (zB zO (zB zO (zB zO zM))) (zg (zH (zH (zH zk))) (by decide)))) (zW (Yq (Ym rfl (pG (own:=["_law_item"]) rfl) (qm (zA 5)) (pE (fun C s H fp pn=>(xZ (i:=10) (show (um ["_law_rows", "_law_cell", "_law_shape", "_law_places", "_law_names", "_law_items", "_law_count", "_law_place", "_law_more", "_law_jumps"] ["_law_item"]).Nodup by decide +kernel) rfl (Or.inl rfl))) rfl) (fun C s H fp pn=>Yt) (fun C s H fp pn=>(CT (yB (t6 (zX hr)) t5 (zI (zh (zc (zX hr)) zd (zA 10) zD)) (zI (zA 9)) (by with_unfolding_all rfl)) (zJ zy zx (wn (zA 10) wZ (wb (vY vc vb zD))) (xN (zB (zh (zc (zX hr)) zd (zA 4) (zh (zc (zX hr)) zd (zA 10) (vY vc vb zD))) zM) (zg (zH zk) (by decide)))) (zA 10)))))))))))))))
noncomputable abbrev Vb:Stmt:=top 25
theorem Yf:yc ["_law_script", "_law_many", "_law_dense", "_law_rows"] ["_law_script"] (y9 Vb):=by ac_rfl
variable (h_law_many_by:XW P w K mg base) (h_law_rows_by:Xi P w K mg base) (h_law_items_by:XR P w K mg base)
noncomputable def XN:HT:=fun P w K mg base=>yt P w K mg base "_law_built" ["_law_script"] 5 (xB K gA)
include X G h_law_many_by h_law_cell_at h_law_rows_by h_law_items_by in
theorem BV (a:zp K "_law_built" Vb):XN P w K mg base:=(a.d1 X G).oS P w base 4 gA Yf xR fun hr=>(zQ (zZ (i:=1) Yf.nd rfl (Or.inl rfl) (yM h_law_many_by hr rfl (zB (yM h_law_cell_at hr rfl (zB (zA 0) (zB zD zM))) zM))) (zQ (zZ (i:=2) Yf.nd rfl (Or.inl rfl) (zh (zc (zX hr)) zd (yj (yX (CJ (is:=[4,2,6,8]) rfl) (zg (OF (n:=4) (by decide)) (by decide)))) (zJ yK yJ (yM h_law_cell_at hr rfl (zB (zA 0) (zB zD zM))) zD))) (zQ (zZ (i:=3) Yf.nd rfl (Or.inl rfl) (yM h_law_rows_by hr rfl (zB (zA 0) (zB (zA 1) (zB (zA 2) zM))))) (zW (yZ (xN (zB (zA 3) (zB (yM h_law_items_by hr rfl (zB (zA 3) (zB (zJ xM xL (yM h_law_cell_at hr rfl (zB (zA 0) (zB zD zM))) zD) zM))) zM)) (zg (zH (zH zk)) (by decide))))))))
noncomputable abbrev Vv:Stmt:=top 26
theorem U0:yc ["_law_rows", "_law_far", "_law_found", "_law_number"] ["_law_rows", "_law_far"] (y9 Vv):=by ac_rfl
noncomputable def Xk:HT:=fun P w K mg base=>yt P w K mg base "_law_stands" ["_law_rows", "_law_far"] 1 (xB K j8)
include X G z_range yF in
theorem Bp (a:zp K "_law_stands" Vv):Xk P w K mg base:=(a.d2 X G).oS P w base 0 j8 U0 xR fun hr=>(zQ (tF (i:=2) U0.nd rfl (Or.inl rfl) (yX (zB zD zM) (zg (zH zk) (by decide)))) (zQ (qp PassesOwn.never rfl (ql rfl z_range (xr wB wE rfl yF w8 (yl (zI (zA 0)) ym))) (t9 (xZ (i:=3) U0.nd rfl (Or.inl rfl)) rfl) (zQ (u8 (qv 2) (zJ zy zx (U5 (zX hr) (qv 2) (vY vc vb zD)) zD)) (zW (yN (yB (t6 (zX hr)) t5 (zI (zA 3)) (zI (zA 1)) (by with_unfolding_all rfl)) (zW (Cy (qv 2) (vY vc vb zD) (zJ zy zx (U5 (zX hr) (qv 2) (vY vc vb zD)) zD))) yY)))) (zW (jy 2))))
noncomputable abbrev Vm:Stmt:=top 27
theorem kz:yc ["_law_rows", "_law_far", "_law_stands_here", "_law_found", "_law_number", "_law_distance"] ["_law_rows", "_law_far"] (y9 Vm):=by ac_rfl
variable (h_law_stands:Xk P w K mg base)
noncomputable def Xb:HT:=fun P w K mg base=>yt P w K mg base "_law_near_ones" ["_law_rows", "_law_far"] 2 (xB K qE)
include X G h_law_stands h_law_jumps_in in
theorem Bg (a:zp K "_law_near_ones" Vm):Xb P w K mg base:=(a.d2 X G).oS P w base 1 qE kz xR fun hr=>(zQ (zZ (i:=2) kz.nd rfl (Or.inl rfl) (yM h_law_stands hr rfl (zB (zA 0) (zB (zA 1) zM)))) (zQ (tF (i:=3) kz.nd rfl (Or.inl rfl) (yX zM (zg zk (by decide)))) (zQ (qp PassesOwn.never rfl (qm (yM h_law_jumps_in hr rfl (zB (zA 0) zM))) (t9 (xZ (i:=4) kz.nd rfl (Or.inl rfl)) rfl) (zQ (zZ (i:=5) kz.nd rfl (Or.inl rfl) (zJ vW vV (zh (zc (zX hr)) zd (zA 2) (zh (zc (zX hr)) zd (zh (zc (zX hr)) zd (zA 0) (zA 4)) (vY vc vb zD))) (zh (zc (zX hr)) zd (zA 2) (zA 4)))) (zW (yN (tu (UC (yB (Qp (zX hr)) Qm (zI (zA 4)) (zI (zA 1)) (by with_unfolding_all rfl)) (UD (tu (pd (yB wV xE (zI (zA 5)) (zI (vY vc vb zD)) (yE _)) (jz (yB tZ xE (zI (zA 5)) (zI zD) (yE _)))))))) (zW (u8 (qv 3) (zA 4))) yY)))) (zW (jy 3)))))
noncomputable abbrev Vp:Stmt:=top 28
theorem Yh:yc ["_law_rows", "_law_far", "_law_more"] ["_law_rows", "_law_far"] (y9 Vp):=by ac_rfl
variable (z_sorted:mg "sorted" = none) (h_law_near_ones:Xb P w K mg base)
noncomputable def Xe:HT:=fun P w K mg base=>yt P w K mg base "_law_reaching" ["_law_rows", "_law_far"] 3 (xB K gG)
include X G z_sorted h_law_near_ones in
theorem Bj (a:zp K "_law_reaching" Vp):Xe P w K mg base:=(a.d2 X G).oS P w base 2 gG Yh xR fun hr=>(zQ (zZ (i:=2) Yh.nd rfl (Or.inl rfl) (yM h_law_near_ones hr rfl (zB (zA 0) (zB (zA 1) zM)))) (zQ (IL PassesOwn.never (yB (tj (xK hr)) tY (zI (zA 2)) (zI (yj (yX zM (zg zk (by decide))))) (yE _)) (zQ (zZ (i:=1) Yh.nd rfl (Or.inl rfl) (yj (Cg rfl z_sorted (zB (zJ zy zx (zA 1) (zA 2)) zM)))) (zW (zZ (i:=2) Yh.nd rfl (Or.inl rfl) (yM h_law_near_ones hr rfl (zB (zA 0) (zB (zA 1) zM))))))) (zW (yZ (zA 1)))))
noncomputable abbrev VZ:Stmt:=top 30
theorem CM:yc ["_law_rows", "_law_cell", "_law_most"] ["_law_rows", "_law_cell", "_law_most"] (y9 VZ):=by ac_rfl
variable (h_law_reaching:Xe P w K mg base)
noncomputable def XL:HT:=fun P w K mg base=>yt P w K mg base "_law_any_far" ["_law_rows", "_law_cell", "_law_most"] 4 (xB K g9)
include X G h_law_reaching h_law_jumps_in h_law_mixed in
theorem BT (a:zp K "_law_any_far" VZ):XL P w K mg base:=(a.d3 X G).oS P w base 3 g9 CM xR fun hr=>(zW (yZ (yM h_law_reaching hr rfl (zB (zA 0) (zB (yj (Ym rfl (pG (own:=["_law_number"]) rfl) (qm (yM h_law_jumps_in hr rfl (zB (zA 0) zM))) (pE (fun C s H fp pn=>(xZ (i:=3) (show (um ["_law_rows", "_law_cell", "_law_most"] ["_law_number"]).Nodup by decide +kernel) rfl (Or.inl rfl))) rfl) (fun C s H fp pn=>(UB (yB wV xE (zI (zJ yK yJ (yM h_law_mixed hr rfl (zB (zA 1) (zB (zA 3) zM))) zD)) (zI (zA 2)) (yE _)))) (fun C s H fp pn=>(zA 3)))) zM)))))
noncomputable abbrev Vn:Stmt:=top 31
theorem Jt:yc ["_law_some"] [] (y9 Vn):=by ac_rfl
noncomputable def Xc:HT:=fun P w K mg base=>yt P w K mg base "_law_order" [] 1 (xB K gE)
include X G in
theorem Bh (a:zp K "_law_order" Vn):Xc P w K mg base:=(a.d0 X G).oS P w base 0 gE Jt xR fun hr=>(zQ (zZ (i:=0) Jt.nd rfl (Or.inl rfl) (yj (yX (zB zO (zB zO (zB zO (zB zO (zB zO (zB zO (zB zO (zB zO (zB zO (zB zO (zB zO (zB zO zM)))))))))))) (zg (zH (zH (zH (zH (zH (zH (zH (zH (zH (zH (zH (zH zk)))))))))))) (by decide))))) (zW (yZ (zJ zy zx (zA 0) (yj (yX (zB zO (zB zO (zB zO (zB zO (zB zO (zB zO zM)))))) (zg (zH (zH (zH (zH (zH (zH zk)))))) (by decide))))))))
noncomputable abbrev Vw:Stmt:=top 32
theorem Z1:yc ["_law_row", "_law_word_here"] ["_law_row"] (y9 Vw):=by ac_rfl
variable (h_law_order:Xc P w K mg base)
noncomputable def Xl:HT:=fun P w K mg base=>yt P w K mg base "_law_word" ["_law_row"] 2 (xB K vJ)
include X G yF h_law_order in
theorem Bq (a:zp K "_law_word" Vw):Xl P w K mg base:=(a.d1 X G).oS P w base 1 vJ Z1 xR fun hr=>(zQ (zZ (i:=1) Z1.nd rfl (Or.inl rfl) (zJ tf qd (U4 (Jw h_law_order hr rfl) (zh (zc (zX hr)) zd (zA 0) zD)) (zJ vw vv zD zD))) (zQ (yN (yB (wI (xK hr)) wH (zI (zh (zc (zX hr)) zd (zA 0) zD)) (zI zO) (yE _)) (zW (yZ (zA 1))) yY) (zQ (zZ (i:=1) Z1.nd rfl (Or.inl rfl) (zJ zy zx (zA 1) (zJ tf qd (zh (zc (zX hr)) zd (zA 0) zD) (zJ vw vv zD zD)))) (zQ (yN (yB (t6 (zX hr)) t5 (zI (zh (zc (zX hr)) zd (zA 0) zD)) (zI (xN (zB zO (zB zO (zB zO (zB zO zM)))) (zg (zH (zH (zH (zH zk)))) (by decide)))) (by with_unfolding_all rfl)) (zW (yZ (zJ zy zx (zA 1) (zh (zc (zX hr)) zd (zA 0) zD)))) yY) (zQ (zZ (i:=1) Z1.nd rfl (Or.inl rfl) (zJ zy zx (zA 1) (zJ tf qd (zh (zc (zX hr)) zd (zA 0) zD) (zJ vw vv zD zD)))) (zQ (yN (yB (wI (xK hr)) wH (zI (xr wB wE rfl yF w8 (yl (zI (zA 0)) ym))) (zI zD) (yE _)) (zW (zZ (i:=1) Z1.nd rfl (Or.inl rfl) (zJ zy zx (zA 1) (zh (zc (zX hr)) zd (zA 0) zD)))) yY) (zW (yZ (zA 1)))))))))
noncomputable abbrev Vg:Stmt:=top 33
theorem Vz:yc ["_law_row", "_law_distance", "_law_is_far", "_law_word_here"] ["_law_row", "_law_distance", "_law_is_far"] (y9 Vg):=by ac_rfl
variable (z_int:mg "int" = none)
noncomputable def XT:HT:=fun P w K mg base=>yt P w K mg base "_law_jump_words" ["_law_row", "_law_distance", "_law_is_far"] 1 (xB K uD)
include X G z_int in
theorem Ba (a:zp K "_law_jump_words" Vg):XT P w K mg base:=(a.d3 X G).oS P w base 0 uD Vz xR fun hr=>(zQ (zZ (i:=3) Vz.nd rfl (Or.inl rfl) (zJ tf qd (zJ zy zx (zJ zy zx zD (U4 (yj (yX (zB zO (zB zO (zB zO zM))) (zg (zH (zH (zH zk))) (by decide)))) (zh (zc (zX hr)) zd (zA 0) zD))) (zJ tf Bv zD (v_ jT jk rfl z_int pH (yl (zI (zA 2)) ym)))) (zJ vw vv zD zD))) (zQ (yN (yB (tj (xK hr)) tY (zI (zh (zc (zX hr)) zd (zA 0) zD)) (zI zO) (yE _)) (zW (zZ (i:=3) Vz.nd rfl (Or.inl rfl) (zJ zy zx (zA 3) (zJ tf qd (U4 (yj (yX (zB zO (zB zO (zB zO zM))) (zg (zH (zH (zH zk))) (by decide)))) (zh (zc (zX hr)) zd (zA 0) zD)) (zJ vw vv zD zD))))) yY) (zQ (yN (qq (zA 2)) (zW (Yq (yX (zB (zA 3) (zB (zJ yK yJ (zA 1) (zJ vw vv zD zD)) zM)) (zg (zH (zH zk)) (by decide))))) yY) (zW (Yq (yX (zB (zJ zy zx (zA 3) (zJ yK yJ (zA 1) zD)) zM) (zg (zH zk) (by decide))))))))
noncomputable abbrev Vy:Stmt:=top 34
theorem ju:yc ["_law_rows", "_law_far", "_law_stands_here", "_law_found", "_law_number", "_law_distance"] ["_law_rows", "_law_far"] (y9 Vy):=by ac_rfl
variable (h_law_jump_words:XT P w K mg base) (h_law_word:Xl P w K mg base)
noncomputable def Xn:HT:=fun P w K mg base=>yt P w K mg base "_law_written" ["_law_rows", "_law_far"] 3 (xB K gJ)
include X G z_range yF h_law_stands h_law_jump_words h_law_word in
theorem Bs (a:zp K "_law_written" Vy):Xn P w K mg base:=(a.d2 X G).oS P w base 2 gJ ju xR fun hr=>(zQ (zZ (i:=2) ju.nd rfl (Or.inl rfl) (yM h_law_stands hr rfl (zB (zA 0) (zB (zA 1) zM)))) (zQ (tF (i:=3) ju.nd rfl (Or.inl rfl) (yX zM (zg zk (by decide)))) (zQ (qp PassesOwn.never rfl (ql rfl z_range (xr wB wE rfl yF w8 (yl (zI (zA 0)) ym))) (t9 (xZ (i:=4) ju.nd rfl (Or.inl rfl)) rfl) (zW (yN (yB (t6 (zX hr)) t5 (zI (zh (zc (zX hr)) zd (zh (zc (zX hr)) zd (zA 0) (zA 4)) zD)) (zI (xN (zB zO (zB zO (zB zO zM))) (zg (zH (zH (zH zk))) (by decide)))) (by with_unfolding_all rfl)) (zQ (zZ (i:=5) ju.nd rfl (Or.inl rfl) (zJ vW vV (zh (zc (zX hr)) zd (zA 2) (zh (zc (zX hr)) zd (zh (zc (zX hr)) zd (zA 0) (zA 4)) (vY vc vb zD))) (zh (zc (zX hr)) zd (zA 2) (zA 4)))) (zW (tF (i:=3) ju.nd rfl (Or.inl rfl) (Ce (qv 3) (yM h_law_jump_words hr rfl (zB (zh (zc (zX hr)) zd (zA 0) (zA 4)) (zB (zA 5) (zB (jv (t6 (zX hr)) t5 (zI (zA 4)) (zI (zA 1)) (by with_unfolding_all rfl)) zM)))))))) (zW (u8 (qv 3) (yM h_law_word hr rfl (zB (zh (zc (zX hr)) zd (zA 0) (zA 4)) zM))))))) (zW (jy 3)))))
noncomputable abbrev Vf:Stmt:=top 35
theorem uT:yc ["_law_words", "_law_address", "_law_kind", "_law_word_here", "_law_name", "_law_mark", "_law_is_far", "_law_row", "_law_distance"] ["_law_words", "_law_address", "_law_kind"] (y9 Vf):=by ac_rfl
noncomputable def XS:HT:=fun P w K mg base=>yt P w K mg base "_law_jump_at" ["_law_words", "_law_address", "_law_kind"] 2 (xB K uC)
include X G z_int yF h_law_jump_words in
theorem BZ (a:zp K "_law_jump_at" Vf):XS P w K mg base:=(a.d3 X G).oS P w base 1 uC uT xR fun hr=>(zQ (zZ (i:=3) uT.nd rfl (Or.inl rfl) (zh (zc (zX hr)) zd (zA 0) (zA 1))) (zQ (zZ (i:=4) uT.nd rfl (Or.inl rfl) (zh (zc (zX hr)) zd (yj (yX (zB zO (zB zO (zB zO zM))) (zg (zH (zH (zH zk))) (by decide)))) (zJ yK yJ (zJ vW vV (zA 2) zD) zD))) (zQ (zZ (i:=5) uT.nd rfl (Or.inl rfl) (zJ yK yJ (zJ xM xL (zA 3) (zJ vw vv zD zD)) zD)) (zQ (zZ (i:=6) uT.nd rfl (Or.inl rfl) (jv tZ xE (zI (zA 2)) (zI zD) (yE _))) (zQ (yN (tu (pd (yB (wI (xK hr)) wH (zI (zA 5)) (zI zD) (yE _)) (jz (yB tZ xE (zI (zJ zy zx (zJ zy zx (zA 1) zD) (v_ jT jk rfl z_int pH (yl (zI (zA 6)) ym)))) (zI (xr wB wE rfl yF w8 (yl (zI (zA 0)) ym))) (yE _))))) (zW (yZ pZ)) yY) (zQ (zZ (i:=7) uT.nd rfl (Or.inl rfl) (xN (zB zO zM) (zg (zH zk) (by decide)))) (zQ (yN (yB (tj (xK hr)) tY (zI (zA 4)) (zI zO) (yE _)) (zW (zZ (i:=7) uT.nd rfl (Or.inl rfl) (xN (zB (zA 4) (zB (zh (zc (zX hr)) zd (yj (yX (zB zO (zB zO (zB zO zM))) (zg (zH (zH (zH zk))) (by decide)))) (zA 5)) zM)) (zg (zH (zH zk)) (by decide))))) yY) (zQ (zZ (i:=8) uT.nd rfl (Or.inl rfl) (zJ yK yJ (zA 3) zD)) (zQ (yN (yB tZ xE (zI (zA 8)) (zI zD) (yE _)) (zW (zZ (i:=8) uT.nd rfl (Or.inl rfl) (zJ vW vV (zA 8) zD))) yY) (zQ (yN (qq (zA 6)) (zQ (zZ (i:=8) uT.nd rfl (Or.inl rfl) (zh (zc (zX hr)) zd (zA 0) (zJ zy zx (zA 1) zD))) (zW (yN (yB tZ xE (zI (zA 8)) (zI zD) (yE _)) (zW (zZ (i:=8) uT.nd rfl (Or.inl rfl) (zJ vW vV (zA 8) (zJ vw vv zD zD)))) yY))) yY) (zQ (yN (yB (tj (xK hr)) tY (zI (zh (zc (zX hr)) zd (yM h_law_jump_words hr rfl (zB (zA 7) (zB (zA 8) (zB (zA 6) zM)))) zD)) (zI (zA 3)) (yE _)) (zW (yZ pZ)) yY) (zW (yZ (xN (zB (zA 7) (zB (zJ zy zx (zJ zy zx (zA 1) zD) (v_ jT jk rfl z_int pH (yl (zI (zA 6)) ym))) (zB (zJ zy zx (zA 1) (zA 8)) zM))) (zg (zH (zH (zH zk))) (by decide))))))))))))))))
noncomputable abbrev Vq:Stmt:=top 36
theorem qj:yc ["_law_words", "_law_address", "_law_word_here", "_law_kind", "_law_name", "_law_row"] ["_law_words", "_law_address"] (y9 Vq):=by ac_rfl
variable (h_law_jump_at:XS P w K mg base)
noncomputable def Xf:HT:=fun P w K mg base=>yt P w K mg base "_law_row_at" ["_law_words", "_law_address"] 3 (xB K vI)
include X G yF z_int h_law_jump_at h_law_order h_law_word in
theorem Bk (a:zp K "_law_row_at" Vq):Xf P w K mg base:=(a.d2 X G).oS P w base 2 vI qj xR fun hr=>(zQ (yN (IN (IM YN xE wV xE (zI zD) (zI (zA 1)) (zI (xr wB wE rfl yF w8 (yl (zI (zA 0)) ym))))) (zW (yZ pZ)) yY) (zQ (zZ (i:=2) qj.nd rfl (Or.inl rfl) (zh (zc (zX hr)) zd (zA 0) (zA 1))) (zQ (zZ (i:=3) qj.nd rfl (Or.inl rfl) (zJ xM xL (zA 2) (zJ vw vv zD zD))) (zQ (yN (yB tZ xE (zI (zA 3)) (zI zD) (yE _)) (zW (yZ pZ)) yY) (zQ (yN (yB tZ xE (zI (zA 3)) (zI zD) (yE _)) (zW (yZ (yM h_law_jump_at hr rfl (zB (zA 0) (zB (zA 1) (zB (zA 3) zM)))))) yY) (zQ (zZ (i:=4) qj.nd rfl (Or.inl rfl) (zh (zc (zX hr)) zd (Jw h_law_order hr rfl) (zA 3))) (zQ (zZ (i:=5) qj.nd rfl (Or.inl rfl) (xN (zB (zA 4) (zB (zJ yK yJ (zJ xM xL (zA 2) (zJ vw vv zD zD)) zD) (zB (zJ yK yJ (zJ xM xL (zA 2) (zJ vw vv zD zD)) zD) zM))) (zg (zH (zH (zH zk))) (by decide)))) (zQ (yN (yB (wI (xK hr)) wH (zI (zA 4)) (zI zO) (yE _)) (zW (zZ (i:=5) qj.nd rfl (Or.inl rfl) (xN (zB zO zM) (zg (zH zk) (by decide))))) (zW (yN (yB (t6 (zX hr)) t5 (zI (zA 4)) (zI (xN (zB zO (zB zO (zB zO (zB zO zM)))) (zg (zH (zH (zH (zH zk)))) (by decide)))) (by with_unfolding_all rfl)) (zW (zZ (i:=5) qj.nd rfl (Or.inl rfl) (zJ zy zx (CZ (zA 5) wZ (wb zD)) (xN (zB (zJ yK yJ (zA 2) (zh (zc (zX hr)) zd (yj (yX (zB zD (zB zD zM)) (zg (zH (zH zk)) (by decide)))) (v_ jT jk rfl z_int pH (yl (zI (jv (t6 (zX hr)) t5 (zI (zA 4)) (zI (xN (zB zO (zB zO zM)) (zg (zH (zH zk)) (by decide)))) (by with_unfolding_all rfl))) ym)))) zM) (zg (zH zk) (by decide)))))) (zW (yN (yB tZ xE (zI (zA 3)) (zI zD) (yE _)) (zW (zZ (i:=5) qj.nd rfl (Or.inl rfl) (zJ zy zx (zA 5) (xN (zB (zJ yK yJ (zA 2) zD) zM) (zg (zH zk) (by decide)))))) yY))))) (zQ (yN (yB (tj (xK hr)) tY (zI (yM h_law_word hr rfl (zB (zA 5) zM))) (zI (zA 2)) (yE _)) (zW (yZ pZ)) yY) (zW (yZ (xN (zB (zA 5) (zB (zJ zy zx (zA 1) zD) (zB pZ zM))) (zg (zH (zH (zH zk))) (by decide))))))))))))))
noncomputable abbrev Vx:Stmt:=top 37
theorem U1:yc ["_law_script", "_law_rows", "_law_cell"] ["_law_script"] (y9 Vx):=by ac_rfl
variable (h_law_built:XN P w K mg base) (h_law_written:Xn P w K mg base) (h_law_any_far:XL P w K mg base)
noncomputable def Xm:HT:=fun P w K mg base=>yt P w K mg base "_law_words_built" ["_law_script"] 6 (xB K gI)
include X G h_law_built h_law_cell_at h_law_written h_law_any_far in
theorem Br (a:zp K "_law_words_built" Vx):Xm P w K mg base:=(a.d1 X G).oS P w base 5 gI U1 xR fun hr=>(zQ (zZ (i:=1) U1.nd rfl (Or.inl rfl) (zh (zc (zX hr)) zd (yM h_law_built hr rfl (zB (zA 0) zM)) zD)) (zQ (zZ (i:=2) U1.nd rfl (Or.inl rfl) (yM h_law_cell_at hr rfl (zB (zA 0) (zB zD zM)))) (zW (yZ (yM h_law_written hr rfl (zB (zA 1) (zB (yM h_law_any_far hr rfl (zB (zA 1) (zB (zA 2) (zB (zJ yK yJ (zA 2) zD) zM)))) zM)))))))
noncomputable abbrev Vd:Stmt:=top 38
theorem ky:yc ["_law_word_here", "_law_text", "_law_k"] ["_law_word_here"] (y9 Vd):=by ac_rfl
noncomputable def XQ:HT:=fun P w K mg base=>yt P w K mg base "_law_hex" ["_law_word_here"] 1 (xB K j5)
include X G z_range in
theorem BX (a:zp K "_law_hex" Vd):XQ P w K mg base:=(a.d1 X G).oS P w base 0 j5 ky xR fun hr=>(zQ (zZ (i:=1) ky.nd rfl (Or.inl rfl) zO) (zQ (qp PassesOwn.never rfl (ql rfl z_range zD) (t9 (xZ (i:=2) ky.nd rfl (Or.inl rfl)) rfl) (zQ (zZ (i:=1) ky.nd rfl (Or.inl rfl) (zJ zy zx (zh (zc (zX hr)) zd zO (zJ yK yJ (zA 0) zD)) (zA 1))) (zW (zZ (i:=0) ky.nd rfl (Or.inl rfl) (zJ xM xL (zA 0) zD))))) (zW (yZ (zA 1)))))
noncomputable abbrev Vs:Stmt:=top 39
theorem Z0:yc ["_law_row", "_law_target", "_law_words", "_law_registers", "_law_k"] ["_law_row", "_law_target"] (y9 Vs):=by ac_rfl
variable (z_str:mg "str" = none)
noncomputable def Xh:HT:=fun P w K mg base=>yt P w K mg base "_law_row_text" ["_law_row", "_law_target"] 1 (xB K qw)
include X G z_str yF z_range z_int in
theorem Bm (a:zp K "_law_row_text" Vs):Xh P w K mg base:=(a.d2 X G).oS P w base 0 qw Z0 xR fun hr=>(zQ (yN (yB DH Bw (zI (zA 1)) (zI pZ) (yE _)) (zW (yZ (CW zO (zI (zJ zy zx (zA 0) (xN (zB (v_ jU jo rfl z_str jS (yl (zI (zA 1)) ym)) zM) (zg (zH zk) (by decide)))))))) yY) (zQ (tF (i:=2) Z0.nd rfl (Or.inl rfl) (yX (zB (zh (zc (zX hr)) zd (zA 0) zD) zM) (zg (zH zk) (by decide)))) (zQ (zZ (i:=3) Z0.nd rfl (Or.inl rfl) (zJ vW vV (xr wB wE rfl yF w8 (yl (zI (zA 0)) ym)) zD)) (zQ (yN (yB (t6 (zX hr)) t5 (zI (zh (zc (zX hr)) zd (zA 0) zD)) (zI (xN (zB zO (zB zO (zB zO (zB zO (zB zO (zB zO (zB zO (zB zO zM)))))))) (zg (zH (zH (zH (zH (zH (zH (zH (zH zk)))))))) (by decide)))) (by with_unfolding_all rfl)) (zW (zZ (i:=3) Z0.nd rfl (Or.inl rfl) (zJ vW vV (zA 3) zD))) yY) (zQ (qp PassesOwn.never rfl (Cl rfl z_range zD (xr wB wE rfl yF w8 (yl (zI (zA 0)) ym))) (t9 (xZ (i:=4) Z0.nd rfl (Or.inl rfl)) rfl) (zW (u8 (qv 2) (zJ zy zx (zh (zc (zX hr)) zd (yj (yX (zB zO (zB zO zM)) (zg (zH (zH zk)) (by decide)))) (v_ jT jk rfl z_int pH (yl (zI (jv YN xE (zI (zA 4)) (zI (zA 3)) (yE _))) ym))) (v_ jU jo rfl z_str jS (yl (zI (zh (zc (zX hr)) zd (zA 0) (zA 4))) ym)))))) (U9 2 (zW (yZ (pY zO (zI (zA 2)))))))))))
noncomputable abbrev Vi:Stmt:=top 40
theorem pW:yc ["_law_words", "_law_found", "_law_address", "_law_row", "_law_following", "_law_target"] ["_law_words"] (y9 Vi):=by ac_rfl
variable (h_law_row_at:Xf P w K mg base) (h_law_row_text:Xh P w K mg base) (h_law_hex:XQ P w K mg base)
noncomputable def XV:HT:=fun P w K mg base=>yt P w K mg base "_law_lines" ["_law_words"] 4 (xB K gC)
include X G yF z_str h_law_row_at h_law_row_text h_law_hex in
theorem Bc (a:zp K "_law_lines" Vi):XV P w K mg base:=(a.d1 X G).oS P w base 3 gC pW xR fun hr=>(zQ (tF (i:=1) pW.nd rfl (Or.inl rfl) (yX zM (zg zk (by decide)))) (zQ (zZ (i:=2) pW.nd rfl (Or.inl rfl) zD) (zQ (IL PassesOwn.never (yB wV xE (zI (zA 2)) (zI (xr wB wE rfl yF w8 (yl (zI (zA 0)) ym))) (yE _)) (zQ (IJ (yM h_law_row_at hr rfl (zB (zA 0) (zB (zA 2) zM))) (Ci (Fj (n:=3) rfl (jq (xZ (i:=3) pW.nd rfl (Or.inl rfl)) (jq (xZ (i:=4) pW.nd rfl (Or.inl rfl)) (jq (xZ (i:=5) pW.nd rfl (Or.inl rfl)) JD)))) rfl rfl rfl)) (zQ (u8 (qv 1) (yj (yX (zB (v_ jU jo rfl z_str jS (yl (zI (zA 2)) ym)) (zB (yM h_law_hex hr rfl (zB (zh (zc (zX hr)) zd (zA 0) (zA 2)) zM)) (zB (yM h_law_row_text hr rfl (zB (zA 3) (zB (zA 5) zM))) zM))) (zg (zH (zH (zH zk))) (by decide))))) (zQ (yN (yB tZ xE (zI (zA 4)) (zI (zJ zy zx (zA 2) zD)) (yE _)) (zW (u8 (qv 1) (yj (yX (zB (v_ jU jo rfl z_str jS (yl (zI (zJ zy zx (zA 2) zD)) ym)) (zB (yM h_law_hex hr rfl (zB (zh (zc (zX hr)) zd (zA 0) (zJ zy zx (zA 2) zD)) zM)) (zB zO zM))) (zg (zH (zH (zH zk))) (by decide)))))) yY) (zW (zZ (i:=2) pW.nd rfl (Or.inl rfl) (zA 4))))))) (zW (jy 1)))))
noncomputable abbrev Va:Stmt:=top 41
theorem Js:yc ["_law_text", "e"] ["_law_text"] (y9 Va):=by ac_rfl
variable (z_isinstance:mg "isinstance" = none) (z_ValueError:mg "ValueError" = none) (c_RunError:xO K mg "RunError" C_RunError) (c_BadText:xO K mg "BadText" C_BadText) (c_NoLabel:xO K mg "NoLabel" C_NoLabel) (c_BadWords:xO K mg "BadWords" C_BadWords) (c_BadNumber:xO K mg "BadNumber" C_BadNumber) (c_NoAddress:xO K mg "NoAddress" C_NoAddress) (c_BadState:xO K mg "BadState" C_BadState) (y_BadText:PySem.W.nsIn K mainGlobals "BadText" = some (some (.ref C_BadText))) (x_BadText:u9 K C_BadText) (t_BadText_NoLabel:PySem.W.kitOne K (.ref C_BadText) (.ref C_NoLabel)=some false) (t_BadText_BadWords:PySem.W.kitOne K (.ref C_BadText) (.ref C_BadWords)=some false) (t_BadText_BadNumber:PySem.W.kitOne K (.ref C_BadText) (.ref C_BadNumber)=some false) (t_BadText_NoAddress:PySem.W.kitOne K (.ref C_BadText) (.ref C_NoAddress)=some false) (t_BadText_BadState:PySem.W.kitOne K (.ref C_BadText) (.ref C_BadState)=some false) (t_BadText_ValueError:PySem.W.kitOne K (.ref C_BadText) (.type "ValueError")=some true) (t_BadText_BadText:PySem.W.kitOne K (.ref C_BadText) (.ref C_BadText)=some true) (m_BadText_RunError:PySem.W.exmOne K (.ref C_BadText) (.ref C_RunError)=some true) (h_read_listing:uF P w K mg base "read_listing" ["text"] 3 (u0 K mg uE))
noncomputable def XM:HT:=fun P w K mg base=>yt P w K mg base "_law_bad_text" ["_law_text"] 5 (xB K ve)
include X G z_isinstance z_ValueError c_RunError c_BadText c_NoLabel c_BadWords c_BadNumber c_NoAddress c_BadState y_BadText x_BadText t_BadText_NoLabel t_BadText_BadWords t_BadText_BadNumber t_BadText_NoAddress t_BadText_BadState t_BadText_ValueError t_BadText_BadText m_BadText_RunError h_read_listing in
theorem BU (a:zp K "_law_bad_text" Va):XM P w K mg base:=(a.d1 X G).oS P w base 4 ve Js xR fun hr=>(zQ (Cz (i:=1) rfl rfl rfl hr c_RunError.at_ rfl c_BadText.at_ y_BadText m_BadText_RunError Js.nd rfl rfl (E5 rfl h_read_listing hr rfl (zB (zA 0) zM)) (fun a=>(zQ (yN (tu (pd (qq (jw rfl z_isinstance y_BadText x_BadText c_BadNumber rfl t_BadText_BadNumber (zA 1))) (pd (qq (jw rfl z_isinstance y_BadText x_BadText c_BadWords rfl t_BadText_BadWords (zA 1))) (jz (qq (jw rfl z_isinstance y_BadText x_BadText c_NoLabel rfl t_BadText_NoLabel (zA 1))))))) (zW (yZ Yk)) yY) (zQ (yN (tu (pd (qq (jw rfl z_isinstance y_BadText x_BadText c_BadState rfl t_BadText_BadState (zA 1))) (jz (qq (jw rfl z_isinstance y_BadText x_BadText c_NoAddress rfl t_BadText_NoAddress (zA 1)))))) (zW (yZ Yk)) yY) (zW (yZ (Jv (jw rfl z_isinstance y_BadText x_BadText c_BadText rfl t_BadText_BadText (zA 1)) (Jz (CV rfl z_isinstance y_BadText x_BadText rfl z_ValueError Oa t_BadText_ValueError (zA 1)))))))))) (zW (yZ Yk)))
noncomputable abbrev Vu:Stmt:=top 42
theorem uU:yc ["_law_line", "_law_cell", "_law_number", "_law_signs", "_law_told", "_law_way", "_law_rest", "_law_numbers", "_law_some"] ["_law_line", "_law_cell"] (y9 Vu):=by ac_rfl
noncomputable def Xj:HT:=fun P w K mg base=>yt P w K mg base "_law_spoilt" ["_law_line", "_law_cell"] 1 (xB K qx)
include X G z_str z_int in
theorem Bo (a:zp K "_law_spoilt" Vu):Xj P w K mg base:=(a.d2 X G).oS P w base 0 qx uU xR fun hr=>(zQ (IJ (zA 0) (Cj (Fh (n:=3) rfl (jq (xZ (i:=2) uU.nd rfl (Or.inl rfl)) (jq (xZ (i:=3) uU.nd rfl (Or.inl rfl)) (jq (xZ (i:=4) uU.nd rfl (Or.inl rfl)) JD)))) rfl rfl rfl)) (zQ (zZ (i:=5) uU.nd rfl (Or.inl rfl) (zJ yK yJ (zA 1) zD)) (zQ (zZ (i:=6) uU.nd rfl (Or.inl rfl) (zJ xM xL (zA 1) zD)) (zQ (zZ (i:=7) uU.nd rfl (Or.inl rfl) (yj (yX (zB (v_ jU jo rfl z_str jS (yl (zI (zJ zy zx (zJ zy zx (CU rfl z_int (zB (zA 2) zM)) zD) (zJ yK yJ (zA 6) zD))) ym)) (zB (zJ zy zx zO (zA 2)) (zB (zJ zy zx zO (zA 2)) (zB zO (zB (zJ zy zx (zA 2) zO) (zB (zJ zy zx zO (zA 2)) (zB zO zM))))))) (zg (zH (zH (zH (zH (zH (zH (zH zk))))))) (by decide))))) (zQ (yN (yB wV xE (zI (zA 5)) (zI zD) (yE _)) (zW (zZ (i:=2) uU.nd rfl (Or.inl rfl) (zh (zc (zX hr)) zd (zA 7) (zA 5)))) (zQ (zZ (i:=8) uU.nd rfl (Or.inl rfl) (yj (yX (zB (wn (zA 3) (wb zD) wZ) (zB (zJ zy zx zO (zA 3)) (zB (zJ zy zx zO (wn (zA 3) (wb zD) wZ)) (zB (zJ zy zx (wn (zA 3) wZ (wb zD)) zO) (zB (zJ zy zx zO (wn (zA 3) (wb zD) wZ)) (zB (zJ zy zx (zA 3) zO) (zB zO zM))))))) (zg (zH (zH (zH (zH (zH (zH (zH zk))))))) (by decide))))) (zQ (zZ (i:=3) uU.nd rfl (Or.inl rfl) (zh (zc (zX hr)) zd (zA 8) (zJ vW vV (zA 5) zD))) (zW (zZ (i:=4) uU.nd rfl (Or.inl rfl) (zh (zc (zX hr)) zd (yj (yX (zB (zA 4) (zB zO zM)) (zg (zH (zH zk)) (by decide)))) (v_ jT jk rfl z_int pH (yl (zI (jv (wI (xK hr)) wH (zI (zA 3)) (zI zO) (yE _))) ym)))))))) (zW (yZ (pY zO (zI (yj (yX (zB (zA 2) (zB (zA 3) (zB (zA 4) zM))) (zg (zH (zH (zH zk))) (by decide)))))))))))))
noncomputable abbrev pV:Stmt:=top 43
theorem vX:yc ["_law_script", "_law_words", "_law_lines_here", "_law_rows", "_law_cell", "_law_at", "_law_way", "_law_bad"] ["_law_script"] (y9 pV):=by ac_rfl
variable (h_law_words_built:Xm P w K mg base) (h_law_lines:XV P w K mg base) (h_law_spoilt:Xj P w K mg base) (h_law_bad_text:XM P w K mg base)
include yF h_law_words_built h_law_lines h_law_mixed h_law_cell_at h_law_spoilt h_law_bad_text h_read_listing in
theorem BS {f:Addr} {fd:FuncData} (d:qH K "law" "law" pV f fd):wv P w K mg base vG 11 f fd ["_law_script"] (Z3 K):=Mn d vX (by decide) CG fun cdv A outer s H E hr=>(zQ (zZ (i:=1) vX.nd rfl (Or.inl rfl) (yM h_law_words_built hr rfl (zB (zA 0) zM))) (zQ (zZ (i:=2) vX.nd rfl (Or.inl rfl) (yM h_law_lines hr rfl (zB (zA 1) zM))) (zQ (yN (yB (wI (xK hr)) wH (zI (zA 2)) (zI (yj (yX zM (zg zk (by decide))))) (yE _)) (zQ (zZ (i:=2) vX.nd rfl (Or.inl rfl) (yj (yX (zB (yj (yX (zB zO (zB zO (zB zO zM))) (zg (zH (zH (zH zk))) (by decide)))) zM) (zg (zH zk) (by decide))))) (zW (zZ (i:=1) vX.nd rfl (Or.inl rfl) (yj (yX (zB zD zM) (zg (zH zk) (by decide))))))) yY) (zQ (U8 (i:=3) rfl vX.nd rfl rfl (pG (own:=["_law_line"]) rfl) rfl (qm (zA 2)) (pE (fun C s H fp pn=>(xZ (i:=8) (show (um ["_law_script", "_law_words", "_law_lines_here", "_law_rows", "_law_cell", "_law_at", "_law_way", "_law_bad"] ["_law_line"]).Nodup by decide +kernel) rfl (Or.inl rfl))) rfl) (fun C s H fp pn=>Yt) (fun C s H fp pn=>(pY zO (zI (zA 8))))) (zQ (zZ (i:=4) vX.nd rfl (Or.inl rfl) (yM h_law_mixed hr rfl (zB (yM h_law_cell_at hr rfl (zB (zA 0) (zB zD zM))) (zB zD zM)))) (zQ (zZ (i:=5) vX.nd rfl (Or.inl rfl) (zJ yK yJ (zA 4) (xr wB wE rfl yF w8 (yl (zI (zA 3)) ym)))) (zQ (zZ (i:=6) vX.nd rfl (Or.inl rfl) (zJ yK yJ (zJ xM xL (zA 4) zD) zD)) (zQ (zZ (i:=7) vX.nd rfl (Or.inl rfl) (zJ zy zx (zJ zy zx (wn (zA 3) wZ (wb (zA 5))) (yj (yX (zB (yM h_law_spoilt hr rfl (zB (zh (zc (zX hr)) zd (zA 2) (zA 5)) (zB (zJ xM xL (zA 4) zD) zM))) zM) (zg (zH zk) (by decide))))) (wn (zA 3) (wb (zJ zy zx (zA 5) zD)) wZ))) (zQ (yN (tu (UC (yB (wI (xK hr)) wH (zI (zA 6)) (zI zD) (yE _)) (UD (yB wV xE (zI (zJ zy zx (zA 5) zD)) (zI (xr wB wE rfl yF w8 (yl (zI (zA 3)) ym))) (yE _))))) (zW (zZ (i:=7) vX.nd rfl (Or.inl rfl) (zJ zy zx (wn (zA 3) wZ (wb (zA 5))) (wn (zA 3) (wb (zJ zy zx (zA 5) zD)) wZ)))) yY) (zQ (yN (yB (wI (xK hr)) wH (zI (zA 6)) (zI zD) (yE _)) (zW (zZ (i:=7) vX.nd rfl (Or.inl rfl) (zJ zy zx (wn (zA 3) wZ (wb (zJ zy zx (zA 5) zD))) (wn (zA 3) (wb (zA 5)) wZ)))) yY) (zQ (yN (yB (wI (xK hr)) wH (zI (zA 6)) (zI zD) (yE _)) (zW (zZ (i:=7) vX.nd rfl (Or.inl rfl) (zJ zy zx (zJ zy zx (wn (zA 3) wZ (wb (zA 5))) (yj (yX (zB zO zM) (zg (zH zk) (by decide))))) (wn (zA 3) (wb (zA 5)) wZ)))) yY) (zQ (yN (IN (qq (yM h_law_bad_text hr rfl (zB (pY zO (zI (zA 7))) zM)))) (zW (yZ Yk)) yY) (zW (yZ (Jv (jv (wI (xK hr)) wH (zI (CS h_read_listing hr rfl (zB (pY zO (zI (zA 3))) zM))) (zI (zA 1)) (yE _)) (Jz (yM h_law_bad_text hr rfl (zB (zJ zy zx (pY zO (zI (zA 7))) zO) zM))))))))))))))))))
end
end
theorem all_mk {l:PySem.W.OpenLaw} {w:World} {K:PySem.W.Frag} {h:Heap} {mg:Str->Option Value} {fa:Addr} (X:K.In h) (G:h.Ns mainGlobals mg) (hfa:mg "law" = some (.ref fa))
  {f29:Addr} {od29 an29:Option Addr} {sl29:Array (Option Value)} {oc29 kV29 dc29 pm29 cd29 ct29:Value}
  (a0:zp K "read_hex" Yc)
  (a1:zp K "word_told" Ye)
  (a2:zp K "read_listing" Yd)
  (a3:zp K "_law_cell_at" Vc)
  (a4:zp K "_law_mixed" Vk)
  (a5:zp K "_law_name_by" Vl)
  (a6:zp K "_law_row_by" Vr)
  (a7:zp K "_law_place_by" Vo)
  (a8:zp K "_law_rows_by" Vt)
  (a9:zp K "_law_jumps_in" Vh)
  (a10:zp K "_law_many_by" Vj)
  (a11:zp K "_law_items_by" Ve)
  (a12:zp K "_law_built" Vb)
  (a13:zp K "_law_stands" Vv)
  (a14:zp K "_law_near_ones" Vm)
  (a15:zp K "_law_reaching" Vp)
  (a16:zp K "_law_any_far" VZ)
  (a17:zp K "_law_order" Vn)
  (a18:zp K "_law_word" Vw)
  (a19:zp K "_law_jump_words" Vg)
  (a20:zp K "_law_written" Vy)
  (a21:zp K "_law_jump_at" Vf)
  (a22:zp K "_law_row_at" Vq)
  (a23:zp K "_law_words_built" Vx)
  (a24:zp K "_law_hex" Vd)
  (a25:zp K "_law_row_text" Vs)
  (a26:zp K "_law_lines" Vi)
  (a27:zp K "_law_bad_text" Va)
  (a28:zp K "_law_spoilt" Vu)
  (a29:PySem.W.nsIn K mainGlobals "law" = some (some (.ref f29)))
  (l29:K.lookup f29=Ti "law" pV oc29 od29 sl29 kV29 dc29 pm29 an29 cd29 ct29)
  (c29:PySem.W.codeIn K cd29 "law" = true) (k29:PySem.W.keepIn K (.ref f29)=true)
  (nz_len:PySem.W.nsIn K mainGlobals "len" = some none)
  (nz_str:PySem.W.nsIn K mainGlobals "str" = some none)
  (nz_range:PySem.W.nsIn K mainGlobals "range" = some none)
  (nz_max:PySem.W.nsIn K mainGlobals "max" = some none)
  (nz_min:PySem.W.nsIn K mainGlobals "min" = some none)
  (nz_sorted:PySem.W.nsIn K mainGlobals "sorted" = some none)
  (nz_int:PySem.W.nsIn K mainGlobals "int" = some none)
  (nz_isinstance:PySem.W.nsIn K mainGlobals "isinstance" = some none)
  (nz_ValueError:PySem.W.nsIn K mainGlobals "ValueError" = some none)
  {A_SIGN_LOWS:Addr} {n_SIGN_LOWS:Nat} {sl_SIGN_LOWS:Array (Option Value)} {u0_SIGN_LOWS u1_SIGN_LOWS u2_SIGN_LOWS u3_SIGN_LOWS u4_SIGN_LOWS u5_SIGN_LOWS u6_SIGN_LOWS u7_SIGN_LOWS:Tok} (ng_SIGN_LOWS:PySem.W.nsIn K mainGlobals "SIGN_LOWS" = some (some (.ref A_SIGN_LOWS)))
  (nq_SIGN_LOWS:K.lookup A_SIGN_LOWS=some ⟨.type "tuple",none,.seq #[.int 28 u0_SIGN_LOWS,.int 24 u1_SIGN_LOWS,.int 20 u2_SIGN_LOWS,.int 16 u3_SIGN_LOWS,.int 12 u4_SIGN_LOWS,.int 8 u5_SIGN_LOWS,.int 4 u6_SIGN_LOWS,.int 0 u7_SIGN_LOWS] n_SIGN_LOWS,sl_SIGN_LOWS⟩)
  {tg_SIGNS:Tok} (ng_SIGNS:PySem.W.nsIn K mainGlobals "SIGNS" = some (some (.str "0123456789abcdef" tg_SIGNS)))
  {C_BadNumber:Addr} (nc_BadNumber:PySem.W.nsIn K mainGlobals "BadNumber" = some (some (.ref C_BadNumber))) (ec_BadNumber:PySem.W.excIn K C_BadNumber [.type "ValueError",.type "Exception",.type "BaseException",.type "object"] "ValueError.__new__" = true)
  {C_BadText:Addr} (nc_BadText:PySem.W.nsIn K mainGlobals "BadText" = some (some (.ref C_BadText))) (ec_BadText:PySem.W.excIn K C_BadText [.type "ValueError",.type "Exception",.type "BaseException",.type "object"] "ValueError.__new__" = true)
  {C_RunError:Addr} (nc_RunError:PySem.W.nsIn K mainGlobals "RunError" = some (some (.ref C_RunError))) (ec_RunError:PySem.W.excIn K C_RunError [.type "ValueError",.type "Exception",.type "BaseException",.type "object"] "ValueError.__new__" = true)
  {C_NoLabel:Addr} (nc_NoLabel:PySem.W.nsIn K mainGlobals "NoLabel" = some (some (.ref C_NoLabel))) (ec_NoLabel:PySem.W.excIn K C_NoLabel [.type "ValueError",.type "Exception",.type "BaseException",.type "object"] "ValueError.__new__" = true)
  {C_BadWords:Addr} (nc_BadWords:PySem.W.nsIn K mainGlobals "BadWords" = some (some (.ref C_BadWords))) (ec_BadWords:PySem.W.excIn K C_BadWords [.type "ValueError",.type "Exception",.type "BaseException",.type "object"] "ValueError.__new__" = true)
  {C_NoAddress:Addr} (nc_NoAddress:PySem.W.nsIn K mainGlobals "NoAddress" = some (some (.ref C_NoAddress))) (ec_NoAddress:PySem.W.excIn K C_NoAddress [.type "ValueError",.type "Exception",.type "BaseException",.type "object"] "ValueError.__new__" = true)
  {C_BadState:Addr} (nc_BadState:PySem.W.nsIn K mainGlobals "BadState" = some (some (.ref C_BadState))) (ec_BadState:PySem.W.excIn K C_BadState [.type "ValueError",.type "Exception",.type "BaseException",.type "object"] "ValueError.__new__" = true)
  (pm_BadNumber_BadNumber:PySem.W.exmOne K (.ref C_BadNumber) (.ref C_BadNumber)=some true)
  (px_BadText_ga:PySem.W.findIn K (.ref C_BadText) "__getattribute__" = some (some (.builtin "BaseException.__getattribute__")))
  (px_BadText_gt:PySem.W.findIn K (.ref C_BadText) "__getattr__" = some none)
  (px_BadText_cl:PySem.W.findIn K (.ref C_BadText) "__class__" = some (some (.builtin "object.__class__")))
  (px_BadText_mo:PySem.W.mroIn K C_BadText (.type "object")=some true)
  (px_BadText_mb:PySem.W.mroIn K C_BadText (.type "BaseException")=some true)
  (pt_BadText_NoLabel:PySem.W.kitOne K (.ref C_BadText) (.ref C_NoLabel)=some false)
  (pt_BadText_BadWords:PySem.W.kitOne K (.ref C_BadText) (.ref C_BadWords)=some false)
  (pt_BadText_BadNumber:PySem.W.kitOne K (.ref C_BadText) (.ref C_BadNumber)=some false)
  (pt_BadText_NoAddress:PySem.W.kitOne K (.ref C_BadText) (.ref C_NoAddress)=some false)
  (pt_BadText_BadState:PySem.W.kitOne K (.ref C_BadText) (.ref C_BadState)=some false)
  (pt_BadText_ValueError:PySem.W.kitOne K (.ref C_BadText) (.type "ValueError")=some true)
  (pt_BadText_BadText:PySem.W.kitOne K (.ref C_BadText) (.ref C_BadText)=some true)
  (pm_BadText_RunError:PySem.W.exmOne K (.ref C_BadText) (.ref C_RunError)=some true)
  : ∃ fd:FuncData,(∀ (s:Shared) (v:Value),BindsTo s fd ⟨[v],[]⟩ [("_law_script",v)])/\∀ base:Heap,K.In base->base.Ns mainGlobals mg->wv l.prog w K mg base vG 11 fa fd ["_law_script"] (Z3 K):=by
 have e:=hfa.symm.trans (PySem.W.mg_of X G a29)
 cases e
 have yF:mg "len" = none:=PySem.W.mg_none_of X G nz_len
 have z_str:mg "str" = none:=PySem.W.mg_none_of X G nz_str
 have z_range:mg "range" = none:=PySem.W.mg_none_of X G nz_range
 have z_max:mg "max" = none:=PySem.W.mg_none_of X G nz_max
 have z_min:mg "min" = none:=PySem.W.mg_none_of X G nz_min
 have z_sorted:mg "sorted" = none:=PySem.W.mg_none_of X G nz_sorted
 have z_int:mg "int" = none:=PySem.W.mg_none_of X G nz_int
 have z_isinstance:mg "isinstance" = none:=PySem.W.mg_none_of X G nz_isinstance
 have z_ValueError:mg "ValueError" = none:=PySem.W.mg_none_of X G nz_ValueError
 have k_SIGN_LOWS:O7 K A_SIGN_LOWS:=⟨_,nq_SIGN_LOWS,rfl,rfl⟩
 have g_SIGN_LOWS:qI mg "SIGN_LOWS" (.ref A_SIGN_LOWS):=⟨_,PySem.W.mg_of X G ng_SIGN_LOWS,rfl⟩
 have q_SIGN_LOWS:∀ H,zb K H kA (.ref A_SIGN_LOWS):=fun H=>⟨A_SIGN_LOWS,_,rfl,Ov (xs:=[.int 28,.int 24,.int 20,.int 16,.int 12,.int 8,.int 4,.int 0]) nq_SIGN_LOWS (by show (8:Nat)<=sizeLine; decide) (.cons ⟨_,rfl⟩ (.cons ⟨_,rfl⟩ (.cons ⟨_,rfl⟩ (.cons ⟨_,rfl⟩ (.cons ⟨_,rfl⟩ (.cons ⟨_,rfl⟩ (.cons ⟨_,rfl⟩ (.cons ⟨_,rfl⟩ .nil)))))))) H,⟨_,_,rfl,rfl,⟨_,_,rfl,rfl,⟨_,_,rfl,rfl,⟨_,_,rfl,rfl,⟨_,_,rfl,rfl,⟨_,_,rfl,rfl,⟨_,_,rfl,rfl,⟨_,_,rfl,rfl,rfl⟩⟩⟩⟩⟩⟩⟩⟩,qo (by decide)⟩
 have g_SIGNS:qI mg "SIGNS" (.str "0123456789abcdef"):=⟨_,PySem.W.mg_of X G ng_SIGNS,⟨_,rfl⟩⟩
 have q_SIGNS:∀ H,zb K H (.str "0123456789abcdef") (.str "0123456789abcdef"):=fun _=>⟨rfl,qo (by decide)⟩
 have c_BadNumber:xO K mg "BadNumber" C_BadNumber:=⟨PySem.W.mg_of X G nc_BadNumber,ec_BadNumber⟩
 have c_BadText:xO K mg "BadText" C_BadText:=⟨PySem.W.mg_of X G nc_BadText,ec_BadText⟩
 have y_BadText:=nc_BadText
 have c_RunError:xO K mg "RunError" C_RunError:=⟨PySem.W.mg_of X G nc_RunError,ec_RunError⟩
 have c_NoLabel:xO K mg "NoLabel" C_NoLabel:=⟨PySem.W.mg_of X G nc_NoLabel,ec_NoLabel⟩
 have c_BadWords:xO K mg "BadWords" C_BadWords:=⟨PySem.W.mg_of X G nc_BadWords,ec_BadWords⟩
 have c_NoAddress:xO K mg "NoAddress" C_NoAddress:=⟨PySem.W.mg_of X G nc_NoAddress,ec_NoAddress⟩
 have c_BadState:xO K mg "BadState" C_BadState:=⟨PySem.W.mg_of X G nc_BadState,ec_BadState⟩
 have m_BadNumber_BadNumber:PySem.W.exmOne K (.ref C_BadNumber) (.ref C_BadNumber)=some true:=pm_BadNumber_BadNumber
 have x_BadText:u9 K C_BadText:=⟨px_BadText_ga,px_BadText_gt,px_BadText_cl,px_BadText_mo,px_BadText_mb⟩
 have t_BadText_NoLabel:PySem.W.kitOne K (.ref C_BadText) (.ref C_NoLabel)=some false:=pt_BadText_NoLabel
 have t_BadText_BadWords:PySem.W.kitOne K (.ref C_BadText) (.ref C_BadWords)=some false:=pt_BadText_BadWords
 have t_BadText_BadNumber:PySem.W.kitOne K (.ref C_BadText) (.ref C_BadNumber)=some false:=pt_BadText_BadNumber
 have t_BadText_NoAddress:PySem.W.kitOne K (.ref C_BadText) (.ref C_NoAddress)=some false:=pt_BadText_NoAddress
 have t_BadText_BadState:PySem.W.kitOne K (.ref C_BadText) (.ref C_BadState)=some false:=pt_BadText_BadState
 have t_BadText_ValueError:PySem.W.kitOne K (.ref C_BadText) (.type "ValueError")=some true:=pt_BadText_ValueError
 have t_BadText_BadText:PySem.W.kitOne K (.ref C_BadText) (.ref C_BadText)=some true:=pt_BadText_BadText
 have m_BadText_RunError:PySem.W.exmOne K (.ref C_BadText) (.ref C_RunError)=some true:=pm_BadText_RunError
 have D0:Def K mg "read_hex" Yc ["text"]:=zp.d1 a0 X G
 have D1:Def K mg "word_told" Ye ["parts", "number"]:=zp.d2 a1 X G
 have D2:Def K mg "read_listing" Yd ["text"]:=zp.d1 a2 X G
 have F29:=Tn (st:=pV) l29 c29 k29
 refine ⟨PySem.W.fnOf "law" "law" (qS pV) (wU pV) (y9 pV) .none kV29 dc29 pm29 an29 cd29 ct29,fun s v=>.of_eq rfl,fun base _ _=>?_⟩
 have h_read_hex:=Bx (P:=l.prog) (w:=w) (base:=base) D0 yF g_SIGN_LOWS q_SIGN_LOWS g_SIGNS q_SIGNS c_BadNumber
 have h_word_told:=Bz (P:=l.prog) (w:=w) (base:=base) D1 z_str yF c_BadText c_BadNumber m_BadNumber_BadNumber h_read_hex
 have h_read_listing:=By (P:=l.prog) (w:=w) (base:=base) D2 yF h_word_told
 have h_law_cell_at:XO l.prog w K mg base:=BW X G yF a3
 have h_law_mixed:XZ l.prog w K mg base:=Be X G  a4
 have h_law_name_by:Xa l.prog w K mg base:=Bf X G z_range h_law_mixed a5
 have h_law_row_by:Xg l.prog w K mg base:=Bl X G  a6
 have h_law_place_by:Xd l.prog w K mg base:=Bi X G z_max z_min a7
 have h_law_rows_by:Xi l.prog w K mg base:=Bn X G yF z_range h_law_mixed h_law_cell_at h_law_place_by h_law_row_by a8
 have h_law_jumps_in:XU l.prog w K mg base:=Bb X G yF z_range a9
 have h_law_many_by:XW l.prog w K mg base:=Bd X G  a10
 have h_law_items_by:XR l.prog w K mg base:=BY X G yF z_range h_law_mixed h_law_jumps_in h_law_name_by a11
 have h_law_built:XN l.prog w K mg base:=BV X G h_law_cell_at h_law_many_by h_law_rows_by h_law_items_by a12
 have h_law_stands:Xk l.prog w K mg base:=Bp X G yF z_range a13
 have h_law_near_ones:Xb l.prog w K mg base:=Bg X G h_law_jumps_in h_law_stands a14
 have h_law_reaching:Xe l.prog w K mg base:=Bj X G z_sorted h_law_near_ones a15
 have h_law_any_far:XL l.prog w K mg base:=BT X G h_law_mixed h_law_jumps_in h_law_reaching a16
 have h_law_order:Xc l.prog w K mg base:=Bh X G  a17
 have h_law_word:Xl l.prog w K mg base:=Bq X G yF h_law_order a18
 have h_law_jump_words:XT l.prog w K mg base:=Ba X G z_int a19
 have h_law_written:Xn l.prog w K mg base:=Bs X G yF z_range h_law_stands h_law_jump_words h_law_word a20
 have h_law_jump_at:XS l.prog w K mg base:=BZ X G yF z_int h_law_jump_words a21
 have h_law_row_at:Xf l.prog w K mg base:=Bk X G yF h_law_order z_int h_law_word h_law_jump_at a22
 have h_law_words_built:Xm l.prog w K mg base:=Br X G h_law_cell_at h_law_built h_law_written h_law_any_far a23
 have h_law_hex:XQ l.prog w K mg base:=BX X G z_range a24
 have h_law_row_text:Xh l.prog w K mg base:=Bm X G yF z_range z_int z_str a25
 have h_law_lines:XV l.prog w K mg base:=Bc X G yF z_str h_law_row_at h_law_row_text h_law_hex a26
 have h_law_bad_text:XM l.prog w K mg base:=BU X G z_isinstance z_ValueError c_RunError c_BadText c_NoLabel c_BadWords c_BadNumber c_NoAddress c_BadState y_BadText x_BadText t_BadText_NoLabel t_BadText_BadWords t_BadText_BadNumber t_BadText_NoAddress t_BadText_BadState t_BadText_ValueError t_BadText_BadText m_BadText_RunError h_read_listing a27
 have h_law_spoilt:Xj l.prog w K mg base:=Bo X G z_int z_str a28
 exact BS yF h_law_mixed h_law_cell_at h_read_listing h_law_words_built h_law_lines h_law_spoilt h_law_bad_text F29
theorem walk {l:PySem.W.OpenLaw} {q:Program} {loose:List Str} {XP:(Str->Option Value)->Heap->Prop} {YP:World->Heap->Prop} {d:DefRec} {K:Params->PySem.W.Frag} (hn:l.most=some 63) (hdf:d.params.defaults=[])
  (hY:∀ (w:World) (h:Heap),YP w h->(K w.params).In h)
  (F:∀ (w:World) (mg:Str->Option Value) (fa:Addr) (h:Heap),(K w.params).In h->h.Ns mainGlobals mg->mg d.name=some (.ref fa)->
   ∃ fd:FuncData,(∀ (s:Shared) (u:Value),BindsTo s fd ⟨[u],[]⟩ [("_law_script",u)])/\∀ base:Heap,(K w.params).In base->base.Ns mainGlobals mg->wv l.prog w (K w.params) mg base vG 11 fa fd ["_law_script"] (Z3 (K w.params))) :
  PySem.W.WalkO q loose XP YP l.row.toRowW d [] (fun f vs=>PySem.call f vs):=
 L3.walkB (n:=63) (k:=11) (x := "_law_script") (sp:=Z3) hn (by decide) hdf ⟨rfl,by decide,by decide,rfl⟩ hY F fun _ _ a ns hl hb hS=>⟨a,ns,rfl,hS,hl,hb,fun _=>rfl⟩
end My
namespace PySem.W.Fast
noncomputable def tw4171796767172721651:=0
noncomputable def tw14451250648670714689:=0
noncomputable def tw7240988811724298766:=0
noncomputable def tw18255453461448649782:=0
noncomputable def tw14174375355230365404:=0
noncomputable def tw11741324416977039974:=0
noncomputable def tw12751297778473503904:=0
noncomputable def tw4023598113254736976:=0
noncomputable def tw17106399068149977955:=0
noncomputable def tw7641585335423031005:=0
noncomputable def tw5847108108546217449:=0
noncomputable def tw15651530327971534589:=0
noncomputable def tw15450841121230599833:=0
noncomputable def tw7931448996324150096:=0
noncomputable def tw7370345352960820453:=0
noncomputable def tw8853676229313256461:=0
noncomputable def tw2113047891081032511:=0
noncomputable def tw15823743378881087087:=0
noncomputable def tw13498983502780486947:=0
noncomputable def tw2795043447233056887:=0
noncomputable def tw17168395938933660893:=0
noncomputable def tw16269814211864004161:=0
noncomputable def tw10063592152939048022:=0
noncomputable def tw7260219555184273851:=0
noncomputable def tw16338784461158916668:=0
noncomputable def tw18053504230801154031:=0
noncomputable def tw5374513218113901406:=0
noncomputable def tw7230646554264307774:=0
noncomputable def tw5683052640890108514:=0
noncomputable def tw7892657344298902903:=0
noncomputable def tw4682422388186029224:=0
noncomputable def tw13820313021897243774:=0
noncomputable def tw7461558775666917834:=0
noncomputable def tw3981365223813727851:=0
noncomputable def tw10453975221215180371:=0
noncomputable def tw4132372789888714165:=0
noncomputable def tw3296104506949881571:=0
noncomputable def tw14768633905123800368:=0
noncomputable def tw1546963138260306873:=0
noncomputable def tw15582526545648103116:=0
noncomputable def tw7125694038730726801:=0
noncomputable def tw6618034010993429872:=0
noncomputable def tw7399896366799953076:=0
noncomputable def tw16376971271401827267:=0
noncomputable def tw2222819349969415696:=0
noncomputable def tw14886411327705531982:=0
noncomputable def tw13835433895952756807:=0
noncomputable def tw8669583860915878959:=0
noncomputable def tw7152654375676818256:=0
noncomputable def tw6869242571260096927:=0
noncomputable def tw4270528857247493106:=0
noncomputable def tw18223490376428061400:=0
noncomputable def tw17928345259326180789:=0
noncomputable def tw9808405741542872711:=0
noncomputable def tw16878789681578241320:=0
noncomputable def tw9784390901030521564:=0
noncomputable def tw6189085397041915744:=0
noncomputable def tw15446563959946086263:=0
noncomputable def tw683867364835420662:=0
noncomputable def tw4618940197732622974:=0
noncomputable def tw9464372781209842540:=0
noncomputable def tw392511594919220573:=0
noncomputable def tw14106646273184732809:=0
noncomputable def tw5351967725194789206:=0
noncomputable def tw2503563287417678682:=0
noncomputable def tw17065409810277291756:=0
noncomputable def tw11036265972534637543:=0
noncomputable def tw5665755281671292460:=0
noncomputable def tw17007483859183785679:=0
noncomputable def tw7477679576969979082:=0
noncomputable def tw10511354921811533134:=0
noncomputable def tw17237955227261180038:=0
noncomputable def tw2594896466493089151:=0
noncomputable def tw7294258804074548976:=0
noncomputable def tw11234561002825373493:=0
noncomputable def tw8931776272856496899:=0
noncomputable def tw14700625561572075551:=0
noncomputable def tw15322657040675588720:=0
noncomputable def tw8858851983841771631:=0
noncomputable def tw393781892076295262:=0
noncomputable def tw17771750118507350966:=0
noncomputable def tw489693237979445956:=0
noncomputable def tw13695376520832376673:=0
noncomputable def tw8384655149060850880:=0
end PySem.W.Fast
open PySem PySem.W PyProof.Rows
set_option maxRecDepth 100000 in
set_option maxHeartbeats 0 in
theorem PySem.Challenge.cw_markrun_k64_listings_refused_holds : PySem.Challenge.rw_markrun_k64_listings_refused.Holds := by
 w_on; o_law; k_head; (case hw=>w_witness2)
 k_fill
 refine My.walk (l:=PySem.Challenge.rw_markrun_k64_listings_refused) rfl rfl (fun w h Y=>PySem.W.kIn_of Y) ?F
 case F=>
  intro w mg fa h KX G hmg
  refine' My.all_mk KX G hmg ?a0 ?a1 ?a2 ?a3 ?a4 ?a5 ?a6 ?a7 ?a8 ?a9 ?a10 ?a11 ?a12 ?a13 ?a14 ?a15 ?a16 ?a17 ?a18 ?a19 ?a20 ?a21 ?a22 ?a23 ?a24 ?a25 ?a26 ?a27 ?a28 ?a29 ?l29 ?c29 ?k29 ?nz_len ?nz_str ?nz_range ?nz_max ?nz_min ?nz_sorted ?nz_int ?nz_isinstance ?nz_ValueError ?ng_SIGN_LOWS ?nq_SIGN_LOWS ?ng_SIGNS ?nc_BadNumber ?ec_BadNumber ?nc_BadText ?ec_BadText ?nc_RunError ?ec_RunError ?nc_NoLabel ?ec_NoLabel ?nc_BadWords ?ec_BadWords ?nc_NoAddress ?ec_NoAddress ?nc_BadState ?ec_BadState ?pm_BadNumber_BadNumber ?px_BadText_ga ?px_BadText_gt ?px_BadText_cl ?px_BadText_mo ?px_BadText_mb ?pt_BadText_NoLabel ?pt_BadText_BadWords ?pt_BadText_BadNumber ?pt_BadText_NoAddress ?pt_BadText_BadState ?pt_BadText_ValueError ?pt_BadText_BadText ?pm_BadText_RunError
  all_goals try exact ⟨_,_,_,_,_,_,_,_,_,_,by k_is,by k_is,by k_is,by k_is⟩
  all_goals try (first | k_is | k_exc | kit_is | kts_exm)
  all_goals decide
