import PyProof.Rows.All
import Wide.All
import OpenK.AllK
import Wide.FinOn
import Lean
import PyProof.EqAt
import PyProof.EqKinds
import PyProof.TupleCall
import PySem.Challenge.RW_markrun_k14_faults
set_option Elab.async false
set_option linter.all false
set_option maxRecDepth 100000
namespace L2
open PySem PySem.Spec PyProof.Rows
noncomputable abbrev zY:=Sum Int Str
noncomputable def jL:zY->Value->Bool
 | .inl k,v=>Value.isInt k v
 | .inr x,v=>Value.isStrOf x v
noncomputable def ML (w:World):zY->Int
 | .inl k=>hashInt k
 | .inr x=>hashStr w x
theorem tW:∀ {k:zY} {v:Value},jL k v=true->(∃ i t,k=Sum.inl i/\v=Value.int i t)\/(∃ x t,k=Sum.inr x/\v=Value.str x t)
 | .inl i,v,h=>by
  obtain ⟨t,e⟩:=Value.isInt_shape (k:=i) (v:=v) h
  exact .inl ⟨i,t,rfl,e⟩
 | .inr x,v,h=>by
  obtain ⟨t,e⟩:=Value.isStrOf_shape (x:=x) (v:=v) h
  exact .inr ⟨x,t,rfl,e⟩
theorem MN (i:Int) (t:Tok):jL (.inl i) (.int i t)=true:=by simp [jL,Value.isInt]
theorem MO (x:Str) (t:Tok):jL (.inr x) (.str x t)=true:=by simp [jL,Value.isStrOf]
theorem MP (a b:Int):decide ((Sum.inl a:zY)=Sum.inl b)=(a == b):=by
 by_cases e:a=b
 ·subst e; simp
 ·have h:¬ (Sum.inl a:zY)=Sum.inl b:=fun q=>e (Sum.inl.inj q)
  rw [decide_eq_false h]
  exact (beq_eq_false_iff_ne.mpr e).symm
theorem MS (a b:Str):decide ((Sum.inr a:zY)=Sum.inr b)=decide (a=b):=by
 by_cases e:a=b
 ·subst e; simp
 ·have h:¬ (Sum.inr a:zY)=Sum.inr b:=fun q=>e (Sum.inr.inj q)
  rw [decide_eq_false h,decide_eq_false e]
theorem MQ (a:Int) (b:Str):decide ((Sum.inl a:zY)=Sum.inr b)=false:=decide_eq_false (fun q=>nomatch q)
theorem MR (a:Str) (b:Int):decide ((Sum.inr a:zY)=Sum.inl b)=false:=decide_eq_false (fun q=>nomatch q)
noncomputable def wM (prog:Program) (w:World):PySem.KeyKind prog w zY where
 is:=jL
 hash:=ML w
 inj:=fun v a b ha hb=>by
  rcases tW ha with ⟨i,t,rfl,rfl⟩ | ⟨x,t,rfl,rfl⟩
  ·rcases tW hb with ⟨j,u,rfl,e⟩ | ⟨y,u,rfl,e⟩
   ·injection e with e1 _; rw [e1]
   ·exact nomatch e
  ·rcases tW hb with ⟨j,u,rfl,e⟩ | ⟨y,u,rfl,e⟩
   ·exact nomatch e
   ·injection e with e1 _; rw [e1]
 byValue:=fun k v h=>by
  rcases tW h with ⟨i,t,rfl,rfl⟩ | ⟨x,t,rfl,rfl⟩<;>rfl
 pyHash:=fun hv h=>by
  rcases tW hv with ⟨i,t,rfl,rfl⟩ | ⟨x,t,rfl,rfl⟩
  ·exact wpAny_pyHash_int h
  ·exact wpAny_pyHash_str h
 eqBool:=fun hu hv h=>by
  rcases tW hu with ⟨i,t,rfl,rfl⟩ | ⟨x,t,rfl,rfl⟩
  ·rcases tW hv with ⟨j,u,rfl,rfl⟩ | ⟨y,u,rfl,rfl⟩
   ·rw [MP] at h; exact wpAny_eqBool_int h
   ·rw [MQ] at h; exact SeqAt.EqAt.int_str i t y u _ _ _ _ h
  ·rcases tW hv with ⟨j,u,rfl,rfl⟩ | ⟨y,u,rfl,rfl⟩
   ·rw [MR] at h; exact SeqAt.EqAt.str_int x t j u _ _ _ _ h
   ·rw [MS] at h; exact wpAny_eqBool_str h
 «strs»:=fun k x t v h=>by
  rcases tW h with ⟨i,u,rfl,e⟩ | ⟨y,u,rfl,e⟩
  ·exact nomatch e
  ·injection e with e1 _
   subst e1
   cases v<;>rfl
theorem Mv (prog:Program) (w:World) (i:Int) (t:Tok):(wM prog w).is (.inl i) (.int i t)=true:=MN i t
theorem Wt (prog:Program) (w:World) (x:Str) (t:Tok):(wM prog w).is (.inr x) (.str x t)=true:=MO x t
end L2
namespace L2
open PySem PySem.Spec PyProof.Rows
inductive V where
 | non | bl (b:Bool) | int (i:Int) | str (x:Str) | byt (b:Array UInt8) | flt (b:UInt64) | ref (a:Addr) | ty (n:String)
 deriving DecidableEq
noncomputable def zm:V->Value->Prop
 | .non,u=>u=Value.none
 | .bl b,u=>u=Value.bool b
 | .int i,u=>∃ t,u=Value.int i t
 | .str x,u=>∃ t,u=Value.str x t
 | .byt b,u=>∃ t,u=Value.bytes b t
 | .flt b,u=>∃ t,u=Value.float b t
 | .ref a,u=>u=Value.ref a
 | .ty n,u=>u=Value.type n
noncomputable abbrev zf:List V->List Value->Prop:=Paired zm
theorem zf.length {xs:List V} {us:List Value} (r:zf xs us):xs.length=us.length:=Paired.length r
theorem zf.get:∀ {xs:List V} {us:List Value} {i:Nat} {x:V},zf xs us->xs[i]?=some x->∃ u,us[i]?=some u/\zm x u
 | _,_,_,_,.nil,e=>by simp at e
 | _,_,0,_,.cons r _,e=>by simp at e; subst e; exact ⟨_,rfl,r⟩
 | _,_,i+1,x,.cons _ t,e=>by
  obtain ⟨u,h1,h2⟩:=zf.get (i:=i) (x:=x) t (by simpa using e)
  exact ⟨u,by simpa using h1,h2⟩
theorem zf.set {x:V} {u:Value} (r:zm x u):∀ {xs:List V} {us:List Value} (i:Nat),zf xs us->zf (xs.set i x) (us.set i u)
 | _,_,_,.nil=>.nil
 | _,_,0,.cons _ t=>.cons r t
 | _,_,i+1,.cons q t=>.cons q (zf.set r i t)
theorem zf.append:∀ {xs ys:List V} {us ws:List Value},zf xs us->zf ys ws->zf (xs++ys) (us++ws)
 | _,_,_,_,.nil,s=>s
 | _,_,_,_,.cons r t,s=>.cons r (zf.append t s)
theorem zf.take:∀ {xs:List V} {us:List Value} (n:Nat),zf xs us->zf (xs.take n) (us.take n)
 | _,_,0,_=>.nil
 | _,_,_+1,.nil=>.nil
 | _,_,n+1,.cons r t=>.cons r (zf.take n t)
theorem zf.drop:∀ {xs:List V} {us:List Value} (n:Nat),zf xs us->zf (xs.drop n) (us.drop n)
 | _,_,0,r=>r
 | _,_,_+1,.nil=>.nil
 | _,_,n+1,.cons _ t=>zf.drop n t
noncomputable def uO:Option V->Option Value->Prop
 | some v,some u=>zm v u
 | none,none=>True
 | _,_=>False
noncomputable def KV {κ:Type}:List (κ×V)->List (κ×Value)->Prop:=Paired fun (p:κ×V) (q:κ×Value)=>p.1=q.1/\zm p.2 q.2
noncomputable def kV:zY->V
 | .inl i=>.int i
 | .inr x=>.str x
inductive HO where
  | lst (xs:List V)
  | tup (xs:List V)
  | dK (kvs:List (zY×V)) | dT (kvs:List (List zY×V))
  | set (S:Int->Bool) (n:Nat)
  | ins (C dx:Addr) (fs:List (Str×V))
  | own (x:Addr)
  | xd (fs:List (Str×V))
  | met (f x:Addr)
  | rng (lo hi:Int)
  | frz (o:Obj) (u:HO)
  | tbl (ps:Array Value)
  | ext (φ:Heap->Prop)
noncomputable abbrev Hp:=Addr->Option HO
noncomputable def zZ (H:Hp) (a:Addr) (o:HO):Hp:=fun b=>if b=a then some o else H b
theorem xK {H:Hp} {a:Addr} {o:HO}:zZ H a o a=some o:=by unfold zZ; rw [if_pos rfl]
theorem yj {H:Hp} {a b:Addr} {o:HO} (h:b≠a):zZ H a o b=H b:=by unfold zZ; rw [if_neg h]
theorem B9 {H:Hp} {a b:Addr} {o u:HO} (h:H a=some o) (h':H b=some u) (d:o≠u):a≠b:=by
 intro e; subst e; rw [h] at h'; exact d (Option.some.inj h')
theorem wj {H:Hp} {a b:Addr} {o:HO} (h:H a=some o) (h':H b=none):a≠b:=by
 intro e; subst e; rw [h] at h'; cases h'
section
variable (P:Program) (w:World)
noncomputable def yr (H:Hp) (h:Heap) (a:Addr):HO->Prop
 | .lst xs=>xs.length<=sizeLine/\∃ (its:List Value) (n:Nat),zf xs its/\h.get? a=some { cls:=.type "list",data:=.seq its.toArray n }
 | .tup xs=>xs.length<=sizeLine/\∃ its:List Value,zf xs its/\IsTup h a its.toArray
 | .dK kvs=>kvs.length<=sizeLine/\(a == sysModules)=false/\∃ vs,KV kvs vs/\h.DictOf (wM P w) a vs
 | .dT kvs=>kvs.length<=sizeLine/\(a == sysModules)=false/\∃ xs:List (List zY×Addr×Value),
   Paired (fun (p:List zY×V) (q:List zY×Addr×Value)=>p.1=q.1/\H q.2.1=some (.tup (p.1.map kV))/\zm p.2 q.2.2) kvs xs/\
   ∃ o es ep,h.get? a=some o/\o.ExactDict/\o.data=.dict es ep/\es.toList=xs.map (entryOfKey (tupleKind (wM P w)))/\(xs.map (·.1)).Nodup
 | .set S n=>h.SetOf (intKind P w) a S n
 | .ins C dx fs=>H dx=some (.own a)/\fs.length<=1000/\dx≠a/\h.get? a=some (PySem.W.instObj C dx)/\
   ∃ mA,h.Ns1 dx mA/\(∀ f,uO (fs.lookup f) (mA f))/\PySem.Within mA (fs.map (·.1))
 | .own _=>∃ o,h.get? a=some o
 | .xd fs=>∃ mA,h.Ns1 a mA/\∀ f,uO (fs.lookup f) (mA f)
 | .rng lo hi=>∃ t u v,h.get? a=some { cls:=.type "range",data:=.fields #[.int lo t,.int hi u,.int 1 v] }
 | .frz o u=>h.get? a=some o/\yr H h a u
 | .tbl ps=>h.get? a=some { cls:=.none,data:=.fields ps }
 | .met f x=>h.get? a=some (PySem.W.methodObj (.ref f) (.ref x))
 | .ext φ=>φ h/\(∃ o,h.get? a=some o)/\∀ h1 h2:Heap,φ h1->(∀ o,h1.get? a=some o->h2.get? a=some o)->φ h2
noncomputable def yo (H:Hp) (h:Heap):Prop:=∀ a o,H a=some o->yr P w H h a o
end
section
variable {P:Program} {w:World} {H H':Hp} {h h':Heap} {a:Addr} {o:HO}
theorem yr.lt (x:yr P w H h a o):a<h.objs.size:=by
 cases o with
 | lst xs=>obtain ⟨_,_,_,_,e⟩:=x; exact Heap.lt_size e
 | tup xs=>obtain ⟨_,_,_,p⟩:=x; exact p.lt
 | dK kvs=>obtain ⟨_,_,_,_,o,_,_,e,_⟩:=x; exact Heap.lt_size e
 | dT kvs=>obtain ⟨_,_,_,_,o,_,_,e,_⟩:=x; exact Heap.lt_size e
 | set S n=>obtain ⟨o,_,_,_,e,_⟩:=x; exact Heap.lt_size e
 | ins C dx fs=>obtain ⟨_,_,_,e,_⟩:=x; exact Heap.lt_size e
 | own y=>obtain ⟨_,e⟩:=x; exact Heap.lt_size e
 | xd fs=>obtain ⟨_,⟨_,_,_,e,_⟩,_⟩:=x; exact Heap.lt_size e
 | rng lo hi=>obtain ⟨_,_,_,e⟩:=x; exact Heap.lt_size e
 | frz ob u=>obtain ⟨e,_⟩:=x; exact Heap.lt_size e
 | tbl ps=>exact Heap.lt_size (show h.get? a=some _ from x)
 | met f y=>exact Heap.lt_size (show h.get? a=some _ from x)
 | ext φ=>obtain ⟨_,⟨_,e⟩,_⟩:=x; exact Heap.lt_size e
theorem Paired.mapP {α β:Type} {F G:α->β->Prop}:∀ {l₁:List α} {l₂:List β},Paired F l₁ l₂->(∀ a b,F a b->G a b)->Paired G l₁ l₂
 | _,_,.nil,_=>.nil
 | _,_,.cons r t,f=>.cons (f _ _ r) (Paired.mapP t f)
theorem yr.stay (x:yr P w H h a o) (k:∀ b u,(b=a\/H b=some (.own a))->h.get? b=some u->h'.get? b=some u)
  (ho:∀ b,H b=some (.own a)->H' b=some (.own a)) (ht:∀ b xs,H b=some (.tup xs)->H' b=some (.tup xs)):yr P w H' h' a o:=by
 induction o with
 | lst xs=>obtain ⟨z,its,n,r,e⟩:=x; exact ⟨z,its,n,r,k _ _ (.inl rfl) e⟩
 | tup xs=>obtain ⟨z,its,r,ob,e,c⟩:=x; exact ⟨z,its,r,ob,k _ _ (.inl rfl) e,c⟩
 | dK kvs=>obtain ⟨z,y,vs,r,ob,es,ep,e,c⟩:=x; exact ⟨z,y,vs,r,ob,es,ep,k _ _ (.inl rfl) e,c⟩
 | dT kvs=>
  obtain ⟨z,y,xs,r,ob,es,ep,e,c⟩:=x
  exact ⟨z,y,xs,Paired.mapP r fun p q z=>⟨z.1,ht _ _ z.2.1,z.2.2⟩,ob,es,ep,k _ _ (.inl rfl) e,c⟩
 | set S n=>obtain ⟨ob,es,ep,t,e,c⟩:=x; exact ⟨ob,es,ep,t,k _ _ (.inl rfl) e,c⟩
 | ins C dx fs=>
  obtain ⟨d,z,ne,e,mA,⟨od,es,ep,e2,c⟩,r⟩:=x
  exact ⟨ho _ d,z,ne,k _ _ (.inl rfl) e,mA,⟨od,es,ep,k _ _ (.inr d) e2,c⟩,r⟩
 | own y=>obtain ⟨ob,e⟩:=x; exact ⟨ob,k _ _ (.inl rfl) e⟩
 | xd fs=>obtain ⟨mA,⟨od,es,ep,e,c⟩,r⟩:=x; exact ⟨mA,⟨od,es,ep,k _ _ (.inl rfl) e,c⟩,r⟩
 | rng lo hi=>obtain ⟨t,u,v,e⟩:=x; exact ⟨t,u,v,k _ _ (.inl rfl) e⟩
 | frz ob u ih=>obtain ⟨e,q⟩:=x; exact ⟨k _ _ (.inl rfl) e,ih q⟩
 | tbl ps=>
  have e:h.get? a=some { cls:=.none,data:=.fields ps }:=x
  show h'.get? a=some { cls:=.none,data:=.fields ps }
  exact k a _ (.inl rfl) e
 | met f y=>
  have e:h.get? a=some (PySem.W.methodObj (.ref f) (.ref y)):=x
  show h'.get? a=some (PySem.W.methodObj (.ref f) (.ref y))
  exact k a _ (.inl rfl) e
 | ext φ=>obtain ⟨p,⟨o,e⟩,st⟩:=x; exact ⟨st _ _ p fun o q=>k _ _ (.inl rfl) q,⟨o,k _ _ (.inl rfl) e⟩,st⟩
theorem yo.lt (x:yo P w H h) (e:H a=some o):a<h.objs.size:=(x a o e).lt
theorem yo.fresh (x:yo P w H h) (e:h.objs.size<=a):H a=none:=by
 cases q:H a with
 | none=>rfl
 | some u=>exact absurd (Nat.lt_of_lt_of_le (x.lt q) e) (Nat.lt_irrefl _)
theorem yo.kept (x:yo P w H h) (k:∀ b u,h.get? b=some u->h'.get? b=some u):yo P w H h':=fun a o e=>
 (x a o e).stay (fun b u _ q=>k b u q) (fun _ q=>q) fun _ _ q=>q
theorem yo.laid (x:yo P w H h) (k:∀ b u,h.get? b=some u->h'.get? b=some u) (hp:h.objs.size<=a) (new:yr P w (zZ H a o) h' a o):yo P w (zZ H a o) h':=fun b u e=>by
 have hn:=x.fresh hp
 by_cases hb:b=a
 ·subst hb; rw [xK] at e; cases e; exact new
 ·rw [yj hb] at e
  exact (x b u e).stay (fun c v _ q=>k c v q) (fun c q=>by rw [yj (wj q hn)]; exact q) fun c xs q=>by rw [yj (wj q hn)]; exact q
end
noncomputable def Rd (H:Hp) (a:Addr) (u:HO):Prop:=H a=some u\/∃ o,H a=some (.frz o u)
theorem Rd.ok {P:Program} {w:World} {H:Hp} {h:Heap} {a:Addr} {u:HO} (r:Rd H a u) (x:yo P w H h):yr P w H h a u:=by
 rcases r with r | ⟨o,r⟩
 ·exact x a u r
 ·obtain ⟨_,q⟩:=x a _ r
  exact q
noncomputable def gD:Option HO->Prop
 | some (.lst _)=>True
 | some (.dK _)=>True
 | some (.dT _)=>True
 | some (.set _ _)=>True
 | some (.ins _ _ _)=>True
 | some (.ext _)=>True
 | _=>False
section
variable {P:Program} {w:World} {H:Hp} {h h':Heap} {x e:Addr} {o':HO}
theorem yo.write (ok:yo P w H h) (mu:gD (H x)) (he:e=x\/H e=some (.own x)) (k:∀ b u,b≠e->h.get? b=some u->h'.get? b=some u) (heo:∃ u,h'.get? e=some u)
  (new:yr P w (zZ H x o') h' x o'):yo P w (zZ H x o') h':=fun b u q=>by
 have nown:∀ c y,H c=some (.own y)->c≠x:=fun c y r z=>by subst z; rw [r] at mu; exact mu
 have ntup:∀ c xs,H c=some (.tup xs)->c≠x:=fun c xs r z=>by subst z; rw [r] at mu; exact mu
 by_cases hb:b=x
 ·subst hb; rw [xK] at q; cases q; exact new
 ·rw [yj hb] at q
  by_cases hbe:b=e
  ·have q':H b=some (.own x):=by
    rcases he with z | z
    ·exact absurd (hbe.trans z) hb
    ·rw [hbe]; exact z
   rw [q] at q'; cases q'
   obtain ⟨v,hv⟩:=heo
   exact ⟨v,by rw [hbe]; exact hv⟩
  ·refine (ok b u q).stay (fun c v hc r=>k c v ?_ r) (fun c r=>by rw [yj (nown c b r)]; exact r) fun c xs r=>by rw [yj (ntup c xs r)]; exact r
   rcases hc with rfl | hc
   ·exact hbe
   ·rintro rfl
    rcases he with z | z
    ·exact nown c b hc z
    ·rw [hc] at z; cases z; exact hb rfl
end
structure Un (fs ex:List Addr) (H H':Hp) (h h':Heap):Prop where
 keep:∀ b o,h.get? b=some o->H b=none->b ∉ fs->b ∉ ex->h'.get? b=some o
 slot:∀ b o,h.get? b=some o->H b=none->b∈fs->b ∉ ex->∃ sl,h'.get? b=some { o with slots:=sl }
 free:∀ b o,h.get? b=some o->H b=none->b ∉ ex->H' b=none
 there:∀ b o,h.get? b=some o->b ∉ ex->∃ o',h'.get? b=some o'
 tups:∀ b xs,H b=some (.tup xs)->H' b=some (.tup xs)
 frzs:∀ b o u,H b=some (.frz o u)->H' b=some (.frz o u)
 tbls:∀ b ps,H b=some (.tbl ps)->∃ more,H' b=some (.tbl (ps++more))
section
variable {fs fs' ex ex':List Addr} {H H1 H2:Hp} {h h1 h2 h':Heap} {a x e:Addr} {o:HO}
theorem Un.any (u:Un fs ex H H1 h h1) {b:Addr} {ob:Obj} (q:h.get? b=some ob) (n:H b=none) (hx:b ∉ ex):∃ sl,h1.get? b=some { ob with slots:=sl }:=by
 by_cases hb:b∈fs
 ·exact u.slot b ob q n hb hx
 ·exact ⟨ob.slots,u.keep b ob q n hb hx⟩
theorem Un.kept (k:∀ b u,h.get? b=some u->h'.get? b=some u):Un fs ex H H h h':=
 ⟨fun b ob q _ _ _=>k b ob q,fun b ob q _ _ _=>⟨ob.slots,k b ob q⟩,fun _ _ _ n _=>n,fun b ob q _=>⟨ob,k b ob q⟩,fun _ _ q=>q,fun _ _ _ q=>q,fun _ ps q=>⟨#[],by rw [q]; simp⟩⟩
theorem Un.refl:Un fs ex H H h h:=Un.kept fun _ _ q=>q
theorem Un.laid (k:∀ b u,h.get? b=some u->h'.get? b=some u) (hp:h.objs.size<=a) (hn:H a=none):Un fs ex H (zZ H a o) h h' where
 keep:=fun b u q _ _ _=>k b u q
 slot:=fun b u q _ _ _=>⟨u.slots,k b u q⟩
 free:=fun b u q n _=>by rw [yj (Nat.ne_of_lt (Nat.lt_of_lt_of_le (Heap.lt_size q) hp))]; exact n
 there:=fun b u q _=>⟨u,k b u q⟩
 tups:=fun b xs q=>by rw [yj (wj q hn)]; exact q
 frzs:=fun b u xs q=>by rw [yj (wj q hn)]; exact q
 tbls:=fun b ps q=>⟨#[],by rw [yj (wj q hn),q]; simp⟩
theorem Un.write (mu:gD (H x)) (he:e=x\/H e=some (.own x)) (k:∀ b u,b≠e->h.get? b=some u->h'.get? b=some u) (heo:∃ u,h'.get? e=some u):Un fs ex H (zZ H x o) h h':=by
 have hx:∀ b,H b=none->b≠x:=fun b n z=>by subst z; rw [n] at mu; exact mu
 have hb:∀ b,H b=none->b≠e:=fun b n z=>by
  subst z
  rcases he with r | r
  ·exact hx b n r
  ·rw [n] at r; cases r
 have hm:∀ b u,H b=some u->¬ gD (some u)->b≠x:=fun b u q nm z=>by subst z; rw [q] at mu; exact nm mu
 refine ⟨fun b u q n _ _=>k b u (hb b n) q,fun b u q n _ _=>⟨u.slots,k b u (hb b n) q⟩,fun b u q n _=>by rw [yj (hx b n)]; exact n,fun b u q _=>?_,
  fun b xs q=>by rw [yj (hm b _ q fun z=>z)]; exact q,fun b u xs q=>by rw [yj (hm b _ q fun z=>z)]; exact q,fun b ps q=>⟨#[],by rw [yj (hm b _ q fun z=>z),q]; simp⟩⟩
 by_cases hbe:b=e
 ·subst hbe; exact heo
 ·exact ⟨u,k b u hbe q⟩
end
noncomputable def YQ (h:Heap) (H:Hp):List Addr:=(List.range h.objs.size).filter fun a=>(H a).isSome
noncomputable def tT (h:Heap) (H:Hp):Heap:=PySem.W.hideAll h (YQ h H)
theorem Ls (h:Heap) (H:Hp):(tT h H).objs.size=h.objs.size:=PySem.W.hideAll_size _ _
theorem Lr {h:Heap} {H:Hp} {b:Addr} {o:Obj} (e:h.get? b=some o) (n:H b=none):(tT h H).get? b=some o:=
 PySem.W.hideAll_get _ e fun hm=>by
  have q:(H b).isSome=true:=(List.mem_filter.mp hm).2
  rw [n] at q; simp at q
theorem BH {h:Heap} {H:Hp} {b:Addr} {o:Obj} (e:(tT h H).get? b=some o):h.get? b=some o/\H b=none:=by
 have e':h.get? b=some o:=PySem.W.of_hideAll (YQ h H) e
 refine ⟨e',?_⟩
 cases q:H b with
 | none=>rfl
 | some x=>
  have hm:b∈YQ h H:=List.mem_filter.mpr ⟨List.mem_range.mpr (Heap.lt_size e'),by simp [q]⟩
  have z:(tT h H).get? b=none:=PySem.W.hideAll_none (YQ h H) hm
  rw [z] at e; cases e
noncomputable def OI (g h:Heap) (L:Addr):List (Addr×Obj):=(List.range h.objs.size).filterMap fun a=>if a=L\/(g.get? a).isSome=true then none else (h.get? a).map fun o=>(a,o)
noncomputable def yC (g h:Heap) (L d:Addr):List (Addr×Obj):=(OI g h L).filter fun p=>decide (p.1≠d)
end L2
namespace L2
open PySem PySem.Spec PyProof.Rows
structure Mod (K:PySem.W.Frag) (mg:Str->Option Value) (base:Heap):Prop where
 kin:K.In base
 glob:base.Ns mainGlobals mg
 blt:∃ mb,base.Ns builtinsNs mb/\∀ x:Str,x ≠ "__name__" -> mb x=bootBuiltins x
 nolimit:base.NoLimit
structure Cx where
 prog:Program
 w:World
 K:PySem.W.Frag
 mg:Str->Option Value
 base:Heap
 A:Around
 N:List Str
 s₀:Shared
 H₀:Hp
 env:Env
 outer:List Env
 stack:List Env
 ex:List Addr
 fn:Str->Bool
 calm:Bool
 pn:List (Addr×Obj)
 xe:Value->Shared->Prop
noncomputable def yz (l:List Env):List Addr:=l.filterMap (·.frame)
noncomputable abbrev Cx.fs (X:Cx):List Addr:=yz X.outer
noncomputable def p6 (sc:Scope) (x:Str):Prop:=sc.names.lookup x=some .local\/sc.names.lookup x=some .cell\/sc.names.lookup x=some .free
noncomputable def qH (sc:Scope) (x:Str):Prop:=sc.names.lookup x=some .local\/sc.names.lookup x=some .cell
noncomputable def O6 (env:Env) (h:Heap) (m:Str->Option Value) (x:Str) (u:Value):Prop:=
 (env.kindOf x=some .local/\m x=some u)\/((env.kindOf x=some .cell\/env.kindOf x=some .free)/\∃ c,env.cells.lookup x=some c/\h.IsCell c (some u))
structure Cx.Ok (X:Cx):Prop where
 mod:Mod X.K X.mg X.base
 kind:X.env.scope.kind=.function
 glob:X.env.globals=mainGlobals
 blt:X.env.builtins=builtinsNs
 above:X.s₀.heap.objs.size<=X.env.locals
 inj:∀ x y c,X.env.cells.lookup x=some c->X.env.cells.lookup y=some c->x=y
 has:∀ x,(X.env.kindOf x=some .cell\/X.env.kindOf x=some .free)->∃ c,X.env.cells.lookup x=some c
 cab:∀ x c,X.fn x=true->X.env.cells.lookup x=some c->X.s₀.heap.objs.size<=c
 hd:X.calm=true->X.A.handled=none
 frames:X.A.frames=some X.stack
 stk:X.stack=X.outer\/(X.stack=X.env::X.outer/\X.env.frame=some X.env.locals)
 exf:∀ b∈X.ex,b≠X.env.locals/\∀ x c,X.env.cells.lookup x=some c->c≠b
 bs:∀ b o,X.base.get? b=some o->X.s₀.heap.get? b=some o/\X.H₀ b=none
 bsz:X.base.objs.size<=X.s₀.heap.objs.size
 noex:∀ b o,X.base.get? b=some o->b ∉ X.ex
 exfs:∀ b∈X.ex,b ∉ X.fs
 funs:X.s₀.heap.FunFrames X.base X.outer
 frf:∀ b∈X.fs,X.H₀ b=none
structure zC (X:Cx) (pins:List (Addr×Obj)) (σ:List (Option V)) (H:Hp) (s:Shared):Prop where
 ok:X.Ok
 os:s.os=X.s₀.os
 bare:AllBare s.gens
 base:Un X.fs X.ex X.H₀ H X.s₀.heap s.heap
 loc:∃ m,s.heap.Ns X.env.locals m/\∀ (i:Nat) (x:Str) (v:V),X.N[i]?=some x->σ[i]?=some (some v)->p6 X.env.scope x->∃ u,zm v u/\O6 X.env s.heap m x u
 cell:∀ x c,X.env.cells.lookup x=some c->∃ v,s.heap.IsCell c v
 free:H X.env.locals=none
 freeC:∀ x c,X.env.cells.lookup x=some c->H c=none
 pin:∀ p∈X.pn++pins,s.heap.get? p.1=some p.2/\H p.1=none/\p.1≠X.env.locals/\p.1 ∉ X.fs/\∀ v,p.2.data≠.cell v
 hok:yo X.prog X.w H s.heap
 len:σ.length=X.N.length
section
variable {X:Cx} {pins:List (Addr×Obj)} {σ:List (Option V)} {H H':Hp} {s:Shared} {h':Heap}
theorem Cx.Ok.nofr (ok:X.Ok) {b:Addr} {o:Obj} (e:X.base.get? b=some o):b ∉ X.fs:=fun hb=>by
 have:=(ok.funs.mem hb).1
 rw [e] at this; cases this
theorem zC.bs (I:zC X pins σ H s):∀ b o,X.base.get? b=some o->s.heap.get? b=some o/\H b=none:=fun b o e=>
 ⟨I.base.keep b o (I.ok.bs b o e).1 (I.ok.bs b o e).2 (I.ok.nofr e) (I.ok.noex b o e),I.base.free b o (I.ok.bs b o e).1 (I.ok.bs b o e).2 (I.ok.noex b o e)⟩
theorem zC.bk (I:zC X pins σ H s):∀ b o,X.base.get? b=some o->s.heap.get? b=some o:=fun b o e=>(I.bs b o e).1
theorem zC.mod (I:zC X pins σ H s):Mod X.K X.mg X.base:=I.ok.mod
theorem zC.kIn (I:zC X pins σ H s):X.K.In s.heap:=I.ok.mod.kin.keeps I.bk
theorem zC.lt (I:zC X pins σ H s):X.env.locals<s.heap.objs.size:=let ⟨_,hn,_⟩:=I.loc; hn.lt
theorem zC.sz (I:zC X pins σ H s):X.s₀.heap.objs.size<=s.heap.objs.size:=Nat.le_trans I.ok.above (Nat.le_of_lt I.lt)
theorem zC.nofs (I:zC X pins σ H s) {a:Addr} (h:s.heap.objs.size<=a):a ∉ X.fs:=fun hb=>by
 obtain ⟨_,o,ho,_⟩:=I.ok.funs.mem hb
 exact absurd (Nat.lt_of_lt_of_le (Heap.lt_size ho) (Nat.le_trans I.sz h)) (Nat.lt_irrefl _)
theorem zC.cne (I:zC X pins σ H s):∀ x c,X.env.cells.lookup x=some c->c≠X.env.locals:=fun x c e z=>by
 obtain ⟨v,o,ho,hd⟩:=I.cell x c e
 obtain ⟨m,⟨o',es,ep,ho',hd',_⟩,_⟩:=I.loc
 rw [z,ho'] at ho; cases ho; rw [hd'] at hd; cases hd
theorem zC.funs (I:zC X pins σ H s):s.heap.FunFrames X.base X.outer:=by
 have all:∀ (l:List Env),(∀ b∈yz l,b∈X.fs)->X.s₀.heap.FunFrames X.base l->s.heap.FunFrames X.base l:=by
  intro l
  induction l with
  | nil=>intro _ _; trivial
  | cons env r ih=>
   intro hs hl
   obtain ⟨hk,⟨L,o,hf,hn,ho,hd⟩,hr⟩:=hl
   have hL:L∈X.fs:=hs L (by unfold yz; rw [List.filterMap_cons,hf]; exact List.mem_cons_self)
   obtain ⟨sl,e⟩:=I.base.slot L o ho (I.ok.frf L hL) hL fun z=>I.ok.exfs L z hL
   exact ⟨hk,⟨L,_,hf,hn,e,hd⟩,ih (fun b hb=>hs b (by unfold yz; rw [List.filterMap_cons,hf]; exact List.mem_cons_of_mem _ hb)) hr⟩
 exact all X.outer (fun _ hb=>hb) I.ok.funs
theorem zC.stack (I:zC X pins σ H s):s.heap.FunFrames X.base X.stack:=by
 rcases I.ok.stk with e | ⟨e,hf⟩
 ·rw [e]; exact I.funs
 ·rw [e]
  obtain ⟨m,hn,_⟩:=I.loc
  refine .cons (by rw [I.ok.kind]; decide) hf hn ?_ I.funs
  exact Heap.get?_none_of_le (Nat.le_trans I.ok.bsz I.ok.above)
theorem zC.stkSub (I:zC X pins σ H s):∀ b∈yz X.stack,b∈X.env.locals::X.fs:=fun b hb=>by
 rcases I.ok.stk with e | ⟨e,hf⟩
 ·rw [e] at hb; exact List.mem_cons_of_mem _ hb
 ·rw [e] at hb
  unfold yz at hb
  rw [List.filterMap_cons,hf] at hb
  exact hb
theorem zC.stkFree (I:zC X pins σ H s):∀ b∈yz X.stack,H b=none:=fun b hb=>by
 rcases List.mem_cons.mp (I.stkSub b hb) with e | hb
 ·rw [e]; exact I.free
 ·obtain ⟨_,o,ho,_⟩:=I.ok.funs.mem hb
  exact I.base.free b o ho (I.ok.frf b hb) fun z=>I.ok.exfs b z hb
theorem zC.step {g':Array GenState} {t':Nat} {d':Drawn} {ch:List Addr} (I:zC X pins σ H s)
  (hch:∀ b∈ch,(b∈X.ex\/X.s₀.heap.objs.size<=b)/\b≠X.env.locals/\(∀ x c,X.env.cells.lookup x=some c->c≠b)/\∀ p∈X.pn++pins,p.1≠b)
  (keep:∀ b o,b≠X.env.locals->b ∉ X.fs->b ∉ ch->s.heap.get? b=some o->H b=none->h'.get? b=some o)
  (slot:∀ b o,b≠X.env.locals->b∈X.fs->b ∉ ch->s.heap.get? b=some o->H b=none->∃ sl,h'.get? b=some { o with slots:=sl }) (free:∀ b o,b ∉ ch->s.heap.get? b=some o->H b=none->H' b=none)
  (there:∀ b o,b ∉ ch->s.heap.get? b=some o->∃ o',h'.get? b=some o')
  (tups:∀ b xs,H b=some (.tup xs)->H' b=some (.tup xs)) (frzs:∀ b o u,H b=some (.frz o u)->H' b=some (.frz o u)) (tbls:∀ b ps,H b=some (.tbl ps)->∃ more,H' b=some (.tbl (ps++more)))
  (ns:∀ m,s.heap.Ns X.env.locals m->h'.Ns X.env.locals m) (hok:yo X.prog X.w H' h') (hg:AllBare g') :
  zC X pins σ H' { s with heap:=h',gens:=g',drawn:=d',toks:=t' }:=by
 have neL:∀ b o,X.s₀.heap.get? b=some o->b≠X.env.locals:=fun b o e=>Nat.ne_of_lt (Nat.lt_of_lt_of_le (Heap.lt_size e) I.ok.above)
 have neC:∀ b o,X.s₀.heap.get? b=some o->b ∉ X.ex->b ∉ ch:=fun b o e hx hb=>by
  rcases (hch b hb).1 with z | z
  ·exact hx z
  ·exact absurd (Nat.lt_of_lt_of_le (Heap.lt_size e) z) (Nat.lt_irrefl _)
 have cellK:∀ x c,X.env.cells.lookup x=some c->∀ v,s.heap.IsCell c v->h'.IsCell c v:=fun x c e v ⟨o,ho,hd⟩=>by
  have nch:c ∉ ch:=fun z=>(hch c z).2.2.1 x c e rfl
  by_cases hc:c∈X.fs
  ·obtain ⟨sl,q⟩:=slot c o (I.cne x c e) hc nch ho (I.freeC x c e)
   exact ⟨_,q,hd⟩
  ·exact ⟨o,keep c o (I.cne x c e) hc nch ho (I.freeC x c e),hd⟩
 refine ⟨I.ok,I.os,hg,⟨fun b o e n hb hx=>?_,fun b o e n hb hx=>?_,fun b o e n hx=>?_,fun b o e hx=>?_,fun b xs e=>tups b xs (I.base.tups b xs e),fun b o xs e=>frzs b o xs (I.base.frzs b o xs e),fun b ps e=>?_⟩,?_,fun x c e=>?_,?_,fun x c e=>?_,fun p hp=>?_,hok,I.len⟩
 ·exact keep b o (neL b o e) hb (neC b o e hx) (I.base.keep b o e n hb hx) (I.base.free b o e n hx)
 ·obtain ⟨sl,e1⟩:=I.base.slot b o e n hb hx
  obtain ⟨sl',e2⟩:=slot b _ (neL b o e) hb (neC b o e hx) e1 (I.base.free b o e n hx)
  exact ⟨sl',e2⟩
 ·obtain ⟨o',e1⟩:=I.base.there b o e hx
  exact free b o' (neC b o e hx) e1 (I.base.free b o e n hx)
 ·obtain ⟨o',e1⟩:=I.base.there b o e hx
  exact there b o' (neC b o e hx) e1
 ·obtain ⟨m1,e1⟩:=I.base.tbls b ps e
  obtain ⟨m2,e2⟩:=tbls b _ e1
  exact ⟨m1++m2,by rw [e2,Array.append_assoc]⟩
 ·obtain ⟨m,hn,hl⟩:=I.loc
  refine ⟨m,ns m hn,fun i x v e1 e2 e3=>?_⟩
  obtain ⟨u,r,l⟩:=hl i x v e1 e2 e3
  refine ⟨u,r,?_⟩
  rcases l with l | ⟨k,c,e,z⟩
  ·exact .inl l
  ·exact .inr ⟨k,c,e,cellK x c e _ z⟩
 ·obtain ⟨v,z⟩:=I.cell x c e
  exact ⟨v,cellK x c e v z⟩
 ·obtain ⟨m,⟨o,_,_,ho,_⟩,_⟩:=I.loc
  exact free _ o (fun z=>(hch _ z).2.1 rfl) ho I.free
 ·obtain ⟨v,o,ho,hd⟩:=I.cell x c e
  exact free c o (fun z=>(hch c z).2.2.1 x c e rfl) ho (I.freeC x c e)
 ·obtain ⟨e,n,ne,nf,d⟩:=I.pin p hp
  have nch:p.1 ∉ ch:=fun z=>(hch p.1 z).2.2.2 p hp rfl
  exact ⟨keep p.1 p.2 ne nf nch e n,free p.1 p.2 nch e n,ne,nf,d⟩
theorem zC.un {t':Nat} (I:zC X pins σ H s) (u:Un X.fs [] H H' s.heap h') (hok:yo X.prog X.w H' h'):zC X pins σ H' { s with heap:=h',toks:=t' }:=by
 obtain ⟨m,⟨o,es,ep,ho,r⟩,_⟩:=id I.loc
 obtain ⟨sl,hL⟩:=u.any ho I.free (by simp)
 exact I.step (g':=s.gens) (d':=s.drawn) (ch:=[]) (fun _ z=>nomatch z) (fun b o _ hb _ e n=>u.keep b o e n hb (by simp)) (fun b o _ hb _ e n=>u.slot b o e n hb (by simp)) (fun b o _ e n=>u.free b o e n (by simp)) (fun b o _ e=>u.there b o e (by simp)) u.tups u.frzs u.tbls (fun m' hm=>by
  obtain ⟨o',es',ep',ho',r'⟩:=hm
  rw [ho] at ho'; cases ho'
  exact ⟨_,es',ep',hL,r'⟩) hok I.bare
theorem zC.call {g':Array GenState} {t':Nat} {d':Drawn} {ch:List Addr} (I:zC X pins σ H s) (u:Un (yz X.stack) ch H H' s.heap h') (hok:yo X.prog X.w H' h') (hg:AllBare g')
  (hch:∀ b∈ch,(b∈X.ex\/X.s₀.heap.objs.size<=b)/\b≠X.env.locals/\(∀ x c,X.env.cells.lookup x=some c->c≠b)/\∀ p∈X.pn++pins,p.1≠b) :
  zC X pins σ H' { s with heap:=h',gens:=g',drawn:=d',toks:=t' }:=by
 obtain ⟨m,⟨o,es,ep,ho,r⟩,_⟩:=id I.loc
 obtain ⟨sl,hL⟩:=u.any ho I.free fun z=>(hch _ z).2.1 rfl
 exact I.step (ch:=ch) hch (fun b o hL hb hc e n=>u.keep b o e n (fun z=>(List.mem_cons.mp (I.stkSub b z)).elim hL hb) hc) (fun b o _ _ hc e n=>u.any e n hc) (fun b o hc e n=>u.free b o e n hc) (fun b o hc e=>u.there b o e hc) u.tups u.frzs u.tbls (fun m' hm=>by
  obtain ⟨o',es',ep',ho',r'⟩:=hm
  rw [ho] at ho'; cases ho'
  exact ⟨_,es',ep',hL,r'⟩) hok hg
theorem zC.turned {t':Nat} {it:Addr} (I:zC X pins σ H s) (k:∀ b o,b≠it->s.heap.get? b=some o->h'.get? b=some o) (hn:H it=none) (hL:it≠X.env.locals)
  (h1:it∈X.ex\/X.s₀.heap.objs.size<=it) (h2:∀ x c,X.env.cells.lookup x=some c->c≠it) (h3:∀ p∈X.pn++pins,p.1≠it):zC X pins σ H { s with heap:=h',toks:=t' }:=by
 have nit:∀ b u,H b=some u->b≠it:=fun b u e z=>by rw [z,hn] at e; cases e
 refine I.step (g':=s.gens) (d':=s.drawn) (ch:=[it]) (fun b hb=>?_) (fun b o _ _ hc e _=>k b o (fun z=>hc (by simp [z])) e) (fun b o _ _ hc e _=>⟨o.slots,k b o (fun z=>hc (by simp [z])) e⟩) (fun _ _ _ _ n=>n)
  (fun b o hc e=>⟨o,k b o (fun z=>hc (by simp [z])) e⟩) (fun _ _ e=>e) (fun _ _ _ e=>e) (fun b ps e=>⟨#[],by rw [e]; simp⟩) (fun m hm=>?_) (fun b u e=>?_) I.bare
 ·have e:b=it:=by simpa using hb
  subst e
  exact ⟨h1,hL,h2,h3⟩
 ·obtain ⟨o,es,ep,ho,r⟩:=hm
  exact ⟨o,es,ep,k _ o (Ne.symm hL) ho,r⟩
 ·refine (I.hok b u e).stay (fun c v hc q=>k c v ?_ q) (fun _ q=>q) fun _ _ q=>q
  rcases hc with z | z
  ·rw [z]; exact nit b u e
  ·exact nit c _ z
theorem zC.tok (I:zC X pins σ H s) (t:Nat):zC X pins σ H { s with toks:=t }:=I.un (h':=s.heap) (t':=t) Un.refl I.hok
theorem zC.kept {t':Nat} (I:zC X pins σ H s) (k:∀ b u,s.heap.get? b=some u->h'.get? b=some u):zC X pins σ H { s with heap:=h',toks:=t' }:=I.un (Un.kept k) (I.hok.kept k)
theorem zC.laid {a:Addr} {o:HO} {t':Nat} (I:zC X pins σ H s) (k:∀ b u,s.heap.get? b=some u->h'.get? b=some u) (hp:s.heap.objs.size<=a) (new:yr X.prog X.w (zZ H a o) h' a o) :
  zC X pins σ (zZ H a o) { s with heap:=h',toks:=t' }:=I.un (Un.laid k hp (I.hok.fresh hp)) (I.hok.laid k hp new)
theorem zC.write {x e:Addr} {o:HO} {t':Nat} (I:zC X pins σ H s) (mu:gD (H x)) (he:e=x\/H e=some (.own x)) (k:∀ b u,b≠e->s.heap.get? b=some u->h'.get? b=some u) (heo:∃ u,h'.get? e=some u)
  (new:yr X.prog X.w (zZ H x o) h' x o):zC X pins σ (zZ H x o) { s with heap:=h',toks:=t' }:=I.un (Un.write mu he k heo) (I.hok.write mu he k heo new)
theorem zC.weak {σ':List (Option V)} (I:zC X pins σ H s) (hl:σ'.length=σ.length) (w:∀ (i:Nat) v,σ'[i]?=some (some v)->σ[i]?=some (some v)):zC X pins σ' H s:=
 ⟨I.ok,I.os,I.bare,I.base,let ⟨m,hn,hl'⟩:=I.loc; ⟨m,hn,fun i x v e1 e2 e3=>hl' i x v e1 (w i v e2) e3⟩,I.cell,I.free,I.freeC,I.pin,I.hok,hl.trans I.len⟩
theorem zC.pins_of {pins':List (Addr×Obj)} (I:zC X pins σ H s) (h:∀ p∈pins',s.heap.get? p.1=some p.2/\H p.1=none/\p.1≠X.env.locals/\p.1 ∉ X.fs/\∀ v,p.2.data≠.cell v):zC X pins' σ H s:=
 ⟨I.ok,I.os,I.bare,I.base,I.loc,I.cell,I.free,I.freeC,fun p hp=>(List.mem_append.mp hp).elim (fun z=>I.pin p (List.mem_append_left _ z)) (h p),I.hok,I.len⟩
theorem Qk {N:List Str} (hN:N.Nodup) {i j:Nat} {x:Str} (a:N[i]?=some x) (b:N[j]?=some x):i=j:=by
 obtain ⟨h1,e1⟩:=List.getElem?_eq_some_iff.mp a
 obtain ⟨h2,e2⟩:=List.getElem?_eq_some_iff.mp b
 exact (List.getElem_inj hN).mp (e1.trans e2.symm)
theorem II {M:Model} {A:Around} {E:Value->Shared->Prop} {i:Nat} {x:Str} {v:V} {u:Value} {Q:Unit->Shared->Prop} (I:zC X pins σ H s) (hN:X.N.Nodup) (hi:X.N[i]?=some x) (hx:qH X.env.scope x) (r:zm v u)
  (h:∀ s',zC X pins (σ.set i (some v)) H s'->(∃ a,Heap.SameBut a s.heap s'.heap/\(a=X.env.locals\/X.env.cells.lookup x=some a))->Q () s') (hf:X.fn x=true\/X.env.scope.names.lookup x=some .local:=by first | exact .inl rfl | exact .inr rfl | assumption):wpAny M A (storeName X.env x u) Q E s:=by
 obtain ⟨m,hn,hl⟩:=id I.loc
 have hcls:(X.env.scope.kind == .class||(X.env.scope.kind == .module&&X.env.locals != X.env.globals))=false:=by rw [I.ok.kind]; rfl
 have hiσ:i<σ.length:=by rw [I.len]; exact (List.getElem?_eq_some_iff.mp hi).1
 have cne:=I.cne
 have tracked:∀ {a:Addr} {h':Heap},(∃ o,s.heap.get? a=some o/\H a=none)->Heap.SameBut a s.heap h'->yo X.prog X.w H h':=fun {a h'} ha hs b ob e=>by
  obtain ⟨_,_,hfree⟩:=ha
  refine (I.hok b ob e).stay (fun c w' hc q=>(hs.2 c ?_).trans q) (fun _ q=>q) fun _ _ q=>q
  rintro rfl
  rcases hc with rfl | hc
  ·rw [hfree] at e; cases e
  ·rw [hfree] at hc; cases hc
 rcases hx with hk | hk
 ·refine wpAny_storeName_local hk hn (fun h' hn' hs=>?_) hcls
  obtain ⟨oL,_,_,hoL,_⟩:=id hn
  refine h _ ⟨I.ok,I.os,I.bare,⟨fun b o e n hb hx=>?_,fun b o e n hb hx=>?_,I.base.free,fun b o e hx=>?_,I.base.tups,I.base.frzs,I.base.tbls⟩,⟨_,hn',fun j y v' e1 e2 e3=>?_⟩,fun y c e=>?_,I.free,I.freeC,fun p hp=>?_,tracked ⟨oL,hoL,I.free⟩ hs,by simpa using I.len⟩ ⟨_,hs,.inl rfl⟩
  ·exact (hs.2 b (Nat.ne_of_lt (Nat.lt_of_lt_of_le (Heap.lt_size e) I.ok.above))).trans (I.base.keep b o e n hb hx)
  ·obtain ⟨sl,e1⟩:=I.base.slot b o e n hb hx
   exact ⟨sl,(hs.2 b (Nat.ne_of_lt (Nat.lt_of_lt_of_le (Heap.lt_size e) I.ok.above))).trans e1⟩
  ·obtain ⟨o',e1⟩:=I.base.there b o e hx
   exact ⟨o',(hs.2 b (Nat.ne_of_lt (Nat.lt_of_lt_of_le (Heap.lt_size e) I.ok.above))).trans e1⟩
  ·by_cases hj:j=i
   ·subst hj
    rw [hi] at e1; cases e1
    rw [List.getElem?_set_self hiσ] at e2
    cases e2
    exact ⟨u,r,.inl ⟨hk,by simp⟩⟩
   ·rw [List.getElem?_set_ne (Ne.symm hj)] at e2
    obtain ⟨u',r',q⟩:=hl j y v' e1 e2 e3
    refine ⟨u',r',?_⟩
    rcases q with ⟨k,e⟩ | ⟨k,c,e,z⟩
    ·refine .inl ⟨k,?_⟩
     have:y≠x:=fun e=>hj (Qk hN e1 (e ▸ hi))
     simp [this,e]
    ·exact .inr ⟨k,c,e,z.sameBut hs (cne y c e)⟩
  ·obtain ⟨w',z⟩:=I.cell y c e
   exact ⟨w',z.sameBut hs (cne y c e)⟩
  ·obtain ⟨e,n,ne,nf,d⟩:=I.pin p hp
   exact ⟨(hs.2 p.1 ne).trans e,n,ne,nf,d⟩
 ·have hfn:X.fn x=true:=by
   rcases hf with z | z
   ·exact z
   ·rw [z] at hk; cases hk
  obtain ⟨c,hc⟩:=I.ok.has x (.inl hk)
  obtain ⟨w',z⟩:=I.cell x c hc
  refine wpAny_storeName_cell I.ok.kind hk hc z (fun h' hc' hs=>?_)
  obtain ⟨oc,hoc,hocd⟩:=id z
  refine h { s with heap:=h' } ⟨I.ok,I.os,I.bare,⟨fun b o e n hb hx=>?_,fun b o e n hb hx=>?_,I.base.free,fun b o e hx=>?_,I.base.tups,I.base.frzs,I.base.tbls⟩,⟨m,hn.sameBut hs (Ne.symm (cne x c hc)),fun j y v' e1 e2 e3=>?_⟩,fun y c' e=>?_,I.free,I.freeC,fun p hp=>?_,tracked ⟨oc,hoc,I.freeC x c hc⟩ hs,by simpa using I.len⟩ ⟨c,hs,.inr hc⟩
  ·exact (hs.2 b (Nat.ne_of_lt (Nat.lt_of_lt_of_le (Heap.lt_size e) (I.ok.cab x c hfn hc)))).trans (I.base.keep b o e n hb hx)
  ·obtain ⟨sl,e1⟩:=I.base.slot b o e n hb hx
   exact ⟨sl,(hs.2 b (Nat.ne_of_lt (Nat.lt_of_lt_of_le (Heap.lt_size e) (I.ok.cab x c hfn hc)))).trans e1⟩
  ·obtain ⟨o',e1⟩:=I.base.there b o e hx
   exact ⟨o',(hs.2 b (Nat.ne_of_lt (Nat.lt_of_lt_of_le (Heap.lt_size e) (I.ok.cab x c hfn hc)))).trans e1⟩
  ·by_cases hj:j=i
   ·subst hj
    rw [hi] at e1; cases e1
    rw [List.getElem?_set_self hiσ] at e2
    cases e2
    exact ⟨u,r,.inr ⟨.inl hk,c,hc,hc'⟩⟩
   ·rw [List.getElem?_set_ne (Ne.symm hj)] at e2
    obtain ⟨u',r',q⟩:=hl j y v' e1 e2 e3
    refine ⟨u',r',?_⟩
    rcases q with q | ⟨k,c',e,z'⟩
    ·exact .inl q
    ·refine .inr ⟨k,c',e,z'.sameBut hs ?_⟩
     rintro rfl
     exact hj (Qk hN e1 (I.ok.inj _ _ _ e hc ▸ hi))
  ·by_cases hcc:c'=c
   ·subst hcc; exact ⟨_,hc'⟩
   ·obtain ⟨w2,z2⟩:=I.cell y c' e
    exact ⟨w2,z2.sameBut hs hcc⟩
  ·obtain ⟨e,n,ne,nf,d⟩:=I.pin p hp
   refine ⟨(hs.2 p.1 ?_).trans e,n,ne,nf,d⟩
   intro q
   rw [q,hoc] at e
   have q':oc=p.2:=Option.some.inj e
   exact d w' (by rw [<- q']; exact hocd)
theorem UJ {M:Model} {A:Around} {E:Value->Shared->Prop} {i:Nat} {x:Str} {v:V} {u:Value} {Q:Unit->Shared->Prop} (I:zC X pins σ H s) (hN:X.N.Nodup) (hi:X.N[i]?=some x) (hx:qH X.env.scope x) (r:zm v u)
  (h:∀ s',zC X pins (σ.set i (some v)) H s'->Q () s') (hf:X.fn x=true\/X.env.scope.names.lookup x=some .local:=by first | exact .inl rfl | exact .inr rfl | assumption):wpAny M A (storeName X.env x u) Q E s:=
 II I hN hi hx r (fun s' I' _=>h s' I') hf
theorem zC.call' {s':Shared} {ch:List Addr} (I:zC X pins σ H s) (ho:s'.os=s.os) (u:Un (yz X.stack) ch H H' s.heap s'.heap) (hok:yo X.prog X.w H' s'.heap) (hg:AllBare s'.gens)
  (hch:∀ b∈ch,(b∈X.ex\/X.s₀.heap.objs.size<=b)/\b≠X.env.locals/\(∀ x c,X.env.cells.lookup x=some c->c≠b)/\∀ p∈X.pn++pins,p.1≠b):zC X pins σ H' s':=by
 obtain ⟨h',g',d',t',o'⟩:=s'
 have e:o'=s.os:=ho
 subst e
 exact I.call (g':=g') (t':=t') (d':=d') u hok hg hch
end
noncomputable abbrev XK:=Value->Option Addr->Hp->Prop
noncomputable abbrev St:=List (Option V)
noncomputable abbrev VK:=V->Hp->Prop
noncomputable abbrev TE:=St->Hp->VK->Prop
noncomputable abbrev TT:=St->Hp->(Bool->Hp->Prop)->Prop
noncomputable abbrev TA:=St->Hp->(List V->Hp->Prop)->Prop
structure vc where
 nx:St->Hp->Prop
 rt:VK
 bk:St->Hp->Prop:=fun _ _=>False
 ct:St->Hp->Prop:=fun _ _=>False
noncomputable abbrev TS:=vc->St->Hp->Prop
noncomputable def EP (X:Cx) (pins:List (Addr×Obj)) (σ:St) (Q:VK) (u:Value) (s':Shared):Prop:=∃ v H',zC X pins σ H' s'/\zm v u/\Q v H'
noncomputable def TP (X:Cx) (pins:List (Addr×Obj)) (σ:St) (Q:Bool->Hp->Prop) (b:Bool) (s':Shared):Prop:=∃ H',zC X pins σ H' s'/\Q b H'
noncomputable def AP (X:Cx) (pins:List (Addr×Obj)) (σ:St) (Q:List V->Hp->Prop) (us:List Value) (s':Shared):Prop:=∃ vs H',zC X pins σ H' s'/\zf vs us/\Q vs H'
noncomputable def SP (X:Cx) (pins:List (Addr×Obj)) (D:vc) (f:Flow) (s':Shared):Prop:=
 match f with
 | .next=>∃ σ' H',zC X pins σ' H' s'/\D.nx σ' H'
 | .brk=>∃ σ' H',zC X pins σ' H' s'/\D.bk σ' H'
 | .cont=>∃ σ' H',zC X pins σ' H' s'/\D.ct σ' H'
 | .ret u=>∃ v σ' H',zC X pins σ' H' s'/\zm v u/\D.rt v H'
noncomputable def PE (X:Cx) (e:Expr) (t:TE):Prop:=
 ∀ (pins:List (Addr×Obj)) (s:Shared) (σ:St) (H:Hp) (Q:VK),zC X pins σ H s->t σ H Q->wpAny (model X.prog X.w) X.A (eval e X.env) (EP X pins σ Q) X.xe s
noncomputable def PT (X:Cx) (e:Expr) (t:TT):Prop:=
 ∀ (pins:List (Addr×Obj)) (s:Shared) (σ:St) (H:Hp) (Q:Bool->Hp->Prop),zC X pins σ H s->t σ H Q->wpAny (model X.prog X.w) X.A (isTrue e X.env (eval e X.env)) (TP X pins σ Q) X.xe s
noncomputable def PW (X:Cx) (e:Expr) (t:TT):Prop:=
 ∀ (whole:Sem Value) (pins:List (Addr×Obj)) (s:Shared) (σ:St) (H:Hp) (Q:Bool->Hp->Prop),zC X pins σ H s->t σ H Q->wpAny (model X.prog X.w) X.A (isTrue e X.env whole) (TP X pins σ Q) X.xe s
theorem PW.pt {X:Cx} {e:Expr} {t:TT} (h:PW X e t):PT X e t:=h _
noncomputable def PA (X:Cx) (es:List Expr) (t:TA):Prop:=
 ∀ (pos:Pos) (pins:List (Addr×Obj)) (s:Shared) (σ:St) (H:Hp) (Q:List V->Hp->Prop),zC X pins σ H s->t σ H Q->wpAny (model X.prog X.w) X.A (spliced (backTo pos (starEach es X.env))) (AP X pins σ Q) X.xe s
noncomputable def PS (X:Cx) (st:Stmt) (t:TS):Prop:=
 ∀ (pins:List (Addr×Obj)) (s:Shared) (σ:St) (H:Hp) (D:vc),zC X pins σ H s->t D σ H->wpAny (model X.prog X.w) X.A (exec st X.env) (SP X pins D) X.xe s
noncomputable def wZ (X:Cx) (st:List Stmt) (t:TS):Prop:=
 ∀ (pins:List (Addr×Obj)) (s:Shared) (σ:St) (H:Hp) (D:vc),zC X pins σ H s->t D σ H->wpAny (model X.prog X.w) X.A (execs st X.env) (SP X pins D) X.xe s
theorem zh {α:Type} {t:Sem α} {Q Q':α->Shared->Prop} {M:Model} {A:Around} {E:Value->Shared->Prop} {s:Shared} (h:wpAny M A t Q E s) (hQ:∀ a s,Q a s->Q' a s):wpAny M A t Q' E s:=wpAny_mono h hQ fun _ _ x=>x
end L2
namespace L2
open PySem PySem.Spec PyProof.Rows
section
variable {X:Cx}
noncomputable def qq (i:Nat):TE:=fun σ H Q=>∃ v,σ[i]?=some (some v)/\Q v H
noncomputable def tC (v:V):TE:=fun _ H Q=>Q v H
theorem k7 {i:Nat} {x:Str} {pos:Pos} (hN:X.N[i]?=some x) (hv:p6 X.env.scope x) (hd:(x == ("__debug__" : Str))=false:=by decide) (hcd:(x == ("__classdict__" : Str))=false:=by decide):PE X (.Name x pos) (qq i):=by
 intro pins s σ H Q I h
 obtain ⟨v,e,h⟩:=h
 obtain ⟨m,hn,hl⟩:=I.loc
 obtain ⟨u,r,l⟩:=hl i x v hN e hv
 have fin:EP X pins σ Q u s:=⟨v,H,I,r,h⟩
 rcases l with ⟨hk,hm⟩ | ⟨hk,c,hc,hcell⟩
 ·exact wpAny_Name (wpAny_loadName_local I.ok.kind hk hn hm fin) hd
 ·rcases hk with hk | hk
  ·exact wpAny_Name (wpAny_loadName_cell I.ok.kind hk hc hcell fin) hd
  ·exact wpAny_Name (wpAny_loadName_free I.ok.kind hk hc hcell fin hcd) hd
theorem J0 {i j pos}:PE X (.Constant (.int i) j pos) (tC (.int i)):=fun _ _ _ H _ I h=>wpAny_Constant_int ⟨.int i,H,I.tok _,⟨_,rfl⟩,h⟩
theorem DS {b j pos}:PE X (.Constant (.bool b) j pos) (tC (.bl b)):=fun _ _ _ H _ I h=>Constant_bool ⟨.bl b,H,I,rfl,h⟩
theorem Di {j pos}:PE X (.Constant .none j pos) (tC .non):=fun _ _ _ H _ I h=>Constant_none ⟨.non,H,I,rfl,h⟩
theorem J5 {x j pos}:PE X (.Constant (.str x) j pos) (tC (.str x)):=fun _ _ _ H _ I h=>Calls.Constant_str ⟨.str x,H,I.tok _,⟨_,rfl⟩,h⟩
noncomputable def Gl (X:Cx) (x:Str):Prop:=X.env.kindOf x=some .globalImplicit
theorem pH {E:Value->Shared->Prop} {pins:List (Addr×Obj)} {s:Shared} {σ:St} {H:Hp} {x:Str} {u:Value} {pos:Pos} {Q:Value->Shared->Prop} (I:zC X pins σ H s) (hg:Gl X x) (hm:X.mg x=some u) (h:Q u s)
  (hd:(x == ("__debug__" : Str))=false:=by decide):wpAny (model X.prog X.w) X.A (eval (.Name x pos) X.env) Q E s:=
 Calls.Name_function_global I.ok.kind hg (Calls.loadGlobal_global (by rw [I.ok.glob]; exact I.mod.glob.keeps I.bk) hm h) hd
theorem jR {E:Value->Shared->Prop} {pins:List (Addr×Obj)} {s:Shared} {σ:St} {H:Hp} {x:Str} {u:Value} {pos:Pos} {Q:Value->Shared->Prop} (I:zC X pins σ H s) (hg:Gl X x) (hm:X.mg x=none) (hv:bootBuiltins x=some u) (h:Q u s)
  (hn:x ≠ "__name__" := by decide) (hd:(x == ("__debug__" : Str))=false:=by decide):wpAny (model X.prog X.w) X.A (eval (.Name x pos) X.env) Q E s:=by
 obtain ⟨mb,h1,h2⟩:=I.mod.blt
 exact Calls.Name_function_global I.ok.kind hg (Calls.loadGlobal_builtin (by rw [I.ok.glob]; exact I.mod.glob.keeps I.bk) hm (by rw [I.ok.blt]; exact h1.keeps I.bk) ((h2 x hn).trans hv) h) hd
theorem De {x:Str} {v:V} {u:Value} {pos:Pos} (hg:Gl X x) (hm:X.mg x=some u) (r:zm v u) (hd:(x == ("__debug__" : Str))=false:=by decide):PE X (.Name x pos) (tC v):=
 fun _ _ _ H _ I h=>pH I hg hm ⟨v,H,I,r,h⟩ hd
theorem DU {x:Str} {v:V} {u:Value} {pos:Pos} (hg:Gl X x) (hm:X.mg x=none) (hv:bootBuiltins x=some u) (r:zm v u) (hn:x ≠ "__name__" := by decide) (hd:(x == ("__debug__" : Str))=false:=by decide):PE X (.Name x pos) (tC v):=
 fun _ _ _ H _ I h=>jR I hg hm hv ⟨v,H,I,r,h⟩ hn hd
variable {a b:Expr} {ta tb:TE} {pos:Pos}
noncomputable def tB (t:TE):TT:=fun σ H Q=>t σ H fun x H1=>∃ c,x=.bl c/\Q c H1
theorem FZ {e:Expr} {t:TE} (h:PE X e t) (he:∀ whole,isTrue e X.env whole=(do let v <- whole; standAt e.pos; holding [v] (truthy v)):=by intro _; rfl):PT X e (tB t):=by
 intro pins s σ H Q I hw
 refine isTrue_plain (zh (h pins s σ H _ I hw) fun v s1 ⟨x,H1,I1,r1,q1⟩=>?_) (he _)
 obtain ⟨d,rfl,q⟩:=q1
 cases r1
 exact wpAny_truthy_bool ⟨H1,I1,q⟩
variable {tA tB':TT} {yC:List Expr}
noncomputable def EF (t u:TT):TT:=fun σ H Q=>t σ H fun c H1=>if c=true then u σ H1 Q else Q false H1
noncomputable def EU (t u:TT):TT:=fun σ H Q=>t σ H fun c H1=>if c=true then Q true H1 else u σ H1 Q
noncomputable def ES (t:TT):TT:=fun σ H Q=>t σ H fun c H1=>Q (!c) H1
theorem Ff (ha:PT X a tA):PW X (.BoolOp .And [a] pos) tA:=by
 intro wh pins s σ H Q I h
 refine isTrue_and (zh (ha pins s σ H Q I h) fun c s1 e=>?_)
 cases c with
 | true=>exact isTrue_and_nil e
 | false=>exact e
theorem Fh (ha:PT X a tA):PW X (.BoolOp .Or [a] pos) tA:=by
 intro wh pins s σ H Q I h
 refine isTrue_or (zh (ha pins s σ H Q I h) fun c s1 e=>?_)
 cases c with
 | false=>exact isTrue_or_nil e
 | true=>exact e
theorem Fe (ha:PT X a tA) (hb:PW X (.BoolOp .And (b::yC) pos) tB'):PW X (.BoolOp .And (a::b::yC) pos) (EF tA tB'):=by
 intro wh pins s σ H Q I h
 refine isTrue_and (zh (ha pins s σ H _ I h) fun c s1 ⟨H1,I1,q1⟩=>?_)
 cases c with
 | true=>exact hb wh pins s1 σ H1 Q I1 q1
 | false=>exact ⟨H1,I1,q1⟩
theorem Fg (ha:PT X a tA) (hb:PW X (.BoolOp .Or (b::yC) pos) tB'):PW X (.BoolOp .Or (a::b::yC) pos) (EU tA tB'):=by
 intro wh pins s σ H Q I h
 refine isTrue_or (zh (ha pins s σ H _ I h) fun c s1 ⟨H1,I1,q1⟩=>?_)
 cases c with
 | true=>exact ⟨H1,I1,q1⟩
 | false=>exact hb wh pins s1 σ H1 Q I1 q1
theorem FY (ha:PT X a tA):PT X (.UnaryOp .Not a pos) (ES tA):=by
 intro pins s σ H Q I h
 exact isTrue_not (ha pins s σ H (fun c H1=>Q (!c) H1) I h)
noncomputable def EG (ta tb:TE):TE:=fun σ H Q=>ta σ H fun x H1=>∃ c,x=.bl c/\if c=true then tb σ H1 Q else Q (.bl false) H1
noncomputable def ET (ta:TE):TE:=fun σ H Q=>ta σ H fun x H1=>∃ c,x=.bl c/\Q (.bl (!c)) H1
theorem Dk {op} {t:TE} (h:PE X a t):PE X (.BoolOp op [a] pos) t:=fun pins s σ H Q I hw=>BoolOp_one (h pins s σ H Q I hw)
theorem DR (ha:PE X a ta) (hb:PE X (.BoolOp .And (b::yC) pos) tb):PE X (.BoolOp .And (a::b::yC) pos) (EG ta tb):=by
 intro pins s σ H Q I h
 refine BoolOp_and (zh (ha pins s σ H _ I h) fun v s1 ⟨x,H1,I1,r1,q1⟩=>?_)
 obtain ⟨c,rfl,q1⟩:=q1
 cases r1
 refine wpAny_truthy_bool ?_
 cases c with
 | true=>exact hb pins s1 σ H1 Q I1 q1
 | false=>exact ⟨.bl false,H1,I1,rfl,q1⟩
theorem Dj (ha:PE X a ta):PE X (.UnaryOp .Not a pos) (ET ta):=by
 intro pins s σ H Q I h
 refine UnaryOp_ (zh (ha pins s σ H _ I h) fun v s1 ⟨x,H1,I1,r1,q1⟩=>?_)
 obtain ⟨c,rfl,q1⟩:=q1
 cases r1
 exact not_of (wpAny_truthy_bool ⟨.bl (!c),H1,I1,rfl,q1⟩)
noncomputable def EL (t:TT) (ta tb:TE):TE:=fun σ H Q=>t σ H fun c H1=>if c=true then ta σ H1 Q else tb σ H1 Q
theorem Df {c:Expr} (hc:PT X c tA) (ha:PE X a ta) (hb:PE X b tb):PE X (.IfExp c a b pos) (EL tA ta tb):=by
 intro pins s σ H Q I h
 refine wpAny_IfExp (zh (hc pins s σ H _ I h) fun d s1 ⟨H1,I1,q1⟩=>?_)
 cases d with
 | true=>exact ha pins s1 σ H1 Q I1 q1
 | false=>exact hb pins s1 σ H1 Q I1 q1
end
end L2
namespace L2
open PySem PySem.Spec PyProof.Rows
noncomputable def yT (K:PySem.W.Frag) (H:Hp) (a:Addr) (xs:List V):Prop:=
 Rd H a (.lst xs) \/
  ∃ (o:Obj) (its:Array Value) (n:Nat),K.lookup a=some o/\o.cls=.type "list" /\ o.dict=none/\o.data=.seq its n/\its.size<=sizeLine/\zf xs its.toList
noncomputable def yk (K:PySem.W.Frag) (H:Hp) (a:Addr) (xs:List V):Prop:=
 Rd H a (.tup xs) \/
  ∃ (o:Obj) (its:Array Value) (n:Nat),K.lookup a=some o/\o.cls=.type "tuple" /\ o.data=.seq its n/\its.size<=sizeLine/\zf xs its.toList
noncomputable def OG:Value->Option V
 | .none=>some .non
 | .bool b=>some (.bl b)
 | .int i _=>some (.int i)
 | .str x _=>some (.str x)
 | .bytes b _=>some (.byt b)
 | .float b _=>some (.flt b)
 | .ref a=>some (.ref a)
 | .type n=>some (.ty n)
 | _=>none
theorem zm.abs {x:V} {u:Value} (r:zm x u):OG u=some x:=by
 cases x with
 | non=>cases r; rfl
 | bl _=>cases r; rfl
 | int _=>obtain ⟨t,rfl⟩:=r; rfl
 | str _=>obtain ⟨t,rfl⟩:=r; rfl
 | byt _=>obtain ⟨t,rfl⟩:=r; rfl
 | flt _=>obtain ⟨t,rfl⟩:=r; rfl
 | ref _=>cases r; rfl
 | ty _=>cases r; rfl
theorem zm.inj {x y:V} {u:Value} (r:zm x u) (q:zm y u):x=y:=Option.some.inj (r.abs.symm.trans q.abs)
theorem zf.inj:∀ {xs ys:List V} {us:List Value},zf xs us->zf ys us->xs=ys
 | _,_,_,.nil,.nil=>rfl
 | _,_,_,.cons r t,.cons r' t'=>by rw [r.inj r',zf.inj t t']
section
variable {X:Cx} {pins:List (Addr×Obj)} {σ:St} {H:Hp} {s:Shared} {a:Addr} {xs ys:List V}
theorem yT.of {K:PySem.W.Frag} (h:H a=some (.lst xs)):yT K H a xs:=.inl (.inl h)
theorem yk.of {K:PySem.W.Frag} (h:H a=some (.tup xs)):yk K H a xs:=.inl (.inl h)
theorem zC.list (I:zC X pins σ H s) (h:yT X.K H a xs):∃ its:List Value,zf xs its/\PlainL s.heap a its.toArray/\xs.length<=sizeLine:=by
 rcases h with h | ⟨o,its,n,hk,hc,hd,hs,hz,r⟩
 ·obtain ⟨z,its,n,r,e⟩:=h.ok I.hok
  exact ⟨its,r,⟨_,n,e,rfl,rfl,rfl⟩,z⟩
 ·refine ⟨its.toList,r,⟨o,n,I.kIn a o hk,hc,hd,by simpa using hs⟩,?_⟩
  have e:=r.length
  simp only [Array.length_toList] at e
  omega
theorem zC.tuple (I:zC X pins σ H s) (h:yk X.K H a xs):∃ its:List Value,zf xs its/\IsTup s.heap a its.toArray/\xs.length<=sizeLine:=by
 rcases h with h | ⟨o,its,n,hk,hc,hs,hz,r⟩
 ·obtain ⟨z,its,r,p⟩:=h.ok I.hok
  exact ⟨its,r,p,z⟩
 ·refine ⟨its.toList,r,⟨o,I.kIn a o hk,hc,n,by simpa using hs⟩,?_⟩
  have e:=r.length
  simp only [Array.length_toList] at e
  omega
theorem zC.list_inj (I:zC X pins σ H s) (h:yT X.K H a xs) (h':yT X.K H a ys):xs=ys:=by
 obtain ⟨its,r,⟨o,n,e,_,_,d⟩,_⟩:=I.list h
 obtain ⟨its',r',⟨o',n',e',_,_,d'⟩,_⟩:=I.list h'
 rw [e] at e'; cases e'
 rw [d] at d'
 injection d' with d1 _
 have:its=its':=by simpa using congrArg Array.toList d1
 subst this
 exact r.inj r'
theorem zC.tuple_inj (I:zC X pins σ H s) (h:yk X.K H a xs) (h':yk X.K H a ys):xs=ys:=by
 obtain ⟨its,r,⟨o,e,_,n,d⟩,_⟩:=I.tuple h
 obtain ⟨its',r',⟨o',e',_,n',d'⟩,_⟩:=I.tuple h'
 rw [e] at e'; cases e'
 rw [d] at d'
 injection d' with d1 _
 have:its=its':=by simpa using congrArg Array.toList d1
 subst this
 exact r.inj r'
end
noncomputable abbrev Cx.wish (X:Cx) (E:Value->Shared->Prop):Cx:={ X with xe:=E }
noncomputable abbrev Cx.nox (X:Cx):Cx:=X.wish fun _ _=>False
theorem Cx.Ok.wish {X:Cx} (ok:X.Ok) (E:Value->Shared->Prop):(X.wish E).Ok:=
 ⟨ok.mod,ok.kind,ok.glob,ok.blt,ok.above,ok.inj,ok.has,ok.cab,ok.hd,ok.frames,ok.stk,ok.exf,ok.bs,ok.bsz,ok.noex,ok.exfs,ok.funs,ok.frf⟩
theorem Cx.Ok.unwish {X:Cx} {E:Value->Shared->Prop} (ok:(X.wish E).Ok):X.Ok:=
 ⟨ok.mod,ok.kind,ok.glob,ok.blt,ok.above,ok.inj,ok.has,ok.cab,ok.hd,ok.frames,ok.stk,ok.exf,ok.bs,ok.bsz,ok.noex,ok.exfs,ok.funs,ok.frf⟩
section
variable {X:Cx} {pins:List (Addr×Obj)} {σ:St} {H:Hp} {s:Shared} {E:Value->Shared->Prop}
theorem zC.wish (I:zC X pins σ H s) (E:Value->Shared->Prop):zC (X.wish E) pins σ H s:=⟨I.ok.wish E,I.os,I.bare,I.base,I.loc,I.cell,I.free,I.freeC,I.pin,I.hok,I.len⟩
theorem zC.unwish (I:zC (X.wish E) pins σ H s):zC X pins σ H s:=⟨I.ok.unwish,I.os,I.bare,I.base,I.loc,I.cell,I.free,I.freeC,I.pin,I.hok,I.len⟩
theorem SP.unwish {D:vc} {f:Flow} {s':Shared} (h:SP (X.wish E) pins D f s'):SP X pins D f s':=by
 cases f with
 | next=>obtain ⟨σ',H',I,q⟩:=h; exact ⟨σ',H',I.unwish,q⟩
 | brk=>obtain ⟨σ',H',I,q⟩:=h; exact ⟨σ',H',I.unwish,q⟩
 | cont=>obtain ⟨σ',H',I,q⟩:=h; exact ⟨σ',H',I.unwish,q⟩
 | ret u=>obtain ⟨v,σ',H',I,r,q⟩:=h; exact ⟨v,σ',H',I.unwish,r,q⟩
theorem wZ.nox {st:List Stmt} {t:TS} (h:wZ X.nox st t):wZ X st t:=fun pins s σ H D I hw=>
 wpAny_mono (h pins s σ H D (I.wish _) hw) (fun _ _ q=>q.unwish) fun _ _ z=>False.elim z
end
section
variable {X:Cx} {st:Stmt} {yC:List Stmt} {t u:TS} {e:Expr} {te:TE} {pos:Pos}
noncomputable def ER:TS:=fun D σ H=>D.nx σ H
noncomputable def EY (t u:TS):TS:=fun D σ H=>t { D with nx:=u D } σ H
theorem JA:wZ X [] ER:=fun _ _ σ H _ I h=>wpAny_execs_nil ⟨σ,H,I,h⟩
theorem V3 (h1:PS X st t) (h2:wZ X yC u):wZ X (st::yC) (EY t u):=by
 intro pins s σ H D I h
 refine wpAny_execs_cons (zh (h1 pins s σ H { D with nx:=u D } I h) fun f s1 q=>?_)
 cases f with
 | next=>
  obtain ⟨σ',H',I',q⟩:=q
  exact h2 pins s1 σ' H' D I' q
 | ret v=>exact q
 | brk=>exact q
 | cont=>exact q
theorem JC (h1:PS X st t):wZ X [st] t:=by
 intro pins s σ H D I h
 refine wpAny_execs_cons (zh (h1 pins s σ H D I h) fun f s1 q=>?_)
 cases f with
 | next=>exact wpAny_execs_nil q
 | ret v=>exact q
 | brk=>exact q
 | cont=>exact q
theorem zC.quiet {pins:List (Addr×Obj)} {σ:St} {H:Hp} {s:Shared} (I:zC X pins σ H s):interactive X.env=false:=by simp [interactive,I.ok.kind]
noncomputable def IR (te:TE):TS:=fun D σ H=>te σ H fun _ H1=>D.nx σ H1
theorem FP (he:PE X e te) (hs:swapsWith e none pos.line X.env=pure false:=by rfl):PS X (.Expr e pos) (IR te):=by
 intro pins s σ H D I h
 exact wpAny_Expr_any (zh (he pins s σ H _ I h) fun v s1 ⟨x,H1,I1,r1,q1⟩=>⟨σ,H1,I1,q1⟩) I.quiet hs
noncomputable def EX (te:TE):TS:=fun D σ H=>te σ H D.rt
theorem V2 (he:PE X e te):PS X (.Return (some e) pos) (EX te):=by
 intro pins s σ H D I h
 exact wpAny_Return_some (zh (he pins s σ H _ I h) fun v s1 ⟨x,H1,I1,r1,q1⟩=>⟨x,σ,H1,I1,r1,q1⟩)
noncomputable def EM (c:TT) (t u:TS):TS:=fun D σ H=>c σ H fun b H1=>if b=true then t D σ H1 else u D σ H1
theorem J8 {c:Expr} {a b:List Stmt} {tc:TT} (hc:PT X c tc) (ha:wZ X a t) (hb:wZ X b u):PS X (.If c a b pos) (EM tc t u):=by
 intro pins s σ H D I h
 refine wpAny_If (zh (hc pins s σ H _ I h) fun d s1 ⟨H1,I1,q1⟩=>?_)
 cases d with
 | true=>exact ha pins s1 σ H1 D I1 q1
 | false=>exact hb pins s1 σ H1 D I1 q1
end
noncomputable abbrev TG:=V->St->Hp->(St->Hp->Prop)->Prop
noncomputable abbrev ug:=List V->St->Hp->(St->Hp->Prop)->Prop
noncomputable def PG (X:Cx) (target:Expr) (t:TG):Prop:=
 ∀ (pins:List (Addr×Obj)) (s:Shared) (σ:St) (H:Hp) (v:V) (u:Value) (Q:St->Hp->Prop),zC X pins σ H s->zm v u->t v σ H Q->
  wpAny (model X.prog X.w) X.A (assign target X.env u) (fun _ s'=>∃ σ' H',zC X pins σ' H' s'/\Q σ' H') X.xe s
noncomputable def gF (X:Cx) (ts:List Expr) (t:ug):Prop:=
 ∀ (pins:List (Addr×Obj)) (s:Shared) (σ:St) (H:Hp) (vs:List V) (us:List Value) (Q:St->Hp->Prop),zC X pins σ H s->zf vs us->t vs σ H Q->
  wpAny (model X.prog X.w) X.A (assignInOrder ((assignEach ts X.env).map (·.2)) us) (fun _ s'=>∃ σ' H',zC X pins σ' H' s'/\Q σ' H') X.xe s
noncomputable abbrev ky:=V->V->V->Hp->(Hp->Prop)->Prop
noncomputable def XQ (X:Cx) (t:ky):Prop:=
 ∀ (pins:List (Addr×Obj)) (s:Shared) (σ:St) (H:Hp) (o i v:V) (ov iv u:Value) (Q:Hp->Prop),zC X pins σ H s->zm o ov->zm i iv->zm v u->t o i v H Q->
  wpAny (model X.prog X.w) X.A (setItem ov iv u) (fun _ s'=>∃ H',zC X pins σ H' s'/\Q H') X.xe s
section
variable {X:Cx} {pos:Pos}
noncomputable def vo (i:Nat):TG:=fun v σ H Q=>Q (σ.set i (some v)) H
theorem Ds {i:Nat} {x:Str} (hN:X.N.Nodup) (hi:X.N[i]?=some x) (hx:qH X.env.scope x) (hf:X.fn x=true\/X.env.scope.names.lookup x=some .local:=by first | exact .inl rfl | exact .inr rfl | assumption):PG X (.Name x pos) (vo i):=by
 intro pins s σ H v u Q I r h
 exact wpAny_assign_Name (UJ I hN hi hx r (fun s' I'=>⟨_,H,I',h⟩) hf)
noncomputable def gW:ug:=fun vs σ H Q=>vs=[]/\Q σ H
noncomputable def qV (t:TG) (u:ug):ug:=fun vs σ H Q=>∃ v r,vs=v::r/\t v σ H fun σ' H'=>u r σ' H' Q
theorem Dw:gF X [] gW:=by
 intro pins s σ H vs us Q I r h
 obtain ⟨e,h⟩:=h
 subst e
 cases r
 exact assignInOrder_nil ⟨σ,H,I,h⟩
theorem Dv {e:Expr} {es:List Expr} {t:TG} {u:ug} (h1:PG X e t) (h2:gF X es u)
  (hs:(assignEach (e::es) X.env).map (·.2)=assign e X.env::(assignEach es X.env).map (·.2):=by rfl):gF X (e::es) (qV t u):=by
 intro pins s σ H vs us Q I r h
 obtain ⟨v,vr,e1,h⟩:=h
 subst e1
 cases r with
 | cons r rr=>
  rw [hs]
  refine assignInOrder_cons (zh (h1 pins s σ H _ _ _ I r h) fun _ s1 ⟨σ1,H1,I1,q1⟩=>?_)
  exact h2 pins s1 σ1 H1 _ _ Q I1 rr q1
noncomputable def gX (K:PySem.W.Frag) (n:Nat) (t:ug):TG:=fun v σ H Q=>∃ a xs,v=.ref a/\yk K H a xs/\xs.length=n/\t xs σ H Q
theorem Du {es:List Expr} {k:Nat} {t:ug} {n:Nat} (hc:X.calm=true) (h:gF X es t)
  (hn:(assignEach es X.env).length=n:=by rfl) (hst:(assignEach es X.env).findIdx? (·.1)=none:=by rfl):PG X (.Tuple es k pos) (gX X.K n t):=by
 intro pins s σ H v u Q I r hw
 obtain ⟨a,xs,e1,hq,hl,hw⟩:=hw
 subst e1
 cases r
 obtain ⟨its,rv,ht,hz⟩:=I.tuple hq
 refine assign_Tuple_tuple (I.ok.hd hc) ht (by simp [hn,<- hl,rv.length]) hst fun h' hx=>?_
 have I1:zC X pins σ H { s with heap:=h' }:=I.kept (t':=s.toks) fun b o e=>hx b o (Nat.ne_of_lt (Heap.lt_size e)) e
 exact h pins _ σ H xs _ Q I1 (by simpa using rv) hw
noncomputable def Tz (to ti:TE) (t:ky):TG:=fun v σ H Q=>to σ H fun o H1=>ti σ H1 fun i H2=>t o i v H2 fun H3=>Q σ H3
theorem Dt {o i:Expr} {to ti:TE} {t:ky} (ho:PE X o to) (hi:PE X i ti) (hs:XQ X t)
  (ha:∀ v,assign (.Subscript o i pos) X.env v=(do
   let ov <- holding [v] (eval o X.env)
   let iv <- holding [v,ov] (eval i X.env)
   standAt pos
   holding [v,ov,iv] (setItem ov iv v)
   release [v,ov,iv] []):=by intro _; rfl):PG X (.Subscript o i pos) (Tz to ti t):=by
 intro pins s σ H v u Q I r h
 rw [ha]
 refine wpAny_bind (wpAny_holding (zh (ho pins s σ H _ I h) fun ov s1 ⟨x,H1,I1,r1,q1⟩=>?_))
 refine wpAny_bind (wpAny_holding (zh (hi pins s1 σ H1 _ I1 q1) fun iv s2 ⟨y,H2,I2,r2,q2⟩=>?_))
 refine wpAny_bind (wpAny_standAt (wpAny_bind (wpAny_holding (zh (hs pins s2 σ H2 x y v ov iv u _ I2 r1 r2 r q2) fun _ s3 ⟨H3,I3,q3⟩=>?_))))
 exact wpAny_release ⟨σ,H3,I3,q3⟩
noncomputable def UM (te:TE) (g:TG):TS:=fun D σ H=>te σ H fun x H1=>g x σ H1 D.nx
theorem FM {tg e:Expr} {te:TE} {g:TG} (he:PE X e te) (hg:PG X tg g) (hs:swapsWithSole [tg] e pos.line X.env=pure false:=by rfl) (hw:swappedStores [tg] e X.env=pure none:=by rfl)
  (h1:(assignEach [tg] X.env).map (·.2)=[assign tg X.env]:=by rfl):PS X (.Assign [tg] e pos) (UM te g):=by
 intro pins s σ H D I h
 refine wpAny_Assign_stores (zh (he pins s σ H _ I h) fun v s1 ⟨x,H1,I1,r1,q1⟩=>?_) hs hw
 rw [h1]
 exact zh (hg pins s1 σ H1 x v _ I1 r1 q1) fun _ s2 q=>q
theorem FV {i:Nat} {x:Str} {e:Expr} {te:TE} {pos':Pos} (hN:X.N.Nodup) (hi:X.N[i]?=some x) (hx:qH X.env.scope x) (he:PE X e te) (hs:swapsWith e (some (.Name x pos')) pos.line X.env=pure false:=by rfl) (hf:X.fn x=true\/X.env.scope.names.lookup x=some .local:=by first | exact .inl rfl | exact .inr rfl | assumption) :
  PS X (.Assign [.Name x pos'] e pos) (UM te (vo i)):=by
 intro pins s σ H D I h
 refine wpAny_Assign_Name (zh (he pins s σ H _ I h) fun v s1 ⟨y,H1,I1,r1,q1⟩=>?_) hs
 exact UJ I1 hN hi hx r1 (fun s2 I2=>⟨_,H1,I2,q1⟩) hf
end
structure It where
 go:Nat->Hp->Prop
 yld:Nat->Hp->V->Hp->Prop
 stop:Nat->Hp->Prop
noncomputable def v_ (X:Cx) (pins:List (Addr×Obj)) (H:Hp) (b:Addr):Prop:=
 H b=none/\b≠X.env.locals/\b ∉ X.fs/\(b∈X.ex\/X.s₀.heap.objs.size<=b)/\(∀ x c,X.env.cells.lookup x=some c->c≠b)/\∀ p∈X.pn++pins,p.1≠b
theorem zC.fpOk {X:Cx} {pins:List (Addr×Obj)} {σ:St} {H H':Hp} {s:Shared} {b:Addr} (I:zC X pins σ H s) (hb:s.heap.objs.size<=b) (hn:H' b=none):v_ X pins H' b:=by
 refine ⟨hn,Nat.ne_of_gt (Nat.lt_of_lt_of_le I.lt hb),I.nofs hb,.inr (Nat.le_trans I.sz hb),fun x c e z=>?_,fun p hp z=>?_⟩
 ·obtain ⟨v,q⟩:=I.cell x c e
  exact absurd (Nat.lt_of_lt_of_le q.lt (by rw [z]; exact hb)) (Nat.lt_irrefl _)
 ·exact absurd (Nat.lt_of_lt_of_le (Heap.lt_size (I.pin p hp).1) (by rw [z]; exact hb)) (Nat.lt_irrefl _)
structure qJ (P:Program) (w:World) (K:PySem.W.Frag) (tg:Expr) (J:It) (fp:List Addr) (it:Addr) (tn:Nat->Heap->Prop):Prop where
 mem:it∈fp
 obj:∀ i h,tn i h->∀ b∈fp,∃ o,h.get? b=some o/\∀ v,o.data≠.cell v
 keep:∀ i h h',tn i h->(∀ b∈fp,∀ o,h.get? b=some o->h'.get? b=some o)->tn i h'
 item:∀ (X:Cx),X.prog=P->X.w=w->X.K=K->X.calm=true->∀ (i:Nat) (pins:List (Addr×Obj)) (s:Shared) (σ:St) (H:Hp) (E:Value->Shared->Prop),zC X pins σ H s->(∀ b∈fp,v_ X pins H b)->tn i s.heap->J.go i H->
  wpAny (model P w) X.A (pyNext (.ref it)) (fun r s1=>∃ u,r=some u/\
   wpAny (model P w) X.A (letOwnedTupleGo tg (.ref it) u) (fun _ s2=>∃ x H',zC X pins σ H' s2/\zm x u/\J.yld i H x H'/\tn (i+1) s2.heap/\∀ b∈fp,H' b=none) E s1) E s
 done:∀ (X:Cx),X.prog=P->X.w=w->X.K=K->X.calm=true->∀ (i:Nat) (pins:List (Addr×Obj)) (s:Shared) (σ:St) (H:Hp) (E:Value->Shared->Prop),zC X pins σ H s->(∀ b∈fp,v_ X pins H b)->tn i s.heap->J.stop i H->
  wpAny (model P w) X.A (pyNext (.ref it)) (fun r s1=>r=none/\zC X pins σ H s1) E s
 self:∀ (A:Around) (i:Nat) (s:Shared) (Q:Value->Shared->Prop) (E:Value->Shared->Prop),tn i s.heap->Q (.ref it) s->wpAny (model P w) A (pyIter (.ref it)) Q E s
noncomputable abbrev TI:=St->Hp->(It->Hp->Prop)->Prop
noncomputable def XO (X:Cx) (pins:List (Addr×Obj)) (σ:St) (tg:Expr) (R:It->Hp->Prop) (itv:Value) (s2:Shared):Prop:=
 ∃ (it:Addr) (fp:List Addr) (tn:Nat->Heap->Prop) (J:It) (H':Hp),itv=.ref it/\zC X pins σ H' s2/\qJ X.prog X.w X.K tg J fp it tn/\tn 0 s2.heap/\(∀ b∈fp,v_ X pins H' b)/\R J H'
noncomputable def PI (X:Cx) (tg iter:Expr) (wi:TI):Prop:=
 ∀ (pins:List (Addr×Obj)) (s:Shared) (σ:St) (H:Hp) (R:It->Hp->Prop),zC X pins σ H s->wi σ H R->
  wpAny (model X.prog X.w) X.A (eval iter X.env) (fun v s1=>wpAny (model X.prog X.w) X.A (pyIter v) (XO X pins σ tg R) X.xe s1) X.xe s
theorem ZQ {M:Model} {A:Around} {E:Value->Shared->Prop} {s:Shared} {tg:Expr} {it:Addr} {u:Value} {o:Obj} {n:String} {vs:Array Value} {Q:Unit->Shared->Prop} (ho:s.heap.get? it=some o) (hc:o.cls=.type n) (hd:o.data=.fields vs)
    (hn:["enumerate", "zip", "dict_itemiterator", "dict_reverseitemiterator", "odict_iterator", "itertools.zip_longest", "itertools.pairwise"].contains n=false) (hQ:Q () s):wpAny M A (letOwnedTupleGo tg (.ref it) u) Q E s:=by
  unfold letOwnedTupleGo
  cases tg<;>first
    | exact wpAny_pure hQ
    | (cases u<;>first
        | exact wpAny_pure hQ
        | (refine wpAny_bind (wpAny_load ho ?_)
           rw [hc,hd]
           show wpAny M A (if (["enumerate", "zip", "dict_itemiterator", "dict_reverseitemiterator", "odict_iterator", "itertools.zip_longest", "itertools.pairwise"].contains n&&vs[0]? == some (rawInt _))=true then _ else _) Q E s
           rw [if_neg (by intro h; rw [hn,Bool.false_and] at h; cases h)]
           exact wpAny_pure hQ))
noncomputable def XH (K:PySem.W.Frag) (a:Addr):It:=
 ⟨fun i H=>∃ xs x,yT K H a xs/\xs[i]?=some x,fun i H x H'=>H'=H/\∀ xs,yT K H a xs->xs[i]?=some x,fun i H=>∃ xs,yT K H a xs/\xs.length<=i⟩
noncomputable def XI (K:PySem.W.Frag) (a:Addr):It:=
 ⟨fun i H=>∃ xs x,yk K H a xs/\xs[i]?=some x,fun i H x H'=>H'=H/\∀ xs,yk K H a xs->xs[i]?=some x,fun i H=>∃ xs,yk K H a xs/\xs.length<=i⟩
noncomputable def kX (lo:Int) (n:Nat):It:=⟨fun i _=>i<n,fun i H x H'=>H'=H/\x=.int (lo+i),fun i _=>n<=i⟩
theorem El {P:Program} {w:World} {K:PySem.W.Frag} {tg:Expr} (a it:Addr):qJ P w K tg (XH K a) [it] it (fun i h=>h.IsListIter it a i) where
 mem:=by simp
 obj:=fun i h st b hb=>by
  have e:b=it:=by simpa using hb
  subst e
  obtain ⟨o,e,c,d⟩:=st
  exact ⟨o,e,fun v z=>by rw [d] at z; cases z⟩
 keep:=fun i h h' st k=>st.at fun o e=>k it (by simp) o e
 item:=by
  intro X hP hw hK hc i pins s σ H E I hf st hg
  subst hP hw hK
  obtain ⟨xs,x,hq,hx⟩:=hg
  obtain ⟨its,rv,p,hz⟩:=I.list hq
  obtain ⟨u,hu,ru⟩:=rv.get hx
  obtain ⟨f0,f1,f2,f3,f4,f5⟩:=hf it (by simp)
  refine wpAny_pyNext_list_item st p.isList (x:=u) (by simpa using hu) fun h' st' sb=>?_
  have I1:zC X pins σ H { s with heap:=h' }:=I.turned (t':=s.toks) (fun b o hb e=>(sb.2 b hb).trans e) f0 f1 f3 f4 f5
  obtain ⟨o,e,c,d⟩:=id st'
  exact ⟨u,rfl,ZQ (s:={ s with heap:=h' }) e c d (by decide) ⟨x,H,I1,ru,⟨rfl,fun ys hy=>by rw [I.list_inj hy hq]; exact hx⟩,st',fun b hb=>(hf b hb).1⟩⟩
 done:=by
  intro X hP hw hK hc i pins s σ H E I hf st hg
  subst hP hw hK
  obtain ⟨xs,hq,hx⟩:=hg
  obtain ⟨its,rv,p,hz⟩:=I.list hq
  obtain ⟨f0,f1,f2,f3,f4,f5⟩:=hf it (by simp)
  have hl:=rv.length
  exact wpAny_pyNext_list_end (I.ok.hd hc) st p.isList (by simp; omega) fun h' eb=>⟨rfl,I.turned (t':=s.toks) (fun b o hb e=>eb b o hb e) f0 f1 f3 f4 f5⟩
 self:=fun _ _ _ _ _ st h=>wpAny_pyIter_listiter st h
theorem Ep {P:Program} {w:World} {K:PySem.W.Frag} {tg:Expr} (a it:Addr):qJ P w K tg (XI K a) [it] it (fun i h=>h.IsTupleIter it a i) where
 mem:=by simp
 obj:=fun i h st b hb=>by
  have e:b=it:=by simpa using hb
  subst e
  obtain ⟨o,e,c,d⟩:=st
  exact ⟨o,e,fun v z=>by rw [d] at z; cases z⟩
 keep:=fun i h h' st k=>st.at fun o e=>k it (by simp) o e
 item:=by
  intro X hP hw hK hc i pins s σ H E I hf st hg
  subst hP hw hK
  obtain ⟨xs,x,hq,hx⟩:=hg
  obtain ⟨its,rv,p,hz⟩:=I.tuple hq
  obtain ⟨u,hu,ru⟩:=rv.get hx
  obtain ⟨f0,f1,f2,f3,f4,f5⟩:=hf it (by simp)
  refine wpAny_pyNext_tuple_item st (show s.heap.IsTuple a its.toArray from p) (x:=u) (by simpa using hu) fun h' st' sb=>?_
  have I1:zC X pins σ H { s with heap:=h' }:=I.turned (t':=s.toks) (fun b o hb e=>(sb.2 b hb).trans e) f0 f1 f3 f4 f5
  obtain ⟨o,e,c,d⟩:=id st'
  exact ⟨u,rfl,ZQ (s:={ s with heap:=h' }) e c d (by decide) ⟨x,H,I1,ru,⟨rfl,fun ys hy=>by rw [I.tuple_inj hy hq]; exact hx⟩,st',fun b hb=>(hf b hb).1⟩⟩
 done:=by
  intro X hP hw hK hc i pins s σ H E I hf st hg
  subst hP hw hK
  obtain ⟨xs,hq,hx⟩:=hg
  obtain ⟨its,rv,p,hz⟩:=I.tuple hq
  obtain ⟨f0,f1,f2,f3,f4,f5⟩:=hf it (by simp)
  have hl:=rv.length
  exact wpAny_pyNext_tuple_end (I.ok.hd hc) st (show s.heap.IsTuple a its.toArray from p) (by simp; omega) fun h' eb=>⟨rfl,I.turned (t':=s.toks) (fun b o hb e=>eb b o hb e) f0 f1 f3 f4 f5⟩
 self:=fun _ _ _ _ _ st h=>wpAny_pyIter_tupleiter st h
theorem Em {P:Program} {w:World} {K:PySem.W.Frag} {tg:Expr} (it:Addr) (lo:Int) (n:Nat):qJ P w K tg (kX lo n) [it] it (fun i h=>IsRangeIter h it (lo+(i:Nat)*1) ((n:Int) - (i:Nat)) 1) where
 mem:=by simp
 obj:=fun i h st b hb=>by
  have e:b=it:=by simpa using hb
  subst e
  exact ⟨_,st,fun v z=>by
   have z':Data.fields _=Data.cell v:=z
   cases z'⟩
 keep:=fun i h h' st k=>k it (by simp) _ st
 item:=by
  intro X hP hw hK hc i pins s σ H E I hf st hg
  subst hP hw hK
  obtain ⟨f0,f1,f2,f3,f4,f5⟩:=hf it (by simp)
  have W:=Walks.range (prog:=X.prog) (w:=X.w) (I.ok.hd hc) it lo 1 n
  refine W.item i s _ _ hg st fun v h' tk hv st' kk=>?_
  obtain ⟨t,rfl⟩:=hv
  have I1:zC X pins σ H { s with heap:=h',toks:=tk }:=I.turned (fun b o hb e=>kk b o (by simpa using hb) e) f0 f1 f3 f4 f5
  refine ⟨_,rfl,ZQ (s:={ s with heap:=h',toks:=tk }) (n := "range_iterator") st' rfl rfl (by decide) ⟨.int (lo+i),H,I1,⟨t,?_⟩,⟨rfl,rfl⟩,st',fun b hb=>(hf b hb).1⟩⟩
  rw [Int.mul_one]
 done:=by
  intro X hP hw hK hc i pins s σ H E I hf st hg
  subst hP hw hK
  obtain ⟨f0,f1,f2,f3,f4,f5⟩:=hf it (by simp)
  exact wpAny_pyNext_range_end (I.ok.hd hc) st (by have:n<=i:=hg; omega) fun h' eb=>⟨rfl,I.turned (t':=s.toks) (fun b o hb e=>eb b o hb e) f0 f1 f3 f4 f5⟩
 self:=fun _ _ _ _ _ st h=>wpAny_pyIter_rangeiter st h
end L2
namespace L2
open PySem PySem.Spec PyProof.Rows
section
variable {X:Cx} {tg:Expr}
noncomputable def Lx (K:PySem.W.Frag) (tl:TE):TI:=fun σ H R=>tl σ H fun x H1=>∃ a,x=.ref a/\(∃ xs,yT K H1 a xs)/\R (XH K a) H1
noncomputable def L_ (K:PySem.W.Frag) (tl:TE):TI:=fun σ H R=>tl σ H fun x H1=>∃ a,x=.ref a/\(∃ xs,yk K H1 a xs)/\R (XI K a) H1
theorem Dy {l:Expr} {tl:TE} (hl:PE X l tl):PI X tg l (Lx X.K tl):=by
 intro pins s σ H R I h
 refine zh (hl pins s σ H _ I h) fun v s1 ⟨x,H1,I1,r1,q1⟩=>?_
 obtain ⟨a,e,⟨xs,hq⟩,q⟩:=q1
 subst e
 cases r1
 obtain ⟨its,rv,p,hz⟩:=I1.list hq
 refine wpAny_pyIter_list p.isList ?_
 refine ⟨s1.heap.objs.size,[s1.heap.objs.size],_,_,H1,rfl,I1.kept (t':=s1.toks) fun b o e=>Heap.get?_push_of_some _ e,El a _,⟨_,Heap.get?_push_size _ rfl,rfl,rfl⟩,fun b hb=>?_,q⟩
 have e:b=s1.heap.objs.size:=by simpa using hb
 subst e
 exact I1.fpOk (Nat.le_refl _) (I1.hok.fresh (Nat.le_refl _))
theorem F0 {l:Expr} {tl:TE} (hl:PE X l tl):PI X tg l (L_ X.K tl):=by
 intro pins s σ H R I h
 refine zh (hl pins s σ H _ I h) fun v s1 ⟨x,H1,I1,r1,q1⟩=>?_
 obtain ⟨a,e,⟨xs,hq⟩,q⟩:=q1
 subst e
 cases r1
 obtain ⟨its,rv,p,hz⟩:=I1.tuple hq
 refine wpAny_pyIter_tuple (show s1.heap.IsTuple a its.toArray from p) ?_
 refine ⟨s1.heap.objs.size,[s1.heap.objs.size],_,_,H1,rfl,I1.kept (t':=s1.toks) fun b o e=>Heap.get?_push_of_some _ e,Ep a _,⟨_,Heap.get?_push_size _ rfl,rfl,rfl⟩,fun b hb=>?_,q⟩
 have e:b=s1.heap.objs.size:=by simpa using hb
 subst e
 exact I1.fpOk (Nat.le_refl _) (I1.hok.fresh (Nat.le_refl _))
theorem C5 {pins:List (Addr×Obj)} {σ:St} {H:Hp} {s:Shared} {R:It->Hp->Prop} {E:Value->Shared->Prop} {lo hi:Int} {t u v:Tok} {tk:Nat} (I:zC X pins σ H s) (h1 : -(2 ^ 62)<=lo) (h2:lo<2 ^ 62) (h3 : -(2 ^ 62)<=hi) (h4:hi<2 ^ 62)
  (q:R (kX lo (hi - lo).toNat) H):wpAny (model X.prog X.w) X.A (pyIter (.ref s.heap.objs.size)) (XO X pins σ tg R) E { s with heap:=s.heap.push { cls:=.type "range",data:=.fields #[.int lo t,.int hi u,.int 1 v] },toks:=tk }:=by
 refine wpAny_pyIter_range (IsRange.new ..) (small_one h1 h2 h3 h4) ?_
 have I1:zC X pins σ H { s with heap:=s.heap.push { cls:=.type "range",data:=.fields #[.int lo t,.int hi u,.int 1 v] },toks:=tk }:=I.kept fun b o e=>Heap.get?_push_of_some _ e
 refine ⟨(s.heap.push { cls:=.type "range",data:=.fields #[.int lo t,.int hi u,.int 1 v] }).objs.size,[(s.heap.push { cls:=.type "range",data:=.fields #[.int lo t,.int hi u,.int 1 v] }).objs.size],_,_,H,rfl,
  I1.kept (t':=tk) fun b o e=>Heap.get?_push_of_some _ e,Em _ lo (hi - lo).toNat,?_,fun b hb=>?_,q⟩
 ·have e1:lo+((0:Nat):Int)*1=lo:=by simp
  have e2:(((hi - lo).toNat:Nat):Int) - ((0:Nat):Int)=Builtin.Range.rangeSize lo hi 1:=by rw [rangeSize_one]; split<;>omega
  show IsRangeIter _ _ (lo+((0:Nat):Int)*1) ((((hi - lo).toNat:Nat):Int) - ((0:Nat):Int)) 1
  rw [e1,e2]
  exact Heap.get?_push_size _ rfl
 ·have e:b=(s.heap.push { cls:=.type "range",data:=.fields #[.int lo t,.int hi u,.int 1 v] }).objs.size:=by simpa using hb
  subst e
  exact I1.fpOk (Nat.le_refl _) (I1.hok.fresh (Nat.le_refl _))
noncomputable def Ly (ta:TA):TI:=fun σ H R=>ta σ H fun vs H1=>∃ j:Int,vs=[.int j] /\ -(2 ^ 62)<=j/\j<2 ^ 62/\R (kX 0 j.toNat) H1
theorem Dz {a:Expr} {ta:TA} {p pos:Pos} (hg:Gl X "range") (hm:X.mg "range" = none) (ha:PA X [a] ta) (hs:starEach [a] X.env=[(false,eval a X.env)]:=by rfl):PI X tg (.Call (.Name "range" p) [a] [] pos) (Ly ta):=by
 intro pins s σ H R I h
 refine Call_ (jR I hg hm boot_range (PyProof.Rows.callWith_type1 (zh (ha pos pins s σ H _ I h) fun us s1 ⟨vs,H1,I1,r1,q1⟩=>?_) hs rfl))
 obtain ⟨j,e,q1,q2,q⟩:=q1
 subst e
 cases r1 with
 | cons r rr=>
  cases rr
  obtain ⟨t,rfl⟩:=r
  exact call_range_1 (C5 I1 (by omega) (by omega) q1 q2 (by simpa using q))
noncomputable def EK (wi:TI) (g:TG) (tb:TS):TS:=fun D σ H=>wi σ H fun J H1=>∃ W:Nat->Nat->St->Hp->Prop,(∃ m,W 0 m σ H1)/\∀ i m σ H,W i m σ H->
 (J.stop i H/\D.nx σ H)\/(J.go i H/\∃ N:St->Hp->Prop,(∀ σ' H',N σ' H'->∃ m',m'<m/\W (i+1) m' σ' H')/\∀ x H',J.yld i H x H'->g x σ H' fun σ2 H2=>tb { D with nx:=N,ct:=N,bk:=D.nx } σ2 H2)
noncomputable def k9 (fp:List Addr) (h:Heap):List (Addr×Obj):=fp.filterMap fun b=>(h.get? b).map fun o=>(b,o)
theorem Zr {fp:List Addr} {h:Heap} {b:Addr} {o:Obj} (hb:b∈fp) (e:h.get? b=some o):(b,o)∈k9 fp h:=List.mem_filterMap.mpr ⟨b,hb,by rw [e]; rfl⟩
theorem BI {fp:List Addr} {h:Heap} {p:Addr×Obj} (hp:p∈k9 fp h):p.1∈fp/\h.get? p.1=some p.2:=by
 obtain ⟨b,hb,e⟩:=List.mem_filterMap.mp hp
 cases q:h.get? b with
 | none=>rw [q] at e; cases e
 | some o=>
  rw [q] at e
  have e':(b,o)=p:=Option.some.inj e
  subst e'
  exact ⟨hb,q⟩
theorem zC.pinned {pins:List (Addr×Obj)} {σ:St} {H:Hp} {s:Shared} {fp:List Addr} (I:zC X pins σ H s) (hf:∀ b∈fp,v_ X pins H b) (ho:∀ b∈fp,∃ o,s.heap.get? b=some o/\∀ v,o.data≠.cell v):zC X (pins++k9 fp s.heap) σ H s:=
 I.pins_of fun p hp=>(List.mem_append.mp hp).elim (fun z=>I.pin p (List.mem_append_right _ z)) fun z=>by
  obtain ⟨hb,e⟩:=BI z
  obtain ⟨f0,f1,f2,_⟩:=hf p.1 hb
  obtain ⟨o,e',d⟩:=ho p.1 hb
  rw [e] at e'; cases e'
  exact ⟨e,f0,f1,f2,d⟩
theorem zC.unpinned {pins pl:List (Addr×Obj)} {σ:St} {H:Hp} {s:Shared} (I:zC X (pins++pl) σ H s):zC X pins σ H s:=I.pins_of fun p hp=>I.pin p (List.mem_append_right _ (List.mem_append_left _ hp))
theorem FQ {iter:Expr} {body:List Stmt} {wi:TI} {g:TG} {tb:TS} {pos:Pos} (hp:PassesOwn (model X.prog X.w) X.A X.env X.xe) (hc:X.calm=true) (hi:PI X tg iter wi) (hg:PG X tg g) (hb:wZ X body tb)
  (hs:∀ x,foldedSetIterable iter X.env x=pure x:=by intro _; rfl):PS X (.For tg iter body [] pos) (EK wi g tb):=by
 intro pins s σ H D I h
 refine wpAny_For (zh (hi pins s σ H _ I h) fun v s1 h1=>zh h1 fun itv s2 h2=>?_) hs
 obtain ⟨it,fp,tn,J,H2,e,I2,T,st2,f2,W,⟨m0,w0⟩,turn⟩:=h2
 subst e
 have stat:∀ {H':Hp},(∀ b∈fp,H' b=none)->∀ b∈fp,v_ X pins H' b:=fun hn b hb=>⟨hn b hb,(f2 b hb).2⟩
 refine codeAny_forLoop_any (fun n s'=>∃ i σ' H',zC X pins σ' H' s'/\tn i s'.heap/\(∀ b∈fp,H' b=none)/\W i n σ' H') ?_ m0 ⟨0,σ,H2,I2,st2,fun b hb=>(f2 b hb).1,w0⟩
 rintro n s3 ⟨i,σ3,H3,I3,st3,fr3,w3⟩
 rcases turn i n σ3 H3 w3 with ⟨stop,qn⟩ | ⟨go,N,hN,step⟩
 ·refine wpAny_passesOwn hp (zh (T.done X rfl rfl rfl hc i pins s3 σ3 H3 X.xe I3 (stat fr3) st3 stop) fun r s4 ⟨hr,I4⟩=>?_)
  subst hr
  exact wpAny_execs_nil ⟨σ3,H3,I4,qn⟩
 ·refine wpAny_passesOwn hp (zh (T.item X rfl rfl rfl hc i pins s3 σ3 H3 X.xe I3 (stat fr3) st3 go) fun r s4 ⟨u,hr,h4⟩=>?_)
  subst hr
  refine wpAny_passesOwn hp (zh h4 fun _ s5 ⟨x,H5,I5,r5,y5,st5,fr5⟩=>?_)
  have I5':=I5.pinned (stat fr5) (T.obj _ _ st5)
  refine wpAny_passesOwn hp (zh (hg _ s5 σ3 H5 x u _ I5' r5 (step x H5 y5)) fun _ s6 ⟨σ6,H6,I6,q6⟩=>?_)
  refine wpAny_passesOwn hp (zh (hb _ s6 σ6 H6 _ I6 q6) fun f s7 q7=>?_)
  have again:∀ {σ7:St} {H7:Hp},zC X (pins++k9 fp s5.heap) σ7 H7 s7->N σ7 H7->∃ m,m<n/\∃ i σ' H',zC X pins σ' H' s7/\tn i s7.heap/\(∀ b∈fp,H' b=none)/\W i m σ' H':=fun {σ7 H7} I7 n7=>by
   obtain ⟨m',hm,w7⟩:=hN σ7 H7 n7
   refine ⟨m',hm,i+1,σ7,H7,I7.unpinned,T.keep _ _ _ st5 fun b hb o e=>(I7.pin (b,o) (List.mem_append_right _ (List.mem_append_right _ (Zr hb e)))).1,fun b hb=>?_,w7⟩
   obtain ⟨o,e,d⟩:=T.obj _ _ st5 b hb
   exact (I7.pin (b,o) (List.mem_append_right _ (List.mem_append_right _ (Zr hb e)))).2.1
  cases f with
  | next=>obtain ⟨σ7,H7,I7,n7⟩:=q7; exact again I7 n7
  | cont=>obtain ⟨σ7,H7,I7,n7⟩:=q7; exact again I7 n7
  | brk=>obtain ⟨σ7,H7,I7,q7⟩:=q7; exact ⟨σ7,H7,I7.unpinned,q7⟩
  | ret v=>obtain ⟨x7,σ7,H7,I7,r7,q7⟩:=q7; exact ⟨x7,σ7,H7,I7.unpinned,r7,q7⟩
end
end L2
namespace L2
open PySem PySem.Spec PyProof.Rows
noncomputable abbrev R2:=V->V->Hp->VK->Prop
noncomputable def yU (X:Cx) (f:Value->Value->Sem Value) (r:R2):Prop:=
 ∀ (pins:List (Addr×Obj)) (s:Shared) (σ:St) (H:Hp) (x y:V) (v u:Value) (Q:VK),zC X pins σ H s->zm x v->zm y u->r x y H Q->
  wpAny (model X.prog X.w) X.A (f v u) (EP X pins σ Q) X.xe s
noncomputable def kz (X:Cx) (f:Value->Sem Value) (r:V->Hp->VK->Prop):Prop:=
 ∀ (pins:List (Addr×Obj)) (s:Shared) (σ:St) (H:Hp) (x:V) (v:Value) (Q:VK),zC X pins σ H s->zm x v->r x H Q->
  wpAny (model X.prog X.w) X.A (f v) (EP X pins σ Q) X.xe s
noncomputable def xr (X:Cx) (f:Value) (r:List V->Hp->VK->Prop):Prop:=
 ∀ (pins:List (Addr×Obj)) (s:Shared) (σ:St) (H:Hp) (xs:List V) (us:List Value) (Q:VK),zC X pins σ H s->zf xs us->r xs H Q->
  wpAny (model X.prog X.w) X.A (call f us) (EP X pins σ Q) X.xe s
noncomputable def kN (r:R2) (ta tb:TE):TE:=fun σ H Q=>ta σ H fun x H1=>tb σ H1 fun y H2=>r x y H2 Q
noncomputable def Ed (r:V->Hp->VK->Prop) (ta:TE):TE:=fun σ H Q=>ta σ H fun x H1=>r x H1 Q
noncomputable def rI (C:Int->Int->Prop) (g:Int->Int->V):R2:=fun x y H Q=>∃ i j,x=.int i/\y=.int j/\C i j/\Q (g i j) H
noncomputable def ut (g:Int->Int->V):R2:=fun x y H Q=>∃ i j,x=.int i/\y=.int j/\Q (g i j) H
noncomputable def rU (g:Int->V):V->Hp->VK->Prop:=fun x H Q=>∃ i,x=.int i/\Q (g i) H
section
variable {X:Cx} {a b c:Expr} {ta tb tc:TE} {pos:Pos}
theorem Xo (ha:PE X a ta) (hb:PE X b tb) {pins:List (Addr×Obj)} {s:Shared} {σ:St} {H:Hp} {R:V->V->Hp->Prop} (I:zC X pins σ H s)
  (h:ta σ H fun x H1=>tb σ H1 fun y H2=>R x y H2) {Q:Value->Shared->Prop} {f:Value->Value->Sem Value}
  (hf:∀ v u s2 x y H2,zC X pins σ H2 s2->zm x v->zm y u->R x y H2->wpAny (model X.prog X.w) X.A (f v u) Q X.xe s2) :
  wpAny (model X.prog X.w) X.A (eval a X.env) (fun v s₁=>wpAny (model X.prog X.w) X.A (eval b X.env) (fun u s₂=>wpAny (model X.prog X.w) X.A (f v u) Q X.xe s₂) X.xe s₁) X.xe s:=by
 refine zh (ha pins s σ H _ I h) fun v s1 ⟨x,H1,I1,r1,q1⟩=>?_
 refine zh (hb pins s1 σ H1 _ I1 q1) fun u s2 ⟨y,H2,I2,r2,q2⟩=>?_
 exact hf v u s2 x y H2 I2 r1 r2 q2
theorem Dl {op:Operator} {r:R2} (ho:yU X (binaryOp op) r) (ha:PE X a ta) (hb:PE X b tb):PE X (.BinOp a op b pos) (kN r ta tb):=by
 intro pins s σ H Q I h
 exact wpAny_BinOp (Xo ha hb I h fun v u s2 x y H2 I2 rx ry q=>ho pins s2 σ H2 x y v u Q I2 rx ry q)
theorem Do {op:UnaryOp} {r:V->Hp->VK->Prop} (ho:kz X (unaryOp op) r) (ha:PE X a ta):PE X (.UnaryOp op a pos) (Ed r ta):=by
 intro pins s σ H Q I h
 exact UnaryOp_ (zh (ha pins s σ H _ I h) fun v s1 ⟨x,H1,I1,r1,q1⟩=>ho pins s1 σ H1 x v Q I1 r1 q1)
theorem k6 {f:Value->Value->Sem Value} {C:Int->Int->Prop} {g:Int->Int->Int}
  (rule:∀ (i j:Int) (t u:Tok) (s:Shared) (Q:Value->Shared->Prop) (E:Value->Shared->Prop),C i j->Q (.int (g i j) s.toks) { s with toks:=s.toks+1 }->wpAny (model X.prog X.w) X.A (f (.int i t) (.int j u)) Q E s) :
  yU X f (rI C fun i j=>.int (g i j)):=by
 intro pins s σ H x y v u Q I rx ry h
 obtain ⟨i,j,rfl,rfl,hc,q⟩:=h
 obtain ⟨t,rfl⟩:=rx
 obtain ⟨t',rfl⟩:=ry
 exact rule i j t t' s _ _ hc ⟨.int (g i j),H,I.tok _,⟨_,rfl⟩,q⟩
theorem Qu {f:Value->Value->Sem Value} {g:Int->Int->Int}
  (rule:∀ (i j:Int) (t u:Tok) (s:Shared) (Q:Value->Shared->Prop) (E:Value->Shared->Prop),Q (.int (g i j) s.toks) { s with toks:=s.toks+1 }->wpAny (model X.prog X.w) X.A (f (.int i t) (.int j u)) Q E s) :
  yU X f (ut fun i j=>.int (g i j)):=by
 intro pins s σ H x y v u Q I rx ry h
 obtain ⟨i,j,rfl,rfl,q⟩:=h
 obtain ⟨t,rfl⟩:=rx
 obtain ⟨t',rfl⟩:=ry
 exact rule i j t t' s _ _ ⟨.int (g i j),H,I.tok _,⟨_,rfl⟩,q⟩
theorem W_ {f:Value->Value->Sem Value} {g:Int->Int->Bool}
  (rule:∀ (i j:Int) (t u:Tok) (s:Shared) (Q:Value->Shared->Prop) (E:Value->Shared->Prop),Q (.bool (g i j)) s->wpAny (model X.prog X.w) X.A (f (.int i t) (.int j u)) Q E s) :
  yU X f (ut fun i j=>.bl (g i j)):=by
 intro pins s σ H x y v u Q I rx ry h
 obtain ⟨i,j,rfl,rfl,q⟩:=h
 obtain ⟨t,rfl⟩:=rx
 obtain ⟨t',rfl⟩:=ry
 exact rule i j t t' s _ _ ⟨.bl (g i j),H,I,rfl,q⟩
noncomputable def Yf (i j:Int):Prop:=0<=j/\j<=1000000/\i.natAbs<2 ^ 64
noncomputable def jq (i j:Int):Prop:=(-(2 ^ 64)<i/\i<2 ^ 64)\/(-(2 ^ 64)<j/\j<2 ^ 64)
theorem jq.ok {i j:Int} (h:jq i j):IntMulOk i j:=by
 rcases h with ⟨h1,h2⟩ | ⟨h1,h2⟩
 ·exact .of_left (intBits_le_64 h1 h2)
 ·exact .of_right (intBits_le_64 h1 h2)
theorem D1:yU X (binaryOp .Add) (ut fun i j=>.int (i+j)):=Qu fun _ _ _ _ _ _ _ q=>add_int q
theorem DK:yU X (binaryOp .Sub) (ut fun i j=>.int (i - j)):=Qu fun _ _ _ _ _ _ _ q=>sub_int q
theorem qf:yU X (binaryOp .Mult) (rI jq fun i j=>.int (i*j)):=k6 fun _ _ _ _ _ _ _ hc q=>mul_int q hc.ok
theorem uY:yU X (binaryOp .Mod) (rI (fun _ j=>0<j) fun i j=>.int (i % j)):=k6 fun i j _ _ _ _ _ hc q=>by
 have h1:(0:Int)<j:=hc
 exact mod_int' (by omega) (by rw [Int.fmod_eq_emod_of_nonneg i (by omega)]; exact q)
theorem DJ:yU X (binaryOp .LShift) (rI Yf fun i j=>.int (i*2 ^ j.toNat)):=k6 fun _ _ _ _ _ _ _ hc q=>lshift_int_small hc.1 hc.2.1 hc.2.2 q
theorem Ew {f:Value->Sem Value} {g:Int->Int}
  (rule:∀ (i:Int) (t:Tok) (s:Shared) (Q:Value->Shared->Prop) (E:Value->Shared->Prop),Q (.int (g i) s.toks) { s with toks:=s.toks+1 }->wpAny (model X.prog X.w) X.A (f (.int i t)) Q E s) :
  kz X f (rU fun i=>.int (g i)):=by
 intro pins s σ H x v Q I rx h
 obtain ⟨i,rfl,q⟩:=h
 obtain ⟨t,rfl⟩:=rx
 exact rule i t s _ _ ⟨.int (g i),H,I.tok _,⟨_,rfl⟩,q⟩
theorem u_:kz X (unaryOp .USub) (rU fun i=>.int (-i)):=Ew fun _ _ _ _ _ q=>neg_int q
theorem D2:yU X (binaryOp .Add) (fun x y H Q=>∃ i k,x=.int i/\y=.bl k/\Q (.int (i+b2i k)) H):=by
 intro pins s σ H x y v u Q I rx ry h
 obtain ⟨i,k,rfl,rfl,q⟩:=h
 obtain ⟨t,rfl⟩:=rx
 cases ry
 exact add_int_bool ⟨.int (i+b2i k),H,I.tok _,⟨_,rfl⟩,q⟩
end
noncomputable def U3:V->V->Bool
 | .non,.non=>true | .non,.int _=>true | .int _,.non=>true | .non,.bl _=>true | .bl _,.non=>true | .non,.str _=>true | .str _,.non=>true
 | .int _,.int _=>true | .bl _,.bl _=>true | .str _,.str _=>true | .byt _,.byt _=>true
 | .int _,.str _=>true | .str _,.int _=>true | .bl _,.str _=>true | .str _,.bl _=>true
 | _,_=>false
noncomputable def Ft:R2:=fun x y H Q=>U3 x y=true/\Q (.bl (decide (x=y))) H
noncomputable def Fy:R2:=fun x y H Q=>U3 x y=true/\Q (.bl (!decide (x=y))) H
theorem W3 {i j:Int}:decide (V.int i=V.int j)=(i == j):=by
 rw [Bool.eq_iff_iff]
 simp
theorem Xz {i j:Bool}:decide (V.bl i=V.bl j)=(i == j):=by
 rw [Bool.eq_iff_iff]
 simp
theorem W4 {i j:Str}:decide (V.str i=V.str j)=(i == j):=by
 rw [Bool.eq_iff_iff]
 simp
theorem Tb {i j:Array UInt8}:decide (V.byt i=V.byt j)=(i.toList == j.toList):=by
 rw [Bool.eq_iff_iff]
 cases i
 cases j
 simp
section
variable {X:Cx} {a b c:Expr} {ta tb tc:TE} {pos:Pos}
theorem xE {pins:List (Addr×Obj)} {σ:St} {H:Hp} {s:Shared} {Q:VK} {k k':Bool} (I:zC X pins σ H s) (q:Q (.bl k) H) (e:k=k'):EP X pins σ Q (.bool k') s:=by
 subst e
 exact ⟨.bl k,H,I,rfl,q⟩
theorem D6:yU X (compareOp .Eq) Ft:=by
 intro pins s σ H x y v u Q I rx ry h
 obtain ⟨hs,q⟩:=h
 cases x with
 | non=>
  cases rx
  cases y with
  | non=>cases ry; exact PySem.EqNone.eq_none_none (xE I q (by simp))
  | bl j=>cases ry; exact PySem.EqNone.eq_none_bool (xE I q (by simp))
  | int j=>obtain ⟨t',rfl⟩:=ry; exact PySem.EqNone.eq_none_int (xE I q (by simp))
  | str j=>obtain ⟨t',rfl⟩:=ry; exact PySem.EqNone.eq_none_str (xE I q (by simp))
  | _=>exact absurd (show false=true from hs) Bool.false_ne_true
 | bl i=>
  cases rx
  cases y with
  | non=>cases ry; exact PySem.EqNone.eq_bool_none (xE I q (by simp))
  | bl j=>cases ry; exact eq_bool (xE I q Xz)
  | str j=>obtain ⟨t',rfl⟩:=ry; exact PySem.EqMixed.eq_bool_str (xE I q (by simp))
  | _=>exact absurd (show false=true from hs) Bool.false_ne_true
 | int i=>
  obtain ⟨t,rfl⟩:=rx
  cases y with
  | non=>cases ry; exact PySem.EqNone.eq_int_none (xE I q (by simp))
  | int j=>obtain ⟨t',rfl⟩:=ry; exact eq_int (xE I q W3)
  | str j=>obtain ⟨t',rfl⟩:=ry; exact PySem.EqMixed.eq_int_str (xE I q (by simp))
  | _=>exact absurd (show false=true from hs) Bool.false_ne_true
 | str i=>
  obtain ⟨t,rfl⟩:=rx
  cases y with
  | non=>cases ry; exact PySem.EqNone.eq_str_none (xE I q (by simp))
  | bl j=>cases ry; exact PySem.EqMixed.eq_str_bool (xE I q (by simp))
  | int j=>obtain ⟨t',rfl⟩:=ry; exact PySem.EqMixed.eq_str_int (xE I q (by simp))
  | str j=>obtain ⟨t',rfl⟩:=ry; exact eq_str (xE I q W4)
  | _=>exact absurd (show false=true from hs) Bool.false_ne_true
 | byt i=>
  obtain ⟨t,rfl⟩:=rx
  cases y with
  | byt j=>obtain ⟨t',rfl⟩:=ry; exact PySem.W.eq_bytes (xE I q Tb)
  | _=>exact absurd (show false=true from hs) Bool.false_ne_true
 | _=>cases y<;>exact absurd (show false=true from hs) Bool.false_ne_true
theorem DF:yU X (compareOp .NotEq) Fy:=by
 intro pins s σ H x y v u Q I rx ry h
 obtain ⟨hs,q⟩:=h
 cases x with
 | non=>
  cases rx
  cases y with
  | non=>cases ry; exact PySem.EqNone.ne_none_none (xE I q (by simp))
  | bl j=>cases ry; exact PySem.EqNone.ne_none_bool (xE I q (by simp))
  | int j=>obtain ⟨t',rfl⟩:=ry; exact PySem.EqNone.ne_none_int (xE I q (by simp))
  | str j=>obtain ⟨t',rfl⟩:=ry; exact PySem.EqNone.ne_none_str (xE I q (by simp))
  | _=>exact absurd (show false=true from hs) Bool.false_ne_true
 | bl i=>
  cases rx
  cases y with
  | non=>cases ry; exact PySem.EqNone.ne_bool_none (xE I q (by simp))
  | bl j=>cases ry; exact ne_bool (xE I q (congrArg not Xz))
  | str j=>obtain ⟨t',rfl⟩:=ry; exact PySem.EqMixed.ne_bool_str (xE I q (by simp))
  | _=>exact absurd (show false=true from hs) Bool.false_ne_true
 | int i=>
  obtain ⟨t,rfl⟩:=rx
  cases y with
  | non=>cases ry; exact PySem.EqNone.ne_int_none (xE I q (by simp))
  | int j=>obtain ⟨t',rfl⟩:=ry; exact ne_int (xE I q (congrArg not W3))
  | str j=>obtain ⟨t',rfl⟩:=ry; exact PySem.EqMixed.ne_int_str (xE I q (by simp))
  | _=>exact absurd (show false=true from hs) Bool.false_ne_true
 | str i=>
  obtain ⟨t,rfl⟩:=rx
  cases y with
  | non=>cases ry; exact PySem.EqNone.ne_str_none (xE I q (by simp))
  | bl j=>cases ry; exact PySem.EqMixed.ne_str_bool (xE I q (by simp))
  | int j=>obtain ⟨t',rfl⟩:=ry; exact PySem.EqMixed.ne_str_int (xE I q (by simp))
  | str j=>obtain ⟨t',rfl⟩:=ry; exact ne_str (xE I q (congrArg not W4))
  | _=>exact absurd (show false=true from hs) Bool.false_ne_true
 | byt i=>
  obtain ⟨t,rfl⟩:=rx
  cases y with
  | byt j=>obtain ⟨t',rfl⟩:=ry; exact PySem.W.ne_bytes (xE I q (congrArg not Tb))
  | _=>exact absurd (show false=true from hs) Bool.false_ne_true
 | _=>cases y<;>exact absurd (show false=true from hs) Bool.false_ne_true
theorem qe:yU X (compareOp .Lt) (ut fun i j=>.bl (decide (i<j))):=W_ fun _ _ _ _ _ _ _ q=>lt_int q
theorem DC:yU X (compareOp .LtE) (ut fun i j=>.bl (decide (i<=j))):=W_ fun _ _ _ _ _ _ _ q=>le_int q
theorem qd:yU X (compareOp .Gt) (ut fun i j=>.bl (decide (j<i))):=W_ fun _ _ _ _ _ _ _ q=>gt_int q
theorem DB:yU X (compareOp .In) (fun x y H Q=>∃ i j,x=.str i/\y=.str j/\Q (.bl (!(Builtin.Str.occurrences j i 0 j.length 1).isEmpty)) H):=by
 intro pins s σ H x y v u Q I rx ry h
 obtain ⟨i,j,rfl,rfl,q⟩:=h
 obtain ⟨t,rfl⟩:=rx
 obtain ⟨t',rfl⟩:=ry
 exact in_str (xE I q rfl)
theorem V0:yU X (compareOp .Is) (fun x y H Q=>y=.non/\Q (.bl (decide (x=.non))) H):=by
 intro pins s σ H x y v u Q I rx ry h
 obtain ⟨rfl,q⟩:=h
 cases ry
 refine is_none_gen (xE I q ?_)
 cases x<;>first
  | (cases rx; rfl)
  | (obtain ⟨t,rfl⟩:=rx; rfl)
theorem Qw:yU X (compareOp .IsNot) (fun x y H Q=>y=.non/\Q (.bl (!decide (x=.non))) H):=by
 intro pins s σ H x y v u Q I rx ry h
 obtain ⟨rfl,q⟩:=h
 cases ry
 refine isnot_none_gen (xE I q ?_)
 cases x<;>first
  | (cases rx; rfl)
  | (obtain ⟨t,rfl⟩:=rx; rfl)
theorem yU.or {f:Value->Value->Sem Value} {r r':R2} (h:yU X f r) (h':yU X f r'):yU X f (fun x y H Q=>r x y H Q\/r' x y H Q):=by
 intro pins s σ H x y v u Q I rx ry q
 rcases q with q | q
 ·exact h pins s σ H x y v u Q I rx ry q
 ·exact h' pins s σ H x y v u Q I rx ry q
theorem zj (b:Expr) {op:CmpOp} (h:op≠.In:=by decide) (h2:op≠.NotIn:=by decide):behindInMarks op b=false:=by
 have e1:(op == CmpOp.In)=false:=by cases op<;>first | rfl | exact absurd rfl h
 have e2:(op == CmpOp.NotIn)=false:=by cases op<;>first | rfl | exact absurd rfl h2
 cases b<;>simp [behindInMarks,e1,e2]
theorem Db {op:CmpOp} {r:R2} (ho:yU X (compareOp op) r) (ha:PE X a ta) (hb:PE X b tb) (hm:behindInMarks op b=false):PE X (.Compare a [op] [b] pos) (kN r ta tb):=by
 intro pins s σ H Q I h
 exact wpAny_Compare1 (Xo ha hb I h fun v u s2 x y H2 I2 rx ry q=>ho pins s2 σ H2 x y v u Q I2 rx ry q) hm
noncomputable def Ea (t:TE):TT:=fun σ H Q=>t σ H fun x H'=>∃ k,x=.bl k/\Q k H'
theorem JD {op:CmpOp} {r:R2} (ho:yU X (compareOp op) r) (ha:PE X a ta) (hb:PE X b tb) (hm:behindInMarks op b=false):PT X (.Compare a [op] [b] pos) (Ea (kN r ta tb)):=by
 intro pins s σ H Q I h
 refine wpAny_isTrue_Compare1 (zh (ha pins s σ H _ I h) fun v s1 ⟨x,H1,I1,r1,q1⟩=>zh (hb pins s1 σ H1 _ I1 q1) fun u s2 ⟨y,H2,I2,r2,q2⟩=>
  zh (ho pins s2 σ H2 x y v u _ I2 r1 r2 q2) fun c s3 ⟨z,H3,I3,r3,k,e,q3⟩=>?_) hm
 subst e
 cases r3
 exact wpAny_truthy_bool ⟨H3,I3,q3⟩
theorem pI:(sizeLine:Nat)<2 ^ 63:=by rw [sizeLine_eq]; decide
theorem D3:yU X (binaryOp .Add) (fun x y H Q=>∃ i j,x=.str i/\y=.str j/\i.length+j.length<=sizeLine/\Q (.str (i++j)) H):=by
 intro pins s σ H x y v u Q I rx ry h
 obtain ⟨i,j,rfl,rfl,hz,q⟩:=h
 obtain ⟨t,rfl⟩:=rx
 obtain ⟨t',rfl⟩:=ry
 exact add_str (fun t' tk=>⟨.str (i++j),H,I.tok _,⟨_,rfl⟩,q⟩) hz
theorem wr {x:V} {us:List Value} (r:zf [x] us):∃ u,us=[u]/\zm x u:=by
 cases r with
 | cons r1 r2=>cases r2; exact ⟨_,rfl,r1⟩
theorem YT {x y:V} {us:List Value} (r:zf [x,y] us):∃ u w',us=[u,w']/\zm x u/\zm y w':=by
 cases r with
 | cons r1 r2=>
  cases r2 with
  | cons r3 r4=>cases r4; exact ⟨_,_,rfl,r1,r3⟩
theorem OV:xr X (.type "int") (fun xs H Q=>(∃ i,xs=[.int i]/\Q (.int i) H)\/∃ k,xs=[.bl k]/\Q (.int (if k then 1 else 0)) H):=by
 intro pins s σ H xs us Q I r h
 rcases h with ⟨i,rfl,q⟩ | ⟨k,rfl,q⟩
 ·obtain ⟨u,rfl,t,rfl⟩:=wr r
  exact call_int_int ⟨.int i,H,I,⟨_,rfl⟩,q⟩
 ·obtain ⟨u,rfl,r1⟩:=wr r
  cases r1
  exact call_int_bool ⟨.int (if k then 1 else 0),H,I.tok _,⟨_,rfl⟩,q⟩
theorem Oa:xr X (.type "str") (fun xs H Q=>∃ i,xs=[.int i]/\i.natAbs.log2<1920/\Q (.str (toString i)) H):=by
 intro pins s σ H xs us Q I r h
 obtain ⟨i,rfl,hz,q⟩:=h
 obtain ⟨u,rfl,t,rfl⟩:=wr r
 exact PySem.P.str_of_int hz ⟨.str _,H,I.tok _,⟨_,rfl⟩,q⟩
end
end L2
namespace L2
open PySem PySem.Spec PyProof.Rows
structure XN (h:Heap) (x dx C:Addr) (mA:Str->Option Value):Prop where
 obj:h.get? x=some (PySem.W.instObj C dx)
 ns:h.Ns1 dx mA
 ne:dx≠x
theorem Mo {h:Heap} {dx:Addr} {mA:Str->Option Value} (n:h.Ns1 dx mA):∃ od,h.get? dx=some od/\∀ name,PySem.W.lookIn name od=some (mA name):=by
 obtain ⟨o,es,ep,ho,hd,hk,_,hm⟩:=n
 refine ⟨o,ho,fun name=>?_⟩
 have e:=hm name
 unfold nsFind findBy at e
 rw [<- Array.find?_toList] at e
 unfold PySem.W.lookIn
 rw [hd]
 dsimp only
 split
 ·rename_i y q
  rw [q] at e
  exact congrArg some e
 ·rename_i q
  rw [q] at e
  have a:es.toList.any (·.refKey)=false:=by
   rw [List.any_eq_false]
   intro y hy
   obtain ⟨z,t,hkey⟩:=hk y (Array.mem_toList_iff.mp hy)
   simp [DictEntry.refKey,hkey]
  have a':¬ es.toList.any (·.refKey)=true:=by rw [a]; exact Bool.false_ne_true
  rw [if_neg a']
  exact congrArg some e
theorem XN.look {h:Heap} {x dx C:Addr} {mA:Str->Option Value} (I:XN h x dx C mA):∃ od,PySem.W.InstAt h x (PySem.W.instObj C dx) C (some od)/\∀ name,PySem.W.lookIn name od=some (mA name):=
 let ⟨od,ho,hl⟩:=Mo I.ns
 ⟨od,⟨I.obj,rfl,rfl,ho⟩,hl⟩
theorem uO.some_of {v:V} {o:Option Value} (r:uO (some v) o):∃ u,o=some u/\zm v u:=by
 cases o with
 | none=>exact (show False from r).elim
 | some u=>exact ⟨u,rfl,r⟩
section
variable {P:Program} {w:World} {H H':Hp} {h h':Heap} {a C dx:Addr} {fs fs':List (Str×V)}
theorem M5 (hok:yo P w H h) (e:H a=some (.ins C dx fs)):∃ mA,XN h a dx C mA/\(∀ f,uO (fs.lookup f) (mA f))/\PySem.Within mA (fs.map (·.1))/\fs.length<=1000/\H dx=some (.own a):=by
 obtain ⟨d,z,ne,ob,mA,n,r,q⟩:=(show yr P w H h a (.ins C dx fs) from hok a _ e)
 exact ⟨mA,⟨ob,n,ne⟩,r,q,z,d⟩
end
structure Cls (K:PySem.W.Frag) (C:Addr):Prop where
 pg:PySem.W.plainGet K C Str.empty=true
 hd:PySem.W.hasDictIn K C=true
 po:PySem.W.plainOver K C=true
 sa:PySem.W.findIn K (.ref C) "__setattr__" = some (some (.builtin "object.__setattr__"))
theorem Cls.get {K:PySem.W.Frag} {C:Addr} (c:Cls K C) (f:Str):PySem.W.plainGet K C f=true:=c.pg
section
variable {X:Cx} {pins:List (Addr×Obj)} {σ:St} {H:Hp} {s:Shared} {A:Around} {E:Value->Shared->Prop} {Q:Value->Shared->Prop} {c:Value} {b:Bool}
inductive u1 (K:PySem.W.Frag) (H:Hp):V->Value->Prop where
 | non:u1 K H .non (.type "NoneType")
 | bl (x:Bool):u1 K H (.bl x) (.type "bool")
 | int (i:Int):u1 K H (.int i) (.type "int")
 | str (x:Str):u1 K H (.str x) (.type "str")
 | flt (x:UInt64):u1 K H (.flt x) (.type "float")
 | lst {a:Addr} {xs:List V} (e:H a=some (.lst xs)):u1 K H (.ref a) (.type "list")
 | frz {a:Addr} {o:Obj} {xs:List V} (e:H a=some (.frz o (.lst xs))):u1 K H (.ref a) (.type "list")
 | tup {a:Addr} {xs:List V} (e:H a=some (.tup xs)):u1 K H (.ref a) (.type "tuple")
 | dK {a:Addr} {kvs:List (zY×V)} (e:H a=some (.dK kvs)):u1 K H (.ref a) (.type "dict")
 | dT {a:Addr} {kvs:List (List zY×V)} (e:H a=some (.dT kvs)):u1 K H (.ref a) (.type "dict")
 | ins {a C dx:Addr} {fs:List (Str×V)} (e:H a=some (.ins C dx fs)) (cl:Cls K C) (ha:PySem.W.findIn K (.ref C) "__class__" = some (some (.builtin "object.__class__")))
   (hn:PySem.W.specialIn K (.builtin "object.__class__") "__get__" = some (some (.builtin "getset_descriptor.__get__"))) (htk:PySem.W.takesIn K (.builtin "object.__class__")=some true)
   (hm:PySem.W.mroIn K C (.type "object")=some true):u1 K H (.ref a) (.ref C)
theorem Zb {x:V} {u t:Value} (I:zC X pins σ H s) (rx:zm x u) (ty:u1 X.K H x t) (e:PySem.W.kitOne X.K t c=some b) (h:∀ tk,Q (.bool b) { s with toks:=tk }) :
  wpAny (model X.prog X.w) A (call (.builtin "isinstance") [u,c]) Q E s:=by
 cases ty with
 | non=>cases (show u=Value.none from rx); exact PySem.W.kia_one PySem.W.kitx_none I.kIn True.intro e (fun z=>nomatch z) h
 | bl y=>cases (show u=Value.bool y from rx); exact PySem.W.kia_one PySem.W.kitx_bool I.kIn True.intro e (fun z=>nomatch z) h
 | int i=>obtain ⟨t,q⟩:=(show ∃ t,u=Value.int i t from rx); cases q; exact PySem.W.kia_one PySem.W.kitx_int I.kIn True.intro e (fun z=>nomatch z) h
 | str y=>obtain ⟨t,q⟩:=(show ∃ t,u=Value.str y t from rx); cases q; exact PySem.W.kia_one PySem.W.kitx_str I.kIn True.intro e (fun z=>nomatch z) h
 | flt y=>obtain ⟨t,q⟩:=(show ∃ t,u=Value.float y t from rx); cases q; exact PySem.W.kia_one PySem.W.kitx_float I.kIn True.intro e (fun z=>nomatch z) h
 | @lst a xs ea=>
  cases (show u=Value.ref a from rx)
  obtain ⟨_,_,n,_,h1⟩:=(show yr X.prog X.w H s.heap a (.lst xs) from I.hok a _ ea)
  exact PySem.W.kia_one PySem.W.kitx_list I.kIn ⟨_,h1,rfl⟩ e (fun z=>nomatch z) h
 | @frz a ob xs ea=>
  cases (show u=Value.ref a from rx)
  obtain ⟨_,_,_,n,_,h1⟩:=(show yr X.prog X.w H s.heap a (.frz ob (.lst xs)) from I.hok a _ ea)
  exact PySem.W.kia_one PySem.W.kitx_list I.kIn ⟨_,h1,rfl⟩ e (fun z=>nomatch z) h
 | @tup a xs ea=>
  cases (show u=Value.ref a from rx)
  obtain ⟨_,_,_,p⟩:=(show yr X.prog X.w H s.heap a (.tup xs) from I.hok a _ ea)
  obtain ⟨o,h1,h2,_⟩:=p
  exact PySem.W.kia_one PySem.W.kitx_tuple I.kIn ⟨o,h1,h2⟩ e (fun z=>nomatch z) h
 | @dK a kvs ea=>
  cases (show u=Value.ref a from rx)
  obtain ⟨_,_,vs,_,p⟩:=(show yr X.prog X.w H s.heap a (.dK kvs) from I.hok a _ ea)
  obtain ⟨o,es,ep,h1,h2,_⟩:=p
  exact PySem.W.kia_one PySem.W.kitx_dict I.kIn ⟨o,h1,h2.1⟩ e (fun z=>nomatch z) h
 | @dT a kvs ea=>
  cases (show u=Value.ref a from rx)
  obtain ⟨_,_,xs,_,o,es,ep,h1,h2,_⟩:=(show yr X.prog X.w H s.heap a (.dT kvs) from I.hok a _ ea)
  exact PySem.W.kia_one PySem.W.kitx_dict I.kIn ⟨o,h1,h2.1⟩ e (fun z=>nomatch z) h
 | @ins a C dx fs ea cl ha hn htk hm=>
  cases (show u=Value.ref a from rx)
  obtain ⟨mA,O,_⟩:=M5 I.hok ea
  obtain ⟨od,J,_⟩:=O.look
  exact PySem.W.kia_one (PySem.W.kitx_own (cl.get _) cl.hd ha hn htk hm) I.kIn J e (fun z=>nomatch z) h
end
end L2
namespace L2
open PySem PySem.Spec PyProof.Rows
structure xB (k:Nat) (A:Around):Prop where
 hd:A.handled=none
 dp:A.depth+3*k+5<recursionLimit
 un:A.units+16*k+200<cLine
 gd:A.guards=some []
theorem xB.mono {j k:Nat} {A:Around} (r:xB k A) (h:j<=k):xB j A:=⟨r.hd,by have:=r.dp; omega,by have:=r.un; omega,r.gd⟩
theorem xB.deeper {k:Nat} {A:Around} (r:xB (k+1) A) (env:Env):xB k (A.deeper env):=
 ⟨r.hd,by have:=r.dp; show A.depth+1+3*k+5<_; omega,by have:=r.un; show A.units+3+16*k+200<_; omega,by first | exact r.gd | simp [Around.under,Code.guards,pushGuards,r.gd]⟩
theorem xB.depth {k:Nat} {A:Around} (r:xB k A):A.depth<recursionLimit:=by have:=r.dp; omega
theorem xB.units {k:Nat} {A:Around} (r:xB k A):A.units+64<cLine:=by have:=r.un; omega
noncomputable def UP:TA:=fun _ H Q=>Q [] H
noncomputable def UO (ta:TE) (tr:TA):TA:=fun σ H Q=>ta σ H fun x H1=>tr σ H1 fun xs H2=>Q (x::xs) H2
section
variable {X:Cx} {e:Expr} {es:List Expr} {te:TE} {t:TA} {pos:Pos}
theorem Zv:PA X [] UP:=fun _ _ _ _ H Q I h=>Calls.spliced_nil ⟨[],H,I,.nil,h⟩
theorem DP (ha:PE X e te) (hr:PA X es t) (hs:starEach (e::es) X.env=(false,eval e X.env)::starEach es X.env:=by rfl):PA X (e::es) (UO te t):=by
 intro pos pins s σ H Q I h
 rw [hs]
 show wpAny _ _ (spliced ((false,eval e X.env)::backTo pos (starEach es X.env))) _ _ s
 refine Calls.spliced_cons (zh (ha pins s σ H _ I h) fun u s1 ⟨x,H1,I1,r1,q1⟩=>?_)
 exact zh (hr pos pins s1 σ H1 _ I1 q1) fun us s2 ⟨xs,H2,I2,r2,q2⟩=>⟨x::xs,H2,I2,.cons r1 r2,q2⟩
noncomputable def Ec (t:TA):TE:=fun σ H Q=>t σ H fun xs H1=>xs.length<=sizeLine/\∀ p,H1 p=none->Q (.ref p) (zZ H1 p (.tup xs))
noncomputable def EQ (t:TA):TE:=fun σ H Q=>t σ H fun xs H1=>xs.length<=sizeLine/\∀ p,H1 p=none->Q (.ref p) (zZ H1 p (.lst xs))
theorem Dn {x1} (h:PA X es t):PE X (.Tuple es x1 pos) (Ec t):=by
 intro pins s σ H Q I hq
 refine wpAny_Tuple_spliced (zh (h pos pins s σ H _ I hq) fun us s1 ⟨xs,H1,I1,r,z,q⟩=>⟨by rw [<- r.length]; exact z,?_⟩)
 have hf:H1 s1.heap.objs.size=none:=I1.hok.fresh (Nat.le_refl _)
 refine ⟨.ref s1.heap.objs.size,zZ H1 s1.heap.objs.size (.tup xs),I1.laid (t':=s1.toks) (fun b u e=>Heap.get?_push_of_some _ e) (Nat.le_refl _) ?_,rfl,q _ hf⟩
 exact ⟨z,us,r,⟨_,Heap.get?_push_size _ rfl,rfl,_,rfl⟩⟩
theorem Dh (h:PA X es t):PE X (.List es pos) (EQ t):=by
 intro pins s σ H Q I hq
 refine wpAny_List_spliced (zh (h pos pins s σ H _ I hq) fun us s1 ⟨xs,H1,I1,r,z,q⟩=>⟨by rw [<- r.length]; exact z,?_⟩)
 have hf:H1 s1.heap.objs.size=none:=I1.hok.fresh (Nat.le_refl _)
 refine ⟨.ref s1.heap.objs.size,zZ H1 s1.heap.objs.size (.lst xs),I1.laid (t':=s1.toks) (fun b u e=>Heap.get?_push_of_some _ e) (Nat.le_refl _) ?_,rfl,q _ hf⟩
 exact ⟨z,us,0,r,Heap.get?_push_size _ rfl⟩
end
noncomputable abbrev Sp:=List V->Hp->VK->XK->Prop
noncomputable abbrev t5:=List Env->Hp->Shared->XK->Value->Shared->Prop
structure qA (P:Program) (w:World) (K:PySem.W.Frag) (mg:Str->Option Value) (base:Heap) (A:Around) (outer:List Env) (s:Shared) (H:Hp):Prop where
 frames:A.frames=some outer
 mod:Mod K mg base
 bs:∀ b o,base.get? b=some o->s.heap.get? b=some o/\H b=none
 bsz:base.objs.size<=s.heap.objs.size
 funs:s.heap.FunFrames base outer
 frf:∀ b∈yz outer,H b=none
 hok:yo P w H s.heap
 bare:AllBare s.gens
noncomputable def CE (outer:List Env) (P:Program) (w:World) (H:Hp) (s:Shared) (Q:VK) (u:Value) (s':Shared):Prop:=
 ∃ v H',s'.os=s.os/\AllBare s'.gens/\Un (yz outer) [] H H' s.heap s'.heap/\yo P w H' s'.heap/\zm v u/\Q v H'
noncomputable def CR (CX:t5) (outer:List Env) (P:Program) (w:World) (H:Hp) (s:Shared) (Q:VK) (E:XK) (r:Result) (s':Shared):Prop:=
 match r with
 | .ok (.ret u)=>CE outer P w H s Q u s'
 | .ok _=>False
 | .error e=>CX outer H s E e s'
structure ve (P:Program) (w:World) (K:PySem.W.Frag) (mg:Str->Option Value) (base:Heap) (CX:t5) (k:Nat) (f:Addr) (fd:FuncData) (ps:List Str) (sp:Sp):Prop where
 len:∀ vs H Q E,sp vs H Q E->vs.length=ps.length
 run:∀ (A:Around) (outer:List Env) (s:Shared) (H:Hp) (args:Args) (us:List Value) (vs:List V) (Q:VK) (E:XK),xB k A->qA P w K mg base A outer s H->BindsTo s fd args (ps.zip us)->zf vs us->sp vs H Q E->
  codeAny (model P w) A (.call (.ref f) args) (CR CX outer P w H s Q E) s
section
variable {X:Cx} {pins:List (Addr×Obj)} {σ:St} {H:Hp} {s s':Shared}
theorem zC.env0 (I:zC X pins σ H s):qA X.prog X.w X.K X.mg X.base X.A X.stack s H:=
 ⟨I.ok.frames,I.ok.mod,I.bs,Nat.le_trans I.ok.bsz I.sz,I.stack,I.stkFree,I.hok,I.bare⟩
theorem zC.after {Q:VK} {u:Value} (I:zC X pins σ H s) (h:CE X.stack X.prog X.w H s Q u s'):EP X pins σ Q u s':=by
 obtain ⟨v,H',os,bare,un,hok,r,q⟩:=h
 obtain ⟨hh,g,d,t,os'⟩:=s'
 obtain rfl:os'=s.os:=os
 exact ⟨v,H',I.call (h':=hh) (g':=g) (d':=d) (t':=t) (ch:=[]) un hok bare (fun b z=>absurd z (by simp)),r,q⟩
end
noncomputable def YL (sp:Sp) (dvs:List V) (E:XK) (t:TA):TE:=fun σ H Q=>t σ H fun vs H1=>sp (vs++dvs) H1 Q E
noncomputable def ud (K:PySem.W.Frag) (fd:FuncData) (ps:List Str) (ds:List Value):Prop:=
 ∀ (s:Shared) (us:List Value),K.In s.heap->(us++ds).length=ps.length->BindsTo s fd ⟨us,[]⟩ (ps.zip (us++ds))
theorem ud.all {K:PySem.W.Frag} {fd:FuncData} {ps:List Str} (h:∀ us:List Value,us.length=ps.length->bindArgs fd ⟨us,[]⟩=pure (ps.zip us)):ud K fd ps []:=fun s us _ hl=>by
 rw [List.append_nil] at hl ⊢
 exact .of_eq (h us hl)
noncomputable def km (CX:t5) (X:Cx) (E:XK):Prop:=∀ (pins:List (Addr×Obj)) (σ:St) (H:Hp) (s:Shared) (e:Value) (s':Shared),zC X pins σ H s->CX X.stack H s E e s'->X.xe e s'
section
variable {X:Cx} {CX:t5} {k:Nat} {f C:Addr} {fd:FuncData} {ps:List Str} {sp:Sp} {dvs:List V} {ds:List Value} {E:XK} {x m:Str} {p pos apos:Pos} {e o:Expr} {es:List Expr} {ta:TE} {t:TA}
theorem Jm {pins:List (Addr×Obj)} {σ:St} {H:Hp} {s:Shared} {Q:VK} {us:List Value} {vs:List V} (F:ve X.prog X.w X.K X.mg X.base CX k f fd ps sp) (hr:xB k X.A) (hb:ud X.K fd ps ds) (hd:zf dvs ds) (hx:km CX X E)
  (I:zC X pins σ H s) (r:zf vs us) (h:sp (vs++dvs) H Q E):wpAny (model X.prog X.w) X.A (call (.ref f) us) (EP X pins σ Q) X.xe s:=by
 have r2:zf (vs++dvs) (us++ds):=r.append hd
 have hl:(us++ds).length=ps.length:=by rw [<- r2.length]; exact F.len _ _ _ _ h
 refine wpAny_call (codeAny_mono (F.run X.A X.stack s H ⟨us,[]⟩ (us++ds) (vs++dvs) Q E hr I.env0 (hb s us I.kIn hl) r2 h) fun r s' hq=>?_)
 cases r with
 | error e=>exact hx pins σ H s e s' I hq
 | ok fl=>
  cases fl with
  | ret u=>exact I.after hq
  | next=>exact False.elim hq
  | brk=>exact False.elim hq
  | cont=>exact False.elim hq
theorem DX (F:ve X.prog X.w X.K X.mg X.base CX k f fd ps sp) (hr:xB k X.A) (hg:Gl X x) (hm:X.mg x=some (.ref f)) (hk:PySem.W.keepIn X.K (.ref f)=true) (hb:ud X.K fd ps ds) (hd:zf dvs ds) (hx:km CX X E)
  (ha:PA X (e::es) t) (hdb:(x == ("__debug__" : Str))=false:=by decide) (he:starEach (e::es) X.env=(false,eval e X.env)::starEach es X.env:=by rfl) (hpl:(backTo pos (starEach es X.env)).any (·.1)=false:=by rfl) :
  PE X (.Call (.Name x p) (e::es) [] pos) (YL sp dvs E t):=by
 intro pins s σ H Q I h
 refine wpAny_Call_Name_kw (pH I hg hm ?_ hdb)
 refine PySem.W.callWith_K (h₀:=X.base) I.ok.mod.kin hk (zh (ha pos pins s σ H _ I h) fun us s1 ⟨vs,H1,I1,r,q⟩=>⟨I1.kIn,?_⟩) he hpl
 exact Jm F hr hb hd hx I1 r q
theorem DY (F:ve X.prog X.w X.K X.mg X.base CX k f fd ps sp) (hr:xB k X.A) (hg:Gl X x) (hm:X.mg x=some (.ref f)) (hk:PySem.W.keepIn X.K (.ref f)=true) (hb:ud X.K fd ps ds) (hd:zf dvs ds) (hx:km CX X E)
  (hdb:(x == ("__debug__" : Str))=false:=by decide):PE X (.Call (.Name x p) [] [] pos) (YL sp dvs E UP):=by
 intro pins s σ H Q I h
 refine wpAny_Call_Name_kw (pH I hg hm ?_ hdb)
 exact PySem.W.callWith_K0 I.kIn hk (Jm (us:=[]) F hr hb hd hx I .nil h)
end
structure yQ (N P:List Str) (sc:Scope):Prop where
 kind:sc.kind=.function
 co:sc.isCoroutine=false
 gen:sc.isGenerator=false
 nd:N.Nodup
 pre:N.take P.length=P
 par:∀ x∈P,sc.names.lookup x=some .local\/sc.names.lookup x=some .cell
 nofree:∀ y∈sc.names,y.2≠.free
theorem U_ {kindOf:Str->Option NameKind} {x:Str}:∀ {binds:List (Str×Value)} {m:Str->Option Value},(∀ v,(x,v) ∉ binds)->bindL kindOf binds m x=m x
 | [],_,_=>rfl
 | (n,v)::r,m,h=>by
  unfold bindL
  rw [U_ fun w hw=>h w (List.mem_cons_of_mem _ hw)]
  split
  ·have:x≠n:=by rintro rfl; exact h v List.mem_cons_self
   simp [this]
  ·rfl
theorem Uy {kindOf:Str->Option NameKind} {x:Str}:∀ {binds:List (Str×Value)} {m:Str->Option Value},(∀ v,(x,v) ∉ binds)->bindC kindOf binds m x=m x
 | [],_,_=>rfl
 | (n,v)::r,m,h=>by
  unfold bindC
  rw [Uy fun w hw=>h w (List.mem_cons_of_mem _ hw)]
  split
  ·rfl
  ·have:x≠n:=by rintro rfl; exact h v List.mem_cons_self
   simp [this]
theorem Uz {kindOf:Str->Option NameKind} {x:Str} {v:Value}:∀ {P:List Str} {vs:List Value} {i:Nat} {m:Str->Option Value},P.Nodup->P[i]?=some x->vs[i]?=some v->kindOf x=some .local->
  bindL kindOf (P.zip vs) m x=some v
 | [],_,_,_,_,h,_,_=>by simp at h
 | _::_,[],_,_,_,_,h,_=>by simp at h
 | p::P,w::vs,0,m,nd,h1,h2,hk=>by
  simp at h1 h2; subst h1; subst h2
  show bindL kindOf ((p,w)::P.zip vs) m p=_
  unfold bindL
  rw [U_ fun v hv=>(List.nodup_cons.mp nd).1 (List.of_mem_zip hv).1,if_pos hk]
  simp
 | p::P,w::vs,i+1,m,nd,h1,h2,hk=>by
  show bindL kindOf ((p,w)::P.zip vs) m x=_
  unfold bindL
  exact Uz (i:=i) (List.nodup_cons.mp nd).2 (by simpa using h1) (by simpa using h2) hk
theorem Ux {kindOf:Str->Option NameKind} {x:Str} {v:Value}:∀ {P:List Str} {vs:List Value} {i:Nat} {m:Str->Option Value},P.Nodup->P[i]?=some x->vs[i]?=some v->kindOf x≠some .local->
  bindC kindOf (P.zip vs) m x=some v
 | [],_,_,_,_,h,_,_=>by simp at h
 | _::_,[],_,_,_,_,h,_=>by simp at h
 | p::P,w::vs,0,m,nd,h1,h2,hk=>by
  simp at h1 h2; subst h1; subst h2
  show bindC kindOf ((p,w)::P.zip vs) m p=_
  unfold bindC
  rw [Uy fun v hv=>(List.nodup_cons.mp nd).1 (List.of_mem_zip hv).1,if_neg hk]
  simp
 | p::P,w::vs,i+1,m,nd,h1,h2,hk=>by
  show bindC kindOf ((p,w)::P.zip vs) m x=_
  unfold bindC
  exact Ux (i:=i) (List.nodup_cons.mp nd).2 (by simpa using h1) (by simpa using h2) hk
noncomputable def start (N:List Str) (vs:List V):St:=vs.map some++List.replicate (N.length - vs.length) none
noncomputable def vk (CX:t5) (P:Program) (w:World) (K:PySem.W.Frag) (mg:Str->Option Value) (base:Heap) (N:List Str) (qual:Str) (scope:Scope) (f:Addr) (cd:Value) (A:Around) (outer:List Env) (s:Shared) (H:Hp) (E:XK):Cx where
 prog:=P
 w:=w
 K:=K
 mg:=mg
 base:=base
 A:=A.deeper (envOfC qual scope s.heap.objs.size f cd)
 N:=N
 s₀:=s
 H₀:=H
 env:=envOfC qual scope s.heap.objs.size f cd
 outer:=outer
 stack:=envOfC qual scope s.heap.objs.size f cd::outer
 ex:=[]
 calm:=true
 fn:=fun _=>true
 pn:=[]
 xe:=fun e s'=>wpAny (model P w) (A.deeper (envOfC qual scope s.heap.objs.size f cd)) (leaving (envOfC qual scope s.heap.objs.size f cd) e) (fun _ s''=>CX outer H s E e s'') (fun e' s''=>CX outer H s E e' s'') s'
theorem TK {sc:Scope} {n:Nat} {x:Str} (h:sc.names.lookup x=some .cell):∃ c,(cellsFrom n sc.names []).lookup x=some c:=by
 have q:=PySem.W.cellsFrom_some sc.names n [] (.inl h)
 exact Option.isSome_iff_exists.mp q
theorem QD {CX:t5} {P:Program} {w:World} {K:PySem.W.Frag} {mg:Str->Option Value} {base:Heap} {N ps:List Str} {qual:Str} {scope:Scope} {f:Addr} {cd:Value} {A:Around} {outer:List Env} {s s1:Shared} {H:Hp} {E:XK} {us:List Value} {vs:List V}
  (S:yQ N ps scope) (hd:A.handled=none) (e0:qA P w K mg base A outer s H) (hl:vs.length=ps.length) (r:zf vs us)
  (x:InCallC s s.heap.objs.size (bindL (envOfC qual scope s.heap.objs.size f cd).kindOf (ps.zip us) fun _=>none) (cellsFrom (s.heap.objs.size+1) scope.names []) (bindC (envOfC qual scope s.heap.objs.size f cd).kindOf (ps.zip us) fun _=>none) s1) :
  zC (vk CX P w K mg base N qual scope f cd A outer s H E) [] (start N vs) H s1:=by
 have hpl:ps.length<=N.length:=by have:=congrArg List.length S.pre; rw [List.length_take] at this; omega
 obtain ⟨h1,tk,rfl,hk⟩:=x.done
 have noA:∀ b:Addr,b ∉ (vk CX P w K mg base N qual scope f cd A outer s H E).ex:=fun b z=>absurd (show b∈([]:List Addr) from z) (by simp)
 refine ⟨⟨e0.mod,S.kind,rfl,rfl,Nat.le_refl _,fun y z c h1 h2=>?_,fun y hy=>?_,fun y c _ h=>?_,fun _=>hd,Around.frames_deeper e0.frames,.inr ⟨rfl,rfl⟩,fun b z=>absurd z (noA b),e0.bs,e0.bsz,fun b _ _=>noA b,fun b z=>absurd z (noA b),e0.funs,e0.frf⟩,
  rfl,e0.bare,Un.kept hk,⟨_,x.toInCall.ns,fun i y v h1 h2 h3=>?_⟩,fun y c h=>⟨_,x.cell y c h⟩,e0.hok.fresh (Nat.le_refl _),fun y c h=>?_,fun p hp=>absurd (show p∈([]:List (Addr×Obj)) from hp) (by simp),e0.hok.kept hk,?_⟩
 ·exact name_of_addr x.apart (PySem.mem_of_lookup h1) (PySem.mem_of_lookup h2)
 ·have hy:scope.names.lookup y=some .cell\/scope.names.lookup y=some .free:=hy
  rcases hy with hy | hy
  ·exact TK hy
  ·exact absurd rfl (S.nofree _ (PySem.mem_of_lookup hy))
 ·exact Nat.le_of_lt (x.above y c (PySem.mem_of_lookup h))
 ·have hi:i<vs.length:=by
   unfold start at h2
   by_cases hi:i<vs.length
   ·exact hi
   ·rw [List.getElem?_append_right (by simpa using hi)] at h2
    rw [List.getElem?_replicate] at h2
    split at h2<;>cases h2
  have ha:vs[i]?=some v:=by
   unfold start at h2
   rw [List.getElem?_append_left (by simpa using hi),List.getElem?_map] at h2
   cases e:vs[i]? with
   | none=>rw [e] at h2; cases h2
   | some a=>rw [e] at h2; cases h2; rfl
  obtain ⟨u,hu,rv⟩:=r.get ha
  have hp:ps[i]?=some y:=by
   rw [<- S.pre,List.getElem?_take_of_lt (by omega)]; exact h1
  have ndP:ps.Nodup:=by rw [<- S.pre]; exact S.nd.sublist (List.take_sublist _ _)
  refine ⟨u,rv,?_⟩
  rcases S.par y (List.mem_of_getElem? hp) with k | k
  ·exact .inl ⟨k,Uz ndP hp hu k⟩
  ·obtain ⟨c,e⟩:=TK (n:=s.heap.objs.size+1) k
   refine .inr ⟨.inl k,c,e,?_⟩
   have q:=x.cell y c e
   rw [Ux ndP hp hu (by show scope.names.lookup y≠_; rw [k]; decide)] at q
   exact q
 ·exact e0.hok.fresh (Nat.le_of_lt (x.above y c (PySem.mem_of_lookup h)))
 ·unfold start
  show _=N.length
  rw [List.length_append,List.length_map,List.length_replicate]
  omega
theorem Tx {CX:t5} {P:Program} {w:World} {K:PySem.W.Frag} {mg:Str->Option Value} {base:Heap} {k:Nat} {f:Addr} {name qual:Str} {params:Arguments} {body:List Stmt} {scope:Scope} {dV kV doc pm cdv ct oc:Value} {an od:Option Addr}
  {osl:Array (Option Value)} {N ps:List Str} {sp:Sp} (lk:K.lookup f=some ⟨oc,od,.func (PySem.W.fnOf name qual params body scope dV kV doc pm an cdv ct),osl⟩) (hcd:PySem.W.codeIn K cdv qual=true) (S:yQ N ps scope)
  (len:∀ vs H Q E,sp vs H Q E->vs.length=ps.length)
  (hbody:∀ (A:Around) (outer:List Env) (s:Shared) (H:Hp) (vs:List V) (Q:VK) (E:XK),xB k (A.deeper (envOfC qual scope s.heap.objs.size f cdv))->sp vs H Q E->
   ∃ t,wZ (vk CX P w K mg base N qual scope f cdv A outer s H E) body t/\t { nx:=fun _ H'=>Q .non H',rt:=Q } (start N vs) H) :
  ve P w K mg base CX (k+1) f (PySem.W.fnOf name qual params body scope dV kV doc pm an cdv ct) ps sp:=by
 refine ⟨len,fun A outer s H args us vs Q E hr e0 hb r hsp=>?_⟩
 have hl:=len _ _ _ _ hsp
 have KX:K.In s.heap:=e0.mod.kin.keeps fun b o e=>(e0.bs b o e).1
 have lim:s.heap.NoLimit:=e0.mod.nolimit.keeps fun b o e=>(e0.bs b o e).1
 have hkind:∀ y∈ps.zip us,scope.names.lookup y.1=some .local\/(scope.names.lookup y.1=some .cell/\((cellsFrom (s.heap.objs.size+1) scope.names []).lookup y.1).isSome=true):=fun ⟨n,v⟩ hy=>by
  rcases S.par n (List.of_mem_zip hy).1 with q | q
  ·exact .inl q
  ·exact .inr ⟨q,PySem.W.cellsFrom_some _ _ _ (.inl q)⟩
 refine codeAny_call_function hr.depth (KX _ _ lk) rfl S.co S.gen rfl (PySem.W.codeRec_of KX hcd) (hb _ _ _ _ ?_)
 refine wpAny_newFunctionEnv_cells S.kind hkind fun env he s1 x=>?_
 subst he
 refine ⟨lim.keeps x.toInCall.keep,codeAny_func ?_⟩
 obtain ⟨t,ht,hq⟩:=hbody A outer s H vs Q E (hr.deeper _) hsp
 have I:zC (vk CX P w K mg base N qual scope f cdv A outer s H E) [] (start N vs) H s1:=QD S hr.hd e0 hl r x
 refine wpAny_mono (ht [] s1 (start N vs) H _ I hq) (fun fl s' hs=>?_) fun e s' hs=>hs
 have fin:∀ {σ':St} {H':Hp} {v:V} {u:Value},zC (vk CX P w K mg base N qual scope f cdv A outer s H E) [] σ' H' s'->zm v u->Q v H'->CE outer P w H s Q u s':=
  fun {σ' H' v u} J rv q=>⟨v,H',J.os,J.bare,J.base,J.hok,rv,q⟩
 cases fl with
 | ret u=>
  obtain ⟨v,σ',H',J,rv,q⟩:=hs
  exact fin J rv q
 | next=>
  obtain ⟨σ',H',J,q⟩:=hs
  exact fin (v:=V.non) (u:=Value.none) J rfl q
 | brk=>
  obtain ⟨_,_,_,q⟩:=hs
  exact False.elim q
 | cont=>
  obtain ⟨_,_,_,q⟩:=hs
  exact False.elim q
end L2
namespace L2
open PySem PySem.Spec PyProof.Rows
section
variable {X:Cx} {x:Str} {p pos:Pos} {e:Expr} {es:List Expr} {t:TA} {id T:String} {r:List V->Hp->VK->Prop}
noncomputable def YK (r:List V->Hp->VK->Prop) (t:TA):TE:=fun σ H Q=>t σ H fun vs H1=>r vs H1 Q
theorem DZ (hc:xr X (.builtin id) r) (hg:Gl X x) (hm:X.mg x=none) (hv:bootBuiltins x=some (.builtin id)) (ha:PA X (e::es) t) (hn:x ≠ "__name__" := by decide) (hdb:(x == ("__debug__" : Str))=false:=by decide)
  (he:starEach (e::es) X.env=(false,eval e X.env)::starEach es X.env:=by rfl) (hpl:(backTo pos (starEach es X.env)).any (·.1)=false:=by rfl):PE X (.Call (.Name x p) (e::es) [] pos) (YK r t):=by
 intro pins s σ H Q I h
 refine wpAny_Call_Name_kw (jR I hg hm hv ?_ hn hdb)
 exact PyProof.Rows.callWith_builtin1 (zh (ha pos pins s σ H _ I h) fun us s1 ⟨vs,H1,I1,r1,q1⟩=>hc pins s1 σ H1 vs us Q I1 r1 q1) he hpl
theorem Da (hc:xr X (.type T) r) (hg:Gl X x) (hm:X.mg x=none) (hv:bootBuiltins x=some (.type T)) (ha:PA X (e::es) t) (hn:x ≠ "__name__" := by decide) (hdb:(x == ("__debug__" : Str))=false:=by decide)
  (he:starEach (e::es) X.env=(false,eval e X.env)::starEach es X.env:=by rfl) (hpl:(backTo pos (starEach es X.env)).any (·.1)=false:=by rfl):PE X (.Call (.Name x p) (e::es) [] pos) (YK r t):=by
 intro pins s σ H Q I h
 refine wpAny_Call_Name_kw (jR I hg hm hv ?_ hn hdb)
 exact PyProof.Rows.callWith_type1 (zh (ha pos pins s σ H _ I h) fun us s1 ⟨vs,H1,I1,r1,q1⟩=>hc pins s1 σ H1 vs us Q I1 r1 q1) he hpl
end
end L2
namespace HT
open PySem PyProof.Rows
section
variable {prog:Program} {w:World} {A:Around} {E:Value->Shared->Prop} {s:Shared}
theorem cat_tup {t b:Addr} {vs ws:List Value} {Q:Value->Shared->Prop} (ht:IsTup s.heap t vs.toArray) (hb:IsTup s.heap b ws.toArray) (hv:vs≠[])
  (h1:ws=[]->Q (.ref t) s) (h2:ws≠[]->Q (.ref s.heap.objs.size) { s with heap:=s.heap.push { cls:=.type "tuple",data:=.seq (vs++ws).toArray } })
  (hsz:vs.length+ws.length<=sizeLine):wpAny (model prog w) A (binaryOp .Add (.ref t) (.ref b)) Q E s:=by
 obtain ⟨⟨cls,dd,data,sl⟩,ho,hc,n,hd⟩:=id ht
 obtain ⟨⟨cls2,dd2,data2,sl2⟩,ho2,hc2,n2,hd2⟩:=id hb
 simp only at hc hd hc2 hd2
 subst hc hd hc2 hd2
 have e:vs.toArray++ws.toArray=(vs++ws).toArray:=by simp
 by_cases hw:ws=[]
 ·exact concat_meets ⟨_,ho,rfl⟩ ⟨_,ho2,rfl⟩ noFill_tuple_add seq_tuple_add PySem.F.slot_tuple_add PySem.F.entry_tuple_add (PySem.F.args_tuple_add_2 _ _)
   (tuple_addW1 t b vs.toArray ws.toArray n n2 dd dd2 sl sl2 (by simpa using hv) (by simp [hw])) ⟨ho,ho2,h1 hw⟩
 ·refine concat_meets ⟨_,ho,rfl⟩ ⟨_,ho2,rfl⟩ noFill_tuple_add seq_tuple_add PySem.F.slot_tuple_add PySem.F.entry_tuple_add (PySem.F.args_tuple_add_2 _ _)
   (tuple_addW2 t b vs.toArray ws.toArray n n2 dd dd2 sl sl2 (by simpa using hv) (by simpa using hw) (by rw [List.size_toArray,List.size_toArray]; exact hsz)) ⟨ho,ho2,?_⟩
  rw [e]
  exact h2 hw
noncomputable def sIx (n d:Nat):Option Int->Nat
 | none=>d
 | some v=>if v<0 then (v+(n:Int)).toNat else min v.toNat n
theorem sIx_nat (n d k:Nat):sIx n d (some (k:Int))=min k n:=by
 show (if (k:Int)<0 then ((k:Int)+(n:Int)).toNat else min (k:Int).toNat n)=min k n
 rw [if_neg (by omega),Int.toNat_natCast]
theorem sIx_le (n d:Nat) (hd:d<=n) (o:Option Int):sIx n d o<=n:=by
 cases o with
 | none=>exact hd
 | some v=>
  show (if v<0 then (v+(n:Int)).toNat else min v.toNat n)<=n
  by_cases hv:v<0
  ·rw [if_pos hv]; omega
  ·rw [if_neg hv]; exact Nat.min_le_right _ _
theorem TL (v:Int) (n d:Nat):(if v<0 then max (v+(n:Int)) 0 else min v (n:Int))=((sIx n d (some v):Nat):Int):=by
 show (if v<0 then max (v+(n:Int)) 0 else min v (n:Int))=(((if v<0 then (v+(n:Int)).toNat else min v.toNat n):Nat):Int)
 by_cases hv:v<0
 ·simp only [if_pos hv]; omega
 ·simp only [if_neg hv]; omega
theorem OH (lo hi:Option Int) (n:Nat):Builtin.Slice.sliceAdjust lo hi 1 (n:Int)=(((sIx n 0 lo:Nat):Int),((sIx n n hi:Nat):Int)):=by
 have h1:¬ ((1:Int)<0):=by omega
 unfold Builtin.Slice.sliceAdjust
 simp only [h1,if_false]
 refine Prod.ext ?_ ?_
 ·cases lo with
  | none=>rfl
  | some v=>exact TL v n 0
 ·cases hi with
  | none=>rfl
  | some v=>exact TL v n n
theorem F5 (i j:Nat):Builtin.Slice.slicePlaces (i:Int) (j:Int) 1=j - i:=by
 unfold Builtin.Slice.slicePlaces
 have h1:(1:Int) > 0:=by omega
 simp only [h1,if_true,Int.ediv_one]
 split<;>omega
theorem IC {v:Value} {o:Option Int} {Q:Option Int->Shared->Prop} (p:IsPart v o) (h:Q o s):wpAny (model prog w) A (Builtin.Slice.slicePartIndex v) Q E s:=by
 cases p with
 | none=>exact slicePart_none h
 | int i t=>exact slicePart_int h
theorem Cy {sl:Addr} {vl vu:Value} {lo hi:Option Int} {n:Nat} {Q:Int×Int×Nat->Shared->Prop} (hs:s.heap.IsSliceOf sl vl vu .none) (pl:IsPart vl lo) (pu:IsPart vu hi)
  (h:Q (((sIx n 0 lo:Nat):Int),1,sIx n n hi - sIx n 0 lo) s):wpAny (model prog w) A (Builtin.Slice.sliceApplied (.ref sl) (pure (n:Int))) Q E s:=by
 obtain ⟨os,hos,hcs,hds⟩:=id hs
 unfold Builtin.Slice.sliceApplied Builtin.Slice.sliceFields
 refine wpAny_bind (wpAny_bind (wpAny_field hos hds (x:=vl) rfl (wpAny_bind (wpAny_field hos hds (x:=vu) rfl (wpAny_bind (wpAny_field hos hds (x:=.none) rfl (wpAny_pure ?_)))))))
 refine wpAny_bind (slicePart_none ?_)
 show wpAny _ _ (if ((1:Int) == 0)=true then _ else _) _ _ s
 rw [if_neg (by decide)]
 refine wpAny_bind (IC pl (wpAny_bind (IC pu (wpAny_bind (wpAny_pure ?_)))))
 show wpAny _ _ (match Builtin.Slice.sliceAdjust lo hi 1 (n:Int) with | (lo,hi)=>pure (lo,(1:Int),Builtin.Slice.slicePlaces lo hi 1)) _ _ s
 rw [OH lo hi n]
 show wpAny _ _ (pure (((sIx n 0 lo:Nat):Int),(1:Int),Builtin.Slice.slicePlaces ((sIx n 0 lo:Nat):Int) ((sIx n n hi:Nat):Int) 1)) _ _ s
 rw [F5]
 exact wpAny_pure h
theorem F4 (xs:Array Value) (i k:Nat):((List.range k).filterMap fun (m:Nat)=>xs[((i:Int)+(m:Int)*1).toNat]?).toArray=((xs.toList.drop i).take k).toArray:=by
 have e:(fun (m:Nat)=>xs[((i:Int)+(m:Int)*1).toNat]?)=fun m=>xs[i+m]?:=by
  funext m
  have:((i:Int)+(m:Int)*1).toNat=i+m:=by omega
  rw [this]
 rw [e]
 have:=pick_run xs i k
 rw [List.filterMap_map] at this
 have e2:((fun x=>xs[x]?) ∘ fun x=>i+x)=fun m=>xs[i+m]?:=rfl
 rw [e2] at this
 rw [this]
theorem getItem_tuple_cut {t sl:Addr} {items:Array Value} {vl vu:Value} {lo hi:Option Int} {Q:Value->Shared->Prop} (ht:IsTup s.heap t items) (hs:s.heap.IsSliceOf sl vl vu .none) (pl:IsPart vl lo) (pu:IsPart vu hi)
  (hw:¬ (sIx items.size 0 lo=0/\sIx items.size items.size hi=items.size))
  (h:Q (.ref s.heap.objs.size) { s with heap:=s.heap.push { cls:=.type "tuple",data:=.seq ((items.toList.drop (sIx items.size 0 lo)).take (sIx items.size items.size hi - sIx items.size 0 lo)).toArray } })
  (hsz:items.size<=sizeLine):wpAny (model prog w) A (getItem (.ref t) (.ref sl)) Q E s:=by
 have htake:sizeOk (.seq ((items.toList.drop (sIx items.size 0 lo)).take (sIx items.size items.size hi - sIx items.size 0 lo)).toArray):=by
  show ((items.toList.drop (sIx items.size 0 lo)).take (sIx items.size items.size hi - sIx items.size 0 lo)).toArray.size<=sizeLine
  rw [List.size_toArray,List.length_take,List.length_drop,Array.length_toList]
  omega
 have hj:sIx items.size items.size hi<=items.size:=sIx_le _ _ (Nat.le_refl _) hi
 obtain ⟨os,hos,hcs,hds⟩:=id hs
 have hTs:s.TypeIs (.ref sl) "slice" := ⟨os,hos,hcs⟩
 unfold getItem
 try with_reducible refine wpAny_holding ?_
 first | refine wpAny_bind (wpAny_pure ?_) | skip
 refine wpAny_bind (wpAny_sequenceKey ht.typeIs (by decide) ?_)
 refine wpAny_bind (wpAny_callSpecial?_slot (name:=Str.ofString "__getitem__") ht.typeIs PyProof.Rows.slot_tuple_getitem
  (wpAny_call_entry PyProof.Rows.slot_tuple_getitem ht.typeIs entry_tuple_getitem ?_ (args_tuple_getitem _ _)))
 show wpAny _ _ (Builtin.Tuple.tupleItemsOf (.ref t) >>= _) _ _ s
 refine wpAny_bind (tupleItemsOf_ ht ?_)
 refine wpAny_bind (wpAny_typeOf hTs ?_)
 rw [if_pos (by decide)]
 refine wpAny_bind (Cy hs pl pu ?_)
 have hno:¬ ((((sIx items.size 0 lo:Nat):Int) == 0&&(1:Int) == 1&&(sIx items.size items.size hi - sIx items.size 0 lo) == items.size)=true):=by
  intro q
  rw [Bool.and_eq_true,Bool.and_eq_true] at q
  have q1:((sIx items.size 0 lo:Nat):Int)=0:=eq_of_beq q.1.1
  have q2:sIx items.size items.size hi - sIx items.size 0 lo=items.size:=eq_of_beq q.2
  exact hw ⟨by omega,by omega⟩
 show wpAny _ _ (if (((sIx items.size 0 lo:Nat):Int) == 0&&(1:Int) == 1&&(sIx items.size items.size hi - sIx items.size 0 lo) == items.size)=true then _ else _) _ _ s
 rw [if_neg hno,F4]
 first
  | exact wpAny_bind (m:=Builtin.Tuple.tupleExact _) (wpAny_newObj_type (wpAny_pure ⟨_,rfl,wpAny_pure h⟩) htake)
  | exact wpAny_bind (m:=Builtin.Tuple.tupleExact _) (wpAny_newObj_type (wpAny_bind (wpAny_pure (wpAny_pure ⟨_,rfl,wpAny_pure h⟩))) htake)
  | exact wpAny_bind (wpAny_bind (m:=Builtin.Tuple.tupleExact _) (wpAny_newObj_type (wpAny_pure (wpAny_pure ⟨_,rfl,wpAny_pure h⟩)) htake))
  | exact wpAny_bind (wpAny_bind (m:=Builtin.Tuple.tupleExact _) (wpAny_newObj_type (wpAny_pure ⟨_,rfl,wpAny_pure h⟩) htake))
end
end HT
namespace L2
open PySem PySem.Spec PyProof.Rows
noncomputable abbrev TO:=St->Hp->(Option Int->Hp->Prop)->Prop
noncomputable def PO (X:Cx) (e:Option Expr) (t:TO):Prop:=
 ∀ (pins:List (Addr×Obj)) (s:Shared) (σ:St) (H:Hp) (Q:Option Int->Hp->Prop),zC X pins σ H s->t σ H Q->
  wpAny (model X.prog X.w) X.A (evalPart e X.env) (fun u s'=>∃ o H',zC X pins σ H' s'/\IsPart u o/\Q o H') X.xe s
noncomputable def IS:TO:=fun _ H Q=>Q none H
noncomputable def IU (t:TE):TO:=fun σ H Q=>t σ H fun x H1=>∃ i,x=.int i/\Q (some i) H1
section
variable {X:Cx} {e:Expr} {te:TE} {lo hi:Option Expr} {tl th:TO} {pos p2:Pos}
theorem F8:PO X none IS:=by
 intro pins s σ H Q I h
 rw [evalPart_none]
 exact wpAny_pure ⟨none,H,I,.none,h⟩
theorem F9 (h:PE X e te):PO X (some e) (IU te):=by
 intro pins s σ H Q I hw
 rw [evalPart_some]
 refine zh (h pins s σ H _ I hw) fun u s1 ⟨x,H1,I1,r1,q1⟩=>?_
 obtain ⟨i,rfl,q⟩:=q1
 obtain ⟨t,rfl⟩:=r1
 exact ⟨some i,H1,I1,.int i t,q⟩
noncomputable def tH (X:Cx) (r:V->Option Int->Option Int->Hp->VK->Prop):Prop:=
 ∀ (pins:List (Addr×Obj)) (s:Shared) (σ:St) (H:Hp) (x:V) (v vl vu:Value) (lo hi:Option Int) (sl:Addr) (Q:VK),zC X pins σ H s->zm x v->s.heap.IsSliceOf sl vl vu .none->IsPart vl lo->IsPart vu hi->r x lo hi H Q->
  ∃ T id,typeLookup (.type T) "__getitem__" = pure (some (.builtin id))/\s.TypeIs v T/\wpAny (model X.prog X.w) X.A (getItem v (.ref sl)) (EP X pins σ Q) X.xe s
theorem tH.or {r r':V->Option Int->Option Int->Hp->VK->Prop} (h:tH X r) (h':tH X r'):tH X (fun x lo hi H Q=>r x lo hi H Q\/r' x lo hi H Q):=by
 intro pins s σ H x v vl vu lo hi sl Q I rx hs pl pu q
 rcases q with q | q
 ·exact h pins s σ H x v vl vu lo hi sl Q I rx hs pl pu q
 ·exact h' pins s σ H x v vl vu lo hi sl Q I rx hs pl pu q
noncomputable def IV (r:V->Option Int->Option Int->Hp->VK->Prop) (te:TE) (tl th:TO):TE:=fun σ H Q=>te σ H fun x H1=>tl σ H1 fun l H2=>th σ H2 fun u H3=>r x l u H3 Q
theorem Dm {r:V->Option Int->Option Int->Hp->VK->Prop} (hr:tH X r) (he:PE X e te) (hl:PO X lo tl) (hu:PO X hi th):PE X (.Subscript e (.Slice lo hi none p2) pos) (IV r te tl th):=by
 intro pins s σ H Q I h
 refine Subscript_ (zh (he pins s σ H _ I h) fun v s1 ⟨x,H1,I1,r1,q1⟩=>?_)
 refine wpAny_Slice (zh (hl pins s1 σ H1 _ I1 q1) fun vl s2 ⟨l,H2,I2,pl,q2⟩=>zh (hu pins s2 σ H2 _ I2 q2) fun vu s3 ⟨u,H3,I3,pu,q3⟩=>?_)
 rw [evalPart_none]
 refine wpAny_pure ?_
 have I4:zC X pins σ H3 { s3 with heap:=s3.heap.push { cls:=.type "slice",data:=.fields #[vl,vu,.none] } }:=I3.kept (t':=s3.toks) fun b ob q=>Heap.get?_push_of_some _ q
 obtain ⟨T,id,hT,ht,hg⟩:=hr pins { s3 with heap:=s3.heap.push { cls:=.type "slice",data:=.fields #[vl,vu,.none] } } σ H3 x v vl vu l u s3.heap.objs.size Q I4 r1 (Heap.IsSliceOf.new ..) pl pu q3
 show wpAny (model X.prog X.w) X.A (subscriptTail e (.Slice lo hi none p2) v (.ref s3.heap.objs.size)) (EP X pins σ Q) X.xe { s3 with heap:=s3.heap.push { cls:=.type "slice",data:=.fields #[vl,vu,.none] } }
 exact tail_any (ops:=[.ref s3.heap.objs.size,v]) ht hT hg (by with_unfolding_all rfl)
noncomputable def qP (xs:List V) (lo hi:Option Int):List V:=(xs.drop (HT.sIx xs.length 0 lo)).take (HT.sIx xs.length xs.length hi - HT.sIx xs.length 0 lo)
theorem TV (xs:List V) (lo hi:Option Int):(qP xs lo hi).length<=xs.length:=by
 unfold qP
 rw [List.length_take,List.length_drop]
 omega
noncomputable def JT (K:PySem.W.Frag):V->Option Int->Option Int->Hp->VK->Prop:=fun x lo hi H Q=>∃ a xs,x=.ref a/\yk K H a xs/\
 ¬ (HT.sIx xs.length 0 lo=0/\HT.sIx xs.length xs.length hi=xs.length)/\∀ p,H p=none->Q (.ref p) (zZ H p (.tup (qP xs lo hi)))
theorem Cw:tH X (JT X.K):=by
 intro pins s σ H x v vl vu lo hi sl Q I rx hs pl pu h
 obtain ⟨a,xs,rfl,hx,hw,q⟩:=h
 cases rx
 obtain ⟨its,r,ht,hz⟩:=I.tuple hx
 have hlen:its.toArray.size=xs.length:=by rw [List.size_toArray]; exact r.length.symm
 refine ⟨"tuple",_,PyProof.Rows.slot_tuple_getitem.lookup,ht.typeIs,?_⟩
 refine HT.getItem_tuple_cut ht hs pl pu (by rw [hlen]; exact hw) ?_ (by rw [hlen]; exact hz)
 rw [hlen]
 refine ⟨.ref s.heap.objs.size,_,I.laid (t':=s.toks) (o:=.tup (qP xs lo hi)) (fun b ob q=>Heap.get?_push_of_some _ q) (Nat.le_refl _) ?_,rfl,q _ (I.hok.fresh (Nat.le_refl _))⟩
 exact ⟨Nat.le_trans (TV xs lo hi) hz,_,(r.drop (HT.sIx xs.length 0 lo)).take (HT.sIx xs.length xs.length hi - HT.sIx xs.length 0 lo),IsTup.new _ _⟩
noncomputable def JL (K:PySem.W.Frag):R2:=fun x y H Q=>∃ a b xs ys,x=.ref a/\y=.ref b/\yk K H a xs/\yk K H b ys/\xs≠[]/\xs.length+ys.length<=sizeLine/\
 (ys=[]->Q (.ref a) H)/\(ys≠[]->∀ p,H p=none->Q (.ref p) (zZ H p (.tup (xs++ys))))
theorem zf.nil_iff {xs:List V} {us:List Value} (r:zf xs us):us=[]↔xs=[]:=by
 cases r with
 | nil=>simp
 | cons _ _=>simp
theorem D5:yU X (binaryOp .Add) (JL X.K):=by
 intro pins s σ H x y v u Q I rx ry h
 obtain ⟨a,b,xs,ys,rfl,rfl,ha,hb,hx,hz,q1,q2⟩:=h
 cases rx
 cases ry
 obtain ⟨its,r1,p1,_⟩:=I.tuple ha
 obtain ⟨its2,r2,p2,_⟩:=I.tuple hb
 refine HT.cat_tup p1 p2 (fun z=>hx (r1.nil_iff.mp z)) (fun z=>⟨.ref a,H,I,rfl,q1 (r2.nil_iff.mp z)⟩) (fun z=>?_) (by rw [<- r1.length,<- r2.length]; exact hz)
 refine ⟨.ref s.heap.objs.size,_,I.laid (t':=s.toks) (o:=.tup (xs++ys)) (fun b ob q=>Heap.get?_push_of_some _ q) (Nat.le_refl _) ?_,rfl,q2 (fun w=>z (r2.nil_iff.mpr w)) _ (I.hok.fresh (Nat.le_refl _))⟩
 exact ⟨by rw [List.length_append]; exact hz,_,r1.append r2,IsTup.new _ _⟩
end
end L2
namespace L2
open PySem PySem.Spec PyProof.Rows
noncomputable def ixN (n:Nat) (i:Int):Option Nat:=if 0<=i then (if i<n then some i.toNat else none) else if -(n:Int)<=i then some (i+n).toNat else none
noncomputable def u4 {α:Type} (xs:List α) (i:Int):Option α:=(ixN xs.length i).bind fun j=>xs[j]?
theorem QP {n:Nat} {i:Int} {j:Nat} (h:ixN n i=some j):seqIndex? i n=some j/\j<n /\ -(n:Int)<=i/\i<n:=by
 unfold ixN at h
 by_cases h0:0<=i
 ·rw [if_pos h0] at h
  by_cases h1:i<n
  ·rw [if_pos h1] at h
   have e:i.toNat=j:=Option.some.inj h
   exact ⟨by rw [seqIndex_of h0 h1,e],by omega,by omega,h1⟩
  ·rw [if_neg h1] at h; cases h
 ·rw [if_neg h0] at h
  by_cases h1 : -(n:Int)<=i
  ·rw [if_pos h1] at h
   have e:(i+n).toNat=j:=Option.some.inj h
   exact ⟨by rw [seqIndex_neg (by omega) h1,e],by omega,h1,by omega⟩
  ·rw [if_neg h1] at h; cases h
theorem Z5 {α:Type} {xs:List α} {i:Int} {v:α} (h:u4 xs i=some v):∃ j,seqIndex? i xs.length=some j/\xs[j]?=some v/\j<xs.length /\ -(xs.length:Int)<=i/\i<xs.length:=by
 unfold u4 at h
 cases e:ixN xs.length i with
 | none=>rw [e] at h; cases h
 | some j=>
  rw [e] at h
  obtain ⟨h1,h2,h3,h4⟩:=QP e
  exact ⟨j,h1,h,h2,h3,h4⟩
noncomputable def kq (b:Expr):Prop:=∀ o i,subscripted b false o i=operate [o,i] (getItem o i)
noncomputable def vf (X:Cx) (r:R2):Prop:=
 ∀ (value slice:Expr) (pins:List (Addr×Obj)) (s:Shared) (σ:St) (H:Hp) (x y:V) (v u:Value) (Q:VK),zC X pins σ H s->zm x v->zm y u->r x y H Q->
  subscripted slice false v u=operate [v,u] (getItem v u)->wpAny (model X.prog X.w) X.A (subscriptTail value slice v u) (EP X pins σ Q) X.xe s
noncomputable def tD (X:Cx) (id:String) (r:V->List V->Hp->VK->Prop):Prop:=
 ∀ (pins:List (Addr×Obj)) (s:Shared) (σ:St) (H:Hp) (x:V) (xs:List V) (v:Value) (us:List Value) (Q:VK),zC X pins σ H s->zm x v->zf xs us->r x xs H Q->
  wpAny (model X.prog X.w) X.A (call (.builtin id) (v::us)) (EP X pins σ Q) X.xe s
section
variable {X:Cx} {a b:Expr} {ta tb:TE} {pos:Pos}
theorem vf.or {r r':R2} (h:vf X r) (h':vf X r'):vf X (fun x y H Q=>r x y H Q\/r' x y H Q):=by
 intro value slice pins s σ H x y v u Q I rx ry q hs
 rcases q with q | q
 ·exact h value slice pins s σ H x y v u Q I rx ry q hs
 ·exact h' value slice pins s σ H x y v u Q I rx ry q hs
theorem V1 {r:R2} (hr:vf X r) (ha:PE X a ta) (hb:PE X b tb) (hs:kq b):PE X (.Subscript a b pos) (kN r ta tb):=by
 intro pins s σ H Q I h
 exact Subscript_ (Xo ha hb I h fun v u s2 x y H2 I2 rx ry q=>hr a b pins s2 σ H2 x y v u Q I2 rx ry q (hs _ _))
noncomputable def JO (K:PySem.W.Frag):R2:=fun x y H Q=>∃ p xs i v,x=.ref p/\y=.int i/\yT K H p xs/\u4 xs i=some v/\Q v H
noncomputable def Y0 (K:PySem.W.Frag):R2:=fun x y H Q=>∃ p xs i v,x=.ref p/\y=.int i/\yk K H p xs/\u4 xs i=some v/\Q v H
noncomputable def JP:R2:=fun x y H Q=>∃ z i c,x=.str z/\y=.int i/\z.length<=sizeLine/\u4 z.cps.toList i=some c/\Q (.str ⟨#[c]⟩) H
theorem MF:vf X (JO X.K):=by
 intro value slice pins s σ H x y v u Q I rx ry h hs
 obtain ⟨p,xs,i,z,rfl,rfl,hq,he,q⟩:=h
 cases rx
 obtain ⟨t,rfl⟩:=ry
 obtain ⟨its,r,pl,hz⟩:=I.list hq
 obtain ⟨j,h1,h2,h3,h4,h5⟩:=Z5 he
 obtain ⟨w,ew,rw'⟩:=r.get h2
 have hl:=r.length
 have hn:=pI
 have fin:EP X pins σ Q w s:=⟨z,H,I,rw',q⟩
 by_cases h0:0<=i
 ·have hj:i.toNat=j:=by
   rw [seqIndex_of h0 h5] at h1
   exact Option.some.inj h1
  exact item_listR pl.isList h0 (by omega) (by rw [hj]; simpa using ew) fin hs
 ·have hj:(i+(its.toArray.size:Int)).toNat=j:=by
   rw [seqIndex_neg (by omega) h4] at h1
   rw [List.size_toArray,<- hl]
   exact Option.some.inj h1
  exact subscriptTail_builtinR (x:=w) pl.isList.typeIs slot_list_getitem.lookup
   (wpAny_getItem_list_neg (Q:=fun r s'=>r=w/\EP X pins σ Q r s') pl.isList (by omega) (by rw [List.size_toArray]<;>omega) (by omega) (by rw [hj]; simpa using ew) ⟨rfl,fin⟩) hs
theorem MI:vf X (Y0 X.K):=by
 intro value slice pins s σ H x y v u Q I rx ry h hs
 obtain ⟨p,xs,i,z,rfl,rfl,hq,he,q⟩:=h
 cases rx
 obtain ⟨t,rfl⟩:=ry
 obtain ⟨its,r,pl,hz⟩:=I.tuple hq
 obtain ⟨j,h1,h2,h3,h4,h5⟩:=Z5 he
 obtain ⟨w,ew,rw'⟩:=r.get h2
 have hl:=r.length
 have hn:=pI
 have fin:EP X pins σ Q w s:=⟨z,H,I,rw',q⟩
 exact subscriptTail_builtinR (x:=w) pl.typeIs slot_tuple_getitem.lookup
  (getItem_tuple (j:=j) (Q:=fun r s'=>r=w/\EP X pins σ Q r s') pl (by omega) (by omega) (by rw [List.size_toArray,<- hl]; exact h1) (by simpa using ew) ⟨rfl,fin⟩) hs
theorem MH:vf X JP:=by
 intro value slice pins s σ H x y v u Q I rx ry h hs
 obtain ⟨z,i,c,rfl,rfl,hz,he,q⟩:=h
 obtain ⟨t,rfl⟩:=rx
 obtain ⟨t',rfl⟩:=ry
 obtain ⟨j,h1,h2,h3,h4,h5⟩:=Z5 he
 have hl:z.cps.toList.length=z.length:=by simp [Str.length]
 rw [hl] at h1 h4 h5
 have hn:=pI
 exact tail_any (typeIs_str s z t) slot_str_getitem.lookup (getItem_str (c:=c) (by
  have e1:decide (i < -(2 ^ 63:Int))=false:=decide_eq_false (by omega)
  have e2:decide (i ≥ 2 ^ 63)=false:=decide_eq_false (by omega)
  rw [e1,e2,Bool.or_false]) (by rw [h1]; simpa using h2) ⟨.str ⟨#[c]⟩,H,I.tok _,⟨_,rfl⟩,q⟩) hs
noncomputable def VB (K:PySem.W.Frag):R2:=fun x y H Q=>JO K x y H Q\/Y0 K x y H Q\/JP x y H Q
theorem MG:vf X (VB X.K):=MF.or (MI.or MH)
theorem Ms (its:List Value) (n j:Nat) (u:Value):Obj.mapSeq (·.setIfInBounds j u) { cls:=.type "list",data:=.seq its.toArray n }={ cls:=.type "list",data:=.seq (its.set j u).toArray n }:=by
 simp [Obj.mapSeq]
theorem zC.lst {pins:List (Addr×Obj)} {σ:St} {H:Hp} {s:Shared} {p:Addr} {xs:List V} (I:zC X pins σ H s) (h:H p=some (.lst xs)) :
  ∃ (its:List Value) (n:Nat),zf xs its/\s.heap.get? p=some { cls:=.type "list",data:=.seq its.toArray n }/\xs.length<=sizeLine:=by
 obtain ⟨z,its,n,r,e⟩:=I.hok p _ h
 exact ⟨its,n,r,e,z⟩
theorem zC.lstUpd {pins:List (Addr×Obj)} {σ:St} {H:Hp} {s:Shared} {p:Addr} {xs ys:List V} {its its':List Value} {n n':Nat} {f:Obj->Obj} (I:zC X pins σ H s) (h:H p=some (.lst xs))
  (ho:s.heap.get? p=some { cls:=.type "list",data:=.seq its.toArray n }) (hf:f { cls:=.type "list",data:=.seq its.toArray n }={ cls:=.type "list",data:=.seq its'.toArray n' }) (r:zf ys its') (hz:ys.length<=sizeLine) (t:Nat) :
  zC X pins σ (zZ H p (.lst ys)) { s with heap:=s.heap.update p f,toks:=t }:=by
 have e:(s.heap.update p f).get? p=some { cls:=.type "list",data:=.seq its'.toArray n' }:=by
  rw [Heap.get?_update_self f ho (by rw [hf]<;>rfl),hf]
 refine I.write (x:=p) (e:=p) (by rw [h]; trivial) (.inl rfl) (fun b u hb q=>(Heap.get?_update_other _ _ (Ne.symm hb)).trans q) ⟨_,e⟩ ?_
 exact ⟨hz,its',n',r,e⟩
noncomputable def Fz:V->V->V->Hp->(Hp->Prop)->Prop:=fun o i v H Q=>∃ p xs k j,o=.ref p/\i=.int k/\H p=some (.lst xs)/\ixN xs.length k=some j/\Q (zZ H p (.lst (xs.set j v)))
theorem Cl:XQ X Fz:=by
 intro pins s σ H o i v ov iv u Q I ro ri rv h
 obtain ⟨p,xs,k,j,rfl,rfl,hp,hj,q⟩:=h
 cases ro
 obtain ⟨t,rfl⟩:=ri
 obtain ⟨its,n,r,ho,hz⟩:=I.lst hp
 obtain ⟨h1,h2,h3,h4⟩:=QP hj
 have hl:=r.length
 have hn:=pI
 have I':zC X pins σ (zZ H p (.lst (xs.set j v))) { s with heap:=s.heap.update p (Obj.mapSeq (·.setIfInBounds j u)) }:=
  I.lstUpd hp ho (Ms its n j u) (r.set rv j) (by rw [List.length_set]; exact hz) s.toks
 by_cases h0:0<=k
 ·have hk:k.toNat=j:=by
   rw [seqIndex_of h0 h4] at h1
   exact Option.some.inj h1
  exact PySem.W.ki_setAt ho h0 (by omega) (by rw [List.size_toArray,<- hl]; exact h4) (by rw [hk]; exact ⟨_,I',q⟩)
 ·have hk:(k+(its.toArray.size:Int)).toNat=j:=by
   rw [seqIndex_neg (by omega) h3] at h1
   rw [List.size_toArray,<- hl]
   exact Option.some.inj h1
  exact PySem.W.ki_setBack ho (by omega) (by rw [List.size_toArray,<- hl]; exact h3) (by omega) (by rw [hk]; exact ⟨_,I',q⟩)
theorem C_ (lo hi:Option Int) (n:Nat):(sliceBounds lo hi none n).1=((HT.sIx n 0 lo:Nat):Int)/\(sliceBounds lo hi none n).2.1=((HT.sIx n n hi:Nat):Int)/\(sliceBounds lo hi none n).2.2=1:=by
 refine ⟨?_,?_,rfl⟩
 ·cases lo with
  | none=>simp [sliceBounds,HT.sIx]
  | some i=>
   simp only [sliceBounds,HT.sIx,Option.getD_none,show (1:Int) > 0 by decide,if_true]
   by_cases h:i<0
   ·simp only [h,if_true]<;>omega
   ·simp only [h,if_false]<;>omega
 ·cases hi with
  | none=>simp [sliceBounds,HT.sIx]
  | some i=>
   simp only [sliceBounds,HT.sIx,Option.getD_none,show (1:Int) > 0 by decide,if_true]
   by_cases h:i<0
   ·simp only [h,if_true]<;>omega
   ·simp only [h,if_false]<;>omega
theorem Cz (its:List Value) (lo hi:Option Int):slicePick its.toArray lo hi none=((its.drop (HT.sIx its.length 0 lo)).take (HT.sIx its.length its.length hi - HT.sIx its.length 0 lo)).toArray:=by
 obtain ⟨h1,h2,h3⟩:=C_ lo hi its.toArray.size
 unfold slicePick
 rw [h1,h2,h3]
 simp only [sliceRange_one,pick_run,List.size_toArray]<;>rfl
noncomputable def JS (K:PySem.W.Frag):V->Option Int->Option Int->Hp->VK->Prop:=fun x lo hi H Q=>∃ a xs,x=.ref a/\yT K H a xs/\∀ p,H p=none->Q (.ref p) (zZ H p (.lst (qP xs lo hi)))
theorem Ct:tH X (JS X.K):=by
 intro pins s σ H x v vl vu lo hi sl Q I rx hs pl pu h
 obtain ⟨a,xs,rfl,hx,q⟩:=h
 cases rx
 obtain ⟨its,r,ht,hz⟩:=I.list hx
 have hlen:=r.length
 refine ⟨"list",_,slot_list_getitem.lookup,ht.isList.typeIs,?_⟩
 refine wpAny_getItem_list_slice ht.isList hs pl pu .none (by simp) ?_ (by rw [List.size_toArray]<;>omega)
 rw [Cz,<- hlen]
 refine ⟨.ref s.heap.objs.size,_,I.laid (t':=s.toks) (o:=.lst (qP xs lo hi)) (fun b ob q=>Heap.get?_push_of_some _ q) (Nat.le_refl _) ?_,rfl,q _ (I.hok.fresh (Nat.le_refl _))⟩
 exact ⟨Nat.le_trans (TV xs lo hi) hz,_,0,(r.drop (HT.sIx xs.length 0 lo)).take (HT.sIx xs.length xs.length hi - HT.sIx xs.length 0 lo),Heap.get?_push_size _ rfl⟩
noncomputable def uT:V->Bool
 | .non=>true
 | .bl _=>true
 | .int _=>true
 | .str _=>true
 | _=>false
noncomputable def u7:V->V->Bool
 | .non,.non=>true
 | .bl a,.bl b=>a == b
 | .bl a,.int b=>(if a then 1 else 0) == b
 | .int a,.bl b=>a == (if b then 1 else 0)
 | .int a,.int b=>a == b
 | .str a,.str b=>a == b
 | _,_=>false
theorem To {A:Around} {s:Shared} {y x:V} {u v:Value} (ry:zm y u) (rx:zm x v) (fy:uT y=true) (fx:uT x=true):SeqAt.EqAt A s u v (u7 y x):=by
 cases y with
 | non=>
  cases ry
  cases x with
  | non=>cases rx; exact SeqAt.EqAt.same _
  | bl b=>cases rx; exact SeqAt.EqAt.none_bool b
  | int b=>obtain ⟨t,rfl⟩:=rx; exact SeqAt.EqAt.none_int b t
  | str b=>obtain ⟨t,rfl⟩:=rx; exact SeqAt.EqAt.none_str b t
  | _=>exact absurd (show false=true from fx) Bool.false_ne_true
 | bl a=>
  cases ry
  cases x with
  | non=>cases rx; exact SeqAt.EqAt.bool_none a
  | bl b=>cases rx; exact SeqAt.EqAt.bool_bool a b
  | int b=>obtain ⟨t,rfl⟩:=rx; exact SeqAt.EqAt.bool_int a b t
  | str b=>obtain ⟨t,rfl⟩:=rx; exact SeqAt.EqAt.bool_str a b t
  | _=>exact absurd (show false=true from fx) Bool.false_ne_true
 | int a=>
  obtain ⟨t',rfl⟩:=ry
  cases x with
  | non=>cases rx; exact SeqAt.EqAt.int_none a t'
  | bl b=>cases rx; exact SeqAt.EqAt.int_bool a t' b
  | int b=>obtain ⟨t,rfl⟩:=rx; exact SeqAt.EqAt.int_int a t' b t
  | str b=>obtain ⟨t,rfl⟩:=rx; exact SeqAt.EqAt.int_str a t' b t
  | _=>exact absurd (show false=true from fx) Bool.false_ne_true
 | str a=>
  obtain ⟨t',rfl⟩:=ry
  cases x with
  | non=>cases rx; exact SeqAt.EqAt.str_none a t'
  | bl b=>cases rx; exact SeqAt.EqAt.str_bool a t' b
  | int b=>obtain ⟨t,rfl⟩:=rx; exact SeqAt.EqAt.str_int a t' b t
  | str b=>obtain ⟨t,rfl⟩:=rx; exact SeqAt.EqAt.str_str a t' b t
  | _=>exact absurd (show false=true from fx) Bool.false_ne_true
 | _=>exact absurd (show false=true from fy) Bool.false_ne_true
noncomputable def vJ (x:V) (u:Value):Bool:=match u with
 | .none=>u7 .non x
 | .bool b=>u7 (.bl b) x
 | .int i _=>u7 (.int i) x
 | .str z _=>u7 (.str z) x
 | _=>false
theorem Tq {x y:V} {u:Value} (r:zm y u) (f:uT y=true):vJ x u=u7 y x:=by
 cases y with
 | non=>cases r; rfl
 | bl b=>cases r; rfl
 | int i=>obtain ⟨t,rfl⟩:=r; rfl
 | str z=>obtain ⟨t,rfl⟩:=r; rfl
 | _=>exact absurd (show false=true from f) Bool.false_ne_true
theorem gJ {x:V}:∀ {xs:List V} {us:List Value},zf xs us->xs.all uT=true->us.any (vJ x)=xs.any fun y=>u7 y x
 | _,_,.nil,_=>rfl
 | y::xs,u::us,.cons r t,f=>by
  rw [List.all_cons,Bool.and_eq_true] at f
  rw [List.any_cons,List.any_cons,Tq r f.1,gJ t f.2]
theorem gu {A:Around} {s:Shared} {x:V} {v:Value} (rx:zm x v) (fx:uT x=true):∀ {xs:List V} {us:List Value},zf xs us->xs.all uT=true->∀ u∈us,SeqAt.EqAt A s u v (vJ x u)
 | _,_,.nil,_=>fun u hu=>by cases hu
 | y::xs,u::us,.cons r t,f=>fun u' hu=>by
  rw [List.all_cons,Bool.and_eq_true] at f
  rcases List.mem_cons.mp hu with rfl | hu
  ·rw [Tq r f.1]; exact To r rx f.1 fx
  ·exact gu rx fx t f.2 u' hu
noncomputable def ZY (x:V) (xs:List V):Bool:=xs.any fun y=>u7 y x
noncomputable def V9 (K:PySem.W.Frag) (neg:Bool):R2:=fun x y H Q=>∃ p xs,y=.ref p/\(yT K H p xs\/yk K H p xs)/\uT x=true/\xs.all uT=true/\Q (.bl (if neg then !ZY x xs else ZY x xs)) H
theorem DA:yU X (compareOp .In) (V9 X.K false):=by
 intro pins s σ H x y v u Q I rx ry h
 obtain ⟨p,xs,rfl,hq,fx,fs,q⟩:=h
 cases ry
 rcases hq with hq | hq
 ·obtain ⟨its,r,pl,hz⟩:=I.list hq
  refine SeqAt.in_listAt (vJ x) pl.isList (fun w hw=>gu rx fx r fs w (by simpa using hw)) ⟨.bl _,H,I,rfl,?_⟩
  rw [show its.toArray.any (vJ x)=its.any (vJ x) by simp,gJ r fs]
  exact q
 ·obtain ⟨its,r,pl,hz⟩:=I.tuple hq
  refine SeqAt.in_tupleAt (vJ x) pl (fun w hw=>gu rx fx r fs w (by simpa using hw)) ⟨.bl _,H,I,rfl,?_⟩
  rw [show its.toArray.any (vJ x)=its.any (vJ x) by simp,gJ r fs]
  exact q
theorem DH:yU X (compareOp .NotIn) (V9 X.K true):=by
 intro pins s σ H x y v u Q I rx ry h
 obtain ⟨p,xs,rfl,hq,fx,fs,q⟩:=h
 cases ry
 rcases hq with hq | hq
 ·obtain ⟨its,r,pl,hz⟩:=I.list hq
  refine SeqAt.notIn_listAt (vJ x) pl.isList (fun w hw=>gu rx fx r fs w (by simpa using hw)) ⟨.bl _,H,I,rfl,?_⟩
  rw [show its.toArray.any (vJ x)=its.any (vJ x) by simp,gJ r fs]
  exact q
 ·obtain ⟨its,r,pl,hz⟩:=I.tuple hq
  refine SeqAt.notIn_tupleAt (vJ x) pl (fun w hw=>gu rx fx r fs w (by simpa using hw)) ⟨.bl _,H,I,rfl,?_⟩
  rw [show its.toArray.any (vJ x)=its.any (vJ x) by simp,gJ r fs]
  exact q
theorem DI:yU X (compareOp .NotIn) (fun x y H Q=>∃ i j,x=.str i/\y=.str j/\Q (.bl (!(!(Builtin.Str.occurrences j i 0 j.length 1).isEmpty))) H):=by
 intro pins s σ H x y v u Q I rx ry h
 obtain ⟨i,j,rfl,rfl,q⟩:=h
 obtain ⟨t,rfl⟩:=rx
 obtain ⟨t',rfl⟩:=ry
 exact notIn_str ⟨.bl _,H,I,rfl,q⟩
theorem OY:xr X (.builtin "len") (fun xs H Q=>∃ p ys,xs=[.ref p]/\(yT X.K H p ys\/yk X.K H p ys)/\Q (.int ys.length) H):=by
 intro pins s σ H xs us Q I r h
 obtain ⟨p,ys,rfl,hq,q⟩:=h
 obtain ⟨u,rfl,rx⟩:=wr r
 cases rx
 have hn:=pI
 rcases hq with hq | hq
 ·obtain ⟨its,r',pl,hz⟩:=I.list hq
  have hlen:=r'.length
  exact Calls.call_len_list pl.isList (by simp only [List.size_toArray]<;>omega) ⟨.int ys.length,H,I.tok _,⟨s.toks+1,by rw [List.size_toArray,hlen]⟩,q⟩
 ·obtain ⟨its,r',pl,hz⟩:=I.tuple hq
  have hlen:=r'.length
  exact len_tuple pl (by simp only [List.size_toArray]<;>omega) ⟨.int ys.length,H,I.tok _,⟨s.toks+1,by rw [List.size_toArray,hlen]⟩,q⟩
theorem OZ:xr X (.builtin "len") (fun xs H Q=>∃ z,xs=[.str z]/\z.length<=sizeLine/\Q (.int z.length) H):=by
 intro pins s σ H xs us Q I r h
 obtain ⟨z,rfl,hz,q⟩:=h
 obtain ⟨u,rfl,t,rfl⟩:=wr r
 have hn:=pI
 exact len_str (by omega) ⟨.int z.length,H,I.tok _,⟨_,rfl⟩,q⟩
theorem xr.or {f:Value} {r r':List V->Hp->VK->Prop} (h:xr X f r) (h':xr X f r'):xr X f (fun xs H Q=>r xs H Q\/r' xs H Q):=by
 intro pins s σ H xs us Q I rs q
 rcases q with q | q
 ·exact h pins s σ H xs us Q I rs q
 ·exact h' pins s σ H xs us Q I rs q
theorem TF:xr X (.type "tuple") (fun xs H Q=>∃ p ys,xs=[.ref p]/\((yT X.K H p ys/\∀ l,H l=none->Q (.ref l) (zZ H l (.tup ys)))\/(yk X.K H p ys/\Q (.ref p) H))):=by
 intro pins s σ H xs us Q I r h
 obtain ⟨p,ys,rfl,h⟩:=h
 obtain ⟨u,rfl,rx⟩:=wr r
 cases rx
 rcases h with ⟨hq,q⟩ | ⟨hq,q⟩
 ·obtain ⟨its,r',pl,hz⟩:=I.list hq
  have hlen:=r'.length
  refine call_tuple_list pl.isList (fun h' kp=>?_) (by simp only [List.size_toArray]<;>omega)
  have I1:zC X pins σ H { s with heap:=h' }:=I.kept (t':=s.toks) kp
  have I2:zC X pins σ (zZ H h'.objs.size (.tup ys)) { s with heap:=h'.push { cls:=.type "tuple",data:=.seq its.toArray } }:=
   I1.laid (t':=s.toks) (fun b o e=>Heap.get?_push_of_some _ e) (Nat.le_refl _) (show yr X.prog X.w _ _ _ (.tup ys) from ⟨hz,its,r',IsTup.new _ _⟩)
  exact ⟨.ref h'.objs.size,_,I2,rfl,q _ (I1.hok.fresh (Nat.le_refl _))⟩
 ·obtain ⟨its,r',pl,hz⟩:=I.tuple hq
  exact call_tuple_same pl ⟨.ref p,H,I,rfl,q⟩
noncomputable def IZ (K:PySem.W.Frag) (T:String) (x:V) (H:Hp):Prop:=match x with
 | .str _=>T = "str"
 | .int _=>T = "int"
 | .ref p=>(T = "list" /\ ∃ xs,yT K H p xs)\/(T = "tuple" /\ ∃ o,K.lookup p=some o/\o.cls=.type "tuple" /\ o.dict=none) \/
   (T = "dict" /\ ((∃ kvs,H p=some (.dK kvs))\/∃ kvs,H p=some (.dT kvs)))\/(T = "set" /\ ∃ S n,H p=some (.set S n))
 | _=>False
theorem US {pins:List (Addr×Obj)} {σ:St} {H:Hp} {s:Shared} {T:String} {x:V} {v:Value} (I:zC X pins σ H s) (r:zm x v) (ty:IZ X.K T x H) :
  s.TypeIs v T/\∀ a,v=.ref a->∃ ob,s.heap.get? a=some ob/\ob.dict=none:=by
 cases x with
 | str z=>
  obtain ⟨t,rfl⟩:=r
  cases (show T = "str" from ty)
  exact ⟨typeIs_str s z t,fun _ e=>nomatch e⟩
 | int i=>
  obtain ⟨t,rfl⟩:=r
  cases (show T = "int" from ty)
  exact ⟨typeIs_int s i t,fun _ e=>nomatch e⟩
 | ref p=>
  cases r
  rcases ty with ⟨rfl,xs,hq⟩ | ⟨rfl,o,hk,hc,hd⟩ | ⟨rfl,hk⟩ | ⟨rfl,S,n,hk⟩
  ·obtain ⟨its,_,pl,_⟩:=I.list hq
   refine ⟨pl.isList.typeIs,fun a e=>?_⟩
   cases e
   obtain ⟨o,n,e,c,hd,_⟩:=pl
   exact ⟨o,e,hd⟩
  ·refine ⟨⟨o,I.kIn p o hk,hc⟩,fun a e=>?_⟩
   cases e
   exact ⟨o,I.kIn _ o hk,hd⟩
  ·have z:∃ o,s.heap.get? p=some o/\o.ExactDict:=by
    rcases hk with ⟨kvs,hk⟩ | ⟨kvs,hk⟩
    ·obtain ⟨_,_,_,_,o,_,_,e,ex,_⟩:=I.hok p _ hk
     exact ⟨o,e,ex⟩
    ·obtain ⟨_,_,_,_,o,_,_,e,ex,_⟩:=I.hok p _ hk
     exact ⟨o,e,ex⟩
   obtain ⟨o,e,ex⟩:=z
   refine ⟨⟨o,e,ex.1⟩,fun a e2=>?_⟩
   cases e2
   exact ⟨o,e,ex.2.1⟩
  ·obtain ⟨o,_,_,_,e,ex,_⟩:=I.hok p _ hk
   refine ⟨⟨o,e,ex.1⟩,fun a e2=>?_⟩
   cases e2
   exact ⟨o,e,ex.2.1⟩
 | _=>exact False.elim ty
noncomputable def UN (K:PySem.W.Frag) (T:String) (r:V->List V->Hp->VK->Prop) (to:TE) (t:TA):TE:=fun σ H Q=>to σ H fun x H1=>IZ K T x H1/\t σ H1 fun xs H2=>r x xs H2 Q
variable {o e:Expr} {es:List Expr} {to:TE} {t:TA} {name:Str} {apos cpos:Pos} {T id:String} {r:V->List V->Hp->VK->Prop}
theorem DV (pa:PlainAttrs T) (slot:Slot T name id) (hty:typeOf (.builtin id)=pure (.type "method_descriptor")) (hm:tD X id r) (ho:PE X o to) (ha:PA X (e::es) t)
  (hbase:attributeBase o name X.env (eval o X.env)=eval o X.env:=by rfl)
  (hfew:((backTo cpos (starEach (e::es) X.env)).all (fun x=>!x.1)&&(backToKw cpos (keywordEach [] X.env)).all (fun x=>x.1.isSome)
   && decide ((e::es).length+([]:List Keyword).length+(if ([]:List Keyword).isEmpty then 0 else 1)<30))=true:=by rfl)
  (hline:(apos.endLine == cpos.line)=true:=by rfl) (hs:starEach (e::es) X.env=(false,eval e X.env)::starEach es X.env:=by rfl) (hplain:(backTo cpos (starEach es X.env)).any (·.1)=false:=by rfl) :
  PE X (.Call (.Attribute o name apos) (e::es) [] cpos) (UN X.K T r to t):=by
 intro pins s σ H Q I h
 refine wpAny_Call_method_late hbase hfew hline rfl (zh (ho pins s σ H _ I h) fun v s1 ⟨x,H1,I1,r1,ty,q1⟩=>?_)
 obtain ⟨h1,h2⟩:=US I1 r1 ty
 refine ⟨T,id,pa,slot,hty,h1,h2,?_⟩
 have hA:=ha cpos pins s1 σ H1 _ I1 q1
 rw [hs] at hA ⊢
 refine Calls.callWith_builtin (by show (false||(backTo cpos (starEach es X.env)).any (·.1))=false; rw [hplain]<;>rfl) (Calls.evalArgs_plain ?_)
 exact zh hA fun us s2 ⟨vs,H2,I2,r2,q2⟩=>hm pins s2 σ H2 x vs v us Q I2 r1 r2 q2
end
end L2
namespace L2
open PySem PySem.Spec PyProof.Rows
noncomputable def Uj (X:Cx) (id:String) (r:V->List V->Hp->VK->Prop):Prop:=
 ∀ (pins:List (Addr×Obj)) (s:Shared) (σ:St) (H:Hp) (x:V) (xs:List V) (v:Value) (us:List Value) (Q:VK),zC X pins σ H s->zm x v->zf xs us->r x xs H Q->
  wpAny (model X.prog X.w) X.A (call (.builtin id) (v::us)) (EP X pins σ Q) X.xe s
theorem zf.one:∀ {x:V} {us:List Value},zf [x] us->∃ u,us=[u]/\zm x u
 | _,_,.cons r .nil=>⟨_,rfl,r⟩
section
variable {X:Cx} {pins:List (Addr×Obj)} {σ:St} {H:Hp} {s:Shared} {l b:Addr} {xs ys zs:List V}
theorem zC.lset {its its':List Value} {n:Nat} {f:Array Value->Array Value} {t':Nat} (I:zC X pins σ H s) (hH:H l=some (.lst xs))
  (e:s.heap.get? l=some { cls:=.type "list",data:=.seq its.toArray n }) (hf:f its.toArray=its'.toArray) (hv:zf ys its') (hz:ys.length<=sizeLine) :
  zC X pins σ (zZ H l (.lst ys)) { s with heap:=s.heap.update l (Obj.mapSeq f),toks:=t' }:=by
 have q:=PySem.IsL.update e f
 rw [hf] at q
 refine I.write (x:=l) (e:=l) (by rw [hH]; exact trivial) (.inl rfl) (fun b' u hb hu=>(Heap.get?_update_other s.heap (Obj.mapSeq f) (Ne.symm hb)).trans hu) ⟨_,q⟩ ?_
 exact ⟨hz,its',_,hv,q⟩
theorem zC.lnew {its:List Value} {t':Nat} (I:zC X pins σ H s) (hv:zf ys its) (hz:ys.length<=sizeLine) :
  zC X pins σ (zZ H s.heap.objs.size (.lst ys)) { s with heap:=s.heap.push { cls:=.type "list",data:=.seq its.toArray },toks:=t' }:=
 I.laid (fun _ _ q=>Heap.get?_push_of_some _ q) (Nat.le_refl _) ⟨hz,its,0,hv,Heap.get?_push_size _ rfl⟩
theorem zC.fresh (I:zC X pins σ H s):H s.heap.objs.size=none:=I.hok.fresh (Nat.le_refl _)
theorem zC.lstM (I:zC X pins σ H s) (hH:H l=some (.lst xs)):xs.length<=sizeLine/\∃ (its:List Value) (n:Nat),zf xs its/\xs.length=its.length/\s.heap.get? l=some { cls:=.type "list",data:=.seq its.toArray n }:=by
 obtain ⟨z,its,n,r,e⟩:=I.hok l _ hH
 exact ⟨z,its,n,r,r.length,e⟩
end
section
variable {X:Cx}
noncomputable def Fs:V->List V->Hp->VK->Prop:=fun x vs H Q=>∃ l xs y,x=.ref l/\vs=[y]/\H l=some (.lst xs)/\xs.length<sizeLine/\Q .non (zZ H l (.lst (xs++[y])))
theorem Mw:Uj X "list.append" Fs:=by
 intro pins s σ H x vs v us Q I rx rv h
 obtain ⟨l,xs,y,rfl,rfl,hH,hz,q⟩:=h
 cases rx
 obtain ⟨u,rfl,ru⟩:=rv.one
 obtain ⟨z,its,n,r,hl,e⟩:=I.lstM hH
 refine call_meets F.slot_list_append ⟨_,e,rfl⟩ F.entry_list_append (F.args_list_append_2 _ _) (PySem.list_append l its.toArray n u (by rw [List.size_toArray]; omega)) ⟨e,?_⟩
 refine ⟨.non,_,I.lset (its':=its++[u]) hH e (by simp) (r.append (.cons ru .nil)) ?_,rfl,q⟩
 rw [List.length_append,List.length_singleton]
 omega
end
end L2
namespace Att
open PySem PySem.W PySem.Calls PyProof.Rows
theorem M8 {P:Params} {h:Heap}:∀ (ns:List Int) (vs:List Value),WellAll P h vs (ns.map WData.int)->IntsAre vs ns:=by
 intro ns
 induction ns with
 | nil=>
  intro vs w
  rw [List.map_nil] at w
  cases w
  exact .nil
 | cons n ns ih=>
  intro vs w
  rw [List.map_cons] at w
  cases w with
  | cons a b=>
   cases a
   exact .cons _ _ (ih _ b)
theorem script_of {l:OpenLaw} {n:Nat} (hn:l.most=some n) {P:Params} {h:Heap} {args:List WData} {vals:List Value}
  (hpre:l.row.toRowW.claim.pre args=true) (hwl:WellAll P h vals args) :
  ∃ a vs ns,vals=[Value.ref a]/\args=[WData.list (ns.map WData.int)]/\h.get? a=some { cls:=.type "list",data:=.seq vs.toArray }/\IntsAre vs ns/\ns.length<=n:=by
 have hsh:WShape.hasAll [] args [.list .int]=true:=(pre_splitW hpre).1
 have hc:l.pre.holds [] { args:=args }=true:=(pre_splitW hpre).2
 obtain ⟨d,r,rfl,h1,h2⟩:=hasAllW_cons hsh
 obtain rfl:=hasAllW_nil h2
 obtain ⟨xs,rfl,h3⟩:=hasW_list h1
 obtain ⟨ns,rfl⟩:=items_int h3
 have hlen:ns.length<=n:=by
  unfold OpenLaw.pre at hc
  have h4:(WTm.not (.lt (.lit (.int (n:Int))) (.len (.arg 0)))).holds [] { args:=[.list (ns.map .int)] }=true:=by
   have h4:=(holds_andW hc).1
   rw [hn] at h4
   exact h4
  have h5:=condW_of h4 (w_not (w_lt w_lit (w_len_list (w_arg rfl))))
  rw [List.length_map] at h5
  refine Nat.le_of_not_lt fun q=>?_
  have q':(n:Int)<((ns.length:Nat):Int):=by omega
  first
   | (rw [decide_eq_true q'] at h5; exact absurd h5 (by decide))
   | (simp at h5; omega)
 cases hwl with
 | cons w1 w2=>
  cases w2
  cases w1 with
  | list ho hall=>exact ⟨_,_,ns,rfl,rfl,ho,M8 ns _ hall,hlen⟩
theorem post_true (l:OpenLaw) (args:List WData):l.row.toRowW.claim.post args (.bool true) args=true:=
 postW_of (r:=l.row.toRowW) (X:=(true == true))
  (show WShape.has [] (.bool true) .bool=true by first | rfl | decide | simp [WShape.has,WShape.arms,WShape.armsAll])
  (show (WTm.eq .res (.lit (.bool true))).value [] { args:=args,res:=some (.bool true),after:=args }=some (.bool (true == true)) from w_eq_bool (w_res rfl) w_lit) rfl
end Att
namespace L2
open PySem PySem.Spec PyProof.Rows
theorem Im:∀ {vs:List Value} {ns:List Int},IntsAre vs ns->zf (ns.map V.int) vs
 | _,_,.nil=>.nil
 | _,_,.cons n t h=>.cons ⟨t,rfl⟩ (Im h)
noncomputable def Ul (H:Hp):Prop:=∀ b,H b=none\/∃ o xs,H b=some (.frz o (.lst xs))
theorem Mh {P:Program} {w:World} {K:PySem.W.Frag} {mg mb:Str->Option Value} {CX:t5} {k:Nat} {fa a:Addr} {fd:FuncData} {x:Str} {sp:Sp} {s₁:Shared} {vs:List Value} {ns:List Int}
  (KX:K.In s₁.heap) (hns:s₁.heap.Ns mainGlobals mg) (hb:s₁.heap.Ns builtinsNs mb) (hbb:∀ x:Str,x ≠ "__name__" -> mb x=bootBuiltins x) (hlim:s₁.heap.NoLimit) (hg:s₁.gens=#[])
  (ha:s₁.heap.get? a=some { cls:=.type "list",data:=.seq vs.toArray }) (hi:IntsAre vs ns) (hl:ns.length<=sizeLine) (hr:xB k callerA)
  (F:∀ base:Heap,K.In base->base.Ns mainGlobals mg->ve P w K mg base CX k fa fd [x] sp) (hbind:∀ (s:Shared) (u:Value),BindsTo s fd ⟨[u],[]⟩ [(x,u)])
  (hsp:∀ H:Hp,Ul H->yT K H a (ns.map V.int)->sp [.ref a] H (fun v _=>v=.bl true) fun _ _ _=>False)
  (hCX:∀ H e s',CX [] H s₁ (fun _ _ _=>False) e s'->False) :
  codeAny (model P w) callerA (.call (.ref fa) ⟨[.ref a],[]⟩) (fun r s'=>r=.ok (.ret (.bool true))/\OldK s₁.heap s'.heap/\s'.os=s₁.os/\AllBare s'.gens) s₁:=by
 have rv:=Im hi
 have lenV:=hi.length
 have core:∀ H:Hp,Ul H->yT K H a (ns.map V.int)->yo P w H s₁.heap->(∀ b,H b≠none->b=a)->(H a≠none->K.lookup a=none)->
   codeAny (model P w) callerA (.call (.ref fa) ⟨[.ref a],[]⟩) (fun r s'=>r=.ok (.ret (.bool true))/\OldK s₁.heap s'.heap/\s'.os=s₁.os/\AllBare s'.gens) s₁:=by
  intro H hO hS hok hA hK
  have base_of:∀ {b:Addr} {o:Obj},s₁.heap.get? b=some o->H b=none->(tT s₁.heap H).get? b=some o:=fun e n=>Lr e n
  have noA:∀ {b:Addr} {o:Obj} {es:Array DictEntry} {ep:Nat},s₁.heap.get? b=some o->o.data=.dict es ep->H b=none:=fun {b o es ep} e d=>by
   cases q:H b with
   | none=>rfl
   | some u=>
    have e':b=a:=hA b (by rw [q]; simp)
    subst e'
    rw [ha] at e; cases e
    have d':Data.seq vs.toArray _=Data.dict es ep:=d
    cases d'
  have nsK:∀ {b:Addr} {m:Str->Option Value},s₁.heap.Ns b m->(tT s₁.heap H).Ns b m:=fun {b m} ⟨o,es,ep,e,d,r⟩=>⟨o,es,ep,base_of e (noA e d),d,r⟩
  have hKb:K.In (tT s₁.heap H):=fun b o e=>base_of (KX b o e) (by
   cases q:H b with
   | none=>rfl
   | some u=>
    have e':b=a:=hA b (by rw [q]; simp)
    subst e'
    rw [hK (by rw [q]; simp)] at e; cases e)
  have hM:Mod K mg (tT s₁.heap H):=⟨hKb,nsK hns,⟨mb,nsK hb,hbb⟩,let ⟨mc,h1,h2⟩:=hlim; ⟨mc,nsK h1,h2⟩⟩
  have e0:qA P w K mg (tT s₁.heap H) callerA [] s₁ H:=⟨rfl,hM,fun b o e=>BH e,Nat.le_of_eq (Ls _ _),trivial,fun b hb=>absurd (show b∈([]:List Addr) from hb) (by simp),hok,.of_eq hg⟩
  refine codeAny_mono ((F _ hKb (nsK hns)).run callerA [] s₁ H ⟨[.ref a],[]⟩ [.ref a] [.ref a] _ _ hr e0 (hbind s₁ (.ref a)) (.cons rfl .nil) (hsp H hO hS)) fun r s' h=>?_
  cases r with
  | error e=>exact (hCX H e s' h).elim
  | ok fl=>
   cases fl with
   | next=>exact False.elim h
   | brk=>exact False.elim h
   | cont=>exact False.elim h
   | ret u=>
    obtain ⟨v,H',os,bare,un,hok',r',q⟩:=h
    have q':v=.bl true:=q
    subst q'
    obtain rfl:u=Value.bool true:=r'
    refine ⟨rfl,OldK.of_keep fun b o e=>?_,os,bare⟩
    cases q:H b with
    | none=>exact un.keep b o e q (by intro z; exact absurd (show b∈([]:List Addr) from z) (by simp)) (by simp)
    | some u=>
     rcases hO b with z | ⟨ob,xs,z⟩
     ·rw [q] at z; cases z
     ·have z2:=un.frzs b ob _ z
      obtain ⟨e1,_⟩:=hok b _ z
      obtain ⟨e2,_⟩:=hok' b _ z2
      rw [e] at e1; cases e1
      exact e2
 cases hk:K.lookup a with
 | some o=>
  have e:=KX a o hk
  rw [ha] at e
  cases e
  refine core (fun _=>none) (fun _=>.inl rfl) (.inr ⟨_,vs.toArray,_,hk,rfl,rfl,rfl,by rw [List.size_toArray,lenV]; exact hl,by simpa using rv⟩) (fun b u z=>by have z':(none:Option HO)=some u:=z; cases z') (fun b z=>absurd rfl z) fun z=>absurd rfl z
 | none=>
  refine core (fun b=>if b=a then some (.frz { cls:=.type "list",data:=.seq vs.toArray } (.lst (ns.map V.int))) else none) (fun b=>?_) (.inl (.inr ⟨{ cls:=.type "list",data:=.seq vs.toArray },if_pos rfl⟩)) (fun b u z=>?_) (fun b z=>?_) fun _=>hk
  ·by_cases hb:b=a
   ·exact .inr ⟨_,_,if_pos hb⟩
   ·exact .inl (if_neg hb)
  ·by_cases hb:b=a
   ·have z':=(if_pos hb).symm.trans z
    cases z'
    subst hb
    exact ⟨ha,by rw [List.length_map]; exact hl,vs,_,rv,ha⟩
   ·have z':=(if_neg hb).symm.trans z
    cases z'
  ·by_cases hb:b=a
   ·exact hb
   ·exact absurd (if_neg hb) z
end L2
namespace L2
open PySem PySem.Spec PyProof.Rows
end L2
namespace L2
open PySem PySem.Spec PyProof.Rows
noncomputable def qQ (s:Stmt):Arguments:=match s with
 | .FunctionDef _ a _ _ _ _ _ _ _ _=>a
 | _=>{ posonlyargs:=[],args:=[],vararg:=none,kwonlyargs:=[],kw_defaults:=[],kwarg:=none,defaults:=[] }
noncomputable def wg (s:Stmt):List Stmt:=match s with
 | .FunctionDef _ _ b _ _ _ _ _ _ _=>b
 | _=>[]
noncomputable def zi (s:Stmt):Scope:=match s with
 | .FunctionDef _ _ _ _ _ _ sc _ _ _=>sc
 | _=>{ kind:=.function,names:=[],isGenerator:=false,isCoroutine:=false }
noncomputable abbrev wu:t5:=fun _ _ _ _ _ _=>False
noncomputable abbrev E0:XK:=fun _ _ _=>False
theorem Q_ {X:Cx}:km wu X E0:=fun _ _ _ _ _ _ _ h=>h.elim
structure qF (K:PySem.W.Frag) (x qual:Str) (st:Stmt) (f:Addr) (fd:FuncData):Prop where
 ex:∃ (oc:Value) (od:Option Addr) (kV doc pm:Value) (an:Option Addr) (cdv ct:Value) (osl:Array (Option Value)),
  fd=PySem.W.fnOf x qual (qQ st) (wg st) (zi st) .none kV doc pm an cdv ct/\K.lookup f=some ⟨oc,od,.func fd,osl⟩/\PySem.W.codeIn K cdv qual=true
 kp:PySem.W.keepIn K (.ref f)=true
section
variable {P:Program} {w:World} {K:PySem.W.Frag} {mg:Str->Option Value} {base:Heap}
theorem qF.ok {x qual:Str} {st:Stmt} {f:Addr} {fd:FuncData} {N ps:List Str} {k:Nat} {sp:Sp} (F:qF K x qual st f fd) (S:yQ N ps (zi st)) (len:∀ vs H Q E,sp vs H Q E->vs.length=ps.length)
  (hbody:∀ (cdv:Value) (A:Around) (outer:List Env) (s:Shared) (H:Hp) (vs:List V) (Q:VK) (E:XK),xB k (A.deeper (envOfC qual (zi st) s.heap.objs.size f cdv))->sp vs H Q E->
   ∃ t,wZ (vk wu P w K mg base N qual (zi st) f cdv A outer s H E).nox (wg st) t/\t { nx:=fun _ H'=>Q .non H',rt:=Q } (start N vs) H):ve P w K mg base wu (k+1) f fd ps sp:=by
 obtain ⟨oc,od,kV,doc,pm,an,cdv,ct,osl,rfl,lk,hcd⟩:=F.ex
 refine Tx lk hcd S len fun A outer s H vs Q E hr hsp=>?_
 obtain ⟨t,h,q⟩:=hbody cdv A outer s H vs Q E hr hsp
 exact ⟨t,h.nox,q⟩
theorem qF.binds {x qual:Str} {st:Stmt} {f:Addr} {fd:FuncData} {ps:List Str} (F:qF K x qual st f fd)
  (h:∀ (kV doc pm:Value) (an:Option Addr) (cdv ct:Value) (us:List Value),us.length=ps.length->bindArgs (PySem.W.fnOf x qual (qQ st) (wg st) (zi st) .none kV doc pm an cdv ct) ⟨us,[]⟩=pure (ps.zip us)):ud K fd ps []:=by
 obtain ⟨oc,od,kV,doc,pm,an,cdv,ct,osl,rfl,lk,hcd⟩:=F.ex
 exact .all (h kV doc pm an cdv ct)
theorem Ty {x qual:Str} {st:Stmt} {f:Addr} {oc:Value} {od an:Option Addr} {osl:Array (Option Value)} {kV doc pm cdv ct:Value} (l:K.lookup f=some ⟨oc,od,.func (PySem.W.fnOf x qual (qQ st) (wg st) (zi st) .none kV doc pm an cdv ct),osl⟩)
  (c:PySem.W.codeIn K cdv qual=true) (k:PySem.W.keepIn K (.ref f)=true):qF K x qual st f (PySem.W.fnOf x qual (qQ st) (wg st) (zi st) .none kV doc pm an cdv ct):=⟨⟨oc,od,kV,doc,pm,an,cdv,ct,osl,rfl,l,c⟩,k⟩
end
theorem zV {A:Around} {k:Nat} (hr:xB k A):A.units+1<cLine:=Nat.lt_of_le_of_lt (Nat.add_le_add_left (by decide:1<=64) _) hr.units
theorem E1 {n:Nat} (h:n<=1000):n<sizeLine:=Nat.lt_of_le_of_lt h (by decide)
section
variable {X:Cx}
theorem pv (i:Nat) {x:Str} {pos:Pos} (hN:X.N[i]?=some x:=by rfl) (hv:p6 X.env.scope x:=by first | exact Or.inl rfl | exact Or.inr (Or.inl rfl) | exact Or.inr (Or.inr rfl)) (hd:(x == ("__debug__" : Str))=false:=by decide)
  (hcd:(x == ("__classdict__" : Str))=false:=by decide):PE X (.Name x pos) (qq i):=k7 hN hv hd hcd
end
theorem pF {A B:Prop} (h:B):if false=true then A else B:=by
 rw [if_neg Bool.false_ne_true]
 exact h
theorem pG {A B:Prop} (h:A):if true=true then A else B:=by
 rw [if_pos rfl]
 exact h
noncomputable def yL (H H':Hp):Prop:=∀ b o,H b=some o->H' b=some o
theorem yL.refl (H:Hp):yL H H:=fun _ _ h=>h
theorem yL.trans {H H1 H2:Hp} (a:yL H H1) (b:yL H1 H2):yL H H2:=fun c o h=>b c o (a c o h)
theorem yL.free {H H':Hp} (e:yL H H') {l:Addr} (h:H' l=Option.none):H l=Option.none:=by
 cases q:H l with
 | none=>rfl
 | some o=>
  rw [e l o q] at h
  cases h
end L2
set_option linter.all false
set_option maxRecDepth 100000
set_option maxHeartbeats 4000000
namespace L2
open PySem PySem.Spec PyProof.Rows
noncomputable def Def (K:PySem.W.Frag) (mg:Str->Option Value) (x:Str) (st:Stmt) (ps:List Str):Prop:=
 ∃ (f:Addr) (fd:FuncData),qF K x x st f fd/\mg x=some (.ref f)/\ud K fd ps []
noncomputable def yZ (P:Program) (w:World) (K:PySem.W.Frag) (mg:Str->Option Value) (base:Heap) (x:Str) (ps:List Str) (k:Nat) (sp:Sp):Prop:=
 ∃ (f:Addr) (fd:FuncData),mg x=some (.ref f)/\PySem.W.keepIn K (.ref f)=true/\ud K fd ps []/\ve P w K mg base wu k f fd ps sp
noncomputable def xf (mg:Str->Option Value) (x:Str) (v:V):Prop:=∃ u,mg x=some u/\zm v u
section
variable {P:Program} {w:World} {K:PySem.W.Frag} {mg:Str->Option Value} {base:Heap}
theorem Def.ok {x:Str} {st:Stmt} {N ps:List Str} {k:Nat} {sp:Sp} (d:Def K mg x st ps) (S:yQ N ps (zi st)) (len:∀ vs H Q E,sp vs H Q E->vs.length=ps.length)
  (hbody:∀ (f:Addr) (cdv:Value) (A:Around) (outer:List Env) (s:Shared) (H:Hp) (vs:List V) (Q:VK) (E:XK),xB k (A.deeper (envOfC x (zi st) s.heap.objs.size f cdv))->sp vs H Q E->
   ∃ t,wZ (vk wu P w K mg base N x (zi st) f cdv A outer s H E).nox (wg st) t/\t { nx:=fun _ H'=>Q .non H',rt:=Q } (start N vs) H):yZ P w K mg base x ps (k+1) sp:=by
 obtain ⟨f,fd,F,hm,hb⟩:=d
 exact ⟨f,fd,hm,F.kp,hb,F.ok S len (hbody f)⟩
end
section
variable {X:Cx} {x:Str} {p pos:Pos} {e:Expr} {es:List Expr} {t:TA} {ps:List Str} {j k:Nat} {sp:Sp} {v:V} {T:String}
noncomputable def ya:Expr->Bool
 | .Starred ..=>false
 | _=>true
theorem wp {e:Expr} {es:List Expr} {env:Env} (h:ya e=true):starEach (e::es) env=(false,eval e env)::starEach es env:=by
 cases e<;>first | rfl | cases h
theorem qo {env:Env} {pos:Pos}:∀ {es:List Expr},es.all ya=true->(backTo pos (starEach es env)).any (·.1)=false
 | [],_=>rfl
 | e::es,h=>by
  rw [List.all_cons,Bool.and_eq_true] at h
  rw [wp h.1]
  have ih:=qo (env:=env) (pos:=pos) h.2
  unfold backTo at ih ⊢
  rw [List.map_cons,List.any_cons,ih]
  rfl
theorem Zw {te:TE} (ha:PE X e te) (hr:PA X es t) (h:ya e=true:=by rfl):PA X (e::es) (UO te t):=DP ha hr (wp h)
noncomputable def Z4:Expr->Option Int
 | .Constant (.int i) _ _=>some i
 | _=>none
theorem OK {e:Expr} {i:Int} (h:Z4 e=some i):∃ k p,e=.Constant (.int i) k p:=by
 cases e<;>first | (cases h; done) | skip
 rename_i c k p
 cases c<;>first | (cases h; done) | skip
 cases h
 exact ⟨k,p,rfl⟩
noncomputable def gj:List Expr->Option (List Int)
 | []=>some []
 | e::r=>(Z4 e).bind fun i=>(gj r).map (i::·)
theorem Qx:∀ {es:List Expr} {is:List Int},gj es=some is->PA X es (fun _ H Q=>Q (is.map V.int) H)
 | [],is,h=>by
  cases (show some []=some is from h)
  exact Zv
 | e::r,is,h=>by
  have q:((Z4 e).bind fun i=>(gj r).map (i::·))=some is:=h
  cases e1:Z4 e with
  | none=>rw [e1] at q; cases q
  | some i=>
   rw [e1] at q
   obtain ⟨k,p,rfl⟩:=OK e1
   cases e2:gj r with
   | none=>rw [e2] at q; cases q
   | some js=>
    rw [e2] at q
    cases (show some (i::js)=some is from q)
    exact Zw J0 (Qx e2)
theorem J1 (h:yZ X.prog X.w X.K X.mg X.base x ps k sp) (hr:xB j X.A) (hg:Gl X x) (ha:PA X (e::es) t) (hk:k<=j:=by decide) (hdb:(x == ("__debug__" : Str))=false:=by decide)
  (he:(e::es).all ya=true:=by rfl):PE X (.Call (.Name x p) (e::es) [] pos) (YL sp [] E0 t):=by
 obtain ⟨f,fd,hm,kp,b,F⟩:=h
 rw [List.all_cons,Bool.and_eq_true] at he
 exact DX F (hr.mono hk) hg hm kp b .nil Q_ ha hdb (wp he.1) (qo he.2)
theorem Zx (h:xf X.mg x v) (hg:Gl X x) (hd:(x == ("__debug__" : Str))=false:=by decide):PE X (.Name x pos) (tC v):=by
 obtain ⟨u,hm,r⟩:=h
 exact De hg hm r hd
theorem DW (hg:Gl X x) (hm:X.mg x=none) (hv:bootBuiltins x=some (.type T)) (hn:x ≠ "__name__" := by decide) (hd:(x == ("__debug__" : Str))=false:=by decide):PE X (.Name x pos) (tC (.ty T)):=
 DU hg hm hv rfl hn hd
end
section
variable {X:Cx}
theorem jV:yU X (binaryOp .FloorDiv) (rI (fun _ j=>0<j/\j<2 ^ 64) fun i j=>.int (i / j)):=k6 fun i j _ _ _ _ _ hc q=>by
 have h1:(0:Int)<j:=hc.1
 have h2:j<2 ^ 64:=hc.2
 have h3:j.natAbs.log2<64:=(Nat.log2_lt (by omega)).mpr (by omega)
 exact PyProof.Rows.floordiv_int (by omega) (by rw [Int.fdiv_eq_ediv_of_nonneg i (by omega)]; exact q) (.inl (PyProof.noPylong_of_log2 (by omega)))
end
theorem yt:bootBuiltins "len" = some (.builtin "len"):=by decide +kernel
theorem Xt:bootBuiltins "isinstance" = some (.builtin "isinstance"):=by decide +kernel
theorem gL:bootBuiltins "all" = some (.builtin "all"):=by decide +kernel
theorem ZD:bootBuiltins "int" = some (.type "int"):=by decide +kernel
theorem T9:bootBuiltins "bool" = some (.type "bool"):=by decide +kernel
theorem ZE:bootBuiltins "str" = some (.type "str"):=by decide +kernel
theorem Xs:bootBuiltins "tuple" = some (.type "tuple"):=by decide +kernel
theorem MW {K:PySem.W.Frag}:PySem.W.kitOne K (.type "int") (.type "int")=some true:=by rfl
theorem MU {K:PySem.W.Frag}:PySem.W.kitOne K (.type "bool") (.type "int")=some true:=by kernel_rfl
theorem MV {K:PySem.W.Frag}:PySem.W.kitOne K (.type "int") (.type "bool")=some false:=by kernel_rfl
theorem MT {K:PySem.W.Frag}:PySem.W.kitOne K (.type "bool") (.type "bool")=some true:=by rfl
theorem MY {K:PySem.W.Frag}:PySem.W.kitOne K (.type "NoneType") (.type "int")=some false:=by kernel_rfl
theorem MX {K:PySem.W.Frag}:PySem.W.kitOne K (.type "NoneType") (.type "bool")=some false:=by kernel_rfl
theorem Ma {K:PySem.W.Frag}:PySem.W.kitOne K (.type "tuple") (.type "tuple")=some true:=by rfl
theorem MZ {K:PySem.W.Frag}:PySem.W.kitOne K (.type "str") (.type "str")=some true:=by rfl
theorem wP {H:Hp} {p:Addr} (h:H p=none) (o:HO):yL H (zZ H p o):=fun b u q=>by rw [yj (wj q h)]; exact q
theorem zW {n:Nat} (h:n<=1000):n<=sizeLine:=Nat.le_of_lt (E1 h)
end L2
namespace L2
open PySem PySem.Spec PyProof.Rows
end L2
namespace L2
open PySem PySem.Spec PyProof.Rows
noncomputable def t_ (env:Env):List (Str×Addr)->Prop
 | []=>True
 | p::r=>env.cells.lookup p.1=some p.2/\t_ env r
theorem t_.get {env:Env}:∀ {cl:List (Str×Addr)} {y:Str} {c:Addr},t_ env cl->cl.lookup y=some c->env.cells.lookup y=some c
 | [],_,_,_,h=>by cases h
 | (n,a)::r,y,c,hc,h=>by
  rw [List.lookup_cons] at h
  cases e:y == n with
  | true=>
   rw [e] at h
   have e':y=n:=by simpa using e
   subst e'
   have h':a=c:=by simpa using h
   subst h'
   exact hc.1
  | false=>
   rw [e] at h
   exact t_.get hc.2 (by simpa using h)
noncomputable def j9 (scope:Scope) (env:Env) (cl:List (Str×Addr)) (own:List Str):Bool:=
 scope.names.all fun p=>p.1 != ("." : Str)&&((p.2 == .local&&(own.contains p.1||p.1 == (".0" : Str)))||p.2 == .globalImplicit||p.2 == .globalExplicit ||
  (p.2 == .free&&(env.kindOf p.1 == some .cell||env.kindOf p.1 == some .free)&&(cl.lookup p.1).isSome))
noncomputable def gg (own:List Str) (y:Str):Str:=if own.contains y||y == (".0" : Str) then "." else y
noncomputable def xY (N own:List Str):List Str:=N.map (gg own)++own
theorem VF {env:Env}:∀ {names:List (Str×NameKind)} {y:Str} {k:NameKind},
  (names.map fun (n,k)=>if (k == NameKind.free&&env.scope.kind == .function&&env.kindOf n == some .cell) then (n,NameKind.cell) else (n,k)).lookup y=some k->∃ k0,(y,k0)∈names/\(k=k0\/(k0=.free/\k=.cell))
 | [],_,_,h=>by simp at h
 | (n,k')::r,y,k,h=>by
  rw [List.map_cons] at h
  by_cases hc:(k' == NameKind.free&&env.scope.kind == .function&&env.kindOf n == some .cell)=true
  ·dsimp only at h
   rw [if_pos hc,List.lookup_cons] at h
   cases e:y == n with
   | true=>
    rw [e] at h
    have e':y=n:=by simpa using e
    subst e'
    have h':NameKind.cell=k:=by simpa using h
    have hf:k'=.free:=by
     rw [Bool.and_eq_true,Bool.and_eq_true] at hc
     simpa using hc.1.1
    exact ⟨k',List.mem_cons_self,.inr ⟨hf,h'.symm⟩⟩
   | false=>
    rw [e] at h
    obtain ⟨k0,m,z⟩:=VF (env:=env) (by simpa using h)
    exact ⟨k0,List.mem_cons_of_mem _ m,z⟩
  ·dsimp only at h
   rw [if_neg hc,List.lookup_cons] at h
   cases e:y == n with
   | true=>
    rw [e] at h
    have e':y=n:=by simpa using e
    subst e'
    have h':k'=k:=by simpa using h
    exact ⟨k',List.mem_cons_self,.inl h'.symm⟩
   | false=>
    rw [e] at h
    obtain ⟨k0,m,z⟩:=VF (env:=env) (by simpa using h)
    exact ⟨k0,List.mem_cons_of_mem _ m,z⟩
noncomputable def xR (X:Cx) (scope:Scope) (cl:List (Str×Addr)) (own:List Str) (C:Addr) (s2:Shared) (H2:Hp) (fp:List Addr) (pn:List (Addr×Obj)):Cx:=
 { X with N:=xY X.N own,s₀:=s2,H₀:=H2,env:=compEnvC scope cl C X.env,outer:=X.stack,stack:=X.stack,ex:=fp,fn:=fun _=>false,pn:=pn,xe:=fun _ _=>False }
section
variable {X:Cx} {pins:List (Addr×Obj)} {σ:St} {H2:Hp} {s2:Shared} {scope:Scope} {cl:List (Str×Addr)} {own:List Str} {C D:Addr} {fp:List Addr}
theorem T4 (hb:j9 scope X.env cl own=true) {y:Str} {k:NameKind} (h:(relabel scope X.env).names.lookup y=some k) :
  y ≠ "." /\ ((k=.local->own.contains y=true\/y = ".0")/\((k=.cell\/k=.free)->(∃ k0,(y,k0)∈scope.names/\k0=.cell)\/((X.env.kindOf y=some .cell\/X.env.kindOf y=some .free)/\∃ c,cl.lookup y=some c))):=by
 obtain ⟨k0,m,z⟩:=VF h
 have q:=List.all_eq_true.mp hb _ m
 rw [Bool.and_eq_true] at q
 obtain ⟨q1,q2⟩:=q
 refine ⟨by simpa using q1,fun hk=>?_,fun hk=>?_⟩
 ·rcases z with z | ⟨_,z⟩
  ·subst z
   subst hk
   simpa using q2
  ·rw [z] at hk
   cases hk
 ·have hf:k0=.free\/k0=.cell:=by
   rcases z with z | ⟨z,_⟩
   ·subst z
    rcases hk with hk | hk
    ·exact .inr hk
    ·exact .inl hk
   ·exact .inl z
  rcases hf with hf | hf
  ·subst hf
   right
   have q3:((X.env.kindOf y == some .cell||X.env.kindOf y == some .free)&&(cl.lookup y).isSome)=true:=by simpa using q2
   rw [Bool.and_eq_true] at q3
   refine ⟨?_,Option.isSome_iff_exists.mp q3.2⟩
   have:=q3.1
   rw [Bool.or_eq_true] at this
   rcases this with t | t
   ·exact .inl (by simpa using t)
   ·exact .inr (by simpa using t)
  ·exact .inl ⟨k0,m,hf⟩
theorem Xp (hb:j9 scope X.env cl own=true) (hcell:∀ y∈scope.names,y.2≠.cell) {y:Str} {k:NameKind} (h:(relabel scope X.env).names.lookup y=some k) (hk:k=.cell\/k=.free) :
  (X.env.kindOf y=some .cell\/X.env.kindOf y=some .free)/\∃ c,cl.lookup y=some c:=by
 rcases (T4 hb h).2.2 hk with ⟨k0,m,e⟩ | q
 ·exact absurd e (hcell _ m)
 ·exact q
theorem T5 (I:zC X pins σ H2 s2) (hk:scope.kind=.function) (hcell:∀ y∈scope.names,y.2≠.cell) (hcap:t_ X.env cl) (hb:j9 scope X.env cl own=true) (hC:s2.heap.objs.size<=C)
  (hfp:∀ b∈fp,v_ X pins H2 b) (hfo:∀ b∈fp,∃ o,s2.heap.get? b=some o):(xR X scope cl own C s2 H2 fp (X.pn++pins)).Ok where
 mod:=I.ok.mod
 kind:=hk
 glob:=I.ok.glob
 blt:=I.ok.blt
 above:=hC
 inj:=fun x y c h1 h2=>I.ok.inj x y c (hcap.get h1) (hcap.get h2)
 has:=fun x hx=>by
  rcases hx with hx | hx
  ·exact (Xp hb hcell (show (relabel scope X.env).names.lookup x=_ from hx) (.inl rfl)).2
  ·exact (Xp hb hcell (show (relabel scope X.env).names.lookup x=_ from hx) (.inr rfl)).2
 cab:=fun x c h=>by cases h
 hd:=I.ok.hd
 frames:=I.ok.frames
 stk:=.inl rfl
 exf:=fun b hx=>⟨by
  obtain ⟨o,e⟩:=hfo b hx
  exact Nat.ne_of_lt (Nat.lt_of_lt_of_le (Heap.lt_size e) hC),fun x c h=>(hfp b hx).2.2.2.2.1 x c (hcap.get h)⟩
 bs:=I.bs
 bsz:=Nat.le_trans I.ok.bsz I.sz
 noex:=fun b o e hx=>by
  rcases (hfp b hx).2.2.2.1 with z | z
  ·exact I.ok.noex b o e z
  ·exact absurd (Nat.lt_of_lt_of_le (Heap.lt_size e) (Nat.le_trans I.ok.bsz z)) (Nat.lt_irrefl _)
 exfs:=fun b hx hz=>by
  rcases List.mem_cons.mp (I.stkSub b hz) with z | z
  ·exact (hfp b hx).2.1 z
  ·exact (hfp b hx).2.2.1 z
 funs:=I.stack
 frf:=I.stkFree
theorem ZN {α:Type} {σ:List (Option α)} {n i:Nat} {v:α} (h:(σ++List.replicate n none)[i]?=some (some v)):σ[i]?=some (some v):=by
 by_cases hi:i<σ.length
 ·rw [List.getElem?_append_left hi] at h
  exact h
 ·rw [List.getElem?_append_right (by omega),List.getElem?_replicate] at h
  split at h<;>cases h
theorem OS {h4:Heap} {m0:Str->Option Value} {dobj:Obj} {tk:Nat} (I:zC X pins σ H2 s2) (hk:scope.kind=.function) (hcell:∀ y∈scope.names,y.2≠.cell) (hcap:t_ X.env cl) (hb:j9 scope X.env cl own=true)
  (hC:s2.heap.objs.size<=C) (hD:s2.heap.objs.size<=D) (hDC:D≠C) (hfp:∀ b∈fp,v_ X pins H2 b) (hfo:∀ b∈fp,∃ o,s2.heap.get? b=some o)
  (keep:∀ b o,s2.heap.get? b=some o->h4.get? b=some o) (ns:h4.Ns C m0) (hd:h4.get? D=some dobj) (hdd:∀ v,dobj.data≠.cell v) :
  zC (xR X scope cl own C s2 H2 fp (X.pn++pins)) [(D,dobj)] (σ++List.replicate own.length none) H2 { s2 with heap:=h4,toks:=tk }:=by
 have nfs:∀ a,s2.heap.objs.size<=a->a ∉ yz X.stack:=fun a ha hz=>by
  rcases List.mem_cons.mp (I.stkSub a hz) with z | z
  ·exact absurd (Nat.lt_of_lt_of_le I.lt ha) (by rw [z]; exact Nat.lt_irrefl _)
  ·exact I.nofs ha z
 refine ⟨T5 I hk hcell hcap hb hC hfp hfo,rfl,I.bare,Un.kept keep,⟨m0,ns,fun i y v e1 e2 e3=>?_⟩,fun x c h=>?_,I.hok.fresh hC,fun x c h=>I.freeC x c (hcap.get h),fun p hp=>?_,I.hok.kept keep,?_⟩
 ·have e2':σ[i]?=some (some v):=ZN e2
  have hi:i<X.N.length:=by
   have:=(List.getElem?_eq_some_iff.mp e2').1
   rw [I.len] at this
   exact this
  have e1':(X.N.map (gg own)++own)[i]?=some y:=e1
  rw [List.getElem?_append_left (by simpa using hi),List.getElem?_map] at e1'
  cases en:X.N[i]? with
  | none=>
   rw [en] at e1'
   cases e1'
  | some n=>
   rw [en] at e1'
   have ey:gg own n=y:=Option.some.inj e1'
   have vis:∃ k,(relabel scope X.env).names.lookup y=some k/\(k=.local\/k=.cell\/k=.free):=by
    rcases e3 with z | z | z
    ·exact ⟨_,z,.inl rfl⟩
    ·exact ⟨_,z,.inr (.inl rfl)⟩
    ·exact ⟨_,z,.inr (.inr rfl)⟩
   obtain ⟨k,lk,kk⟩:=vis
   obtain ⟨nd,loc,_⟩:=T4 hb lk
   unfold gg at ey
   by_cases ho:(own.contains n||n == (".0" : Str))=true
   ·rw [if_pos ho] at ey
    exact absurd ey.symm nd
   ·rw [if_neg ho] at ey
    subst ey
    have kk':k=.cell\/k=.free:=by
     rcases kk with z | z
     ·exfalso
      apply ho
      rcases loc z with t | t
      ·rw [t]; rfl
      ·subst t; simp
     ·exact z
    obtain ⟨ok,c,hc⟩:=Xp hb hcell lk kk'
    obtain ⟨m,hn,hl⟩:=I.loc
    obtain ⟨u,r,l⟩:=hl i n v en e2' (.inr ok)
    refine ⟨u,r,.inr ⟨?_,c,hc,?_⟩⟩
    ·rcases kk' with z | z
     ·subst z; exact .inl lk
     ·subst z; exact .inr lk
    ·rcases l with ⟨z,_⟩ | ⟨_,c',hc',z⟩
     ·rcases ok with t | t<;>(rw [t] at z; cases z)
     ·rw [hcap.get hc] at hc'
      cases hc'
      obtain ⟨o,ho',hd'⟩:=z
      exact ⟨o,keep _ _ ho',hd'⟩
 ·obtain ⟨v,o,ho,hd'⟩:=I.cell x c (hcap.get h)
  exact ⟨v,o,keep _ _ ho,hd'⟩
 ·rcases List.mem_append.mp hp with z | z
  ·obtain ⟨e,n,ne,nf,d⟩:=I.pin p z
   refine ⟨keep _ _ e,n,Nat.ne_of_lt (Nat.lt_of_lt_of_le (Heap.lt_size e) hC),fun hz=>?_,d⟩
   rcases List.mem_cons.mp (I.stkSub p.1 hz) with t | t
   ·exact ne t
   ·exact nf t
  ·have e:p=(D,dobj):=by simpa using z
   subst e
   exact ⟨hd,I.hok.fresh hD,hDC,nfs D hD,hdd⟩
 ·show (σ++List.replicate own.length none).length=(X.N.map (gg own)++own).length
  rw [List.length_append,List.length_append,List.length_replicate,List.length_map,I.len]
end
end L2
namespace L2
open PySem PySem.Spec PyProof.Rows
noncomputable def qz (X:Cx) (ifs:List Expr) (tc:TT):Prop:=
 ∀ (pins:List (Addr×Obj)) (s:Shared) (σ:St) (H:Hp) (Q:Bool->Hp->Prop),zC X pins σ H s->tc σ H Q->
  wpAny (model X.prog X.w) X.A (forIn ifs true fun c r=>if r=true then do let ok <- isTrue c X.env (eval c X.env); pure (ForInStep.yield ok) else pure (ForInStep.yield r)) (TP X pins σ Q) X.xe s
noncomputable def Ee:TT:=fun _ H Q=>Q true H
theorem Fa {X:Cx}:qz X [] Ee:=fun _ _ _ H _ I h=>wpAny_tests_nil ⟨H,I,h⟩
theorem Fb {X:Cx} {c:Expr} {t:TT} (h:PT X c t):qz X [c] t:=fun pins s σ H Q I q=>wpAny_tests_one (h pins s σ H Q I q)
section
variable {prog:Program} {w:World} {A:Around} {R:Result->Shared->Prop} {s:Shared}
theorem Mk {elt tg iter:Expr} {ifs:List Expr} {scope:Scope} {pos:Pos} {it acc:Value} {env:Env} (J:Nat->Shared->Prop)
  (turn:∀ n s,J n s->wpAny (model prog w) A (pyNext it) (fun r s₁=>match r with
   | none=>R (.ok .next) s₁
   | some v=>wpAny (model prog w) A (letOwnedTupleGo tg it v) (fun _ z=>wpAny (model prog w) A (assign tg env v) (fun _ s₂=>
    wpAny (model prog w) A (forIn ifs true fun c r=>if r=true then do let ok <- isTrue c env (eval c env); pure (ForInStep.yield ok) else pure (ForInStep.yield r)) (fun ok s₃=>
     if ok=true then wpAny (model prog w) A (eval elt env) (fun x s₄=>wpAny (model prog w) A (call (.builtin "list.append") [acc,x]) (fun _ s₅=>∃ m,m<n/\J m s₅) (fun _ _=>False) s₄) (fun _ _=>False) s₃
     else ∃ m,m<n/\J m s₃) (fun _ _=>False) s₂) (fun _ _=>False) z) (fun _ _=>False) s₁) (fun _ _=>False) s)
  (n:Nat) (h:J n s):codeAny (model prog w) A (.compLoop (.ListComp elt [⟨tg,iter,ifs,0⟩] scope pos) 0 it acc env) R s:=by
 have no:∀ {P:Value->Shared->Prop},∀ e s',(fun _ _=>False:Value->Shared->Prop) e s'->P e s':=fun _ _ z=>z.elim
 refine codeAny_loop rfl J (fun n s hI=>?_) n h
 show wpAny _ A (Sem.onRaise (compTurn (.ListComp elt [⟨tg,iter,ifs,0⟩] scope pos) 0 it acc env) (fun x=>do noteFrame x env; theTreesLotGoes x)) _ _ s
 refine wpAny_noted ?_
 rw [compTurn_list]
 refine wpAny_bind (wpAny_standAt (wpAny_bind (wpAny_mono (turn n s hI) (fun r s₁ h₁=>?_) no)))
 cases r with
 | none=>exact wpAny_pure h₁
 | some v=>
  refine wpAny_bind (wpAny_mono h₁ (fun _ z hz=>?_) no)
  refine wpAny_bind (wpAny_mono hz (fun _ s₂ h₂=>?_) no)
  refine wpAny_bind (wpAny_mono h₂ (fun ok s₃ h₃=>?_) no)
  cases ok with
  | false=>exact wpAny_pure ⟨rfl,h₃⟩
  | true=>
   refine wpAny_bind (wpAny_bind (wpAny_mono h₃ (fun x s₄ h₄=>?_) no))
   exact wpAny_bind (wpAny_mono h₄ (fun _ s₅ h₅=>wpAny_pure (wpAny_pure ⟨rfl,h₅⟩)) no)
end
noncomputable abbrev wA (its:List Value) (k:Nat):Obj:={ cls:=.type "list",data:=.seq its.toArray k }
theorem Qb {its:List Value} {k:Nat}:∀ v,(wA its k).data≠.cell v:=fun _ z=>nomatch z
section
variable {X:Cx} {σ:St} {H:Hp} {s:Shared} {D:Addr}
theorem MA {pl:List (Addr×Obj)} {its its':List Value} {k k' tk:Nat} {h':Heap} (I:zC X ((D,wA its k)::pl) σ H s) (hD:X.s₀.heap.objs.size<=D) (hpn:∀ p∈X.pn,p.1≠D)
  (hs:Heap.SameBut D s.heap h') (hd:h'.get? D=some (wA its' k')):zC X [(D,wA its' k')] σ H { s with heap:=h',toks:=tk }:=by
 obtain ⟨e,n,ne,nf,d⟩:=I.pin (D,wA its k) (List.mem_append_right _ List.mem_cons_self)
 have I0:zC X [] σ H s:=I.pins_of fun p hp=>absurd hp (by simp)
 have I1:zC X [] σ H { s with heap:=h',toks:=tk }:=I0.turned (it:=D) (fun b o hb q=>(hs.2 b hb).trans q) n ne (.inr hD) (fun x c hc z=>by
  subst z
  obtain ⟨v,o,ho,hv⟩:=I.cell x c hc
  rw [show s.heap.get? c=some (wA its k) from e] at ho
  cases ho
  exact d v hv) (fun p hp=>hpn p (by simpa using hp))
 exact I1.pins_of fun p hp=>by
  have q:p=(D,wA its' k'):=by simpa using hp
  subst q
  exact ⟨hd,n,ne,nf,Qb⟩
end
section
variable {X:Cx} {tg iter elt:Expr} {ifs:List Expr} {scope:Scope} {cl:List (Str×Addr)} {own:List Str} {pos:Pos} {te:TE} {tc:TT} {g:TG} {wi:TI}
theorem Ex {fs ex:List Addr} {H H':Hp} {h h':Heap} {D:Addr} {o:HO} (u:Un fs ex H H' h h') (hD:h.objs.size<=D) (hn:H' D=none):Un fs ex H (zZ H' D o) h h' where
 keep:=u.keep
 slot:=u.slot
 free:=fun b ob q n hx=>by rw [yj (fun z=>by subst z; exact absurd (Nat.lt_of_lt_of_le (Heap.lt_size q) hD) (Nat.lt_irrefl _))]; exact u.free b ob q n hx
 there:=u.there
 tups:=fun b xs q=>by rw [yj (wj (u.tups b xs q) hn)]; exact u.tups b xs q
 frzs:=fun b ob v q=>by rw [yj (wj (u.frzs b ob v q) hn)]; exact u.frzs b ob v q
 tbls:=fun b ps q=>by
  obtain ⟨more,z⟩:=u.tbls b ps q
  exact ⟨more,by rw [yj (wj z hn)]; exact z⟩
theorem WY {P:Program} {w:World} {H:Hp} {h:Heap} {D:Addr} {o:HO} (x:yo P w H h) (hn:H D=none) (new:yr P w (zZ H D o) h D o):yo P w (zZ H D o) h:=fun b u e=>by
 by_cases hb:b=D
 ·subst hb
  rw [xK] at e
  cases e
  exact new
 ·rw [yj hb] at e
  refine (x b u e).stay (fun c v _ q=>q) (fun c q=>?_) (fun c xs q=>?_)
  ·rw [yj (wj q hn)]; exact q
  ·rw [yj (wj q hn)]; exact q
structure qw (X:Cx) (scope:Scope) (cl:List (Str×Addr)) (own:List Str):Prop where
 kind:scope.kind=.function
 cell:∀ y∈scope.names,y.2≠.cell
 cap:t_ X.env cl
 ok:j9 scope X.env cl own=true
 clos:closureFor scope X.env=pure cl
 names:∀ y∈scope.names,y.2=.local->scope.names.lookup y.1=some .local
structure kf (X:Cx) (pins:List (Addr×Obj)) (H:Hp) (s:Shared) (C:Addr):Prop where
 free:H C=none
 ne:C≠X.env.locals
 old:X.s₀.heap.objs.size<=C
 cell:∀ x c,X.env.cells.lookup x=some c->c≠C
 pin:∀ p∈X.pn++pins,p.1≠C
noncomputable def Zl (σ:St) (n:Nat) (J:It) (g:TG) (tc:TT) (te:TE) (W:Nat->Nat->List V->Hp->Prop) (Fin:List V->Hp->Prop):Prop:=
 ∀ i m ys H,W i m ys H->(J.stop i H/\Fin ys H)\/(J.go i H/\ys.length<sizeLine/\∃ N:List V->Hp->Prop,(∀ ys' H',N ys' H'->∃ m',m'<m/\W (i+1) m' ys' H')/\
  ∀ x H',J.yld i H x H'->g x (σ++List.replicate n none) H' fun σ2 H3=>(∃ τ,σ2=σ++τ)/\tc σ2 H3 fun c H4=>if c=true then te σ2 H4 fun y H5=>N (ys++[y]) H5 else N ys H4)
theorem T6 {pins:List (Addr×Obj)} {σ:St} {H2:Hp} {s2:Shared} {fp:List Addr} {it:Addr} {tn:Nat->Heap->Prop} {J:It} {W:Nat->Nat->List V->Hp->Prop} {Fin:List V->Hp->Prop} {m0:Nat}
  {RR:Value->Addr->Result->Shared->Prop} (hcalm:X.calm=true) (B:qw X scope cl own) (I:zC X pins σ H2 s2) (T:qJ X.prog X.w X.K tg J fp it tn) (t0:tn 0 s2.heap) (hfp:∀ b∈fp,v_ X pins H2 b)
  (hg:∀ C s H fp pn,PG (xR X scope cl own C s H fp pn) tg g) (hc:∀ C s H fp pn,qz (xR X scope cl own C s H fp pn) ifs tc) (he:∀ C s H fp pn,PE (xR X scope cl own C s H fp pn) elt te)
  (W0:W 0 m0 [] H2) (turn:Zl σ own.length J g tc te W Fin)
  (hRR:∀ D C s' H' ys m',zC X pins σ (zZ H' D (.lst ys)) s'->H' D=none->Fin ys H'->s'.heap.Ns C m'->kf X pins (zZ H' D (.lst ys)) s' C->RR (.ref D) C (.ok .next) s') {E:Value->Shared->Prop} :
  wpAny (model X.prog X.w) X.A (newList []) (fun acc s3=>wpAny (model X.prog X.w) X.A (newFunctionEnv scope X.env.globals cl [] X.env.qual none .none (some X.env)) (fun cenv s4=>
   codeAny (model X.prog X.w) X.A (.compStart (.ListComp elt [⟨tg,iter,ifs,0⟩] scope pos) 0 (.ref it) acc { cenv with scope:=relabel scope X.env }) (RR acc cenv.locals) s4) E s3) E s2:=by
 refine wpAny_newObj_type (wpAny_newFunctionEnv B.cell (by intro y hy; simp at hy) (fun h4 hns hsb=>?_) B.kind)
 dsimp only at hns hsb ⊢
 generalize hP:s2.heap.push (wA [] 0)=P2 at hns hsb ⊢
 have hC:P2.objs.size=s2.heap.objs.size+1:=by rw [<- hP,Heap.size_push]
 have hDC:s2.heap.objs.size≠P2.objs.size:=by rw [hC]; exact Nat.ne_of_lt (Nat.lt_succ_self _)
 have hCle:s2.heap.objs.size<=P2.objs.size:=by rw [hC]; exact Nat.le_succ _
 have keep:∀ b o,s2.heap.get? b=some o->h4.get? b=some o:=fun b o e=>
  hsb.extBut b o (Nat.ne_of_lt (Nat.lt_of_lt_of_le (Heap.lt_size e) hCle)) (Heap.get?_push_of_some _ (hP ▸ Heap.get?_push_of_some _ e))
 have hd4:h4.get? s2.heap.objs.size=some (wA [] 0):=hsb.extBut _ _ hDC (Heap.get?_push_of_some _ (hP ▸ Heap.get?_push_size _ rfl))
 have hfo:∀ b∈fp,∃ o,s2.heap.get? b=some o:=fun b hb=>let ⟨o,e,_⟩:=T.obj 0 _ t0 b hb; ⟨o,e⟩
 have lt:∀ b∈fp,b<s2.heap.objs.size:=fun b hb=>let ⟨o,e⟩:=hfo b hb; Heap.lt_size e
 generalize hDD:s2.heap.objs.size=D at hDC hd4 ⊢
 generalize hCC:P2.objs.size=C at hDC hns hsb hCle ⊢
 have hDle:s2.heap.objs.size<=D:=Nat.le_of_eq hDD
 let X':=xR X scope cl own C s2 H2 fp (X.pn++pins)
 have hpn:∀ p∈X'.pn,p.1≠D:=fun p hp z=>by
  obtain ⟨e,_⟩:=I.pin p hp
  rw [z] at e
  exact absurd (Nat.lt_of_lt_of_le (Heap.lt_size e) hDle) (Nat.lt_irrefl _)
 have okb:=T5 I B.kind B.cell B.cap B.ok hCle hfp hfo
 have fpok:∀ {k:Nat} {its:List Value} {H':Hp},(∀ b∈fp,H' b=none)->∀ b∈fp,v_ X' [(D,wA its k)] H' b:=fun {k its H'} hn b hb=>
  ⟨hn b hb,(okb.exf b hb).1,okb.exfs b hb,.inl hb,(okb.exf b hb).2,fun p hp=>by
   rcases List.mem_append.mp hp with z | z
   ·exact (hfp b hb).2.2.2.2.2 p z
   ·have q:p=(D,wA its k):=by simpa using z
    subst q
    exact fun z=>absurd (lt b hb) (by rw [<- z]; exact Nat.not_lt.mpr hDle)⟩
 have loop:∀ s4:Shared,s4={ s2 with heap:=h4,toks:=s2.toks+([]:List (Str×Value)).length }->
   codeAny (model X.prog X.w) X.A (.compLoop (.ListComp elt [⟨tg,iter,ifs,0⟩] scope pos) 0 (.ref it) (.ref D) (compEnvC scope cl C X.env)) (RR (.ref D) C) s4:=by
  rintro s4 rfl
  refine Mk (fun n s'=>∃ (i:Nat) (ys:List V) (its:List Value) (k:Nat) (H':Hp),zC X' [(D,wA its k)] (σ++List.replicate own.length none) H' s'/\zf ys its/\tn i s'.heap/\(∀ b∈fp,H' b=none)/\W i n ys H'/\ys.length<=sizeLine) ?_ m0
   ⟨0,[],[],0,H2,OS I B.kind B.cell B.cap B.ok hCle hDle hDC hfp hfo keep hns hd4 Qb,.nil,T.keep _ _ _ t0 fun b _ o e=>keep b o e,fun b hb=>(hfp b hb).1,W0,Nat.zero_le _⟩
  rintro n s5 ⟨i,ys,its,k,H5,I5,v5,st5,fr5,w5,z5⟩
  rcases turn i n ys H5 w5 with ⟨stop,fin⟩ | ⟨go,room,N,hN,step⟩
  ·refine wpAny_mono (T.done X' rfl rfl rfl hcalm i _ s5 _ H5 (fun _ _=>False) I5 (fpok fr5) st5 stop) (fun r s6 ⟨hr,I6⟩=>?_) fun _ _ z=>z
   subst hr
   obtain ⟨e6,n6,ne6,nf6,d6⟩:=I6.pin (D,wA its k) (List.mem_append_right _ List.mem_cons_self)
   obtain ⟨m6,ns6,_⟩:=I6.loc
   have u6:Un (yz X.stack) fp H2 (zZ H5 D (.lst ys)) s2.heap s6.heap:=Ex I6.base hDle n6
   have new6:yr X.prog X.w (zZ H5 D (.lst ys)) s6.heap D (.lst ys):=⟨z5,its,k,v5,e6⟩
   have I7:zC X pins σ (zZ H5 D (.lst ys)) s6:=I.call' I6.os u6 (WY I6.hok n6 new6) I6.bare (fun b hb=>⟨(hfp b hb).2.2.2.1,(hfp b hb).2.1,(hfp b hb).2.2.2.2.1,(hfp b hb).2.2.2.2.2⟩)
   refine hRR D C s6 H5 ys m6 I7 n6 fin ns6 ⟨?_,?_,?_,fun x c hcx z=>?_,fun p hp z=>?_⟩
   ·rw [yj (Ne.symm hDC)]; exact I6.free
   ·exact fun z=>absurd I.lt (by rw [<- z]; exact Nat.not_lt.mpr hCle)
   ·exact Nat.le_trans I.sz hCle
   ·subst z
    obtain ⟨v,o,ho,_⟩:=I.cell x c hcx
    exact absurd (Nat.lt_of_lt_of_le (Heap.lt_size ho) hCle) (Nat.lt_irrefl _)
   ·obtain ⟨e,_⟩:=I.pin p hp
    rw [z] at e
    exact absurd (Nat.lt_of_lt_of_le (Heap.lt_size e) hCle) (Nat.lt_irrefl _)
  ·refine wpAny_mono (T.item X' rfl rfl rfl hcalm i _ s5 _ H5 (fun _ _=>False) I5 (fpok fr5) st5 go) (fun r s6 ⟨u,hr,h6⟩=>?_) fun _ _ z=>z
   subst hr
   refine wpAny_mono h6 (fun _ s7 ⟨x,H7,I7,r7,y7,st7,fr7⟩=>?_) fun _ _ z=>z
   have I7':=I7.pinned (fpok fr7) (T.obj _ _ st7)
   refine wpAny_mono (hg C s2 H2 fp _ _ s7 _ H7 x u _ I7' r7 (step x H7 y7)) (fun _ s8 ⟨σ8,H8,I8,⟨τ,hτ⟩,q8⟩=>?_) fun _ _ z=>z
   subst hτ
   have back:∀ {n':Nat} {ys':List V} {its':List Value} {k':Nat} {H9:Hp} {s9:Shared} {pl:List (Addr×Obj)},zC X' ((D,wA its' k')::pl) (σ++τ) H9 s9->zf ys' its'->tn (i+1) s9.heap->(∀ b∈fp,H9 b=none)->W (i+1) n' ys' H9->ys'.length<=sizeLine->
     ∃ (i:Nat) (ys:List V) (its:List Value) (k:Nat) (H':Hp),zC X' [(D,wA its k)] (σ++List.replicate own.length none) H' s9/\zf ys its/\tn i s9.heap/\(∀ b∈fp,H' b=none)/\W i n' ys H'/\ys.length<=sizeLine:=fun {n' ys' its' k' H9 s9 pl} I9 v9 st9 fr9 w9 z9=>by
    have I9':zC X' [(D,wA its' k')] (σ++τ) H9 s9:=I9.pins_of fun p hp=>I9.pin p (List.mem_append_right _ (by
     have q:p=(D,wA its' k'):=by simpa using hp
     subst q
     exact List.mem_cons_self))
    refine ⟨i+1,ys',its',k',H9,I9'.weak ?_ (fun j v e=>?_),v9,st9,fr9,w9,z9⟩
    ·rw [I9'.len,<- I5.len]
    ·have e':=ZN e
     rw [List.getElem?_append_left (List.getElem?_eq_some_iff.mp e').1]
     exact e'
   have keepIt:∀ {σ9:St} {H9:Hp} {s9:Shared},zC X' ([(D,wA its k)]++k9 fp s7.heap) σ9 H9 s9->tn (i+1) s9.heap/\∀ b∈fp,H9 b=none:=fun {σ9 H9 s9} I9=>
    ⟨T.keep _ _ _ st7 fun b hb o e=>(I9.pin (b,o) (List.mem_append_right _ (List.mem_append_right _ (Zr hb e)))).1,fun b hb=>by
     obtain ⟨o,e,_⟩:=T.obj _ _ st7 b hb
     exact (I9.pin (b,o) (List.mem_append_right _ (List.mem_append_right _ (Zr hb e)))).2.1⟩
   refine wpAny_mono (hc C s2 H2 fp _ _ s8 _ H8 _ I8 q8) (fun c s9 ⟨H9,I9,q9⟩=>?_) fun _ _ z=>z
   cases c with
   | false=>
    rw [if_neg Bool.false_ne_true] at q9 ⊢
    obtain ⟨m',hm,w9⟩:=hN _ _ q9
    exact ⟨m',hm,back I9 v5 (keepIt I9).1 (keepIt I9).2 w9 z5⟩
   | true=>
    rw [if_pos rfl] at q9 ⊢
    refine wpAny_mono (he C s2 H2 fp _ _ s9 _ H9 _ I9 q9) (fun yv sa ⟨y,Ha,Ia,ra,qa⟩=>?_) fun _ _ z=>z
    obtain ⟨m',hm,wa⟩:=hN _ _ qa
    obtain ⟨ea,na,_⟩:=Ia.pin (D,wA its k) (List.mem_append_right _ (List.mem_append_left _ List.mem_cons_self))
    have szi:its.toArray.size<=sizeLine:=by
     have:=v5.length
     simp only [List.size_toArray]
     omega
    refine wpAny_list_append_plain (hsz:=szi) ⟨k,ea⟩ fun hb hlb hsb'=>?_
    obtain ⟨kb,eb⟩:=hlb
    have eb':hb.get? D=some (wA (its++[yv]) kb):=by rw [eb]; simp
    have Ib:zC X' [(D,wA (its++[yv]) kb)] (σ++τ) Ha { sa with heap:=hb,toks:=sa.toks }:=MA (tk:=sa.toks) Ia hDle hpn hsb' eb'
    have stb:tn (i+1) hb:=T.keep _ _ _ (keepIt Ia).1 fun b hbf o e=>(hsb'.2 b (fun z=>absurd (lt b hbf) (by rw [z]; exact Nat.not_lt.mpr hDle))).trans e
    exact ⟨m',hm,back Ib (zf.append v5 (.cons ra .nil)) stb (keepIt Ia).2 wa (by rw [List.length_append]; exact room)⟩
 exact codeAny_compStart_list (loop _ rfl) (T.self X.A 0 _ _ _ (T.keep _ _ _ t0 fun b _ o e=>keep b o e) (loop _ rfl))
noncomputable def EO (n:Nat) (wi:TI) (g:TG) (tc:TT) (te:TE):TE:=fun σ H Q=>wi σ H fun J H1=>∃ W:Nat->Nat->List V->Hp->Prop,(∃ m,W 0 m [] H1)/\
 Zl σ n J g tc te W fun ys H'=>∀ p,H' p=none->Q (.ref p) (zZ H' p (.lst ys))
theorem kf.inv {pins:List (Addr×Obj)} {σ:St} {H:Hp} {s:Shared} {C:Addr} {h':Heap} (o:kf X pins H s C) (I:zC X pins σ H s) (hs:Heap.SameBut C s.heap h'):zC X pins σ H { s with heap:=h' }:=
 I.turned (it:=C) (t':=s.toks) (fun b u hb q=>(hs.2 b hb).trans q) o.free o.ne (.inr o.old) o.cell o.pin
theorem Dg (hcalm:X.calm=true) (B:qw X scope cl own) (hi:PI X tg iter wi) (hg:∀ C s H fp pn,PG (xR X scope cl own C s H fp pn) tg g) (hc:∀ C s H fp pn,qz (xR X scope cl own C s H fp pn) ifs tc)
  (he:∀ C s H fp pn,PE (xR X scope cl own C s H fp pn) elt te) (hs:∀ x,foldedSetIterable iter X.env x=pure x:=by intro _; rfl) :
  PE X (.ListComp elt [⟨tg,iter,ifs,0⟩] scope pos) (EO own.length wi g tc te):=by
 intro pins s σ H Q I h
 rw [eval_ListComp]
 refine wpAny_comprehension_free (use:=none) rfl hs B.clos B.kind B.names (zh (hi pins s σ H _ I h) fun v s1 h1=>zh h1 fun itv s2 h2=>?_)
 obtain ⟨it,fp,tn,J,H2,e,I2,T,st2,f2,W,⟨m0,w0⟩,turn⟩:=h2
 subst e
 refine T6 (RR:=fun acc C=>compPost (model X.prog X.w) X.A X.xe none (EP X pins σ Q) acc C) hcalm B I2 T st2 f2 hg hc he w0 turn ?_
 intro D C s' H' ys m' I' n' fin ns' off
 exact ⟨m',ns',fun h' hs'=>⟨.ref D,zZ H' D (.lst ys),off.inv I' hs',rfl,fin D n'⟩⟩
noncomputable def EZ (i n:Nat) (wi:TI) (g:TG) (tc:TT) (te:TE):TS:=fun D σ H=>wi σ H fun J H1=>∃ W:Nat->Nat->List V->Hp->Prop,(∃ m,W 0 m [] H1)/\
 Zl σ n J g tc te W fun ys H'=>∀ p,H' p=none->D.nx (σ.set i (some (.ref p))) (zZ H' p (.lst ys))
theorem J9 {i:Nat} {x:Str} {px spos:Pos} (hcalm:X.calm=true) (hN:X.N.Nodup) (hix:X.N[i]?=some x) (hx:X.env.scope.names.lookup x=some .local) (B:qw X scope cl own)
  (hsw:swapsWith (.ListComp elt [⟨tg,iter,ifs,0⟩] scope pos) (some (.Name x px)) spos.line X.env=pure true) (hi:PI X tg iter wi)
  (hg:∀ C s H fp pn,PG (xR X scope cl own C s H fp pn) tg g) (hc:∀ C s H fp pn,qz (xR X scope cl own C s H fp pn) ifs tc) (he:∀ C s H fp pn,PE (xR X scope cl own C s H fp pn) elt te)
  (hs:∀ x,foldedSetIterable iter X.env x=pure x:=by intro _; rfl) :
  PS X (.Assign [.Name x px] (.ListComp elt [⟨tg,iter,ifs,0⟩] scope pos) spos) (EZ i own.length wi g tc te):=by
 intro pins s σ H D I h
 rw [exec_Assign_Name_used _ _ _ _ hsw]
 refine wpAny_bind (wpAny_standAt (wpAny_bind ?_))
 show wpAny _ X.A (do let _ <- comprehension (.ListComp elt [⟨tg,iter,ifs,0⟩] scope pos) scope X.env _ (newList []) false (eval iter X.env) (some (assign (.Name x px) X.env))) _ _ s
 refine wpAny_bind (zh (wpAny_comprehension_free (use:=some (assign (.Name x px) X.env)) (Q:=fun _ s'=>SP X pins D .next s') rfl hs B.clos B.kind B.names
  (zh (hi pins s σ H _ I h) fun v s1 h1=>zh h1 fun itv s2 h2=>?_)) fun _ s' hq=>wpAny_pure (wpAny_pure hq))
 obtain ⟨it,fp,tn,J,H2,e,I2,T,st2,f2,W,⟨m0,w0⟩,turn⟩:=h2
 subst e
 refine T6 (RR:=fun acc C=>compPost (model X.prog X.w) X.A X.xe (some (assign (.Name x px) X.env)) (fun _ s'=>SP X pins D .next s') acc C) hcalm B I2 T st2 f2 hg hc he w0 turn ?_
 intro L C s' H' ys m' I' n' fin ns' off
 show wpAny _ X.A (assign (.Name x px) X.env (.ref L)) _ _ s'
 refine wpAny_assign_Name (II I' hN hix (.inl hx) (v:=.ref L) rfl (fun s3 I3 q3=>?_) (.inr hx))
 obtain ⟨a,hsa,ha⟩:=q3
 have hCa:C≠a:=by
  rcases ha with z | z
  ·rw [z]; exact off.ne
  ·exact fun y=>off.cell x a z y.symm
 refine ⟨m',ns'.sameBut hsa hCa,fun h' hs'=>?_⟩
 exact ⟨_,_,kf.inv (H:=zZ H' L (.lst ys)) ⟨off.free,off.ne,off.old,off.cell,off.pin⟩ I3 hs',fin L n'⟩
end
end L2
namespace L2
open PySem PySem.Spec PyProof.Rows
structure QE (X:Cx) (e:Expr) (t:TE):Prop where
 h:PE X e t
structure QA (X:Cx) (es:List Expr) (t:TA):Prop where
 h:PA X es t
structure QS (X:Cx) (st:Stmt) (t:TS):Prop where
 h:PS X st t
structure kx (X:Cx) (st:List Stmt) (t:TS):Prop where
 h:wZ X st t
structure QG (X:Cx) (e:Expr) (t:TG):Prop where
 h:PG X e t
structure ku (X:Cx) (es:List Expr) (t:ug):Prop where
 h:gF X es t
structure QI (X:Cx) (tg e:Expr) (t:TI):Prop where
 h:PI X tg e t
section
variable {X:Cx} {x y:Str} {p pos pos' apos cpos p2:Pos} {e a b c o tg iter elt:Expr} {es yC:List Expr} {te ta tb tc to:TE} {t:TA} {tA tB':TT} {r r':R2} {v:V} {T id:String} {ps:List Str} {j k i:Nat} {sp:Sp}
theorem qv (i:Nat) {x:Str} {pos:Pos} (hN:X.N[i]?=some x:=by rfl) (hv:p6 X.env.scope x:=by first | exact Or.inl rfl | exact Or.inr (Or.inl rfl) | exact Or.inr (Or.inr rfl)) (hd:(x == ("__debug__" : Str))=false:=by decide)
  (hcd:(x == ("__classdict__" : Str))=false:=by decide):QE X (.Name x pos) (qq i):=⟨k7 hN hv hd hcd⟩
theorem Fk (h:xf X.mg x v) (hg:Gl X x) (hd:(x == ("__debug__" : Str))=false:=by decide):QE X (.Name x pos) (tC v):=⟨Zx h hg hd⟩
theorem JF (hg:Gl X x) (hm:X.mg x=none) (hv:bootBuiltins x=some (.type T)) (hn:x ≠ "__name__" := by decide) (hd:(x == ("__debug__" : Str))=false:=by decide):QE X (.Name x pos) (tC (.ty T)):=⟨DW hg hm hv hn hd⟩
noncomputable def J7:Expr->Bool
 | .Name ..=>true
 | .Call ..=>true
 | .Subscript ..=>true
 | .Attribute ..=>true
 | .Constant ..=>true
 | .List ..=>true
 | .Tuple ..=>true
 | .BinOp ..=>true
 | _=>false
theorem F7 {e:Expr} {env:Env} (h:J7 e=true):∀ whole,isTrue e env whole=(do let v <- whole; standAt e.pos; holding [v] (truthy v)):=by
 cases e<;>first | (intro _; rfl) | cases h
theorem V7:QA X [] UP:=⟨Zv⟩
theorem jZ (ha:QE X e te) (hr:QA X es t) (h:ya e=true:=by rfl):QA X (e::es) (UO te t):=⟨Zw ha.h hr.h h⟩
noncomputable def jW:Expr->Bool
 | .Name ..=>true
 | .Constant ..=>true
 | .BinOp ..=>true
 | .Call ..=>true
 | .UnaryOp ..=>true
 | .Subscript ..=>true
 | .Attribute ..=>true
 | _=>false
theorem Zy {b:Expr} (h:jW b=true):kq b:=by
 cases b<;>first | (intro _ _; rfl) | cases h
theorem Zz {r:List V->Hp->VK->Prop} (hc:xr X (.builtin id) r) (hg:Gl X x) (hm:X.mg x=none) (hv:bootBuiltins x=some (.builtin id)) (ha:QA X (e::es) t) (hn:x ≠ "__name__" := by decide) (hdb:(x == ("__debug__" : Str))=false:=by decide)
  (he:(e::es).all ya=true:=by rfl):QE X (.Call (.Name x p) (e::es) [] pos) (YK r t):=by
 rw [List.all_cons,Bool.and_eq_true] at he
 exact ⟨DZ hc hg hm hv ha.h hn hdb (wp he.1) (qo he.2)⟩
theorem V8 {r:List V->Hp->VK->Prop} (hc:xr X (.type T) r) (hg:Gl X x) (hm:X.mg x=none) (hv:bootBuiltins x=some (.type T)) (ha:QA X (e::es) t) (hn:x ≠ "__name__" := by decide) (hdb:(x == ("__debug__" : Str))=false:=by decide)
  (he:(e::es).all ya=true:=by rfl):QE X (.Call (.Name x p) (e::es) [] pos) (YK r t):=by
 rw [List.all_cons,Bool.and_eq_true] at he
 exact ⟨Da hc hg hm hv ha.h hn hdb (wp he.1) (qo he.2)⟩
variable {st:Stmt} {sts body:List Stmt} {ts us tbs:TS} {g:TG} {wi:TI}
noncomputable def pK:Expr->Bool
 | .ListComp ..=>false
 | .SetComp ..=>false
 | .DictComp ..=>false
 | _=>true
theorem Ww {e:Expr} {tgt:Option Expr} {n:Nat} {env:Env} (h:pK e=true):swapsWith e tgt n env=pure false:=by
 cases e<;>first | rfl | cases h
theorem JG (he:QE X e te) (hs:pK e=true:=by rfl):QS X (.Expr e pos) (IR te):=⟨FP he.h (Ww hs)⟩
theorem JH {i:Nat} {x:Str} {pos':Pos} (hN:X.N.Nodup) (hi:X.N[i]?=some x) (hx:qH X.env.scope x) (he:QE X e te) (hs:pK e=true:=by rfl) (hf:X.fn x=true\/X.env.scope.names.lookup x=some .local:=by first | exact .inl rfl | exact .inr rfl | assumption) :
  QS X (.Assign [.Name x pos'] e pos) (UM te (vo i)):=⟨FV hN hi hx he.h (Ww hs) hf⟩
theorem ym {i:Nat} {x:Str} (hN:X.N.Nodup) (hi:X.N[i]?=some x) (hx:qH X.env.scope x) (hf:X.fn x=true\/X.env.scope.names.lookup x=some .local:=by first | exact .inl rfl | exact .inr rfl | assumption):QG X (.Name x pos) (vo i):=⟨Ds hN hi hx hf⟩
theorem Fn {o i:Expr} {to ti:TE} {t:ky} (ho:QE X o to) (hi:QE X i ti) (hs:XQ X t) (hp:jW i=true:=by rfl):QG X (.Subscript o i pos) (Tz to ti t):=by
 refine ⟨Dt ho.h hi.h hs ?_⟩
 cases i<;>first | (intro _; rfl) | cases hp
theorem jb:ku X [] gW:=⟨Dw⟩
theorem uE {t:TG} {u:ug} (h1:QG X e t) (h2:ku X es u) (hs:(assignEach (e::es) X.env).map (·.2)=assign e X.env::(assignEach es X.env).map (·.2):=by rfl):ku X (e::es) (qV t u):=⟨Dv h1.h h2.h hs⟩
theorem ja {k:Nat} {t:ug} {n:Nat} (hc:X.calm=true) (h:ku X es t) (hn:(assignEach es X.env).length=n:=by rfl) (hst:(assignEach es X.env).findIdx? (·.1)=none:=by rfl):QG X (.Tuple es k pos) (gX X.K n t):=⟨Du hc h.h hn hst⟩
variable {ifs:List Expr} {scope:Scope} {cl:List (Str×Addr)} {own:List Str} {tcc:TT}
variable {name:Str} {rm:V->List V->Hp->VK->Prop}
theorem IH {env:Env} {pos:Pos}:∀ {es:List Expr},es.all ya=true->(backTo pos (starEach es env)).all (fun x=>!x.1)=true
 | [],_=>rfl
 | e::es,h=>by
  rw [List.all_cons,Bool.and_eq_true] at h
  rw [wp h.1]
  have ih:=IH (env:=env) (pos:=pos) h.2
  unfold backTo at ih ⊢
  rw [List.map_cons,List.all_cons,ih]
  rfl
theorem kA (pa:PlainAttrs T) (slot:Slot T name id) (hty:typeOf (.builtin id)=pure (.type "method_descriptor")) (hm:tD X id rm) (ho:QE X o to) (ha:QA X (e::es) t)
  (hbase:attributeBase o name X.env (eval o X.env)=eval o X.env:=by rfl) (hline:(apos.endLine == cpos.line)=true:=by rfl) (he:(e::es).all ya=true:=by rfl) (hl:(e::es).length<30:=by decide) :
  QE X (.Call (.Attribute o name apos) (e::es) [] cpos) (UN X.K T rm to t):=⟨by
 have ha':=IH (env:=X.env) (pos:=cpos) he
 rw [List.all_cons,Bool.and_eq_true] at he
 refine DV pa slot hty hm ho.h ha.h hbase ?_ hline (wp he.1) (qo he.2)
 rw [ha']
 show (true&&true&&decide ((e::es).length+0+0<30))=true
 rw [decide_eq_true (show (e::es).length+0+0<30 from hl)]
 rfl⟩
end
end L2
namespace L2
open PySem PySem.Spec PyProof.Rows
noncomputable def Um (K:PySem.W.Frag) (H:Hp) (a c:Addr) (xs ys:List V):Prop:=(yk K H a xs/\yk K H c ys)\/(yT K H a xs/\yT K H c ys)
section
variable {X:Cx} {pins:List (Addr×Obj)} {σ:St} {H:Hp} {s:Shared}
theorem C6 {A:Around} {a c:Addr} {xs ys:List V} {e:Nat->Bool} (I:zC X pins σ H s) (hu:A.units<cLine) (hq:Um X.K H a c xs ys)
  (he:∀ (j:Nat) x' y' u v,xs[j]?=some x'->ys[j]?=some y'->zm x' u->zm y' v->SeqAt.EqAt A.in1 s u v (e j)) :
  SeqAt.RcAt A s (.ref a) (.ref c) ((List.range (min xs.length ys.length)).all e&&xs.length == ys.length)/\SeqAt.RcNeAt A s (.ref a) (.ref c) (!((List.range (min xs.length ys.length)).all e&&xs.length == ys.length)):=by
 have get:∀ {zs:List V} {us:List Value} {j:Nat} (hj:j<us.toArray.size),zf zs us->∃ z,zs[j]?=some z/\zm z us.toArray[j]:=fun {zs us j} hj r=>by
  have hl:=r.length
  have hj':j<zs.length:=by
   rw [List.size_toArray] at hj
   omega
  obtain ⟨u,hu',ru⟩:=r.get (List.getElem?_eq_getElem hj')
  refine ⟨_,List.getElem?_eq_getElem hj',?_⟩
  have:us.toArray[j]=u:=by
   have h2:us[j]?=some us[j]:=List.getElem?_eq_getElem (by omega)
   rw [h2] at hu'
   simpa using hu'
  rw [this]
  exact ru
 rcases hq with ⟨ha,hc⟩ | ⟨ha,hc⟩
 ·obtain ⟨us,ra,pa,_⟩:=I.tuple ha
  obtain ⟨vs,rc,pc,_⟩:=I.tuple hc
  have h1:=ra.length
  have h2:=rc.length
  have key:∀ j (k1:j<us.toArray.size) (k2:j<vs.toArray.size),SeqAt.EqAt A.in1 s us.toArray[j] vs.toArray[j] (e j):=fun j k1 k2=>by
   obtain ⟨z1,e1,r1⟩:=get k1 ra
   obtain ⟨z2,e2,r2⟩:=get k2 rc
   exact he j z1 z2 _ _ e1 e2 r1 r2
  have p:=SeqAt.RcAt.tuples (e:=e) pa pc hu key
  have q:=SeqAt.RcNeAt.tuples (e:=e) pa pc hu key
  rw [List.size_toArray,List.size_toArray,<- h1,<- h2] at p q
  exact ⟨p,q⟩
 ·obtain ⟨us,ra,pa,_⟩:=I.list ha
  obtain ⟨vs,rc,pc,_⟩:=I.list hc
  have h1:=ra.length
  have h2:=rc.length
  have key:∀ j (k1:j<us.toArray.size) (k2:j<vs.toArray.size),SeqAt.EqAt A.in1 s us.toArray[j] vs.toArray[j] (e j):=fun j k1 k2=>by
   obtain ⟨z1,e1,r1⟩:=get k1 ra
   obtain ⟨z2,e2,r2⟩:=get k2 rc
   exact he j z1 z2 _ _ e1 e2 r1 r2
  by_cases hl:xs.length=ys.length
  ·have hs:us.toArray.size=vs.toArray.size:=by rw [List.size_toArray,List.size_toArray]; omega
   have p:=SeqAt.RcAt.lists (e:=e) pa.isList pc.isList hs hu key
   have q:=SeqAt.RcNeAt.lists (e:=e) pa.isList pc.isList hs hu key
   have e1:min xs.length ys.length=us.toArray.size:=by rw [List.size_toArray]; omega
   have e2:(xs.length == ys.length)=true:=by simp [hl]
   rw [e1,e2,Bool.and_true]
   exact ⟨p,q⟩
  ·have hs:(us.toArray.size != vs.toArray.size)=true:=by
    rw [List.size_toArray,List.size_toArray]
    simp
    omega
   have e2:(xs.length == ys.length)=false:=by simp [hl]
   rw [e2,Bool.and_false]
   exact ⟨SeqAt.RcAt.lists_lengths pa.isList pc.isList hs hu,SeqAt.RcNeAt.lists_lengths pa.isList pc.isList hs hu⟩
theorem ZX (A:Around):A.in1.units=A.units+1:=rfl
end
theorem L7 {x:V} (h:uT x=true):u7 x x=true:=by
 cases x<;>first | rfl | (simp [u7]; done) | cases h
end L2
namespace L2
open PySem PySem.Spec PyProof.Rows
open PySem.W (hideAll)
structure wW (P:Program) (w:World) (l:List Env) (H:Hp) (h B:Heap) (H':Hp) (h':Heap):Prop where
 un:Un (yz l) [] H H' h h'
 ok:yo P w H' h'
 kb:∀ b o,h.get? b=some o->H b=none->b ∉ yz l->B.get? b=some o
 all:∀ b o,h.get? b=some o->b ∉ yz l->∃ o',B.get? b=some o'
 tr:∀ b o,H' b=some o->∃ ob,B.get? b=some ob
noncomputable def Yh (P:Program) (w:World) (l:List Env) (H:Hp) (s:Shared) (E:XK) (e:Value) (s':Shared):Prop:=
 ∃ (a C:Addr) (a0:Value) (B:Heap) (H':Hp),e=.ref a/\s'.os=s.os/\AllBare s'.gens/\Heap.FlyingW B l a (.ref C) a0 s'.heap/\wW P w l H s.heap B H' s'.heap/\E (.ref C) none H'
theorem yr.there {P:Program} {w:World} {H:Hp} {h:Heap} {a:Addr} {o:HO} (x:yr P w H h a o):∃ ob,h.get? a=some ob:=by
 cases o with
 | lst xs=>obtain ⟨_,_,_,_,e⟩:=x; exact ⟨_,e⟩
 | tup xs=>obtain ⟨_,_,_,o,e,_⟩:=x; exact ⟨_,e⟩
 | dK kvs=>obtain ⟨_,_,_,_,o,_,_,e,_⟩:=x; exact ⟨_,e⟩
 | dT kvs=>obtain ⟨_,_,_,_,o,_,_,e,_⟩:=x; exact ⟨_,e⟩
 | set S n=>obtain ⟨o,_,_,_,e,_⟩:=x; exact ⟨_,e⟩
 | ins C dx fs=>obtain ⟨_,_,_,e,_⟩:=x; exact ⟨_,e⟩
 | own y=>obtain ⟨_,e⟩:=x; exact ⟨_,e⟩
 | xd fs=>obtain ⟨_,⟨_,_,_,e,_⟩,_⟩:=x; exact ⟨_,e⟩
 | rng lo hi=>obtain ⟨_,_,_,e⟩:=x; exact ⟨_,e⟩
 | frz ob u=>obtain ⟨e,_⟩:=x; exact ⟨_,e⟩
 | tbl ps=>exact ⟨_,(show h.get? a=some _ from x)⟩
 | met f y=>exact ⟨_,(show h.get? a=some _ from x)⟩
 | ext φ=>obtain ⟨_,⟨_,e⟩,_⟩:=x; exact ⟨_,e⟩
section
variable {P:Program} {w:World} {l:List Env} {H H':Hp} {h B h' h'':Heap}
theorem wW.hok (x:yo P w H' h') (tr:∀ b o,H' b=some o->∃ ob,B.get? b=some ob) (k1:B.StaysIn h') (k2:B.StaysIn h''):yo P w H' h'':=fun b o e=>
 (x b o e).stay (fun c u hc q=>by
  have hc':∃ z,H' c=some z:=by
   rcases hc with z | z
   ·exact ⟨o,by rw [z]; exact e⟩
   ·exact ⟨_,z⟩
  obtain ⟨z,hz⟩:=hc'
  obtain ⟨ob,hb⟩:=tr c z hz
  have e1:some ob=some u:=(k1 c ob hb).symm.trans q
  cases e1
  exact k2 c _ hb) (fun _ z=>z) (fun _ _ z=>z)
theorem wW.fly (x:wW P w l H h B H' h') (k1:B.StaysIn h') (k2:B.StaysIn h'') (up:h'.UpToSlots h'') (fr:∀ b∈yz l,H b=none/\∃ o,h.get? b=some o/\∀ vs,o.data≠.fields vs):wW P w l H h B H' h'' where
 un:=by
  have sl:∀ b o,h.get? b=some o->H b=none->b∈yz l->∃ sl,h''.get? b=some { o with slots:=sl }:=fun b o e n hb=>by
   obtain ⟨s1,e1⟩:=x.un.slot b o e n hb (by simp)
   obtain ⟨_,o2,e2,d2⟩:=fr b hb
   rw [e] at e2
   cases e2
   obtain ⟨s2,e3⟩:=up b _ e1 d2
   exact ⟨s2,e3⟩
  exact ⟨fun b o e n hb _=>k2 b o (x.kb b o e n hb),fun b o e n hb _=>sl b o e n hb,x.un.free,fun b o e hx=>by
   by_cases hb:b∈yz l
   ·obtain ⟨s1,e1⟩:=sl b o e (fr b hb).1 hb
    exact ⟨_,e1⟩
   ·obtain ⟨o',e'⟩:=x.all b o e hb
    exact ⟨o',k2 b o' e'⟩,x.un.tups,x.un.frzs,x.un.tbls⟩
 ok:=wW.hok x.ok x.tr k1 k2
 kb:=x.kb
 all:=x.all
 tr:=x.tr
end
section
variable {X:Cx} {pins:List (Addr×Obj)} {σ:St} {H H':Hp} {s:Shared} {B h':Heap}
theorem zC.frData (I:zC X pins σ H s):∀ b∈yz X.stack,H b=none/\∃ o,s.heap.get? b=some o/\∀ vs,o.data≠.fields vs:=fun b hb=>⟨I.stkFree b hb,(I.stack.mem hb).2⟩
theorem wW.pop (I:zC X pins σ H s) (hst:X.stack=X.env::X.outer) (hf:X.env.frame=some X.env.locals) (hex:X.ex=[]) (x:wW X.prog X.w X.stack H s.heap B H' h'):wW X.prog X.w X.outer X.H₀ X.s₀.heap B H' h':=by
 have ne:∀ b o,X.s₀.heap.get? b=some o->b≠X.env.locals:=fun b o e=>Nat.ne_of_lt (Nat.lt_of_lt_of_le (Heap.lt_size e) I.ok.above)
 have nex:∀ b,b ∉ X.ex:=fun b=>by rw [hex]; simp
 have nst:∀ b o,X.s₀.heap.get? b=some o->b ∉ X.fs->b ∉ yz X.stack:=fun b o e hb z=>(List.mem_cons.mp (I.stkSub b z)).elim (ne b o e) hb
 have ist:∀ b,b∈X.fs->b∈yz X.stack:=fun b hb=>by
  rw [hst]
  unfold yz
  rw [List.filterMap_cons,hf]
  exact List.mem_cons_of_mem _ hb
 have kb':∀ b o,X.s₀.heap.get? b=some o->X.H₀ b=none->b ∉ yz X.outer->B.get? b=some o:=fun b o e n hb=>
  x.kb b o (I.base.keep b o e n hb (nex b)) (I.base.free b o e n (nex b)) (nst b o e hb)
 have all':∀ b o,X.s₀.heap.get? b=some o->b ∉ yz X.outer->∃ o',B.get? b=some o':=fun b o e hb=>by
  obtain ⟨o1,e1⟩:=I.base.there b o e (nex b)
  exact x.all b o1 e1 (nst b o e hb)
 refine ⟨⟨fun b o e n hb _=>?_,fun b o e n hb _=>?_,fun b o e n _=>?_,fun b o e _=>?_,fun b xs e=>x.un.tups b xs (I.base.tups b xs e),fun b o u e=>x.un.frzs b o u (I.base.frzs b o u e),fun b ps e=>?_⟩,x.ok,kb',all',x.tr⟩
 ·exact x.un.keep b o (I.base.keep b o e n hb (nex b)) (I.base.free b o e n (nex b)) (nst b o e hb) (by simp)
 ·obtain ⟨s1,e1⟩:=I.base.slot b o e n hb (nex b)
  obtain ⟨s2,e2⟩:=x.un.slot b _ e1 (I.base.free b o e n (nex b)) (ist b hb) (by simp)
  exact ⟨s2,e2⟩
 ·obtain ⟨o1,e1⟩:=I.base.there b o e (nex b)
  exact x.un.free b o1 e1 (I.base.free b o e n (nex b)) (by simp)
 ·obtain ⟨o1,e1⟩:=I.base.there b o e (nex b)
  exact x.un.there b o1 e1 (by simp)
 ·obtain ⟨m1,e1⟩:=I.base.tbls b ps e
  obtain ⟨m2,e2⟩:=x.un.tbls b _ e1
  exact ⟨m1++m2,by rw [e2,Array.append_assoc]⟩
theorem wW.made (I:zC X pins σ H s) (k:(hideAll s.heap (yz X.stack)).StaysIn h') (up:s.heap.UpToSlots h'):wW X.prog X.w X.stack H s.heap (hideAll s.heap (yz X.stack)) H h':=by
 have hid:∀ b o,s.heap.get? b=some o->b ∉ yz X.stack->(hideAll s.heap (yz X.stack)).get? b=some o:=fun b o e hb=>PySem.W.hideAll_get _ e hb
 have tr:∀ b o,H b=some o->∃ ob,(hideAll s.heap (yz X.stack)).get? b=some ob:=fun b o e=>by
  have hb:b ∉ yz X.stack:=fun z=>by rw [I.stkFree b z] at e; cases e
  have lt:=I.hok.lt e
  cases q:s.heap.get? b with
  | some ob=>exact ⟨ob,hid b ob q hb⟩
  | none=>
   exfalso
   have hk:=I.hok b o e
   have th:∃ ob,s.heap.get? b=some ob:=yr.there hk
   obtain ⟨ob,z⟩:=th
   rw [q] at z
   cases z
 have sl:∀ b o,s.heap.get? b=some o->b∈yz X.stack->∃ sl,h'.get? b=some { o with slots:=sl }:=fun b o e hb=>by
  obtain ⟨_,o2,e2,d2⟩:=I.frData b hb
  rw [e] at e2
  cases e2
  exact up b o e d2
 refine ⟨⟨fun b o e n hb _=>k b o (hid b o e hb),fun b o e n hb _=>sl b o e hb,fun b o e n _=>n,fun b o e _=>?_,fun _ _ z=>z,fun _ _ _ z=>z,fun b ps e=>⟨#[],by rw [e]; simp⟩⟩,?_,fun b o e _ hb=>hid b o e hb,fun b o e hb=>⟨o,hid b o e hb⟩,tr⟩
 ·by_cases hb:b∈yz X.stack
  ·obtain ⟨s1,e1⟩:=sl b o e hb
   exact ⟨_,e1⟩
  ·exact ⟨o,k b o (hid b o e hb)⟩
 ·exact wW.hok I.hok tr (fun b o e=>PySem.W.of_hideAll _ e) k
structure xh (K:PySem.W.Frag) (mg:Str->Option Value) (x:Str) (C:Addr):Prop where
 at_:mg x=some (.ref C)
 ex:PySem.W.excIn K C [.type "ValueError",.type "Exception",.type "BaseException",.type "object"] "ValueError.__new__" = true
theorem xh.own {K:PySem.W.Frag} {mg:Str->Option Value} {x:Str} {C:Addr} {h:Heap} (c:xh K mg x C) (X:K.In h):OwnCls x C [.type "ValueError",.type "Exception",.type "BaseException",.type "object"] "ValueError.__new__" mg h:=by
 refine ⟨c.at_,?_⟩
 have q:=c.ex
 unfold PySem.W.excIn at q
 split at q
 ·rename_i dd cd sl ho
  split at q
  ·rename_i C' bm k0 k1 k2 k3 n k5 hm hs
   simp only [Bool.and_eq_true,beq_iff_eq,Bool.not_eq_true'] at q
   obtain ⟨⟨⟨⟨⟨rfl,rfl⟩,hdel⟩,ht⟩,hok⟩,hni⟩:=q
   obtain ⟨nm,bs,mro,ns,qn,hd,sn,sub,ab,col,del⟩:=cd
   dsimp only at hm hdel hok hni
   subst hm hdel
   have hsl:sl=#[k0,k1,k2,k3,some (.builtin "ValueError.__new__"),k5]:=by
    obtain ⟨l⟩:=sl
    simp only at hs
    rw [hs]
   subst hsl
   exact ⟨bm,ns,nm,qn,bs,hd,sn,sub,ab,col,dd,k0,k1,k2,k3,k5,_,X _ _ ho,.of_isNs (PySem.W.isNs_of_in X hok),PySem.W.nsMap_none_of_in X hok hni,PySem.W.tail_of_in X ht⟩
  ·cases q
 ·cases q
variable {x:Str} {C:Addr} {np cpos pos:Pos} {e:Expr} {es:List Expr} {t:TA} {E:XK}
noncomputable def XS (X:Cx) (E:XK):Prop:=∀ (pins:List (Addr×Obj)) (σ:St) (H:Hp) (s:Shared) (a C:Addr) (vs:List Value) (h':Heap),zC X pins σ H s->Heap.MadeExcOf s.heap h' a (.ref C) vs->E (.ref C) none H->X.xe (.ref a) { s with heap:=h' }
noncomputable def EV (C:Addr) (E:XK) (t:TA):TS:=fun _ σ H=>t σ H fun vs H1=>vs.length<=sizeLine/\E (.ref C) none H1
theorem FU (c:xh X.K X.mg x C) (hr:XS X E) (hh:X.A.handled=none) (hg:Gl X x) (ha:PA X (e::es) t) (hdb:(x == ("__debug__" : Str))=false:=by decide) (he:(e::es).all ya=true:=by rfl) :
  PS X (.Raise (some (.Call (.Name x np) (e::es) [] cpos)) none pos) (EV C E t):=by
 intro pins s σ H D I h
 have he':=he
 rw [List.all_cons,Bool.and_eq_true] at he'
 have O:=c.own I.mod.kin
 obtain ⟨tl,N,nm,q,bs,hdct,sn,sub,ab,col,dd,k0,k1,k2,k3,k5,mN,hC,hN,hni,T⟩:=O.obj
 have FB:=PySem.F.excBase_ValueError
 refine wpAny_Raise_call_subT (C:=C) (nm:=nm) (q:=q) (N:=N) (bs:=bs) (bm:=tl) (hdct:=hdct) (sn:=sn) (sub:=sub) (ab:=ab) (col:=col) (dd:=dd) (k0:=k0) (k1:=k1) (k2:=k2) (k3:=k3) (k5:=k5)
  FB (mN:=mN) (T.hasType FB.hasBase) hh (qo he) hni (pH I hg c.at_ ⟨rfl,?_⟩ hdb)
 have ha':=ha cpos pins s σ H _ I h
 rw [wp he'.1] at ha' ⊢
 refine Calls.evalArgs_plain (zh ha' fun us s2 ⟨vs,H1,I1,r,hl,q1⟩=>?_)
 exact ⟨rfl,by rw [<- r.length]; exact hl,I1.bk _ _ hC,hN.keeps I1.bk,T.keeps I1.bk,fun h' a hm=>hr pins σ H1 s2 a C us h' I1 hm q1⟩
end
section
variable {P:Program} {w:World} {K:PySem.W.Frag} {mg:Str->Option Value} {base:Heap} {N:List Str} {qual:Str} {scope:Scope} {f:Addr} {cd:Value} {A:Around} {outer:List Env} {s₀:Shared} {H₀:Hp} {E:XK}
noncomputable abbrev jB (P:Program) (w:World) (K:PySem.W.Frag) (mg:Str->Option Value) (base:Heap) (N:List Str) (qual:Str) (scope:Scope) (f:Addr) (cd:Value) (A:Around) (outer:List Env) (s:Shared) (H:Hp) (E:XK):Cx:=
 vk (Yh P w) P w K mg base N qual scope f cd A outer s H E
theorem C3:XS (jB P w K mg base N qual scope f cd A outer s₀ H₀ E) E:=by
 intro pins σ H s a C vs h' I hm hE
 have hin:∀ env∈(jB P w K mg base N qual scope f cd A outer s₀ H₀ E).stack,∀ b,env.frame=some b->b∈yz (jB P w K mg base N qual scope f cd A outer s₀ H₀ E).stack:=fun env he b hb=>List.mem_filterMap.mpr ⟨env,he,hb⟩
 show wpAny (model P w) _ (leaving _ (.ref a)) _ _ _
 refine wpAny_leaves_madeW (s:={ s with heap:=h' }) (base:=hideAll s.heap (yz (jB P w K mg base N qual scope f cd A outer s₀ H₀ E).stack)) I.ok.frames rfl (fun b o q=>PySem.W.of_hideAll _ q) (PySem.W.funFrames_hide I.stack hin) hm fun h2 t x1 x2 x3 x4=>?_
 have up:s.heap.UpToSlots h2:=(Heap.UpToSlots.of_keeps hm.keeps).trans x4
 exact ⟨a,C,.ref t,_,H,rfl,I.os,I.bare,x1,wW.pop I rfl rfl rfl (wW.made I x1.1 up),hE⟩
noncomputable def p_ (P:Program) (w:World) (K:PySem.W.Frag) (mg:Str->Option Value) (base:Heap) (x:Str) (ps:List Str) (k:Nat) (sp:Sp):Prop:=
 ∃ (f:Addr) (fd:FuncData),mg x=some (.ref f)/\PySem.W.keepIn K (.ref f)=true/\ud K fd ps []/\ve P w K mg base (Yh P w) k f fd ps sp
theorem Def.okX {x:Str} {st:Stmt} {N ps:List Str} {k:Nat} {sp:Sp} (d:Def K mg x st ps) (S:yQ N ps (zi st)) (len:∀ vs H Q E,sp vs H Q E->vs.length=ps.length)
  (hbody:∀ (f:Addr) (cdv:Value) (A:Around) (outer:List Env) (s:Shared) (H:Hp) (vs:List V) (Q:VK) (E:XK),xB k (A.deeper (envOfC x (zi st) s.heap.objs.size f cdv))->sp vs H Q E->
   ∃ t,kx (jB P w K mg base N x (zi st) f cdv A outer s H E) (wg st) t/\t { nx:=fun _ H'=>Q .non H',rt:=Q } (start N vs) H):p_ P w K mg base x ps (k+1) sp:=by
 obtain ⟨f,fd,F,hm,hb⟩:=d
 obtain ⟨oc,od,kV,doc,pm,an,cdv,ct,osl,rfl,lk,hcd⟩:=F.ex
 refine ⟨f,_,hm,F.kp,hb,Tx lk hcd S len fun A outer s H vs Q E hr hsp=>?_⟩
 obtain ⟨t,h,q⟩:=hbody f cdv A outer s H vs Q E hr hsp
 exact ⟨t,h.h,q⟩
end
end L2
namespace L2
open PySem PySem.Spec PyProof.Rows
noncomputable abbrev Cx.marked (X:Cx) (a:Addr):Cx:={ X with A:=X.A.mark (some (.ref a)),calm:=false,xe:=fun _ _=>False }
noncomputable abbrev Cx.uncalm (X:Cx) (A:Around) (xe:Value->Shared->Prop):Cx:={ X with A:=A,calm:=false,xe:=xe }
section
variable {X:Cx} {pins:List (Addr×Obj)} {σ:St} {H H':Hp} {s:Shared} {a C:Addr}
theorem zC.uncalm (I:zC X pins σ H s) {A:Around} (hf:A.frames=X.A.frames) (xe:Value->Shared->Prop):zC (X.uncalm A xe) pins σ H s:=
 ⟨⟨I.ok.mod,I.ok.kind,I.ok.glob,I.ok.blt,I.ok.above,I.ok.inj,I.ok.has,I.ok.cab,(fun z=>nomatch z),hf.trans I.ok.frames,I.ok.stk,I.ok.exf,I.ok.bs,I.ok.bsz,I.ok.noex,I.ok.exfs,I.ok.funs,I.ok.frf⟩,I.os,I.bare,I.base,I.loc,I.cell,I.free,I.freeC,I.pin,I.hok,I.len⟩
theorem zC.marked (I:zC X pins σ H s) (a:Addr):zC (X.marked a) pins σ H s:=I.uncalm (A:=X.A.mark (some (.ref a))) rfl _
theorem zC.unmarked (I:zC (X.marked a) pins σ H s) (hd:X.calm=true->X.A.handled=none):zC X pins σ H s:=
 ⟨⟨I.ok.mod,I.ok.kind,I.ok.glob,I.ok.blt,I.ok.above,I.ok.inj,I.ok.has,I.ok.cab,hd,I.ok.frames,I.ok.stk,I.ok.exf,I.ok.bs,I.ok.bsz,I.ok.noex,I.ok.exfs,I.ok.funs,I.ok.frf⟩,I.os,I.bare,I.base,I.loc,I.cell,I.free,I.freeC,I.pin,I.hok,I.len⟩
theorem zC.forget {h':Heap} {m':Str->Option Value} {tk:Nat} (I:zC X pins σ H s) (ns:h'.Ns X.env.locals m') (hs:Heap.SameBut X.env.locals s.heap h'):zC X pins (List.replicate X.N.length none) H { s with heap:=h',toks:=tk }:=by
 have ne:∀ b o,X.s₀.heap.get? b=some o->b≠X.env.locals:=fun b o e=>Nat.ne_of_lt (Nat.lt_of_lt_of_le (Heap.lt_size e) I.ok.above)
 have kp:∀ b o,b≠X.env.locals->s.heap.get? b=some o->h'.get? b=some o:=fun b o hb e=>(hs.2 b hb).trans e
 have tn:∀ b o,H b=some o->b≠X.env.locals:=fun b o e z=>by rw [z,I.free] at e; cases e
 refine ⟨I.ok,I.os,I.bare,⟨fun b o e n hb hx=>kp b o (ne b o e) (I.base.keep b o e n hb hx),fun b o e n hb hx=>?_,I.base.free,fun b o e hx=>?_,I.base.tups,I.base.frzs,I.base.tbls⟩,⟨m',ns,fun i x v _ e2 _=>?_⟩,fun x c e=>?_,I.free,I.freeC,fun p hp=>?_,fun b o e=>?_,List.length_replicate ..⟩
 ·obtain ⟨sl,e1⟩:=I.base.slot b o e n hb hx
  exact ⟨sl,kp b _ (ne b o e) e1⟩
 ·obtain ⟨o',e1⟩:=I.base.there b o e hx
  exact ⟨o',kp b _ (ne b o e) e1⟩
 ·rw [List.getElem?_replicate] at e2
  split at e2<;>cases e2
 ·obtain ⟨v,o,ho,hd⟩:=I.cell x c e
  exact ⟨v,o,kp c o (I.cne x c e) ho,hd⟩
 ·obtain ⟨e,n,hne,nf,d⟩:=I.pin p hp
  exact ⟨kp _ _ hne e,n,hne,nf,d⟩
 ·refine (I.hok b o e).stay (fun c u hc q=>kp c u ?_ q) (fun _ z=>z) (fun _ _ z=>z)
  rcases hc with z | z
  ·rw [z]; exact tn b o e
  ·exact tn c _ z
noncomputable def uL (a C:Addr) (h:Heap):Prop:=∃ o vs,h.get? a=some o/\o.cls=.ref C/\o.data=.fields vs
theorem Id {fs ex:List Addr} {H H':Hp} {h h':Heap} {D:Addr} {o:HO} (u:Un fs ex H H' h h') (hD:h.get? D=none) (hn:H' D=none):Un fs ex H (zZ H' D o) h h' where
 keep:=u.keep
 slot:=u.slot
 free:=fun b ob q n hx=>by rw [yj (fun z=>by subst z; rw [hD] at q; cases q)]; exact u.free b ob q n hx
 there:=u.there
 tups:=fun b xs q=>by rw [yj (wj (u.tups b xs q) hn)]; exact u.tups b xs q
 frzs:=fun b ob v q=>by rw [yj (wj (u.frzs b ob v q) hn)]; exact u.frzs b ob v q
 tbls:=fun b ps q=>by
  obtain ⟨more,z⟩:=u.tbls b ps q
  exact ⟨more,by rw [yj (wj z hn)]; exact z⟩
noncomputable def XP (X:Cx) (pins:List (Addr×Obj)) (σ:St) (E:XK) (ev:Value) (s':Shared):Prop:=∃ H s1,zC X pins σ H s1/\Yh X.prog X.w X.stack H s1 E ev s'
end
noncomputable abbrev TX:=St->Hp->VK->XK->Prop
structure QX (X:Cx) (e:Expr) (t:TX):Prop where
 h:∀ (pins:List (Addr×Obj)) (s:Shared) (σ:St) (H:Hp) (Q:VK) (E:XK),zC X pins σ H s->t σ H Q E->wpAny (model X.prog X.w) X.A (eval e X.env) (EP X pins σ Q) (XP X pins σ E) s
section
variable {X:Cx} {x n:Str} {p pos np hpos tpos:Pos} {e e1 e2:Expr} {es:List Expr} {ta:TA} {te:TE} {tx:TX} {ps:List Str} {j k i:Nat} {sp:Sp} {E:XK} {D:Addr}
noncomputable def GA (sp:Sp) (t:TA):TX:=fun σ H Q E=>t σ H fun vs H1=>sp vs H1 Q E
theorem Fr (h:p_ X.prog X.w X.K X.mg X.base x ps k sp) (hr:xB j X.A) (hg:Gl X x) (ha:QA X.nox (e::es) ta) (hk:k<=j:=by decide) (hdb:(x == ("__debug__" : Str))=false:=by decide)
  (he:(e::es).all ya=true:=by rfl):QX X (.Call (.Name x p) (e::es) [] pos) (GA sp ta):=by
 obtain ⟨f,fd,hm,kp,b,F⟩:=h
 rw [List.all_cons,Bool.and_eq_true] at he
 refine ⟨fun pins s σ H Q E I q=>?_⟩
 refine wpAny_Call_Name_kw (pH I hg hm ?_ hdb)
 have ha':=ha.h pos pins s σ H (fun vs H1=>sp vs H1 Q E) (I.wish _) q
 refine PySem.W.callWith_K (h₀:=X.base) I.ok.mod.kin kp (wpAny_mono ha' (fun us s1 ⟨vs,H1,I1',r,q1⟩=>?_) fun _ _ z=>z.elim) (wp he.1) (qo he.2)
 have I1:zC X pins σ H1 s1:=I1'.unwish
 refine ⟨I1.kIn,?_⟩
 have hl:us.length=ps.length:=by rw [<- r.length]; exact F.len _ _ _ _ q1
 have hl2:(us++[]).length=ps.length:=by rw [List.append_nil]; exact hl
 have hb:=b s1 us I1.kIn hl2
 rw [List.append_nil] at hb
 refine wpAny_call (codeAny_mono (F.run X.A X.stack s1 H1 ⟨us,[]⟩ us vs Q E (hr.mono hk) I1.env0 hb r q1) fun r s' hq=>?_)
 cases r with
 | error e=>exact ⟨H1,s1,I1,hq⟩
 | ok fl=>
  cases fl with
  | ret u=>exact I1.after hq
  | next=>exact False.elim hq
  | brk=>exact False.elim hq
  | cont=>exact False.elim hq
theorem Ts {pins:List (Addr×Obj)} {σ:St} {H H':Hp} {s1 s':Shared} {a C:Addr} {a0:Value} {B:Heap} (I:zC X pins σ H s1) (hex:X.ex=[]) (ho:s'.os=s1.os) (hg:AllBare s'.gens)
  (fl:Heap.FlyingW B X.stack a (.ref C) a0 s'.heap) (x:wW X.prog X.w X.stack H s1.heap B H' s'.heap):H' a=none/\zC X pins σ H' s'/\zC X pins σ (zZ H' a (.ext (uL a C))) s':=by
 have na:H' a=none:=by
  cases q:H' a with
  | none=>rfl
  | some o=>
   obtain ⟨ob,e⟩:=x.tr a o q
   rw [fl.2.1] at e
   cases e
 obtain ⟨oe,vs,e1,c1,d1,_⟩:=fl.first
 have ns:s1.heap.get? a=none:=by
  cases q:s1.heap.get? a with
  | none=>rfl
  | some o=>
   exfalso
   by_cases hb:a∈yz X.stack
   ·obtain ⟨n0,o2,e2,d2⟩:=I.frData a hb
    obtain ⟨sl,e3⟩:=x.un.slot a o2 e2 n0 hb (by simp)
    rw [e1] at e3
    cases e3
    exact d2 vs d1
   ·obtain ⟨o',e'⟩:=x.all a o q hb
    rw [fl.2.1] at e'
    cases e'
 have J:zC X pins σ H' s':=I.call' ho x.un x.ok hg (ch:=[]) (fun b hb=>absurd hb (by simp))
 have new:yr X.prog X.w (zZ H' a (.ext (uL a C))) s'.heap a (.ext (uL a C)):=⟨⟨oe,vs,e1,c1,d1⟩,⟨oe,e1⟩,fun h1 h2 ⟨o,ws,q1,q2,q3⟩ k=>⟨o,ws,k o q1,q2,q3⟩⟩
 exact ⟨na,J,I.call' ho (Id x.un ns na) (WY x.ok na new) hg (ch:=[]) (fun b hb=>absurd hb (by simp))⟩
variable {suite:List Stmt} {ts:TS} {b₀:Stmt}
end
end L2
namespace L2
open PySem PySem.Spec PyProof.Rows
structure wb (k:Nat) (A:Around):Prop where
 dp:A.depth+3*k+5<recursionLimit
 un:A.units+16*k+200<cLine
theorem wb.mono {j k:Nat} {A:Around} (r:wb k A) (h:j<=k):wb j A:=⟨by have:=r.dp; omega,by have:=r.un; omega⟩
theorem wb.deeper {k:Nat} {A:Around} (r:wb (k+1) A) (env:Env):wb k (A.deeper env):=
 ⟨by have:=r.dp; show A.depth+1+3*k+5<_; omega,by have:=r.un; show A.units+3+16*k+200<_; omega⟩
theorem wb.depth {k:Nat} {A:Around} (r:wb k A):A.depth<recursionLimit:=by have:=r.dp; omega
theorem xB.marked {k:Nat} {A:Around} (r:xB k A) (v:Option Value):wb k (A.mark v):=⟨r.dp,r.un⟩
structure Ui (P:Program) (w:World) (K:PySem.W.Frag) (mg:Str->Option Value) (base:Heap) (k:Nat) (f:Addr) (fd:FuncData) (ps:List Str) (sp:Sp):Prop where
 len:∀ vs H Q E,sp vs H Q E->vs.length=ps.length
 run:∀ (A:Around) (outer:List Env) (s:Shared) (H:Hp) (args:Args) (us:List Value) (vs:List V) (Q:VK) (E:XK),wb k A->qA P w K mg base A outer s H->BindsTo s fd args (ps.zip us)->zf vs us->sp vs H Q E->
  codeAny (model P w) A (.call (.ref f) args) (CR wu outer P w H s Q E) s
noncomputable def pz (P:Program) (w:World) (K:PySem.W.Frag) (mg:Str->Option Value) (base:Heap) (x:Str) (ps:List Str) (k:Nat) (sp:Sp):Prop:=
 ∃ (f:Addr) (fd:FuncData),mg x=some (.ref f)/\PySem.W.keepIn K (.ref f)=true/\ud K fd ps []/\Ui P w K mg base k f fd ps sp
noncomputable abbrev gO (P:Program) (w:World) (K:PySem.W.Frag) (mg:Str->Option Value) (base:Heap) (N:List Str) (qual:Str) (scope:Scope) (f:Addr) (cd:Value) (A:Around) (outer:List Env) (s:Shared) (H:Hp) (E:XK):Cx:=
 { (vk wu P w K mg base N qual scope f cd A outer s H E) with calm:=false,xe:=fun _ _=>False }
theorem qA.calm {P:Program} {w:World} {K:PySem.W.Frag} {mg:Str->Option Value} {base:Heap} {A:Around} {outer:List Env} {s:Shared} {H:Hp} (e:qA P w K mg base A outer s H):qA P w K mg base { A with handled:=none } outer s H:=
 ⟨e.frames,e.mod,e.bs,e.bsz,e.funs,e.frf,e.hok,e.bare⟩
theorem LP {P:Program} {w:World} {K:PySem.W.Frag} {mg:Str->Option Value} {base:Heap} {k:Nat} {f:Addr} {name qual:Str} {params:Arguments} {body:List Stmt} {scope:Scope} {dV kV doc pm cdv ct oc:Value} {an od:Option Addr}
  {osl:Array (Option Value)} {N ps:List Str} {sp:Sp} (lk:K.lookup f=some ⟨oc,od,.func (PySem.W.fnOf name qual params body scope dV kV doc pm an cdv ct),osl⟩) (hcd:PySem.W.codeIn K cdv qual=true) (S:yQ N ps scope)
  (len:∀ vs H Q E,sp vs H Q E->vs.length=ps.length)
  (hbody:∀ (A:Around) (outer:List Env) (s:Shared) (H:Hp) (vs:List V) (Q:VK) (E:XK),wb k (A.deeper (envOfC qual scope s.heap.objs.size f cdv))->sp vs H Q E->
   ∃ t,wZ (gO P w K mg base N qual scope f cdv A outer s H E) body t/\t { nx:=fun _ H'=>Q .non H',rt:=Q } (start N vs) H) :
  Ui P w K mg base (k+1) f (PySem.W.fnOf name qual params body scope dV kV doc pm an cdv ct) ps sp:=by
 refine ⟨len,fun A outer s H args us vs Q E hr e0 hb r hsp=>?_⟩
 have hl:=len _ _ _ _ hsp
 have KX:K.In s.heap:=e0.mod.kin.keeps fun b o e=>(e0.bs b o e).1
 have lim:s.heap.NoLimit:=e0.mod.nolimit.keeps fun b o e=>(e0.bs b o e).1
 have hkind:∀ y∈ps.zip us,scope.names.lookup y.1=some .local\/(scope.names.lookup y.1=some .cell/\((cellsFrom (s.heap.objs.size+1) scope.names []).lookup y.1).isSome=true):=fun ⟨n,v⟩ hy=>by
  rcases S.par n (List.of_mem_zip hy).1 with q | q
  ·exact .inl q
  ·exact .inr ⟨q,PySem.W.cellsFrom_some _ _ _ (.inl q)⟩
 refine codeAny_call_function hr.depth (KX _ _ lk) rfl S.co S.gen rfl (PySem.W.codeRec_of KX hcd) (hb _ _ _ _ ?_)
 refine wpAny_newFunctionEnv_cells S.kind hkind fun env he s1 x=>?_
 subst he
 refine ⟨lim.keeps x.toInCall.keep,codeAny_func ?_⟩
 obtain ⟨t,ht,hq⟩:=hbody A outer s H vs Q E (hr.deeper _) hsp
 have I0:zC (vk wu P w K mg base N qual scope f cdv { A with handled:=none } outer s H E) [] (start N vs) H s1:=QD S rfl e0.calm hl r x
 have I:zC (gO P w K mg base N qual scope f cdv A outer s H E) [] (start N vs) H s1:=I0.uncalm (A:=A.deeper (envOfC qual scope s.heap.objs.size f cdv)) rfl _
 refine wpAny_mono (ht [] s1 (start N vs) H _ I hq) (fun fl s' hs=>?_) fun e s' hs=>hs.elim
 have fin:∀ {σ':St} {H':Hp} {v:V} {u:Value},zC (gO P w K mg base N qual scope f cdv A outer s H E) [] σ' H' s'->zm v u->Q v H'->CE outer P w H s Q u s':=
  fun {σ' H' v u} J rv q=>⟨v,H',J.os,J.bare,J.base,J.hok,rv,q⟩
 cases fl with
 | ret u=>
  obtain ⟨v,σ',H',J,rv,q⟩:=hs
  exact fin J rv q
 | next=>
  obtain ⟨σ',H',J,q⟩:=hs
  exact fin (v:=V.non) (u:=Value.none) J rfl q
 | brk=>
  obtain ⟨_,_,_,q⟩:=hs
  exact False.elim q
 | cont=>
  obtain ⟨_,_,_,q⟩:=hs
  exact False.elim q
theorem Def.okH {P:Program} {w:World} {K:PySem.W.Frag} {mg:Str->Option Value} {base:Heap} {x:Str} {st:Stmt} {N ps:List Str} {k:Nat} {sp:Sp} (d:Def K mg x st ps) (S:yQ N ps (zi st)) (len:∀ vs H Q E,sp vs H Q E->vs.length=ps.length)
  (hbody:∀ (f:Addr) (cdv:Value) (A:Around) (outer:List Env) (s:Shared) (H:Hp) (vs:List V) (Q:VK) (E:XK),wb k (A.deeper (envOfC x (zi st) s.heap.objs.size f cdv))->sp vs H Q E->
   ∃ t,kx (gO P w K mg base N x (zi st) f cdv A outer s H E) (wg st) t/\t { nx:=fun _ H'=>Q .non H',rt:=Q } (start N vs) H):pz P w K mg base x ps (k+1) sp:=by
 obtain ⟨f,fd,F,hm,hb⟩:=d
 obtain ⟨oc,od,kV,doc,pm,an,cdv,ct,osl,rfl,lk,hcd⟩:=F.ex
 refine ⟨f,_,hm,F.kp,hb,LP lk hcd S len fun A outer s H vs Q E hr hsp=>?_⟩
 obtain ⟨t,h,q⟩:=hbody f cdv A outer s H vs Q E hr hsp
 exact ⟨t,h.h,q⟩
section
variable {X:Cx} {x:Str} {p pos:Pos} {e:Expr} {es:List Expr} {t:TA} {ps:List Str} {j k:Nat} {sp:Sp}
theorem Fm (h:pz X.prog X.w X.K X.mg X.base x ps k sp) (hr:wb j X.A) (hg:Gl X x) (ha:QA X (e::es) t) (hk:k<=j:=by decide) (hdb:(x == ("__debug__" : Str))=false:=by decide)
  (he:(e::es).all ya=true:=by rfl):QE X (.Call (.Name x p) (e::es) [] pos) (YL sp [] E0 t):=by
 obtain ⟨f,fd,hm,kp,b,F⟩:=h
 rw [List.all_cons,Bool.and_eq_true] at he
 refine ⟨fun pins s σ H Q I q=>?_⟩
 refine wpAny_Call_Name_kw (pH I hg hm ?_ hdb)
 refine PySem.W.callWith_K (h₀:=X.base) I.ok.mod.kin kp (zh (ha.h pos pins s σ H _ I q) fun us s1 ⟨vs,H1,I1,r,q1⟩=>⟨I1.kIn,?_⟩) (wp he.1) (qo he.2)
 have q1':sp vs H1 Q E0:=by simpa only [List.append_nil] using q1
 have hl:us.length=ps.length:=by rw [<- r.length]; exact F.len _ _ _ _ q1'
 have hl2:(us++[]).length=ps.length:=by rw [List.append_nil]; exact hl
 have hb:=b s1 us I1.kIn hl2
 rw [List.append_nil] at hb
 refine wpAny_call (codeAny_mono (F.run X.A X.stack s1 H1 ⟨us,[]⟩ us vs Q E0 (hr.mono hk) I1.env0 hb r q1') fun r s' hq=>?_)
 cases r with
 | error e=>exact False.elim hq
 | ok fl=>
  cases fl with
  | ret u=>exact I1.after hq
  | next=>exact False.elim hq
  | brk=>exact False.elim hq
  | cont=>exact False.elim hq
end
end L2
namespace L2
open PySem PySem.Spec PyProof.Rows
noncomputable abbrev TJ:=St->Hp->Str->VK->Prop
structure QJ (X:Cx) (es:List Expr) (t:TJ):Prop where
 h:∀ (pins:List (Addr×Obj)) (s:Shared) (σ:St) (H:Hp) (acc:Str) (Q:VK),zC X pins σ H s->t σ H acc Q->wpAny (model X.prog X.w) X.A (joinParts acc (evalEach es X.env)) (EP X pins σ Q) X.xe s
section
variable {X:Cx} {e e1 e2:Expr} {es:List Expr} {te:TE} {t:TJ} {pos:Pos}
noncomputable def EN (te:TE) (t:TJ):TJ:=fun σ H acc Q=>te σ H fun v H1=>∃ y,v=.str y/\(acc++y).length<=sizeLine/\t σ H1 (acc++y) Q
theorem Fq:QJ X [] (fun _ H acc Q=>acc.length<=sizeLine/\Q (.str acc) H):=⟨fun pins s σ H acc Q I q=>wpAny_mkStr ⟨.str acc,H,I.tok _,⟨_,rfl⟩,q.2⟩ q.1⟩
theorem Fp (he:QE X e te) (ht:QJ X es t):QJ X (e::es) (EN te t):=by
 refine ⟨fun pins s σ H acc Q I q=>?_⟩
 show wpAny _ _ (joinParts acc (eval e X.env::evalEach es X.env)) _ _ s
 refine joinParts_cons (zh (he.h pins s σ H _ I q) fun u s1 ⟨v,H1,I1,r,y,hv,hl,q1⟩=>?_)
 subst hv
 obtain ⟨tk,rfl⟩:=(show ∃ tk,u=Value.str y tk from r)
 exact ⟨hl,ht.h pins s1 σ H1 _ Q I1 q1⟩
theorem Fj (h:QJ X (e1::e2::es) t):QE X (.JoinedStr (e1::e2::es) pos) (fun σ H Q=>t σ H Str.empty Q):=⟨fun pins s σ H Q I q=>h.h pins s σ H _ Q I q⟩
noncomputable def EJ (te:TE):TE:=fun σ H Q=>te σ H fun v H1=>(∃ a:Int,v=.int a/\a.natAbs.log2<1920/\Q (.str (Str.ofString (toString a))) H1)\/∃ y:Str,v=.str y/\y.length<=sizeLine/\Q (.str y) H1
theorem Fi (he:QE X e te):QE X (.FormattedValue e (-1) none pos) (EJ te):=by
 refine ⟨fun pins s σ H Q I q=>?_⟩
 refine FormattedValue_plain (zh (he.h pins s σ H _ I q) fun u s1 ⟨v,H1,I1,r,z⟩=>?_)
 rcases z with ⟨a,rfl,hl,q1⟩ | ⟨y,rfl,hl,q1⟩
 ·obtain ⟨tk,rfl⟩:=(show ∃ tk,u=Value.int a tk from r)
  exact formatField_int_small hl ⟨.str (Str.ofString (toString a)),H1,I1.tok _,⟨_,rfl⟩,q1⟩
 ·obtain ⟨tk,rfl⟩:=(show ∃ tk,u=Value.str y tk from r)
  exact formatField_str (fun t' tk'=>⟨.str y,H1,I1.tok _,⟨_,rfl⟩,q1⟩) hl
theorem M6 {a:Int} (h:a.natAbs.log2<1920):(Str.ofString (toString a)).length<=1921:=by
 have e:=int_text_length_le (k:=1920) (by decide) h
 rw [PySem.ofString_length]; exact e
theorem Eh {a:Str} {m:Nat} (h:a.length<=m) (hm:m<=16777216:=by decide):a.length<=sizeLine:=Nat.le_trans h (by rw [sizeLine_eq]; exact hm)
end
end L2
namespace L2
open PySem PySem.Spec PyProof.Rows
open PySem.W (Looks findIn mroIn looks_findIn looks_mroIn clsIn)
structure uK (K:PySem.W.Frag) (C:Addr):Prop where
 ga:findIn K (.ref C) "__getattribute__" = some (some (.builtin "BaseException.__getattribute__"))
 gt:findIn K (.ref C) "__getattr__" = some none
 cl:findIn K (.ref C) "__class__" = some (some (.builtin "object.__class__"))
 mo:mroIn K C (.type "object")=some true
 mb:mroIn K C (.type "BaseException")=some true
section
variable {prog:Program} {w:World} {A:Around} {E:Value->Shared->Prop} {h:Heap} {g:Array GenState} {d:Drawn} {t:Nat} {os:OsState} {a C:Addr} {o:Obj} {K:PySem.W.Frag}
theorem LF {R:Result->Shared->Prop} (Z:uK K C) (KI:K.In h) (hx:h.get? a=some o) (hc:o.cls=.ref C) (hq:R (.ok (.ret (.ref C))) ⟨h,g,d,t,os⟩) :
  codeAny (model prog w) A (.call (.builtin "getset_descriptor.__get__") ⟨[.builtin "object.__class__",.ref a,.ref C],[]⟩) R ⟨h,g,d,t,os⟩:=by
 have hT5:(⟨h,g,d,t,os⟩:Shared).TypeIs (.builtin "object.__class__") "getset_descriptor" := F.typeOf_object_class
 have L:Looks (model prog w) h (isSubtype (.ref C) (.type (".".intercalate ("object.__class__".cutAt '.').dropLast))) true:=by rw [F.owner_object_class]; exact looks_mroIn KI Z.mo
 refine codeAny_call_builtin F.slot_gs_get.plain F.entry_gs_get (F.slot_gs_get.check _ _ _ _ _ _ _ _ hT5 (F.args_gs_get _ _ _) ?_)
 repeat (any_goals (first | assumption | (with_reducible refine wpAny_loadPart_at hx ?_; rw [hc]) | with_reducible refine L.at ?_ | wp_step))
 refine ⟨Code.quiet_builtin _ (by decide +kernel),codeAny_builtin F.entry_object_class ?_⟩
 repeat (any_goals (first | assumption | (with_reducible refine wpAny_loadPart_at hx ?_; rw [hc]) | wp_step))
theorem LD {M:Model} {nameV:Value} {Q:Unit->Shared->Prop} (Z:uK K C) (KI:K.In h) (hx:h.get? a=some o) (hc:o.cls=.ref C) (hq:Q () ⟨h,g,d,t,os⟩) :
  wpAny M A (checkBuiltinCall "BaseException.__getattribute__" ⟨[.ref a,nameV],[]⟩) Q E ⟨h,g,d,t,os⟩:=by
 have hk:builtinKind "BaseException.__getattribute__" = some .slot:=by decide +kernel
 have hsplit:splitId "BaseException.__getattribute__" = some ("BaseException", "__getattribute__"):=by decide +kernel
 have L:Looks M h (isSubtype (.ref C) (.type "BaseException")) true:=looks_mroIn KI Z.mb
 have ha:=F.args_bexc_ga (.ref a) nameV
 simp only [checkBuiltinCall,hk,hsplit]
 refine wpAny_bind ?_
 ·unfold isInstance
  repeat (first | (with_reducible refine wpAny_loadPart_at hx ?_; rw [hc]) | with_reducible refine L.at ?_ | wp_step)
  exact hq
theorem LE {tk:Tok} {Q:Fin->Shared->Prop} (Z:uK K C) (KI:K.In h) (hx:h.get? a=some o) (hc:o.cls=.ref C) (hq:Q (.done (.ret (.ref C))) ⟨h,g,d,t,os⟩) :
  wpAny (model prog w) A (Builtin.«object.__getattribute__» ⟨[.ref a,.str "__class__" tk],[]⟩) Q E ⟨h,g,d,t,os⟩:=by
 have hT5:(⟨h,g,d,t,os⟩:Shared).TypeIs (.builtin "object.__class__") "getset_descriptor" := F.typeOf_object_class
 have L:=looks_findIn (M:=model prog w) KI Z.cl
 have f5:=F.typeOf_object_class
 have f6:=F.slot_gs_get.lookup
 have f7:=F.slot_gs_set.lookup
 repeat (any_goals (first | assumption | (with_reducible refine wpAny_loadPart_at hx ?_; rw [hc]) | with_reducible refine L.at ?_ | wp_step))
 refine LF Z KI hx hc ?_
 repeat (any_goals (first | assumption | wp_step))
theorem LC {tk:Tok} {Q:Value->Shared->Prop} (Z:uK K C) (KI:K.In h) (hx:h.get? a=some o) (hc:o.cls=.ref C) (hq:Q (.ref C) ⟨h,g,d,t,os⟩) :
  wpAny (model prog w) A (getAttrBy (.ref a) (.str "__class__" tk) false) Q E ⟨h,g,d,t,os⟩:=by
 have FB:=F.excAttr_ValueError
 have f3:=FB.ga.bind (.ref a)
 have hx2:(Value.builtin "BaseException.__getattribute__" == Value.builtin "object.__getattribute__")=false:=by decide +kernel
 have hx1:(onTheHeap (Value.ref C)&&Value.builtin "BaseException.__getattribute__" == Value.builtin "object.__getattribute__")=false:=by rw [hx2]; rfl
 have L1:=looks_findIn (M:=model prog w) KI Z.ga
 have L2:=looks_findIn (M:=model prog w) KI Z.gt
 repeat (any_goals (first | assumption | (with_reducible refine wpAny_loadPart_at hx ?_; rw [hc]) | with_reducible refine L1.at ?_ | with_reducible refine L2.at ?_ | wp_step))
 refine codeAny_call_builtin FB.ga.plain F.entry_bexc_ga (LD Z KI hx hc (LE Z KI hx hc ?_))
 repeat (any_goals (first | assumption | wp_step))
theorem LB {Q:Option Value->Shared->Prop} (Z:uK K C) (KI:K.In h) (hx:h.get? a=some o) (hc:o.cls=.ref C) (hq:Q (some (.ref C)) ⟨h,g,d,t+1,os⟩) :
  wpAny (model prog w) A (getAttr? (.ref a) "__class__") Q E ⟨h,g,d,t,os⟩:=by
 unfold getAttr? getAttrBy?
 repeat (any_goals (first | assumption | with_reducible apply LC Z KI hx hc | wp_step))
theorem Me (Z:uK K C):PySem.W.KitX K (.ref a) (.ref C) (uL a C) where
 ty:=fun M h _ ⟨o,vs,e,c,_⟩=>c ▸ (Looks.ld e).andThen .now
 it:=fun M h X _=>by
  have q:=Z.mo
  unfold mroIn at q
  cases hcD:clsIn K C with
  | none=>rw [hcD] at q; cases q
  | some cd=>
   unfold clsIn at hcD
   split at hcD
   ·rename_i c' d' cd' sl' ho
    intro A' Q' E' s' k q
    unfold isType loadHead
    exact wpAny_bind (wpAny_loadPart (k _ _ (X _ _ ho)) (wpAny_pure q))
   ·cases hcD
 ne:=fun h tp dd its n sl X htp=>by
  have q:=Z.mo
  unfold mroIn at q
  refine Bool.eq_false_iff.mpr fun z=>?_
  have e:C=tp:=Value.ref.inj (beq_iff_eq.mp z)
  subst e
  cases hcD:clsIn K C with
  | none=>rw [hcD] at q; cases q
  | some cd=>
   unfold clsIn at hcD
   split at hcD
   ·rename_i c' d' cd' sl' ho
    have z:=(X _ _ ho).symm.trans htp
    cases z
   ·cases hcD
 ca:=fun {prog w A E Q s} X ⟨o,vs,e,c,_⟩ k=>by obtain ⟨h,g,d,t,os⟩:=s; exact LB Z X e c k
end
theorem xh.glb {K:PySem.W.Frag} {mg:Str->Option Value} {x:Str} {C:Addr} (c:xh K mg x C):xf mg x (.ref C):=⟨.ref C,c.at_,rfl⟩
theorem OT:bootBuiltins "ValueError" = some (.type "ValueError"):=by decide +kernel
noncomputable def TM:V->Option Value
 | .ref D=>some (.ref D)
 | .ty T=>some (.type T)
 | _=>none
theorem Oh {c:V} {cv u:Value} (h:TM c=some cv) (r:zm c u):u=cv:=by
 cases c<;>first | (cases h; exact r) | cases h
theorem TB {X:Cx}:xr X (.builtin "isinstance") (fun xs H Q=>∃ a C c cv b,xs=[.ref a,c]/\H a=some (.ext (uL a C))/\uK X.K C/\TM c=some cv/\PySem.W.kitOne X.K (.ref C) cv=some b/\Q (.bl b) H):=by
 intro pins s σ H xs us Q I r h
 obtain ⟨a,C,c,cv,b,rfl,ea,Z,hc,e,q⟩:=h
 obtain ⟨u,c',rfl,rx,rc⟩:=YT r
 cases (show u=Value.ref a from rx)
 obtain rfl:=Oh hc rc
 obtain ⟨ho,_⟩:=(show yr X.prog X.w H s.heap a (.ext (uL a C)) from I.hok a _ ea)
 exact PySem.W.kia_one (Me Z) I.kIn ho e (fun z=>nomatch z) fun tk=>⟨.bl b,H,I.tok tk,rfl,q⟩
end L2
namespace L2
open PySem PySem.Spec PyProof.Rows
section
variable {X:Cx}
theorem G4 {bs:List Bool} {its:List Value} (r:zf (bs.map V.bl) its) {i:Nat} {v:Value} (h:its.toArray[i]?=some v):v=.bool (bs.getD i false):=by
 have hi:i<its.length:=by
  rw [List.getElem?_toArray] at h
  exact (List.getElem?_eq_some_iff.mp h).1
 have hl:bs.length=its.length:=by have:=r.length; rw [List.length_map] at this; exact this
 have hx:(bs.map V.bl)[i]?=some (.bl (bs.getD i false)):=by
  rw [List.getElem?_map,List.getD_eq_getElem?_getD,List.getElem?_eq_getElem (by omega)]
  rfl
 obtain ⟨u,hu,ru⟩:=r.get hx
 rw [List.getElem?_toArray,hu] at h
 cases h
 exact ru
theorem C4 {bs:List Bool}:(List.range bs.length).all (fun i=>bs.getD i false)=bs.all id:=by
 rw [Bool.eq_iff_iff,List.all_eq_true,List.all_eq_true]
 constructor
 ·intro h b hb
  obtain ⟨i,hi,rfl⟩:=List.mem_iff_getElem.mp hb
  have:=h i (List.mem_range.mpr hi)
  rwa [List.getD_eq_getElem?_getD,List.getElem?_eq_getElem hi] at this
 ·intro h i hi
  have hi':=List.mem_range.mp hi
  rw [List.getD_eq_getElem?_getD,List.getElem?_eq_getElem hi']
  exact h _ (List.getElem_mem hi')
noncomputable def JJ (K:PySem.W.Frag):List V->Hp->VK->Prop:=fun xs H Q=>∃ (p:Addr) (bs:List Bool),xs=[.ref p]/\yT K H p (bs.map V.bl)/\Q (.bl (bs.all id)) H
theorem gM (hc:X.calm=true):xr X (.builtin "all") (JJ X.K):=by
 intro pins s σ H xs us Q I r h
 obtain ⟨p,bs,rfl,hq,q⟩:=h
 obtain ⟨u,rfl,rx⟩:=wr r
 cases rx
 have hd:=I.ok.hd hc
 refine call_all_walk ?_
 obtain ⟨its,rv,pl,hz⟩:=I.list hq
 have hl:bs.length=its.toArray.size:=by have:=rv.length; rw [List.length_map] at this; rw [List.size_toArray]; exact this
 have hlt:p<s.heap.objs.size:=by obtain ⟨o,n,e,_⟩:=pl; exact Heap.lt_size e
 refine wpAny_pyIter_list pl.isList ?_
 refine ⟨_,_,_,_,_,_,fun i=>bs.getD i false,rfl,Walks.list (by exact hd) s.heap.objs.size p (Nat.ne_of_lt hlt) its.toArray,⟨⟨_,Heap.get?_push_size _ rfl,rfl,rfl⟩,pl.isList.push _⟩,?_,?_⟩
 ·intro i v Q' E' s' hv h'
  rw [G4 rv hv]
  exact wpAny_pure h'
 ·intro h' tk k
  rw [<- hl,C4]
  exact ⟨.bl (bs.all id),H,I.kept (t':=tk) fun b o eb=>k b o (fun z=>by
   have:b=s.heap.objs.size:=by simpa using z
   rw [this] at eb
   exact absurd (Heap.lt_size eb) (Nat.lt_irrefl _)) (Heap.get?_push_of_some _ eb),rfl,q⟩
end
end L2
namespace L2
open PySem PySem.Spec PyProof.Rows
open Builtin.SmallTypes (nextOf)
structure q_ (P:Program) (w:World) (it l:Addr) (st:Nat->Heap->Prop) (n:Nat) (val:Nat->Value):Prop where
 keep:∀ i h h',st i h->(∀ b o,(b=it\/b=l)->h.get? b=some o->h'.get? b=some o)->st i h'
 item:∀ {A:Around} {Q:Value->Shared->Prop} {E:Value->Shared->Prop} {s:Shared} (i:Nat),st i s.heap->i<n->(∀ h',st (i+1) h'->Heap.SameBut it s.heap h'->Q (val i) { s with heap:=h' })->wpAny (model P w) A (nextOf (.ref it)) Q E s
 done:∀ {A:Around} {Q:Value->Shared->Prop} {E:Value->Shared->Prop} {s:Shared} (i:Nat),A.handled=none->st i s.heap->n<=i->
  (∀ h' e,Heap.ExtBut it s.heap h'->(∃ o,h'.get? e=some o/\o.cls=.type "StopIteration")->E (.ref e) { s with heap:=h' })->wpAny (model P w) A (nextOf (.ref it)) Q E s
section
variable {prog:Program} {w:World} {A:Around} {E:Value->Shared->Prop} {s:Shared}
theorem BE {it t:Addr} {i:Nat} {items} {x:Value} {Q:Value->Shared->Prop} (hit:s.heap.IsTupleIter it t i) (ht:s.heap.IsTuple t items) (hx:items[i]?=some x)
  (hQ:∀ h',h'.IsTupleIter it t (i+1)->Heap.SameBut it s.heap h'->Q x { s with heap:=h' }):wpAny (model prog w) A (nextOf (.ref it)) Q E s:=by
 obtain ⟨o,ho,hc,hd⟩:=id hit
 obtain ⟨ol,hol,_,nl,hdl⟩:=ht
 unfold nextOf
 refine wpAny_bind (wpAny_callSpecial?_slot (name:=Str.ofString "__next__") hit.typeIs F.slot_tuple_iterator_next
  (wpAny_call_entry F.slot_tuple_iterator_next hit.typeIs F.entry_tuple_iterator_next ?_ (F.args_tuple_iterator_next_1 _)))
 refine wpAny_bind (m:=field (.ref it) 0) (wpAny_field ho hd (x:=.ref t) rfl ?_)
 show wpAny _ _ (if (Value.ref t == Value.none)=true then _ else _) _ _ s
 rw [if_neg (show ¬ ((Value.ref t == Value.none)=true) from Bool.false_ne_true)]
 refine wpAny_bind (m:=field (.ref it) 1) (wpAny_field ho hd (x:=.int i 0) rfl ?_)
 refine wpAny_bind (m:=seqItems? (.ref t)) (wpAny_seqItems hol hdl ?_)
 simp only [Int.toNat_natCast,hx]
 refine wpAny_bind (wpAny_setField ho hd (by simp) (wpAny_pure ⟨x,rfl,wpAny_pure (hQ _ ?_ (Heap.SameBut.update ..))⟩))
 exact ⟨_,Heap.get?_update_self _ ho (Obj.isFreed_of_fields (Obj.data_mapFields hd _)),(Obj.cls_mapFields ..).trans hc,by
  rw [Obj.data_mapFields hd]; simp [rawInt]⟩
theorem BD {it t:Addr} {i:Nat} {items} {Q:Value->Shared->Prop} (hh:A.handled=none) (hit:s.heap.IsTupleIter it t i) (ht:s.heap.IsTuple t items) (hx:items[i]?=none)
  (hE:∀ h' e,Heap.ExtBut it s.heap h'->(∃ o,h'.get? e=some o/\o.cls=.type "StopIteration")->E (.ref e) { s with heap:=h' }):wpAny (model prog w) A (nextOf (.ref it)) Q E s:=by
 obtain ⟨o,ho,hc,hd⟩:=id hit
 obtain ⟨ol,hol,_,nl,hdl⟩:=ht
 unfold nextOf
 refine wpAny_bind (wpAny_callSpecial?_slot (name:=Str.ofString "__next__") hit.typeIs F.slot_tuple_iterator_next
  (wpAny_call_entry F.slot_tuple_iterator_next hit.typeIs F.entry_tuple_iterator_next ?_ (F.args_tuple_iterator_next_1 _)))
 refine wpAny_bind (m:=field (.ref it) 0) (wpAny_field ho hd (x:=.ref t) rfl ?_)
 show wpAny _ _ (if (Value.ref t == Value.none)=true then _ else _) _ _ s
 rw [if_neg (show ¬ ((Value.ref t == Value.none)=true) from Bool.false_ne_true)]
 refine wpAny_bind (m:=field (.ref it) 1) (wpAny_field ho hd (x:=.int i 0) rfl ?_)
 refine wpAny_bind (m:=seqItems? (.ref t)) (wpAny_seqItems hol hdl ?_)
 simp only [Int.toNat_natCast,hx]
 refine wpAny_bind (wpAny_rule (wpAny_bind (wpAny_setField ho hd (by simp) ?_)))
 refine wpAny_bind (m:=newExc (.type "StopIteration") []) ?_
 simp only [newExc,newTuple]
 refine wpAny_bind (wpAny_newObj_type ?_ (by size_fits))
 refine wpAny_bind (m:=firstArgMember _ _) (wpAny_of_eq (a:=Value.none) (by first | rfl | (simp only [firstArgMember]; rfl)) ?_)
 refine wpAny_newObj_type ?_ (by size_fits)
 simp only [raiseNew]
 refine wpAny_bind (wpAny_handled ?_)
 first | rw [show A.in1.handled=none from hh] | rw [hh]
 refine wpAny_bind (wpAny_pure (wpAny_throw ?_))
 exact hE _ _ (((Heap.SameBut.update ..).extBut.push _).push _) ⟨_,Heap.get?_push_size _ rfl,rfl⟩
theorem E4 {it l:Addr} (hne:l≠it) (items:Array Value):q_ prog w it l (fun i h=>h.IsListIter it l i/\h.IsList l items) items.size (fun i=>items.getD i .none) where
 keep:=fun i h h' st k=>⟨st.1.at fun o e=>k it o (.inl rfl) e,st.2.at fun o e=>k l o (.inr rfl) e⟩
 item:=fun i st hi hQ=>wpAny_nextOf_list_item st.1 st.2 (x:=items.getD i .none) (by simp [Array.getD,hi]) fun h' st' sb=>hQ h' ⟨st',st.2.extBut sb.extBut hne⟩ sb
 done:=fun i hh st hi hE=>wpAny_nextOf_list_end hh st.1 st.2 (Array.getElem?_eq_none hi) hE
theorem E5 {it l:Addr} (hne:l≠it) (items:Array Value):q_ prog w it l (fun i h=>h.IsTupleIter it l i/\h.IsTuple l items) items.size (fun i=>items.getD i .none) where
 keep:=fun i h h' st k=>⟨st.1.at fun o e=>k it o (.inl rfl) e,st.2.at fun o e=>k l o (.inr rfl) e⟩
 item:=fun i st hi hQ=>BE st.1 st.2 (x:=items.getD i .none) (by simp [Array.getD,hi]) fun h' st' sb=>hQ h' ⟨st',st.2.extBut sb.extBut hne⟩ sb
 done:=fun i hh st hi hE=>BD hh st.1 st.2 (Array.getElem?_eq_none hi) hE
variable {z TI TO i1 i2 l1 l2:Addr} {st1 st2:Nat->Heap->Prop} {n1 n2:Nat} {v1 v2:Nat->Value} {a b:Value} {k:Nat}
theorem GD {Q:Value->Shared->Prop} (D:ZipApart z TI TO i1 i2 l1 l2) (S1:q_ prog w i1 l1 st1 n1 v1) (S2:q_ prog w i2 l2 st2 n2 v2)
  (hz:IsZip s.heap z TI TO .none) (hTI:IsPair s.heap TI (.ref i1) (.ref i2)) (hTO:IsPair s.heap TO a b) (h1:st1 k s.heap) (h2:st2 k s.heap) (k1:k<n1) (k2:k<n2)
  (hi1:i1<s.heap.objs.size) (hi2:i2<s.heap.objs.size) (hl1:l1<s.heap.objs.size) (hl2:l2<s.heap.objs.size)
  (hQ:∀ h',IsZip h' z TI TO (rawInt s.heap.objs.size)->IsPair h' TO (v1 k) (v2 k)->st1 (k+1) h'->st2 (k+1) h'->IsPair h' s.heap.objs.size (v1 k) (v2 k)->
   (∀ c o,c≠z->c≠TO->c≠i1->c≠i2->s.heap.get? c=some o->h'.get? c=some o)->Q (.ref s.heap.objs.size) { s with heap:=h' }) :
  wpAny (model prog w) A (Builtin.«zip.__next__» ⟨[.ref z],[]⟩) (fun fin s'=>∃ v,fin=.done (.ret v)/\Q v s') E s:=by
 refine wpAny_bind (m:=field (.ref z) 2) (wpAny_field hz rfl (x:=.bool false) rfl ?_)
 refine wpAny_bind (m:=field (.ref z) 3) (wpAny_field hz rfl (x:=.ref TI) rfl ?_)
 refine wpAny_bind (wpAny_seqItems hTI rfl ?_)
 refine wpAny_bind (m:=Builtin.SmallTypes.ownedTupleIsFree (.ref z)) ?_
 unfold Builtin.SmallTypes.ownedTupleIsFree
 refine wpAny_bind (wpAny_field hz rfl (x:=.none) rfl (wpAny_pure ?_))
 simp only [if_true]
 refine wpAny_bind (wpAny_rule (wpAny_bind (wpAny_field hz rfl (x:=.ref TO) rfl ?_)))
 refine wpAny_bind (wpAny_setField_rec hz (by simp) fun ha hza sa=>?_)
 replace hza:IsZip ha z TI TO .ellipsis:=hza
 refine wpAny_bind ?_
 simp only [List.zipIdx_cons,List.zipIdx_nil,List.forIn_cons,List.forIn_nil]
 have h1a:st1 k ha:=S1.keep k _ _ h1 fun c o hc e=>sa.extBut c o (by rcases hc with rfl | rfl; exact D.i1z; exact D.l1z) e
 refine wpAny_bind (wpAny_bind (wpAny_onRaise (wpAny_bind (m:=nextOf (.ref i1)) (S1.item k h1a k1 fun hb h1b sb=>wpAny_pure ?_))))
 have hTOb:IsPair hb TO a b:=sb.extBut _ _ D.TOi1 (sa.extBut _ _ D.TOz hTO)
 refine wpAny_bind (wpAny_seqItems hTOb rfl (wpAny_bind (wpAny_updateSeq_pair hTOb fun hc hTOc sc=>?_)))
 replace hTOc:IsPair hc TO (v1 k) b:=hTOc
 refine wpAny_bind (wpAny_letGo (wpAny_pure ?_))
 have h2c:st2 k hc:=S2.keep k _ _ h2 fun c o hcc e=>by
  rcases hcc with rfl | rfl
  ·exact sc.extBut _ _ D.TOi2.symm (sb.extBut _ _ D.i12.symm (sa.extBut _ _ D.i2z e))
  ·exact sc.extBut _ _ D.l2TO (sb.extBut _ _ D.l2i1 (sa.extBut _ _ D.l2z e))
 refine wpAny_bind (wpAny_bind (wpAny_onRaise (wpAny_bind (m:=nextOf (.ref i2)) (S2.item k h2c k2 fun hd h2d sd=>wpAny_pure ?_))))
 have hTOd:IsPair hd TO (v1 k) b:=sd.extBut _ _ D.TOi2 hTOc
 refine wpAny_bind (wpAny_seqItems hTOd rfl (wpAny_bind (wpAny_updateSeq_pair hTOd fun he hTOe se=>?_)))
 replace hTOe:IsPair he TO (v1 k) (v2 k):=hTOe
 refine wpAny_bind (wpAny_letGo (wpAny_pure (wpAny_pure ?_)))
 refine wpAny_bind (wpAny_seqItems hTOe rfl (wpAny_bind (wpAny_newTuple ?_)))
 have hsz:he.objs.size=s.heap.objs.size:=by rw [se.1,sd.1,sc.1,sb.1,sa.1]
 have hze:IsZip he z TI TO .ellipsis:=se.extBut _ _ D.TOz.symm (sd.extBut _ _ D.i2z.symm (sc.extBut _ _ D.TOz.symm (sb.extBut _ _ D.i1z.symm hza)))
 have hke:∀ c o,c≠z->c≠TO->c≠i1->c≠i2->s.heap.get? c=some o->he.get? c=some o:=fun c o c1 c2 c3 c4 e=>
  se.extBut _ _ c2 (sd.extBut _ _ c4 (sc.extBut _ _ c2 (sb.extBut _ _ c3 (sa.extBut _ _ c1 e))))
 have h1e:st1 (k+1) he:=S1.keep _ _ _ h1b fun c o hcc e=>by
  rcases hcc with rfl | rfl
  ·exact se.extBut _ _ D.TOi1.symm (sd.extBut _ _ D.i12 (sc.extBut _ _ D.TOi1.symm e))
  ·exact se.extBut _ _ D.l1TO (sd.extBut _ _ D.l1i2 (sc.extBut _ _ D.l1TO e))
 have h2e:st2 (k+1) he:=S2.keep _ _ _ h2d fun c o hcc e=>by
  rcases hcc with rfl | rfl
  ·exact se.extBut _ _ D.TOi2.symm e
  ·exact se.extBut _ _ D.l2TO e
 have hzlt:z<he.objs.size:=Heap.lt_size hze
 refine wpAny_bind (m:=Builtin.SmallTypes.ownedTupleHandOut (.ref z) (.ref he.objs.size)) ?_
 unfold Builtin.SmallTypes.ownedTupleHandOut
 have hzf:IsZip (he.push { cls:=.type "tuple",data:=.seq #[v1 k,v2 k] }) z TI TO .ellipsis:=Heap.get?_push_of_some _ hze
 refine wpAny_bind (wpAny_setField_rec hzf (by simp) fun hg hzg sg=>?_)
 replace hzg:IsZip hg z TI TO (rawInt he.objs.size):=hzg
 refine wpAny_setField_rec hzg (by simp) fun hh hzh sh=>?_
 replace hzh:IsZip hh z TI TO (rawInt he.objs.size):=hzh
 have up:∀ c o,c≠z->he.get? c=some o->hh.get? c=some o:=fun c o c1 e=>sh.extBut _ _ c1 (sg.extBut _ _ c1 (Heap.get?_push_of_some _ e))
 have hT:IsPair hh he.objs.size (v1 k) (v2 k):=sh.extBut _ _ (Nat.ne_of_gt hzlt) (sg.extBut _ _ (Nat.ne_of_gt hzlt) (Heap.get?_push_size _ rfl))
 rw [hsz] at hzh hT
 refine wpAny_pure ⟨_,rfl,?_⟩
 show Q (.ref he.objs.size) _
 rw [hsz]
 refine hQ hh hzh (up _ _ D.TOz hTOe) (S1.keep _ _ _ h1e fun c o hcc e=>up c o ?_ e) (S2.keep _ _ _ h2e fun c o hcc e=>up c o ?_ e) hT fun c o c1 c2 c3 c4 e=>up c o c1 (hke c o c1 c2 c3 c4 e)
 ·rcases hcc with rfl | rfl
  ·exact D.i1z
  ·exact D.l1z
 ·rcases hcc with rfl | rfl
  ·exact D.i2z
  ·exact D.l2z
theorem GC {Q:Fin->Shared->Prop} (hh:A.handled=none) (D:ZipApart z TI TO i1 i2 l1 l2) (S1:q_ prog w i1 l1 st1 n1 v1) (S2:q_ prog w i2 l2 st2 n2 v2)
  (hz:IsZip s.heap z TI TO .none) (hTI:IsPair s.heap TI (.ref i1) (.ref i2)) (hTO:IsPair s.heap TO a b) (h1:st1 k s.heap) (h2:st2 k s.heap) (hend:n1<=k\/n2<=k)
  (hE:∀ h' e,(∀ c o,c≠z->c≠TO->c≠i1->c≠i2->s.heap.get? c=some o->h'.get? c=some o)->(∃ o,h'.get? e=some o/\o.cls=.type "StopIteration")->E (.ref e) { s with heap:=h' }) :
  wpAny (model prog w) A (Builtin.«zip.__next__» ⟨[.ref z],[]⟩) Q E s:=by
 refine wpAny_bind (m:=field (.ref z) 2) (wpAny_field hz rfl (x:=.bool false) rfl ?_)
 refine wpAny_bind (m:=field (.ref z) 3) (wpAny_field hz rfl (x:=.ref TI) rfl ?_)
 refine wpAny_bind (wpAny_seqItems hTI rfl ?_)
 refine wpAny_bind (m:=Builtin.SmallTypes.ownedTupleIsFree (.ref z)) ?_
 unfold Builtin.SmallTypes.ownedTupleIsFree
 refine wpAny_bind (wpAny_field hz rfl (x:=.none) rfl (wpAny_pure ?_))
 simp only [if_true]
 refine wpAny_bind (wpAny_rule (wpAny_bind (wpAny_field hz rfl (x:=.ref TO) rfl ?_)))
 refine wpAny_bind (wpAny_setField_rec hz (by simp) fun ha hza sa=>?_)
 replace hza:IsZip ha z TI TO .ellipsis:=hza
 refine wpAny_bind ?_
 simp only [List.zipIdx_cons,List.zipIdx_nil,List.forIn_cons,List.forIn_nil]
 have h1a:st1 k ha:=S1.keep k _ _ h1 fun c o hc e=>sa.extBut c o (by rcases hc with rfl | rfl; exact D.i1z; exact D.l1z) e
 by_cases k1:k<n1
 ·have k2:n2<=k:=by omega
  refine wpAny_bind (wpAny_bind (wpAny_onRaise (wpAny_bind (m:=nextOf (.ref i1)) (S1.item k h1a k1 fun hb h1b sb=>wpAny_pure ?_))))
  have hTOb:IsPair hb TO a b:=sb.extBut _ _ D.TOi1 (sa.extBut _ _ D.TOz hTO)
  refine wpAny_bind (wpAny_seqItems hTOb rfl (wpAny_bind (wpAny_updateSeq_pair hTOb fun hc hTOc sc=>?_)))
  refine wpAny_bind (wpAny_letGo (wpAny_pure ?_))
  have h2c:st2 k hc:=S2.keep k _ _ h2 fun c o hcc e=>by
   rcases hcc with rfl | rfl
   ·exact sc.extBut _ _ D.TOi2.symm (sb.extBut _ _ D.i12.symm (sa.extBut _ _ D.i2z e))
   ·exact sc.extBut _ _ D.l2TO (sb.extBut _ _ D.l2i1 (sa.extBut _ _ D.l2z e))
  refine wpAny_bind (wpAny_bind (wpAny_onRaise (wpAny_bind (m:=nextOf (.ref i2)) (S2.done k hh h2c k2 fun hd e sd he=>?_))))
  obtain ⟨oe,hoe,hce⟩:=he
  have hzd:IsZip hd z TI TO .ellipsis:=sd _ _ D.i2z.symm (sc.extBut _ _ D.TOz.symm (sb.extBut _ _ D.i1z.symm hza))
  have hez:e≠z:=fun x=>by subst x; rw [hzd] at hoe; cases hoe; simp at hce
  exact wpAny_setField_rec hzd (by simp) fun hf _ sf=>hE hf e (fun c o c1 c2 c3 c4 x=>sf.extBut _ _ c1 (sd _ _ c4 (sc.extBut _ _ c2 (sb.extBut _ _ c3 (sa.extBut _ _ c1 x))))) ⟨oe,sf.extBut _ _ hez hoe,hce⟩
 ·refine wpAny_bind (wpAny_bind (wpAny_onRaise (wpAny_bind (m:=nextOf (.ref i1)) (S1.done k hh h1a (by omega) fun hb e sb he=>?_))))
  obtain ⟨oe,hoe,hce⟩:=he
  have hzb:IsZip hb z TI TO .ellipsis:=sb _ _ D.i1z.symm hza
  have hez:e≠z:=fun x=>by subst x; rw [hzb] at hoe; cases hoe; simp at hce
  exact wpAny_setField_rec hzb (by simp) fun hf _ sf=>hE hf e (fun c o c1 _ c3 _ x=>sf.extBut _ _ c1 (sb _ _ c3 (sa.extBut _ _ c1 x))) ⟨oe,sf.extBut _ _ hez hoe,hce⟩
end
end L2
namespace L2
open PySem PySem.Spec PyProof.Rows
noncomputable def wx (K:PySem.W.Frag) (tp:Bool) (H:Hp) (a:Addr) (xs:List V):Prop:=match tp with
 | true=>yk K H a xs
 | false=>yT K H a xs
noncomputable def gk (tp:Bool):String:=match tp with
 | true => "tuple_iterator"
 | false => "list_iterator"
noncomputable def vH (tp:Bool) (h:Heap) (a:Addr) (its:Array Value):Prop:=match tp with
 | true=>h.IsTuple a its
 | false=>h.IsList a its
noncomputable def qG (tp:Bool) (h:Heap) (it l:Addr) (i:Nat):Prop:=∃ o,h.get? it=some o/\o.cls=.type (gk tp)/\o.data=.fields #[.ref l,.int i 0]
theorem qG.at {tp:Bool} {h h':Heap} {it l:Addr} {i:Nat} (x:qG tp h it l i) (e:∀ o,h.get? it=some o->h'.get? it=some o):qG tp h' it l i:=let ⟨o,ho,r⟩:=x; ⟨o,e _ ho,r⟩
theorem vH.push {tp:Bool} {h:Heap} {a:Addr} {its:Array Value} (x:vH tp h a its) (o:Obj):vH tp (h.push o) a its:=by
 cases tp
 ·exact Heap.IsList.push x o
 ·exact Heap.IsTuple.push x o
theorem vH.lt {tp:Bool} {h:Heap} {a:Addr} {its:Array Value} (x:vH tp h a its):a<h.objs.size:=by
 cases tp
 ·obtain ⟨o,e,_⟩:=x; exact Heap.lt_size e
 ·obtain ⟨o,e,_⟩:=x; exact Heap.lt_size e
section
variable {prog:Program} {w:World} {A:Around} {E:Value->Shared->Prop} {s:Shared}
theorem YH {tp:Bool} {it l:Addr} (hne:l≠it) (items:Array Value):q_ prog w it l (fun i h=>qG tp h it l i/\vH tp h l items) items.size (fun i=>items.getD i .none):=by
 cases tp
 ·exact E4 hne items
 ·exact E5 hne items
theorem JE {tp:Bool} {l:Addr} {items:Array Value} {Q:Value->Shared->Prop} (h:vH tp s.heap l items)
  (hQ:Q (.ref s.heap.objs.size) { s with heap:=s.heap.push { cls:=.type (gk tp),data:=.fields #[.ref l,.int 0 0] } }):wpAny (model prog w) A (pyIter (.ref l)) Q E s:=by
 cases tp
 ·exact wpAny_pyIter_list (show s.heap.IsList l items from h) hQ
 ·exact wpAny_pyIter_tuple (show s.heap.IsTuple l items from h) hQ
noncomputable abbrev Yb (t1:Bool) (h:Heap) (l1:Addr):Heap:=h.push { cls:=.type (gk t1),data:=.fields #[.ref l1,.int 0 0] }
noncomputable abbrev Yc (t1 t2:Bool) (h:Heap) (l1 l2:Addr):Heap:=(Yb t1 h l1).push { cls:=.type (gk t2),data:=.fields #[.ref l2,.int 0 0] }
noncomputable abbrev Yd (t1 t2:Bool) (h:Heap) (l1 l2:Addr):Heap:=(Yc t1 t2 h l1 l2).push { cls:=.type "tuple",data:=.seq #[.ref h.objs.size,.ref (Yb t1 h l1).objs.size] }
noncomputable abbrev Ye (t1 t2:Bool) (h:Heap) (l1 l2:Addr):Heap:=(Yd t1 t2 h l1 l2).push { cls:=.type "tuple",data:=.seq #[.none,.none] }
noncomputable abbrev jo (t1 t2:Bool) (h:Heap) (l1 l2:Addr):Heap:=(Ye t1 t2 h l1 l2).push { cls:=.type "zip",data:=.fields #[.none,.bool false,.bool false,.ref (Yc t1 t2 h l1 l2).objs.size,.ref (Yd t1 t2 h l1 l2).objs.size] }
theorem GH (t1 t2:Bool) (l1 l2:Addr) (xs ys:Array Value) :
  Meets (Builtin.«zip.__new__» ⟨[.type "zip",.ref l1,.ref l2],[]⟩) (fun _ R s=>vH t1 s.heap l1 xs/\vH t2 s.heap l2 ys/\R (.ok (.ret (.ref (Ye t1 t2 s.heap l1 l2).objs.size))) { s with heap:=jo t1 t2 s.heap l1 l2 }):=
 .of_wp fun prog w A R s h=>by
  obtain ⟨hp,g,d,tk,os⟩:=s; obtain ⟨hl1,hl2,h⟩:=h
  have hsub:=sub_zip
  have hL1:vH t1 (Shared.heap ⟨hp,g,d,tk,os⟩) l1 xs:=hl1
  have hL2:vH t2 (Shared.heap ⟨hp.push { cls:=.type (gk t1),data:=.fields #[.ref l1,.int 0 0] },g,d,tk,os⟩) l2 ys:=vH.push hl2 _
  wp_walk using JE hL1,JE hL2
  exact ⟨_,rfl,h⟩
theorem Ob {t1 t2:Bool} {l1 l2:Addr} {xs ys:Array Value} {Q:Value->Shared->Prop} (hl1:vH t1 s.heap l1 xs) (hl2:vH t2 s.heap l2 ys)
  (h:∀ h',IsZip h' (s.heap.objs.size+4) (s.heap.objs.size+2) (s.heap.objs.size+3) .none->IsPair h' (s.heap.objs.size+2) (.ref s.heap.objs.size) (.ref (s.heap.objs.size+1))->
   IsPair h' (s.heap.objs.size+3) .none .none->qG t1 h' s.heap.objs.size l1 0->qG t2 h' (s.heap.objs.size+1) l2 0->
   (∀ c o,s.heap.get? c=some o->h'.get? c=some o)->Q (.ref (s.heap.objs.size+4)) { s with heap:=h' }) :
  wpAny (model prog w) A (call (.type "zip") [.ref l1,.ref l2]) Q E s:=by
 refine callType_new F.called_zip (by decide) (F.typeCall_zip_2 _ _) (F.newCall_zip_2 _ _) (fun obj=>F.args_object_init_3 obj _ _) F.entry_zip_new (GH t1 t2 l1 l2 xs ys) ⟨hl1,hl2,?_⟩
 have z1:(Yb t1 s.heap l1).objs.size=s.heap.objs.size+1:=Heap.size_push ..
 have z2:(Yc t1 t2 s.heap l1 l2).objs.size=s.heap.objs.size+2:=by rw [Heap.size_push,z1]
 have z3:(Yd t1 t2 s.heap l1 l2).objs.size=s.heap.objs.size+3:=by rw [Heap.size_push,z2]
 have z4:(Ye t1 t2 s.heap l1 l2).objs.size=s.heap.objs.size+4:=by rw [Heap.size_push,z3]
 have g5:(jo t1 t2 s.heap l1 l2).get? (Ye t1 t2 s.heap l1 l2).objs.size=some _:=Heap.get?_push_size _ rfl
 have g4:(jo t1 t2 s.heap l1 l2).get? (Yd t1 t2 s.heap l1 l2).objs.size=some _:=Heap.get?_push_of_some _ (Heap.get?_push_size _ rfl)
 have g3:(jo t1 t2 s.heap l1 l2).get? (Yc t1 t2 s.heap l1 l2).objs.size=some _:=Heap.get?_push_of_some _ (Heap.get?_push_of_some _ (Heap.get?_push_size _ rfl))
 have g2:(jo t1 t2 s.heap l1 l2).get? (Yb t1 s.heap l1).objs.size=some _:=Heap.get?_push_of_some _ (Heap.get?_push_of_some _ (Heap.get?_push_of_some _ (Heap.get?_push_size _ rfl)))
 have g1:(jo t1 t2 s.heap l1 l2).get? s.heap.objs.size=some _:=Heap.get?_push_of_some _ (Heap.get?_push_of_some _ (Heap.get?_push_of_some _ (Heap.get?_push_of_some _ (Heap.get?_push_size _ rfl))))
 show _/\_
 rw [z2,z3,z4] at g5
 rw [z1,z2] at g3
 rw [z3] at g4
 rw [z1] at g2
 rw [z4]
 exact ⟨⟨_,g5,rfl⟩,h _ g5 g3 g4 ⟨_,g1,rfl,rfl⟩ ⟨_,g2,rfl,rfl⟩ fun c o x=>
  Heap.get?_push_of_some _ (Heap.get?_push_of_some _ (Heap.get?_push_of_some _ (Heap.get?_push_of_some _ (Heap.get?_push_of_some _ x))))⟩
end
section
variable {X:Cx} {pins:List (Addr×Obj)} {σ:St} {H:Hp} {s:Shared}
theorem zC.seqX {tp:Bool} {a:Addr} {xs:List V} (I:zC X pins σ H s) (h:wx X.K tp H a xs):∃ its:List Value,zf xs its/\vH tp s.heap a its.toArray:=by
 cases tp
 ·obtain ⟨its,r,p,_⟩:=I.list h
  exact ⟨its,r,p.isList⟩
 ·obtain ⟨its,r,p,_⟩:=I.tuple h
  exact ⟨its,r,p⟩
theorem zC.seqX_inj {tp:Bool} {a:Addr} {xs ys:List V} (I:zC X pins σ H s) (h:wx X.K tp H a xs) (h':wx X.K tp H a ys):xs=ys:=by
 cases tp
 ·exact I.list_inj h h'
 ·exact I.tuple_inj h h'
theorem Ic {fs ch:List Addr} {h h':Heap} (k:∀ b o,b ∉ ch->h.get? b=some o->h'.get? b=some o):Un fs ch H H h h':=
 ⟨fun b o e _ _ hx=>k b o hx e,fun b o e _ _ hx=>⟨o.slots,k b o hx e⟩,fun _ _ _ n _=>n,fun b o e hx=>⟨o,k b o hx e⟩,fun _ _ z=>z,fun _ _ _ z=>z,fun b ps e=>⟨#[],by rw [e]; simp⟩⟩
theorem Q7 {P:Program} {w:World} {ch:List Addr} {h h':Heap} (x:yo P w H h) (hn:∀ b∈ch,H b=none) (k:∀ b o,b ∉ ch->h.get? b=some o->h'.get? b=some o):yo P w H h':=fun b u e=>by
 have nit:∀ c v,H c=some v->c ∉ ch:=fun c v e z=>by rw [hn c z] at e; cases e
 refine (x b u e).stay (fun c v hc q=>k c v ?_ q) (fun _ q=>q) fun _ _ q=>q
 rcases hc with z | z
 ·rw [z]; exact nit b u e
 ·exact nit c _ z
theorem zC.but {ch:List Addr} {h':Heap} {tk:Nat} (I:zC X pins σ H s) (hf:∀ b∈ch,v_ X pins H b) (k:∀ b o,b ∉ ch->s.heap.get? b=some o->h'.get? b=some o):zC X pins σ H { s with heap:=h',toks:=tk }:=
 I.call' (s':={ s with heap:=h',toks:=tk }) rfl (Ic k) (Q7 I.hok (fun b hb=>(hf b hb).1) k) I.bare fun b hb=>⟨(hf b hb).2.2.2.1,(hf b hb).2.1,(hf b hb).2.2.2.2.1,(hf b hb).2.2.2.2.2⟩
theorem zC.butNew {ch:List Addr} {h':Heap} {tk:Nat} {T:Addr} {o:HO} (I:zC X pins σ H s) (hf:∀ b∈ch,v_ X pins H b) (k:∀ b o,b ∉ ch->s.heap.get? b=some o->h'.get? b=some o) (hT:s.heap.get? T=none) (hn:H T=none)
  (new:yr X.prog X.w (zZ H T o) h' T o):zC X pins σ (zZ H T o) { s with heap:=h',toks:=tk }:=
 I.call' (s':={ s with heap:=h',toks:=tk }) rfl (Id (Ic k) hT hn) (WY (Q7 I.hok (fun b hb=>(hf b hb).1) k) hn new) I.bare fun b hb=>⟨(hf b hb).2.2.2.1,(hf b hb).2.1,(hf b hb).2.2.2.2.1,(hf b hb).2.2.2.2.2⟩
end
noncomputable def XJ (K:PySem.W.Frag) (t1 t2:Bool) (a b:Addr):It:=
  ⟨fun i H=>∃ xs ys x y,wx K t1 H a xs/\wx K t2 H b ys/\xs[i]?=some x/\ys[i]?=some y,
   fun i H v H'=>∃ p,H p=none/\v=.ref p/\∀ xs ys,wx K t1 H a xs->wx K t2 H b ys->∃ x y,xs[i]?=some x/\ys[i]?=some y/\H'=zZ H p (.tup [x,y]),
   fun i H=>∃ xs ys,wx K t1 H a xs/\wx K t2 H b ys/\(xs.length<=i\/ys.length<=i)⟩
theorem Er {P:Program} {w:World} {K:PySem.W.Frag} {elts:List Expr} {kk:Nat} {pos:Pos} (t1 t2:Bool) (a b z TI TO i1 i2:Addr) (D:ZipApart z TI TO i1 i2 a b) :
  qJ P w K (.Tuple elts kk pos) (XJ K t1 t2 a b) [z,TI,TO,i1,i2] z (fun i h=>IsZip h z TI TO .none/\IsPair h TI (.ref i1) (.ref i2)/\(∃ u v,IsPair h TO u v)/\qG t1 h i1 a i/\qG t2 h i2 b i) where
 mem:=by simp
 obj:=fun i h st c hc=>by
  obtain ⟨s1,s2,⟨u,v,s3⟩,⟨o4,s4,_,d4⟩,⟨o5,s5,_,d5⟩⟩:=st
  simp only [List.mem_cons,List.not_mem_nil,or_false] at hc
  rcases hc with rfl | rfl | rfl | rfl | rfl
  ·exact ⟨_,s1,fun v q=>nomatch q⟩
  ·exact ⟨_,s2,fun v q=>nomatch q⟩
  ·exact ⟨_,s3,fun v q=>nomatch q⟩
  ·exact ⟨_,s4,fun v q=>by rw [d4] at q; cases q⟩
  ·exact ⟨_,s5,fun v q=>by rw [d5] at q; cases q⟩
 keep:=fun i h h' st k=>by
  obtain ⟨s1,s2,⟨u,v,s3⟩,s4,s5⟩:=st
  exact ⟨k z (by simp) _ s1,k TI (by simp) _ s2,⟨u,v,k TO (by simp) _ s3⟩,s4.at fun o e=>k i1 (by simp) o e,s5.at fun o e=>k i2 (by simp) o e⟩
 item:=by
  intro X hP hw hK hc i pins s σ H E I hf st hg
  subst hP hw hK
  obtain ⟨s1,s2,⟨u,v,s3⟩,s4,s5⟩:=st
  obtain ⟨xs,ys,x,y,hx,hy,ex,ey⟩:=hg
  obtain ⟨us,ru,pu⟩:=I.seqX hx
  obtain ⟨ws,rw',pw⟩:=I.seqX hy
  obtain ⟨xu,hxu,rxu⟩:=ru.get ex
  obtain ⟨yw,hyw,ryw⟩:=rw'.get ey
  have k1:i<us.toArray.size:=by rw [List.size_toArray]; exact (List.getElem?_eq_some_iff.mp hxu).1
  have k2:i<ws.toArray.size:=by rw [List.size_toArray]; exact (List.getElem?_eq_some_iff.mp hyw).1
  have e1:us.toArray.getD i .none=xu:=by
   have:=List.getElem?_eq_some_iff.mp hxu
   obtain ⟨l,e⟩:=this
   simp [Array.getD,l,e]
  have e2:ws.toArray.getD i .none=yw:=by
   have:=List.getElem?_eq_some_iff.mp hyw
   obtain ⟨l,e⟩:=this
   simp [Array.getD,l,e]
  have hT:s.TypeIs (.ref z) "zip" := ⟨_,s1,rfl⟩
  have q4:i1<s.heap.objs.size:=by obtain ⟨o,e,_⟩:=s4; exact Heap.lt_size e
  have q5:i2<s.heap.objs.size:=by obtain ⟨o,e,_⟩:=s5; exact Heap.lt_size e
  unfold pyNext
  refine wpAny_bind (wpAny_attempt (wpAny_callSpecial?_slot (name:=Str.ofString "__next__") hT F.slot_zip_next (wpAny_call_entry F.slot_zip_next hT F.entry_zip_next
   (GD D (YH D.l1i1 us.toArray) (YH D.l2i2 ws.toArray) s1 s2 s3 ⟨s4,pu⟩ ⟨s5,pw⟩ k1 k2 q4 q5 pu.lt pw.lt fun h' a1 a2 a3 a4 a5 a6=>wpAny_pure ?_) (F.args_zip_next_1 _))))
  rw [e1,e2] at a2 a5
  refine ⟨_,rfl,wpAny_letOwnedTupleGo_zip (s:={ s with heap:=h' }) a1 fun h'' b1 sb=>?_⟩
  have hTs:s.heap.get? s.heap.objs.size=none:=by
   cases q:s.heap.get? s.heap.objs.size with
   | none=>rfl
   | some o=>exact absurd (Heap.lt_size q) (Nat.lt_irrefl _)
  have hTf:H s.heap.objs.size=none:=I.hok.fresh (Nat.le_refl _)
  have hTz:s.heap.objs.size≠z:=Nat.ne_of_gt (Heap.lt_size s1)
  have tup:h''.get? s.heap.objs.size=some { cls:=.type "tuple",data:=.seq #[xu,yw] }:=sb.extBut _ _ hTz a5
  have kk:∀ c o,c ∉ [z,TI,TO,i1,i2]->s.heap.get? c=some o->h''.get? c=some o:=fun c o hc e=>by
   simp only [List.mem_cons,List.not_mem_nil,or_false,not_or] at hc
   exact sb.extBut _ _ hc.1 (a6 c o hc.1 hc.2.2.1 hc.2.2.2.1 hc.2.2.2.2 e)
  have new:yr X.prog X.w (zZ H s.heap.objs.size (.tup [x,y])) h'' s.heap.objs.size (.tup [x,y]):=⟨(by show 2<=sizeLine; decide),[xu,yw],.cons rxu (.cons ryw .nil),⟨_,tup,rfl,_,rfl⟩⟩
  refine ⟨.ref s.heap.objs.size,zZ H s.heap.objs.size (.tup [x,y]),I.butNew (tk:=s.toks) hf kk hTs hTf new,rfl,⟨s.heap.objs.size,hTf,rfl,fun xs' ys' hx' hy'=>?_⟩,⟨b1,?_,⟨_,_,sb.extBut _ _ D.TOz a2⟩,a3.1.at fun o e=>sb.extBut _ _ D.i1z e,a4.1.at fun o e=>sb.extBut _ _ D.i2z e⟩,fun c hc=>?_⟩
  ·rw [I.seqX_inj hx' hx,I.seqX_inj hy' hy]
   exact ⟨x,y,ex,ey,rfl⟩
  ·exact sb.extBut _ _ D.TIz (a6 _ _ D.TIz D.TITO D.TIi1 D.TIi2 s2)
  ·rw [yj]
   ·exact (hf c hc).1
   ·intro q
    have hlt:c<s.heap.objs.size:=by
     simp only [List.mem_cons,List.not_mem_nil,or_false] at hc
     rcases hc with rfl | rfl | rfl | rfl | rfl
     ·exact Heap.lt_size s1
     ·exact Heap.lt_size s2
     ·exact Heap.lt_size s3
     ·exact q4
     ·exact q5
    rw [q] at hlt
    exact absurd hlt (Nat.lt_irrefl _)
 done:=by
  intro X hP hw hK hc i pins s σ H E I hf st hg
  subst hP hw hK
  obtain ⟨s1,s2,⟨u,v,s3⟩,s4,s5⟩:=st
  obtain ⟨xs,ys,hx,hy,hend⟩:=hg
  obtain ⟨us,ru,pu⟩:=I.seqX hx
  obtain ⟨ws,rw',pw⟩:=I.seqX hy
  have hend':us.toArray.size<=i\/ws.toArray.size<=i:=by
   have l1:=ru.length
   have l2:=rw'.length
   rw [List.size_toArray,List.size_toArray]
   omega
  have hT:s.TypeIs (.ref z) "zip" := ⟨_,s1,rfl⟩
  unfold pyNext
  refine wpAny_bind (wpAny_attempt (wpAny_callSpecial?_slot (name:=Str.ofString "__next__") hT F.slot_zip_next (wpAny_call_entry F.slot_zip_next hT F.entry_zip_next
   (GC (by exact I.ok.hd hc) D (YH D.l1i1 us.toArray) (YH D.l2i2 ws.toArray) s1 s2 s3 ⟨s4,pu⟩ ⟨s5,pw⟩ hend' fun h' e kk he=>?_) (F.args_zip_next_1 _))))
  obtain ⟨o,ho,hcl⟩:=he
  refine wpAny_bind (wpAny_isInstance (T := "StopIteration") (b:=true) ⟨o,ho,hcl⟩ isSubtype_stop ?_)
  refine wpAny_pure ⟨rfl,I.but (tk:=s.toks) hf fun c ob hcc eb=>?_⟩
  simp only [List.mem_cons,List.not_mem_nil,or_false,not_or] at hcc
  exact kk c ob hcc.1 hcc.2.2.1 hcc.2.2.2.1 hcc.2.2.2.2 eb
 self:=fun _ _ _ _ _ st h=>wpAny_pyIter_zip st.1 h
theorem wN {a b:Nat} (h:a≠b):@Ne Addr a b:=h
theorem GE {n l1 l2:Nat} (h1:l1<n) (h2:l2<n):ZipApart (n+4) (n+2) (n+3) n (n+1) l1 l2:=
 ⟨wN (by omega),wN (by omega),wN (by omega),wN (by omega),wN (by omega),wN (by omega),wN (by omega),wN (by omega),wN (by omega),wN (by omega),wN (by omega),wN (by omega),wN (by omega),wN (by omega),wN (by omega),wN (by omega),wN (by omega),wN (by omega)⟩
theorem OU:bootBuiltins "zip" = some (.type "zip"):=by decide +kernel
section
variable {X:Cx}
noncomputable def Q8 (K:PySem.W.Frag) (ta:TA):TI:=fun σ H R=>ta σ H fun vs H1=>∃ a b xs ys t1 t2,vs=[.ref a,.ref b]/\wx K t1 H1 a xs/\wx K t2 H1 b ys/\R (XJ K t1 t2 a b) H1
theorem F2 {a b:Expr} {ta:TA} {p pos:Pos} {elts:List Expr} {kk:Nat} {tp:Pos} (hg:Gl X "zip") (hm:X.mg "zip" = none) (ha:PA X [a,b] ta) (hs:starEach [a,b] X.env=[(false,eval a X.env),(false,eval b X.env)]:=by rfl)
  (hs2:starEach [b] X.env=[(false,eval b X.env)]:=by rfl):PI X (.Tuple elts kk tp) (.Call (.Name "zip" p) [a,b] [] pos) (Q8 X.K ta):=by
 intro pins s σ H R I h
 refine Call_ (jR I hg hm OU (PyProof.Rows.callWith_type1 (zh (ha pos pins s σ H _ I h) fun us s1 ⟨vs,H1,I1,r1,q1⟩=>?_) (by rw [hs,hs2]) (by rw [hs2]; rfl)))
 obtain ⟨l1,l2,xs,ys,t1,t2,rfl,hx,hy,q⟩:=q1
 obtain ⟨u,v,rfl,ru,rv⟩:=YT r1
 cases (show u=Value.ref l1 from ru)
 cases (show v=Value.ref l2 from rv)
 obtain ⟨us,_,pu⟩:=I1.seqX hx
 obtain ⟨ws,_,pw⟩:=I1.seqX hy
 have w1:=pu.lt
 have w2:=pw.lt
 refine Ob pu pw fun h' a1 a2 a3 a4 a5 kp=>?_
 have I2:zC X pins σ H1 { s1 with heap:=h' }:=I1.kept (t':=s1.toks) kp
 refine wpAny_pyIter_zip (s:={ s1 with heap:=h' }) a1 ?_
 generalize hn:s1.heap.objs.size=n at a1 a2 a3 a4 a5 w1 w2
 have D:ZipApart (n+4) (n+2) (n+3) n (n+1) l1 l2:=by
  exact GE w1 w2
 refine ⟨n+4,[n+4,n+2,n+3,n,n+1],_,_,H1,rfl,I2,Er t1 t2 l1 l2 (n+4) (n+2) (n+3) n (n+1) D,⟨a1,a2,⟨_,_,a3⟩,a4,a5⟩,fun c hc=>?_,q⟩
 have hle:s1.heap.objs.size<=c:=by
  rw [hn]
  simp only [List.mem_cons,List.not_mem_nil,or_false] at hc
  rcases hc with rfl | rfl | rfl | rfl | rfl
  ·exact Nat.le_add_right _ _
  ·exact Nat.le_add_right _ _
  ·exact Nat.le_add_right _ _
  ·exact Nat.le_refl _
  ·exact Nat.le_add_right _ _
 exact I1.fpOk hle (I1.hok.fresh hle)
theorem Fo {a b:Expr} {ta:TA} {p pos:Pos} {elts:List Expr} {kk:Nat} {tp:Pos} (hg:Gl X "zip") (hm:X.mg "zip" = none) (ha:QA X [a,b] ta) (hs:ya a=true:=by rfl) (hs2:ya b=true:=by rfl) :
  QI X (.Tuple elts kk tp) (.Call (.Name "zip" p) [a,b] [] pos) (Q8 X.K ta):=⟨F2 hg hm ha.h (by rw [wp hs,wp hs2]; rfl) (wp hs2)⟩
end
end L2
namespace L2
open PySem PySem.Spec PyProof.Rows
noncomputable def T0 (scope:Scope) (env:Env) (cl:List (Str×Addr)) (own:List Str):Bool:=
 scope.kind == .function&&scope.names.all (fun y=>y.2 != .cell)&&j9 scope env cl own&&scope.names.all (fun y=>y.2 != .local||scope.names.lookup y.1 == some .local)
theorem wJ {X:Cx} {scope:Scope} {cl:List (Str×Addr)} {own:List Str} (clos:closureFor scope X.env=pure cl) (cap:t_ X.env cl:=by first | exact True.intro | exact ⟨rfl,True.intro⟩ | exact ⟨rfl,rfl,True.intro⟩ | exact ⟨rfl,rfl,rfl,True.intro⟩ | exact ⟨rfl,rfl,rfl,rfl,True.intro⟩)
  (ok:T0 scope X.env cl own=true:=by rfl):qw X scope cl own:=by
 unfold T0 at ok
 simp only [Bool.and_eq_true] at ok
 obtain ⟨⟨⟨h1,h2⟩,h3⟩,h4⟩:=ok
 refine ⟨beq_iff_eq.mp h1,fun y hy e=>?_,cap,h3,clos,fun y hy e=>?_⟩
 ·have:=List.all_eq_true.mp h2 y hy
  rw [e] at this
  cases this
 ·have:=List.all_eq_true.mp h4 y hy
  rw [e] at this
  simpa using this
section
variable {X:Cx} (K:PySem.W.Frag) (hK:X.K=K)
include hK
end
noncomputable def O4 (K:PySem.W.Frag) (a:Addr) (xs:List V):Prop:=∀ H,yk K H a xs
theorem xL {K:PySem.W.Frag} {a:Addr} {xs:List V} {d:Option Addr} {its:Array Value} {n:Nat} {sl:Array (Option Value)} (h:K.lookup a=some ⟨.type "tuple",d,.seq its n,sl⟩) (hz:its.size<=sizeLine) (r:zf xs its.toList):O4 K a xs:=
 fun _=>.inr ⟨_,its,n,h,rfl,rfl,hz,r⟩
end L2
namespace L2
open PySem PySem.Spec PyProof.Rows
open Builtin Builtin.Str
section
variable {X:Cx}
theorem Io:∀ {ts:List Str} {its:List Value},zf (ts.map V.str) its->∃ l:List (Str×Tok),its=strValues l/\l.map (·.1)=ts
 | [],_,.nil=>⟨[],rfl,rfl⟩
 | t::ts,_,.cons r rr=>by
  obtain ⟨k,e⟩:=(show ∃ k,_=Value.str t k from r)
  obtain ⟨l,e1,e2⟩:=Io rr
  subst e e1
  exact ⟨(t,k)::l,rfl,by rw [List.map_cons,e2]⟩
noncomputable def Fx (K:PySem.W.Frag):V->List V->Hp->VK->Prop:=fun x vs H Q=>∃ (sep:Str) (p:Addr) (ts:List Str),x=.str sep/\vs=[.ref p]/\yT K H p (ts.map V.str)/\(ts.map (·.length)).sum+ts.length*sep.length<=sizeLine/\Q (.str (glued sep ts)) H
theorem glued_len (sep:Str):∀ ts:List Str,(glued sep ts).length<=(ts.map (·.length)).sum+ts.length*sep.length
 | []=>by show (Str.length _)<=_; simp [glued,Str.length,Str.empty]
 | t::ts=>by
  have h:∀ (us:List Str) (a:Array Nat),(us.foldl (fun acc p=>acc++sep.cps++p.cps) a).size=a.size+(us.map (·.length)).sum+us.length*sep.length:=fun us=>by
   induction us with
   | nil=>intro a; simp
   | cons u us ih=>
    intro a
    rw [List.foldl_cons,ih]
    simp only [Array.size_append,List.map_cons,List.sum_cons,List.length_cons,Nat.succ_mul,Str.length]
    omega
  show (ts.foldl (fun acc p=>acc++sep.cps++p.cps) t.cps).size<=_
  rw [h]
  simp only [List.map_cons,List.sum_cons,List.length_cons,Nat.succ_mul,Str.length]
  omega
theorem M_:tD X "str.join" (Fx X.K):=by
 intro pins s σ H x vs v us Q I rx rv h
 obtain ⟨sep,p,ts,rfl,rfl,hq,hz,q⟩:=h
 obtain ⟨t,rfl⟩:=(show ∃ t,v=Value.str sep t from rx)
 obtain ⟨u,rfl,ru⟩:=wr rv
 cases (show u=Value.ref p from ru)
 obtain ⟨its,r,pl,_⟩:=I.list hq
 obtain ⟨l,rfl,el⟩:=Io r
 have hT:s.TypeIs (.ref p) "list" := pl.isList.typeIs
 obtain ⟨o,ho,hc,n,hd⟩:=pl.isList
 have hno:tooLong ((l.map (·.1)).toArray.foldl (·+·.length+sep.length) 0)=false:=by
  rw [el,StrLaws.joinTotal]
  unfold tooLong
  exact decide_eq_false (by omega)
 have fit:(glued sep ts).length<=sizeLine:=Nat.le_trans (glued_len sep ts) hz
 refine wpAny_call (codeAny_call_builtin F.slot_str_join.plain F.entry_str_join (F.slot_str_join.check _ _ _ _ _ _ _ _ (typeIs_str _ _ _) (F.args_str_join_2 _ _) ?_))
 obtain ⟨other,e⟩:=join_tree sep t p
 rw [e]
 refine wpAny_bind (wpAny_typeOf hT ?_)
 rw [if_pos (by decide)]
 refine wpAny_bind (wpAny_seqItems ho hd ?_)
 show wpAny _ _ (joinTail sep (strValues l)) _ _ _
 rcases l with _ | ⟨a,_ | ⟨b,c⟩⟩
 ·subst el
  exact gives_joinTail sep [] hno X.prog X.w _ (fun r s'=>match r with | .ok (.ret v)=>EP X pins σ Q v s' | .ok _=>False | .error e=>X.xe e s') s ⟨fit,.str _,H,I.tok _,⟨_,rfl⟩,q⟩
 ·subst el
  exact gives_joinTail sep [a] hno X.prog X.w _ (fun r s'=>match r with | .ok (.ret v)=>EP X pins σ Q v s' | .ok _=>False | .error e=>X.xe e s') s ⟨.str _,H,I,⟨_,rfl⟩,q⟩
 ·subst el
  exact gives_joinTail sep (a::b::c) hno X.prog X.w _ (fun r s'=>match r with | .ok (.ret v)=>EP X pins σ Q v s' | .ok _=>False | .error e=>X.xe e s') s ⟨fit,.str _,H,I.tok _,⟨_,rfl⟩,q⟩
end
noncomputable def kY (z:Str):It:=⟨fun i _=>i<z.length,fun i H x H'=>H'=H/\∃ c,z.cps[i]?=some c/\x=.str ⟨#[c]⟩,fun i _=>z.length<=i⟩
section
variable {X:Cx} {tg:Expr}
noncomputable def Lz (te:TE):TI:=fun σ H R=>te σ H fun x H1=>∃ z,x=.str z/\R (kY z) H1
theorem Eo {P:Program} {w:World} {K:PySem.W.Frag} {it:Addr} {z:Str} {t:Tok} {ty:String} (hty:ty = "str_ascii_iterator" \/ ty = "str_iterator"):qJ P w K tg (kY z) [it] it (fun i h=>h.IsStrIter it ty z t i/\i<=z.length) where
 mem:=by simp
 obj:=fun i h st b hb=>by
  have e:b=it:=by simpa using hb
  subst e
  obtain ⟨⟨o,e,c,d⟩,_⟩:=st
  exact ⟨o,e,fun v z=>by rw [d] at z; cases z⟩
 keep:=fun i h h' st k=>⟨let ⟨o,ho,r⟩:=st.1; ⟨o,k it (by simp) o ho,r⟩,st.2⟩
 item:=by
  intro X hP hw hK hc i pins s σ H E I hf st hg
  subst hP hw hK
  obtain ⟨f0,f1,f2,f3,f4,f5⟩:=hf it (by simp)
  have hg':i<z.cps.size:=hg
  have hx:z.cps[i]?=some z.cps[i]:=by simp [hg']
  have go:∀ h' tk (u:Value),(∃ t',u=Value.str ⟨#[z.cps[i]]⟩ t')->h'.IsStrIter it ty z t (i+1)->Heap.SameBut it s.heap h'->∃ v,some u=some v/\
    wpAny (model X.prog X.w) X.A (letOwnedTupleGo tg (.ref it) v) (fun _ s2=>∃ x H',zC X pins σ H' s2/\zm x v/\(kY z).yld i H x H'/\(s2.heap.IsStrIter it ty z t (i+1)/\i+1<=z.length)/\∀ b∈[it],H' b=none) E { s with heap:=h',toks:=tk }:=fun h' tk u hu st' sb=>by
   obtain ⟨t',rfl⟩:=hu
   have I1:zC X pins σ H { s with heap:=h',toks:=tk }:=I.turned (fun b o hb e=>(sb.2 b hb).trans e) f0 f1 f3 f4 f5
   obtain ⟨o,e,c,d⟩:=id st'
   exact ⟨_,rfl,ZQ (s:={ s with heap:=h',toks:=tk }) e c d (by rcases hty with rfl | rfl<;>decide) ⟨.str ⟨#[z.cps[i]]⟩,H,I1,⟨t',rfl⟩,⟨rfl,_,hx,rfl⟩,⟨st',hg⟩,fun b hb=>(hf b hb).1⟩⟩
  rcases hty with rfl | rfl
  ·exact wpAny_pyNext_ascii_item st.1 hx fun h' st' sb=>go h' _ _ ⟨_,rfl⟩ st' sb
  ·exact wpAny_pyNext_wide_item st.1 hx fun h' st' sb=>go h' _ _ ⟨_,rfl⟩ st' sb
 done:=by
  intro X hP hw hK hc i pins s σ H E I hf st hg
  subst hP hw hK
  obtain ⟨f0,f1,f2,f3,f4,f5⟩:=hf it (by simp)
  have hx:z.cps[i]?=none:=Array.getElem?_eq_none hg
  rcases hty with rfl | rfl
  ·exact wpAny_pyNext_ascii_end (I.ok.hd hc) st.1 hx fun h' eb=>⟨rfl,I.turned (t':=s.toks) (fun b o hb e=>eb b o hb e) f0 f1 f3 f4 f5⟩
  ·exact wpAny_pyNext_wide_end (I.ok.hd hc) st.1 hx fun h' eb=>⟨rfl,I.turned (t':=s.toks) (fun b o hb e=>eb b o hb e) f0 f1 f3 f4 f5⟩
 self:=fun _ _ _ _ _ st h=>by
  rcases hty with rfl | rfl
  ·exact wpAny_pyIter_striter_ascii st.1 h
  ·exact wpAny_pyIter_striter_wide st.1 h
theorem D_ {e:Expr} {te:TE} (he:PE X e te):PI X tg e (Lz te):=by
 intro pins s σ H R I h
 refine zh (he pins s σ H _ I h) fun v s1 ⟨x,H1,I1,r1,q1⟩=>?_
 obtain ⟨z,rfl,q⟩:=q1
 obtain ⟨t,rfl⟩:=(show ∃ t,v=Value.str z t from r1)
 have fin:∀ (ty:String),(ty = "str_ascii_iterator" \/ ty = "str_iterator")->∀ o:Obj,(s1.heap.push o).IsStrIter s1.heap.objs.size ty z t 0->XO X pins σ tg R (.ref s1.heap.objs.size) { s1 with heap:=s1.heap.push o }:=fun ty hty o st=>
  ⟨s1.heap.objs.size,[s1.heap.objs.size],_,_,H1,rfl,I1.kept (t':=s1.toks) fun b o e=>Heap.get?_push_of_some _ e,Eo hty,⟨st,Nat.zero_le _⟩,fun b hb=>by
   have e:b=s1.heap.objs.size:=by simpa using hb
   subst e
   exact I1.fpOk (Nat.le_refl _) (I1.hok.fresh (Nat.le_refl _)),q⟩
 cases ha:z.cps.all (·<128)
 ·exact wpAny_pyIter_wide ha (fin _ (.inr rfl) _ ⟨_,Heap.get?_push_size _ rfl,rfl,rfl⟩)
 ·exact wpAny_pyIter_ascii ha (fin _ (.inl rfl) _ ⟨_,Heap.get?_push_size _ rfl,rfl,rfl⟩)
end
end L2
namespace L2
open PySem PySem.Spec PyProof.Rows
open Builtin Builtin.Str
noncomputable def cutS (z:Str) (lo hi:Option Int):Str:=⟨((z.cps.toList.drop (HT.sIx z.length 0 lo)).take (HT.sIx z.length z.length hi - HT.sIx z.length 0 lo)).toArray⟩
theorem Of (n:Nat) (lo:Option Int):(match lo with | none=>(0:Int) | some i=>max 0 (min (if i<0 then i+(n:Int) else i) (n:Int)))=((HT.sIx n 0 lo:Nat):Int)\/∃ i,lo=some i/\i<0/\(n:Int)<i+n:=by
 cases lo with
 | none=>left; rfl
 | some i=>
  left
  show max 0 (min (if i<0 then i+(n:Int) else i) (n:Int))=(((if i<0 then (i+(n:Int)).toNat else min i.toNat n):Nat):Int)
  by_cases h:i<0
  ·simp only [h,if_true]; omega
  ·simp only [h,if_false]; omega
theorem Oe (n:Nat) (hi:Option Int):(match hi with | none=>(n:Int) | some i=>max 0 (min (if i<0 then i+(n:Int) else i) (n:Int)))=((HT.sIx n n hi:Nat):Int):=by
 cases hi with
 | none=>rfl
 | some i=>
  show max 0 (min (if i<0 then i+(n:Int) else i) (n:Int))=(((if i<0 then (i+(n:Int)).toNat else min i.toNat n):Nat):Int)
  by_cases h:i<0
  ·simp only [h,if_true]; omega
  ·simp only [h,if_false]; omega
theorem Og (n:Nat) (lo:Option Int):(match lo with | none=>(0:Int) | some i=>max 0 (min (if i<0 then i+(n:Int) else i) (n:Int)))=((HT.sIx n 0 lo:Nat):Int):=by
 rcases Of n lo with h | ⟨i,_,h1,h2⟩
 ·exact h
 ·omega
theorem J6 (z:Str) (lo hi:Option Int):(strSliceIndices lo hi 1 z.length)=(List.range (HT.sIx z.length z.length hi - HT.sIx z.length 0 lo)).map (HT.sIx z.length 0 lo+·):=by
 have h1:=Og z.length lo
 have h2:=Oe z.length hi
 rw [<- sliceRange_one,<- h1,<- h2]
 unfold strSliceIndices
 simp only [show (1:Int) > 0 by decide,if_true]
 cases lo<;>cases hi<;>rfl
theorem TW (z:Str) (lo hi:Option Int):(⟨((strSliceIndices lo hi 1 z.length).filterMap (z.cps[·]?)).toArray⟩:Str)=cutS z lo hi:=by
 rw [J6,pick_run]
 rfl
theorem sIx_le (n d:Nat) (hd:d<=n) (v:Option Int):HT.sIx n d v<=n:=by
 cases v with
 | none=>exact hd
 | some i=>
  show (if i<0 then (i+(n:Int)).toNat else min i.toNat n)<=n
  by_cases h:i<0
  ·simp only [h,if_true]; omega
  ·simp only [h,if_false]; omega
theorem TZ (z:Str) (lo hi:Option Int) (h:(strSliceIndices lo hi 1 z.length).length=z.length):cutS z lo hi=z:=by
 rw [J6,List.length_map,List.length_range] at h
 have a:=sIx_le z.length 0 (Nat.zero_le _) lo
 have b:=sIx_le z.length z.length (Nat.le_refl _) hi
 unfold cutS
 rw [h]
 have hz:HT.sIx z.length 0 lo=0\/z.length=0:=by omega
 have hl:z.cps.toList.length=z.length:=by simp [Str.length]
 rcases hz with q | q
 ·rw [q,List.drop_zero,<- hl,List.take_length]
 ·have e:z.cps.toList=[]:=List.eq_nil_of_length_eq_zero (by omega)
  rw [e]
  simp
  cases z with
  | mk c=>simp [Str.length] at q; simp [q]
theorem cut_len (z:Str) (lo hi:Option Int):(cutS z lo hi).length<=z.length:=by
 show (List.toArray _).size<=z.cps.size
 rw [List.size_toArray,List.length_take,List.length_drop,Array.length_toList]
 omega
section
variable {X:Cx}
theorem Qz {v:Value} {lo:Option Int} (h:IsPart v lo):∃ l:Option (Int×Tok),v=partValue l/\l.map (·.1)=lo:=by
 cases h with
 | none=>exact ⟨none,rfl,rfl⟩
 | int i t=>exact ⟨some (i,t),rfl,rfl⟩
noncomputable def VC:V->Option Int->Option Int->Hp->VK->Prop:=fun x lo hi H Q=>∃ z:Str,x=.str z/\z.length<=sizeLine/\Q (.str (cutS z lo hi)) H
theorem Cu:tH X VC:=by
 intro pins s σ H x v vl vu lo hi sl Q I rx hs pl pu h
 obtain ⟨z,rfl,hz,q⟩:=h
 obtain ⟨t,rfl⟩:=(show ∃ t,v=Value.str z t from rx)
 obtain ⟨l,rfl,rfl⟩:=Qz pl
 obtain ⟨u,rfl,rfl⟩:=Qz pu
 refine ⟨"str",_,F.slot_str_getitem.lookup,typeIs_str _ _ _,?_⟩
 refine wpAny_getItem_str_slice (l:=l) (u:=u) (st:=none) hs rfl ?_
 unfold sliceMade
 have hp:slicePicked z l u none=strSliceIndices (l.map (·.1)) (u.map (·.1)) 1 z.length:=rfl
 rw [hp]
 split
 ·rename_i hc
  have e:(strSliceIndices (l.map (·.1)) (u.map (·.1)) 1 z.length).length=z.length:=by
   rw [Bool.and_eq_true] at hc
   exact beq_iff_eq.mp hc.2
  rw [TZ z _ _ e] at q
  exact ⟨.str z,H,I,⟨_,rfl⟩,q⟩
 ·rw [TW]
  exact ⟨Nat.le_trans (cut_len z _ _) hz,.str _,H,I.tok _,⟨_,rfl⟩,q⟩
end
end L2
namespace L2
open PySem PySem.Spec PyProof.Rows
open Builtin Builtin.Str
end L2
namespace L2
open PySem PySem.Spec PyProof.Rows
section
variable {κ:Type} [DecidableEq κ]
noncomputable def wQ (kvs:List (κ×V)) (k:κ):Option V:=(kvs.find? fun kv=>decide (kv.1=k)).map (·.2)
noncomputable def wO (kvs:List (κ×V)) (k:κ) (v:V):List (κ×V):=
 if (kvs.any fun kv=>decide (kv.1=k))=true then kvs.map (fun kv=>if kv.1=k then (kv.1,v) else kv) else kvs++[(k,v)]
theorem qt {p:κ×V} {r:List (κ×V)} {k:κ} (e:p.1=k):wQ (p::r) k=some p.2:=by simp [wQ,List.find?_cons,e]
theorem qr {p:κ×V} {r:List (κ×V)} {k:κ} (e:¬ p.1=k):wQ (p::r) k=wQ r k:=by simp [wQ,List.find?_cons,e]
theorem UV (k:κ):∀ kvs:List (κ×V),(kvs.any fun kv=>decide (kv.1=k))=(wQ kvs k).isSome
 | []=>rfl
 | p::r=>by
  rw [List.any_cons]
  by_cases e:p.1=k
  ·simp only [qt e,decide_eq_true e,Bool.true_or,Option.isSome_some]
  ·rw [qr e,decide_eq_false e,Bool.false_or]; exact UV k r
theorem Il (k j:κ) (y:V):∀ kvs:List (κ×V),wQ kvs k=none->wQ (kvs++[(k,y)]) j=if j=k then some y else wQ kvs j
 | [],_=>by
  by_cases e:k=j
  ·rw [if_pos e.symm]; exact qt (p:=(k,y)) e
  ·rw [if_neg (fun z=>e z.symm)]; exact qr (p:=(k,y)) e
 | p::r,hn=>by
  rw [List.cons_append]
  have hk:¬ p.1=k:=fun z=>by rw [qt z] at hn; cases hn
  rw [qr hk] at hn
  have ih:=Il k j y r hn
  by_cases e:p.1=j
  ·rw [qt e,qt e,if_neg (fun z=>hk (e.trans z))]
  ·rw [qr e,qr e,ih]
theorem Wm (kvs:List (κ×V)) (k:κ) (v:V):(wO kvs k v).length<=kvs.length+1:=by
 unfold wO
 split
 ·rw [List.length_map]; omega
 ·rw [List.length_append,List.length_cons,List.length_nil]; omega
theorem Fc {kvs:List (κ×V)} {k:κ} (v:V) (h:wQ kvs k=none):wO kvs k v=kvs++[(k,v)]:=by
 unfold wO
 rw [UV,h]
 exact if_neg (by decide)
theorem uO.isSome_eq {o:Option V} {u:Option Value} (r:uO o u):o.isSome=u.isSome:=by
 cases o with
 | none=>cases u with
  | none=>rfl
  | some _=>exact (show False from r).elim
 | some _=>cases u with
  | none=>exact (show False from r).elim
  | some _=>rfl
theorem KV.val {kvs:List (κ×V)} {vs:List (κ×Value)} (r:KV kvs vs) (k:κ):uO (wQ kvs k) (valueAt vs k):=by
 unfold KV at r
 induction r with
 | nil=>exact True.intro
 | @cons p q ps qs h t ih=>
  obtain ⟨h1,h2⟩:=h
  by_cases e:p.1=k
  ·have e':q.1=k:=h1.symm.trans e
   have b:valueAt (q::qs) k=some q.2:=by simp [valueAt,List.find?_cons,e']
   rw [qt e,b]; exact h2
  ·have e':¬ q.1=k:=fun z=>e (h1.trans z)
   have b:valueAt (q::qs) k=valueAt qs k:=by simp [valueAt,List.find?_cons,e']
   rw [qr e,b]; exact ih
theorem KV.any {kvs:List (κ×V)} {vs:List (κ×Value)} (r:KV kvs vs) (k:κ):(kvs.any fun kv=>decide (kv.1=k))=vs.any fun kv=>decide (kv.1=k):=by
 unfold KV at r
 induction r with
 | nil=>rfl
 | cons h t ih=>rw [List.any_cons,List.any_cons,ih,h.1]
theorem KV.repl {kvs:List (κ×V)} {vs:List (κ×Value)} (r:KV kvs vs) (k:κ) {y:V} {u:Value} (ry:zm y u) :
  KV (kvs.map fun kv=>if kv.1=k then (kv.1,y) else kv) (vs.map fun kv=>if kv.1=k then (kv.1,u) else kv):=by
 unfold KV at r ⊢
 induction r with
 | nil=>exact .nil
 | @cons p q ps qs h t ih=>
  rw [List.map_cons,List.map_cons]
  refine .cons ?_ ih
  obtain ⟨h1,h2⟩:=h
  by_cases e:p.1=k
  ·rw [if_pos e,if_pos (h1.symm.trans e)]; exact ⟨h1,ry⟩
  ·rw [if_neg e,if_neg (fun z=>e (h1.trans z))]; exact ⟨h1,h2⟩
theorem KV.put {kvs:List (κ×V)} {vs:List (κ×Value)} (r:KV kvs vs) (k:κ) {y:V} {u:Value} (ry:zm y u):KV (wO kvs k y) (stored vs k u):=by
 unfold wO stored
 rw [r.any k]
 by_cases e:(vs.any fun kv=>decide (kv.1=k))=true
 ·rw [if_pos e,if_pos e]; exact r.repl k ry
 ·rw [if_neg e,if_neg e]; exact Paired.snoc r ⟨rfl,ry⟩
theorem KV.length {kvs:List (κ×V)} {vs:List (κ×Value)} (r:KV kvs vs):kvs.length=vs.length:=Paired.length r
end
theorem qY {P:Program} {w:World} {k:zY} {u:Value} (r:zm (kV k) u):(wM P w).is k u=true:=by
 cases k with
 | inl i=>obtain ⟨t,e⟩:=(show ∃ t,u=Value.int i t from r); subst e; exact Mv P w i t
 | inr x=>obtain ⟨t,e⟩:=(show ∃ t,u=Value.str x t from r); subst e; exact Wt P w x t
theorem QO {P:Program} {w:World}:∀ {ks:List zY} {us:List Value},zf (ks.map kV) us->ItemsAre (wM P w) ks us
 | [],_,r=>by rw [List.map_nil] at r; cases r; exact .nil
 | k::ks,_,r=>by
  rw [List.map_cons] at r
  cases r with
  | cons h t=>exact .cons (qY h) (QO t)
noncomputable abbrev KT (H:Hp):List (List zY×V)->List (List zY×Addr×Value)->Prop:=Paired fun p q=>p.1=q.1/\H q.2.1=some (.tup (p.1.map kV))/\zm p.2 q.2.2
theorem KT.val {H:Hp} {kvs:List (List zY×V)} {xs:List (List zY×Addr×Value)} (r:KT H kvs xs) (k:List zY):uO (wQ kvs k) ((atKey xs k).map (·.2)):=by
 induction r with
 | nil=>exact True.intro
 | @cons p q ps qs h t ih=>
  obtain ⟨h1,_,h2⟩:=h
  by_cases e:p.1=k
  ·have e':q.1=k:=h1.symm.trans e
   have b:atKey (q::qs) k=some q.2:=by simp [atKey,List.find?_cons,e']
   rw [qt e,b]; exact h2
  ·have e':¬ q.1=k:=fun z=>e (h1.trans z)
   have b:atKey (q::qs) k=atKey qs k:=by simp [atKey,List.find?_cons,e']
   rw [qr e,b]; exact ih
theorem KT.repl {H:Hp} {kvs:List (List zY×V)} {xs:List (List zY×Addr×Value)} (r:KT H kvs xs) (k:List zY) {y:V} {u:Value} (ry:zm y u) :
  KT H (kvs.map fun kv=>if kv.1=k then (kv.1,y) else kv) (xs.map (putAt k u)):=by
 induction r with
 | nil=>exact .nil
 | @cons p q ps qs h t ih=>
  rw [List.map_cons,List.map_cons]
  refine .cons ?_ ih
  obtain ⟨h1,h2,h3⟩:=h
  unfold putAt
  by_cases e:p.1=k
  ·rw [if_pos e,if_pos (h1.symm.trans e)]; exact ⟨h1,h2,ry⟩
  ·rw [if_neg e,if_neg (fun z=>e (h1.trans z))]; exact ⟨h1,h2,h3⟩
theorem KT.put {H:Hp} {kvs:List (List zY×V)} {xs:List (List zY×Addr×Value)} (r:KT H kvs xs) (k:List zY) {b:Addr} {y:V} {u:Value} (hb:H b=some (.tup (k.map kV))) (ry:zm y u) :
  KT H (wO kvs k y) (storedH xs k b u):=by
 have e:(kvs.any fun kv=>decide (kv.1=k))=(atKey xs k).isSome:=by
  rw [UV,(r.val k).isSome_eq,Option.isSome_map]
 unfold wO storedH
 rw [e]
 by_cases q:(atKey xs k).isSome=true
 ·rw [if_pos q,if_pos q]; exact r.repl k ry
 ·rw [if_neg q,if_neg q]; exact Paired.snoc r ⟨rfl,hb,ry⟩
theorem KT.keeps {H H':Hp} {kvs:List (List zY×V)} {xs:List (List zY×Addr×Value)} (r:KT H kvs xs) (ht:∀ b ys,H b=some (.tup ys)->H' b=some (.tup ys)):KT H' kvs xs:=
 Paired.mapP r fun _ _ z=>⟨z.1,ht _ _ z.2.1,z.2.2⟩
section
variable {P:Program} {w:World} {H:Hp} {h:Heap} {a:Addr}
theorem Ja {u:HO} (ok:yo P w H h) (e:Rd H a u):yr P w H h a u:=e.ok ok
theorem gQ {kvs:List (zY×V)} (ok:yo P w H h) (e:Rd H a (.dK kvs)):kvs.length<=sizeLine/\(a == sysModules)=false/\∃ vs,KV kvs vs/\h.DictOf (wM P w) a vs:=
 show yr P w H h a (.dK kvs) from Ja ok e
theorem Th {kvs:List (zY×V)} (ok:yo P w H h) (e:H a=some (.dK kvs)):kvs.length<=sizeLine/\(a == sysModules)=false/\∃ vs,KV kvs vs/\h.DictOf (wM P w) a vs:=gQ ok (.inl e)
theorem Ze {ks:List zY} (ok:yo P w H h) (e:H a=some (.tup (ks.map kV))):(tupleKind (wM P w)).is h ks a:=by
 obtain ⟨_,its,r,o,h1,h2,n,h3⟩:=(show yr P w H h a (.tup (ks.map kV)) from ok a _ e)
 exact ⟨o,its.toArray,n,h1,h2,h3,by simpa using QO r⟩
theorem ZG {kvs:List (List zY×V)} (ok:yo P w H h) (e:Rd H a (.dT kvs)):kvs.length<=sizeLine/\(a == sysModules)=false/\
  ∃ xs,KT H kvs xs/\h.DictOfH (tupleKind (wM P w)) a xs:=by
 obtain ⟨z,y,xs,r,o,es,ep,h1,h2,h3,h4,h5⟩:=(show yr P w H h a (.dT kvs) from Ja ok e)
 refine ⟨z,y,xs,r,o,es,ep,h1,h2,h3,h4,fun x hx=>?_,h5⟩
 have all:∀ {l:List (List zY×V)} {m:List (List zY×Addr×Value)},KT H l m->∀ x∈m,(tupleKind (wM P w)).is h x.1 x.2.1:=by
  intro l m q
  induction q with
  | nil=>intro x hx; exact nomatch hx
  | @cons p q ps qs hq t ih=>
   intro x hx
   rcases List.mem_cons.mp hx with e | hx
   ·subst e
    exact Ze ok (by rw [<- hq.1]; exact hq.2.1)
   ·exact ih x hx
 exact all r x hx
theorem Oy {kvs:List (List zY×V)} (ok:yo P w H h) (e:H a=some (.dT kvs)):kvs.length<=sizeLine/\(a == sysModules)=false/\
  ∃ xs,KT H kvs xs/\h.DictOfH (tupleKind (wM P w)) a xs:=ZG ok (.inl e)
end
noncomputable def Yg (H:Hp) (a:Addr) (y:V) (r:Option V):Prop:=
 (∃ kvs k,Rd H a (.dK kvs)/\y=kV k/\r=wQ kvs k)\/∃ kvs k b,Rd H a (.dT kvs)/\y=.ref b/\H b=some (.tup (k.map kV))/\r=wQ kvs k
noncomputable def Uh (H:Hp) (a:Addr) (y v:V) (H':Hp):Prop:=
 (∃ kvs k,H a=some (.dK kvs)/\y=kV k/\kvs.length<sizeLine/\H'=zZ H a (.dK (wO kvs k v))) \/
 ∃ kvs k b,H a=some (.dT kvs)/\y=.ref b/\H b=some (.tup (k.map kV))/\kvs.length<sizeLine/\H'=zZ H a (.dT (wO kvs k v))
section
variable {X:Cx} {pins:List (Addr×Obj)} {σ:St} {H:Hp} {s:Shared} {a:Addr} {y v:V} {u r:Value} {o:Option V} {A:Around} {E:Value->Shared->Prop}
theorem zC.big (I:zC X pins σ H s):sysModules<s.heap.objs.size:=by
 have h:mainGlobals<s.heap.objs.size:=(I.mod.glob.keeps I.bk).lt
 exact Nat.lt_trans (by decide) h
theorem Oq {Q:Value->Shared->Prop} (hu:A.units+1<cLine) (I:zC X pins σ H s) (g:Yg H a y o) (ry:zm y u) (h:∀ s',zC X pins σ H s'->Q (.bool o.isSome) s') :
  wpAny (model X.prog X.w) A (compareOp .In u (.ref a)) Q E s:=by
 rcases g with ⟨kvs,k,e,ey,l⟩ | ⟨kvs,k,b,e,ey,eb,l⟩
 ·subst ey
  obtain ⟨z,hd,vs,rel,dd⟩:=gQ I.hok e
  refine wpAny_in_of (qY ry) hd dd.mapOf ?_
  rw [<- (rel.val k).isSome_eq,<- l]
  exact h _ (I.tok _)
 ·subst ey
  cases (show u=Value.ref b from ry)
  obtain ⟨z,hd,xs,rel,dd⟩:=ZG I.hok e
  refine wpAny_in_heap (tupleKind_room_in1 hu) (Ze I.hok eb) hd dd ?_
  have q:=(rel.val k).isSome_eq
  rw [Option.isSome_map] at q
  rw [<- q,<- l]
  exact h _ (I.tok _)
theorem Os {Q:Value->Shared->Prop} (hu:A.units+1<cLine) (I:zC X pins σ H s) (g:Yg H a y o) (ry:zm y u) (h:∀ s',zC X pins σ H s'->Q (.bool (!o.isSome)) s') :
  wpAny (model X.prog X.w) A (compareOp .NotIn u (.ref a)) Q E s:=by
 rcases g with ⟨kvs,k,e,ey,l⟩ | ⟨kvs,k,b,e,ey,eb,l⟩
 ·subst ey
  obtain ⟨z,hd,vs,rel,dd⟩:=gQ I.hok e
  refine wpAny_notIn_of (qY ry) hd dd.mapOf ?_
  rw [<- (rel.val k).isSome_eq,<- l]
  exact h _ (I.tok _)
 ·subst ey
  cases (show u=Value.ref b from ry)
  obtain ⟨z,hd,xs,rel,dd⟩:=ZG I.hok e
  refine wpAny_notIn_heap (tupleKind_room_in1 hu) (Ze I.hok eb) hd dd ?_
  have q:=(rel.val k).isSome_eq
  rw [Option.isSome_map] at q
  rw [<- q,<- l]
  exact h _ (I.tok _)
theorem Xy {h':Heap} {t':Nat} {ob:HO} (I:zC X pins σ H s) (mu:gD (H a)) (hs:Heap.SameBut a s.heap h') (he:∃ q,h'.get? a=some q) (new:yr X.prog X.w (zZ H a ob) h' a ob) :
  zC X pins σ (zZ H a ob) { s with heap:=h',toks:=t' }:=
 I.write (x:=a) (e:=a) mu (.inl rfl) (fun b q hb z=>(hs.2 b hb).trans z) he new
theorem Tg {P:Program} {w:World} {H':Hp} {h':Heap} {kvs:List (zY×V)} {vs:List (zY×Value)} (z:kvs.length<=sizeLine) (hd:(a == sysModules)=false) (rel:KV kvs vs) (dd:h'.DictOf (wM P w) a vs) :
  yr P w H' h' a (.dK kvs):=⟨z,hd,vs,rel,dd⟩
theorem Ot {H':Hp} {Q:Unit->Shared->Prop} (hu:A.units+1<cLine) (I:zC X pins σ H s) (g:Uh H a y v H') (ry:zm y u) (rv:zm v r) (h:∀ s',zC X pins σ H' s'->Q () s') :
  wpAny (model X.prog X.w) A (setItem (.ref a) u r) Q E s:=by
 rcases g with ⟨kvs,k,e,ey,l,eH⟩ | ⟨kvs,k,b,e,ey,eb,l,eH⟩
 ·subst ey eH
  obtain ⟨z,hd,vs,rel,dd⟩:=Th I.hok e
  have hz:vs.length<=sizeLine:=by rw [<- rel.length]; exact z
  have hl:(wO kvs k v).length<=sizeLine:=by have:=Wm kvs k v; omega
  refine wpAny_setItem_pairs (hsz:=hz) (qY ry) dd fun h' dd' hs=>h _ ?_
  have he:∃ q,h'.get? a=some q:=let ⟨q,_,_,hq,_⟩:=dd'; ⟨q,hq⟩
  exact Xy I (by rw [e]; exact True.intro) hs he (Tg hl hd (rel.put k rv) dd')
 ·subst ey eH
  cases (show u=Value.ref b from ry)
  obtain ⟨z,hd,xs,rel,dd⟩:=Oy I.hok e
  have hz:xs.length<=sizeLine:=by rw [<- Paired.length rel]; exact z
  have hl:(wO kvs k v).length<=sizeLine:=by have:=Wm kvs k v; omega
  refine wpAny_setItem_heap (hsz:=hz) (tupleKind_room_in1 hu) (Ze I.hok eb) dd fun h' dd' hs=>h _ ?_
  obtain ⟨q,es,ep,hq,h2,h3,h4,_,h5⟩:=dd'
  refine Xy I (by rw [e]; exact True.intro) hs ⟨q,hq⟩ ⟨hl,hd,_,(rel.put k eb rv).keeps fun c ys ec=>?_,q,es,ep,hq,h2,h3,h4,h5⟩
  rw [yj (B9 ec e (fun z=>nomatch z))]
  exact ec
end
theorem Ow {X:Cx} {pins:List (Addr×Obj)} {σ:St} {H:Hp} {s:Shared} {a:Addr} {y:V} {o:Option V} (I:zC X pins σ H s) (g:Yg H a y o):s.TypeIs (.ref a) "dict" := by
 rcases g with ⟨kvs,k,e,_,_⟩ | ⟨kvs,k,b,e,_,_,_⟩
 ·obtain ⟨_,_,vs,_,dd⟩:=gQ I.hok e
  exact dd.typeIs
 ·obtain ⟨_,_,xs,_,dd⟩:=ZG I.hok e
  exact dd.typeIs
noncomputable def CD (td ty tv:TE):TS:=fun D σ H=>tv σ H fun v H1=>td σ H1 fun x H2=>ty σ H2 fun y H3=>∃ a H4,x=.ref a/\Uh H3 a y v H4/\D.nx σ H4
section
variable {X:Cx} {o i e value:Expr} {pos pos' tpos:Pos} {td ty tv:TE}
theorem FN (hu:X.A.units+1<cLine) (ho:PE X o td) (hi:PE X i ty) (hv:PE X value tv) (hs:swapsWith value (some (.Subscript o i pos')) pos.line X.env=pure false) :
  PS X (.Assign [.Subscript o i pos'] value pos) (CD td ty tv):=by
 intro pins s σ H D I h
 refine wpAny_Assign_Subscript (zh (hv pins s σ H _ I h) fun r s1 ⟨v,H1,I1,rv,q1⟩=>zh (ho pins s1 σ H1 _ I1 q1) fun u s2 ⟨x,H2,I2,rx,q2⟩=>zh (hi pins s2 σ H2 _ I2 q2) fun iv s3 ⟨y,H3,I3,ry,a,H4,ex,g,q3⟩=>?_) hs
 subst ex
 obtain rfl:u=Value.ref a:=rx
 exact Ot hu I3 g ry rv fun s4 I4=>⟨σ,H4,I4,q3⟩
end
theorem Tf {P:Program} {w:World} {H:Hp} (h:Heap) (hb:sysModules<h.objs.size):yr P w H (h.push { cls:=.type "dict",data:=.dict #[] }) h.objs.size (.dK []):=
 ⟨Nat.zero_le _,beq_eq_false_iff_ne.mpr (Ne.symm (Nat.ne_of_lt hb)),[],.nil,Heap.DictOf.new h⟩
noncomputable def EH:TE:=fun _ H Q=>∀ p,H p=none->Q (.ref p) (zZ H p (.dK []))
section
variable {X:Cx} {pos:Pos}
theorem Dd:PE X (.Dict [] [] pos) EH:=fun pins s σ H Q I h=>
 wpAny_Dict_empty ⟨.ref s.heap.objs.size,_,I.laid (a:=s.heap.objs.size) (o:=.dK []) (t':=s.toks) (fun _ _ q=>Heap.get?_push_of_some _ q) (Nat.le_refl _) (Tf s.heap I.big),rfl,h _ (I.hok.fresh (Nat.le_refl _))⟩
end
noncomputable def YM:List (TE×TE)->St->Hp->(List (V×V)->Hp->Prop)->Prop
 | [],_,H,Q=>Q [] H
 | (tk,tv)::r,σ,H,Q=>tk σ H fun x H1=>tv σ H1 fun y H2=>YM r σ H2 fun ps H3=>Q ((x,y)::ps) H3
noncomputable abbrev VV:List (V×V)->List (Value×Value)->Prop:=Paired fun p q=>zm p.1 q.1/\zm p.2 q.2
noncomputable def gG (X:Cx) (pos:Pos) (keys:List (Option Expr)) (values:List Expr) (trs:List (TE×TE)):Prop:=
 ∀ (pins:List (Addr×Obj)) (s:Shared) (σ:St) (H:Hp) (Q:List (V×V)->Hp->Prop),zC X pins σ H s->YM trs σ H Q->
  wpAny (model X.prog X.w) X.A (evalPairs (pairTrees keys values X.env pos)) (fun vs s'=>∃ ps H',zC X pins σ H' s'/\VV ps vs/\Q ps H') X.xe s
theorem FH {X:Cx} {pos:Pos}:gG X pos [] [] []:=fun pins s σ H Q I h=>pairTrees_nil_walk ⟨[],H,I,.nil,h⟩
theorem FD {X:Cx} {pos:Pos} {k v:Expr} {ks:List (Option Expr)} {vs:List Expr} {tk tv:TE} {trs:List (TE×TE)} (hk:PE X k tk) (hv:PE X v tv) (hr:gG X pos ks vs trs) :
  gG X pos (some k::ks) (v::vs) ((tk,tv)::trs):=fun pins s σ H Q I h=>
 pairTrees_cons_walk (zh (hk pins s σ H _ I h) fun u s1 ⟨x,H1,I1,rx,q1⟩=>zh (hv pins s1 σ H1 _ I1 q1) fun w2 s2 ⟨y,H2,I2,ry,q2⟩=>
  zh (hr pins s2 σ H2 _ I2 q2) fun ws s3 ⟨ps,H3,I3,rel,q3⟩=>⟨(x,y)::ps,H3,I3,.cons ⟨rx,ry⟩ rel,q3⟩)
noncomputable def pJ (kvs more:List (zY×V)):List (zY×V):=more.foldl (fun acc kv=>wO acc kv.1 kv.2) kvs
theorem KV.merge:∀ {more:List (zY×V)} {rs:List (zY×Value)} {kvs:List (zY×V)} {vs:List (zY×Value)},KV more rs->KV kvs vs->KV (pJ kvs more) (merged vs rs):=by
 intro more rs kvs vs r
 unfold KV at r
 induction r generalizing kvs vs with
 | nil=>intro q; exact q
 | @cons p q ps qs h t ih=>
  intro r0
  have e:KV (wO kvs p.1 p.2) (stored vs q.1 q.2):=by
   have:=r0.put p.1 h.2
   rw [<- h.1]; exact this
  exact ih e
theorem QW:∀ (more kvs:List (zY×V)),(pJ kvs more).length<=kvs.length+more.length
 | [],kvs=>by show kvs.length<=kvs.length+0; omega
 | p::r,kvs=>by
  have h1:=QW r (wO kvs p.1 p.2)
  have h2:=Wm kvs p.1 p.2
  show (pJ (wO kvs p.1 p.2) r).length<=_
  rw [List.length_cons]; omega
theorem TH {P:Program} {w:World}:∀ {kvs:List (zY×V)} {ws:List (Value×Value)},VV (kvs.map fun kv=>(kV kv.1,kv.2)) ws->∃ rs,Carries (wM P w) ws rs/\KV kvs rs
 | [],_,r=>by rw [List.map_nil] at r; cases r; exact ⟨[],True.intro,.nil⟩
 | p::kvs,_,r=>by
  rw [List.map_cons] at r
  cases r with
  | @cons a b as bs h t=>
   obtain ⟨rs,c,q⟩:=TH (P:=P) (w:=w) t
   obtain ⟨b1,b2⟩:=b
   exact ⟨(p.1,b2)::rs,⟨qY h.1,rfl,c⟩,.cons ⟨rfl,h.2⟩ q⟩
noncomputable def EI (trs:List (TE×TE)):TE:=fun σ H Q=>∀ p,H p=none->YM trs σ (zZ H p (.dK [])) fun ps H2=>H2 p=some (.dK [])/\∃ kvs:List (zY×V),ps=kvs.map (fun kv=>(kV kv.1,kv.2))/\kvs.length<=15/\Q (.ref p) (zZ H2 p (.dK (pJ [] kvs)))
theorem Dc {X:Cx} {pos:Pos} {keys:List (Option Expr)} {values:List Expr} {trs:List (TE×TE)} (h:gG X pos keys values trs) (hall:keys.all (·.isSome)=true) (hl:keys.length=values.length) (h0:keys≠[])
  (h15:keys.length<=15):PE X (.Dict keys values pos) (EI trs):=by
 intro pins s σ H Q I q
 have hn:=I.hok.fresh (Nat.le_refl s.heap.objs.size)
 have I1:=I.laid (a:=s.heap.objs.size) (o:=.dK []) (h':=s.heap.push { cls:=.type "dict",data:=.dict #[] }) (t':=s.toks) (fun _ _ q=>Heap.get?_push_of_some _ q) (Nat.le_refl _) (Tf s.heap I.big)
 refine wpAny_Dict_walk (knd:=wM X.prog X.w) hall hl h0 h15 (zh (h pins _ σ _ _ I1 (q _ hn)) fun ws s2 ⟨ps,H2,I2,rel,e,kvs,ep,lk,q2⟩=>?_)
 subst ep
 obtain ⟨rs,c,rk⟩:=TH (P:=X.prog) (w:=X.w) rel
 obtain ⟨z,hd,vs0,r0,dd⟩:=Th I2.hok e
 cases r0
 refine ⟨rs,c,dd,fun h' dd' hs=>⟨.ref s.heap.objs.size,_,?_,rfl,q2⟩⟩
 have hz:(pJ [] kvs).length<=sizeLine:=by
  have h1:=QW kvs []
  rw [List.length_nil] at h1
  rw [sizeLine_eq]; omega
 have he:∃ q,h'.get? s.heap.objs.size=some q:=let ⟨q,_,_,hq,_⟩:=dd'; ⟨q,hq⟩
 exact Xy I2 (by rw [e]; exact True.intro) hs he (Tg hz hd (rk.merge .nil) dd')
structure M1 (X:Cx) (o:Expr) (m:Str) (apos:Pos) (e:Expr) (cpos:Pos):Prop where
 base:attributeBase o m X.env (eval o X.env)=eval o X.env
 few:((backTo cpos (starEach [e] X.env)).all (fun x=>!x.1)&&(backToKw cpos (keywordEach [] X.env)).all (fun x=>x.1.isSome)
  && decide (([e]:List Expr).length+([]:List Keyword).length+(if ([]:List Keyword).isEmpty then 0 else 1)<30))=true
 line:(apos.endLine == cpos.line)=true
 trees:backTo cpos (starEach [e] X.env)=[(false,eval e X.env)]
structure M2 (X:Cx) (o:Expr) (m:Str) (apos:Pos) (e f:Expr) (cpos:Pos):Prop where
 base:attributeBase o m X.env (eval o X.env)=eval o X.env
 few:((backTo cpos (starEach [e,f] X.env)).all (fun x=>!x.1)&&(backToKw cpos (keywordEach [] X.env)).all (fun x=>x.1.isSome)
  && decide (([e,f]:List Expr).length+([]:List Keyword).length+(if ([]:List Keyword).isEmpty then 0 else 1)<30))=true
 line:(apos.endLine == cpos.line)=true
 trees:backTo cpos (starEach [e,f] X.env)=[(false,eval e X.env),(false,eval f X.env)]
end L2
namespace L3
open PySem
inductive D where
 | non | bl (b:Bool) | int (i:Int) | str (x:Str) | tup (xs:List D) | lst (xs:List D) | dic (ks:List (Sum Int Str)) (vs:List D) | exc (x:Str) | obj (x:Str) (fs:List Str) (vs:List D)
theorem D.ind {P:D->Prop} (non:P .non) (bl:∀ b,P (.bl b)) (int:∀ i,P (.int i)) (str:∀ x,P (.str x)) (tup:∀ xs,(∀ d∈xs,P d)->P (.tup xs)) (lst:∀ xs,(∀ d∈xs,P d)->P (.lst xs))
  (dic:∀ ks xs,(∀ d∈xs,P d)->P (.dic ks xs)) (exc:∀ x,P (.exc x)) (obj:∀ x fs xs,(∀ d∈xs,P d)->P (.obj x fs xs)) (d:D):P d:=
 D.rec (motive_1:=P) (motive_2:=fun ds=>∀ d∈ds,P d) non bl int str (fun xs h=>tup xs h) (fun xs h=>lst xs h) (fun ks xs h=>dic ks xs h) exc (fun x fs xs h=>obj x fs xs h) (fun _ h=>absurd h (by simp))
  (fun d ds hd hds e he=>by
   rcases List.mem_cons.mp he with z | z
   ·exact z ▸ hd
   ·exact hds e z) d
mutual
noncomputable def yG:D->D->Bool
 | .non,.non=>true
 | .bl a,.bl b=>a == b
 | .bl a,.int b=>(if a then 1 else 0) == b
 | .int a,.bl b=>a == (if b then 1 else 0)
 | .int a,.int b=>a == b
 | .str a,.str b=>a == b
 | .tup xs,.tup ys=>dEqs xs ys
 | .lst xs,.lst ys=>dEqs xs ys
 | _,_=>false
noncomputable def dEqs:List D->List D->Bool
 | [],[]=>true
 | x::xs,y::ys=>yG x y&&dEqs xs ys
 | _,_=>false
end
noncomputable abbrev Sl:=Bool×D
noncomputable abbrev yD:=List (Option Sl)
noncomputable abbrev FE:=yD->Option D
noncomputable abbrev FT:=yD->Option Bool
noncomputable abbrev FA:=yD->Option (List D)
noncomputable abbrev FG:=D->yD->Option yD
inductive Fl where
 | nx (σ:yD) | rt (o:Bool) (d:D) | bk (σ:yD) | ct (σ:yD)
noncomputable abbrev FS:=yD->Option Fl
noncomputable abbrev yS:Nat:=16777216
noncomputable def z8 (i:Nat):FE:=fun σ=>match σ[i]? with
 | some (some (false,d))=>some d
 | _=>none
noncomputable def wz (i:Nat):FE:=fun σ=>match σ[i]? with
 | some (some (_,d))=>some d
 | _=>none
noncomputable def eC (d:D):FE:=fun _=>some d
noncomputable def e1 (F:D->Option D) (a:FE):FE:=fun σ=>(a σ).bind F
noncomputable def e2 (F:D->D->Option D) (a b:FE):FE:=fun σ=>(a σ).bind fun x=>(b σ).bind fun y=>F x y
noncomputable def eL (F:List D->Option D) (a:FA):FE:=fun σ=>(a σ).bind F
noncomputable def zD:FA:=fun _=>some []
noncomputable def z7 (a:FE) (r:FA):FA:=fun σ=>(a σ).bind fun x=>(r σ).bind fun xs=>some (x::xs)
noncomputable def j7:D->Option Bool
 | .bl b=>some b
 | _=>none
noncomputable def tE (a:FE):FT:=fun σ=>(a σ).bind j7
noncomputable def xT (a b:FT):FT:=fun σ=>(a σ).bind fun k=>match k with
 | true=>b σ
 | false=>some false
noncomputable def vb (a b:FT):FT:=fun σ=>(a σ).bind fun k=>match k with
 | true=>some true
 | false=>b σ
noncomputable def uJ (a:FT):FT:=fun σ=>(a σ).bind fun k=>some (!k)
noncomputable def ul (a b:FE):FE:=fun σ=>(a σ).bind fun x=>(j7 x).bind fun k=>match k with
 | true=>b σ
 | false=>some (.bl false)
noncomputable def L0 (a b:FE):FE:=fun σ=>(a σ).bind fun x=>(j7 x).bind fun k=>match k with
 | true=>some (.bl true)
 | false=>b σ
noncomputable def W9 (a:FE):FE:=fun σ=>(a σ).bind fun x=>(j7 x).bind fun k=>some (.bl (!k))
noncomputable def gR (c:FT) (a b:FE):FE:=fun σ=>(c σ).bind fun k=>match k with
 | true=>a σ
 | false=>b σ
noncomputable def qR (a:FA):FE:=fun σ=>(a σ).bind fun xs=>some (.tup xs)
noncomputable def zu (a:FA):FE:=fun σ=>(a σ).bind fun xs=>some (.lst xs)
noncomputable def zQ:D->D->Option D
 | .int i,.int j=>some (.int (i+j))
 | .int i,.bl b=>some (.int (i+(if b then 1 else 0)))
 | .str x,.str y=>if x.length+y.length<=yS then some (.str (x++y)) else none
 | .lst x,.lst y=>if x.length+y.length<=yS then some (.lst (x++y)) else none
 | .tup x,.tup y=>if x.isEmpty=false/\x.length+y.length<=yS then some (.tup (x++y)) else none
 | _,_=>none
noncomputable def fI (C:Int->Int->Bool) (g:Int->Int->Int):D->D->Option D
 | .int i,.int j=>match C i j with
  | true=>some (.int (g i j))
  | false=>none
 | _,_=>none
noncomputable def WO:D->D->Option D
 | .int i,.int j=>some (.int (i - j))
 | _,_=>none
noncomputable def uW (i:Int):Bool:=decide (-(2 ^ 64)<i)&&decide (i<2 ^ 64)
noncomputable def qU:D->D->Option D:=fI (fun i _=>uW i) (·*·)
noncomputable def ZM:D->D->Option D:=fI (fun _ j=>uW j) (·*·)
noncomputable def vK:D->D->Option D:=fI (fun _ j=>decide (0<j)) (· % ·)
noncomputable def qS:D->D->Option D:=fI (fun _ j=>decide (0<j)&&decide (j<2 ^ 64)) (· / ·)
noncomputable def jX (i j:Int):Bool:=decide (0<=j)&&(decide (j<=1000000)&&decide (i.natAbs<2 ^ 64))
noncomputable def LI:D->D->Option D:=fI jX fun i j=>i ^ j.toNat
noncomputable def WM:D->D->Option D:=fI jX fun i j=>i*2 ^ j.toNat
noncomputable def LJ:D->D->Option D:=fI (fun _ j=>decide (0<=j)) fun i j=>i / 2 ^ j.toNat
noncomputable def LG (g:Int->Int->Int):D->D->Option D
 | .int i,.int j=>some (.int (g i j))
 | _,_=>none
noncomputable def xV:D->Option D
 | .int i=>some (.int (-i))
 | _=>none
noncomputable def xU (g:Int->Int->Bool):D->D->Option D
 | .int i,.int j=>some (.bl (g i j))
 | _,_=>none
noncomputable def jJ:D->Bool
 | .non=>true
 | _=>false
noncomputable def jD:D->D->Option D
 | x,.non=>some (.bl (jJ x))
 | _,_=>none
noncomputable def gV:D->D->Option D
 | x,.non=>some (.bl (!jJ x))
 | _,_=>none
noncomputable def xF:D->Bool
 | .non=>true
 | .bl _=>true
 | .int _=>true
 | .str _=>true
 | _=>false
noncomputable def vj (f:D->D->Bool):List D->List D->Bool
 | x::xs,y::ys=>f x y&&vj f xs ys
 | _,_=>true
noncomputable def wK:Nat->D->D->Bool
 | 0,_,_=>false
 | n+1,x,y=>match x,y with
  | .tup xs,.tup ys=>vj (wK n) xs ys
  | .lst xs,.lst ys=>vj (wK n) xs ys
  | x,y=>xF x&&xF y
noncomputable def uQ:D->D->Option Bool
 | .int _,.bl _=>none
 | .bl _,.int _=>none
 | x,y=>match wK 6 x y with
  | true=>some (yG x y)
  | false=>none
noncomputable def zL (x y:D):Option D:=(uQ x y).bind fun k=>some (.bl k)
noncomputable def xP (x y:D):Option D:=(uQ x y).bind fun k=>some (.bl (!k))
noncomputable def qZ:D->Option (Sum Int Str)
 | .int i=>some (.inl i)
 | .str x=>some (.inr x)
 | _=>none
noncomputable def getK {α:Type}:List (Sum Int Str)->List α->Sum Int Str->Option α
 | k'::ks,v::vs,k=>if k'=k then some v else getK ks vs k
 | _,_,_=>none
noncomputable def xI (ks:List (Sum Int Str)) (k:Sum Int Str):Bool:=ks.any fun j=>decide (j=k)
noncomputable def vq (ks:List (Sum Int Str)) (k:Sum Int Str):List (Sum Int Str):=if xI ks k=true then ks else ks++[k]
noncomputable def vN {α:Type} (ks:List (Sum Int Str)) (vs:List α) (k:Sum Int Str) (v:α):List α:=if xI ks k=true then List.zipWith (fun k' x=>if k'=k then v else x) ks vs else vs++[v]
noncomputable def vT (x:D):D->Option Bool
 | .lst ys=>match xF x&&ys.all xF with
  | true=>some (ys.any fun y=>yG y x)
  | false=>none
 | .tup ys=>match xF x&&ys.all xF with
  | true=>some (ys.any fun y=>yG y x)
  | false=>none
 | .str j=>match x with
  | .str i=>some (!(Builtin.Str.occurrences j i 0 j.length 1).isEmpty)
  | _=>none
 | .dic ks _=>(qZ x).bind fun k=>some (xI ks k)
 | _=>none
noncomputable def yy (x y:D):Option D:=(vT x y).bind fun k=>some (.bl k)
noncomputable def u9 (x y:D):Option D:=(vT x y).bind fun k=>some (.bl (!k))
noncomputable def xX {α:Type} (xs:List α) (i:Int):Option α:=if 0<=i then xs[i.toNat]? else if -(xs.length:Int)<=i then xs[(i+xs.length).toNat]? else none
noncomputable def zH:D->D->Option D
 | .lst xs,.int i=>xX xs i
 | .tup xs,.int i=>xX xs i
 | .str z,.int i=>(xX z.cps.toList i).bind fun c=>some (.str ⟨#[c]⟩)
 | .dic ks vs,k=>(qZ k).bind fun k=>getK ks vs k
 | _,_=>none
noncomputable def yF:List D->Option D
 | [.lst xs]=>some (.int xs.length)
 | [.tup xs]=>some (.int xs.length)
 | [.str z]=>some (.int z.length)
 | _=>none
noncomputable def WJ:List D->Option D
 | [.int i]=>some (.int i)
 | [.bl k]=>some (.int (if k then 1 else 0))
 | _=>none
inductive qK where
 | int | bool | str | list | tuple
noncomputable def qK.nm:qK->String
 | .int => "int"
 | .bool => "bool"
 | .str => "str"
 | .list => "list"
 | .tuple => "tuple"
noncomputable def Za:qK->D->Option Bool
 | _,.dic _ _=>none
 | _,.exc _=>none
 | _,.obj _ _ _=>none
 | .int,.int _=>some true
 | .int,.bl _=>some true
 | .int,_=>some false
 | .bool,.bl _=>some true
 | .bool,_=>some false
 | .str,.str _=>some true
 | .str,_=>some false
 | .list,.lst _=>some true
 | .list,_=>some false
 | .tuple,.tup _=>some true
 | .tuple,_=>some false
noncomputable def tM (T:qK) (a:FE):FE:=fun τ=>(a τ).bind fun d=>(Za T d).bind fun b=>some (.bl b)
noncomputable def w8 (a:FE):FA:=fun σ=>(a σ).bind fun d=>match d with
 | .lst xs=>some xs
 | .tup xs=>some xs
 | .str z=>some (z.cps.toList.map fun c=>.str ⟨#[c]⟩)
 | _=>none
noncomputable def xm (lo hi:FE):FA:=fun σ=>(lo σ).bind fun x=>(hi σ).bind fun y=>match x,y with
 | .int i,.int j=>if i.natAbs<=yS/\j.natAbs<=yS/\(j - i).toNat<=yS then some ((List.range (j - i).toNat).map fun k:Nat=>.int (i+k)) else none
 | _,_=>none
noncomputable def zb (i:Nat):FG:=fun d σ=>some (σ.set i (some (false,d)))
noncomputable def y_ (i j:Nat):FG:=fun d σ=>match d with
 | .tup [x,y]=>some ((σ.set i (some (false,x))).set j (some (false,y)))
 | _=>none
noncomputable def zk:FS:=fun σ=>some (.nx σ)
noncomputable def zI (a b:FS):FS:=fun σ=>(a σ).bind fun f=>match f with
 | .nx σ'=>b σ'
 | f=>some f
noncomputable def zT (i:Nat) (e:FE):FS:=fun σ=>(e σ).bind fun d=>some (.nx (σ.set i (some (false,d))))
noncomputable def vP (i:Nat) (e:FE):FS:=fun σ=>(e σ).bind fun d=>some (.nx (σ.set i (some (true,d))))
noncomputable def zd (e:FE):FS:=fun σ=>(e σ).bind fun d=>some (.rt false d)
noncomputable def qh (e:FE):FS:=fun σ=>(e σ).bind fun d=>some (.rt true d)
noncomputable def pN (i:Nat):FS:=fun σ=>match σ[i]? with
 | some (some (true,d))=>some (.rt true d)
 | _=>none
noncomputable def zX (c:FT) (a b:FS):FS:=fun σ=>(c σ).bind fun k=>match k with
 | true=>a σ
 | false=>b σ
noncomputable def xN (g:FG) (b:FS):List D->yD->Option Fl
 | [],σ=>some (.nx σ)
 | d::r,σ=>(g d σ).bind fun σ1=>(b σ1).bind fun f=>match f with
  | .nx σ2=>xN g b r σ2
  | .ct σ2=>xN g b r σ2
  | .bk σ2=>some (.nx σ2)
  | .rt o d=>some (.rt o d)
noncomputable def vO (it:FA) (g:FG) (b:FS):FS:=fun σ=>(it σ).bind fun ds=>xN g b ds σ
noncomputable def ua (i:Nat):FS:=fun σ=>match σ[i]? with
 | some (some (_,d))=>some (.nx (σ.set i (some (false,d))))
 | _=>none
noncomputable def CF (i:Nat) (F:D->Option D):FS:=fun σ=>match σ[i]? with
 | some (some (true,d))=>(F d).bind fun d'=>some (.nx (σ.set i (some (true,d'))))
 | _=>none
noncomputable def wT (i:Nat) (F:D->D->Option D) (e:FE):FS:=fun σ=>match σ[i]? with
 | some (some (true,d))=>(e σ).bind fun x=>(F d x).bind fun d'=>some (.nx (σ.set i (some (true,d'))))
 | _=>none
noncomputable def xg:D->D->Option D
 | .lst xs,y=>if xs.length<yS then some (.lst (xs++[y])) else none
 | _,_=>none
noncomputable def kD (i:Nat) (k v:FE):FS:=fun σ=>(v σ).bind fun y=>match σ[i]? with
 | some (some (true,.dic ks ds))=>(k σ).bind fun x=>(qZ x).bind fun x=>if ks.length<yS then some (.nx (σ.set i (some (true,.dic (vq ks x) (vN ks ds x y))))) else none
 | _=>none
noncomputable def vn (ks:List (Sum Int Str)) (ds:List D) (x:D):Option D:=(qZ x).bind fun k=>getK ks ds k
noncomputable def uR (ks:List (Sum Int Str)) (x:D):Option D:=(qZ x).bind fun k=>some (.bl (!xI ks k))
noncomputable def Tk (ks:List Str) (vs:FA):FE:=fun σ=>(vs σ).bind fun ds=>if ks.length=ds.length then some (.dic (ks.map .inr) ds) else none
noncomputable def xQ (g:FG) (c:FT) (e:FE) (σ:yD):List D->Option (List D)
 | []=>some []
 | d::r=>(g d σ).bind fun σ1=>(c σ1).bind fun k=>match k with
  | true=>(e σ1).bind fun x=>(xQ g c e σ r).bind fun xs=>some (x::xs)
  | false=>xQ g c e σ r
noncomputable def yn:FT:=fun _=>some true
noncomputable def yx (n:Nat) (it:FA) (g:FG) (c:FT) (e:FE):FE:=fun σ=>(it σ).bind fun ds=>(xQ g c e (σ++List.replicate n none) ds).bind fun xs=>some (.lst xs)
noncomputable def yi (n:Nat) (b:FS) (ds:List D):Option (Bool×D):=(b (ds.map (fun d=>some (false,d))++List.replicate (n - ds.length) none)).bind fun f=>match f with
 | .rt o d=>some (o,d)
 | .nx _=>some (false,.non)
 | _=>none
noncomputable def zR (F:List D->Option (Bool×D)) (a:FA):FE:=fun σ=>(a σ).bind fun ds=>(F ds).bind fun r=>some r.2
noncomputable def ZH (F:List D->Option (Bool×D)) (a:FA):FE:=fun σ=>(a σ).bind fun ds=>(F ds).bind fun r=>match r with
 | (true,d)=>some d
 | _=>none
end L3
namespace L3
open PySem PySem.Spec PyProof.Rows L2
noncomputable abbrev St:=L2.St
noncomputable def OA (_:PySem.W.Frag) (H:Hp) (a:Addr) (kvs:List (zY×V)):Prop:=Rd H a (.dK kvs)
mutual
noncomputable def zU (K:PySem.W.Frag) (H:Hp):D->V->Prop
 | .non,v=>v=.non
 | .bl b,v=>v=.bl b
 | .int i,v=>v=.int i
 | .str x,v=>v=.str x/\x.length<=sizeLine
 | .tup ds,v=>∃ a vs,v=.ref a/\yk K H a vs/\Reps K H ds vs/\ds.length<=sizeLine
 | .lst ds,v=>∃ a vs,v=.ref a/\yT K H a vs/\Reps K H ds vs/\ds.length<=sizeLine
 | .dic ks ds,v=>∃ a vs,v=.ref a/\OA K H a (ks.zip vs)/\ks.length=vs.length/\Reps K H ds vs/\ds.length<=sizeLine
 | .exc x,v=>∃ a C,v=.ref a/\PySem.W.nsIn K mainGlobals x=some (some (.ref C))/\H a=some (.ext (uL a C))
 | .obj x fs ds,v=>∃ a C dx vs,v=.ref a/\PySem.W.nsIn K mainGlobals x=some (some (.ref C))/\H a=some (.ins C dx (fs.zip vs))/\fs.length=vs.length/\Reps K H ds vs
noncomputable def Reps (K:PySem.W.Frag) (H:Hp):List D->List V->Prop
 | [],vs=>vs=[]
 | d::ds,vs=>∃ v r,vs=v::r/\zU K H d v/\Reps K H ds r
end
section
variable {K:PySem.W.Frag} {G H H':Hp}
theorem Rd.mono {a:Addr} {u:HO} (s:yL H H') (h:Rd H a u):Rd H' a u:=by
 rcases h with h | ⟨o,h⟩
 ·exact .inl (s _ _ h)
 ·exact .inr ⟨o,s _ _ h⟩
theorem vZ {a:Addr} {xs:List V} (s:yL H H') (h:yk K H a xs):yk K H' a xs:=by
 rcases h with h | h
 ·exact .inl (Rd.mono s h)
 ·exact .inr h
theorem vR {a:Addr} {xs:List V} (s:yL H H') (h:yT K H a xs):yT K H' a xs:=by
 rcases h with h | h
 ·exact .inl (Rd.mono s h)
 ·exact .inr h
theorem Reps.imp:∀ {ds:List D} {vs:List V},(∀ d∈ds,∀ v,zU K H d v->zU K H' d v)->Reps K H ds vs->Reps K H' ds vs
 | [],_,_,h=>h
 | d::ds,vs,f,h=>by
  obtain ⟨v,r,rfl,hv,hr⟩:=h
  exact ⟨v,r,rfl,f d List.mem_cons_self v hv,Reps.imp (fun d' m=>f d' (List.mem_cons_of_mem _ m)) hr⟩
theorem zU.mono (s:yL H H'):∀ {d:D} {v:V},zU K H d v->zU K H' d v:=fun {d}=>by
 refine D.ind (P:=fun d=>∀ v,zU K H d v->zU K H' d v) (fun v h=>h) (fun b v h=>h) (fun i v h=>h) (fun x v h=>h) ?_ ?_ ?_ ?_ ?_ d _
 ·rintro xs ih v ⟨a,vs,e,q,r,l⟩
  exact ⟨a,vs,e,vZ s q,Reps.imp ih r,l⟩
 ·rintro xs ih v ⟨a,vs,e,q,r,l⟩
  exact ⟨a,vs,e,vR s q,Reps.imp ih r,l⟩
 ·rintro ks xs ih v ⟨a,vs,e,q,z,r,l⟩
  exact ⟨a,vs,e,Rd.mono s q,z,Reps.imp ih r,l⟩
 ·rintro x v ⟨a,C,e,n,h⟩
  exact ⟨a,C,e,n,s _ _ h⟩
 ·rintro x fs xs ih v ⟨a,C,dx,vs,e,n,h,l,r⟩
  exact ⟨a,C,dx,vs,e,n,s _ _ h,l,Reps.imp ih r⟩
theorem Reps.mono (s:yL H H') {ds:List D} {vs:List V} (h:Reps K H ds vs):Reps K H' ds vs:=Reps.imp (fun _ _ _=>zU.mono s) h
theorem Reps.length:∀ {ds:List D} {vs:List V},Reps K H ds vs->vs.length=ds.length
 | [],_,h=>by cases (show _=[] from h); rfl
 | d::ds,_,h=>by
  obtain ⟨v,r,rfl,_,hr⟩:=h
  rw [List.length_cons,List.length_cons,Reps.length hr]
theorem Reps.get:∀ {ds:List D} {vs:List V} {i:Nat} {d:D},Reps K H ds vs->ds[i]?=some d->∃ v,vs[i]?=some v/\zU K H d v
 | [],_,_,_,_,e=>by cases e
 | d::ds,_,0,_,h,e=>by
  obtain ⟨v,r,rfl,hv,hr⟩:=h
  cases e
  exact ⟨v,rfl,hv⟩
 | d::ds,_,i+1,d',h,e=>by
  obtain ⟨v,r,rfl,hv,hr⟩:=h
  exact Reps.get (i:=i) hr (by simpa using e)
theorem Reps.at {ds:List D} {vs:List V} {i:Nat} {v:V} (h:Reps K H ds vs) (e:vs[i]?=some v):∃ d,ds[i]?=some d/\zU K H d v:=by
 have l:=h.length
 have hi:i<ds.length:=by rw [<- l]; exact (List.getElem?_eq_some_iff.mp e).1
 obtain ⟨v',e',r⟩:=h.get (List.getElem?_eq_getElem hi)
 rw [e] at e'
 cases e'
 exact ⟨_,List.getElem?_eq_getElem hi,r⟩
theorem Reps.append:∀ {ds es:List D} {vs us:List V},Reps K H ds vs->Reps K H es us->Reps K H (ds++es) (vs++us)
 | [],_,_,_,h,g=>by cases (show _=[] from h); exact g
 | d::ds,_,_,_,h,g=>by
  obtain ⟨v,r,rfl,hv,hr⟩:=h
  exact ⟨v,_,rfl,hv,Reps.append hr g⟩
theorem Reps.one {d:D} {v:V} (h:zU K H d v):Reps K H [d] [v]:=⟨v,[],rfl,h,rfl⟩
theorem Reps.take:∀ {ds:List D} {vs:List V} (n:Nat),Reps K H ds vs->Reps K H (ds.take n) (vs.take n)
 | _,_,0,_=>by rw [List.take_zero,List.take_zero]; rfl
 | [],_,n+1,h=>by cases (show _=[] from h); rfl
 | d::ds,_,n+1,h=>by
  obtain ⟨v,r,rfl,hv,hr⟩:=h
  exact ⟨v,_,rfl,hv,Reps.take n hr⟩
theorem Reps.drop:∀ {ds:List D} {vs:List V} (n:Nat),Reps K H ds vs->Reps K H (ds.drop n) (vs.drop n)
 | _,_,0,h=>h
 | [],_,n+1,h=>by cases (show _=[] from h); rfl
 | d::ds,_,n+1,h=>by
  obtain ⟨v,r,rfl,hv,hr⟩:=h
  exact Reps.drop n hr
theorem Reps.ints:∀ {ns:List Int},Reps K H (ns.map D.int) (ns.map V.int)
 | []=>rfl
 | n::ns=>⟨_,_,rfl,rfl,Reps.ints⟩
end
structure zP (G H G' H':Hp):Prop where
 g:yL G G'
 h:yL H H'
 gh:yL G' H'
 new:∀ p,G' p≠none->G p≠none\/H p=none
section
variable {G H G' H' G0 H0 G1 H1 G2 H2:Hp} {p:Addr} {o:HO}
theorem zP.refl (s:yL G H):zP G H G H:=⟨yL.refl _,yL.refl _,s,fun _ h=>.inl h⟩
theorem zP.trans (a:zP G H G1 H1) (b:zP G1 H1 G2 H2):zP G H G2 H2:=⟨a.g.trans b.g,a.h.trans b.h,b.gh,fun p h=>by
 rcases b.new p h with z | z
 ·exact a.new p z
 ·exact .inr (a.h.free z)⟩
theorem zP.rebase (a:zP G0 H0 G1 H1) (b:zP G1 H0 G2 H2):zP G0 H0 G2 H2:=⟨a.g.trans b.g,b.h,b.gh,fun p h=>by
 rcases b.new p h with z | z
 ·exact a.new p z
 ·exact .inr z⟩
theorem zP.far (a:zP G0 H0 G1 H1):zP G1 H0 G1 H1:=⟨yL.refl _,a.h,a.gh,fun _ h=>.inl h⟩
theorem Ig {H:Hp} {p q:Addr} {o:HO} (h:zZ H p o q≠none):q=p\/H q≠none:=by
 by_cases e:q=p
 ·exact .inl e
 ·rw [yj e] at h
  exact .inr h
theorem CG (s:yL G H):yL (zZ G p o) (zZ H p o):=fun b u e=>by
 by_cases hb:b=p
 ·subst hb
  rw [xK] at e ⊢
  exact e
 ·rw [yj hb] at e ⊢
  exact s _ _ e
theorem zP.lay (s:yL G H) (h:H p=none):zP G H (zZ G p o) (zZ H p o):=⟨wP (s.free h) o,wP h o,CG s,fun q z=>by
 rcases Ig z with e | e
 ·exact .inr (e ▸ h)
 ·exact .inl e⟩
theorem zP.layO (s:yL G H) (h:H p=none):zP G H G (zZ H p o):=⟨yL.refl _,wP h o,s.trans (wP h o),fun _ z=>.inl z⟩
theorem zP.frz (a:zP G H G1 H1) (h:H p=none) (g:G1 p=none) (e:H1 p=some o):zP G H (zZ G1 p o) H1:=⟨a.g.trans (wP g o),a.h,fun b u q=>by
 by_cases hb:b=p
 ·subst hb
  rw [xK] at q
  cases q
  exact e
 ·rw [yj hb] at q
  exact a.gh _ _ q,fun q z=>by
 rcases Ig z with w | w
 ·exact .inr (w ▸ h)
 ·exact a.new q w⟩
end
noncomputable def wY (K:PySem.W.Frag) (G H:Hp) (d:D) (p:Addr):Prop:=match d with
 | .lst ds=>∃ vs,H p=some (.lst vs)/\Reps K G ds vs/\ds.length<=sizeLine
 | .dic ks ds=>∃ vs,H p=some (.dK (ks.zip vs))/\ks.length=vs.length/\Reps K G ds vs/\ds.length<=sizeLine
 | _=>False
section
variable {K:PySem.W.Frag} {G H G' H':Hp} {d:D} {p:Addr}
theorem wY.some (h:wY K G H d p):H p≠none:=by
 cases d with
 | lst ds=>obtain ⟨vs,e,_⟩:=h; rw [e]; exact fun z=>nomatch z
 | dic ks ds=>obtain ⟨vs,e,_⟩:=h; rw [e]; exact fun z=>nomatch z
 | _=>exact h.elim
theorem wY.mono (g:yL G G') (h:yL H H') (o:wY K G H d p):wY K G' H' d p:=by
 cases d with
 | lst ds=>obtain ⟨vs,e,r,l⟩:=o; exact ⟨vs,h _ _ e,r.mono g,l⟩
 | dic ks ds=>obtain ⟨vs,e,z,r,l⟩:=o; exact ⟨vs,h _ _ e,z,r.mono g,l⟩
 | _=>exact o.elim
theorem wY.rep (s:yL G H) (o:wY K G H d p):zU K H d (.ref p):=by
 cases d with
 | lst ds=>obtain ⟨vs,e,r,l⟩:=o; exact ⟨p,vs,rfl,yT.of e,r.mono s,l⟩
 | dic ks ds=>obtain ⟨vs,e,z,r,l⟩:=o; exact ⟨p,vs,rfl,.inl e,z,r.mono s,l⟩
 | _=>exact o.elim
theorem wY.frz (o:wY K G H d p) (g:G p=none):∃ u,H p=Option.some u/\zU K (zZ G p u) d (.ref p):=by
 cases d with
 | lst ds=>obtain ⟨vs,e,r,l⟩:=o; exact ⟨_,e,p,vs,rfl,yT.of xK,r.mono (wP g _),l⟩
 | dic ks ds=>obtain ⟨vs,e,z,r,l⟩:=o; exact ⟨_,e,p,vs,rfl,.inl xK,z,r.mono (wP g _),l⟩
 | _=>exact o.elim
end
structure yB (K:PySem.W.Frag) (n:Nat) (G0 H0 G H:Hp) (τ:yD) (σ:St):Prop where
 ext:zP G0 H0 G H
 l1:σ.length=n
 l2:τ.length=n
 fr:∀ (i:Nat) (d:D),τ[i]?=some (some (false,d))->∃ v,σ[i]?=some (some v)/\zU K G d v
 ow:∀ (i:Nat) (d:D),τ[i]?=some (some (true,d))->∃ p,σ[i]?=some (some (V.ref p))/\G p=none/\H0 p=none/\wY K G H d p
 ap:∀ (i j:Nat) (d e:D) (p:Addr),i≠j->τ[i]?=some (some (true,d))->τ[j]?=some (some (true,e))->σ[i]?=some (some (V.ref p))->σ[j]?=some (some (V.ref p))->False
section
variable {K:PySem.W.Frag} {n:Nat} {G0 H0 G H G' H':Hp} {τ:yD} {σ:St}
theorem yB.go (E:yB K n G0 H0 G H τ σ) (x:zP G H G' H'):yB K n G0 H0 G' H' τ σ:=⟨E.ext.trans x,E.l1,E.l2,fun i d h=>by
 obtain ⟨v,e,r⟩:=E.fr i d h
 exact ⟨v,e,r.mono x.g⟩,fun i d h=>by
 obtain ⟨p,e,g,z,o⟩:=E.ow i d h
 refine ⟨p,e,?_,z,o.mono x.g x.h⟩
 cases q:G' p with
 | none=>rfl
 | some u=>
  rcases x.new p (by rw [q]; exact fun z=>nomatch z) with w | w
  ·exact absurd g w
  ·exact absurd w o.some,E.ap⟩
theorem yB.far (E:yB K n G0 H0 G H τ σ):yB K n G H0 G H τ σ:=⟨E.ext.far,E.l1,E.l2,E.fr,E.ow,E.ap⟩
theorem yB.near {Ga Ha:Hp} (a:zP G0 H0 Ga Ha) (E:yB K n Ga H0 G H τ σ):yB K n G0 H0 G H τ σ:=⟨a.rebase E.ext,E.l1,E.l2,E.fr,E.ow,E.ap⟩
theorem yB.lt {i:Nat} {s:Option Sl} (E:yB K n G0 H0 G H τ σ) (h:τ[i]?=some s):i<n:=by
 rw [<- E.l2]
 exact (List.getElem?_eq_some_iff.mp h).1
theorem vB {α:Type} {xs:List α} {i j:Nat} {x y:α} (h:(xs.set i x)[j]?=some y):(j=i/\y=x)\/(j≠i/\xs[j]?=some y):=by
 rw [List.getElem?_set] at h
 by_cases e:i=j
 ·subst e
  rw [if_pos rfl] at h
  split at h
  ·cases h; exact .inl ⟨rfl,rfl⟩
  ·cases h
 ·rw [if_neg e] at h
  exact .inr ⟨fun z=>e z.symm,h⟩
theorem gY {α:Type} {xs:List α} {i:Nat} {x:α} (h:i<xs.length):(xs.set i x)[i]?=some x:=by rw [List.getElem?_set,if_pos rfl,if_pos h]
theorem uU {α:Type} {xs:List α} {i j:Nat} {x:α} (h:j≠i):(xs.set i x)[j]?=xs[j]?:=by rw [List.getElem?_set,if_neg (fun z=>h z.symm)]
theorem yB.set {i:Nat} {d:D} {v:V} (E:yB K n G0 H0 G H τ σ) (hi:i<n) (r:zU K G d v):yB K n G0 H0 G H (τ.set i (some (false,d))) (σ.set i (some v)):=⟨E.ext,by rw [List.length_set]; exact E.l1,by rw [List.length_set]; exact E.l2,fun j e h=>by
 rcases vB h with ⟨rfl,z⟩ | ⟨ne,z⟩
 ·cases z
  exact ⟨v,gY (by rw [E.l1]; exact hi),r⟩
 ·rw [uU ne]
  exact E.fr j e z,fun j e h=>by
 rcases vB h with ⟨rfl,z⟩ | ⟨ne,z⟩
 ·cases z
 ·rw [uU ne]
  exact E.ow j e z,fun j k e f p hne h1 h2=>by
 rcases vB h1 with ⟨rfl,z⟩ | ⟨ne,z⟩
 ·cases z
 ·rcases vB h2 with ⟨rfl,z'⟩ | ⟨ne',z'⟩
  ·cases z'
  ·rw [uU ne,uU ne']
   exact E.ap j k e f p hne z z'⟩
theorem yB.setO {i:Nat} {d:D} {p:Addr} (E:yB K n G0 H0 G H τ σ) (hi:i<n) (hg:G p=none) (h0:H0 p=none) (o:wY K G H d p) (hn:∀ (j:Nat) (e:D),j≠i->τ[j]?=some (some (true,e))->σ[j]?=some (some (V.ref p))->False) :
  yB K n G0 H0 G H (τ.set i (some (true,d))) (σ.set i (some (.ref p))):=⟨E.ext,by rw [List.length_set]; exact E.l1,by rw [List.length_set]; exact E.l2,fun j e h=>by
 rcases vB h with ⟨rfl,z⟩ | ⟨ne,z⟩
 ·cases z
 ·rw [uU ne]
  exact E.fr j e z,fun j e h=>by
 rcases vB h with ⟨rfl,z⟩ | ⟨ne,z⟩
 ·cases z
  exact ⟨p,gY (by rw [E.l1]; exact hi),hg,h0,o⟩
 ·rw [uU ne]
  exact E.ow j e z,fun j k e f q hne h1 h2 h3 h4=>by
 rcases vB h1 with ⟨rfl,z⟩ | ⟨ne,z⟩
 ·rcases vB h2 with ⟨rfl,z'⟩ | ⟨ne',z'⟩
  ·exact hne rfl
  ·rw [gY (by rw [E.l1]; exact hi)] at h3
   rw [uU ne'] at h4
   cases h3
   exact hn k f ne' z' h4
 ·rcases vB h2 with ⟨rfl,z'⟩ | ⟨ne',z'⟩
  ·rw [gY (by rw [E.l1]; exact hi)] at h4
   rw [uU ne] at h3
   cases h4
   exact hn j e ne z h3
  ·rw [uU ne] at h3
   rw [uU ne'] at h4
   exact E.ap j k e f q hne z z' h3 h4⟩
theorem yB.newO {i:Nat} {p:Addr} (E:yB K n G0 H0 G H τ σ) (hp:H p=none):∀ (j:Nat) (e:D),j≠i->τ[j]?=some (some (true,e))->σ[j]?=some (some (V.ref p))->False:=fun j e _ h1 h2=>by
 obtain ⟨q,e1,_,_,o⟩:=E.ow j e h1
 rw [h2] at e1
 cases e1
 exact o.some hp
theorem yB.freeze {i:Nat} {b:Bool} {d:D} (E:yB K n G0 H0 G H τ σ) (hi:τ[i]?=some (some (b,d))):∃ G',yB K n G0 H0 G' H (τ.set i (some (false,d))) σ/\yL G G':=by
 have hin:=E.lt hi
 cases b with
 | false=>
  refine ⟨G,?_,yL.refl _⟩
  have e:τ.set i (some (false,d))=τ:=by
   apply List.ext_getElem?
   intro j
   by_cases hj:j=i
   ·subst hj; rw [gY (by rw [E.l2]; exact hin),hi]
   ·rw [uU hj]
  rw [e]
  exact E
 | true=>
  obtain ⟨p,e,g,z,o⟩:=E.ow i d hi
  obtain ⟨u,hu,r⟩:=o.frz g
  have x:zP G0 H0 (zZ G p u) H:=E.ext.frz z g hu
  refine ⟨zZ G p u,⟨x,E.l1,by rw [List.length_set]; exact E.l2,fun j d' h=>?_,fun j d' h=>?_,fun j k e1 f q hne h1 h2=>?_⟩,wP g _⟩
  ·rcases vB h with ⟨rfl,w⟩ | ⟨ne,w⟩
   ·cases w
    exact ⟨_,e,r⟩
   ·obtain ⟨v,e',r'⟩:=E.fr j d' w
    exact ⟨v,e',r'.mono (wP g _)⟩
  ·rcases vB h with ⟨rfl,w⟩ | ⟨ne,w⟩
   ·cases w
   ·obtain ⟨q,e',g',z',o'⟩:=E.ow j d' w
    refine ⟨q,e',?_,z',o'.mono (wP g _) (yL.refl _)⟩
    rw [yj (fun c=>?_)]
    ·exact g'
    ·subst c
     exact E.ap i j d d' q (fun c=>ne c.symm) hi w e e'
  ·rcases vB h1 with ⟨rfl,w⟩ | ⟨ne,w⟩
   ·cases w
   ·rcases vB h2 with ⟨rfl,w'⟩ | ⟨ne',w'⟩
    ·cases w'
    ·exact E.ap j k e1 f q hne w w'
end
section
variable (X:Cx)
structure SE (e:Expr) (f:FE):Prop where
 h:∃ t,PE X e t/\∀ {G0 H0 G H:Hp} {τ:yD} {σ:St} {d:D} {Q:VK},yB X.K X.N.length G0 H0 G H τ σ->f τ=some d->(∀ v G' H',zP G H G' H'->zU X.K G' d v->Q v H')->t σ H Q
structure SB (e:Expr) (f:FE):Prop where
 h:∃ t,PE X e t/\∀ {G0 H0 G H:Hp} {τ:yD} {σ:St} {d:D} {Q:VK},yB X.K X.N.length G0 H0 G H τ σ->f τ=some d->(∀ v G' H',zP G H G' H'->zU X.K H' d v->Q v H')->t σ H Q
structure SF (e:Expr) (f:FE):Prop where
 h:∃ t,PE X e t/\∀ {G0 H0 G H:Hp} {τ:yD} {σ:St} {d:D} {Q:VK},yB X.K X.N.length G0 H0 G H τ σ->f τ=some d->(∀ p G' H',zP G H G' H'->H p=none->G' p=none->wY X.K G' H' d p->Q (.ref p) H')->t σ H Q
structure ST (e:Expr) (f:FT):Prop where
 h:∃ t,PT X e t/\∀ {G0 H0 G H:Hp} {τ:yD} {σ:St} {d:Bool} {Q:Bool->Hp->Prop},yB X.K X.N.length G0 H0 G H τ σ->f τ=some d->(∀ G' H',zP G H G' H'->Q d H')->t σ H Q
structure SW (e:Expr) (f:FT):Prop where
 h:∃ t,PW X e t/\∀ {G0 H0 G H:Hp} {τ:yD} {σ:St} {d:Bool} {Q:Bool->Hp->Prop},yB X.K X.N.length G0 H0 G H τ σ->f τ=some d->(∀ G' H',zP G H G' H'->Q d H')->t σ H Q
structure SA (es:List Expr) (f:FA):Prop where
 h:∃ t,PA X es t/\∀ {G0 H0 G H:Hp} {τ:yD} {σ:St} {ds:List D} {Q:List V->Hp->Prop},yB X.K X.N.length G0 H0 G H τ σ->f τ=some ds->(∀ vs G' H',zP G H G' H'->Reps X.K G' ds vs->Q vs H')->t σ H Q
structure gH (es:List Expr) (f:FA):Prop where
 h:∃ t,PA X es t/\∀ {G0 H0 G H:Hp} {τ:yD} {σ:St} {ds:List D} {Q:List V->Hp->Prop},yB X.K X.N.length G0 H0 G H τ σ->f τ=some ds->(∀ vs G' H',zP G H G' H'->Reps X.K H' ds vs->Q vs H')->t σ H Q
end
noncomputable def wR (K:PySem.W.Frag) (n:Nat) (G0 H0:Hp) (E:vc):Fl->Prop
 | .nx τ=>∀ σ G H,yB K n G0 H0 G H τ σ->E.nx σ H
 | .bk τ=>∀ σ G H,yB K n G0 H0 G H τ σ->E.bk σ H
 | .ct τ=>∀ σ G H,yB K n G0 H0 G H τ σ->E.ct σ H
 | .rt false d=>∀ v G H,zP G0 H0 G H->zU K G d v->E.rt v H
 | .rt true d=>∀ p G H,zP G0 H0 G H->H0 p=none->G p=none->wY K G H d p->E.rt (.ref p) H
section
variable (X:Cx)
structure SS (st:Stmt) (f:FS):Prop where
 h:∃ t,PS X st t/\∀ {G0 H0 G H:Hp} {τ:yD} {σ:St} {fl:Fl} {E:vc},yB X.K X.N.length G0 H0 G H τ σ->f τ=some fl->wR X.K X.N.length G0 H0 E fl->t E σ H
structure wc (st:List Stmt) (f:FS):Prop where
 h:∃ t,wZ X st t/\∀ {G0 H0 G H:Hp} {τ:yD} {σ:St} {fl:Fl} {E:vc},yB X.K X.N.length G0 H0 G H τ σ->f τ=some fl->wR X.K X.N.length G0 H0 E fl->t E σ H
end
structure qL (K:PySem.W.Frag) (J:It) (G:Hp) (ds:List D):Prop where
 go:∀ i G2 H,yL G G2->yL G2 H->i<ds.length->J.go i H
 yld:∀ i G2 H x H',yL G G2->yL G2 H->i<ds.length->J.yld i H x H'->∃ G3 d,zP G2 H G3 H'/\ds[i]?=some d/\zU K G3 d x
 stop:∀ i G2 H,yL G G2->yL G2 H->ds.length<=i->J.stop i H
structure SI (X:Cx) (tg iter:Expr) (f:FA):Prop where
 h:∃ wi,PI X tg iter wi/\∀ {G0 H0 G H:Hp} {τ:yD} {σ:St} {ds:List D} {R:It->Hp->Prop},yB X.K X.N.length G0 H0 G H τ σ->f τ=some ds->(∀ J G' H',zP G H G' H'->ds.length<=sizeLine->qL X.K J G' ds->R J H')->wi σ H R
noncomputable def yY (K:PySem.W.Frag) (F:List D->Option (Bool×D)):Sp:=fun vs H Q _=>∃ G ds o d,yL G H/\Reps K G ds vs/\F ds=some (o,d)/\
 match o with
 | false=>∀ v G' H',zP G H G' H'->zU K G' d v->Q v H'
 | true=>∀ p G' H',zP G H G' H'->H p=none->G' p=none->wY K G' H' d p->Q (.ref p) H'
end L3
namespace L3
open PySem PySem.Spec PyProof.Rows L2
theorem zM {α β:Type} {o:Option α} {f:α->Option β} {b:β} (h:o.bind f=some b):∃ a,o=some a/\f a=some b:=by
 cases o with
 | none=>cases h
 | some a=>exact ⟨a,rfl,h⟩
theorem L4 {i:Nat} {τ:yD} {d:D} (h:z8 i τ=some d):τ[i]?=some (some (false,d)):=by
 unfold z8 at h
 split at h
 ·rename_i e
  cases h
  exact e
 ·cases h
theorem Tj {i:Nat} {τ:yD} {d:D} (h:wz i τ=some d):∃ b,τ[i]?=some (some (b,d)):=by
 unfold wz at h
 split at h
 ·rename_i b d' e
  cases h
  exact ⟨_,e⟩
 ·cases h
section
variable {X:Cx} {x:Str} {p pos apos cpos p2:Pos} {e a b c o:Expr} {es yC:List Expr} {f fa fb fc:FE} {ft fu:FT} {fs:FA} {F:D->D->Option D} {r:R2}
theorem SE.sb (h:SE X e f):SB X e f:=⟨let ⟨t,p,k⟩:=h.h; ⟨t,p,fun E hf q=>k E hf fun v G' H' x r=>q v G' H' x (r.mono x.gh)⟩⟩
theorem SF.se (h:SF X e f):SE X e f:=⟨let ⟨t,p,k⟩:=h.h; ⟨t,p,fun E hf q=>k E hf fun p G' H' x hp gp o=>by
 obtain ⟨u,hu,r⟩:=o.frz gp
 exact q _ _ _ (x.frz hp gp hu) r⟩⟩
theorem zE (h:SE X e f):SB X e f:=h.sb
theorem yH (h:SF X e f):SE X e f:=h.se
theorem zA (i:Nat) {x:Str} {pos:Pos} (hN:X.N[i]?=some x:=by rfl) (hv:p6 X.env.scope x:=by first | exact Or.inl rfl | exact Or.inr (Or.inl rfl) | exact Or.inr (Or.inr rfl)) (hd:(x == ("__debug__" : Str))=false:=by decide)
  (hcd:(x == ("__classdict__" : Str))=false:=by decide):SE X (.Name x pos) (z8 i):=⟨⟨_,k7 hN hv hd hcd,fun E hf q=>by
 obtain ⟨v,e,r⟩:=E.fr _ _ (L4 hf)
 exact ⟨v,e,q v _ _ (zP.refl E.ext.gh) r⟩⟩⟩
theorem pP (i:Nat) {x:Str} {pos:Pos} (hN:X.N[i]?=some x:=by rfl) (hv:p6 X.env.scope x:=by first | exact Or.inl rfl | exact Or.inr (Or.inl rfl) | exact Or.inr (Or.inr rfl)) (hd:(x == ("__debug__" : Str))=false:=by decide)
  (hcd:(x == ("__classdict__" : Str))=false:=by decide):SB X (.Name x pos) (wz i):=⟨⟨_,k7 hN hv hd hcd,fun E hf q=>by
 obtain ⟨b,hb⟩:=Tj hf
 cases b with
 | false=>
  obtain ⟨v,e,r⟩:=E.fr _ _ hb
  exact ⟨v,e,q v _ _ (zP.refl E.ext.gh) (r.mono E.ext.gh)⟩
 | true=>
  obtain ⟨p,e,_,_,o⟩:=E.ow _ _ hb
  exact ⟨_,e,q _ _ _ (zP.refl E.ext.gh) (o.rep E.ext.gh)⟩⟩⟩
theorem kH {v:V} {d:D} (h:PE X e (tC v)) (r:∀ H,zU X.K H d v):SE X e (eC d):=⟨⟨_,h,fun E hf q=>by
 cases hf
 exact q v _ _ (zP.refl E.ext.gh) (r _)⟩⟩
theorem zG {i k pos}:SE X (.Constant (.int i) k pos) (eC (.int i)):=kH J0 fun _=>rfl
theorem vX {i k pos}:SE X (.Constant (.bool i) k pos) (eC (.bl i)):=kH DS fun _=>rfl
theorem vY {k pos}:SE X (.Constant .none k pos) (eC .non):=kH Di fun _=>rfl
theorem zF {x k pos} (h:x.length<=1000:=by decide):SE X (.Constant (.str x) k pos) (eC (.str x)):=kH J5 fun _=>⟨rfl,zW h⟩
theorem je {v:V} {d:D} (h:xf X.mg x v) (r:∀ H,zU X.K H d v) (hg:Gl X x) (hd:(x == ("__debug__" : Str))=false:=by decide):SE X (.Name x pos) (eC d):=kH (Zx h hg hd) r
noncomputable def vG (K:PySem.W.Frag) (r:R2) (F:D->D->Option D):Prop:=∀ G H x y u v d (Q:VK),yL G H->zU K G x u->zU K G y v->F x y=some d->(∀ w G' H',zP G H G' H'->zU K G' d w->Q w H')->r u v H Q
noncomputable def uf (K:PySem.W.Frag) (r:R2) (F:D->D->Option D):Prop:=∀ H x y u v d (Q:VK),zU K H x u->zU K H y v->F x y=some d->∃ k,d=.bl k/\(Q (.bl k) H->r u v H Q)
theorem zS {op:Operator} (ho:yU X (binaryOp op) r) (hF:vG X.K r F) (ha:SE X a fa) (hb:SE X b fb):SE X (.BinOp a op b pos) (e2 F fa fb):=by
 obtain ⟨ta,pa,ka⟩:=ha.h
 obtain ⟨tb,pb,kb⟩:=hb.h
 refine ⟨⟨_,Dl ho pa pb,fun E hf q=>?_⟩⟩
 obtain ⟨x,hx,hf⟩:=zM hf
 obtain ⟨y,hy,hf⟩:=zM hf
 refine ka E hx fun v G1 H1 x1 r1=>?_
 refine kb (E.go x1) hy fun u G2 H2 x2 r2=>?_
 exact hF G2 H2 x y v u _ _ x2.gh (r1.mono x2.g) r2 hf fun w G' H' x3 r3=>q w G' H' (x1.trans (x2.trans x3)) r3
theorem zr (hr:vf X r) (hF:vG X.K r F) (ha:SE X a fa) (hb:SE X b fb) (hs:jW b=true:=by rfl):SE X (.Subscript a b pos) (e2 F fa fb):=by
 obtain ⟨ta,pa,ka⟩:=ha.h
 obtain ⟨tb,pb,kb⟩:=hb.h
 refine ⟨⟨_,V1 hr pa pb (Zy hs),fun E hf q=>?_⟩⟩
 obtain ⟨x,hx,hf⟩:=zM hf
 obtain ⟨y,hy,hf⟩:=zM hf
 refine ka E hx fun v G1 H1 x1 r1=>?_
 refine kb (E.go x1) hy fun u G2 H2 x2 r2=>?_
 exact hF G2 H2 x y v u _ _ x2.gh (r1.mono x2.g) r2 hf fun w G' H' x3 r3=>q w G' H' (x1.trans (x2.trans x3)) r3
theorem wU {op:CmpOp} (ho:yU X (compareOp op) r) (hF:uf X.K r F) (ha:SB X a fa) (hb:SB X b fb) (hm:behindInMarks op b=false):SE X (.Compare a [op] [b] pos) (e2 F fa fb):=by
 obtain ⟨ta,pa,ka⟩:=ha.h
 obtain ⟨tb,pb,kb⟩:=hb.h
 refine ⟨⟨_,Db ho pa pb hm,fun E hf q=>?_⟩⟩
 obtain ⟨x,hx,hf⟩:=zM hf
 obtain ⟨y,hy,hf⟩:=zM hf
 refine ka E hx fun v G1 H1 x1 r1=>?_
 refine kb (E.go x1) hy fun u G2 H2 x2 r2=>?_
 obtain ⟨k,rfl,z⟩:=hF H2 x y v u _ _ (r1.mono x2.h) r2 hf
 exact z (q _ _ _ (x1.trans x2) rfl)
theorem zg {op:CmpOp} (ho:yU X (compareOp op) r) (hF:uf X.K r F) (ha:SB X a fa) (hb:SB X b fb) (hm:behindInMarks op b=false):ST X (.Compare a [op] [b] pos) (tE (e2 F fa fb)):=by
 obtain ⟨ta,pa,ka⟩:=ha.h
 obtain ⟨tb,pb,kb⟩:=hb.h
 refine ⟨⟨_,JD ho pa pb hm,fun E hf q=>?_⟩⟩
 obtain ⟨z,hz,hf⟩:=zM hf
 obtain ⟨x,hx,hz⟩:=zM hz
 obtain ⟨y,hy,hz⟩:=zM hz
 refine ka E hx fun v G1 H1 x1 r1=>?_
 refine kb (E.go x1) hy fun u G2 H2 x2 r2=>?_
 obtain ⟨k,rfl,z⟩:=hF H2 x y v u _ _ (r1.mono x2.h) r2 hz
 cases hf
 exact z ⟨_,rfl,q _ _ (x1.trans x2)⟩
theorem xc (h:SE X e f) (he:J7 e=true:=by rfl):ST X e (tE f):=by
 obtain ⟨t,p,k⟩:=h.h
 refine ⟨⟨_,FZ p (F7 he),fun E hf q=>?_⟩⟩
 obtain ⟨z,hz,hf⟩:=zM hf
 refine k E hz fun v G' H' x r=>?_
 cases z<;>first | cases hf | skip
 cases r
 exact ⟨_,rfl,q _ _ x⟩
theorem uH (h:ST X a ft):SW X (.BoolOp .And [a] pos) ft:=⟨let ⟨t,p,k⟩:=h.h; ⟨t,Ff p,k⟩⟩
theorem uy (h:ST X a ft):SW X (.BoolOp .Or [a] pos) ft:=⟨let ⟨t,p,k⟩:=h.h; ⟨t,Fh p,k⟩⟩
theorem vS (ha:ST X a ft) (hb:SW X (.BoolOp .And (b::yC) pos) fu):SW X (.BoolOp .And (a::b::yC) pos) (xT ft fu):=by
 obtain ⟨ta,pa,ka⟩:=ha.h
 obtain ⟨tb,pb,kb⟩:=hb.h
 refine ⟨⟨_,Fe pa pb,fun E hf q=>?_⟩⟩
 obtain ⟨k,hk,hf⟩:=zM hf
 refine ka E hk fun G1 H1 x1=>?_
 cases k with
 | true=>exact pG (kb (E.go x1) hf fun G' H' x2=>q _ _ (x1.trans x2))
 | false=>cases hf; exact pF (q _ _ x1)
theorem uI (ha:ST X a ft) (hb:SW X (.BoolOp .Or (b::yC) pos) fu):SW X (.BoolOp .Or (a::b::yC) pos) (vb ft fu):=by
 obtain ⟨ta,pa,ka⟩:=ha.h
 obtain ⟨tb,pb,kb⟩:=hb.h
 refine ⟨⟨_,Fg pa pb,fun E hf q=>?_⟩⟩
 obtain ⟨k,hk,hf⟩:=zM hf
 refine ka E hk fun G1 H1 x1=>?_
 cases k with
 | false=>exact pF (kb (E.go x1) hf fun G' H' x2=>q _ _ (x1.trans x2))
 | true=>cases hf; exact pG (q _ _ x1)
theorem w6 (h:SW X e ft):ST X e ft:=⟨let ⟨t,p,k⟩:=h.h; ⟨t,p.pt,k⟩⟩
theorem qm (h:ST X a ft):ST X (.UnaryOp .Not a pos) (uJ ft):=by
 obtain ⟨ta,pa,ka⟩:=h.h
 refine ⟨⟨_,FY pa,fun E hf q=>?_⟩⟩
 obtain ⟨k,hk,hf⟩:=zM hf
 cases hf
 exact ka E hk fun G1 H1 x1=>q _ _ x1
theorem jg {op} (h:SE X a f):SE X (.BoolOp op [a] pos) f:=⟨let ⟨t,p,k⟩:=h.h; ⟨t,Dk p,k⟩⟩
theorem Jb {K:PySem.W.Frag} {G:Hp} {z:D} {v:V} {k:Bool} (r:zU K G z v) (h:j7 z=some k):v=.bl k:=by
 cases z<;>first | cases h | skip
 exact r
theorem pS (ha:SE X a fa) (hb:SE X (.BoolOp .And (b::yC) pos) fb):SE X (.BoolOp .And (a::b::yC) pos) (ul fa fb):=by
 obtain ⟨ta,pa,ka⟩:=ha.h
 obtain ⟨tb,pb,kb⟩:=hb.h
 refine ⟨⟨_,DR pa pb,fun E hf q=>?_⟩⟩
 obtain ⟨z,hz,hf⟩:=zM hf
 obtain ⟨k,hk,hf⟩:=zM hf
 refine ka E hz fun v G1 H1 x1 r1=>⟨k,Jb r1 hk,?_⟩
 cases k with
 | true=>exact pG (kb (E.go x1) hf fun v G' H' x2 r2=>q v _ _ (x1.trans x2) r2)
 | false=>cases hf; exact pF (q _ _ _ x1 rfl)
theorem Ch (ha:SE X a fa):SE X (.UnaryOp .Not a pos) (W9 fa):=by
 obtain ⟨ta,pa,ka⟩:=ha.h
 refine ⟨⟨_,Dj pa,fun E hf q=>?_⟩⟩
 obtain ⟨z,hz,hf⟩:=zM hf
 obtain ⟨k,hk,hf⟩:=zM hf
 cases hf
 exact ka E hz fun v G1 H1 x1 r1=>⟨k,Jb r1 hk,q _ _ _ x1 rfl⟩
theorem U5 (hc:ST X c ft) (ha:SE X a fa) (hb:SE X b fb):SE X (.IfExp c a b pos) (gR ft fa fb):=by
 obtain ⟨tc,pc,kc⟩:=hc.h
 obtain ⟨ta,pa,ka⟩:=ha.h
 obtain ⟨tb,pb,kb⟩:=hb.h
 refine ⟨⟨_,Df pc pa pb,fun E hf q=>?_⟩⟩
 obtain ⟨k,hk,hf⟩:=zM hf
 refine kc E hk fun G1 H1 x1=>?_
 cases k with
 | true=>exact pG (ka (E.go x1) hf fun v G' H' x2 r2=>q v _ _ (x1.trans x2) r2)
 | false=>exact pF (kb (E.go x1) hf fun v G' H' x2 r2=>q v _ _ (x1.trans x2) r2)
theorem zK:SA X [] zD:=⟨⟨_,Zv,fun E hf q=>by cases hf; exact q _ _ _ (zP.refl E.ext.gh) rfl⟩⟩
theorem zB (ha:SE X e f) (hr:SA X es fs) (h:ya e=true:=by rfl):SA X (e::es) (z7 f fs):=by
 obtain ⟨ta,pa,ka⟩:=ha.h
 obtain ⟨tb,pb,kb⟩:=hr.h
 refine ⟨⟨_,Zw pa pb h,fun E hf q=>?_⟩⟩
 obtain ⟨x,hx,hf⟩:=zM hf
 obtain ⟨xs,hxs,hf⟩:=zM hf
 cases hf
 refine ka E hx fun v G1 H1 x1 r1=>kb (E.go x1) hxs fun vs G2 H2 x2 r2=>?_
 exact q _ _ _ (x1.trans x2) ⟨v,vs,rfl,r1.mono x2.g,r2⟩
theorem yX:gH X [] zD:=⟨⟨_,Zv,fun E hf q=>by cases hf; exact q _ _ _ (zP.refl E.ext.gh) rfl⟩⟩
theorem yW (ha:SB X e f) (hr:gH X es fs) (h:ya e=true:=by rfl):gH X (e::es) (z7 f fs):=by
 obtain ⟨ta,pa,ka⟩:=ha.h
 obtain ⟨tb,pb,kb⟩:=hr.h
 refine ⟨⟨_,Zw pa pb h,fun E hf q=>?_⟩⟩
 obtain ⟨x,hx,hf⟩:=zM hf
 obtain ⟨xs,hxs,hf⟩:=zM hf
 cases hf
 refine ka E hx fun v G1 H1 x1 r1=>kb (E.go x1) hxs fun vs G2 H2 x2 r2=>?_
 exact q _ _ _ (x1.trans x2) ⟨v,vs,rfl,r1.mono x2.h,r2⟩
theorem Y9 {is:List Int} (h:gj es=some is):SA X es (fun _=>some (is.map D.int)):=⟨⟨_,Qx h,fun E hf q=>by cases hf; exact q _ _ _ (zP.refl E.ext.gh) Reps.ints⟩⟩
theorem YE {x1} (h:SA X es fs) (hl:∀ τ ds,fs τ=some ds->ds.length<=1000):SE X (.Tuple es x1 pos) (qR fs):=by
 obtain ⟨t,pt,k⟩:=h.h
 refine ⟨⟨_,Dn pt,fun E hf q=>?_⟩⟩
 obtain ⟨xs,hx,hf⟩:=zM hf
 cases hf
 have l:xs.length<=sizeLine:=zW (hl _ _ hx)
 refine k E hx fun vs G1 H1 x1 r1=>⟨by rw [r1.length]; exact l,fun p hp=>?_⟩
 exact q _ _ _ (x1.trans (zP.lay x1.gh hp)) ⟨p,vs,rfl,yk.of xK,r1.mono (wP (x1.gh.free hp) _),l⟩
theorem yP (h:SA X es fs) (hl:∀ τ ds,fs τ=some ds->ds.length<=1000):SF X (.List es pos) (zu fs):=by
 obtain ⟨t,pt,k⟩:=h.h
 refine ⟨⟨_,Dh pt,fun E hf q=>?_⟩⟩
 obtain ⟨xs,hx,hf⟩:=zM hf
 cases hf
 have l:xs.length<=sizeLine:=zW (hl _ _ hx)
 refine k E hx fun vs G1 H1 x1 r1=>⟨by rw [r1.length]; exact l,fun p hp=>?_⟩
 exact q _ _ _ (x1.trans (zP.layO x1.gh hp)) (x1.h.free hp) (x1.gh.free hp) ⟨vs,xK,r1,l⟩
theorem yN:∀ (τ:yD) ds,zD τ=some ds->ds.length<=0:=fun _ _ h=>by cases h; exact Nat.le_refl _
theorem zJ {n:Nat} (h:∀ τ ds,fs τ=some ds->ds.length<=n):∀ τ ds,z7 f fs τ=some ds->ds.length<=n+1:=fun τ ds e=>by
 obtain ⟨x,_,e⟩:=zM e
 obtain ⟨xs,hx,e⟩:=zM e
 cases e
 exact Nat.succ_le_succ (h _ _ hx)
theorem Z2 {is:List Int} {n:Nat} (h:is.length<=n):∀ (τ:yD) ds,(some (is.map D.int))=some ds->ds.length<=n:=fun _ _ e=>by
 cases e
 rw [List.length_map]
 exact h
theorem yK {m n:Nat} (h:∀ τ ds,fs τ=some ds->ds.length<=m) (hmn:m<=n):∀ τ ds,fs τ=some ds->ds.length<=n:=fun τ ds e=>Nat.le_trans (h τ ds e) hmn
variable {ps:List Str} {j k:Nat} {FF:List D->Option (Bool×D)} {FL:List D->Option D} {id T:String}
theorem Cn (h:yZ X.prog X.w X.K X.mg X.base x ps k (yY X.K FF)) (hr:xB j X.A) (hg:Gl X x) (ha:SA X (e::es) fs) (hk:k<=j:=by decide) (hdb:(x == ("__debug__" : Str))=false:=by decide)
  (he:(e::es).all ya=true:=by rfl):SF X (.Call (.Name x p) (e::es) [] pos) (ZH FF fs):=by
 obtain ⟨t,pt,kt⟩:=ha.h
 refine ⟨⟨_,J1 h hr hg pt hk hdb he,fun E hf q=>?_⟩⟩
 obtain ⟨ds,hd,hf⟩:=zM hf
 obtain ⟨⟨o,d⟩,hr,hf⟩:=zM hf
 cases o with
 | false=>cases hf
 | true=>
  cases hf
  refine kt E hd fun vs G1 H1 x1 r1=>⟨G1,ds,true,_,x1.gh,by rw [List.append_nil]; exact r1,hr,fun p G' H' x2 hp gp o=>?_⟩
  exact q p G' H' (x1.trans x2) (x1.h.free hp) gp o
theorem ze (h:yZ X.prog X.w X.K X.mg X.base x ps k (yY X.K FF)) (hr:xB j X.A) (hg:Gl X x) (ha:SA X (e::es) fs) (hk:k<=j:=by decide) (hdb:(x == ("__debug__" : Str))=false:=by decide)
  (he:(e::es).all ya=true:=by rfl):SE X (.Call (.Name x p) (e::es) [] pos) (zR FF fs):=by
 obtain ⟨t,pt,kt⟩:=ha.h
 refine ⟨⟨_,J1 h hr hg pt hk hdb he,fun E hf q=>?_⟩⟩
 obtain ⟨ds,hd,hf⟩:=zM hf
 obtain ⟨⟨o,d⟩,hr,hf⟩:=zM hf
 cases hf
 refine kt E hd fun vs G1 H1 x1 r1=>⟨G1,ds,o,d,x1.gh,by rw [List.append_nil]; exact r1,hr,?_⟩
 cases o with
 | false=>exact fun v G' H' x2 r=>q v G' H' (x1.trans x2) r
 | true=>
  intro p G' H' x2 hp gp o
  obtain ⟨u,hu,r⟩:=o.frz gp
  exact q _ _ _ (x1.trans (x2.frz hp gp hu)) r
noncomputable def j0 (K:PySem.W.Frag) (r:List V->Hp->VK->Prop) (F:List D->Option D):Prop:=∀ G H ds vs d (Q:VK),yL G H->Reps K H ds vs->F ds=some d->(∀ w G' H',zP G H G' H'->zU K G' d w->Q w H')->r vs H Q
noncomputable def Uk (K:PySem.W.Frag) (r:List V->Hp->VK->Prop) (F:List D->Option D):Prop:=∀ G H ds vs d (Q:VK),yL G H->Reps K G ds vs->F ds=some d->(∀ w G' H',zP G H G' H'->zU K G' d w->Q w H')->r vs H Q
theorem yg {rc:List V->Hp->VK->Prop} (hc:xr X (.builtin id) rc) (hF:j0 X.K rc FL) (hg:Gl X x) (hm:X.mg x=none) (hv:bootBuiltins x=some (.builtin id)) (ha:gH X (e::es) fs) (hn:x ≠ "__name__" := by decide) (hdb:(x == ("__debug__" : Str))=false:=by decide)
  (he:(e::es).all ya=true:=by rfl):SE X (.Call (.Name x p) (e::es) [] pos) (eL FL fs):=by
 obtain ⟨t,pt,kt⟩:=ha.h
 refine ⟨⟨_,(Zz hc hg hm hv ⟨pt⟩ hn hdb he).h,fun E hf q=>?_⟩⟩
 obtain ⟨ds,hd,hf⟩:=zM hf
 exact kt E hd fun vs G1 H1 x1 r1=>hF G1 H1 ds vs _ _ x1.gh r1 hf fun w G' H' x2 r2=>q w G' H' (x1.trans x2) r2
theorem U4 {rc:List V->Hp->VK->Prop} (hc:xr X (.type T) rc) (hF:j0 X.K rc FL) (hg:Gl X x) (hm:X.mg x=none) (hv:bootBuiltins x=some (.type T)) (ha:gH X (e::es) fs) (hn:x ≠ "__name__" := by decide) (hdb:(x == ("__debug__" : Str))=false:=by decide)
  (he:(e::es).all ya=true:=by rfl):SE X (.Call (.Name x p) (e::es) [] pos) (eL FL fs):=by
 obtain ⟨t,pt,kt⟩:=ha.h
 refine ⟨⟨_,(V8 hc hg hm hv ⟨pt⟩ hn hdb he).h,fun E hf q=>?_⟩⟩
 obtain ⟨ds,hd,hf⟩:=zM hf
 exact kt E hd fun vs G1 H1 x1 r1=>hF G1 H1 ds vs _ _ x1.gh r1 hf fun w G' H' x2 r2=>q w G' H' (x1.trans x2) r2
theorem Ju {rc:List V->Hp->VK->Prop} (hc:xr X (.type T) rc) (hF:Uk X.K rc FL) (hg:Gl X x) (hm:X.mg x=none) (hv:bootBuiltins x=some (.type T)) (ha:SA X (e::es) fs) (hn:x ≠ "__name__" := by decide) (hdb:(x == ("__debug__" : Str))=false:=by decide)
  (he:(e::es).all ya=true:=by rfl):SE X (.Call (.Name x p) (e::es) [] pos) (eL FL fs):=by
 obtain ⟨t,pt,kt⟩:=ha.h
 refine ⟨⟨_,(V8 hc hg hm hv ⟨pt⟩ hn hdb he).h,fun E hf q=>?_⟩⟩
 obtain ⟨ds,hd,hf⟩:=zM hf
 exact kt E hd fun vs G1 H1 x1 r1=>hF G1 H1 ds vs _ _ x1.gh r1 hf fun w G' H' x2 r2=>q w G' H' (x1.trans x2) r2
theorem uw {op:UnaryOp} {ru:V->Hp->VK->Prop} {F1:D->Option D} (ho:kz X (unaryOp op) ru) (hF:∀ (G H:Hp) x u d (Q:VK),zU X.K G x u->F1 x=some d->∃ w,(∀ G,zU X.K G d w)/\(Q w H->ru u H Q)) (ha:SE X a fa):SE X (.UnaryOp op a pos) (e1 F1 fa):=by
 obtain ⟨t,pt,kt⟩:=ha.h
 refine ⟨⟨_,Do ho pt,fun E hf q=>?_⟩⟩
 obtain ⟨x,hx,hf⟩:=zM hf
 refine kt E hx fun v G1 H1 x1 r1=>?_
 obtain ⟨w,rw_,z⟩:=hF G1 H1 x v _ _ r1 hf
 exact z (q w _ _ x1 (rw_ _))
end
end L3
namespace L3
open PySem PySem.Spec PyProof.Rows L2
section
variable {X:Cx} {x:Str} {p pos pos' apos cpos:Pos} {e a b c tg iter elt:Expr} {es ifs:List Expr} {f fa fb:FE} {ft:FT} {fs:FA} {st:Stmt} {sts body:List Stmt} {g g':FS}
theorem yJ:wc X [] zk:=⟨⟨_,JA,fun {_ _ G H τ σ fl E} K hf q=>by
 cases hf
 exact q σ G H K⟩⟩
theorem wR.with {K:PySem.W.Frag} {n:Nat} {G0 H0:Hp} {E E':vc} {fl:Fl} (h:wR K n G0 H0 E fl) (hn:∀ τ,fl=.nx τ->wR K n G0 H0 E' (.nx τ)) (hb:∀ τ,fl=.bk τ->wR K n G0 H0 E' (.bk τ)) (hc:∀ τ,fl=.ct τ->wR K n G0 H0 E' (.ct τ)) (hr:E'.rt=E.rt):wR K n G0 H0 E' fl:=by
 cases fl with
 | nx τ=>exact hn τ rfl
 | bk τ=>exact hb τ rfl
 | ct τ=>exact hc τ rfl
 | rt o d=>
  cases o with
  | false=>intro v G H x r; rw [hr]; exact h v G H x r
  | true=>intro v G H x r1 r2 r3; rw [hr]; exact h v G H x r1 r2 r3
theorem zO (h1:SS X st g) (h2:wc X sts g'):wc X (st::sts) (zI g g'):=by
 obtain ⟨t,p,k⟩:=h1.h
 obtain ⟨t',p',k'⟩:=h2.h
 refine ⟨⟨_,V3 p p',fun {G0 H0 G H τ σ fl E} K hf q=>?_⟩⟩
 obtain ⟨f1,h1,hf⟩:=zM hf
 refine k K h1 ?_
 cases f1 with
 | nx τ'=>exact fun σ' G' H' K'=>k' K' hf q
 | bk τ'=>cases hf; exact q
 | ct τ'=>cases hf; exact q
 | rt o d=>cases hf; exact wR.with q (fun _ z=>nomatch z) (fun _ z=>nomatch z) (fun _ z=>nomatch z) rfl
theorem zN (h1:SS X st g):wc X [st] g:=⟨let ⟨t,p,k⟩:=h1.h; ⟨t,JC p,k⟩⟩
theorem ql (i:Nat) (h:wc X sts g):wc X sts (zI (ua i) g):=by
 obtain ⟨t,p,k⟩:=h.h
 refine ⟨⟨t,p,fun {G0 H0 G H τ σ fl E} K hf q=>?_⟩⟩
 obtain ⟨f1,h1,hf⟩:=zM hf
 unfold ua at h1
 split at h1
 ·rename_i bb d hd
  cases h1
  obtain ⟨G',K',_⟩:=K.freeze hd
  exact k K' hf q
 ·cases h1
theorem z_ {i:Nat} {x:Str} {pos':Pos} (hN:X.N.Nodup) (hi:X.N[i]?=some x) (hx:qH X.env.scope x) (he:SE X e f) (hs:pK e=true:=by rfl) (hf:X.fn x=true\/X.env.scope.names.lookup x=some .local:=by first | exact .inl rfl | exact .inr rfl | assumption) :
  SS X (.Assign [.Name x pos'] e pos) (zT i f):=by
 obtain ⟨t,p,k⟩:=he.h
 refine ⟨⟨_,(JH hN hi hx ⟨p⟩ hs hf).h,fun {G0 H0 G H τ σ fl E} K hf q=>?_⟩⟩
 obtain ⟨d,hd,hf⟩:=zM hf
 cases hf
 exact k K hd fun v G' H' x r=>q _ _ _ ((K.go x).set (List.getElem?_eq_some_iff.mp hi).1 r)
theorem uc {i:Nat} {x:Str} {pos':Pos} (hN:X.N.Nodup) (hi:X.N[i]?=some x) (hx:qH X.env.scope x) (he:SF X e f) (hs:pK e=true:=by rfl) (hf:X.fn x=true\/X.env.scope.names.lookup x=some .local:=by first | exact .inl rfl | exact .inr rfl | assumption) :
  SS X (.Assign [.Name x pos'] e pos) (vP i f):=by
 obtain ⟨t,p,k⟩:=he.h
 refine ⟨⟨_,(JH hN hi hx ⟨p⟩ hs hf).h,fun {G0 H0 G H τ σ fl E} K hf q=>?_⟩⟩
 obtain ⟨d,hd,hf⟩:=zM hf
 cases hf
 refine k K hd fun p G' H' x hp gp o=>q _ _ _ ((K.go x).setO (List.getElem?_eq_some_iff.mp hi).1 gp (K.ext.h.free hp) o ?_)
 exact K.newO hp
theorem zx (he:SE X e f):SS X (.Return (some e) pos) (zd f):=by
 obtain ⟨t,p,k⟩:=he.h
 refine ⟨⟨_,V2 p,fun {G0 H0 G H τ σ fl E} K hf q=>?_⟩⟩
 obtain ⟨d,hd,hf⟩:=zM hf
 cases hf
 exact k K hd fun v G' H' x r=>q v _ _ (K.ext.trans x) r
theorem ji (he:SF X e f):SS X (.Return (some e) pos) (qh f):=by
 obtain ⟨t,p,k⟩:=he.h
 refine ⟨⟨_,V2 p,fun {G0 H0 G H τ σ fl E} K hf q=>?_⟩⟩
 obtain ⟨d,hd,hf⟩:=zM hf
 cases hf
 exact k K hd fun p G' H' x hp gp o=>q p _ _ (K.ext.trans x) (K.ext.h.free hp) gp o
theorem YI (i:Nat) {x:Str} {pos':Pos} (hN:X.N[i]?=some x:=by rfl) (hv:p6 X.env.scope x:=by first | exact Or.inl rfl | exact Or.inr (Or.inl rfl) | exact Or.inr (Or.inr rfl)) (hd:(x == ("__debug__" : Str))=false:=by decide)
  (hcd:(x == ("__classdict__" : Str))=false:=by decide):SS X (.Return (some (.Name x pos')) pos) (pN i):=by
 refine ⟨⟨_,V2 (k7 hN hv hd hcd),fun {G0 H0 G H τ σ fl E} K hf q=>?_⟩⟩
 unfold pN at hf
 split at hf
 ·rename_i d he
  cases hf
  obtain ⟨p,e,g,z,o⟩:=K.ow _ _ he
  exact ⟨_,e,q p _ _ K.ext z g o⟩
 ·cases hf
theorem yA {sa sb:List Stmt} (hc:ST X c ft) (ha:wc X sa g) (hb:wc X sb g'):SS X (.If c sa sb pos) (zX ft g g'):=by
 obtain ⟨tc,pc,kc⟩:=hc.h
 obtain ⟨ta,pa,ka⟩:=ha.h
 obtain ⟨tb,pb,kb⟩:=hb.h
 refine ⟨⟨_,J8 pc pa pb,fun {G0 H0 G H τ σ fl E} K hf q=>?_⟩⟩
 obtain ⟨k,hk,hf⟩:=zM hf
 refine kc K hk fun G1 H1 x1=>?_
 cases k with
 | true=>exact pG (ka (K.go x1) hf q)
 | false=>exact pF (kb (K.go x1) hf q)
theorem wR.near {K:PySem.W.Frag} {n:Nat} {G0 H0 Ga Ha:Hp} {E:vc} {fl:Fl} (x:zP G0 H0 Ga Ha) (h:wR K n G0 H0 E fl):wR K n Ga H0 E fl:=by
 cases fl with
 | nx τ=>exact fun σ G H z=>h σ G H (yB.near x z)
 | bk τ=>exact fun σ G H z=>h σ G H (yB.near x z)
 | ct τ=>exact fun σ G H z=>h σ G H (yB.near x z)
 | rt o d=>
  cases o with
  | false=>exact fun v G H y r=>h v G H (x.rebase y) r
  | true=>exact fun p G H y r1 r2 r3=>h p G H (x.rebase y) r1 r2 r3
structure SG (X:Cx) (tg:Expr) (fg:FG):Prop where
 h:∃ t,PG X tg t/\∀ {G0 H0 G H:Hp} {τ τ':yD} {σ:St} {d:D} {v:V} {Q:St->Hp->Prop},yB X.K X.N.length G0 H0 G H τ σ->zU X.K G d v->fg d τ=some τ'->(∀ σ',yB X.K X.N.length G0 H0 G H τ' σ'->Q σ' H)->t v σ H Q
theorem ux {i:Nat} {x:Str} (h:QG X (.Name x pos) (vo i)) (hi:X.N[i]?=some x):SG X (.Name x pos) (zb i):=⟨⟨_,h.h,fun K r hf q=>by
 cases hf
 exact q _ (K.set (List.getElem?_eq_some_iff.mp hi).1 r)⟩⟩
theorem U7 {i j:Nat} {x y:Str} {p1 p2:Pos} {kk:Nat} (h:QG X (.Tuple [.Name x p1,.Name y p2] kk pos) (gX X.K 2 (qV (vo i) (qV (vo j) gW)))) (hi:X.N[i]?=some x) (hj:X.N[j]?=some y):SG X (.Tuple [.Name x p1,.Name y p2] kk pos) (y_ i j):=⟨⟨_,h.h,fun {G0 H0 G H τ τ' σ d v Q} K r hf q=>by
 unfold y_ at hf
 split at hf
 ·rename_i d1 d2
  cases hf
  obtain ⟨a,vs,rfl,sq,⟨v1,r1,rfl,h1,⟨v2,r2,rfl,h2,h3⟩⟩,_⟩:=r
  cases (show r2=[] from h3)
  refine ⟨a,_,rfl,vZ K.ext.gh sq,rfl,v1,_,rfl,v2,_,rfl,rfl,?_⟩
  exact q _ ((K.set (List.getElem?_eq_some_iff.mp hi).1 h1).set (List.getElem?_eq_some_iff.mp hj).1 h2)
 ·cases hf⟩⟩
theorem vw {fg:FG} (hp:PassesOwn (model X.prog X.w) X.A X.env X.xe) (hc:X.calm=true) (hi:SI X tg iter fs) (hg:SG X tg fg) (hb:wc X body g) (hs:∀ x,foldedSetIterable iter X.env x=pure x:=by intro _; rfl):SS X (.For tg iter body [] pos) (vO fs fg g):=by
 obtain ⟨ti,pi,ki⟩:=hi.h
 obtain ⟨tg',pg,kg⟩:=hg.h
 obtain ⟨tb,pb,kb⟩:=hb.h
 refine ⟨⟨_,FQ hp hc pi pg pb hs,fun {G0 H0 G H τ σ fl E} K hf q=>?_⟩⟩
 obtain ⟨ds,hd,hf⟩:=zM hf
 refine ki K hd fun J Ga Ha xa _ wk=>?_
 have Ka:=K.go xa
 have q':=wR.near Ka.ext q
 refine ⟨fun i m σ H=>m=ds.length - i/\i<=ds.length/\∃ τ G,yB X.K X.N.length Ga H0 G H τ σ/\xN fg g (ds.drop i) τ=some fl,⟨ds.length,rfl,Nat.zero_le _,τ,Ga,Ka.far,hf⟩,?_⟩
 rintro i m σ H ⟨rfl,hle,τ,G,K,hf⟩
 by_cases hlt:i<ds.length
 ·refine .inr ⟨wk.go i G H K.ext.g K.ext.gh hlt,fun σ' H'=>∃ τ G,yB X.K X.N.length Ga H0 G H' τ σ'/\xN fg g (ds.drop (i+1)) τ=some fl,fun σ' H' z=>⟨ds.length - (i+1),by omega,rfl,hlt,z⟩,fun x H' y=>?_⟩
  obtain ⟨G3,d,x3,ed,rd⟩:=wk.yld i G H x H' K.ext.g K.ext.gh hlt y
  rw [List.drop_eq_getElem_cons hlt] at hf
  rw [List.getElem?_eq_getElem hlt] at ed
  cases ed
  obtain ⟨τ1,h1,hf⟩:=zM (show (fg _ τ).bind _=_ from hf)
  obtain ⟨f1,h2,hf⟩:=zM hf
  refine kg (K.go x3) rd h1 fun σ1 K1=>kb K1 h2 ?_
  cases f1 with
  | nx τ2=>exact fun σ2 G2 H2 K2=>⟨τ2,G2,K2,hf⟩
  | ct τ2=>exact fun σ2 G2 H2 K2=>⟨τ2,G2,K2,hf⟩
  | bk τ2=>cases hf; exact q'
  | rt o d=>cases hf; exact wR.with q' (fun _ z=>nomatch z) (fun _ z=>nomatch z) (fun _ z=>nomatch z) rfl
 ·have e:ds.drop i=[]:=List.drop_eq_nil_of_le (by omega)
  rw [e] at hf
  cases hf
  exact .inl ⟨wk.stop i G H K.ext.g K.ext.gh (by omega),q' _ _ _ K⟩
theorem M9 {K:PySem.W.Frag} {G:Hp} {lo:Int} {n:Nat}:qL K (kX lo n) G ((List.range n).map fun k:Nat=>D.int (lo+k)) where
 go:=fun i G2 H _ _ hi=>by
  show i<n
  simpa using hi
 yld:=fun i G2 H x H' _ g2 hi y=>by
  obtain ⟨rfl,rfl⟩:=y
  exact ⟨G2,.int (lo+i),zP.refl g2,by simp at hi; simp [hi],rfl⟩
 stop:=fun i G2 H _ _ hi=>by
  show n<=i
  simpa using hi
theorem vv (hg:Gl X "range") (hm:X.mg "range" = none) (ha:SE X a fa) (hs:ya a=true:=by rfl):SI X tg (.Call (.Name "range" p) [a] [] pos) (xm (eC (.int 0)) fa):=by
 obtain ⟨t,pt,k⟩:=(zB ha zK hs).h
 refine ⟨⟨_,Dz hg hm pt (wp hs),fun {G0 H0 G H τ σ ds R} K hf q=>?_⟩⟩
 obtain ⟨x,hx,hf⟩:=zM hf
 cases hx
 obtain ⟨y,hy,hf⟩:=zM hf
 refine k K (ds:=[y]) (by unfold z7; rw [hy]; rfl) fun vs G1 H1 x1 r1=>?_
 cases y<;>first | cases hf | skip
 rename_i j
 obtain ⟨v,r,rfl,hv,hr⟩:=r1
 cases (show r=[] from hr)
 cases (show v=.int j from hv)
 change (if (0:Int).natAbs<=yS/\j.natAbs<=yS/\(j - 0).toNat<=yS then _ else _)=_ at hf
 by_cases c:(0:Int).natAbs<=yS/\j.natAbs<=yS/\(j - 0).toNat<=yS
 ·rw [if_pos c] at hf
  cases hf
  have c2:j.natAbs<=16777216:=c.2.1
  have c3:(j - 0).toNat<=16777216:=c.2.2
  refine ⟨j,rfl,by omega,by omega,q _ _ _ x1 ?_ ?_⟩
  ·rw [List.length_map,List.length_range,sizeLine_eq]; omega
  ·have e:(j - 0).toNat=j.toNat:=by omega
   rw [e]
   exact M9
 ·rw [if_neg c] at hf
  cases hf
theorem Mn {K:PySem.W.Frag} {G:Hp} {a:Addr} {vs:List V} {ds:List D} (sq:yT K G a vs) (r:Reps K G ds vs):qL K (XH K a) G ds where
 go:=fun i G2 H g1 g2 hi=>by
  obtain ⟨v,e,_⟩:=r.get (List.getElem?_eq_getElem hi)
  exact ⟨vs,v,vR (g1.trans g2) sq,e⟩
 yld:=fun i G2 H x H' g1 g2 hi y=>by
  obtain ⟨rfl,y⟩:=y
  have e:=y vs (vR (g1.trans g2) sq)
  obtain ⟨d,ed,rd⟩:=r.at e
  exact ⟨G2,d,zP.refl g2,ed,rd.mono g1⟩
 stop:=fun i G2 H g1 g2 hi=>⟨vs,vR (g1.trans g2) sq,by rw [r.length]; exact hi⟩
theorem Ej {K:PySem.W.Frag} {G:Hp} {a:Addr} {vs:List V} {ds:List D} (sq:yk K G a vs) (r:Reps K G ds vs):qL K (XI K a) G ds where
 go:=fun i G2 H g1 g2 hi=>by
  obtain ⟨v,e,_⟩:=r.get (List.getElem?_eq_getElem hi)
  exact ⟨vs,v,vZ (g1.trans g2) sq,e⟩
 yld:=fun i G2 H x H' g1 g2 hi y=>by
  obtain ⟨rfl,y⟩:=y
  have e:=y vs (vZ (g1.trans g2) sq)
  obtain ⟨d,ed,rd⟩:=r.at e
  exact ⟨G2,d,zP.refl g2,ed,rd.mono g1⟩
 stop:=fun i G2 H g1 g2 hi=>⟨vs,vZ (g1.trans g2) sq,by rw [r.length]; exact hi⟩
theorem EA {K:PySem.W.Frag} {G:Hp} {z:Str}:qL K (kY z) G (z.cps.toList.map fun c=>D.str ⟨#[c]⟩) where
 go:=fun i G2 H _ _ hi=>by
  rw [List.length_map,Array.length_toList] at hi
  exact hi
 yld:=fun i G2 H x H' _ g2 hi y=>by
  obtain ⟨rfl,c,ec,rfl⟩:=y
  refine ⟨G2,.str ⟨#[c]⟩,zP.refl g2,?_,rfl,zW (n:=1) (by decide)⟩
  rw [List.getElem?_map,Array.getElem?_toList,ec]
  rfl
 stop:=fun i G2 H _ _ hi=>by
  rw [List.length_map,Array.length_toList] at hi
  exact hi
theorem PI.or {w1 w2:TI} (h1:PI X tg e w1) (h2:PI X tg e w2):PI X tg e (fun σ H R=>w1 σ H R\/w2 σ H R):=fun pins s σ H R I q=>by
 rcases q with q | q
 ·exact h1 pins s σ H R I q
 ·exact h2 pins s σ H R I q
theorem vC (h:SE X e f):SI X tg e (w8 f):=by
 obtain ⟨t,p,k⟩:=h.h
 refine ⟨⟨_,PI.or (Dy p) (PI.or (F0 p) (D_ p)),fun {G0 H0 G H τ σ ds R} K hf q=>?_⟩⟩
 obtain ⟨d,hd,hf⟩:=zM hf
 cases d<;>first | cases hf | skip
 ·rename_i z
  refine .inr (.inr (k K hd fun v G' H' x r=>?_))
  obtain ⟨rfl,l⟩:=r
  exact ⟨z,rfl,q _ _ _ x (by rw [List.length_map,Array.length_toList]; exact l) EA⟩
 ·refine .inr (.inl (k K hd fun v G' H' x r=>?_))
  obtain ⟨a,vs,rfl,sq,rs,l⟩:=r
  exact ⟨a,rfl,⟨vs,vZ x.gh sq⟩,q _ _ _ x l (Ej sq rs)⟩
 ·refine .inl (k K hd fun v G' H' x r=>?_)
  obtain ⟨a,vs,rfl,sq,rs,l⟩:=r
  exact ⟨a,rfl,⟨vs,vR x.gh sq⟩,q _ _ _ x l (Mn sq rs)⟩
end
noncomputable def UQ (K:PySem.W.Frag) (n:Nat) (f:FE):TE:=fun σ H Q=>∃ G0 H0 G τ d,yB K n G0 H0 G H τ σ/\f τ=some d/\∀ v G' H',zP G H G' H'->zU K G' d v->Q v H'
noncomputable def YN (K:PySem.W.Frag) (n:Nat) (f:FT):TT:=fun σ H Q=>∃ G0 H0 G τ d,yB K n G0 H0 G H τ σ/\f τ=some d/\∀ G' H',zP G H G' H'->Q d H'
structure j4 (X:Cx) (es:List Expr) (f:FT):Prop where
 h:qz X es (YN X.K X.N.length f)
section
variable {X:Cx} {e c:Expr} {f:FE} {ft:FT}
theorem SE.pe (h:SE X e f):PE X e (UQ X.K X.N.length f):=fun pins s σ H Q I q=>by
 obtain ⟨t,p,k⟩:=h.h
 obtain ⟨G0,H0,G,τ,d,K,hf,z⟩:=q
 exact p pins s σ H Q I (k K hf z)
theorem ST.pt (h:ST X e ft):PT X e (YN X.K X.N.length ft):=fun pins s σ H Q I q=>by
 obtain ⟨t,p,k⟩:=h.h
 obtain ⟨G0,H0,G,τ,d,K,hf,z⟩:=q
 exact p pins s σ H Q I (k K hf z)
theorem va:j4 X [] yn:=⟨fun pins s σ H Q I q=>by
 obtain ⟨G0,H0,G,τ,d,K,hf,z⟩:=q
 cases hf
 exact Fa pins s σ H Q I (z _ _ (zP.refl K.ext.gh))⟩
theorem kM (h:ST X c ft):j4 X [c] ft:=⟨Fb h.pt⟩
end
theorem yB.more {K:PySem.W.Frag} {n:Nat} {G0 H0 G H:Hp} {τ:yD} {σ:St} (k:Nat) (E:yB K n G0 H0 G H τ σ):yB K (n+k) G0 H0 G H (τ++List.replicate k none) (σ++List.replicate k none):=by
 have at_:∀ {i:Nat} {s:Sl},(τ++List.replicate k none)[i]?=some (some s)->τ[i]?=some (some s)/\(σ++List.replicate k none)[i]?=σ[i]?:=fun {i s} h=>by
  have h':=ZN h
  have hi:i<n:=E.lt h'
  exact ⟨h',List.getElem?_append_left (by rw [E.l1]; exact hi)⟩
 refine ⟨E.ext,by rw [List.length_append,List.length_replicate,E.l1],by rw [List.length_append,List.length_replicate,E.l2],fun i d h=>?_,fun i d h=>?_,fun i j d e p hne h1 h2 h3 h4=>?_⟩
 ·obtain ⟨h',e⟩:=at_ h
  rw [e]
  exact E.fr i d h'
 ·obtain ⟨h',e⟩:=at_ h
  rw [e]
  exact E.ow i d h'
 ·obtain ⟨h1',e1⟩:=at_ h1
  obtain ⟨h2',e2⟩:=at_ h2
  rw [e1] at h3
  rw [e2] at h4
  exact E.ap i j d e p hne h1' h2' h3 h4
theorem Wk {K:PySem.W.Frag} {n k:Nat} {G0 H0 Ga Ha:Hp} {τ:yD} {σ:St} {J:It} {ds out:List D} {g:TG} {fg:FG} {ft:FT} {f:FE} {Fin:List V->Hp->Prop} (wk:qL K J Ga ds) (hl:ds.length<=sizeLine) (Ka:yB K n G0 H0 Ga Ha τ σ)
  (hf:xQ fg ft f (τ++List.replicate k none) ds=some out)
  (kg:∀ G H d v τ' (Q:St->Hp->Prop),yB K (n+k) G0 H0 G H (τ++List.replicate k none) (σ++List.replicate k none)->zU K G d v->fg d (τ++List.replicate k none)=some τ'->(∀ ρ,yB K (n+k) G0 H0 G H τ' (σ++ρ)->Q (σ++ρ) H)->g v (σ++List.replicate k none) H Q)
  (fin:∀ ys G H,zP Ga Ha G H->Reps K G out ys->out.length<=sizeLine->Fin ys H) :
  ∃ W:Nat->Nat->List V->Hp->Prop,(∃ m,W 0 m [] Ha)/\Zl σ k J g (YN K (n+k) ft) (UQ K (n+k) f) W Fin:=by
 refine ⟨fun i m ys H=>m=ds.length - i/\i<=ds.length/\ys.length<=i/\∃ G done yC,zP Ga Ha G H/\Reps K G done ys/\xQ fg ft f (τ++List.replicate k none) (ds.drop i)=some yC/\done++yC=out,⟨ds.length,rfl,Nat.zero_le _,Nat.le_refl _,Ga,[],out,zP.refl Ka.ext.gh,rfl,hf,rfl⟩,?_⟩
 rintro i m ys H ⟨rfl,hle,hys,G,done,yC,x,rd,hf,eo⟩
 by_cases hlt:i<ds.length
 ·refine .inr ⟨wk.go i G H x.g x.gh hlt,by omega,fun ys H=>ys.length<=i+1/\∃ G done yC,zP Ga Ha G H/\Reps K G done ys/\xQ fg ft f (τ++List.replicate k none) (ds.drop (i+1))=some yC/\done++yC=out,fun ys' H' z=>⟨ds.length - (i+1),by omega,rfl,hlt,z.1,z.2⟩,fun v H' y=>?_⟩
  obtain ⟨G3,d,x3,ed,rv⟩:=wk.yld i G H v H' x.g x.gh hlt y
  rw [List.drop_eq_getElem_cons hlt] at hf
  rw [List.getElem?_eq_getElem hlt] at ed
  cases ed
  obtain ⟨τ1,h1,hf⟩:=zM (show (fg _ _).bind _=_ from hf)
  obtain ⟨kk,h2,hf⟩:=zM hf
  have K3:=((Ka.go x).go x3).more k
  refine kg G3 H' _ v τ1 _ K3 rv h1 fun ρ K4=>⟨⟨ρ,rfl⟩,_,_,_,_,kk,K4,h2,fun G5 H5 x5=>?_⟩
  cases kk with
  | false=>exact pF ⟨by omega,G5,done,yC,x.trans (x3.trans x5),rd.mono (x3.g.trans x5.g),hf,eo⟩
  | true=>
   obtain ⟨z,hz,hf⟩:=zM (show (f _).bind _=_ from hf)
   obtain ⟨more,hm,hf⟩:=zM hf
   cases hf
   refine pG ⟨_,_,_,_,z,K4.go x5,hz,fun u G6 H6 x6 r6=>⟨by rw [List.length_append]; exact Nat.succ_le_succ hys,G6,done++[z],more,x.trans (x3.trans (x5.trans x6)),(rd.mono (x3.g.trans (x5.g.trans x6.g))).append (Reps.one r6),hm,?_⟩⟩
   rw [List.append_assoc]
   exact eo
 ·have e:ds.drop i=[]:=List.drop_eq_nil_of_le (by omega)
  rw [e] at hf
  cases hf
  rw [List.append_nil] at eo
  subst eo
  refine .inl ⟨wk.stop i G H x.g x.gh (by omega),fin ys G H x rd ?_⟩
  rw [<- rd.length]
  omega
section
variable {X:Cx} {tg iter elt:Expr} {ifs:List Expr} {scope:Scope} {cl:List (Str×Addr)} {own:List Str} {pos:Pos} {fs:FA} {fg:FG} {ft:FT} {f:FE} {g:TG}
theorem U6 {α:Type} (xs:List α) (y:α) (ys:List α) {n:Nat} (h:n=xs.length) (z:α):(xs++y::ys).set n z=xs++z::ys:=by
 subst h
 rw [List.set_append_right _ _ (Nat.le_refl _),Nat.sub_self]
 rfl
structure BG (X:Cx) (scope:Scope) (cl:List (Str×Addr)) (own:List Str) (tg:Expr) (g:TG) (fg:FG):Prop where
 q:∀ C s H fp pn,QG (xR X scope cl own C s H fp pn) tg g
 k:∀ {G0 H0:Hp} {τ:yD} {σ:St},τ.length=X.N.length->σ.length=X.N.length->∀ G H d v τ' (Q:St->Hp->Prop),yB X.K (X.N.length+own.length) G0 H0 G H (τ++List.replicate own.length none) (σ++List.replicate own.length none)->zU X.K G d v->fg d (τ++List.replicate own.length none)=some τ'->
  (∀ ρ,yB X.K (X.N.length+own.length) G0 H0 G H τ' (σ++ρ)->Q (σ++ρ) H)->g v (σ++List.replicate own.length none) H Q
theorem wy {x:Str} {i:Nat} (q:∀ C s H fp pn,QG (xR X scope cl [x] C s H fp pn) tg (vo i)) (hi:i=X.N.length):BG X scope cl [x] tg (vo i) (zb i):=⟨q,fun {G0 H0 τ σ} l1 l2 G H d v τ' Q E r hf k=>by
 cases hf
 have E':=E.set (i:=i) (v:=v) (by rw [hi]; exact Nat.lt_succ_self _) r
 have es:(σ++List.replicate 1 none).set i (some v)=σ++[some v]:=U6 σ none [] (hi.trans l2.symm) (some v)
 show Q ((σ++List.replicate 1 none).set i (some v)) H
 rw [es]
 refine k [some v] ?_
 rw [<- es]
 exact E'⟩
theorem Xn {x y:Str} {i j:Nat} (q:∀ C s H fp pn,QG (xR X scope cl [x,y] C s H fp pn) tg (gX X.K 2 (qV (vo i) (qV (vo j) gW)))) (hi:i=X.N.length) (hj:j=X.N.length+1):BG X scope cl [x,y] tg (gX X.K 2 (qV (vo i) (qV (vo j) gW))) (y_ i j):=⟨q,fun {G0 H0 τ σ} l1 l2 G H d v τ' Q E r hf k=>by
 unfold y_ at hf
 split at hf
 ·rename_i d1 d2
  cases hf
  obtain ⟨a,vs,rfl,sq,⟨v1,r1,rfl,h1,⟨v2,r2,rfl,h2,h3⟩⟩,_⟩:=r
  cases (show r2=[] from h3)
  have E':=(E.set (i:=i) (v:=v1) (by rw [hi]; exact Nat.lt_add_of_pos_right (Nat.succ_pos _)) h1).set (i:=j) (v:=v2) (by rw [hj]; exact Nat.lt_succ_self _) h2
  have es:((σ++List.replicate 2 none).set i (some v1)).set j (some v2)=σ++[some v1,some v2]:=by
   have e1:(σ++List.replicate 2 none).set i (some v1)=σ++[some v1,none]:=U6 σ none [none] (hi.trans l2.symm) (some v1)
   rw [e1]
   have e2:σ++[some v1,none]=(σ++[some v1])++[none]:=by simp
   rw [e2,U6 (σ++[some v1]) none [] (by rw [List.length_append,hj,l2]; rfl) (some v2)]
   simp
  refine ⟨a,_,rfl,vZ E.ext.gh sq,rfl,v1,_,rfl,v2,_,rfl,rfl,?_⟩
  show Q (((σ++List.replicate 2 none).set i (some v1)).set j (some v2)) H
  rw [es]
  refine k [some v1,some v2] ?_
  rw [<- es]
  exact E'
 ·cases hf⟩
theorem T3 (X:Cx) (own:List Str):(xY X.N own).length=X.N.length+own.length:=by
 unfold xY
 rw [List.length_append,List.length_map]
theorem Xq {C:Addr} {s:Shared} {H:Hp} {fp:List Addr} {pn:List (Addr×Obj)} (h:SE (xR X scope cl own C s H fp pn) elt f):PE (xR X scope cl own C s H fp pn) elt (UQ X.K (X.N.length+own.length) f):=by
 have q:=h.pe
 rw [show (xR X scope cl own C s H fp pn).N.length=X.N.length+own.length from T3 X own] at q
 exact q
theorem Xr {C:Addr} {s:Shared} {H:Hp} {fp:List Addr} {pn:List (Addr×Obj)} (h:j4 (xR X scope cl own C s H fp pn) ifs ft):qz (xR X scope cl own C s H fp pn) ifs (YN X.K (X.N.length+own.length) ft):=by
 have q:=h.h
 rw [show (xR X scope cl own C s H fp pn).N.length=X.N.length+own.length from T3 X own] at q
 exact q
theorem vQ (hcalm:X.calm=true) (B:qw X scope cl own) (hi:SI X tg iter fs) (hg:BG X scope cl own tg g fg) (hc:∀ C s H fp pn,j4 (xR X scope cl own C s H fp pn) ifs ft)
  (he:∀ C s H fp pn,SE (xR X scope cl own C s H fp pn) elt f) (hs:∀ x,foldedSetIterable iter X.env x=pure x:=by intro _; rfl) :
  SF X (.ListComp elt [⟨tg,iter,ifs,0⟩] scope pos) (yx own.length fs fg ft f):=by
 obtain ⟨ti,pi,ki⟩:=hi.h
 refine ⟨⟨_,Dg hcalm B pi (fun C s H fp pn=>(hg.q C s H fp pn).h) (fun C s H fp pn=>Xr (hc C s H fp pn)) (fun C s H fp pn=>Xq (he C s H fp pn)) hs,fun {G0 H0 G H τ σ d Q} K hf q=>?_⟩⟩
 obtain ⟨ds,hd,hf⟩:=zM hf
 obtain ⟨out,ho,hf⟩:=zM hf
 cases hf
 refine ki K hd fun J Ga Ha xa l wk=>Wk wk l (K.go xa) ho (hg.k K.l2 K.l1) fun ys G1 H1 x1 r1 l1 p hp=>?_
 exact q p _ _ (xa.trans (x1.trans (zP.layO x1.gh hp))) (xa.h.free (x1.h.free hp)) (x1.gh.free hp) ⟨ys,xK,r1,l1⟩
theorem E7 {i:Nat} {x:Str} {px spos:Pos} (hcalm:X.calm=true) (hN:X.N.Nodup) (hix:X.N[i]?=some x) (hx:X.env.scope.names.lookup x=some .local) (B:qw X scope cl own)
  (hsw:swapsWith (.ListComp elt [⟨tg,iter,ifs,0⟩] scope pos) (some (.Name x px)) spos.line X.env=pure true) (hi:SI X tg iter fs) (hg:BG X scope cl own tg g fg) (hc:∀ C s H fp pn,j4 (xR X scope cl own C s H fp pn) ifs ft)
  (he:∀ C s H fp pn,SE (xR X scope cl own C s H fp pn) elt f) (hs:∀ x,foldedSetIterable iter X.env x=pure x:=by intro _; rfl) :
  SS X (.Assign [.Name x px] (.ListComp elt [⟨tg,iter,ifs,0⟩] scope pos) spos) (vP i (yx own.length fs fg ft f)):=by
 obtain ⟨ti,pi,ki⟩:=hi.h
 refine ⟨⟨_,J9 hcalm hN hix hx B hsw pi (fun C s H fp pn=>(hg.q C s H fp pn).h) (fun C s H fp pn=>Xr (hc C s H fp pn)) (fun C s H fp pn=>Xq (he C s H fp pn)) hs,fun {G0 H0 G H τ σ fl E} K hf q=>?_⟩⟩
 obtain ⟨d,hf1,hf⟩:=zM hf
 cases hf
 obtain ⟨ds,hd,hf1⟩:=zM hf1
 obtain ⟨out,ho,hf1⟩:=zM hf1
 cases hf1
 refine ki K hd fun J Ga Ha xa l wk=>Wk wk l (K.go xa) ho (hg.k K.l2 K.l1) fun ys G1 H1 x1 r1 l1 p hp=>?_
 have K1:=(K.go xa).go x1
 have K2:=K1.go (zP.layO (o:=.lst ys) x1.gh hp)
 exact q _ _ _ (K2.setO (List.getElem?_eq_some_iff.mp hix).1 (x1.gh.free hp) (K1.ext.h.free hp) ⟨ys,xK,r1,l1⟩ (K1.newO hp))
theorem UI {i:Nat} {x:Str} {px spos:Pos} (hcalm:X.calm=true) (hN:X.N.Nodup) (hix:X.N[i]?=some x) (hx:X.env.scope.names.lookup x=some .local) (B:qw X scope cl own)
  (hsw:swapsWith (.ListComp elt [⟨tg,iter,ifs,0⟩] scope pos) (some (.Name x px)) spos.line X.env=pure true) (hi:SI X tg iter fs) (hg:BG X scope cl own tg g fg) (hc:∀ C s H fp pn,j4 (xR X scope cl own C s H fp pn) ifs ft)
  (he:∀ C s H fp pn,SE (xR X scope cl own C s H fp pn) elt f) (hs:∀ x,foldedSetIterable iter X.env x=pure x:=by intro _; rfl) :
  SS X (.Assign [.Name x px] (.ListComp elt [⟨tg,iter,ifs,0⟩] scope pos) spos) (zT i (yx own.length fs fg ft f)):=by
 obtain ⟨ti,pi,ki⟩:=hi.h
 refine ⟨⟨_,J9 hcalm hN hix hx B hsw pi (fun C s H fp pn=>(hg.q C s H fp pn).h) (fun C s H fp pn=>Xr (hc C s H fp pn)) (fun C s H fp pn=>Xq (he C s H fp pn)) hs,fun {G0 H0 G H τ σ fl E} K hf q=>?_⟩⟩
 obtain ⟨d,hf1,hf⟩:=zM hf
 cases hf
 obtain ⟨ds,hd,hf1⟩:=zM hf1
 obtain ⟨out,ho,hf1⟩:=zM hf1
 cases hf1
 refine ki K hd fun J Ga Ha xa l wk=>Wk wk l (K.go xa) ho (hg.k K.l2 K.l1) fun ys G1 H1 x1 r1 l1 p hp=>?_
 have K2:=((K.go xa).go x1).go (zP.lay (o:=.lst ys) x1.gh hp)
 exact q _ _ _ (K2.set (List.getElem?_eq_some_iff.mp hix).1 ⟨p,ys,rfl,yT.of xK,r1.mono (wP (x1.gh.free hp) _),l1⟩)
end
section
variable {K:PySem.W.Frag} {n:Nat} {G0 H0 G H:Hp} {τ:yD} {σ:St}
theorem yB.mut {i:Nat} {d d':D} {p:Addr} {o:HO} (E:yB K n G0 H0 G H τ σ) (hi:τ[i]?=some (some (true,d))) (hp:σ[i]?=some (some (.ref p))) (new:wY K G (zZ H p o) d' p):yB K n G0 H0 G (zZ H p o) (τ.set i (some (true,d'))) σ:=by
 obtain ⟨p',e,g,z,_⟩:=E.ow i d hi
 rw [hp] at e
 cases e
 have keep:∀ {H1:Hp},H1 p=none->yL H1 H->yL H1 (zZ H p o):=fun {H1} h s b u q=>by
  rw [yj (wj q h)]
  exact s _ _ q
 refine ⟨⟨E.ext.g,keep z E.ext.h,keep g E.ext.gh,E.ext.new⟩,E.l1,by rw [List.length_set]; exact E.l2,fun j e h=>?_,fun j e h=>?_,fun j k e f q hne h1 h2 h3 h4=>?_⟩
 ·rcases vB h with ⟨rfl,w⟩ | ⟨ne,w⟩
  ·cases w
  ·exact E.fr j e w
 ·rcases vB h with ⟨rfl,w⟩ | ⟨ne,w⟩
  ·cases w
   exact ⟨p,hp,g,z,new⟩
  ·obtain ⟨q,eq,gq,zq,oq⟩:=E.ow j e w
   refine ⟨q,eq,gq,zq,?_⟩
   have hne:q≠p:=fun c=>by
    subst c
    exact E.ap i j d e q (fun c=>ne c.symm) hi w hp eq
   cases e with
   | lst ds=>obtain ⟨vs,ev,r⟩:=oq; exact ⟨vs,by rw [yj hne]; exact ev,r⟩
   | dic ks ds=>obtain ⟨vs,ev,r⟩:=oq; exact ⟨vs,by rw [yj hne]; exact ev,r⟩
   | _=>exact oq.elim
 ·have t:∀ {j:Nat} {e:D},(τ.set i (some (true,d')))[j]?=some (some (true,e))->∃ e,τ[j]?=some (some (true,e)):=fun {j e} h=>by
   rcases vB h with ⟨rfl,_⟩ | ⟨_,w⟩
   ·exact ⟨_,hi⟩
   ·exact ⟨_,w⟩
  obtain ⟨e1,w1⟩:=t h1
  obtain ⟨e2,w2⟩:=t h2
  exact E.ap j k e1 e2 q hne w1 w2 h3 h4
end
section
variable {X:Cx} {x:Str} {xp pos apos cpos:Pos} {e:Expr} {f:FE}
theorem uG {i:Nat} (ho:QE X (.Name x xp) (qq i)) (he:SE X e f) (hbase:attributeBase (.Name x xp) "append" X.env (eval (.Name x xp) X.env)=eval (.Name x xp) X.env:=by rfl) (hline:(apos.endLine == cpos.line)=true:=by rfl) (hs:ya e=true:=by rfl) :
  SS X (.Expr (.Call (.Attribute (.Name x xp) "append" apos) [e] [] cpos) pos) (wT i xg f):=by
 obtain ⟨t,p,k⟩:=(zB he zK hs).h
 refine ⟨⟨_,(JG (kA PySem.F.plainAttrs_list PySem.F.slot_list_append PySem.F.type_list_append Mw ho ⟨p⟩ hbase hline (by rw [List.all_cons,hs]; rfl) (by show 1<30; decide)) rfl).h,fun {G0 H0 G H τ σ fl E} K hf q=>?_⟩⟩
 unfold wT at hf
 split at hf
 ·rename_i d hd
  obtain ⟨y,hy,hf⟩:=zM hf
  obtain ⟨d',hd',hf⟩:=zM hf
  cases hf
  obtain ⟨a,ea,g,z,o⟩:=K.ow _ _ hd
  cases d with
  | lst ds=>
   obtain ⟨vs,ev,rs,l⟩:=o
   refine ⟨_,ea,.inl ⟨rfl,vs,yT.of ev⟩,k K (ds:=[y]) (by unfold z7; rw [hy]; rfl) fun us G1 H1 x1 r1=>?_⟩
   obtain ⟨u,r,rfl,hu,hr⟩:=r1
   cases (show r=[] from hr)
   change (if ds.length<yS then some (D.lst (ds++[y])) else none)=some d' at hd'
   by_cases c:ds.length<yS
   ·rw [if_pos c] at hd'
    cases hd'
    refine ⟨a,vs,u,rfl,rfl,x1.h _ _ ev,by rw [rs.length,sizeLine_eq]; exact c,?_⟩
    refine q _ _ _ ((K.go x1).mut hd ea ⟨vs++[u],xK,(rs.mono x1.g).append (Reps.one hu),?_⟩)
    rw [List.length_append,sizeLine_eq]
    exact c
   ·rw [if_neg c] at hd'
    cases hd'
  | _=>cases hd'
 ·cases hf
end
section
variable {P:Program} {w:World} {K:PySem.W.Frag} {mg:Str->Option Value} {base:Heap}
theorem Wq {α β:Type} {ds:List α} {k i:Nat} {h:α->Option β} {y:β} (e:(ds.map h++List.replicate k none)[i]?=some (some y)):∃ d,ds[i]?=some d/\h d=some y:=by
 have e':=ZN e
 rw [List.getElem?_map] at e'
 cases q:ds[i]? with
 | none=>rw [q] at e'; cases e'
 | some d=>
  rw [q] at e'
  exact ⟨d,rfl,Option.some.inj e'⟩
theorem ZI {N:List Str} {G H:Hp} {ds:List D} {vs:List V} (s:yL G H) (r:Reps K G ds vs) (hl:ds.length<=N.length):yB K N.length G H G H (ds.map (fun d=>some (false,d))++List.replicate (N.length - ds.length) none) (L2.start N vs):=by
 have l:=r.length
 refine ⟨zP.refl s,?_,?_,fun i d h=>?_,fun i d h=>?_,fun i j d e p _ h1=>?_⟩
 ·unfold L2.start
  rw [List.length_append,List.length_map,List.length_replicate]
  omega
 ·rw [List.length_append,List.length_map,List.length_replicate]
  omega
 ·obtain ⟨d',e,z⟩:=Wq h
  cases z
  obtain ⟨v,ev,rv⟩:=r.get e
  refine ⟨v,?_,rv⟩
  unfold L2.start
  rw [List.getElem?_append_left (by rw [List.length_map]; exact (List.getElem?_eq_some_iff.mp ev).1),List.getElem?_map,ev]
  rfl
 ·obtain ⟨d',e,z⟩:=Wq h
  cases z
 ·obtain ⟨d',e,z⟩:=Wq h1
  cases z
theorem Def.okS {x:Str} {st:Stmt} {N ps:List Str} {k:Nat} {F:List D->Option (Bool×D)} {b:FS} (d:Def K mg x st ps) (S:yQ N ps (zi st)) (hN:ps.length<=N.length) (hF:∀ ds r,F ds=some r->ds.length=ps.length/\yi N.length b ds=some r)
  (hb:∀ (f:Addr) (cdv:Value) (A:Around) (outer:List Env) (s:Shared) (H:Hp) (E:XK),xB k (A.deeper (envOfC x (zi st) s.heap.objs.size f cdv))->wc (vk wu P w K mg base N x (zi st) f cdv A outer s H E).nox (wg st) b):yZ P w K mg base x ps (k+1) (yY K F):=by
 refine d.ok S (fun vs H Q E h=>?_) fun f cdv A outer s H vs Q E hr h=>?_
 ·obtain ⟨G,ds,o,dd,_,r,e,_⟩:=h
  rw [r.length,(hF _ _ e).1]
 ·obtain ⟨G,ds,o,dd,s',r,e,q⟩:=h
  obtain ⟨l,hrun⟩:=hF _ _ e
  obtain ⟨t,p,kt⟩:=(hb f cdv A outer s H E hr).h
  obtain ⟨fl,hfl,hrun⟩:=zM hrun
  refine ⟨t,p,kt (ZI (N:=N) s' r (by omega)) hfl ?_⟩
  cases fl with
  | nx τ=>
   cases hrun
   exact fun σ G' H' z=>q .non G' H' z.ext rfl
  | rt o' d'=>
   cases hrun
   cases o with
   | false=>exact q
   | true=>exact q
  | _=>cases hrun
end
end L3
namespace L3
open PySem PySem.Spec PyProof.Rows L2
end L3
namespace L3
open PySem PySem.Spec PyProof.Rows L2
section
variable {X:Cx} {K:PySem.W.Frag}
theorem jS {C:Int->Int->Prop} {Cb:Int->Int->Bool} {g:Int->Int->Int} (h:∀ i j,Cb i j=true->C i j):vG K (rI C fun i j=>.int (g i j)) (fI Cb g):=fun G H x y u v d Q s rx ry hf q=>by
 cases x<;>first | (cases hf; done) | skip
 cases y<;>first | (cases hf; done) | skip
 rename_i i j
 change (match Cb i j with | true=>some (D.int (g i j)) | false=>none)=some d at hf
 cases c:Cb i j with
 | false=>rw [c] at hf; cases hf
 | true=>
  rw [c] at hf
  cases hf
  exact ⟨i,j,rx,ry,h i j c,q _ _ _ (zP.refl s) rfl⟩
theorem By:vG K (ut fun i j=>.int (i - j)) WO:=fun G H x y u v d Q s rx ry hf q=>by
 cases x<;>first | (cases hf; done) | skip
 cases y<;>first | (cases hf; done) | skip
 cases hf
 exact ⟨_,_,rx,ry,q _ _ _ (zP.refl s) rfl⟩
theorem Qe {i:Int} (h:uW i=true) : -(2 ^ 64)<i/\i<2 ^ 64:=by
 unfold uW at h
 rw [Bool.and_eq_true] at h
 exact ⟨of_decide_eq_true h.1,of_decide_eq_true h.2⟩
theorem jU:vG K (rI jq fun i j=>.int (i*j)) qU:=jS fun _ _ h=>.inl (Qe h)
theorem Qp:vG K (rI jq fun i j=>.int (i*j)) ZM:=jS fun _ _ h=>.inr (Qe h)
theorem uX:vG K (rI (fun _ j=>0<j) fun i j=>.int (i % j)) vK:=jS fun _ _ h=>of_decide_eq_true h
theorem jT:vG K (rI (fun _ j=>0<j/\j<2 ^ 64) fun i j=>.int (i / j)) qS:=jS fun _ _ h=>by
 rw [Bool.and_eq_true] at h
 exact ⟨of_decide_eq_true h.1,of_decide_eq_true h.2⟩
theorem FC {i j:Int} (h:jX i j=true):Yf i j:=by
 unfold jX at h
 rw [Bool.and_eq_true,Bool.and_eq_true] at h
 exact ⟨of_decide_eq_true h.1,of_decide_eq_true h.2.1,of_decide_eq_true h.2.2⟩
theorem Bx:vG K (rI Yf fun i j=>.int (i*2 ^ j.toNat)) WM:=jS fun _ _ h=>FC h
theorem wm {g:Int->Int->Bool}:uf K (ut fun i j=>.bl (g i j)) (xU g):=fun H x y u v d Q rx ry hf=>by
 cases x<;>first | (cases hf; done) | skip
 cases y<;>first | (cases hf; done) | skip
 cases hf
 exact ⟨_,rfl,fun q=>⟨_,_,rx,ry,q⟩⟩
theorem QF {H:Hp} {x:D} {u:V} (r:zU K H x u):jJ x=decide (u=.non):=by
 cases x with
 | non=>cases r; rfl
 | bl b=>cases r; rfl
 | int b=>cases r; rfl
 | str b=>obtain ⟨rfl,_⟩:=r; rfl
 | tup b=>obtain ⟨a,vs,rfl,_⟩:=r; rfl
 | lst b=>obtain ⟨a,vs,rfl,_⟩:=r; rfl
 | dic b c=>obtain ⟨a,vs,rfl,_⟩:=r; rfl
 | exc b=>obtain ⟨a,C,rfl,_⟩:=r; rfl
 | obj b c e=>obtain ⟨a,C,dx,vs,rfl,_⟩:=r; rfl
theorem Wy:uf K (fun x y H Q=>y=.non/\Q (.bl (decide (x=.non))) H) jD:=fun H x y u v d Q rx ry hf=>by
 cases y<;>first | (cases hf; done) | skip
 have e:=QF rx
 refine ⟨jJ x,(Option.some.inj hf).symm,fun q=>⟨ry,?_⟩⟩
 rw [<- e]
 exact q
theorem Qr:uf K (fun x y H Q=>y=.non/\Q (.bl (!decide (x=.non))) H) gV:=fun H x y u v d Q rx ry hf=>by
 cases y<;>first | (cases hf; done) | skip
 have e:=QF rx
 refine ⟨!jJ x,(Option.some.inj hf).symm,fun q=>⟨ry,?_⟩⟩
 rw [<- e]
 exact q
theorem uz:∀ (G H:Hp) x u d (Q:VK),zU K G x u->xV x=some d->∃ w,(∀ G,zU K G d w)/\(Q w H->rU (fun i=>.int (-i)) u H Q):=fun G H x u d Q r hf=>by
 cases x<;>first | (cases hf; done) | skip
 cases hf
 exact ⟨_,fun _=>rfl,fun q=>⟨_,r,q⟩⟩
noncomputable def JK (K:PySem.W.Frag):R2:=fun x y H Q=>∃ l b xs zs,x=.ref l/\y=.ref b/\yT K H l xs/\yT K H b zs/\xs.length+zs.length<=sizeLine/\∀ p,H p=none->Q (.ref p) (zZ H p (.lst (xs++zs)))
theorem D4:yU X (binaryOp .Add) (JK X.K):=by
 intro pins s σ H x y v u Q I rx ry h
 obtain ⟨l,b,xs,zs,rfl,rfl,hl,hb,hz,q⟩:=h
 cases rx
 cases ry
 obtain ⟨its,r1,p1,_⟩:=I.list hl
 obtain ⟨its2,r2,p2,_⟩:=I.list hb
 obtain ⟨⟨c1,d1,t1,sl1⟩,n1,ho1,hc1,hd1,ht1⟩:=p1
 obtain ⟨⟨c2,d2,t2,sl2⟩,n2,ho2,hc2,hd2,ht2⟩:=p2
 simp only at hc1 ht1 hc2 ht2
 subst hc1 ht1 hc2 ht2
 refine concat_meets ⟨_,ho1,rfl⟩ ⟨_,ho2,rfl⟩ noFill_list_add seq_list_add PySem.F.slot_list_add PySem.F.entry_list_add (PySem.F.args_list_add_2 _ _)
  (list_addW l b its.toArray its2.toArray n1 n2 d1 d2 sl1 sl2 (by rw [List.size_toArray,List.size_toArray,<- r1.length,<- r2.length]; exact hz)) ⟨ho1,ho2,?_⟩
 rw [show its.toArray++its2.toArray=(its++its2).toArray by simp]
 exact ⟨.ref _,_,I.lnew (t':=s.toks) (r1.append r2) (by rw [List.length_append]; exact hz),rfl,q _ I.fresh⟩
noncomputable def JI (K:PySem.W.Frag):R2:=fun x y H Q=>ut (fun i j=>.int (i+j)) x y H Q\/(∃ i k,x=.int i/\y=.bl k/\Q (.int (i+b2i k)) H)\/(∃ i j,x=.str i/\y=.str j/\i.length+j.length<=sizeLine/\Q (.str (i++j)) H)\/JK K x y H Q\/JL K x y H Q
theorem zw:yU X (binaryOp .Add) (JI X.K):=D1.or (D2.or (D3.or (D4.or D5)))
theorem zv:vG K (JI K) zQ:=fun G H x y u v d Q s rx ry hf q=>by
 cases x<;>cases y<;>first | (cases hf; done) | skip
 ·rename_i i b
  cases rx
  cases ry
  cases hf
  refine .inr (.inl ⟨i,b,rfl,rfl,?_⟩)
  have e:i+b2i b=i+(if b then 1 else 0):=by cases b<;>rfl
  rw [e]
  exact q _ _ _ (zP.refl s) rfl
 ·cases hf
  exact .inl ⟨_,_,rx,ry,q _ _ _ (zP.refl s) rfl⟩
 ·rename_i i j
  obtain ⟨rfl,l1⟩:=rx
  obtain ⟨rfl,l2⟩:=ry
  change (if i.length+j.length<=yS then _ else _)=_ at hf
  by_cases c:i.length+j.length<=yS
  ·rw [if_pos c] at hf
   cases hf
   have c':i.length+j.length<=sizeLine:=by rw [sizeLine_eq]; exact c
   exact .inr (.inr (.inl ⟨i,j,rfl,rfl,c',q _ _ _ (zP.refl s) ⟨rfl,by rw [strLen_append]; exact c'⟩⟩))
  ·rw [if_neg c] at hf
   cases hf
 ·rename_i xs ys
  obtain ⟨a,vs,rfl,sa,ra,_⟩:=rx
  obtain ⟨b,us,rfl,sb,rb,_⟩:=ry
  change (if xs.isEmpty=false/\xs.length+ys.length<=yS then _ else _)=_ at hf
  by_cases c0:xs.isEmpty=false/\xs.length+ys.length<=yS
  ·rw [if_pos c0] at hf
   have c:=c0.2
   cases hf
   have c':(xs++ys).length<=sizeLine:=by rw [sizeLine_eq,List.length_append]; exact c
   have hx:vs≠[]:=fun e=>by
    have l:=ra.length
    rw [e] at l
    cases xs with
    | nil=>cases c0.1
    | cons=>cases l
   ·refine .inr (.inr (.inr (.inr ⟨a,b,vs,us,rfl,rfl,vZ s sa,vZ s sb,hx,by rw [ra.length,rb.length,sizeLine_eq]; exact c,fun e=>?_,fun e p hp=>?_⟩)))
    ·subst e
     have e2:ys=[]:=by
      cases ys with
      | nil=>rfl
      | cons=>obtain ⟨_,_,z,_⟩:=rb; cases z
     subst e2
     exact q _ _ _ (zP.refl s) ⟨a,vs,rfl,sa,by rw [List.append_nil]; exact ra,c'⟩
    ·exact q _ _ _ (zP.lay s hp) ⟨p,vs++us,rfl,yk.of xK,(ra.append rb).mono (wP (s.free hp) _),c'⟩
  ·rw [if_neg c0] at hf
   cases hf
 ·rename_i xs ys
  obtain ⟨a,vs,rfl,sa,ra,_⟩:=rx
  obtain ⟨b,us,rfl,sb,rb,_⟩:=ry
  change (if xs.length+ys.length<=yS then _ else _)=_ at hf
  by_cases c:xs.length+ys.length<=yS
  ·rw [if_pos c] at hf
   cases hf
   have c':(xs++ys).length<=sizeLine:=by rw [sizeLine_eq,List.length_append]; exact c
   refine .inr (.inr (.inr (.inl ⟨a,b,vs,us,rfl,rfl,vR s sa,vR s sb,by rw [ra.length,rb.length,sizeLine_eq]; exact c,fun p hp=>?_⟩)))
   exact q _ _ _ (zP.lay s hp) ⟨p,vs++us,rfl,yT.of xK,(ra.append rb).mono (wP (s.free hp) _),c'⟩
  ·rw [if_neg c] at hf
   cases hf
theorem OL {α:Type} {xs:List α} {i:Int} {x:α} (h:u4 xs i=some x):∃ j:Nat,xs[j]?=some x/\∀ {β:Type} (ys:List β),ys.length=xs.length->u4 ys i=ys[j]?:=by
 unfold u4 at h
 cases e:ixN xs.length i with
 | none=>rw [e] at h; cases h
 | some j=>
  rw [e] at h
  exact ⟨j,h,fun ys l=>by unfold u4; rw [l,e]; rfl⟩
theorem Ut {α:Type} (xs:List α) (i:Int):u4 xs i=xX xs i:=by
 unfold u4 xX ixN
 by_cases h:0<=i
 ·rw [if_pos h,if_pos h]
  by_cases h2:i<xs.length
  ·rw [if_pos h2]; rfl
  ·rw [if_neg h2]
   exact (List.getElem?_eq_none (by omega)).symm
 ·rw [if_neg h,if_neg h]
  split<;>rfl
theorem Y4 {H:Hp} {ds:List D} {vs:List V} {i:Int} {d:D} (r:Reps K H ds vs) (h:xX ds i=some d):∃ v,u4 vs i=some v/\zU K H d v:=by
 rw [<- Ut] at h
 obtain ⟨j,e,k⟩:=OL h
 obtain ⟨v,ev,rv⟩:=r.get e
 exact ⟨v,by rw [k vs r.length]; exact ev,rv⟩
noncomputable def LH:D->D->Option D
 | .lst xs,.int i=>xX xs i
 | .tup xs,.int i=>xX xs i
 | .str z,.int i=>(xX z.cps.toList i).bind fun c=>some (.str ⟨#[c]⟩)
 | _,_=>none
theorem Wz:vG K (VB K) LH:=fun G H x y u v d Q s rx ry hf q=>by
 cases x<;>first | (cases hf; done) | skip
 all_goals (cases y<;>first | (cases hf; done) | skip)
 ·rename_i z i
  obtain ⟨rfl,l⟩:=rx
  cases ry
  obtain ⟨c,hc,hf⟩:=zM hf
  cases hf
  rw [<- Ut] at hc
  exact .inr (.inr ⟨z,i,c,rfl,rfl,l,hc,q _ _ _ (zP.refl s) ⟨rfl,zW (n:=1) (by decide)⟩⟩)
 ·rename_i xs i
  obtain ⟨a,vs,rfl,sa,ra,_⟩:=rx
  cases ry
  obtain ⟨w,hw,rw_⟩:=Y4 ra hf
  exact .inr (.inl ⟨a,vs,i,w,rfl,rfl,vZ s sa,hw,q _ _ _ (zP.refl s) rw_⟩)
 ·rename_i xs i
  obtain ⟨a,vs,rfl,sa,ra,_⟩:=rx
  cases ry
  obtain ⟨w,hw,rw_⟩:=Y4 ra hf
  exact .inl ⟨a,vs,i,w,rfl,rfl,vR s sa,hw,q _ _ _ (zP.refl s) rw_⟩
theorem yu:xr X (.builtin "len") (fun xs H Q=>(∃ p ys,xs=[.ref p]/\(yT X.K H p ys\/yk X.K H p ys)/\Q (.int ys.length) H)\/∃ z,xs=[.str z]/\z.length<=sizeLine/\Q (.int z.length) H):=OY.or OZ
theorem xA:j0 K (fun xs H Q=>(∃ p ys,xs=[.ref p]/\(yT K H p ys\/yk K H p ys)/\Q (.int ys.length) H)\/∃ z,xs=[.str z]/\z.length<=sizeLine/\Q (.int z.length) H) yF:=fun G H ds vs d Q s r hf q=>by
 match ds,hf with
 | [.lst xs],hf=>
  cases hf
  obtain ⟨v,r',rfl,⟨a,us,rfl,sq,ru,_⟩,h2⟩:=r
  cases (show r'=[] from h2)
  exact .inl ⟨a,us,rfl,.inl sq,by rw [ru.length]; exact q _ _ _ (zP.refl s) rfl⟩
 | [.tup xs],hf=>
  cases hf
  obtain ⟨v,r',rfl,⟨a,us,rfl,sq,ru,_⟩,h2⟩:=r
  cases (show r'=[] from h2)
  exact .inl ⟨a,us,rfl,.inr sq,by rw [ru.length]; exact q _ _ _ (zP.refl s) rfl⟩
 | [.str z],hf=>
  cases hf
  obtain ⟨v,r',rfl,⟨rfl,l⟩,h2⟩:=r
  cases (show r'=[] from h2)
  exact .inr ⟨z,rfl,l,q _ _ _ (zP.refl s) rfl⟩
theorem BN:j0 K (fun xs H Q=>(∃ i,xs=[.int i]/\Q (.int i) H)\/∃ k,xs=[.bl k]/\Q (.int (if k then 1 else 0)) H) WJ:=fun G H ds vs d Q s r hf q=>by
 match ds,hf with
 | [.int i],hf=>
  cases hf
  obtain ⟨v,r',rfl,rfl,h2⟩:=r
  cases (show r'=[] from h2)
  exact .inl ⟨i,rfl,q _ _ _ (zP.refl s) rfl⟩
 | [.bl k],hf=>
  cases hf
  obtain ⟨v,r',rfl,rfl,h2⟩:=r
  cases (show r'=[] from h2)
  exact .inr ⟨k,rfl,q _ _ _ (zP.refl s) rfl⟩
end
end L3
namespace L3
open PySem PySem.Spec PyProof.Rows L2
theorem Ta:∀ xs ys:List D,(((List.range (min xs.length ys.length)).all fun j=>yG (xs.getD j .non) (ys.getD j .non))&&xs.length == ys.length)=dEqs xs ys
 | [],[]=>rfl
 | [],_::_=>rfl
 | _::_,[]=>rfl
 | x::xs,y::ys=>by
  have ih:=Ta xs ys
  show _=(yG x y&&dEqs xs ys)
  rw [<- ih,List.length_cons,List.length_cons,Nat.succ_min_succ,List.range_succ_eq_map,List.all_cons,List.all_map,Bool.and_assoc]
  congr 1
  congr 1
  rw [Bool.eq_iff_iff]
  simp
theorem TN {f:D->D->Bool}:∀ {xs ys:List D},vj f xs ys=true->∀ (j:Nat) x y,xs[j]?=some x->ys[j]?=some y->f x y=true
 | [],_,_,j,x,y,e,_=>by cases e
 | x::xs,[],_,j,_,y,_,e=>by cases e
 | x::xs,y::ys,h,0,_,_,e1,e2=>by
  cases e1
  cases e2
  have h':(f x y&&vj f xs ys)=true:=h
  rw [Bool.and_eq_true] at h'
  exact h'.1
 | x::xs,y::ys,h,j+1,a,b,e1,e2=>by
  have h':(f x y&&vj f xs ys)=true:=h
  rw [Bool.and_eq_true] at h'
  exact TN h'.2 j a b (by simpa using e1) (by simpa using e2)
section
variable {X:Cx} {pins:List (Addr×Obj)} {σ:St} {H:Hp} {s:Shared} {K:PySem.W.Frag}
theorem WC {n:Nat} (ih:∀ d1 d2 v,wK n d1 d2=true->zU K H d1 v->zU K H d2 v->yG d1 d2=true):∀ {xs ys:List D} {vs:List V},vj (wK n) xs ys=true->Reps K H xs vs->Reps K H ys vs->dEqs xs ys=true
 | [],[],_,_,_,_=>rfl
 | [],_::_,_,_,r1,r2=>by
  cases (show _=[] from r1)
  obtain ⟨_,_,e,_⟩:=r2
  cases e
 | _::_,[],_,_,r1,r2=>by
  cases (show _=[] from r2)
  obtain ⟨_,_,e,_⟩:=r1
  cases e
 | x::xs,y::ys,_,h,r1,r2=>by
  obtain ⟨v,r,rfl,a,b⟩:=r1
  obtain ⟨v',r',e,a',b'⟩:=r2
  cases e
  have h':(wK n x y&&vj (wK n) xs ys)=true:=h
  rw [Bool.and_eq_true] at h'
  show (yG x y&&dEqs xs ys)=true
  rw [ih x y v h'.1 a a',WC ih h'.2 b b']
  rfl
theorem Xw {n:Nat} {x y:D} (h:wK (n+1) x y=true):(∃ xs ys,x=.tup xs/\y=.tup ys/\vj (wK n) xs ys=true)\/(∃ xs ys,x=.lst xs/\y=.lst ys/\vj (wK n) xs ys=true)\/(xF x=true/\xF y=true):=by
 unfold wK at h
 split at h
 ·exact .inl ⟨_,_,rfl,rfl,h⟩
 ·exact .inr (.inl ⟨_,_,rfl,rfl,h⟩)
 ·rw [Bool.and_eq_true] at h
  exact .inr (.inr h)
theorem jc {d:D} {v:V} (h:xF d=true) (r:zU K H d v):uT v=true:=by
 cases d<;>first | exact absurd h Bool.false_ne_true | skip
 ·cases (show v=_ from r); rfl
 ·cases (show v=_ from r); rfl
 ·cases (show v=_ from r); rfl
 ·cases (show v=_/\_ from r).1; rfl
theorem VG {d1 d2:D} {x y:V} (h1:xF d1=true) (h2:xF d2=true) (r1:zU K H d1 x) (r2:zU K H d2 y):u7 x y=yG d1 d2:=by
 cases d1<;>first | exact absurd h1 Bool.false_ne_true | skip
 all_goals (cases d2<;>first | exact absurd h2 Bool.false_ne_true | skip)
 all_goals first
  | (cases (show x=_ from r1); cases (show y=_ from r2); rfl)
  | (cases (show x=_ from r1); cases (show y=_/\_ from r2).1; rfl)
  | (cases (show x=_/\_ from r1).1; cases (show y=_ from r2); rfl)
  | (cases (show x=_/\_ from r1).1; cases (show y=_/\_ from r2).1; rfl)
theorem ZK (I:zC X pins σ H s):∀ (n:Nat) (d1 d2:D) (v:V),wK n d1 d2=true->zU X.K H d1 v->zU X.K H d2 v->yG d1 d2=true
 | 0,_,_,_,h,_,_=>by cases h
 | n+1,d1,d2,v,h,r1,r2=>by
  rcases Xw h with ⟨xs,ys,rfl,rfl,h⟩ | ⟨xs,ys,rfl,rfl,h⟩ | ⟨f1,f2⟩
  ·obtain ⟨a,vs,rfl,s1,q1,_⟩:=r1
   obtain ⟨a',us,e,s2,q2,_⟩:=r2
   cases e
   cases I.tuple_inj s1 s2
   exact WC (fun d1 d2 v=>ZK I n d1 d2 v) h q1 q2
  ·obtain ⟨a,vs,rfl,s1,q1,_⟩:=r1
   obtain ⟨a',us,e,s2,q2,_⟩:=r2
   cases e
   cases I.list_inj s1 s2
   exact WC (fun d1 d2 v=>ZK I n d1 d2 v) h q1 q2
  ·rw [<- VG f1 f2 r1 r2]
   exact L7 (jc f1 r1)
theorem T_ {α:Type} {xs:List α} {j:Nat} {x d:α} (h:xs[j]?=some x):xs.getD j d=x:=by rw [List.getD_eq_getElem?_getD,h]; rfl
theorem Y3 {A:Around} {n:Nat} {a c:Addr} {xs ys:List D} {vs us:List V} (I:zC X pins σ H s) (hu:A.units<cLine) (hq:Um X.K H a c vs us) (q1:Reps X.K H xs vs) (q2:Reps X.K H ys us) (h:vj (wK n) xs ys=true)
  (ih:∀ (d1 d2:D) (x y:V) (u v:Value),wK n d1 d2=true->zU X.K H d1 x->zU X.K H d2 y->zm x u->zm y v->SeqAt.EqAt A.in1 s u v (yG d1 d2)):SeqAt.RcAt A s (.ref a) (.ref c) (dEqs xs ys)/\SeqAt.RcNeAt A s (.ref a) (.ref c) (!dEqs xs ys):=by
 have z:=C6 (A:=A) (e:=fun j=>yG (xs.getD j .non) (ys.getD j .non)) I hu hq fun j x' y' u' v' e1 e2 w1 w2=>by
  obtain ⟨d1,g1,t1⟩:=q1.at e1
  obtain ⟨d2,g2,t2⟩:=q2.at e2
  show SeqAt.EqAt A.in1 s u' v' (yG (xs.getD j .non) (ys.getD j .non))
  rw [T_ g1,T_ g2]
  exact ih d1 d2 x' y' u' v' (TN h j d1 d2 g1 g2) t1 t2 w1 w2
 rw [q1.length,q2.length,Ta] at z
 exact z
theorem ZJ (I:zC X pins σ H s):∀ (n:Nat) (A:Around) (d1 d2:D) (x y:V) (u v:Value),A.units+n<cLine->wK n d1 d2=true->zU X.K H d1 x->zU X.K H d2 y->zm x u->zm y v->SeqAt.EqAt A s u v (yG d1 d2)
 | 0,_,_,_,_,_,_,_,_,h,_,_,_,_=>by cases h
 | n+1,A,d1,d2,x,y,u,v,hu,h,r1,r2,rx,ry=>by
  have h0:=h
  have ra:=r1
  have rb:=r2
  rcases Xw h with ⟨xs,ys,rfl,rfl,h⟩ | ⟨xs,ys,rfl,rfl,h⟩ | ⟨f1,f2⟩
  ·obtain ⟨a,vs,rfl,s1,q1,l1⟩:=r1
   obtain ⟨c,us,rfl,s2,q2,l2⟩:=r2
   cases (show u=Value.ref a from rx)
   cases (show v=Value.ref c from ry)
   by_cases hac:a=c
   ·subst hac
    rw [ZK I (n+1) _ _ _ h0 ra rb]
    exact SeqAt.EqAt.same _
   ·exact SeqAt.EqAt.of_refs hac (Y3 I (by omega) (.inl ⟨s1,s2⟩) q1 q2 h fun d1 d2 x y u v hh t1 t2 w1 w2=>ZJ I n A.in1 d1 d2 x y u v (by rw [ZX]; omega) hh t1 t2 w1 w2).1
  ·obtain ⟨a,vs,rfl,s1,q1,l1⟩:=r1
   obtain ⟨c,us,rfl,s2,q2,l2⟩:=r2
   cases (show u=Value.ref a from rx)
   cases (show v=Value.ref c from ry)
   by_cases hac:a=c
   ·subst hac
    rw [ZK I (n+1) _ _ _ h0 ra rb]
    exact SeqAt.EqAt.same _
   ·exact SeqAt.EqAt.of_refs hac (Y3 I (by omega) (.inr ⟨s1,s2⟩) q1 q2 h fun d1 d2 x y u v hh t1 t2 w1 w2=>ZJ I n A.in1 d1 d2 x y u v (by rw [ZX]; omega) hh t1 t2 w1 w2).1
  ·rw [<- VG f1 f2 r1 r2]
   exact To rx ry (jc f1 r1) (jc f2 r2)
end
noncomputable def Z_ (K:PySem.W.Frag) (neg:Bool):R2:=fun x y H Q=>∃ d1 d2 k,zU K H d1 x/\zU K H d2 y/\uQ d1 d2=some k/\Q (.bl (if neg then !k else k)) H
theorem yR {A:Around} {k:Nat} (hr:xB k A):A.units+7<cLine:=Nat.lt_of_le_of_lt (Nat.add_le_add_left (by decide:7<=64) _) hr.units
section
variable {X:Cx} {K:PySem.W.Frag}
theorem WE {d1 d2:D} {k:Bool} (h:uQ d1 d2=some k):wK 6 d1 d2=true/\k=yG d1 d2:=by
 unfold uQ at h
 split at h
 ·cases h
 ·cases h
 ·split at h
  ·rename_i e
   cases h
   exact ⟨e,rfl⟩
  ·cases h
theorem Js {H:Hp} {d1 d2:D} {x y:V} {k:Bool} (h:uQ d1 d2=some k) (h1:xF d1=true) (h2:xF d2=true) (r1:zU K H d1 x) (r2:zU K H d2 y):U3 x y=true/\decide (x=y)=k:=by
 obtain ⟨_,e⟩:=WE h
 subst e
 cases d1<;>first | exact absurd h1 Bool.false_ne_true | skip
 all_goals (cases d2<;>first | exact absurd h2 Bool.false_ne_true | (cases h; done) | skip)
 all_goals first
  | (cases (show x=_ from r1); cases (show y=_ from r2); exact ⟨rfl,by first | rfl | exact W3 | exact Xz⟩)
  | (cases (show x=_ from r1); cases (show y=_/\_ from r2).1; exact ⟨rfl,rfl⟩)
  | (cases (show x=_/\_ from r1).1; cases (show y=_ from r2); exact ⟨rfl,rfl⟩)
  | (cases (show x=_/\_ from r1).1; cases (show y=_/\_ from r2).1; exact ⟨rfl,W4⟩)
theorem Tp {pins:List (Addr×Obj)} {σ:St} {H:Hp} {s:Shared} {A:Around} {d1 d2:D} {x y:V} {u v:Value} (I:zC X pins σ H s) (hu:A.units+7<cLine) (h:wK 6 d1 d2=true) (hf:¬ (xF d1&&xF d2)=true) (r1:zU X.K H d1 x) (r2:zU X.K H d2 y) (rx:zm x u) (ry:zm y v) :
  SeqAt.RcAt A s u v (yG d1 d2)/\SeqAt.RcNeAt A s u v (!yG d1 d2):=by
 rcases Xw h with ⟨xs,ys,rfl,rfl,h⟩ | ⟨xs,ys,rfl,rfl,h⟩ | ⟨f1,f2⟩
 ·obtain ⟨a,vs,rfl,s1,q1,l1⟩:=r1
  obtain ⟨c,us,rfl,s2,q2,l2⟩:=r2
  cases (show u=Value.ref a from rx)
  cases (show v=Value.ref c from ry)
  exact Y3 I (by omega) (.inl ⟨s1,s2⟩) q1 q2 h fun d1 d2 x y u v hh t1 t2 w1 w2=>ZJ I 5 A.in1 d1 d2 x y u v (by rw [ZX]; omega) hh t1 t2 w1 w2
 ·obtain ⟨a,vs,rfl,s1,q1,l1⟩:=r1
  obtain ⟨c,us,rfl,s2,q2,l2⟩:=r2
  cases (show u=Value.ref a from rx)
  cases (show v=Value.ref c from ry)
  exact Y3 I (by omega) (.inr ⟨s1,s2⟩) q1 q2 h fun d1 d2 x y u v hh t1 t2 w1 w2=>ZJ I 5 A.in1 d1 d2 x y u v (by rw [ZX]; omega) hh t1 t2 w1 w2
 ·exact absurd (by rw [f1,f2]; rfl) hf
theorem yc (hu:X.A.units+7<cLine):yU X (compareOp .Eq) (Z_ X.K false):=by
 intro pins s σ H x y v u Q I rx ry h
 obtain ⟨d1,d2,k,r1,r2,hk,q⟩:=h
 by_cases hf:(xF d1&&xF d2)=true
 ·have hf':=hf
  rw [Bool.and_eq_true] at hf'
  obtain ⟨a,b⟩:=Js hk hf'.1 hf'.2 r1 r2
  exact D6 pins s σ H x y v u Q I rx ry ⟨a,by rw [b]; exact q⟩
 ·obtain ⟨hc,rfl⟩:=WE hk
  exact (Tp I hu hc hf r1 r2 rx ry).1 _ _ _ _ ⟨.bl _,H,I,rfl,q⟩
theorem qg (hu:X.A.units+7<cLine):yU X (compareOp .NotEq) (Z_ X.K true):=by
 intro pins s σ H x y v u Q I rx ry h
 obtain ⟨d1,d2,k,r1,r2,hk,q⟩:=h
 by_cases hf:(xF d1&&xF d2)=true
 ·have hf':=hf
  rw [Bool.and_eq_true] at hf'
  obtain ⟨a,b⟩:=Js hk hf'.1 hf'.2 r1 r2
  exact DF pins s σ H x y v u Q I rx ry ⟨a,by rw [b]; exact q⟩
 ·obtain ⟨hc,rfl⟩:=WE hk
  exact (Tp I hu hc hf r1 r2 rx ry).2 _ _ _ _ ⟨.bl _,H,I,rfl,q⟩
theorem yb:uf K (Z_ K false) zL:=fun H x y u v d Q rx ry hf=>by
 obtain ⟨k,hk,hf⟩:=zM hf
 cases hf
 exact ⟨_,rfl,fun q=>⟨x,y,k,rx,ry,hk,q⟩⟩
theorem qc:uf K (Z_ K true) xP:=fun H x y u v d Q rx ry hf=>by
 obtain ⟨k,hk,hf⟩:=zM hf
 cases hf
 exact ⟨_,rfl,fun q=>⟨x,y,k,rx,ry,hk,q⟩⟩
end
theorem Mb {K:PySem.W.Frag}:PySem.W.kitOne K (.type "NoneType") (.type "str")=some false/\PySem.W.kitOne K (.type "NoneType") (.type "list")=some false/\PySem.W.kitOne K (.type "NoneType") (.type "tuple")=some false/\
  PySem.W.kitOne K (.type "bool") (.type "str")=some false/\PySem.W.kitOne K (.type "bool") (.type "list")=some false/\PySem.W.kitOne K (.type "bool") (.type "tuple")=some false/\
  PySem.W.kitOne K (.type "int") (.type "str")=some false/\PySem.W.kitOne K (.type "int") (.type "list")=some false/\PySem.W.kitOne K (.type "int") (.type "tuple")=some false:=by refine ⟨?_,?_,?_,?_,?_,?_,?_,?_,?_⟩<;>kernel_rfl
theorem Mc {K:PySem.W.Frag}:PySem.W.kitOne K (.type "str") (.type "int")=some false/\PySem.W.kitOne K (.type "str") (.type "bool")=some false/\PySem.W.kitOne K (.type "str") (.type "list")=some false/\PySem.W.kitOne K (.type "str") (.type "tuple")=some false/\
  PySem.W.kitOne K (.type "list") (.type "int")=some false/\PySem.W.kitOne K (.type "list") (.type "bool")=some false/\PySem.W.kitOne K (.type "list") (.type "str")=some false/\PySem.W.kitOne K (.type "list") (.type "tuple")=some false/\PySem.W.kitOne K (.type "list") (.type "list")=some true:=by refine ⟨?_,?_,?_,?_,?_,?_,?_,?_,?_⟩<;>first | kernel_rfl | rfl
theorem Md {K:PySem.W.Frag}:PySem.W.kitOne K (.type "tuple") (.type "int")=some false/\PySem.W.kitOne K (.type "tuple") (.type "bool")=some false/\PySem.W.kitOne K (.type "tuple") (.type "list")=some false/\PySem.W.kitOne K (.type "tuple") (.type "str")=some false:=by refine ⟨?_,?_,?_,?_⟩<;>kernel_rfl
noncomputable def Ev:D->String
 | .non => "NoneType"
 | .bl _ => "bool"
 | .int _ => "int"
 | .str _ => "str"
 | .tup _ => "tuple"
 | .lst _ => "list"
 | .dic _ _ => "dict"
 | .exc _ => "x"
 | .obj _ _ _ => "x"
theorem jN {K:PySem.W.Frag} {T:qK} {d:D} {b:Bool} (h:Za T d=some b):PySem.W.kitOne K (.type (Ev d)) (.type T.nm)=some b:=by
 obtain ⟨x1,x2,x3,x4,x5,x6,x7,x8,x9⟩:=Mb (K:=K)
 obtain ⟨y1,y2,y3,y4,y5,y6,y7,y8,y9⟩:=Mc (K:=K)
 obtain ⟨z1,z2,z3,z4⟩:=Md (K:=K)
 cases T<;>cases d<;>cases h
 all_goals first | exact MW | exact MU | exact MV | exact MT | exact MY | exact MX | exact Ma | exact MZ | assumption
noncomputable def Fw (K:PySem.W.Frag) (T:qK):List V->Hp->VK->Prop:=fun xs H Q=>∃ x d b,xs=[x,.ty T.nm]/\zU K H d x/\Za T d=some b/\Q (.bl b) H
theorem OX {X:Cx} (T:qK):xr X (.builtin "isinstance") (Fw X.K T):=by
 intro pins s σ H xs us Q I r h
 obtain ⟨x,d,b,rfl,rd,e,q⟩:=h
 obtain ⟨u,c,rfl,rx,rc⟩:=YT r
 cases (show c=Value.type T.nm from rc)
 have fin:∀ tk,EP X pins σ Q (.bool b) { s with toks:=tk }:=fun tk=>⟨.bl b,H,I.tok tk,rfl,q⟩
 cases d with
 | non=>cases (show x=_ from rd); exact Zb I rx .non (jN (d:=.non) e) fin
 | bl y=>cases (show x=_ from rd); exact Zb I rx (.bl _) (jN (d:=.bl y) e) fin
 | int y=>cases (show x=_ from rd); exact Zb I rx (.int _) (jN (d:=.int y) e) fin
 | str y=>cases (show x=_/\_ from rd).1; exact Zb I rx (.str _) (jN (d:=.str y) e) fin
 | tup ds=>
  obtain ⟨a,vs,rfl,sq,_⟩:=rd
  cases (show u=Value.ref a from rx)
  obtain ⟨its,_,⟨o,h1,h2,_⟩,_⟩:=I.tuple sq
  exact PySem.W.kia_one PySem.W.kitx_tuple I.kIn ⟨o,h1,h2⟩ (jN (d:=.tup ds) e) (fun z=>nomatch z) fin
 | lst ds=>
  obtain ⟨a,vs,rfl,sq,_⟩:=rd
  cases (show u=Value.ref a from rx)
  obtain ⟨its,_,⟨o,n,h1,h2,_⟩,_⟩:=I.list sq
  exact PySem.W.kia_one PySem.W.kitx_list I.kIn ⟨o,h1,h2⟩ (jN (d:=.lst ds) e) (fun z=>nomatch z) fin
 | dic ks ds=>cases T<;>cases e
 | exc _=>cases T<;>cases e
 | obj _ _ _=>cases T<;>cases e
theorem pT {X:Cx} {a:Expr} {f:FE} {x:Str} {p p1 pos:Pos} (T:qK) (hg:Gl X "isinstance") (hgT:Gl X x) (hm:X.mg "isinstance" = none) (hmT:X.mg x=none) (hv:bootBuiltins x=some (.type T.nm)) (ha:SB X a f) (hs:ya a=true:=by rfl)
  (hn:x ≠ "__name__" := by decide) (hd:(x == ("__debug__" : Str))=false:=by decide):SE X (.Call (.Name "isinstance" p) [a,.Name x p1] [] pos) (tM T f):=by
 obtain ⟨t,pt,k⟩:=ha.h
 refine ⟨⟨_,(Zz (OX T) hg hm Xt (jZ ⟨pt⟩ (jZ (JF hgT hmT hv hn hd) V7 rfl) hs) (by decide) (by decide) (by rw [List.all_cons,hs]; rfl)).h,fun {G0 H0 G H τ σ d Q} E hf q=>?_⟩⟩
 obtain ⟨z,hz,hf⟩:=zM hf
 obtain ⟨b,hb,hf⟩:=zM hf
 cases hf
 exact k E hz fun v G' H' x r=>⟨v,z,b,rfl,r,hb,q _ _ _ x rfl⟩
end L3
namespace L3
open PySem
theorem tX {g:FG} {b:FS} (P:Nat->yD->Prop):∀ {ds:List D} {σ:yD} (n:Nat),P n σ->(∀ i d σ,ds[i]?=some d->P (n+i) σ->∃ σ1 σ2,g d σ=some σ1/\(b σ1=some (.nx σ2)\/b σ1=some (.ct σ2))/\P (n+i+1) σ2)->
  ∃ σ',xN g b ds σ=some (.nx σ')/\P (n+ds.length) σ'
 | [],σ,n,h,_=>⟨σ,rfl,h⟩
 | d::ds,σ,n,h,step=>by
  obtain ⟨σ1,σ2,e1,e2,p2⟩:=step 0 d σ rfl h
  obtain ⟨σ',e3,p3⟩:=tX P (ds:=ds) (σ:=σ2) (n+1) p2 fun i d' τ hd hp=>by
   obtain ⟨a,b',c1,c2,c3⟩:=step (i+1) d' τ (by simpa using hd) (by rw [show n+(i+1)=n+1+i by omega]; exact hp)
   exact ⟨a,b',c1,c2,by rw [show n+1+i+1=n+(i+1)+1 by omega]; exact c3⟩
  refine ⟨σ',?_,by rw [List.length_cons,show n+(ds.length+1)=n+1+ds.length by omega]; exact p3⟩
  show (g d σ).bind _=_
  rw [e1]
  show (b σ1).bind _=_
  rcases e2 with e2 | e2
  ·rw [e2]; exact e3
  ·rw [e2]; exact e3
theorem yh {a b:FS} {σ σ':yD} (h:a σ=some (.nx σ')):zI a b σ=b σ':=by
 show (a σ).bind _=_
 rw [h]
 rfl
theorem M0 {c:FT} {a b:FS} {σ:yD} (h:c σ=some true):zX c a b σ=a σ:=by
 show (c σ).bind _=_
 rw [h]
 rfl
noncomputable abbrev xG (j:Nat):List D:=(List.range j).map fun k:Nat=>D.int k
theorem uZ {f:FE} {τ:yD} {n:Int} (h:f τ=some (.int n)) (h1:n.natAbs<=1000000):xm (eC (.int 0)) f τ=some (xG n.toNat):=by
 unfold xm
 rw [h]
 show (if (0:Int).natAbs<=yS/\n.natAbs<=yS/\(n - 0).toNat<=yS then _ else _)=_
 rw [if_pos ⟨by decide,by show _<=16777216; omega,by show _<=16777216; omega⟩,Int.sub_zero]
 simp only [Int.zero_add]
end L3
namespace L3
noncomputable def shx:=
 And.intro yi.eq_1 <| And.intro zI.eq_1 <| And.intro zT.eq_1 <| And.intro vP.eq_1 <| And.intro zd.eq_1 <| And.intro qh.eq_1 <| And.intro pN.eq_1 <| And.intro zX.eq_1 <| And.intro zk.eq_1 <| And.intro ua.eq_1 <|
 And.intro CF.eq_1 <| And.intro wT.eq_1 <| And.intro vO.eq_1 <| And.intro xN.eq_1 <| And.intro xN.eq_2 <| And.intro e1.eq_1 <| And.intro e2.eq_1 <| And.intro eL.eq_1 <| And.intro eC.eq_1 <| And.intro z8.eq_1 <| And.intro wz.eq_1 <|
 And.intro z7.eq_1 <| And.intro zD.eq_1 <| And.intro tE.eq_1 <| And.intro j7.eq_def <| And.intro xT.eq_1 <| And.intro vb.eq_1 <| And.intro uJ.eq_1 <| And.intro ul.eq_1 <| And.intro L0.eq_1 <| And.intro W9.eq_1 <| And.intro gR.eq_1 <|
 And.intro qR.eq_1 <| And.intro zu.eq_1 <| And.intro tM.eq_1 <| And.intro Za.eq_def <| And.intro fI.eq_def <| And.intro WO.eq_def <| And.intro xU.eq_def <| And.intro qU.eq_1 <| And.intro ZM.eq_1 <| And.intro vK.eq_1 <| And.intro qS.eq_1 <|
 And.intro LI.eq_1 <| And.intro WM.eq_1 <| And.intro LJ.eq_1 <| And.intro LG.eq_def <| And.intro xV.eq_def <| And.intro yF.eq_def <| And.intro WJ.eq_def <| And.intro jD.eq_def <| And.intro gV.eq_def <| And.intro jJ.eq_def <|
 And.intro zb.eq_1 <| And.intro y_.eq_1 <| And.intro w8.eq_1 <| And.intro zR.eq_1 <| And.intro ZH.eq_1 <| And.intro yx.eq_1 <|
 And.intro @Option.bind_some.{0,0} <| And.intro @Option.bind_none.{0,0} <| And.intro @List.getElem?_cons_zero.{0} <| And.intro @List.getElem?_cons_succ.{0} <| And.intro @List.set_cons_zero.{0} <| And.intro @List.set_cons_succ.{0} <| And.intro @List.map_cons.{0,0} <| And.intro @List.map_nil.{0,0} <|
 And.intro @List.cons_append.{0} <| And.intro @List.nil_append.{0} <| And.intro @List.length_cons.{0} <| And.intro @List.length_nil.{0} <| And.intro @List.replicate_zero.{0} <| And.intro @List.replicate_succ.{0} <| And.intro Bool.not_true <| And.intro Bool.not_false <|
 And.intro @decide_true <| And.intro @decide_false <| And.intro Bool.and_self <| And.intro Bool.and_true Bool.true_and
end L3
namespace L3
open PySem PySem.Spec PyProof.Rows L2
section
variable {α:Type}
theorem Ix:∀ {ks:List zY} {vs:List α} (k:zY),ks.length=vs.length->((ks.zip vs).any fun kv=>decide (kv.1=k))=xI ks k
 | [],[],_,_=>rfl
 | k'::ks,v::vs,k,h=>by
  have ih:=Ix (ks:=ks) (vs:=vs) k (by simpa using h)
  show (decide (k'=k)||((ks.zip vs).any fun kv=>decide (kv.1=k)))=(decide (k'=k)||xI ks k)
  rw [ih]
theorem jp:∀ {ks:List zY} {vs:List V} (k:zY),ks.length=vs.length->wQ (ks.zip vs) k=getK ks vs k
 | [],[],_,_=>rfl
 | k'::ks,v::vs,k,h=>by
  have ih:=jp (ks:=ks) (vs:=vs) k (by simpa using h)
  by_cases e:k'=k
  ·rw [List.zip_cons_cons,qt (p:=(k',v)) e]
   show _=(if k'=k then some v else _)
   rw [if_pos e]
  ·rw [List.zip_cons_cons,qr (p:=(k',v)) e,ih]
   show _=(if k'=k then some v else _)
   rw [if_neg e]
theorem O0:∀ {ks:List zY} {vs:List V} (k:zY) (v:V),ks.length=vs.length->((ks.zip vs).map fun kv=>if kv.1=k then (kv.1,v) else kv)=ks.zip (List.zipWith (fun k' x=>if k'=k then v else x) ks vs)
 | [],[],_,_,_=>rfl
 | k'::ks,u::vs,k,v,h=>by
  have ih:=O0 (ks:=ks) (vs:=vs) k v (by simpa using h)
  rw [List.zip_cons_cons,List.map_cons,ih,List.zipWith_cons_cons,List.zip_cons_cons]
  by_cases e:k'=k
  ·rw [if_pos e,if_pos e]
  ·rw [if_neg e,if_neg e]
theorem GF {ks:List zY} {vs:List V} {k:zY} {v:V} (h:ks.length=vs.length):wO (ks.zip vs) k v=(vq ks k).zip (vN ks vs k v):=by
 unfold wO vq vN
 rw [Ix k h]
 by_cases c:xI ks k=true
 ·rw [if_pos c,if_pos c,if_pos c,O0 k v h]
 ·rw [if_neg c,if_neg c,if_neg c,List.zip_append h]
  rfl
theorem V6 {ks:List zY} {vs:List α} {k:zY} {v:α} (h:ks.length=vs.length):(vq ks k).length=(vN ks vs k v).length:=by
 unfold vq vN
 split
 ·rw [List.length_zipWith,h,Nat.min_self]
 ·rw [List.length_append,List.length_append,h]
  rfl
theorem Fd {ks:List zY} {vs:List α} {k:zY} {v:α} (h:ks.length=vs.length):(vN ks vs k v).length<=vs.length+1:=by
 unfold vN
 split
 ·rw [List.length_zipWith,h,Nat.min_self]
  exact Nat.le_succ _
 ·rw [List.length_append]
  exact Nat.le_refl _
end
section
variable {K:PySem.W.Frag} {G H:Hp}
theorem Reps.getK:∀ {ks:List zY} {ds:List D} {vs:List V} {k:zY} {d:D},Reps K H ds vs->getK ks ds k=some d->∃ v,getK ks vs k=some v/\zU K H d v
 | [],_,_,_,_,_,e=>by cases e
 | _::_,[],_,_,_,_,e=>by cases e
 | k'::ks,d'::ds,_,k,d,r,e=>by
  obtain ⟨v,r',rfl,hv,hr⟩:=r
  change (if k'=k then some d' else L3.getK ks ds k)=some d at e
  by_cases c:k'=k
  ·rw [if_pos c] at e
   cases e
   exact ⟨v,by show (if k'=k then some v else _)=_; rw [if_pos c],hv⟩
  ·rw [if_neg c] at e
   obtain ⟨u,hu,ru⟩:=Reps.getK hr e
   exact ⟨u,by show (if k'=k then some v else _)=_; rw [if_neg c]; exact hu,ru⟩
theorem WU {α:Type}:∀ {ks:List zY} {vs:List α} (k:zY),ks.length=vs.length->(getK ks vs k).isSome=xI ks k
 | [],[],_,_=>rfl
 | k'::ks,v::vs,k,h=>by
  have ih:=WU (ks:=ks) (vs:=vs) k (by simpa using h)
  show (if k'=k then some v else getK ks vs k).isSome=(decide (k'=k)||_)
  by_cases c:k'=k
  ·rw [if_pos c,decide_eq_true c]; rfl
  ·rw [if_neg c,decide_eq_false c,ih]; rfl
theorem Reps.zipW {k:zY} {d:D} {v:V} (hv:zU K H d v):∀ {ks:List zY} {ds:List D} {vs:List V},Reps K H ds vs->Reps K H (List.zipWith (fun k' x=>if k'=k then d else x) ks ds) (List.zipWith (fun k' x=>if k'=k then v else x) ks vs)
 | [],_,_,_=>rfl
 | _::_,[],_,r=>by cases (show _=[] from r); rfl
 | k'::ks,d'::ds,_,r=>by
  obtain ⟨u,r',rfl,hu,hr⟩:=r
  refine ⟨_,_,rfl,?_,Reps.zipW hv hr⟩
  show zU K H (if k'=k then d else d') (if k'=k then v else u)
  by_cases c:k'=k
  ·rw [if_pos c,if_pos c]; exact hv
  ·rw [if_neg c,if_neg c]; exact hu
theorem Reps.put {ks:List zY} {ds:List D} {vs:List V} {k:zY} {d:D} {v:V} (r:Reps K H ds vs) (hv:zU K H d v):Reps K H (vN ks ds k d) (vN ks vs k v):=by
 unfold vN
 split
 ·exact Reps.zipW hv r
 ·exact r.append (Reps.one hv)
theorem jM {x:D} {k:zY} {u:V} (h:qZ x=some k) (r:zU K H x u):u=kV k:=by
 cases x<;>first | (cases h; done) | skip
 ·cases h; exact r
 ·cases h; exact (show u=_/\_ from r).1
end
section
variable {X:Cx} {K:PySem.W.Frag}
noncomputable def JN:R2:=fun x y H Q=>∃ a kvs k v,x=.ref a/\y=kV k/\Rd H a (.dK kvs)/\wQ kvs k=some v/\Q v H
theorem ME:vf X JN:=by
 intro value slice pins s σ H x y v u Q I rx ry h hs
 obtain ⟨a,kvs,k,z,rfl,rfl,e,l,q⟩:=h
 cases rx
 obtain ⟨_,_,vs,rel,dd⟩:=gQ I.hok e
 obtain ⟨w',hw,rw'⟩:=uO.some_of (v:=z) (o:=valueAt vs k) (by rw [<- l]; exact rel.val k)
 exact subscriptTail_builtinR (x:=w') (Ow I (.inl ⟨kvs,k,e,rfl,rfl⟩)) PySem.F.slot_dict_getitem.lookup
  (wpAny_getItem_of (Q:=fun r s'=>r=w'/\EP X pins σ Q r s') (qY ry) dd.mapOf hw ⟨rfl,z,H,I.tok _,rw',q⟩) hs
noncomputable def JM (K:PySem.W.Frag):R2:=fun x y H Q=>VB K x y H Q\/JN x y H Q
theorem zn (_:X.A.units+1<cLine):vf X (JM X.K):=MG.or ME
theorem zp:vG K (JM K) zH:=fun G H x y u v d Q s rx ry hf q=>by
 cases x with
 | dic ks ds=>
  obtain ⟨a,vs,rfl,sq,l,rs,_⟩:=rx
  obtain ⟨k,hk,hf⟩:=zM hf
  obtain ⟨z,hz,rz⟩:=rs.getK hf
  exact .inr ⟨a,_,k,z,rfl,jM hk ry,Rd.mono s sq,by rw [jp k l]; exact hz,q _ _ _ (zP.refl s) rz⟩
 | non=>cases hf
 | bl b=>cases hf
 | int b=>cases hf
 | str z=>exact .inl (Wz G H (.str z) y u v d Q s rx ry (by cases y<;>exact hf) q)
 | tup z=>exact .inl (Wz G H (.tup z) y u v d Q s rx ry (by cases y<;>exact hf) q)
 | lst z=>exact .inl (Wz G H (.lst z) y u v d Q s rx ry (by cases y<;>exact hf) q)
 | exc z=>cases hf
 | obj z _ _=>cases hf
theorem Cg {i:Nat} {x:Str} {p pos:Pos} {b:Expr} {fb:FE} (hu:X.A.units+1<cLine) (ho:QE X (.Name x p) (qq i)) (hb:SE X b fb) (hs:jW b=true:=by rfl):SE X (.Subscript (.Name x p) b pos) (e2 zH (wz i) fb):=by
 obtain ⟨tb,pb,kb⟩:=hb.h
 refine ⟨⟨_,V1 (zn hu) ho.h pb (Zy hs),fun {G0 H0 G H τ σ d Q} E hf q=>?_⟩⟩
 obtain ⟨x,hx,hf⟩:=zM hf
 obtain ⟨y,hy,hf⟩:=zM hf
 obtain ⟨o,ho⟩:=Tj hx
 cases o with
 | false=>
  obtain ⟨v,ev,rv⟩:=E.fr _ _ ho
  exact ⟨v,ev,kb E hy fun u G2 H2 x2 r2=>zp G2 H2 x y v u _ _ x2.gh (rv.mono x2.g) r2 hf fun w G' H' x3 r3=>q w G' H' (x2.trans x3) r3⟩
 | true=>
  obtain ⟨p,ev,_,_,o⟩:=E.ow _ _ ho
  refine ⟨_,ev,kb E hy fun u G2 H2 x2 r2=>?_⟩
  cases x with
  | lst ds=>
   obtain ⟨vs,e1,rs,_⟩:=o
   cases y<;>first | (cases hf; done) | skip
   rename_i i
   obtain ⟨w,hw,rw_⟩:=Y4 rs hf
   cases r2
   exact .inl (.inl ⟨p,vs,i,w,rfl,rfl,yT.of (x2.h _ _ e1),hw,q _ _ _ x2 (rw_.mono x2.g)⟩)
  | dic ks ds=>
   obtain ⟨vs,e1,l,rs,_⟩:=o
   obtain ⟨k,hk,hf⟩:=zM hf
   obtain ⟨z,hz,rz⟩:=rs.getK hf
   exact .inr ⟨p,_,k,z,rfl,jM hk r2,.inl (x2.h _ _ e1),by rw [jp k l]; exact hz,q _ _ _ x2 (rz.mono x2.g)⟩
  | _=>exact o.elim
noncomputable def VA (neg:Bool):R2:=fun x y H Q=>∃ a kvs k,y=.ref a/\x=kV k/\Rd H a (.dK kvs)/\Q (.bl (if neg then !(wQ kvs k).isSome else (wQ kvs k).isSome)) H
theorem D7 (hu:X.A.units+1<cLine):yU X (compareOp .In) (VA false):=by
 intro pins s σ H x y v u Q I rx ry h
 obtain ⟨a,kvs,k,rfl,rfl,e,q⟩:=h
 cases ry
 exact Oq hu I (.inl ⟨kvs,k,e,rfl,rfl⟩) rx fun s' I'=>⟨.bl _,H,I',rfl,q⟩
theorem DG (hu:X.A.units+1<cLine):yU X (compareOp .NotIn) (VA true):=by
 intro pins s σ H x y v u Q I rx ry h
 obtain ⟨a,kvs,k,rfl,rfl,e,q⟩:=h
 cases ry
 exact Os hu I (.inl ⟨kvs,k,e,rfl,rfl⟩) rx fun s' I'=>⟨.bl _,H,I',rfl,q⟩
noncomputable def tj (K:PySem.W.Frag) (neg:Bool):R2:=fun x y H Q=>V9 K neg x y H Q\/(∃ i j,x=.str i/\y=.str j/\Q (.bl (if neg then !(!(Builtin.Str.occurrences j i 0 j.length 1).isEmpty) else !(Builtin.Str.occurrences j i 0 j.length 1).isEmpty)) H)\/VA neg x y H Q
theorem vA (hu:X.A.units+1<cLine):yU X (compareOp .In) (tj X.K false):=DA.or (DB.or (D7 hu))
theorem Zu (hu:X.A.units+1<cLine):yU X (compareOp .NotIn) (tj X.K true):=DH.or (DI.or (DG hu))
theorem VH {H:Hp} {x:D} {u:V} (hx:xF x=true) (rx:zU K H x u):∀ {ys:List D} {vs:List V},Reps K H ys vs->ys.all xF=true->vs.all uT=true/\ZY u vs=ys.any fun y=>yG y x
 | [],_,r,_=>by cases (show _=[] from r); exact ⟨rfl,rfl⟩
 | y::ys,_,r,h=>by
  obtain ⟨v,r',rfl,hv,hr⟩:=r
  rw [List.all_cons,Bool.and_eq_true] at h
  obtain ⟨a,b⟩:=VH hx rx hr h.2
  refine ⟨by rw [List.all_cons,jc h.1 hv,a]; rfl,?_⟩
  show (u7 v u||ZY u r')=(yG y x||_)
  rw [VG h.1 hx hv rx,b]
theorem Q9 {neg:Bool} {H:Hp} {x y:D} {u v:V} {k:Bool} {Q:VK} (rx:zU K H x u) (ry:zU K H y v) (hf:vT x y=some k) (q:Q (.bl (if neg then !k else k)) H):tj K neg u v H Q:=by
 cases y with
 | lst ys=>
  obtain ⟨a,vs,rfl,sq,rs,_⟩:=ry
  change (match xF x&&ys.all xF with | true=>some (ys.any fun y=>yG y x) | false=>none)=some k at hf
  cases c:(xF x&&ys.all xF) with
  | false=>rw [c] at hf; cases hf
  | true=>
   rw [c] at hf
   cases hf
   rw [Bool.and_eq_true] at c
   obtain ⟨c1,c2⟩:=VH c.1 rx rs c.2
   exact .inl ⟨a,vs,rfl,.inl sq,jc c.1 rx,c1,by rw [c2]; exact q⟩
 | tup ys=>
  obtain ⟨a,vs,rfl,sq,rs,_⟩:=ry
  change (match xF x&&ys.all xF with | true=>some (ys.any fun y=>yG y x) | false=>none)=some k at hf
  cases c:(xF x&&ys.all xF) with
  | false=>rw [c] at hf; cases hf
  | true=>
   rw [c] at hf
   cases hf
   rw [Bool.and_eq_true] at c
   obtain ⟨c1,c2⟩:=VH c.1 rx rs c.2
   exact .inl ⟨a,vs,rfl,.inr sq,jc c.1 rx,c1,by rw [c2]; exact q⟩
 | str j=>
  cases x<;>first | (cases hf; done) | skip
  rename_i i
  cases hf
  exact .inr (.inl ⟨i,j,(show u=_/\_ from rx).1,(show v=_/\_ from ry).1,q⟩)
 | dic ks ds=>
  obtain ⟨kk,hk,hf⟩:=zM hf
  cases hf
  obtain ⟨a,vs,rfl,sq,l,rs,_⟩:=ry
  refine .inr (.inr ⟨a,_,kk,rfl,jM hk rx,sq,?_⟩)
  rw [jp kk l,WU kk l]
  exact q
 | _=>cases hf
theorem v7:uf K (tj K false) yy:=fun H x y u v d Q rx ry hf=>by
 obtain ⟨k,hk,hf⟩:=zM hf
 cases hf
 exact ⟨_,rfl,fun q=>Q9 rx ry hk q⟩
theorem Zt:uf K (tj K true) u9:=fun H x y u v d Q rx ry hf=>by
 obtain ⟨k,hk,hf⟩:=zM hf
 cases hf
 exact ⟨_,rfl,fun q=>Q9 rx ry hk q⟩
theorem Jy {pos:Pos}:SF X (.Dict [] [] pos) (eC (.dic [] [])):=⟨⟨_,Dd,fun {G0 H0 G H τ σ d Q} E hf q p hp=>by
 cases hf
 exact q p G _ (zP.layO E.ext.gh hp) hp (E.ext.gh.free hp) ⟨[],xK,rfl,rfl,Nat.zero_le _⟩⟩⟩
theorem IF {i:Nat} {x:Str} {xp pos pos':Pos} {k v:Expr} {fk fv:FE} (hu:X.A.units+1<cLine) (ho:QE X (.Name x xp) (qq i)) (hk:SE X k fk) (hv:SE X v fv) (hs:swapsWith v (some (.Subscript (.Name x xp) k pos')) pos.line X.env=pure false:=by rfl) :
  SS X (.Assign [.Subscript (.Name x xp) k pos'] v pos) (kD i fk fv):=by
 obtain ⟨tk,pk,kk⟩:=hk.h
 obtain ⟨tv,pv,kv⟩:=hv.h
 refine ⟨⟨_,FN hu ho.h pk pv hs,fun {G0 H0 G H τ σ fl E} K hf q=>?_⟩⟩
 obtain ⟨y,hy,hf⟩:=zM hf
 refine kv K hy fun w G1 H1 x1 r1=>?_
 split at hf
 ·rename_i ks ds hd
  obtain ⟨xk,hx,hf⟩:=zM hf
  obtain ⟨key,hkey,hf⟩:=zM hf
  by_cases c:ks.length<yS
  ·rw [if_pos c] at hf
   cases hf
   have K1:=K.go x1
   obtain ⟨a,ea,g,z,vs,ev,l,rs,hl⟩:=K1.ow _ _ hd
   refine ⟨_,ea,kk K1 hx fun u G2 H2 x2 r2=>⟨a,_,rfl,.inl ⟨_,key,x2.h _ _ ev,jM hkey r2,?_,rfl⟩,?_⟩⟩
   ·rw [List.length_zip,l,Nat.min_self,sizeLine_eq,<- l]; exact c
   ·refine q _ _ _ ((K1.go x2).mut hd ea ⟨vN ks vs key w,?_,V6 l,(rs.mono x2.g).put (r1.mono x2.g),?_⟩)
    ·rw [xK,GF l]
    ·have h1:=Fd (ks:=ks) (vs:=ds) (k:=key) (v:=y) (by rw [l,rs.length])
     have h2:ds.length<16777216:=by rw [<- rs.length,<- l]; exact c
     rw [sizeLine_eq]
     omega
  ·rw [if_neg c] at hf
   cases hf
 ·cases hf
noncomputable def uM (K:PySem.W.Frag) (w:World) (a:Addr) (ks:List zY) (ds:List D):Prop:=
 ∃ us:List V,ks.length=us.length/\(a == sysModules)=false/\(∀ H,Reps K H ds us)/\∀ (P:Program) (h:Heap),K.In h->∃ vs,KV (ks.zip us) vs/\h.DictOf (wM P w) a vs
inductive t6 (w:World):List DictEntry->List Str->List Value->Prop
 | nil:t6 w [] [] []
 | cons {x:Str} {t:Tok} {v:Value} {es:List DictEntry} {xs:List Str} {vs:List Value} (r:t6 w es xs vs):t6 w (⟨PyData.keyHash w.params x,.str x t,v⟩::es) (x::xs) (v::vs)
theorem t6.pairs {w:World} {P:Program}:∀ {es:List DictEntry} {xs:List Str} {vs:List Value},t6 w es xs vs->Pairs (wM P w) es ((xs.map Sum.inr).zip vs)/\(∀ e∈es,∃ k,(wM P w).is k e.key=true/\e.hash=(wM P w).hash k)
 | _,_,_,.nil=>⟨.nil,fun e h=>absurd h (by simp)⟩
 | _,_,_,.cons (x:=x) (t:=t) r=>by
  obtain ⟨a,b⟩:=t6.pairs (P:=P) r
  refine ⟨.cons (Wt P w x t) rfl a,fun e h=>?_⟩
  rcases List.mem_cons.mp h with rfl | h
  ·exact ⟨.inr x,Wt P w x t,rfl⟩
  ·exact b e h
theorem t6.len {w:World}:∀ {es:List DictEntry} {xs:List Str} {vs:List Value},t6 w es xs vs->xs.length=vs.length
 | _,_,_,.nil=>rfl
 | _,_,_,.cons r=>by rw [List.length_cons,List.length_cons,r.len]
theorem QT:∀ {ks:List zY} {us:List V} {vs:List Value},zf us vs->ks.length=us.length->KV (ks.zip us) (ks.zip vs)
 | [],_,_,.nil,_=>.nil
 | k::ks,_,_,.cons r t,h=>.cons ⟨rfl,r⟩ (QT t (by simpa using h))
theorem Iz:∀ {ks:List zY} {vs:List Value},ks.length=vs.length->(ks.zip vs).map (·.1)=ks
 | [],[],_=>rfl
 | k::ks,v::vs,h=>by rw [List.zip_cons_cons,List.map_cons,Iz (by simpa using h)]
theorem WT {w:World} {a:Addr} {es:List DictEntry} {n:Nat} {xs:List Str} {vs:List Value} {us:List V} {ds:List D} (l:K.lookup a=some { cls:=.type "dict",data:=.dict es.toArray n }) (e:t6 w es xs vs) (nd:xs.Nodup) (hs:(a == sysModules)=false) (r:zf us vs) (rd:∀ H,Reps K H ds us) :
  uM K w a (xs.map .inr) ds:=by
 have hl:(xs.map Sum.inr:List zY).length=us.length:=by rw [List.length_map,e.len,r.length]
 refine ⟨us,hl,hs,rd,fun P h KI=>⟨_,QT r hl,?_⟩⟩
 obtain ⟨p,q⟩:=e.pairs (P:=P)
 refine ⟨_,_,_,KI _ _ l,⟨rfl,rfl,rfl⟩,rfl,fun e he=>q e (by simpa using he),p,?_⟩
 rw [Iz (by rw [List.length_map]; exact e.len)]
 exact List.Pairwise.map _ (fun a b h z=>h (Sum.inr.inj z)) nd
theorem LQ {A:Addr} {ks:List zY} {ds:List D} (g:uM X.K X.w A ks ds):vf X (fun x y H Q=>x=.ref A/\∃ k,y=kV k/\∃ d,getK ks ds k=some d/\∀ v,(∀ H,∃ H',yL H H'/\True)->(∀ H,zU X.K H d v)->Q v H):=by
 intro value slice pins s σ H x y v u Q I rx ry h hs
 obtain ⟨rfl,k,rfl,d,hd,q⟩:=h
 cases rx
 obtain ⟨us,hl,hsys,rd,mk⟩:=g
 obtain ⟨vs,rel,dd⟩:=mk X.prog s.heap I.kIn
 obtain ⟨z,hz,_⟩:=(rd H).getK hd
 have rz:∀ H,zU X.K H d z:=fun H'=>by
  obtain ⟨z',hz',r'⟩:=(rd H').getK hd
  rw [hz] at hz'
  cases hz'
  exact r'
 obtain ⟨w',hw,rw'⟩:=uO.some_of (v:=z) (o:=valueAt vs k) (by rw [<- hz,<- jp k hl]; exact rel.val k)
 exact subscriptTail_builtinR (x:=w') dd.typeIs PySem.F.slot_dict_getitem.lookup
  (wpAny_getItem_of (Q:=fun r s'=>r=w'/\EP X pins σ Q r s') (qY ry) dd.mapOf hw ⟨rfl,z,H,I.tok _,rw',q z (fun H=>⟨H,yL.refl H,trivial⟩) rz⟩) hs
theorem YB {A:Addr} {ks:List zY} {ds:List D} {x:Str} {p pos:Pos} {b:Expr} {fb:FE} (h:xf X.mg x (.ref A)) (g:uM X.K X.w A ks ds) (hg:Gl X x) (hb:SE X b fb) (hs:jW b=true:=by rfl) (hd:(x == ("__debug__" : Str))=false:=by decide) :
  SE X (.Subscript (.Name x p) b pos) (e1 (vn ks ds) fb):=by
 obtain ⟨tb,pb,kb⟩:=hb.h
 refine ⟨⟨_,V1 (LQ g) (Zx h hg hd) pb (Zy hs),fun {G0 H0 G H τ σ d Q} E hf q=>?_⟩⟩
 obtain ⟨y,hy,hf⟩:=zM hf
 obtain ⟨k,hk,hf⟩:=zM hf
 exact kb E hy fun u G2 H2 x2 r2=>⟨rfl,k,jM hk r2,d,hf,fun v _ rv=>q v _ _ x2 (rv _)⟩
theorem LR {A:Addr} {ks:List zY} {ds:List D} (g:uM X.K X.w A ks ds):yU X (compareOp .NotIn) (fun x y H Q=>y=.ref A/\∃ k,x=kV k/\Q (.bl (!xI ks k)) H):=by
 intro pins s σ H x y v u Q I rx ry h
 obtain ⟨rfl,k,rfl,q⟩:=h
 cases ry
 obtain ⟨us,hl,hsys,rd,mk⟩:=g
 obtain ⟨vs,rel,dd⟩:=mk X.prog s.heap I.kIn
 refine wpAny_notIn_of (qY rx) hsys dd.mapOf ?_
 rw [<- (rel.val k).isSome_eq,jp k hl,WU k hl]
 exact ⟨.bl _,H,I.tok _,rfl,q⟩
end
end L3
namespace L3
open PySem PySem.Spec PyProof.Rows L2
noncomputable def tt:D->Option (List D)
 | .lst xs=>some xs
 | .tup xs=>some xs
 | _=>none
noncomputable def tU (a b:FE):FA:=fun σ=>(a σ).bind fun x=>(b σ).bind fun y=>(tt x).bind fun xs=>(tt y).bind fun ys=>some (List.zipWith (fun x y=>D.tup [x,y]) xs ys)
section
variable {K:PySem.W.Frag} {G H:Hp}
theorem Jx {x:D} {xs:List D} {u:V} (h:tt x=some xs) (r:zU K G x u):∃ t a vs,u=.ref a/\wx K t G a vs/\Reps K G xs vs/\xs.length<=sizeLine:=by
 cases x<;>first | (cases h; done) | skip
 ·cases h
  obtain ⟨a,vs,rfl,sq,rs,l⟩:=r
  exact ⟨true,a,vs,rfl,sq,rs,l⟩
 ·cases h
  obtain ⟨a,vs,rfl,sq,rs,l⟩:=r
  exact ⟨false,a,vs,rfl,sq,rs,l⟩
theorem qk {H':Hp} {t:Bool} {a:Addr} {vs:List V} (s:yL H H') (h:wx K t H a vs):wx K t H' a vs:=by
 cases t
 ·exact vR s h
 ·exact vZ s h
theorem GG {t1 t2:Bool} {a b:Addr} {vs us:List V} {xs ys:List D} (s1:wx K t1 G a vs) (s2:wx K t2 G b us) (r1:Reps K G xs vs) (r2:Reps K G ys us):qL K (XJ K t1 t2 a b) G (List.zipWith (fun x y=>D.tup [x,y]) xs ys) where
 go:=fun i G2 H g1 g2 hi=>by
  rw [List.length_zipWith] at hi
  obtain ⟨v,e1,_⟩:=r1.get (List.getElem?_eq_getElem (show i<xs.length by omega))
  obtain ⟨u,e2,_⟩:=r2.get (List.getElem?_eq_getElem (show i<ys.length by omega))
  exact ⟨vs,us,v,u,qk (g1.trans g2) s1,qk (g1.trans g2) s2,e1,e2⟩
 yld:=fun i G2 H x H' g1 g2 hi y=>by
  obtain ⟨p,hp,rfl,k⟩:=y
  obtain ⟨v,u,e1,e2,rfl⟩:=k vs us (qk (g1.trans g2) s1) (qk (g1.trans g2) s2)
  obtain ⟨d1,f1,q1⟩:=r1.at e1
  obtain ⟨d2,f2,q2⟩:=r2.at e2
  refine ⟨zZ G2 p (.tup [v,u]),.tup [d1,d2],zP.lay g2 hp,by rw [List.getElem?_zipWith,f1,f2],?_⟩
  have sm:yL G (zZ G2 p (.tup [v,u])):=g1.trans (wP (g2.free hp) _)
  exact ⟨p,[v,u],rfl,yk.of xK,⟨v,_,rfl,q1.mono sm,⟨u,_,rfl,q2.mono sm,rfl⟩⟩,zW (n:=2) (by decide)⟩
 stop:=fun i G2 H g1 g2 hi=>by
  rw [List.length_zipWith] at hi
  refine ⟨vs,us,qk (g1.trans g2) s1,qk (g1.trans g2) s2,?_⟩
  rw [r1.length,r2.length]
  omega
end
section
variable {X:Cx} {a b e o:Expr} {fa fb f:FE} {p pos apos cpos:Pos}
theorem Jz {elts:List Expr} {kk:Nat} {tp:Pos} (hg:Gl X "zip") (hm:X.mg "zip" = none) (ha:SE X a fa) (hb:SE X b fb) (hs:ya a=true:=by rfl) (hs2:ya b=true:=by rfl):SI X (.Tuple elts kk tp) (.Call (.Name "zip" p) [a,b] [] pos) (tU fa fb):=by
 obtain ⟨t,pt,k⟩:=(zB ha (zB hb zK hs2) hs).h
 refine ⟨⟨_,(Fo hg hm ⟨pt⟩ hs hs2).h,fun {G0 H0 G H τ σ ds R} K hf q=>?_⟩⟩
 obtain ⟨x,hx,hf⟩:=zM hf
 obtain ⟨y,hy,hf⟩:=zM hf
 obtain ⟨xs,hxs,hf⟩:=zM hf
 obtain ⟨ys,hys,hf⟩:=zM hf
 cases hf
 refine k K (ds:=[x,y]) (by unfold z7; rw [hx,hy]; rfl) fun vs G1 H1 x1 r1=>?_
 obtain ⟨v,r,rfl,hv,⟨v2,r2,rfl,hv2,hr⟩⟩:=r1
 cases (show r2=[] from hr)
 obtain ⟨t1,a1,vs1,rfl,s1,q1,l1⟩:=Jx hxs hv
 obtain ⟨t2,a2,vs2,rfl,s2,q2,l2⟩:=Jx hys hv2
 refine ⟨a1,a2,vs1,vs2,t1,t2,rfl,qk x1.gh s1,qk x1.gh s2,q _ _ _ x1 ?_ (GG s1 s2 q1 q2)⟩
 rw [List.length_zipWith]
 omega
noncomputable abbrev FO:=yD->Option (Option Int)
noncomputable def yI:FO:=fun _=>some none
noncomputable def zy (f:FE):FO:=fun σ=>(f σ).bind fun d=>match d with
 | .int i=>some (some i)
 | _=>none
noncomputable def xD {α:Type} (xs:List α) (lo hi:Option Int):List α:=(xs.drop (HT.sIx xs.length 0 lo)).take (HT.sIx xs.length xs.length hi - HT.sIx xs.length 0 lo)
noncomputable def xj (d:D) (lo hi:Option Int):Option D:=match d with
 | .lst xs=>some (.lst (xD xs lo hi))
 | .tup xs=>if HT.sIx xs.length 0 lo=0/\HT.sIx xs.length xs.length hi=xs.length then none else some (.tup (xD xs lo hi))
 | .str z=>some (.str (cutS z lo hi))
 | _=>none
noncomputable def yE (a:FE) (lo hi:FO):FE:=fun σ=>(a σ).bind fun d=>(lo σ).bind fun l=>(hi σ).bind fun h=>xj d l h
structure SO (X:Cx) (e:Option Expr) (f:FO):Prop where
 h:∃ t,PO X e t/\∀ {G0 H0 G H:Hp} {τ:yD} {σ:St} {d:Option Int} {Q:Option Int->Hp->Prop},yB X.K X.N.length G0 H0 G H τ σ->f τ=some d->(∀ G' H',zP G H G' H'->Q d H')->t σ H Q
theorem xo:SO X none yI:=⟨⟨_,F8,fun E hf q=>by cases hf; exact q _ _ (zP.refl E.ext.gh)⟩⟩
theorem xS (h:SE X e f):SO X (some e) (zy f):=by
 obtain ⟨t,pt,k⟩:=h.h
 refine ⟨⟨_,F9 pt,fun {G0 H0 G H τ σ d Q} E hf q=>?_⟩⟩
 obtain ⟨x,hx,hf⟩:=zM hf
 cases x<;>first | (cases hf; done) | skip
 cases hf
 exact k E hx fun v G' H' x r=>⟨_,r,q _ _ x⟩
theorem Reps.cut {K:PySem.W.Frag} {G:Hp} {ds:List D} {vs:List V} (r:Reps K G ds vs) (lo hi:Option Int):Reps K G (xD ds lo hi) (qP vs lo hi):=by
 unfold xD qP
 rw [r.length]
 exact (r.drop _).take _
theorem TQ {α:Type} (xs:List α) (lo hi:Option Int):(xD xs lo hi).length<=xs.length:=by
 unfold xD
 rw [List.length_take,List.length_drop]
 omega
noncomputable def F_ (K:PySem.W.Frag):V->Option Int->Option Int->Hp->VK->Prop:=fun x lo hi H Q=>JS K x lo hi H Q\/JT K x lo hi H Q\/VC x lo hi H Q
theorem Cs:tH X (F_ X.K):=Ct.or (Cw.or Cu)
theorem xb {lo hi:Option Expr} {fl fh:FO} {p2:Pos} (ha:SE X a fa) (hl:SO X lo fl) (hh:SO X hi fh):SE X (.Subscript a (.Slice lo hi none p2) pos) (yE fa fl fh):=by
 obtain ⟨ta,pa,ka⟩:=ha.h
 obtain ⟨tl,pl,kl⟩:=hl.h
 obtain ⟨th,ph,kh⟩:=hh.h
 refine ⟨⟨_,Dm Cs pa pl ph,fun {G0 H0 G H τ σ d Q} E hf q=>?_⟩⟩
 obtain ⟨x,hx,hf⟩:=zM hf
 obtain ⟨l,hl,hf⟩:=zM hf
 obtain ⟨h,hh,hf⟩:=zM hf
 refine ka E hx fun v G1 H1 x1 r1=>kl (E.go x1) hl fun G2 H2 x2=>kh ((E.go x1).go x2) hh fun G3 H3 x3=>?_
 have xx:=x1.trans (x2.trans x3)
 have r3:=r1.mono (x2.g.trans x3.g)
 cases x with
 | lst xs=>
  cases hf
  obtain ⟨a,vs,rfl,sq,rs,ll⟩:=r3
  refine .inl ⟨a,vs,rfl,vR x3.gh sq,fun p hp=>q _ _ _ (xx.trans (zP.lay x3.gh hp)) ⟨p,_,rfl,yT.of xK,(rs.cut l h).mono (wP (x3.gh.free hp) _),Nat.le_trans (TQ ..) ll⟩⟩
 | tup xs=>
  change (if HT.sIx xs.length 0 l=0/\HT.sIx xs.length xs.length h=xs.length then none else some (D.tup (xD xs l h)))=some d at hf
  by_cases c:HT.sIx xs.length 0 l=0/\HT.sIx xs.length xs.length h=xs.length
  ·rw [if_pos c] at hf
   cases hf
  ·rw [if_neg c] at hf
   cases hf
   obtain ⟨a,vs,rfl,sq,rs,ll⟩:=r3
   refine .inr (.inl ⟨a,vs,rfl,vZ x3.gh sq,by rw [rs.length]; exact c,fun p hp=>?_⟩)
   exact q _ _ _ (xx.trans (zP.lay x3.gh hp)) ⟨p,_,rfl,yk.of xK,(rs.cut l h).mono (wP (x3.gh.free hp) _),Nat.le_trans (TQ ..) ll⟩
 | str z=>
  cases hf
  obtain ⟨rfl,ll⟩:=r3
  exact .inr (.inr ⟨z,rfl,ll,q _ _ _ xx ⟨rfl,Nat.le_trans (cut_len ..) ll⟩⟩)
 | _=>cases hf
noncomputable def uS:List D->Option D
 | [.lst xs]=>some (.tup xs)
 | [.tup xs]=>some (.tup xs)
 | _=>none
theorem uu {K:PySem.W.Frag} {G:Hp} {d:D} {vs:List V} (r:Reps K G [d] vs):∃ v,vs=[v]/\zU K G d v:=by
 obtain ⟨v,r',rfl,hv,hr⟩:=r
 cases (show r'=[] from hr)
 exact ⟨v,rfl,hv⟩
theorem Qt {K:PySem.W.Frag}:Uk K (fun xs H Q=>∃ p ys,xs=[.ref p]/\((yT K H p ys/\∀ l,H l=none->Q (.ref l) (zZ H l (.tup ys)))\/(yk K H p ys/\Q (.ref p) H))) uS:=fun G H ds vs d Q s r hf q=>by
 match ds,hf with
 | [.lst xs],hf=>
  cases hf
  obtain ⟨v,rfl,a,us,rfl,sq,rs,l⟩:=uu r
  exact ⟨a,us,rfl,.inl ⟨vR s sq,fun p hp=>q _ _ _ (zP.lay s hp) ⟨p,us,rfl,yk.of xK,rs.mono (wP (s.free hp) _),l⟩⟩⟩
 | [.tup xs],hf=>
  cases hf
  obtain ⟨v,rfl,a,us,rfl,sq,rs,l⟩:=uu r
  exact ⟨a,us,rfl,.inr ⟨vZ s sq,q _ _ _ (zP.refl s) ⟨a,us,rfl,sq,rs,l⟩⟩⟩
theorem IG {A:Addr} {ks:List zY} {ds:List D} {x:Str} {p:Pos} (h:xf X.mg x (.ref A)) (g:uM X.K X.w A ks ds) (hg:Gl X x) (ha:SE X a fa) (hm:behindInMarks .NotIn (.Name x p)=false:=by with_unfolding_all rfl) (hd:(x == ("__debug__" : Str))=false:=by decide) :
  ST X (.Compare a [.NotIn] [.Name x p] pos) (tE (e1 (uR ks) fa)):=by
 obtain ⟨tb,pb,kb⟩:=ha.h
 refine ⟨⟨_,JD (LR g) pb (Zx h hg hd) hm,fun {G0 H0 G H τ σ d Q} E hf q=>?_⟩⟩
 obtain ⟨z,hz,hf⟩:=zM hf
 obtain ⟨y,hy,hz⟩:=zM hz
 obtain ⟨k,hk,hz⟩:=zM hz
 cases hz
 cases hf
 exact kb E hy fun u G2 H2 x2 r2=>⟨rfl,k,jM hk r2,_,rfl,q _ _ x2⟩
variable {x:Str} {ps:List Str} {j k:Nat} {FF:List D->Option (Bool×D)}
theorem Jt (h:yZ X.prog X.w X.K X.mg X.base x ps k (yY X.K FF)) (hr:xB j X.A) (hg:Gl X x) (hk:k<=j:=by decide) (hdb:(x == ("__debug__" : Str))=false:=by decide):SE X (.Call (.Name x p) [] [] pos) (zR FF zD):=by
 obtain ⟨f,fd,hm,kp,b,F⟩:=h
 refine ⟨⟨_,DY F (hr.mono hk) hg hm kp b .nil Q_ hdb,fun {G0 H0 G H τ σ d Q} E hf q=>?_⟩⟩
 obtain ⟨ds,hd,hf⟩:=zM hf
 cases hd
 obtain ⟨⟨o,d⟩,hr,hf⟩:=zM hf
 cases hf
 refine ⟨G,[],o,d,E.ext.gh,rfl,hr,?_⟩
 cases o with
 | false=>exact fun v G' H' x2 r=>q v G' H' x2 r
 | true=>
  intro p G' H' x2 hp gp o
  obtain ⟨u,hu,r⟩:=o.frz gp
  exact q _ _ _ (x2.frz hp gp hu) r
end
noncomputable def FR (n N:Nat) (b:FS) (ds:List D):Option (Bool×D):=if ds.length=n then yi N b ds else none
theorem xC {n N:Nat} {b:FS}:∀ ds r,FR n N b ds=some r->ds.length=n/\yi N b ds=some r:=fun ds r h=>by
 unfold FR at h
 split at h
 ·rename_i c
  exact ⟨c,h⟩
 ·cases h
end L3
namespace L3
open PySem PySem.Spec PyProof.Rows L2
section
variable {X:Cx} {e o k v:Expr} {f fo fk fv:FE} {x:Str} {xp p pos apos cpos:Pos}
noncomputable def Uo (K:PySem.W.Frag) (A:Addr):Prop:=∃ o,K.lookup A=some o/\o.cls=.type "tuple" /\ o.dict=none
structure SD (X:Cx) (pos:Pos) (keys:List (Option Expr)) (values:List Expr) (ks:List Str) (fs:FA):Prop where
 h:∃ trs,gG X pos keys values trs/\∀ {G0 H0 G H:Hp} {τ:yD} {σ:St} {ds:List D} {Q:List (V×V)->Hp->Prop},yB X.K X.N.length G0 H0 G H τ σ->fs τ=some ds->(∀ vs G' H',zP G H G' H'->Reps X.K G' ds vs->vs.length=ks.length->Q ((ks.map V.str).zip vs) H')->YM trs σ H Q
theorem CY:SD X pos [] [] [] zD:=⟨⟨_,FH,fun E hf q=>by
 cases hf
 exact q [] _ _ (zP.refl E.ext.gh) rfl rfl⟩⟩
theorem kG {x:Str} {j:Nat} {ks:List (Option Expr)} {vs:List Expr} {xs:List Str} {fs:FA} (hv:SE X v fv) (hr:SD X pos ks vs xs fs):SD X pos (some (.Constant (.str x) j xp)::ks) (v::vs) (x::xs) (z7 fv fs):=by
 obtain ⟨tv,pv,kv⟩:=hv.h
 obtain ⟨tr,pr,kr⟩:=hr.h
 refine ⟨⟨_,FD J5 pv pr,fun {G0 H0 G H τ σ ds Q} E hf q=>?_⟩⟩
 obtain ⟨d,hd,hf⟩:=zM hf
 obtain ⟨es,hes,hf⟩:=zM hf
 cases hf
 refine kv E hd fun u G1 H1 x1 r1=>kr (E.go x1) hes fun us G2 H2 x2 r2 l=>?_
 exact q (u::us) _ _ (x1.trans x2) ⟨u,us,rfl,r1.mono x2.g,r2⟩ (by rw [List.length_cons,List.length_cons,l])
theorem Qg:∀ (kvs acc:List (zY×V)),(kvs.map (·.1)).Nodup->(∀ kv∈kvs,wQ acc kv.1=none)->pJ acc kvs=acc++kvs
 | [],acc,_,_=>by rw [List.append_nil]; rfl
 | kv::r,acc,nd,hn=>by
  rw [List.map_cons,List.nodup_cons] at nd
  have h0:=hn kv List.mem_cons_self
  show pJ (wO acc kv.1 kv.2) r=_
  rw [Fc kv.2 h0,Qg r _ nd.2 (fun kv' m=>?_)]
  ·rw [List.append_assoc]; rfl
  ·rw [Il kv.1 kv'.1 kv.2 acc h0,if_neg (fun e=>nd.1 (by rw [<- e]; exact List.mem_map_of_mem m))]
   exact hn kv' (List.mem_cons_of_mem _ m)
theorem O2:∀ {ks:List Str} {vs:List V},(ks.map V.str).zip vs=(((ks.map Sum.inr:List zY).zip vs).map fun kv=>(kV kv.1,kv.2))
 | [],_=>rfl
 | _::_,[]=>rfl
 | k::ks,v::vs=>by
  rw [List.map_cons,List.map_cons,List.zip_cons_cons,List.zip_cons_cons,List.map_cons,O2]
  rfl
theorem I_:∀ {ks:List zY} {vs:List V},ks.length=vs.length->(ks.zip vs).map (·.1)=ks
 | [],[],_=>rfl
 | k::ks,v::vs,h=>by rw [List.zip_cons_cons,List.map_cons,I_ (by simpa using h)]
theorem Co {keys:List (Option Expr)} {values:List Expr} {ks:List Str} {fs:FA} (h:SD X pos keys values ks fs) (nd:ks.Nodup) (h15:ks.length<=15) (hall:keys.all (·.isSome)=true:=by rfl) (hl:keys.length=values.length:=by rfl) (h0:keys≠[]:=by exact fun z=>nomatch z) (h15':keys.length<=15:=by decide) :
  SF X (.Dict keys values pos) (Tk ks fs):=by
 obtain ⟨trs,pr,kr⟩:=h.h
 refine ⟨⟨_,Dc pr hall hl h0 h15',fun {G0 H0 G H τ σ d Q} E hf q p hp=>?_⟩⟩
 obtain ⟨ds,hds,hf⟩:=zM hf
 have x0:zP G H G (zZ H p (.dK [])):=zP.layO E.ext.gh hp
 refine kr (E.go x0) hds fun vs G2 H2 x2 r2 l=>?_
 have e2:H2 p=some (.dK []):=x2.h _ _ xK
 have g2:G2 p=none:=by
  cases c:G2 p with
  | none=>rfl
  | some u=>
   rcases x2.new p (by rw [c]; exact fun z=>nomatch z) with z | z
   ·exact absurd (E.ext.gh.free hp) z
   ·rw [xK] at z; cases z
 have hk:(ks.map Sum.inr:List zY).length=vs.length:=by rw [List.length_map,l]
 by_cases c:ks.length=ds.length
 ·rw [if_pos c] at hf
  cases hf
  refine ⟨e2,(ks.map Sum.inr:List zY).zip vs,O2,by rw [List.length_zip,hk,Nat.min_self,l]; exact h15,?_⟩
  rw [Qg _ [] (by rw [I_ hk]; exact List.Pairwise.map _ (fun a b h z=>h (Sum.inr.inj z)) nd) (fun _ _=>rfl),List.nil_append]
  have xx:zP G H G2 (zZ H2 p (.dK ((ks.map Sum.inr:List zY).zip vs))):=by
   have y:=x0.trans x2
   refine ⟨y.g,fun b u z=>?_,fun b u z=>?_,y.new⟩
   ·rw [yj (wj z hp)]; exact y.h _ _ z
   ·rw [yj (wj z g2)]; exact x2.gh _ _ z
  exact q p _ _ xx hp g2 ⟨vs,xK,hk,r2,by rw [<- c]; exact zW (by omega)⟩
 ·rw [if_neg c] at hf
  cases hf
noncomputable def wC (i:Int):Nat:=Builtin.Int.intBits i
noncomputable def WK:D->D->Option D:=fI (fun i j=>decide (wC i+wC j<=134217728)) (·*·)
theorem DD:yU X (binaryOp .Mult) (rI (fun i j=>wC i+wC j<=134217728) fun i j=>.int (i*j)):=k6 fun i j _ _ _ _ _ hc q=>mul_int q (by
 unfold IntMulOk
 intro h
 rw [Bool.and_eq_true] at h
 have h2:decide (((Builtin.Int.intBits i+Builtin.Int.intBits j:Nat):Int) > (134217728:Nat))=true:=h.2
 have h3:=of_decide_eq_true h2
 have h4:Builtin.Int.intBits i+Builtin.Int.intBits j<=134217728:=hc
 omega)
theorem Bs {K:PySem.W.Frag}:vG K (rI (fun i j=>wC i+wC j<=134217728) fun i j=>.int (i*j)) WK:=jS fun _ _ h=>of_decide_eq_true h
end
end L3
namespace L3
open PySem PySem.Spec PyProof.Rows L2 PySem.W
theorem Iq:∀ {ns:List Int} {m:Int},m∈ns->wC m<=WData.weightAll (ns.map WData.int)
 | [],_,h=>by cases h
 | n::ns,m,h=>by
  have e:WData.weightAll ((n::ns).map WData.int)=wC n+1+WData.weightAll (ns.map WData.int):=by
   show WData.weightAll (WData.int n::ns.map WData.int)=_
   rw [WData.weightAll]
   rfl
  rw [e]
  rcases List.mem_cons.mp h with rfl | h
  ·omega
  ·have:=Iq h
   omega
theorem Mj {ns:List Int} (h:WData.layableAll [.list (ns.map WData.int)]=true):∀ m∈ns,wC m<=1048576:=fun m hm=>by
 have h1:WData.layable (.list (ns.map WData.int))=true:=List.all_eq_true.mp h _ (List.mem_singleton.mpr rfl)
 unfold WData.layable at h1
 rw [Bool.and_eq_true] at h1
 have h2:WData.weight (.list (ns.map WData.int))<=2 ^ 20:=of_decide_eq_true h1.2
 have h3:=Iq hm
 have h4:WData.weight (.list (ns.map WData.int))=WData.weightAll (ns.map WData.int):=by rw [WData.weight]
 omega
section
variable {P:Program} {w:World} {K:PySem.W.Frag} {mg:Str->Option Value} {base:Heap}
noncomputable def kI (K:PySem.W.Frag):Sp:=fun vs H Q _=>∃ (a:Addr) (ns:List Int),vs=[.ref a]/\yT K H a (ns.map V.int)/\ns.length<=63/\(∀ m∈ns,wC m<=1048576)/\∀ H',Q (.bl true) H'
theorem Mi {x:Str} {st:Stmt} {N:List Str} {k:Nat} {b:FS} {f:Addr} {fd:FuncData} (d:qF K "law" "law" st f fd) (S:yQ N [x] (zi st)) (hN:1<=N.length) (hrun:∀ ns:List Int,ns.length<=63->(∀ m∈ns,wC m<=1048576)->∃ o,yi N.length b [.lst (ns.map D.int)]=some (o,.bl true))
  (hb:∀ (cdv:Value) (A:Around) (outer:List Env) (s:Shared) (H:Hp) (E:XK),xB k (A.deeper (envOfC "law" (zi st) s.heap.objs.size f cdv))->wc (vk wu P w K mg base N "law" (zi st) f cdv A outer s H E).nox (wg st) b):ve P w K mg base wu (k+1) f fd [x] (kI K):=by
 refine d.ok S (fun vs H Q E h=>?_) fun cdv A outer s H vs Q E hr h=>?_
 ·obtain ⟨a,ns,rfl,_⟩:=h
  rfl
 ·obtain ⟨a,ns,rfl,sq,l,hbits,q⟩:=h
  obtain ⟨o,hrun⟩:=hrun ns l hbits
  obtain ⟨t,p,kt⟩:=(hb cdv A outer s H E hr).h
  obtain ⟨fl,hfl,hrun⟩:=zM hrun
  have r:Reps K H [.lst (ns.map D.int)] [.ref a]:=⟨_,_,rfl,⟨a,_,rfl,sq,Reps.ints,by rw [List.length_map]; exact zW (by omega)⟩,rfl⟩
  refine ⟨t,p,kt (ZI (N:=N) (yL.refl H) r hN) hfl ?_⟩
  cases fl with
  | nx τ=>cases hrun
  | rt o' d'=>
   cases hrun
   cases o with
   | false=>
    intro v G H' _ r
    cases (show v=.bl true from r)
    exact q H'
   | true=>exact fun p G H' _ _ _ z=>z.elim
  | _=>cases hrun
end
theorem walkB {l:PySem.W.OpenLaw} {n k:Nat} {q:Program} {loose:List Str} {XP:(Str->Option Value)->Heap->Prop} {YP:World->Heap->Prop} {d:DefRec} {K:Params->PySem.W.Frag} {sp:PySem.W.Frag->Sp} {x:Str}
  (hn:l.most=some n) (hn2:n<=sizeLine) (hdf:d.params.defaults=[]) (hr:xB k callerA) (hY:∀ (w:World) (h:Heap),YP w h->(K w.params).In h)
  (F:∀ (w:World) (mg:Str->Option Value) (fa:Addr) (h:Heap),(K w.params).In h->h.Ns mainGlobals mg->mg d.name=some (.ref fa)->
   ∃ fd:FuncData,(∀ (s:Shared) (u:Value),BindsTo s fd ⟨[u],[]⟩ [(x,u)])/\∀ base:Heap,(K w.params).In base->base.Ns mainGlobals mg->ve l.prog w (K w.params) mg base wu k fa fd [x] (sp (K w.params)))
  (hsp:∀ (K:PySem.W.Frag) (H:Hp) (a:Addr) (ns:List Int),ns.length<=n->(∀ m∈ns,wC m<=1048576)->yT K H a (ns.map V.int)->sp K [.ref a] H (fun v _=>v=.bl true) fun _ _ _=>False) :
  PySem.W.WalkO q loose XP YP l.row.toRowW d [] (fun f vs=>PySem.call f vs):=by
 intro w s0 s1 mg mb Gr Y fa o pm cd doc dV kV ho hd hcd hD hmg hg args vals as hpre hlay hrd hwl hlo
 have e1:dV=.none:=Dflts.none hD hdf
 have e2:kV=.none:=Dflts.noKw hD
 subst e1 e2
 obtain ⟨a,vs,ns,rfl,rfl,hobj,hints,hlen⟩:=Att.script_of hn hpre hwl
 have KX:=hY w _ Y
 obtain ⟨fd,hb,hF⟩:=F w mg fa _ KX Gr.T.g hmg
 have main:=Mh KX Gr.T.g Gr.T.b Gr.T.builtins Gr.T.nolimit hg hobj hints (Nat.le_trans hlen hn2) hr hF hb (fun H _ hS=>hsp _ H a ns hlen (Mj hlay) hS) (fun _ _ _ z=>z)
 refine enter_call (codeAny_mono main fun r s' hq=>?_)
 obtain ⟨rfl,h2,h3,h4⟩:=hq
 refine ⟨.inl ⟨.bool true,.bool true,[],rfl,fun _=>rfl,.bool true,Att.post_true l _,fun _=>?_⟩,h2,h3,h4⟩
 exact ⟨List.Pairwise.nil,fun _ hm=>nomatch hm⟩
end L3
namespace L3
open PySem PySem.Spec PyProof.Rows L2
end L3
namespace L3
open PySem PySem.Spec PyProof PyProof.Rows L2 Builtin Builtin.Str
section
variable {X:Cx} {e o a b c:Expr} {f fo fa fb fc:FE} {x:Str} {xp p pos apos cpos:Pos}
noncomputable def qp:List D->Option (List Str)
 | []=>some []
 | .str z::r=>(qp r).bind fun ts=>some (z::ts)
 | _=>none
noncomputable def u8:D->D->Option D
 | .str sep,.lst xs=>(qp xs).bind fun ts=>if (ts.map (·.length)).sum+ts.length*sep.length<=yS then some (.str (glued sep ts)) else none
 | _,_=>none
theorem IL {K:PySem.W.Frag} {G:Hp}:∀ {xs:List D} {vs:List V} {ts:List Str},qp xs=some ts->Reps K G xs vs->vs=ts.map V.str
 | [],_,_,h,r=>by
  cases h
  exact r
 | x::xs,_,ts,h,r=>by
  obtain ⟨v,r',rfl,hv,hr⟩:=r
  unfold qp at h
  split at h
  ·rename_i e; cases e
  ·rename_i z r2 e
   cases e
   obtain ⟨ts2,h2,h⟩:=zM h
   cases h
   rw [List.map_cons,(show v=_/\_ from hv).1,IL h2 hr]
  ·cases h
theorem YC (ho:SE X o fo) (he:SB X e f) (hbase:attributeBase o "join" X.env (eval o X.env)=eval o X.env:=by rfl) (hline:(apos.endLine == cpos.line)=true:=by rfl) (hs:ya e=true:=by rfl) :
  SE X (.Call (.Attribute o "join" apos) [e] [] cpos) (e2 u8 fo f):=by
 obtain ⟨to,po,ko⟩:=ho.h
 obtain ⟨te,pe,ke⟩:=(yW he yX hs).h
 refine ⟨⟨_,(kA PySem.F.plainAttrs_str PySem.F.slot_str_join PySem.F.type_str_join M_ ⟨po⟩ ⟨pe⟩ hbase hline (by rw [List.all_cons,hs]; rfl) (by show 1<30; decide)).h,fun {G0 H0 G H τ σ d Q} E hf q=>?_⟩⟩
 obtain ⟨x,hx,hf⟩:=zM hf
 obtain ⟨y,hy,hf⟩:=zM hf
 refine ko E hx fun v G1 H1 x1 r1=>?_
 cases x with
 | str sep=>
  obtain ⟨rfl,l1⟩:=r1
  refine ⟨rfl,ke (E.go x1) (ds:=[y]) (by unfold z7; rw [hy]; rfl) fun ws G2 H2 x2 r2=>?_⟩
  obtain ⟨w,rfl,rw_⟩:=uu r2
  cases y with
  | lst xs=>
   obtain ⟨ts,hts,hf⟩:=zM hf
   obtain ⟨aa,vs,rfl,sq,rs,_⟩:=rw_
   have ev:=IL hts rs
   subst ev
   by_cases cc:(ts.map (·.length)).sum+ts.length*sep.length<=yS
   ·rw [if_pos cc] at hf
    cases hf
    have c':(ts.map (·.length)).sum+ts.length*sep.length<=sizeLine:=by rw [sizeLine_eq]; exact cc
    exact ⟨sep,aa,ts,rfl,rfl,sq,c',q _ _ _ (x1.trans x2) ⟨rfl,Nat.le_trans (glued_len sep ts) c'⟩⟩
   ·rw [if_neg cc] at hf
    cases hf
  | _=>cases hf
 | _=>cases hf
noncomputable def tf (i:Int):Bool:=decide (i.natAbs.log2<1920)
noncomputable def jF:List D->Option D
 | [.int i]=>match tf i with
  | true=>some (.str (toString i))
  | false=>none
 | [.str z]=>some (.str z)
 | _=>none
theorem TC:xr X (.type "str") (fun xs H Q=>(∃ i,xs=[.int i]/\i.natAbs.log2<1920/\Q (.str (toString i)) H)\/∃ z,xs=[.str z]/\Q (.str z) H):=Oa.or (by
 intro pins s σ H xs us Q I r h
 obtain ⟨z,rfl,q⟩:=h
 obtain ⟨u,rfl,t,rfl⟩:=wr r
 exact PySem.P.str_of_str ⟨.str z,H,I,⟨_,rfl⟩,q⟩)
theorem IJ {i:Int} (h:i.natAbs.log2<1920):(Str.ofString (toString i)).length<=sizeLine:=Eh (M6 h)
theorem Qs {K:PySem.W.Frag}:j0 K (fun xs H Q=>(∃ i,xs=[.int i]/\i.natAbs.log2<1920/\Q (.str (toString i)) H)\/∃ z,xs=[.str z]/\Q (.str z) H) jF:=fun G H ds vs d Q s r hf q=>by
 unfold jF at hf
 split at hf
 ·rename_i i
  obtain ⟨v,rfl,hv⟩:=uu r
  cases c:tf i with
  | false=>rw [c] at hf; cases hf
  | true=>
   rw [c] at hf
   cases hf
   cases (show v=_ from hv)
   have h:=of_decide_eq_true c
   exact .inl ⟨i,rfl,h,q _ _ _ (zP.refl s) ⟨rfl,IJ h⟩⟩
 ·rename_i z
  cases hf
  obtain ⟨v,rfl,hv⟩:=uu r
  obtain ⟨rfl,l⟩:=hv
  exact .inr ⟨z,rfl,q _ _ _ (zP.refl s) ⟨rfl,l⟩⟩
 ·cases hf
noncomputable def WF:D->Option D
 | .int i=>match tf i with
  | true=>some (.str (Str.ofString (toString i)))
  | false=>none
 | .str z=>some (.str z)
 | _=>none
theorem Cd (he:SE X e f):SE X (.FormattedValue e (-1) none pos) (e1 WF f):=by
 obtain ⟨t,pt,k⟩:=he.h
 refine ⟨⟨_,(Fi ⟨pt⟩).h,fun {G0 H0 G H τ σ d Q} E hf q=>?_⟩⟩
 obtain ⟨x,hx,hf⟩:=zM hf
 refine k E hx fun v G1 H1 x1 r1=>?_
 cases x with
 | int i=>
  change (match tf i with | true=>some (D.str (Str.ofString (toString i))) | false=>none)=some d at hf
  cases c:tf i with
  | false=>rw [c] at hf; cases hf
  | true=>
   rw [c] at hf
   cases hf
   cases (show v=_ from r1)
   have h:=of_decide_eq_true c
   exact .inl ⟨i,rfl,h,q _ _ _ x1 ⟨rfl,IJ h⟩⟩
 | str z=>
  cases hf
  obtain ⟨rfl,l⟩:=r1
  exact .inr ⟨z,rfl,l,q _ _ _ x1 ⟨rfl,l⟩⟩
 | _=>cases hf
noncomputable abbrev FJ:=yD->Str->Option D
noncomputable def Wc:FJ:=fun _ acc=>some (.str acc)
noncomputable def gm (f:FE) (r:FJ):FJ:=fun σ acc=>(f σ).bind fun d=>match d with
 | .str y=>if (acc++y).length<=yS then r σ (acc++y) else none
 | _=>none
noncomputable def W8 (f:FJ):FE:=fun σ=>f σ Str.empty
structure SJ (X:Cx) (es:List Expr) (f:FJ):Prop where
 h:∃ t,QJ X es t/\∀ {G0 H0 G H:Hp} {τ:yD} {σ:St} {acc:Str} {d:D} {Q:VK},yB X.K X.N.length G0 H0 G H τ σ->acc.length<=sizeLine->f τ acc=some d->(∀ v G' H',zP G H G' H'->zU X.K G' d v->Q v H')->t σ H acc Q
theorem Cr:SJ X [] Wc:=⟨⟨_,Fq,fun E l hf q=>by
 cases hf
 exact ⟨l,q _ _ _ (zP.refl E.ext.gh) ⟨rfl,l⟩⟩⟩⟩
theorem UF {es:List Expr} {fj:FJ} (he:SE X e f) (hr:SJ X es fj):SJ X (e::es) (gm f fj):=by
 obtain ⟨te,pe,ke⟩:=he.h
 obtain ⟨tr,pr,kr⟩:=hr.h
 refine ⟨⟨_,Fp ⟨pe⟩ pr,fun {G0 H0 G H τ σ acc d Q} E l hf q=>?_⟩⟩
 obtain ⟨x,hx,hf⟩:=zM hf
 refine ke E hx fun v G1 H1 x1 r1=>?_
 cases x with
 | str y=>
  obtain ⟨rfl,_⟩:=r1
  change (if (acc++y).length<=yS then fj τ (acc++y) else none)=some d at hf
  by_cases cc:(acc++y).length<=yS
  ·rw [if_pos cc] at hf
   have c':(acc++y).length<=sizeLine:=by rw [sizeLine_eq]; exact cc
   exact ⟨y,rfl,c',kr (E.go x1) c' hf fun v G' H' x2 r2=>q v _ _ (x1.trans x2) r2⟩
  ·rw [if_neg cc] at hf
   cases hf
 | _=>cases hf
theorem Ce {e1' e2':Expr} {es:List Expr} {fj:FJ} (h:SJ X (e1'::e2'::es) fj):SE X (.JoinedStr (e1'::e2'::es) pos) (W8 fj):=by
 obtain ⟨t,pt,k⟩:=h.h
 exact ⟨⟨_,(Fj pt).h,fun E hf q=>k E (Nat.zero_le _) hf q⟩⟩
noncomputable def VM (i:Nat) (k v:FE):FS:=fun σ=>(v σ).bind fun y=>match σ[i]? with
 | some (some (true,.lst ds))=>(k σ).bind fun x=>match x with
  | .int j=>(ixN ds.length j).bind fun n=>some (.nx (σ.set i (some (true,.lst (ds.set n y)))))
  | _=>none
 | _=>none
theorem Reps.set {K:PySem.W.Frag} {G:Hp} {d:D} {v:V} (hv:zU K G d v):∀ {ds:List D} {vs:List V} (n:Nat),Reps K G ds vs->Reps K G (ds.set n d) (vs.set n v)
 | [],_,_,r=>by cases (show _=[] from r); rfl
 | d'::ds,_,0,r=>by
  obtain ⟨u,r',rfl,hu,hr⟩:=r
  exact ⟨v,r',rfl,hv,hr⟩
 | d'::ds,_,n+1,r=>by
  obtain ⟨u,r',rfl,hu,hr⟩:=r
  exact ⟨u,_,rfl,hu,Reps.set hv n hr⟩
theorem E8 {i:Nat} {k v:Expr} {fk fv:FE} {pos':Pos} (ho:QE X (.Name x xp) (qq i)) (hk:SE X k fk) (hv:SE X v fv) (hp:jW k=true:=by rfl) (hs:swapsWithSole [.Subscript (.Name x xp) k pos'] v pos.line X.env=pure false:=by rfl)
  (hw:swappedStores [.Subscript (.Name x xp) k pos'] v X.env=pure none:=by rfl) (h1:(assignEach [.Subscript (.Name x xp) k pos'] X.env).map (·.2)=[assign (.Subscript (.Name x xp) k pos') X.env]:=by rfl):SS X (.Assign [.Subscript (.Name x xp) k pos'] v pos) (VM i fk fv):=by
 obtain ⟨tk,pk,kk⟩:=hk.h
 obtain ⟨tv,pv,kv⟩:=hv.h
 refine ⟨⟨_,FM pv (Fn ho ⟨pk⟩ Cl hp).h hs hw h1,fun {G0 H0 G H τ σ fl E} K hf q=>?_⟩⟩
 obtain ⟨y,hy,hf⟩:=zM hf
 refine kv K hy fun w G1 H1 x1 r1=>?_
 split at hf
 ·rename_i ds hd
  obtain ⟨xk,hx,hf⟩:=zM hf
  cases xk with
  | int j=>
   obtain ⟨n,hn,hf⟩:=zM hf
   cases hf
   have K1:=K.go x1
   obtain ⟨aa,ea,g,z,vs,ev,rs,l⟩:=K1.ow _ _ hd
   refine ⟨_,ea,kk K1 hx fun u G2 H2 x2 r2=>?_⟩
   cases (show u=_ from r2)
   refine ⟨aa,vs,j,n,rfl,rfl,x2.h _ _ ev,by rw [rs.length]; exact hn,?_⟩
   exact q _ _ _ ((K1.go x2).mut hd ea ⟨_,xK,Reps.set (r1.mono x2.g) n (rs.mono x2.g),by rw [List.length_set]; exact l⟩)
  | _=>cases hf
 ·cases hf
end
end L3
namespace L2
open PySem PySem.Spec PyProof.Rows
noncomputable def XG (K:PySem.W.Frag) (a:Addr):It:=
  ⟨fun i H=>∃ xs x,yT K H a xs/\xs[i]?=some x,
   fun i H v H'=>∃ p,H p=none/\v=.ref p/\∀ xs,yT K H a xs->∃ x,xs[i]?=some x/\H'=zZ H p (.tup [.int (i:Int),x]),
   fun i H=>∃ xs,yT K H a xs/\xs.length<=i⟩
theorem Ek {P:Program} {w:World} {K:PySem.W.Frag} {elts:List Expr} {kk:Nat} {pos:Pos} (a e it:Addr) (hei:e≠it) :
  qJ P w K (.Tuple elts kk pos) (XG K a) [e,it] e (fun i h=>(∃ old,IsEnum h e it (i:Int) old)/\h.IsListIter it a i) where
 mem:=by simp
 obj:=fun i h st c hc=>by
  obtain ⟨⟨old,s1⟩,⟨o2,s2,_,d2⟩⟩:=st
  simp only [List.mem_cons,List.not_mem_nil,or_false] at hc
  rcases hc with rfl | rfl
  ·exact ⟨_,s1,fun v q=>nomatch q⟩
  ·exact ⟨_,s2,fun v q=>by rw [d2] at q; cases q⟩
 keep:=fun i h h' st k=>by
  obtain ⟨⟨old,s1⟩,s2⟩:=st
  exact ⟨⟨old,k e (by simp) _ s1⟩,s2.at fun o x=>k it (by simp) o x⟩
 item:=by
  intro X hP hw hK hc i pins s σ H E I hf st hg
  subst hP hw hK
  obtain ⟨⟨old,s1⟩,s2⟩:=st
  obtain ⟨xs,x,hx,ex⟩:=hg
  obtain ⟨us,ru,pu,_⟩:=I.list hx
  have pl:=pu.isList
  obtain ⟨xu,hxu,rxu⟩:=ru.get ex
  have hx':us.toArray[i]?=some xu:=by rw [List.getElem?_toArray]; exact hxu
  have lt1:e<s.heap.objs.size:=Heap.lt_size s1
  have lt2:it<s.heap.objs.size:=by obtain ⟨o,z,_⟩:=s2; exact Heap.lt_size z
  refine wpAny_pyNext_enum_item s1 s2 pl hx' hei fun h1 heo hit1 ht1 hz1 hk1=>?_
  refine ⟨_,rfl,wpAny_letOwnedTupleGo_enum (s:={ s with heap:=h1,toks:=s.toks+1 }) heo fun h2 he2 hs2=>?_⟩
  replace hs2:Heap.SameBut e h1 h2:=hs2
  have hTs:s.heap.get? s.heap.objs.size=none:=by
   cases q:s.heap.get? s.heap.objs.size with
   | none=>rfl
   | some o=>exact absurd (Heap.lt_size q) (Nat.lt_irrefl _)
  have hTf:H s.heap.objs.size=none:=I.hok.fresh (Nat.le_refl _)
  have tup:h2.get? s.heap.objs.size=some { cls:=.type "tuple",data:=.seq #[.int i s.toks,xu] }:=hs2.extBut _ _ (Nat.ne_of_gt lt1) ht1
  have kk:∀ c o,c ∉ [e,it]->s.heap.get? c=some o->h2.get? c=some o:=fun c o hc z=>by
   simp only [List.mem_cons,List.not_mem_nil,or_false,not_or] at hc
   exact hs2.extBut _ _ hc.1 (hk1 c o hc.1 hc.2 z)
  have new:yr X.prog X.w (zZ H s.heap.objs.size (.tup [.int (i:Int),x])) h2 s.heap.objs.size (.tup [.int (i:Int),x]):=⟨(by show 2<=sizeLine; decide),[.int i s.toks,xu],.cons ⟨_,rfl⟩ (.cons rxu .nil),⟨_,tup,rfl,_,rfl⟩⟩
  refine ⟨.ref s.heap.objs.size,zZ H s.heap.objs.size (.tup [.int (i:Int),x]),I.butNew (tk:=s.toks+1) hf kk hTs hTf new,rfl,⟨s.heap.objs.size,hTf,rfl,fun xs' hx'=>?_⟩,⟨⟨xu,?_⟩,hit1.at fun o z=>hs2.extBut _ _ hei.symm z⟩,fun c hc=>?_⟩
  ·rw [I.list_inj hx' hx]
   exact ⟨x,ex,rfl⟩
  ·rw [show ((i+1:Nat):Int)=(i:Int)+1 from rfl]
   exact he2
  ·rw [yj]
   ·exact (hf c hc).1
   ·intro q
    have hlt:c<s.heap.objs.size:=by
     simp only [List.mem_cons,List.not_mem_nil,or_false] at hc
     rcases hc with rfl | rfl
     ·exact lt1
     ·exact lt2
    rw [q] at hlt
    exact absurd hlt (Nat.lt_irrefl _)
 done:=by
  intro X hP hw hK hc i pins s σ H E I hf st hg
  subst hP hw hK
  obtain ⟨⟨old,s1⟩,s2⟩:=st
  obtain ⟨xs,hx,hend⟩:=hg
  obtain ⟨us,ru,pu,_⟩:=I.list hx
  have pl:=pu.isList
  have hx':us.toArray[i]?=none:=by
   rw [List.getElem?_toArray]
   exact List.getElem?_eq_none (by have:=ru.length; omega)
  refine wpAny_pyNext_enum_end (by exact I.ok.hd hc) s1 s2 pl hx' fun h1 he1=>?_
  refine ⟨rfl,I.but (tk:=s.toks) hf fun c ob hcc eb=>?_⟩
  simp only [List.mem_cons,List.not_mem_nil,or_false,not_or] at hcc
  exact he1 c ob hcc.2 eb
 self:=fun _ _ _ _ _ st h=>by
  obtain ⟨⟨old,s1⟩,_⟩:=st
  exact wpAny_pyIter_enum s1 h
section
variable {X:Cx}
noncomputable def Lw (K:PySem.W.Frag) (ta:TA):TI:=fun σ H R=>ta σ H fun vs H1=>∃ a xs,vs=[.ref a]/\yT K H1 a xs/\R (XG K a) H1
theorem Dx {a:Expr} {ta:TA} {p pos:Pos} {elts:List Expr} {kk:Nat} {tp:Pos} (hg:Gl X "enumerate") (hm:X.mg "enumerate" = none) (ha:PA X [a] ta) (hs:starEach [a] X.env=[(false,eval a X.env)]:=by rfl) :
  PI X (.Tuple elts kk tp) (.Call (.Name "enumerate" p) [a] [] pos) (Lw X.K ta):=by
 intro pins s σ H R I h
 refine Call_ (jR I hg hm boot_enumerate (PyProof.Rows.callWith_type1 (zh (ha pos pins s σ H _ I h) fun us s1 ⟨vs,H1,I1,r1,q1⟩=>?_) (by rw [hs]; rfl) rfl))
 obtain ⟨l1,xs,rfl,hx,q⟩:=q1
 obtain ⟨u,rfl,ru⟩:=wr r1
 cases (show u=Value.ref l1 from ru)
 obtain ⟨us,_,pu,_⟩:=I1.list hx
 refine call_enumerate_list pu.isList fun h' a1 a2 hz kp=>?_
 have I2:zC X pins σ H1 { s1 with heap:=h' }:=I1.kept (t':=s1.toks) kp
 refine wpAny_pyIter_enum (s:={ s1 with heap:=h' }) a1 ?_
 generalize hn:s1.heap.objs.size=n at a1 a2 hz
 refine ⟨n+1,[n+1,n],_,_,H1,rfl,I2,Ek l1 (n+1) n (wN (by omega)),⟨⟨_,a1⟩,a2⟩,fun c hc=>?_,q⟩
 have hle:s1.heap.objs.size<=c:=by
  rw [hn]
  simp only [List.mem_cons,List.not_mem_nil,or_false] at hc
  rcases hc with rfl | rfl
  ·exact Nat.le_add_right _ _
  ·exact Nat.le_refl _
 exact I1.fpOk hle (I1.hok.fresh hle)
end
end L2
namespace L3
open PySem PySem.Spec PyProof.Rows L2
noncomputable def numbered (xs:List D):List D:=List.zipWith (fun (i:Nat) x=>D.tup [.int (i:Int),x]) (List.range xs.length) xs
noncomputable def ZW (a:FE):FA:=fun σ=>(a σ).bind fun d=>match d with
 | .lst xs=>some (numbered xs)
 | _=>none
theorem Zs (xs:List D):(numbered xs).length=xs.length:=by simp [numbered]
theorem Qo (xs:List D) (i:Nat):(numbered xs)[i]?=(xs[i]?).map fun x=>D.tup [.int (i:Int),x]:=by
 unfold numbered
 rw [List.getElem?_zipWith]
 by_cases h:i<xs.length
 ·rw [List.getElem?_range h,List.getElem?_eq_getElem h]; rfl
 ·rw [List.getElem?_eq_none (by simpa using h),List.getElem?_eq_none (by omega)]; rfl
section
variable {K:PySem.W.Frag} {G H:Hp}
theorem L5 {a:Addr} {vs:List V} {xs:List D} (s1:yT K G a vs) (r1:Reps K G xs vs):qL K (XG K a) G (numbered xs) where
 go:=fun i G2 H g1 g2 hi=>by
  rw [Zs] at hi
  obtain ⟨v,e1,_⟩:=r1.get (List.getElem?_eq_getElem hi)
  exact ⟨vs,v,vR (g1.trans g2) s1,e1⟩
 yld:=fun i G2 H x H' g1 g2 hi y=>by
  obtain ⟨p,hp,rfl,k⟩:=y
  obtain ⟨v,e1,rfl⟩:=k vs (vR (g1.trans g2) s1)
  obtain ⟨d1,f1,q1⟩:=r1.at e1
  refine ⟨zZ G2 p (.tup [.int (i:Int),v]),.tup [.int (i:Int),d1],zP.lay g2 hp,by rw [Qo,f1]; rfl,?_⟩
  have sm:yL G (zZ G2 p (.tup [.int (i:Int),v])):=g1.trans (wP (g2.free hp) _)
  exact ⟨p,[.int (i:Int),v],rfl,yk.of xK,⟨_,_,rfl,rfl,⟨v,_,rfl,q1.mono sm,rfl⟩⟩,zW (n:=2) (by decide)⟩
 stop:=fun i G2 H g1 g2 hi=>by
  rw [Zs] at hi
  exact ⟨vs,vR (g1.trans g2) s1,by rw [r1.length]; exact hi⟩
end
theorem Cp {X:Cx} {a:Expr} {fa:FE} {p pos:Pos} {elts:List Expr} {kk:Nat} {tp:Pos} (hg:Gl X "enumerate") (hm:X.mg "enumerate" = none) (ha:SE X a fa) (hs:ya a=true:=by rfl):SI X (.Tuple elts kk tp) (.Call (.Name "enumerate" p) [a] [] pos) (ZW fa):=by
 obtain ⟨t,pt,k⟩:=(zB ha zK hs).h
 refine ⟨⟨_,Dx hg hm pt (wp hs),fun {G0 H0 G H τ σ ds R} K hf q=>?_⟩⟩
 obtain ⟨x,hx,hf⟩:=zM hf
 cases x<;>first | (cases hf; done) | skip
 cases hf
 rename_i xs
 refine k K (ds:=[.lst xs]) (by unfold z7; rw [hx]; rfl) fun vs G1 H1 x1 r1=>?_
 obtain ⟨v,r,rfl,hv,hr⟩:=r1
 cases (show r=[] from hr)
 obtain ⟨aa,vs1,rfl,s1,q1,l1⟩:=hv
 exact ⟨aa,vs1,rfl,vR x1.gh s1,q _ _ _ x1 (by rw [Zs]; exact l1) (L5 s1 q1)⟩
end L3
namespace L2
open PySem PySem.Spec PyProof PyProof.Rows
end L2
namespace L3
open PySem PySem.Spec PyProof.Rows L2
end L3
namespace L2
open PySem PySem.Spec PyProof.Rows
section
variable {X:Cx}
noncomputable def Fv:V->List V->Hp->VK->Prop:=fun x vs H Q=>∃ l xs i y,x=.ref l/\vs=[.int i,y]/\H l=some (.lst xs)/\xs.length<sizeLine/\0<=i/\i<2 ^ 62/\Q .non (zZ H l (.lst (xs.take i.toNat++[y]++xs.drop i.toNat)))
theorem Mz:Uj X "list.insert" Fv:=by
 intro pins s σ H x vs v us Q I rx rv h
 obtain ⟨l,xs,i,y,rfl,rfl,hH,hz,i0,i1,q⟩:=h
 cases rx
 obtain ⟨u,w,rfl,ru,rw'⟩:=YT rv
 obtain ⟨t,rfl⟩:=(show ∃ t,u=Value.int i t from ru)
 obtain ⟨z,its,n,r,hl,e⟩:=I.lstM hH
 have fit:¬ (!Builtin.List.listFitsIndex i)=true:=by
  unfold Builtin.List.listFitsIndex
  rw [decide_eq_true (show -(2 ^ 63:Int)<=i by omega),decide_eq_true (show i<2 ^ 63 by omega)]
  decide
 refine call_meets F.slot_list_insert ⟨_,e,rfl⟩ F.entry_list_insert (F.args_list_insert_3 _ _ _) (AutoSeq1.list_insert_list_int_val_1 l its.toArray n i t w fit (by rw [List.size_toArray]; omega)) ⟨e,?_⟩
 refine ⟨.non,_,I.lset (its':=its.take i.toNat++[w]++its.drop i.toNat) hH e ?_ (((r.take _).append (.cons rw' .nil)).append (r.drop _)) ?_,rfl,q⟩
 ·show (its.toArray.extract 0 (if i<0 then (i+((its.toArray.size:Nat):Int)).toNat else min i.toNat its.toArray.size)).push w++its.toArray.extract (if i<0 then (i+((its.toArray.size:Nat):Int)).toNat else min i.toNat its.toArray.size)=_
  rw [if_neg (by omega),List.size_toArray]
  apply Array.ext'
  simp only [Array.toList_append,Array.toList_push,Array.toList_extract,List.extract_eq_take_drop,List.drop_zero,Nat.sub_zero]
  have e1:its.take (min i.toNat its.length)=its.take i.toNat:=by
   rcases Nat.le_total i.toNat its.length with h | h
   ·rw [Nat.min_eq_left h]
   ·rw [Nat.min_eq_right h,List.take_of_length_le (Nat.le_refl _),List.take_of_length_le h]
  have e2:(its.drop (min i.toNat its.length)).take (its.length - min i.toNat its.length)=its.drop i.toNat:=by
   rw [List.take_of_length_le (by rw [List.length_drop]; omega)]
   rcases Nat.le_total i.toNat its.length with h | h
   ·rw [Nat.min_eq_left h]
   ·rw [Nat.min_eq_right h,List.drop_of_length_le (Nat.le_refl _),List.drop_of_length_le h]
  first
   | rw [e1,e2]
   | (simp only [List.size_toArray]; rw [e1,e2])
 ·rw [List.length_append,List.length_append,List.length_singleton,List.length_take,List.length_drop]
  omega
end
end L2
namespace L3
open PySem PySem.Spec PyProof.Rows L2
noncomputable def pE (ds:List D) (j:Int) (y:D):List D:=ds.take j.toNat++[y]++ds.drop j.toNat
noncomputable def Y5 (i:Nat) (k v:FE):FS:=fun σ=>match σ[i]? with
 | some (some (true,.lst ds))=>(k σ).bind fun x=>(v σ).bind fun y=>match x with
  | .int j=>if 0<=j/\j<2 ^ 62/\ds.length<yS then some (.nx (σ.set i (some (true,.lst (pE ds j y))))) else none
  | _=>none
 | _=>none
section
variable {X:Cx} {e o a b c:Expr} {f fo fa fb fc:FE} {x:Str} {xp p pos apos cpos:Pos}
theorem E6 {i:Nat} {k v:Expr} {fk fv:FE} (ho:QE X (.Name x xp) (qq i)) (hk:SE X k fk) (hv:SE X v fv) (hbase:attributeBase (.Name x xp) "insert" X.env (eval (.Name x xp) X.env)=eval (.Name x xp) X.env:=by rfl) (hline:(apos.endLine == cpos.line)=true:=by rfl) (hs:ya k=true:=by rfl) (hs2:ya v=true:=by rfl) :
  SS X (.Expr (.Call (.Attribute (.Name x xp) "insert" apos) [k,v] [] cpos) pos) (Y5 i fk fv):=by
 obtain ⟨t,p,kk⟩:=(zB hk (zB hv zK hs2) hs).h
 refine ⟨⟨_,(JG (kA PySem.F.plainAttrs_list PySem.F.slot_list_insert PySem.F.type_list_insert Mz ho ⟨p⟩ hbase hline (by rw [List.all_cons,hs,List.all_cons,hs2]; rfl) (by show 2<30; decide)) rfl).h,fun {G0 H0 G H τ σ fl E} K hf q=>?_⟩⟩
 unfold Y5 at hf
 split at hf
 ·rename_i ds hd
  obtain ⟨xk,hx,hf⟩:=zM hf
  obtain ⟨y,hy,hf⟩:=zM hf
  cases xk with
  | int j=>
   change (if 0<=j/\j<2 ^ 62/\ds.length<yS then some (Fl.nx (τ.set i (some (true,.lst (pE ds j y))))) else none)=some fl at hf
   by_cases c:0<=j/\j<2 ^ 62/\ds.length<yS
   ·rw [if_pos c] at hf
    cases hf
    obtain ⟨aa,ea,g,z,vs,ev,rs,l⟩:=K.ow _ _ hd
    refine ⟨_,ea,.inl ⟨rfl,vs,yT.of ev⟩,kk K (ds:=[.int j,y]) (by unfold z7; rw [hx,hy]; rfl) fun us G1 H1 x1 r1=>?_⟩
    obtain ⟨u,r,rfl,hu,⟨u2,r2,rfl,hu2,hr⟩⟩:=r1
    cases (show r2=[] from hr)
    cases (show u=_ from hu)
    refine ⟨aa,vs,j,u2,rfl,rfl,x1.h _ _ ev,by rw [rs.length,sizeLine_eq]; exact c.2.2,c.1,c.2.1,?_⟩
    refine q _ _ _ ((K.go x1).mut hd ea ⟨_,xK,(((rs.mono x1.g).take _).append (Reps.one hu2)).append ((rs.mono x1.g).drop _),?_⟩)
    unfold pE
    rw [List.length_append,List.length_append,List.length_singleton,List.length_take,List.length_drop,sizeLine_eq]
    have h2:ds.length<16777216:=c.2.2
    have h3:min j.toNat ds.length+1+(ds.length - j.toNat)<=ds.length+1:=by omega
    exact Nat.le_trans h3 h2
   ·rw [if_neg c] at hf
    cases hf
  | _=>cases hf
 ·cases hf
end
end L3
namespace L3
open PySem PySem.Spec PyProof.Rows L2
end L3
namespace L3
open PySem PySem.Spec PyProof.Rows L2
end L3
namespace L3
open PySem PySem.Spec PyProof.Rows L2
end L3
namespace L3
open PySem PySem.Spec PyProof.Rows L2
end L3
namespace L3
open PySem PySem.Spec PyProof.Rows L2
end L3
namespace L3
open PySem PySem.Spec PyProof.Rows L2
end L3
namespace L2
open PySem PySem.Spec PyProof PyProof.Rows
section
variable {X:Cx}
noncomputable def Wb:V->Bool
 | .str _=>true
 | _=>false
noncomputable def kB (K:PySem.W.Frag):R2:=fun x y H Q=>∃ p xs r ys,x=.ref r/\(yT K H r ys\/yk K H r ys)/\y=.ref p/\yk K H p xs/\xs.all Wb=true/\Q (.bl false) H
theorem IK {A:Around} {s:Shared} {r:Addr} (hr:(∃ its,s.heap.IsList r its)\/∃ its,s.heap.IsTuple r its) (hu:A.units<cLine):∀ {xs:List V} {us:List Value},zf xs us->xs.all Wb=true->∀ u∈us,SeqAt.EqAt A s u (.ref r) false
 | _,_,.nil,_=>fun u hu=>by cases hu
 | y::xs,u::us,.cons h t,f=>fun u' hu'=>by
  rw [List.all_cons,Bool.and_eq_true] at f
  rcases List.mem_cons.mp hu' with rfl | hu'
  ·cases y with
   | str z=>
    obtain ⟨tk,rfl⟩:=h
    rcases hr with ⟨its,hl⟩ | ⟨its,hl⟩
    ·exact SeqAt.EqAt.str_list z tk hl hu
    ·exact SeqAt.EqAt.str_tuple z tk hl hu
   | _=>exact absurd f.1 Bool.false_ne_true
  ·exact IK hr hu t f.2 u' hu'
theorem D9 (hu:X.A.units+1<cLine):yU X (compareOp .In) (kB X.K):=by
 intro pins s σ H x y v u Q I rx ry h
 obtain ⟨p,xs,r,ys,rfl,hq,rfl,hp,fs,q⟩:=h
 cases rx
 cases ry
 obtain ⟨its,rr,pl,hz⟩:=I.tuple hp
 have hr:(∃ its,s.heap.IsList r its)\/∃ its,s.heap.IsTuple r its:=by
  rcases hq with hq | hq
  ·obtain ⟨its2,_,pl2,_⟩:=I.list hq
   exact .inl ⟨_,pl2.isList⟩
  ·obtain ⟨its2,_,pl2,_⟩:=I.tuple hq
   exact .inr ⟨_,pl2⟩
 refine SeqAt.in_tupleAt (fun _=>false) pl (fun w hw=>IK hr hu rr fs w (by simpa using hw)) ⟨.bl _,H,I,rfl,?_⟩
 rw [show (its.toArray.any fun _=>false)=false by simp]
 exact q
end
end L2
namespace L3
open PySem PySem.Spec PyProof.Rows L2
noncomputable def kL (ys:List D):Bool:=ys.all fun y=>match y with
 | .str _=>true
 | _=>false
noncomputable def WZ:D->Option D
 | .tup ys=>if kL ys=true then some (.bl false) else none
 | _=>none
noncomputable def WH (x y:D):Option D:=match x with
 | .lst _=>WZ y
 | .tup _=>WZ y
 | x=>yy x y
section
variable {X:Cx} {K:PySem.W.Frag}
theorem Jf {H:Hp}:∀ {ys:List D} {vs:List V},Reps K H ys vs->kL ys=true->vs.all Wb=true
 | [],_,r,_=>by cases (show _=[] from r); rfl
 | y::ys,_,r,h=>by
  obtain ⟨v,r',rfl,hv,hr⟩:=r
  unfold kL at h
  rw [List.all_cons,Bool.and_eq_true] at h
  rw [List.all_cons,Jf hr h.2,Bool.and_true]
  cases y with
  | str z=>rw [(show v=.str z/\_ from hv).1]; rfl
  | _=>exact absurd h.1 Bool.false_ne_true
theorem D8 (hu:X.A.units+1<cLine):yU X (compareOp .In) (fun x y H Q=>tj X.K false x y H Q\/kB X.K x y H Q):=(vA hu).or (D9 hu)
theorem BM:uf K (fun x y H Q=>tj K false x y H Q\/kB K x y H Q) WH:=fun H x y u v d Q rx ry hf=>by
 have ref:∀ (r:Addr) (ys:List V),u=.ref r->(yT K H r ys\/yk K H r ys)->WZ y=some d->∃ k,d=.bl k/\(Q (.bl k) H->(tj K false u v H Q\/kB K u v H Q)):=fun r ys hu hq hf=>by
  cases y with
  | tup zs=>
   have hf:(if kL zs=true then some (D.bl false) else none)=some d:=hf
   by_cases c:kL zs=true
   ·rw [if_pos c] at hf
    cases hf
    obtain ⟨b,vs,rfl,sb,rb,_⟩:=ry
    exact ⟨false,rfl,fun q=>.inr ⟨b,vs,r,ys,hu,hq,rfl,sb,Jf rb c,q⟩⟩
   ·rw [if_neg c] at hf
    cases hf
  | _=>cases hf
 have old:yy x y=some d->∃ k,d=.bl k/\(Q (.bl k) H->(tj K false u v H Q\/kB K u v H Q)):=fun hf=>by
  obtain ⟨k,e,z⟩:=v7 H x y u v d Q rx ry hf
  exact ⟨k,e,fun q=>.inl (z q)⟩
 cases x with
 | lst xs=>
  obtain ⟨a,vs,ea,sa,_,_⟩:=rx
  exact ref a vs ea (.inl sa) hf
 | tup xs=>
  obtain ⟨a,vs,ea,sa,_,_⟩:=rx
  exact ref a vs ea (.inr sa) hf
 | _=>exact old hf
end
noncomputable def qO:List D->Option (List Bool)
 | []=>some []
 | .bl b::r=>(qO r).bind fun bs=>some (b::bs)
 | _=>none
theorem T8:∀ bs:List Bool,qO (bs.map D.bl)=some bs
 | []=>rfl
 | b::bs=>by
  show (qO (bs.map D.bl)).bind _=_
  rw [T8 bs]
  rfl
theorem T7:∀ {ds:List D} {bs:List Bool},qO ds=some bs->ds=bs.map D.bl
 | [],_,h=>by cases h; rfl
 | d::ds,bs,h=>by
  unfold qO at h
  split at h
  ·rename_i e; cases e
  ·rename_i b r e
   cases e
   obtain ⟨bs',h1,h⟩:=zM h
   cases h
   rw [T7 h1]
   rfl
  ·cases h
theorem Je {K:PySem.W.Frag} {G:Hp}:∀ {bs:List Bool} {vs:List V},Reps K G (bs.map D.bl) vs->vs=bs.map V.bl
 | [],_,r=>r
 | b::bs,_,r=>by
  obtain ⟨v,r',rfl,hv,hr⟩:=r
  rw [Je hr,show v=V.bl b from hv]
  rfl
noncomputable def tN:List D->Option D
 | [.lst xs]=>(qO xs).bind fun bs=>some (.bl (bs.all id))
 | _=>none
theorem gy {K:PySem.W.Frag}:j0 K (JJ K) tN:=fun G H ds vs d Q s r hf q=>by
 match ds,hf with
 | [.lst xs],hf=>
  obtain ⟨bs,hb,hf⟩:=zM (show (qO xs).bind _=some d from hf)
  cases hf
  obtain ⟨v,rfl,a,us,rfl,sq,rs,l⟩:=uu r
  rw [T7 hb] at rs
  rw [Je rs] at sq
  exact ⟨a,bs,rfl,sq,q _ _ _ (zP.refl s) rfl⟩
end L3
namespace L2
open PySem PySem.Spec PyProof PyProof.Rows
end L2
namespace L2
open PySem PySem.Spec PyProof PyProof.Rows
end L2
namespace L2
open PySem PySem.Spec PyProof PyProof.Rows
end L2
namespace L3
open PySem PySem.Spec PyProof.Rows L2
end L3
namespace L2
open PySem PySem.Spec PyProof PyProof.Rows
end L2
namespace L2
open PySem PySem.Spec PyProof PyProof.Rows
end L2
namespace L2
open PySem PySem.Spec PyProof PyProof.Rows
end L2
namespace L2
open PySem PySem.Spec PyProof PyProof.Rows
end L2
namespace L2
open PySem PySem.Spec PyProof PyProof.Rows
end L2
namespace L2
open PySem PySem.Spec PyProof PyProof.Rows
end L2
namespace L2
open PySem PySem.Spec PyProof PyProof.Rows
end L2
namespace L3
open PySem PySem.Spec PyProof.Rows L2
end L3
namespace L2
open PySem PySem.Spec PyProof PyProof.Rows
end L2
namespace L3
open PySem PySem.Spec PyProof.Rows L2
end L3
namespace L2
open PySem PySem.Spec PyProof PyProof.Rows
end L2
namespace L3
open PySem PySem.Spec PyProof.Rows L2
end L3
namespace L3
open PySem PySem.Spec PyProof.Rows L2
end L3
namespace L3
open PySem PySem.Spec PyProof.Rows L2
end L3
namespace L2
open PySem PySem.Spec PyProof PyProof.Rows
end L2
namespace L3
open PySem PySem.Spec PyProof.Rows L2
end L3
namespace L2
open PySem PySem.Spec PyProof PyProof.Rows
end L2
namespace L3
open PySem PySem.Spec PyProof.Rows L2
end L3
namespace L3
open PySem PySem.Spec PyProof.Rows L2
section
variable {α:Type} {P:List α->Prop}
theorem Ih (h:P []):∀ us:List α,us.length=0->P us
 | [],_=>h
theorem YS {n:Nat} (h:∀ a (r:List α),r.length=n->P (a::r)):∀ us:List α,us.length=n+1->P us
 | a::r,e=>h a r (Nat.succ.inj e)
theorem Ii (h:∀ a,P [a]):∀ us:List α,us.length=1->P us:=YS fun a=>Ih (P:=fun r=>P (a::r)) (h a)
theorem Ij (h:∀ a b,P [a,b]):∀ us:List α,us.length=2->P us:=YS fun a=>Ii (P:=fun r=>P (a::r)) (h a)
theorem Ik (h:∀ a b c,P [a,b,c]):∀ us:List α,us.length=3->P us:=YS fun a=>Ij (P:=fun r=>P (a::r)) (h a)
theorem Ez (h:∀ a b c d,P [a,b,c,d]):∀ us:List α,us.length=4->P us:=YS fun a=>Ik (P:=fun r=>P (a::r)) (h a)
end
noncomputable abbrev Tw (x:Str) (st:Stmt) (oc:Value) (od:Option Addr) (sl:Array (Option Value)) (kV dc pm:Value) (an:Option Addr) (cd ct:Value):Option Obj:=some ⟨oc,od,.func (PySem.W.fnOf x x (qQ st) (wg st) (zi st) .none kV dc pm an cd ct),sl⟩
end L3
namespace L3
open PySem PySem.Spec PyProof.Rows L2
end L3
namespace L3
open PySem PySem.Spec PyProof PyProof.Rows L2
end L3
namespace L3
open PySem PySem.Spec PyProof PyProof.Rows L2
end L3
namespace L2
open PySem PySem.Spec PyProof PyProof.Rows
end L2
namespace L3
open PySem PySem.Spec PyProof PyProof.Rows L2
end L3
namespace L2
open PySem PySem.Spec PyProof PyProof.Rows
end L2
namespace L3
open PySem PySem.Spec PyProof PyProof.Rows L2
end L3
namespace L2
open PySem PySem.Spec PyProof PyProof.Rows
end L2
namespace L3
open PySem PySem.Spec PyProof PyProof.Rows L2
noncomputable abbrev FX:=List D->Option (Sum (Bool×D) Str)
noncomputable abbrev vy:=yD->Option (Sum Fl Str)
noncomputable def k_ (mg:Str->Option Value) (G0 H0:Hp) (E:XK) (x:Str):Prop:=∃ C,mg x=some (.ref C)/\∀ G' H',zP G0 H0 G' H'->E (.ref C) none H'
noncomputable def O9 (K:PySem.W.Frag) (n:Nat) (mg:Str->Option Value) (G0 H0:Hp) (En:vc) (E:XK):Sum Fl Str->Prop
 | .inl fl=>wR K n G0 H0 En fl
 | .inr x=>k_ mg G0 H0 E x
structure j5 (X:Cx) (E:XK) (sts:List Stmt) (f:vy):Prop where
 h:∃ t,wZ X sts t/\∀ {G0 H0 G H:Hp} {τ:yD} {σ:St} {r:Sum Fl Str} {En:vc},yB X.K X.N.length G0 H0 G H τ σ->f τ=some r->O9 X.K X.N.length X.mg G0 H0 En E r->t En σ H
noncomputable def YV (g:FS):vy:=fun τ=>(g τ).bind fun fl=>some (.inl fl)
noncomputable def kP (g:FS) (f:vy):vy:=fun τ=>(g τ).bind fun fl=>match fl with
 | .nx τ'=>f τ'
 | fl=>some (.inl fl)
noncomputable def YW (c:FT) (a:FA) (x:Str) (f:vy):vy:=fun τ=>(c τ).bind fun b=>match b with
 | true=>(a τ).bind fun ds=>if ds.length<=1000 then some (.inr x) else none
 | false=>f τ
section
variable {X:Cx} {E:XK} {x:Str} {C:Addr} {st:Stmt} {sts yC:List Stmt} {g:FS} {f:vy} {ft:FT} {fa:FA} {c e:Expr} {es:List Expr} {np cpos pos ipos:Pos}
theorem ED (h:wc X sts g):j5 X E sts (YV g):=by
 obtain ⟨t,p,k⟩:=h.h
 refine ⟨⟨t,p,fun {G0 H0 G H τ σ r En} K hf q=>?_⟩⟩
 obtain ⟨fl,h1,hf⟩:=zM hf
 cases hf
 exact k K h1 q
theorem IQ (h1:SS X st g) (h2:j5 X E yC f):j5 X E (st::yC) (kP g f):=by
 obtain ⟨t,p,k⟩:=h1.h
 obtain ⟨t',p',k'⟩:=h2.h
 refine ⟨⟨_,V3 p p',fun {G0 H0 G H τ σ r En} K hf q=>?_⟩⟩
 obtain ⟨fl,h1,hf⟩:=zM hf
 refine k K h1 ?_
 cases fl with
 | nx τ'=>exact fun σ' G' H' K'=>k' K' hf q
 | rt o d=>cases hf; exact wR.with q (fun _ z=>nomatch z) (fun _ z=>nomatch z) (fun _ z=>nomatch z) rfl
 | bk τ'=>cases hf; exact q
 | ct τ'=>cases hf; exact q
theorem EE (hc:ST X c ft) (cx:xh X.K X.mg x C) (hr:XS X E) (hh:X.A.handled=none) (hg:Gl X x) (ha:SA X (e::es) fa) (hrest:j5 X E yC f) (hdb:(x == ("__debug__" : Str))=false:=by decide) (he:(e::es).all ya=true:=by rfl) :
  j5 X E (.If c [.Raise (some (.Call (.Name x np) (e::es) [] cpos)) none pos] [] ipos::yC) (YW ft fa x f):=by
 obtain ⟨tc,pc,kc⟩:=hc.h
 obtain ⟨ta,pa,ka⟩:=ha.h
 obtain ⟨tr,pr,kr⟩:=hrest.h
 refine ⟨⟨_,V3 (J8 pc (JC (FU cx hr hh hg pa hdb he)) JA) pr,fun {G0 H0 G H τ σ r En} K hf q=>?_⟩⟩
 obtain ⟨b,hb,hf⟩:=zM hf
 refine kc K hb fun G1 H1 x1=>?_
 cases b with
 | true=>
  obtain ⟨ds,hd,hf⟩:=zM hf
  by_cases z:ds.length<=1000
  ·rw [if_pos z] at hf
   cases hf
   refine pG (ka (K.go x1) hd fun vs G2 H2 x2 r2=>⟨?_,?_⟩)
   ·rw [r2.length,sizeLine_eq]
    exact Nat.le_trans z (by decide)
   ·obtain ⟨C',hm,q⟩:=q
    rw [cx.at_] at hm
    cases hm
    exact q G2 H2 (((K.ext).trans x1).trans x2)
  ·rw [if_neg z] at hf
   cases hf
 | false=>exact pF (kr (K.go x1) hf q)
end
noncomputable def YF (K:PySem.W.Frag) (mg:Str->Option Value) (F:FX):Sp:=fun vs H Q E=>∃ G ds r,yL G H/\Reps K G ds vs/\F ds=some r/\
 match r with
 | .inl (false,d)=>∀ v G' H',zP G H G' H'->zU K G' d v->Q v H'
 | .inl (true,d)=>∀ p G' H',zP G H G' H'->H p=none->G' p=none->wY K G' H' d p->Q (.ref p) H'
 | .inr x=>k_ mg G H E x
noncomputable def jd (n:Nat) (b:vy) (ds:List D):Option (Sum (Bool×D) Str):=(b (ds.map (fun d=>some (false,d))++List.replicate (n - ds.length) none)).bind fun r=>match r with
 | .inl (.rt o d)=>some (.inl (o,d))
 | .inl (.nx _)=>some (.inl (false,.non))
 | .inl _=>none
 | .inr x=>some (.inr x)
noncomputable def Yi (n N:Nat) (b:vy):FX:=fun ds=>if ds.length=n then jd N b ds else none
theorem O5 {n N:Nat} {b:vy}:∀ ds r,Yi n N b ds=some r->ds.length=n/\jd N b ds=some r:=fun ds r h=>by
 unfold Yi at h
 split at h
 ·rename_i c
  exact ⟨c,h⟩
 ·cases h
section
variable {P:Program} {w:World} {K:PySem.W.Frag} {mg:Str->Option Value} {base:Heap}
theorem Def.okXS {x:Str} {st:Stmt} {N ps:List Str} {k:Nat} {F:FX} {b:vy} (d:Def K mg x st ps) (S:yQ N ps (zi st)) (hN:ps.length<=N.length) (hF:∀ ds r,F ds=some r->ds.length=ps.length/\jd N.length b ds=some r)
  (hb:∀ (f:Addr) (cdv:Value) (A:Around) (outer:List Env) (s:Shared) (H:Hp) (E:XK),xB k (A.deeper (envOfC x (zi st) s.heap.objs.size f cdv))->j5 (jB P w K mg base N x (zi st) f cdv A outer s H E) E (wg st) b):p_ P w K mg base x ps (k+1) (YF K mg F):=by
 refine d.okX S (fun vs H Q E h=>?_) fun f cdv A outer s H vs Q E hr h=>?_
 ·obtain ⟨G,ds,r,_,rs,e,_⟩:=h
  rw [rs.length,(hF _ _ e).1]
 ·obtain ⟨G,ds,r,s',rs,e,q⟩:=h
  obtain ⟨l,hrun⟩:=hF _ _ e
  obtain ⟨t,p,kt⟩:=(hb f cdv A outer s H E hr).h
  obtain ⟨fl,hfl,hrun⟩:=zM hrun
  refine ⟨t,⟨p⟩,kt (ZI (N:=N) s' rs (by omega)) hfl ?_⟩
  cases fl with
  | inr y=>
   cases hrun
   exact q
  | inl fl=>
   cases fl with
   | nx τ=>
    cases hrun
    exact fun σ G' H' z=>q .non G' H' z.ext rfl
   | rt o' d'=>
    cases hrun
    cases o' with
    | false=>exact q
    | true=>exact q
   | bk τ=>cases hrun
   | ct τ=>cases hrun
end
end L3
namespace L2
open PySem PySem.Spec PyProof PyProof.Rows
end L2
namespace L3
open PySem PySem.Spec PyProof PyProof.Rows L2
end L3
namespace L2
open PySem PySem.Spec PyProof PyProof.Rows
end L2
namespace L2
open PySem PySem.Spec PyProof PyProof.Rows
end L2
namespace L3
open PySem PySem.Spec PyProof PyProof.Rows L2
end L3
namespace L2
open PySem PySem.Spec PyProof PyProof.Rows
end L2
namespace L3
open PySem PySem.Spec PyProof PyProof.Rows L2
end L3
namespace L2
open PySem PySem.Spec PyProof PyProof.Rows
end L2
namespace L3
open PySem PySem.Spec PyProof PyProof.Rows L2
end L3
namespace L2
open PySem PySem.Spec PyProof PyProof.Rows
end L2
namespace L3
open PySem PySem.Spec PyProof PyProof.Rows L2
end L3
namespace L2
open PySem PySem.Spec PyProof PyProof.Rows
end L2
namespace L3
open PySem PySem.Spec PyProof PyProof.Rows L2
end L3
namespace L3
open PySem PySem.Spec PyProof PyProof.Rows L2
noncomputable abbrev jr:=yD->Option (Sum (Bool×D) Str)
structure SX (X:Cx) (e:Expr) (f:jr):Prop where
 h:∃ t,QX X e t/\∀ {G0 H0 G H:Hp} {τ:yD} {σ:St} {r:Sum (Bool×D) Str} {Q:VK} {E:XK},yB X.K X.N.length G0 H0 G H τ σ->f τ=some r->(match r with
  | .inl (false,d)=>∀ v G' H',zP G H G' H'->zU X.K G' d v->Q v H'
  | .inl (true,d)=>∀ p G' H',zP G H G' H'->H p=none->G' p=none->wY X.K G' H' d p->Q (.ref p) H'
  | .inr x=>k_ X.mg G H E x)->t σ H Q E
noncomputable def YU (F:FX) (fa:FA):jr:=fun τ=>(fa τ).bind fun ds=>F ds
section
variable {X:Cx} {j k kk i:Nat} {f x n z g:Str} {C D':Addr} {ps:List Str} {F:FX} {FF:List D->Option (Bool×D)} {fa:FA} {fc:FE} {fx:jr} {gs:FS} {c e b:Expr} {es:List Expr} {b₀:Stmt} {suite sts:List Stmt} {fp cp np p p1 pos rp hpos tpos:Pos}
theorem EC (hnx:X.nox=X) (hF:p_ X.prog X.w X.K X.mg X.base f ps k (YF X.K X.mg F)) (hr:xB j X.A) (hg:Gl X f) (ha:SA X (e::es) fa) (hk:k<=j:=by decide) (hdb:(f == ("__debug__" : Str))=false:=by decide) (he:(e::es).all ya=true:=by rfl) :
  SX X (.Call (.Name f fp) (e::es) [] cp) (YU F fa):=by
 obtain ⟨ta,pa,ka⟩:=ha.h
 have pa':QA X.nox (e::es) ta:=by rw [hnx]; exact ⟨pa⟩
 refine ⟨⟨_,Fr hF hr hg pa' hk hdb he,fun {G0 H0 G H τ σ r Q E} K hf q=>?_⟩⟩
 obtain ⟨ds,hd,hf⟩:=zM hf
 refine ka K hd fun vs G1 H1 x1 r1=>⟨G1,ds,r,x1.gh,r1,hf,?_⟩
 cases r with
 | inl od=>
  obtain ⟨o,d⟩:=od
  cases o with
  | false=>exact fun v G' H' x2 rv=>q v G' H' (x1.trans x2) rv
  | true=>exact fun p G' H' x2 hp gp o=>q p G' H' (x1.trans x2) (x1.h.free hp) gp o
 | inr w=>
  obtain ⟨C',hm,q⟩:=q
  exact ⟨C',hm,fun G' H' x2=>q G' H' (x1.trans x2)⟩
noncomputable def UR (K:PySem.W.Frag) (n:Nat) (f:FS):TS:=fun En σ H=>∃ G0 H0 G τ fl,yB K n G0 H0 G H τ σ/\f τ=some fl/\wR K n G0 H0 En fl
theorem wc.asT (h:wc X sts gs):kx X sts (UR X.K X.N.length gs):=by
 obtain ⟨t,p,k⟩:=h.h
 refine ⟨fun pins s σ H F I q=>?_⟩
 obtain ⟨G0,H0,G,τ,fl,K,hf,q⟩:=q
 exact p pins s σ H F I (k K hf q)
theorem Lv {A:Around} {k:Nat} (hr:wb k A):A.units+1<cLine:=by have:=hr.un; omega
theorem Lu {A:Around} {k:Nat} (hr:wb k A):A.units+7<cLine:=by have:=hr.un; omega
theorem CZ (h:pz X.prog X.w X.K X.mg X.base x ps k (yY X.K FF)) (hr:wb j X.A) (hg:Gl X x) (ha:SA X (e::es) fa) (hk:k<=j:=by decide) (hdb:(x == ("__debug__" : Str))=false:=by decide)
  (he:(e::es).all ya=true:=by rfl):SE X (.Call (.Name x p) (e::es) [] pos) (zR FF fa):=by
 obtain ⟨t,pt,kt⟩:=ha.h
 refine ⟨⟨_,(Fm h hr hg ⟨pt⟩ hk hdb he).h,fun E hf q=>?_⟩⟩
 obtain ⟨ds,hd,hf⟩:=zM hf
 obtain ⟨⟨o,d⟩,hr,hf⟩:=zM hf
 cases hf
 refine kt E hd fun vs G1 H1 x1 r1=>⟨G1,ds,o,d,x1.gh,by rw [List.append_nil]; exact r1,hr,?_⟩
 cases o with
 | false=>exact fun v G' H' x2 r=>q v G' H' (x1.trans x2) r
 | true=>
  intro p G' H' x2 hp gp o
  obtain ⟨u,hu,r⟩:=o.frz gp
  exact q _ _ _ (x1.trans (x2.frz hp gp hu)) r
noncomputable def um (z:Str) (b:Bool):D->Option D
 | .exc x=>if x=z then some (.bl b) else none
 | _=>none
theorem QL {K:PySem.W.Frag} {G:Hp} {d u:D} {v:V} {b:Bool} (hns:PySem.W.nsIn K mainGlobals z=some (some (.ref C))) (hf:um z b d=some u) (r:zU K G d v):u=.bl b/\∃ a,v=.ref a/\G a=some (.ext (uL a C)):=by
 cases d with
 | exc w=>
  change (if w=z then some (D.bl b) else none)=some u at hf
  by_cases ez:w=z
  ·rw [if_pos ez] at hf
   cases hf
   subst ez
   obtain ⟨a,C',rfl,h1,h2⟩:=r
   rw [hns] at h1
   cases h1
   exact ⟨rfl,a,rfl,h2⟩
  ·rw [if_neg ez] at hf
   cases hf
 | _=>cases hf
theorem jf {B:Addr} {y:Str} {bb:Bool} (hg:Gl X "isinstance") (hmi:X.mg "isinstance" = none) (hns:PySem.W.nsIn X.K mainGlobals z=some (some (.ref C))) (hZ:uK X.K C) (cy:xh X.K X.mg y B) (hgy:Gl X y) (ht:PySem.W.kitOne X.K (.ref C) (.ref B)=some bb) (ha:SE X e fc) (hs:ya e=true:=by rfl) (hdb:(y == ("__debug__" : Str))=false:=by decide) :
  SE X (.Call (.Name "isinstance" p) [e,.Name y p1] [] pos) (e1 (um z bb) fc):=by
 obtain ⟨t,pt,k⟩:=ha.h
 refine ⟨⟨_,(Zz TB hg hmi Xt (jZ ⟨pt⟩ (jZ (Fk cy.glb hgy hdb) V7 rfl) hs) (by decide) (by decide) (by rw [List.all_cons,hs]; rfl)).h,fun {G0 H0 G H τ σ d Q} E hf q=>?_⟩⟩
 obtain ⟨u,hu,hf⟩:=zM hf
 refine k E hu fun v G' H' x r=>?_
 obtain ⟨rfl,a,rfl,ga⟩:=QL hns hf r
 exact ⟨a,C,_,_,bb,rfl,x.gh _ _ ga,hZ,rfl,ht,q _ _ _ x rfl⟩
theorem Cf {y:Str} {T:String} {bb:Bool} (hg:Gl X "isinstance") (hmi:X.mg "isinstance" = none) (hns:PySem.W.nsIn X.K mainGlobals z=some (some (.ref C))) (hZ:uK X.K C) (hgy:Gl X y) (hmy:X.mg y=none) (hv:bootBuiltins y=some (.type T)) (ht:PySem.W.kitOne X.K (.ref C) (.type T)=some bb) (ha:SE X e fc) (hs:ya e=true:=by rfl) (hn:y ≠ "__name__" := by decide) (hdb:(y == ("__debug__" : Str))=false:=by decide) :
  SE X (.Call (.Name "isinstance" p) [e,.Name y p1] [] pos) (e1 (um z bb) fc):=by
 obtain ⟨t,pt,k⟩:=ha.h
 refine ⟨⟨_,(Zz TB hg hmi Xt (jZ ⟨pt⟩ (jZ (JF hgy hmy hv hn hdb) V7 rfl) hs) (by decide) (by decide) (by rw [List.all_cons,hs]; rfl)).h,fun {G0 H0 G H τ σ d Q} E hf q=>?_⟩⟩
 obtain ⟨u,hu,hf⟩:=zM hf
 refine k E hu fun v G' H' x r=>?_
 obtain ⟨rfl,a,rfl,ga⟩:=QL hns hf r
 exact ⟨a,C,_,_,bb,rfl,x.gh _ _ ga,hZ,rfl,ht,q _ _ _ x rfl⟩
end
section
variable {P:Program} {w:World} {K:PySem.W.Frag} {mg:Str->Option Value} {base:Heap}
theorem Def.okHS {x:Str} {st:Stmt} {N ps:List Str} {k:Nat} {F:List D->Option (Bool×D)} {b:FS} (d:Def K mg x st ps) (S:yQ N ps (zi st)) (hN:ps.length<=N.length) (hF:∀ ds r,F ds=some r->ds.length=ps.length/\yi N.length b ds=some r)
  (hb:∀ (f:Addr) (cdv:Value) (A:Around) (outer:List Env) (s:Shared) (H:Hp) (E:XK),wb k (A.deeper (envOfC x (zi st) s.heap.objs.size f cdv))->wc (gO P w K mg base N x (zi st) f cdv A outer s H E) (wg st) b):pz P w K mg base x ps (k+1) (yY K F):=by
 refine d.okH S (fun vs H Q E h=>?_) fun f cdv A outer s H vs Q E hr h=>?_
 ·obtain ⟨G,ds,o,r,_,rs,e,_⟩:=h
  rw [rs.length,(hF _ _ e).1]
 ·obtain ⟨G,ds,o,r,s',rs,e,q⟩:=h
  obtain ⟨l,hrun⟩:=hF _ _ e
  obtain ⟨t,p,kt⟩:=(hb f cdv A outer s H E hr).h
  obtain ⟨fl,hfl,hrun⟩:=zM hrun
  refine ⟨t,⟨p⟩,kt (ZI (N:=N) s' rs (by omega)) hfl ?_⟩
  cases fl with
  | nx τ=>
   cases hrun
   exact fun σ G' H' z=>q .non G' H' z.ext rfl
  | rt o' d'=>
   cases hrun
   cases o with
   | false=>exact q
   | true=>exact q
  | bk τ=>cases hrun
  | ct τ=>cases hrun
end
end L3
namespace L2
open PySem PySem.Spec PyProof PyProof.Rows
end L2
namespace L3
open PySem PySem.Spec PyProof PyProof.Rows L2
end L3
namespace L2
open PySem PySem.Spec PyProof PyProof.Rows
open Builtin Builtin.Str
section
variable {X:Cx}
theorem B2:tD X "str.startswith" (fun x vs H Q=>∃ z y:Str,x=.str z/\vs=[.str y]/\Q (.bl (Txt.startswith z y)) H):=by
 intro pins s σ H x vs v us Q I rx rv h
 obtain ⟨z,y,rfl,rfl,q⟩:=h
 obtain ⟨t,rfl⟩:=(show ∃ t,v=Value.str z t from rx)
 obtain ⟨u,rfl,t',rfl⟩:=wr rv
 exact call_gives F.slot_str_startswith (typeIs_str _ _ _) F.entry_str_startswith (F.args_str_startswith_2 _ _) (gives_str_startswith z y t t') ⟨.bl _,H,I,rfl,q⟩
theorem Mx:tD X "str.endswith" (fun x vs H Q=>∃ z y:Str,x=.str z/\vs=[.str y]/\Q (.bl (Txt.endswith z y)) H):=by
 intro pins s σ H x vs v us Q I rx rv h
 obtain ⟨z,y,rfl,rfl,q⟩:=h
 obtain ⟨t,rfl⟩:=(show ∃ t,v=Value.str z t from rx)
 obtain ⟨u,rfl,t',rfl⟩:=wr rv
 exact call_gives F.slot_str_endswith (typeIs_str _ _ _) F.entry_str_endswith (F.args_str_endswith_2 _ _) (gives_str_endswith z y t t') ⟨.bl _,H,I,rfl,q⟩
theorem B3:tD X "str.strip" (fun x vs H Q=>∃ z y:Str,x=.str z/\vs=[.str y]/\z.length<=sizeLine/\Q (.str (Txt.stripChars z y)) H):=by
 intro pins s σ H x vs v us Q I rx rv h
 obtain ⟨z,y,rfl,rfl,hz,q⟩:=h
 obtain ⟨t,rfl⟩:=(show ∃ t,v=Value.str z t from rx)
 obtain ⟨u,rfl,t',rfl⟩:=wr rv
 exact SC.stripChars (hsz:=hz) fun t' k=>⟨.str _,H,I.tok _,⟨_,rfl⟩,q⟩
theorem B0:tD X "str.partition" (fun x vs H Q=>∃ z y:Str,x=.str z/\vs=[.str y]/\(y.length == 0)=false/\z.length<=sizeLine/\∀ p,H p=none->Q (.ref p) (zZ H p (.tup [.str (Txt.partition z y).1,.str (Txt.partition z y).2.1,.str (Txt.partition z y).2.2]))):=by
 intro pins s σ H x vs v us Q I rx rv h
 obtain ⟨z,y,rfl,rfl,hy,hz,q⟩:=h
 obtain ⟨t,rfl⟩:=(show ∃ t,v=Value.str z t from rx)
 obtain ⟨u,rfl,t',rfl⟩:=wr rv
 refine call_meets F.slot_str_partition (typeIs_str _ _ _) F.entry_str_partition (F.args_str_partition_2 _ _) (meets_str_partition z y t t' hy hz) ?_
 have lay:∀ (ta tb tc:Tok) (k:Nat),EP X pins σ Q (.ref s.heap.objs.size) { s with toks:=k,heap:=s.heap.push { cls:=.type "tuple",data:=.seq [.str (Txt.partition z y).1 ta,.str (Txt.partition z y).2.1 tb,.str (Txt.partition z y).2.2 tc].toArray } }:=fun ta tb tc k=>by
  have hv:zf [V.str (Txt.partition z y).1,.str (Txt.partition z y).2.1,.str (Txt.partition z y).2.2] [.str (Txt.partition z y).1 ta,.str (Txt.partition z y).2.1 tb,.str (Txt.partition z y).2.2 tc]:=.cons ⟨_,rfl⟩ (.cons ⟨_,rfl⟩ (.cons ⟨_,rfl⟩ .nil))
  exact ⟨.ref s.heap.objs.size,_,I.laid (o:=.tup _) (t':=k) (fun b u e=>Heap.get?_push_of_some _ e) (Nat.le_refl _) ⟨(by show 3<=sizeLine; decide),_,hv,⟨_,Heap.get?_push_size _ rfl,rfl,_,rfl⟩⟩,rfl,q _ I.fresh⟩
 unfold Txt.partition at lay
 revert lay
 cases occurrences z y 0 z.length 1 with
 | nil=>intro lay; exact lay _ _ _ _
 | cons i r=>intro lay; exact lay _ _ _ _
theorem IM:∀ l:List (Str×Tok),zf ((l.map (·.1)).map V.str) (strValues l)
 | []=>.nil
 | p::r=>.cons ⟨p.2,rfl⟩ (IM r)
theorem IE (x y:Str) (h:x.length+2<=sizeLine):(Txt.split x y).length<=sizeLine:=by
 have one:[x].length<=sizeLine:=by show 1<=sizeLine; decide
 unfold Txt.split
 split
 ·exact one
 ·split
  ·exact one
  ·have e1:=StrLaws.occ_length_le x y 0 x.length (x.length+1)
   rw [length_partsBetween]
   omega
theorem B1:tD X "str.split" (fun x vs H Q=>∃ z y:Str,x=.str z/\vs=[.str y]/\(y.length == 0)=false/\z.length+2<=sizeLine/\∀ p,H p=none->Q (.ref p) (zZ H p (.lst ((Txt.split z y).map V.str)))):=by
 intro pins s σ H xv vs v us Q I rx rv h
 obtain ⟨x,y,rfl,rfl,hy,hz,q⟩:=h
 obtain ⟨t,rfl⟩:=(show ∃ t,v=Value.str x t from rx)
 obtain ⟨u',rfl,u,rfl⟩:=wr rv
 have lay:∀ (l:List (Str×Tok)) (k:Nat),l.map (·.1)=Txt.split x y->EP X pins σ Q (.ref s.heap.objs.size) { s with toks:=k,heap:=s.heap.push { cls:=.type "list",data:=.seq (strValues l).toArray } }:=fun l k e=>by
  refine ⟨.ref s.heap.objs.size,_,I.laid (o:=.lst ((Txt.split x y).map V.str)) (t':=k) (fun b u e=>Heap.get?_push_of_some _ e) (Nat.le_refl _) ⟨?_,strValues l,0,?_,Heap.get?_push_size _ rfl⟩,rfl,q _ I.fresh⟩
  ·rw [List.length_map]
   exact IE x y hz
  ·rw [<- e]
   exact IM l
 have hn:(partsBetween x (occurrences x y 0 x.length (x.length+1)) y.length).length<=sizeLine:=by
  have e1:=StrLaws.occ_length_le x y 0 x.length (x.length+1)
  rw [length_partsBetween]; omega
 cases h1:(decide (x.length<y.length)||decide (strKind x<strKind y))
 ·cases hf:(occurrences x y 0 x.length (x.length+1)).isEmpty
  ·refine call_meets F.slot_str_split (typeIs_str _ _ _) F.entry_str_split (F.args_str_split_2 _ _) (meets_str_split_sep x y t u h1 hy hf (by omega) hn) ?_
   show wants (EP X pins σ Q) X.xe _ { s with toks:=_,heap:=s.heap.push { cls:=.type "list",data:=.seq (strsFrom s.toks (partsBetween x (occurrences x y 0 x.length (x.length+1)) y.length)).toArray } }
   rw [strsFrom_eq]
   exact lay (PySem.numbered s.toks _) _ ((numbered_texts _ _).trans ((if_neg (ne_true_of_eq_false h1)).trans (if_neg (ne_true_of_eq_false hf))).symm)
  ·exact call_meets F.slot_str_split (typeIs_str _ _ _) F.entry_str_split (F.args_str_split_2 _ _) (meets_str_split_not_found x y t u h1 hy hf)
    (lay [(x,t)] s.toks ((if_neg (ne_true_of_eq_false h1)).trans (if_pos hf)).symm)
 ·exact call_meets F.slot_str_split (typeIs_str _ _ _) F.entry_str_split (F.args_str_split_2 _ _) (meets_str_split_cannot_occur x y t u h1)
   (lay [(x,t)] s.toks (if_pos h1).symm)
noncomputable def gE (X:Cx) (e:Expr) (t:TE):Prop:=∀ (pins:List (Addr×Obj)) (s:Shared) (σ:St) (H:Hp) (Q:VK),zC X pins σ H s->t σ H Q->wpAny (model X.prog X.w) X.A (eval e X.env) (fun v s'=>EP X pins σ Q v s'/\0<s'.toks) X.xe s
variable {a o:Expr} {ta to:TE} {i:Int} {ck ck1 ck2:Nat} {cp pos apos cpos p1 p2:Pos} {y z:Str}
theorem Dr (ha:PE X a ta) (hs:kq (.Constant (.int i) ck cp)):gE X (.Subscript a (.Constant (.int i) ck cp) pos) (kN (Y0 X.K) ta (tC (.int i))):=by
 intro pins s σ H Q I h
 refine Subscript_ (zh (ha pins s σ H _ I h) fun v s1 ⟨x,H1,I1,r1,q1⟩=>wpAny_Constant_int ?_)
 obtain ⟨p,xs,j',zz,rfl,e,hq,he,q⟩:=(show Y0 X.K x (.int i) H1 Q from q1)
 cases e
 cases r1
 have I2:zC X pins σ H1 { s1 with toks:=s1.toks+1 }:=I1.tok _
 obtain ⟨its,r,pl,hz⟩:=I2.tuple hq
 obtain ⟨j,h1,h2,h3,h4,h5⟩:=Z5 he
 obtain ⟨w,ew,rw'⟩:=r.get h2
 have hl:=r.length
 have hn:=pI
 have fin:EP X pins σ Q w { s1 with toks:=s1.toks+1 }/\0<s1.toks+1:=⟨⟨zz,H1,I2,rw',q⟩,Nat.succ_pos _⟩
 exact subscriptTail_builtinR (x:=w) pl.typeIs slot_tuple_getitem.lookup
  (getItem_tuple (j:=j) (Q:=fun r s'=>r=w/\(EP X pins σ Q r s'/\0<s'.toks)) pl (by omega) (by omega) (by rw [List.size_toArray,<- hl]; exact h1) (by simpa using ew) ⟨rfl,fin⟩) (hs _ _)
noncomputable def EW (y z:Str) (to:TE):TE:=fun σ H Q=>to σ H fun x H1=>∃ w:Str,x=.str w/\w.length+(w.length+1)*z.length<=16777216/\Q (.str (Txt.replace w y z)) H1
theorem J2 (ho:gE X o to) (hyz:(y == z)=false) (hbase:attributeBase o "replace" X.env (eval o X.env)=eval o X.env:=by rfl) (hline:(apos.endLine == cpos.line)=true:=by rfl) :
  PE X (.Call (.Attribute o "replace" apos) [.Constant (.str y) ck1 p1,.Constant (.str z) ck2 p2] [] cpos) (EW y z to):=by
 intro pins s σ H Q I h
 refine wpAny_Call_method_late hbase rfl hline rfl (zh (ho pins s σ H _ I h) fun v s1 ⟨⟨x,H1,I1,r1,w,hx,hb,q1⟩,tk⟩=>?_)
 subst hx
 obtain ⟨h1,h2⟩:=US (T := "str") I1 r1 rfl
 refine ⟨"str", "str.replace",PySem.F.plainAttrs_str,PySem.F.slot_str_replace,PySem.F.type_str_replace,h1,h2,?_⟩
 obtain ⟨t,rfl⟩:=(show ∃ t,v=Value.str w t from r1)
 refine Calls.callWith_builtin rfl (Calls.evalArgs_plain ?_)
 refine Calls.spliced_cons (Calls.Constant_str (k:=ck1) (pos:=p1) ?_)
 refine Calls.spliced_cons (Calls.Constant_str (k:=ck2) (pos:=p2) ?_)
 refine Calls.spliced_nil ?_
 exact SC.replace (by show s1.toks≠0; omega) (by show s1.toks+1≠0; omega) (by show s1.toks≠s1.toks+1; omega) hyz hb fun t' k=>⟨.str _,H1,I1.tok _,⟨_,rfl⟩,q1⟩
end
end L2
namespace L3
open PySem PySem.Spec PyProof PyProof.Rows L2
noncomputable def pA:D->D->Option D
 | .str z,.str y=>some (.bl (Txt.startswith z y))
 | _,_=>none
noncomputable def jC:D->D->Option D
 | .str z,.str y=>some (.bl (Txt.endswith z y))
 | _,_=>none
noncomputable def WN:D->D->Option D
 | .str z,.str y=>if (Txt.stripChars z y).length<=16777216 then some (.str (Txt.stripChars z y)) else none
 | _,_=>none
noncomputable def WL:D->D->Option D
 | .str z,.str y=>if (y.length == 0)=false/\(Txt.partition z y).1.length<=16777216/\(Txt.partition z y).2.1.length<=16777216/\(Txt.partition z y).2.2.length<=16777216 then some (.tup [.str (Txt.partition z y).1,.str (Txt.partition z y).2.1,.str (Txt.partition z y).2.2]) else none
 | _,_=>none
noncomputable def w_:D->D->Option D
 | .str z,.str y=>if (y.length == 0)=false/\z.length+2<=16777216 then some (.lst ((Txt.split z y).map D.str)) else none
 | _,_=>none
noncomputable def WP (i:Int):D->Option D
 | .tup xs=>xX xs i
 | _=>none
noncomputable def jE (y z:Str):D->Option D
 | .str w=>if w.length+(w.length+1)*z.length<=16777216/\(Txt.replace w y z).length<=16777216 then some (.str (Txt.replace w y z)) else none
 | _=>none
section
variable {X:Cx} {o e a:Expr} {fo f fa:FE} {apos cpos p1 p2 cp pos:Pos} {nm:Str} {id:String} {rm:V->List V->Hp->VK->Prop} {F:D->D->Option D} {ck ck1 ck2:Nat} {i:Int} {y z:Str}
theorem YD (slot:Slot "str" nm id) (hty:typeOf (.builtin id)=pure (.type "method_descriptor")) (hm:tD X id rm)
  (hF:∀ {x y d:D},F x y=some d->∃ w,x=.str w) (hR:∀ {w:Str} {y d:D} {v:V} {G H:Hp} {Q:VK},yL G H->w.length<=sizeLine->F (.str w) y=some d->zU X.K G y v->(∀ u G' H',zP G H G' H'->zU X.K G' d u->Q u H')->rm (.str w) [v] H Q)
  (ho:SE X o fo) (he:SE X e f) (hbase:attributeBase o nm X.env (eval o X.env)=eval o X.env:=by rfl) (hline:(apos.endLine == cpos.line)=true:=by rfl) (hs:ya e=true:=by rfl) :
  SE X (.Call (.Attribute o nm apos) [e] [] cpos) (e2 F fo f):=by
 obtain ⟨to,po,ko⟩:=ho.h
 obtain ⟨te,pe,ke⟩:=(zB he zK hs).h
 refine ⟨⟨_,(kA PySem.F.plainAttrs_str slot hty hm ⟨po⟩ ⟨pe⟩ hbase hline (by rw [List.all_cons,hs]; rfl) (by show 1<30; decide)).h,fun {G0 H0 G H τ σ d Q} E hf q=>?_⟩⟩
 obtain ⟨x,hx,hf⟩:=zM hf
 obtain ⟨y,hy,hf⟩:=zM hf
 obtain ⟨w,rfl⟩:=hF hf
 refine ko E hx fun v G1 H1 x1 r1=>?_
 obtain ⟨rfl,l1⟩:=r1
 refine ⟨rfl,ke (E.go x1) (ds:=[y]) (by unfold z7; rw [hy]; rfl) fun ws G2 H2 x2 r2=>?_⟩
 obtain ⟨u,rfl,ru⟩:=uu r2
 exact hR x2.gh l1 hf ru fun u G' H' x3 r3=>q u G' H' ((x1.trans x2).trans x3) r3
theorem Jw (ho:SE X o fo) (he:SE X e f) (hbase:attributeBase o "startswith" X.env (eval o X.env)=eval o X.env:=by rfl) (hline:(apos.endLine == cpos.line)=true:=by rfl) (hs:ya e=true:=by rfl) :
  SE X (.Call (.Attribute o "startswith" apos) [e] [] cpos) (e2 pA fo f):=
 YD PySem.F.slot_str_startswith PySem.F.type_str_startswith B2 (fun {x y d} h=>by
  cases x with
  | str w=>exact ⟨w,rfl⟩
  | _=>cases h) (fun {w y d v G H Q} g l h r q=>by
  cases y with
  | str y=>
   cases h
   obtain ⟨rfl,_⟩:=r
   exact ⟨w,y,rfl,rfl,q _ G H (zP.refl g) rfl⟩
  | _=>cases h) ho he hbase hline hs
theorem Cc (ho:SE X o fo) (he:SE X e f) (hbase:attributeBase o "endswith" X.env (eval o X.env)=eval o X.env:=by rfl) (hline:(apos.endLine == cpos.line)=true:=by rfl) (hs:ya e=true:=by rfl) :
  SE X (.Call (.Attribute o "endswith" apos) [e] [] cpos) (e2 jC fo f):=
 YD PySem.F.slot_str_endswith PySem.F.type_str_endswith Mx (fun {x y d} h=>by
  cases x with
  | str w=>exact ⟨w,rfl⟩
  | _=>cases h) (fun {w y d v G H Q} g l h r q=>by
  cases y with
  | str y=>
   cases h
   obtain ⟨rfl,_⟩:=r
   exact ⟨w,y,rfl,rfl,q _ G H (zP.refl g) rfl⟩
  | _=>cases h) ho he hbase hline hs
theorem Ck (ho:SE X o fo) (he:SE X e f) (hbase:attributeBase o "strip" X.env (eval o X.env)=eval o X.env:=by rfl) (hline:(apos.endLine == cpos.line)=true:=by rfl) (hs:ya e=true:=by rfl) :
  SE X (.Call (.Attribute o "strip" apos) [e] [] cpos) (e2 WN fo f):=
 YD PySem.F.slot_str_strip PySem.F.type_str_strip B3 (fun {x y d} h=>by
  cases x with
  | str w=>exact ⟨w,rfl⟩
  | _=>cases h) (fun {w y d v G H Q} g l h r q=>by
  cases y with
  | str y=>
   change (if (Txt.stripChars w y).length<=16777216 then some (D.str (Txt.stripChars w y)) else none)=some d at h
   by_cases c:(Txt.stripChars w y).length<=16777216
   ·rw [if_pos c] at h
    cases h
    obtain ⟨rfl,_⟩:=r
    exact ⟨w,y,rfl,rfl,l,q _ G H (zP.refl g) ⟨rfl,by rw [sizeLine_eq]; exact c⟩⟩
   ·rw [if_neg c] at h
    cases h
  | _=>cases h) ho he hbase hline hs
theorem Ci (ho:SE X o fo) (he:SE X e f) (hbase:attributeBase o "partition" X.env (eval o X.env)=eval o X.env:=by rfl) (hline:(apos.endLine == cpos.line)=true:=by rfl) (hs:ya e=true:=by rfl) :
  SE X (.Call (.Attribute o "partition" apos) [e] [] cpos) (e2 WL fo f):=
 YD PySem.F.slot_str_partition PySem.F.type_str_partition B0 (fun {x y d} h=>by
  cases x with
  | str w=>exact ⟨w,rfl⟩
  | _=>cases h) (fun {w y d v G H Q} g l h r q=>by
  cases y with
  | str y=>
   change (if (y.length == 0)=false/\(Txt.partition w y).1.length<=16777216/\(Txt.partition w y).2.1.length<=16777216/\(Txt.partition w y).2.2.length<=16777216 then some (D.tup [.str (Txt.partition w y).1,.str (Txt.partition w y).2.1,.str (Txt.partition w y).2.2]) else none)=some d at h
   by_cases c:(y.length == 0)=false/\(Txt.partition w y).1.length<=16777216/\(Txt.partition w y).2.1.length<=16777216/\(Txt.partition w y).2.2.length<=16777216
   ·rw [if_pos c] at h
    cases h
    obtain ⟨rfl,_⟩:=r
    obtain ⟨c0,c1,c2,c3⟩:=c
    rw [<- sizeLine_eq] at c1 c2 c3
    exact ⟨w,y,rfl,rfl,c0,l,fun p hp=>q _ _ _ (zP.lay g hp) ⟨p,_,rfl,yk.of xK,⟨_,_,rfl,⟨rfl,c1⟩,_,_,rfl,⟨rfl,c2⟩,_,_,rfl,⟨rfl,c3⟩,rfl⟩,(by show 3<=sizeLine; decide)⟩⟩
   ·rw [if_neg c] at h
    cases h
  | _=>cases h) ho he hbase hline hs
theorem Jd {K:PySem.W.Frag} {G:Hp}:∀ {l:List Str},(∀ a∈l,a.length<=sizeLine)->Reps K G (l.map D.str) (l.map V.str)
 | [],_=>rfl
 | a::l,h=>⟨_,_,rfl,⟨rfl,h a (List.mem_cons_self ..)⟩,Jd fun b hb=>h b (List.mem_cons_of_mem _ hb)⟩
theorem jh (ho:SE X o fo) (he:SE X e f) (hbase:attributeBase o "split" X.env (eval o X.env)=eval o X.env:=by rfl) (hline:(apos.endLine == cpos.line)=true:=by rfl) (hs:ya e=true:=by rfl) :
  SF X (.Call (.Attribute o "split" apos) [e] [] cpos) (e2 w_ fo f):=by
 obtain ⟨to,po,ko⟩:=ho.h
 obtain ⟨te,pe,ke⟩:=(zB he zK hs).h
 refine ⟨⟨_,(kA PySem.F.plainAttrs_str PySem.F.slot_str_split PySem.F.type_str_split B1 ⟨po⟩ ⟨pe⟩ hbase hline (by rw [List.all_cons,hs]; rfl) (by show 1<30; decide)).h,fun {G0 H0 G H τ σ d Q} E hf q=>?_⟩⟩
 obtain ⟨x,hx,hf⟩:=zM hf
 obtain ⟨y,hy,hf⟩:=zM hf
 refine ko E hx fun v G1 H1 x1 r1=>?_
 cases x with
 | str w=>
  obtain ⟨rfl,l1⟩:=r1
  refine ⟨rfl,ke (E.go x1) (ds:=[y]) (by unfold z7; rw [hy]; rfl) fun ws G2 H2 x2 r2=>?_⟩
  obtain ⟨u,rfl,ru⟩:=uu r2
  cases y with
  | str y=>
   change (if (y.length == 0)=false/\w.length+2<=16777216 then some (D.lst ((Txt.split w y).map D.str)) else none)=some d at hf
   by_cases c:(y.length == 0)=false/\w.length+2<=16777216
   ·rw [if_pos c] at hf
    cases hf
    obtain ⟨rfl,_⟩:=ru
    have c2:w.length+2<=sizeLine:=by rw [sizeLine_eq]; exact c.2
    have x12:=x1.trans x2
    refine ⟨w,y,rfl,rfl,c.1,c2,fun p hp=>q p _ _ (x12.trans (zP.layO x12.gh hp)) (x12.h.free hp) (x12.gh.free hp) ⟨_,xK,Jd fun a ha=>Nat.le_trans (part_short ha) l1,?_⟩⟩
    rw [List.length_map]
    exact IE w y c2
   ·rw [if_neg c] at hf
    cases hf
  | _=>cases hf
 | _=>cases hf
theorem Cj {y z:Str} (ha:SE X a fa) (hs:kq (.Constant (.int i) ck cp)) (hyz:(y == z)=false) (hbase:attributeBase (.Subscript a (.Constant (.int i) ck cp) pos) "replace" X.env (eval (.Subscript a (.Constant (.int i) ck cp) pos) X.env)=eval (.Subscript a (.Constant (.int i) ck cp) pos) X.env:=by rfl) (hline:(apos.endLine == cpos.line)=true:=by rfl) :
  SE X (.Call (.Attribute (.Subscript a (.Constant (.int i) ck cp) pos) "replace" apos) [.Constant (.str y) ck1 p1,.Constant (.str z) ck2 p2] [] cpos) (e1 (jE y z) (e1 (WP i) fa)):=by
 obtain ⟨ta,pa,ka⟩:=ha.h
 refine ⟨⟨_,J2 (Dr pa hs) hyz hbase hline,fun {G0 H0 G H τ σ d Q} E hf q=>?_⟩⟩
 obtain ⟨w,hw,hf⟩:=zM hf
 obtain ⟨x,hx,hw⟩:=zM hw
 refine ka E hx fun v G1 H1 x1 r1=>?_
 cases x with
 | tup xs=>
  have hw:xX xs i=some w:=hw
  obtain ⟨p,vs,rfl,sq,rs,l⟩:=r1
  obtain ⟨u,hu,ru⟩:=Y4 rs hw
  refine ⟨p,vs,i,u,rfl,rfl,vZ x1.gh sq,hu,?_⟩
  cases w with
  | str w=>
   change (if w.length+(w.length+1)*z.length<=16777216/\(Txt.replace w y z).length<=16777216 then some (D.str (Txt.replace w y z)) else none)=some d at hf
   by_cases c:w.length+(w.length+1)*z.length<=16777216/\(Txt.replace w y z).length<=16777216
   ·rw [if_pos c] at hf
    cases hf
    obtain ⟨rfl,_⟩:=ru
    exact ⟨w,rfl,c.1,q _ _ _ x1 ⟨rfl,by rw [sizeLine_eq]; exact c.2⟩⟩
   ·rw [if_neg c] at hf
    cases hf
  | _=>cases hf
 | _=>cases hw
end
end L3
namespace L2
open PySem PySem.Spec PyProof PyProof.Rows
theorem OW {X:Cx}:xr X (.type "int") (fun xs H Q=>∃ (z:Str) (n:Int),xs=[.str z]/\z.length<=640/\PySem.intText? z=some n/\Q (.int n) H):=by
 intro pins s σ H xs us Q I r h
 obtain ⟨z,n,rfl,hl,hn,q⟩:=h
 obtain ⟨u,rfl,t,rfl⟩:=wr r
 exact PySem.W.KIN.call_text hn hl ⟨.int n,H,I.tok _,⟨_,rfl⟩,q⟩
end L2
namespace L3
open PySem PySem.Spec PyProof PyProof.Rows L2
noncomputable def qT:List D->Option D
 | [.str z]=>if z.length<=640 then (PySem.intText? z).bind fun n=>some (.int n) else none
 | _=>none
theorem Jv {X:Cx} {e:Expr} {fs:FA} {p pos:Pos} (hg:Gl X "int") (hm:X.mg "int" = none) (ha:SA X [e] fs) (hs:ya e=true:=by rfl):SE X (.Call (.Name "int" p) [e] [] pos) (eL qT fs):=by
 obtain ⟨t,pt,k⟩:=ha.h
 refine ⟨⟨_,(V8 (p:=p) (pos:=pos) OW hg hm ZD ⟨pt⟩ (by decide) (by decide) (by rw [List.all_cons,hs]; rfl)).h,fun {G0 H0 G H τ σ d Q} E hf q=>?_⟩⟩
 obtain ⟨ds,hd,hf⟩:=zM hf
 refine k E hd fun vs G1 H1 x1 r1=>?_
 match ds,hf with
 | [.str z],hf=>
  change (if z.length<=640 then (PySem.intText? z).bind fun n=>some (D.int n) else none)=some d at hf
  by_cases c:z.length<=640
  ·rw [if_pos c] at hf
   obtain ⟨n,hn,hf⟩:=zM hf
   cases hf
   obtain ⟨v,rfl,rv⟩:=uu r1
   obtain ⟨rfl,_⟩:=rv
   exact ⟨z,n,rfl,c,hn,q _ _ _ x1 rfl⟩
  ·rw [if_neg c] at hf
   cases hf
end L3
namespace L2
open PySem PySem.Spec PyProof PyProof.Rows
section
variable {X:Cx} {x n:Str} {p pos np hpos tpos:Pos} {e e1 e2:Expr} {es:List Expr} {ta:TA} {te:TE} {tx:TX} {ps:List Str} {j k i:Nat} {sp:Sp} {E:XK} {D:Addr} {suite:List Stmt} {ts:TS} {b₀:Stmt}
noncomputable def Eb (K:PySem.W.Frag) (i m:Nat) (D:Addr) (tx:TX) (ts:TS):TS:=fun F σ H=>tx σ H (fun _ H1=>F.nx σ H1) fun cv _ H1=>∃ C,cv=.ref C/\PySem.W.exmOne K (.ref C) (.ref D)=some true/\
 ∀ a,H1 a=none->ts { nx:=fun _ H2=>F.nx (List.replicate m none) H2,rt:=F.rt,bk:=fun _ H2=>F.bk (List.replicate m none) H2,ct:=fun _ H2=>F.ct (List.replicate m none) H2 } (σ.set i (some (.ref a))) (zZ H1 a (.ext (uL a C)))
theorem FW (hst:X.stack=X.env::X.outer) (hf:X.env.frame=some X.env.locals) (hex:X.ex=[]) (hcalm:X.A.handled=none) (hd:X.mg x=some (.ref D)) (hg:Gl X x) (hN:X.N.Nodup) (hi:X.N[i]?=some n) (hx:X.env.scope.names.lookup n=some .local)
  (hb:QX X e tx) (hs:∀ a,kx (X.marked a) (b₀::suite) ts) (hdb:(x == ("__debug__" : Str))=false:=by decide) (hnc:pK e=true:=by rfl) :
  PS X (.Try [.Expr e pos] [.ExceptHandler (some (.Name x np)) (some n) (b₀::suite) hpos] [] [] tpos) (Eb X.K i X.N.length D tx ts):=by
 intro pins s σ H F I h
 have hloc:X.env.kindOf n=some .local:=hx
 have hp:(X.env.scope.kind == .class||(X.env.scope.kind == .module&&X.env.locals != X.env.globals))=false:=by rw [I.ok.kind]; rfl
 refine wpAny_Try_except ?_
 refine wpAny_execs_cons ?_
 refine wpAny_Expr_any (wpAny_mono (hb.h pins s σ H _ _ I h) (fun u s1 ⟨v,H1,I1,r1,q1⟩=>?_) fun ev s1 z=>?_) I.quiet (Ww hnc)
 ·exact wpAny_execs_nil (wpAny_execs_nil ⟨_,H1,I1,q1⟩)
 obtain ⟨H0,s0,I0,a,C,a0,B,H',rfl,ho,hg',fl,xd,C',hC,hm,hq⟩:=z
 cases hC
 have fr:=I0.frData
 have hfr:X.A.frames=some (X.env::X.outer):=by rw [I0.ok.frames,hst]
 have fl':=fl
 rw [hst] at fl'
 refine wpAny_looks_onW hfr hf fl' fun h2 held up2=>?_
 refine wpAny_landsW (s:={ s1 with heap:=h2 }) held fun h3 fl3 up3=>?_
 have fl3':Heap.FlyingW B X.stack a (.ref C) a0 h3:=by rw [hst]; exact fl3
 have x3:wW X.prog X.w X.stack H0 s0.heap B H' h3:=xd.fly fl.1 fl3.1 (up2.trans up3) fr
 obtain ⟨na,J3,_⟩:=Ts (s':={ s1 with heap:=h3 }) I0 hex ho hg' fl3' x3
 refine wpAny_handleBy_cons (codeAny_handlers_test ?_) (by intro q; cases q)
 refine pH (X:=X.marked a) (J3.marked a) hg hd ?_ hdb
 obtain ⟨ob,hob,hobc⟩:=fl3.there
 have LT:PySem.W.Looks (model X.prog X.w) h3 (typeOf (.ref a)) (.ref C):=hobc ▸ (PySem.W.Looks.ld hob).andThen .now
 refine (PySem.W.exm_one (K:=X.K) (show X.K.In h3 from J3.kIn) LT hm).here ?_
 show codeAny _ _ (.handlers (.ref a) [.ExceptHandler none (some n) (b₀::suite) hpos] X.env) _ _
 refine codeAny_handlers_suite_as ?_
 refine lands_againW (s:={ s1 with heap:=h3 }) fl3 fun h4 fl4 up4=>?_
 have fl4':Heap.FlyingW B X.stack a (.ref C) a0 h4:=by rw [hst]; exact fl4
 have x4:wW X.prog X.w X.stack H0 s0.heap B H' h4:=x3.fly fl3.1 fl4.1 up4 fr
 obtain ⟨_,_,J4⟩:=Ts (s':={ s1 with heap:=h4 }) I0 hex ho hg' fl4' x4
 refine UJ (X:=X.marked a) (J4.marked a) hN hi (.inl hx) (v:=.ref a) rfl (fun s5 I5=>?_) (.inr hx)
 refine wpAny_mono ((hs a).h pins s5 _ _ _ I5 (hq a na)) (fun f s6 z6=>?_) fun _ _ z=>z.elim
 show wpAny _ X.A _ _ _ s6
 have go:∀ {σ6:St} {H6:Hp},zC (X.marked a) pins σ6 H6 s6->(∀ h7 m7,zC X pins (List.replicate X.N.length none) H6 { s6 with heap:=h7,toks:=s6.toks+1 }->SP X pins F f { s6 with heap:=h7,toks:=s6.toks+1 })->
   wpAny (model X.prog X.w) X.A (do bindName X.env n .none; unbindBehindTheSuite X.env n hpos) (fun _ s7=>SP X pins F f s7) X.xe s6:=fun {σ6 H6} I6 k=>by
  have I6':zC X pins σ6 H6 s6:=I6.unmarked fun _=>hcalm
  obtain ⟨m6,ns6,_⟩:=I6'.loc
  refine wpAny_nameGoes hloc ns6 hp fun h7 m7 ns7 hs7=>k h7 m7 (I6'.forget ns7 hs7)
 cases f with
 | next=>obtain ⟨σ6,H6,I6,q6⟩:=z6; exact go I6 fun h7 m7 I7=>⟨_,_,I7,q6⟩
 | brk=>obtain ⟨σ6,H6,I6,q6⟩:=z6; exact go I6 fun h7 m7 I7=>⟨_,_,I7,q6⟩
 | cont=>obtain ⟨σ6,H6,I6,q6⟩:=z6; exact go I6 fun h7 m7 I7=>⟨_,_,I7,q6⟩
 | ret u=>obtain ⟨v6,σ6,H6,I6,r6,q6⟩:=z6; exact go I6 fun h7 m7 I7=>⟨v6,_,_,I7,r6,q6⟩
end
end L2
namespace L3
open PySem PySem.Spec PyProof PyProof.Rows L2
noncomputable def ZL (i:Nat) (z:Str) (g:FS) (τ:yD) (x:Str):Option Fl:=if x=z then (g (τ.set i (some (false,.exc x)))).bind fun fl=>match fl with
   | .rt o d=>some (.rt o d)
   | _=>none
  else none
noncomputable def Y6 (i:Nat) (z:Str) (fx:jr) (g:FS):FS:=fun τ=>(fx τ).bind fun r=>match r with
 | .inl _=>some (.nx τ)
 | .inr x=>ZL i z g τ x
section
variable {X:Cx} {j i iy:Nat} {x n z y:Str} {C D':Addr} {fx:jr} {gs:FS} {e:Expr} {b₀:Stmt} {suite:List Stmt} {np pos yp hpos tpos:Pos}
theorem L9 {G0 H0 G H:Hp} {τ:yD} {σ:St} {fl:Fl} {En En':vc} {w:Str} (hz:X.mg z=some (.ref C)) (hns:PySem.W.nsIn X.K mainGlobals z=some (some (.ref C))) (hm:PySem.W.exmOne X.K (.ref C) (.ref D')=some true) (hi:X.N[i]?=some n) (K:yB X.K X.N.length G0 H0 G H τ σ) (hf:ZL i z gs τ w=some fl) (q:wR X.K X.N.length G0 H0 En fl) (hr:En'.rt=En.rt) :
  k_ X.mg G H (fun cv _ H1=>∃ C,cv=.ref C/\PySem.W.exmOne X.K (.ref C) (.ref D')=some true/\∀ a,H1 a=none->UR X.K X.N.length gs En' (σ.set i (some (.ref a))) (zZ H1 a (.ext (uL a C)))) w:=by
 unfold ZL at hf
 by_cases ez:w=z
 ·subst ez
  rw [if_pos rfl] at hf
  obtain ⟨fl',hg',hf⟩:=zM hf
  refine ⟨C,hz,fun G2 H2 x2=>⟨C,rfl,hm,fun a na=>?_⟩⟩
  have K2:=(K.go x2).go (zP.lay (o:=.ext (uL a C)) x2.gh na)
  have K3:=K2.set (i:=i) (d:=.exc w) (v:=.ref a) (List.getElem?_eq_some_iff.mp hi).1 ⟨a,C,rfl,hns,xK⟩
  refine ⟨G0,H0,_,_,fl',K3,hg',?_⟩
  cases fl' with
  | rt o d=>
   cases hf
   cases o with
   | false=>exact fun v G H xx r=>by rw [hr]; exact q v G H xx r
   | true=>exact fun p G H xx h0 g o=>by rw [hr]; exact q p G H xx h0 g o
  | nx _=>cases hf
  | bk _=>cases hf
  | ct _=>cases hf
 ·rw [if_neg ez] at hf
  cases hf
theorem E9 (hst:X.stack=X.env::X.outer) (hfr:X.env.frame=some X.env.locals) (hex:X.ex=[]) (hr:xB j X.A) (hD:X.mg x=some (.ref D')) (hgx:Gl X x) (hz:X.mg z=some (.ref C)) (hns:PySem.W.nsIn X.K mainGlobals z=some (some (.ref C))) (hm:PySem.W.exmOne X.K (.ref C) (.ref D')=some true)
  (hN:X.N.Nodup) (hi:X.N[i]?=some n) (hx:X.env.scope.names.lookup n=some .local) (hb:SX X e fx) (hs:∀ a,wc (X.marked a) (b₀::suite) gs) (hdb:(x == ("__debug__" : Str))=false:=by decide) (hnc:pK e=true:=by rfl) :
  SS X (.Try [.Expr e pos] [.ExceptHandler (some (.Name x np)) (some n) (b₀::suite) hpos] [] [] tpos) (Y6 i z fx gs):=by
 obtain ⟨t,pt,kt⟩:=hb.h
 refine ⟨⟨_,FW (ts:=UR X.K X.N.length gs) hst hfr hex hr.hd hD hgx hN hi hx pt (fun a=>(hs a).asT) hdb hnc,fun {G0 H0 G H τ σ fl En} K hf q=>?_⟩⟩
 obtain ⟨r,hr',hf⟩:=zM hf
 refine kt K hr' ?_
 cases r with
 | inl od=>
  obtain ⟨o,d⟩:=od
  cases hf
  cases o with
  | false=>exact fun v G' H' x2 _=>q _ _ _ (K.go x2)
  | true=>exact fun p G' H' x2 _ _ _=>q _ _ _ (K.go x2)
 | inr w=>exact L9 hz hns hm hi K hf q rfl
end
end L3
namespace L3
open PySem PySem.Spec PyProof.Rows L2
inductive M where
 | fz (d:D) | own (d:D) | obj (x:Str) (fs:List Str) (ms:List M) | tab (ks:List (Sum Int Str)) (ms:List M)
end L3
namespace L3
open PySem PySem.Spec PyProof.Rows L2
end L3
namespace L3
open PySem PySem.Spec PyProof.Rows L2
end L3
namespace L3
open PySem PySem.Spec PyProof.Rows L2
end L3
namespace L3
open PySem PySem.Spec PyProof.Rows L2
end L3
namespace L3
open PySem PySem.Spec PyProof.Rows L2
end L3
namespace L3
open PySem PySem.Spec PyProof.Rows L2
end L3
namespace L2
open PySem PySem.Spec PyProof PyProof.Rows
end L2
namespace L3
open PySem PySem.Spec PyProof.Rows L2
end L3
namespace L3
open PySem PySem.Spec PyProof PyProof.Rows L2
end L3
namespace L3
open PySem PySem.Spec PyProof PyProof.Rows L2
end L3
namespace L3
end L3
namespace L3
open PySem PySem.Spec PyProof.Rows L2
end L3
namespace L3
open PySem PySem.Spec PyProof.Rows L2
end L3
namespace L3
open PySem PySem.Spec PyProof.Rows L2
end L3
namespace L3
open PySem PySem.Spec PyProof.Rows L2
end L3
namespace L3
open PySem PySem.Spec PyProof PyProof.Rows L2
end L3
namespace L3
open PySem PySem.Spec PyProof PyProof.Rows L2
noncomputable def tO:D->D->Option D
 | .str x,.int j=>match decide (x.length<=16)&&(decide (0<=j)&&decide (j<=1000)) with
  | true=>some (.str (Txt.mul x j))
  | false=>none
 | _,_=>none
noncomputable def JQ:V->V->Hp->VK->Prop:=fun x y H Q=>∃ i j,x=.str i/\y=.int j/\i.length<=16/\0<=j/\j<=1000/\Q (.str (Txt.mul i j)) H
theorem Qv {X:Cx}:yU X (binaryOp .Mult) JQ:=by
 intro pins s σ H x y v u Q I rx ry h
 obtain ⟨i,j,rfl,rfl,h1,h2,h3,q⟩:=h
 obtain ⟨t,rfl⟩:=rx
 obtain ⟨t',rfl⟩:=ry
 exact SB.mul (mulOk_of 16 1000 h1 (by omega) (by omega) (by decide) (by decide)) fun t' k=>⟨.str (Txt.mul i j),H,I.tok _,⟨_,rfl⟩,q⟩
theorem Qq {K:PySem.W.Frag}:vG K JQ tO:=fun G H x y u v d Q s rx ry hf q=>by
 cases x<;>first | (cases hf; done) | skip
 cases y<;>first | (cases hf; done) | skip
 rename_i i j
 change (match decide (i.length<=16)&&(decide (0<=j)&&decide (j<=1000)) with | true=>some (D.str (Txt.mul i j)) | false=>none)=some d at hf
 cases c:(decide (i.length<=16)&&(decide (0<=j)&&decide (j<=1000))) with
 | false=>rw [c] at hf; cases hf
 | true=>
  rw [c] at hf
  cases hf
  rw [Bool.and_eq_true,Bool.and_eq_true] at c
  have h1:=of_decide_eq_true c.1
  have h2:=of_decide_eq_true c.2.1
  have h3:=of_decide_eq_true c.2.2
  have l:(Txt.mul i j).length<=16*1000:=len_mul_leN h1 (by omega)
  exact ⟨i,j,rx.1,ry,h1,h2,h3,q _ _ _ (zP.refl s) ⟨rfl,by rw [sizeLine_eq]; omega⟩⟩
end L3
namespace L3
open PySem PySem.Spec PyProof PyProof.Rows L2
end L3
namespace L2
open PySem PySem.Spec PyProof PyProof.Rows
end L2
namespace L3
open PySem PySem.Spec PyProof PyProof.Rows L2
end L3
namespace L3
open PySem PySem.Spec PyProof PyProof.Rows L2
end L3
namespace L3
open PySem PySem.Spec PyProof.Rows L2
noncomputable def za (K:PySem.W.Frag) (x:Str) (st:Stmt):Prop:=
 ∃ (f:Addr) (od an:Option Addr) (sl:Array (Option Value)) (oc kV dc pm cd ct:Value),PySem.W.nsIn K mainGlobals x=some (some (.ref f))/\K.lookup f=Tw x st oc od sl kV dc pm an cd ct/\PySem.W.codeIn K cd x=true/\PySem.W.keepIn K (.ref f)=true
section
variable {K:PySem.W.Frag} {mg:Str->Option Value} {h:Heap} {x p0 p1 p2 p3 p4 p5:Str} {st:Stmt} {ps:List Str}
theorem za.d (a:za K x st) (X:K.In h) (G:h.Ns mainGlobals mg) (b:∀ (kV doc pm:Value) (an:Option Addr) (cdv ct:Value) (us:List Value),us.length=ps.length->bindArgs (PySem.W.fnOf x x (qQ st) (wg st) (zi st) .none kV doc pm an cdv ct) ⟨us,[]⟩=pure (ps.zip us)):Def K mg x st ps:=by
 obtain ⟨f,od,an,sl,oc,kV,dc,pm,cd,ct,a,l,c,k⟩:=a
 have F:=Ty (st:=st) l c k
 exact ⟨_,_,F,PySem.W.mg_of X G a,F.binds b⟩
noncomputable abbrev BA (x:Str) (st:Stmt) (us:List Value) (ps:List Str):Prop:=∀ (kV doc pm:Value) (an:Option Addr) (cdv ct:Value),bindArgs (PySem.W.fnOf x x (qQ st) (wg st) (zi st) .none kV doc pm an cdv ct) ⟨us,[]⟩=pure (ps.zip us)
theorem za.d0 (a:za K x st) (X:K.In h) (G:h.Ns mainGlobals mg) (b:BA x st [] []:=by intros; exact fun _ _ _ _ _ _=>rfl):Def K mg x st []:=a.d X G fun _ _ _ _ _ _=>Ih (b _ _ _ _ _ _)
theorem za.d1 (a:za K x st) (X:K.In h) (G:h.Ns mainGlobals mg) (b:∀ u,BA x st [u] [p0]:=by intros; exact fun _ _ _ _ _ _=>rfl):Def K mg x st [p0]:=a.d X G fun _ _ _ _ _ _=>Ii fun u=>b u _ _ _ _ _ _
theorem za.d2 (a:za K x st) (X:K.In h) (G:h.Ns mainGlobals mg) (b:∀ u v,BA x st [u,v] [p0,p1]:=by intros; exact fun _ _ _ _ _ _=>rfl):Def K mg x st [p0,p1]:=a.d X G fun _ _ _ _ _ _=>Ij fun u v=>b u v _ _ _ _ _ _
theorem za.d3 (a:za K x st) (X:K.In h) (G:h.Ns mainGlobals mg) (b:∀ u v y,BA x st [u,v,y] [p0,p1,p2]:=by intros; exact fun _ _ _ _ _ _=>rfl):Def K mg x st [p0,p1,p2]:=a.d X G fun _ _ _ _ _ _=>Ik fun u v y=>b u v y _ _ _ _ _ _
theorem za.d4 (a:za K x st) (X:K.In h) (G:h.Ns mainGlobals mg) (b:∀ u v y z,BA x st [u,v,y,z] [p0,p1,p2,p3]:=by intros; exact fun _ _ _ _ _ _=>rfl):Def K mg x st [p0,p1,p2,p3]:=a.d X G fun _ _ _ _ _ _=>Ez fun u v y z=>b u v y z _ _ _ _ _ _
theorem _root_.L2.Def.oS (d:Def K mg x st ps) (P:Program) (w:World) (base:Heap) (k:Nat) (F:List D->Option (Bool×D)) {N:List Str} {b:FS} (S:yQ N ps (zi st)) (hF:∀ ds r,F ds=some r->ds.length=ps.length/\yi N.length b ds=some r)
  (hb:∀ {f:Addr} {cdv:Value} {A:Around} {outer:List Env} {s:Shared} {H:Hp} {E:XK},xB k (A.deeper (envOfC x (zi st) s.heap.objs.size f cdv))->wc (vk wu P w K mg base N x (zi st) f cdv A outer s H E).nox (wg st) b)
  (hN:ps.length<=N.length:=by decide):yZ P w K mg base x ps (k+1) (yY K F):=Def.okS d S hN hF fun _ _ _ _ _ _ _ hr=>hb hr
end
end L3
namespace L2
open PySem PySem.Spec PyProof PyProof.Rows
open Builtin Builtin.Str
section
variable {X:Cx} {a o e:Expr} {ta to:TE} {t:TA} {pos p2 apos cpos:Pos} {hi:Expr} {th:TE}
noncomputable def Fu:V->List V->Hp->VK->Prop:=fun x vs H Q=>∃ (z y:Str) (i:Nat) (yC:List Nat),x=.str z/\vs=[.str y]/\occurrences z y 0 z.length 1=i::yC/\Q (.int (i:Int)) H
theorem Dq (ho:PE X o to) (ha:PA X [e] t)
  (hbase:attributeBase o "index" X.env (eval o X.env)=eval o X.env:=by rfl)
  (hfew:((backTo cpos (starEach [e] X.env)).all (fun x=>!x.1)&&(backToKw cpos (keywordEach [] X.env)).all (fun x=>x.1.isSome)
   && decide ([e].length+([]:List Keyword).length+(if ([]:List Keyword).isEmpty then 0 else 1)<30))=true:=by rfl)
  (hline:(apos.endLine == cpos.line)=true:=by rfl) (hs:starEach [e] X.env=(false,eval e X.env)::starEach [] X.env:=by rfl) (hplain:(backTo cpos (starEach [] X.env)).any (·.1)=false:=by rfl) :
  gE X (.Call (.Attribute o "index" apos) [e] [] cpos) (UN X.K "str" Fu to t):=by
 intro pins s σ H Q I h
 refine wpAny_Call_method_late hbase hfew hline rfl (zh (ho pins s σ H _ I h) fun v s1 ⟨x,H1,I1,r1,ty,q1⟩=>?_)
 obtain ⟨h1,h2⟩:=US I1 r1 ty
 refine ⟨"str", "str.index",PySem.F.plainAttrs_str,PySem.F.slot_str_index,PySem.F.type_str_index,h1,h2,?_⟩
 have hA:=ha cpos pins s1 σ H1 _ I1 q1
 rw [hs] at hA ⊢
 refine Calls.callWith_builtin (by show (false||(backTo cpos (starEach [] X.env)).any (·.1))=false; rw [hplain]<;>rfl) (Calls.evalArgs_plain ?_)
 refine zh hA fun us s2 ⟨vs,H2,I2,r2,q2⟩=>?_
 obtain ⟨z,y,i,yC,rfl,rfl,hoc,q⟩:=q2
 obtain ⟨tz,rfl⟩:=(show ∃ t,v=Value.str z t from r1)
 obtain ⟨u,rfl,t',rfl⟩:=wr r2
 exact call_gives F.slot_str_index (typeIs_str _ _ _) F.entry_str_index (F.args_str_index_2 _ _) (gives_str_index z y tz t' i yC hoc) ⟨⟨.int i,H2,I2.tok _,⟨_,rfl⟩,q⟩,Nat.succ_pos _⟩
theorem Dp (he:PE X a ta) (hu:gE X hi th):gE X (.Subscript a (.Slice none (some hi) none p2) pos) (IV VC ta IS (IU th)):=by
 intro pins s σ H Q I h
 refine Subscript_ (zh (he pins s σ H _ I h) fun v s1 ⟨x,H1,I1,r1,q1⟩=>?_)
 refine wpAny_Slice ?_
 rw [evalPart_none]
 refine wpAny_pure ?_
 rw [evalPart_some]
 refine zh (hu pins s1 σ H1 _ I1 q1) fun vu s3 ⟨⟨u,H3,I3,pu,q3⟩,tk⟩=>?_
 obtain ⟨i,rfl,q3⟩:=q3
 obtain ⟨ti,rfl⟩:=(show ∃ t,vu=Value.int i t from pu)
 refine wpAny_pure ?_
 have I4:zC X pins σ H3 { s3 with heap:=s3.heap.push { cls:=.type "slice",data:=.fields #[.none,.int i ti,.none] } }:=I3.kept (t':=s3.toks) fun b ob q=>Heap.get?_push_of_some _ q
 obtain ⟨z,rfl,hz,q⟩:=q3
 obtain ⟨tz,rfl⟩:=(show ∃ t,v=Value.str z t from r1)
 have hs:Heap.IsSliceOf (s3.heap.push { cls:=.type "slice",data:=.fields #[.none,.int i ti,.none] }) s3.heap.objs.size .none (.int i ti) .none:=Heap.IsSliceOf.new ..
 have hg:wpAny (model X.prog X.w) X.A (getItem (.str z tz) (.ref s3.heap.objs.size)) (fun v s'=>EP X pins σ Q v s'/\0<s'.toks) X.xe { s3 with heap:=s3.heap.push { cls:=.type "slice",data:=.fields #[.none,.int i ti,.none] } }:=by
  refine wpAny_getItem_str_slice (l:=none) (u:=some (i,ti)) (st:=none) hs rfl ?_
  unfold sliceMade
  have hp:slicePicked z none (some (i,ti)) none=strSliceIndices none (some i) 1 z.length:=rfl
  rw [hp]
  split
  ·rename_i hc
   have e:(strSliceIndices none (some i) 1 z.length).length=z.length:=by
    rw [Bool.and_eq_true] at hc
    exact beq_iff_eq.mp hc.2
   rw [TZ z _ _ e] at q
   exact ⟨⟨.str z,H3,I4,⟨_,rfl⟩,q⟩,tk⟩
  ·rw [TW]
   exact ⟨Nat.le_trans (cut_len z _ _) hz,⟨.str _,H3,I4.tok _,⟨_,rfl⟩,q⟩,Nat.succ_pos _⟩
 exact tail_any (ops:=[.ref s3.heap.objs.size,.str z tz]) (typeIs_str _ _ _) F.slot_str_getitem.lookup hg (by with_unfolding_all rfl)
end
end L2
namespace L3
open PySem PySem.Spec PyProof PyProof.Rows L2
noncomputable def WG:D->D->Option D
 | .str z,.str y=>match Builtin.Str.occurrences z y 0 z.length 1 with
  | i::_=>some (.int (i:Int))
  | []=>none
 | _,_=>none
section
variable {X:Cx} {o e a:Expr} {fo f fa:FE} {apos cpos apos' cpos' p1 p2 p3 pos:Pos} {ck1 ck2:Nat} {y z:Str}
theorem Ca (ha:SE X a fa) (ho:SE X o fo) (he:SE X e f) (hyz:(y == z)=false) (hb1:attributeBase o "index" X.env (eval o X.env)=eval o X.env:=by rfl) (hl1:(apos'.endLine == cpos'.line)=true:=by rfl) (hs:ya e=true:=by rfl)
  (hbase:attributeBase (.Subscript a (.Slice none (some (.Call (.Attribute o "index" apos') [e] [] cpos')) none p3) pos) "replace" X.env (eval (.Subscript a (.Slice none (some (.Call (.Attribute o "index" apos') [e] [] cpos')) none p3) pos) X.env)=eval (.Subscript a (.Slice none (some (.Call (.Attribute o "index" apos') [e] [] cpos')) none p3) pos) X.env:=by rfl) (hline:(apos.endLine == cpos.line)=true:=by rfl) :
  SE X (.Call (.Attribute (.Subscript a (.Slice none (some (.Call (.Attribute o "index" apos') [e] [] cpos')) none p3) pos) "replace" apos) [.Constant (.str y) ck1 p1,.Constant (.str z) ck2 p2] [] cpos) (e1 (jE y z) (yE fa yI (zy (e2 WG fo f)))):=by
 obtain ⟨ta,pa,ka⟩:=ha.h
 obtain ⟨to,po,ko⟩:=ho.h
 obtain ⟨te,pe,ke⟩:=(zB he zK hs).h
 have hfew:((backTo cpos' (starEach [e] X.env)).all (fun x=>!x.1)&&(backToKw cpos' (keywordEach [] X.env)).all (fun x=>x.1.isSome)
   && decide ([e].length+([]:List Keyword).length+(if ([]:List Keyword).isEmpty then 0 else 1)<30))=true:=by
  rw [wp hs]
  rfl
 refine ⟨⟨_,J2 (Dp pa (Dq po pe hb1 hfew hl1 (wp hs) rfl)) hyz hbase hline,fun {G0 H0 G H τ σ d Q} E hf q=>?_⟩⟩
 obtain ⟨w,hw,hf⟩:=zM hf
 obtain ⟨x,hx,hw⟩:=zM hw
 obtain ⟨l,hl,hw⟩:=zM hw
 cases hl
 obtain ⟨u,hu,hw⟩:=zM hw
 obtain ⟨ui,hui,hu⟩:=zM hu
 obtain ⟨zo,hzo,hui⟩:=zM hui
 obtain ⟨ye,hye,hui⟩:=zM hui
 refine ka E hx fun v G1 H1 x1 r1=>?_
 refine ko (E.go x1) hzo fun v2 G2 H2 x2 r2=>?_
 cases zo with
 | str zo=>
  cases ye with
  | str ye=>
   have hui:(match Builtin.Str.occurrences zo ye 0 zo.length 1 with
    | i::_=>some (D.int (i:Int))
    | []=>none)=some ui:=hui
   split at hui
   ·rename_i i yC hoc
    cases hui
    cases hu
    obtain ⟨rfl,_⟩:=r2
    refine ⟨rfl,ke ((E.go x1).go x2) (ds:=[.str ye]) (by unfold z7; rw [hye]; rfl) fun ws G3 H3 x3 r3=>?_⟩
    obtain ⟨u3,rfl,ru⟩:=uu r3
    obtain ⟨rfl,_⟩:=ru
    refine ⟨zo,ye,i,yC,rfl,rfl,hoc,(i:Int),rfl,?_⟩
    cases x with
    | str xs=>
     obtain ⟨rfl,lx⟩:=r1
     cases hw
     refine ⟨xs,rfl,lx,?_⟩
     generalize L2.cutS xs none (some (i:Int))=w at *
     change (if w.length+(w.length+1)*z.length<=16777216/\(Txt.replace w y z).length<=16777216 then some (D.str (Txt.replace w y z)) else none)=some d at hf
     by_cases c:w.length+(w.length+1)*z.length<=16777216/\(Txt.replace w y z).length<=16777216
     ·rw [if_pos c] at hf
      cases hf
      exact ⟨w,rfl,c.1,q _ _ _ ((x1.trans x2).trans x3) ⟨rfl,by rw [sizeLine_eq]; exact c.2⟩⟩
     ·rw [if_neg c] at hf
      cases hf
    | lst xs=>cases hw; cases hf
    | tup xs=>
     change (if _ then none else some (D.tup _))=some w at hw
     split at hw
     ·cases hw
     ·cases hw
      cases hf
    | _=>cases hw
   ·cases hui
  | _=>cases hui
 | _=>cases hui
end
noncomputable def gU:D->D->Option D
 | .str x,.int j=>match decide (x.length<=16)&&(decide (0<=j)&&decide (j<=10000)) with
  | true=>some (.str (Txt.mul x j))
  | false=>none
 | _,_=>none
noncomputable def JR:V->V->Hp->VK->Prop:=fun x y H Q=>∃ i j,x=.str i/\y=.int j/\i.length<=16/\0<=j/\j<=10000/\Q (.str (Txt.mul i j)) H
theorem DE {X:Cx}:yU X (binaryOp .Mult) JR:=by
 intro pins s σ H x y v u Q I rx ry h
 obtain ⟨i,j,rfl,rfl,h1,h2,h3,q⟩:=h
 obtain ⟨t,rfl⟩:=rx
 obtain ⟨t',rfl⟩:=ry
 exact SB.mul (mulOk_of 16 10000 h1 (by omega) (by omega) (by decide) (by decide)) fun t' k=>⟨.str (Txt.mul i j),H,I.tok _,⟨_,rfl⟩,q⟩
theorem Bt {K:PySem.W.Frag}:vG K JR gU:=fun G H x y u v d Q s rx ry hf q=>by
 cases x<;>first | (cases hf; done) | skip
 cases y<;>first | (cases hf; done) | skip
 rename_i i j
 change (match decide (i.length<=16)&&(decide (0<=j)&&decide (j<=10000)) with | true=>some (D.str (Txt.mul i j)) | false=>none)=some d at hf
 cases c:(decide (i.length<=16)&&(decide (0<=j)&&decide (j<=10000))) with
 | false=>rw [c] at hf; cases hf
 | true=>
  rw [c] at hf
  cases hf
  rw [Bool.and_eq_true,Bool.and_eq_true] at c
  have h1:=of_decide_eq_true c.1
  have h2:=of_decide_eq_true c.2.1
  have h3:=of_decide_eq_true c.2.2
  have l:(Txt.mul i j).length<=16*10000:=len_mul_leN h1 (by omega)
  exact ⟨i,j,rx.1,ry,h1,h2,h3,q _ _ _ (zP.refl s) ⟨rfl,by rw [sizeLine_eq]; omega⟩⟩
end L3
namespace L3
open PySem PySem.Spec PyProof PyProof.Rows L2
end L3
local macro_rules
 | `(tactic| simp! [$ls,*])=>`(tactic| simp only [L3.shx,Nat.reduceAdd,Nat.reduceSub,Int.reduceLT,Int.reduceLE,Int.reducePow,Int.reduceToNat,Int.reduceAdd,Int.reduceSub,Int.reduceMul,Int.reduceNeg,$ls,*])
namespace L3
open PySem
noncomputable def LV:List D:=[(.str "carry"),(.str "nought"),(.str "sign")]
noncomputable def ZT:D:=.tup LV
noncomputable def LU:List D:=[(.str "jump"),(.str "when"),(.str "unless")]
noncomputable def ZR:D:=.tup LU
noncomputable def xM:List (Sum Int Str):=List.map .inr ["label", "set", "high", "copy", "add", "addc", "sub", "subc", "and", "or", "xor", "test", "left", "right", "load", "store", "loadw", "storew", "jump", "when", "unless", "stop"]
noncomputable def tS:List D:=[(.tup [(.str "name")]),(.tup [(.str "d"),(.str "n")]),(.tup [(.str "d"),(.str "n")]),(.tup [(.str "d"),(.str "s")]),(.tup [(.str "d"),(.str "s")]),(.tup [(.str "d"),(.str "s")]),(.tup [(.str "d"),(.str "s")]),(.tup [(.str "d"),(.str "s")]),(.tup [(.str "d"),(.str "s")]),(.tup [(.str "d"),(.str "s")]),(.tup [(.str "d"),(.str "s")]),(.tup [(.str "d"),(.str "s")]),(.tup [(.str "d"),(.str "n")]),(.tup [(.str "d"),(.str "n")]),(.tup [(.str "d"),(.str "s"),(.str "n")]),(.tup [(.str "d"),(.str "s"),(.str "n")]),(.tup [(.str "d"),(.str "s"),(.str "n")]),(.tup [(.str "d"),(.str "s"),(.str "n")]),(.tup [(.str "name")]),(.tup [(.str "mark"),(.str "name")]),(.tup [(.str "mark"),(.str "name")]),(.tup [])]
noncomputable def ZO:List (Sum Int Str):=List.map .inr ["set", "high", "left", "right", "load", "store", "loadw", "storew"]
noncomputable def ZU:List D:=[(.int 16),(.int 16),(.int 5),(.int 5),(.int 8),(.int 8),(.int 8),(.int 8)]
noncomputable def gZ:List (Sum Int Str):=List.map .inr ["kind", "d", "s", "mark", "distance"]
noncomputable def gf:List D:=[(.tup [(.int 27),(.int 5)]),(.tup [(.int 24),(.int 3)]),(.tup [(.int 21),(.int 3)]),(.tup [(.int 24),(.int 2)]),(.tup [(.int 0),(.int 5)])]
end L3
namespace L3
open PySem
noncomputable def Uv:FS:=
 (zI (zX (tE (e2 (xU fun i j=>decide (i<j)) (z8 1) (eL yF (z7 (z8 0) zD))))
   (zd (e2 zH (z8 0) (z8 1)))
   zk)
  (zd (eC (.int 0))))
theorem M7 (ns:List Int) (k:Nat):(ns.map D.int)[k]?=(ns[k]?).map D.int:=List.getElem?_map
noncomputable def gN (ns:List Int) (k:Int):Int:=ns.getD k.toNat 0
noncomputable def qB:List D->Option (Bool×D)
 | [.lst xs,.int k]=>if 0<=k then ((xs[k.toNat]?).getD (.int 0) |> fun d=>some (false,d)) else none
 | _=>none
theorem Xu (ns:List Int) {k:Int} (h:0<=k):qB [.lst (ns.map D.int),.int k]=some (false,.int (gN ns k)):=by
 show (if 0<=k then _ else _)=_
 rw [if_pos h,M7]
 unfold gN
 rw [List.getD_eq_getElem?_getD]
 cases ns[k.toNat]?<;>rfl
theorem CA:∀ ds r,qB ds=some r->ds.length=2/\yi 2 Uv ds=some r:=fun ds r h=>by
 unfold qB at h
 split at h
 ·rename_i xs k
  refine ⟨rfl,?_⟩
  by_cases h0:0<=k
  ·rw [if_pos h0] at h
   cases h
   unfold Uv
   by_cases c:k<(xs.length:Int)
   ·have e:zH (.lst xs) (.int k)=some ((xs[k.toNat]?).getD (.int 0)):=by
     show xX xs k=_
     unfold xX
     rw [if_pos h0,List.getElem?_eq_getElem (by omega)]
     rfl
    simp! [decide_eq_true c,e]
   ·have e:xs[k.toNat]?=none:=List.getElem?_eq_none (by omega)
    simp! [decide_eq_false c,e,Option.getD]
  ·rw [if_neg h0] at h
   cases h
 ·cases h
end L3
namespace L3
open PySem
noncomputable def lt (k:Int):Str:=⟨#[97+k.toNat]⟩
theorem OE {k:Int} (h0:0<=k) (h1:k<26):xX ("abcdefghijklmnopqrstuvwxyz" : Str).cps.toList k=some (97+k.toNat):=by
 have h:∀ j:Fin 26,xX ("abcdefghijklmnopqrstuvwxyz" : Str).cps.toList (j.val:Int)=some (97+j.val):=by decide +kernel
 have:=h ⟨k.toNat,by omega⟩
 rw [show ((⟨k.toNat,by omega⟩:Fin 26).val:Int)=k by show (k.toNat:Int)=k; omega] at this
 exact this
theorem OF {k:Int} (h0:0<=k) (h1:k<26):zH (.str "abcdefghijklmnopqrstuvwxyz") (.int k)=some (.str (lt k)):=by
 show (xX _ k).bind _=_
 rw [OE h0 h1]
 rfl
theorem add_str {a b:Str} (h:a.length+b.length<=100000):zQ (.str a) (.str b)=some (.str (a++b)):=by
 show (if a.length+b.length<=yS then _ else _)=_
 rw [if_pos (by show _<=16777216; omega)]
theorem xW (a b:Str):(a++b).length=a.length+b.length:=Array.size_append
theorem Zq (k:Int):(lt k).length=1:=rfl
end L3
namespace L3
open PySem
theorem jQ {g:FG} {c:FT} {e:FE} {σ:yD} (p:D->Bool) (v:D->D):∀ {ds:List D},(∀ d∈ds,∃ σ1,g d σ=some σ1/\c σ1=some (p d)/\(p d=true->e σ1=some (v d)))->xQ g c e σ ds=some ((ds.filter p).map v)
 | [],_=>rfl
 | d::ds,h=>by
  obtain ⟨σ1,e1,e2,e3⟩:=h d (List.mem_cons_self ..)
  have ih:=jQ p v (ds:=ds) fun x hx=>h x (List.mem_cons_of_mem _ hx)
  show (g d σ).bind _=_
  rw [e1]
  show (c σ1).bind _=_
  rw [e2]
  cases hp:p d with
  | false=>
   rw [List.filter_cons_of_neg (by rw [hp]; decide)]
   exact ih
  | true=>
   rw [List.filter_cons_of_pos hp]
   show (e σ1).bind _=_
   rw [e3 hp]
   show (xQ g c e σ ds).bind _=_
   rw [ih]
   rfl
theorem qb {g:FG} {e:FE} {σ:yD} (v:D->D) {ds:List D} (h:∀ d∈ds,∃ σ1,g d σ=some σ1/\e σ1=some (v d)):xQ g yn e σ ds=some (ds.map v):=by
 have:=jQ (g:=g) (c:=yn) (e:=e) (σ:=σ) (fun _=>true) v (ds:=ds) fun d hd=>by
  obtain ⟨σ1,a,b⟩:=h d hd
  exact ⟨σ1,a,rfl,fun _=>b⟩
 rw [this,List.filter_eq_self.mpr (fun _ _=>rfl)]
inductive vx (R:D->D->Prop):List D->List D->Prop
 | nil:vx R [] []
 | cons {x y:D} {xs ys:List D}:R x y->vx R xs ys->vx R (x::xs) (y::ys)
theorem Wj {g:FG} {e:FE} {σ:yD} (R:D->D->Prop):∀ {ds:List D},(∀ d∈ds,∃ σ1 x,g d σ=some σ1/\e σ1=some x/\R d x)->∃ xs,xQ g yn e σ ds=some xs/\vx R ds xs
 | [],_=>⟨[],rfl,.nil⟩
 | d::ds,h=>by
  obtain ⟨σ1,x,e1,e2,r⟩:=h d (List.mem_cons_self ..)
  obtain ⟨xs,ih,rs⟩:=Wj R (ds:=ds) fun x hx=>h x (List.mem_cons_of_mem _ hx)
  refine ⟨x::xs,?_,.cons r rs⟩
  show (g d σ).bind _=_
  rw [e1]
  show (e σ1).bind _=_
  rw [e2]
  show (xQ g yn e σ ds).bind _=_
  rw [ih]
  rfl
theorem jj {n i:Nat} {d:D} (h:(xG n)[i]?=some d):i<n/\d=.int (i:Int):=by
 have hi:i<n:=by
  have:=(List.getElem?_eq_some_iff.mp h).1
  simpa using this
 refine ⟨hi,?_⟩
 simp [hi] at h
 exact h.symm
theorem kO {n:Nat} {d:D} (h:d∈xG n):∃ i:Nat,i<n/\d=.int (i:Int):=by
 obtain ⟨i,hi,e⟩:=List.getElem_of_mem h
 exact ⟨i,(jj (List.getElem?_eq_some_iff.mpr ⟨hi,e⟩))⟩
theorem jk (n:Nat):(xG n).length=n:=by simp
theorem XU {α:Type} (xs:List α) (a:α):xX (xs++[a]) (-1)=some a:=by
 unfold xX
 rw [if_neg (by decide),if_pos (by rw [List.length_append,List.length_singleton]; omega)]
 rw [show ((-1:Int)+((xs++[a]).length:Nat)).toNat=xs.length by rw [List.length_append,List.length_singleton]; omega]
 simp
theorem uP {α:Type} {xs:List α} {i:Int} {a:α} (h0:0<=i) (h:xs[i.toNat]?=some a):xX xs i=some a:=by
 unfold xX
 rw [if_pos h0,h]
noncomputable def ur:Nat->D->Bool
 | 0,_=>false
 | n+1,.tup xs=>xs.all (ur n)
 | n+1,.lst xs=>xs.all (ur n)
 | _+1,d=>xF d
theorem Xv {f:D->D->Bool}:∀ {xs:List D},(∀ x∈xs,f x x=true)->vj f xs xs=true
 | [],_=>rfl
 | x::xs,h=>by
  show (f x x&&vj f xs xs)=true
  rw [h x (List.mem_cons_self ..),Xv fun y hy=>h y (List.mem_cons_of_mem _ hy)]
  rfl
theorem Xx:∀ {xs:List D},(∀ x∈xs,yG x x=true)->dEqs xs xs=true
 | [],_=>by unfold dEqs; rfl
 | x::xs,h=>by
  unfold dEqs
  rw [h x (List.mem_cons_self ..),Xx fun y hy=>h y (List.mem_cons_of_mem _ hy)]
  rfl
theorem g_:∀ (n:Nat) (d:D),ur n d=true->wK n d d=true/\yG d d=true
 | 0,_,h=>by cases h
 | n+1,d,h=>by
  cases d with
  | tup xs=>
   have h':∀ x∈xs,ur n x=true:=List.all_eq_true.mp h
   exact ⟨Xv fun x hx=>(g_ n x (h' x hx)).1,by unfold yG; exact Xx fun x hx=>(g_ n x (h' x hx)).2⟩
  | lst xs=>
   have h':∀ x∈xs,ur n x=true:=List.all_eq_true.mp h
   exact ⟨Xv fun x hx=>(g_ n x (h' x hx)).1,by unfold yG; exact Xx fun x hx=>(g_ n x (h' x hx)).2⟩
  | dic ks vs=>cases h
  | exc _=>cases h
  | obj _ _ _=>cases h
  | non=>exact ⟨rfl,by unfold yG; rfl⟩
  | bl b=>exact ⟨rfl,by unfold yG; exact beq_self_eq_true b⟩
  | int i=>exact ⟨rfl,by unfold yG; exact beq_self_eq_true i⟩
  | str z=>exact ⟨rfl,by unfold yG; exact beq_self_eq_true z⟩
theorem L6 {d:D} (h:ur 6 d=true):uQ d d=some true:=by
 obtain ⟨h1,h2⟩:=g_ 6 d h
 have e:uQ d d=match wK 6 d d with
  | true=>some (yG d d)
  | false=>none:=by cases d<;>rfl
 rw [e,h1,h2]
theorem BC {d:D} (h:ur 6 d=true):xP d d=some (.bl false):=by
 unfold xP
 rw [L6 h]
 rfl
theorem uA {i j:Int} (h:i=j):zL (.int i) (.int j)=some (.bl true):=by
 subst h
 show some (D.bl (i == i))=_
 rw [beq_self_eq_true]
theorem wD {i j:Int} (h:i≠j):zL (.int i) (.int j)=some (.bl false):=by
 show some (D.bl (i == j))=_
 rw [beq_eq_false_iff_ne.mpr h]
theorem add_int {i j:Int}:zQ (.int i) (.int j)=some (.int (i+j)):=rfl
theorem UK:∀ ts:List Str,qp (ts.map D.str)=some ts
 | []=>rfl
 | t::ts=>by
  show (qp (ts.map D.str)).bind _=_
  rw [UK ts]
  rfl
theorem MJ {sep:Str} {ts:List Str} (h:(ts.map (·.length)).sum+ts.length*sep.length<=1000000):u8 (.str sep) (.lst (ts.map D.str))=some (.str (Builtin.Str.glued sep ts)):=by
 show (qp (ts.map D.str)).bind _=_
 rw [UK]
 show (if _<=yS then _ else _)=_
 rw [if_pos (by show _<=16777216; omega)]
theorem cut_len (z:Str) (lo hi:Option Int):(L2.cutS z lo hi).length<=z.length:=by
 show ((z.cps.toList.drop _).take _).toArray.size<=z.cps.size
 simp only [List.size_toArray,List.length_take,List.length_drop,Array.length_toList]
 omega
theorem Q6 {k:Sum Int Str} {ks:List (Sum Int Str)} (k':Sum Int Str):xI (vq ks k) k'=(xI ks k'||decide (k=k')):=by
 unfold vq
 by_cases h:xI ks k=true
 ·rw [if_pos h]
  by_cases e:k=k'
  ·subst e; rw [h]; rfl
  ·rw [decide_eq_false e,Bool.or_false]
 ·rw [if_neg h]
  unfold xI
  rw [List.any_append]
  simp
theorem j6 {L M:List D} (h:L.length+M.length<=1000):zQ (.lst L) (.lst M)=some (.lst (L++M)):=by
 show (if L.length+M.length<=yS then _ else _)=_
 rw [if_pos (by show _<=16777216; omega)]
theorem B8 (xs:List D):xP (.lst xs) (.lst [])=some (.bl (!xs.isEmpty)):=by
 cases xs with
 | nil=>exact BC (d:=.lst []) rfl
 | cons x r=>
  have e:yG (.lst (x::r)) (.lst [])=false:=by unfold yG; unfold dEqs; rfl
  show (some (yG (.lst (x::r)) (.lst []))).bind _=_
  rw [e]
  rfl
theorem gx {x y:D} {b:Bool} (h:zL x y=some (.bl b)):xP x y=some (.bl (!b)):=by
 unfold zL at h
 unfold xP
 cases e:uQ x y with
 | none=>rw [e] at h; cases h
 | some k=>
  rw [e] at h
  cases h
  rfl
end L3
namespace L3
open PySem
theorem GI {i:Int} {m:Nat} (h:wC i<=m):i.natAbs<2 ^ m:=by
 by_cases c:i=0
 ·subst c
  exact Nat.pow_pos (by decide)
 ·have e:wC i=i.natAbs.log2+1:=by
   show (if (i == 0)=true then 0 else i.natAbs.log2+1)=_
   rw [if_neg (by simpa using c)]
  exact (Nat.log2_lt (by omega)).mp (by omega)
theorem OQ {i:Int} {m:Nat} (h:i.natAbs<2 ^ m):wC i<=m:=by
 by_cases c:i=0
 ·subst c
  exact Nat.zero_le _
 ·have e:wC i=i.natAbs.log2+1:=by
   show (if (i == 0)=true then 0 else i.natAbs.log2+1)=_
   rw [if_neg (by simpa using c)]
  rw [e]
  exact (Nat.log2_lt (by omega)).mpr h
end L3
namespace L3
open PySem
theorem F3 {a b c d i:Int} (h0:0<=i) (h1:i<4):∃ n,(n=a\/n=b\/n=c\/n=d)/\zH (.lst [.int a,.int b,.int c,.int d]) (.int i)=some (.int n):=by
 rcases (show i=0\/i=1\/i=2\/i=3 by omega) with rfl | rfl | rfl | rfl
 ·exact ⟨a,by simp,rfl⟩
 ·exact ⟨b,by simp,rfl⟩
 ·exact ⟨c,by simp,rfl⟩
 ·exact ⟨d,by simp,rfl⟩
theorem GJ {a b c i:Int} (h0:0<=i) (h1:i<3):∃ n,(n=a\/n=b\/n=c)/\zH (.lst [.int a,.int b,.int c]) (.int i)=some (.int n):=by
 rcases (show i=0\/i=1\/i=2 by omega) with rfl | rfl | rfl
 ·exact ⟨a,by simp,rfl⟩
 ·exact ⟨b,by simp,rfl⟩
 ·exact ⟨c,by simp,rfl⟩
inductive tF:D->Prop
 | stop:tF (.tup [.str "stop"])
 | imm {w:Str} {d n:Int} (hw:w = "set" \/ w = "high") (d0:0<=d) (d1:d<8) (n0:0<=n) (n1:n<65536):tF (.tup [.str w,.int d,.int n])
 | two {w:Str} {d s:Int} (hw:w = "copy" \/ w = "add" \/ w = "addc" \/ w = "sub" \/ w = "subc" \/ w = "and" \/ w = "or" \/ w = "xor" \/ w = "test") (d0:0<=d) (d1:d<8) (s0:0<=s) (s1:s<8):tF (.tup [.str w,.int d,.int s])
 | mov {w:Str} {d n:Int} (hw:w = "left" \/ w = "right") (d0:0<=d) (d1:d<8) (n0:0<=n) (n1:n<32):tF (.tup [.str w,.int d,.int n])
 | mem {w:Str} {d s n:Int} (hw:w = "load" \/ w = "store" \/ w = "loadw" \/ w = "storew") (d0:0<=d) (d1:d<8) (s0:0<=s) (s1:s<8) (n0:0<=n) (n1:n<256):tF (.tup [.str w,.int d,.int s,.int n])
inductive XL (m:Int):D->Prop
 | jump {p:Int} (p0:0<=p) (p1:p<=m):XL m (.tup [.str "jump",.int p])
 | cond {w k:Str} {p:Int} (hw:w = "when" \/ w = "unless") (hk:k = "carry" \/ k = "nought" \/ k = "sign") (p0:0<=p) (p1:p<=m):XL m (.tup [.str w,.str k,.int p])
noncomputable def O8 (m:Int) (d:D):Prop:=tF d\/XL m d
theorem qX {a:D} {r:List D}:zH (.tup (a::r)) (.int 0)=some a:=rfl
noncomputable def jH:D->Bool
 | .tup (.str w::_)=>w == "jump" || w == "when" || w == "unless"
 | _=>false
noncomputable def MK:D:=.tup [.str "jump",.str "when",.str "unless"]
theorem F6 {d:D} (h:tF d):∃ w,zH d (.int 0)=some (.str w)/\yy (.str w) MK=some (.bl false)/\zL (.str w) (.str "label")=some (.bl false)/\jH d=false/\ur 5 d=true:=by
 cases h with
 | stop=>exact ⟨_,rfl,rfl,rfl,rfl,rfl⟩
 | imm hw=>rcases hw with rfl | rfl<;>exact ⟨_,rfl,rfl,rfl,rfl,rfl⟩
 | two hw=>rcases hw with rfl | rfl | rfl | rfl | rfl | rfl | rfl | rfl | rfl<;>exact ⟨_,rfl,rfl,rfl,rfl,rfl⟩
 | mov hw=>rcases hw with rfl | rfl<;>exact ⟨_,rfl,rfl,rfl,rfl,rfl⟩
 | mem hw=>rcases hw with rfl | rfl | rfl | rfl<;>exact ⟨_,rfl,rfl,rfl,rfl,rfl⟩
noncomputable def uB:D->Bool
 | .tup (.str w::_)=>w == "label"
 | _=>false
noncomputable def xZ (t:Str):D:=.tup [.str "label",.str t]
theorem Ji {m:Int} {d:D} (h:O8 m d):∃ w,zH d (.int 0)=some (.str w)/\zL (.str w) (.str "label")=some (.bl false)/\uB d=false/\ur 5 d=true:=by
 rcases h with h | h
 ·cases h with
  | stop=>exact ⟨_,rfl,rfl,rfl,rfl⟩
  | imm hw=>rcases hw with rfl | rfl<;>exact ⟨_,rfl,rfl,rfl,rfl⟩
  | two hw=>rcases hw with rfl | rfl | rfl | rfl | rfl | rfl | rfl | rfl | rfl<;>exact ⟨_,rfl,rfl,rfl,rfl⟩
  | mov hw=>rcases hw with rfl | rfl<;>exact ⟨_,rfl,rfl,rfl,rfl⟩
  | mem hw=>rcases hw with rfl | rfl | rfl | rfl<;>exact ⟨_,rfl,rfl,rfl,rfl⟩
 ·cases h with
  | jump=>exact ⟨_,rfl,rfl,rfl,rfl⟩
  | cond hw hk=>rcases hw with rfl | rfl<;>rcases hk with rfl | rfl | rfl<;>exact ⟨_,rfl,rfl,rfl,rfl⟩
theorem uh {L:List D} {r:D} (h:L.length<=1000):xg (.lst L) r=some (.lst (L++[r])):=by
 show (if L.length<yS then _ else _)=_
 rw [if_pos (by show _<16777216; omega)]
inductive wv:D->Prop
 | label (t:Str):wv (xZ t)
 | plain {d:D}:tF d->wv d
 | jump (t:Str):wv (.tup [.str "jump",.str t])
 | cond {w k:Str} (t:Str) (hw:w = "when" \/ w = "unless") (hk:k = "carry" \/ k = "nought" \/ k = "sign"):wv (.tup [.str w,.str k,.str t])
theorem QM {d:D} (h:wv d):∃ w,zH d (.int 0)=some (.str w)/\zL (.str w) (.str "label")=some (.bl (uB d))/\ur 5 d=true:=by
 cases h with
 | label=>exact ⟨_,rfl,rfl,rfl⟩
 | plain h=>
  obtain ⟨w,a,b,c,e⟩:=Ji (m:=0) (.inl h)
  exact ⟨w,a,by rw [c]; exact b,e⟩
 | jump=>exact ⟨_,rfl,rfl,rfl⟩
 | cond t hw hk=>rcases hw with rfl | rfl<;>rcases hk with rfl | rfl | rfl<;>exact ⟨_,rfl,rfl,rfl⟩
theorem WA {R:D->D->Prop}:∀ {xs ys:List D},vx R xs ys->xs.length=ys.length
 | _,_,.nil=>rfl
 | _,_,.cons _ r=>by rw [List.length_cons,List.length_cons,WA r]
theorem Tm {R:D->D->Prop}:∀ {xs ys:List D},vx R xs ys->∀ y∈ys,∃ x∈xs,R x y
 | _,_,.nil,_,h=>by cases h
 | x::xs,y::ys,.cons r rs,z,hz=>by
  rcases List.mem_cons.mp hz with rfl | hz
  ·exact ⟨x,List.mem_cons_self ..,r⟩
  ·obtain ⟨w,hw,h⟩:=Tm rs z hz
   exact ⟨w,List.mem_cons_of_mem _ hw,h⟩
theorem Tl {R:D->D->Prop}:∀ {xs ys:List D},vx R xs ys->∀ {i:Nat} {x:D},xs[i]?=some x->∃ y,ys[i]?=some y/\R x y
 | _,_,.nil,_,_,h=>by cases h
 | _,_,.cons r _,0,_,h=>by cases h; exact ⟨_,rfl,r⟩
 | _,_,.cons _ rs,i+1,_,h=>Tl rs (by simpa using h)
theorem Tn {R:D->D->Prop}:∀ {xs ys:List D},xs.length=ys.length->(∀ (i:Nat) x y,xs[i]?=some x->ys[i]?=some y->R x y)->vx R xs ys
 | [],[],_,_=>.nil
 | [],_::_,h,_=>by cases h
 | _::_,[],h,_=>by cases h
 | x::xs,y::ys,h,r=>.cons (r 0 x y rfl rfl) (Tn (by simpa using h) fun i a b ha hb=>r (i+1) a b (by simpa using ha) (by simpa using hb))
inductive tG (N:List Str):D->Prop
 | plain {d:D}:tF d->tG N d
 | jump {t:Str} (ht:t∈N):tG N (.tup [.str "jump",.str t])
 | cond {w k t:Str} (hw:w = "when" \/ w = "unless") (hk:k = "carry" \/ k = "nought" \/ k = "sign") (ht:t∈N):tG N (.tup [.str w,.str k,.str t])
noncomputable def t9 (N:List Str) (d:D):Prop:=tG N d\/∃ t∈N,d=xZ t
theorem VJ {N:List Str} {d:D} (h:tG N d):wv d/\uB d=false:=by
 cases h with
 | plain h=>
  obtain ⟨_,_,_,l,_⟩:=Ji (m:=0) (.inl h)
  exact ⟨.plain h,l⟩
 | jump ht=>exact ⟨.jump _,rfl⟩
 | cond hw hk ht=>exact ⟨.cond _ hw hk,by rcases hw with rfl | rfl<;>rfl⟩
theorem MC {N:List Str} {d:D} (h:t9 N d):wv d:=by
 rcases h with h | ⟨t,_,rfl⟩
 ·exact (VJ h).1
 ·exact .label t
end L3
namespace L3
open PySem
noncomputable def Xd:FS:=
 (zI (zT 3 (zu (fun _=>some (List.map D.int [99991,99989,99971,99961,99929,99923,99907,99901,99881,99877,99871]))))
  (zI (zT 4 (e2 vK (e2 ZM (e2 zQ (z8 0) (e2 qU (eC (.int 7)) (z8 1))) (eC (.int 48271))) (e2 zH (z8 3) (e2 vK (z8 1) (eC (.int 11))))))
  (zd (e2 vK (e2 vK (e2 zQ (e2 zQ (e2 ZM (e2 WK (z8 4) (z8 4)) (eC (.int 7))) (z8 4)) (z8 1)) (eC (.int 1000003))) (z8 2)))))
noncomputable def yM:List D->Option (Bool×D):=FR 3 5 Xd
theorem Lh (x0 x1 x2:D):yM [x0,x1,x2]=yi 5 Xd [x0,x1,x2]:=rfl
noncomputable def Xa:FS:=
 (zd (e2 zH (eC (.str "abcdefghijklmnopqrstuvwxyz")) (e2 vK (z8 0) (eC (.int 26)))))
noncomputable def qD:List D->Option (Bool×D):=FR 1 1 Xa
theorem Le (x0:D):qD [x0]=yi 1 Xa [x0]:=rfl
noncomputable def Ub:FE:=(zR qD (z7 (zR yM (z7 (z8 0) (z7 (e2 zQ (eC (.int 4)) (z8 11)) (z7 (eC (.int 26)) zD)))) zD))
noncomputable def JY:FA:=(xm (eC (.int 0)) (z8 1))
noncomputable def kR:FE:=(e2 zQ (zR qD (z7 (z8 11) zD)) (eC (.str "qzqz")))
noncomputable def jm:FE:=(e2 zQ (zR qD (z7 (z8 11) zD)) (eC (.str "zqzq")))
noncomputable def Uc:FE:=(z8 11)
noncomputable def Ya:FT:=(tE (e2 u9 (z8 11) (wz 6)))
noncomputable def Wh:FS:=(zI (zT 8 (zR qD (z7 (e2 zQ (zR yM (z7 (z8 0) (z7 (eC (.int 5)) (z7 (eC (.int 26)) zD)))) (e2 qU (eC (.int 5)) (z8 7))) zD)))
    (zI (zT 9 (e2 zQ (e2 zQ (yE (z8 4) yI (zy (z8 3))) (z8 8)) (yE (z8 4) (zy (e2 zQ (z8 3) (eC (.int 1)))) (zy (z8 2)))))
    (zI (zX (xT (tE (e2 zL (zR yM (z7 (z8 0) (z7 (eC (.int 6)) (z7 (eC (.int 4)) zD)))) (eC (.int 0)))) (tE (e2 (xU fun i j=>decide (i<j)) (z8 7) (eC (.int 8)))))
     (zT 9 (e2 zH (zu (z7 (yE (z8 4) yI (zy (e2 zQ (z8 7) (eC (.int 1))))) (z7 (e2 zH (z8 5) (z8 7)) zD))) (zR yM (z7 (z8 0) (z7 (eC (.int 7)) (z7 (eC (.int 2)) zD))))))
     zk)
    (zI (zX (tE (e2 yy (z8 9) (wz 6)))
     (zI (zT 10 (e2 zQ (yx 1 (xm (eC (.int 0)) (eC (.int 26))) (zb 11) yn kR) (yx 1 (xm (eC (.int 0)) (eC (.int 26))) (zb 11) yn jm)))
      (zT 9 (e2 zH (yx 1 (w8 (z8 10)) (zb 11) Ya Uc) (eC (.int 0)))))
     zk)
    (wT 6 xg (z8 9))))))
noncomputable def Xe:FS:=
 (zI (zT 2 (e2 zQ (eC (.int 1)) (zR yM (z7 (z8 0) (z7 (eC (.int 2)) (z7 (eC (.int 8)) zD))))))
  (zI (zT 3 (zR yM (z7 (z8 0) (z7 (eC (.int 3)) (z7 (z8 2) zD)))))
  (zI (zT 4 (e2 u8 (eC (.str "")) (yx 1 (xm (eC (.int 0)) (eC (.int 8))) (zb 11) yn Ub)))
  (zI (zT 5 (zu (z7 (eC (.str "add")) (z7 (eC (.str "stop")) (z7 (eC (.str "carry")) (z7 (eC (.str "label")) (z7 (eC (.str "jump")) (z7 (eC (.str "set")) (z7 (eC (.str "sign")) (z7 (eC (.str "when")) zD))))))))))
  (zI (vP 6 (zu zD))
  (zI (vO JY (zb 7)
   Wh)
  (pN 6)))))))
noncomputable def g7:List D->Option (Bool×D):=FR 2 11 Xe
theorem Li (x0 x1:D):g7 [x0,x1]=yi 11 Xe [x0,x1]:=rfl
noncomputable def OM:FS:=
 (zI (zX (tE (e2 yy (z8 0) (zu (z7 (eC (.str "set")) (z7 (eC (.str "high")) zD)))))
   (qh (zu (z7 (eC (.int 8)) (z7 (eC (.int 65536)) zD))))
   zk)
  (zI (zX (tE (e2 yy (z8 0) (zu (z7 (eC (.str "left")) (z7 (eC (.str "right")) zD)))))
   (qh (zu (z7 (eC (.int 8)) (z7 (eC (.int 32)) zD))))
   zk)
  (zI (zX (tE (e2 yy (z8 0) (zu (z7 (eC (.str "load")) (z7 (eC (.str "store")) (z7 (eC (.str "loadw")) (z7 (eC (.str "storew")) zD)))))))
   (qh (zu (fun _=>some (List.map D.int [8,8,256]))))
   zk)
  (zI (zX (tE (e2 yy (z8 0) (zu (z7 (eC (.str "copy")) (z7 (eC (.str "add")) (z7 (eC (.str "addc")) (z7 (eC (.str "sub")) (z7 (eC (.str "subc")) (z7 (eC (.str "and")) (z7 (eC (.str "or")) (z7 (eC (.str "xor")) (z7 (eC (.str "test")) zD))))))))))))
   (qh (zu (z7 (eC (.int 8)) (z7 (eC (.int 8)) zD))))
   zk)
  (zd (e2 zH (Tk ["label", "jump", "when", "unless", "stop"] (z7 (zu (z7 (eC (.str "name")) zD)) (z7 (zu (z7 (eC (.str "name")) zD)) (z7 (zu (z7 (eC (.str "mark")) (z7 (eC (.str "name")) zD))) (z7 (zu (z7 (eC (.str "mark")) (z7 (eC (.str "name")) zD))) (z7 (zu zD) zD)))))) (z8 0)))))))
noncomputable def wB:List D->Option (Bool×D):=FR 1 1 OM
noncomputable def OP:FS:=
 (zI (zT 0 (zu (z7 (eC (.str "set")) (z7 (eC (.str "high")) (z7 (eC (.str "copy")) (z7 (eC (.str "add")) (z7 (eC (.str "addc")) (z7 (eC (.str "sub")) (z7 (eC (.str "subc")) (z7 (eC (.str "and")) (z7 (eC (.str "or")) (z7 (eC (.str "xor")) (z7 (eC (.str "test")) (z7 (eC (.str "left")) (z7 (eC (.str "right")) (z7 (eC (.str "load")) zD))))))))))))))))
  (zd (e2 zQ (z8 0) (zu (z7 (eC (.str "store")) (z7 (eC (.str "loadw")) (z7 (eC (.str "storew")) (z7 (eC (.str "jump")) (z7 (eC (.str "when")) (z7 (eC (.str "unless")) (z7 (eC (.str "stop")) zD)))))))))))
noncomputable def pp:List D->Option (Bool×D):=FR 0 1 OP
noncomputable def gK:FS:=
 (zI (zX (tE (e2 zL (z8 0) (eC (.str "name"))))
   (zd (e2 zH (z8 3) (zR yM (z7 (z8 1) (z7 (z8 2) (z7 (eL yF (z7 (z8 3) zD)) zD))))))
   zk)
  (zI (zX (tE (e2 zL (z8 0) (eC (.str "mark"))))
   (zd (e2 zH (zu (z7 (eC (.str "carry")) (z7 (eC (.str "nought")) (z7 (eC (.str "sign")) zD)))) (zR yM (z7 (z8 1) (z7 (z8 2) (z7 (eC (.int 3)) zD))))))
   zk)
  (zd (e2 zH (zu (z7 (eC (.int 0)) (z7 (e2 WO (z8 0) (eC (.int 1))) (z7 (zR yM (z7 (z8 1) (z7 (z8 2) (z7 (z8 0) zD)))) (z7 (zR yM (z7 (z8 1) (z7 (e2 zQ (z8 2) (eC (.int 1))) (z7 (z8 0) zD)))) zD))))) (zR yM (z7 (z8 1) (z7 (e2 zQ (z8 2) (eC (.int 2))) (z7 (eC (.int 4)) zD))))))))
noncomputable def g8:List D->Option (Bool×D):=FR 4 4 gK
theorem WX (x0 x1 x2 x3:D):g8 [x0,x1,x2,x3]=yi 4 gK [x0,x1,x2,x3]:=rfl
noncomputable def Y2:FA:=(xm (eC (.int 0)) (eL yF (z7 (z8 3) zD)))
noncomputable def kS:FE:=(zR g8 (z7 (e2 zH (z8 3) (z8 4)) (z7 (z8 0) (z7 (e2 zQ (e2 qU (eC (.int 2)) (z8 4)) (eC (.int 1))) (z7 (z8 1) zD)))))
noncomputable def Xi:FS:=
 (zI (zT 2 (e2 zH (zR pp zD) (zR yM (z7 (z8 0) (z7 (eC (.int 0)) (z7 (eC (.int 21)) zD))))))
  (zI (zX (tE (e2 zL (zR yM (z7 (z8 0) (z7 (eC (.int 8)) (z7 (eC (.int 4)) zD)))) (eC (.int 1))))
   (zT 2 (e2 zH (zu (z7 (eC (.str "jump")) (z7 (eC (.str "when")) (z7 (eC (.str "unless")) zD)))) (zR yM (z7 (z8 0) (z7 (eC (.int 9)) (z7 (eC (.int 3)) zD))))))
   zk)
  (zI (zX (xT (tE (e2 yy (z8 2) (zu (z7 (eC (.str "jump")) (z7 (eC (.str "when")) (z7 (eC (.str "unless")) zD)))))) (tE (e2 zL (eL yF (z7 (z8 1) zD)) (eC (.int 0)))))
   (zT 2 (eC (.str "stop")))
   zk)
  (zI (zT 3 (zR wB (z7 (z8 2) zD)))
  (zd (e2 zQ (qR (z7 (z8 2) zD)) (eL uS (z7 (yx 1 Y2 (zb 4) yn kS) zD))))))))
noncomputable def gA:List D->Option (Bool×D):=FR 2 4 Xi
theorem Lm (x0 x1:D):gA [x0,x1]=yi 4 Xi [x0,x1]:=rfl
noncomputable def yV (c k m:Int):Int:=match yM [.int c,.int k,.int m] with
 | some (_,.int v)=>v
 | _=>0
theorem OR {i:Int} (h0:0<=i) (h1:i<100000):wC i<=20:=by
 have e:(2:Nat) ^ 20=1048576:=by decide
 exact OQ (by omega)
theorem xH (c k m:Int) (hm:0<m):yM [.int c,.int k,.int m]=some (false,.int (yV c k m))/\0<=yV c k m/\yV c k m<m:=by
 have:∃ v:Int,0<=v/\v<m/\yM [.int c,.int k,.int m]=some (false,.int v):=by
  obtain ⟨p,p0,p1,ep⟩:∃ p:Int,0<p/\p<100000/\zH (.lst (List.map D.int [99991,99989,99971,99961,99929,99923,99907,99901,99881,99877,99871])) (.int (k % 11))=some (.int p):=by
   rcases (show k % 11=0\/k % 11=1\/k % 11=2\/k % 11=3\/k % 11=4\/k % 11=5\/k % 11=6\/k % 11=7\/k % 11=8\/k % 11=9\/k % 11=10 by omega) with h | h | h | h | h | h | h | h | h | h | h<;>rw [h]<;>exact ⟨_,by decide,by decide,rfl⟩
  have q0:=Int.emod_nonneg ((c+7*k)*48271) (show p≠0 by omega)
  have q1:=Int.emod_lt_of_pos ((c+7*k)*48271) p0
  have l1:uW 7=true/\uW 48271=true:=⟨by decide,by decide⟩
  have b:=OR (i:=(c+7*k)*48271 % p) q0 (by omega)
  have e1:decide (0<p)=true:=decide_eq_true p0
  have e2:decide (0<m)=true:=decide_eq_true hm
  have e3:decide (wC ((c+7*k)*48271 % p)+wC ((c+7*k)*48271 % p)<=134217728)=true:=decide_eq_true (by omega)
  refine ⟨((c+7*k)*48271 % p*((c+7*k)*48271 % p)*7+(c+7*k)*48271 % p+k) % 1000003 % m,?_,?_,?_⟩
  rotate_left 2
  ·rw [Lh]
   unfold Xd
   generalize List.map D.int [99991,99989,99971,99961,99929,99923,99907,99901,99881,99877,99871]=PS at ep
   simp! [l1,add_int,ep,e1,WK,e3,e2]
  ·exact Int.emod_nonneg _ (by omega)
  ·exact Int.emod_lt_of_pos _ hm
 obtain ⟨v,v0,v1,e⟩:=this
 have:yV c k m=v:=by unfold yV; rw [e]
 rw [this]
 exact ⟨e,v0,v1⟩
theorem Zn (k:Int):qD [.int k]=some (false,.str (lt (k % 26))):=by
 have a:=OF (k:=k % 26) (by omega) (by omega)
 rw [Le]
 unfold Xa
 simp! [a]
noncomputable def vV (z:Str):Bool:=z.cps.toList.all fun c=>decide (97<=c)&&decide (c<=122)
noncomputable def uC (z:Str):Bool:=decide (1<=z.length)&&(decide (z.length<=8)&&vV z)
theorem Om (a b:Str):(a++b).cps.toList=a.cps.toList++b.cps.toList:=Array.toList_append
theorem Qc {a b:Str} (ha:vV a=true) (hb:vV b=true):vV (a++b)=true:=by
 unfold vV
 rw [Om,List.all_append,Bool.and_eq_true]
 exact ⟨ha,hb⟩
theorem Qd {k:Int} (h0:0<=k) (h1:k<26):vV (lt k)=true:=by
 show ((decide (97<=97+k.toNat)&&decide (97+k.toNat<=122))&&true)=true
 rw [decide_eq_true (by omega),decide_eq_true (by omega)]
 rfl
theorem Wo {z:Str} (h:vV z=true) (lo hi:Option Int):vV (L2.cutS z lo hi)=true:=
 List.all_eq_true.mpr fun c hc=>List.all_eq_true.mp h c (List.mem_of_mem_drop (List.mem_of_mem_take (by
  have e:(L2.cutS z lo hi).cps.toList=(z.cps.toList.drop (HT.sIx z.length 0 lo)).take (HT.sIx z.length z.length hi - HT.sIx z.length 0 lo):=rfl
  rw [e] at hc
  exact hc)))
theorem Op (z:Str) {a b:Nat} (hab:a<=b) (hb:b<=z.length):(L2.cutS z (some (a:Int)) (some (b:Int))).length=b - a:=by
 show (((z.cps.toList.drop (HT.sIx z.length 0 (some (a:Int)))).take (HT.sIx z.length z.length (some (b:Int)) - HT.sIx z.length 0 (some (a:Int)))).toArray).size=_
 rw [HT.sIx_nat,HT.sIx_nat,List.size_toArray,List.length_take,List.length_drop]
 have:z.cps.toList.length=z.length:=Array.length_toList
 omega
theorem TY (z:Str) {b:Nat} (hb:b<=z.length):(L2.cutS z none (some (b:Int))).length=b:=by
 show (((z.cps.toList.drop 0).take (HT.sIx z.length z.length (some (b:Int)) - 0)).toArray).size=_
 rw [HT.sIx_nat,List.size_toArray,List.length_take,List.length_drop]
 have:z.cps.toList.length=z.length:=Array.length_toList
 omega
theorem Q0:∀ (ts:List Str),(Builtin.Str.glued "" ts).cps.toList=(ts.map fun t=>t.cps.toList).flatten
 | []=>rfl
 | t::ts=>by
  have h:∀ (us:List Str) (a:Array Nat),(us.foldl (fun acc p=>acc++("" : Str).cps++p.cps) a).toList=a.toList++(us.map fun t=>t.cps.toList).flatten:=fun us=>by
   induction us with
   | nil=>intro a; simp
   | cons u us ih=>
    intro a
    rw [List.foldl_cons,ih]
    have e:("" : Str).cps=#[]:=rfl
    rw [e]
    simp
  show (ts.foldl (fun acc p=>acc++("" : Str).cps++p.cps) t.cps).toList=_
  rw [h]
  rfl
theorem pD (x:Str) (ts:List Str):vT (.str x) (.lst (ts.map D.str))=some (decide (x∈ts)):=by
 have ha:(ts.map D.str).all xF=true:=List.all_eq_true.mpr fun y hy=>by
  obtain ⟨p,_,rfl⟩:=List.mem_map.mp hy
  rfl
 show (match xF (.str x)&&(ts.map D.str).all xF with | true=>some ((ts.map D.str).any fun y=>yG y (.str x)) | false=>none)=_
 rw [ha]
 show some _=_
 congr 1
 have e:∀ y:Str,yG (.str y) (.str x)=(y == x):=fun y=>by unfold yG; rfl
 by_cases h:x∈ts
 ·rw [decide_eq_true h]
  exact List.any_eq_true.mpr ⟨.str x,List.mem_map.mpr ⟨x,h,rfl⟩,by rw [e]; exact beq_self_eq_true _⟩
 ·rw [decide_eq_false h]
  cases z:(ts.map D.str).any fun y=>yG y (.str x) with
  | false=>rfl
  | true=>
   obtain ⟨d,hd,q⟩:=List.any_eq_true.mp z
   obtain ⟨y,hy,rfl⟩:=List.mem_map.mp hd
   rw [e,beq_iff_eq] at q
   exact absurd (q ▸ hy) h
theorem IN:∀ {l ps:List Str},l.Nodup->(∀ x∈l,x∈ps)->l.length<=ps.length
 | [],_,_,_=>Nat.zero_le _
 | x::l,ps,nd,h=>by
  obtain ⟨n1,n2⟩:=List.nodup_cons.mp nd
  have hx:=h x (List.mem_cons_self ..)
  have ih:=IN (l:=l) (ps:=ps.erase x) n2 fun y hy=>(List.mem_erase_of_ne (fun (e:y=x)=>n1 (e ▸ hy))).mpr (h y (List.mem_cons_of_mem _ hy))
  rw [List.length_erase_of_mem hx] at ih
  have:0<ps.length:=List.length_pos_of_mem hx
  rw [List.length_cons]
  omega
noncomputable def vM:List Str:=((List.range 26).map fun j:Nat=>lt ((j:Int) % 26) ++ "qzqz")++(List.range 26).map fun j:Nat=>lt ((j:Int) % 26) ++ "zqzq"
theorem DM:vM.Nodup:=by decide +kernel
theorem DN:∀ t∈vM,uC t=true:=by decide +kernel
theorem DL:vM.length=52:=by decide +kernel
structure qI (N:List Str):Prop where
 nd:N.Nodup
 ok:∀ t∈N,uC t=true
theorem gw {t:Str} (h:uC t=true):1<=t.length/\t.length<=8/\vV t=true:=by
 unfold uC at h
 rw [Bool.and_eq_true,Bool.and_eq_true] at h
 exact ⟨of_decide_eq_true h.1,of_decide_eq_true h.2.1,h.2.2⟩
theorem Qh {t:Str} (h0:1<=t.length) (h1:t.length<=8) (h:vV t=true):uC t=true:=by
 unfold uC
 rw [decide_eq_true h0,decide_eq_true h1,h]
 rfl
noncomputable abbrev wI:D:=.lst [.str "add",.str "stop",.str "carry",.str "label",.str "jump",.str "set",.str "sign",.str "when"]
theorem DO {i:Nat} (h:i<8):∃ t:Str,uC t=true/\zH wI (.int (i:Int))=some (.str t):=by
 rcases (show i=0\/i=1\/i=2\/i=3\/i=4\/i=5\/i=6\/i=7 by omega) with rfl | rfl | rfl | rfl | rfl | rfl | rfl | rfl
 ·exact ⟨"add",by decide +kernel,rfl⟩
 ·exact ⟨"stop",by decide +kernel,rfl⟩
 ·exact ⟨"carry",by decide +kernel,rfl⟩
 ·exact ⟨"label",by decide +kernel,rfl⟩
 ·exact ⟨"jump",by decide +kernel,rfl⟩
 ·exact ⟨"set",by decide +kernel,rfl⟩
 ·exact ⟨"sign",by decide +kernel,rfl⟩
 ·exact ⟨"when",by decide +kernel,rfl⟩
theorem B6 {c m:D} {sz sp W own:D} {N:List Str} (hN:N.length<52) {kk lx x10:Option Sl} {x0:Str} (h0:uC x0=true):∃ (x:Str) (y10:Option Sl),uC x=true/\x ∉ N/\
  zX (tE (e2 yy (z8 9) (wz 6)))
     (zI (zT 10 (e2 zQ (yx 1 (xm (eC (.int 0)) (eC (.int 26))) (zb 11) yn kR) (yx 1 (xm (eC (.int 0)) (eC (.int 26))) (zb 11) yn jm)))
      (zT 9 (e2 zH (yx 1 (w8 (z8 10)) (zb 11) Ya Uc) (eC (.int 0)))))
     zk [some (false,c),some (false,m),some (false,sz),some (false,sp),some (false,W),some (false,own),some (true,.lst (N.map D.str)),kk,lx,some (false,.str x0),x10]=some (.nx [some (false,c),some (false,m),some (false,sz),some (false,sp),some (false,W),some (false,own),some (true,.lst (N.map D.str)),kk,lx,some (false,.str x),y10]):=by
 have hin:∀ x:Str,yy (.str x) (.lst (N.map D.str))=some (.bl (decide (x∈N))):=fun x=>by
  show (vT _ _).bind _=_
  rw [pD]
  rfl
 have hni:∀ x:Str,u9 (.str x) (.lst (N.map D.str))=some (.bl (!decide (x∈N))):=fun x=>by
  show (vT _ _).bind _=_
  rw [pD]
  rfl
 by_cases hm:x0∈N
 ·have h1:=hin x0
  rw [decide_eq_true hm] at h1
  have r26:∀ σ,xm (eC (.int 0)) (eC (.int 26)) σ=some (xG 26):=fun σ=>uZ (n:=26) rfl (by decide)
  obtain ⟨σ0,hσ⟩:∃ σ0:yD,σ0=[some (false,c),some (false,m),some (false,sz),some (false,sp),some (false,W),some (false,own),some (true,.lst (N.map D.str)),kk,lx,some (false,.str x0),x10]:=⟨_,rfl⟩
  have l2:=qb (g:=zb 11) (e:=kR) (σ:=σ0++List.replicate 1 none) (fun d=>match d with | .int j=>D.str (lt (j % 26) ++ "qzqz") | d=>d) (ds:=xG 26) fun d hd=>by
   obtain ⟨i,hi,rfl⟩:=kO hd
   have hl:=Zn (i:Int)
   have ha:=add_str (a:=lt ((i:Int) % 26)) (b := "qzqz") (by rw [Zq]; decide)
   rw [hσ]
   refine ⟨_,rfl,?_⟩
   unfold kR
   simp! [hl,ha]
  have l3:=qb (g:=zb 11) (e:=jm) (σ:=σ0++List.replicate 1 none) (fun d=>match d with | .int j=>D.str (lt (j % 26) ++ "zqzq") | d=>d) (ds:=xG 26) fun d hd=>by
   obtain ⟨i,hi,rfl⟩:=kO hd
   have hl:=Zn (i:Int)
   have ha:=add_str (a:=lt ((i:Int) % 26)) (b := "zqzq") (by rw [Zq]; decide)
   rw [hσ]
   refine ⟨_,rfl,?_⟩
   unfold jm
   simp! [hl,ha]
  have w2:(xG 26).map (fun d=>match d with | .int j=>D.str (lt (j % 26) ++ "qzqz") | d=>d)=((List.range 26).map fun j:Nat=>lt ((j:Int) % 26) ++ "qzqz").map D.str:=by
   rw [List.map_map,List.map_map]
   rfl
  have w3:(xG 26).map (fun d=>match d with | .int j=>D.str (lt (j % 26) ++ "zqzq") | d=>d)=((List.range 26).map fun j:Nat=>lt ((j:Int) % 26) ++ "zqzq").map D.str:=by
   rw [List.map_map,List.map_map]
   rfl
  rw [w2] at l2
  rw [w3] at l3
  have ad:zQ (.lst (((List.range 26).map fun j:Nat=>lt ((j:Int) % 26) ++ "qzqz").map D.str)) (.lst (((List.range 26).map fun j:Nat=>lt ((j:Int) % 26) ++ "zqzq").map D.str))=some (.lst (vM.map D.str)):=by
   rw [j6 (by simp only [List.length_map,List.length_range]; decide)]
   unfold vM
   rw [List.map_append]
  have l4:=jQ (g:=zb 11) (c:=Ya) (e:=Uc) (σ:=[some (false,c),some (false,m),some (false,sz),some (false,sp),some (false,W),some (false,own),some (true,.lst (N.map D.str)),kk,lx,some (false,.str x0),some (false,.lst (vM.map D.str)),none]) (fun d=>match d with | .str x=>!decide (x∈N) | _=>false) id (ds:=vM.map D.str) fun d hd=>by
   obtain ⟨x,_,rfl⟩:=List.mem_map.mp hd
   have h2:=hni x
   refine ⟨_,rfl,?_,fun _=>rfl⟩
   unfold Ya
   simp! [h2]
  have e4:List.map id ((vM.map D.str).filter fun d=>match d with | .str x=>!decide (x∈N) | _=>false)=(vM.filter fun x=>!decide (x∈N)).map D.str:=by
   rw [List.map_id,List.filter_map]
   rfl
  rw [e4] at l4
  obtain ⟨x,r,ex⟩:∃ x r,vM.filter (fun x=>!decide (x∈N))=x::r:=by
   cases z:vM.filter fun x=>!decide (x∈N) with
   | cons x r=>exact ⟨x,r,rfl⟩
   | nil=>
    exfalso
    have:=IN DM (ps:=N) fun y hy=>by
     have:=List.filter_eq_nil_iff.mp z y hy
     simpa using this
    rw [DL] at this
    omega
  have mx:x∈vM.filter fun x=>!decide (x∈N):=by rw [ex]; exact List.mem_cons_self ..
  obtain ⟨mx1,mx2⟩:=List.mem_filter.mp mx
  refine ⟨x,some (false,.lst (vM.map D.str)),DN x mx1,by simpa using mx2,?_⟩
  rw [ex] at l4
  have i0:zH (.lst ((x::r).map D.str)) (.int 0)=some (.str x):=rfl
  rw [M0 (by simp! [h1])]
  have s1:yx 1 (xm (eC (.int 0)) (eC (.int 26))) (zb 11) yn kR σ0=some (.lst (((List.range 26).map fun j:Nat=>lt ((j:Int) % 26) ++ "qzqz").map D.str)):=by
   unfold yx
   rw [r26]
   show (xQ _ _ _ _ _).bind _=_
   rw [l2]
   rfl
  have s2:yx 1 (xm (eC (.int 0)) (eC (.int 26))) (zb 11) yn jm σ0=some (.lst (((List.range 26).map fun j:Nat=>lt ((j:Int) % 26) ++ "zqzq").map D.str)):=by
   unfold yx
   rw [r26]
   show (xQ _ _ _ _ _).bind _=_
   rw [l3]
   rfl
  rw [yh (σ':=[some (false,c),some (false,m),some (false,sz),some (false,sp),some (false,W),some (false,own),some (true,.lst (N.map D.str)),kk,lx,some (false,.str x0),some (false,.lst (vM.map D.str))]) (by
   rw [<- hσ]
   show ((e2 zQ _ _ σ0).bind _)=_
   unfold e2
   rw [s1]
   show (((yx 1 (xm (eC (.int 0)) (eC (.int 26))) (zb 11) yn jm σ0).bind _).bind _)=_
   rw [s2,Option.bind_some,ad,Option.bind_some,hσ]
   rfl)]
  generalize vM.map D.str=OO at *
  generalize List.map D.str (x::r)=XR at *
  simp! [l4,i0]
 ·refine ⟨x0,x10,h0,hm,?_⟩
  have h1:=hin x0
  rw [decide_eq_false hm] at h1
  simp! [h1]
theorem B5 (cell:Int) {many:Int} (m0:0<=many) (m1:many<=40):∃ N:List Str,N.length=many.toNat/\qI N/\g7 [.int cell,.int many]=some (true,.lst (N.map D.str)):=by
 obtain ⟨a1,a2,a3⟩:=xH cell 2 8 (by decide)
 obtain ⟨sz,hsz⟩:∃ z:Int,z=1+yV cell 2 8:=⟨_,rfl⟩
 obtain ⟨b1,b2,b3⟩:=xH cell 3 sz (by omega)
 generalize yV cell 3 sz=sp at b1 b2 b3
 obtain ⟨ts,hts⟩:∃ ts:List Str,ts=(List.range 8).map fun j:Nat=>lt (yV cell (4+(j:Int)) 26 % 26):=⟨_,rfl⟩
 obtain ⟨W,hW⟩:∃ W:Str,W=Builtin.Str.glued "" ts:=⟨_,rfl⟩
 have tl:∀ t∈ts,t.length=1/\vV t=true:=fun t ht=>by
  rw [hts] at ht
  obtain ⟨j,_,rfl⟩:=List.mem_map.mp ht
  exact ⟨Zq _,Qd (by omega) (by omega)⟩
 have lenW:W.length=8:=by
  have e:W.cps.toList.length=8:=by
   rw [hW,Q0,hts]
   rfl
  rw [<- e]
  exact Array.length_toList.symm
 have lowW:vV W=true:=by
  unfold vV
  rw [hW,Q0]
  refine List.all_eq_true.mpr fun c hc=>?_
  obtain ⟨l,hl,hc⟩:=List.mem_flatten.mp hc
  obtain ⟨t,ht,rfl⟩:=List.mem_map.mp hl
  exact List.all_eq_true.mp (tl t ht).2 c hc
 have r8:∀ σ,xm (eC (.int 0)) (eC (.int 8)) σ=some (xG 8):=fun σ=>uZ (n:=8) rfl (by decide)
 have l1:=qb (g:=zb 11) (e:=Ub) (σ:=[some (false,.int cell),some (false,.int many),some (false,.int sz),some (false,.int sp),none,none,none,none,none,none,none,none]) (fun d=>match d with | .int j=>D.str (lt (yV cell (4+j) 26 % 26)) | d=>d) (ds:=xG 8) fun d hd=>by
  obtain ⟨i,hi,rfl⟩:=kO hd
  have hm:=(xH cell (4+(i:Int)) 26 (by decide)).1
  have hl:=Zn (yV cell (4+(i:Int)) 26)
  refine ⟨_,rfl,?_⟩
  unfold Ub
  simp! [add_int,hm,hl]
 have w1:(xG 8).map (fun d=>match d with | .int j=>D.str (lt (yV cell (4+j) 26 % 26)) | d=>d)=ts.map D.str:=by
  rw [hts,List.map_map,List.map_map]
  rfl
 rw [w1] at l1
 have jn:=MJ (sep := "") (ts:=ts) (by rw [hts]; exact Nat.le_trans (Nat.le_of_eq (show _=8 from rfl)) (by decide))
 rw [<- hW] at jn
 have rr:JY [some (false,.int cell),some (false,.int many),some (false,.int sz),some (false,.int sp),some (false,.str W),some (false,wI),some (true,.lst []),none,none,none,none]=some (xG many.toNat):=uZ (n:=many) rfl (by omega)
 have c5:=xH cell 5 26 (by decide)
 have c6:=xH cell 6 4 (by decide)
 have c7:=xH cell 7 2 (by decide)
 generalize yV cell 5 26=m5 at c5
 generalize yV cell 6 4=m6 at c6
 generalize yV cell 7 2=m7 at c7
 have l5:uW 5=true:=by decide
 obtain ⟨spn,hsp⟩:∃ n:Nat,(n:Int)=sp:=⟨sp.toNat,by omega⟩
 obtain ⟨szn,hszn⟩:∃ n:Nat,(n:Int)=sz:=⟨sz.toNat,by omega⟩
 have h2:∀ x y:Str,(x++y).length=x.length+y.length:=xW
 obtain ⟨σ',e3,N,x7,x8,x9,x10,hl,hN,rfl⟩:=tX (g:=zb 7) (b:=Wh) (fun i σ=>∃ N x7 x8 x9 x10,N.length=i/\qI N/\σ=[some (false,.int cell),some (false,.int many),some (false,.int sz),some (false,.int sp),some (false,.str W),some (false,wI),some (true,.lst (N.map D.str)),x7,x8,x9,x10]) (ds:=xG many.toNat)
  (σ:=[some (false,.int cell),some (false,.int many),some (false,.int sz),some (false,.int sp),some (false,.str W),some (false,wI),some (true,.lst []),none,none,none,none]) 0 ⟨[],none,none,none,none,rfl,⟨List.nodup_nil,fun _ h=>by cases h⟩,rfl⟩ (by
  rintro i v σ hv ⟨N,x7,x8,x9,x10,hl,hN,rfl⟩
  obtain ⟨hi,rfl⟩:=jj hv
  rw [Nat.zero_add] at *
  have lf:=Zn (m5+5*(i:Int))
  have lz:=Zq ((m5+5*(i:Int)) % 26)
  have ll:=Qd (k:=(m5+5*(i:Int)) % 26) (by omega) (by omega)
  generalize lt ((m5+5*(i:Int)) % 26)=L at lf lz ll
  have k1:=TY W (b:=spn) (by omega)
  have k2:=Op W (a:=spn+1) (b:=szn) (by omega) (by omega)
  have k3:=Wo lowW none (some (spn:Int))
  have k4:=Wo lowW (some ((spn+1:Nat):Int)) (some (szn:Int))
  rw [hsp] at k1 k3
  rw [show ((spn+1:Nat):Int)=sp+1 by omega,hszn] at k2 k4
  have s1:yE (z8 4) yI (zy (z8 3)) [some (false,.int cell),some (false,.int many),some (false,.int sz),some (false,.int sp),some (false,.str W),some (false,wI),some (true,.lst (N.map D.str)),some (false,.int (i:Int)),some (false,.str L),x9,x10]=some (.str (L2.cutS W none (some sp))):=rfl
  have s2:yE (z8 4) (zy (e2 zQ (z8 3) (eC (.int 1)))) (zy (z8 2)) [some (false,.int cell),some (false,.int many),some (false,.int sz),some (false,.int sp),some (false,.str W),some (false,wI),some (true,.lst (N.map D.str)),some (false,.int (i:Int)),some (false,.str L),x9,x10]=some (.str (L2.cutS W (some (sp+1)) (some sz))):=rfl
  generalize L2.cutS W none (some sp)=A at *
  generalize L2.cutS W (some (sp+1)) (some sz)=B at *
  have ad1:=add_str (a:=A) (b:=L) (by omega)
  have ad2:=add_str (a:=A++L) (b:=B) (by rw [h2]; omega)
  have okb:uC (A++L++B)=true:=Qh (by rw [h2,h2]; omega) (by rw [h2,h2]; omega) (Qc (Qc k3 ll) k4)
  unfold Wh
  have base:∃ x0:Str,uC x0=true/\zX (xT (tE (e2 zL (zR yM (z7 (z8 0) (z7 (eC (.int 6)) (z7 (eC (.int 4)) zD)))) (eC (.int 0)))) (tE (e2 (xU fun i j=>decide (i<j)) (z8 7) (eC (.int 8)))))
     (zT 9 (e2 zH (zu (z7 (yE (z8 4) yI (zy (e2 zQ (z8 7) (eC (.int 1))))) (z7 (e2 zH (z8 5) (z8 7)) zD))) (zR yM (z7 (z8 0) (z7 (eC (.int 7)) (z7 (eC (.int 2)) zD))))))
     zk [some (false,.int cell),some (false,.int many),some (false,.int sz),some (false,.int sp),some (false,.str W),some (false,wI),some (true,.lst (N.map D.str)),some (false,.int (i:Int)),some (false,.str L),some (false,.str (A++L++B)),x10]=some (.nx [some (false,.int cell),some (false,.int many),some (false,.int sz),some (false,.int sp),some (false,.str W),some (false,wI),some (true,.lst (N.map D.str)),some (false,.int (i:Int)),some (false,.str L),some (false,.str x0),x10]):=by
   have c61:=c6.1
   have c71:=c7.1
   by_cases h6:m6=0
   ·have q6:=uA h6
    by_cases h8:i<8
    ·have q8:decide ((i:Int)<8)=true:=decide_eq_true (by omega)
     obtain ⟨t,ht,et⟩:=DO h8
     have s3:yE (z8 4) yI (zy (e2 zQ (z8 7) (eC (.int 1)))) [some (false,.int cell),some (false,.int many),some (false,.int sz),some (false,.int sp),some (false,.str W),some (false,wI),some (true,.lst (N.map D.str)),some (false,.int (i:Int)),some (false,.str L),some (false,.str (A++L++B)),x10]=some (.str (L2.cutS W none (some ((i+1:Nat):Int)))):=rfl
     have kc:=TY W (b:=i+1) (by omega)
     have kl:=Wo lowW none (some ((i+1:Nat):Int))
     generalize L2.cutS W none (some ((i+1:Nat):Int))=C at *
     generalize wI=OD at *
     rcases (show m7=0\/m7=1 by omega) with h7 | h7
     ·have i7:zH (.lst [.str C,.str t]) (.int m7)=some (.str C):=by rw [h7]; rfl
      refine ⟨C,Qh (by omega) (by omega) kl,?_⟩
      simp! [c61,q6,q8,s3,et,c71,i7]
     ·have i7:zH (.lst [.str C,.str t]) (.int m7)=some (.str t):=by rw [h7]; rfl
      refine ⟨t,ht,?_⟩
      simp! [c61,q6,q8,s3,et,c71,i7]
    ·have q8:decide ((i:Int)<8)=false:=decide_eq_false (by omega)
     refine ⟨_,okb,?_⟩
     generalize wI=OD at *
     simp! [c61,q6,q8]
   ·have q6:=wD h6
    refine ⟨_,okb,?_⟩
    generalize wI=OD at *
    simp! [c61,q6]
  obtain ⟨x0,ok0,eb⟩:=base
  obtain ⟨x,y10,okx,nx,ex⟩:=B6 (c:=.int cell) (m:=.int many) (sz:=.int sz) (sp:=.int sp) (W:=.str W) (own:=wI) (N:=N) (by omega) (kk:=some (false,.int (i:Int))) (lx:=some (false,.str L)) (x10:=x10) ok0
  have hap:=uh (L:=N.map D.str) (r:=.str x) (by rw [List.length_map]; omega)
  have c51:=c5.1
  refine ⟨_,[some (false,.int cell),some (false,.int many),some (false,.int sz),some (false,.int sp),some (false,.str W),some (false,wI),some (true,.lst ((N++[x]).map D.str)),some (false,.int (i:Int)),some (false,.str L),some (false,.str x),y10],rfl,.inl ?_,N++[x],_,_,_,_,by rw [List.length_append,hl]; rfl,⟨?_,?_⟩,rfl⟩
  ·show zI _ _ [some (false,.int cell),some (false,.int many),some (false,.int sz),some (false,.int sp),some (false,.str W),some (false,wI),some (true,.lst (N.map D.str)),some (false,.int (i:Int)),x8,x9,x10]=_
   rw [yh (σ':=[some (false,.int cell),some (false,.int many),some (false,.int sz),some (false,.int sp),some (false,.str W),some (false,wI),some (true,.lst (N.map D.str)),some (false,.int (i:Int)),some (false,.str L),x9,x10]) (by
    generalize wI=OD at *
    simp! [c51,add_int,l5,lf])]
   rw [yh (σ':=[some (false,.int cell),some (false,.int many),some (false,.int sz),some (false,.int sp),some (false,.str W),some (false,wI),some (true,.lst (N.map D.str)),some (false,.int (i:Int)),some (false,.str L),some (false,.str (A++L++B)),x10]) (by
    generalize wI=OD at *
    simp! [s1,s2,ad1,ad2])]
   rw [yh eb,yh ex,List.map_append]
   generalize wI=OD at *
   simp! [hap]
  ·exact List.nodup_append.mpr ⟨hN.nd,List.nodup_cons.mpr ⟨by simp,List.nodup_nil⟩,fun a ha b hb e=>by
    cases List.mem_singleton.mp hb
    exact nx (e ▸ ha)⟩
  ·intro t ht
   rcases List.mem_append.mp ht with ht | ht
   ·exact hN.ok t ht
   ·cases List.mem_singleton.mp ht
    exact okx)
 rw [jk,Nat.zero_add] at hl
 refine ⟨N,hl,hN,?_⟩
 rw [Li]
 unfold Xe
 have a11:=a1
 simp! [a1,add_int,<- hsz,b1,r8,l1,jn,rr,e3]
noncomputable def jG (N:List Str) (kind d:D):Prop:=(kind=.str "name" /\ ∃ t∈N,d=.str t)\/(kind=.str "mark" /\ ∃ k:Str,(k = "carry" \/ k = "nought" \/ k = "sign")/\d=.str k)\/∃ m n:Int,kind=.int m/\d=.int n/\0<=n/\n<m
noncomputable def We (N:List Str) (kind:D):Prop:=(kind=.str "name" /\ N≠[])\/kind=.str "mark" \/ ∃ m:Int,kind=.int m/\0<m
theorem DQ {N:List Str} {kind:D} (h:We N kind) (c k:Int):∃ d,g8 [kind,.int c,.int k,.lst (N.map D.str)]=some (false,d)/\jG N kind d:=by
 rcases h with ⟨rfl,hN⟩ | rfl | ⟨m,rfl,hm⟩
 ·have hp:0<N.length:=List.length_pos_iff.mpr hN
  obtain ⟨a,b,b'⟩:=xH c k (N.length:Int) (by omega)
  generalize yV c k (N.length:Int)=v at *
  have hv:v.toNat<N.length:=by omega
  have e:zH (.lst (N.map D.str)) (.int v)=some (.str N[v.toNat]):=uP b (by rw [List.getElem?_map,List.getElem?_eq_getElem hv]; rfl)
  have e1:zL (.str "name") (.str "name")=some (.bl true):=by rfl
  refine ⟨_,?_,.inl ⟨rfl,N[v.toNat],List.getElem_mem hv,rfl⟩⟩
  rw [WX]
  unfold gK
  simp! [e1,List.length_map,a,e]
 ·obtain ⟨a,b,b'⟩:=xH c k 3 (by decide)
  generalize yV c k 3=v at *
  obtain ⟨w,hw,ew⟩:∃ w:Str,(w = "carry" \/ w = "nought" \/ w = "sign")/\zH (.lst [.str "carry",.str "nought",.str "sign"]) (.int v)=some (.str w):=by
   rcases (show v=0\/v=1\/v=2 by omega) with rfl | rfl | rfl
   ·exact ⟨"carry",by simp,rfl⟩
   ·exact ⟨"nought",by simp,rfl⟩
   ·exact ⟨"sign",by simp,rfl⟩
  have e1:zL (.str "mark") (.str "name")=some (.bl false):=by rfl
  have e2:zL (.str "mark") (.str "mark")=some (.bl true):=by rfl
  refine ⟨_,?_,.inr (.inl ⟨rfl,w,hw,rfl⟩)⟩
  rw [WX]
  unfold gK
  simp! [e1,e2,a,ew]
 ·obtain ⟨a,a0,a1⟩:=xH c k m hm
  obtain ⟨b,b0,b1⟩:=xH c (k+1) m hm
  obtain ⟨q,q0,q1⟩:=xH c (k+2) 4 (by decide)
  obtain ⟨n,hn,en⟩:=F3 (a:=0) (b:=m - 1) (c:=yV c k m) (d:=yV c (k+1) m) (i:=yV c (k+2) 4) q0 q1
  have e1:zL (.int m) (.str "name")=some (.bl false):=by rfl
  have e2:zL (.int m) (.str "mark")=some (.bl false):=by rfl
  refine ⟨.int n,?_,.inr (.inr ⟨m,n,rfl,rfl,by omega,by omega⟩)⟩
  rw [WX]
  unfold gK
  simp! [e1,e2,a,add_int,b,q,en]
theorem U9 {w:Str} (hw:w = "set" \/ w = "high"):wB [.str w]=some (true,.lst [.int 8,.int 65536]):=by rcases hw with rfl | rfl<;>rfl
theorem UB {w:Str} (hw:w = "left" \/ w = "right"):wB [.str w]=some (true,.lst [.int 8,.int 32]):=by rcases hw with rfl | rfl<;>rfl
theorem UA {w:Str} (hw:w = "load" \/ w = "store" \/ w = "loadw" \/ w = "storew"):wB [.str w]=some (true,.lst [.int 8,.int 8,.int 256]):=by rcases hw with rfl | rfl | rfl | rfl<;>rfl
theorem UE {w:Str} (hw:w = "copy" \/ w = "add" \/ w = "addc" \/ w = "sub" \/ w = "subc" \/ w = "and" \/ w = "or" \/ w = "xor" \/ w = "test"):wB [.str w]=some (true,.lst [.int 8,.int 8]):=by
 rcases hw with rfl | rfl | rfl | rfl | rfl | rfl | rfl | rfl | rfl<;>rfl
theorem UC {w:Str} (hw:w = "jump" \/ w = "label"):wB [.str w]=some (false,.lst [.str "name"]):=by rcases hw with rfl | rfl<;>rfl
theorem U8 {w:Str} (hw:w = "when" \/ w = "unless"):wB [.str w]=some (false,.lst [.str "mark",.str "name"]):=by rcases hw with rfl | rfl<;>rfl
theorem UD:wB [.str "stop"]=some (false,.lst []):=by rfl
noncomputable def xy (w:Str):Prop:=(w = "set" \/ w = "high")\/(w = "left" \/ w = "right")\/(w = "load" \/ w = "store" \/ w = "loadw" \/ w = "storew")\/(w = "copy" \/ w = "add" \/ w = "addc" \/ w = "sub" \/ w = "subc" \/ w = "and" \/ w = "or" \/ w = "xor" \/ w = "test")\/w = "jump" \/ (w = "when" \/ w = "unless")\/w = "stop"
noncomputable abbrev qu:D:=.lst [.str "set",.str "high",.str "copy",.str "add",.str "addc",.str "sub",.str "subc",.str "and",.str "or",.str "xor",.str "test",.str "left",.str "right",.str "load",.str "store",.str "loadw",.str "storew",.str "jump",.str "when",.str "unless",.str "stop"]
theorem UW:pp []=some (false,qu):=by rfl
theorem G7 {v:Int} (h0:0<=v) (h1:v<21):∃ w:Str,xy w/\zH qu (.int v)=some (.str w):=by
 rcases (show v=0\/v=1\/v=2\/v=3\/v=4\/v=5\/v=6\/v=7\/v=8\/v=9\/v=10\/v=11\/v=12\/v=13\/v=14\/v=15\/v=16\/v=17\/v=18\/v=19\/v=20 by omega) with rfl | rfl | rfl | rfl | rfl | rfl | rfl | rfl | rfl | rfl | rfl | rfl | rfl | rfl | rfl | rfl | rfl | rfl | rfl | rfl | rfl<;>exact ⟨_,by unfold xy; simp,rfl⟩
theorem pM {N:List Str} {w:Str} {ks:List D} {o:Bool} (hs:wB [.str w]=some (o,.lst ks)) (hk:∀ k∈ks,We N k) (hl:ks.length<=5) (c:Int):∃ ds:List D,vx (jG N) ks ds/\zI (zT 3 (zR wB (z7 (z8 2) zD)))
  (zd (e2 zQ (qR (z7 (z8 2) zD)) (eL uS (z7 (yx 1 Y2 (zb 4) yn kS) zD)))) [some (false,.int c),some (false,.lst (N.map D.str)),some (false,.str w),none]=some (.rt false (.tup (.str w::ds))):=by
 have rr:Y2 [some (false,.int c),some (false,.lst (N.map D.str)),some (false,.str w),some (false,.lst ks)]=some (xG ks.length):=uZ (n:=(ks.length:Int)) rfl (by omega)
 obtain ⟨ds,e1,ea⟩:=Wj (g:=zb 4) (e:=kS) (σ:=[some (false,.int c),some (false,.lst (N.map D.str)),some (false,.str w),some (false,.lst ks),none]) (fun d x=>∃ i:Nat,d=.int (i:Int)/\∃ k,ks[i]?=some k/\jG N k x) (ds:=xG ks.length) fun d hd=>by
  obtain ⟨i,hi,rfl⟩:=kO hd
  obtain ⟨x,ex,fx⟩:=DQ (hk _ (List.getElem_mem hi)) c (2*(i:Int)+1)
  have ei:zH (.lst ks) (.int (i:Int))=some ks[i]:=uP (by omega) (by rw [Int.toNat_natCast]; exact List.getElem?_eq_getElem hi)
  have l2:uW 2=true:=by decide
  refine ⟨_,x,rfl,?_,i,rfl,_,List.getElem?_eq_getElem hi,fx⟩
  unfold kS
  simp! [ei,l2,add_int,ex]
 have ld:ds.length=ks.length:=by rw [<- WA ea,jk]
 refine ⟨ds,?_,?_⟩
 ·refine Tn ld.symm fun i k d hk hd=>?_
  have hi:i<ks.length:=(List.getElem?_eq_some_iff.mp hk).1
  obtain ⟨y,ey,j,ej,k',ek,fk⟩:=Tl ea (i:=i) (x:=.int (i:Int)) (by simp [hi])
  rw [ey] at hd
  cases hd
  have e0:j=i:=by injection ej with z; omega
  subst e0
  rw [hk] at ek
  cases ek
  exact fk
 ·have ad:zQ (.tup [.str w]) (.tup ds)=some (.tup (.str w::ds)):=by
   show (if _/\_ then _ else _)=_
   rw [if_pos ⟨rfl,by show 1+ds.length<=16777216; omega⟩]
   rfl
  have ft:uS [.lst ds]=some (.tup ds):=rfl
  simp! [hs,rr,e1,ft,ad]
theorem p9 {R:D->D->Prop} {ds:List D} (h:vx R [] ds):ds=[]:=by cases h; rfl
theorem u5 {R:D->D->Prop} {k:D} {ks ds:List D} (h:vx R (k::ks) ds):∃ d r,ds=d::r/\R k d/\vx R ks r:=by
 cases h with
 | cons r rs=>exact ⟨_,_,rfl,r,rs⟩
theorem tP {N:List Str} {m:Int} {d:D} (h:jG N (.int m) d):∃ n:Int,d=.int n/\0<=n/\n<m:=by
 rcases h with ⟨h,_⟩ | ⟨h,_⟩ | ⟨m',n,h,e,a,b⟩
 ·cases h
 ·cases h
 ·injection h with h
  subst h
  exact ⟨n,e,a,b⟩
theorem Tu {N:List Str} {d:D} (h:jG N (.str "name") d):∃ t∈N,d=.str t:=by
 rcases h with ⟨_,h⟩ | ⟨h,_⟩ | ⟨_,_,h,_⟩
 ·exact h
 ·exact absurd (D.str.inj h) (by decide)
 ·cases h
theorem LO {N:List Str} {d:D} (h:jG N (.str "mark") d):∃ k:Str,(k = "carry" \/ k = "nought" \/ k = "sign")/\d=.str k:=by
 rcases h with ⟨h,_⟩ | ⟨_,h⟩ | ⟨_,_,h,_⟩
 ·exact absurd (D.str.inj h) (by decide)
 ·exact h
 ·cases h
theorem C8 {N:List Str} {w:Str} (hw:xy w) (hn:N=[]->w ≠ "jump" /\ w ≠ "when" /\ w ≠ "unless") (c:Int):∃ r,tG N r/\zI (zT 3 (zR wB (z7 (z8 2) zD)))
  (zd (e2 zQ (qR (z7 (z8 2) zD)) (eL uS (z7 (yx 1 Y2 (zb 4) yn kS) zD)))) [some (false,.int c),some (false,.lst (N.map D.str)),some (false,.str w),none]=some (.rt false r):=by
 have ki:∀ m:Int,0<m->We N (.int m):=fun m h=>.inr (.inr ⟨m,rfl,h⟩)
 rcases hw with hw | hw | hw | hw | hw | hw | hw
 ·obtain ⟨ds,ea,e⟩:=pM (N:=N) (U9 hw) (fun k hk=>by
   rcases List.mem_cons.mp hk with rfl | hk
   ·exact ki 8 (by decide)
   ·cases List.mem_singleton.mp hk; exact ki 65536 (by decide)) (by decide) c
  obtain ⟨d1,r1,rfl,f1,ea⟩:=u5 ea
  obtain ⟨d2,r2,rfl,f2,ea⟩:=u5 ea
  cases p9 ea
  obtain ⟨x,rfl,x0,x1⟩:=tP f1
  obtain ⟨y,rfl,y0,y1⟩:=tP f2
  exact ⟨_,.plain (.imm hw x0 x1 y0 y1),e⟩
 ·obtain ⟨ds,ea,e⟩:=pM (N:=N) (UB hw) (fun k hk=>by
   rcases List.mem_cons.mp hk with rfl | hk
   ·exact ki 8 (by decide)
   ·cases List.mem_singleton.mp hk; exact ki 32 (by decide)) (by decide) c
  obtain ⟨d1,r1,rfl,f1,ea⟩:=u5 ea
  obtain ⟨d2,r2,rfl,f2,ea⟩:=u5 ea
  cases p9 ea
  obtain ⟨x,rfl,x0,x1⟩:=tP f1
  obtain ⟨y,rfl,y0,y1⟩:=tP f2
  exact ⟨_,.plain (.mov hw x0 x1 y0 y1),e⟩
 ·obtain ⟨ds,ea,e⟩:=pM (N:=N) (UA hw) (fun k hk=>by
   rcases List.mem_cons.mp hk with rfl | hk
   ·exact ki 8 (by decide)
   ·rcases List.mem_cons.mp hk with rfl | hk
    ·exact ki 8 (by decide)
    ·cases List.mem_singleton.mp hk; exact ki 256 (by decide)) (by decide) c
  obtain ⟨d1,r1,rfl,f1,ea⟩:=u5 ea
  obtain ⟨d2,r2,rfl,f2,ea⟩:=u5 ea
  obtain ⟨d3,r3,rfl,f3,ea⟩:=u5 ea
  cases p9 ea
  obtain ⟨x,rfl,x0,x1⟩:=tP f1
  obtain ⟨y,rfl,y0,y1⟩:=tP f2
  obtain ⟨z,rfl,z0,z1⟩:=tP f3
  exact ⟨_,.plain (.mem hw x0 x1 y0 y1 z0 z1),e⟩
 ·obtain ⟨ds,ea,e⟩:=pM (N:=N) (UE hw) (fun k hk=>by
   rcases List.mem_cons.mp hk with rfl | hk
   ·exact ki 8 (by decide)
   ·cases List.mem_singleton.mp hk; exact ki 8 (by decide)) (by decide) c
  obtain ⟨d1,r1,rfl,f1,ea⟩:=u5 ea
  obtain ⟨d2,r2,rfl,f2,ea⟩:=u5 ea
  cases p9 ea
  obtain ⟨x,rfl,x0,x1⟩:=tP f1
  obtain ⟨y,rfl,y0,y1⟩:=tP f2
  exact ⟨_,.plain (.two hw x0 x1 y0 y1),e⟩
 ·have nn:N≠[]:=fun z=>(hn z).1 hw
  obtain ⟨ds,ea,e⟩:=pM (N:=N) (UC (.inl hw)) (fun k hk=>by
   cases List.mem_singleton.mp hk; exact .inl ⟨rfl,nn⟩) (by decide) c
  obtain ⟨d1,r1,rfl,f1,ea⟩:=u5 ea
  cases p9 ea
  obtain ⟨t,ht,rfl⟩:=Tu f1
  subst hw
  exact ⟨_,.jump ht,e⟩
 ·have nn:N≠[]:=fun z=>by
   rcases hw with hw | hw
   ·exact (hn z).2.1 hw
   ·exact (hn z).2.2 hw
  obtain ⟨ds,ea,e⟩:=pM (N:=N) (U8 hw) (fun k hk=>by
   rcases List.mem_cons.mp hk with rfl | hk
   ·exact .inr (.inl rfl)
   ·cases List.mem_singleton.mp hk; exact .inl ⟨rfl,nn⟩) (by decide) c
  obtain ⟨d1,r1,rfl,f1,ea⟩:=u5 ea
  obtain ⟨d2,r2,rfl,f2,ea⟩:=u5 ea
  cases p9 ea
  obtain ⟨k,hk,rfl⟩:=LO f1
  obtain ⟨t,ht,rfl⟩:=Tu f2
  exact ⟨_,.cond hw hk ht,e⟩
 ·subst hw
  obtain ⟨ds,ea,e⟩:=pM (N:=N) UD (fun k hk=>by cases hk) (by decide) c
  cases p9 ea
  exact ⟨_,.plain .stop,e⟩
theorem C7 (N:List Str) (c:Int):∃ r,tG N r/\gA [.int c,.lst (N.map D.str)]=some (false,r):=by
 obtain ⟨a,a0,a1⟩:=xH c 0 21 (by decide)
 obtain ⟨w0,hw0,e0⟩:=G7 a0 a1
 obtain ⟨b,b0,b1⟩:=xH c 8 4 (by decide)
 obtain ⟨q,q0,q1⟩:=xH c 9 3 (by decide)
 generalize yV c 0 21=v0 at *
 generalize yV c 8 4=v8 at *
 generalize yV c 9 3=v9 at *
 obtain ⟨w9,hw9,e9⟩:∃ w:Str,xy w/\zH (.lst [.str "jump",.str "when",.str "unless"]) (.int v9)=some (.str w):=by
  rcases (show v9=0\/v9=1\/v9=2 by omega) with rfl | rfl | rfl<;>exact ⟨_,by unfold xy; simp,rfl⟩
 have wF:=UW
 have step:∃ w:Str,xy w/\∀ (yC:FS),zI (zT 2 (e2 zH (zR pp zD) (zR yM (z7 (z8 0) (z7 (eC (.int 0)) (z7 (eC (.int 21)) zD))))))
  (zI (zX (tE (e2 zL (zR yM (z7 (z8 0) (z7 (eC (.int 8)) (z7 (eC (.int 4)) zD)))) (eC (.int 1))))
   (zT 2 (e2 zH (zu (z7 (eC (.str "jump")) (z7 (eC (.str "when")) (z7 (eC (.str "unless")) zD)))) (zR yM (z7 (z8 0) (z7 (eC (.int 9)) (z7 (eC (.int 3)) zD))))))
   zk) yC) [some (false,.int c),some (false,.lst (N.map D.str)),none,none]=yC [some (false,.int c),some (false,.lst (N.map D.str)),some (false,.str w),none]:=by
  by_cases h8:v8=1
  ·refine ⟨w9,hw9,fun yC=>?_⟩
   have k8:=uA h8
   rw [yh (σ':=[some (false,.int c),some (false,.lst (N.map D.str)),some (false,.str w0),none]) (by
    generalize qu=WD at *
    simp! [wF,a,e0])]
   rw [yh (σ':=[some (false,.int c),some (false,.lst (N.map D.str)),some (false,.str w9),none]) (by simp! [b,k8,q,e9])]
  ·refine ⟨w0,hw0,fun yC=>?_⟩
   have k8:=wD h8
   rw [yh (σ':=[some (false,.int c),some (false,.lst (N.map D.str)),some (false,.str w0),none]) (by
    generalize qu=WD at *
    simp! [wF,a,e0])]
   rw [yh (σ':=[some (false,.int c),some (false,.lst (N.map D.str)),some (false,.str w0),none]) (by simp! [b,k8])]
 obtain ⟨w,hw,es⟩:=step
 obtain ⟨kj,ej⟩:∃ k:Bool,yy (.str w) (.lst [.str "jump",.str "when",.str "unless"])=some (.bl k)/\(k=false->w ≠ "jump" /\ w ≠ "when" /\ w ≠ "unless"):=by
  rcases hw with hw | hw | hw | hw | hw | hw | hw
  ·rcases hw with rfl | rfl<;>exact ⟨false,rfl,fun _=>by decide⟩
  ·rcases hw with rfl | rfl<;>exact ⟨false,rfl,fun _=>by decide⟩
  ·rcases hw with rfl | rfl | rfl | rfl<;>exact ⟨false,rfl,fun _=>by decide⟩
  ·rcases hw with rfl | rfl | rfl | rfl | rfl | rfl | rfl | rfl | rfl<;>exact ⟨false,rfl,fun _=>by decide⟩
  ·subst hw; exact ⟨true,rfl,fun z=>by cases z⟩
  ·rcases hw with rfl | rfl<;>exact ⟨true,rfl,fun z=>by cases z⟩
  ·subst hw; exact ⟨false,rfl,fun _=>by decide⟩
 have fin:∃ w':Str,xy w'/\(N=[]->w' ≠ "jump" /\ w' ≠ "when" /\ w' ≠ "unless")/\zX (xT (tE (e2 yy (z8 2) (zu (z7 (eC (.str "jump")) (z7 (eC (.str "when")) (z7 (eC (.str "unless")) zD)))))) (tE (e2 zL (eL yF (z7 (z8 1) zD)) (eC (.int 0)))))
   (zT 2 (eC (.str "stop")))
   zk [some (false,.int c),some (false,.lst (N.map D.str)),some (false,.str w),none]=some (.nx [some (false,.int c),some (false,.lst (N.map D.str)),some (false,.str w'),none]):=by
  obtain ⟨ej,hj⟩:=ej
  cases kj with
  | false=>
   refine ⟨w,hw,fun _=>hj rfl,?_⟩
   simp! [ej]
  | true=>
   by_cases hN:N=[]
   ·subst hN
    refine ⟨"stop",by unfold xy; simp,fun _=>by decide,?_⟩
    have k0:zL (.int (0:Nat)) (.int 0)=some (.bl true):=by rfl
    simp! [ej]
    rfl
   ·have hp:0<N.length:=List.length_pos_iff.mpr hN
    have k0:zL (.int (N.length:Int)) (.int 0)=some (.bl false):=wD (by omega)
    refine ⟨w,hw,fun z=>absurd z hN,?_⟩
    simp! [ej,List.length_map,k0]
 obtain ⟨w',hw',hn,ef⟩:=fin
 obtain ⟨r,hr,er⟩:=C8 (N:=N) hw' hn c
 refine ⟨r,hr,?_⟩
 rw [Lm]
 unfold Xi
 show ((zI _ _ [some (false,.int c),some (false,.lst (N.map D.str)),none,none]).bind _)=_
 rw [es,yh ef,er]
 rfl
end L3
namespace L3
open PySem
noncomputable def VE:FA:=(xm (eC (.int 0)) (e2 zQ (eC (.int 40)) (e2 vK (e2 qS (z8 2) (eC (.int 12))) (eC (.int 160)))))
noncomputable def YY:FE:=(e2 zQ (e2 qS (z8 2) (eC (.int 12))) (e2 qU (eC (.int 17)) (z8 8)))
noncomputable def Ue:FE:=(zR gA (z7 (z8 8) (z7 (z8 6) zD)))
noncomputable def JZ:FA:=(xm (eC (.int 0)) (eL yF (z7 (z8 6) zD)))
noncomputable def Wi:FS:=(Y5 7 (zR yM (z7 (e2 zQ (z8 2) (e2 qS (z8 4) (eC (.int 5)))) (z7 (z8 4) (z7 (e2 zQ (eL yF (z7 (wz 7) zD)) (eC (.int 1))) zD)))) (qR (z7 (eC (.str "label")) (z7 (e2 zH (z8 6) (z8 4)) zD))))
noncomputable def Xg:FS:=
 (zI (zT 2 (zR qB (z7 (z8 0) (z7 (z8 1) zD))))
  (zI (zT 3 (yE (z8 0) (zy (e2 zQ (z8 1) (eC (.int 1)))) (zy (e2 zQ (z8 1) (eC (.int 31))))))
  (zI (zX (tE (e2 zL (e2 vK (z8 2) (eC (.int 12))) (eC (.int 5))))
   (zT 3 (yx 1 VE (zb 8) yn YY))
   zk)
  (zI (zT 5 (e2 zH (zu (fun _=>some (List.map D.int [0,1,2,3,4,6,8,20]))) (zR yM (z7 (z8 2) (z7 (eC (.int 1)) (z7 (eC (.int 8)) zD))))))
  (zI (zX (tE (e2 zL (e2 vK (z8 2) (eC (.int 24))) (eC (.int 5))))
   (zT 5 (eC (.int 40)))
   zk)
  (zI (zT 6 (zR g7 (z7 (e2 qS (z8 2) (eC (.int 3))) (z7 (z8 5) zD))))
  (zI (vP 7 (yx 1 (w8 (z8 3)) (zb 8) yn Ue))
  (zI (vO JZ (zb 4)
   Wi)
  (pN 7)))))))))
noncomputable def g9:List D->Option (Bool×D):=FR 2 8 Xg
theorem Lk (x0 x1:D):g9 [x0,x1]=yi 8 Xg [x0,x1]:=rfl
theorem LN (p:D->Bool) (xs:List D) (n:Nat) (y:D) (h:p y=true):((xs.take n++[y]++xs.drop n).filter p).Perm (xs.filter p++[y]):=by
 have e:xs.filter p=(xs.take n).filter p++(xs.drop n).filter p:=by rw [<- List.filter_append,List.take_append_drop]
 rw [List.filter_append,List.filter_append,List.filter_cons_of_pos h,e,List.filter_nil,List.append_assoc,List.append_assoc]
 exact List.Perm.append_left _ List.perm_append_comm
structure O7 (N:List Str) (items:List D):Prop where
 nm:qI N
 it:∀ d∈items,t9 N d
 lb:(items.filter uB).Perm (N.map xZ)
 ln:items.length<=300
 nl:N.length<=40
theorem FI (ns:List Int) (hl:ns.length<=63) {first:Int} (f0:0<=first):∃ N items,O7 N items/\g9 [.lst (ns.map D.int),.int first]=some (true,.lst items):=by
 have hc:=Xu ns (k:=first) f0
 generalize gN ns first=far at hc
 have b1:=xH far 1 8 (by decide)
 obtain ⟨mn,mn0,mn1,emn⟩:∃ m:Int,0<=m/\m<=40/\zH (.lst (List.map D.int [0,1,2,3,4,6,8,20])) (.int (yV far 1 8))=some (.int m):=by
  obtain ⟨_,h0,h1⟩:=b1
  generalize yV far 1 8=v at *
  rcases (show v=0\/v=1\/v=2\/v=3\/v=4\/v=5\/v=6\/v=7 by omega) with rfl | rfl | rfl | rfl | rfl | rfl | rfl | rfl<;>exact ⟨_,by decide,by decide,rfl⟩
 have b1:=b1.1
 obtain ⟨s,hs⟩:∃ s:D,s=.lst (ns.map D.int):=⟨_,rfl⟩
 have cells:∃ cs:List Int,cs.length<=200/\∀ yC:FS,zI (zT 3 (yE (z8 0) (zy (e2 zQ (z8 1) (eC (.int 1)))) (zy (e2 zQ (z8 1) (eC (.int 31))))))
  (zI (zX (tE (e2 zL (e2 vK (z8 2) (eC (.int 12))) (eC (.int 5))))
   (zT 3 (yx 1 VE (zb 8) yn YY))
   zk) yC) [some (false,s),some (false,.int first),some (false,.int far),none,none,none,none,none]=yC [some (false,s),some (false,.int first),some (false,.int far),some (false,.lst (cs.map D.int)),none,none,none,none]:=by
  have sl:yE (z8 0) (zy (e2 zQ (z8 1) (eC (.int 1)))) (zy (e2 zQ (z8 1) (eC (.int 31)))) [some (false,s),some (false,.int first),some (false,.int far),none,none,none,none,none]=some (.lst ((xD ns (some (first+1)) (some (first+31))).map D.int)):=by
   rw [hs]
   show some (D.lst (xD (ns.map D.int) (some (first+1)) (some (first+31))))=_
   unfold xD
   rw [List.length_map,List.map_take,List.map_drop]
  have cl:(xD ns (some (first+1)) (some (first+31))).length<=63:=by
   unfold xD
   rw [List.length_take,List.length_drop]
   omega
  by_cases h5:far % 12=5
  ·have k5:=uA h5
   have rr:VE [some (false,s),some (false,.int first),some (false,.int far),some (false,.lst ((xD ns (some (first+1)) (some (first+31))).map D.int)),none,none,none,none]=some (xG (40+far / 12 % 160).toNat):=uZ (n:=40+far / 12 % 160) rfl (by omega)
   have l17:uW 17=true:=by decide
   have l1:=qb (g:=zb 8) (e:=YY) (σ:=[some (false,s),some (false,.int first),some (false,.int far),some (false,.lst ((xD ns (some (first+1)) (some (first+31))).map D.int)),none,none,none,none,none]) (fun d=>match d with | .int j=>D.int (far / 12+17*j) | d=>d) (ds:=xG (40+far / 12 % 160).toNat) fun d hd=>by
    obtain ⟨i,hi,rfl⟩:=kO hd
    refine ⟨_,rfl,?_⟩
    unfold YY
    simp! [l17,add_int]
   have w1:(xG (40+far / 12 % 160).toNat).map (fun d=>match d with | .int j=>D.int (far / 12+17*j) | d=>d)=((List.range (40+far / 12 % 160).toNat).map fun j:Nat=>far / 12+17*(j:Int)).map D.int:=by
    rw [List.map_map,List.map_map]
    rfl
   rw [w1] at l1
   refine ⟨(List.range (40+far / 12 % 160).toNat).map fun j:Nat=>far / 12+17*(j:Int),?_,fun yC=>?_⟩
   rotate_left
   ·rw [yh (σ':=[some (false,s),some (false,.int first),some (false,.int far),some (false,.lst ((xD ns (some (first+1)) (some (first+31))).map D.int)),none,none,none,none]) (by
     generalize (xD ns (some (first+1)) (some (first+31))).map D.int=CC at *
     simp! [sl])]
    rw [yh (σ':=[some (false,s),some (false,.int first),some (false,.int far),some (false,.lst (((List.range (40+far / 12 % 160).toNat).map fun j:Nat=>far / 12+17*(j:Int)).map D.int)),none,none,none,none]) (by
     generalize (xD ns (some (first+1)) (some (first+31))).map D.int=CC at *
     generalize List.map D.int (List.map (fun j:Nat=>far / 12+17*(j:Int)) (List.range (40+far / 12 % 160).toNat))=LL at *
     simp! [k5,rr,l1])]
   ·rw [List.length_map,List.length_range]
    omega
  ·have k5:=wD h5
   refine ⟨xD ns (some (first+1)) (some (first+31)),by omega,fun yC=>?_⟩
   ·rw [yh (σ':=[some (false,s),some (false,.int first),some (false,.int far),some (false,.lst ((xD ns (some (first+1)) (some (first+31))).map D.int)),none,none,none,none]) (by
     generalize (xD ns (some (first+1)) (some (first+31))).map D.int=CC at *
     simp! [sl])]
    rw [yh (σ':=[some (false,s),some (false,.int first),some (false,.int far),some (false,.lst ((xD ns (some (first+1)) (some (first+31))).map D.int)),none,none,none,none]) (by
     generalize (xD ns (some (first+1)) (some (first+31))).map D.int=CC at *
     simp! [k5])]
 obtain ⟨cs,lcs,ecs⟩:=cells
 have many:∃ m:Int,0<=m/\m<=40/\∀ (CC:D) (yC:FS),zI (zT 5 (e2 zH (zu (fun _=>some (List.map D.int [0,1,2,3,4,6,8,20]))) (zR yM (z7 (z8 2) (z7 (eC (.int 1)) (z7 (eC (.int 8)) zD))))))
  (zI (zX (tE (e2 zL (e2 vK (z8 2) (eC (.int 24))) (eC (.int 5))))
   (zT 5 (eC (.int 40)))
   zk) yC) [some (false,s),some (false,.int first),some (false,.int far),some (false,CC),none,none,none,none]=yC [some (false,s),some (false,.int first),some (false,.int far),some (false,CC),none,some (false,.int m),none,none]:=by
  by_cases h5:far % 24=5
  ·have k5:=uA h5
   refine ⟨40,by decide,by decide,fun CC yC=>?_⟩
   rw [yh (σ':=[some (false,s),some (false,.int first),some (false,.int far),some (false,CC),none,some (false,.int mn),none,none]) (by
    generalize List.map D.int [0,1,2,3,4,6,8,20]=PS at *
    simp! [b1,emn])]
   rw [yh (σ':=[some (false,s),some (false,.int first),some (false,.int far),some (false,CC),none,some (false,.int 40),none,none]) (by simp! [k5])]
  ·have k5:=wD h5
   refine ⟨mn,mn0,mn1,fun CC yC=>?_⟩
   rw [yh (σ':=[some (false,s),some (false,.int first),some (false,.int far),some (false,CC),none,some (false,.int mn),none,none]) (by
    generalize List.map D.int [0,1,2,3,4,6,8,20]=PS at *
    simp! [b1,emn])]
   rw [yh (σ':=[some (false,s),some (false,.int first),some (false,.int far),some (false,CC),none,some (false,.int mn),none,none]) (by simp! [k5])]
 obtain ⟨m,m0,m1,em⟩:=many
 obtain ⟨N,nl,hN,en⟩:=B5 (far / 3) m0 m1
 obtain ⟨I0,e1,ea⟩:=Wj (g:=zb 8) (e:=Ue) (σ:=[some (false,s),some (false,.int first),some (false,.int far),some (false,.lst (cs.map D.int)),none,some (false,.int m),some (false,.lst (N.map D.str)),none,none]) (fun _ y=>tG N y) (ds:=cs.map D.int) fun d hd=>by
  obtain ⟨c,_,rfl⟩:=List.mem_map.mp hd
  obtain ⟨r,hr,er⟩:=C7 N c
  exact ⟨_,r,rfl,by unfold Ue; simp! [er],hr⟩
 have li:I0.length=cs.length:=by rw [<- WA ea,List.length_map]
 have p0:∀ b∈I0,tG N b:=fun b hb=>by
  obtain ⟨_,_,h⟩:=Tm ea b hb
  exact h
 have rr:JZ [some (false,s),some (false,.int first),some (false,.int far),some (false,.lst (cs.map D.int)),none,some (false,.int m),some (false,.lst (N.map D.str)),some (true,.lst I0)]=some (xG N.length):=by
  have:=uZ (f:=eL yF (z7 (z8 6) zD)) (τ:=[some (false,s),some (false,.int first),some (false,.int far),some (false,.lst (cs.map D.int)),none,some (false,.int m),some (false,.lst (N.map D.str)),some (true,.lst I0)]) (n:=((N.map D.str).length:Int)) rfl (by rw [List.length_map]; omega)
  rw [List.length_map,Int.toNat_natCast] at this
  exact this
 obtain ⟨σ',e3,J,x4,jl,jI,jP,rfl⟩:=tX (g:=zb 4) (b:=Wi) (fun i σ=>∃ J x4,J.length=cs.length+i/\(∀ d∈J,t9 N d)/\(J.filter uB).Perm ((N.take i).map xZ)/\σ=[some (false,s),some (false,.int first),some (false,.int far),some (false,.lst (cs.map D.int)),x4,some (false,.int m),some (false,.lst (N.map D.str)),some (true,.lst J)]) (ds:=xG N.length)
  (σ:=[some (false,s),some (false,.int first),some (false,.int far),some (false,.lst (cs.map D.int)),none,some (false,.int m),some (false,.lst (N.map D.str)),some (true,.lst I0)]) 0 ⟨I0,none,li,(fun d hd=>.inl (p0 d hd)),by
   rw [List.filter_eq_nil_iff.mpr fun b hb=>by rw [(VJ (p0 b hb)).2]; decide]
   exact List.Perm.refl _,rfl⟩ (by
  rintro i v σ hv ⟨J,x4,jl,jI,jP,rfl⟩
  obtain ⟨hi,rfl⟩:=jj hv
  rw [Nat.zero_add] at *
  obtain ⟨a,a0,a1⟩:=xH (far+(i:Int) / 5) (i:Int) ((J.length:Int)+1) (by omega)
  generalize yV (far+(i:Int) / 5) (i:Int) ((J.length:Int)+1)=v at *
  have ix:zH (.lst (N.map D.str)) (.int (i:Int))=some (.str N[i]):=uP (by omega) (by rw [Int.toNat_natCast,List.getElem?_map,List.getElem?_eq_getElem hi]; rfl)
  have cc:0<=v/\v<4611686018427387904/\J.length<yS:=⟨a0,by omega,by show _<16777216; omega⟩
  refine ⟨_,[some (false,s),some (false,.int first),some (false,.int far),some (false,.lst (cs.map D.int)),some (false,.int (i:Int)),some (false,.int m),some (false,.lst (N.map D.str)),some (true,.lst (pE J v (xZ N[i])))],rfl,.inl ?_,_,_,?_,?_,?_,rfl⟩
  ·unfold Wi xZ
   generalize N.map D.str=NN at *
   simp! [Y5,add_int,a,ix]
   exact if_pos cc
  ·unfold pE
   rw [List.length_append,List.length_append,List.length_take,List.length_drop,List.length_singleton]
   omega
  ·intro b hb
   unfold pE at hb
   rcases List.mem_append.mp hb with hb | hb
   ·rcases List.mem_append.mp hb with hb | hb
    ·exact jI b (List.mem_of_mem_take hb)
    ·cases List.mem_singleton.mp hb
     exact .inr ⟨_,List.getElem_mem hi,rfl⟩
   ·exact jI b (List.mem_of_mem_drop hb)
  ·unfold pE
   refine (LN uB J v.toNat _ rfl).trans ?_
   rw [List.take_succ_eq_append_getElem hi,List.map_append]
   exact jP.append_right _)
 rw [jk,Nat.zero_add] at jl jP
 rw [List.take_length] at jP
 refine ⟨N,J,⟨hN,jI,jP,by omega,by omega⟩,?_⟩
 rw [<- hs] at hc ⊢
 rw [Lk]
 unfold Xg
 show ((zI _ _ [some (false,s),some (false,.int first),none,none,none,none,none,none]).bind _)=_
 rw [yh (σ':=[some (false,s),some (false,.int first),some (false,.int far),none,none,none,none,none]) (by simp! [hc]),ecs,em]
 rw [yh (σ':=[some (false,s),some (false,.int first),some (false,.int far),some (false,.lst (cs.map D.int)),none,some (false,.int m),some (false,.lst (N.map D.str)),none]) (by
  generalize cs.map D.int=CC at *
  generalize N.map D.str=NN at *
  simp! [en])]
 rw [yh (σ':=[some (false,s),some (false,.int first),some (false,.int far),some (false,.lst (cs.map D.int)),none,some (false,.int m),some (false,.lst (N.map D.str)),some (true,.lst I0)]) (by
  generalize cs.map D.int=CC at *
  generalize N.map D.str=NN at *
  simp! [e1])]
 generalize cs.map D.int=CC at *
 generalize N.map D.str=NN at *
 simp! [rr,e3]
end L3
namespace L3
open PySem
noncomputable def XX:FS:=
 (zd (e2 zL (e2 zH (z8 0) (eC (.int 0))) (eC (.str "label"))))
noncomputable def pd:List D->Option (Bool×D):=FR 1 1 XX
theorem Lb (x0:D):pd [x0]=yi 1 XX [x0]:=rfl
theorem Zc {d:D} (h:wv d):pd [d]=some (false,.bl (uB d)):=by
 obtain ⟨w,a,b,_⟩:=QM h
 rw [Lb]
 unfold XX
 simp! [a,b]
end L3
namespace L3
open PySem
noncomputable def Z7:FS:=
 (zI (zX (vb (tE (tM .bool (z8 0))) (uJ (tE (tM .int (z8 0)))))
   (zd (eC (.bl false)))
   zk)
  (zd (ul (e2 (xU fun i j=>decide (i<=j)) (eC (.int 0)) (z8 0)) (e2 (xU fun i j=>decide (i<j)) (z8 0) (e2 WM (eC (.int 1)) (z8 1))))))
noncomputable def jy:List D->Option (Bool×D):=FR 2 2 Z7
theorem Q2 (x0 x1:D):jy [x0,x1]=yi 2 Z7 [x0,x1]:=rfl
noncomputable def UY:FE:=(e2 yy (z8 1) (eC (.str "abcdefghijklmnopqrstuvwxyz")))
noncomputable def Z6:FS:=
 (zI (zX (uJ (tE (tM .str (z8 0))))
   (zd (eC (.bl false)))
   zk)
  (zI (zX (vb (tE (e2 (xU fun i j=>decide (i<j)) (eL yF (z7 (z8 0) zD)) (eC (.int 1)))) (tE (e2 (xU fun i j=>decide (j<i)) (eL yF (z7 (z8 0) zD)) (eC (.int 8)))))
   (zd (eC (.bl false)))
   zk)
  (zd (eL tN (z7 (yx 1 (w8 (z8 0)) (zb 1) yn UY) zD)))))
noncomputable def jx:List D->Option (Bool×D):=FR 1 1 Z6
theorem Q1 (x0:D):jx [x0]=yi 1 Z6 [x0]:=rfl
noncomputable def p7:FS:=
 (zI (zX (tE (e2 zL (z8 1) (eC (.str "name"))))
   (zd (zR jx (z7 (z8 2) zD)))
   zk)
  (zI (zX (tE (e2 zL (z8 1) (eC (.str "mark"))))
   (zd (e2 WH (z8 2) (eC ZT)))
   zk)
  (zI (zT 3 (gR (tE (e2 zL (z8 1) (eC (.str "n")))) (e1 (vn ZO ZU) (z8 0)) (e2 zH (e1 (vn gZ gf) (z8 1)) (eC (.int 1)))))
  (zd (zR jy (z7 (z8 2) (z7 (z8 3) zD)))))))
noncomputable def pZ:List D->Option (Bool×D):=FR 3 4 p7
theorem gc (x0 x1 x2:D):pZ [x0,x1,x2]=yi 4 p7 [x0,x1,x2]:=rfl
noncomputable def kQ:FE:=(zR pZ (z7 (z8 1) (z7 (z8 3) (z7 (z8 4) zD))))
noncomputable def tK:FS:=
 (zI (zX (vb (uJ (tE (tM .tuple (z8 0)))) (tE (e2 zL (eL yF (z7 (z8 0) zD)) (eC (.int 0)))))
   (zd (eC (.bl false)))
   zk)
  (zI (zT 1 (e2 zH (z8 0) (eC (.int 0))))
  (zI (zX (vb (uJ (tE (tM .str (z8 1)))) (tE (e1 (uR xM) (z8 1))))
   (zd (eC (.bl false)))
   zk)
  (zI (zT 2 (e1 (vn xM tS) (z8 1)))
  (zI (zX (tE (e2 xP (eL yF (z7 (z8 0) zD)) (e2 zQ (eL yF (z7 (z8 2) zD)) (eC (.int 1)))))
   (zd (eC (.bl false)))
   zk)
  (zd (eL tN (z7 (yx 2 (tU (z8 2) (yE (z8 0) (zy (eC (.int 1))) yI)) (y_ 3 4) yn kQ) zD))))))))
noncomputable def wX:List D->Option (Bool×D):=FR 1 3 tK
theorem pB (x0:D):wX [x0]=yi 3 tK [x0]:=rfl
inductive Kd where
 | name | mark | num (m:Int)
noncomputable def vU (z:Str):Bool:=!(Builtin.Str.occurrences "abcdefghijklmnopqrstuvwxyz" z 0 ("abcdefghijklmnopqrstuvwxyz" : Str).length 1).isEmpty
theorem QC (z:Str):yy (.str z) (.str "abcdefghijklmnopqrstuvwxyz")=some (.bl (vU z)):=rfl
noncomputable def uq (t:Str):Bool:=!decide ((t.length:Int)<1)&&(!decide (8<(t.length:Int))&&(t.cps.toList.map fun c=>vU ⟨#[c]⟩).all id)
noncomputable def gv (t:Str):Bool:=("carry" : Str) == t||(("nought" : Str) == t||(("sign" : Str) == t||false))
noncomputable def yl:Kd->D->Bool
 | .name,.str t=>uq t
 | .mark,.str t=>gv t
 | .num m,.int i=>decide (0<=i)&&decide (i<m)
 | _,_=>false
noncomputable def x_:D->Bool
 | .dic _ _=>false
 | .exc _=>false
 | .obj _ _ _=>false
 | _=>true
theorem QY {σ:yD} {n:Nat} {e:FE} (he:∀ z:Str,∃ σ1,zb n (.str z) σ=some σ1/\e σ1=some (.bl (vU z))) (t:Str):xQ (zb n) yn e σ (t.cps.toList.map fun c=>.str ⟨#[c]⟩)=some ((t.cps.toList.map fun c=>vU ⟨#[c]⟩).map D.bl):=by
 have:=qb (g:=zb n) (e:=e) (σ:=σ) (fun d=>match d with | .str z=>.bl (vU z) | d=>d) (ds:=t.cps.toList.map fun c=>.str ⟨#[c]⟩) fun d hd=>by
  obtain ⟨c,_,rfl⟩:=List.mem_map.mp hd
  exact he _
 rw [this,List.map_map,List.map_map]
 rfl
theorem gI (bs:List Bool):tN [.lst (bs.map D.bl)]=some (.bl (bs.all id)):=by
 show (qO _).bind _=_
 rw [T8]
 rfl
theorem B4 {d:D} (h:x_ d=true):jx [d]=some (false,.bl (yl .name d)):=by
 cases d with
 | str t=>
  have lc:=QY (n:=1) (e:=UY) (σ:=[some (false,.str t),none]) (fun z=>⟨_,rfl,by have:=QC z; unfold UY; simp! [this]⟩) t
  have al:=gI (t.cps.toList.map fun c=>vU ⟨#[c]⟩)
  show _=some (false,D.bl (!decide ((t.length:Int)<1)&&(!decide (8<(t.length:Int))&&(t.cps.toList.map fun c=>vU ⟨#[c]⟩).all id)))
  rw [Q1]
  unfold Z6
  generalize (t.cps.toList.map fun c=>vU ⟨#[c]⟩)=BB at *
  cases h1:decide ((t.length:Int)<1) with
  | true=>simp! [h1,Bool.not_true,Bool.false_and]
  | false=>
   cases h2:decide (8<(t.length:Int)) with
   | true=>simp! [h1,h2,Bool.not_true,Bool.not_false,Bool.false_and,Bool.and_false]
   | false=>simp! [h1,h2,lc,al,Bool.not_false,Bool.true_and]
 | dic ks ds=>cases h
 | exc _=>cases h
 | obj _ _ _=>cases h
 | _=>rw [Q1]; unfold Z6; simp! []; rfl
theorem Mt {d:D} (h:x_ d=true):WH d ZT=some (.bl (yl .mark d)):=by
 cases d with
 | str t=>
  have e:∀ u:Str,yG (.str u) (.str t)=(u == t):=fun u=>by unfold yG; rfl
  show some (D.bl (yG (.str "carry") (.str t)||(yG (.str "nought") (.str t)||(yG (.str "sign") (.str t)||false))))=_
  rw [e,e,e]
  rfl
 | dic ks ds=>cases h
 | exc _=>cases h
 | obj _ _ _=>cases h
 | lst xs=>rfl
 | tup xs=>rfl
 | int i=>
  have e:∀ u:Str,yG (.str u) (.int i)=false:=fun u=>by unfold yG; rfl
  show some (D.bl (yG (.str "carry") (.int i)||(yG (.str "nought") (.int i)||(yG (.str "sign") (.int i)||false))))=_
  rw [e,e,e]
  rfl
 | bl b=>
  have e:∀ u:Str,yG (.str u) (.bl b)=false:=fun u=>by unfold yG; rfl
  show some (D.bl (yG (.str "carry") (.bl b)||(yG (.str "nought") (.bl b)||(yG (.str "sign") (.bl b)||false))))=_
  rw [e,e,e]
  rfl
 | non=>
  have e:∀ u:Str,yG (.str u) .non=false:=fun u=>by unfold yG; rfl
  show some (D.bl (yG (.str "carry") .non||(yG (.str "nought") .non||(yG (.str "sign") .non||false))))=_
  rw [e,e,e]
  rfl
theorem Qm {d:D} (h:x_ d=true) {W m:Int} (hp:jX 1 W=true) (hm:1*2 ^ W.toNat=m):jy [d,.int W]=some (false,.bl (yl (.num m) d)):=by
 cases d with
 | int i=>
  show _=some (false,D.bl (decide (0<=i)&&decide (i<m)))
  rw [Q2]
  unfold Z7
  cases h1:decide (0<=i)<;>simp! [h1,hp,hm,Bool.true_and,Bool.false_and]
 | dic ks ds=>cases h
 | exc _=>cases h
 | obj _ _ _=>cases h
 | _=>rw [Q2]; unfold Z7; simp! []; rfl
structure FK (w f:Str) (k:Kd) (s:D):Prop where
 ft:∀ d,x_ d=true->pZ [.str w,.str f,d]=some (false,.bl (yl k d))
 sh:(k=.name/\s=.str "name")\/(k=.mark/\s=.str "mark")\/∃ m:Int,k=.num m/\s=.int m
theorem tQ (w:Str):FK w "name" .name (.str "name"):=⟨fun d h=>by
 have e:zL (.str "name") (.str "name")=some (.bl true):=by rfl
 have n:=B4 h
 rw [gc]
 unfold p7
 simp! [e,n],.inl ⟨rfl,rfl⟩⟩
theorem WQ (w:Str):FK w "mark" .mark (.str "mark"):=⟨fun d h=>by
 have e:zL (.str "mark") (.str "name")=some (.bl false):=by rfl
 have e2:zL (.str "mark") (.str "mark")=some (.bl true):=by rfl
 have n:=Mt h
 rw [gc]
 unfold p7
 simp! [e,e2,n],.inr (.inl ⟨rfl,rfl⟩)⟩
theorem wS (w:Str) {f:Str} (hf:f = "d" \/ f = "s"):FK w f (.num 8) (.int 8):=⟨fun d h=>by
 have n:=Qm h (W:=3) (m:=8) (by decide) (by decide)
 rcases hf with rfl | rfl
 ·have e:zL (.str "d") (.str "name")=some (.bl false):=by rfl
  have e2:zL (.str "d") (.str "mark")=some (.bl false):=by rfl
  have e3:zL (.str "d") (.str "n")=some (.bl false):=by rfl
  have g:vn gZ gf (.str "d")=some (.tup [.int 24,.int 3]):=by rfl
  have i1:zH (.tup [.int 24,.int 3]) (.int 1)=some (.int 3):=rfl
  rw [gc]
  unfold p7
  simp! [e,e2,e3,g,i1,n]
 ·have e:zL (.str "s") (.str "name")=some (.bl false):=by rfl
  have e2:zL (.str "s") (.str "mark")=some (.bl false):=by rfl
  have e3:zL (.str "s") (.str "n")=some (.bl false):=by rfl
  have g:vn gZ gf (.str "s")=some (.tup [.int 21,.int 3]):=by rfl
  have i1:zH (.tup [.int 21,.int 3]) (.int 1)=some (.int 3):=rfl
  rw [gc]
  unfold p7
  simp! [e,e2,e3,g,i1,n],.inr (.inr ⟨8,rfl,rfl⟩)⟩
theorem tR {w:Str} {W m:Int} (hw:vn ZO ZU (.str w)=some (.int W)) (hp:jX 1 W=true) (hm:1*2 ^ W.toNat=m):FK w "n" (.num m) (.int m):=⟨fun d h=>by
 have n:=Qm h hp hm
 have e:zL (.str "n") (.str "name")=some (.bl false):=by rfl
 have e2:zL (.str "n") (.str "mark")=some (.bl false):=by rfl
 have e3:zL (.str "n") (.str "n")=some (.bl true):=by rfl
 rw [gc]
 unfold p7
 simp! [e,e2,e3,hw,n],.inr (.inr ⟨m,rfl,rfl⟩)⟩
end L3
namespace L3
open PySem
structure kZ (w:Str) (fs:List Str):Prop where
 ni:uR xM (.str w)=some (.bl false)
 gd:vn xM tS (.str w)=some (.tup (fs.map D.str))
noncomputable def xz:List Kd->List D->Bool
 | k::ks,d::ds=>yl k d&&xz ks ds
 | [],[]=>true
 | _,_=>false
inductive t7 (w:Str):List Str->List Kd->List D->Prop
 | nil:t7 w [] [] []
 | cons {f:Str} {k:Kd} {s:D} {fs:List Str} {ks:List Kd} {ss:List D}:FK w f k s->t7 w fs ks ss->t7 w (f::fs) (k::ks) (s::ss)
theorem Tv {w:Str}:∀ {fs:List Str} {ks:List Kd} {ss:List D},t7 w fs ks ss->fs.length=ks.length/\ss.length=ks.length
 | _,_,_,.nil=>⟨rfl,rfl⟩
 | _,_,_,.cons _ r=>by
  obtain ⟨a,b⟩:=Tv r
  exact ⟨by rw [List.length_cons,List.length_cons,a],by rw [List.length_cons,List.length_cons,b]⟩
theorem Iy {w:Str} {σ:yD} (he:∀ f d:D,∃ σ1,y_ 3 4 (.tup [f,d]) σ=some σ1/\kQ σ1=(pZ [.str w,f,d]).bind fun r=>some r.2):∀ {fs:List Str} {ks:List Kd} {ss ds:List D},t7 w fs ks ss->(∀ d∈ds,x_ d=true)->ds.length=ks.length->
  ∃ bs:List Bool,bs.all id=xz ks ds/\xQ (y_ 3 4) yn kQ σ (List.zipWith (fun x y=>D.tup [x,y]) (fs.map D.str) ds)=some (bs.map D.bl)
 | _,_,_,ds,.nil,_,hl=>by
  cases ds with
  | nil=>exact ⟨[],rfl,rfl⟩
  | cons _ _=>cases hl
 | f::fs,k::ks,s::ss,ds,.cons F r,hn,hl=>by
  cases ds with
  | nil=>cases hl
  | cons d ds=>
   obtain ⟨bs,hb,e⟩:=Iy he r (ds:=ds) (fun x hx=>hn x (List.mem_cons_of_mem _ hx)) (by simpa using hl)
   obtain ⟨σ1,e1,e2⟩:=he (.str f) d
   refine ⟨yl k d::bs,by rw [List.all_cons,hb]; rfl,?_⟩
   rw [List.map_cons,List.zipWith_cons_cons]
   show (y_ 3 4 (.tup [.str f,d]) σ).bind _=_
   rw [e1]
   show (kQ σ1).bind _=_
   rw [e2,F.ft d (hn d (List.mem_cons_self ..))]
   show (xQ _ _ _ _ _).bind _=_
   rw [e]
   rfl
theorem Zf {w:Str} {fs:List Str} {ks:List Kd} {ss ds:List D} (W:kZ w fs) (F:t7 w fs ks ss) (hn:∀ d∈ds,x_ d=true) (hk:ks.length<=5) (hd:ds.length<=400) :
  wX [.tup (.str w::ds)]=some (false,.bl (xz ks ds)):=by
 obtain ⟨l1,l2⟩:=Tv F
 obtain ⟨ni,gd⟩:=W
 have e0:zL (.int ((ds.length+1:Nat):Int)) (.int 0)=some (.bl false):=wD (by omega)
 have lf:(fs.map D.str).length=ks.length:=by rw [List.length_map,l1]
 have mis:ds.length≠ks.length->xz ks ds=false:=fun h=>by
  have g:∀ {ks:List Kd} {ds:List D},ds.length≠ks.length->xz ks ds=false:=fun {ks}=>by
   induction ks with
   | nil=>
    intro ds h
    cases ds with
    | nil=>exact absurd rfl h
    | cons _ _=>rfl
   | cons k ks ih=>
    intro ds h
    cases ds with
    | nil=>rfl
    | cons d ds=>
     show (yl k d&&xz ks ds)=false
     rw [ih (by simpa using h),Bool.and_false]
  exact g h
 by_cases hl:ds.length=ks.length
 ·have sl:xj (.tup (.str w::ds)) (some 1) none=some (.tup ds):=by
   show (if HT.sIx (ds.length+1) 0 (some 1)=0/\HT.sIx (ds.length+1) (ds.length+1) none=ds.length+1 then none else some (D.tup (xD (.str w::ds) (some 1) none)))=_
   rw [if_neg (fun z=>by
    have:=z.1
    rw [show (1:Int)=((1:Nat):Int) from rfl,HT.sIx_nat] at this
    omega)]
   unfold xD
   rw [show (1:Int)=((1:Nat):Int) from rfl,HT.sIx_nat]
   show some (D.tup ((List.drop (min 1 (ds.length+1)) (.str w::ds)).take (ds.length+1 - min 1 (ds.length+1))))=_
   rw [show min 1 (ds.length+1)=1 by omega,show ds.length+1 - 1=ds.length by omega]
   show some (D.tup (ds.take ds.length))=_
   rw [List.take_length]
  have q1:xP (.int ((ds.length+1:Nat):Int)) (.int ((ks.length:Int)+1))=some (.bl false):=by
   have:=uA (i:=((ds.length+1:Nat):Int)) (j:=(ks.length:Int)+1) (by omega)
   exact gx this
  obtain ⟨bs,hbs,ez⟩:=Iy (w:=w) (σ:=[some (false,.tup (.str w::ds)),some (false,.str w),some (false,.tup (fs.map D.str)),none,none]) (fun f d=>⟨_,rfl,by unfold kQ; simp! []⟩) F hn hl
  have al:=gI bs
  rw [hbs] at al
  rw [pB]
  unfold tK
  generalize bs.map D.bl=BB at *
  generalize hF:fs.map D.str=FF at *
  simp! [e0,qX,ni,gd,lf,add_int,q1,tU,yE,zy,yI,sl,tt,ez,al]
 ·have q1:xP (.int ((ds.length+1:Nat):Int)) (.int ((ks.length:Int)+1))=some (.bl true):=by
   have:=wD (i:=((ds.length+1:Nat):Int)) (j:=(ks.length:Int)+1) (by omega)
   exact gx this
  rw [mis hl,pB]
  unfold tK
  generalize hF:fs.map D.str=FF at *
  simp! [e0,qX,ni,gd,lf,add_int,q1]
theorem tZ {m:Int} {d:D} (h:yl (.num m) d=true):∃ n:Int,d=.int n/\0<=n/\n<m:=by
 cases d with
 | int n=>
  have h:(decide (0<=n)&&decide (n<m))=true:=h
  rw [Bool.and_eq_true] at h
  exact ⟨n,rfl,of_decide_eq_true h.1,of_decide_eq_true h.2⟩
 | _=>cases h
theorem Wu {d:D} (h:yl .name d=true):∃ t:Str,d=.str t:=by
 cases d with
 | str t=>exact ⟨t,rfl⟩
 | _=>cases h
theorem Mu {d:D} (h:yl .mark d=true):∃ t:Str,(t = "carry" \/ t = "nought" \/ t = "sign")/\d=.str t:=by
 cases d with
 | str t=>
  have h:(("carry" : Str) == t||(("nought" : Str) == t||(("sign" : Str) == t||false)))=true:=h
  rw [Bool.or_eq_true,Bool.or_eq_true,Bool.or_eq_true] at h
  refine ⟨t,?_,rfl⟩
  rcases h with h | h | h | h
  ·exact .inl (eq_of_beq h).symm
  ·exact .inr (.inl (eq_of_beq h).symm)
  ·exact .inr (.inr (eq_of_beq h).symm)
  ·cases h
 | _=>cases h
theorem qN {ds:List D} (h:xz [] ds=true):ds=[]:=by
 cases ds with
 | nil=>rfl
 | cons _ _=>cases h
theorem vg {k:Kd} {ks:List Kd} {ds:List D} (h:xz (k::ks) ds=true):∃ d r,ds=d::r/\yl k d=true/\xz ks r=true:=by
 cases ds with
 | nil=>cases h
 | cons d r=>
  have h:(yl k d&&xz ks r)=true:=h
  rw [Bool.and_eq_true] at h
  exact ⟨d,r,rfl,h.1,h.2⟩
theorem Mf {w:Str} (hw:xy w\/w = "label"):∃ fs ks ss,kZ w fs/\t7 w fs ks ss/\ks.length<=3/\∀ ds,xz ks ds=true->wv (.tup (.str w::ds)):=by
 rcases hw with hw | hw
 ·rcases hw with hw | hw | hw | hw | hw | hw | hw
  ·refine ⟨["d", "n"],[.num 8,.num 65536],[.int 8,.int 65536],?_,.cons (wS w (.inl rfl)) (.cons (tR (W:=16) ?_ (by decide) (by decide)) .nil),by simp,fun ds h=>?_⟩
   ·rcases hw with rfl | rfl<;>exact ⟨rfl,rfl⟩
   ·rcases hw with rfl | rfl<;>rfl
   ·obtain ⟨a,r,rfl,h1,h⟩:=vg h
    obtain ⟨b,r,rfl,h2,h⟩:=vg h
    cases qN h
    obtain ⟨x,rfl,x0,x1⟩:=tZ h1
    obtain ⟨y,rfl,y0,y1⟩:=tZ h2
    exact .plain (.imm hw x0 x1 y0 y1)
  ·refine ⟨["d", "n"],[.num 8,.num 32],[.int 8,.int 32],?_,.cons (wS w (.inl rfl)) (.cons (tR (W:=5) ?_ (by decide) (by decide)) .nil),by simp,fun ds h=>?_⟩
   ·rcases hw with rfl | rfl<;>exact ⟨rfl,rfl⟩
   ·rcases hw with rfl | rfl<;>rfl
   ·obtain ⟨a,r,rfl,h1,h⟩:=vg h
    obtain ⟨b,r,rfl,h2,h⟩:=vg h
    cases qN h
    obtain ⟨x,rfl,x0,x1⟩:=tZ h1
    obtain ⟨y,rfl,y0,y1⟩:=tZ h2
    exact .plain (.mov hw x0 x1 y0 y1)
  ·refine ⟨["d", "s", "n"],[.num 8,.num 8,.num 256],[.int 8,.int 8,.int 256],?_,.cons (wS w (.inl rfl)) (.cons (wS w (.inr rfl)) (.cons (tR (W:=8) ?_ (by decide) (by decide)) .nil)),by simp,fun ds h=>?_⟩
   ·rcases hw with rfl | rfl | rfl | rfl<;>exact ⟨rfl,rfl⟩
   ·rcases hw with rfl | rfl | rfl | rfl<;>rfl
   ·obtain ⟨a,r,rfl,h1,h⟩:=vg h
    obtain ⟨b,r,rfl,h2,h⟩:=vg h
    obtain ⟨c,r,rfl,h3,h⟩:=vg h
    cases qN h
    obtain ⟨x,rfl,x0,x1⟩:=tZ h1
    obtain ⟨y,rfl,y0,y1⟩:=tZ h2
    obtain ⟨z,rfl,z0,z1⟩:=tZ h3
    exact .plain (.mem hw x0 x1 y0 y1 z0 z1)
  ·refine ⟨["d", "s"],[.num 8,.num 8],[.int 8,.int 8],?_,.cons (wS w (.inl rfl)) (.cons (wS w (.inr rfl)) .nil),by simp,fun ds h=>?_⟩
   ·rcases hw with rfl | rfl | rfl | rfl | rfl | rfl | rfl | rfl | rfl<;>exact ⟨rfl,rfl⟩
   ·obtain ⟨a,r,rfl,h1,h⟩:=vg h
    obtain ⟨b,r,rfl,h2,h⟩:=vg h
    cases qN h
    obtain ⟨x,rfl,x0,x1⟩:=tZ h1
    obtain ⟨y,rfl,y0,y1⟩:=tZ h2
    exact .plain (.two hw x0 x1 y0 y1)
  ·subst hw
   refine ⟨["name"],[.name],[.str "name"],⟨rfl,rfl⟩,.cons (tQ _) .nil,by simp,fun ds h=>?_⟩
   obtain ⟨a,r,rfl,h1,h⟩:=vg h
   cases qN h
   obtain ⟨t,rfl⟩:=Wu h1
   exact .jump t
  ·refine ⟨["mark", "name"],[.mark,.name],[.str "mark",.str "name"],?_,.cons (WQ w) (.cons (tQ w) .nil),by simp,fun ds h=>?_⟩
   ·rcases hw with rfl | rfl<;>exact ⟨rfl,rfl⟩
   ·obtain ⟨a,r,rfl,h1,h⟩:=vg h
    obtain ⟨b,r,rfl,h2,h⟩:=vg h
    cases qN h
    obtain ⟨x,hx,rfl⟩:=Mu h1
    obtain ⟨t,rfl⟩:=Wu h2
    exact .cond t hw hx
  ·subst hw
   refine ⟨[],[],[],⟨rfl,rfl⟩,.nil,by simp,fun ds h=>?_⟩
   cases qN h
   exact .plain .stop
 ·subst hw
  refine ⟨["name"],[.name],[.str "name"],⟨rfl,rfl⟩,.cons (tQ _) .nil,by simp,fun ds h=>?_⟩
  obtain ⟨a,r,rfl,h1,h⟩:=vg h
  cases qN h
  obtain ⟨t,rfl⟩:=Wu h1
  exact .label t
theorem Ey {w:Str} (hw:¬ (xy w\/w = "label")) (ds:List D):wX [.tup (.str w::ds)]=some (false,.bl false):=by
 have e0:zL (.int ((ds.length+1:Nat):Int)) (.int 0)=some (.bl false):=wD (by omega)
 have hk:xI xM (.inr w)=false:=by
  cases h:xI xM (.inr w) with
  | false=>rfl
  | true=>
   exfalso
   obtain ⟨j,hj,e⟩:=List.any_eq_true.mp h
   obtain ⟨u,hu,rfl⟩:=List.mem_map.mp hj
   have e:=Sum.inr.inj (of_decide_eq_true e)
   subst e
   simp only [List.mem_cons,List.not_mem_nil,or_false] at hu
   rcases hu with rfl | rfl | rfl | rfl | rfl | rfl | rfl | rfl | rfl | rfl | rfl | rfl | rfl | rfl | rfl | rfl | rfl | rfl | rfl | rfl | rfl | rfl<;>exact hw (by unfold xy; simp)
 have ni:uR xM (.str w)=some (.bl true):=by
  show some (D.bl (!xI xM (.inr w)))=_
  rw [hk]
  rfl
 rw [pB]
 unfold tK
 simp! [e0,qX,ni]
structure OB (d:D):Prop where
 nd:x_ d=true
 el:∀ xs,d=.tup xs->(∀ x∈xs,x_ x=true)/\xs.length<=400
theorem Eg {d:D} (T:OB d):wX [d]=some (false,.bl false)\/(wX [d]=some (false,.bl true)/\wv d):=by
 cases d with
 | tup xs=>
  obtain ⟨hn,hl⟩:=T.el xs rfl
  cases xs with
  | nil=>
   left
   rw [pB]; unfold tK; simp! []; rfl
  | cons x ds=>
   have e0:zL (.int ((ds.length+1:Nat):Int)) (.int 0)=some (.bl false):=wD (by omega)
   have hx:=hn x (List.mem_cons_self ..)
   have hds:∀ d∈ds,x_ d=true:=fun d hd=>hn d (List.mem_cons_of_mem _ hd)
   rw [List.length_cons] at hl
   cases x with
   | str w=>
    by_cases hw:xy w\/w = "label"
    ·obtain ⟨fs,ks,ss,W,F,hk,hi⟩:=Mf hw
     have k:=Zf W F hds (by omega) (by omega)
     cases c:xz ks ds with
     | true=>rw [c] at k; exact .inr ⟨k,hi ds c⟩
     | false=>rw [c] at k; exact .inl k
    ·exact .inl (Ey hw ds)
   | dic ks vs=>cases hx
   | exc _=>cases hx
   | obj _ _ _=>cases hx
   | _=>
    left
    rw [pB]; unfold tK; simp! [e0,qX]
 | dic ks ds=>cases T.nd
 | exc _=>cases T.nd
 | obj _ _ _=>cases T.nd
 | _=>
  left
  rw [pB]; unfold tK; simp! []
end L3
namespace L3
open PySem
theorem Mq {c:Nat} (h0:97<=c) (h1:c<=122):vU ⟨#[c]⟩=true:=by
 have h:∀ j:Fin 26,vU ⟨#[97+j.val]⟩=true:=by decide +kernel
 have:=h ⟨c - 97,by omega⟩
 rw [show 97+(⟨c - 97,by omega⟩:Fin 26).val=c by show 97+(c - 97)=c; omega] at this
 exact this
theorem Wv {t:Str} (h:uC t=true):uq t=true:=by
 obtain ⟨l1,l2,l3⟩:=gw h
 unfold uq
 rw [decide_eq_false (by omega),decide_eq_false (by omega)]
 show (t.cps.toList.map fun c=>vU ⟨#[c]⟩).all id=true
 refine List.all_eq_true.mpr fun b hb=>?_
 obtain ⟨c,hc,rfl⟩:=List.mem_map.mp hb
 have:=List.all_eq_true.mp l3 c hc
 rw [Bool.and_eq_true] at this
 exact Mq (of_decide_eq_true this.1) (of_decide_eq_true this.2)
theorem tY {m n:Int} (h0:0<=n) (h1:n<m):yl (.num m) (.int n)=true:=by
 show (decide (0<=n)&&decide (n<m))=true
 rw [decide_eq_true h0,decide_eq_true h1]
 rfl
theorem Mr {N:List Str} (hN:qI N) {d:D} (h:t9 N d):wX [d]=some (false,.bl true):=by
 have go:∀ {w:Str} {fs:List Str} {ks:List Kd} {ss ds:List D},kZ w fs->t7 w fs ks ss->ks.length<=5->(∀ d∈ds,x_ d=true)->ds.length<=400->xz ks ds=true->wX [.tup (.str w::ds)]=some (false,.bl true):=fun W F a b c e=>by
  have:=Zf W F b a c
  rw [e] at this
  exact this
 have a1:∀ {k:Kd} {x:D},yl k x=true->xz [k] [x]=true:=fun {k x} h=>by
  show (yl k x&&true)=true
  rw [h]; rfl
 have a2:∀ {k l:Kd} {x y:D},yl k x=true->yl l y=true->xz [k,l] [x,y]=true:=fun {k l x y} h1 h2=>by
  show (yl k x&&(yl l y&&true))=true
  rw [h1,h2]; rfl
 have a3:∀ {k l m:Kd} {x y z:D},yl k x=true->yl l y=true->yl m z=true->xz [k,l,m] [x,y,z]=true:=fun {k l m x y z} h1 h2 h3=>by
  show (yl k x&&(yl l y&&(yl m z&&true)))=true
  rw [h1,h2,h3]; rfl
 have n1:∀ {x:D},x_ x=true->∀ d∈[x],x_ d=true:=fun h d hd=>by rw [List.mem_singleton.mp hd]; exact h
 have n2:∀ {x y:D},x_ x=true->x_ y=true->∀ d∈[x,y],x_ d=true:=fun h1 h2 d hd=>by
  rcases List.mem_cons.mp hd with rfl | hd
  ·exact h1
  ·exact n1 h2 d hd
 have n3:∀ {x y z:D},x_ x=true->x_ y=true->x_ z=true->∀ d∈[x,y,z],x_ d=true:=fun h1 h2 h3 d hd=>by
  rcases List.mem_cons.mp hd with rfl | hd
  ·exact h1
  ·exact n2 h2 h3 d hd
 rcases h with h | ⟨t,ht,rfl⟩
 ·cases h with
  | plain h=>
   cases h with
   | stop=>exact go (ks:=[]) (ss:=[]) ⟨rfl,rfl⟩ .nil (by simp) (fun _ h=>by cases h) (by simp) rfl
   | imm hw d0 d1 z0 z1=>
    rename_i w x n
    exact go (fs:=["d", "n"]) (ks:=[.num 8,.num 65536]) (ss:=[.int 8,.int 65536]) (by rcases hw with rfl | rfl<;>exact ⟨rfl,rfl⟩) (.cons (wS w (.inl rfl)) (.cons (tR (W:=16) (by rcases hw with rfl | rfl<;>rfl) (by decide) (by decide)) .nil)) (by simp) (n2 rfl rfl) (by simp) (a2 (tY d0 d1) (tY z0 z1))
   | mov hw d0 d1 z0 z1=>
    rename_i w x n
    exact go (fs:=["d", "n"]) (ks:=[.num 8,.num 32]) (ss:=[.int 8,.int 32]) (by rcases hw with rfl | rfl<;>exact ⟨rfl,rfl⟩) (.cons (wS w (.inl rfl)) (.cons (tR (W:=5) (by rcases hw with rfl | rfl<;>rfl) (by decide) (by decide)) .nil)) (by simp) (n2 rfl rfl) (by simp) (a2 (tY d0 d1) (tY z0 z1))
   | two hw d0 d1 z0 z1=>
    rename_i w x n
    exact go (fs:=["d", "s"]) (ks:=[.num 8,.num 8]) (ss:=[.int 8,.int 8]) (by rcases hw with rfl | rfl | rfl | rfl | rfl | rfl | rfl | rfl | rfl<;>exact ⟨rfl,rfl⟩) (.cons (wS w (.inl rfl)) (.cons (wS w (.inr rfl)) .nil)) (by simp) (n2 rfl rfl) (by simp) (a2 (tY d0 d1) (tY z0 z1))
   | mem hw d0 d1 z0 z1 y0 y1=>
    rename_i w x n m
    exact go (fs:=["d", "s", "n"]) (ks:=[.num 8,.num 8,.num 256]) (ss:=[.int 8,.int 8,.int 256]) (by rcases hw with rfl | rfl | rfl | rfl<;>exact ⟨rfl,rfl⟩) (.cons (wS w (.inl rfl)) (.cons (wS w (.inr rfl)) (.cons (tR (W:=8) (by rcases hw with rfl | rfl | rfl | rfl<;>rfl) (by decide) (by decide)) .nil))) (by simp) (n3 rfl rfl rfl) (by simp) (a3 (tY d0 d1) (tY z0 z1) (tY y0 y1))
  | jump ht=>exact go (fs:=["name"]) (ks:=[.name]) (ss:=[.str "name"]) ⟨rfl,rfl⟩ (.cons (tQ _) .nil) (by simp) (n1 rfl) (by simp) (a1 (Wv (hN.ok _ ht)))
  | cond hw hk ht=>
   rename_i w k0 t
   exact go (fs:=["mark", "name"]) (ks:=[.mark,.name]) (ss:=[.str "mark",.str "name"]) (by rcases hw with rfl | rfl<;>exact ⟨rfl,rfl⟩) (.cons (WQ w) (.cons (tQ w) .nil)) (by simp) (n2 rfl rfl) (by simp) (a2 (by rcases hk with rfl | rfl | rfl<;>rfl) (Wv (hN.ok _ ht)))
 ·exact go (fs:=["name"]) (ks:=[.name]) (ss:=[.str "name"]) ⟨rfl,rfl⟩ (.cons (tQ _) .nil) (by simp) (n1 rfl) (by simp) (a1 (Wv (hN.ok _ ht)))
end L3
namespace L3
open PySem
noncomputable def wo (c:Nat):List Nat->List (List Nat)
 | []=>[[]]
 | a::l=>if a=c then []::wo c l else match wo c l with
  | p::r=>(a::p)::r
  | []=>[[a]]
theorem qj (c a:Nat) (l:List Nat):wo c (a::l)=if a=c then []::wo c l else match wo c l with
  | p::r=>(a::p)::r
  | []=>[[a]]:=rfl
noncomputable def jn (c:Nat):List (List Nat)->List Nat
 | []=>[]
 | [p]=>p
 | p::q::r=>p++c::jn c (q::r)
theorem YG (c:Nat):∀ l,∃ p r,wo c l=p::r
 | []=>⟨_,_,rfl⟩
 | a::l=>by
  obtain ⟨p,r,e⟩:=YG c l
  rw [qj,e]
  split
  ·exact ⟨_,_,rfl⟩
  ·exact ⟨_,_,rfl⟩
theorem kJ {c:Nat}:∀ {p:List Nat},c ∉ p->wo c p=[p]
 | [],_=>rfl
 | a::p,h=>by
  have ne:¬ a=c:=fun e=>h (by rw [e]; exact List.mem_cons_self)
  rw [qj,if_neg ne,kJ (fun z=>h (List.mem_cons_of_mem _ z))]
theorem UG (c:Nat):∀ (p l:List Nat),wo c (p++c::l)=wo c p++wo c l
 | [],l=>by
  rw [List.nil_append,qj,if_pos rfl]
  rfl
 | a::p,l=>by
  rw [List.cons_append,qj,qj,UG c p l]
  obtain ⟨q,r,e⟩:=YG c p
  rw [e]
  split
  ·rfl
  ·rfl
theorem UH {c:Nat}:∀ {ps:List (List Nat)},ps≠[]->(∀ p∈ps,c ∉ p)->wo c (jn c ps)=ps
 | [],h,_=>absurd rfl h
 | [p],_,h=>kJ (h p List.mem_cons_self)
 | p::q::r,_,h=>by
  show wo c (p++c::jn c (q::r))=_
  rw [UG,kJ (h p List.mem_cons_self),UH (ps:=q::r) (by simp) fun z hz=>h z (List.mem_cons_of_mem _ hz)]
  rfl
theorem QQ (c d:Nat):∀ l,jn d (wo c l)=l.map fun a=>if a=c then d else a
 | []=>rfl
 | a::l=>by
  have ih:=QQ c d l
  obtain ⟨p,r,e⟩:=YG c l
  rw [qj]
  rw [e] at ih ⊢
  by_cases h:a=c
  ·rw [if_pos h,List.map_cons,if_pos h,<- ih]
   rfl
  ·rw [if_neg h,List.map_cons,if_neg h,<- ih]
   cases r<;>rfl
theorem vh (a b:Str):(a++b).cps.toList=a.cps.toList++b.cps.toList:=Array.toList_append
theorem Zd (c:Nat):∀ ts:List Str,(Str.join ⟨#[c]⟩ ts).cps.toList=jn c (ts.map fun t=>t.cps.toList)
 | []=>rfl
 | [x]=>rfl
 | x::y::r=>by
  show (x++⟨#[c]⟩++Str.join ⟨#[c]⟩ (y::r)).cps.toList=_
  rw [vh,vh,Zd c (y::r),List.append_assoc]
  rfl
theorem kK (x:Str) (c:Nat):(Txt.split x ⟨#[c]⟩).map (fun t=>t.cps.toList)=wo c x.cps.toList:=by
 have h1:=congrArg (fun z:Str=>z.cps.toList) (StrLaws.join_split x ⟨#[c]⟩)
 have h1:jn c ((Txt.split x ⟨#[c]⟩).map fun t=>t.cps.toList)=x.cps.toList:=(Zd c _).symm.trans h1
 rw [<- h1,UH]
 ·intro z
  have:=congrArg List.length z
  rw [List.length_map] at this
  have p:=PyProof.Rows.split_pos x ⟨#[c]⟩
  rw [this] at p
  exact absurd p (by decide)
 ·intro p hp
  obtain ⟨t,ht,rfl⟩:=List.mem_map.mp hp
  exact StrLaws.split_free x c t ht
theorem Jc (x:Str) (c d:Nat):(Txt.replace x ⟨#[c]⟩ ⟨#[d]⟩).cps.toList=x.cps.toList.map fun a=>if a=c then d else a:=by
 rw [StrLaws.replace_one,Zd,kK,QQ]
theorem IX {c:Nat}:∀ {l:List Nat},c ∉ l->l.takeWhile (· != c)=l
 | [],_=>rfl
 | a::l,h=>by
  rw [List.takeWhile_cons_of_pos (by simp; exact fun e=>h (e ▸ List.mem_cons_self)),IX (fun z=>h (List.mem_cons_of_mem _ z))]
theorem Qy (x:Str) (c:Nat):(Txt.partition x ⟨#[c]⟩).1.cps.toList=x.cps.toList.takeWhile (· != c):=by
 have sum:=congrArg (fun z:Str=>z.cps.toList) (StrLaws.partition_sum x ⟨#[c]⟩)
 have sum:((Txt.partition x ⟨#[c]⟩).1++(Txt.partition x ⟨#[c]⟩).2.1++(Txt.partition x ⟨#[c]⟩).2.2).cps.toList=x.cps.toList:=sum
 cases h:(Builtin.Str.occurrences x ⟨#[c]⟩ 0 x.length 1).isEmpty with
 | true=>
  have e:=PyProof.Rows.empty_one x c
  rw [h] at e
  have nf:c ∉ x.cps.toList:=fun z=>by
   rw [decide_eq_true z] at e
   cases e
  rw [IX nf]
  unfold Txt.partition
  rw [List.isEmpty_iff.mp h]
 | false=>
  have q:=PyProof.Rows.from_first_some (x:=x) (y:=⟨#[c]⟩) (z:=⟨#[c]⟩) (c:=c) rfl rfl h
  have q:=congrArg (fun z:Str=>z.cps.toList) (eq_of_beq q)
  have q:((⟨#[c]⟩:Str)++(Txt.partition x ⟨#[c]⟩).2.2).cps.toList=x.cps.toList.dropWhile (· != c):=by
   rw [show ((⟨#[c]⟩:Str)++(Txt.partition x ⟨#[c]⟩).2.2).cps.toList=(⟨(x.cps.toList.dropWhile (· != c)).toArray⟩:Str).cps.toList from q]
  have y2:(Txt.partition x ⟨#[c]⟩).2.1=⟨#[c]⟩:=by
   unfold Txt.partition
   cases ho:Builtin.Str.occurrences x ⟨#[c]⟩ 0 x.length 1 with
   | nil=>rw [ho] at h; cases h
   | cons i r=>rfl
  rw [y2,vh,vh,List.append_assoc] at sum
  rw [vh] at q
  rw [q] at sum
  have t:=List.takeWhile_append_dropWhile (p:=(· != c)) (l:=x.cps.toList)
  exact List.append_cancel_right (sum.trans t.symm)
noncomputable def tb (a:Nat):Nat:=if a=9 then 32 else a
noncomputable def W (l:List Nat):List (List Nat):=(wo 32 ((l.takeWhile (· != 59)).map tb)).filter fun p=>!p.isEmpty
noncomputable def Bl (b:Nat):Prop:=b=32\/b=9
structure Wd (w:List Nat):Prop where
 ne:w≠[]
 ok:∀ a∈w,a≠32/\a≠9/\a≠59/\a≠10
theorem Up {b:Nat} (h:Bl b) (l:List Nat):W (b::l)=W l:=by
 unfold W
 rw [List.takeWhile_cons_of_pos (by rcases h with rfl | rfl<;>decide),List.map_cons,show tb b=32 by rcases h with rfl | rfl<;>rfl,qj,if_pos rfl,List.filter_cons_of_neg (by decide)]
theorem Ip {w:List Nat} (h:Wd w):w.map tb=w/\32 ∉ w/\(∀ a∈w,(a != 59)=true):=by
 refine ⟨?_,fun z=>(h.ok 32 z).1 rfl,fun a ha=>by simpa using (h.ok a ha).2.2.1⟩
 have:w.map tb=w.map id:=List.map_congr_left fun a ha=>if_neg (h.ok a ha).2.1
 rw [this,List.map_id]
theorem Us {w:List Nat} (h:Wd w) {b:Nat} (hb:Bl b) (l:List Nat):W (w++b::l)=w::W l:=by
 obtain ⟨e1,e2,e3⟩:=Ip h
 unfold W
 rw [List.takeWhile_append_of_pos e3,List.takeWhile_cons_of_pos (by rcases hb with rfl | rfl<;>decide),List.map_append,e1,List.map_cons,show tb b=32 by rcases hb with rfl | rfl<;>rfl,UG,kJ e2,List.singleton_append,List.filter_cons_of_pos (by
  cases w with
  | nil=>exact absurd rfl h.ne
  | cons _ _=>rfl)]
theorem Ur {w:List Nat} (h:Wd w) {l:List Nat} (hl:l=[]\/∃ r,l=59::r):W (w++l)=[w]:=by
 obtain ⟨e1,e2,e3⟩:=Ip h
 have:(w++l).takeWhile (· != 59)=w:=by
  rw [List.takeWhile_append_of_pos e3]
  rcases hl with rfl | ⟨r,rfl⟩
  ·exact List.append_nil _
  ·rw [List.takeWhile_cons_of_neg (by decide),List.append_nil]
 unfold W
 rw [this,e1,kJ e2,List.filter_cons_of_pos (by
  cases w with
  | nil=>exact absurd rfl h.ne
  | cons _ _=>rfl)]
 rfl
theorem Uq {g:List Nat} (h:∀ b∈g,Bl b) (l:List Nat):W (g++l)=W l:=by
 induction g with
 | nil=>rfl
 | cons b g ih=>
  rw [List.cons_append,Up (h b List.mem_cons_self),ih fun x hx=>h x (List.mem_cons_of_mem _ hx)]
noncomputable def loose:List (List Nat)->List (List Nat)->List Nat
 | w::ws,g::gs=>w++g++loose ws gs
 | _,_=>[]
noncomputable def gC (g:List Nat):Prop:=g≠[]/\∀ b∈g,Bl b
theorem XT:∀ {ws gs:List (List Nat)},ws.length=gs.length->(∀ w∈ws,Wd w)->(∀ g∈gs,gC g)->∀ yC,W (loose ws gs++yC)=ws++W yC
 | [],[],_,_,_,yC=>rfl
 | w::ws,g::gs,hl,hw,hg,yC=>by
  obtain ⟨gn,gb⟩:=hg g List.mem_cons_self
  cases g with
  | nil=>exact absurd rfl gn
  | cons b g=>
   show W (w++(b::g)++loose ws gs++yC)=_
   rw [List.append_assoc,List.append_assoc,List.cons_append,Us (hw w List.mem_cons_self) (gb b List.mem_cons_self),Uq (fun x hx=>gb x (List.mem_cons_of_mem _ hx)),XT (by simpa using hl) (fun x hx=>hw x (List.mem_cons_of_mem _ hx)) (fun x hx=>hg x (List.mem_cons_of_mem _ hx)) yC]
   rfl
end L3
namespace L3
open PySem
noncomputable def vm (m:Nat):List Nat:=(Nat.toDigits 10 m).map Char.toNat
theorem Ou:∀ d:Nat,d<10->(Nat.digitChar d).toNat=48+d:=by decide
theorem gP {m:Nat} (h:m<10):vm m=[48+m]:=by
 unfold vm
 rw [Nat.toDigits_of_lt_base h,List.map_cons,List.map_nil,Ou m h]
theorem W5 {m:Nat} (h:10<=m):vm m=vm (m / 10)++[48+m % 10]:=by
 have hm:m % 10<10:=Nat.mod_lt m (by decide)
 have t:Nat.toDigits 10 (m / 10)++Nat.toDigits 10 (m % 10)=Nat.toDigits 10 (10*(m / 10)+m % 10):=Nat.toDigits_append_toDigits (by decide) (by omega) hm
 rw [Nat.div_add_mod] at t
 have e:vm (m % 10)=[48+m % 10]:=gP hm
 unfold vm at e ⊢
 rw [<- t,List.map_append,e]
theorem Ov:∀ m:Nat,vm m≠[]/\(∀ c∈vm m,48<=c/\c<=57)/\(m≠0->(vm m).head?≠some 48):=fun m=>by
 induction m using Nat.strongRecOn with
 | _ m ih=>
  by_cases h:m<10
  ·rw [gP h]
   refine ⟨by simp,fun c hc=>?_,fun h0 z=>?_⟩
   ·rw [List.mem_singleton.mp hc]
    omega
   ·have:48+m=48:=Option.some.inj z
    omega
  ·obtain ⟨a,b,c⟩:=ih (m / 10) (by omega)
   rw [W5 (by omega)]
   refine ⟨by simp,fun x hx=>?_,fun _=>?_⟩
   ·rcases List.mem_append.mp hx with hx | hx
    ·exact b x hx
    ·rw [List.mem_singleton.mp hx]
     omega
   ·cases e:vm (m / 10) with
    | nil=>exact absurd e a
    | cons y r=>
     have:=c (by omega)
     rw [e] at this
     exact this
theorem W6:∀ (k m:Nat),m<10 ^ (k+1)->(vm m).length<=k+1
 | 0,m,h=>by rw [gP (by simpa using h)]; exact Nat.le_refl _
 | k+1,m,h=>by
  by_cases c:m<10
  ·rw [gP c]
   show 1<=_
   omega
  ·rw [W5 (by omega),List.length_append]
   have:=W6 k (m / 10) (by rw [Nat.div_lt_iff_lt_mul (by decide)]; rw [Nat.pow_succ] at h; exact h)
   simp only [List.length_cons,List.length_nil]
   omega
noncomputable def yd (n:Int):Str:=Str.ofString (toString n)
theorem X_ {n:Int} (h:0<=n):(yd n).cps.toList=vm n.toNat:=by
 have:=PySem.W.KIN.signs_num n.toNat
 rw [show ((n.toNat:Nat):Int)=n by omega] at this
 exact this
theorem YJ (z:Str) (c:Nat):Txt.startswith z ⟨#[c]⟩=decide (z.cps.toList.head?=some c):=by
 have s:=StrLaws.subAt_one z c 0
 rw [List.head?_eq_getElem?]
 refine Bool.eq_iff_iff.mpr ?_
 rw [decide_eq_true_iff,<- s]
 show (decide (0+(⟨#[c]⟩:Str).length<=z.length)&&Builtin.Str.subAt z ⟨#[c]⟩ 0)=true↔_
 rw [Bool.and_eq_true,decide_eq_true_iff]
theorem WB (z:Str) (c:Nat) (h:1<=z.length):Txt.endswith z ⟨#[c]⟩=decide (z.cps.toList[z.length - 1]?=some c):=by
 have s:=StrLaws.subAt_one z c (z.length - 1)
 refine Bool.eq_iff_iff.mpr ?_
 rw [decide_eq_true_iff,<- s]
 show (decide (0+(⟨#[c]⟩:Str).length<=z.length)&&Builtin.Str.subAt z ⟨#[c]⟩ (z.length - 1))=true↔_
 rw [Bool.and_eq_true,decide_eq_true_iff]
 have e:(⟨#[c]⟩:Str).length=1:=rfl
 rw [e]
 exact ⟨fun q=>⟨by omega,q.2⟩,fun q=>⟨by omega,q.2⟩⟩
end L3
namespace L3
open PySem
noncomputable def kT:FE:=(e2 yy (z8 1) (eC (.str "0123456789")))
noncomputable def ZA:FS:=
 (zI (zX (vb (tE (e2 zL (z8 0) (eC (.str "")))) (tE (e2 (xU fun i j=>decide (j<i)) (eL yF (z7 (z8 0) zD)) (eC (.int 5)))))
   (zd (eC .non))
   zk)
  (zI (zX (uJ (tE (eL tN (z7 (yx 1 (w8 (z8 0)) (zb 1) yn kT) zD))))
   (zd (eC .non))
   zk)
  (zI (zX (xT (tE (e2 pA (z8 0) (eC (.str "0")))) (tE (e2 xP (z8 0) (eC (.str "0")))))
   (zd (eC .non))
   zk)
  (zd (eL qT (z7 (z8 0) zD))))))
noncomputable def qx:List D->Option (Bool×D):=FR 1 1 ZA
theorem Q4 (x0:D):qx [x0]=yi 1 ZA [x0]:=rfl
noncomputable def j8:FS:=
 (zI (zX (tE (e2 zL (z8 0) (eC (.str "n"))))
   (zd (zR qx (z7 (z8 1) zD)))
   zk)
  (zI (zX (vb (tE (e2 zL (z8 0) (eC (.str "d")))) (tE (e2 zL (z8 0) (eC (.str "s")))))
   (zd (gR (tE (e2 pA (z8 1) (eC (.str "r")))) (zR qx (z7 (yE (z8 1) (zy (eC (.int 1))) yI) zD)) (eC .non)))
   zk)
  (zd (z8 1))))
noncomputable def pY:List D->Option (Bool×D):=FR 2 2 j8
theorem ZP (x0 x1:D):pY [x0,x1]=yi 2 j8 [x0,x1]:=rfl
noncomputable def tu:FE:=(zR pY (z7 (z8 3) (z7 (z8 4) zD)))
noncomputable def tL:FS:=
 (zI (zT 1 (e2 zH (z8 0) (eC (.int 0))))
  (zI (zX (vb (tE (e2 zL (z8 1) (eC (.str "label")))) (tE (e1 (uR xM) (z8 1))))
   (zd (eC .non))
   zk)
  (zI (zT 2 (e1 (vn xM tS) (z8 1)))
  (zI (zX (tE (e2 xP (eL yF (z7 (z8 0) zD)) (e2 zQ (eL yF (z7 (z8 2) zD)) (eC (.int 1)))))
   (zd (eC .non))
   zk)
  (zd (eL uS (z7 (e2 zQ (zu (z7 (z8 1) zD)) (yx 2 (tU (z8 2) (yE (z8 0) (zy (eC (.int 1))) yI)) (y_ 3 4) yn tu)) zD)))))))
noncomputable def vd:List D->Option (Bool×D):=FR 1 3 tL
theorem pC (x0:D):vd [x0]=yi 3 tL [x0]:=rfl
noncomputable def uj:FS:=
 (zI (zT 1 (zR vd (z7 (z8 0) zD)))
  (zI (zX (xT (tE (e2 zL (eL yF (z7 (z8 0) zD)) (eC (.int 1)))) (tE (e2 jC (e2 zH (z8 0) (eC (.int 0))) (eC (.str ":")))))
   (zT 1 (qR (z7 (eC (.str "label")) (z7 (yE (e2 zH (z8 0) (eC (.int 0))) yI (zy (e1 xV (eC (.int 1))))) zD))))
   zk)
  (zd (gR (tE (zR wX (z7 (z8 1) zD))) (z8 1) (eC .non)))))
noncomputable def vF:List D->Option (Bool×D):=FR 1 2 uj
theorem qW (x0:D):vF [x0]=yi 2 uj [x0]:=rfl
noncomputable def kC:FA:=(xm (eC (.int 0)) (eL yF (z7 (z8 1) zD)))
noncomputable def gr:FS:=(wT 2 xg (e2 zH (zu (z7 (eL jF (z7 (e2 zH (z8 0) (e2 zQ (z8 3) (eC (.int 1)))) zD)) (z7 (e2 zQ (eC (.str "r")) (eL jF (z7 (e2 zH (z8 0) (e2 zQ (z8 3) (eC (.int 1)))) zD))) zD))) (eL WJ (z7 (e2 zL (e2 zH (z8 1) (z8 3)) (eC (.int 8))) zD))))
noncomputable def p8:FS:=
 (zI (zX (tE (e2 zL (e2 zH (z8 0) (eC (.int 0))) (eC (.str "label"))))
   (zd (e2 zQ (e2 zH (z8 0) (eC (.int 1))) (eC (.str ":"))))
   zk)
  (zI (zT 1 (zR wB (z7 (e2 zH (z8 0) (eC (.int 0))) zD)))
  (zI (vP 2 (zu (z7 (e2 zH (z8 0) (eC (.int 0))) zD)))
  (zI (vO kC (zb 3)
   gr)
  (zI (ua 2) (zd (e2 u8 (eC (.str " ")) (z8 2))))))))
noncomputable def ue:List D->Option (Bool×D):=FR 1 4 p8
theorem ge (x0:D):ue [x0]=yi 4 p8 [x0]:=rfl
theorem Ox {c:Nat} (h:48<=c/\c<=57):yy (.str ⟨#[c]⟩) (.str "0123456789")=some (.bl true):=by
 show some (D.bl (!(Builtin.Str.occurrences ("0123456789" : Str) ⟨#[c]⟩ 0 ("0123456789" : Str).length 1).isEmpty))=_
 have e:("0123456789" : Str).cps.toList=[48,49,50,51,52,53,54,55,56,57]:=by rfl
 rw [StrLaws.found_one,e,decide_eq_true (show c∈[48,49,50,51,52,53,54,55,56,57] by simp only [List.mem_cons,List.not_mem_nil,or_false]; omega)]
theorem xn (z:Str):z.cps.toList.length=z.length:=Array.length_toList
theorem B7 {z:Str} (h:z.cps.toList≠[]):zL (.str z) (.str "")=some (.bl false):=by
 obtain ⟨⟨l⟩⟩:=z
 cases l with
 | nil=>exact absurd rfl h
 | cons a r=>rfl
theorem GB {z:Str} (h:z.cps.toList=[48]):z = "0" := by
 obtain ⟨⟨l⟩⟩:=z
 cases (show l=[48] from h)
 rfl
theorem Qn {n:Int} (h0:0<=n) (h1:n<100000):qx [.str (yd n)]=some (false,.int n)/\(yd n).length<=5/\Wd (yd n).cps.toList:=by
 have ec:=X_ h0
 obtain ⟨d1,d2,d3⟩:=Ov n.toNat
 have dl:=W6 4 n.toNat (by show _<100000; omega)
 rw [<- ec] at d1 d2 d3 dl
 rw [xn] at dl
 have ne:=B7 d1
 have le:decide ((5:Int)<((yd n).length:Int))=false:=decide_eq_false (by omega)
 have lc:xQ (zb 1) yn kT [some (false,.str (yd n)),none] ((yd n).cps.toList.map fun c=>D.str ⟨#[c]⟩)=some (((yd n).cps.toList.map fun c=>D.str ⟨#[c]⟩).map fun _=>D.bl true):=qb (fun _=>.bl true) fun d hd=>by
  obtain ⟨c,hc,rfl⟩:=List.mem_map.mp hd
  have:=Ox (d2 c hc)
  refine ⟨_,rfl,?_⟩
  unfold kT
  simp! [this]
 have al:tN [.lst (((yd n).cps.toList.map fun c=>D.str ⟨#[c]⟩).map fun _=>D.bl true)]=some (.bl true):=by
  have:=gI (((yd n).cps.toList.map fun c=>D.str ⟨#[c]⟩).map fun _=>true)
  rw [List.map_map] at this
  have e:(((yd n).cps.toList.map fun c=>D.str ⟨#[c]⟩).map fun _=>true).all id=true:=List.all_eq_true.mpr fun x hx=>by
   obtain ⟨_,_,rfl⟩:=List.mem_map.mp hx
   rfl
  rw [e] at this
  exact this
 have it:qT [.str (yd n)]=some (.int n):=by
  show (if (yd n).length<=640 then (PySem.intText? (yd n)).bind _ else none)=_
  rw [if_pos (by omega),show PySem.intText? (yd n)=some n from PySem.W.KIN.num_reads h0 (by omega)]
  rfl
 refine ⟨?_,dl,⟨d1,fun a ha=>by have:=d2 a ha; omega⟩⟩
 have ln:yF [.str (yd n)]=some (.int (yd n).length):=rfl
 have st:pA (.str (yd n)) (.str "0")=some (.bl (decide ((yd n).cps.toList.head?=some 48))):=by
  show some (D.bl (Txt.startswith (yd n) ⟨#[48]⟩))=_
  rw [YJ]
 rw [Q4]
 unfold ZA
 by_cases hz:n=0
 ·have e0:yd n = "0" := GB (by rw [ec,hz]; rfl)
  have nz:xP (.str (yd n)) (.str "0")=some (.bl false):=by rw [e0]; rfl
  have hd:(yd n).cps.toList.head?=some 48:=by rw [ec,hz]; rfl
  rw [decide_eq_true hd] at st
  generalize yd n=Z at *
  generalize ((Z.cps.toList.map fun c=>D.str ⟨#[c]⟩).map fun _=>D.bl true)=ZB at *
  simp! [ne,ln,le,lc,al,st,nz,it]
 ·rw [decide_eq_false (d3 (by omega))] at st
  generalize yd n=Z at *
  generalize ((Z.cps.toList.map fun c=>D.str ⟨#[c]⟩).map fun _=>D.bl true)=ZB at *
  simp! [ne,ln,le,lc,al,st,it]
structure Pt (f:Str) (k d:D) (z:Str):Prop where
 ft:pY [.str f,.str z]=some (false,d)
 lt:∃ (sd:Str) (b:Bool),jF [d]=some (.str sd)/\zQ (.str "r") (.str sd)=some (.str ("r" ++ sd))/\zL k (.int 8)=some (.bl b)/\zH (.lst [.str sd,.str ("r" ++ sd)]) (.int (if b=true then 1 else 0))=some (.str z)
 ln:z.length<=20
 wd:Wd z.cps.toList
theorem Wx {n:Int} (h0:0<=n) (h1:n<100000):tf n=true:=decide_eq_true (by
 by_cases e:n.natAbs=0
 ·rw [e]; decide
 ·have p:(2:Nat) ^ 17=131072:=by decide
  have:n.natAbs.log2<17:=(Nat.log2_lt e).mpr (by omega)
  omega)
theorem str_int {n:Int} (h:tf n=true):jF [.int n]=some (.str (yd n)):=by
 show (match tf n with | true=>_ | false=>_)=_
 rw [h]
 rfl
theorem Z0 {x:Str} (h:x.length<=2000):zQ (.str "r") (.str x)=some (.str ("r" ++ x)):=add_str (by show 1+_<=_; omega)
theorem Y1 (x:Str):(("r" : Str)++x).cps.toList=114::x.cps.toList:=by rw [vh]; rfl
theorem C0 (x:Str):L2.cutS (("r" : Str)++x) (some 1) none=x:=by
 have e:(L2.cutS (("r" : Str)++x) (some 1) none).cps.toList=x.cps.toList:=by
  show (((("r" : Str)++x).cps.toList.drop (HT.sIx (("r" : Str)++x).length 0 (some 1))).take (HT.sIx (("r" : Str)++x).length (("r" : Str)++x).length none - HT.sIx (("r" : Str)++x).length 0 (some 1)))=_
  have e1:HT.sIx (("r" : Str)++x).length 0 (some 1)=1:=by
   have:=HT.sIx_nat (("r" : Str)++x).length 0 1
   rw [show (((1:Nat):Int))=1 from rfl] at this
   rw [this,xW]
   show min 1 (1+x.length)=1
   omega
  rw [e1,Y1]
  show (x.cps.toList.take _)=_
  refine List.take_of_length_le ?_
  rw [xn]
  show _<=(("r" : Str)++x).length - 1
  rw [xW]
  show _<=1+x.length - 1
  omega
 obtain ⟨⟨l⟩⟩:=x
 generalize L2.cutS _ _ _=C at e
 obtain ⟨⟨m⟩⟩:=C
 cases (show m=l from e)
 rfl
theorem V4 {m n:Int} (hm:m≠8) (n0:0<=n) (n1:n<65536):Pt "n" (.int m) (.int n) (yd n):=by
 obtain ⟨a,b,c⟩:=Qn n0 (by omega)
 have e:zL (.str "n") (.str "n")=some (.bl true):=by rfl
 refine ⟨?_,⟨yd n,false,str_int (Wx n0 (by omega)),Z0 (by omega),wD hm,rfl⟩,by omega,c⟩
 rw [ZP]
 unfold j8
 simp! [e,a]
theorem jY {f:Str} {n:Int} (hf:f = "d" \/ f = "s") (n0:0<=n) (n1:n<8):Pt f (.int 8) (.int n) ("r" ++ yd n):=by
 obtain ⟨a,b,c⟩:=Qn n0 (by omega)
 have st:pA (.str ("r" ++ yd n)) (.str "r")=some (.bl true):=by
  show some (D.bl (Txt.startswith (("r" : Str)++yd n) ⟨#[114]⟩))=_
  rw [YJ,Y1]
  rfl
 have sl:xj (.str ("r" ++ yd n)) (some 1) none=some (.str (yd n)):=by
  show some (D.str (L2.cutS (("r" : Str)++yd n) (some 1) none))=_
  rw [C0]
 refine ⟨?_,⟨yd n,true,str_int (Wx n0 (by omega)),Z0 (by omega),by rfl,rfl⟩,by rw [xW]; show 1+_<=_; omega,⟨by rw [Y1]; simp,fun x hx=>?_⟩⟩
 ·have g1:zL (.str f) (.str "n")=some (.bl false):=by rcases hf with rfl | rfl<;>rfl
  rw [ZP]
  unfold j8
  generalize ("r" : Str)++yd n=Z at *
  rcases hf with rfl | rfl
  ·have e2:zL (.str "d") (.str "d")=some (.bl true):=by rfl
   simp! [g1,e2,yE,zy,yI,st,sl,a]
  ·have e2:zL (.str "s") (.str "d")=some (.bl false):=by rfl
   have e3:zL (.str "s") (.str "s")=some (.bl true):=by rfl
   simp! [g1,e2,e3,yE,zy,yI,st,sl,a]
 ·rw [Y1] at hx
  rcases List.mem_cons.mp hx with rfl | hx
  ·decide
  ·exact c.ok x hx
theorem V5 {f t u:Str} (hf:f = "name" \/ f = "mark") (ht:t.length<=20) (hw:Wd t.cps.toList):Pt f (.str u) (.str t) t:=by
 refine ⟨?_,⟨t,false,rfl,Z0 (by omega),by rfl,rfl⟩,ht,hw⟩
 have e1:zL (.str f) (.str "n")=some (.bl false):=by rcases hf with rfl | rfl<;>rfl
 have e2:zL (.str f) (.str "d")=some (.bl false):=by rcases hf with rfl | rfl<;>rfl
 have e3:zL (.str f) (.str "s")=some (.bl false):=by rcases hf with rfl | rfl<;>rfl
 rw [ZP]
 unfold j8
 simp! [e1,e2,e3]
theorem jK {sep:Str} {ts:List Str} (h:(ts.map (·.length)).sum+ts.length*sep.length<=16777216):u8 (.str sep) (.lst (ts.map D.str))=some (.str (Builtin.Str.glued sep ts)):=by
 show (qp _).bind _=_
 rw [UK]
 show (if _<=yS then _ else _)=_
 rw [if_pos h]
theorem Es {w:Str} {o:Bool} (hl:zL (.str w) (.str "label")=some (.bl false)) (hw:w.length<=20) (hin:uR xM (.str w)=some (.bl false)) (hF:vn xM tS (.str w)=some (.tup [])) (hs:wB [.str w]=some (o,.lst [])) (hi:wX [.tup [.str w]]=some (false,.bl true)) (he:jC (.str w) (.str ":")=some (.bl false)) :
  ue [.tup [.str w]]=some (false,.str (Builtin.Str.glued " " [w]))/\vF [.lst [.str w]]=some (false,.tup [.str w]):=by
 have jn:u8 (.str " ") (.lst [.str w])=some (.str (Builtin.Str.glued " " [w])):=jK (ts:=[w]) (by show w.length+0+1*1<=_; omega)
 have sl:xj (.lst [.str w]) (some 1) none=some (.lst []):=by rfl
 have ad:=j6 (L:=[.str w]) (M:=[]) (by show 1+0<=_; omega)
 rw [show [D.str w]++[]=[.str w] from rfl] at ad
 have x0:zH (.lst [.str w]) (.int 0)=some (.str w):=rfl
 have ln:yF [.lst [.str w]]=some (.int 1):=rfl
 have lf:yF [.tup []]=some (.int 0):=rfl
 have tp:uS [.lst [.str w]]=some (.tup [.str w]):=rfl
 have nn:xP (.int ((1:Nat):Int)) (.int (((0:Nat):Int)+1))=some (.bl false):=rfl
 have n1:zL (.int ((1:Nat):Int)) (.int 1)=some (.bl true):=rfl
 have rt:vd [.lst [.str w]]=some (false,.tup [.str w]):=by
  rw [pC]
  unfold tL
  simp! [x0,hl,hin,hF,ln,lf,nn,add_int,tU,yE,zy,yI,sl,tt,List.zipWith_cons_cons,List.zipWith_nil_left,tu,xQ,yn,y_,ad,tp]
 constructor
 ·have rr:kC [some (false,.tup [.str w]),some (false,.lst []),some (true,.lst [.str w]),none]=some []:=rfl
  rw [ge]
  unfold p8
  simp! [qX,hl,hs,rr,gr,add_int,jn]
 ·rw [qW]
  unfold uj
  generalize D.tup [.str w]=TT at *
  simp! [rt,ln,n1,x0,he,hi]
theorem Et {w f1 z1:Str} {d1 k1:D} {o:Bool} (hl:zL (.str w) (.str "label")=some (.bl false)) (hw:w.length<=20) (hin:uR xM (.str w)=some (.bl false)) (hF:vn xM tS (.str w)=some (.tup [.str f1])) (hs:wB [.str w]=some (o,.lst [k1])) (P1:Pt f1 k1 d1 z1) (hi:wX [.tup [.str w,d1]]=some (false,.bl true)) :
  ue [.tup [.str w,d1]]=some (false,.str (Builtin.Str.glued " " [w,z1]))/\vF [.lst [.str w,.str z1]]=some (false,.tup [.str w,d1]):=by
 obtain ⟨g1,⟨s1,b1,a1,b1',c1,e1⟩,l1,_⟩:=P1
 have jn:u8 (.str " ") (.lst [.str w,.str z1])=some (.str (Builtin.Str.glued " " [w,z1])):=jK (ts:=[w,z1]) (by show w.length+(z1.length+0)+2*1<=_; omega)
 have sl:xj (.lst [.str w,.str z1]) (some 1) none=some (.lst [.str z1]):=by rfl
 have ad:=j6 (L:=[.str w]) (M:=[d1]) (by show 1+1<=_; omega)
 rw [show [D.str w]++[d1]=[.str w,d1] from rfl] at ad
 have x0:zH (.lst [.str w,.str z1]) (.int 0)=some (.str w):=rfl
 have ln:yF [.lst [.str w,.str z1]]=some (.int 2):=rfl
 have lf:yF [.tup [.str f1]]=some (.int 1):=rfl
 have tp:uS [.lst [.str w,d1]]=some (.tup [.str w,d1]):=rfl
 have nn:xP (.int ((2:Nat):Int)) (.int (((1:Nat):Int)+1))=some (.bl false):=rfl
 have n1:zL (.int ((2:Nat):Int)) (.int 1)=some (.bl false):=rfl
 have rt:vd [.lst [.str w,.str z1]]=some (false,.tup [.str w,d1]):=by
  rw [pC]
  unfold tL
  simp! [x0,hl,hin,hF,ln,lf,nn,add_int,tU,yE,zy,yI,sl,tt,List.zipWith_cons_cons,List.zipWith_nil_left,tu,xQ,yn,y_,g1,ad,tp]
 constructor
 ·have rr:kC [some (false,.tup [.str w,d1]),some (false,.lst [k1]),some (true,.lst [.str w]),none]=some [.int 0]:=rfl
  have i1:zH (.tup [.str w,d1]) (.int 1)=some d1:=rfl
  have j1:zH (.lst [k1]) (.int 0)=some k1:=rfl
  have p1:xg (.lst [.str w]) (.str z1)=some (.lst [.str w,.str z1]):=uh (by simp)
  rw [ge]
  unfold p8
  simp! [qX,hl,hs,rr,gr,add_int,i1,j1,a1,b1',c1,e1,p1,jn]
 ·rw [qW]
  unfold uj
  generalize D.tup [.str w,d1]=TT at *
  simp! [rt,ln,n1,x0,hi]
theorem YR {w f1 f2 z1 z2:Str} {d1 d2 k1 k2:D} {o:Bool} (hl:zL (.str w) (.str "label")=some (.bl false)) (hw:w.length<=20) (hin:uR xM (.str w)=some (.bl false)) (hF:vn xM tS (.str w)=some (.tup [.str f1,.str f2])) (hs:wB [.str w]=some (o,.lst [k1,k2])) (P1:Pt f1 k1 d1 z1) (P2:Pt f2 k2 d2 z2) (hi:wX [.tup [.str w,d1,d2]]=some (false,.bl true)) :
  ue [.tup [.str w,d1,d2]]=some (false,.str (Builtin.Str.glued " " [w,z1,z2]))/\vF [.lst [.str w,.str z1,.str z2]]=some (false,.tup [.str w,d1,d2]):=by
 obtain ⟨g1,⟨s1,b1,a1,b1',c1,e1⟩,l1,_⟩:=P1
 obtain ⟨g2,⟨s2,b2,a2,b2',c2,e2⟩,l2,_⟩:=P2
 have jn:u8 (.str " ") (.lst [.str w,.str z1,.str z2])=some (.str (Builtin.Str.glued " " [w,z1,z2])):=jK (ts:=[w,z1,z2]) (by show w.length+(z1.length+(z2.length+0))+3*1<=_; omega)
 have sl:xj (.lst [.str w,.str z1,.str z2]) (some 1) none=some (.lst [.str z1,.str z2]):=by rfl
 have ad:=j6 (L:=[.str w]) (M:=[d1,d2]) (by show 1+2<=_; omega)
 rw [show [D.str w]++[d1,d2]=[.str w,d1,d2] from rfl] at ad
 have x0:zH (.lst [.str w,.str z1,.str z2]) (.int 0)=some (.str w):=rfl
 have ln:yF [.lst [.str w,.str z1,.str z2]]=some (.int 3):=rfl
 have lf:yF [.tup [.str f1,.str f2]]=some (.int 2):=rfl
 have tp:uS [.lst [.str w,d1,d2]]=some (.tup [.str w,d1,d2]):=rfl
 have nn:xP (.int ((3:Nat):Int)) (.int (((2:Nat):Int)+1))=some (.bl false):=rfl
 have n1:zL (.int ((3:Nat):Int)) (.int 1)=some (.bl false):=rfl
 have rt:vd [.lst [.str w,.str z1,.str z2]]=some (false,.tup [.str w,d1,d2]):=by
  rw [pC]
  unfold tL
  simp! [x0,hl,hin,hF,ln,lf,nn,add_int,tU,yE,zy,yI,sl,tt,List.zipWith_cons_cons,List.zipWith_nil_left,tu,xQ,yn,y_,g1,g2,ad,tp]
 constructor
 ·have rr:kC [some (false,.tup [.str w,d1,d2]),some (false,.lst [k1,k2]),some (true,.lst [.str w]),none]=some [.int 0,.int 1]:=rfl
  have i1:zH (.tup [.str w,d1,d2]) (.int 1)=some d1:=rfl
  have j1:zH (.lst [k1,k2]) (.int 0)=some k1:=rfl
  have p1:xg (.lst [.str w]) (.str z1)=some (.lst [.str w,.str z1]):=uh (by simp)
  have i2:zH (.tup [.str w,d1,d2]) (.int 2)=some d2:=rfl
  have j2:zH (.lst [k1,k2]) (.int 1)=some k2:=rfl
  have p2:xg (.lst [.str w,.str z1]) (.str z2)=some (.lst [.str w,.str z1,.str z2]):=uh (by simp)
  rw [ge]
  unfold p8
  simp! [qX,hl,hs,rr,gr,add_int,i1,j1,a1,b1',c1,e1,p1,i2,j2,a2,b2',c2,e2,p2,jn]
 ·rw [qW]
  unfold uj
  generalize D.tup [.str w,d1,d2]=TT at *
  simp! [rt,ln,n1,x0,hi]
theorem Eu {w f1 f2 f3 z1 z2 z3:Str} {d1 d2 d3 k1 k2 k3:D} {o:Bool} (hl:zL (.str w) (.str "label")=some (.bl false)) (hw:w.length<=20) (hin:uR xM (.str w)=some (.bl false)) (hF:vn xM tS (.str w)=some (.tup [.str f1,.str f2,.str f3])) (hs:wB [.str w]=some (o,.lst [k1,k2,k3])) (P1:Pt f1 k1 d1 z1) (P2:Pt f2 k2 d2 z2) (P3:Pt f3 k3 d3 z3) (hi:wX [.tup [.str w,d1,d2,d3]]=some (false,.bl true)) :
  ue [.tup [.str w,d1,d2,d3]]=some (false,.str (Builtin.Str.glued " " [w,z1,z2,z3]))/\vF [.lst [.str w,.str z1,.str z2,.str z3]]=some (false,.tup [.str w,d1,d2,d3]):=by
 obtain ⟨g1,⟨s1,b1,a1,b1',c1,e1⟩,l1,_⟩:=P1
 obtain ⟨g2,⟨s2,b2,a2,b2',c2,e2⟩,l2,_⟩:=P2
 obtain ⟨g3,⟨s3,b3,a3,b3',c3,e3⟩,l3,_⟩:=P3
 have jn:u8 (.str " ") (.lst [.str w,.str z1,.str z2,.str z3])=some (.str (Builtin.Str.glued " " [w,z1,z2,z3])):=jK (ts:=[w,z1,z2,z3]) (by show w.length+(z1.length+(z2.length+(z3.length+0)))+4*1<=_; omega)
 have sl:xj (.lst [.str w,.str z1,.str z2,.str z3]) (some 1) none=some (.lst [.str z1,.str z2,.str z3]):=by rfl
 have ad:=j6 (L:=[.str w]) (M:=[d1,d2,d3]) (by show 1+3<=_; omega)
 rw [show [D.str w]++[d1,d2,d3]=[.str w,d1,d2,d3] from rfl] at ad
 have x0:zH (.lst [.str w,.str z1,.str z2,.str z3]) (.int 0)=some (.str w):=rfl
 have ln:yF [.lst [.str w,.str z1,.str z2,.str z3]]=some (.int 4):=rfl
 have lf:yF [.tup [.str f1,.str f2,.str f3]]=some (.int 3):=rfl
 have tp:uS [.lst [.str w,d1,d2,d3]]=some (.tup [.str w,d1,d2,d3]):=rfl
 have nn:xP (.int ((4:Nat):Int)) (.int (((3:Nat):Int)+1))=some (.bl false):=rfl
 have n1:zL (.int ((4:Nat):Int)) (.int 1)=some (.bl false):=rfl
 have rt:vd [.lst [.str w,.str z1,.str z2,.str z3]]=some (false,.tup [.str w,d1,d2,d3]):=by
  rw [pC]
  unfold tL
  simp! [x0,hl,hin,hF,ln,lf,nn,add_int,tU,yE,zy,yI,sl,tt,List.zipWith_cons_cons,List.zipWith_nil_left,tu,xQ,yn,y_,g1,g2,g3,ad,tp]
 constructor
 ·have rr:kC [some (false,.tup [.str w,d1,d2,d3]),some (false,.lst [k1,k2,k3]),some (true,.lst [.str w]),none]=some [.int 0,.int 1,.int 2]:=rfl
  have i1:zH (.tup [.str w,d1,d2,d3]) (.int 1)=some d1:=rfl
  have j1:zH (.lst [k1,k2,k3]) (.int 0)=some k1:=rfl
  have p1:xg (.lst [.str w]) (.str z1)=some (.lst [.str w,.str z1]):=uh (by simp)
  have i2:zH (.tup [.str w,d1,d2,d3]) (.int 2)=some d2:=rfl
  have j2:zH (.lst [k1,k2,k3]) (.int 1)=some k2:=rfl
  have p2:xg (.lst [.str w,.str z1]) (.str z2)=some (.lst [.str w,.str z1,.str z2]):=uh (by simp)
  have i3:zH (.tup [.str w,d1,d2,d3]) (.int 3)=some d3:=rfl
  have j3:zH (.lst [k1,k2,k3]) (.int 2)=some k3:=rfl
  have p3:xg (.lst [.str w,.str z1,.str z2]) (.str z3)=some (.lst [.str w,.str z1,.str z2,.str z3]):=uh (by simp)
  rw [ge]
  unfold p8
  simp! [qX,hl,hs,rr,gr,add_int,i1,j1,a1,b1',c1,e1,p1,i2,j2,a2,b2',c2,e2,p2,i3,j3,a3,b3',c3,e3,p3,jn]
 ·rw [qW]
  unfold uj
  generalize D.tup [.str w,d1,d2,d3]=TT at *
  simp! [rt,ln,n1,x0,hi]
end L3
namespace L3
open PySem
theorem Wp {t:Str} (h1:1<=t.length) (h:vV t=true):Wd t.cps.toList:=⟨fun z=>by
 have:=xn t
 rw [z] at this
 simp only [List.length_nil] at this
 omega,fun a ha=>by
 have q:=List.all_eq_true.mp h a ha
 rw [Bool.and_eq_true] at q
 have:=of_decide_eq_true q.1
 omega⟩
theorem Oj {z:Str} (h:58∈z.cps.toList):uR xM (.str z)=some (.bl true):=by
 have no:xI xM (.inr z)=false:=by
  cases c:xI xM (.inr z) with
  | false=>rfl
  | true=>
   obtain ⟨j,hj,e⟩:=List.any_eq_true.mp c
   have e:=of_decide_eq_true e
   have all:(xM.all fun j=>match j with | .inr s=>decide (58 ∉ s.cps.toList) | .inl _=>false)=true:=by decide +kernel
   have:=List.all_eq_true.mp all j hj
   rw [e] at this
   exact absurd h (of_decide_eq_true this)
 show some (D.bl (!xI xM (.inr z)))=_
 rw [no]
 rfl
theorem Ol {z:Str} (h:58∈z.cps.toList):zL (.str z) (.str "label")=some (.bl false):=by
 have ne:z ≠ "label" := fun e=>by
  rw [e] at h
  revert h
  decide
 show (uQ (.str z) (.str "label")).bind _=_
 have:uQ (.str z) (.str "label")=some (z == "label"):=rfl
 rw [this,beq_eq_false_iff_ne.mpr ne]
 rfl
theorem OJ {t:Str}:L2.cutS (t ++ ":") none (some (-1))=t:=by
 have ln:(t ++ ":").length=t.length+1:=xW t ":"
 have e:(L2.cutS (t ++ ":") none (some (-1))).cps.toList=t.cps.toList:=by
  show (((t ++ ":").cps.toList.drop (HT.sIx (t ++ ":").length 0 none)).take (HT.sIx (t ++ ":").length (t ++ ":").length (some (-1)) - HT.sIx (t ++ ":").length 0 none))=_
  have e1:HT.sIx (t ++ ":").length 0 none=0:=rfl
  have e2:HT.sIx (t ++ ":").length (t ++ ":").length (some (-1))=t.length:=by
   rw [ln]
   unfold HT.sIx
   simp
   omega
  rw [e1,e2,vh]
  show (t.cps.toList++[58]).take (t.length - 0)=_
  rw [Nat.sub_zero,<- xn t,List.take_left']
  rfl
 obtain ⟨⟨l⟩⟩:=t
 generalize L2.cutS _ _ _=C at e
 obtain ⟨⟨m⟩⟩:=C
 cases (show m=l from e)
 rfl
theorem MD {N:List Str} (hN:qI N) {d:D} (h:t9 N d):∃ ws:List Str,ws≠[]/\ws.length<=4/\(∀ w∈ws,Wd w.cps.toList/\w.length<=20)/\ue [d]=some (false,.str (Builtin.Str.glued " " ws))/\vF [.lst (ws.map D.str)]=some (false,d):=by
 have hi:=Mr hN h
 have one:∀ {w:Str} {zs:List Str},w.length<=20->Wd w.cps.toList->(∀ z∈zs,Wd z.cps.toList/\z.length<=20)->∀ x∈w::zs,Wd x.cps.toList/\x.length<=20:=fun a b c x hx=>by
  rcases List.mem_cons.mp hx with rfl | hx
  ·exact ⟨b,a⟩
  ·exact c x hx
 have nil_:∀ z∈([]:List Str),Wd z.cps.toList/\z.length<=20:=fun _ h=>by cases h
 rcases h with h | ⟨t,ht,rfl⟩
 ·cases h with
  | plain h=>
   cases h with
   | stop=>
    have he:jC (.str "stop") (.str ":")=some (.bl false):=by
     show some (D.bl (Txt.endswith ("stop" : Str) ⟨#[58]⟩))=_
     rw [WB _ _ (by decide)]
     rfl
    obtain ⟨a,b⟩:=Es (w := "stop") (by rfl) (by decide) (by rfl) (by rfl) UD hi he
    exact ⟨["stop"],by simp,by simp,one (by decide) ⟨by decide,by decide⟩ nil_,a,b⟩
   | imm hw d0 d1 z0 z1=>
    rename_i w x n
    have p1:=jY (f := "d") (.inl rfl) d0 d1
    have p2:=V4 (m:=65536) (by decide) z0 z1
    obtain ⟨a,b⟩:=YR (w:=w) (f1 := "d") (f2 := "n") (by rcases hw with rfl | rfl<;>rfl) (by rcases hw with rfl | rfl<;>decide) (by rcases hw with rfl | rfl<;>rfl) (by rcases hw with rfl | rfl<;>rfl) (U9 hw) p1 p2 hi
    exact ⟨_,by simp,by simp,one (by rcases hw with rfl | rfl<;>decide) (by rcases hw with rfl | rfl<;>exact ⟨by decide,by decide⟩) (one p1.ln p1.wd (one p2.ln p2.wd nil_)),a,b⟩
   | mov hw d0 d1 z0 z1=>
    rename_i w x n
    have p1:=jY (f := "d") (.inl rfl) d0 d1
    have p2:=V4 (m:=32) (by decide) z0 (by omega)
    obtain ⟨a,b⟩:=YR (w:=w) (f1 := "d") (f2 := "n") (by rcases hw with rfl | rfl<;>rfl) (by rcases hw with rfl | rfl<;>decide) (by rcases hw with rfl | rfl<;>rfl) (by rcases hw with rfl | rfl<;>rfl) (UB hw) p1 p2 hi
    exact ⟨_,by simp,by simp,one (by rcases hw with rfl | rfl<;>decide) (by rcases hw with rfl | rfl<;>exact ⟨by decide,by decide⟩) (one p1.ln p1.wd (one p2.ln p2.wd nil_)),a,b⟩
   | two hw d0 d1 z0 z1=>
    rename_i w x n
    have p1:=jY (f := "d") (.inl rfl) d0 d1
    have p2:=jY (f := "s") (.inr rfl) z0 z1
    obtain ⟨a,b⟩:=YR (w:=w) (f1 := "d") (f2 := "s") (by rcases hw with rfl | rfl | rfl | rfl | rfl | rfl | rfl | rfl | rfl<;>rfl) (by rcases hw with rfl | rfl | rfl | rfl | rfl | rfl | rfl | rfl | rfl<;>decide) (by rcases hw with rfl | rfl | rfl | rfl | rfl | rfl | rfl | rfl | rfl<;>rfl) (by rcases hw with rfl | rfl | rfl | rfl | rfl | rfl | rfl | rfl | rfl<;>rfl) (UE hw) p1 p2 hi
    exact ⟨_,by simp,by simp,one (by rcases hw with rfl | rfl | rfl | rfl | rfl | rfl | rfl | rfl | rfl<;>decide) (by rcases hw with rfl | rfl | rfl | rfl | rfl | rfl | rfl | rfl | rfl<;>exact ⟨by decide,by decide⟩) (one p1.ln p1.wd (one p2.ln p2.wd nil_)),a,b⟩
   | mem hw d0 d1 z0 z1 y0 y1=>
    rename_i w x n m
    have p1:=jY (f := "d") (.inl rfl) d0 d1
    have p2:=jY (f := "s") (.inr rfl) z0 z1
    have p3:=V4 (m:=256) (by decide) y0 (by omega)
    obtain ⟨a,b⟩:=Eu (w:=w) (f1 := "d") (f2 := "s") (f3 := "n") (by rcases hw with rfl | rfl | rfl | rfl<;>rfl) (by rcases hw with rfl | rfl | rfl | rfl<;>decide) (by rcases hw with rfl | rfl | rfl | rfl<;>rfl) (by rcases hw with rfl | rfl | rfl | rfl<;>rfl) (UA hw) p1 p2 p3 hi
    exact ⟨_,by simp,by simp,one (by rcases hw with rfl | rfl | rfl | rfl<;>decide) (by rcases hw with rfl | rfl | rfl | rfl<;>exact ⟨by decide,by decide⟩) (one p1.ln p1.wd (one p2.ln p2.wd (one p3.ln p3.wd nil_))),a,b⟩
  | jump ht=>
   rename_i t
   obtain ⟨l1,l2,l3⟩:=gw (hN.ok t ht)
   have p1:=V5 (f := "name") (u := "name") (.inl rfl) (by omega) (Wp l1 l3)
   obtain ⟨a,b⟩:=Et (w := "jump") (f1 := "name") (by rfl) (by decide) (by rfl) (by rfl) (UC (.inl rfl)) p1 hi
   exact ⟨_,by simp,by simp,one (by decide) ⟨by decide,by decide⟩ (one p1.ln p1.wd nil_),a,b⟩
  | cond hw hk ht=>
   rename_i w k0 t
   obtain ⟨l1,l2,l3⟩:=gw (hN.ok t ht)
   have p1:=V5 (f := "mark") (t:=k0) (u := "mark") (.inr rfl) (by rcases hk with rfl | rfl | rfl<;>decide) (by rcases hk with rfl | rfl | rfl<;>exact ⟨by decide,by decide⟩)
   have p2:=V5 (f := "name") (u := "name") (.inl rfl) (by omega) (Wp l1 l3)
   obtain ⟨a,b⟩:=YR (w:=w) (f1 := "mark") (f2 := "name") (by rcases hw with rfl | rfl<;>rfl) (by rcases hw with rfl | rfl<;>decide) (by rcases hw with rfl | rfl<;>rfl) (by rcases hw with rfl | rfl<;>rfl) (U8 hw) p1 p2 hi
   exact ⟨_,by simp,by simp,one (by rcases hw with rfl | rfl<;>decide) (by rcases hw with rfl | rfl<;>exact ⟨by decide,by decide⟩) (one p1.ln p1.wd (one p2.ln p2.wd nil_)),a,b⟩
 ·obtain ⟨l1,l2,l3⟩:=gw (hN.ok t ht)
  have wd:=Wp l1 l3
  have zc:(t ++ ":").cps.toList=t.cps.toList++[58]:=vh t ":"
  have hz:58∈(t ++ ":").cps.toList:=by rw [zc]; exact List.mem_append_right _ List.mem_cons_self
  have ln:(t ++ ":").length=t.length+1:=xW t ":"
  have c1:=Oj hz
  have c2:=Ol hz
  have c3:jC (.str (t ++ ":")) (.str ":")=some (.bl true):=by
   show some (D.bl (Txt.endswith (t ++ ":") ⟨#[58]⟩))=_
   rw [WB _ _ (by omega),zc,ln,Nat.add_sub_cancel,<- xn t,List.getElem?_append_right (Nat.le_refl _),Nat.sub_self]
   rfl
  have c4:xj (.str (t ++ ":")) none (some (-1))=some (.str t):=by
   show some (D.str (L2.cutS (t ++ ":") none (some (-1))))=_
   rw [OJ]
  have ad:zQ (.str t) (.str ":")=some (.str (t ++ ":")):=add_str (by show t.length+1<=_; omega)
  have i1:zH (xZ t) (.int 1)=some (.str t):=rfl
  have lb:zL (.str "label") (.str "label")=some (.bl true):=by rfl
  refine ⟨[t ++ ":"],by simp,by simp,one (by omega) ⟨by rw [zc]; simp,fun a ha=>?_⟩ nil_,?_,?_⟩
  ·rw [zc] at ha
   rcases List.mem_append.mp ha with ha | ha
   ·exact wd.ok a ha
   ·rw [List.mem_singleton.mp ha]
    decide
  ·have gl:Builtin.Str.glued " " [t ++ ":"]=t ++ ":" := by rw [StrLaws.glued_eq_join]; rfl
   rw [gl,ge]
   unfold p8
   have i0:zH (xZ t) (.int 0)=some (.str "label"):=rfl
   simp! [i0,lb,i1,ad]
  ·have x0:zH (.lst [.str (t ++ ":")]) (.int 0)=some (.str (t ++ ":")):=rfl
   have rt:vd [.lst [.str (t ++ ":")]]=some (false,.non):=by
    rw [pC]
    unfold tL
    generalize t ++ ":" = Z at *
    simp! [x0,c2,c1]
   have n1:zL (.int ((1:Nat):Int)) (.int 1)=some (.bl true):=rfl
   show vF [.lst [.str (t ++ ":")]]=_
   rw [qW]
   unfold uj
   generalize t ++ ":" = Z at *
   unfold xZ at hi ⊢
   simp! [rt,n1,x0,c3,yE,yI,zy,c4,hi]
end L3
namespace L3
open PySem
noncomputable def XW:FS:=
 (zd (e2 yy (e2 zH (z8 0) (eC (.int 0))) (eC ZR)))
noncomputable def jv:List D->Option (Bool×D):=FR 1 1 XW
theorem La (x0:D):jv [x0]=yi 1 XW [x0]:=rfl
noncomputable def Iw:FE:=(z8 2)
noncomputable def Ug:FT:=(tE (e2 xP (z8 2) (eC (.str ""))))
noncomputable def Xm:FS:=
 (zI (zT 1 (e1 (jE "\t" " ") (e1 (WP 0) (e2 WL (z8 0) (eC (.str ";"))))))
  (qh (yx 1 (w8 (e2 w_ (z8 1) (eC (.str " ")))) (zb 2) Ug Iw)))
noncomputable def py:List D->Option (Bool×D):=FR 1 2 Xm
theorem Lq (x0:D):py [x0]=yi 2 Xm [x0]:=rfl
noncomputable def sD (l:List Nat):D:=.str ⟨l.toArray⟩
theorem VL (z:Str):sD z.cps.toList=.str z:=by
 obtain ⟨⟨l⟩⟩:=z
 rfl
theorem G8 {row:Str} (h:row.length<=100000):py [.str row]=some (true,.lst ((W row.cps.toList).map sD)):=by
 have sum:=congrArg Str.length (StrLaws.partition_sum row ⟨#[59]⟩)
 rw [xW,xW] at sum
 have fp:WL (.str row) (.str ";")=some (.tup [.str (Txt.partition row ⟨#[59]⟩).1,.str (Txt.partition row ⟨#[59]⟩).2.1,.str (Txt.partition row ⟨#[59]⟩).2.2]):=if_pos ⟨rfl,by show (Txt.partition row ⟨#[59]⟩).1.length<=_; omega,by show (Txt.partition row ⟨#[59]⟩).2.1.length<=_; omega,by show (Txt.partition row ⟨#[59]⟩).2.2.length<=_; omega⟩
 have pc:=Qy row 59
 generalize (Txt.partition row ⟨#[59]⟩).1=P1 at *
 generalize (Txt.partition row ⟨#[59]⟩).2.1=P2 at *
 generalize (Txt.partition row ⟨#[59]⟩).2.2=P3 at *
 have t0:WP 0 (.tup [.str P1,.str P2,.str P3])=some (.str P1):=rfl
 have rc:=Jc P1 9 32
 have rl:(Txt.replace P1 ⟨#[9]⟩ ⟨#[32]⟩).length=P1.length:=by rw [<- xn,rc,List.length_map,xn]
 have fr:jE "\t" " " (.str P1)=some (.str (Txt.replace P1 ⟨#[9]⟩ ⟨#[32]⟩)):=if_pos ⟨by show P1.length+(P1.length+1)*1<=_; omega,by show (Txt.replace P1 ⟨#[9]⟩ ⟨#[32]⟩).length<=_; omega⟩
 generalize Txt.replace P1 ⟨#[9]⟩ ⟨#[32]⟩=R at *
 have fs:w_ (.str R) (.str " ")=some (.lst ((Txt.split R ⟨#[32]⟩).map D.str)):=if_pos ⟨rfl,by omega⟩
 have lc:=jQ (g:=zb 2) (c:=Ug) (e:=Iw) (σ:=[some (false,.str row),some (false,.str R),none]) (fun d=>match d with | .str z=>!z.cps.toList.isEmpty | _=>false) id (ds:=(Txt.split R ⟨#[32]⟩).map D.str) fun d hd=>by
  obtain ⟨z,_,rfl⟩:=List.mem_map.mp hd
  have n:xP (.str z) (.str "")=some (.bl (!z.cps.toList.isEmpty)):=by
   obtain ⟨⟨l⟩⟩:=z
   cases l<;>rfl
  refine ⟨_,rfl,?_,fun _=>rfl⟩
  unfold Ug
  simp! [n]
 have ws:W row.cps.toList=((Txt.split R ⟨#[32]⟩).map fun t=>t.cps.toList).filter fun p=>!p.isEmpty:=by
  unfold W
  rw [kK,rc,pc]
  rfl
 have fin:(((Txt.split R ⟨#[32]⟩).map D.str).filter fun d=>match d with | .str z=>!z.cps.toList.isEmpty | _=>false).map id=(W row.cps.toList).map sD:=by
  rw [ws,List.map_id,List.filter_map,List.filter_map,List.map_map]
  refine List.map_congr_left fun z _=>(VL z).symm
 rw [fin] at lc
 rw [Lq]
 unfold Xm
 generalize (W row.cps.toList).map sD=WW at *
 generalize (Txt.split R ⟨#[32]⟩).map D.str=SS at *
 simp! [fp,t0,fr,fs,lc]
inductive u0:List (List Nat)->List D->Prop
 | nil:u0 [] []
 | skip {l:List Nat} {ps:List (List Nat)} {items:List D}:W l=[]->u0 ps items->u0 (l::ps) items
 | one {l:List Nat} {ps:List (List Nat)} {d:D} {items:List D}:W l≠[]->vF [.lst ((W l).map sD)]=some (false,d)->u0 ps items->u0 (l::ps) (d::items)
theorem u0.app:∀ {a b:List (List Nat)} {x y:List D},u0 a x->u0 b y->u0 (a++b) (x++y)
 | _,_,_,_,.nil,h=>h
 | _,_,_,_,.skip e r,h=>.skip e (r.app h)
 | _,_,_,_,.one e f r,h=>.one e f (r.app h)
end L3
namespace L3
open PySem
noncomputable def JX:FA:=(xm (eC (.int 0)) (eL yF (z7 (z8 2) zD)))
noncomputable def Wg:FS:=(zT 3 (e2 zQ (e2 zQ (z8 3) (e2 zH (z8 2) (z8 4))) (e2 zH (zu (z7 (eC (.str " ")) (z7 (eC (.str "  ")) (z7 (eC (.str "\t")) (z7 (eC (.str " \t ")) zD))))) (zR yM (z7 (z8 1) (z7 (e2 zQ (eC (.int 2)) (z8 4)) (z7 (eC (.int 4)) zD)))))))
noncomputable def Xc:FS:=
 (zI (zT 2 (e2 w_ (z8 0) (eC (.str " "))))
  (zI (zT 3 (e2 zH (zu (z7 (eC (.str "")) (z7 (eC (.str " ")) (z7 (eC (.str "\t")) (z7 (eC (.str "  \t ")) zD))))) (zR yM (z7 (z8 1) (z7 (eC (.int 1)) (z7 (eC (.int 4)) zD))))))
  (zI (vO JX (zb 4)
   Wg)
  (zI (zX (tE (e2 (xU fun i j=>decide (j<i)) (zR yM (z7 (z8 1) (z7 (eC (.int 7)) (z7 (eC (.int 3)) zD)))) (eC (.int 0))))
   (zT 3 (e2 WN (z8 3) (eC (.str " \t"))))
   zk)
  (zI (zT 5 (zu (z7 (eC (.str "")) (z7 (eC (.str ";")) (z7 (eC (.str " ; set r1 2")) (z7 (eC (.str ";;")) (z7 (eC (.str "\t;loop: jump")) (z7 (eC (.str "; note")) zD))))))))
  (zd (e2 zQ (z8 3) (e2 zH (z8 5) (zR yM (z7 (z8 1) (z7 (eC (.int 8)) (z7 (eC (.int 6)) zD))))))))))))
noncomputable def g6:List D->Option (Bool×D):=FR 2 6 Xc
theorem Lg (x0 x1:D):g6 [x0,x1]=yi 6 Xc [x0,x1]:=rfl
noncomputable def JW:FA:=(xm (eC (.int 0)) (eL yF (z7 (z8 0) zD)))
noncomputable def Zi:FS:=(zI (zX (tE (e2 zL (zR yM (z7 (e2 zQ (z8 1) (z8 3)) (z7 (eC (.int 9)) (z7 (eC (.int 6)) zD)))) (eC (.int 1))))
     (wT 2 xg (e2 zH (zu (z7 (eC (.str "")) (z7 (eC (.str "  ")) (z7 (eC (.str "\t")) (z7 (eC (.str "; stop")) (z7 (eC (.str " ;")) (z7 (eC (.str "\t \t;a:")) zD))))))) (zR yM (z7 (e2 zQ (z8 1) (z8 3)) (z7 (eC (.int 10)) (z7 (eC (.int 6)) zD))))))
     zk)
    (wT 2 xg (zR g6 (z7 (zR ue (z7 (e2 zH (z8 0) (z8 3)) zD)) (z7 (e2 zQ (z8 1) (e2 qU (eC (.int 3)) (z8 3))) zD)))))
noncomputable def Xb:FS:=
 (zI (vP 2 (zu zD))
  (zI (vO JW (zb 3)
   Zi)
  (pN 2)))
noncomputable def j_:List D->Option (Bool×D):=FR 2 4 Xb
theorem Lf (x0 x1:D):j_ [x0,x1]=yi 4 Xb [x0,x1]:=rfl
theorem ZF {a b:Str} (h:a.cps.toList=b.cps.toList):a=b:=by
 obtain ⟨⟨l⟩⟩:=a
 obtain ⟨⟨m⟩⟩:=b
 cases (show l=m from h)
 rfl
theorem Qf:∀ {a b:List Str},a.map (fun t=>t.cps.toList)=b.map (fun t=>t.cps.toList)->a=b
 | [],[],_=>rfl
 | [],_::_,h=>by cases h
 | _::_,[],h=>by cases h
 | x::a,y::b,h=>by
  rw [List.map_cons,List.map_cons] at h
  rw [ZF (List.cons.inj h).1,Qf (List.cons.inj h).2]
theorem LX (c:Nat) (ts:List Str):(Builtin.Str.glued ⟨#[c]⟩ ts).cps.toList=jn c (ts.map fun t=>t.cps.toList):=by
 rw [StrLaws.glued_eq_join,Zd]
theorem E3 {ws:List Str} (ne:ws≠[]) (h:∀ w∈ws,Wd w.cps.toList):Txt.split (Builtin.Str.glued ⟨#[32]⟩ ws) ⟨#[32]⟩=ws:=Qf (by
 rw [kK,LX,UH]
 ·exact fun z=>ne (List.map_eq_nil_iff.mp z)
 ·intro p hp
  obtain ⟨w,hw,rfl⟩:=List.mem_map.mp hp
  exact fun z=>((h w hw).ok 32 z).1 rfl)
theorem Wn:∀ {ws gs:List (List Nat)} (w g:List Nat),ws.length=gs.length->loose (ws++[w]) (gs++[g])=loose ws gs++(w++g)
 | [],[],w,g,_=>by
  show w++g++[]=_
  rw [List.append_nil]
  rfl
 | a::ws,b::gs,w,g,h=>by
  show a++b++loose (ws++[w]) (gs++[g])=a++b++loose ws gs++(w++g)
  rw [Wn w g (by simpa using h)]
  simp only [List.append_assoc]
noncomputable def tV (a:Nat):Bool:=#[32,9].contains a
theorem Wa {a:Nat}:tV a=true↔Bl a:=by
 unfold tV Bl
 simp
theorem IW {g:Nat->Bool} {a r:List Nat} (h:∀ x∈a,g x=true) (hr:∀ x l,r=x::l->g x=false):(a++r).takeWhile g=a:=by
 rw [List.takeWhile_append_of_pos h]
 cases r with
 | nil=>exact List.append_nil _
 | cons x l=>rw [List.takeWhile_cons_of_neg (by rw [hr x l rfl]; decide),List.append_nil]
theorem EB {x:Str} {a m b:List Nat} (e:x.cps.toList=a++(m++b)) (ha:∀ y∈a,Bl y) (hb:∀ y∈b,Bl y) (h0:∀ y l,m++b=y::l->¬ Bl y) (h1:∀ y l,m.reverse=y::l->¬ Bl y) (hm:m≠[]):(Txt.stripChars x ⟨#[32,9]⟩).cps.toList=m:=by
 have no:∀ {y:Nat},¬ Bl y->tV y=false:=fun {y} h=>by
  cases c:tV y with
  | false=>rfl
  | true=>exact absurd (Wa.mp c) h
 have lx:x.length=a.length+(m.length+b.length):=by rw [<- xn,e,List.length_append,List.length_append]
 unfold Txt.stripChars
 rw [PySem.W.stripBy_eq]
 show (Builtin.Str.strSub x (x.cps.toList.takeWhile tV).length (x.length - ((x.cps.toList.drop (x.cps.toList.takeWhile tV).length).reverse.takeWhile tV).length)).cps.toList=m
 have e1:x.cps.toList.takeWhile tV=a:=by
  rw [e]
  exact IW (fun y hy=>Wa.mpr (ha y hy)) fun y l h=>no (h0 y l h)
 have e2:x.cps.toList.drop a.length=m++b:=by rw [e,List.drop_left']; rfl
 have e3:(m++b).reverse.takeWhile tV=b.reverse:=by
  rw [List.reverse_append]
  exact IW (fun y hy=>Wa.mpr (hb y (List.mem_reverse.mp hy))) fun y l h=>no (h1 y l h)
 rw [e1,e2,e3,StrLaws.strSub_toList,e2,List.length_reverse,lx]
 rw [show a.length+(m.length+b.length) - b.length - a.length=m.length by omega,List.take_left']
 rfl
theorem pL (l:List Str) {i:Int} (h0:0<=i) (h1:i<l.length):∃ t∈l,zH (.lst (l.map D.str)) (.int i)=some (.str t):=by
 have hi:i.toNat<l.length:=by omega
 refine ⟨l[i.toNat],List.getElem_mem hi,?_⟩
 refine uP h0 ?_
 rw [List.getElem?_map,List.getElem?_eq_getElem hi]
 rfl
structure Cm (l:List Nat):Prop where
 w:W l=[]
 hd:l=[]\/∃ b r,l=b::r/\(b=59\/Bl b)
 fr:10 ∉ l
theorem OC {w l:List Nat} (h:Wd w) (c:Cm l):W (w++l)=[w]:=by
 rcases c.hd with rfl | ⟨b,r,rfl,rfl | hb⟩
 ·exact Ur h (.inl rfl)
 ·exact Ur h (.inr ⟨_,rfl⟩)
 ·rw [Us h hb]
  have:=c.w
  rw [Up hb] at this
  rw [this]
theorem Mp {ws:List Str} (ne:ws≠[]) (hl:ws.length<=4) (h:∀ w∈ws,Wd w.cps.toList/\w.length<=20) (c:Int):∃ Z:Str,g6 [.str (Builtin.Str.glued " " ws),.int c]=some (false,.str Z)/\Z.length<=200/\W Z.cps.toList=ws.map (fun t=>t.cps.toList)/\10 ∉ Z.cps.toList:=by
 have sp:w_ (.str (Builtin.Str.glued " " ws)) (.str " ")=some (.lst (ws.map D.str)):=by
  have:=E3 ne fun w hw=>(h w hw).1
  have gl:=L2.glued_len (" " : Str) ws
  have sm:(ws.map (·.length)).sum<=80:=by
   have:∀ l:List Str,(∀ w∈l,w.length<=20)->(l.map (·.length)).sum<=20*l.length:=fun l=>by
    induction l with
    | nil=>intro _; exact Nat.le_refl _
    | cons a l ih=>
     intro q
     have:=ih fun w hw=>q w (List.mem_cons_of_mem _ hw)
     have:=q a List.mem_cons_self
     simp only [List.map_cons,List.sum_cons,List.length_cons]
     omega
   have:=this ws fun w hw=>(h w hw).2
   omega
  show (if _/\_ then some (D.lst ((Txt.split (Builtin.Str.glued ⟨#[32]⟩ ws) ⟨#[32]⟩).map D.str)) else none)=_
  have g2:(Builtin.Str.glued (" " : Str) ws).length<=100:=by
   have:(" " : Str).length=1:=rfl
   rw [this] at gl
   omega
  rw [if_pos ⟨rfl,by omega⟩,this]
 obtain ⟨m1,a1,a2⟩:=xH c 1 4 (by decide)
 obtain ⟨g0,hg0,ex0⟩:=pL ["", " ", "\t", "  \t "] a1 a2
 have ex0:zH (.lst [.str "",.str " ",.str "\t",.str "  \t "]) (.int (yV c 1 4))=some (.str g0):=ex0
 have b0:(∀ b∈g0.cps.toList,Bl b)/\g0.length<=4:=by
  simp only [List.mem_cons,List.not_mem_nil,or_false] at hg0
  rcases hg0 with rfl | rfl | rfl | rfl<;>exact ⟨by unfold Bl; decide,by decide⟩
 generalize Builtin.Str.glued " " ws=X at *
 have rg:JX [some (false,.str X),some (false,.int c),some (false,.lst (ws.map D.str)),some (false,.str g0),none,none]=some (xG ws.length):=uZ (n:=(ws.length:Int)) (by rw [<- List.length_map (f:=D.str)]; rfl) (by omega)
 obtain ⟨σ',e1,B,gs,x4,l1,l2,l3,l4,rfl⟩:=tX (g:=zb 4) (b:=Wg) (fun i σ=>∃ (B:Str) (gs:List (List Nat)) (x4:Option Sl),gs.length=i/\(∀ g∈gs,gC g/\10 ∉ g)/\B.cps.toList=g0.cps.toList++loose ((ws.map fun t:Str=>t.cps.toList).take i) gs/\B.length<=4+30*i/\σ=[some (false,.str X),some (false,.int c),some (false,.lst (ws.map D.str)),some (false,.str B),x4,none]) (ds:=xG ws.length)
  (σ:=[some (false,.str X),some (false,.int c),some (false,.lst (ws.map D.str)),some (false,.str g0),none,none]) 0 ⟨g0,[],none,rfl,(fun _ h=>by cases h),(List.append_nil _).symm,b0.2,rfl⟩ (by
  rintro i v σ hv ⟨B,gs,x4,l1,l2,l3,l4,rfl⟩
  obtain ⟨hi,rfl⟩:=jj hv
  rw [Nat.zero_add] at *
  obtain ⟨m1,a1,a2⟩:=xH c (2+(i:Int)) 4 (by decide)
  obtain ⟨g,hg,ex⟩:=pL [" ", "  ", "\t", " \t "] a1 a2
  have ex:zH (.lst [.str " ",.str "  ",.str "\t",.str " \t "]) (.int (yV c (2+(i:Int)) 4))=some (.str g):=ex
  have bg:(gC g.cps.toList/\10 ∉ g.cps.toList)/\g.length<=3:=by
   simp only [List.mem_cons,List.not_mem_nil,or_false] at hg
   rcases hg with rfl | rfl | rfl | rfl<;>exact ⟨⟨⟨by decide,by unfold Bl; decide⟩,by decide⟩,by decide⟩
  have xw:zH (.lst (ws.map D.str)) (.int (i:Int))=some (.str ws[i]):=uP (by omega) (by rw [Int.toNat_natCast,List.getElem?_map,List.getElem?_eq_getElem hi]; rfl)
  obtain ⟨wd,wl⟩:=h ws[i] (List.getElem_mem hi)
  have ad1:zQ (.str B) (.str ws[i])=some (.str (B++ws[i])):=add_str (by omega)
  have ad2:zQ (.str (B++ws[i])) (.str g)=some (.str (B++ws[i]++g)):=add_str (by rw [xW]; omega)
  have tk:(ws.map fun t:Str=>t.cps.toList).take (i+1)=(ws.map fun t:Str=>t.cps.toList).take i++[ws[i].cps.toList]:=by
   rw [List.take_succ_eq_append_getElem (by rw [List.length_map]; exact hi),List.getElem_map]
  refine ⟨_,[some (false,.str X),some (false,.int c),some (false,.lst (ws.map D.str)),some (false,.str (B++ws[i]++g)),some (false,.int (i:Int)),none],rfl,.inl ?_,B++ws[i]++g,gs++[g.cps.toList],_,by rw [List.length_append,l1]; rfl,fun y hy=>?_,?_,?_,rfl⟩
  ·generalize ws[i]=WI at *
   unfold Wg
   simp! [xw,ad1,add_int,m1,ex,ad2]
  ·rcases List.mem_append.mp hy with hy | hy
   ·exact l2 y hy
   ·rw [List.mem_singleton.mp hy]
    exact bg.1
  ·rw [vh,vh,l3,tk,Wn _ _ (by rw [List.length_take,List.length_map]; omega)]
   simp only [List.append_assoc]
  ·rw [xW,xW]
   omega)
 rw [jk,Nat.zero_add] at *
 rw [List.take_of_length_le (by rw [List.length_map]; exact Nat.le_refl _)] at l3
 have wsW:∀ w∈ws.map (fun t:Str=>t.cps.toList),Wd w:=fun w hw=>by
  obtain ⟨t,ht,rfl⟩:=List.mem_map.mp hw
  exact (h t ht).1
 have lls:(ws.map fun t:Str=>t.cps.toList).length=gs.length:=by rw [List.length_map,l1]
 obtain ⟨m8,s1,s2⟩:=xH c 8 6 (by decide)
 obtain ⟨cm,hcm,exc⟩:=pL ["", ";", " ; set r1 2", ";;", "\t;loop: jump", "; note"] s1 s2
 have exc:zH (.lst [.str "",.str ";",.str " ; set r1 2",.str ";;",.str "\t;loop: jump",.str "; note"]) (.int (yV c 8 6))=some (.str cm):=exc
 have hc:Cm cm.cps.toList/\cm.length<=20:=by
  simp only [List.mem_cons,List.not_mem_nil,or_false] at hcm
  rcases hcm with rfl | rfl | rfl | rfl | rfl | rfl
  ·exact ⟨⟨by rfl,.inl rfl,by decide⟩,by decide⟩
  ·exact ⟨⟨by rfl,.inr ⟨_,_,rfl,.inl rfl⟩,by decide⟩,by decide⟩
  ·exact ⟨⟨by rfl,.inr ⟨_,_,rfl,.inr (.inl rfl)⟩,by decide⟩,by decide⟩
  ·exact ⟨⟨by rfl,.inr ⟨_,_,rfl,.inl rfl⟩,by decide⟩,by decide⟩
  ·exact ⟨⟨by rfl,.inr ⟨_,_,rfl,.inr (.inr rfl)⟩,by decide⟩,by decide⟩
  ·exact ⟨⟨by rfl,.inr ⟨_,_,rfl,.inl rfl⟩,by decide⟩,by decide⟩
 have lf10:∀ {vs hs:List (List Nat)},(∀ w∈vs,Wd w)->(∀ g∈hs,gC g/\10 ∉ g)->10 ∉ loose vs hs:=fun {vs}=>by
  induction vs with
  | nil=>intro hs _ _ z; cases z
  | cons w vs ih=>
   intro hs hw hg
   cases hs with
   | nil=>intro z; cases z
   | cons g hs=>
    intro z
    rcases List.mem_append.mp z with z | z
    ·rcases List.mem_append.mp z with z | z
     ·exact ((hw w List.mem_cons_self).ok 10 z).2.2.2 rfl
     ·exact (hg g List.mem_cons_self).2 z
    ·exact ih (fun x hx=>hw x (List.mem_cons_of_mem _ hx)) (fun x hx=>hg x (List.mem_cons_of_mem _ hx)) z
 have g10:10 ∉ g0.cps.toList:=fun z=>by
  rcases b0.1 10 z with q | q<;>exact absurd q (by decide)
 obtain ⟨m7,t1,t2⟩:=xH c 7 3 (by decide)
 have fin:∀ B':Str,B'.length<=B.length->W (B'.cps.toList++cm.cps.toList)=ws.map (fun t=>t.cps.toList)->10 ∉ B'.cps.toList->∃ Z:Str,zQ (.str B') (.str cm)=some (.str Z)/\Z.length<=200/\W Z.cps.toList=ws.map (fun t=>t.cps.toList)/\10 ∉ Z.cps.toList:=fun B' hb hw h10=>by
  refine ⟨B'++cm,add_str (by omega),by rw [xW]; omega,by rw [vh]; exact hw,?_⟩
  rw [vh]
  intro z
  rcases List.mem_append.mp z with z | z
  ·exact h10 z
  ·exact hc.1.fr z
 have b10:10 ∉ B.cps.toList:=by
  rw [l3]
  intro z
  rcases List.mem_append.mp z with z | z
  ·exact g10 z
  ·exact lf10 wsW l2 z
 rw [Lg]
 unfold Xc
 by_cases hs:0<yV c 7 3
 ·-- stripped
  obtain ⟨vi,vl,ev⟩:∃ vi vl,ws.map (fun t:Str=>t.cps.toList)=vi++[vl]:=⟨_,_,(List.dropLast_concat_getLast (by exact fun z=>ne (List.map_eq_nil_iff.mp z))).symm⟩
  obtain ⟨gi,gl,eg⟩:∃ gi gl,gs=gi++[gl]:=⟨_,_,(List.dropLast_concat_getLast (by
   intro z
   rw [z] at lls
   rw [ev,List.length_append] at lls
   simp at lls)).symm⟩
  have lig:vi.length=gi.length:=by
   rw [ev,eg,List.length_append,List.length_append] at lls
   simpa using lls
  have wvi:∀ w∈vi,Wd w:=fun w hw=>wsW w (by rw [ev]; exact List.mem_append_left _ hw)
  have wvl:Wd vl:=wsW vl (by rw [ev]; exact List.mem_append_right _ List.mem_cons_self)
  have ggi:∀ g∈gi,gC g/\10 ∉ g:=fun g hg=>l2 g (by rw [eg]; exact List.mem_append_left _ hg)
  have ggl:=(l2 gl (by rw [eg]; exact List.mem_append_right _ List.mem_cons_self)).1
  rw [ev,eg,Wn _ _ lig,<- List.append_assoc (loose vi gi)] at l3
  have nb:∀ {w:List Nat} {y:Nat},Wd w->y∈w->¬ Bl y:=fun {w y} q hy z=>by
   have:=q.ok y hy
   rcases z with z | z
   ·exact this.1 z
   ·exact this.2.1 z
  have st:=EB l3 b0.1 ggl.2 (fun y l q=>by
   cases vi with
   | nil=>
    cases vl with
    | nil=>exact absurd rfl wvl.ne
    | cons a r=>
     have q:a::(r++gl)=y::l:=by cases gi<;>exact q
     rw [<- (List.cons.inj q).1]
     exact nb wvl List.mem_cons_self
   | cons w vi=>
    cases gi with
    | nil=>simp at lig
    | cons g gi=>
     have ww:=wvi w List.mem_cons_self
     cases w with
     | nil=>exact absurd rfl ww.ne
     | cons a r=>
      have q:a::(r++g++loose vi gi++vl++gl)=y::l:=q
      rw [<- (List.cons.inj q).1]
      exact nb ww List.mem_cons_self) (fun y l q=>by
   rw [List.reverse_append] at q
   have:y∈vl.reverse:=by
    cases r:vl.reverse with
    | nil=>exact absurd (List.reverse_eq_nil_iff.mp r) wvl.ne
    | cons a b=>
     rw [r] at q
     rw [(List.cons.inj q).1]
     exact List.mem_cons_self
   exact nb wvl (List.mem_reverse.mp this)) (by
   intro z
   exact wvl.ne (List.append_eq_nil_iff.mp z).2)
  have sl:(Txt.stripChars B ⟨#[32,9]⟩).length<=B.length:=by
   rw [<- xn,st,<- xn B,l3]
   simp only [List.length_append]
   omega
  have fs:WN (.str B) (.str " \t")=some (.str (Txt.stripChars B ⟨#[32,9]⟩)):=if_pos (by show (Txt.stripChars B ⟨#[32,9]⟩).length<=_; omega)
  obtain ⟨Z,z1,z2⟩:=fin (Txt.stripChars B ⟨#[32,9]⟩) sl (by
   rw [st,List.append_assoc,XT lig wvi (fun g hg=>(ggi g hg).1),OC wvl hc.1,ev]) (by
   rw [st]
   intro z
   rcases List.mem_append.mp z with z | z
   ·exact lf10 wvi ggi z
   ·exact (wvl.ok 10 z).2.2.2 rfl)
  refine ⟨Z,?_,z2⟩
  have d1:decide ((0:Int)<yV c 7 3)=true:=decide_eq_true hs
  generalize Txt.stripChars B ⟨#[32,9]⟩=SB at *
  simp! [sp,m1,ex0,rg,e1,m7,d1,fs,m8,exc,z1]
 ·obtain ⟨Z,z1,z2⟩:=fin B (Nat.le_refl _) (by
   rw [l3,List.append_assoc,Uq b0.1,XT lls wsW (fun g hg=>(l2 g hg).1),hc.1.w,List.append_nil]) b10
  refine ⟨Z,?_,z2⟩
  have d1:decide ((0:Int)<yV c 7 3)=false:=decide_eq_false hs
  simp! [sp,m1,ex0,rg,e1,m7,d1,m8,exc,z1]
theorem Ef {N:List Str} (hN:qI N) {d:D} (h:t9 N d):∃ ws:List Str,ws≠[]/\ws.length<=4/\(∀ w∈ws,Wd w.cps.toList/\w.length<=20)/\ue [d]=some (false,.str (Builtin.Str.glued " " ws))/\∀ l:List Nat,W l=ws.map (fun t=>t.cps.toList)->u0 [l] [d]:=by
 obtain ⟨ws,a,b,c,e,f⟩:=MD hN h
 refine ⟨ws,a,b,c,e,fun l hl=>.one (by rw [hl]; exact fun z=>a (List.map_eq_nil_iff.mp z)) ?_ .nil⟩
 rw [hl,List.map_map]
 have:ws.map (sD ∘ fun t:Str=>t.cps.toList)=ws.map D.str:=List.map_congr_left fun z _=>VL z
 rw [this]
 exact f
theorem Mm {N:List Str} {items:List D} (nm:qI N) (it:∀ d∈items,t9 N d) (ln:items.length<=400) (c:Int):∃ ls:List Str,j_ [.lst items,.int c]=some (true,.lst (ls.map D.str))/\u0 (ls.map fun t:Str=>t.cps.toList) items/\(∀ l∈ls,10 ∉ l.cps.toList/\l.length<=200)/\ls.length<=2*items.length:=by
 have rg:JW [some (false,.lst items),some (false,.int c),some (true,.lst []),none]=some (xG items.length):=uZ (n:=(items.length:Int)) rfl (by omega)
 obtain ⟨σ',e1,ls,x3,a1,a2,a3,rfl⟩:=tX (g:=zb 3) (b:=Zi) (fun i σ=>∃ (ls:List Str) (x3:Option Sl),u0 (ls.map fun t:Str=>t.cps.toList) (items.take i)/\(∀ l∈ls,10 ∉ l.cps.toList/\l.length<=200)/\ls.length<=2*i/\σ=[some (false,.lst items),some (false,.int c),some (true,.lst (ls.map D.str)),x3]) (ds:=xG items.length)
  (σ:=[some (false,.lst items),some (false,.int c),some (true,.lst []),none]) 0 ⟨[],none,.nil,(fun _ h=>by cases h),Nat.le_refl _,rfl⟩ (by
  rintro i v σ hv ⟨ls,x3,a1,a2,a3,rfl⟩
  obtain ⟨hi,rfl⟩:=jj hv
  rw [Nat.zero_add] at *
  have xi:zH (.lst items) (.int (i:Int))=some items[i]:=uP (by omega) (by rw [Int.toNat_natCast]; exact List.getElem?_eq_getElem hi)
  have tk:items.take (i+1)=items.take i++[items[i]]:=List.take_succ_eq_append_getElem hi
  obtain ⟨ws,w1,w2,w3,w4,w5⟩:=Ef nm (it _ (List.getElem_mem hi))
  obtain ⟨Z,z1,z2,z3,z4⟩:=Mp w1 w2 w3 (c+3*(i:Int))
  have tz:=w5 _ z3
  obtain ⟨m9,s1,s2⟩:=xH (c+(i:Int)) 9 6 (by decide)
  obtain ⟨m10,t1,t2⟩:=xH (c+(i:Int)) 10 6 (by decide)
  obtain ⟨b,hb,exb⟩:=pL ["", "  ", "\t", "; stop", " ;", "\t \t;a:"] t1 t2
  have exb:zH (.lst [.str "",.str "  ",.str "\t",.str "; stop",.str " ;",.str "\t \t;a:"]) (.int (yV (c+(i:Int)) 10 6))=some (.str b):=exb
  have hbl:W b.cps.toList=[]/\10 ∉ b.cps.toList/\b.length<=200:=by
   simp only [List.mem_cons,List.not_mem_nil,or_false] at hb
   rcases hb with rfl | rfl | rfl | rfl | rfl | rfl<;>exact ⟨by rfl,by decide,by decide⟩
  have ll:∀ ks:List Str,(ks.map D.str).length=ks.length:=fun ks=>List.length_map _
  have l3:uW 3=true:=by decide
  by_cases h9:yV (c+(i:Int)) 9 6=1
  ·have f9:zL (.int (yV (c+(i:Int)) 9 6)) (.int 1)=some (.bl true):=by rw [h9]; rfl
   have ap1:=uh (L:=ls.map D.str) (r:=.str b) (by rw [ll]; omega)
   have ap2:=uh (L:=ls.map D.str++[.str b]) (r:=.str Z) (by rw [List.length_append,ll]; simp only [List.length_cons,List.length_nil]; omega)
   refine ⟨_,[some (false,.lst items),some (false,.int c),some (true,.lst (ls.map D.str++[.str b]++[.str Z])),some (false,.int (i:Int))],rfl,.inl ?_,ls++[b]++[Z],_,?_,fun l hl=>?_,?_,by rw [List.map_append,List.map_append]; rfl⟩
   ·generalize ls.map D.str=LS at *
    generalize items[i]=IT at *
    unfold Zi
    simp! [add_int,m9,f9,m10,exb,ap1,xi,w4,l3,z1,ap2]
   ·rw [tk,List.map_append,List.map_append,List.append_assoc]
    exact a1.app (.skip hbl.1 tz)
   ·rcases List.mem_append.mp hl with hl | hl
    ·rcases List.mem_append.mp hl with hl | hl
     ·exact a2 l hl
     ·rw [List.mem_singleton.mp hl]
      exact hbl.2
    ·rw [List.mem_singleton.mp hl]
     exact ⟨z4,z2⟩
   ·simp only [List.length_append,List.length_cons,List.length_nil]
    omega
  ·have f9:zL (.int (yV (c+(i:Int)) 9 6)) (.int 1)=some (.bl false):=wD h9
   have ap2:=uh (L:=ls.map D.str) (r:=.str Z) (by rw [ll]; omega)
   refine ⟨_,[some (false,.lst items),some (false,.int c),some (true,.lst (ls.map D.str++[.str Z])),some (false,.int (i:Int))],rfl,.inl ?_,ls++[Z],_,?_,fun l hl=>?_,?_,by rw [List.map_append]; rfl⟩
   ·generalize ls.map D.str=LS at *
    generalize items[i]=IT at *
    unfold Zi
    simp! [add_int,m9,f9,xi,w4,l3,z1,ap2]
   ·rw [tk,List.map_append]
    exact a1.app tz
   ·rcases List.mem_append.mp hl with hl | hl
    ·exact a2 l hl
    ·rw [List.mem_singleton.mp hl]
     exact ⟨z4,z2⟩
   ·simp only [List.length_append,List.length_cons,List.length_nil]
    omega)
 rw [jk,Nat.zero_add] at *
 rw [List.take_length] at a1
 refine ⟨ls,?_,a1,a2,a3⟩
 rw [Lf]
 unfold Xb
 simp! [rg,e1]
theorem IP {m:Nat}:∀ {l:List Str},(∀ w∈l,w.length<=m)->(l.map (·.length)).sum<=m*l.length
 | [],_=>Nat.zero_le _
 | a::l,h=>by
  have:=IP fun w hw=>h w (List.mem_cons_of_mem _ hw)
  have:=h a List.mem_cons_self
  simp only [List.map_cons,List.sum_cons,List.length_cons,Nat.mul_add,Nat.mul_one]
  omega
end L3
namespace L3
open PySem
noncomputable def Ud:FE:=(e2 yy (z8 2) (eC (.str "0123456789")))
noncomputable def Xf:FS:=
 (zI (zX (vb (tE (e2 zL (z8 0) (eC (.str "")))) (vb (uJ (tE (eL tN (z7 (yx 1 (w8 (z8 0)) (zb 2) yn Ud) zD)))) (xT (tE (e2 (xU fun i j=>decide (j<i)) (eL yF (z7 (z8 0) zD)) (eC (.int 1)))) (tE (e2 zL (e2 zH (z8 0) (eC (.int 0))) (eC (.str "0")))))))
   (zd (eC (.bl false)))
   zk)
  (zd (ul (e2 (xU fun i j=>decide (i<j)) (eL yF (z7 (z8 0) zD)) (eC (.int 7))) (e2 (xU fun i j=>decide (i<j)) (eL qT (z7 (z8 0) zD)) (z8 1)))))
noncomputable def pj:List D->Option (Bool×D):=FR 2 2 Xf
theorem Lj (x0 x1:D):pj [x0,x1]=yi 2 Xf [x0,x1]:=rfl
noncomputable def Ua:FE:=(e2 yy (z8 1) (eC (.str "abcdefghijklmnopqrstuvwxyz")))
noncomputable def XZ:FS:=
 (zI (zX (vb (tE (e2 (xU fun i j=>decide (i<j)) (eL yF (z7 (z8 0) zD)) (eC (.int 1)))) (tE (e2 (xU fun i j=>decide (j<i)) (eL yF (z7 (z8 0) zD)) (eC (.int 8)))))
   (zd (eC (.bl false)))
   zk)
  (zd (eL tN (z7 (yx 1 (w8 (z8 0)) (zb 1) yn Ua) zD))))
noncomputable def qC:List D->Option (Bool×D):=FR 1 1 XZ
theorem Ld (x0:D):qC [x0]=yi 1 XZ [x0]:=rfl
noncomputable def vI (c:Nat):Bool:=decide (48<=c)&&decide (c<=57)
theorem Td {c:Nat} (h:vI c=true):48<=c/\c<=57:=by
 unfold vI at h
 rw [Bool.and_eq_true] at h
 exact ⟨of_decide_eq_true h.1,of_decide_eq_true h.2⟩
theorem Te (c:Nat):yy (.str ⟨#[c]⟩) (.str "0123456789")=some (.bl (vI c)):=by
 show some (D.bl (!(Builtin.Str.occurrences ("0123456789" : Str) ⟨#[c]⟩ 0 ("0123456789" : Str).length 1).isEmpty))=_
 have e:("0123456789" : Str).cps.toList=[48,49,50,51,52,53,54,55,56,57]:=by rfl
 rw [StrLaws.found_one,e]
 congr 2
 unfold vI
 rw [<- Bool.decide_and]
 refine decide_eq_decide.mpr ?_
 simp only [List.mem_cons,List.not_mem_nil,or_false]
 omega
theorem W7 {σ:yD} {n:Nat} {e:FE} (he:∀ c:Nat,∃ σ1,zb n (.str ⟨#[c]⟩) σ=some σ1/\e σ1=some (.bl (vI c))):∀ l:List Nat,xQ (zb n) yn e σ (l.map fun c=>.str ⟨#[c]⟩)=some ((l.map vI).map D.bl)
 | []=>rfl
 | c::l=>by
  obtain ⟨σ1,e1,e2⟩:=he c
  rw [List.map_cons]
  show (zb n (.str ⟨#[c]⟩) σ).bind _=_
  rw [e1]
  show (e σ1).bind _=_
  rw [e2]
  show (xQ (zb n) yn e σ (l.map fun c=>.str ⟨#[c]⟩)).bind _=_
  rw [W7 he l]
  rfl
theorem Tc:∀ (k:Nat) {l:List Nat},l.length=k+1->(∀ c∈l,vI c=true)->(l.head?≠some 48\/l=[48])->∃ n:Nat,vm n=l/\(l≠[48]->10 ^ k<=n)/\n<10 ^ (k+1)
 | 0,l,hl,hd,_=>by
  match l,hl with
  | [c],_=>
   have:=Td (hd c List.mem_cons_self)
   refine ⟨c - 48,by rw [gP (by omega),show 48+(c - 48)=c by omega],fun h=>?_,by show _<10; omega⟩
   have:c≠48:=fun z=>h (by rw [z])
   show 1<=_
   omega
 | k+1,l,hl,hd,hh=>by
  obtain ⟨l',c,rfl⟩:∃ l' c,l=l'++[c]:=⟨_,_,(List.dropLast_concat_getLast (l:=l) (by intro z; rw [z] at hl; cases hl)).symm⟩
  have ll:l'.length=k+1:=by rw [List.length_append] at hl; simpa using hl
  have hne:l'++[c]≠[48]:=fun z=>by
   have:=congrArg List.length z
   rw [List.length_append,ll] at this
   simp at this
  have hh':l'.head?≠some 48:=by
   rcases hh with h | h
   ·cases l' with
    | nil=>cases ll
    | cons a r=>exact h
   ·exact absurd h hne
  obtain ⟨n',e,b,u⟩:=Tc k ll (fun x hx=>hd x (List.mem_append_left _ hx)) (.inl hh')
  have b:=b fun z=>hh' (by rw [z]; rfl)
  have p1:0<10 ^ k:=Nat.pow_pos (by decide)
  have:=Td (hd c (List.mem_append_right _ List.mem_cons_self))
  have p2:10 ^ (k+1)=10 ^ k*10:=Nat.pow_succ ..
  have p3:10 ^ (k+1+1)=10 ^ (k+1)*10:=Nat.pow_succ ..
  refine ⟨10*n'+(c - 48),?_,fun _=>by omega,by omega⟩
  rw [W5 (by omega),show (10*n'+(c - 48)) / 10=n' by omega,show (10*n'+(c - 48)) % 10=c - 48 by omega,e,show 48+(c - 48)=c by omega]
noncomputable def uD (l:List Nat):Bool:=!l.isEmpty&&(l.all vI&&!(decide (l.head?=some 48)&&!decide (l=[48])))
noncomputable def vE (w:Str):Int:=(PySem.intText? w).getD 0
noncomputable def wH (w:Str):D:=if uD w.cps.toList=true/\w.length<=5 then .int (vE w) else .non
theorem Ql {w:Str} (h:uD w.cps.toList=true) (hl:w.length<=6):0<=vE w/\w=yd (vE w)/\qT [.str w]=some (.int (vE w))/\(w.length<=5->vE w<100000)/\(6<=w.length->65536<=vE w):=by
 unfold uD at h
 rw [Bool.and_eq_true,Bool.and_eq_true] at h
 obtain ⟨h1,h2,h3⟩:=h
 have ne:w.cps.toList≠[]:=fun z=>by rw [z] at h1; cases h1
 have hd:∀ c∈w.cps.toList,vI c=true:=List.all_eq_true.mp h2
 have hh:w.cps.toList.head?≠some 48\/w.cps.toList=[48]:=by
  by_cases q:w.cps.toList=[48]
  ·exact .inr q
  ·left
   intro z
   rw [decide_eq_true z,decide_eq_false q] at h3
   cases h3
 obtain ⟨k,hk⟩:∃ k,w.cps.toList.length=k+1:=⟨w.cps.toList.length - 1,by
  have:w.cps.toList.length≠0:=fun z=>ne (List.length_eq_zero_iff.mp z)
  omega⟩
 obtain ⟨n,e,b,u⟩:=Tc k hk hd hh
 have ew:w=yd (n:Int):=ZF (by rw [X_ (by omega),Int.toNat_natCast,e])
 rw [xn] at hk
 have rd:PySem.intText? w=some (n:Int):=by
  rw [ew]
  exact PySem.W.KIN.num_reads (by omega) (by
   have:10 ^ (k+1)<=10 ^ 6:=Nat.pow_le_pow_right (by decide) (by omega)
   have:(10:Nat) ^ 6=1000000:=by decide
   have:(10:Int) ^ 10=10000000000:=by decide
   omega)
 have ev:vE w=(n:Int):=by
  unfold vE
  rw [rd]
  rfl
 have ln5:(10:Nat) ^ 5=100000:=by decide
 refine ⟨by omega,by rw [ev]; exact ew,?_,fun q=>?_,fun q=>?_⟩
 ·show (if w.length<=640 then (PySem.intText? w).bind _ else none)=_
  rw [if_pos (by omega),rd,ev]
  rfl
 ·have:10 ^ (k+1)<=10 ^ 5:=Nat.pow_le_pow_right (by decide) (by omega)
  omega
 ·have n48:w.cps.toList≠[48]:=fun z=>by
   have:=congrArg List.length z
   rw [xn] at this
   simp at this
   omega
  have:=b n48
  have:10 ^ 5<=10 ^ k:=Nat.pow_le_pow_right (by decide) (by omega)
  omega
theorem Tr (w:Str):zL (.str w) (.str "")=some (.bl w.cps.toList.isEmpty):=by
 obtain ⟨⟨l⟩⟩:=w
 cases l<;>rfl
theorem gT (w u:Str):zL (.str w) (.str u)=some (.bl (decide (w.cps.toList=u.cps.toList))):=by
 have e:zL (.str w) (.str u)=some (.bl (w == u)):=by rfl
 rw [e]
 congr 2
 refine Bool.eq_iff_iff.mpr ⟨fun h=>?_,fun h=>?_⟩
 ·rw [eq_of_beq h]
  exact decide_eq_true rfl
 ·rw [ZF (of_decide_eq_true h)]
  exact beq_self_eq_true u
theorem Tt (w:Str):tN [.lst ((w.cps.toList.map vI).map D.bl)]=some (.bl (w.cps.toList.all vI)):=by
 rw [gI,List.all_map]
 rfl
theorem IY {w:Str}:qx [.str w]=some (false,wH w):=by
 have lc:=W7 (n:=1) (e:=kT) (σ:=[some (false,.str w),none]) (fun c=>⟨_,rfl,by have:=Te c; unfold kT; simp! [this]⟩) w.cps.toList
 have al:=Tt w
 have ee:=Tr w
 have st:pA (.str w) (.str "0")=some (.bl (decide (w.cps.toList.head?=some 48))):=by
  show some (D.bl (Txt.startswith w ⟨#[48]⟩))=_
  rw [YJ]
 have nz:xP (.str w) (.str "0")=some (.bl (!decide (w.cps.toList=[48]))):=by
  have:=gx (gT w "0")
  exact this
 have ln:yF [.str w]=some (.int w.length):=rfl
 have nv:¬ (uD w.cps.toList=true/\w.length<=5)->wH w=.non:=fun h=>if_neg h
 have yv:uD w.cps.toList=true->w.length<=5->wH w=.int (vE w)/\qT [.str w]=some (.int (vE w)):=fun h1 h2=>⟨if_pos ⟨h1,h2⟩,(Ql h1 (by omega)).2.2.1⟩
 unfold uD at nv yv
 rw [Q4]
 unfold ZA
 generalize (w.cps.toList.map vI).map D.bl=BB at *
 generalize wH w=ND at *
 generalize vE w=VT at *
 cases h0:w.cps.toList.isEmpty with
 | true=>
  rw [h0] at ee nv
  rw [nv (fun z=>by have:=z.1; cases this)]
  simp! [ee]
 | false=>
  rw [h0] at ee nv yv
  by_cases h5:(5:Int)<(w.length:Int)
  ·rw [nv (fun z=>by have:=z.2; omega)]
   have:=decide_eq_true h5
   simp! [ee,ln,this]
  ·have l5:=decide_eq_false h5
   cases h1:w.cps.toList.all vI with
   | false=>
    rw [h1] at al nv
    rw [nv (fun z=>by have:=z.1; cases this)]
    simp! [ee,ln,l5,lc,al]
   | true=>
    rw [h1] at al nv yv
    cases h2:decide (w.cps.toList.head?=some 48) with
    | false=>
     rw [h2] at st yv
     obtain ⟨y1,y2⟩:=yv rfl (by omega)
     rw [y1]
     simp! [ee,ln,l5,lc,al,st,y2]
    | true=>
     rw [h2] at st nv yv
     cases h3:decide (w.cps.toList=[48]) with
     | false=>
      rw [h3] at nz nv
      rw [nv (fun z=>by have:=z.1; cases this)]
      simp! [ee,ln,l5,lc,al,st,nz,Bool.not_false]
     | true=>
      rw [h3] at nz yv
      obtain ⟨y1,y2⟩:=yv rfl (by omega)
      rw [y1]
      simp! [ee,ln,l5,lc,al,st,nz,y2,Bool.not_true]
theorem Qa {w:Str} {m:Int} (hm:m<=65536):pj [.str w,.int m]=some (false,.bl (yl (.num m) (wH w))):=by
 have lc:=W7 (n:=2) (e:=Ud) (σ:=[some (false,.str w),some (false,.int m),none]) (fun c=>⟨_,rfl,by have:=Te c; unfold Ud; simp! [this]⟩) w.cps.toList
 have al:=Tt w
 have ee:=Tr w
 have ln:yF [.str w]=some (.int w.length):=rfl
 have ll:=xn w
 have nv:uD w.cps.toList=false->yl (.num m) (wH w)=false:=fun h=>by
  unfold wH
  rw [if_neg (fun z=>by rw [h] at z; cases z.1)]
  rfl
 have nl:6<=w.length->yl (.num m) (wH w)=false:=fun h=>by
  unfold wH
  rw [if_neg (fun z=>by have:=z.2; omega)]
  rfl
 have yv:uD w.cps.toList=true->w.length<=6->qT [.str w]=some (.int (vE w))/\decide (vE w<m)=yl (.num m) (wH w):=fun h1 h2=>by
  obtain ⟨v0,v1,v2,v3,v4⟩:=Ql h1 (by omega)
  refine ⟨v2,?_⟩
  by_cases c:w.length<=5
  ·unfold wH
   rw [if_pos ⟨h1,c⟩]
   show _=(decide (0<=vE w)&&decide (vE w<m))
   rw [decide_eq_true v0]
   rfl
  ·rw [nl (by omega)]
   exact decide_eq_false (by have:=v4 (by omega); omega)
 unfold uD at nv yv
 rw [Lj]
 unfold Xf
 generalize (w.cps.toList.map vI).map D.bl=BB at *
 generalize yl (.num m) (wH w)=FK at *
 generalize vE w=VT at *
 cases h0:w.cps.toList with
 | nil=>
  rw [h0] at ee nv
  rw [nv rfl]
  have ee:zL (.str w) (.str "")=some (.bl true):=ee
  simp! [ee]
 | cons a r=>
  have i0:zH (.str w) (.int 0)=some (.str ⟨#[a]⟩):=by
   show (xX w.cps.toList 0).bind _=_
   rw [h0]
   rfl
  have e0:zL (.str ⟨#[a]⟩) (.str "0")=some (.bl (decide (a=48))):=by
   rw [gT]
   show some (D.bl (decide ([a]=[48])))=_
   congr 2
   exact decide_eq_decide.mpr ⟨fun h=>(List.cons.inj h).1,fun h=>by rw [h]⟩
  rw [h0] at ee nv yv ll
  have ee:zL (.str w) (.str "")=some (.bl false):=ee
  have hl:r=[]↔w.length=1:=by
   rw [<- ll,List.length_cons]
   exact ⟨fun h=>by rw [h]; rfl,fun h=>List.length_eq_zero_iff.mp (by omega)⟩
  have fin:uD (a::r)=true->(zd (ul (e2 (xU fun i j=>decide (i<j)) (eL yF (z7 (z8 0) zD)) (eC (.int 7))) (e2 (xU fun i j=>decide (i<j)) (eL qT (z7 (z8 0) zD)) (z8 1)))) [some (false,.str w),some (false,.int m)]=some (.rt false (.bl FK)):=fun hn=>by
   by_cases h7:(w.length:Int)<7
   ·have l7:=decide_eq_true h7
    obtain ⟨y1,y2⟩:=yv hn (by omega)
    simp! [ln,l7,y1,y2]
   ·have l7:=decide_eq_false h7
    rw [nl (by omega)]
    simp! [ln,l7]
  cases h1:(a::r).all vI with
  | false=>
   rw [h0,h1] at al
   rw [nv (by rw [h1]; rfl)]
   simp! [ee,lc,al]
  | true=>
   rw [h0,h1] at al
   by_cases h2:(1:Int)<(w.length:Int)
   ·have l1:=decide_eq_true h2
    by_cases ha:a=48
    ·rw [decide_eq_true ha] at e0
     have:¬ (a::r=[48]):=fun z=>by
      have:=hl.mp (List.cons.inj z).2
      omega
     rw [nv (by rw [h1,decide_eq_false this,List.head?_cons,ha]; rfl)]
     simp! [ee,lc,al,ln,l1,i0,e0]
    ·rw [decide_eq_false ha] at e0
     have fin:=fin (by
      unfold uD
      rw [h1,List.head?_cons,decide_eq_false (fun z=>ha (Option.some.inj z))]
      rfl)
     generalize zd _=SR at *
     simp! [ee,lc,al,ln,l1,i0,e0,fin]
   ·have l1:=decide_eq_false h2
    have hr:=hl.mpr (by
     rw [<- ll,List.length_cons]
     rw [<- ll,List.length_cons] at h2
     omega)
    have fin:=fin (by
     unfold uD
     rw [h1,List.head?_cons,hr]
     by_cases ha:a=48
     ·rw [ha]; decide
     ·rw [decide_eq_false (fun z=>ha (Option.some.inj z))]
      rfl)
    generalize zd _=SR at *
    simp! [ee,lc,al,ln,l1,fin]
theorem QZ (t:Str):qC [.str t]=some (false,.bl (uq t)):=by
 have lc:=QY (n:=1) (e:=Ua) (σ:=[some (false,.str t),none]) (fun z=>⟨_,rfl,by have:=QC z; unfold Ua; simp! [this]⟩) t
 have al:=gI (t.cps.toList.map fun c=>vU ⟨#[c]⟩)
 show _=some (false,D.bl (!decide ((t.length:Int)<1)&&(!decide (8<(t.length:Int))&&(t.cps.toList.map fun c=>vU ⟨#[c]⟩).all id)))
 rw [Ld]
 unfold XZ
 generalize (t.cps.toList.map fun c=>vU ⟨#[c]⟩)=BB at *
 cases h1:decide ((t.length:Int)<1) with
 | true=>simp! [h1,Bool.not_true,Bool.false_and]
 | false=>
  cases h2:decide (8<(t.length:Int)) with
  | true=>simp! [h1,h2,Bool.not_true,Bool.not_false,Bool.false_and,Bool.and_false]
  | false=>simp! [h1,h2,lc,al,Bool.not_false,Bool.true_and]
end L3
namespace L3
open PySem
noncomputable def JV:FA:=(xm (eC (.int 0)) (eL yF (z7 (z8 1) zD)))
noncomputable def jO:FS:=(zI (zT 3 (e2 zH (z8 0) (e2 zQ (z8 2) (eC (.int 1)))))
    (zI (zX (tE (e2 zL (e2 zH (z8 1) (z8 2)) (eC (.str "name"))))
     (zT 4 (zR qC (z7 (z8 3) zD)))
     (zX (tE (e2 zL (e2 zH (z8 1) (z8 2)) (eC (.str "mark"))))
       (zT 4 (e2 yy (z8 3) (zu (z7 (eC (.str "carry")) (z7 (eC (.str "nought")) (z7 (eC (.str "sign")) zD))))))
       (zX (tE (e2 zL (e2 zH (z8 1) (z8 2)) (eC (.int 8))))
         (zT 4 (ul (e2 zL (yE (z8 3) yI (zy (eC (.int 1)))) (eC (.str "r"))) (zR pj (z7 (yE (z8 3) (zy (eC (.int 1))) yI) (z7 (eC (.int 8)) zD)))))
         (zT 4 (zR pj (z7 (z8 3) (z7 (e2 zH (z8 1) (z8 2)) zD)))))))
    (zX (uJ (tE (z8 4)))
     (zd (eC (.bl false)))
     zk)))
noncomputable def Z9:FS:=
 (zI (zX (tE (e2 u9 (e2 zH (z8 0) (eC (.int 0))) (zR pp zD)))
   (zd (eC (.bl false)))
   zk)
  (zI (zT 1 (zR wB (z7 (e2 zH (z8 0) (eC (.int 0))) zD)))
  (zI (zX (tE (e2 xP (eL yF (z7 (z8 0) zD)) (e2 zQ (eL yF (z7 (z8 1) zD)) (eC (.int 1)))))
   (zd (eC (.bl false)))
   zk)
  (zI (vO JV (zb 2)
   jO)
  (zd (eC (.bl true)))))))
noncomputable def vz:List D->Option (Bool×D):=FR 1 5 Z9
theorem Q3 (x0:D):vz [x0]=yi 5 Z9 [x0]:=rfl
theorem gS (w u:Str):zL (.str w) (.str u)=some (.bl (decide (w=u))):=by
 rw [gT]
 congr 2
 exact decide_eq_decide.mpr ⟨ZF,fun h=>by rw [h]⟩
noncomputable def vD (f w:Str):D:=if f = "n" then wH w else if f = "d" \/ f = "s" then (if w.cps.toList.head?=some 114 then wH (L2.cutS w (some 1) none) else .non) else .str w
theorem LM (f w:Str):pY [.str f,.str w]=some (false,vD f w):=by
 have e1:=gS f "n"
 have e2:=gS f "d"
 have e3:=gS f "s"
 have t1:=IY (w:=w)
 have t2:=IY (w:=L2.cutS w (some 1) none)
 have sl:xj (.str w) (some 1) none=some (.str (L2.cutS w (some 1) none)):=rfl
 have st:pA (.str w) (.str "r")=some (.bl (decide (w.cps.toList.head?=some 114))):=by
  show some (D.bl (Txt.startswith w ⟨#[114]⟩))=_
  rw [YJ]
 unfold vD
 rw [ZP]
 unfold j8
 by_cases hn:f = "n"
 ·rw [if_pos hn]
  rw [decide_eq_true hn] at e1
  simp! [e1,t1]
 ·rw [if_neg hn]
  rw [decide_eq_false hn] at e1
  by_cases hd:f = "d" \/ f = "s"
  ·rw [if_pos hd]
   by_cases hh:w.cps.toList.head?=some 114
   ·rw [if_pos hh]
    rw [decide_eq_true hh] at st
    generalize L2.cutS w (some 1) none=C at *
    by_cases h2:f = "d"
    ·rw [decide_eq_true h2] at e2
     simp! [e1,e2,st,yE,zy,yI,sl,t2]
    ·rw [decide_eq_false h2] at e2
     rw [decide_eq_true (hd.resolve_left h2)] at e3
     simp! [e1,e2,e3,st,yE,zy,yI,sl,t2]
   ·rw [if_neg hh]
    rw [decide_eq_false hh] at st
    by_cases h2:f = "d"
    ·rw [decide_eq_true h2] at e2
     simp! [e1,e2,st]
    ·rw [decide_eq_false h2] at e2
     rw [decide_eq_true (hd.resolve_left h2)] at e3
     simp! [e1,e2,e3,st]
  ·rw [if_neg hd]
   rw [decide_eq_false fun z=>hd (.inl z)] at e2
   rw [decide_eq_false fun z=>hd (.inr z)] at e3
   simp! [e1,e2,e3]
inductive jt:Str->Kd->D->Prop
 | name:jt "name" .name (.str "name")
 | mark:jt "mark" .mark (.str "mark")
 | reg {f:Str} (hf:f = "d" \/ f = "s"):jt f (.num 8) (.int 8)
 | num {m:Int} (h8:m≠8) (hm:m<=65536):jt "n" (.num m) (.int m)
inductive pX:List Str->List Kd->List D->Prop
 | nil:pX [] [] []
 | cons {f:Str} {k:Kd} {s:D} {fs:List Str} {ks:List Kd} {ss:List D}:jt f k s->pX fs ks ss->pX (f::fs) (k::ks) (s::ss)
structure XM (w:Str) (fs:List Str) (ks:List Kd) (ss:List D) (jw:Bool):Prop where
 kw:kZ w fs
 fk:t7 w fs ks ss
 fr:pX fs ks ss
 sh:∃ o,wB [.str w]=some (o,.lst ss)
 ln:ks.length<=3
 nl:zL (.str w) (.str "label")=some (.bl false)
 ij:∀ ds,jH (.tup (.str w::ds))=jw
 jn:yy (.str w) (.lst [.str "jump",.str "when",.str "unless"])=some (.bl jw)
 la:jw=true->∃ f':List Str,fs=f'++[("name" : Str)]
 nw:u9 (.str w) qu=some (.bl false)
theorem QR {w:Str} (hw:xy w):∃ fs ks ss jw,XM w fs ks ss jw:=by
 rcases hw with hw | hw | hw | hw | hw | hw | hw
 ·refine ⟨["d", "n"],[.num 8,.num 65536],[.int 8,.int 65536],false,?_⟩
  refine ⟨?_,.cons (wS w (.inl rfl)) (.cons (tR (W:=16) ?_ (by decide) (by decide)) .nil),.cons (.reg (.inl rfl)) (.cons (.num (by decide) (by decide)) .nil),⟨_,U9 hw⟩,by simp,?_,?_,?_,(by intro z; cases z),?_⟩<;>rcases hw with rfl | rfl
  all_goals first | exact ⟨rfl,rfl⟩ | rfl | (intro _; rfl)
 ·refine ⟨["d", "n"],[.num 8,.num 32],[.int 8,.int 32],false,?_⟩
  refine ⟨?_,.cons (wS w (.inl rfl)) (.cons (tR (W:=5) ?_ (by decide) (by decide)) .nil),.cons (.reg (.inl rfl)) (.cons (.num (by decide) (by decide)) .nil),⟨_,UB hw⟩,by simp,?_,?_,?_,(by intro z; cases z),?_⟩<;>rcases hw with rfl | rfl
  all_goals first | exact ⟨rfl,rfl⟩ | rfl | (intro _; rfl)
 ·refine ⟨["d", "s", "n"],[.num 8,.num 8,.num 256],[.int 8,.int 8,.int 256],false,?_⟩
  refine ⟨?_,.cons (wS w (.inl rfl)) (.cons (wS w (.inr rfl)) (.cons (tR (W:=8) ?_ (by decide) (by decide)) .nil)),.cons (.reg (.inl rfl)) (.cons (.reg (.inr rfl)) (.cons (.num (by decide) (by decide)) .nil)),⟨_,UA hw⟩,by simp,?_,?_,?_,(by intro z; cases z),?_⟩<;>rcases hw with rfl | rfl | rfl | rfl
  all_goals first | exact ⟨rfl,rfl⟩ | rfl | (intro _; rfl)
 ·refine ⟨["d", "s"],[.num 8,.num 8],[.int 8,.int 8],false,?_⟩
  refine ⟨?_,.cons (wS w (.inl rfl)) (.cons (wS w (.inr rfl)) .nil),.cons (.reg (.inl rfl)) (.cons (.reg (.inr rfl)) .nil),⟨_,UE hw⟩,by simp,?_,?_,?_,(by intro z; cases z),?_⟩<;>rcases hw with rfl | rfl | rfl | rfl | rfl | rfl | rfl | rfl | rfl
  all_goals first | exact ⟨rfl,rfl⟩ | rfl | (intro _; rfl)
 ·subst hw
  exact ⟨["name"],[.name],[.str "name"],true,⟨⟨rfl,rfl⟩,.cons (tQ _) .nil,.cons .name .nil,⟨_,UC (.inl rfl)⟩,by simp,rfl,fun _=>rfl,rfl,fun _=>⟨[],rfl⟩,rfl⟩⟩
 ·refine ⟨["mark", "name"],[.mark,.name],[.str "mark",.str "name"],true,?_⟩
  refine ⟨?_,.cons (WQ w) (.cons (tQ w) .nil),.cons .mark (.cons .name .nil),⟨_,U8 hw⟩,by simp,?_,?_,?_,fun _=>⟨["mark"],rfl⟩,?_⟩<;>rcases hw with rfl | rfl
  all_goals first | exact ⟨rfl,rfl⟩ | rfl | (intro _; rfl)
 ·subst hw
  exact ⟨[],[],[],false,⟨⟨rfl,rfl⟩,.nil,.nil,⟨_,UD⟩,by simp,rfl,fun _=>rfl,rfl,(by intro z; cases z),rfl⟩⟩
noncomputable def uo (a:Nat):Nat->List D
 | 0=>[]
 | n+1=>.int (a:Int)::uo (a+1) n
theorem Ie (n:Nat):xG n=uo 0 n:=by
 have g:∀ (n a:Nat),(List.range' a n).map (fun i:Nat=>D.int (i:Int))=uo a n:=fun n=>by
  induction n with
  | zero=>intro a; rfl
  | succ n ih=>
   intro a
   rw [List.range'_succ,List.map_cons,ih]
   rfl
 have:=g n 0
 rw [<- List.range_eq_range'] at this
 exact this
theorem Wr {α:Type} (p:List α) (x:α) (r:List α):(p++x::r)[p.length]?=some x:=by
 rw [List.getElem?_append_right (Nat.le_refl _),Nat.sub_self]
 rfl
theorem D0 (v:Str):zL (.str (L2.cutS v none (some 1))) (.str "r")=some (.bl (decide (v.cps.toList.head?=some 114))):=by
 rw [gT]
 congr 2
 refine decide_eq_decide.mpr ?_
 have e:(L2.cutS v none (some 1)).cps.toList=v.cps.toList.take 1:=by
  show (v.cps.toList.drop (HT.sIx v.length 0 none)).take (HT.sIx v.length v.length (some 1) - HT.sIx v.length 0 none)=_
  have e1:HT.sIx v.length 0 none=0:=rfl
  have e2:=HT.sIx_nat v.length v.length 1
  rw [show (((1:Nat):Int))=1 from rfl] at e2
  rw [e1,e2,List.drop_zero,Nat.sub_zero]
  have:=xn v
  by_cases c:1<=v.length
  ·rw [Nat.min_eq_left c]
  ·rw [List.length_eq_zero_iff.mp (show v.cps.toList.length=0 by omega),List.take_nil,List.take_nil]
 rw [e]
 cases v.cps.toList with
 | nil=>exact ⟨fun h=>(by cases h),fun h=>(by cases h)⟩
 | cons a r=>
  show [a]=[114]↔some a=some 114
  exact ⟨fun h=>by rw [(List.cons.inj h).1],fun h=>by rw [Option.some.inj h]⟩
theorem M4 (v:Str):yy (.str v) (.lst [.str "carry",.str "nought",.str "sign"])=some (.bl (gv v)):=by
 have e:∀ u:Str,yG (.str u) (.str v)=(u == v):=fun u=>by unfold yG; rfl
 have:=pD v ["carry", "nought", "sign"]
 show (vT (.str v) (.lst [.str "carry",.str "nought",.str "sign"])).bind _=_
 rw [show vT (.str v) (.lst [.str "carry",.str "nought",.str "sign"])=_ from this]
 show some (D.bl (decide (v∈(["carry", "nought", "sign"]:List Str))))=_
 congr 2
 refine Bool.eq_iff_iff.mpr ?_
 unfold gv
 simp only [decide_eq_true_iff,Bool.or_eq_true,beq_iff_eq,List.mem_cons,List.not_mem_nil,or_false,Bool.false_eq_true]
 exact ⟨fun h=>by rcases h with h | h | h<;>simp [h],fun h=>by rcases h with h | h | h<;>simp [<- h]⟩
theorem Jj {w0:Str}:∀ {fs:List Str} {ks:List Kd} {ss:List D} {vs pv:List Str} {ps:List D},pX fs ks ss->vs.length=fs.length->pv.length=ps.length->∀ x2 x3 x4,
  ∃ σ',xN (zb 2) jO (uo ps.length ss.length) [some (false,.lst ((w0::(pv++vs)).map D.str)),some (false,.lst (ps++ss)),x2,x3,x4]=if xz ks (List.zipWith vD fs vs)=true then some (.nx σ') else some (.rt false (.bl false))
 | _,_,_,vs,pv,ps,.nil,hl,_,x2,x3,x4=>by
  cases vs with
  | nil=>exact ⟨_,rfl⟩
  | cons _ _=>cases hl
 | f::fs,k::ks,s::ss,vs,pv,ps,.cons F r,hl,hp,x2,x3,x4=>by
  cases vs with
  | nil=>cases hl
  | cons v vs=>
   have xs:zH (.lst (ps++s::ss)) (.int (ps.length:Int))=some s:=uP (by omega) (by rw [Int.toNat_natCast]; exact Wr ..)
   have xw:zH (.lst ((w0::(pv++v::vs)).map D.str)) (.int ((ps.length:Int)+1))=some (.str v):=uP (by omega) (by
    rw [show ((ps.length:Int)+1).toNat=ps.length+1 by omega,List.map_cons,List.getElem?_cons_succ,List.getElem?_map,<- hp,Wr]
    rfl)
   obtain ⟨σ',e⟩:=Jj (w0:=w0) (vs:=vs) (pv:=pv++[v]) (ps:=ps++[s]) r (by simpa using hl) (by rw [List.length_append,List.length_append,hp]; rfl) (some (false,.int (ps.length:Int))) (some (false,.str v)) (some (false,.bl true))
   refine ⟨σ',?_⟩
   have body:jO [some (false,.lst ((w0::(pv++v::vs)).map D.str)),some (false,.lst (ps++s::ss)),some (false,.int (ps.length:Int)),x3,x4]=if yl k (vD f v)=true then some (.nx [some (false,.lst ((w0::(pv++v::vs)).map D.str)),some (false,.lst (ps++s::ss)),some (false,.int (ps.length:Int)),some (false,.str v),some (false,.bl true)]) else some (.rt false (.bl false)):=by
    generalize (w0::(pv++v::vs)).map D.str=WW at *
    generalize ps++s::ss=SS at *
    unfold jO
    cases F with
    | name=>
     have nm:=QZ v
     have a1:zL (.str "name") (.str "name")=some (.bl true):=by rfl
     have:yl .name (vD "name" v)=uq v:=rfl
     rw [this]
     cases c:uq v with
     | true=>rw [c] at nm; rw [if_pos rfl]; simp! [add_int,xw,xs,a1,nm]
     | false=>rw [c] at nm; rw [if_neg (by decide)]; simp! [add_int,xw,xs,a1,nm]
    | mark=>
     have nm:=M4 v
     have a1:zL (.str "mark") (.str "name")=some (.bl false):=by rfl
     have a2:zL (.str "mark") (.str "mark")=some (.bl true):=by rfl
     have:yl .mark (vD "mark" v)=gv v:=rfl
     rw [this]
     cases c:gv v with
     | true=>rw [c] at nm; rw [if_pos rfl]; simp! [add_int,xw,xs,a1,a2,nm]
     | false=>rw [c] at nm; rw [if_neg (by decide)]; simp! [add_int,xw,xs,a1,a2,nm]
    | reg hf=>
     have a1:zL (.int 8) (.str "name")=some (.bl false):=by rfl
     have a2:zL (.int 8) (.str "mark")=some (.bl false):=by rfl
     have a3:zL (.int 8) (.int 8)=some (.bl true):=by rfl
     have nm:=Qa (w:=L2.cutS v (some 1) none) (m:=8) (by decide)
     have s1:xj (.str v) none (some 1)=some (.str (L2.cutS v none (some 1))):=rfl
     have s2:xj (.str v) (some 1) none=some (.str (L2.cutS v (some 1) none)):=rfl
     have o1:=D0 v
     have ev:vD f v=if v.cps.toList.head?=some 114 then wH (L2.cutS v (some 1) none) else .non:=by
      unfold vD
      rw [if_neg (by rcases hf with rfl | rfl<;>decide),if_pos hf]
     rw [ev]
     by_cases hh:v.cps.toList.head?=some 114
     ·rw [if_pos hh]
      rw [decide_eq_true hh] at o1
      generalize L2.cutS v (some 1) none=C1 at *
      generalize L2.cutS v none (some 1)=C2 at *
      cases c:yl (.num 8) (wH C1) with
      | true=>rw [c] at nm; rw [if_pos rfl]; simp! [add_int,xw,xs,a1,a2,a3,yE,zy,yI,s1,o1,s2,nm]
      | false=>rw [c] at nm; rw [if_neg (by decide)]; simp! [add_int,xw,xs,a1,a2,a3,yE,zy,yI,s1,o1,s2,nm]
     ·rw [if_neg hh]
      rw [decide_eq_false hh] at o1
      generalize L2.cutS v none (some 1)=C2 at *
      have:yl (.num 8) .non=false:=rfl
      rw [this,if_neg (by decide)]
      simp! [add_int,xw,xs,a1,a2,a3,yE,zy,yI,s1,o1]
    | num h8 hm=>
     rename_i m
     have a1:zL (.int m) (.str "name")=some (.bl false):=by rfl
     have a2:zL (.int m) (.str "mark")=some (.bl false):=by rfl
     have a3:=wD h8
     have nm:=Qa (w:=v) hm
     have ev:vD "n" v=wH v:=rfl
     rw [ev]
     cases c:yl (.num m) (wH v) with
     | true=>rw [c] at nm; rw [if_pos rfl]; simp! [add_int,xw,xs,a1,a2,a3,nm]
     | false=>rw [c] at nm; rw [if_neg (by decide)]; simp! [add_int,xw,xs,a1,a2,a3,nm]
   show (zb 2 (.int (ps.length:Int)) _).bind _=_
   show (jO [some (false,.lst ((w0::(pv++v::vs)).map D.str)),some (false,.lst (ps++s::ss)),some (false,.int (ps.length:Int)),x3,x4]).bind _=_
   rw [body]
   show _=if (yl k (vD f v)&&xz ks (List.zipWith vD fs vs))=true then _ else _
   cases c:yl k (vD f v) with
   | false=>rfl
   | true=>
    rw [List.length_append,List.append_assoc,List.append_assoc] at e
    exact e
theorem G9 {w:Str} (hw:¬ xy w):u9 (.str w) qu=some (.bl true):=by
 have:=pD w ["set", "high", "copy", "add", "addc", "sub", "subc", "and", "or", "xor", "test", "left", "right", "load", "store", "loadw", "storew", "jump", "when", "unless", "stop"]
 show (vT (.str w) qu).bind _=_
 rw [show vT (.str w) qu=_ from this,decide_eq_false (fun z=>by
  simp only [List.mem_cons,List.not_mem_nil,or_false] at z
  rcases z with rfl | rfl | rfl | rfl | rfl | rfl | rfl | rfl | rfl | rfl | rfl | rfl | rfl | rfl | rfl | rfl | rfl | rfl | rfl | rfl | rfl<;>exact hw (by unfold xy; simp))]
 rfl
end L3
namespace L3
open PySem
theorem Oo {a:D} {xs:List D}:xj (.lst (a::xs)) (some 1) none=some (.lst xs):=by
 show some (D.lst (xD (a::xs) (some 1) none))=_
 unfold xD
 rw [show (1:Int)=((1:Nat):Int) from rfl,HT.sIx_nat]
 show some (D.lst ((List.drop (min 1 (xs.length+1)) (a::xs)).take (xs.length+1 - min 1 (xs.length+1))))=_
 rw [show min 1 (xs.length+1)=1 by omega,show xs.length+1 - 1=xs.length by omega]
 show some (D.lst (xs.take xs.length))=_
 rw [List.take_length]
theorem O3 {σ:yD} (hs:5<=σ.length):∀ (fs vs:List Str),xQ (y_ 3 4) yn tu σ (List.zipWith (fun x y=>D.tup [x,y]) (fs.map D.str) (vs.map D.str))=some (List.zipWith vD fs vs)
 | [],vs=>by
  rw [List.map_nil,List.zipWith_nil_left,List.zipWith_nil_left]
  rfl
 | f::fs,[]=>by
  rw [List.map_nil,List.zipWith_nil_right,List.zipWith_nil_right]
  rfl
 | f::fs,v::vs=>by
  have ih:=O3 hs fs vs
  rw [List.map_cons,List.map_cons,List.zipWith_cons_cons,List.zipWith_cons_cons]
  have g:y_ 3 4 (.tup [.str f,.str v]) σ=some ((σ.set 3 (some (false,.str f))).set 4 (some (false,.str v))):=rfl
  have fa:=LM f v
  have e:tu ((σ.set 3 (some (false,.str f))).set 4 (some (false,.str v)))=some (vD f v):=by
   have g3:((σ.set 3 (some (false,.str f))).set 4 (some (false,.str v)))[3]?=some (some (false,.str f)):=by
    rw [List.getElem?_set_ne (by decide),List.getElem?_set_self (by omega)]
   have g4:((σ.set 3 (some (false,.str f))).set 4 (some (false,.str v)))[4]?=some (some (false,.str v)):=by
    rw [List.getElem?_set_self (by rw [List.length_set]; omega)]
   unfold tu
   simp! [g3,g4,fa]
  show (y_ 3 4 (.tup [.str f,.str v]) σ).bind _=_
  rw [g]
  show (tu _).bind _=_
  rw [e]
  show (xQ _ _ _ _ _).bind _=_
  rw [ih]
  rfl
theorem WS {fs:List Str} {ks:List Kd} {ss:List D} (h:pX fs ks ss):fs.length=ss.length/\ks.length=ss.length:=by
 induction h with
 | nil=>exact ⟨rfl,rfl⟩
 | cons _ _ ih=>exact ⟨by rw [List.length_cons,List.length_cons,ih.1],by rw [List.length_cons,List.length_cons,ih.2]⟩
section
variable {w:Str} {fs:List Str} {ks:List Kd} {ss:List D} {jw:Bool}
theorem Qj (m n:Nat):xP (.int ((m+1:Nat):Int)) (.int ((n:Int)+1))=some (.bl (!decide (m=n))):=by
 by_cases h:m=n
 ·rw [decide_eq_true h]
  exact gx (uA (by omega))
 ·rw [decide_eq_false h]
  exact gx (wD (by omega))
theorem Zm (w:Str) (vs:List Str):((w::vs).map D.str).length=vs.length+1:=by
 rw [List.length_map,List.length_cons]
theorem Jk (N:XM w fs ks ss jw) (vs:List Str):vd [.lst ((w::vs).map D.str)]=some (false,if vs.length=fs.length then .tup (.str w::List.zipWith vD fs vs) else .non):=by
 obtain ⟨ni,gd⟩:=N.kw
 have nl:=N.nl
 have x0:zH (.lst ((w::vs).map D.str)) (.int 0)=some (.str w):=rfl
 have lw:=Zm w vs
 have lf:(fs.map D.str).length=fs.length:=List.length_map _
 have nn:=Qj vs.length fs.length
 have hk:=(WS N.fr)
 have h3:=N.ln
 rw [pC]
 unfold tL
 by_cases hl:vs.length=fs.length
 ·rw [if_pos hl]
  rw [decide_eq_true hl] at nn
  have sl:xj (.lst ((w::vs).map D.str)) (some 1) none=some (.lst (vs.map D.str)):=Oo
  have zt:=O3 (σ:=[some (false,.lst ((w::vs).map D.str)),some (false,.str w),some (false,.tup (fs.map D.str)),none,none]) (Nat.le_refl 5) fs vs
  have ad:=j6 (L:=[.str w]) (M:=List.zipWith vD fs vs) (by rw [List.length_zipWith]; simp only [List.length_cons,List.length_nil]; omega)
  have tp:uS [.lst ([.str w]++List.zipWith vD fs vs)]=some (.tup (.str w::List.zipWith vD fs vs)):=rfl
  generalize [D.str w]++List.zipWith vD fs vs=AD at *
  generalize List.zipWith vD fs vs=ZV at *
  generalize (w::vs).map D.str=WV at *
  generalize vs.map D.str=VV at *
  generalize hF:fs.map D.str=FF at *
  simp! [x0,nl,ni,gd,lw,lf,nn,add_int,Bool.not_true,tU,yE,zy,yI,sl,tt,zt,ad,tp]
 ·rw [if_neg hl]
  rw [decide_eq_false hl] at nn
  generalize (w::vs).map D.str=WV at *
  generalize hF:fs.map D.str=FF at *
  simp! [x0,nl,ni,gd,lw,lf,nn,add_int,Bool.not_false]
theorem LY (hw:¬ (xy w\/w = "label")):uR xM (.str w)=some (.bl true):=by
 have hk:xI xM (.inr w)=false:=by
  cases h:xI xM (.inr w) with
  | false=>rfl
  | true=>
   exfalso
   obtain ⟨j,hj,e⟩:=List.any_eq_true.mp h
   obtain ⟨u,hu,rfl⟩:=List.mem_map.mp hj
   have e:=Sum.inr.inj (of_decide_eq_true e)
   subst e
   simp only [List.mem_cons,List.not_mem_nil,or_false] at hu
   rcases hu with rfl | rfl | rfl | rfl | rfl | rfl | rfl | rfl | rfl | rfl | rfl | rfl | rfl | rfl | rfl | rfl | rfl | rfl | rfl | rfl | rfl | rfl<;>exact hw (by unfold xy; simp)
 show some (D.bl (!xI xM (.inr w)))=_
 rw [hk]
 rfl
theorem Jl (hw:¬ xy w) (vs:List Str):vd [.lst ((w::vs).map D.str)]=some (false,.non):=by
 have x0:zH (.lst ((w::vs).map D.str)) (.int 0)=some (.str w):=rfl
 have el:=gS w "label"
 rw [pC]
 unfold tL
 generalize (w::vs).map D.str=WV at *
 by_cases h:w = "label"
 ·rw [decide_eq_true h] at el
  simp! [x0,el]
 ·rw [decide_eq_false h] at el
  have ni:=LY (fun z=>z.elim hw h)
  simp! [x0,el,ni]
theorem MB (N:XM w fs ks ss jw) (vs:List Str):vz [.lst ((w::vs).map D.str)]=some (false,.bl (if vs.length=fs.length then xz ks (List.zipWith vD fs vs) else false)):=by
 obtain ⟨o,sh⟩:=N.sh
 have nw:=N.nw
 have wf:=UW
 have x0:zH (.lst ((w::vs).map D.str)) (.int 0)=some (.str w):=rfl
 have lw:=Zm w vs
 have hk:=(WS N.fr)
 have h3:=N.ln
 have nn:=Qj vs.length ss.length
 rw [Q3]
 unfold Z9
 by_cases hl:vs.length=fs.length
 ·rw [if_pos hl]
  rw [decide_eq_true (show vs.length=ss.length by omega)] at nn
  have rg:JV [some (false,.lst ((w::vs).map D.str)),some (false,.lst ss),none,none,none]=some (xG ss.length):=uZ (n:=(ss.length:Int)) rfl (by omega)
  obtain ⟨σ',lp⟩:=Jj (w0:=w) (pv:=[]) (ps:=[]) N.fr hl rfl none none none
  have lp:xN (zb 2) jO (xG ss.length) [some (false,.lst ((w::vs).map D.str)),some (false,.lst ss),none,none,none]=(if xz ks (List.zipWith vD fs vs)=true then some (.nx σ') else some (.rt false (.bl false))):=by rw [Ie]; exact lp
  generalize (w::vs).map D.str=WV at *
  generalize xG ss.length=UT at *
  cases c:xz ks (List.zipWith vD fs vs) with
  | true=>
   rw [c,if_pos rfl] at lp
   simp! [x0,wf,nw,sh,lw,nn,add_int,Bool.not_true,rg,lp]
  | false=>
   rw [c,if_neg (by decide)] at lp
   simp! [x0,wf,nw,sh,lw,nn,add_int,Bool.not_true,rg,lp]
 ·rw [if_neg hl]
  rw [decide_eq_false (show ¬ vs.length=ss.length by omega)] at nn
  generalize (w::vs).map D.str=WV at *
  simp! [x0,wf,nw,sh,lw,nn,add_int,Bool.not_false]
theorem QH (hw:¬ xy w) (vs:List Str):vz [.lst ((w::vs).map D.str)]=some (false,.bl false):=by
 have x0:zH (.lst ((w::vs).map D.str)) (.int 0)=some (.str w):=rfl
 have nw:=G9 hw
 have wf:=UW
 rw [Q3]
 unfold Z9
 generalize (w::vs).map D.str=WV at *
 simp! [x0,wf,nw]
end
noncomputable def we (w:Str):Str:=L2.cutS w none (some (-1))
noncomputable def wL:List Str->Bool
 | [w]=>decide (w.cps.toList.getLast?=some 58)&&uq (we w)
 | _=>false
noncomputable def vt (ws:List Str):Bool:=match vz [.lst (ws.map D.str)] with
 | some (_,.bl b)=>b
 | _=>false
noncomputable def vL:List Str->Bool
 | w::_=>decide (w∈(["jump", "when", "unless"]:List Str))
 | []=>false
noncomputable def yO:List Str->Str
 | w::_=>we w
 | [] => ""
noncomputable def wG (ws:List Str):Str:=ws.getLast?.getD ""
inductive Cls (ws:List Str) (d:D):Prop
 | lab (e:d=xZ (yO ws)) (b:wL ws=true)
 | row (i:wv d) (nl:uB d=false) (b:wL ws=false) (r:vz [.lst (ws.map D.str)]=some (false,.bl true)) (j:jH d=vL ws) (la:vL ws=true->zH d (.int (-1))=some (.str (wG ws)))
 | bad (e:d=.non) (b:wL ws=false) (r:vz [.lst (ws.map D.str)]=some (false,.bl false))
theorem QB (w:Str):yy (.str w) (.lst [.str "jump",.str "when",.str "unless"])=some (.bl (decide (w∈(["jump", "when", "unless"]:List Str)))):=by
 have:=pD w ["jump", "when", "unless"]
 show (vT (.str w) (.lst [.str "jump",.str "when",.str "unless"])).bind _=_
 rw [show vT (.str w) (.lst [.str "jump",.str "when",.str "unless"])=_ from this]
 rfl
theorem BF {w:Str} (h:58∈w.cps.toList):¬ xy w:=fun z=>by
 rcases z with (rfl | rfl) | (rfl | rfl) | (rfl | rfl | rfl | rfl) | (rfl | rfl | rfl | rfl | rfl | rfl | rfl | rfl | rfl) | rfl | (rfl | rfl) | rfl<;>exact absurd h (by decide +kernel)
theorem E_ (f v:Str):x_ (vD f v)=true:=by
 have n:∀ w,x_ (wH w)=true:=fun w=>by
  unfold wH
  split<;>rfl
 unfold vD
 split
 ·exact n _
 ·split
  ·split
   ·exact n _
   ·rfl
  ·rfl
theorem O1 {fs vs:List Str}:∀ d∈List.zipWith vD fs vs,x_ d=true:=fun d hd=>by
 obtain ⟨i,h,e⟩:=List.mem_iff_getElem.mp hd
 rw [<- e,List.getElem_zipWith]
 exact E_ _ _
theorem Oi {ws:List Str} (ne:ws≠[]) (hw:∀ w∈ws,w.cps.toList≠[]):∃ d,vF [.lst (ws.map D.str)]=some (false,d)/\Cls ws d:=by
 cases ws with
 | nil=>exact absurd rfl ne
 | cons w vs=>
  have w0:=hw w List.mem_cons_self
  have wl:=xn w
  have w1:1<=w.length:=by
   have:w.cps.toList.length≠0:=fun z=>w0 (List.length_eq_zero_iff.mp z)
   omega
  have en:=WB w 58 w1
  rw [<- wl,<- List.getLast?_eq_getElem?] at en
  have fe:jC (.str w) (.str ":")=some (.bl (decide (w.cps.toList.getLast?=some 58))):=by
   show some (D.bl (Txt.endswith w ⟨#[58]⟩))=_
   rw [en]
  have x0:zH (.lst ((w::vs).map D.str)) (.int 0)=some (.str w):=rfl
  have lw:=Zm w vs
  have sl:xj (.str w) none (some (-1))=some (.str (we w)):=rfl
  have n1:zL (.int ((vs.length+1:Nat):Int)) (.int 1)=some (.bl (decide (vs=[]))):=by
   by_cases h:vs=[]
   ·rw [decide_eq_true h,h]
    rfl
   ·rw [decide_eq_false h]
    exact wD (by
     have:vs.length≠0:=fun z=>h (List.length_eq_zero_iff.mp z)
     omega)
  have rd:∃ d0,vd [.lst ((w::vs).map D.str)]=some (false,d0):=by
   by_cases h:xy w
   ·obtain ⟨fs,ks,ss,jw,N⟩:=QR h
    exact ⟨_,Jk N vs⟩
   ·exact ⟨_,Jl h vs⟩
  by_cases hl:vs=[]/\w.cps.toList.getLast?=some 58
  ·obtain ⟨rfl,h58⟩:=hl
   rw [decide_eq_true h58] at fe
   obtain ⟨d0,rd⟩:=rd
   have hi:=Zf (w := "label") (fs:=["name"]) (ks:=[.name]) (ss:=[.str "name"]) (ds:=[.str (we w)]) ⟨rfl,rfl⟩ (.cons (tQ _) .nil) (fun d hd=>by rw [List.mem_singleton.mp hd]; rfl) (by simp) (by simp)
   have hi:wX [.tup [.str "label",.str (we w)]]=some (false,.bl (uq (we w)&&true)):=hi
   rw [Bool.and_true] at hi
   have n1:zL (.int ((1:Nat):Int)) (.int 1)=some (.bl true):=rfl
   have lw:([w].map D.str).length=1:=rfl
   have nW:=BF (List.mem_of_getLast? h58)
   cases c:uq (we w) with
   | true=>
    refine ⟨xZ (we w),?_,.lab rfl (by show (decide _&&_)=true; rw [decide_eq_true h58,c]; rfl)⟩
    rw [c] at hi
    rw [qW]
    unfold uj
    unfold xZ
    generalize [w].map D.str=WV at *
    generalize we w=CW at *
    simp! [rd,lw,n1,x0,fe,yE,zy,yI,xV,sl,hi]
   | false=>
    refine ⟨.non,?_,.bad rfl (by show (decide _&&_)=false; rw [c,Bool.and_false]) (QH nW [])⟩
    rw [c] at hi
    rw [qW]
    unfold uj
    generalize [w].map D.str=WV at *
    generalize we w=CW at *
    simp! [rd,lw,n1,x0,fe,yE,zy,yI,xV,sl,hi]
  ·have lb:wL (w::vs)=false:=by
    cases vs with
    | nil=>
     show (decide _&&_)=false
     rw [decide_eq_false (fun z=>hl ⟨rfl,z⟩)]
     rfl
    | cons _ _=>rfl
   have go:∀ d0 b,vd [.lst ((w::vs).map D.str)]=some (false,d0)->wX [d0]=some (false,.bl b)->vF [.lst ((w::vs).map D.str)]=some (false,if b=true then d0 else .non):=fun d0 b rd hi=>by
    rw [qW]
    unfold uj
    generalize (w::vs).map D.str=WV at *
    by_cases hv:vs=[]
    ·rw [decide_eq_true hv] at n1
     rw [decide_eq_false (fun z=>hl ⟨hv,z⟩)] at fe
     cases b with
     | true=>simp! [rd,lw,n1,x0,fe,hi,if_true]
     | false=>simp! [rd,lw,n1,x0,fe,hi,Bool.false_eq_true,if_false]
    ·rw [decide_eq_false hv] at n1
     cases b with
     | true=>simp! [rd,lw,n1,hi,if_true]
     | false=>simp! [rd,lw,n1,hi,Bool.false_eq_true,if_false]
   have inon:wX [.non]=some (false,.bl false):=by
    rw [pB]; unfold tK; simp! []
   by_cases h:xy w
   ·obtain ⟨fs,ks,ss,jw,N⟩:=QR h
    have rt:=Jk N vs
    have ir:=MB N vs
    have hk:=WS N.fr
    have h3:=N.ln
    by_cases hlen:vs.length=fs.length
    ·rw [if_pos hlen] at rt ir
     have kn:=Zf N.kw N.fk (ds:=List.zipWith vD fs vs) O1 (by omega) (by rw [List.length_zipWith]; omega)
     have g:=go _ _ rt kn
     cases c:xz ks (List.zipWith vD fs vs) with
     | false=>
      rw [c] at g ir
      exact ⟨.non,g,.bad rfl lb ir⟩
     | true=>
      rw [c] at g ir kn
      rw [if_pos rfl] at g
      have it:wv (.tup (.str w::List.zipWith vD fs vs)):=by
       rcases Eg (d:=.tup (.str w::List.zipWith vD fs vs)) ⟨rfl,fun xs e=>by
        cases e
        refine ⟨fun x hx=>?_,by rw [List.length_cons,List.length_zipWith]; omega⟩
        rcases List.mem_cons.mp hx with rfl | hx
        ·rfl
        ·exact O1 x hx⟩ with z | z
       ·rw [kn] at z
        cases z
       ·exact z.2
      have ij:=N.ij (List.zipWith vD fs vs)
      have jn:=N.jn
      rw [QB] at jn
      have jn:vL (w::vs)=jw:=D.bl.inj (Option.some.inj jn)
      refine ⟨_,g,.row it ?_ lb ir (by rw [ij,jn]) fun hj=>?_⟩
      ·have nl:=N.nl
       rw [gS] at nl
       have nl:=D.bl.inj (Option.some.inj nl)
       show (w == "label")=false
       exact beq_eq_false_iff_ne.mpr (of_decide_eq_false nl)
      ·rw [jn] at hj
       obtain ⟨f',rfl⟩:=N.la hj
       obtain ⟨v',v,rfl⟩:∃ v' v,vs=v'++[v]:=⟨_,_,(List.dropLast_concat_getLast (l:=vs) (by
        intro z
        rw [z,List.length_append] at hlen
        simp at hlen)).symm⟩
       rw [List.zipWith_append (by rw [List.length_append,List.length_append] at hlen; simpa using hlen.symm),<- List.cons_append]
       show xX ((.str w::List.zipWith vD f' v')++[vD "name" v]) (-1)=_
       rw [XU]
       show some (D.str v)=_
       unfold wG
       rw [<- List.cons_append,List.getLast?_concat]
       rfl
    ·rw [if_neg hlen] at rt ir
     exact ⟨.non,go _ _ rt inon,.bad rfl lb ir⟩
   ·exact ⟨.non,go _ _ (Jl h vs) inon,.bad rfl lb (QH h vs)⟩
end L3
namespace L3
open PySem
noncomputable def Zj:FS:=(zI (zT 4 (zR py (z7 (z8 3) zD)))
    (zX (tE (e2 xP (z8 4) (zu zD)))
     (wT 1 xg (qR (z7 (z8 2) (z7 (zR vF (z7 (z8 4) zD)) zD))))
     zk))
noncomputable def Xl:FS:=
 (zI (vP 1 (zu zD))
  (zI (vO (ZW (e2 w_ (z8 0) (eC (.str "\n")))) (y_ 2 3)
   Zj)
  (pN 1)))
noncomputable def qy:List D->Option (Bool×D):=FR 1 5 Xl
theorem Lp (x0:D):qy [x0]=yi 5 Xl [x0]:=rfl
noncomputable def vp:FS:=(zX (xT (tE (e2 gV (z8 3) (eC .non))) (tE (zR pd (z7 (z8 3) zD))))
     (kD 1 (e2 zH (z8 3) (eC (.int 1))) (eC (.bl true)))
     zk)
noncomputable def wE:FS:=(zI (zX (tE (e2 jD (z8 3) (eC .non)))
     (zd (z8 2))
     zk)
    (zI (zX (xT (tE (zR jv (z7 (z8 3) zD))) (tE (e2 u9 (e2 zH (z8 3) (e1 xV (eC (.int 1)))) (z8 1))))
     (zd (z8 2))
     zk)
    (zX (tE (zR pd (z7 (z8 3) zD)))
     (zI (zX (tE (e2 yy (e2 zH (z8 3) (eC (.int 1))) (wz 4)))
       (zd (z8 2))
       zk)
      (kD 4 (e2 zH (z8 3) (eC (.int 1))) (eC (.bl true))))
     zk)))
noncomputable def Xk:FS:=
 (zI (vP 1 (eC (.dic [] [])))
  (zI (vO (w8 (z8 0)) (y_ 2 3)
   vp)
  (zI (ua 1) (zI (vP 4 (eC (.dic [] [])))
  (zI (vO (w8 (z8 0)) (y_ 2 3)
   wE)
  (zI (ua 4) (zd (eC .non))))))))
noncomputable def t8:List D->Option (Bool×D):=FR 1 5 Xk
theorem Lo (x0:D):t8 [x0]=yi 5 Xk [x0]:=rfl
noncomputable def XV:FS:=
 (zd (zR t8 (z7 (zR qy (z7 (z8 0) zD)) zD)))
noncomputable def ju:List D->Option (Bool×D):=FR 1 1 XV
theorem LZ (x0:D):ju [x0]=yi 1 XV [x0]:=rfl
noncomputable def Iv:FE:=(z8 4)
noncomputable def ZC:vy:=
 (kP (zT 1 (zR qy (z7 (z8 0) zD)))
  (kP (zT 2 (zR t8 (z7 (z8 1) zD)))
   (YW (tE (e2 gV (z8 2) (eC .non))) (z7 (W8 (gm (eC (.str "row ")) (gm (e1 WF (z8 2)) (gm (eC (.str " can't be read")) Wc)))) zD) "BadText"
    (YV (qh (yx 2 (w8 (z8 1)) (y_ 3 4) yn Iv))))))
noncomputable def pq:FX:=Yi 1 3 ZC
theorem Q5 (x0:D):pq [x0]=jd 3 ZC [x0]:=rfl
noncomputable def flt (L:List Str):List (List Str)->Nat->List Str->Option Nat
 | [],_,_=>none
 | ws::r,i,seen=>if wL ws=true then (if yO ws∈seen then some i else flt L r (i+1) (seen++[yO ws]))
  else if ws≠[]/\vt ws=false then some i
  else if ws≠[]/\vL ws=true/\wG ws ∉ L then some i
  else flt L r (i+1) seen
noncomputable def xJ (Ws:List (List Str)):List Str:=(Ws.filter wL).map yO
noncomputable def uN (ws:List Str):Prop:=∀ w∈ws,w.cps.toList≠[]
noncomputable def xO (ws:List Str):D:=match vF [.lst (ws.map D.str)] with
 | some (_,d)=>d
 | none=>.non
theorem YO {ws:List Str} (ne:ws≠[]) (h:uN ws):vF [.lst (ws.map D.str)]=some (false,xO ws)/\Cls ws (xO ws):=by
 obtain ⟨d,e,c⟩:=Oi ne h
 have:xO ws=d:=by
  unfold xO
  rw [e]
 rw [this]
 exact ⟨e,c⟩
noncomputable def yq:List (List Str)->Nat->List D
 | [],_=>[]
 | ws::r,i=>if ws=[] then yq r (i+1) else .tup [.int (i:Int),xO ws]::yq r (i+1)
theorem Jh (ws:List Str):∀ (A:List (List Str)) (i:Nat),yq (A++[ws]) i=yq A i++(if ws=[] then [] else [.tup [.int ((i+A.length:Nat):Int),xO ws]])
 | [],i=>by
  show (if ws=[] then [] else _)=_
  rfl
 | a::A,i=>by
  show (if a=[] then yq (A++[ws]) (i+1) else _::yq (A++[ws]) (i+1))=(if a=[] then yq A (i+1) else _::yq A (i+1))++_
  rw [Jh ws A (i+1),show i+1+A.length=i+(a::A).length by rw [List.length_cons]; omega]
  split<;>rfl
theorem Jg:∀ (A:List (List Str)) (i:Nat),(yq A i).length<=A.length
 | [],_=>Nat.le_refl _
 | a::A,i=>by
  have:=Jg A (i+1)
  show (if a=[] then yq A (i+1) else _::yq A (i+1)).length<=_
  split
  ·rw [List.length_cons]; omega
  ·rw [List.length_cons,List.length_cons]; omega
theorem Z3 {L:List D} {r:D} (h:L.length<=100000):xg (.lst L) r=some (.lst (L++[r])):=by
 show (if L.length<yS then _ else _)=_
 rw [if_pos (by show _<16777216; omega)]
noncomputable def wt (l:List Nat):List Str:=(W l).map fun p=>⟨p.toArray⟩
theorem Ir (l:List Nat):(wt l).map D.str=(W l).map sD:=by
 unfold wt
 rw [List.map_map]
 rfl
theorem UX (l:List Nat):uN (wt l):=fun w hw=>by
 obtain ⟨p,hp,rfl⟩:=List.mem_map.mp hw
 have:=(List.mem_filter.mp hp).2
 intro z
 have z:p=[]:=z
 rw [z] at this
 cases this
section
variable {T:Str} (hT:T.length<=12000)
include hT
theorem Ei:qy [.str T]=some (true,.lst (yq ((Txt.split T ⟨#[10]⟩).map fun z=>wt z.cps.toList) 0)):=by
 have fs:w_ (.str T) (.str "\n")=some (.lst ((Txt.split T ⟨#[10]⟩).map D.str)):=if_pos ⟨rfl,by omega⟩
 have sl:(Txt.split T ⟨#[10]⟩).length<=T.length+2:=PyProof.Rows.split_le T ⟨#[10]⟩
 have sp:∀ z∈Txt.split T ⟨#[10]⟩,z.length<=T.length:=fun z hz=>PyProof.Rows.part_short hz
 generalize Txt.split T ⟨#[10]⟩=zs at *
 have en:ZW (e2 w_ (z8 0) (eC (.str "\n"))) [some (false,.str T),some (true,.lst []),none,none,none]=some (numbered (zs.map D.str)):=by
  unfold ZW
  have:e2 w_ (z8 0) (eC (.str "\n")) [some (false,.str T),some (true,.lst []),none,none,none]=some (.lst (zs.map D.str)):=by simp! [fs]
  rw [this]
  rfl
 obtain ⟨σ',e,x2,x3,x4,rfl⟩:=tX (g:=y_ 2 3) (b:=Zj) (fun i σ=>∃ x2 x3 x4,σ=[some (false,.str T),some (true,.lst (yq ((zs.map fun z=>wt z.cps.toList).take i) 0)),x2,x3,x4]) (ds:=numbered (zs.map D.str))
  (σ:=[some (false,.str T),some (true,.lst []),none,none,none]) 0 ⟨none,none,none,rfl⟩ (by
  rintro i v σ hv ⟨x2,x3,x4,rfl⟩
  rw [Nat.zero_add] at *
  rw [Qo,List.getElem?_map] at hv
  obtain ⟨z,hz,rfl⟩:∃ z,zs[i]?=some z/\v=.tup [.int (i:Int),.str z]:=by
   cases q:zs[i]? with
   | none=>rw [q] at hv; cases hv
   | some z=>rw [q] at hv; cases hv; exact ⟨z,rfl,rfl⟩
  obtain ⟨hi,ez⟩:=List.getElem?_eq_some_iff.mp hz
  have hm:=List.mem_of_getElem? hz
  have tk:(zs.map fun z=>wt z.cps.toList).take (i+1)=(zs.map fun z=>wt z.cps.toList).take i++[wt z.cps.toList]:=by
   rw [List.take_succ_eq_append_getElem (by rw [List.length_map]; exact hi),List.getElem_map,ez]
  have tl:((zs.map fun z=>wt z.cps.toList).take i).length=i:=by rw [List.length_take,List.length_map]; omega
  have wf:=G8 (row:=z) (Nat.le_trans (sp z hm) (by omega))
  rw [<- Ir] at wf
  have rl:=Jg ((zs.map fun z=>wt z.cps.toList).take i) 0
  rw [tl] at rl
  rw [tk,Jh,Nat.zero_add,tl]
  generalize yq ((zs.map fun z=>wt z.cps.toList).take i) 0=R at *
  have ok:=UX z.cps.toList
  generalize wt z.cps.toList=ws at *
  by_cases hw:ws=[]
  ·subst hw
   rw [if_pos rfl,List.append_nil]
   have ne:xP (.lst []) (.lst [])=some (.bl false):=rfl
   have wf:py [.str z]=some (true,.lst []):=wf
   refine ⟨_,[some (false,.str T),some (true,.lst R),some (false,.int (i:Int)),some (false,.str z),some (false,.lst [])],rfl,.inl ?_,_,_,_,rfl⟩
   unfold Zj
   simp! [wf,ne]
  ·rw [if_neg hw]
   have ne:xP (.lst (ws.map D.str)) (.lst [])=some (.bl true):=by
    cases ws with
    | nil=>exact absurd rfl hw
    | cons a b=>rfl
   obtain ⟨f,_⟩:=YO hw ok
   have ap:=Z3 (L:=R) (r:=.tup [.int (i:Int),xO ws]) (by omega)
   refine ⟨_,[some (false,.str T),some (true,.lst (R++[.tup [.int (i:Int),xO ws]])),some (false,.int (i:Int)),some (false,.str z),some (false,.lst (ws.map D.str))],rfl,.inl ?_,_,_,_,rfl⟩
   unfold Zj
   generalize ws.map D.str=WW at *
   generalize xO ws=TD at *
   simp! [wf,ne,f,ap])
 rw [Nat.zero_add,Zs,List.length_map,List.take_of_length_le (by rw [List.length_map]; exact Nat.le_refl _)] at e
 rw [Lp]
 unfold Xl
 generalize numbered (zs.map D.str)=NN at *
 generalize yq _ _=R at *
 simp! [en,e]
end
theorem QK {d:D} (h:wv d):jv [d]=some (false,.bl (jH d)):=by
 have:∃ w,zH d (.int 0)=some (.str w)/\yy (.str w) ZR=some (.bl (jH d)):=by
  cases h with
  | label=>exact ⟨_,rfl,rfl⟩
  | plain h=>
   obtain ⟨w,a,b,_,c,_⟩:=F6 h
   exact ⟨w,a,by rw [c]; exact b⟩
  | jump=>exact ⟨_,rfl,rfl⟩
  | cond t hw hk=>rcases hw with rfl | rfl<;>exact ⟨_,rfl,rfl⟩
 obtain ⟨w,a,b⟩:=this
 rw [La]
 unfold XW
 simp! [a,b]
theorem QN {d:D} (h:wv d):∃ xs,d=.tup xs:=by
 cases h with
 | label t=>exact ⟨_,rfl⟩
 | plain h=>cases h<;>exact ⟨_,rfl⟩
 | jump=>exact ⟨_,rfl⟩
 | cond=>exact ⟨_,rfl⟩
theorem Mg (ws:List Str) (r:List (List Str)):xJ (ws::r)=if wL ws=true then yO ws::xJ r else xJ r:=by
 unfold xJ
 rw [List.filter_cons]
 split<;>rfl
theorem Zo {R0:D} {x4:Option Sl}:∀ (r:List (List Str)),(∀ ws∈r,uN ws)->∀ (i:Nat) (ks:List (Sum Int Str)) (vs:List D) (x2 x3:Option Sl),ks.length=vs.length->ks.length+r.length<=100000->
  ∃ ks' vs' y2 y3,xN (y_ 2 3) vp (yq r i) [some (false,R0),some (true,.dic ks vs),x2,x3,x4]=some (.nx [some (false,R0),some (true,.dic ks' vs'),y2,y3,x4])/\∀ t,xI ks' (.inr t)=(xI ks (.inr t)||decide (t∈xJ r))
 | [],_,i,ks,vs,x2,x3,_,_=>⟨ks,vs,x2,x3,rfl,fun t=>by
  rw [show decide (t∈xJ [])=false from decide_eq_false (fun z=>by cases z),Bool.or_false]⟩
 | ws::r,hok,i,ks,vs,x2,x3,hl,hn=>by
  have ok:=hok ws List.mem_cons_self
  have hok':∀ ws∈r,uN ws:=fun z hz=>hok z (List.mem_cons_of_mem _ hz)
  rw [List.length_cons] at hn
  rw [Mg]
  show ∃ ks' vs' y2 y3,xN (y_ 2 3) vp (if ws=[] then yq r (i+1) else .tup [.int (i:Int),xO ws]::yq r (i+1)) _=_/\_
  by_cases hw:ws=[]
  ·rw [if_pos hw,if_neg (by rw [hw]; decide)]
   exact Zo r hok' (i+1) ks vs x2 x3 hl (by omega)
  ·rw [if_neg hw]
   obtain ⟨_,c⟩:=YO hw ok
   have st:∀ {σ2:yD},vp [some (false,R0),some (true,.dic ks vs),some (false,.int (i:Int)),some (false,xO ws),x4]=some (.nx σ2)->xN (y_ 2 3) vp (.tup [.int (i:Int),xO ws]::yq r (i+1)) [some (false,R0),some (true,.dic ks vs),x2,x3,x4]=xN (y_ 2 3) vp (yq r (i+1)) σ2:=fun {σ2} h=>by
    show (y_ 2 3 _ _).bind _=_
    show (vp [some (false,R0),some (true,.dic ks vs),some (false,.int (i:Int)),some (false,xO ws),x4]).bind _=_
    rw [h]
    rfl
   have same:wL ws=false->vp [some (false,R0),some (true,.dic ks vs),some (false,.int (i:Int)),some (false,xO ws),x4]=some (.nx [some (false,R0),some (true,.dic ks vs),some (false,.int (i:Int)),some (false,xO ws),x4])->∃ ks' vs' y2 y3,xN (y_ 2 3) vp (.tup [.int (i:Int),xO ws]::yq r (i+1)) [some (false,R0),some (true,.dic ks vs),x2,x3,x4]=some (.nx [some (false,R0),some (true,.dic ks' vs'),y2,y3,x4])/\∀ t,xI ks' (.inr t)=(xI ks (.inr t)||decide (t∈if wL ws=true then yO ws::xJ r else xJ r)):=fun b h=>by
    rw [st h,b,if_neg (by decide)]
    exact Zo r hok' (i+1) ks vs _ _ hl (by omega)
   cases c with
   | lab e b=>
    rw [b,if_pos rfl]
    have hf:=Zc (wv.label (yO ws))
    have i1:zH (xZ (yO ws)) (.int 1)=some (.str (yO ws)):=rfl
    have kd:qZ (.str (yO ws))=some (.inr (yO ws)):=rfl
    have hlim:ks.length<yS:=by show _<16777216; omega
    have step:vp [some (false,R0),some (true,.dic ks vs),some (false,.int (i:Int)),some (false,xO ws),x4]=some (.nx [some (false,R0),some (true,.dic (vq ks (.inr (yO ws))) (vN ks vs (.inr (yO ws)) (.bl true))),some (false,.int (i:Int)),some (false,xO ws),x4]):=by
     have il:uB (xZ (yO ws))=true:=rfl
     rw [il] at hf
     rw [e]
     unfold vp
     unfold xZ at *
     simp! [hf,kD,i1,kd,if_pos hlim]
    obtain ⟨ks',vs',y2,y3,e1,e2⟩:=Zo r hok' (i+1) (vq ks (.inr (yO ws))) (vN ks vs (.inr (yO ws)) (.bl true)) (some (false,.int (i:Int))) (some (false,xO ws)) (V6 hl) (by
     unfold vq
     split
     ·omega
     ·rw [List.length_append]; show _+1+_<=_; omega)
    refine ⟨ks',vs',y2,y3,by rw [st step]; exact e1,fun t=>?_⟩
    rw [e2,Q6,Bool.or_assoc]
    congr 1
    rw [<- Bool.decide_or]
    refine decide_eq_decide.mpr ?_
    rw [List.mem_cons]
    exact ⟨fun h=>h.imp (fun z=>(Sum.inr.inj z).symm) id,fun h=>h.imp (fun z=>by rw [z]) id⟩
   | row it nl b r' j la=>
    refine same b ?_
    have hf:=Zc it
    rw [nl] at hf
    obtain ⟨xs,ex⟩:=QN it
    rw [ex] at hf ⊢
    unfold vp
    simp! [hf]
   | bad e b r'=>
    refine same b ?_
    rw [e]
    unfold vp
    simp! []
theorem Zp {R0:D} {L:List Str} {ks:List (Sum Int Str)} {vs:List D} (hL:∀ t,xI ks (.inr t)=decide (t∈L)):∀ (r:List (List Str)),(∀ ws∈r,uN ws)->∀ (i:Nat) (seen:List Str) (k2:List (Sum Int Str)) (v2:List D) (x2 x3:Option Sl),k2.length=v2.length->k2.length+r.length<=100000->(∀ t,xI k2 (.inr t)=decide (t∈seen))->
  ∃ k2' v2' y2 y3,xN (y_ 2 3) wE (yq r i) [some (false,R0),some (false,.dic ks vs),x2,x3,some (true,.dic k2 v2)]=match flt L r i seen with
   | some j=>some (.rt false (.int (j:Int)))
   | none=>some (.nx [some (false,R0),some (false,.dic ks vs),y2,y3,some (true,.dic k2' v2')])
 | [],_,i,seen,k2,v2,x2,x3,_,_,_=>⟨k2,v2,x2,x3,rfl⟩
 | ws::r,hok,i,seen,k2,v2,x2,x3,hl,hn,hs=>by
  have ok:=hok ws List.mem_cons_self
  have hok':∀ ws∈r,uN ws:=fun z hz=>hok z (List.mem_cons_of_mem _ hz)
  rw [List.length_cons] at hn
  show ∃ k2' v2' y2 y3,xN (y_ 2 3) wE (if ws=[] then yq r (i+1) else .tup [.int (i:Int),xO ws]::yq r (i+1)) _=match (if wL ws=true then (if yO ws∈seen then some i else flt L r (i+1) (seen++[yO ws])) else if ws≠[]/\vt ws=false then some i else if ws≠[]/\vL ws=true/\wG ws ∉ L then some i else flt L r (i+1) seen) with
   | some j=>some (.rt false (.int (j:Int)))
   | none=>some (.nx [some (false,R0),some (false,.dic ks vs),y2,y3,some (true,.dic k2' v2')])
  by_cases hw:ws=[]
  ·rw [if_pos hw,if_neg (by rw [hw]; decide),if_neg (fun z=>z.1 hw),if_neg (fun z=>z.1 hw)]
   exact Zp hL r hok' (i+1) seen k2 v2 x2 x3 hl (by omega) hs
  ·rw [if_neg hw]
   obtain ⟨_,c⟩:=YO hw ok
   have unr:xN (y_ 2 3) wE (.tup [.int (i:Int),xO ws]::yq r (i+1)) [some (false,R0),some (false,.dic ks vs),x2,x3,some (true,.dic k2 v2)]=(wE [some (false,R0),some (false,.dic ks vs),some (false,.int (i:Int)),some (false,xO ws),some (true,.dic k2 v2)]).bind fun f=>match f with
     | .nx σ2=>xN (y_ 2 3) wE (yq r (i+1)) σ2
     | .ct σ2=>xN (y_ 2 3) wE (yq r (i+1)) σ2
     | .bk σ2=>some (.nx σ2)
     | .rt o d=>some (.rt o d):=rfl
   rw [unr]
   cases c with
   | lab e b=>
    rw [if_pos b]
    have it:=wv.label (yO ws)
    have hf:=Zc it
    have hj:=QK it
    have i1:zH (xZ (yO ws)) (.int 1)=some (.str (yO ws)):=rfl
    have kd:qZ (.str (yO ws))=some (.inr (yO ws)):=rfl
    have hlim:k2.length<yS:=by show _<16777216; omega
    have fi:yy (.str (yO ws)) (.dic k2 v2)=some (.bl (decide (yO ws∈seen))):=by
     show some (D.bl (xI k2 (.inr (yO ws))))=_
     rw [hs]
    have il:uB (xZ (yO ws))=true:=rfl
    have ij:jH (xZ (yO ws))=false:=rfl
    rw [il] at hf
    rw [ij] at hj
    by_cases hm:yO ws∈seen
    ·rw [if_pos hm]
     rw [decide_eq_true hm] at fi
     have step:wE [some (false,R0),some (false,.dic ks vs),some (false,.int (i:Int)),some (false,xO ws),some (true,.dic k2 v2)]=some (.rt false (.int (i:Int))):=by
      rw [e]
      unfold wE
      unfold xZ at *
      simp! [hj,hf,i1,fi]
     rw [step]
     exact ⟨k2,v2,x2,x3,rfl⟩
    ·rw [if_neg hm]
     rw [decide_eq_false hm] at fi
     have step:wE [some (false,R0),some (false,.dic ks vs),some (false,.int (i:Int)),some (false,xO ws),some (true,.dic k2 v2)]=some (.nx [some (false,R0),some (false,.dic ks vs),some (false,.int (i:Int)),some (false,xO ws),some (true,.dic (vq k2 (.inr (yO ws))) (vN k2 v2 (.inr (yO ws)) (.bl true)))]):=by
      rw [e]
      unfold wE
      unfold xZ at *
      simp! [hj,hf,i1,fi,kD,kd,if_pos hlim]
     rw [step]
     exact Zp hL r hok' (i+1) (seen++[yO ws]) (vq k2 (.inr (yO ws))) (vN k2 v2 (.inr (yO ws)) (.bl true)) _ _ (V6 hl) (by
      unfold vq
      split
      ·omega
      ·rw [List.length_append]; show _+1+_<=_; omega) fun t=>by
      rw [Q6,hs,<- Bool.decide_or]
      refine decide_eq_decide.mpr ?_
      rw [List.mem_append,List.mem_singleton]
      exact ⟨fun h=>h.imp id (fun z=>(Sum.inr.inj z).symm),fun h=>h.imp id (fun z=>by rw [z])⟩
   | bad e b r'=>
    have ro:vt ws=false:=by
     unfold vt
     rw [r']
    rw [if_neg (by rw [b]; decide),if_pos ⟨hw,ro⟩]
    have step:wE [some (false,R0),some (false,.dic ks vs),some (false,.int (i:Int)),some (false,xO ws),some (true,.dic k2 v2)]=some (.rt false (.int (i:Int))):=by
     rw [e]
     unfold wE
     simp! []
    rw [step]
    exact ⟨k2,v2,x2,x3,rfl⟩
   | row it nl b r' j la=>
    have ro:vt ws=true:=by
     unfold vt
     rw [r']
    have hf:=Zc it
    have hj:=QK it
    rw [nl] at hf
    rw [j] at hj
    obtain ⟨xs,ex⟩:=QN it
    rw [if_neg (by rw [b]; decide),if_neg (fun z=>by rw [ro] at z; exact absurd z.2 (by decide))]
    have go:(vL ws=true/\wG ws ∉ L->wE [some (false,R0),some (false,.dic ks vs),some (false,.int (i:Int)),some (false,xO ws),some (true,.dic k2 v2)]=some (.rt false (.int (i:Int))))/\(¬ (vL ws=true/\wG ws ∉ L)->wE [some (false,R0),some (false,.dic ks vs),some (false,.int (i:Int)),some (false,xO ws),some (true,.dic k2 v2)]=some (.nx [some (false,R0),some (false,.dic ks vs),some (false,.int (i:Int)),some (false,xO ws),some (true,.dic k2 v2)])):=by
     rw [ex] at hf hj la ⊢
     cases hJ:vL ws with
     | false=>
      rw [hJ] at hj
      refine ⟨fun z=>absurd z.1 (by decide),fun _=>?_⟩
      unfold wE
      simp! [hj,hf]
     | true=>
      rw [hJ] at hj
      have lx:=la hJ
      have fi:u9 (.str (wG ws)) (.dic ks vs)=some (.bl (!decide (wG ws∈L))):=by
       show some (D.bl (!xI ks (.inr (wG ws))))=_
       rw [hL]
      refine ⟨fun z=>?_,fun z=>?_⟩
      ·rw [decide_eq_false z.2] at fi
       unfold wE
       simp! [hj,xV,lx,fi,Bool.not_false]
      ·rw [decide_eq_true (Classical.byContradiction fun q=>z ⟨rfl,q⟩)] at fi
       unfold wE
       simp! [hj,xV,lx,fi,hf,Bool.not_true]
    by_cases hq:vL ws=true/\wG ws ∉ L
    ·rw [if_pos ⟨hw,hq⟩,go.1 hq]
     exact ⟨k2,v2,x2,x3,rfl⟩
    ·rw [if_neg (fun z=>hq z.2),go.2 hq]
     exact Zp hL r hok' (i+1) seen k2 v2 _ _ hl (by omega) hs
noncomputable def tJ:Option Nat->D
 | some j=>.int (j:Int)
 | none=>.non
theorem Ml {Ws:List (List Str)} (hok:∀ ws∈Ws,uN ws) (hn:Ws.length<=50000):t8 [.lst (yq Ws 0)]=some (false,tJ (flt (xJ Ws) Ws 0 [])):=by
 obtain ⟨ks,vs,y2,y3,e1,h1⟩:=Zo (R0:=.lst (yq Ws 0)) (x4:=none) Ws hok 0 [] [] none none rfl (by simp only [List.length_nil]; omega)
 obtain ⟨k2,v2,z2,z3,e2⟩:=Zp (R0:=.lst (yq Ws 0)) (L:=xJ Ws) (ks:=ks) (vs:=vs) (fun t=>by rw [h1]; rfl) Ws hok 0 [] [] [] y2 y3 rfl (by simp only [List.length_nil]; omega) (fun t=>rfl)
 rw [Lo]
 unfold Xk
 generalize yq Ws 0=R at *
 cases h:flt (xJ Ws) Ws 0 [] with
 | none=>
  rw [h] at e2
  have e2:xN (y_ 2 3) wE R [some (false,.lst R),some (false,.dic ks vs),y2,y3,some (true,.dic [] [])]=some (.nx [some (false,.lst R),some (false,.dic ks vs),z2,z3,some (true,.dic k2 v2)]):=e2
  show _=some (false,D.non)
  simp! [e1,e2]
 | some j=>
  rw [h] at e2
  have e2:xN (y_ 2 3) wE R [some (false,.lst R),some (false,.dic ks vs),y2,y3,some (true,.dic [] [])]=some (.rt false (.int (j:Int))):=e2
  show _=some (false,D.int (j:Int))
  simp! [e1,e2]
end L3
namespace L3
open PySem
noncomputable def Iu:FE:=(z8 7)
noncomputable def Uf:FT:=(tE (e2 xP (z8 7) (eC (.str ""))))
noncomputable def Wf:FS:=(zI (zT 2 (e1 (jE "\t" " ") (yE (z8 2) yI (zy (e2 WG (e2 zQ (z8 2) (eC (.str ";"))) (eC (.str ";")))))))
    (wT 1 xg (yx 1 (w8 (e2 w_ (z8 2) (eC (.str " ")))) (zb 7) Uf Iu)))
noncomputable def Zh:FS:=(zX (xT (tE (e2 zL (eL yF (z7 (z8 4) zD)) (eC (.int 1)))) (xT (tE (e2 zL (e2 zH (e2 zH (z8 4) (eC (.int 0))) (e1 xV (eC (.int 1)))) (eC (.str ":")))) (tE (zR qC (z7 (yE (e2 zH (z8 4) (eC (.int 0))) yI (zy (e1 xV (eC (.int 1))))) zD)))))
     (wT 3 xg (yE (e2 zH (z8 4) (eC (.int 0))) yI (zy (e1 xV (eC (.int 1))))))
     zk)
noncomputable def JU:FA:=(xm (eC (.int 0)) (eL yF (z7 (z8 1) zD)))
noncomputable def uV:FS:=(zI (zT 4 (e2 zH (z8 1) (z8 6)))
    (zX (xT (tE (e2 zL (eL yF (z7 (z8 4) zD)) (eC (.int 1)))) (xT (tE (e2 zL (e2 zH (e2 zH (z8 4) (eC (.int 0))) (e1 xV (eC (.int 1)))) (eC (.str ":")))) (tE (zR qC (z7 (yE (e2 zH (z8 4) (eC (.int 0))) yI (zy (e1 xV (eC (.int 1))))) zD)))))
     (zI (zX (tE (e2 yy (yE (e2 zH (z8 4) (eC (.int 0))) yI (zy (e1 xV (eC (.int 1))))) (wz 5)))
       (zd (z8 6))
       zk)
      (wT 5 xg (yE (e2 zH (z8 4) (eC (.int 0))) yI (zy (e1 xV (eC (.int 1)))))))
     (zX (xT (tE (e2 (xU fun i j=>decide (j<i)) (eL yF (z7 (z8 4) zD)) (eC (.int 0)))) (uJ (tE (zR vz (z7 (z8 4) zD)))))
       (zd (z8 6))
       (zX (xT (tE (e2 (xU fun i j=>decide (j<i)) (eL yF (z7 (z8 4) zD)) (eC (.int 0)))) (xT (tE (e2 yy (e2 zH (z8 4) (eC (.int 0))) (zu (z7 (eC (.str "jump")) (z7 (eC (.str "when")) (z7 (eC (.str "unless")) zD)))))) (tE (e2 u9 (e2 zH (z8 4) (e1 xV (eC (.int 1)))) (z8 3)))))
         (zd (z8 6))
         zk))))
noncomputable def XY:FS:=
 (zI (vP 1 (zu zD))
  (zI (vO (w8 (e2 w_ (z8 0) (eC (.str "\n")))) (zb 2)
   Wf)
  (zI (ua 1) (zI (vP 3 (zu zD))
  (zI (vO (w8 (z8 1)) (zb 4)
   Zh)
  (zI (ua 3) (zI (vP 5 (zu zD))
  (zI (vO JU (zb 6)
   uV)
  (zI (ua 5) (zd (eC .non)))))))))))
noncomputable def pf:List D->Option (Bool×D):=FR 1 7 XY
theorem Lc (x0:D):pf [x0]=yi 7 XY [x0]:=rfl
theorem O_ (z:Str):∃ i:Nat,WG (.str (z ++ ";")) (.str ";")=some (.int (i:Int))/\(L2.cutS z none (some (i:Int))).cps.toList=z.cps.toList.takeWhile (· != 59):=by
 have pc:=Qy (z ++ ";") 59
 have e0:(z ++ ";").cps.toList=z.cps.toList++[59]:=by rw [vh]; rfl
 have tw:(z.cps.toList++[59]).takeWhile (· != 59)=z.cps.toList.takeWhile (· != 59):=by
  generalize z.cps.toList=l
  induction l with
  | nil=>rfl
  | cons a l ih=>
   rw [List.cons_append,List.takeWhile_cons,List.takeWhile_cons,ih]
 have n59:59 ∉ z.cps.toList.takeWhile (· != 59):=by
  generalize z.cps.toList=l
  induction l with
  | nil=>exact fun h=>nomatch h
  | cons a l ih=>
   rw [List.takeWhile_cons]
   split
   ·rename_i c
    intro h
    rcases List.mem_cons.mp h with rfl | h
    ·cases c
    ·exact ih h
   ·exact fun h=>nomatch h
 rw [e0,tw] at pc
 unfold Txt.partition at pc
 cases ho:Builtin.Str.occurrences (z ++ ";") ⟨#[59]⟩ 0 (z ++ ";").length 1 with
 | nil=>
  rw [ho] at pc
  exfalso
  have pc:(z ++ ";").cps.toList=_:=pc
  rw [e0] at pc
  rw [<- pc] at n59
  exact n59 (List.mem_append_right _ List.mem_cons_self)
 | cons i r=>
  rw [ho] at pc
  have pc:(Builtin.Str.strSub (z ++ ";") 0 i).cps.toList=z.cps.toList.takeWhile (· != 59):=pc
  rw [StrLaws.strSub_toList,e0,List.drop_zero,Nat.sub_zero] at pc
  refine ⟨i,?_,?_⟩
  ·show (match Builtin.Str.occurrences (z ++ ";") ⟨#[59]⟩ 0 (z ++ ";").length 1 with
    | i::_=>some (D.int (i:Int))
    | []=>none)=_
   rw [ho]
  ·have hi:i<=z.cps.toList.length:=by
    rcases Nat.lt_or_ge z.cps.toList.length i with h | h
    ·exfalso
     rw [List.take_of_length_le (by rw [List.length_append]; simp only [List.length_cons,List.length_nil]; omega)] at pc
     rw [<- pc] at n59
     exact n59 (List.mem_append_right _ List.mem_cons_self)
    ·exact h
   rw [List.take_append_of_le_length hi] at pc
   rw [<- pc]
   show (z.cps.toList.drop (HT.sIx z.length 0 none)).take (HT.sIx z.length z.length (some (i:Int)) - HT.sIx z.length 0 none)=_
   have e1:HT.sIx z.length 0 none=0:=rfl
   rw [e1,HT.sIx_nat,List.drop_zero,Nat.sub_zero,Nat.min_eq_left (by rw [<- xn]; exact hi)]
noncomputable def Zk:FT:=(xT (tE (e2 zL (eL yF (z7 (z8 4) zD)) (eC (.int 1)))) (xT (tE (e2 zL (e2 zH (e2 zH (z8 4) (eC (.int 0))) (e1 xV (eC (.int 1)))) (eC (.str ":")))) (tE (zR qC (z7 (yE (e2 zH (z8 4) (eC (.int 0))) yI (zy (e1 xV (eC (.int 1))))) zD)))))
theorem QV {α:Type} {l:List α} (h:l≠[]):∃ l' c,l=l'++[c]:=⟨_,_,(List.dropLast_concat_getLast h).symm⟩
theorem QU {σ:yD} {ws:List Str} (h:σ[4]?=some (some (false,.lst (ws.map D.str)))) (hw:uN ws):Zk σ=some (wL ws):=by
 unfold Zk
 match ws,hw with
 | [],_=>
  have h:σ[4]?=some (some (false,.lst [])):=h
  have n1:zL (.int (([]:List D).length:Int)) (.int 1)=some (.bl false):=rfl
  have lb:wL []=false:=rfl
  have n0:zL (.int ((0:Nat):Int)) (.int 1)=some (.bl false):=rfl
  simp! [h,lb,List.length_nil,n0]
 | [w],hw=>
  have h:σ[4]?=some (some (false,.lst [.str w])):=h
  obtain ⟨l',c,e⟩:=QV (hw w List.mem_cons_self)
  have n1:zL (.int ((1:Nat):Int)) (.int 1)=some (.bl true):=rfl
  have ll:[D.str w].length=1:=rfl
  have x0:zH (.lst [.str w]) (.int 0)=some (.str w):=rfl
  have xl:zH (.str w) (.int (-1))=some (.str ⟨#[c]⟩):=by
   show (xX w.cps.toList (-1)).bind _=_
   rw [e,XU]
   rfl
  have ec:zL (.str ⟨#[c]⟩) (.str ":")=some (.bl (decide (w.cps.toList.getLast?=some 58))):=by
   rw [gT,e,List.getLast?_concat]
   congr 2
   show decide ([c]=[58])=_
   exact decide_eq_decide.mpr ⟨fun h=>by rw [(List.cons.inj h).1],fun h=>by rw [Option.some.inj h]⟩
  have sl:xj (.str w) none (some (-1))=some (.str (we w)):=rfl
  have nm:=QZ (we w)
  have lb:wL [w]=(decide (w.cps.toList.getLast?=some 58)&&uq (we w)):=rfl
  rw [lb]
  generalize we w=CW at *
  cases hc:decide (w.cps.toList.getLast?=some 58) with
  | false=>
   rw [hc] at ec
   simp! [h,ll,n1,x0,xV,xl,ec,Bool.false_and]
  | true=>
   rw [hc] at ec
   simp! [h,ll,n1,x0,xV,xl,ec,yE,zy,yI,sl,nm,Bool.true_and]
 | w::v::r,_=>
  have lb:wL (w::v::r)=false:=rfl
  have ll:((w::v::r).map D.str).length=r.length+2:=by rw [List.length_map]; rfl
  have n1:zL (.int ((r.length+2:Nat):Int)) (.int 1)=some (.bl false):=wD (by omega)
  generalize (w::v::r).map D.str=WV at *
  simp! [h,lb,ll,n1]
theorem IA {c:FT} {a b:FS} {σ:yD} (h:c σ=some true):zX c a b σ=a σ:=by
 show (c σ).bind _=_
 rw [h]
 rfl
theorem J_ {c:FT} {a b:FS} {σ:yD} (h:c σ=some false):zX c a b σ=b σ:=by
 show (c σ).bind _=_
 rw [h]
 rfl
noncomputable def uk:FE:=(yE (e2 zH (z8 4) (eC (.int 0))) yI (zy (e1 xV (eC (.int 1)))))
theorem TU {σ:yD} {ws:List Str} (h:σ[4]?=some (some (false,.lst (ws.map D.str)))) (hl:wL ws=true):uk σ=some (.str (yO ws)):=by
 match ws,hl with
 | w::r,_=>
  have x0:zH (.lst ((w::r).map D.str)) (.int 0)=some (.str w):=rfl
  have sl:xj (.str w) none (some (-1))=some (.str (we w)):=rfl
  have e:yO (w::r)=we w:=rfl
  rw [e]
  unfold uk
  generalize (w::r).map D.str=WV at *
  generalize we w=CW at *
  simp! [h,yE,zy,yI,x0,xV,sl]
noncomputable def yf (Ws:List (List Str)):List D:=Ws.map fun ws=>.lst (ws.map D.str)
theorem Ti {t:D} {L:List Str} {Ws:List (List Str)} (hok:∀ ws∈Ws,uN ws) (hn:Ws.length<=50000) {x2:Option Sl}:∀ (r pre:List (List Str)),Ws=pre++r->∀ (seen:List Str) (x4 x6:Option Sl),seen.length<=pre.length->
  ∃ seen' y4 y6,xN (zb 6) uV (uo pre.length r.length) [some (false,t),some (false,.lst (yf Ws)),x2,some (false,.lst (L.map D.str)),x4,some (true,.lst (seen.map D.str)),x6]=match flt L r pre.length seen with
   | some j=>some (.rt false (.int (j:Int)))
   | none=>some (.nx [some (false,t),some (false,.lst (yf Ws)),x2,some (false,.lst (L.map D.str)),y4,some (true,.lst (List.map D.str seen')),y6])
 | [],pre,_,seen,x4,x6,_=>⟨seen,x4,x6,rfl⟩
 | ws::r,pre,hp,seen,x4,x6,hs=>by
  have ok:=hok ws (by rw [hp]; exact List.mem_append_right _ List.mem_cons_self)
  have lp:pre.length<=50000:=by rw [hp,List.length_append] at hn; omega
  have hp':Ws=(pre++[ws])++r:=by rw [hp,List.append_assoc]; rfl
  have l':(pre++[ws]).length=pre.length+1:=by rw [List.length_append]; rfl
  have xi:zH (.lst (yf Ws)) (.int (pre.length:Int))=some (.lst (ws.map D.str)):=uP (by omega) (by
   rw [Int.toNat_natCast]
   unfold yf
   rw [hp,List.getElem?_map,Wr]
   rfl)
  have unr:xN (zb 6) uV (uo pre.length (ws::r).length) [some (false,t),some (false,.lst (yf Ws)),x2,some (false,.lst (L.map D.str)),x4,some (true,.lst (seen.map D.str)),x6]=(uV [some (false,t),some (false,.lst (yf Ws)),x2,some (false,.lst (L.map D.str)),x4,some (true,.lst (seen.map D.str)),some (false,.int (pre.length:Int))]).bind fun f=>match f with
    | .nx σ2=>xN (zb 6) uV (uo (pre.length+1) r.length) σ2
    | .ct σ2=>xN (zb 6) uV (uo (pre.length+1) r.length) σ2
    | .bk σ2=>some (.nx σ2)
    | .rt o d=>some (.rt o d):=rfl
  have bd:uV [some (false,t),some (false,.lst (yf Ws)),x2,some (false,.lst (L.map D.str)),x4,some (true,.lst (seen.map D.str)),some (false,.int (pre.length:Int))]=zX Zk
     (zI (zX (tE (e2 yy uk (wz 5))) (zd (z8 6)) zk) (wT 5 xg uk))
     (zX (xT (tE (e2 (xU fun i j=>decide (j<i)) (eL yF (z7 (z8 4) zD)) (eC (.int 0)))) (uJ (tE (zR vz (z7 (z8 4) zD)))))
       (zd (z8 6))
       (zX (xT (tE (e2 (xU fun i j=>decide (j<i)) (eL yF (z7 (z8 4) zD)) (eC (.int 0)))) (xT (tE (e2 yy (e2 zH (z8 4) (eC (.int 0))) (zu (z7 (eC (.str "jump")) (z7 (eC (.str "when")) (z7 (eC (.str "unless")) zD)))))) (tE (e2 u9 (e2 zH (z8 4) (e1 xV (eC (.int 1)))) (z8 3)))))
         (zd (z8 6))
         zk)) [some (false,t),some (false,.lst (yf Ws)),x2,some (false,.lst (L.map D.str)),some (false,.lst (ws.map D.str)),some (true,.lst (seen.map D.str)),some (false,.int (pre.length:Int))]:=by
   unfold uV
   refine yh ?_
   generalize yf Ws=RW at *
   simp! [xi]
  rw [unr,bd]
  have lt:=QU (σ:=[some (false,t),some (false,.lst (yf Ws)),x2,some (false,.lst (L.map D.str)),some (false,.lst (ws.map D.str)),some (true,.lst (seen.map D.str)),some (false,.int (pre.length:Int))]) rfl ok
  have ih:=fun seen x4 x6 h=>Ti (t:=t) (L:=L) hok hn (x2:=x2) r (pre++[ws]) hp' seen x4 x6 h
  rw [l'] at ih
  rw [show flt L (ws::r) pre.length seen=(if wL ws=true then (if yO ws∈seen then some pre.length else flt L r (pre.length+1) (seen++[yO ws])) else if ws≠[]/\vt ws=false then some pre.length else if ws≠[]/\vL ws=true/\wG ws ∉ L then some pre.length else flt L r (pre.length+1) seen) from rfl]
  cases hb:wL ws with
  | true=>
   rw [hb] at lt
   rw [IA lt,if_pos rfl]
   have ce:=TU (σ:=[some (false,t),some (false,.lst (yf Ws)),x2,some (false,.lst (L.map D.str)),some (false,.lst (ws.map D.str)),some (true,.lst (seen.map D.str)),some (false,.int (pre.length:Int))]) rfl hb
   have fi:yy (.str (yO ws)) (.lst (seen.map D.str))=some (.bl (decide (yO ws∈seen))):=by
    have:=pD (yO ws) seen
    show (vT _ _).bind _=_
    rw [this]
    rfl
   by_cases hm:yO ws∈seen
   ·rw [if_pos hm]
    rw [decide_eq_true hm] at fi
    refine ⟨seen,none,none,?_⟩
    generalize yf Ws=RW at *
    generalize seen.map D.str=SN at *
    generalize L.map D.str=LL at *
    generalize ws.map D.str=WW at *
    generalize yO ws=NW at *
    generalize uk=CE at *
    simp! [ce,fi]
   ·rw [if_neg hm]
    rw [decide_eq_false hm] at fi
    have ap:=Z3 (L:=seen.map D.str) (r:=.str (yO ws)) (by rw [List.length_map]; omega)
    have st:(zI (zX (tE (e2 yy uk (wz 5))) (zd (z8 6)) zk) (wT 5 xg uk)) [some (false,t),some (false,.lst (yf Ws)),x2,some (false,.lst (L.map D.str)),some (false,.lst (ws.map D.str)),some (true,.lst (seen.map D.str)),some (false,.int (pre.length:Int))]=some (.nx [some (false,t),some (false,.lst (yf Ws)),x2,some (false,.lst (L.map D.str)),some (false,.lst (ws.map D.str)),some (true,.lst ((seen++[yO ws]).map D.str)),some (false,.int (pre.length:Int))]):=by
     rw [List.map_append,List.map_cons,List.map_nil]
     generalize yf Ws=RW at *
     generalize seen.map D.str=SN at *
     generalize L.map D.str=LL at *
     generalize ws.map D.str=WW at *
     generalize yO ws=NW at *
     generalize uk=CE at *
     simp! [ce,fi,ap]
    rw [st]
    exact ih (seen++[yO ws]) _ _ (by rw [List.length_append]; simp only [List.length_cons,List.length_nil]; omega)
  | false=>
   rw [hb] at lt
   rw [J_ lt,if_neg (by decide)]
   cases hw:ws with
   | nil=>
    rw [if_neg (fun z=>z.1 rfl),if_neg (fun z=>z.1 rfl)]
    have d0:decide ((0:Int)<((0:Nat):Int))=false:=by decide
    obtain ⟨seen',y4,y6,e⟩:=ih seen (some (false,.lst [])) (some (false,.int (pre.length:Int))) (by omega)
    refine ⟨seen',y4,y6,?_⟩
    rw [<- e]
    generalize yf Ws=RW at *
    generalize seen.map D.str=SN at *
    generalize L.map D.str=LL at *
    simp! [List.map_nil,List.length_nil,d0]
   | cons w vs=>
    rw [hw] at ok hb
    obtain ⟨_,c⟩:=YO (ws:=w::vs) (by simp) ok
    have hr:vz [.lst ((w::vs).map D.str)]=some (false,.bl (vt (w::vs))):=by
     unfold vt
     cases c with
     | lab e b=>rw [hb] at b; cases b
     | row it nl b r' j la=>rw [r']
     | bad e b r'=>rw [r']
    have lw:=Zm w vs
    have d0:decide ((0:Int)<((vs.length+1:Nat):Int))=true:=decide_eq_true (by omega)
    have x0:zH (.lst ((w::vs).map D.str)) (.int 0)=some (.str w):=rfl
    have ij:=QB w
    have ej:vL (w::vs)=decide (w∈(["jump", "when", "unless"]:List Str)):=rfl
    rw [<- ej] at ij
    have xl:zH (.lst ((w::vs).map D.str)) (.int (-1))=some (.str (wG (w::vs))):=by
     obtain ⟨l',c,e⟩:=QV (l:=w::vs) (by simp)
     show xX ((w::vs).map D.str) (-1)=_
     unfold wG
     rw [e,List.map_append,List.map_cons,List.map_nil,XU,List.getLast?_concat]
     rfl
    have fi:u9 (.str (wG (w::vs))) (.lst (L.map D.str))=some (.bl (!decide (wG (w::vs)∈L))):=by
     have:=pD (wG (w::vs)) L
     show (vT _ _).bind _=_
     rw [this]
     rfl
    have gen:(zX (xT (tE (e2 (xU fun i j=>decide (j<i)) (eL yF (z7 (z8 4) zD)) (eC (.int 0)))) (uJ (tE (zR vz (z7 (z8 4) zD)))))
       (zd (z8 6))
       (zX (xT (tE (e2 (xU fun i j=>decide (j<i)) (eL yF (z7 (z8 4) zD)) (eC (.int 0)))) (xT (tE (e2 yy (e2 zH (z8 4) (eC (.int 0))) (zu (z7 (eC (.str "jump")) (z7 (eC (.str "when")) (z7 (eC (.str "unless")) zD)))))) (tE (e2 u9 (e2 zH (z8 4) (e1 xV (eC (.int 1)))) (z8 3)))))
         (zd (z8 6))
         zk)) [some (false,t),some (false,.lst (yf Ws)),x2,some (false,.lst (L.map D.str)),some (false,.lst ((w::vs).map D.str)),some (true,.lst (seen.map D.str)),some (false,.int (pre.length:Int))]=(if vt (w::vs)=false then some (.rt false (.int (pre.length:Int))) else if vL (w::vs)=true/\wG (w::vs) ∉ L then some (.rt false (.int (pre.length:Int))) else some (.nx [some (false,t),some (false,.lst (yf Ws)),x2,some (false,.lst (L.map D.str)),some (false,.lst ((w::vs).map D.str)),some (true,.lst (seen.map D.str)),some (false,.int (pre.length:Int))])):=by
     generalize yf Ws=RW at *
     generalize seen.map D.str=SN at *
     generalize L.map D.str=LL at *
     generalize (w::vs).map D.str=WW at *
     generalize wG (w::vs)=LW at *
     generalize vL (w::vs)=JB at *
     cases hro:vt (w::vs) with
     | false=>
      rw [hro] at hr
      rw [if_pos rfl]
      simp! [lw,d0,hr]
     | true=>
      rw [hro] at hr
      rw [if_neg (by decide)]
      cases JB with
      | false=>
       rw [if_neg (fun z=>absurd z.1 (by decide))]
       simp! [lw,d0,hr,x0,ij]
      | true=>
       by_cases hm:LW∈L
       ·rw [if_neg (fun z=>z.2 hm)]
        rw [decide_eq_true hm] at fi
        simp! [lw,d0,hr,x0,ij,xV,xl,fi,Bool.not_true]
       ·rw [if_pos ⟨rfl,hm⟩]
        rw [decide_eq_false hm] at fi
        simp! [lw,d0,hr,x0,ij,xV,xl,fi,Bool.not_false]
    rw [gen]
    by_cases ro:vt (w::vs)=false
    ·rw [if_pos ro,if_pos ⟨by simp,ro⟩]
     exact ⟨seen,none,none,rfl⟩
    ·have n0:¬ (w::vs≠[]/\vt (w::vs)=false):=fun z=>ro z.2
     rw [if_neg ro,if_neg n0]
     by_cases hq:vL (w::vs)=true/\wG (w::vs) ∉ L
     ·rw [if_pos hq,if_pos ⟨by simp,hq⟩]
      exact ⟨seen,none,none,rfl⟩
     ·have n1:¬ (w::vs≠[]/\vL (w::vs)=true/\wG (w::vs) ∉ L):=fun z=>hq z.2
      rw [if_neg hq,if_neg n1]
      exact ih seen _ _ (by omega)
theorem Oz {T:Str} (hT:T.length<=12000):pf [.str T]=some (false,tJ (flt (xJ ((Txt.split T ⟨#[10]⟩).map fun z=>wt z.cps.toList)) ((Txt.split T ⟨#[10]⟩).map fun z=>wt z.cps.toList) 0 [])):=by
 have fs:w_ (.str T) (.str "\n")=some (.lst ((Txt.split T ⟨#[10]⟩).map D.str)):=if_pos ⟨rfl,by omega⟩
 have sl:(Txt.split T ⟨#[10]⟩).length<=T.length+2:=PyProof.Rows.split_le T ⟨#[10]⟩
 have sp:∀ z∈Txt.split T ⟨#[10]⟩,z.length<=T.length:=fun z hz=>PyProof.Rows.part_short hz
 generalize Txt.split T ⟨#[10]⟩=zs at *
 obtain ⟨Ws,hW⟩:∃ Ws,Ws=zs.map fun z=>wt z.cps.toList:=⟨_,rfl⟩
 have hok:∀ ws∈Ws,uN ws:=fun ws hw=>by
  rw [hW] at hw
  obtain ⟨z,_,rfl⟩:=List.mem_map.mp hw
  exact UX _
 have hn:Ws.length<=12002:=by rw [hW,List.length_map]; omega
 rw [<- hW]
 obtain ⟨σ1,e1,x2,rfl⟩:=tX (g:=zb 2) (b:=Wf) (fun i σ=>∃ x2,σ=[some (false,.str T),some (true,.lst (yf (Ws.take i))),x2,none,none,none,none]) (ds:=zs.map D.str)
  (σ:=[some (false,.str T),some (true,.lst []),none,none,none,none,none]) 0 ⟨none,rfl⟩ (by
  rintro i v σ hv ⟨x2,rfl⟩
  rw [Nat.zero_add] at *
  rw [List.getElem?_map] at hv
  obtain ⟨z,hz,rfl⟩:∃ z,zs[i]?=some z/\v=.str z:=by
   cases q:zs[i]? with
   | none=>rw [q] at hv; cases hv
   | some z=>rw [q] at hv; cases hv; exact ⟨z,rfl,rfl⟩
  obtain ⟨hi,ez⟩:=List.getElem?_eq_some_iff.mp hz
  have zl:=sp z (List.mem_of_getElem? hz)
  have tk:yf (Ws.take (i+1))=yf (Ws.take i)++[.lst ((wt z.cps.toList).map D.str)]:=by
   unfold yf
   rw [hW,List.take_succ_eq_append_getElem (by rw [List.length_map]; exact hi),List.getElem_map,ez,List.map_append]
   rfl
  have rl:(yf (Ws.take i)).length<=12002:=by
   unfold yf
   rw [List.length_map,List.length_take]
   omega
  rw [tk,Ir]
  obtain ⟨k,ix,cc⟩:=O_ z
  have ad:zQ (.str z) (.str ";")=some (.str (z ++ ";")):=add_str (by show z.length+1<=_; omega)
  have sc:xj (.str z) none (some (k:Int))=some (.str (L2.cutS z none (some (k:Int)))):=rfl
  have cl:=cut_len z none (some (k:Int))
  generalize L2.cutS z none (some (k:Int))=P1 at *
  have rc:=Jc P1 9 32
  have rl':(Txt.replace P1 ⟨#[9]⟩ ⟨#[32]⟩).length=P1.length:=by rw [<- xn,rc,List.length_map,xn]
  have fr:jE "\t" " " (.str P1)=some (.str (Txt.replace P1 ⟨#[9]⟩ ⟨#[32]⟩)):=if_pos ⟨by show P1.length+(P1.length+1)*1<=_; omega,by show (Txt.replace P1 ⟨#[9]⟩ ⟨#[32]⟩).length<=_; omega⟩
  generalize Txt.replace P1 ⟨#[9]⟩ ⟨#[32]⟩=R at *
  have fs2:w_ (.str R) (.str " ")=some (.lst ((Txt.split R ⟨#[32]⟩).map D.str)):=if_pos ⟨rfl,by omega⟩
  have lc:=jQ (g:=zb 7) (c:=Uf) (e:=Iu) (σ:=[some (false,.str T),some (true,.lst (yf (Ws.take i))),some (false,.str R),none,none,none,none,none]) (fun d=>match d with | .str z=>!z.cps.toList.isEmpty | _=>false) id (ds:=(Txt.split R ⟨#[32]⟩).map D.str) fun d hd=>by
   obtain ⟨z,_,rfl⟩:=List.mem_map.mp hd
   have n:xP (.str z) (.str "")=some (.bl (!z.cps.toList.isEmpty)):=by
    obtain ⟨⟨l⟩⟩:=z
    cases l<;>rfl
   refine ⟨_,rfl,?_,fun _=>rfl⟩
   unfold Uf
   simp! [n]
  have ws:W z.cps.toList=((Txt.split R ⟨#[32]⟩).map fun t=>t.cps.toList).filter fun p=>!p.isEmpty:=by
   unfold W
   rw [kK,rc,cc]
   rfl
  have fin:(((Txt.split R ⟨#[32]⟩).map D.str).filter fun d=>match d with | .str z=>!z.cps.toList.isEmpty | _=>false).map id=(W z.cps.toList).map sD:=by
   rw [ws,List.map_id,List.filter_map,List.filter_map,List.map_map]
   refine List.map_congr_left fun z _=>(VL z).symm
  rw [fin] at lc
  have ap:=Z3 (L:=yf (Ws.take i)) (r:=.lst ((W z.cps.toList).map sD)) (by omega)
  refine ⟨_,[some (false,.str T),some (true,.lst (yf (Ws.take i)++[.lst ((W z.cps.toList).map sD)])),some (false,.str R),none,none,none,none],rfl,.inl ?_,_,rfl⟩
  unfold Wf
  generalize (W z.cps.toList).map sD=WW at *
  generalize (Txt.split R ⟨#[32]⟩).map D.str=SS at *
  generalize yf (Ws.take i)=RD at *
  generalize z ++ ";" = ZS at *
  simp! [yE,zy,yI,ad,ix,sc,fr,fs2,lc,ap])
 rw [Nat.zero_add,List.length_map,List.take_of_length_le (by rw [hW,List.length_map]; exact Nat.le_refl _)] at e1
 obtain ⟨σ2,e2,x4,rfl⟩:=tX (g:=zb 4) (b:=Zh) (fun i σ=>∃ x4,σ=[some (false,.str T),some (false,.lst (yf Ws)),x2,some (true,.lst ((xJ (Ws.take i)).map D.str)),x4,none,none]) (ds:=yf Ws)
  (σ:=[some (false,.str T),some (false,.lst (yf Ws)),x2,some (true,.lst []),none,none,none]) 0 ⟨none,rfl⟩ (by
  rintro i v σ hv ⟨x4,rfl⟩
  rw [Nat.zero_add] at *
  unfold yf at hv
  rw [List.getElem?_map] at hv
  obtain ⟨ws,hz,rfl⟩:∃ ws,Ws[i]?=some ws/\v=.lst (ws.map D.str):=by
   cases q:Ws[i]? with
   | none=>rw [q] at hv; cases hv
   | some z=>rw [q] at hv; cases hv; exact ⟨z,rfl,rfl⟩
  obtain ⟨hi,ez⟩:=List.getElem?_eq_some_iff.mp hz
  have ok:=hok ws (List.mem_of_getElem? hz)
  have tk:xJ (Ws.take (i+1))=xJ (Ws.take i)++(if wL ws=true then [yO ws] else []):=by
   unfold xJ
   rw [List.take_succ_eq_append_getElem hi,ez,List.filter_append,List.map_append,List.filter_cons]
   split<;>rfl
  have ll:(xJ (Ws.take i)).length<=12002:=by
   unfold xJ
   rw [List.length_map]
   refine Nat.le_trans (List.length_filter_le ..) ?_
   rw [List.length_take]
   omega
  rw [tk]
  have lt:=QU (σ:=[some (false,.str T),some (false,.lst (yf Ws)),x2,some (true,.lst ((xJ (Ws.take i)).map D.str)),some (false,.lst (ws.map D.str)),none,none]) rfl ok
  have bd:Zh=zX Zk (wT 3 xg uk) zk:=rfl
  refine ⟨_,_,rfl,.inl ?_,some (false,.lst (ws.map D.str)),rfl⟩
  show Zh [some (false,.str T),some (false,.lst (yf Ws)),x2,some (true,.lst ((xJ (Ws.take i)).map D.str)),some (false,.lst (ws.map D.str)),none,none]=_
  rw [bd]
  cases hb:wL ws with
  | true=>
   rw [hb] at lt
   rw [IA lt,if_pos rfl,List.map_append,List.map_cons,List.map_nil]
   have ce:=TU (σ:=[some (false,.str T),some (false,.lst (yf Ws)),x2,some (true,.lst ((xJ (Ws.take i)).map D.str)),some (false,.lst (ws.map D.str)),none,none]) rfl hb
   have ap:=Z3 (L:=(xJ (Ws.take i)).map D.str) (r:=.str (yO ws)) (by rw [List.length_map]; omega)
   generalize yf Ws=RW at *
   generalize (xJ (Ws.take i)).map D.str=LL at *
   generalize ws.map D.str=WW at *
   generalize yO ws=NW at *
   generalize uk=CE at *
   simp! [ce,ap]
  | false=>
   rw [hb] at lt
   rw [J_ lt,if_neg (by decide),List.append_nil]
   rfl)
 rw [Nat.zero_add,List.take_of_length_le (by unfold yf; rw [List.length_map]; exact Nat.le_refl _)] at e2
 obtain ⟨seen',y4,y6,e3⟩:=Ti (t:=.str T) (L:=xJ Ws) hok (by omega) (x2:=x2) Ws [] rfl [] x4 none (Nat.le_refl _)
 have rg:JU [some (false,.str T),some (false,.lst (yf Ws)),x2,some (false,.lst ((xJ Ws).map D.str)),x4,some (true,.lst []),none]=some (xG Ws.length):=uZ (n:=(Ws.length:Int)) (by
  have:(yf Ws).length=Ws.length:=List.length_map _
  rw [<- this]
  rfl) (by omega)
 rw [Ie] at rg
 rw [Lc]
 unfold XY
 generalize yf Ws=RW at *
 generalize (xJ Ws).map D.str=LL at *
 generalize zs.map D.str=ZZ at *
 have e3:xN (zb 6) uV (uo 0 Ws.length) [some (false,.str T),some (false,.lst RW),x2,some (false,.lst LL),x4,some (true,.lst []),none]=match flt (xJ Ws) Ws 0 [] with
   | some j=>some (.rt false (.int (j:Int)))
   | none=>some (.nx [some (false,.str T),some (false,.lst RW),x2,some (false,.lst LL),y4,some (true,.lst (List.map D.str seen')),y6]):=e3
 generalize uo 0 Ws.length=FT at *
 generalize List.map D.str seen'=SN at *
 cases hF:flt (xJ Ws) Ws 0 [] with
 | none=>
  rw [hF] at e3
  have e3:xN (zb 6) uV FT [some (false,.str T),some (false,.lst RW),x2,some (false,.lst LL),x4,some (true,.lst []),none]=some (.nx [some (false,.str T),some (false,.lst RW),x2,some (false,.lst LL),y4,some (true,.lst SN),y6]):=e3
  show _=some (false,D.non)
  simp! [fs,e1,e2,rg,e3]
 | some j=>
  rw [hF] at e3
  have e3:xN (zb 6) uV FT [some (false,.str T),some (false,.lst RW),x2,some (false,.lst LL),x4,some (true,.lst []),none]=some (.rt false (.int (j:Int))):=e3
  show _=some (false,D.int (j:Int))
  simp! [fs,e1,e2,rg,e3]
end L3
namespace L3
open PySem
noncomputable def Xj:FS:=
 (zI (zT 1 (eC (.str " !\"#$&'()*+,-./0123456789:;<=>?@ABCDEFGHIJKLMNOPQRSTUVWXYZ[\\]^_`")))
  (zI (zT 1 (e2 zQ (z8 1) (eC (.str "abcdefghijklmnopqrstuvwxyz{|}~\n\t"))))
  (zd (e2 zH (z8 1) (e2 vK (z8 0) (eC (.int 96)))))))
noncomputable def gB:List D->Option (Bool×D):=FR 1 2 Xj
theorem Ln (x0:D):gB [x0]=yi 2 Xj [x0]:=rfl
noncomputable def UZ:FE:=(z8 9)
noncomputable def YZ:FT:=(tE (e2 xP (z8 9) (eC (.str ""))))
noncomputable def YX:FE:=(e2 zQ (z8 9) (eC (.str ":")))
noncomputable def Z8:FS:=
 (zI (zT 3 (yx 1 (w8 (e2 w_ (z8 0) (eC (.str " ")))) (zb 9) YZ UZ))
  (zI (zX (tE (e2 zL (z8 3) (zu zD)))
   (zT 3 (zu (z7 (eC (.str "stop")) zD)))
   zk)
  (zI (zT 5 (zR yM (z7 (z8 1) (z7 (eC (.int 1)) (z7 (eL yF (z7 (z8 3) zD)) zD)))))
  (zI (zT 6 (zu (z7 (eC (.str "00")) (z7 (eC (.str "07")) (z7 (eC (.str "+1")) (z7 (eC (.str "-1")) (z7 (eC (.str "8")) (z7 (eC (.str "32")) (z7 (eC (.str "256")) (z7 (eC (.str "65536")) (z7 (eC (.str "123456")) (z7 (eC (.str "r8")) (z7 (eC (.str "r")) (z7 (eC (.str "R1")) (z7 (eC (.str "r01")) (z7 (eC (.str "rr1")) (z7 (eC (.str "1r")) (z7 (eC (.str "carrys")) zD))))))))))))))))))
  (zI (zT 6 (e2 zQ (z8 6) (zu (z7 (eC (.str "nought")) (z7 (eC (.str "r7")) (z7 (eC (.str "0")) (z7 (eC (.str "31")) (z7 (eC (.str "255")) (z7 (eC (.str "65535")) (z7 (eC (.str "stop")) (z7 (eC (.str "add")) (z7 (eC (.str "label")) (z7 (eC (.str "stop:")) (z7 (eC (.str "Stop")) (z7 (eC (.str ":")) (z7 (eC (.str "a::")) zD))))))))))))))))
  (zI (zT 6 (e2 zQ (e2 zQ (e2 zQ (z8 6) (zu (z7 (eC (.str "abcdefghi")) (z7 (eC (.str "strange")) zD)))) (z8 2)) (yx 1 (w8 (z8 2)) (zb 9) yn YX)))
  (zI (zT 4 (e2 zH (z8 6) (zR yM (z7 (z8 1) (z7 (eC (.int 2)) (z7 (eL yF (z7 (z8 6) zD)) zD))))))
  (zI (zX (tE (e2 zL (zR yM (z7 (z8 1) (z7 (eC (.int 6)) (z7 (eC (.int 20)) zD)))) (eC (.int 7))))
   (zT 4 (e2 zH (zu (z7 (e2 gU (eC (.str "1")) (eC (.int 4000))) (z7 (e2 tO (eC (.str "a")) (eC (.int 300))) (z7 (e2 zQ (eC (.str "r")) (e2 tO (eC (.str "0")) (eC (.int 50)))) zD)))) (zR yM (z7 (z8 1) (z7 (eC (.int 7)) (z7 (eC (.int 3)) zD))))))
   zk)
  (zI (zT 7 (zR yM (z7 (z8 1) (z7 (eC (.int 3)) (z7 (eC (.int 8)) zD)))))
  (zI (zT 8 (zR yM (z7 (z8 1) (z7 (eC (.int 4)) (z7 (e2 zQ (eL yF (z7 (z8 0) zD)) (eC (.int 1))) zD)))))
  (zI (zX (tE (e2 zL (z8 7) (eC (.int 0))))
   (zT 3 (e2 zQ (yE (z8 3) yI (zy (z8 5))) (yE (z8 3) (zy (e2 zQ (z8 5) (eC (.int 1)))) yI)))
   (zX (tE (e2 zL (z8 7) (eC (.int 1))))
     (zT 3 (e2 zQ (e2 zQ (yE (z8 3) yI (zy (z8 5))) (zu (z7 (z8 4) zD))) (yE (z8 3) (zy (z8 5)) yI)))
     (zX (tE (e2 (xU fun i j=>decide (i<j)) (z8 7) (eC (.int 5))))
       (zT 3 (e2 zQ (e2 zQ (yE (z8 3) yI (zy (z8 5))) (zu (z7 (z8 4) zD))) (yE (z8 3) (zy (e2 zQ (z8 5) (eC (.int 1)))) yI)))
       (zX (tE (e2 zL (z8 7) (eC (.int 5))))
         (zd (e2 zQ (e2 zQ (z8 0) (eC (.str "\n"))) (z8 0)))
         (zX (tE (e2 zL (z8 7) (eC (.int 6))))
           (zd (e2 zQ (e2 zQ (z8 0) (eC (.str "\n"))) (e2 zH (zu (z7 (e2 zQ (z8 4) (eC (.str ":"))) (z7 (e2 zQ (eC (.str "label ")) (z8 4)) zD))) (e2 vK (e2 qS (z8 1) (eC (.int 2))) (eC (.int 2))))))
           (zd (e2 zQ (e2 zQ (yE (z8 0) yI (zy (z8 8))) (zR gB (z7 (zR yM (z7 (z8 1) (z7 (eC (.int 5)) (z7 (eC (.int 96)) zD)))) zD))) (yE (z8 0) (zy (e2 zQ (z8 8) (e2 vK (z8 1) (eC (.int 2))))) yI))))))))
  (zd (e2 u8 (eC (.str " ")) (z8 3))))))))))))))
noncomputable def kU:List D->Option (Bool×D):=FR 3 9 Z8
theorem ID (c:Nat):∀ l:List Nat,((wo c l).map (·.length)).sum+(wo c l).length=l.length+1
 | []=>rfl
 | a::l=>by
  have ih:=ID c l
  rw [qj]
  split
  ·simp only [List.map_cons,List.sum_cons,List.length_cons,List.length_nil]
   omega
  ·obtain ⟨p,r,e⟩:=YG c l
   rw [e] at ih ⊢
   simp only [List.map_cons,List.sum_cons,List.length_cons] at ih ⊢
   omega
theorem E2 (x:Str) (c:Nat):((Txt.split x ⟨#[c]⟩).map (·.length)).sum+(Txt.split x ⟨#[c]⟩).length=x.length+1:=by
 have h:=ID c x.cps.toList
 rw [<- kK,List.map_map,List.length_map,xn] at h
 have:(Txt.split x ⟨#[c]⟩).map ((fun l:List Nat=>l.length) ∘ fun t:Str=>t.cps.toList)=(Txt.split x ⟨#[c]⟩).map (·.length):=List.map_congr_left fun z _=>xn z
 rw [this] at h
 exact h
theorem IO (p:Str->Bool):∀ ts:List Str,((ts.filter p).map (·.length)).sum+(ts.filter p).length<=(ts.map (·.length)).sum+ts.length
 | []=>Nat.le_refl _
 | t::ts=>by
  have:=IO p ts
  rw [List.filter_cons]
  split
  ·simp only [List.map_cons,List.sum_cons,List.length_cons]
   omega
  ·simp only [List.map_cons,List.sum_cons,List.length_cons]
   omega
noncomputable def wq (ts:List Str):Nat:=(ts.map (·.length)).sum+ts.length
theorem pU (a b:List Str):wq (a++b)=wq a+wq b:=by
 unfold wq
 rw [List.map_append,List.sum_append,List.length_append]
 omega
theorem UL (a:Str):wq [a]=a.length+1:=by
 unfold wq
 simp
theorem TR {α:Type} (xs:List α) (k:Nat):xD xs none (some (k:Int))=xs.take k:=by
 unfold xD
 show (xs.drop 0).take (HT.sIx xs.length xs.length (some (k:Int)) - 0)=_
 rw [HT.sIx_nat,List.drop_zero,Nat.sub_zero]
 rcases Nat.le_total k xs.length with h | h
 ·rw [Nat.min_eq_left h]
 ·rw [Nat.min_eq_right h,List.take_length,List.take_of_length_le h]
theorem On {α:Type} (xs:List α) (k:Nat):xD xs (some (k:Int)) none=xs.drop k:=by
 unfold xD
 show (xs.drop (HT.sIx xs.length 0 (some (k:Int)))).take (xs.length - HT.sIx xs.length 0 (some (k:Int)))=_
 rw [HT.sIx_nat]
 rcases Nat.le_total k xs.length with h | h
 ·rw [Nat.min_eq_left h]
  exact List.take_of_length_le (by rw [List.length_drop]; exact Nat.le_refl _)
 ·rw [Nat.min_eq_right h,List.drop_length,List.take_nil,List.drop_eq_nil_of_le h]
theorem Cv (ts:List Str) {k:Int} (h:0<=k):xj (.lst (ts.map D.str)) none (some k)=some (.lst ((ts.take k.toNat).map D.str)):=by
 show some (D.lst (xD (ts.map D.str) none (some k)))=_
 have:=TR (ts.map D.str) k.toNat
 rw [show ((k.toNat:Nat):Int)=k by omega] at this
 rw [this,List.map_take]
theorem IB (ts:List Str) {k:Int} (h:0<=k):xj (.lst (ts.map D.str)) (some k) none=some (.lst ((ts.drop k.toNat).map D.str)):=by
 show some (D.lst (xD (ts.map D.str) (some k) none))=_
 have:=On (ts.map D.str) k.toNat
 rw [show ((k.toNat:Nat):Int)=k by omega] at this
 rw [this,List.map_drop]
theorem tI {L M:List D} (h:L.length+M.length<=1000000):zQ (.lst L) (.lst M)=some (.lst (L++M)):=by
 show (if L.length+M.length<=yS then _ else _)=_
 rw [if_pos (by show _<=16777216; omega)]
theorem qM {a b:Str} (h:a.length+b.length<=10000000):zQ (.str a) (.str b)=some (.str (a++b)):=by
 show (if a.length+b.length<=yS then _ else _)=_
 rw [if_pos (by show _<=16777216; omega)]
theorem L8 (xs:List D):zL (.lst xs) (.lst [])=some (.bl xs.isEmpty):=by
 have h:=B8 xs
 cases h1:zL (.lst xs) (.lst []) with
 | none=>
  exfalso
  cases xs<;>cases h1
 | some d=>cases xs<;>cases h1<;>rfl
theorem Cq (k:Int):∃ s:Str,gB [.int k]=some (false,.str s)/\s.length=1:=by
 have e:((" !\"#$&'()*+,-./0123456789:;<=>?@ABCDEFGHIJKLMNOPQRSTUVWXYZ[\\]^_`" : Str)++("abcdefghijklmnopqrstuvwxyz{|}~\n\t" : Str)).cps.toList.length=96:=by decide +kernel
 have ad:zQ (.str " !\"#$&'()*+,-./0123456789:;<=>?@ABCDEFGHIJKLMNOPQRSTUVWXYZ[\\]^_`") (.str "abcdefghijklmnopqrstuvwxyz{|}~\n\t")=some (.str (" !\"#$&'()*+,-./0123456789:;<=>?@ABCDEFGHIJKLMNOPQRSTUVWXYZ[\\]^_`" ++ "abcdefghijklmnopqrstuvwxyz{|}~\n\t")):=add_str (by rw [xn,xW] at e; omega)
 generalize ((" !\"#$&'()*+,-./0123456789:;<=>?@ABCDEFGHIJKLMNOPQRSTUVWXYZ[\\]^_`" : Str)++("abcdefghijklmnopqrstuvwxyz{|}~\n\t" : Str))=Z at *
 have hk:(k % 96).toNat<Z.cps.toList.length:=by rw [e]; omega
 have ix:zH (.str Z) (.int (k % 96))=some (.str ⟨#[Z.cps.toList[(k % 96).toNat]]⟩):=by
  show (xX Z.cps.toList (k % 96)).bind _=_
  rw [uP (by omega) (List.getElem?_eq_getElem hk)]
  rfl
 refine ⟨⟨#[Z.cps.toList[(k % 96).toNat]]⟩,?_,rfl⟩
 rw [Ln]
 unfold Xj
 simp! [ad,ix]
noncomputable def wV:List Str:=["00", "07", "+1", "-1", "8", "32", "256", "65536", "123456", "r8", "r", "R1", "r01", "rr1", "1r", "carrys"]
noncomputable def wn:List Str:=["nought", "r7", "0", "31", "255", "65535", "stop", "add", "label", "stop:", "Stop", ":", "a::"]
noncomputable def ub:List Str:=["abcdefghi", "strange"]
noncomputable def xq (N:List Str):List Str:=(wV++wn++ub)++N++N.map fun t:Str=>t++(":" : Str)
theorem Oc {z:Str} {N:List Str} (hN:∀ t∈N,t.length<=8) (hn:N.length<=100) (hz:z.length<=100000) (c:Int):∃ Z:Str,kU [.str z,.int c,.lst (N.map D.str)]=some (false,.str Z)/\Z.length<=2*z.length+5000:=by
 have sp:w_ (.str z) (.str " ")=some (.lst ((Txt.split z ⟨#[32]⟩).map D.str)):=if_pos ⟨rfl,by omega⟩
 have ss:=E2 z 32
 generalize Txt.split z ⟨#[32]⟩=zs at *
 have lc:=jQ (g:=zb 9) (c:=YZ) (e:=UZ) (σ:=[some (false,.str z),some (false,.int c),some (false,.lst (N.map D.str)),none,none,none,none,none,none,none]) (fun d=>match d with | .str z=>!z.cps.toList.isEmpty | _=>false) id (ds:=zs.map D.str) fun d hd=>by
  obtain ⟨z,_,rfl⟩:=List.mem_map.mp hd
  have n:xP (.str z) (.str "")=some (.bl (!z.cps.toList.isEmpty)):=by
   obtain ⟨⟨l⟩⟩:=z
   cases l<;>rfl
  refine ⟨_,rfl,?_,fun _=>rfl⟩
  unfold YZ
  simp! [n]
 obtain ⟨us,hus,su⟩:∃ us:List Str,((zs.map D.str).filter fun d=>match d with | .str z=>!z.cps.toList.isEmpty | _=>false).map id=us.map D.str/\wq us<=z.length+1:=by
  refine ⟨zs.filter fun z=>!z.cps.toList.isEmpty,?_,?_⟩
  ·rw [List.map_id,List.filter_map]
   rfl
  ·have:=IO (fun z=>!z.cps.toList.isEmpty) zs
   unfold wq
   omega
 rw [hus] at lc
 obtain ⟨ws,hws,sw,e3⟩:∃ ws:List Str,ws≠[]/\wq ws<=z.length+10/\zX (tE (e2 zL (z8 3) (zu zD))) (zT 3 (zu (z7 (eC (.str "stop")) zD))) zk [some (false,.str z),some (false,.int c),some (false,.lst (N.map D.str)),some (false,.lst (us.map D.str)),none,none,none,none,none]=some (.nx [some (false,.str z),some (false,.int c),some (false,.lst (N.map D.str)),some (false,.lst (ws.map D.str)),none,none,none,none,none]):=by
  have en:=L8 (us.map D.str)
  cases us with
  | nil=>
   refine ⟨["stop"],by simp,by rw [UL]; show 4+1<=_; omega,?_⟩
   have en:zL (.lst []) (.lst [])=some (.bl true):=rfl
   generalize N.map D.str=NN at *
   simp! [List.map_nil,en]
  | cons a r=>
   refine ⟨a::r,by simp,by omega,?_⟩
   have en:zL (.lst ((a::r).map D.str)) (.lst [])=some (.bl false):=en
   generalize N.map D.str=NN at *
   generalize (a::r).map D.str=AR at *
   simp! [en]
 have wl:0<ws.length:=List.length_pos_iff.mpr hws
 have wlz:ws.length<=z.length+10:=by unfold wq at sw; omega
 obtain ⟨m1,a0,a1⟩:=xH c 1 (ws.length:Int) (by omega)
 generalize yV c 1 (ws.length:Int)=at_ at *
 have ll:(ws.map D.str).length=ws.length:=List.length_map _
 have lN:(N.map D.str).length=N.length:=List.length_map _
 have lc2:=qb (g:=zb 9) (e:=YX) (σ:=[some (false,.str z),some (false,.int c),some (false,.lst (N.map D.str)),some (false,.lst (ws.map D.str)),none,some (false,.int at_),some (false,.lst ((wV++wn).map D.str)),none,none,none]) (fun d=>match d with | .str t=>.str (t ++ ":") | d=>d) (ds:=N.map D.str) fun d hd=>by
  obtain ⟨t,ht,rfl⟩:=List.mem_map.mp hd
  have ad:zQ (.str t) (.str ":")=some (.str (t ++ ":")):=add_str (by have:=hN t ht; show t.length+1<=_; omega)
  refine ⟨_,rfl,?_⟩
  unfold YX
  simp! [ad]
 have e2':(N.map D.str).map (fun d=>match d with | .str t=>.str (t ++ ":") | d=>d)=(N.map fun t:Str=>t++(":" : Str)).map D.str:=by
  rw [List.map_map,List.map_map]
  rfl
 rw [e2'] at lc2
 have hS:(xq N).length=31+2*N.length:=by
  unfold xq
  have l1:wV.length=16:=rfl
  have l2:wn.length=13:=rfl
  have l3:ub.length=2:=rfl
  simp only [List.length_append,List.length_map]
  omega
 have sS:∀ t∈xq N,t.length<=9:=fun t ht=>by
  unfold xq at ht
  rcases List.mem_append.mp ht with ht | ht
  ·rcases List.mem_append.mp ht with ht | ht
   ·have:∀ t∈(wV++wn++ub),t.length<=9:=by decide +kernel
    exact this t ht
   ·have:=hN t ht
    omega
  ·obtain ⟨u,hu,rfl⟩:=List.mem_map.mp ht
   have:=hN u hu
   rw [xW]
   show _+1<=_
   omega
 obtain ⟨m2,b0,b1⟩:=xH c 2 ((xq N).length:Int) (by omega)
 obtain ⟨w0,hw0,x2⟩:=pL (xq N) b0 b1
 have w0l:=sS w0 hw0
 have lS:((xq N).map D.str).length=(xq N).length:=List.length_map _
 have g1:zQ (.lst (wV.map D.str)) (.lst (wn.map D.str))=some (.lst ((wV++wn).map D.str)):=by
  rw [List.map_append]
  exact tI (by decide)
 have g2:zQ (.lst ((wV++wn).map D.str)) (.lst [.str "abcdefghi",.str "strange"])=some (.lst ((wV++wn++ub).map D.str)):=by
  rw [List.map_append (l₂:=ub)]
  exact tI (by decide)
 have g3:zQ (.lst ((wV++wn++ub).map D.str)) (.lst (N.map D.str))=some (.lst ((wV++wn++ub++N).map D.str)):=by
  rw [List.map_append (l₂:=N)]
  exact tI (by rw [lN,List.length_map]; show 31+_<=_; omega)
 have g4:zQ (.lst ((wV++wn++ub++N).map D.str)) (.lst ((N.map fun t:Str=>t++(":" : Str)).map D.str))=some (.lst ((xq N).map D.str)):=by
  unfold xq
  rw [List.map_append (l₁:=wV++wn++ub++N)]
  exact tI (by rw [List.length_map,List.length_map,List.length_map,List.length_append]; show 31+_+_<=_; omega)
 obtain ⟨m6,_,_⟩:=xH c 6 20 (by decide)
 obtain ⟨m7,d0,d1⟩:=xH c 7 3 (by decide)
 obtain ⟨m3,f0,f1⟩:=xH c 3 8 (by decide)
 obtain ⟨m4,h0,h1⟩:=xH c 4 ((z.length:Int)+1) (by omega)
 obtain ⟨m5,_,_⟩:=xH c 5 96 (by decide)
 generalize yV c 3 8=way at *
 generalize yV c 4 ((z.length:Int)+1)=spot at *
 obtain ⟨w1,hw1,e8⟩:∃ w1:Str,w1.length<=4000/\zX (tE (e2 zL (zR yM (z7 (z8 1) (z7 (eC (.int 6)) (z7 (eC (.int 20)) zD)))) (eC (.int 7))))
   (zT 4 (e2 zH (zu (z7 (e2 gU (eC (.str "1")) (eC (.int 4000))) (z7 (e2 tO (eC (.str "a")) (eC (.int 300))) (z7 (e2 zQ (eC (.str "r")) (e2 tO (eC (.str "0")) (eC (.int 50)))) zD)))) (zR yM (z7 (z8 1) (z7 (eC (.int 7)) (z7 (eC (.int 3)) zD))))))
   zk [some (false,.str z),some (false,.int c),some (false,.lst (N.map D.str)),some (false,.lst (ws.map D.str)),some (false,.str w0),some (false,.int at_),some (false,.lst ((xq N).map D.str)),none,none]=some (.nx [some (false,.str z),some (false,.int c),some (false,.lst (N.map D.str)),some (false,.lst (ws.map D.str)),some (false,.str w1),some (false,.int at_),some (false,.lst ((xq N).map D.str)),none,none]):=by
  generalize N.map D.str=NN at *
  generalize ws.map D.str=WW at *
  generalize (xq N).map D.str=SM at *
  by_cases hq:yV c 6 20=7
  ·have q1:zL (.int (yV c 6 20)) (.int 7)=some (.bl true):=uA hq
   have t1:gU (.str "1") (.int 4000)=some (.str (Txt.mul "1" 4000)):=rfl
   have t2:tO (.str "a") (.int 300)=some (.str (Txt.mul "a" 300)):=rfl
   have t3:tO (.str "0") (.int 50)=some (.str (Txt.mul "0" 50)):=rfl
   have l1:(Txt.mul "1" 4000).length<=1*4000:=PyProof.Rows.len_mul_leN (L:=1) (N:=4000) (by decide +kernel) (by decide)
   have l2:(Txt.mul "a" 300).length<=1*300:=PyProof.Rows.len_mul_leN (L:=1) (N:=300) (by decide +kernel) (by decide)
   have l3:(Txt.mul "0" 50).length<=1*50:=PyProof.Rows.len_mul_leN (L:=1) (N:=50) (by decide +kernel) (by decide)
   generalize Txt.mul "1" 4000=M1 at *
   generalize Txt.mul "a" 300=M2 at *
   generalize Txt.mul "0" 50=M3 at *
   have t4:=Z0 (x:=M3) (by omega)
   obtain ⟨w1,hm,x3⟩:=pL [M1,M2, "r" ++ M3] d0 d1
   have x3:zH (.lst [.str M1,.str M2,.str ("r" ++ M3)]) (.int (yV c 7 3))=some (.str w1):=x3
   refine ⟨w1,?_,?_⟩
   ·simp only [List.mem_cons,List.not_mem_nil,or_false] at hm
    rcases hm with rfl | rfl | rfl
    ·omega
    ·omega
    ·rw [xW]
     show 1+_<=_
     omega
   ·generalize ("r" : Str)++M3=RM at *
    simp! [m6,q1,t1,t2,t3,t4,m7,x3]
  ·have q1:zL (.int (yV c 6 20)) (.int 7)=some (.bl false):=wD hq
   exact ⟨w0,by omega,by simp! [m6,q1]⟩
 have pre:∀ (yC:FS),(zI (zT 3 (yx 1 (w8 (e2 w_ (z8 0) (eC (.str " ")))) (zb 9) YZ UZ))
  (zI (zX (tE (e2 zL (z8 3) (zu zD)))
   (zT 3 (zu (z7 (eC (.str "stop")) zD)))
   zk)
  (zI (zT 5 (zR yM (z7 (z8 1) (z7 (eC (.int 1)) (z7 (eL yF (z7 (z8 3) zD)) zD)))))
  (zI (zT 6 (zu (z7 (eC (.str "00")) (z7 (eC (.str "07")) (z7 (eC (.str "+1")) (z7 (eC (.str "-1")) (z7 (eC (.str "8")) (z7 (eC (.str "32")) (z7 (eC (.str "256")) (z7 (eC (.str "65536")) (z7 (eC (.str "123456")) (z7 (eC (.str "r8")) (z7 (eC (.str "r")) (z7 (eC (.str "R1")) (z7 (eC (.str "r01")) (z7 (eC (.str "rr1")) (z7 (eC (.str "1r")) (z7 (eC (.str "carrys")) zD))))))))))))))))))
  (zI (zT 6 (e2 zQ (z8 6) (zu (z7 (eC (.str "nought")) (z7 (eC (.str "r7")) (z7 (eC (.str "0")) (z7 (eC (.str "31")) (z7 (eC (.str "255")) (z7 (eC (.str "65535")) (z7 (eC (.str "stop")) (z7 (eC (.str "add")) (z7 (eC (.str "label")) (z7 (eC (.str "stop:")) (z7 (eC (.str "Stop")) (z7 (eC (.str ":")) (z7 (eC (.str "a::")) zD))))))))))))))))
  (zI (zT 6 (e2 zQ (e2 zQ (e2 zQ (z8 6) (zu (z7 (eC (.str "abcdefghi")) (z7 (eC (.str "strange")) zD)))) (z8 2)) (yx 1 (w8 (z8 2)) (zb 9) yn YX)))
  (zI (zT 4 (e2 zH (z8 6) (zR yM (z7 (z8 1) (z7 (eC (.int 2)) (z7 (eL yF (z7 (z8 6) zD)) zD))))))
  (zI (zX (tE (e2 zL (zR yM (z7 (z8 1) (z7 (eC (.int 6)) (z7 (eC (.int 20)) zD)))) (eC (.int 7))))
   (zT 4 (e2 zH (zu (z7 (e2 gU (eC (.str "1")) (eC (.int 4000))) (z7 (e2 tO (eC (.str "a")) (eC (.int 300))) (z7 (e2 zQ (eC (.str "r")) (e2 tO (eC (.str "0")) (eC (.int 50)))) zD)))) (zR yM (z7 (z8 1) (z7 (eC (.int 7)) (z7 (eC (.int 3)) zD))))))
   zk)
  (zI (zT 7 (zR yM (z7 (z8 1) (z7 (eC (.int 3)) (z7 (eC (.int 8)) zD)))))
  (zI (zT 8 (zR yM (z7 (z8 1) (z7 (eC (.int 4)) (z7 (e2 zQ (eL yF (z7 (z8 0) zD)) (eC (.int 1))) zD))))) yC)))))))))) [some (false,.str z),some (false,.int c),some (false,.lst (N.map D.str)),none,none,none,none,none,none]=yC [some (false,.str z),some (false,.int c),some (false,.lst (N.map D.str)),some (false,.lst (ws.map D.str)),some (false,.str w1),some (false,.int at_),some (false,.lst ((xq N).map D.str)),some (false,.int way),some (false,.int spot)]:=fun yC=>by
  rw [yh (σ':=[some (false,.str z),some (false,.int c),some (false,.lst (N.map D.str)),some (false,.lst (us.map D.str)),none,none,none,none,none]) (by
   generalize zs.map D.str=ZZ at *
   generalize us.map D.str=UU at *
   generalize N.map D.str=NN at *
   simp! [sp,lc]),yh e3]
  rw [yh (σ':=[some (false,.str z),some (false,.int c),some (false,.lst (N.map D.str)),some (false,.lst (ws.map D.str)),none,some (false,.int at_),none,none,none]) (by
   generalize N.map D.str=NN at *
   generalize ws.map D.str=WW at *
   simp! [ll,m1])]
  rw [yh (σ':=[some (false,.str z),some (false,.int c),some (false,.lst (N.map D.str)),some (false,.lst (ws.map D.str)),none,some (false,.int at_),some (false,.lst (wV.map D.str)),none,none]) rfl]
  rw [yh (σ':=[some (false,.str z),some (false,.int c),some (false,.lst (N.map D.str)),some (false,.lst (ws.map D.str)),none,some (false,.int at_),some (false,.lst ((wV++wn).map D.str)),none,none]) (by
   show (zQ (.lst (wV.map D.str)) (.lst (wn.map D.str))).bind _=_
   rw [g1]
   rfl)]
  rw [yh (σ':=[some (false,.str z),some (false,.int c),some (false,.lst (N.map D.str)),some (false,.lst (ws.map D.str)),none,some (false,.int at_),some (false,.lst ((xq N).map D.str)),none,none]) (by
   generalize (N.map fun t:Str=>t++(":" : Str)).map D.str=N2 at *
   generalize (wV++wn++ub++N).map D.str=S4 at *
   generalize (wV++wn++ub).map D.str=S3 at *
   generalize (wV++wn).map D.str=S2 at *
   generalize N.map D.str=NN at *
   generalize ws.map D.str=WW at *
   generalize (xq N).map D.str=SM at *
   simp! [g2,g3,lc2,g4])]
  rw [yh (σ':=[some (false,.str z),some (false,.int c),some (false,.lst (N.map D.str)),some (false,.lst (ws.map D.str)),some (false,.str w0),some (false,.int at_),some (false,.lst ((xq N).map D.str)),none,none]) (by
   generalize N.map D.str=NN at *
   generalize ws.map D.str=WW at *
   generalize (xq N).map D.str=SM at *
   simp! [lS,m2,x2]),yh e8]
  rw [yh (σ':=[some (false,.str z),some (false,.int c),some (false,.lst (N.map D.str)),some (false,.lst (ws.map D.str)),some (false,.str w1),some (false,.int at_),some (false,.lst ((xq N).map D.str)),some (false,.int way),none]) (by
   generalize N.map D.str=NN at *
   generalize ws.map D.str=WW at *
   generalize (xq N).map D.str=SM at *
   simp! [m3])]
  rw [yh (σ':=[some (false,.str z),some (false,.int c),some (false,.lst (N.map D.str)),some (false,.lst (ws.map D.str)),some (false,.str w1),some (false,.int at_),some (false,.lst ((xq N).map D.str)),some (false,.int way),some (false,.int spot)]) (by
   generalize N.map D.str=NN at *
   generalize ws.map D.str=WW at *
   generalize (xq N).map D.str=SM at *
   simp! [add_int,m4])]
 suffices h:∃ Z:Str,Z.length<=2*z.length+5000/\(yi 9 Z8 [.str z,.int c,.lst (N.map D.str)])=some (false,.str Z) by
  obtain ⟨Z,h1,h2⟩:=h
  exact ⟨Z,h2,h1⟩
 have gz:∀ vs:List Str,wq vs<=z.length+4100->∃ Z:Str,Z.length<=2*z.length+5000/\u8 (.str " ") (.lst (vs.map D.str))=some (.str Z):=fun vs hv=>by
  have gn:=L2.glued_len (" " : Str) vs
  have n1:(" " : Str).length=1:=rfl
  rw [n1] at gn
  unfold wq at hv
  exact ⟨Builtin.Str.glued " " vs,by omega,jK (sep := " ") (ts:=vs) (by rw [n1]; omega)⟩
 have td:wq (ws.take at_.toNat)+wq (ws.drop at_.toNat)=wq ws:=by rw [<- pU,List.take_append_drop]
 have td1:wq (ws.drop (at_+1).toNat)<=wq (ws.drop at_.toNat):=by
  have hk:at_.toNat<ws.length:=by omega
  rw [show (at_+1).toNat=at_.toNat+1 by omega,List.drop_eq_getElem_cons hk,<- List.singleton_append,pU]
  omega
 have s1:=Cv ws a0
 have s2:=IB ws (k:=at_+1) (by omega)
 have s3:=IB ws a0
 have lT:((ws.take at_.toNat).map D.str).length<=ws.length:=by rw [List.length_map,List.length_take]; omega
 have lD:((ws.drop at_.toNat).map D.str).length<=ws.length:=by rw [List.length_map,List.length_drop]; omega
 have lD1:((ws.drop (at_+1).toNat).map D.str).length<=ws.length:=by rw [List.length_map,List.length_drop]; omega
 show ∃ Z:Str,Z.length<=2*z.length+5000/\(Z8 [some (false,.str z),some (false,.int c),some (false,.lst (N.map D.str)),none,none,none,none,none,none]).bind _=some (false,D.str Z)
 unfold Z8
 rw [pre]
 clear pre
 generalize N.map D.str=NN at *
 generalize (xq N).map D.str=SM at *
 have e0:way≠0->zL (.int way) (.int 0)=some (.bl false):=fun h=>wD h
 have e1:way≠1->zL (.int way) (.int 1)=some (.bl false):=fun h=>wD h
 have e5:way≠5->zL (.int way) (.int 5)=some (.bl false):=fun h=>wD h
 have e6:way≠6->zL (.int way) (.int 6)=some (.bl false):=fun h=>wD h
 rcases (show way=0\/way=1\/(2<=way/\way<5)\/way=5\/way=6\/way=7 by omega) with hq | hq | hq | hq | hq | hq
 ·obtain ⟨Z,z1,z2⟩:=gz (ws.take at_.toNat++ws.drop (at_+1).toNat) (by rw [pU]; omega)
  refine ⟨Z,z1,?_⟩
  have q:=uA hq
  have ad:=tI (L:=(ws.take at_.toNat).map D.str) (M:=(ws.drop (at_+1).toNat).map D.str) (by omega)
  rw [List.map_append] at z2
  generalize (ws.take at_.toNat).map D.str=T1 at *
  generalize (ws.drop (at_+1).toNat).map D.str=T2 at *
  generalize ws.map D.str=WW at *
  simp! [q,yE,zy,yI,s1,add_int,s2,ad,z2]
 ·obtain ⟨Z,z1,z2⟩:=gz (ws.take at_.toNat++[w1]++ws.drop at_.toNat) (by rw [pU,pU,UL]; omega)
  refine ⟨Z,z1,?_⟩
  have q:=uA hq
  have q0:=e0 (by omega)
  have ad:=tI (L:=(ws.take at_.toNat).map D.str) (M:=[.str w1]) (by simp only [List.length_cons,List.length_nil]; omega)
  have ad2:=tI (L:=(ws.take at_.toNat).map D.str++[.str w1]) (M:=(ws.drop at_.toNat).map D.str) (by rw [List.length_append]; simp only [List.length_cons,List.length_nil]; omega)
  rw [List.map_append,List.map_append,List.map_cons,List.map_nil] at z2
  generalize (ws.take at_.toNat).map D.str=T1 at *
  generalize (ws.drop at_.toNat).map D.str=T2 at *
  generalize ws.map D.str=WW at *
  simp! [q0,q,yE,zy,yI,s1,ad,s3,ad2,z2]
 ·obtain ⟨Z,z1,z2⟩:=gz (ws.take at_.toNat++[w1]++ws.drop (at_+1).toNat) (by rw [pU,pU,UL]; omega)
  refine ⟨Z,z1,?_⟩
  have q0:=e0 (by omega)
  have q1:=e1 (by omega)
  have q:=decide_eq_true hq.2
  have ad:=tI (L:=(ws.take at_.toNat).map D.str) (M:=[.str w1]) (by simp only [List.length_cons,List.length_nil]; omega)
  have ad2:=tI (L:=(ws.take at_.toNat).map D.str++[.str w1]) (M:=(ws.drop (at_+1).toNat).map D.str) (by rw [List.length_append]; simp only [List.length_cons,List.length_nil]; omega)
  rw [List.map_append,List.map_append,List.map_cons,List.map_nil] at z2
  generalize (ws.take at_.toNat).map D.str=T1 at *
  generalize (ws.drop (at_+1).toNat).map D.str=T2 at *
  generalize ws.map D.str=WW at *
  simp! [q0,q1,q,yE,zy,yI,s1,ad,add_int,s2,ad2,z2]
 ·have q0:=e0 (by omega)
  have q1:=e1 (by omega)
  have q:=decide_eq_false (show ¬ way<5 by omega)
  have q5:=uA hq
  have ad:=qM (a:=z) (b := "\n") (by show z.length+1<=_; omega)
  have ad2:=qM (a:=z ++ "\n") (b:=z) (by rw [xW]; show z.length+1+_<=_; omega)
  refine ⟨z ++ "\n" ++ z,by rw [xW,xW]; show z.length+1+_<=_; omega,?_⟩
  generalize z ++ "\n" ++ z=ZZ at *
  generalize z ++ "\n" = Z1 at *
  generalize ws.map D.str=WW at *
  simp! [q0,q1,q,q5,ad,ad2]
 ·have q0:=e0 (by omega)
  have q1:=e1 (by omega)
  have q:=decide_eq_false (show ¬ way<5 by omega)
  have q5:=e5 (by omega)
  have q6:=uA hq
  have ad:=qM (a:=z) (b := "\n") (by show z.length+1<=_; omega)
  have ad3:=qM (a:=w1) (b := ":") (by show w1.length+1<=_; omega)
  have ad4:=qM (a := "label ") (b:=w1) (by show 6+w1.length<=_; omega)
  obtain ⟨t,ht,xt⟩:=pL [w1 ++ ":", "label " ++ w1] (i:=c / 2 % 2) (by omega) (by show c / 2 % 2<2; omega)
  have xt:zH (.lst [.str (w1 ++ ":"),.str ("label " ++ w1)]) (.int (c / 2 % 2))=some (.str t):=xt
  have tl:t.length<=4010:=by
   simp only [List.mem_cons,List.not_mem_nil,or_false] at ht
   rcases ht with rfl | rfl
   ·rw [xW]; show _+1<=_; omega
   ·rw [xW]; show 6+_<=_; omega
  have ad2:=qM (a:=z ++ "\n") (b:=t) (by rw [xW]; show z.length+1+_<=_; omega)
  refine ⟨z ++ "\n" ++ t,by rw [xW,xW]; show z.length+1+_<=_; omega,?_⟩
  generalize z ++ "\n" ++ t=ZZ at *
  generalize z ++ "\n" = Z1 at *
  generalize w1 ++ ":" = W1 at *
  generalize ("label " : Str)++w1=W2 at *
  generalize ws.map D.str=WW at *
  simp! [q0,q1,q,q5,q6,ad,ad3,ad4,xt,ad2]
 ·have q0:=e0 (by omega)
  have q1:=e1 (by omega)
  have q:=decide_eq_false (show ¬ way<5 by omega)
  have q5:=e5 (by omega)
  have q6:=e6 (by omega)
  obtain ⟨s,es,sl⟩:=Cq (yV c 5 96)
  have c1:=cut_len z none (some spot)
  have c2:=cut_len z (some (spot+c % 2)) none
  have p1:xj (.str z) none (some spot)=some (.str (L2.cutS z none (some spot))):=rfl
  have p2:xj (.str z) (some (spot+c % 2)) none=some (.str (L2.cutS z (some (spot+c % 2)) none)):=rfl
  generalize L2.cutS z none (some spot)=C1 at *
  generalize L2.cutS z (some (spot+c % 2)) none=C2 at *
  have ad:=qM (a:=C1) (b:=s) (by omega)
  have ad2:=qM (a:=C1++s) (b:=C2) (by rw [xW]; omega)
  refine ⟨C1++s++C2,by rw [xW,xW]; omega,?_⟩
  generalize C1++s++C2=ZZ at *
  generalize C1++s=Z1 at *
  generalize ws.map D.str=WW at *
  simp! [q0,q1,q,q5,q6,yE,zy,yI,p1,m5,es,ad,add_int,p2,ad2]
end L3
namespace L3
open PySem
noncomputable def Uw:FS:=
 (zI (vP 1 (zu zD))
  (zI (zX (tE (e1 (um "BadText" false) (z8 0)))
   (wT 1 xg (eC (.str "number")))
   zk)
  (zI (zX (tE (e1 (um "BadText" true) (z8 0)))
   (wT 1 xg (eC (.str "text")))
   zk)
  (zI (zX (tE (e1 (um "BadText" false) (z8 0)))
   (wT 1 xg (eC (.str "label")))
   zk)
  (zI (zX (vb (tE (e1 (um "BadText" false) (z8 0))) (vb (tE (e1 (um "BadText" false) (z8 0))) (tE (e1 (um "BadText" false) (z8 0)))))
   (wT 1 xg (eC (.str "other")))
   zk)
  (zI (ua 1) (zI (zX (xT (tE (e2 zL (eL yF (z7 (z8 1) zD)) (eC (.int 1)))) (tE (e1 (um "BadText" true) (z8 0))))
   (zd (e2 zH (z8 1) (eC (.int 0))))
   zk)
  (zd (eC (.str "other"))))))))))
noncomputable def jz:List D->Option (Bool×D):=FR 1 2 Uw
theorem CB:∀ ds r,jz ds=some r->ds.length=1/\yi 2 Uw ds=some r:=xC
noncomputable def Xh:FS:=
 (zI (Y6 1 "BadText" (YU pq (z7 (z8 0) zD)) (zd (zR jz (z7 (z8 1) zD))))
  (zd (eC (.str ""))))
noncomputable def qE:List D->Option (Bool×D):=FR 1 2 Xh
theorem Ll (x0:D):qE [x0]=yi 2 Xh [x0]:=rfl
noncomputable def ON:FS:=
 (zd (ul (tM .int (z8 0)) (W9 (tM .bool (z8 0)))))
noncomputable def kW:List D->Option (Bool×D):=FR 1 1 ON
noncomputable def pV:FE:=(e2 zH (z8 10) (eC (.int 1)))
noncomputable def pW:FT:=(tE (e2 zL (e2 zH (z8 10) (eC (.int 0))) (eC (.str "label"))))
noncomputable def VD:FA:=(xm (eC (.int 0)) (e2 zH (zu (fun _=>some (List.map D.int [0,1,1,1,1,1,1,2,2,2]))) (zR yM (z7 (z8 4) (z7 (eC (.int 0)) (z7 (eC (.int 10)) zD))))))
noncomputable def Zg:FS:=(zX (tE (e2 (xU fun i j=>decide (j<i)) (eL yF (z7 (wz 3) zD)) (eC (.int 0))))
     (zI (zT 6 (zR yM (z7 (e2 zQ (z8 4) (z8 5)) (z7 (eC (.int 9)) (z7 (eL yF (z7 (wz 3) zD)) zD)))))
      (VM 3 (z8 6) (zR kU (z7 (e2 zH (wz 3) (z8 6)) (z7 (e2 zQ (e2 qS (z8 4) (eC (.int 3))) (e2 qU (eC (.int 7)) (z8 5))) (z7 (z8 2) zD))))))
     zk)
noncomputable def Uu:FS:=
 (zI (zT 1 (yE (zR g9 (z7 (z8 0) (z7 (eC (.int 2)) zD))) yI (zy (eC (.int 60)))))
  (zI (zT 2 (yx 1 (w8 (z8 1)) (zb 10) pW pV))
  (zI (vP 3 (ZH j_ (z7 (z8 1) (z7 (zR qB (z7 (z8 0) (z7 (eC (.int 0)) zD))) zD))))
  (zI (zT 4 (zR qB (z7 (z8 0) (z7 (eC (.int 1)) zD))))
  (zI (vO VD (zb 5)
   Zg)
  (zI (ua 3) (zI (zT 7 (yE (e2 u8 (eC (.str "\n")) (z8 3)) yI (zy (eC (.int 12000)))))
  (zI (zT 8 (zR pf (z7 (z8 7) zD)))
  (zI (zT 9 (zR ju (z7 (z8 7) zD)))
  (zI (zX (tE (e2 jD (z8 8) (eC .non)))
   (zd (ul (e2 jD (z8 9) (eC .non)) (e2 zL (zR qE (z7 (z8 7) zD)) (eC (.str "")))))
   zk)
  (zd (ul (zR kW (z7 (z8 9) zD)) (ul (e2 zL (z8 9) (z8 8)) (e2 zL (zR qE (z7 (z8 7) zD)) (eC (.str "text"))))))))))))))))
theorem Od:jz [.exc "BadText"]=some (false,.str "text"):=by rfl
theorem WR {L:List Str}:∀ {r:List (List Str)} {i:Nat} {seen:List Str} {j:Nat},flt L r i seen=some j->j<i+r.length
 | [],_,_,_,h=>by cases h
 | ws::r,i,seen,j,h=>by
  rw [List.length_cons]
  unfold flt at h
  split at h
  ·split at h
   ·cases h; omega
   ·have:=WR h; omega
  ·split at h
   ·cases h; omega
   ·split at h
    ·cases h; omega
    ·have:=WR h; omega
theorem VI:∀ {r:List (List Str)} {i:Nat} {d:D},d∈yq r i->∃ (k:Int) (x:D),d=.tup [.int k,x]
 | [],_,_,h=>by cases h
 | ws::r,i,d,h=>by
  unfold yq at h
  split at h
  ·exact VI h
  ·rcases List.mem_cons.mp h with rfl | h
   ·exact ⟨_,_,rfl⟩
   ·exact VI h
theorem Wl (a b:Str):(a++b).length=a.length+b.length:=Array.size_append
section
variable {T:Str} (hT:T.length<=12000)
include hT
theorem LK:∃ F:Option Nat,pf [.str T]=some (false,tJ F)/\ju [.str T]=some (false,tJ F)/\qE [.str T]=some (false,.str (match F with | some _ => "text" | none => "")):=by
 have du:=Oz hT
 have tr:=Ei hT
 have sl:(Txt.split T ⟨#[10]⟩).length<=T.length+2:=PyProof.Rows.split_le T ⟨#[10]⟩
 obtain ⟨Ws,hW⟩:∃ Ws,Ws=(Txt.split T ⟨#[10]⟩).map fun z=>wt z.cps.toList:=⟨_,rfl⟩
 have hok:∀ ws∈Ws,uN ws:=fun ws hw=>by
  rw [hW] at hw
  obtain ⟨z,_,rfl⟩:=List.mem_map.mp hw
  exact UX _
 have hn:Ws.length<=12002:=by rw [hW,List.length_map]; omega
 rw [<- hW] at du tr
 have le:=Ml hok (by omega)
 have lt:=fun j=>WR (L:=xJ Ws) (r:=Ws) (i:=0) (seen:=[]) (j:=j)
 have lc:=qb (g:=y_ 3 4) (e:=Iv) (σ:=[some (false,.str T),some (false,.lst (yq Ws 0)),some (false,.non),none,none]) (fun d=>match d with | .tup [_,x]=>x | d=>d) (ds:=yq Ws 0) fun d hd=>by
  obtain ⟨k,x,rfl⟩:=VI hd
  exact ⟨_,rfl,rfl⟩
 generalize (yq Ws 0).map (fun d=>match d with | .tup [_,x]=>x | d=>d)=IT at *
 generalize yq Ws 0=R at *
 refine ⟨_,du,?_,?_⟩
 ·rw [LZ]
  unfold XV
  simp! [tr,le]
 ·rw [Ll]
  unfold Xh
  cases hF:flt (xJ Ws) Ws 0 [] with
  | none=>
   rw [hF] at le
   have le:t8 [.lst R]=some (false,.non):=le
   have rd:pq [.str T]=some (.inl (true,.lst IT)):=by
    rw [Q5]
    unfold ZC
    simp! [jd,kP,YW,YV,tr,le,lc]
   show _=some (false,D.str "")
   simp! [Y6,YU,rd]
  | some j=>
   have hj:=lt j hF
   rw [hF] at le
   have le:t8 [.lst R]=some (false,.int (j:Int)):=le
   have fm:WF (.int (j:Int))=some (.str (yd (j:Int))):=by
    show (match tf (j:Int) with | true=>_ | false=>_)=_
    rw [Wx (by omega) (by omega)]
    rfl
   have dl:(yd (j:Int)).length<=5:=by
    have d1:=W6 4 j (by show j<100000; omega)
    have d2:=X_ (n:=(j:Int)) (by omega)
    rw [Int.toNat_natCast] at d2
    rw [<- d2,xn] at d1
    exact d1
   generalize yd (j:Int)=DT at *
   have l1:(Str.empty++("row " : Str)).length<=yS:=by decide
   have l2:(Str.empty++("row " : Str)++DT).length<=yS:=by
    rw [Wl]
    have:(Str.empty++("row " : Str)).length=4:=by decide
    show _<=16777216
    omega
   have l3:(Str.empty++("row " : Str)++DT++(" can't be read" : Str)).length<=yS:=by
    rw [Wl,Wl]
    have:(Str.empty++("row " : Str)).length=4:=by decide
    have:(" can't be read" : Str).length=14:=by decide
    show _<=16777216
    omega
   have nn:gV (.int (j:Int)) .non=some (.bl true):=rfl
   have rd:pq [.str T]=some (.inr "BadText"):=by
    rw [Q5]
    unfold ZC
    simp! [jd,kP,YW,YV,tr,le,nn,W8,gm,Wc,fm,if_pos l1,if_pos l2,if_pos l3,Nat.reduceLeDiff,if_true]
   have c:=Od
   show _=some (false,D.str "text")
   simp! [Y6,ZL,YU,rd,c,if_true]
end
theorem Qi {N:List Str} (hN:qI N) {σ:yD} (hs:σ.length=11):∀ {items:List D},(∀ d∈items,t9 N d)->∃ M:List Str,xQ (zb 10) pW pV σ items=some (M.map D.str)/\M.length<=items.length/\∀ t∈M,t.length<=8
 | [],_=>⟨[],rfl,Nat.le_refl _,fun _ h=>by cases h⟩
 | d::items,h=>by
  obtain ⟨M,e,l,b⟩:=Qi hN hs fun x hx=>h x (List.mem_cons_of_mem _ hx)
  have hd:=h d List.mem_cons_self
  obtain ⟨w,i0,el,_⟩:=QM (MC hd)
  have g5:(σ.set 10 (some (false,d)))[10]?=some (some (false,d)):=by rw [List.getElem?_set_self (by omega)]
  have hy:pW (σ.set 10 (some (false,d)))=some (uB d):=by
   unfold pW
   simp! [g5,i0,el]
  show ∃ M:List Str,(zb 10 d σ).bind _=_/\_
  rw [show zb 10 d σ=some (σ.set 10 (some (false,d))) from rfl]
  show ∃ M:List Str,(pW (σ.set 10 (some (false,d)))).bind _=_/\_
  rw [hy]
  cases hL:uB d with
  | false=>
   refine ⟨M,?_,by rw [List.length_cons]; omega,b⟩
   show xQ (zb 10) pW pV σ items=_
   exact e
  | true=>
   obtain ⟨t,ht,rfl⟩:∃ t∈N,d=xZ t:=by
    rcases hd with hd | hd
    ·have:=(VJ hd).2
     rw [hL] at this
     cases this
    ·exact hd
   have he:pV (σ.set 10 (some (false,xZ t)))=some (.str t):=by
    have i1:zH (xZ t) (.int 1)=some (.str t):=rfl
    unfold pV
    generalize xZ t=LT at *
    simp! [g5,i1]
   refine ⟨t::M,?_,by rw [List.length_cons,List.length_cons]; omega,fun x hx=>?_⟩
   ·show (pV (σ.set 10 (some (false,xZ t)))).bind _=_
    rw [he]
    show (xQ (zb 10) pW pV σ items).bind _=_
    rw [e]
    rfl
   ·rcases List.mem_cons.mp hx with rfl | hx
    ·exact (gw (hN.ok _ ht)).2.1
    ·exact b x hx
noncomputable def jA:Nat->Nat
 | 0=>200
 | i+1=>2*jA i+5000
theorem C9:∀ ns:List Int,ns.length<=63->(∀ m∈ns,wC m<=1048576)->∃ o,yi 10 Uu [.lst (ns.map D.int)]=some (o,.bl true):=fun ns hl hb=>by
 refine ⟨false,?_⟩
 obtain ⟨N,its,P,ep⟩:=FI ns hl (first:=2) (by decide)
 have ec:=Xu ns (k:=0) (by decide)
 have ed:=Xu ns (k:=1) (by decide)
 generalize gN ns 0=c at ec
 generalize gN ns 1=d at ed
 generalize D.lst (ns.map D.int)=S at *
 have s60:xj (.lst its) none (some 60)=some (.lst (its.take 60)):=by
  show some (D.lst (xD its none (some 60)))=_
  have:=TR its 60
  rw [show ((60:Nat):Int)=60 from rfl] at this
  rw [this]
 have it60:∀ x∈its.take 60,t9 N x:=fun x hx=>P.it x (List.mem_of_mem_take hx)
 have ln60:(its.take 60).length<=60:=by rw [List.length_take]; omega
 generalize its.take 60=items at *
 obtain ⟨M,em,ml,mb⟩:=Qi P.nm (σ:=[some (false,S),some (false,.lst items),none,none,none,none,none,none,none,none,none]) rfl it60
 obtain ⟨ls0,el,_,t2,t3⟩:=Mm P.nm it60 (by omega) c
 obtain ⟨m0,a0,a1⟩:=xH d 0 10 (by decide)
 obtain ⟨n,n0,n2,en⟩:∃ n:Int,0<=n/\n<=2/\zH (.lst (List.map D.int [0,1,1,1,1,1,1,2,2,2])) (.int (yV d 0 10))=some (.int n):=by
  generalize yV d 0 10=v at *
  rcases (show v=0\/v=1\/v=2\/v=3\/v=4\/v=5\/v=6\/v=7\/v=8\/v=9 by omega) with rfl | rfl | rfl | rfl | rfl | rfl | rfl | rfl | rfl | rfl<;>exact ⟨_,by decide,by decide,rfl⟩
 have rg:VD [some (false,S),some (false,.lst items),some (false,.lst (M.map D.str)),some (true,.lst (ls0.map D.str)),some (false,.int d),none,none,none,none,none]=some (xG n.toNat):=by
  unfold VD
  refine uZ (n:=n) ?_ (by omega)
  generalize M.map D.str=MM at *
  generalize ls0.map D.str=LL at *
  have en:zH (.lst [.int 0,.int 1,.int 1,.int 1,.int 1,.int 1,.int 1,.int 2,.int 2,.int 2]) (.int (yV d 0 10))=some (.int n):=en
  simp! [m0,List.map_cons,List.map_nil,en]
 obtain ⟨σ',e1,ls,x5,x6,b1,b2,rfl⟩:=tX (g:=zb 5) (b:=Zg) (fun i σ=>∃ (ls:List Str) (x5 x6:Option Sl),ls.length=ls0.length/\(∀ l∈ls,l.length<=jA i)/\σ=[some (false,S),some (false,.lst items),some (false,.lst (M.map D.str)),some (true,.lst (ls.map D.str)),some (false,.int d),x5,x6,none,none,none]) (ds:=xG n.toNat)
  (σ:=[some (false,S),some (false,.lst items),some (false,.lst (M.map D.str)),some (true,.lst (ls0.map D.str)),some (false,.int d),none,none,none,none,none]) 0 ⟨ls0,none,none,rfl,fun l hl=>(t2 l hl).2,rfl⟩ (by
  rintro i v σ hv ⟨ls,x5,x6,b1,b2,rfl⟩
  obtain ⟨hi,rfl⟩:=jj hv
  rw [Nat.zero_add] at *
  have bi:jA i<=20000/\jA (i+1)=2*jA i+5000:=by
   rcases (show i=0\/i=1 by omega) with rfl | rfl<;>exact ⟨by decide,rfl⟩
  have ll:(ls.map D.str).length=ls.length:=List.length_map _
  by_cases h0:(0:Int)<(ls.length:Int)
  ·have d0:=decide_eq_true h0
   obtain ⟨m9,c0,c1⟩:=xH (d+(i:Int)) 9 (ls.length:Int) h0
   generalize yV (d+(i:Int)) 9 (ls.length:Int)=at_ at *
   have hk:at_.toNat<ls.length:=by omega
   have xi:zH (.lst (ls.map D.str)) (.int at_)=some (.str ls[at_.toNat]):=uP c0 (by rw [List.getElem?_map,List.getElem?_eq_getElem hk]; rfl)
   have bl:=b2 _ (List.getElem_mem hk)
   obtain ⟨Z,z1,z2⟩:=Oc (z:=ls[at_.toNat]) mb (by omega) (by omega) (d / 3+7*(i:Int))
   have l7:uW 7=true:=by decide
   have ix:L2.ixN ls.length at_=some at_.toNat:=by
    unfold L2.ixN
    rw [if_pos c0,if_pos (by omega)]
   refine ⟨_,[some (false,S),some (false,.lst items),some (false,.lst (M.map D.str)),some (true,.lst ((ls.set at_.toNat Z).map D.str)),some (false,.int d),some (false,.int (i:Int)),some (false,.int at_),none,none,none],rfl,.inl ?_,ls.set at_.toNat Z,_,_,by rw [List.length_set]; exact b1,fun l hl=>?_,rfl⟩
   ·rw [List.map_set]
    generalize ls[at_.toNat]=LA at *
    generalize M.map D.str=MM at *
    generalize ls.map D.str=LL at *
    unfold Zg
    simp! [ll,d0,add_int,m9,xi,l7,z1,VM,ix]
   ·rcases List.mem_or_eq_of_mem_set hl with hl | rfl
    ·have:=b2 l hl
     omega
    ·omega
  ·have d0:=decide_eq_false h0
   refine ⟨_,[some (false,S),some (false,.lst items),some (false,.lst (M.map D.str)),some (true,.lst (ls.map D.str)),some (false,.int d),some (false,.int (i:Int)),x6,none,none,none],rfl,.inl ?_,ls,_,_,b1,fun l hl=>?_,rfl⟩
   ·generalize M.map D.str=MM at *
    generalize ls.map D.str=LL at *
    unfold Zg
    simp! [ll,d0]
   ·have:=b2 l hl
    omega)
 rw [jk,Nat.zero_add] at *
 have b3:∀ l∈ls,l.length<=20000:=fun l hl=>by
  have:=b2 l hl
  have:jA n.toNat<=20000:=by
   rcases (show n.toNat=0\/n.toNat=1\/n.toNat=2 by omega) with q | q | q<;>rw [q]<;>decide
  omega
 have sm:=IP (m:=20000) (l:=ls) b3
 have n1:("\n" : Str).length=1:=rfl
 have jn1:=jK (sep := "\n") (ts:=ls) (by rw [n1]; omega)
 generalize Builtin.Str.glued ("\n" : Str) ls=J at *
 have sJ:xj (.str J) none (some 12000)=some (.str (L2.cutS J none (some 12000))):=rfl
 have hT:(L2.cutS J none (some 12000)).length<=12000:=by
  rw [<- xn]
  show ((J.cps.toList.drop (HT.sIx J.length 0 none)).take (HT.sIx J.length J.length (some 12000) - HT.sIx J.length 0 none)).length<=_
  have e2:=HT.sIx_nat J.length J.length 12000
  rw [show (((12000:Nat):Int))=12000 from rfl] at e2
  rw [e2,List.length_take]
  omega
 generalize L2.cutS J none (some 12000)=T at *
 obtain ⟨F,f1,f2,f3⟩:=LK hT
 unfold Uu
 generalize M.map D.str=MM at *
 generalize ls.map D.str=LL at *
 generalize ls0.map D.str=LL0 at *
 generalize xG n.toNat=UT at *
 show ((zI _ _:FS) [some (false,S),none,none,none,none,none,none,none,none,none]).bind _=_
 rw [yh (σ':=[some (false,S),some (false,.lst items),none,none,none,none,none,none,none,none]) (by simp! [ep,yE,zy,yI,s60])]
 rw [yh (σ':=[some (false,S),some (false,.lst items),some (false,.lst MM),none,none,none,none,none,none,none]) (by simp! [em])]
 rw [yh (σ':=[some (false,S),some (false,.lst items),some (false,.lst MM),some (true,.lst LL0),none,none,none,none,none,none]) (by simp! [ec,ZH,el])]
 rw [yh (σ':=[some (false,S),some (false,.lst items),some (false,.lst MM),some (true,.lst LL0),some (false,.int d),none,none,none,none,none]) (by simp! [ed])]
 rw [yh (σ':=[some (false,S),some (false,.lst items),some (false,.lst MM),some (true,.lst LL),some (false,.int d),x5,x6,none,none,none]) (by simp! [rg,e1])]
 rw [yh (σ':=[some (false,S),some (false,.lst items),some (false,.lst MM),some (false,.lst LL),some (false,.int d),x5,x6,none,none,none]) rfl]
 rw [yh (σ':=[some (false,S),some (false,.lst items),some (false,.lst MM),some (false,.lst LL),some (false,.int d),x5,x6,some (false,.str T),none,none]) (by simp! [yE,zy,yI,jn1,sJ])]
 rw [yh (σ':=[some (false,S),some (false,.lst items),some (false,.lst MM),some (false,.lst LL),some (false,.int d),x5,x6,some (false,.str T),some (false,tJ F),none]) (by simp! [f1])]
 rw [yh (σ':=[some (false,S),some (false,.lst items),some (false,.lst MM),some (false,.lst LL),some (false,.int d),x5,x6,some (false,.str T),some (false,tJ F),some (false,tJ F)]) (by simp! [f2])]
 cases F with
 | none=>
  have f3:qE [.str T]=some (false,.str ""):=f3
  have ee:zL (.str "") (.str "")=some (.bl true):=rfl
  have an:tJ none=.non:=rfl
  rw [an]
  simp! [f3,ee]
 | some j=>
  have f3:qE [.str T]=some (false,.str "text"):=f3
  have ee:zL (.str "text") (.str "text")=some (.bl true):=by rfl
  have an:tJ (some j)=.int (j:Int):=rfl
  have wh:kW [.int (j:Int)]=some (false,.bl true):=rfl
  have ej:=uA (i:=(j:Int)) (j:=(j:Int)) rfl
  have nn:jD (.int (j:Int)) .non=some (.bl false):=rfl
  rw [an]
  simp! [f3,ee,wh,ej,nn]
end L3
local macro_rules
 | `(tactic| ac_rfl)=>`(tactic| exact ⟨rfl,rfl,rfl,by decide +kernel,rfl,by decide +kernel,by decide +kernel⟩)
namespace My
open PySem L2 L3
set_option maxHeartbeats 4000000
noncomputable def top (i:Nat):Stmt:=PySem.Challenge.pw_markrun_k14_faults.main.body.getD i (.Pass ⟨0,0,0,0⟩)
section
variable {P:Program} {w:World} {K:PySem.W.Frag} {mg:Str->Option Value} {base:Heap} {A_MARKS:Addr} {A_JUMPS:Addr} {A_FIELDS:Addr} {A_NUMBER_WIDTHS:Addr} {A_PLACES:Addr} {C_BadNumber:Addr} {C_BadState:Addr} {C_BadText:Addr} {C_BadWords:Addr} {C_NoAddress:Addr} {C_NoLabel:Addr} {C_RunError:Addr}
noncomputable abbrev Y8:Stmt:=top 26
theorem U1:yQ ["text", "told", "wrong"] ["text"] (zi Y8):=by ac_rfl
theorem Bv (d:Def K mg "read" Y8 ["text"]) (c_BadText:xh K mg "BadText" C_BadText) (h_told_rows:yZ P w K mg base "told_rows" ["text"] 5 (yY K qy)) (h_least_fault:yZ P w K mg base "least_fault" ["told"] 2 (yY K t8)):p_ P w K mg base "read" ["text"] 6 (YF K mg pq):=
 Def.okXS d U1 (by decide) O5 fun f cdv A outer s H E hr=>(IQ (z_ (i:=1) U1.nd rfl (Or.inl rfl) (ze h_told_rows hr rfl (zB (zA 0) zK)))
  (IQ (z_ (i:=2) U1.nd rfl (Or.inl rfl) (ze h_least_fault hr rfl (zB (zA 1) zK)))
   (EE (zg Qw Qr (zE (zA 2)) (zE vY) (zj _)) c_BadText C3 hr.hd rfl (zB (Ce (UF zF (UF (Cd (zA 2)) (UF zF Cr)))) zK)
    (ED (zN (ji (vQ rfl (wJ (own:=["number", "item"]) rfl) (vC (zA 1)) (Xn (fun C s H fp pn=>(ja (n:=2) rfl (uE (ym (i:=3) (show (xY ["text", "told", "wrong"] ["number", "item"]).Nodup by decide +kernel) rfl (Or.inl rfl)) (uE (ym (i:=4) (show (xY ["text", "told", "wrong"] ["number", "item"]).Nodup by decide +kernel) rfl (Or.inl rfl)) jb)))) rfl rfl) (fun C s H fp pn=>va) (fun C s H fp pn=>(zA 4)))))))))
noncomputable abbrev Y7:Stmt:=top 39
theorem Jo:yQ ["_law_e", "_law_words_here"] ["_law_e"] (zi Y7):=by ac_rfl
theorem BX (d:Def K mg "_law_class" Y7 ["_law_e"]) (z_isinstance:mg "isinstance" = none) (z_ValueError:mg "ValueError" = none) (z_len:mg "len" = none) (c_BadText:xh K mg "BadText" C_BadText) (c_BadNumber:xh K mg "BadNumber" C_BadNumber) (c_NoLabel:xh K mg "NoLabel" C_NoLabel) (c_NoAddress:xh K mg "NoAddress" C_NoAddress) (c_BadState:xh K mg "BadState" C_BadState) (c_BadWords:xh K mg "BadWords" C_BadWords) (y_BadText:PySem.W.nsIn K mainGlobals "BadText" = some (some (.ref C_BadText))) (x_BadText:uK K C_BadText) (t_BadText_BadNumber:PySem.W.kitOne K (.ref C_BadText) (.ref C_BadNumber)=some false) (t_BadText_BadText:PySem.W.kitOne K (.ref C_BadText) (.ref C_BadText)=some true) (t_BadText_NoLabel:PySem.W.kitOne K (.ref C_BadText) (.ref C_NoLabel)=some false) (t_BadText_NoAddress:PySem.W.kitOne K (.ref C_BadText) (.ref C_NoAddress)=some false) (t_BadText_BadState:PySem.W.kitOne K (.ref C_BadText) (.ref C_BadState)=some false) (t_BadText_BadWords:PySem.W.kitOne K (.ref C_BadText) (.ref C_BadWords)=some false) (t_BadText_ValueError:PySem.W.kitOne K (.ref C_BadText) (.type "ValueError")=some true):pz P w K mg base "_law_class" ["_law_e"] 1 (yY K jz):=
 Def.okHS d Jo (by decide) CB fun f cdv A outer s H E hr=>(zO (uc (i:=1) Jo.nd rfl (Or.inl rfl) (yP zK (yK yN (by decide))))
  (zO (yA (xc (jf rfl z_isinstance y_BadText x_BadText c_BadNumber rfl t_BadText_BadNumber (zA 0)))
   (zN (uG (qv 1) zF))
   yJ)
  (zO (yA (xc (jf rfl z_isinstance y_BadText x_BadText c_BadText rfl t_BadText_BadText (zA 0)))
   (zN (uG (qv 1) zF))
   yJ)
  (zO (yA (xc (jf rfl z_isinstance y_BadText x_BadText c_NoLabel rfl t_BadText_NoLabel (zA 0)))
   (zN (uG (qv 1) zF))
   yJ)
  (zO (yA (w6 (uI (xc (jf rfl z_isinstance y_BadText x_BadText c_BadWords rfl t_BadText_BadWords (zA 0))) (uI (xc (jf rfl z_isinstance y_BadText x_BadText c_BadState rfl t_BadText_BadState (zA 0))) (uy (xc (jf rfl z_isinstance y_BadText x_BadText c_NoAddress rfl t_BadText_NoAddress (zA 0)))))))
   (zN (uG (qv 1) zF))
   yJ)
  (ql 1 (zO (yA (w6 (vS (zg (yc (Lu hr)) yb (zE (yg yu xA rfl z_len yt (yW (zE (zA 1)) yX))) (zE zG) (zj _)) (uH (xc (Cf rfl z_isinstance y_BadText x_BadText rfl z_ValueError OT t_BadText_ValueError (zA 0))))))
   (zN (zx (zr (zn (Lv hr)) zp (zA 1) zG)))
   yJ)
  (zN (zx zF)))))))))
noncomputable abbrev HT:=Program->World->PySem.W.Frag->(Str->Option Value)->Heap->Prop
section
variable {h:Heap} (X:K.In h) (G:h.Ns mainGlobals mg)
noncomputable abbrev VW:Stmt:=top 9
theorem CM:yQ ["thing", "width"] ["thing", "width"] (zi VW):=by ac_rfl
variable (z_isinstance:mg "isinstance" = none) (z_int:mg "int" = none) (z_bool:mg "bool" = none)
noncomputable def Yq:HT:=fun P w K mg base=>yZ P w K mg base "is_number" ["thing", "width"] 1 (yY K jy)
include X G z_isinstance z_int z_bool in
theorem BS (a:za K "is_number" VW):Yq P w K mg base:=(a.d2 X G).oS P w base 0 jy CM xC fun hr=>(zO (yA (w6 (uI (xc (pT .bool rfl rfl z_isinstance z_bool T9 (zE (zA 0)))) (uy (qm (xc (pT .int rfl rfl z_isinstance z_int ZD (zE (zA 0)))))))) (zN (zx vX)) yJ) (zN (zx (pS (wU DC wm (zE zG) (zE (zA 0)) (zj _)) (jg (wU qe wm (zE (zA 0)) (zE (zS DJ Bx zG (zA 1))) (zj _)))))))
noncomputable abbrev VU:Stmt:=top 20
theorem CL:yQ ["thing"] ["thing"] (zi VU):=by ac_rfl
variable (z_str:mg "str" = none) (z_len:mg "len" = none) (z_all:mg "all" = none) (g_NAME_LONGEST:xf mg "NAME_LONGEST" (.int 8)) (q_NAME_LONGEST:∀ H,zU K H (.int 8) (.int 8)) (g_LETTERS:xf mg "LETTERS" (.str "abcdefghijklmnopqrstuvwxyz")) (q_LETTERS:∀ H,zU K H (.str "abcdefghijklmnopqrstuvwxyz") (.str "abcdefghijklmnopqrstuvwxyz"))
noncomputable def Yp:HT:=fun P w K mg base=>yZ P w K mg base "is_name" ["thing"] 1 (yY K jx)
include X G z_isinstance z_str z_len z_all g_NAME_LONGEST q_NAME_LONGEST g_LETTERS q_LETTERS in
theorem BR (a:za K "is_name" VU):Yp P w K mg base:=(a.d1 X G).oS P w base 0 jx CL xC fun hr=>(zO (yA (qm (xc (pT .str rfl rfl z_isinstance z_str ZE (zE (zA 0))))) (zN (zx vX)) yJ) (zO (yA (w6 (uI (zg qe wm (zE (yg yu xA rfl z_len yt (yW (zE (zA 0)) yX))) (zE zG) (zj _)) (uy (zg qd wm (zE (yg yu xA rfl z_len yt (yW (zE (zA 0)) yX))) (zE (je g_NAME_LONGEST q_NAME_LONGEST rfl)) (zj _))))) (zN (zx vX)) yJ) (zN (zx (yg (gM rfl) gy rfl z_all gL (yW (zE (yH (vQ rfl (wJ (own:=["sign"]) rfl) (vC (zA 0)) (wy (fun C s H fp pn=>(ym (i:=1) (show (xY ["thing"] ["sign"]).Nodup by decide +kernel) rfl (Or.inl rfl))) rfl) (fun C s H fp pn=>va) (fun C s H fp pn=>(wU (vA (zV hr)) v7 (zE (zA 1)) (zE (je g_LETTERS q_LETTERS rfl)) (by with_unfolding_all rfl)))))) yX))))))
noncomputable abbrev VP:Stmt:=top 19
theorem Jn:yQ ["kind", "field", "thing", "width"] ["kind", "field", "thing"] (zi VP):=by ac_rfl
variable (g_MARKS:xf mg "MARKS" (.ref A_MARKS)) (q_MARKS:∀ H,zU K H ZT (.ref A_MARKS)) (g_NUMBER_WIDTHS:xf mg "NUMBER_WIDTHS" (.ref A_NUMBER_WIDTHS)) (q_NUMBER_WIDTHS:uM K w A_NUMBER_WIDTHS ZO ZU) (g_PLACES:xf mg "PLACES" (.ref A_PLACES)) (q_PLACES:uM K w A_PLACES gZ gf) (h_is_name:Yp P w K mg base) (h_is_number:Yq P w K mg base)
noncomputable def Yl:HT:=fun P w K mg base=>yZ P w K mg base "fits" ["kind", "field", "thing"] 2 (yY K pZ)
include X G g_MARKS q_MARKS g_NUMBER_WIDTHS q_NUMBER_WIDTHS g_PLACES q_PLACES h_is_name h_is_number in
theorem BL (a:za K "fits" VP):Yl P w K mg base:=(a.d3 X G).oS P w base 1 pZ Jn xC fun hr=>(zO (yA (zg (yc (yR hr)) yb (zE (zA 1)) (zE zF) (zj _)) (zN (zx (ze h_is_name hr rfl (zB (zA 2) zK)))) yJ) (zO (yA (zg (yc (yR hr)) yb (zE (zA 1)) (zE zF) (zj _)) (zN (zx (wU (D8 (zV hr)) BM (zE (zA 2)) (zE (je g_MARKS q_MARKS rfl)) (by with_unfolding_all rfl)))) yJ) (zO (z_ (i:=3) Jn.nd rfl (Or.inl rfl) (U5 (zg (yc (yR hr)) yb (zE (zA 1)) (zE zF) (zj _)) (YB g_NUMBER_WIDTHS q_NUMBER_WIDTHS rfl (zA 0)) (zr (zn (zV hr)) zp (YB g_PLACES q_PLACES rfl (zA 1)) zG))) (zN (zx (ze h_is_number hr rfl (zB (zA 2) (zB (zA 3) zK))))))))
noncomputable abbrev VQ:Stmt:=top 18
theorem Vx:yQ ["thing", "kind", "fields"] ["thing"] (zi VQ):=by ac_rfl
variable (z_tuple:mg "tuple" = none) (z_zip:mg "zip" = none) (g_FIELDS:xf mg "FIELDS" (.ref A_FIELDS)) (q_FIELDS:uM K w A_FIELDS xM tS) (h_fits:Yl P w K mg base)
noncomputable def Ym:HT:=fun P w K mg base=>yZ P w K mg base "is_item" ["thing"] 3 (yY K wX)
include X G z_len z_isinstance z_tuple z_str z_all z_zip g_FIELDS q_FIELDS h_fits in
theorem BO (a:za K "is_item" VQ):Ym P w K mg base:=(a.d1 X G).oS P w base 2 wX Vx xC fun hr=>(zO (yA (w6 (uI (qm (xc (pT .tuple rfl rfl z_isinstance z_tuple Xs (zE (zA 0))))) (uy (zg (yc (yR hr)) yb (zE (yg yu xA rfl z_len yt (yW (zE (zA 0)) yX))) (zE zG) (zj _))))) (zN (zx vX)) yJ) (zO (z_ (i:=1) Vx.nd rfl (Or.inr rfl) (zr (zn (zV hr)) zp (zA 0) zG)) (zO (yA (w6 (uI (qm (xc (pT .str rfl rfl z_isinstance z_str ZE (zE (zA 1))))) (uy (IG g_FIELDS q_FIELDS rfl (zA 1))))) (zN (zx vX)) yJ) (zO (z_ (i:=2) Vx.nd rfl (Or.inl rfl) (YB g_FIELDS q_FIELDS rfl (zA 1))) (zO (yA (zg (qg (yR hr)) qc (zE (yg yu xA rfl z_len yt (yW (zE (zA 0)) yX))) (zE (zS zw zv (yg yu xA rfl z_len yt (yW (zE (zA 2)) yX)) zG)) (zj _)) (zN (zx vX)) yJ) (zN (zx (yg (gM rfl) gy rfl z_all gL (yW (zE (yH (vQ rfl (wJ (own:=["field", "held"]) rfl) (Jz rfl z_zip (zA 2) (xb (zA 0) (xS zG) xo)) (Xn (fun C s H fp pn=>(ja (n:=2) rfl (uE (ym (i:=3) (show (xY ["thing", "kind", "fields"] ["field", "held"]).Nodup by decide +kernel) rfl (Or.inl rfl)) (uE (ym (i:=4) (show (xY ["thing", "kind", "fields"] ["field", "held"]).Nodup by decide +kernel) rfl (Or.inl rfl)) jb)))) rfl rfl) (fun C s H fp pn=>va) (fun C s H fp pn=>(ze h_fits hr rfl (zB (zA 1) (zB (zA 3) (zB (zA 4) zK)))))))) yX)))))))))
noncomputable abbrev VS:Stmt:=top 21
theorem CK:yQ ["item"] ["item"] (zi VS):=by ac_rfl
noncomputable def Yo:HT:=fun P w K mg base=>yZ P w K mg base "is_label" ["item"] 1 (yY K pd)
include X G in
theorem BQ (a:za K "is_label" VS):Yo P w K mg base:=(a.d1 X G).oS P w base 0 pd CK xC fun hr=>(zN (zx (wU (yc (yR hr)) yb (zE (zr (zn (zV hr)) zp (zA 0) zG)) (zE zF) (zj _))))
noncomputable abbrev VR:Stmt:=top 22
theorem CJ:yQ ["item"] ["item"] (zi VR):=by ac_rfl
variable (g_JUMPS:xf mg "JUMPS" (.ref A_JUMPS)) (q_JUMPS:∀ H,zU K H ZR (.ref A_JUMPS))
noncomputable def Yn:HT:=fun P w K mg base=>yZ P w K mg base "is_jump" ["item"] 1 (yY K jv)
include X G g_JUMPS q_JUMPS in
theorem BP (a:za K "is_jump" VR):Yn P w K mg base:=(a.d1 X G).oS P w base 0 jv CJ xC fun hr=>(zN (zx (wU (vA (zV hr)) v7 (zE (zr (zn (zV hr)) zp (zA 0) zG)) (zE (je g_JUMPS q_JUMPS rfl)) (by with_unfolding_all rfl))))
noncomputable abbrev Vw:Stmt:=top 29
theorem Jr:yQ ["row", "looked_at"] ["row"] (zi Vw):=by ac_rfl
noncomputable def XF:HT:=fun P w K mg base=>yZ P w K mg base "words_in" ["row"] 1 (yY K py)
include X G in
theorem B_ (a:za K "words_in" Vw):XF P w K mg base:=(a.d1 X G).oS P w base 0 py Jr xC fun hr=>(zO (z_ (i:=1) Jr.nd rfl (Or.inl rfl) (Cj (Ci (zA 0) zF) (Zy rfl) (by decide))) (zN (ji (vQ rfl (wJ (own:=["word"]) rfl) (vC (yH (jh (zA 1) zF))) (wy (fun C s H fp pn=>(ym (i:=2) (show (xY ["row", "looked_at"] ["word"]).Nodup by decide +kernel) rfl (Or.inl rfl))) rfl) (fun C s H fp pn=>(kM (zg (qg (yR hr)) qc (zE (zA 2)) (zE zF) (zj _)))) (fun C s H fp pn=>(zA 2))))))
noncomputable abbrev Vt:Stmt:=top 33
theorem CV:yQ ["word"] ["word"] (zi Vt):=by ac_rfl
variable (g_FIGURES_MOST:xf mg "FIGURES_MOST" (.int 5)) (q_FIGURES_MOST:∀ H,zU K H (.int 5) (.int 5)) (g_FIGURES:xf mg "FIGURES" (.str "0123456789")) (q_FIGURES:∀ H,zU K H (.str "0123456789") (.str "0123456789"))
noncomputable def XC:HT:=fun P w K mg base=>yZ P w K mg base "number_told" ["word"] 1 (yY K qx)
include X G z_len z_all z_int g_FIGURES_MOST q_FIGURES_MOST g_FIGURES q_FIGURES in
theorem Bu (a:za K "number_told" Vt):XC P w K mg base:=(a.d1 X G).oS P w base 0 qx CV xC fun hr=>(zO (yA (w6 (uI (zg (yc (yR hr)) yb (zE (zA 0)) (zE zF) (zj _)) (uy (zg qd wm (zE (yg yu xA rfl z_len yt (yW (zE (zA 0)) yX))) (zE (je g_FIGURES_MOST q_FIGURES_MOST rfl)) (zj _))))) (zN (zx vY)) yJ) (zO (yA (qm (xc (yg (gM rfl) gy rfl z_all gL (yW (zE (yH (vQ rfl (wJ (own:=["sign"]) rfl) (vC (zA 0)) (wy (fun C s H fp pn=>(ym (i:=1) (show (xY ["word"] ["sign"]).Nodup by decide +kernel) rfl (Or.inl rfl))) rfl) (fun C s H fp pn=>va) (fun C s H fp pn=>(wU (vA (zV hr)) v7 (zE (zA 1)) (zE (je g_FIGURES q_FIGURES rfl)) (by with_unfolding_all rfl)))))) yX)))) (zN (zx vY)) yJ) (zO (yA (w6 (vS (xc (Jw (zA 0) zF)) (uH (zg (qg (yR hr)) qc (zE (zA 0)) (zE zF) (zj _))))) (zN (zx vY)) yJ) (zN (zx (Jv rfl z_int (zB (zA 0) zK)))))))
noncomputable abbrev VO:Stmt:=top 32
theorem CI:yQ ["field", "word"] ["field", "word"] (zi VO):=by ac_rfl
variable (h_number_told:XC P w K mg base)
noncomputable def Yk:HT:=fun P w K mg base=>yZ P w K mg base "field_told" ["field", "word"] 2 (yY K pY)
include X G h_number_told in
theorem BK (a:za K "field_told" VO):Yk P w K mg base:=(a.d2 X G).oS P w base 1 pY CI xC fun hr=>(zO (yA (zg (yc (yR hr)) yb (zE (zA 0)) (zE zF) (zj _)) (zN (zx (ze h_number_told hr rfl (zB (zA 1) zK)))) yJ) (zO (yA (w6 (uI (zg (yc (yR hr)) yb (zE (zA 0)) (zE zF) (zj _)) (uy (zg (yc (yR hr)) yb (zE (zA 0)) (zE zF) (zj _))))) (zN (zx (U5 (xc (Jw (zA 1) zF)) (ze h_number_told hr rfl (zB (xb (zA 1) (xS zG) xo) zK)) vY))) yJ) (zN (zx (zA 1)))))
noncomputable abbrev Vu:Stmt:=top 31
theorem U2:yQ ["words", "kind", "fields"] ["words"] (zi Vu):=by ac_rfl
variable (h_field_told:Yk P w K mg base)
noncomputable def XD:HT:=fun P w K mg base=>yZ P w K mg base "row_told" ["words"] 3 (yY K vd)
include X G z_len z_tuple z_zip g_FIELDS q_FIELDS h_field_told in
theorem Bw (a:za K "row_told" Vu):XD P w K mg base:=(a.d1 X G).oS P w base 2 vd U2 xC fun hr=>(zO (z_ (i:=1) U2.nd rfl (Or.inl rfl) (zr (zn (zV hr)) zp (zA 0) zG)) (zO (yA (w6 (uI (zg (yc (yR hr)) yb (zE (zA 1)) (zE zF) (zj _)) (uy (IG g_FIELDS q_FIELDS rfl (zA 1))))) (zN (zx vY)) yJ) (zO (z_ (i:=2) U2.nd rfl (Or.inl rfl) (YB g_FIELDS q_FIELDS rfl (zA 1))) (zO (yA (zg (qg (yR hr)) qc (zE (yg yu xA rfl z_len yt (yW (zE (zA 0)) yX))) (zE (zS zw zv (yg yu xA rfl z_len yt (yW (zE (zA 2)) yX)) zG)) (zj _)) (zN (zx vY)) yJ) (zN (zx (Ju TF Qt rfl z_tuple Xs (zB (zS zw zv (yH (yP (zB (zA 1) zK) (yK (zJ yN) (by decide)))) (yH (vQ rfl (wJ (own:=["field", "word"]) rfl) (Jz rfl z_zip (zA 2) (xb (zA 0) (xS zG) xo)) (Xn (fun C s H fp pn=>(ja (n:=2) rfl (uE (ym (i:=3) (show (xY ["words", "kind", "fields"] ["field", "word"]).Nodup by decide +kernel) rfl (Or.inl rfl)) (uE (ym (i:=4) (show (xY ["words", "kind", "fields"] ["field", "word"]).Nodup by decide +kernel) rfl (Or.inl rfl)) jb)))) rfl rfl) (fun C s H fp pn=>va) (fun C s H fp pn=>(ze h_field_told hr rfl (zB (zA 3) (zB (zA 4) zK))))))) zK))))))))
noncomputable abbrev VX:Stmt:=top 30
theorem Vy:yQ ["words", "item"] ["words"] (zi VX):=by ac_rfl
variable (h_row_told:XD P w K mg base) (h_is_item:Ym P w K mg base)
noncomputable def Yr:HT:=fun P w K mg base=>yZ P w K mg base "item_told" ["words"] 4 (yY K vF)
include X G z_len h_row_told h_is_item in
theorem BT (a:za K "item_told" VX):Yr P w K mg base:=(a.d1 X G).oS P w base 3 vF Vy xC fun hr=>(zO (z_ (i:=1) Vy.nd rfl (Or.inl rfl) (ze h_row_told hr rfl (zB (zA 0) zK))) (zO (yA (w6 (vS (zg (yc (yR hr)) yb (zE (yg yu xA rfl z_len yt (yW (zE (zA 0)) yX))) (zE zG) (zj _)) (uH (xc (Cc (zr (zn (zV hr)) zp (zA 0) zG) zF))))) (zN (z_ (i:=1) Vy.nd rfl (Or.inl rfl) (YE (zB zF (zB (xb (zr (zn (zV hr)) zp (zA 0) zG) xo (xS (uw u_ uz zG))) zK)) (yK (zJ (zJ yN)) (by decide))))) yJ) (zN (zx (U5 (xc (ze h_is_item hr rfl (zB (zA 1) zK))) (zA 1) vY)))))
noncomputable abbrev Vv:Stmt:=top 28
theorem kF:yQ ["text", "told", "number", "row", "words"] ["text"] (zi Vv):=by ac_rfl
variable (z_enumerate:mg "enumerate" = none) (h_words_in:XF P w K mg base) (h_item_told:Yr P w K mg base)
noncomputable def XE:HT:=fun P w K mg base=>yZ P w K mg base "told_rows" ["text"] 5 (yY K qy)
include X G z_enumerate h_words_in h_item_told in
theorem Bz (a:za K "told_rows" Vv):XE P w K mg base:=(a.d1 X G).oS P w base 4 qy kF xC fun hr=>(zO (uc (i:=1) kF.nd rfl (Or.inl rfl) (yP zK (yK yN (by decide)))) (zO (vw PassesOwn.never rfl (Cp rfl z_enumerate (yH (jh (zA 0) zF))) (U7 (ja (n:=2) rfl (uE (ym (i:=2) kF.nd rfl (Or.inl rfl)) (uE (ym (i:=3) kF.nd rfl (Or.inl rfl)) jb))) rfl rfl) (zO (z_ (i:=4) kF.nd rfl (Or.inl rfl) (ze h_words_in hr rfl (zB (zA 3) zK))) (zN (yA (zg (qg (yR hr)) qc (zE (zA 4)) (zE (yH (yP zK (yK yN (by decide))))) (zj _)) (zN (uG (qv 1) (YE (zB (zA 2) (zB (ze h_item_told hr rfl (zB (zA 4) zK)) zK)) (yK (zJ (zJ yN)) (by decide))))) yJ)))) (zN (YI 1))))
noncomputable abbrev Vs:Stmt:=top 34
theorem pR:yQ ["told", "names", "number", "item", "ahead"] ["told"] (zi Vs):=by ac_rfl
variable (h_is_label:Yo P w K mg base) (h_is_jump:Yn P w K mg base)
noncomputable def XB:HT:=fun P w K mg base=>yZ P w K mg base "least_fault" ["told"] 2 (yY K t8)
include X G h_is_label h_is_jump in
theorem Br (a:za K "least_fault" Vs):XB P w K mg base:=(a.d1 X G).oS P w base 1 t8 pR xC fun hr=>(zO (uc (i:=1) pR.nd rfl (Or.inl rfl) Jy) (zO (vw PassesOwn.never rfl (vC (zA 0)) (U7 (ja (n:=2) rfl (uE (ym (i:=2) pR.nd rfl (Or.inl rfl)) (uE (ym (i:=3) pR.nd rfl (Or.inl rfl)) jb))) rfl rfl) (zN (yA (w6 (vS (zg Qw Qr (zE (zA 3)) (zE vY) (zj _)) (uH (xc (ze h_is_label hr rfl (zB (zA 3) zK)))))) (zN (IF (zV hr) (qv 1) (zr (zn (zV hr)) zp (zA 3) zG) vX)) yJ))) (ql 1 (zO (uc (i:=4) pR.nd rfl (Or.inl rfl) Jy) (zO (vw PassesOwn.never rfl (vC (zA 0)) (U7 (ja (n:=2) rfl (uE (ym (i:=2) pR.nd rfl (Or.inl rfl)) (uE (ym (i:=3) pR.nd rfl (Or.inl rfl)) jb))) rfl rfl) (zO (yA (zg V0 Wy (zE (zA 3)) (zE vY) (zj _)) (zN (zx (zA 2))) yJ) (zO (yA (w6 (vS (xc (ze h_is_jump hr rfl (zB (zA 3) zK))) (uH (zg (Zu (zV hr)) Zt (zE (zr (zn (zV hr)) zp (zA 3) (uw u_ uz zG))) (zE (zA 1)) (by with_unfolding_all rfl))))) (zN (zx (zA 2))) yJ) (zN (yA (xc (ze h_is_label hr rfl (zB (zA 3) zK))) (zO (yA (zg (vA (zV hr)) v7 (zE (zr (zn (zV hr)) zp (zA 3) zG)) (pP 4) (by with_unfolding_all rfl)) (zN (zx (zA 2))) yJ) (zN (IF (zV hr) (qv 4) (zr (zn (zV hr)) zp (zA 3) zG) vX))) yJ))))) (ql 4 (zN (zx vY))))))))
noncomputable abbrev VN:Stmt:=top 27
theorem CH:yQ ["text"] ["text"] (zi VN):=by ac_rfl
variable (h_least_fault:XB P w K mg base) (h_told_rows:XE P w K mg base)
noncomputable def Yj:HT:=fun P w K mg base=>yZ P w K mg base "fault" ["text"] 6 (yY K ju)
include X G h_least_fault h_told_rows in
theorem BJ (a:za K "fault" VN):Yj P w K mg base:=(a.d1 X G).oS P w base 5 ju CH xC fun hr=>(zN (zx (ze h_least_fault hr rfl (zB (ze h_told_rows hr rfl (zB (zA 0) zK)) zK))))
noncomputable abbrev VY:Stmt:=top 36
theorem CN:yQ ["_law_script", "_law_k"] ["_law_script", "_law_k"] (zi VY):=by ac_rfl
noncomputable def Ys:HT:=fun P w K mg base=>yZ P w K mg base "_law_cell_at" ["_law_script", "_law_k"] 1 (yY K qB)
include X G z_len in
theorem BV (a:za K "_law_cell_at" VY):Ys P w K mg base:=(a.d2 X G).oS P w base 0 qB CN CA fun hr=>(zO (yA (zg qe wm (zE (zA 1)) (zE (yg yu xA rfl z_len yt (yW (zE (zA 0)) yX))) (zj _)) (zN (zx (zr (zn (zV hr)) zp (zA 0) (zA 1)))) yJ) (zN (zx zG)))
noncomputable abbrev Vq:Stmt:=top 37
theorem CU:yQ ["_law_found"] ["_law_found"] (zi Vq):=by ac_rfl
noncomputable def X9:HT:=fun P w K mg base=>yZ P w K mg base "_law_whole" ["_law_found"] 1 (yY K kW)
include X G z_isinstance z_bool z_int in
theorem Bp (a:za K "_law_whole" Vq):X9 P w K mg base:=(a.d1 X G).oS P w base 0 kW CU xC fun hr=>(zN (zx (pS (pT .int rfl rfl z_isinstance z_int ZD (zE (zA 0))) (jg (Ch (pT .bool rfl rfl z_isinstance z_bool T9 (zE (zA 0))))))))
noncomputable abbrev Vh:Stmt:=top 38
theorem V_:yQ ["_law_cell", "_law_k", "_law_many", "_law_some", "_law_made"] ["_law_cell", "_law_k", "_law_many"] (zi Vh):=by ac_rfl
noncomputable def X0:HT:=fun P w K mg base=>yZ P w K mg base "_law_mixed" ["_law_cell", "_law_k", "_law_many"] 1 (yY K yM)
include X G in
theorem Bf (a:za K "_law_mixed" Vh):X0 P w K mg base:=(a.d3 X G).oS P w base 0 yM V_ xC fun hr=>(zO (z_ (i:=3) V_.nd rfl (Or.inl rfl) (yH (yP (Y9 (is:=[99991,99989,99971,99961,99929,99923,99907,99901,99881,99877,99871]) rfl) (yK (Z2 (n:=11) (by decide)) (by decide))))) (zO (z_ (i:=4) V_.nd rfl (Or.inl rfl) (zS uY uX (zS qf Qp (zS zw zv (zA 0) (zS qf jU zG (zA 1))) zG) (zr (zn (zV hr)) zp (zA 3) (zS uY uX (zA 1) zG)))) (zN (zx (zS uY uX (zS uY uX (zS zw zv (zS zw zv (zS qf Qp (zS DD Bs (zA 4) (zA 4)) zG) (zA 4)) (zA 1)) zG) (zA 2))))))
noncomputable abbrev Ve:Stmt:=top 40
theorem CP:yQ ["_law_k"] ["_law_k"] (zi Ve):=by ac_rfl
noncomputable def Yy:HT:=fun P w K mg base=>yZ P w K mg base "_law_letter" ["_law_k"] 1 (yY K qD)
include X G in
theorem Bc (a:za K "_law_letter" Ve):Yy P w K mg base:=(a.d1 X G).oS P w base 0 qD CP xC fun hr=>(zN (zx (zr (zn (zV hr)) zp zF (zS uY uX (zA 0) zG))))
noncomputable abbrev Vi:Stmt:=top 41
theorem uF:yQ ["_law_cell", "_law_many", "_law_size", "_law_spot", "_law_word", "_law_own", "_law_names_here", "_law_k", "_law_letter_here", "_law_name", "_law_others"] ["_law_cell", "_law_many"] (zi Vi):=by ac_rfl
variable (z_range:mg "range" = none) (h_law_mixed:X0 P w K mg base) (h_law_letter:Yy P w K mg base)
noncomputable def X1:HT:=fun P w K mg base=>yZ P w K mg base "_law_names" ["_law_cell", "_law_many"] 2 (yY K g7)
include X G z_range h_law_mixed h_law_letter in
theorem Bg (a:za K "_law_names" Vi):X1 P w K mg base:=(a.d2 X G).oS P w base 1 g7 uF xC fun hr=>(zO (z_ (i:=2) uF.nd rfl (Or.inl rfl) (zS zw zv zG (ze h_law_mixed hr rfl (zB (zA 0) (zB zG (zB zG zK)))))) (zO (z_ (i:=3) uF.nd rfl (Or.inl rfl) (ze h_law_mixed hr rfl (zB (zA 0) (zB zG (zB (zA 2) zK))))) (zO (z_ (i:=4) uF.nd rfl (Or.inl rfl) (YC zF (zE (yH (vQ rfl (wJ (own:=["_law_j"]) rfl) (vv rfl z_range zG) (wy (fun C s H fp pn=>(ym (i:=11) (show (xY ["_law_cell", "_law_many", "_law_size", "_law_spot", "_law_word", "_law_own", "_law_names_here", "_law_k", "_law_letter_here", "_law_name", "_law_others"] ["_law_j"]).Nodup by decide +kernel) rfl (Or.inl rfl))) rfl) (fun C s H fp pn=>va) (fun C s H fp pn=>(ze h_law_letter hr rfl (zB (ze h_law_mixed hr rfl (zB (zA 0) (zB (zS zw zv zG (zA 11)) (zB zG zK)))) zK)))))))) (zO (z_ (i:=5) uF.nd rfl (Or.inl rfl) (yH (yP (zB zF (zB zF (zB zF (zB zF (zB zF (zB zF (zB zF (zB zF zK)))))))) (yK (zJ (zJ (zJ (zJ (zJ (zJ (zJ (zJ yN)))))))) (by decide))))) (zO (uc (i:=6) uF.nd rfl (Or.inr rfl) (yP zK (yK yN (by decide)))) (zO (vw PassesOwn.never rfl (vv rfl z_range (zA 1)) (ux (ym (i:=7) uF.nd rfl (Or.inl rfl)) rfl) (zO (z_ (i:=8) uF.nd rfl (Or.inl rfl) (ze h_law_letter hr rfl (zB (zS zw zv (ze h_law_mixed hr rfl (zB (zA 0) (zB zG (zB zG zK)))) (zS qf jU zG (zA 7))) zK))) (zO (z_ (i:=9) uF.nd rfl (Or.inl rfl) (zS zw zv (zS zw zv (xb (zA 4) xo (xS (zA 3))) (zA 8)) (xb (zA 4) (xS (zS zw zv (zA 3) zG)) (xS (zA 2))))) (zO (yA (w6 (vS (zg (yc (yR hr)) yb (zE (ze h_law_mixed hr rfl (zB (zA 0) (zB zG (zB zG zK))))) (zE zG) (zj _)) (uH (zg qe wm (zE (zA 7)) (zE zG) (zj _))))) (zN (z_ (i:=9) uF.nd rfl (Or.inl rfl) (zr (zn (zV hr)) zp (yH (yP (zB (xb (zA 4) xo (xS (zS zw zv (zA 7) zG))) (zB (zr (zn (zV hr)) zp (zA 5) (zA 7)) zK)) (yK (zJ (zJ yN)) (by decide)))) (ze h_law_mixed hr rfl (zB (zA 0) (zB zG (zB zG zK))))))) yJ) (zO (yA (zg (vA (zV hr)) v7 (zE (zA 9)) (pP 6) (by with_unfolding_all rfl)) (zO (z_ (i:=10) uF.nd rfl (Or.inl rfl) (zS zw zv (yH (vQ rfl (wJ (own:=["_law_j"]) rfl) (vv rfl z_range zG) (wy (fun C s H fp pn=>(ym (i:=11) (show (xY ["_law_cell", "_law_many", "_law_size", "_law_spot", "_law_word", "_law_own", "_law_names_here", "_law_k", "_law_letter_here", "_law_name", "_law_others"] ["_law_j"]).Nodup by decide +kernel) rfl (Or.inl rfl))) rfl) (fun C s H fp pn=>va) (fun C s H fp pn=>(zS zw zv (ze h_law_letter hr rfl (zB (zA 11) zK)) zF)))) (yH (vQ rfl (wJ (own:=["_law_j"]) rfl) (vv rfl z_range zG) (wy (fun C s H fp pn=>(ym (i:=11) (show (xY ["_law_cell", "_law_many", "_law_size", "_law_spot", "_law_word", "_law_own", "_law_names_here", "_law_k", "_law_letter_here", "_law_name", "_law_others"] ["_law_j"]).Nodup by decide +kernel) rfl (Or.inl rfl))) rfl) (fun C s H fp pn=>va) (fun C s H fp pn=>(zS zw zv (ze h_law_letter hr rfl (zB (zA 11) zK)) zF)))))) (zN (z_ (i:=9) uF.nd rfl (Or.inl rfl) (zr (zn (zV hr)) zp (yH (vQ rfl (wJ (own:=["_law_one"]) rfl) (vC (zA 10)) (wy (fun C s H fp pn=>(ym (i:=11) (show (xY ["_law_cell", "_law_many", "_law_size", "_law_spot", "_law_word", "_law_own", "_law_names_here", "_law_k", "_law_letter_here", "_law_name", "_law_others"] ["_law_one"]).Nodup by decide +kernel) rfl (Or.inl rfl))) rfl) (fun C s H fp pn=>(kM (zg (Zu (zV hr)) Zt (zE (zA 11)) (pP 6) (by with_unfolding_all rfl)))) (fun C s H fp pn=>(zA 11)))) zG)))) yJ) (zN (uG (qv 6) (zA 9)))))))) (zN (YI 6))))))))
noncomputable abbrev Vo:Stmt:=top 42
theorem CT:yQ ["_law_word"] ["_law_word"] (zi Vo):=by ac_rfl
noncomputable def X7:HT:=fun P w K mg base=>yZ P w K mg base "_law_shape" ["_law_word"] 1 (yY K wB)
include X G in
theorem Bn (a:za K "_law_shape" Vo):X7 P w K mg base:=(a.d1 X G).oS P w base 0 wB CT xC fun hr=>(zO (yA (zg (vA (zV hr)) v7 (zE (zA 0)) (zE (yH (yP (zB zF (zB zF zK)) (yK (zJ (zJ yN)) (by decide))))) (by with_unfolding_all rfl)) (zN (ji (yP (zB zG (zB zG zK)) (yK (zJ (zJ yN)) (by decide))))) yJ) (zO (yA (zg (vA (zV hr)) v7 (zE (zA 0)) (zE (yH (yP (zB zF (zB zF zK)) (yK (zJ (zJ yN)) (by decide))))) (by with_unfolding_all rfl)) (zN (ji (yP (zB zG (zB zG zK)) (yK (zJ (zJ yN)) (by decide))))) yJ) (zO (yA (zg (vA (zV hr)) v7 (zE (zA 0)) (zE (yH (yP (zB zF (zB zF (zB zF (zB zF zK)))) (yK (zJ (zJ (zJ (zJ yN)))) (by decide))))) (by with_unfolding_all rfl)) (zN (ji (yP (Y9 (is:=[8,8,256]) rfl) (yK (Z2 (n:=3) (by decide)) (by decide))))) yJ) (zO (yA (zg (vA (zV hr)) v7 (zE (zA 0)) (zE (yH (yP (zB zF (zB zF (zB zF (zB zF (zB zF (zB zF (zB zF (zB zF (zB zF zK))))))))) (yK (zJ (zJ (zJ (zJ (zJ (zJ (zJ (zJ (zJ yN))))))))) (by decide))))) (by with_unfolding_all rfl)) (zN (ji (yP (zB zG (zB zG zK)) (yK (zJ (zJ yN)) (by decide))))) yJ) (zN (zx (zr (zn (zV hr)) zp (yH (Co (kG (yH (yP (zB zF zK) (yK (zJ yN) (by decide)))) (kG (yH (yP (zB zF zK) (yK (zJ yN) (by decide)))) (kG (yH (yP (zB zF (zB zF zK)) (yK (zJ (zJ yN)) (by decide)))) (kG (yH (yP (zB zF (zB zF zK)) (yK (zJ (zJ yN)) (by decide)))) (kG (yH (yP zK (yK yN (by decide)))) CY))))) (by decide +kernel) (by decide))) (zA 0))))))))
noncomputable abbrev Vr:Stmt:=top 43
theorem Jq:yQ ["_law_some"] [] (zi Vr):=by ac_rfl
noncomputable def XA:HT:=fun P w K mg base=>yZ P w K mg base "_law_words" [] 1 (yY K pp)
include X G in
theorem Bq (a:za K "_law_words" Vr):XA P w K mg base:=(a.d0 X G).oS P w base 0 pp Jq xC fun hr=>(zO (z_ (i:=0) Jq.nd rfl (Or.inl rfl) (yH (yP (zB zF (zB zF (zB zF (zB zF (zB zF (zB zF (zB zF (zB zF (zB zF (zB zF (zB zF (zB zF (zB zF (zB zF zK)))))))))))))) (yK (zJ (zJ (zJ (zJ (zJ (zJ (zJ (zJ (zJ (zJ (zJ (zJ (zJ (zJ yN)))))))))))))) (by decide))))) (zN (zx (zS zw zv (zA 0) (yH (yP (zB zF (zB zF (zB zF (zB zF (zB zF (zB zF (zB zF zK))))))) (yK (zJ (zJ (zJ (zJ (zJ (zJ (zJ yN))))))) (by decide))))))))
noncomputable abbrev Vk:Stmt:=top 44
theorem CS:yQ ["_law_kind", "_law_cell", "_law_k", "_law_names_here"] ["_law_kind", "_law_cell", "_law_k", "_law_names_here"] (zi Vk):=by ac_rfl
noncomputable def X3:HT:=fun P w K mg base=>yZ P w K mg base "_law_part_by" ["_law_kind", "_law_cell", "_law_k", "_law_names_here"] 2 (yY K g8)
include X G z_len h_law_mixed in
theorem Bi (a:za K "_law_part_by" Vk):X3 P w K mg base:=(a.d4 X G).oS P w base 1 g8 CS xC fun hr=>(zO (yA (zg (yc (yR hr)) yb (zE (zA 0)) (zE zF) (zj _)) (zN (zx (zr (zn (zV hr)) zp (zA 3) (ze h_law_mixed hr rfl (zB (zA 1) (zB (zA 2) (zB (yg yu xA rfl z_len yt (yW (zE (zA 3)) yX)) zK))))))) yJ) (zO (yA (zg (yc (yR hr)) yb (zE (zA 0)) (zE zF) (zj _)) (zN (zx (zr (zn (zV hr)) zp (yH (yP (zB zF (zB zF (zB zF zK))) (yK (zJ (zJ (zJ yN))) (by decide)))) (ze h_law_mixed hr rfl (zB (zA 1) (zB (zA 2) (zB zG zK))))))) yJ) (zN (zx (zr (zn (zV hr)) zp (yH (yP (zB zG (zB (zS DK By (zA 0) zG) (zB (ze h_law_mixed hr rfl (zB (zA 1) (zB (zA 2) (zB (zA 0) zK)))) (zB (ze h_law_mixed hr rfl (zB (zA 1) (zB (zS zw zv (zA 2) zG) (zB (zA 0) zK)))) zK)))) (yK (zJ (zJ (zJ (zJ yN)))) (by decide)))) (ze h_law_mixed hr rfl (zB (zA 1) (zB (zS zw zv (zA 2) zG) (zB zG zK)))))))))
noncomputable abbrev Vn:Stmt:=top 45
theorem kE:yQ ["_law_cell", "_law_names_here", "_law_word", "_law_shape_here"] ["_law_cell", "_law_names_here"] (zi Vn):=by ac_rfl
variable (h_law_words:XA P w K mg base) (h_law_shape:X7 P w K mg base) (h_law_part_by:X3 P w K mg base)
noncomputable def X6:HT:=fun P w K mg base=>yZ P w K mg base "_law_row_by" ["_law_cell", "_law_names_here"] 3 (yY K gA)
include X G z_len z_tuple z_range h_law_mixed h_law_words h_law_shape h_law_part_by in
theorem Bm (a:za K "_law_row_by" Vn):X6 P w K mg base:=(a.d2 X G).oS P w base 2 gA kE xC fun hr=>(zO (z_ (i:=2) kE.nd rfl (Or.inl rfl) (zr (zn (zV hr)) zp (Jt h_law_words hr rfl) (ze h_law_mixed hr rfl (zB (zA 0) (zB zG (zB zG zK)))))) (zO (yA (zg (yc (yR hr)) yb (zE (ze h_law_mixed hr rfl (zB (zA 0) (zB zG (zB zG zK))))) (zE zG) (zj _)) (zN (z_ (i:=2) kE.nd rfl (Or.inl rfl) (zr (zn (zV hr)) zp (yH (yP (zB zF (zB zF (zB zF zK))) (yK (zJ (zJ (zJ yN))) (by decide)))) (ze h_law_mixed hr rfl (zB (zA 0) (zB zG (zB zG zK))))))) yJ) (zO (yA (w6 (vS (zg (vA (zV hr)) v7 (zE (zA 2)) (zE (yH (yP (zB zF (zB zF (zB zF zK))) (yK (zJ (zJ (zJ yN))) (by decide))))) (by with_unfolding_all rfl)) (uH (zg (yc (yR hr)) yb (zE (yg yu xA rfl z_len yt (yW (zE (zA 1)) yX))) (zE zG) (zj _))))) (zN (z_ (i:=2) kE.nd rfl (Or.inl rfl) zF)) yJ) (zO (z_ (i:=3) kE.nd rfl (Or.inr rfl) (ze h_law_shape hr rfl (zB (zA 2) zK))) (zN (zx (zS zw zv (YE (zB (zA 2) zK) (yK (zJ yN) (by decide))) (Ju TF Qt rfl z_tuple Xs (zB (yH (vQ rfl (wJ (own:=["_law_k"]) rfl) (vv rfl z_range (yg yu xA rfl z_len yt (yW (zE (zA 3)) yX))) (wy (fun C s H fp pn=>(ym (i:=4) (show (xY ["_law_cell", "_law_names_here", "_law_word", "_law_shape_here"] ["_law_k"]).Nodup by decide +kernel) rfl (Or.inl rfl))) rfl) (fun C s H fp pn=>va) (fun C s H fp pn=>(ze h_law_part_by hr rfl (zB (zr (zn (zV hr)) zp (zA 3) (zA 4)) (zB (zA 0) (zB (zS zw zv (zS qf jU zG (zA 4)) zG) (zB (zA 1) zK)))))))) zK)))))))))
noncomputable abbrev Vl:Stmt:=top 46
theorem tq:yQ ["_law_script", "_law_first", "_law_far", "_law_cells", "_law_k", "_law_many", "_law_names_here", "_law_items"] ["_law_script", "_law_first"] (zi Vl):=by ac_rfl
variable (h_law_cell_at:Ys P w K mg base) (h_law_names:X1 P w K mg base) (h_law_row_by:X6 P w K mg base)
noncomputable def X4:HT:=fun P w K mg base=>yZ P w K mg base "_law_program" ["_law_script", "_law_first"] 4 (yY K g9)
include X G z_range z_len h_law_cell_at h_law_mixed h_law_names h_law_row_by in
theorem Bj (a:za K "_law_program" Vl):X4 P w K mg base:=(a.d2 X G).oS P w base 3 g9 tq xC fun hr=>(zO (z_ (i:=2) tq.nd rfl (Or.inr rfl) (ze h_law_cell_at hr rfl (zB (zA 0) (zB (zA 1) zK)))) (zO (z_ (i:=3) tq.nd rfl (Or.inl rfl) (xb (zA 0) (xS (zS zw zv (zA 1) zG)) (xS (zS zw zv (zA 1) zG)))) (zO (yA (zg (yc (yR hr)) yb (zE (zS uY uX (zA 2) zG)) (zE zG) (zj _)) (zN (UI (i:=3) rfl tq.nd rfl rfl (wJ (own:=["_law_k"]) rfl) rfl (vv rfl z_range (zS zw zv zG (zS uY uX (zS jV jT (zA 2) zG) zG))) (wy (fun C s H fp pn=>(ym (i:=8) (show (xY ["_law_script", "_law_first", "_law_far", "_law_cells", "_law_k", "_law_many", "_law_names_here", "_law_items"] ["_law_k"]).Nodup by decide +kernel) rfl (Or.inl rfl))) rfl) (fun C s H fp pn=>va) (fun C s H fp pn=>(zS zw zv (zS jV jT (zA 2) zG) (zS qf jU zG (zA 8)))))) yJ) (zO (z_ (i:=5) tq.nd rfl (Or.inl rfl) (zr (zn (zV hr)) zp (yH (yP (Y9 (is:=[0,1,2,3,4,6,8,20]) rfl) (yK (Z2 (n:=8) (by decide)) (by decide)))) (ze h_law_mixed hr rfl (zB (zA 2) (zB zG (zB zG zK)))))) (zO (yA (zg (yc (yR hr)) yb (zE (zS uY uX (zA 2) zG)) (zE zG) (zj _)) (zN (z_ (i:=5) tq.nd rfl (Or.inl rfl) zG)) yJ) (zO (z_ (i:=6) tq.nd rfl (Or.inr rfl) (ze h_law_names hr rfl (zB (zS jV jT (zA 2) zG) (zB (zA 5) zK)))) (zO (E7 (i:=7) rfl tq.nd rfl rfl (wJ (own:=["_law_cell"]) rfl) rfl (vC (zA 3)) (wy (fun C s H fp pn=>(ym (i:=8) (show (xY ["_law_script", "_law_first", "_law_far", "_law_cells", "_law_k", "_law_many", "_law_names_here", "_law_items"] ["_law_cell"]).Nodup by decide +kernel) rfl (Or.inl rfl))) rfl) (fun C s H fp pn=>va) (fun C s H fp pn=>(ze h_law_row_by hr rfl (zB (zA 8) (zB (zA 6) zK))))) (zO (vw PassesOwn.never rfl (vv rfl z_range (yg yu xA rfl z_len yt (yW (zE (zA 6)) yX))) (ux (ym (i:=4) tq.nd rfl (Or.inl rfl)) rfl) (zN (E6 (qv 7) (ze h_law_mixed hr rfl (zB (zS zw zv (zA 2) (zS jV jT (zA 4) zG)) (zB (zA 4) (zB (zS zw zv (yg yu xA rfl z_len yt (yW (pP 7) yX)) zG) zK)))) (YE (zB zF (zB (zr (zn (zV hr)) zp (zA 6) (zA 4)) zK)) (yK (zJ (zJ yN)) (by decide)))))) (zN (YI 7))))))))))
noncomputable abbrev Vd:Stmt:=top 47
theorem YA:yQ ["_law_item", "_law_shape_here", "_law_words_here", "_law_k"] ["_law_item"] (zi Vd):=by ac_rfl
noncomputable def Yx:HT:=fun P w K mg base=>yZ P w K mg base "_law_item_text" ["_law_item"] 2 (yY K ue)
include X G z_range z_len z_int z_str h_law_shape in
theorem Bb (a:za K "_law_item_text" Vd):Yx P w K mg base:=(a.d1 X G).oS P w base 1 ue YA xC fun hr=>(zO (yA (zg (yc (yR hr)) yb (zE (zr (zn (zV hr)) zp (zA 0) zG)) (zE zF) (zj _)) (zN (zx (zS zw zv (zr (zn (zV hr)) zp (zA 0) zG) zF))) yJ) (zO (z_ (i:=1) YA.nd rfl (Or.inl rfl) (ze h_law_shape hr rfl (zB (zr (zn (zV hr)) zp (zA 0) zG) zK))) (zO (uc (i:=2) YA.nd rfl (Or.inl rfl) (yP (zB (zr (zn (zV hr)) zp (zA 0) zG) zK) (yK (zJ yN) (by decide)))) (zO (vw PassesOwn.never rfl (vv rfl z_range (yg yu xA rfl z_len yt (yW (zE (zA 1)) yX))) (ux (ym (i:=3) YA.nd rfl (Or.inl rfl)) rfl) (zN (uG (qv 2) (zr (zn (zV hr)) zp (yH (yP (zB (U4 TC Qs rfl z_str ZE (yW (zE (zr (zn (zV hr)) zp (zA 0) (zS zw zv (zA 3) zG))) yX)) (zB (zS zw zv zF (U4 TC Qs rfl z_str ZE (yW (zE (zr (zn (zV hr)) zp (zA 0) (zS zw zv (zA 3) zG))) yX))) zK)) (yK (zJ (zJ yN)) (by decide)))) (U4 OV BN rfl z_int ZD (yW (zE (wU (yc (yR hr)) yb (zE (zr (zn (zV hr)) zp (zA 1) (zA 3))) (zE zG) (zj _))) yX)))))) (ql 2 (zN (zx (YC zF (zE (zA 2))))))))))
noncomputable abbrev Vg:Stmt:=top 48
theorem pQ:yQ ["_law_line", "_law_cell", "_law_words_here", "_law_built", "_law_k", "_law_some"] ["_law_line", "_law_cell"] (zi Vg):=by ac_rfl
noncomputable def Y_:HT:=fun P w K mg base=>yZ P w K mg base "_law_loose" ["_law_line", "_law_cell"] 2 (yY K g6)
include X G z_range z_len h_law_mixed in
theorem Be (a:za K "_law_loose" Vg):Y_ P w K mg base:=(a.d2 X G).oS P w base 1 g6 pQ xC fun hr=>(zO (z_ (i:=2) pQ.nd rfl (Or.inl rfl) (yH (jh (zA 0) zF))) (zO (z_ (i:=3) pQ.nd rfl (Or.inl rfl) (zr (zn (zV hr)) zp (yH (yP (zB zF (zB zF (zB zF (zB zF zK)))) (yK (zJ (zJ (zJ (zJ yN)))) (by decide)))) (ze h_law_mixed hr rfl (zB (zA 1) (zB zG (zB zG zK)))))) (zO (vw PassesOwn.never rfl (vv rfl z_range (yg yu xA rfl z_len yt (yW (zE (zA 2)) yX))) (ux (ym (i:=4) pQ.nd rfl (Or.inl rfl)) rfl) (zN (z_ (i:=3) pQ.nd rfl (Or.inl rfl) (zS zw zv (zS zw zv (zA 3) (zr (zn (zV hr)) zp (zA 2) (zA 4))) (zr (zn (zV hr)) zp (yH (yP (zB zF (zB zF (zB zF (zB zF zK)))) (yK (zJ (zJ (zJ (zJ yN)))) (by decide)))) (ze h_law_mixed hr rfl (zB (zA 1) (zB (zS zw zv zG (zA 4)) (zB zG zK))))))))) (zO (yA (zg qd wm (zE (ze h_law_mixed hr rfl (zB (zA 1) (zB zG (zB zG zK))))) (zE zG) (zj _)) (zN (z_ (i:=3) pQ.nd rfl (Or.inl rfl) (Ck (zA 3) zF))) yJ) (zO (z_ (i:=5) pQ.nd rfl (Or.inl rfl) (yH (yP (zB zF (zB zF (zB zF (zB zF (zB zF (zB zF zK)))))) (yK (zJ (zJ (zJ (zJ (zJ (zJ yN)))))) (by decide))))) (zN (zx (zS zw zv (zA 3) (zr (zn (zV hr)) zp (zA 5) (ze h_law_mixed hr rfl (zB (zA 1) (zB zG (zB zG zK)))))))))))))
noncomputable abbrev Vf:Stmt:=top 49
theorem Vz:yQ ["_law_items", "_law_cell", "_law_lines_here", "_law_k"] ["_law_items", "_law_cell"] (zi Vf):=by ac_rfl
variable (h_law_loose:Y_ P w K mg base) (h_law_item_text:Yx P w K mg base)
noncomputable def Yz:HT:=fun P w K mg base=>yZ P w K mg base "_law_lines" ["_law_items", "_law_cell"] 3 (yY K j_)
include X G z_range z_len h_law_mixed h_law_loose h_law_item_text in
theorem Bd (a:za K "_law_lines" Vf):Yz P w K mg base:=(a.d2 X G).oS P w base 2 j_ Vz xC fun hr=>(zO (uc (i:=2) Vz.nd rfl (Or.inl rfl) (yP zK (yK yN (by decide)))) (zO (vw PassesOwn.never rfl (vv rfl z_range (yg yu xA rfl z_len yt (yW (zE (zA 0)) yX))) (ux (ym (i:=3) Vz.nd rfl (Or.inl rfl)) rfl) (zO (yA (zg (yc (yR hr)) yb (zE (ze h_law_mixed hr rfl (zB (zS zw zv (zA 1) (zA 3)) (zB zG (zB zG zK))))) (zE zG) (zj _)) (zN (uG (qv 2) (zr (zn (zV hr)) zp (yH (yP (zB zF (zB zF (zB zF (zB zF (zB zF (zB zF zK)))))) (yK (zJ (zJ (zJ (zJ (zJ (zJ yN)))))) (by decide)))) (ze h_law_mixed hr rfl (zB (zS zw zv (zA 1) (zA 3)) (zB zG (zB zG zK))))))) yJ) (zN (uG (qv 2) (ze h_law_loose hr rfl (zB (ze h_law_item_text hr rfl (zB (zr (zn (zV hr)) zp (zA 0) (zA 3)) zK)) (zB (zS zw zv (zA 1) (zS qf jU zG (zA 3))) zK))))))) (zN (YI 2))))
noncomputable abbrev Vp:Stmt:=top 50
theorem U0:yQ ["_law_cell", "_law_some"] ["_law_cell"] (zi Vp):=by ac_rfl
noncomputable def X8:HT:=fun P w K mg base=>yZ P w K mg base "_law_sign_by" ["_law_cell"] 1 (yY K gB)
include X G in
theorem Bo (a:za K "_law_sign_by" Vp):X8 P w K mg base:=(a.d1 X G).oS P w base 0 gB U0 xC fun hr=>(zO (z_ (i:=1) U0.nd rfl (Or.inl rfl) zF) (zO (z_ (i:=1) U0.nd rfl (Or.inl rfl) (zS zw zv (zA 1) zF)) (zN (zx (zr (zn (zV hr)) zp (zA 1) (zS uY uX (zA 0) zG))))))
noncomputable abbrev VZ:Stmt:=top 51
theorem vW:yQ ["_law_line", "_law_cell", "_law_names_here", "_law_words_here", "_law_word", "_law_at", "_law_some", "_law_way", "_law_spot"] ["_law_line", "_law_cell", "_law_names_here"] (zi VZ):=by ac_rfl
variable (h_law_sign_by:X8 P w K mg base)
noncomputable def Yt:HT:=fun P w K mg base=>yZ P w K mg base "_law_changed" ["_law_line", "_law_cell", "_law_names_here"] 2 (yY K kU)
include X G z_len h_law_mixed h_law_sign_by in
theorem BW (a:za K "_law_changed" VZ):Yt P w K mg base:=(a.d3 X G).oS P w base 1 kU vW xC fun hr=>(zO (UI (i:=3) rfl vW.nd rfl rfl (wJ (own:=["_law_word"]) rfl) rfl (vC (yH (jh (zA 0) zF))) (wy (fun C s H fp pn=>(ym (i:=9) (show (xY ["_law_line", "_law_cell", "_law_names_here", "_law_words_here", "_law_word", "_law_at", "_law_some", "_law_way", "_law_spot"] ["_law_word"]).Nodup by decide +kernel) rfl (Or.inl rfl))) rfl) (fun C s H fp pn=>(kM (zg (qg (yR hr)) qc (zE (zA 9)) (zE zF) (zj _)))) (fun C s H fp pn=>(zA 9))) (zO (yA (zg (yc (yR hr)) yb (zE (zA 3)) (zE (yH (yP zK (yK yN (by decide))))) (zj _)) (zN (z_ (i:=3) vW.nd rfl (Or.inl rfl) (yH (yP (zB zF zK) (yK (zJ yN) (by decide)))))) yJ) (zO (z_ (i:=5) vW.nd rfl (Or.inl rfl) (ze h_law_mixed hr rfl (zB (zA 1) (zB zG (zB (yg yu xA rfl z_len yt (yW (zE (zA 3)) yX)) zK))))) (zO (z_ (i:=6) vW.nd rfl (Or.inl rfl) (yH (yP (zB zF (zB zF (zB zF (zB zF (zB zF (zB zF (zB zF (zB zF (zB zF (zB zF (zB zF (zB zF (zB zF (zB zF (zB zF (zB zF zK)))))))))))))))) (yK (zJ (zJ (zJ (zJ (zJ (zJ (zJ (zJ (zJ (zJ (zJ (zJ (zJ (zJ (zJ (zJ yN)))))))))))))))) (by decide))))) (zO (z_ (i:=6) vW.nd rfl (Or.inl rfl) (zS zw zv (zA 6) (yH (yP (zB zF (zB zF (zB zF (zB zF (zB zF (zB zF (zB zF (zB zF (zB zF (zB zF (zB zF (zB zF (zB zF zK))))))))))))) (yK (zJ (zJ (zJ (zJ (zJ (zJ (zJ (zJ (zJ (zJ (zJ (zJ (zJ yN))))))))))))) (by decide)))))) (zO (z_ (i:=6) vW.nd rfl (Or.inl rfl) (zS zw zv (zS zw zv (zS zw zv (zA 6) (yH (yP (zB zF (zB zF zK)) (yK (zJ (zJ yN)) (by decide))))) (zA 2)) (yH (vQ rfl (wJ (own:=["_law_name"]) rfl) (vC (zA 2)) (wy (fun C s H fp pn=>(ym (i:=9) (show (xY ["_law_line", "_law_cell", "_law_names_here", "_law_words_here", "_law_word", "_law_at", "_law_some", "_law_way", "_law_spot"] ["_law_name"]).Nodup by decide +kernel) rfl (Or.inl rfl))) rfl) (fun C s H fp pn=>va) (fun C s H fp pn=>(zS zw zv (zA 9) zF)))))) (zO (z_ (i:=4) vW.nd rfl (Or.inl rfl) (zr (zn (zV hr)) zp (zA 6) (ze h_law_mixed hr rfl (zB (zA 1) (zB zG (zB (yg yu xA rfl z_len yt (yW (zE (zA 6)) yX)) zK)))))) (zO (yA (zg (yc (yR hr)) yb (zE (ze h_law_mixed hr rfl (zB (zA 1) (zB zG (zB zG zK))))) (zE zG) (zj _)) (zN (z_ (i:=4) vW.nd rfl (Or.inl rfl) (zr (zn (zV hr)) zp (yH (yP (zB (zS DE Bt zF zG) (zB (zS Qv Qq zF zG) (zB (zS zw zv zF (zS Qv Qq zF zG)) zK))) (yK (zJ (zJ (zJ yN))) (by decide)))) (ze h_law_mixed hr rfl (zB (zA 1) (zB zG (zB zG zK))))))) yJ) (zO (z_ (i:=7) vW.nd rfl (Or.inl rfl) (ze h_law_mixed hr rfl (zB (zA 1) (zB zG (zB zG zK))))) (zO (z_ (i:=8) vW.nd rfl (Or.inl rfl) (ze h_law_mixed hr rfl (zB (zA 1) (zB zG (zB (zS zw zv (yg yu xA rfl z_len yt (yW (zE (zA 0)) yX)) zG) zK))))) (zO (yA (zg (yc (yR hr)) yb (zE (zA 7)) (zE zG) (zj _)) (zN (z_ (i:=3) vW.nd rfl (Or.inl rfl) (zS zw zv (xb (zA 3) xo (xS (zA 5))) (xb (zA 3) (xS (zS zw zv (zA 5) zG)) xo)))) (zN (yA (zg (yc (yR hr)) yb (zE (zA 7)) (zE zG) (zj _)) (zN (z_ (i:=3) vW.nd rfl (Or.inl rfl) (zS zw zv (zS zw zv (xb (zA 3) xo (xS (zA 5))) (yH (yP (zB (zA 4) zK) (yK (zJ yN) (by decide))))) (xb (zA 3) (xS (zA 5)) xo)))) (zN (yA (zg qe wm (zE (zA 7)) (zE zG) (zj _)) (zN (z_ (i:=3) vW.nd rfl (Or.inl rfl) (zS zw zv (zS zw zv (xb (zA 3) xo (xS (zA 5))) (yH (yP (zB (zA 4) zK) (yK (zJ yN) (by decide))))) (xb (zA 3) (xS (zS zw zv (zA 5) zG)) xo)))) (zN (yA (zg (yc (yR hr)) yb (zE (zA 7)) (zE zG) (zj _)) (zN (zx (zS zw zv (zS zw zv (zA 0) zF) (zA 0)))) (zN (yA (zg (yc (yR hr)) yb (zE (zA 7)) (zE zG) (zj _)) (zN (zx (zS zw zv (zS zw zv (zA 0) zF) (zr (zn (zV hr)) zp (yH (yP (zB (zS zw zv (zA 4) zF) (zB (zS zw zv zF (zA 4)) zK)) (yK (zJ (zJ yN)) (by decide)))) (zS uY uX (zS jV jT (zA 1) zG) zG))))) (zN (zx (zS zw zv (zS zw zv (xb (zA 0) xo (xS (zA 8))) (ze h_law_sign_by hr rfl (zB (ze h_law_mixed hr rfl (zB (zA 1) (zB zG (zB zG zK)))) zK))) (xb (zA 0) (xS (zS zw zv (zA 8) (zS uY uX (zA 1) zG))) xo))))))))))))) (zN (zx (YC zF (zE (zA 3))))))))))))))))
noncomputable abbrev Vj:Stmt:=top 52
theorem CQ:yQ ["_law_word", "_law_kind"] ["_law_word", "_law_kind"] (zi Vj):=by ac_rfl
noncomputable def X2:HT:=fun P w K mg base=>yZ P w K mg base "_law_number" ["_law_word", "_law_kind"] 1 (yY K pj)
include X G z_len z_all z_int in
theorem Bh (a:za K "_law_number" Vj):X2 P w K mg base:=(a.d2 X G).oS P w base 0 pj CQ xC fun hr=>(zO (yA (w6 (uI (zg (yc (yR hr)) yb (zE (zA 0)) (zE zF) (zj _)) (uI (qm (xc (yg (gM rfl) gy rfl z_all gL (yW (zE (yH (vQ rfl (wJ (own:=["_law_sign"]) rfl) (vC (zA 0)) (wy (fun C s H fp pn=>(ym (i:=2) (show (xY ["_law_word", "_law_kind"] ["_law_sign"]).Nodup by decide +kernel) rfl (Or.inl rfl))) rfl) (fun C s H fp pn=>va) (fun C s H fp pn=>(wU (vA (zV hr)) v7 (zE (zA 2)) (zE zF) (by with_unfolding_all rfl)))))) yX)))) (uy (w6 (vS (zg qd wm (zE (yg yu xA rfl z_len yt (yW (zE (zA 0)) yX))) (zE zG) (zj _)) (uH (zg (yc (yR hr)) yb (zE (zr (zn (zV hr)) zp (zA 0) zG)) (zE zF) (zj _))))))))) (zN (zx vX)) yJ) (zN (zx (pS (wU qe wm (zE (yg yu xA rfl z_len yt (yW (zE (zA 0)) yX))) (zE zG) (zj _)) (jg (wU qe wm (zE (Jv rfl z_int (zB (zA 0) zK))) (zE (zA 1)) (zj _)))))))
noncomputable abbrev Vb:Stmt:=top 53
theorem CO:yQ ["_law_word"] ["_law_word"] (zi Vb):=by ac_rfl
noncomputable def Yv:HT:=fun P w K mg base=>yZ P w K mg base "_law_is_name" ["_law_word"] 1 (yY K qC)
include X G z_len z_all in
theorem BZ (a:za K "_law_is_name" Vb):Yv P w K mg base:=(a.d1 X G).oS P w base 0 qC CO xC fun hr=>(zO (yA (w6 (uI (zg qe wm (zE (yg yu xA rfl z_len yt (yW (zE (zA 0)) yX))) (zE zG) (zj _)) (uy (zg qd wm (zE (yg yu xA rfl z_len yt (yW (zE (zA 0)) yX))) (zE zG) (zj _))))) (zN (zx vX)) yJ) (zN (zx (yg (gM rfl) gy rfl z_all gL (yW (zE (yH (vQ rfl (wJ (own:=["_law_sign"]) rfl) (vC (zA 0)) (wy (fun C s H fp pn=>(ym (i:=1) (show (xY ["_law_word"] ["_law_sign"]).Nodup by decide +kernel) rfl (Or.inl rfl))) rfl) (fun C s H fp pn=>va) (fun C s H fp pn=>(wU (vA (zV hr)) v7 (zE (zA 1)) (zE zF) (by with_unfolding_all rfl)))))) yX)))))
noncomputable abbrev Vc:Stmt:=top 54
theorem qi:yQ ["_law_words_here", "_law_shape_here", "_law_k", "_law_word", "_law_fits"] ["_law_words_here"] (zi Vc):=by ac_rfl
variable (h_law_is_name:Yv P w K mg base) (h_law_number:X2 P w K mg base)
noncomputable def Yw:HT:=fun P w K mg base=>yZ P w K mg base "_law_is_row" ["_law_words_here"] 2 (yY K vz)
include X G z_len z_range h_law_words h_law_shape h_law_is_name h_law_number in
theorem Ba (a:za K "_law_is_row" Vc):Yw P w K mg base:=(a.d1 X G).oS P w base 1 vz qi xC fun hr=>(zO (yA (zg (Zu (zV hr)) Zt (zE (zr (zn (zV hr)) zp (zA 0) zG)) (zE (Jt h_law_words hr rfl)) (by with_unfolding_all rfl)) (zN (zx vX)) yJ) (zO (z_ (i:=1) qi.nd rfl (Or.inl rfl) (ze h_law_shape hr rfl (zB (zr (zn (zV hr)) zp (zA 0) zG) zK))) (zO (yA (zg (qg (yR hr)) qc (zE (yg yu xA rfl z_len yt (yW (zE (zA 0)) yX))) (zE (zS zw zv (yg yu xA rfl z_len yt (yW (zE (zA 1)) yX)) zG)) (zj _)) (zN (zx vX)) yJ) (zO (vw PassesOwn.never rfl (vv rfl z_range (yg yu xA rfl z_len yt (yW (zE (zA 1)) yX))) (ux (ym (i:=2) qi.nd rfl (Or.inl rfl)) rfl) (zO (z_ (i:=3) qi.nd rfl (Or.inl rfl) (zr (zn (zV hr)) zp (zA 0) (zS zw zv (zA 2) zG))) (zO (yA (zg (yc (yR hr)) yb (zE (zr (zn (zV hr)) zp (zA 1) (zA 2))) (zE zF) (zj _)) (zN (z_ (i:=4) qi.nd rfl (Or.inl rfl) (ze h_law_is_name hr rfl (zB (zA 3) zK)))) (zN (yA (zg (yc (yR hr)) yb (zE (zr (zn (zV hr)) zp (zA 1) (zA 2))) (zE zF) (zj _)) (zN (z_ (i:=4) qi.nd rfl (Or.inl rfl) (wU (vA (zV hr)) v7 (zE (zA 3)) (zE (yH (yP (zB zF (zB zF (zB zF zK))) (yK (zJ (zJ (zJ yN))) (by decide))))) (by with_unfolding_all rfl)))) (zN (yA (zg (yc (yR hr)) yb (zE (zr (zn (zV hr)) zp (zA 1) (zA 2))) (zE zG) (zj _)) (zN (z_ (i:=4) qi.nd rfl (Or.inl rfl) (pS (wU (yc (yR hr)) yb (zE (xb (zA 3) xo (xS zG))) (zE zF) (zj _)) (jg (ze h_law_number hr rfl (zB (xb (zA 3) (xS zG) xo) (zB zG zK))))))) (zN (z_ (i:=4) qi.nd rfl (Or.inl rfl) (ze h_law_number hr rfl (zB (zA 3) (zB (zr (zn (zV hr)) zp (zA 1) (zA 2)) zK)))))))))) (zN (yA (qm (xc (zA 4))) (zN (zx vX)) yJ))))) (zN (zx vX))))))
noncomputable abbrev Va:Stmt:=top 55
theorem tm:yQ ["_law_text", "_law_rows", "_law_line", "_law_labels", "_law_words_here", "_law_seen", "_law_number_here"] ["_law_text"] (zi Va):=by ac_rfl
variable (h_law_is_row:Yw P w K mg base)
noncomputable def Yu:HT:=fun P w K mg base=>yZ P w K mg base "_law_due" ["_law_text"] 3 (yY K pf)
include X G z_len z_range h_law_is_name h_law_is_row in
theorem BY (a:za K "_law_due" Va):Yu P w K mg base:=(a.d1 X G).oS P w base 2 pf tm xC fun hr=>(zO (uc (i:=1) tm.nd rfl (Or.inl rfl) (yP zK (yK yN (by decide)))) (zO (vw PassesOwn.never rfl (vC (yH (jh (zA 0) zF))) (ux (ym (i:=2) tm.nd rfl (Or.inl rfl)) rfl) (zO (z_ (i:=2) tm.nd rfl (Or.inl rfl) (Ca (zA 2) (zS zw zv (zA 2) zF) zF (by decide))) (zN (uG (qv 1) (yH (vQ rfl (wJ (own:=["_law_word"]) rfl) (vC (yH (jh (zA 2) zF))) (wy (fun C s H fp pn=>(ym (i:=7) (show (xY ["_law_text", "_law_rows", "_law_line", "_law_labels", "_law_words_here", "_law_seen", "_law_number_here"] ["_law_word"]).Nodup by decide +kernel) rfl (Or.inl rfl))) rfl) (fun C s H fp pn=>(kM (zg (qg (yR hr)) qc (zE (zA 7)) (zE zF) (zj _)))) (fun C s H fp pn=>(zA 7)))))))) (ql 1 (zO (uc (i:=3) tm.nd rfl (Or.inl rfl) (yP zK (yK yN (by decide)))) (zO (vw PassesOwn.never rfl (vC (zA 1)) (ux (ym (i:=4) tm.nd rfl (Or.inl rfl)) rfl) (zN (yA (w6 (vS (zg (yc (yR hr)) yb (zE (yg yu xA rfl z_len yt (yW (zE (zA 4)) yX))) (zE zG) (zj _)) (vS (zg (yc (yR hr)) yb (zE (zr (zn (zV hr)) zp (zr (zn (zV hr)) zp (zA 4) zG) (uw u_ uz zG))) (zE zF) (zj _)) (uH (xc (ze h_law_is_name hr rfl (zB (xb (zr (zn (zV hr)) zp (zA 4) zG) xo (xS (uw u_ uz zG))) zK))))))) (zN (uG (qv 3) (xb (zr (zn (zV hr)) zp (zA 4) zG) xo (xS (uw u_ uz zG))))) yJ))) (ql 3 (zO (uc (i:=5) tm.nd rfl (Or.inl rfl) (yP zK (yK yN (by decide)))) (zO (vw PassesOwn.never rfl (vv rfl z_range (yg yu xA rfl z_len yt (yW (zE (zA 1)) yX))) (ux (ym (i:=6) tm.nd rfl (Or.inl rfl)) rfl) (zO (z_ (i:=4) tm.nd rfl (Or.inl rfl) (zr (zn (zV hr)) zp (zA 1) (zA 6))) (zN (yA (w6 (vS (zg (yc (yR hr)) yb (zE (yg yu xA rfl z_len yt (yW (zE (zA 4)) yX))) (zE zG) (zj _)) (vS (zg (yc (yR hr)) yb (zE (zr (zn (zV hr)) zp (zr (zn (zV hr)) zp (zA 4) zG) (uw u_ uz zG))) (zE zF) (zj _)) (uH (xc (ze h_law_is_name hr rfl (zB (xb (zr (zn (zV hr)) zp (zA 4) zG) xo (xS (uw u_ uz zG))) zK))))))) (zO (yA (zg (vA (zV hr)) v7 (zE (xb (zr (zn (zV hr)) zp (zA 4) zG) xo (xS (uw u_ uz zG)))) (pP 5) (by with_unfolding_all rfl)) (zN (zx (zA 6))) yJ) (zN (uG (qv 5) (xb (zr (zn (zV hr)) zp (zA 4) zG) xo (xS (uw u_ uz zG)))))) (zN (yA (w6 (vS (zg qd wm (zE (yg yu xA rfl z_len yt (yW (zE (zA 4)) yX))) (zE zG) (zj _)) (uH (qm (xc (ze h_law_is_row hr rfl (zB (zA 4) zK))))))) (zN (zx (zA 6))) (zN (yA (w6 (vS (zg qd wm (zE (yg yu xA rfl z_len yt (yW (zE (zA 4)) yX))) (zE zG) (zj _)) (vS (zg (vA (zV hr)) v7 (zE (zr (zn (zV hr)) zp (zA 4) zG)) (zE (yH (yP (zB zF (zB zF (zB zF zK))) (yK (zJ (zJ (zJ yN))) (by decide))))) (by with_unfolding_all rfl)) (uH (zg (Zu (zV hr)) Zt (zE (zr (zn (zV hr)) zp (zA 4) (uw u_ uz zG))) (zE (zA 3)) (by with_unfolding_all rfl)))))) (zN (zx (zA 6))) yJ)))))))) (ql 5 (zN (zx vY)))))))))))
noncomputable abbrev Vm:Stmt:=top 56
theorem Jp:yQ ["_law_text", "_law_e"] ["_law_text"] (zi Vm):=by ac_rfl
variable (c_RunError:xh K mg "RunError" C_RunError) (c_BadText:xh K mg "BadText" C_BadText) (y_BadText:PySem.W.nsIn K mainGlobals "BadText" = some (some (.ref C_BadText))) (m_BadText_RunError:PySem.W.exmOne K (.ref C_BadText) (.ref C_RunError)=some true) (h_read:p_ P w K mg base "read" ["text"] 6 (YF K mg pq)) (h_law_class:pz P w K mg base "_law_class" ["_law_e"] 1 (yY K jz))
noncomputable def X5:HT:=fun P w K mg base=>yZ P w K mg base "_law_read" ["_law_text"] 8 (yY K qE)
include X G c_RunError c_BadText y_BadText m_BadText_RunError h_read h_law_class in
theorem Bk (a:za K "_law_read" Vm):X5 P w K mg base:=(a.d1 X G).oS P w base 7 qE Jp xC fun hr=>(zO (E9 (i:=1) rfl rfl rfl hr c_RunError.at_ rfl c_BadText.at_ y_BadText m_BadText_RunError Jp.nd rfl rfl (EC rfl h_read hr rfl (zB (zA 0) zK)) (fun a=>(zN (zx (CZ h_law_class (hr.marked _) rfl (zB (zA 1) zK)))))) (zN (zx zF)))
noncomputable abbrev pO:Stmt:=top 57
theorem uv:yQ ["_law_script", "_law_items", "_law_names_here", "_law_lines_here", "_law_cell", "_law_k", "_law_at", "_law_text", "_law_due_here", "_law_found"] ["_law_script"] (zi pO):=by ac_rfl
variable (h_law_program:X4 P w K mg base) (h_law_lines:Yz P w K mg base) (h_law_changed:Yt P w K mg base) (h_law_due:Yu P w K mg base) (h_fault:Yj P w K mg base) (h_law_read:X5 P w K mg base) (h_law_whole:X9 P w K mg base)
include z_range z_len h_law_program h_law_lines h_law_cell_at h_law_mixed h_law_changed h_law_due h_fault h_law_read h_law_whole in
theorem BU {f:Addr} {fd:FuncData} (d:qF K "law" "law" pO f fd):ve P w K mg base wu 10 f fd ["_law_script"] (kI K):=Mi d uv (by decide) C9 fun cdv A outer s H E hr=>(zO (z_ (i:=1) uv.nd rfl (Or.inl rfl) (xb (ze h_law_program hr rfl (zB (zA 0) (zB zG zK))) xo (xS zG))) (zO (UI (i:=2) rfl uv.nd rfl rfl (wJ (own:=["_law_item"]) rfl) rfl (vC (zA 1)) (wy (fun C s H fp pn=>(ym (i:=10) (show (xY ["_law_script", "_law_items", "_law_names_here", "_law_lines_here", "_law_cell", "_law_k", "_law_at", "_law_text", "_law_due_here", "_law_found"] ["_law_item"]).Nodup by decide +kernel) rfl (Or.inl rfl))) rfl) (fun C s H fp pn=>(kM (zg (yc (yR hr)) yb (zE (zr (zn (zV hr)) zp (zA 10) zG)) (zE zF) (zj _)))) (fun C s H fp pn=>(zr (zn (zV hr)) zp (zA 10) zG))) (zO (uc (i:=3) uv.nd rfl (Or.inl rfl) (Cn h_law_lines hr rfl (zB (zA 1) (zB (ze h_law_cell_at hr rfl (zB (zA 0) (zB zG zK))) zK)))) (zO (z_ (i:=4) uv.nd rfl (Or.inl rfl) (ze h_law_cell_at hr rfl (zB (zA 0) (zB zG zK)))) (zO (vw PassesOwn.never rfl (vv rfl z_range (zr (zn (zV hr)) zp (yH (yP (Y9 (is:=[0,1,1,1,1,1,1,2,2,2]) rfl) (yK (Z2 (n:=10) (by decide)) (by decide)))) (ze h_law_mixed hr rfl (zB (zA 4) (zB zG (zB zG zK)))))) (ux (ym (i:=5) uv.nd rfl (Or.inl rfl)) rfl) (zN (yA (zg qd wm (zE (yg yu xA rfl z_len yt (yW (pP 3) yX))) (zE zG) (zj _)) (zO (z_ (i:=6) uv.nd rfl (Or.inl rfl) (ze h_law_mixed hr rfl (zB (zS zw zv (zA 4) (zA 5)) (zB zG (zB (yg yu xA rfl z_len yt (yW (pP 3) yX)) zK))))) (zN (E8 (qv 3) (zA 6) (ze h_law_changed hr rfl (zB (Cg (zV hr) (qv 3) (zA 6)) (zB (zS zw zv (zS jV jT (zA 4) zG) (zS qf jU zG (zA 5))) (zB (zA 2) zK))))))) yJ))) (ql 3 (zO (z_ (i:=7) uv.nd rfl (Or.inl rfl) (xb (YC zF (zE (zA 3))) xo (xS zG))) (zO (z_ (i:=8) uv.nd rfl (Or.inl rfl) (ze h_law_due hr rfl (zB (zA 7) zK))) (zO (z_ (i:=9) uv.nd rfl (Or.inl rfl) (ze h_fault hr rfl (zB (zA 7) zK))) (zO (yA (zg V0 Wy (zE (zA 8)) (zE vY) (zj _)) (zN (zx (pS (wU V0 Wy (zE (zA 9)) (zE vY) (zj _)) (jg (wU (yc (yR hr)) yb (zE (ze h_law_read hr rfl (zB (zA 7) zK))) (zE zF) (zj _)))))) yJ) (zN (zx (pS (ze h_law_whole hr rfl (zB (zA 9) zK)) (pS (wU (yc (yR hr)) yb (zE (zA 9)) (zE (zA 8)) (zj _)) (jg (wU (yc (yR hr)) yb (zE (ze h_law_read hr rfl (zB (zA 7) zK))) (zE zF) (zj _)))))))))))))))))
end
end
theorem all_mk {l:PySem.W.OpenLaw} {w:World} {K:PySem.W.Frag} {h:Heap} {mg:Str->Option Value} {fa:Addr} (X:K.In h) (G:h.Ns mainGlobals mg) (hfa:mg "law" = some (.ref fa))
  {f36:Addr} {od36 an36:Option Addr} {sl36:Array (Option Value)} {oc36 kV36 dc36 pm36 cd36 ct36:Value}
  (a0:za K "is_number" VW)
  (a1:za K "is_name" VU)
  (a2:za K "fits" VP)
  (a3:za K "is_item" VQ)
  (a4:za K "is_label" VS)
  (a5:za K "is_jump" VR)
  (a6:za K "words_in" Vw)
  (a7:za K "number_told" Vt)
  (a8:za K "field_told" VO)
  (a9:za K "row_told" Vu)
  (a10:za K "item_told" VX)
  (a11:za K "told_rows" Vv)
  (a12:za K "least_fault" Vs)
  (a13:za K "fault" VN)
  (a14:za K "read" Y8)
  (a15:za K "_law_cell_at" VY)
  (a16:za K "_law_whole" Vq)
  (a17:za K "_law_mixed" Vh)
  (a18:za K "_law_class" Y7)
  (a19:za K "_law_letter" Ve)
  (a20:za K "_law_names" Vi)
  (a21:za K "_law_shape" Vo)
  (a22:za K "_law_words" Vr)
  (a23:za K "_law_part_by" Vk)
  (a24:za K "_law_row_by" Vn)
  (a25:za K "_law_program" Vl)
  (a26:za K "_law_item_text" Vd)
  (a27:za K "_law_loose" Vg)
  (a28:za K "_law_lines" Vf)
  (a29:za K "_law_sign_by" Vp)
  (a30:za K "_law_changed" VZ)
  (a31:za K "_law_number" Vj)
  (a32:za K "_law_is_name" Vb)
  (a33:za K "_law_is_row" Vc)
  (a34:za K "_law_due" Va)
  (a35:za K "_law_read" Vm)
  (a36:PySem.W.nsIn K mainGlobals "law" = some (some (.ref f36)))
  (l36:K.lookup f36=Tw "law" pO oc36 od36 sl36 kV36 dc36 pm36 an36 cd36 ct36)
  (c36:PySem.W.codeIn K cd36 "law" = true) (k36:PySem.W.keepIn K (.ref f36)=true)
  (nz_isinstance:PySem.W.nsIn K mainGlobals "isinstance" = some none)
  (nz_int:PySem.W.nsIn K mainGlobals "int" = some none)
  (nz_bool:PySem.W.nsIn K mainGlobals "bool" = some none)
  (nz_str:PySem.W.nsIn K mainGlobals "str" = some none)
  (nz_len:PySem.W.nsIn K mainGlobals "len" = some none)
  (nz_all:PySem.W.nsIn K mainGlobals "all" = some none)
  (nz_tuple:PySem.W.nsIn K mainGlobals "tuple" = some none)
  (nz_zip:PySem.W.nsIn K mainGlobals "zip" = some none)
  (nz_enumerate:PySem.W.nsIn K mainGlobals "enumerate" = some none)
  (nz_ValueError:PySem.W.nsIn K mainGlobals "ValueError" = some none)
  (nz_range:PySem.W.nsIn K mainGlobals "range" = some none)
  {tg_NAME_LONGEST:Tok} (ng_NAME_LONGEST:PySem.W.nsIn K mainGlobals "NAME_LONGEST" = some (some (.int 8 tg_NAME_LONGEST)))
  {tg_LETTERS:Tok} (ng_LETTERS:PySem.W.nsIn K mainGlobals "LETTERS" = some (some (.str "abcdefghijklmnopqrstuvwxyz" tg_LETTERS)))
  {A_MARKS:Addr} {n_MARKS:Nat} {sl_MARKS:Array (Option Value)} {u0_MARKS u1_MARKS u2_MARKS:Tok} (ng_MARKS:PySem.W.nsIn K mainGlobals "MARKS" = some (some (.ref A_MARKS)))
  (nq_MARKS:K.lookup A_MARKS=some ⟨.type "tuple",none,.seq #[.str "carry" u0_MARKS,.str "nought" u1_MARKS,.str "sign" u2_MARKS] n_MARKS,sl_MARKS⟩)
  {A_NUMBER_WIDTHS:Addr} {n_NUMBER_WIDTHS:Nat} (ng_NUMBER_WIDTHS:PySem.W.nsIn K mainGlobals "NUMBER_WIDTHS" = some (some (.ref A_NUMBER_WIDTHS)))
  {tk0_NUMBER_WIDTHS:Tok}
  {tv0_NUMBER_WIDTHS:Tok}
  {tk1_NUMBER_WIDTHS:Tok}
  {tv1_NUMBER_WIDTHS:Tok}
  {tk2_NUMBER_WIDTHS:Tok}
  {tv2_NUMBER_WIDTHS:Tok}
  {tk3_NUMBER_WIDTHS:Tok}
  {tv3_NUMBER_WIDTHS:Tok}
  {tk4_NUMBER_WIDTHS:Tok}
  {tv4_NUMBER_WIDTHS:Tok}
  {tk5_NUMBER_WIDTHS:Tok}
  {tv5_NUMBER_WIDTHS:Tok}
  {tk6_NUMBER_WIDTHS:Tok}
  {tv6_NUMBER_WIDTHS:Tok}
  {tk7_NUMBER_WIDTHS:Tok}
  {tv7_NUMBER_WIDTHS:Tok}
  (nq_NUMBER_WIDTHS:K.lookup A_NUMBER_WIDTHS=some { cls:=.type "dict",data:=.dict #[⟨PyData.keyHash w.params "set",.str "set" tk0_NUMBER_WIDTHS,.int 16 tv0_NUMBER_WIDTHS⟩,⟨PyData.keyHash w.params "high",.str "high" tk1_NUMBER_WIDTHS,.int 16 tv1_NUMBER_WIDTHS⟩,⟨PyData.keyHash w.params "left",.str "left" tk2_NUMBER_WIDTHS,.int 5 tv2_NUMBER_WIDTHS⟩,⟨PyData.keyHash w.params "right",.str "right" tk3_NUMBER_WIDTHS,.int 5 tv3_NUMBER_WIDTHS⟩,⟨PyData.keyHash w.params "load",.str "load" tk4_NUMBER_WIDTHS,.int 8 tv4_NUMBER_WIDTHS⟩,⟨PyData.keyHash w.params "store",.str "store" tk5_NUMBER_WIDTHS,.int 8 tv5_NUMBER_WIDTHS⟩,⟨PyData.keyHash w.params "loadw",.str "loadw" tk6_NUMBER_WIDTHS,.int 8 tv6_NUMBER_WIDTHS⟩,⟨PyData.keyHash w.params "storew",.str "storew" tk7_NUMBER_WIDTHS,.int 8 tv7_NUMBER_WIDTHS⟩] n_NUMBER_WIDTHS }) (ns_NUMBER_WIDTHS:(A_NUMBER_WIDTHS == sysModules)=false)
  {A_PLACES:Addr} {n_PLACES:Nat} (ng_PLACES:PySem.W.nsIn K mainGlobals "PLACES" = some (some (.ref A_PLACES)))
  {tk0_PLACES:Tok}
  {A0_PLACES:Addr} {d0_PLACES:Option Addr} {n0_PLACES:Nat} {sl0_PLACES:Array (Option Value)}
  {w0_0_PLACES w0_1_PLACES:Tok}
  {tk1_PLACES:Tok}
  {A1_PLACES:Addr} {d1_PLACES:Option Addr} {n1_PLACES:Nat} {sl1_PLACES:Array (Option Value)}
  {w1_0_PLACES w1_1_PLACES:Tok}
  {tk2_PLACES:Tok}
  {A2_PLACES:Addr} {d2_PLACES:Option Addr} {n2_PLACES:Nat} {sl2_PLACES:Array (Option Value)}
  {w2_0_PLACES w2_1_PLACES:Tok}
  {tk3_PLACES:Tok}
  {A3_PLACES:Addr} {d3_PLACES:Option Addr} {n3_PLACES:Nat} {sl3_PLACES:Array (Option Value)}
  {w3_0_PLACES w3_1_PLACES:Tok}
  {tk4_PLACES:Tok}
  {A4_PLACES:Addr} {d4_PLACES:Option Addr} {n4_PLACES:Nat} {sl4_PLACES:Array (Option Value)}
  {w4_0_PLACES w4_1_PLACES:Tok}
  (nq_PLACES:K.lookup A_PLACES=some { cls:=.type "dict",data:=.dict #[⟨PyData.keyHash w.params "kind",.str "kind" tk0_PLACES,.ref A0_PLACES⟩,⟨PyData.keyHash w.params "d",.str "d" tk1_PLACES,.ref A1_PLACES⟩,⟨PyData.keyHash w.params "s",.str "s" tk2_PLACES,.ref A2_PLACES⟩,⟨PyData.keyHash w.params "mark",.str "mark" tk3_PLACES,.ref A3_PLACES⟩,⟨PyData.keyHash w.params "distance",.str "distance" tk4_PLACES,.ref A4_PLACES⟩] n_PLACES }) (ns_PLACES:(A_PLACES == sysModules)=false)
  (nt0_PLACES:K.lookup A0_PLACES=some ⟨.type "tuple",d0_PLACES,.seq #[.int 27 w0_0_PLACES,.int 5 w0_1_PLACES] n0_PLACES,sl0_PLACES⟩)
  (nt1_PLACES:K.lookup A1_PLACES=some ⟨.type "tuple",d1_PLACES,.seq #[.int 24 w1_0_PLACES,.int 3 w1_1_PLACES] n1_PLACES,sl1_PLACES⟩)
  (nt2_PLACES:K.lookup A2_PLACES=some ⟨.type "tuple",d2_PLACES,.seq #[.int 21 w2_0_PLACES,.int 3 w2_1_PLACES] n2_PLACES,sl2_PLACES⟩)
  (nt3_PLACES:K.lookup A3_PLACES=some ⟨.type "tuple",d3_PLACES,.seq #[.int 24 w3_0_PLACES,.int 2 w3_1_PLACES] n3_PLACES,sl3_PLACES⟩)
  (nt4_PLACES:K.lookup A4_PLACES=some ⟨.type "tuple",d4_PLACES,.seq #[.int 0 w4_0_PLACES,.int 5 w4_1_PLACES] n4_PLACES,sl4_PLACES⟩)
  {A_FIELDS:Addr} {n_FIELDS:Nat} (ng_FIELDS:PySem.W.nsIn K mainGlobals "FIELDS" = some (some (.ref A_FIELDS)))
  {tk0_FIELDS:Tok}
  {A0_FIELDS:Addr} {d0_FIELDS:Option Addr} {n0_FIELDS:Nat} {sl0_FIELDS:Array (Option Value)}
  {w0_0_FIELDS:Tok}
  {tk1_FIELDS:Tok}
  {A1_FIELDS:Addr} {d1_FIELDS:Option Addr} {n1_FIELDS:Nat} {sl1_FIELDS:Array (Option Value)}
  {w1_0_FIELDS w1_1_FIELDS:Tok}
  {tk2_FIELDS:Tok}
  {A2_FIELDS:Addr} {d2_FIELDS:Option Addr} {n2_FIELDS:Nat} {sl2_FIELDS:Array (Option Value)}
  {w2_0_FIELDS w2_1_FIELDS:Tok}
  {tk3_FIELDS:Tok}
  {A3_FIELDS:Addr} {d3_FIELDS:Option Addr} {n3_FIELDS:Nat} {sl3_FIELDS:Array (Option Value)}
  {w3_0_FIELDS w3_1_FIELDS:Tok}
  {tk4_FIELDS:Tok}
  {A4_FIELDS:Addr} {d4_FIELDS:Option Addr} {n4_FIELDS:Nat} {sl4_FIELDS:Array (Option Value)}
  {w4_0_FIELDS w4_1_FIELDS:Tok}
  {tk5_FIELDS:Tok}
  {A5_FIELDS:Addr} {d5_FIELDS:Option Addr} {n5_FIELDS:Nat} {sl5_FIELDS:Array (Option Value)}
  {w5_0_FIELDS w5_1_FIELDS:Tok}
  {tk6_FIELDS:Tok}
  {A6_FIELDS:Addr} {d6_FIELDS:Option Addr} {n6_FIELDS:Nat} {sl6_FIELDS:Array (Option Value)}
  {w6_0_FIELDS w6_1_FIELDS:Tok}
  {tk7_FIELDS:Tok}
  {A7_FIELDS:Addr} {d7_FIELDS:Option Addr} {n7_FIELDS:Nat} {sl7_FIELDS:Array (Option Value)}
  {w7_0_FIELDS w7_1_FIELDS:Tok}
  {tk8_FIELDS:Tok}
  {A8_FIELDS:Addr} {d8_FIELDS:Option Addr} {n8_FIELDS:Nat} {sl8_FIELDS:Array (Option Value)}
  {w8_0_FIELDS w8_1_FIELDS:Tok}
  {tk9_FIELDS:Tok}
  {A9_FIELDS:Addr} {d9_FIELDS:Option Addr} {n9_FIELDS:Nat} {sl9_FIELDS:Array (Option Value)}
  {w9_0_FIELDS w9_1_FIELDS:Tok}
  {tk10_FIELDS:Tok}
  {A10_FIELDS:Addr} {d10_FIELDS:Option Addr} {n10_FIELDS:Nat} {sl10_FIELDS:Array (Option Value)}
  {w10_0_FIELDS w10_1_FIELDS:Tok}
  {tk11_FIELDS:Tok}
  {A11_FIELDS:Addr} {d11_FIELDS:Option Addr} {n11_FIELDS:Nat} {sl11_FIELDS:Array (Option Value)}
  {w11_0_FIELDS w11_1_FIELDS:Tok}
  {tk12_FIELDS:Tok}
  {A12_FIELDS:Addr} {d12_FIELDS:Option Addr} {n12_FIELDS:Nat} {sl12_FIELDS:Array (Option Value)}
  {w12_0_FIELDS w12_1_FIELDS:Tok}
  {tk13_FIELDS:Tok}
  {A13_FIELDS:Addr} {d13_FIELDS:Option Addr} {n13_FIELDS:Nat} {sl13_FIELDS:Array (Option Value)}
  {w13_0_FIELDS w13_1_FIELDS:Tok}
  {tk14_FIELDS:Tok}
  {A14_FIELDS:Addr} {d14_FIELDS:Option Addr} {n14_FIELDS:Nat} {sl14_FIELDS:Array (Option Value)}
  {w14_0_FIELDS w14_1_FIELDS w14_2_FIELDS:Tok}
  {tk15_FIELDS:Tok}
  {A15_FIELDS:Addr} {d15_FIELDS:Option Addr} {n15_FIELDS:Nat} {sl15_FIELDS:Array (Option Value)}
  {w15_0_FIELDS w15_1_FIELDS w15_2_FIELDS:Tok}
  {tk16_FIELDS:Tok}
  {A16_FIELDS:Addr} {d16_FIELDS:Option Addr} {n16_FIELDS:Nat} {sl16_FIELDS:Array (Option Value)}
  {w16_0_FIELDS w16_1_FIELDS w16_2_FIELDS:Tok}
  {tk17_FIELDS:Tok}
  {A17_FIELDS:Addr} {d17_FIELDS:Option Addr} {n17_FIELDS:Nat} {sl17_FIELDS:Array (Option Value)}
  {w17_0_FIELDS w17_1_FIELDS w17_2_FIELDS:Tok}
  {tk18_FIELDS:Tok}
  {A18_FIELDS:Addr} {d18_FIELDS:Option Addr} {n18_FIELDS:Nat} {sl18_FIELDS:Array (Option Value)}
  {w18_0_FIELDS:Tok}
  {tk19_FIELDS:Tok}
  {A19_FIELDS:Addr} {d19_FIELDS:Option Addr} {n19_FIELDS:Nat} {sl19_FIELDS:Array (Option Value)}
  {w19_0_FIELDS w19_1_FIELDS:Tok}
  {tk20_FIELDS:Tok}
  {A20_FIELDS:Addr} {d20_FIELDS:Option Addr} {n20_FIELDS:Nat} {sl20_FIELDS:Array (Option Value)}
  {w20_0_FIELDS w20_1_FIELDS:Tok}
  {tk21_FIELDS:Tok}
  {A21_FIELDS:Addr} {d21_FIELDS:Option Addr} {n21_FIELDS:Nat} {sl21_FIELDS:Array (Option Value)}
  (nq_FIELDS:K.lookup A_FIELDS=some { cls:=.type "dict",data:=.dict #[⟨PyData.keyHash w.params "label",.str "label" tk0_FIELDS,.ref A0_FIELDS⟩,⟨PyData.keyHash w.params "set",.str "set" tk1_FIELDS,.ref A1_FIELDS⟩,⟨PyData.keyHash w.params "high",.str "high" tk2_FIELDS,.ref A2_FIELDS⟩,⟨PyData.keyHash w.params "copy",.str "copy" tk3_FIELDS,.ref A3_FIELDS⟩,⟨PyData.keyHash w.params "add",.str "add" tk4_FIELDS,.ref A4_FIELDS⟩,⟨PyData.keyHash w.params "addc",.str "addc" tk5_FIELDS,.ref A5_FIELDS⟩,⟨PyData.keyHash w.params "sub",.str "sub" tk6_FIELDS,.ref A6_FIELDS⟩,⟨PyData.keyHash w.params "subc",.str "subc" tk7_FIELDS,.ref A7_FIELDS⟩,⟨PyData.keyHash w.params "and",.str "and" tk8_FIELDS,.ref A8_FIELDS⟩,⟨PyData.keyHash w.params "or",.str "or" tk9_FIELDS,.ref A9_FIELDS⟩,⟨PyData.keyHash w.params "xor",.str "xor" tk10_FIELDS,.ref A10_FIELDS⟩,⟨PyData.keyHash w.params "test",.str "test" tk11_FIELDS,.ref A11_FIELDS⟩,⟨PyData.keyHash w.params "left",.str "left" tk12_FIELDS,.ref A12_FIELDS⟩,⟨PyData.keyHash w.params "right",.str "right" tk13_FIELDS,.ref A13_FIELDS⟩,⟨PyData.keyHash w.params "load",.str "load" tk14_FIELDS,.ref A14_FIELDS⟩,⟨PyData.keyHash w.params "store",.str "store" tk15_FIELDS,.ref A15_FIELDS⟩,⟨PyData.keyHash w.params "loadw",.str "loadw" tk16_FIELDS,.ref A16_FIELDS⟩,⟨PyData.keyHash w.params "storew",.str "storew" tk17_FIELDS,.ref A17_FIELDS⟩,⟨PyData.keyHash w.params "jump",.str "jump" tk18_FIELDS,.ref A18_FIELDS⟩,⟨PyData.keyHash w.params "when",.str "when" tk19_FIELDS,.ref A19_FIELDS⟩,⟨PyData.keyHash w.params "unless",.str "unless" tk20_FIELDS,.ref A20_FIELDS⟩,⟨PyData.keyHash w.params "stop",.str "stop" tk21_FIELDS,.ref A21_FIELDS⟩] n_FIELDS }) (ns_FIELDS:(A_FIELDS == sysModules)=false)
  (nt0_FIELDS:K.lookup A0_FIELDS=some ⟨.type "tuple",d0_FIELDS,.seq #[.str "name" w0_0_FIELDS] n0_FIELDS,sl0_FIELDS⟩)
  (nt1_FIELDS:K.lookup A1_FIELDS=some ⟨.type "tuple",d1_FIELDS,.seq #[.str "d" w1_0_FIELDS,.str "n" w1_1_FIELDS] n1_FIELDS,sl1_FIELDS⟩)
  (nt2_FIELDS:K.lookup A2_FIELDS=some ⟨.type "tuple",d2_FIELDS,.seq #[.str "d" w2_0_FIELDS,.str "n" w2_1_FIELDS] n2_FIELDS,sl2_FIELDS⟩)
  (nt3_FIELDS:K.lookup A3_FIELDS=some ⟨.type "tuple",d3_FIELDS,.seq #[.str "d" w3_0_FIELDS,.str "s" w3_1_FIELDS] n3_FIELDS,sl3_FIELDS⟩)
  (nt4_FIELDS:K.lookup A4_FIELDS=some ⟨.type "tuple",d4_FIELDS,.seq #[.str "d" w4_0_FIELDS,.str "s" w4_1_FIELDS] n4_FIELDS,sl4_FIELDS⟩)
  (nt5_FIELDS:K.lookup A5_FIELDS=some ⟨.type "tuple",d5_FIELDS,.seq #[.str "d" w5_0_FIELDS,.str "s" w5_1_FIELDS] n5_FIELDS,sl5_FIELDS⟩)
  (nt6_FIELDS:K.lookup A6_FIELDS=some ⟨.type "tuple",d6_FIELDS,.seq #[.str "d" w6_0_FIELDS,.str "s" w6_1_FIELDS] n6_FIELDS,sl6_FIELDS⟩)
  (nt7_FIELDS:K.lookup A7_FIELDS=some ⟨.type "tuple",d7_FIELDS,.seq #[.str "d" w7_0_FIELDS,.str "s" w7_1_FIELDS] n7_FIELDS,sl7_FIELDS⟩)
  (nt8_FIELDS:K.lookup A8_FIELDS=some ⟨.type "tuple",d8_FIELDS,.seq #[.str "d" w8_0_FIELDS,.str "s" w8_1_FIELDS] n8_FIELDS,sl8_FIELDS⟩)
  (nt9_FIELDS:K.lookup A9_FIELDS=some ⟨.type "tuple",d9_FIELDS,.seq #[.str "d" w9_0_FIELDS,.str "s" w9_1_FIELDS] n9_FIELDS,sl9_FIELDS⟩)
  (nt10_FIELDS:K.lookup A10_FIELDS=some ⟨.type "tuple",d10_FIELDS,.seq #[.str "d" w10_0_FIELDS,.str "s" w10_1_FIELDS] n10_FIELDS,sl10_FIELDS⟩)
  (nt11_FIELDS:K.lookup A11_FIELDS=some ⟨.type "tuple",d11_FIELDS,.seq #[.str "d" w11_0_FIELDS,.str "s" w11_1_FIELDS] n11_FIELDS,sl11_FIELDS⟩)
  (nt12_FIELDS:K.lookup A12_FIELDS=some ⟨.type "tuple",d12_FIELDS,.seq #[.str "d" w12_0_FIELDS,.str "n" w12_1_FIELDS] n12_FIELDS,sl12_FIELDS⟩)
  (nt13_FIELDS:K.lookup A13_FIELDS=some ⟨.type "tuple",d13_FIELDS,.seq #[.str "d" w13_0_FIELDS,.str "n" w13_1_FIELDS] n13_FIELDS,sl13_FIELDS⟩)
  (nt14_FIELDS:K.lookup A14_FIELDS=some ⟨.type "tuple",d14_FIELDS,.seq #[.str "d" w14_0_FIELDS,.str "s" w14_1_FIELDS,.str "n" w14_2_FIELDS] n14_FIELDS,sl14_FIELDS⟩)
  (nt15_FIELDS:K.lookup A15_FIELDS=some ⟨.type "tuple",d15_FIELDS,.seq #[.str "d" w15_0_FIELDS,.str "s" w15_1_FIELDS,.str "n" w15_2_FIELDS] n15_FIELDS,sl15_FIELDS⟩)
  (nt16_FIELDS:K.lookup A16_FIELDS=some ⟨.type "tuple",d16_FIELDS,.seq #[.str "d" w16_0_FIELDS,.str "s" w16_1_FIELDS,.str "n" w16_2_FIELDS] n16_FIELDS,sl16_FIELDS⟩)
  (nt17_FIELDS:K.lookup A17_FIELDS=some ⟨.type "tuple",d17_FIELDS,.seq #[.str "d" w17_0_FIELDS,.str "s" w17_1_FIELDS,.str "n" w17_2_FIELDS] n17_FIELDS,sl17_FIELDS⟩)
  (nt18_FIELDS:K.lookup A18_FIELDS=some ⟨.type "tuple",d18_FIELDS,.seq #[.str "name" w18_0_FIELDS] n18_FIELDS,sl18_FIELDS⟩)
  (nt19_FIELDS:K.lookup A19_FIELDS=some ⟨.type "tuple",d19_FIELDS,.seq #[.str "mark" w19_0_FIELDS,.str "name" w19_1_FIELDS] n19_FIELDS,sl19_FIELDS⟩)
  (nt20_FIELDS:K.lookup A20_FIELDS=some ⟨.type "tuple",d20_FIELDS,.seq #[.str "mark" w20_0_FIELDS,.str "name" w20_1_FIELDS] n20_FIELDS,sl20_FIELDS⟩)
  (nt21_FIELDS:K.lookup A21_FIELDS=some ⟨.type "tuple",d21_FIELDS,.seq #[] n21_FIELDS,sl21_FIELDS⟩)
  {A_JUMPS:Addr} {n_JUMPS:Nat} {sl_JUMPS:Array (Option Value)} {u0_JUMPS u1_JUMPS u2_JUMPS:Tok} (ng_JUMPS:PySem.W.nsIn K mainGlobals "JUMPS" = some (some (.ref A_JUMPS)))
  (nq_JUMPS:K.lookup A_JUMPS=some ⟨.type "tuple",none,.seq #[.str "jump" u0_JUMPS,.str "when" u1_JUMPS,.str "unless" u2_JUMPS] n_JUMPS,sl_JUMPS⟩)
  {tg_FIGURES_MOST:Tok} (ng_FIGURES_MOST:PySem.W.nsIn K mainGlobals "FIGURES_MOST" = some (some (.int 5 tg_FIGURES_MOST)))
  {tg_FIGURES:Tok} (ng_FIGURES:PySem.W.nsIn K mainGlobals "FIGURES" = some (some (.str "0123456789" tg_FIGURES)))
  {C_BadText:Addr} (nc_BadText:PySem.W.nsIn K mainGlobals "BadText" = some (some (.ref C_BadText))) (ec_BadText:PySem.W.excIn K C_BadText [.type "ValueError",.type "Exception",.type "BaseException",.type "object"] "ValueError.__new__" = true)
  {C_BadNumber:Addr} (nc_BadNumber:PySem.W.nsIn K mainGlobals "BadNumber" = some (some (.ref C_BadNumber))) (ec_BadNumber:PySem.W.excIn K C_BadNumber [.type "ValueError",.type "Exception",.type "BaseException",.type "object"] "ValueError.__new__" = true)
  {C_NoLabel:Addr} (nc_NoLabel:PySem.W.nsIn K mainGlobals "NoLabel" = some (some (.ref C_NoLabel))) (ec_NoLabel:PySem.W.excIn K C_NoLabel [.type "ValueError",.type "Exception",.type "BaseException",.type "object"] "ValueError.__new__" = true)
  {C_NoAddress:Addr} (nc_NoAddress:PySem.W.nsIn K mainGlobals "NoAddress" = some (some (.ref C_NoAddress))) (ec_NoAddress:PySem.W.excIn K C_NoAddress [.type "ValueError",.type "Exception",.type "BaseException",.type "object"] "ValueError.__new__" = true)
  {C_BadState:Addr} (nc_BadState:PySem.W.nsIn K mainGlobals "BadState" = some (some (.ref C_BadState))) (ec_BadState:PySem.W.excIn K C_BadState [.type "ValueError",.type "Exception",.type "BaseException",.type "object"] "ValueError.__new__" = true)
  {C_BadWords:Addr} (nc_BadWords:PySem.W.nsIn K mainGlobals "BadWords" = some (some (.ref C_BadWords))) (ec_BadWords:PySem.W.excIn K C_BadWords [.type "ValueError",.type "Exception",.type "BaseException",.type "object"] "ValueError.__new__" = true)
  {C_RunError:Addr} (nc_RunError:PySem.W.nsIn K mainGlobals "RunError" = some (some (.ref C_RunError))) (ec_RunError:PySem.W.excIn K C_RunError [.type "ValueError",.type "Exception",.type "BaseException",.type "object"] "ValueError.__new__" = true)
  (px_BadText_ga:PySem.W.findIn K (.ref C_BadText) "__getattribute__" = some (some (.builtin "BaseException.__getattribute__")))
  (px_BadText_gt:PySem.W.findIn K (.ref C_BadText) "__getattr__" = some none)
  (px_BadText_cl:PySem.W.findIn K (.ref C_BadText) "__class__" = some (some (.builtin "object.__class__")))
  (px_BadText_mo:PySem.W.mroIn K C_BadText (.type "object")=some true)
  (px_BadText_mb:PySem.W.mroIn K C_BadText (.type "BaseException")=some true)
  (pt_BadText_BadNumber:PySem.W.kitOne K (.ref C_BadText) (.ref C_BadNumber)=some false)
  (pt_BadText_BadText:PySem.W.kitOne K (.ref C_BadText) (.ref C_BadText)=some true)
  (pt_BadText_NoLabel:PySem.W.kitOne K (.ref C_BadText) (.ref C_NoLabel)=some false)
  (pt_BadText_NoAddress:PySem.W.kitOne K (.ref C_BadText) (.ref C_NoAddress)=some false)
  (pt_BadText_BadState:PySem.W.kitOne K (.ref C_BadText) (.ref C_BadState)=some false)
  (pt_BadText_BadWords:PySem.W.kitOne K (.ref C_BadText) (.ref C_BadWords)=some false)
  (pt_BadText_ValueError:PySem.W.kitOne K (.ref C_BadText) (.type "ValueError")=some true)
  (pm_BadText_RunError:PySem.W.exmOne K (.ref C_BadText) (.ref C_RunError)=some true)
  : ∃ fd:FuncData,(∀ (s:Shared) (v:Value),BindsTo s fd ⟨[v],[]⟩ [("_law_script",v)])/\∀ base:Heap,K.In base->base.Ns mainGlobals mg->ve l.prog w K mg base wu 10 fa fd ["_law_script"] (kI K):=by
 have e:=hfa.symm.trans (PySem.W.mg_of X G a36)
 cases e
 have z_isinstance:mg "isinstance" = none:=PySem.W.mg_none_of X G nz_isinstance
 have z_int:mg "int" = none:=PySem.W.mg_none_of X G nz_int
 have z_bool:mg "bool" = none:=PySem.W.mg_none_of X G nz_bool
 have z_str:mg "str" = none:=PySem.W.mg_none_of X G nz_str
 have z_len:mg "len" = none:=PySem.W.mg_none_of X G nz_len
 have z_all:mg "all" = none:=PySem.W.mg_none_of X G nz_all
 have z_tuple:mg "tuple" = none:=PySem.W.mg_none_of X G nz_tuple
 have z_zip:mg "zip" = none:=PySem.W.mg_none_of X G nz_zip
 have z_enumerate:mg "enumerate" = none:=PySem.W.mg_none_of X G nz_enumerate
 have z_ValueError:mg "ValueError" = none:=PySem.W.mg_none_of X G nz_ValueError
 have z_range:mg "range" = none:=PySem.W.mg_none_of X G nz_range
 have g_NAME_LONGEST:xf mg "NAME_LONGEST" (.int 8):=⟨_,PySem.W.mg_of X G ng_NAME_LONGEST,⟨_,rfl⟩⟩
 have q_NAME_LONGEST:∀ H,zU K H (.int 8) (.int 8):=fun _=>rfl
 have g_LETTERS:xf mg "LETTERS" (.str "abcdefghijklmnopqrstuvwxyz"):=⟨_,PySem.W.mg_of X G ng_LETTERS,⟨_,rfl⟩⟩
 have q_LETTERS:∀ H,zU K H (.str "abcdefghijklmnopqrstuvwxyz") (.str "abcdefghijklmnopqrstuvwxyz"):=fun _=>⟨rfl,zW (by decide)⟩
 have k_MARKS:Uo K A_MARKS:=⟨_,nq_MARKS,rfl,rfl⟩
 have g_MARKS:xf mg "MARKS" (.ref A_MARKS):=⟨_,PySem.W.mg_of X G ng_MARKS,rfl⟩
 have q_MARKS:∀ H,zU K H ZT (.ref A_MARKS):=fun H=>⟨A_MARKS,_,rfl,xL (xs:=[.str "carry",.str "nought",.str "sign"]) nq_MARKS (by show (3:Nat)<=sizeLine; decide) (.cons ⟨_,rfl⟩ (.cons ⟨_,rfl⟩ (.cons ⟨_,rfl⟩ .nil))) H,⟨_,_,rfl,⟨rfl,zW (by decide)⟩,⟨_,_,rfl,⟨rfl,zW (by decide)⟩,⟨_,_,rfl,⟨rfl,zW (by decide)⟩,rfl⟩⟩⟩,zW (by decide)⟩
 have g_NUMBER_WIDTHS:xf mg "NUMBER_WIDTHS" (.ref A_NUMBER_WIDTHS):=⟨_,PySem.W.mg_of X G ng_NUMBER_WIDTHS,rfl⟩
 have q_NUMBER_WIDTHS:uM K w A_NUMBER_WIDTHS ZO ZU:=WT (us:=[.int 16,.int 16,.int 5,.int 5,.int 8,.int 8,.int 8,.int 8]) nq_NUMBER_WIDTHS (.cons (.cons (.cons (.cons (.cons (.cons (.cons (.cons .nil)))))))) (by decide +kernel) ns_NUMBER_WIDTHS (.cons ⟨_,rfl⟩ (.cons ⟨_,rfl⟩ (.cons ⟨_,rfl⟩ (.cons ⟨_,rfl⟩ (.cons ⟨_,rfl⟩ (.cons ⟨_,rfl⟩ (.cons ⟨_,rfl⟩ (.cons ⟨_,rfl⟩ .nil)))))))) fun H=>⟨_,_,rfl,rfl,⟨_,_,rfl,rfl,⟨_,_,rfl,rfl,⟨_,_,rfl,rfl,⟨_,_,rfl,rfl,⟨_,_,rfl,rfl,⟨_,_,rfl,rfl,⟨_,_,rfl,rfl,rfl⟩⟩⟩⟩⟩⟩⟩⟩
 have g_PLACES:xf mg "PLACES" (.ref A_PLACES):=⟨_,PySem.W.mg_of X G ng_PLACES,rfl⟩
 have q_PLACES:uM K w A_PLACES gZ gf:=WT (us:=[.ref A0_PLACES,.ref A1_PLACES,.ref A2_PLACES,.ref A3_PLACES,.ref A4_PLACES]) nq_PLACES (.cons (.cons (.cons (.cons (.cons .nil))))) (by decide +kernel) ns_PLACES (.cons rfl (.cons rfl (.cons rfl (.cons rfl (.cons rfl .nil))))) fun H=>⟨_,_,rfl,⟨A0_PLACES,_,rfl,xL (xs:=[.int 27,.int 5]) nt0_PLACES (by show (2:Nat)<=sizeLine; decide) (.cons ⟨_,rfl⟩ (.cons ⟨_,rfl⟩ .nil)) H,⟨_,_,rfl,rfl,⟨_,_,rfl,rfl,rfl⟩⟩,zW (by decide)⟩,⟨_,_,rfl,⟨A1_PLACES,_,rfl,xL (xs:=[.int 24,.int 3]) nt1_PLACES (by show (2:Nat)<=sizeLine; decide) (.cons ⟨_,rfl⟩ (.cons ⟨_,rfl⟩ .nil)) H,⟨_,_,rfl,rfl,⟨_,_,rfl,rfl,rfl⟩⟩,zW (by decide)⟩,⟨_,_,rfl,⟨A2_PLACES,_,rfl,xL (xs:=[.int 21,.int 3]) nt2_PLACES (by show (2:Nat)<=sizeLine; decide) (.cons ⟨_,rfl⟩ (.cons ⟨_,rfl⟩ .nil)) H,⟨_,_,rfl,rfl,⟨_,_,rfl,rfl,rfl⟩⟩,zW (by decide)⟩,⟨_,_,rfl,⟨A3_PLACES,_,rfl,xL (xs:=[.int 24,.int 2]) nt3_PLACES (by show (2:Nat)<=sizeLine; decide) (.cons ⟨_,rfl⟩ (.cons ⟨_,rfl⟩ .nil)) H,⟨_,_,rfl,rfl,⟨_,_,rfl,rfl,rfl⟩⟩,zW (by decide)⟩,⟨_,_,rfl,⟨A4_PLACES,_,rfl,xL (xs:=[.int 0,.int 5]) nt4_PLACES (by show (2:Nat)<=sizeLine; decide) (.cons ⟨_,rfl⟩ (.cons ⟨_,rfl⟩ .nil)) H,⟨_,_,rfl,rfl,⟨_,_,rfl,rfl,rfl⟩⟩,zW (by decide)⟩,rfl⟩⟩⟩⟩⟩
 have g_FIELDS:xf mg "FIELDS" (.ref A_FIELDS):=⟨_,PySem.W.mg_of X G ng_FIELDS,rfl⟩
 have q_FIELDS:uM K w A_FIELDS xM tS:=WT (us:=[.ref A0_FIELDS,.ref A1_FIELDS,.ref A2_FIELDS,.ref A3_FIELDS,.ref A4_FIELDS,.ref A5_FIELDS,.ref A6_FIELDS,.ref A7_FIELDS,.ref A8_FIELDS,.ref A9_FIELDS,.ref A10_FIELDS,.ref A11_FIELDS,.ref A12_FIELDS,.ref A13_FIELDS,.ref A14_FIELDS,.ref A15_FIELDS,.ref A16_FIELDS,.ref A17_FIELDS,.ref A18_FIELDS,.ref A19_FIELDS,.ref A20_FIELDS,.ref A21_FIELDS]) nq_FIELDS (.cons (.cons (.cons (.cons (.cons (.cons (.cons (.cons (.cons (.cons (.cons (.cons (.cons (.cons (.cons (.cons (.cons (.cons (.cons (.cons (.cons (.cons .nil)))))))))))))))))))))) (by decide +kernel) ns_FIELDS (.cons rfl (.cons rfl (.cons rfl (.cons rfl (.cons rfl (.cons rfl (.cons rfl (.cons rfl (.cons rfl (.cons rfl (.cons rfl (.cons rfl (.cons rfl (.cons rfl (.cons rfl (.cons rfl (.cons rfl (.cons rfl (.cons rfl (.cons rfl (.cons rfl (.cons rfl .nil)))))))))))))))))))))) fun H=>⟨_,_,rfl,⟨A0_FIELDS,_,rfl,xL (xs:=[.str "name"]) nt0_FIELDS (by show (1:Nat)<=sizeLine; decide) (.cons ⟨_,rfl⟩ .nil) H,⟨_,_,rfl,⟨rfl,zW (by decide)⟩,rfl⟩,zW (by decide)⟩,⟨_,_,rfl,⟨A1_FIELDS,_,rfl,xL (xs:=[.str "d",.str "n"]) nt1_FIELDS (by show (2:Nat)<=sizeLine; decide) (.cons ⟨_,rfl⟩ (.cons ⟨_,rfl⟩ .nil)) H,⟨_,_,rfl,⟨rfl,zW (by decide)⟩,⟨_,_,rfl,⟨rfl,zW (by decide)⟩,rfl⟩⟩,zW (by decide)⟩,⟨_,_,rfl,⟨A2_FIELDS,_,rfl,xL (xs:=[.str "d",.str "n"]) nt2_FIELDS (by show (2:Nat)<=sizeLine; decide) (.cons ⟨_,rfl⟩ (.cons ⟨_,rfl⟩ .nil)) H,⟨_,_,rfl,⟨rfl,zW (by decide)⟩,⟨_,_,rfl,⟨rfl,zW (by decide)⟩,rfl⟩⟩,zW (by decide)⟩,⟨_,_,rfl,⟨A3_FIELDS,_,rfl,xL (xs:=[.str "d",.str "s"]) nt3_FIELDS (by show (2:Nat)<=sizeLine; decide) (.cons ⟨_,rfl⟩ (.cons ⟨_,rfl⟩ .nil)) H,⟨_,_,rfl,⟨rfl,zW (by decide)⟩,⟨_,_,rfl,⟨rfl,zW (by decide)⟩,rfl⟩⟩,zW (by decide)⟩,⟨_,_,rfl,⟨A4_FIELDS,_,rfl,xL (xs:=[.str "d",.str "s"]) nt4_FIELDS (by show (2:Nat)<=sizeLine; decide) (.cons ⟨_,rfl⟩ (.cons ⟨_,rfl⟩ .nil)) H,⟨_,_,rfl,⟨rfl,zW (by decide)⟩,⟨_,_,rfl,⟨rfl,zW (by decide)⟩,rfl⟩⟩,zW (by decide)⟩,⟨_,_,rfl,⟨A5_FIELDS,_,rfl,xL (xs:=[.str "d",.str "s"]) nt5_FIELDS (by show (2:Nat)<=sizeLine; decide) (.cons ⟨_,rfl⟩ (.cons ⟨_,rfl⟩ .nil)) H,⟨_,_,rfl,⟨rfl,zW (by decide)⟩,⟨_,_,rfl,⟨rfl,zW (by decide)⟩,rfl⟩⟩,zW (by decide)⟩,⟨_,_,rfl,⟨A6_FIELDS,_,rfl,xL (xs:=[.str "d",.str "s"]) nt6_FIELDS (by show (2:Nat)<=sizeLine; decide) (.cons ⟨_,rfl⟩ (.cons ⟨_,rfl⟩ .nil)) H,⟨_,_,rfl,⟨rfl,zW (by decide)⟩,⟨_,_,rfl,⟨rfl,zW (by decide)⟩,rfl⟩⟩,zW (by decide)⟩,⟨_,_,rfl,⟨A7_FIELDS,_,rfl,xL (xs:=[.str "d",.str "s"]) nt7_FIELDS (by show (2:Nat)<=sizeLine; decide) (.cons ⟨_,rfl⟩ (.cons ⟨_,rfl⟩ .nil)) H,⟨_,_,rfl,⟨rfl,zW (by decide)⟩,⟨_,_,rfl,⟨rfl,zW (by decide)⟩,rfl⟩⟩,zW (by decide)⟩,⟨_,_,rfl,⟨A8_FIELDS,_,rfl,xL (xs:=[.str "d",.str "s"]) nt8_FIELDS (by show (2:Nat)<=sizeLine; decide) (.cons ⟨_,rfl⟩ (.cons ⟨_,rfl⟩ .nil)) H,⟨_,_,rfl,⟨rfl,zW (by decide)⟩,⟨_,_,rfl,⟨rfl,zW (by decide)⟩,rfl⟩⟩,zW (by decide)⟩,⟨_,_,rfl,⟨A9_FIELDS,_,rfl,xL (xs:=[.str "d",.str "s"]) nt9_FIELDS (by show (2:Nat)<=sizeLine; decide) (.cons ⟨_,rfl⟩ (.cons ⟨_,rfl⟩ .nil)) H,⟨_,_,rfl,⟨rfl,zW (by decide)⟩,⟨_,_,rfl,⟨rfl,zW (by decide)⟩,rfl⟩⟩,zW (by decide)⟩,⟨_,_,rfl,⟨A10_FIELDS,_,rfl,xL (xs:=[.str "d",.str "s"]) nt10_FIELDS (by show (2:Nat)<=sizeLine; decide) (.cons ⟨_,rfl⟩ (.cons ⟨_,rfl⟩ .nil)) H,⟨_,_,rfl,⟨rfl,zW (by decide)⟩,⟨_,_,rfl,⟨rfl,zW (by decide)⟩,rfl⟩⟩,zW (by decide)⟩,⟨_,_,rfl,⟨A11_FIELDS,_,rfl,xL (xs:=[.str "d",.str "s"]) nt11_FIELDS (by show (2:Nat)<=sizeLine; decide) (.cons ⟨_,rfl⟩ (.cons ⟨_,rfl⟩ .nil)) H,⟨_,_,rfl,⟨rfl,zW (by decide)⟩,⟨_,_,rfl,⟨rfl,zW (by decide)⟩,rfl⟩⟩,zW (by decide)⟩,⟨_,_,rfl,⟨A12_FIELDS,_,rfl,xL (xs:=[.str "d",.str "n"]) nt12_FIELDS (by show (2:Nat)<=sizeLine; decide) (.cons ⟨_,rfl⟩ (.cons ⟨_,rfl⟩ .nil)) H,⟨_,_,rfl,⟨rfl,zW (by decide)⟩,⟨_,_,rfl,⟨rfl,zW (by decide)⟩,rfl⟩⟩,zW (by decide)⟩,⟨_,_,rfl,⟨A13_FIELDS,_,rfl,xL (xs:=[.str "d",.str "n"]) nt13_FIELDS (by show (2:Nat)<=sizeLine; decide) (.cons ⟨_,rfl⟩ (.cons ⟨_,rfl⟩ .nil)) H,⟨_,_,rfl,⟨rfl,zW (by decide)⟩,⟨_,_,rfl,⟨rfl,zW (by decide)⟩,rfl⟩⟩,zW (by decide)⟩,⟨_,_,rfl,⟨A14_FIELDS,_,rfl,xL (xs:=[.str "d",.str "s",.str "n"]) nt14_FIELDS (by show (3:Nat)<=sizeLine; decide) (.cons ⟨_,rfl⟩ (.cons ⟨_,rfl⟩ (.cons ⟨_,rfl⟩ .nil))) H,⟨_,_,rfl,⟨rfl,zW (by decide)⟩,⟨_,_,rfl,⟨rfl,zW (by decide)⟩,⟨_,_,rfl,⟨rfl,zW (by decide)⟩,rfl⟩⟩⟩,zW (by decide)⟩,⟨_,_,rfl,⟨A15_FIELDS,_,rfl,xL (xs:=[.str "d",.str "s",.str "n"]) nt15_FIELDS (by show (3:Nat)<=sizeLine; decide) (.cons ⟨_,rfl⟩ (.cons ⟨_,rfl⟩ (.cons ⟨_,rfl⟩ .nil))) H,⟨_,_,rfl,⟨rfl,zW (by decide)⟩,⟨_,_,rfl,⟨rfl,zW (by decide)⟩,⟨_,_,rfl,⟨rfl,zW (by decide)⟩,rfl⟩⟩⟩,zW (by decide)⟩,⟨_,_,rfl,⟨A16_FIELDS,_,rfl,xL (xs:=[.str "d",.str "s",.str "n"]) nt16_FIELDS (by show (3:Nat)<=sizeLine; decide) (.cons ⟨_,rfl⟩ (.cons ⟨_,rfl⟩ (.cons ⟨_,rfl⟩ .nil))) H,⟨_,_,rfl,⟨rfl,zW (by decide)⟩,⟨_,_,rfl,⟨rfl,zW (by decide)⟩,⟨_,_,rfl,⟨rfl,zW (by decide)⟩,rfl⟩⟩⟩,zW (by decide)⟩,⟨_,_,rfl,⟨A17_FIELDS,_,rfl,xL (xs:=[.str "d",.str "s",.str "n"]) nt17_FIELDS (by show (3:Nat)<=sizeLine; decide) (.cons ⟨_,rfl⟩ (.cons ⟨_,rfl⟩ (.cons ⟨_,rfl⟩ .nil))) H,⟨_,_,rfl,⟨rfl,zW (by decide)⟩,⟨_,_,rfl,⟨rfl,zW (by decide)⟩,⟨_,_,rfl,⟨rfl,zW (by decide)⟩,rfl⟩⟩⟩,zW (by decide)⟩,⟨_,_,rfl,⟨A18_FIELDS,_,rfl,xL (xs:=[.str "name"]) nt18_FIELDS (by show (1:Nat)<=sizeLine; decide) (.cons ⟨_,rfl⟩ .nil) H,⟨_,_,rfl,⟨rfl,zW (by decide)⟩,rfl⟩,zW (by decide)⟩,⟨_,_,rfl,⟨A19_FIELDS,_,rfl,xL (xs:=[.str "mark",.str "name"]) nt19_FIELDS (by show (2:Nat)<=sizeLine; decide) (.cons ⟨_,rfl⟩ (.cons ⟨_,rfl⟩ .nil)) H,⟨_,_,rfl,⟨rfl,zW (by decide)⟩,⟨_,_,rfl,⟨rfl,zW (by decide)⟩,rfl⟩⟩,zW (by decide)⟩,⟨_,_,rfl,⟨A20_FIELDS,_,rfl,xL (xs:=[.str "mark",.str "name"]) nt20_FIELDS (by show (2:Nat)<=sizeLine; decide) (.cons ⟨_,rfl⟩ (.cons ⟨_,rfl⟩ .nil)) H,⟨_,_,rfl,⟨rfl,zW (by decide)⟩,⟨_,_,rfl,⟨rfl,zW (by decide)⟩,rfl⟩⟩,zW (by decide)⟩,⟨_,_,rfl,⟨A21_FIELDS,_,rfl,xL (xs:=[]) nt21_FIELDS (by show (0:Nat)<=sizeLine; decide) .nil H,rfl,zW (by decide)⟩,rfl⟩⟩⟩⟩⟩⟩⟩⟩⟩⟩⟩⟩⟩⟩⟩⟩⟩⟩⟩⟩⟩⟩
 have k_JUMPS:Uo K A_JUMPS:=⟨_,nq_JUMPS,rfl,rfl⟩
 have g_JUMPS:xf mg "JUMPS" (.ref A_JUMPS):=⟨_,PySem.W.mg_of X G ng_JUMPS,rfl⟩
 have q_JUMPS:∀ H,zU K H ZR (.ref A_JUMPS):=fun H=>⟨A_JUMPS,_,rfl,xL (xs:=[.str "jump",.str "when",.str "unless"]) nq_JUMPS (by show (3:Nat)<=sizeLine; decide) (.cons ⟨_,rfl⟩ (.cons ⟨_,rfl⟩ (.cons ⟨_,rfl⟩ .nil))) H,⟨_,_,rfl,⟨rfl,zW (by decide)⟩,⟨_,_,rfl,⟨rfl,zW (by decide)⟩,⟨_,_,rfl,⟨rfl,zW (by decide)⟩,rfl⟩⟩⟩,zW (by decide)⟩
 have g_FIGURES_MOST:xf mg "FIGURES_MOST" (.int 5):=⟨_,PySem.W.mg_of X G ng_FIGURES_MOST,⟨_,rfl⟩⟩
 have q_FIGURES_MOST:∀ H,zU K H (.int 5) (.int 5):=fun _=>rfl
 have g_FIGURES:xf mg "FIGURES" (.str "0123456789"):=⟨_,PySem.W.mg_of X G ng_FIGURES,⟨_,rfl⟩⟩
 have q_FIGURES:∀ H,zU K H (.str "0123456789") (.str "0123456789"):=fun _=>⟨rfl,zW (by decide)⟩
 have c_BadText:xh K mg "BadText" C_BadText:=⟨PySem.W.mg_of X G nc_BadText,ec_BadText⟩
 have y_BadText:=nc_BadText
 have c_BadNumber:xh K mg "BadNumber" C_BadNumber:=⟨PySem.W.mg_of X G nc_BadNumber,ec_BadNumber⟩
 have c_NoLabel:xh K mg "NoLabel" C_NoLabel:=⟨PySem.W.mg_of X G nc_NoLabel,ec_NoLabel⟩
 have c_NoAddress:xh K mg "NoAddress" C_NoAddress:=⟨PySem.W.mg_of X G nc_NoAddress,ec_NoAddress⟩
 have c_BadState:xh K mg "BadState" C_BadState:=⟨PySem.W.mg_of X G nc_BadState,ec_BadState⟩
 have c_BadWords:xh K mg "BadWords" C_BadWords:=⟨PySem.W.mg_of X G nc_BadWords,ec_BadWords⟩
 have c_RunError:xh K mg "RunError" C_RunError:=⟨PySem.W.mg_of X G nc_RunError,ec_RunError⟩
 have x_BadText:uK K C_BadText:=⟨px_BadText_ga,px_BadText_gt,px_BadText_cl,px_BadText_mo,px_BadText_mb⟩
 have t_BadText_BadNumber:PySem.W.kitOne K (.ref C_BadText) (.ref C_BadNumber)=some false:=pt_BadText_BadNumber
 have t_BadText_BadText:PySem.W.kitOne K (.ref C_BadText) (.ref C_BadText)=some true:=pt_BadText_BadText
 have t_BadText_NoLabel:PySem.W.kitOne K (.ref C_BadText) (.ref C_NoLabel)=some false:=pt_BadText_NoLabel
 have t_BadText_NoAddress:PySem.W.kitOne K (.ref C_BadText) (.ref C_NoAddress)=some false:=pt_BadText_NoAddress
 have t_BadText_BadState:PySem.W.kitOne K (.ref C_BadText) (.ref C_BadState)=some false:=pt_BadText_BadState
 have t_BadText_BadWords:PySem.W.kitOne K (.ref C_BadText) (.ref C_BadWords)=some false:=pt_BadText_BadWords
 have t_BadText_ValueError:PySem.W.kitOne K (.ref C_BadText) (.type "ValueError")=some true:=pt_BadText_ValueError
 have m_BadText_RunError:PySem.W.exmOne K (.ref C_BadText) (.ref C_RunError)=some true:=pm_BadText_RunError
 have D14:Def K mg "read" Y8 ["text"]:=za.d1 a14 X G
 have D18:Def K mg "_law_class" Y7 ["_law_e"]:=za.d1 a18 X G
 have F36:=Ty (st:=pO) l36 c36 k36
 refine ⟨PySem.W.fnOf "law" "law" (qQ pO) (wg pO) (zi pO) .none kV36 dc36 pm36 an36 cd36 ct36,fun s v=>.of_eq rfl,fun base _ _=>?_⟩
 have h_is_number:Yq l.prog w K mg base:=BS X G z_isinstance z_int z_bool a0
 have h_is_name:Yp l.prog w K mg base:=BR X G z_isinstance z_str z_len z_all g_NAME_LONGEST q_NAME_LONGEST g_LETTERS q_LETTERS a1
 have h_fits:Yl l.prog w K mg base:=BL X G g_MARKS q_MARKS g_NUMBER_WIDTHS q_NUMBER_WIDTHS g_PLACES q_PLACES h_is_name h_is_number a2
 have h_is_item:Ym l.prog w K mg base:=BO X G z_isinstance z_str z_len z_all z_tuple z_zip g_FIELDS q_FIELDS h_fits a3
 have h_is_label:Yo l.prog w K mg base:=BQ X G  a4
 have h_is_jump:Yn l.prog w K mg base:=BP X G g_JUMPS q_JUMPS a5
 have h_words_in:XF l.prog w K mg base:=B_ X G  a6
 have h_number_told:XC l.prog w K mg base:=Bu X G z_int z_len z_all g_FIGURES_MOST q_FIGURES_MOST g_FIGURES q_FIGURES a7
 have h_field_told:Yk l.prog w K mg base:=BK X G h_number_told a8
 have h_row_told:XD l.prog w K mg base:=Bw X G z_len z_tuple z_zip g_FIELDS q_FIELDS h_field_told a9
 have h_item_told:Yr l.prog w K mg base:=BT X G z_len h_row_told h_is_item a10
 have h_told_rows:XE l.prog w K mg base:=Bz X G z_enumerate h_words_in h_item_told a11
 have h_least_fault:XB l.prog w K mg base:=Br X G h_is_label h_is_jump a12
 have h_fault:Yj l.prog w K mg base:=BJ X G h_least_fault h_told_rows a13
 have h_read:=Bv (P:=l.prog) (w:=w) (base:=base) D14 c_BadText h_told_rows h_least_fault
 have h_law_cell_at:Ys l.prog w K mg base:=BV X G z_len a15
 have h_law_whole:X9 l.prog w K mg base:=Bp X G z_isinstance z_int z_bool a16
 have h_law_mixed:X0 l.prog w K mg base:=Bf X G  a17
 have h_law_class:=BX (P:=l.prog) (w:=w) (base:=base) D18 z_isinstance z_ValueError z_len c_BadText c_BadNumber c_NoLabel c_NoAddress c_BadState c_BadWords y_BadText x_BadText t_BadText_BadNumber t_BadText_BadText t_BadText_NoLabel t_BadText_NoAddress t_BadText_BadState t_BadText_BadWords t_BadText_ValueError
 have h_law_letter:Yy l.prog w K mg base:=Bc X G  a19
 have h_law_names:X1 l.prog w K mg base:=Bg X G z_range h_law_mixed h_law_letter a20
 have h_law_shape:X7 l.prog w K mg base:=Bn X G  a21
 have h_law_words:XA l.prog w K mg base:=Bq X G  a22
 have h_law_part_by:X3 l.prog w K mg base:=Bi X G z_len h_law_mixed a23
 have h_law_row_by:X6 l.prog w K mg base:=Bm X G z_len z_tuple z_range h_law_mixed h_law_words h_law_shape h_law_part_by a24
 have h_law_program:X4 l.prog w K mg base:=Bj X G z_len z_range h_law_mixed h_law_cell_at h_law_names h_law_row_by a25
 have h_law_item_text:Yx l.prog w K mg base:=Bb X G z_int z_str z_len z_range h_law_shape a26
 have h_law_loose:Y_ l.prog w K mg base:=Be X G z_len z_range h_law_mixed a27
 have h_law_lines:Yz l.prog w K mg base:=Bd X G z_len z_range h_law_mixed h_law_loose h_law_item_text a28
 have h_law_sign_by:X8 l.prog w K mg base:=Bo X G  a29
 have h_law_changed:Yt l.prog w K mg base:=BW X G z_len h_law_mixed h_law_sign_by a30
 have h_law_number:X2 l.prog w K mg base:=Bh X G z_int z_len z_all a31
 have h_law_is_name:Yv l.prog w K mg base:=BZ X G z_len z_all a32
 have h_law_is_row:Yw l.prog w K mg base:=Ba X G z_len z_range h_law_words h_law_shape h_law_is_name h_law_number a33
 have h_law_due:Yu l.prog w K mg base:=BY X G z_len z_range h_law_is_name h_law_is_row a34
 have h_law_read:X5 l.prog w K mg base:=Bk X G c_RunError c_BadText y_BadText m_BadText_RunError h_read h_law_class a35
 exact BU z_len z_range h_law_mixed h_law_cell_at h_law_program h_law_lines h_law_changed h_law_due h_fault h_law_read h_law_whole F36
theorem walk {l:PySem.W.OpenLaw} {q:Program} {loose:List Str} {XP:(Str->Option Value)->Heap->Prop} {YP:World->Heap->Prop} {d:DefRec} {K:Params->PySem.W.Frag} (hn:l.most=some 63) (hdf:d.params.defaults=[])
  (hY:∀ (w:World) (h:Heap),YP w h->(K w.params).In h)
  (F:∀ (w:World) (mg:Str->Option Value) (fa:Addr) (h:Heap),(K w.params).In h->h.Ns mainGlobals mg->mg d.name=some (.ref fa)->
   ∃ fd:FuncData,(∀ (s:Shared) (u:Value),BindsTo s fd ⟨[u],[]⟩ [("_law_script",u)])/\∀ base:Heap,(K w.params).In base->base.Ns mainGlobals mg->ve l.prog w (K w.params) mg base wu 10 fa fd ["_law_script"] (kI (K w.params))) :
  PySem.W.WalkO q loose XP YP l.row.toRowW d [] (fun f vs=>PySem.call f vs):=
 L3.walkB (n:=63) (k:=10) (x := "_law_script") (sp:=kI) hn (by decide) hdf ⟨rfl,by decide,by decide,rfl⟩ hY F fun _ _ a ns hl hb hS=>⟨a,ns,rfl,hS,hl,hb,fun _=>rfl⟩
end My
namespace PySem.W.Fast
noncomputable def tw15779789459799506713:=0
noncomputable def tw12309130515736093359:=0
noncomputable def tw8164415718183338132:=0
noncomputable def tw16805727450157128449:=0
noncomputable def tw12704816905186416557:=0
noncomputable def tw11656633249925369205:=0
noncomputable def tw8527338638786237277:=0
noncomputable def tw7774130367234092413:=0
noncomputable def tw7621084866290114344:=0
noncomputable def tw14550687691406838832:=0
noncomputable def tw17974787700172692814:=0
noncomputable def tw11842579979478502829:=0
noncomputable def tw17871884488998636389:=0
noncomputable def tw8255171182549474744:=0
noncomputable def tw11763223286605856729:=0
noncomputable def tw9826437947061593177:=0
noncomputable def tw5361828183868610224:=0
noncomputable def tw2468525213877817119:=0
noncomputable def tw11503420126303942025:=0
noncomputable def tw5050665824609773628:=0
noncomputable def tw9097191110278003957:=0
noncomputable def tw968205609172734399:=0
noncomputable def tw1452702065371849881:=0
noncomputable def tw16049896390445502265:=0
noncomputable def tw11690719639246144161:=0
noncomputable def tw15547321173923815364:=0
noncomputable def tw13201678821551761149:=0
noncomputable def tw4664301821508920416:=0
noncomputable def tw3774597670593688839:=0
noncomputable def tw14359590043680866478:=0
noncomputable def tw10455021749287771379:=0
noncomputable def tw9448738581629481379:=0
noncomputable def tw2100065732004467944:=0
noncomputable def tw1121830324938654356:=0
noncomputable def tw6188314508108968780:=0
noncomputable def tw12830986958028749067:=0
noncomputable def tw3687254185614802518:=0
noncomputable def tw17804329752564485872:=0
noncomputable def tw12324008302517609201:=0
noncomputable def tw5421114165678959215:=0
noncomputable def tw1232921461636136994:=0
noncomputable def tw4503231843140811890:=0
noncomputable def tw7705868526544439758:=0
noncomputable def tw12977526764015877028:=0
noncomputable def tw2817726139363519708:=0
noncomputable def tw4169008841522319208:=0
noncomputable def tw14652666845054412298:=0
noncomputable def tw6018083348921826191:=0
noncomputable def tw11199335363925117663:=0
noncomputable def tw13816804008328674906:=0
noncomputable def tw14085715021299896230:=0
noncomputable def tw7638787463311394397:=0
noncomputable def tw1053615422639113995:=0
noncomputable def tw7970808619631308874:=0
noncomputable def tw10242648260487930918:=0
noncomputable def tw3273724285224891626:=0
noncomputable def tw5828019152883480618:=0
noncomputable def tw17207102326818290869:=0
noncomputable def tw8501812641890660373:=0
noncomputable def tw13382021825893989449:=0
noncomputable def tw8117770373602896664:=0
noncomputable def tw1153089022052400716:=0
noncomputable def tw15776243257960211460:=0
noncomputable def tw892840128042669253:=0
noncomputable def tw17105755199798587914:=0
noncomputable def tw3154251145576599594:=0
noncomputable def tw8074960417014576967:=0
noncomputable def tw14676820936878419106:=0
noncomputable def tw8829622503583123951:=0
noncomputable def tw4826118988368088662:=0
noncomputable def tw17947306244985856795:=0
noncomputable def tw9859378982774019984:=0
noncomputable def tw16600415556777216423:=0
noncomputable def tw6497131729338798518:=0
noncomputable def tw6328383280460093404:=0
noncomputable def tw4357546752685955300:=0
noncomputable def tw14339341200650139059:=0
noncomputable def tw17434127850526479110:=0
noncomputable def tw12943280544061791862:=0
noncomputable def tw4306574947699846276:=0
noncomputable def tw475764747515446256:=0
noncomputable def tw8461186893903721296:=0
noncomputable def tw8288112623688062380:=0
noncomputable def tw18258370715842942567:=0
noncomputable def tw15686482954194841670:=0
noncomputable def tw12271528563730579914:=0
noncomputable def tw16209399969337312092:=0
noncomputable def tw12263697235899236207:=0
noncomputable def tw4713045744254161405:=0
noncomputable def tw6958739200496098122:=0
noncomputable def tw14964022766347908513:=0
noncomputable def tw12908331108044392059:=0
noncomputable def tw13211145061584591605:=0
noncomputable def tw16105063868113687912:=0
noncomputable def tw8718001959553271839:=0
noncomputable def tw13381106427156452236:=0
noncomputable def tw16795977930531367273:=0
noncomputable def tw7187655746345410606:=0
end PySem.W.Fast
open PySem PySem.W PyProof.Rows
set_option maxRecDepth 100000 in
set_option maxHeartbeats 0 in
theorem PySem.Challenge.cw_markrun_k14_faults_holds : PySem.Challenge.rw_markrun_k14_faults.Holds := by
 w_on; o_law; k_head; (case hw=>w_witness2)
 k_fill
 refine My.walk (l:=PySem.Challenge.rw_markrun_k14_faults) rfl rfl (fun w h Y=>PySem.W.kIn_of Y) ?F
 case F=>
  intro w mg fa h KX G hmg
  refine' My.all_mk KX G hmg ?a0 ?a1 ?a2 ?a3 ?a4 ?a5 ?a6 ?a7 ?a8 ?a9 ?a10 ?a11 ?a12 ?a13 ?a14 ?a15 ?a16 ?a17 ?a18 ?a19 ?a20 ?a21 ?a22 ?a23 ?a24 ?a25 ?a26 ?a27 ?a28 ?a29 ?a30 ?a31 ?a32 ?a33 ?a34 ?a35 ?a36 ?l36 ?c36 ?k36 ?nz_isinstance ?nz_int ?nz_bool ?nz_str ?nz_len ?nz_all ?nz_tuple ?nz_zip ?nz_enumerate ?nz_ValueError ?nz_range ?ng_NAME_LONGEST ?ng_LETTERS ?ng_MARKS ?nq_MARKS ?ng_NUMBER_WIDTHS ?nq_NUMBER_WIDTHS ?ns_NUMBER_WIDTHS ?ng_PLACES ?nt0_PLACES ?nt1_PLACES ?nt2_PLACES ?nt3_PLACES ?nt4_PLACES ?nq_PLACES ?ns_PLACES ?ng_FIELDS ?nt0_FIELDS ?nt1_FIELDS ?nt2_FIELDS ?nt3_FIELDS ?nt4_FIELDS ?nt5_FIELDS ?nt6_FIELDS ?nt7_FIELDS ?nt8_FIELDS ?nt9_FIELDS ?nt10_FIELDS ?nt11_FIELDS ?nt12_FIELDS ?nt13_FIELDS ?nt14_FIELDS ?nt15_FIELDS ?nt16_FIELDS ?nt17_FIELDS ?nt18_FIELDS ?nt19_FIELDS ?nt20_FIELDS ?nt21_FIELDS ?nq_FIELDS ?ns_FIELDS ?ng_JUMPS ?nq_JUMPS ?ng_FIGURES_MOST ?ng_FIGURES ?nc_BadText ?ec_BadText ?nc_BadNumber ?ec_BadNumber ?nc_NoLabel ?ec_NoLabel ?nc_NoAddress ?ec_NoAddress ?nc_BadState ?ec_BadState ?nc_BadWords ?ec_BadWords ?nc_RunError ?ec_RunError ?px_BadText_ga ?px_BadText_gt ?px_BadText_cl ?px_BadText_mo ?px_BadText_mb ?pt_BadText_BadNumber ?pt_BadText_BadText ?pt_BadText_NoLabel ?pt_BadText_NoAddress ?pt_BadText_BadState ?pt_BadText_BadWords ?pt_BadText_ValueError ?pm_BadText_RunError
  all_goals try exact ⟨_,_,_,_,_,_,_,_,_,_,by k_is,by k_is,by k_is,by k_is⟩
  all_goals try (first | k_is | k_exc | kit_is | kts_exm)
  all_goals decide
