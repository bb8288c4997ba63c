import PyProof.Rows.All
import Wide.All
import OpenK.AllK
import Wide.FinOn
import Lean
import PyProof.EqAt
import PyProof.EqKinds
import PyProof.TupleCall
import PySem.Challenge.RW_markrun_k36_bits_and_moves
set_option Elab.async false
set_option linter.all false
set_option maxRecDepth 100000
namespace L2
open PySem PySem.Spec PyProof.Rows
noncomputable abbrev zI:=Sum Int Str
noncomputable def qZ:zI->Value->Bool
 | .inl k,v=>Value.isInt k v
 | .inr x,v=>Value.isStrOf x v
noncomputable def BI (w:World):zI->Int
 | .inl k=>hashInt k
 | .inr x=>hashStr w x
theorem uw:∀ {k:zI} {v:Value},qZ k v=true->(∃ i t,k=Sum.inl i/\v=Value.int i t)\/(∃ x t,k=Sum.inr x/\v=Value.str x t)
 | .inl i,v,h=>by
  obtain ⟨t,e⟩:=Value.isInt_shape (k:=i) (v:=v) h
  exact .inl ⟨i,t,rfl,e⟩
 | .inr x,v,h=>by
  obtain ⟨t,e⟩:=Value.isStrOf_shape (x:=x) (v:=v) h
  exact .inr ⟨x,t,rfl,e⟩
theorem BJ (i:Int) (t:Tok):qZ (.inl i) (.int i t)=true:=by simp [qZ,Value.isInt]
theorem BK (x:Str) (t:Tok):qZ (.inr x) (.str x t)=true:=by simp [qZ,Value.isStrOf]
theorem BL (a b:Int):decide ((Sum.inl a:zI)=Sum.inl b)=(a == b):=by
 by_cases e:a=b
 ·subst e; simp
 ·have h:¬ (Sum.inl a:zI)=Sum.inl b:=fun q=>e (Sum.inl.inj q)
  rw [decide_eq_false h]
  exact (beq_eq_false_iff_ne.mpr e).symm
theorem BQ (a b:Str):decide ((Sum.inr a:zI)=Sum.inr b)=decide (a=b):=by
 by_cases e:a=b
 ·subst e; simp
 ·have h:¬ (Sum.inr a:zI)=Sum.inr b:=fun q=>e (Sum.inr.inj q)
  rw [decide_eq_false h,decide_eq_false e]
theorem BM (a:Int) (b:Str):decide ((Sum.inl a:zI)=Sum.inr b)=false:=decide_eq_false (fun q=>nomatch q)
theorem BP (a:Str) (b:Int):decide ((Sum.inr a:zI)=Sum.inl b)=false:=decide_eq_false (fun q=>nomatch q)
noncomputable def yV (prog:Program) (w:World):PySem.KeyKind prog w zI where
 is:=qZ
 hash:=BI w
 inj:=fun v a b ha hb=>by
  rcases uw ha with ⟨i,t,rfl,rfl⟩ | ⟨x,t,rfl,rfl⟩
  ·rcases uw hb with ⟨j,u,rfl,e⟩ | ⟨y,u,rfl,e⟩
   ·injection e with e1 _; rw [e1]
   ·exact nomatch e
  ·rcases uw hb with ⟨j,u,rfl,e⟩ | ⟨y,u,rfl,e⟩
   ·exact nomatch e
   ·injection e with e1 _; rw [e1]
 byValue:=fun k v h=>by
  rcases uw h with ⟨i,t,rfl,rfl⟩ | ⟨x,t,rfl,rfl⟩<;>rfl
 pyHash:=fun hv h=>by
  rcases uw hv with ⟨i,t,rfl,rfl⟩ | ⟨x,t,rfl,rfl⟩
  ·exact wpAny_pyHash_int h
  ·exact wpAny_pyHash_str h
 eqBool:=fun hu hv h=>by
  rcases uw hu with ⟨i,t,rfl,rfl⟩ | ⟨x,t,rfl,rfl⟩
  ·rcases uw hv with ⟨j,u,rfl,rfl⟩ | ⟨y,u,rfl,rfl⟩
   ·rw [BL] at h; exact wpAny_eqBool_int h
   ·rw [BM] at h; exact SeqAt.EqAt.int_str i t y u _ _ _ _ h
  ·rcases uw hv with ⟨j,u,rfl,rfl⟩ | ⟨y,u,rfl,rfl⟩
   ·rw [BP] at h; exact SeqAt.EqAt.str_int x t j u _ _ _ _ h
   ·rw [BQ] at h; exact wpAny_eqBool_str h
 «strs»:=fun k x t v h=>by
  rcases uw h with ⟨i,u,rfl,e⟩ | ⟨y,u,rfl,e⟩
  ·exact nomatch e
  ·injection e with e1 _
   subst e1
   cases v<;>rfl
theorem DG (prog:Program) (w:World) (i:Int) (t:Tok):(yV prog w).is (.inl i) (.int i t)=true:=BJ i t
theorem Vs (prog:Program) (w:World) (x:Str) (t:Tok):(yV prog w).is (.inr x) (.str x t)=true:=BK x t
end L2
namespace L2
open PySem PySem.Spec PyProof.Rows
inductive V where
 | non | bl (b:Bool) | int (i:Int) | str (x:Str) | byt (b:Array UInt8) | flt (b:UInt64) | ref (a:Addr) | ty (n:String)
 deriving DecidableEq
noncomputable def zX:V->Value->Prop
 | .non,u=>u=Value.none
 | .bl b,u=>u=Value.bool b
 | .int i,u=>∃ t,u=Value.int i t
 | .str x,u=>∃ t,u=Value.str x t
 | .byt b,u=>∃ t,u=Value.bytes b t
 | .flt b,u=>∃ t,u=Value.float b t
 | .ref a,u=>u=Value.ref a
 | .ty n,u=>u=Value.type n
noncomputable abbrev zb:List V->List Value->Prop:=Paired zX
theorem zb.length {xs:List V} {us:List Value} (r:zb xs us):xs.length=us.length:=Paired.length r
theorem zb.get:∀ {xs:List V} {us:List Value} {i:Nat} {x:V},zb xs us->xs[i]?=some x->∃ u,us[i]?=some u/\zX x u
 | _,_,_,_,.nil,e=>by simp at e
 | _,_,0,_,.cons r _,e=>by simp at e; subst e; exact ⟨_,rfl,r⟩
 | _,_,i+1,x,.cons _ t,e=>by
  obtain ⟨u,h1,h2⟩:=zb.get (i:=i) (x:=x) t (by simpa using e)
  exact ⟨u,by simpa using h1,h2⟩
theorem zb.set {x:V} {u:Value} (r:zX x u):∀ {xs:List V} {us:List Value} (i:Nat),zb xs us->zb (xs.set i x) (us.set i u)
 | _,_,_,.nil=>.nil
 | _,_,0,.cons _ t=>.cons r t
 | _,_,i+1,.cons q t=>.cons q (zb.set r i t)
theorem zb.append:∀ {xs ys:List V} {us ws:List Value},zb xs us->zb ys ws->zb (xs++ys) (us++ws)
 | _,_,_,_,.nil,s=>s
 | _,_,_,_,.cons r t,s=>.cons r (zb.append t s)
noncomputable def x_:Option V->Option Value->Prop
 | some v,some u=>zX v u
 | none,none=>True
 | _,_=>False
noncomputable def KV {κ:Type}:List (κ×V)->List (κ×Value)->Prop:=Paired fun (p:κ×V) (q:κ×Value)=>p.1=q.1/\zX p.2 q.2
noncomputable def kV:zI->V
 | .inl i=>.int i
 | .inr x=>.str x
inductive HO where
  | lst (xs:List V)
  | tup (xs:List V)
  | dK (kvs:List (zI×V)) | dT (kvs:List (List zI×V))
  | set (S:Int->Bool) (n:Nat)
  | ins (C dx:Addr) (fs:List (Str×V))
  | own (x:Addr)
  | xd (fs:List (Str×V))
  | met (f x:Addr)
  | rng (lo hi:Int)
  | frz (o:Obj) (u:HO)
  | tbl (ps:Array Value)
  | ext (φ:Heap->Prop)
noncomputable abbrev Hp:=Addr->Option HO
noncomputable def zQ (H:Hp) (a:Addr) (o:HO):Hp:=fun b=>if b=a then some o else H b
theorem yK {H:Hp} {a:Addr} {o:HO}:zQ H a o a=some o:=by unfold zQ; rw [if_pos rfl]
theorem zw {H:Hp} {a b:Addr} {o:HO} (h:b≠a):zQ H a o b=H b:=by unfold zQ; rw [if_neg h]
theorem DR {H:Hp} {a b:Addr} {o u:HO} (h:H a=some o) (h':H b=some u) (d:o≠u):a≠b:=by
 intro e; subst e; rw [h] at h'; exact d (Option.some.inj h')
theorem wb {H:Hp} {a b:Addr} {o:HO} (h:H a=some o) (h':H b=none):a≠b:=by
 intro e; subst e; rw [h] at h'; cases h'
section
variable (P:Program) (w:World)
noncomputable def yc (H:Hp) (h:Heap) (a:Addr):HO->Prop
 | .lst xs=>xs.length<=sizeLine/\∃ (its:List Value) (n:Nat),zb xs its/\h.get? a=some { cls:=.type "list",data:=.seq its.toArray n }
 | .tup xs=>xs.length<=sizeLine/\∃ its:List Value,zb xs its/\IsTup h a its.toArray
 | .dK kvs=>kvs.length<=sizeLine/\(a == sysModules)=false/\∃ vs,KV kvs vs/\h.DictOf (yV P w) a vs
 | .dT kvs=>kvs.length<=sizeLine/\(a == sysModules)=false/\∃ xs:List (List zI×Addr×Value),
   Paired (fun (p:List zI×V) (q:List zI×Addr×Value)=>p.1=q.1/\H q.2.1=some (.tup (p.1.map kV))/\zX p.2 q.2.2) kvs xs/\
   ∃ o es ep,h.get? a=some o/\o.ExactDict/\o.data=.dict es ep/\es.toList=xs.map (entryOfKey (tupleKind (yV P w)))/\(xs.map (·.1)).Nodup
 | .set S n=>h.SetOf (intKind P w) a S n
 | .ins C dx fs=>H dx=some (.own a)/\fs.length<=1000/\dx≠a/\h.get? a=some (PySem.W.instObj C dx)/\
   ∃ mA,h.Ns1 dx mA/\(∀ f,x_ (fs.lookup f) (mA f))/\PySem.Within mA (fs.map (·.1))
 | .own _=>∃ o,h.get? a=some o
 | .xd fs=>∃ mA,h.Ns1 a mA/\∀ f,x_ (fs.lookup f) (mA f)
 | .rng lo hi=>∃ t u v,h.get? a=some { cls:=.type "range",data:=.fields #[.int lo t,.int hi u,.int 1 v] }
 | .frz o u=>h.get? a=some o/\yc H h a u
 | .tbl ps=>h.get? a=some { cls:=.none,data:=.fields ps }
 | .met f x=>h.get? a=some (PySem.W.methodObj (.ref f) (.ref x))
 | .ext φ=>φ h/\(∃ o,h.get? a=some o)/\∀ h1 h2:Heap,φ h1->(∀ o,h1.get? a=some o->h2.get? a=some o)->φ h2
noncomputable def ya (H:Hp) (h:Heap):Prop:=∀ a o,H a=some o->yc P w H h a o
end
section
variable {P:Program} {w:World} {H H':Hp} {h h':Heap} {a:Addr} {o:HO}
theorem yc.lt (x:yc P w H h a o):a<h.objs.size:=by
 cases o with
 | lst xs=>obtain ⟨_,_,_,_,e⟩:=x; exact Heap.lt_size e
 | tup xs=>obtain ⟨_,_,_,p⟩:=x; exact p.lt
 | dK kvs=>obtain ⟨_,_,_,_,o,_,_,e,_⟩:=x; exact Heap.lt_size e
 | dT kvs=>obtain ⟨_,_,_,_,o,_,_,e,_⟩:=x; exact Heap.lt_size e
 | set S n=>obtain ⟨o,_,_,_,e,_⟩:=x; exact Heap.lt_size e
 | ins C dx fs=>obtain ⟨_,_,_,e,_⟩:=x; exact Heap.lt_size e
 | own y=>obtain ⟨_,e⟩:=x; exact Heap.lt_size e
 | xd fs=>obtain ⟨_,⟨_,_,_,e,_⟩,_⟩:=x; exact Heap.lt_size e
 | rng lo hi=>obtain ⟨_,_,_,e⟩:=x; exact Heap.lt_size e
 | frz ob u=>obtain ⟨e,_⟩:=x; exact Heap.lt_size e
 | tbl ps=>exact Heap.lt_size (show h.get? a=some _ from x)
 | met f y=>exact Heap.lt_size (show h.get? a=some _ from x)
 | ext φ=>obtain ⟨_,⟨_,e⟩,_⟩:=x; exact Heap.lt_size e
theorem Paired.mapP {α β:Type} {F G:α->β->Prop}:∀ {l₁:List α} {l₂:List β},Paired F l₁ l₂->(∀ a b,F a b->G a b)->Paired G l₁ l₂
 | _,_,.nil,_=>.nil
 | _,_,.cons r t,f=>.cons (f _ _ r) (Paired.mapP t f)
theorem yc.stay (x:yc P w H h a o) (k:∀ b u,(b=a\/H b=some (.own a))->h.get? b=some u->h'.get? b=some u)
  (ho:∀ b,H b=some (.own a)->H' b=some (.own a)) (ht:∀ b xs,H b=some (.tup xs)->H' b=some (.tup xs)):yc P w H' h' a o:=by
 induction o with
 | lst xs=>obtain ⟨z,its,n,r,e⟩:=x; exact ⟨z,its,n,r,k _ _ (.inl rfl) e⟩
 | tup xs=>obtain ⟨z,its,r,ob,e,c⟩:=x; exact ⟨z,its,r,ob,k _ _ (.inl rfl) e,c⟩
 | dK kvs=>obtain ⟨z,y,vs,r,ob,es,ep,e,c⟩:=x; exact ⟨z,y,vs,r,ob,es,ep,k _ _ (.inl rfl) e,c⟩
 | dT kvs=>
  obtain ⟨z,y,xs,r,ob,es,ep,e,c⟩:=x
  exact ⟨z,y,xs,Paired.mapP r fun p q z=>⟨z.1,ht _ _ z.2.1,z.2.2⟩,ob,es,ep,k _ _ (.inl rfl) e,c⟩
 | set S n=>obtain ⟨ob,es,ep,t,e,c⟩:=x; exact ⟨ob,es,ep,t,k _ _ (.inl rfl) e,c⟩
 | ins C dx fs=>
  obtain ⟨d,z,ne,e,mA,⟨od,es,ep,e2,c⟩,r⟩:=x
  exact ⟨ho _ d,z,ne,k _ _ (.inl rfl) e,mA,⟨od,es,ep,k _ _ (.inr d) e2,c⟩,r⟩
 | own y=>obtain ⟨ob,e⟩:=x; exact ⟨ob,k _ _ (.inl rfl) e⟩
 | xd fs=>obtain ⟨mA,⟨od,es,ep,e,c⟩,r⟩:=x; exact ⟨mA,⟨od,es,ep,k _ _ (.inl rfl) e,c⟩,r⟩
 | rng lo hi=>obtain ⟨t,u,v,e⟩:=x; exact ⟨t,u,v,k _ _ (.inl rfl) e⟩
 | frz ob u ih=>obtain ⟨e,q⟩:=x; exact ⟨k _ _ (.inl rfl) e,ih q⟩
 | tbl ps=>
  have e:h.get? a=some { cls:=.none,data:=.fields ps }:=x
  show h'.get? a=some { cls:=.none,data:=.fields ps }
  exact k a _ (.inl rfl) e
 | met f y=>
  have e:h.get? a=some (PySem.W.methodObj (.ref f) (.ref y)):=x
  show h'.get? a=some (PySem.W.methodObj (.ref f) (.ref y))
  exact k a _ (.inl rfl) e
 | ext φ=>obtain ⟨p,⟨o,e⟩,st⟩:=x; exact ⟨st _ _ p fun o q=>k _ _ (.inl rfl) q,⟨o,k _ _ (.inl rfl) e⟩,st⟩
theorem ya.lt (x:ya P w H h) (e:H a=some o):a<h.objs.size:=(x a o e).lt
theorem ya.fresh (x:ya P w H h) (e:h.objs.size<=a):H a=none:=by
 cases q:H a with
 | none=>rfl
 | some u=>exact absurd (Nat.lt_of_lt_of_le (x.lt q) e) (Nat.lt_irrefl _)
theorem ya.kept (x:ya P w H h) (k:∀ b u,h.get? b=some u->h'.get? b=some u):ya P w H h':=fun a o e=>
 (x a o e).stay (fun b u _ q=>k b u q) (fun _ q=>q) fun _ _ q=>q
theorem ya.laid (x:ya P w H h) (k:∀ b u,h.get? b=some u->h'.get? b=some u) (hp:h.objs.size<=a) (new:yc P w (zQ H a o) h' a o):ya P w (zQ H a o) h':=fun b u e=>by
 have hn:=x.fresh hp
 by_cases hb:b=a
 ·subst hb; rw [yK] at e; cases e; exact new
 ·rw [zw hb] at e
  exact (x b u e).stay (fun c v _ q=>k c v q) (fun c q=>by rw [zw (wb q hn)]; exact q) fun c xs q=>by rw [zw (wb q hn)]; exact q
end
noncomputable def Rd (H:Hp) (a:Addr) (u:HO):Prop:=H a=some u\/∃ o,H a=some (.frz o u)
theorem Rd.ok {P:Program} {w:World} {H:Hp} {h:Heap} {a:Addr} {u:HO} (r:Rd H a u) (x:ya P w H h):yc P w H h a u:=by
 rcases r with r | ⟨o,r⟩
 ·exact x a u r
 ·obtain ⟨_,q⟩:=x a _ r
  exact q
noncomputable def ga:Option HO->Prop
 | some (.lst _)=>True
 | some (.dK _)=>True
 | some (.dT _)=>True
 | some (.set _ _)=>True
 | some (.ins _ _ _)=>True
 | some (.ext _)=>True
 | _=>False
section
variable {P:Program} {w:World} {H:Hp} {h h':Heap} {x e:Addr} {o':HO}
theorem ya.write (ok:ya P w H h) (mu:ga (H x)) (he:e=x\/H e=some (.own x)) (k:∀ b u,b≠e->h.get? b=some u->h'.get? b=some u) (heo:∃ u,h'.get? e=some u)
  (new:yc P w (zQ H x o') h' x o'):ya P w (zQ H x o') h':=fun b u q=>by
 have nown:∀ c y,H c=some (.own y)->c≠x:=fun c y r z=>by subst z; rw [r] at mu; exact mu
 have ntup:∀ c xs,H c=some (.tup xs)->c≠x:=fun c xs r z=>by subst z; rw [r] at mu; exact mu
 by_cases hb:b=x
 ·subst hb; rw [yK] at q; cases q; exact new
 ·rw [zw hb] at q
  by_cases hbe:b=e
  ·have q':H b=some (.own x):=by
    rcases he with z | z
    ·exact absurd (hbe.trans z) hb
    ·rw [hbe]; exact z
   rw [q] at q'; cases q'
   obtain ⟨v,hv⟩:=heo
   exact ⟨v,by rw [hbe]; exact hv⟩
  ·refine (ok b u q).stay (fun c v hc r=>k c v ?_ r) (fun c r=>by rw [zw (nown c b r)]; exact r) fun c xs r=>by rw [zw (ntup c xs r)]; exact r
   rcases hc with rfl | hc
   ·exact hbe
   ·rintro rfl
    rcases he with z | z
    ·exact nown c b hc z
    ·rw [hc] at z; cases z; exact hb rfl
end
structure Un (fs ex:List Addr) (H H':Hp) (h h':Heap):Prop where
 keep:∀ b o,h.get? b=some o->H b=none->b ∉ fs->b ∉ ex->h'.get? b=some o
 slot:∀ b o,h.get? b=some o->H b=none->b∈fs->b ∉ ex->∃ sl,h'.get? b=some { o with slots:=sl }
 free:∀ b o,h.get? b=some o->H b=none->b ∉ ex->H' b=none
 there:∀ b o,h.get? b=some o->b ∉ ex->∃ o',h'.get? b=some o'
 tups:∀ b xs,H b=some (.tup xs)->H' b=some (.tup xs)
 frzs:∀ b o u,H b=some (.frz o u)->H' b=some (.frz o u)
 tbls:∀ b ps,H b=some (.tbl ps)->∃ more,H' b=some (.tbl (ps++more))
section
variable {fs fs' ex ex':List Addr} {H H1 H2:Hp} {h h1 h2 h':Heap} {a x e:Addr} {o:HO}
theorem Un.any (u:Un fs ex H H1 h h1) {b:Addr} {ob:Obj} (q:h.get? b=some ob) (n:H b=none) (hx:b ∉ ex):∃ sl,h1.get? b=some { ob with slots:=sl }:=by
 by_cases hb:b∈fs
 ·exact u.slot b ob q n hb hx
 ·exact ⟨ob.slots,u.keep b ob q n hb hx⟩
theorem Un.kept (k:∀ b u,h.get? b=some u->h'.get? b=some u):Un fs ex H H h h':=
 ⟨fun b ob q _ _ _=>k b ob q,fun b ob q _ _ _=>⟨ob.slots,k b ob q⟩,fun _ _ _ n _=>n,fun b ob q _=>⟨ob,k b ob q⟩,fun _ _ q=>q,fun _ _ _ q=>q,fun _ ps q=>⟨#[],by rw [q]; simp⟩⟩
theorem Un.refl:Un fs ex H H h h:=Un.kept fun _ _ q=>q
theorem Un.laid (k:∀ b u,h.get? b=some u->h'.get? b=some u) (hp:h.objs.size<=a) (hn:H a=none):Un fs ex H (zQ H a o) h h' where
 keep:=fun b u q _ _ _=>k b u q
 slot:=fun b u q _ _ _=>⟨u.slots,k b u q⟩
 free:=fun b u q n _=>by rw [zw (Nat.ne_of_lt (Nat.lt_of_lt_of_le (Heap.lt_size q) hp))]; exact n
 there:=fun b u q _=>⟨u,k b u q⟩
 tups:=fun b xs q=>by rw [zw (wb q hn)]; exact q
 frzs:=fun b u xs q=>by rw [zw (wb q hn)]; exact q
 tbls:=fun b ps q=>⟨#[],by rw [zw (wb q hn),q]; simp⟩
theorem Un.write (mu:ga (H x)) (he:e=x\/H e=some (.own x)) (k:∀ b u,b≠e->h.get? b=some u->h'.get? b=some u) (heo:∃ u,h'.get? e=some u):Un fs ex H (zQ H x o) h h':=by
 have hx:∀ b,H b=none->b≠x:=fun b n z=>by subst z; rw [n] at mu; exact mu
 have hb:∀ b,H b=none->b≠e:=fun b n z=>by
  subst z
  rcases he with r | r
  ·exact hx b n r
  ·rw [n] at r; cases r
 have hm:∀ b u,H b=some u->¬ ga (some u)->b≠x:=fun b u q nm z=>by subst z; rw [q] at mu; exact nm mu
 refine ⟨fun b u q n _ _=>k b u (hb b n) q,fun b u q n _ _=>⟨u.slots,k b u (hb b n) q⟩,fun b u q n _=>by rw [zw (hx b n)]; exact n,fun b u q _=>?_,
  fun b xs q=>by rw [zw (hm b _ q fun z=>z)]; exact q,fun b u xs q=>by rw [zw (hm b _ q fun z=>z)]; exact q,fun b ps q=>⟨#[],by rw [zw (hm b _ q fun z=>z),q]; simp⟩⟩
 by_cases hbe:b=e
 ·subst hbe; exact heo
 ·exact ⟨u,k b u hbe q⟩
end
noncomputable def W2 (h:Heap) (H:Hp):List Addr:=(List.range h.objs.size).filter fun a=>(H a).isSome
noncomputable def tM (h:Heap) (H:Hp):Heap:=PySem.W.hideAll h (W2 h H)
theorem Mz (h:Heap) (H:Hp):(tM h H).objs.size=h.objs.size:=PySem.W.hideAll_size _ _
theorem Mx {h:Heap} {H:Hp} {b:Addr} {o:Obj} (e:h.get? b=some o) (n:H b=none):(tM h H).get? b=some o:=
 PySem.W.hideAll_get _ e fun hm=>by
  have q:(H b).isSome=true:=(List.mem_filter.mp hm).2
  rw [n] at q; simp at q
theorem DX {h:Heap} {H:Hp} {b:Addr} {o:Obj} (e:(tM h H).get? b=some o):h.get? b=some o/\H b=none:=by
 have e':h.get? b=some o:=PySem.W.of_hideAll (W2 h H) e
 refine ⟨e',?_⟩
 cases q:H b with
 | none=>rfl
 | some x=>
  have hm:b∈W2 h H:=List.mem_filter.mpr ⟨List.mem_range.mpr (Heap.lt_size e'),by simp [q]⟩
  have z:(tM h H).get? b=none:=PySem.W.hideAll_none (W2 h H) hm
  rw [z] at e; cases e
noncomputable def Of (g h:Heap) (L:Addr):List (Addr×Obj):=(List.range h.objs.size).filterMap fun a=>if a=L\/(g.get? a).isSome=true then none else (h.get? a).map fun o=>(a,o)
noncomputable def zc (g h:Heap) (L d:Addr):List (Addr×Obj):=(Of g h L).filter fun p=>decide (p.1≠d)
end L2
namespace L2
open PySem PySem.Spec PyProof.Rows
structure Mod (K:PySem.W.Frag) (mg:Str->Option Value) (base:Heap):Prop where
 kin:K.In base
 glob:base.Ns mainGlobals mg
 blt:∃ mb,base.Ns builtinsNs mb/\∀ x:Str,x ≠ "__name__" -> mb x=bootBuiltins x
 nolimit:base.NoLimit
structure Cx where
 prog:Program
 w:World
 K:PySem.W.Frag
 mg:Str->Option Value
 base:Heap
 A:Around
 N:List Str
 s₀:Shared
 H₀:Hp
 env:Env
 outer:List Env
 stack:List Env
 ex:List Addr
 fn:Str->Bool
 calm:Bool
 pn:List (Addr×Obj)
 xe:Value->Shared->Prop
noncomputable def vg (l:List Env):List Addr:=l.filterMap (·.frame)
noncomputable abbrev Cx.fs (X:Cx):List Addr:=vg X.outer
noncomputable def tJ (sc:Scope) (x:Str):Prop:=sc.names.lookup x=some .local\/sc.names.lookup x=some .cell\/sc.names.lookup x=some .free
noncomputable def uO (sc:Scope) (x:Str):Prop:=sc.names.lookup x=some .local\/sc.names.lookup x=some .cell
noncomputable def OX (env:Env) (h:Heap) (m:Str->Option Value) (x:Str) (u:Value):Prop:=
 (env.kindOf x=some .local/\m x=some u)\/((env.kindOf x=some .cell\/env.kindOf x=some .free)/\∃ c,env.cells.lookup x=some c/\h.IsCell c (some u))
structure Cx.Ok (X:Cx):Prop where
 mod:Mod X.K X.mg X.base
 kind:X.env.scope.kind=.function
 glob:X.env.globals=mainGlobals
 blt:X.env.builtins=builtinsNs
 above:X.s₀.heap.objs.size<=X.env.locals
 inj:∀ x y c,X.env.cells.lookup x=some c->X.env.cells.lookup y=some c->x=y
 has:∀ x,(X.env.kindOf x=some .cell\/X.env.kindOf x=some .free)->∃ c,X.env.cells.lookup x=some c
 cab:∀ x c,X.fn x=true->X.env.cells.lookup x=some c->X.s₀.heap.objs.size<=c
 hd:X.calm=true->X.A.handled=none
 frames:X.A.frames=some X.stack
 stk:X.stack=X.outer\/(X.stack=X.env::X.outer/\X.env.frame=some X.env.locals)
 exf:∀ b∈X.ex,b≠X.env.locals/\∀ x c,X.env.cells.lookup x=some c->c≠b
 bs:∀ b o,X.base.get? b=some o->X.s₀.heap.get? b=some o/\X.H₀ b=none
 bsz:X.base.objs.size<=X.s₀.heap.objs.size
 noex:∀ b o,X.base.get? b=some o->b ∉ X.ex
 exfs:∀ b∈X.ex,b ∉ X.fs
 funs:X.s₀.heap.FunFrames X.base X.outer
 frf:∀ b∈X.fs,X.H₀ b=none
structure zB (X:Cx) (pins:List (Addr×Obj)) (σ:List (Option V)) (H:Hp) (s:Shared):Prop where
 ok:X.Ok
 os:s.os=X.s₀.os
 bare:AllBare s.gens
 base:Un X.fs X.ex X.H₀ H X.s₀.heap s.heap
 loc:∃ m,s.heap.Ns X.env.locals m/\∀ (i:Nat) (x:Str) (v:V),X.N[i]?=some x->σ[i]?=some (some v)->tJ X.env.scope x->∃ u,zX v u/\OX X.env s.heap m x u
 cell:∀ x c,X.env.cells.lookup x=some c->∃ v,s.heap.IsCell c v
 free:H X.env.locals=none
 freeC:∀ x c,X.env.cells.lookup x=some c->H c=none
 pin:∀ p∈X.pn++pins,s.heap.get? p.1=some p.2/\H p.1=none/\p.1≠X.env.locals/\p.1 ∉ X.fs/\∀ v,p.2.data≠.cell v
 hok:ya X.prog X.w H s.heap
 len:σ.length=X.N.length
section
variable {X:Cx} {pins:List (Addr×Obj)} {σ:List (Option V)} {H H':Hp} {s:Shared} {h':Heap}
theorem Cx.Ok.nofr (ok:X.Ok) {b:Addr} {o:Obj} (e:X.base.get? b=some o):b ∉ X.fs:=fun hb=>by
 have:=(ok.funs.mem hb).1
 rw [e] at this; cases this
theorem zB.bs (I:zB X pins σ H s):∀ b o,X.base.get? b=some o->s.heap.get? b=some o/\H b=none:=fun b o e=>
 ⟨I.base.keep b o (I.ok.bs b o e).1 (I.ok.bs b o e).2 (I.ok.nofr e) (I.ok.noex b o e),I.base.free b o (I.ok.bs b o e).1 (I.ok.bs b o e).2 (I.ok.noex b o e)⟩
theorem zB.bk (I:zB X pins σ H s):∀ b o,X.base.get? b=some o->s.heap.get? b=some o:=fun b o e=>(I.bs b o e).1
theorem zB.mod (I:zB X pins σ H s):Mod X.K X.mg X.base:=I.ok.mod
theorem zB.kIn (I:zB X pins σ H s):X.K.In s.heap:=I.ok.mod.kin.keeps I.bk
theorem zB.lt (I:zB X pins σ H s):X.env.locals<s.heap.objs.size:=let ⟨_,hn,_⟩:=I.loc; hn.lt
theorem zB.sz (I:zB X pins σ H s):X.s₀.heap.objs.size<=s.heap.objs.size:=Nat.le_trans I.ok.above (Nat.le_of_lt I.lt)
theorem zB.nofs (I:zB X pins σ H s) {a:Addr} (h:s.heap.objs.size<=a):a ∉ X.fs:=fun hb=>by
 obtain ⟨_,o,ho,_⟩:=I.ok.funs.mem hb
 exact absurd (Nat.lt_of_lt_of_le (Heap.lt_size ho) (Nat.le_trans I.sz h)) (Nat.lt_irrefl _)
theorem zB.cne (I:zB X pins σ H s):∀ x c,X.env.cells.lookup x=some c->c≠X.env.locals:=fun x c e z=>by
 obtain ⟨v,o,ho,hd⟩:=I.cell x c e
 obtain ⟨m,⟨o',es,ep,ho',hd',_⟩,_⟩:=I.loc
 rw [z,ho'] at ho; cases ho; rw [hd'] at hd; cases hd
theorem zB.funs (I:zB X pins σ H s):s.heap.FunFrames X.base X.outer:=by
 have all:∀ (l:List Env),(∀ b∈vg l,b∈X.fs)->X.s₀.heap.FunFrames X.base l->s.heap.FunFrames X.base l:=by
  intro l
  induction l with
  | nil=>intro _ _; trivial
  | cons env r ih=>
   intro hs hl
   obtain ⟨hk,⟨L,o,hf,hn,ho,hd⟩,hr⟩:=hl
   have hL:L∈X.fs:=hs L (by unfold vg; rw [List.filterMap_cons,hf]; exact List.mem_cons_self)
   obtain ⟨sl,e⟩:=I.base.slot L o ho (I.ok.frf L hL) hL fun z=>I.ok.exfs L z hL
   exact ⟨hk,⟨L,_,hf,hn,e,hd⟩,ih (fun b hb=>hs b (by unfold vg; rw [List.filterMap_cons,hf]; exact List.mem_cons_of_mem _ hb)) hr⟩
 exact all X.outer (fun _ hb=>hb) I.ok.funs
theorem zB.stack (I:zB X pins σ H s):s.heap.FunFrames X.base X.stack:=by
 rcases I.ok.stk with e | ⟨e,hf⟩
 ·rw [e]; exact I.funs
 ·rw [e]
  obtain ⟨m,hn,_⟩:=I.loc
  refine .cons (by rw [I.ok.kind]; decide) hf hn ?_ I.funs
  exact Heap.get?_none_of_le (Nat.le_trans I.ok.bsz I.ok.above)
theorem zB.stkSub (I:zB X pins σ H s):∀ b∈vg X.stack,b∈X.env.locals::X.fs:=fun b hb=>by
 rcases I.ok.stk with e | ⟨e,hf⟩
 ·rw [e] at hb; exact List.mem_cons_of_mem _ hb
 ·rw [e] at hb
  unfold vg at hb
  rw [List.filterMap_cons,hf] at hb
  exact hb
theorem zB.stkFree (I:zB X pins σ H s):∀ b∈vg X.stack,H b=none:=fun b hb=>by
 rcases List.mem_cons.mp (I.stkSub b hb) with e | hb
 ·rw [e]; exact I.free
 ·obtain ⟨_,o,ho,_⟩:=I.ok.funs.mem hb
  exact I.base.free b o ho (I.ok.frf b hb) fun z=>I.ok.exfs b z hb
theorem zB.step {g':Array GenState} {t':Nat} {d':Drawn} {ch:List Addr} (I:zB X pins σ H s)
  (hch:∀ b∈ch,(b∈X.ex\/X.s₀.heap.objs.size<=b)/\b≠X.env.locals/\(∀ x c,X.env.cells.lookup x=some c->c≠b)/\∀ p∈X.pn++pins,p.1≠b)
  (keep:∀ b o,b≠X.env.locals->b ∉ X.fs->b ∉ ch->s.heap.get? b=some o->H b=none->h'.get? b=some o)
  (slot:∀ b o,b≠X.env.locals->b∈X.fs->b ∉ ch->s.heap.get? b=some o->H b=none->∃ sl,h'.get? b=some { o with slots:=sl }) (free:∀ b o,b ∉ ch->s.heap.get? b=some o->H b=none->H' b=none)
  (there:∀ b o,b ∉ ch->s.heap.get? b=some o->∃ o',h'.get? b=some o')
  (tups:∀ b xs,H b=some (.tup xs)->H' b=some (.tup xs)) (frzs:∀ b o u,H b=some (.frz o u)->H' b=some (.frz o u)) (tbls:∀ b ps,H b=some (.tbl ps)->∃ more,H' b=some (.tbl (ps++more)))
  (ns:∀ m,s.heap.Ns X.env.locals m->h'.Ns X.env.locals m) (hok:ya X.prog X.w H' h') (hg:AllBare g') :
  zB X pins σ H' { s with heap:=h',gens:=g',drawn:=d',toks:=t' }:=by
 have neL:∀ b o,X.s₀.heap.get? b=some o->b≠X.env.locals:=fun b o e=>Nat.ne_of_lt (Nat.lt_of_lt_of_le (Heap.lt_size e) I.ok.above)
 have neC:∀ b o,X.s₀.heap.get? b=some o->b ∉ X.ex->b ∉ ch:=fun b o e hx hb=>by
  rcases (hch b hb).1 with z | z
  ·exact hx z
  ·exact absurd (Nat.lt_of_lt_of_le (Heap.lt_size e) z) (Nat.lt_irrefl _)
 have cellK:∀ x c,X.env.cells.lookup x=some c->∀ v,s.heap.IsCell c v->h'.IsCell c v:=fun x c e v ⟨o,ho,hd⟩=>by
  have nch:c ∉ ch:=fun z=>(hch c z).2.2.1 x c e rfl
  by_cases hc:c∈X.fs
  ·obtain ⟨sl,q⟩:=slot c o (I.cne x c e) hc nch ho (I.freeC x c e)
   exact ⟨_,q,hd⟩
  ·exact ⟨o,keep c o (I.cne x c e) hc nch ho (I.freeC x c e),hd⟩
 refine ⟨I.ok,I.os,hg,⟨fun b o e n hb hx=>?_,fun b o e n hb hx=>?_,fun b o e n hx=>?_,fun b o e hx=>?_,fun b xs e=>tups b xs (I.base.tups b xs e),fun b o xs e=>frzs b o xs (I.base.frzs b o xs e),fun b ps e=>?_⟩,?_,fun x c e=>?_,?_,fun x c e=>?_,fun p hp=>?_,hok,I.len⟩
 ·exact keep b o (neL b o e) hb (neC b o e hx) (I.base.keep b o e n hb hx) (I.base.free b o e n hx)
 ·obtain ⟨sl,e1⟩:=I.base.slot b o e n hb hx
  obtain ⟨sl',e2⟩:=slot b _ (neL b o e) hb (neC b o e hx) e1 (I.base.free b o e n hx)
  exact ⟨sl',e2⟩
 ·obtain ⟨o',e1⟩:=I.base.there b o e hx
  exact free b o' (neC b o e hx) e1 (I.base.free b o e n hx)
 ·obtain ⟨o',e1⟩:=I.base.there b o e hx
  exact there b o' (neC b o e hx) e1
 ·obtain ⟨m1,e1⟩:=I.base.tbls b ps e
  obtain ⟨m2,e2⟩:=tbls b _ e1
  exact ⟨m1++m2,by rw [e2,Array.append_assoc]⟩
 ·obtain ⟨m,hn,hl⟩:=I.loc
  refine ⟨m,ns m hn,fun i x v e1 e2 e3=>?_⟩
  obtain ⟨u,r,l⟩:=hl i x v e1 e2 e3
  refine ⟨u,r,?_⟩
  rcases l with l | ⟨k,c,e,z⟩
  ·exact .inl l
  ·exact .inr ⟨k,c,e,cellK x c e _ z⟩
 ·obtain ⟨v,z⟩:=I.cell x c e
  exact ⟨v,cellK x c e v z⟩
 ·obtain ⟨m,⟨o,_,_,ho,_⟩,_⟩:=I.loc
  exact free _ o (fun z=>(hch _ z).2.1 rfl) ho I.free
 ·obtain ⟨v,o,ho,hd⟩:=I.cell x c e
  exact free c o (fun z=>(hch c z).2.2.1 x c e rfl) ho (I.freeC x c e)
 ·obtain ⟨e,n,ne,nf,d⟩:=I.pin p hp
  have nch:p.1 ∉ ch:=fun z=>(hch p.1 z).2.2.2 p hp rfl
  exact ⟨keep p.1 p.2 ne nf nch e n,free p.1 p.2 nch e n,ne,nf,d⟩
theorem zB.un {t':Nat} (I:zB X pins σ H s) (u:Un X.fs [] H H' s.heap h') (hok:ya X.prog X.w H' h'):zB X pins σ H' { s with heap:=h',toks:=t' }:=by
 obtain ⟨m,⟨o,es,ep,ho,r⟩,_⟩:=id I.loc
 obtain ⟨sl,hL⟩:=u.any ho I.free (by simp)
 exact I.step (g':=s.gens) (d':=s.drawn) (ch:=[]) (fun _ z=>nomatch z) (fun b o _ hb _ e n=>u.keep b o e n hb (by simp)) (fun b o _ hb _ e n=>u.slot b o e n hb (by simp)) (fun b o _ e n=>u.free b o e n (by simp)) (fun b o _ e=>u.there b o e (by simp)) u.tups u.frzs u.tbls (fun m' hm=>by
  obtain ⟨o',es',ep',ho',r'⟩:=hm
  rw [ho] at ho'; cases ho'
  exact ⟨_,es',ep',hL,r'⟩) hok I.bare
theorem zB.call {g':Array GenState} {t':Nat} {d':Drawn} {ch:List Addr} (I:zB X pins σ H s) (u:Un (vg X.stack) ch H H' s.heap h') (hok:ya X.prog X.w H' h') (hg:AllBare g')
  (hch:∀ b∈ch,(b∈X.ex\/X.s₀.heap.objs.size<=b)/\b≠X.env.locals/\(∀ x c,X.env.cells.lookup x=some c->c≠b)/\∀ p∈X.pn++pins,p.1≠b) :
  zB X pins σ H' { s with heap:=h',gens:=g',drawn:=d',toks:=t' }:=by
 obtain ⟨m,⟨o,es,ep,ho,r⟩,_⟩:=id I.loc
 obtain ⟨sl,hL⟩:=u.any ho I.free fun z=>(hch _ z).2.1 rfl
 exact I.step (ch:=ch) hch (fun b o hL hb hc e n=>u.keep b o e n (fun z=>(List.mem_cons.mp (I.stkSub b z)).elim hL hb) hc) (fun b o _ _ hc e n=>u.any e n hc) (fun b o hc e n=>u.free b o e n hc) (fun b o hc e=>u.there b o e hc) u.tups u.frzs u.tbls (fun m' hm=>by
  obtain ⟨o',es',ep',ho',r'⟩:=hm
  rw [ho] at ho'; cases ho'
  exact ⟨_,es',ep',hL,r'⟩) hok hg
theorem zB.turned {t':Nat} {it:Addr} (I:zB X pins σ H s) (k:∀ b o,b≠it->s.heap.get? b=some o->h'.get? b=some o) (hn:H it=none) (hL:it≠X.env.locals)
  (h1:it∈X.ex\/X.s₀.heap.objs.size<=it) (h2:∀ x c,X.env.cells.lookup x=some c->c≠it) (h3:∀ p∈X.pn++pins,p.1≠it):zB X pins σ H { s with heap:=h',toks:=t' }:=by
 have nit:∀ b u,H b=some u->b≠it:=fun b u e z=>by rw [z,hn] at e; cases e
 refine I.step (g':=s.gens) (d':=s.drawn) (ch:=[it]) (fun b hb=>?_) (fun b o _ _ hc e _=>k b o (fun z=>hc (by simp [z])) e) (fun b o _ _ hc e _=>⟨o.slots,k b o (fun z=>hc (by simp [z])) e⟩) (fun _ _ _ _ n=>n)
  (fun b o hc e=>⟨o,k b o (fun z=>hc (by simp [z])) e⟩) (fun _ _ e=>e) (fun _ _ _ e=>e) (fun b ps e=>⟨#[],by rw [e]; simp⟩) (fun m hm=>?_) (fun b u e=>?_) I.bare
 ·have e:b=it:=by simpa using hb
  subst e
  exact ⟨h1,hL,h2,h3⟩
 ·obtain ⟨o,es,ep,ho,r⟩:=hm
  exact ⟨o,es,ep,k _ o (Ne.symm hL) ho,r⟩
 ·refine (I.hok b u e).stay (fun c v hc q=>k c v ?_ q) (fun _ q=>q) fun _ _ q=>q
  rcases hc with z | z
  ·rw [z]; exact nit b u e
  ·exact nit c _ z
theorem zB.tok (I:zB X pins σ H s) (t:Nat):zB X pins σ H { s with toks:=t }:=I.un (h':=s.heap) (t':=t) Un.refl I.hok
theorem zB.kept {t':Nat} (I:zB X pins σ H s) (k:∀ b u,s.heap.get? b=some u->h'.get? b=some u):zB X pins σ H { s with heap:=h',toks:=t' }:=I.un (Un.kept k) (I.hok.kept k)
theorem zB.laid {a:Addr} {o:HO} {t':Nat} (I:zB X pins σ H s) (k:∀ b u,s.heap.get? b=some u->h'.get? b=some u) (hp:s.heap.objs.size<=a) (new:yc X.prog X.w (zQ H a o) h' a o) :
  zB X pins σ (zQ H a o) { s with heap:=h',toks:=t' }:=I.un (Un.laid k hp (I.hok.fresh hp)) (I.hok.laid k hp new)
theorem zB.write {x e:Addr} {o:HO} {t':Nat} (I:zB X pins σ H s) (mu:ga (H x)) (he:e=x\/H e=some (.own x)) (k:∀ b u,b≠e->s.heap.get? b=some u->h'.get? b=some u) (heo:∃ u,h'.get? e=some u)
  (new:yc X.prog X.w (zQ H x o) h' x o):zB X pins σ (zQ H x o) { s with heap:=h',toks:=t' }:=I.un (Un.write mu he k heo) (I.hok.write mu he k heo new)
theorem zB.weak {σ':List (Option V)} (I:zB X pins σ H s) (hl:σ'.length=σ.length) (w:∀ (i:Nat) v,σ'[i]?=some (some v)->σ[i]?=some (some v)):zB X pins σ' H s:=
 ⟨I.ok,I.os,I.bare,I.base,let ⟨m,hn,hl'⟩:=I.loc; ⟨m,hn,fun i x v e1 e2 e3=>hl' i x v e1 (w i v e2) e3⟩,I.cell,I.free,I.freeC,I.pin,I.hok,hl.trans I.len⟩
theorem zB.pins_of {pins':List (Addr×Obj)} (I:zB X pins σ H s) (h:∀ p∈pins',s.heap.get? p.1=some p.2/\H p.1=none/\p.1≠X.env.locals/\p.1 ∉ X.fs/\∀ v,p.2.data≠.cell v):zB X pins' σ H s:=
 ⟨I.ok,I.os,I.bare,I.base,I.loc,I.cell,I.free,I.freeC,fun p hp=>(List.mem_append.mp hp).elim (fun z=>I.pin p (List.mem_append_left _ z)) (h p),I.hok,I.len⟩
theorem JO {N:List Str} (hN:N.Nodup) {i j:Nat} {x:Str} (a:N[i]?=some x) (b:N[j]?=some x):i=j:=by
 obtain ⟨h1,e1⟩:=List.getElem?_eq_some_iff.mp a
 obtain ⟨h2,e2⟩:=List.getElem?_eq_some_iff.mp b
 exact (List.getElem_inj hN).mp (e1.trans e2.symm)
theorem O5 {M:Model} {A:Around} {E:Value->Shared->Prop} {i:Nat} {x:Str} {v:V} {u:Value} {Q:Unit->Shared->Prop} (I:zB X pins σ H s) (hN:X.N.Nodup) (hi:X.N[i]?=some x) (hx:uO X.env.scope x) (r:zX v u)
  (h:∀ s',zB X pins (σ.set i (some v)) H s'->(∃ a,Heap.SameBut a s.heap s'.heap/\(a=X.env.locals\/X.env.cells.lookup x=some a))->Q () s') (hf:X.fn x=true\/X.env.scope.names.lookup x=some .local:=by first | exact .inl rfl | exact .inr rfl | assumption):wpAny M A (storeName X.env x u) Q E s:=by
 obtain ⟨m,hn,hl⟩:=id I.loc
 have hcls:(X.env.scope.kind == .class||(X.env.scope.kind == .module&&X.env.locals != X.env.globals))=false:=by rw [I.ok.kind]; rfl
 have hiσ:i<σ.length:=by rw [I.len]; exact (List.getElem?_eq_some_iff.mp hi).1
 have cne:=I.cne
 have tracked:∀ {a:Addr} {h':Heap},(∃ o,s.heap.get? a=some o/\H a=none)->Heap.SameBut a s.heap h'->ya X.prog X.w H h':=fun {a h'} ha hs b ob e=>by
  obtain ⟨_,_,hfree⟩:=ha
  refine (I.hok b ob e).stay (fun c w' hc q=>(hs.2 c ?_).trans q) (fun _ q=>q) fun _ _ q=>q
  rintro rfl
  rcases hc with rfl | hc
  ·rw [hfree] at e; cases e
  ·rw [hfree] at hc; cases hc
 rcases hx with hk | hk
 ·refine wpAny_storeName_local hk hn (fun h' hn' hs=>?_) hcls
  obtain ⟨oL,_,_,hoL,_⟩:=id hn
  refine h _ ⟨I.ok,I.os,I.bare,⟨fun b o e n hb hx=>?_,fun b o e n hb hx=>?_,I.base.free,fun b o e hx=>?_,I.base.tups,I.base.frzs,I.base.tbls⟩,⟨_,hn',fun j y v' e1 e2 e3=>?_⟩,fun y c e=>?_,I.free,I.freeC,fun p hp=>?_,tracked ⟨oL,hoL,I.free⟩ hs,by simpa using I.len⟩ ⟨_,hs,.inl rfl⟩
  ·exact (hs.2 b (Nat.ne_of_lt (Nat.lt_of_lt_of_le (Heap.lt_size e) I.ok.above))).trans (I.base.keep b o e n hb hx)
  ·obtain ⟨sl,e1⟩:=I.base.slot b o e n hb hx
   exact ⟨sl,(hs.2 b (Nat.ne_of_lt (Nat.lt_of_lt_of_le (Heap.lt_size e) I.ok.above))).trans e1⟩
  ·obtain ⟨o',e1⟩:=I.base.there b o e hx
   exact ⟨o',(hs.2 b (Nat.ne_of_lt (Nat.lt_of_lt_of_le (Heap.lt_size e) I.ok.above))).trans e1⟩
  ·by_cases hj:j=i
   ·subst hj
    rw [hi] at e1; cases e1
    rw [List.getElem?_set_self hiσ] at e2
    cases e2
    exact ⟨u,r,.inl ⟨hk,by simp⟩⟩
   ·rw [List.getElem?_set_ne (Ne.symm hj)] at e2
    obtain ⟨u',r',q⟩:=hl j y v' e1 e2 e3
    refine ⟨u',r',?_⟩
    rcases q with ⟨k,e⟩ | ⟨k,c,e,z⟩
    ·refine .inl ⟨k,?_⟩
     have:y≠x:=fun e=>hj (JO hN e1 (e ▸ hi))
     simp [this,e]
    ·exact .inr ⟨k,c,e,z.sameBut hs (cne y c e)⟩
  ·obtain ⟨w',z⟩:=I.cell y c e
   exact ⟨w',z.sameBut hs (cne y c e)⟩
  ·obtain ⟨e,n,ne,nf,d⟩:=I.pin p hp
   exact ⟨(hs.2 p.1 ne).trans e,n,ne,nf,d⟩
 ·have hfn:X.fn x=true:=by
   rcases hf with z | z
   ·exact z
   ·rw [z] at hk; cases hk
  obtain ⟨c,hc⟩:=I.ok.has x (.inl hk)
  obtain ⟨w',z⟩:=I.cell x c hc
  refine wpAny_storeName_cell I.ok.kind hk hc z (fun h' hc' hs=>?_)
  obtain ⟨oc,hoc,hocd⟩:=id z
  refine h { s with heap:=h' } ⟨I.ok,I.os,I.bare,⟨fun b o e n hb hx=>?_,fun b o e n hb hx=>?_,I.base.free,fun b o e hx=>?_,I.base.tups,I.base.frzs,I.base.tbls⟩,⟨m,hn.sameBut hs (Ne.symm (cne x c hc)),fun j y v' e1 e2 e3=>?_⟩,fun y c' e=>?_,I.free,I.freeC,fun p hp=>?_,tracked ⟨oc,hoc,I.freeC x c hc⟩ hs,by simpa using I.len⟩ ⟨c,hs,.inr hc⟩
  ·exact (hs.2 b (Nat.ne_of_lt (Nat.lt_of_lt_of_le (Heap.lt_size e) (I.ok.cab x c hfn hc)))).trans (I.base.keep b o e n hb hx)
  ·obtain ⟨sl,e1⟩:=I.base.slot b o e n hb hx
   exact ⟨sl,(hs.2 b (Nat.ne_of_lt (Nat.lt_of_lt_of_le (Heap.lt_size e) (I.ok.cab x c hfn hc)))).trans e1⟩
  ·obtain ⟨o',e1⟩:=I.base.there b o e hx
   exact ⟨o',(hs.2 b (Nat.ne_of_lt (Nat.lt_of_lt_of_le (Heap.lt_size e) (I.ok.cab x c hfn hc)))).trans e1⟩
  ·by_cases hj:j=i
   ·subst hj
    rw [hi] at e1; cases e1
    rw [List.getElem?_set_self hiσ] at e2
    cases e2
    exact ⟨u,r,.inr ⟨.inl hk,c,hc,hc'⟩⟩
   ·rw [List.getElem?_set_ne (Ne.symm hj)] at e2
    obtain ⟨u',r',q⟩:=hl j y v' e1 e2 e3
    refine ⟨u',r',?_⟩
    rcases q with q | ⟨k,c',e,z'⟩
    ·exact .inl q
    ·refine .inr ⟨k,c',e,z'.sameBut hs ?_⟩
     rintro rfl
     exact hj (JO hN e1 (I.ok.inj _ _ _ e hc ▸ hi))
  ·by_cases hcc:c'=c
   ·subst hcc; exact ⟨_,hc'⟩
   ·obtain ⟨w2,z2⟩:=I.cell y c' e
    exact ⟨w2,z2.sameBut hs hcc⟩
  ·obtain ⟨e,n,ne,nf,d⟩:=I.pin p hp
   refine ⟨(hs.2 p.1 ?_).trans e,n,ne,nf,d⟩
   intro q
   rw [q,hoc] at e
   have q':oc=p.2:=Option.some.inj e
   exact d w' (by rw [<- q']; exact hocd)
theorem Ue {M:Model} {A:Around} {E:Value->Shared->Prop} {i:Nat} {x:Str} {v:V} {u:Value} {Q:Unit->Shared->Prop} (I:zB X pins σ H s) (hN:X.N.Nodup) (hi:X.N[i]?=some x) (hx:uO X.env.scope x) (r:zX v u)
  (h:∀ s',zB X pins (σ.set i (some v)) H s'->Q () s') (hf:X.fn x=true\/X.env.scope.names.lookup x=some .local:=by first | exact .inl rfl | exact .inr rfl | assumption):wpAny M A (storeName X.env x u) Q E s:=
 O5 I hN hi hx r (fun s' I' _=>h s' I') hf
theorem zB.call' {s':Shared} {ch:List Addr} (I:zB X pins σ H s) (ho:s'.os=s.os) (u:Un (vg X.stack) ch H H' s.heap s'.heap) (hok:ya X.prog X.w H' s'.heap) (hg:AllBare s'.gens)
  (hch:∀ b∈ch,(b∈X.ex\/X.s₀.heap.objs.size<=b)/\b≠X.env.locals/\(∀ x c,X.env.cells.lookup x=some c->c≠b)/\∀ p∈X.pn++pins,p.1≠b):zB X pins σ H' s':=by
 obtain ⟨h',g',d',t',o'⟩:=s'
 have e:o'=s.os:=ho
 subst e
 exact I.call (g':=g') (t':=t') (d':=d') u hok hg hch
end
noncomputable abbrev XK:=Value->Option Addr->Hp->Prop
noncomputable abbrev St:=List (Option V)
noncomputable abbrev VK:=V->Hp->Prop
noncomputable abbrev TE:=St->Hp->VK->Prop
noncomputable abbrev TT:=St->Hp->(Bool->Hp->Prop)->Prop
noncomputable abbrev TA:=St->Hp->(List V->Hp->Prop)->Prop
structure we where
 nx:St->Hp->Prop
 rt:VK
 bk:St->Hp->Prop:=fun _ _=>False
 ct:St->Hp->Prop:=fun _ _=>False
noncomputable abbrev TS:=we->St->Hp->Prop
noncomputable def EP (X:Cx) (pins:List (Addr×Obj)) (σ:St) (Q:VK) (u:Value) (s':Shared):Prop:=∃ v H',zB X pins σ H' s'/\zX v u/\Q v H'
noncomputable def TP (X:Cx) (pins:List (Addr×Obj)) (σ:St) (Q:Bool->Hp->Prop) (b:Bool) (s':Shared):Prop:=∃ H',zB X pins σ H' s'/\Q b H'
noncomputable def AP (X:Cx) (pins:List (Addr×Obj)) (σ:St) (Q:List V->Hp->Prop) (us:List Value) (s':Shared):Prop:=∃ vs H',zB X pins σ H' s'/\zb vs us/\Q vs H'
noncomputable def SP (X:Cx) (pins:List (Addr×Obj)) (D:we) (f:Flow) (s':Shared):Prop:=
 match f with
 | .next=>∃ σ' H',zB X pins σ' H' s'/\D.nx σ' H'
 | .brk=>∃ σ' H',zB X pins σ' H' s'/\D.bk σ' H'
 | .cont=>∃ σ' H',zB X pins σ' H' s'/\D.ct σ' H'
 | .ret u=>∃ v σ' H',zB X pins σ' H' s'/\zX v u/\D.rt v H'
noncomputable def PE (X:Cx) (e:Expr) (t:TE):Prop:=
 ∀ (pins:List (Addr×Obj)) (s:Shared) (σ:St) (H:Hp) (Q:VK),zB X pins σ H s->t σ H Q->wpAny (model X.prog X.w) X.A (eval e X.env) (EP X pins σ Q) X.xe s
noncomputable def PT (X:Cx) (e:Expr) (t:TT):Prop:=
 ∀ (pins:List (Addr×Obj)) (s:Shared) (σ:St) (H:Hp) (Q:Bool->Hp->Prop),zB X pins σ H s->t σ H Q->wpAny (model X.prog X.w) X.A (isTrue e X.env (eval e X.env)) (TP X pins σ Q) X.xe s
noncomputable def PW (X:Cx) (e:Expr) (t:TT):Prop:=
 ∀ (whole:Sem Value) (pins:List (Addr×Obj)) (s:Shared) (σ:St) (H:Hp) (Q:Bool->Hp->Prop),zB X pins σ H s->t σ H Q->wpAny (model X.prog X.w) X.A (isTrue e X.env whole) (TP X pins σ Q) X.xe s
theorem PW.pt {X:Cx} {e:Expr} {t:TT} (h:PW X e t):PT X e t:=h _
noncomputable def PA (X:Cx) (es:List Expr) (t:TA):Prop:=
 ∀ (pos:Pos) (pins:List (Addr×Obj)) (s:Shared) (σ:St) (H:Hp) (Q:List V->Hp->Prop),zB X pins σ H s->t σ H Q->wpAny (model X.prog X.w) X.A (spliced (backTo pos (starEach es X.env))) (AP X pins σ Q) X.xe s
noncomputable def PS (X:Cx) (st:Stmt) (t:TS):Prop:=
 ∀ (pins:List (Addr×Obj)) (s:Shared) (σ:St) (H:Hp) (D:we),zB X pins σ H s->t D σ H->wpAny (model X.prog X.w) X.A (exec st X.env) (SP X pins D) X.xe s
noncomputable def wV (X:Cx) (st:List Stmt) (t:TS):Prop:=
 ∀ (pins:List (Addr×Obj)) (s:Shared) (σ:St) (H:Hp) (D:we),zB X pins σ H s->t D σ H->wpAny (model X.prog X.w) X.A (execs st X.env) (SP X pins D) X.xe s
theorem za {α:Type} {t:Sem α} {Q Q':α->Shared->Prop} {M:Model} {A:Around} {E:Value->Shared->Prop} {s:Shared} (h:wpAny M A t Q E s) (hQ:∀ a s,Q a s->Q' a s):wpAny M A t Q' E s:=wpAny_mono h hQ fun _ _ x=>x
end L2
namespace L2
open PySem PySem.Spec PyProof.Rows
section
variable {X:Cx}
noncomputable def W1 (i:Nat):TE:=fun σ H Q=>∃ v,σ[i]?=some (some v)/\Q v H
noncomputable def tC (v:V):TE:=fun _ H Q=>Q v H
theorem gF {i:Nat} {x:Str} {pos:Pos} (hN:X.N[i]?=some x) (hv:tJ X.env.scope x) (hd:(x == ("__debug__" : Str))=false:=by decide) (hcd:(x == ("__classdict__" : Str))=false:=by decide):PE X (.Name x pos) (W1 i):=by
 intro pins s σ H Q I h
 obtain ⟨v,e,h⟩:=h
 obtain ⟨m,hn,hl⟩:=I.loc
 obtain ⟨u,r,l⟩:=hl i x v hN e hv
 have fin:EP X pins σ Q u s:=⟨v,H,I,r,h⟩
 rcases l with ⟨hk,hm⟩ | ⟨hk,c,hc,hcell⟩
 ·exact wpAny_Name (wpAny_loadName_local I.ok.kind hk hn hm fin) hd
 ·rcases hk with hk | hk
  ·exact wpAny_Name (wpAny_loadName_cell I.ok.kind hk hc hcell fin) hd
  ·exact wpAny_Name (wpAny_loadName_free I.ok.kind hk hc hcell fin hcd) hd
theorem Ji {i j pos}:PE X (.Constant (.int i) j pos) (tC (.int i)):=fun _ _ _ H _ I h=>wpAny_Constant_int ⟨.int i,H,I.tok _,⟨_,rfl⟩,h⟩
theorem Ce {b j pos}:PE X (.Constant (.bool b) j pos) (tC (.bl b)):=fun _ _ _ H _ I h=>Constant_bool ⟨.bl b,H,I,rfl,h⟩
theorem Cv {j pos}:PE X (.Constant .none j pos) (tC .non):=fun _ _ _ H _ I h=>Constant_none ⟨.non,H,I,rfl,h⟩
theorem kZ {x j pos}:PE X (.Constant (.str x) j pos) (tC (.str x)):=fun _ _ _ H _ I h=>Calls.Constant_str ⟨.str x,H,I.tok _,⟨_,rfl⟩,h⟩
noncomputable def Gl (X:Cx) (x:Str):Prop:=X.env.kindOf x=some .globalImplicit
theorem XY {E:Value->Shared->Prop} {pins:List (Addr×Obj)} {s:Shared} {σ:St} {H:Hp} {x:Str} {u:Value} {pos:Pos} {Q:Value->Shared->Prop} (I:zB X pins σ H s) (hg:Gl X x) (hm:X.mg x=some u) (h:Q u s)
  (hd:(x == ("__debug__" : Str))=false:=by decide):wpAny (model X.prog X.w) X.A (eval (.Name x pos) X.env) Q E s:=
 Calls.Name_function_global I.ok.kind hg (Calls.loadGlobal_global (by rw [I.ok.glob]; exact I.mod.glob.keeps I.bk) hm h) hd
theorem jv {E:Value->Shared->Prop} {pins:List (Addr×Obj)} {s:Shared} {σ:St} {H:Hp} {x:Str} {u:Value} {pos:Pos} {Q:Value->Shared->Prop} (I:zB X pins σ H s) (hg:Gl X x) (hm:X.mg x=none) (hv:bootBuiltins x=some u) (h:Q u s)
  (hn:x ≠ "__name__" := by decide) (hd:(x == ("__debug__" : Str))=false:=by decide):wpAny (model X.prog X.w) X.A (eval (.Name x pos) X.env) Q E s:=by
 obtain ⟨mb,h1,h2⟩:=I.mod.blt
 exact Calls.Name_function_global I.ok.kind hg (Calls.loadGlobal_builtin (by rw [I.ok.glob]; exact I.mod.glob.keeps I.bk) hm (by rw [I.ok.blt]; exact h1.keeps I.bk) ((h2 x hn).trans hv) h) hd
theorem Cq {x:Str} {v:V} {u:Value} {pos:Pos} (hg:Gl X x) (hm:X.mg x=some u) (r:zX v u) (hd:(x == ("__debug__" : Str))=false:=by decide):PE X (.Name x pos) (tC v):=
 fun _ _ _ H _ I h=>XY I hg hm ⟨v,H,I,r,h⟩ hd
theorem Cf {x:Str} {v:V} {u:Value} {pos:Pos} (hg:Gl X x) (hm:X.mg x=none) (hv:bootBuiltins x=some u) (r:zX v u) (hn:x ≠ "__name__" := by decide) (hd:(x == ("__debug__" : Str))=false:=by decide):PE X (.Name x pos) (tC v):=
 fun _ _ _ H _ I h=>jv I hg hm hv ⟨v,H,I,r,h⟩ hn hd
variable {a b:Expr} {ta tb:TE} {pos:Pos}
noncomputable def tB (t:TE):TT:=fun σ H Q=>t σ H fun x H1=>∃ c,x=.bl c/\Q c H1
theorem EX {e:Expr} {t:TE} (h:PE X e t) (he:∀ whole,isTrue e X.env whole=(do let v <- whole; standAt e.pos; holding [v] (truthy v)):=by intro _; rfl):PT X e (tB t):=by
 intro pins s σ H Q I hw
 refine isTrue_plain (za (h pins s σ H _ I hw) fun v s1 ⟨x,H1,I1,r1,q1⟩=>?_) (he _)
 obtain ⟨d,rfl,q⟩:=q1
 cases r1
 exact wpAny_truthy_bool ⟨H1,I1,q⟩
variable {tA tB':TT} {zc:List Expr}
noncomputable def N6 (t u:TT):TT:=fun σ H Q=>t σ H fun c H1=>if c=true then Q true H1 else u σ H1 Q
noncomputable def N4 (t:TT):TT:=fun σ H Q=>t σ H fun c H1=>Q (!c) H1
theorem ID (ha:PT X a tA):PW X (.BoolOp .Or [a] pos) tA:=by
 intro wh pins s σ H Q I h
 refine isTrue_or (za (ha pins s σ H Q I h) fun c s1 e=>?_)
 cases c with
 | false=>exact isTrue_or_nil e
 | true=>exact e
theorem IC (ha:PT X a tA) (hb:PW X (.BoolOp .Or (b::zc) pos) tB'):PW X (.BoolOp .Or (a::b::zc) pos) (N6 tA tB'):=by
 intro wh pins s σ H Q I h
 refine isTrue_or (za (ha pins s σ H _ I h) fun c s1 ⟨H1,I1,q1⟩=>?_)
 cases c with
 | true=>exact ⟨H1,I1,q1⟩
 | false=>exact hb wh pins s1 σ H1 Q I1 q1
theorem EW (ha:PT X a tA):PT X (.UnaryOp .Not a pos) (N4 tA):=by
 intro pins s σ H Q I h
 exact isTrue_not (ha pins s σ H (fun c H1=>Q (!c) H1) I h)
noncomputable def Kn (ta tb:TE):TE:=fun σ H Q=>ta σ H fun x H1=>∃ c,x=.bl c/\if c=true then tb σ H1 Q else Q (.bl false) H1
noncomputable def N7 (ta tb:TE):TE:=fun σ H Q=>ta σ H fun x H1=>∃ c,x=.bl c/\if c=true then Q (.bl true) H1 else tb σ H1 Q
noncomputable def N5 (ta:TE):TE:=fun σ H Q=>ta σ H fun x H1=>∃ c,x=.bl c/\Q (.bl (!c)) H1
theorem Jk {op} {t:TE} (h:PE X a t):PE X (.BoolOp op [a] pos) t:=fun pins s σ H Q I hw=>BoolOp_one (h pins s σ H Q I hw)
theorem Je (ha:PE X a ta) (hb:PE X (.BoolOp .And (b::zc) pos) tb):PE X (.BoolOp .And (a::b::zc) pos) (Kn ta tb):=by
 intro pins s σ H Q I h
 refine BoolOp_and (za (ha pins s σ H _ I h) fun v s1 ⟨x,H1,I1,r1,q1⟩=>?_)
 obtain ⟨c,rfl,q1⟩:=q1
 cases r1
 refine wpAny_truthy_bool ?_
 cases c with
 | true=>exact hb pins s1 σ H1 Q I1 q1
 | false=>exact ⟨.bl false,H1,I1,rfl,q1⟩
theorem Cy (ha:PE X a ta) (hb:PE X (.BoolOp .Or (b::zc) pos) tb):PE X (.BoolOp .Or (a::b::zc) pos) (N7 ta tb):=by
 intro pins s σ H Q I h
 refine BoolOp_or (za (ha pins s σ H _ I h) fun v s1 ⟨x,H1,I1,r1,q1⟩=>?_)
 obtain ⟨c,rfl,q1⟩:=q1
 cases r1
 refine wpAny_truthy_bool ?_
 cases c with
 | false=>exact hb pins s1 σ H1 Q I1 q1
 | true=>exact ⟨.bl true,H1,I1,rfl,q1⟩
theorem Cw (ha:PE X a ta):PE X (.UnaryOp .Not a pos) (N5 ta):=by
 intro pins s σ H Q I h
 refine UnaryOp_ (za (ha pins s σ H _ I h) fun v s1 ⟨x,H1,I1,r1,q1⟩=>?_)
 obtain ⟨c,rfl,q1⟩:=q1
 cases r1
 exact not_of (wpAny_truthy_bool ⟨.bl (!c),H1,I1,rfl,q1⟩)
noncomputable def Ky (t:TT) (ta tb:TE):TE:=fun σ H Q=>t σ H fun c H1=>if c=true then ta σ H1 Q else tb σ H1 Q
theorem Cr {c:Expr} (hc:PT X c tA) (ha:PE X a ta) (hb:PE X b tb):PE X (.IfExp c a b pos) (Ky tA ta tb):=by
 intro pins s σ H Q I h
 refine wpAny_IfExp (za (hc pins s σ H _ I h) fun d s1 ⟨H1,I1,q1⟩=>?_)
 cases d with
 | true=>exact ha pins s1 σ H1 Q I1 q1
 | false=>exact hb pins s1 σ H1 Q I1 q1
end
end L2
namespace L2
open PySem PySem.Spec PyProof.Rows
noncomputable def yB (K:PySem.W.Frag) (H:Hp) (a:Addr) (xs:List V):Prop:=
 Rd H a (.lst xs) \/
  ∃ (o:Obj) (its:Array Value) (n:Nat),K.lookup a=some o/\o.cls=.type "list" /\ o.dict=none/\o.data=.seq its n/\its.size<=sizeLine/\zb xs its.toList
noncomputable def yQ (K:PySem.W.Frag) (H:Hp) (a:Addr) (xs:List V):Prop:=
 Rd H a (.tup xs) \/
  ∃ (o:Obj) (its:Array Value) (n:Nat),K.lookup a=some o/\o.cls=.type "tuple" /\ o.data=.seq its n/\its.size<=sizeLine/\zb xs its.toList
noncomputable def Od:Value->Option V
 | .none=>some .non
 | .bool b=>some (.bl b)
 | .int i _=>some (.int i)
 | .str x _=>some (.str x)
 | .bytes b _=>some (.byt b)
 | .float b _=>some (.flt b)
 | .ref a=>some (.ref a)
 | .type n=>some (.ty n)
 | _=>none
theorem zX.abs {x:V} {u:Value} (r:zX x u):Od u=some x:=by
 cases x with
 | non=>cases r; rfl
 | bl _=>cases r; rfl
 | int _=>obtain ⟨t,rfl⟩:=r; rfl
 | str _=>obtain ⟨t,rfl⟩:=r; rfl
 | byt _=>obtain ⟨t,rfl⟩:=r; rfl
 | flt _=>obtain ⟨t,rfl⟩:=r; rfl
 | ref _=>cases r; rfl
 | ty _=>cases r; rfl
theorem zX.inj {x y:V} {u:Value} (r:zX x u) (q:zX y u):x=y:=Option.some.inj (r.abs.symm.trans q.abs)
theorem zb.inj:∀ {xs ys:List V} {us:List Value},zb xs us->zb ys us->xs=ys
 | _,_,_,.nil,.nil=>rfl
 | _,_,_,.cons r t,.cons r' t'=>by rw [r.inj r',zb.inj t t']
section
variable {X:Cx} {pins:List (Addr×Obj)} {σ:St} {H:Hp} {s:Shared} {a:Addr} {xs ys:List V}
theorem yB.of {K:PySem.W.Frag} (h:H a=some (.lst xs)):yB K H a xs:=.inl (.inl h)
theorem yQ.of {K:PySem.W.Frag} (h:H a=some (.tup xs)):yQ K H a xs:=.inl (.inl h)
theorem zB.list (I:zB X pins σ H s) (h:yB X.K H a xs):∃ its:List Value,zb xs its/\PlainL s.heap a its.toArray/\xs.length<=sizeLine:=by
 rcases h with h | ⟨o,its,n,hk,hc,hd,hs,hz,r⟩
 ·obtain ⟨z,its,n,r,e⟩:=h.ok I.hok
  exact ⟨its,r,⟨_,n,e,rfl,rfl,rfl⟩,z⟩
 ·refine ⟨its.toList,r,⟨o,n,I.kIn a o hk,hc,hd,by simpa using hs⟩,?_⟩
  have e:=r.length
  simp only [Array.length_toList] at e
  omega
theorem zB.tuple (I:zB X pins σ H s) (h:yQ X.K H a xs):∃ its:List Value,zb xs its/\IsTup s.heap a its.toArray/\xs.length<=sizeLine:=by
 rcases h with h | ⟨o,its,n,hk,hc,hs,hz,r⟩
 ·obtain ⟨z,its,r,p⟩:=h.ok I.hok
  exact ⟨its,r,p,z⟩
 ·refine ⟨its.toList,r,⟨o,I.kIn a o hk,hc,n,by simpa using hs⟩,?_⟩
  have e:=r.length
  simp only [Array.length_toList] at e
  omega
theorem zB.list_inj (I:zB X pins σ H s) (h:yB X.K H a xs) (h':yB X.K H a ys):xs=ys:=by
 obtain ⟨its,r,⟨o,n,e,_,_,d⟩,_⟩:=I.list h
 obtain ⟨its',r',⟨o',n',e',_,_,d'⟩,_⟩:=I.list h'
 rw [e] at e'; cases e'
 rw [d] at d'
 injection d' with d1 _
 have:its=its':=by simpa using congrArg Array.toList d1
 subst this
 exact r.inj r'
theorem zB.tuple_inj (I:zB X pins σ H s) (h:yQ X.K H a xs) (h':yQ X.K H a ys):xs=ys:=by
 obtain ⟨its,r,⟨o,e,_,n,d⟩,_⟩:=I.tuple h
 obtain ⟨its',r',⟨o',e',_,n',d'⟩,_⟩:=I.tuple h'
 rw [e] at e'; cases e'
 rw [d] at d'
 injection d' with d1 _
 have:its=its':=by simpa using congrArg Array.toList d1
 subst this
 exact r.inj r'
end
noncomputable abbrev Cx.wish (X:Cx) (E:Value->Shared->Prop):Cx:={ X with xe:=E }
noncomputable abbrev Cx.nox (X:Cx):Cx:=X.wish fun _ _=>False
theorem Cx.Ok.wish {X:Cx} (ok:X.Ok) (E:Value->Shared->Prop):(X.wish E).Ok:=
 ⟨ok.mod,ok.kind,ok.glob,ok.blt,ok.above,ok.inj,ok.has,ok.cab,ok.hd,ok.frames,ok.stk,ok.exf,ok.bs,ok.bsz,ok.noex,ok.exfs,ok.funs,ok.frf⟩
theorem Cx.Ok.unwish {X:Cx} {E:Value->Shared->Prop} (ok:(X.wish E).Ok):X.Ok:=
 ⟨ok.mod,ok.kind,ok.glob,ok.blt,ok.above,ok.inj,ok.has,ok.cab,ok.hd,ok.frames,ok.stk,ok.exf,ok.bs,ok.bsz,ok.noex,ok.exfs,ok.funs,ok.frf⟩
section
variable {X:Cx} {pins:List (Addr×Obj)} {σ:St} {H:Hp} {s:Shared} {E:Value->Shared->Prop}
theorem zB.wish (I:zB X pins σ H s) (E:Value->Shared->Prop):zB (X.wish E) pins σ H s:=⟨I.ok.wish E,I.os,I.bare,I.base,I.loc,I.cell,I.free,I.freeC,I.pin,I.hok,I.len⟩
theorem zB.unwish (I:zB (X.wish E) pins σ H s):zB X pins σ H s:=⟨I.ok.unwish,I.os,I.bare,I.base,I.loc,I.cell,I.free,I.freeC,I.pin,I.hok,I.len⟩
theorem SP.unwish {D:we} {f:Flow} {s':Shared} (h:SP (X.wish E) pins D f s'):SP X pins D f s':=by
 cases f with
 | next=>obtain ⟨σ',H',I,q⟩:=h; exact ⟨σ',H',I.unwish,q⟩
 | brk=>obtain ⟨σ',H',I,q⟩:=h; exact ⟨σ',H',I.unwish,q⟩
 | cont=>obtain ⟨σ',H',I,q⟩:=h; exact ⟨σ',H',I.unwish,q⟩
 | ret u=>obtain ⟨v,σ',H',I,r,q⟩:=h; exact ⟨v,σ',H',I.unwish,r,q⟩
theorem wV.nox {st:List Stmt} {t:TS} (h:wV X.nox st t):wV X st t:=fun pins s σ H D I hw=>
 wpAny_mono (h pins s σ H D (I.wish _) hw) (fun _ _ q=>q.unwish) fun _ _ z=>False.elim z
end
section
variable {X:Cx} {st:Stmt} {zc:List Stmt} {t u:TS} {e:Expr} {te:TE} {pos:Pos}
noncomputable def N3:TS:=fun D σ H=>D.nx σ H
noncomputable def N9 (t u:TS):TS:=fun D σ H=>t { D with nx:=u D } σ H
theorem Jv:wV X [] N3:=fun _ _ σ H _ I h=>wpAny_execs_nil ⟨σ,H,I,h⟩
theorem Ju (h1:PS X st t) (h2:wV X zc u):wV X (st::zc) (N9 t u):=by
 intro pins s σ H D I h
 refine wpAny_execs_cons (za (h1 pins s σ H { D with nx:=u D } I h) fun f s1 q=>?_)
 cases f with
 | next=>
  obtain ⟨σ',H',I',q⟩:=q
  exact h2 pins s1 σ' H' D I' q
 | ret v=>exact q
 | brk=>exact q
 | cont=>exact q
theorem Jw (h1:PS X st t):wV X [st] t:=by
 intro pins s σ H D I h
 refine wpAny_execs_cons (za (h1 pins s σ H D I h) fun f s1 q=>?_)
 cases f with
 | next=>exact wpAny_execs_nil q
 | ret v=>exact q
 | brk=>exact q
 | cont=>exact q
theorem zB.quiet {pins:List (Addr×Obj)} {σ:St} {H:Hp} {s:Shared} (I:zB X pins σ H s):interactive X.env=false:=by simp [interactive,I.ok.kind]
noncomputable def O9 (te:TE):TS:=fun D σ H=>te σ H fun _ H1=>D.nx σ H1
theorem Jr (he:PE X e te) (hs:swapsWith e none pos.line X.env=pure false:=by rfl):PS X (.Expr e pos) (O9 te):=by
 intro pins s σ H D I h
 exact wpAny_Expr_any (za (he pins s σ H _ I h) fun v s1 ⟨x,H1,I1,r1,q1⟩=>⟨σ,H1,I1,q1⟩) I.quiet hs
noncomputable def N8 (te:TE):TS:=fun D σ H=>te σ H D.rt
theorem Xi (he:PE X e te):PS X (.Return (some e) pos) (N8 te):=by
 intro pins s σ H D I h
 exact wpAny_Return_some (za (he pins s σ H _ I h) fun v s1 ⟨x,H1,I1,r1,q1⟩=>⟨x,σ,H1,I1,r1,q1⟩)
noncomputable def Kz (c:TT) (t u:TS):TS:=fun D σ H=>c σ H fun b H1=>if b=true then t D σ H1 else u D σ H1
theorem Jt {c:Expr} {a b:List Stmt} {tc:TT} (hc:PT X c tc) (ha:wV X a t) (hb:wV X b u):PS X (.If c a b pos) (Kz tc t u):=by
 intro pins s σ H D I h
 refine wpAny_If (za (hc pins s σ H _ I h) fun d s1 ⟨H1,I1,q1⟩=>?_)
 cases d with
 | true=>exact ha pins s1 σ H1 D I1 q1
 | false=>exact hb pins s1 σ H1 D I1 q1
noncomputable def N2:TS:=fun _ _ _=>False
theorem EV {sts:List Stmt}:wV X sts N2:=fun _ _ _ _ _ _ h=>h.elim
end
noncomputable abbrev TG:=V->St->Hp->(St->Hp->Prop)->Prop
noncomputable abbrev ul:=List V->St->Hp->(St->Hp->Prop)->Prop
noncomputable def PG (X:Cx) (target:Expr) (t:TG):Prop:=
 ∀ (pins:List (Addr×Obj)) (s:Shared) (σ:St) (H:Hp) (v:V) (u:Value) (Q:St->Hp->Prop),zB X pins σ H s->zX v u->t v σ H Q->
  wpAny (model X.prog X.w) X.A (assign target X.env u) (fun _ s'=>∃ σ' H',zB X pins σ' H' s'/\Q σ' H') X.xe s
noncomputable def gb (X:Cx) (ts:List Expr) (t:ul):Prop:=
 ∀ (pins:List (Addr×Obj)) (s:Shared) (σ:St) (H:Hp) (vs:List V) (us:List Value) (Q:St->Hp->Prop),zB X pins σ H s->zb vs us->t vs σ H Q->
  wpAny (model X.prog X.w) X.A (assignInOrder ((assignEach ts X.env).map (·.2)) us) (fun _ s'=>∃ σ' H',zB X pins σ' H' s'/\Q σ' H') X.xe s
noncomputable abbrev YJ:=V->V->V->Hp->(Hp->Prop)->Prop
noncomputable def WU (X:Cx) (t:YJ):Prop:=
 ∀ (pins:List (Addr×Obj)) (s:Shared) (σ:St) (H:Hp) (o i v:V) (ov iv u:Value) (Q:Hp->Prop),zB X pins σ H s->zX o ov->zX i iv->zX v u->t o i v H Q->
  wpAny (model X.prog X.w) X.A (setItem ov iv u) (fun _ s'=>∃ H',zB X pins σ H' s'/\Q H') X.xe s
noncomputable abbrev gg:=V->V->Hp->VK->Prop
noncomputable def WT (X:Cx) (op:Operator) (t:gg):Prop:=
 ∀ (pins:List (Addr×Obj)) (s:Shared) (σ:St) (H:Hp) (x y:V) (v u:Value) (Q:VK),zB X pins σ H s->zX x v->zX y u->t x y H Q->
  wpAny (model X.prog X.w) X.A (inplaceOp op v u) (EP X pins σ Q) X.xe s
section
variable {X:Cx} {pos:Pos}
noncomputable def wY (i:Nat):TG:=fun v σ H Q=>Q (σ.set i (some v)) H
theorem E4 {i:Nat} {x:Str} (hN:X.N.Nodup) (hi:X.N[i]?=some x) (hx:uO X.env.scope x) (hf:X.fn x=true\/X.env.scope.names.lookup x=some .local:=by first | exact .inl rfl | exact .inr rfl | assumption):PG X (.Name x pos) (wY i):=by
 intro pins s σ H v u Q I r h
 exact wpAny_assign_Name (Ue I hN hi hx r (fun s' I'=>⟨_,H,I',h⟩) hf)
noncomputable def jo:ul:=fun vs σ H Q=>vs=[]/\Q σ H
noncomputable def ut (t:TG) (u:ul):ul:=fun vs σ H Q=>∃ v r,vs=v::r/\t v σ H fun σ' H'=>u r σ' H' Q
theorem E8:gb X [] jo:=by
 intro pins s σ H vs us Q I r h
 obtain ⟨e,h⟩:=h
 subst e
 cases r
 exact assignInOrder_nil ⟨σ,H,I,h⟩
theorem E7 {e:Expr} {es:List Expr} {t:TG} {u:ul} (h1:PG X e t) (h2:gb X es u)
  (hs:(assignEach (e::es) X.env).map (·.2)=assign e X.env::(assignEach es X.env).map (·.2):=by rfl):gb X (e::es) (ut t u):=by
 intro pins s σ H vs us Q I r h
 obtain ⟨v,vr,e1,h⟩:=h
 subst e1
 cases r with
 | cons r rr=>
  rw [hs]
  refine assignInOrder_cons (za (h1 pins s σ H _ _ _ I r h) fun _ s1 ⟨σ1,H1,I1,q1⟩=>?_)
  exact h2 pins s1 σ1 H1 _ _ Q I1 rr q1
noncomputable def jp (K:PySem.W.Frag) (n:Nat) (t:ul):TG:=fun v σ H Q=>∃ a xs,v=.ref a/\yQ K H a xs/\xs.length=n/\t xs σ H Q
theorem E6 {es:List Expr} {k:Nat} {t:ul} {n:Nat} (hc:X.calm=true) (h:gb X es t)
  (hn:(assignEach es X.env).length=n:=by rfl) (hst:(assignEach es X.env).findIdx? (·.1)=none:=by rfl):PG X (.Tuple es k pos) (jp X.K n t):=by
 intro pins s σ H v u Q I r hw
 obtain ⟨a,xs,e1,hq,hl,hw⟩:=hw
 subst e1
 cases r
 obtain ⟨its,rv,ht,hz⟩:=I.tuple hq
 refine assign_Tuple_tuple (I.ok.hd hc) ht (by simp [hn,<- hl,rv.length]) hst fun h' hx=>?_
 have I1:zB X pins σ H { s with heap:=h' }:=I.kept (t':=s.toks) fun b o e=>hx b o (Nat.ne_of_lt (Heap.lt_size e)) e
 exact h pins _ σ H xs _ Q I1 (by simpa using rv) hw
noncomputable def Qh (to ti:TE) (t:YJ):TG:=fun v σ H Q=>to σ H fun o H1=>ti σ H1 fun i H2=>t o i v H2 fun H3=>Q σ H3
theorem E5 {o i:Expr} {to ti:TE} {t:YJ} (ho:PE X o to) (hi:PE X i ti) (hs:WU X t)
  (ha:∀ v,assign (.Subscript o i pos) X.env v=(do
   let ov <- holding [v] (eval o X.env)
   let iv <- holding [v,ov] (eval i X.env)
   standAt pos
   holding [v,ov,iv] (setItem ov iv v)
   release [v,ov,iv] []):=by intro _; rfl):PG X (.Subscript o i pos) (Qh to ti t):=by
 intro pins s σ H v u Q I r h
 rw [ha]
 refine wpAny_bind (wpAny_holding (za (ho pins s σ H _ I h) fun ov s1 ⟨x,H1,I1,r1,q1⟩=>?_))
 refine wpAny_bind (wpAny_holding (za (hi pins s1 σ H1 _ I1 q1) fun iv s2 ⟨y,H2,I2,r2,q2⟩=>?_))
 refine wpAny_bind (wpAny_standAt (wpAny_bind (wpAny_holding (za (hs pins s2 σ H2 x y v ov iv u _ I2 r1 r2 r q2) fun _ s3 ⟨H3,I3,q3⟩=>?_))))
 exact wpAny_release ⟨σ,H3,I3,q3⟩
noncomputable def Uj (te:TE) (g:TG):TS:=fun D σ H=>te σ H fun x H1=>g x σ H1 D.nx
theorem UC {tg e:Expr} {te:TE} {g:TG} (he:PE X e te) (hg:PG X tg g) (hs:swapsWithSole [tg] e pos.line X.env=pure false:=by rfl) (hw:swappedStores [tg] e X.env=pure none:=by rfl)
  (h1:(assignEach [tg] X.env).map (·.2)=[assign tg X.env]:=by rfl):PS X (.Assign [tg] e pos) (Uj te g):=by
 intro pins s σ H D I h
 refine wpAny_Assign_stores (za (he pins s σ H _ I h) fun v s1 ⟨x,H1,I1,r1,q1⟩=>?_) hs hw
 rw [h1]
 exact za (hg pins s1 σ H1 x v _ I1 r1 q1) fun _ s2 q=>q
theorem ET {i:Nat} {x:Str} {e:Expr} {te:TE} {pos':Pos} (hN:X.N.Nodup) (hi:X.N[i]?=some x) (hx:uO X.env.scope x) (he:PE X e te) (hs:swapsWith e (some (.Name x pos')) pos.line X.env=pure false:=by rfl) (hf:X.fn x=true\/X.env.scope.names.lookup x=some .local:=by first | exact .inl rfl | exact .inr rfl | assumption) :
  PS X (.Assign [.Name x pos'] e pos) (Uj te (wY i)):=by
 intro pins s σ H D I h
 refine wpAny_Assign_Name (za (he pins s σ H _ I h) fun v s1 ⟨y,H1,I1,r1,q1⟩=>?_) hs
 exact Ue I1 hN hi hx r1 (fun s2 I2=>⟨_,H1,I2,q1⟩) hf
noncomputable def Ko (i:Nat) (te:TE) (ti:gg):TS:=fun D σ H=>∃ x,σ[i]?=some (some x)/\te σ H fun y H1=>ti x y H1 fun z H2=>D.nx (σ.set i (some z)) H2
theorem EO {i:Nat} {x:Str} {e:Expr} {te:TE} {op:Operator} {ti:gg} {pos':Pos} (hN:X.N.Nodup) (hi:X.N[i]?=some x) (hx:uO X.env.scope x) (he:PE X e te) (ho:WT X op ti) (hf:X.fn x=true\/X.env.scope.names.lookup x=some .local:=by first | exact .inl rfl | exact .inr rfl | assumption) :
  PS X (.AugAssign (.Name x pos') op e pos) (Ko i te ti):=by
 intro pins s σ H D I h
 obtain ⟨v,e1,h⟩:=h
 obtain ⟨m,hn,hl⟩:=I.loc
 have vis:tJ X.env.scope x:=by rcases hx with k | k; exact .inl k; exact .inr (.inl k)
 obtain ⟨u,r,l⟩:=hl i x v hi e1 vis
 refine wpAny_AugAssign_Name ?_
 have go:wpAny (model X.prog X.w) X.A (eval e X.env) (fun w s₂=>wpAny (model X.prog X.w) X.A (inplaceOp op u w) (fun r s₃=>wpAny (model X.prog X.w) X.A (storeName X.env x r) (fun _=>SP X pins D .next) X.xe s₃) X.xe s₂) X.xe s:=by
  refine za (he pins s σ H _ I h) fun w s1 ⟨y,H1,I1,r1,q1⟩=>?_
  refine za (ho pins s1 σ H1 v y u w _ I1 r r1 q1) fun z s2 ⟨zv,H2,I2,r2,q2⟩=>?_
  exact Ue I2 hN hi hx r2 (fun s3 I3=>⟨_,H2,I3,q2⟩) hf
 rcases l with ⟨hk,hm⟩ | ⟨hk,c,hc,hcell⟩
 ·exact wpAny_loadName_local I.ok.kind hk hn hm go
 ·rcases hk with hk | hk
  ·exact wpAny_loadName_cell I.ok.kind hk hc hcell go
  ·rcases hx with k | k
   ·have:X.env.scope.names.lookup x=some .free:=hk
    rw [k] at this; cases this
   ·have:X.env.scope.names.lookup x=some .free:=hk
    rw [k] at this; cases this
noncomputable def Qz (f:Int->Int->Int):gg:=fun x y H Q=>∃ i j,x=.int i/\y=.int j/\Q (.int (f i j)) H
theorem Q_:WT X .Add (Qz fun i j=>i+j):=by
 intro pins s σ H x y v u Q I r1 r2 h
 obtain ⟨i,j,e1,e2,q⟩:=h
 subst e1; subst e2
 obtain ⟨t,rfl⟩:=r1
 obtain ⟨t',rfl⟩:=r2
 exact iadd_int ⟨.int _,H,I.tok _,⟨_,rfl⟩,q⟩
end
section
variable {X:Cx} {pos:Pos}
end
structure It where
 go:Nat->Hp->Prop
 yld:Nat->Hp->V->Hp->Prop
 stop:Nat->Hp->Prop
noncomputable def vt (X:Cx) (pins:List (Addr×Obj)) (H:Hp) (b:Addr):Prop:=
 H b=none/\b≠X.env.locals/\b ∉ X.fs/\(b∈X.ex\/X.s₀.heap.objs.size<=b)/\(∀ x c,X.env.cells.lookup x=some c->c≠b)/\∀ p∈X.pn++pins,p.1≠b
theorem zB.fpOk {X:Cx} {pins:List (Addr×Obj)} {σ:St} {H H':Hp} {s:Shared} {b:Addr} (I:zB X pins σ H s) (hb:s.heap.objs.size<=b) (hn:H' b=none):vt X pins H' b:=by
 refine ⟨hn,Nat.ne_of_gt (Nat.lt_of_lt_of_le I.lt hb),I.nofs hb,.inr (Nat.le_trans I.sz hb),fun x c e z=>?_,fun p hp z=>?_⟩
 ·obtain ⟨v,q⟩:=I.cell x c e
  exact absurd (Nat.lt_of_lt_of_le q.lt (by rw [z]; exact hb)) (Nat.lt_irrefl _)
 ·exact absurd (Nat.lt_of_lt_of_le (Heap.lt_size (I.pin p hp).1) (by rw [z]; exact hb)) (Nat.lt_irrefl _)
structure qP (P:Program) (w:World) (K:PySem.W.Frag) (tg:Expr) (J:It) (fp:List Addr) (it:Addr) (tn:Nat->Heap->Prop):Prop where
 mem:it∈fp
 obj:∀ i h,tn i h->∀ b∈fp,∃ o,h.get? b=some o/\∀ v,o.data≠.cell v
 keep:∀ i h h',tn i h->(∀ b∈fp,∀ o,h.get? b=some o->h'.get? b=some o)->tn i h'
 item:∀ (X:Cx),X.prog=P->X.w=w->X.K=K->X.calm=true->∀ (i:Nat) (pins:List (Addr×Obj)) (s:Shared) (σ:St) (H:Hp) (E:Value->Shared->Prop),zB X pins σ H s->(∀ b∈fp,vt X pins H b)->tn i s.heap->J.go i H->
  wpAny (model P w) X.A (pyNext (.ref it)) (fun r s1=>∃ u,r=some u/\
   wpAny (model P w) X.A (letOwnedTupleGo tg (.ref it) u) (fun _ s2=>∃ x H',zB X pins σ H' s2/\zX x u/\J.yld i H x H'/\tn (i+1) s2.heap/\∀ b∈fp,H' b=none) E s1) E s
 done:∀ (X:Cx),X.prog=P->X.w=w->X.K=K->X.calm=true->∀ (i:Nat) (pins:List (Addr×Obj)) (s:Shared) (σ:St) (H:Hp) (E:Value->Shared->Prop),zB X pins σ H s->(∀ b∈fp,vt X pins H b)->tn i s.heap->J.stop i H->
  wpAny (model P w) X.A (pyNext (.ref it)) (fun r s1=>r=none/\zB X pins σ H s1) E s
 self:∀ (A:Around) (i:Nat) (s:Shared) (Q:Value->Shared->Prop) (E:Value->Shared->Prop),tn i s.heap->Q (.ref it) s->wpAny (model P w) A (pyIter (.ref it)) Q E s
noncomputable abbrev TI:=St->Hp->(It->Hp->Prop)->Prop
noncomputable def WS (X:Cx) (pins:List (Addr×Obj)) (σ:St) (tg:Expr) (R:It->Hp->Prop) (itv:Value) (s2:Shared):Prop:=
 ∃ (it:Addr) (fp:List Addr) (tn:Nat->Heap->Prop) (J:It) (H':Hp),itv=.ref it/\zB X pins σ H' s2/\qP X.prog X.w X.K tg J fp it tn/\tn 0 s2.heap/\(∀ b∈fp,vt X pins H' b)/\R J H'
noncomputable def PI (X:Cx) (tg iter:Expr) (wi:TI):Prop:=
 ∀ (pins:List (Addr×Obj)) (s:Shared) (σ:St) (H:Hp) (R:It->Hp->Prop),zB X pins σ H s->wi σ H R->
  wpAny (model X.prog X.w) X.A (eval iter X.env) (fun v s1=>wpAny (model X.prog X.w) X.A (pyIter v) (WS X pins σ tg R) X.xe s1) X.xe s
theorem XL {M:Model} {A:Around} {E:Value->Shared->Prop} {s:Shared} {tg:Expr} {it:Addr} {u:Value} {o:Obj} {n:String} {vs:Array Value} {Q:Unit->Shared->Prop} (ho:s.heap.get? it=some o) (hc:o.cls=.type n) (hd:o.data=.fields vs)
    (hn:["enumerate", "zip", "dict_itemiterator", "dict_reverseitemiterator", "odict_iterator", "itertools.zip_longest", "itertools.pairwise"].contains n=false) (hQ:Q () s):wpAny M A (letOwnedTupleGo tg (.ref it) u) Q E s:=by
  unfold letOwnedTupleGo
  cases tg<;>first
    | exact wpAny_pure hQ
    | (cases u<;>first
        | exact wpAny_pure hQ
        | (refine wpAny_bind (wpAny_load ho ?_)
           rw [hc,hd]
           show wpAny M A (if (["enumerate", "zip", "dict_itemiterator", "dict_reverseitemiterator", "odict_iterator", "itertools.zip_longest", "itertools.pairwise"].contains n&&vs[0]? == some (rawInt _))=true then _ else _) Q E s
           rw [if_neg (by intro h; rw [hn,Bool.false_and] at h; cases h)]
           exact wpAny_pure hQ))
noncomputable def WN (K:PySem.W.Frag) (a:Addr):It:=
 ⟨fun i H=>∃ xs x,yB K H a xs/\xs[i]?=some x,fun i H x H'=>H'=H/\∀ xs,yB K H a xs->xs[i]?=some x,fun i H=>∃ xs,yB K H a xs/\xs.length<=i⟩
noncomputable def WO (K:PySem.W.Frag) (a:Addr):It:=
 ⟨fun i H=>∃ xs x,yQ K H a xs/\xs[i]?=some x,fun i H x H'=>H'=H/\∀ xs,yQ K H a xs->xs[i]?=some x,fun i H=>∃ xs,yQ K H a xs/\xs.length<=i⟩
noncomputable def YE (lo:Int) (n:Nat):It:=⟨fun i _=>i<n,fun i H x H'=>H'=H/\x=.int (lo+i),fun i _=>n<=i⟩
theorem NR {P:Program} {w:World} {K:PySem.W.Frag} {tg:Expr} (a it:Addr):qP P w K tg (WN K a) [it] it (fun i h=>h.IsListIter it a i) where
 mem:=by simp
 obj:=fun i h st b hb=>by
  have e:b=it:=by simpa using hb
  subst e
  obtain ⟨o,e,c,d⟩:=st
  exact ⟨o,e,fun v z=>by rw [d] at z; cases z⟩
 keep:=fun i h h' st k=>st.at fun o e=>k it (by simp) o e
 item:=by
  intro X hP hw hK hc i pins s σ H E I hf st hg
  subst hP hw hK
  obtain ⟨xs,x,hq,hx⟩:=hg
  obtain ⟨its,rv,p,hz⟩:=I.list hq
  obtain ⟨u,hu,ru⟩:=rv.get hx
  obtain ⟨f0,f1,f2,f3,f4,f5⟩:=hf it (by simp)
  refine wpAny_pyNext_list_item st p.isList (x:=u) (by simpa using hu) fun h' st' sb=>?_
  have I1:zB X pins σ H { s with heap:=h' }:=I.turned (t':=s.toks) (fun b o hb e=>(sb.2 b hb).trans e) f0 f1 f3 f4 f5
  obtain ⟨o,e,c,d⟩:=id st'
  exact ⟨u,rfl,XL (s:={ s with heap:=h' }) e c d (by decide) ⟨x,H,I1,ru,⟨rfl,fun ys hy=>by rw [I.list_inj hy hq]; exact hx⟩,st',fun b hb=>(hf b hb).1⟩⟩
 done:=by
  intro X hP hw hK hc i pins s σ H E I hf st hg
  subst hP hw hK
  obtain ⟨xs,hq,hx⟩:=hg
  obtain ⟨its,rv,p,hz⟩:=I.list hq
  obtain ⟨f0,f1,f2,f3,f4,f5⟩:=hf it (by simp)
  have hl:=rv.length
  exact wpAny_pyNext_list_end (I.ok.hd hc) st p.isList (by simp; omega) fun h' eb=>⟨rfl,I.turned (t':=s.toks) (fun b o hb e=>eb b o hb e) f0 f1 f3 f4 f5⟩
 self:=fun _ _ _ _ _ st h=>wpAny_pyIter_listiter st h
theorem NV {P:Program} {w:World} {K:PySem.W.Frag} {tg:Expr} (a it:Addr):qP P w K tg (WO K a) [it] it (fun i h=>h.IsTupleIter it a i) where
 mem:=by simp
 obj:=fun i h st b hb=>by
  have e:b=it:=by simpa using hb
  subst e
  obtain ⟨o,e,c,d⟩:=st
  exact ⟨o,e,fun v z=>by rw [d] at z; cases z⟩
 keep:=fun i h h' st k=>st.at fun o e=>k it (by simp) o e
 item:=by
  intro X hP hw hK hc i pins s σ H E I hf st hg
  subst hP hw hK
  obtain ⟨xs,x,hq,hx⟩:=hg
  obtain ⟨its,rv,p,hz⟩:=I.tuple hq
  obtain ⟨u,hu,ru⟩:=rv.get hx
  obtain ⟨f0,f1,f2,f3,f4,f5⟩:=hf it (by simp)
  refine wpAny_pyNext_tuple_item st (show s.heap.IsTuple a its.toArray from p) (x:=u) (by simpa using hu) fun h' st' sb=>?_
  have I1:zB X pins σ H { s with heap:=h' }:=I.turned (t':=s.toks) (fun b o hb e=>(sb.2 b hb).trans e) f0 f1 f3 f4 f5
  obtain ⟨o,e,c,d⟩:=id st'
  exact ⟨u,rfl,XL (s:={ s with heap:=h' }) e c d (by decide) ⟨x,H,I1,ru,⟨rfl,fun ys hy=>by rw [I.tuple_inj hy hq]; exact hx⟩,st',fun b hb=>(hf b hb).1⟩⟩
 done:=by
  intro X hP hw hK hc i pins s σ H E I hf st hg
  subst hP hw hK
  obtain ⟨xs,hq,hx⟩:=hg
  obtain ⟨its,rv,p,hz⟩:=I.tuple hq
  obtain ⟨f0,f1,f2,f3,f4,f5⟩:=hf it (by simp)
  have hl:=rv.length
  exact wpAny_pyNext_tuple_end (I.ok.hd hc) st (show s.heap.IsTuple a its.toArray from p) (by simp; omega) fun h' eb=>⟨rfl,I.turned (t':=s.toks) (fun b o hb e=>eb b o hb e) f0 f1 f3 f4 f5⟩
 self:=fun _ _ _ _ _ st h=>wpAny_pyIter_tupleiter st h
theorem NT {P:Program} {w:World} {K:PySem.W.Frag} {tg:Expr} (it:Addr) (lo:Int) (n:Nat):qP P w K tg (YE lo n) [it] it (fun i h=>IsRangeIter h it (lo+(i:Nat)*1) ((n:Int) - (i:Nat)) 1) where
 mem:=by simp
 obj:=fun i h st b hb=>by
  have e:b=it:=by simpa using hb
  subst e
  exact ⟨_,st,fun v z=>by
   have z':Data.fields _=Data.cell v:=z
   cases z'⟩
 keep:=fun i h h' st k=>k it (by simp) _ st
 item:=by
  intro X hP hw hK hc i pins s σ H E I hf st hg
  subst hP hw hK
  obtain ⟨f0,f1,f2,f3,f4,f5⟩:=hf it (by simp)
  have W:=Walks.range (prog:=X.prog) (w:=X.w) (I.ok.hd hc) it lo 1 n
  refine W.item i s _ _ hg st fun v h' tk hv st' kk=>?_
  obtain ⟨t,rfl⟩:=hv
  have I1:zB X pins σ H { s with heap:=h',toks:=tk }:=I.turned (fun b o hb e=>kk b o (by simpa using hb) e) f0 f1 f3 f4 f5
  refine ⟨_,rfl,XL (s:={ s with heap:=h',toks:=tk }) (n := "range_iterator") st' rfl rfl (by decide) ⟨.int (lo+i),H,I1,⟨t,?_⟩,⟨rfl,rfl⟩,st',fun b hb=>(hf b hb).1⟩⟩
  rw [Int.mul_one]
 done:=by
  intro X hP hw hK hc i pins s σ H E I hf st hg
  subst hP hw hK
  obtain ⟨f0,f1,f2,f3,f4,f5⟩:=hf it (by simp)
  exact wpAny_pyNext_range_end (I.ok.hd hc) st (by have:n<=i:=hg; omega) fun h' eb=>⟨rfl,I.turned (t':=s.toks) (fun b o hb e=>eb b o hb e) f0 f1 f3 f4 f5⟩
 self:=fun _ _ _ _ _ st h=>wpAny_pyIter_rangeiter st h
end L2
namespace L2
open PySem PySem.Spec PyProof.Rows
section
variable {X:Cx} {tg:Expr}
noncomputable def B1 (K:PySem.W.Frag) (tl:TE):TI:=fun σ H R=>tl σ H fun x H1=>∃ a,x=.ref a/\(∃ xs,yB K H1 a xs)/\R (WN K a) H1
noncomputable def B4 (K:PySem.W.Frag) (tl:TE):TI:=fun σ H R=>tl σ H fun x H1=>∃ a,x=.ref a/\(∃ xs,yQ K H1 a xs)/\R (WO K a) H1
theorem EA {l:Expr} {tl:TE} (hl:PE X l tl):PI X tg l (B1 X.K tl):=by
 intro pins s σ H R I h
 refine za (hl pins s σ H _ I h) fun v s1 ⟨x,H1,I1,r1,q1⟩=>?_
 obtain ⟨a,e,⟨xs,hq⟩,q⟩:=q1
 subst e
 cases r1
 obtain ⟨its,rv,p,hz⟩:=I1.list hq
 refine wpAny_pyIter_list p.isList ?_
 refine ⟨s1.heap.objs.size,[s1.heap.objs.size],_,_,H1,rfl,I1.kept (t':=s1.toks) fun b o e=>Heap.get?_push_of_some _ e,NR a _,⟨_,Heap.get?_push_size _ rfl,rfl,rfl⟩,fun b hb=>?_,q⟩
 have e:b=s1.heap.objs.size:=by simpa using hb
 subst e
 exact I1.fpOk (Nat.le_refl _) (I1.hok.fresh (Nat.le_refl _))
theorem ED {l:Expr} {tl:TE} (hl:PE X l tl):PI X tg l (B4 X.K tl):=by
 intro pins s σ H R I h
 refine za (hl pins s σ H _ I h) fun v s1 ⟨x,H1,I1,r1,q1⟩=>?_
 obtain ⟨a,e,⟨xs,hq⟩,q⟩:=q1
 subst e
 cases r1
 obtain ⟨its,rv,p,hz⟩:=I1.tuple hq
 refine wpAny_pyIter_tuple (show s1.heap.IsTuple a its.toArray from p) ?_
 refine ⟨s1.heap.objs.size,[s1.heap.objs.size],_,_,H1,rfl,I1.kept (t':=s1.toks) fun b o e=>Heap.get?_push_of_some _ e,NV a _,⟨_,Heap.get?_push_size _ rfl,rfl,rfl⟩,fun b hb=>?_,q⟩
 have e:b=s1.heap.objs.size:=by simpa using hb
 subst e
 exact I1.fpOk (Nat.le_refl _) (I1.hok.fresh (Nat.le_refl _))
theorem Ez {pins:List (Addr×Obj)} {σ:St} {H:Hp} {s:Shared} {R:It->Hp->Prop} {E:Value->Shared->Prop} {lo hi:Int} {t u v:Tok} {tk:Nat} (I:zB X pins σ H s) (h1 : -(2 ^ 62)<=lo) (h2:lo<2 ^ 62) (h3 : -(2 ^ 62)<=hi) (h4:hi<2 ^ 62)
  (q:R (YE lo (hi - lo).toNat) H):wpAny (model X.prog X.w) X.A (pyIter (.ref s.heap.objs.size)) (WS X pins σ tg R) E { s with heap:=s.heap.push { cls:=.type "range",data:=.fields #[.int lo t,.int hi u,.int 1 v] },toks:=tk }:=by
 refine wpAny_pyIter_range (IsRange.new ..) (small_one h1 h2 h3 h4) ?_
 have I1:zB X pins σ H { s with heap:=s.heap.push { cls:=.type "range",data:=.fields #[.int lo t,.int hi u,.int 1 v] },toks:=tk }:=I.kept fun b o e=>Heap.get?_push_of_some _ e
 refine ⟨(s.heap.push { cls:=.type "range",data:=.fields #[.int lo t,.int hi u,.int 1 v] }).objs.size,[(s.heap.push { cls:=.type "range",data:=.fields #[.int lo t,.int hi u,.int 1 v] }).objs.size],_,_,H,rfl,
  I1.kept (t':=tk) fun b o e=>Heap.get?_push_of_some _ e,NT _ lo (hi - lo).toNat,?_,fun b hb=>?_,q⟩
 ·have e1:lo+((0:Nat):Int)*1=lo:=by simp
  have e2:(((hi - lo).toNat:Nat):Int) - ((0:Nat):Int)=Builtin.Range.rangeSize lo hi 1:=by rw [rangeSize_one]; split<;>omega
  show IsRangeIter _ _ (lo+((0:Nat):Int)*1) ((((hi - lo).toNat:Nat):Int) - ((0:Nat):Int)) 1
  rw [e1,e2]
  exact Heap.get?_push_size _ rfl
 ·have e:b=(s.heap.push { cls:=.type "range",data:=.fields #[.int lo t,.int hi u,.int 1 v] }).objs.size:=by simpa using hb
  subst e
  exact I1.fpOk (Nat.le_refl _) (I1.hok.fresh (Nat.le_refl _))
noncomputable def B2 (ta:TA):TI:=fun σ H R=>ta σ H fun vs H1=>∃ j:Int,vs=[.int j] /\ -(2 ^ 62)<=j/\j<2 ^ 62/\R (YE 0 j.toNat) H1
theorem EB {a:Expr} {ta:TA} {p pos:Pos} (hg:Gl X "range") (hm:X.mg "range" = none) (ha:PA X [a] ta) (hs:starEach [a] X.env=[(false,eval a X.env)]:=by rfl):PI X tg (.Call (.Name "range" p) [a] [] pos) (B2 ta):=by
 intro pins s σ H R I h
 refine Call_ (jv I hg hm boot_range (PyProof.Rows.callWith_type1 (za (ha pos pins s σ H _ I h) fun us s1 ⟨vs,H1,I1,r1,q1⟩=>?_) hs rfl))
 obtain ⟨j,e,q1,q2,q⟩:=q1
 subst e
 cases r1 with
 | cons r rr=>
  cases rr
  obtain ⟨t,rfl⟩:=r
  exact call_range_1 (Ez I1 (by omega) (by omega) q1 q2 (by simpa using q))
noncomputable def Kx (wi:TI) (g:TG) (tb:TS):TS:=fun D σ H=>wi σ H fun J H1=>∃ W:Nat->Nat->St->Hp->Prop,(∃ m,W 0 m σ H1)/\∀ i m σ H,W i m σ H->
 (J.stop i H/\D.nx σ H)\/(J.go i H/\∃ N:St->Hp->Prop,(∀ σ' H',N σ' H'->∃ m',m'<m/\W (i+1) m' σ' H')/\∀ x H',J.yld i H x H'->g x σ H' fun σ2 H2=>tb { D with nx:=N,ct:=N,bk:=D.nx } σ2 H2)
noncomputable def kf (fp:List Addr) (h:Heap):List (Addr×Obj):=fp.filterMap fun b=>(h.get? b).map fun o=>(b,o)
theorem Xd {fp:List Addr} {h:Heap} {b:Addr} {o:Obj} (hb:b∈fp) (e:h.get? b=some o):(b,o)∈kf fp h:=List.mem_filterMap.mpr ⟨b,hb,by rw [e]; rfl⟩
theorem DY {fp:List Addr} {h:Heap} {p:Addr×Obj} (hp:p∈kf fp h):p.1∈fp/\h.get? p.1=some p.2:=by
 obtain ⟨b,hb,e⟩:=List.mem_filterMap.mp hp
 cases q:h.get? b with
 | none=>rw [q] at e; cases e
 | some o=>
  rw [q] at e
  have e':(b,o)=p:=Option.some.inj e
  subst e'
  exact ⟨hb,q⟩
theorem zB.pinned {pins:List (Addr×Obj)} {σ:St} {H:Hp} {s:Shared} {fp:List Addr} (I:zB X pins σ H s) (hf:∀ b∈fp,vt X pins H b) (ho:∀ b∈fp,∃ o,s.heap.get? b=some o/\∀ v,o.data≠.cell v):zB X (pins++kf fp s.heap) σ H s:=
 I.pins_of fun p hp=>(List.mem_append.mp hp).elim (fun z=>I.pin p (List.mem_append_right _ z)) fun z=>by
  obtain ⟨hb,e⟩:=DY z
  obtain ⟨f0,f1,f2,_⟩:=hf p.1 hb
  obtain ⟨o,e',d⟩:=ho p.1 hb
  rw [e] at e'; cases e'
  exact ⟨e,f0,f1,f2,d⟩
theorem zB.unpinned {pins pl:List (Addr×Obj)} {σ:St} {H:Hp} {s:Shared} (I:zB X (pins++pl) σ H s):zB X pins σ H s:=I.pins_of fun p hp=>I.pin p (List.mem_append_right _ (List.mem_append_left _ hp))
theorem Js {iter:Expr} {body:List Stmt} {wi:TI} {g:TG} {tb:TS} {pos:Pos} (hp:PassesOwn (model X.prog X.w) X.A X.env X.xe) (hc:X.calm=true) (hi:PI X tg iter wi) (hg:PG X tg g) (hb:wV X body tb)
  (hs:∀ x,foldedSetIterable iter X.env x=pure x:=by intro _; rfl):PS X (.For tg iter body [] pos) (Kx wi g tb):=by
 intro pins s σ H D I h
 refine wpAny_For (za (hi pins s σ H _ I h) fun v s1 h1=>za h1 fun itv s2 h2=>?_) hs
 obtain ⟨it,fp,tn,J,H2,e,I2,T,st2,f2,W,⟨m0,w0⟩,turn⟩:=h2
 subst e
 have stat:∀ {H':Hp},(∀ b∈fp,H' b=none)->∀ b∈fp,vt X pins H' b:=fun hn b hb=>⟨hn b hb,(f2 b hb).2⟩
 refine codeAny_forLoop_any (fun n s'=>∃ i σ' H',zB X pins σ' H' s'/\tn i s'.heap/\(∀ b∈fp,H' b=none)/\W i n σ' H') ?_ m0 ⟨0,σ,H2,I2,st2,fun b hb=>(f2 b hb).1,w0⟩
 rintro n s3 ⟨i,σ3,H3,I3,st3,fr3,w3⟩
 rcases turn i n σ3 H3 w3 with ⟨stop,qn⟩ | ⟨go,N,hN,step⟩
 ·refine wpAny_passesOwn hp (za (T.done X rfl rfl rfl hc i pins s3 σ3 H3 X.xe I3 (stat fr3) st3 stop) fun r s4 ⟨hr,I4⟩=>?_)
  subst hr
  exact wpAny_execs_nil ⟨σ3,H3,I4,qn⟩
 ·refine wpAny_passesOwn hp (za (T.item X rfl rfl rfl hc i pins s3 σ3 H3 X.xe I3 (stat fr3) st3 go) fun r s4 ⟨u,hr,h4⟩=>?_)
  subst hr
  refine wpAny_passesOwn hp (za h4 fun _ s5 ⟨x,H5,I5,r5,y5,st5,fr5⟩=>?_)
  have I5':=I5.pinned (stat fr5) (T.obj _ _ st5)
  refine wpAny_passesOwn hp (za (hg _ s5 σ3 H5 x u _ I5' r5 (step x H5 y5)) fun _ s6 ⟨σ6,H6,I6,q6⟩=>?_)
  refine wpAny_passesOwn hp (za (hb _ s6 σ6 H6 _ I6 q6) fun f s7 q7=>?_)
  have again:∀ {σ7:St} {H7:Hp},zB X (pins++kf fp s5.heap) σ7 H7 s7->N σ7 H7->∃ m,m<n/\∃ i σ' H',zB X pins σ' H' s7/\tn i s7.heap/\(∀ b∈fp,H' b=none)/\W i m σ' H':=fun {σ7 H7} I7 n7=>by
   obtain ⟨m',hm,w7⟩:=hN σ7 H7 n7
   refine ⟨m',hm,i+1,σ7,H7,I7.unpinned,T.keep _ _ _ st5 fun b hb o e=>(I7.pin (b,o) (List.mem_append_right _ (List.mem_append_right _ (Xd hb e)))).1,fun b hb=>?_,w7⟩
   obtain ⟨o,e,d⟩:=T.obj _ _ st5 b hb
   exact (I7.pin (b,o) (List.mem_append_right _ (List.mem_append_right _ (Xd hb e)))).2.1
  cases f with
  | next=>obtain ⟨σ7,H7,I7,n7⟩:=q7; exact again I7 n7
  | cont=>obtain ⟨σ7,H7,I7,n7⟩:=q7; exact again I7 n7
  | brk=>obtain ⟨σ7,H7,I7,q7⟩:=q7; exact ⟨σ7,H7,I7.unpinned,q7⟩
  | ret v=>obtain ⟨x7,σ7,H7,I7,r7,q7⟩:=q7; exact ⟨x7,σ7,H7,I7.unpinned,r7,q7⟩
end
end L2
namespace L2
open PySem PySem.Spec PyProof.Rows
noncomputable abbrev R2:=V->V->Hp->VK->Prop
noncomputable def zt (X:Cx) (f:Value->Value->Sem Value) (r:R2):Prop:=
 ∀ (pins:List (Addr×Obj)) (s:Shared) (σ:St) (H:Hp) (x y:V) (v u:Value) (Q:VK),zB X pins σ H s->zX x v->zX y u->r x y H Q->
  wpAny (model X.prog X.w) X.A (f v u) (EP X pins σ Q) X.xe s
noncomputable def gi (X:Cx) (f:Value->Sem Value) (r:V->Hp->VK->Prop):Prop:=
 ∀ (pins:List (Addr×Obj)) (s:Shared) (σ:St) (H:Hp) (x:V) (v:Value) (Q:VK),zB X pins σ H s->zX x v->r x H Q->
  wpAny (model X.prog X.w) X.A (f v) (EP X pins σ Q) X.xe s
noncomputable def xC (X:Cx) (f:Value) (r:List V->Hp->VK->Prop):Prop:=
 ∀ (pins:List (Addr×Obj)) (s:Shared) (σ:St) (H:Hp) (xs:List V) (us:List Value) (Q:VK),zB X pins σ H s->zb xs us->r xs H Q->
  wpAny (model X.prog X.w) X.A (call f us) (EP X pins σ Q) X.xe s
noncomputable def Xz (r:R2) (ta tb:TE):TE:=fun σ H Q=>ta σ H fun x H1=>tb σ H1 fun y H2=>r x y H2 Q
noncomputable def ND (r:V->Hp->VK->Prop) (ta:TE):TE:=fun σ H Q=>ta σ H fun x H1=>r x H1 Q
noncomputable def rI (C:Int->Int->Prop) (g:Int->Int->V):R2:=fun x y H Q=>∃ i j,x=.int i/\y=.int j/\C i j/\Q (g i j) H
noncomputable def vF (g:Int->Int->V):R2:=fun x y H Q=>∃ i j,x=.int i/\y=.int j/\Q (g i j) H
noncomputable def rU (g:Int->V):V->Hp->VK->Prop:=fun x H Q=>∃ i,x=.int i/\Q (g i) H
section
variable {X:Cx} {a b c:Expr} {ta tb tc:TE} {pos:Pos}
theorem Wm (ha:PE X a ta) (hb:PE X b tb) {pins:List (Addr×Obj)} {s:Shared} {σ:St} {H:Hp} {R:V->V->Hp->Prop} (I:zB X pins σ H s)
  (h:ta σ H fun x H1=>tb σ H1 fun y H2=>R x y H2) {Q:Value->Shared->Prop} {f:Value->Value->Sem Value}
  (hf:∀ v u s2 x y H2,zB X pins σ H2 s2->zX x v->zX y u->R x y H2->wpAny (model X.prog X.w) X.A (f v u) Q X.xe s2) :
  wpAny (model X.prog X.w) X.A (eval a X.env) (fun v s₁=>wpAny (model X.prog X.w) X.A (eval b X.env) (fun u s₂=>wpAny (model X.prog X.w) X.A (f v u) Q X.xe s₂) X.xe s₁) X.xe s:=by
 refine za (ha pins s σ H _ I h) fun v s1 ⟨x,H1,I1,r1,q1⟩=>?_
 refine za (hb pins s1 σ H1 _ I1 q1) fun u s2 ⟨y,H2,I2,r2,q2⟩=>?_
 exact hf v u s2 x y H2 I2 r1 r2 q2
theorem Jl {op:Operator} {r:R2} (ho:zt X (binaryOp op) r) (ha:PE X a ta) (hb:PE X b tb):PE X (.BinOp a op b pos) (Xz r ta tb):=by
 intro pins s σ H Q I h
 exact wpAny_BinOp (Wm ha hb I h fun v u s2 x y H2 I2 rx ry q=>ho pins s2 σ H2 x y v u Q I2 rx ry q)
theorem C_ {op:UnaryOp} {r:V->Hp->VK->Prop} (ho:gi X (unaryOp op) r) (ha:PE X a ta):PE X (.UnaryOp op a pos) (ND r ta):=by
 intro pins s σ H Q I h
 exact UnaryOp_ (za (ha pins s σ H _ I h) fun v s1 ⟨x,H1,I1,r1,q1⟩=>ho pins s1 σ H1 x v Q I1 r1 q1)
theorem gA {f:Value->Value->Sem Value} {C:Int->Int->Prop} {g:Int->Int->Int}
  (rule:∀ (i j:Int) (t u:Tok) (s:Shared) (Q:Value->Shared->Prop) (E:Value->Shared->Prop),C i j->Q (.int (g i j) s.toks) { s with toks:=s.toks+1 }->wpAny (model X.prog X.w) X.A (f (.int i t) (.int j u)) Q E s) :
  zt X f (rI C fun i j=>.int (g i j)):=by
 intro pins s σ H x y v u Q I rx ry h
 obtain ⟨i,j,rfl,rfl,hc,q⟩:=h
 obtain ⟨t,rfl⟩:=rx
 obtain ⟨t',rfl⟩:=ry
 exact rule i j t t' s _ _ hc ⟨.int (g i j),H,I.tok _,⟨_,rfl⟩,q⟩
theorem kU {f:Value->Value->Sem Value} {g:Int->Int->Int}
  (rule:∀ (i j:Int) (t u:Tok) (s:Shared) (Q:Value->Shared->Prop) (E:Value->Shared->Prop),Q (.int (g i j) s.toks) { s with toks:=s.toks+1 }->wpAny (model X.prog X.w) X.A (f (.int i t) (.int j u)) Q E s) :
  zt X f (vF fun i j=>.int (g i j)):=by
 intro pins s σ H x y v u Q I rx ry h
 obtain ⟨i,j,rfl,rfl,q⟩:=h
 obtain ⟨t,rfl⟩:=rx
 obtain ⟨t',rfl⟩:=ry
 exact rule i j t t' s _ _ ⟨.int (g i j),H,I.tok _,⟨_,rfl⟩,q⟩
theorem Xf {f:Value->Value->Sem Value} {g:Int->Int->Bool}
  (rule:∀ (i j:Int) (t u:Tok) (s:Shared) (Q:Value->Shared->Prop) (E:Value->Shared->Prop),Q (.bool (g i j)) s->wpAny (model X.prog X.w) X.A (f (.int i t) (.int j u)) Q E s) :
  zt X f (vF fun i j=>.bl (g i j)):=by
 intro pins s σ H x y v u Q I rx ry h
 obtain ⟨i,j,rfl,rfl,q⟩:=h
 obtain ⟨t,rfl⟩:=rx
 obtain ⟨t',rfl⟩:=ry
 exact rule i j t t' s _ _ ⟨.bl (g i j),H,I,rfl,q⟩
noncomputable def WB (i j:Int):Prop:=0<=j/\j<=1000000/\i.natAbs<2 ^ 64
noncomputable def gT (i j:Int):Prop:=(-(2 ^ 64)<i/\i<2 ^ 64)\/(-(2 ^ 64)<j/\j<2 ^ 64)
theorem gT.ok {i j:Int} (h:gT i j):IntMulOk i j:=by
 rcases h with ⟨h1,h2⟩ | ⟨h1,h2⟩
 ·exact .of_left (intBits_le_64 h1 h2)
 ·exact .of_right (intBits_le_64 h1 h2)
theorem NX (k:Nat):(0:Int)<=2 ^ k:=by
 rw [two_pow_cast]
 exact Int.natCast_nonneg _
theorem CB:zt X (binaryOp .Add) (vF fun i j=>.int (i+j)):=kU fun _ _ _ _ _ _ _ q=>add_int q
theorem qh:zt X (binaryOp .Sub) (vF fun i j=>.int (i - j)):=kU fun _ _ _ _ _ _ _ q=>sub_int q
theorem vn:zt X (binaryOp .Mult) (rI gT fun i j=>.int (i*j)):=gA fun _ _ _ _ _ _ _ hc q=>mul_int q hc.ok
theorem xB:zt X (binaryOp .Mod) (rI (fun _ j=>0<j) fun i j=>.int (i % j)):=gA fun i j _ _ _ _ _ hc q=>by
 have h1:(0:Int)<j:=hc
 exact mod_int' (by omega) (by rw [Int.fmod_eq_emod_of_nonneg i (by omega)]; exact q)
theorem j5:zt X (binaryOp .LShift) (rI WB fun i j=>.int (i*2 ^ j.toNat)):=gA fun _ _ _ _ _ _ _ hc q=>lshift_int_small hc.1 hc.2.1 hc.2.2 q
theorem JY:zt X (binaryOp .RShift) (rI (fun _ j=>0<=j) fun i j=>.int (i / 2 ^ j.toNat)):=gA fun i j _ _ _ _ _ hc q=>
 rshift_int hc (by rw [Int.fdiv_eq_ediv_of_nonneg i (NX _)]; exact q)
theorem U2:zt X (binaryOp .BitAnd) (vF fun i j=>.int (Builtin.bitAnd i j)):=kU fun _ _ _ _ _ _ _ q=>and_int q
theorem JX:zt X (binaryOp .BitOr) (vF fun i j=>.int (Builtin.bitOr i j)):=kU fun _ _ _ _ _ _ _ q=>or_int q
theorem CW:zt X (binaryOp .BitXor) (vF fun i j=>.int (Builtin.bitXor i j)):=kU fun _ _ _ _ _ _ _ q=>xor_int q
theorem OG {f:Value->Sem Value} {g:Int->Int}
  (rule:∀ (i:Int) (t:Tok) (s:Shared) (Q:Value->Shared->Prop) (E:Value->Shared->Prop),Q (.int (g i) s.toks) { s with toks:=s.toks+1 }->wpAny (model X.prog X.w) X.A (f (.int i t)) Q E s) :
  gi X f (rU fun i=>.int (g i)):=by
 intro pins s σ H x v Q I rx h
 obtain ⟨i,rfl,q⟩:=h
 obtain ⟨t,rfl⟩:=rx
 exact rule i t s _ _ ⟨.int (g i),H,I.tok _,⟨_,rfl⟩,q⟩
theorem Ng:gi X (unaryOp .USub) (rU fun i=>.int (-i)):=OG fun _ _ _ _ _ q=>neg_int q
theorem Nf:gi X (unaryOp .Invert) (rU fun i=>.int (Builtin.bitNot i)):=OG fun _ _ _ _ _ q=>invert_int q
theorem CC:zt X (binaryOp .Add) (fun x y H Q=>∃ i k,x=.int i/\y=.bl k/\Q (.int (i+b2i k)) H):=by
 intro pins s σ H x y v u Q I rx ry h
 obtain ⟨i,k,rfl,rfl,q⟩:=h
 obtain ⟨t,rfl⟩:=rx
 cases ry
 exact add_int_bool ⟨.int (i+b2i k),H,I.tok _,⟨_,rfl⟩,q⟩
end
noncomputable def UY:V->V->Bool
 | .non,.non=>true | .non,.int _=>true | .int _,.non=>true | .non,.bl _=>true | .bl _,.non=>true | .non,.str _=>true | .str _,.non=>true
 | .int _,.int _=>true | .bl _,.bl _=>true | .str _,.str _=>true | .byt _,.byt _=>true
 | .int _,.str _=>true | .str _,.int _=>true | .bl _,.str _=>true | .str _,.bl _=>true
 | _,_=>false
noncomputable def Er:R2:=fun x y H Q=>UY x y=true/\Q (.bl (decide (x=y))) H
noncomputable def Eu:R2:=fun x y H Q=>UY x y=true/\Q (.bl (!decide (x=y))) H
theorem V4 {i j:Int}:decide (V.int i=V.int j)=(i == j):=by
 rw [Bool.eq_iff_iff]
 simp
theorem V3 {i j:Bool}:decide (V.bl i=V.bl j)=(i == j):=by
 rw [Bool.eq_iff_iff]
 simp
theorem V5 {i j:Str}:decide (V.str i=V.str j)=(i == j):=by
 rw [Bool.eq_iff_iff]
 simp
theorem QK {i j:Array UInt8}:decide (V.byt i=V.byt j)=(i.toList == j.toList):=by
 rw [Bool.eq_iff_iff]
 cases i
 cases j
 simp
section
variable {X:Cx} {a b c:Expr} {ta tb tc:TE} {pos:Pos}
theorem yg {pins:List (Addr×Obj)} {σ:St} {H:Hp} {s:Shared} {Q:VK} {k k':Bool} (I:zB X pins σ H s) (q:Q (.bl k) H) (e:k=k'):EP X pins σ Q (.bool k') s:=by
 subst e
 exact ⟨.bl k,H,I,rfl,q⟩
theorem CI:zt X (compareOp .Eq) Er:=by
 intro pins s σ H x y v u Q I rx ry h
 obtain ⟨hs,q⟩:=h
 cases x with
 | non=>
  cases rx
  cases y with
  | non=>cases ry; exact PySem.EqNone.eq_none_none (yg I q (by simp))
  | bl j=>cases ry; exact PySem.EqNone.eq_none_bool (yg I q (by simp))
  | int j=>obtain ⟨t',rfl⟩:=ry; exact PySem.EqNone.eq_none_int (yg I q (by simp))
  | str j=>obtain ⟨t',rfl⟩:=ry; exact PySem.EqNone.eq_none_str (yg I q (by simp))
  | _=>exact absurd (show false=true from hs) Bool.false_ne_true
 | bl i=>
  cases rx
  cases y with
  | non=>cases ry; exact PySem.EqNone.eq_bool_none (yg I q (by simp))
  | bl j=>cases ry; exact eq_bool (yg I q V3)
  | str j=>obtain ⟨t',rfl⟩:=ry; exact PySem.EqMixed.eq_bool_str (yg I q (by simp))
  | _=>exact absurd (show false=true from hs) Bool.false_ne_true
 | int i=>
  obtain ⟨t,rfl⟩:=rx
  cases y with
  | non=>cases ry; exact PySem.EqNone.eq_int_none (yg I q (by simp))
  | int j=>obtain ⟨t',rfl⟩:=ry; exact eq_int (yg I q V4)
  | str j=>obtain ⟨t',rfl⟩:=ry; exact PySem.EqMixed.eq_int_str (yg I q (by simp))
  | _=>exact absurd (show false=true from hs) Bool.false_ne_true
 | str i=>
  obtain ⟨t,rfl⟩:=rx
  cases y with
  | non=>cases ry; exact PySem.EqNone.eq_str_none (yg I q (by simp))
  | bl j=>cases ry; exact PySem.EqMixed.eq_str_bool (yg I q (by simp))
  | int j=>obtain ⟨t',rfl⟩:=ry; exact PySem.EqMixed.eq_str_int (yg I q (by simp))
  | str j=>obtain ⟨t',rfl⟩:=ry; exact eq_str (yg I q V5)
  | _=>exact absurd (show false=true from hs) Bool.false_ne_true
 | byt i=>
  obtain ⟨t,rfl⟩:=rx
  cases y with
  | byt j=>obtain ⟨t',rfl⟩:=ry; exact PySem.W.eq_bytes (yg I q QK)
  | _=>exact absurd (show false=true from hs) Bool.false_ne_true
 | _=>cases y<;>exact absurd (show false=true from hs) Bool.false_ne_true
theorem CN:zt X (compareOp .NotEq) Eu:=by
 intro pins s σ H x y v u Q I rx ry h
 obtain ⟨hs,q⟩:=h
 cases x with
 | non=>
  cases rx
  cases y with
  | non=>cases ry; exact PySem.EqNone.ne_none_none (yg I q (by simp))
  | bl j=>cases ry; exact PySem.EqNone.ne_none_bool (yg I q (by simp))
  | int j=>obtain ⟨t',rfl⟩:=ry; exact PySem.EqNone.ne_none_int (yg I q (by simp))
  | str j=>obtain ⟨t',rfl⟩:=ry; exact PySem.EqNone.ne_none_str (yg I q (by simp))
  | _=>exact absurd (show false=true from hs) Bool.false_ne_true
 | bl i=>
  cases rx
  cases y with
  | non=>cases ry; exact PySem.EqNone.ne_bool_none (yg I q (by simp))
  | bl j=>cases ry; exact ne_bool (yg I q (congrArg not V3))
  | str j=>obtain ⟨t',rfl⟩:=ry; exact PySem.EqMixed.ne_bool_str (yg I q (by simp))
  | _=>exact absurd (show false=true from hs) Bool.false_ne_true
 | int i=>
  obtain ⟨t,rfl⟩:=rx
  cases y with
  | non=>cases ry; exact PySem.EqNone.ne_int_none (yg I q (by simp))
  | int j=>obtain ⟨t',rfl⟩:=ry; exact ne_int (yg I q (congrArg not V4))
  | str j=>obtain ⟨t',rfl⟩:=ry; exact PySem.EqMixed.ne_int_str (yg I q (by simp))
  | _=>exact absurd (show false=true from hs) Bool.false_ne_true
 | str i=>
  obtain ⟨t,rfl⟩:=rx
  cases y with
  | non=>cases ry; exact PySem.EqNone.ne_str_none (yg I q (by simp))
  | bl j=>cases ry; exact PySem.EqMixed.ne_str_bool (yg I q (by simp))
  | int j=>obtain ⟨t',rfl⟩:=ry; exact PySem.EqMixed.ne_str_int (yg I q (by simp))
  | str j=>obtain ⟨t',rfl⟩:=ry; exact ne_str (yg I q (congrArg not V5))
  | _=>exact absurd (show false=true from hs) Bool.false_ne_true
 | byt i=>
  obtain ⟨t,rfl⟩:=rx
  cases y with
  | byt j=>obtain ⟨t',rfl⟩:=ry; exact PySem.W.ne_bytes (yg I q (congrArg not QK))
  | _=>exact absurd (show false=true from hs) Bool.false_ne_true
 | _=>cases y<;>exact absurd (show false=true from hs) Bool.false_ne_true
theorem Xg:zt X (compareOp .Lt) (vF fun i j=>.bl (decide (i<j))):=Xf fun _ _ _ _ _ _ _ q=>lt_int q
theorem JW:zt X (compareOp .LtE) (vF fun i j=>.bl (decide (i<=j))):=Xf fun _ _ _ _ _ _ _ q=>le_int q
theorem U3:zt X (compareOp .Gt) (vF fun i j=>.bl (decide (j<i))):=Xf fun _ _ _ _ _ _ _ q=>gt_int q
theorem JU:zt X (compareOp .GtE) (vF fun i j=>.bl (decide (j<=i))):=Xf fun _ _ _ _ _ _ _ q=>ge_int q
theorem CL:zt X (compareOp .In) (fun x y H Q=>∃ i j,x=.str i/\y=.str j/\Q (.bl (!(Builtin.Str.occurrences j i 0 j.length 1).isEmpty)) H):=by
 intro pins s σ H x y v u Q I rx ry h
 obtain ⟨i,j,rfl,rfl,q⟩:=h
 obtain ⟨t,rfl⟩:=rx
 obtain ⟨t',rfl⟩:=ry
 exact in_str (yg I q rfl)
theorem JV:zt X (compareOp .Is) (fun x y H Q=>y=.non/\Q (.bl (decide (x=.non))) H):=by
 intro pins s σ H x y v u Q I rx ry h
 obtain ⟨rfl,q⟩:=h
 cases ry
 refine is_none_gen (yg I q ?_)
 cases x<;>first
  | (cases rx; rfl)
  | (obtain ⟨t,rfl⟩:=rx; rfl)
theorem CU:zt X (compareOp .IsNot) (fun x y H Q=>y=.non/\Q (.bl (!decide (x=.non))) H):=by
 intro pins s σ H x y v u Q I rx ry h
 obtain ⟨rfl,q⟩:=h
 cases ry
 refine isnot_none_gen (yg I q ?_)
 cases x<;>first
  | (cases rx; rfl)
  | (obtain ⟨t,rfl⟩:=rx; rfl)
theorem zt.or {f:Value->Value->Sem Value} {r r':R2} (h:zt X f r) (h':zt X f r'):zt X f (fun x y H Q=>r x y H Q\/r' x y H Q):=by
 intro pins s σ H x y v u Q I rx ry q
 rcases q with q | q
 ·exact h pins s σ H x y v u Q I rx ry q
 ·exact h' pins s σ H x y v u Q I rx ry q
theorem zy (b:Expr) {op:CmpOp} (h:op≠.In:=by decide) (h2:op≠.NotIn:=by decide):behindInMarks op b=false:=by
 have e1:(op == CmpOp.In)=false:=by cases op<;>first | rfl | exact absurd rfl h
 have e2:(op == CmpOp.NotIn)=false:=by cases op<;>first | rfl | exact absurd rfl h2
 cases b<;>simp [behindInMarks,e1,e2]
theorem Jf {op:CmpOp} {r:R2} (ho:zt X (compareOp op) r) (ha:PE X a ta) (hb:PE X b tb) (hm:behindInMarks op b=false):PE X (.Compare a [op] [b] pos) (Xz r ta tb):=by
 intro pins s σ H Q I h
 exact wpAny_Compare1 (Wm ha hb I h fun v u s2 x y H2 I2 rx ry q=>ho pins s2 σ H2 x y v u Q I2 rx ry q) hm
noncomputable def NB (t:TE):TT:=fun σ H Q=>t σ H fun x H'=>∃ k,x=.bl k/\Q k H'
theorem UD {op:CmpOp} {r:R2} (ho:zt X (compareOp op) r) (ha:PE X a ta) (hb:PE X b tb) (hm:behindInMarks op b=false):PT X (.Compare a [op] [b] pos) (NB (Xz r ta tb)):=by
 intro pins s σ H Q I h
 refine wpAny_isTrue_Compare1 (za (ha pins s σ H _ I h) fun v s1 ⟨x,H1,I1,r1,q1⟩=>za (hb pins s1 σ H1 _ I1 q1) fun u s2 ⟨y,H2,I2,r2,q2⟩=>
  za (ho pins s2 σ H2 x y v u _ I2 r1 r2 q2) fun c s3 ⟨z,H3,I3,r3,k,e,q3⟩=>?_) hm
 subst e
 cases r3
 exact wpAny_truthy_bool ⟨H3,I3,q3⟩
noncomputable def Kr (r r':R2) (ta tb tc:TE):TE:=fun σ H Q=>ta σ H fun x H1=>tb σ H1 fun y H2=>r x y H2 fun z H3=>∃ k,z=.bl k/\
 (if k=true then tc σ H3 fun w' H4=>r' y w' H4 Q else Q (.bl false) H3)
theorem Cm {op op':CmpOp} {r r':R2} (ho:zt X (compareOp op) r) (ho':zt X (compareOp op') r') (ha:PE X a ta) (hb:PE X b tb) (hc:PE X c tc)
  (hm:lastMarks [op,op'] [b,c]=false:=by with_unfolding_all rfl):PE X (.Compare a [op,op'] [b,c] pos) (Kr r r' ta tb tc):=by
 intro pins s σ H Q I h
 refine Compare_chain (za (ha pins s σ H _ I h) fun v s1 ⟨x,H1,I1,r1,q1⟩=>chain_link (za (hb pins s1 σ H1 _ I1 q1) fun u s2 ⟨y,H2,I2,r2,q2⟩=>
  za (ho pins s2 σ H2 x y v u _ I2 r1 r2 q2) fun d s3 ⟨z,H3,I3,r3,k,e,q3⟩=>?_)) hm
 subst e
 cases r3
 refine wpAny_truthy_bool ?_
 cases k with
 | false=>exact ite_ff ⟨.bl false,H3,I3,rfl,q3⟩
 | true=>exact ite_tt (chain_last (za (hc pins s3 σ H3 _ I3 q3) fun w' s4 ⟨z',H4,I4,r4,q4⟩=>ho' pins s4 σ H4 y z' u w' Q I4 r2 r4 q4))
theorem jw:(sizeLine:Nat)<2 ^ 63:=by rw [sizeLine_eq]; decide
theorem CD:zt X (binaryOp .Add) (fun x y H Q=>∃ i j,x=.str i/\y=.str j/\i.length+j.length<=sizeLine/\Q (.str (i++j)) H):=by
 intro pins s σ H x y v u Q I rx ry h
 obtain ⟨i,j,rfl,rfl,hz,q⟩:=h
 obtain ⟨t,rfl⟩:=rx
 obtain ⟨t',rfl⟩:=ry
 exact add_str (fun t' tk=>⟨.str (i++j),H,I.tok _,⟨_,rfl⟩,q⟩) hz
theorem wq {x:V} {us:List Value} (r:zb [x] us):∃ u,us=[u]/\zX x u:=by
 cases r with
 | cons r1 r2=>cases r2; exact ⟨_,rfl,r1⟩
theorem W3 {x y:V} {us:List Value} (r:zb [x,y] us):∃ u w',us=[u,w']/\zX x u/\zX y w':=by
 cases r with
 | cons r1 r2=>
  cases r2 with
  | cons r3 r4=>cases r4; exact ⟨_,_,rfl,r1,r3⟩
theorem LQ (hc:X.calm=true):xC X (.builtin "max") (fun xs H Q=>∃ i j,xs=[.int i,.int j]/\Q (.int (if j > i then j else i)) H):=by
 intro pins s σ H xs us Q I r h
 obtain ⟨i,j,rfl,q⟩:=h
 obtain ⟨u,w',rfl,⟨t,rfl⟩,⟨t',rfl⟩⟩:=W3 r
 refine max_two_ints (I.ok.hd hc) fun h' tk k=>⟨_,H,I.kept k,?_,q⟩
 by_cases hj:j > i
 ·rw [if_pos hj,if_pos hj]; exact ⟨_,rfl⟩
 ·rw [if_neg hj,if_neg hj]; exact ⟨_,rfl⟩
theorem LJ:xC X (.type "int") (fun xs H Q=>(∃ i,xs=[.int i]/\Q (.int i) H)\/∃ k,xs=[.bl k]/\Q (.int (if k then 1 else 0)) H):=by
 intro pins s σ H xs us Q I r h
 rcases h with ⟨i,rfl,q⟩ | ⟨k,rfl,q⟩
 ·obtain ⟨u,rfl,t,rfl⟩:=wq r
  exact call_int_int ⟨.int i,H,I,⟨_,rfl⟩,q⟩
 ·obtain ⟨u,rfl,r1⟩:=wq r
  cases r1
  exact call_int_bool ⟨.int (if k then 1 else 0),H,I.tok _,⟨_,rfl⟩,q⟩
end
end L2
namespace L2
open PySem PySem.Spec PyProof.Rows
structure pQ (h:Heap) (x dx C:Addr) (mA:Str->Option Value):Prop where
 obj:h.get? x=some (PySem.W.instObj C dx)
 ns:h.Ns1 dx mA
 ne:dx≠x
theorem Bl {h:Heap} {dx:Addr} {mA:Str->Option Value} (n:h.Ns1 dx mA):∃ od,h.get? dx=some od/\∀ name,PySem.W.lookIn name od=some (mA name):=by
 obtain ⟨o,es,ep,ho,hd,hk,_,hm⟩:=n
 refine ⟨o,ho,fun name=>?_⟩
 have e:=hm name
 unfold nsFind findBy at e
 rw [<- Array.find?_toList] at e
 unfold PySem.W.lookIn
 rw [hd]
 dsimp only
 split
 ·rename_i y q
  rw [q] at e
  exact congrArg some e
 ·rename_i q
  rw [q] at e
  have a:es.toList.any (·.refKey)=false:=by
   rw [List.any_eq_false]
   intro y hy
   obtain ⟨z,t,hkey⟩:=hk y (Array.mem_toList_iff.mp hy)
   simp [DictEntry.refKey,hkey]
  have a':¬ es.toList.any (·.refKey)=true:=by rw [a]; exact Bool.false_ne_true
  rw [if_neg a']
  exact congrArg some e
theorem pQ.look {h:Heap} {x dx C:Addr} {mA:Str->Option Value} (I:pQ h x dx C mA):∃ od,PySem.W.InstAt h x (PySem.W.instObj C dx) C (some od)/\∀ name,PySem.W.lookIn name od=some (mA name):=
 let ⟨od,ho,hl⟩:=Bl I.ns
 ⟨od,⟨I.obj,rfl,rfl,ho⟩,hl⟩
section
variable {prog:Program} {w:World} {A:Around} {E:Value->Shared->Prop} {s:Shared} {K:PySem.W.Frag} {x dx C f:Addr} {mA:Str->Option Value} {name:Str} {v:Value}
theorem L_ {expr:Bool} {Q:Value->Shared->Prop} (X:K.In s.heap) (I:pQ s.heap x dx C mA) (hg:PySem.W.plainGet K C name=true) (hh:PySem.W.hasDictIn K C=true)
  (ha:PySem.W.findIn K (.ref C) name=some none) (hv:mA name=some v) (hv':PySem.W.handedIn v=true) (h:Q v { s with toks:=s.toks+1 }) :
  wpAny (model prog w) A (getAttr (.ref x) name expr) Q E s:=by
 obtain ⟨od,J,hl⟩:=I.look
 exact PySem.W.get_value X J (PySem.W.plainGet_of hg).1 (PySem.W.findObj_own hh ha rfl (by rw [hl,hv])) hv' h
theorem M0 {pl:Sem Bool} {Q:Value×List Value->Shared->Prop} (X:K.In s.heap) (I:pQ s.heap x dx C mA) (hg:PySem.W.plainGet K C name=true)
  (hf:PySem.W.findIn K (.ref C) name=some (some (.ref f))) (ht:PySem.W.isFn K (.ref f)=true) (hv:mA name=none) (h:Q (.ref f,[.ref x]) s) :
  wpAny (model prog w) A (getMethod (.ref x) name pl) Q E s:=by
 obtain ⟨od,J,hl⟩:=I.look
 exact PySem.W.method_fn X J (PySem.W.plainGet_of hg).1 (PySem.W.plainGet_of hg).2 hf (beq_iff_eq.mp ht) (by show (PySem.W.lookIn name od).map (·.isSome)=some false; rw [hl,hv]; rfl) h
theorem KE {ns:List Str} {Q:Unit->Shared->Prop} (X:K.In s.heap) (I:pQ s.heap x dx C mA)
  (hs:PySem.W.findIn K (.ref C) "__setattr__" = some (some (.builtin "object.__setattr__"))) (hp:PySem.W.plainOver K C=true) (ht:PySem.W.takerIn K C name=some none) (hh:PySem.W.hasDictIn K C=true)
  (hw:PySem.Within mA ns) (hsz:ns.length<=sizeLine)
  (h:∀ h',pQ h' x dx C (fun y=>if y=name then some v else mA y)->Heap.SameBut dx s.heap h'->Q () { s with heap:=h',toks:=s.toks+2 }) :
  wpAny (model prog w) A (setAttr (.ref x) name v) Q E s:=by
 obtain ⟨od,J,hl⟩:=I.look
 refine PySem.W.set_plain X J hs (PySem.W.osa_open (s:={ s with toks:=s.toks+1 }) (r:=none) X J hp ht fun b=>?_)
 obtain ⟨cd,hc,hd'⟩:=PySem.W.any_some hh
 have hx:s.heap.get? x=some ⟨.ref C,some dx,.plain,#[]⟩:=I.obj
 refine wpAny_bind (wpAny_pure (wpAny_bind (wpAny_bind (wpAny_loadPart hx (wpAny_bind (PySem.W.Looks.here (s:={ s with toks:=s.toks+1 }) (PySem.W.looks_clsIn X hc) ?_))))))
 rw [hd']
 refine wpAny_pure (a:=some dx) (wpAny_bind (wpAny_pure (wpAny_bind ?_)))
 refine wpAny_nsSet1 (s:={ s with toks:=s.toks+1 }) I.ns fun h' hn2 hs2=>?_
 obtain ⟨oD,esD,epD,hoD,hdD,hcD⟩:=hn2.count (PySem.Within.cons name v hw)
 refine wpAny_bind (wpAny_lookBehind hoD (by rw [hdD]; exact pastItsLine_dict (Nat.le_trans hcD (by rw [List.length_cons]; omega))) ?_)
 exact wpAny_pure (h _ ⟨(hs2.2 _ (Ne.symm I.ne)).trans I.obj,hn2,I.ne⟩ hs2)
theorem Bp {R:Result->Shared->Prop} {vs:List Value} {kw:List (Str×Value)} (X:K.In s.heap) (hm:PySem.W.makesIn K C=true)
  (hi:PySem.W.findIn K (.ref C) "__init__" = some (some (.ref f))) (hf:PySem.W.typeIn K (.ref f)=some (.type "function"))
  (h:codeAny (model prog w) (A.under (.builtin "type.__call__" ⟨.ref C::vs,kw⟩)) (.call (.ref f) ⟨.ref (s.heap.objs.size+1)::vs,kw⟩) (PySem.W.InitBack (s.heap.objs.size+1) R)
   { s with heap:=(s.heap.push PySem.W.emptyDict).push (PySem.W.instObj C s.heap.objs.size) }) :
  codeAny (model prog w) A (.call (.ref C) ⟨vs,kw⟩) R s:=by
 obtain ⟨hh,g,d,t,os⟩:=s
 exact PySem.W.make_core (PySem.W.makes_of X hm) (PySem.W.looks_findIn X hi) (fun self=>PySem.W.bind_fn X self hf) (.inl rfl) h
end
noncomputable def putF (f:Str) (v:V):List (Str×V)->List (Str×V)
 | []=>[(f,v)]
 | (g,x)::r=>if g=f then (g,v)::r else (g,x)::putF f v r
theorem JI (f g:Str) (v:V):∀ fs:List (Str×V),(putF f v fs).lookup g=if g=f then some v else fs.lookup g
 | []=>by
  show List.lookup g [(f,v)]=_
  by_cases h:g=f
  ·have hb:(g == f)=true:=beq_iff_eq.mpr h
   simp only [List.lookup,hb,if_pos h]
  ·have hb:(g == f)=false:=beq_eq_false_iff_ne.mpr h
   simp only [List.lookup,hb,if_neg h]
 | (k,x)::r=>by
  have ih:=JI f g v r
  rw [show putF f v ((k,x)::r)=(if k=f then (k,v)::r else (k,x)::putF f v r) from rfl]
  by_cases hk:k=f
  ·rw [if_pos hk]
   by_cases h:g=k
   ·have hb:(g == k)=true:=beq_iff_eq.mpr h
    simp only [List.lookup,hb,if_pos (h.trans hk)]
   ·have hb:(g == k)=false:=beq_eq_false_iff_ne.mpr h
    simp only [List.lookup,hb,if_neg (fun e:g=f=>h (e.trans hk.symm))]
  ·rw [if_neg hk]
   by_cases h:g=k
   ·have hb:(g == k)=true:=beq_iff_eq.mpr h
    simp only [List.lookup,hb,if_neg (fun e:g=f=>hk (h.symm.trans e))]
   ·have hb:(g == k)=false:=beq_eq_false_iff_ne.mpr h
    simp only [List.lookup,hb]
    exact ih
theorem VW (f:Str) (v:V):∀ fs:List (Str×V),f∈(putF f v fs).map (·.1)/\∀ g,g∈fs.map (·.1)->g∈(putF f v fs).map (·.1)
 | []=>⟨by simp [putF],fun g h=>by simp at h⟩
 | (k,x)::r=>by
  obtain ⟨i1,i2⟩:=VW f v r
  rw [show putF f v ((k,x)::r)=(if k=f then (k,v)::r else (k,x)::putF f v r) from rfl]
  by_cases hk:k=f
  ·rw [if_pos hk]
   subst hk
   exact ⟨by simp,fun g h=>by simpa using h⟩
  ·rw [if_neg hk]
   refine ⟨?_,fun g h=>?_⟩
   ·rw [List.map_cons]
    exact List.mem_cons_of_mem _ i1
   ·rw [List.map_cons] at h ⊢
    rcases List.mem_cons.mp h with e | e
    ·exact List.mem_cons.mpr (.inl e)
    ·exact List.mem_cons_of_mem _ (i2 g e)
theorem JF (f:Str) (v:V):∀ fs:List (Str×V),(putF f v fs).length<=fs.length+1
 | []=>by simp [putF]
 | (k,x)::r=>by
  have ih:=JF f v r
  rw [show putF f v ((k,x)::r)=(if k=f then (k,v)::r else (k,x)::putF f v r) from rfl]
  by_cases hk:k=f
  ·rw [if_pos hk,List.length_cons,List.length_cons]; omega
  ·rw [if_neg hk,List.length_cons,List.length_cons]; omega
theorem x_.some_of {v:V} {o:Option Value} (r:x_ (some v) o):∃ u,o=some u/\zX v u:=by
 cases o with
 | none=>exact (show False from r).elim
 | some u=>exact ⟨u,rfl,r⟩
theorem x_.none_of {o:Option Value} (r:x_ none o):o=none:=by
 cases o with
 | none=>rfl
 | some u=>exact (show False from r).elim
theorem Mv {v:V} {u:Value} (r:zX v u):PySem.W.handedIn u=true:=by
 cases v with
 | non=>cases (show u=Value.none from r); rfl
 | bl b=>cases (show u=Value.bool b from r); rfl
 | int i=>obtain ⟨t,e⟩:=(show ∃ t,u=Value.int i t from r); cases e; rfl
 | str x=>obtain ⟨t,e⟩:=(show ∃ t,u=Value.str x t from r); cases e; rfl
 | byt b=>obtain ⟨t,e⟩:=(show ∃ t,u=Value.bytes b t from r); cases e; rfl
 | flt b=>obtain ⟨t,e⟩:=(show ∃ t,u=Value.float b t from r); cases e; rfl
 | ref a=>cases (show u=Value.ref a from r); rfl
 | ty n=>cases (show u=Value.type n from r); rfl
section
variable {P:Program} {w:World} {H H':Hp} {h h':Heap} {a C dx:Addr} {fs fs':List (Str×V)}
theorem XQ (hok:ya P w H h) (e:H a=some (.ins C dx fs)):∃ mA,pQ h a dx C mA/\(∀ f,x_ (fs.lookup f) (mA f))/\PySem.Within mA (fs.map (·.1))/\fs.length<=1000/\H dx=some (.own a):=by
 obtain ⟨d,z,ne,ob,mA,n,r,q⟩:=(show yc P w H h a (.ins C dx fs) from hok a _ e)
 exact ⟨mA,⟨ob,n,ne⟩,r,q,z,d⟩
end
structure wt (K:PySem.W.Frag) (C:Addr):Prop where
 pg:PySem.W.plainGet K C Str.empty=true
 hd:PySem.W.hasDictIn K C=true
 po:PySem.W.plainOver K C=true
 sa:PySem.W.findIn K (.ref C) "__setattr__" = some (some (.builtin "object.__setattr__"))
theorem wt.get {K:PySem.W.Frag} {C:Addr} (c:wt K C) (f:Str):PySem.W.plainGet K C f=true:=c.pg
noncomputable def qN (K:PySem.W.Frag) (C:Addr) (f:Str):Prop:=PySem.W.findIn K (.ref C) f=some none
theorem qN.taker {K:PySem.W.Frag} {C:Addr} {f:Str} (n:qN K C f):PySem.W.takerIn K C f=some none:=by
 unfold PySem.W.takerIn
 rw [show PySem.W.findIn K (.ref C) f=some none from n]
 rfl
structure WQ (K:PySem.W.Frag) (C:Addr) (m:Str) (f:Addr):Prop where
 at_:PySem.W.findIn K (.ref C) m=some (some (.ref f))
 fn:PySem.W.isFn K (.ref f)=true
 kp:PySem.W.keepIn K (.ref f)=true
section
variable {X:Cx} {pins:List (Addr×Obj)} {σ:St} {H:Hp} {s:Shared} {a C dx:Addr} {fs:List (Str×V)} {f:Str} {v:V} {A:Around} {E:Value->Shared->Prop}
theorem Ql {b:Bool} {Q:Value->Shared->Prop} (I:zB X pins σ H s) (e:H a=some (.ins C dx fs)) (c:wt X.K C) (n:qN X.K C f) (l:fs.lookup f=some v)
  (h:∀ u s',zB X pins σ H s'->zX v u->Q u s'):wpAny (model X.prog X.w) A (getAttr (.ref a) f b) Q E s:=by
 obtain ⟨mA,O,r,_,_,_⟩:=XQ I.hok e
 obtain ⟨u,hu,ru⟩:=x_.some_of (v:=v) (o:=mA f) (by rw [<- l]; exact r f)
 exact L_ I.kIn O (c.get f) c.hd n hu (Mv ru) (h u _ (I.tok _) ru)
theorem M1 {m:Str} {g:Addr} {pl:Sem Bool} {Q:Value×List Value->Shared->Prop} (I:zB X pins σ H s) (e:H a=some (.ins C dx fs)) (c:wt X.K C) (k:WQ X.K C m g) (l:fs.lookup m=none)
  (h:Q (.ref g,[.ref a]) s):wpAny (model X.prog X.w) A (getMethod (.ref a) m pl) Q E s:=by
 obtain ⟨mA,O,r,_,_,_⟩:=XQ I.hok e
 have hn:mA m=none:=x_.none_of (by rw [<- l]; exact r m)
 exact M0 I.kIn O (c.get m) k.at_ k.fn hn h
theorem Ix {y:V} {u:Value} {Q:Unit->Shared->Prop} (I:zB X pins σ H s) (e:H a=some (.ins C dx fs)) (c:wt X.K C) (n:qN X.K C f) (hl:fs.length<1000) (ry:zX y u)
  (h:∀ s',zB X pins σ (zQ H a (.ins C dx (putF f y fs))) s'->Q () s'):wpAny (model X.prog X.w) A (setAttr (.ref a) f u) Q E s:=by
 obtain ⟨mA,O,r,wi,_,ho⟩:=XQ I.hok e
 have hz:(fs.map (·.1)).length<=sizeLine:=by rw [List.length_map,sizeLine_eq]; omega
 refine KE I.kIn O c.sa c.po n.taker c.hd wi hz fun h' O' sb=>h _ ?_
 have hd:∃ o,h'.get? dx=some o:=let ⟨o,_,_,e',_⟩:=O'.ns; ⟨o,e'⟩
 refine I.write (x:=a) (e:=dx) (by rw [e]; exact True.intro) (.inr ho) (fun b q hb z=>(sb.2 b hb).trans z) hd ?_
 refine ⟨by rw [zw O.ne]; exact ho,?_,O.ne,O'.obj,_,O'.ns,fun g=>?_,fun g hg=>?_⟩
 ·have:=JF f y fs; omega
 ·show x_ ((putF f y fs).lookup g) (if g=f then some u else mA g)
  rw [JI]
  by_cases q:g=f
  ·rw [if_pos q,if_pos q]; exact ry
  ·rw [if_neg q,if_neg q]; exact r g
 ·by_cases q:g=f
  ·rw [q]; exact (VW f y fs).1
  ·refine (VW f y fs).2 g (wi g fun z=>hg ?_)
   show (if g=f then some u else mA g)=none
   rw [if_neg q]; exact z
theorem zB.made (I:zB X pins σ H s):zB X pins σ (zQ (zQ H s.heap.objs.size (.own (s.heap.objs.size+1))) (s.heap.objs.size+1) (.ins C s.heap.objs.size []))
  { s with heap:=(s.heap.push PySem.W.emptyDict).push (PySem.W.instObj C s.heap.objs.size) }:=by
 have e1:(s.heap.push PySem.W.emptyDict).get? s.heap.objs.size=some PySem.W.emptyDict:=Heap.get?_push_size s.heap rfl
 have e2:((s.heap.push PySem.W.emptyDict).push (PySem.W.instObj C s.heap.objs.size)).get? (s.heap.objs.size+1)=some (PySem.W.instObj C s.heap.objs.size):=by
  have:=Heap.get?_push_size (s.heap.push PySem.W.emptyDict) (o:=PySem.W.instObj C s.heap.objs.size) rfl
  rwa [Heap.size_push] at this
 have e3:(s.heap.push PySem.W.emptyDict).Ns s.heap.objs.size (fun _=>none):=⟨PySem.W.emptyDict,#[],_,e1,rfl,(fun e he=>absurd he (by simp)),fun _=>rfl⟩
 have I1:=I.laid (a:=s.heap.objs.size) (o:=.own (s.heap.objs.size+1)) (h':=s.heap.push PySem.W.emptyDict) (t':=s.toks) (fun b u q=>Heap.get?_push_of_some _ q) (Nat.le_refl _) ⟨_,e1⟩
 refine I1.laid (a:=s.heap.objs.size+1) (o:=.ins C s.heap.objs.size []) (t':=s.toks) (fun b u q=>Heap.get?_push_of_some _ q) (Nat.le_of_eq (Heap.size_push _ _)) ?_
 have ne:s.heap.objs.size≠s.heap.objs.size+1:=Nat.ne_of_lt (Nat.lt_succ_self _)
 refine ⟨by rw [zw ne,yK],Nat.zero_le _,ne,e2,fun _=>none,(Heap.Ns1.of_empty e3).at fun o q=>Heap.get?_push_of_some _ q,fun _=>True.intro,fun y hy=>absurd rfl hy⟩
theorem Oi {prog:Program} {w:World} {env:Env} {e:Expr} {f:Str} {pos:Pos} {s:Shared} {Q:Value->Shared->Prop} (hb:attributeBase e f env (eval e env)=eval e env)
  (h:wpAny (model prog w) A (eval e env) (fun o s₁=>wpAny (model prog w) A (getAttr o f true) Q E s₁) E s):wpAny (model prog w) A (eval (.Attribute e f pos) env) Q E s:=
 Attribute_any_ h (by rw [arm_eval_Attribute,hb])
end
noncomputable def Kw (K:PySem.W.Frag) (ta:TE) (f:Str):TE:=fun σ H Q=>ta σ H fun x H1=>∃ a C dx fs v,x=.ref a/\H1 a=some (.ins C dx fs)/\wt K C/\qN K C f/\fs.lookup f=some v/\Q v H1
noncomputable def HC (K:PySem.W.Frag) (ta tv:TE) (f:Str):TS:=fun D σ H=>tv σ H fun y H1=>ta σ H1 fun x H2=>∃ a C dx fs,x=.ref a/\H2 a=some (.ins C dx fs)/\wt K C/\qN K C f/\fs.length<1000/\
 D.nx σ (zQ H2 a (.ins C dx (putF f y fs)))
noncomputable def WL (X:Cx) (op:Operator) (rd:V->V->Hp->VK->Prop):Prop:=
 ∀ (pins:List (Addr×Obj)) (s:Shared) (σ:St) (H:Hp) (x y:V) (u v:Value) (Q:VK),zB X pins σ H s->zX x u->zX y v->rd x y H Q->wpAny (model X.prog X.w) X.A (inplaceOp op u v) (EP X pins σ Q) X.xe s
noncomputable def HD (K:PySem.W.Frag) (ta tv:TE) (rd:V->V->Hp->VK->Prop) (f:Str):TS:=fun D σ H=>ta σ H fun x H1=>∃ a C dx fs v,x=.ref a/\H1 a=some (.ins C dx fs)/\wt K C/\qN K C f/\fs.lookup f=some v/\
 tv σ H1 fun y H2=>rd v y H2 fun z H3=>∃ dx' fs',H3 a=some (.ins C dx' fs')/\fs'.length<1000/\D.nx σ (zQ H3 a (.ins C dx' (putF f z fs')))
section
variable {X:Cx} {o e value:Expr} {f:Str} {pos pos' tpos:Pos} {ta tv:TE}
theorem Jh (he:PE X e ta) (hb:attributeBase e f X.env (eval e X.env)=eval e X.env):PE X (.Attribute e f pos) (Kw X.K ta f):=by
 intro pins s σ H Q I h
 refine Oi hb (za (he pins s σ H _ I h) fun u s1 ⟨x,H1,I1,rx,a,C,dx,fs,v,ex,ea,c,n,l,q⟩=>?_)
 subst ex
 obtain rfl:u=Value.ref a:=rx
 exact Ql I1 ea c n l fun u' s2 I2 ru=>⟨v,H1,I2,ru,q⟩
theorem ER (ha:PE X o ta) (hv:PE X value tv) (hs:swapsWith value (some (.Attribute o f pos')) pos.line X.env=pure false):PS X (.Assign [.Attribute o f pos'] value pos) (HC X.K ta tv f):=by
 intro pins s σ H D I h
 refine plainObj_wpAny_Assign_Attribute (za (hv pins s σ H _ I h) fun u s1 ⟨y,H1,I1,ry,q⟩=>za (ha pins s1 σ H1 _ I1 q) fun ov s2 ⟨x,H2,I2,rx,a,C,dx,fs,ex,ea,c,n,l,q2⟩=>?_) hs
 subst ex
 obtain rfl:ov=Value.ref a:=rx
 exact Ix I2 ea c n l ry fun s3 I3=>⟨σ,_,I3,q2⟩
theorem ES {op:Operator} {rd:V->V->Hp->VK->Prop} (ha:PE X o ta) (hv:PE X value tv) (hop:WL X op rd):PS X (.AugAssign (.Attribute o f tpos) op value pos) (HD X.K ta tv rd f):=by
 intro pins s σ H D I h
 refine wpAny_AugAssign_AttributeAny (za (ha pins s σ H _ I h) fun ov s1 ⟨x,H1,I1,rx,a,C,dx,fs,v,ex,ea,c,n,l,q⟩=>?_)
 subst ex
 obtain rfl:ov=Value.ref a:=rx
 refine Ql I1 ea c n l fun u s2 I2 ru=>za (hv pins s2 σ H1 _ I2 q) fun w3 s3 ⟨y,H2,I3,ry,q3⟩=>za (hop pins s3 σ H2 v y u w3 _ I3 ru ry q3) fun w4 s4 ⟨z,H3,I4,rz,dx',fs',ea',l',q4⟩=>?_
 exact Ix I4 ea' c n l' rz fun s5 I5=>⟨σ,_,I5,q4⟩
noncomputable def En:V->V->Hp->VK->Prop:=fun x y H Q=>∃ i j,x=.int i/\y=.int j/\Q (.int (i+j)) H
theorem Qt:WL X .Add En:=by
 rintro pins s σ H x y u v Q I rx ry ⟨i,j,rfl,rfl,q⟩
 obtain ⟨t,rfl⟩:=(show ∃ t,u=Value.int i t from rx)
 obtain ⟨t',rfl⟩:=(show ∃ t',v=Value.int j t' from ry)
 exact PyProof.Rows.iadd_int ⟨.int (i+j),H,I.tok _,⟨_,rfl⟩,q⟩
end
section
variable {X:Cx} {pins:List (Addr×Obj)} {σ:St} {H:Hp} {s:Shared} {A:Around} {E:Value->Shared->Prop} {Q:Value->Shared->Prop} {c:Value} {b:Bool}
inductive vx (K:PySem.W.Frag) (H:Hp):V->Value->Prop where
 | non:vx K H .non (.type "NoneType")
 | bl (x:Bool):vx K H (.bl x) (.type "bool")
 | int (i:Int):vx K H (.int i) (.type "int")
 | str (x:Str):vx K H (.str x) (.type "str")
 | flt (x:UInt64):vx K H (.flt x) (.type "float")
 | lst {a:Addr} {xs:List V} (e:H a=some (.lst xs)):vx K H (.ref a) (.type "list")
 | frz {a:Addr} {o:Obj} {xs:List V} (e:H a=some (.frz o (.lst xs))):vx K H (.ref a) (.type "list")
 | tup {a:Addr} {xs:List V} (e:H a=some (.tup xs)):vx K H (.ref a) (.type "tuple")
 | dK {a:Addr} {kvs:List (zI×V)} (e:H a=some (.dK kvs)):vx K H (.ref a) (.type "dict")
 | dT {a:Addr} {kvs:List (List zI×V)} (e:H a=some (.dT kvs)):vx K H (.ref a) (.type "dict")
 | ins {a C dx:Addr} {fs:List (Str×V)} (e:H a=some (.ins C dx fs)) (cl:wt K C) (ha:PySem.W.findIn K (.ref C) "__class__" = some (some (.builtin "object.__class__")))
   (hn:PySem.W.specialIn K (.builtin "object.__class__") "__get__" = some (some (.builtin "getset_descriptor.__get__"))) (htk:PySem.W.takesIn K (.builtin "object.__class__")=some true)
   (hm:PySem.W.mroIn K C (.type "object")=some true):vx K H (.ref a) (.ref C)
theorem XS {x:V} {u t:Value} (I:zB X pins σ H s) (rx:zX x u) (ty:vx X.K H x t) (e:PySem.W.kitOne X.K t c=some b) (h:∀ tk,Q (.bool b) { s with toks:=tk }) :
  wpAny (model X.prog X.w) A (call (.builtin "isinstance") [u,c]) Q E s:=by
 cases ty with
 | non=>cases (show u=Value.none from rx); exact PySem.W.kia_one PySem.W.kitx_none I.kIn True.intro e (fun z=>nomatch z) h
 | bl y=>cases (show u=Value.bool y from rx); exact PySem.W.kia_one PySem.W.kitx_bool I.kIn True.intro e (fun z=>nomatch z) h
 | int i=>obtain ⟨t,q⟩:=(show ∃ t,u=Value.int i t from rx); cases q; exact PySem.W.kia_one PySem.W.kitx_int I.kIn True.intro e (fun z=>nomatch z) h
 | str y=>obtain ⟨t,q⟩:=(show ∃ t,u=Value.str y t from rx); cases q; exact PySem.W.kia_one PySem.W.kitx_str I.kIn True.intro e (fun z=>nomatch z) h
 | flt y=>obtain ⟨t,q⟩:=(show ∃ t,u=Value.float y t from rx); cases q; exact PySem.W.kia_one PySem.W.kitx_float I.kIn True.intro e (fun z=>nomatch z) h
 | @lst a xs ea=>
  cases (show u=Value.ref a from rx)
  obtain ⟨_,_,n,_,h1⟩:=(show yc X.prog X.w H s.heap a (.lst xs) from I.hok a _ ea)
  exact PySem.W.kia_one PySem.W.kitx_list I.kIn ⟨_,h1,rfl⟩ e (fun z=>nomatch z) h
 | @frz a ob xs ea=>
  cases (show u=Value.ref a from rx)
  obtain ⟨_,_,_,n,_,h1⟩:=(show yc X.prog X.w H s.heap a (.frz ob (.lst xs)) from I.hok a _ ea)
  exact PySem.W.kia_one PySem.W.kitx_list I.kIn ⟨_,h1,rfl⟩ e (fun z=>nomatch z) h
 | @tup a xs ea=>
  cases (show u=Value.ref a from rx)
  obtain ⟨_,_,_,p⟩:=(show yc X.prog X.w H s.heap a (.tup xs) from I.hok a _ ea)
  obtain ⟨o,h1,h2,_⟩:=p
  exact PySem.W.kia_one PySem.W.kitx_tuple I.kIn ⟨o,h1,h2⟩ e (fun z=>nomatch z) h
 | @dK a kvs ea=>
  cases (show u=Value.ref a from rx)
  obtain ⟨_,_,vs,_,p⟩:=(show yc X.prog X.w H s.heap a (.dK kvs) from I.hok a _ ea)
  obtain ⟨o,es,ep,h1,h2,_⟩:=p
  exact PySem.W.kia_one PySem.W.kitx_dict I.kIn ⟨o,h1,h2.1⟩ e (fun z=>nomatch z) h
 | @dT a kvs ea=>
  cases (show u=Value.ref a from rx)
  obtain ⟨_,_,xs,_,o,es,ep,h1,h2,_⟩:=(show yc X.prog X.w H s.heap a (.dT kvs) from I.hok a _ ea)
  exact PySem.W.kia_one PySem.W.kitx_dict I.kIn ⟨o,h1,h2.1⟩ e (fun z=>nomatch z) h
 | @ins a C dx fs ea cl ha hn htk hm=>
  cases (show u=Value.ref a from rx)
  obtain ⟨mA,O,_⟩:=XQ I.hok ea
  obtain ⟨od,J,_⟩:=O.look
  exact PySem.W.kia_one (PySem.W.kitx_own (cl.get _) cl.hd ha hn htk hm) I.kIn J e (fun z=>nomatch z) h
end
end L2
namespace L2
open PySem PySem.Spec PyProof.Rows
structure yF (k:Nat) (A:Around):Prop where
 hd:A.handled=none
 dp:A.depth+3*k+5<recursionLimit
 un:A.units+16*k+200<cLine
 gd:A.guards=some []
theorem yF.mono {j k:Nat} {A:Around} (r:yF k A) (h:j<=k):yF j A:=⟨r.hd,by have:=r.dp; omega,by have:=r.un; omega,r.gd⟩
theorem yF.deeper {k:Nat} {A:Around} (r:yF (k+1) A) (env:Env):yF k (A.deeper env):=
 ⟨r.hd,by have:=r.dp; show A.depth+1+3*k+5<_; omega,by have:=r.un; show A.units+3+16*k+200<_; omega,by first | exact r.gd | simp [Around.under,Code.guards,pushGuards,r.gd]⟩
theorem Bo {A:Around} {C:Addr} {us:List Value} {kw:List (Str×Value)}:(A.under (.builtin "type.__call__" ⟨.ref C::us,kw⟩)).depth=A.depth+1:=by
 first | rfl | simp [Around.under,Code.weight,Code.isCreation,Code.isGuard,Code.isCaller,Code.frames,Code.isFrame,guardIds]
theorem Bq {A:Around} {C:Addr} {us:List Value} {kw:List (Str×Value)}:(A.under (.builtin "type.__call__" ⟨.ref C::us,kw⟩)).units=A.units+1:=by
 first | rfl | simp [Around.under,Code.cUnits,Code.frames,Code.isFrame]
theorem yF.make {k:Nat} {A:Around} (r:yF (k+1) A) (C:Addr) (us:List Value) (kw:List (Str×Value)):yF k (A.under (.builtin "type.__call__" ⟨.ref C::us,kw⟩)):=
 ⟨r.hd,by have:=r.dp; rw [Bo]; omega,by have:=r.un; rw [Bq]; omega,by first | exact r.gd | simp [Around.under,Code.guards,pushGuards,r.gd]⟩
theorem yF.depth {k:Nat} {A:Around} (r:yF k A):A.depth<recursionLimit:=by have:=r.dp; omega
theorem yF.units {k:Nat} {A:Around} (r:yF k A):A.units+64<cLine:=by have:=r.un; omega
noncomputable def Y1:TA:=fun _ H Q=>Q [] H
noncomputable def Ul (ta:TE) (tr:TA):TA:=fun σ H Q=>ta σ H fun x H1=>tr σ H1 fun xs H2=>Q (x::xs) H2
section
variable {X:Cx} {e:Expr} {es:List Expr} {te:TE} {t:TA} {pos:Pos}
theorem kY:PA X [] Y1:=fun _ _ _ _ H Q I h=>Calls.spliced_nil ⟨[],H,I,.nil,h⟩
theorem CZ (ha:PE X e te) (hr:PA X es t) (hs:starEach (e::es) X.env=(false,eval e X.env)::starEach es X.env:=by rfl):PA X (e::es) (Ul te t):=by
 intro pos pins s σ H Q I h
 rw [hs]
 show wpAny _ _ (spliced ((false,eval e X.env)::backTo pos (starEach es X.env))) _ _ s
 refine Calls.spliced_cons (za (ha pins s σ H _ I h) fun u s1 ⟨x,H1,I1,r1,q1⟩=>?_)
 exact za (hr pos pins s1 σ H1 _ I1 q1) fun us s2 ⟨xs,H2,I2,r2,q2⟩=>⟨x::xs,H2,I2,.cons r1 r2,q2⟩
noncomputable def NC (t:TA):TE:=fun σ H Q=>t σ H fun xs H1=>xs.length<=sizeLine/\∀ p,H1 p=none->Q (.ref p) (zQ H1 p (.tup xs))
noncomputable def N0 (t:TA):TE:=fun σ H Q=>t σ H fun xs H1=>xs.length<=sizeLine/\∀ p,H1 p=none->Q (.ref p) (zQ H1 p (.lst xs))
theorem Cz {x1} (h:PA X es t):PE X (.Tuple es x1 pos) (NC t):=by
 intro pins s σ H Q I hq
 refine wpAny_Tuple_spliced (za (h pos pins s σ H _ I hq) fun us s1 ⟨xs,H1,I1,r,z,q⟩=>⟨by rw [<- r.length]; exact z,?_⟩)
 have hf:H1 s1.heap.objs.size=none:=I1.hok.fresh (Nat.le_refl _)
 refine ⟨.ref s1.heap.objs.size,zQ H1 s1.heap.objs.size (.tup xs),I1.laid (t':=s1.toks) (fun b u e=>Heap.get?_push_of_some _ e) (Nat.le_refl _) ?_,rfl,q _ hf⟩
 exact ⟨z,us,r,⟨_,Heap.get?_push_size _ rfl,rfl,_,rfl⟩⟩
theorem Ct (h:PA X es t):PE X (.List es pos) (N0 t):=by
 intro pins s σ H Q I hq
 refine wpAny_List_spliced (za (h pos pins s σ H _ I hq) fun us s1 ⟨xs,H1,I1,r,z,q⟩=>⟨by rw [<- r.length]; exact z,?_⟩)
 have hf:H1 s1.heap.objs.size=none:=I1.hok.fresh (Nat.le_refl _)
 refine ⟨.ref s1.heap.objs.size,zQ H1 s1.heap.objs.size (.lst xs),I1.laid (t':=s1.toks) (fun b u e=>Heap.get?_push_of_some _ e) (Nat.le_refl _) ?_,rfl,q _ hf⟩
 exact ⟨z,us,0,r,Heap.get?_push_size _ rfl⟩
end
noncomputable abbrev Sp:=List V->Hp->VK->XK->Prop
noncomputable abbrev uN:=List Env->Hp->Shared->XK->Value->Shared->Prop
structure q_ (P:Program) (w:World) (K:PySem.W.Frag) (mg:Str->Option Value) (base:Heap) (A:Around) (outer:List Env) (s:Shared) (H:Hp):Prop where
 frames:A.frames=some outer
 mod:Mod K mg base
 bs:∀ b o,base.get? b=some o->s.heap.get? b=some o/\H b=none
 bsz:base.objs.size<=s.heap.objs.size
 funs:s.heap.FunFrames base outer
 frf:∀ b∈vg outer,H b=none
 hok:ya P w H s.heap
 bare:AllBare s.gens
noncomputable def CE (outer:List Env) (P:Program) (w:World) (H:Hp) (s:Shared) (Q:VK) (u:Value) (s':Shared):Prop:=
 ∃ v H',s'.os=s.os/\AllBare s'.gens/\Un (vg outer) [] H H' s.heap s'.heap/\ya P w H' s'.heap/\zX v u/\Q v H'
noncomputable def CR (CX:uN) (outer:List Env) (P:Program) (w:World) (H:Hp) (s:Shared) (Q:VK) (E:XK) (r:Result) (s':Shared):Prop:=
 match r with
 | .ok (.ret u)=>CE outer P w H s Q u s'
 | .ok _=>False
 | .error e=>CX outer H s E e s'
structure yY (P:Program) (w:World) (K:PySem.W.Frag) (mg:Str->Option Value) (base:Heap) (CX:uN) (k:Nat) (f:Addr) (fd:FuncData) (ps:List Str) (sp:Sp):Prop where
 len:∀ vs H Q E,sp vs H Q E->vs.length=ps.length
 run:∀ (A:Around) (outer:List Env) (s:Shared) (H:Hp) (args:Args) (us:List Value) (vs:List V) (Q:VK) (E:XK),yF k A->q_ P w K mg base A outer s H->BindsTo s fd args (ps.zip us)->zb vs us->sp vs H Q E->
  codeAny (model P w) A (.call (.ref f) args) (CR CX outer P w H s Q E) s
theorem yY.imp {P:Program} {w:World} {K:PySem.W.Frag} {mg:Str->Option Value} {base:Heap} {CX:uN} {k:Nat} {f:Addr} {fd:FuncData} {ps:List Str} {sp sp':Sp} (F:yY P w K mg base CX k f fd ps sp)
  (h:∀ vs H Q E,sp' vs H Q E->sp vs H Q E):yY P w K mg base CX k f fd ps sp':=
 ⟨fun vs H Q E q=>F.len vs H Q E (h _ _ _ _ q),fun A outer s H args us vs Q E hr he hb hv hs=>F.run A outer s H args us vs Q E hr he hb hv (h _ _ _ _ hs)⟩
theorem q_.make {P:Program} {w:World} {K:PySem.W.Frag} {mg:Str->Option Value} {base:Heap} {A:Around} {outer:List Env} {s:Shared} {H:Hp} (e:q_ P w K mg base A outer s H) (C:Addr) (us:List Value) (kw:List (Str×Value)) :
  q_ P w K mg base (A.under (.builtin "type.__call__" ⟨.ref C::us,kw⟩)) outer s H:=⟨by first | exact e.frames | (simpa [Around.under,Code.envs,Code.isFrame,pushEnvs] using e.frames),e.mod,e.bs,e.bsz,e.funs,e.frf,e.hok,e.bare⟩
section
variable {X:Cx} {pins:List (Addr×Obj)} {σ:St} {H:Hp} {s s':Shared}
theorem zB.env0 (I:zB X pins σ H s):q_ X.prog X.w X.K X.mg X.base X.A X.stack s H:=
 ⟨I.ok.frames,I.ok.mod,I.bs,Nat.le_trans I.ok.bsz I.sz,I.stack,I.stkFree,I.hok,I.bare⟩
theorem zB.after {Q:VK} {u:Value} (I:zB X pins σ H s) (h:CE X.stack X.prog X.w H s Q u s'):EP X pins σ Q u s':=by
 obtain ⟨v,H',os,bare,un,hok,r,q⟩:=h
 obtain ⟨hh,g,d,t,os'⟩:=s'
 obtain rfl:os'=s.os:=os
 exact ⟨v,H',I.call (h':=hh) (g':=g) (d':=d) (t':=t) (ch:=[]) un hok bare (fun b z=>absurd z (by simp)),r,q⟩
end
noncomputable def Uk (sp:Sp) (dvs:List V) (E:XK) (t:TA):TE:=fun σ H Q=>t σ H fun vs H1=>sp (vs++dvs) H1 Q E
noncomputable def Um (C:Addr) (m:Str) (sp:Sp) (dvs:List V) (E:XK) (ta:TE) (t:TA):TE:=fun σ H Q=>ta σ H fun x H1=>∃ a dx fs,x=.ref a/\H1 a=some (.ins C dx fs)/\fs.lookup m=none/\
 t σ H1 fun vs H2=>sp (x::(vs++dvs)) H2 Q E
noncomputable def N1 (C:Addr) (sp:Sp) (dvs:List V) (E:XK) (t:TA):TE:=fun σ H Q=>t σ H fun vs H1=>∀ x dx,H1 x=none->H1 dx=none->dx≠x->
 sp (.ref x::(vs++dvs)) (zQ (zQ H1 dx (.own x)) x (.ins C dx [])) (fun v H2=>v=.non/\Q (.ref x) H2) E
noncomputable def xQ (K:PySem.W.Frag) (fd:FuncData) (ps:List Str) (ds:List Value):Prop:=
 ∀ (s:Shared) (us:List Value),K.In s.heap->(us++ds).length=ps.length->BindsTo s fd ⟨us,[]⟩ (ps.zip (us++ds))
theorem xQ.all {K:PySem.W.Frag} {fd:FuncData} {ps:List Str} (h:∀ us:List Value,us.length=ps.length->bindArgs fd ⟨us,[]⟩=pure (ps.zip us)):xQ K fd ps []:=fun s us _ hl=>by
 rw [List.append_nil] at hl ⊢
 exact .of_eq (h us hl)
noncomputable def jd (CX:uN) (X:Cx) (E:XK):Prop:=∀ (pins:List (Addr×Obj)) (σ:St) (H:Hp) (s:Shared) (e:Value) (s':Shared),zB X pins σ H s->CX X.stack H s E e s'->X.xe e s'
section
variable {X:Cx} {CX:uN} {k:Nat} {f C:Addr} {fd:FuncData} {ps:List Str} {sp:Sp} {dvs:List V} {ds:List Value} {E:XK} {x m:Str} {p pos apos:Pos} {e o:Expr} {es:List Expr} {ta:TE} {t:TA}
theorem Xp {pins:List (Addr×Obj)} {σ:St} {H:Hp} {s:Shared} {Q:VK} {us:List Value} {vs:List V} (F:yY X.prog X.w X.K X.mg X.base CX k f fd ps sp) (hr:yF k X.A) (hb:xQ X.K fd ps ds) (hd:zb dvs ds) (hx:jd CX X E)
  (I:zB X pins σ H s) (r:zb vs us) (h:sp (vs++dvs) H Q E):wpAny (model X.prog X.w) X.A (call (.ref f) us) (EP X pins σ Q) X.xe s:=by
 have r2:zb (vs++dvs) (us++ds):=r.append hd
 have hl:(us++ds).length=ps.length:=by rw [<- r2.length]; exact F.len _ _ _ _ h
 refine wpAny_call (codeAny_mono (F.run X.A X.stack s H ⟨us,[]⟩ (us++ds) (vs++dvs) Q E hr I.env0 (hb s us I.kIn hl) r2 h) fun r s' hq=>?_)
 cases r with
 | error e=>exact hx pins σ H s e s' I hq
 | ok fl=>
  cases fl with
  | ret u=>exact I.after hq
  | next=>exact False.elim hq
  | brk=>exact False.elim hq
  | cont=>exact False.elim hq
theorem Ci (F:yY X.prog X.w X.K X.mg X.base CX k f fd ps sp) (hr:yF k X.A) (hg:Gl X x) (hm:X.mg x=some (.ref f)) (hk:PySem.W.keepIn X.K (.ref f)=true) (hb:xQ X.K fd ps ds) (hd:zb dvs ds) (hx:jd CX X E)
  (ha:PA X (e::es) t) (hdb:(x == ("__debug__" : Str))=false:=by decide) (he:starEach (e::es) X.env=(false,eval e X.env)::starEach es X.env:=by rfl) (hpl:(backTo pos (starEach es X.env)).any (·.1)=false:=by rfl) :
  PE X (.Call (.Name x p) (e::es) [] pos) (Uk sp dvs E t):=by
 intro pins s σ H Q I h
 refine wpAny_Call_Name_kw (XY I hg hm ?_ hdb)
 refine PySem.W.callWith_K (h₀:=X.base) I.ok.mod.kin hk (za (ha pos pins s σ H _ I h) fun us s1 ⟨vs,H1,I1,r,q⟩=>⟨I1.kIn,?_⟩) he hpl
 exact Xp F hr hb hd hx I1 r q
theorem Jj {pl:Sem Bool} (he:PE X o ta) (c:wt X.K C) (hm:WQ X.K C m f) (F:yY X.prog X.w X.K X.mg X.base CX k f fd ps sp) (hr:yF k X.A) (hb:xQ X.K fd ps ds) (hd:zb dvs ds) (hx:jd CX X E)
  (ht:eval (.Call (.Attribute o m apos) [] [] pos) X.env=(do
   let ov <- eval o X.env
   standAt apos.atName
   let (f,first) <- holding [ov] (getMethod ov m pl)
   callWith pos f first (backTo pos (starEach [] X.env)) (backToKw pos (keywordEach [] X.env))):=by rfl) :
  PE X (.Call (.Attribute o m apos) [] [] pos) (Um C m sp dvs E ta Y1):=by
 intro pins s σ H Q I h
 refine PySem.W.methodCall_KW (pl:=pl) (za (he pins s σ H _ I h) fun u s1 ⟨x,H1,I1,rx,a,dx,fs,ex,ea,l,q⟩=>?_) ht
 subst ex
 obtain rfl:u=Value.ref a:=rx
 refine M1 I1 ea c hm l ?_
 exact PySem.W.callWith_K0 (first:=[.ref a]) I1.kIn hm.kp (Xp (us:=[.ref a]) (vs:=[.ref a]) F hr hb hd hx I1 (.cons rfl .nil) q)
structure Mk (K:PySem.W.Frag) (C f:Addr):Prop where
 makes:PySem.W.makesIn K C=true
 init:PySem.W.findIn K (.ref C) "__init__" = some (some (.ref f))
 fn:PySem.W.isFn K (.ref f)=true
 kp:PySem.W.keepIn K (.ref C)=true
theorem Gk {pins:List (Addr×Obj)} {σ:St} {H:Hp} {s:Shared} {Q:VK} {us:List Value} {vs:List V} (M:Mk X.K C f) (F:yY X.prog X.w X.K X.mg X.base CX k f fd ps sp) (hr:yF (k+1) X.A) (hb:xQ X.K fd ps ds) (hd:zb dvs ds)
  (hx:jd CX X E) (I:zB X pins σ H s) (r:zb vs us)
  (h:∀ x dx,H x=none->H dx=none->dx≠x->sp (.ref x::(vs++dvs)) (zQ (zQ H dx (.own x)) x (.ins C dx [])) (fun v H2=>v=.non/\Q (.ref x) H2) E) :
  wpAny (model X.prog X.w) X.A (call (.ref C) us) (EP X pins σ Q) X.xe s:=by
 have hq:=h (s.heap.objs.size+1) s.heap.objs.size (I.hok.fresh (Nat.le_succ _)) (I.hok.fresh (Nat.le_refl _)) (Nat.ne_of_lt (Nat.lt_succ_self _))
 have I2:=zB.made (C:=C) I
 have r2:zb (V.ref (s.heap.objs.size+1)::(vs++dvs)) (Value.ref (s.heap.objs.size+1)::(us++ds)):=.cons rfl (r.append hd)
 have hl:(Value.ref (s.heap.objs.size+1)::us++ds).length=ps.length:=by
  have e:=r2.length
  rw [F.len _ _ _ _ hq] at e
  exact e.symm
 refine wpAny_call (Bp (f:=f) I.kIn M.makes M.init (beq_iff_eq.mp M.fn) (codeAny_mono (F.run _ X.stack _ _ ⟨Value.ref (s.heap.objs.size+1)::us,[]⟩ (Value.ref (s.heap.objs.size+1)::(us++ds)) _ _ E (hr.make C us [])
  (I2.env0.make C us []) (hb _ (Value.ref (s.heap.objs.size+1)::us) I2.kIn hl) r2 hq) fun r s' hq'=>?_))
 cases r with
 | error e=>exact hx pins σ _ _ e s' I2 hq'
 | ok fl=>
  cases fl with
  | ret u=>
   obtain ⟨v,H',I3,rv,ev,q3⟩:=I2.after hq'
   subst ev
   exact ⟨rv,⟨V.ref (s.heap.objs.size+1),H',I3,rfl,q3⟩⟩
  | next=>exact False.elim hq'
  | brk=>exact False.elim hq'
  | cont=>exact False.elim hq'
theorem Cu (M:Mk X.K C f) (F:yY X.prog X.w X.K X.mg X.base CX k f fd ps sp) (hr:yF (k+1) X.A) (hg:Gl X x) (hm:X.mg x=some (.ref C)) (hb:xQ X.K fd ps ds) (hd:zb dvs ds) (hx:jd CX X E)
  (ha:PA X (e::es) t) (hdb:(x == ("__debug__" : Str))=false:=by decide) (he:starEach (e::es) X.env=(false,eval e X.env)::starEach es X.env:=by rfl) (hpl:(backTo pos (starEach es X.env)).any (·.1)=false:=by rfl) :
  PE X (.Call (.Name x p) (e::es) [] pos) (N1 C sp dvs E t):=by
 intro pins s σ H Q I h
 refine wpAny_Call_Name_kw (XY I hg hm ?_ hdb)
 refine PySem.W.callWith_K (h₀:=X.base) I.ok.mod.kin M.kp (za (ha pos pins s σ H _ I h) fun us s1 ⟨vs,H1,I1,r,q⟩=>⟨I1.kIn,?_⟩) he hpl
 exact Gk M F hr hb hd hx I1 r q
end
section
variable {X:Cx} {CX:uN} {k:Nat} {f C:Addr} {fd:FuncData} {ps ks:List Str} {sp:Sp} {E:XK} {x m:Str} {p pos apos kpos:Pos} {e o:Expr} {es:List Expr} {kws:List Keyword} {te ta:TE} {t tk:TA} {nm:Option Str}
variable {g:List Value->List Value->List Value} {gV:List V->List V->List V}
end
structure ze (N P:List Str) (sc:Scope):Prop where
 kind:sc.kind=.function
 co:sc.isCoroutine=false
 gen:sc.isGenerator=false
 nd:N.Nodup
 pre:N.take P.length=P
 par:∀ x∈P,sc.names.lookup x=some .local\/sc.names.lookup x=some .cell
 nofree:∀ y∈sc.names,y.2≠.free
theorem Tp {kindOf:Str->Option NameKind} {x:Str}:∀ {binds:List (Str×Value)} {m:Str->Option Value},(∀ v,(x,v) ∉ binds)->bindL kindOf binds m x=m x
 | [],_,_=>rfl
 | (n,v)::r,m,h=>by
  unfold bindL
  rw [Tp fun w hw=>h w (List.mem_cons_of_mem _ hw)]
  split
  ·have:x≠n:=by rintro rfl; exact h v List.mem_cons_self
   simp [this]
  ·rfl
theorem Tn {kindOf:Str->Option NameKind} {x:Str}:∀ {binds:List (Str×Value)} {m:Str->Option Value},(∀ v,(x,v) ∉ binds)->bindC kindOf binds m x=m x
 | [],_,_=>rfl
 | (n,v)::r,m,h=>by
  unfold bindC
  rw [Tn fun w hw=>h w (List.mem_cons_of_mem _ hw)]
  split
  ·rfl
  ·have:x≠n:=by rintro rfl; exact h v List.mem_cons_self
   simp [this]
theorem To {kindOf:Str->Option NameKind} {x:Str} {v:Value}:∀ {P:List Str} {vs:List Value} {i:Nat} {m:Str->Option Value},P.Nodup->P[i]?=some x->vs[i]?=some v->kindOf x=some .local->
  bindL kindOf (P.zip vs) m x=some v
 | [],_,_,_,_,h,_,_=>by simp at h
 | _::_,[],_,_,_,_,h,_=>by simp at h
 | p::P,w::vs,0,m,nd,h1,h2,hk=>by
  simp at h1 h2; subst h1; subst h2
  show bindL kindOf ((p,w)::P.zip vs) m p=_
  unfold bindL
  rw [Tp fun v hv=>(List.nodup_cons.mp nd).1 (List.of_mem_zip hv).1,if_pos hk]
  simp
 | p::P,w::vs,i+1,m,nd,h1,h2,hk=>by
  show bindL kindOf ((p,w)::P.zip vs) m x=_
  unfold bindL
  exact To (i:=i) (List.nodup_cons.mp nd).2 (by simpa using h1) (by simpa using h2) hk
theorem Tm {kindOf:Str->Option NameKind} {x:Str} {v:Value}:∀ {P:List Str} {vs:List Value} {i:Nat} {m:Str->Option Value},P.Nodup->P[i]?=some x->vs[i]?=some v->kindOf x≠some .local->
  bindC kindOf (P.zip vs) m x=some v
 | [],_,_,_,_,h,_,_=>by simp at h
 | _::_,[],_,_,_,_,h,_=>by simp at h
 | p::P,w::vs,0,m,nd,h1,h2,hk=>by
  simp at h1 h2; subst h1; subst h2
  show bindC kindOf ((p,w)::P.zip vs) m p=_
  unfold bindC
  rw [Tn fun v hv=>(List.nodup_cons.mp nd).1 (List.of_mem_zip hv).1,if_neg hk]
  simp
 | p::P,w::vs,i+1,m,nd,h1,h2,hk=>by
  show bindC kindOf ((p,w)::P.zip vs) m x=_
  unfold bindC
  exact Tm (i:=i) (List.nodup_cons.mp nd).2 (by simpa using h1) (by simpa using h2) hk
noncomputable def start (N:List Str) (vs:List V):St:=vs.map some++List.replicate (N.length - vs.length) none
noncomputable def vf (CX:uN) (P:Program) (w:World) (K:PySem.W.Frag) (mg:Str->Option Value) (base:Heap) (N:List Str) (qual:Str) (scope:Scope) (f:Addr) (cd:Value) (A:Around) (outer:List Env) (s:Shared) (H:Hp) (E:XK):Cx where
 prog:=P
 w:=w
 K:=K
 mg:=mg
 base:=base
 A:=A.deeper (envOfC qual scope s.heap.objs.size f cd)
 N:=N
 s₀:=s
 H₀:=H
 env:=envOfC qual scope s.heap.objs.size f cd
 outer:=outer
 stack:=envOfC qual scope s.heap.objs.size f cd::outer
 ex:=[]
 calm:=true
 fn:=fun _=>true
 pn:=[]
 xe:=fun e s'=>wpAny (model P w) (A.deeper (envOfC qual scope s.heap.objs.size f cd)) (leaving (envOfC qual scope s.heap.objs.size f cd) e) (fun _ s''=>CX outer H s E e s'') (fun e' s''=>CX outer H s E e' s'') s'
theorem Q7 {sc:Scope} {n:Nat} {x:Str} (h:sc.names.lookup x=some .cell):∃ c,(cellsFrom n sc.names []).lookup x=some c:=by
 have q:=PySem.W.cellsFrom_some sc.names n [] (.inl h)
 exact Option.isSome_iff_exists.mp q
theorem BA {CX:uN} {P:Program} {w:World} {K:PySem.W.Frag} {mg:Str->Option Value} {base:Heap} {N ps:List Str} {qual:Str} {scope:Scope} {f:Addr} {cd:Value} {A:Around} {outer:List Env} {s s1:Shared} {H:Hp} {E:XK} {us:List Value} {vs:List V}
  (S:ze N ps scope) (hd:A.handled=none) (e0:q_ P w K mg base A outer s H) (hl:vs.length=ps.length) (r:zb vs us)
  (x:InCallC s s.heap.objs.size (bindL (envOfC qual scope s.heap.objs.size f cd).kindOf (ps.zip us) fun _=>none) (cellsFrom (s.heap.objs.size+1) scope.names []) (bindC (envOfC qual scope s.heap.objs.size f cd).kindOf (ps.zip us) fun _=>none) s1) :
  zB (vf CX P w K mg base N qual scope f cd A outer s H E) [] (start N vs) H s1:=by
 have hpl:ps.length<=N.length:=by have:=congrArg List.length S.pre; rw [List.length_take] at this; omega
 obtain ⟨h1,tk,rfl,hk⟩:=x.done
 have noA:∀ b:Addr,b ∉ (vf CX P w K mg base N qual scope f cd A outer s H E).ex:=fun b z=>absurd (show b∈([]:List Addr) from z) (by simp)
 refine ⟨⟨e0.mod,S.kind,rfl,rfl,Nat.le_refl _,fun y z c h1 h2=>?_,fun y hy=>?_,fun y c _ h=>?_,fun _=>hd,Around.frames_deeper e0.frames,.inr ⟨rfl,rfl⟩,fun b z=>absurd z (noA b),e0.bs,e0.bsz,fun b _ _=>noA b,fun b z=>absurd z (noA b),e0.funs,e0.frf⟩,
  rfl,e0.bare,Un.kept hk,⟨_,x.toInCall.ns,fun i y v h1 h2 h3=>?_⟩,fun y c h=>⟨_,x.cell y c h⟩,e0.hok.fresh (Nat.le_refl _),fun y c h=>?_,fun p hp=>absurd (show p∈([]:List (Addr×Obj)) from hp) (by simp),e0.hok.kept hk,?_⟩
 ·exact name_of_addr x.apart (PySem.mem_of_lookup h1) (PySem.mem_of_lookup h2)
 ·have hy:scope.names.lookup y=some .cell\/scope.names.lookup y=some .free:=hy
  rcases hy with hy | hy
  ·exact Q7 hy
  ·exact absurd rfl (S.nofree _ (PySem.mem_of_lookup hy))
 ·exact Nat.le_of_lt (x.above y c (PySem.mem_of_lookup h))
 ·have hi:i<vs.length:=by
   unfold start at h2
   by_cases hi:i<vs.length
   ·exact hi
   ·rw [List.getElem?_append_right (by simpa using hi)] at h2
    rw [List.getElem?_replicate] at h2
    split at h2<;>cases h2
  have ha:vs[i]?=some v:=by
   unfold start at h2
   rw [List.getElem?_append_left (by simpa using hi),List.getElem?_map] at h2
   cases e:vs[i]? with
   | none=>rw [e] at h2; cases h2
   | some a=>rw [e] at h2; cases h2; rfl
  obtain ⟨u,hu,rv⟩:=r.get ha
  have hp:ps[i]?=some y:=by
   rw [<- S.pre,List.getElem?_take_of_lt (by omega)]; exact h1
  have ndP:ps.Nodup:=by rw [<- S.pre]; exact S.nd.sublist (List.take_sublist _ _)
  refine ⟨u,rv,?_⟩
  rcases S.par y (List.mem_of_getElem? hp) with k | k
  ·exact .inl ⟨k,To ndP hp hu k⟩
  ·obtain ⟨c,e⟩:=Q7 (n:=s.heap.objs.size+1) k
   refine .inr ⟨.inl k,c,e,?_⟩
   have q:=x.cell y c e
   rw [Tm ndP hp hu (by show scope.names.lookup y≠_; rw [k]; decide)] at q
   exact q
 ·exact e0.hok.fresh (Nat.le_of_lt (x.above y c (PySem.mem_of_lookup h)))
 ·unfold start
  show _=N.length
  rw [List.length_append,List.length_map,List.length_replicate]
  omega
theorem Qf {CX:uN} {P:Program} {w:World} {K:PySem.W.Frag} {mg:Str->Option Value} {base:Heap} {k:Nat} {f:Addr} {name qual:Str} {params:Arguments} {body:List Stmt} {scope:Scope} {dV kV doc pm cdv ct oc:Value} {an od:Option Addr}
  {osl:Array (Option Value)} {N ps:List Str} {sp:Sp} (lk:K.lookup f=some ⟨oc,od,.func (PySem.W.fnOf name qual params body scope dV kV doc pm an cdv ct),osl⟩) (hcd:PySem.W.codeIn K cdv qual=true) (S:ze N ps scope)
  (len:∀ vs H Q E,sp vs H Q E->vs.length=ps.length)
  (hbody:∀ (A:Around) (outer:List Env) (s:Shared) (H:Hp) (vs:List V) (Q:VK) (E:XK),yF k (A.deeper (envOfC qual scope s.heap.objs.size f cdv))->sp vs H Q E->
   ∃ t,wV (vf CX P w K mg base N qual scope f cdv A outer s H E) body t/\t { nx:=fun _ H'=>Q .non H',rt:=Q } (start N vs) H) :
  yY P w K mg base CX (k+1) f (PySem.W.fnOf name qual params body scope dV kV doc pm an cdv ct) ps sp:=by
 refine ⟨len,fun A outer s H args us vs Q E hr e0 hb r hsp=>?_⟩
 have hl:=len _ _ _ _ hsp
 have KX:K.In s.heap:=e0.mod.kin.keeps fun b o e=>(e0.bs b o e).1
 have lim:s.heap.NoLimit:=e0.mod.nolimit.keeps fun b o e=>(e0.bs b o e).1
 have hkind:∀ y∈ps.zip us,scope.names.lookup y.1=some .local\/(scope.names.lookup y.1=some .cell/\((cellsFrom (s.heap.objs.size+1) scope.names []).lookup y.1).isSome=true):=fun ⟨n,v⟩ hy=>by
  rcases S.par n (List.of_mem_zip hy).1 with q | q
  ·exact .inl q
  ·exact .inr ⟨q,PySem.W.cellsFrom_some _ _ _ (.inl q)⟩
 refine codeAny_call_function hr.depth (KX _ _ lk) rfl S.co S.gen rfl (PySem.W.codeRec_of KX hcd) (hb _ _ _ _ ?_)
 refine wpAny_newFunctionEnv_cells S.kind hkind fun env he s1 x=>?_
 subst he
 refine ⟨lim.keeps x.toInCall.keep,codeAny_func ?_⟩
 obtain ⟨t,ht,hq⟩:=hbody A outer s H vs Q E (hr.deeper _) hsp
 have I:zB (vf CX P w K mg base N qual scope f cdv A outer s H E) [] (start N vs) H s1:=BA S hr.hd e0 hl r x
 refine wpAny_mono (ht [] s1 (start N vs) H _ I hq) (fun fl s' hs=>?_) fun e s' hs=>hs
 have fin:∀ {σ':St} {H':Hp} {v:V} {u:Value},zB (vf CX P w K mg base N qual scope f cdv A outer s H E) [] σ' H' s'->zX v u->Q v H'->CE outer P w H s Q u s':=
  fun {σ' H' v u} J rv q=>⟨v,H',J.os,J.bare,J.base,J.hok,rv,q⟩
 cases fl with
 | ret u=>
  obtain ⟨v,σ',H',J,rv,q⟩:=hs
  exact fin J rv q
 | next=>
  obtain ⟨σ',H',J,q⟩:=hs
  exact fin (v:=V.non) (u:=Value.none) J rfl q
 | brk=>
  obtain ⟨_,_,_,q⟩:=hs
  exact False.elim q
 | cont=>
  obtain ⟨_,_,_,q⟩:=hs
  exact False.elim q
end L2
namespace L2
open PySem PySem.Spec PyProof.Rows
section
variable {X:Cx} {x:Str} {p pos:Pos} {e:Expr} {es:List Expr} {t:TA} {id T:String} {r:List V->Hp->VK->Prop}
noncomputable def Xx (r:List V->Hp->VK->Prop) (t:TA):TE:=fun σ H Q=>t σ H fun vs H1=>r vs H1 Q
theorem Cj (hc:xC X (.builtin id) r) (hg:Gl X x) (hm:X.mg x=none) (hv:bootBuiltins x=some (.builtin id)) (ha:PA X (e::es) t) (hn:x ≠ "__name__" := by decide) (hdb:(x == ("__debug__" : Str))=false:=by decide)
  (he:starEach (e::es) X.env=(false,eval e X.env)::starEach es X.env:=by rfl) (hpl:(backTo pos (starEach es X.env)).any (·.1)=false:=by rfl):PE X (.Call (.Name x p) (e::es) [] pos) (Xx r t):=by
 intro pins s σ H Q I h
 refine wpAny_Call_Name_kw (jv I hg hm hv ?_ hn hdb)
 exact PyProof.Rows.callWith_builtin1 (za (ha pos pins s σ H _ I h) fun us s1 ⟨vs,H1,I1,r1,q1⟩=>hc pins s1 σ H1 vs us Q I1 r1 q1) he hpl
theorem Cl (hc:xC X (.type T) r) (hg:Gl X x) (hm:X.mg x=none) (hv:bootBuiltins x=some (.type T)) (ha:PA X (e::es) t) (hn:x ≠ "__name__" := by decide) (hdb:(x == ("__debug__" : Str))=false:=by decide)
  (he:starEach (e::es) X.env=(false,eval e X.env)::starEach es X.env:=by rfl) (hpl:(backTo pos (starEach es X.env)).any (·.1)=false:=by rfl):PE X (.Call (.Name x p) (e::es) [] pos) (Xx r t):=by
 intro pins s σ H Q I h
 refine wpAny_Call_Name_kw (jv I hg hm hv ?_ hn hdb)
 exact PyProof.Rows.callWith_type1 (za (ha pos pins s σ H _ I h) fun us s1 ⟨vs,H1,I1,r1,q1⟩=>hc pins s1 σ H1 vs us Q I1 r1 q1) he hpl
end
end L2
namespace HT
open PySem PyProof.Rows
section
open PySem.SeqAt
open PySem.AutoSeq1 (wpAny_loadPart')
open PySem.MeetsSeq PySem.MeetsSeq2 PySem.MeetsSeq3
end
section
variable {prog:Program} {w:World} {A:Around} {E:Value->Shared->Prop} {s:Shared}
theorem cat_tup {t b:Addr} {vs ws:List Value} {Q:Value->Shared->Prop} (ht:IsTup s.heap t vs.toArray) (hb:IsTup s.heap b ws.toArray) (hv:vs≠[])
  (h1:ws=[]->Q (.ref t) s) (h2:ws≠[]->Q (.ref s.heap.objs.size) { s with heap:=s.heap.push { cls:=.type "tuple",data:=.seq (vs++ws).toArray } })
  (hsz:vs.length+ws.length<=sizeLine):wpAny (model prog w) A (binaryOp .Add (.ref t) (.ref b)) Q E s:=by
 obtain ⟨⟨cls,dd,data,sl⟩,ho,hc,n,hd⟩:=id ht
 obtain ⟨⟨cls2,dd2,data2,sl2⟩,ho2,hc2,n2,hd2⟩:=id hb
 simp only at hc hd hc2 hd2
 subst hc hd hc2 hd2
 have e:vs.toArray++ws.toArray=(vs++ws).toArray:=by simp
 by_cases hw:ws=[]
 ·exact concat_meets ⟨_,ho,rfl⟩ ⟨_,ho2,rfl⟩ noFill_tuple_add seq_tuple_add PySem.F.slot_tuple_add PySem.F.entry_tuple_add (PySem.F.args_tuple_add_2 _ _)
   (tuple_addW1 t b vs.toArray ws.toArray n n2 dd dd2 sl sl2 (by simpa using hv) (by simp [hw])) ⟨ho,ho2,h1 hw⟩
 ·refine concat_meets ⟨_,ho,rfl⟩ ⟨_,ho2,rfl⟩ noFill_tuple_add seq_tuple_add PySem.F.slot_tuple_add PySem.F.entry_tuple_add (PySem.F.args_tuple_add_2 _ _)
   (tuple_addW2 t b vs.toArray ws.toArray n n2 dd dd2 sl sl2 (by simpa using hv) (by simpa using hw) (by rw [List.size_toArray,List.size_toArray]; exact hsz)) ⟨ho,ho2,?_⟩
  rw [e]
  exact h2 hw
end
end HT
namespace L2
open PySem PySem.Spec PyProof.Rows
section
variable {X:Cx} {e:Expr} {te:TE} {lo hi:Option Expr} {tl th:TO} {pos p2:Pos}
noncomputable def IK (K:PySem.W.Frag):R2:=fun x y H Q=>∃ a b xs ys,x=.ref a/\y=.ref b/\yQ K H a xs/\yQ K H b ys/\xs≠[]/\xs.length+ys.length<=sizeLine/\
 (ys=[]->Q (.ref a) H)/\(ys≠[]->∀ p,H p=none->Q (.ref p) (zQ H p (.tup (xs++ys))))
theorem zb.nil_iff {xs:List V} {us:List Value} (r:zb xs us):us=[]↔xs=[]:=by
 cases r with
 | nil=>simp
 | cons _ _=>simp
theorem CG:zt X (binaryOp .Add) (IK X.K):=by
 intro pins s σ H x y v u Q I rx ry h
 obtain ⟨a,b,xs,ys,rfl,rfl,ha,hb,hx,hz,q1,q2⟩:=h
 cases rx
 cases ry
 obtain ⟨its,r1,p1,_⟩:=I.tuple ha
 obtain ⟨its2,r2,p2,_⟩:=I.tuple hb
 refine HT.cat_tup p1 p2 (fun z=>hx (r1.nil_iff.mp z)) (fun z=>⟨.ref a,H,I,rfl,q1 (r2.nil_iff.mp z)⟩) (fun z=>?_) (by rw [<- r1.length,<- r2.length]; exact hz)
 refine ⟨.ref s.heap.objs.size,_,I.laid (t':=s.toks) (o:=.tup (xs++ys)) (fun b ob q=>Heap.get?_push_of_some _ q) (Nat.le_refl _) ?_,rfl,q2 (fun w=>z (r2.nil_iff.mpr w)) _ (I.hok.fresh (Nat.le_refl _))⟩
 exact ⟨by rw [List.length_append]; exact hz,_,r1.append r2,IsTup.new _ _⟩
end
end L2
namespace L2
open PySem PySem.Spec PyProof.Rows
noncomputable def ixN (n:Nat) (i:Int):Option Nat:=if 0<=i then (if i<n then some i.toNat else none) else if -(n:Int)<=i then some (i+n).toNat else none
noncomputable def vz {α:Type} (xs:List α) (i:Int):Option α:=(ixN xs.length i).bind fun j=>xs[j]?
theorem J2 {n:Nat} {i:Int} {j:Nat} (h:ixN n i=some j):seqIndex? i n=some j/\j<n /\ -(n:Int)<=i/\i<n:=by
 unfold ixN at h
 by_cases h0:0<=i
 ·rw [if_pos h0] at h
  by_cases h1:i<n
  ·rw [if_pos h1] at h
   have e:i.toNat=j:=Option.some.inj h
   exact ⟨by rw [seqIndex_of h0 h1,e],by omega,by omega,h1⟩
  ·rw [if_neg h1] at h; cases h
 ·rw [if_neg h0] at h
  by_cases h1 : -(n:Int)<=i
  ·rw [if_pos h1] at h
   have e:(i+n).toNat=j:=Option.some.inj h
   exact ⟨by rw [seqIndex_neg (by omega) h1,e],by omega,h1,by omega⟩
  ·rw [if_neg h1] at h; cases h
theorem WY {α:Type} {xs:List α} {i:Int} {v:α} (h:vz xs i=some v):∃ j,seqIndex? i xs.length=some j/\xs[j]?=some v/\j<xs.length /\ -(xs.length:Int)<=i/\i<xs.length:=by
 unfold vz at h
 cases e:ixN xs.length i with
 | none=>rw [e] at h; cases h
 | some j=>
  rw [e] at h
  obtain ⟨h1,h2,h3,h4⟩:=J2 e
  exact ⟨j,h1,h,h2,h3,h4⟩
noncomputable def TF (b:Expr):Prop:=∀ o i,subscripted b false o i=operate [o,i] (getItem o i)
noncomputable def vW (X:Cx) (r:R2):Prop:=
 ∀ (value slice:Expr) (pins:List (Addr×Obj)) (s:Shared) (σ:St) (H:Hp) (x y:V) (v u:Value) (Q:VK),zB X pins σ H s->zX x v->zX y u->r x y H Q->
  subscripted slice false v u=operate [v,u] (getItem v u)->wpAny (model X.prog X.w) X.A (subscriptTail value slice v u) (EP X pins σ Q) X.xe s
noncomputable def T8 (X:Cx) (id:String) (r:V->List V->Hp->VK->Prop):Prop:=
 ∀ (pins:List (Addr×Obj)) (s:Shared) (σ:St) (H:Hp) (x:V) (xs:List V) (v:Value) (us:List Value) (Q:VK),zB X pins σ H s->zX x v->zb xs us->r x xs H Q->
  wpAny (model X.prog X.w) X.A (call (.builtin id) (v::us)) (EP X pins σ Q) X.xe s
section
variable {X:Cx} {a b:Expr} {ta tb:TE} {pos:Pos}
theorem vW.or {r r':R2} (h:vW X r) (h':vW X r'):vW X (fun x y H Q=>r x y H Q\/r' x y H Q):=by
 intro value slice pins s σ H x y v u Q I rx ry q hs
 rcases q with q | q
 ·exact h value slice pins s σ H x y v u Q I rx ry q hs
 ·exact h' value slice pins s σ H x y v u Q I rx ry q hs
theorem U7 {r:R2} (hr:vW X r) (ha:PE X a ta) (hb:PE X b tb) (hs:TF b):PE X (.Subscript a b pos) (Xz r ta tb):=by
 intro pins s σ H Q I h
 exact Subscript_ (Wm ha hb I h fun v u s2 x y H2 I2 rx ry q=>hr a b pins s2 σ H2 x y v u Q I2 rx ry q (hs _ _))
noncomputable def IN (K:PySem.W.Frag):R2:=fun x y H Q=>∃ p xs i v,x=.ref p/\y=.int i/\yB K H p xs/\vz xs i=some v/\Q v H
noncomputable def IP (K:PySem.W.Frag):R2:=fun x y H Q=>∃ p xs i v,x=.ref p/\y=.int i/\yQ K H p xs/\vz xs i=some v/\Q v H
noncomputable def IO:R2:=fun x y H Q=>∃ z i c,x=.str z/\y=.int i/\z.length<=sizeLine/\vz z.cps.toList i=some c/\Q (.str ⟨#[c]⟩) H
theorem BC:vW X (IN X.K):=by
 intro value slice pins s σ H x y v u Q I rx ry h hs
 obtain ⟨p,xs,i,z,rfl,rfl,hq,he,q⟩:=h
 cases rx
 obtain ⟨t,rfl⟩:=ry
 obtain ⟨its,r,pl,hz⟩:=I.list hq
 obtain ⟨j,h1,h2,h3,h4,h5⟩:=WY he
 obtain ⟨w,ew,rw'⟩:=r.get h2
 have hl:=r.length
 have hn:=jw
 have fin:EP X pins σ Q w s:=⟨z,H,I,rw',q⟩
 by_cases h0:0<=i
 ·have hj:i.toNat=j:=by
   rw [seqIndex_of h0 h5] at h1
   exact Option.some.inj h1
  exact item_listR pl.isList h0 (by omega) (by rw [hj]; simpa using ew) fin hs
 ·have hj:(i+(its.toArray.size:Int)).toNat=j:=by
   rw [seqIndex_neg (by omega) h4] at h1
   rw [List.size_toArray,<- hl]
   exact Option.some.inj h1
  exact subscriptTail_builtinR (x:=w) pl.isList.typeIs slot_list_getitem.lookup
   (wpAny_getItem_list_neg (Q:=fun r s'=>r=w/\EP X pins σ Q r s') pl.isList (by omega) (by rw [List.size_toArray]<;>omega) (by omega) (by rw [hj]; simpa using ew) ⟨rfl,fin⟩) hs
theorem BF:vW X (IP X.K):=by
 intro value slice pins s σ H x y v u Q I rx ry h hs
 obtain ⟨p,xs,i,z,rfl,rfl,hq,he,q⟩:=h
 cases rx
 obtain ⟨t,rfl⟩:=ry
 obtain ⟨its,r,pl,hz⟩:=I.tuple hq
 obtain ⟨j,h1,h2,h3,h4,h5⟩:=WY he
 obtain ⟨w,ew,rw'⟩:=r.get h2
 have hl:=r.length
 have hn:=jw
 have fin:EP X pins σ Q w s:=⟨z,H,I,rw',q⟩
 exact subscriptTail_builtinR (x:=w) pl.typeIs slot_tuple_getitem.lookup
  (getItem_tuple (j:=j) (Q:=fun r s'=>r=w/\EP X pins σ Q r s') pl (by omega) (by omega) (by rw [List.size_toArray,<- hl]; exact h1) (by simpa using ew) ⟨rfl,fin⟩) hs
theorem BE:vW X IO:=by
 intro value slice pins s σ H x y v u Q I rx ry h hs
 obtain ⟨z,i,c,rfl,rfl,hz,he,q⟩:=h
 obtain ⟨t,rfl⟩:=rx
 obtain ⟨t',rfl⟩:=ry
 obtain ⟨j,h1,h2,h3,h4,h5⟩:=WY he
 have hl:z.cps.toList.length=z.length:=by simp [Str.length]
 rw [hl] at h1 h4 h5
 have hn:=jw
 exact tail_any (typeIs_str s z t) slot_str_getitem.lookup (getItem_str (c:=c) (by
  have e1:decide (i < -(2 ^ 63:Int))=false:=decide_eq_false (by omega)
  have e2:decide (i ≥ 2 ^ 63)=false:=decide_eq_false (by omega)
  rw [e1,e2,Bool.or_false]) (by rw [h1]; simpa using h2) ⟨.str ⟨#[c]⟩,H,I.tok _,⟨_,rfl⟩,q⟩) hs
noncomputable def UM (K:PySem.W.Frag):R2:=fun x y H Q=>IN K x y H Q\/IP K x y H Q\/IO x y H Q
theorem BD:vW X (UM X.K):=BC.or (BF.or BE)
theorem Br (its:List Value) (n j:Nat) (u:Value):Obj.mapSeq (·.setIfInBounds j u) { cls:=.type "list",data:=.seq its.toArray n }={ cls:=.type "list",data:=.seq (its.set j u).toArray n }:=by
 simp [Obj.mapSeq]
theorem zB.lst {pins:List (Addr×Obj)} {σ:St} {H:Hp} {s:Shared} {p:Addr} {xs:List V} (I:zB X pins σ H s) (h:H p=some (.lst xs)) :
  ∃ (its:List Value) (n:Nat),zb xs its/\s.heap.get? p=some { cls:=.type "list",data:=.seq its.toArray n }/\xs.length<=sizeLine:=by
 obtain ⟨z,its,n,r,e⟩:=I.hok p _ h
 exact ⟨its,n,r,e,z⟩
theorem zB.lstUpd {pins:List (Addr×Obj)} {σ:St} {H:Hp} {s:Shared} {p:Addr} {xs ys:List V} {its its':List Value} {n n':Nat} {f:Obj->Obj} (I:zB X pins σ H s) (h:H p=some (.lst xs))
  (ho:s.heap.get? p=some { cls:=.type "list",data:=.seq its.toArray n }) (hf:f { cls:=.type "list",data:=.seq its.toArray n }={ cls:=.type "list",data:=.seq its'.toArray n' }) (r:zb ys its') (hz:ys.length<=sizeLine) (t:Nat) :
  zB X pins σ (zQ H p (.lst ys)) { s with heap:=s.heap.update p f,toks:=t }:=by
 have e:(s.heap.update p f).get? p=some { cls:=.type "list",data:=.seq its'.toArray n' }:=by
  rw [Heap.get?_update_self f ho (by rw [hf]<;>rfl),hf]
 refine I.write (x:=p) (e:=p) (by rw [h]; trivial) (.inl rfl) (fun b u hb q=>(Heap.get?_update_other _ _ (Ne.symm hb)).trans q) ⟨_,e⟩ ?_
 exact ⟨hz,its',n',r,e⟩
noncomputable def Ew:V->V->V->Hp->(Hp->Prop)->Prop:=fun o i v H Q=>∃ p xs k j,o=.ref p/\i=.int k/\H p=some (.lst xs)/\ixN xs.length k=some j/\Q (zQ H p (.lst (xs.set j v)))
theorem Iw:WU X Ew:=by
 intro pins s σ H o i v ov iv u Q I ro ri rv h
 obtain ⟨p,xs,k,j,rfl,rfl,hp,hj,q⟩:=h
 cases ro
 obtain ⟨t,rfl⟩:=ri
 obtain ⟨its,n,r,ho,hz⟩:=I.lst hp
 obtain ⟨h1,h2,h3,h4⟩:=J2 hj
 have hl:=r.length
 have hn:=jw
 have I':zB X pins σ (zQ H p (.lst (xs.set j v))) { s with heap:=s.heap.update p (Obj.mapSeq (·.setIfInBounds j u)) }:=
  I.lstUpd hp ho (Br its n j u) (r.set rv j) (by rw [List.length_set]; exact hz) s.toks
 by_cases h0:0<=k
 ·have hk:k.toNat=j:=by
   rw [seqIndex_of h0 h4] at h1
   exact Option.some.inj h1
  exact PySem.W.ki_setAt ho h0 (by omega) (by rw [List.size_toArray,<- hl]; exact h4) (by rw [hk]; exact ⟨_,I',q⟩)
 ·have hk:(k+(its.toArray.size:Int)).toNat=j:=by
   rw [seqIndex_neg (by omega) h3] at h1
   rw [List.size_toArray,<- hl]
   exact Option.some.inj h1
  exact PySem.W.ki_setBack ho (by omega) (by rw [List.size_toArray,<- hl]; exact h3) (by omega) (by rw [hk]; exact ⟨_,I',q⟩)
noncomputable def uU:V->Bool
 | .non=>true
 | .bl _=>true
 | .int _=>true
 | .str _=>true
 | _=>false
noncomputable def u7:V->V->Bool
 | .non,.non=>true
 | .bl a,.bl b=>a == b
 | .bl a,.int b=>(if a then 1 else 0) == b
 | .int a,.bl b=>a == (if b then 1 else 0)
 | .int a,.int b=>a == b
 | .str a,.str b=>a == b
 | _,_=>false
theorem QX {A:Around} {s:Shared} {y x:V} {u v:Value} (ry:zX y u) (rx:zX x v) (fy:uU y=true) (fx:uU x=true):SeqAt.EqAt A s u v (u7 y x):=by
 cases y with
 | non=>
  cases ry
  cases x with
  | non=>cases rx; exact SeqAt.EqAt.same _
  | bl b=>cases rx; exact SeqAt.EqAt.none_bool b
  | int b=>obtain ⟨t,rfl⟩:=rx; exact SeqAt.EqAt.none_int b t
  | str b=>obtain ⟨t,rfl⟩:=rx; exact SeqAt.EqAt.none_str b t
  | _=>exact absurd (show false=true from fx) Bool.false_ne_true
 | bl a=>
  cases ry
  cases x with
  | non=>cases rx; exact SeqAt.EqAt.bool_none a
  | bl b=>cases rx; exact SeqAt.EqAt.bool_bool a b
  | int b=>obtain ⟨t,rfl⟩:=rx; exact SeqAt.EqAt.bool_int a b t
  | str b=>obtain ⟨t,rfl⟩:=rx; exact SeqAt.EqAt.bool_str a b t
  | _=>exact absurd (show false=true from fx) Bool.false_ne_true
 | int a=>
  obtain ⟨t',rfl⟩:=ry
  cases x with
  | non=>cases rx; exact SeqAt.EqAt.int_none a t'
  | bl b=>cases rx; exact SeqAt.EqAt.int_bool a t' b
  | int b=>obtain ⟨t,rfl⟩:=rx; exact SeqAt.EqAt.int_int a t' b t
  | str b=>obtain ⟨t,rfl⟩:=rx; exact SeqAt.EqAt.int_str a t' b t
  | _=>exact absurd (show false=true from fx) Bool.false_ne_true
 | str a=>
  obtain ⟨t',rfl⟩:=ry
  cases x with
  | non=>cases rx; exact SeqAt.EqAt.str_none a t'
  | bl b=>cases rx; exact SeqAt.EqAt.str_bool a t' b
  | int b=>obtain ⟨t,rfl⟩:=rx; exact SeqAt.EqAt.str_int a t' b t
  | str b=>obtain ⟨t,rfl⟩:=rx; exact SeqAt.EqAt.str_str a t' b t
  | _=>exact absurd (show false=true from fx) Bool.false_ne_true
 | _=>exact absurd (show false=true from fy) Bool.false_ne_true
noncomputable def w_ (x:V) (u:Value):Bool:=match u with
 | .none=>u7 .non x
 | .bool b=>u7 (.bl b) x
 | .int i _=>u7 (.int i) x
 | .str z _=>u7 (.str z) x
 | _=>false
theorem QZ {x y:V} {u:Value} (r:zX y u) (f:uU y=true):w_ x u=u7 y x:=by
 cases y with
 | non=>cases r; rfl
 | bl b=>cases r; rfl
 | int i=>obtain ⟨t,rfl⟩:=r; rfl
 | str z=>obtain ⟨t,rfl⟩:=r; rfl
 | _=>exact absurd (show false=true from f) Bool.false_ne_true
theorem gj {x:V}:∀ {xs:List V} {us:List Value},zb xs us->xs.all uU=true->us.any (w_ x)=xs.any fun y=>u7 y x
 | _,_,.nil,_=>rfl
 | y::xs,u::us,.cons r t,f=>by
  rw [List.all_cons,Bool.and_eq_true] at f
  rw [List.any_cons,List.any_cons,QZ r f.1,gj t f.2]
theorem kO {A:Around} {s:Shared} {x:V} {v:Value} (rx:zX x v) (fx:uU x=true):∀ {xs:List V} {us:List Value},zb xs us->xs.all uU=true->∀ u∈us,SeqAt.EqAt A s u v (w_ x u)
 | _,_,.nil,_=>fun u hu=>by cases hu
 | y::xs,u::us,.cons r t,f=>fun u' hu=>by
  rw [List.all_cons,Bool.and_eq_true] at f
  rcases List.mem_cons.mp hu with rfl | hu
  ·rw [QZ r f.1]; exact QX r rx f.1 fx
  ·exact kO rx fx t f.2 u' hu
noncomputable def XO (x:V) (xs:List V):Bool:=xs.any fun y=>u7 y x
noncomputable def UK (K:PySem.W.Frag) (neg:Bool):R2:=fun x y H Q=>∃ p xs,y=.ref p/\(yB K H p xs\/yQ K H p xs)/\uU x=true/\xs.all uU=true/\Q (.bl (if neg then !XO x xs else XO x xs)) H
theorem CK:zt X (compareOp .In) (UK X.K false):=by
 intro pins s σ H x y v u Q I rx ry h
 obtain ⟨p,xs,rfl,hq,fx,fs,q⟩:=h
 cases ry
 rcases hq with hq | hq
 ·obtain ⟨its,r,pl,hz⟩:=I.list hq
  refine SeqAt.in_listAt (w_ x) pl.isList (fun w hw=>kO rx fx r fs w (by simpa using hw)) ⟨.bl _,H,I,rfl,?_⟩
  rw [show its.toArray.any (w_ x)=its.any (w_ x) by simp,gj r fs]
  exact q
 ·obtain ⟨its,r,pl,hz⟩:=I.tuple hq
  refine SeqAt.in_tupleAt (w_ x) pl (fun w hw=>kO rx fx r fs w (by simpa using hw)) ⟨.bl _,H,I,rfl,?_⟩
  rw [show its.toArray.any (w_ x)=its.any (w_ x) by simp,gj r fs]
  exact q
theorem CS:zt X (compareOp .NotIn) (UK X.K true):=by
 intro pins s σ H x y v u Q I rx ry h
 obtain ⟨p,xs,rfl,hq,fx,fs,q⟩:=h
 cases ry
 rcases hq with hq | hq
 ·obtain ⟨its,r,pl,hz⟩:=I.list hq
  refine SeqAt.notIn_listAt (w_ x) pl.isList (fun w hw=>kO rx fx r fs w (by simpa using hw)) ⟨.bl _,H,I,rfl,?_⟩
  rw [show its.toArray.any (w_ x)=its.any (w_ x) by simp,gj r fs]
  exact q
 ·obtain ⟨its,r,pl,hz⟩:=I.tuple hq
  refine SeqAt.notIn_tupleAt (w_ x) pl (fun w hw=>kO rx fx r fs w (by simpa using hw)) ⟨.bl _,H,I,rfl,?_⟩
  rw [show its.toArray.any (w_ x)=its.any (w_ x) by simp,gj r fs]
  exact q
theorem CT:zt X (compareOp .NotIn) (fun x y H Q=>∃ i j,x=.str i/\y=.str j/\Q (.bl (!(!(Builtin.Str.occurrences j i 0 j.length 1).isEmpty))) H):=by
 intro pins s σ H x y v u Q I rx ry h
 obtain ⟨i,j,rfl,rfl,q⟩:=h
 obtain ⟨t,rfl⟩:=rx
 obtain ⟨t',rfl⟩:=ry
 exact notIn_str ⟨.bl _,H,I,rfl,q⟩
theorem LM:xC X (.builtin "len") (fun xs H Q=>∃ p ys,xs=[.ref p]/\(yB X.K H p ys\/yQ X.K H p ys)/\Q (.int ys.length) H):=by
 intro pins s σ H xs us Q I r h
 obtain ⟨p,ys,rfl,hq,q⟩:=h
 obtain ⟨u,rfl,rx⟩:=wq r
 cases rx
 have hn:=jw
 rcases hq with hq | hq
 ·obtain ⟨its,r',pl,hz⟩:=I.list hq
  have hlen:=r'.length
  exact Calls.call_len_list pl.isList (by simp only [List.size_toArray]<;>omega) ⟨.int ys.length,H,I.tok _,⟨s.toks+1,by rw [List.size_toArray,hlen]⟩,q⟩
 ·obtain ⟨its,r',pl,hz⟩:=I.tuple hq
  have hlen:=r'.length
  exact len_tuple pl (by simp only [List.size_toArray]<;>omega) ⟨.int ys.length,H,I.tok _,⟨s.toks+1,by rw [List.size_toArray,hlen]⟩,q⟩
theorem LN:xC X (.builtin "len") (fun xs H Q=>∃ z,xs=[.str z]/\z.length<=sizeLine/\Q (.int z.length) H):=by
 intro pins s σ H xs us Q I r h
 obtain ⟨z,rfl,hz,q⟩:=h
 obtain ⟨u,rfl,t,rfl⟩:=wq r
 have hn:=jw
 exact len_str (by omega) ⟨.int z.length,H,I.tok _,⟨_,rfl⟩,q⟩
theorem xC.or {f:Value} {r r':List V->Hp->VK->Prop} (h:xC X f r) (h':xC X f r'):xC X f (fun xs H Q=>r xs H Q\/r' xs H Q):=by
 intro pins s σ H xs us Q I rs q
 rcases q with q | q
 ·exact h pins s σ H xs us Q I rs q
 ·exact h' pins s σ H xs us Q I rs q
theorem LP:xC X (.type "list") (fun xs H Q=>∃ p ys,xs=[.ref p]/\(yB X.K H p ys\/yQ X.K H p ys)/\∀ l,H l=none->Q (.ref l) (zQ H l (.lst ys))):=by
 intro pins s σ H xs us Q I r h
 obtain ⟨p,ys,rfl,hq,q⟩:=h
 obtain ⟨u,rfl,rx⟩:=wq r
 cases rx
 have fin:∀ (its:List Value),zb ys its->ys.length<=sizeLine->∀ (h':Heap) (c':Nat),(∀ b o',s.heap.get? b=some o'->h'.get? b=some o')->
   h'.get? s.heap.objs.size=some { cls:=.type "list",dict:=none,data:=.seq its.toArray c',slots:=#[] }->EP X pins σ Q (.ref s.heap.objs.size) { s with heap:=h' }:=fun its r' hz h' c' kp e=>
  ⟨.ref s.heap.objs.size,_,I.laid (t':=s.toks) kp (Nat.le_refl _) (show yc X.prog X.w _ h' _ (.lst ys) from ⟨hz,its,c',r',e⟩),rfl,q _ (I.hok.fresh (Nat.le_refl _))⟩
 rcases hq with hq | hq
 ·obtain ⟨its,r',pl,hz⟩:=I.list hq
  have hlen:=r'.length
  obtain ⟨o,ho,hc,n,hd⟩:=pl.isList
  exact call_list_seq p (.inl rfl) ho hc hd (fun h' c' kp e=>fin its r' hz h' c' kp e) (by simp only [List.size_toArray]<;>omega)
 ·obtain ⟨its,r',pl,hz⟩:=I.tuple hq
  have hlen:=r'.length
  obtain ⟨o,ho,hc,n,hd⟩:=pl
  exact call_list_seq p (.inr rfl) ho hc hd (fun h' c' kp e=>fin its r' hz h' c' kp e) (by simp only [List.size_toArray]<;>omega)
theorem Wv:xC X (.type "tuple") (fun xs H Q=>∃ p ys,xs=[.ref p]/\((yB X.K H p ys/\∀ l,H l=none->Q (.ref l) (zQ H l (.tup ys)))\/(yQ X.K H p ys/\Q (.ref p) H))):=by
 intro pins s σ H xs us Q I r h
 obtain ⟨p,ys,rfl,h⟩:=h
 obtain ⟨u,rfl,rx⟩:=wq r
 cases rx
 rcases h with ⟨hq,q⟩ | ⟨hq,q⟩
 ·obtain ⟨its,r',pl,hz⟩:=I.list hq
  have hlen:=r'.length
  refine call_tuple_list pl.isList (fun h' kp=>?_) (by simp only [List.size_toArray]<;>omega)
  have I1:zB X pins σ H { s with heap:=h' }:=I.kept (t':=s.toks) kp
  have I2:zB X pins σ (zQ H h'.objs.size (.tup ys)) { s with heap:=h'.push { cls:=.type "tuple",data:=.seq its.toArray } }:=
   I1.laid (t':=s.toks) (fun b o e=>Heap.get?_push_of_some _ e) (Nat.le_refl _) (show yc X.prog X.w _ _ _ (.tup ys) from ⟨hz,its,r',IsTup.new _ _⟩)
  exact ⟨.ref h'.objs.size,_,I2,rfl,q _ (I1.hok.fresh (Nat.le_refl _))⟩
 ·obtain ⟨its,r',pl,hz⟩:=I.tuple hq
  exact call_tuple_same pl ⟨.ref p,H,I,rfl,q⟩
noncomputable def OF (K:PySem.W.Frag) (T:String) (x:V) (H:Hp):Prop:=match x with
 | .str _=>T = "str"
 | .int _=>T = "int"
 | .ref p=>(T = "list" /\ ∃ xs,yB K H p xs)\/(T = "tuple" /\ ∃ o,K.lookup p=some o/\o.cls=.type "tuple" /\ o.dict=none) \/
   (T = "dict" /\ ((∃ kvs,H p=some (.dK kvs))\/∃ kvs,H p=some (.dT kvs)))\/(T = "set" /\ ∃ S n,H p=some (.set S n))
 | _=>False
theorem NZ {pins:List (Addr×Obj)} {σ:St} {H:Hp} {s:Shared} {T:String} {x:V} {v:Value} (I:zB X pins σ H s) (r:zX x v) (ty:OF X.K T x H) :
  s.TypeIs v T/\∀ a,v=.ref a->∃ ob,s.heap.get? a=some ob/\ob.dict=none:=by
 cases x with
 | str z=>
  obtain ⟨t,rfl⟩:=r
  cases (show T = "str" from ty)
  exact ⟨typeIs_str s z t,fun _ e=>nomatch e⟩
 | int i=>
  obtain ⟨t,rfl⟩:=r
  cases (show T = "int" from ty)
  exact ⟨typeIs_int s i t,fun _ e=>nomatch e⟩
 | ref p=>
  cases r
  rcases ty with ⟨rfl,xs,hq⟩ | ⟨rfl,o,hk,hc,hd⟩ | ⟨rfl,hk⟩ | ⟨rfl,S,n,hk⟩
  ·obtain ⟨its,_,pl,_⟩:=I.list hq
   refine ⟨pl.isList.typeIs,fun a e=>?_⟩
   cases e
   obtain ⟨o,n,e,c,hd,_⟩:=pl
   exact ⟨o,e,hd⟩
  ·refine ⟨⟨o,I.kIn p o hk,hc⟩,fun a e=>?_⟩
   cases e
   exact ⟨o,I.kIn _ o hk,hd⟩
  ·have z:∃ o,s.heap.get? p=some o/\o.ExactDict:=by
    rcases hk with ⟨kvs,hk⟩ | ⟨kvs,hk⟩
    ·obtain ⟨_,_,_,_,o,_,_,e,ex,_⟩:=I.hok p _ hk
     exact ⟨o,e,ex⟩
    ·obtain ⟨_,_,_,_,o,_,_,e,ex,_⟩:=I.hok p _ hk
     exact ⟨o,e,ex⟩
   obtain ⟨o,e,ex⟩:=z
   refine ⟨⟨o,e,ex.1⟩,fun a e2=>?_⟩
   cases e2
   exact ⟨o,e,ex.2.1⟩
  ·obtain ⟨o,_,_,_,e,ex,_⟩:=I.hok p _ hk
   refine ⟨⟨o,e,ex.1⟩,fun a e2=>?_⟩
   cases e2
   exact ⟨o,e,ex.2.1⟩
 | _=>exact False.elim ty
noncomputable def O8 (K:PySem.W.Frag) (T:String) (r:V->List V->Hp->VK->Prop) (to:TE) (t:TA):TE:=fun σ H Q=>to σ H fun x H1=>OF K T x H1/\t σ H1 fun xs H2=>r x xs H2 Q
variable {o e:Expr} {es:List Expr} {to:TE} {t:TA} {name:Str} {apos cpos:Pos} {T id:String} {r:V->List V->Hp->VK->Prop}
theorem Cg (pa:PlainAttrs T) (slot:Slot T name id) (hty:typeOf (.builtin id)=pure (.type "method_descriptor")) (hm:T8 X id r) (ho:PE X o to) (ha:PA X (e::es) t)
  (hbase:attributeBase o name X.env (eval o X.env)=eval o X.env:=by rfl)
  (hfew:((backTo cpos (starEach (e::es) X.env)).all (fun x=>!x.1)&&(backToKw cpos (keywordEach [] X.env)).all (fun x=>x.1.isSome)
   && decide ((e::es).length+([]:List Keyword).length+(if ([]:List Keyword).isEmpty then 0 else 1)<30))=true:=by rfl)
  (hline:(apos.endLine == cpos.line)=true:=by rfl) (hs:starEach (e::es) X.env=(false,eval e X.env)::starEach es X.env:=by rfl) (hplain:(backTo cpos (starEach es X.env)).any (·.1)=false:=by rfl) :
  PE X (.Call (.Attribute o name apos) (e::es) [] cpos) (O8 X.K T r to t):=by
 intro pins s σ H Q I h
 refine wpAny_Call_method_late hbase hfew hline rfl (za (ho pins s σ H _ I h) fun v s1 ⟨x,H1,I1,r1,ty,q1⟩=>?_)
 obtain ⟨h1,h2⟩:=NZ I1 r1 ty
 refine ⟨T,id,pa,slot,hty,h1,h2,?_⟩
 have hA:=ha cpos pins s1 σ H1 _ I1 q1
 rw [hs] at hA ⊢
 refine Calls.callWith_builtin (by show (false||(backTo cpos (starEach es X.env)).any (·.1))=false; rw [hplain]<;>rfl) (Calls.evalArgs_plain ?_)
 exact za hA fun us s2 ⟨vs,H2,I2,r2,q2⟩=>hm pins s2 σ H2 x vs v us Q I2 r1 r2 q2
end
end L2
namespace L2
open PySem PySem.Spec PyProof.Rows
noncomputable def OY (X:Cx) (id:String) (r:V->List V->Hp->VK->Prop):Prop:=
 ∀ (pins:List (Addr×Obj)) (s:Shared) (σ:St) (H:Hp) (x:V) (xs:List V) (v:Value) (us:List Value) (Q:VK),zB X pins σ H s->zX x v->zb xs us->r x xs H Q->
  wpAny (model X.prog X.w) X.A (call (.builtin id) (v::us)) (EP X pins σ Q) X.xe s
theorem zb.one:∀ {x:V} {us:List Value},zb [x] us->∃ u,us=[u]/\zX x u
 | _,_,.cons r .nil=>⟨_,rfl,r⟩
theorem zb.rep {xs:List V} {us:List Value} (h:zb xs us):∀ k:Nat,zb (List.replicate k xs).flatten (List.replicate k us).flatten
 | 0=>.nil
 | k+1=>by
  rw [List.replicate_succ,List.replicate_succ,List.flatten_cons,List.flatten_cons]
  exact zb.append h (zb.rep h k)
theorem Qg (its:List Value):∀ (k:Nat) (acc:List Value),
  List.foldl (fun x1 x2=>x1++x2) acc.toArray (List.replicate k its.toArray)=(acc++(List.replicate k its).flatten).toArray
 | 0,acc=>by simp
 | k+1,acc=>by
  have e:acc.toArray++its.toArray=(acc++its).toArray:=by simp
  have e2:(acc++its)++(List.replicate k its).flatten=acc++(List.replicate (k+1) its).flatten:=by
   rw [List.replicate_succ,List.flatten_cons,List.append_assoc]
  rw [<- e2,<- Qg its k (acc++its),<- e,List.replicate_succ,List.foldl_cons]
section
variable {X:Cx} {pins:List (Addr×Obj)} {σ:St} {H:Hp} {s:Shared} {l b:Addr} {xs ys zs:List V}
theorem zB.lset {its its':List Value} {n:Nat} {f:Array Value->Array Value} {t':Nat} (I:zB X pins σ H s) (hH:H l=some (.lst xs))
  (e:s.heap.get? l=some { cls:=.type "list",data:=.seq its.toArray n }) (hf:f its.toArray=its'.toArray) (hv:zb ys its') (hz:ys.length<=sizeLine) :
  zB X pins σ (zQ H l (.lst ys)) { s with heap:=s.heap.update l (Obj.mapSeq f),toks:=t' }:=by
 have q:=PySem.IsL.update e f
 rw [hf] at q
 refine I.write (x:=l) (e:=l) (by rw [hH]; exact trivial) (.inl rfl) (fun b' u hb hu=>(Heap.get?_update_other s.heap (Obj.mapSeq f) (Ne.symm hb)).trans hu) ⟨_,q⟩ ?_
 exact ⟨hz,its',_,hv,q⟩
theorem zB.lnew {its:List Value} {t':Nat} (I:zB X pins σ H s) (hv:zb ys its) (hz:ys.length<=sizeLine) :
  zB X pins σ (zQ H s.heap.objs.size (.lst ys)) { s with heap:=s.heap.push { cls:=.type "list",data:=.seq its.toArray },toks:=t' }:=
 I.laid (fun _ _ q=>Heap.get?_push_of_some _ q) (Nat.le_refl _) ⟨hz,its,0,hv,Heap.get?_push_size _ rfl⟩
theorem zB.fresh (I:zB X pins σ H s):H s.heap.objs.size=none:=I.hok.fresh (Nat.le_refl _)
theorem zB.lstM (I:zB X pins σ H s) (hH:H l=some (.lst xs)):xs.length<=sizeLine/\∃ (its:List Value) (n:Nat),zb xs its/\xs.length=its.length/\s.heap.get? l=some { cls:=.type "list",data:=.seq its.toArray n }:=by
 obtain ⟨z,its,n,r,e⟩:=I.hok l _ hH
 exact ⟨z,its,n,r,r.length,e⟩
theorem DW {n:Nat} (h:n<=sizeLine):Builtin.List.listTooLong n=false:=by
 unfold Builtin.List.listTooLong
 exact decide_eq_false (by omega)
end
section
variable {X:Cx}
noncomputable def Eo:V->List V->Hp->VK->Prop:=fun x vs H Q=>∃ l xs y,x=.ref l/\vs=[y]/\H l=some (.lst xs)/\xs.length<sizeLine/\Q .non (zQ H l (.lst (xs++[y])))
theorem DL:OY X "list.append" Eo:=by
 intro pins s σ H x vs v us Q I rx rv h
 obtain ⟨l,xs,y,rfl,rfl,hH,hz,q⟩:=h
 cases rx
 obtain ⟨u,rfl,ru⟩:=rv.one
 obtain ⟨z,its,n,r,hl,e⟩:=I.lstM hH
 refine call_meets F.slot_list_append ⟨_,e,rfl⟩ F.entry_list_append (F.args_list_append_2 _ _) (PySem.list_append l its.toArray n u (by rw [List.size_toArray]; omega)) ⟨e,?_⟩
 refine ⟨.non,_,I.lset (its':=its++[u]) hH e (by simp) (r.append (.cons ru .nil)) ?_,rfl,q⟩
 rw [List.length_append,List.length_singleton]
 omega
noncomputable def Ev:R2:=fun x y H Q=>∃ l k xs,x=.ref l/\y=.int k/\H l=some (.lst xs) /\ -(2 ^ 63)<=k/\k<2 ^ 63/\xs.length*k.toNat<=sizeLine/\
 ∀ p,H p=none->Q (.ref p) (zQ H p (.lst (List.replicate k.toNat xs).flatten))
theorem JE {α:Type} (xs:List α) (k:Nat):(List.replicate k xs).flatten.length=k*xs.length:=by
 induction k with
 | zero=>simp
 | succ k ih=>rw [List.replicate_succ,List.flatten_cons,List.length_append,ih,Nat.succ_mul,Nat.add_comm]
theorem CV:zt X (binaryOp .Mult) Ev:=by
 intro pins s σ H x y v u Q I rx ry h
 obtain ⟨l,k,xs,rfl,rfl,hH,h1,h2,hz,q⟩:=h
 cases rx
 obtain ⟨t,rfl⟩:=ry
 obtain ⟨z,its,n,r,hl,e⟩:=I.lstM hH
 have hlen:its.toArray.size*k.toNat<=sizeLine:=by rw [List.size_toArray,<- hl]; exact hz
 have hcap:¬ its.toArray.size*k.toNat > (2 ^ 63 - 1) / 8:=by
  have:(sizeLine:Nat)<=(2 ^ 63 - 1) / 8:=by decide
  omega
 have hfit:¬ (!Builtin.List.listFitsIndex k)=true:=by
  rw [fitsIndex_both h1 h2]
  exact Bool.false_ne_true
 have hlong:¬ Builtin.List.listTooLong (its.toArray.size*k.toNat)=true:=by
  rw [DW hlen]
  exact Bool.false_ne_true
 have hnew:List.foldl (fun x1 x2=>x1++x2) #[] (List.replicate (if its.toArray.isEmpty=true then 0 else k.toNat) its.toArray)=(List.replicate k.toNat its).flatten.toArray:=by
  have f0:∀ m:Nat,List.foldl (fun x1 x2=>x1++x2) #[] (List.replicate m its.toArray)=(List.replicate m its).flatten.toArray:=fun m=>by
   have:=Qg its m []
   rw [List.nil_append] at this
   exact this
  rw [f0]
  cases its with
  | nil=>simp
  | cons a r'=>rw [if_neg (by simp)]
 refine wpAny_binaryOp_repeat_ref (T := "list") (U := "int") (by decide) ⟨_,e,rfl⟩ (fun s'=>typeIs_int s' k t) noFill_list_mul F.fills_int_mul F.slot_int_rmul repeat_list F.slot_int_index.lookup
  (call_meets F.slot_int_rmul (typeIs_int s k t) F.entry_int_rmul (F.args_int_rmul_2 _ _) (int___rmul___int_list k t l its.toArray n)
   ⟨e,rfl,⟨_,e,rfl⟩,call_meets F.slot_list_mul ⟨_,e,rfl⟩ F.entry_list_mul (F.args_list_mul_2 _ _) (AutoListH.list___mul___list_int_3 l its.toArray n k t hfit hcap hlong) ⟨e,?_⟩⟩)
 rw [hnew]
 exact ⟨.ref _,_,I.lnew (t':=s.toks) (r.rep k.toNat) (by rw [JE,Nat.mul_comm]; exact hz),rfl,q _ I.fresh⟩
end
section
variable {prog:Program} {w:World} {A:Around} {E:Value->Shared->Prop} {s:Shared}
end
section
variable {X:Cx}
end
end L2
namespace Att
open PySem PySem.W PySem.Calls PyProof.Rows
theorem B7 {P:Params} {h:Heap}:∀ (ns:List Int) (vs:List Value),WellAll P h vs (ns.map WData.int)->IntsAre vs ns:=by
 intro ns
 induction ns with
 | nil=>
  intro vs w
  rw [List.map_nil] at w
  cases w
  exact .nil
 | cons n ns ih=>
  intro vs w
  rw [List.map_cons] at w
  cases w with
  | cons a b=>
   cases a
   exact .cons _ _ (ih _ b)
theorem script_of {l:OpenLaw} {n:Nat} (hn:l.most=some n) {P:Params} {h:Heap} {args:List WData} {vals:List Value}
  (hpre:l.row.toRowW.claim.pre args=true) (hwl:WellAll P h vals args) :
  ∃ a vs ns,vals=[Value.ref a]/\args=[WData.list (ns.map WData.int)]/\h.get? a=some { cls:=.type "list",data:=.seq vs.toArray }/\IntsAre vs ns/\ns.length<=n:=by
 have hsh:WShape.hasAll [] args [.list .int]=true:=(pre_splitW hpre).1
 have hc:l.pre.holds [] { args:=args }=true:=(pre_splitW hpre).2
 obtain ⟨d,r,rfl,h1,h2⟩:=hasAllW_cons hsh
 obtain rfl:=hasAllW_nil h2
 obtain ⟨xs,rfl,h3⟩:=hasW_list h1
 obtain ⟨ns,rfl⟩:=items_int h3
 have hlen:ns.length<=n:=by
  unfold OpenLaw.pre at hc
  have h4:(WTm.not (.lt (.lit (.int (n:Int))) (.len (.arg 0)))).holds [] { args:=[.list (ns.map .int)] }=true:=by
   have h4:=(holds_andW hc).1
   rw [hn] at h4
   exact h4
  have h5:=condW_of h4 (w_not (w_lt w_lit (w_len_list (w_arg rfl))))
  rw [List.length_map] at h5
  refine Nat.le_of_not_lt fun q=>?_
  have q':(n:Int)<((ns.length:Nat):Int):=by omega
  first
   | (rw [decide_eq_true q'] at h5; exact absurd h5 (by decide))
   | (simp at h5; omega)
 cases hwl with
 | cons w1 w2=>
  cases w2
  cases w1 with
  | list ho hall=>exact ⟨_,_,ns,rfl,rfl,ho,B7 ns _ hall,hlen⟩
theorem post_true (l:OpenLaw) (args:List WData):l.row.toRowW.claim.post args (.bool true) args=true:=
 postW_of (r:=l.row.toRowW) (X:=(true == true))
  (show WShape.has [] (.bool true) .bool=true by first | rfl | decide | simp [WShape.has,WShape.arms,WShape.armsAll])
  (show (WTm.eq .res (.lit (.bool true))).value [] { args:=args,res:=some (.bool true),after:=args }=some (.bool (true == true)) from w_eq_bool (w_res rfl) w_lit) rfl
section
variable {prog:Program} {w:World} {A:Around} {E:Value->Shared->Prop} {s:Shared} {K:Frag}
end
end Att
namespace L2
open PySem PySem.Spec PyProof.Rows
theorem OL:∀ {vs:List Value} {ns:List Int},IntsAre vs ns->zb (ns.map V.int) vs
 | _,_,.nil=>.nil
 | _,_,.cons n t h=>.cons ⟨t,rfl⟩ (OL h)
noncomputable def TD (H:Hp):Prop:=∀ b,H b=none\/∃ o xs,H b=some (.frz o (.lst xs))
theorem Bd {P:Program} {w:World} {K:PySem.W.Frag} {mg mb:Str->Option Value} {CX:uN} {k:Nat} {fa a:Addr} {fd:FuncData} {x:Str} {sp:Sp} {s₁:Shared} {vs:List Value} {ns:List Int}
  (KX:K.In s₁.heap) (hns:s₁.heap.Ns mainGlobals mg) (hb:s₁.heap.Ns builtinsNs mb) (hbb:∀ x:Str,x ≠ "__name__" -> mb x=bootBuiltins x) (hlim:s₁.heap.NoLimit) (hg:s₁.gens=#[])
  (ha:s₁.heap.get? a=some { cls:=.type "list",data:=.seq vs.toArray }) (hi:IntsAre vs ns) (hl:ns.length<=sizeLine) (hr:yF k callerA)
  (F:∀ base:Heap,K.In base->base.Ns mainGlobals mg->yY P w K mg base CX k fa fd [x] sp) (hbind:∀ (s:Shared) (u:Value),BindsTo s fd ⟨[u],[]⟩ [(x,u)])
  (hsp:∀ H:Hp,TD H->yB K H a (ns.map V.int)->sp [.ref a] H (fun v _=>v=.bl true) fun _ _ _=>False)
  (hCX:∀ H e s',CX [] H s₁ (fun _ _ _=>False) e s'->False) :
  codeAny (model P w) callerA (.call (.ref fa) ⟨[.ref a],[]⟩) (fun r s'=>r=.ok (.ret (.bool true))/\OldK s₁.heap s'.heap/\s'.os=s₁.os/\AllBare s'.gens) s₁:=by
 have rv:=OL hi
 have lenV:=hi.length
 have core:∀ H:Hp,TD H->yB K H a (ns.map V.int)->ya P w H s₁.heap->(∀ b,H b≠none->b=a)->(H a≠none->K.lookup a=none)->
   codeAny (model P w) callerA (.call (.ref fa) ⟨[.ref a],[]⟩) (fun r s'=>r=.ok (.ret (.bool true))/\OldK s₁.heap s'.heap/\s'.os=s₁.os/\AllBare s'.gens) s₁:=by
  intro H hO hS hok hA hK
  have base_of:∀ {b:Addr} {o:Obj},s₁.heap.get? b=some o->H b=none->(tM s₁.heap H).get? b=some o:=fun e n=>Mx e n
  have noA:∀ {b:Addr} {o:Obj} {es:Array DictEntry} {ep:Nat},s₁.heap.get? b=some o->o.data=.dict es ep->H b=none:=fun {b o es ep} e d=>by
   cases q:H b with
   | none=>rfl
   | some u=>
    have e':b=a:=hA b (by rw [q]; simp)
    subst e'
    rw [ha] at e; cases e
    have d':Data.seq vs.toArray _=Data.dict es ep:=d
    cases d'
  have nsK:∀ {b:Addr} {m:Str->Option Value},s₁.heap.Ns b m->(tM s₁.heap H).Ns b m:=fun {b m} ⟨o,es,ep,e,d,r⟩=>⟨o,es,ep,base_of e (noA e d),d,r⟩
  have hKb:K.In (tM s₁.heap H):=fun b o e=>base_of (KX b o e) (by
   cases q:H b with
   | none=>rfl
   | some u=>
    have e':b=a:=hA b (by rw [q]; simp)
    subst e'
    rw [hK (by rw [q]; simp)] at e; cases e)
  have hM:Mod K mg (tM s₁.heap H):=⟨hKb,nsK hns,⟨mb,nsK hb,hbb⟩,let ⟨mc,h1,h2⟩:=hlim; ⟨mc,nsK h1,h2⟩⟩
  have e0:q_ P w K mg (tM s₁.heap H) callerA [] s₁ H:=⟨rfl,hM,fun b o e=>DX e,Nat.le_of_eq (Mz _ _),trivial,fun b hb=>absurd (show b∈([]:List Addr) from hb) (by simp),hok,.of_eq hg⟩
  refine codeAny_mono ((F _ hKb (nsK hns)).run callerA [] s₁ H ⟨[.ref a],[]⟩ [.ref a] [.ref a] _ _ hr e0 (hbind s₁ (.ref a)) (.cons rfl .nil) (hsp H hO hS)) fun r s' h=>?_
  cases r with
  | error e=>exact (hCX H e s' h).elim
  | ok fl=>
   cases fl with
   | next=>exact False.elim h
   | brk=>exact False.elim h
   | cont=>exact False.elim h
   | ret u=>
    obtain ⟨v,H',os,bare,un,hok',r',q⟩:=h
    have q':v=.bl true:=q
    subst q'
    obtain rfl:u=Value.bool true:=r'
    refine ⟨rfl,OldK.of_keep fun b o e=>?_,os,bare⟩
    cases q:H b with
    | none=>exact un.keep b o e q (by intro z; exact absurd (show b∈([]:List Addr) from z) (by simp)) (by simp)
    | some u=>
     rcases hO b with z | ⟨ob,xs,z⟩
     ·rw [q] at z; cases z
     ·have z2:=un.frzs b ob _ z
      obtain ⟨e1,_⟩:=hok b _ z
      obtain ⟨e2,_⟩:=hok' b _ z2
      rw [e] at e1; cases e1
      exact e2
 cases hk:K.lookup a with
 | some o=>
  have e:=KX a o hk
  rw [ha] at e
  cases e
  refine core (fun _=>none) (fun _=>.inl rfl) (.inr ⟨_,vs.toArray,_,hk,rfl,rfl,rfl,by rw [List.size_toArray,lenV]; exact hl,by simpa using rv⟩) (fun b u z=>by have z':(none:Option HO)=some u:=z; cases z') (fun b z=>absurd rfl z) fun z=>absurd rfl z
 | none=>
  refine core (fun b=>if b=a then some (.frz { cls:=.type "list",data:=.seq vs.toArray } (.lst (ns.map V.int))) else none) (fun b=>?_) (.inl (.inr ⟨{ cls:=.type "list",data:=.seq vs.toArray },if_pos rfl⟩)) (fun b u z=>?_) (fun b z=>?_) fun _=>hk
  ·by_cases hb:b=a
   ·exact .inr ⟨_,_,if_pos hb⟩
   ·exact .inl (if_neg hb)
  ·by_cases hb:b=a
   ·have z':=(if_pos hb).symm.trans z
    cases z'
    subst hb
    exact ⟨ha,by rw [List.length_map]; exact hl,vs,_,rv,ha⟩
   ·have z':=(if_neg hb).symm.trans z
    cases z'
  ·by_cases hb:b=a
   ·exact hb
   ·exact absurd (if_neg hb) z
end L2
namespace L2
open PySem PySem.Spec PyProof.Rows
end L2
namespace L2
open PySem PySem.Spec PyProof.Rows
noncomputable def uW (s:Stmt) (j:Nat):Stmt:=match s with
 | .ClassDef _ _ _ body _ _ _ _ _ _ _=>body.getD j (.Pass ⟨0,0,0,0⟩)
 | _=>.Pass ⟨0,0,0,0⟩
noncomputable def yl (s:Stmt):Arguments:=match s with
 | .FunctionDef _ a _ _ _ _ _ _ _ _=>a
 | _=>{ posonlyargs:=[],args:=[],vararg:=none,kwonlyargs:=[],kw_defaults:=[],kwarg:=none,defaults:=[] }
noncomputable def yM (s:Stmt):List Stmt:=match s with
 | .FunctionDef _ _ b _ _ _ _ _ _ _=>b
 | _=>[]
noncomputable def zM (s:Stmt):Scope:=match s with
 | .FunctionDef _ _ _ _ _ _ sc _ _ _=>sc
 | _=>{ kind:=.function,names:=[],isGenerator:=false,isCoroutine:=false }
noncomputable abbrev yZ:uN:=fun _ _ _ _ _ _=>False
noncomputable abbrev E0:XK:=fun _ _ _=>False
theorem gE {X:Cx}:jd yZ X E0:=fun _ _ _ _ _ _ _ h=>h.elim
structure Fun (K:PySem.W.Frag) (x qual:Str) (st:Stmt) (f:Addr) (fd:FuncData):Prop where
 ex:∃ (oc:Value) (od:Option Addr) (kV doc pm:Value) (an:Option Addr) (cdv ct:Value) (osl:Array (Option Value)),
  fd=PySem.W.fnOf x qual (yl st) (yM st) (zM st) .none kV doc pm an cdv ct/\K.lookup f=some ⟨oc,od,.func fd,osl⟩/\PySem.W.codeIn K cdv qual=true
 kp:PySem.W.keepIn K (.ref f)=true
section
variable {P:Program} {w:World} {K:PySem.W.Frag} {mg:Str->Option Value} {base:Heap}
theorem Fun.ok {x qual:Str} {st:Stmt} {f:Addr} {fd:FuncData} {N ps:List Str} {k:Nat} {sp:Sp} (F:Fun K x qual st f fd) (S:ze N ps (zM st)) (len:∀ vs H Q E,sp vs H Q E->vs.length=ps.length)
  (hbody:∀ (cdv:Value) (A:Around) (outer:List Env) (s:Shared) (H:Hp) (vs:List V) (Q:VK) (E:XK),yF k (A.deeper (envOfC qual (zM st) s.heap.objs.size f cdv))->sp vs H Q E->
   ∃ t,wV (vf yZ P w K mg base N qual (zM st) f cdv A outer s H E).nox (yM st) t/\t { nx:=fun _ H'=>Q .non H',rt:=Q } (start N vs) H):yY P w K mg base yZ (k+1) f fd ps sp:=by
 obtain ⟨oc,od,kV,doc,pm,an,cdv,ct,osl,rfl,lk,hcd⟩:=F.ex
 refine Qf lk hcd S len fun A outer s H vs Q E hr hsp=>?_
 obtain ⟨t,h,q⟩:=hbody cdv A outer s H vs Q E hr hsp
 exact ⟨t,h.nox,q⟩
theorem Fun.binds {x qual:Str} {st:Stmt} {f:Addr} {fd:FuncData} {ps:List Str} (F:Fun K x qual st f fd)
  (h:∀ (kV doc pm:Value) (an:Option Addr) (cdv ct:Value) (us:List Value),us.length=ps.length->bindArgs (PySem.W.fnOf x qual (yl st) (yM st) (zM st) .none kV doc pm an cdv ct) ⟨us,[]⟩=pure (ps.zip us)):xQ K fd ps []:=by
 obtain ⟨oc,od,kV,doc,pm,an,cdv,ct,osl,rfl,lk,hcd⟩:=F.ex
 exact .all (h kV doc pm an cdv ct)
theorem zr {x qual:Str} {st:Stmt} {f:Addr} {oc:Value} {od an:Option Addr} {osl:Array (Option Value)} {kV doc pm cdv ct:Value} (l:K.lookup f=some ⟨oc,od,.func (PySem.W.fnOf x qual (yl st) (yM st) (zM st) .none kV doc pm an cdv ct),osl⟩)
  (c:PySem.W.codeIn K cdv qual=true) (k:PySem.W.keepIn K (.ref f)=true):Fun K x qual st f (PySem.W.fnOf x qual (yl st) (yM st) (zM st) .none kV doc pm an cdv ct):=⟨⟨oc,od,kV,doc,pm,an,cdv,ct,osl,rfl,l,c⟩,k⟩
end
theorem zJ {A:Around} {k:Nat} (hr:yF k A):A.units+1<cLine:=Nat.lt_of_le_of_lt (Nat.add_le_add_left (by decide:1<=64) _) hr.units
theorem KQ {n:Nat} (h:n<=1000):n<sizeLine:=Nat.lt_of_le_of_lt h (by decide)
section
variable {X:Cx}
end
theorem uu {A B:Prop} (h:B):if false=true then A else B:=by
 rw [if_neg Bool.false_ne_true]
 exact h
theorem uv {A B:Prop} (h:A):if true=true then A else B:=by
 rw [if_pos rfl]
 exact h
noncomputable def zW (H H':Hp):Prop:=∀ b o,H b=some o->H' b=some o
theorem zW.refl (H:Hp):zW H H:=fun _ _ h=>h
theorem zW.trans {H H1 H2:Hp} (a:zW H H1) (b:zW H1 H2):zW H H2:=fun c o h=>b c o (a c o h)
theorem zW.free {H H':Hp} (e:zW H H') {l:Addr} (h:H' l=Option.none):H l=Option.none:=by
 cases q:H l with
 | none=>rfl
 | some o=>
  rw [e l o q] at h
  cases h
end L2
set_option linter.all false
set_option maxRecDepth 100000
set_option maxHeartbeats 4000000
namespace L2
open PySem PySem.Spec PyProof.Rows
noncomputable def zE (K:PySem.W.Frag) (mg:Str->Option Value) (x:Str) (st:Stmt) (ps:List Str):Prop:=
 ∃ (f:Addr) (fd:FuncData),Fun K x x st f fd/\mg x=some (.ref f)/\xQ K fd ps []
noncomputable def zH (P:Program) (w:World) (K:PySem.W.Frag) (mg:Str->Option Value) (base:Heap) (x:Str) (ps:List Str) (k:Nat) (sp:Sp):Prop:=
 ∃ (f:Addr) (fd:FuncData),mg x=some (.ref f)/\PySem.W.keepIn K (.ref f)=true/\xQ K fd ps []/\yY P w K mg base yZ k f fd ps sp
noncomputable def y_ (mg:Str->Option Value) (x:Str) (v:V):Prop:=∃ u,mg x=some u/\zX v u
section
variable {P:Program} {w:World} {K:PySem.W.Frag} {mg:Str->Option Value} {base:Heap}
theorem zE.ok {x:Str} {st:Stmt} {N ps:List Str} {k:Nat} {sp:Sp} (d:zE K mg x st ps) (S:ze N ps (zM st)) (len:∀ vs H Q E,sp vs H Q E->vs.length=ps.length)
  (hbody:∀ (f:Addr) (cdv:Value) (A:Around) (outer:List Env) (s:Shared) (H:Hp) (vs:List V) (Q:VK) (E:XK),yF k (A.deeper (envOfC x (zM st) s.heap.objs.size f cdv))->sp vs H Q E->
   ∃ t,wV (vf yZ P w K mg base N x (zM st) f cdv A outer s H E).nox (yM st) t/\t { nx:=fun _ H'=>Q .non H',rt:=Q } (start N vs) H):zH P w K mg base x ps (k+1) sp:=by
 obtain ⟨f,fd,F,hm,hb⟩:=d
 exact ⟨f,fd,hm,F.kp,hb,F.ok S len (hbody f)⟩
end
section
variable {X:Cx} {x:Str} {p pos:Pos} {e:Expr} {es:List Expr} {t:TA} {ps:List Str} {j k:Nat} {sp:Sp} {v:V} {T:String}
noncomputable def yT:Expr->Bool
 | .Starred ..=>false
 | _=>true
theorem vG {e:Expr} {es:List Expr} {env:Env} (h:yT e=true):starEach (e::es) env=(false,eval e env)::starEach es env:=by
 cases e<;>first | rfl | cases h
theorem qq {env:Env} {pos:Pos}:∀ {es:List Expr},es.all yT=true->(backTo pos (starEach es env)).any (·.1)=false
 | [],_=>rfl
 | e::es,h=>by
  rw [List.all_cons,Bool.and_eq_true] at h
  rw [vG h.1]
  have ih:=qq (env:=env) (pos:=pos) h.2
  unfold backTo at ih ⊢
  rw [List.map_cons,List.any_cons,ih]
  rfl
theorem j6 {te:TE} (ha:PE X e te) (hr:PA X es t) (h:yT e=true:=by rfl):PA X (e::es) (Ul te t):=CZ ha hr (vG h)
noncomputable def YM:Expr->Option Int
 | .Constant (.int i) _ _=>some i
 | _=>none
theorem Og {e:Expr} {i:Int} (h:YM e=some i):∃ k p,e=.Constant (.int i) k p:=by
 cases e<;>first | (cases h; done) | skip
 rename_i c k p
 cases c<;>first | (cases h; done) | skip
 cases h
 exact ⟨k,p,rfl⟩
noncomputable def intsOf:List Expr->Option (List Int)
 | []=>some []
 | e::r=>(YM e).bind fun i=>(intsOf r).map (i::·)
theorem Jb:∀ {es:List Expr} {is:List Int},intsOf es=some is->PA X es (fun _ H Q=>Q (is.map V.int) H)
 | [],is,h=>by
  cases (show some []=some is from h)
  exact kY
 | e::r,is,h=>by
  have q:((YM e).bind fun i=>(intsOf r).map (i::·))=some is:=h
  cases e1:YM e with
  | none=>rw [e1] at q; cases q
  | some i=>
   rw [e1] at q
   obtain ⟨k,p,rfl⟩:=Og e1
   cases e2:intsOf r with
   | none=>rw [e2] at q; cases q
   | some js=>
    rw [e2] at q
    cases (show some (i::js)=some is from q)
    exact j6 Ji (Jb e2)
theorem U8 (h:zH X.prog X.w X.K X.mg X.base x ps k sp) (hr:yF j X.A) (hg:Gl X x) (ha:PA X (e::es) t) (hk:k<=j:=by decide) (hdb:(x == ("__debug__" : Str))=false:=by decide)
  (he:(e::es).all yT=true:=by rfl):PE X (.Call (.Name x p) (e::es) [] pos) (Uk sp [] E0 t):=by
 obtain ⟨f,fd,hm,kp,b,F⟩:=h
 rw [List.all_cons,Bool.and_eq_true] at he
 exact Ci F (hr.mono hk) hg hm kp b .nil gE ha hdb (vG he.1) (qq he.2)
theorem U6 (h:y_ X.mg x v) (hg:Gl X x) (hd:(x == ("__debug__" : Str))=false:=by decide):PE X (.Name x pos) (tC v):=by
 obtain ⟨u,hm,r⟩:=h
 exact Cq hg hm r hd
theorem Ch (hg:Gl X x) (hm:X.mg x=none) (hv:bootBuiltins x=some (.type T)) (hn:x ≠ "__name__" := by decide) (hd:(x == ("__debug__" : Str))=false:=by decide):PE X (.Name x pos) (tC (.ty T)):=
 Cf hg hm hv rfl hn hd
end
section
variable {X:Cx} {st:Stmt} {t:TS}
end
section
variable {X:Cx}
theorem j4:zt X (binaryOp .FloorDiv) (rI (fun _ j=>0<j/\j<2 ^ 64) fun i j=>.int (i / j)):=gA fun i j _ _ _ _ _ hc q=>by
 have h1:(0:Int)<j:=hc.1
 have h2:j<2 ^ 64:=hc.2
 have h3:j.natAbs.log2<64:=(Nat.log2_lt (by omega)).mpr (by omega)
 exact PyProof.Rows.floordiv_int (by omega) (by rw [Int.fdiv_eq_ediv_of_nonneg i (by omega)]; exact q) (.inl (PyProof.noPylong_of_log2 (by omega)))
end
theorem gt:bootBuiltins "len" = some (.builtin "len"):=by decide +kernel
theorem L7:bootBuiltins "isinstance" = some (.builtin "isinstance"):=by decide +kernel
theorem L9:bootBuiltins "sum" = some (.builtin "sum"):=by decide +kernel
theorem L6:bootBuiltins "all" = some (.builtin "all"):=by decide +kernel
theorem L8:bootBuiltins "max" = some (.builtin "max"):=by decide +kernel
theorem Q0:bootBuiltins "int" = some (.type "int"):=by decide +kernel
theorem L4:bootBuiltins "bool" = some (.type "bool"):=by decide +kernel
theorem Yv:bootBuiltins "list" = some (.type "list"):=by decide +kernel
theorem Yw:bootBuiltins "tuple" = some (.type "tuple"):=by decide +kernel
theorem BU {K:PySem.W.Frag}:PySem.W.kitOne K (.type "int") (.type "int")=some true:=by rfl
theorem BS {K:PySem.W.Frag}:PySem.W.kitOne K (.type "bool") (.type "int")=some true:=by kernel_rfl
theorem BT {K:PySem.W.Frag}:PySem.W.kitOne K (.type "int") (.type "bool")=some false:=by kernel_rfl
theorem BR {K:PySem.W.Frag}:PySem.W.kitOne K (.type "bool") (.type "bool")=some true:=by rfl
theorem BW {K:PySem.W.Frag}:PySem.W.kitOne K (.type "NoneType") (.type "int")=some false:=by kernel_rfl
theorem BV {K:PySem.W.Frag}:PySem.W.kitOne K (.type "NoneType") (.type "bool")=some false:=by kernel_rfl
theorem BY {K:PySem.W.Frag}:PySem.W.kitOne K (.type "tuple") (.type "tuple")=some true:=by rfl
theorem BX {K:PySem.W.Frag}:PySem.W.kitOne K (.type "str") (.type "str")=some true:=by rfl
theorem wB {H:Hp} {p:Addr} (h:H p=none) (o:HO):zW H (zQ H p o):=fun b u q=>by rw [zw (wb q h)]; exact q
theorem wK {n:Nat} (h:n<=1000):n<=sizeLine:=Nat.le_of_lt (KQ h)
end L2
namespace L2
open PySem PySem.Spec PyProof.Rows
section
variable {X:Cx} {tg:Expr}
end
end L2
namespace L2
open PySem PySem.Spec PyProof.Rows
noncomputable def qD (env:Env):List (Str×Addr)->Prop
 | []=>True
 | p::r=>env.cells.lookup p.1=some p.2/\qD env r
theorem qD.get {env:Env}:∀ {cl:List (Str×Addr)} {y:Str} {c:Addr},qD env cl->cl.lookup y=some c->env.cells.lookup y=some c
 | [],_,_,_,h=>by cases h
 | (n,a)::r,y,c,hc,h=>by
  rw [List.lookup_cons] at h
  cases e:y == n with
  | true=>
   rw [e] at h
   have e':y=n:=by simpa using e
   subst e'
   have h':a=c:=by simpa using h
   subst h'
   exact hc.1
  | false=>
   rw [e] at h
   exact qD.get hc.2 (by simpa using h)
noncomputable def ji (scope:Scope) (env:Env) (cl:List (Str×Addr)) (own:List Str):Bool:=
 scope.names.all fun p=>p.1 != ("." : Str)&&((p.2 == .local&&(own.contains p.1||p.1 == (".0" : Str)))||p.2 == .globalImplicit||p.2 == .globalExplicit ||
  (p.2 == .free&&(env.kindOf p.1 == some .cell||env.kindOf p.1 == some .free)&&(cl.lookup p.1).isSome))
noncomputable def hide (own:List Str) (y:Str):Str:=if own.contains y||y == (".0" : Str) then "." else y
noncomputable def wR (N own:List Str):List Str:=N.map (hide own)++own
theorem UQ {env:Env}:∀ {names:List (Str×NameKind)} {y:Str} {k:NameKind},
  (names.map fun (n,k)=>if (k == NameKind.free&&env.scope.kind == .function&&env.kindOf n == some .cell) then (n,NameKind.cell) else (n,k)).lookup y=some k->∃ k0,(y,k0)∈names/\(k=k0\/(k0=.free/\k=.cell))
 | [],_,_,h=>by simp at h
 | (n,k')::r,y,k,h=>by
  rw [List.map_cons] at h
  by_cases hc:(k' == NameKind.free&&env.scope.kind == .function&&env.kindOf n == some .cell)=true
  ·dsimp only at h
   rw [if_pos hc,List.lookup_cons] at h
   cases e:y == n with
   | true=>
    rw [e] at h
    have e':y=n:=by simpa using e
    subst e'
    have h':NameKind.cell=k:=by simpa using h
    have hf:k'=.free:=by
     rw [Bool.and_eq_true,Bool.and_eq_true] at hc
     simpa using hc.1.1
    exact ⟨k',List.mem_cons_self,.inr ⟨hf,h'.symm⟩⟩
   | false=>
    rw [e] at h
    obtain ⟨k0,m,z⟩:=UQ (env:=env) (by simpa using h)
    exact ⟨k0,List.mem_cons_of_mem _ m,z⟩
  ·dsimp only at h
   rw [if_neg hc,List.lookup_cons] at h
   cases e:y == n with
   | true=>
    rw [e] at h
    have e':y=n:=by simpa using e
    subst e'
    have h':k'=k:=by simpa using h
    exact ⟨k',List.mem_cons_self,.inl h'.symm⟩
   | false=>
    rw [e] at h
    obtain ⟨k0,m,z⟩:=UQ (env:=env) (by simpa using h)
    exact ⟨k0,List.mem_cons_of_mem _ m,z⟩
noncomputable def xS (X:Cx) (scope:Scope) (cl:List (Str×Addr)) (own:List Str) (C:Addr) (s2:Shared) (H2:Hp) (fp:List Addr) (pn:List (Addr×Obj)):Cx:=
 { X with N:=wR X.N own,s₀:=s2,H₀:=H2,env:=compEnvC scope cl C X.env,outer:=X.stack,stack:=X.stack,ex:=fp,fn:=fun _=>false,pn:=pn,xe:=fun _ _=>False }
section
variable {X:Cx} {pins:List (Addr×Obj)} {σ:St} {H2:Hp} {s2:Shared} {scope:Scope} {cl:List (Str×Addr)} {own:List Str} {C D:Addr} {fp:List Addr}
theorem Tt (hb:ji scope X.env cl own=true) {y:Str} {k:NameKind} (h:(relabel scope X.env).names.lookup y=some k) :
  y ≠ "." /\ ((k=.local->own.contains y=true\/y = ".0")/\((k=.cell\/k=.free)->(∃ k0,(y,k0)∈scope.names/\k0=.cell)\/((X.env.kindOf y=some .cell\/X.env.kindOf y=some .free)/\∃ c,cl.lookup y=some c))):=by
 obtain ⟨k0,m,z⟩:=UQ h
 have q:=List.all_eq_true.mp hb _ m
 rw [Bool.and_eq_true] at q
 obtain ⟨q1,q2⟩:=q
 refine ⟨by simpa using q1,fun hk=>?_,fun hk=>?_⟩
 ·rcases z with z | ⟨_,z⟩
  ·subst z
   subst hk
   simpa using q2
  ·rw [z] at hk
   cases hk
 ·have hf:k0=.free\/k0=.cell:=by
   rcases z with z | ⟨z,_⟩
   ·subst z
    rcases hk with hk | hk
    ·exact .inr hk
    ·exact .inl hk
   ·exact .inl z
  rcases hf with hf | hf
  ·subst hf
   right
   have q3:((X.env.kindOf y == some .cell||X.env.kindOf y == some .free)&&(cl.lookup y).isSome)=true:=by simpa using q2
   rw [Bool.and_eq_true] at q3
   refine ⟨?_,Option.isSome_iff_exists.mp q3.2⟩
   have:=q3.1
   rw [Bool.or_eq_true] at this
   rcases this with t | t
   ·exact .inl (by simpa using t)
   ·exact .inr (by simpa using t)
  ·exact .inl ⟨k0,m,hf⟩
theorem Wp (hb:ji scope X.env cl own=true) (hcell:∀ y∈scope.names,y.2≠.cell) {y:Str} {k:NameKind} (h:(relabel scope X.env).names.lookup y=some k) (hk:k=.cell\/k=.free) :
  (X.env.kindOf y=some .cell\/X.env.kindOf y=some .free)/\∃ c,cl.lookup y=some c:=by
 rcases (Tt hb h).2.2 hk with ⟨k0,m,e⟩ | q
 ·exact absurd e (hcell _ m)
 ·exact q
theorem Tu (I:zB X pins σ H2 s2) (hk:scope.kind=.function) (hcell:∀ y∈scope.names,y.2≠.cell) (hcap:qD X.env cl) (hb:ji scope X.env cl own=true) (hC:s2.heap.objs.size<=C)
  (hfp:∀ b∈fp,vt X pins H2 b) (hfo:∀ b∈fp,∃ o,s2.heap.get? b=some o):(xS X scope cl own C s2 H2 fp (X.pn++pins)).Ok where
 mod:=I.ok.mod
 kind:=hk
 glob:=I.ok.glob
 blt:=I.ok.blt
 above:=hC
 inj:=fun x y c h1 h2=>I.ok.inj x y c (hcap.get h1) (hcap.get h2)
 has:=fun x hx=>by
  rcases hx with hx | hx
  ·exact (Wp hb hcell (show (relabel scope X.env).names.lookup x=_ from hx) (.inl rfl)).2
  ·exact (Wp hb hcell (show (relabel scope X.env).names.lookup x=_ from hx) (.inr rfl)).2
 cab:=fun x c h=>by cases h
 hd:=I.ok.hd
 frames:=I.ok.frames
 stk:=.inl rfl
 exf:=fun b hx=>⟨by
  obtain ⟨o,e⟩:=hfo b hx
  exact Nat.ne_of_lt (Nat.lt_of_lt_of_le (Heap.lt_size e) hC),fun x c h=>(hfp b hx).2.2.2.2.1 x c (hcap.get h)⟩
 bs:=I.bs
 bsz:=Nat.le_trans I.ok.bsz I.sz
 noex:=fun b o e hx=>by
  rcases (hfp b hx).2.2.2.1 with z | z
  ·exact I.ok.noex b o e z
  ·exact absurd (Nat.lt_of_lt_of_le (Heap.lt_size e) (Nat.le_trans I.ok.bsz z)) (Nat.lt_irrefl _)
 exfs:=fun b hx hz=>by
  rcases List.mem_cons.mp (I.stkSub b hz) with z | z
  ·exact (hfp b hx).2.1 z
  ·exact (hfp b hx).2.2.1 z
 funs:=I.stack
 frf:=I.stkFree
theorem XI {α:Type} {σ:List (Option α)} {n i:Nat} {v:α} (h:(σ++List.replicate n none)[i]?=some (some v)):σ[i]?=some (some v):=by
 by_cases hi:i<σ.length
 ·rw [List.getElem?_append_left hi] at h
  exact h
 ·rw [List.getElem?_append_right (by omega),List.getElem?_replicate] at h
  split at h<;>cases h
theorem O_ {h4:Heap} {m0:Str->Option Value} {dobj:Obj} {tk:Nat} (I:zB X pins σ H2 s2) (hk:scope.kind=.function) (hcell:∀ y∈scope.names,y.2≠.cell) (hcap:qD X.env cl) (hb:ji scope X.env cl own=true)
  (hC:s2.heap.objs.size<=C) (hD:s2.heap.objs.size<=D) (hDC:D≠C) (hfp:∀ b∈fp,vt X pins H2 b) (hfo:∀ b∈fp,∃ o,s2.heap.get? b=some o)
  (keep:∀ b o,s2.heap.get? b=some o->h4.get? b=some o) (ns:h4.Ns C m0) (hd:h4.get? D=some dobj) (hdd:∀ v,dobj.data≠.cell v) :
  zB (xS X scope cl own C s2 H2 fp (X.pn++pins)) [(D,dobj)] (σ++List.replicate own.length none) H2 { s2 with heap:=h4,toks:=tk }:=by
 have nfs:∀ a,s2.heap.objs.size<=a->a ∉ vg X.stack:=fun a ha hz=>by
  rcases List.mem_cons.mp (I.stkSub a hz) with z | z
  ·exact absurd (Nat.lt_of_lt_of_le I.lt ha) (by rw [z]; exact Nat.lt_irrefl _)
  ·exact I.nofs ha z
 refine ⟨Tu I hk hcell hcap hb hC hfp hfo,rfl,I.bare,Un.kept keep,⟨m0,ns,fun i y v e1 e2 e3=>?_⟩,fun x c h=>?_,I.hok.fresh hC,fun x c h=>I.freeC x c (hcap.get h),fun p hp=>?_,I.hok.kept keep,?_⟩
 ·have e2':σ[i]?=some (some v):=XI e2
  have hi:i<X.N.length:=by
   have:=(List.getElem?_eq_some_iff.mp e2').1
   rw [I.len] at this
   exact this
  have e1':(X.N.map (hide own)++own)[i]?=some y:=e1
  rw [List.getElem?_append_left (by simpa using hi),List.getElem?_map] at e1'
  cases en:X.N[i]? with
  | none=>
   rw [en] at e1'
   cases e1'
  | some n=>
   rw [en] at e1'
   have ey:hide own n=y:=Option.some.inj e1'
   have vis:∃ k,(relabel scope X.env).names.lookup y=some k/\(k=.local\/k=.cell\/k=.free):=by
    rcases e3 with z | z | z
    ·exact ⟨_,z,.inl rfl⟩
    ·exact ⟨_,z,.inr (.inl rfl)⟩
    ·exact ⟨_,z,.inr (.inr rfl)⟩
   obtain ⟨k,lk,kk⟩:=vis
   obtain ⟨nd,loc,_⟩:=Tt hb lk
   unfold hide at ey
   by_cases ho:(own.contains n||n == (".0" : Str))=true
   ·rw [if_pos ho] at ey
    exact absurd ey.symm nd
   ·rw [if_neg ho] at ey
    subst ey
    have kk':k=.cell\/k=.free:=by
     rcases kk with z | z
     ·exfalso
      apply ho
      rcases loc z with t | t
      ·rw [t]; rfl
      ·subst t; simp
     ·exact z
    obtain ⟨ok,c,hc⟩:=Wp hb hcell lk kk'
    obtain ⟨m,hn,hl⟩:=I.loc
    obtain ⟨u,r,l⟩:=hl i n v en e2' (.inr ok)
    refine ⟨u,r,.inr ⟨?_,c,hc,?_⟩⟩
    ·rcases kk' with z | z
     ·subst z; exact .inl lk
     ·subst z; exact .inr lk
    ·rcases l with ⟨z,_⟩ | ⟨_,c',hc',z⟩
     ·rcases ok with t | t<;>(rw [t] at z; cases z)
     ·rw [hcap.get hc] at hc'
      cases hc'
      obtain ⟨o,ho',hd'⟩:=z
      exact ⟨o,keep _ _ ho',hd'⟩
 ·obtain ⟨v,o,ho,hd'⟩:=I.cell x c (hcap.get h)
  exact ⟨v,o,keep _ _ ho,hd'⟩
 ·rcases List.mem_append.mp hp with z | z
  ·obtain ⟨e,n,ne,nf,d⟩:=I.pin p z
   refine ⟨keep _ _ e,n,Nat.ne_of_lt (Nat.lt_of_lt_of_le (Heap.lt_size e) hC),fun hz=>?_,d⟩
   rcases List.mem_cons.mp (I.stkSub p.1 hz) with t | t
   ·exact ne t
   ·exact nf t
  ·have e:p=(D,dobj):=by simpa using z
   subst e
   exact ⟨hd,I.hok.fresh hD,hDC,nfs D hD,hdd⟩
 ·show (σ++List.replicate own.length none).length=(X.N.map (hide own)++own).length
  rw [List.length_append,List.length_append,List.length_replicate,List.length_map,I.len]
end
end L2
namespace L2
open PySem PySem.Spec PyProof.Rows
noncomputable def pR (X:Cx) (ifs:List Expr) (tc:TT):Prop:=
 ∀ (pins:List (Addr×Obj)) (s:Shared) (σ:St) (H:Hp) (Q:Bool->Hp->Prop),zB X pins σ H s->tc σ H Q->
  wpAny (model X.prog X.w) X.A (forIn ifs true fun c r=>if r=true then do let ok <- isTrue c X.env (eval c X.env); pure (ForInStep.yield ok) else pure (ForInStep.yield r)) (TP X pins σ Q) X.xe s
noncomputable def NE:TT:=fun _ H Q=>Q true H
theorem EY {X:Cx}:pR X [] NE:=fun _ _ _ H _ I h=>wpAny_tests_nil ⟨H,I,h⟩
theorem EZ {X:Cx} {c:Expr} {t:TT} (h:PT X c t):pR X [c] t:=fun pins s σ H Q I q=>wpAny_tests_one (h pins s σ H Q I q)
section
variable {prog:Program} {w:World} {A:Around} {R:Result->Shared->Prop} {s:Shared}
theorem Bg {elt tg iter:Expr} {ifs:List Expr} {scope:Scope} {pos:Pos} {it acc:Value} {env:Env} (J:Nat->Shared->Prop)
  (turn:∀ n s,J n s->wpAny (model prog w) A (pyNext it) (fun r s₁=>match r with
   | none=>R (.ok .next) s₁
   | some v=>wpAny (model prog w) A (letOwnedTupleGo tg it v) (fun _ z=>wpAny (model prog w) A (assign tg env v) (fun _ s₂=>
    wpAny (model prog w) A (forIn ifs true fun c r=>if r=true then do let ok <- isTrue c env (eval c env); pure (ForInStep.yield ok) else pure (ForInStep.yield r)) (fun ok s₃=>
     if ok=true then wpAny (model prog w) A (eval elt env) (fun x s₄=>wpAny (model prog w) A (call (.builtin "list.append") [acc,x]) (fun _ s₅=>∃ m,m<n/\J m s₅) (fun _ _=>False) s₄) (fun _ _=>False) s₃
     else ∃ m,m<n/\J m s₃) (fun _ _=>False) s₂) (fun _ _=>False) z) (fun _ _=>False) s₁) (fun _ _=>False) s)
  (n:Nat) (h:J n s):codeAny (model prog w) A (.compLoop (.ListComp elt [⟨tg,iter,ifs,0⟩] scope pos) 0 it acc env) R s:=by
 have no:∀ {P:Value->Shared->Prop},∀ e s',(fun _ _=>False:Value->Shared->Prop) e s'->P e s':=fun _ _ z=>z.elim
 refine codeAny_loop rfl J (fun n s hI=>?_) n h
 show wpAny _ A (Sem.onRaise (compTurn (.ListComp elt [⟨tg,iter,ifs,0⟩] scope pos) 0 it acc env) (fun x=>do noteFrame x env; theTreesLotGoes x)) _ _ s
 refine wpAny_noted ?_
 rw [compTurn_list]
 refine wpAny_bind (wpAny_standAt (wpAny_bind (wpAny_mono (turn n s hI) (fun r s₁ h₁=>?_) no)))
 cases r with
 | none=>exact wpAny_pure h₁
 | some v=>
  refine wpAny_bind (wpAny_mono h₁ (fun _ z hz=>?_) no)
  refine wpAny_bind (wpAny_mono hz (fun _ s₂ h₂=>?_) no)
  refine wpAny_bind (wpAny_mono h₂ (fun ok s₃ h₃=>?_) no)
  cases ok with
  | false=>exact wpAny_pure ⟨rfl,h₃⟩
  | true=>
   refine wpAny_bind (wpAny_bind (wpAny_mono h₃ (fun x s₄ h₄=>?_) no))
   exact wpAny_bind (wpAny_mono h₄ (fun _ s₅ h₅=>wpAny_pure (wpAny_pure ⟨rfl,h₅⟩)) no)
end
noncomputable abbrev xw (its:List Value) (k:Nat):Obj:={ cls:=.type "list",data:=.seq its.toArray k }
theorem JG {its:List Value} {k:Nat}:∀ v,(xw its k).data≠.cell v:=fun _ z=>nomatch z
section
variable {X:Cx} {σ:St} {H:Hp} {s:Shared} {D:Addr}
theorem B9 {pl:List (Addr×Obj)} {its its':List Value} {k k' tk:Nat} {h':Heap} (I:zB X ((D,xw its k)::pl) σ H s) (hD:X.s₀.heap.objs.size<=D) (hpn:∀ p∈X.pn,p.1≠D)
  (hs:Heap.SameBut D s.heap h') (hd:h'.get? D=some (xw its' k')):zB X [(D,xw its' k')] σ H { s with heap:=h',toks:=tk }:=by
 obtain ⟨e,n,ne,nf,d⟩:=I.pin (D,xw its k) (List.mem_append_right _ List.mem_cons_self)
 have I0:zB X [] σ H s:=I.pins_of fun p hp=>absurd hp (by simp)
 have I1:zB X [] σ H { s with heap:=h',toks:=tk }:=I0.turned (it:=D) (fun b o hb q=>(hs.2 b hb).trans q) n ne (.inr hD) (fun x c hc z=>by
  subst z
  obtain ⟨v,o,ho,hv⟩:=I.cell x c hc
  rw [show s.heap.get? c=some (xw its k) from e] at ho
  cases ho
  exact d v hv) (fun p hp=>hpn p (by simpa using hp))
 exact I1.pins_of fun p hp=>by
  have q:p=(D,xw its' k'):=by simpa using hp
  subst q
  exact ⟨hd,n,ne,nf,JG⟩
end
section
variable {X:Cx} {tg iter elt:Expr} {ifs:List Expr} {scope:Scope} {cl:List (Str×Addr)} {own:List Str} {pos:Pos} {te:TE} {tc:TT} {g:TG} {wi:TI}
theorem Nh {fs ex:List Addr} {H H':Hp} {h h':Heap} {D:Addr} {o:HO} (u:Un fs ex H H' h h') (hD:h.objs.size<=D) (hn:H' D=none):Un fs ex H (zQ H' D o) h h' where
 keep:=u.keep
 slot:=u.slot
 free:=fun b ob q n hx=>by rw [zw (fun z=>by subst z; exact absurd (Nat.lt_of_lt_of_le (Heap.lt_size q) hD) (Nat.lt_irrefl _))]; exact u.free b ob q n hx
 there:=u.there
 tups:=fun b xs q=>by rw [zw (wb (u.tups b xs q) hn)]; exact u.tups b xs q
 frzs:=fun b ob v q=>by rw [zw (wb (u.frzs b ob v q) hn)]; exact u.frzs b ob v q
 tbls:=fun b ps q=>by
  obtain ⟨more,z⟩:=u.tbls b ps q
  exact ⟨more,by rw [zw (wb z hn)]; exact z⟩
theorem Qr {P:Program} {w:World} {H:Hp} {h:Heap} {D:Addr} {o:HO} (x:ya P w H h) (hn:H D=none) (new:yc P w (zQ H D o) h D o):ya P w (zQ H D o) h:=fun b u e=>by
 by_cases hb:b=D
 ·subst hb
  rw [yK] at e
  cases e
  exact new
 ·rw [zw hb] at e
  refine (x b u e).stay (fun c v _ q=>q) (fun c q=>?_) (fun c xs q=>?_)
  ·rw [zw (wb q hn)]; exact q
  ·rw [zw (wb q hn)]; exact q
structure jH (X:Cx) (scope:Scope) (cl:List (Str×Addr)) (own:List Str):Prop where
 kind:scope.kind=.function
 cell:∀ y∈scope.names,y.2≠.cell
 cap:qD X.env cl
 ok:ji scope X.env cl own=true
 clos:closureFor scope X.env=pure cl
 names:∀ y∈scope.names,y.2=.local->scope.names.lookup y.1=some .local
structure YH (X:Cx) (pins:List (Addr×Obj)) (H:Hp) (s:Shared) (C:Addr):Prop where
 free:H C=none
 ne:C≠X.env.locals
 old:X.s₀.heap.objs.size<=C
 cell:∀ x c,X.env.cells.lookup x=some c->c≠C
 pin:∀ p∈X.pn++pins,p.1≠C
noncomputable def XW (σ:St) (n:Nat) (J:It) (g:TG) (tc:TT) (te:TE) (W:Nat->Nat->List V->Hp->Prop) (Fin:List V->Hp->Prop):Prop:=
 ∀ i m ys H,W i m ys H->(J.stop i H/\Fin ys H)\/(J.go i H/\ys.length<sizeLine/\∃ N:List V->Hp->Prop,(∀ ys' H',N ys' H'->∃ m',m'<m/\W (i+1) m' ys' H')/\
  ∀ x H',J.yld i H x H'->g x (σ++List.replicate n none) H' fun σ2 H3=>(∃ τ,σ2=σ++τ)/\tc σ2 H3 fun c H4=>if c=true then te σ2 H4 fun y H5=>N (ys++[y]) H5 else N ys H4)
theorem Tx {pins:List (Addr×Obj)} {σ:St} {H2:Hp} {s2:Shared} {fp:List Addr} {it:Addr} {tn:Nat->Heap->Prop} {J:It} {W:Nat->Nat->List V->Hp->Prop} {Fin:List V->Hp->Prop} {m0:Nat}
  {RR:Value->Addr->Result->Shared->Prop} (hcalm:X.calm=true) (B:jH X scope cl own) (I:zB X pins σ H2 s2) (T:qP X.prog X.w X.K tg J fp it tn) (t0:tn 0 s2.heap) (hfp:∀ b∈fp,vt X pins H2 b)
  (hg:∀ C s H fp pn,PG (xS X scope cl own C s H fp pn) tg g) (hc:∀ C s H fp pn,pR (xS X scope cl own C s H fp pn) ifs tc) (he:∀ C s H fp pn,PE (xS X scope cl own C s H fp pn) elt te)
  (W0:W 0 m0 [] H2) (turn:XW σ own.length J g tc te W Fin)
  (hRR:∀ D C s' H' ys m',zB X pins σ (zQ H' D (.lst ys)) s'->H' D=none->Fin ys H'->s'.heap.Ns C m'->YH X pins (zQ H' D (.lst ys)) s' C->RR (.ref D) C (.ok .next) s') {E:Value->Shared->Prop} :
  wpAny (model X.prog X.w) X.A (newList []) (fun acc s3=>wpAny (model X.prog X.w) X.A (newFunctionEnv scope X.env.globals cl [] X.env.qual none .none (some X.env)) (fun cenv s4=>
   codeAny (model X.prog X.w) X.A (.compStart (.ListComp elt [⟨tg,iter,ifs,0⟩] scope pos) 0 (.ref it) acc { cenv with scope:=relabel scope X.env }) (RR acc cenv.locals) s4) E s3) E s2:=by
 refine wpAny_newObj_type (wpAny_newFunctionEnv B.cell (by intro y hy; simp at hy) (fun h4 hns hsb=>?_) B.kind)
 dsimp only at hns hsb ⊢
 generalize hP:s2.heap.push (xw [] 0)=P2 at hns hsb ⊢
 have hC:P2.objs.size=s2.heap.objs.size+1:=by rw [<- hP,Heap.size_push]
 have hDC:s2.heap.objs.size≠P2.objs.size:=by rw [hC]; exact Nat.ne_of_lt (Nat.lt_succ_self _)
 have hCle:s2.heap.objs.size<=P2.objs.size:=by rw [hC]; exact Nat.le_succ _
 have keep:∀ b o,s2.heap.get? b=some o->h4.get? b=some o:=fun b o e=>
  hsb.extBut b o (Nat.ne_of_lt (Nat.lt_of_lt_of_le (Heap.lt_size e) hCle)) (Heap.get?_push_of_some _ (hP ▸ Heap.get?_push_of_some _ e))
 have hd4:h4.get? s2.heap.objs.size=some (xw [] 0):=hsb.extBut _ _ hDC (Heap.get?_push_of_some _ (hP ▸ Heap.get?_push_size _ rfl))
 have hfo:∀ b∈fp,∃ o,s2.heap.get? b=some o:=fun b hb=>let ⟨o,e,_⟩:=T.obj 0 _ t0 b hb; ⟨o,e⟩
 have lt:∀ b∈fp,b<s2.heap.objs.size:=fun b hb=>let ⟨o,e⟩:=hfo b hb; Heap.lt_size e
 generalize hDD:s2.heap.objs.size=D at hDC hd4 ⊢
 generalize hCC:P2.objs.size=C at hDC hns hsb hCle ⊢
 have hDle:s2.heap.objs.size<=D:=Nat.le_of_eq hDD
 let X':=xS X scope cl own C s2 H2 fp (X.pn++pins)
 have hpn:∀ p∈X'.pn,p.1≠D:=fun p hp z=>by
  obtain ⟨e,_⟩:=I.pin p hp
  rw [z] at e
  exact absurd (Nat.lt_of_lt_of_le (Heap.lt_size e) hDle) (Nat.lt_irrefl _)
 have okb:=Tu I B.kind B.cell B.cap B.ok hCle hfp hfo
 have fpok:∀ {k:Nat} {its:List Value} {H':Hp},(∀ b∈fp,H' b=none)->∀ b∈fp,vt X' [(D,xw its k)] H' b:=fun {k its H'} hn b hb=>
  ⟨hn b hb,(okb.exf b hb).1,okb.exfs b hb,.inl hb,(okb.exf b hb).2,fun p hp=>by
   rcases List.mem_append.mp hp with z | z
   ·exact (hfp b hb).2.2.2.2.2 p z
   ·have q:p=(D,xw its k):=by simpa using z
    subst q
    exact fun z=>absurd (lt b hb) (by rw [<- z]; exact Nat.not_lt.mpr hDle)⟩
 have loop:∀ s4:Shared,s4={ s2 with heap:=h4,toks:=s2.toks+([]:List (Str×Value)).length }->
   codeAny (model X.prog X.w) X.A (.compLoop (.ListComp elt [⟨tg,iter,ifs,0⟩] scope pos) 0 (.ref it) (.ref D) (compEnvC scope cl C X.env)) (RR (.ref D) C) s4:=by
  rintro s4 rfl
  refine Bg (fun n s'=>∃ (i:Nat) (ys:List V) (its:List Value) (k:Nat) (H':Hp),zB X' [(D,xw its k)] (σ++List.replicate own.length none) H' s'/\zb ys its/\tn i s'.heap/\(∀ b∈fp,H' b=none)/\W i n ys H'/\ys.length<=sizeLine) ?_ m0
   ⟨0,[],[],0,H2,O_ I B.kind B.cell B.cap B.ok hCle hDle hDC hfp hfo keep hns hd4 JG,.nil,T.keep _ _ _ t0 fun b _ o e=>keep b o e,fun b hb=>(hfp b hb).1,W0,Nat.zero_le _⟩
  rintro n s5 ⟨i,ys,its,k,H5,I5,v5,st5,fr5,w5,z5⟩
  rcases turn i n ys H5 w5 with ⟨stop,fin⟩ | ⟨go,room,N,hN,step⟩
  ·refine wpAny_mono (T.done X' rfl rfl rfl hcalm i _ s5 _ H5 (fun _ _=>False) I5 (fpok fr5) st5 stop) (fun r s6 ⟨hr,I6⟩=>?_) fun _ _ z=>z
   subst hr
   obtain ⟨e6,n6,ne6,nf6,d6⟩:=I6.pin (D,xw its k) (List.mem_append_right _ List.mem_cons_self)
   obtain ⟨m6,ns6,_⟩:=I6.loc
   have u6:Un (vg X.stack) fp H2 (zQ H5 D (.lst ys)) s2.heap s6.heap:=Nh I6.base hDle n6
   have new6:yc X.prog X.w (zQ H5 D (.lst ys)) s6.heap D (.lst ys):=⟨z5,its,k,v5,e6⟩
   have I7:zB X pins σ (zQ H5 D (.lst ys)) s6:=I.call' I6.os u6 (Qr I6.hok n6 new6) I6.bare (fun b hb=>⟨(hfp b hb).2.2.2.1,(hfp b hb).2.1,(hfp b hb).2.2.2.2.1,(hfp b hb).2.2.2.2.2⟩)
   refine hRR D C s6 H5 ys m6 I7 n6 fin ns6 ⟨?_,?_,?_,fun x c hcx z=>?_,fun p hp z=>?_⟩
   ·rw [zw (Ne.symm hDC)]; exact I6.free
   ·exact fun z=>absurd I.lt (by rw [<- z]; exact Nat.not_lt.mpr hCle)
   ·exact Nat.le_trans I.sz hCle
   ·subst z
    obtain ⟨v,o,ho,_⟩:=I.cell x c hcx
    exact absurd (Nat.lt_of_lt_of_le (Heap.lt_size ho) hCle) (Nat.lt_irrefl _)
   ·obtain ⟨e,_⟩:=I.pin p hp
    rw [z] at e
    exact absurd (Nat.lt_of_lt_of_le (Heap.lt_size e) hCle) (Nat.lt_irrefl _)
  ·refine wpAny_mono (T.item X' rfl rfl rfl hcalm i _ s5 _ H5 (fun _ _=>False) I5 (fpok fr5) st5 go) (fun r s6 ⟨u,hr,h6⟩=>?_) fun _ _ z=>z
   subst hr
   refine wpAny_mono h6 (fun _ s7 ⟨x,H7,I7,r7,y7,st7,fr7⟩=>?_) fun _ _ z=>z
   have I7':=I7.pinned (fpok fr7) (T.obj _ _ st7)
   refine wpAny_mono (hg C s2 H2 fp _ _ s7 _ H7 x u _ I7' r7 (step x H7 y7)) (fun _ s8 ⟨σ8,H8,I8,⟨τ,hτ⟩,q8⟩=>?_) fun _ _ z=>z
   subst hτ
   have back:∀ {n':Nat} {ys':List V} {its':List Value} {k':Nat} {H9:Hp} {s9:Shared} {pl:List (Addr×Obj)},zB X' ((D,xw its' k')::pl) (σ++τ) H9 s9->zb ys' its'->tn (i+1) s9.heap->(∀ b∈fp,H9 b=none)->W (i+1) n' ys' H9->ys'.length<=sizeLine->
     ∃ (i:Nat) (ys:List V) (its:List Value) (k:Nat) (H':Hp),zB X' [(D,xw its k)] (σ++List.replicate own.length none) H' s9/\zb ys its/\tn i s9.heap/\(∀ b∈fp,H' b=none)/\W i n' ys H'/\ys.length<=sizeLine:=fun {n' ys' its' k' H9 s9 pl} I9 v9 st9 fr9 w9 z9=>by
    have I9':zB X' [(D,xw its' k')] (σ++τ) H9 s9:=I9.pins_of fun p hp=>I9.pin p (List.mem_append_right _ (by
     have q:p=(D,xw its' k'):=by simpa using hp
     subst q
     exact List.mem_cons_self))
    refine ⟨i+1,ys',its',k',H9,I9'.weak ?_ (fun j v e=>?_),v9,st9,fr9,w9,z9⟩
    ·rw [I9'.len,<- I5.len]
    ·have e':=XI e
     rw [List.getElem?_append_left (List.getElem?_eq_some_iff.mp e').1]
     exact e'
   have keepIt:∀ {σ9:St} {H9:Hp} {s9:Shared},zB X' ([(D,xw its k)]++kf fp s7.heap) σ9 H9 s9->tn (i+1) s9.heap/\∀ b∈fp,H9 b=none:=fun {σ9 H9 s9} I9=>
    ⟨T.keep _ _ _ st7 fun b hb o e=>(I9.pin (b,o) (List.mem_append_right _ (List.mem_append_right _ (Xd hb e)))).1,fun b hb=>by
     obtain ⟨o,e,_⟩:=T.obj _ _ st7 b hb
     exact (I9.pin (b,o) (List.mem_append_right _ (List.mem_append_right _ (Xd hb e)))).2.1⟩
   refine wpAny_mono (hc C s2 H2 fp _ _ s8 _ H8 _ I8 q8) (fun c s9 ⟨H9,I9,q9⟩=>?_) fun _ _ z=>z
   cases c with
   | false=>
    rw [if_neg Bool.false_ne_true] at q9 ⊢
    obtain ⟨m',hm,w9⟩:=hN _ _ q9
    exact ⟨m',hm,back I9 v5 (keepIt I9).1 (keepIt I9).2 w9 z5⟩
   | true=>
    rw [if_pos rfl] at q9 ⊢
    refine wpAny_mono (he C s2 H2 fp _ _ s9 _ H9 _ I9 q9) (fun yv sa ⟨y,Ha,Ia,ra,qa⟩=>?_) fun _ _ z=>z
    obtain ⟨m',hm,wa⟩:=hN _ _ qa
    obtain ⟨ea,na,_⟩:=Ia.pin (D,xw its k) (List.mem_append_right _ (List.mem_append_left _ List.mem_cons_self))
    have szi:its.toArray.size<=sizeLine:=by
     have:=v5.length
     simp only [List.size_toArray]
     omega
    refine wpAny_list_append_plain (hsz:=szi) ⟨k,ea⟩ fun hb hlb hsb'=>?_
    obtain ⟨kb,eb⟩:=hlb
    have eb':hb.get? D=some (xw (its++[yv]) kb):=by rw [eb]; simp
    have Ib:zB X' [(D,xw (its++[yv]) kb)] (σ++τ) Ha { sa with heap:=hb,toks:=sa.toks }:=B9 (tk:=sa.toks) Ia hDle hpn hsb' eb'
    have stb:tn (i+1) hb:=T.keep _ _ _ (keepIt Ia).1 fun b hbf o e=>(hsb'.2 b (fun z=>absurd (lt b hbf) (by rw [z]; exact Nat.not_lt.mpr hDle))).trans e
    exact ⟨m',hm,back Ib (zb.append v5 (.cons ra .nil)) stb (keepIt Ia).2 wa (by rw [List.length_append]; exact room)⟩
 exact codeAny_compStart_list (loop _ rfl) (T.self X.A 0 _ _ _ (T.keep _ _ _ t0 fun b _ o e=>keep b o e) (loop _ rfl))
noncomputable def K_ (n:Nat) (wi:TI) (g:TG) (tc:TT) (te:TE):TE:=fun σ H Q=>wi σ H fun J H1=>∃ W:Nat->Nat->List V->Hp->Prop,(∃ m,W 0 m [] H1)/\
 XW σ n J g tc te W fun ys H'=>∀ p,H' p=none->Q (.ref p) (zQ H' p (.lst ys))
theorem YH.inv {pins:List (Addr×Obj)} {σ:St} {H:Hp} {s:Shared} {C:Addr} {h':Heap} (o:YH X pins H s C) (I:zB X pins σ H s) (hs:Heap.SameBut C s.heap h'):zB X pins σ H { s with heap:=h' }:=
 I.turned (it:=C) (t':=s.toks) (fun b u hb q=>(hs.2 b hb).trans q) o.free o.ne (.inr o.old) o.cell o.pin
theorem Cs (hcalm:X.calm=true) (B:jH X scope cl own) (hi:PI X tg iter wi) (hg:∀ C s H fp pn,PG (xS X scope cl own C s H fp pn) tg g) (hc:∀ C s H fp pn,pR (xS X scope cl own C s H fp pn) ifs tc)
  (he:∀ C s H fp pn,PE (xS X scope cl own C s H fp pn) elt te) (hs:∀ x,foldedSetIterable iter X.env x=pure x:=by intro _; rfl) :
  PE X (.ListComp elt [⟨tg,iter,ifs,0⟩] scope pos) (K_ own.length wi g tc te):=by
 intro pins s σ H Q I h
 rw [eval_ListComp]
 refine wpAny_comprehension_free (use:=none) rfl hs B.clos B.kind B.names (za (hi pins s σ H _ I h) fun v s1 h1=>za h1 fun itv s2 h2=>?_)
 obtain ⟨it,fp,tn,J,H2,e,I2,T,st2,f2,W,⟨m0,w0⟩,turn⟩:=h2
 subst e
 refine Tx (RR:=fun acc C=>compPost (model X.prog X.w) X.A X.xe none (EP X pins σ Q) acc C) hcalm B I2 T st2 f2 hg hc he w0 turn ?_
 intro D C s' H' ys m' I' n' fin ns' off
 exact ⟨m',ns',fun h' hs'=>⟨.ref D,zQ H' D (.lst ys),off.inv I' hs',rfl,fin D n'⟩⟩
noncomputable def NA (i n:Nat) (wi:TI) (g:TG) (tc:TT) (te:TE):TS:=fun D σ H=>wi σ H fun J H1=>∃ W:Nat->Nat->List V->Hp->Prop,(∃ m,W 0 m [] H1)/\
 XW σ n J g tc te W fun ys H'=>∀ p,H' p=none->D.nx (σ.set i (some (.ref p))) (zQ H' p (.lst ys))
theorem EU {i:Nat} {x:Str} {px spos:Pos} (hcalm:X.calm=true) (hN:X.N.Nodup) (hix:X.N[i]?=some x) (hx:X.env.scope.names.lookup x=some .local) (B:jH X scope cl own)
  (hsw:swapsWith (.ListComp elt [⟨tg,iter,ifs,0⟩] scope pos) (some (.Name x px)) spos.line X.env=pure true) (hi:PI X tg iter wi)
  (hg:∀ C s H fp pn,PG (xS X scope cl own C s H fp pn) tg g) (hc:∀ C s H fp pn,pR (xS X scope cl own C s H fp pn) ifs tc) (he:∀ C s H fp pn,PE (xS X scope cl own C s H fp pn) elt te)
  (hs:∀ x,foldedSetIterable iter X.env x=pure x:=by intro _; rfl) :
  PS X (.Assign [.Name x px] (.ListComp elt [⟨tg,iter,ifs,0⟩] scope pos) spos) (NA i own.length wi g tc te):=by
 intro pins s σ H D I h
 rw [exec_Assign_Name_used _ _ _ _ hsw]
 refine wpAny_bind (wpAny_standAt (wpAny_bind ?_))
 show wpAny _ X.A (do let _ <- comprehension (.ListComp elt [⟨tg,iter,ifs,0⟩] scope pos) scope X.env _ (newList []) false (eval iter X.env) (some (assign (.Name x px) X.env))) _ _ s
 refine wpAny_bind (za (wpAny_comprehension_free (use:=some (assign (.Name x px) X.env)) (Q:=fun _ s'=>SP X pins D .next s') rfl hs B.clos B.kind B.names
  (za (hi pins s σ H _ I h) fun v s1 h1=>za h1 fun itv s2 h2=>?_)) fun _ s' hq=>wpAny_pure (wpAny_pure hq))
 obtain ⟨it,fp,tn,J,H2,e,I2,T,st2,f2,W,⟨m0,w0⟩,turn⟩:=h2
 subst e
 refine Tx (RR:=fun acc C=>compPost (model X.prog X.w) X.A X.xe (some (assign (.Name x px) X.env)) (fun _ s'=>SP X pins D .next s') acc C) hcalm B I2 T st2 f2 hg hc he w0 turn ?_
 intro L C s' H' ys m' I' n' fin ns' off
 show wpAny _ X.A (assign (.Name x px) X.env (.ref L)) _ _ s'
 refine wpAny_assign_Name (O5 I' hN hix (.inl hx) (v:=.ref L) rfl (fun s3 I3 q3=>?_) (.inr hx))
 obtain ⟨a,hsa,ha⟩:=q3
 have hCa:C≠a:=by
  rcases ha with z | z
  ·rw [z]; exact off.ne
  ·exact fun y=>off.cell x a z y.symm
 refine ⟨m',ns'.sameBut hsa hCa,fun h' hs'=>?_⟩
 exact ⟨_,_,YH.inv (H:=zQ H' L (.lst ys)) ⟨off.free,off.ne,off.old,off.cell,off.pin⟩ I3 hs',fin L n'⟩
end
end L2
namespace L2
open PySem PySem.Spec PyProof.Rows
structure QE (X:Cx) (e:Expr) (t:TE):Prop where
 h:PE X e t
structure QA (X:Cx) (es:List Expr) (t:TA):Prop where
 h:PA X es t
structure QS (X:Cx) (st:Stmt) (t:TS):Prop where
 h:PS X st t
structure QG (X:Cx) (e:Expr) (t:TG):Prop where
 h:PG X e t
structure YI (X:Cx) (es:List Expr) (t:ul):Prop where
 h:gb X es t
structure QI (X:Cx) (tg e:Expr) (t:TI):Prop where
 h:PI X tg e t
section
variable {X:Cx} {x y:Str} {p pos pos' apos cpos p2:Pos} {e a b c o tg iter elt:Expr} {es zc:List Expr} {te ta tb tc to:TE} {t:TA} {tA tB':TT} {r r':R2} {v:V} {T id:String} {ps:List Str} {j k i:Nat} {sp:Sp}
theorem qv (i:Nat) {x:Str} {pos:Pos} (hN:X.N[i]?=some x:=by rfl) (hv:tJ X.env.scope x:=by first | exact Or.inl rfl | exact Or.inr (Or.inl rfl) | exact Or.inr (Or.inr rfl)) (hd:(x == ("__debug__" : Str))=false:=by decide)
  (hcd:(x == ("__classdict__" : Str))=false:=by decide):QE X (.Name x pos) (W1 i):=⟨gF hN hv hd hcd⟩
theorem Ek (hg:Gl X x) (hm:X.mg x=none) (hv:bootBuiltins x=some (.type T)) (hn:x ≠ "__name__" := by decide) (hd:(x == ("__debug__" : Str))=false:=by decide):QE X (.Name x pos) (tC (.ty T)):=⟨Ch hg hm hv hn hd⟩
noncomputable def Jm:Expr->Bool
 | .Name ..=>true
 | .Call ..=>true
 | .Subscript ..=>true
 | .Attribute ..=>true
 | .Constant ..=>true
 | .List ..=>true
 | .Tuple ..=>true
 | .BinOp ..=>true
 | _=>false
theorem EK {e:Expr} {env:Env} (h:Jm e=true):∀ whole,isTrue e env whole=(do let v <- whole; standAt e.pos; holding [v] (truthy v)):=by
 cases e<;>first | (intro _; rfl) | cases h
theorem Ei:QA X [] Y1:=⟨kY⟩
theorem IF (ha:QE X e te) (hr:QA X es t) (h:yT e=true:=by rfl):QA X (e::es) (Ul te t):=⟨j6 ha.h hr.h h⟩
noncomputable def gH:Expr->Bool
 | .Name ..=>true
 | .Constant ..=>true
 | .BinOp ..=>true
 | .Call ..=>true
 | .UnaryOp ..=>true
 | .Subscript ..=>true
 | .Attribute ..=>true
 | _=>false
theorem UA {b:Expr} (h:gH b=true):TF b:=by
 cases b<;>first | (intro _ _; rfl) | cases h
theorem Xl {r:List V->Hp->VK->Prop} (hc:xC X (.builtin id) r) (hg:Gl X x) (hm:X.mg x=none) (hv:bootBuiltins x=some (.builtin id)) (ha:QA X (e::es) t) (hn:x ≠ "__name__" := by decide) (hdb:(x == ("__debug__" : Str))=false:=by decide)
  (he:(e::es).all yT=true:=by rfl):QE X (.Call (.Name x p) (e::es) [] pos) (Xx r t):=by
 rw [List.all_cons,Bool.and_eq_true] at he
 exact ⟨Cj hc hg hm hv ha.h hn hdb (vG he.1) (qq he.2)⟩
theorem gJ {r:List V->Hp->VK->Prop} (hc:xC X (.type T) r) (hg:Gl X x) (hm:X.mg x=none) (hv:bootBuiltins x=some (.type T)) (ha:QA X (e::es) t) (hn:x ≠ "__name__" := by decide) (hdb:(x == ("__debug__" : Str))=false:=by decide)
  (he:(e::es).all yT=true:=by rfl):QE X (.Call (.Name x p) (e::es) [] pos) (Xx r t):=by
 rw [List.all_cons,Bool.and_eq_true] at he
 exact ⟨Cl hc hg hm hv ha.h hn hdb (vG he.1) (qq he.2)⟩
variable {st:Stmt} {sts body:List Stmt} {ts us tbs:TS} {g:TG} {wi:TI}
noncomputable def j_:Expr->Bool
 | .ListComp ..=>false
 | .SetComp ..=>false
 | .DictComp ..=>false
 | _=>true
theorem JN {e:Expr} {tgt:Option Expr} {n:Nat} {env:Env} (h:j_ e=true):swapsWith e tgt n env=pure false:=by
 cases e<;>first | rfl | cases h
theorem Em (he:QE X e te) (hs:j_ e=true:=by rfl):QS X (.Expr e pos) (O9 te):=⟨Jr he.h (JN hs)⟩
theorem UJ {i:Nat} {x:Str} {pos':Pos} (hN:X.N.Nodup) (hi:X.N[i]?=some x) (hx:uO X.env.scope x) (he:QE X e te) (hs:j_ e=true:=by rfl) (hf:X.fn x=true\/X.env.scope.names.lookup x=some .local:=by first | exact .inl rfl | exact .inr rfl | assumption) :
  QS X (.Assign [.Name x pos'] e pos) (Uj te (wY i)):=⟨ET hN hi hx he.h (JN hs) hf⟩
theorem yo {i:Nat} {x:Str} (hN:X.N.Nodup) (hi:X.N[i]?=some x) (hx:uO X.env.scope x) (hf:X.fn x=true\/X.env.scope.names.lookup x=some .local:=by first | exact .inl rfl | exact .inr rfl | assumption):QG X (.Name x pos) (wY i):=⟨E4 hN hi hx hf⟩
theorem IG {o i:Expr} {to ti:TE} {t:YJ} (ho:QE X o to) (hi:QE X i ti) (hs:WU X t) (hp:gH i=true:=by rfl):QG X (.Subscript o i pos) (Qh to ti t):=by
 refine ⟨E5 ho.h hi.h hs ?_⟩
 cases i<;>first | (intro _; rfl) | cases hp
theorem gL:YI X [] jo:=⟨E8⟩
theorem uG {t:TG} {u:ul} (h1:QG X e t) (h2:YI X es u) (hs:(assignEach (e::es) X.env).map (·.2)=assign e X.env::(assignEach es X.env).map (·.2):=by rfl):YI X (e::es) (ut t u):=⟨E7 h1.h h2.h hs⟩
theorem gK {k:Nat} {t:ul} {n:Nat} (hc:X.calm=true) (h:YI X es t) (hn:(assignEach es X.env).length=n:=by rfl) (hst:(assignEach es X.env).findIdx? (·.1)=none:=by rfl):QG X (.Tuple es k pos) (jp X.K n t):=⟨E6 hc h.h hn hst⟩
variable {ifs:List Expr} {scope:Scope} {cl:List (Str×Addr)} {own:List Str} {tcc:TT}
variable {name:Str} {rm:V->List V->Hp->VK->Prop}
theorem O3 {env:Env} {pos:Pos}:∀ {es:List Expr},es.all yT=true->(backTo pos (starEach es env)).all (fun x=>!x.1)=true
 | [],_=>rfl
 | e::es,h=>by
  rw [List.all_cons,Bool.and_eq_true] at h
  rw [vG h.1]
  have ih:=O3 (env:=env) (pos:=pos) h.2
  unfold backTo at ih ⊢
  rw [List.map_cons,List.all_cons,ih]
  rfl
theorem Ej (pa:PlainAttrs T) (slot:Slot T name id) (hty:typeOf (.builtin id)=pure (.type "method_descriptor")) (hm:T8 X id rm) (ho:QE X o to) (ha:QA X (e::es) t)
  (hbase:attributeBase o name X.env (eval o X.env)=eval o X.env:=by rfl) (hline:(apos.endLine == cpos.line)=true:=by rfl) (he:(e::es).all yT=true:=by rfl) (hl:(e::es).length<30:=by decide) :
  QE X (.Call (.Attribute o name apos) (e::es) [] cpos) (O8 X.K T rm to t):=⟨by
 have ha':=O3 (env:=X.env) (pos:=cpos) he
 rw [List.all_cons,Bool.and_eq_true] at he
 refine Cg pa slot hty hm ho.h ha.h hbase ?_ hline (vG he.1) (qq he.2)
 rw [ha']
 show (true&&true&&decide ((e::es).length+0+0<30))=true
 rw [decide_eq_true (show (e::es).length+0+0<30 from hl)]
 rfl⟩
end
section
variable {P:Program} {w:World} {K:PySem.W.Frag} {mg:Str->Option Value} {base:Heap}
end
end L2
namespace L2
open PySem PySem.Spec PyProof.Rows
noncomputable def TK (K:PySem.W.Frag) (H:Hp) (a c:Addr) (xs ys:List V):Prop:=(yQ K H a xs/\yQ K H c ys)\/(yB K H a xs/\yB K H c ys)
section
variable {X:Cx} {pins:List (Addr×Obj)} {σ:St} {H:Hp} {s:Shared}
theorem E_ {A:Around} {a c:Addr} {xs ys:List V} {e:Nat->Bool} (I:zB X pins σ H s) (hu:A.units<cLine) (hq:TK X.K H a c xs ys)
  (he:∀ (j:Nat) x' y' u v,xs[j]?=some x'->ys[j]?=some y'->zX x' u->zX y' v->SeqAt.EqAt A.in1 s u v (e j)) :
  SeqAt.RcAt A s (.ref a) (.ref c) ((List.range (min xs.length ys.length)).all e&&xs.length == ys.length)/\SeqAt.RcNeAt A s (.ref a) (.ref c) (!((List.range (min xs.length ys.length)).all e&&xs.length == ys.length)):=by
 have get:∀ {zs:List V} {us:List Value} {j:Nat} (hj:j<us.toArray.size),zb zs us->∃ z,zs[j]?=some z/\zX z us.toArray[j]:=fun {zs us j} hj r=>by
  have hl:=r.length
  have hj':j<zs.length:=by
   rw [List.size_toArray] at hj
   omega
  obtain ⟨u,hu',ru⟩:=r.get (List.getElem?_eq_getElem hj')
  refine ⟨_,List.getElem?_eq_getElem hj',?_⟩
  have:us.toArray[j]=u:=by
   have h2:us[j]?=some us[j]:=List.getElem?_eq_getElem (by omega)
   rw [h2] at hu'
   simpa using hu'
  rw [this]
  exact ru
 rcases hq with ⟨ha,hc⟩ | ⟨ha,hc⟩
 ·obtain ⟨us,ra,pa,_⟩:=I.tuple ha
  obtain ⟨vs,rc,pc,_⟩:=I.tuple hc
  have h1:=ra.length
  have h2:=rc.length
  have key:∀ j (k1:j<us.toArray.size) (k2:j<vs.toArray.size),SeqAt.EqAt A.in1 s us.toArray[j] vs.toArray[j] (e j):=fun j k1 k2=>by
   obtain ⟨z1,e1,r1⟩:=get k1 ra
   obtain ⟨z2,e2,r2⟩:=get k2 rc
   exact he j z1 z2 _ _ e1 e2 r1 r2
  have p:=SeqAt.RcAt.tuples (e:=e) pa pc hu key
  have q:=SeqAt.RcNeAt.tuples (e:=e) pa pc hu key
  rw [List.size_toArray,List.size_toArray,<- h1,<- h2] at p q
  exact ⟨p,q⟩
 ·obtain ⟨us,ra,pa,_⟩:=I.list ha
  obtain ⟨vs,rc,pc,_⟩:=I.list hc
  have h1:=ra.length
  have h2:=rc.length
  have key:∀ j (k1:j<us.toArray.size) (k2:j<vs.toArray.size),SeqAt.EqAt A.in1 s us.toArray[j] vs.toArray[j] (e j):=fun j k1 k2=>by
   obtain ⟨z1,e1,r1⟩:=get k1 ra
   obtain ⟨z2,e2,r2⟩:=get k2 rc
   exact he j z1 z2 _ _ e1 e2 r1 r2
  by_cases hl:xs.length=ys.length
  ·have hs:us.toArray.size=vs.toArray.size:=by rw [List.size_toArray,List.size_toArray]; omega
   have p:=SeqAt.RcAt.lists (e:=e) pa.isList pc.isList hs hu key
   have q:=SeqAt.RcNeAt.lists (e:=e) pa.isList pc.isList hs hu key
   have e1:min xs.length ys.length=us.toArray.size:=by rw [List.size_toArray]; omega
   have e2:(xs.length == ys.length)=true:=by simp [hl]
   rw [e1,e2,Bool.and_true]
   exact ⟨p,q⟩
  ·have hs:(us.toArray.size != vs.toArray.size)=true:=by
    rw [List.size_toArray,List.size_toArray]
    simp
    omega
   have e2:(xs.length == ys.length)=false:=by simp [hl]
   rw [e2,Bool.and_false]
   exact ⟨SeqAt.RcAt.lists_lengths pa.isList pc.isList hs hu,SeqAt.RcNeAt.lists_lengths pa.isList pc.isList hs hu⟩
theorem XN (A:Around):A.in1.units=A.units+1:=rfl
end
theorem Lo {x:V} (h:uU x=true):u7 x x=true:=by
 cases x<;>first | rfl | (simp [u7]; done) | cases h
end L2
namespace L2
open PySem PySem.Spec PyProof.Rows
open PySem.W (hideAll)
section
variable {P:Program} {w:World} {l:List Env} {H H':Hp} {h B h' h'':Heap}
end
section
variable {X:Cx} {pins:List (Addr×Obj)} {σ:St} {H H':Hp} {s:Shared} {B h':Heap}
variable {x:Str} {C:Addr} {np cpos pos:Pos} {e:Expr} {es:List Expr} {t:TA} {E:XK}
end
section
variable {P:Program} {w:World} {K:PySem.W.Frag} {mg:Str->Option Value} {base:Heap} {N:List Str} {qual:Str} {scope:Scope} {f:Addr} {cd:Value} {A:Around} {outer:List Env} {s₀:Shared} {H₀:Hp} {E:XK}
end
section
variable {X:Cx} {x:Str} {np cpos pos p:Pos} {e:Expr} {es:List Expr} {t:TA} {E:XK} {C:Addr} {ps:List Str} {j k:Nat} {sp:Sp}
end
end L2
namespace L2
open PySem PySem.Spec PyProof.Rows
section
variable {X:Cx} {pins:List (Addr×Obj)} {σ:St} {H H':Hp} {s:Shared} {a C:Addr}
noncomputable def OW (a C:Addr) (h:Heap):Prop:=∃ o vs,h.get? a=some o/\o.cls=.ref C/\o.data=.fields vs
theorem Ni {fs ex:List Addr} {H H':Hp} {h h':Heap} {D:Addr} {o:HO} (u:Un fs ex H H' h h') (hD:h.get? D=none) (hn:H' D=none):Un fs ex H (zQ H' D o) h h' where
 keep:=u.keep
 slot:=u.slot
 free:=fun b ob q n hx=>by rw [zw (fun z=>by subst z; rw [hD] at q; cases q)]; exact u.free b ob q n hx
 there:=u.there
 tups:=fun b xs q=>by rw [zw (wb (u.tups b xs q) hn)]; exact u.tups b xs q
 frzs:=fun b ob v q=>by rw [zw (wb (u.frzs b ob v q) hn)]; exact u.frzs b ob v q
 tbls:=fun b ps q=>by
  obtain ⟨more,z⟩:=u.tbls b ps q
  exact ⟨more,by rw [zw (wb z hn)]; exact z⟩
end
section
variable {X:Cx} {x n:Str} {p pos np hpos tpos:Pos} {e e1 e2:Expr} {es:List Expr} {ta:TA} {te:TE} {tx:TX} {ps:List Str} {j k i:Nat} {sp:Sp} {E:XK} {D:Addr}
variable {suite:List Stmt} {ts:TS} {b₀:Stmt}
end
end L2
namespace L2
open PySem PySem.Spec PyProof.Rows
section
variable {X:Cx} {x:Str} {p pos:Pos} {e:Expr} {es:List Expr} {t:TA} {ps:List Str} {j k:Nat} {sp:Sp}
end
end L2
namespace L2
open PySem PySem.Spec PyProof.Rows
section
variable {X:Cx} {e e1 e2:Expr} {es:List Expr} {te:TE} {t:TJ} {pos:Pos}
end
end L2
namespace L2
open PySem PySem.Spec PyProof.Rows
open PySem.W (Looks findIn mroIn looks_findIn looks_mroIn clsIn)
section
variable {prog:Program} {w:World} {A:Around} {E:Value->Shared->Prop} {h:Heap} {g:Array GenState} {d:Drawn} {t:Nat} {os:OsState} {a C:Addr} {o:Obj} {K:PySem.W.Frag}
end
end L2
namespace L2
open PySem PySem.Spec PyProof.Rows
section
variable {X:Cx}
theorem OK {ns:List Int} {its:List Value} (r:zb (ns.map V.int) its) {i:Nat} {v:Value} (h:its.toArray[i]?=some v):∃ t,v=.int (ns.getD i 0) t:=by
 have hi:i<its.length:=by
  rw [List.getElem?_toArray] at h
  exact (List.getElem?_eq_some_iff.mp h).1
 have hl:ns.length=its.length:=by have:=r.length; rw [List.length_map] at this; exact this
 have hx:(ns.map V.int)[i]?=some (.int (ns.getD i 0)):=by
  rw [List.getElem?_map,List.getD_eq_getElem?_getD,List.getElem?_eq_getElem (by omega)]
  rfl
 obtain ⟨u,hu,ru⟩:=r.get hx
 rw [List.getElem?_toArray,hu] at h
 cases h
 exact ru
theorem UB {ns:List Int}:∀ (k:Nat),k<=ns.length->preSum (fun i=>ns.getD i 0) k=(ns.take k).sum
 | 0,_=>by simp [preSum]
 | k+1,h=>by
  rw [preSum,UB k (by omega),List.take_succ_eq_append_getElem (by omega),List.sum_append,List.getD_eq_getElem?_getD,List.getElem?_eq_getElem (by omega)]
  show _+ns[k]=_+(ns[k]+0)
  rw [Int.add_zero]
noncomputable def TL (ns:List Int):Prop:=(∀ n∈ns,InLong n)/\∀ k,k<=ns.length->InLong (ns.take k).sum
noncomputable def IR (K:PySem.W.Frag):List V->Hp->VK->Prop:=fun xs H Q=>∃ (p:Addr) (ns:List Int),xs=[.ref p]/\(yB K H p (ns.map V.int)\/yQ K H p (ns.map V.int))/\TL ns/\Q (.int ns.sum) H
theorem O6 {ns:List Int} (h:TL ns):∀ j,j<ns.length->InLong (ns.getD j 0)/\InLong (preSum (fun i=>ns.getD i 0) (j+1)):=fun j hj=>by
 refine ⟨h.1 _ ?_,?_⟩
 ·rw [List.getD_eq_getElem?_getD,List.getElem?_eq_getElem hj]
  exact List.getElem_mem hj
 ·rw [UB _ (by omega)]
  exact h.2 _ (by omega)
theorem LT (hc:X.calm=true):xC X (.builtin "sum") (IR X.K):=by
 intro pins s σ H xs us Q I r h
 obtain ⟨p,ns,rfl,hq,hok,q⟩:=h
 obtain ⟨u,rfl,rx⟩:=wq r
 cases rx
 have hd:=I.ok.hd hc
 have e:preSum (fun i=>ns.getD i 0) ns.length=ns.sum:=by rw [UB _ (Nat.le_refl _),List.take_length]
 refine call_sum_walk ?_
 rcases hq with hq | hq
 ·obtain ⟨its,rv,pl,hz⟩:=I.list hq
  have hl:ns.length=its.toArray.size:=by have:=rv.length; rw [List.length_map] at this; rw [List.size_toArray]; exact this
  have hlt:p<s.heap.objs.size:=by obtain ⟨o,n,e,_⟩:=pl; exact Heap.lt_size e
  refine wpAny_pyIter_list pl.isList ?_
  refine ⟨_,_,_,_,_,_,fun i=>ns.getD i 0,rfl,Walks.list (by exact hd) s.heap.objs.size p (Nat.ne_of_lt hlt) its.toArray,⟨⟨_,Heap.get?_push_size _ rfl,rfl,rfl⟩,pl.isList.push _⟩,?_,fun i v hv=>OK rv hv,?_,?_⟩
  ·intro b hb
   show b<(s.heap.push _).objs.size
   rw [Heap.size_push]
   simp only [List.mem_cons,List.not_mem_nil,or_false] at hb
   rcases hb with rfl | rfl
   ·exact Nat.lt_succ_self _
   ·exact Nat.lt_succ_of_lt hlt
  ·rw [<- hl]
   exact O6 hok
  ·intro h' tk t' k
   rw [<- hl,e]
   exact ⟨.int ns.sum,H,I.kept (t':=tk) fun b o eb=>k b o (fun z=>by
    have:b=s.heap.objs.size:=by simpa using z
    rw [this] at eb
    exact absurd (Heap.lt_size eb) (Nat.lt_irrefl _)) (Heap.get?_push_of_some _ eb),⟨_,rfl⟩,q⟩
 ·obtain ⟨its,rv,pl,hz⟩:=I.tuple hq
  have hl:ns.length=its.toArray.size:=by have:=rv.length; rw [List.length_map] at this; rw [List.size_toArray]; exact this
  have plT:s.heap.IsTuple p its.toArray:=pl
  have hlt:p<s.heap.objs.size:=by obtain ⟨o,e,_⟩:=plT; exact Heap.lt_size e
  refine wpAny_pyIter_tuple plT ?_
  refine ⟨_,_,_,_,_,_,fun i=>ns.getD i 0,rfl,Walks.tuple (by exact hd) s.heap.objs.size p (Nat.ne_of_lt hlt) its.toArray,⟨⟨_,Heap.get?_push_size _ rfl,rfl,rfl⟩,plT.push _⟩,?_,fun i v hv=>OK rv hv,?_,?_⟩
  ·intro b hb
   show b<(s.heap.push _).objs.size
   rw [Heap.size_push]
   simp only [List.mem_cons,List.not_mem_nil,or_false] at hb
   rcases hb with rfl | rfl
   ·exact Nat.lt_succ_self _
   ·exact Nat.lt_succ_of_lt hlt
  ·rw [<- hl]
   exact O6 hok
  ·intro h' tk t' k
   rw [<- hl,e]
   exact ⟨.int ns.sum,H,I.kept (t':=tk) fun b o eb=>k b o (fun z=>by
    have:b=s.heap.objs.size:=by simpa using z
    rw [this] at eb
    exact absurd (Heap.lt_size eb) (Nat.lt_irrefl _)) (Heap.get?_push_of_some _ eb),⟨_,rfl⟩,q⟩
theorem Nl {bs:List Bool} {its:List Value} (r:zb (bs.map V.bl) its) {i:Nat} {v:Value} (h:its.toArray[i]?=some v):v=.bool (bs.getD i false):=by
 have hi:i<its.length:=by
  rw [List.getElem?_toArray] at h
  exact (List.getElem?_eq_some_iff.mp h).1
 have hl:bs.length=its.length:=by have:=r.length; rw [List.length_map] at this; exact this
 have hx:(bs.map V.bl)[i]?=some (.bl (bs.getD i false)):=by
  rw [List.getElem?_map,List.getD_eq_getElem?_getD,List.getElem?_eq_getElem (by omega)]
  rfl
 obtain ⟨u,hu,ru⟩:=r.get hx
 rw [List.getElem?_toArray,hu] at h
 cases h
 exact ru
theorem Ey {bs:List Bool}:(List.range bs.length).all (fun i=>bs.getD i false)=bs.all id:=by
 rw [Bool.eq_iff_iff,List.all_eq_true,List.all_eq_true]
 constructor
 ·intro h b hb
  obtain ⟨i,hi,rfl⟩:=List.mem_iff_getElem.mp hb
  have:=h i (List.mem_range.mpr hi)
  rwa [List.getD_eq_getElem?_getD,List.getElem?_eq_getElem hi] at this
 ·intro h i hi
  have hi':=List.mem_range.mp hi
  rw [List.getD_eq_getElem?_getD,List.getElem?_eq_getElem hi']
  exact h _ (List.getElem_mem hi')
noncomputable def II (K:PySem.W.Frag):List V->Hp->VK->Prop:=fun xs H Q=>∃ (p:Addr) (bs:List Bool),xs=[.ref p]/\yB K H p (bs.map V.bl)/\Q (.bl (bs.all id)) H
theorem LF (hc:X.calm=true):xC X (.builtin "all") (II X.K):=by
 intro pins s σ H xs us Q I r h
 obtain ⟨p,bs,rfl,hq,q⟩:=h
 obtain ⟨u,rfl,rx⟩:=wq r
 cases rx
 have hd:=I.ok.hd hc
 refine call_all_walk ?_
 obtain ⟨its,rv,pl,hz⟩:=I.list hq
 have hl:bs.length=its.toArray.size:=by have:=rv.length; rw [List.length_map] at this; rw [List.size_toArray]; exact this
 have hlt:p<s.heap.objs.size:=by obtain ⟨o,n,e,_⟩:=pl; exact Heap.lt_size e
 refine wpAny_pyIter_list pl.isList ?_
 refine ⟨_,_,_,_,_,_,fun i=>bs.getD i false,rfl,Walks.list (by exact hd) s.heap.objs.size p (Nat.ne_of_lt hlt) its.toArray,⟨⟨_,Heap.get?_push_size _ rfl,rfl,rfl⟩,pl.isList.push _⟩,?_,?_⟩
 ·intro i v Q' E' s' hv h'
  rw [Nl rv hv]
  exact wpAny_pure h'
 ·intro h' tk k
  rw [<- hl,Ey]
  exact ⟨.bl (bs.all id),H,I.kept (t':=tk) fun b o eb=>k b o (fun z=>by
   have:b=s.heap.objs.size:=by simpa using z
   rw [this] at eb
   exact absurd (Heap.lt_size eb) (Nat.lt_irrefl _)) (Heap.get?_push_of_some _ eb),rfl,q⟩
end
end L2
namespace L2
open PySem PySem.Spec PyProof.Rows
open Builtin.SmallTypes (nextOf)
structure pT (P:Program) (w:World) (it l:Addr) (st:Nat->Heap->Prop) (n:Nat) (val:Nat->Value):Prop where
 keep:∀ i h h',st i h->(∀ b o,(b=it\/b=l)->h.get? b=some o->h'.get? b=some o)->st i h'
 item:∀ {A:Around} {Q:Value->Shared->Prop} {E:Value->Shared->Prop} {s:Shared} (i:Nat),st i s.heap->i<n->(∀ h',st (i+1) h'->Heap.SameBut it s.heap h'->Q (val i) { s with heap:=h' })->wpAny (model P w) A (nextOf (.ref it)) Q E s
 done:∀ {A:Around} {Q:Value->Shared->Prop} {E:Value->Shared->Prop} {s:Shared} (i:Nat),A.handled=none->st i s.heap->n<=i->
  (∀ h' e,Heap.ExtBut it s.heap h'->(∃ o,h'.get? e=some o/\o.cls=.type "StopIteration")->E (.ref e) { s with heap:=h' })->wpAny (model P w) A (nextOf (.ref it)) Q E s
section
variable {prog:Program} {w:World} {A:Around} {E:Value->Shared->Prop} {s:Shared}
theorem DU {it t:Addr} {i:Nat} {items} {x:Value} {Q:Value->Shared->Prop} (hit:s.heap.IsTupleIter it t i) (ht:s.heap.IsTuple t items) (hx:items[i]?=some x)
  (hQ:∀ h',h'.IsTupleIter it t (i+1)->Heap.SameBut it s.heap h'->Q x { s with heap:=h' }):wpAny (model prog w) A (nextOf (.ref it)) Q E s:=by
 obtain ⟨o,ho,hc,hd⟩:=id hit
 obtain ⟨ol,hol,_,nl,hdl⟩:=ht
 unfold nextOf
 refine wpAny_bind (wpAny_callSpecial?_slot (name:=Str.ofString "__next__") hit.typeIs F.slot_tuple_iterator_next
  (wpAny_call_entry F.slot_tuple_iterator_next hit.typeIs F.entry_tuple_iterator_next ?_ (F.args_tuple_iterator_next_1 _)))
 refine wpAny_bind (m:=field (.ref it) 0) (wpAny_field ho hd (x:=.ref t) rfl ?_)
 show wpAny _ _ (if (Value.ref t == Value.none)=true then _ else _) _ _ s
 rw [if_neg (show ¬ ((Value.ref t == Value.none)=true) from Bool.false_ne_true)]
 refine wpAny_bind (m:=field (.ref it) 1) (wpAny_field ho hd (x:=.int i 0) rfl ?_)
 refine wpAny_bind (m:=seqItems? (.ref t)) (wpAny_seqItems hol hdl ?_)
 simp only [Int.toNat_natCast,hx]
 refine wpAny_bind (wpAny_setField ho hd (by simp) (wpAny_pure ⟨x,rfl,wpAny_pure (hQ _ ?_ (Heap.SameBut.update ..))⟩))
 exact ⟨_,Heap.get?_update_self _ ho (Obj.isFreed_of_fields (Obj.data_mapFields hd _)),(Obj.cls_mapFields ..).trans hc,by
  rw [Obj.data_mapFields hd]; simp [rawInt]⟩
theorem DT {it t:Addr} {i:Nat} {items} {Q:Value->Shared->Prop} (hh:A.handled=none) (hit:s.heap.IsTupleIter it t i) (ht:s.heap.IsTuple t items) (hx:items[i]?=none)
  (hE:∀ h' e,Heap.ExtBut it s.heap h'->(∃ o,h'.get? e=some o/\o.cls=.type "StopIteration")->E (.ref e) { s with heap:=h' }):wpAny (model prog w) A (nextOf (.ref it)) Q E s:=by
 obtain ⟨o,ho,hc,hd⟩:=id hit
 obtain ⟨ol,hol,_,nl,hdl⟩:=ht
 unfold nextOf
 refine wpAny_bind (wpAny_callSpecial?_slot (name:=Str.ofString "__next__") hit.typeIs F.slot_tuple_iterator_next
  (wpAny_call_entry F.slot_tuple_iterator_next hit.typeIs F.entry_tuple_iterator_next ?_ (F.args_tuple_iterator_next_1 _)))
 refine wpAny_bind (m:=field (.ref it) 0) (wpAny_field ho hd (x:=.ref t) rfl ?_)
 show wpAny _ _ (if (Value.ref t == Value.none)=true then _ else _) _ _ s
 rw [if_neg (show ¬ ((Value.ref t == Value.none)=true) from Bool.false_ne_true)]
 refine wpAny_bind (m:=field (.ref it) 1) (wpAny_field ho hd (x:=.int i 0) rfl ?_)
 refine wpAny_bind (m:=seqItems? (.ref t)) (wpAny_seqItems hol hdl ?_)
 simp only [Int.toNat_natCast,hx]
 refine wpAny_bind (wpAny_rule (wpAny_bind (wpAny_setField ho hd (by simp) ?_)))
 refine wpAny_bind (m:=newExc (.type "StopIteration") []) ?_
 simp only [newExc,newTuple]
 refine wpAny_bind (wpAny_newObj_type ?_ (by size_fits))
 refine wpAny_bind (m:=firstArgMember _ _) (wpAny_of_eq (a:=Value.none) (by first | rfl | (simp only [firstArgMember]; rfl)) ?_)
 refine wpAny_newObj_type ?_ (by size_fits)
 simp only [raiseNew]
 refine wpAny_bind (wpAny_handled ?_)
 first | rw [show A.in1.handled=none from hh] | rw [hh]
 refine wpAny_bind (wpAny_pure (wpAny_throw ?_))
 exact hE _ _ (((Heap.SameBut.update ..).extBut.push _).push _) ⟨_,Heap.get?_push_size _ rfl,rfl⟩
theorem KW {it l:Addr} (hne:l≠it) (items:Array Value):pT prog w it l (fun i h=>h.IsListIter it l i/\h.IsList l items) items.size (fun i=>items.getD i .none) where
 keep:=fun i h h' st k=>⟨st.1.at fun o e=>k it o (.inl rfl) e,st.2.at fun o e=>k l o (.inr rfl) e⟩
 item:=fun i st hi hQ=>wpAny_nextOf_list_item st.1 st.2 (x:=items.getD i .none) (by simp [Array.getD,hi]) fun h' st' sb=>hQ h' ⟨st',st.2.extBut sb.extBut hne⟩ sb
 done:=fun i hh st hi hE=>wpAny_nextOf_list_end hh st.1 st.2 (Array.getElem?_eq_none hi) hE
theorem KY {it l:Addr} (hne:l≠it) (items:Array Value):pT prog w it l (fun i h=>h.IsTupleIter it l i/\h.IsTuple l items) items.size (fun i=>items.getD i .none) where
 keep:=fun i h h' st k=>⟨st.1.at fun o e=>k it o (.inl rfl) e,st.2.at fun o e=>k l o (.inr rfl) e⟩
 item:=fun i st hi hQ=>DU st.1 st.2 (x:=items.getD i .none) (by simp [Array.getD,hi]) fun h' st' sb=>hQ h' ⟨st',st.2.extBut sb.extBut hne⟩ sb
 done:=fun i hh st hi hE=>DT hh st.1 st.2 (Array.getElem?_eq_none hi) hE
variable {z TI TO i1 i2 l1 l2:Addr} {st1 st2:Nat->Heap->Prop} {n1 n2:Nat} {v1 v2:Nat->Value} {a b:Value} {k:Nat}
theorem Nv {Q:Value->Shared->Prop} (D:ZipApart z TI TO i1 i2 l1 l2) (S1:pT prog w i1 l1 st1 n1 v1) (S2:pT prog w i2 l2 st2 n2 v2)
  (hz:IsZip s.heap z TI TO .none) (hTI:IsPair s.heap TI (.ref i1) (.ref i2)) (hTO:IsPair s.heap TO a b) (h1:st1 k s.heap) (h2:st2 k s.heap) (k1:k<n1) (k2:k<n2)
  (hi1:i1<s.heap.objs.size) (hi2:i2<s.heap.objs.size) (hl1:l1<s.heap.objs.size) (hl2:l2<s.heap.objs.size)
  (hQ:∀ h',IsZip h' z TI TO (rawInt s.heap.objs.size)->IsPair h' TO (v1 k) (v2 k)->st1 (k+1) h'->st2 (k+1) h'->IsPair h' s.heap.objs.size (v1 k) (v2 k)->
   (∀ c o,c≠z->c≠TO->c≠i1->c≠i2->s.heap.get? c=some o->h'.get? c=some o)->Q (.ref s.heap.objs.size) { s with heap:=h' }) :
  wpAny (model prog w) A (Builtin.«zip.__next__» ⟨[.ref z],[]⟩) (fun fin s'=>∃ v,fin=.done (.ret v)/\Q v s') E s:=by
 refine wpAny_bind (m:=field (.ref z) 2) (wpAny_field hz rfl (x:=.bool false) rfl ?_)
 refine wpAny_bind (m:=field (.ref z) 3) (wpAny_field hz rfl (x:=.ref TI) rfl ?_)
 refine wpAny_bind (wpAny_seqItems hTI rfl ?_)
 refine wpAny_bind (m:=Builtin.SmallTypes.ownedTupleIsFree (.ref z)) ?_
 unfold Builtin.SmallTypes.ownedTupleIsFree
 refine wpAny_bind (wpAny_field hz rfl (x:=.none) rfl (wpAny_pure ?_))
 simp only [if_true]
 refine wpAny_bind (wpAny_rule (wpAny_bind (wpAny_field hz rfl (x:=.ref TO) rfl ?_)))
 refine wpAny_bind (wpAny_setField_rec hz (by simp) fun ha hza sa=>?_)
 replace hza:IsZip ha z TI TO .ellipsis:=hza
 refine wpAny_bind ?_
 simp only [List.zipIdx_cons,List.zipIdx_nil,List.forIn_cons,List.forIn_nil]
 have h1a:st1 k ha:=S1.keep k _ _ h1 fun c o hc e=>sa.extBut c o (by rcases hc with rfl | rfl; exact D.i1z; exact D.l1z) e
 refine wpAny_bind (wpAny_bind (wpAny_onRaise (wpAny_bind (m:=nextOf (.ref i1)) (S1.item k h1a k1 fun hb h1b sb=>wpAny_pure ?_))))
 have hTOb:IsPair hb TO a b:=sb.extBut _ _ D.TOi1 (sa.extBut _ _ D.TOz hTO)
 refine wpAny_bind (wpAny_seqItems hTOb rfl (wpAny_bind (wpAny_updateSeq_pair hTOb fun hc hTOc sc=>?_)))
 replace hTOc:IsPair hc TO (v1 k) b:=hTOc
 refine wpAny_bind (wpAny_letGo (wpAny_pure ?_))
 have h2c:st2 k hc:=S2.keep k _ _ h2 fun c o hcc e=>by
  rcases hcc with rfl | rfl
  ·exact sc.extBut _ _ D.TOi2.symm (sb.extBut _ _ D.i12.symm (sa.extBut _ _ D.i2z e))
  ·exact sc.extBut _ _ D.l2TO (sb.extBut _ _ D.l2i1 (sa.extBut _ _ D.l2z e))
 refine wpAny_bind (wpAny_bind (wpAny_onRaise (wpAny_bind (m:=nextOf (.ref i2)) (S2.item k h2c k2 fun hd h2d sd=>wpAny_pure ?_))))
 have hTOd:IsPair hd TO (v1 k) b:=sd.extBut _ _ D.TOi2 hTOc
 refine wpAny_bind (wpAny_seqItems hTOd rfl (wpAny_bind (wpAny_updateSeq_pair hTOd fun he hTOe se=>?_)))
 replace hTOe:IsPair he TO (v1 k) (v2 k):=hTOe
 refine wpAny_bind (wpAny_letGo (wpAny_pure (wpAny_pure ?_)))
 refine wpAny_bind (wpAny_seqItems hTOe rfl (wpAny_bind (wpAny_newTuple ?_)))
 have hsz:he.objs.size=s.heap.objs.size:=by rw [se.1,sd.1,sc.1,sb.1,sa.1]
 have hze:IsZip he z TI TO .ellipsis:=se.extBut _ _ D.TOz.symm (sd.extBut _ _ D.i2z.symm (sc.extBut _ _ D.TOz.symm (sb.extBut _ _ D.i1z.symm hza)))
 have hke:∀ c o,c≠z->c≠TO->c≠i1->c≠i2->s.heap.get? c=some o->he.get? c=some o:=fun c o c1 c2 c3 c4 e=>
  se.extBut _ _ c2 (sd.extBut _ _ c4 (sc.extBut _ _ c2 (sb.extBut _ _ c3 (sa.extBut _ _ c1 e))))
 have h1e:st1 (k+1) he:=S1.keep _ _ _ h1b fun c o hcc e=>by
  rcases hcc with rfl | rfl
  ·exact se.extBut _ _ D.TOi1.symm (sd.extBut _ _ D.i12 (sc.extBut _ _ D.TOi1.symm e))
  ·exact se.extBut _ _ D.l1TO (sd.extBut _ _ D.l1i2 (sc.extBut _ _ D.l1TO e))
 have h2e:st2 (k+1) he:=S2.keep _ _ _ h2d fun c o hcc e=>by
  rcases hcc with rfl | rfl
  ·exact se.extBut _ _ D.TOi2.symm e
  ·exact se.extBut _ _ D.l2TO e
 have hzlt:z<he.objs.size:=Heap.lt_size hze
 refine wpAny_bind (m:=Builtin.SmallTypes.ownedTupleHandOut (.ref z) (.ref he.objs.size)) ?_
 unfold Builtin.SmallTypes.ownedTupleHandOut
 have hzf:IsZip (he.push { cls:=.type "tuple",data:=.seq #[v1 k,v2 k] }) z TI TO .ellipsis:=Heap.get?_push_of_some _ hze
 refine wpAny_bind (wpAny_setField_rec hzf (by simp) fun hg hzg sg=>?_)
 replace hzg:IsZip hg z TI TO (rawInt he.objs.size):=hzg
 refine wpAny_setField_rec hzg (by simp) fun hh hzh sh=>?_
 replace hzh:IsZip hh z TI TO (rawInt he.objs.size):=hzh
 have up:∀ c o,c≠z->he.get? c=some o->hh.get? c=some o:=fun c o c1 e=>sh.extBut _ _ c1 (sg.extBut _ _ c1 (Heap.get?_push_of_some _ e))
 have hT:IsPair hh he.objs.size (v1 k) (v2 k):=sh.extBut _ _ (Nat.ne_of_gt hzlt) (sg.extBut _ _ (Nat.ne_of_gt hzlt) (Heap.get?_push_size _ rfl))
 rw [hsz] at hzh hT
 refine wpAny_pure ⟨_,rfl,?_⟩
 show Q (.ref he.objs.size) _
 rw [hsz]
 refine hQ hh hzh (up _ _ D.TOz hTOe) (S1.keep _ _ _ h1e fun c o hcc e=>up c o ?_ e) (S2.keep _ _ _ h2e fun c o hcc e=>up c o ?_ e) hT fun c o c1 c2 c3 c4 e=>up c o c1 (hke c o c1 c2 c3 c4 e)
 ·rcases hcc with rfl | rfl
  ·exact D.i1z
  ·exact D.l1z
 ·rcases hcc with rfl | rfl
  ·exact D.i2z
  ·exact D.l2z
theorem Nu {Q:Fin->Shared->Prop} (hh:A.handled=none) (D:ZipApart z TI TO i1 i2 l1 l2) (S1:pT prog w i1 l1 st1 n1 v1) (S2:pT prog w i2 l2 st2 n2 v2)
  (hz:IsZip s.heap z TI TO .none) (hTI:IsPair s.heap TI (.ref i1) (.ref i2)) (hTO:IsPair s.heap TO a b) (h1:st1 k s.heap) (h2:st2 k s.heap) (hend:n1<=k\/n2<=k)
  (hE:∀ h' e,(∀ c o,c≠z->c≠TO->c≠i1->c≠i2->s.heap.get? c=some o->h'.get? c=some o)->(∃ o,h'.get? e=some o/\o.cls=.type "StopIteration")->E (.ref e) { s with heap:=h' }) :
  wpAny (model prog w) A (Builtin.«zip.__next__» ⟨[.ref z],[]⟩) Q E s:=by
 refine wpAny_bind (m:=field (.ref z) 2) (wpAny_field hz rfl (x:=.bool false) rfl ?_)
 refine wpAny_bind (m:=field (.ref z) 3) (wpAny_field hz rfl (x:=.ref TI) rfl ?_)
 refine wpAny_bind (wpAny_seqItems hTI rfl ?_)
 refine wpAny_bind (m:=Builtin.SmallTypes.ownedTupleIsFree (.ref z)) ?_
 unfold Builtin.SmallTypes.ownedTupleIsFree
 refine wpAny_bind (wpAny_field hz rfl (x:=.none) rfl (wpAny_pure ?_))
 simp only [if_true]
 refine wpAny_bind (wpAny_rule (wpAny_bind (wpAny_field hz rfl (x:=.ref TO) rfl ?_)))
 refine wpAny_bind (wpAny_setField_rec hz (by simp) fun ha hza sa=>?_)
 replace hza:IsZip ha z TI TO .ellipsis:=hza
 refine wpAny_bind ?_
 simp only [List.zipIdx_cons,List.zipIdx_nil,List.forIn_cons,List.forIn_nil]
 have h1a:st1 k ha:=S1.keep k _ _ h1 fun c o hc e=>sa.extBut c o (by rcases hc with rfl | rfl; exact D.i1z; exact D.l1z) e
 by_cases k1:k<n1
 ·have k2:n2<=k:=by omega
  refine wpAny_bind (wpAny_bind (wpAny_onRaise (wpAny_bind (m:=nextOf (.ref i1)) (S1.item k h1a k1 fun hb h1b sb=>wpAny_pure ?_))))
  have hTOb:IsPair hb TO a b:=sb.extBut _ _ D.TOi1 (sa.extBut _ _ D.TOz hTO)
  refine wpAny_bind (wpAny_seqItems hTOb rfl (wpAny_bind (wpAny_updateSeq_pair hTOb fun hc hTOc sc=>?_)))
  refine wpAny_bind (wpAny_letGo (wpAny_pure ?_))
  have h2c:st2 k hc:=S2.keep k _ _ h2 fun c o hcc e=>by
   rcases hcc with rfl | rfl
   ·exact sc.extBut _ _ D.TOi2.symm (sb.extBut _ _ D.i12.symm (sa.extBut _ _ D.i2z e))
   ·exact sc.extBut _ _ D.l2TO (sb.extBut _ _ D.l2i1 (sa.extBut _ _ D.l2z e))
  refine wpAny_bind (wpAny_bind (wpAny_onRaise (wpAny_bind (m:=nextOf (.ref i2)) (S2.done k hh h2c k2 fun hd e sd he=>?_))))
  obtain ⟨oe,hoe,hce⟩:=he
  have hzd:IsZip hd z TI TO .ellipsis:=sd _ _ D.i2z.symm (sc.extBut _ _ D.TOz.symm (sb.extBut _ _ D.i1z.symm hza))
  have hez:e≠z:=fun x=>by subst x; rw [hzd] at hoe; cases hoe; simp at hce
  exact wpAny_setField_rec hzd (by simp) fun hf _ sf=>hE hf e (fun c o c1 c2 c3 c4 x=>sf.extBut _ _ c1 (sd _ _ c4 (sc.extBut _ _ c2 (sb.extBut _ _ c3 (sa.extBut _ _ c1 x))))) ⟨oe,sf.extBut _ _ hez hoe,hce⟩
 ·refine wpAny_bind (wpAny_bind (wpAny_onRaise (wpAny_bind (m:=nextOf (.ref i1)) (S1.done k hh h1a (by omega) fun hb e sb he=>?_))))
  obtain ⟨oe,hoe,hce⟩:=he
  have hzb:IsZip hb z TI TO .ellipsis:=sb _ _ D.i1z.symm hza
  have hez:e≠z:=fun x=>by subst x; rw [hzb] at hoe; cases hoe; simp at hce
  exact wpAny_setField_rec hzb (by simp) fun hf _ sf=>hE hf e (fun c o c1 _ c3 _ x=>sf.extBut _ _ c1 (sb _ _ c3 (sa.extBut _ _ c1 x))) ⟨oe,sf.extBut _ _ hez hoe,hce⟩
end
end L2
namespace L2
open PySem PySem.Spec PyProof.Rows
noncomputable def wg (K:PySem.W.Frag) (tp:Bool) (H:Hp) (a:Addr) (xs:List V):Prop:=match tp with
 | true=>yQ K H a xs
 | false=>yB K H a xs
noncomputable def kI (tp:Bool):String:=match tp with
 | true => "tuple_iterator"
 | false => "list_iterator"
noncomputable def wv (tp:Bool) (h:Heap) (a:Addr) (its:Array Value):Prop:=match tp with
 | true=>h.IsTuple a its
 | false=>h.IsList a its
noncomputable def qL (tp:Bool) (h:Heap) (it l:Addr) (i:Nat):Prop:=∃ o,h.get? it=some o/\o.cls=.type (kI tp)/\o.data=.fields #[.ref l,.int i 0]
theorem qL.at {tp:Bool} {h h':Heap} {it l:Addr} {i:Nat} (x:qL tp h it l i) (e:∀ o,h.get? it=some o->h'.get? it=some o):qL tp h' it l i:=let ⟨o,ho,r⟩:=x; ⟨o,e _ ho,r⟩
theorem wv.push {tp:Bool} {h:Heap} {a:Addr} {its:Array Value} (x:wv tp h a its) (o:Obj):wv tp (h.push o) a its:=by
 cases tp
 ·exact Heap.IsList.push x o
 ·exact Heap.IsTuple.push x o
theorem wv.lt {tp:Bool} {h:Heap} {a:Addr} {its:Array Value} (x:wv tp h a its):a<h.objs.size:=by
 cases tp
 ·obtain ⟨o,e,_⟩:=x; exact Heap.lt_size e
 ·obtain ⟨o,e,_⟩:=x; exact Heap.lt_size e
section
variable {prog:Program} {w:World} {A:Around} {E:Value->Shared->Prop} {s:Shared}
theorem Xv {tp:Bool} {it l:Addr} (hne:l≠it) (items:Array Value):pT prog w it l (fun i h=>qL tp h it l i/\wv tp h l items) items.size (fun i=>items.getD i .none):=by
 cases tp
 ·exact KW hne items
 ·exact KY hne items
theorem IE {tp:Bool} {l:Addr} {items:Array Value} {Q:Value->Shared->Prop} (h:wv tp s.heap l items)
  (hQ:Q (.ref s.heap.objs.size) { s with heap:=s.heap.push { cls:=.type (kI tp),data:=.fields #[.ref l,.int 0 0] } }):wpAny (model prog w) A (pyIter (.ref l)) Q E s:=by
 cases tp
 ·exact wpAny_pyIter_list (show s.heap.IsList l items from h) hQ
 ·exact wpAny_pyIter_tuple (show s.heap.IsTuple l items from h) hQ
noncomputable abbrev W6 (t1:Bool) (h:Heap) (l1:Addr):Heap:=h.push { cls:=.type (kI t1),data:=.fields #[.ref l1,.int 0 0] }
noncomputable abbrev W7 (t1 t2:Bool) (h:Heap) (l1 l2:Addr):Heap:=(W6 t1 h l1).push { cls:=.type (kI t2),data:=.fields #[.ref l2,.int 0 0] }
noncomputable abbrev W8 (t1 t2:Bool) (h:Heap) (l1 l2:Addr):Heap:=(W7 t1 t2 h l1 l2).push { cls:=.type "tuple",data:=.seq #[.ref h.objs.size,.ref (W6 t1 h l1).objs.size] }
noncomputable abbrev W9 (t1 t2:Bool) (h:Heap) (l1 l2:Addr):Heap:=(W8 t1 t2 h l1 l2).push { cls:=.type "tuple",data:=.seq #[.none,.none] }
noncomputable abbrev gS (t1 t2:Bool) (h:Heap) (l1 l2:Addr):Heap:=(W9 t1 t2 h l1 l2).push { cls:=.type "zip",data:=.fields #[.none,.bool false,.bool false,.ref (W7 t1 t2 h l1 l2).objs.size,.ref (W8 t1 t2 h l1 l2).objs.size] }
theorem Ny (t1 t2:Bool) (l1 l2:Addr) (xs ys:Array Value) :
  Meets (Builtin.«zip.__new__» ⟨[.type "zip",.ref l1,.ref l2],[]⟩) (fun _ R s=>wv t1 s.heap l1 xs/\wv t2 s.heap l2 ys/\R (.ok (.ret (.ref (W9 t1 t2 s.heap l1 l2).objs.size))) { s with heap:=gS t1 t2 s.heap l1 l2 }):=
 .of_wp fun prog w A R s h=>by
  obtain ⟨hp,g,d,tk,os⟩:=s; obtain ⟨hl1,hl2,h⟩:=h
  have hsub:=sub_zip
  have hL1:wv t1 (Shared.heap ⟨hp,g,d,tk,os⟩) l1 xs:=hl1
  have hL2:wv t2 (Shared.heap ⟨hp.push { cls:=.type (kI t1),data:=.fields #[.ref l1,.int 0 0] },g,d,tk,os⟩) l2 ys:=wv.push hl2 _
  wp_walk using IE hL1,IE hL2
  exact ⟨_,rfl,h⟩
theorem LU {t1 t2:Bool} {l1 l2:Addr} {xs ys:Array Value} {Q:Value->Shared->Prop} (hl1:wv t1 s.heap l1 xs) (hl2:wv t2 s.heap l2 ys)
  (h:∀ h',IsZip h' (s.heap.objs.size+4) (s.heap.objs.size+2) (s.heap.objs.size+3) .none->IsPair h' (s.heap.objs.size+2) (.ref s.heap.objs.size) (.ref (s.heap.objs.size+1))->
   IsPair h' (s.heap.objs.size+3) .none .none->qL t1 h' s.heap.objs.size l1 0->qL t2 h' (s.heap.objs.size+1) l2 0->
   (∀ c o,s.heap.get? c=some o->h'.get? c=some o)->Q (.ref (s.heap.objs.size+4)) { s with heap:=h' }) :
  wpAny (model prog w) A (call (.type "zip") [.ref l1,.ref l2]) Q E s:=by
 refine callType_new F.called_zip (by decide) (F.typeCall_zip_2 _ _) (F.newCall_zip_2 _ _) (fun obj=>F.args_object_init_3 obj _ _) F.entry_zip_new (Ny t1 t2 l1 l2 xs ys) ⟨hl1,hl2,?_⟩
 have z1:(W6 t1 s.heap l1).objs.size=s.heap.objs.size+1:=Heap.size_push ..
 have z2:(W7 t1 t2 s.heap l1 l2).objs.size=s.heap.objs.size+2:=by rw [Heap.size_push,z1]
 have z3:(W8 t1 t2 s.heap l1 l2).objs.size=s.heap.objs.size+3:=by rw [Heap.size_push,z2]
 have z4:(W9 t1 t2 s.heap l1 l2).objs.size=s.heap.objs.size+4:=by rw [Heap.size_push,z3]
 have g5:(gS t1 t2 s.heap l1 l2).get? (W9 t1 t2 s.heap l1 l2).objs.size=some _:=Heap.get?_push_size _ rfl
 have g4:(gS t1 t2 s.heap l1 l2).get? (W8 t1 t2 s.heap l1 l2).objs.size=some _:=Heap.get?_push_of_some _ (Heap.get?_push_size _ rfl)
 have g3:(gS t1 t2 s.heap l1 l2).get? (W7 t1 t2 s.heap l1 l2).objs.size=some _:=Heap.get?_push_of_some _ (Heap.get?_push_of_some _ (Heap.get?_push_size _ rfl))
 have g2:(gS t1 t2 s.heap l1 l2).get? (W6 t1 s.heap l1).objs.size=some _:=Heap.get?_push_of_some _ (Heap.get?_push_of_some _ (Heap.get?_push_of_some _ (Heap.get?_push_size _ rfl)))
 have g1:(gS t1 t2 s.heap l1 l2).get? s.heap.objs.size=some _:=Heap.get?_push_of_some _ (Heap.get?_push_of_some _ (Heap.get?_push_of_some _ (Heap.get?_push_of_some _ (Heap.get?_push_size _ rfl))))
 show _/\_
 rw [z2,z3,z4] at g5
 rw [z1,z2] at g3
 rw [z3] at g4
 rw [z1] at g2
 rw [z4]
 exact ⟨⟨_,g5,rfl⟩,h _ g5 g3 g4 ⟨_,g1,rfl,rfl⟩ ⟨_,g2,rfl,rfl⟩ fun c o x=>
  Heap.get?_push_of_some _ (Heap.get?_push_of_some _ (Heap.get?_push_of_some _ (Heap.get?_push_of_some _ (Heap.get?_push_of_some _ x))))⟩
end
section
variable {X:Cx} {pins:List (Addr×Obj)} {σ:St} {H:Hp} {s:Shared}
theorem zB.seqX {tp:Bool} {a:Addr} {xs:List V} (I:zB X pins σ H s) (h:wg X.K tp H a xs):∃ its:List Value,zb xs its/\wv tp s.heap a its.toArray:=by
 cases tp
 ·obtain ⟨its,r,p,_⟩:=I.list h
  exact ⟨its,r,p.isList⟩
 ·obtain ⟨its,r,p,_⟩:=I.tuple h
  exact ⟨its,r,p⟩
theorem zB.seqX_inj {tp:Bool} {a:Addr} {xs ys:List V} (I:zB X pins σ H s) (h:wg X.K tp H a xs) (h':wg X.K tp H a ys):xs=ys:=by
 cases tp
 ·exact I.list_inj h h'
 ·exact I.tuple_inj h h'
theorem OH {fs ch:List Addr} {h h':Heap} (k:∀ b o,b ∉ ch->h.get? b=some o->h'.get? b=some o):Un fs ch H H h h':=
 ⟨fun b o e _ _ hx=>k b o hx e,fun b o e _ _ hx=>⟨o.slots,k b o hx e⟩,fun _ _ _ n _=>n,fun b o e hx=>⟨o,k b o hx e⟩,fun _ _ z=>z,fun _ _ _ z=>z,fun b ps e=>⟨#[],by rw [e]; simp⟩⟩
theorem Qq {P:Program} {w:World} {ch:List Addr} {h h':Heap} (x:ya P w H h) (hn:∀ b∈ch,H b=none) (k:∀ b o,b ∉ ch->h.get? b=some o->h'.get? b=some o):ya P w H h':=fun b u e=>by
 have nit:∀ c v,H c=some v->c ∉ ch:=fun c v e z=>by rw [hn c z] at e; cases e
 refine (x b u e).stay (fun c v hc q=>k c v ?_ q) (fun _ q=>q) fun _ _ q=>q
 rcases hc with z | z
 ·rw [z]; exact nit b u e
 ·exact nit c _ z
theorem zB.but {ch:List Addr} {h':Heap} {tk:Nat} (I:zB X pins σ H s) (hf:∀ b∈ch,vt X pins H b) (k:∀ b o,b ∉ ch->s.heap.get? b=some o->h'.get? b=some o):zB X pins σ H { s with heap:=h',toks:=tk }:=
 I.call' (s':={ s with heap:=h',toks:=tk }) rfl (OH k) (Qq I.hok (fun b hb=>(hf b hb).1) k) I.bare fun b hb=>⟨(hf b hb).2.2.2.1,(hf b hb).2.1,(hf b hb).2.2.2.2.1,(hf b hb).2.2.2.2.2⟩
theorem zB.butNew {ch:List Addr} {h':Heap} {tk:Nat} {T:Addr} {o:HO} (I:zB X pins σ H s) (hf:∀ b∈ch,vt X pins H b) (k:∀ b o,b ∉ ch->s.heap.get? b=some o->h'.get? b=some o) (hT:s.heap.get? T=none) (hn:H T=none)
  (new:yc X.prog X.w (zQ H T o) h' T o):zB X pins σ (zQ H T o) { s with heap:=h',toks:=tk }:=
 I.call' (s':={ s with heap:=h',toks:=tk }) rfl (Ni (OH k) hT hn) (Qr (Qq I.hok (fun b hb=>(hf b hb).1) k) hn new) I.bare fun b hb=>⟨(hf b hb).2.2.2.1,(hf b hb).2.1,(hf b hb).2.2.2.2.1,(hf b hb).2.2.2.2.2⟩
end
noncomputable def WP (K:PySem.W.Frag) (t1 t2:Bool) (a b:Addr):It:=
  ⟨fun i H=>∃ xs ys x y,wg K t1 H a xs/\wg K t2 H b ys/\xs[i]?=some x/\ys[i]?=some y,
   fun i H v H'=>∃ p,H p=none/\v=.ref p/\∀ xs ys,wg K t1 H a xs->wg K t2 H b ys->∃ x y,xs[i]?=some x/\ys[i]?=some y/\H'=zQ H p (.tup [x,y]),
   fun i H=>∃ xs ys,wg K t1 H a xs/\wg K t2 H b ys/\(xs.length<=i\/ys.length<=i)⟩
theorem NW {P:Program} {w:World} {K:PySem.W.Frag} {elts:List Expr} {kk:Nat} {pos:Pos} (t1 t2:Bool) (a b z TI TO i1 i2:Addr) (D:ZipApart z TI TO i1 i2 a b) :
  qP P w K (.Tuple elts kk pos) (WP K t1 t2 a b) [z,TI,TO,i1,i2] z (fun i h=>IsZip h z TI TO .none/\IsPair h TI (.ref i1) (.ref i2)/\(∃ u v,IsPair h TO u v)/\qL t1 h i1 a i/\qL t2 h i2 b i) where
 mem:=by simp
 obj:=fun i h st c hc=>by
  obtain ⟨s1,s2,⟨u,v,s3⟩,⟨o4,s4,_,d4⟩,⟨o5,s5,_,d5⟩⟩:=st
  simp only [List.mem_cons,List.not_mem_nil,or_false] at hc
  rcases hc with rfl | rfl | rfl | rfl | rfl
  ·exact ⟨_,s1,fun v q=>nomatch q⟩
  ·exact ⟨_,s2,fun v q=>nomatch q⟩
  ·exact ⟨_,s3,fun v q=>nomatch q⟩
  ·exact ⟨_,s4,fun v q=>by rw [d4] at q; cases q⟩
  ·exact ⟨_,s5,fun v q=>by rw [d5] at q; cases q⟩
 keep:=fun i h h' st k=>by
  obtain ⟨s1,s2,⟨u,v,s3⟩,s4,s5⟩:=st
  exact ⟨k z (by simp) _ s1,k TI (by simp) _ s2,⟨u,v,k TO (by simp) _ s3⟩,s4.at fun o e=>k i1 (by simp) o e,s5.at fun o e=>k i2 (by simp) o e⟩
 item:=by
  intro X hP hw hK hc i pins s σ H E I hf st hg
  subst hP hw hK
  obtain ⟨s1,s2,⟨u,v,s3⟩,s4,s5⟩:=st
  obtain ⟨xs,ys,x,y,hx,hy,ex,ey⟩:=hg
  obtain ⟨us,ru,pu⟩:=I.seqX hx
  obtain ⟨ws,rw',pw⟩:=I.seqX hy
  obtain ⟨xu,hxu,rxu⟩:=ru.get ex
  obtain ⟨yw,hyw,ryw⟩:=rw'.get ey
  have k1:i<us.toArray.size:=by rw [List.size_toArray]; exact (List.getElem?_eq_some_iff.mp hxu).1
  have k2:i<ws.toArray.size:=by rw [List.size_toArray]; exact (List.getElem?_eq_some_iff.mp hyw).1
  have e1:us.toArray.getD i .none=xu:=by
   have:=List.getElem?_eq_some_iff.mp hxu
   obtain ⟨l,e⟩:=this
   simp [Array.getD,l,e]
  have e2:ws.toArray.getD i .none=yw:=by
   have:=List.getElem?_eq_some_iff.mp hyw
   obtain ⟨l,e⟩:=this
   simp [Array.getD,l,e]
  have hT:s.TypeIs (.ref z) "zip" := ⟨_,s1,rfl⟩
  have q4:i1<s.heap.objs.size:=by obtain ⟨o,e,_⟩:=s4; exact Heap.lt_size e
  have q5:i2<s.heap.objs.size:=by obtain ⟨o,e,_⟩:=s5; exact Heap.lt_size e
  unfold pyNext
  refine wpAny_bind (wpAny_attempt (wpAny_callSpecial?_slot (name:=Str.ofString "__next__") hT F.slot_zip_next (wpAny_call_entry F.slot_zip_next hT F.entry_zip_next
   (Nv D (Xv D.l1i1 us.toArray) (Xv D.l2i2 ws.toArray) s1 s2 s3 ⟨s4,pu⟩ ⟨s5,pw⟩ k1 k2 q4 q5 pu.lt pw.lt fun h' a1 a2 a3 a4 a5 a6=>wpAny_pure ?_) (F.args_zip_next_1 _))))
  rw [e1,e2] at a2 a5
  refine ⟨_,rfl,wpAny_letOwnedTupleGo_zip (s:={ s with heap:=h' }) a1 fun h'' b1 sb=>?_⟩
  have hTs:s.heap.get? s.heap.objs.size=none:=by
   cases q:s.heap.get? s.heap.objs.size with
   | none=>rfl
   | some o=>exact absurd (Heap.lt_size q) (Nat.lt_irrefl _)
  have hTf:H s.heap.objs.size=none:=I.hok.fresh (Nat.le_refl _)
  have hTz:s.heap.objs.size≠z:=Nat.ne_of_gt (Heap.lt_size s1)
  have tup:h''.get? s.heap.objs.size=some { cls:=.type "tuple",data:=.seq #[xu,yw] }:=sb.extBut _ _ hTz a5
  have kk:∀ c o,c ∉ [z,TI,TO,i1,i2]->s.heap.get? c=some o->h''.get? c=some o:=fun c o hc e=>by
   simp only [List.mem_cons,List.not_mem_nil,or_false,not_or] at hc
   exact sb.extBut _ _ hc.1 (a6 c o hc.1 hc.2.2.1 hc.2.2.2.1 hc.2.2.2.2 e)
  have new:yc X.prog X.w (zQ H s.heap.objs.size (.tup [x,y])) h'' s.heap.objs.size (.tup [x,y]):=⟨(by show 2<=sizeLine; decide),[xu,yw],.cons rxu (.cons ryw .nil),⟨_,tup,rfl,_,rfl⟩⟩
  refine ⟨.ref s.heap.objs.size,zQ H s.heap.objs.size (.tup [x,y]),I.butNew (tk:=s.toks) hf kk hTs hTf new,rfl,⟨s.heap.objs.size,hTf,rfl,fun xs' ys' hx' hy'=>?_⟩,⟨b1,?_,⟨_,_,sb.extBut _ _ D.TOz a2⟩,a3.1.at fun o e=>sb.extBut _ _ D.i1z e,a4.1.at fun o e=>sb.extBut _ _ D.i2z e⟩,fun c hc=>?_⟩
  ·rw [I.seqX_inj hx' hx,I.seqX_inj hy' hy]
   exact ⟨x,y,ex,ey,rfl⟩
  ·exact sb.extBut _ _ D.TIz (a6 _ _ D.TIz D.TITO D.TIi1 D.TIi2 s2)
  ·rw [zw]
   ·exact (hf c hc).1
   ·intro q
    have hlt:c<s.heap.objs.size:=by
     simp only [List.mem_cons,List.not_mem_nil,or_false] at hc
     rcases hc with rfl | rfl | rfl | rfl | rfl
     ·exact Heap.lt_size s1
     ·exact Heap.lt_size s2
     ·exact Heap.lt_size s3
     ·exact q4
     ·exact q5
    rw [q] at hlt
    exact absurd hlt (Nat.lt_irrefl _)
 done:=by
  intro X hP hw hK hc i pins s σ H E I hf st hg
  subst hP hw hK
  obtain ⟨s1,s2,⟨u,v,s3⟩,s4,s5⟩:=st
  obtain ⟨xs,ys,hx,hy,hend⟩:=hg
  obtain ⟨us,ru,pu⟩:=I.seqX hx
  obtain ⟨ws,rw',pw⟩:=I.seqX hy
  have hend':us.toArray.size<=i\/ws.toArray.size<=i:=by
   have l1:=ru.length
   have l2:=rw'.length
   rw [List.size_toArray,List.size_toArray]
   omega
  have hT:s.TypeIs (.ref z) "zip" := ⟨_,s1,rfl⟩
  unfold pyNext
  refine wpAny_bind (wpAny_attempt (wpAny_callSpecial?_slot (name:=Str.ofString "__next__") hT F.slot_zip_next (wpAny_call_entry F.slot_zip_next hT F.entry_zip_next
   (Nu (by exact I.ok.hd hc) D (Xv D.l1i1 us.toArray) (Xv D.l2i2 ws.toArray) s1 s2 s3 ⟨s4,pu⟩ ⟨s5,pw⟩ hend' fun h' e kk he=>?_) (F.args_zip_next_1 _))))
  obtain ⟨o,ho,hcl⟩:=he
  refine wpAny_bind (wpAny_isInstance (T := "StopIteration") (b:=true) ⟨o,ho,hcl⟩ isSubtype_stop ?_)
  refine wpAny_pure ⟨rfl,I.but (tk:=s.toks) hf fun c ob hcc eb=>?_⟩
  simp only [List.mem_cons,List.not_mem_nil,or_false,not_or] at hcc
  exact kk c ob hcc.1 hcc.2.2.1 hcc.2.2.2.1 hcc.2.2.2.2 eb
 self:=fun _ _ _ _ _ st h=>wpAny_pyIter_zip st.1 h
theorem yx {a b:Nat} (h:a≠b):@Ne Addr a b:=h
theorem Nw {n l1 l2:Nat} (h1:l1<n) (h2:l2<n):ZipApart (n+4) (n+2) (n+3) n (n+1) l1 l2:=
 ⟨yx (by omega),yx (by omega),yx (by omega),yx (by omega),yx (by omega),yx (by omega),yx (by omega),yx (by omega),yx (by omega),yx (by omega),yx (by omega),yx (by omega),yx (by omega),yx (by omega),yx (by omega),yx (by omega),yx (by omega),yx (by omega)⟩
theorem L5:bootBuiltins "zip" = some (.type "zip"):=by decide +kernel
section
variable {X:Cx}
noncomputable def Qs (K:PySem.W.Frag) (ta:TA):TI:=fun σ H R=>ta σ H fun vs H1=>∃ a b xs ys t1 t2,vs=[.ref a,.ref b]/\wg K t1 H1 a xs/\wg K t2 H1 b ys/\R (WP K t1 t2 a b) H1
theorem EF {a b:Expr} {ta:TA} {p pos:Pos} {elts:List Expr} {kk:Nat} {tp:Pos} (hg:Gl X "zip") (hm:X.mg "zip" = none) (ha:PA X [a,b] ta) (hs:starEach [a,b] X.env=[(false,eval a X.env),(false,eval b X.env)]:=by rfl)
  (hs2:starEach [b] X.env=[(false,eval b X.env)]:=by rfl):PI X (.Tuple elts kk tp) (.Call (.Name "zip" p) [a,b] [] pos) (Qs X.K ta):=by
 intro pins s σ H R I h
 refine Call_ (jv I hg hm L5 (PyProof.Rows.callWith_type1 (za (ha pos pins s σ H _ I h) fun us s1 ⟨vs,H1,I1,r1,q1⟩=>?_) (by rw [hs,hs2]) (by rw [hs2]; rfl)))
 obtain ⟨l1,l2,xs,ys,t1,t2,rfl,hx,hy,q⟩:=q1
 obtain ⟨u,v,rfl,ru,rv⟩:=W3 r1
 cases (show u=Value.ref l1 from ru)
 cases (show v=Value.ref l2 from rv)
 obtain ⟨us,_,pu⟩:=I1.seqX hx
 obtain ⟨ws,_,pw⟩:=I1.seqX hy
 have w1:=pu.lt
 have w2:=pw.lt
 refine LU pu pw fun h' a1 a2 a3 a4 a5 kp=>?_
 have I2:zB X pins σ H1 { s1 with heap:=h' }:=I1.kept (t':=s1.toks) kp
 refine wpAny_pyIter_zip (s:={ s1 with heap:=h' }) a1 ?_
 generalize hn:s1.heap.objs.size=n at a1 a2 a3 a4 a5 w1 w2
 have D:ZipApart (n+4) (n+2) (n+3) n (n+1) l1 l2:=by
  exact Nw w1 w2
 refine ⟨n+4,[n+4,n+2,n+3,n,n+1],_,_,H1,rfl,I2,NW t1 t2 l1 l2 (n+4) (n+2) (n+3) n (n+1) D,⟨a1,a2,⟨_,_,a3⟩,a4,a5⟩,fun c hc=>?_,q⟩
 have hle:s1.heap.objs.size<=c:=by
  rw [hn]
  simp only [List.mem_cons,List.not_mem_nil,or_false] at hc
  rcases hc with rfl | rfl | rfl | rfl | rfl
  ·exact Nat.le_add_right _ _
  ·exact Nat.le_add_right _ _
  ·exact Nat.le_add_right _ _
  ·exact Nat.le_refl _
  ·exact Nat.le_add_right _ _
 exact I1.fpOk hle (I1.hok.fresh hle)
theorem El {a b:Expr} {ta:TA} {p pos:Pos} {elts:List Expr} {kk:Nat} {tp:Pos} (hg:Gl X "zip") (hm:X.mg "zip" = none) (ha:QA X [a,b] ta) (hs:yT a=true:=by rfl) (hs2:yT b=true:=by rfl) :
  QI X (.Tuple elts kk tp) (.Call (.Name "zip" p) [a,b] [] pos) (Qs X.K ta):=⟨EF hg hm ha.h (by rw [vG hs,vG hs2]; rfl) (vG hs2)⟩
end
end L2
namespace L2
open PySem PySem.Spec PyProof.Rows
noncomputable def Tr (scope:Scope) (env:Env) (cl:List (Str×Addr)) (own:List Str):Bool:=
 scope.kind == .function&&scope.names.all (fun y=>y.2 != .cell)&&ji scope env cl own&&scope.names.all (fun y=>y.2 != .local||scope.names.lookup y.1 == some .local)
theorem vJ {X:Cx} {scope:Scope} {cl:List (Str×Addr)} {own:List Str} (clos:closureFor scope X.env=pure cl) (cap:qD X.env cl:=by first | exact True.intro | exact ⟨rfl,True.intro⟩ | exact ⟨rfl,rfl,True.intro⟩ | exact ⟨rfl,rfl,rfl,True.intro⟩ | exact ⟨rfl,rfl,rfl,rfl,True.intro⟩)
  (ok:Tr scope X.env cl own=true:=by rfl):jH X scope cl own:=by
 unfold Tr at ok
 simp only [Bool.and_eq_true] at ok
 obtain ⟨⟨⟨h1,h2⟩,h3⟩,h4⟩:=ok
 refine ⟨beq_iff_eq.mp h1,fun y hy e=>?_,cap,h3,clos,fun y hy e=>?_⟩
 ·have:=List.all_eq_true.mp h2 y hy
  rw [e] at this
  cases this
 ·have:=List.all_eq_true.mp h4 y hy
  rw [e] at this
  simpa using this
section
variable {X:Cx} (K:PySem.W.Frag) (hK:X.K=K)
include hK
end
noncomputable def OV (K:PySem.W.Frag) (a:Addr) (xs:List V):Prop:=∀ H,yQ K H a xs
theorem Wy {K:PySem.W.Frag} {a:Addr} {xs:List V} {d:Option Addr} {its:Array Value} {n:Nat} {sl:Array (Option Value)} (h:K.lookup a=some ⟨.type "tuple",d,.seq its n,sl⟩) (hz:its.size<=sizeLine) (r:zb xs its.toList):OV K a xs:=
 fun _=>.inr ⟨_,its,n,h,rfl,rfl,hz,r⟩
end L2
namespace L2
open PySem PySem.Spec PyProof.Rows
open Builtin Builtin.Str
section
variable {X:Cx}
end
noncomputable def YF (z:Str):It:=⟨fun i _=>i<z.length,fun i H x H'=>H'=H/\∃ c,z.cps[i]?=some c/\x=.str ⟨#[c]⟩,fun i _=>z.length<=i⟩
section
variable {X:Cx} {tg:Expr}
noncomputable def B3 (te:TE):TI:=fun σ H R=>te σ H fun x H1=>∃ z,x=.str z/\R (YF z) H1
theorem NU {P:Program} {w:World} {K:PySem.W.Frag} {it:Addr} {z:Str} {t:Tok} {ty:String} (hty:ty = "str_ascii_iterator" \/ ty = "str_iterator"):qP P w K tg (YF z) [it] it (fun i h=>h.IsStrIter it ty z t i/\i<=z.length) where
 mem:=by simp
 obj:=fun i h st b hb=>by
  have e:b=it:=by simpa using hb
  subst e
  obtain ⟨⟨o,e,c,d⟩,_⟩:=st
  exact ⟨o,e,fun v z=>by rw [d] at z; cases z⟩
 keep:=fun i h h' st k=>⟨let ⟨o,ho,r⟩:=st.1; ⟨o,k it (by simp) o ho,r⟩,st.2⟩
 item:=by
  intro X hP hw hK hc i pins s σ H E I hf st hg
  subst hP hw hK
  obtain ⟨f0,f1,f2,f3,f4,f5⟩:=hf it (by simp)
  have hg':i<z.cps.size:=hg
  have hx:z.cps[i]?=some z.cps[i]:=by simp [hg']
  have go:∀ h' tk (u:Value),(∃ t',u=Value.str ⟨#[z.cps[i]]⟩ t')->h'.IsStrIter it ty z t (i+1)->Heap.SameBut it s.heap h'->∃ v,some u=some v/\
    wpAny (model X.prog X.w) X.A (letOwnedTupleGo tg (.ref it) v) (fun _ s2=>∃ x H',zB X pins σ H' s2/\zX x v/\(YF z).yld i H x H'/\(s2.heap.IsStrIter it ty z t (i+1)/\i+1<=z.length)/\∀ b∈[it],H' b=none) E { s with heap:=h',toks:=tk }:=fun h' tk u hu st' sb=>by
   obtain ⟨t',rfl⟩:=hu
   have I1:zB X pins σ H { s with heap:=h',toks:=tk }:=I.turned (fun b o hb e=>(sb.2 b hb).trans e) f0 f1 f3 f4 f5
   obtain ⟨o,e,c,d⟩:=id st'
   exact ⟨_,rfl,XL (s:={ s with heap:=h',toks:=tk }) e c d (by rcases hty with rfl | rfl<;>decide) ⟨.str ⟨#[z.cps[i]]⟩,H,I1,⟨t',rfl⟩,⟨rfl,_,hx,rfl⟩,⟨st',hg⟩,fun b hb=>(hf b hb).1⟩⟩
  rcases hty with rfl | rfl
  ·exact wpAny_pyNext_ascii_item st.1 hx fun h' st' sb=>go h' _ _ ⟨_,rfl⟩ st' sb
  ·exact wpAny_pyNext_wide_item st.1 hx fun h' st' sb=>go h' _ _ ⟨_,rfl⟩ st' sb
 done:=by
  intro X hP hw hK hc i pins s σ H E I hf st hg
  subst hP hw hK
  obtain ⟨f0,f1,f2,f3,f4,f5⟩:=hf it (by simp)
  have hx:z.cps[i]?=none:=Array.getElem?_eq_none hg
  rcases hty with rfl | rfl
  ·exact wpAny_pyNext_ascii_end (I.ok.hd hc) st.1 hx fun h' eb=>⟨rfl,I.turned (t':=s.toks) (fun b o hb e=>eb b o hb e) f0 f1 f3 f4 f5⟩
  ·exact wpAny_pyNext_wide_end (I.ok.hd hc) st.1 hx fun h' eb=>⟨rfl,I.turned (t':=s.toks) (fun b o hb e=>eb b o hb e) f0 f1 f3 f4 f5⟩
 self:=fun _ _ _ _ _ st h=>by
  rcases hty with rfl | rfl
  ·exact wpAny_pyIter_striter_ascii st.1 h
  ·exact wpAny_pyIter_striter_wide st.1 h
theorem EC {e:Expr} {te:TE} (he:PE X e te):PI X tg e (B3 te):=by
 intro pins s σ H R I h
 refine za (he pins s σ H _ I h) fun v s1 ⟨x,H1,I1,r1,q1⟩=>?_
 obtain ⟨z,rfl,q⟩:=q1
 obtain ⟨t,rfl⟩:=(show ∃ t,v=Value.str z t from r1)
 have fin:∀ (ty:String),(ty = "str_ascii_iterator" \/ ty = "str_iterator")->∀ o:Obj,(s1.heap.push o).IsStrIter s1.heap.objs.size ty z t 0->WS X pins σ tg R (.ref s1.heap.objs.size) { s1 with heap:=s1.heap.push o }:=fun ty hty o st=>
  ⟨s1.heap.objs.size,[s1.heap.objs.size],_,_,H1,rfl,I1.kept (t':=s1.toks) fun b o e=>Heap.get?_push_of_some _ e,NU hty,⟨st,Nat.zero_le _⟩,fun b hb=>by
   have e:b=s1.heap.objs.size:=by simpa using hb
   subst e
   exact I1.fpOk (Nat.le_refl _) (I1.hok.fresh (Nat.le_refl _)),q⟩
 cases ha:z.cps.all (·<128)
 ·exact wpAny_pyIter_wide ha (fin _ (.inr rfl) _ ⟨_,Heap.get?_push_size _ rfl,rfl,rfl⟩)
 ·exact wpAny_pyIter_ascii ha (fin _ (.inl rfl) _ ⟨_,Heap.get?_push_size _ rfl,rfl,rfl⟩)
end
end L2
namespace L2
open PySem PySem.Spec PyProof.Rows
open Builtin Builtin.Str
section
variable {X:Cx}
end
end L2
namespace L2
open PySem PySem.Spec PyProof.Rows
open Builtin Builtin.Str
section
variable {X:Cx} {e o:Expr} {te to:TE} {pos apos cpos:Pos} {name:Str} {T id:String} {rm:V->List V->Hp->VK->Prop}
end
end L2
namespace L2
open PySem PySem.Spec PyProof.Rows
section
variable {κ:Type} [DecidableEq κ]
noncomputable def xz (kvs:List (κ×V)) (k:κ):Option V:=(kvs.find? fun kv=>decide (kv.1=k)).map (·.2)
noncomputable def xV (kvs:List (κ×V)) (k:κ) (v:V):List (κ×V):=
 if (kvs.any fun kv=>decide (kv.1=k))=true then kvs.map (fun kv=>if kv.1=k then (kv.1,v) else kv) else kvs++[(k,v)]
theorem qu {p:κ×V} {r:List (κ×V)} {k:κ} (e:p.1=k):xz (p::r) k=some p.2:=by simp [xz,List.find?_cons,e]
theorem qt {p:κ×V} {r:List (κ×V)} {k:κ} (e:¬ p.1=k):xz (p::r) k=xz r k:=by simp [xz,List.find?_cons,e]
theorem Uu (k:κ):∀ kvs:List (κ×V),(kvs.any fun kv=>decide (kv.1=k))=(xz kvs k).isSome
 | []=>rfl
 | p::r=>by
  rw [List.any_cons]
  by_cases e:p.1=k
  ·simp only [qu e,decide_eq_true e,Bool.true_or,Option.isSome_some]
  ·rw [qt e,decide_eq_false e,Bool.false_or]; exact Uu k r
theorem OJ (k j:κ) (y:V):∀ kvs:List (κ×V),xz kvs k=none->xz (kvs++[(k,y)]) j=if j=k then some y else xz kvs j
 | [],_=>by
  by_cases e:k=j
  ·rw [if_pos e.symm]; exact qu (p:=(k,y)) e
  ·rw [if_neg (fun z=>e z.symm)]; exact qt (p:=(k,y)) e
 | p::r,hn=>by
  rw [List.cons_append]
  have hk:¬ p.1=k:=fun z=>by rw [qu z] at hn; cases hn
  rw [qt hk] at hn
  have ih:=OJ k j y r hn
  by_cases e:p.1=j
  ·rw [qu e,qu e,if_neg (fun z=>hk (e.trans z))]
  ·rw [qt e,qt e,ih]
theorem Vi (kvs:List (κ×V)) (k:κ) (v:V):(xV kvs k v).length<=kvs.length+1:=by
 unfold xV
 split
 ·rw [List.length_map]; omega
 ·rw [List.length_append,List.length_cons,List.length_nil]; omega
theorem Ee {kvs:List (κ×V)} {k:κ} (v:V) (h:xz kvs k=none):xV kvs k v=kvs++[(k,v)]:=by
 unfold xV
 rw [Uu,h]
 exact if_neg (by decide)
theorem x_.isSome_eq {o:Option V} {u:Option Value} (r:x_ o u):o.isSome=u.isSome:=by
 cases o with
 | none=>cases u with
  | none=>rfl
  | some _=>exact (show False from r).elim
 | some _=>cases u with
  | none=>exact (show False from r).elim
  | some _=>rfl
theorem x_.getD {o:Option V} {u:Option Value} {d:V} {d':Value} (r:x_ o u) (rd:zX d d'):zX (o.getD d) (u.getD d'):=by
 cases o with
 | none=>cases u with
  | none=>exact rd
  | some _=>exact (show False from r).elim
 | some _=>cases u with
  | none=>exact (show False from r).elim
  | some _=>exact r
theorem KV.val {kvs:List (κ×V)} {vs:List (κ×Value)} (r:KV kvs vs) (k:κ):x_ (xz kvs k) (valueAt vs k):=by
 unfold KV at r
 induction r with
 | nil=>exact True.intro
 | @cons p q ps qs h t ih=>
  obtain ⟨h1,h2⟩:=h
  by_cases e:p.1=k
  ·have e':q.1=k:=h1.symm.trans e
   have b:valueAt (q::qs) k=some q.2:=by simp [valueAt,List.find?_cons,e']
   rw [qu e,b]; exact h2
  ·have e':¬ q.1=k:=fun z=>e (h1.trans z)
   have b:valueAt (q::qs) k=valueAt qs k:=by simp [valueAt,List.find?_cons,e']
   rw [qt e,b]; exact ih
theorem KV.any {kvs:List (κ×V)} {vs:List (κ×Value)} (r:KV kvs vs) (k:κ):(kvs.any fun kv=>decide (kv.1=k))=vs.any fun kv=>decide (kv.1=k):=by
 unfold KV at r
 induction r with
 | nil=>rfl
 | cons h t ih=>rw [List.any_cons,List.any_cons,ih,h.1]
theorem KV.repl {kvs:List (κ×V)} {vs:List (κ×Value)} (r:KV kvs vs) (k:κ) {y:V} {u:Value} (ry:zX y u) :
  KV (kvs.map fun kv=>if kv.1=k then (kv.1,y) else kv) (vs.map fun kv=>if kv.1=k then (kv.1,u) else kv):=by
 unfold KV at r ⊢
 induction r with
 | nil=>exact .nil
 | @cons p q ps qs h t ih=>
  rw [List.map_cons,List.map_cons]
  refine .cons ?_ ih
  obtain ⟨h1,h2⟩:=h
  by_cases e:p.1=k
  ·rw [if_pos e,if_pos (h1.symm.trans e)]; exact ⟨h1,ry⟩
  ·rw [if_neg e,if_neg (fun z=>e (h1.trans z))]; exact ⟨h1,h2⟩
theorem KV.put {kvs:List (κ×V)} {vs:List (κ×Value)} (r:KV kvs vs) (k:κ) {y:V} {u:Value} (ry:zX y u):KV (xV kvs k y) (stored vs k u):=by
 unfold xV stored
 rw [r.any k]
 by_cases e:(vs.any fun kv=>decide (kv.1=k))=true
 ·rw [if_pos e,if_pos e]; exact r.repl k ry
 ·rw [if_neg e,if_neg e]; exact Paired.snoc r ⟨rfl,ry⟩
theorem KV.length {kvs:List (κ×V)} {vs:List (κ×Value)} (r:KV kvs vs):kvs.length=vs.length:=Paired.length r
end
theorem uX {P:Program} {w:World} {k:zI} {u:Value} (r:zX (kV k) u):(yV P w).is k u=true:=by
 cases k with
 | inl i=>obtain ⟨t,e⟩:=(show ∃ t,u=Value.int i t from r); subst e; exact DG P w i t
 | inr x=>obtain ⟨t,e⟩:=(show ∃ t,u=Value.str x t from r); subst e; exact Vs P w x t
theorem J1 {P:Program} {w:World}:∀ {ks:List zI} {us:List Value},zb (ks.map kV) us->ItemsAre (yV P w) ks us
 | [],_,r=>by rw [List.map_nil] at r; cases r; exact .nil
 | k::ks,_,r=>by
  rw [List.map_cons] at r
  cases r with
  | cons h t=>exact .cons (uX h) (J1 t)
noncomputable abbrev KT (H:Hp):List (List zI×V)->List (List zI×Addr×Value)->Prop:=Paired fun p q=>p.1=q.1/\H q.2.1=some (.tup (p.1.map kV))/\zX p.2 q.2.2
theorem KT.val {H:Hp} {kvs:List (List zI×V)} {xs:List (List zI×Addr×Value)} (r:KT H kvs xs) (k:List zI):x_ (xz kvs k) ((atKey xs k).map (·.2)):=by
 induction r with
 | nil=>exact True.intro
 | @cons p q ps qs h t ih=>
  obtain ⟨h1,_,h2⟩:=h
  by_cases e:p.1=k
  ·have e':q.1=k:=h1.symm.trans e
   have b:atKey (q::qs) k=some q.2:=by simp [atKey,List.find?_cons,e']
   rw [qu e,b]; exact h2
  ·have e':¬ q.1=k:=fun z=>e (h1.trans z)
   have b:atKey (q::qs) k=atKey qs k:=by simp [atKey,List.find?_cons,e']
   rw [qt e,b]; exact ih
theorem KT.repl {H:Hp} {kvs:List (List zI×V)} {xs:List (List zI×Addr×Value)} (r:KT H kvs xs) (k:List zI) {y:V} {u:Value} (ry:zX y u) :
  KT H (kvs.map fun kv=>if kv.1=k then (kv.1,y) else kv) (xs.map (putAt k u)):=by
 induction r with
 | nil=>exact .nil
 | @cons p q ps qs h t ih=>
  rw [List.map_cons,List.map_cons]
  refine .cons ?_ ih
  obtain ⟨h1,h2,h3⟩:=h
  unfold putAt
  by_cases e:p.1=k
  ·rw [if_pos e,if_pos (h1.symm.trans e)]; exact ⟨h1,h2,ry⟩
  ·rw [if_neg e,if_neg (fun z=>e (h1.trans z))]; exact ⟨h1,h2,h3⟩
theorem KT.put {H:Hp} {kvs:List (List zI×V)} {xs:List (List zI×Addr×Value)} (r:KT H kvs xs) (k:List zI) {b:Addr} {y:V} {u:Value} (hb:H b=some (.tup (k.map kV))) (ry:zX y u) :
  KT H (xV kvs k y) (storedH xs k b u):=by
 have e:(kvs.any fun kv=>decide (kv.1=k))=(atKey xs k).isSome:=by
  rw [Uu,(r.val k).isSome_eq,Option.isSome_map]
 unfold xV storedH
 rw [e]
 by_cases q:(atKey xs k).isSome=true
 ·rw [if_pos q,if_pos q]; exact r.repl k ry
 ·rw [if_neg q,if_neg q]; exact Paired.snoc r ⟨rfl,hb,ry⟩
theorem KT.keeps {H H':Hp} {kvs:List (List zI×V)} {xs:List (List zI×Addr×Value)} (r:KT H kvs xs) (ht:∀ b ys,H b=some (.tup ys)->H' b=some (.tup ys)):KT H' kvs xs:=
 Paired.mapP r fun _ _ z=>⟨z.1,ht _ _ z.2.1,z.2.2⟩
section
variable {P:Program} {w:World} {H:Hp} {h:Heap} {a:Addr}
theorem IS {u:HO} (ok:ya P w H h) (e:Rd H a u):yc P w H h a u:=e.ok ok
theorem v_ {kvs:List (zI×V)} (ok:ya P w H h) (e:Rd H a (.dK kvs)):kvs.length<=sizeLine/\(a == sysModules)=false/\∃ vs,KV kvs vs/\h.DictOf (yV P w) a vs:=
 show yc P w H h a (.dK kvs) from IS ok e
theorem QM {kvs:List (zI×V)} (ok:ya P w H h) (e:H a=some (.dK kvs)):kvs.length<=sizeLine/\(a == sysModules)=false/\∃ vs,KV kvs vs/\h.DictOf (yV P w) a vs:=v_ ok (.inl e)
theorem jr {ks:List zI} (ok:ya P w H h) (e:H a=some (.tup (ks.map kV))):(tupleKind (yV P w)).is h ks a:=by
 obtain ⟨_,its,r,o,h1,h2,n,h3⟩:=(show yc P w H h a (.tup (ks.map kV)) from ok a _ e)
 exact ⟨o,its.toArray,n,h1,h2,h3,by simpa using J1 r⟩
theorem pY {kvs:List (List zI×V)} (ok:ya P w H h) (e:Rd H a (.dT kvs)):kvs.length<=sizeLine/\(a == sysModules)=false/\
  ∃ xs,KT H kvs xs/\h.DictOfH (tupleKind (yV P w)) a xs:=by
 obtain ⟨z,y,xs,r,o,es,ep,h1,h2,h3,h4,h5⟩:=(show yc P w H h a (.dT kvs) from IS ok e)
 refine ⟨z,y,xs,r,o,es,ep,h1,h2,h3,h4,fun x hx=>?_,h5⟩
 have all:∀ {l:List (List zI×V)} {m:List (List zI×Addr×Value)},KT H l m->∀ x∈m,(tupleKind (yV P w)).is h x.1 x.2.1:=by
  intro l m q
  induction q with
  | nil=>intro x hx; exact nomatch hx
  | @cons p q ps qs hq t ih=>
   intro x hx
   rcases List.mem_cons.mp hx with e | hx
   ·subst e
    exact jr ok (by rw [<- hq.1]; exact hq.2.1)
   ·exact ih x hx
 exact all r x hx
theorem Ll {kvs:List (List zI×V)} (ok:ya P w H h) (e:H a=some (.dT kvs)):kvs.length<=sizeLine/\(a == sysModules)=false/\
  ∃ xs,KT H kvs xs/\h.DictOfH (tupleKind (yV P w)) a xs:=pY ok (.inl e)
end
noncomputable def qz (H:Hp) (a:Addr) (y:V) (r:Option V):Prop:=
 (∃ kvs k,Rd H a (.dK kvs)/\y=kV k/\r=xz kvs k)\/∃ kvs k b,Rd H a (.dT kvs)/\y=.ref b/\H b=some (.tup (k.map kV))/\r=xz kvs k
noncomputable def WC (H:Hp) (a:Addr) (y v:V) (H':Hp):Prop:=
 (∃ kvs k,H a=some (.dK kvs)/\y=kV k/\kvs.length<sizeLine/\H'=zQ H a (.dK (xV kvs k v))) \/
 ∃ kvs k b,H a=some (.dT kvs)/\y=.ref b/\H b=some (.tup (k.map kV))/\kvs.length<sizeLine/\H'=zQ H a (.dT (xV kvs k v))
section
variable {X:Cx} {pins:List (Addr×Obj)} {σ:St} {H:Hp} {s:Shared} {a:Addr} {y v:V} {u r:Value} {o:Option V} {A:Around} {E:Value->Shared->Prop}
theorem zB.big (I:zB X pins σ H s):sysModules<s.heap.objs.size:=by
 have h:mainGlobals<s.heap.objs.size:=(I.mod.glob.keeps I.bk).lt
 exact Nat.lt_trans (by decide) h
theorem LY {Q:Value->Shared->Prop} (hu:A.units+1<cLine) (I:zB X pins σ H s) (g:qz H a y (some v)) (ry:zX y u) (h:∀ w' s',zB X pins σ H s'->zX v w'->Q w' s') :
  wpAny (model X.prog X.w) A (getItem (.ref a) u) Q E s:=by
 rcases g with ⟨kvs,k,e,ey,l⟩ | ⟨kvs,k,b,e,ey,eb,l⟩
 ·subst ey
  obtain ⟨z,hd,vs,rel,dd⟩:=v_ I.hok e
  obtain ⟨w',hw,rw'⟩:=x_.some_of (v:=v) (o:=valueAt vs k) (by rw [l]; exact rel.val k)
  exact wpAny_getItem_of (uX ry) dd.mapOf hw (h w' _ (I.tok _) rw')
 ·subst ey
  cases (show u=Value.ref b from ry)
  obtain ⟨z,hd,xs,rel,dd⟩:=pY I.hok e
  obtain ⟨w',hw,rw'⟩:=x_.some_of (v:=v) (o:=(atKey xs k).map (·.2)) (by rw [l]; exact rel.val k)
  obtain ⟨p,hp,hp2⟩:=Option.map_eq_some_iff.mp hw
  refine wpAny_getItem_heap (tupleKind_room_in1 hu) (jr I.hok eb) dd hp ?_
  rw [hp2]
  exact h w' _ (I.tok _) rw'
theorem LZ {Q:Value->Shared->Prop} (hu:A.units+1<cLine) (I:zB X pins σ H s) (g:qz H a y o) (ry:zX y u) (h:∀ s',zB X pins σ H s'->Q (.bool o.isSome) s') :
  wpAny (model X.prog X.w) A (compareOp .In u (.ref a)) Q E s:=by
 rcases g with ⟨kvs,k,e,ey,l⟩ | ⟨kvs,k,b,e,ey,eb,l⟩
 ·subst ey
  obtain ⟨z,hd,vs,rel,dd⟩:=v_ I.hok e
  refine wpAny_in_of (uX ry) hd dd.mapOf ?_
  rw [<- (rel.val k).isSome_eq,<- l]
  exact h _ (I.tok _)
 ·subst ey
  cases (show u=Value.ref b from ry)
  obtain ⟨z,hd,xs,rel,dd⟩:=pY I.hok e
  refine wpAny_in_heap (tupleKind_room_in1 hu) (jr I.hok eb) hd dd ?_
  have q:=(rel.val k).isSome_eq
  rw [Option.isSome_map] at q
  rw [<- q,<- l]
  exact h _ (I.tok _)
theorem Le {Q:Value->Shared->Prop} (hu:A.units+1<cLine) (I:zB X pins σ H s) (g:qz H a y o) (ry:zX y u) (h:∀ s',zB X pins σ H s'->Q (.bool (!o.isSome)) s') :
  wpAny (model X.prog X.w) A (compareOp .NotIn u (.ref a)) Q E s:=by
 rcases g with ⟨kvs,k,e,ey,l⟩ | ⟨kvs,k,b,e,ey,eb,l⟩
 ·subst ey
  obtain ⟨z,hd,vs,rel,dd⟩:=v_ I.hok e
  refine wpAny_notIn_of (uX ry) hd dd.mapOf ?_
  rw [<- (rel.val k).isSome_eq,<- l]
  exact h _ (I.tok _)
 ·subst ey
  cases (show u=Value.ref b from ry)
  obtain ⟨z,hd,xs,rel,dd⟩:=pY I.hok e
  refine wpAny_notIn_heap (tupleKind_room_in1 hu) (jr I.hok eb) hd dd ?_
  have q:=(rel.val k).isSome_eq
  rw [Option.isSome_map] at q
  rw [<- q,<- l]
  exact h _ (I.tok _)
theorem V2 {h':Heap} {t':Nat} {ob:HO} (I:zB X pins σ H s) (mu:ga (H a)) (hs:Heap.SameBut a s.heap h') (he:∃ q,h'.get? a=some q) (new:yc X.prog X.w (zQ H a ob) h' a ob) :
  zB X pins σ (zQ H a ob) { s with heap:=h',toks:=t' }:=
 I.write (x:=a) (e:=a) mu (.inl rfl) (fun b q hb z=>(hs.2 b hb).trans z) he new
theorem X0 {P:Program} {w:World} {H':Hp} {h':Heap} {kvs:List (zI×V)} {vs:List (zI×Value)} (z:kvs.length<=sizeLine) (hd:(a == sysModules)=false) (rel:KV kvs vs) (dd:h'.DictOf (yV P w) a vs) :
  yc P w H' h' a (.dK kvs):=⟨z,hd,vs,rel,dd⟩
theorem QJ {H':Hp} {Q:Unit->Shared->Prop} (hu:A.units+1<cLine) (I:zB X pins σ H s) (g:WC H a y v H') (ry:zX y u) (rv:zX v r) (h:∀ s',zB X pins σ H' s'->Q () s') :
  wpAny (model X.prog X.w) A (setItem (.ref a) u r) Q E s:=by
 rcases g with ⟨kvs,k,e,ey,l,eH⟩ | ⟨kvs,k,b,e,ey,eb,l,eH⟩
 ·subst ey eH
  obtain ⟨z,hd,vs,rel,dd⟩:=QM I.hok e
  have hz:vs.length<=sizeLine:=by rw [<- rel.length]; exact z
  have hl:(xV kvs k v).length<=sizeLine:=by have:=Vi kvs k v; omega
  refine wpAny_setItem_pairs (hsz:=hz) (uX ry) dd fun h' dd' hs=>h _ ?_
  have he:∃ q,h'.get? a=some q:=let ⟨q,_,_,hq,_⟩:=dd'; ⟨q,hq⟩
  exact V2 I (by rw [e]; exact True.intro) hs he (X0 hl hd (rel.put k rv) dd')
 ·subst ey eH
  cases (show u=Value.ref b from ry)
  obtain ⟨z,hd,xs,rel,dd⟩:=Ll I.hok e
  have hz:xs.length<=sizeLine:=by rw [<- Paired.length rel]; exact z
  have hl:(xV kvs k v).length<=sizeLine:=by have:=Vi kvs k v; omega
  refine wpAny_setItem_heap (hsz:=hz) (tupleKind_room_in1 hu) (jr I.hok eb) dd fun h' dd' hs=>h _ ?_
  obtain ⟨q,es,ep,hq,h2,h3,h4,_,h5⟩:=dd'
  refine V2 I (by rw [e]; exact True.intro) hs ⟨q,hq⟩ ⟨hl,hd,_,(rel.put k eb rv).keeps fun c ys ec=>?_,q,es,ep,hq,h2,h3,h4,h5⟩
  rw [zw (DR ec e (fun z=>nomatch z))]
  exact ec
end
section
variable {X:Cx} {pins:List (Addr×Obj)} {σ:St} {H:Hp} {s:Shared} {a:Addr} {kvs:List (zI×V)} {k:zI} {u:Value} {A:Around} {E:Value->Shared->Prop}
theorem Ld {Q:Value->Shared->Prop} (I:zB X pins σ H s) (e:Rd H a (.dK kvs)) (h:∀ t s',zB X pins σ H s'->Q (.int kvs.length t) s'):wpAny (model X.prog X.w) A (call (.builtin "len") [.ref a]) Q E s:=by
 obtain ⟨z,hd,vs,rel,dd⟩:=v_ I.hok e
 refine call_len_dict hd dd (by rw [<- rel.length]; rw [sizeLine_eq] at z; omega) ?_
 rw [<- rel.length]
 exact h _ _ (I.tok _)
end
theorem Lh {X:Cx} {pins:List (Addr×Obj)} {σ:St} {H:Hp} {s:Shared} {a:Addr} {y:V} {o:Option V} (I:zB X pins σ H s) (g:qz H a y o):s.TypeIs (.ref a) "dict" := by
 rcases g with ⟨kvs,k,e,_,_⟩ | ⟨kvs,k,b,e,_,_,_⟩
 ·obtain ⟨_,_,vs,_,dd⟩:=v_ I.hok e
  exact dd.typeIs
 ·obtain ⟨_,_,xs,_,dd⟩:=pY I.hok e
  exact dd.typeIs
noncomputable def HB (td ty tv:TE):TS:=fun D σ H=>tv σ H fun v H1=>td σ H1 fun x H2=>ty σ H2 fun y H3=>∃ a H4,x=.ref a/\WC H3 a y v H4/\D.nx σ H4
noncomputable def HA (td ty tv:TE) (rd:V->V->Hp->VK->Prop):TS:=fun D σ H=>td σ H fun x H1=>ty σ H1 fun y H2=>∃ a v,x=.ref a/\qz H2 a y (some v)/\
 tv σ H2 fun y2 H3=>rd v y2 H3 fun z H4=>∃ H5,WC H4 a y z H5/\D.nx σ H5
section
variable {X:Cx} {o i e value:Expr} {pos pos' tpos:Pos} {td ty tv:TE}
theorem Jq (hu:X.A.units+1<cLine) (ho:PE X o td) (hi:PE X i ty) (hv:PE X value tv) (hs:swapsWith value (some (.Subscript o i pos')) pos.line X.env=pure false) :
  PS X (.Assign [.Subscript o i pos'] value pos) (HB td ty tv):=by
 intro pins s σ H D I h
 refine wpAny_Assign_Subscript (za (hv pins s σ H _ I h) fun r s1 ⟨v,H1,I1,rv,q1⟩=>za (ho pins s1 σ H1 _ I1 q1) fun u s2 ⟨x,H2,I2,rx,q2⟩=>za (hi pins s2 σ H2 _ I2 q2) fun iv s3 ⟨y,H3,I3,ry,a,H4,ex,g,q3⟩=>?_) hs
 subst ex
 obtain rfl:u=Value.ref a:=rx
 exact QJ hu I3 g ry rv fun s4 I4=>⟨σ,H4,I4,q3⟩
theorem EQ {op:Operator} {rd:V->V->Hp->VK->Prop} (hu:X.A.units+1<cLine) (ho:PE X o td) (hi:PE X i ty) (hv:PE X value tv) (hop:WL X op rd)
  (ha:∀ ov iv new,augStore i ov iv new=(do holding [new,ov,iv] (setItem ov iv new); release [new,ov,iv] []; pure .next)):PS X (.AugAssign (.Subscript o i tpos) op value pos) (HA td ty tv rd):=by
 intro pins s σ H D I h
 refine wpAny_AugAssign_SubscriptAny (za (ho pins s σ H _ I h) fun u s1 ⟨x,H1,I1,rx,q1⟩=>za (hi pins s1 σ H1 _ I1 q1) fun iv s2 ⟨y,H2,I2,ry,a,v,ex,g,q2⟩=>?_) ha
 subst ex
 obtain rfl:u=Value.ref a:=rx
 refine LY hu I2 g ry fun w' s3 I3 rw'=>za (hv pins s3 σ H2 _ I3 q2) fun w2 s4 ⟨y2,H3,I4,ry2,q3⟩=>za (hop pins s4 σ H3 v y2 w' w2 _ I4 rw' ry2 q3) fun w3 s5 ⟨z,H4,I5,rz,H5,g5,q4⟩=>?_
 exact QJ hu I5 g5 ry rz fun s6 I6=>⟨σ,H5,I6,q4⟩
end
theorem QL {P:Program} {w:World} {H:Hp} (h:Heap) (hb:sysModules<h.objs.size):yc P w H (h.push { cls:=.type "dict",data:=.dict #[] }) h.objs.size (.dK []):=
 ⟨Nat.zero_le _,beq_eq_false_iff_ne.mpr (Ne.symm (Nat.ne_of_lt hb)),[],.nil,Heap.DictOf.new h⟩
noncomputable def Ku:TE:=fun _ H Q=>∀ p,H p=none->Q (.ref p) (zQ H p (.dK []))
section
variable {X:Cx} {pos:Pos}
theorem Cp:PE X (.Dict [] [] pos) Ku:=fun pins s σ H Q I h=>
 wpAny_Dict_empty ⟨.ref s.heap.objs.size,_,I.laid (a:=s.heap.objs.size) (o:=.dK []) (t':=s.toks) (fun _ _ q=>Heap.get?_push_of_some _ q) (Nat.le_refl _) (QL s.heap I.big),rfl,h _ (I.hok.fresh (Nat.le_refl _))⟩
end
noncomputable def Y3:List (TE×TE)->St->Hp->(List (V×V)->Hp->Prop)->Prop
 | [],_,H,Q=>Q [] H
 | (tk,tv)::r,σ,H,Q=>tk σ H fun x H1=>tv σ H1 fun y H2=>Y3 r σ H2 fun ps H3=>Q ((x,y)::ps) H3
noncomputable abbrev VV:List (V×V)->List (Value×Value)->Prop:=Paired fun p q=>zX p.1 q.1/\zX p.2 q.2
noncomputable def jc (X:Cx) (pos:Pos) (keys:List (Option Expr)) (values:List Expr) (trs:List (TE×TE)):Prop:=
 ∀ (pins:List (Addr×Obj)) (s:Shared) (σ:St) (H:Hp) (Q:List (V×V)->Hp->Prop),zB X pins σ H s->Y3 trs σ H Q->
  wpAny (model X.prog X.w) X.A (evalPairs (pairTrees keys values X.env pos)) (fun vs s'=>∃ ps H',zB X pins σ H' s'/\VV ps vs/\Q ps H') X.xe s
theorem Jp {X:Cx} {pos:Pos}:jc X pos [] [] []:=fun pins s σ H Q I h=>pairTrees_nil_walk ⟨[],H,I,.nil,h⟩
theorem Jo {X:Cx} {pos:Pos} {k v:Expr} {ks:List (Option Expr)} {vs:List Expr} {tk tv:TE} {trs:List (TE×TE)} (hk:PE X k tk) (hv:PE X v tv) (hr:jc X pos ks vs trs) :
  jc X pos (some k::ks) (v::vs) ((tk,tv)::trs):=fun pins s σ H Q I h=>
 pairTrees_cons_walk (za (hk pins s σ H _ I h) fun u s1 ⟨x,H1,I1,rx,q1⟩=>za (hv pins s1 σ H1 _ I1 q1) fun w2 s2 ⟨y,H2,I2,ry,q2⟩=>
  za (hr pins s2 σ H2 _ I2 q2) fun ws s3 ⟨ps,H3,I3,rel,q3⟩=>⟨(x,y)::ps,H3,I3,.cons ⟨rx,ry⟩ rel,q3⟩)
noncomputable def vl (kvs more:List (zI×V)):List (zI×V):=more.foldl (fun acc kv=>xV acc kv.1 kv.2) kvs
theorem KV.merge:∀ {more:List (zI×V)} {rs:List (zI×Value)} {kvs:List (zI×V)} {vs:List (zI×Value)},KV more rs->KV kvs vs->KV (vl kvs more) (merged vs rs):=by
 intro more rs kvs vs r
 unfold KV at r
 induction r generalizing kvs vs with
 | nil=>intro q; exact q
 | @cons p q ps qs h t ih=>
  intro r0
  have e:KV (xV kvs p.1 p.2) (stored vs q.1 q.2):=by
   have:=r0.put p.1 h.2
   rw [<- h.1]; exact this
  exact ih e
theorem Vh:∀ (more kvs:List (zI×V)),(vl kvs more).length<=kvs.length+more.length
 | [],kvs=>by show kvs.length<=kvs.length+0; omega
 | p::r,kvs=>by
  have h1:=Vh r (xV kvs p.1 p.2)
  have h2:=Vi kvs p.1 p.2
  show (vl (xV kvs p.1 p.2) r).length<=_
  rw [List.length_cons]; omega
theorem Q6 {P:Program} {w:World}:∀ {kvs:List (zI×V)} {ws:List (Value×Value)},VV (kvs.map fun kv=>(kV kv.1,kv.2)) ws->∃ rs,Carries (yV P w) ws rs/\KV kvs rs
 | [],_,r=>by rw [List.map_nil] at r; cases r; exact ⟨[],True.intro,.nil⟩
 | p::kvs,_,r=>by
  rw [List.map_cons] at r
  cases r with
  | @cons a b as bs h t=>
   obtain ⟨rs,c,q⟩:=Q6 (P:=P) (w:=w) t
   obtain ⟨b1,b2⟩:=b
   exact ⟨(p.1,b2)::rs,⟨uX h.1,rfl,c⟩,.cons ⟨rfl,h.2⟩ q⟩
noncomputable def Kv (trs:List (TE×TE)):TE:=fun σ H Q=>∀ p,H p=none->Y3 trs σ (zQ H p (.dK [])) fun ps H2=>H2 p=some (.dK [])/\∃ kvs:List (zI×V),ps=kvs.map (fun kv=>(kV kv.1,kv.2))/\kvs.length<=15/\Q (.ref p) (zQ H2 p (.dK (vl [] kvs)))
theorem Jg {X:Cx} {pos:Pos} {keys:List (Option Expr)} {values:List Expr} {trs:List (TE×TE)} (h:jc X pos keys values trs) (hall:keys.all (·.isSome)=true) (hl:keys.length=values.length) (h0:keys≠[])
  (h15:keys.length<=15):PE X (.Dict keys values pos) (Kv trs):=by
 intro pins s σ H Q I q
 have hn:=I.hok.fresh (Nat.le_refl s.heap.objs.size)
 have I1:=I.laid (a:=s.heap.objs.size) (o:=.dK []) (h':=s.heap.push { cls:=.type "dict",data:=.dict #[] }) (t':=s.toks) (fun _ _ q=>Heap.get?_push_of_some _ q) (Nat.le_refl _) (QL s.heap I.big)
 refine wpAny_Dict_walk (knd:=yV X.prog X.w) hall hl h0 h15 (za (h pins _ σ _ _ I1 (q _ hn)) fun ws s2 ⟨ps,H2,I2,rel,e,kvs,ep,lk,q2⟩=>?_)
 subst ep
 obtain ⟨rs,c,rk⟩:=Q6 (P:=X.prog) (w:=X.w) rel
 obtain ⟨z,hd,vs0,r0,dd⟩:=QM I2.hok e
 cases r0
 refine ⟨rs,c,dd,fun h' dd' hs=>⟨.ref s.heap.objs.size,_,?_,rfl,q2⟩⟩
 have hz:(vl [] kvs).length<=sizeLine:=by
  have h1:=Vh kvs []
  rw [List.length_nil] at h1
  rw [sizeLine_eq]; omega
 have he:∃ q,h'.get? s.heap.objs.size=some q:=let ⟨q,_,_,hq,_⟩:=dd'; ⟨q,hq⟩
 exact V2 I2 (by rw [e]; exact True.intro) hs he (X0 hz hd (rk.merge .nil) dd')
structure M2 (X:Cx) (o:Expr) (m:Str) (apos:Pos) (e f:Expr) (cpos:Pos):Prop where
 base:attributeBase o m X.env (eval o X.env)=eval o X.env
 few:((backTo cpos (starEach [e,f] X.env)).all (fun x=>!x.1)&&(backToKw cpos (keywordEach [] X.env)).all (fun x=>x.1.isSome)
  && decide (([e,f]:List Expr).length+([]:List Keyword).length+(if ([]:List Keyword).isEmpty then 0 else 1)<30))=true
 line:(apos.endLine == cpos.line)=true
 trees:backTo cpos (starEach [e,f] X.env)=[(false,eval e X.env),(false,eval f X.env)]
noncomputable def T7 (H:Hp) (a:Addr):Prop:=(∃ kvs,Rd H a (.dK kvs))\/∃ kvs,Rd H a (.dT kvs)
theorem BB {X:Cx} {pins:List (Addr×Obj)} {σ:St} {H:Hp} {s:Shared} {a:Addr} (I:zB X pins σ H s) (d:T7 H a) :
  s.TypeIs (.ref a) "dict" /\ (∀ b,Value.ref a=.ref b->∃ ob,s.heap.get? b=some ob/\ob.dict=none)/\(a == sysModules)=false:=by
 rcases d with ⟨kvs,e⟩ | ⟨kvs,e⟩
 ·obtain ⟨_,hd,vs,_,dd⟩:=v_ I.hok e
  refine ⟨dd.typeIs,fun b q=>?_,hd⟩
  cases q
  obtain ⟨ob,_,_,h1,h2,_⟩:=dd
  exact ⟨ob,h1,h2.2.1⟩
 ·obtain ⟨_,hd,xs,_,dd⟩:=pY I.hok e
  refine ⟨dd.typeIs,fun b q=>?_,hd⟩
  cases q
  obtain ⟨ob,_,_,h1,h2,_⟩:=dd
  exact ⟨ob,h1,h2.2.1⟩
section
variable {X:Cx} {pins:List (Addr×Obj)} {σ:St} {H:Hp} {s:Shared} {a:Addr} {y d:V} {u r:Value} {o:Option V} {A:Around} {E:Value->Shared->Prop}
theorem LX {Q:Value->Shared->Prop} (hu:A.units+1<cLine) (I:zB X pins σ H s) (g:qz H a y o) (ry:zX y u) (rd:zX d r) (h:∀ w' s',zB X pins σ H s'->zX (o.getD d) w'->Q w' s') :
  wpAny (model X.prog X.w) A (call (.builtin "dict.get") [.ref a,u,r]) Q E s:=by
 rcases g with ⟨kvs,k,e,ey,l⟩ | ⟨kvs,k,b,e,ey,eb,l⟩
 ·subst ey
  obtain ⟨z,hd,vs,rel,dd⟩:=v_ I.hok e
  refine call_meetsIn PySem.F.slot_dict_get dd.typeIs PySem.F.entry_dict_get (PySem.F.args_dict_get_3 _ _ _) (meets_dict_get_default (yV X.prog X.w) a (uX ry) hd r) ⟨_,dd.mapOf,h _ _ (I.tok _) ?_⟩
  rw [l]
  exact (rel.val k).getD rd
 ·subst ey
  cases (show u=Value.ref b from ry)
  obtain ⟨z,hd,xs,rel,dd⟩:=pY I.hok e
  refine call_meetsIn PySem.F.slot_dict_get dd.typeIs PySem.F.entry_dict_get (PySem.F.args_dict_get_3 _ _ _) (meetsH_dict_get_default (tupleKind (yV X.prog X.w)) a b hd r) ⟨tupleKind_room_in1 hu,k,xs,jr I.hok eb,dd,h _ _ (I.tok _) ?_⟩
  rw [l]
  exact (rel.val k).getD rd
end
noncomputable def Kt (td ty tx:TE):TE:=fun σ H Q=>td σ H fun x H1=>∃ a,x=.ref a/\T7 H1 a/\ty σ H1 fun y H2=>tx σ H2 fun z H3=>∃ o,qz H3 a y o/\Q (o.getD z) H3
section
variable {X:Cx} {o e f:Expr} {apos cpos:Pos} {td ty tx:TE}
theorem Co (hu:X.A.units+1<cLine) (ho:PE X o td) (he:PE X e ty) (hf:PE X f tx) (m:M2 X o "get" apos e f cpos):PE X (.Call (.Attribute o "get" apos) [e,f] [] cpos) (Kt td ty tx):=by
 intro pins s σ H Q I h
 refine wpAny_Call_method m.base m.few m.line PySem.F.plainAttrs_dict PySem.F.slot_dict_get PySem.F.type_dict_get (za (ho pins s σ H _ I h) fun u s1 ⟨x,H1,I1,rx,a,ex,d,q1⟩=>?_)
 subst ex
 obtain rfl:u=Value.ref a:=rx
 obtain ⟨t1,t2,_⟩:=BB I1 d
 refine ⟨t1,t2,?_⟩
 rw [m.trees]
 refine Calls.callWith_builtin rfl (Calls.evalArgs_plain (Calls.spliced_cons (za (he pins s1 σ H1 _ I1 q1) fun iv s2 ⟨y,H2,I2,ry,q2⟩=>
  Calls.spliced_cons (za (hf pins s2 σ H2 _ I2 q2) fun fv s3 ⟨z,H3,I3,rz,ov,g,q3⟩=>Calls.spliced_nil ?_))))
 exact LX hu I3 g ry rz fun w' s4 I4 rw'=>⟨_,H3,I4,rw',q3⟩
end
section
variable {X:Cx} {pins:List (Addr×Obj)} {σ:St} {H:Hp} {s:Shared} {a:Addr} {kvs:List (zI×V)} {A:Around} {E:Value->Shared->Prop}
end
section
variable {X:Cx} {pins:List (Addr×Obj)} {σ:St} {H:Hp} {s:Shared} {a:Addr} {y:V} {u:Value} {A:Around} {E:Value->Shared->Prop}
end
end L2
namespace L3
open PySem
inductive D where
 | non | bl (b:Bool) | int (i:Int) | str (x:Str) | tup (xs:List D) | lst (xs:List D) | dic (ks:List (Sum Int Str)) (vs:List D) | exc (x:Str) | obj (x:Str) (fs:List Str) (vs:List D)
theorem D.ind {P:D->Prop} (non:P .non) (bl:∀ b,P (.bl b)) (int:∀ i,P (.int i)) (str:∀ x,P (.str x)) (tup:∀ xs,(∀ d∈xs,P d)->P (.tup xs)) (lst:∀ xs,(∀ d∈xs,P d)->P (.lst xs))
  (dic:∀ ks xs,(∀ d∈xs,P d)->P (.dic ks xs)) (exc:∀ x,P (.exc x)) (obj:∀ x fs xs,(∀ d∈xs,P d)->P (.obj x fs xs)) (d:D):P d:=
 D.rec (motive_1:=P) (motive_2:=fun ds=>∀ d∈ds,P d) non bl int str (fun xs h=>tup xs h) (fun xs h=>lst xs h) (fun ks xs h=>dic ks xs h) exc (fun x fs xs h=>obj x fs xs h) (fun _ h=>absurd h (by simp))
  (fun d ds hd hds e he=>by
   rcases List.mem_cons.mp he with z | z
   ·exact z ▸ hd
   ·exact hds e z) d
mutual
noncomputable def yk:D->D->Bool
 | .non,.non=>true
 | .bl a,.bl b=>a == b
 | .bl a,.int b=>(if a then 1 else 0) == b
 | .int a,.bl b=>a == (if b then 1 else 0)
 | .int a,.int b=>a == b
 | .str a,.str b=>a == b
 | .tup xs,.tup ys=>dEqs xs ys
 | .lst xs,.lst ys=>dEqs xs ys
 | _,_=>false
noncomputable def dEqs:List D->List D->Bool
 | [],[]=>true
 | x::xs,y::ys=>yk x y&&dEqs xs ys
 | _,_=>false
end
noncomputable abbrev Sl:=Bool×D
noncomputable abbrev zf:=List (Option Sl)
noncomputable abbrev FE:=zf->Option D
noncomputable abbrev FT:=zf->Option Bool
noncomputable abbrev FA:=zf->Option (List D)
noncomputable abbrev FG:=D->zf->Option zf
inductive Fl where
 | nx (σ:zf) | rt (o:Bool) (d:D) | bk (σ:zf) | ct (σ:zf)
noncomputable abbrev FS:=zf->Option Fl
noncomputable abbrev yP:Nat:=16777216
noncomputable def z6 (i:Nat):FE:=fun σ=>match σ[i]? with
 | some (some (false,d))=>some d
 | _=>none
noncomputable def gx (i:Nat):FE:=fun σ=>match σ[i]? with
 | some (some (_,d))=>some d
 | _=>none
noncomputable def eC (d:D):FE:=fun _=>some d
noncomputable def e1 (F:D->Option D) (a:FE):FE:=fun σ=>(a σ).bind F
noncomputable def e2 (F:D->D->Option D) (a b:FE):FE:=fun σ=>(a σ).bind fun x=>(b σ).bind fun y=>F x y
noncomputable def eL (F:List D->Option D) (a:FA):FE:=fun σ=>(a σ).bind F
noncomputable def zF:FA:=fun _=>some []
noncomputable def z8 (a:FE) (r:FA):FA:=fun σ=>(a σ).bind fun x=>(r σ).bind fun xs=>some (x::xs)
noncomputable def tK:D->Option Bool
 | .bl b=>some b
 | _=>none
noncomputable def tE (a:FE):FT:=fun σ=>(a σ).bind tK
noncomputable def Km (a b:FT):FT:=fun σ=>(a σ).bind fun k=>match k with
 | true=>b σ
 | false=>some false
noncomputable def Y2 (a b:FT):FT:=fun σ=>(a σ).bind fun k=>match k with
 | true=>some true
 | false=>b σ
noncomputable def t_ (a:FT):FT:=fun σ=>(a σ).bind fun k=>some (!k)
noncomputable def pZ (a b:FE):FE:=fun σ=>(a σ).bind fun x=>(tK x).bind fun k=>match k with
 | true=>b σ
 | false=>some (.bl false)
noncomputable def V8 (a b:FE):FE:=fun σ=>(a σ).bind fun x=>(tK x).bind fun k=>match k with
 | true=>some (.bl true)
 | false=>b σ
noncomputable def X2 (a:FE):FE:=fun σ=>(a σ).bind fun x=>(tK x).bind fun k=>some (.bl (!k))
noncomputable def uQ (c:FT) (a b:FE):FE:=fun σ=>(c σ).bind fun k=>match k with
 | true=>a σ
 | false=>b σ
noncomputable def xX (a:FA):FE:=fun σ=>(a σ).bind fun xs=>some (.tup xs)
noncomputable def xf (a:FA):FE:=fun σ=>(a σ).bind fun xs=>some (.lst xs)
noncomputable def ym:D->D->Option D
 | .int i,.int j=>some (.int (i+j))
 | .int i,.bl b=>some (.int (i+(if b then 1 else 0)))
 | .str x,.str y=>if x.length+y.length<=yP then some (.str (x++y)) else none
 | .lst x,.lst y=>if x.length+y.length<=yP then some (.lst (x++y)) else none
 | .tup x,.tup y=>if x.isEmpty=false/\x.length+y.length<=yP then some (.tup (x++y)) else none
 | _,_=>none
noncomputable def fI (C:Int->Int->Bool) (g:Int->Int->Int):D->D->Option D
 | .int i,.int j=>match C i j with
  | true=>some (.int (g i j))
  | false=>none
 | _,_=>none
noncomputable def uT:D->D->Option D
 | .int i,.int j=>some (.int (i - j))
 | _,_=>none
noncomputable def vi (i:Int):Bool:=decide (-(2 ^ 64)<i)&&decide (i<2 ^ 64)
noncomputable def u9:D->D->Option D:=fI (fun i _=>vi i) (·*·)
noncomputable def kA:D->D->Option D:=fI (fun _ j=>vi j) (·*·)
noncomputable def yf:D->D->Option D:=fI (fun _ j=>decide (0<j)) (· % ·)
noncomputable def uo:D->D->Option D:=fI (fun _ j=>decide (0<j)&&decide (j<2 ^ 64)) (· / ·)
noncomputable def uc (i j:Int):Bool:=decide (0<=j)&&(decide (j<=1000000)&&decide (i.natAbs<2 ^ 64))
noncomputable def Lv:D->D->Option D:=fI uc fun i j=>i ^ j.toNat
noncomputable def uS:D->D->Option D:=fI uc fun i j=>i*2 ^ j.toNat
noncomputable def kB:D->D->Option D:=fI (fun _ j=>decide (0<=j)) fun i j=>i / 2 ^ j.toNat
noncomputable def u8 (g:Int->Int->Int):D->D->Option D
 | .int i,.int j=>some (.int (g i j))
 | _,_=>none
noncomputable def VG:D->Option D
 | .int i=>some (.int (-i))
 | _=>none
noncomputable def Qa:D->Option D
 | .int i=>some (.int (Builtin.bitNot i))
 | _=>none
noncomputable def xT (g:Int->Int->Bool):D->D->Option D
 | .int i,.int j=>some (.bl (g i j))
 | _,_=>none
noncomputable def jq:D->Bool
 | .non=>true
 | _=>false
noncomputable def XB:D->D->Option D
 | x,.non=>some (.bl (jq x))
 | _,_=>none
noncomputable def VH:D->D->Option D
 | x,.non=>some (.bl (!jq x))
 | _,_=>none
noncomputable def yd:D->Bool
 | .non=>true
 | .bl _=>true
 | .int _=>true
 | .str _=>true
 | _=>false
noncomputable def ve (f:D->D->Bool):List D->List D->Bool
 | x::xs,y::ys=>f x y&&ve f xs ys
 | _,_=>true
noncomputable def wG:Nat->D->D->Bool
 | 0,_,_=>false
 | n+1,x,y=>match x,y with
  | .tup xs,.tup ys=>ve (wG n) xs ys
  | .lst xs,.lst ys=>ve (wG n) xs ys
  | x,y=>yd x&&yd y
noncomputable def qW:D->D->Option Bool
 | .int _,.bl _=>none
 | .bl _,.int _=>none
 | x,y=>match wG 6 x y with
  | true=>some (yk x y)
  | false=>none
noncomputable def zo (x y:D):Option D:=(qW x y).bind fun k=>some (.bl k)
noncomputable def vA (x y:D):Option D:=(qW x y).bind fun k=>some (.bl (!k))
noncomputable def wZ:D->Option (Sum Int Str)
 | .int i=>some (.inl i)
 | .str x=>some (.inr x)
 | _=>none
noncomputable def getK {α:Type}:List (Sum Int Str)->List α->Sum Int Str->Option α
 | k'::ks,v::vs,k=>if k'=k then some v else getK ks vs k
 | _,_,_=>none
noncomputable def w8 (ks:List (Sum Int Str)) (k:Sum Int Str):Bool:=ks.any fun j=>decide (j=k)
noncomputable def xo (ks:List (Sum Int Str)) (k:Sum Int Str):List (Sum Int Str):=if w8 ks k=true then ks else ks++[k]
noncomputable def yi {α:Type} (ks:List (Sum Int Str)) (vs:List α) (k:Sum Int Str) (v:α):List α:=if w8 ks k=true then List.zipWith (fun k' x=>if k'=k then v else x) ks vs else vs++[v]
noncomputable def X9 (x:D):D->Option Bool
 | .lst ys=>match yd x&&ys.all yd with
  | true=>some (ys.any fun y=>yk y x)
  | false=>none
 | .tup ys=>match yd x&&ys.all yd with
  | true=>some (ys.any fun y=>yk y x)
  | false=>none
 | .str j=>match x with
  | .str i=>some (!(Builtin.Str.occurrences j i 0 j.length 1).isEmpty)
  | _=>none
 | .dic ks _=>(wZ x).bind fun k=>some (w8 ks k)
 | _=>none
noncomputable def xg (x y:D):Option D:=(X9 x y).bind fun k=>some (.bl k)
noncomputable def XE (x y:D):Option D:=(X9 x y).bind fun k=>some (.bl (!k))
noncomputable def wW {α:Type} (xs:List α) (i:Int):Option α:=if 0<=i then xs[i.toNat]? else if -(xs.length:Int)<=i then xs[(i+xs.length).toNat]? else none
noncomputable def zG:D->D->Option D
 | .lst xs,.int i=>wW xs i
 | .tup xs,.int i=>wW xs i
 | .str z,.int i=>(wW z.cps.toList i).bind fun c=>some (.str ⟨#[c]⟩)
 | .dic ks vs,k=>(wZ k).bind fun k=>getK ks vs k
 | _,_=>none
noncomputable def ph:List D->Option D
 | [.lst xs]=>some (.int xs.length)
 | [.tup xs]=>some (.int xs.length)
 | [.str z]=>some (.int z.length)
 | _=>none
noncomputable def XC:List D->Option D
 | [.int i,.int j]=>some (.int (if j > i then j else i))
 | _=>none
noncomputable def VD:List D->Option D
 | [.int i]=>some (.int i)
 | [.bl k]=>some (.int (if k then 1 else 0))
 | _=>none
inductive qQ where
 | int | bool | str | list | tuple
noncomputable def qQ.nm:qQ->String
 | .int => "int"
 | .bool => "bool"
 | .str => "str"
 | .list => "list"
 | .tuple => "tuple"
noncomputable def XR:qQ->D->Option Bool
 | _,.dic _ _=>none
 | _,.exc _=>none
 | _,.obj _ _ _=>none
 | .int,.int _=>some true
 | .int,.bl _=>some true
 | .int,_=>some false
 | .bool,.bl _=>some true
 | .bool,_=>some false
 | .str,.str _=>some true
 | .str,_=>some false
 | .list,.lst _=>some true
 | .list,_=>some false
 | .tuple,.tup _=>some true
 | .tuple,_=>some false
noncomputable def pd (T:qQ) (a:FE):FE:=fun τ=>(a τ).bind fun d=>(XR T d).bind fun b=>some (.bl b)
noncomputable def wj (a:FE):FA:=fun σ=>(a σ).bind fun d=>match d with
 | .lst xs=>some xs
 | .tup xs=>some xs
 | .str z=>some (z.cps.toList.map fun c=>.str ⟨#[c]⟩)
 | _=>none
noncomputable def vM (lo hi:FE):FA:=fun σ=>(lo σ).bind fun x=>(hi σ).bind fun y=>match x,y with
 | .int i,.int j=>if i.natAbs<=yP/\j.natAbs<=yP/\(j - i).toNat<=yP then some ((List.range (j - i).toNat).map fun k:Nat=>.int (i+k)) else none
 | _,_=>none
noncomputable def yH (i:Nat):FG:=fun d σ=>some (σ.set i (some (false,d)))
noncomputable def qX (i j:Nat):FG:=fun d σ=>match d with
 | .tup [x,y]=>some ((σ.set i (some (false,x))).set j (some (false,y)))
 | _=>none
noncomputable def xq:FS:=fun σ=>some (.nx σ)
noncomputable def zj (a b:FS):FS:=fun σ=>(a σ).bind fun f=>match f with
 | .nx σ'=>b σ'
 | f=>some f
noncomputable def yU (i:Nat) (e:FE):FS:=fun σ=>(e σ).bind fun d=>some (.nx (σ.set i (some (false,d))))
noncomputable def qj (i:Nat) (e:FE):FS:=fun σ=>(e σ).bind fun d=>some (.nx (σ.set i (some (true,d))))
noncomputable def z_ (e:FE):FS:=fun σ=>(e σ).bind fun d=>some (.rt false d)
noncomputable def ud (e:FE):FS:=fun σ=>(e σ).bind fun d=>some (.rt true d)
noncomputable def qi (i:Nat):FS:=fun σ=>match σ[i]? with
 | some (some (true,d))=>some (.rt true d)
 | _=>none
noncomputable def xF (c:FT) (a b:FS):FS:=fun σ=>(c σ).bind fun k=>match k with
 | true=>a σ
 | false=>b σ
noncomputable def tO (g:FG) (b:FS):List D->zf->Option Fl
 | [],σ=>some (.nx σ)
 | d::r,σ=>(g d σ).bind fun σ1=>(b σ1).bind fun f=>match f with
  | .nx σ2=>tO g b r σ2
  | .ct σ2=>tO g b r σ2
  | .bk σ2=>some (.nx σ2)
  | .rt o d=>some (.rt o d)
noncomputable def t3 (it:FA) (g:FG) (b:FS):FS:=fun σ=>(it σ).bind fun ds=>tO g b ds σ
noncomputable def km (i:Nat):FS:=fun σ=>match σ[i]? with
 | some (some (_,d))=>some (.nx (σ.set i (some (false,d))))
 | _=>none
noncomputable def HE (i:Nat) (F:D->Option D):FS:=fun σ=>match σ[i]? with
 | some (some (true,d))=>(F d).bind fun d'=>some (.nx (σ.set i (some (true,d'))))
 | _=>none
noncomputable def kn (i:Nat) (F:D->D->Option D) (e:FE):FS:=fun σ=>match σ[i]? with
 | some (some (true,d))=>(e σ).bind fun x=>(F d x).bind fun d'=>some (.nx (σ.set i (some (true,d'))))
 | _=>none
noncomputable def g_:D->D->Option D
 | .lst xs,y=>if xs.length<yP then some (.lst (xs++[y])) else none
 | _,_=>none
noncomputable def vo (i:Nat) (k v:FE):FS:=fun σ=>(v σ).bind fun y=>match σ[i]? with
 | some (some (true,.dic ks ds))=>(k σ).bind fun x=>(wZ x).bind fun x=>if ks.length<yP then some (.nx (σ.set i (some (true,.dic (xo ks x) (yi ks ds x y))))) else none
 | _=>none
noncomputable def X8 (ks:List (Sum Int Str)) (x:D):Option D:=(wZ x).bind fun k=>some (.bl (w8 ks k))
noncomputable def QT (d k e:FE):FE:=fun σ=>(d σ).bind fun x=>match x with
 | .dic ks ds=>(k σ).bind fun y=>(e σ).bind fun z=>(wZ y).bind fun y=>some ((getK ks ds y).getD z)
 | _=>none
noncomputable def X1 (ks:List Str) (vs:FA):FE:=fun σ=>(vs σ).bind fun ds=>if ks.length=ds.length then some (.dic (ks.map .inr) ds) else none
noncomputable def um (F F':D->D->Option D) (a b c:FE):FE:=fun τ=>(a τ).bind fun x=>(b τ).bind fun y=>(F x y).bind fun k=>(tK k).bind fun k=>match k with
 | true=>(c τ).bind fun z=>F' y z
 | false=>some (.bl false)
noncomputable def xU (g:FG) (c:FT) (e:FE) (σ:zf):List D->Option (List D)
 | []=>some []
 | d::r=>(g d σ).bind fun σ1=>(c σ1).bind fun k=>match k with
  | true=>(e σ1).bind fun x=>(xU g c e σ r).bind fun xs=>some (x::xs)
  | false=>xU g c e σ r
noncomputable def xi:FT:=fun _=>some true
noncomputable def wX (n:Nat) (it:FA) (g:FG) (c:FT) (e:FE):FE:=fun σ=>(it σ).bind fun ds=>(xU g c e (σ++List.replicate n none) ds).bind fun xs=>some (.lst xs)
noncomputable def zZ (n:Nat) (b:FS) (ds:List D):Option (Bool×D):=(b (ds.map (fun d=>some (false,d))++List.replicate (n - ds.length) none)).bind fun f=>match f with
 | .rt o d=>some (o,d)
 | .nx _=>some (false,.non)
 | _=>none
noncomputable def zi (F:List D->Option (Bool×D)) (a:FA):FE:=fun σ=>(a σ).bind fun ds=>(F ds).bind fun r=>some r.2
noncomputable def wz (F:List D->Option (Bool×D)) (a:FA):FE:=fun σ=>(a σ).bind fun ds=>(F ds).bind fun r=>match r with
 | (true,d)=>some d
 | _=>none
end L3
namespace L3
open PySem PySem.Spec PyProof.Rows L2
noncomputable abbrev St:=L2.St
noncomputable def Ob (_:PySem.W.Frag) (H:Hp) (a:Addr) (kvs:List (zI×V)):Prop:=Rd H a (.dK kvs)
mutual
noncomputable def zP (K:PySem.W.Frag) (H:Hp):D->V->Prop
 | .non,v=>v=.non
 | .bl b,v=>v=.bl b
 | .int i,v=>v=.int i
 | .str x,v=>v=.str x/\x.length<=sizeLine
 | .tup ds,v=>∃ a vs,v=.ref a/\yQ K H a vs/\Reps K H ds vs/\ds.length<=sizeLine
 | .lst ds,v=>∃ a vs,v=.ref a/\yB K H a vs/\Reps K H ds vs/\ds.length<=sizeLine
 | .dic ks ds,v=>∃ a vs,v=.ref a/\Ob K H a (ks.zip vs)/\ks.length=vs.length/\Reps K H ds vs/\ds.length<=sizeLine
 | .exc x,v=>∃ a C,v=.ref a/\PySem.W.nsIn K mainGlobals x=some (some (.ref C))/\H a=some (.ext (OW a C))
 | .obj x fs ds,v=>∃ a C dx vs,v=.ref a/\PySem.W.nsIn K mainGlobals x=some (some (.ref C))/\H a=some (.ins C dx (fs.zip vs))/\fs.length=vs.length/\Reps K H ds vs
noncomputable def Reps (K:PySem.W.Frag) (H:Hp):List D->List V->Prop
 | [],vs=>vs=[]
 | d::ds,vs=>∃ v r,vs=v::r/\zP K H d v/\Reps K H ds r
end
section
variable {K:PySem.W.Frag} {G H H':Hp}
theorem Rd.mono {a:Addr} {u:HO} (s:zW H H') (h:Rd H a u):Rd H' a u:=by
 rcases h with h | ⟨o,h⟩
 ·exact .inl (s _ _ h)
 ·exact .inr ⟨o,s _ _ h⟩
theorem wo {a:Addr} {xs:List V} (s:zW H H') (h:yQ K H a xs):yQ K H' a xs:=by
 rcases h with h | h
 ·exact .inl (Rd.mono s h)
 ·exact .inr h
theorem wd {a:Addr} {xs:List V} (s:zW H H') (h:yB K H a xs):yB K H' a xs:=by
 rcases h with h | h
 ·exact .inl (Rd.mono s h)
 ·exact .inr h
theorem Reps.imp:∀ {ds:List D} {vs:List V},(∀ d∈ds,∀ v,zP K H d v->zP K H' d v)->Reps K H ds vs->Reps K H' ds vs
 | [],_,_,h=>h
 | d::ds,vs,f,h=>by
  obtain ⟨v,r,rfl,hv,hr⟩:=h
  exact ⟨v,r,rfl,f d List.mem_cons_self v hv,Reps.imp (fun d' m=>f d' (List.mem_cons_of_mem _ m)) hr⟩
theorem zP.mono (s:zW H H'):∀ {d:D} {v:V},zP K H d v->zP K H' d v:=fun {d}=>by
 refine D.ind (P:=fun d=>∀ v,zP K H d v->zP K H' d v) (fun v h=>h) (fun b v h=>h) (fun i v h=>h) (fun x v h=>h) ?_ ?_ ?_ ?_ ?_ d _
 ·rintro xs ih v ⟨a,vs,e,q,r,l⟩
  exact ⟨a,vs,e,wo s q,Reps.imp ih r,l⟩
 ·rintro xs ih v ⟨a,vs,e,q,r,l⟩
  exact ⟨a,vs,e,wd s q,Reps.imp ih r,l⟩
 ·rintro ks xs ih v ⟨a,vs,e,q,z,r,l⟩
  exact ⟨a,vs,e,Rd.mono s q,z,Reps.imp ih r,l⟩
 ·rintro x v ⟨a,C,e,n,h⟩
  exact ⟨a,C,e,n,s _ _ h⟩
 ·rintro x fs xs ih v ⟨a,C,dx,vs,e,n,h,l,r⟩
  exact ⟨a,C,dx,vs,e,n,s _ _ h,l,Reps.imp ih r⟩
theorem Reps.mono (s:zW H H') {ds:List D} {vs:List V} (h:Reps K H ds vs):Reps K H' ds vs:=Reps.imp (fun _ _ _=>zP.mono s) h
theorem Reps.length:∀ {ds:List D} {vs:List V},Reps K H ds vs->vs.length=ds.length
 | [],_,h=>by cases (show _=[] from h); rfl
 | d::ds,_,h=>by
  obtain ⟨v,r,rfl,_,hr⟩:=h
  rw [List.length_cons,List.length_cons,Reps.length hr]
theorem Reps.get:∀ {ds:List D} {vs:List V} {i:Nat} {d:D},Reps K H ds vs->ds[i]?=some d->∃ v,vs[i]?=some v/\zP K H d v
 | [],_,_,_,_,e=>by cases e
 | d::ds,_,0,_,h,e=>by
  obtain ⟨v,r,rfl,hv,hr⟩:=h
  cases e
  exact ⟨v,rfl,hv⟩
 | d::ds,_,i+1,d',h,e=>by
  obtain ⟨v,r,rfl,hv,hr⟩:=h
  exact Reps.get (i:=i) hr (by simpa using e)
theorem Reps.at {ds:List D} {vs:List V} {i:Nat} {v:V} (h:Reps K H ds vs) (e:vs[i]?=some v):∃ d,ds[i]?=some d/\zP K H d v:=by
 have l:=h.length
 have hi:i<ds.length:=by rw [<- l]; exact (List.getElem?_eq_some_iff.mp e).1
 obtain ⟨v',e',r⟩:=h.get (List.getElem?_eq_getElem hi)
 rw [e] at e'
 cases e'
 exact ⟨_,List.getElem?_eq_getElem hi,r⟩
theorem Reps.append:∀ {ds es:List D} {vs us:List V},Reps K H ds vs->Reps K H es us->Reps K H (ds++es) (vs++us)
 | [],_,_,_,h,g=>by cases (show _=[] from h); exact g
 | d::ds,_,_,_,h,g=>by
  obtain ⟨v,r,rfl,hv,hr⟩:=h
  exact ⟨v,_,rfl,hv,Reps.append hr g⟩
theorem Reps.one {d:D} {v:V} (h:zP K H d v):Reps K H [d] [v]:=⟨v,[],rfl,h,rfl⟩
theorem Reps.ints:∀ {ns:List Int},Reps K H (ns.map D.int) (ns.map V.int)
 | []=>rfl
 | n::ns=>⟨_,_,rfl,rfl,Reps.ints⟩
end
structure zK (G H G' H':Hp):Prop where
 g:zW G G'
 h:zW H H'
 gh:zW G' H'
 new:∀ p,G' p≠none->G p≠none\/H p=none
section
variable {G H G' H' G0 H0 G1 H1 G2 H2:Hp} {p:Addr} {o:HO}
theorem zK.refl (s:zW G H):zK G H G H:=⟨zW.refl _,zW.refl _,s,fun _ h=>.inl h⟩
theorem zK.trans (a:zK G H G1 H1) (b:zK G1 H1 G2 H2):zK G H G2 H2:=⟨a.g.trans b.g,a.h.trans b.h,b.gh,fun p h=>by
 rcases b.new p h with z | z
 ·exact a.new p z
 ·exact .inr (a.h.free z)⟩
theorem zK.rebase (a:zK G0 H0 G1 H1) (b:zK G1 H0 G2 H2):zK G0 H0 G2 H2:=⟨a.g.trans b.g,b.h,b.gh,fun p h=>by
 rcases b.new p h with z | z
 ·exact a.new p z
 ·exact .inr z⟩
theorem zK.far (a:zK G0 H0 G1 H1):zK G1 H0 G1 H1:=⟨zW.refl _,a.h,a.gh,fun _ h=>.inl h⟩
theorem Us {H:Hp} {p q:Addr} {o:HO} (h:zQ H p o q≠none):q=p\/H q≠none:=by
 by_cases e:q=p
 ·exact .inl e
 ·rw [zw e] at h
  exact .inr h
theorem HF (s:zW G H):zW (zQ G p o) (zQ H p o):=fun b u e=>by
 by_cases hb:b=p
 ·subst hb
  rw [yK] at e ⊢
  exact e
 ·rw [zw hb] at e ⊢
  exact s _ _ e
theorem zK.lay (s:zW G H) (h:H p=none):zK G H (zQ G p o) (zQ H p o):=⟨wB (s.free h) o,wB h o,HF s,fun q z=>by
 rcases Us z with e | e
 ·exact .inr (e ▸ h)
 ·exact .inl e⟩
theorem zK.layO (s:zW G H) (h:H p=none):zK G H G (zQ H p o):=⟨zW.refl _,wB h o,s.trans (wB h o),fun _ z=>.inl z⟩
theorem zK.frz (a:zK G H G1 H1) (h:H p=none) (g:G1 p=none) (e:H1 p=some o):zK G H (zQ G1 p o) H1:=⟨a.g.trans (wB g o),a.h,fun b u q=>by
 by_cases hb:b=p
 ·subst hb
  rw [yK] at q
  cases q
  exact e
 ·rw [zw hb] at q
  exact a.gh _ _ q,fun q z=>by
 rcases Us z with w | w
 ·exact .inr (w ▸ h)
 ·exact a.new q w⟩
end
noncomputable def xc (K:PySem.W.Frag) (G H:Hp) (d:D) (p:Addr):Prop:=match d with
 | .lst ds=>∃ vs,H p=some (.lst vs)/\Reps K G ds vs/\ds.length<=sizeLine
 | .dic ks ds=>∃ vs,H p=some (.dK (ks.zip vs))/\ks.length=vs.length/\Reps K G ds vs/\ds.length<=sizeLine
 | _=>False
section
variable {K:PySem.W.Frag} {G H G' H':Hp} {d:D} {p:Addr}
theorem xc.some (h:xc K G H d p):H p≠none:=by
 cases d with
 | lst ds=>obtain ⟨vs,e,_⟩:=h; rw [e]; exact fun z=>nomatch z
 | dic ks ds=>obtain ⟨vs,e,_⟩:=h; rw [e]; exact fun z=>nomatch z
 | _=>exact h.elim
theorem xc.mono (g:zW G G') (h:zW H H') (o:xc K G H d p):xc K G' H' d p:=by
 cases d with
 | lst ds=>obtain ⟨vs,e,r,l⟩:=o; exact ⟨vs,h _ _ e,r.mono g,l⟩
 | dic ks ds=>obtain ⟨vs,e,z,r,l⟩:=o; exact ⟨vs,h _ _ e,z,r.mono g,l⟩
 | _=>exact o.elim
theorem xc.rep (s:zW G H) (o:xc K G H d p):zP K H d (.ref p):=by
 cases d with
 | lst ds=>obtain ⟨vs,e,r,l⟩:=o; exact ⟨p,vs,rfl,yB.of e,r.mono s,l⟩
 | dic ks ds=>obtain ⟨vs,e,z,r,l⟩:=o; exact ⟨p,vs,rfl,.inl e,z,r.mono s,l⟩
 | _=>exact o.elim
theorem xc.frz (o:xc K G H d p) (g:G p=none):∃ u,H p=Option.some u/\zP K (zQ G p u) d (.ref p):=by
 cases d with
 | lst ds=>obtain ⟨vs,e,r,l⟩:=o; exact ⟨_,e,p,vs,rfl,yB.of yK,r.mono (wB g _),l⟩
 | dic ks ds=>obtain ⟨vs,e,z,r,l⟩:=o; exact ⟨_,e,p,vs,rfl,.inl yK,z,r.mono (wB g _),l⟩
 | _=>exact o.elim
end
structure zh (K:PySem.W.Frag) (n:Nat) (G0 H0 G H:Hp) (τ:zf) (σ:St):Prop where
 ext:zK G0 H0 G H
 l1:σ.length=n
 l2:τ.length=n
 fr:∀ (i:Nat) (d:D),τ[i]?=some (some (false,d))->∃ v,σ[i]?=some (some v)/\zP K G d v
 ow:∀ (i:Nat) (d:D),τ[i]?=some (some (true,d))->∃ p,σ[i]?=some (some (V.ref p))/\G p=none/\H0 p=none/\xc K G H d p
 ap:∀ (i j:Nat) (d e:D) (p:Addr),i≠j->τ[i]?=some (some (true,d))->τ[j]?=some (some (true,e))->σ[i]?=some (some (V.ref p))->σ[j]?=some (some (V.ref p))->False
section
variable {K:PySem.W.Frag} {n:Nat} {G0 H0 G H G' H':Hp} {τ:zf} {σ:St}
theorem zh.go (E:zh K n G0 H0 G H τ σ) (x:zK G H G' H'):zh K n G0 H0 G' H' τ σ:=⟨E.ext.trans x,E.l1,E.l2,fun i d h=>by
 obtain ⟨v,e,r⟩:=E.fr i d h
 exact ⟨v,e,r.mono x.g⟩,fun i d h=>by
 obtain ⟨p,e,g,z,o⟩:=E.ow i d h
 refine ⟨p,e,?_,z,o.mono x.g x.h⟩
 cases q:G' p with
 | none=>rfl
 | some u=>
  rcases x.new p (by rw [q]; exact fun z=>nomatch z) with w | w
  ·exact absurd g w
  ·exact absurd w o.some,E.ap⟩
theorem zh.far (E:zh K n G0 H0 G H τ σ):zh K n G H0 G H τ σ:=⟨E.ext.far,E.l1,E.l2,E.fr,E.ow,E.ap⟩
theorem zh.near {Ga Ha:Hp} (a:zK G0 H0 Ga Ha) (E:zh K n Ga H0 G H τ σ):zh K n G0 H0 G H τ σ:=⟨a.rebase E.ext,E.l1,E.l2,E.fr,E.ow,E.ap⟩
theorem zh.lt {i:Nat} {s:Option Sl} (E:zh K n G0 H0 G H τ σ) (h:τ[i]?=some s):i<n:=by
 rw [<- E.l2]
 exact (List.getElem?_eq_some_iff.mp h).1
theorem xY {α:Type} {xs:List α} {i j:Nat} {x y:α} (h:(xs.set i x)[j]?=some y):(j=i/\y=x)\/(j≠i/\xs[j]?=some y):=by
 rw [List.getElem?_set] at h
 by_cases e:i=j
 ·subst e
  rw [if_pos rfl] at h
  split at h
  ·cases h; exact .inl ⟨rfl,rfl⟩
  ·cases h
 ·rw [if_neg e] at h
  exact .inr ⟨fun z=>e z.symm,h⟩
theorem qY {α:Type} {xs:List α} {i:Nat} {x:α} (h:i<xs.length):(xs.set i x)[i]?=some x:=by rw [List.getElem?_set,if_pos rfl,if_pos h]
theorem vB {α:Type} {xs:List α} {i j:Nat} {x:α} (h:j≠i):(xs.set i x)[j]?=xs[j]?:=by rw [List.getElem?_set,if_neg (fun z=>h z.symm)]
theorem zh.set {i:Nat} {d:D} {v:V} (E:zh K n G0 H0 G H τ σ) (hi:i<n) (r:zP K G d v):zh K n G0 H0 G H (τ.set i (some (false,d))) (σ.set i (some v)):=⟨E.ext,by rw [List.length_set]; exact E.l1,by rw [List.length_set]; exact E.l2,fun j e h=>by
 rcases xY h with ⟨rfl,z⟩ | ⟨ne,z⟩
 ·cases z
  exact ⟨v,qY (by rw [E.l1]; exact hi),r⟩
 ·rw [vB ne]
  exact E.fr j e z,fun j e h=>by
 rcases xY h with ⟨rfl,z⟩ | ⟨ne,z⟩
 ·cases z
 ·rw [vB ne]
  exact E.ow j e z,fun j k e f p hne h1 h2=>by
 rcases xY h1 with ⟨rfl,z⟩ | ⟨ne,z⟩
 ·cases z
 ·rcases xY h2 with ⟨rfl,z'⟩ | ⟨ne',z'⟩
  ·cases z'
  ·rw [vB ne,vB ne']
   exact E.ap j k e f p hne z z'⟩
theorem zh.setO {i:Nat} {d:D} {p:Addr} (E:zh K n G0 H0 G H τ σ) (hi:i<n) (hg:G p=none) (h0:H0 p=none) (o:xc K G H d p) (hn:∀ (j:Nat) (e:D),j≠i->τ[j]?=some (some (true,e))->σ[j]?=some (some (V.ref p))->False) :
  zh K n G0 H0 G H (τ.set i (some (true,d))) (σ.set i (some (.ref p))):=⟨E.ext,by rw [List.length_set]; exact E.l1,by rw [List.length_set]; exact E.l2,fun j e h=>by
 rcases xY h with ⟨rfl,z⟩ | ⟨ne,z⟩
 ·cases z
 ·rw [vB ne]
  exact E.fr j e z,fun j e h=>by
 rcases xY h with ⟨rfl,z⟩ | ⟨ne,z⟩
 ·cases z
  exact ⟨p,qY (by rw [E.l1]; exact hi),hg,h0,o⟩
 ·rw [vB ne]
  exact E.ow j e z,fun j k e f q hne h1 h2 h3 h4=>by
 rcases xY h1 with ⟨rfl,z⟩ | ⟨ne,z⟩
 ·rcases xY h2 with ⟨rfl,z'⟩ | ⟨ne',z'⟩
  ·exact hne rfl
  ·rw [qY (by rw [E.l1]; exact hi)] at h3
   rw [vB ne'] at h4
   cases h3
   exact hn k f ne' z' h4
 ·rcases xY h2 with ⟨rfl,z'⟩ | ⟨ne',z'⟩
  ·rw [qY (by rw [E.l1]; exact hi)] at h4
   rw [vB ne] at h3
   cases h4
   exact hn j e ne z h3
  ·rw [vB ne] at h3
   rw [vB ne'] at h4
   exact E.ap j k e f q hne z z' h3 h4⟩
theorem zh.newO {i:Nat} {p:Addr} (E:zh K n G0 H0 G H τ σ) (hp:H p=none):∀ (j:Nat) (e:D),j≠i->τ[j]?=some (some (true,e))->σ[j]?=some (some (V.ref p))->False:=fun j e _ h1 h2=>by
 obtain ⟨q,e1,_,_,o⟩:=E.ow j e h1
 rw [h2] at e1
 cases e1
 exact o.some hp
theorem zh.freeze {i:Nat} {b:Bool} {d:D} (E:zh K n G0 H0 G H τ σ) (hi:τ[i]?=some (some (b,d))):∃ G',zh K n G0 H0 G' H (τ.set i (some (false,d))) σ/\zW G G':=by
 have hin:=E.lt hi
 cases b with
 | false=>
  refine ⟨G,?_,zW.refl _⟩
  have e:τ.set i (some (false,d))=τ:=by
   apply List.ext_getElem?
   intro j
   by_cases hj:j=i
   ·subst hj; rw [qY (by rw [E.l2]; exact hin),hi]
   ·rw [vB hj]
  rw [e]
  exact E
 | true=>
  obtain ⟨p,e,g,z,o⟩:=E.ow i d hi
  obtain ⟨u,hu,r⟩:=o.frz g
  have x:zK G0 H0 (zQ G p u) H:=E.ext.frz z g hu
  refine ⟨zQ G p u,⟨x,E.l1,by rw [List.length_set]; exact E.l2,fun j d' h=>?_,fun j d' h=>?_,fun j k e1 f q hne h1 h2=>?_⟩,wB g _⟩
  ·rcases xY h with ⟨rfl,w⟩ | ⟨ne,w⟩
   ·cases w
    exact ⟨_,e,r⟩
   ·obtain ⟨v,e',r'⟩:=E.fr j d' w
    exact ⟨v,e',r'.mono (wB g _)⟩
  ·rcases xY h with ⟨rfl,w⟩ | ⟨ne,w⟩
   ·cases w
   ·obtain ⟨q,e',g',z',o'⟩:=E.ow j d' w
    refine ⟨q,e',?_,z',o'.mono (wB g _) (zW.refl _)⟩
    rw [zw (fun c=>?_)]
    ·exact g'
    ·subst c
     exact E.ap i j d d' q (fun c=>ne c.symm) hi w e e'
  ·rcases xY h1 with ⟨rfl,w⟩ | ⟨ne,w⟩
   ·cases w
   ·rcases xY h2 with ⟨rfl,w'⟩ | ⟨ne',w'⟩
    ·cases w'
    ·exact E.ap j k e1 f q hne w w'
end
section
variable (X:Cx)
structure SE (e:Expr) (f:FE):Prop where
 h:∃ t,PE X e t/\∀ {G0 H0 G H:Hp} {τ:zf} {σ:St} {d:D} {Q:VK},zh X.K X.N.length G0 H0 G H τ σ->f τ=some d->(∀ v G' H',zK G H G' H'->zP X.K G' d v->Q v H')->t σ H Q
structure SB (e:Expr) (f:FE):Prop where
 h:∃ t,PE X e t/\∀ {G0 H0 G H:Hp} {τ:zf} {σ:St} {d:D} {Q:VK},zh X.K X.N.length G0 H0 G H τ σ->f τ=some d->(∀ v G' H',zK G H G' H'->zP X.K H' d v->Q v H')->t σ H Q
structure SF (e:Expr) (f:FE):Prop where
 h:∃ t,PE X e t/\∀ {G0 H0 G H:Hp} {τ:zf} {σ:St} {d:D} {Q:VK},zh X.K X.N.length G0 H0 G H τ σ->f τ=some d->(∀ p G' H',zK G H G' H'->H p=none->G' p=none->xc X.K G' H' d p->Q (.ref p) H')->t σ H Q
structure ST (e:Expr) (f:FT):Prop where
 h:∃ t,PT X e t/\∀ {G0 H0 G H:Hp} {τ:zf} {σ:St} {d:Bool} {Q:Bool->Hp->Prop},zh X.K X.N.length G0 H0 G H τ σ->f τ=some d->(∀ G' H',zK G H G' H'->Q d H')->t σ H Q
structure SW (e:Expr) (f:FT):Prop where
 h:∃ t,PW X e t/\∀ {G0 H0 G H:Hp} {τ:zf} {σ:St} {d:Bool} {Q:Bool->Hp->Prop},zh X.K X.N.length G0 H0 G H τ σ->f τ=some d->(∀ G' H',zK G H G' H'->Q d H')->t σ H Q
structure SA (es:List Expr) (f:FA):Prop where
 h:∃ t,PA X es t/\∀ {G0 H0 G H:Hp} {τ:zf} {σ:St} {ds:List D} {Q:List V->Hp->Prop},zh X.K X.N.length G0 H0 G H τ σ->f τ=some ds->(∀ vs G' H',zK G H G' H'->Reps X.K G' ds vs->Q vs H')->t σ H Q
structure ge (es:List Expr) (f:FA):Prop where
 h:∃ t,PA X es t/\∀ {G0 H0 G H:Hp} {τ:zf} {σ:St} {ds:List D} {Q:List V->Hp->Prop},zh X.K X.N.length G0 H0 G H τ σ->f τ=some ds->(∀ vs G' H',zK G H G' H'->Reps X.K H' ds vs->Q vs H')->t σ H Q
end
noncomputable def vH (K:PySem.W.Frag) (n:Nat) (G0 H0:Hp) (E:we):Fl->Prop
 | .nx τ=>∀ σ G H,zh K n G0 H0 G H τ σ->E.nx σ H
 | .bk τ=>∀ σ G H,zh K n G0 H0 G H τ σ->E.bk σ H
 | .ct τ=>∀ σ G H,zh K n G0 H0 G H τ σ->E.ct σ H
 | .rt false d=>∀ v G H,zK G0 H0 G H->zP K G d v->E.rt v H
 | .rt true d=>∀ p G H,zK G0 H0 G H->H0 p=none->G p=none->xc K G H d p->E.rt (.ref p) H
section
variable (X:Cx)
structure SS (st:Stmt) (f:FS):Prop where
 h:∃ t,PS X st t/\∀ {G0 H0 G H:Hp} {τ:zf} {σ:St} {fl:Fl} {E:we},zh X.K X.N.length G0 H0 G H τ σ->f τ=some fl->vH X.K X.N.length G0 H0 E fl->t E σ H
structure vY (st:List Stmt) (f:FS):Prop where
 h:∃ t,wV X st t/\∀ {G0 H0 G H:Hp} {τ:zf} {σ:St} {fl:Fl} {E:we},zh X.K X.N.length G0 H0 G H τ σ->f τ=some fl->vH X.K X.N.length G0 H0 E fl->t E σ H
end
structure qR (K:PySem.W.Frag) (J:It) (G:Hp) (ds:List D):Prop where
 go:∀ i G2 H,zW G G2->zW G2 H->i<ds.length->J.go i H
 yld:∀ i G2 H x H',zW G G2->zW G2 H->i<ds.length->J.yld i H x H'->∃ G3 d,zK G2 H G3 H'/\ds[i]?=some d/\zP K G3 d x
 stop:∀ i G2 H,zW G G2->zW G2 H->ds.length<=i->J.stop i H
structure SI (X:Cx) (tg iter:Expr) (f:FA):Prop where
 h:∃ wi,PI X tg iter wi/\∀ {G0 H0 G H:Hp} {τ:zf} {σ:St} {ds:List D} {R:It->Hp->Prop},zh X.K X.N.length G0 H0 G H τ σ->f τ=some ds->(∀ J G' H',zK G H G' H'->ds.length<=sizeLine->qR X.K J G' ds->R J H')->wi σ H R
noncomputable def zO (K:PySem.W.Frag) (F:List D->Option (Bool×D)):Sp:=fun vs H Q _=>∃ G ds o d,zW G H/\Reps K G ds vs/\F ds=some (o,d)/\
 match o with
 | false=>∀ v G' H',zK G H G' H'->zP K G' d v->Q v H'
 | true=>∀ p G' H',zK G H G' H'->H p=none->G' p=none->xc K G' H' d p->Q (.ref p) H'
end L3
namespace L3
open PySem PySem.Spec PyProof.Rows L2
theorem zC {α β:Type} {o:Option α} {f:α->Option β} {b:β} (h:o.bind f=some b):∃ a,o=some a/\f a=some b:=by
 cases o with
 | none=>cases h
 | some a=>exact ⟨a,rfl,h⟩
theorem QU {i:Nat} {τ:zf} {d:D} (h:z6 i τ=some d):τ[i]?=some (some (false,d)):=by
 unfold z6 at h
 split at h
 ·rename_i e
  cases h
  exact e
 ·cases h
theorem Lm {i:Nat} {τ:zf} {d:D} (h:gx i τ=some d):∃ b,τ[i]?=some (some (b,d)):=by
 unfold gx at h
 split at h
 ·rename_i b d' e
  cases h
  exact ⟨_,e⟩
 ·cases h
section
variable {X:Cx} {x:Str} {p pos apos cpos p2:Pos} {e a b c o:Expr} {es zc:List Expr} {f fa fb fc:FE} {ft fu:FT} {fs:FA} {F:D->D->Option D} {r:R2}
theorem SE.sb (h:SE X e f):SB X e f:=⟨let ⟨t,p,k⟩:=h.h; ⟨t,p,fun E hf q=>k E hf fun v G' H' x r=>q v G' H' x (r.mono x.gh)⟩⟩
theorem SF.se (h:SF X e f):SE X e f:=⟨let ⟨t,p,k⟩:=h.h; ⟨t,p,fun E hf q=>k E hf fun p G' H' x hp gp o=>by
 obtain ⟨u,hu,r⟩:=o.frz gp
 exact q _ _ _ (x.frz hp gp hu) r⟩⟩
theorem zN (h:SE X e f):SB X e f:=h.sb
theorem yJ (h:SF X e f):SE X e f:=h.se
theorem z7 (i:Nat) {x:Str} {pos:Pos} (hN:X.N[i]?=some x:=by rfl) (hv:tJ X.env.scope x:=by first | exact Or.inl rfl | exact Or.inr (Or.inl rfl) | exact Or.inr (Or.inr rfl)) (hd:(x == ("__debug__" : Str))=false:=by decide)
  (hcd:(x == ("__classdict__" : Str))=false:=by decide):SE X (.Name x pos) (z6 i):=⟨⟨_,gF hN hv hd hcd,fun E hf q=>by
 obtain ⟨v,e,r⟩:=E.fr _ _ (QU hf)
 exact ⟨v,e,q v _ _ (zK.refl E.ext.gh) r⟩⟩⟩
theorem HG (i:Nat) {x:Str} {pos:Pos} (hN:X.N[i]?=some x:=by rfl) (hv:tJ X.env.scope x:=by first | exact Or.inl rfl | exact Or.inr (Or.inl rfl) | exact Or.inr (Or.inr rfl)) (hd:(x == ("__debug__" : Str))=false:=by decide)
  (hcd:(x == ("__classdict__" : Str))=false:=by decide):SB X (.Name x pos) (gx i):=⟨⟨_,gF hN hv hd hcd,fun E hf q=>by
 obtain ⟨b,hb⟩:=Lm hf
 cases b with
 | false=>
  obtain ⟨v,e,r⟩:=E.fr _ _ hb
  exact ⟨v,e,q v _ _ (zK.refl E.ext.gh) (r.mono E.ext.gh)⟩
 | true=>
  obtain ⟨p,e,_,_,o⟩:=E.ow _ _ hb
  exact ⟨_,e,q _ _ _ (zK.refl E.ext.gh) (o.rep E.ext.gh)⟩⟩⟩
theorem Zv {v:V} {d:D} (h:PE X e (tC v)) (r:∀ H,zP X.K H d v):SE X e (eC d):=⟨⟨_,h,fun E hf q=>by
 cases hf
 exact q v _ _ (zK.refl E.ext.gh) (r _)⟩⟩
theorem zD {i k pos}:SE X (.Constant (.int i) k pos) (eC (.int i)):=Zv Ji fun _=>rfl
theorem wm {i k pos}:SE X (.Constant (.bool i) k pos) (eC (.bl i)):=Zv Ce fun _=>rfl
theorem gO {k pos}:SE X (.Constant .none k pos) (eC .non):=Zv Cv fun _=>rfl
theorem yA {x k pos} (h:x.length<=1000:=by decide):SE X (.Constant (.str x) k pos) (eC (.str x)):=Zv kZ fun _=>⟨rfl,wK h⟩
theorem wT {v:V} {d:D} (h:y_ X.mg x v) (r:∀ H,zP X.K H d v) (hg:Gl X x) (hd:(x == ("__debug__" : Str))=false:=by decide):SE X (.Name x pos) (eC d):=Zv (U6 h hg hd) r
noncomputable def wU (K:PySem.W.Frag) (r:R2) (F:D->D->Option D):Prop:=∀ G H x y u v d (Q:VK),zW G H->zP K G x u->zP K G y v->F x y=some d->(∀ w G' H',zK G H G' H'->zP K G' d w->Q w H')->r u v H Q
noncomputable def wu (K:PySem.W.Frag) (r:R2) (F:D->D->Option D):Prop:=∀ H x y u v d (Q:VK),zP K H x u->zP K H y v->F x y=some d->∃ k,d=.bl k/\(Q (.bl k) H->r u v H Q)
theorem zU {op:Operator} (ho:zt X (binaryOp op) r) (hF:wU X.K r F) (ha:SE X a fa) (hb:SE X b fb):SE X (.BinOp a op b pos) (e2 F fa fb):=by
 obtain ⟨ta,pa,ka⟩:=ha.h
 obtain ⟨tb,pb,kb⟩:=hb.h
 refine ⟨⟨_,Jl ho pa pb,fun E hf q=>?_⟩⟩
 obtain ⟨x,hx,hf⟩:=zC hf
 obtain ⟨y,hy,hf⟩:=zC hf
 refine ka E hx fun v G1 H1 x1 r1=>?_
 refine kb (E.go x1) hy fun u G2 H2 x2 r2=>?_
 exact hF G2 H2 x y v u _ _ x2.gh (r1.mono x2.g) r2 hf fun w G' H' x3 r3=>q w G' H' (x1.trans (x2.trans x3)) r3
theorem zT (hr:vW X r) (hF:wU X.K r F) (ha:SE X a fa) (hb:SE X b fb) (hs:gH b=true:=by rfl):SE X (.Subscript a b pos) (e2 F fa fb):=by
 obtain ⟨ta,pa,ka⟩:=ha.h
 obtain ⟨tb,pb,kb⟩:=hb.h
 refine ⟨⟨_,U7 hr pa pb (UA hs),fun E hf q=>?_⟩⟩
 obtain ⟨x,hx,hf⟩:=zC hf
 obtain ⟨y,hy,hf⟩:=zC hf
 refine ka E hx fun v G1 H1 x1 r1=>?_
 refine kb (E.go x1) hy fun u G2 H2 x2 r2=>?_
 exact hF G2 H2 x y v u _ _ x2.gh (r1.mono x2.g) r2 hf fun w G' H' x3 r3=>q w G' H' (x1.trans (x2.trans x3)) r3
theorem wC {op:CmpOp} (ho:zt X (compareOp op) r) (hF:wu X.K r F) (ha:SB X a fa) (hb:SB X b fb) (hm:behindInMarks op b=false):SE X (.Compare a [op] [b] pos) (e2 F fa fb):=by
 obtain ⟨ta,pa,ka⟩:=ha.h
 obtain ⟨tb,pb,kb⟩:=hb.h
 refine ⟨⟨_,Jf ho pa pb hm,fun E hf q=>?_⟩⟩
 obtain ⟨x,hx,hf⟩:=zC hf
 obtain ⟨y,hy,hf⟩:=zC hf
 refine ka E hx fun v G1 H1 x1 r1=>?_
 refine kb (E.go x1) hy fun u G2 H2 x2 r2=>?_
 obtain ⟨k,rfl,z⟩:=hF H2 x y v u _ _ (r1.mono x2.h) r2 hf
 exact z (q _ _ _ (x1.trans x2) rfl)
theorem yj {op:CmpOp} (ho:zt X (compareOp op) r) (hF:wu X.K r F) (ha:SB X a fa) (hb:SB X b fb) (hm:behindInMarks op b=false):ST X (.Compare a [op] [b] pos) (tE (e2 F fa fb)):=by
 obtain ⟨ta,pa,ka⟩:=ha.h
 obtain ⟨tb,pb,kb⟩:=hb.h
 refine ⟨⟨_,UD ho pa pb hm,fun E hf q=>?_⟩⟩
 obtain ⟨z,hz,hf⟩:=zC hf
 obtain ⟨x,hx,hz⟩:=zC hz
 obtain ⟨y,hy,hz⟩:=zC hz
 refine ka E hx fun v G1 H1 x1 r1=>?_
 refine kb (E.go x1) hy fun u G2 H2 x2 r2=>?_
 obtain ⟨k,rfl,z⟩:=hF H2 x y v u _ _ (r1.mono x2.h) r2 hz
 cases hf
 exact z ⟨_,rfl,q _ _ (x1.trans x2)⟩
theorem K7 {op op':CmpOp} {r':R2} {F':D->D->Option D} (ho:zt X (compareOp op) r) (hF:wu X.K r F) (ho':zt X (compareOp op') r') (hF':wu X.K r' F') (ha:SB X a fa) (hb:SB X b fb) (hc:SB X c fc) (hm:lastMarks [op,op'] [b,c]=false:=by with_unfolding_all rfl) :
  SE X (.Compare a [op,op'] [b,c] pos) (um F F' fa fb fc):=by
 obtain ⟨ta,pa,ka⟩:=ha.h
 obtain ⟨tb,pb,kb⟩:=hb.h
 obtain ⟨tc,pc,kc⟩:=hc.h
 refine ⟨⟨_,Cm ho ho' pa pb pc hm,fun E hf q=>?_⟩⟩
 obtain ⟨x,hx,hf⟩:=zC hf
 obtain ⟨y,hy,hf⟩:=zC hf
 obtain ⟨k,hk,hf⟩:=zC hf
 refine ka E hx fun v G1 H1 x1 r1=>?_
 refine kb (E.go x1) hy fun u G2 H2 x2 r2=>?_
 obtain ⟨k,rfl,z⟩:=hF H2 x y v u _ _ (r1.mono x2.h) r2 hk
 refine z ⟨k,rfl,?_⟩
 cases k with
 | false=>
  cases hf
  exact uu (q _ _ _ (x1.trans x2) rfl)
 | true=>
  obtain ⟨w,hw,hf⟩:=zC (show (fc _).bind _=_ from hf)
  refine uv (kc ((E.go x1).go x2) hw fun u3 G3 H3 x3 r3=>?_)
  obtain ⟨k,rfl,z⟩:=hF' H3 y w u u3 _ _ (r2.mono x3.h) r3 hf
  exact z (q _ _ _ (x1.trans (x2.trans x3)) rfl)
theorem vU (h:SE X e f) (he:Jm e=true:=by rfl):ST X e (tE f):=by
 obtain ⟨t,p,k⟩:=h.h
 refine ⟨⟨_,EX p (EK he),fun E hf q=>?_⟩⟩
 obtain ⟨z,hz,hf⟩:=zC hf
 refine k E hz fun v G' H' x r=>?_
 cases z<;>first | cases hf | skip
 cases r
 exact ⟨_,rfl,q _ _ x⟩
theorem Uh (h:ST X a ft):SW X (.BoolOp .Or [a] pos) ft:=⟨let ⟨t,p,k⟩:=h.h; ⟨t,ID p,k⟩⟩
theorem Ug (ha:ST X a ft) (hb:SW X (.BoolOp .Or (b::zc) pos) fu):SW X (.BoolOp .Or (a::b::zc) pos) (Y2 ft fu):=by
 obtain ⟨ta,pa,ka⟩:=ha.h
 obtain ⟨tb,pb,kb⟩:=hb.h
 refine ⟨⟨_,IC pa pb,fun E hf q=>?_⟩⟩
 obtain ⟨k,hk,hf⟩:=zC hf
 refine ka E hk fun G1 H1 x1=>?_
 cases k with
 | false=>exact uu (kb (E.go x1) hf fun G' H' x2=>q _ _ (x1.trans x2))
 | true=>cases hf; exact uv (q _ _ x1)
theorem Ui (h:SW X e ft):ST X e ft:=⟨let ⟨t,p,k⟩:=h.h; ⟨t,p.pt,k⟩⟩
theorem jG (h:ST X a ft):ST X (.UnaryOp .Not a pos) (t_ ft):=by
 obtain ⟨ta,pa,ka⟩:=h.h
 refine ⟨⟨_,EW pa,fun E hf q=>?_⟩⟩
 obtain ⟨k,hk,hf⟩:=zC hf
 cases hf
 exact ka E hk fun G1 H1 x1=>q _ _ x1
theorem gP {op} (h:SE X a f):SE X (.BoolOp op [a] pos) f:=⟨let ⟨t,p,k⟩:=h.h; ⟨t,Jk p,k⟩⟩
theorem Xo {K:PySem.W.Frag} {G:Hp} {z:D} {v:V} {k:Bool} (r:zP K G z v) (h:tK z=some k):v=.bl k:=by
 cases z<;>first | cases h | skip
 exact r
theorem Zu (ha:SE X a fa) (hb:SE X (.BoolOp .And (b::zc) pos) fb):SE X (.BoolOp .And (a::b::zc) pos) (pZ fa fb):=by
 obtain ⟨ta,pa,ka⟩:=ha.h
 obtain ⟨tb,pb,kb⟩:=hb.h
 refine ⟨⟨_,Je pa pb,fun E hf q=>?_⟩⟩
 obtain ⟨z,hz,hf⟩:=zC hf
 obtain ⟨k,hk,hf⟩:=zC hf
 refine ka E hz fun v G1 H1 x1 r1=>⟨k,Xo r1 hk,?_⟩
 cases k with
 | true=>exact uv (kb (E.go x1) hf fun v G' H' x2 r2=>q v _ _ (x1.trans x2) r2)
 | false=>cases hf; exact uu (q _ _ _ x1 rfl)
theorem KA (ha:SE X a fa) (hb:SE X (.BoolOp .Or (b::zc) pos) fb):SE X (.BoolOp .Or (a::b::zc) pos) (V8 fa fb):=by
 obtain ⟨ta,pa,ka⟩:=ha.h
 obtain ⟨tb,pb,kb⟩:=hb.h
 refine ⟨⟨_,Cy pa pb,fun E hf q=>?_⟩⟩
 obtain ⟨z,hz,hf⟩:=zC hf
 obtain ⟨k,hk,hf⟩:=zC hf
 refine ka E hz fun v G1 H1 x1 r1=>⟨k,Xo r1 hk,?_⟩
 cases k with
 | false=>exact uu (kb (E.go x1) hf fun v G' H' x2 r2=>q v _ _ (x1.trans x2) r2)
 | true=>cases hf; exact uv (q _ _ _ x1 rfl)
theorem Iq (ha:SE X a fa):SE X (.UnaryOp .Not a pos) (X2 fa):=by
 obtain ⟨ta,pa,ka⟩:=ha.h
 refine ⟨⟨_,Cw pa,fun E hf q=>?_⟩⟩
 obtain ⟨z,hz,hf⟩:=zC hf
 obtain ⟨k,hk,hf⟩:=zC hf
 cases hf
 exact ka E hz fun v G1 H1 x1 r1=>⟨k,Xo r1 hk,q _ _ _ x1 rfl⟩
theorem jB (hc:ST X c ft) (ha:SE X a fa) (hb:SE X b fb):SE X (.IfExp c a b pos) (uQ ft fa fb):=by
 obtain ⟨tc,pc,kc⟩:=hc.h
 obtain ⟨ta,pa,ka⟩:=ha.h
 obtain ⟨tb,pb,kb⟩:=hb.h
 refine ⟨⟨_,Cr pc pa pb,fun E hf q=>?_⟩⟩
 obtain ⟨k,hk,hf⟩:=zC hf
 refine kc E hk fun G1 H1 x1=>?_
 cases k with
 | true=>exact uv (ka (E.go x1) hf fun v G' H' x2 r2=>q v _ _ (x1.trans x2) r2)
 | false=>exact uu (kb (E.go x1) hf fun v G' H' x2 r2=>q v _ _ (x1.trans x2) r2)
theorem zL:SA X [] zF:=⟨⟨_,kY,fun E hf q=>by cases hf; exact q _ _ _ (zK.refl E.ext.gh) rfl⟩⟩
theorem zA (ha:SE X e f) (hr:SA X es fs) (h:yT e=true:=by rfl):SA X (e::es) (z8 f fs):=by
 obtain ⟨ta,pa,ka⟩:=ha.h
 obtain ⟨tb,pb,kb⟩:=hr.h
 refine ⟨⟨_,j6 pa pb h,fun E hf q=>?_⟩⟩
 obtain ⟨x,hx,hf⟩:=zC hf
 obtain ⟨xs,hxs,hf⟩:=zC hf
 cases hf
 refine ka E hx fun v G1 H1 x1 r1=>kb (E.go x1) hxs fun vs G2 H2 x2 r2=>?_
 exact q _ _ _ (x1.trans x2) ⟨v,vs,rfl,r1.mono x2.g,r2⟩
theorem ue:ge X [] zF:=⟨⟨_,kY,fun E hf q=>by cases hf; exact q _ _ _ (zK.refl E.ext.gh) rfl⟩⟩
theorem uJ (ha:SB X e f) (hr:ge X es fs) (h:yT e=true:=by rfl):ge X (e::es) (z8 f fs):=by
 obtain ⟨ta,pa,ka⟩:=ha.h
 obtain ⟨tb,pb,kb⟩:=hr.h
 refine ⟨⟨_,j6 pa pb h,fun E hf q=>?_⟩⟩
 obtain ⟨x,hx,hf⟩:=zC hf
 obtain ⟨xs,hxs,hf⟩:=zC hf
 cases hf
 refine ka E hx fun v G1 H1 x1 r1=>kb (E.go x1) hxs fun vs G2 H2 x2 r2=>?_
 exact q _ _ _ (x1.trans x2) ⟨v,vs,rfl,r1.mono x2.h,r2⟩
theorem Xq {is:List Int} (h:intsOf es=some is):SA X es (fun _=>some (is.map D.int)):=⟨⟨_,Jb h,fun E hf q=>by cases hf; exact q _ _ _ (zK.refl E.ext.gh) Reps.ints⟩⟩
theorem xr {x1} (h:SA X es fs) (hl:∀ τ ds,fs τ=some ds->ds.length<=1000):SE X (.Tuple es x1 pos) (xX fs):=by
 obtain ⟨t,pt,k⟩:=h.h
 refine ⟨⟨_,Cz pt,fun E hf q=>?_⟩⟩
 obtain ⟨xs,hx,hf⟩:=zC hf
 cases hf
 have l:xs.length<=sizeLine:=wK (hl _ _ hx)
 refine k E hx fun vs G1 H1 x1 r1=>⟨by rw [r1.length]; exact l,fun p hp=>?_⟩
 exact q _ _ _ (x1.trans (zK.lay x1.gh hp)) ⟨p,vs,rfl,yQ.of yK,r1.mono (wB (x1.gh.free hp) _),l⟩
theorem xy (h:SA X es fs) (hl:∀ τ ds,fs τ=some ds->ds.length<=1000):SF X (.List es pos) (xf fs):=by
 obtain ⟨t,pt,k⟩:=h.h
 refine ⟨⟨_,Ct pt,fun E hf q=>?_⟩⟩
 obtain ⟨xs,hx,hf⟩:=zC hf
 cases hf
 have l:xs.length<=sizeLine:=wK (hl _ _ hx)
 refine k E hx fun vs G1 H1 x1 r1=>⟨by rw [r1.length]; exact l,fun p hp=>?_⟩
 exact q _ _ _ (x1.trans (zK.layO x1.gh hp)) (x1.h.free hp) (x1.gh.free hp) ⟨vs,yK,r1,l⟩
theorem yS:∀ (τ:zf) ds,zF τ=some ds->ds.length<=0:=fun _ _ h=>by cases h; exact Nat.le_refl _
theorem zV {n:Nat} (h:∀ τ ds,fs τ=some ds->ds.length<=n):∀ τ ds,z8 f fs τ=some ds->ds.length<=n+1:=fun τ ds e=>by
 obtain ⟨x,_,e⟩:=zC e
 obtain ⟨xs,hx,e⟩:=zC e
 cases e
 exact Nat.succ_le_succ (h _ _ hx)
theorem YK {is:List Int} {n:Nat} (h:is.length<=n):∀ (τ:zf) ds,(some (is.map D.int))=some ds->ds.length<=n:=fun _ _ e=>by
 cases e
 rw [List.length_map]
 exact h
theorem yG {m n:Nat} (h:∀ τ ds,fs τ=some ds->ds.length<=m) (hmn:m<=n):∀ τ ds,fs τ=some ds->ds.length<=n:=fun τ ds e=>Nat.le_trans (h τ ds e) hmn
variable {ps:List Str} {j k:Nat} {FF:List D->Option (Bool×D)} {FL:List D->Option D} {id T:String}
theorem uK (h:zH X.prog X.w X.K X.mg X.base x ps k (zO X.K FF)) (hr:yF j X.A) (hg:Gl X x) (ha:SA X (e::es) fs) (hk:k<=j:=by decide) (hdb:(x == ("__debug__" : Str))=false:=by decide)
  (he:(e::es).all yT=true:=by rfl):SF X (.Call (.Name x p) (e::es) [] pos) (wz FF fs):=by
 obtain ⟨t,pt,kt⟩:=ha.h
 refine ⟨⟨_,U8 h hr hg pt hk hdb he,fun E hf q=>?_⟩⟩
 obtain ⟨ds,hd,hf⟩:=zC hf
 obtain ⟨⟨o,d⟩,hr,hf⟩:=zC hf
 cases o with
 | false=>cases hf
 | true=>
  cases hf
  refine kt E hd fun vs G1 H1 x1 r1=>⟨G1,ds,true,_,x1.gh,by rw [List.append_nil]; exact r1,hr,fun p G' H' x2 hp gp o=>?_⟩
  exact q p G' H' (x1.trans x2) (x1.h.free hp) gp o
theorem zn (h:zH X.prog X.w X.K X.mg X.base x ps k (zO X.K FF)) (hr:yF j X.A) (hg:Gl X x) (ha:SA X (e::es) fs) (hk:k<=j:=by decide) (hdb:(x == ("__debug__" : Str))=false:=by decide)
  (he:(e::es).all yT=true:=by rfl):SE X (.Call (.Name x p) (e::es) [] pos) (zi FF fs):=by
 obtain ⟨t,pt,kt⟩:=ha.h
 refine ⟨⟨_,U8 h hr hg pt hk hdb he,fun E hf q=>?_⟩⟩
 obtain ⟨ds,hd,hf⟩:=zC hf
 obtain ⟨⟨o,d⟩,hr,hf⟩:=zC hf
 cases hf
 refine kt E hd fun vs G1 H1 x1 r1=>⟨G1,ds,o,d,x1.gh,by rw [List.append_nil]; exact r1,hr,?_⟩
 cases o with
 | false=>exact fun v G' H' x2 r=>q v G' H' (x1.trans x2) r
 | true=>
  intro p G' H' x2 hp gp o
  obtain ⟨u,hu,r⟩:=o.frz gp
  exact q _ _ _ (x1.trans (x2.frz hp gp hu)) r
noncomputable def tI (K:PySem.W.Frag) (r:List V->Hp->VK->Prop) (F:List D->Option D):Prop:=∀ G H ds vs d (Q:VK),zW G H->Reps K H ds vs->F ds=some d->(∀ w G' H',zK G H G' H'->zP K G' d w->Q w H')->r vs H Q
noncomputable def TB (K:PySem.W.Frag) (r:List V->Hp->VK->Prop) (F:List D->Option D):Prop:=∀ G H ds vs d (Q:VK),zW G H->Reps K G ds vs->F ds=some d->(∀ w G' H',zK G H G' H'->zP K G' d w->Q w H')->r vs H Q
theorem t4 {rc:List V->Hp->VK->Prop} (hc:xC X (.builtin id) rc) (hF:tI X.K rc FL) (hg:Gl X x) (hm:X.mg x=none) (hv:bootBuiltins x=some (.builtin id)) (ha:ge X (e::es) fs) (hn:x ≠ "__name__" := by decide) (hdb:(x == ("__debug__" : Str))=false:=by decide)
  (he:(e::es).all yT=true:=by rfl):SE X (.Call (.Name x p) (e::es) [] pos) (eL FL fs):=by
 obtain ⟨t,pt,kt⟩:=ha.h
 refine ⟨⟨_,(Xl hc hg hm hv ⟨pt⟩ hn hdb he).h,fun E hf q=>?_⟩⟩
 obtain ⟨ds,hd,hf⟩:=zC hf
 exact kt E hd fun vs G1 H1 x1 r1=>hF G1 H1 ds vs _ _ x1.gh r1 hf fun w G' H' x2 r2=>q w G' H' (x1.trans x2) r2
theorem K8 {rc:List V->Hp->VK->Prop} (hc:xC X (.type T) rc) (hF:tI X.K rc FL) (hg:Gl X x) (hm:X.mg x=none) (hv:bootBuiltins x=some (.type T)) (ha:ge X (e::es) fs) (hn:x ≠ "__name__" := by decide) (hdb:(x == ("__debug__" : Str))=false:=by decide)
  (he:(e::es).all yT=true:=by rfl):SE X (.Call (.Name x p) (e::es) [] pos) (eL FL fs):=by
 obtain ⟨t,pt,kt⟩:=ha.h
 refine ⟨⟨_,(gJ hc hg hm hv ⟨pt⟩ hn hdb he).h,fun E hf q=>?_⟩⟩
 obtain ⟨ds,hd,hf⟩:=zC hf
 exact kt E hd fun vs G1 H1 x1 r1=>hF G1 H1 ds vs _ _ x1.gh r1 hf fun w G' H' x2 r2=>q w G' H' (x1.trans x2) r2
theorem Ua {rc:List V->Hp->VK->Prop} (hc:xC X (.type T) rc) (hF:TB X.K rc FL) (hg:Gl X x) (hm:X.mg x=none) (hv:bootBuiltins x=some (.type T)) (ha:SA X (e::es) fs) (hn:x ≠ "__name__" := by decide) (hdb:(x == ("__debug__" : Str))=false:=by decide)
  (he:(e::es).all yT=true:=by rfl):SE X (.Call (.Name x p) (e::es) [] pos) (eL FL fs):=by
 obtain ⟨t,pt,kt⟩:=ha.h
 refine ⟨⟨_,(gJ hc hg hm hv ⟨pt⟩ hn hdb he).h,fun E hf q=>?_⟩⟩
 obtain ⟨ds,hd,hf⟩:=zC hf
 exact kt E hd fun vs G1 H1 x1 r1=>hF G1 H1 ds vs _ _ x1.gh r1 hf fun w G' H' x2 r2=>q w G' H' (x1.trans x2) r2
theorem Ir {op:UnaryOp} {ru:V->Hp->VK->Prop} {F1:D->Option D} (ho:gi X (unaryOp op) ru) (hF:∀ (G H:Hp) x u d (Q:VK),zP X.K G x u->F1 x=some d->∃ w,(∀ G,zP X.K G d w)/\(Q w H->ru u H Q)) (ha:SE X a fa):SE X (.UnaryOp op a pos) (e1 F1 fa):=by
 obtain ⟨t,pt,kt⟩:=ha.h
 refine ⟨⟨_,C_ ho pt,fun E hf q=>?_⟩⟩
 obtain ⟨x,hx,hf⟩:=zC hf
 refine kt E hx fun v G1 H1 x1 r1=>?_
 obtain ⟨w,rw_,z⟩:=hF G1 H1 x v _ _ r1 hf
 exact z (q w _ _ x1 (rw_ _))
end
end L3
namespace L3
open PySem PySem.Spec PyProof.Rows L2
section
variable {X:Cx} {x:Str} {p pos pos' apos cpos:Pos} {e a b c tg iter elt:Expr} {es ifs:List Expr} {f fa fb:FE} {ft:FT} {fs:FA} {st:Stmt} {sts body:List Stmt} {g g':FS}
theorem wE:vY X [] xq:=⟨⟨_,Jv,fun {_ _ G H τ σ fl E} K hf q=>by
 cases hf
 exact q σ G H K⟩⟩
theorem vH.with {K:PySem.W.Frag} {n:Nat} {G0 H0:Hp} {E E':we} {fl:Fl} (h:vH K n G0 H0 E fl) (hn:∀ τ,fl=.nx τ->vH K n G0 H0 E' (.nx τ)) (hb:∀ τ,fl=.bk τ->vH K n G0 H0 E' (.bk τ)) (hc:∀ τ,fl=.ct τ->vH K n G0 H0 E' (.ct τ)) (hr:E'.rt=E.rt):vH K n G0 H0 E' fl:=by
 cases fl with
 | nx τ=>exact hn τ rfl
 | bk τ=>exact hb τ rfl
 | ct τ=>exact hc τ rfl
 | rt o d=>
  cases o with
  | false=>intro v G H x r; rw [hr]; exact h v G H x r
  | true=>intro v G H x r1 r2 r3; rw [hr]; exact h v G H x r1 r2 r3
theorem zm (h1:SS X st g) (h2:vY X sts g'):vY X (st::sts) (zj g g'):=by
 obtain ⟨t,p,k⟩:=h1.h
 obtain ⟨t',p',k'⟩:=h2.h
 refine ⟨⟨_,Ju p p',fun {G0 H0 G H τ σ fl E} K hf q=>?_⟩⟩
 obtain ⟨f1,h1,hf⟩:=zC hf
 refine k K h1 ?_
 cases f1 with
 | nx τ'=>exact fun σ' G' H' K'=>k' K' hf q
 | bk τ'=>cases hf; exact q
 | ct τ'=>cases hf; exact q
 | rt o d=>cases hf; exact vH.with q (fun _ z=>nomatch z) (fun _ z=>nomatch z) (fun _ z=>nomatch z) rfl
theorem zd (h1:SS X st g):vY X [st] g:=⟨let ⟨t,p,k⟩:=h1.h; ⟨t,Jw p,k⟩⟩
theorem O2 (i:Nat) (h:vY X sts g):vY X sts (zj (km i) g):=by
 obtain ⟨t,p,k⟩:=h.h
 refine ⟨⟨t,p,fun {G0 H0 G H τ σ fl E} K hf q=>?_⟩⟩
 obtain ⟨f1,h1,hf⟩:=zC hf
 unfold km at h1
 split at h1
 ·rename_i bb d hd
  cases h1
  obtain ⟨G',K',_⟩:=K.freeze hd
  exact k K' hf q
 ·cases h1
theorem yt {i:Nat} {x:Str} {pos':Pos} (hN:X.N.Nodup) (hi:X.N[i]?=some x) (hx:uO X.env.scope x) (he:SE X e f) (hs:j_ e=true:=by rfl) (hf:X.fn x=true\/X.env.scope.names.lookup x=some .local:=by first | exact .inl rfl | exact .inr rfl | assumption) :
  SS X (.Assign [.Name x pos'] e pos) (yU i f):=by
 obtain ⟨t,p,k⟩:=he.h
 refine ⟨⟨_,(UJ hN hi hx ⟨p⟩ hs hf).h,fun {G0 H0 G H τ σ fl E} K hf q=>?_⟩⟩
 obtain ⟨d,hd,hf⟩:=zC hf
 cases hf
 exact k K hd fun v G' H' x r=>q _ _ _ ((K.go x).set (List.getElem?_eq_some_iff.mp hi).1 r)
theorem gR {i:Nat} {x:Str} {pos':Pos} (hN:X.N.Nodup) (hi:X.N[i]?=some x) (hx:uO X.env.scope x) (he:SF X e f) (hs:j_ e=true:=by rfl) (hf:X.fn x=true\/X.env.scope.names.lookup x=some .local:=by first | exact .inl rfl | exact .inr rfl | assumption) :
  SS X (.Assign [.Name x pos'] e pos) (qj i f):=by
 obtain ⟨t,p,k⟩:=he.h
 refine ⟨⟨_,(UJ hN hi hx ⟨p⟩ hs hf).h,fun {G0 H0 G H τ σ fl E} K hf q=>?_⟩⟩
 obtain ⟨d,hd,hf⟩:=zC hf
 cases hf
 refine k K hd fun p G' H' x hp gp o=>q _ _ _ ((K.go x).setO (List.getElem?_eq_some_iff.mp hi).1 gp (K.ext.h.free hp) o ?_)
 exact K.newO hp
theorem yC (he:SE X e f):SS X (.Return (some e) pos) (z_ f):=by
 obtain ⟨t,p,k⟩:=he.h
 refine ⟨⟨_,Xi p,fun {G0 H0 G H τ σ fl E} K hf q=>?_⟩⟩
 obtain ⟨d,hd,hf⟩:=zC hf
 cases hf
 exact k K hd fun v G' H' x r=>q v _ _ (K.ext.trans x) r
theorem tz (he:SF X e f):SS X (.Return (some e) pos) (ud f):=by
 obtain ⟨t,p,k⟩:=he.h
 refine ⟨⟨_,Xi p,fun {G0 H0 G H τ σ fl E} K hf q=>?_⟩⟩
 obtain ⟨d,hd,hf⟩:=zC hf
 cases hf
 exact k K hd fun p G' H' x hp gp o=>q p _ _ (K.ext.trans x) (K.ext.h.free hp) gp o
theorem Y0 (i:Nat) {x:Str} {pos':Pos} (hN:X.N[i]?=some x:=by rfl) (hv:tJ X.env.scope x:=by first | exact Or.inl rfl | exact Or.inr (Or.inl rfl) | exact Or.inr (Or.inr rfl)) (hd:(x == ("__debug__" : Str))=false:=by decide)
  (hcd:(x == ("__classdict__" : Str))=false:=by decide):SS X (.Return (some (.Name x pos')) pos) (qi i):=by
 refine ⟨⟨_,Xi (gF hN hv hd hcd),fun {G0 H0 G H τ σ fl E} K hf q=>?_⟩⟩
 unfold qi at hf
 split at hf
 ·rename_i d he
  cases hf
  obtain ⟨p,e,g,z,o⟩:=K.ow _ _ he
  exact ⟨_,e,q p _ _ K.ext z g o⟩
 ·cases hf
theorem xN {sa sb:List Stmt} (hc:ST X c ft) (ha:vY X sa g) (hb:vY X sb g'):SS X (.If c sa sb pos) (xF ft g g'):=by
 obtain ⟨tc,pc,kc⟩:=hc.h
 obtain ⟨ta,pa,ka⟩:=ha.h
 obtain ⟨tb,pb,kb⟩:=hb.h
 refine ⟨⟨_,Jt pc pa pb,fun {G0 H0 G H τ σ fl E} K hf q=>?_⟩⟩
 obtain ⟨k,hk,hf⟩:=zC hf
 refine kc K hk fun G1 H1 x1=>?_
 cases k with
 | true=>exact uv (ka (K.go x1) hf q)
 | false=>exact uu (kb (K.go x1) hf q)
theorem Z_:vY X sts (fun _=>none):=⟨⟨_,EV,fun _ hf=>by cases hf⟩⟩
theorem vH.near {K:PySem.W.Frag} {n:Nat} {G0 H0 Ga Ha:Hp} {E:we} {fl:Fl} (x:zK G0 H0 Ga Ha) (h:vH K n G0 H0 E fl):vH K n Ga H0 E fl:=by
 cases fl with
 | nx τ=>exact fun σ G H z=>h σ G H (zh.near x z)
 | bk τ=>exact fun σ G H z=>h σ G H (zh.near x z)
 | ct τ=>exact fun σ G H z=>h σ G H (zh.near x z)
 | rt o d=>
  cases o with
  | false=>exact fun v G H y r=>h v G H (x.rebase y) r
  | true=>exact fun p G H y r1 r2 r3=>h p G H (x.rebase y) r1 r2 r3
structure SG (X:Cx) (tg:Expr) (fg:FG):Prop where
 h:∃ t,PG X tg t/\∀ {G0 H0 G H:Hp} {τ τ':zf} {σ:St} {d:D} {v:V} {Q:St->Hp->Prop},zh X.K X.N.length G0 H0 G H τ σ->zP X.K G d v->fg d τ=some τ'->(∀ σ',zh X.K X.N.length G0 H0 G H τ' σ'->Q σ' H)->t v σ H Q
theorem jE {i:Nat} {x:Str} (h:QG X (.Name x pos) (wY i)) (hi:X.N[i]?=some x):SG X (.Name x pos) (yH i):=⟨⟨_,h.h,fun K r hf q=>by
 cases hf
 exact q _ (K.set (List.getElem?_eq_some_iff.mp hi).1 r)⟩⟩
theorem KN {i j:Nat} {x y:Str} {p1 p2:Pos} {kk:Nat} (h:QG X (.Tuple [.Name x p1,.Name y p2] kk pos) (jp X.K 2 (ut (wY i) (ut (wY j) jo)))) (hi:X.N[i]?=some x) (hj:X.N[j]?=some y):SG X (.Tuple [.Name x p1,.Name y p2] kk pos) (qX i j):=⟨⟨_,h.h,fun {G0 H0 G H τ τ' σ d v Q} K r hf q=>by
 unfold qX at hf
 split at hf
 ·rename_i d1 d2
  cases hf
  obtain ⟨a,vs,rfl,sq,⟨v1,r1,rfl,h1,⟨v2,r2,rfl,h2,h3⟩⟩,_⟩:=r
  cases (show r2=[] from h3)
  refine ⟨a,_,rfl,wo K.ext.gh sq,rfl,v1,_,rfl,v2,_,rfl,rfl,?_⟩
  exact q _ ((K.set (List.getElem?_eq_some_iff.mp hi).1 h1).set (List.getElem?_eq_some_iff.mp hj).1 h2)
 ·cases hf⟩⟩
theorem qp {fg:FG} (hp:PassesOwn (model X.prog X.w) X.A X.env X.xe) (hc:X.calm=true) (hi:SI X tg iter fs) (hg:SG X tg fg) (hb:vY X body g) (hs:∀ x,foldedSetIterable iter X.env x=pure x:=by intro _; rfl):SS X (.For tg iter body [] pos) (t3 fs fg g):=by
 obtain ⟨ti,pi,ki⟩:=hi.h
 obtain ⟨tg',pg,kg⟩:=hg.h
 obtain ⟨tb,pb,kb⟩:=hb.h
 refine ⟨⟨_,Js hp hc pi pg pb hs,fun {G0 H0 G H τ σ fl E} K hf q=>?_⟩⟩
 obtain ⟨ds,hd,hf⟩:=zC hf
 refine ki K hd fun J Ga Ha xa _ wk=>?_
 have Ka:=K.go xa
 have q':=vH.near Ka.ext q
 refine ⟨fun i m σ H=>m=ds.length - i/\i<=ds.length/\∃ τ G,zh X.K X.N.length Ga H0 G H τ σ/\tO fg g (ds.drop i) τ=some fl,⟨ds.length,rfl,Nat.zero_le _,τ,Ga,Ka.far,hf⟩,?_⟩
 rintro i m σ H ⟨rfl,hle,τ,G,K,hf⟩
 by_cases hlt:i<ds.length
 ·refine .inr ⟨wk.go i G H K.ext.g K.ext.gh hlt,fun σ' H'=>∃ τ G,zh X.K X.N.length Ga H0 G H' τ σ'/\tO fg g (ds.drop (i+1)) τ=some fl,fun σ' H' z=>⟨ds.length - (i+1),by omega,rfl,hlt,z⟩,fun x H' y=>?_⟩
  obtain ⟨G3,d,x3,ed,rd⟩:=wk.yld i G H x H' K.ext.g K.ext.gh hlt y
  rw [List.drop_eq_getElem_cons hlt] at hf
  rw [List.getElem?_eq_getElem hlt] at ed
  cases ed
  obtain ⟨τ1,h1,hf⟩:=zC (show (fg _ τ).bind _=_ from hf)
  obtain ⟨f1,h2,hf⟩:=zC hf
  refine kg (K.go x3) rd h1 fun σ1 K1=>kb K1 h2 ?_
  cases f1 with
  | nx τ2=>exact fun σ2 G2 H2 K2=>⟨τ2,G2,K2,hf⟩
  | ct τ2=>exact fun σ2 G2 H2 K2=>⟨τ2,G2,K2,hf⟩
  | bk τ2=>cases hf; exact q'
  | rt o d=>cases hf; exact vH.with q' (fun _ z=>nomatch z) (fun _ z=>nomatch z) (fun _ z=>nomatch z) rfl
 ·have e:ds.drop i=[]:=List.drop_eq_nil_of_le (by omega)
  rw [e] at hf
  cases hf
  exact .inl ⟨wk.stop i G H K.ext.g K.ext.gh (by omega),q' _ _ _ K⟩
theorem B8 {K:PySem.W.Frag} {G:Hp} {lo:Int} {n:Nat}:qR K (YE lo n) G ((List.range n).map fun k:Nat=>D.int (lo+k)) where
 go:=fun i G2 H _ _ hi=>by
  show i<n
  simpa using hi
 yld:=fun i G2 H x H' _ g2 hi y=>by
  obtain ⟨rfl,rfl⟩:=y
  exact ⟨G2,.int (lo+i),zK.refl g2,by simp at hi; simp [hi],rfl⟩
 stop:=fun i G2 H _ _ hi=>by
  show n<=i
  simpa using hi
theorem qm (hg:Gl X "range") (hm:X.mg "range" = none) (ha:SE X a fa) (hs:yT a=true:=by rfl):SI X tg (.Call (.Name "range" p) [a] [] pos) (vM (eC (.int 0)) fa):=by
 obtain ⟨t,pt,k⟩:=(zA ha zL hs).h
 refine ⟨⟨_,EB hg hm pt (vG hs),fun {G0 H0 G H τ σ ds R} K hf q=>?_⟩⟩
 obtain ⟨x,hx,hf⟩:=zC hf
 cases hx
 obtain ⟨y,hy,hf⟩:=zC hf
 refine k K (ds:=[y]) (by unfold z8; rw [hy]; rfl) fun vs G1 H1 x1 r1=>?_
 cases y<;>first | cases hf | skip
 rename_i j
 obtain ⟨v,r,rfl,hv,hr⟩:=r1
 cases (show r=[] from hr)
 cases (show v=.int j from hv)
 change (if (0:Int).natAbs<=yP/\j.natAbs<=yP/\(j - 0).toNat<=yP then _ else _)=_ at hf
 by_cases c:(0:Int).natAbs<=yP/\j.natAbs<=yP/\(j - 0).toNat<=yP
 ·rw [if_pos c] at hf
  cases hf
  have c2:j.natAbs<=16777216:=c.2.1
  have c3:(j - 0).toNat<=16777216:=c.2.2
  refine ⟨j,rfl,by omega,by omega,q _ _ _ x1 ?_ ?_⟩
  ·rw [List.length_map,List.length_range,sizeLine_eq]; omega
  ·have e:(j - 0).toNat=j.toNat:=by omega
   rw [e]
   exact B8
 ·rw [if_neg c] at hf
  cases hf
theorem Bk {K:PySem.W.Frag} {G:Hp} {a:Addr} {vs:List V} {ds:List D} (sq:yB K G a vs) (r:Reps K G ds vs):qR K (WN K a) G ds where
 go:=fun i G2 H g1 g2 hi=>by
  obtain ⟨v,e,_⟩:=r.get (List.getElem?_eq_getElem hi)
  exact ⟨vs,v,wd (g1.trans g2) sq,e⟩
 yld:=fun i G2 H x H' g1 g2 hi y=>by
  obtain ⟨rfl,y⟩:=y
  have e:=y vs (wd (g1.trans g2) sq)
  obtain ⟨d,ed,rd⟩:=r.at e
  exact ⟨G2,d,zK.refl g2,ed,rd.mono g1⟩
 stop:=fun i G2 H g1 g2 hi=>⟨vs,wd (g1.trans g2) sq,by rw [r.length]; exact hi⟩
theorem NO {K:PySem.W.Frag} {G:Hp} {a:Addr} {vs:List V} {ds:List D} (sq:yQ K G a vs) (r:Reps K G ds vs):qR K (WO K a) G ds where
 go:=fun i G2 H g1 g2 hi=>by
  obtain ⟨v,e,_⟩:=r.get (List.getElem?_eq_getElem hi)
  exact ⟨vs,v,wo (g1.trans g2) sq,e⟩
 yld:=fun i G2 H x H' g1 g2 hi y=>by
  obtain ⟨rfl,y⟩:=y
  have e:=y vs (wo (g1.trans g2) sq)
  obtain ⟨d,ed,rd⟩:=r.at e
  exact ⟨G2,d,zK.refl g2,ed,rd.mono g1⟩
 stop:=fun i G2 H g1 g2 hi=>⟨vs,wo (g1.trans g2) sq,by rw [r.length]; exact hi⟩
theorem Kj {K:PySem.W.Frag} {G:Hp} {z:Str}:qR K (YF z) G (z.cps.toList.map fun c=>D.str ⟨#[c]⟩) where
 go:=fun i G2 H _ _ hi=>by
  rw [List.length_map,Array.length_toList] at hi
  exact hi
 yld:=fun i G2 H x H' _ g2 hi y=>by
  obtain ⟨rfl,c,ec,rfl⟩:=y
  refine ⟨G2,.str ⟨#[c]⟩,zK.refl g2,?_,rfl,wK (n:=1) (by decide)⟩
  rw [List.getElem?_map,Array.getElem?_toList,ec]
  rfl
 stop:=fun i G2 H _ _ hi=>by
  rw [List.length_map,Array.length_toList] at hi
  exact hi
theorem PI.or {w1 w2:TI} (h1:PI X tg e w1) (h2:PI X tg e w2):PI X tg e (fun σ H R=>w1 σ H R\/w2 σ H R):=fun pins s σ H R I q=>by
 rcases q with q | q
 ·exact h1 pins s σ H R I q
 ·exact h2 pins s σ H R I q
theorem vT (h:SE X e f):SI X tg e (wj f):=by
 obtain ⟨t,p,k⟩:=h.h
 refine ⟨⟨_,PI.or (EA p) (PI.or (ED p) (EC p)),fun {G0 H0 G H τ σ ds R} K hf q=>?_⟩⟩
 obtain ⟨d,hd,hf⟩:=zC hf
 cases d<;>first | cases hf | skip
 ·rename_i z
  refine .inr (.inr (k K hd fun v G' H' x r=>?_))
  obtain ⟨rfl,l⟩:=r
  exact ⟨z,rfl,q _ _ _ x (by rw [List.length_map,Array.length_toList]; exact l) Kj⟩
 ·refine .inr (.inl (k K hd fun v G' H' x r=>?_))
  obtain ⟨a,vs,rfl,sq,rs,l⟩:=r
  exact ⟨a,rfl,⟨vs,wo x.gh sq⟩,q _ _ _ x l (NO sq rs)⟩
 ·refine .inl (k K hd fun v G' H' x r=>?_)
  obtain ⟨a,vs,rfl,sq,rs,l⟩:=r
  exact ⟨a,rfl,⟨vs,wd x.gh sq⟩,q _ _ _ x l (Bk sq rs)⟩
end
noncomputable def Uo (K:PySem.W.Frag) (n:Nat) (f:FE):TE:=fun σ H Q=>∃ G0 H0 G τ d,zh K n G0 H0 G H τ σ/\f τ=some d/\∀ v G' H',zK G H G' H'->zP K G' d v->Q v H'
noncomputable def X_ (K:PySem.W.Frag) (n:Nat) (f:FT):TT:=fun σ H Q=>∃ G0 H0 G τ d,zh K n G0 H0 G H τ σ/\f τ=some d/\∀ G' H',zK G H G' H'->Q d H'
structure gf (X:Cx) (es:List Expr) (f:FT):Prop where
 h:pR X es (X_ X.K X.N.length f)
section
variable {X:Cx} {e c:Expr} {f:FE} {ft:FT}
theorem SE.pe (h:SE X e f):PE X e (Uo X.K X.N.length f):=fun pins s σ H Q I q=>by
 obtain ⟨t,p,k⟩:=h.h
 obtain ⟨G0,H0,G,τ,d,K,hf,z⟩:=q
 exact p pins s σ H Q I (k K hf z)
theorem ST.pt (h:ST X e ft):PT X e (X_ X.K X.N.length ft):=fun pins s σ H Q I q=>by
 obtain ⟨t,p,k⟩:=h.h
 obtain ⟨G0,H0,G,τ,d,K,hf,z⟩:=q
 exact p pins s σ H Q I (k K hf z)
theorem uf:gf X [] xi:=⟨fun pins s σ H Q I q=>by
 obtain ⟨G0,H0,G,τ,d,K,hf,z⟩:=q
 cases hf
 exact EY pins s σ H Q I (z _ _ (zK.refl K.ext.gh))⟩
theorem Uf (h:ST X c ft):gf X [c] ft:=⟨EZ h.pt⟩
end
theorem zh.more {K:PySem.W.Frag} {n:Nat} {G0 H0 G H:Hp} {τ:zf} {σ:St} (k:Nat) (E:zh K n G0 H0 G H τ σ):zh K (n+k) G0 H0 G H (τ++List.replicate k none) (σ++List.replicate k none):=by
 have at_:∀ {i:Nat} {s:Sl},(τ++List.replicate k none)[i]?=some (some s)->τ[i]?=some (some s)/\(σ++List.replicate k none)[i]?=σ[i]?:=fun {i s} h=>by
  have h':=XI h
  have hi:i<n:=E.lt h'
  exact ⟨h',List.getElem?_append_left (by rw [E.l1]; exact hi)⟩
 refine ⟨E.ext,by rw [List.length_append,List.length_replicate,E.l1],by rw [List.length_append,List.length_replicate,E.l2],fun i d h=>?_,fun i d h=>?_,fun i j d e p hne h1 h2 h3 h4=>?_⟩
 ·obtain ⟨h',e⟩:=at_ h
  rw [e]
  exact E.fr i d h'
 ·obtain ⟨h',e⟩:=at_ h
  rw [e]
  exact E.ow i d h'
 ·obtain ⟨h1',e1⟩:=at_ h1
  obtain ⟨h2',e2⟩:=at_ h2
  rw [e1] at h3
  rw [e2] at h4
  exact E.ap i j d e p hne h1' h2' h3 h4
theorem JD {K:PySem.W.Frag} {n k:Nat} {G0 H0 Ga Ha:Hp} {τ:zf} {σ:St} {J:It} {ds out:List D} {g:TG} {fg:FG} {ft:FT} {f:FE} {Fin:List V->Hp->Prop} (wk:qR K J Ga ds) (hl:ds.length<=sizeLine) (Ka:zh K n G0 H0 Ga Ha τ σ)
  (hf:xU fg ft f (τ++List.replicate k none) ds=some out)
  (kg:∀ G H d v τ' (Q:St->Hp->Prop),zh K (n+k) G0 H0 G H (τ++List.replicate k none) (σ++List.replicate k none)->zP K G d v->fg d (τ++List.replicate k none)=some τ'->(∀ ρ,zh K (n+k) G0 H0 G H τ' (σ++ρ)->Q (σ++ρ) H)->g v (σ++List.replicate k none) H Q)
  (fin:∀ ys G H,zK Ga Ha G H->Reps K G out ys->out.length<=sizeLine->Fin ys H) :
  ∃ W:Nat->Nat->List V->Hp->Prop,(∃ m,W 0 m [] Ha)/\XW σ k J g (X_ K (n+k) ft) (Uo K (n+k) f) W Fin:=by
 refine ⟨fun i m ys H=>m=ds.length - i/\i<=ds.length/\ys.length<=i/\∃ G done zc,zK Ga Ha G H/\Reps K G done ys/\xU fg ft f (τ++List.replicate k none) (ds.drop i)=some zc/\done++zc=out,⟨ds.length,rfl,Nat.zero_le _,Nat.le_refl _,Ga,[],out,zK.refl Ka.ext.gh,rfl,hf,rfl⟩,?_⟩
 rintro i m ys H ⟨rfl,hle,hys,G,done,zc,x,rd,hf,eo⟩
 by_cases hlt:i<ds.length
 ·refine .inr ⟨wk.go i G H x.g x.gh hlt,by omega,fun ys H=>ys.length<=i+1/\∃ G done zc,zK Ga Ha G H/\Reps K G done ys/\xU fg ft f (τ++List.replicate k none) (ds.drop (i+1))=some zc/\done++zc=out,fun ys' H' z=>⟨ds.length - (i+1),by omega,rfl,hlt,z.1,z.2⟩,fun v H' y=>?_⟩
  obtain ⟨G3,d,x3,ed,rv⟩:=wk.yld i G H v H' x.g x.gh hlt y
  rw [List.drop_eq_getElem_cons hlt] at hf
  rw [List.getElem?_eq_getElem hlt] at ed
  cases ed
  obtain ⟨τ1,h1,hf⟩:=zC (show (fg _ _).bind _=_ from hf)
  obtain ⟨kk,h2,hf⟩:=zC hf
  have K3:=((Ka.go x).go x3).more k
  refine kg G3 H' _ v τ1 _ K3 rv h1 fun ρ K4=>⟨⟨ρ,rfl⟩,_,_,_,_,kk,K4,h2,fun G5 H5 x5=>?_⟩
  cases kk with
  | false=>exact uu ⟨by omega,G5,done,zc,x.trans (x3.trans x5),rd.mono (x3.g.trans x5.g),hf,eo⟩
  | true=>
   obtain ⟨z,hz,hf⟩:=zC (show (f _).bind _=_ from hf)
   obtain ⟨more,hm,hf⟩:=zC hf
   cases hf
   refine uv ⟨_,_,_,_,z,K4.go x5,hz,fun u G6 H6 x6 r6=>⟨by rw [List.length_append]; exact Nat.succ_le_succ hys,G6,done++[z],more,x.trans (x3.trans (x5.trans x6)),(rd.mono (x3.g.trans (x5.g.trans x6.g))).append (Reps.one r6),hm,?_⟩⟩
   rw [List.append_assoc]
   exact eo
 ·have e:ds.drop i=[]:=List.drop_eq_nil_of_le (by omega)
  rw [e] at hf
  cases hf
  rw [List.append_nil] at eo
  subst eo
  refine .inl ⟨wk.stop i G H x.g x.gh (by omega),fin ys G H x rd ?_⟩
  rw [<- rd.length]
  omega
section
variable {X:Cx} {tg iter elt:Expr} {ifs:List Expr} {scope:Scope} {cl:List (Str×Addr)} {own:List Str} {pos:Pos} {fs:FA} {fg:FG} {ft:FT} {f:FE} {g:TG}
theorem Uc {α:Type} (xs:List α) (y:α) (ys:List α) {n:Nat} (h:n=xs.length) (z:α):(xs++y::ys).set n z=xs++z::ys:=by
 subst h
 rw [List.set_append_right _ _ (Nat.le_refl _),Nat.sub_self]
 rfl
structure BG (X:Cx) (scope:Scope) (cl:List (Str×Addr)) (own:List Str) (tg:Expr) (g:TG) (fg:FG):Prop where
 q:∀ C s H fp pn,QG (xS X scope cl own C s H fp pn) tg g
 k:∀ {G0 H0:Hp} {τ:zf} {σ:St},τ.length=X.N.length->σ.length=X.N.length->∀ G H d v τ' (Q:St->Hp->Prop),zh X.K (X.N.length+own.length) G0 H0 G H (τ++List.replicate own.length none) (σ++List.replicate own.length none)->zP X.K G d v->fg d (τ++List.replicate own.length none)=some τ'->
  (∀ ρ,zh X.K (X.N.length+own.length) G0 H0 G H τ' (σ++ρ)->Q (σ++ρ) H)->g v (σ++List.replicate own.length none) H Q
theorem vd {x:Str} {i:Nat} (q:∀ C s H fp pn,QG (xS X scope cl [x] C s H fp pn) tg (wY i)) (hi:i=X.N.length):BG X scope cl [x] tg (wY i) (yH i):=⟨q,fun {G0 H0 τ σ} l1 l2 G H d v τ' Q E r hf k=>by
 cases hf
 have E':=E.set (i:=i) (v:=v) (by rw [hi]; exact Nat.lt_succ_self _) r
 have es:(σ++List.replicate 1 none).set i (some v)=σ++[some v]:=Uc σ none [] (hi.trans l2.symm) (some v)
 show Q ((σ++List.replicate 1 none).set i (some v)) H
 rw [es]
 refine k [some v] ?_
 rw [<- es]
 exact E'⟩
theorem Ox {x y:Str} {i j:Nat} (q:∀ C s H fp pn,QG (xS X scope cl [x,y] C s H fp pn) tg (jp X.K 2 (ut (wY i) (ut (wY j) jo)))) (hi:i=X.N.length) (hj:j=X.N.length+1):BG X scope cl [x,y] tg (jp X.K 2 (ut (wY i) (ut (wY j) jo))) (qX i j):=⟨q,fun {G0 H0 τ σ} l1 l2 G H d v τ' Q E r hf k=>by
 unfold qX at hf
 split at hf
 ·rename_i d1 d2
  cases hf
  obtain ⟨a,vs,rfl,sq,⟨v1,r1,rfl,h1,⟨v2,r2,rfl,h2,h3⟩⟩,_⟩:=r
  cases (show r2=[] from h3)
  have E':=(E.set (i:=i) (v:=v1) (by rw [hi]; exact Nat.lt_add_of_pos_right (Nat.succ_pos _)) h1).set (i:=j) (v:=v2) (by rw [hj]; exact Nat.lt_succ_self _) h2
  have es:((σ++List.replicate 2 none).set i (some v1)).set j (some v2)=σ++[some v1,some v2]:=by
   have e1:(σ++List.replicate 2 none).set i (some v1)=σ++[some v1,none]:=Uc σ none [none] (hi.trans l2.symm) (some v1)
   rw [e1]
   have e2:σ++[some v1,none]=(σ++[some v1])++[none]:=by simp
   rw [e2,Uc (σ++[some v1]) none [] (by rw [List.length_append,hj,l2]; rfl) (some v2)]
   simp
  refine ⟨a,_,rfl,wo E.ext.gh sq,rfl,v1,_,rfl,v2,_,rfl,rfl,?_⟩
  show Q (((σ++List.replicate 2 none).set i (some v1)).set j (some v2)) H
  rw [es]
  refine k [some v1,some v2] ?_
  rw [<- es]
  exact E'
 ·cases hf⟩
theorem Ts (X:Cx) (own:List Str):(wR X.N own).length=X.N.length+own.length:=by
 unfold wR
 rw [List.length_append,List.length_map]
theorem Tv {C:Addr} {s:Shared} {H:Hp} {fp:List Addr} {pn:List (Addr×Obj)} (h:SE (xS X scope cl own C s H fp pn) elt f):PE (xS X scope cl own C s H fp pn) elt (Uo X.K (X.N.length+own.length) f):=by
 have q:=h.pe
 rw [show (xS X scope cl own C s H fp pn).N.length=X.N.length+own.length from Ts X own] at q
 exact q
theorem Tw {C:Addr} {s:Shared} {H:Hp} {fp:List Addr} {pn:List (Addr×Obj)} (h:gf (xS X scope cl own C s H fp pn) ifs ft):pR (xS X scope cl own C s H fp pn) ifs (X_ X.K (X.N.length+own.length) ft):=by
 have q:=h.h
 rw [show (xS X scope cl own C s H fp pn).N.length=X.N.length+own.length from Ts X own] at q
 exact q
theorem vp (hcalm:X.calm=true) (B:jH X scope cl own) (hi:SI X tg iter fs) (hg:BG X scope cl own tg g fg) (hc:∀ C s H fp pn,gf (xS X scope cl own C s H fp pn) ifs ft)
  (he:∀ C s H fp pn,SE (xS X scope cl own C s H fp pn) elt f) (hs:∀ x,foldedSetIterable iter X.env x=pure x:=by intro _; rfl) :
  SF X (.ListComp elt [⟨tg,iter,ifs,0⟩] scope pos) (wX own.length fs fg ft f):=by
 obtain ⟨ti,pi,ki⟩:=hi.h
 refine ⟨⟨_,Cs hcalm B pi (fun C s H fp pn=>(hg.q C s H fp pn).h) (fun C s H fp pn=>Tw (hc C s H fp pn)) (fun C s H fp pn=>Tv (he C s H fp pn)) hs,fun {G0 H0 G H τ σ d Q} K hf q=>?_⟩⟩
 obtain ⟨ds,hd,hf⟩:=zC hf
 obtain ⟨out,ho,hf⟩:=zC hf
 cases hf
 refine ki K hd fun J Ga Ha xa l wk=>JD wk l (K.go xa) ho (hg.k K.l2 K.l1) fun ys G1 H1 x1 r1 l1 p hp=>?_
 exact q p _ _ (xa.trans (x1.trans (zK.layO x1.gh hp))) (xa.h.free (x1.h.free hp)) (x1.gh.free hp) ⟨ys,yK,r1,l1⟩
theorem KZ {i:Nat} {x:Str} {px spos:Pos} (hcalm:X.calm=true) (hN:X.N.Nodup) (hix:X.N[i]?=some x) (hx:X.env.scope.names.lookup x=some .local) (B:jH X scope cl own)
  (hsw:swapsWith (.ListComp elt [⟨tg,iter,ifs,0⟩] scope pos) (some (.Name x px)) spos.line X.env=pure true) (hi:SI X tg iter fs) (hg:BG X scope cl own tg g fg) (hc:∀ C s H fp pn,gf (xS X scope cl own C s H fp pn) ifs ft)
  (he:∀ C s H fp pn,SE (xS X scope cl own C s H fp pn) elt f) (hs:∀ x,foldedSetIterable iter X.env x=pure x:=by intro _; rfl) :
  SS X (.Assign [.Name x px] (.ListComp elt [⟨tg,iter,ifs,0⟩] scope pos) spos) (yU i (wX own.length fs fg ft f)):=by
 obtain ⟨ti,pi,ki⟩:=hi.h
 refine ⟨⟨_,EU hcalm hN hix hx B hsw pi (fun C s H fp pn=>(hg.q C s H fp pn).h) (fun C s H fp pn=>Tw (hc C s H fp pn)) (fun C s H fp pn=>Tv (he C s H fp pn)) hs,fun {G0 H0 G H τ σ fl E} K hf q=>?_⟩⟩
 obtain ⟨d,hf1,hf⟩:=zC hf
 cases hf
 obtain ⟨ds,hd,hf1⟩:=zC hf1
 obtain ⟨out,ho,hf1⟩:=zC hf1
 cases hf1
 refine ki K hd fun J Ga Ha xa l wk=>JD wk l (K.go xa) ho (hg.k K.l2 K.l1) fun ys G1 H1 x1 r1 l1 p hp=>?_
 have K2:=((K.go xa).go x1).go (zK.lay (o:=.lst ys) x1.gh hp)
 exact q _ _ _ (K2.set (List.getElem?_eq_some_iff.mp hix).1 ⟨p,ys,rfl,yB.of yK,r1.mono (wB (x1.gh.free hp) _),l1⟩)
end
section
variable {K:PySem.W.Frag} {n:Nat} {G0 H0 G H:Hp} {τ:zf} {σ:St}
theorem zh.mut {i:Nat} {d d':D} {p:Addr} {o:HO} (E:zh K n G0 H0 G H τ σ) (hi:τ[i]?=some (some (true,d))) (hp:σ[i]?=some (some (.ref p))) (new:xc K G (zQ H p o) d' p):zh K n G0 H0 G (zQ H p o) (τ.set i (some (true,d'))) σ:=by
 obtain ⟨p',e,g,z,_⟩:=E.ow i d hi
 rw [hp] at e
 cases e
 have keep:∀ {H1:Hp},H1 p=none->zW H1 H->zW H1 (zQ H p o):=fun {H1} h s b u q=>by
  rw [zw (wb q h)]
  exact s _ _ q
 refine ⟨⟨E.ext.g,keep z E.ext.h,keep g E.ext.gh,E.ext.new⟩,E.l1,by rw [List.length_set]; exact E.l2,fun j e h=>?_,fun j e h=>?_,fun j k e f q hne h1 h2 h3 h4=>?_⟩
 ·rcases xY h with ⟨rfl,w⟩ | ⟨ne,w⟩
  ·cases w
  ·exact E.fr j e w
 ·rcases xY h with ⟨rfl,w⟩ | ⟨ne,w⟩
  ·cases w
   exact ⟨p,hp,g,z,new⟩
  ·obtain ⟨q,eq,gq,zq,oq⟩:=E.ow j e w
   refine ⟨q,eq,gq,zq,?_⟩
   have hne:q≠p:=fun c=>by
    subst c
    exact E.ap i j d e q (fun c=>ne c.symm) hi w hp eq
   cases e with
   | lst ds=>obtain ⟨vs,ev,r⟩:=oq; exact ⟨vs,by rw [zw hne]; exact ev,r⟩
   | dic ks ds=>obtain ⟨vs,ev,r⟩:=oq; exact ⟨vs,by rw [zw hne]; exact ev,r⟩
   | _=>exact oq.elim
 ·have t:∀ {j:Nat} {e:D},(τ.set i (some (true,d')))[j]?=some (some (true,e))->∃ e,τ[j]?=some (some (true,e)):=fun {j e} h=>by
   rcases xY h with ⟨rfl,_⟩ | ⟨_,w⟩
   ·exact ⟨_,hi⟩
   ·exact ⟨_,w⟩
  obtain ⟨e1,w1⟩:=t h1
  obtain ⟨e2,w2⟩:=t h2
  exact E.ap j k e1 e2 q hne w1 w2 h3 h4
end
section
variable {X:Cx} {x:Str} {xp pos apos cpos:Pos} {e:Expr} {f:FE}
theorem O0 {i:Nat} (ho:QE X (.Name x xp) (W1 i)) (he:SE X e f) (hbase:attributeBase (.Name x xp) "append" X.env (eval (.Name x xp) X.env)=eval (.Name x xp) X.env:=by rfl) (hline:(apos.endLine == cpos.line)=true:=by rfl) (hs:yT e=true:=by rfl) :
  SS X (.Expr (.Call (.Attribute (.Name x xp) "append" apos) [e] [] cpos) pos) (kn i g_ f):=by
 obtain ⟨t,p,k⟩:=(zA he zL hs).h
 refine ⟨⟨_,(Em (Ej PySem.F.plainAttrs_list PySem.F.slot_list_append PySem.F.type_list_append DL ho ⟨p⟩ hbase hline (by rw [List.all_cons,hs]; rfl) (by show 1<30; decide)) rfl).h,fun {G0 H0 G H τ σ fl E} K hf q=>?_⟩⟩
 unfold kn at hf
 split at hf
 ·rename_i d hd
  obtain ⟨y,hy,hf⟩:=zC hf
  obtain ⟨d',hd',hf⟩:=zC hf
  cases hf
  obtain ⟨a,ea,g,z,o⟩:=K.ow _ _ hd
  cases d with
  | lst ds=>
   obtain ⟨vs,ev,rs,l⟩:=o
   refine ⟨_,ea,.inl ⟨rfl,vs,yB.of ev⟩,k K (ds:=[y]) (by unfold z8; rw [hy]; rfl) fun us G1 H1 x1 r1=>?_⟩
   obtain ⟨u,r,rfl,hu,hr⟩:=r1
   cases (show r=[] from hr)
   change (if ds.length<yP then some (D.lst (ds++[y])) else none)=some d' at hd'
   by_cases c:ds.length<yP
   ·rw [if_pos c] at hd'
    cases hd'
    refine ⟨a,vs,u,rfl,rfl,x1.h _ _ ev,by rw [rs.length,sizeLine_eq]; exact c,?_⟩
    refine q _ _ _ ((K.go x1).mut hd ea ⟨vs++[u],yK,(rs.mono x1.g).append (Reps.one hu),?_⟩)
    rw [List.length_append,sizeLine_eq]
    exact c
   ·rw [if_neg c] at hd'
    cases hd'
  | _=>cases hd'
 ·cases hf
end
section
variable {P:Program} {w:World} {K:PySem.W.Frag} {mg:Str->Option Value} {base:Heap}
theorem Xc {α β:Type} {ds:List α} {k i:Nat} {h:α->Option β} {y:β} (e:(ds.map h++List.replicate k none)[i]?=some (some y)):∃ d,ds[i]?=some d/\h d=some y:=by
 have e':=XI e
 rw [List.getElem?_map] at e'
 cases q:ds[i]? with
 | none=>rw [q] at e'; cases e'
 | some d=>
  rw [q] at e'
  exact ⟨d,rfl,Option.some.inj e'⟩
theorem V9 {N:List Str} {G H:Hp} {ds:List D} {vs:List V} (s:zW G H) (r:Reps K G ds vs) (hl:ds.length<=N.length):zh K N.length G H G H (ds.map (fun d=>some (false,d))++List.replicate (N.length - ds.length) none) (L2.start N vs):=by
 have l:=r.length
 refine ⟨zK.refl s,?_,?_,fun i d h=>?_,fun i d h=>?_,fun i j d e p _ h1=>?_⟩
 ·unfold L2.start
  rw [List.length_append,List.length_map,List.length_replicate]
  omega
 ·rw [List.length_append,List.length_map,List.length_replicate]
  omega
 ·obtain ⟨d',e,z⟩:=Xc h
  cases z
  obtain ⟨v,ev,rv⟩:=r.get e
  refine ⟨v,?_,rv⟩
  unfold L2.start
  rw [List.getElem?_append_left (by rw [List.length_map]; exact (List.getElem?_eq_some_iff.mp ev).1),List.getElem?_map,ev]
  rfl
 ·obtain ⟨d',e,z⟩:=Xc h
  cases z
 ·obtain ⟨d',e,z⟩:=Xc h1
  cases z
theorem zE.okS {x:Str} {st:Stmt} {N ps:List Str} {k:Nat} {F:List D->Option (Bool×D)} {b:FS} (d:zE K mg x st ps) (S:ze N ps (zM st)) (hN:ps.length<=N.length) (hF:∀ ds r,F ds=some r->ds.length=ps.length/\zZ N.length b ds=some r)
  (hb:∀ (f:Addr) (cdv:Value) (A:Around) (outer:List Env) (s:Shared) (H:Hp) (E:XK),yF k (A.deeper (envOfC x (zM st) s.heap.objs.size f cdv))->vY (vf yZ P w K mg base N x (zM st) f cdv A outer s H E).nox (yM st) b):zH P w K mg base x ps (k+1) (zO K F):=by
 refine d.ok S (fun vs H Q E h=>?_) fun f cdv A outer s H vs Q E hr h=>?_
 ·obtain ⟨G,ds,o,dd,_,r,e,_⟩:=h
  rw [r.length,(hF _ _ e).1]
 ·obtain ⟨G,ds,o,dd,s',r,e,q⟩:=h
  obtain ⟨l,hrun⟩:=hF _ _ e
  obtain ⟨t,p,kt⟩:=(hb f cdv A outer s H E hr).h
  obtain ⟨fl,hfl,hrun⟩:=zC hrun
  refine ⟨t,p,kt (V9 (N:=N) s' r (by omega)) hfl ?_⟩
  cases fl with
  | nx τ=>
   cases hrun
   exact fun σ G' H' z=>q .non G' H' z.ext rfl
  | rt o' d'=>
   cases hrun
   cases o with
   | false=>exact q
   | true=>exact q
  | _=>cases hrun
end
end L3
namespace L3
open PySem PySem.Spec PyProof.Rows L2
section
variable {P:Program} {w:World} {K:PySem.W.Frag} {mg:Str->Option Value} {base:Heap}
end
end L3
namespace L3
open PySem PySem.Spec PyProof.Rows L2
section
variable {X:Cx} {K:PySem.W.Frag}
theorem j1 {C:Int->Int->Prop} {Cb:Int->Int->Bool} {g:Int->Int->Int} (h:∀ i j,Cb i j=true->C i j):wU K (rI C fun i j=>.int (g i j)) (fI Cb g):=fun G H x y u v d Q s rx ry hf q=>by
 cases x<;>first | (cases hf; done) | skip
 cases y<;>first | (cases hf; done) | skip
 rename_i i j
 change (match Cb i j with | true=>some (D.int (g i j)) | false=>none)=some d at hf
 cases c:Cb i j with
 | false=>rw [c] at hf; cases hf
 | true=>
  rw [c] at hf
  cases hf
  exact ⟨i,j,rx,ry,h i j c,q _ _ _ (zK.refl s) rfl⟩
theorem g7 {g:Int->Int->Int}:wU K (vF fun i j=>.int (g i j)) (u8 g):=fun G H x y u v d Q s rx ry hf q=>by
 cases x<;>first | (cases hf; done) | skip
 cases y<;>first | (cases hf; done) | skip
 cases hf
 exact ⟨_,_,rx,ry,q _ _ _ (zK.refl s) rfl⟩
theorem qg:wU K (vF fun i j=>.int (i - j)) uT:=fun G H x y u v d Q s rx ry hf q=>by
 cases x<;>first | (cases hf; done) | skip
 cases y<;>first | (cases hf; done) | skip
 cases hf
 exact ⟨_,_,rx,ry,q _ _ _ (zK.refl s) rfl⟩
theorem JJ {i:Int} (h:vi i=true) : -(2 ^ 64)<i/\i<2 ^ 64:=by
 unfold vi at h
 rw [Bool.and_eq_true] at h
 exact ⟨of_decide_eq_true h.1,of_decide_eq_true h.2⟩
theorem uz:wU K (rI gT fun i j=>.int (i*j)) u9:=j1 fun _ _ h=>.inl (JJ h)
theorem U0:wU K (rI gT fun i j=>.int (i*j)) kA:=j1 fun _ _ h=>.inr (JJ h)
theorem xA:wU K (rI (fun _ j=>0<j) fun i j=>.int (i % j)) yf:=j1 fun _ _ h=>of_decide_eq_true h
theorem j2:wU K (rI (fun _ j=>0<j/\j<2 ^ 64) fun i j=>.int (i / j)) uo:=j1 fun _ _ h=>by
 rw [Bool.and_eq_true] at h
 exact ⟨of_decide_eq_true h.1,of_decide_eq_true h.2⟩
theorem EN {i j:Int} (h:uc i j=true):WB i j:=by
 unfold uc at h
 rw [Bool.and_eq_true,Bool.and_eq_true] at h
 exact ⟨of_decide_eq_true h.1,of_decide_eq_true h.2.1,of_decide_eq_true h.2.2⟩
theorem j3:wU K (rI WB fun i j=>.int (i*2 ^ j.toNat)) uS:=j1 fun _ _ h=>EN h
theorem JT:wU K (rI (fun _ j=>0<=j) fun i j=>.int (i / 2 ^ j.toNat)) kB:=j1 fun _ _ h=>of_decide_eq_true h
theorem ub {g:Int->Int->Bool}:wu K (vF fun i j=>.bl (g i j)) (xT g):=fun H x y u v d Q rx ry hf=>by
 cases x<;>first | (cases hf; done) | skip
 cases y<;>first | (cases hf; done) | skip
 cases hf
 exact ⟨_,rfl,fun q=>⟨_,_,rx,ry,q⟩⟩
theorem J0 {H:Hp} {x:D} {u:V} (r:zP K H x u):jq x=decide (u=.non):=by
 cases x with
 | non=>cases r; rfl
 | bl b=>cases r; rfl
 | int b=>cases r; rfl
 | str b=>obtain ⟨rfl,_⟩:=r; rfl
 | tup b=>obtain ⟨a,vs,rfl,_⟩:=r; rfl
 | lst b=>obtain ⟨a,vs,rfl,_⟩:=r; rfl
 | dic b c=>obtain ⟨a,vs,rfl,_⟩:=r; rfl
 | exc b=>obtain ⟨a,C,rfl,_⟩:=r; rfl
 | obj b c e=>obtain ⟨a,C,dx,vs,rfl,_⟩:=r; rfl
theorem JR:wu K (fun x y H Q=>y=.non/\Q (.bl (decide (x=.non))) H) XB:=fun H x y u v d Q rx ry hf=>by
 cases y<;>first | (cases hf; done) | skip
 have e:=J0 rx
 refine ⟨jq x,(Option.some.inj hf).symm,fun q=>⟨ry,?_⟩⟩
 rw [<- e]
 exact q
theorem Fw:wu K (fun x y H Q=>y=.non/\Q (.bl (!decide (x=.non))) H) VH:=fun H x y u v d Q rx ry hf=>by
 cases y<;>first | (cases hf; done) | skip
 have e:=J0 rx
 refine ⟨!jq x,(Option.some.inj hf).symm,fun q=>⟨ry,?_⟩⟩
 rw [<- e]
 exact q
theorem Nd:∀ (G H:Hp) x u d (Q:VK),zP K G x u->VG x=some d->∃ w,(∀ G,zP K G d w)/\(Q w H->rU (fun i=>.int (-i)) u H Q):=fun G H x u d Q r hf=>by
 cases x<;>first | (cases hf; done) | skip
 cases hf
 exact ⟨_,fun _=>rfl,fun q=>⟨_,r,q⟩⟩
theorem Nc:∀ (G H:Hp) x u d (Q:VK),zP K G x u->Qa x=some d->∃ w,(∀ G,zP K G d w)/\(Q w H->rU (fun i=>.int (Builtin.bitNot i)) u H Q):=fun G H x u d Q r hf=>by
 cases x<;>first | (cases hf; done) | skip
 cases hf
 exact ⟨_,fun _=>rfl,fun q=>⟨_,r,q⟩⟩
noncomputable def IJ (K:PySem.W.Frag):R2:=fun x y H Q=>∃ l b xs zs,x=.ref l/\y=.ref b/\yB K H l xs/\yB K H b zs/\xs.length+zs.length<=sizeLine/\∀ p,H p=none->Q (.ref p) (zQ H p (.lst (xs++zs)))
theorem CF:zt X (binaryOp .Add) (IJ X.K):=by
 intro pins s σ H x y v u Q I rx ry h
 obtain ⟨l,b,xs,zs,rfl,rfl,hl,hb,hz,q⟩:=h
 cases rx
 cases ry
 obtain ⟨its,r1,p1,_⟩:=I.list hl
 obtain ⟨its2,r2,p2,_⟩:=I.list hb
 obtain ⟨⟨c1,d1,t1,sl1⟩,n1,ho1,hc1,hd1,ht1⟩:=p1
 obtain ⟨⟨c2,d2,t2,sl2⟩,n2,ho2,hc2,hd2,ht2⟩:=p2
 simp only at hc1 ht1 hc2 ht2
 subst hc1 ht1 hc2 ht2
 refine concat_meets ⟨_,ho1,rfl⟩ ⟨_,ho2,rfl⟩ noFill_list_add seq_list_add PySem.F.slot_list_add PySem.F.entry_list_add (PySem.F.args_list_add_2 _ _)
  (list_addW l b its.toArray its2.toArray n1 n2 d1 d2 sl1 sl2 (by rw [List.size_toArray,List.size_toArray,<- r1.length,<- r2.length]; exact hz)) ⟨ho1,ho2,?_⟩
 rw [show its.toArray++its2.toArray=(its++its2).toArray by simp]
 exact ⟨.ref _,_,I.lnew (t':=s.toks) (r1.append r2) (by rw [List.length_append]; exact hz),rfl,q _ I.fresh⟩
noncomputable def IH (K:PySem.W.Frag):R2:=fun x y H Q=>vF (fun i j=>.int (i+j)) x y H Q\/(∃ i k,x=.int i/\y=.bl k/\Q (.int (i+b2i k)) H)\/(∃ i j,x=.str i/\y=.str j/\i.length+j.length<=sizeLine/\Q (.str (i++j)) H)\/IJ K x y H Q\/IK K x y H Q
theorem xL:zt X (binaryOp .Add) (IH X.K):=CB.or (CC.or (CD.or (CF.or CG)))
theorem xK:wU K (IH K) ym:=fun G H x y u v d Q s rx ry hf q=>by
 cases x<;>cases y<;>first | (cases hf; done) | skip
 ·rename_i i b
  cases rx
  cases ry
  cases hf
  refine .inr (.inl ⟨i,b,rfl,rfl,?_⟩)
  have e:i+b2i b=i+(if b then 1 else 0):=by cases b<;>rfl
  rw [e]
  exact q _ _ _ (zK.refl s) rfl
 ·cases hf
  exact .inl ⟨_,_,rx,ry,q _ _ _ (zK.refl s) rfl⟩
 ·rename_i i j
  obtain ⟨rfl,l1⟩:=rx
  obtain ⟨rfl,l2⟩:=ry
  change (if i.length+j.length<=yP then _ else _)=_ at hf
  by_cases c:i.length+j.length<=yP
  ·rw [if_pos c] at hf
   cases hf
   have c':i.length+j.length<=sizeLine:=by rw [sizeLine_eq]; exact c
   exact .inr (.inr (.inl ⟨i,j,rfl,rfl,c',q _ _ _ (zK.refl s) ⟨rfl,by rw [strLen_append]; exact c'⟩⟩))
  ·rw [if_neg c] at hf
   cases hf
 ·rename_i xs ys
  obtain ⟨a,vs,rfl,sa,ra,_⟩:=rx
  obtain ⟨b,us,rfl,sb,rb,_⟩:=ry
  change (if xs.isEmpty=false/\xs.length+ys.length<=yP then _ else _)=_ at hf
  by_cases c0:xs.isEmpty=false/\xs.length+ys.length<=yP
  ·rw [if_pos c0] at hf
   have c:=c0.2
   cases hf
   have c':(xs++ys).length<=sizeLine:=by rw [sizeLine_eq,List.length_append]; exact c
   have hx:vs≠[]:=fun e=>by
    have l:=ra.length
    rw [e] at l
    cases xs with
    | nil=>cases c0.1
    | cons=>cases l
   ·refine .inr (.inr (.inr (.inr ⟨a,b,vs,us,rfl,rfl,wo s sa,wo s sb,hx,by rw [ra.length,rb.length,sizeLine_eq]; exact c,fun e=>?_,fun e p hp=>?_⟩)))
    ·subst e
     have e2:ys=[]:=by
      cases ys with
      | nil=>rfl
      | cons=>obtain ⟨_,_,z,_⟩:=rb; cases z
     subst e2
     exact q _ _ _ (zK.refl s) ⟨a,vs,rfl,sa,by rw [List.append_nil]; exact ra,c'⟩
    ·exact q _ _ _ (zK.lay s hp) ⟨p,vs++us,rfl,yQ.of yK,(ra.append rb).mono (wB (s.free hp) _),c'⟩
  ·rw [if_neg c0] at hf
   cases hf
 ·rename_i xs ys
  obtain ⟨a,vs,rfl,sa,ra,_⟩:=rx
  obtain ⟨b,us,rfl,sb,rb,_⟩:=ry
  change (if xs.length+ys.length<=yP then _ else _)=_ at hf
  by_cases c:xs.length+ys.length<=yP
  ·rw [if_pos c] at hf
   cases hf
   have c':(xs++ys).length<=sizeLine:=by rw [sizeLine_eq,List.length_append]; exact c
   refine .inr (.inr (.inr (.inl ⟨a,b,vs,us,rfl,rfl,wd s sa,wd s sb,by rw [ra.length,rb.length,sizeLine_eq]; exact c,fun p hp=>?_⟩)))
   exact q _ _ _ (zK.lay s hp) ⟨p,vs++us,rfl,yB.of yK,(ra.append rb).mono (wB (s.free hp) _),c'⟩
  ·rw [if_neg c] at hf
   cases hf
theorem Oh {α:Type} {xs:List α} {i:Int} {x:α} (h:vz xs i=some x):∃ j:Nat,xs[j]?=some x/\∀ {β:Type} (ys:List β),ys.length=xs.length->vz ys i=ys[j]?:=by
 unfold vz at h
 cases e:ixN xs.length i with
 | none=>rw [e] at h; cases h
 | some j=>
  rw [e] at h
  exact ⟨j,h,fun ys l=>by unfold vz; rw [l,e]; rfl⟩
theorem TU {α:Type} (xs:List α) (i:Int):vz xs i=wW xs i:=by
 unfold vz wW ixN
 by_cases h:0<=i
 ·rw [if_pos h,if_pos h]
  by_cases h2:i<xs.length
  ·rw [if_pos h2]; rfl
  ·rw [if_neg h2]
   exact (List.getElem?_eq_none (by omega)).symm
 ·rw [if_neg h,if_neg h]
  split<;>rfl
theorem IV {H:Hp} {ds:List D} {vs:List V} {i:Int} {d:D} (r:Reps K H ds vs) (h:wW ds i=some d):∃ v,vz vs i=some v/\zP K H d v:=by
 rw [<- TU] at h
 obtain ⟨j,e,k⟩:=Oh h
 obtain ⟨v,ev,rv⟩:=r.get e
 exact ⟨v,by rw [k vs r.length]; exact ev,rv⟩
noncomputable def Lu:D->D->Option D
 | .lst xs,.int i=>wW xs i
 | .tup xs,.int i=>wW xs i
 | .str z,.int i=>(wW z.cps.toList i).bind fun c=>some (.str ⟨#[c]⟩)
 | _,_=>none
theorem V_:wU K (UM K) Lu:=fun G H x y u v d Q s rx ry hf q=>by
 cases x<;>first | (cases hf; done) | skip
 all_goals (cases y<;>first | (cases hf; done) | skip)
 ·rename_i z i
  obtain ⟨rfl,l⟩:=rx
  cases ry
  obtain ⟨c,hc,hf⟩:=zC hf
  cases hf
  rw [<- TU] at hc
  exact .inr (.inr ⟨z,i,c,rfl,rfl,l,hc,q _ _ _ (zK.refl s) ⟨rfl,wK (n:=1) (by decide)⟩⟩)
 ·rename_i xs i
  obtain ⟨a,vs,rfl,sa,ra,_⟩:=rx
  cases ry
  obtain ⟨w,hw,rw_⟩:=IV ra hf
  exact .inr (.inl ⟨a,vs,i,w,rfl,rfl,wo s sa,hw,q _ _ _ (zK.refl s) rw_⟩)
 ·rename_i xs i
  obtain ⟨a,vs,rfl,sa,ra,_⟩:=rx
  cases ry
  obtain ⟨w,hw,rw_⟩:=IV ra hf
  exact .inl ⟨a,vs,i,w,rfl,rfl,wd s sa,hw,q _ _ _ (zK.refl s) rw_⟩
theorem Yz:xC X (.builtin "len") (fun xs H Q=>(∃ p ys,xs=[.ref p]/\(yB X.K H p ys\/yQ X.K H p ys)/\Q (.int ys.length) H)\/∃ z,xs=[.str z]/\z.length<=sizeLine/\Q (.int z.length) H):=LM.or LN
theorem Xe:tI K (fun xs H Q=>(∃ p ys,xs=[.ref p]/\(yB K H p ys\/yQ K H p ys)/\Q (.int ys.length) H)\/∃ z,xs=[.str z]/\z.length<=sizeLine/\Q (.int z.length) H) ph:=fun G H ds vs d Q s r hf q=>by
 match ds,hf with
 | [.lst xs],hf=>
  cases hf
  obtain ⟨v,r',rfl,⟨a,us,rfl,sq,ru,_⟩,h2⟩:=r
  cases (show r'=[] from h2)
  exact .inl ⟨a,us,rfl,.inl sq,by rw [ru.length]; exact q _ _ _ (zK.refl s) rfl⟩
 | [.tup xs],hf=>
  cases hf
  obtain ⟨v,r',rfl,⟨a,us,rfl,sq,ru,_⟩,h2⟩:=r
  cases (show r'=[] from h2)
  exact .inl ⟨a,us,rfl,.inr sq,by rw [ru.length]; exact q _ _ _ (zK.refl s) rfl⟩
 | [.str z],hf=>
  cases hf
  obtain ⟨v,r',rfl,⟨rfl,l⟩,h2⟩:=r
  cases (show r'=[] from h2)
  exact .inr ⟨z,rfl,l,q _ _ _ (zK.refl s) rfl⟩
theorem Fp:tI K (fun xs H Q=>∃ i j,xs=[.int i,.int j]/\Q (.int (if j > i then j else i)) H) XC:=fun G H ds vs d Q s r hf q=>by
 match ds,hf with
 | [.int i,.int j],hf=>
  cases hf
  obtain ⟨v,r',rfl,rfl,⟨v2,r2,rfl,rfl,h2⟩⟩:=r
  cases (show r2=[] from h2)
  exact ⟨i,j,rfl,q _ _ _ (zK.refl s) rfl⟩
theorem FD:tI K (fun xs H Q=>(∃ i,xs=[.int i]/\Q (.int i) H)\/∃ k,xs=[.bl k]/\Q (.int (if k then 1 else 0)) H) VD:=fun G H ds vs d Q s r hf q=>by
 match ds,hf with
 | [.int i],hf=>
  cases hf
  obtain ⟨v,r',rfl,rfl,h2⟩:=r
  cases (show r'=[] from h2)
  exact .inl ⟨i,rfl,q _ _ _ (zK.refl s) rfl⟩
 | [.bl k],hf=>
  cases hf
  obtain ⟨v,r',rfl,rfl,h2⟩:=r
  cases (show r'=[] from h2)
  exact .inr ⟨k,rfl,q _ _ _ (zK.refl s) rfl⟩
end
end L3
namespace L3
open PySem PySem.Spec PyProof.Rows L2
theorem QH:∀ xs ys:List D,(((List.range (min xs.length ys.length)).all fun j=>yk (xs.getD j .non) (ys.getD j .non))&&xs.length == ys.length)=dEqs xs ys
 | [],[]=>rfl
 | [],_::_=>rfl
 | _::_,[]=>rfl
 | x::xs,y::ys=>by
  have ih:=QH xs ys
  show _=(yk x y&&dEqs xs ys)
  rw [<- ih,List.length_cons,List.length_cons,Nat.succ_min_succ,List.range_succ_eq_map,List.all_cons,List.all_map,Bool.and_assoc]
  congr 1
  congr 1
  rw [Bool.eq_iff_iff]
  simp
theorem Q8 {f:D->D->Bool}:∀ {xs ys:List D},ve f xs ys=true->∀ (j:Nat) x y,xs[j]?=some x->ys[j]?=some y->f x y=true
 | [],_,_,j,x,y,e,_=>by cases e
 | x::xs,[],_,j,_,y,_,e=>by cases e
 | x::xs,y::ys,h,0,_,_,e1,e2=>by
  cases e1
  cases e2
  have h':(f x y&&ve f xs ys)=true:=h
  rw [Bool.and_eq_true] at h'
  exact h'.1
 | x::xs,y::ys,h,j+1,a,b,e1,e2=>by
  have h':(f x y&&ve f xs ys)=true:=h
  rw [Bool.and_eq_true] at h'
  exact Q8 h'.2 j a b (by simpa using e1) (by simpa using e2)
section
variable {X:Cx} {pins:List (Addr×Obj)} {σ:St} {H:Hp} {s:Shared} {K:PySem.W.Frag}
theorem VA {n:Nat} (ih:∀ d1 d2 v,wG n d1 d2=true->zP K H d1 v->zP K H d2 v->yk d1 d2=true):∀ {xs ys:List D} {vs:List V},ve (wG n) xs ys=true->Reps K H xs vs->Reps K H ys vs->dEqs xs ys=true
 | [],[],_,_,_,_=>rfl
 | [],_::_,_,_,r1,r2=>by
  cases (show _=[] from r1)
  obtain ⟨_,_,e,_⟩:=r2
  cases e
 | _::_,[],_,_,r1,r2=>by
  cases (show _=[] from r2)
  obtain ⟨_,_,e,_⟩:=r1
  cases e
 | x::xs,y::ys,_,h,r1,r2=>by
  obtain ⟨v,r,rfl,a,b⟩:=r1
  obtain ⟨v',r',e,a',b'⟩:=r2
  cases e
  have h':(wG n x y&&ve (wG n) xs ys)=true:=h
  rw [Bool.and_eq_true] at h'
  show (yk x y&&dEqs xs ys)=true
  rw [ih x y v h'.1 a a',VA ih h'.2 b b']
  rfl
theorem Wx {n:Nat} {x y:D} (h:wG (n+1) x y=true):(∃ xs ys,x=.tup xs/\y=.tup ys/\ve (wG n) xs ys=true)\/(∃ xs ys,x=.lst xs/\y=.lst ys/\ve (wG n) xs ys=true)\/(yd x=true/\yd y=true):=by
 unfold wG at h
 split at h
 ·exact .inl ⟨_,_,rfl,rfl,h⟩
 ·exact .inr (.inl ⟨_,_,rfl,rfl,h⟩)
 ·rw [Bool.and_eq_true] at h
  exact .inr (.inr h)
theorem gM {d:D} {v:V} (h:yd d=true) (r:zP K H d v):uU v=true:=by
 cases d<;>first | exact absurd h Bool.false_ne_true | skip
 ·cases (show v=_ from r); rfl
 ·cases (show v=_ from r); rfl
 ·cases (show v=_ from r); rfl
 ·cases (show v=_/\_ from r).1; rfl
theorem UR {d1 d2:D} {x y:V} (h1:yd d1=true) (h2:yd d2=true) (r1:zP K H d1 x) (r2:zP K H d2 y):u7 x y=yk d1 d2:=by
 cases d1<;>first | exact absurd h1 Bool.false_ne_true | skip
 all_goals (cases d2<;>first | exact absurd h2 Bool.false_ne_true | skip)
 all_goals first
  | (cases (show x=_ from r1); cases (show y=_ from r2); rfl)
  | (cases (show x=_ from r1); cases (show y=_/\_ from r2).1; rfl)
  | (cases (show x=_/\_ from r1).1; cases (show y=_ from r2); rfl)
  | (cases (show x=_/\_ from r1).1; cases (show y=_/\_ from r2).1; rfl)
theorem X5 (I:zB X pins σ H s):∀ (n:Nat) (d1 d2:D) (v:V),wG n d1 d2=true->zP X.K H d1 v->zP X.K H d2 v->yk d1 d2=true
 | 0,_,_,_,h,_,_=>by cases h
 | n+1,d1,d2,v,h,r1,r2=>by
  rcases Wx h with ⟨xs,ys,rfl,rfl,h⟩ | ⟨xs,ys,rfl,rfl,h⟩ | ⟨f1,f2⟩
  ·obtain ⟨a,vs,rfl,s1,q1,_⟩:=r1
   obtain ⟨a',us,e,s2,q2,_⟩:=r2
   cases e
   cases I.tuple_inj s1 s2
   exact VA (fun d1 d2 v=>X5 I n d1 d2 v) h q1 q2
  ·obtain ⟨a,vs,rfl,s1,q1,_⟩:=r1
   obtain ⟨a',us,e,s2,q2,_⟩:=r2
   cases e
   cases I.list_inj s1 s2
   exact VA (fun d1 d2 v=>X5 I n d1 d2 v) h q1 q2
  ·rw [<- UR f1 f2 r1 r2]
   exact Lo (gM f1 r1)
theorem Qi {α:Type} {xs:List α} {j:Nat} {x d:α} (h:xs[j]?=some x):xs.getD j d=x:=by rw [List.getD_eq_getElem?_getD,h]; rfl
theorem Xn {A:Around} {n:Nat} {a c:Addr} {xs ys:List D} {vs us:List V} (I:zB X pins σ H s) (hu:A.units<cLine) (hq:TK X.K H a c vs us) (q1:Reps X.K H xs vs) (q2:Reps X.K H ys us) (h:ve (wG n) xs ys=true)
  (ih:∀ (d1 d2:D) (x y:V) (u v:Value),wG n d1 d2=true->zP X.K H d1 x->zP X.K H d2 y->zX x u->zX y v->SeqAt.EqAt A.in1 s u v (yk d1 d2)):SeqAt.RcAt A s (.ref a) (.ref c) (dEqs xs ys)/\SeqAt.RcNeAt A s (.ref a) (.ref c) (!dEqs xs ys):=by
 have z:=E_ (A:=A) (e:=fun j=>yk (xs.getD j .non) (ys.getD j .non)) I hu hq fun j x' y' u' v' e1 e2 w1 w2=>by
  obtain ⟨d1,g1,t1⟩:=q1.at e1
  obtain ⟨d2,g2,t2⟩:=q2.at e2
  show SeqAt.EqAt A.in1 s u' v' (yk (xs.getD j .non) (ys.getD j .non))
  rw [Qi g1,Qi g2]
  exact ih d1 d2 x' y' u' v' (Q8 h j d1 d2 g1 g2) t1 t2 w1 w2
 rw [q1.length,q2.length,QH] at z
 exact z
theorem X4 (I:zB X pins σ H s):∀ (n:Nat) (A:Around) (d1 d2:D) (x y:V) (u v:Value),A.units+n<cLine->wG n d1 d2=true->zP X.K H d1 x->zP X.K H d2 y->zX x u->zX y v->SeqAt.EqAt A s u v (yk d1 d2)
 | 0,_,_,_,_,_,_,_,_,h,_,_,_,_=>by cases h
 | n+1,A,d1,d2,x,y,u,v,hu,h,r1,r2,rx,ry=>by
  have h0:=h
  have ra:=r1
  have rb:=r2
  rcases Wx h with ⟨xs,ys,rfl,rfl,h⟩ | ⟨xs,ys,rfl,rfl,h⟩ | ⟨f1,f2⟩
  ·obtain ⟨a,vs,rfl,s1,q1,l1⟩:=r1
   obtain ⟨c,us,rfl,s2,q2,l2⟩:=r2
   cases (show u=Value.ref a from rx)
   cases (show v=Value.ref c from ry)
   by_cases hac:a=c
   ·subst hac
    rw [X5 I (n+1) _ _ _ h0 ra rb]
    exact SeqAt.EqAt.same _
   ·exact SeqAt.EqAt.of_refs hac (Xn I (by omega) (.inl ⟨s1,s2⟩) q1 q2 h fun d1 d2 x y u v hh t1 t2 w1 w2=>X4 I n A.in1 d1 d2 x y u v (by rw [XN]; omega) hh t1 t2 w1 w2).1
  ·obtain ⟨a,vs,rfl,s1,q1,l1⟩:=r1
   obtain ⟨c,us,rfl,s2,q2,l2⟩:=r2
   cases (show u=Value.ref a from rx)
   cases (show v=Value.ref c from ry)
   by_cases hac:a=c
   ·subst hac
    rw [X5 I (n+1) _ _ _ h0 ra rb]
    exact SeqAt.EqAt.same _
   ·exact SeqAt.EqAt.of_refs hac (Xn I (by omega) (.inr ⟨s1,s2⟩) q1 q2 h fun d1 d2 x y u v hh t1 t2 w1 w2=>X4 I n A.in1 d1 d2 x y u v (by rw [XN]; omega) hh t1 t2 w1 w2).1
  ·rw [<- UR f1 f2 r1 r2]
   exact QX rx ry (gM f1 r1) (gM f2 r2)
end
noncomputable def Xm (K:PySem.W.Frag) (neg:Bool):R2:=fun x y H Q=>∃ d1 d2 k,zP K H d1 x/\zP K H d2 y/\qW d1 d2=some k/\Q (.bl (if neg then !k else k)) H
theorem ye {A:Around} {k:Nat} (hr:yF k A):A.units+7<cLine:=Nat.lt_of_le_of_lt (Nat.add_le_add_left (by decide:7<=64) _) hr.units
section
variable {X:Cx} {K:PySem.W.Frag}
theorem VC {d1 d2:D} {k:Bool} (h:qW d1 d2=some k):wG 6 d1 d2=true/\k=yk d1 d2:=by
 unfold qW at h
 split at h
 ·cases h
 ·cases h
 ·split at h
  ·rename_i e
   cases h
   exact ⟨e,rfl⟩
  ·cases h
theorem Ip {H:Hp} {d1 d2:D} {x y:V} {k:Bool} (h:qW d1 d2=some k) (h1:yd d1=true) (h2:yd d2=true) (r1:zP K H d1 x) (r2:zP K H d2 y):UY x y=true/\decide (x=y)=k:=by
 obtain ⟨_,e⟩:=VC h
 subst e
 cases d1<;>first | exact absurd h1 Bool.false_ne_true | skip
 all_goals (cases d2<;>first | exact absurd h2 Bool.false_ne_true | (cases h; done) | skip)
 all_goals first
  | (cases (show x=_ from r1); cases (show y=_ from r2); exact ⟨rfl,by first | rfl | exact V4 | exact V3⟩)
  | (cases (show x=_ from r1); cases (show y=_/\_ from r2).1; exact ⟨rfl,rfl⟩)
  | (cases (show x=_/\_ from r1).1; cases (show y=_ from r2); exact ⟨rfl,rfl⟩)
  | (cases (show x=_/\_ from r1).1; cases (show y=_/\_ from r2).1; exact ⟨rfl,V5⟩)
theorem QY {pins:List (Addr×Obj)} {σ:St} {H:Hp} {s:Shared} {A:Around} {d1 d2:D} {x y:V} {u v:Value} (I:zB X pins σ H s) (hu:A.units+7<cLine) (h:wG 6 d1 d2=true) (hf:¬ (yd d1&&yd d2)=true) (r1:zP X.K H d1 x) (r2:zP X.K H d2 y) (rx:zX x u) (ry:zX y v) :
  SeqAt.RcAt A s u v (yk d1 d2)/\SeqAt.RcNeAt A s u v (!yk d1 d2):=by
 rcases Wx h with ⟨xs,ys,rfl,rfl,h⟩ | ⟨xs,ys,rfl,rfl,h⟩ | ⟨f1,f2⟩
 ·obtain ⟨a,vs,rfl,s1,q1,l1⟩:=r1
  obtain ⟨c,us,rfl,s2,q2,l2⟩:=r2
  cases (show u=Value.ref a from rx)
  cases (show v=Value.ref c from ry)
  exact Xn I (by omega) (.inl ⟨s1,s2⟩) q1 q2 h fun d1 d2 x y u v hh t1 t2 w1 w2=>X4 I 5 A.in1 d1 d2 x y u v (by rw [XN]; omega) hh t1 t2 w1 w2
 ·obtain ⟨a,vs,rfl,s1,q1,l1⟩:=r1
  obtain ⟨c,us,rfl,s2,q2,l2⟩:=r2
  cases (show u=Value.ref a from rx)
  cases (show v=Value.ref c from ry)
  exact Xn I (by omega) (.inr ⟨s1,s2⟩) q1 q2 h fun d1 d2 x y u v hh t1 t2 w1 w2=>X4 I 5 A.in1 d1 d2 x y u v (by rw [XN]; omega) hh t1 t2 w1 w2
 ·exact absurd (by rw [f1,f2]; rfl) hf
theorem xE (hu:X.A.units+7<cLine):zt X (compareOp .Eq) (Xm X.K false):=by
 intro pins s σ H x y v u Q I rx ry h
 obtain ⟨d1,d2,k,r1,r2,hk,q⟩:=h
 by_cases hf:(yd d1&&yd d2)=true
 ·have hf':=hf
  rw [Bool.and_eq_true] at hf'
  obtain ⟨a,b⟩:=Ip hk hf'.1 hf'.2 r1 r2
  exact CI pins s σ H x y v u Q I rx ry ⟨a,by rw [b]; exact q⟩
 ·obtain ⟨hc,rfl⟩:=VC hk
  exact (QY I hu hc hf r1 r2 rx ry).1 _ _ _ _ ⟨.bl _,H,I,rfl,q⟩
theorem gC (hu:X.A.units+7<cLine):zt X (compareOp .NotEq) (Xm X.K true):=by
 intro pins s σ H x y v u Q I rx ry h
 obtain ⟨d1,d2,k,r1,r2,hk,q⟩:=h
 by_cases hf:(yd d1&&yd d2)=true
 ·have hf':=hf
  rw [Bool.and_eq_true] at hf'
  obtain ⟨a,b⟩:=Ip hk hf'.1 hf'.2 r1 r2
  exact CN pins s σ H x y v u Q I rx ry ⟨a,by rw [b]; exact q⟩
 ·obtain ⟨hc,rfl⟩:=VC hk
  exact (QY I hu hc hf r1 r2 rx ry).2 _ _ _ _ ⟨.bl _,H,I,rfl,q⟩
theorem xD:wu K (Xm K false) zo:=fun H x y u v d Q rx ry hf=>by
 obtain ⟨k,hk,hf⟩:=zC hf
 cases hf
 exact ⟨_,rfl,fun q=>⟨x,y,k,rx,ry,hk,q⟩⟩
theorem g9:wu K (Xm K true) vA:=fun H x y u v d Q rx ry hf=>by
 obtain ⟨k,hk,hf⟩:=zC hf
 cases hf
 exact ⟨_,rfl,fun q=>⟨x,y,k,rx,ry,hk,q⟩⟩
end
theorem BZ {K:PySem.W.Frag}:PySem.W.kitOne K (.type "NoneType") (.type "str")=some false/\PySem.W.kitOne K (.type "NoneType") (.type "list")=some false/\PySem.W.kitOne K (.type "NoneType") (.type "tuple")=some false/\
  PySem.W.kitOne K (.type "bool") (.type "str")=some false/\PySem.W.kitOne K (.type "bool") (.type "list")=some false/\PySem.W.kitOne K (.type "bool") (.type "tuple")=some false/\
  PySem.W.kitOne K (.type "int") (.type "str")=some false/\PySem.W.kitOne K (.type "int") (.type "list")=some false/\PySem.W.kitOne K (.type "int") (.type "tuple")=some false:=by refine ⟨?_,?_,?_,?_,?_,?_,?_,?_,?_⟩<;>kernel_rfl
theorem Ba {K:PySem.W.Frag}:PySem.W.kitOne K (.type "str") (.type "int")=some false/\PySem.W.kitOne K (.type "str") (.type "bool")=some false/\PySem.W.kitOne K (.type "str") (.type "list")=some false/\PySem.W.kitOne K (.type "str") (.type "tuple")=some false/\
  PySem.W.kitOne K (.type "list") (.type "int")=some false/\PySem.W.kitOne K (.type "list") (.type "bool")=some false/\PySem.W.kitOne K (.type "list") (.type "str")=some false/\PySem.W.kitOne K (.type "list") (.type "tuple")=some false/\PySem.W.kitOne K (.type "list") (.type "list")=some true:=by refine ⟨?_,?_,?_,?_,?_,?_,?_,?_,?_⟩<;>first | kernel_rfl | rfl
theorem Bb {K:PySem.W.Frag}:PySem.W.kitOne K (.type "tuple") (.type "int")=some false/\PySem.W.kitOne K (.type "tuple") (.type "bool")=some false/\PySem.W.kitOne K (.type "tuple") (.type "list")=some false/\PySem.W.kitOne K (.type "tuple") (.type "str")=some false:=by refine ⟨?_,?_,?_,?_⟩<;>kernel_rfl
noncomputable def NY:D->String
 | .non => "NoneType"
 | .bl _ => "bool"
 | .int _ => "int"
 | .str _ => "str"
 | .tup _ => "tuple"
 | .lst _ => "list"
 | .dic _ _ => "dict"
 | .exc _ => "x"
 | .obj _ _ _ => "x"
theorem ju {K:PySem.W.Frag} {T:qQ} {d:D} {b:Bool} (h:XR T d=some b):PySem.W.kitOne K (.type (NY d)) (.type T.nm)=some b:=by
 obtain ⟨x1,x2,x3,x4,x5,x6,x7,x8,x9⟩:=BZ (K:=K)
 obtain ⟨y1,y2,y3,y4,y5,y6,y7,y8,y9⟩:=Ba (K:=K)
 obtain ⟨z1,z2,z3,z4⟩:=Bb (K:=K)
 cases T<;>cases d<;>cases h
 all_goals first | exact BU | exact BS | exact BT | exact BR | exact BW | exact BV | exact BY | exact BX | assumption
noncomputable def Es (K:PySem.W.Frag) (T:qQ):List V->Hp->VK->Prop:=fun xs H Q=>∃ x d b,xs=[x,.ty T.nm]/\zP K H d x/\XR T d=some b/\Q (.bl b) H
theorem LK {X:Cx} (T:qQ):xC X (.builtin "isinstance") (Es X.K T):=by
 intro pins s σ H xs us Q I r h
 obtain ⟨x,d,b,rfl,rd,e,q⟩:=h
 obtain ⟨u,c,rfl,rx,rc⟩:=W3 r
 cases (show c=Value.type T.nm from rc)
 have fin:∀ tk,EP X pins σ Q (.bool b) { s with toks:=tk }:=fun tk=>⟨.bl b,H,I.tok tk,rfl,q⟩
 cases d with
 | non=>cases (show x=_ from rd); exact XS I rx .non (ju (d:=.non) e) fin
 | bl y=>cases (show x=_ from rd); exact XS I rx (.bl _) (ju (d:=.bl y) e) fin
 | int y=>cases (show x=_ from rd); exact XS I rx (.int _) (ju (d:=.int y) e) fin
 | str y=>cases (show x=_/\_ from rd).1; exact XS I rx (.str _) (ju (d:=.str y) e) fin
 | tup ds=>
  obtain ⟨a,vs,rfl,sq,_⟩:=rd
  cases (show u=Value.ref a from rx)
  obtain ⟨its,_,⟨o,h1,h2,_⟩,_⟩:=I.tuple sq
  exact PySem.W.kia_one PySem.W.kitx_tuple I.kIn ⟨o,h1,h2⟩ (ju (d:=.tup ds) e) (fun z=>nomatch z) fin
 | lst ds=>
  obtain ⟨a,vs,rfl,sq,_⟩:=rd
  cases (show u=Value.ref a from rx)
  obtain ⟨its,_,⟨o,n,h1,h2,_⟩,_⟩:=I.list sq
  exact PySem.W.kia_one PySem.W.kitx_list I.kIn ⟨o,h1,h2⟩ (ju (d:=.lst ds) e) (fun z=>nomatch z) fin
 | dic ks ds=>cases T<;>cases e
 | exc _=>cases T<;>cases e
 | obj _ _ _=>cases T<;>cases e
theorem Zw {X:Cx} {a:Expr} {f:FE} {x:Str} {p p1 pos:Pos} (T:qQ) (hg:Gl X "isinstance") (hgT:Gl X x) (hm:X.mg "isinstance" = none) (hmT:X.mg x=none) (hv:bootBuiltins x=some (.type T.nm)) (ha:SB X a f) (hs:yT a=true:=by rfl)
  (hn:x ≠ "__name__" := by decide) (hd:(x == ("__debug__" : Str))=false:=by decide):SE X (.Call (.Name "isinstance" p) [a,.Name x p1] [] pos) (pd T f):=by
 obtain ⟨t,pt,k⟩:=ha.h
 refine ⟨⟨_,(Xl (LK T) hg hm L7 (IF ⟨pt⟩ (IF (Ek hgT hmT hv hn hd) Ei rfl) hs) (by decide) (by decide) (by rw [List.all_cons,hs]; rfl)).h,fun {G0 H0 G H τ σ d Q} E hf q=>?_⟩⟩
 obtain ⟨z,hz,hf⟩:=zC hf
 obtain ⟨b,hb,hf⟩:=zC hf
 cases hf
 exact k E hz fun v G' H' x r=>⟨v,z,b,rfl,r,hb,q _ _ _ x rfl⟩
end L3
namespace L3
open PySem
theorem tP {g:FG} {b:FS} (P:Nat->zf->Prop):∀ {ds:List D} {σ:zf} (n:Nat),P n σ->(∀ i d σ,ds[i]?=some d->P (n+i) σ->∃ σ1 σ2,g d σ=some σ1/\(b σ1=some (.nx σ2)\/b σ1=some (.ct σ2))/\P (n+i+1) σ2)->
  ∃ σ',tO g b ds σ=some (.nx σ')/\P (n+ds.length) σ'
 | [],σ,n,h,_=>⟨σ,rfl,h⟩
 | d::ds,σ,n,h,step=>by
  obtain ⟨σ1,σ2,e1,e2,p2⟩:=step 0 d σ rfl h
  obtain ⟨σ',e3,p3⟩:=tP P (ds:=ds) (σ:=σ2) (n+1) p2 fun i d' τ hd hp=>by
   obtain ⟨a,b',c1,c2,c3⟩:=step (i+1) d' τ (by simpa using hd) (by rw [show n+(i+1)=n+1+i by omega]; exact hp)
   exact ⟨a,b',c1,c2,by rw [show n+1+i+1=n+(i+1)+1 by omega]; exact c3⟩
  refine ⟨σ',?_,by rw [List.length_cons,show n+(ds.length+1)=n+1+ds.length by omega]; exact p3⟩
  show (g d σ).bind _=_
  rw [e1]
  show (b σ1).bind _=_
  rcases e2 with e2 | e2
  ·rw [e2]; exact e3
  ·rw [e2]; exact e3
noncomputable abbrev yq (j:Nat):List D:=(List.range j).map fun k:Nat=>D.int k
theorem j8 {f:FE} {τ:zf} {n:Int} (h:f τ=some (.int n)) (h1:n.natAbs<=1000000):vM (eC (.int 0)) f τ=some (yq n.toNat):=by
 unfold vM
 rw [h]
 show (if (0:Int).natAbs<=yP/\n.natAbs<=yP/\(n - 0).toNat<=yP then _ else _)=_
 rw [if_pos ⟨by decide,by show _<=16777216; omega,by show _<=16777216; omega⟩,Int.sub_zero]
 simp only [Int.zero_add]
end L3
namespace L3
noncomputable def shx:=
 And.intro zZ.eq_1 <| And.intro zj.eq_1 <| And.intro yU.eq_1 <| And.intro qj.eq_1 <| And.intro z_.eq_1 <| And.intro ud.eq_1 <| And.intro qi.eq_1 <| And.intro xF.eq_1 <| And.intro xq.eq_1 <| And.intro km.eq_1 <|
 And.intro HE.eq_1 <| And.intro kn.eq_1 <| And.intro t3.eq_1 <| And.intro tO.eq_1 <| And.intro tO.eq_2 <| And.intro e1.eq_1 <| And.intro e2.eq_1 <| And.intro eL.eq_1 <| And.intro eC.eq_1 <| And.intro z6.eq_1 <| And.intro gx.eq_1 <|
 And.intro z8.eq_1 <| And.intro zF.eq_1 <| And.intro tE.eq_1 <| And.intro tK.eq_def <| And.intro Km.eq_1 <| And.intro Y2.eq_1 <| And.intro t_.eq_1 <| And.intro pZ.eq_1 <| And.intro V8.eq_1 <| And.intro X2.eq_1 <| And.intro uQ.eq_1 <|
 And.intro xX.eq_1 <| And.intro xf.eq_1 <| And.intro pd.eq_1 <| And.intro XR.eq_def <| And.intro fI.eq_def <| And.intro uT.eq_def <| And.intro xT.eq_def <| And.intro u9.eq_1 <| And.intro kA.eq_1 <| And.intro yf.eq_1 <| And.intro uo.eq_1 <|
 And.intro Lv.eq_1 <| And.intro uS.eq_1 <| And.intro kB.eq_1 <| And.intro u8.eq_def <| And.intro VG.eq_def <| And.intro ph.eq_def <| And.intro VD.eq_def <| And.intro XB.eq_def <| And.intro VH.eq_def <| And.intro jq.eq_def <|
 And.intro yH.eq_1 <| And.intro qX.eq_1 <| And.intro wj.eq_1 <| And.intro zi.eq_1 <| And.intro wz.eq_1 <| And.intro wX.eq_1 <|
 And.intro @Option.bind_some.{0,0} <| And.intro @Option.bind_none.{0,0} <| And.intro @List.getElem?_cons_zero.{0} <| And.intro @List.getElem?_cons_succ.{0} <| And.intro @List.set_cons_zero.{0} <| And.intro @List.set_cons_succ.{0} <| And.intro @List.map_cons.{0,0} <| And.intro @List.map_nil.{0,0} <|
 And.intro @List.cons_append.{0} <| And.intro @List.nil_append.{0} <| And.intro @List.length_cons.{0} <| And.intro @List.length_nil.{0} <| And.intro @List.replicate_zero.{0} <| And.intro @List.replicate_succ.{0} <| And.intro Bool.not_true <| And.intro Bool.not_false <|
 And.intro @decide_true <| And.intro @decide_false <| And.intro Bool.and_self <| And.intro Bool.and_true Bool.true_and
end L3
namespace L3
open PySem PySem.Spec PyProof.Rows L2
section
variable {α:Type}
theorem OS:∀ {ks:List zI} {vs:List α} (k:zI),ks.length=vs.length->((ks.zip vs).any fun kv=>decide (kv.1=k))=w8 ks k
 | [],[],_,_=>rfl
 | k'::ks,v::vs,k,h=>by
  have ih:=OS (ks:=ks) (vs:=vs) k (by simpa using h)
  show (decide (k'=k)||((ks.zip vs).any fun kv=>decide (kv.1=k)))=(decide (k'=k)||w8 ks k)
  rw [ih]
theorem qx:∀ {ks:List zI} {vs:List V} (k:zI),ks.length=vs.length->xz (ks.zip vs) k=getK ks vs k
 | [],[],_,_=>rfl
 | k'::ks,v::vs,k,h=>by
  have ih:=qx (ks:=ks) (vs:=vs) k (by simpa using h)
  by_cases e:k'=k
  ·rw [List.zip_cons_cons,qu (p:=(k',v)) e]
   show _=(if k'=k then some v else _)
   rw [if_pos e]
  ·rw [List.zip_cons_cons,qt (p:=(k',v)) e,ih]
   show _=(if k'=k then some v else _)
   rw [if_neg e]
theorem OU:∀ {ks:List zI} {vs:List V} (k:zI) (v:V),ks.length=vs.length->((ks.zip vs).map fun kv=>if kv.1=k then (kv.1,v) else kv)=ks.zip (List.zipWith (fun k' x=>if k'=k then v else x) ks vs)
 | [],[],_,_,_=>rfl
 | k'::ks,u::vs,k,v,h=>by
  have ih:=OU (ks:=ks) (vs:=vs) k v (by simpa using h)
  rw [List.zip_cons_cons,List.map_cons,ih,List.zipWith_cons_cons,List.zip_cons_cons]
  by_cases e:k'=k
  ·rw [if_pos e,if_pos e]
  ·rw [if_neg e,if_neg e]
theorem WA {ks:List zI} {vs:List V} {k:zI} {v:V} (h:ks.length=vs.length):xV (ks.zip vs) k v=(xo ks k).zip (yi ks vs k v):=by
 unfold xV xo yi
 rw [OS k h]
 by_cases c:w8 ks k=true
 ·rw [if_pos c,if_pos c,if_pos c,OU k v h]
 ·rw [if_neg c,if_neg c,if_neg c,List.zip_append h]
  rfl
theorem kh {ks:List zI} {vs:List α} {k:zI} {v:α} (h:ks.length=vs.length):(xo ks k).length=(yi ks vs k v).length:=by
 unfold xo yi
 split
 ·rw [List.length_zipWith,h,Nat.min_self]
 ·rw [List.length_append,List.length_append,h]
  rfl
theorem UF {ks:List zI} {vs:List α} {k:zI} {v:α} (h:ks.length=vs.length):(yi ks vs k v).length<=vs.length+1:=by
 unfold yi
 split
 ·rw [List.length_zipWith,h,Nat.min_self]
  exact Nat.le_succ _
 ·rw [List.length_append]
  exact Nat.le_refl _
end
section
variable {K:PySem.W.Frag} {G H:Hp}
theorem Reps.getK:∀ {ks:List zI} {ds:List D} {vs:List V} {k:zI} {d:D},Reps K H ds vs->getK ks ds k=some d->∃ v,getK ks vs k=some v/\zP K H d v
 | [],_,_,_,_,_,e=>by cases e
 | _::_,[],_,_,_,_,e=>by cases e
 | k'::ks,d'::ds,_,k,d,r,e=>by
  obtain ⟨v,r',rfl,hv,hr⟩:=r
  change (if k'=k then some d' else L3.getK ks ds k)=some d at e
  by_cases c:k'=k
  ·rw [if_pos c] at e
   cases e
   exact ⟨v,by show (if k'=k then some v else _)=_; rw [if_pos c],hv⟩
  ·rw [if_neg c] at e
   obtain ⟨u,hu,ru⟩:=Reps.getK hr e
   exact ⟨u,by show (if k'=k then some v else _)=_; rw [if_neg c]; exact hu,ru⟩
theorem Qk {α β:Type}:∀ {ks:List zI} {ds:List α} {vs:List β} {k:zI},ds.length=vs.length->getK ks ds k=none->getK ks vs k=none
 | [],_,_,_,_,_=>by unfold getK; rfl
 | _::_,[],[],_,_,_=>rfl
 | k'::ks,d'::ds,v::vs,k,h,e=>by
  change (if k'=k then some d' else getK ks ds k)=none at e
  show (if k'=k then some v else getK ks vs k)=none
  by_cases c:k'=k
  ·rw [if_pos c] at e; cases e
  ·rw [if_neg c] at e
   rw [if_neg c]
   exact Qk (by simpa using h) e
theorem VN {α:Type}:∀ {ks:List zI} {vs:List α} (k:zI),ks.length=vs.length->(getK ks vs k).isSome=w8 ks k
 | [],[],_,_=>rfl
 | k'::ks,v::vs,k,h=>by
  have ih:=VN (ks:=ks) (vs:=vs) k (by simpa using h)
  show (if k'=k then some v else getK ks vs k).isSome=(decide (k'=k)||_)
  by_cases c:k'=k
  ·rw [if_pos c,decide_eq_true c]; rfl
  ·rw [if_neg c,decide_eq_false c,ih]; rfl
theorem Reps.zipW {k:zI} {d:D} {v:V} (hv:zP K H d v):∀ {ks:List zI} {ds:List D} {vs:List V},Reps K H ds vs->Reps K H (List.zipWith (fun k' x=>if k'=k then d else x) ks ds) (List.zipWith (fun k' x=>if k'=k then v else x) ks vs)
 | [],_,_,_=>rfl
 | _::_,[],_,r=>by cases (show _=[] from r); rfl
 | k'::ks,d'::ds,_,r=>by
  obtain ⟨u,r',rfl,hu,hr⟩:=r
  refine ⟨_,_,rfl,?_,Reps.zipW hv hr⟩
  show zP K H (if k'=k then d else d') (if k'=k then v else u)
  by_cases c:k'=k
  ·rw [if_pos c,if_pos c]; exact hv
  ·rw [if_neg c,if_neg c]; exact hu
theorem Reps.put {ks:List zI} {ds:List D} {vs:List V} {k:zI} {d:D} {v:V} (r:Reps K H ds vs) (hv:zP K H d v):Reps K H (yi ks ds k d) (yi ks vs k v):=by
 unfold yi
 split
 ·exact Reps.zipW hv r
 ·exact r.append (Reps.one hv)
theorem qb {x:D} {k:zI} {u:V} (h:wZ x=some k) (r:zP K H x u):u=kV k:=by
 cases x<;>first | (cases h; done) | skip
 ·cases h; exact r
 ·cases h; exact (show u=_/\_ from r).1
end
section
variable {X:Cx} {K:PySem.W.Frag}
noncomputable def IM:R2:=fun x y H Q=>∃ a kvs k v,x=.ref a/\y=kV k/\Rd H a (.dK kvs)/\xz kvs k=some v/\Q v H
theorem J4:vW X IM:=by
 intro value slice pins s σ H x y v u Q I rx ry h hs
 obtain ⟨a,kvs,k,z,rfl,rfl,e,l,q⟩:=h
 cases rx
 obtain ⟨_,_,vs,rel,dd⟩:=v_ I.hok e
 obtain ⟨w',hw,rw'⟩:=x_.some_of (v:=z) (o:=valueAt vs k) (by rw [<- l]; exact rel.val k)
 exact subscriptTail_builtinR (x:=w') (Lh I (.inl ⟨kvs,k,e,rfl,rfl⟩)) PySem.F.slot_dict_getitem.lookup
  (wpAny_getItem_of (Q:=fun r s'=>r=w'/\EP X pins σ Q r s') (uX ry) dd.mapOf hw ⟨rfl,z,H,I.tok _,rw',q⟩) hs
noncomputable def IL (K:PySem.W.Frag):R2:=fun x y H Q=>UM K x y H Q\/IM x y H Q
theorem zR (_:X.A.units+1<cLine):vW X (IL X.K):=BD.or J4
theorem zS:wU K (IL K) zG:=fun G H x y u v d Q s rx ry hf q=>by
 cases x with
 | dic ks ds=>
  obtain ⟨a,vs,rfl,sq,l,rs,_⟩:=rx
  obtain ⟨k,hk,hf⟩:=zC hf
  obtain ⟨z,hz,rz⟩:=rs.getK hf
  exact .inr ⟨a,_,k,z,rfl,qb hk ry,Rd.mono s sq,by rw [qx k l]; exact hz,q _ _ _ (zK.refl s) rz⟩
 | non=>cases hf
 | bl b=>cases hf
 | int b=>cases hf
 | str z=>exact .inl (V_ G H (.str z) y u v d Q s rx ry (by cases y<;>exact hf) q)
 | tup z=>exact .inl (V_ G H (.tup z) y u v d Q s rx ry (by cases y<;>exact hf) q)
 | lst z=>exact .inl (V_ G H (.lst z) y u v d Q s rx ry (by cases y<;>exact hf) q)
 | exc z=>cases hf
 | obj z _ _=>cases hf
noncomputable def UL (neg:Bool):R2:=fun x y H Q=>∃ a kvs k,y=.ref a/\x=kV k/\Rd H a (.dK kvs)/\Q (.bl (if neg then !(xz kvs k).isSome else (xz kvs k).isSome)) H
theorem CJ (hu:X.A.units+1<cLine):zt X (compareOp .In) (UL false):=by
 intro pins s σ H x y v u Q I rx ry h
 obtain ⟨a,kvs,k,rfl,rfl,e,q⟩:=h
 cases ry
 exact LZ hu I (.inl ⟨kvs,k,e,rfl,rfl⟩) rx fun s' I'=>⟨.bl _,H,I',rfl,q⟩
theorem CP (hu:X.A.units+1<cLine):zt X (compareOp .NotIn) (UL true):=by
 intro pins s σ H x y v u Q I rx ry h
 obtain ⟨a,kvs,k,rfl,rfl,e,q⟩:=h
 cases ry
 exact Le hu I (.inl ⟨kvs,k,e,rfl,rfl⟩) rx fun s' I'=>⟨.bl _,H,I',rfl,q⟩
noncomputable def kj (K:PySem.W.Frag) (neg:Bool):R2:=fun x y H Q=>UK K neg x y H Q\/(∃ i j,x=.str i/\y=.str j/\Q (.bl (if neg then !(!(Builtin.Str.occurrences j i 0 j.length 1).isEmpty) else !(Builtin.Str.occurrences j i 0 j.length 1).isEmpty)) H)\/UL neg x y H Q
theorem gB (hu:X.A.units+1<cLine):zt X (compareOp .In) (kj X.K false):=CK.or (CL.or (CJ hu))
theorem CQ (hu:X.A.units+1<cLine):zt X (compareOp .NotIn) (kj X.K true):=CS.or (CT.or (CP hu))
theorem US {H:Hp} {x:D} {u:V} (hx:yd x=true) (rx:zP K H x u):∀ {ys:List D} {vs:List V},Reps K H ys vs->ys.all yd=true->vs.all uU=true/\XO u vs=ys.any fun y=>yk y x
 | [],_,r,_=>by cases (show _=[] from r); exact ⟨rfl,rfl⟩
 | y::ys,_,r,h=>by
  obtain ⟨v,r',rfl,hv,hr⟩:=r
  rw [List.all_cons,Bool.and_eq_true] at h
  obtain ⟨a,b⟩:=US hx rx hr h.2
  refine ⟨by rw [List.all_cons,gM h.1 hv,a]; rfl,?_⟩
  show (u7 v u||XO u r')=(yk y x||_)
  rw [UR h.1 hx hv rx,b]
theorem Qu {neg:Bool} {H:Hp} {x y:D} {u v:V} {k:Bool} {Q:VK} (rx:zP K H x u) (ry:zP K H y v) (hf:X9 x y=some k) (q:Q (.bl (if neg then !k else k)) H):kj K neg u v H Q:=by
 cases y with
 | lst ys=>
  obtain ⟨a,vs,rfl,sq,rs,_⟩:=ry
  change (match yd x&&ys.all yd with | true=>some (ys.any fun y=>yk y x) | false=>none)=some k at hf
  cases c:(yd x&&ys.all yd) with
  | false=>rw [c] at hf; cases hf
  | true=>
   rw [c] at hf
   cases hf
   rw [Bool.and_eq_true] at c
   obtain ⟨c1,c2⟩:=US c.1 rx rs c.2
   exact .inl ⟨a,vs,rfl,.inl sq,gM c.1 rx,c1,by rw [c2]; exact q⟩
 | tup ys=>
  obtain ⟨a,vs,rfl,sq,rs,_⟩:=ry
  change (match yd x&&ys.all yd with | true=>some (ys.any fun y=>yk y x) | false=>none)=some k at hf
  cases c:(yd x&&ys.all yd) with
  | false=>rw [c] at hf; cases hf
  | true=>
   rw [c] at hf
   cases hf
   rw [Bool.and_eq_true] at c
   obtain ⟨c1,c2⟩:=US c.1 rx rs c.2
   exact .inl ⟨a,vs,rfl,.inr sq,gM c.1 rx,c1,by rw [c2]; exact q⟩
 | str j=>
  cases x<;>first | (cases hf; done) | skip
  rename_i i
  cases hf
  exact .inr (.inl ⟨i,j,(show u=_/\_ from rx).1,(show v=_/\_ from ry).1,q⟩)
 | dic ks ds=>
  obtain ⟨kk,hk,hf⟩:=zC hf
  cases hf
  obtain ⟨a,vs,rfl,sq,l,rs,_⟩:=ry
  refine .inr (.inr ⟨a,_,kk,rfl,qb hk rx,sq,?_⟩)
  rw [qx kk l,VN kk l]
  exact q
 | _=>cases hf
theorem g8:wu K (kj K false) xg:=fun H x y u v d Q rx ry hf=>by
 obtain ⟨k,hk,hf⟩:=zC hf
 cases hf
 exact ⟨_,rfl,fun q=>Qu rx ry hk q⟩
theorem Fv:wu K (kj K true) XE:=fun H x y u v d Q rx ry hf=>by
 obtain ⟨k,hk,hf⟩:=zC hf
 cases hf
 exact ⟨_,rfl,fun q=>Qu rx ry hk q⟩
theorem Zx {pos:Pos}:SF X (.Dict [] [] pos) (eC (.dic [] [])):=⟨⟨_,Cp,fun {G0 H0 G H τ σ d Q} E hf q p hp=>by
 cases hf
 exact q p G _ (zK.layO E.ext.gh hp) hp (E.ext.gh.free hp) ⟨[],yK,rfl,rfl,Nat.zero_le _⟩⟩⟩
theorem tw {i:Nat} {x:Str} {xp pos pos':Pos} {k v:Expr} {fk fv:FE} (hu:X.A.units+1<cLine) (ho:QE X (.Name x xp) (W1 i)) (hk:SE X k fk) (hv:SE X v fv) (hs:swapsWith v (some (.Subscript (.Name x xp) k pos')) pos.line X.env=pure false:=by rfl) :
  SS X (.Assign [.Subscript (.Name x xp) k pos'] v pos) (vo i fk fv):=by
 obtain ⟨tk,pk,kk⟩:=hk.h
 obtain ⟨tv,pv,kv⟩:=hv.h
 refine ⟨⟨_,Jq hu ho.h pk pv hs,fun {G0 H0 G H τ σ fl E} K hf q=>?_⟩⟩
 obtain ⟨y,hy,hf⟩:=zC hf
 refine kv K hy fun w G1 H1 x1 r1=>?_
 split at hf
 ·rename_i ks ds hd
  obtain ⟨xk,hx,hf⟩:=zC hf
  obtain ⟨key,hkey,hf⟩:=zC hf
  by_cases c:ks.length<yP
  ·rw [if_pos c] at hf
   cases hf
   have K1:=K.go x1
   obtain ⟨a,ea,g,z,vs,ev,l,rs,hl⟩:=K1.ow _ _ hd
   refine ⟨_,ea,kk K1 hx fun u G2 H2 x2 r2=>⟨a,_,rfl,.inl ⟨_,key,x2.h _ _ ev,qb hkey r2,?_,rfl⟩,?_⟩⟩
   ·rw [List.length_zip,l,Nat.min_self,sizeLine_eq,<- l]; exact c
   ·refine q _ _ _ ((K1.go x2).mut hd ea ⟨yi ks vs key w,?_,kh l,(rs.mono x2.g).put (r1.mono x2.g),?_⟩)
    ·rw [yK,WA l]
    ·have h1:=UF (ks:=ks) (vs:=ds) (k:=key) (v:=y) (by rw [l,rs.length])
     have h2:ds.length<16777216:=by rw [<- rs.length,<- l]; exact c
     rw [sizeLine_eq]
     omega
  ·rw [if_neg c] at hf
   cases hf
 ·cases hf
inductive t8 (w:World):List DictEntry->List Str->List Value->Prop
 | nil:t8 w [] [] []
 | cons {x:Str} {t:Tok} {v:Value} {es:List DictEntry} {xs:List Str} {vs:List Value} (r:t8 w es xs vs):t8 w (⟨PyData.keyHash w.params x,.str x t,v⟩::es) (x::xs) (v::vs)
theorem t8.pairs {w:World} {P:Program}:∀ {es:List DictEntry} {xs:List Str} {vs:List Value},t8 w es xs vs->Pairs (yV P w) es ((xs.map Sum.inr).zip vs)/\(∀ e∈es,∃ k,(yV P w).is k e.key=true/\e.hash=(yV P w).hash k)
 | _,_,_,.nil=>⟨.nil,fun e h=>absurd h (by simp)⟩
 | _,_,_,.cons (x:=x) (t:=t) r=>by
  obtain ⟨a,b⟩:=t8.pairs (P:=P) r
  refine ⟨.cons (Vs P w x t) rfl a,fun e h=>?_⟩
  rcases List.mem_cons.mp h with rfl | h
  ·exact ⟨.inr x,Vs P w x t,rfl⟩
  ·exact b e h
theorem t8.len {w:World}:∀ {es:List DictEntry} {xs:List Str} {vs:List Value},t8 w es xs vs->xs.length=vs.length
 | _,_,_,.nil=>rfl
 | _,_,_,.cons r=>by rw [List.length_cons,List.length_cons,r.len]
theorem JA:∀ {ks:List zI} {us:List V} {vs:List Value},zb us vs->ks.length=us.length->KV (ks.zip us) (ks.zip vs)
 | [],_,_,.nil,_=>.nil
 | k::ks,_,_,.cons r t,h=>.cons ⟨rfl,r⟩ (JA t (by simpa using h))
theorem OT:∀ {ks:List zI} {vs:List Value},ks.length=vs.length->(ks.zip vs).map (·.1)=ks
 | [],[],_=>rfl
 | k::ks,v::vs,h=>by rw [List.zip_cons_cons,List.map_cons,OT (by simpa using h)]
end
end L3
namespace L3
open PySem PySem.Spec PyProof.Rows L2
noncomputable def Ub:D->Option (List D)
 | .lst xs=>some xs
 | .tup xs=>some xs
 | _=>none
noncomputable def VR (a b:FE):FA:=fun σ=>(a σ).bind fun x=>(b σ).bind fun y=>(Ub x).bind fun xs=>(Ub y).bind fun ys=>some (List.zipWith (fun x y=>D.tup [x,y]) xs ys)
section
variable {K:PySem.W.Frag} {G H:Hp}
theorem Iu {x:D} {xs:List D} {u:V} (h:Ub x=some xs) (r:zP K G x u):∃ t a vs,u=.ref a/\wg K t G a vs/\Reps K G xs vs/\xs.length<=sizeLine:=by
 cases x<;>first | (cases h; done) | skip
 ·cases h
  obtain ⟨a,vs,rfl,sq,rs,l⟩:=r
  exact ⟨true,a,vs,rfl,sq,rs,l⟩
 ·cases h
  obtain ⟨a,vs,rfl,sq,rs,l⟩:=r
  exact ⟨false,a,vs,rfl,sq,rs,l⟩
theorem qo {H':Hp} {t:Bool} {a:Addr} {vs:List V} (s:zW H H') (h:wg K t H a vs):wg K t H' a vs:=by
 cases t
 ·exact wd s h
 ·exact wo s h
theorem Nx {t1 t2:Bool} {a b:Addr} {vs us:List V} {xs ys:List D} (s1:wg K t1 G a vs) (s2:wg K t2 G b us) (r1:Reps K G xs vs) (r2:Reps K G ys us):qR K (WP K t1 t2 a b) G (List.zipWith (fun x y=>D.tup [x,y]) xs ys) where
 go:=fun i G2 H g1 g2 hi=>by
  rw [List.length_zipWith] at hi
  obtain ⟨v,e1,_⟩:=r1.get (List.getElem?_eq_getElem (show i<xs.length by omega))
  obtain ⟨u,e2,_⟩:=r2.get (List.getElem?_eq_getElem (show i<ys.length by omega))
  exact ⟨vs,us,v,u,qo (g1.trans g2) s1,qo (g1.trans g2) s2,e1,e2⟩
 yld:=fun i G2 H x H' g1 g2 hi y=>by
  obtain ⟨p,hp,rfl,k⟩:=y
  obtain ⟨v,u,e1,e2,rfl⟩:=k vs us (qo (g1.trans g2) s1) (qo (g1.trans g2) s2)
  obtain ⟨d1,f1,q1⟩:=r1.at e1
  obtain ⟨d2,f2,q2⟩:=r2.at e2
  refine ⟨zQ G2 p (.tup [v,u]),.tup [d1,d2],zK.lay g2 hp,by rw [List.getElem?_zipWith,f1,f2],?_⟩
  have sm:zW G (zQ G2 p (.tup [v,u])):=g1.trans (wB (g2.free hp) _)
  exact ⟨p,[v,u],rfl,yQ.of yK,⟨v,_,rfl,q1.mono sm,⟨u,_,rfl,q2.mono sm,rfl⟩⟩,wK (n:=2) (by decide)⟩
 stop:=fun i G2 H g1 g2 hi=>by
  rw [List.length_zipWith] at hi
  refine ⟨vs,us,qo (g1.trans g2) s1,qo (g1.trans g2) s2,?_⟩
  rw [r1.length,r2.length]
  omega
end
section
variable {X:Cx} {a b e o:Expr} {fa fb f:FE} {p pos apos cpos:Pos}
theorem I_ {elts:List Expr} {kk:Nat} {tp:Pos} (hg:Gl X "zip") (hm:X.mg "zip" = none) (ha:SE X a fa) (hb:SE X b fb) (hs:yT a=true:=by rfl) (hs2:yT b=true:=by rfl):SI X (.Tuple elts kk tp) (.Call (.Name "zip" p) [a,b] [] pos) (VR fa fb):=by
 obtain ⟨t,pt,k⟩:=(zA ha (zA hb zL hs2) hs).h
 refine ⟨⟨_,(El hg hm ⟨pt⟩ hs hs2).h,fun {G0 H0 G H τ σ ds R} K hf q=>?_⟩⟩
 obtain ⟨x,hx,hf⟩:=zC hf
 obtain ⟨y,hy,hf⟩:=zC hf
 obtain ⟨xs,hxs,hf⟩:=zC hf
 obtain ⟨ys,hys,hf⟩:=zC hf
 cases hf
 refine k K (ds:=[x,y]) (by unfold z8; rw [hx,hy]; rfl) fun vs G1 H1 x1 r1=>?_
 obtain ⟨v,r,rfl,hv,⟨v2,r2,rfl,hv2,hr⟩⟩:=r1
 cases (show r2=[] from hr)
 obtain ⟨t1,a1,vs1,rfl,s1,q1,l1⟩:=Iu hxs hv
 obtain ⟨t2,a2,vs2,rfl,s2,q2,l2⟩:=Iu hys hv2
 refine ⟨a1,a2,vs1,vs2,t1,t2,rfl,qo x1.gh s1,qo x1.gh s2,q _ _ _ x1 ?_ (Nx s1 s2 q1 q2)⟩
 rw [List.length_zipWith]
 omega
noncomputable def v4:List D->Option D
 | [.lst xs]=>some (.lst xs)
 | [.tup xs]=>some (.lst xs)
 | _=>none
noncomputable def jn:List D->Option D
 | [.lst xs]=>some (.tup xs)
 | [.tup xs]=>some (.tup xs)
 | _=>none
theorem uH {K:PySem.W.Frag} {G:Hp} {d:D} {vs:List V} (r:Reps K G [d] vs):∃ v,vs=[v]/\zP K G d v:=by
 obtain ⟨v,r',rfl,hv,hr⟩:=r
 cases (show r'=[] from hr)
 exact ⟨v,rfl,hv⟩
theorem jD {fs:FA} (hg:Gl X "list") (hm:X.mg "list" = none) (ha:SA X [e] fs) (hs:yT e=true:=by rfl):SF X (.Call (.Name "list" p) [e] [] pos) (eL v4 fs):=by
 obtain ⟨t,pt,k⟩:=ha.h
 refine ⟨⟨_,(gJ LP hg hm Yv ⟨pt⟩ (by decide) (by decide) (by rw [List.all_cons,hs]; rfl)).h,fun {G0 H0 G H τ σ d Q} E hf q=>?_⟩⟩
 obtain ⟨ds,hd,hf⟩:=zC hf
 refine k E hd fun vs G1 H1 x1 r1=>?_
 match ds,hf with
 | [.lst xs],hf=>
  cases hf
  obtain ⟨v,rfl,a,us,rfl,sq,rs,l⟩:=uH r1
  exact ⟨a,us,rfl,.inl (wd x1.gh sq),fun p hp=>q p _ _ (x1.trans (zK.layO x1.gh hp)) (x1.h.free hp) (x1.gh.free hp) ⟨us,yK,rs,l⟩⟩
 | [.tup xs],hf=>
  cases hf
  obtain ⟨v,rfl,a,us,rfl,sq,rs,l⟩:=uH r1
  exact ⟨a,us,rfl,.inr (wo x1.gh sq),fun p hp=>q p _ _ (x1.trans (zK.layO x1.gh hp)) (x1.h.free hp) (x1.gh.free hp) ⟨us,yK,rs,l⟩⟩
theorem U1 {K:PySem.W.Frag}:TB K (fun xs H Q=>∃ p ys,xs=[.ref p]/\((yB K H p ys/\∀ l,H l=none->Q (.ref l) (zQ H l (.tup ys)))\/(yQ K H p ys/\Q (.ref p) H))) jn:=fun G H ds vs d Q s r hf q=>by
 match ds,hf with
 | [.lst xs],hf=>
  cases hf
  obtain ⟨v,rfl,a,us,rfl,sq,rs,l⟩:=uH r
  exact ⟨a,us,rfl,.inl ⟨wd s sq,fun p hp=>q _ _ _ (zK.lay s hp) ⟨p,us,rfl,yQ.of yK,rs.mono (wB (s.free hp) _),l⟩⟩⟩
 | [.tup xs],hf=>
  cases hf
  obtain ⟨v,rfl,a,us,rfl,sq,rs,l⟩:=uH r
  exact ⟨a,us,rfl,.inr ⟨wo s sq,q _ _ _ (zK.refl s) ⟨a,us,rfl,sq,rs,l⟩⟩⟩
theorem O1 {i:Nat} {x:Str} {op:Operator} {ti:gg} {F:D->D->Option D} {pos':Pos} (ho:WT X op ti) (hF:wU X.K ti F) (hN:X.N.Nodup) (hi:X.N[i]?=some x) (hx:uO X.env.scope x) (he:SE X e f) (hf:X.fn x=true\/X.env.scope.names.lookup x=some .local:=by first | exact .inl rfl | exact .inr rfl | assumption) :
  SS X (.AugAssign (.Name x pos') op e pos) (yU i (e2 F (z6 i) f)):=by
 obtain ⟨t,pt,k⟩:=he.h
 refine ⟨⟨_,EO hN hi hx pt ho hf,fun {G0 H0 G H τ σ fl E} K hf q=>?_⟩⟩
 obtain ⟨d,hd,hf⟩:=zC hf
 cases hf
 obtain ⟨x,hx,hd⟩:=zC hd
 obtain ⟨y,hy,hd⟩:=zC hd
 obtain ⟨v,ev,rv⟩:=K.fr _ _ (QU hx)
 refine ⟨v,ev,k K hy fun u G1 H1 x1 r1=>hF G1 H1 x y v u d _ x1.gh (rv.mono x1.g) r1 hd fun w G2 H2 x2 r2=>?_⟩
 exact q _ _ _ (((K.go x1).go x2).set (List.getElem?_eq_some_iff.mp hi).1 r2)
theorem JQ {K:PySem.W.Frag}:wU K (Qz fun i j=>i+j) (u8 fun i j=>i+j):=fun G H x y u v d Q s rx ry hf q=>by
 cases x<;>first | (cases hf; done) | skip
 cases y<;>first | (cases hf; done) | skip
 cases hf
 exact ⟨_,_,rx,ry,q _ _ _ (zK.refl s) rfl⟩
variable {x:Str} {ps:List Str} {j k:Nat} {FF:List D->Option (Bool×D)}
end
noncomputable def FR (n N:Nat) (b:FS) (ds:List D):Option (Bool×D):=if ds.length=n then zZ N b ds else none
theorem yD {n N:Nat} {b:FS}:∀ ds r,FR n N b ds=some r->ds.length=n/\zZ N b ds=some r:=fun ds r h=>by
 unfold FR at h
 split at h
 ·rename_i c
  exact ⟨c,h⟩
 ·cases h
end L3
namespace L3
open PySem PySem.Spec PyProof.Rows L2
section
variable {X:Cx} {e o k v:Expr} {f fo fk fv:FE} {x:Str} {xp p pos apos cpos:Pos}
noncomputable def WW (K:PySem.W.Frag) (A:Addr):Prop:=∃ o,K.lookup A=some o/\o.cls=.type "tuple" /\ o.dict=none
structure SD (X:Cx) (pos:Pos) (keys:List (Option Expr)) (values:List Expr) (ks:List Str) (fs:FA):Prop where
 h:∃ trs,jc X pos keys values trs/\∀ {G0 H0 G H:Hp} {τ:zf} {σ:St} {ds:List D} {Q:List (V×V)->Hp->Prop},zh X.K X.N.length G0 H0 G H τ σ->fs τ=some ds->(∀ vs G' H',zK G H G' H'->Reps X.K G' ds vs->vs.length=ks.length->Q ((ks.map V.str).zip vs) H')->Y3 trs σ H Q
theorem K6:SD X pos [] [] [] zF:=⟨⟨_,Jp,fun E hf q=>by
 cases hf
 exact q [] _ _ (zK.refl E.ext.gh) rfl rfl⟩⟩
theorem UZ {x:Str} {j:Nat} {ks:List (Option Expr)} {vs:List Expr} {xs:List Str} {fs:FA} (hv:SE X v fv) (hr:SD X pos ks vs xs fs):SD X pos (some (.Constant (.str x) j xp)::ks) (v::vs) (x::xs) (z8 fv fs):=by
 obtain ⟨tv,pv,kv⟩:=hv.h
 obtain ⟨tr,pr,kr⟩:=hr.h
 refine ⟨⟨_,Jo kZ pv pr,fun {G0 H0 G H τ σ ds Q} E hf q=>?_⟩⟩
 obtain ⟨d,hd,hf⟩:=zC hf
 obtain ⟨es,hes,hf⟩:=zC hf
 cases hf
 refine kv E hd fun u G1 H1 x1 r1=>kr (E.go x1) hes fun us G2 H2 x2 r2 l=>?_
 exact q (u::us) _ _ (x1.trans x2) ⟨u,us,rfl,r1.mono x2.g,r2⟩ (by rw [List.length_cons,List.length_cons,l])
theorem Vq:∀ (kvs acc:List (zI×V)),(kvs.map (·.1)).Nodup->(∀ kv∈kvs,xz acc kv.1=none)->vl acc kvs=acc++kvs
 | [],acc,_,_=>by rw [List.append_nil]; rfl
 | kv::r,acc,nd,hn=>by
  rw [List.map_cons,List.nodup_cons] at nd
  have h0:=hn kv List.mem_cons_self
  show vl (xV acc kv.1 kv.2) r=_
  rw [Ee kv.2 h0,Vq r _ nd.2 (fun kv' m=>?_)]
  ·rw [List.append_assoc]; rfl
  ·rw [OJ kv.1 kv'.1 kv.2 acc h0,if_neg (fun e=>nd.1 (by rw [<- e]; exact List.mem_map_of_mem m))]
   exact hn kv' (List.mem_cons_of_mem _ m)
theorem T5:∀ {ks:List Str} {vs:List V},(ks.map V.str).zip vs=(((ks.map Sum.inr:List zI).zip vs).map fun kv=>(kV kv.1,kv.2))
 | [],_=>rfl
 | _::_,[]=>rfl
 | k::ks,v::vs=>by
  rw [List.map_cons,List.map_cons,List.zip_cons_cons,List.zip_cons_cons,List.map_cons,T5]
  rfl
theorem T4:∀ {ks:List zI} {vs:List V},ks.length=vs.length->(ks.zip vs).map (·.1)=ks
 | [],[],_=>rfl
 | k::ks,v::vs,h=>by rw [List.zip_cons_cons,List.map_cons,T4 (by simpa using h)]
theorem KH {keys:List (Option Expr)} {values:List Expr} {ks:List Str} {fs:FA} (h:SD X pos keys values ks fs) (nd:ks.Nodup) (h15:ks.length<=15) (hall:keys.all (·.isSome)=true:=by rfl) (hl:keys.length=values.length:=by rfl) (h0:keys≠[]:=by exact fun z=>nomatch z) (h15':keys.length<=15:=by decide) :
  SF X (.Dict keys values pos) (X1 ks fs):=by
 obtain ⟨trs,pr,kr⟩:=h.h
 refine ⟨⟨_,Jg pr hall hl h0 h15',fun {G0 H0 G H τ σ d Q} E hf q p hp=>?_⟩⟩
 obtain ⟨ds,hds,hf⟩:=zC hf
 have x0:zK G H G (zQ H p (.dK [])):=zK.layO E.ext.gh hp
 refine kr (E.go x0) hds fun vs G2 H2 x2 r2 l=>?_
 have e2:H2 p=some (.dK []):=x2.h _ _ yK
 have g2:G2 p=none:=by
  cases c:G2 p with
  | none=>rfl
  | some u=>
   rcases x2.new p (by rw [c]; exact fun z=>nomatch z) with z | z
   ·exact absurd (E.ext.gh.free hp) z
   ·rw [yK] at z; cases z
 have hk:(ks.map Sum.inr:List zI).length=vs.length:=by rw [List.length_map,l]
 by_cases c:ks.length=ds.length
 ·rw [if_pos c] at hf
  cases hf
  refine ⟨e2,(ks.map Sum.inr:List zI).zip vs,T5,by rw [List.length_zip,hk,Nat.min_self,l]; exact h15,?_⟩
  rw [Vq _ [] (by rw [T4 hk]; exact List.Pairwise.map _ (fun a b h z=>h (Sum.inr.inj z)) nd) (fun _ _=>rfl),List.nil_append]
  have xx:zK G H G2 (zQ H2 p (.dK ((ks.map Sum.inr:List zI).zip vs))):=by
   have y:=x0.trans x2
   refine ⟨y.g,fun b u z=>?_,fun b u z=>?_,y.new⟩
   ·rw [zw (wb z hp)]; exact y.h _ _ z
   ·rw [zw (wb z g2)]; exact x2.gh _ _ z
  exact q p _ _ xx hp g2 ⟨vs,yK,hk,r2,by rw [<- c]; exact wK (by omega)⟩
 ·rw [if_neg c] at hf
  cases hf
theorem K9 (hu:X.A.units+1<cLine) (ho:SE X o fo) (hk:SE X k fk) (hv:SE X v fv) (m:M2 X o "get" apos k v cpos):SE X (.Call (.Attribute o "get" apos) [k,v] [] cpos) (QT fo fk fv):=by
 obtain ⟨to,po,ko⟩:=ho.h
 obtain ⟨tk,pk,kk⟩:=hk.h
 obtain ⟨tv,pv,kv⟩:=hv.h
 refine ⟨⟨_,Co hu po pk pv m,fun {G0 H0 G H τ σ d Q} E hf q=>?_⟩⟩
 obtain ⟨x,hx,hf⟩:=zC hf
 refine ko E hx fun w G1 H1 x1 r1=>?_
 cases x with
 | dic ks ds=>
  obtain ⟨y,hy,hf⟩:=zC hf
  obtain ⟨z,hz,hf⟩:=zC hf
  obtain ⟨key,hkey,hf⟩:=zC hf
  cases hf
  obtain ⟨a,vs,rfl,sq,l,rs,_⟩:=r1
  refine ⟨a,rfl,.inl ⟨_,Rd.mono x1.gh sq⟩,kk (E.go x1) hy fun u G2 H2 x2 r2=>kv ((E.go x1).go x2) hz fun w' G3 H3 x3 r3=>?_⟩
  refine ⟨xz (ks.zip vs) key,.inl ⟨_,key,Rd.mono (x1.gh.trans (x2.h.trans x3.h)) sq,qb hkey r2,rfl⟩,?_⟩
  rw [qx key l]
  have rs3:=rs.mono (x2.g.trans x3.g)
  cases c:getK ks ds key with
  | none=>
   rw [c] at q
   rw [Qk (by rw [rs.length]) c]
   exact q _ _ _ (x1.trans (x2.trans x3)) r3
  | some d'=>
   rw [c] at q
   obtain ⟨z',hz',rz'⟩:=rs3.getK c
   rw [hz']
   exact q _ _ _ (x1.trans (x2.trans x3)) rz'
 | _=>cases hf
noncomputable def xJ (i:Int):Nat:=Builtin.Int.intBits i
noncomputable def uR:D->D->Option D:=fI (fun i j=>decide (xJ i+xJ j<=134217728)) (·*·)
theorem kW:zt X (binaryOp .Mult) (rI (fun i j=>xJ i+xJ j<=134217728) fun i j=>.int (i*j)):=gA fun i j _ _ _ _ _ hc q=>mul_int q (by
 unfold IntMulOk
 intro h
 rw [Bool.and_eq_true] at h
 have h2:decide (((Builtin.Int.intBits i+Builtin.Int.intBits j:Nat):Int) > (134217728:Nat))=true:=h.2
 have h3:=of_decide_eq_true h2
 have h4:Builtin.Int.intBits i+Builtin.Int.intBits j<=134217728:=hc
 omega)
theorem kS {K:PySem.W.Frag}:wU K (rI (fun i j=>xJ i+xJ j<=134217728) fun i j=>.int (i*j)) uR:=j1 fun _ _ h=>of_decide_eq_true h
end
end L3
namespace L3
open PySem PySem.Spec PyProof.Rows L2 PySem.W
theorem OO:∀ {ns:List Int} {m:Int},m∈ns->xJ m<=WData.weightAll (ns.map WData.int)
 | [],_,h=>by cases h
 | n::ns,m,h=>by
  have e:WData.weightAll ((n::ns).map WData.int)=xJ n+1+WData.weightAll (ns.map WData.int):=by
   show WData.weightAll (WData.int n::ns.map WData.int)=_
   rw [WData.weightAll]
   rfl
  rw [e]
  rcases List.mem_cons.mp h with rfl | h
  ·omega
  ·have:=OO h
   omega
theorem Bf {ns:List Int} (h:WData.layableAll [.list (ns.map WData.int)]=true):∀ m∈ns,xJ m<=1048576:=fun m hm=>by
 have h1:WData.layable (.list (ns.map WData.int))=true:=List.all_eq_true.mp h _ (List.mem_singleton.mpr rfl)
 unfold WData.layable at h1
 rw [Bool.and_eq_true] at h1
 have h2:WData.weight (.list (ns.map WData.int))<=2 ^ 20:=of_decide_eq_true h1.2
 have h3:=OO hm
 have h4:WData.weight (.list (ns.map WData.int))=WData.weightAll (ns.map WData.int):=by rw [WData.weight]
 omega
section
variable {P:Program} {w:World} {K:PySem.W.Frag} {mg:Str->Option Value} {base:Heap}
noncomputable def Zy (K:PySem.W.Frag):Sp:=fun vs H Q _=>∃ (a:Addr) (ns:List Int),vs=[.ref a]/\yB K H a (ns.map V.int)/\ns.length<=63/\(∀ m∈ns,xJ m<=1048576)/\∀ H',Q (.bl true) H'
theorem Be {x:Str} {st:Stmt} {N:List Str} {k:Nat} {b:FS} {f:Addr} {fd:FuncData} (d:Fun K "law" "law" st f fd) (S:ze N [x] (zM st)) (hN:1<=N.length) (hrun:∀ ns:List Int,ns.length<=63->(∀ m∈ns,xJ m<=1048576)->∃ o,zZ N.length b [.lst (ns.map D.int)]=some (o,.bl true))
  (hb:∀ (cdv:Value) (A:Around) (outer:List Env) (s:Shared) (H:Hp) (E:XK),yF k (A.deeper (envOfC "law" (zM st) s.heap.objs.size f cdv))->vY (vf yZ P w K mg base N "law" (zM st) f cdv A outer s H E).nox (yM st) b):yY P w K mg base yZ (k+1) f fd [x] (Zy K):=by
 refine d.ok S (fun vs H Q E h=>?_) fun cdv A outer s H vs Q E hr h=>?_
 ·obtain ⟨a,ns,rfl,_⟩:=h
  rfl
 ·obtain ⟨a,ns,rfl,sq,l,hbits,q⟩:=h
  obtain ⟨o,hrun⟩:=hrun ns l hbits
  obtain ⟨t,p,kt⟩:=(hb cdv A outer s H E hr).h
  obtain ⟨fl,hfl,hrun⟩:=zC hrun
  have r:Reps K H [.lst (ns.map D.int)] [.ref a]:=⟨_,_,rfl,⟨a,_,rfl,sq,Reps.ints,by rw [List.length_map]; exact wK (by omega)⟩,rfl⟩
  refine ⟨t,p,kt (V9 (N:=N) (zW.refl H) r hN) hfl ?_⟩
  cases fl with
  | nx τ=>cases hrun
  | rt o' d'=>
   cases hrun
   cases o with
   | false=>
    intro v G H' _ r
    cases (show v=.bl true from r)
    exact q H'
   | true=>exact fun p G H' _ _ _ z=>z.elim
  | _=>cases hrun
end
theorem walkB {l:PySem.W.OpenLaw} {n k:Nat} {q:Program} {loose:List Str} {XP:(Str->Option Value)->Heap->Prop} {YP:World->Heap->Prop} {d:DefRec} {K:Params->PySem.W.Frag} {sp:PySem.W.Frag->Sp} {x:Str}
  (hn:l.most=some n) (hn2:n<=sizeLine) (hdf:d.params.defaults=[]) (hr:yF k callerA) (hY:∀ (w:World) (h:Heap),YP w h->(K w.params).In h)
  (F:∀ (w:World) (mg:Str->Option Value) (fa:Addr) (h:Heap),(K w.params).In h->h.Ns mainGlobals mg->mg d.name=some (.ref fa)->
   ∃ fd:FuncData,(∀ (s:Shared) (u:Value),BindsTo s fd ⟨[u],[]⟩ [(x,u)])/\∀ base:Heap,(K w.params).In base->base.Ns mainGlobals mg->yY l.prog w (K w.params) mg base yZ k fa fd [x] (sp (K w.params)))
  (hsp:∀ (K:PySem.W.Frag) (H:Hp) (a:Addr) (ns:List Int),ns.length<=n->(∀ m∈ns,xJ m<=1048576)->yB K H a (ns.map V.int)->sp K [.ref a] H (fun v _=>v=.bl true) fun _ _ _=>False) :
  PySem.W.WalkO q loose XP YP l.row.toRowW d [] (fun f vs=>PySem.call f vs):=by
 intro w s0 s1 mg mb Gr Y fa o pm cd doc dV kV ho hd hcd hD hmg hg args vals as hpre hlay hrd hwl hlo
 have e1:dV=.none:=Dflts.none hD hdf
 have e2:kV=.none:=Dflts.noKw hD
 subst e1 e2
 obtain ⟨a,vs,ns,rfl,rfl,hobj,hints,hlen⟩:=Att.script_of hn hpre hwl
 have KX:=hY w _ Y
 obtain ⟨fd,hb,hF⟩:=F w mg fa _ KX Gr.T.g hmg
 have main:=Bd KX Gr.T.g Gr.T.b Gr.T.builtins Gr.T.nolimit hg hobj hints (Nat.le_trans hlen hn2) hr hF hb (fun H _ hS=>hsp _ H a ns hlen (Bf hlay) hS) (fun _ _ _ z=>z)
 refine enter_call (codeAny_mono main fun r s' hq=>?_)
 obtain ⟨rfl,h2,h3,h4⟩:=hq
 refine ⟨.inl ⟨.bool true,.bool true,[],rfl,fun _=>rfl,.bool true,Att.post_true l _,fun _=>?_⟩,h2,h3,h4⟩
 exact ⟨List.Pairwise.nil,fun _ hm=>nomatch hm⟩
end L3
namespace L3
open PySem PySem.Spec PyProof.Rows L2
theorem Lz {prog:Program} {w:World} {A:Around} {E:Value->Shared->Prop} {s:Shared} {a:Addr} {o:Obj} {xs:Array Value} {k:Nat} {name:Str} {Q:Option Value->Shared->Prop}
  (hx:s.heap.get? a=some o) (hc:o.cls=.type "list") (hdat:o.data=.seq xs k) (hd:o.dict=none) (hmiss:typeLookup (.type "list") name=pure none)
  (hname:(["__module__", "__name__", "__qualname__", "__doc__", "__annotations__"]:List Str).contains name=false) (hA:A.handled=none)
  (h:∀ h' tk,(∀ b ob,s.heap.get? b=some ob->h'.get? b=some ob)->Q none { s with heap:=h',toks:=tk }) (hsz:name.length+100<=sizeLine) :
  wpAny (model prog w) A (getAttr? (.ref a) name) Q E s:=by
 obtain ⟨c,dct,dat,sl⟩:=o
 simp only at hc hdat hd
 subst hc hdat hd
 obtain ⟨hp,g,d,tk,os⟩:=s
 have hT:∀ tk',(⟨hp,g,d,tk',os⟩:Shared).TypeIs (.ref a) "list" := fun _=>⟨_,hx,rfl⟩
 have f1:=sub_AttributeError
 have f3:=F.slot_list_getattribute.lookup
 have f4:=F.slot_list_getattribute.bind (.ref a)
 have f5:=am_list_getattr_none
 unfold getAttr? getAttrBy? getAttrBy
 repeat (any_goals (first | assumption | exact hT _ | ((with_reducible show wpAny _ _ (call (Value.builtin "list.__getattribute__") _ _) _ _ _); refine call_meets F.slot_list_getattribute (hT _) am_entry_list_getattribute (F.args_list_getattribute_2 _ _) (meets_getattribute_miss_list a xs k sl name _ hmiss hname hsz) ⟨hx,hA,fun h' tk' e hx'=>?_⟩) | wp_step))
 obtain ⟨t',u',he⟩:=hx'.there
 show wpAny _ _ (getattributeRaised _ _ _ _ _ _ _) _ _ _
 unfold getattributeRaised
 repeat (any_goals (first | assumption | wp_step))
 exact h _ _ hx'.keeps
theorem Xh:plainId "dict.update.loop" = true:=by decide +kernel
theorem QV:entryFor table "dict.update.loop" = some Builtin.«dict.update.loop»:=entryFor_of_fast (by kernel_rfl)
theorem _root_.PySem.Heap.DictOf.keepB {prog:Program} {w:World} {h h':Heap} {a:Addr} {kvs:List (zI×Value)} (hm:h.DictOf (yV prog w) a kvs) (k:∀ o,h.get? a=some o->h'.get? a=some o):h'.DictOf (yV prog w) a kvs:=
 let ⟨o',es,ep,ho,r⟩:=hm; ⟨o',es,ep,k _ ho,r⟩
theorem Ki (kvs:List (zI×Value)) (k:zI) (v:Value):(stored kvs k v).length<=kvs.length+1:=by
 unfold stored
 split
 ·rw [List.length_map]; omega
 ·rw [List.length_append]; exact Nat.le_refl _
noncomputable def WV (h:Heap) (v:Value) (k:zI) (x:Value):Prop:=∃ b key,v=.ref b/\qZ k key=true/\IsTup h b #[key,x]
theorem OI {prog:Program} {w:World} {A:Around} {R:Result->Shared->Prop} {d it l:Addr} {its:List Value} (hA:A.handled=none) (hdl:d≠l) (hdi:d≠it) (hli:l≠it) :
  ∀ (kvs:List (zI×Value)) (i:Nat) (acc:List (zI×Value)) (s:Shared),s.heap.IsListIter it l i->s.heap.IsList l its.toArray->i+kvs.length=its.length->(∀ j kv,kvs[j]?=some kv->∃ v,its[i+j]?=some v/\WV s.heap v kv.1 kv.2)->
   s.heap.DictOf (yV prog w) d acc->acc.length+kvs.length<=sizeLine->(∀ h' tk,h'.DictOf (yV prog w) d (kvs.foldl (fun a kv=>stored a kv.1 kv.2) acc)->(∀ b o,b≠d->b≠it->s.heap.get? b=some o->h'.get? b=some o)->R (.ok (.ret .none)) { s with heap:=h',toks:=tk })->
   wpAny (model prog w) A.in1 (Builtin.«dict.update.loop» ⟨[.ref d,.ref it,rawInt i,.none],[]⟩) (fun fin s'=>match fin with | .done f=>R (.ok f) s' | .again c'=>c'.quiet=true/\codeAny (model prog w) A c' R s') (fun e s'=>R (.error e) s') s
 | [],i,acc,s,st,hl,hn,hp,hd,hz,h=>by
  unfold Builtin.«dict.update.loop»
  refine wpAny_bind (wpAny_pyNext_list_end (by exact hA) st hl (by simp at hn ⊢; omega) fun h' eb=>?_)
  show wpAny _ _ (Builtin.Dict.addKeywords d [] >>= _) _ _ _
  refine wpAny_bind (wpAny_pure (wpAny_pure ?_))
  exact h h' s.toks (hd.keepB fun o e=>eb d o hdi e) (fun b o _ hb e=>eb b o hb e)
 | kv::kvs,i,acc,s,st,hl,hn,hp,hd,hz,h=>by
  obtain ⟨v,hv,b,key,rfl,hk,ht⟩:=hp 0 kv rfl
  unfold Builtin.«dict.update.loop»
  refine wpAny_bind (wpAny_pyNext_list_item st hl (x:=.ref b) (by simpa using hv) fun h1 st1 sb=>?_)
  have keep1:∀ c o,c≠it->s.heap.get? c=some o->h1.get? c=some o:=fun c o hc e=>(sb.2 c hc).trans e
  have notIt:∀ {c:Addr} {xs:Array Value},IsTup s.heap c xs->c≠it:=fun {c xs} t e=>by
   subst e
   obtain ⟨o,e1,c1,_⟩:=t
   obtain ⟨o',e2,c2,_⟩:=st
   rw [e1] at e2
   cases e2
   rw [c1] at c2
   exact absurd (Value.type.inj c2) (by decide)
  have notD:∀ {c:Addr} {xs:Array Value},IsTup s.heap c xs->c≠d:=fun {c xs} t e=>by
   subst e
   obtain ⟨o,e1,c1,_⟩:=t
   obtain ⟨o',es,ep,e2,c2,_⟩:=hd
   rw [e1] at e2
   cases e2
   have c3:=c2.1
   rw [c1] at c3
   exact absurd (Value.type.inj c3) (by decide)
  obtain ⟨o,ho,hc,n,hdat⟩:=ht
  have ho1:=keep1 b o (notIt ⟨o,ho,hc,n,hdat⟩) ho
  have hd1:h1.DictOf (yV prog w) d acc:=hd.keepB fun o e=>keep1 d o hdi e
  refine wpAny_bind (wpAny_holding (wpAny_bind (wpAny_tryCatch ?_)))
  unfold Builtin.Dict.pairItems
  refine wpAny_bind (wpAny_typeOf (T := "tuple") ⟨o,ho1,hc⟩ ?_)
  rw [if_pos (by rfl)]
  refine wpAny_bind (wpAny_seqItems ho1 hdat (wpAny_pure ?_))
  refine wpAny_holding (wpAny_dictSet_pairs (knd:=yV prog w) (k:=kv.1) hk hd1 (fun h2 hd2 sb2=>?_) (by omega))
  refine wpAny_pure ⟨plainId_quiet Xh _,codeAny_builtin QV ?_⟩
  rw [Around.under_plainId Xh _]
  have keep2:∀ c o,c≠d->c≠it->s.heap.get? c=some o->h2.get? c=some o:=fun c o h1' h2' e=>(sb2.2 c h1').trans (keep1 c o h2' e)
  have key2:∀ {c:Addr} {xs:Array Value},IsTup s.heap c xs->IsTup h2 c xs:=fun {c xs} t=>by
   have a1:=notD t
   have a2:=notIt t
   obtain ⟨o,e1,r⟩:=t
   exact ⟨o,keep2 c o a1 a2 e1,r⟩
  refine OI (its:=its) hA hdl hdi hli kvs (i+1) (stored acc kv.1 kv.2) _ ?_ ?_ (by rw [List.length_cons] at hn; omega) (fun j kv' e=>?_) hd2 ?_ fun h' tk hd' kp=>?_
  ·exact st1.at fun o e=>(sb2.2 it (fun z=>hdi z.symm)).trans e
  ·obtain ⟨o,e,r⟩:=hl
   exact ⟨o,keep2 l o (fun z=>hdl z.symm) hli e,r⟩
  ·obtain ⟨v',hv',b',key',rfl,hk',ht'⟩:=hp (j+1) kv' (by simpa using e)
   exact ⟨_,by rw [show i+1+j=i+(j+1) by omega]; exact hv',b',key',rfl,hk',key2 ht'⟩
  ·have:=Ki acc kv.1 kv.2
   rw [List.length_cons] at hz
   omega
  ·exact h h' tk hd' fun c o h1' h2' e=>kp c o h1' h2' (keep2 c o h1' h2' e)
theorem LI {prog:Program} {w:World} {A:Around} {E:Value->Shared->Prop} {s:Shared} {l:Addr} {o:Obj} {its:List Value} {n:Nat} {kvs:List (zI×Value)} {Q:Value->Shared->Prop} (hA:A.handled=none) (ho:s.heap.get? l=some o) (hc:o.cls=.type "list") (hdd:o.dict=none) (hdat:o.data=.seq its.toArray n)
  (hn:kvs.length=its.length) (hp:∀ (j:Nat) (kv:zI×Value),kvs[j]?=some kv->∃ v,its[j]?=some v/\WV s.heap v kv.1 kv.2) (hz:kvs.length<=sizeLine)
  (h:∀ h' tk,h'.DictOf (yV prog w) s.heap.objs.size (kvs.foldl (fun a kv=>stored a kv.1 kv.2) [])->(∀ b o,s.heap.get? b=some o->h'.get? b=some o)->Q (.ref s.heap.objs.size) { s with heap:=h',toks:=tk }) :
  wpAny (model prog w) A (call (.type "dict") [.ref l]) Q E s:=by
 refine callType_codes (Q₁:=fun obj s₁=>obj=.ref s.heap.objs.size/\s₁={ s with heap:=s.heap.push { cls:=.type "dict",data:=.dict #[] } }) F.kt_called_dict (F.kt_typeCall_dict_1 _) F.entry_dict_init (kt_code_dict_new _ ⟨rfl,rfl⟩) ?_
 rintro obj s₁ ⟨rfl,rfl⟩
 have hnew:(s.heap.push { cls:=.type "dict",data:=.dict #[] }).DictOf (yV prog w) s.heap.objs.size []:=Heap.DictOf.new s.heap
 refine ⟨hnew.typeIs,F.args_dict_init_2 _ _,?_⟩
 unfold Builtin.«dict.__init__»
 refine wpAny_bind ?_
 unfold Builtin.Dict.selfAndRest
 refine wpAny_bind (wpAny_notOrdered_dict hnew.typeIs ?_)
 show wpAny _ _ (pure (s.heap.objs.size,[Value.ref l])) _ _ _
 refine wpAny_pure ?_
 show wpAny _ _ (Builtin.Dict.updateFrom "dict.__init__" s.heap.objs.size (.ref l) [] .none) _ _ _
 unfold Builtin.Dict.updateFrom
 have hlt:=Heap.lt_size ho
 have ho1:(s.heap.push { cls:=.type "dict",data:=.dict #[] }).get? l=some o:=Heap.get?_push_of_some _ ho
 refine wpAny_bind (wpAny_typeOf (T := "list") ⟨o,ho1,hc⟩ ?_)
 rw [if_pos (by rfl)]
 refine wpAny_bind (Lz (o:=o) ho1 hc hdat hdd (am_miss_of_fast (by kernel_rfl)) (by decide) (by exact hA) (fun h1 tk1 kp1=>?_) (by decide))
 rw [if_pos (by rfl)]
 have hd1:h1.DictOf (yV prog w) s.heap.objs.size []:=hnew.keepB fun o e=>kp1 _ _ e
 have ho2:h1.get? l=some o:=kp1 _ _ ho1
 have hl1:h1.IsList l its.toArray:=⟨o,ho2,hc,n,hdat⟩
 have hd1lt:s.heap.objs.size<h1.objs.size:=by
  obtain ⟨o',_,_,e,_⟩:=hd1
  exact Heap.lt_size e
 show wpAny _ _ (pure () >>= _) _ _ _
 refine wpAny_bind (wpAny_pure (wpAny_bind ?_))
 refine wpAny_pyIter_list (s:={ s with heap:=h1,toks:=tk1 }) hl1 ?_
 refine wpAny_pure ⟨plainId_quiet Xh _,codeAny_builtin QV ?_⟩
 rw [Around.under_plainId Xh _]
 have k0:∀ b ob,s.heap.get? b=some ob->(h1.push { cls:=.type "list_iterator",data:=.fields #[.ref l,.int 0 0] }).get? b=some ob:=fun b ob e=>Heap.get?_push_of_some _ (kp1 b ob (Heap.get?_push_of_some _ e))
 refine OI (l:=l) (its:=its) (A:=A.in1) (by exact hA) (yx (Nat.ne_of_gt hlt)) (yx (Nat.ne_of_lt hd1lt)) (yx (Nat.ne_of_lt (Nat.lt_trans hlt hd1lt))) kvs 0 [] _ ⟨_,Heap.get?_push_size _ rfl,rfl,rfl⟩ ⟨o,k0 l o ho,hc,n,hdat⟩ (by rw [Nat.zero_add]; exact hn) (fun j kv e=>?_) (hd1.push _) (by simpa using hz) fun h' tk hd' kp=>?_
 ·obtain ⟨v,hv,b,key,rfl,hk,o',e1,r⟩:=hp j kv e
  exact ⟨_,by rw [Nat.zero_add]; exact hv,b,key,rfl,hk,o',k0 b o' e1,r⟩
 ·refine ⟨rfl,h h' tk hd' fun b ob e=>?_⟩
  have hb:=Heap.lt_size e
  exact kp b ob (yx (Nat.ne_of_lt hb)) (yx (Nat.ne_of_lt (Nat.lt_trans hb hd1lt))) (k0 b ob e)
section
variable {X:Cx}
theorem Jc {pins:List (Addr×Obj)} {σ:St} {H:Hp} {s:Shared} (I:zB X pins σ H s):∀ {kvs:List (zI×V)} {vs:List V} {its:List Value},zb vs its->kvs.length=vs.length->(∀ (j:Nat) (kv:zI×V),kvs[j]?=some kv->∃ b,vs[j]?=some (V.ref b)/\yQ X.K H b [kV kv.1,kv.2])->
  ∃ ws:List (zI×Value),KV kvs ws/\∀ (j:Nat) (kw:zI×Value),ws[j]?=some kw->∃ v,its[j]?=some v/\WV s.heap v kw.1 kw.2
 | [],_,_,_,_,_=>⟨[],.nil,fun j kw e=>by cases e⟩
 | kv::kvs,[],_,_,h,_=>by cases h
 | kv::kvs,_::vs,_::its,.cons r t,h,hp=>by
  obtain ⟨ws,rk,hw⟩:=Jc I t (by simpa using h) fun j kv' e=>by
   obtain ⟨b,e1,q⟩:=hp (j+1) kv' (by simpa using e)
   exact ⟨b,by simpa using e1,q⟩
  obtain ⟨b,e1,sq⟩:=hp 0 kv rfl
  cases e1
  obtain ⟨is,ri,pt,_⟩:=I.tuple sq
  obtain ⟨key,x,rfl,rkey,rx⟩:=W3 ri
  refine ⟨(kv.1,x)::ws,.cons ⟨rfl,rx⟩ rk,fun j kw e=>?_⟩
  cases j with
  | zero=>
   cases e
   exact ⟨_,rfl,b,key,r,uX (P:=X.prog) (w:=X.w) rkey,pt⟩
  | succ j=>
   obtain ⟨v,e2,q⟩:=hw j kw (by simpa using e)
   exact ⟨v,by simpa using e2,q⟩
noncomputable def Ep (K:PySem.W.Frag):List V->Hp->VK->Prop:=fun xs H Q=>∃ a vs kvs,xs=[.ref a]/\yB K H a vs/\kvs.length=vs.length/\(∀ (j:Nat) (kv:zI×V),kvs[j]?=some kv->∃ b,vs[j]?=some (.ref b)/\yQ K H b [kV kv.1,kv.2])/\∀ p,H p=none->Q (.ref p) (zQ H p (.dK (vl [] kvs)))
theorem LH (hcalm:X.calm=true):xC X (.type "dict") (Ep X.K):=by
 intro pins s σ H xs us Q I r h
 obtain ⟨a,vs,kvs,rfl,sq,hl,hp,q⟩:=h
 obtain ⟨u,rfl,ru⟩:=wq r
 cases (show u=Value.ref a from ru)
 obtain ⟨its,rv,⟨o,n,ho,hc,hdd,hdat⟩,hz⟩:=I.list sq
 obtain ⟨ws,rk,hw⟩:=Jc I rv hl hp
 have hlw:ws.length=its.length:=by rw [<- rk.length,hl,rv.length]
 refine LI (I.ok.hd hcalm) ho hc hdd hdat hlw hw (by rw [hlw,<- rv.length]; exact hz) fun h' tk dd kp=>?_
 have hle:(vl [] kvs).length<=sizeLine:=by
  have h1:=Vh kvs []
  rw [List.length_nil] at h1
  omega
 have hm:(s.heap.objs.size == sysModules)=false:=by
  have:=I.big
  rw [beq_eq_false_iff_ne]
  exact yx (Nat.ne_of_gt this)
 exact ⟨.ref s.heap.objs.size,_,I.laid (a:=s.heap.objs.size) (o:=.dK (vl [] kvs)) (t':=tk) kp (Nat.le_refl _) (X0 hle hm (rk.merge .nil) dd),rfl,q _ I.fresh⟩
end
noncomputable def XU:List D->Option (List (Sum Int Str)×List D)
 | []=>some ([],[])
 | .tup [k,v]::r=>(wZ k).bind fun k=>(XU r).bind fun p=>some (k::p.1,v::p.2)
 | _=>none
noncomputable def xM {α:Type}:List (Sum Int Str)->List α->List (Sum Int Str)->List α->List (Sum Int Str)×List α
 | ks,ds,k::r,v::q=>xM (xo ks k) (yi ks ds k v) r q
 | ks,ds,_,_=>(ks,ds)
noncomputable def X7:List D->Option D
 | [.lst xs]=>(XU xs).bind fun p=>some (.dic (xM [] [] p.1 p.2).1 (xM [] [] p.1 p.2).2)
 | _=>none
theorem Jz:∀ {ks:List zI} {us:List V} {as:List zI} {vs:List V},ks.length=us.length->as.length=vs.length->vl (as.zip vs) (ks.zip us)=(xM as vs ks us).1.zip (xM as vs ks us).2/\(xM as vs ks us).1.length=(xM as vs ks us).2.length
 | [],[],as,vs,_,h=>⟨rfl,h⟩
 | k::ks,u::us,as,vs,h1,h2=>by
  have ih:=Jz (ks:=ks) (us:=us) (as:=xo as k) (vs:=yi as vs k u) (by simpa using h1) (kh h2)
  refine ⟨?_,ih.2⟩
  show vl (xV (as.zip vs) k u) (ks.zip us)=_
  rw [WA h2]
  exact ih.1
theorem Jy {K:PySem.W.Frag} {G:Hp}:∀ {ks:List zI} {es:List D} {us:List V} {as:List zI} {ds:List D} {vs:List V},Reps K G es us->Reps K G ds vs->ks.length=us.length->as.length=vs.length->Reps K G (xM as ds ks es).2 (xM as vs ks us).2/\(xM as ds ks es).1=(xM as vs ks us).1
 | [],es,us,as,ds,vs,r1,r2,h1,h2=>by
  have e1:xM as ds [] es=(as,ds):=by unfold xM; rfl
  have e2:xM as vs [] us=(as,vs):=by unfold xM; rfl
  rw [e1,e2]
  exact ⟨r2,rfl⟩
 | k::ks,es,[],as,ds,vs,r1,r2,h1,h2=>by cases h1
 | k::ks,[],u::us,as,ds,vs,r1,r2,h1,h2=>by cases (show _=[] from r1)
 | k::ks,e::es,_::_,as,ds,vs,r1,r2,h1,h2=>by
  obtain ⟨v,r,ev,hv,hr⟩:=r1
  cases ev
  exact Jy (ks:=ks) (es:=es) (as:=xo as k) hr (r2.put hv) (by simpa using h1) (kh h2)
theorem Jx {α:Type}:∀ {ks:List zI} {es:List α} {as:List zI} {ds:List α},as.length=ds.length->(xM as ds ks es).2.length<=ds.length+es.length
 | [],es,as,ds,_=>by
  have e:xM as ds [] es=(as,ds):=by unfold xM; rfl
  rw [e]
  exact Nat.le_add_right _ _
 | _::_,[],as,ds,_=>by
  have e:∀ k ks,xM as ds (k::ks) ([]:List α)=(as,ds):=fun _ _=>by unfold xM; rfl
  rw [e]
  exact Nat.le_add_right _ _
 | k::ks,e::es,as,ds,h=>by
  have ih:=Jx (ks:=ks) (es:=es) (as:=xo as k) (ds:=yi as ds k e) (kh h)
  have:=UF (ks:=as) (vs:=ds) (k:=k) (v:=e) h
  show (xM (xo as k) (yi as ds k e) ks es).2.length<=_
  rw [List.length_cons]
  omega
theorem J7 {K:PySem.W.Frag} {G:Hp}:∀ {xs:List D} {vs:List V} {ks:List zI} {ds:List D},XU xs=some (ks,ds)->Reps K G xs vs->∃ us,Reps K G ds us/\ks.length=us.length/\ks.length=vs.length/\∀ (j:Nat) (kv:zI×V),(ks.zip us)[j]?=some kv->∃ b,vs[j]?=some (V.ref b)/\yQ K G b [kV kv.1,kv.2]
 | [],_,_,_,h,r=>by
  cases h
  cases (show _=[] from r)
  exact ⟨[],rfl,rfl,rfl,fun j kv e=>by cases e⟩
 | x::xs,_,ks,ds,h,r=>by
  obtain ⟨v,r',rfl,hv,hr⟩:=r
  unfold XU at h
  split at h
  ·rename_i e; cases e
  ·rename_i k y r2 e
   cases e
   obtain ⟨key,hk,h⟩:=zC h
   obtain ⟨⟨ks2,ds2⟩,h2,h⟩:=zC h
   cases h
   obtain ⟨us,q1,q2,q3,q4⟩:=J7 h2 hr
   obtain ⟨b,ws,rfl,sq,⟨u1,_,rfl,hu1,⟨u2,_,rfl,hu2,e3⟩⟩,_⟩:=hv
   cases (show _=[] from e3)
   refine ⟨u2::us,⟨u2,us,rfl,hu2,q1⟩,by rw [List.length_cons,List.length_cons,q2],by rw [List.length_cons,List.length_cons,q3],fun j kv e=>?_⟩
   cases j with
   | zero=>
    cases e
    refine ⟨b,rfl,?_⟩
    rw [<- qb hk hu1]
    exact sq
   | succ j=>
    obtain ⟨b',e1,e2⟩:=q4 j kv (by simpa using e)
    exact ⟨b',by simpa using e1,e2⟩
  ·cases h
theorem KF {X:Cx} {e:Expr} {fs:FA} {p pos:Pos} (hcalm:X.calm=true) (hg:Gl X "dict") (hm:X.mg "dict" = none) (hv:bootBuiltins "dict" = some (.type "dict")) (ha:SA X [e] fs) (hs:yT e=true:=by rfl):SF X (.Call (.Name "dict" p) [e] [] pos) (eL X7 fs):=by
 obtain ⟨t,pt,k⟩:=ha.h
 refine ⟨⟨_,(gJ (LH hcalm) hg hm hv ⟨pt⟩ (by decide) (by decide) (by rw [List.all_cons,hs]; rfl)).h,fun {G0 H0 G H τ σ d Q} E hf q=>?_⟩⟩
 obtain ⟨ds,hd,hf⟩:=zC hf
 refine k E hd fun vs G1 H1 x1 r1=>?_
 unfold X7 at hf
 split at hf
 ·rename_i xs
  obtain ⟨⟨ks,es⟩,hk,hf⟩:=zC hf
  cases hf
  obtain ⟨v,rfl,a,ws,rfl,sq,rs,l⟩:=uH r1
  obtain ⟨us,q1,q2,q3,q4⟩:=J7 hk rs
  obtain ⟨z1,z2⟩:=Jz (ks:=ks) (us:=us) (as:=[]) (vs:=[]) q2 rfl
  obtain ⟨z3,z4⟩:=Jy (ks:=ks) (as:=[]) (ds:=[]) (vs:=[]) q1 rfl q2 rfl
  refine ⟨a,ws,ks.zip us,rfl,wd x1.gh sq,by rw [List.length_zip,q2,Nat.min_self,<- q2,q3],fun j kv e=>?_,fun p hp=>?_⟩
  ·obtain ⟨b,e1,e2⟩:=q4 j kv e
   exact ⟨b,e1,wo x1.gh e2⟩
  ·refine q p _ _ (x1.trans (zK.layO x1.gh hp)) (x1.h.free hp) (x1.gh.free hp) ⟨(xM [] [] ks us).2,?_,?_,z3,?_⟩
   ·show zQ H1 p (.dK (vl [] (ks.zip us))) p=some (.dK ((xM [] [] ks es).1.zip (xM [] [] ks us).2))
    rw [yK,z4]
    exact congrArg (fun x=>some (HO.dK x)) z1
   ·show (xM [] [] ks es).1.length=_
    rw [z4]
    exact z2
   ·have:=Jx (ks:=ks) (es:=es) (as:=[]) (ds:=[]) rfl
    have e1:es.length=ws.length:=by rw [<- q1.length,<- q2,q3]
    rw [rs.length] at e1
    show (xM [] [] ks es).2.length<=sizeLine
    simp only [List.length_nil,Nat.zero_add] at this
    omega
 ·cases hf
end L3
namespace L3
open PySem PySem.Spec PyProof PyProof.Rows L2 Builtin Builtin.Str
section
variable {X:Cx} {e o a b c:Expr} {f fo fa fb fc:FE} {x:Str} {xp p pos apos cpos:Pos}
theorem T_:bootBuiltins "dict" = some (.type "dict"):=by decide +kernel
theorem Reps.set {K:PySem.W.Frag} {G:Hp} {d:D} {v:V} (hv:zP K G d v):∀ {ds:List D} {vs:List V} (n:Nat),Reps K G ds vs->Reps K G (ds.set n d) (vs.set n v)
 | [],_,_,r=>by cases (show _=[] from r); rfl
 | d'::ds,_,0,r=>by
  obtain ⟨u,r',rfl,hu,hr⟩:=r
  exact ⟨v,r',rfl,hv,hr⟩
 | d'::ds,_,n+1,r=>by
  obtain ⟨u,r',rfl,hu,hr⟩:=r
  exact ⟨u,_,rfl,hu,Reps.set hv n hr⟩
end
end L3
namespace L2
open PySem PySem.Spec PyProof.Rows
noncomputable def WM (K:PySem.W.Frag) (a:Addr):It:=
  ⟨fun i H=>∃ xs x,yB K H a xs/\xs[i]?=some x,
   fun i H v H'=>∃ p,H p=none/\v=.ref p/\∀ xs,yB K H a xs->∃ x,xs[i]?=some x/\H'=zQ H p (.tup [.int (i:Int),x]),
   fun i H=>∃ xs,yB K H a xs/\xs.length<=i⟩
theorem NQ {P:Program} {w:World} {K:PySem.W.Frag} {elts:List Expr} {kk:Nat} {pos:Pos} (a e it:Addr) (hei:e≠it) :
  qP P w K (.Tuple elts kk pos) (WM K a) [e,it] e (fun i h=>(∃ old,IsEnum h e it (i:Int) old)/\h.IsListIter it a i) where
 mem:=by simp
 obj:=fun i h st c hc=>by
  obtain ⟨⟨old,s1⟩,⟨o2,s2,_,d2⟩⟩:=st
  simp only [List.mem_cons,List.not_mem_nil,or_false] at hc
  rcases hc with rfl | rfl
  ·exact ⟨_,s1,fun v q=>nomatch q⟩
  ·exact ⟨_,s2,fun v q=>by rw [d2] at q; cases q⟩
 keep:=fun i h h' st k=>by
  obtain ⟨⟨old,s1⟩,s2⟩:=st
  exact ⟨⟨old,k e (by simp) _ s1⟩,s2.at fun o x=>k it (by simp) o x⟩
 item:=by
  intro X hP hw hK hc i pins s σ H E I hf st hg
  subst hP hw hK
  obtain ⟨⟨old,s1⟩,s2⟩:=st
  obtain ⟨xs,x,hx,ex⟩:=hg
  obtain ⟨us,ru,pu,_⟩:=I.list hx
  have pl:=pu.isList
  obtain ⟨xu,hxu,rxu⟩:=ru.get ex
  have hx':us.toArray[i]?=some xu:=by rw [List.getElem?_toArray]; exact hxu
  have lt1:e<s.heap.objs.size:=Heap.lt_size s1
  have lt2:it<s.heap.objs.size:=by obtain ⟨o,z,_⟩:=s2; exact Heap.lt_size z
  refine wpAny_pyNext_enum_item s1 s2 pl hx' hei fun h1 heo hit1 ht1 hz1 hk1=>?_
  refine ⟨_,rfl,wpAny_letOwnedTupleGo_enum (s:={ s with heap:=h1,toks:=s.toks+1 }) heo fun h2 he2 hs2=>?_⟩
  replace hs2:Heap.SameBut e h1 h2:=hs2
  have hTs:s.heap.get? s.heap.objs.size=none:=by
   cases q:s.heap.get? s.heap.objs.size with
   | none=>rfl
   | some o=>exact absurd (Heap.lt_size q) (Nat.lt_irrefl _)
  have hTf:H s.heap.objs.size=none:=I.hok.fresh (Nat.le_refl _)
  have tup:h2.get? s.heap.objs.size=some { cls:=.type "tuple",data:=.seq #[.int i s.toks,xu] }:=hs2.extBut _ _ (Nat.ne_of_gt lt1) ht1
  have kk:∀ c o,c ∉ [e,it]->s.heap.get? c=some o->h2.get? c=some o:=fun c o hc z=>by
   simp only [List.mem_cons,List.not_mem_nil,or_false,not_or] at hc
   exact hs2.extBut _ _ hc.1 (hk1 c o hc.1 hc.2 z)
  have new:yc X.prog X.w (zQ H s.heap.objs.size (.tup [.int (i:Int),x])) h2 s.heap.objs.size (.tup [.int (i:Int),x]):=⟨(by show 2<=sizeLine; decide),[.int i s.toks,xu],.cons ⟨_,rfl⟩ (.cons rxu .nil),⟨_,tup,rfl,_,rfl⟩⟩
  refine ⟨.ref s.heap.objs.size,zQ H s.heap.objs.size (.tup [.int (i:Int),x]),I.butNew (tk:=s.toks+1) hf kk hTs hTf new,rfl,⟨s.heap.objs.size,hTf,rfl,fun xs' hx'=>?_⟩,⟨⟨xu,?_⟩,hit1.at fun o z=>hs2.extBut _ _ hei.symm z⟩,fun c hc=>?_⟩
  ·rw [I.list_inj hx' hx]
   exact ⟨x,ex,rfl⟩
  ·rw [show ((i+1:Nat):Int)=(i:Int)+1 from rfl]
   exact he2
  ·rw [zw]
   ·exact (hf c hc).1
   ·intro q
    have hlt:c<s.heap.objs.size:=by
     simp only [List.mem_cons,List.not_mem_nil,or_false] at hc
     rcases hc with rfl | rfl
     ·exact lt1
     ·exact lt2
    rw [q] at hlt
    exact absurd hlt (Nat.lt_irrefl _)
 done:=by
  intro X hP hw hK hc i pins s σ H E I hf st hg
  subst hP hw hK
  obtain ⟨⟨old,s1⟩,s2⟩:=st
  obtain ⟨xs,hx,hend⟩:=hg
  obtain ⟨us,ru,pu,_⟩:=I.list hx
  have pl:=pu.isList
  have hx':us.toArray[i]?=none:=by
   rw [List.getElem?_toArray]
   exact List.getElem?_eq_none (by have:=ru.length; omega)
  refine wpAny_pyNext_enum_end (by exact I.ok.hd hc) s1 s2 pl hx' fun h1 he1=>?_
  refine ⟨rfl,I.but (tk:=s.toks) hf fun c ob hcc eb=>?_⟩
  simp only [List.mem_cons,List.not_mem_nil,or_false,not_or] at hcc
  exact he1 c ob hcc.2 eb
 self:=fun _ _ _ _ _ st h=>by
  obtain ⟨⟨old,s1⟩,_⟩:=st
  exact wpAny_pyIter_enum s1 h
section
variable {X:Cx}
noncomputable def B0 (K:PySem.W.Frag) (ta:TA):TI:=fun σ H R=>ta σ H fun vs H1=>∃ a xs,vs=[.ref a]/\yB K H1 a xs/\R (WM K a) H1
theorem E9 {a:Expr} {ta:TA} {p pos:Pos} {elts:List Expr} {kk:Nat} {tp:Pos} (hg:Gl X "enumerate") (hm:X.mg "enumerate" = none) (ha:PA X [a] ta) (hs:starEach [a] X.env=[(false,eval a X.env)]:=by rfl) :
  PI X (.Tuple elts kk tp) (.Call (.Name "enumerate" p) [a] [] pos) (B0 X.K ta):=by
 intro pins s σ H R I h
 refine Call_ (jv I hg hm boot_enumerate (PyProof.Rows.callWith_type1 (za (ha pos pins s σ H _ I h) fun us s1 ⟨vs,H1,I1,r1,q1⟩=>?_) (by rw [hs]; rfl) rfl))
 obtain ⟨l1,xs,rfl,hx,q⟩:=q1
 obtain ⟨u,rfl,ru⟩:=wq r1
 cases (show u=Value.ref l1 from ru)
 obtain ⟨us,_,pu,_⟩:=I1.list hx
 refine call_enumerate_list pu.isList fun h' a1 a2 hz kp=>?_
 have I2:zB X pins σ H1 { s1 with heap:=h' }:=I1.kept (t':=s1.toks) kp
 refine wpAny_pyIter_enum (s:={ s1 with heap:=h' }) a1 ?_
 generalize hn:s1.heap.objs.size=n at a1 a2 hz
 refine ⟨n+1,[n+1,n],_,_,H1,rfl,I2,NQ l1 (n+1) n (yx (by omega)),⟨⟨_,a1⟩,a2⟩,fun c hc=>?_,q⟩
 have hle:s1.heap.objs.size<=c:=by
  rw [hn]
  simp only [List.mem_cons,List.not_mem_nil,or_false] at hc
  rcases hc with rfl | rfl
  ·exact Nat.le_add_right _ _
  ·exact Nat.le_refl _
 exact I1.fpOk hle (I1.hok.fresh hle)
end
end L2
namespace L3
open PySem PySem.Spec PyProof.Rows L2
noncomputable def tU (xs:List D):List D:=List.zipWith (fun (i:Nat) x=>D.tup [.int (i:Int),x]) (List.range xs.length) xs
noncomputable def XM (a:FE):FA:=fun σ=>(a σ).bind fun d=>match d with
 | .lst xs=>some (tU xs)
 | _=>none
theorem kR (xs:List D):(tU xs).length=xs.length:=by simp [tU]
theorem JP (xs:List D) (i:Nat):(tU xs)[i]?=(xs[i]?).map fun x=>D.tup [.int (i:Int),x]:=by
 unfold tU
 rw [List.getElem?_zipWith]
 by_cases h:i<xs.length
 ·rw [List.getElem?_range h,List.getElem?_eq_getElem h]; rfl
 ·rw [List.getElem?_eq_none (by simpa using h),List.getElem?_eq_none (by omega)]; rfl
section
variable {K:PySem.W.Frag} {G H:Hp}
theorem Ln {a:Addr} {vs:List V} {xs:List D} (s1:yB K G a vs) (r1:Reps K G xs vs):qR K (WM K a) G (tU xs) where
 go:=fun i G2 H g1 g2 hi=>by
  rw [kR] at hi
  obtain ⟨v,e1,_⟩:=r1.get (List.getElem?_eq_getElem hi)
  exact ⟨vs,v,wd (g1.trans g2) s1,e1⟩
 yld:=fun i G2 H x H' g1 g2 hi y=>by
  obtain ⟨p,hp,rfl,k⟩:=y
  obtain ⟨v,e1,rfl⟩:=k vs (wd (g1.trans g2) s1)
  obtain ⟨d1,f1,q1⟩:=r1.at e1
  refine ⟨zQ G2 p (.tup [.int (i:Int),v]),.tup [.int (i:Int),d1],zK.lay g2 hp,by rw [JP,f1]; rfl,?_⟩
  have sm:zW G (zQ G2 p (.tup [.int (i:Int),v])):=g1.trans (wB (g2.free hp) _)
  exact ⟨p,[.int (i:Int),v],rfl,yQ.of yK,⟨_,_,rfl,rfl,⟨v,_,rfl,q1.mono sm,rfl⟩⟩,wK (n:=2) (by decide)⟩
 stop:=fun i G2 H g1 g2 hi=>by
  rw [kR] at hi
  exact ⟨vs,wd (g1.trans g2) s1,by rw [r1.length]; exact hi⟩
end
theorem KP {X:Cx} {a:Expr} {fa:FE} {p pos:Pos} {elts:List Expr} {kk:Nat} {tp:Pos} (hg:Gl X "enumerate") (hm:X.mg "enumerate" = none) (ha:SE X a fa) (hs:yT a=true:=by rfl):SI X (.Tuple elts kk tp) (.Call (.Name "enumerate" p) [a] [] pos) (XM fa):=by
 obtain ⟨t,pt,k⟩:=(zA ha zL hs).h
 refine ⟨⟨_,E9 hg hm pt (vG hs),fun {G0 H0 G H τ σ ds R} K hf q=>?_⟩⟩
 obtain ⟨x,hx,hf⟩:=zC hf
 cases x<;>first | (cases hf; done) | skip
 cases hf
 rename_i xs
 refine k K (ds:=[.lst xs]) (by unfold z8; rw [hx]; rfl) fun vs G1 H1 x1 r1=>?_
 obtain ⟨v,r,rfl,hv,hr⟩:=r1
 cases (show r=[] from hr)
 obtain ⟨aa,vs1,rfl,s1,q1,l1⟩:=hv
 exact ⟨aa,vs1,rfl,wd x1.gh s1,q _ _ _ x1 (by rw [kR]; exact l1) (Ln s1 q1)⟩
end L3
namespace L2
open PySem PySem.Spec PyProof PyProof.Rows
noncomputable def py (a:Int):List Int->List Int
 | []=>[a]
 | b::r=>if a<=b then a::b::r else b::py a r
noncomputable def isort:List Int->List Int
 | []=>[]
 | a::r=>py a (isort r)
theorem VS (a:Int):∀ l:List Int,(py a l).Perm (a::l)
 | []=>List.Perm.refl _
 | b::r=>by
  unfold py
  split
  ·exact List.Perm.refl _
  ·exact ((VS a r).cons b).trans (List.Perm.swap a b r)
theorem isort_perm:∀ l:List Int,(isort l).Perm l
 | []=>List.Perm.refl _
 | a::r=>(VS a _).trans ((isort_perm r).cons a)
theorem Qv (a:Int):∀ {l:List Int},l.Pairwise (·<=·)->(py a l).Pairwise (·<=·)
 | [],_=>by simp [py]
 | b::r,h=>by
  obtain ⟨h1,h2⟩:=List.pairwise_cons.mp h
  unfold py
  split
  ·rename_i hab
   exact List.pairwise_cons.mpr ⟨fun x hx=>by
    rcases List.mem_cons.mp hx with rfl | hx
    ·exact hab
    ·exact Int.le_trans hab (h1 x hx),h⟩
  ·rename_i hab
   refine List.pairwise_cons.mpr ⟨fun x hx=>?_,Qv a h2⟩
   rcases List.mem_cons.mp ((VS a r).mem_iff.mp hx) with rfl | hx
   ·omega
   ·exact h1 x hx
theorem VU:∀ l:List Int,(isort l).Pairwise (·<=·)
 | []=>List.Pairwise.nil
 | a::r=>Qv a (VU r)
theorem Ud:∀ {a b:List Int},a.Perm b->a.Pairwise (·<=·)->b.Pairwise (·<=·)->a=b
 | [],b,p,_,_=>(List.nil_perm.mp p).symm
 | x::a,[],p,_,_=>by cases p.length_eq
 | x::a,y::b,p,ha,hb=>by
  obtain ⟨h1,h2⟩:=List.pairwise_cons.mp ha
  obtain ⟨g1,g2⟩:=List.pairwise_cons.mp hb
  have e:x=y:=by
   have hx:x∈y::b:=p.mem_iff.mp (List.mem_cons_self ..)
   have hy:y∈x::a:=p.mem_iff.mpr (List.mem_cons_self ..)
   rcases List.mem_cons.mp hx with rfl | hx
   ·rfl
   ·rcases List.mem_cons.mp hy with e | hy
    ·exact e.symm
    ·exact Int.le_antisymm (h1 y hy) (g1 x hx)
  subst e
  rw [Ud (List.perm_cons x |>.mp p) h2 g2]
theorem OM:∀ {ns:List Int} {its:List Value},zb (ns.map V.int) its->IntsAre its ns
 | [],_,.nil=>.nil
 | n::ns,_,.cons r rr=>by
  obtain ⟨t,rfl⟩:=r
  exact .cons _ _ (OM rr)
theorem VT:∀ {ns:List Int} {its:List Value},IntsAre its ns->zb (ns.map V.int) its
 | [],_,.nil=>.nil
 | _::_,_,.cons _ _ r=>.cons ⟨_,rfl⟩ (VT r)
section
variable {X:Cx}
theorem LS:xC X (.builtin "sorted") (fun xs H Q=>∃ p ns,xs=[.ref p]/\yB X.K H p (ns.map V.int)/\ns.length<64/\∀ l,H l=none->Q (.ref l) (zQ H l (.lst ((isort ns).map V.int)))):=by
 intro pins s σ H xs us Q I r h
 obtain ⟨p,ns,rfl,hq,h64,q⟩:=h
 obtain ⟨u,rfl,rx⟩:=wq r
 cases rx
 obtain ⟨its,r',pl,hz⟩:=I.list hq
 have hlen:=r'.length
 rw [List.length_map] at hlen
 refine sorted_ints pl.isList (OM r') (by omega) fun out ns' a1 a2 a3=>?_
 have e:ns'=isort ns:=Ud (a2.trans (isort_perm ns).symm) a3 (VU ns)
 subst e
 obtain ⟨c,hc⟩:=sortedAll_at s.heap its out
 have hl2:(isort ns).length=ns.length:=(isort_perm ns).length_eq
 refine ⟨.ref (s.heap.objs.size+1),_,I.laid (t':=s.toks) (h':=sortedAll s.heap its out) (fun _ _=>sortedAll_old) (Nat.le_succ _) (show yc X.prog X.w _ _ _ (.lst ((isort ns).map V.int)) from ⟨?_,out.toList,c,VT a1,?_⟩),rfl,q _ (I.hok.fresh (Nat.le_succ _))⟩
 ·rw [List.length_map,hl2]
  show _<=sizeLine
  rw [List.length_map] at hz
  exact hz
 ·rw [Array.toArray_toList]
  exact hc
end
end L2
namespace L3
open PySem PySem.Spec PyProof.Rows L2
theorem Q4:bootBuiltins "sorted" = some (.builtin "sorted"):=by decide +kernel
noncomputable def intsOf:List D->Option (List Int)
 | []=>some []
 | .int i::r=>(intsOf r).bind fun ns=>some (i::ns)
 | _=>none
theorem Qy:∀ {ds:List D} {ns:List Int},intsOf ds=some ns->ds=ns.map D.int
 | [],_,h=>by cases h; rfl
 | d::ds,ns,h=>by
  unfold intsOf at h
  split at h
  ·rename_i e; cases e
  ·rename_i i r e
   cases e
   obtain ⟨ns',h1,h⟩:=zC h
   cases h
   rw [Qy h1]
   rfl
  ·cases h
theorem IU {K:PySem.W.Frag} {G:Hp}:∀ {ns:List Int} {vs:List V},Reps K G (ns.map D.int) vs->vs=ns.map V.int
 | [],_,r=>r
 | n::ns,_,r=>by
  obtain ⟨v,r',rfl,hv,hr⟩:=r
  rw [IU hr,show v=V.int n from hv]
  rfl
theorem Qw {K:PySem.W.Frag} {G:Hp}:∀ ns:List Int,Reps K G (ns.map D.int) (ns.map V.int)
 | []=>rfl
 | n::ns=>⟨.int n,_,rfl,rfl,Qw ns⟩
noncomputable def VJ:List D->Option D
 | [.lst xs]=>(intsOf xs).bind fun ns=>if ns.length<64 then some (.lst ((isort ns).map D.int)) else none
 | _=>none
theorem KM {X:Cx} {e:Expr} {fs:FA} {p pos:Pos} (hg:Gl X "sorted") (hm:X.mg "sorted" = none) (ha:SA X [e] fs) (hs:yT e=true:=by rfl):SF X (.Call (.Name "sorted" p) [e] [] pos) (eL VJ fs):=by
 obtain ⟨t,pt,k⟩:=ha.h
 refine ⟨⟨_,(Xl LS hg hm Q4 ⟨pt⟩ (by decide) (by decide) (by rw [List.all_cons,hs]; rfl)).h,fun {G0 H0 G H τ σ d Q} E hf q=>?_⟩⟩
 obtain ⟨ds,hd,hf⟩:=zC hf
 refine k E hd fun vs G1 H1 x1 r1=>?_
 match ds,hf with
 | [.lst xs],hf=>
  obtain ⟨ns,hn,hf⟩:=zC (show (intsOf xs).bind _=some d from hf)
  split at hf
  ·rename_i h64
   cases hf
   obtain ⟨v,rfl,a,us,rfl,sq,rs,l⟩:=uH r1
   rw [Qy hn] at rs l
   rw [IU rs] at sq
   refine ⟨a,ns,rfl,wd x1.gh sq,h64,fun p hp=>q p _ _ (x1.trans (zK.layO x1.gh hp)) (x1.h.free hp) (x1.gh.free hp) ⟨_,yK,Qw _,?_⟩⟩
   rw [List.length_map,(isort_perm ns).length_eq]
   rw [List.length_map] at l
   exact l
  ·cases hf
end L3
namespace L2
open PySem PySem.Spec PyProof.Rows
section
variable {X:Cx}
end
end L2
namespace L3
open PySem PySem.Spec PyProof.Rows L2
section
variable {X:Cx} {e o a b c:Expr} {f fo fa fb fc:FE} {x:Str} {xp p pos apos cpos:Pos}
end
end L3
namespace L3
open PySem PySem.Spec PyProof.Rows L2
section
variable {X:Cx} {a b:Expr} {fa fb:FE} {x:Str} {xp pos:Pos}
end
end L3
namespace L3
open PySem PySem.Spec PyProof.Rows L2
section
variable {X:Cx} {e:Expr} {es:List Expr} {fs:FA} {x:Str} {ps:List Str} {k j:Nat} {FF:List D->Option (Bool×D)} {p pos:Pos}
end
end L3
namespace L3
open PySem PySem.Spec PyProof.Rows L2
section
variable {X:Cx} {e:Expr} {es:List Expr} {fs:FA} {x y:Str} {ps:List Str} {k j:Nat} {FF:List D->Option (Bool×D)} {p pos pos' cpos:Pos}
end
end L3
namespace L3
open PySem PySem.Spec PyProof.Rows L2
section
variable {X:Cx} {x:Str} {xp pos apos cpos:Pos}
end
end L3
namespace L3
open PySem PySem.Spec PyProof.Rows L2
noncomputable def uA:Option Sl->Option Sl
 | some (_,d)=>some (false,d)
 | none=>none
noncomputable def XH (τ:zf):zf:=τ.map uA
noncomputable def Xy (f:FT):FT:=fun τ=>f (XH τ)
theorem NH (τ:zf) (k:Nat) (h:k<τ.length):(((τ.take k).map uA)++τ.drop k).set k (uA τ[k])=((τ.take (k+1)).map uA)++τ.drop (k+1):=by
 have e:τ.drop k=τ[k]::τ.drop (k+1):=List.drop_eq_getElem_cons h
 have l:((τ.take k).map uA).length=k:=by rw [List.length_map,List.length_take]; omega
 rw [e,List.set_append_right _ _ (by omega),l,Nat.sub_self,List.set_cons_zero,List.take_succ_eq_append_getElem h,List.map_append,List.append_assoc]
 rfl
section
variable {K:PySem.W.Frag} {n:Nat} {G0 H0 G H G' H':Hp} {τ:zf} {σ:St}
noncomputable def pO (G G':Hp):Prop:=∀ p,G p=none->G' p≠none->∃ u,G' p=some u/\(∀ xs,u≠.tup xs)/\∀ o v,u≠.frz o v
theorem CY {d:D} {p:Addr} (o:xc K G H d p):∃ u,H p=some u/\(∀ xs,u≠.tup xs)/\∀ o v,u≠.frz o v:=by
 cases d with
 | lst ds=>obtain ⟨vs,e,_⟩:=o; exact ⟨_,e,(fun xs z=>by cases z),(fun o v z=>by cases z)⟩
 | dic ks ds=>obtain ⟨vs,e,_⟩:=o; exact ⟨_,e,(fun xs z=>by cases z),(fun o v z=>by cases z)⟩
 | _=>exact o.elim
theorem zh.freezeL {i:Nat} {b:Bool} {d:D} (E:zh K n G0 H0 G H τ σ) (hi:τ[i]?=some (some (b,d))):∃ G',zh K n G0 H0 G' H (τ.set i (some (false,d))) σ/\zW G G'/\pO G G':=by
 cases b with
 | false=>
  refine ⟨G,?_,zW.refl _,fun p h1 h2=>absurd h1 h2⟩
  have e:τ.set i (some (false,d))=τ:=by
   apply List.ext_getElem?
   intro j
   by_cases hj:j=i
   ·subst hj; rw [qY (by rw [E.l2]; exact E.lt hi),hi]
   ·rw [vB hj]
  rw [e]
  exact E
 | true=>
  have hin:=E.lt hi
  obtain ⟨p,e,g,z,o⟩:=E.ow i d hi
  obtain ⟨u',hu',nt⟩:=CY o
  obtain ⟨u,hu,r⟩:=o.frz g
  have eu:u=u':=by rw [hu] at hu'; cases hu'; rfl
  subst eu
  have x:zK G0 H0 (zQ G p u) H:=E.ext.frz z g hu
  refine ⟨zQ G p u,⟨x,E.l1,by rw [List.length_set]; exact E.l2,fun j d' h=>?_,fun j d' h=>?_,fun j k e1 f q hne h1 h2=>?_⟩,wB g _,fun q h1 h2=>?_⟩
  ·rcases xY h with ⟨rfl,w⟩ | ⟨ne,w⟩
   ·cases w
    exact ⟨_,e,r⟩
   ·obtain ⟨v,e',r'⟩:=E.fr j d' w
    exact ⟨v,e',r'.mono (wB g _)⟩
  ·rcases xY h with ⟨rfl,w⟩ | ⟨ne,w⟩
   ·cases w
   ·obtain ⟨q,e',g',z',o'⟩:=E.ow j d' w
    refine ⟨q,e',?_,z',o'.mono (wB g _) (zW.refl _)⟩
    rw [zw (fun c=>?_)]
    ·exact g'
    ·subst c
     exact E.ap i j d d' q (fun c=>ne c.symm) hi w e e'
  ·rcases xY h1 with ⟨rfl,w⟩ | ⟨ne,w⟩
   ·cases w
   ·rcases xY h2 with ⟨rfl,w'⟩ | ⟨ne',w'⟩
    ·cases w'
    ·exact E.ap j k e1 f q hne w w'
  ·rcases Us h2 with c | c
   ·subst c
    exact ⟨u,yK,nt⟩
   ·exact absurd h1 c
theorem pO.trans {G1 G2:Hp} (s2:zW G1 G2) (a:pO G G1) (b:pO G1 G2):pO G G2:=fun p h1 h2=>by
 cases e:G1 p with
 | none=>exact b p e h2
 | some u=>
  obtain ⟨u',hu,nt⟩:=a p h1 (by rw [e]; exact fun z=>nomatch z)
  exact ⟨u',s2 _ _ hu,nt⟩
theorem zh.freezeK (E:zh K n G0 H0 G H τ σ):∀ k,k<=n->∃ G',zh K n G0 H0 G' H (((τ.take k).map uA)++τ.drop k) σ/\zW G G'/\pO G G'
 | 0,_=>⟨G,by rw [List.take_zero]; exact E,zW.refl _,fun p h1 h2=>absurd h1 h2⟩
 | k+1,hk=>by
  obtain ⟨G1,E1,s1,l1⟩:=zh.freezeK E k (by omega)
  have hkl:k<τ.length:=by rw [E.l2]; omega
  have e:=NH τ k hkl
  have gk:(((τ.take k).map uA)++τ.drop k)[k]?=some τ[k]:=by
   rw [List.getElem?_append_right (by rw [List.length_map,List.length_take]; omega),List.length_map,List.length_take,Nat.min_eq_left (by omega),Nat.sub_self,List.getElem?_drop,Nat.add_zero,List.getElem?_eq_getElem hkl]
  cases t:τ[k] with
  | none=>
   refine ⟨G1,?_,s1,l1⟩
   rw [<- e,t]
   have e2:(((τ.take k).map uA)++τ.drop k).set k (uA none)=((τ.take k).map uA)++τ.drop k:=by
    apply List.ext_getElem?
    intro j
    by_cases hj:j=k
    ·subst hj; rw [qY (by rw [E1.l2]; omega),gk,t]; rfl
    ·rw [vB hj]
   rw [e2]
   exact E1
  | some s=>
   obtain ⟨b,d⟩:=s
   rw [t] at gk
   obtain ⟨G2,E2,s2,l2⟩:=E1.freezeL gk
   refine ⟨G2,?_,s1.trans s2,l1.trans s2 l2⟩
   rw [<- e,t]
   exact E2
theorem zh.freezeA (E:zh K n G0 H0 G H τ σ):∃ G',zh K n G0 H0 G' H (XH τ) σ/\zW G G'/\pO G G':=by
 obtain ⟨G',E',s,l⟩:=E.freezeK n (Nat.le_refl _)
 refine ⟨G',?_,s,l⟩
 have e:τ.take n=τ:=by rw [<- E.l2]; exact List.take_length
 have e2:τ.drop n=[]:=by rw [<- E.l2]; exact List.drop_length
 rw [e,e2,List.append_nil] at E'
 exact E'
noncomputable def back (G G' G1:Hp):Hp:=fun p=>if G p=none/\G' p≠none then none else G1 p
theorem zK.back {G1 H1:Hp} (s:zW G G') (sh:zW G' H) (x:zK G' H G1 H1):zK G H (back G G' G1) H1:=by
 refine ⟨fun b u e=>?_,x.h,fun b u e=>?_,fun p h=>?_⟩
 ·show (if G b=none/\G' b≠none then none else G1 b)=some u
  rw [if_neg (fun c=>by rw [c.1] at e; cases e)]
  exact x.g _ _ (s _ _ e)
 ·by_cases c:G b=none/\G' b≠none
  ·have e':(if G b=none/\G' b≠none then none else G1 b)=some u:=e
   rw [if_pos c] at e'
   cases e'
  ·have e':(if G b=none/\G' b≠none then none else G1 b)=some u:=e
   rw [if_neg c] at e'
   exact x.gh _ _ e'
 ·by_cases c:G p=none/\G' p≠none
  ·have e':(if G p=none/\G' p≠none then none else G1 p)≠none:=h
   rw [if_pos c] at e'
   exact absurd rfl e'
  ·have e':(if G p=none/\G' p≠none then none else G1 p)≠none:=h
   rw [if_neg c] at e'
   rcases x.new p e' with z | z
   ·by_cases g:G p=none
    ·exact absurd ⟨g,z⟩ c
    ·exact .inl g
   ·exact .inr z
end
section
variable {X:Cx} {e:Expr} {f:FE} {ft:FT}
theorem Kc (h:ST X e ft):ST X e (Xy ft):=by
 obtain ⟨t,p,k⟩:=h.h
 refine ⟨⟨t,p,fun {G0 H0 G H τ σ d Q} E hf q=>?_⟩⟩
 obtain ⟨G',E',s,l⟩:=E.freezeA
 exact k E' hf fun G1 H1 x1=>q _ _ (zK.back s E'.ext.gh x1)
end
noncomputable def XF:D->D->Option D
 | .lst x,.int k=>if 0<=k/\k<=1000000/\x.length*k.toNat<=yP then some (.lst (List.replicate k.toNat x).flatten) else none
 | _,_=>none
theorem Lw {x y d:D} (h:XF x y=some d):∃ xs k,x=.lst xs/\y=.int k/\(0<=k/\k<=1000000/\xs.length*k.toNat<=yP)/\d=.lst (List.replicate k.toNat xs).flatten:=by
 unfold XF at h
 split at h
 ·rename_i xs k
  by_cases c:0<=k/\k<=1000000/\xs.length*k.toNat<=yP
  ·rw [if_pos c] at h
   cases h
   exact ⟨_,_,rfl,rfl,c,rfl⟩
  ·rw [if_neg c] at h
   cases h
 ·cases h
theorem Reps.rep {K:PySem.W.Frag} {G:Hp} {ds:List D} {vs:List V} (r:Reps K G ds vs):∀ k:Nat,Reps K G (List.replicate k ds).flatten (List.replicate k vs).flatten
 | 0=>rfl
 | k+1=>by
  rw [List.replicate_succ,List.flatten_cons,List.replicate_succ,List.flatten_cons]
  exact r.append (Reps.rep r k)
section
variable {X:Cx} {a b:Expr} {f fa fb:FE} {x:Str} {xp pos apos cpos:Pos} {e:Expr}
theorem KK (ha:SF X a fa) (hb:SE X b fb):SF X (.BinOp a .Mult b pos) (e2 XF fa fb):=by
 obtain ⟨ta,pa,ka⟩:=ha.h
 obtain ⟨tb,pb,kb⟩:=hb.h
 refine ⟨⟨_,Jl CV pa pb,fun {G0 H0 G H τ σ d Q} E hf q=>?_⟩⟩
 obtain ⟨x,hx,hf⟩:=zC hf
 obtain ⟨y,hy,hf⟩:=zC hf
 refine ka E hx fun p G1 H1 x1 hp gp o=>?_
 refine kb (E.go x1) hy fun u G2 H2 x2 r2=>?_
 obtain ⟨xs,k,rfl,rfl,c,rfl⟩:=Lw hf
 obtain ⟨vs,ev,rv,_⟩:=o
 cases (show u=.int k from r2)
 have x12:=x1.trans x2
 refine ⟨p,k,vs,rfl,rfl,x2.h _ _ ev,by omega,by omega,by rw [rv.length,sizeLine_eq]; exact c.2.2,fun p' hp'=>?_⟩
 refine q p' _ _ (x12.trans (zK.layO x12.gh hp')) (x12.h.free hp') (x12.gh.free hp') ⟨_,yK,Reps.rep (rv.mono x2.g) _,?_⟩
 rw [sizeLine_eq,JE,Nat.mul_comm]; exact c.2.2
end
end L3
namespace L3
open PySem PySem.Spec PyProof.Rows L2
section
variable {X:Cx} {js:List Nat} {e c:Expr} {f:FE} {ft:FT} {g g':FS} {sts sa:List Stmt} {pos xp apos cpos:Pos} {x:Str}
end
noncomputable def DV (τ:zf):Bool:=τ.all fun s=>match s with
 | some (true,_)=>false
 | _=>true
section
variable {X:Cx} {js:List Nat} {e0 e1:Expr} {f0 f1:FE} {fm fr:FS} {mid zc:List Stmt} {p1 p2 p3 xp cp sp apos cpos pos:Pos} {x:Str} {kd:Nat}
end
end L3
namespace L2
open PySem PySem.Spec PyProof PyProof.Rows
section
variable {X:Cx}
theorem CO:zt X (compareOp .IsNot) (fun x y H Q=>∃ a b,x=.bl a/\y=.bl b/\Q (.bl (!(a == b))) H):=by
 intro pins s σ H x y v u Q I rx ry h
 obtain ⟨a,b,rfl,rfl,q⟩:=h
 cases rx
 cases ry
 refine PySem.wpAny_isNot_plain (by cases a<;>cases b<;>rfl) ⟨.bl (!(a == b)),H,I,?_,q⟩
 cases a<;>cases b<;>rfl
end
end L2
namespace L3
open PySem PySem.Spec PyProof.Rows L2
section
variable {X:Cx} {K:PySem.W.Frag}
noncomputable def XD:D->D->Option D
 | .bl a,.bl b=>some (.bl (!(a == b)))
 | _,_=>none
theorem Fu:wu K (fun x y H Q=>∃ a b,x=.bl a/\y=.bl b/\Q (.bl (!(a == b))) H) XD:=fun H x y u v d Q rx ry hf=>by
 unfold XD at hf
 split at hf
 ·rename_i a b
  cases hf
  exact ⟨_,rfl,fun q=>⟨a,b,rx,ry,q⟩⟩
 ·cases hf
end
noncomputable def gr:List D->Option (List Bool)
 | []=>some []
 | .bl b::r=>(gr r).bind fun bs=>some (b::bs)
 | _=>none
theorem Tz:∀ {ds:List D} {bs:List Bool},gr ds=some bs->ds=bs.map D.bl
 | [],_,h=>by cases h; rfl
 | d::ds,bs,h=>by
  unfold gr at h
  split at h
  ·rename_i e; cases e
  ·rename_i b r e
   cases e
   obtain ⟨bs',h1,h⟩:=zC h
   cases h
   rw [Tz h1]
   rfl
  ·cases h
theorem IW {K:PySem.W.Frag} {G:Hp}:∀ {bs:List Bool} {vs:List V},Reps K G (bs.map D.bl) vs->vs=bs.map V.bl
 | [],_,r=>r
 | b::bs,_,r=>by
  obtain ⟨v,r',rfl,hv,hr⟩:=r
  rw [IW hr,show v=V.bl b from hv]
  rfl
noncomputable def VB:List D->Option D
 | [.lst xs]=>(gr xs).bind fun bs=>some (.bl (bs.all id))
 | _=>none
theorem Dn {K:PySem.W.Frag}:tI K (II K) VB:=fun G H ds vs d Q s r hf q=>by
 match ds,hf with
 | [.lst xs],hf=>
  obtain ⟨bs,hb,hf⟩:=zC (show (gr xs).bind _=some d from hf)
  cases hf
  obtain ⟨v,rfl,a,us,rfl,sq,rs,l⟩:=uH r
  rw [Tz hb] at rs
  rw [IW rs] at sq
  exact ⟨a,bs,rfl,sq,q _ _ _ (zK.refl s) rfl⟩
end L3
namespace L2
open PySem PySem.Spec PyProof PyProof.Rows
noncomputable def memK (ks:List zI) (k:zI):Bool:=ks.any fun k'=>decide (k'=k)
section
variable {prog:Program} {w:World}
end
end L2
namespace L2
open PySem PySem.Spec PyProof PyProof.Rows
section
variable {X:Cx}
end
end L2
namespace L2
open PySem PySem.Spec PyProof PyProof.Rows
theorem CM {X:Cx}:zt X (compareOp .Is) (fun x y H Q=>∃ a b,x=.bl a/\y=.bl b/\Q (.bl (a == b)) H):=by
 intro pins s σ H x y v u Q I rx ry h
 obtain ⟨a,b,rfl,rfl,q⟩:=h
 cases rx
 cases ry
 refine PySem.wpAny_is_plain (by cases a<;>cases b<;>rfl) ⟨.bl (a == b),H,I,?_,q⟩
 cases a<;>cases b<;>rfl
end L2
namespace L3
open PySem PySem.Spec PyProof.Rows L2
noncomputable def XA:D->D->Option D
 | .bl a,.bl b=>some (.bl (a == b))
 | _,_=>none
section
variable {X:Cx} {K:PySem.W.Frag}
theorem FH:wu K (fun x y H Q=>∃ a b,x=.bl a/\y=.bl b/\Q (.bl (a == b)) H) XA:=fun H x y u v d Q rx ry hf=>by
 unfold XA at hf
 split at hf
 ·rename_i a b
  cases hf
  exact ⟨_,rfl,fun q=>⟨a,b,rx,ry,q⟩⟩
 ·cases hf
end
end L3
namespace L2
open PySem PySem.Spec PyProof PyProof.Rows
end L2
namespace L2
open PySem PySem.Spec PyProof PyProof.Rows
section
variable {prog:Program} {w:World} {K:Type} [DecidableEq K] {knd:KeyKind prog w K} {A:Around} {E:Value->Shared->Prop}
end
end L2
namespace L2
open PySem PySem.Spec PyProof PyProof.Rows
noncomputable def keyOf:Value->zI
 | .int i _=>.inl i
 | .str x _=>.inr x
 | _=>.inl 0
section
variable {prog:Program} {w:World}
end
end L2
namespace L2
open PySem PySem.Spec PyProof PyProof.Rows
section
variable {M:Model} {A:Around} {E:Value->Shared->Prop}
end
end L2
namespace L2
open PySem PySem.Spec PyProof PyProof.Rows
section
variable {prog:Program} {w:World} {A:Around} {E:Value->Shared->Prop}
end
end L2
namespace L2
open PySem PySem.Spec PyProof PyProof.Rows
section
variable {prog:Program} {w:World} {A:Around} {E:Value->Shared->Prop}
end
end L2
namespace L2
open PySem PySem.Spec PyProof PyProof.Rows
section
variable {prog:Program} {w:World} {A:Around} {E:Value->Shared->Prop}
end
section
variable {X:Cx}
end
end L2
namespace L3
open PySem PySem.Spec PyProof.Rows L2
end L3
namespace L2
open PySem PySem.Spec PyProof PyProof.Rows
section
variable {X:Cx} {tg:Expr}
end
end L2
namespace L3
open PySem PySem.Spec PyProof.Rows L2
end L3
namespace L2
open PySem PySem.Spec PyProof PyProof.Rows
theorem zb.of_get:∀ {xs:List V} {us:List Value},us.length=xs.length->(∀ (j:Nat) (x:V) (v:Value),xs[j]?=some x->us[j]?=some v->zX x v)->zb xs us
 | [],[],_,_=>.nil
 | [],_::_,h,_=>by cases h
 | _::_,[],h,_=>by cases h
 | x::xs,u::us,h,f=>.cons (f 0 x u rfl rfl) (zb.of_get (by simpa using h) fun j y v h1 h2=>f (j+1) y v (by simpa using h1) (by simpa using h2))
section
variable {X:Cx}
end
end L2
namespace L3
open PySem PySem.Spec PyProof.Rows L2
section
variable {X:Cx} {x y:Str} {xp yp pos apos cpos:Pos} {e:Expr} {f:FE}
end
end L3
namespace L3
open PySem PySem.Spec PyProof.Rows L2
structure Oa (K:PySem.W.Frag) (H0 G H:Hp) (p:Addr) (qs:List Addr) (nds:List (List D)):Prop where
 hp:H p=some (.lst (qs.map V.ref))
 p0:H0 p=none
 pg:G p=none
 np:p ∉ qs
 nd:qs.Nodup
 ln:nds.length=qs.length
 el:∀ (j:Nat) (q:Addr),qs[j]?=some q->∃ ds vs,nds[j]?=some ds/\H q=some (.lst vs)/\H0 q=none/\G q=none/\Reps K G ds vs/\ds.length<=sizeLine
structure T9 (K:PySem.W.Frag) (n:Nat) (G0 H0 G H:Hp) (τ:zf) (σ:St) (i:Nat) (nds:List (List D)):Prop where
 env:zh K n G0 H0 G H τ σ
 no:DV τ=true
 nst:∃ p qs,σ[i]?=some (some (.ref p))/\Oa K H0 G H p qs nds
inductive NF where
 | nx (nds:List (List D)) (τ:zf)
 | rt (d:D)
noncomputable abbrev WR:=List (List D)->zf->Option NF
noncomputable def OZ (K:PySem.W.Frag) (n:Nat) (G0 H0:Hp) (E:we) (i:Nat):NF->Prop
 | .nx nds τ=>∀ σ G H,T9 K n G0 H0 G H τ σ i nds->E.nx σ H
 | .rt d=>∀ v G H,zK G0 H0 G H->zP K G d v->E.rt v H
structure NS (X:Cx) (i:Nat) (st:Stmt) (f:WR):Prop where
 h:∃ t,PS X st t/\∀ {G0 H0 G H:Hp} {τ:zf} {σ:St} {nds:List (List D)} {fl:NF} {E:we},T9 X.K X.N.length G0 H0 G H τ σ i nds->f nds τ=some fl->OZ X.K X.N.length G0 H0 E i fl->t E σ H
section
variable {K:PySem.W.Frag} {n:Nat} {G0 H0 G H G' H':Hp} {τ:zf} {σ:St} {i:Nat} {nds:List (List D)} {p:Addr} {qs:List Addr}
end
section
variable {X:Cx} {i:Nat} {x:Str} {p pos pos' apos cpos xp sp:Pos} {e k v c tg iter:Expr} {f fk fv:FE} {ft:FT} {fs:FA} {st:Stmt} {sts body sa sb:List Stmt} {g g':WR} {fg:FG}
end
section
variable {X:Cx} {i:Nat} {x:Str} {pos pos' p spos:Pos} {e tg iter:Expr} {st:Stmt} {fi:zf->Option Nat} {fs:FA} {zc:List Stmt} {g:WR} {scope:Scope} {cl:List (Str×Addr)} {own:List Str} {tG:TG} {fg:FG}
end
end L3
namespace L3
open PySem PySem.Spec PyProof.Rows L2
section
variable {P:Program} {w:World} {K:PySem.W.Frag} {mg:Str->Option Value} {base:Heap}
end
section
variable {X:Cx} {e:Expr} {es:List Expr} {f:FE} {fs:FA} {x:Str} {p pos:Pos} {ps:List Str} {j k:Nat} {FF:List D->Option (Bool×D)}
end
end L3
namespace L2
open PySem PySem.Spec PyProof PyProof.Rows
section
variable {prog:Program} {w:World} {A:Around} {E:Value->Shared->Prop}
theorem LV {s:Shared} {a:Addr} {kvs:List (zI×Value)} {ep:Nat} {Q:List Value->Shared->Prop} (hh:A.handled=none) (lo:(a == sysModules)=false) (hm:s.heap.DictAt (yV prog w) a kvs ep) (hb:kvs.length<=sizeLine)
  (h:∀ h' tk vs,vs.length=kvs.length->(∀ (j:Nat) (v:Value),vs[j]?=some v->∃ k x,kvs[j]?=some (k,x)/\(yV prog w).is k v=true)->s.heap.objs.size<h'.objs.size->(∀ b ob,s.heap.get? b=some ob->h'.get? b=some ob)->Q vs { s with heap:=h',toks:=tk }):wpAny (model prog w) A (collect (.ref a)) Q E s:=by
 unfold collect
 refine wpAny_bind (wpAny_runValue (codeAny_builtin (entry_proto_collect') ?_))
 show wpAny _ _ (newList [] >>= fun l=>again (.builtin "list.__iadd__" ⟨[l,.ref a],[]⟩)) _ _ s
 refine wpAny_bind (wpAny_newList (wpAny_pure ⟨Code.quiet_builtin _ (by decide +kernel),codeAny_builtin (entry_list_iadd') ?_⟩))
 have hlt:a<s.heap.objs.size:=hm.lt_size
 have neS:s.heap.objs.size≠a:=yx (Nat.ne_of_gt hlt)
 rw [Around.under_plainId (by decide +kernel)]
 refine PySem.W.kdl_extend (R:=fun r s'=>match r with
  | .ok (.ret v)=>wpAny (model prog w) A (match v with
   | Value.ref a=>(do
    let o <- load a
    match o.data with
    | .seq xs _=>pure xs.toList
    | _=>unsupported "internal:collect")
   | _=>unsupported "internal:collect") Q E s'
  | .ok _=>False
  | .error e=>E e s') (s:={ s with heap:=s.heap.push (seqObj "list" #[] 0) }) (PySem.W.kdl_dict (knd:=yV prog w) (kvs:=kvs) (ep:=ep) lo) (by exact hh) (hm.push _) s.heap.objs.size neS neS (.ref s.heap.objs.size) 0 (Heap.get?_push_size _ rfl) (fun h' tk acc' c' hk hS' hacc=>?_) hb
 refine wpAny_bind (wpAny_load hS' ?_)
 show wpAny _ _ (pure acc'.toList) _ _ _
 refine wpAny_pure (h h' tk acc'.toList (by rw [Array.length_toList]; exact hacc.1) (fun j v e=>hacc.2 j v (by rw [<- Array.getElem?_toList]; exact e)) (Heap.lt_size hS') fun b ob e=>?_)
 exact hk b ob (yx (Nat.ne_of_lt (Heap.lt_size e))) (Heap.get?_push_of_some _ e)
theorem KR {s:Shared} {a:Addr} {kvs:List (zI×Value)} {ep:Nat} {ns:List Int} {Q:Value->Shared->Prop} (hh:A.handled=none) (lo:(a == sysModules)=false) (hm:s.heap.DictAt (yV prog w) a kvs ep) (hk:kvs.map (·.1)=ns.map Sum.inl) (h64:ns.length<64)
  (h:∀ h' tk p out c ns',s.heap.objs.size<=p->h'.get? p=some (seqObj "list" out c)->IntsAre out.toList ns'->ns'.Perm ns->ns'.Pairwise (·<=·)->(∀ b ob,s.heap.get? b=some ob->h'.get? b=some ob)->Q (.ref p) { s with heap:=h',toks:=tk }) :
  wpAny (model prog w) A (call (.builtin "sorted") [.ref a]) Q E s:=by
 have hl:kvs.length=ns.length:=by
  have:=congrArg List.length hk
  rwa [List.length_map,List.length_map] at this
 have hb:kvs.length<=sizeLine:=by rw [sizeLine_eq]; omega
 refine Calls.call_function_entry kind_sorted plain_sorted entry_sorted (args_sorted1 _) ?_
 unfold Builtin.«sorted»
 refine wpAny_bind (m:=checkCount "sorted" 1 1 _) (wpAny_pure (wpAny_bind (LV (by exact hh) lo hm hb fun h1 tk ord ol oe hle kp=>wpAny_bind (wpAny_newList ?_ (by rw [ol]; exact hb)))))
 have hI:IntsAre ord ns:=by
  have:∀ (vs:List Value) (kvs:List (zI×Value)) (ns:List Int),vs.length=kvs.length->kvs.map (·.1)=ns.map Sum.inl->(∀ (j:Nat) (v:Value),vs[j]?=some v->∃ k x,kvs[j]?=some (k,x)/\(yV prog w).is k v=true)->IntsAre vs ns:=by
   intro vs
   induction vs with
   | nil=>
    intro kvs ns h1 h2 _
    cases kvs with
    | nil=>
     cases ns with
     | nil=>exact .nil
     | cons n ns=>cases h2
    | cons _ _=>cases h1
   | cons v vs ih=>
    intro kvs ns h1 h2 h3
    cases kvs with
    | nil=>cases h1
    | cons kx kvs=>
     cases ns with
     | nil=>cases h2
     | cons n ns=>
      obtain ⟨k,x,e,z⟩:=h3 0 v rfl
      cases e
      have e0:k=Sum.inl n:=(List.cons.inj h2).1
      subst e0
      obtain ⟨t,rfl⟩:=Value.isInt_shape (k:=n) (v:=v) z
      exact .cons _ _ (ih kvs ns (by simpa using h1) (List.cons.inj h2).2 fun j u hu=>by simpa using h3 (j+1) u (by simpa using hu))
  exact this ord kvs ns ol hk oe
 have l64:ord.length<64:=by omega
 have g1:(h1.push (seqObj "list" ord.toArray 0)).get? h1.objs.size=some (seqObj "list" ord.toArray 0):=Heap.get?_push_size _ rfl
 refine wpAny_bind (wpAny_holding (wpAny_call_entry slot_list_sort ⟨_,g1,rfl⟩ entry_list_sort (list_sort_tree g1 hI l64 fun out ns' a1 a2 a3=>⟨_,rfl,?_⟩) (args_list_sort _)))
 obtain ⟨c,hc⟩:=sortedHeap_at (vs:=ord) (out:=out) g1
 refine wpAny_pure ⟨_,rfl,h _ tk h1.objs.size out c ns' (Nat.le_of_lt hle) hc a1 a2 a3 fun b ob e=>?_⟩
 have hbl:=Heap.lt_size (kp b ob e)
 rw [sortedHeap_old (yx (Nat.ne_of_lt hbl)) (by rw [size_push']; exact Nat.lt_succ_of_lt hbl)]
 exact Heap.get?_push_of_some _ (kp b ob e)
end
section
variable {X:Cx}
theorem J8:∀ {kvs:List (zI×V)} {vs:List (zI×Value)},KV kvs vs->vs.map (·.1)=kvs.map (·.1)
 | _,_,.nil=>rfl
 | _,_,.cons r t=>by rw [List.map_cons,List.map_cons,J8 t,r.1]
noncomputable def Ex:List V->Hp->VK->Prop:=fun xs H Q=>∃ (a:Addr) (kvs:List (zI×V)) (ns:List Int),xs=[.ref a]/\Rd H a (.dK kvs)/\kvs.map (·.1)=ns.map Sum.inl/\ns.length<64/\∀ l,H l=none->Q (.ref l) (zQ H l (.lst ((isort ns).map V.int)))
theorem LR (hcalm:X.calm=true):xC X (.builtin "sorted") Ex:=by
 intro pins s σ H xs us Q I r h
 obtain ⟨a,kvs,ns,rfl,ea,hk,h64,q⟩:=h
 obtain ⟨u,rfl,ru⟩:=wq r
 cases (show u=Value.ref a from ru)
 obtain ⟨_,lo,vs,rel,o,es,ep,ho,hx,hd,k1,k2,k3⟩:=v_ I.hok ea
 have hm:s.heap.DictAt (yV X.prog X.w) a vs ep:=⟨o,es,ho,hx,hd,k1,k2,k3⟩
 refine KR (I.ok.hd hcalm) lo hm ((J8 rel).trans hk) h64 fun h' tk p out c ns' hp hc a1 a2 a3 kp=>?_
 have e:ns'=isort ns:=Ud (a2.trans (isort_perm ns).symm) a3 (VU ns)
 subst e
 have hl2:(isort ns).length=ns.length:=(isort_perm ns).length_eq
 refine ⟨.ref p,_,I.laid (t':=tk) (h':=h') kp hp (show yc X.prog X.w _ _ _ (.lst ((isort ns).map V.int)) from ⟨?_,out.toList,c,VT a1,?_⟩),rfl,q _ (I.hok.fresh hp)⟩
 ·rw [List.length_map,hl2]
  show _<=sizeLine
  rw [sizeLine_eq]
  omega
 ·rw [Array.toArray_toList]
  exact hc
end
end L2
namespace L3
open PySem PySem.Spec PyProof.Rows L2
noncomputable def jt:List (Sum Int Str)->Option (List Int)
 | []=>some []
 | .inl i::r=>(jt r).bind fun ns=>some (i::ns)
 | .inr _::_=>none
theorem J6:∀ {ks:List (Sum Int Str)} {ns:List Int},jt ks=some ns->ks=ns.map Sum.inl
 | [],_,h=>by cases h; rfl
 | .inl i::r,_,h=>by
  obtain ⟨ns,h1,h⟩:=zC h
  cases h
  rw [J6 h1]
  rfl
 | .inr _::_,_,h=>by cases h
noncomputable def VI:List D->Option D
 | [.dic ks _]=>(jt ks).bind fun ns=>if ns.length<64 then some (.lst ((isort ns).map D.int)) else none
 | _=>none
theorem KL {X:Cx} {e:Expr} {fs:FA} {p pos:Pos} (hcalm:X.calm=true) (hg:Gl X "sorted") (hm:X.mg "sorted" = none) (ha:SA X [e] fs) (hs:yT e=true:=by rfl) :
  SF X (.Call (.Name "sorted" p) [e] [] pos) (eL VI fs):=by
 obtain ⟨t,pt,k⟩:=ha.h
 refine ⟨⟨_,(Xl (p:=p) (pos:=pos) (LR hcalm) hg hm Q4 ⟨pt⟩ (by decide) (by decide) (by rw [List.all_cons,hs]; rfl)).h,fun {G0 H0 G H τ σ d Q} E hf q=>?_⟩⟩
 obtain ⟨ds,hd,hf⟩:=zC hf
 refine k E hd fun vs G1 H1 x1 r1=>?_
 match ds,hf with
 | [.dic ks xs],hf=>
  obtain ⟨ns,hn,hf⟩:=zC hf
  by_cases c:ns.length<64
  ·rw [if_pos c] at hf
   cases hf
   obtain ⟨v,rfl,a,us,rfl,sq,hl,rs,l⟩:=uH r1
   refine ⟨a,ks.zip us,ns,rfl,Rd.mono x1.gh sq,?_,c,fun p' hp'=>?_⟩
   ·rw [<- J6 hn]
    exact List.map_fst_zip (by omega)
   ·refine q p' _ _ (x1.trans (zK.layO x1.gh hp')) (x1.h.free hp') (x1.gh.free hp') ⟨_,yK,Reps.ints,?_⟩
    rw [List.length_map,(isort_perm ns).length_eq,sizeLine_eq]
    show _<=16777216
    omega
  ·rw [if_neg c] at hf
   cases hf
end L3
namespace L2
open PySem PySem.Spec PyProof PyProof.Rows
section
variable {X:Cx} {x:Str} {e:Expr} {es:List Expr} {t:TA} {p pos:Pos} {i j:Nat}
end
end L2
namespace L3
open PySem PySem.Spec PyProof.Rows L2
section
variable {X:Cx} {x y o gn:Str} {e:Expr} {es:List Expr} {fs:FA} {p p2 pos pos' xp gp op apos cpos:Pos} {i io iy j:Nat} {body zc:List Stmt} {t:TS} {g:FS}
end
section
variable {X:Cx} {x y o gn:Str} {e:Expr} {es:List Expr} {fs:FA} {p p2 pos pos' xp xp2 gp op apos cpos:Pos} {i io iy j:Nat} {zc:List Stmt} {g:FS} {a:Addr} {names:List Str} {Fs:List (List D->Option (Bool×D))} {gs:List FS}
end
end L3
namespace L3
open PySem PySem.Spec PyProof.Rows L2
section
variable {α:Type} {P:List α->Prop}
theorem Nj (h:P []):∀ us:List α,us.length=0->P us
 | [],_=>h
theorem Y7 {n:Nat} (h:∀ a (r:List α),r.length=n->P (a::r)):∀ us:List α,us.length=n+1->P us
 | a::r,e=>h a r (Nat.succ.inj e)
theorem xP (h:∀ a,P [a]):∀ us:List α,us.length=1->P us:=Y7 fun a=>Nj (P:=fun r=>P (a::r)) (h a)
theorem yz (h:∀ a b,P [a,b]):∀ us:List α,us.length=2->P us:=Y7 fun a=>xP (P:=fun r=>P (a::r)) (h a)
theorem t7 (h:∀ a b c,P [a,b,c]):∀ us:List α,us.length=3->P us:=Y7 fun a=>yz (P:=fun r=>P (a::r)) (h a)
theorem Y6 (h:∀ a b c d,P [a,b,c,d]):∀ us:List α,us.length=4->P us:=Y7 fun a=>t7 (P:=fun r=>P (a::r)) (h a)
theorem Nk (h:∀ a b c d e,P [a,b,c,d,e]):∀ us:List α,us.length=5->P us:=Y7 fun a=>Y6 (P:=fun r=>P (a::r)) (h a)
end
noncomputable abbrev zp (x:Str) (st:Stmt) (oc:Value) (od:Option Addr) (sl:Array (Option Value)) (kV dc pm:Value) (an:Option Addr) (cd ct:Value):Option Obj:=some ⟨oc,od,.func (PySem.W.fnOf x x (yl st) (yM st) (zM st) .none kV dc pm an cd ct),sl⟩
end L3
namespace L3
open PySem PySem.Spec PyProof.Rows L2
section
variable {P:Program} {w:World} {K:PySem.W.Frag} {mg:Str->Option Value} {base:Heap}
end
section
variable {X:Cx} {tg iter elt:Expr} {scope:Scope} {cl:List (Str×Addr)} {own:List Str} {pos p1:Pos} {fs:FA} {fg:FG} {f:FE} {tG:TG} {st:Stmt} {sts:List Stmt} {g:FS} {b:FSN}
end
end L3
namespace L3
open PySem PySem.Spec PyProof PyProof.Rows L2
section
variable {X:Cx} {i m:Nat} {x:Str} {es:List Expr} {p pos pos' spos:Pos}
end
section
variable {X:Cx} {K:PySem.W.Frag}
end
end L3
namespace L3
open PySem PySem.Spec PyProof PyProof.Rows L2
end L3
namespace L2
open PySem PySem.Spec PyProof PyProof.Rows
theorem BN {k:zI} {v:Value} (h:qZ k v=true):zX (kV k) v:=by
 rcases uw h with ⟨i,t,rfl,rfl⟩ | ⟨x,t,rfl,rfl⟩
 ·exact ⟨t,rfl⟩
 ·exact ⟨t,rfl⟩
theorem VX:∀ {kvs:List (zI×V)} {vs:List (zI×Value)},KV kvs vs->vs.length=kvs.length
 | _,_,.nil=>rfl
 | _,_,.cons _ t=>by rw [List.length_cons,List.length_cons,VX t]
end L2
namespace L3
open PySem PySem.Spec PyProof PyProof.Rows L2
noncomputable def keyOf:zI->D
 | .inl i=>.int i
 | .inr x=>.str x
noncomputable def qf:zI->Bool
 | .inl _=>true
 | .inr x=>decide (x.length<=yP)
theorem BO {K:PySem.W.Frag} {G:Hp} {k:zI} (h:qf k=true):zP K G (keyOf k) (kV k):=by
 cases k with
 | inl i=>rfl
 | inr x=>exact ⟨rfl,by rw [sizeLine_eq]; exact of_decide_eq_true h⟩
end L3
namespace L2
open PySem PySem.Spec PyProof PyProof.Rows
section
variable {X:Cx} {A:Addr} {ks:List zI} {us:List V} {x:Str} {p apos cpos:Pos}
end
end L2
namespace L3
open PySem PySem.Spec PyProof PyProof.Rows L2
end L3
namespace L2
open PySem PySem.Spec PyProof PyProof.Rows
section
variable {X:Cx} {x n:Str} {p pos np hpos tpos:Pos} {e e1 e2:Expr} {es:List Expr} {ta:TA} {te:TE} {tx:TX} {ps:List Str} {j k i:Nat} {sp:Sp} {E:XK} {D:Addr} {suite:List Stmt} {ts:TS} {b₀:Stmt}
end
end L2
namespace L3
open PySem PySem.Spec PyProof PyProof.Rows L2
section
variable {X:Cx} {E:XK} {x:Str} {C:Addr} {st:Stmt} {sts zc:List Stmt} {g:FS} {f:FSX} {ft:FT} {fa:FA} {c e:Expr} {es:List Expr} {np cpos pos ipos:Pos}
end
section
variable {P:Program} {w:World} {K:PySem.W.Frag} {mg:Str->Option Value} {base:Heap}
end
section
variable {X:Cx} {iy i j k kb:Nat} {y n x z f g pn:Str} {C D:Addr} {ps:List Str} {F:FX} {B:Str->Option Bool} {fa:FA} {fc:FE} {c e:Expr} {es:List Expr} {yp fp cp ap np gp mp gc bp rp hpos tpos:Pos}
end
end L3
namespace L2
open PySem PySem.Spec PyProof PyProof.Rows
section
variable {prog:Program} {w:World} {A:Around} {E:Value->Shared->Prop} {s:Shared}
end
end L2
namespace L3
open PySem PySem.Spec PyProof PyProof.Rows L2
end L3
namespace L2
open PySem PySem.Spec PyProof PyProof.Rows
section
variable {X:Cx} {pins:List (Addr×Obj)} {σ:St} {H:Hp} {s:Shared} {a:Addr} {o:Obj} {kvs:List (zI×V)}
end
end L2
namespace L2
open PySem PySem.Spec PyProof PyProof.Rows
theorem J9:∀ {kvs:List (zI×V)} {vs:List (zI×Value)} {i:Nat} {k:zI} {x:Value},KV kvs vs->vs[i]?=some (k,x)->∃ u,kvs[i]?=some (k,u)/\zX u x
 | _,_,_,_,_,.nil,e=>by cases e
 | _,_,0,_,_,.cons r t,e=>by
  cases e
  obtain ⟨r1,r2⟩:=r
  exact ⟨_,congrArg some (Prod.ext r1 rfl),r2⟩
 | _,_,i+1,_,_,.cons _ t,e=>J9 (i:=i) t (by simpa using e)
end L2
namespace L3
open PySem PySem.Spec PyProof PyProof.Rows L2
section
variable {K:PySem.W.Frag} {a:Addr} {o:Obj} {kvs:List (zI×V)} {G G' H H' G0 H0:Hp}
end
end L3
namespace L2
open PySem PySem.Spec PyProof PyProof.Rows
end L2
namespace L3
open PySem PySem.Spec PyProof PyProof.Rows L2
section
variable {X:Cx} {i:Nat} {tg iter elt:Expr} {ifs:List Expr} {scope:Scope} {cl:List (Str×Addr)} {own:List Str} {pos:Pos} {fs:FA} {fg:FG} {ft:FT} {f:FE} {g:TG}
end
end L3
namespace L2
open PySem PySem.Spec PyProof PyProof.Rows
end L2
namespace L3
open PySem PySem.Spec PyProof PyProof.Rows L2
end L3
namespace L2
open PySem PySem.Spec PyProof PyProof.Rows
section
variable {prog:Program} {w:World} {K:Type} [DecidableEq K] {knd:KeyKind prog w K} {A:Around} {E:Value->Shared->Prop} {s:Shared}
end
end L2
namespace L3
open PySem PySem.Spec PyProof PyProof.Rows L2
end L3
namespace L2
open PySem PySem.Spec PyProof PyProof.Rows
section
variable {prog:Program} {w:World} {A:Around} {R:Result->Shared->Prop} {I:Addr} {fp wr:List Addr} {n:Nat} {P:Nat->Value->Prop} {St:Nat->Heap->Prop} {kw:List (Str×Value)}
end
section
variable {prog:Program} {w:World} {A:Around} {E:Value->Shared->Prop} {s:Shared}
end
section
variable {X:Cx}
end
end L2
namespace L3
open PySem PySem.Spec PyProof PyProof.Rows L2
noncomputable def kH:List D->Option (List Int)
 | []=>some []
 | .int i::r=>(kH r).bind fun is=>some (i::is)
 | _::_=>none
theorem Qx {K:PySem.W.Frag} {G:Hp}:∀ {xs:List D} {ns:List Int} {vs:List V},kH xs=some ns->Reps K G xs vs->vs=ns.map V.int
 | [],ns,vs,h,r=>by
  cases h
  exact (show vs=[] from r)
 | .int i::xs,ns,vs,h,r=>by
  obtain ⟨is,h1,h⟩:=zC (show (kH xs).bind _=_ from h)
  cases h
  obtain ⟨v,r',rfl,hv,hr⟩:=r
  cases (show v=.int i from hv)
  rw [Qx h1 hr]
  rfl
 | .non::_,_,_,h,_=>by cases h
 | .bl _::_,_,_,h,_=>by cases h
 | .str _::_,_,_,h,_=>by cases h
 | .tup _::_,_,_,h,_=>by cases h
 | .lst _::_,_,_,h,_=>by cases h
 | .dic _ _::_,_,_,h,_=>by cases h
 | .exc _::_,_,_,h,_=>by cases h
 | .obj _ _ _::_,_,_,h,_=>by cases h
noncomputable def VE:List D->Option D
 | [.dic ks _]=>some (.int ks.length)
 | _=>none
theorem LL {X:Cx}:xC X (.builtin "len") (fun xs H Q=>∃ a kvs,xs=[V.ref a]/\Rd H a (.dK kvs)/\Q (.int kvs.length) H):=by
 intro pins s σ H xs us Q I r h
 obtain ⟨a,kvs,rfl,ha,q⟩:=h
 obtain ⟨u,rfl,ru⟩:=wq r
 cases ru
 exact Ld I ha fun t s' I'=>⟨.int kvs.length,H,I',⟨t,rfl⟩,q⟩
theorem Fn {K:PySem.W.Frag}:tI K (fun xs H Q=>∃ a kvs,xs=[V.ref a]/\Rd H a (.dK kvs)/\Q (.int kvs.length) H) VE:=fun G H ds vs d Q s r hf q=>by
 match ds,hf with
 | [.dic ks xs],hf=>
  cases hf
  obtain ⟨v,r',rfl,hv,hr⟩:=r
  cases (show r'=[] from hr)
  obtain ⟨a,vs,rfl,sq,hl,rs,_⟩:=hv
  refine ⟨a,_,rfl,sq,?_⟩
  rw [List.length_zip,<- hl,Nat.min_self]
  exact q _ _ _ (zK.refl s) rfl
end L3
namespace L3
open PySem PySem.Spec PyProof PyProof.Rows L2
section
variable {X:Cx} {j k kk i:Nat} {f x n z g:Str} {C D':Addr} {ps:List Str} {F:FX} {FF:List D->Option (Bool×D)} {fa:FA} {fc:FE} {fx:FEX} {gs:FS} {c e b:Expr} {es:List Expr} {b₀:Stmt} {suite sts:List Stmt} {fp cp np p p1 pos rp hpos tpos:Pos}
end
section
variable {P:Program} {w:World} {K:PySem.W.Frag} {mg:Str->Option Value} {base:Heap}
end
end L3
namespace L2
open PySem PySem.Spec PyProof PyProof.Rows
section
variable {X:Cx}
noncomputable def Et:List V->Hp->VK->Prop:=fun xs H Q=>∃ (a:Addr) (kvs:List (zI×V)),xs=[.ref a]/\Rd H a (.dK kvs)/\kvs.length<=1000/\∀ p,H p=none->Q (.ref p) (zQ H p (.lst (kvs.map fun kv=>kV kv.1)))
theorem LO (hcalm:X.calm=true):xC X (.type "list") Et:=by
 intro pins s σ H xs us Q I r h
 obtain ⟨a,kvs,rfl,ea,hn,q⟩:=h
 obtain ⟨u,rfl,ru⟩:=wq r
 cases (show u=Value.ref a from ru)
 obtain ⟨_,lo,vs,rel,o,es,ep,ho,hx,hd,k1,k2,k3⟩:=v_ I.hok ea
 have hm:s.heap.DictAt (yV X.prog X.w) a vs ep:=⟨o,es,ho,hx,hd,k1,k2,k3⟩
 have ln:=VX rel
 have hb:vs.length<=sizeLine:=by rw [ln,sizeLine_eq]; exact Nat.le_trans hn (by decide)
 refine PySem.W.kdl_call (PySem.W.kdl_dict (knd:=yV X.prog X.w) (kvs:=vs) (ep:=ep) lo) (I.ok.hd hcalm) hm hb fun h' tk acc' c' kp hS hacc=>?_
 obtain ⟨hsz,hat⟩:=hacc
 have rv:zb (kvs.map fun kv=>kV kv.1) acc'.toList:=by
  refine zb.of_get (by rw [List.length_map,Array.length_toList,hsz,ln]) fun j x v h1 h2=>?_
  obtain ⟨k,y,e,hk⟩:=hat j v (by rw [<- Array.getElem?_toList]; exact h2)
  obtain ⟨w,e2,_⟩:=J9 rel e
  rw [List.getElem?_map,e2] at h1
  cases h1
  exact BN hk
 refine ⟨.ref s.heap.objs.size,_,I.laid (a:=s.heap.objs.size) (o:=.lst (kvs.map fun kv=>kV kv.1)) (t':=tk) kp (Nat.le_refl _) ⟨?_,acc'.toList,c',rv,?_⟩,rfl,q _ I.fresh⟩
 ·rw [List.length_map,sizeLine_eq]
  exact Nat.le_trans hn (by decide)
 ·rw [hS]
end
end L2
namespace L3
open PySem PySem.Spec PyProof PyProof.Rows L2
noncomputable def VF:List D->Option D
 | [.dic ks _]=>if ks.length<=1000/\ks.all qf=true then some (.lst (ks.map keyOf)) else none
 | _=>none
theorem IX {K:PySem.W.Frag} {G:Hp}:∀ {ks:List zI},ks.all qf=true->Reps K G (ks.map keyOf) (ks.map kV)
 | [],_=>rfl
 | k::ks,h=>by
  rw [List.all_cons,Bool.and_eq_true] at h
  exact ⟨kV k,_,rfl,BO h.1,IX h.2⟩
theorem KJ {X:Cx} {e:Expr} {fs:FA} {p pos:Pos} (hcalm:X.calm=true) (hg:Gl X "list") (hm:X.mg "list" = none) (ha:SA X [e] fs) (hs:yT e=true:=by rfl) :
  SF X (.Call (.Name "list" p) [e] [] pos) (eL VF fs):=by
 obtain ⟨t,pt,k⟩:=ha.h
 refine ⟨⟨_,(gJ (p:=p) (pos:=pos) (LO hcalm) hg hm Yv ⟨pt⟩ (by decide) (by decide) (by rw [List.all_cons,hs]; rfl)).h,fun {G0 H0 G H τ σ d Q} E hf q=>?_⟩⟩
 obtain ⟨ds,hd,hf⟩:=zC hf
 refine k E hd fun vs G1 H1 x1 r1=>?_
 match ds,hf with
 | [.dic ks xs],hf=>
  by_cases c:ks.length<=1000/\ks.all qf=true
  ·change (if ks.length<=1000/\ks.all qf=true then some (D.lst (ks.map keyOf)) else none)=some d at hf
   rw [if_pos c] at hf
   cases hf
   obtain ⟨v,rfl,a,us,rfl,sq,hl,rs,l⟩:=uH r1
   have z:(ks.zip us).map (fun kv=>kV kv.1)=ks.map kV:=by
    have:(ks.zip us).map Prod.fst=ks:=List.map_fst_zip (by omega)
    rw [<- congrArg (List.map kV) this,List.map_map]
    rfl
   refine ⟨a,ks.zip us,rfl,Rd.mono x1.gh sq,by rw [List.length_zip]; omega,fun p' hp'=>?_⟩
   rw [z]
   refine q p' _ _ (x1.trans (zK.layO x1.gh hp')) (x1.h.free hp') (x1.gh.free hp') ⟨_,yK,IX c.2,?_⟩
   rw [List.length_map,sizeLine_eq]
   exact Nat.le_trans c.1 (by decide)
  ·change (if ks.length<=1000/\ks.all qf=true then some (D.lst (ks.map keyOf)) else none)=some d at hf
   rw [if_neg c] at hf
   cases hf
end L3
namespace L2
open PySem PySem.Spec PyProof PyProof.Rows
open Builtin Builtin.Str
section
variable {X:Cx}
variable {a o:Expr} {ta to:TE} {i:Int} {ck ck1 ck2:Nat} {cp pos apos cpos p1 p2:Pos} {y z:Str}
end
end L2
namespace L3
open PySem PySem.Spec PyProof PyProof.Rows L2
section
variable {X:Cx} {o e a:Expr} {fo f fa:FE} {apos cpos p1 p2 cp pos:Pos} {nm:Str} {id:String} {rm:V->List V->Hp->VK->Prop} {F:D->D->Option D} {ck ck1 ck2:Nat} {i:Int} {y z:Str}
end
end L3
namespace L2
open PySem PySem.Spec PyProof PyProof.Rows
end L2
namespace L3
open PySem PySem.Spec PyProof PyProof.Rows L2
end L3
namespace L2
open PySem PySem.Spec PyProof PyProof.Rows
section
variable {X:Cx} {x n:Str} {p pos np hpos tpos:Pos} {e e1 e2:Expr} {es:List Expr} {ta:TA} {te:TE} {tx:TX} {ps:List Str} {j k i:Nat} {sp:Sp} {E:XK} {D:Addr} {suite:List Stmt} {ts:TS} {b₀:Stmt}
end
end L2
namespace L3
open PySem PySem.Spec PyProof PyProof.Rows L2
section
variable {X:Cx} {j i iy:Nat} {x n z y:Str} {C D':Addr} {fx:FEX} {gs:FS} {e:Expr} {b₀:Stmt} {suite:List Stmt} {np pos yp hpos tpos:Pos}
end
end L3
namespace L3
open PySem PySem.Spec PyProof.Rows L2
inductive M where
 | fz (d:D) | own (d:D) | obj (x:Str) (fs:List Str) (ms:List M) | tab (ks:List (Sum Int Str)) (ms:List M)
mutual
noncomputable def xO:M->D
 | .fz d=>d
 | .own d=>d
 | .obj x fs ms=>.obj x fs (thaws ms)
 | .tab ks ms=>.dic ks (thaws ms)
noncomputable def thaws:List M->List D
 | []=>[]
 | m::ms=>xO m::thaws ms
end
noncomputable def getA {κ α:Type} [DecidableEq κ]:List κ->List α->κ->Option α
 | k'::ks,v::vs,k=>if k'=k then some v else getA ks vs k
 | _,_,_=>none
noncomputable def xt {κ α:Type} [DecidableEq κ]:List κ->List α->κ->α->List α
 | k'::ks,v::vs,k,y=>if k'=k then y::vs else v::xt ks vs k y
 | _,vs,_,_=>vs
inductive yR where
 | at (cs:List Str) (f:Str) | ky (k:Sum Int Str)
noncomputable def O4:M->yR->Option M
 | .obj x fs ms,.at cs f=>if x∈cs then getA fs ms f else none
 | .tab ks ms,.ky k=>getA ks ms k
 | _,_=>none
noncomputable def KD:M->yR->M->M
 | .obj x fs ms,.at _ f,m=>.obj x fs (xt fs ms f m)
 | .tab ks ms,.ky k,m=>.tab ks (xt ks ms k m)
 | m,_,_=>m
noncomputable def vI:M->List yR->Option M
 | m,[]=>some m
 | m,s::π=>(O4 m s).bind fun m1=>vI m1 π
noncomputable def vE:M->List yR->M->Option M
 | _,[],m'=>some m'
 | m,s::π,m'=>(O4 m s).bind fun m1=>(vE m1 π m').bind fun m2=>some (KD m s m2)
noncomputable abbrev Ft:=Addr->Prop
mutual
noncomputable def yE (K:PySem.W.Frag) (G H:Hp):M->V->Ft->Prop
 | .fz d,v,L=>zP K G d v/\∀ q,¬ L q
 | .own d,v,L=>∃ p,v=.ref p/\xc K G H d p/\∀ q,L q↔q=p
 | .obj x fs ms,v,L=>∃ p C dx vs L',v=.ref p/\PySem.W.nsIn K mainGlobals x=some (some (.ref C))/\H p=some (.ins C dx (fs.zip vs))/\fs.length=vs.length/\OwnMs K G H ms vs L'/\¬ L' p/\∀ q,L q↔q=p\/L' q
 | .tab ks ms,v,L=>∃ p vs L',v=.ref p/\H p=some (.dK (ks.zip vs))/\ks.length=vs.length/\OwnMs K G H ms vs L'/\ms.length<=sizeLine/\¬ L' p/\∀ q,L q↔q=p\/L' q
noncomputable def OwnMs (K:PySem.W.Frag) (G H:Hp):List M->List V->Ft->Prop
 | [],vs,L=>vs=[]/\∀ q,¬ L q
 | m::ms,vs,L=>∃ v r L1 L2,vs=v::r/\yE K G H m v L1/\OwnMs K G H ms r L2/\(∀ q,L1 q->L2 q->False)/\∀ q,L q↔L1 q\/L2 q
end
theorem M.ind {P:M->Prop} (fz:∀ d,P (.fz d)) (own:∀ d,P (.own d)) (obj:∀ x fs ms,(∀ m∈ms,P m)->P (.obj x fs ms)) (tab:∀ ks ms,(∀ m∈ms,P m)->P (.tab ks ms)) (m:M):P m:=
 M.rec (motive_1:=P) (motive_2:=fun ms=>∀ m∈ms,P m) fz own (fun x fs ms h=>obj x fs ms h) (fun ks ms h=>tab ks ms h) (fun _ h=>absurd h (by simp))
  (fun d ds hd hds e he=>by
   rcases List.mem_cons.mp he with z | z
   ·exact z ▸ hd
   ·exact hds e z) m
noncomputable def Q2:HO->Bool
 | .lst _=>true
 | .dK _=>true
 | .ins _ _ _=>true
 | _=>false
noncomputable def Bx (H:Hp) (q:Addr):Prop:=∃ u,H q=some u/\Q2 u=true
theorem Bx.some {H:Hp} {q:Addr} (b:Bx H q):H q≠none:=by
 obtain ⟨u,e,_⟩:=b
 rw [e]
 exact fun z=>nomatch z
section
variable {K:PySem.W.Frag} {G H G' H':Hp}
theorem xc.loc {d:D} {p:Addr} (g:zW G G') (h:H' p=H p) (o:xc K G H d p):xc K G' H' d p:=by
 cases d with
 | lst ds=>obtain ⟨vs,e,r,l⟩:=o; exact ⟨vs,h.trans e,r.mono g,l⟩
 | dic ks ds=>obtain ⟨vs,e,z,r,l⟩:=o; exact ⟨vs,h.trans e,z,r.mono g,l⟩
 | _=>exact o.elim
theorem OwnMs.imp:∀ {ms:List M} {vs:List V} {L:Ft},(∀ m∈ms,∀ v L1,(∀ q,L1 q->L q)->yE K G H m v L1->yE K G' H' m v L1)->OwnMs K G H ms vs L->OwnMs K G' H' ms vs L
 | [],_,_,_,h=>h
 | m::ms,vs,L,f,h=>by
  obtain ⟨v,r,L1,L2,e,hv,hr,dj,u⟩:=h
  exact ⟨v,r,L1,L2,e,f m List.mem_cons_self v L1 (fun q z=>(u q).mpr (.inl z)) hv,OwnMs.imp (fun m' h' v' L' s o=>f m' (List.mem_cons_of_mem _ h') v' L' (fun q z=>(u q).mpr (.inr (s q z))) o) hr,dj,u⟩
theorem yE.loc (g:zW G G') (m:M):∀ (v:V) (L:Ft),(∀ q,L q->H' q=H q)->yE K G H m v L->yE K G' H' m v L:=by
 refine M.ind (P:=fun m=>∀ v L,(∀ q,L q->H' q=H q)->yE K G H m v L->yE K G' H' m v L) ?_ ?_ ?_ ?_ m
 ·rintro d v L h ⟨r,n⟩
  exact ⟨r.mono g,n⟩
 ·rintro d v L h ⟨p,e,o,u⟩
  exact ⟨p,e,o.loc g (h p ((u p).mpr rfl)),u⟩
 ·rintro x fs ms ih v L h ⟨p,C,dx,vs,L',e,ns,hp,l,r,n,u⟩
  exact ⟨p,C,dx,vs,L',e,ns,(h p ((u p).mpr (.inl rfl))).trans hp,l,OwnMs.imp (fun m hm v' L1 s o=>ih m hm v' L1 (fun q z=>h q ((u q).mpr (.inr (s q z)))) o) r,n,u⟩
 ·rintro ks ms ih v L h ⟨p,vs,L',e,hp,l,r,l2,n,u⟩
  exact ⟨p,vs,L',e,(h p ((u p).mpr (.inl rfl))).trans hp,l,OwnMs.imp (fun m hm v' L1 s o=>ih m hm v' L1 (fun q z=>h q ((u q).mpr (.inr (s q z)))) o) r,l2,n,u⟩
theorem OwnMs.length:∀ {ms:List M} {vs:List V} {L:Ft},OwnMs K G H ms vs L->vs.length=ms.length
 | [],_,_,h=>by obtain ⟨rfl,_⟩:=h; rfl
 | m::ms,_,_,h=>by
  obtain ⟨v,r,L1,L2,rfl,_,hr,_⟩:=h
  rw [List.length_cons,List.length_cons,OwnMs.length hr]
theorem xc.bx {d:D} {p:Addr} (o:xc K G H d p):Bx H p:=by
 cases d with
 | lst ds=>obtain ⟨vs,e,_⟩:=o; exact ⟨_,e,rfl⟩
 | dic ks ds=>obtain ⟨vs,e,_⟩:=o; exact ⟨_,e,rfl⟩
 | _=>exact o.elim
theorem OwnMs.cells:∀ {ms:List M} {vs:List V} {L:Ft},(∀ m∈ms,∀ v L1,yE K G H m v L1->∀ q,L1 q->Bx H q)->OwnMs K G H ms vs L->∀ q,L q->Bx H q
 | [],_,_,_,h,q,z=>absurd z (h.2 q)
 | m::ms,vs,L,f,h,q,z=>by
  obtain ⟨v,r,L1,L2,e,hv,hr,dj,u⟩:=h
  rcases (u q).mp z with z | z
  ·exact f m List.mem_cons_self v L1 hv q z
  ·exact OwnMs.cells (fun m' h'=>f m' (List.mem_cons_of_mem _ h')) hr q z
theorem yE.cells (m:M):∀ (v:V) (L:Ft),yE K G H m v L->∀ q,L q->Bx H q:=by
 refine M.ind (P:=fun m=>∀ v L,yE K G H m v L->∀ q,L q->Bx H q) ?_ ?_ ?_ ?_ m
 ·rintro d v L ⟨r,n⟩ q z
  exact absurd z (n q)
 ·rintro d v L ⟨p,e,o,u⟩ q z
  cases (u q).mp z
  exact o.bx
 ·rintro x fs ms ih v L ⟨p,C,dx,vs,L',e,ns,hp,l,r,n,u⟩ q z
  rcases (u q).mp z with rfl | z
  ·exact ⟨_,hp,rfl⟩
  ·exact OwnMs.cells ih r q z
 ·rintro ks ms ih v L ⟨p,vs,L',e,hp,l,r,l2,n,u⟩ q z
  rcases (u q).mp z with rfl | z
  ·exact ⟨_,hp,rfl⟩
  ·exact OwnMs.cells ih r q z
theorem OD:∀ (ms:List M),(thaws ms).length=ms.length
 | []=>rfl
 | m::ms=>by
  show (thaws ms).length+1=_
  rw [OD ms]
  rfl
theorem OwnMs.thw:∀ {ms:List M} {vs:List V} {L:Ft},(∀ m∈ms,∀ v L1,(∀ q,L1 q->L q)->yE K G H m v L1->zP K G' (xO m) v)->OwnMs K G H ms vs L->Reps K G' (thaws ms) vs
 | [],_,_,_,h=>h.1
 | m::ms,vs,L,f,h=>by
  obtain ⟨v,r,L1,L2,e,hv,hr,dj,u⟩:=h
  exact ⟨v,r,e,f m List.mem_cons_self v L1 (fun q z=>(u q).mpr (.inl z)) hv,OwnMs.thw (fun m' h' v' L' s o=>f m' (List.mem_cons_of_mem _ h') v' L' (fun q z=>(u q).mpr (.inr (s q z))) o) hr⟩
theorem yE.thw (g:zW G G') (m:M):∀ (v:V) (L:Ft),(∀ q,L q->G' q=H q)->yE K G H m v L->zP K G' (xO m) v:=by
 refine M.ind (P:=fun m=>∀ v L,(∀ q,L q->G' q=H q)->yE K G H m v L->zP K G' (xO m) v) ?_ ?_ ?_ ?_ m
 ·rintro d v L h ⟨r,n⟩
  exact r.mono g
 ·rintro d v L h ⟨p,rfl,o,u⟩
  have hp:=h p ((u p).mpr rfl)
  cases d with
  | lst ds=>obtain ⟨vs,e,r,l⟩:=o; exact ⟨p,vs,rfl,yB.of (hp.trans e),r.mono g,l⟩
  | dic ks ds=>obtain ⟨vs,e,z,r,l⟩:=o; exact ⟨p,vs,rfl,.inl (hp.trans e),z,r.mono g,l⟩
  | _=>exact o.elim
 ·rintro x fs ms ih v L h ⟨p,C,dx,vs,L',e,ns,hp,l,r,n,u⟩
  exact ⟨p,C,dx,vs,e,ns,(h p ((u p).mpr (.inl rfl))).trans hp,l,OwnMs.thw (fun m hm v' L1 s o=>ih m hm v' L1 (fun q z=>h q ((u q).mpr (.inr (s q z)))) o) r⟩
 ·rintro ks ms ih v L h ⟨p,vs,L',e,hp,l,r,l2,n,u⟩
  exact ⟨p,vs,e,.inl ((h p ((u p).mpr (.inl rfl))).trans hp),l,OwnMs.thw (fun m hm v' L1 s o=>ih m hm v' L1 (fun q z=>h q ((u q).mpr (.inr (s q z)))) o) r,by rw [OD]; exact l2⟩
theorem OwnMs.focus {κ:Type} [DecidableEq κ] {k:κ} {m1:M}:∀ {ks:List κ} {ms:List M} {vs:List V} {L:Ft},OwnMs K G H ms vs L->getA ks ms k=some m1->
  ∃ v1 L1,getA ks vs k=some v1/\yE K G H m1 v1 L1/\(∀ q,L1 q->L q)/\∀ {G' H':Hp} {m2:M} {L2:Ft},zW G G'->(∀ q,L q->¬ L1 q->H' q=H q)->yE K G' H' m2 v1 L2->(∀ q,L2 q->L q->L1 q)->OwnMs K G' H' (xt ks ms k m2) vs (fun q=>(L q/\¬ L1 q)\/L2 q)
 | [],_,_,_,_,e=>by cases e
 | _::_,[],_,_,_,e=>by cases e
 | k'::ks,m::ms,vs,L,h,e=>by
  obtain ⟨v,r,La,Lb,rfl,hv,hr,dj,u⟩:=h
  unfold getA at e
  by_cases c:k'=k
  ·rw [if_pos c] at e
   cases e
   refine ⟨v,La,by unfold getA; rw [if_pos c],hv,fun q z=>(u q).mpr (.inl z),fun {G' H' m2 L2} g hk o2 hd=>?_⟩
   unfold xt
   rw [if_pos c]
   refine ⟨v,r,L2,Lb,rfl,o2,?_,fun q z1 z2=>dj q (hd q z1 ((u q).mpr (.inr z2))) z2,fun q=>?_⟩
   ·exact OwnMs.imp (fun m' _ v' L' s o=>o.loc g m' v' L' fun q z=>hk q ((u q).mpr (.inr (s q z))) fun w=>dj q w (s q z)) hr
   ·constructor
    ·rintro (⟨z,w⟩ | z)
     ·rcases (u q).mp z with z | z
      ·exact absurd z w
      ·exact .inr z
     ·exact .inl z
    ·rintro (z | z)
     ·exact .inr z
     ·exact .inl ⟨(u q).mpr (.inr z),fun w=>dj q w z⟩
  ·rw [if_neg c] at e
   obtain ⟨v1,L1,e1,o1,s1,f⟩:=OwnMs.focus hr e
   refine ⟨v1,L1,by unfold getA; rw [if_neg c]; exact e1,o1,fun q z=>(u q).mpr (.inr (s1 q z)),fun {G' H' m2 L2} g hk o2 hd=>?_⟩
   unfold xt
   rw [if_neg c]
   refine ⟨v,r,La,fun q=>(Lb q/\¬ L1 q)\/L2 q,rfl,?_,f g (fun q z w=>hk q ((u q).mpr (.inr z)) w) o2 (fun q z w=>hd q z ((u q).mpr (.inr w))),fun q z1 z2=>?_,fun q=>?_⟩
   ·exact hv.loc g m v La fun q z=>hk q ((u q).mpr (.inl z)) fun w=>dj q z (s1 q w)
   ·rcases z2 with ⟨z2,_⟩ | z2
    ·exact dj q z1 z2
    ·exact dj q z1 (s1 q (hd q z2 ((u q).mpr (.inl z1))))
   ·constructor
    ·rintro (⟨z,w⟩ | z)
     ·rcases (u q).mp z with z | z
      ·exact .inl z
      ·exact .inr (.inl ⟨z,w⟩)
     ·exact .inr (.inr z)
    ·rintro (z | ⟨z,w⟩ | z)
     ·exact .inl ⟨(u q).mpr (.inl z),fun w=>dj q z (s1 q w)⟩
     ·exact .inl ⟨(u q).mpr (.inr z),w⟩
     ·exact .inr z
end
noncomputable def yr (K:PySem.W.Frag) (H:Hp):V->List yR->V->Prop
 | v,[],u=>u=v
 | v,.at cs f::π,u=>∃ p x C dx fs w,v=.ref p/\x∈cs/\PySem.W.nsIn K mainGlobals x=some (some (.ref C))/\H p=some (.ins C dx fs)/\fs.lookup f=some w/\yr K H w π u
 | v,.ky k::π,u=>∃ p kvs w,v=.ref p/\H p=some (.dK kvs)/\xz kvs k=some w/\yr K H w π u
theorem Xa {κ α:Type} [DecidableEq κ] [BEq κ] [LawfulBEq κ] {k:κ}:∀ {ks:List κ} {vs:List α},(ks.zip vs).lookup k=getA ks vs k
 | [],_=>rfl
 | _::_,[]=>rfl
 | k'::ks,v::vs=>by
  rw [List.zip_cons_cons,List.lookup_cons]
  unfold getA
  by_cases c:k'=k
  ·subst c
   rw [if_pos rfl]
   simp
  ·rw [if_neg c]
   have:(k == k')=false:=by simpa using fun z=>c z.symm
   rw [this]
   exact Xa
theorem VM {α:Type} {k:Sum Int Str}:∀ {ks:List (Sum Int Str)} {vs:List α},getA ks vs k=getK ks vs k
 | [],_=>by unfold getA getK; rfl
 | _::_,[]=>by unfold getA getK; rfl
 | k'::ks,v::vs=>by
  unfold getA getK
  by_cases c:k'=k
  ·rw [if_pos c,if_pos c]
  ·rw [if_neg c,if_neg c]
   exact VM
section
variable {K:PySem.W.Frag} {G H G' H':Hp}
theorem yr.mono (s:zW H H'):∀ {π:List yR} {v u:V},yr K H v π u->yr K H' v π u
 | [],_,_,h=>h
 | .at cs f::π,_,_,h=>by
  obtain ⟨p,x,C,dx,fs,w,e,hx,ns,hp,l,r⟩:=h
  exact ⟨p,x,C,dx,fs,w,e,hx,ns,s _ _ hp,l,yr.mono s r⟩
 | .ky k::π,_,_,h=>by
  obtain ⟨p,kvs,w,e,hp,l,r⟩:=h
  exact ⟨p,kvs,w,e,s _ _ hp,l,yr.mono s r⟩
theorem yr.one:∀ {π:List yR} {v u u':V},yr K H v π u->yr K H v π u'->u=u'
 | [],_,_,_,h,h'=>h.trans h'.symm
 | .at cs f::π,_,_,_,h,h'=>by
  obtain ⟨p,x,C,dx,fs,w,rfl,hx,ns,hp,l,r⟩:=h
  obtain ⟨p',x',C',dx',fs',w',e',hx',ns',hp',l',r'⟩:=h'
  cases e'
  rw [hp] at hp'
  cases hp'
  rw [l] at l'
  cases l'
  exact yr.one r r'
 | .ky k::π,_,_,_,h,h'=>by
  obtain ⟨p,kvs,w,rfl,hp,l,r⟩:=h
  obtain ⟨p',kvs',w',e',hp',l',r'⟩:=h'
  cases e'
  rw [hp] at hp'
  cases hp'
  rw [l] at l'
  cases l'
  exact yr.one r r'
theorem yr.snoc:∀ {π:List yR} {s:yR} {v u:V},yr K H v (π++[s]) u->∃ w,yr K H v π w/\yr K H w [s] u
 | [],_,v,_,h=>⟨v,rfl,h⟩
 | .at cs f::π,_,_,_,h=>by
  obtain ⟨p,x,C,dx,fs,w,e,hx,ns,hp,l,r⟩:=h
  obtain ⟨w',r1,r2⟩:=yr.snoc r
  exact ⟨w',⟨p,x,C,dx,fs,w,e,hx,ns,hp,l,r1⟩,r2⟩
 | .ky k::π,_,_,_,h=>by
  obtain ⟨p,kvs,w,e,hp,l,r⟩:=h
  obtain ⟨w',r1,r2⟩:=yr.snoc r
  exact ⟨w',⟨p,kvs,w,e,hp,l,r1⟩,r2⟩
theorem yE.focus {m1:M}:∀ {π:List yR} {m:M} {v:V} {L:Ft},yE K G H m v L->vI m π=some m1->
  ∃ v1 L1,yr K H v π v1/\yE K G H m1 v1 L1/\(∀ q,L1 q->L q)/\∀ {G' H':Hp} {m2:M} {L2:Ft},zW G G'->(∀ q,L q->¬ L1 q->H' q=H q)->yE K G' H' m2 v1 L2->(∀ q,L2 q->L q->L1 q)->
   ∃ m',vE m π m2=some m'/\yE K G' H' m' v (fun q=>(L q/\¬ L1 q)\/L2 q)
 | [],m,v,L,h,e=>by
  cases e
  refine ⟨v,L,rfl,h,fun _ z=>z,fun {G' H' m2 L2} g hk o2 hd=>⟨m2,rfl,?_⟩⟩
  have e:(fun q=>(L q/\¬ L q)\/L2 q)=L2:=by
   funext q
   exact propext ⟨fun z=>z.elim (fun w=>absurd w.1 w.2) id,.inr⟩
  rw [e]
  exact o2
 | s::π,m,v,L,h,e=>by
  obtain ⟨ma,ea,ee⟩:=zC e
  have fin:∀ {p:Addr} {L' L1 L2:Ft},¬ L' p->(∀ q,L q↔q=p\/L' q)->(∀ q,L1 q->L' q)->(∀ q,L2 q->L q->L1 q)->(¬ ((L' p/\¬ L1 p)\/L2 p))/\∀ q,((L q/\¬ L1 q)\/L2 q)↔q=p\/((L' q/\¬ L1 q)\/L2 q):=fun {p L' L1 L2} n u s hd=>by
   refine ⟨?_,fun q=>⟨?_,?_⟩⟩
   ·rintro (⟨z,_⟩ | z)
    ·exact n z
    ·exact n (s p (hd p z ((u p).mpr (.inl rfl))))
   ·rintro (⟨z,w⟩ | z)
    ·rcases (u q).mp z with z | z
     ·exact .inl z
     ·exact .inr (.inl ⟨z,w⟩)
    ·exact .inr (.inr z)
   ·rintro (rfl | ⟨z,w⟩ | z)
    ·exact .inl ⟨(u q).mpr (.inl rfl),fun w=>n (s q w)⟩
    ·exact .inl ⟨(u q).mpr (.inr z),w⟩
    ·exact .inr z
  cases m with
  | fz d=>cases ea
  | own d=>cases ea
  | obj x fs ms=>
   cases s with
   | ky k=>cases ea
   | «at» cs f=>
    change (if x∈cs then getA fs ms f else none)=some ma at ea
    by_cases hx:x∈cs
    ·rw [if_pos hx] at ea
     obtain ⟨p,C,dx,vs,L',rfl,ns,hp,l,r,n,u⟩:=h
     obtain ⟨va,La,e1,o1,s1,f1⟩:=OwnMs.focus r ea
     obtain ⟨v1,L1,a1,oo,s2,f2⟩:=yE.focus o1 ee
     refine ⟨v1,L1,⟨p,x,C,dx,_,va,rfl,hx,ns,hp,by rw [Xa]; exact e1,a1⟩,oo,fun q z=>(u q).mpr (.inr (s1 q (s2 q z))),fun {G' H' m2 L2} g hk o2 hd=>?_⟩
     obtain ⟨m',e',o'⟩:=f2 g (fun q z w=>hk q ((u q).mpr (.inr (s1 q z))) w) o2 (fun q z w=>hd q z ((u q).mpr (.inr (s1 q w))))
     have o3:=f1 g (fun q z w=>hk q ((u q).mpr (.inr z)) fun w'=>w (s2 q w')) o' (fun q z w=>by
      rcases z with ⟨z,_⟩ | z
      ·exact z
      ·exact s2 q (hd q z ((u q).mpr (.inr w))))
     have eL:(fun q=>(L' q/\¬ La q)\/((La q/\¬ L1 q)\/L2 q))=(fun q=>(L' q/\¬ L1 q)\/L2 q):=by
      funext q
      refine propext ⟨?_,?_⟩
      ·rintro (⟨z,w⟩ | ⟨z,w⟩ | z)
       ·exact .inl ⟨z,fun w'=>w (s2 q w')⟩
       ·exact .inl ⟨s1 q z,w⟩
       ·exact .inr z
      ·rintro (⟨z,w⟩ | z)
       ·by_cases c:La q
        ·exact .inr (.inl ⟨c,w⟩)
        ·exact .inl ⟨z,c⟩
       ·exact .inr (.inr z)
     rw [eL] at o3
     obtain ⟨f3,f4⟩:=fin n u (fun q z=>s1 q (s2 q z)) hd
     refine ⟨.obj x fs (xt fs ms f m'),by show (Option.bind (if x∈cs then getA fs ms f else none) _)=_; rw [if_pos hx,ea]; show Option.bind (vE ma π m2) _=_; rw [e']; rfl,p,C,dx,vs,_,rfl,ns,?_,l,o3,f3,f4⟩
     rw [hk p ((u p).mpr (.inl rfl)) fun w=>n (s1 p (s2 p w))]
     exact hp
    ·rw [if_neg hx] at ea
     cases ea
  | tab ks ms=>
   cases s with
   | «at» cs f=>cases ea
   | ky k=>
    change getA ks ms k=some ma at ea
    obtain ⟨p,vs,L',rfl,hp,l,r,l2,n,u⟩:=h
    obtain ⟨va,La,e1,o1,s1,f1⟩:=OwnMs.focus r ea
    obtain ⟨v1,L1,a1,oo,s2,f2⟩:=yE.focus o1 ee
    refine ⟨v1,L1,⟨p,_,va,rfl,hp,by rw [qx _ l,<- VM]; exact e1,a1⟩,oo,fun q z=>(u q).mpr (.inr (s1 q (s2 q z))),fun {G' H' m2 L2} g hk o2 hd=>?_⟩
    obtain ⟨m',e',o'⟩:=f2 g (fun q z w=>hk q ((u q).mpr (.inr (s1 q z))) w) o2 (fun q z w=>hd q z ((u q).mpr (.inr (s1 q w))))
    have o3:=f1 g (fun q z w=>hk q ((u q).mpr (.inr z)) fun w'=>w (s2 q w')) o' (fun q z w=>by
     rcases z with ⟨z,_⟩ | z
     ·exact z
     ·exact s2 q (hd q z ((u q).mpr (.inr w))))
    have eL:(fun q=>(L' q/\¬ La q)\/((La q/\¬ L1 q)\/L2 q))=(fun q=>(L' q/\¬ L1 q)\/L2 q):=by
     funext q
     refine propext ⟨?_,?_⟩
     ·rintro (⟨z,w⟩ | ⟨z,w⟩ | z)
      ·exact .inl ⟨z,fun w'=>w (s2 q w')⟩
      ·exact .inl ⟨s1 q z,w⟩
      ·exact .inr z
     ·rintro (⟨z,w⟩ | z)
      ·by_cases c:La q
       ·exact .inr (.inl ⟨c,w⟩)
       ·exact .inl ⟨z,c⟩
      ·exact .inr (.inr z)
    rw [eL] at o3
    obtain ⟨f3,f4⟩:=fin n u (fun q z=>s1 q (s2 q z)) hd
    refine ⟨.tab ks (xt ks ms k m'),by show (Option.bind (getA ks ms k) _)=_; rw [ea]; show Option.bind (vE ma π m2) _=_; rw [e']; rfl,p,vs,_,rfl,?_,l,o3,?_,f3,f4⟩
    ·rw [hk p ((u p).mpr (.inl rfl)) fun w=>n (s1 p (s2 p w))]
     exact hp
    ·have:∀ {ks:List (Sum Int Str)} {ms:List M},(xt ks ms k m').length=ms.length:=fun {ks}=>by
      induction ks with
      | nil=>intro ms; rfl
      | cons k' ks ih=>
       intro ms
       cases ms with
       | nil=>rfl
       | cons y ms=>
        unfold xt
        split
        ·rfl
        ·rw [List.length_cons,List.length_cons,ih]
     rw [this]
     exact l2
end
end L3
namespace L3
open PySem PySem.Spec PyProof.Rows L2
noncomputable abbrev zg:=List (Option M)
noncomputable def hide:M->Option Sl
 | .fz d=>some (false,d)
 | _=>none
noncomputable def uC (β:zg):zf:=β.map fun o=>o.bind hide
noncomputable def wp (β:zg):zf:=β.map fun o=>o.map fun m=>(false,xO m)
mutual
noncomputable def wM:D->Bool
 | .non=>true
 | .bl _=>true
 | .int _=>true
 | .str _=>true
 | .tup ds=>tplDs ds
 | _=>false
noncomputable def tplDs:List D->Bool
 | []=>true
 | d::ds=>wM d&&tplDs ds
end
noncomputable def Vy:D->Bool
 | .lst ds=>tplDs ds
 | .dic _ ds=>tplDs ds
 | _=>false
structure T6 (K:PySem.W.Frag) (H0 G H:Hp) (β:zg) (σ:St) (Ls:Nat->Ft):Prop where
 at_:∀ (i:Nat) (m:M),β[i]?=some (some m)->∃ v,σ[i]?=some (some v)/\yE K G H m v (Ls i)
 dj:∀ (i j:Nat) (q:Addr),i≠j->Ls i q->Ls j q->False
 ok:∀ (i:Nat) (q:Addr),Ls i q->G q=none/\H0 q=none/\Bx H q
structure zY (K:PySem.W.Frag) (n:Nat) (P:List V) (G0 H0 G H:Hp) (β:zg) (σ:St):Prop where
 ext:zK G0 H0 G H
 l1:σ.length=n
 l2:β.length=n
 lp:P.length<=n
 pin:∀ (i:Nat) (v:V),P[i]?=some v->σ[i]?=some (some v)
 own:∃ Ls,T6 K H0 G H β σ Ls
section
variable {K:PySem.W.Frag} {n:Nat} {P:List V} {G0 H0 G H G' H':Hp} {β:zg} {σ:St}
theorem Wq {q:Addr} (x:zK G H G' H') (g:G q=none) (b:Bx H q):G' q=none/\Bx H' q:=by
 obtain ⟨u,e,c⟩:=b
 refine ⟨?_,u,x.h _ _ e,c⟩
 cases z:G' q with
 | none=>rfl
 | some o=>
  rcases x.new q (by rw [z]; exact fun w=>nomatch w) with w | w
  ·exact absurd g w
  ·rw [e] at w; cases w
theorem zY.go (E:zY K n P G0 H0 G H β σ) (x:zK G H G' H'):zY K n P G0 H0 G' H' β σ:=by
 obtain ⟨Ls,F⟩:=E.own
 refine ⟨E.ext.trans x,E.l1,E.l2,E.lp,E.pin,Ls,fun i m h=>?_,F.dj,fun i q z=>?_⟩
 ·obtain ⟨v,e,o⟩:=F.at_ i m h
  refine ⟨v,e,o.loc x.g m v _ fun q z=>?_⟩
  obtain ⟨u,hu,_⟩:=(F.ok i q z).2.2
  rw [hu]
  exact x.h _ _ hu
 ·obtain ⟨a,b,c⟩:=F.ok i q z
  obtain ⟨a',c'⟩:=Wq x a c
  exact ⟨a',b,c'⟩
theorem M_ {i:Nat} {b:Bool} {d:D} (h:(uC β)[i]?=some (some (b,d))):b=false/\β[i]?=some (some (.fz d)):=by
 unfold uC at h
 rw [List.getElem?_map] at h
 cases e:β[i]? with
 | none=>rw [e] at h; cases h
 | some o=>
  rw [e] at h
  cases o with
  | none=>cases h
  | some m=>
   cases m with
   | fz d'=>cases h; exact ⟨rfl,rfl⟩
   | _=>cases h
theorem NK {i:Nat} {b:Bool} {d:D} (h:(wp β)[i]?=some (some (b,d))):b=false/\∃ m,β[i]?=some (some m)/\d=xO m:=by
 unfold wp at h
 rw [List.getElem?_map] at h
 cases e:β[i]? with
 | none=>rw [e] at h; cases h
 | some o=>
  rw [e] at h
  cases o with
  | none=>cases h
  | some m=>cases h; exact ⟨rfl,m,rfl,rfl⟩
theorem QW {τ:zf} (s:zW G H) (l1:σ.length=n) (l2:τ.length=n) (h:∀ (i:Nat) (b:Bool) (d:D),τ[i]?=some (some (b,d))->b=false/\∃ v,σ[i]?=some (some v)/\zP K G d v):zh K n G H G H τ σ:=
 ⟨zK.refl s,l1,l2,fun i d e=>(h i false d e).2,fun i d e=>(by cases (h i true d e).1),fun i j d e p _ h1=>(by cases (h i true d h1).1)⟩
theorem zY.hid (E:zY K n P G0 H0 G H β σ):zh K n G H G H (uC β) σ:=by
 obtain ⟨Ls,F⟩:=E.own
 refine QW E.ext.gh E.l1 (by unfold uC; rw [List.length_map]; exact E.l2) fun i b d h=>?_
 obtain ⟨rfl,hm⟩:=M_ h
 obtain ⟨v,e,r,_⟩:=F.at_ i _ hm
 exact ⟨rfl,v,e,r⟩
theorem LW {G1 G2:Hp} {L:Ft} (h1:∀ q,¬ L q->G2 q=G1 q) (hb:∀ q,L q->Bx G1 q) {a:Addr} {vs:List V} (h:yQ K G1 a vs):yQ K G2 a vs:=by
 have k:∀ {u:HO},Q2 u=false->G1 a=some u->G2 a=some u:=fun {u} hu e=>by
  rw [h1 a fun z=>?_]
  ·exact e
  ·obtain ⟨w,ew,cw⟩:=hb a z
   rw [e] at ew
   cases ew
   rw [hu] at cw
   cases cw
 rcases h with h | h
 ·rcases h with h | ⟨o,h⟩
  ·exact .inl (.inl (k rfl h))
  ·exact .inl (.inr ⟨o,k rfl h⟩)
 ·exact .inr h
theorem QD {G1 G2:Hp} {L:Ft} (h1:∀ q,¬ L q->G2 q=G1 q) (hb:∀ q,L q->Bx G1 q) (d:D):∀ (v:V),wM d=true->zP K G1 d v->zP K G2 d v:=by
 refine D.ind (P:=fun d=>∀ v,wM d=true->zP K G1 d v->zP K G2 d v) (fun v _ h=>h) (fun b v _ h=>h) (fun i v _ h=>h) (fun x v _ h=>h) ?_ (fun xs ih v t=>by cases t) (fun ks xs ih v t=>by cases t) (fun x v t=>by cases t) (fun x fs xs ih v t=>by cases t) d
 rintro xs ih v t ⟨a,vs,e,q,r,l⟩
 refine ⟨a,vs,e,LW h1 hb q,?_,l⟩
 have t':tplDs xs=true:=t
 clear t q l
 induction xs generalizing vs with
 | nil=>exact r
 | cons x xs ih2=>
  obtain ⟨u,r',rfl,hu,hr⟩:=r
  have t2:(wM x&&tplDs xs)=true:=t'
  rw [Bool.and_eq_true] at t2
  exact ⟨u,r',rfl,ih x List.mem_cons_self u t2.1 hu,ih2 (fun d hd=>ih d (List.mem_cons_of_mem _ hd)) r' hr t2.2⟩
theorem QF {G1 G2:Hp} {L:Ft} (h1:∀ q,¬ L q->G2 q=G1 q) (hb:∀ q,L q->Bx G1 q):∀ {ds:List D} {vs:List V},tplDs ds=true->Reps K G1 ds vs->Reps K G2 ds vs
 | [],_,_,r=>r
 | d::ds,_,t,r=>by
  obtain ⟨u,r',rfl,hu,hr⟩:=r
  have t2:(wM d&&tplDs ds)=true:=t
  rw [Bool.and_eq_true] at t2
  exact ⟨u,r',rfl,QD h1 hb d u t2.1 hu,QF h1 hb t2.2 hr⟩
theorem zY.thw (E:zY K n P G0 H0 G H β σ):∃ G1,zh K n G1 H G1 H (wp β) σ/\∀ G2 H2,zK G1 H G2 H2->∃ G3,zK G H G3 H2/\zY K n P G0 H0 G3 H2 β σ/\(∀ d v,wM d=true->zP K G2 d v->zP K G3 d v)/\(∀ ds vs,tplDs ds=true->Reps K G2 ds vs->Reps K G3 ds vs)/\∀ q,G2 q=none->G3 q=none:=by
 classical
 obtain ⟨Ls,F⟩:=E.own
 let L:Ft:=fun q=>∃ i,Ls i q
 have gG:∀ q,L q->G q=none:=fun q ⟨i,z⟩=>(F.ok i q z).1
 have bH:∀ q,L q->Bx H q:=fun q ⟨i,z⟩=>(F.ok i q z).2.2
 let G1:Hp:=fun q=>if L q then H q else G q
 have e1:∀ q,L q->G1 q=H q:=fun q z=>if_pos z
 have e2:∀ q,¬ L q->G1 q=G q:=fun q z=>if_neg z
 have s1:zW G G1:=fun q o e=>by
  rw [e2 q fun z=>by rw [gG q z] at e; cases e]
  exact e
 have s2:zW G1 H:=fun q o e=>by
  by_cases c:L q
  ·rw [e1 q c] at e; exact e
  ·rw [e2 q c] at e; exact E.ext.gh _ _ e
 refine ⟨G1,QW s2 E.l1 (by unfold wp; rw [List.length_map]; exact E.l2) fun i b d h=>?_,fun G2 H2 x=>?_⟩
 ·obtain ⟨rfl,m,hm,rfl⟩:=NK h
  obtain ⟨v,e,o⟩:=F.at_ i m hm
  exact ⟨rfl,v,e,o.thw s1 m v _ fun q z=>e1 q ⟨i,z⟩⟩
 ·let G3:Hp:=fun q=>if L q then none else G2 q
  have e3:∀ q,¬ L q->G3 q=G2 q:=fun q z=>if_neg z
  have e4:∀ q,L q->G3 q=none:=fun q z=>if_pos z
  have b2:∀ q,L q->Bx G2 q:=fun q z=>by
   obtain ⟨u,hu,c⟩:=bH q z
   exact ⟨u,x.g _ _ ((e1 q z).trans hu),c⟩
  have X3:zK G H G3 H2:=by
   refine ⟨fun q o e=>?_,x.h,fun q o e=>?_,fun q z=>?_⟩
   ·have c:¬ L q:=fun z=>by rw [gG q z] at e; cases e
    rw [e3 q c]
    exact x.g _ _ (s1 _ _ e)
   ·by_cases c:L q
    ·rw [e4 q c] at e; cases e
    ·rw [e3 q c] at e; exact x.gh _ _ e
   ·by_cases c:L q
    ·rw [e4 q c] at z; exact absurd rfl z
    ·rw [e3 q c] at z
     rcases x.new q z with w | w
     ·rw [e2 q c] at w; exact .inl w
     ·exact .inr w
  refine ⟨G3,X3,E.go X3,fun d v t r=>QD e3 b2 d v t r,fun ds vs t r=>QF e3 b2 t r,fun q z=>?_⟩
  by_cases c:L q
  ·exact e4 q c
  ·rw [e3 q c]; exact z
theorem gQ {α:Type} {xs:List α} {x y:α} {i:Nat} (h:(xs++[x])[i]?=some y):(i<xs.length/\xs[i]?=some y)\/(i=xs.length/\y=x):=by
 rcases Nat.lt_or_ge i xs.length with c | c
 ·rw [List.getElem?_append_left c] at h
  exact .inl ⟨c,h⟩
 ·rw [List.getElem?_append_right c] at h
  cases z:i - xs.length with
  | zero=>
   rw [z] at h
   cases h
   exact .inr ⟨by omega,rfl⟩
  | succ k=>rw [z] at h; cases h
theorem wn {α:Type} {xs:List α} {x:α} {n:Nat} (h:xs.length=n):(xs++[x])[n]?=some x:=by
 subst h
 rw [List.getElem?_append_right (Nat.le_refl _),Nat.sub_self]
 rfl
theorem xI {α:Type} {xs:List α} {x:α} {i:Nat} (h:i<xs.length):(xs++[x])[i]?=xs[i]?:=List.getElem?_append_left h
theorem zY.push {m:M} {v:V} {L:Ft} (E:zY K n P G0 H0 G H β σ) (o:yE K G H m v L) (hL:∀ Ls,T6 K H0 G H β σ Ls->∀ i q,Ls i q->L q->False) (ok:∀ q,L q->G q=none/\H0 q=none/\Bx H q):zY K (n+1) P G0 H0 G H (β++[some m]) (σ++[some v]):=by
 obtain ⟨Ls,F⟩:=E.own
 have hd:=hL Ls F
 refine ⟨E.ext,by rw [List.length_append,E.l1]; rfl,by rw [List.length_append,E.l2]; rfl,by have:=E.lp; omega,fun i u h=>?_,fun j=>if j<n then Ls j else if j=n then L else fun _=>False,fun i m' h=>?_,fun i j q ne z1 z2=>?_,fun i q z=>?_⟩
 ·have hi:i<σ.length:=by
   rw [E.l1]
   exact Nat.lt_of_lt_of_le (List.getElem?_eq_some_iff.mp h).1 E.lp
  rw [xI hi]
  exact E.pin i u h
 ·rcases gQ h with ⟨c,e⟩ | ⟨c,e⟩
  ·rw [E.l2] at c
   obtain ⟨u,eu,ou⟩:=F.at_ i m' e
   refine ⟨u,by rw [xI (by rw [E.l1]; exact c)]; exact eu,?_⟩
   simp only [if_pos c]
   exact ou
  ·cases e
   rw [E.l2] at c
   subst c
   refine ⟨v,wn E.l1,?_⟩
   simp only [Nat.lt_irrefl,if_false,if_true]
   exact o
 ·skip
  split at z1
  ·split at z2
   ·exact F.dj i j q ne z1 z2
   ·split at z2
    ·exact hd i q z1 z2
    ·exact z2
  ·split at z1
   ·split at z2
    ·exact hd j q z2 z1
    ·split at z2
     ·exact ne (by omega)
     ·exact z2
   ·exact z1
 ·skip
  split at z
  ·exact F.ok i q z
  ·split at z
   ·exact ok q z
   ·exact z.elim
theorem zY.pushF {d:D} {v:V} (E:zY K n P G0 H0 G H β σ) (r:zP K G d v):zY K (n+1) P G0 H0 G H (β++[some (.fz d)]) (σ++[some v]):=
 E.push (L:=fun _=>False) ⟨r,fun _ z=>z⟩ (fun _ _ _ _ _ z=>z) fun _ z=>z.elim
theorem zY.pushO {d:D} {p:Addr} (E:zY K n P G0 H0 G H β σ) (x:zK G H G' H') (hp:H p=none) (gp:G' p=none) (o:xc K G' H' d p):zY K (n+1) P G0 H0 G' H' (β++[some (.own d)]) (σ++[some (.ref p)]):=by
 obtain ⟨Ls,F⟩:=E.own
 have E':=E.go x
 refine ⟨?_,?_,?_,?_,?_,?_⟩<;>try first | exact E'.ext | exact (by rw [List.length_append,E.l1]; rfl) | exact (by rw [List.length_append,E.l2]; rfl)
 ·have:=E.lp; omega
 ·intro i u h
  have hi:i<σ.length:=by
   rw [E.l1]
   exact Nat.lt_of_lt_of_le (List.getElem?_eq_some_iff.mp h).1 E.lp
  rw [xI hi]
  exact E.pin i u h
 ·have hz:∀ i q,Ls i q->q≠p:=fun i q z c=>by
   subst c
   exact (F.ok i q z).2.2.some hp
  refine ⟨fun j=>if j<n then Ls j else if j=n then (fun q=>q=p) else fun _=>False,fun i m' h=>?_,fun i j q ne z1 z2=>?_,fun i q z=>?_⟩
  ·rcases gQ h with ⟨c,e⟩ | ⟨c,e⟩
   ·rw [E.l2] at c
    obtain ⟨u,eu,ou⟩:=F.at_ i m' e
    refine ⟨u,by rw [xI (by rw [E.l1]; exact c)]; exact eu,?_⟩
    simp only [if_pos c]
    refine ou.loc x.g m' u _ fun q z=>?_
    obtain ⟨w,hw,_⟩:=(F.ok i q z).2.2
    rw [hw]
    exact x.h _ _ hw
   ·cases e
    rw [E.l2] at c
    subst c
    refine ⟨_,wn E.l1,?_⟩
    simp only [Nat.lt_irrefl,if_false,if_true]
    exact ⟨p,rfl,o,fun q=>Iff.rfl⟩
  ·skip
   split at z1
   ·split at z2
    ·exact F.dj i j q ne z1 z2
    ·split at z2
     ·exact hz i q z1 z2
     ·exact z2
   ·split at z1
    ·split at z2
     ·exact hz j q z2 z1
     ·split at z2
      ·exact ne (by omega)
      ·exact z2
    ·exact z1
  ·skip
   split at z
   ·obtain ⟨a,b,c⟩:=F.ok i q z
    obtain ⟨a',c'⟩:=Wq x a c
    exact ⟨a',b,c'⟩
   ·split at z
    ·subst z
     exact ⟨gp,E.ext.h.free hp,o.bx⟩
    ·exact z.elim
theorem zY.setL {m:M} {v:V} {i:Nat} (hi:i<n) (hP:P.length<=i) (hl1:σ.length=n) (hl2:β.length=n) (E:zY K (n+1) P G0 H0 G H (β++[some m]) (σ++[some v])):zY K n P G0 H0 G H (β.set i (some m)) (σ.set i (some v)):=by
 obtain ⟨Ls,F⟩:=E.own
 refine ⟨E.ext,by rw [List.length_set]; exact hl1,by rw [List.length_set]; exact hl2,by omega,fun j u h=>?_,fun j=>if j=i then Ls n else if j<n then Ls j else fun _=>False,fun j m' h=>?_,fun j k q ne z1 z2=>?_,fun j q z=>?_⟩
 ·have hj:j<P.length:=(List.getElem?_eq_some_iff.mp h).1
  rw [vB (by omega)]
  have:=E.pin j u h
  rw [xI (by omega)] at this
  exact this
 ·rcases xY h with ⟨rfl,w⟩ | ⟨ne,w⟩
  ·cases w
   obtain ⟨u,eu,ou⟩:=F.at_ n m (wn hl2)
   rw [wn hl1] at eu
   cases eu
   simp only [if_true]
   exact ⟨v,qY (by omega),ou⟩
  ·have hj:j<n:=by rw [<- hl2]; exact (List.getElem?_eq_some_iff.mp w).1
   obtain ⟨u,eu,ou⟩:=F.at_ j m' (by rw [xI (by omega)]; exact w)
   rw [xI (by omega)] at eu
   simp only [if_neg ne,if_pos hj]
   exact ⟨u,by rw [vB ne]; exact eu,ou⟩
 ·skip
  split at z1
  ·split at z2
   ·exact ne (by omega)
   ·split at z2
    ·exact F.dj n k q (by omega) z1 z2
    ·exact z2
  ·split at z1
   ·split at z2
    ·exact F.dj j n q (by omega) z1 z2
    ·split at z2
     ·exact F.dj j k q ne z1 z2
     ·exact z2
   ·exact z1
 ·skip
  split at z
  ·exact F.ok n q z
  ·split at z
   ·exact F.ok j q z
   ·exact z.elim
theorem zY.pop {m:Option M} {v:Option V} (hl1:σ.length=n) (hl2:β.length=n) (hP:P.length<=n) (E:zY K (n+1) P G0 H0 G H (β++[m]) (σ++[v])):zY K n P G0 H0 G H β σ:=by
 obtain ⟨Ls,F⟩:=E.own
 refine ⟨E.ext,hl1,hl2,hP,fun j u h=>?_,Ls,fun j m' h=>?_,F.dj,F.ok⟩
 ·have hj:j<P.length:=(List.getElem?_eq_some_iff.mp h).1
  have:=E.pin j u h
  rw [xI (by omega)] at this
  exact this
 ·have hj:j<n:=by rw [<- hl2]; exact (List.getElem?_eq_some_iff.mp h).1
  obtain ⟨u,eu,ou⟩:=F.at_ j m' (by rw [xI (by omega)]; exact h)
  rw [xI (by omega)] at eu
  exact ⟨u,eu,ou⟩
end
end L3
namespace L3
open PySem PySem.Spec PyProof.Rows L2
inductive qM where
 | nx (β:zg) | rt (m:M) (β:zg) | bk (β:zg) | ct (β:zg)
noncomputable abbrev zu:=zg->Option qM
noncomputable abbrev yb:=zg->Option (M×zg)
noncomputable abbrev vX:=zg->Option (Bool×zg)
noncomputable def ja (K:PySem.W.Frag) (n:Nat) (P:List V) (G0 H0:Hp) (E:we):qM->Prop
 | .nx β=>∀ σ G H,zY K n P G0 H0 G H β σ->E.nx σ H
 | .bk β=>∀ σ G H,zY K n P G0 H0 G H β σ->E.bk σ H
 | .ct β=>∀ σ G H,zY K n P G0 H0 G H β σ->E.ct σ H
 | .rt m β=>∀ σ v G H,zY K (n+1) P G0 H0 G H (β++[some m]) (σ++[some v])->E.rt v H
section
variable (X:Cx)
structure MC (e:Expr) (f:yb):Prop where
 h:∃ t,PE X e t/\∀ {P:List V} {G0 H0 G H:Hp} {β β':zg} {σ:St} {m:M} {Q:VK},zY X.K X.N.length P G0 H0 G H β σ->f β=some (m,β')->(∀ v G' H',zW G G'->zY X.K (X.N.length+1) P G0 H0 G' H' (β'++[some m]) (σ++[some v])->Q v H')->t σ H Q
structure MT (e:Expr) (f:vX):Prop where
 h:∃ t,PT X e t/\∀ {P:List V} {G0 H0 G H:Hp} {β β':zg} {σ:St} {b:Bool} {Q:Bool->Hp->Prop},zY X.K X.N.length P G0 H0 G H β σ->f β=some (b,β')->(∀ G' H',zW G G'->zY X.K X.N.length P G0 H0 G' H' β' σ->Q b H')->t σ H Q
structure MW (e:Expr) (f:vX):Prop where
 h:∃ t,PW X e t/\∀ {P:List V} {G0 H0 G H:Hp} {β β':zg} {σ:St} {b:Bool} {Q:Bool->Hp->Prop},zY X.K X.N.length P G0 H0 G H β σ->f β=some (b,β')->(∀ G' H',zW G G'->zY X.K X.N.length P G0 H0 G' H' β' σ->Q b H')->t σ H Q
structure MS (np:Nat) (st:Stmt) (f:zu):Prop where
 h:∃ t,PS X st t/\∀ {P:List V} {G0 H0 G H:Hp} {β:zg} {σ:St} {fl:qM} {E:we},P.length=np->zY X.K X.N.length P G0 H0 G H β σ->f β=some fl->ja X.K X.N.length P G0 H0 E fl->t E σ H
structure tH (np:Nat) (st:List Stmt) (f:zu):Prop where
 h:∃ t,wV X st t/\∀ {P:List V} {G0 H0 G H:Hp} {β:zg} {σ:St} {fl:qM} {E:we},P.length=np->zY X.K X.N.length P G0 H0 G H β σ->f β=some fl->ja X.K X.N.length P G0 H0 E fl->t E σ H
end
section
variable {K:PySem.W.Frag} {n:Nat} {P:List V} {G0 H0 G H G' H':Hp} {β:zg} {σ:St} {m:M} {v:V} {d:D}
theorem zY.l1' {m:Option M} {v:Option V} (E:zY K (n+1) P G0 H0 G H (β++[m]) (σ++[v])):σ.length=n:=by
 have:=E.l1
 rw [List.length_append] at this
 exact Nat.succ.inj this
theorem zY.l2' {m:Option M} {v:Option V} (E:zY K (n+1) P G0 H0 G H (β++[m]) (σ++[v])):β.length=n:=by
 have:=E.l2
 rw [List.length_append] at this
 exact Nat.succ.inj this
theorem zY.lastR (E:zY K (n+1) P G0 H0 G H (β++[some (.fz d)]) (σ++[some v])):zP K G d v:=by
 obtain ⟨Ls,F⟩:=E.own
 obtain ⟨u,eu,r,_⟩:=F.at_ n _ (wn E.l2')
 rw [wn E.l1'] at eu
 cases eu
 exact r
theorem zY.setF {i:Nat} (E:zY K n P G0 H0 G H β σ) (hi:i<n) (hP:P.length<=i) (r:zP K G d v):zY K n P G0 H0 G H (β.set i (some (.fz d))) (σ.set i (some v)):=(E.pushF r).setL hi hP E.l1 E.l2
theorem zY.far (E:zY K n P G0 H0 G H β σ):zY K n P G H0 G H β σ:=⟨E.ext.far,E.l1,E.l2,E.lp,E.pin,E.own⟩
theorem zY.near {Ga Ha:Hp} (a:zK G0 H0 Ga Ha) (E:zY K n P Ga H0 G H β σ):zY K n P G0 H0 G H β σ:=⟨a.rebase E.ext,E.l1,E.l2,E.lp,E.pin,E.own⟩
theorem ja.near {Ga Ha:Hp} {E:we} {fl:qM} (x:zK G0 H0 Ga Ha) (h:ja K n P G0 H0 E fl):ja K n P Ga H0 E fl:=by
 cases fl with
 | nx τ=>exact fun σ G H z=>h σ G H (zY.near x z)
 | bk τ=>exact fun σ G H z=>h σ G H (zY.near x z)
 | ct τ=>exact fun σ G H z=>h σ G H (zY.near x z)
 | rt m β=>exact fun σ v G H z=>h σ v G H (zY.near x z)
end
noncomputable def yX (f:FE):yb:=fun β=>(f (uC β)).bind fun d=>some (.fz d,β)
noncomputable def wx (f:FE):yb:=fun β=>(f (wp β)).bind fun d=>match wM d with
 | true=>some (.fz d,β)
 | false=>none
noncomputable def qU (f:FE):yb:=fun β=>(f (uC β)).bind fun d=>some (.own d,β)
noncomputable def LD (f:FE):yb:=fun β=>(f (wp β)).bind fun d=>match Vy d with
 | true=>some (.own d,β)
 | false=>none
noncomputable def LC (f:yb):yb:=fun β=>(f β).bind fun r=>match r with
 | (.own d,β')=>some (.fz d,β')
 | r=>some r
noncomputable def ug (f:FT):vX:=fun β=>(f (wp β)).bind fun b=>some (b,β)
noncomputable def Nb (f:vX):vX:=fun β=>(f β).bind fun r=>some (!r.1,r.2)
noncomputable def Na (f g:vX):vX:=fun β=>(f β).bind fun r=>match r.1 with
 | true=>g r.2
 | false=>some (false,r.2)
noncomputable def Uq (f g:vX):vX:=fun β=>(f β).bind fun r=>match r.1 with
 | true=>some (true,r.2)
 | false=>g r.2
noncomputable def vZ:M->Option D
 | .fz d=>some d
 | _=>none
noncomputable def gu (F:D->D->Option D) (f g:yb):yb:=fun β=>(f β).bind fun r=>(vZ r.1).bind fun x=>(g r.2).bind fun r'=>(vZ r'.1).bind fun y=>(F x y).bind fun z=>some (.fz z,r'.2)
noncomputable def Ur (f:yb):vX:=fun β=>(f β).bind fun r=>(vZ r.1).bind fun x=>(tK x).bind fun b=>some (b,r.2)
noncomputable def Wr (f g:yb):yb:=fun β=>(f β).bind fun r=>(vZ r.1).bind fun x=>(tK x).bind fun b=>match b with
 | true=>g r.2
 | false=>some (.fz (.bl false),r.2)
theorem vy {m:M} {d:D} (h:vZ m=some d):m=.fz d:=by
 cases m with
 | fz d'=>cases h; rfl
 | _=>cases h
section
variable {X:Cx} {x:Str} {p pos:Pos} {e a b:Expr} {zc:List Expr} {f:FE} {ft:FT} {F:D->D->Option D} {r:R2} {g g':yb} {u u':vX}
theorem yh (h:SE X e f):MC X e (yX f):=by
 obtain ⟨t,p,k⟩:=h.h
 refine ⟨⟨t,p,fun E hf q=>?_⟩⟩
 obtain ⟨d,hd,hf⟩:=zC hf
 cases hf
 exact k E.hid hd fun v G' H' x r=>q v G' H' x.g ((E.go x).pushF r)
theorem vk (h:SE X e f):MC X e (wx f):=by
 obtain ⟨t,p,k⟩:=h.h
 refine ⟨⟨t,p,fun E hf q=>?_⟩⟩
 obtain ⟨d,hd,hf⟩:=zC hf
 cases c:wM d with
 | false=>rw [c] at hf; cases hf
 | true=>
  rw [c] at hf
  cases hf
  obtain ⟨G1,E1,back⟩:=E.thw
  refine k E1 hd fun v G' H' x r=>?_
  obtain ⟨G3,x3,E3,r3,_⟩:=back _ _ x
  exact q v G3 H' x3.g (E3.pushF (r3 d v c r))
theorem jy (h:SF X e f):MC X e (qU f):=by
 obtain ⟨t,p,k⟩:=h.h
 refine ⟨⟨t,p,fun E hf q=>?_⟩⟩
 obtain ⟨d,hd,hf⟩:=zC hf
 cases hf
 exact k E.hid hd fun p G' H' x hp gp o=>q _ G' H' x.g (E.pushO x hp gp o)
theorem tS (h:ST X e ft):MT X e (ug ft):=by
 obtain ⟨t,p,k⟩:=h.h
 refine ⟨⟨t,p,fun E hf q=>?_⟩⟩
 obtain ⟨b,hb,hf⟩:=zC hf
 cases hf
 obtain ⟨G1,E1,back⟩:=E.thw
 refine k E1 hb fun G' H' x=>?_
 obtain ⟨G3,x3,E3,_⟩:=back _ _ x
 exact q G3 H' x3.g E3
theorem DO (h:MT X a u):MW X (.BoolOp .Or [a] pos) u:=⟨let ⟨t,p,k⟩:=h.h; ⟨t,ID p,k⟩⟩
theorem DN (ha:MT X a u) (hb:MW X (.BoolOp .Or (b::zc) pos) u'):MW X (.BoolOp .Or (a::b::zc) pos) (Uq u u'):=by
 obtain ⟨ta,pa,ka⟩:=ha.h
 obtain ⟨tb,pb,kb⟩:=hb.h
 refine ⟨⟨_,IC pa pb,fun E hf q=>?_⟩⟩
 obtain ⟨⟨k,β1⟩,hk,hf⟩:=zC hf
 refine ka E hk fun G1 H1 s1 E1=>?_
 cases k with
 | false=>exact uu (kb E1 hf fun G' H' s2 E2=>q _ _ (s1.trans s2) E2)
 | true=>cases hf; exact uv (q _ _ s1 E1)
theorem DP (h:MW X e u):MT X e u:=⟨let ⟨t,p,k⟩:=h.h; ⟨t,p.pt,k⟩⟩
theorem zY.down {K:PySem.W.Frag} {n:Nat} {P:List V} {G0 H0 G H:Hp} {β:zg} {σ:St} {m:Option M} {v:Option V} (hP:P.length<=n) (E:zY K (n+1) P G0 H0 G H (β++[m]) (σ++[v])):zY K n P G0 H0 G H β σ:=E.pop E.l1' E.l2' hP
theorem Bv {op:CmpOp} (ho:zt X (compareOp op) r) (hF:wu X.K r F) (ha:MC X a g) (hb:MC X b g') (hm:behindInMarks op b=false):MC X (.Compare a [op] [b] pos) (gu F g g'):=by
 obtain ⟨ta,pa,ka⟩:=ha.h
 obtain ⟨tb,pb,kb⟩:=hb.h
 refine ⟨⟨_,Jf ho pa pb hm,fun E hf q=>?_⟩⟩
 obtain ⟨⟨m1,β1⟩,h1,hf⟩:=zC hf
 obtain ⟨d1,e1,hf⟩:=zC hf
 cases vy e1
 obtain ⟨⟨m2,β2⟩,h2,hf⟩:=zC hf
 obtain ⟨d2,e2,hf⟩:=zC hf
 cases vy e2
 obtain ⟨z,hz,hf⟩:=zC hf
 cases hf
 refine ka E h1 fun v1 G1 H1 s1 E1=>?_
 have r1:=E1.lastR
 refine kb (E1.down E.lp) h2 fun v2 G2 H2 s2 E2=>?_
 have r2:=E2.lastR
 have Ed:=E2.down E.lp
 obtain ⟨k,rfl,zz⟩:=hF H2 d1 d2 v1 v2 _ _ ((r1.mono s2).mono Ed.ext.gh) (r2.mono Ed.ext.gh) hz
 exact zz (q _ G2 _ (s1.trans s2) (Ed.pushF rfl))
theorem DM {op:CmpOp} (ho:zt X (compareOp op) r) (hF:wu X.K r F) (ha:MC X a g) (hb:MC X b g') (hm:behindInMarks op b=false):MT X (.Compare a [op] [b] pos) (Ur (gu F g g')):=by
 obtain ⟨ta,pa,ka⟩:=ha.h
 obtain ⟨tb,pb,kb⟩:=hb.h
 refine ⟨⟨_,UD ho pa pb hm,fun E hf q=>?_⟩⟩
 obtain ⟨⟨m3,β3⟩,h3,hf⟩:=zC hf
 obtain ⟨d3,e3,hf⟩:=zC hf
 cases vy e3
 obtain ⟨bb,hbb,hf⟩:=zC hf
 cases hf
 obtain ⟨⟨m1,β1⟩,h1,h3⟩:=zC h3
 obtain ⟨d1,e1,h3⟩:=zC h3
 cases vy e1
 obtain ⟨⟨m2,β2⟩,h2,h3⟩:=zC h3
 obtain ⟨d2,e2,h3⟩:=zC h3
 cases vy e2
 obtain ⟨z,hz,h3⟩:=zC h3
 cases h3
 refine ka E h1 fun v1 G1 H1 s1 E1=>?_
 have r1:=E1.lastR
 refine kb (E1.down E.lp) h2 fun v2 G2 H2 s2 E2=>?_
 have r2:=E2.lastR
 have Ed:=E2.down E.lp
 obtain ⟨k,rfl,zz⟩:=hF H2 d1 d2 v1 v2 _ _ ((r1.mono s2).mono Ed.ext.gh) (r2.mono Ed.ext.gh) hz
 cases hbb
 exact zz ⟨_,rfl,q G2 _ (s1.trans s2) Ed⟩
theorem Bz {op} (h:MC X a g):MC X (.BoolOp op [a] pos) g:=⟨let ⟨t,p,k⟩:=h.h; ⟨t,Jk p,k⟩⟩
theorem Bt (ha:MC X a g) (hb:MC X (.BoolOp .And (b::zc) pos) g'):MC X (.BoolOp .And (a::b::zc) pos) (Wr g g'):=by
 obtain ⟨ta,pa,ka⟩:=ha.h
 obtain ⟨tb,pb,kb⟩:=hb.h
 refine ⟨⟨_,Je pa pb,fun E hf q=>?_⟩⟩
 obtain ⟨⟨m1,β1⟩,h1,hf⟩:=zC hf
 obtain ⟨d1,e1,hf⟩:=zC hf
 cases vy e1
 obtain ⟨k,hk,hf⟩:=zC hf
 refine ka E h1 fun v1 G1 H1 s1 E1=>⟨k,Xo E1.lastR hk,?_⟩
 cases k with
 | true=>exact uv (kb (E1.down E.lp) hf fun v G' H' s2 E2=>q v _ _ (s1.trans s2) E2)
 | false=>
  cases hf
  exact uu (q _ _ _ s1 ((E1.down E.lp).pushF rfl))
end
noncomputable def tQ:zu:=fun β=>some (.nx β)
noncomputable def yI (a b:zu):zu:=fun β=>(a β).bind fun f=>match f with
 | .nx β'=>b β'
 | f=>some f
noncomputable def uY (c:vX) (a b:zu):zu:=fun β=>(c β).bind fun r=>match r.1 with
 | true=>a r.2
 | false=>b r.2
noncomputable def p_ (f:yb):zu:=fun β=>(f β).bind fun r=>some (.rt r.1 r.2)
noncomputable def vC (f:yb):zu:=fun β=>(f β).bind fun r=>some (.nx r.2)
noncomputable def wl (i:Nat) (f:yb):zu:=fun β=>(f β).bind fun r=>some (.nx (r.2.set i (some r.1)))
noncomputable abbrev MG:=D->zg->Option zg
noncomputable def XT (i:Nat):MG:=fun d β=>some (β.set i (some (.fz d)))
noncomputable def pz (i j:Nat):MG:=fun d β=>match d with
 | .tup [x,y]=>some ((β.set i (some (.fz x))).set j (some (.fz y)))
 | _=>none
noncomputable def ux (g:MG) (b:zu):List D->zg->Option qM
 | [],β=>some (.nx β)
 | d::r,β=>(g d β).bind fun β1=>(b β1).bind fun f=>match f with
  | .nx β2=>ux g b r β2
  | .ct β2=>ux g b r β2
  | .bk β2=>some (.nx β2)
  | .rt m β2=>some (.rt m β2)
noncomputable def kL (it:FA) (g:MG) (b:zu):zu:=fun β=>(it (uC β)).bind fun ds=>ux g b ds β
section
variable {X:Cx} {np:Nat} {x:Str} {p pos pos':Pos} {e c tg iter:Expr} {st:Stmt} {sts body:List Stmt} {f g:zu} {h:yb} {u:vX} {fs:FA}
theorem j0:tH X np [] tQ:=⟨⟨_,Jv,fun {P G0 H0 G H β σ fl E} _ K hf q=>by
 cases hf
 exact q σ G H K⟩⟩
theorem yO (h1:MS X np st f) (h2:tH X np sts g):tH X np (st::sts) (yI f g):=by
 obtain ⟨t,p,k⟩:=h1.h
 obtain ⟨t',p',k'⟩:=h2.h
 refine ⟨⟨_,Ju p p',fun {P G0 H0 G H β σ fl E} hP K hf q=>?_⟩⟩
 obtain ⟨f1,h1,hf⟩:=zC hf
 refine k hP K h1 ?_
 cases f1 with
 | nx τ'=>exact fun σ' G' H' K'=>k' hP K' hf q
 | bk τ'=>cases hf; exact q
 | ct τ'=>cases hf; exact q
 | rt o d=>cases hf; exact q
theorem yW (h1:MS X np st f):tH X np [st] f:=⟨let ⟨t,p,k⟩:=h1.h; ⟨t,Jw p,k⟩⟩
theorem tR {sa sb:List Stmt} (hc:MT X c u) (ha:tH X np sa f) (hb:tH X np sb g):MS X np (.If c sa sb pos) (uY u f g):=by
 obtain ⟨tc,pc,kc⟩:=hc.h
 obtain ⟨ta,pa,ka⟩:=ha.h
 obtain ⟨tb,pb,kb⟩:=hb.h
 refine ⟨⟨_,Jt pc pa pb,fun {P G0 H0 G H β σ fl E} hP K hf q=>?_⟩⟩
 obtain ⟨⟨k,β1⟩,hk,hf⟩:=zC hf
 refine kc K hk fun G1 H1 _ K1=>?_
 cases k with
 | true=>exact uv (ka hP K1 hf q)
 | false=>exact uu (kb hP K1 hf q)
theorem kQ (he:MC X e h):MS X np (.Return (some e) pos) (p_ h):=by
 obtain ⟨t,p,k⟩:=he.h
 refine ⟨⟨_,Xi p,fun {P G0 H0 G H β σ fl E} hP K hf q=>?_⟩⟩
 obtain ⟨⟨m,β1⟩,hk,hf⟩:=zC hf
 cases hf
 exact k K hk fun v G' H' _ K'=>q _ v _ _ K'
theorem uD (he:MC X e h) (hs:swapsWith e none pos.line X.env=pure false:=by rfl):MS X np (.Expr e pos) (vC h):=by
 obtain ⟨t,p,k⟩:=he.h
 refine ⟨⟨_,Jr p hs,fun {P G0 H0 G H β σ fl E} hP K hf q=>?_⟩⟩
 obtain ⟨⟨m,β1⟩,hk,hf⟩:=zC hf
 cases hf
 exact k K hk fun v G' H' _ K'=>q _ _ _ (K'.down K.lp)
theorem vS {i:Nat} {x:Str} {pos':Pos} (hN:X.N.Nodup) (hi:X.N[i]?=some x) (hx:uO X.env.scope x) (hn:np<=i) (he:MC X e h) (hs:j_ e=true:=by rfl) (hf:X.fn x=true\/X.env.scope.names.lookup x=some .local:=by first | exact .inl rfl | exact .inr rfl | assumption) :
  MS X np (.Assign [.Name x pos'] e pos) (wl i h):=by
 obtain ⟨t,p,k⟩:=he.h
 refine ⟨⟨_,(UJ hN hi hx ⟨p⟩ hs hf).h,fun {P G0 H0 G H β σ fl E} hP K hf q=>?_⟩⟩
 obtain ⟨⟨m,β1⟩,hk,hf⟩:=zC hf
 cases hf
 exact k K hk fun v G' H' _ K'=>q _ _ _ (K'.setL (List.getElem?_eq_some_iff.mp hi).1 (by omega) K'.l1' K'.l2')
structure YG (X:Cx) (np:Nat) (tg:Expr) (fg:MG):Prop where
 h:∃ t,PG X tg t/\∀ {P:List V} {G0 H0 G H:Hp} {β β':zg} {σ:St} {d:D} {v:V} {Q:St->Hp->Prop},P.length=np->zY X.K X.N.length P G0 H0 G H β σ->zP X.K G d v->fg d β=some β'->(∀ σ',zY X.K X.N.length P G0 H0 G H β' σ'->Q σ' H)->t v σ H Q
theorem DE {i:Nat} {x:Str} (h:QG X (.Name x pos) (wY i)) (hi:X.N[i]?=some x) (hn:np<=i):YG X np (.Name x pos) (XT i):=⟨⟨_,h.h,fun hP K r hf q=>by
 cases hf
 exact q _ (K.setF (List.getElem?_eq_some_iff.mp hi).1 (by omega) r)⟩⟩
theorem Vr {i j:Nat} {x y:Str} {p1 p2:Pos} {kk:Nat} (h:QG X (.Tuple [.Name x p1,.Name y p2] kk pos) (jp X.K 2 (ut (wY i) (ut (wY j) jo)))) (hi:X.N[i]?=some x) (hj:X.N[j]?=some y) (hn:np<=i) (hm:np<=j):YG X np (.Tuple [.Name x p1,.Name y p2] kk pos) (pz i j):=⟨⟨_,h.h,fun {P G0 H0 G H β β' σ d v Q} hP K r hf q=>by
 unfold pz at hf
 split at hf
 ·rename_i d1 d2
  cases hf
  obtain ⟨a,vs,rfl,sq,⟨v1,r1,rfl,h1,⟨v2,r2,rfl,h2,h3⟩⟩,_⟩:=r
  cases (show r2=[] from h3)
  refine ⟨a,_,rfl,wo K.ext.gh sq,rfl,v1,_,rfl,v2,_,rfl,rfl,?_⟩
  exact q _ ((K.setF (List.getElem?_eq_some_iff.mp hi).1 (by omega) h1).setF (List.getElem?_eq_some_iff.mp hj).1 (by omega) h2)
 ·cases hf⟩⟩
theorem Vu {fg:MG} (hp:PassesOwn (model X.prog X.w) X.A X.env X.xe) (hc:X.calm=true) (hi:SI X tg iter fs) (hg:YG X np tg fg) (hb:tH X np body g) (hs:∀ x,foldedSetIterable iter X.env x=pure x:=by intro _; rfl):MS X np (.For tg iter body [] pos) (kL fs fg g):=by
 obtain ⟨ti,pi,ki⟩:=hi.h
 obtain ⟨tg',pg,kg⟩:=hg.h
 obtain ⟨tb,pb,kb⟩:=hb.h
 refine ⟨⟨_,Js hp hc pi pg pb hs,fun {P G0 H0 G H τ σ fl E} hP K hf q=>?_⟩⟩
 obtain ⟨ds,hd,hf⟩:=zC hf
 refine ki K.hid hd fun J Ga Ha xa _ wk=>?_
 have Ka:=K.go xa
 have q':=ja.near Ka.ext q
 refine ⟨fun i m σ H=>m=ds.length - i/\i<=ds.length/\∃ τ G,zY X.K X.N.length P Ga H0 G H τ σ/\ux fg g (ds.drop i) τ=some fl,⟨ds.length,rfl,Nat.zero_le _,τ,Ga,Ka.far,hf⟩,?_⟩
 rintro i m σ H ⟨rfl,hle,τ,G,K,hf⟩
 by_cases hlt:i<ds.length
 ·refine .inr ⟨wk.go i G H K.ext.g K.ext.gh hlt,fun σ' H'=>∃ τ G,zY X.K X.N.length P Ga H0 G H' τ σ'/\ux fg g (ds.drop (i+1)) τ=some fl,fun σ' H' z=>⟨ds.length - (i+1),by omega,rfl,hlt,z⟩,fun x H' y=>?_⟩
  obtain ⟨G3,d,x3,ed,rd⟩:=wk.yld i G H x H' K.ext.g K.ext.gh hlt y
  rw [List.drop_eq_getElem_cons hlt] at hf
  rw [List.getElem?_eq_getElem hlt] at ed
  cases ed
  obtain ⟨τ1,h1,hf⟩:=zC (show (fg _ τ).bind _=_ from hf)
  obtain ⟨f1,h2,hf⟩:=zC hf
  refine kg hP (K.go x3) rd h1 fun σ1 K1=>kb hP K1 h2 ?_
  cases f1 with
  | nx τ2=>exact fun σ2 G2 H2 K2=>⟨τ2,G2,K2,hf⟩
  | ct τ2=>exact fun σ2 G2 H2 K2=>⟨τ2,G2,K2,hf⟩
  | bk τ2=>cases hf; exact q'
  | rt m β=>cases hf; exact q'
 ·have e:i=ds.length:=by omega
  subst e
  rw [List.drop_length] at hf
  cases hf
  exact .inl ⟨wk.stop _ G H K.ext.g K.ext.gh (Nat.le_refl _),q' _ _ _ K⟩
end
end L3
namespace L3
open PySem PySem.Spec PyProof.Rows L2
noncomputable def vm (β:zg) (i:Nat) (π:List yR):Option M:=match β[i]? with
 | some (some m)=>vI m π
 | _=>none
noncomputable def putAt (β:zg) (i:Nat) (π:List yR) (m2:M):Option zg:=match β[i]? with
 | some (some m)=>(vE m π m2).bind fun m'=>some (β.set i (some m'))
 | _=>none
theorem tT {β:zg} {i:Nat} {π:List yR} {nd:M} (h:vm β i π=some nd):∃ m,β[i]?=some (some m)/\vI m π=some nd:=by
 unfold vm at h
 split at h
 ·rename_i m e
  exact ⟨m,e,h⟩
 ·cases h
theorem j7 {β:zg} {i:Nat} {π:List yR} {m m' m2:M} (h:β[i]?=some (some m)) (e:vE m π m2=some m'):putAt β i π m2=some (β.set i (some m')):=by
 unfold putAt
 rw [h]
 show (vE m π m2).bind _=_
 rw [e]
 rfl
noncomputable def zl (K:PySem.W.Frag) (cs:List Str) (f:Str):Prop:=∀ x∈cs,∀ C,PySem.W.nsIn K mainGlobals x=some (some (.ref C))->wt K C/\qN K C f
structure SP (X:Cx) (e:Expr) (i:Nat) (π:List yR):Prop where
 h:∃ t,PE X e t/\∀ {σ:St} {H:Hp} {v u:V} {Q:VK},σ[i]?=some (some v)->yr X.K H v π u->Q u H->t σ H Q
section
variable {X:Cx} {x f:Str} {p pos:Pos} {e:Expr} {i:Nat} {π:List yR} {cs:List Str}
theorem zx (i:Nat) {x:Str} {pos:Pos} (hN:X.N[i]?=some x:=by rfl) (hv:tJ X.env.scope x:=by first | exact Or.inl rfl | exact Or.inr (Or.inl rfl) | exact Or.inr (Or.inr rfl)) (hd:(x == ("__debug__" : Str))=false:=by decide)
  (hcd:(x == ("__classdict__" : Str))=false:=by decide):SP X (.Name x pos) i []:=⟨⟨_,gF hN hv hd hcd,fun e a q=>by
 cases (show _=_ from a)
 exact ⟨_,e,q⟩⟩⟩
theorem wc (h:SP X e i π) (k:zl X.K cs f) (hb:attributeBase e f X.env (eval e X.env)=eval e X.env:=by rfl):SP X (.Attribute e f pos) i (π++[.at cs f]):=by
 obtain ⟨t,p,kt⟩:=h.h
 refine ⟨⟨_,Jh p hb,fun e a q=>?_⟩⟩
 obtain ⟨w,a1,a2⟩:=a.snoc
 obtain ⟨p,x,C,dx,fs,w',rfl,hx,ns,hp,l,rfl⟩:=a2
 obtain ⟨c,n⟩:=k x hx C ns
 exact kt e a1 ⟨p,C,dx,fs,_,rfl,hp,c,n,l,q⟩
theorem Zz {k:Str} {kk kp} (h:SP X e i π):SP X (.Subscript e (.Constant (.str k) kk kp) pos) i (π++[.ky (.inr k)]):=by
 obtain ⟨t,p,kt⟩:=h.h
 refine ⟨⟨_,U7 J4 p kZ (UA rfl),fun e a q=>?_⟩⟩
 obtain ⟨w,a1,a2⟩:=a.snoc
 obtain ⟨p,kvs,w',rfl,hp,l,rfl⟩:=a2
 exact kt e a1 ⟨p,kvs,.inr k,_,rfl,rfl,.inl hp,l,q⟩
end
section
variable {K:PySem.W.Frag} {n:Nat} {P:List V} {G0 H0 G H:Hp} {β:zg} {σ:St}
theorem zY.write {m m1 mr:M} {vr:V} {i:Nat} {π:List yR} (E:zY K (n+1) P G0 H0 G H (β++[some mr]) (σ++[some vr])) (hP:P.length<=n) (hm:β[i]?=some (some m)) (ha:vI m π=some m1) :
  ∃ r v1 L1 Lr,σ[i]?=some (some r)/\yr K H r π v1/\yE K G H m1 v1 L1/\yE K G H mr vr Lr/\(∀ q,L1 q->Lr q->False)/\
   ∀ {H':Hp} {m2:M} {L2:Ft},(∀ q,¬ L1 q->H' q=H q)->yE K G H' m2 v1 L2->(∀ q,L2 q->L1 q\/Lr q)->∃ m',vE m π m2=some m'/\zY K n P G0 H0 G H' (β.set i (some m')) σ:=by
 obtain ⟨Ls,F⟩:=E.own
 have hl1:=E.l1'
 have hl2:=E.l2'
 have hi:i<n:=by rw [<- hl2]; exact (List.getElem?_eq_some_iff.mp hm).1
 obtain ⟨r,er,om⟩:=F.at_ i m (by rw [xI (by omega)]; exact hm)
 rw [xI (by omega)] at er
 obtain ⟨u,eu,orr⟩:=F.at_ n mr (wn hl2)
 rw [wn hl1] at eu
 cases eu
 obtain ⟨v1,L1,va,o1,s1,re⟩:=om.focus ha
 have djn:∀ q,L1 q->Ls n q->False:=fun q a b=>F.dj i n q (by omega) (s1 q a) b
 refine ⟨r,v1,L1,Ls n,er,va,o1,orr,djn,fun {H' m2 L2} hk o2 hL=>?_⟩
 obtain ⟨m',e',o'⟩:=re (zW.refl G) (fun q _ z=>hk q z) o2 (fun q z w=>by
  rcases hL q z with c | c
  ·exact c
  ·exact absurd c fun c=>F.dj i n q (by omega) w c)
 have f0:∀ q,L1 q->G q=none/\H0 q=none:=fun q z=>⟨(F.ok i q (s1 q z)).1,(F.ok i q (s1 q z)).2.1⟩
 refine ⟨m',e',⟨E.ext.g,fun q o z=>?_,fun q o z=>?_,E.ext.new⟩,hl1,by rw [List.length_set]; exact hl2,hP,fun j w h=>?_,fun j=>if j=i then (fun q=>(Ls i q/\¬ L1 q)\/L2 q) else if j<n then Ls j else fun _=>False,fun j m3 h=>?_,fun j k q ne z1 z2=>?_,fun j q z=>?_⟩
 ·rw [hk q fun w=>by rw [(f0 q w).2] at z; cases z]
  exact E.ext.h _ _ z
 ·rw [hk q fun w=>by rw [(f0 q w).1] at z; cases z]
  exact E.ext.gh _ _ z
 ·have hj:j<P.length:=(List.getElem?_eq_some_iff.mp h).1
  have:=E.pin j w h
  rw [xI (by omega)] at this
  exact this
 ·rcases xY h with ⟨rfl,w⟩ | ⟨ne,w⟩
  ·cases w
   simp only [if_true]
   exact ⟨r,er,o'⟩
  ·have hj:j<n:=by rw [<- hl2]; exact (List.getElem?_eq_some_iff.mp w).1
   obtain ⟨u,eu,ou⟩:=F.at_ j m3 (by rw [xI (by omega)]; exact w)
   rw [xI (by omega)] at eu
   simp only [if_neg ne,if_pos hj]
   exact ⟨u,eu,ou.loc (zW.refl G) m3 u _ fun q z=>hk q fun w'=>F.dj i j q (fun c=>ne c.symm) (s1 q w') z⟩
 ·have key:∀ j,j≠i->j<n->∀ q,(Ls i q/\¬ L1 q)\/L2 q->Ls j q->False:=fun j ne hj q z1 z2=>by
   rcases z1 with ⟨z1,_⟩ | z1
   ·exact F.dj i j q (fun c=>ne c.symm) z1 z2
   ·rcases hL q z1 with c | c
    ·exact F.dj i j q (fun c=>ne c.symm) (s1 q c) z2
    ·exact F.dj n j q (by omega) c z2
  split at z1
  ·split at z2
   ·exact ne (by omega)
   ·split at z2
    ·exact key k (by omega) (by omega) q z1 z2
    ·exact z2
  ·split at z1
   ·split at z2
    ·exact key j (by omega) (by omega) q z2 z1
    ·split at z2
     ·exact F.dj j k q ne z1 z2
     ·exact z2
   ·exact z1
 ·split at z
  ·rcases z with ⟨z,w⟩ | z
   ·obtain ⟨a,b,c⟩:=F.ok i q z
    obtain ⟨u,hu,cu⟩:=c
    exact ⟨a,b,u,(hk q w).trans hu,cu⟩
   ·refine ⟨?_,?_,o2.cells m2 _ _ q z⟩
    ·rcases hL q z with c | c
     ·exact (f0 q c).1
     ·exact (F.ok n q c).1
    ·rcases hL q z with c | c
     ·exact (f0 q c).2
     ·exact (F.ok n q c).2.1
  ·split at z
   ·rename_i ne hj
    obtain ⟨a,b,c⟩:=F.ok j q z
    obtain ⟨u,hu,cu⟩:=c
    exact ⟨a,b,u,(hk q fun w'=>F.dj i j q (fun c=>ne c.symm) (s1 q w') z).trans hu,cu⟩
   ·exact z.elim
end
noncomputable def vO (i:Nat) (π:List yR) (fk:FE) (fv:yb):zu:=fun β=>(fv β).bind fun r=>(vZ r.1).bind fun y=>(vm r.2 i π).bind fun nd=>match nd with
 | .own (.lst ds)=>(fk (wp r.2)).bind fun x=>match x with
  | .int j=>(ixN ds.length j).bind fun n=>(putAt r.2 i π (.own (.lst (ds.set n y)))).bind fun β2=>some (.nx β2)
  | _=>none
 | _=>none
noncomputable def qd (i:Nat) (π:List yR) (fk:FE) (fv:yb):zu:=fun β=>(fv β).bind fun r=>(vZ r.1).bind fun y=>(vm r.2 i π).bind fun nd=>match nd with
 | .own (.dic ks ds)=>(fk (wp r.2)).bind fun x=>(wZ x).bind fun x=>match decide (ks.length<yP) with
  | true=>(putAt r.2 i π (.own (.dic (xo ks x) (yi ks ds x y)))).bind fun β2=>some (.nx β2)
  | false=>none
 | _=>none
section
variable {X:Cx} {np:Nat} {o k v:Expr} {i:Nat} {π:List yR} {fk:FE} {fv:yb} {pos pos':Pos}
theorem uE (ho:SP X o i π) (hk:SE X k fk) (hv:MC X v fv) (hp:gH k=true:=by rfl) (hs:swapsWithSole [.Subscript o k pos'] v pos.line X.env=pure false:=by rfl)
  (hw:swappedStores [.Subscript o k pos'] v X.env=pure none:=by rfl) (h1:(assignEach [.Subscript o k pos'] X.env).map (·.2)=[assign (.Subscript o k pos') X.env]:=by rfl):MS X np (.Assign [.Subscript o k pos'] v pos) (vO i π fk fv):=by
 obtain ⟨tk,pk,kk⟩:=hk.h
 obtain ⟨tv,pv,kv⟩:=hv.h
 obtain ⟨to,po,ko⟩:=ho.h
 refine ⟨⟨_,UC pv (IG ⟨po⟩ ⟨pk⟩ Iw hp).h hs hw h1,fun {P G0 H0 G H β σ fl E} hP K hf q=>?_⟩⟩
 obtain ⟨⟨m,β1⟩,hy,hf⟩:=zC hf
 obtain ⟨y,ey,hf⟩:=zC hf
 cases vy ey
 obtain ⟨nd,hn,hf⟩:=zC hf
 split at hf
 ·rename_i ds
  obtain ⟨xk,hx,hf⟩:=zC hf
  cases xk with
  | int j=>
   obtain ⟨nn,hnn,hf⟩:=zC hf
   obtain ⟨β2,hβ,hf⟩:=zC hf
   cases hf
   obtain ⟨mm,hm,ha⟩:=tT hn
   refine kv K hy fun w G1 H1 s1 K1=>?_
   obtain ⟨r,v1,L1,Lr,er,va,_⟩:=K1.write K.lp hm ha
   refine ko er va ?_
   obtain ⟨Ga,Ea,back⟩:=(K1.down K.lp).thw
   refine kk Ea hx fun u G2 H2 x2 r2=>?_
   cases (show u=_ from r2)
   obtain ⟨G3,x3,_,_⟩:=back _ _ x2
   have K4:=K1.go x3
   obtain ⟨r',v1',L1',Lr',er',va',o1',or',dj',wr'⟩:=K4.write K.lp hm ha
   rw [er] at er'
   cases er'
   cases yr.one (va.mono x3.h) va'
   obtain ⟨p,rfl,⟨vs,ev,rs,l⟩,uL⟩:=o1'
   obtain ⟨m',e',K5⟩:=wr' (H':=zQ H2 p (.lst (vs.set nn w))) (m2:=.own (.lst (ds.set nn y))) (L2:=fun q=>q=p) (fun q z=>zw fun c=>z ((uL q).mpr c)) ⟨p,rfl,⟨_,yK,Reps.set K4.lastR nn rs,by rw [List.length_set]; exact l⟩,fun _=>Iff.rfl⟩ (fun q z=>.inl ((uL q).mpr z))
   rw [j7 hm e'] at hβ
   cases hβ
   exact ⟨p,vs,j,nn,rfl,rfl,ev,by rw [rs.length]; exact hnn,q _ _ _ K5⟩
  | _=>cases hf
 ·cases hf
theorem jz (hu:X.A.units+1<cLine) (ho:SP X o i π) (hk:SE X k fk) (hv:MC X v fv) (hs:swapsWith v (some (.Subscript o k pos')) pos.line X.env=pure false:=by rfl):MS X np (.Assign [.Subscript o k pos'] v pos) (qd i π fk fv):=by
 obtain ⟨tk,pk,kk⟩:=hk.h
 obtain ⟨tv,pv,kv⟩:=hv.h
 obtain ⟨to,po,ko⟩:=ho.h
 refine ⟨⟨_,Jq hu po pk pv hs,fun {P G0 H0 G H β σ fl E} hP K hf q=>?_⟩⟩
 obtain ⟨⟨m,β1⟩,hy,hf⟩:=zC hf
 obtain ⟨y,ey,hf⟩:=zC hf
 cases vy ey
 obtain ⟨nd,hn,hf⟩:=zC hf
 split at hf
 ·rename_i ks ds
  obtain ⟨xk,hx,hf⟩:=zC hf
  obtain ⟨key,hkey,hf⟩:=zC hf
  split at hf
  ·rename_i c
   have c:=of_decide_eq_true c
   obtain ⟨β2,hβ,hf⟩:=zC hf
   cases hf
   obtain ⟨mm,hm,ha⟩:=tT hn
   refine kv K hy fun w G1 H1 s1 K1=>?_
   obtain ⟨r,v1,L1,Lr,er,va,_⟩:=K1.write K.lp hm ha
   refine ko er va ?_
   obtain ⟨Ga,Ea,back⟩:=(K1.down K.lp).thw
   refine kk Ea hx fun u G2 H2 x2 r2=>?_
   obtain ⟨G3,x3,_,_⟩:=back _ _ x2
   have K4:=K1.go x3
   obtain ⟨r',v1',L1',Lr',er',va',o1',or',dj',wr'⟩:=K4.write K.lp hm ha
   rw [er] at er'
   cases er'
   cases yr.one (va.mono x3.h) va'
   obtain ⟨p,rfl,⟨vs,ev,l,rs,hl⟩,uL⟩:=o1'
   obtain ⟨m',e',K5⟩:=wr' (H':=zQ H2 p (.dK (xV (ks.zip vs) key w))) (m2:=.own (.dic (xo ks key) (yi ks ds key y))) (L2:=fun q=>q=p) (fun q z=>zw fun c=>z ((uL q).mpr c))
    ⟨p,rfl,⟨yi ks vs key w,by rw [yK,WA l],kh l,rs.put K4.lastR,by
     have h1:=UF (ks:=ks) (vs:=ds) (k:=key) (v:=y) (by rw [l,rs.length])
     have h2:ds.length<16777216:=by rw [<- rs.length,<- l]; exact c
     rw [sizeLine_eq]
     omega⟩,fun _=>Iff.rfl⟩ (fun q z=>.inl ((uL q).mpr z))
   rw [j7 hm e'] at hβ
   cases hβ
   exact ⟨p,_,rfl,.inl ⟨_,key,ev,qb hkey r2,by rw [List.length_zip,l,Nat.min_self,sizeLine_eq,<- l]; exact c,rfl⟩,q _ _ _ K5⟩
  ·cases hf
 ·cases hf
end
noncomputable def u_ (fs:List Str) (f:Str):List Str:=if f∈fs then fs else fs++[f]
noncomputable def vD {α:Type} (fs:List Str) (ms:List α) (f:Str) (m:α):List α:=if f∈fs then xt fs ms f m else ms++[m]
theorem UE {f:Str} {w:V}:∀ {fs:List Str} {vs:List V},fs.length=vs.length->putF f w (fs.zip vs)=(u_ fs f).zip (vD fs vs f w)
 | [],[],_=>by
  unfold u_ vD
  rw [if_neg (by simp),if_neg (by simp)]
  rfl
 | [],_::_,h=>by cases h
 | _::_,[],h=>by cases h
 | g::fs,v::vs,h=>by
  have ih:=UE (f:=f) (w:=w) (fs:=fs) (vs:=vs) (Nat.succ.inj h)
  rw [List.zip_cons_cons]
  unfold putF
  by_cases c:g=f
  ·subst c
   unfold u_ vD
   rw [if_pos rfl,if_pos List.mem_cons_self,if_pos List.mem_cons_self]
   unfold xt
   rw [if_pos rfl,List.zip_cons_cons]
  ·rw [if_neg c,ih]
   unfold u_ vD
   by_cases z:f∈fs
   ·rw [if_pos z,if_pos z,if_pos (List.mem_cons_of_mem _ z),if_pos (List.mem_cons_of_mem _ z)]
    conv=>rhs; unfold xt
    rw [if_neg c,List.zip_cons_cons]
   ·have z':f ∉ g::fs:=fun w=>by
     rcases List.mem_cons.mp w with w | w
     ·exact c w.symm
     ·exact z w
    rw [if_neg z,if_neg z,if_neg z',if_neg z',List.cons_append,List.cons_append,List.zip_cons_cons]
theorem Iv {κ α:Type} [DecidableEq κ] {k:κ} {y:α}:∀ {ks:List κ} {xs:List α},(xt ks xs k y).length=xs.length
 | [],_=>by unfold xt; rfl
 | _::_,[]=>by unfold xt; rfl
 | k'::ks,x::xs=>by
  unfold xt
  split
  ·rfl
  ·rw [List.length_cons,List.length_cons,Iv]
theorem J_ {α:Type} {f:Str} {w:α} {fs:List Str} {vs:List α} (h:fs.length=vs.length):(u_ fs f).length=(vD fs vs f w).length:=by
 unfold u_ vD
 split
 ·rw [Iv]; exact h
 ·rw [List.length_append,List.length_append,h]; rfl
section
variable {K:PySem.W.Frag} {G H:Hp}
theorem OwnMs.exch {κ:Type} [DecidableEq κ] {k:κ} {m2:M} {v2:V} {L2:Ft} (o2:yE K G H m2 v2 L2):∀ {ks:List κ} {ms:List M} {vs:List V} {L:Ft},OwnMs K G H ms vs L->(∀ q,L q->L2 q->False)->∃ L',OwnMs K G H (xt ks ms k m2) (xt ks vs k v2) L'/\∀ q,L' q->L q\/L2 q
 | [],ms,vs,L,h,_=>⟨L,by unfold xt; exact h,fun q z=>.inl z⟩
 | _::_,[],vs,L,h,_=>by
  obtain ⟨rfl,n⟩:=h
  exact ⟨L,by unfold xt; exact ⟨rfl,n⟩,fun q z=>.inl z⟩
 | k'::ks,m::ms,vs,L,h,dj=>by
  obtain ⟨v,r,La,Lb,rfl,hv,hr,d,u⟩:=h
  unfold xt
  by_cases c:k'=k
  ·rw [if_pos c,if_pos c]
   refine ⟨fun q=>L2 q\/Lb q,⟨v2,r,L2,Lb,rfl,o2,hr,fun q a b=>dj q ((u q).mpr (.inr b)) a,fun q=>Iff.rfl⟩,fun q z=>?_⟩
   rcases z with z | z
   ·exact .inr z
   ·exact .inl ((u q).mpr (.inr z))
  ·rw [if_neg c,if_neg c]
   obtain ⟨L',h',s'⟩:=OwnMs.exch (k:=k) o2 (ks:=ks) hr (fun q a b=>dj q ((u q).mpr (.inr a)) b)
   refine ⟨fun q=>La q\/L' q,⟨v,_,La,L',rfl,hv,h',fun q a b=>?_,fun q=>Iff.rfl⟩,fun q z=>?_⟩
   ·rcases s' q b with b | b
    ·exact d q a b
    ·exact dj q ((u q).mpr (.inl a)) b
   ·rcases z with z | z
    ·exact .inl ((u q).mpr (.inl z))
    ·rcases s' q z with z | z
     ·exact .inl ((u q).mpr (.inr z))
     ·exact .inr z
theorem OwnMs.snoc {m2:M} {v2:V} {L2:Ft} (o2:yE K G H m2 v2 L2):∀ {ms:List M} {vs:List V} {L:Ft},OwnMs K G H ms vs L->(∀ q,L q->L2 q->False)->OwnMs K G H (ms++[m2]) (vs++[v2]) (fun q=>L q\/L2 q)
 | [],vs,L,h,_=>by
  obtain ⟨rfl,n⟩:=h
  refine ⟨v2,[],L2,fun _=>False,rfl,o2,⟨rfl,fun _ z=>z⟩,fun _ _ z=>z,fun q=>⟨?_,?_⟩⟩
  ·rintro (z | z)
   ·exact absurd z (n q)
   ·exact .inl z
  ·rintro (z | z)
   ·exact .inr z
   ·exact z.elim
 | m::ms,vs,L,h,dj=>by
  obtain ⟨v,r,La,Lb,rfl,hv,hr,d,u⟩:=h
  refine ⟨v,_,La,fun q=>Lb q\/L2 q,rfl,hv,OwnMs.snoc o2 hr (fun q a b=>dj q ((u q).mpr (.inr a)) b),fun q a b=>?_,fun q=>⟨?_,?_⟩⟩
  ·rcases b with b | b
   ·exact d q a b
   ·exact dj q ((u q).mpr (.inl a)) b
  ·rintro (z | z)
   ·rcases (u q).mp z with z | z
    ·exact .inl z
    ·exact .inr (.inl z)
   ·exact .inr (.inr z)
  ·rintro (z | z | z)
   ·exact .inl ((u q).mpr (.inl z))
   ·exact .inl ((u q).mpr (.inr z))
   ·exact .inr z
theorem OwnMs.putF {f:Str} {m2:M} {v2:V} {L2 L:Ft} {fs:List Str} {ms:List M} {vs:List V} (o2:yE K G H m2 v2 L2) (h:OwnMs K G H ms vs L) (dj:∀ q,L q->L2 q->False):∃ L',OwnMs K G H (vD fs ms f m2) (vD fs vs f v2) L'/\∀ q,L' q->L q\/L2 q:=by
 unfold vD
 by_cases c:f∈fs
 ·rw [if_pos c,if_pos c]
  exact OwnMs.exch o2 h dj
 ·rw [if_neg c,if_neg c]
  exact ⟨_,OwnMs.snoc o2 h dj,fun q z=>z⟩
end
noncomputable def uF (m:M) (β:zg) (i:Nat) (π:List yR) (cs:List Str) (f:Str):Option qM:=(vm β i π).bind fun nd=>match nd with
 | .obj x fs ms=>match decide (x∈cs)&&decide (fs.length<1000) with
  | true=>(putAt β i π (.obj x (u_ fs f) (vD fs ms f m))).bind fun β2=>some (.nx β2)
  | false=>none
 | _=>none
noncomputable def vN (i:Nat) (π:List yR) (cs:List Str) (f:Str) (fv:yb):zu:=fun β=>(fv β).bind fun r=>uF r.1 r.2 i π cs f
noncomputable def Vm (i:Nat) (π:List yR) (cs:List Str) (f:Str) (fe:FE):zu:=fun β=>(vm β i π).bind fun nd=>match nd with
 | .obj x fs ms=>match decide (x∈cs)&&decide (fs.length<1000) with
  | true=>(getA fs ms f).bind fun c=>(vZ c).bind fun c=>match c with
   | .int a=>(fe (wp β)).bind fun y=>match y with
    | .int b=>(putAt β i π (.obj x (u_ fs f) (vD fs ms f (.fz (.int (a+b)))))).bind fun β2=>some (.nx β2)
    | _=>none
   | _=>none
  | false=>none
 | _=>none
section
variable {X:Cx} {np:Nat} {o v:Expr} {i:Nat} {π:List yR} {cs:List Str} {f:Str} {fv:yb} {fe:FE} {pos pos' tpos:Pos}
theorem ua (ho:SP X o i π) (k:zl X.K cs f) (hv:MC X v fv) (hs:swapsWith v (some (.Attribute o f pos')) pos.line X.env=pure false:=by rfl):MS X np (.Assign [.Attribute o f pos'] v pos) (vN i π cs f fv):=by
 obtain ⟨tv,pv,kv⟩:=hv.h
 obtain ⟨to,po,ko⟩:=ho.h
 refine ⟨⟨_,ER po pv hs,fun {P G0 H0 G H β σ fl E} hP K hf q=>?_⟩⟩
 obtain ⟨⟨m,β1⟩,hy,hf⟩:=zC hf
 obtain ⟨nd,hn,hf⟩:=zC (show (vm β1 i π).bind _=_ from hf)
 split at hf
 ·rename_i x fs ms
  split at hf
  ·rename_i c
   rw [Bool.and_eq_true] at c
   have hx:=of_decide_eq_true c.1
   have hl:=of_decide_eq_true c.2
   obtain ⟨β2,hβ,hf⟩:=zC hf
   cases hf
   obtain ⟨mm,hm,ha⟩:=tT hn
   refine kv K hy fun w G1 H1 s1 K1=>?_
   obtain ⟨r,v1,L1,Lr,er,va,o1,orr,dj,wr⟩:=K1.write K.lp hm ha
   obtain ⟨p,C,dx,vs,L',rfl,ns,hp,l,rs,nL,uL⟩:=o1
   obtain ⟨cl,na⟩:=k x hx C ns
   have k1:∀ q,q≠p->(zQ H1 p (.ins C dx (putF f w (fs.zip vs)))) q=H1 q:=fun q z=>zw z
   have rs':OwnMs X.K G1 (zQ H1 p (.ins C dx (putF f w (fs.zip vs)))) ms vs L':=OwnMs.imp (fun m' _ v' L3 s o=>o.loc (zW.refl _) m' v' L3 fun q z=>k1 q fun c=>nL (c ▸ s q z)) rs
   have or':yE X.K G1 (zQ H1 p (.ins C dx (putF f w (fs.zip vs)))) m w Lr:=orr.loc (zW.refl _) m w Lr fun q z=>k1 q fun c=>dj q ((uL q).mpr (.inl c)) z
   obtain ⟨L3,o3,s3⟩:=OwnMs.putF (f:=f) (fs:=fs) or' rs' (fun q a b=>dj q ((uL q).mpr (.inr a)) b)
   obtain ⟨m',e',K5⟩:=wr (H':=zQ H1 p (.ins C dx (putF f w (fs.zip vs)))) (m2:=.obj x (u_ fs f) (vD fs ms f m)) (L2:=fun q=>q=p\/L3 q) (fun q z=>k1 q fun c=>z ((uL q).mpr (.inl c)))
    ⟨p,C,dx,vD fs vs f w,L3,rfl,ns,by rw [yK,UE l],J_ l,o3,fun z=>by
     rcases s3 p z with z | z
     ·exact nL z
     ·exact dj p ((uL p).mpr (.inl rfl)) z,fun q=>Iff.rfl⟩ (fun q z=>by
     rcases z with rfl | z
     ·exact .inl ((uL q).mpr (.inl rfl))
     ·rcases s3 q z with z | z
      ·exact .inl ((uL q).mpr (.inr z))
      ·exact .inr z)
   rw [j7 hm e'] at hβ
   cases hβ
   exact ko er va ⟨p,C,dx,_,rfl,hp,cl,na,by rw [List.length_zip,l,Nat.min_self,<- l]; exact hl,q _ _ _ K5⟩
  ·cases hf
 ·cases hf
theorem DJ (ho:SP X o i π) (k:zl X.K cs f) (hv:SE X v fe):MS X np (.AugAssign (.Attribute o f tpos) .Add v pos) (Vm i π cs f fe):=by
 obtain ⟨tv,pv,kv⟩:=hv.h
 obtain ⟨to,po,ko⟩:=ho.h
 refine ⟨⟨_,ES po pv Qt,fun {P G0 H0 G H β σ fl E} hP K hf q=>?_⟩⟩
 obtain ⟨nd,hn,hf⟩:=zC hf
 split at hf
 ·rename_i x fs ms
  split at hf
  ·rename_i c
   rw [Bool.and_eq_true] at c
   have hx:=of_decide_eq_true c.1
   have hl:=of_decide_eq_true c.2
   obtain ⟨ch,hch,hf⟩:=zC hf
   obtain ⟨dc,hdc,hg⟩:=zC hf
   cases vy hdc
   split at hg
   ·rename_i a
    obtain ⟨y,hy,hf⟩:=zC hg
    split at hf
    ·rename_i b
     obtain ⟨β2,hβ,hf⟩:=zC hf
     cases hf
     obtain ⟨mm,hm,ha⟩:=tT hn
     have K0:=K.pushF (d:=.non) (v:=.non) rfl
     obtain ⟨r,v1,L1,Lr,er,va,o1,_⟩:=K0.write K.lp hm ha
     obtain ⟨p,C,dx,vs,L',rfl,ns,hp,l,rs,nL,uL⟩:=o1
     obtain ⟨cl,na⟩:=k x hx C ns
     obtain ⟨vc,Lc,ec,⟨rc,_⟩,_⟩:=OwnMs.focus rs hch
     cases (show vc=_ from rc)
     refine ko er va ⟨p,C,dx,_,_,rfl,hp,cl,na,by rw [Xa]; exact ec,?_⟩
     obtain ⟨Ga,Ea,back⟩:=K.thw
     refine kv Ea hy fun u G2 H2 x2 r2=>?_
     cases (show u=_ from r2)
     obtain ⟨G3,x3,K3,_⟩:=back _ _ x2
     have K4:=K3.pushF (d:=.int (a+b)) (v:=.int (a+b)) rfl
     obtain ⟨r',v1',L1',Lr',er',va',o1',orr,dj,wr⟩:=K4.write K.lp hm ha
     rw [er] at er'
     cases er'
     cases yr.one (va.mono x3.h) va'
     obtain ⟨p',C',dx',vs',L'',e0,ns',hp',l',rs',nL',uL'⟩:=o1'
     cases e0
     have eC:C'=C:=by rw [ns] at ns'; cases ns'; rfl
     subst eC
     have k1:∀ q,q≠p->(zQ H2 p (.ins C' dx' (putF f (V.int (a+b)) (fs.zip vs')))) q=H2 q:=fun q z=>zw z
     have rs2:OwnMs X.K G3 (zQ H2 p (.ins C' dx' (putF f (V.int (a+b)) (fs.zip vs')))) ms vs' L'':=OwnMs.imp (fun m' _ v' L3 s o=>o.loc (zW.refl _) m' v' L3 fun q z=>k1 q fun c=>nL' (c ▸ s q z)) rs'
     obtain ⟨L3,o3,s3⟩:=OwnMs.putF (f:=f) (fs:=fs) (m2:=.fz (.int (a+b))) (v2:=.int (a+b)) (L2:=fun _=>False) ⟨rfl,fun _ z=>z⟩ rs2 (fun q _ z=>z)
     obtain ⟨m',e',K5⟩:=wr (H':=zQ H2 p (.ins C' dx' (putF f (V.int (a+b)) (fs.zip vs')))) (m2:=.obj x (u_ fs f) (vD fs ms f (.fz (.int (a+b))))) (L2:=fun q=>q=p\/L3 q) (fun q z=>k1 q fun c=>z ((uL' q).mpr (.inl c)))
      ⟨p,C',dx',vD fs vs' f _,L3,rfl,ns,by rw [yK,UE l'],J_ l',o3,fun z=>by
       rcases s3 p z with z | z
       ·exact nL' z
       ·exact z,fun q=>Iff.rfl⟩ (fun q z=>by
       rcases z with rfl | z
       ·exact .inl ((uL' q).mpr (.inl rfl))
       ·rcases s3 q z with z | z
        ·exact .inl ((uL' q).mpr (.inr z))
        ·exact z.elim)
     rw [j7 hm e'] at hβ
     cases hβ
     exact ⟨_,_,rfl,rfl,dx',_,hp',by rw [List.length_zip,l',Nat.min_self,<- l']; exact hl,q _ _ _ K5⟩
    ·cases hf
   ·cases hg
  ·cases hf
 ·cases hf
end
end L3
namespace L3
open PySem PySem.Spec PyProof.Rows L2
open Classical in
noncomputable def vL (H:Hp) (L:Ft):Hp:=fun q=>if L q then none else H q
theorem QB {H:Hp} {L:Ft} {q:Addr} (h:L q):vL H L q=none:=by unfold vL; rw [if_pos h]
theorem tL {H:Hp} {L:Ft} {q:Addr} (h:¬ L q):vL H L q=H q:=by unfold vL; rw [if_neg h]
theorem QC {H:Hp} {L:Ft} {q:Addr} (h:vL H L q=none):L q\/H q=none:=by
 by_cases c:L q
 ·exact .inl c
 ·rw [tL c] at h; exact .inr h
noncomputable abbrev FM:=List M->Option (List M×M)
noncomputable def zk (K:PySem.W.Frag) (F:FM):Sp:=fun vs H Q _=>∃ G ms L ms' m',zW G H/\OwnMs K G H ms vs L/\(∀ q,L q->G q=none)/\F ms=some (ms',m')/\
 ∀ v G' H' L',zK G (vL H L) G' H'->OwnMs K G' H' (m'::ms') (v::vs) L'->(∀ q,L' q->G' q=none/\vL H L q=none)->Q v H'
section
variable {K:PySem.W.Frag} {n:Nat} {P:List V} {G0 H0 G H G' H':Hp} {β:zg} {σ:St}
theorem zY.pushN {m:M} {v:V} {L:Ft} (E:zY K n P G0 H0 G H β σ) (x:zK G H G' H') (o:yE K G' H' m v L) (hL:∀ q,L q->G' q=none/\H q=none):zY K (n+1) P G0 H0 G' H' (β++[some m]) (σ++[some v]):=by
 obtain ⟨Ls,F⟩:=E.own
 have E':=E.go x
 have hz:∀ i q,Ls i q->L q->False:=fun i q z c=>(F.ok i q z).2.2.some (hL q c).2
 refine ⟨E'.ext,by rw [List.length_append,E.l1]; rfl,by rw [List.length_append,E.l2]; rfl,by have:=E.lp; omega,fun i u h=>?_,fun j=>if j<n then Ls j else if j=n then L else fun _=>False,fun i m' h=>?_,fun i j q ne z1 z2=>?_,fun i q z=>?_⟩
 ·have hi:i<σ.length:=by
   rw [E.l1]
   exact Nat.lt_of_lt_of_le (List.getElem?_eq_some_iff.mp h).1 E.lp
  rw [xI hi]
  exact E.pin i u h
 ·rcases gQ h with ⟨c,e⟩ | ⟨c,e⟩
  ·rw [E.l2] at c
   obtain ⟨u,eu,ou⟩:=F.at_ i m' e
   refine ⟨u,by rw [xI (by rw [E.l1]; exact c)]; exact eu,?_⟩
   simp only [if_pos c]
   refine ou.loc x.g m' u _ fun q z=>?_
   obtain ⟨w,hw,_⟩:=(F.ok i q z).2.2
   rw [hw]
   exact x.h _ _ hw
  ·cases e
   rw [E.l2] at c
   subst c
   refine ⟨_,wn E.l1,?_⟩
   simp only [Nat.lt_irrefl,if_false,if_true]
   exact o
 ·split at z1
  ·split at z2
   ·exact F.dj i j q ne z1 z2
   ·split at z2
    ·exact hz i q z1 z2
    ·exact z2
  ·split at z1
   ·split at z2
    ·exact hz j q z2 z1
    ·split at z2
     ·exact ne (by omega)
     ·exact z2
   ·exact z1
 ·split at z
  ·obtain ⟨a,b,c⟩:=F.ok i q z
   obtain ⟨a',c'⟩:=Wq x a c
   exact ⟨a',b,c'⟩
  ·split at z
   ·exact ⟨(hL q z).1,E.ext.h.free (hL q z).2,o.cells m v _ q z⟩
   ·exact z.elim
theorem zY.back {m nd:M} {i:Nat} {π:List yR} (E:zY K n P G0 H0 G H β σ) (hm:β[i]?=some (some m)) (ha:vI m π=some nd) :
  ∃ r v1 L1,σ[i]?=some (some r)/\yr K H r π v1/\yE K G H nd v1 L1/\(∀ q,L1 q->G q=none)/\
   ∀ {G' H':Hp} {m' nd':M} {v:V} {Lr L2:Ft},zK G (vL H L1) G' H'->yE K G' H' m' v Lr->yE K G' H' nd' v1 L2->(∀ q,Lr q->L2 q->False)->(∀ q,Lr q\/L2 q->G' q=none/\vL H L1 q=none)->
    ∃ mm,vE m π nd'=some mm/\zY K (n+1) P G0 H0 G' H' (β.set i (some mm)++[some m']) (σ++[some v]):=by
 obtain ⟨Ls,F⟩:=E.own
 have hi:i<n:=by rw [<- E.l2]; exact (List.getElem?_eq_some_iff.mp hm).1
 obtain ⟨r,er,om⟩:=F.at_ i m hm
 obtain ⟨v1,L1,va,o1,s1,re⟩:=om.focus ha
 refine ⟨r,v1,L1,er,va,o1,fun q z=>(F.ok i q (s1 q z)).1,fun {G' H' m' nd' v Lr L2} x or o2 dj hN=>?_⟩
 have keep:∀ j q,Ls j q->¬ L1 q->H' q=H q:=fun j q z w=>by
  obtain ⟨u,hu,_⟩:=(F.ok j q z).2.2
  rw [hu]
  exact x.h _ _ ((tL w).trans hu)
 have old:∀ j q,Ls j q->¬ L1 q->(Lr q\/L2 q)->False:=fun j q z w c=>by
  have e:=(hN q c).2
  rw [tL w] at e
  exact (F.ok j q z).2.2.some e
 obtain ⟨mm,e',o'⟩:=re x.g (fun q z w=>keep i q z w) o2 (fun q z w=>by
  by_cases c:L1 q
  ·exact c
  ·exact (old i q w c (.inr z)).elim)
 have dj1:∀ j q,j≠i->Ls j q->¬ L1 q:=fun j q ne z w=>F.dj i j q (fun c=>ne c.symm) (s1 q w) z
 have g0:∀ q,vL H L1 q=none->H0 q=none:=fun q z=>by
  rcases QC z with z | z
  ·exact (F.ok i q (s1 q z)).2.1
  ·exact E.ext.h.free z
 have hlen1:(β.set i (some mm)).length=n:=by rw [List.length_set]; exact E.l2
 refine ⟨mm,e',⟨E.ext.g.trans x.g,fun q o z=>x.h _ _ ?_,x.gh,fun q z=>?_⟩,by rw [List.length_append,E.l1]; rfl,by rw [List.length_append,hlen1]; rfl,by have:=E.lp; omega,fun j u h=>?_,fun j=>if j=i then (fun q=>(Ls i q/\¬ L1 q)\/L2 q) else if j<n then Ls j else if j=n then Lr else fun _=>False,fun j m3 h=>?_,fun j k q ne z1 z2=>?_,fun j q z=>?_⟩
 ·rw [tL fun w=>by rw [(F.ok i q (s1 q w)).2.1] at z; cases z]
  exact E.ext.h _ _ z
 ·rcases x.new q z with w | w
  ·exact E.ext.new q w
  ·exact .inr (g0 q w)
 ·have hj:j<σ.length:=by
   rw [E.l1]
   exact Nat.lt_of_lt_of_le (List.getElem?_eq_some_iff.mp h).1 E.lp
  rw [xI hj]
  exact E.pin j u h
 ·rcases gQ h with ⟨c,e⟩ | ⟨c,e⟩
  ·rw [hlen1] at c
   rcases xY e with ⟨rfl,w⟩ | ⟨ne,w⟩
   ·cases w
    simp only [if_true]
    exact ⟨r,by rw [xI (by rw [E.l1]; exact c)]; exact er,o'⟩
   ·obtain ⟨u,eu,ou⟩:=F.at_ j m3 w
    simp only [if_neg ne,if_pos c]
    exact ⟨u,by rw [xI (by rw [E.l1]; exact c)]; exact eu,ou.loc x.g m3 u _ fun q z=>keep j q z (dj1 j q ne z)⟩
  ·cases e
   rw [hlen1] at c
   subst c
   refine ⟨_,wn E.l1,?_⟩
   simp only [if_neg (Nat.ne_of_gt hi),Nat.lt_irrefl,if_false,if_true]
   exact or
 ·have a1:∀ j,j≠i->∀ q,(Ls i q/\¬ L1 q)\/L2 q->Ls j q->False:=fun j ne q z1 z2=>by
   rcases z1 with ⟨z1,_⟩ | z1
   ·exact F.dj i j q (fun c=>ne c.symm) z1 z2
   ·exact old j q z2 (dj1 j q ne z2) (.inr z1)
  have a2:∀ q,(Ls i q/\¬ L1 q)\/L2 q->Lr q->False:=fun q z1 z2=>by
   rcases z1 with ⟨z1,w⟩ | z1
   ·exact old i q z1 w (.inl z2)
   ·exact dj q z2 z1
  have a3:∀ j,j≠i->∀ q,Ls j q->Lr q->False:=fun j ne q z1 z2=>old j q z1 (dj1 j q ne z1) (.inl z2)
  split at z1
  ·split at z2
   ·exact ne (by omega)
   ·split at z2
    ·exact a1 k (by omega) q z1 z2
    ·split at z2
     ·exact a2 q z1 z2
     ·exact z2
  ·split at z1
   ·split at z2
    ·exact a1 j (by omega) q z2 z1
    ·split at z2
     ·exact F.dj j k q ne z1 z2
     ·split at z2
      ·exact a3 j (by omega) q z1 z2
      ·exact z2
   ·split at z1
    ·split at z2
     ·exact a2 q z2 z1
     ·split at z2
      ·exact a3 k (by omega) q z2 z1
      ·split at z2
       ·exact ne (by omega)
       ·exact z2
    ·exact z1
 ·have nw:∀ q,Ls j q->¬ L1 q->G' q=none/\H0 q=none/\Bx H' q:=fun q z w=>by
   obtain ⟨a,b,u,hu,cu⟩:=F.ok j q z
   refine ⟨?_,b,u,(keep j q z w).trans hu,cu⟩
   cases e:G' q with
   | none=>rfl
   | some o=>
    rcases x.new q (by rw [e]; exact fun z=>nomatch z) with c | c
    ·exact absurd a c
    ·rw [tL w,hu] at c
     cases c
  split at z
  ·rename_i ej
   subst ej
   rcases z with ⟨z,w⟩ | z
   ·exact nw q z w
   ·exact ⟨(hN q (.inr z)).1,g0 q (hN q (.inr z)).2,o2.cells nd' _ _ q z⟩
  ·rename_i ne
   split at z
   ·exact nw q z (dj1 j q ne z)
   ·split at z
    ·exact ⟨(hN q (.inl z)).1,g0 q (hN q (.inl z)).2,or.cells m' _ _ q z⟩
    ·exact z.elim
end
inductive AV where
 | v (d:D) | p (i:Nat) (π:List yR)
noncomputable abbrev wP:=zg->Option (List AV)
noncomputable def qy (K:PySem.W.Frag) (G H:Hp) (σ:St):List AV->List V->Prop
 | [],vs=>vs=[]
 | .v d::as,vs=>∃ v r,vs=v::r/\zP K G d v/\qy K G H σ as r
 | .p i π::as,vs=>∃ v r w,vs=v::r/\σ[i]?=some (some w)/\yr K H w π v/\qy K G H σ as r
structure MA (X:Cx) (es:List Expr) (f:wP):Prop where
 h:∃ t,PA X es t/\∀ {P:List V} {G0 H0 G H:Hp} {β:zg} {σ:St} {as:List AV} {Q:List V->Hp->Prop},zY X.K X.N.length P G0 H0 G H β σ->f β=some as->(∀ vs G' H',zK G H G' H'->qy X.K G' H' σ as vs->Q vs H')->t σ H Q
noncomputable def xj:wP:=fun _=>some []
noncomputable def jf (f:FE) (r:wP):wP:=fun β=>(f (wp β)).bind fun d=>match wM d with
 | true=>(r β).bind fun as=>some (.v d::as)
 | false=>none
noncomputable def w6 (f:FE) (r:wP):wP:=fun β=>(f (uC β)).bind fun d=>(r β).bind fun as=>some (.v d::as)
noncomputable def Oc (f:FE) (r:wP):wP:=fun β=>(f (wp β)).bind fun d=>match Vy d with
 | true=>(r β).bind fun as=>some (.v d::as)
 | false=>none
noncomputable def pU:M->Nat->List yR->AV
 | .fz d,_,_=>.v d
 | _,i,π=>.p i π
noncomputable def ww (i:Nat) (π:List yR) (r:wP):wP:=fun β=>(vm β i π).bind fun nd=>(r β).bind fun as=>some (pU nd i π::as)
section
variable {X:Cx} {e:Expr} {es:List Expr} {f:FE} {r:wP} {i:Nat} {π:List yR}
theorem vQ:MA X [] xj:=⟨⟨_,kY,fun E hf q=>by cases hf; exact q _ _ _ (zK.refl E.ext.gh) rfl⟩⟩
theorem Xb (he:SE X e f) (hr:MA X es r) (h:yT e=true:=by rfl):MA X (e::es) (jf f r):=by
 obtain ⟨t,p,k⟩:=he.h
 obtain ⟨t',p',k'⟩:=hr.h
 refine ⟨⟨_,j6 p p' h,fun E hf q=>?_⟩⟩
 obtain ⟨d,hd,hf⟩:=zC hf
 split at hf
 ·rename_i c
  obtain ⟨as,has,hf⟩:=zC hf
  cases hf
  obtain ⟨G1,E1,back⟩:=E.thw
  refine k E1 hd fun v G2 H2 x r=>?_
  obtain ⟨G3,x3,E3,r3,_⟩:=back _ _ x
  refine k' E3 has fun vs G' H' x' rr=>q _ _ _ (x3.trans x') ⟨v,vs,rfl,(r3 d v c r).mono x'.g,rr⟩
 ·cases hf
theorem wS (he:SE X e f) (hr:MA X es r) (h:yT e=true:=by rfl):MA X (e::es) (w6 f r):=by
 obtain ⟨t,p,k⟩:=he.h
 obtain ⟨t',p',k'⟩:=hr.h
 refine ⟨⟨_,j6 p p' h,fun E hf q=>?_⟩⟩
 obtain ⟨d,hd,hf⟩:=zC hf
 obtain ⟨as,has,hf⟩:=zC hf
 cases hf
 refine k E.hid hd fun v G2 H2 x r=>?_
 exact k' (E.go x) has fun vs G' H' x' rr=>q _ _ _ (x.trans x') ⟨v,vs,rfl,r.mono x'.g,rr⟩
theorem vj (he:SP X e i π) (hr:MA X es r) (h:yT e=true:=by rfl):MA X (e::es) (ww i π r):=by
 obtain ⟨t,p,k⟩:=he.h
 obtain ⟨t',p',k'⟩:=hr.h
 refine ⟨⟨_,j6 p p' h,fun E hf q=>?_⟩⟩
 obtain ⟨nd,hn,hf⟩:=zC hf
 obtain ⟨as,has,hf⟩:=zC hf
 obtain ⟨mm,hm,ha⟩:=tT hn
 obtain ⟨w,v1,L1,er,va,o1,_⟩:=E.back hm ha
 refine k er va (k' E has fun vs G' H' x' rr=>q _ _ _ x' ?_)
 cases nd with
 | fz d=>cases hf; exact ⟨v1,vs,rfl,o1.1.mono x'.g,rr⟩
 | own d=>cases hf; exact ⟨v1,vs,w,rfl,er,va.mono x'.h,rr⟩
 | obj x fs ms=>cases hf; exact ⟨v1,vs,w,rfl,er,va.mono x'.h,rr⟩
 | tab ks ms=>cases hf; exact ⟨v1,vs,w,rfl,er,va.mono x'.h,rr⟩
end
noncomputable def qw:List AV->Option (List D)
 | []=>some []
 | .v d::as=>(qw as).bind fun ds=>some (d::ds)
 | .p _ _::_=>none
noncomputable def jj:List AV->Option (List D×Nat×List yR×List D)
 | []=>none
 | .v d::as=>(jj as).bind fun r=>some (d::r.1,r.2)
 | .p i π::as=>(qw as).bind fun b=>some ([],i,π,b)
noncomputable def uB (ds:List D):List M:=ds.map .fz
noncomputable def pV (F:FM) (as:List AV) (β:zg):Option (M×zg):=match qw as with
 | some ds=>(F (uB ds)).bind fun r=>some (r.2,β)
 | none=>(jj as).bind fun c=>(vm β c.2.1 c.2.2.1).bind fun nd=>(F (uB c.1++nd::uB c.2.2.2)).bind fun r=>(r.1[c.1.length]?).bind fun nd'=>(putAt β c.2.1 c.2.2.1 nd').bind fun β'=>some (r.2,β')
noncomputable def wy (F:FM) (f:wP):yb:=fun β=>(f β).bind fun as=>pV F as β
section
variable {K:PySem.W.Frag} {n:Nat} {P:List V} {G0 H0 G H G' H':Hp} {β:zg} {σ:St}
theorem kX:∀ {ds:List D} {vs:List V},Reps K G ds vs->OwnMs K G H (uB ds) vs (fun _=>False)
 | [],_,r=>⟨r,fun _ z=>z⟩
 | d::ds,_,r=>by
  obtain ⟨v,r,rfl,hv,hr⟩:=r
  exact ⟨v,r,fun _=>False,fun _=>False,rfl,⟨hv,fun _ z=>z⟩,kX hr,fun _ z=>z.elim,fun q=>⟨fun z=>z.elim,fun z=>z.elim id id⟩⟩
theorem Ja {nd:M} {v1:V} {L1:Ft} (o:yE K G H nd v1 L1) {b:List D} {vb:List V} (rb:Reps K G b vb):∀ {a:List D} {va:List V},Reps K G a va->OwnMs K G H (uB a++nd::uB b) (va++v1::vb) L1
 | [],va,r=>by
  cases (show va=[] from r)
  exact ⟨v1,vb,L1,fun _=>False,rfl,o,kX rb,fun _ _ z=>z,fun q=>⟨.inl,fun z=>z.elim id False.elim⟩⟩
 | d::ds,_,r=>by
  obtain ⟨v,r,rfl,hv,hr⟩:=r
  exact ⟨v,_,fun _=>False,L1,rfl,⟨hv,fun _ z=>z⟩,Ja o rb hr,fun _ z=>z.elim,fun q=>⟨.inr,fun z=>z.elim False.elim id⟩⟩
theorem YL:∀ {as:List AV} {ds:List D} {vs:List V},qw as=some ds->qy K G H σ as vs->Reps K G ds vs
 | [],ds,vs,e,r=>by cases e; exact r
 | .v d::as,ds,vs,e,r=>by
  obtain ⟨ds',e',e⟩:=zC e
  cases e
  obtain ⟨v,r,rfl,hv,hr⟩:=r
  exact ⟨v,r,rfl,hv,YL e' hr⟩
 | .p i π::as,ds,vs,e,r=>by cases e
theorem TR:∀ {as:List AV} {a b:List D} {i:Nat} {π:List yR} {vs:List V},jj as=some (a,i,π,b)->qy K G H σ as vs->∃ va v1 vb w,vs=va++v1::vb/\Reps K G a va/\Reps K G b vb/\σ[i]?=some (some w)/\yr K H w π v1
 | [],a,b,i,π,vs,e,r=>by cases e
 | .v d::as,a,b,i,π,vs,e,r=>by
  obtain ⟨⟨a',i',π',b'⟩,e',e⟩:=zC e
  cases e
  obtain ⟨v,r,rfl,hv,hr⟩:=r
  obtain ⟨va,v1,vb,w,rfl,ra,rb,ew,va'⟩:=TR e' hr
  exact ⟨v::va,v1,vb,w,rfl,⟨v,va,rfl,hv,ra⟩,rb,ew,va'⟩
 | .p j ρ::as,a,b,i,π,vs,e,r=>by
  obtain ⟨b',e',e⟩:=zC e
  cases e
  obtain ⟨v,r,w,rfl,ew,va,hr⟩:=r
  exact ⟨[],v,r,w,rfl,rfl,YL e' hr,ew,va⟩
theorem U4 {v1:V} {nd:M}:∀ {ms:List M} {vs:List V} {L:Ft} {k:Nat},OwnMs K G H ms vs L->ms[k]?=some nd->vs[k]?=some v1->∃ L2,yE K G H nd v1 L2/\∀ q,L2 q->L q
 | [],_,_,_,_,e,_=>by cases e
 | m::ms,_,L,0,h,e1,e2=>by
  obtain ⟨v,r,La,Lb,rfl,hv,hr,d,u⟩:=h
  cases e1
  cases e2
  exact ⟨La,hv,fun q z=>(u q).mpr (.inl z)⟩
 | m::ms,_,L,k+1,h,e1,e2=>by
  obtain ⟨v,r,La,Lb,rfl,hv,hr,d,u⟩:=h
  obtain ⟨L2,o,s⟩:=U4 (k:=k) hr (by simpa using e1) (by simpa using e2)
  exact ⟨L2,o,fun q z=>(u q).mpr (.inr (s q z))⟩
theorem zY.call {F:FM} {as:List AV} {vs:List V} {m:M} {β':zg} {Q:VK} {E0:XK} (E:zY K n P G0 H0 G H β σ) (ra:qy K G H σ as vs) (hf:pV F as β=some (m,β')) (q:∀ v G' H',zW G G'->zY K (n+1) P G0 H0 G' H' (β'++[some m]) (σ++[some v])->Q v H'):zk K F vs H Q E0:=by
 unfold pV at hf
 split at hf
 ·rename_i ds e
  obtain ⟨⟨ms',m'⟩,hF,hf⟩:=zC hf
  cases hf
  refine ⟨G,_,_,_,_,E.ext.gh,kX (YL e ra),fun _ z=>z.elim,hF,fun v G' H' L' x o hN=>?_⟩
  have ec:vL H (fun _=>False)=H:=by
   funext q
   exact tL (fun z=>z)
  rw [ec] at x
  obtain ⟨v',r',La,Lb,e2,o1,o2,dj,u⟩:=o
  cases e2
  exact q v G' H' x.g (E.pushN x o1 fun q z=>by
   obtain ⟨a,b⟩:=hN q ((u q).mpr (.inl z))
   rw [ec] at b
   exact ⟨a,b⟩)
 ·obtain ⟨⟨a,i,π,b⟩,hc,hf⟩:=zC hf
  obtain ⟨nd,hn,hf⟩:=zC hf
  obtain ⟨⟨ms',m'⟩,hF,hf⟩:=zC hf
  obtain ⟨nd',hnd,hf⟩:=zC hf
  obtain ⟨β2,hβ,hf⟩:=zC hf
  cases hf
  obtain ⟨mm,hm,ha⟩:=tT hn
  obtain ⟨w,v1,L1,er,va,o1,g1,bk⟩:=E.back hm ha
  obtain ⟨xa,v1',xb,w',rfl,r1,r2,er',va'⟩:=TR hc ra
  rw [er] at er'
  cases er'
  cases yr.one va va'
  refine ⟨G,_,L1,_,_,E.ext.gh,Ja o1 r2 r1,g1,hF,fun v G' H' L' x o hN=>?_⟩
  obtain ⟨v',r',La,Lb,e2,oa,ob,dj,u⟩:=o
  cases e2
  obtain ⟨L2,o2,s2⟩:=U4 (v1:=v1) ob hnd (by
   rw [<- r1.length,List.getElem?_append_right (Nat.le_refl _),Nat.sub_self]
   rfl)
  obtain ⟨m3,e3,K3⟩:=bk x oa o2 (fun q z w=>dj q z (s2 q w)) (fun q z=>by
   rcases z with z | z
   ·exact hN q ((u q).mpr (.inl z))
   ·exact hN q ((u q).mpr (.inr (s2 q z))))
  rw [j7 hm e3] at hβ
  cases hβ
  exact q v G' H' x.g K3
end
section
variable {X:Cx} {x m c:Str} {ps:List Str} {j k:Nat} {F:FM} {e o:Expr} {es:List Expr} {fa:wP} {p pos apos:Pos} {i:Nat} {π:List yR}
theorem uy (h:zH X.prog X.w X.K X.mg X.base x ps k (zk X.K F)) (hr:yF j X.A) (hg:Gl X x) (ha:MA X (e::es) fa) (hk:k<=j:=by decide) (hdb:(x == ("__debug__" : Str))=false:=by decide)
  (he:(e::es).all yT=true:=by rfl):MC X (.Call (.Name x p) (e::es) [] pos) (wy F fa):=by
 obtain ⟨t,pa,ka⟩:=ha.h
 refine ⟨⟨_,U8 h hr hg pa hk hdb he,fun E hf q=>?_⟩⟩
 obtain ⟨as,has,hf⟩:=zC hf
 refine ka E has fun vs G1 H1 x1 ra=>?_
 rw [List.append_nil]
 exact (E.go x1).call ra hf fun v G' H' s K'=>q v G' H' (x1.g.trans s) K'
noncomputable def wF (P:Program) (w:World) (K:PySem.W.Frag) (mg:Str->Option Value) (base:Heap) (c m:Str) (ps:List Str) (k:Nat) (sp:Sp):Prop:=
 ∃ (C f:Addr) (fd:FuncData),PySem.W.nsIn K mainGlobals c=some (some (.ref C))/\wt K C/\WQ K C m f/\xQ K fd ps []/\yY P w K mg base yZ k f fd ps sp
noncomputable def pW (c m:Str) (i:Nat) (π:List yR) (F:FM) (f:wP):yb:=fun β=>(vm β i π).bind fun nd=>match nd with
 | .obj x fs _=>match decide (x=c)&&!(decide (m∈fs)) with
  | true=>(f β).bind fun as=>pV F (.p i π::as) β
  | false=>none
 | _=>none
theorem Vj {f:Str}:∀ {fs:List Str} {vs:List V},f ∉ fs->(fs.zip vs).lookup f=none
 | [],_,_=>rfl
 | _::_,[],_=>rfl
 | g::fs,v::vs,h=>by
  rw [List.zip_cons_cons,List.lookup_cons]
  have c:(f == g)=false:=by
   have:f≠g:=fun z=>h (z ▸ List.mem_cons_self)
   simpa using this
  rw [c]
  exact Vj fun z=>h (List.mem_cons_of_mem _ z)
theorem LE {P:List V} {G0 H0 G H:Hp} {β β':zg} {σ:St} {mr:M} {Q:VK} {C:Addr} {t:TA} {to:TE} {E0:XK} (nsC:PySem.W.nsIn X.K mainGlobals c=some (some (.ref C)))
  (ko:∀ {σ:St} {H:Hp} {v u:V} {Q:VK},σ[i]?=some (some v)->yr X.K H v π u->Q u H->to σ H Q)
  (ka:∀ {P:List V} {G0 H0 G H:Hp} {β:zg} {σ:St} {as:List AV} {Q:List V->Hp->Prop},zY X.K X.N.length P G0 H0 G H β σ->fa β=some as->(∀ vs G' H',zK G H G' H'->qy X.K G' H' σ as vs->Q vs H')->t σ H Q)
  (E:zY X.K X.N.length P G0 H0 G H β σ) (hf:pW c m i π F fa β=some (mr,β')) (q:∀ v G' H',zW G G'->zY X.K (X.N.length+1) P G0 H0 G' H' (β'++[some mr]) (σ++[some v])->Q v H'):Um C m (zk X.K F) [] E0 to t σ H Q:=by
 obtain ⟨nd,hn,hf⟩:=zC hf
 split at hf
 ·rename_i x fs ms
  split at hf
  ·rename_i cc
   rw [Bool.and_eq_true] at cc
   cases of_decide_eq_true cc.1
   have hm:m ∉ fs:=by
    have:=cc.2
    simpa using this
   obtain ⟨as,has,hf⟩:=zC hf
   obtain ⟨mm,hmm,ha⟩:=tT hn
   obtain ⟨w,v1,L1,er,va,o1,_⟩:=E.back hmm ha
   obtain ⟨p,C',dx,vs,L',rfl,ns,hp,l,rs,nL,uL⟩:=o1
   rw [nsC] at ns
   cases ns
   refine ko er va ⟨p,dx,_,rfl,hp,Vj hm,?_⟩
   refine ka E has fun vs G1 H1 x1 ra=>?_
   rw [List.append_nil]
   exact (E.go x1).call (as:=.p i π::as) ⟨_,vs,w,rfl,er,va.mono x1.h,ra⟩ hf fun v G' H' s K'=>q v G' H' (x1.g.trans s) K'
  ·cases hf
 ·cases hf
theorem Vo {pl:Sem Bool} (h:wF X.prog X.w X.K X.mg X.base c m ps k (zk X.K F)) (hr:yF j X.A) (ho:SP X o i π) (hk:k<=j:=by decide)
  (ht:eval (.Call (.Attribute o m apos) [] [] pos) X.env=(do
   let ov <- eval o X.env
   standAt apos.atName
   let (f,first) <- holding [ov] (getMethod ov m pl)
   callWith pos f first (backTo pos (starEach [] X.env)) (backToKw pos (keywordEach [] X.env))):=by rfl):MC X (.Call (.Attribute o m apos) [] [] pos) (pW c m i π F xj):=by
 obtain ⟨C,f,fd,ns,cl,me,b,FF⟩:=h
 obtain ⟨to,po,ko⟩:=ho.h
 exact ⟨⟨_,Jj po cl me FF (hr.mono hk) b .nil gE ht,fun E hf q=>LE (t:=Y1) ns ko (fun {P G0 H0 G H β σ as Q} E' e k'=>by cases e; exact k' _ _ _ (zK.refl E'.ext.gh) rfl) E hf q⟩⟩
noncomputable def gZ (P:Program) (w:World) (K:PySem.W.Frag) (mg:Str->Option Value) (base:Heap) (c:Str) (ps:List Str) (k:Nat) (sp:Sp):Prop:=
 ∃ (C f:Addr) (fd:FuncData),PySem.W.nsIn K mainGlobals c=some (some (.ref C))/\mg c=some (.ref C)/\Mk K C f/\xQ K fd ps []/\yY P w K mg base yZ k f fd ps sp
noncomputable def Yy (c:Str) (F:FM) (f:wP):yb:=fun β=>(f β).bind fun as=>(qw as).bind fun ds=>(F (.obj c [] []::uB ds)).bind fun r=>match r.2 with
 | .fz .non=>(r.1[0]?).bind fun m=>some (m,β)
 | _=>none
theorem JL (h:gZ X.prog X.w X.K X.mg X.base c ps k (zk X.K F)) (hr:yF j X.A) (hg:Gl X c) (ha:MA X (e::es) fa) (hk:k+1<=j:=by decide) (hdb:(c == ("__debug__" : Str))=false:=by decide) (he:(e::es).all yT=true:=by rfl) :
  MC X (.Call (.Name c p) (e::es) [] pos) (Yy c F fa):=by
 obtain ⟨C,f,fd,ns,mgc,mk,b,FF⟩:=h
 obtain ⟨t,pa,ka⟩:=ha.h
 rw [List.all_cons,Bool.and_eq_true] at he
 refine ⟨⟨_,Cu mk FF (hr.mono hk) hg mgc b .nil gE pa hdb (vG he.1) (qq he.2),fun {P G0 H0 G H β β' σ mr Q} E hf q=>?_⟩⟩
 obtain ⟨as,has,hf⟩:=zC hf
 obtain ⟨ds,hds,hf⟩:=zC hf
 obtain ⟨⟨ms',m'⟩,hF,hf⟩:=zC hf
 refine ka E has fun vs G1 H1 x1 ra y dy ny ndy ne=>?_
 rw [List.append_nil]
 have E1:=E.go x1
 have rd:=YL hds ra
 split at hf
 ·rename_i em
  change m'=.fz .non at em
  subst em
  obtain ⟨m0,h0,hf⟩:=zC hf
  cases hf
  have a1:∀ q,q≠y->q≠dy->zQ (zQ H1 dy (.own y)) y (.ins C dy []) q=H1 q:=fun q z w=>by rw [zw z,zw w]
  have gy:G1 y=none:=E1.ext.gh.free ny
  have s2:zW G1 (zQ (zQ H1 dy (.own y)) y (.ins C dy [])):=fun q o z=>by
   have h1:=E1.ext.gh _ _ z
   rw [a1 q (fun c=>by subst c; rw [ny] at h1; cases h1) (fun c=>by subst c; rw [ndy] at h1; cases h1)]
   exact h1
  refine ⟨G1,.obj c [] []::uB ds,fun q=>q=y,ms',.fz .non,s2,⟨_,vs,fun q=>q=y,fun _=>False,rfl,⟨y,C,dy,[],fun _=>False,rfl,ns,yK,rfl,⟨rfl,fun _ z=>z⟩,fun z=>z,fun q=>⟨.inl,fun z=>z.elim id False.elim⟩⟩,kX rd,fun _ _ z=>z,fun q=>⟨.inl,fun z=>z.elim id False.elim⟩⟩,fun q z=>z ▸ gy,hF,fun v G' H' L' x2 o hN=>?_⟩
  obtain ⟨v',r',La,Lb,e2,oa,ob,dj,u⟩:=o
  cases e2
  refine ⟨oa.1,?_⟩
  obtain ⟨L2,o2,s2'⟩:=U4 (v1:=.ref y) ob h0 rfl
  have cn:∀ q,vL (zQ (zQ H1 dy (.own y)) y (.ins C dy [])) (fun q=>q=y) q=none->H1 q=none:=fun q z=>by
   rcases QC z with z | z
   ·exact z ▸ ny
   ·by_cases c1:q=y
    ·exact c1 ▸ ny
    ·by_cases c2:q=dy
     ·exact c2 ▸ ndy
     ·rw [a1 q c1 c2] at z; exact z
  have x3:zK G1 H1 G' H':=⟨x2.g,fun q o z=>x2.h _ _ (by
   have c1:q≠y:=fun c=>by subst c; rw [ny] at z; cases z
   have c2:q≠dy:=fun c=>by subst c; rw [ndy] at z; cases z
   rw [tL (L:=fun q=>q=y) c1,a1 q c1 c2]
   exact z),x2.gh,fun q z=>by
   rcases x2.new q z with w | w
   ·exact .inl w
   ·exact .inr (cn q w)⟩
  exact q _ G' H' (x1.g.trans x3.g) (E1.pushN x3 o2 fun q z=>by
   obtain ⟨a,b⟩:=hN q ((u q).mpr (.inr (s2' q z)))
   exact ⟨a,cn q b⟩)
 ·cases hf
end
end L3
namespace L3
open PySem PySem.Spec PyProof.Rows L2
section
variable {K:PySem.W.Frag} {G H:Hp}
theorem OwnMs.split:∀ {ms:List M} {vs:List V} {L:Ft},OwnMs K G H ms vs L->∃ Ls:Nat->Ft,(∀ (i:Nat) (m:M),ms[i]?=some m->∃ v,vs[i]?=some v/\yE K G H m v (Ls i))/\(∀ (i j:Nat) (q:Addr),i≠j->Ls i q->Ls j q->False)/\∀ i q,Ls i q->L q
 | [],_,_,_=>⟨fun _ _=>False,⟨fun i m h=>(by cases h),⟨fun _ _ _ _ z=>z.elim,fun _ _ z=>z.elim⟩⟩⟩
 | m::ms,_,L,h=>by
  obtain ⟨v,r,La,Lb,rfl,hv,hr,d,u⟩:=h
  obtain ⟨Ls,h1,h2,h3⟩:=OwnMs.split hr
  refine ⟨fun i=>match i with | 0=>La | j+1=>Ls j,fun i m' e=>?_,fun i j q ne z1 z2=>?_,fun i q z=>?_⟩
  ·cases i with
   | zero=>cases e; exact ⟨v,rfl,hv⟩
   | succ j=>exact h1 j m' (by simpa using e)
  ·cases i with
   | zero=>
    cases j with
    | zero=>exact ne rfl
    | succ j=>exact d q z1 (h3 j q z2)
   | succ i=>
    cases j with
    | zero=>exact d q z2 (h3 i q z1)
    | succ j=>exact h2 i j q (fun c=>ne (by rw [c])) z1 z2
  ·cases i with
   | zero=>exact (u q).mpr (.inl z)
   | succ j=>exact (u q).mpr (.inr (h3 j q z))
theorem OwnMs.join:∀ {ms:List M} {vs:List V} {Ls:Nat->Ft},(∀ (i:Nat) (m:M),ms[i]?=some m->∃ v,vs[i]?=some v/\yE K G H m v (Ls i))->(∀ (i j:Nat) (q:Addr),i≠j->Ls i q->Ls j q->False)->vs.length=ms.length->∃ L,OwnMs K G H ms vs L/\∀ q,L q->∃ i,i<ms.length/\Ls i q
 | [],vs,Ls,_,_,l=>by
  cases vs with
  | nil=>exact ⟨fun _=>False,⟨rfl,fun _ z=>z⟩,fun _ z=>z.elim⟩
  | cons v r=>cases l
 | m::ms,[],Ls,_,_,l=>by cases l
 | m::ms,v::vs,Ls,h,d,l=>by
  obtain ⟨L,o,hL⟩:=OwnMs.join (ms:=ms) (vs:=vs) (Ls:=fun i=>Ls (i+1)) (fun i m' e=>by
   obtain ⟨u,eu,ou⟩:=h (i+1) m' (by simpa using e)
   exact ⟨u,by simpa using eu,ou⟩) (fun i j q ne=>d (i+1) (j+1) q (by omega)) (Nat.succ.inj l)
  obtain ⟨u,eu,ou⟩:=h 0 m rfl
  cases eu
  refine ⟨fun q=>Ls 0 q\/L q,⟨v,vs,Ls 0,L,rfl,ou,o,fun q z1 z2=>?_,fun q=>Iff.rfl⟩,fun q z=>?_⟩
  ·obtain ⟨i,_,z⟩:=hL q z2
   exact d 0 (i+1) q (by omega) z1 z
  ·rcases z with z | z
   ·exact ⟨0,Nat.succ_pos _,z⟩
   ·obtain ⟨i,hi,z⟩:=hL q z
    exact ⟨i+1,Nat.succ_lt_succ hi,z⟩
end
noncomputable def uP:List (Option M)->Option (List M)
 | []=>some []
 | o::r=>o.bind fun m=>(uP r).bind fun ms=>some (m::ms)
noncomputable def gz (np:Nat):qM->Option (List M×M)
 | .rt m β=>(uP (β.take np)).bind fun ms=>some (ms,m)
 | .nx β=>(uP (β.take np)).bind fun ms=>some (ms,.fz .non)
 | _=>none
noncomputable def wA (np n:Nat) (b:zu) (ms:List M):Option (List M×M):=(b (ms.map some++List.replicate (n - ms.length) none)).bind (gz np)
noncomputable def xR (np n:Nat) (b:zu):FM:=fun ms=>if ms.length=np then wA np n b ms else none
theorem xZ {np n:Nat} {b:zu}:∀ ms r,xR np n b ms=some r->ms.length=np/\wA np n b ms=some r:=fun ms r h=>by
 unfold xR at h
 split at h
 ·rename_i c
  exact ⟨c,h⟩
 ·cases h
theorem TN:∀ {os:List (Option M)} {ms:List M},uP os=some ms->ms.length=os.length/\∀ (i:Nat) (m:M),ms[i]?=some m->os[i]?=some (some m)
 | [],ms,h=>by cases h; exact ⟨rfl,fun i m e=>by cases e⟩
 | o::r,ms,h=>by
  obtain ⟨m0,e0,h⟩:=zC h
  obtain ⟨ms',e',h⟩:=zC h
  cases h
  subst e0
  obtain ⟨l,g⟩:=TN e'
  refine ⟨by rw [List.length_cons,List.length_cons,l],fun i m e=>?_⟩
  cases i with
  | zero=>cases e; rfl
  | succ j=>exact g j m (by simpa using e)
section
variable {K:PySem.W.Frag}
theorem Bn {N:List Str} {G H:Hp} {ms:List M} {vs:List V} {L:Ft} (s:zW G H) (o:OwnMs K G H ms vs L) (hL:∀ q,L q->G q=none) (hl:ms.length<=N.length):zY K N.length vs G (vL H L) G H (ms.map some++List.replicate (N.length - ms.length) none) (L2.start N vs):=by
 have l:=o.length
 obtain ⟨Ls,h1,h2,h3⟩:=o.split
 have cel:∀ q,L q->Bx H q:=OwnMs.cells (fun m _ v L1 oo=>oo.cells m v L1) o
 have get:∀ (i:Nat) (v:V),vs[i]?=some v->(L2.start N vs)[i]?=some (some v):=fun i v e=>by
  unfold L2.start
  rw [List.getElem?_append_left (by rw [List.length_map]; exact (List.getElem?_eq_some_iff.mp e).1),List.getElem?_map,e]
  rfl
 refine ⟨⟨zW.refl _,fun q o e=>?_,s,fun q z=>.inl z⟩,?_,?_,by omega,get,Ls,fun i m h=>?_,h2,fun i q z=>⟨hL q (h3 i q z),QB (h3 i q z),cel q (h3 i q z)⟩⟩
 ·by_cases c:L q
  ·rw [QB c] at e; cases e
  ·rw [tL c] at e; exact e
 ·unfold L2.start
  rw [List.length_append,List.length_map,List.length_replicate]
  omega
 ·rw [List.length_append,List.length_map,List.length_replicate]
  omega
 ·obtain ⟨m',e,z⟩:=Xc h
  cases z
  obtain ⟨v,ev,ov⟩:=h1 i m e
  exact ⟨v,get i v ev,ov⟩
theorem JK {n:Nat} {G0 H0 G H:Hp} {vs:List V} {β:zg} {σ:St} {m:M} {v:V} {ms:List M} (E:zY K (n+1) vs G0 H0 G H (β++[some m]) (σ++[some v])) (hn:vs.length<=n) (h:uP (β.take vs.length)=some ms) :
  ∃ L,OwnMs K G H (m::ms) (v::vs) L/\∀ q,L q->G q=none/\H0 q=none:=by
 obtain ⟨Ls,F⟩:=E.own
 obtain ⟨l,g⟩:=TN h
 rw [List.length_take,E.l2',Nat.min_eq_left hn] at l
 obtain ⟨u,eu,ou⟩:=F.at_ n m (wn E.l2')
 rw [wn E.l1'] at eu
 cases eu
 obtain ⟨L,o,hL⟩:=OwnMs.join (K:=K) (G:=G) (H:=H) (ms:=m::ms) (vs:=v::vs) (Ls:=fun i=>match i with | 0=>Ls n | j+1=>if j<n then Ls j else fun _=>False) (fun i m' e=>by
  cases i with
  | zero=>cases e; exact ⟨v,rfl,ou⟩
  | succ j=>
   have e':ms[j]?=some m':=by simpa using e
   have hj:j<vs.length:=by rw [<- l]; exact (List.getElem?_eq_some_iff.mp e').1
   have e2:=g j m' e'
   rw [List.getElem?_take] at e2
   rw [if_pos hj] at e2
   obtain ⟨w,ew,ow⟩:=F.at_ j m' (by rw [xI (by rw [E.l2']; omega)]; exact e2)
   have e3:=E.pin j (vs[j]) (List.getElem?_eq_getElem hj)
   rw [ew] at e3
   cases e3
   refine ⟨vs[j],by simp [hj],?_⟩
   simp only [if_pos (show j<n by omega)]
   exact ow) (fun i j q ne z1 z2=>by
  cases i with
  | zero=>
   cases j with
   | zero=>exact ne rfl
   | succ j=>
    dsimp only at z1 z2
    split at z2
    ·exact F.dj n j q (by omega) z1 z2
    ·exact z2
  | succ i=>
   cases j with
   | zero=>
    dsimp only at z1 z2
    split at z1
    ·exact F.dj n i q (by omega) z2 z1
    ·exact z1
   | succ j=>
    dsimp only at z1 z2
    split at z1
    ·split at z2
     ·exact F.dj i j q (by omega) z1 z2
     ·exact z2
    ·exact z1) (by rw [List.length_cons,List.length_cons,l])
 refine ⟨L,o,fun q z=>?_⟩
 obtain ⟨i,_,z⟩:=hL q z
 cases i with
 | zero=>exact ⟨(F.ok n q z).1,(F.ok n q z).2.1⟩
 | succ j=>
  dsimp only at z
  split at z
  ·exact ⟨(F.ok j q z).1,(F.ok j q z).2.1⟩
  ·exact z.elim
end
structure yu (K:PySem.W.Frag) (x qual:Str) (st:Stmt) (f:Addr) (fd:FuncData):Prop where
 ex:∃ (oc:Value) (od:Option Addr) (dV kV doc pm:Value) (an:Option Addr) (cdv ct:Value) (osl:Array (Option Value)),
  fd=PySem.W.fnOf x qual (yl st) (yM st) (zM st) dV kV doc pm an cdv ct/\K.lookup f=some ⟨oc,od,.func fd,osl⟩/\PySem.W.codeIn K cdv qual=true
 kp:PySem.W.keepIn K (.ref f)=true
theorem _root_.L2.Fun.v {K:PySem.W.Frag} {x qual:Str} {st:Stmt} {f:Addr} {fd:FuncData} (F:Fun K x qual st f fd):yu K x qual st f fd:=by
 obtain ⟨oc,od,kV,doc,pm,an,cdv,ct,osl,e,lk,hcd⟩:=F.ex
 exact ⟨⟨oc,od,.none,kV,doc,pm,an,cdv,ct,osl,e,lk,hcd⟩,F.kp⟩
section
variable {P:Program} {w:World} {K:PySem.W.Frag} {mg:Str->Option Value} {base:Heap}
theorem uV {x qual:Str} {st:Stmt} {f:Addr} {oc:Value} {od an:Option Addr} {osl:Array (Option Value)} {dV kV doc pm cdv ct:Value} (l:K.lookup f=some ⟨oc,od,.func (PySem.W.fnOf x qual (yl st) (yM st) (zM st) dV kV doc pm an cdv ct),osl⟩)
  (c:PySem.W.codeIn K cdv qual=true) (k:PySem.W.keepIn K (.ref f)=true):yu K x qual st f (PySem.W.fnOf x qual (yl st) (yM st) (zM st) dV kV doc pm an cdv ct):=⟨⟨oc,od,dV,kV,doc,pm,an,cdv,ct,osl,rfl,l,c⟩,k⟩
theorem yu.ok {x qual:Str} {st:Stmt} {f:Addr} {fd:FuncData} {N ps:List Str} {k:Nat} {sp:Sp} (F:yu K x qual st f fd) (S:ze N ps (zM st)) (len:∀ vs H Q E,sp vs H Q E->vs.length=ps.length)
  (hbody:∀ (cdv:Value) (A:Around) (outer:List Env) (s:Shared) (H:Hp) (vs:List V) (Q:VK) (E:XK),yF k (A.deeper (envOfC qual (zM st) s.heap.objs.size f cdv))->sp vs H Q E->
   ∃ t,wV (vf yZ P w K mg base N qual (zM st) f cdv A outer s H E).nox (yM st) t/\t { nx:=fun _ H'=>Q .non H',rt:=Q } (start N vs) H):yY P w K mg base yZ (k+1) f fd ps sp:=by
 obtain ⟨oc,od,dV,kV,doc,pm,an,cdv,ct,osl,rfl,lk,hcd⟩:=F.ex
 refine Qf lk hcd S len fun A outer s H vs Q E hr hsp=>?_
 obtain ⟨t,h,q⟩:=hbody cdv A outer s H vs Q E hr hsp
 exact ⟨t,h.nox,q⟩
theorem yu.okM {x qual:Str} {st:Stmt} {f:Addr} {fd:FuncData} {N ps:List Str} {k:Nat} {F:FM} {b:zu} (d:yu K x qual st f fd) (S:ze N ps (zM st)) (hN:ps.length<=N.length) (hF:∀ ms r,F ms=some r->ms.length=ps.length/\wA ps.length N.length b ms=some r)
  (hb:∀ (cdv:Value) (A:Around) (outer:List Env) (s:Shared) (H:Hp) (E:XK),yF k (A.deeper (envOfC qual (zM st) s.heap.objs.size f cdv))->tH (vf yZ P w K mg base N qual (zM st) f cdv A outer s H E).nox ps.length (yM st) b):yY P w K mg base yZ (k+1) f fd ps (zk K F):=by
 refine d.ok S (fun vs H Q E h=>?_) fun cdv A outer s H vs Q E hr h=>?_
 ·obtain ⟨G,ms,L,ms',m',_,o,_,e,_⟩:=h
  rw [o.length,(hF _ _ e).1]
 ·obtain ⟨G,ms,L,ms',m',s',o,hL,e,q⟩:=h
  obtain ⟨l,hrun⟩:=hF _ _ e
  obtain ⟨t,p,kt⟩:=(hb cdv A outer s H E hr).h
  obtain ⟨fl,hfl,hrun⟩:=zC hrun
  have lv:vs.length=ps.length:=by rw [o.length,l]
  refine ⟨t,p,kt lv (Bn (N:=N) s' o hL (by omega)) hfl ?_⟩
  cases fl with
  | nx β=>
   obtain ⟨ms2,ha,hrun⟩:=zC (show (uP (β.take ps.length)).bind _=_ from hrun)
   cases hrun
   intro σ G' H' K'
   obtain ⟨L2,o2,h2⟩:=JK (K'.pushF (d:=.non) (v:=.non) rfl) (by rw [lv]; exact hN) (by rw [lv]; exact ha)
   exact q .non G' H' L2 K'.ext o2 h2
  | rt m β=>
   obtain ⟨ms2,ha,hrun⟩:=zC (show (uP (β.take ps.length)).bind _=_ from hrun)
   cases hrun
   intro σ v G' H' K'
   obtain ⟨L2,o2,h2⟩:=JK K' (by rw [lv]; exact hN) (by rw [lv]; exact ha)
   exact q v G' H' L2 K'.ext o2 h2
  | _=>cases hrun
theorem yu.okF {x qual:Str} {st:Stmt} {f:Addr} {fd:FuncData} {N ps:List Str} {k:Nat} {F:List D->Option (Bool×D)} {b:FS} (d:yu K x qual st f fd) (S:ze N ps (zM st)) (hN:ps.length<=N.length) (hF:∀ ds r,F ds=some r->ds.length=ps.length/\zZ N.length b ds=some r)
  (hb:∀ (cdv:Value) (A:Around) (outer:List Env) (s:Shared) (H:Hp) (E:XK),yF k (A.deeper (envOfC qual (zM st) s.heap.objs.size f cdv))->vY (vf yZ P w K mg base N qual (zM st) f cdv A outer s H E).nox (yM st) b):yY P w K mg base yZ (k+1) f fd ps (zO K F):=by
 refine d.ok S (fun vs H Q E h=>?_) fun cdv A outer s H vs Q E hr h=>?_
 ·obtain ⟨G,ds,o,dd,_,r,e,_⟩:=h
  rw [r.length,(hF _ _ e).1]
 ·obtain ⟨G,ds,o,dd,s',r,e,q⟩:=h
  obtain ⟨l,hrun⟩:=hF _ _ e
  obtain ⟨t,p,kt⟩:=(hb cdv A outer s H E hr).h
  obtain ⟨fl,hfl,hrun⟩:=zC hrun
  refine ⟨t,p,kt (V9 (N:=N) s' r (by omega)) hfl ?_⟩
  cases fl with
  | nx τ=>
   cases hrun
   exact fun σ G' H' z=>q .non G' H' z.ext rfl
  | rt o' d'=>
   cases hrun
   cases o with
   | false=>exact q
   | true=>exact q
  | _=>cases hrun
theorem zE.okM {x:Str} {st:Stmt} {N ps:List Str} {k:Nat} {F:FM} {b:zu} (d:zE K mg x st ps) (S:ze N ps (zM st)) (hN:ps.length<=N.length) (hF:∀ ms r,F ms=some r->ms.length=ps.length/\wA ps.length N.length b ms=some r)
  (hb:∀ (f:Addr) (cdv:Value) (A:Around) (outer:List Env) (s:Shared) (H:Hp) (E:XK),yF k (A.deeper (envOfC x (zM st) s.heap.objs.size f cdv))->tH (vf yZ P w K mg base N x (zM st) f cdv A outer s H E).nox ps.length (yM st) b):zH P w K mg base x ps (k+1) (zk K F):=by
 obtain ⟨f,fd,F',hm,hb'⟩:=d
 exact ⟨f,fd,hm,F'.kp,hb',F'.v.okM S hN hF (hb f)⟩
noncomputable def pp (F:FM):List D->Option (Bool×D):=fun ds=>(F (uB ds)).bind fun r=>match r.2 with
 | .fz d=>some (false,d)
 | .own d=>some (true,d)
 | _=>none
theorem KS {F:FM} {vs:List V} {H:Hp} {Q:VK} {E:XK} (h:zO K (pp F) vs H Q E):zk K F vs H Q E:=by
 obtain ⟨G,ds,o,d,s,r,e,q⟩:=h
 obtain ⟨⟨ms',m'⟩,hF,e⟩:=zC e
 have ec:vL H (fun _=>False)=H:=by
  funext q
  exact tL (fun z=>z)
 refine ⟨G,uB ds,fun _=>False,ms',m',s,kX r,fun _ z=>z.elim,hF,fun v G' H' L' x oo hN=>?_⟩
 rw [ec] at x
 obtain ⟨v',r',La,Lb,e2,oa,ob,dj,u⟩:=oo
 cases e2
 cases m' with
 | fz d'=>cases e; exact q v G' H' x oa.1
 | own d'=>
  cases e
  obtain ⟨p,rfl,op,uL⟩:=oa
  obtain ⟨a,b⟩:=hN p ((u p).mpr (.inl ((uL p).mpr rfl)))
  rw [ec] at b
  exact q p G' H' x b a op
 | _=>cases e
theorem zH.fzM {x:Str} {ps:List Str} {k:Nat} {F:FM} (h:zH P w K mg base x ps k (zk K F)):zH P w K mg base x ps k (zO K (pp F)):=by
 obtain ⟨f,fd,hm,kp,b,FF⟩:=h
 exact ⟨f,fd,hm,kp,b,FF.imp fun vs H Q E z=>KS z⟩
end
structure YD (P:Program) (w:World) (K:PySem.W.Frag) (mg:Str->Option Value) (base:Heap) (c m:Str) (ps:List Str) (k:Nat) (sp:Sp):Prop where
 ex:∃ (C f:Addr) (fd:FuncData) (mc:Value),mg c=some (.ref C)/\PySem.W.specialIn K (.ref C) "__getattribute__" = some (some (.builtin "type.__getattribute__"))/\PySem.W.readsIn K C mc=true/\PySem.W.findCls K (.ref C) mc m=some (.val (.ref f))/\PySem.W.keepIn K (.ref f)=true/\xQ K fd ps []/\yY P w K mg base yZ k f fd ps sp
section
variable {X:Cx} {c m:Str} {ps:List Str} {j k:Nat} {F:FM} {e:Expr} {es:List Expr} {fa:wP} {p pos apos:Pos} {sp:Sp} {t:TA}
theorem Cn {pl:Sem Bool} (h:YD X.prog X.w X.K X.mg X.base c m ps k sp) (hr:yF j X.A) (hg:Gl X c) (ha:PA X (e::es) t) (hk:k<=j:=by decide) (hdb:(c == ("__debug__" : Str))=false:=by decide) (he:(e::es).all yT=true:=by rfl)
  (ht:eval (.Call (.Attribute (.Name c p) m apos) (e::es) [] pos) X.env=(do
   let ov <- eval (.Name c p) X.env
   standAt apos.atName
   let (f,first) <- holding [ov] (getMethod ov m pl)
   callWith pos f first (backTo pos (starEach (e::es) X.env)) (backToKw pos (keywordEach [] X.env))):=by rfl):PE X (.Call (.Attribute (.Name c p) m apos) (e::es) [] pos) (Uk sp [] E0 t):=by
 obtain ⟨C,f,fd,mc,hm,hga,hrd,hfc,kp,b,FF⟩:=h.ex
 rw [List.all_cons,Bool.and_eq_true] at he
 intro pins s σ H Q I hq
 refine PySem.W.methodCall_KW (pl:=pl) ?_ ht
 refine XY I hg hm ?_ hdb
 refine PySem.W.method_cls I.kIn hga (PySem.W.cls_value I.kIn hrd hfc rfl ?_)
 exact PySem.W.callWith_K (h₀:=X.base) I.ok.mod.kin kp (za (ha pos pins _ σ H _ (I.tok _) hq) fun us s1 ⟨vs,H1,I1,r,q⟩=>⟨I1.kIn,Xp FF (hr.mono hk) b .nil gE I1 r q⟩) (vG he.1) (qq he.2)
theorem Bu {pl:Sem Bool} (h:YD X.prog X.w X.K X.mg X.base c m ps k (zk X.K F)) (hr:yF j X.A) (hg:Gl X c) (ha:MA X (e::es) fa) (hk:k<=j:=by decide) (hdb:(c == ("__debug__" : Str))=false:=by decide) (he:(e::es).all yT=true:=by rfl)
  (ht:eval (.Call (.Attribute (.Name c p) m apos) (e::es) [] pos) X.env=(do
   let ov <- eval (.Name c p) X.env
   standAt apos.atName
   let (f,first) <- holding [ov] (getMethod ov m pl)
   callWith pos f first (backTo pos (starEach (e::es) X.env)) (backToKw pos (keywordEach [] X.env))):=by rfl):MC X (.Call (.Attribute (.Name c p) m apos) (e::es) [] pos) (wy F fa):=by
 obtain ⟨t,pa,ka⟩:=ha.h
 refine ⟨⟨_,Cn h hr hg pa hk hdb he ht,fun E hf q=>?_⟩⟩
 obtain ⟨as,has,hf⟩:=zC hf
 refine ka E has fun vs G1 H1 x1 ra=>?_
 rw [List.append_nil]
 exact (E.go x1).call ra hf fun v G' H' s K'=>q v G' H' (x1.g.trans s) K'
end
end L3
namespace L3
open PySem PySem.Spec PyProof.Rows L2
noncomputable def vu (K:PySem.W.Frag) (n:Nat) (P:List V) (G0 H0 G H:Hp) (β:zg) (σ:St) (ms:List M) (vs:List V):Prop:=
 ∃ (L:Ft) (H1:Hp),zY K n P G0 H1 G H β σ/\OwnMs K G H ms vs L/\(∀ q,L q->G q=none/\H0 q=none/\H1 q=H q)/\∀ q,¬ L q->H1 q=H0 q
section
variable {K:PySem.W.Frag} {n:Nat} {P:List V} {G0 H0 G H G' H':Hp} {β:zg} {σ:St}
theorem zY.hold {m:M} {v:V} (hP:P.length<=n) (E:zY K (n+1) P G0 H0 G H (β++[some m]) (σ++[some v])):∃ (L:Ft) (H1:Hp),zY K n P G0 H1 G H β σ/\yE K G H m v L/\(∀ q,L q->G q=none/\H0 q=none/\H1 q=H q)/\∀ q,¬ L q->H1 q=H0 q:=by
 classical
 obtain ⟨Ls,F⟩:=E.own
 obtain ⟨u,eu,ou⟩:=F.at_ n m (wn E.l2')
 rw [wn E.l1'] at eu
 cases eu
 let H1:Hp:=fun q=>if Ls n q then H q else H0 q
 have e1:∀ q,Ls n q->H1 q=H q:=fun q z=>if_pos z
 have e2:∀ q,¬ Ls n q->H1 q=H0 q:=fun q z=>if_neg z
 have Ed:=E.down hP
 refine ⟨Ls n,H1,⟨⟨E.ext.g,fun q o z=>?_,E.ext.gh,fun q z=>?_⟩,Ed.l1,Ed.l2,hP,Ed.pin,fun j=>if j<n then Ls j else fun _=>False,fun i m' h=>?_,fun i j q ne z1 z2=>?_,fun i q z=>?_⟩,ou,fun q z=>⟨(F.ok n q z).1,(F.ok n q z).2.1,e1 q z⟩,e2⟩
 ·by_cases c:Ls n q
  ·rw [e1 q c] at z; exact z
  ·rw [e2 q c] at z; exact E.ext.h _ _ z
 ·rcases E.ext.new q z with w | w
  ·exact .inl w
  ·by_cases c:Ls n q
   ·exact absurd (F.ok n q c).1 z
   ·exact .inr ((e2 q c).trans w)
 ·have hi:i<n:=by rw [<- Ed.l2]; exact (List.getElem?_eq_some_iff.mp h).1
  obtain ⟨u,eu,ou⟩:=F.at_ i m' (by rw [xI (by rw [Ed.l2]; exact hi)]; exact h)
  rw [xI (by rw [Ed.l1]; exact hi)] at eu
  simp only [if_pos hi]
  exact ⟨u,eu,ou⟩
 ·split at z1
  ·split at z2
   ·exact F.dj i j q ne z1 z2
   ·exact z2
  ·exact z1
 ·split at z
  ·rename_i c
   obtain ⟨a,b,d⟩:=F.ok i q z
   exact ⟨a,(e2 q fun w=>F.dj i n q (by omega) z w).trans b,d⟩
  ·exact z.elim
theorem vu.nil (E:zY K n P G0 H0 G H β σ):vu K n P G0 H0 G H β σ [] []:=⟨fun _=>False,H0,E,⟨rfl,fun _ z=>z⟩,fun _ z=>z.elim,fun _ _=>rfl⟩
theorem vu.cons {m:M} {v:V} {L:Ft} {H1:Hp} {ms:List M} {vs:List V} (o:yE K G H m v L) (h1:∀ q,L q->G q=none/\H0 q=none/\H1 q=H q) (h2:∀ q,¬ L q->H1 q=H0 q) (g0:zW G0 G) (s:zW G G') (h:vu K n P G0 H1 G' H' β σ ms vs):vu K n P G0 H0 G' H' β σ (m::ms) (v::vs):=by
 obtain ⟨L2,H2,E2,o2,a,b⟩:=h
 have bx:∀ q,L q->Bx H q:=o.cells m v L
 have nl:∀ q,L q->¬ L2 q:=fun q z w=>by
  have e:=(a q w).2.1
  rw [(h1 q z).2.2] at e
  exact (bx q z).some e
 have keep:∀ q,L q->H' q=H q:=fun q z=>by
  obtain ⟨u,hu,_⟩:=bx q z
  rw [hu]
  refine E2.ext.h _ _ ?_
  rw [b q (nl q z),(h1 q z).2.2]
  exact hu
 refine ⟨fun q=>L q\/L2 q,H2,E2,⟨v,vs,L,L2,rfl,o.loc s m v L keep,o2,nl,fun q=>Iff.rfl⟩,fun q z=>?_,fun q z=>?_⟩
 ·rcases z with z | z
  ·refine ⟨?_,(h1 q z).2.1,by rw [b q (nl q z),(h1 q z).2.2,keep q z]⟩
   cases e:G' q with
   | none=>rfl
   | some w=>
    obtain ⟨u,hu,_⟩:=bx q z
    have e2:H2 q=some u:=by rw [b q (nl q z),(h1 q z).2.2]; exact hu
    rcases E2.ext.new q (by rw [e]; exact fun z=>nomatch z) with w | w
    ·cases e3:G0 q with
     | none=>exact absurd e3 w
     | some o3=>
      have:=g0 _ _ e3
      rw [(h1 q z).1] at this
      cases this
    ·rw [e2] at w; cases w
  ·refine ⟨(a q z).1,?_,(a q z).2.2⟩
   have e:=(a q z).2.1
   rw [h2 q fun w=>nl q w z] at e
   exact e
 ·rw [b q fun w=>z (.inr w),h2 q fun w=>z (.inl w)]
theorem vu.tab {ks:List (Sum Int Str)} {ms:List M} {vs:List V} {p:Addr} {d:D} (g0:zW G0 G) (h:vu K n P G0 H0 G H β σ (.own d::ms) (.ref p::vs)) (l:ks.length=vs.length) (hl:ms.length<=sizeLine) :
  zY K (n+1) P G0 H0 G (zQ H p (.dK (ks.zip vs))) (β++[some (.tab ks ms)]) (σ++[some (.ref p)]):=by
 obtain ⟨L,H1,E,⟨v,r,La,Lb,e,oa,ob,dj,u⟩,a,b⟩:=h
 cases e
 obtain ⟨p',e',oo,up⟩:=oa
 cases e'
 have Lp:L p:=(u p).mpr (.inl ((up p).mpr rfl))
 have k1:∀ q,q≠p->(zQ H p (.dK (ks.zip vs))) q=H q:=fun q z=>zw z
 obtain ⟨Ls,F⟩:=E.own
 have nl:∀ i q,Ls i q->¬ L q:=fun i q z w=>by
  have e:=(F.ok i q z).2.1
  rw [(a q w).2.2] at e
  exact (F.ok i q z).2.2.some e
 refine ⟨⟨E.ext.g,fun q o z=>?_,fun q o z=>?_,fun q z=>?_⟩,by rw [List.length_append,E.l1]; rfl,by rw [List.length_append,E.l2]; rfl,by have:=E.lp; omega,fun i w h=>?_,fun j=>if j<n then Ls j else if j=n then L else fun _=>False,fun i m' h=>?_,fun i j q ne z1 z2=>?_,fun i q z=>?_⟩
 ·have c:¬ L q:=fun w=>by rw [(a q w).2.1] at z; cases z
  rw [k1 q fun w=>c (w ▸ Lp)]
  exact E.ext.h _ _ ((b q c).trans z)
 ·rw [k1 q fun w=>by subst w; rw [(a q Lp).1] at z; cases z]
  exact E.ext.gh _ _ z
 ·rcases E.ext.new q z with w | w
  ·exact .inl w
  ·by_cases c:L q
   ·exact .inr (a q c).2.1
   ·rw [b q c] at w; exact .inr w
 ·have hi:i<σ.length:=by
   rw [E.l1]
   exact Nat.lt_of_lt_of_le (List.getElem?_eq_some_iff.mp h).1 E.lp
  rw [xI hi]
  exact E.pin i w h
 ·rcases gQ h with ⟨c,e⟩ | ⟨c,e⟩
  ·rw [E.l2] at c
   obtain ⟨w,ew,ow⟩:=F.at_ i m' e
   refine ⟨w,by rw [xI (by rw [E.l1]; exact c)]; exact ew,?_⟩
   simp only [if_pos c]
   exact ow.loc (zW.refl _) m' w _ fun q z=>k1 q fun w=>nl i q z (w ▸ Lp)
  ·cases e
   rw [E.l2] at c
   subst c
   refine ⟨_,wn E.l1,?_⟩
   simp only [Nat.lt_irrefl,if_false,if_true]
   refine ⟨p,vs,Lb,rfl,yK,l,OwnMs.imp (fun m' _ v' L3 s o=>o.loc (zW.refl _) m' v' L3 fun q z=>k1 q fun c=>dj q ((up q).mpr c) (s q z)) ob,hl,fun z=>dj p ((up p).mpr rfl) z,fun q=>?_⟩
   rw [u q,up q]
 ·split at z1
  ·split at z2
   ·exact F.dj i j q ne z1 z2
   ·split at z2
    ·exact nl i q z1 z2
    ·exact z2
  ·split at z1
   ·split at z2
    ·exact nl j q z2 z1
    ·split at z2
     ·exact ne (by omega)
     ·exact z2
   ·exact z1
 ·have bx:∀ q,L q->Bx H q:=fun q z=>by
   rcases (u q).mp z with z | z
   ·cases (up q).mp z; exact oo.bx
   ·exact OwnMs.cells (fun m _ v L1 oo=>oo.cells m v L1) ob q z
  have bx':∀ q,Bx H q->Bx (zQ H p (.dK (ks.zip vs))) q:=fun q z=>by
   by_cases c:q=p
   ·subst c; exact ⟨_,yK,rfl⟩
   ·obtain ⟨u,hu,cu⟩:=z
    exact ⟨u,(k1 q c).trans hu,cu⟩
  split at z
  ·obtain ⟨x,y,w⟩:=F.ok i q z
   exact ⟨x,by rw [b q (nl i q z)] at y; exact y,bx' q w⟩
  ·split at z
   ·exact ⟨(a q z).1,(a q z).2.1,bx' q (bx q z)⟩
   ·exact z.elim
end
structure MD (X:Cx) (pos:Pos) (keys:List (Option Expr)) (values:List Expr) (ks:List Str) (fs:zg->Option (List M×zg)):Prop where
 h:∃ trs,jc X pos keys values trs/\∀ {P:List V} {G0 H0 G H:Hp} {β β':zg} {σ:St} {ms:List M} {Q:List (V×V)->Hp->Prop},zY X.K X.N.length P G0 H0 G H β σ->fs β=some (ms,β')->(∀ vs G' H',zW G G'->vu X.K X.N.length P G0 H0 G' H' β' σ ms vs->vs.length=ks.length->Q ((ks.map V.str).zip vs) H')->Y3 trs σ H Q
noncomputable def W_:zg->Option (List M×zg):=fun β=>some ([],β)
noncomputable def pX (f:yb) (r:zg->Option (List M×zg)):zg->Option (List M×zg):=fun β=>(f β).bind fun a=>(r a.2).bind fun b=>some (a.1::b.1,b.2)
noncomputable def Wt (ks:List Str) (fs:zg->Option (List M×zg)):yb:=fun β=>(fs β).bind fun r=>match decide (ks.length=r.1.length) with
 | true=>some (.tab (ks.map .inr) r.1,r.2)
 | false=>none
noncomputable def Yx (i:Nat):yb:=fun β=>match β[i]? with
 | some (some m)=>some (m,β.set i none)
 | _=>none
section
variable {X:Cx} {v:Expr} {x:Str} {xp pos:Pos} {fv:yb}
theorem DA:MD X pos [] [] [] W_:=⟨⟨_,Jp,fun {P G0 H0 G H β β' σ ms Q} E hf q=>by
 cases hf
 exact q [] _ _ (zW.refl _) (vu.nil E) rfl⟩⟩
theorem kN {j:Nat} {ks:List (Option Expr)} {vs:List Expr} {xs:List Str} {fs:zg->Option (List M×zg)} (hv:MC X v fv) (hr:MD X pos ks vs xs fs):MD X pos (some (.Constant (.str x) j xp)::ks) (v::vs) (x::xs) (pX fv fs):=by
 obtain ⟨tv,pv,kv⟩:=hv.h
 obtain ⟨tr,pr,kr⟩:=hr.h
 refine ⟨⟨_,Jo kZ pv pr,fun {P G0 H0 G H β β' σ ms Q} E hf q=>?_⟩⟩
 obtain ⟨⟨m,β1⟩,h1,hf⟩:=zC hf
 obtain ⟨⟨ms1,β2⟩,h2,hf⟩:=zC hf
 cases hf
 refine kv E h1 fun u G1 H1 s1 E1=>?_
 obtain ⟨L,Hb,Eb,o,a,b⟩:=E1.hold E.lp
 refine kr Eb h2 fun us G2 H2 s2 h l=>?_
 exact q (u::us) _ _ (s1.trans s2) (vu.cons o a b Eb.ext.g s2 h) (by rw [List.length_cons,List.length_cons,l])
theorem B_ {keys:List (Option Expr)} {values:List Expr} {ks:List Str} {fs:zg->Option (List M×zg)} (h:MD X pos keys values ks fs) (nd:ks.Nodup) (h15:ks.length<=15) (hall:keys.all (·.isSome)=true:=by rfl) (hl:keys.length=values.length:=by rfl) (h0:keys≠[]:=by exact fun z=>nomatch z) (h15':keys.length<=15:=by decide) :
  MC X (.Dict keys values pos) (Wt ks fs):=by
 obtain ⟨trs,pr,kr⟩:=h.h
 refine ⟨⟨_,Jg pr hall hl h0 h15',fun {P G0 H0 G H β β' σ m Q} E hf q p hp=>?_⟩⟩
 obtain ⟨⟨ms,β1⟩,h1,hf⟩:=zC hf
 have x0:zK G H G (zQ H p (.dK [])):=zK.layO E.ext.gh hp
 have E1:=E.pushO (d:=.dic [] []) x0 hp (E.ext.gh.free hp) ⟨[],yK,rfl,rfl,Nat.zero_le _⟩
 obtain ⟨L,Hb,Eb,o,a,b⟩:=E1.hold E.lp
 refine kr Eb h1 fun vs G2 H2 s2 hh l=>?_
 have hh2:=vu.cons o a b Eb.ext.g s2 hh
 have hk:(ks.map Sum.inr:List zI).length=vs.length:=by rw [List.length_map,l]
 split at hf
 ·rename_i c
  have c:=of_decide_eq_true c
  cases hf
  have e2:H2 p=some (.dK []):=by
   obtain ⟨L2,H3,E3,⟨v',r',La,Lb,e',oa,_⟩,_⟩:=hh2
   cases e'
   obtain ⟨p',e'',⟨vs',ev,z,_⟩,_⟩:=oa
   cases e''
   cases vs' with
   | nil=>exact ev
   | cons _ _=>cases z
  refine ⟨e2,(ks.map Sum.inr:List zI).zip vs,T5,by rw [List.length_zip,hk,Nat.min_self,l]; exact h15,?_⟩
  rw [Vq _ [] (by rw [T4 hk]; exact List.Pairwise.map _ (fun a b h z=>h (Sum.inr.inj z)) nd) (fun _ _=>rfl),List.nil_append]
  have g0:zW G0 G2:=E.ext.g.trans s2
  refine q _ G2 _ s2 (vu.tab g0 hh2 hk ?_)
  rw [<- c]
  exact wK (by omega)
 ·cases hf
theorem By (i:Nat) {x:Str} {pos:Pos} (hN:X.N[i]?=some x:=by rfl) (hv:tJ X.env.scope x:=by first | exact Or.inl rfl | exact Or.inr (Or.inl rfl) | exact Or.inr (Or.inr rfl)) (hd:(x == ("__debug__" : Str))=false:=by decide)
  (hcd:(x == ("__classdict__" : Str))=false:=by decide):MC X (.Name x pos) (Yx i):=⟨⟨_,gF hN hv hd hcd,fun {P G0 H0 G H β β' σ m Q} E hf q=>by
 unfold Yx at hf
 split at hf
 ·rename_i m' hm
  cases hf
  obtain ⟨Ls,F⟩:=E.own
  have hi:i<X.N.length:=by rw [<- E.l2]; exact (List.getElem?_eq_some_iff.mp hm).1
  obtain ⟨v,ev,ov⟩:=F.at_ i m hm
  refine ⟨v,ev,q v G H (zW.refl _) ⟨E.ext,by rw [List.length_append,E.l1]; rfl,by rw [List.length_append,List.length_set,E.l2]; rfl,by have:=E.lp; omega,fun j w h=>?_,fun j=>if j=i then (fun _=>False) else if j<X.N.length then Ls j else if j=X.N.length then Ls i else fun _=>False,fun j m' h=>?_,fun j k q ne z1 z2=>?_,fun j q z=>?_⟩⟩
  ·have hj:j<σ.length:=by
    rw [E.l1]
    exact Nat.lt_of_lt_of_le (List.getElem?_eq_some_iff.mp h).1 E.lp
   rw [xI hj]
   exact E.pin j w h
  ·rcases gQ h with ⟨c,e⟩ | ⟨c,e⟩
   ·rcases xY e with ⟨_,w⟩ | ⟨ne,w⟩
    ·cases w
    ·rw [List.length_set,E.l2] at c
     obtain ⟨u,eu,ou⟩:=F.at_ j m' w
     simp only [if_neg ne,if_pos c]
     exact ⟨u,by rw [xI (by rw [E.l1]; exact c)]; exact eu,ou⟩
   ·cases e
    rw [List.length_set,E.l2] at c
    subst c
    refine ⟨_,wn E.l1,?_⟩
    simp only [if_neg (Nat.ne_of_gt hi),Nat.lt_irrefl,if_false,if_true]
    exact ov
  ·split at z1
   ·exact z1
   ·split at z1
    ·split at z2
     ·exact z2
     ·split at z2
      ·exact F.dj j k q ne z1 z2
      ·split at z2
       ·exact F.dj j i q (by omega) z1 z2
       ·exact z2
    ·split at z1
     ·split at z2
      ·exact z2
      ·split at z2
       ·exact F.dj i k q (by omega) z1 z2
       ·split at z2
        ·exact ne (by omega)
        ·exact z2
     ·exact z1
  ·split at z
   ·exact z.elim
   ·split at z
    ·exact F.ok j q z
    ·split at z
     ·exact F.ok i q z
     ·exact z.elim
 ·cases hf⟩⟩
end
end L3
namespace L2
open PySem PySem.Spec PyProof PyProof.Rows
section
variable {X:Cx} {c e:Expr} {es:List Expr} {t:TA} {tc:TE} {pos:Pos} {j:Nat}
noncomputable def Kq (X:Cx) (j:Nat) (tc:TE) (t:TA):TE:=fun σ H Q=>tc σ H fun v H1=>∃ (f:Addr) (fd:FuncData) (ps:List Str) (k:Nat) (sp:Sp),v=.ref f/\k<=j/\PySem.W.keepIn X.K (.ref f)=true/\xQ X.K fd ps []/\yY X.prog X.w X.K X.mg X.base yZ k f fd ps sp/\t σ H1 fun vs H2=>sp (vs++[]) H2 Q E0
theorem Ck (hr:yF j X.A) (hc:PE X c tc) (ha:PA X (e::es) t) (he:(e::es).all yT=true:=by rfl)
  (hev:eval (.Call c (e::es) [] pos) X.env=(do callWith pos (<- eval c X.env) [] (backTo pos (starEach (e::es) X.env)) (backToKw pos (keywordEach [] X.env))):=by rfl):PE X (.Call c (e::es) [] pos) (Kq X j tc t):=by
 intro pins s σ H Q I h
 rw [List.all_cons,Bool.and_eq_true] at he
 rw [hev]
 refine wpAny_bind (za (hc pins s σ H _ I h) fun u s1 ⟨v,H1,I1,r1,f,fd,ps,k,sp,ev,hk,kp,b,F,q⟩=>?_)
 subst ev
 cases r1
 refine PySem.W.callWith_K (h₀:=X.base) I.ok.mod.kin kp (za (ha pos pins s1 σ _ _ I1 q) fun us s2 ⟨vs,H2,I2,r,q⟩=>⟨I2.kIn,?_⟩) (vG he.1) (qq he.2)
 exact Xp F (hr.mono hk) b .nil gE I2 r q
end
end L2
namespace L3
open PySem PySem.Spec PyProof.Rows L2
noncomputable def pN (K:PySem.W.Frag) (w:World) (mg:Str->Option Value) (a:Addr) (ks:List zI) (ns:List Str):Prop:=
 ∃ fs:List Addr,(a == sysModules)=false/\ks.length=fs.length/\(∀ (i:Nat) (n:Str),ns[i]?=some n->∃ f,fs[i]?=some f/\mg n=some (.ref f))/\ns.length=fs.length/\∀ (P:Program) (h:Heap),K.In h->∃ vs,KV (ks.zip (fs.map V.ref)) vs/\h.DictOf (yV P w) a vs
inductive jb (mg:Str->Option Value):List Str->List Addr->Prop
 | nil:jb mg [] []
 | cons {n:Str} {f:Addr} {ns:List Str} {fs:List Addr} (h:mg n=some (.ref f)) (r:jb mg ns fs):jb mg (n::ns) (f::fs)
theorem jb.at_ {mg:Str->Option Value}:∀ {ns:List Str} {fs:List Addr},jb mg ns fs->(∀ (i:Nat) (n:Str),ns[i]?=some n->∃ f,fs[i]?=some f/\mg n=some (.ref f))/\ns.length=fs.length
 | _,_,.nil=>⟨fun i n h=>(by cases h),rfl⟩
 | _,_,.cons h r=>by
  obtain ⟨a,b⟩:=r.at_
  refine ⟨fun i n e=>?_,by rw [List.length_cons,List.length_cons,b]⟩
  cases i with
  | zero=>cases e; exact ⟨_,rfl,h⟩
  | succ i=>exact a i n (by simpa using e)
theorem ON:∀ {fs:List Addr},zb (fs.map V.ref) (fs.map Value.ref)
 | []=>.nil
 | _::_=>.cons rfl ON
theorem M5 {K:PySem.W.Frag} {mg:Str->Option Value} {w:World} {a:Addr} {es:List DictEntry} {n:Nat} {xs ns:List Str} {fs:List Addr} (l:K.lookup a=some { cls:=.type "dict",data:=.dict es.toArray n }) (e:t8 w es xs (fs.map Value.ref)) (nd:xs.Nodup) (hs:(a == sysModules)=false) (m:jb mg ns fs) :
  pN K w mg a (xs.map .inr) ns:=by
 have hl:(xs.map Sum.inr:List zI).length=(fs.map V.ref).length:=by rw [List.length_map,e.len,List.length_map,List.length_map]
 obtain ⟨m1,m2⟩:=m.at_
 refine ⟨fs,hs,by rw [hl,List.length_map],m1,m2,fun P h KI=>⟨_,JA ON hl,?_⟩⟩
 obtain ⟨p,q⟩:=e.pairs (P:=P)
 refine ⟨_,_,_,KI _ _ l,⟨rfl,rfl,rfl⟩,rfl,fun e he=>q e (by simpa using he),p,?_⟩
 rw [OT (by rw [List.length_map]; exact e.len)]
 exact List.Pairwise.map _ (fun a b h z=>h (Sum.inr.inj z)) nd
section
variable {X:Cx}
theorem M3 {A:Addr} {ks:List zI} {ns:List Str} (g:pN X.K X.w X.mg A ks ns):zt X (compareOp .In) (fun x y H Q=>y=.ref A/\∃ k,x=kV k/\Q (.bl (w8 ks k)) H):=by
 intro pins s σ H x y v u Q I rx ry h
 obtain ⟨rfl,k,rfl,q⟩:=h
 cases ry
 obtain ⟨fs,hsys,hl,_,_,mk⟩:=g
 obtain ⟨vs,rel,dd⟩:=mk X.prog s.heap I.kIn
 refine wpAny_in_of (uX rx) hsys dd.mapOf ?_
 rw [<- (rel.val k).isSome_eq,qx k (by rw [List.length_map]; exact hl),VN k (by rw [List.length_map]; exact hl)]
 exact ⟨.bl _,H,I.tok _,rfl,q⟩
theorem Kb {A:Addr} {ks:List zI} {ns:List Str} {x:Str} {p pos:Pos} {a:Expr} {fa:FE} (h:y_ X.mg x (.ref A)) (g:pN X.K X.w X.mg A ks ns) (hg:Gl X x) (ha:SE X a fa) (hd:(x == ("__debug__" : Str))=false:=by decide) (hm:behindInMarks .In (.Name x p)=false:=by rfl) :
  ST X (.Compare a [.In] [.Name x p] pos) (tE (e1 (X8 ks) fa)):=by
 obtain ⟨ta,pa,ka⟩:=ha.h
 refine ⟨⟨_,UD (M3 g) pa (U6 h hg hd) hm,fun {G0 H0 G H τ σ d Q} E hf q=>?_⟩⟩
 obtain ⟨z,hz,hf⟩:=zC hf
 obtain ⟨y,hy,hz⟩:=zC hz
 obtain ⟨k,hk,hz⟩:=zC hz
 cases hz
 cases hf
 exact ka E hy fun u G2 H2 x2 r2=>⟨rfl,k,qb hk r2,_,rfl,q _ _ x2⟩
theorem M4 {A:Addr} {ks:List zI} {ns:List Str} (g:pN X.K X.w X.mg A ks ns):vW X (fun x y H Q=>x=.ref A/\∃ k n,y=kV k/\getK ks ns k=some n/\∀ f,X.mg n=some (.ref f)->Q (.ref f) H):=by
 intro value slice pins s σ H x y v u Q I rx ry h hs
 obtain ⟨rfl,k,n,rfl,hn,q⟩:=h
 cases rx
 obtain ⟨fs,hsys,hl,hm,hl2,mk⟩:=g
 obtain ⟨vs,rel,dd⟩:=mk X.prog s.heap I.kIn
 have key:∀ {ks:List zI} {ns:List Str} {fs:List Addr},(∀ (i:Nat) (n:Str),ns[i]?=some n->∃ f,fs[i]?=some f/\X.mg n=some (.ref f))->getK ks ns k=some n->∃ f,getK ks (fs.map V.ref) k=some (.ref f)/\X.mg n=some (.ref f):=fun {ks}=>by
  induction ks with
  | nil=>intro ns fs _ e; cases e
  | cons k' ks ih=>
   intro ns fs hm e
   cases ns with
   | nil=>cases e
   | cons n' ns=>
    obtain ⟨f0,e0,m0⟩:=hm 0 n' rfl
    cases fs with
    | nil=>cases e0
    | cons f1 fs=>
     cases e0
     unfold getK at e
     rw [List.map_cons]
     unfold getK
     by_cases c:k'=k
     ·rw [if_pos c] at e ⊢
      cases e
      exact ⟨_,rfl,m0⟩
     ·rw [if_neg c] at e ⊢
      exact ih (fun i n h=>hm (i+1) n (by simpa using h)) e
 obtain ⟨f,hf,mf⟩:=key hm hn
 obtain ⟨w',hw,rw'⟩:=x_.some_of (v:=V.ref f) (o:=valueAt vs k) (by rw [<- hf,<- qx k (by rw [List.length_map]; exact hl)]; exact rel.val k)
 exact subscriptTail_builtinR (x:=w') dd.typeIs PySem.F.slot_dict_getitem.lookup
  (wpAny_getItem_of (Q:=fun r s'=>r=w'/\EP X pins σ Q r s') (uX ry) dd.mapOf hw ⟨rfl,_,H,I.tok _,rw',q f mf⟩) hs
inductive xW (X:Cx) (j:Nat):List Str->List FM->Prop
 | nil:xW X j [] []
 | cons {n:Str} {ps:List Str} {k:Nat} {F:FM} {ns:List Str} {Fs:List FM} (h:zH X.prog X.w X.K X.mg X.base n ps k (zk X.K F)) (hk:k<=j) (r:xW X j ns Fs):xW X j (n::ns) (F::Fs)
theorem xW.get {X:Cx} {j:Nat} {k:zI} {F:FM}:∀ {ks:List zI} {ns:List Str} {Fs:List FM},xW X j ns Fs->getK ks Fs k=some F->∃ n ps i,getK ks ns k=some n/\i<=j/\zH X.prog X.w X.K X.mg X.base n ps i (zk X.K F)
 | [],_,_,_,e=>by cases e
 | _::_,_,_,.nil,e=>by cases e
 | k'::ks,_,_,.cons (n:=n) (ps:=ps) (k:=i) h hk r,e=>by
  unfold getK at e
  by_cases c:k'=k
  ·rw [if_pos c] at e
   cases e
   exact ⟨n,ps,i,by unfold getK; rw [if_pos c],hk,h⟩
  ·rw [if_neg c] at e
   obtain ⟨n',ps',i',e',r'⟩:=r.get e
   exact ⟨n',ps',i',by unfold getK; rw [if_neg c]; exact e',r'⟩
noncomputable def Wu (ks:List zI) (Fs:List FM) (fk:FE) (fa:wP):yb:=fun β=>(fk (wp β)).bind fun x=>(wZ x).bind fun k=>(getK ks Fs k).bind fun F=>wy F fa β
theorem Bw {A:Addr} {ks:List zI} {ns:List Str} {Fs:List FM} {x:Str} {p p2 pos:Pos} {k e:Expr} {es:List Expr} {fk:FE} {fa:wP} {j:Nat} (h:y_ X.mg x (.ref A)) (g:pN X.K X.w X.mg A ks ns) (hg:Gl X x) (D:xW X j ns Fs) (hr:yF j X.A) (hk:SE X k fk) (ha:MA X (e::es) fa)
  (hs:gH k=true:=by rfl) (hd:(x == ("__debug__" : Str))=false:=by decide) (he:(e::es).all yT=true:=by rfl)
  (hev:eval (.Call (.Subscript (.Name x p) k p2) (e::es) [] pos) X.env=(do callWith pos (<- eval (.Subscript (.Name x p) k p2) X.env) [] (backTo pos (starEach (e::es) X.env)) (backToKw pos (keywordEach [] X.env))):=by rfl):MC X (.Call (.Subscript (.Name x p) k p2) (e::es) [] pos) (Wu ks Fs fk fa):=by
 obtain ⟨tk,pk,kk⟩:=hk.h
 obtain ⟨ta,pa,ka⟩:=ha.h
 refine ⟨⟨_,Ck hr (U7 (M4 g) (U6 h hg hd) pk (UA hs)) pa he hev,fun {P G0 H0 G H β β' σ m Q} E hf q=>?_⟩⟩
 obtain ⟨y,hy,hf⟩:=zC hf
 obtain ⟨key,hkey,hf⟩:=zC hf
 obtain ⟨F,hF,hf⟩:=zC hf
 obtain ⟨as,has,hf⟩:=zC hf
 obtain ⟨n,ps,i,hn,hi,⟨f,fd,hm,kp,b,FF⟩⟩:=D.get hF
 obtain ⟨G1,E1,back⟩:=E.thw
 refine kk E1 hy fun u G2 H2 x2 r2=>?_
 obtain ⟨G3,x3,E3,_⟩:=back _ _ x2
 refine ⟨rfl,key,n,qb hkey r2,hn,fun f' hm'=>?_⟩
 rw [hm] at hm'
 cases hm'
 refine ⟨f,fd,ps,i,_,rfl,hi,kp,b,FF,ka E3 has fun vs G4 H4 x4 ra=>?_⟩
 rw [List.append_nil]
 exact (E3.go x4).call ra hf fun v G' H' s K'=>q v G' H' (x3.g.trans (x4.g.trans s)) K'
end
noncomputable def yN (cs:List Str) (f:Str):D->Option D
 | .obj x fs vs=>if x∈cs then getA fs vs f else none
 | _=>none
theorem Reps.getA {K:PySem.W.Frag} {G:Hp} {κ:Type} [DecidableEq κ] {k:κ} {d:D}:∀ {ks:List κ} {ds:List D} {vs:List V},Reps K G ds vs->L3.getA ks ds k=some d->∃ v,L3.getA ks vs k=some v/\zP K G d v
 | [],_,_,_,e=>by cases e
 | _::_,[],_,_,e=>by cases e
 | k'::ks,d'::ds,vs,r,e=>by
  obtain ⟨v,r',rfl,hv,hr⟩:=r
  unfold L3.getA at e ⊢
  by_cases c:k'=k
  ·rw [if_pos c] at e ⊢
   cases e
   exact ⟨v,rfl,hv⟩
  ·rw [if_neg c] at e ⊢
   exact Reps.getA hr e
noncomputable def xv (c m:Str) (fo:FE) (fs:FA):FA:=fun τ=>(fo τ).bind fun o=>match o with
 | .obj x fl _=>match decide (x=c)&&!(decide (m∈fl)) with
  | true=>(fs τ).bind fun ds=>some (o::ds)
  | false=>none
 | _=>none
section
variable {X:Cx} {e o:Expr} {f m c:Str} {cs:List Str} {fe fo:FE} {pos apos:Pos} {ps:List Str} {j k:Nat} {FF:List D->Option (Bool×D)}
theorem yy (h:SE X e fe) (k:zl X.K cs f) (hb:attributeBase e f X.env (eval e X.env)=eval e X.env:=by rfl):SE X (.Attribute e f pos) (e1 (yN cs f) fe):=by
 obtain ⟨t,p,kt⟩:=h.h
 refine ⟨⟨_,Jh p hb,fun {G0 H0 G H τ σ d Q} E hf q=>?_⟩⟩
 obtain ⟨y,hy,hf⟩:=zC hf
 refine kt E hy fun v G1 H1 x1 r1=>?_
 unfold yN at hf
 split at hf
 ·rename_i x fs vs
  by_cases hx:x∈cs
  ·rw [if_pos hx] at hf
   obtain ⟨a,C,dx,us,rfl,ns,ha,l,rs⟩:=r1
   obtain ⟨u,hu,ru⟩:=rs.getA hf
   obtain ⟨cl,na⟩:=k x hx C ns
   exact ⟨a,C,dx,_,u,rfl,x1.gh _ _ ha,cl,na,by rw [Xa]; exact hu,q _ _ _ x1 ru⟩
  ·rw [if_neg hx] at hf; cases hf
 ·cases hf
theorem KC {G0 H0 G H:Hp} {τ:zf} {σ:St} {ds:List D} {Q:VK} {C:Addr} {t:TA} {to:TE} {sp:Sp} {fs:FA} (nsC:PySem.W.nsIn X.K mainGlobals c=some (some (.ref C)))
  (ko:∀ {G0 H0 G H:Hp} {τ:zf} {σ:St} {d:D} {Q:VK},zh X.K X.N.length G0 H0 G H τ σ->fo τ=some d->(∀ v G' H',zK G H G' H'->zP X.K G' d v->Q v H')->to σ H Q)
  (kt:∀ {G0 H0 G H:Hp} {τ:zf} {σ:St} {ds:List D} {Q:List V->Hp->Prop},zh X.K X.N.length G0 H0 G H τ σ->fs τ=some ds->(∀ vs G' H',zK G H G' H'->Reps X.K G' ds vs->Q vs H')->t σ H Q)
  (E:zh X.K X.N.length G0 H0 G H τ σ) (hf:xv c m fo fs τ=some ds) (q:∀ vs G' H',zK G H G' H'->Reps X.K G' ds vs->sp vs H' Q E0):Um C m sp [] E0 to t σ H Q:=by
 obtain ⟨y,hy,hf⟩:=zC hf
 split at hf
 ·rename_i x fl vs
  split at hf
  ·rename_i cc
   rw [Bool.and_eq_true] at cc
   cases of_decide_eq_true cc.1
   have hm:m ∉ fl:=by
    have:=cc.2
    simpa using this
   obtain ⟨ds',hd,hf⟩:=zC hf
   cases hf
   refine ko E hy fun v G1 H1 x1 r1=>?_
   obtain ⟨a,C',dx,us,rfl,ns,ha,l,rs⟩:=id r1
   rw [nsC] at ns
   cases ns
   refine ⟨a,dx,_,rfl,x1.gh _ _ ha,Vj hm,kt (E.go x1) hd fun vs G2 H2 x2 r2=>?_⟩
   rw [List.append_nil]
   exact q _ _ _ (x1.trans x2) ⟨_,vs,rfl,r1.mono x2.g,r2⟩
  ·cases hf
 ·cases hf
theorem KU {G H:Hp} {ds:List D} {vs:List V} {Q:VK} {G0' H0':Hp} {d:D} {o:Bool} {E:XK} (x:zK G0' H0' G H) (r:Reps X.K G ds vs) (hr:FF ds=some (o,d)) (q:∀ v G' H',zK G0' H0' G' H'->zP X.K G' d v->Q v H'):zO X.K FF vs H Q E:=by
 refine ⟨G,ds,o,d,x.gh,r,hr,?_⟩
 cases o with
 | false=>exact fun v G' H' x2 r=>q v G' H' (x.trans x2) r
 | true=>
  intro p G' H' x2 hp gp o
  obtain ⟨u,hu,r⟩:=o.frz gp
  exact q _ _ _ (x.trans (x2.frz hp gp hu)) r
theorem jC {pl:Sem Bool} (h:wF X.prog X.w X.K X.mg X.base c m ps k (zO X.K FF)) (hr:yF j X.A) (ho:SE X o fo) (hk:k<=j:=by decide)
  (ht:eval (.Call (.Attribute o m apos) [] [] pos) X.env=(do
   let ov <- eval o X.env
   standAt apos.atName
   let (f,first) <- holding [ov] (getMethod ov m pl)
   callWith pos f first (backTo pos (starEach [] X.env)) (backToKw pos (keywordEach [] X.env))):=by rfl):SE X (.Call (.Attribute o m apos) [] [] pos) (zi FF (xv c m fo zF)):=by
 obtain ⟨C,f,fd,ns,cl,me,b,F⟩:=h
 obtain ⟨to,po,ko⟩:=ho.h
 refine ⟨⟨_,Jj po cl me F (hr.mono hk) b .nil gE ht,fun {G0 H0 G H τ σ d Q} E hf q=>?_⟩⟩
 obtain ⟨ds,hd,hf⟩:=zC hf
 obtain ⟨⟨oo,dd⟩,hF,hf⟩:=zC hf
 cases hf
 exact KC (t:=Y1) ns ko (fun {G0 H0 G H τ σ ds Q} E' e k'=>by cases e; exact k' _ _ _ (zK.refl E'.ext.gh) rfl) E hd fun vs G' H' x r=>KU x r hF q
end
theorem OwnMs.putZ {K:PySem.W.Frag} {G H:Hp} {k:Sum Int Str} {d:D} {w:V} (rd:zP K G d w):∀ {ks:List (Sum Int Str)} {ms:List M} {vs:List V} {L:Ft},OwnMs K G H ms vs L->ks.length=vs.length->∃ L',OwnMs K G H (List.zipWith (fun k' x=>if k'=k then M.fz d else x) ks ms) (List.zipWith (fun k' x=>if k'=k then w else x) ks vs) L'/\∀ q,L' q->L q
 | [],ms,vs,L,h,l=>⟨fun _=>False,⟨rfl,fun _ z=>z⟩,fun _ z=>z.elim⟩
 | _::_,[],vs,L,h,l=>by
  obtain ⟨rfl,n⟩:=h
  cases l
 | k'::ks,m::ms,vs,L,h,l=>by
  obtain ⟨v,r,La,Lb,rfl,hv,hr,d',u⟩:=h
  obtain ⟨L',o',s'⟩:=OwnMs.putZ (k:=k) rd hr (Nat.succ.inj l)
  rw [List.zipWith_cons_cons,List.zipWith_cons_cons]
  by_cases c:k'=k
  ·rw [if_pos c,if_pos c]
   exact ⟨L',⟨w,_,fun _=>False,L',rfl,⟨rd,fun _ z=>z⟩,o',fun _ z=>z.elim,fun q=>⟨.inr,fun z=>z.elim False.elim id⟩⟩,fun q z=>(u q).mpr (.inr (s' q z))⟩
  ·rw [if_neg c,if_neg c]
   refine ⟨fun q=>La q\/L' q,⟨v,_,La,L',rfl,hv,o',fun q a b=>d' q a (s' q b),fun q=>Iff.rfl⟩,fun q z=>?_⟩
   rcases z with z | z
   ·exact (u q).mpr (.inl z)
   ·exact (u q).mpr (.inr (s' q z))
noncomputable def kM (i:Nat) (π:List yR) (k:Str) (fe:FE):zu:=fun β=>(vm β i π).bind fun nd=>match nd with
 | .tab ks ms=>match w8 ks (.inr k)&&decide (ks.length<yP) with
  | true=>(getA ks ms (.inr k)).bind fun c=>(vZ c).bind fun c=>match c with
   | .int a=>(fe (wp β)).bind fun y=>match y with
    | .int b=>(putAt β i π (.tab ks (yi ks ms (.inr k) (.fz (.int (a+b)))))).bind fun β2=>some (.nx β2)
    | _=>none
   | _=>none
  | false=>none
 | _=>none
section
variable {X:Cx} {np:Nat} {o v:Expr} {i:Nat} {π:List yR} {k:Str} {kk:Nat} {kp pos tpos:Pos} {fe:FE}
theorem JM (hu:X.A.units+1<cLine) (ho:SP X o i π) (hv:SE X v fe):MS X np (.AugAssign (.Subscript o (.Constant (.str k) kk kp) tpos) .Add v pos) (kM i π k fe):=by
 obtain ⟨tv,pv,kv⟩:=hv.h
 obtain ⟨to,po,ko⟩:=ho.h
 refine ⟨⟨_,EQ hu po kZ pv Qt (fun _ _ _=>rfl),fun {P G0 H0 G H β σ fl E} hP K hf q=>?_⟩⟩
 obtain ⟨nd,hn,hf⟩:=zC hf
 split at hf
 ·rename_i ks ms
  split at hf
  ·rename_i c
   rw [Bool.and_eq_true] at c
   have hx:=c.1
   have hl:=of_decide_eq_true c.2
   obtain ⟨ch,hch,hf⟩:=zC hf
   obtain ⟨dc,hdc,hg⟩:=zC hf
   cases vy hdc
   split at hg
   ·rename_i a
    obtain ⟨y,hy,hf⟩:=zC hg
    split at hf
    ·rename_i b
     obtain ⟨β2,hβ,hf⟩:=zC hf
     cases hf
     obtain ⟨mm,hm,ha⟩:=tT hn
     have K0:=K.pushF (d:=.non) (v:=.non) rfl
     obtain ⟨r,v1,L1,Lr,er,va,o1,_⟩:=K0.write K.lp hm ha
     obtain ⟨p,vs,L',rfl,hp,l,rs,l2,nL,uL⟩:=o1
     obtain ⟨vc,Lc,ec,⟨rc,_⟩,_⟩:=OwnMs.focus rs hch
     cases (show vc=_ from rc)
     refine ko er va ⟨p,_,rfl,.inl ⟨_,.inr k,.inl hp,rfl,by rw [qx _ l,<- VM]; exact ec.symm⟩,?_⟩
     obtain ⟨Ga,Ea,back⟩:=K.thw
     refine kv Ea hy fun u G2 H2 x2 r2=>?_
     cases (show u=_ from r2)
     obtain ⟨G3,x3,K3,_⟩:=back _ _ x2
     have K4:=K3.pushF (d:=.int (a+b)) (v:=.int (a+b)) rfl
     obtain ⟨r',v1',L1',Lr',er',va',o1',orr,dj,wr⟩:=K4.write K.lp hm ha
     rw [er] at er'
     cases er'
     cases yr.one (va.mono x3.h) va'
     obtain ⟨p',vs',L'',e0,hp',l',rs',l2',nL',uL'⟩:=o1'
     cases e0
     have ez:xV (ks.zip vs') (.inr k) (V.int (a+b))=ks.zip (yi ks vs' (.inr k) (V.int (a+b))):=by
      rw [WA l']
      unfold xo
      rw [if_pos hx]
     have k1:∀ q,q≠p->(zQ H2 p (.dK (xV (ks.zip vs') (.inr k) (V.int (a+b))))) q=H2 q:=fun q z=>zw z
     have rs2:OwnMs X.K G3 (zQ H2 p (.dK (xV (ks.zip vs') (.inr k) (V.int (a+b))))) ms vs' L'':=OwnMs.imp (fun m' _ v' L3 s o=>o.loc (zW.refl _) m' v' L3 fun q z=>k1 q fun c=>nL' (c ▸ s q z)) rs'
     obtain ⟨L3,o3,s3⟩:=OwnMs.putZ (k:=.inr k) (d:=.int (a+b)) (w:=.int (a+b)) rfl rs2 l'
     have em:∀ {α:Type} (xs:List α) (z:α),yi ks xs (.inr k) z=List.zipWith (fun k' x=>if k'=.inr k then z else x) ks xs:=fun xs z=>by
      unfold yi
      rw [if_pos hx]
     obtain ⟨m',e',K5⟩:=wr (H':=zQ H2 p (.dK (xV (ks.zip vs') (.inr k) (V.int (a+b))))) (m2:=.tab ks (yi ks ms (.inr k) (.fz (.int (a+b))))) (L2:=fun q=>q=p\/L3 q) (fun q z=>k1 q fun c=>z ((uL' q).mpr (.inl c)))
      ⟨p,yi ks vs' (.inr k) (V.int (a+b)),L3,rfl,by rw [yK,ez],by rw [em,List.length_zipWith,l',Nat.min_self],by rw [em,em]; exact o3,by rw [em,List.length_zipWith,rs'.length.symm.trans l'.symm,Nat.min_self]; rw [<- rs'.length,<- l'] at l2; exact l2,fun z=>nL' (s3 p z),fun q=>Iff.rfl⟩ (fun q z=>by
       rcases z with rfl | z
       ·exact .inl ((uL' q).mpr (.inl rfl))
       ·exact .inl ((uL' q).mpr (.inr (s3 q z))))
     rw [j7 hm e'] at hβ
     cases hβ
     exact ⟨_,_,rfl,rfl,_,.inl ⟨_,.inr k,hp',rfl,by rw [List.length_zip,l',Nat.min_self,sizeLine_eq,<- l']; exact hl,rfl⟩,q _ _ _ K5⟩
    ·cases hf
   ·cases hg
  ·cases hf
 ·cases hf
end
noncomputable def Vn (ix:Nat) (i:Nat) (π:List yR) (fk:FE) (fv:yb):zu:=fun β=>(fv β).bind fun r=>(vZ r.1).bind fun y=>match y with
 | .tup [d1,d2]=>(vm (r.2.set ix (some (.fz d1))) i π).bind fun nd=>match nd with
  | .own (.lst ds)=>(fk (wp (r.2.set ix (some (.fz d1))))).bind fun x=>match x with
   | .int j=>(ixN ds.length j).bind fun n=>(putAt (r.2.set ix (some (.fz d1))) i π (.own (.lst (ds.set n d2)))).bind fun β2=>some (.nx β2)
   | _=>none
  | _=>none
 | _=>none
section
variable {X:Cx} {np:Nat} {o k v:Expr} {ix i:Nat} {x:Str} {π:List yR} {fk:FE} {fv:yb} {px pos pos' pt:Pos} {kk:Nat}
theorem DK (hc:X.calm=true) (hx:QG X (.Name x px) (wY ix)) (hi:X.N[ix]?=some x) (hn:np<=ix) (ho:SP X o i π) (hk:SE X k fk) (hv:MC X v fv) (hp:gH k=true:=by rfl)
  (hq1:(assignEach [.Name x px,.Subscript o k pos'] X.env).map (·.2)=assign (.Name x px) X.env::(assignEach [.Subscript o k pos'] X.env).map (·.2):=by rfl) (hq2:(assignEach [.Subscript o k pos'] X.env).map (·.2)=assign (.Subscript o k pos') X.env::(assignEach [] X.env).map (·.2):=by rfl)
  (hqn:(assignEach [.Name x px,.Subscript o k pos'] X.env).length=2:=by rfl) (hst:(assignEach [.Name x px,.Subscript o k pos'] X.env).findIdx? (·.1)=none:=by rfl)
  (hs:swapsWithSole [.Tuple [.Name x px,.Subscript o k pos'] kk pt] v pos.line X.env=pure false:=by rfl) (hw:swappedStores [.Tuple [.Name x px,.Subscript o k pos'] kk pt] v X.env=pure none:=by rfl) (h1:(assignEach [.Tuple [.Name x px,.Subscript o k pos'] kk pt] X.env).map (·.2)=[assign (.Tuple [.Name x px,.Subscript o k pos'] kk pt) X.env]:=by rfl) :
  MS X np (.Assign [.Tuple [.Name x px,.Subscript o k pos'] kk pt] v pos) (Vn ix i π fk fv):=by
 obtain ⟨tk,pk,kk'⟩:=hk.h
 obtain ⟨tv,pv,kv⟩:=hv.h
 obtain ⟨to,po,ko⟩:=ho.h
 refine ⟨⟨_,UC pv (gK hc (uG hx (uG (IG ⟨po⟩ ⟨pk⟩ Iw hp) gL hq2) hq1) hqn hst).h hs hw h1,fun {P G0 H0 G H β σ fl E} hP K hf q=>?_⟩⟩
 obtain ⟨⟨m,β1⟩,hy,hf⟩:=zC hf
 obtain ⟨y,ey,hg⟩:=zC hf
 clear hf
 cases vy ey
 split at hg
 ·rename_i d1 d2
  obtain ⟨nd,hnd,hf⟩:=zC hg
  clear hg
  split at hf
  ·rename_i ds
   obtain ⟨xk,hxk,hf⟩:=zC hf
   cases xk with
   | int j=>
    obtain ⟨nn,hnn,hf⟩:=zC hf
    obtain ⟨β2,hβ,hf⟩:=zC hf
    cases hf
    obtain ⟨mm,hm,ha⟩:=tT hnd
    refine kv K hy fun w G1 H1 s1 K1=>?_
    obtain ⟨a,vs,rfl,sq,⟨w1,r1,rfl,g1,⟨w2,r2,rfl,g2,g3⟩⟩,_⟩:=K1.lastR
    cases (show r2=[] from g3)
    have Kd:=K1.down K.lp
    have Ks:=Kd.setF (i:=ix) (v:=w1) (List.getElem?_eq_some_iff.mp hi).1 (by omega) g1
    have Kp:=Ks.pushF g2
    refine ⟨a,_,rfl,wo Kd.ext.gh sq,rfl,w1,_,rfl,w2,_,rfl,?_⟩
    obtain ⟨r,v1,L1,Lr,er,va,_⟩:=Kp.write K.lp hm ha
    refine ko er va ?_
    obtain ⟨Ga,Ea,back⟩:=Ks.thw
    refine kk' Ea hxk fun u G2 H2 x2 r2=>?_
    cases (show u=_ from r2)
    obtain ⟨G3,x3,_,_⟩:=back _ _ x2
    have K4:=Kp.go x3
    obtain ⟨r',v1',L1',Lr',er',va',o1',or',dj',wr'⟩:=K4.write K.lp hm ha
    rw [er] at er'
    cases er'
    cases yr.one (va.mono x3.h) va'
    obtain ⟨p,rfl,⟨vs,ev,rs,l⟩,uL⟩:=o1'
    obtain ⟨m',e',K5⟩:=wr' (H':=zQ H2 p (.lst (vs.set nn w2))) (m2:=.own (.lst (ds.set nn d2))) (L2:=fun q=>q=p) (fun q z=>zw fun c=>z ((uL q).mpr c)) ⟨p,rfl,⟨_,yK,Reps.set K4.lastR nn rs,by rw [List.length_set]; exact l⟩,fun _=>Iff.rfl⟩ (fun q z=>.inl ((uL q).mpr z))
    rw [j7 hm e'] at hβ
    cases hβ
    exact ⟨p,vs,j,nn,rfl,rfl,ev,by rw [rs.length]; exact hnn,rfl,q _ _ _ K5⟩
   | _=>cases hf
  ·cases hf
 ·cases hg
end
end L3
namespace L3
open PySem PySem.Spec PyProof PyProof.Rows L2
mutual
noncomputable def xH:D->PyData
 | .non=>.none
 | .bl b=>.bool b
 | .int i=>.int i
 | .str x=>.str x
 | .tup ds=>.tuple (pyTs ds)
 | .lst ds=>.list (pyTs ds)
 | _=>.none
noncomputable def pyTs:List D->List PyData
 | []=>[]
 | d::ds=>xH d::pyTs ds
end
mutual
noncomputable def wD:D->Nat
 | .non=>4
 | .bl _=>5
 | .int i=>if decide (0<=i)&&decide (i<100000000000000000000) then 20 else 1000000000
 | .tup ds=>wDs ds+3
 | .lst ds=>wDs ds+2
 | _=>1000000000
noncomputable def wDs:List D->Nat
 | []=>0
 | d::ds=>wD d+2+wDs ds
end
noncomputable def wH:Nat->D->Bool
 | _,.non=>true
 | _,.bl _=>true
 | _,.int _=>true
 | n+1,.tup ds=>ds.all (wH n)
 | n+1,.lst ds=>ds.all (wH n)
 | _,_=>false
noncomputable def XG:List D->Option D
 | [.lst ds]=>match decide (wDs ds<=1000000)&&ds.all (wH 5) with
  | true=>some (.str (xH (.lst ds)).shown)
  | false=>none
 | _=>none
theorem OC:∀ (ts:List Str) (k:Nat) (acc:Str),(textFrom k acc ts).length<=acc.length+piled ts
 | [],k,acc=>Nat.le_add_right _ _
 | t::r,k,acc=>by
  have h:=OC r (k+1) (acc++(if k > 0 then ", " else "" : String)++t)
  have e:(acc++(if k > 0 then ", " else "" : String)++t).length=acc.length+(if k > 0 then 2 else 0)+t.length:=by
   rw [strLen_append,strLen_append]
   split<;>rfl
  rw [e] at h
  rw [piled_cons]
  show (textFrom (k+1) _ r).length<=_
  have:(if k > 0 then 2 else 0:Nat)<=2:=by split<;>omega
  omega
theorem Bj (ts:List Str):(listText ts).length<=piled ts+2:=by
 unfold listText
 have h:=OC ts 0 "["
 have e1:(("[" : String):Str).length=1:=rfl
 have e2:(("]" : String):Str).length=1:=rfl
 rw [strLen_append,e2]
 rw [e1] at h
 omega
theorem NP (ts:List Str):(tupleText ts).length<=piled ts+3:=by
 unfold tupleText
 rw [strLen_append,strLen_append]
 have e1:((("(" : String):Str)).length=1:=rfl
 have e3:(((if ts.length == 1 then ",)" else ")" : String):Str)).length<=2:=by split<;>decide
 rw [e1]
 by_cases h:ts=[]
 ·subst h
  have:(Str.join ", " []).length=0:=rfl
  omega
 ·have:=join_length_add ts h
  omega
theorem Iz (d:D):wD d<=900000000->(xH d).shown.length<=wD d:=by
 have all:∀ xs:List D,(∀ d∈xs,wD d<=900000000->(xH d).shown.length<=wD d)->wDs xs<=900000000->piled (PyData.shownAll (pyTs xs))<=wDs xs:=fun xs=>by
  induction xs with
  | nil=>intro _ _; exact Nat.le_refl _
  | cons x xs ih=>
   intro h hw
   have hw':wD x+2+wDs xs<=900000000:=hw
   have h1:=h x List.mem_cons_self (by omega)
   have h2:=ih (fun d hd=>h d (List.mem_cons_of_mem _ hd)) (by omega)
   show piled ((xH x).shown::PyData.shownAll (pyTs xs))<=wD x+2+wDs xs
   rw [piled_cons]
   omega
 refine D.ind (P:=fun d=>wD d<=900000000->(xH d).shown.length<=wD d) ?_ ?_ ?_ ?_ ?_ ?_ ?_ ?_ ?_ d
 ·intro _; decide
 ·intro b _; cases b<;>decide
 ·intro i h
  change (if decide (0<=i)&&decide (i<100000000000000000000) then 20 else 1000000000)<=900000000 at h
  show (Str.ofString (toString i)).length<=(if decide (0<=i)&&decide (i<100000000000000000000) then 20 else 1000000000)
  cases c:(decide (0<=i)&&decide (i<100000000000000000000)) with
  | false=>rw [c,if_neg (by decide)] at h; omega
  | true=>
   rw [if_pos rfl]
   rw [Bool.and_eq_true] at c
   have e:(10:Int) ^ 20=100000000000000000000:=by decide
   have h2:=of_decide_eq_true c.2
   rw [<- e] at h2
   exact toString_length_le (of_decide_eq_true c.1) (by decide) h2
 ·intro x h; exact absurd h (by show ¬ (1000000000<=900000000); decide)
 ·intro xs ih h
  have h':wDs xs+3<=900000000:=h
  have:=all xs ih (by omega)
  have:=NP (PyData.shownAll (pyTs xs))
  show (tupleText (PyData.shownAll (pyTs xs))).length<=wDs xs+3
  omega
 ·intro xs ih h
  have h':wDs xs+2<=900000000:=h
  have:=all xs ih (by omega)
  have:=Bj (PyData.shownAll (pyTs xs))
  show (listText (PyData.shownAll (pyTs xs))).length<=wDs xs+2
  omega
 ·intro ks xs _ h; exact absurd h (by show ¬ (1000000000<=900000000); decide)
 ·intro x h; exact absurd h (by show ¬ (1000000000<=900000000); decide)
 ·intro x fs xs _ h; exact absurd h (by show ¬ (1000000000<=900000000); decide)
theorem KO (d:D):wD d<=900000000->(xH d).showable=true/\(xH d).hasDict=false:=by
 have all:∀ xs:List D,(∀ d∈xs,wD d<=900000000->(xH d).showable=true/\(xH d).hasDict=false)->wDs xs<=900000000->PyData.showableAll (pyTs xs)=true/\PyData.hasDictAll (pyTs xs)=false:=fun xs=>by
  induction xs with
  | nil=>intro _ _; exact ⟨rfl,rfl⟩
  | cons x xs ih=>
   intro h hw
   have hw':wD x+2+wDs xs<=900000000:=hw
   obtain ⟨a,b⟩:=h x List.mem_cons_self (by omega)
   obtain ⟨c,e⟩:=ih (fun d hd=>h d (List.mem_cons_of_mem _ hd)) (by omega)
   constructor
   ·show ((xH x).showable&&PyData.showableAll (pyTs xs))=true
    rw [a,c]; rfl
   ·show ((xH x).hasDict||PyData.hasDictAll (pyTs xs))=false
    rw [b,e]; rfl
 refine D.ind (P:=fun d=>wD d<=900000000->(xH d).showable=true/\(xH d).hasDict=false) (fun _=>⟨rfl,rfl⟩) (fun b _=>⟨rfl,rfl⟩) ?_ ?_ ?_ ?_ (fun ks xs _ _=>⟨rfl,rfl⟩) (fun x _=>⟨rfl,rfl⟩) (fun x fs xs _ _=>⟨rfl,rfl⟩) d
 ·intro i h
  change (if decide (0<=i)&&decide (i<100000000000000000000) then 20 else 1000000000)<=900000000 at h
  refine ⟨?_,rfl⟩
  cases c:(decide (0<=i)&&decide (i<100000000000000000000)) with
  | false=>rw [c,if_neg (by decide)] at h; omega
  | true=>
   rw [Bool.and_eq_true] at c
   have h1:=of_decide_eq_true c.1
   have h2:=of_decide_eq_true c.2
   show decide (i.natAbs.log2<1920)=true
   refine decide_eq_true ?_
   by_cases z:i.natAbs=0
   ·rw [z]; decide
   ·have e:(2:Nat) ^ 67=147573952589676412928:=by decide
    have h3:i.natAbs<2 ^ 67:=by
     rw [e]
     omega
    have:=(Nat.log2_lt z).mpr h3
    omega
 ·intro x h; exact absurd h (by show ¬ (1000000000<=900000000); decide)
 ·intro xs ih h
  have h':wDs xs+3<=900000000:=h
  exact all xs ih (by omega)
 ·intro xs ih h
  have h':wDs xs+2<=900000000:=h
  exact all xs ih (by omega)
theorem V6:∀ (n:Nat) (d:D),wH n d=true->(xH d).depth<=n
 | n,.non,_=>Nat.zero_le _
 | n,.bl _,_=>Nat.zero_le _
 | n,.int _,_=>Nat.zero_le _
 | 0,.tup _,h=>by cases h
 | 0,.lst _,h=>by cases h
 | n+1,.tup ds,h=>by
  have all:∀ ds:List D,ds.all (wH n)=true->PyData.depthAll (pyTs ds)<=n:=fun ds=>by
   induction ds with
   | nil=>intro _; exact Nat.zero_le _
   | cons x xs ih=>
    intro h
    rw [List.all_cons,Bool.and_eq_true] at h
    exact Nat.max_le.mpr ⟨V6 n x h.1,ih h.2⟩
  exact Nat.succ_le_succ (all ds h)
 | n+1,.lst ds,h=>by
  have all:∀ ds:List D,ds.all (wH n)=true->PyData.depthAll (pyTs ds)<=n:=fun ds=>by
   induction ds with
   | nil=>intro _; exact Nat.zero_le _
   | cons x xs ih=>
    intro h
    rw [List.all_cons,Bool.and_eq_true] at h
    exact Nat.max_le.mpr ⟨V6 n x h.1,ih h.2⟩
  exact Nat.succ_le_succ (all ds h)
 | n,.str _,h=>by cases n<;>cases h
 | n,.dic _ _,h=>by cases n<;>cases h
 | n,.exc _,h=>by cases n<;>cases h
 | n,.obj _ _ _,h=>by cases n<;>cases h
section
variable {X:Cx} {pins:List (Addr×Obj)} {σ:St} {H:Hp} {s:Shared}
theorem G7 (I:zB X pins σ H s) (d:D):∀ (n:Nat) (v:V) (u:Value),wH n d=true->zP X.K H d v->zX v u->∃ as,Reads s.heap u (xH d) as:=by
 have all:∀ (xs:List D),(∀ d∈xs,∀ (n:Nat) (v:V) (u:Value),wH n d=true->zP X.K H d v->zX v u->∃ as,Reads s.heap u (xH d) as)->∀ (n:Nat) (vs:List V) (us:List Value),xs.all (wH n)=true->Reps X.K H xs vs->zb vs us->∃ as,ReadsAll s.heap us (pyTs xs) as:=fun xs=>by
  induction xs with
  | nil=>
   intro _ n vs us _ r hv
   cases (show vs=[] from r)
   cases hv
   exact ⟨[],.nil⟩
  | cons x xs ih=>
   intro h n vs us ha r hv
   obtain ⟨v,r',rfl,h1,h2⟩:=r
   rw [List.all_cons,Bool.and_eq_true] at ha
   cases hv with
   | cons q1 q2=>
    obtain ⟨as,ra⟩:=h x List.mem_cons_self n v _ ha.1 h1 q1
    obtain ⟨bs,rb⟩:=ih (fun d hd=>h d (List.mem_cons_of_mem _ hd)) n r' _ ha.2 h2 q2
    exact ⟨_,.cons ra rb⟩
 refine D.ind (P:=fun d=>∀ (n:Nat) (v:V) (u:Value),wH n d=true->zP X.K H d v->zX v u->∃ as,Reads s.heap u (xH d) as) ?_ ?_ ?_ ?_ ?_ ?_ ?_ ?_ ?_ d
 ·intro n v u _ r q
  cases (show v=_ from r)
  cases (show u=_ from q)
  exact ⟨_,.none⟩
 ·intro b n v u _ r q
  cases (show v=_ from r)
  cases (show u=_ from q)
  exact ⟨_,.bool b⟩
 ·intro i n v u _ r q
  cases (show v=_ from r)
  obtain ⟨t,rfl⟩:=(show ∃ t,u=Value.int i t from q)
  exact ⟨_,.int i t⟩
 ·intro x n v u h
  cases n<;>cases h
 ·intro xs ih n v u h r q
  obtain ⟨a,vs,rfl,sq,rs,_⟩:=r
  cases (show u=_ from q)
  cases n with
  | zero=>cases h
  | succ n=>
   obtain ⟨its,rv,⟨o,e,hc,m,hd⟩,_⟩:=I.tuple sq
   obtain ⟨as,ra⟩:=all xs ih n vs its h rs rv
   exact ⟨as,.tuple e hc hd (by simpa using ra)⟩
 ·intro xs ih n v u h r q
  obtain ⟨a,vs,rfl,sq,rs,_⟩:=r
  cases (show u=_ from q)
  cases n with
  | zero=>cases h
  | succ n=>
   obtain ⟨its,rv,⟨o,m,e,hc,_,hd⟩,_⟩:=I.list sq
   obtain ⟨as,ra⟩:=all xs ih n vs its h rs rv
   exact ⟨_,.list e hc hd (by simpa using ra)⟩
 ·intro ks xs _ n v u h
  cases n<;>cases h
 ·intro x n v u h
  cases n<;>cases h
 ·intro x fs xs _ n v u h
  cases n<;>cases h
end
noncomputable def IQ (K:PySem.W.Frag):List V->Hp->VK->Prop:=fun xs H Q=>∃ ds v,xs=[v]/\zP K H (.lst ds) v/\wDs ds<=1000000/\ds.all (wH 5)=true/\Q (.str (xH (.lst ds)).shown) H
theorem Q5 {X:Cx} {j:Nat} (hr:yF j X.A):xC X (.builtin "repr") (IQ X.K):=by
 intro pins s σ H xs us Q I r h
 obtain ⟨ds,v,rfl,rd,hw,hd,q⟩:=h
 obtain ⟨u,rfl,rx⟩:=wq r
 obtain ⟨as,ra⟩:=G7 I (.lst ds) 6 v u hd rd rx
 obtain ⟨a,vs,rfl,_⟩:=rd
 cases rx
 have w9:wD (.lst ds)<=900000000:=by show wDs ds+2<=_; omega
 obtain ⟨s1,s2⟩:=KO (.lst ds) w9
 have dp:=V6 6 (.lst ds) hd
 have hu:=hr.units
 have sl:=Iz (.lst ds) w9
 have sz:(xH (.lst ds)).shown.length<=sizeLine:=by
  have:wD (.lst ds)=wDs ds+2:=rfl
  rw [sizeLine_eq]
  omega
 exact repr_of_reads' ra s1 (PyData.noDict_hsm s2) hr.gd (by omega) (fun _ _ e=>e) (fun h' u tk hk=>⟨.str _,H,I.kept (t':=tk) hk,⟨_,rfl⟩,q⟩) sz
theorem JS {K:PySem.W.Frag}:tI K (IQ K) XG:=fun G H ds vs d Q s r hf q=>by
 match ds,hf with
 | [.lst xs],hf=>
  change (match decide (wDs xs<=1000000)&&xs.all (wH 5) with | true=>some (D.str (xH (.lst xs)).shown) | false=>none)=some d at hf
  cases c:(decide (wDs xs<=1000000)&&xs.all (wH 5)) with
  | false=>rw [c] at hf; cases hf
  | true=>
   rw [c] at hf
   cases hf
   rw [Bool.and_eq_true] at c
   have hw:=of_decide_eq_true c.1
   obtain ⟨v,rfl,rv⟩:=uH r
   have sl:=Iz (.lst xs) (by show wDs xs+2<=_; omega)
   refine ⟨xs,v,rfl,?_,hw,c.2,q _ _ _ (zK.refl s) ⟨rfl,?_⟩⟩
   ·first | exact rv | exact rv.mono s
   ·have:wD (.lst xs)=wDs xs+2:=rfl
    rw [sizeLine_eq]
    omega
end L3
namespace L3
open PySem PySem.Spec PyProof PyProof.Rows L2
theorem LG {X:Cx}:xC X (.type "dict") (fun xs H Q=>∃ a kvs,xs=[.ref a]/\Rd H a (.dK kvs)/\∀ p,H p=none->Q (.ref p) (zQ H p (.dK kvs))):=by
 intro pins s σ H xs us Q I r h
 obtain ⟨a,kvs,rfl,e,q⟩:=h
 obtain ⟨u,rfl,ru⟩:=wq r
 cases (show u=Value.ref a from ru)
 obtain ⟨hz,hsys,vs,rel,dd⟩:=v_ I.hok e
 have hlv:vs.length=kvs.length:=VX rel
 refine kt_call_dict hsys dd (by rw [hlv]; exact hz) fun h' hm sb=>?_
 have hm2:(s.heap.objs.size == sysModules)=false:=by
  have:=I.big
  rw [beq_eq_false_iff_ne]
  exact yx (Nat.ne_of_gt this)
 have kp:∀ b o,s.heap.get? b=some o->h'.get? b=some o:=fun b o eb=>by
  have hlt:=Heap.lt_size eb
  exact (sb.2 b (yx (Nat.ne_of_lt hlt))).trans (Heap.get?_push_of_some _ eb)
 exact ⟨.ref s.heap.objs.size,_,I.laid (a:=s.heap.objs.size) (o:=.dK kvs) (t':=s.toks) kp (Nat.le_refl _) (X0 hz hm2 rel hm),rfl,q _ I.fresh⟩
noncomputable def X6:List D->Option D
 | [.dic ks ds]=>some (.dic ks ds)
 | _=>none
theorem KG {X:Cx} {e:Expr} {fs:FA} {p pos:Pos} (hg:Gl X "dict") (hm:X.mg "dict" = none) (hv:bootBuiltins "dict" = some (.type "dict")) (ha:SA X [e] fs) (hs:yT e=true:=by rfl):SF X (.Call (.Name "dict" p) [e] [] pos) (eL X6 fs):=by
 obtain ⟨t,pt,k⟩:=ha.h
 refine ⟨⟨_,(gJ LG hg hm hv ⟨pt⟩ (by decide) (by decide) (by rw [List.all_cons,hs]; rfl)).h,fun {G0 H0 G H τ σ d Q} E hf q=>?_⟩⟩
 obtain ⟨ds,hd,hf⟩:=zC hf
 refine k E hd fun vs G1 H1 x1 r1=>?_
 unfold X6 at hf
 split at hf
 ·rename_i ks es
  cases hf
  obtain ⟨v,rfl,a,ws,rfl,sq,hl,rs,l⟩:=uH r1
  refine ⟨a,_,rfl,Rd.mono x1.gh sq,fun p hp=>?_⟩
  exact q p _ _ (x1.trans (zK.layO x1.gh hp)) (x1.h.free hp) (x1.gh.free hp) ⟨ws,yK,hl,rs,l⟩
 ·cases hf
end L3
namespace L3
noncomputable def xh:=
 And.intro yI.eq_1 <| And.intro uY.eq_1 <| And.intro tQ.eq_1 <| And.intro p_.eq_1 <| And.intro vC.eq_1 <| And.intro wl.eq_1 <| And.intro yX.eq_1 <| And.intro wx.eq_1 <| And.intro qU.eq_1 <| And.intro LD.eq_1 <| And.intro LC.eq_1 <|
 And.intro ug.eq_1 <| And.intro Nb.eq_1 <| And.intro Na.eq_1 <| And.intro Uq.eq_1 <| And.intro Ur.eq_1 <| And.intro gu.eq_1 <| And.intro Wr.eq_1 <| And.intro vZ.eq_def <| And.intro vm.eq_1 <| And.intro putAt.eq_1 <|
 And.intro vI.eq_1 <| And.intro vE.eq_1 <| And.intro uC.eq_1 <| And.intro hide.eq_1 <| And.intro wp.eq_1 <| And.intro xO.eq_1 <| And.intro xO.eq_2 <| And.intro xO.eq_3 <| And.intro xO.eq_4 <| And.intro thaws.eq_1 <| And.intro thaws.eq_2 <|
 And.intro wM.eq_1 <| And.intro wM.eq_2 <| And.intro wM.eq_3 <| And.intro wM.eq_4 <| And.intro wM.eq_5 <| And.intro tplDs.eq_1 <| And.intro tplDs.eq_2 <| And.intro Vy.eq_def <| And.intro vO.eq_1 <| And.intro qd.eq_1 <| And.intro vN.eq_1 <| And.intro Vn.eq_1 <| And.intro kL.eq_1 <| And.intro ux.eq_1 <| And.intro ux.eq_2 <|
 And.intro xj.eq_1 <| And.intro jf.eq_1 <| And.intro w6.eq_1 <| And.intro Oc.eq_1 <| And.intro ww.eq_1 <| And.intro pU.eq_1 <| And.intro qw.eq_1 <| And.intro qw.eq_2 <| And.intro qw.eq_3 <| And.intro jj.eq_1 <| And.intro jj.eq_2 <| And.intro jj.eq_3 <| And.intro uB.eq_1 <| And.intro pV.eq_1 <| And.intro wy.eq_1 <| And.intro Yy.eq_1 <| And.intro Wu.eq_1 <|
 And.intro uP.eq_1 <| And.intro uP.eq_2 <| And.intro gz.eq_1 <| And.intro gz.eq_2 <| And.intro wA.eq_1 <| And.intro pp.eq_1 <| And.intro W_.eq_1 <| And.intro pX.eq_1 <| And.intro Wt.eq_1 <| And.intro Yx.eq_1 <|
 And.intro XT.eq_1 <| And.intro pz.eq_1 <| And.intro @Option.map_some.{0,0} <| And.intro @Option.map_none.{0,0} <| And.intro @List.take_succ_cons.{0} @List.take_zero.{0}
end L3
namespace L3
open PySem PySem.Spec PyProof.Rows L2
theorem ur {K:PySem.W.Frag} {f:Str}:zl K [] f:=fun x hx=>absurd hx (by simp)
theorem uq {K:PySem.W.Frag} {f c:Str} {C:Addr} {cs:List Str} (ns:PySem.W.nsIn K mainGlobals c=some (some (.ref C))) (cl:wt K C) (na:PySem.W.findIn K (.ref C) f=some none) (r:zl K cs f):zl K (c::cs) f:=fun x hx C' ns'=>by
 rcases List.mem_cons.mp hx with rfl | hx
 ·rw [ns] at ns'
  cases ns'
  exact ⟨cl,na⟩
 ·exact r x hx C' ns'
end L3
namespace L3
open PySem PySem.Spec PyProof.Rows L2
noncomputable def Qb:List D->Option D
 | [.lst xs]=>(kH xs).bind fun ns=>match ns.all (fun i=>decide (0<=i)&&decide (i<1099511627776))&&decide (ns.length<=1000) with
  | true=>some (.int ns.sum)
  | false=>none
 | _=>none
theorem O7:∀ {ns:List Int},(∀ n∈ns,0<=n/\n<1099511627776)->0<=ns.sum/\ns.sum<=1099511627776*(ns.length:Int)
 | [],_=>⟨Int.le_refl _,by decide⟩
 | n::ns,h=>by
  obtain ⟨a,b⟩:=O7 fun m hm=>h m (List.mem_cons_of_mem _ hm)
  obtain ⟨c,d⟩:=h n List.mem_cons_self
  rw [List.sum_cons,List.length_cons]
  constructor
  ·omega
  ·push_cast
   omega
theorem C1 {K:PySem.W.Frag}:tI K (IR K) Qb:=fun G H ds vs d Q s r hf q=>by
 match ds,hf with
 | [.lst xs],hf=>
  obtain ⟨ns,hn,hf⟩:=zC (show (kH xs).bind _=some d from hf)
  cases c:(ns.all (fun i=>decide (0<=i)&&decide (i<1099511627776))&&decide (ns.length<=1000)) with
  | false=>rw [c] at hf; cases hf
  | true=>
   rw [c] at hf
   cases hf
   rw [Bool.and_eq_true] at c
   have hl:=of_decide_eq_true c.2
   have ha:∀ n∈ns,0<=n/\n<1099511627776:=fun n hm=>by
    have:=List.all_eq_true.mp c.1 n hm
    rw [Bool.and_eq_true] at this
    exact ⟨of_decide_eq_true this.1,of_decide_eq_true this.2⟩
   obtain ⟨v,rfl,a,us,rfl,sq,rs,l⟩:=uH r
   rw [Qx hn rs] at sq
   refine ⟨a,ns,rfl,.inl sq,⟨fun n hm=>?_,fun k hk=>?_⟩,q _ _ _ (zK.refl s) rfl⟩
   ·have:=ha n hm
    constructor<;>omega
   ·have:=O7 (ns:=ns.take k) fun n hm=>ha n (List.mem_of_mem_take hm)
    have l2:(ns.take k).length<=1000:=by rw [List.length_take]; omega
    have l3:((ns.take k).length:Int)<=1000:=by exact_mod_cast l2
    constructor<;>omega
theorem Q3:bootBuiltins "repr" = some (.builtin "repr"):=PyProof.Rows.bootS_repr
end L3
namespace L3
open PySem PySem.Spec PyProof.Rows L2
section
variable {X:Cx} {np:Nat} {x c:Str} {p pos pos':Pos} {e:Expr} {es:List Expr} {f:FE} {F:D->D->Option D}
end
end L3
namespace L3
open PySem PySem.Spec PyProof.Rows L2
noncomputable def Vl (h:yb) (fg:MG):zu:=fun β=>(h β).bind fun r=>(vZ r.1).bind fun d=>(fg d r.2).bind fun β2=>some (.nx β2)
theorem DI {X:Cx} {np:Nat} {tg e:Expr} {pos:Pos} {h:yb} {fg:MG} (he:MC X e h) (hg:YG X np tg fg) (hs:swapsWithSole [tg] e pos.line X.env=pure false:=by rfl) (hw:swappedStores [tg] e X.env=pure none:=by rfl) (h1:(assignEach [tg] X.env).map (·.2)=[assign tg X.env]:=by rfl) :
  MS X np (.Assign [tg] e pos) (Vl h fg):=by
 obtain ⟨te,pe,ke⟩:=he.h
 obtain ⟨tt,pt,kt⟩:=hg.h
 refine ⟨⟨_,UC pe pt hs hw h1,fun {P G0 H0 G H β σ fl E} hP K hf q=>?_⟩⟩
 obtain ⟨⟨m,β1⟩,hy,hf⟩:=zC hf
 obtain ⟨d,ed,hg⟩:=zC hf
 clear hf
 cases vy ed
 obtain ⟨β2,h2,hf⟩:=zC hg
 cases hf
 refine ke K hy fun v G1 H1 s1 K1=>?_
 exact kt hP (K1.down K.lp) K1.lastR h2 fun σ' K'=>q _ _ _ K'
end L3
namespace L3
open PySem PySem.Spec PyProof PyProof.Rows L2
section
variable {X:Cx} {np:Nat}
end
section
variable {P:Program} {w:World} {K:PySem.W.Frag} {mg:Str->Option Value} {base:Heap}
end
end L3
namespace L3
open PySem PySem.Spec PyProof PyProof.Rows L2
section
variable {X:Cx} {np:Nat} {scope:Scope} {cl:List (Str×Addr)} {own:List Str} {elt tg iter:Expr} {ifs:List Expr} {pos:Pos} {fs:FA} {g:TG} {fg:FG} {ft:FT} {f:FE}
end
end L3
namespace L3
open PySem PySem.Spec PyProof PyProof.Rows L2
end L3
namespace L2
open PySem PySem.Spec PyProof PyProof.Rows
end L2
namespace L3
open PySem PySem.Spec PyProof PyProof.Rows L2
section
variable {X:Cx} {x:Str} {pos pos':Pos} {e:Expr} {f:FE} {i:Nat}
end
end L3
local macro_rules
 | `(tactic| simp! [$ls,*])=>`(tactic| simp only [L3.shx,Nat.reduceAdd,Nat.reduceSub,Int.reduceLT,Int.reduceLE,Int.reducePow,Int.reduceToNat,Int.reduceAdd,Int.reduceSub,Int.reduceMul,Int.reduceNeg,$ls,*])
namespace L3
open PySem
noncomputable def M6:List D:=[(.int 0),(.int 8),(.int 16),(.int 24)]
noncomputable def kG:D:=.tup M6
noncomputable def XJ:List D:=[(.str "carry"),(.str "nought"),(.str "sign")]
noncomputable def pq:D:=.tup XJ
noncomputable def M7:List D:=[(.str "jump"),(.str "when"),(.str "unless")]
noncomputable def VQ:D:=.tup M7
end L3
namespace L3
open PySem
theorem Vg {g:FG} {c:FT} {e:FE} {σ:zf} (p:D->Bool) (v:D->D):∀ {ds:List D},(∀ d∈ds,∃ σ1,g d σ=some σ1/\c σ1=some (p d)/\(p d=true->e σ1=some (v d)))->xU g c e σ ds=some ((ds.filter p).map v)
 | [],_=>rfl
 | d::ds,h=>by
  obtain ⟨σ1,e1,e2,e3⟩:=h d (List.mem_cons_self ..)
  have ih:=Vg p v (ds:=ds) fun x hx=>h x (List.mem_cons_of_mem _ hx)
  show (g d σ).bind _=_
  rw [e1]
  show (c σ1).bind _=_
  rw [e2]
  cases hp:p d with
  | false=>
   rw [List.filter_cons_of_neg (by rw [hp]; decide)]
   exact ih
  | true=>
   rw [List.filter_cons_of_pos hp]
   show (e σ1).bind _=_
   rw [e3 hp]
   show (xU g c e σ ds).bind _=_
   rw [ih]
   rfl
theorem XX {g:FG} {e:FE} {σ:zf} (v:D->D) {ds:List D} (h:∀ d∈ds,∃ σ1,g d σ=some σ1/\e σ1=some (v d)):xU g xi e σ ds=some (ds.map v):=by
 have:=Vg (g:=g) (c:=xi) (e:=e) (σ:=σ) (fun _=>true) v (ds:=ds) fun d hd=>by
  obtain ⟨σ1,a,b⟩:=h d hd
  exact ⟨σ1,a,rfl,fun _=>b⟩
 rw [this,List.filter_eq_self.mpr (fun _ _=>rfl)]
noncomputable def g6:Nat->D->Bool
 | 0,_=>false
 | n+1,.tup xs=>xs.all (g6 n)
 | n+1,.lst xs=>xs.all (g6 n)
 | _+1,d=>yd d
theorem Ww {f:D->D->Bool}:∀ {xs:List D},(∀ x∈xs,f x x=true)->ve f xs xs=true
 | [],_=>rfl
 | x::xs,h=>by
  show (f x x&&ve f xs xs)=true
  rw [h x (List.mem_cons_self ..),Ww fun y hy=>h y (List.mem_cons_of_mem _ hy)]
  rfl
theorem Wz:∀ {xs:List D},(∀ x∈xs,yk x x=true)->dEqs xs xs=true
 | [],_=>by unfold dEqs; rfl
 | x::xs,h=>by
  unfold dEqs
  rw [h x (List.mem_cons_self ..),Wz fun y hy=>h y (List.mem_cons_of_mem _ hy)]
  rfl
theorem kT:∀ (n:Nat) (d:D),g6 n d=true->wG n d d=true/\yk d d=true
 | 0,_,h=>by cases h
 | n+1,d,h=>by
  cases d with
  | tup xs=>
   have h':∀ x∈xs,g6 n x=true:=List.all_eq_true.mp h
   exact ⟨Ww fun x hx=>(kT n x (h' x hx)).1,by unfold yk; exact Wz fun x hx=>(kT n x (h' x hx)).2⟩
  | lst xs=>
   have h':∀ x∈xs,g6 n x=true:=List.all_eq_true.mp h
   exact ⟨Ww fun x hx=>(kT n x (h' x hx)).1,by unfold yk; exact Wz fun x hx=>(kT n x (h' x hx)).2⟩
  | dic ks vs=>cases h
  | exc _=>cases h
  | obj _ _ _=>cases h
  | non=>exact ⟨rfl,by unfold yk; rfl⟩
  | bl b=>exact ⟨rfl,by unfold yk; exact beq_self_eq_true b⟩
  | int i=>exact ⟨rfl,by unfold yk; exact beq_self_eq_true i⟩
  | str z=>exact ⟨rfl,by unfold yk; exact beq_self_eq_true z⟩
theorem N_ {d:D} (h:g6 6 d=true):qW d d=some true:=by
 obtain ⟨h1,h2⟩:=kT 6 d h
 have e:qW d d=match wG 6 d d with
  | true=>some (yk d d)
  | false=>none:=by cases d<;>rfl
 rw [e,h1,h2]
theorem add_int {i j:Int}:ym (.int i) (.int j)=some (.int (i+j)):=rfl
end L3
namespace L3
open PySem
theorem Jd (x:Int) (w:Nat):Builtin.bitAnd x ((1:Int)*2 ^ w - 1)=x % 2 ^ w:=by
 rw [Int.one_mul,PySem.W.kbt_mask]
end L3
namespace L3
open PySem
theorem Ty (a:Nat):decide ((0:Int)<=Builtin.bitNot (a:Int))=false:=decide_eq_false (by unfold Builtin.bitNot; omega)
theorem b0 (a:Nat):decide ((0:Int)<=(a:Int))=true:=decide_eq_true (Int.natCast_nonneg a)
theorem L0 (a:Int):Builtin.bitNot (Builtin.bitNot a)=a:=by unfold Builtin.bitNot; omega
theorem Q1 (a b:Nat):Builtin.bitOr (a:Int) (b:Int)=((a ||| b:Nat):Int):=by
 unfold Builtin.bitOr Builtin.bitAnd
 rw [Ty,Ty]
 simp only [L0,Int.toNat_natCast]
theorem Tl (a b:Nat):Builtin.bitAnd (a:Int) (b:Int)=((a &&& b:Nat):Int):=by
 unfold Builtin.bitAnd
 rw [b0,b0]
 simp only [Int.toNat_natCast]
end L3
namespace L3
open PySem
noncomputable def Tg:FS:=
 (zj (xF (tE (e2 (xT fun i j=>decide (i<j)) (z6 1) (eL ph (z8 (z6 0) zF))))
   (z_ (e2 zG (z6 0) (z6 1)))
   xq)
  (z_ (eC (.int 0))))
theorem B6 (ns:List Int) (k:Nat):(ns.map D.int)[k]?=(ns[k]?).map D.int:=List.getElem?_map
noncomputable def vK (ns:List Int) (k:Int):Int:=ns.getD k.toNat 0
noncomputable def vq:List D->Option (Bool×D)
 | [.lst xs,.int k]=>if 0<=k then ((xs[k.toNat]?).getD (.int 0) |> fun d=>some (false,d)) else none
 | _=>none
theorem gv (ns:List Int) {k:Int} (h:0<=k):vq [.lst (ns.map D.int),.int k]=some (false,.int (vK ns k)):=by
 show (if 0<=k then _ else _)=_
 rw [if_pos h,B6]
 unfold vK
 rw [List.getD_eq_getElem?_getD]
 cases ns[k.toNat]?<;>rfl
theorem GY:∀ ds r,vq ds=some r->ds.length=2/\zZ 2 Tg ds=some r:=fun ds r h=>by
 unfold vq at h
 split at h
 ·rename_i xs k
  refine ⟨rfl,?_⟩
  by_cases h0:0<=k
  ·rw [if_pos h0] at h
   cases h
   unfold Tg
   by_cases c:k<(xs.length:Int)
   ·have e:zG (.lst xs) (.int k)=some ((xs[k.toNat]?).getD (.int 0)):=by
     show wW xs k=_
     unfold wW
     rw [if_pos h0,List.getElem?_eq_getElem (by omega)]
     rfl
    simp! [decide_eq_true c,e]
   ·have e:xs[k.toNat]?=none:=List.getElem?_eq_none (by omega)
    simp! [decide_eq_false c,e,Option.getD]
  ·rw [if_neg h0] at h
   cases h
 ·cases h
end L3
namespace L3
open PySem
theorem Nz {i:Int} {m:Nat} (h:xJ i<=m):i.natAbs<2 ^ m:=by
 by_cases c:i=0
 ·subst c
  exact Nat.pow_pos (by decide)
 ·have e:xJ i=i.natAbs.log2+1:=by
   show (if (i == 0)=true then 0 else i.natAbs.log2+1)=_
   rw [if_neg (by simpa using c)]
  exact (Nat.log2_lt (by omega)).mp (by omega)
theorem Wo {i:Int} {m:Nat} (h:i.natAbs<2 ^ m):xJ i<=m:=by
 by_cases c:i=0
 ·subst c
  exact Nat.zero_le _
 ·have e:xJ i=i.natAbs.log2+1:=by
   show (if (i == 0)=true then 0 else i.natAbs.log2+1)=_
   rw [if_neg (by simpa using c)]
  rw [e]
  exact (Nat.log2_lt (by omega)).mpr h
end L3
namespace L3
open PySem
noncomputable def Yp:FS:=
 (z_ (e2 (u8 Builtin.bitAnd) (e2 kB (z6 0) (z6 1)) (e2 uT (e2 uS (eC (.int 1)) (z6 2)) (eC (.int 1)))))
noncomputable def xG:List D->Option (Bool×D):=FR 3 3 Yp
theorem Gp:∀ ds r,xG ds=some r->ds.length=3/\zZ 3 Yp ds=some r:=yD
theorem Mp (x0 x1 x2:D):xG [x0,x1,x2]=zZ 3 Yp [x0,x1,x2]:=rfl
noncomputable def YW:FS:=
 (zj (yU 3 (e2 ym (e2 ym (z6 0) (z6 1)) (uQ (tE (z6 2)) (eC (.int 1)) (eC (.int 0)))))
  (z_ (xX (z8 (e2 yf (z6 3) (eC (.int 4294967296))) (z8 (e2 (xT fun i j=>decide (j<=i)) (z6 3) (eC (.int 4294967296))) zF)))))
noncomputable def pA:List D->Option (Bool×D):=FR 3 4 YW
theorem GI:∀ ds r,pA ds=some r->ds.length=3/\zZ 4 YW ds=some r:=yD
theorem MM (x0 x1 x2:D):pA [x0,x1,x2]=zZ 4 YW [x0,x1,x2]:=rfl
noncomputable def Ys:FS:=
 (zj (yU 3 (e2 uT (e2 uT (z6 0) (z6 1)) (uQ (tE (z6 2)) (eC (.int 1)) (eC (.int 0)))))
  (zj (xF (tE (e2 (xT fun i j=>decide (i<j)) (z6 3) (eC (.int 0))))
   (z_ (xX (z8 (e2 ym (z6 3) (eC (.int 4294967296))) (z8 (eC (.bl true)) zF))))
   xq)
  (z_ (xX (z8 (z6 3) (z8 (eC (.bl false)) zF))))))
noncomputable def pL:List D->Option (Bool×D):=FR 3 4 Ys
theorem Gv:∀ ds r,pL ds=some r->ds.length=3/\zZ 4 Ys ds=some r:=yD
theorem Ms (x0 x1 x2:D):pL [x0,x1,x2]=zZ 4 Ys [x0,x1,x2]:=rfl
noncomputable def Ym:FS:=
 (zj (yU 2 (e2 uS (z6 0) (z6 1)))
  (zj (yU 3 (uQ (tE (e2 zo (z6 1) (eC (.int 0)))) (eC .non) (e2 zo (zi xG (z8 (z6 2) (z8 (eC (.int 32)) (z8 (eC (.int 1)) zF)))) (eC (.int 1)))))
  (z_ (xX (z8 (zi xG (z8 (z6 2) (z8 (eC (.int 0)) (z8 (eC (.int 32)) zF)))) (z8 (z6 3) zF))))))
noncomputable def qI:List D->Option (Bool×D):=FR 2 4 Ym
theorem Gm:∀ ds r,qI ds=some r->ds.length=2/\zZ 4 Ym ds=some r:=yD
theorem Mm (x0 x1:D):qI [x0,x1]=zZ 4 Ym [x0,x1]:=rfl
noncomputable def Yn:FS:=
 (zj (yU 2 (uQ (tE (e2 zo (z6 1) (eC (.int 0)))) (eC .non) (e2 zo (zi xG (z8 (z6 0) (z8 (e2 uT (z6 1) (eC (.int 1))) (z8 (eC (.int 1)) zF)))) (eC (.int 1)))))
  (z_ (xX (z8 (e2 kB (z6 0) (z6 1)) (z8 (z6 2) zF)))))
noncomputable def qJ:List D->Option (Bool×D):=FR 2 3 Yn
theorem Gn:∀ ds r,qJ ds=some r->ds.length=2/\zZ 3 Yn ds=some r:=yD
theorem Mn (x0 x1:D):qJ [x0,x1]=zZ 3 Yn [x0,x1]:=rfl
noncomputable def Ti:FS:=
 (zj (yU 4 (e2 uS (e2 uT (e2 uS (eC (.int 1)) (z6 2)) (eC (.int 1))) (z6 1)))
  (z_ (e2 (u8 Builtin.bitOr) (e2 (u8 Builtin.bitAnd) (z6 0) (e1 Qa (z6 4))) (e2 uS (z6 3) (z6 1)))))
noncomputable def YA:List D->Option (Bool×D):=FR 4 5 Ti
theorem Gx:∀ ds r,YA ds=some r->ds.length=4/\zZ 5 Ti ds=some r:=yD
noncomputable def Np:FE:=(zi xG (z8 (z6 0) (z8 (z6 1) (z8 (eC (.int 8)) zF))))
noncomputable def Tb:FS:=
 (z_ (eL jn (z8 (wX 1 (wj (eC kG)) (yH 1) xi Np) zF)))
noncomputable def Y9:List D->Option (Bool×D):=FR 1 1 Tb
theorem GN:∀ ds r,Y9 ds=some r->ds.length=1/\zZ 1 Tb ds=some r:=yD
noncomputable def Nt:FE:=(e2 uS (z6 1) (z6 2))
noncomputable def Tk:FS:=
 (z_ (eL Qb (z8 (wX 2 (VR (z6 0) (eC kG)) (qX 1 2) xi Nt) zF)))
noncomputable def YC:List D->Option (Bool×D):=FR 1 1 Tk
theorem Gz:∀ ds r,YC ds=some r->ds.length=1/\zZ 1 Tk ds=some r:=yD
noncomputable def Ta:FS:=
 (z_ (QT (z6 0) (z6 1) (eC (.int 0))))
noncomputable def jM:List D->Option (Bool×D):=FR 2 2 Ta
theorem GL:∀ ds r,jM ds=some r->ds.length=2/\zZ 2 Ta ds=some r:=yD
noncomputable def TZ:FS:=
 (z_ (zi xG (z8 (e2 ym (z6 0) (z6 1)) (z8 (eC (.int 0)) (z8 (eC (.int 16)) zF)))))
noncomputable def jL:List D->Option (Bool×D):=FR 2 2 TZ
theorem GK:∀ ds r,jL ds=some r->ds.length=2/\zZ 2 TZ ds=some r:=yD
noncomputable def Nq:FE:=(zi jL (z8 (z6 0) (z8 (z6 1) zF)))
noncomputable def Tc:FS:=
 (ud (wX 1 (vM (eC (.int 0)) (eC (.int 4))) (yH 1) xi Nq))
noncomputable def jO:List D->Option (Bool×D):=FR 1 1 Tc
theorem GO:∀ ds r,jO ds=some r->ds.length=1/\zZ 1 Tc ds=some r:=yD
noncomputable def Nr:FE:=(zi jM (z8 (z6 0) (z8 (z6 2) zF)))
noncomputable def Tj:FS:=
 (z_ (zi YC (z8 (wX 1 (wj (wz jO (z8 (z6 1) zF))) (yH 2) xi Nr) zF)))
noncomputable def YB:List D->Option (Bool×D):=FR 2 2 Tj
theorem Gy:∀ ds r,YB ds=some r->ds.length=2/\zZ 2 Tj ds=some r:=yD
noncomputable def Ou:zu:=
 (qd 0 [] (z6 1) (yX (zi xG (z8 (z6 2) (z8 (eC (.int 0)) (z8 (eC (.int 8)) zF))))))
noncomputable def gY:FM:=xR 3 3 Ou
noncomputable def Bc:zu:=(vC (wy gY (ww 0 [] (w6 (z6 3) (w6 (z6 4) xj)))))
noncomputable def Ov:zu:=
 (kL (VR (wz jO (z8 (z6 1) zF)) (zi Y9 (z8 (z6 2) zF))) (pz 3 4)
   Bc)
noncomputable def WK:FM:=xR 3 5 Ov
noncomputable def OP:FE:=(xX (z8 (z6 3) (z8 (eC (.bl false)) zF)))
noncomputable def We:zu:=
 (yI (vN 0 [] ["State"] "words" (qU (eL v4 (z8 (z6 1) zF))))
  (yI (vN 0 [] ["State"] "truths" (qU (eL X7 (z8 (wX 1 (wj (eC pq)) (yH 3) xi OP) zF))))
  (vN 0 [] ["State"] "held" (qU (eL X6 (z8 (z6 2) zF))))))
noncomputable def jK:FM:=xR 3 3 We
theorem ML (x0 x1 x2:M):jK [x0,x1,x2]=wA 3 3 We [x0,x1,x2]:=rfl
noncomputable def Oq:zu:=
 (vO 0 [.at ["State"] "words"] (e2 zG (z6 1) (eC (.int 1))) (yX (e2 zG (z6 1) (eC (.int 2)))))
noncomputable def WH:FM:=xR 2 2 Oq
noncomputable def On:zu:=
 (vO 0 [.at ["State"] "words"] (e2 zG (z6 1) (eC (.int 1))) (wx (zi YA (z8 (e2 zG (e1 (yN ["State"] "words") (z6 0)) (e2 zG (z6 1) (eC (.int 1)))) (z8 (eC (.int 16)) (z8 (eC (.int 16)) (z8 (e2 zG (z6 1) (eC (.int 2))) zF)))))))
noncomputable def WE:FM:=xR 2 2 On
noncomputable def Om:zu:=
 (vO 0 [.at ["State"] "words"] (e2 zG (z6 1) (eC (.int 1))) (wx (e2 zG (e1 (yN ["State"] "words") (z6 0)) (e2 zG (z6 1) (eC (.int 2))))))
noncomputable def WD:FM:=xR 2 2 Om
noncomputable def qT:FS:=
 (zj (xF (tE (e2 zo (z6 0) (eC (.str "add"))))
   (z_ (zi pA (z8 (z6 1) (z8 (z6 2) (z8 (eC (.bl false)) zF)))))
   xq)
  (zj (xF (tE (e2 zo (z6 0) (eC (.str "addc"))))
   (z_ (zi pA (z8 (z6 1) (z8 (z6 2) (z8 (z6 3) zF)))))
   xq)
  (z_ (zi pL (z8 (z6 1) (z8 (z6 2) (z8 (pZ (z6 3) (e2 zo (z6 0) (eC (.str "subc")))) zF)))))))
noncomputable def pK:List D->Option (Bool×D):=FR 4 4 qT
theorem Gs:∀ ds r,pK ds=some r->ds.length=4/\zZ 4 qT ds=some r:=yD
theorem kF (x0 x1 x2 x3:D):pK [x0,x1,x2,x3]=zZ 4 qT [x0,x1,x2,x3]:=rfl
noncomputable def Wl:zu:=
 (yI (qd 0 [.at ["State"] "truths"] (eC (.str "nought")) (yX (e2 zo (z6 1) (eC (.int 0)))))
  (qd 0 [.at ["State"] "truths"] (eC (.str "sign")) (yX (e2 zo (zi xG (z8 (z6 1) (z8 (e2 uT (eC (.int 32)) (eC (.int 1))) (z8 (eC (.int 1)) zF)))) (eC (.int 1))))))
noncomputable def tF:FM:=xR 2 2 Wl
theorem Ml (x0 x1:M):tF [x0,x1]=wA 2 2 Wl [x0,x1]:=rfl
noncomputable def Wh:zu:=
 (yI (wl 2 (wx (zi pK (z8 (e2 zG (z6 1) (eC (.int 0))) (z8 (e2 zG (e1 (yN ["State"] "words") (z6 0)) (e2 zG (z6 1) (eC (.int 1)))) (z8 (e2 zG (e1 (yN ["State"] "words") (z6 0)) (e2 zG (z6 1) (eC (.int 2)))) (z8 (e2 zG (e1 (yN ["State"] "truths") (z6 0)) (eC (.str "carry"))) zF)))))))
  (yI (qd 0 [.at ["State"] "truths"] (eC (.str "carry")) (yX (e2 zG (z6 2) (eC (.int 1)))))
  (yI (vC (wy tF (ww 0 [] (w6 (e2 zG (z6 2) (eC (.int 0))) xj))))
  (uY (ug (tE (e2 vA (e2 zG (z6 1) (eC (.int 0))) (eC (.str "test")))))
   (vO 0 [.at ["State"] "words"] (e2 zG (z6 1) (eC (.int 1))) (yX (e2 zG (z6 2) (eC (.int 0)))))
   tQ))))
noncomputable def t9:FM:=xR 2 3 Wh
theorem MQ (x0 x1:M):t9 [x0,x1]=wA 2 3 Wh [x0,x1]:=rfl
noncomputable def Yc:FS:=
 (zj (xF (tE (e2 zo (z6 0) (eC (.str "and"))))
   (z_ (e2 (u8 Builtin.bitAnd) (z6 1) (z6 2)))
   xq)
  (zj (xF (tE (e2 zo (z6 0) (eC (.str "or"))))
   (z_ (e2 (u8 Builtin.bitOr) (z6 1) (z6 2)))
   xq)
  (z_ (e2 (u8 Builtin.bitXor) (z6 1) (z6 2)))))
noncomputable def pF:List D->Option (Bool×D):=FR 3 3 Yc
theorem GU:∀ ds r,pF ds=some r->ds.length=3/\zZ 3 Yc ds=some r:=yD
theorem MX (x0 x1 x2:D):pF [x0,x1,x2]=zZ 3 Yc [x0,x1,x2]:=rfl
noncomputable def Wf:zu:=
 (yI (wl 2 (wx (zi pF (z8 (e2 zG (z6 1) (eC (.int 0))) (z8 (e2 zG (e1 (yN ["State"] "words") (z6 0)) (e2 zG (z6 1) (eC (.int 1)))) (z8 (e2 zG (e1 (yN ["State"] "words") (z6 0)) (e2 zG (z6 1) (eC (.int 2)))) zF))))))
  (yI (vC (wy tF (ww 0 [] (w6 (z6 2) xj))))
  (vO 0 [.at ["State"] "words"] (e2 zG (z6 1) (eC (.int 1))) (yX (z6 2)))))
noncomputable def qF:FM:=xR 2 3 Wf
theorem MO (x0 x1:M):qF [x0,x1]=wA 2 3 Wf [x0,x1]:=rfl
noncomputable def YY:zu:=
 (yI (wl 2 (wx (e2 zG (e1 (yN ["State"] "words") (z6 0)) (e2 zG (z6 1) (eC (.int 1))))))
  (yI (wl 3 (yX (uQ (tE (e2 zo (e2 zG (z6 1) (eC (.int 0))) (eC (.str "left")))) (zi qI (z8 (z6 2) (z8 (e2 zG (z6 1) (eC (.int 2))) zF))) (zi qJ (z8 (z6 2) (z8 (e2 zG (z6 1) (eC (.int 2))) zF))))))
  (yI (uY (ug (tE (e2 VH (e2 zG (z6 3) (eC (.int 1))) (eC .non))))
   (qd 0 [.at ["State"] "truths"] (eC (.str "carry")) (yX (e2 zG (z6 3) (eC (.int 1)))))
   tQ)
  (yI (vC (wy tF (ww 0 [] (w6 (e2 zG (z6 3) (eC (.int 0))) xj))))
  (vO 0 [.at ["State"] "words"] (e2 zG (z6 1) (eC (.int 1))) (yX (e2 zG (z6 3) (eC (.int 0)))))))))
noncomputable def pB:FM:=xR 2 4 YY
theorem Qn (x0 x1:M):pB [x0,x1]=wA 2 4 YY [x0,x1]:=rfl
noncomputable def TY:FS:=
 (z_ (zi jL (z8 (e2 zG (e1 (yN ["State"] "words") (z6 0)) (e2 zG (z6 1) (eC (.int 2)))) (z8 (e2 zG (z6 1) (eC (.int 3))) zF))))
noncomputable def uk:List D->Option (Bool×D):=FR 2 2 TY
theorem GJ:∀ ds r,uk ds=some r->ds.length=2/\zZ 2 TY ds=some r:=yD
noncomputable def Oo:zu:=
 (vO 0 [.at ["State"] "words"] (e2 zG (z6 1) (eC (.int 1))) (wx (zi jM (z8 (e1 (yN ["State"] "held") (z6 0)) (z8 (zi uk (z8 (z6 0) (z8 (z6 1) zF))) zF)))))
noncomputable def WF:FM:=xR 2 2 Oo
noncomputable def Op:zu:=
 (vO 0 [.at ["State"] "words"] (e2 zG (z6 1) (eC (.int 1))) (wx (zi YB (z8 (e1 (yN ["State"] "held") (z6 0)) (z8 (zi uk (z8 (z6 0) (z8 (z6 1) zF))) zF)))))
noncomputable def WG:FM:=xR 2 2 Op
noncomputable def Os:zu:=
 (vC (wy gY (ww 0 [.at ["State"] "held"] (jf (zi uk (z8 (z6 0) (z8 (z6 1) zF))) (jf (e2 zG (e1 (yN ["State"] "words") (z6 0)) (e2 zG (z6 1) (eC (.int 1)))) xj)))))
noncomputable def WI:FM:=xR 2 2 Os
noncomputable def Ot:zu:=
 (vC (wy WK (ww 0 [.at ["State"] "held"] (jf (zi uk (z8 (z6 0) (z8 (z6 1) zF))) (jf (e2 zG (e1 (yN ["State"] "words") (z6 0)) (e2 zG (z6 1) (eC (.int 1)))) xj)))))
noncomputable def WJ:FM:=xR 2 2 Ot
noncomputable def qV:List (Sum Int Str):=List.map .inr ["set", "high", "copy", "add", "addc", "sub", "subc", "test", "and", "or", "xor", "left", "right", "load", "loadw", "store", "storew"]
noncomputable def QO:List Str:=["do_set", "do_high", "do_copy", "do_sum", "do_sum", "do_sum", "do_sum", "do_sum", "do_bits", "do_bits", "do_bits", "do_move", "do_move", "do_load", "do_loadw", "do_store", "do_storew"]
noncomputable def V7:List FM:=[WH,WE,WD,t9,t9,t9,t9,t9,qF,qF,qF,pB,pB,WF,WG,WI,WJ]
noncomputable def Wg:zu:=
 (uY (ug (tE (e1 (X8 qV) (e2 zG (z6 1) (eC (.int 0))))))
   (vC (Wu qV V7 (e2 zG (z6 1) (eC (.int 0))) (ww 0 [] (w6 (z6 1) xj))))
   tQ)
noncomputable def pC:FM:=xR 2 2 Wg
theorem MP (x0 x1:M):pC [x0,x1]=wA 2 2 Wg [x0,x1]:=rfl
noncomputable def Th:FS:=
 (zj (xF (tE (e2 zo (e2 zG (z6 1) (eC (.int 0))) (eC (.str "when"))))
   (z_ (e2 zG (e1 (yN ["State"] "truths") (z6 0)) (e2 zG (z6 1) (eC (.int 1)))))
   xq)
  (zj (xF (tE (e2 zo (e2 zG (z6 1) (eC (.int 0))) (eC (.str "unless"))))
   (z_ (X2 (e2 zG (e1 (yN ["State"] "truths") (z6 0)) (e2 zG (z6 1) (eC (.int 1))))))
   xq)
  (z_ (e2 zo (e2 zG (z6 1) (eC (.int 0))) (eC (.str "jump"))))))
noncomputable def pJ:List D->Option (Bool×D):=FR 2 2 Th
theorem Gj:∀ ds r,pJ ds=some r->ds.length=2/\zZ 2 Th ds=some r:=yD
noncomputable def YT:FS:=
 (z_ (V8 (e2 zo (e1 (yN ["RowMachine"] "due") (z6 0)) (e1 (yN ["RowMachine"] "end") (z6 0))) (e2 zo (e2 zG (e2 zG (e1 (yN ["RowMachine"] "table") (z6 0)) (e1 (yN ["RowMachine"] "due") (z6 0))) (eC (.int 0))) (xX (z8 (eC (.str "stop")) zF)))))
noncomputable def wf:List D->Option (Bool×D):=FR 1 1 YT
theorem GG:∀ ds r,wf ds=some r->ds.length=1/\zZ 1 YT ds=some r:=yD
theorem MI (x0:D):wf [x0]=zZ 1 YT [x0]:=rfl
noncomputable def YU:zu:=
 (yI (uY (ug (tE (zi wf (xv "RowMachine" "stands" (z6 0) zF))))
   (p_ (yX (eC (.bl false))))
   tQ)
  (yI (wl 1 (wx (e2 zG (e1 (yN ["RowMachine"] "table") (z6 0)) (e1 (yN ["RowMachine"] "due") (z6 0)))))
  (yI (vC (wy pC (ww 0 [.at ["RowMachine"] "state"] (w6 (e2 zG (z6 1) (eC (.int 0))) xj))))
  (yI (vN 0 [] ["RowMachine"] "due" (wx (uQ (tE (zi pJ (z8 (e1 (yN ["RowMachine"] "state") (z6 0)) (z8 (e2 zG (z6 1) (eC (.int 0))) zF)))) (e2 zG (z6 1) (eC (.int 2))) (e2 zG (z6 1) (eC (.int 1))))))
  (yI (Vm 0 [] ["RowMachine"] "done" (eC (.int 1)))
  (p_ (yX (eC (.bl true)))))))))
noncomputable def uj:FM:=xR 1 2 YU
theorem Qm (x0:M):uj [x0]=wA 1 2 YU [x0]:=rfl
noncomputable abbrev vv:List (Sum Int Str):=[.inr "carry",.inr "nought",.inr "sign"]
noncomputable def qr (a b c:Bool):D:=.dic vv [.bl a,.bl b,.bl c]
noncomputable def st (ws:List D) (a b c:Bool) (hk:List (Sum Int Str)) (hv:List D):M:=.obj "State" ["words", "truths", "held"] [.own (.lst ws),.own (qr a b c),.own (.dic hk hv)]
noncomputable def u5 (ws:List D) (a b c:Bool) (hk:List (Sum Int Str)) (hv:List D):D:=.obj "State" ["words", "truths", "held"] [.lst ws,qr a b c,.dic hk hv]
noncomputable abbrev pP:List Str:=["table", "end", "first_words", "first_held", "state", "due", "done"]
noncomputable def xm (T:D) (e:Int) (fw fh:D) (s:M) (due done:Int):M:=.obj "RowMachine" pP [.fz T,.fz (.int e),.fz fw,.fz fh,s,.fz (.int due),.fz (.int done)]
noncomputable def xl (T:D) (e:Int) (fw fh:D) (s:D) (due done:Int):D:=.obj "RowMachine" pP [T,.int e,fw,fh,s,.int due,.int done]
section
variable {ws ws':List D} {a b c d':Bool} {hk hk':List (Sum Int Str)} {hv hv':List D} {T fw fh sd:D} {e due done:Int} {s s':M}
theorem t5:xO (st ws a b c hk hv)=u5 ws a b c hk hv:=by simp only [st,u5,xO,thaws]
theorem Y4:xO (xm T e fw fh s due done)=xl T e fw fh (xO s) due done:=by simp only [xm,xl,xO,thaws]
theorem jg {i:Nat} {π:List yR}:pU (st ws a b c hk hv) i π=.p i π:=rfl
theorem jh:vI (st ws a b c hk hv) [.at ["State"] "words"]=some (.own (.lst ws)):=rfl
theorem YN:vI (st ws a b c hk hv) [.at ["State"] "truths"]=some (.own (.dic vv [.bl a,.bl b,.bl c])):=rfl
theorem gI:vE (st ws a b c hk hv) [.at ["State"] "words"] (.own (.lst ws'))=some (st ws' a b c hk hv):=rfl
theorem Xj {x y z:Bool}:vE (st ws a b c hk hv) [.at ["State"] "truths"] (.own (.dic vv [.bl x,.bl y,.bl z]))=some (st ws x y z hk hv):=rfl
theorem pj:yN ["State"] "words" (u5 ws a b c hk hv)=some (.lst ws):=rfl
theorem Qd:yN ["State"] "truths" (u5 ws a b c hk hv)=some (qr a b c):=rfl
theorem Ly:yN ["State"] "held" (u5 ws a b c hk hv)=some (.dic hk hv):=rfl
theorem OE:zG (qr a b c) (.str "carry")=some (.bl a):=rfl
theorem NL:zG (qr a b c) (.str "nought")=some (.bl b):=rfl
theorem NM:zG (qr a b c) (.str "sign")=some (.bl c):=rfl
theorem U9:xo vv (.inr "carry")=vv:=rfl
theorem EG:xo vv (.inr "nought")=vv:=rfl
theorem EH:xo vv (.inr "sign")=vv:=rfl
theorem UI:yi vv [D.bl a,.bl b,.bl c] (.inr "carry") (.bl d')=[.bl d',.bl b,.bl c]:=rfl
theorem Ef:yi vv [D.bl a,.bl b,.bl c] (.inr "nought") (.bl d')=[.bl a,.bl d',.bl c]:=rfl
theorem Eg:yi vv [D.bl a,.bl b,.bl c] (.inr "sign") (.bl d')=[.bl a,.bl b,.bl d']:=rfl
theorem TV:vI (xm T e fw fh s due done) [.at ["RowMachine"] "state"]=some s:=rfl
theorem IB:vE (xm T e fw fh s due done) [.at ["RowMachine"] "state"] s'=some (xm T e fw fh s' due done):=rfl
theorem VL:yN ["RowMachine"] "table" (xl T e fw fh sd due done)=some T:=rfl
theorem Qc:yN ["RowMachine"] "end" (xl T e fw fh sd due done)=some (.int e):=rfl
theorem kD:yN ["RowMachine"] "state" (xl T e fw fh sd due done)=some sd:=rfl
theorem kC:yN ["RowMachine"] "due" (xl T e fw fh sd due done)=some (.int due):=rfl
theorem Lx:yN ["RowMachine"] "done" (xl T e fw fh sd due done)=some (.int done):=rfl
theorem Qe {d2:Int} {zc:zg}:uF (.fz (.int d2)) (some (xm T e fw fh s due done)::zc) 0 [] ["RowMachine"] "due" = some (.nx (some (xm T e fw fh s d2 done)::zc)):=rfl
theorem TW {zc:zg}:Vm 0 [] ["RowMachine"] "done" (eC (.int 1)) (some (xm T e fw fh s due done)::zc)=some (.nx (some (xm T e fw fh s due (done+1))::zc)):=rfl
theorem WX {m:Str} {fo:FE} {fs:FA} {τ:zf} {ds:List D} (h:fo τ=some (xl T e fw fh sd due done)) (hm:m ∉ pP) (h2:fs τ=some ds):xv "RowMachine" m fo fs τ=some (xl T e fw fh sd due done::ds):=by
 unfold xv
 rw [h]
 show (match decide (("RowMachine" : Str) = "RowMachine")&&!(decide (m∈pP)) with | true=>_ | false=>_)=_
 rw [decide_eq_true (show ("RowMachine" : Str) = "RowMachine" from rfl),decide_eq_false hm]
 show (fs τ).bind _=_
 rw [h2]
 rfl
end
noncomputable def wI (ns:List Int):List D:=ns.map D.int
theorem qC {ns:List Int} {k:Nat} {v:Int}:(wI ns).set k (.int v)=wI (ns.set k v):=(List.map_set ..).symm
theorem uh {ns:List Int}:(wI ns).length=ns.length:=List.length_map ..
theorem tN {n k:Nat} (h:k<n):L2.ixN n (k:Int)=some k:=by
 unfold L2.ixN
 rw [if_pos (Int.natCast_nonneg k)]
 simp [h]
theorem vh {ns:List Int} {k:Nat} {v:Int} (h:ns[k]?=some v):zG (.lst (wI ns)) (.int (k:Int))=some (.int v):=by
 show wW (wI ns) (k:Int)=_
 unfold wW
 rw [if_pos (Int.natCast_nonneg k)]
 show (wI ns)[((k:Int)).toNat]?=_
 rw [Int.toNat_natCast]
 unfold wI
 rw [List.getElem?_map,h]
 rfl
theorem QN {T fw fh sd:D} {e due done:Int} {τ:zf}:z6 0 (some (false,xl T e fw fh sd due done)::τ)=some (xl T e fw fh sd due done):=rfl
theorem Xw {T fw fh sd row nx tg:D} {e due done:Int} {k:Bool} (h:due≠e->zG T (.int due)=some (.tup [row,nx,tg])/\zo row (.tup [.str "stop"])=some (.bl k)) :
  wf [xl T e fw fh sd due done]=some (false,.bl (decide (due=e)||k))\/due=e/\wf [xl T e fw fh sd due done]=some (false,.bl true):=by
 have e0:∀ {i j:Int},zo (.int i) (.int j)=some (.bl (decide (i=j))):=fun {i j}=>by
  show some (D.bl (i == j))=_
  rw [show (i == j)=decide (i=j) from rfl]
 have t0:∀ {x y z:D},zG (.tup [x,y,z]) (.int 0)=some x:=rfl
 rw [MI]
 unfold YT
 by_cases c:due=e
 ·right
  refine ⟨c,?_⟩
  simp! [kC,Qc,e0,c,decide_true]
 ·left
  obtain ⟨h1,h2⟩:=h c
  have c2:decide (due=e)=false:=decide_eq_false c
  rw [c2]
  simp! [kC,Qc,VL,e0,c2,h1,t0,h2]
  rfl
theorem Kf {T fw fh row tg:D} {e due done:Int} {s s':M} {nx:D} {d2:Int} (hne:due≠e) (hT:zG T (.int due)=some (.tup [row,nx,tg])) (hs:zo row (.tup [.str "stop"])=some (.bl false)) (tp:wM (.tup [row,nx,tg])=true) (ns:∀ d,s≠.fz d)
  (hr:pC [s,.fz row]=some ([s',.fz row],.fz .non)) (ld:Bool) (hl:pJ [xO s',row]=some (false,.bl ld)) (hd:(if ld then tg else nx)=.int d2) :
  uj [xm T e fw fh s due done]=some ([xm T e fw fh s' d2 (done+1)],.fz (.bl true)):=by
 have h1:wf [xl T e fw fh (xO s) due done]=some (false,.bl false):=by
  rcases Xw (T:=T) (fw:=fw) (fh:=fh) (sd:=xO s) (row:=row) (nx:=nx) (tg:=tg) (e:=e) (due:=due) (done:=done) (k:=false) fun _=>⟨hT,hs⟩ with z | ⟨z,_⟩
  ·rw [z,decide_eq_false hne]
   rfl
  ·exact absurd z hne
 have t0:∀ {x y z:D},zG (.tup [x,y,z]) (.int 0)=some x:=rfl
 have t1:∀ {x y z:D},zG (.tup [x,y,z]) (.int 1)=some y:=rfl
 have t2:∀ {x y z:D},zG (.tup [x,y,z]) (.int 2)=some z:=rfl
 have hn:pU s 0 [.at ["RowMachine"] "state"]=.p 0 [.at ["RowMachine"] "state"]:=by
  cases s with
  | fz d=>exact absurd rfl (ns d)
  | _=>rfl
 have hself:∀ τ:zf,xv "RowMachine" "stands" (z6 0) zF (some (false,xl T e fw fh (xO s) due done)::τ)=some [xl T e fw fh (xO s) due done]:=fun τ=>WX QN (by decide +kernel) rfl
 rw [Qm]
 unfold YU
 cases ld with
 | false=>
  have hd':nx=.int d2:=hd
  subst hd'
  simp! [xh,Y4,hself,h1,VL,kC,hT,tp,t0,t1,t2,TV,IB,hn,hr,kD,hl,Qe,TW]
 | true=>
  have hd':tg=.int d2:=hd
  subst hd'
  simp! [xh,Y4,hself,h1,VL,kC,hT,tp,t0,t1,t2,TV,IB,hn,hr,kD,hl,Qe,TW]
theorem Kg {T fw fh:D} {e done:Int} {s:M}:uj [xm T e fw fh s e done]=some ([xm T e fw fh s e done],.fz (.bl false)):=by
 have h1:wf [xl T e fw fh (xO s) e done]=some (false,.bl true):=by
  rcases Xw (T:=T) (fw:=fw) (fh:=fh) (sd:=xO s) (row:=.non) (nx:=.non) (tg:=.non) (e:=e) (due:=e) (done:=done) (k:=true) fun z=>absurd rfl z with z | ⟨_,z⟩
  ·rw [z,decide_eq_true rfl]
   rfl
  ·exact z
 have hself:∀ τ:zf,xv "RowMachine" "stands" (z6 0) zF (some (false,xl T e fw fh (xO s) e done)::τ)=some [xl T e fw fh (xO s) e done]:=fun τ=>WX QN (by decide +kernel) rfl
 rw [Qm]
 unfold YU
 simp! [xh,Y4,hself,h1]
end L3
namespace L3
open PySem
theorem t6 {x y z:D}:zG (.tup [x,y,z]) (.int 0)=some x:=rfl
theorem qA {x y z:D}:zG (.tup [x,y,z]) (.int 1)=some y:=rfl
theorem qB {x y z:D}:zG (.tup [x,y,z]) (.int 2)=some z:=rfl
theorem jl {x y:D}:zG (.tup [x,y]) (.int 0)=some x:=rfl
theorem jm {x y:D}:zG (.tup [x,y]) (.int 1)=some y:=rfl
theorem eq_int {i j:Int}:zo (.int i) (.int j)=some (.bl (decide (i=j))):=by
 show some (D.bl (i == j))=_
 rw [show (i == j)=decide (i=j) from rfl]
theorem kJ {x:Str}:wZ (.str x)=some (.inr x):=rfl
theorem XZ:decide (3<yP)=true:=by decide
section
variable {Ws:List Int} {a b c:Bool} {hk:List (Sum Int Str)} {hv:List D}
theorem jx {w:Int} {g:Int} (h:xG [.int w,.int 31,.int 1]=some (false,.int g)):tF [st (wI Ws) a b c hk hv,.fz (.int w)]=some ([st (wI Ws) a (decide (w=0)) (decide (g=1)) hk hv,.fz (.int w)],.fz .non):=by
 rw [Ml]
 unfold Wl
 simp! [xh,t5,h,eq_int,kJ,YN,Xj,XZ,EG,EH,Ef,Eg]
theorem Lk {k:Str} {d s:Nat} {x y w g:Int} {u:Bool} (hk0:vA (.str k) (.str "test")=some (.bl true)) (hd:Ws[d]?=some x) (hs:Ws[s]?=some y) (h:pK [.str k,.int x,.int y,.bl a]=some (false,.tup [.int w,.bl u])) (hg:xG [.int w,.int 31,.int 1]=some (false,.int g)) :
  t9 [st (wI Ws) a b c hk hv,.fz (.tup [.str k,.int (d:Int),.int (s:Int)])]=some ([st (wI (Ws.set d w)) u (decide (w=0)) (decide (g=1)) hk hv,.fz (.tup [.str k,.int (d:Int),.int (s:Int)])],.fz .non):=by
 have hl:d<Ws.length:=(List.getElem?_eq_some_iff.mp hd).1
 rw [MQ]
 unfold Wh
 simp! [xh,t5,pj,Qd,OE,vh hd,vh hs,h,t6,qA,qB,jl,jm,kJ,YN,Xj,XZ,U9,UI,jx hg,jg,hk0,jh,gI,uh,tN hl,qC]
theorem jk {k:Str} {d s:D} {F:FM} {S S':M} (h1:X8 qV (.str k)=some (.bl true)) (h2:getK qV V7 (.inr k)=some F) (hS:∀ d,S≠.fz d) (hp:wM d=true) (hq:wM s=true) (h:F [S,.fz (.tup [.str k,d,s])]=some ([S',.fz (.tup [.str k,d,s])],.fz .non)) :
  pC [S,.fz (.tup [.str k,d,s])]=some ([S',.fz (.tup [.str k,d,s])],.fz .non):=by
 rw [MP]
 unfold Wg
 have hn:pU S 0 []=.p 0 []:=by
  cases S with
  | fz d=>exact absurd rfl (hS d)
  | _=>rfl
 simp! [xh,t6,h1,kJ,h2,hn,h]
theorem jF {ws:List D}:∀ d,st ws a b c hk hv≠.fz d:=fun d h=>by cases h
end
end L3
namespace L3
open PySem
section
variable {Ws:List Int} {a b c:Bool} {hk:List (Sum Int Str)} {hv:List D}
theorem Lj {k:Str} {d s:Nat} {x y w g:Int} (hd:Ws[d]?=some x) (hs:Ws[s]?=some y) (h:pF [.str k,.int x,.int y]=some (false,.int w)) (hg:xG [.int w,.int 31,.int 1]=some (false,.int g)) :
  qF [st (wI Ws) a b c hk hv,.fz (.tup [.str k,.int (d:Int),.int (s:Int)])]=some ([st (wI (Ws.set d w)) a (decide (w=0)) (decide (g=1)) hk hv,.fz (.tup [.str k,.int (d:Int),.int (s:Int)])],.fz .non):=by
 have hl:d<Ws.length:=(List.getElem?_eq_some_iff.mp hd).1
 rw [MO]
 unfold Wf
 simp! [xh,t5,pj,vh hd,vh hs,h,t6,qA,qB,jx hg,jg,jh,gI,uh,tN hl,qC]
theorem QP {k:Str} {d:Nat} {x n w g:Int} (hd:Ws[d]?=some x) (t:Bool) (hk0:zo (.str k) (.str "left")=some (.bl t)) (h:(if t then qI [.int x,.int n] else qJ [.int x,.int n])=some (false,.tup [.int w,.non])) (hg:xG [.int w,.int 31,.int 1]=some (false,.int g)) :
  pB [st (wI Ws) a b c hk hv,.fz (.tup [.str k,.int (d:Int),.int n])]=some ([st (wI (Ws.set d w)) a (decide (w=0)) (decide (g=1)) hk hv,.fz (.tup [.str k,.int (d:Int),.int n])],.fz .non):=by
 have hl:d<Ws.length:=(List.getElem?_eq_some_iff.mp hd).1
 rw [Qn]
 unfold YY
 cases t with
 | false=>
  rw [if_neg (by decide)] at h
  simp! [xh,t5,pj,vh hd,hk0,h,t6,qA,qB,jl,jm,jx hg,jg,jh,gI,uh,tN hl,qC]
 | true=>
  rw [if_pos rfl] at h
  simp! [xh,t5,pj,vh hd,hk0,h,t6,qA,qB,jl,jm,jx hg,jg,jh,gI,uh,tN hl,qC]
theorem QQ {k:Str} {d:Nat} {x n w g:Int} {u:Bool} (hd:Ws[d]?=some x) (t:Bool) (hk0:zo (.str k) (.str "left")=some (.bl t)) (h:(if t then qI [.int x,.int n] else qJ [.int x,.int n])=some (false,.tup [.int w,.bl u])) (hg:xG [.int w,.int 31,.int 1]=some (false,.int g)) :
  pB [st (wI Ws) a b c hk hv,.fz (.tup [.str k,.int (d:Int),.int n])]=some ([st (wI (Ws.set d w)) u (decide (w=0)) (decide (g=1)) hk hv,.fz (.tup [.str k,.int (d:Int),.int n])],.fz .non):=by
 have hl:d<Ws.length:=(List.getElem?_eq_some_iff.mp hd).1
 rw [Qn]
 unfold YY
 cases t with
 | false=>
  rw [if_neg (by decide)] at h
  simp! [xh,t5,pj,vh hd,hk0,h,t6,qA,qB,jl,jm,kJ,YN,Xj,XZ,U9,UI,jx hg,jg,jh,gI,uh,tN hl,qC]
 | true=>
  rw [if_pos rfl] at h
  simp! [xh,t5,pj,vh hd,hk0,h,t6,qA,qB,jl,jm,kJ,YN,Xj,XZ,U9,UI,jx hg,jg,jh,gI,uh,tN hl,qC]
end
end L3
namespace L3
open PySem
noncomputable def Yh:FS:=
 (zj (yU 2 (e2 yf (e2 kA (e2 ym (z6 0) (e2 u9 (eC (.int 7919)) (z6 1))) (eC (.int 48271))) (eC (.int 2147483647))))
  (z_ (e2 yf (e2 ym (e2 ym (e2 uR (z6 2) (z6 2)) (e2 u9 (eC (.int 7)) (z6 2))) (z6 1)) (eC (.int 2147483629)))))
noncomputable def wO:List D->Option (Bool×D):=FR 2 3 Yh
theorem Gc:∀ ds r,wO ds=some r->ds.length=2/\zZ 3 Yh ds=some r:=yD
theorem Md (x0 x1:D):wO [x0,x1]=zZ 3 Yh [x0,x1]:=rfl
noncomputable def Yk:FS:=
 (zj (yU 2 (e2 yf (zi wO (z8 (z6 0) (z8 (e2 u9 (eC (.int 2)) (z6 1)) zF))) (eC (.int 8))))
  (zj (yU 3 (zi wO (z8 (z6 0) (z8 (e2 ym (e2 u9 (eC (.int 2)) (z6 1)) (eC (.int 1))) zF))))
  (zj (yU 4 (xf (z8 (eC (.int 0)) (z8 (eC (.int 4294967295)) (z8 (eC (.int 2147483648)) (z8 (eC (.int 1)) (z8 (e2 yf (z6 3) (eC (.int 7))) (z8 (e2 ym (eC (.int 65530)) (e2 yf (z6 3) (eC (.int 12)))) zF))))))))
  (z_ (e2 zG (e2 ym (z6 4) (xf (z8 (e2 yf (e2 kA (z6 3) (eC (.int 7))) (eC (.int 4294967296))) (z8 (e2 yf (e2 kA (z6 3) (eC (.int 5))) (eC (.int 4294967296))) zF)))) (z6 2))))))
noncomputable def jV:List D->Option (Bool×D):=FR 2 5 Yk
theorem Gh:∀ ds r,jV ds=some r->ds.length=2/\zZ 5 Yk ds=some r:=yD
theorem Mi (x0 x1:D):jV [x0,x1]=zZ 5 Yk [x0,x1]:=rfl
noncomputable def Uy:FE:=(zi jV (z8 (z6 0) (z8 (z6 1) zF)))
noncomputable def Yl:FS:=
 (ud (wX 1 (vM (eC (.int 0)) (eC (.int 8))) (yH 1) xi Uy))
noncomputable def jW:List D->Option (Bool×D):=FR 1 1 Yl
theorem Gi:∀ ds r,jW ds=some r->ds.length=1/\zZ 1 Yl ds=some r:=yD
theorem Mj (x0:D):jW [x0]=zZ 1 Yl [x0]:=rfl
noncomputable def UO:FA:=(vM (eC (.int 0)) (e2 yf (zi wO (z8 (z6 0) (z8 (eC (.int 40)) zF))) (eC (.int 7))))
noncomputable def OQ:FE:=(e2 zG (z6 5) (eC (.int 0)))
noncomputable def XV:FS:=(zj (yU 3 (zi wO (z8 (z6 0) (z8 (e2 ym (eC (.int 50)) (z6 2)) zF))))
    (zj (yU 4 (e2 zG (xf (z8 (e2 yf (z6 3) (eC (.int 9))) (z8 (e2 ym (eC (.int 65527)) (e2 yf (z6 3) (eC (.int 9)))) (z8 (e2 yf (z6 3) (eC (.int 65536))) zF)))) (e2 yf (zi wO (z8 (z6 0) (z8 (e2 ym (eC (.int 60)) (z6 2)) zF))) (eC (.int 3)))))
    (xF (Xy (tE (e2 XE (z6 4) (wX 1 (wj (z6 1)) (yH 5) xi OQ))))
     (kn 1 g_ (xX (z8 (z6 4) (z8 (e2 zG (xf (z8 (e2 yf (zi wO (z8 (z6 0) (z8 (e2 ym (eC (.int 70)) (z6 2)) zF))) (eC (.int 256))) (z8 (eC (.int 0)) (z8 (eC (.int 255)) zF)))) (e2 yf (zi wO (z8 (z6 0) (z8 (e2 ym (eC (.int 80)) (z6 2)) zF))) (eC (.int 3)))) zF))))
     xq)))
noncomputable def Yi:FS:=
 (zj (qj 1 (xf zF))
  (zj (t3 UO (yH 2)
   XV)
  (qi 1)))
noncomputable def jS:List D->Option (Bool×D):=FR 1 5 Yi
theorem Gd:∀ ds r,jS ds=some r->ds.length=1/\zZ 5 Yi ds=some r:=yD
theorem Me (x0:D):jS [x0]=zZ 5 Yi [x0]:=rfl
theorem uZ (c k:Int):∃ v:Int,wO [.int c,.int k]=some (false,.int v)/\0<=v/\v<2147483629:=by
 have q0:=Int.emod_nonneg ((c+7919*k)*48271) (show (2147483647:Int)≠0 by decide)
 have q1:=Int.emod_lt_of_pos ((c+7919*k)*48271) (show (0:Int)<2147483647 by decide)
 have l1:vi 7919=true/\vi 48271=true/\vi 7=true:=⟨by decide,by decide,by decide⟩
 have b:xJ ((c+7919*k)*48271 % 2147483647)<=40:=by
  have e:(2:Nat) ^ 40=1099511627776:=by decide
  exact Wo (by omega)
 have e3:decide (xJ ((c+7919*k)*48271 % 2147483647)+xJ ((c+7919*k)*48271 % 2147483647)<=134217728)=true:=decide_eq_true (by omega)
 refine ⟨((c+7919*k)*48271 % 2147483647*((c+7919*k)*48271 % 2147483647)+7*((c+7919*k)*48271 % 2147483647)+k) % 2147483629,?_,Int.emod_nonneg _ (by decide),Int.emod_lt_of_pos _ (by decide)⟩
 rw [Md]
 unfold Yh
 simp! [l1,add_int,uR,e3,decide_true]
theorem Nm (c k:Int):∃ w:Int,jV [.int c,.int k]=some (false,.int w)/\0<=w/\w<4294967296:=by
 obtain ⟨v,e1,v0,v1⟩:=uZ c (2*k)
 obtain ⟨u,e2,u0,u1⟩:=uZ c (2*k+1)
 have l1:vi 2=true/\vi 7=true/\vi 5=true:=⟨by decide,by decide,by decide⟩
 have key:∃ w:Int,zG (.lst [.int 0,.int 4294967295,.int 2147483648,.int 1,.int (u % 7),.int (65530+u % 12),.int (u*7 % 4294967296),.int (u*5 % 4294967296)]) (.int (v % 8))=some (.int w)/\0<=w/\w<4294967296:=by
  rcases (show v % 8=0\/v % 8=1\/v % 8=2\/v % 8=3\/v % 8=4\/v % 8=5\/v % 8=6\/v % 8=7 by omega) with h | h | h | h | h | h | h | h<;>rw [h]<;>exact ⟨_,rfl,by omega,by omega⟩
 obtain ⟨w,ew,w0,w1⟩:=key
 refine ⟨w,?_,w0,w1⟩
 have cat:ym (.lst [.int 0,.int 4294967295,.int 2147483648,.int 1,.int (u % 7),.int (65530+u % 12)]) (.lst [.int (u*7 % 4294967296),.int (u*5 % 4294967296)])=some (.lst [.int 0,.int 4294967295,.int 2147483648,.int 1,.int (u % 7),.int (65530+u % 12),.int (u*7 % 4294967296),.int (u*5 % 4294967296)]):=rfl
 rw [Mi]
 unfold Yk
 simp! [l1,add_int,e1,e2,cat,ew,decide_true]
theorem JB {g:FG} {e:FE} {σ:zf} (P:Int->Prop):∀ {ds:List D},(∀ d∈ds,∃ σ1 v,g d σ=some σ1/\e σ1=some (.int v)/\P v)->∃ vs:List Int,xU g xi e σ ds=some (wI vs)/\vs.length=ds.length/\∀ v∈vs,P v
 | [],_=>⟨[],rfl,rfl,fun _ h=>absurd h (by simp)⟩
 | d::ds,h=>by
  obtain ⟨σ1,v,e1,e2,p⟩:=h d (List.mem_cons_self ..)
  obtain ⟨vs,e3,l,q⟩:=JB P fun d' hd=>h d' (List.mem_cons_of_mem _ hd)
  refine ⟨v::vs,?_,by rw [List.length_cons,List.length_cons,l],fun x hx=>?_⟩
  ·simp only [xU,e1,xi,Option.bind_some,e2,e3]
   rfl
  ·rcases List.mem_cons.mp hx with rfl | hx
   ·exact p
   ·exact q x hx
theorem Nn (c:Int):∃ Ws:List Int,jW [.int c]=some (true,.lst (wI Ws))/\Ws.length=8/\∀ w∈Ws,0<=w/\w<4294967296:=by
 have r8:vM (eC (.int 0)) (eC (.int 8)) [some (false,.int c)]=some (yq 8):=j8 (n:=8) rfl (by decide)
 obtain ⟨vs,e,l,p⟩:=JB (g:=yH 1) (e:=Uy) (σ:=[some (false,.int c),none]) (fun w=>0<=w/\w<4294967296) (ds:=yq 8) fun d hd=>by
  obtain ⟨k,_,rfl⟩:=List.mem_map.mp hd
  obtain ⟨w,ew,w0,w1⟩:=Nm c k
  refine ⟨_,w,rfl,?_,w0,w1⟩
  unfold Uy
  simp! [ew]
 refine ⟨vs,?_,l,p⟩
 rw [Mj]
 unfold Yl
 simp! [r8,e]
noncomputable def pD (p:Int×Int):D:=.tup [.int p.1,.int p.2]
structure vw (ps:List (Int×Int)):Prop where
 ad:∀ p∈ps,0<=p.1/\p.1<65536
 by_:∀ p∈ps,0<=p.2/\p.2<256
 nd:(ps.map (·.1)).Nodup
theorem B5 (x:Int):∀ (ys:List Int),X9 (.int x) (.lst (wI ys))=some (decide (x∈ys)):=fun ys=>by
 have h1:(yd (.int x)&&(wI ys).all yd)=true:=by
  rw [Bool.and_eq_true]
  refine ⟨rfl,List.all_eq_true.mpr fun d hd=>?_⟩
  obtain ⟨y,_,rfl⟩:=List.mem_map.mp hd
  rfl
 show (match yd (.int x)&&(wI ys).all yd with | true=>some ((wI ys).any fun y=>yk y (.int x)) | false=>none)=_
 rw [h1]
 show some ((wI ys).any fun y=>yk y (.int x))=_
 congr 1
 unfold wI
 rw [List.any_map,Bool.eq_iff_iff]
 rw [decide_eq_true_iff,List.any_eq_true]
 constructor
 ·rintro ⟨y,hy,e⟩
  have e':(y == x)=true:=e
  rw [beq_iff_eq] at e'
  exact e' ▸ hy
 ·intro h
  exact ⟨x,h,(beq_self_eq_true x:(x == x)=true)⟩
theorem Cc (c:Int):∃ ps,jS [.int c]=some (true,.lst (ps.map pD))/\vw ps/\ps.length<=6:=by
 obtain ⟨n,e0,n0,n1⟩:=uZ c 40
 have hr:UO [some (false,.int c),some (true,.lst []),none,none,none]=some (yq (n % 7).toNat):=by
  unfold UO
  refine j8 (n:=n % 7) ?_ (by omega)
  simp! [e0,decide_true]
 obtain ⟨σ',e1,ps,x2,x3,x4,l,P,rfl⟩:=tP (g:=yH 2) (b:=XV) (fun i σ=>∃ (ps:List (Int×Int)) (x2 x3 x4:Option Sl),ps.length<=i/\vw ps/\σ=[some (false,.int c),some (true,.lst (ps.map pD)),x2,x3,x4])
  (ds:=yq (n % 7).toNat) (σ:=[some (false,.int c),some (true,.lst []),none,none,none]) 0 ⟨[],none,none,none,Nat.le_refl _,⟨fun _ h=>absurd h (by simp),fun _ h=>absurd h (by simp),List.nodup_nil⟩,rfl⟩ fun i d σ hd hp=>by
   obtain ⟨ps,x2,x3,x4,l,P,rfl⟩:=hp
   rw [Nat.zero_add] at l ⊢
   obtain ⟨k,_,rfl⟩:=List.mem_map.mp (List.mem_of_getElem? hd)
   obtain ⟨v,ev,v0,v1⟩:=uZ c (50+k)
   obtain ⟨v6,e6,_,_⟩:=uZ c (60+k)
   obtain ⟨v7,e7,_,_⟩:=uZ c (70+k)
   obtain ⟨v8,e8,_,_⟩:=uZ c (80+k)
   obtain ⟨ad,ea,a0,a1⟩:∃ ad:Int,zG (.lst [.int (v % 9),.int (65527+v % 9),.int (v % 65536)]) (.int (v6 % 3))=some (.int ad)/\0<=ad/\ad<65536:=by
    rcases (show v6 % 3=0\/v6 % 3=1\/v6 % 3=2 by omega) with h | h | h<;>rw [h]<;>exact ⟨_,rfl,by omega,by omega⟩
   obtain ⟨bt,eb,b0,b1⟩:∃ bt:Int,zG (.lst [.int (v7 % 256),.int 0,.int 255]) (.int (v8 % 3))=some (.int bt)/\0<=bt/\bt<256:=by
    rcases (show v8 % 3=0\/v8 % 3=1\/v8 % 3=2 by omega) with h | h | h<;>rw [h]<;>exact ⟨_,rfl,by omega,by omega⟩
   have em:xU (yH 5) xi OQ [some (false,.int c),some (false,.lst (ps.map pD)),some (false,.int (k:Int)),some (false,.int v),some (false,.int ad),none] (ps.map pD)=some ((ps.map pD).map fun d=>match d with | .tup [x,_]=>x | d=>d):=XX (fun d=>match d with | .tup [x,_]=>x | d=>d) fun d hd=>by
    obtain ⟨p,_,rfl⟩:=List.mem_map.mp hd
    exact ⟨_,rfl,rfl⟩
   have em2:((ps.map pD).map fun d=>match d with | .tup [x,_]=>x | d=>d)=wI (ps.map (·.1)):=by
    unfold wI
    rw [List.map_map,List.map_map]
    rfl
   rw [em2] at em
   have ei:=B5 ad (ps.map (·.1))
   by_cases cc:ad∈ps.map (·.1)
   ·refine ⟨_,[some (false,.int c),some (true,.lst (ps.map pD)),some (false,.int (k:Int)),some (false,.int v),some (false,.int ad)],rfl,.inl ?_,ps,_,_,_,by omega,P,rfl⟩
    unfold XV
    rw [decide_eq_true cc] at ei
    simp! [add_int,ev,e6,ea,decide_true,Xy,XH,uA,em,XE,ei]
   ·refine ⟨_,[some (false,.int c),some (true,.lst ((ps++[(ad,bt)]).map pD)),some (false,.int (k:Int)),some (false,.int v),some (false,.int ad)],rfl,.inl ?_,ps++[(ad,bt)],_,_,_,?_,?_,rfl⟩
    ·unfold XV
     rw [decide_eq_false cc] at ei
     have ap:g_ (.lst (ps.map pD)) (.tup [.int ad,.int bt])=some (.lst ((ps++[(ad,bt)]).map pD)):=by
      show (if (ps.map pD).length<yP then some (D.lst (ps.map pD++[.tup [.int ad,.int bt]])) else none)=_
      have hlt:i<(yq (n % 7).toNat).length:=(List.getElem?_eq_some_iff.mp hd).1
      have hlu:(yq (n % 7).toNat).length=(n % 7).toNat:=by simp [yq]
      rw [if_pos (by rw [List.length_map]; show _<16777216; omega),List.map_append]
      rfl
     simp! [add_int,ev,e6,ea,decide_true,Xy,XH,uA,em,XE,ei,e7,e8,eb,ap]
    ·rw [List.length_append]
     show ps.length+1<=_
     omega
    ·refine ⟨fun p hp=>?_,fun p hp=>?_,?_⟩
     ·rcases List.mem_append.mp hp with hp | hp
      ·exact P.ad p hp
      ·cases List.mem_singleton.mp hp
       exact ⟨a0,a1⟩
     ·rcases List.mem_append.mp hp with hp | hp
      ·exact P.by_ p hp
      ·cases List.mem_singleton.mp hp
       exact ⟨b0,b1⟩
     ·rw [List.map_append,List.nodup_append]
      refine ⟨P.nd,by simp,fun x hx y hy=>?_⟩
      cases List.mem_singleton.mp hy
      intro z
      have z':x=ad:=z
      exact cc (z' ▸ hx)
 refine ⟨ps,?_,P,?_⟩
 ·rw [Me]
  unfold Yi
  simp! [hr,e1]
 ·have:(yq (n % 7).toNat).length=(n % 7).toNat:=by simp [yq]
  omega
end L3
namespace L3
open PySem
noncomputable def Ya:FS:=
 (zj (xF (Y2 (tE (pd .bool (z6 0))) (t_ (tE (pd .int (z6 0)))))
   (z_ (eC (.bl false)))
   xq)
  (z_ (pZ (e2 (xT fun i j=>decide (i<=j)) (eC (.int 0)) (z6 0)) (e2 (xT fun i j=>decide (i<j)) (z6 0) (e2 uS (eC (.int 1)) (z6 1))))))
noncomputable def vV:List D->Option (Bool×D):=FR 2 2 Ya
theorem GS:∀ ds r,vV ds=some r->ds.length=2/\zZ 2 Ya ds=some r:=yD
theorem MU (x0 x1:D):vV [x0,x1]=zZ 2 Ya [x0,x1]:=rfl
noncomputable def YZ:FS:=
 (z_ (zi vV (z8 (z6 0) (z8 (eC (.int 16)) zF))))
noncomputable def jP:List D->Option (Bool×D):=FR 1 1 YZ
theorem GP:∀ ds r,jP ds=some r->ds.length=1/\zZ 1 YZ ds=some r:=yD
theorem MR (x0:D):jP [x0]=zZ 1 YZ [x0]:=rfl
noncomputable def Yb:FS:=
 (zj (xF (Y2 (t_ (tE (pd .tuple (z6 0)))) (tE (e2 vA (eL ph (z8 (z6 0) zF)) (eC (.int 2)))))
   (z_ (eC (.bl false)))
   xq)
  (z_ (pZ (zi jP (z8 (e2 zG (z6 0) (eC (.int 0))) zF)) (zi vV (z8 (e2 zG (z6 0) (eC (.int 1))) (z8 (eC (.int 8)) zF))))))
noncomputable def jQ:List D->Option (Bool×D):=FR 1 1 Yb
theorem GT:∀ ds r,jQ ds=some r->ds.length=1/\zZ 1 Yb ds=some r:=yD
theorem MV (x0:D):jQ [x0]=zZ 1 Yb [x0]:=rfl
noncomputable def VY:FS:=(zj (xF (t_ (tE (zi jQ (z8 (z6 2) zF))))
     (fun _=>none)
     xq)
    (zj (xF (tE (e2 xg (e2 zG (z6 2) (eC (.int 0))) (gx 1)))
     (fun _=>none)
     xq)
    (vo 1 (e2 zG (z6 2) (eC (.int 0))) (e2 zG (z6 2) (eC (.int 1))))))
noncomputable def YX:FS:=
 (zj (qj 1 (eC (.dic [] [])))
  (zj (xF (tE (e2 XB (z6 0) (eC .non)))
   (qi 1)
   xq)
  (zj (xF (t_ (tE (pd .list (z6 0))))
   (fun _=>none)
   xq)
  (zj (t3 (wj (z6 0)) (yH 2)
   VY)
  (qi 1)))))
noncomputable def jN:List D->Option (Bool×D):=FR 1 3 YX
theorem GM:∀ ds r,jN ds=some r->ds.length=1/\zZ 3 YX ds=some r:=yD
theorem MN (x0:D):jN [x0]=zZ 3 YX [x0]:=rfl
noncomputable def T0:FE:=(zi vV (z8 (z6 1) (z8 (eC (.int 32)) zF)))
noncomputable def Yu:FS:=
 (zj (xF (tE (e2 XB (z6 0) (eC .non)))
   (ud (e2 XF (xf (z8 (eC (.int 0)) zF)) (eC (.int 8))))
   xq)
  (zj (xF (Y2 (t_ (tE (pd .list (z6 0)))) (tE (e2 vA (eL ph (z8 (z6 0) zF)) (eC (.int 8)))))
   (fun _=>none)
   xq)
  (zj (xF (t_ (tE (eL VB (z8 (wX 1 (wj (z6 0)) (yH 1) xi T0) zF))))
   (fun _=>none)
   xq)
  (ud (eL v4 (z8 (z6 0) zF))))))
noncomputable def jZ:List D->Option (Bool×D):=FR 1 1 Yu
theorem G_:∀ ds r,jZ ds=some r->ds.length=1/\zZ 1 Yu ds=some r:=yD
theorem Mu (x0:D):jZ [x0]=zZ 1 Yu [x0]:=rfl
noncomputable def Te:FS:=
 (z_ (e2 zo (e2 zG (z6 0) (eC (.int 0))) (eC (.str "label"))))
noncomputable def pE:List D->Option (Bool×D):=FR 1 1 Te
theorem GR:∀ ds r,pE ds=some r->ds.length=1/\zZ 1 Te ds=some r:=yD
noncomputable def Td:FS:=
 (z_ (e2 xg (e2 zG (z6 0) (eC (.int 0))) (eC VQ)))
noncomputable def gU:List D->Option (Bool×D):=FR 1 1 Td
theorem GQ:∀ ds r,gU ds=some r->ds.length=1/\zZ 1 Td ds=some r:=yD
noncomputable def OR:FE:=(z6 1)
noncomputable def T3:FT:=(t_ (tE (zi pE (z8 (z6 1) zF))))
noncomputable def Yq:FS:=
 (ud (wX 1 (wj (z6 0)) (yH 1) T3 OR))
noncomputable def qK:List D->Option (Bool×D):=FR 1 1 Yq
theorem Gq:∀ ds r,qK ds=some r->ds.length=1/\zZ 1 Yq ds=some r:=yD
theorem Mq (x0:D):qK [x0]=zZ 1 Yq [x0]:=rfl
noncomputable def VZ:FS:=(xF (tE (zi pE (z8 (z6 3) zF)))
     (vo 1 (e2 zG (z6 3) (eC (.int 1))) (z6 2))
     (yU 2 (e2 (u8 fun i j=>i+j) (z6 2) (eC (.int 1)))))
noncomputable def Yd:FS:=
 (zj (qj 1 (eC (.dic [] [])))
  (zj (yU 2 (eC (.int 0)))
  (zj (t3 (wj (z6 0)) (yH 3)
   VZ)
  (qi 1))))
noncomputable def jR:List D->Option (Bool×D):=FR 1 4 Yd
theorem GV:∀ ds r,jR ds=some r->ds.length=1/\zZ 4 Yd ds=some r:=yD
theorem MY (x0:D):jR [x0]=zZ 4 Yd [x0]:=rfl
noncomputable def U_:FE:=(uQ (tE (zi gU (z8 (z6 2) zF))) (e2 zG (z6 1) (e2 zG (z6 2) (e1 VG (eC (.int 1))))) (eC .non))
noncomputable def Yt:FS:=
 (zj (yU 1 (wz jR (z8 (z6 0) zF)))
  (ud (wX 1 (wj (wz qK (z8 (z6 0) zF))) (yH 2) xi U_)))
noncomputable def pM:List D->Option (Bool×D):=FR 1 2 Yt
theorem Gw:∀ ds r,pM ds=some r->ds.length=1/\zZ 2 Yt ds=some r:=yD
theorem Mt (x0:D):pM [x0]=zZ 2 Yt [x0]:=rfl
noncomputable def Vf:FS:=(vo 2 (z6 3) (xX (z8 (e2 zG (z6 1) (z6 3)) (z8 (e2 ym (z6 3) (eC (.int 1))) (z8 (z6 4) zF)))))
noncomputable def Yr:FS:=
 (zj (yU 1 (wz qK (z8 (z6 0) zF)))
  (zj (qj 2 (eC (.dic [] [])))
  (zj (t3 (XM (wz pM (z8 (z6 0) zF))) (qX 3 4)
   Vf)
  (qi 2))))
noncomputable def jY:List D->Option (Bool×D):=FR 1 5 Yr
theorem Gu:∀ ds r,jY ds=some r->ds.length=1/\zZ 5 Yr ds=some r:=yD
theorem Mr (x0:D):jY [x0]=zZ 5 Yr [x0]:=rfl
noncomputable def Wc:zu:=
 (yI (vN 0 [] ["RowMachine"] "state" (Yy "State" jK (ww 0 [.at ["RowMachine"] "first_words"] (ww 0 [.at ["RowMachine"] "first_held"] xj))))
  (yI (vN 0 [] ["RowMachine"] "due" (yX (eC (.int 0))))
  (vN 0 [] ["RowMachine"] "done" (yX (eC (.int 0))))))
noncomputable def qE:FM:=xR 1 1 Wc
theorem M9 (x0:M):qE [x0]=wA 1 1 Wc [x0]:=rfl
noncomputable def Wb:zu:=
 (yI (vN 0 [] ["RowMachine"] "table" (yX (z6 1)))
  (yI (vN 0 [] ["RowMachine"] "end" (yX (z6 2)))
  (yI (vN 0 [] ["RowMachine"] "first_words" (yX (wz jZ (z8 (z6 3) zF))))
  (yI (vN 0 [] ["RowMachine"] "first_held" (yX (wz jN (z8 (z6 4) zF))))
  (vC (pW "RowMachine" "again" 0 [] qE xj))))))
noncomputable def jI:FM:=xR 5 5 Wb
theorem M8 (x0 x1 x2 x3 x4:M):jI [x0,x1,x2,x3,x4]=wA 5 5 Wb [x0,x1,x2,x3,x4]:=rfl
noncomputable def Wd:zu:=
 (yI (wl 4 (yX (wz jY (z8 (z6 1) zF))))
  (vC (wy jI (ww 0 [] (w6 (z6 4) (w6 (eL VE (z8 (z6 4) zF)) (w6 (z6 2) (w6 (z6 3) xj))))))))
noncomputable def jJ:FM:=xR 4 5 Wd
theorem MK (x0 x1 x2 x3:M):jJ [x0,x1,x2,x3]=wA 4 5 Wd [x0,x1,x2,x3]:=rfl
theorem Vk {g:MG} {b:zu} (P:Nat->zg->Prop):∀ {ds:List D} {β:zg} (n:Nat),P n β->(∀ i d β,ds[i]?=some d->P (n+i) β->∃ β1 β2,g d β=some β1/\b β1=some (.nx β2)/\P (n+i+1) β2)->
  ∃ β',ux g b ds β=some (.nx β')/\P (n+ds.length) β'
 | [],β,n,h,_=>⟨β,rfl,h⟩
 | d::ds,β,n,h,step=>by
  obtain ⟨β1,β2,e1,e2,p2⟩:=step 0 d β rfl h
  obtain ⟨β',e3,p3⟩:=Vk P (ds:=ds) (β:=β2) (n+1) p2 fun i d' τ hd hp=>by
   obtain ⟨a,b',c1,c2,c3⟩:=step (i+1) d' τ (by simpa using hd) (by rw [show n+(i+1)=n+1+i by omega]; exact hp)
   exact ⟨a,b',c1,c2,by rw [show n+1+i+1=n+(i+1)+1 by omega]; exact c3⟩
  refine ⟨β',?_,by rw [List.length_cons,show n+(ds.length+1)=n+1+ds.length by omega]; exact p3⟩
  show ((g d β).bind fun β1=>(b β1).bind fun f=>match f with | .nx β2=>ux g b ds β2 | .ct β2=>ux g b ds β2 | .bk β2=>some (.nx β2) | .rt m β2=>some (.rt m β2))=_
  rw [e1]
  show (b β1).bind _=_
  rw [e2]
  exact e3
theorem Vz {i:Int} {w:Nat} (hw:w<=64):vV [.int i,.int (w:Int)]=some (false,.bl (decide (0<=i)&&decide (i<2 ^ w))):=by
 have h1:uc 1 (w:Int)=true:=by
  unfold uc
  rw [decide_eq_true (by omega),decide_eq_true (by omega)]
  rfl
 have h2:uS (.int 1) (.int (w:Int))=some (.int (2 ^ w)):=by
  show (match uc 1 (w:Int) with | true=>some (D.int (1*2 ^ ((w:Int)).toNat)) | false=>none)=_
  rw [h1]
  show some (D.int (1*2 ^ ((w:Int)).toNat))=_
  rw [Int.toNat_natCast,Int.one_mul]
 rw [MU]
 unfold Ya
 by_cases c:0<=i
 ·have c':decide (0<=i)=true:=decide_eq_true c
  rw [c']
  simp! [c',h1,Int.toNat_natCast,Int.one_mul]
 ·have c':decide (0<=i)=false:=decide_eq_false c
  rw [c']
  simp! [c',Bool.false_and]
theorem No {Ws:List Int} (hl:Ws.length=8) (hw:∀ w∈Ws,0<=w/\w<4294967296):jZ [.lst (wI Ws)]=some (true,.lst (wI Ws)):=by
 have e:xU (yH 1) xi T0 [some (false,.lst (wI Ws)),none] (wI Ws)=some ((wI Ws).map fun _=>.bl true):=XX (fun _=>.bl true) fun d hd=>by
  obtain ⟨w,hw',rfl⟩:=List.mem_map.mp hd
  refine ⟨_,rfl,?_⟩
  obtain ⟨a,b⟩:=hw w hw'
  have nf:=Vz (i:=w) (w:=32) (by decide)
  have e32:(2:Int) ^ 32=4294967296:=by decide
  rw [e32,decide_eq_true a,decide_eq_true b] at nf
  unfold T0
  simp! [show vV [.int w,.int 32]=some (false,.bl true) from nf]
 have e2:(wI Ws).map (fun _=>D.bl true)=(List.replicate 8 true).map D.bl:=by
  unfold wI
  rw [List.map_map,List.map_replicate,<- hl,<- List.map_const']
  rfl
 have fa:VB [.lst [.bl true,.bl true,.bl true,.bl true,.bl true,.bl true,.bl true,.bl true]]=some (.bl true):=rfl
 rw [e2] at e
 have fl:v4 [.lst (wI Ws)]=some (.lst (wI Ws)):=rfl
 have ne:vA (.int ((wI Ws).length:Int)) (.int 8)=some (.bl false):=by
  rw [uh,hl]
  rfl
 rw [Mu]
 unfold Yu
 simp! [ne,e,fa,fl]
noncomputable def kP (ps:List (Int×Int)):List (Sum Int Str):=ps.map fun p=>.inl p.1
noncomputable def vP (ps:List (Int×Int)):List D:=ps.map fun p=>.int p.2
theorem Qp {ps:List (Int×Int)} {a:Int}:w8 (kP ps) (.inl a)=decide (a∈ps.map (·.1)):=by
 unfold w8 kP
 rw [List.any_map,Bool.eq_iff_iff,decide_eq_true_iff,List.any_eq_true]
 constructor
 ·rintro ⟨p,hp,e⟩
  have e':=of_decide_eq_true e
  exact List.mem_map.mpr ⟨p,hp,Sum.inl.inj e'⟩
 ·intro h
  obtain ⟨p,hp,e⟩:=List.mem_map.mp h
  exact ⟨p,hp,decide_eq_true (congrArg Sum.inl e)⟩
theorem IA {ps:List (Int×Int)} {a b:Int} (h:a ∉ ps.map (·.1)):xo (kP ps) (.inl a)=kP (ps++[(a,b)])/\yi (kP ps) (vP ps) (.inl a) (.int b)=vP (ps++[(a,b)]):=by
 have h1:w8 (kP ps) (.inl a)=false:=by rw [Qp]; exact decide_eq_false h
 unfold xo yi
 rw [if_neg (by rw [h1]; decide),if_neg (by rw [h1]; decide)]
 unfold kP vP
 rw [List.map_append,List.map_append]
 exact ⟨rfl,rfl⟩
theorem Ca {p:Int×Int} (h1:0<=p.1/\p.1<65536) (h2:0<=p.2/\p.2<256):jQ [pD p]=some (false,.bl true):=by
 have n1:=Vz (i:=p.1) (w:=16) (by decide)
 rw [decide_eq_true h1.1,decide_eq_true (show p.1<2 ^ 16 from h1.2)] at n1
 have n2:=Vz (i:=p.2) (w:=8) (by decide)
 rw [decide_eq_true h2.1,decide_eq_true (show p.2<2 ^ 8 from h2.2)] at n2
 have m1:vV [.int p.1,.int 16]=some (false,.bl true):=n1
 have m2:vV [.int p.2,.int 8]=some (false,.bl true):=n2
 have a1:jP [.int p.1]=some (false,.bl true):=by
  rw [MR]
  unfold YZ
  simp! [m1]
 have l2:vA (.int ((0+1+1:Nat):Int)) (.int 2)=some (.bl false):=rfl
 rw [MV]
 unfold Yb pD
 simp! [jl,jm,a1,m2,l2]
theorem LB {ps:List (Int×Int)} (P:vw ps) (hl:ps.length<=1000):jN [.lst (ps.map pD)]=some (true,.dic (kP ps) (vP ps)):=by
 obtain ⟨σ',e1,x,rfl⟩:=tP (g:=yH 2) (b:=VY) (fun i σ=>∃ x:Option Sl,σ=[some (false,.lst (ps.map pD)),some (true,.dic (kP (ps.take i)) (vP (ps.take i))),x])
  (ds:=ps.map pD) (σ:=[some (false,.lst (ps.map pD)),some (true,.dic [] []),none]) 0 ⟨none,rfl⟩ fun i d σ hd hp=>by
   obtain ⟨x,rfl⟩:=hp
   rw [Nat.zero_add]
   have hi:i<ps.length:=by have:=(List.getElem?_eq_some_iff.mp hd).1; rw [List.length_map] at this; exact this
   rw [List.getElem?_map,List.getElem?_eq_getElem hi] at hd
   cases hd
   generalize hp:ps[i]=p
   have pm:p∈ps:=hp ▸ List.getElem_mem hi
   have ok:=Ca (P.ad p pm) (P.by_ p pm)
   have et:ps.take (i+1)=ps.take i++[p]:=by rw [List.take_succ_eq_append_getElem hi,hp]
   have nin:p.1 ∉ (ps.take i).map (·.1):=by
    have nd:=P.nd
    have e2:ps.map (·.1)=(ps.take i).map (·.1)++p.1::(ps.drop (i+1)).map (·.1):=by
     rw [<- hp,<- List.map_cons,<- List.drop_eq_getElem_cons hi,<- List.map_append,List.take_append_drop]
    rw [e2,List.nodup_append] at nd
    intro z
    exact nd.2.2 _ z _ List.mem_cons_self rfl
   have hi2:xg (.int p.1) (.dic (kP (ps.take i)) (vP (ps.take i)))=some (.bl false):=by
    show ((wZ (.int p.1)).bind fun k=>some (w8 (kP (ps.take i)) k)).bind _=_
    show some (D.bl (w8 (kP (ps.take i)) (.inl p.1)))=_
    rw [Qp,decide_eq_false nin]
   obtain ⟨q1,q2⟩:=IA (b:=p.2) nin
   have ll:(kP (ps.take i)).length<yP:=by unfold kP; rw [List.length_map,List.length_take]; show _<16777216; omega
   refine ⟨_,[some (false,.lst (ps.map pD)),some (true,.dic (kP (ps.take (i+1))) (vP (ps.take (i+1)))),some (false,pD p)],rfl,.inl ?_,_,rfl⟩
   rw [et]
   unfold VY
   have d0:zG (pD p) (.int 0)=some (.int p.1):=rfl
   have d1:zG (pD p) (.int 1)=some (.int p.2):=rfl
   have ky:wZ (.int p.1)=some (.inl p.1):=rfl
   rw [<- q1,<- q2]
   simp! [ok,d0,d1,hi2,vo,ky,if_pos ll]
 rw [Nat.zero_add,List.length_map,List.take_length] at e1
 rw [MN]
 unfold YX
 simp! [e1]
noncomputable def pS (r:D):Prop:=pE [r]=some (false,.bl false)/\gU [r]=some (false,.bl false)
noncomputable def wL (n:Nat):List (Sum Int Str):=(List.range n).map fun k:Nat=>.inl (k:Int)
noncomputable def uM (rows:List D) (n:Nat):List D:=(List.range n).map fun k:Nat=>.tup [rows.getD k .non,.int ((k:Int)+1),.non]
theorem IY {rows:List D} (h:∀ r∈rows,pS r):qK [.lst rows]=some (true,.lst rows):=by
 have e:xU (yH 1) T3 OR [some (false,.lst rows),none] rows=some ((rows.filter fun _=>true).map id):=Vg (fun _=>true) id fun d hd=>by
  refine ⟨_,rfl,?_,fun _=>rfl⟩
  unfold T3
  simp! [(h d hd).1]
 rw [List.filter_eq_self.mpr (fun _ _=>rfl),List.map_id] at e
 rw [Mq]
 unfold Yq
 simp! [e]
theorem EJ {rows:List D} (h:∀ r∈rows,pS r):jR [.lst rows]=some (true,.dic [] []):=by
 obtain ⟨σ',e1,k,x,rfl⟩:=tP (g:=yH 3) (b:=VZ) (fun i σ=>∃ (k:Int) (x:Option Sl),σ=[some (false,.lst rows),some (true,.dic [] []),some (false,.int k),x])
  (ds:=rows) (σ:=[some (false,.lst rows),some (true,.dic [] []),some (false,.int 0),none]) 0 ⟨0,none,rfl⟩ fun i d σ hd hp=>by
   obtain ⟨k,x,rfl⟩:=hp
   refine ⟨_,[some (false,.lst rows),some (true,.dic [] []),some (false,.int (k+1)),some (false,d)],rfl,.inl ?_,_,_,rfl⟩
   unfold VZ
   simp! [(h d (List.mem_of_getElem? hd)).1]
 rw [MY]
 unfold Yd
 simp! [e1]
theorem NI {rows:List D} (h:∀ r∈rows,pS r):pM [.lst rows]=some (true,.lst (rows.map fun _=>.non)):=by
 have e:xU (yH 2) xi U_ [some (false,.lst rows),some (false,.dic [] []),none] rows=some (rows.map fun _=>.non):=XX (fun _=>.non) fun d hd=>by
  refine ⟨_,rfl,?_⟩
  unfold U_
  simp! [(h d hd).2]
 rw [Mt]
 unfold Yt
 simp! [EJ h,IY h,e]
theorem VO {g:Nat->D} {k:Nat}:∀ {xs:List Nat},k∈xs->getK (xs.map fun k:Nat=>(.inl (k:Int):Sum Int Str)) (xs.map g) (.inl (k:Int))=some (g k)
 | [],h=>absurd h (by simp)
 | x::xs,h=>by
  rw [List.map_cons,List.map_cons]
  unfold getK
  by_cases c:x=k
  ·rw [if_pos (by rw [c]),c]
  ·rw [if_neg (fun z=>c (by have:=Sum.inl.inj z; omega))]
   exact VO ((List.mem_cons.mp h).resolve_left fun z=>c z.symm)
theorem OA {rows:List D} {k:Nat} (h:k<rows.length):zG (.dic (wL rows.length) (uM rows rows.length)) (.int (k:Int))=some (.tup [rows[k],.int ((k:Int)+1),.non]):=by
 show (wZ (.int (k:Int))).bind _=_
 show getK (wL rows.length) (uM rows rows.length) (.inl (k:Int))=_
 unfold wL uM
 rw [VO (List.mem_range.mpr h)]
 rw [List.getD_eq_getElem?_getD,List.getElem?_eq_getElem h]
 rfl
theorem OB {n:Nat}:w8 (wL n) (.inl (n:Int))=false:=by
 unfold w8 wL
 rw [List.any_map,List.any_eq_false]
 intro k hk
 have:=List.mem_range.mp hk
 show ¬ decide ((.inl (k:Int):Sum Int Str)=.inl (n:Int))=true
 rw [decide_eq_true_iff]
 intro z
 have:=Sum.inl.inj z
 omega
theorem NJ {rows:List D} {n:Nat}:xo (wL n) (.inl (n:Int))=wL (n+1)/\yi (wL n) (uM rows n) (.inl (n:Int)) (.tup [rows.getD n .non,.int ((n:Int)+1),.non])=uM rows (n+1):=by
 unfold xo yi
 rw [if_neg (by rw [OB]; decide),if_neg (by rw [OB]; decide)]
 unfold wL uM
 rw [List.range_succ,List.map_append,List.map_append]
 exact ⟨rfl,rfl⟩
theorem NG {rows:List D} (h:∀ r∈rows,pS r) (hl:rows.length<=1000):jY [.lst rows]=some (true,.dic (wL rows.length) (uM rows rows.length)):=by
 have en:XM (wz pM (z8 (z6 0) zF)) [some (false,.lst rows),some (false,.lst rows),some (true,.dic [] []),none,none]=some (tU (rows.map fun _=>.non)):=by
  unfold XM
  simp! [NI h]
 obtain ⟨σ',e1,x,y,rfl⟩:=tP (g:=qX 3 4) (b:=Vf) (fun i σ=>∃ x y:Option Sl,σ=[some (false,.lst rows),some (false,.lst rows),some (true,.dic (wL i) (uM rows i)),x,y])
  (ds:=tU (rows.map fun _=>.non)) (σ:=[some (false,.lst rows),some (false,.lst rows),some (true,.dic [] []),none,none]) 0 ⟨none,none,rfl⟩ fun i d σ hd hp=>by
   obtain ⟨x,y,rfl⟩:=hp
   rw [Nat.zero_add]
   have hi:i<rows.length:=by
    have:=(List.getElem?_eq_some_iff.mp hd).1
    rw [kR,List.length_map] at this
    exact this
   rw [JP,List.getElem?_map,List.getElem?_eq_getElem hi] at hd
   cases hd
   have ix:zG (.lst rows) (.int (i:Int))=some (rows.getD i .non):=by
    show wW rows (i:Int)=_
    unfold wW
    rw [if_pos (Int.natCast_nonneg i),Int.toNat_natCast,List.getD_eq_getElem?_getD,List.getElem?_eq_getElem hi]
    rfl
   obtain ⟨q1,q2⟩:=NJ (rows:=rows) (n:=i)
   have ll:(wL i).length<yP:=by unfold wL; rw [List.length_map,List.length_range]; show _<16777216; omega
   have ky:wZ (.int (i:Int))=some (.inl (i:Int)):=rfl
   refine ⟨_,[some (false,.lst rows),some (false,.lst rows),some (true,.dic (wL (i+1)) (uM rows (i+1))),some (false,.int (i:Int)),some (false,.non)],rfl,.inl ?_,_,_,rfl⟩
   rw [<- q1,<- q2]
   unfold Vf
   simp! [vo,ix,add_int,ky,if_pos ll]
 rw [Nat.zero_add,kR,List.length_map] at e1
 rw [Mr]
 unfold Yr
 generalize tU (rows.map fun _=>.non)=NN at en e1
 simp! [IY h,en,e1]
theorem Ke {Ws:List Int} {hk:List (Sum Int Str)} {hv:List D}:jK [.obj "State" [] [],.fz (.lst (wI Ws)),.fz (.dic hk hv)]=some ([st (wI Ws) false false false hk hv,.fz (.lst (wI Ws)),.fz (.dic hk hv)],.fz .non):=by
 have e1:xU (yH 3) xi OP [none,some (false,.lst (wI Ws)),some (false,.dic hk hv),none] XJ=some [.tup [.str "carry",.bl false],.tup [.str "nought",.bl false],.tup [.str "sign",.bl false]]:=rfl
 have e2:X7 [.lst [.tup [.str "carry",.bl false],.tup [.str "nought",.bl false],.tup [.str "sign",.bl false]]]=some (qr false false false):=rfl
 have e3:v4 [.lst (wI Ws)]=some (.lst (wI Ws)):=rfl
 have e4:X6 [.dic hk hv]=some (.dic hk hv):=rfl
 have p1:∀ {x:M} {zc:zg},uF x (some (.obj "State" [] [])::zc) 0 [] ["State"] "words" = some (.nx (some (.obj "State" ["words"] [x])::zc)):=rfl
 have p2:∀ {x y:M} {zc:zg},uF x (some (.obj "State" ["words"] [y])::zc) 0 [] ["State"] "truths" = some (.nx (some (.obj "State" ["words", "truths"] [y,x])::zc)):=rfl
 have p3:∀ {x y z:M} {zc:zg},uF x (some (.obj "State" ["words", "truths"] [y,z])::zc) 0 [] ["State"] "held" = some (.nx (some (.obj "State" ["words", "truths", "held"] [y,z,x])::zc)):=rfl
 rw [ML]
 unfold We
 simp! [xh,pq,e1,e2,e3,e4,p1,p2,p3]
 rfl
theorem Oe {T fw fh:D} {e:Int} {Ws:List Int} {hk:List (Sum Int Str)} {hv:List D} {fs:List Str} {ms:List M}:qE [.obj "RowMachine" ["table", "end", "first_words", "first_held"] [.fz T,.fz (.int e),.fz (.lst (wI Ws)),.fz (.dic hk hv)]]=some ([xm T e (.lst (wI Ws)) (.dic hk hv) (st (wI Ws) false false false hk hv) 0 0],.fz .non):=by
 have a1:vI (.obj "RowMachine" ["table", "end", "first_words", "first_held"] [.fz T,.fz (.int e),.fz (.lst (wI Ws)),.fz (.dic hk hv)]) [.at ["RowMachine"] "first_words"]=some (.fz (.lst (wI Ws))):=rfl
 have a2:vI (.obj "RowMachine" ["table", "end", "first_words", "first_held"] [.fz T,.fz (.int e),.fz (.lst (wI Ws)),.fz (.dic hk hv)]) [.at ["RowMachine"] "first_held"]=some (.fz (.dic hk hv)):=rfl
 have p1:∀ {a b c d x:M} {zc:zg},uF x (some (.obj "RowMachine" ["table", "end", "first_words", "first_held"] [a,b,c,d])::zc) 0 [] ["RowMachine"] "state" = some (.nx (some (.obj "RowMachine" ["table", "end", "first_words", "first_held", "state"] [a,b,c,d,x])::zc)):=rfl
 have p2:∀ {a b c d f x:M} {zc:zg},uF x (some (.obj "RowMachine" ["table", "end", "first_words", "first_held", "state"] [a,b,c,d,f])::zc) 0 [] ["RowMachine"] "due" = some (.nx (some (.obj "RowMachine" ["table", "end", "first_words", "first_held", "state", "due"] [a,b,c,d,f,x])::zc)):=rfl
 have p3:∀ {a b c d f g x:M} {zc:zg},uF x (some (.obj "RowMachine" ["table", "end", "first_words", "first_held", "state", "due"] [a,b,c,d,f,g])::zc) 0 [] ["RowMachine"] "done" = some (.nx (some (.obj "RowMachine" pP [a,b,c,d,f,g,x])::zc)):=rfl
 rw [M9]
 unfold Wc
 simp! [xh,a1,a2,Ke,p1,p2,p3]
 rfl
theorem DF {T:D} {e:Int} {Ws:List Int} {ps:List (Int×Int)} (hl:Ws.length=8) (hw:∀ w∈Ws,0<=w/\w<4294967296) (P:vw ps) (hp:ps.length<=1000) :
  jI [.obj "RowMachine" [] [],.fz T,.fz (.int e),.fz (.lst (wI Ws)),.fz (.lst (ps.map pD))]=some ([xm T e (.lst (wI Ws)) (.dic (kP ps) (vP ps)) (st (wI Ws) false false false (kP ps) (vP ps)) 0 0,.fz T,.fz (.int e),.fz (.lst (wI Ws)),.fz (.lst (ps.map pD))],.fz .non):=by
 have p1:∀ {x:M} {zc:zg},uF x (some (.obj "RowMachine" [] [])::zc) 0 [] ["RowMachine"] "table" = some (.nx (some (.obj "RowMachine" ["table"] [x])::zc)):=rfl
 have p2:∀ {a x:M} {zc:zg},uF x (some (.obj "RowMachine" ["table"] [a])::zc) 0 [] ["RowMachine"] "end" = some (.nx (some (.obj "RowMachine" ["table", "end"] [a,x])::zc)):=rfl
 have p3:∀ {a b x:M} {zc:zg},uF x (some (.obj "RowMachine" ["table", "end"] [a,b])::zc) 0 [] ["RowMachine"] "first_words" = some (.nx (some (.obj "RowMachine" ["table", "end", "first_words"] [a,b,x])::zc)):=rfl
 have p4:∀ {a b c x:M} {zc:zg},uF x (some (.obj "RowMachine" ["table", "end", "first_words"] [a,b,c])::zc) 0 [] ["RowMachine"] "first_held" = some (.nx (some (.obj "RowMachine" ["table", "end", "first_words", "first_held"] [a,b,c,x])::zc)):=rfl
 have ag:=Oe (T:=T) (e:=e) (fw:=.non) (fh:=.non) (Ws:=Ws) (hk:=kP ps) (hv:=vP ps) (fs:=[]) (ms:=[])
 have ct:∀ {a b c d:M} {zc:zg},pW "RowMachine" "again" 0 [] qE xj (some (.obj "RowMachine" ["table", "end", "first_words", "first_held"] [a,b,c,d])::zc)=pV qE [.p 0 []] (some (.obj "RowMachine" ["table", "end", "first_words", "first_held"] [a,b,c,d])::zc):=rfl
 rw [M8]
 unfold Wb
 simp! [yI.eq_1,vC.eq_1,vN.eq_1,yX.eq_1,uC.eq_1,hide.eq_1,wA.eq_1,gz.eq_1,gz.eq_2,uP.eq_1,uP.eq_2,@Option.map_some.{0,0},@List.take_succ_cons.{0},@List.take_zero.{0},p1,p2,p3,p4,No hl hw,LB P hp,ct]
 simp! [xh,ag]
theorem GB {rows:List D} {Ws:List Int} {ps:List (Int×Int)} (hr:∀ r∈rows,pS r) (hrl:rows.length<=1000) (hl:Ws.length=8) (hw:∀ w∈Ws,0<=w/\w<4294967296) (P:vw ps) (hp:ps.length<=1000) :
  jJ [.obj "RowMachine" [] [],.fz (.lst rows),.fz (.lst (wI Ws)),.fz (.lst (ps.map pD))]=some ([xm (.dic (wL rows.length) (uM rows rows.length)) rows.length (.lst (wI Ws)) (.dic (kP ps) (vP ps)) (st (wI Ws) false false false (kP ps) (vP ps)) 0 0,.fz (.lst rows),.fz (.lst (wI Ws)),.fz (.lst (ps.map pD))],.fz .non):=by
 have ar:pU (.obj "RowMachine" [] []) 0 []=.p 0 []:=rfl
 have fl:VE [.dic (wL rows.length) (uM rows rows.length)]=some (.int rows.length):=by
  show some (D.int ((wL rows.length).length:Int))=_
  unfold wL
  rw [List.length_map,List.length_range]
 rw [MK]
 unfold Wd
 simp! [xh,NG hr hrl,fl,ar,DF hl hw P hp]
end L3
namespace L3
open PySem
noncomputable def Uz:FE:=(xX (z8 (z6 1) (z8 (e2 zG (z6 0) (z6 1)) zF)))
noncomputable def T2:FT:=(tE (e2 vA (e2 zG (z6 0) (z6 1)) (eC (.int 0))))
noncomputable def Yo:FS:=
 (ud (wX 1 (wj (eL VI (z8 (z6 0) zF))) (yH 1) T2 Uz))
noncomputable def jX:List D->Option (Bool×D):=FR 1 1 Yo
theorem Go:∀ ds r,jX ds=some r->ds.length=1/\zZ 1 Yo ds=some r:=yD
theorem Mo (x0:D):jX [x0]=zZ 1 Yo [x0]:=rfl
noncomputable def YS:FS:=
 (ud (eL v4 (z8 (e1 (yN ["State"] "words") (e1 (yN ["RowMachine"] "state") (z6 0))) zF)))
noncomputable def p8:List D->Option (Bool×D):=FR 1 1 YS
theorem GF:∀ ds r,p8 ds=some r->ds.length=1/\zZ 1 YS ds=some r:=yD
theorem MH (x0:D):p8 [x0]=zZ 1 YS [x0]:=rfl
noncomputable def W4:FE:=(e2 zG (e1 (yN ["State"] "truths") (e1 (yN ["RowMachine"] "state") (z6 0))) (z6 1))
noncomputable def YO:FS:=
 (z_ (eL jn (z8 (wX 1 (wj (eC pq)) (yH 1) xi W4) zF)))
noncomputable def p5:List D->Option (Bool×D):=FR 1 1 YO
theorem GC:∀ ds r,p5 ds=some r->ds.length=1/\zZ 1 YO ds=some r:=yD
theorem MB (x0:D):p5 [x0]=zZ 1 YO [x0]:=rfl
noncomputable def YQ:FS:=
 (ud (wz jX (z8 (e1 (yN ["State"] "held") (e1 (yN ["RowMachine"] "state") (z6 0))) zF)))
noncomputable def p6:List D->Option (Bool×D):=FR 1 1 YQ
theorem GD:∀ ds r,p6 ds=some r->ds.length=1/\zZ 1 YQ ds=some r:=yD
theorem ME (x0:D):p6 [x0]=zZ 1 YQ [x0]:=rfl
noncomputable def YR:FS:=
 (z_ (e1 (yN ["RowMachine"] "due") (z6 0)))
noncomputable def p7:List D->Option (Bool×D):=FR 1 1 YR
theorem GE:∀ ds r,p7 ds=some r->ds.length=1/\zZ 1 YR ds=some r:=yD
theorem MF (x0:D):p7 [x0]=zZ 1 YR [x0]:=rfl
noncomputable def YV:FS:=
 (z_ (e1 (yN ["RowMachine"] "done") (z6 0)))
noncomputable def p9:List D->Option (Bool×D):=FR 1 1 YV
theorem GH:∀ ds r,p9 ds=some r->ds.length=1/\zZ 1 YV ds=some r:=yD
theorem MJ (x0:D):p9 [x0]=zZ 1 YV [x0]:=rfl
noncomputable def kK:FS:=(xF (tE (e2 zo (z6 3) (eC (.int 0))))
     (vo 2 (z6 3) (zi p8 (xv "RowMachine" "registers" (z6 0) zF)))
     (xF (tE (e2 zo (z6 3) (eC (.int 1))))
       (vo 2 (z6 3) (zi p5 (xv "RowMachine" "marks" (z6 0) zF)))
       (xF (tE (e2 zo (z6 3) (eC (.int 2))))
         (vo 2 (z6 3) (zi p6 (xv "RowMachine" "memory" (z6 0) zF)))
         (xF (tE (e2 zo (z6 3) (eC (.int 3))))
           (vo 2 (z6 3) (zi p7 (xv "RowMachine" "place" (z6 0) zF)))
           (xF (tE (e2 zo (z6 3) (eC (.int 4))))
             (vo 2 (z6 3) (zi p9 (xv "RowMachine" "steps" (z6 0) zF)))
             (vo 2 (z6 3) (zi wf (xv "RowMachine" "stands" (z6 0) zF))))))))
noncomputable def W5:FE:=(e2 zG (z6 2) (z6 4))
noncomputable def Yg:FS:=
 (zj (qj 2 (eC (.dic [] [])))
  (zj (t3 (wj (e2 zG (xf (z8 (xf (fun _=>some (List.map D.int [0,1,2,3,4,5]))) (z8 (xf (fun _=>some (List.map D.int [5,4,3,2,1,0]))) (z8 (xf (fun _=>some (List.map D.int [2,4,0,5,1,3]))) (z8 (xf (fun _=>some (List.map D.int [3,1,5,0,4,2]))) zF))))) (e2 yf (z6 1) (eC (.int 4))))) (yH 3)
   kK)
  (zj (km 2) (z_ (eL XG (z8 (wX 1 (vM (eC (.int 0)) (eC (.int 6))) (yH 4) xi W5) zF))))))
noncomputable def qG:List D->Option (Bool×D):=FR 2 4 Yg
theorem Gb:∀ ds r,qG ds=some r->ds.length=2/\zZ 4 Yg ds=some r:=yD
theorem Mc (x0 x1:D):qG [x0,x1]=zZ 4 Yg [x0,x1]:=rfl
noncomputable def Ux:FE:=(xX (z8 (z6 3) (z8 (e2 zG (e2 zG (z6 0) (eC (.str "bytes"))) (z6 3)) zF)))
noncomputable def T1:FT:=(tE (e2 (xT fun i j=>decide (j<i)) (e2 zG (e2 zG (z6 0) (eC (.str "bytes"))) (z6 3)) (eC (.int 0))))
noncomputable def Yf:FS:=
 (zj (yU 2 (wX 1 (wj (eL VJ (z8 (eL VF (z8 (e2 zG (z6 0) (eC (.str "bytes"))) zF)) zF))) (yH 3) T1 Ux))
  (z_ (eL XG (z8 (xf (z8 (e2 zG (z6 0) (eC (.str "words"))) (z8 (eL jn (z8 (e2 zG (z6 0) (eC (.str "marks"))) zF)) (z8 (z6 2) (z8 (e2 zG (z6 0) (eC (.str "at"))) (z8 (e2 zG (z6 0) (eC (.str "many"))) (z8 (z6 1) zF))))))) zF))))
noncomputable def pH:List D->Option (Bool×D):=FR 2 3 Yf
theorem GZ:∀ ds r,pH ds=some r->ds.length=2/\zZ 3 Yf ds=some r:=yD
theorem Mb (x0 x1:D):pH [x0,x1]=zZ 3 Yf [x0,x1]:=rfl
noncomputable def wN:List (Int×Int)->Int->Int
 | [],_=>0
 | p::ps,a=>if p.1=a then p.2 else wN ps a
theorem Qj {a:Int}:∀ {ps:List (Int×Int)},a∈ps.map (·.1)->getK (kP ps) (vP ps) (.inl a)=some (.int (wN ps a))
 | [],h=>absurd h (by simp)
 | p::ps,h=>by
  show getK (.inl p.1::kP ps) (.int p.2::vP ps) (.inl a)=_
  unfold getK wN
  by_cases c:p.1=a
  ·rw [if_pos (congrArg Sum.inl c),if_pos c]
  ·rw [if_neg (fun z=>c (Sum.inl.inj z)),if_neg c]
   rw [List.map_cons] at h
   exact Qj ((List.mem_cons.mp h).resolve_left fun z=>c z.symm)
theorem Ut {a:Int}:∀ {ps:List (Int×Int)},(∀ p∈ps,0<=p.2/\p.2<256)->0<=wN ps a/\wN ps a<256
 | [],_=>⟨by unfold wN; omega,by unfold wN; omega⟩
 | p::ps,h=>by
  unfold wN
  split
  ·exact h p List.mem_cons_self
  ·exact Ut fun q hq=>h q (List.mem_cons_of_mem _ hq)
theorem J3 {ps:List (Int×Int)} {a:Int} (h:a∈ps.map (·.1)):zG (.dic (kP ps) (vP ps)) (.int a)=some (.int (wN ps a)):=by
 show (wZ (.int a)).bind _=_
 exact Qj h
noncomputable def memK (ps:List (Int×Int)):List Int:=L2.isort (ps.map (·.1))
noncomputable def vR (ps:List (Int×Int)):List D:=((memK ps).filter fun a=>decide (wN ps a≠0)).map fun a=>.tup [.int a,.int (wN ps a)]
theorem Vp {ps:List (Int×Int)} {a:Int} (h:a∈memK ps):a∈ps.map (·.1):=(L2.isort_perm (ps.map (·.1))).mem_iff.mp h
theorem J5:∀ (ps:List (Int×Int)),jt (kP ps)=some (ps.map (·.1))
 | []=>rfl
 | p::ps=>by
  show (jt (kP ps)).bind _=_
  rw [J5 ps]
  rfl
theorem JC {g:FG} {c:FT} {e:FE} {σ:zf} (p:Int->Bool) (v:Int->D) {ns:List Int} (h:∀ n∈ns,∃ σ1,g (.int n) σ=some σ1/\c σ1=some (p n)/\(p n=true->e σ1=some (v n))):xU g c e σ (wI ns)=some ((ns.filter p).map v):=by
 induction ns with
 | nil=>rfl
 | cons n ns ih=>
  obtain ⟨σ1,e1,e2,e3⟩:=h n List.mem_cons_self
  have ih':=ih fun m hm=>h m (List.mem_cons_of_mem _ hm)
  show xU g c e σ (.int n::wI ns)=_
  cases q:p n with
  | true=>
   rw [q] at e2
   simp only [xU,e1,Option.bind_some,e2,e3 q,ih',List.filter_cons,q,if_true,List.map_cons]
  | false=>
   rw [q] at e2
   simp only [xU,e1,Option.bind_some,e2,ih',List.filter_cons,q,Bool.false_eq_true,if_false]
theorem DQ {i:Int}:vA (.int i) (.int 0)=some (.bl (decide (i≠0))):=by
 show some (D.bl (!(i == 0)))=_
 congr 2
 by_cases c:i=0
 ·subst c; rfl
 ·rw [decide_eq_true c]
  have:(i == 0)=false:=by simpa using c
  rw [this]
  rfl
theorem Cd {ps:List (Int×Int)} (hl:ps.length<64):jX [.dic (kP ps) (vP ps)]=some (true,.lst (vR ps)):=by
 have e1:VI [.dic (kP ps) (vP ps)]=some (.lst (wI (memK ps))):=by
  show (jt (kP ps)).bind _=_
  rw [J5]
  show (if (ps.map (·.1)).length<64 then _ else _)=_
  rw [if_pos (by rw [List.length_map]; exact hl)]
  rfl
 have e2:xU (yH 1) T2 Uz [some (false,.dic (kP ps) (vP ps)),none] (wI (memK ps))=some (vR ps):=JC (fun a=>decide (wN ps a≠0)) (fun a=>.tup [.int a,.int (wN ps a)]) fun n hn=>by
  have ix:=J3 (Vp hn)
  refine ⟨_,rfl,?_,fun _=>?_⟩
  ·unfold T2
   simp! [ix,DQ]
  ·unfold Uz
   simp! [ix]
 rw [Mo]
 unfold Yo
 simp! [e1,e2]
section
variable {T fw fh:D} {e due done:Int} {Ws:List Int} {a b c:Bool} {ps:List (Int×Int)}
noncomputable def yL (T fw fh:D) (e due done:Int) (Ws:List Int) (a b c:Bool) (ps:List (Int×Int)):D:=xl T e fw fh (u5 (wI Ws) a b c (kP ps) (vP ps)) due done
theorem G8:p8 [yL T fw fh e due done Ws a b c ps]=some (true,.lst (wI Ws)):=by
 have fl:v4 [.lst (wI Ws)]=some (.lst (wI Ws)):=rfl
 unfold yL
 rw [MH]
 unfold YS
 simp! [kD,pj,fl]
theorem Bs:p5 [yL T fw fh e due done Ws a b c ps]=some (false,.tup [.bl a,.bl b,.bl c]):=by
 unfold yL
 have e1:xU (yH 1) xi W4 [some (false,xl T e fw fh (u5 (wI Ws) a b c (kP ps) (vP ps)) due done),none] XJ=some [.bl a,.bl b,.bl c]:=by
  have h:∀ m:Str,W4 [some (false,xl T e fw fh (u5 (wI Ws) a b c (kP ps) (vP ps)) due done),some (false,.str m)]=zG (qr a b c) (.str m):=fun m=>by
   unfold W4
   simp! [kD,Qd]
  unfold XJ
  simp only [xU,yH,xi,Option.bind_some,List.set_cons_succ,List.set_cons_zero,h,OE,NL,NM]
 have e2:jn [.lst [.bl a,.bl b,.bl c]]=some (.tup [.bl a,.bl b,.bl c]):=rfl
 rw [MB]
 unfold YO pq
 simp! [e1,e2]
theorem DC (hl:ps.length<64):p6 [yL T fw fh e due done Ws a b c ps]=some (true,.lst (vR ps)):=by
 unfold yL
 rw [ME]
 unfold YQ
 simp! [kD,Ly,Cd hl]
theorem EI:p7 [yL T fw fh e due done Ws a b c ps]=some (false,.int due):=by
 unfold yL
 rw [MF]
 unfold YR
 simp! [kC]
theorem Kh:p9 [yL T fw fh e due done Ws a b c ps]=some (false,.int done):=by
 unfold yL
 rw [MJ]
 unfold YV
 simp! [Lx]
noncomputable def vis (Ws:List Int) (a b c:Bool) (ps:List (Int×Int)) (due done:Int) (k:Bool):List D:=[.lst (wI Ws),.tup [.bl a,.bl b,.bl c],.lst (vR ps),.int due,.int done,.bl k]
theorem Uv {m:Nat}:∀ {xs:List D},(∀ d∈xs,wD d<=m)->wDs xs<=(m+2)*xs.length
 | [],_=>Nat.zero_le _
 | x::xs,h=>by
  have h1:=h x List.mem_cons_self
  have h2:=Uv fun d hd=>h d (List.mem_cons_of_mem _ hd)
  show wD x+2+wDs xs<=_
  rw [List.length_cons,Nat.mul_add]
  omega
theorem Y8 {i:Int} (h0:0<=i) (h1:i<100000000000000000000):wD (.int i)=20:=by
 show (if decide (0<=i)&&decide (i<100000000000000000000) then 20 else 1000000000)=20
 rw [decide_eq_true h0,decide_eq_true h1]
 rfl
theorem DB:(vR ps).length<=ps.length:=by
 unfold vR memK
 rw [List.length_map]
 refine Nat.le_trans (List.length_filter_le ..) ?_
 rw [(L2.isort_perm _).length_eq,List.length_map]
 exact Nat.le_refl _
theorem IT {k:Bool} (P:vw ps) (hl:ps.length<64) (hw:∀ w∈Ws,0<=w/\w<4294967296) (hn:Ws.length<=100) (d0:0<=due) (d1:due<1000000) (s0:0<=done) (s1:done<1000000):XG [.lst (vis Ws a b c ps due done k)]=some (.str (xH (.lst (vis Ws a b c ps due done k))).shown):=by
 have h1:wDs (wI Ws)<=22*100:=by
  have:=Uv (m:=20) (xs:=wI Ws) fun d hd=>by
   obtain ⟨w,hw',rfl⟩:=List.mem_map.mp hd
   exact Nat.le_of_eq (Y8 (hw w hw').1 (by have:=(hw w hw').2; omega))
  rw [uh] at this
  omega
 have h2:wDs (vR ps)<=49*64:=by
  have:=Uv (m:=47) (xs:=vR ps) fun d hd=>by
   obtain ⟨x,hx,rfl⟩:=List.mem_map.mp hd
   have hx':=Vp (List.mem_filter.mp hx).1
   obtain ⟨p,hp,rfl⟩:=List.mem_map.mp hx'
   have h3:=P.ad p hp
   have h4:=Ut (a:=p.1) P.by_
   show wD (.int p.1)+2+(wD (.int (wN ps p.1))+2+0)+3<=47
   rw [Y8 h3.1 (by omega),Y8 h4.1 (by omega)]
   decide
  have l:=DB (ps:=ps)
  have:(47+2)*(vR ps).length<=49*64:=by omega
  omega
 have hW:wDs (vis Ws a b c ps due done k)<=1000000:=by
  show (wDs (wI Ws)+2)+2+(((5+2+(5+2+(5+2+0)))+3)+2+((wDs (vR ps)+2)+2+(wD (.int due)+2+(wD (.int done)+2+(5+2+0)))))<=1000000
  rw [Y8 d0 (by omega),Y8 s0 (by omega)]
  omega
 have hd1:(wI Ws).all (wH 4)=true:=List.all_eq_true.mpr fun d hd=>by
  obtain ⟨w,_,rfl⟩:=List.mem_map.mp hd
  rfl
 have hd2:(vR ps).all (wH 4)=true:=List.all_eq_true.mpr fun d hd=>by
  obtain ⟨x,_,rfl⟩:=List.mem_map.mp hd
  rfl
 have hD:(vis Ws a b c ps due done k).all (wH 5)=true:=by
  show ((wI Ws).all (wH 4)&&(_&&((vR ps).all (wH 4)&&_)))=true
  rw [hd1,hd2]
  rfl
 show (match decide (wDs (vis Ws a b c ps due done k)<=1000000)&&(vis Ws a b c ps due done k).all (wH 5) with | true=>_ | false=>_)=_
 rw [decide_eq_true hW,hD]
 rfl
theorem Ec {ks:List (Sum Int Str)} {vs:List D} {k:Int} {v:D} (h:w8 ks (.inl k)=false):xo ks (.inl k)=ks++[.inl k]/\yi ks vs (.inl k) v=vs++[v]:=by
 unfold xo yi
 rw [if_neg (by rw [h]; decide),if_neg (by rw [h]; decide)]
 exact ⟨rfl,rfl⟩
theorem Mw {k:Nat}:∀ {xs:List Nat},k ∉ xs->w8 (xs.map fun k:Nat=>(.inl (k:Int):Sum Int Str)) (.inl (k:Int))=false:=fun {xs} h=>by
 unfold w8
 rw [List.any_map,List.any_eq_false]
 intro j hj
 show ¬ decide ((.inl (j:Int):Sum Int Str)=.inl (k:Int))=true
 rw [decide_eq_true_iff]
 intro z
 have:j=k:=by have:=Sum.inl.inj z; omega
 exact h (this ▸ hj)
theorem KB {m:Str} {τ:zf} {d:D} (hm:m ∉ pP) (h:τ[0]?=some (some (false,yL T fw fh e due done Ws a b c ps))):xv "RowMachine" m (z6 0) zF τ=some [yL T fw fh e due done Ws a b c ps]:=by
 refine WX (sd:=u5 (wI Ws) a b c (kP ps) (vP ps)) ?_ hm rfl
 unfold z6
 rw [h]
 rfl
noncomputable def qc (T fw fh:D) (e due done:Int) (Ws:List Int) (a b c:Bool) (ps:List (Int×Int)) (cell:Int) (o:List Nat) (k:Bool) (x:Option Sl):zf:=
 [some (false,yL T fw fh e due done Ws a b c ps),some (false,.int cell),some (true,.dic (o.map fun k:Nat=>.inl (k:Int)) (o.map fun i:Nat=>(vis Ws a b c ps due done k).getD i .non)),x]
theorem Bm {cell:Int} {o:List Nat} {k:Bool} {i:Nat} (hl:ps.length<64) (hs:wf [yL T fw fh e due done Ws a b c ps]=some (false,.bl k)) (hi:i<6) (hn:i ∉ o) (ho:o.length<=6):kK (qc T fw fh e due done Ws a b c ps cell o k (some (false,.int (i:Int))))=some (.nx (qc T fw fh e due done Ws a b c ps cell (o++[i]) k (some (false,.int (i:Int))))):=by
 obtain ⟨q1,q2⟩:=Ec (vs:=o.map fun i:Nat=>(vis Ws a b c ps due done k).getD i .non) (v:=(vis Ws a b c ps due done k).getD i .non) (Mw hn)
 have ll:(o.map fun k:Nat=>(.inl (k:Int):Sum Int Str)).length<yP:=by rw [List.length_map]; show _<16777216; omega
 have q3:(o++[i]).map (fun k:Nat=>(.inl (k:Int):Sum Int Str))=(o.map fun k:Nat=>(.inl (k:Int):Sum Int Str))++[.inl (i:Int)]:=by rw [List.map_append]; rfl
 have q4:(o++[i]).map (fun i:Nat=>(vis Ws a b c ps due done k).getD i .non)=(o.map fun i:Nat=>(vis Ws a b c ps due done k).getD i .non)++[(vis Ws a b c ps due done k).getD i .non]:=by rw [List.map_append]; rfl
 unfold qc
 rw [q3,q4,<- q1,<- q2]
 clear q1 q2 q3 q4
 generalize (o.map fun k:Nat=>(.inl (k:Int):Sum Int Str))=ks at ll ⊢
 generalize (o.map fun i:Nat=>(vis Ws a b c ps due done k).getD i .non)=vs
 have sf:∀ {m:Str} {τ:zf},m ∉ pP->τ[0]?=some (some (false,yL T fw fh e due done Ws a b c ps))->xv "RowMachine" m (z6 0) zF τ=some [yL T fw fh e due done Ws a b c ps]:=fun hm h=>KB (d:=.non) hm h
 have s1:∀ τ:zf,xv "RowMachine" "registers" (z6 0) zF (some (false,yL T fw fh e due done Ws a b c ps)::τ)=some [yL T fw fh e due done Ws a b c ps]:=fun τ=>sf (by decide +kernel) rfl
 have s2:∀ τ:zf,xv "RowMachine" "marks" (z6 0) zF (some (false,yL T fw fh e due done Ws a b c ps)::τ)=some [yL T fw fh e due done Ws a b c ps]:=fun τ=>sf (by decide +kernel) rfl
 have s3:∀ τ:zf,xv "RowMachine" "memory" (z6 0) zF (some (false,yL T fw fh e due done Ws a b c ps)::τ)=some [yL T fw fh e due done Ws a b c ps]:=fun τ=>sf (by decide +kernel) rfl
 have s4:∀ τ:zf,xv "RowMachine" "place" (z6 0) zF (some (false,yL T fw fh e due done Ws a b c ps)::τ)=some [yL T fw fh e due done Ws a b c ps]:=fun τ=>sf (by decide +kernel) rfl
 have s5:∀ τ:zf,xv "RowMachine" "steps" (z6 0) zF (some (false,yL T fw fh e due done Ws a b c ps)::τ)=some [yL T fw fh e due done Ws a b c ps]:=fun τ=>sf (by decide +kernel) rfl
 have s6:∀ τ:zf,xv "RowMachine" "stands" (z6 0) zF (some (false,yL T fw fh e due done Ws a b c ps)::τ)=some [yL T fw fh e due done Ws a b c ps]:=fun τ=>sf (by decide +kernel) rfl
 have ky:∀ {j:Int},wZ (.int j)=some (.inl j):=rfl
 have r1:=G8 (T:=T) (fw:=fw) (fh:=fh) (e:=e) (due:=due) (done:=done) (Ws:=Ws) (a:=a) (b:=b) (c:=c) (ps:=ps)
 have r2:=Bs (T:=T) (fw:=fw) (fh:=fh) (e:=e) (due:=due) (done:=done) (Ws:=Ws) (a:=a) (b:=b) (c:=c) (ps:=ps)
 have r3:=DC (T:=T) (fw:=fw) (fh:=fh) (e:=e) (due:=due) (done:=done) (Ws:=Ws) (a:=a) (b:=b) (c:=c) hl
 have r4:=EI (T:=T) (fw:=fw) (fh:=fh) (e:=e) (due:=due) (done:=done) (Ws:=Ws) (a:=a) (b:=b) (c:=c) (ps:=ps)
 have r5:=Kh (T:=T) (fw:=fw) (fh:=fh) (e:=e) (due:=due) (done:=done) (Ws:=Ws) (a:=a) (b:=b) (c:=c) (ps:=ps)
 unfold kK
 generalize yL T fw fh e due done Ws a b c ps=dm at *
 have q:i=0\/i=1\/i=2\/i=3\/i=4\/i=5:=by omega
 have qe:∀ {x y:Int},zo (.int x) (.int y)=some (.bl (decide (x=y))):=eq_int
 have c0:((0:Nat):Int)=0:=rfl
 have c1:((1:Nat):Int)=1:=rfl
 have c2:((2:Nat):Int)=2:=rfl
 have c3:((3:Nat):Int)=3:=rfl
 have c4:((4:Nat):Int)=4:=rfl
 have c5:((5:Nat):Int)=5:=rfl
 rcases q with rfl | rfl | rfl | rfl | rfl | rfl
 all_goals
  clear hn ho
  simp! [qe,c0,c1,c2,c3,c4,c5,Int.reduceEq,vo,s1,s2,s3,s4,s5,s6,r1,r2,r3,r4,r5,hs,ky,if_pos ll]
  first | done | rfl
theorem JH {cell:Int} {k:Bool} (P:vw ps) (hl:ps.length<64) (hw:∀ w∈Ws,0<=w/\w<4294967296) (hn:Ws.length<=100) (d0:0<=due) (d1:due<1000000) (s0:0<=done) (s1:done<1000000)
  (hs:wf [yL T fw fh e due done Ws a b c ps]=some (false,.bl k)):qG [yL T fw fh e due done Ws a b c ps,.int cell]=some (false,.str (xH (.lst (vis Ws a b c ps due done k))).shown):=by
 have key:∀ o:List Nat,o.Nodup->o.length=6->(∀ i∈o,i<6)->(∀ i,i<6->i∈o)->∃ σ',tO (yH 3) kK (o.map fun k:Nat=>.int (k:Int)) (qc T fw fh e due done Ws a b c ps cell [] k none)=some (.nx σ')/\∃ x,σ'=qc T fw fh e due done Ws a b c ps cell o k x:=fun o nd l6 lt all=>by
  obtain ⟨σ',e1,x,rfl⟩:=tP (g:=yH 3) (b:=kK) (fun i σ=>∃ x,σ=qc T fw fh e due done Ws a b c ps cell (o.take i) k x) (ds:=o.map fun k:Nat=>.int (k:Int)) (σ:=qc T fw fh e due done Ws a b c ps cell [] k none) 0 ⟨none,rfl⟩ fun i d σ hd hp=>by
   obtain ⟨x,rfl⟩:=hp
   rw [Nat.zero_add]
   have hi:i<o.length:=by have:=(List.getElem?_eq_some_iff.mp hd).1; rw [List.length_map] at this; exact this
   rw [List.getElem?_map,List.getElem?_eq_getElem hi] at hd
   cases hd
   have nin:o[i] ∉ o.take i:=by
    have e2:o=o.take i++o[i]::o.drop (i+1):=by rw [<- List.drop_eq_getElem_cons hi,List.take_append_drop]
    have nd':=nd
    rw [e2,List.nodup_append] at nd'
    intro z
    exact nd'.2.2 _ z _ List.mem_cons_self rfl
   have lo:=Bm (T:=T) (fw:=fw) (fh:=fh) (e:=e) (due:=due) (done:=done) (Ws:=Ws) (a:=a) (b:=b) (c:=c) (ps:=ps) (cell:=cell) (o:=o.take i) (k:=k) (i:=o[i]) hl hs (lt _ (List.getElem_mem hi)) nin (by rw [List.length_take]; omega)
   refine ⟨_,_,rfl,.inl lo,some (false,.int (o[i]:Int)),?_⟩
   rw [List.take_succ_eq_append_getElem hi]
  rw [Nat.zero_add,List.length_map,List.take_length] at e1
  exact ⟨_,e1,x,rfl⟩
 have fin:∀ (o:List Nat),(∀ i,i<6->i∈o)->∀ x,xU (yH 4) xi W5 [some (false,yL T fw fh e due done Ws a b c ps),some (false,.int cell),some (false,.dic (o.map fun k:Nat=>.inl (k:Int)) (o.map fun i:Nat=>(vis Ws a b c ps due done k).getD i .non)),x,none] (yq 6)=some (vis Ws a b c ps due done k):=fun o all x=>by
  have:=XX (g:=yH 4) (e:=W5) (σ:=[some (false,yL T fw fh e due done Ws a b c ps),some (false,.int cell),some (false,.dic (o.map fun k:Nat=>.inl (k:Int)) (o.map fun i:Nat=>(vis Ws a b c ps due done k).getD i .non)),x,none]) (fun d=>match d with | .int i=>(vis Ws a b c ps due done k).getD i.toNat .non | d=>d) (ds:=yq 6) fun d hd=>by
   obtain ⟨i,hi,rfl⟩:=List.mem_map.mp hd
   have g:=VO (g:=fun i:Nat=>(vis Ws a b c ps due done k).getD i .non) (all i (List.mem_range.mp hi))
   refine ⟨_,rfl,?_⟩
   unfold W5
   have ix:zG (.dic (o.map fun k:Nat=>.inl (k:Int)) (o.map fun i:Nat=>(vis Ws a b c ps due done k).getD i .non)) (.int (i:Int))=some ((vis Ws a b c ps due done k).getD i .non):=g
   simp! [ix]
   rfl
  rw [this]
  rfl
 have rp:=IT (a:=a) (b:=b) (c:=c) (k:=k) P hl hw hn d0 d1 s0 s1
 have r6:∀ τ:zf,vM (eC (.int 0)) (eC (.int 6)) τ=some (yq 6):=fun τ=>j8 (n:=6) rfl (by decide)
 have go:∀ o:List Nat,o.Nodup->o.length=6->(∀ i∈o,i<6)->(∀ i,i<6->i∈o)->zG (.lst [.lst [.int 0,.int 1,.int 2,.int 3,.int 4,.int 5],.lst [.int 5,.int 4,.int 3,.int 2,.int 1,.int 0],.lst [.int 2,.int 4,.int 0,.int 5,.int 1,.int 3],.lst [.int 3,.int 1,.int 5,.int 0,.int 4,.int 2]]) (.int (cell % 4))=some (.lst (o.map fun k:Nat=>.int (k:Int)))->qG [yL T fw fh e due done Ws a b c ps,.int cell]=some (false,.str (xH (.lst (vis Ws a b c ps due done k))).shown):=fun o nd l6 lt all ix=>by
  obtain ⟨σ',e1,x,rfl⟩:=key o nd l6 lt all
  have f:=fin o all x
  unfold qc at e1
  simp only [List.map_nil] at e1
  rw [Mc]
  unfold Yg
  generalize (o.map fun k:Nat=>D.int (k:Int))=L at ix e1
  generalize (o.map fun k:Nat=>(.inl (k:Int):Sum Int Str))=ks at e1 f
  generalize (o.map fun i:Nat=>(vis Ws a b c ps due done k).getD i .non)=vs at e1 f
  generalize yL T fw fh e due done Ws a b c ps=dm at *
  generalize vis Ws a b c ps due done k=VV at *
  simp! [ix,e1,f,r6,rp]
 have q:cell % 4=0\/cell % 4=1\/cell % 4=2\/cell % 4=3:=by omega
 rcases q with h | h | h | h
 ·exact go [0,1,2,3,4,5] (by decide) rfl (by decide) (by decide) (by rw [h]; rfl)
 ·exact go [5,4,3,2,1,0] (by decide) rfl (by decide) (by decide) (by rw [h]; rfl)
 ·exact go [2,4,0,5,1,3] (by decide) rfl (by decide) (by decide) (by rw [h]; rfl)
 ·exact go [3,1,5,0,4,2] (by decide) rfl (by decide) (by decide) (by rw [h]; rfl)
noncomputable abbrev TH:List (Sum Int Str):=[.inr "words",.inr "marks",.inr "bytes",.inr "at",.inr "many"]
noncomputable def sM (Ws:List Int) (a b c:Bool) (hk:List (Sum Int Str)) (hv:List D) (n m:Int):M:=.tab TH [.own (.lst (wI Ws)),.own (.lst [.bl a,.bl b,.bl c]),.own (.dic hk hv),.fz (.int n),.fz (.int m)]
noncomputable def u4 (Ws:List Int) (a b c:Bool) (hk:List (Sum Int Str)) (hv:List D) (n m:Int):D:=.dic TH [.lst (wI Ws),.lst [.bl a,.bl b,.bl c],.dic hk hv,.int n,.int m]
theorem QR {k:Bool} (P:vw ps) (hl:ps.length<64) (hw:∀ w∈Ws,0<=w/\w<4294967296) (hn:Ws.length<=100) (d0:0<=due) (d1:due<1000000) (s0:0<=done) (s1:done<1000000) :
  pH [u4 Ws a b c (kP ps) (vP ps) due done,.bl k]=some (false,.str (xH (.lst (vis Ws a b c ps due done k))).shown):=by
 have rp:=IT (a:=a) (b:=b) (c:=c) (k:=k) P hl hw hn d0 d1 s0 s1
 have ka:(kP ps).all qf=true:=List.all_eq_true.mpr fun x hx=>by
  obtain ⟨p,_,rfl⟩:=List.mem_map.mp hx
  rfl
 have e0:VF [.dic (kP ps) (vP ps)]=some (.lst (wI (ps.map (·.1)))):=by
  show (if (kP ps).length<=1000/\(kP ps).all qf=true then some (D.lst ((kP ps).map keyOf)) else none)=_
  rw [if_pos ⟨by unfold kP; rw [List.length_map]; omega,ka⟩]
  unfold kP wI
  rw [List.map_map,List.map_map]
  rfl
 have e1:VJ [.lst (wI (ps.map (·.1)))]=some (.lst (wI (memK ps))):=by
  have io:∀ ns:List Int,intsOf (wI ns)=some ns:=fun ns=>by
   induction ns with
   | nil=>rfl
   | cons n ns ih=>
    show (intsOf (wI ns)).bind _=_
    rw [ih]
    rfl
  show (intsOf (wI (ps.map (·.1)))).bind _=_
  rw [io]
  show (if (ps.map (·.1)).length<64 then _ else _)=_
  rw [if_pos (by rw [List.length_map]; exact hl)]
  rfl
 have ib:zG (u4 Ws a b c (kP ps) (vP ps) due done) (.str "bytes")=some (.dic (kP ps) (vP ps)):=rfl
 have iw:zG (u4 Ws a b c (kP ps) (vP ps) due done) (.str "words")=some (.lst (wI Ws)):=rfl
 have im:zG (u4 Ws a b c (kP ps) (vP ps) due done) (.str "marks")=some (.lst [.bl a,.bl b,.bl c]):=rfl
 have ia:zG (u4 Ws a b c (kP ps) (vP ps) due done) (.str "at")=some (.int due):=rfl
 have iy:zG (u4 Ws a b c (kP ps) (vP ps) due done) (.str "many")=some (.int done):=rfl
 have ft:jn [.lst [.bl a,.bl b,.bl c]]=some (.tup [.bl a,.bl b,.bl c]):=rfl
 have e2:xU (yH 3) T1 Ux [some (false,u4 Ws a b c (kP ps) (vP ps) due done),some (false,.bl k),none,none] (wI (memK ps))=some (vR ps):=by
  unfold vR
  refine JC (fun a=>decide (wN ps a≠0)) (fun a=>.tup [.int a,.int (wN ps a)]) fun n hn=>?_
  have ix:=J3 (Vp hn)
  have v0:=(Ut (a:=n) P.by_).1
  have ed:decide (0<wN ps n)=decide (wN ps n≠0):=by
   by_cases z:wN ps n=0
   ·rw [z]; rfl
   ·rw [decide_eq_true z,decide_eq_true (by omega)]
  refine ⟨_,rfl,?_,fun _=>?_⟩
  ·unfold T1
   simp! [ib,ix,ed]
  ·unfold Ux
   simp! [ib,ix]
 rw [Mb]
 unfold Yf
 unfold vis at rp ⊢
 generalize u4 Ws a b c (kP ps) (vP ps) due done=dm at *
 simp! [ib,e0,e1,e2,iw,im,ia,iy,ft,rp]
end
end L3
namespace L3
open PySem
theorem Iy {x:Int} {n:Nat} (h0:0<=x) (h1:x<4294967296) (hn:n<=64):uc x (n:Int)=true:=by
 unfold uc
 rw [decide_eq_true (by omega),decide_eq_true (by omega),decide_eq_true (show x.natAbs<2 ^ 64 by omega)]
 rfl
theorem U5 {x:Int} {l w:Nat} (hw:w<=64):xG [.int x,.int (l:Int),.int (w:Int)]=some (false,.int (x / 2 ^ l % 2 ^ w)):=by
 have h1:uc 1 (w:Int)=true:=Iy (by decide) (by decide) hw
 have h2:uS (.int 1) (.int (w:Int))=some (.int (2 ^ w)):=by
  show (match uc 1 (w:Int) with | true=>some (D.int (1*2 ^ ((w:Int)).toNat)) | false=>none)=_
  rw [h1]
  show some (D.int (1*2 ^ ((w:Int)).toNat))=_
  rw [Int.toNat_natCast,Int.one_mul]
 have h3:kB (.int x) (.int (l:Int))=some (.int (x / 2 ^ l)):=by
  show (match decide ((0:Int)<=(l:Int)) with | true=>some (D.int (x / 2 ^ ((l:Int)).toNat)) | false=>none)=_
  rw [decide_eq_true (Int.natCast_nonneg l)]
  show some (D.int (x / 2 ^ ((l:Int)).toNat))=_
  rw [Int.toNat_natCast]
 have e:=Jd (x / 2 ^ l) w
 rw [Int.one_mul] at e
 rw [Mp]
 unfold Yp
 simp only [zZ,zj,yU,z_,e1,e2,z6,eC,Option.bind_some,List.map_cons,List.map_nil,List.cons_append,List.nil_append,List.length_cons,List.length_nil,List.replicate_succ,List.replicate_zero,List.set_cons_succ,List.set_cons_zero,List.getElem?_cons_succ,List.getElem?_cons_zero,h2,h3,uT,u8,Nat.reduceAdd,Nat.reduceSub,Int.reduceSub,e]
end L3
namespace L3
open PySem
noncomputable def UP:FA:=(vM (eC (.int 0)) (z6 0))
noncomputable def Ve:FS:=(yU 1 (e2 u9 (eC (.int 2)) (z6 1)))
noncomputable def Yj:FS:=
 (zj (yU 1 (eC (.int 1)))
  (zj (t3 UP (yH 2)
   Ve)
  (z_ (z6 1))))
noncomputable def jU:List D->Option (Bool×D):=FR 1 3 Yj
theorem Ge:∀ ds r,jU ds=some r->ds.length=1/\zZ 3 Yj ds=some r:=yD
theorem Mg (x0:D):jU [x0]=zZ 3 Yj [x0]:=rfl
noncomputable def gm:FS:=
 (zj (yU 3 (zi jU (z8 (z6 2) zF)))
  (zj (xF (tE (e2 zo (z6 0) (eC (.str "left"))))
   (z_ (xX (z8 (e2 yf (e2 uR (z6 1) (z6 3)) (eC (.int 4294967296))) (z8 (e2 zo (e2 yf (e2 uo (e2 uR (z6 1) (z6 3)) (eC (.int 4294967296))) (eC (.int 2))) (eC (.int 1))) zF))))
   xq)
  (z_ (xX (z8 (e2 uo (z6 1) (z6 3)) (z8 (pZ (e2 (xT fun i j=>decide (j<i)) (z6 3) (eC (.int 1))) (e2 zo (e2 yf (e2 uo (z6 1) (e2 uo (z6 3) (eC (.int 2)))) (eC (.int 2))) (eC (.int 1)))) zF))))))
noncomputable def qH:List D->Option (Bool×D):=FR 3 4 gm
theorem Gf:∀ ds r,qH ds=some r->ds.length=3/\zZ 4 gm ds=some r:=yD
theorem Qo (x0 x1 x2:D):qH [x0,x1,x2]=zZ 4 gm [x0,x1,x2]:=rfl
noncomputable def Vc:FS:=(zj (yU 6 (e2 yf (e2 uo (z6 1) (z6 4)) (eC (.int 2))))
    (zj (yU 7 (e2 yf (e2 uo (z6 2) (z6 4)) (eC (.int 2))))
    (zj (yU 3 (e2 (u8 fun i j=>i+j) (z6 3) (e2 uR (z6 4) (e2 zG (X1 ["and", "or", "xor"] (z8 (e2 uR (z6 6) (z6 7)) (z8 (eL XC (z8 (z6 6) (z8 (z6 7) zF))) (z8 (e2 yf (e2 ym (z6 6) (z6 7)) (eC (.int 2))) zF)))) (z6 0)))))
    (yU 4 (e2 u9 (eC (.int 2)) (z6 4))))))
noncomputable def Ye:FS:=
 (zj (yU 3 (eC (.int 0)))
  (zj (yU 4 (eC (.int 1)))
  (zj (t3 (vM (eC (.int 0)) (eC (.int 32))) (yH 5)
   Vc)
  (z_ (z6 3)))))
noncomputable def pG:List D->Option (Bool×D):=FR 3 8 Ye
theorem GX:∀ ds r,pG ds=some r->ds.length=3/\zZ 8 Ye ds=some r:=yD
theorem Ma (x0 x1 x2:D):pG [x0,x1,x2]=zZ 8 Ye [x0,x1,x2]:=rfl
theorem Jn {n:Nat} (h:n<=63):jU [.int (n:Int)]=some (false,.int (2 ^ n)):=by
 have hr:UP [some (false,.int (n:Int)),some (false,.int 1),none]=some (yq n):=by
  unfold UP
  have:=j8 (f:=z6 0) (τ:=[some (false,.int (n:Int)),some (false,.int 1),none]) (n:=(n:Int)) rfl (by omega)
  rw [Int.toNat_natCast] at this
  exact this
 have l1:vi 2=true:=by decide
 obtain ⟨σ',e1,x,rfl⟩:=tP (g:=yH 2) (b:=Ve) (fun i σ=>∃ x:Option Sl,σ=[some (false,.int (n:Int)),some (false,.int (2 ^ i)),x]) (ds:=yq n) (σ:=[some (false,.int (n:Int)),some (false,.int 1),none]) 0 ⟨none,rfl⟩ fun i d σ hd hp=>by
  obtain ⟨x,rfl⟩:=hp
  rw [Nat.zero_add]
  refine ⟨_,[some (false,.int (n:Int)),some (false,.int (2 ^ (i+1))),some (false,d)],rfl,.inl ?_,_,rfl⟩
  unfold Ve
  have e:(2:Int) ^ (i+1)=2*2 ^ i:=by rw [Int.pow_succ,Int.mul_comm]
  rw [e]
  simp! [l1]
 have lu:(yq n).length=n:=by simp [yq]
 rw [Nat.zero_add,lu] at e1
 rw [Mg]
 unfold Yj
 simp! [hr,e1]
theorem Xk (n:Nat):(0:Int)<2 ^ n:=Int.pow_pos (by decide)
theorem Eh {n:Nat} (h:n<=31):xJ ((2:Int) ^ n)<=40:=by
 refine Wo ?_
 have e:((2:Int) ^ n).natAbs=2 ^ n:=by rw [Int.natAbs_pow]; rfl
 rw [e]
 exact Nat.pow_lt_pow_right (by decide) (by omega)
theorem Uw {x:Int} (h0:0<=x) (h1:x<4294967296):xJ x<=40:=by
 have e:(2:Nat) ^ 40=1099511627776:=by decide
 exact Wo (by omega)
theorem Bi {x:Int} {n:Nat} (h0:0<=x) (h1:x<4294967296) (hn:n<=31):qH [.str "left",.int x,.int (n:Int)]=some (false,.tup [.int (x*2 ^ n % 4294967296),.bl (decide (x*2 ^ n / 4294967296 % 2=1))]):=by
 have pf:=Jn (n:=n) (by omega)
 have m1:uR (.int x) (.int (2 ^ n))=some (.int (x*2 ^ n)):=by
  show (match decide (xJ x+xJ (2 ^ n)<=134217728) with | true=>some (D.int (x*2 ^ n)) | false=>none)=_
  rw [decide_eq_true (by have:=Uw h0 h1; have:=Eh hn; omega)]
 have q:zo (.str "left") (.str "left")=some (.bl true):=rfl
 rw [Qo]
 unfold gm
 generalize x*2 ^ n=y at m1
 simp! [pf,q,m1,eq_int,decide_true,Bool.and_self]
end L3
namespace L3
open PySem
theorem GA {x:Int} {n:Nat} (hn:n<=31):qH [.str "right",.int x,.int (n:Int)]=some (false,.tup [.int (x / 2 ^ n),.bl (decide (0<n)&&decide (x / 2 ^ (n - 1) % 2=1))]):=by
 have pf:=Jn (n:=n) (by omega)
 have q:zo (.str "right") (.str "left")=some (.bl false):=rfl
 have b64:(2:Int) ^ n<2 ^ 64:=by
  have:=Nat.pow_lt_pow_right (a:=2) (by decide) (show n<64 by omega)
  exact_mod_cast this
 have p0:=Xk n
 have d1:decide (0<(2:Int) ^ n)=true:=decide_eq_true p0
 have e64:(2:Int) ^ 64=18446744073709551616:=by decide
 rw [e64] at b64
 have d2:decide ((2:Int) ^ n<18446744073709551616)=true:=decide_eq_true b64
 rw [Qo]
 unfold gm
 cases n with
 | zero=>
  have z:decide ((1:Int)<2 ^ 0)=false:=by decide
  simp! [pf,q,d1,d2,Bool.and_self,z]
  rfl
 | succ m=>
  have e2:(2:Int) ^ (m+1) / 2=2 ^ m:=by rw [Int.pow_succ]; exact Int.mul_ediv_cancel _ (by decide)
  have z:decide ((1:Int)<2 ^ (m+1))=true:=decide_eq_true (by have:=Xk m; rw [Int.pow_succ]; omega)
  have q0:=Xk m
  have d3:decide (0<(2:Int) ^ m)=true:=decide_eq_true q0
  have d4:decide ((2:Int) ^ m<18446744073709551616)=true:=decide_eq_true (by
   have h:=of_decide_eq_true d2
   rw [Int.pow_succ] at h
   omega)
  have d5:(decide ((0:Int)<2)&&decide ((2:Int)<18446744073709551616))=true:=by decide
  generalize hP:(2:Int) ^ (m+1)=P at *
  generalize hR:(2:Int) ^ m=R at *
  have e3:P / 2=R:=e2
  have z0:decide (0<m+1)=true:=decide_eq_true (Nat.succ_pos m)
  simp! [pf,q,d1,d2,d3,d4,d5,Bool.and_self,z,e3,eq_int,decide_true,Nat.add_sub_cancel,hR,z0]
noncomputable def wQ (k:Str) (x y:Nat):Nat:=if k = "and" then x &&& y else if k = "or" then x ||| y else x ^^^ y
inductive ui:Str->Prop
 | and:ui "and" | or:ui "or" | xor:ui "xor"
theorem Wn (x i:Nat):x / 2 ^ i % 2=(x.testBit i).toNat:=by
 rw [Nat.testBit_eq_decide_div_mod_eq]
 have h:=Nat.mod_two_eq_zero_or_one (x / 2 ^ i)
 rcases h with h | h<;>rw [h]<;>rfl
theorem DH (z i:Nat):z % 2 ^ (i+1)=z % 2 ^ i+2 ^ i*(z / 2 ^ i % 2):=by
 rw [Nat.pow_succ,Nat.mod_mul]
theorem Li (k:Str) (h:ui k) (p q:Bool) (x0 x1 x2 x3 x4 x5:Option Sl):∃ v:Int,v=(match k with | _=>if k = "and" then ((p&&q).toNat:Int) else if k = "or" then ((p||q).toNat:Int) else ((p ^^ q).toNat:Int))/\e2 zG (X1 ["and", "or", "xor"] (z8 (e2 uR (z6 6) (z6 7)) (z8 (eL XC (z8 (z6 6) (z8 (z6 7) zF))) (z8 (e2 yf (e2 ym (z6 6) (z6 7)) (eC (.int 2))) zF)))) (z6 0) [some (false,.str k),x1,x2,x3,x4,x5,some (false,.int (p.toNat:Int)),some (false,.int (q.toNat:Int))]=some (.int v):=by
 cases h<;>cases p<;>cases q<;>exact ⟨_,rfl,rfl⟩
theorem Oy {k:Str} (h:ui k) (x y i:Nat):((wQ k x y).testBit i).toNat=(if k = "and" then (x.testBit i&&y.testBit i).toNat else if k = "or" then (x.testBit i||y.testBit i).toNat else (x.testBit i ^^ y.testBit i).toNat):=by
 unfold wQ
 cases h with
 | and=>rw [if_pos rfl,if_pos rfl,Nat.testBit_and]
 | or=>rw [if_neg (by decide +kernel),if_pos rfl,if_neg (by decide +kernel),if_pos rfl,Nat.testBit_or]
 | xor=>rw [if_neg (by decide +kernel),if_neg (by decide +kernel),if_neg (by decide +kernel),if_neg (by decide +kernel),Nat.testBit_xor]
theorem Tq {k:Str} (h:ui k) {x y:Nat} (hx:x<4294967296) (hy:y<4294967296):wQ k x y<4294967296:=by
 have e:(4294967296:Nat)=2 ^ 32:=by decide
 rw [e] at hx hy ⊢
 unfold wQ
 split
 ·exact Nat.and_lt_two_pow _ hy
 ·split
  ·exact Nat.or_lt_two_pow hx hy
  ·exact Nat.xor_lt_two_pow hx hy
theorem Oz {k:Str} (h:ui k) {x y:Nat} (hx:x<4294967296) (hy:y<4294967296):pG [.str k,.int (x:Int),.int (y:Int)]=some (false,.int (wQ k x y:Int)):=by
 have r32:∀ τ:zf,vM (eC (.int 0)) (eC (.int 32)) τ=some (yq 32):=fun τ=>j8 (n:=32) rfl (by decide)
 have l1:vi 2=true:=by decide
 obtain ⟨σ',e1,x5,x6,x7,rfl⟩:=tP (g:=yH 5) (b:=Vc) (fun i σ=>∃ x5 x6 x7:Option Sl,σ=[some (false,.str k),some (false,.int (x:Int)),some (false,.int (y:Int)),some (false,.int ((wQ k x y % 2 ^ i:Nat):Int)),some (false,.int ((2 ^ i:Nat):Int)),x5,x6,x7])
  (ds:=yq 32) (σ:=[some (false,.str k),some (false,.int (x:Int)),some (false,.int (y:Int)),some (false,.int 0),some (false,.int 1),none,none,none]) 0 ⟨none,none,none,by rw [Nat.pow_zero,Nat.mod_one]; rfl⟩ fun i d σ hd hp=>by
   obtain ⟨x5,x6,x7,rfl⟩:=hp
   rw [Nat.zero_add]
   have hi:i<32:=by
    have:=(List.getElem?_eq_some_iff.mp hd).1
    rw [List.length_map,List.length_range] at this
    exact this
   have p0:0<2 ^ i:=Nat.pow_pos (by decide)
   have p1:2 ^ i<4294967296:=by
    have:=Nat.pow_lt_pow_right (a:=2) (by decide) hi
    exact this
   have c1:decide ((0:Int)<((2 ^ i:Nat):Int))=true:=decide_eq_true (Int.ofNat_lt.mpr p0)
   have p2:((2 ^ i:Nat):Int)<4294967296:=Int.ofNat_lt.mpr p1
   have c2:decide (((2 ^ i:Nat):Int)<18446744073709551616)=true:=decide_eq_true (by omega)
   have hx2:(x:Int) / ((2 ^ i:Nat):Int) % 2=((x.testBit i).toNat:Int):=by
    rw [<- Wn]
    push_cast
    rfl
   have hy2:(y:Int) / ((2 ^ i:Nat):Int) % 2=((y.testBit i).toNat:Int):=by
    rw [<- Wn]
    push_cast
    rfl
   obtain ⟨v,ev,dv⟩:=Li k h (x.testBit i) (y.testBit i) none (some (false,.int (x:Int))) (some (false,.int (y:Int))) (some (false,.int ((wQ k x y % 2 ^ i:Nat):Int))) (some (false,.int ((2 ^ i:Nat):Int))) (some (false,d))
   have ev2:v=(((wQ k x y).testBit i).toNat:Int):=by
    rw [ev,Oy h]
    cases h<;>rfl
   have vb:0<=v/\v<=1:=by
    rw [ev2]
    cases (wQ k x y).testBit i<;>exact ⟨by decide,by decide⟩
   have mb:uR (.int ((2 ^ i:Nat):Int)) (.int v)=some (.int (((2 ^ i:Nat):Int)*v)):=by
    show (match decide (xJ ((2 ^ i:Nat):Int)+xJ v<=134217728) with | true=>some (D.int (((2 ^ i:Nat):Int)*v)) | false=>none)=_
    rw [decide_eq_true (by have:=Uw (x:=((2 ^ i:Nat):Int)) (by omega) p2; have:=Uw (x:=v) vb.1 (by omega); omega)]
   have nx1:((wQ k x y % 2 ^ (i+1):Nat):Int)=((wQ k x y % 2 ^ i:Nat):Int)+((2 ^ i:Nat):Int)*v:=by
    rw [DH,Wn,ev2]
    push_cast
    rfl
   have nx2:((2 ^ (i+1):Nat):Int)=2*((2 ^ i:Nat):Int):=by
    rw [Nat.pow_succ]
    push_cast
    exact Int.mul_comm _ _
   refine ⟨_,[some (false,.str k),some (false,.int (x:Int)),some (false,.int (y:Int)),some (false,.int ((wQ k x y % 2 ^ (i+1):Nat):Int)),some (false,.int ((2 ^ (i+1):Nat):Int)),some (false,d),some (false,.int ((x.testBit i).toNat:Int)),some (false,.int ((y.testBit i).toNat:Int))],rfl,.inl ?_,_,_,_,rfl⟩
   rw [nx1,nx2]
   unfold Vc
   generalize e2 zG (X1 ["and", "or", "xor"] (z8 (e2 uR (z6 6) (z6 7)) (z8 (eL XC (z8 (z6 6) (z8 (z6 7) zF))) (z8 (e2 yf (e2 ym (z6 6) (z6 7)) (eC (.int 2))) zF)))) (z6 0)=DD at dv
   generalize ((2 ^ i:Nat):Int)=W at *
   simp! [c1,c2,Bool.and_self,hx2,hy2,dv,mb,l1,decide_true]
 have lu:(yq 32).length=32:=by rw [List.length_map,List.length_range]
 rw [Nat.zero_add,lu,Nat.mod_eq_of_lt (show wQ k x y<2 ^ 32 from Tq h hx hy)] at e1
 rw [Ma]
 unfold Ye
 simp! [r32,e1]
end L3
namespace L3
open PySem
theorem Vt (z:Nat):z % 2=(z.testBit 0).toNat:=by
 rw [Nat.testBit_zero]
 rcases Nat.mod_two_eq_zero_or_one z with h | h<;>rw [h]<;>rfl
theorem JZ:∀ (n x y:Nat),x<=n->(x ||| y)=(x ^^^ y)+(x &&& y)
 | 0,x,y,h=>by
  have:x=0:=by omega
  subst this
  simp
 | n+1,x,y,h=>by
  by_cases z:x=0
  ·subst z
   simp
  ·have ih:=JZ n (x / 2) (y / 2) (by omega)
   have a1:(x ||| y) / 2=x / 2 ||| y / 2:=Nat.or_div_two
   have a2:(x ^^^ y) / 2=x / 2 ^^^ y / 2:=Nat.xor_div_two
   have a3:(x &&& y) / 2=x / 2 &&& y / 2:=Nat.and_div_two
   have b1:=Vt (x ||| y)
   have b2:=Vt (x ^^^ y)
   have b3:=Vt (x &&& y)
   rw [Nat.testBit_or] at b1
   rw [Nat.testBit_xor] at b2
   rw [Nat.testBit_and] at b3
   have c:((x.testBit 0||y.testBit 0).toNat:Nat)=(x.testBit 0 ^^ y.testBit 0).toNat+(x.testBit 0&&y.testBit 0).toNat:=by
    cases x.testBit 0<;>cases y.testBit 0<;>rfl
   rw [<- a1,<- a2,<- a3] at ih
   omega
theorem LA (x y:Nat):Builtin.bitXor (x:Int) (y:Int)=((x ^^^ y:Nat):Int):=by
 show Builtin.bitOr (x:Int) (y:Int) - Builtin.bitAnd (x:Int) (y:Int)=_
 rw [Q1,Tl,JZ x x y (Nat.le_refl _)]
 push_cast
 omega
theorem BH {k:Str} (h:ui k) {x y:Nat}:pF [.str k,.int (x:Int),.int (y:Int)]=some (false,.int (wQ k x y:Int)):=by
 have q1:zo (.str "and") (.str "and")=some (.bl true):=rfl
 have q2:zo (.str "or") (.str "and")=some (.bl false):=rfl
 have q3:zo (.str "or") (.str "or")=some (.bl true):=rfl
 have q4:zo (.str "xor") (.str "and")=some (.bl false):=rfl
 have q5:zo (.str "xor") (.str "or")=some (.bl false):=rfl
 rw [MX]
 unfold Yc wQ
 cases h with
 | and=>
  rw [if_pos rfl,<- Tl]
  simp! [q1]
 | or=>
  rw [if_neg (by decide +kernel),if_pos rfl,<- Q1]
  simp! [q2,q3]
 | xor=>
  rw [if_neg (by decide +kernel),if_neg (by decide +kernel)]
  simp! [q4,q5,LA]
end L3
namespace L3
open PySem
noncomputable def qS:FS:=
 (zj (yU 4 (eL VD (z8 (pZ (z6 3) (e2 xg (z6 0) (xf (z8 (eC (.str "addc")) (z8 (eC (.str "subc")) zF))))) zF)))
  (zj (yU 5 (e2 uT (e2 uT (z6 1) (z6 2)) (z6 4)))
  (zj (xF (tE (e2 xg (z6 0) (xf (z8 (eC (.str "add")) (z8 (eC (.str "addc")) zF)))))
   (yU 5 (e2 ym (e2 ym (z6 1) (z6 2)) (z6 4)))
   xq)
  (z_ (xX (z8 (e2 yf (z6 5) (eC (.int 4294967296))) (z8 (X2 (um (xT fun i j=>decide (i<=j)) (xT fun i j=>decide (i<j)) (eC (.int 0)) (z6 5) (eC (.int 4294967296)))) zF)))))))
noncomputable def pI:List D->Option (Bool×D):=FR 4 6 qS
theorem Gg:∀ ds r,pI ds=some r->ds.length=4/\zZ 6 qS ds=some r:=yD
theorem kE (x0 x1 x2 x3:D):pI [x0,x1,x2,x3]=zZ 6 qS [x0,x1,x2,x3]:=rfl
noncomputable def gl:zu:=
 (yI (wl 2 (wx (e2 zG (e2 zG (z6 1) (eC (.str "words"))) (e2 zG (z6 0) (eC (.int 1))))))
  (yI (uY (ug (tE (e2 xg (e2 zG (z6 0) (eC (.int 0))) (xf (z8 (eC (.str "left")) (z8 (eC (.str "right")) zF))))))
   (yI (Vl (yX (zi qH (z8 (e2 zG (z6 0) (eC (.int 0))) (z8 (z6 2) (z8 (e2 zG (z6 0) (eC (.int 2))) zF))))) (pz 3 4))
    (uY (ug (tE (e2 (xT fun i j=>decide (j<i)) (e2 zG (z6 0) (eC (.int 2))) (eC (.int 0)))))
     (vO 1 [.ky (.inr "marks")] (eC (.int 0)) (yX (z6 4)))
     tQ))
   (uY (ug (tE (e2 xg (e2 zG (z6 0) (eC (.int 0))) (xf (z8 (eC (.str "and")) (z8 (eC (.str "or")) (z8 (eC (.str "xor")) zF)))))))
     (wl 3 (wx (zi pG (z8 (e2 zG (z6 0) (eC (.int 0))) (z8 (z6 2) (z8 (e2 zG (e2 zG (z6 1) (eC (.str "words"))) (e2 zG (z6 0) (eC (.int 2)))) zF))))))
     (Vn 3 1 [.ky (.inr "marks")] (eC (.int 0)) (wx (zi pI (z8 (e2 zG (z6 0) (eC (.int 0))) (z8 (z6 2) (z8 (e2 zG (e2 zG (z6 1) (eC (.str "words"))) (e2 zG (z6 0) (eC (.int 2)))) (z8 (e2 zG (e2 zG (z6 1) (eC (.str "marks"))) (eC (.int 0))) zF)))))))))
  (yI (vO 1 [.ky (.inr "marks")] (eC (.int 1)) (yX (e2 zo (z6 3) (eC (.int 0)))))
  (yI (vO 1 [.ky (.inr "marks")] (eC (.int 2)) (yX (e2 (xT fun i j=>decide (j<=i)) (z6 3) (eC (.int 2147483648)))))
  (uY (ug (tE (e2 vA (e2 zG (z6 0) (eC (.int 0))) (eC (.str "test")))))
   (vO 1 [.ky (.inr "words")] (e2 zG (z6 0) (eC (.int 1))) (yX (z6 3)))
   tQ)))))
noncomputable def tD:FM:=xR 2 5 gl
theorem VP (x0 x1:M):tD [x0,x1]=wA 2 5 gl [x0,x1]:=rfl
noncomputable def Vb:zu:=(qd 2 [] (z6 3) (yX (z6 4)))
noncomputable def Wi:zu:=
 (yI (wl 2 (qU (eC (.dic [] []))))
  (yI (kL (wj (z6 1)) (pz 3 4)
   Vb)
  (p_ (Wt ["words", "marks", "bytes", "at", "many"] (pX (qU (eL v4 (z8 (z6 0) zF))) (pX (qU (xf (z8 (eC (.bl false)) (z8 (eC (.bl false)) (z8 (eC (.bl false)) zF))))) (pX (Yx 2) (pX (yX (eC (.int 0))) (pX (yX (eC (.int 0))) W_)))))))))
noncomputable def gW:FM:=xR 2 5 Wi
theorem MZ (x0 x1:M):gW [x0,x1]=wA 2 5 Wi [x0,x1]:=rfl
noncomputable def Wk:zu:=
 (yI (vC (wy tD (w6 (z6 0) (ww 1 [] xj))))
  (yI (kM 1 [] "at" (eC (.int 1)))
  (kM 1 [] "many" (eC (.int 1)))))
noncomputable def gX:FM:=xR 2 2 Wk
theorem Mh (x0 x1:M):gX [x0,x1]=wA 2 2 Wk [x0,x1]:=rfl
noncomputable def kl:FA:=(vM (eC (.int 0)) (eL ph (z8 (z6 1) zF)))
noncomputable def Vd:zu:=(yI (uY (Uq (ug (tE (e2 vA (zi qG (z8 (z6 4) (z8 (e2 ym (zi vq (z8 (z6 0) (z8 (eC (.int 2)) zF))) (z6 6)) zF))) (zi pH (z8 (z6 5) (z8 (eC (.bl false)) zF)))))) (Ur (gu XD (pW "RowMachine" "step" 4 [] uj xj) (yX (eC (.bl true))))))
     (p_ (yX (eC (.bl false))))
     tQ)
    (vC (wy gX (w6 (e2 zG (z6 1) (z6 6)) (ww 5 [] xj)))))
noncomputable def Wj:zu:=
 (yI (wl 2 (yX (wz jW (z8 (zi vq (z8 (z6 0) (z8 (eC (.int 0)) zF))) zF))))
  (yI (wl 3 (yX (wz jS (z8 (zi vq (z8 (z6 0) (z8 (eC (.int 1)) zF))) zF))))
  (yI (wl 4 (Yy "RowMachine" jJ (w6 (eL v4 (z8 (z6 1) zF)) (w6 (eL v4 (z8 (z6 2) zF)) (w6 (eL v4 (z8 (z6 3) zF)) xj)))))
  (yI (wl 5 (wy gW (w6 (z6 2) (w6 (z6 3) xj))))
  (yI (kL kl (XT 6)
   Vd)
  (yI (wl 7 (yX (e2 uo (zi vq (z8 (z6 0) (z8 (eC (.int 2)) zF))) (eC (.int 4)))))
  (p_ (Wr (wx (e2 zo (zi qG (z8 (z6 4) (z8 (z6 7) zF))) (zi pH (z8 (z6 5) (z8 (eC (.bl true)) zF))))) (gu XA (pW "RowMachine" "step" 4 [] uj xj) (yX (eC (.bl false))))))))))))
noncomputable def jT:FM:=xR 2 8 Wj
theorem Mf (x0 x1:M):jT [x0,x1]=wA 2 8 Wj [x0,x1]:=rfl
section
variable {Ws Ws':List Int} {a b c:Bool} {hk:List (Sum Int Str)} {hv:List D} {n m:Int} {x y z:D} {p q r r':Bool}
theorem Y5:xO (sM Ws a b c hk hv n m)=u4 Ws a b c hk hv n m:=by simp only [sM,u4,xO,thaws]
theorem TQ {i:Nat} {π:List yR}:pU (sM Ws a b c hk hv n m) i π=.p i π:=rfl
theorem Wa:vI (sM Ws a b c hk hv n m) [.ky (.inr "words")]=some (.own (.lst (wI Ws))):=rfl
theorem WZ:vI (sM Ws a b c hk hv n m) [.ky (.inr "marks")]=some (.own (.lst [.bl a,.bl b,.bl c])):=rfl
theorem UH:vE (sM Ws a b c hk hv n m) [.ky (.inr "words")] (.own (.lst (wI Ws')))=some (sM Ws' a b c hk hv n m):=rfl
theorem UG:vE (sM Ws a b c hk hv n m) [.ky (.inr "marks")] (.own (.lst [.bl p,.bl q,.bl r]))=some (sM Ws p q r hk hv n m):=rfl
theorem V1:zG (u4 Ws a b c hk hv n m) (.str "words")=some (.lst (wI Ws)):=rfl
theorem V0:zG (u4 Ws a b c hk hv n m) (.str "marks")=some (.lst [.bl a,.bl b,.bl c]):=rfl
theorem m0:zG (.lst [.bl a,.bl b,.bl c]) (.int 0)=some (.bl a):=rfl
theorem Vv:L2.ixN 3 0=some 0:=rfl
theorem Vw:L2.ixN 3 1=some 1:=rfl
theorem Vx:L2.ixN 3 2=some 2:=rfl
theorem Oj {e:Option M} {zc:zg}:kM 1 [] "at" (eC (.int 1)) (e::some (sM Ws a b c hk hv n m)::zc)=some (.nx (e::some (sM Ws a b c hk hv (n+1) m)::zc)):=rfl
theorem Ol {e:Option M} {zc:zg}:kM 1 [] "many" (eC (.int 1)) (e::some (sM Ws a b c hk hv n m)::zc)=some (.nx (e::some (sM Ws a b c hk hv n (m+1))::zc)):=rfl
theorem gD {w:Int}:xG [.int w,.int 31,.int 1]=some (false,.int (w / 2147483648 % 2)):=by
 have e:=Jd (w / 2 ^ 31) 1
 have e0:xG [.int w,.int 31,.int 1]=some (false,.int (Builtin.bitAnd (w / 2 ^ 31) (1*2 ^ 1 - 1))):=rfl
 rw [e0,e]
 rfl
theorem Kk {r:D} {hk':List (Sum Int Str)} {hv':List D} (h:∀ n m,tD [.fz r,sM Ws a b c hk hv n m]=some ([.fz r,sM Ws' p q r' hk' hv' n m],.fz .non)):gX [.fz r,sM Ws a b c hk hv n m]=some ([.fz r,sM Ws' p q r' hk' hv' (n+1) (m+1)],.fz .non):=by
 rw [Mh]
 unfold Wk
 simp! [xh,TQ,h,Oj,Ol]
theorem Ow {ps:List (Int×Int)} (P:vw ps) (hl:ps.length<=1000):gW [.fz (.lst (wI Ws)),.fz (.lst (ps.map pD))]=some ([.fz (.lst (wI Ws)),.fz (.lst (ps.map pD))],sM Ws false false false (kP ps) (vP ps) 0 0):=by
 obtain ⟨β',e1,x,y,rfl⟩:=Vk (g:=pz 3 4) (b:=Vb) (fun i β=>∃ x y:Option M,β=[some (.fz (.lst (wI Ws))),some (.fz (.lst (ps.map pD))),some (.own (.dic (kP (ps.take i)) (vP (ps.take i)))),x,y])
  (ds:=ps.map pD) (β:=[some (.fz (.lst (wI Ws))),some (.fz (.lst (ps.map pD))),some (.own (.dic [] [])),none,none]) 0 ⟨none,none,rfl⟩ fun i d β hd hp=>by
   obtain ⟨x,y,rfl⟩:=hp
   rw [Nat.zero_add]
   have hi:i<ps.length:=by have:=(List.getElem?_eq_some_iff.mp hd).1; rw [List.length_map] at this; exact this
   rw [List.getElem?_map,List.getElem?_eq_getElem hi] at hd
   cases hd
   generalize hp:ps[i]=p
   have et:ps.take (i+1)=ps.take i++[p]:=by rw [List.take_succ_eq_append_getElem hi,hp]
   have nin:p.1 ∉ (ps.take i).map (·.1):=by
    have nd:=P.nd
    have e2:ps.map (·.1)=(ps.take i).map (·.1)++p.1::(ps.drop (i+1)).map (·.1):=by
     rw [<- hp,<- List.map_cons,<- List.drop_eq_getElem_cons hi,<- List.map_append,List.take_append_drop]
    rw [e2,List.nodup_append] at nd
    intro z
    exact nd.2.2 _ z _ List.mem_cons_self rfl
   obtain ⟨q1,q2⟩:=IA (b:=p.2) nin
   have ll:decide ((kP (ps.take i)).length<yP)=true:=decide_eq_true (by unfold kP; rw [List.length_map,List.length_take]; show _<16777216; omega)
   refine ⟨_,[some (.fz (.lst (wI Ws))),some (.fz (.lst (ps.map pD))),some (.own (.dic (kP (ps.take (i+1))) (vP (ps.take (i+1))))),some (.fz (.int p.1)),some (.fz (.int p.2))],rfl,?_,_,_,rfl⟩
   rw [et,<- q1,<- q2]
   unfold Vb
   have ky:wZ (.int p.1)=some (.inl p.1):=rfl
   simp! [xh,ky,ll]
 rw [Nat.zero_add,List.length_map,List.take_length] at e1
 have fl:v4 [.lst (wI Ws)]=some (.lst (wI Ws)):=rfl
 rw [MZ]
 unfold Wi
 simp! [xh,e1,fl]
 rfl
theorem DS {x:Str}:vA (.str x) (.str x)=some (.bl false):=by
 show some (D.bl (!(x == x)))=_
 rw [beq_self_eq_true]
 rfl
theorem Lq {x:Str}:zo (.str x) (.str x)=some (.bl true):=by
 show some (D.bl (x == x))=_
 rw [beq_self_eq_true]
theorem Q9 {T fw fh:D} {e due done:Int} {s:M} {x0 x1 x2 x3 x5 x6 x7:Option M}:pW "RowMachine" "step" 4 [] uj xj [x0,x1,x2,x3,some (xm T e fw fh s due done),x5,x6,x7]=pV uj [.p 4 []] [x0,x1,x2,x3,some (xm T e fw fh s due done),x5,x6,x7]:=rfl
noncomputable def TC (RK:D->Prop):Prop:=∀ (r:D) (Ws:List Int) (a b c:Bool) (ps:List (Int×Int)),RK r->Ws.length=8->(∀ w∈Ws,0<=w/\w<4294967296)->vw ps->ps.length<=800->∃ (Ws':List Int) (a' b' c':Bool) (ps':List (Int×Int)),Ws'.length=8/\(∀ w∈Ws',0<=w/\w<4294967296)/\vw ps'/\ps'.length<=ps.length+4/\
  pC [st (wI Ws) a b c (kP ps) (vP ps),.fz r]=some ([st (wI Ws') a' b' c' (kP ps') (vP ps'),.fz r],.fz .non)/\(∀ n m,tD [.fz r,sM Ws a b c (kP ps) (vP ps) n m]=some ([.fz r,sM Ws' a' b' c' (kP ps') (vP ps') n m],.fz .non))/\
  pJ [u5 (wI Ws') a' b' c' (kP ps') (vP ps'),r]=some (false,.bl false)/\zo r (.tup [.str "stop"])=some (.bl false)/\wM r=true
theorem EL {RK:D->Prop} {ns:List Int} {rows:List D} (pln:∀ r,RK r->pS r) (one:TC RK) (hr:∀ r∈rows,RK r) (h8:rows.length<=8):∃ r,jT [.fz (.lst (ns.map D.int)),.fz (.lst rows)]=some (r,.fz (.bl true)):=by
 obtain ⟨W0,e1,l0,w0⟩:=Nn (vK ns 0)
 obtain ⟨ps,e2,P,lp⟩:=Cc (vK ns 1)
 have c0:=gv ns (k:=0) (by decide)
 have c1:=gv ns (k:=1) (by decide)
 have c2:=gv ns (k:=2) (by decide)
 have ri:=GB (fun r h=>pln r (hr r h)) (by omega) l0 w0 P (by omega)
 have be:=Ow (Ws:=W0) P (by omega)
 have fl1:v4 [.lst rows]=some (.lst rows):=rfl
 have fl2:v4 [.lst (wI W0)]=some (.lst (wI W0)):=rfl
 have fl3:v4 [.lst (ps.map pD)]=some (.lst (ps.map pD)):=rfl
 generalize hT:D.dic (wL rows.length) (uM rows rows.length)=T at ri
 generalize hfw:D.lst (wI W0)=fw at ri
 generalize hfh:D.dic (kP ps) (vP ps)=fh at ri
 have hrg:∀ {x2 x3 x4 x5 x6 x7:Option M},kl (uC [some (.fz (.lst (ns.map D.int))),some (.fz (.lst rows)),x2,x3,x4,x5,x6,x7])=some (yq rows.length):=fun {x2 x3 x4 x5 x6 x7}=>by
  unfold kl
  have:=j8 (f:=eL ph (z8 (z6 1) zF)) (τ:=uC [some (.fz (.lst (ns.map D.int))),some (.fz (.lst rows)),x2,x3,x4,x5,x6,x7]) (n:=(rows.length:Int)) rfl (by omega)
  rw [Int.toNat_natCast] at this
  exact this
 have stnd:∀ (i:Nat) (Ws:List Int) (a b c:Bool) (qs:List (Int×Int)),i<rows.length->wf [yL T fw fh rows.length i i Ws a b c qs]=some (false,.bl false):=fun i Ws a b c qs hi=>by
  obtain ⟨_,_,_,_,_,_,_,_,_,_,_,_,hs,_⟩:=one _ W0 false false false ps (hr _ (List.getElem_mem hi)) l0 w0 P (by omega)
  rcases Xw (T:=T) (fw:=fw) (fh:=fh) (sd:=u5 (wI Ws) a b c (kP qs) (vP qs)) (row:=rows[i]) (nx:=.int ((i:Int)+1)) (tg:=.non) (e:=rows.length) (due:=i) (done:=i) (k:=false) fun _=>⟨by rw [<- hT]; exact OA hi,hs⟩ with z | ⟨z,_⟩
  ·unfold yL
   rw [z,decide_eq_false (by omega)]
   rfl
  ·omega
 obtain ⟨β',e3,Ws,a,b,c,qs,x6,lw,hw,Q,lq,rfl⟩:=Vk (g:=XT 6) (b:=Vd) (fun i β=>∃ (Ws:List Int) (a b c:Bool) (qs:List (Int×Int)) (x6:Option M),Ws.length=8/\(∀ w∈Ws,0<=w/\w<4294967296)/\vw qs/\qs.length<=6+4*i/\β=[some (.fz (.lst (ns.map D.int))),some (.fz (.lst rows)),some (.fz (.lst (wI W0))),some (.fz (.lst (ps.map pD))),some (xm T rows.length fw fh (st (wI Ws) a b c (kP qs) (vP qs)) (i:Int) (i:Int)),some (sM Ws a b c (kP qs) (vP qs) (i:Int) (i:Int)),x6,none])
  (ds:=yq rows.length) (β:=[some (.fz (.lst (ns.map D.int))),some (.fz (.lst rows)),some (.fz (.lst (wI W0))),some (.fz (.lst (ps.map pD))),some (xm T rows.length fw fh (st (wI W0) false false false (kP ps) (vP ps)) 0 0),some (sM W0 false false false (kP ps) (vP ps) 0 0),none,none]) 0 ⟨W0,false,false,false,ps,none,l0,w0,P,by omega,rfl⟩ fun i d β hd hp=>by
   obtain ⟨Ws,a,b,c,qs,x6,lw,hw,Q,lq,rfl⟩:=hp
   rw [Nat.zero_add] at lq ⊢
   have hi:i<rows.length:=by have:=(List.getElem?_eq_some_iff.mp hd).1; simpa [yq] using this
   have ed:d=.int (i:Int):=by
    rw [List.getElem?_map,List.getElem?_range hi] at hd
    cases hd
    rfl
   subst ed
   obtain ⟨Ws',a',b',c',qs',lw',hw',Q',lq',dr,dd,ld,hst,tp⟩:=one _ Ws a b c qs (hr _ (List.getElem_mem hi)) lw hw Q (by omega)
   have ix:zG T (.int (i:Int))=some (.tup [rows[i],.int ((i:Int)+1),.non]):=by rw [<- hT]; exact OA hi
   have stp:=Kf (T:=T) (fw:=fw) (fh:=fh) (e:=rows.length) (due:=i) (done:=i) (s:=st (wI Ws) a b c (kP qs) (vP qs)) (s':=st (wI Ws') a' b' c' (kP qs') (vP qs')) (d2:=(i:Int)+1) (by omega) ix hst (by show (wM rows[i]&&_)=true; rw [tp]; rfl) jF dr false (by rw [t5]; exact ld) rfl
   have lk:=JH (T:=T) (fw:=fw) (fh:=fh) (e:=rows.length) (due:=i) (done:=i) (Ws:=Ws) (a:=a) (b:=b) (c:=c) (cell:=vK ns 2+i) (k:=false) Q (by omega) hw (by omega) (by omega) (by omega) (by omega) (by omega) (stnd i Ws a b c qs hi)
   unfold yL at lk
   have du:=QR (due:=i) (done:=i) (Ws:=Ws) (a:=a) (b:=b) (c:=c) (k:=false) Q (by omega) hw (by omega) (by omega) (by omega) (by omega) (by omega)
   have sg:=Kk (n:=i) (m:=i) dd
   have rix:zG (.lst rows) (.int (i:Int))=some rows[i]:=by
    show wW rows (i:Int)=_
    unfold wW
    rw [if_pos (Int.natCast_nonneg i),Int.toNat_natCast,List.getElem?_eq_getElem hi]
   have nb:XD (.bl true) (.bl true)=some (.bl false):=rfl
   refine ⟨_,[some (.fz (.lst (ns.map D.int))),some (.fz (.lst rows)),some (.fz (.lst (wI W0))),some (.fz (.lst (ps.map pD))),some (xm T rows.length fw fh (st (wI Ws') a' b' c' (kP qs') (vP qs')) ((i:Int)+1) ((i:Int)+1)),some (sM Ws' a' b' c' (kP qs') (vP qs') ((i:Int)+1) ((i:Int)+1)),some (.fz (.int (i:Int))),none],rfl,?_,Ws',a',b',c',qs',_,lw',hw',Q',by omega,rfl⟩
   unfold Vd
   generalize hS:(xH (.lst (vis Ws a b c qs (i:Int) (i:Int) false))).shown=SS at lk du
   generalize ns.map D.int=NS at *
   generalize rows[i]=row at *
   simp! [xh,Y4,t5,Y5,c2,add_int,lk,du,DS,Q9,stp,nb,rix,TQ,sg]
 have lu:(yq rows.length).length=rows.length:=by simp [yq]
 rw [Nat.zero_add,lu] at e3
 have stE:wf [yL T fw fh rows.length rows.length rows.length Ws a b c qs]=some (false,.bl true):=by
  rcases Xw (T:=T) (fw:=fw) (fh:=fh) (sd:=u5 (wI Ws) a b c (kP qs) (vP qs)) (row:=.non) (nx:=.non) (tg:=.non) (e:=rows.length) (due:=rows.length) (done:=rows.length) (k:=true) fun z=>absurd rfl z with z | ⟨_,z⟩
  ·unfold yL
   rw [z,decide_eq_true rfl]
   rfl
  ·exact z
 have lk:=JH (T:=T) (fw:=fw) (fh:=fh) (e:=rows.length) (due:=rows.length) (done:=rows.length) (Ws:=Ws) (a:=a) (b:=b) (c:=c) (cell:=vK ns 2 / 4) (k:=true) Q (by omega) hw (by omega) (by omega) (by omega) (by omega) (by omega) stE
 unfold yL at lk
 have du:=QR (due:=rows.length) (done:=rows.length) (Ws:=Ws) (a:=a) (b:=b) (c:=c) (k:=true) Q (by omega) hw (by omega) (by omega) (by omega) (by omega) (by omega)
 have sE:=Kg (T:=T) (fw:=fw) (fh:=fh) (e:=rows.length) (done:=rows.length) (s:=st (wI Ws) a b c (kP qs) (vP qs))
 have ib:XA (.bl false) (.bl false)=some (.bl true):=rfl
 have dv:uo (.int (vK ns 2)) (.int 4)=some (.int (vK ns 2 / 4)):=rfl
 refine ⟨[.fz (.lst (ns.map D.int)),.fz (.lst rows)],?_⟩
 rw [Mf]
 unfold Wj
 generalize (xH (.lst (vis Ws a b c qs (rows.length:Int) (rows.length:Int) true))).shown=SS at lk du
 subst hfw
 generalize hNS:ns.map D.int=NS at *
 have hid:∀ {x2 x3 x4 x5 x6 x7:Option M},kl [some (false,.lst NS),some (false,.lst rows),x2.bind hide,x3.bind hide,x4.bind hide,x5.bind hide,x6.bind hide,x7.bind hide]=some (yq rows.length):=fun {x2 x3 x4 x5 x6 x7}=>hrg (x2:=x2) (x3:=x3) (x4:=x4) (x5:=x5) (x6:=x6) (x7:=x7)
 have hd3:hide (xm T rows.length (.lst (wI W0)) fh (st (wI W0) false false false (kP ps) (vP ps)) 0 0)=none:=rfl
 have hd4:hide (sM W0 false false false (kP ps) (vP ps) 0 0)=none:=rfl
 have hrg2:kl [some (false,.lst NS),some (false,.lst rows),some (false,.lst (wI W0)),some (false,.lst (ps.map pD)),none,none,none,none]=some (yq rows.length):=hrg (x2:=some (.fz (.lst (wI W0)))) (x3:=some (.fz (.lst (ps.map pD)))) (x4:=none) (x5:=none) (x6:=none) (x7:=none)
 simp! [xh,c0,c1,c2,e1,e2,fl1,fl2,fl3,ri,be,hd3,hd4,hrg2,e3,Y4,t5,Y5,lk,du,Lq,Q9,sE,ib,dv,decide_true]
end
end L3
namespace L3
open PySem
section
variable {Ws:List Int} {a b c:Bool} {hk:List (Sum Int Str)} {hv:List D}
noncomputable def wJ (p:Bool):Int:=if p then 1 else 0
theorem TM {x y:Int} {p:Bool}:pA [.int x,.int y,.bl p]=some (false,.tup [.int ((x+y+wJ p) % 4294967296),.bl (decide (4294967296<=x+y+wJ p))]):=by
 have h1:decide ((0:Int)<4294967296)=true:=by decide
 rw [MM]
 unfold YW
 cases p<;>simp! [add_int,wJ,h1,Bool.false_eq_true,if_false,if_true]
theorem Up {x y:Int} {p:Bool} (x0:0<=x) (x1:x<4294967296) (y0:0<=y) (y1:y<4294967296):pL [.int x,.int y,.bl p]=some (false,.tup [.int ((x - y - wJ p) % 4294967296),.bl (decide (x - y - wJ p<0))]):=by
 have key:∀ (q:Int),(q=0\/q=1)->(∀ τ:zf,uQ (tE (z6 2)) (eC (.int 1)) (eC (.int 0)) [some (false,.int x),some (false,.int y),some (false,.bl p),none]=some (.int q))->pL [.int x,.int y,.bl p]=some (false,.tup [.int ((x - y - q) % 4294967296),.bl (decide (x - y - q<0))]):=fun q hq he=>by
  have he':=he []
  rw [Ms]
  unfold Ys
  generalize uQ (tE (z6 2)) (eC (.int 1)) (eC (.int 0))=EE at he'
  by_cases z:x - y - q<0
  ·have z1:decide (x - y - q<0)=true:=decide_eq_true z
   have e:(x - y - q) % 4294967296=x - y - q+4294967296:=by omega
   rw [e,z1]
   simp! [he',z1,add_int]
  ·have z1:decide (x - y - q<0)=false:=decide_eq_false z
   have e:(x - y - q) % 4294967296=x - y - q:=by omega
   rw [e,z1]
   simp! [he',z1]
 cases p with
 | false=>exact key 0 (.inl rfl) fun _=>rfl
 | true=>exact key 1 (.inr rfl) fun _=>rfl
theorem gw {t:Int} {σ:zf} (h:σ[5]?=some (some (false,.int t))):um (xT fun i j=>decide (i<=j)) (xT fun i j=>decide (i<j)) (eC (.int 0)) (z6 5) (eC (.int 4294967296)) σ=some (.bl (decide (0<=t)&&decide (t<4294967296))):=by
 have e:z6 5 σ=some (.int t):=by
  unfold z6
  rw [h]
 by_cases z:0<=t
 ·have z1:decide (0<=t)=true:=decide_eq_true z
  simp! [um,h,z1]
 ·have z1:decide (0<=t)=false:=decide_eq_false z
  simp! [um,h,z1,Bool.false_and]
inductive je:Str->Prop
 | add:je "add" | addc:je "addc" | sub:je "sub" | subc:je "subc" | test:je "test"
theorem Kl {k:Str} (h:je k) {x y:Int} (x0:0<=x) (x1:x<4294967296) (y0:0<=y) (y1:y<4294967296):∃ (t:Int) (u:Bool),pK [.str k,.int x,.int y,.bl a]=some (false,.tup [.int (t % 4294967296),.bl u])/\pI [.str k,.int x,.int y,.bl a]=some (false,.tup [.int (t % 4294967296),.bl u]):=by
 have h1:decide ((0:Int)<4294967296)=true:=by decide
 have o0:wJ false=0:=rfl
 have o1:wJ true=1:=rfl
 have up:∀ t:Int,0<=t->decide (4294967296<=t)=!(decide (0<=t)&&decide (t<4294967296)):=fun t h=>by
  rw [decide_eq_true h]
  by_cases z:4294967296<=t
  ·rw [decide_eq_true z,decide_eq_false (by omega)]; rfl
  ·rw [decide_eq_false z,decide_eq_true (by omega)]; rfl
 have dn:∀ t:Int,t<4294967296->decide (t<0)=!(decide (0<=t)&&decide (t<4294967296)):=fun t h=>by
  rw [decide_eq_true h]
  by_cases z:t<0
  ·rw [decide_eq_true z,decide_eq_false (by omega)]; rfl
  ·rw [decide_eq_false z,decide_eq_true (by omega)]; rfl
 have b1:0<=wJ a/\wJ a<=1:=by cases a<;>exact ⟨by decide,by decide⟩
 cases h with
 | add=>
  refine ⟨x+y+wJ false,decide (4294967296<=x+y+wJ false),?_,?_⟩
  ·have q1:zo (.str "add") (.str "add")=some (.bl true):=rfl
   rw [kF]
   unfold qT
   simp! [q1,TM]
  ·have q4:xg (.str "add") (.lst [.str "addc",.str "subc"])=some (.bl false):=rfl
   have q5:xg (.str "add") (.lst [.str "add",.str "addc"])=some (.bl true):=rfl
   rw [up _ (by omega),kE]
   unfold qS
   generalize hch:um (xT fun i j=>decide (i<=j)) (xT fun i j=>decide (i<j)) (eC (.int 0)) (z6 5) (eC (.int 4294967296))=CH
   have ch:=fun (t:Int) (σ:zf) (h:σ[5]?=some (some (false,.int t)))=>hch ▸ gw h
   have c5:∀ x0 x1 x2 x3 x4 t,CH [x0,x1,x2,x3,x4,some (false,.int t)]=some (.bl (decide (0<=t)&&decide (t<4294967296))):=fun x0 x1 x2 x3 x4 t=>ch t _ rfl
   cases a<;>simp! [q4,q5,add_int,c5,h1,o0,o1,Bool.false_eq_true,if_false,if_true]
 | addc=>
  refine ⟨x+y+wJ a,decide (4294967296<=x+y+wJ a),?_,?_⟩
  ·have q1:zo (.str "addc") (.str "add")=some (.bl false):=rfl
   have q2:zo (.str "addc") (.str "addc")=some (.bl true):=rfl
   rw [kF]
   unfold qT
   simp! [q1,q2,TM]
  ·have q4:xg (.str "addc") (.lst [.str "addc",.str "subc"])=some (.bl true):=rfl
   have q5:xg (.str "addc") (.lst [.str "add",.str "addc"])=some (.bl true):=rfl
   rw [up _ (by omega),kE]
   unfold qS
   generalize hch:um (xT fun i j=>decide (i<=j)) (xT fun i j=>decide (i<j)) (eC (.int 0)) (z6 5) (eC (.int 4294967296))=CH
   have ch:=fun (t:Int) (σ:zf) (h:σ[5]?=some (some (false,.int t)))=>hch ▸ gw h
   have c5:∀ x0 x1 x2 x3 x4 t,CH [x0,x1,x2,x3,x4,some (false,.int t)]=some (.bl (decide (0<=t)&&decide (t<4294967296))):=fun x0 x1 x2 x3 x4 t=>ch t _ rfl
   cases a<;>simp! [q4,q5,add_int,c5,h1,o0,o1,Bool.false_eq_true,if_false,if_true]
 | sub=>
  refine ⟨x - y - wJ false,decide (x - y - wJ false<0),?_,?_⟩
  ·have q1:zo (.str "sub") (.str "add")=some (.bl false):=rfl
   have q2:zo (.str "sub") (.str "addc")=some (.bl false):=rfl
   have q3:zo (.str "sub") (.str "subc")=some (.bl false):=rfl
   rw [kF]
   unfold qT
   cases a<;>simp! [q1,q2,q3,Up x0 x1 y0 y1]
  ·have q4:xg (.str "sub") (.lst [.str "addc",.str "subc"])=some (.bl false):=rfl
   have q5:xg (.str "sub") (.lst [.str "add",.str "addc"])=some (.bl false):=rfl
   rw [dn _ (by rw [o0]; omega),kE]
   unfold qS
   generalize hch:um (xT fun i j=>decide (i<=j)) (xT fun i j=>decide (i<j)) (eC (.int 0)) (z6 5) (eC (.int 4294967296))=CH
   have ch:=fun (t:Int) (σ:zf) (h:σ[5]?=some (some (false,.int t)))=>hch ▸ gw h
   have c5:∀ x0 x1 x2 x3 x4 t,CH [x0,x1,x2,x3,x4,some (false,.int t)]=some (.bl (decide (0<=t)&&decide (t<4294967296))):=fun x0 x1 x2 x3 x4 t=>ch t _ rfl
   cases a<;>simp! [q4,q5,add_int,c5,h1,o0,o1,Bool.false_eq_true,if_false,if_true]
 | subc=>
  refine ⟨x - y - wJ a,decide (x - y - wJ a<0),?_,?_⟩
  ·have q1:zo (.str "subc") (.str "add")=some (.bl false):=rfl
   have q2:zo (.str "subc") (.str "addc")=some (.bl false):=rfl
   have q3:zo (.str "subc") (.str "subc")=some (.bl true):=rfl
   rw [kF]
   unfold qT
   cases a<;>simp! [q1,q2,q3,Up x0 x1 y0 y1]
  ·have q4:xg (.str "subc") (.lst [.str "addc",.str "subc"])=some (.bl true):=rfl
   have q5:xg (.str "subc") (.lst [.str "add",.str "addc"])=some (.bl false):=rfl
   rw [dn _ (by omega),kE]
   unfold qS
   generalize hch:um (xT fun i j=>decide (i<=j)) (xT fun i j=>decide (i<j)) (eC (.int 0)) (z6 5) (eC (.int 4294967296))=CH
   have ch:=fun (t:Int) (σ:zf) (h:σ[5]?=some (some (false,.int t)))=>hch ▸ gw h
   have c5:∀ x0 x1 x2 x3 x4 t,CH [x0,x1,x2,x3,x4,some (false,.int t)]=some (.bl (decide (0<=t)&&decide (t<4294967296))):=fun x0 x1 x2 x3 x4 t=>ch t _ rfl
   cases a<;>simp! [q4,q5,add_int,c5,h1,o0,o1,Bool.false_eq_true,if_false,if_true]
 | test=>
  refine ⟨x - y - wJ false,decide (x - y - wJ false<0),?_,?_⟩
  ·have q1:zo (.str "test") (.str "add")=some (.bl false):=rfl
   have q2:zo (.str "test") (.str "addc")=some (.bl false):=rfl
   have q3:zo (.str "test") (.str "subc")=some (.bl false):=rfl
   rw [kF]
   unfold qT
   cases a<;>simp! [q1,q2,q3,Up x0 x1 y0 y1]
  ·have q4:xg (.str "test") (.lst [.str "addc",.str "subc"])=some (.bl false):=rfl
   have q5:xg (.str "test") (.lst [.str "add",.str "addc"])=some (.bl false):=rfl
   rw [dn _ (by rw [o0]; omega),kE]
   unfold qS
   generalize hch:um (xT fun i j=>decide (i<=j)) (xT fun i j=>decide (i<j)) (eC (.int 0)) (z6 5) (eC (.int 4294967296))=CH
   have ch:=fun (t:Int) (σ:zf) (h:σ[5]?=some (some (false,.int t)))=>hch ▸ gw h
   have c5:∀ x0 x1 x2 x3 x4 t,CH [x0,x1,x2,x3,x4,some (false,.int t)]=some (.bl (decide (0<=t)&&decide (t<4294967296))):=fun x0 x1 x2 x3 x4 t=>ch t _ rfl
   cases a<;>simp! [q4,q5,add_int,c5,h1,o0,o1,Bool.false_eq_true,if_false,if_true]
end
end L3
namespace L3
open PySem
noncomputable def UN:FA:=(vM (eC (.int 0)) (e2 ym (eC (.int 1)) (e2 yf (zi vq (z8 (z6 0) (z8 (eC (.int 3)) zF))) (eC (.int 7)))))
noncomputable def Va:FS:=(zj (yU 3 (zi vq (z8 (z6 0) (z8 (e2 ym (eC (.int 4)) (z6 2)) zF))))
    (zj (yU 4 (e2 yf (zi wO (z8 (z6 3) (z8 (e2 u9 (eC (.int 4)) (z6 2)) zF))) (eC (.int 8))))
    (zj (yU 5 (e2 yf (zi wO (z8 (z6 3) (z8 (e2 ym (e2 u9 (eC (.int 4)) (z6 2)) (eC (.int 1))) zF))) (eC (.int 8))))
    (zj (yU 6 (e2 zG (xf (z8 (eC (.int 0)) (z8 (eC (.int 1)) (z8 (eC (.int 31)) (z8 (e2 yf (zi wO (z8 (z6 3) (z8 (e2 ym (e2 u9 (eC (.int 4)) (z6 2)) (eC (.int 2))) zF))) (eC (.int 32))) zF))))) (e2 yf (zi wO (z8 (z6 3) (z8 (e2 ym (e2 u9 (eC (.int 4)) (z6 2)) (eC (.int 3))) zF))) (eC (.int 4)))))
    (zj (yU 7 (xf (z8 (xX (z8 (eC (.str "and")) (z8 (z6 4) (z8 (z6 5) zF)))) (z8 (xX (z8 (eC (.str "or")) (z8 (z6 4) (z8 (z6 5) zF)))) (z8 (xX (z8 (eC (.str "xor")) (z8 (z6 4) (z8 (z6 5) zF)))) (z8 (xX (z8 (eC (.str "left")) (z8 (z6 4) (z8 (z6 6) zF)))) (z8 (xX (z8 (eC (.str "right")) (z8 (z6 4) (z8 (z6 6) zF)))) (z8 (xX (z8 (eC (.str "addc")) (z8 (z6 4) (z8 (z6 5) zF)))) zF))))))))
    (kn 1 g_ (e2 zG (e2 ym (z6 7) (xf (z8 (xX (z8 (eC (.str "left")) (z8 (z6 4) (z8 (z6 6) zF)))) (z8 (xX (z8 (eC (.str "right")) (z8 (z6 4) (z8 (z6 6) zF)))) zF)))) (e2 yf (z6 3) (eC (.int 8))))))))))
noncomputable def Tf:FS:=
 (zj (qj 1 (xf zF))
  (zj (t3 UN (yH 2)
   Va)
  (zj (km 1) (z_ (zi (pp jT) (z8 (z6 0) (z8 (z6 1) zF)))))))
theorem Bh {x:Int} {n:Nat} (h0:0<=x) (h1:x<4294967296) (hn:n<=31):qI [.int x,.int (n:Int)]=some (false,.tup [.int (x*2 ^ n % 4294967296),if n=0 then .non else .bl (decide (x*2 ^ n / 4294967296 % 2=1))]):=by
 have pk:=Iy (n:=n) h0 h1 (by omega)
 have p1:∀ y:Int,xG [.int y,.int 32,.int 1]=some (false,.int (y / 4294967296 % 2)):=fun y=>U5 (x:=y) (l:=32) (w:=1) (by decide)
 have p2:∀ y:Int,xG [.int y,.int 0,.int 32]=some (false,.int (y % 4294967296)):=fun y=>by
  have:=U5 (x:=y) (l:=0) (w:=32) (by decide)
  rw [Int.pow_zero,Int.ediv_one] at this
  exact this
 rw [Mm]
 unfold Ym
 by_cases z:n=0
 ·have z1:decide ((n:Int)=0)=true:=decide_eq_true (by omega)
  rw [if_pos z]
  simp! [pk,Int.toNat_natCast,p1,p2,eq_int,z1]
 ·have z1:decide ((n:Int)=0)=false:=decide_eq_false (by omega)
  rw [if_neg z]
  simp! [pk,Int.toNat_natCast,p1,p2,eq_int,z1]
theorem G9 {x:Int} {n:Nat}:qJ [.int x,.int (n:Int)]=some (false,.tup [.int (x / 2 ^ n),if n=0 then .non else .bl (decide (x / 2 ^ (n - 1) % 2=1))]):=by
 have z0:decide ((0:Int)<=(n:Int))=true:=decide_eq_true (Int.natCast_nonneg n)
 rw [Mn]
 unfold Yn
 by_cases z:n=0
 ·have z1:decide ((n:Int)=0)=true:=decide_eq_true (by omega)
  rw [if_pos z]
  simp! [z0,Int.toNat_natCast,eq_int,z1]
 ·have z1:decide ((n:Int)=0)=false:=decide_eq_false (by omega)
  have p:xG [.int x,.int ((n:Int) - 1),.int 1]=some (false,.int (x / 2 ^ (n - 1) % 2)):=by
   rw [show (n:Int) - 1=((n - 1:Nat):Int) by omega]
   exact U5 (l:=n - 1) (w:=1) (by decide)
  rw [if_neg z]
  simp! [z0,Int.toNat_natCast,p,eq_int,z1]
section
variable {Ws:List Int} {a b c:Bool} {hk:List (Sum Int Str)} {hv:List D}
inductive qO:D->Prop
 | bits {k:Str} {d s:Nat} (h:ui k) (hd:d<8) (hs:s<8):qO (.tup [.str k,.int (d:Int),.int (s:Int)])
 | sum {d s:Nat} (hd:d<8) (hs:s<8):qO (.tup [.str "addc",.int (d:Int),.int (s:Int)])
 | left {d n:Nat} (hd:d<8) (hn:n<=31):qO (.tup [.str "left",.int (d:Int),.int (n:Int)])
 | right {d n:Nat} (hd:d<8) (hn:n<=31):qO (.tup [.str "right",.int (d:Int),.int (n:Int)])
theorem EM (r:D) (h:qO r):pS r:=by
 cases h with
 | bits h=>cases h<;>exact ⟨rfl,rfl⟩
 | _=>exact ⟨rfl,rfl⟩
theorem Lg {k:Str} {d s:Nat} {x y w:Int} {n m:Int} (h:ui k) (hd:Ws[d]?=some x) (hs:Ws[s]?=some y) (h:pG [.str k,.int x,.int y]=some (false,.int w)) :
  tD [.fz (.tup [.str k,.int (d:Int),.int (s:Int)]),sM Ws a b c hk hv n m]=some ([.fz (.tup [.str k,.int (d:Int),.int (s:Int)]),sM (Ws.set d w) a (decide (w=0)) (decide (2147483648<=w)) hk hv n m],.fz .non):=by
 have hl:d<Ws.length:=(List.getElem?_eq_some_iff.mp hd).1
 obtain ⟨q1,q2,q3⟩:xg (.str k) (.lst [.str "left",.str "right"])=some (.bl false)/\xg (.str k) (.lst [.str "and",.str "or",.str "xor"])=some (.bl true)/\vA (.str k) (.str "test")=some (.bl true):=by
  rename_i h0
  cases h0<;>exact ⟨rfl,rfl,rfl⟩
 rw [VP]
 unfold gl
 simp! [xh,Y5,V1,V0,m0,t6,qA,qB,vh hd,vh hs,h,WZ,UG,Vv,Vw,Vx,eq_int,q1,q2,q3,Wa,UH,uh,tN hl,qC]
theorem Lf {d s:Nat} {x y w:Int} {u:Bool} {n m:Int} (hd:Ws[d]?=some x) (hs:Ws[s]?=some y) (h:pI [.str "addc",.int x,.int y,.bl a]=some (false,.tup [.int w,.bl u])) :
  tD [.fz (.tup [.str "addc",.int (d:Int),.int (s:Int)]),sM Ws a b c hk hv n m]=some ([.fz (.tup [.str "addc",.int (d:Int),.int (s:Int)]),sM (Ws.set d w) u (decide (w=0)) (decide (2147483648<=w)) hk hv n m],.fz .non):=by
 have hl:d<Ws.length:=(List.getElem?_eq_some_iff.mp hd).1
 have q1:xg (.str "addc") (.lst [.str "left",.str "right"])=some (.bl false):=rfl
 have q2:xg (.str "addc") (.lst [.str "and",.str "or",.str "xor"])=some (.bl false):=rfl
 have q3:vA (.str "addc") (.str "test")=some (.bl true):=rfl
 rw [VP]
 unfold gl
 simp! [xh,Y5,V1,V0,m0,t6,qA,qB,vh hd,vh hs,h,WZ,UG,Vv,Vw,Vx,eq_int,q1,q2,q3,Wa,UH,uh,tN hl,qC]
theorem Y_ {k:Str} {d:Nat} {x w:Int} {p u:Bool} {e n m:Int} (hp:decide (0<e)=p) (q1:xg (.str k) (.lst [.str "left",.str "right"])=some (.bl true)) (q3:vA (.str k) (.str "test")=some (.bl true)) (hd:Ws[d]?=some x) (h:qH [.str k,.int x,.int e]=some (false,.tup [.int w,.bl u])) :
  tD [.fz (.tup [.str k,.int (d:Int),.int e]),sM Ws a b c hk hv n m]=some ([.fz (.tup [.str k,.int (d:Int),.int e]),sM (Ws.set d w) (if p then u else a) (decide (w=0)) (decide (2147483648<=w)) hk hv n m],.fz .non):=by
 have hl:d<Ws.length:=(List.getElem?_eq_some_iff.mp hd).1
 rw [VP]
 unfold gl
 cases p<;>simp! [xh,Vl,vZ,Y5,V1,V0,m0,t6,qA,qB,vh hd,h,WZ,UG,Vv,Vw,Vx,eq_int,q1,q3,hp,Wa,UH,uh,tN hl,qC,Bool.false_eq_true,if_false,if_true]
theorem CA:TC qO:=fun r Ws a b c ps h hl hw P _=>by
 have at_:∀ {d:Nat},d<8->∃ v,Ws[d]?=some v/\0<=v/\v<4294967296:=fun {d} hd=>by
  have hd':d<Ws.length:=by omega
  exact ⟨Ws[d],List.getElem?_eq_getElem hd',hw _ (List.getElem_mem hd')⟩
 have eg:∀ {w:Int},0<=w->w<4294967296->decide (w / 2147483648 % 2=1)=decide (2147483648<=w):=fun {w} w0 w1=>by
  by_cases z:2147483648<=w
  ·rw [decide_eq_true z,decide_eq_true (by omega)]
  ·rw [decide_eq_false z,decide_eq_false (by omega)]
 have set_in:∀ {d:Nat} {w:Int},0<=w->w<4294967296->∀ v∈Ws.set d w,0<=v/\v<4294967296:=fun {d w} w0 w1 v hm=>by
  rcases List.mem_or_eq_of_mem_set hm with z | z
  ·exact hw v z
  ·exact z ▸ ⟨w0,w1⟩
 cases h with
 | @bits k d s h hd hs=>
  obtain ⟨x,ex,x0,x1⟩:=at_ hd
  obtain ⟨y,ey,y0,y1⟩:=at_ hs
  obtain ⟨xn,rfl⟩:=Int.eq_ofNat_of_zero_le x0
  obtain ⟨yn,rfl⟩:=Int.eq_ofNat_of_zero_le y0
  have hx:xn<4294967296:=by omega
  have hy:yn<4294967296:=by omega
  have w0:0<=(wQ k xn yn:Int):=Int.natCast_nonneg _
  have w1:(wQ k xn yn:Int)<4294967296:=Int.ofNat_lt.mpr (Tq h hx hy)
  have s1:=BH h (x:=xn) (y:=yn)
  have s2:=Oz h hx hy
  generalize (wQ k xn yn:Int)=w at w0 w1 s1 s2
  obtain ⟨q2,q3,q4,q5⟩:X8 qV (.str k)=some (.bl true)/\getK qV V7 (.inr k)=some qF/\(∀ D1,pJ [D1,.tup [.str k,.int (d:Int),.int (s:Int)]]=some (false,.bl false))/\zo (.tup [.str k,.int (d:Int),.int (s:Int)]) (.tup [.str "stop"])=some (.bl false):=by
   cases h<;>exact ⟨rfl,rfl,fun _=>rfl,rfl⟩
  have dr:=jk (k:=k) q2 q3 jF rfl rfl (Lj (a:=a) (b:=b) (c:=c) (hk:=kP ps) (hv:=vP ps) ex ey s1 gD)
  rw [eg w0 w1] at dr
  exact ⟨Ws.set d w,_,_,_,ps,by rw [List.length_set]; exact hl,set_in w0 w1,P,by omega,dr,fun n m=>Lg h ex ey s2,q4 _,q5,rfl⟩
 | @sum d s hd hs=>
  obtain ⟨x,ex,x0,x1⟩:=at_ hd
  obtain ⟨y,ey,y0,y1⟩:=at_ hs
  obtain ⟨t,u,s1,s2⟩:=Kl (a:=a) .addc x0 x1 y0 y1
  have w0:0<=t % 4294967296:=Int.emod_nonneg _ (by decide)
  have w1:t % 4294967296<4294967296:=Int.emod_lt_of_pos _ (by decide)
  generalize t % 4294967296=w at s1 s2 w0 w1
  have dr:=jk (k := "addc") rfl rfl jF rfl rfl (Lk (b:=b) (c:=c) (hk:=kP ps) (hv:=vP ps) rfl ex ey s1 gD)
  rw [eg w0 w1] at dr
  exact ⟨Ws.set d w,_,_,_,ps,by rw [List.length_set]; exact hl,set_in w0 w1,P,by omega,dr,fun n m=>Lf ex ey s2,rfl,rfl,rfl⟩
 | @left d n hd hn=>
  obtain ⟨x,ex,x0,x1⟩:=at_ hd
  have s1:=Bh (n:=n) x0 x1 hn
  have s2:=Bi (n:=n) x0 x1 hn
  have w0:0<=x*2 ^ n % 4294967296:=Int.emod_nonneg _ (by decide)
  have w1:x*2 ^ n % 4294967296<4294967296:=Int.emod_lt_of_pos _ (by decide)
  generalize x*2 ^ n % 4294967296=w at w0 w1 s1 s2
  generalize decide (x*2 ^ n / 4294967296 % 2=1)=u at s1 s2
  by_cases z:n=0
  ·rw [if_pos z] at s1
   have dr:=jk (k := "left") rfl rfl jF rfl rfl (QP (a:=a) (b:=b) (c:=c) (hk:=kP ps) (hv:=vP ps) ex true rfl s1 gD)
   rw [eg w0 w1] at dr
   exact ⟨Ws.set d w,_,_,_,ps,by rw [List.length_set]; exact hl,set_in w0 w1,P,by omega,dr,fun i m=>Y_ (p:=false) (decide_eq_false (by omega)) rfl rfl ex s2,rfl,rfl,rfl⟩
  ·rw [if_neg z] at s1
   have dr:=jk (k := "left") rfl rfl jF rfl rfl (QQ (a:=a) (b:=b) (c:=c) (hk:=kP ps) (hv:=vP ps) ex true rfl s1 gD)
   rw [eg w0 w1] at dr
   exact ⟨Ws.set d w,_,_,_,ps,by rw [List.length_set]; exact hl,set_in w0 w1,P,by omega,dr,fun i m=>Y_ (p:=true) (decide_eq_true (by omega)) rfl rfl ex s2,rfl,rfl,rfl⟩
 | @right d n hd hn=>
  obtain ⟨x,ex,x0,x1⟩:=at_ hd
  have s1:=G9 (x:=x) (n:=n)
  have s2:=GA (x:=x) (n:=n) hn
  have w0:0<=x / 2 ^ n:=Int.ediv_nonneg x0 (Int.le_of_lt (Xk n))
  have w1:x / 2 ^ n<4294967296:=Int.lt_of_le_of_lt (Int.ediv_le_self _ x0) x1
  generalize x / 2 ^ n=w at w0 w1 s1 s2
  generalize decide (x / 2 ^ (n - 1) % 2=1)=u at s1 s2
  by_cases z:n=0
  ·rw [if_pos z] at s1
   have dr:=jk (k := "right") rfl rfl jF rfl rfl (QP (a:=a) (b:=b) (c:=c) (hk:=kP ps) (hv:=vP ps) ex false rfl s1 gD)
   rw [eg w0 w1] at dr
   exact ⟨Ws.set d w,_,_,_,ps,by rw [List.length_set]; exact hl,set_in w0 w1,P,by omega,dr,fun i m=>Y_ (p:=false) (decide_eq_false (by omega)) rfl rfl ex s2,rfl,rfl,rfl⟩
  ·rw [if_neg z] at s1
   rw [decide_eq_true (show 0<n by omega),Bool.true_and] at s2
   have dr:=jk (k := "right") rfl rfl jF rfl rfl (QQ (a:=a) (b:=b) (c:=c) (hk:=kP ps) (hv:=vP ps) ex false rfl s1 gD)
   rw [eg w0 w1] at dr
   exact ⟨Ws.set d w,_,_,_,ps,by rw [List.length_set]; exact hl,set_in w0 w1,P,by omega,dr,fun i m=>Y_ (p:=true) (decide_eq_true (by omega)) rfl rfl ex s2,rfl,rfl,rfl⟩
theorem GW:∀ ns:List Int,ns.length<=63->(∀ m∈ns,xJ m<=1048576)->∃ o,zZ 8 Tf [.lst (ns.map D.int)]=some (o,.bl true):=fun ns hl hb=>by
 have c3:=gv ns (k:=3) (by decide)
 have hr:UN [some (false,.lst (ns.map D.int)),some (true,.lst []),none,none,none,none,none,none]=some (yq (1+vK ns 3 % 7).toNat):=by
  unfold UN
  refine j8 (n:=1+vK ns 3 % 7) ?_ (by omega)
  simp! [c3,add_int,decide_true]
 obtain ⟨σ',e1,rows,x2,x3,x4,x5,x6,x7,l,R,rfl⟩:=tP (g:=yH 2) (b:=Va) (fun i σ=>∃ (rows:List D) (x2 x3 x4 x5 x6 x7:Option Sl),rows.length=i/\(∀ r∈rows,qO r)/\σ=[some (false,.lst (ns.map D.int)),some (true,.lst rows),x2,x3,x4,x5,x6,x7])
  (ds:=yq (1+vK ns 3 % 7).toNat) (σ:=[some (false,.lst (ns.map D.int)),some (true,.lst []),none,none,none,none,none,none]) 0 ⟨[],none,none,none,none,none,none,rfl,fun _ h=>absurd h (by simp),rfl⟩ fun i d σ hd hp=>by
   obtain ⟨rows,x2,x3,x4,x5,x6,x7,l,R,rfl⟩:=hp
   rw [Nat.zero_add] at l ⊢
   have hi:i<8:=by have:=(List.getElem?_eq_some_iff.mp hd).1; simp [yq] at this; omega
   obtain ⟨k,_,rfl⟩:=List.mem_map.mp (List.mem_of_getElem? hd)
   have ck:=gv ns (k:=4+(k:Int)) (by omega)
   generalize vK ns (4+(k:Int))=c at ck
   obtain ⟨v0,m0',a0,b0⟩:=uZ c (4*(k:Int))
   obtain ⟨v1,m1',a1,b1⟩:=uZ c (4*(k:Int)+1)
   obtain ⟨v2,m2',a2,b2⟩:=uZ c (4*(k:Int)+2)
   obtain ⟨v3,m3',a3,b3⟩:=uZ c (4*(k:Int)+3)
   obtain ⟨dn,ed,hd8⟩:∃ dn:Nat,v0 % 8=(dn:Int)/\dn<8:=⟨(v0 % 8).toNat,by omega,by omega⟩
   obtain ⟨sn,es,hs8⟩:∃ sn:Nat,v1 % 8=(sn:Int)/\sn<8:=⟨(v1 % 8).toNat,by omega,by omega⟩
   obtain ⟨tn,et,ht8⟩:∃ tn:Nat,zG (.lst [.int 0,.int 1,.int 31,.int (v2 % 32)]) (.int (v3 % 4))=some (.int (tn:Int))/\tn<=31:=by
    obtain ⟨un,eu,hu⟩:∃ un:Nat,v2 % 32=(un:Int)/\un<=31:=⟨(v2 % 32).toNat,by omega,by omega⟩
    rw [eu]
    rcases (show v3 % 4=0\/v3 % 4=1\/v3 % 4=2\/v3 % 4=3 by omega) with h | h | h | h<;>rw [h]
    ·exact ⟨0,rfl,by omega⟩
    ·exact ⟨1,rfl,by omega⟩
    ·exact ⟨31,rfl,by omega⟩
    ·exact ⟨un,rfl,hu⟩
   obtain ⟨row,ew,hw⟩:∃ row:D,zG (.lst [.tup [.str "and",.int (dn:Int),.int (sn:Int)],.tup [.str "or",.int (dn:Int),.int (sn:Int)],.tup [.str "xor",.int (dn:Int),.int (sn:Int)],.tup [.str "left",.int (dn:Int),.int (tn:Int)],.tup [.str "right",.int (dn:Int),.int (tn:Int)],.tup [.str "addc",.int (dn:Int),.int (sn:Int)],.tup [.str "left",.int (dn:Int),.int (tn:Int)],.tup [.str "right",.int (dn:Int),.int (tn:Int)]]) (.int (c % 8))=some row/\qO row:=by
    rcases (show c % 8=0\/c % 8=1\/c % 8=2\/c % 8=3\/c % 8=4\/c % 8=5\/c % 8=6\/c % 8=7 by omega) with h | h | h | h | h | h | h | h<;>rw [h]
    ·exact ⟨_,rfl,.bits .and hd8 hs8⟩
    ·exact ⟨_,rfl,.bits .or hd8 hs8⟩
    ·exact ⟨_,rfl,.bits .xor hd8 hs8⟩
    ·exact ⟨_,rfl,.left hd8 ht8⟩
    ·exact ⟨_,rfl,.right hd8 ht8⟩
    ·exact ⟨_,rfl,.sum hd8 hs8⟩
    ·exact ⟨_,rfl,.left hd8 ht8⟩
    ·exact ⟨_,rfl,.right hd8 ht8⟩
   have cat:∀ x0 x1 x2 x3 x4 x5 x6 x7:D,ym (.lst [x0,x1,x2,x3,x4,x5]) (.lst [x6,x7])=some (.lst [x0,x1,x2,x3,x4,x5,x6,x7]):=fun _ _ _ _ _ _ _ _=>rfl
   have l1:vi 4=true:=by decide
   have ap:g_ (.lst rows) row=some (.lst (rows++[row])):=by
    show (if rows.length<yP then some (D.lst (rows++[_])) else none)=_
    rw [if_pos (by show _<16777216; omega)]
   refine ⟨_,[some (false,.lst (ns.map D.int)),some (true,.lst (rows++[row])),some (false,.int (k:Int)),some (false,.int c),some (false,.int (dn:Int)),some (false,.int (sn:Int)),some (false,.int (tn:Int)),some (false,.lst [.tup [.str "and",.int (dn:Int),.int (sn:Int)],.tup [.str "or",.int (dn:Int),.int (sn:Int)],.tup [.str "xor",.int (dn:Int),.int (sn:Int)],.tup [.str "left",.int (dn:Int),.int (tn:Int)],.tup [.str "right",.int (dn:Int),.int (tn:Int)],.tup [.str "addc",.int (dn:Int),.int (sn:Int)]])],rfl,.inl ?_,_,_,_,_,_,_,_,by rw [List.length_append,l]; rfl,fun r hm=>?_,rfl⟩
   ·unfold Va
    simp! [add_int,ck,l1,m0',m1',m2',m3',ed,es,et,cat,ew,ap,decide_true]
   ·rcases List.mem_append.mp hm with hm | hm
    ·exact R r hm
    ·cases List.mem_singleton.mp hm
     exact hw
 have lu:(yq (1+vK ns 3 % 7).toNat).length=(1+vK ns 3 % 7).toNat:=by simp [yq]
 obtain ⟨rr,pl⟩:=EL (ns:=ns) EM CA R (by rw [l,lu]; omega)
 have fm:pp jT [.lst (ns.map D.int),.lst rows]=some (false,.bl true):=by
  unfold pp uB
  rw [List.map_cons,List.map_cons,List.map_nil,pl]
  rfl
 refine ⟨false,?_⟩
 unfold Tf
 simp! [hr,e1,fm]
end
end L3
namespace My
open PySem L2 L3
set_option maxHeartbeats 4000000
noncomputable def top (i:Nat):Stmt:=PySem.Challenge.pw_markrun_k36_bits_and_moves.main.body.getD i (.Pass ⟨0,0,0,0⟩)
section
variable {P:Program} {w:World} {K:PySem.W.Frag} {mg:Str->Option Value} {base:Heap} {A_BYTE_LOWS:Addr} {A_MARKS:Addr} {A_JUMPS:Addr} {A_DEEDS:Addr}
noncomputable abbrev ZH:Stmt:=top 9
theorem Hk:ze ["thing", "width"] ["thing", "width"] (zM ZH):=⟨rfl,rfl,rfl,by decide +kernel,rfl,by decide +kernel,by decide +kernel⟩
theorem FN (d:zE K mg "is_number" ZH ["thing", "width"]) (z_isinstance:mg "isinstance" = none) (z_int:mg "int" = none) (z_bool:mg "bool" = none):zH P w K mg base "is_number" ["thing", "width"] 1 (zO K vV):=
 zE.okS d Hk (by decide) GS fun f cdv A outer s H E hr=>(zm (xN (Ui (Ug (vU (Zw .bool rfl rfl z_isinstance z_bool L4 (zN (z7 0)))) (Uh (jG (vU (Zw .int rfl rfl z_isinstance z_int Q0 (zN (z7 0))))))))
   (zd (yC wm))
   wE)
  (zd (yC (Zu (wC JW ub (zN zD) (zN (z7 0)) (zy _)) (gP (wC Xg ub (zN (z7 0)) (zN (zU j5 j3 zD (z7 1))) (zy _)))))))
noncomputable abbrev kq:Stmt:=top 10
theorem Id:ze ["one", "other", "carry", "total"] ["one", "other", "carry"] (zM kq):=⟨rfl,rfl,rfl,by decide +kernel,rfl,by decide +kernel,by decide +kernel⟩
theorem Dk (d:zE K mg "added" kq ["one", "other", "carry"]) (g_BEYOND:y_ mg "BEYOND" (.int 4294967296)) (q_BEYOND:∀ H,zP K H (.int 4294967296) (.int 4294967296)):zH P w K mg base "added" ["one", "other", "carry"] 1 (zO K pA):=
 zE.okS d Id (by decide) GI fun f cdv A outer s H E hr=>(zm (yt (i:=3) Id.nd rfl (Or.inl rfl) (zU xL xK (zU xL xK (z7 0) (z7 1)) (jB (vU (z7 2)) zD zD)))
  (zd (yC (xr (zA (zU xB xA (z7 3) (wT g_BEYOND q_BEYOND rfl)) (zA (wC JU ub (zN (z7 3)) (zN (wT g_BEYOND q_BEYOND rfl)) (zy _)) zL)) (yG (zV (zV yS)) (by decide))))))
noncomputable abbrev Zl:Stmt:=top 11
theorem Il:ze ["one", "other", "borrow", "left"] ["one", "other", "borrow"] (zM Zl):=⟨rfl,rfl,rfl,by decide +kernel,rfl,by decide +kernel,by decide +kernel⟩
theorem C4 (d:zE K mg "taken" Zl ["one", "other", "borrow"]) (g_BEYOND:y_ mg "BEYOND" (.int 4294967296)) (q_BEYOND:∀ H,zP K H (.int 4294967296) (.int 4294967296)):zH P w K mg base "taken" ["one", "other", "borrow"] 1 (zO K pL):=
 zE.okS d Il (by decide) Gv fun f cdv A outer s H E hr=>(zm (yt (i:=3) Il.nd rfl (Or.inl rfl) (zU qh qg (zU qh qg (z7 0) (z7 1)) (jB (vU (z7 2)) zD zD)))
  (zm (xN (yj Xg ub (zN (z7 3)) (zN zD) (zy _))
   (zd (yC (xr (zA (zU xL xK (z7 3) (wT g_BEYOND q_BEYOND rfl)) (zA wm zL)) (yG (zV (zV yS)) (by decide)))))
   wE)
  (zd (yC (xr (zA (z7 3) (zA wm zL)) (yG (zV (zV yS)) (by decide)))))))
noncomputable abbrev Zf:Stmt:=top 14
theorem Hu:ze ["word", "low", "width"] ["word", "low", "width"] (zM Zf):=⟨rfl,rfl,rfl,by decide +kernel,rfl,by decide +kernel,by decide +kernel⟩
theorem Fy (d:zE K mg "part" Zf ["word", "low", "width"]):zH P w K mg base "part" ["word", "low", "width"] 1 (zO K xG):=
 zE.okS d Hu (by decide) Gp fun f cdv A outer s H E hr=>(zd (yC (zU U2 g7 (zU JY JT (z7 0) (z7 1)) (zU qh qg (zU j5 j3 zD (z7 2)) zD))))
noncomputable abbrev Zc:Stmt:=top 12
theorem UW:ze ["word", "count", "moved", "fallen"] ["word", "count"] (zM Zc):=⟨rfl,rfl,rfl,by decide +kernel,rfl,by decide +kernel,by decide +kernel⟩
theorem Fq (d:zE K mg "moved_left" Zc ["word", "count"]) (g_WORD_BITS:y_ mg "WORD_BITS" (.int 32)) (q_WORD_BITS:∀ H,zP K H (.int 32) (.int 32)) (h_part:zH P w K mg base "part" ["word", "low", "width"] 1 (zO K xG)):zH P w K mg base "moved_left" ["word", "count"] 2 (zO K qI):=
 zE.okS d UW (by decide) Gm fun f cdv A outer s H E hr=>(zm (yt (i:=2) UW.nd rfl (Or.inl rfl) (zU j5 j3 (z7 0) (z7 1)))
  (zm (yt (i:=3) UW.nd rfl (Or.inl rfl) (jB (yj (xE (ye hr)) xD (zN (z7 1)) (zN zD) (zy _)) gO (wC (xE (ye hr)) xD (zN (zn h_part hr rfl (zA (z7 2) (zA (wT g_WORD_BITS q_WORD_BITS rfl) (zA zD zL))))) (zN zD) (zy _))))
  (zd (yC (xr (zA (zn h_part hr rfl (zA (z7 2) (zA zD (zA (wT g_WORD_BITS q_WORD_BITS rfl) zL)))) (zA (z7 3) zL)) (yG (zV (zV yS)) (by decide)))))))
noncomputable abbrev Zd:Stmt:=top 13
theorem Ik:ze ["word", "count", "fallen"] ["word", "count"] (zM Zd):=⟨rfl,rfl,rfl,by decide +kernel,rfl,by decide +kernel,by decide +kernel⟩
theorem Fr (d:zE K mg "moved_right" Zd ["word", "count"]) (h_part:zH P w K mg base "part" ["word", "low", "width"] 1 (zO K xG)):zH P w K mg base "moved_right" ["word", "count"] 2 (zO K qJ):=
 zE.okS d Ik (by decide) Gn fun f cdv A outer s H E hr=>(zm (yt (i:=2) Ik.nd rfl (Or.inl rfl) (jB (yj (xE (ye hr)) xD (zN (z7 1)) (zN zD) (zy _)) gO (wC (xE (ye hr)) xD (zN (zn h_part hr rfl (zA (z7 0) (zA (zU qh qg (z7 1) zD) (zA zD zL))))) (zN zD) (zy _))))
  (zd (yC (xr (zA (zU JY JT (z7 0) (z7 1)) (zA (z7 2) zL)) (yG (zV (zV yS)) (by decide))))))
noncomputable abbrev Zn:Stmt:=top 15
theorem Io:ze ["word", "low", "width", "number", "there"] ["word", "low", "width", "number"] (zM Zn):=⟨rfl,rfl,rfl,by decide +kernel,rfl,by decide +kernel,by decide +kernel⟩
theorem C6 (d:zE K mg "with_part" Zn ["word", "low", "width", "number"]):zH P w K mg base "with_part" ["word", "low", "width", "number"] 1 (zO K YA):=
 zE.okS d Io (by decide) Gx fun f cdv A outer s H E hr=>(zm (yt (i:=4) Io.nd rfl (Or.inl rfl) (zU j5 j3 (zU qh qg (zU j5 j3 zD (z7 2)) zD) (z7 1)))
  (zd (yC (zU JX g7 (zU U2 g7 (z7 0) (Ir Nf Nc (z7 4))) (zU j5 j3 (z7 3) (z7 1))))))
noncomputable abbrev Z1:Stmt:=top 16
theorem HV:ze ["word"] ["word"] (zM Z1):=⟨rfl,rfl,rfl,by decide +kernel,rfl,by decide +kernel,by decide +kernel⟩
theorem Dq (d:zE K mg "bytes_of" Z1 ["word"]) (z_tuple:mg "tuple" = none) (g_BYTE_LOWS:y_ mg "BYTE_LOWS" (.ref A_BYTE_LOWS)) (q_BYTE_LOWS:∀ H,zP K H kG (.ref A_BYTE_LOWS)) (h_part:zH P w K mg base "part" ["word", "low", "width"] 1 (zO K xG)):zH P w K mg base "bytes_of" ["word"] 2 (zO K Y9):=
 zE.okS d HV (by decide) GN fun f cdv A outer s H E hr=>(zd (yC (Ua Wv U1 rfl z_tuple Yw (zA (yJ (vp rfl (vJ (own:=["low"]) rfl) (vT (wT g_BYTE_LOWS q_BYTE_LOWS rfl)) (vd (fun C s H fp pn=>(yo (i:=1) (show (wR ["word"] ["low"]).Nodup by decide +kernel) rfl (Or.inl rfl))) rfl) (fun C s H fp pn=>uf) (fun C s H fp pn=>(zn h_part hr rfl (zA (z7 0) (zA (z7 1) (zA zD zL))))))) zL))))
noncomputable abbrev Zp:Stmt:=top 17
theorem Hz:ze ["four"] ["four"] (zM Zp):=⟨rfl,rfl,rfl,by decide +kernel,rfl,by decide +kernel,by decide +kernel⟩
theorem C8 (d:zE K mg "word_of" Zp ["four"]) (z_sum:mg "sum" = none) (z_zip:mg "zip" = none) (g_BYTE_LOWS:y_ mg "BYTE_LOWS" (.ref A_BYTE_LOWS)) (q_BYTE_LOWS:∀ H,zP K H kG (.ref A_BYTE_LOWS)):zH P w K mg base "word_of" ["four"] 1 (zO K YC):=
 zE.okS d Hz (by decide) Gz fun f cdv A outer s H E hr=>(zd (yC (t4 (LT rfl) C1 rfl z_sum L9 (uJ (zN (yJ (vp rfl (vJ (own:=["byte", "low"]) rfl) (I_ rfl z_zip (z7 0) (wT g_BYTE_LOWS q_BYTE_LOWS rfl)) (Ox (fun C s H fp pn=>(gK (n:=2) rfl (uG (yo (i:=1) (show (wR ["four"] ["byte", "low"]).Nodup by decide +kernel) rfl (Or.inl rfl)) (uG (yo (i:=2) (show (wR ["four"] ["byte", "low"]).Nodup by decide +kernel) rfl (Or.inl rfl)) gL)))) rfl rfl) (fun C s H fp pn=>uf) (fun C s H fp pn=>(zU j5 j3 (z7 1) (z7 2)))))) ue))))
noncomputable abbrev ZG:Stmt:=top 21
theorem Hj:ze ["item"] ["item"] (zM ZG):=⟨rfl,rfl,rfl,by decide +kernel,rfl,by decide +kernel,by decide +kernel⟩
theorem FK (d:zE K mg "is_label" ZG ["item"]):zH P w K mg base "is_label" ["item"] 1 (zO K pE):=
 zE.okS d Hj (by decide) GR fun f cdv A outer s H E hr=>(zd (yC (wC (xE (ye hr)) xD (zN (zT (zR (zJ hr)) zS (z7 0) zD)) (zN yA) (zy _))))
noncomputable abbrev ZF:Stmt:=top 22
theorem Hi:ze ["item"] ["item"] (zM ZF):=⟨rfl,rfl,rfl,by decide +kernel,rfl,by decide +kernel,by decide +kernel⟩
theorem FJ (d:zE K mg "is_jump" ZF ["item"]) (g_JUMPS:y_ mg "JUMPS" (.ref A_JUMPS)) (q_JUMPS:∀ H,zP K H VQ (.ref A_JUMPS)):zH P w K mg base "is_jump" ["item"] 1 (zO K gU):=
 zE.okS d Hi (by decide) GQ fun f cdv A outer s H E hr=>(zd (yC (wC (gB (zJ hr)) g8 (zN (zT (zR (zJ hr)) zS (z7 0) zD)) (zN (wT g_JUMPS q_JUMPS rfl)) (by with_unfolding_all rfl))))
noncomputable abbrev Zi:Stmt:=top 23
theorem Hw:ze ["items"] ["items"] (zM Zi):=⟨rfl,rfl,rfl,by decide +kernel,rfl,by decide +kernel,by decide +kernel⟩
theorem C0 (d:zE K mg "rows_of" Zi ["items"]) (h_is_label:zH P w K mg base "is_label" ["item"] 1 (zO K pE)):zH P w K mg base "rows_of" ["items"] 2 (zO K qK):=
 zE.okS d Hw (by decide) Gq fun f cdv A outer s H E hr=>(zd (tz (vp rfl (vJ (own:=["item"]) rfl) (vT (z7 0)) (vd (fun C s H fp pn=>(yo (i:=1) (show (wR ["items"] ["item"]).Nodup by decide +kernel) rfl (Or.inl rfl))) rfl) (fun C s H fp pn=>(Uf (jG (vU (zn h_is_label hr rfl (zA (z7 1) zL)))))) (fun C s H fp pn=>(z7 1)))))
noncomputable abbrev ZK:Stmt:=top 24
theorem Zr:ze ["items", "places", "place", "item"] ["items"] (zM ZK):=⟨rfl,rfl,rfl,by decide +kernel,rfl,by decide +kernel,by decide +kernel⟩
theorem FQ (d:zE K mg "label_places" ZK ["items"]) (h_is_label:zH P w K mg base "is_label" ["item"] 1 (zO K pE)):zH P w K mg base "label_places" ["items"] 2 (zO K jR):=
 zE.okS d Zr (by decide) GV fun f cdv A outer s H E hr=>(zm (gR (i:=1) Zr.nd rfl (Or.inl rfl) Zx)
  (zm (yt (i:=2) Zr.nd rfl (Or.inl rfl) zD)
  (zm (qp PassesOwn.never rfl (vT (z7 0)) (jE (yo (i:=3) Zr.nd rfl (Or.inl rfl)) rfl)
   (zd (xN (vU (zn h_is_label hr rfl (zA (z7 3) zL)))
     (zd (tw (zJ hr) (qv 1) (zT (zR (zJ hr)) zS (z7 3) zD) (z7 2)))
     (zd (O1 (i:=2) Q_ JQ Zr.nd rfl (Or.inl rfl) zD)))))
  (zd (Y0 1)))))
noncomputable abbrev Zm:Stmt:=top 25
theorem Im:ze ["items", "places"] ["items"] (zM Zm):=⟨rfl,rfl,rfl,by decide +kernel,rfl,by decide +kernel,by decide +kernel⟩
theorem C5 (d:zE K mg "targets_of" Zm ["items"]) (h_label_places:zH P w K mg base "label_places" ["items"] 2 (zO K jR)) (h_rows_of:zH P w K mg base "rows_of" ["items"] 2 (zO K qK)) (h_is_jump:zH P w K mg base "is_jump" ["item"] 1 (zO K gU)):zH P w K mg base "targets_of" ["items"] 3 (zO K pM):=
 zE.okS d Im (by decide) Gw fun f cdv A outer s H E hr=>(zm (yt (i:=1) Im.nd rfl (Or.inr rfl) (yJ (uK h_label_places hr rfl (zA (z7 0) zL))))
  (zd (tz (vp rfl (vJ (own:=["row"]) rfl) (vT (yJ (uK h_rows_of hr rfl (zA (z7 0) zL)))) (vd (fun C s H fp pn=>(yo (i:=2) (show (wR ["items", "places"] ["row"]).Nodup by decide +kernel) rfl (Or.inl rfl))) rfl) (fun C s H fp pn=>uf) (fun C s H fp pn=>(jB (vU (zn h_is_jump hr rfl (zA (z7 2) zL))) (zT (zR (zJ hr)) zS (z7 1) (zT (zR (zJ hr)) zS (z7 2) (Ir Ng Nd zD))) gO))))))
noncomputable abbrev ZE:Stmt:=top 31
theorem Hh:ze ["thing"] ["thing"] (zM ZE):=⟨rfl,rfl,rfl,by decide +kernel,rfl,by decide +kernel,by decide +kernel⟩
theorem FI (d:zE K mg "is_address" ZE ["thing"]) (g_ADDRESS_BITS:y_ mg "ADDRESS_BITS" (.int 16)) (q_ADDRESS_BITS:∀ H,zP K H (.int 16) (.int 16)) (h_is_number:zH P w K mg base "is_number" ["thing", "width"] 1 (zO K vV)):zH P w K mg base "is_address" ["thing"] 2 (zO K jP):=
 zE.okS d Hh (by decide) GP fun f cdv A outer s H E hr=>(zd (yC (zn h_is_number hr rfl (zA (z7 0) (zA (wT g_ADDRESS_BITS q_ADDRESS_BITS rfl) zL)))))
noncomputable abbrev ZI:Stmt:=top 30
theorem Hl:ze ["thing"] ["thing"] (zM ZI):=⟨rfl,rfl,rfl,by decide +kernel,rfl,by decide +kernel,by decide +kernel⟩
theorem FO (d:zE K mg "is_pair" ZI ["thing"]) (z_len:mg "len" = none) (z_isinstance:mg "isinstance" = none) (z_tuple:mg "tuple" = none) (g_BYTE_BITS:y_ mg "BYTE_BITS" (.int 8)) (q_BYTE_BITS:∀ H,zP K H (.int 8) (.int 8)) (h_is_number:zH P w K mg base "is_number" ["thing", "width"] 1 (zO K vV)) (h_is_address:zH P w K mg base "is_address" ["thing"] 2 (zO K jP)):zH P w K mg base "is_pair" ["thing"] 3 (zO K jQ):=
 zE.okS d Hl (by decide) GT fun f cdv A outer s H E hr=>(zm (xN (Ui (Ug (jG (vU (Zw .tuple rfl rfl z_isinstance z_tuple Yw (zN (z7 0))))) (Uh (yj (gC (ye hr)) g9 (zN (t4 Yz Xe rfl z_len gt (uJ (zN (z7 0)) ue))) (zN zD) (zy _)))))
   (zd (yC wm))
   wE)
  (zd (yC (Zu (zn h_is_address hr rfl (zA (zT (zR (zJ hr)) zS (z7 0) zD) zL)) (gP (zn h_is_number hr rfl (zA (zT (zR (zJ hr)) zS (z7 0) zD) (zA (wT g_BYTE_BITS q_BYTE_BITS rfl) zL))))))))
noncomputable abbrev Z0:Stmt:=top 29
theorem UT:ze ["memory", "held", "pair"] ["memory"] (zM Z0):=⟨rfl,rfl,rfl,by decide +kernel,rfl,by decide +kernel,by decide +kernel⟩
theorem Dp (d:zE K mg "bytes_from" Z0 ["memory"]) (z_isinstance:mg "isinstance" = none) (z_list:mg "list" = none) (h_is_pair:zH P w K mg base "is_pair" ["thing"] 3 (zO K jQ)):zH P w K mg base "bytes_from" ["memory"] 4 (zO K jN):=
 zE.okS d UT (by decide) GM fun f cdv A outer s H E hr=>(zm (gR (i:=1) UT.nd rfl (Or.inl rfl) Zx)
  (zm (xN (yj JV JR (zN (z7 0)) (zN gO) (zy _))
   (zd (Y0 1))
   wE)
  (zm (xN (jG (vU (Zw .list rfl rfl z_isinstance z_list Yv (zN (z7 0)))))
   Z_
   wE)
  (zm (qp PassesOwn.never rfl (vT (z7 0)) (jE (yo (i:=2) UT.nd rfl (Or.inl rfl)) rfl)
   (zm (xN (jG (vU (zn h_is_pair hr rfl (zA (z7 2) zL))))
     Z_
     wE)
    (zm (xN (yj (gB (zJ hr)) g8 (zN (zT (zR (zJ hr)) zS (z7 2) zD)) (HG 1) (by with_unfolding_all rfl))
     Z_
     wE)
    (zd (tw (zJ hr) (qv 1) (zT (zR (zJ hr)) zS (z7 2) zD) (zT (zR (zJ hr)) zS (z7 2) zD))))))
  (zd (Y0 1))))))
noncomputable abbrev Ze:Stmt:=top 32
theorem Ht:ze ["held"] ["held"] (zM Ze):=⟨rfl,rfl,rfl,by decide +kernel,rfl,by decide +kernel,by decide +kernel⟩
theorem Fx (d:zE K mg "pairs_of" Ze ["held"]) (z_sorted:mg "sorted" = none):zH P w K mg base "pairs_of" ["held"] 1 (zO K jX):=
 zE.okS d Ht (by decide) Go fun f cdv A outer s H E hr=>(zd (tz (vp rfl (vJ (own:=["address"]) rfl) (vT (yJ (KL rfl rfl z_sorted (zA (z7 0) zL)))) (vd (fun C s H fp pn=>(yo (i:=1) (show (wR ["held"] ["address"]).Nodup by decide +kernel) rfl (Or.inl rfl))) rfl) (fun C s H fp pn=>(Uf (yj (gC (ye hr)) g9 (zN (zT (zR (zJ hr)) zS (z7 0) (z7 1))) (zN zD) (zy _)))) (fun C s H fp pn=>(xr (zA (z7 1) (zA (zT (zR (zJ hr)) zS (z7 0) (z7 1)) zL)) (yG (zV (zV yS)) (by decide)))))))
noncomputable abbrev k_:Stmt:=top 33
theorem HU:ze ["held", "address"] ["held", "address"] (zM k_):=⟨rfl,rfl,rfl,by decide +kernel,rfl,by decide +kernel,by decide +kernel⟩
theorem Do (d:zE K mg "byte_at" k_ ["held", "address"]):zH P w K mg base "byte_at" ["held", "address"] 1 (zO K jM):=
 zE.okS d HU (by decide) GL fun f cdv A outer s H E hr=>(zd (yC (K9 (zJ hr) (z7 0) (z7 1) zD ⟨rfl,rfl,rfl,rfl⟩)))
noncomputable abbrev kz:Stmt:=top 34
theorem HS:ze ["word", "number"] ["word", "number"] (zM kz):=⟨rfl,rfl,rfl,by decide +kernel,rfl,by decide +kernel,by decide +kernel⟩
theorem Dm (d:zE K mg "address_of" kz ["word", "number"]) (g_ADDRESS_BITS:y_ mg "ADDRESS_BITS" (.int 16)) (q_ADDRESS_BITS:∀ H,zP K H (.int 16) (.int 16)) (h_part:zH P w K mg base "part" ["word", "low", "width"] 1 (zO K xG)):zH P w K mg base "address_of" ["word", "number"] 2 (zO K jL):=
 zE.okS d HS (by decide) GK fun f cdv A outer s H E hr=>(zd (yC (zn h_part hr rfl (zA (zU xL xK (z7 0) (z7 1)) (zA zD (zA (wT g_ADDRESS_BITS q_ADDRESS_BITS rfl) zL))))))
noncomputable abbrev ZD:Stmt:=top 35
theorem Hg:ze ["address"] ["address"] (zM ZD):=⟨rfl,rfl,rfl,by decide +kernel,rfl,by decide +kernel,by decide +kernel⟩
theorem FC (d:zE K mg "four_from" ZD ["address"]) (z_range:mg "range" = none) (h_address_of:zH P w K mg base "address_of" ["word", "number"] 2 (zO K jL)):zH P w K mg base "four_from" ["address"] 3 (zO K jO):=
 zE.okS d Hg (by decide) GO fun f cdv A outer s H E hr=>(zd (tz (vp rfl (vJ (own:=["number"]) rfl) (qm rfl z_range zD) (vd (fun C s H fp pn=>(yo (i:=1) (show (wR ["address"] ["number"]).Nodup by decide +kernel) rfl (Or.inl rfl))) rfl) (fun C s H fp pn=>uf) (fun C s H fp pn=>(zn h_address_of hr rfl (zA (z7 0) (zA (z7 1) zL)))))))
noncomputable abbrev Zo:Stmt:=top 36
theorem Hy:ze ["held", "address"] ["held", "address"] (zM Zo):=⟨rfl,rfl,rfl,by decide +kernel,rfl,by decide +kernel,by decide +kernel⟩
theorem C7 (d:zE K mg "word_at" Zo ["held", "address"]) (h_word_of:zH P w K mg base "word_of" ["four"] 1 (zO K YC)) (h_four_from:zH P w K mg base "four_from" ["address"] 3 (zO K jO)) (h_byte_at:zH P w K mg base "byte_at" ["held", "address"] 1 (zO K jM)):zH P w K mg base "word_at" ["held", "address"] 4 (zO K YB):=
 zE.okS d Hy (by decide) Gy fun f cdv A outer s H E hr=>(zd (yC (zn h_word_of hr rfl (zA (yJ (vp rfl (vJ (own:=["one"]) rfl) (vT (yJ (uK h_four_from hr rfl (zA (z7 1) zL)))) (vd (fun C s H fp pn=>(yo (i:=2) (show (wR ["held", "address"] ["one"]).Nodup by decide +kernel) rfl (Or.inl rfl))) rfl) (fun C s H fp pn=>uf) (fun C s H fp pn=>(zn h_byte_at hr rfl (zA (z7 0) (zA (z7 2) zL)))))) zL))))
noncomputable abbrev Zg:Stmt:=top 37
theorem Hv:ze ["held", "address", "word"] ["held", "address", "word"] (zM Zg):=⟨rfl,rfl,rfl,by decide +kernel,rfl,by decide +kernel,by decide +kernel⟩
theorem Fz (d:zE K mg "put_byte" Zg ["held", "address", "word"]) (g_BYTE_BITS:y_ mg "BYTE_BITS" (.int 8)) (q_BYTE_BITS:∀ H,zP K H (.int 8) (.int 8)) (h_part:zH P w K mg base "part" ["word", "low", "width"] 1 (zO K xG)):zH P w K mg base "put_byte" ["held", "address", "word"] 2 (zk K gY):=
 zE.okM d Hv (by decide) xZ fun f cdv A outer s H E hr=>(yW (jz (zJ hr) (zx 0) (z7 1) (yh (zn h_part hr rfl (zA (z7 2) (zA zD (zA (wT g_BYTE_BITS q_BYTE_BITS rfl) zL)))))))
noncomputable abbrev Zh:Stmt:=top 38
theorem UX:ze ["held", "address", "word", "one", "byte"] ["held", "address", "word"] (zM Zh):=⟨rfl,rfl,rfl,by decide +kernel,rfl,by decide +kernel,by decide +kernel⟩
theorem F_ (d:zE K mg "put_word" Zh ["held", "address", "word"]) (z_zip:mg "zip" = none) (h_put_byte:zH P w K mg base "put_byte" ["held", "address", "word"] 2 (zk K gY)) (h_four_from:zH P w K mg base "four_from" ["address"] 3 (zO K jO)) (h_bytes_of:zH P w K mg base "bytes_of" ["word"] 2 (zO K Y9)):zH P w K mg base "put_word" ["held", "address", "word"] 4 (zk K WK):=
 zE.okM d UX (by decide) xZ fun f cdv A outer s H E hr=>(yW (Vu PassesOwn.never rfl (I_ rfl z_zip (yJ (uK h_four_from hr rfl (zA (z7 1) zL))) (zn h_bytes_of hr rfl (zA (z7 2) zL))) (Vr (gK (n:=2) rfl (uG (yo (i:=3) UX.nd rfl (Or.inl rfl)) (uG (yo (i:=4) UX.nd rfl (Or.inl rfl)) gL))) rfl rfl (by decide) (by decide))
   (yW (uD (uy h_put_byte hr rfl (vj (zx 0) (wS (z7 3) (wS (z7 4) vQ))))))))
noncomputable abbrev tu:Stmt:=uW (top 40) 0
theorem HQ:ze ["self", "words", "held"] ["self", "words", "held"] (zM tu):=⟨rfl,rfl,rfl,by decide +kernel,rfl,by decide +kernel,by decide +kernel⟩
theorem Dj {f:Addr} {fd:FuncData} (d:yu K "__init__" "State.__init__" tu f fd) (z_list:mg "list" = none) (z_dict:mg "dict" = none) (g_MARKS:y_ mg "MARKS" (.ref A_MARKS)) (q_MARKS:∀ H,zP K H pq (.ref A_MARKS)) (a_words:zl K ["State"] "words") (a_truths:zl K ["State"] "truths") (a_held:zl K ["State"] "held"):yY P w K mg base yZ 1 f fd ["self", "words", "held"] (zk K jK):=
 yu.okM d HQ (by decide) xZ fun cdv A outer s H E hr=>(yO (ua (zx 0) a_words (jy (jD rfl z_list (zA (z7 1) zL))))
  (yO (ua (zx 0) a_truths (jy (KF rfl rfl z_dict T_ (zA (yJ (vp rfl (vJ (own:=["mark"]) rfl) (vT (wT g_MARKS q_MARKS rfl)) (vd (fun C s H fp pn=>(yo (i:=3) (show (wR ["self", "words", "held"] ["mark"]).Nodup by decide +kernel) rfl (Or.inl rfl))) rfl) (fun C s H fp pn=>uf) (fun C s H fp pn=>(xr (zA (z7 3) (zA wm zL)) (yG (zV (zV yS)) (by decide)))))) zL))))
  (yW (ua (zx 0) a_held (jy (KG rfl z_dict T_ (zA (z7 2) zL)))))))
noncomputable abbrev Z9:Stmt:=top 41
theorem Hd:ze ["state", "row"] ["state", "row"] (zM Z9):=⟨rfl,rfl,rfl,by decide +kernel,rfl,by decide +kernel,by decide +kernel⟩
theorem Dy (d:zE K mg "do_set" Z9 ["state", "row"]) (a_words:zl K ["State"] "words"):zH P w K mg base "do_set" ["state", "row"] 1 (zk K WH):=
 zE.okM d Hd (by decide) xZ fun f cdv A outer s H E hr=>(yW (uE (wc (zx 0) a_words) (zT (zR (zJ hr)) zS (z7 1) zD) (yh (zT (zR (zJ hr)) zS (z7 1) zD))))
noncomputable abbrev Z4:Stmt:=top 42
theorem HX:ze ["state", "row"] ["state", "row"] (zM Z4):=⟨rfl,rfl,rfl,by decide +kernel,rfl,by decide +kernel,by decide +kernel⟩
theorem Dt (d:zE K mg "do_high" Z4 ["state", "row"]) (a_words:zl K ["State"] "words") (h_with_part:zH P w K mg base "with_part" ["word", "low", "width", "number"] 1 (zO K YA)):zH P w K mg base "do_high" ["state", "row"] 2 (zk K WE):=
 zE.okM d HX (by decide) xZ fun f cdv A outer s H E hr=>(yW (uE (wc (zx 0) a_words) (zT (zR (zJ hr)) zS (z7 1) zD) (vk (zn h_with_part hr rfl (zA (zT (zR (zJ hr)) zS (yy (z7 0) a_words) (zT (zR (zJ hr)) zS (z7 1) zD)) (zA zD (zA zD (zA (zT (zR (zJ hr)) zS (z7 1) zD) zL))))))))
noncomputable abbrev Z3:Stmt:=top 43
theorem HW:ze ["state", "row"] ["state", "row"] (zM Z3):=⟨rfl,rfl,rfl,by decide +kernel,rfl,by decide +kernel,by decide +kernel⟩
theorem Ds (d:zE K mg "do_copy" Z3 ["state", "row"]) (a_words:zl K ["State"] "words"):zH P w K mg base "do_copy" ["state", "row"] 1 (zk K WD):=
 zE.okM d HW (by decide) xZ fun f cdv A outer s H E hr=>(yW (uE (wc (zx 0) a_words) (zT (zR (zJ hr)) zS (z7 1) zD) (vk (zT (zR (zJ hr)) zS (yy (z7 0) a_words) (zT (zR (zJ hr)) zS (z7 1) zD)))))
noncomputable abbrev Zj:Stmt:=top 45
theorem Hx:ze ["kind", "one", "other", "carry"] ["kind", "one", "other", "carry"] (zM Zj):=⟨rfl,rfl,rfl,by decide +kernel,rfl,by decide +kernel,by decide +kernel⟩
theorem C2 (d:zE K mg "summed" Zj ["kind", "one", "other", "carry"]) (h_added:zH P w K mg base "added" ["one", "other", "carry"] 1 (zO K pA)) (h_taken:zH P w K mg base "taken" ["one", "other", "borrow"] 1 (zO K pL)):zH P w K mg base "summed" ["kind", "one", "other", "carry"] 2 (zO K pK):=
 zE.okS d Hx (by decide) Gs fun f cdv A outer s H E hr=>(zm (xN (yj (xE (ye hr)) xD (zN (z7 0)) (zN yA) (zy _))
   (zd (yC (zn h_added hr rfl (zA (z7 1) (zA (z7 2) (zA wm zL))))))
   wE)
  (zm (xN (yj (xE (ye hr)) xD (zN (z7 0)) (zN yA) (zy _))
   (zd (yC (zn h_added hr rfl (zA (z7 1) (zA (z7 2) (zA (z7 3) zL))))))
   wE)
  (zd (yC (zn h_taken hr rfl (zA (z7 1) (zA (z7 2) (zA (Zu (z7 3) (gP (wC (xE (ye hr)) xD (zN (z7 0)) (zN yA) (zy _)))) zL))))))))
noncomputable abbrev Zb:Stmt:=top 46
theorem Hs:ze ["state", "word"] ["state", "word"] (zM Zb):=⟨rfl,rfl,rfl,by decide +kernel,rfl,by decide +kernel,by decide +kernel⟩
theorem Fo (d:zE K mg "look_at" Zb ["state", "word"]) (g_WORD_BITS:y_ mg "WORD_BITS" (.int 32)) (q_WORD_BITS:∀ H,zP K H (.int 32) (.int 32)) (a_truths:zl K ["State"] "truths") (h_part:zH P w K mg base "part" ["word", "low", "width"] 1 (zO K xG)):zH P w K mg base "look_at" ["state", "word"] 2 (zk K tF):=
 zE.okM d Hs (by decide) xZ fun f cdv A outer s H E hr=>(yO (jz (zJ hr) (wc (zx 0) a_truths) yA (yh (wC (xE (ye hr)) xD (zN (z7 1)) (zN zD) (zy _))))
  (yW (jz (zJ hr) (wc (zx 0) a_truths) yA (yh (wC (xE (ye hr)) xD (zN (zn h_part hr rfl (zA (z7 1) (zA (zU qh qg (wT g_WORD_BITS q_WORD_BITS rfl) zD) (zA zD zL))))) (zN zD) (zy _))))))
noncomputable abbrev ZC:Stmt:=top 44
theorem Ig:ze ["state", "row", "told"] ["state", "row"] (zM ZC):=⟨rfl,rfl,rfl,by decide +kernel,rfl,by decide +kernel,by decide +kernel⟩
theorem FB (d:zE K mg "do_sum" ZC ["state", "row"]) (a_truths:zl K ["State"] "truths") (a_words:zl K ["State"] "words") (h_look_at:zH P w K mg base "look_at" ["state", "word"] 2 (zk K tF)) (h_summed:zH P w K mg base "summed" ["kind", "one", "other", "carry"] 2 (zO K pK)):zH P w K mg base "do_sum" ["state", "row"] 3 (zk K t9):=
 zE.okM d Ig (by decide) xZ fun f cdv A outer s H E hr=>(yO (vS (i:=2) Ig.nd rfl (Or.inl rfl) (by decide) (vk (zn h_summed hr rfl (zA (zT (zR (zJ hr)) zS (z7 1) zD) (zA (zT (zR (zJ hr)) zS (yy (z7 0) a_words) (zT (zR (zJ hr)) zS (z7 1) zD)) (zA (zT (zR (zJ hr)) zS (yy (z7 0) a_words) (zT (zR (zJ hr)) zS (z7 1) zD)) (zA (zT (zR (zJ hr)) zS (yy (z7 0) a_truths) yA) zL)))))))
  (yO (jz (zJ hr) (wc (zx 0) a_truths) yA (yh (zT (zR (zJ hr)) zS (z7 2) zD)))
  (yO (uD (uy h_look_at hr rfl (vj (zx 0) (wS (zT (zR (zJ hr)) zS (z7 2) zD) vQ))))
  (yW (tR (tS (yj (gC (ye hr)) g9 (zN (zT (zR (zJ hr)) zS (z7 1) zD)) (zN yA) (zy _)))
   (yW (uE (wc (zx 0) a_words) (zT (zR (zJ hr)) zS (z7 1) zD) (yh (zT (zR (zJ hr)) zS (z7 2) zD))))
   j0)))))
noncomputable abbrev ZJ:Stmt:=top 48
theorem Hm:ze ["kind", "one", "other"] ["kind", "one", "other"] (zM ZJ):=⟨rfl,rfl,rfl,by decide +kernel,rfl,by decide +kernel,by decide +kernel⟩
theorem FP (d:zE K mg "joined" ZJ ["kind", "one", "other"]):zH P w K mg base "joined" ["kind", "one", "other"] 1 (zO K pF):=
 zE.okS d Hm (by decide) GU fun f cdv A outer s H E hr=>(zm (xN (yj (xE (ye hr)) xD (zN (z7 0)) (zN yA) (zy _))
   (zd (yC (zU U2 g7 (z7 1) (z7 2))))
   wE)
  (zm (xN (yj (xE (ye hr)) xD (zN (z7 0)) (zN yA) (zy _))
   (zd (yC (zU JX g7 (z7 1) (z7 2))))
   wE)
  (zd (yC (zU CW g7 (z7 1) (z7 2))))))
noncomputable abbrev Z2:Stmt:=top 47
theorem Ie:ze ["state", "row", "word"] ["state", "row"] (zM Z2):=⟨rfl,rfl,rfl,by decide +kernel,rfl,by decide +kernel,by decide +kernel⟩
theorem Dr (d:zE K mg "do_bits" Z2 ["state", "row"]) (a_words:zl K ["State"] "words") (h_look_at:zH P w K mg base "look_at" ["state", "word"] 2 (zk K tF)) (h_joined:zH P w K mg base "joined" ["kind", "one", "other"] 1 (zO K pF)):zH P w K mg base "do_bits" ["state", "row"] 3 (zk K qF):=
 zE.okM d Ie (by decide) xZ fun f cdv A outer s H E hr=>(yO (vS (i:=2) Ie.nd rfl (Or.inl rfl) (by decide) (vk (zn h_joined hr rfl (zA (zT (zR (zJ hr)) zS (z7 1) zD) (zA (zT (zR (zJ hr)) zS (yy (z7 0) a_words) (zT (zR (zJ hr)) zS (z7 1) zD)) (zA (zT (zR (zJ hr)) zS (yy (z7 0) a_words) (zT (zR (zJ hr)) zS (z7 1) zD)) zL))))))
  (yO (uD (uy h_look_at hr rfl (vj (zx 0) (wS (z7 2) vQ))))
  (yW (uE (wc (zx 0) a_words) (zT (zR (zJ hr)) zS (z7 1) zD) (yh (z7 2))))))
noncomputable abbrev Z7:Stmt:=top 49
theorem UU:ze ["state", "row", "word", "told"] ["state", "row"] (zM Z7):=⟨rfl,rfl,rfl,by decide +kernel,rfl,by decide +kernel,by decide +kernel⟩
theorem Dw (d:zE K mg "do_move" Z7 ["state", "row"]) (a_words:zl K ["State"] "words") (a_truths:zl K ["State"] "truths") (h_look_at:zH P w K mg base "look_at" ["state", "word"] 2 (zk K tF)) (h_moved_left:zH P w K mg base "moved_left" ["word", "count"] 2 (zO K qI)) (h_moved_right:zH P w K mg base "moved_right" ["word", "count"] 2 (zO K qJ)):zH P w K mg base "do_move" ["state", "row"] 3 (zk K pB):=
 zE.okM d UU (by decide) xZ fun f cdv A outer s H E hr=>(yO (vS (i:=2) UU.nd rfl (Or.inl rfl) (by decide) (vk (zT (zR (zJ hr)) zS (yy (z7 0) a_words) (zT (zR (zJ hr)) zS (z7 1) zD))))
  (yO (vS (i:=3) UU.nd rfl (Or.inl rfl) (by decide) (yh (jB (yj (xE (ye hr)) xD (zN (zT (zR (zJ hr)) zS (z7 1) zD)) (zN yA) (zy _)) (zn h_moved_left hr rfl (zA (z7 2) (zA (zT (zR (zJ hr)) zS (z7 1) zD) zL))) (zn h_moved_right hr rfl (zA (z7 2) (zA (zT (zR (zJ hr)) zS (z7 1) zD) zL))))))
  (yO (tR (tS (yj CU Fw (zN (zT (zR (zJ hr)) zS (z7 3) zD)) (zN gO) (zy _)))
   (yW (jz (zJ hr) (wc (zx 0) a_truths) yA (yh (zT (zR (zJ hr)) zS (z7 3) zD))))
   j0)
  (yO (uD (uy h_look_at hr rfl (vj (zx 0) (wS (zT (zR (zJ hr)) zS (z7 3) zD) vQ))))
  (yW (uE (wc (zx 0) a_words) (zT (zR (zJ hr)) zS (z7 1) zD) (yh (zT (zR (zJ hr)) zS (z7 3) zD))))))))
noncomputable abbrev ku:Stmt:=top 50
theorem HR:ze ["state", "row"] ["state", "row"] (zM ku):=⟨rfl,rfl,rfl,by decide +kernel,rfl,by decide +kernel,by decide +kernel⟩
theorem Dl (d:zE K mg "address_in" ku ["state", "row"]) (a_words:zl K ["State"] "words") (h_address_of:zH P w K mg base "address_of" ["word", "number"] 2 (zO K jL)):zH P w K mg base "address_in" ["state", "row"] 3 (zO K uk):=
 zE.okS d HR (by decide) GJ fun f cdv A outer s H E hr=>(zd (yC (zn h_address_of hr rfl (zA (zT (zR (zJ hr)) zS (yy (z7 0) a_words) (zT (zR (zJ hr)) zS (z7 1) zD)) (zA (zT (zR (zJ hr)) zS (z7 1) zD) zL)))))
noncomputable abbrev Z5:Stmt:=top 51
theorem HY:ze ["state", "row"] ["state", "row"] (zM Z5):=⟨rfl,rfl,rfl,by decide +kernel,rfl,by decide +kernel,by decide +kernel⟩
theorem Du (d:zE K mg "do_load" Z5 ["state", "row"]) (a_words:zl K ["State"] "words") (a_held:zl K ["State"] "held") (h_byte_at:zH P w K mg base "byte_at" ["held", "address"] 1 (zO K jM)) (h_address_in:zH P w K mg base "address_in" ["state", "row"] 3 (zO K uk)):zH P w K mg base "do_load" ["state", "row"] 4 (zk K WF):=
 zE.okM d HY (by decide) xZ fun f cdv A outer s H E hr=>(yW (uE (wc (zx 0) a_words) (zT (zR (zJ hr)) zS (z7 1) zD) (vk (zn h_byte_at hr rfl (zA (yy (z7 0) a_held) (zA (zn h_address_in hr rfl (zA (z7 0) (zA (z7 1) zL))) zL))))))
noncomputable abbrev Z6:Stmt:=top 52
theorem HZ:ze ["state", "row"] ["state", "row"] (zM Z6):=⟨rfl,rfl,rfl,by decide +kernel,rfl,by decide +kernel,by decide +kernel⟩
theorem Dv (d:zE K mg "do_loadw" Z6 ["state", "row"]) (a_words:zl K ["State"] "words") (a_held:zl K ["State"] "held") (h_word_at:zH P w K mg base "word_at" ["held", "address"] 4 (zO K YB)) (h_address_in:zH P w K mg base "address_in" ["state", "row"] 3 (zO K uk)):zH P w K mg base "do_loadw" ["state", "row"] 5 (zk K WG):=
 zE.okM d HZ (by decide) xZ fun f cdv A outer s H E hr=>(yW (uE (wc (zx 0) a_words) (zT (zR (zJ hr)) zS (z7 1) zD) (vk (zn h_word_at hr rfl (zA (yy (z7 0) a_held) (zA (zn h_address_in hr rfl (zA (z7 0) (zA (z7 1) zL))) zL))))))
noncomputable abbrev ZA:Stmt:=top 53
theorem He:ze ["state", "row"] ["state", "row"] (zM ZA):=⟨rfl,rfl,rfl,by decide +kernel,rfl,by decide +kernel,by decide +kernel⟩
theorem Dz (d:zE K mg "do_store" ZA ["state", "row"]) (a_words:zl K ["State"] "words") (a_held:zl K ["State"] "held") (h_put_byte:zH P w K mg base "put_byte" ["held", "address", "word"] 2 (zk K gY)) (h_address_in:zH P w K mg base "address_in" ["state", "row"] 3 (zO K uk)):zH P w K mg base "do_store" ["state", "row"] 4 (zk K WI):=
 zE.okM d He (by decide) xZ fun f cdv A outer s H E hr=>(yW (uD (uy h_put_byte hr rfl (vj (wc (zx 0) a_held) (Xb (zn h_address_in hr rfl (zA (z7 0) (zA (z7 1) zL))) (Xb (zT (zR (zJ hr)) zS (yy (z7 0) a_words) (zT (zR (zJ hr)) zS (z7 1) zD)) vQ))))))
noncomputable abbrev ZB:Stmt:=top 54
theorem Hf:ze ["state", "row"] ["state", "row"] (zM ZB):=⟨rfl,rfl,rfl,by decide +kernel,rfl,by decide +kernel,by decide +kernel⟩
theorem D_ (d:zE K mg "do_storew" ZB ["state", "row"]) (a_words:zl K ["State"] "words") (a_held:zl K ["State"] "held") (h_put_word:zH P w K mg base "put_word" ["held", "address", "word"] 4 (zk K WK)) (h_address_in:zH P w K mg base "address_in" ["state", "row"] 3 (zO K uk)):zH P w K mg base "do_storew" ["state", "row"] 5 (zk K WJ):=
 zE.okM d Hf (by decide) xZ fun f cdv A outer s H E hr=>(yW (uD (uy h_put_word hr rfl (vj (wc (zx 0) a_held) (Xb (zn h_address_in hr rfl (zA (z7 0) (zA (z7 1) zL))) (Xb (zT (zR (zJ hr)) zS (yy (z7 0) a_words) (zT (zR (zJ hr)) zS (z7 1) zD)) vQ))))))
noncomputable abbrev Z8:Stmt:=top 56
theorem Hc:ze ["state", "row"] ["state", "row"] (zM Z8):=⟨rfl,rfl,rfl,by decide +kernel,rfl,by decide +kernel,by decide +kernel⟩
theorem Dx (d:zE K mg "do_row" Z8 ["state", "row"]) (g_DEEDS:y_ mg "DEEDS" (.ref A_DEEDS)) (d_DEEDS:pN K w mg A_DEEDS qV QO) (h_do_set:zH P w K mg base "do_set" ["state", "row"] 1 (zk K WH)) (h_do_high:zH P w K mg base "do_high" ["state", "row"] 2 (zk K WE)) (h_do_copy:zH P w K mg base "do_copy" ["state", "row"] 1 (zk K WD)) (h_do_sum:zH P w K mg base "do_sum" ["state", "row"] 3 (zk K t9)) (h_do_bits:zH P w K mg base "do_bits" ["state", "row"] 3 (zk K qF)) (h_do_move:zH P w K mg base "do_move" ["state", "row"] 3 (zk K pB)) (h_do_load:zH P w K mg base "do_load" ["state", "row"] 4 (zk K WF)) (h_do_loadw:zH P w K mg base "do_loadw" ["state", "row"] 5 (zk K WG)) (h_do_store:zH P w K mg base "do_store" ["state", "row"] 4 (zk K WI)) (h_do_storew:zH P w K mg base "do_storew" ["state", "row"] 5 (zk K WJ)):zH P w K mg base "do_row" ["state", "row"] 6 (zk K pC):=
 zE.okM d Hc (by decide) xZ fun f cdv A outer s H E hr=>(yW (tR (tS (Kb g_DEEDS d_DEEDS rfl (zT (zR (zJ hr)) zS (z7 1) zD)))
   (yW (uD (Bw g_DEEDS d_DEEDS rfl (xW.cons h_do_set (by decide) (xW.cons h_do_high (by decide) (xW.cons h_do_copy (by decide) (xW.cons h_do_sum (by decide) (xW.cons h_do_sum (by decide) (xW.cons h_do_sum (by decide) (xW.cons h_do_sum (by decide) (xW.cons h_do_sum (by decide) (xW.cons h_do_bits (by decide) (xW.cons h_do_bits (by decide) (xW.cons h_do_bits (by decide) (xW.cons h_do_move (by decide) (xW.cons h_do_move (by decide) (xW.cons h_do_load (by decide) (xW.cons h_do_loadw (by decide) (xW.cons h_do_store (by decide) (xW.cons h_do_storew (by decide) xW.nil))))))))))))))))) hr (zT (zR (zJ hr)) zS (z7 1) zD) (vj (zx 0) (wS (z7 1) vQ)))))
   j0))
noncomputable abbrev Za:Stmt:=top 57
theorem Hr:ze ["state", "row"] ["state", "row"] (zM Za):=⟨rfl,rfl,rfl,by decide +kernel,rfl,by decide +kernel,by decide +kernel⟩
theorem Fm (d:zE K mg "leads" Za ["state", "row"]) (a_truths:zl K ["State"] "truths"):zH P w K mg base "leads" ["state", "row"] 1 (zO K pJ):=
 zE.okS d Hr (by decide) Gj fun f cdv A outer s H E hr=>(zm (xN (yj (xE (ye hr)) xD (zN (zT (zR (zJ hr)) zS (z7 1) zD)) (zN yA) (zy _))
   (zd (yC (zT (zR (zJ hr)) zS (yy (z7 0) a_truths) (zT (zR (zJ hr)) zS (z7 1) zD))))
   wE)
  (zm (xN (yj (xE (ye hr)) xD (zN (zT (zR (zJ hr)) zS (z7 1) zD)) (zN yA) (zy _))
   (zd (yC (Iq (zT (zR (zJ hr)) zS (yy (z7 0) a_truths) (zT (zR (zJ hr)) zS (z7 1) zD)))))
   wE)
  (zd (yC (wC (xE (ye hr)) xD (zN (zT (zR (zJ hr)) zS (z7 1) zD)) (zN yA) (zy _))))))
noncomputable abbrev Zq:Stmt:=top 60
theorem H_:ze ["registers"] ["registers"] (zM Zq):=⟨rfl,rfl,rfl,by decide +kernel,rfl,by decide +kernel,by decide +kernel⟩
theorem C9 (d:zE K mg "words_from" Zq ["registers"]) (z_len:mg "len" = none) (z_isinstance:mg "isinstance" = none) (z_list:mg "list" = none) (z_all:mg "all" = none) (g_REGISTER_COUNT:y_ mg "REGISTER_COUNT" (.int 8)) (q_REGISTER_COUNT:∀ H,zP K H (.int 8) (.int 8)) (g_WORD_BITS:y_ mg "WORD_BITS" (.int 32)) (q_WORD_BITS:∀ H,zP K H (.int 32) (.int 32)) (h_is_number:zH P w K mg base "is_number" ["thing", "width"] 1 (zO K vV)):zH P w K mg base "words_from" ["registers"] 2 (zO K jZ):=
 zE.okS d H_ (by decide) G_ fun f cdv A outer s H E hr=>(zm (xN (yj JV JR (zN (z7 0)) (zN gO) (zy _))
   (zd (tz (KK (xy (zA zD zL) (yG (zV yS) (by decide))) (wT g_REGISTER_COUNT q_REGISTER_COUNT rfl))))
   wE)
  (zm (xN (Ui (Ug (jG (vU (Zw .list rfl rfl z_isinstance z_list Yv (zN (z7 0))))) (Uh (yj (gC (ye hr)) g9 (zN (t4 Yz Xe rfl z_len gt (uJ (zN (z7 0)) ue))) (zN (wT g_REGISTER_COUNT q_REGISTER_COUNT rfl)) (zy _)))))
   Z_
   wE)
  (zm (xN (jG (vU (t4 (LF rfl) Dn rfl z_all L6 (uJ (zN (yJ (vp rfl (vJ (own:=["thing"]) rfl) (vT (z7 0)) (vd (fun C s H fp pn=>(yo (i:=1) (show (wR ["registers"] ["thing"]).Nodup by decide +kernel) rfl (Or.inl rfl))) rfl) (fun C s H fp pn=>uf) (fun C s H fp pn=>(zn h_is_number hr rfl (zA (z7 1) (zA (wT g_WORD_BITS q_WORD_BITS rfl) zL))))))) ue))))
   Z_
   wE)
  (zd (tz (jD rfl z_list (zA (z7 0) zL)))))))
noncomputable abbrev tj:Stmt:=uW (top 61) 2
theorem HN:ze ["self"] ["self"] (zM tj):=⟨rfl,rfl,rfl,by decide +kernel,rfl,by decide +kernel,by decide +kernel⟩
theorem Df {f:Addr} {fd:FuncData} (d:yu K "stands" "Machine.stands" tj f fd) (a_due:zl K ["RowMachine"] "due") (a_table:zl K ["RowMachine"] "table") (a_end:zl K ["RowMachine"] "end"):yY P w K mg base yZ 1 f fd ["self"] (zO K wf):=
 yu.okF d HN (by decide) GG fun cdv A outer s H E hr=>(zd (yC (KA (wC (xE (ye hr)) xD (zN (yy (z7 0) a_due)) (zN (yy (z7 0) a_end)) (zy _)) (gP (wC (xE (ye hr)) xD (zN (zT (zR (zJ hr)) zS (zT (zR (zJ hr)) zS (yy (z7 0) a_table) (yy (z7 0) a_due)) zD)) (zN (xr (zA yA zL) (yG (zV yS) (by decide)))) (zy _))))))
noncomputable abbrev tW:Stmt:=uW (top 61) 1
theorem HI:ze ["self"] ["self"] (zM tW):=⟨rfl,rfl,rfl,by decide +kernel,rfl,by decide +kernel,by decide +kernel⟩
theorem Da {f:Addr} {fd:FuncData} (d:yu K "again" "Machine.again" tW f fd) (a_state:zl K ["RowMachine"] "state") (a_first_held:zl K ["RowMachine"] "first_held") (a_first_words:zl K ["RowMachine"] "first_words") (a_due:zl K ["RowMachine"] "due") (a_done:zl K ["RowMachine"] "done") (k_State:gZ P w K mg base "State" ["self", "words", "held"] 1 (zk K jK)):yY P w K mg base yZ 3 f fd ["self"] (zk K qE):=
 yu.okM d HI (by decide) xZ fun cdv A outer s H E hr=>(yO (ua (zx 0) a_state (JL k_State hr rfl (vj (wc (zx 0) a_first_words) (vj (wc (zx 0) a_first_held) vQ))))
  (yO (ua (zx 0) a_due (yh zD))
  (yW (ua (zx 0) a_done (yh zD)))))
noncomputable abbrev tm:Stmt:=uW (top 61) 3
theorem IZ:ze ["self", "told"] ["self"] (zM tm):=⟨rfl,rfl,rfl,by decide +kernel,rfl,by decide +kernel,by decide +kernel⟩
theorem Dg {f:Addr} {fd:FuncData} (d:yu K "step" "Machine.step" tm f fd) (a_due:zl K ["RowMachine"] "due") (a_table:zl K ["RowMachine"] "table") (a_state:zl K ["RowMachine"] "state") (a_done:zl K ["RowMachine"] "done") (v_Machine_stands:wF P w K mg base "RowMachine" "stands" ["self"] 1 (zO K wf)) (h_do_row:zH P w K mg base "do_row" ["state", "row"] 6 (zk K pC)) (h_leads:zH P w K mg base "leads" ["state", "row"] 1 (zO K pJ)):yY P w K mg base yZ 7 f fd ["self"] (zk K uj):=
 yu.okM d IZ (by decide) xZ fun cdv A outer s H E hr=>(yO (tR (tS (vU (jC v_Machine_stands hr (z7 0))))
   (yW (kQ (yh wm)))
   j0)
  (yO (vS (i:=1) IZ.nd rfl (Or.inl rfl) (by decide) (vk (zT (zR (zJ hr)) zS (yy (z7 0) a_table) (yy (z7 0) a_due))))
  (yO (uD (uy h_do_row hr rfl (vj (wc (zx 0) a_state) (wS (zT (zR (zJ hr)) zS (z7 1) zD) vQ))))
  (yO (ua (zx 0) a_due (vk (jB (vU (zn h_leads hr rfl (zA (yy (z7 0) a_state) (zA (zT (zR (zJ hr)) zS (z7 1) zD) zL)))) (zT (zR (zJ hr)) zS (z7 1) zD) (zT (zR (zJ hr)) zS (z7 1) zD))))
  (yO (DJ (zx 0) a_done zD)
  (yW (kQ (yh wm))))))))
noncomputable abbrev tf:Stmt:=uW (top 61) 5
theorem HM:ze ["self"] ["self"] (zM tf):=⟨rfl,rfl,rfl,by decide +kernel,rfl,by decide +kernel,by decide +kernel⟩
theorem De {f:Addr} {fd:FuncData} (d:yu K "registers" "Machine.registers" tf f fd) (z_list:mg "list" = none) (a_state:zl K ["RowMachine"] "state") (a_words:zl K ["State"] "words"):yY P w K mg base yZ 1 f fd ["self"] (zO K p8):=
 yu.okF d HM (by decide) GF fun cdv A outer s H E hr=>(zd (tz (jD rfl z_list (zA (yy (yy (z7 0) a_state) a_words) zL))))
noncomputable abbrev tX:Stmt:=uW (top 61) 6
theorem HJ:ze ["self"] ["self"] (zM tX):=⟨rfl,rfl,rfl,by decide +kernel,rfl,by decide +kernel,by decide +kernel⟩
theorem Db {f:Addr} {fd:FuncData} (d:yu K "marks" "Machine.marks" tX f fd) (z_tuple:mg "tuple" = none) (g_MARKS:y_ mg "MARKS" (.ref A_MARKS)) (q_MARKS:∀ H,zP K H pq (.ref A_MARKS)) (a_state:zl K ["RowMachine"] "state") (a_truths:zl K ["State"] "truths"):yY P w K mg base yZ 1 f fd ["self"] (zO K p5):=
 yu.okF d HJ (by decide) GC fun cdv A outer s H E hr=>(zd (yC (Ua Wv U1 rfl z_tuple Yw (zA (yJ (vp rfl (vJ (own:=["mark"]) rfl) (vT (wT g_MARKS q_MARKS rfl)) (vd (fun C s H fp pn=>(yo (i:=1) (show (wR ["self"] ["mark"]).Nodup by decide +kernel) rfl (Or.inl rfl))) rfl) (fun C s H fp pn=>uf) (fun C s H fp pn=>(zT (zR (zJ hr)) zS (yy (yy (z7 0) a_state) a_truths) (z7 1))))) zL))))
noncomputable abbrev tY:Stmt:=uW (top 61) 7
theorem HK:ze ["self"] ["self"] (zM tY):=⟨rfl,rfl,rfl,by decide +kernel,rfl,by decide +kernel,by decide +kernel⟩
theorem Dc {f:Addr} {fd:FuncData} (d:yu K "memory" "Machine.memory" tY f fd) (a_state:zl K ["RowMachine"] "state") (a_held:zl K ["State"] "held") (h_pairs_of:zH P w K mg base "pairs_of" ["held"] 1 (zO K jX)):yY P w K mg base yZ 2 f fd ["self"] (zO K p6):=
 yu.okF d HK (by decide) GD fun cdv A outer s H E hr=>(zd (tz (uK h_pairs_of hr rfl (zA (yy (yy (z7 0) a_state) a_held) zL))))
noncomputable abbrev tZ:Stmt:=uW (top 61) 9
theorem HL:ze ["self"] ["self"] (zM tZ):=⟨rfl,rfl,rfl,by decide +kernel,rfl,by decide +kernel,by decide +kernel⟩
theorem Dd {f:Addr} {fd:FuncData} (d:yu K "place" "Machine.place" tZ f fd) (a_due:zl K ["RowMachine"] "due"):yY P w K mg base yZ 1 f fd ["self"] (zO K p7):=
 yu.okF d HL (by decide) GE fun cdv A outer s H E hr=>(zd (yC (yy (z7 0) a_due)))
noncomputable abbrev tq:Stmt:=uW (top 61) 10
theorem HP:ze ["self"] ["self"] (zM tq):=⟨rfl,rfl,rfl,by decide +kernel,rfl,by decide +kernel,by decide +kernel⟩
theorem Dh {f:Addr} {fd:FuncData} (d:yu K "steps" "Machine.steps" tq f fd) (a_done:zl K ["RowMachine"] "done"):yY P w K mg base yZ 1 f fd ["self"] (zO K p9):=
 yu.okF d HP (by decide) GH fun cdv A outer s H E hr=>(zd (yC (yy (z7 0) a_done)))
noncomputable abbrev tV:Stmt:=uW (top 61) 0
theorem HH:ze ["self", "table", "end", "registers", "memory"] ["self", "table", "end", "registers", "memory"] (zM tV):=⟨rfl,rfl,rfl,by decide +kernel,rfl,by decide +kernel,by decide +kernel⟩
theorem DZ {f:Addr} {fd:FuncData} (d:yu K "__init__" "Machine.__init__" tV f fd) (a_table:zl K ["RowMachine"] "table") (a_end:zl K ["RowMachine"] "end") (a_first_words:zl K ["RowMachine"] "first_words") (a_first_held:zl K ["RowMachine"] "first_held") (v_Machine_again:wF P w K mg base "RowMachine" "again" ["self"] 3 (zk K qE)) (h_words_from:zH P w K mg base "words_from" ["registers"] 2 (zO K jZ)) (h_bytes_from:zH P w K mg base "bytes_from" ["memory"] 4 (zO K jN)):yY P w K mg base yZ 5 f fd ["self", "table", "end", "registers", "memory"] (zk K jI):=
 yu.okM d HH (by decide) xZ fun cdv A outer s H E hr=>(yO (ua (zx 0) a_table (yh (z7 1)))
  (yO (ua (zx 0) a_end (yh (z7 2)))
  (yO (ua (zx 0) a_first_words (yh (yJ (uK h_words_from hr rfl (zA (z7 3) zL)))))
  (yO (ua (zx 0) a_first_held (yh (yJ (uK h_bytes_from hr rfl (zA (z7 4) zL)))))
  (yW (uD (Vo v_Machine_again hr (zx 0))))))))
noncomputable abbrev Zk:Stmt:=top 64
theorem Zt:ze ["items", "rows", "table", "number", "target"] ["items"] (zM Zk):=⟨rfl,rfl,rfl,by decide +kernel,rfl,by decide +kernel,by decide +kernel⟩
theorem C3 (d:zE K mg "table_of_rows" Zk ["items"]) (z_enumerate:mg "enumerate" = none) (h_rows_of:zH P w K mg base "rows_of" ["items"] 2 (zO K qK)) (h_targets_of:zH P w K mg base "targets_of" ["items"] 3 (zO K pM)):zH P w K mg base "table_of_rows" ["items"] 4 (zO K jY):=
 zE.okS d Zt (by decide) Gu fun f cdv A outer s H E hr=>(zm (yt (i:=1) Zt.nd rfl (Or.inl rfl) (yJ (uK h_rows_of hr rfl (zA (z7 0) zL))))
  (zm (gR (i:=2) Zt.nd rfl (Or.inl rfl) Zx)
  (zm (qp PassesOwn.never rfl (KP rfl z_enumerate (yJ (uK h_targets_of hr rfl (zA (z7 0) zL)))) (KN (gK (n:=2) rfl (uG (yo (i:=3) Zt.nd rfl (Or.inl rfl)) (uG (yo (i:=4) Zt.nd rfl (Or.inl rfl)) gL))) rfl rfl)
   (zd (tw (zJ hr) (qv 2) (z7 3) (xr (zA (zT (zR (zJ hr)) zS (z7 1) (z7 3)) (zA (zU xL xK (z7 3) zD) (zA (z7 4) zL))) (yG (zV (zV (zV yS))) (by decide))))))
  (zd (Y0 2)))))
noncomputable abbrev uI:Stmt:=uW (top 63) 0
theorem Ic:ze ["self", "items", "registers", "memory", "table"] ["self", "items", "registers", "memory"] (zM uI):=⟨rfl,rfl,rfl,by decide +kernel,rfl,by decide +kernel,by decide +kernel⟩
theorem Di {f:Addr} {fd:FuncData} (d:yu K "__init__" "RowMachine.__init__" uI f fd) (z_len:mg "len" = none) (w_Machine___init__:YD P w K mg base "Machine" "__init__" ["self", "table", "end", "registers", "memory"] 5 (zk K jI)) (h_table_of_rows:zH P w K mg base "table_of_rows" ["items"] 4 (zO K jY)):yY P w K mg base yZ 6 f fd ["self", "items", "registers", "memory"] (zk K jJ):=
 yu.okM d Ic (by decide) xZ fun cdv A outer s H E hr=>(yO (vS (i:=4) Ic.nd rfl (Or.inl rfl) (by decide) (yh (yJ (uK h_table_of_rows hr rfl (zA (z7 1) zL)))))
  (yW (uD (Bu (pl:=_) w_Machine___init__ hr rfl (vj (zx 0) (wS (z7 4) (wS (t4 LL Fn rfl z_len gt (uJ (zN (z7 4)) ue)) (wS (z7 2) (wS (z7 3) vQ)))))))))
noncomputable abbrev ZN:Stmt:=top 66
theorem Hn:ze ["_law_script", "_law_k"] ["_law_script", "_law_k"] (zM ZN):=⟨rfl,rfl,rfl,by decide +kernel,rfl,by decide +kernel,by decide +kernel⟩
theorem FY (d:zE K mg "_law_cell_at" ZN ["_law_script", "_law_k"]) (z_len:mg "len" = none):zH P w K mg base "_law_cell_at" ["_law_script", "_law_k"] 1 (zO K vq):=
 zE.okS d Hn (by decide) GY fun f cdv A outer s H E hr=>(zm (xN (yj Xg ub (zN (z7 1)) (zN (t4 Yz Xe rfl z_len gt (uJ (zN (z7 0)) ue))) (zy _))
   (zd (yC (zT (zR (zJ hr)) zS (z7 0) (z7 1))))
   wE)
  (zd (yC zD)))
noncomputable abbrev ZR:Stmt:=top 67
theorem Ii:ze ["_law_cell", "_law_k", "_law_number"] ["_law_cell", "_law_k"] (zM ZR):=⟨rfl,rfl,rfl,by decide +kernel,rfl,by decide +kernel,by decide +kernel⟩
theorem Fc (d:zE K mg "_law_mixed" ZR ["_law_cell", "_law_k"]):zH P w K mg base "_law_mixed" ["_law_cell", "_law_k"] 1 (zO K wO):=
 zE.okS d Ii (by decide) Gc fun f cdv A outer s H E hr=>(zm (yt (i:=2) Ii.nd rfl (Or.inl rfl) (zU xB xA (zU vn U0 (zU xL xK (z7 0) (zU vn uz zD (z7 1))) zD) zD))
  (zd (yC (zU xB xA (zU xL xK (zU xL xK (zU kW kS (z7 2) (z7 2)) (zU vn uz zD (z7 2))) (z7 1)) zD))))
noncomputable abbrev ZY:Stmt:=top 69
theorem Xu:ze ["_law_cell", "_law_k", "_law_way", "_law_number", "_law_some"] ["_law_cell", "_law_k"] (zM ZY):=⟨rfl,rfl,rfl,by decide +kernel,rfl,by decide +kernel,by decide +kernel⟩
theorem Fj (d:zE K mg "_law_word" ZY ["_law_cell", "_law_k"]) (h_law_mixed:zH P w K mg base "_law_mixed" ["_law_cell", "_law_k"] 1 (zO K wO)):zH P w K mg base "_law_word" ["_law_cell", "_law_k"] 2 (zO K jV):=
 zE.okS d Xu (by decide) Gh fun f cdv A outer s H E hr=>(zm (yt (i:=2) Xu.nd rfl (Or.inl rfl) (zU xB xA (zn h_law_mixed hr rfl (zA (z7 0) (zA (zU vn uz zD (z7 1)) zL))) zD))
  (zm (yt (i:=3) Xu.nd rfl (Or.inl rfl) (zn h_law_mixed hr rfl (zA (z7 0) (zA (zU xL xK (zU vn uz zD (z7 1)) zD) zL))))
  (zm (yt (i:=4) Xu.nd rfl (Or.inl rfl) (yJ (xy (zA zD (zA zD (zA zD (zA zD (zA (zU xB xA (z7 3) zD) (zA (zU xL xK zD (zU xB xA (z7 3) zD)) zL)))))) (yG (zV (zV (zV (zV (zV (zV yS)))))) (by decide)))))
  (zd (yC (zT (zR (zJ hr)) zS (zU xL xK (z7 4) (yJ (xy (zA (zU xB xA (zU vn U0 (z7 3) zD) zD) (zA (zU xB xA (zU vn U0 (z7 3) zD) zD) zL)) (yG (zV (zV yS)) (by decide))))) (z7 2)))))))
noncomputable abbrev ZZ:Stmt:=top 70
theorem Hq:ze ["_law_cell"] ["_law_cell"] (zM ZZ):=⟨rfl,rfl,rfl,by decide +kernel,rfl,by decide +kernel,by decide +kernel⟩
theorem Fk (d:zE K mg "_law_words" ZZ ["_law_cell"]) (z_range:mg "range" = none) (h_law_word:zH P w K mg base "_law_word" ["_law_cell", "_law_k"] 2 (zO K jV)):zH P w K mg base "_law_words" ["_law_cell"] 3 (zO K jW):=
 zE.okS d Hq (by decide) Gi fun f cdv A outer s H E hr=>(zd (tz (vp rfl (vJ (own:=["_law_k"]) rfl) (qm rfl z_range zD) (vd (fun C s H fp pn=>(yo (i:=1) (show (wR ["_law_cell"] ["_law_k"]).Nodup by decide +kernel) rfl (Or.inl rfl))) rfl) (fun C s H fp pn=>uf) (fun C s H fp pn=>(zn h_law_word hr rfl (zA (z7 0) (zA (z7 1) zL)))))))
noncomputable abbrev ZU:Stmt:=top 68
theorem Xs:ze ["_law_count", "_law_number", "_law_turn"] ["_law_count"] (zM ZU):=⟨rfl,rfl,rfl,by decide +kernel,rfl,by decide +kernel,by decide +kernel⟩
theorem Ff (d:zE K mg "_law_power" ZU ["_law_count"]) (z_range:mg "range" = none):zH P w K mg base "_law_power" ["_law_count"] 1 (zO K jU):=
 zE.okS d Xs (by decide) Ge fun f cdv A outer s H E hr=>(zm (yt (i:=1) Xs.nd rfl (Or.inl rfl) zD)
  (zm (qp PassesOwn.never rfl (qm rfl z_range (z7 0)) (jE (yo (i:=2) Xs.nd rfl (Or.inl rfl)) rfl)
   (zd (yt (i:=1) Xs.nd rfl (Or.inl rfl) (zU vn uz zD (z7 1)))))
  (zd (yC (z7 1)))))
noncomputable abbrev ZX:Stmt:=top 71
theorem Xt:ze ["_law_kind", "_law_one", "_law_other", "_law_carry", "_law_more", "_law_total"] ["_law_kind", "_law_one", "_law_other", "_law_carry"] (zM ZX):=⟨rfl,rfl,rfl,by decide +kernel,rfl,by decide +kernel,by decide +kernel⟩
theorem Fi (d:zE K mg "_law_sum" ZX ["_law_kind", "_law_one", "_law_other", "_law_carry"]) (z_int:mg "int" = none):zH P w K mg base "_law_sum" ["_law_kind", "_law_one", "_law_other", "_law_carry"] 1 (zO K pI):=
 zE.okS d Xt (by decide) Gg fun f cdv A outer s H E hr=>(zm (yt (i:=4) Xt.nd rfl (Or.inl rfl) (K8 LJ FD rfl z_int Q0 (uJ (zN (Zu (z7 3) (gP (wC (gB (zJ hr)) g8 (zN (z7 0)) (zN (yJ (xy (zA yA (zA yA zL)) (yG (zV (zV yS)) (by decide))))) (by with_unfolding_all rfl))))) ue)))
  (zm (yt (i:=5) Xt.nd rfl (Or.inl rfl) (zU qh qg (zU qh qg (z7 1) (z7 2)) (z7 4)))
  (zm (xN (yj (gB (zJ hr)) g8 (zN (z7 0)) (zN (yJ (xy (zA yA (zA yA zL)) (yG (zV (zV yS)) (by decide))))) (by with_unfolding_all rfl))
   (zd (yt (i:=5) Xt.nd rfl (Or.inl rfl) (zU xL xK (zU xL xK (z7 1) (z7 2)) (z7 4))))
   wE)
  (zd (yC (xr (zA (zU xB xA (z7 5) zD) (zA (Iq (K7 JW ub Xg ub (zN zD) (zN (z7 5)) (zN zD))) zL)) (yG (zV (zV yS)) (by decide))))))))
noncomputable abbrev ZM:Stmt:=top 72
theorem ql:ze ["_law_kind", "_law_one", "_law_other", "_law_found", "_law_worth", "_law_turn", "_law_here", "_law_there"] ["_law_kind", "_law_one", "_law_other"] (zM ZM):=⟨rfl,rfl,rfl,by decide +kernel,rfl,by decide +kernel,by decide +kernel⟩
theorem FW (d:zE K mg "_law_bitwise" ZM ["_law_kind", "_law_one", "_law_other"]) (z_range:mg "range" = none) (z_max:mg "max" = none):zH P w K mg base "_law_bitwise" ["_law_kind", "_law_one", "_law_other"] 1 (zO K pG):=
 zE.okS d ql (by decide) GX fun f cdv A outer s H E hr=>(zm (yt (i:=3) ql.nd rfl (Or.inl rfl) zD)
  (zm (yt (i:=4) ql.nd rfl (Or.inl rfl) zD)
  (zm (qp PassesOwn.never rfl (qm rfl z_range zD) (jE (yo (i:=5) ql.nd rfl (Or.inl rfl)) rfl)
   (zm (yt (i:=6) ql.nd rfl (Or.inl rfl) (zU xB xA (zU j4 j2 (z7 1) (z7 4)) zD))
    (zm (yt (i:=7) ql.nd rfl (Or.inl rfl) (zU xB xA (zU j4 j2 (z7 2) (z7 4)) zD))
    (zm (O1 (i:=3) Q_ JQ ql.nd rfl (Or.inl rfl) (zU kW kS (z7 4) (zT (zR (zJ hr)) zS (yJ (KH (UZ (zU kW kS (z7 6) (z7 7)) (UZ (t4 (LQ rfl) Fp rfl z_max L8 (uJ (zN (z7 6)) (uJ (zN (z7 7)) ue))) (UZ (zU xB xA (zU xL xK (z7 6) (z7 7)) zD) K6))) (by decide +kernel) (by decide))) (z7 0))))
    (zd (yt (i:=4) ql.nd rfl (Or.inl rfl) (zU vn uz zD (z7 4))))))))
  (zd (yC (z7 3))))))
noncomputable abbrev ZV:Stmt:=top 73
theorem Ij:ze ["_law_kind", "_law_word_here", "_law_count", "_law_worth"] ["_law_kind", "_law_word_here", "_law_count"] (zM ZV):=⟨rfl,rfl,rfl,by decide +kernel,rfl,by decide +kernel,by decide +kernel⟩
theorem Fg (d:zE K mg "_law_shifted" ZV ["_law_kind", "_law_word_here", "_law_count"]) (h_law_power:zH P w K mg base "_law_power" ["_law_count"] 1 (zO K jU)):zH P w K mg base "_law_shifted" ["_law_kind", "_law_word_here", "_law_count"] 2 (zO K qH):=
 zE.okS d Ij (by decide) Gf fun f cdv A outer s H E hr=>(zm (yt (i:=3) Ij.nd rfl (Or.inl rfl) (zn h_law_power hr rfl (zA (z7 2) zL)))
  (zm (xN (yj (xE (ye hr)) xD (zN (z7 0)) (zN yA) (zy _))
   (zd (yC (xr (zA (zU xB xA (zU kW kS (z7 1) (z7 3)) zD) (zA (wC (xE (ye hr)) xD (zN (zU xB xA (zU j4 j2 (zU kW kS (z7 1) (z7 3)) zD) zD)) (zN zD) (zy _)) zL)) (yG (zV (zV yS)) (by decide)))))
   wE)
  (zd (yC (xr (zA (zU j4 j2 (z7 1) (z7 3)) (zA (Zu (wC U3 ub (zN (z7 3)) (zN zD) (zy _)) (gP (wC (xE (ye hr)) xD (zN (zU xB xA (zU j4 j2 (z7 1) (zU j4 j2 (z7 3) zD)) zD)) (zN zD) (zy _)))) zL)) (yG (zV (zV yS)) (by decide)))))))
noncomputable abbrev ZO:Stmt:=top 74
theorem gN:ze ["_law_row", "_law_s", "_law_one", "_law_word_here", "_law_fell"] ["_law_row", "_law_s"] (zM ZO):=⟨rfl,rfl,rfl,by decide +kernel,rfl,by decide +kernel,by decide +kernel⟩
theorem FZ (d:zE K mg "_law_deed" ZO ["_law_row", "_law_s"]) (h_law_shifted:zH P w K mg base "_law_shifted" ["_law_kind", "_law_word_here", "_law_count"] 2 (zO K qH)) (h_law_bitwise:zH P w K mg base "_law_bitwise" ["_law_kind", "_law_one", "_law_other"] 1 (zO K pG)) (h_law_sum:zH P w K mg base "_law_sum" ["_law_kind", "_law_one", "_law_other", "_law_carry"] 1 (zO K pI)):zH P w K mg base "_law_deed" ["_law_row", "_law_s"] 3 (zk K tD):=
 zE.okM d gN (by decide) xZ fun f cdv A outer s H E hr=>(yO (vS (i:=2) gN.nd rfl (Or.inl rfl) (by decide) (vk (zT (zR (zJ hr)) zS (zT (zR (zJ hr)) zS (z7 1) yA) (zT (zR (zJ hr)) zS (z7 0) zD))))
  (yO (tR (tS (yj (gB (zJ hr)) g8 (zN (zT (zR (zJ hr)) zS (z7 0) zD)) (zN (yJ (xy (zA yA (zA yA zL)) (yG (zV (zV yS)) (by decide))))) (by with_unfolding_all rfl)))
   (yO (DI (yh (zn h_law_shifted hr rfl (zA (zT (zR (zJ hr)) zS (z7 0) zD) (zA (z7 2) (zA (zT (zR (zJ hr)) zS (z7 0) zD) zL))))) (Vr (gK (n:=2) rfl (uG (yo (i:=3) gN.nd rfl (Or.inl rfl)) (uG (yo (i:=4) gN.nd rfl (Or.inl rfl)) gL))) rfl rfl (by decide) (by decide)))
    (yW (tR (tS (yj U3 ub (zN (zT (zR (zJ hr)) zS (z7 0) zD)) (zN zD) (zy _)))
     (yW (uE (Zz (zx 1)) zD (yh (z7 4))))
     j0)))
   (yW (tR (tS (yj (gB (zJ hr)) g8 (zN (zT (zR (zJ hr)) zS (z7 0) zD)) (zN (yJ (xy (zA yA (zA yA (zA yA zL))) (yG (zV (zV (zV yS))) (by decide))))) (by with_unfolding_all rfl)))
     (yW (vS (i:=3) gN.nd rfl (Or.inl rfl) (by decide) (vk (zn h_law_bitwise hr rfl (zA (zT (zR (zJ hr)) zS (z7 0) zD) (zA (z7 2) (zA (zT (zR (zJ hr)) zS (zT (zR (zJ hr)) zS (z7 1) yA) (zT (zR (zJ hr)) zS (z7 0) zD)) zL)))))))
     (yW (DK rfl (yo (i:=3) gN.nd rfl (Or.inl rfl)) rfl (by decide) (Zz (zx 1)) zD (vk (zn h_law_sum hr rfl (zA (zT (zR (zJ hr)) zS (z7 0) zD) (zA (z7 2) (zA (zT (zR (zJ hr)) zS (zT (zR (zJ hr)) zS (z7 1) yA) (zT (zR (zJ hr)) zS (z7 0) zD)) (zA (zT (zR (zJ hr)) zS (zT (zR (zJ hr)) zS (z7 1) yA) zD) zL)))))))))))
  (yO (uE (Zz (zx 1)) zD (yh (wC (xE (ye hr)) xD (zN (z7 3)) (zN zD) (zy _))))
  (yO (uE (Zz (zx 1)) zD (yh (wC JU ub (zN (z7 3)) (zN zD) (zy _))))
  (yW (tR (tS (yj (gC (ye hr)) g9 (zN (zT (zR (zJ hr)) zS (z7 0) zD)) (zN yA) (zy _)))
   (yW (uE (Zz (zx 1)) (zT (zR (zJ hr)) zS (z7 0) zD) (yh (z7 3))))
   j0))))))
noncomputable abbrev ZL:Stmt:=top 75
theorem Xr:ze ["_law_words_here", "_law_pairs_here", "_law_cells", "_law_address", "_law_byte"] ["_law_words_here", "_law_pairs_here"] (zM ZL):=⟨rfl,rfl,rfl,by decide +kernel,rfl,by decide +kernel,by decide +kernel⟩
theorem FV (d:zE K mg "_law_begin" ZL ["_law_words_here", "_law_pairs_here"]) (z_list:mg "list" = none):zH P w K mg base "_law_begin" ["_law_words_here", "_law_pairs_here"] 1 (zk K gW):=
 zE.okM d Xr (by decide) xZ fun f cdv A outer s H E hr=>(yO (vS (i:=2) Xr.nd rfl (Or.inl rfl) (by decide) (jy Zx))
  (yO (Vu PassesOwn.never rfl (vT (z7 1)) (Vr (gK (n:=2) rfl (uG (yo (i:=3) Xr.nd rfl (Or.inl rfl)) (uG (yo (i:=4) Xr.nd rfl (Or.inl rfl)) gL))) rfl rfl (by decide) (by decide))
   (yW (jz (zJ hr) (zx 2) (z7 3) (yh (z7 4)))))
  (yW (kQ (B_ (ks:=["words", "marks", "bytes", "at", "many"]) (kN (jy (jD rfl z_list (zA (z7 0) zL))) (kN (jy (xy (zA wm (zA wm (zA wm zL))) (yG (zV (zV (zV yS))) (by decide)))) (kN (By 2) (kN (yh zD) (kN (yh zD) DA))))) (by decide +kernel) (by decide))))))
noncomputable abbrev ZS:Stmt:=top 76
theorem Zs:ze ["_law_cell", "_law_found", "_law_k", "_law_way", "_law_address"] ["_law_cell"] (zM ZS):=⟨rfl,rfl,rfl,by decide +kernel,rfl,by decide +kernel,by decide +kernel⟩
theorem Fd (d:zE K mg "_law_pairs" ZS ["_law_cell"]) (z_range:mg "range" = none) (h_law_mixed:zH P w K mg base "_law_mixed" ["_law_cell", "_law_k"] 1 (zO K wO)):zH P w K mg base "_law_pairs" ["_law_cell"] 2 (zO K jS):=
 zE.okS d Zs (by decide) Gd fun f cdv A outer s H E hr=>(zm (gR (i:=1) Zs.nd rfl (Or.inl rfl) (xy zL (yG yS (by decide))))
  (zm (qp PassesOwn.never rfl (qm rfl z_range (zU xB xA (zn h_law_mixed hr rfl (zA (z7 0) (zA zD zL))) zD)) (jE (yo (i:=2) Zs.nd rfl (Or.inl rfl)) rfl)
   (zm (yt (i:=3) Zs.nd rfl (Or.inl rfl) (zn h_law_mixed hr rfl (zA (z7 0) (zA (zU xL xK zD (z7 2)) zL))))
    (zm (yt (i:=4) Zs.nd rfl (Or.inl rfl) (zT (zR (zJ hr)) zS (yJ (xy (zA (zU xB xA (z7 3) zD) (zA (zU xL xK zD (zU xB xA (z7 3) zD)) (zA (zU xB xA (z7 3) zD) zL))) (yG (zV (zV (zV yS))) (by decide)))) (zU xB xA (zn h_law_mixed hr rfl (zA (z7 0) (zA (zU xL xK zD (z7 2)) zL))) zD)))
    (zd (xN (Kc (yj (CQ (zJ hr)) Fv (zN (z7 4)) (zN (yJ (vp rfl (vJ (own:=["_law_pair"]) rfl) (vT (z7 1)) (vd (fun C s H fp pn=>(yo (i:=5) (show (wR ["_law_cell", "_law_found", "_law_k", "_law_way", "_law_address"] ["_law_pair"]).Nodup by decide +kernel) rfl (Or.inl rfl))) rfl) (fun C s H fp pn=>uf) (fun C s H fp pn=>(zT (zR (zJ hr)) zS (z7 5) zD))))) (by with_unfolding_all rfl)))
     (zd (O0 (qv 1) (xr (zA (z7 4) (zA (zT (zR (zJ hr)) zS (yJ (xy (zA (zU xB xA (zn h_law_mixed hr rfl (zA (z7 0) (zA (zU xL xK zD (z7 2)) zL))) zD) (zA zD (zA zD zL))) (yG (zV (zV (zV yS))) (by decide)))) (zU xB xA (zn h_law_mixed hr rfl (zA (z7 0) (zA (zU xL xK zD (z7 2)) zL))) zD)) zL)) (yG (zV (zV yS)) (by decide)))))
     wE)))))
  (zd (Y0 1))))
noncomputable abbrev ZQ:Stmt:=top 77
theorem UV:ze ["_law_machine", "_law_cell", "_law_found", "_law_k"] ["_law_machine", "_law_cell"] (zM ZQ):=⟨rfl,rfl,rfl,by decide +kernel,rfl,by decide +kernel,by decide +kernel⟩
theorem Fb (d:zE K mg "_law_look" ZQ ["_law_machine", "_law_cell"]) (z_repr:mg "repr" = none) (z_range:mg "range" = none) (v_Machine_registers:wF P w K mg base "RowMachine" "registers" ["self"] 1 (zO K p8)) (v_Machine_marks:wF P w K mg base "RowMachine" "marks" ["self"] 1 (zO K p5)) (v_Machine_memory:wF P w K mg base "RowMachine" "memory" ["self"] 2 (zO K p6)) (v_Machine_place:wF P w K mg base "RowMachine" "place" ["self"] 1 (zO K p7)) (v_Machine_steps:wF P w K mg base "RowMachine" "steps" ["self"] 1 (zO K p9)) (v_Machine_stands:wF P w K mg base "RowMachine" "stands" ["self"] 1 (zO K wf)):zH P w K mg base "_law_look" ["_law_machine", "_law_cell"] 3 (zO K qG):=
 zE.okS d UV (by decide) Gb fun f cdv A outer s H E hr=>(zm (gR (i:=2) UV.nd rfl (Or.inr rfl) Zx)
  (zm (qp PassesOwn.never rfl (vT (zT (zR (zJ hr)) zS (yJ (xy (zA (yJ (xy (Xq (is:=[0,1,2,3,4,5]) rfl) (yG (YK (n:=6) (by decide)) (by decide)))) (zA (yJ (xy (Xq (is:=[5,4,3,2,1,0]) rfl) (yG (YK (n:=6) (by decide)) (by decide)))) (zA (yJ (xy (Xq (is:=[2,4,0,5,1,3]) rfl) (yG (YK (n:=6) (by decide)) (by decide)))) (zA (yJ (xy (Xq (is:=[3,1,5,0,4,2]) rfl) (yG (YK (n:=6) (by decide)) (by decide)))) zL)))) (yG (zV (zV (zV (zV yS)))) (by decide)))) (zU xB xA (z7 1) zD))) (jE (yo (i:=3) UV.nd rfl (Or.inl rfl)) rfl)
   (zd (xN (yj (xE (ye hr)) xD (zN (z7 3)) (zN zD) (zy _))
     (zd (tw (zJ hr) (qv 2) (z7 3) (jC v_Machine_registers hr (z7 0))))
     (zd (xN (yj (xE (ye hr)) xD (zN (z7 3)) (zN zD) (zy _))
       (zd (tw (zJ hr) (qv 2) (z7 3) (jC v_Machine_marks hr (z7 0))))
       (zd (xN (yj (xE (ye hr)) xD (zN (z7 3)) (zN zD) (zy _))
         (zd (tw (zJ hr) (qv 2) (z7 3) (jC v_Machine_memory hr (z7 0))))
         (zd (xN (yj (xE (ye hr)) xD (zN (z7 3)) (zN zD) (zy _))
           (zd (tw (zJ hr) (qv 2) (z7 3) (jC v_Machine_place hr (z7 0))))
           (zd (xN (yj (xE (ye hr)) xD (zN (z7 3)) (zN zD) (zy _))
             (zd (tw (zJ hr) (qv 2) (z7 3) (jC v_Machine_steps hr (z7 0))))
             (zd (tw (zJ hr) (qv 2) (z7 3) (jC v_Machine_stands hr (z7 0)))))))))))))))
  (O2 2 (zd (yC (t4 (Q5 hr) JS rfl z_repr Q3 (uJ (zN (yJ (vp rfl (vJ (own:=["_law_k"]) rfl) (qm rfl z_range zD) (vd (fun C s H fp pn=>(yo (i:=4) (show (wR ["_law_machine", "_law_cell", "_law_found", "_law_k"] ["_law_k"]).Nodup by decide +kernel) rfl (Or.inl rfl))) rfl) (fun C s H fp pn=>uf) (fun C s H fp pn=>(zT (zR (zJ hr)) zS (z7 2) (z7 4)))))) ue)))))))
noncomputable abbrev ZP:Stmt:=top 78
theorem Ih:ze ["_law_s", "_law_stands", "_law_cells"] ["_law_s", "_law_stands"] (zM ZP):=⟨rfl,rfl,rfl,by decide +kernel,rfl,by decide +kernel,by decide +kernel⟩
theorem Fa (d:zE K mg "_law_due" ZP ["_law_s", "_law_stands"]) (z_sorted:mg "sorted" = none) (z_list:mg "list" = none) (z_repr:mg "repr" = none) (z_tuple:mg "tuple" = none):zH P w K mg base "_law_due" ["_law_s", "_law_stands"] 1 (zO K pH):=
 zE.okS d Ih (by decide) GZ fun f cdv A outer s H E hr=>(zm (KZ (i:=2) rfl Ih.nd rfl rfl (vJ (own:=["_law_address"]) rfl) rfl (vT (yJ (KM rfl z_sorted (zA (yJ (KJ rfl rfl z_list (zA (zT (zR (zJ hr)) zS (z7 0) yA) zL))) zL)))) (vd (fun C s H fp pn=>(yo (i:=3) (show (wR ["_law_s", "_law_stands", "_law_cells"] ["_law_address"]).Nodup by decide +kernel) rfl (Or.inl rfl))) rfl) (fun C s H fp pn=>(Uf (yj U3 ub (zN (zT (zR (zJ hr)) zS (zT (zR (zJ hr)) zS (z7 0) yA) (z7 3))) (zN zD) (zy _)))) (fun C s H fp pn=>(xr (zA (z7 3) (zA (zT (zR (zJ hr)) zS (zT (zR (zJ hr)) zS (z7 0) yA) (z7 3)) zL)) (yG (zV (zV yS)) (by decide)))))
  (zd (yC (t4 (Q5 hr) JS rfl z_repr Q3 (uJ (zN (yJ (xy (zA (zT (zR (zJ hr)) zS (z7 0) yA) (zA (Ua Wv U1 rfl z_tuple Yw (zA (zT (zR (zJ hr)) zS (z7 0) yA) zL)) (zA (z7 2) (zA (zT (zR (zJ hr)) zS (z7 0) yA) (zA (zT (zR (zJ hr)) zS (z7 0) yA) (zA (z7 1) zL)))))) (yG (zV (zV (zV (zV (zV (zV yS)))))) (by decide))))) ue)))))
noncomputable abbrev ZW:Stmt:=top 79
theorem Ho:ze ["_law_row", "_law_s"] ["_law_row", "_law_s"] (zM ZW):=⟨rfl,rfl,rfl,by decide +kernel,rfl,by decide +kernel,by decide +kernel⟩
theorem Fh (d:zE K mg "_law_straight" ZW ["_law_row", "_law_s"]) (h_law_deed:zH P w K mg base "_law_deed" ["_law_row", "_law_s"] 3 (zk K tD)):zH P w K mg base "_law_straight" ["_law_row", "_law_s"] 4 (zk K gX):=
 zE.okM d Ho (by decide) xZ fun f cdv A outer s H E hr=>(yO (uD (uy h_law_deed hr rfl (wS (z7 0) (vj (zx 1) vQ))))
  (yO (JM (zJ hr) (zx 1) zD)
  (yW (JM (zJ hr) (zx 1) zD))))
noncomputable abbrev ZT:Stmt:=top 80
theorem jA:ze ["_law_script", "_law_rows", "_law_words_here", "_law_pairs_here", "_law_machine", "_law_s", "_law_k", "_law_order"] ["_law_script", "_law_rows"] (zM ZT):=⟨rfl,rfl,rfl,by decide +kernel,rfl,by decide +kernel,by decide +kernel⟩
theorem Fe (d:zE K mg "_law_played" ZT ["_law_script", "_law_rows"]) (z_list:mg "list" = none) (z_range:mg "range" = none) (z_len:mg "len" = none) (k_RowMachine:gZ P w K mg base "RowMachine" ["self", "items", "registers", "memory"] 6 (zk K jJ)) (v_Machine_step:wF P w K mg base "RowMachine" "step" ["self"] 7 (zk K uj)) (h_law_begin:zH P w K mg base "_law_begin" ["_law_words_here", "_law_pairs_here"] 1 (zk K gW)) (h_law_straight:zH P w K mg base "_law_straight" ["_law_row", "_law_s"] 4 (zk K gX)) (h_law_words:zH P w K mg base "_law_words" ["_law_cell"] 3 (zO K jW)) (h_law_cell_at:zH P w K mg base "_law_cell_at" ["_law_script", "_law_k"] 1 (zO K vq)) (h_law_pairs:zH P w K mg base "_law_pairs" ["_law_cell"] 2 (zO K jS)) (h_law_look:zH P w K mg base "_law_look" ["_law_machine", "_law_cell"] 3 (zO K qG)) (h_law_due:zH P w K mg base "_law_due" ["_law_s", "_law_stands"] 1 (zO K pH)):zH P w K mg base "_law_played" ["_law_script", "_law_rows"] 9 (zk K jT):=
 zE.okM d jA (by decide) xZ fun f cdv A outer s H E hr=>(yO (vS (i:=2) jA.nd rfl (Or.inl rfl) (by decide) (yh (yJ (uK h_law_words hr rfl (zA (zn h_law_cell_at hr rfl (zA (z7 0) (zA zD zL))) zL)))))
  (yO (vS (i:=3) jA.nd rfl (Or.inl rfl) (by decide) (yh (yJ (uK h_law_pairs hr rfl (zA (zn h_law_cell_at hr rfl (zA (z7 0) (zA zD zL))) zL)))))
  (yO (vS (i:=4) jA.nd rfl (Or.inl rfl) (by decide) (JL k_RowMachine hr rfl (wS (yJ (jD rfl z_list (zA (z7 1) zL))) (wS (yJ (jD rfl z_list (zA (z7 2) zL))) (wS (yJ (jD rfl z_list (zA (z7 3) zL))) vQ)))))
  (yO (vS (i:=5) jA.nd rfl (Or.inl rfl) (by decide) (uy h_law_begin hr rfl (wS (z7 2) (wS (z7 3) vQ))))
  (yO (Vu PassesOwn.never rfl (qm rfl z_range (t4 Yz Xe rfl z_len gt (uJ (zN (z7 1)) ue))) (DE (yo (i:=6) jA.nd rfl (Or.inl rfl)) rfl (by decide))
   (yO (tR (DP (DN (tS (yj (gC (ye hr)) g9 (zN (zn h_law_look hr rfl (zA (z7 4) (zA (zU xL xK (zn h_law_cell_at hr rfl (zA (z7 0) (zA zD zL))) (z7 6)) zL)))) (zN (zn h_law_due hr rfl (zA (z7 5) (zA wm zL)))) (zy _))) (DO (DM CO Fu (Vo v_Machine_step hr (zx 4)) (yh wm) (zy _)))))
     (yW (kQ (yh wm)))
     j0)
    (yW (uD (uy h_law_straight hr rfl (wS (zT (zR (zJ hr)) zS (z7 1) (z7 6)) (vj (zx 5) vQ)))))))
  (yO (vS (i:=7) jA.nd rfl (Or.inl rfl) (by decide) (yh (zU j4 j2 (zn h_law_cell_at hr rfl (zA (z7 0) (zA zD zL))) zD)))
  (yW (kQ (Bt (vk (wC (xE (ye hr)) xD (zN (zn h_law_look hr rfl (zA (z7 4) (zA (z7 7) zL)))) (zN (zn h_law_due hr rfl (zA (z7 5) (zA wm zL)))) (zy _))) (Bz (Bv CM FH (Vo v_Machine_step hr (zx 4)) (yh wm) (zy _))))))))))))
noncomputable abbrev j9:Stmt:=top 81
theorem qk:ze ["_law_script", "_law_rows", "_law_k", "_law_cell", "_law_d", "_law_s", "_law_count", "_law_some"] ["_law_script"] (zM j9):=⟨rfl,rfl,rfl,by decide +kernel,rfl,by decide +kernel,by decide +kernel⟩
theorem FU {f:Addr} {fd:FuncData} (d:Fun K "law" "law" j9 f fd) (z_range:mg "range" = none) (h_law_cell_at:zH P w K mg base "_law_cell_at" ["_law_script", "_law_k"] 1 (zO K vq)) (h_law_mixed:zH P w K mg base "_law_mixed" ["_law_cell", "_law_k"] 1 (zO K wO)) (h_law_played:zH P w K mg base "_law_played" ["_law_script", "_law_rows"] 9 (zO K (pp jT))):yY P w K mg base yZ 10 f fd ["_law_script"] (Zy K):=
 Be d qk (by decide) GW fun cdv A outer s H E hr=>(zm (gR (i:=1) qk.nd rfl (Or.inl rfl) (xy zL (yG yS (by decide))))
  (zm (qp PassesOwn.never rfl (qm rfl z_range (zU xL xK zD (zU xB xA (zn h_law_cell_at hr rfl (zA (z7 0) (zA zD zL))) zD))) (jE (yo (i:=2) qk.nd rfl (Or.inl rfl)) rfl)
   (zm (yt (i:=3) qk.nd rfl (Or.inl rfl) (zn h_law_cell_at hr rfl (zA (z7 0) (zA (zU xL xK zD (z7 2)) zL))))
    (zm (yt (i:=4) qk.nd rfl (Or.inl rfl) (zU xB xA (zn h_law_mixed hr rfl (zA (z7 3) (zA (zU vn uz zD (z7 2)) zL))) zD))
    (zm (yt (i:=5) qk.nd rfl (Or.inl rfl) (zU xB xA (zn h_law_mixed hr rfl (zA (z7 3) (zA (zU xL xK (zU vn uz zD (z7 2)) zD) zL))) zD))
    (zm (yt (i:=6) qk.nd rfl (Or.inl rfl) (zT (zR (zJ hr)) zS (yJ (xy (zA zD (zA zD (zA zD (zA (zU xB xA (zn h_law_mixed hr rfl (zA (z7 3) (zA (zU xL xK (zU vn uz zD (z7 2)) zD) zL))) zD) zL)))) (yG (zV (zV (zV (zV yS)))) (by decide)))) (zU xB xA (zn h_law_mixed hr rfl (zA (z7 3) (zA (zU xL xK (zU vn uz zD (z7 2)) zD) zL))) zD)))
    (zm (yt (i:=7) qk.nd rfl (Or.inl rfl) (yJ (xy (zA (xr (zA yA (zA (z7 4) (zA (z7 5) zL))) (yG (zV (zV (zV yS))) (by decide))) (zA (xr (zA yA (zA (z7 4) (zA (z7 5) zL))) (yG (zV (zV (zV yS))) (by decide))) (zA (xr (zA yA (zA (z7 4) (zA (z7 5) zL))) (yG (zV (zV (zV yS))) (by decide))) (zA (xr (zA yA (zA (z7 4) (zA (z7 6) zL))) (yG (zV (zV (zV yS))) (by decide))) (zA (xr (zA yA (zA (z7 4) (zA (z7 6) zL))) (yG (zV (zV (zV yS))) (by decide))) (zA (xr (zA yA (zA (z7 4) (zA (z7 5) zL))) (yG (zV (zV (zV yS))) (by decide))) zL)))))) (yG (zV (zV (zV (zV (zV (zV yS)))))) (by decide)))))
    (zd (O0 (qv 1) (zT (zR (zJ hr)) zS (zU xL xK (z7 7) (yJ (xy (zA (xr (zA yA (zA (z7 4) (zA (z7 6) zL))) (yG (zV (zV (zV yS))) (by decide))) (zA (xr (zA yA (zA (z7 4) (zA (z7 6) zL))) (yG (zV (zV (zV yS))) (by decide))) zL)) (yG (zV (zV yS)) (by decide))))) (zU xB xA (z7 3) zD))))))))))
  (O2 1 (zd (yC (zn h_law_played hr rfl (zA (z7 0) (zA (z7 1) zL))))))))
end
theorem all_mk {l:PySem.W.OpenLaw} {w:World} {K:PySem.W.Frag} {h:Heap} {mg:Str->Option Value} {fa:Addr} (X:K.In h) (G:h.Ns mainGlobals mg) (hfa:mg "law" = some (.ref fa))
  {f0:Addr} {od0 an0:Option Addr} {sl0:Array (Option Value)} {oc0 kV0 dc0 pm0 cd0 ct0:Value}
  {f1:Addr} {od1 an1:Option Addr} {sl1:Array (Option Value)} {oc1 kV1 dc1 pm1 cd1 ct1:Value}
  {f2:Addr} {od2 an2:Option Addr} {sl2:Array (Option Value)} {oc2 kV2 dc2 pm2 cd2 ct2:Value}
  {f3:Addr} {od3 an3:Option Addr} {sl3:Array (Option Value)} {oc3 kV3 dc3 pm3 cd3 ct3:Value}
  {f4:Addr} {od4 an4:Option Addr} {sl4:Array (Option Value)} {oc4 kV4 dc4 pm4 cd4 ct4:Value}
  {f5:Addr} {od5 an5:Option Addr} {sl5:Array (Option Value)} {oc5 kV5 dc5 pm5 cd5 ct5:Value}
  {f6:Addr} {od6 an6:Option Addr} {sl6:Array (Option Value)} {oc6 kV6 dc6 pm6 cd6 ct6:Value}
  {f7:Addr} {od7 an7:Option Addr} {sl7:Array (Option Value)} {oc7 kV7 dc7 pm7 cd7 ct7:Value}
  {f8:Addr} {od8 an8:Option Addr} {sl8:Array (Option Value)} {oc8 kV8 dc8 pm8 cd8 ct8:Value}
  {f9:Addr} {od9 an9:Option Addr} {sl9:Array (Option Value)} {oc9 kV9 dc9 pm9 cd9 ct9:Value}
  {f10:Addr} {od10 an10:Option Addr} {sl10:Array (Option Value)} {oc10 kV10 dc10 pm10 cd10 ct10:Value}
  {f11:Addr} {od11 an11:Option Addr} {sl11:Array (Option Value)} {oc11 kV11 dc11 pm11 cd11 ct11:Value}
  {f12:Addr} {od12 an12:Option Addr} {sl12:Array (Option Value)} {oc12 kV12 dc12 pm12 cd12 ct12:Value}
  {f13:Addr} {od13 an13:Option Addr} {sl13:Array (Option Value)} {oc13 kV13 dc13 pm13 cd13 ct13:Value}
  {f14:Addr} {od14 an14:Option Addr} {sl14:Array (Option Value)} {oc14 kV14 dc14 pm14 cd14 ct14:Value}
  {f15:Addr} {od15 an15:Option Addr} {sl15:Array (Option Value)} {oc15 kV15 dc15 pm15 cd15 ct15:Value}
  {f16:Addr} {od16 an16:Option Addr} {sl16:Array (Option Value)} {oc16 kV16 dc16 pm16 cd16 ct16:Value}
  {f17:Addr} {od17 an17:Option Addr} {sl17:Array (Option Value)} {oc17 kV17 dc17 pm17 cd17 ct17:Value}
  {f18:Addr} {od18 an18:Option Addr} {sl18:Array (Option Value)} {oc18 kV18 dc18 pm18 cd18 ct18:Value}
  {f19:Addr} {od19 an19:Option Addr} {sl19:Array (Option Value)} {oc19 kV19 dc19 pm19 cd19 ct19:Value}
  {f20:Addr} {od20 an20:Option Addr} {sl20:Array (Option Value)} {oc20 kV20 dc20 pm20 cd20 ct20:Value}
  {f21:Addr} {od21 an21:Option Addr} {sl21:Array (Option Value)} {oc21 kV21 dc21 pm21 cd21 ct21:Value}
  {f22:Addr} {od22 an22:Option Addr} {sl22:Array (Option Value)} {oc22 kV22 dc22 pm22 cd22 ct22:Value}
  {f23:Addr} {od23 an23:Option Addr} {sl23:Array (Option Value)} {oc23 kV23 dc23 pm23 cd23 ct23:Value}
  {f24:Addr} {od24 an24:Option Addr} {sl24:Array (Option Value)} {oc24 kV24 dc24 pm24 cd24 ct24:Value}
  {f25:Addr} {od25 an25:Option Addr} {sl25:Array (Option Value)} {oc25 kV25 dc25 pm25 cd25 ct25:Value}
  {f26:Addr} {od26 an26:Option Addr} {sl26:Array (Option Value)} {oc26 kV26 dc26 pm26 cd26 ct26:Value}
  {f27:Addr} {od27 an27:Option Addr} {sl27:Array (Option Value)} {oc27 kV27 dc27 pm27 cd27 ct27:Value}
  {f28:Addr} {od28 an28:Option Addr} {sl28:Array (Option Value)} {oc28 kV28 dc28 pm28 cd28 ct28:Value}
  {f29:Addr} {od29 an29:Option Addr} {sl29:Array (Option Value)} {oc29 kV29 dc29 pm29 cd29 ct29:Value}
  {f30:Addr} {od30 an30:Option Addr} {sl30:Array (Option Value)} {oc30 kV30 dc30 pm30 cd30 ct30:Value}
  {f31:Addr} {od31 an31:Option Addr} {sl31:Array (Option Value)} {oc31 kV31 dc31 pm31 cd31 ct31:Value}
  {f32:Addr} {od32 an32:Option Addr} {sl32:Array (Option Value)} {oc32 kV32 dc32 pm32 cd32 ct32:Value}
  {f33:Addr} {od33 an33:Option Addr} {sl33:Array (Option Value)} {oc33 kV33 dc33 pm33 cd33 ct33:Value}
  {f34:Addr} {od34 an34:Option Addr} {sl34:Array (Option Value)} {oc34 kV34 dc34 pm34 cd34 ct34:Value}
  {f35:Addr} {od35 an35:Option Addr} {sl35:Array (Option Value)} {oc35 kV35 dc35 pm35 cd35 ct35:Value}
  {f36:Addr} {od36 an36:Option Addr} {sl36:Array (Option Value)} {oc36 kV36 dc36 pm36 cd36 ct36:Value}
  {f37:Addr} {od37 an37:Option Addr} {sl37:Array (Option Value)} {oc37 kV37 dc37 pm37 cd37 ct37:Value}
  {f38:Addr} {od38 an38:Option Addr} {sl38:Array (Option Value)} {oc38 kV38 dc38 pm38 cd38 ct38:Value}
  {f39:Addr} {od39 an39:Option Addr} {sl39:Array (Option Value)} {oc39 kV39 dc39 pm39 cd39 ct39:Value}
  {f40:Addr} {od40 an40:Option Addr} {sl40:Array (Option Value)} {oc40 kV40 dc40 pm40 cd40 ct40:Value}
  {f41:Addr} {od41 an41:Option Addr} {sl41:Array (Option Value)} {oc41 kV41 dc41 pm41 cd41 ct41:Value}
  {f42:Addr} {od42 an42:Option Addr} {sl42:Array (Option Value)} {oc42 kV42 dc42 pm42 cd42 ct42:Value}
  {f43:Addr} {od43 an43:Option Addr} {sl43:Array (Option Value)} {oc43 kV43 dc43 pm43 cd43 ct43:Value}
  {f44:Addr} {od44 an44:Option Addr} {sl44:Array (Option Value)} {oc44 kV44 dc44 pm44 cd44 ct44:Value}
  {f45:Addr} {od45 an45:Option Addr} {sl45:Array (Option Value)} {oc45 kV45 dc45 pm45 cd45 ct45:Value}
  {f46:Addr} {od46 an46:Option Addr} {sl46:Array (Option Value)} {oc46 kV46 dc46 pm46 cd46 ct46:Value}
  {f47:Addr} {od47 an47:Option Addr} {sl47:Array (Option Value)} {oc47 kV47 dc47 pm47 cd47 ct47:Value}
  {f48:Addr} {od48 an48:Option Addr} {sl48:Array (Option Value)} {oc48 kV48 dc48 pm48 cd48 ct48:Value}
  {f49:Addr} {od49 an49:Option Addr} {sl49:Array (Option Value)} {oc49 kV49 dc49 pm49 cd49 ct49:Value}
  {f50:Addr} {od50 an50:Option Addr} {sl50:Array (Option Value)} {oc50 kV50 dc50 pm50 cd50 ct50:Value}
  {f51:Addr} {od51 an51:Option Addr} {sl51:Array (Option Value)} {oc51 kV51 dc51 pm51 cd51 ct51:Value}
  {f52:Addr} {od52 an52:Option Addr} {sl52:Array (Option Value)} {oc52 kV52 dc52 pm52 cd52 ct52:Value}
  {f53:Addr} {od53 an53:Option Addr} {sl53:Array (Option Value)} {oc53 kV53 dc53 pm53 cd53 ct53:Value}
  {f54:Addr} {od54 an54:Option Addr} {sl54:Array (Option Value)} {oc54 kV54 dc54 pm54 cd54 ct54:Value}
  {f55:Addr} {od55 an55:Option Addr} {sl55:Array (Option Value)} {oc55 kV55 dc55 pm55 cd55 ct55:Value}
  {f56:Addr} {od56 an56:Option Addr} {sl56:Array (Option Value)} {oc56 kV56 dc56 pm56 cd56 ct56:Value}
  {f57:Addr} {od57 an57:Option Addr} {sl57:Array (Option Value)} {oc57 kV57 dc57 pm57 cd57 ct57:Value}
  {f58:Addr} {od58 an58:Option Addr} {sl58:Array (Option Value)} {oc58 kV58 dc58 pm58 cd58 ct58:Value}
  {f59:Addr} {od59 an59:Option Addr} {sl59:Array (Option Value)} {oc59 kV59 dc59 pm59 cd59 ct59:Value}
  {f60:Addr} {od60 an60:Option Addr} {sl60:Array (Option Value)} {oc60 kV60 dc60 pm60 cd60 ct60:Value}
  {f61:Addr} {od61 an61:Option Addr} {sl61:Array (Option Value)} {oc61 kV61 dc61 pm61 cd61 ct61:Value}
  {f62:Addr} {od62 an62:Option Addr} {sl62:Array (Option Value)} {oc62 kV62 dc62 pm62 cd62 ct62:Value}
  {f63:Addr} {od63 an63:Option Addr} {sl63:Array (Option Value)} {oc63 kV63 dc63 pm63 cd63 ct63:Value}
  {f64:Addr} {od64 an64:Option Addr} {sl64:Array (Option Value)} {oc64 kV64 dc64 pm64 cd64 ct64:Value}
  {f65:Addr} {od65 an65:Option Addr} {sl65:Array (Option Value)} {oc65 kV65 dc65 pm65 cd65 ct65:Value}
  {f66:Addr} {od66 an66:Option Addr} {sl66:Array (Option Value)} {oc66 kV66 dc66 pm66 cd66 ct66:Value}
  {f67:Addr} {od67 an67:Option Addr} {sl67:Array (Option Value)} {oc67 kV67 dc67 pm67 cd67 ct67:Value}
  {f68:Addr} {od68 an68:Option Addr} {sl68:Array (Option Value)} {oc68 kV68 dc68 pm68 cd68 ct68:Value}
  {C_Machine:Addr} (nc_Machine:PySem.W.nsIn K mainGlobals "Machine" = some (some (.ref C_Machine)))
  {C_RowMachine:Addr} (nc_RowMachine:PySem.W.nsIn K mainGlobals "RowMachine" = some (some (.ref C_RowMachine)))
  {C_State:Addr} (nc_State:PySem.W.nsIn K mainGlobals "State" = some (some (.ref C_State)))
  (a0:PySem.W.nsIn K mainGlobals "is_number" = some (some (.ref f0)))
  (l0:K.lookup f0=zp "is_number" ZH oc0 od0 sl0 kV0 dc0 pm0 an0 cd0 ct0)
  (c0:PySem.W.codeIn K cd0 "is_number" = true) (k0:PySem.W.keepIn K (.ref f0)=true)
  (a1:PySem.W.nsIn K mainGlobals "added" = some (some (.ref f1)))
  (l1:K.lookup f1=zp "added" kq oc1 od1 sl1 kV1 dc1 pm1 an1 cd1 ct1)
  (c1:PySem.W.codeIn K cd1 "added" = true) (k1:PySem.W.keepIn K (.ref f1)=true)
  (a2:PySem.W.nsIn K mainGlobals "taken" = some (some (.ref f2)))
  (l2:K.lookup f2=zp "taken" Zl oc2 od2 sl2 kV2 dc2 pm2 an2 cd2 ct2)
  (c2:PySem.W.codeIn K cd2 "taken" = true) (k2:PySem.W.keepIn K (.ref f2)=true)
  (a3:PySem.W.nsIn K mainGlobals "part" = some (some (.ref f3)))
  (l3:K.lookup f3=zp "part" Zf oc3 od3 sl3 kV3 dc3 pm3 an3 cd3 ct3)
  (c3:PySem.W.codeIn K cd3 "part" = true) (k3:PySem.W.keepIn K (.ref f3)=true)
  (a4:PySem.W.nsIn K mainGlobals "moved_left" = some (some (.ref f4)))
  (l4:K.lookup f4=zp "moved_left" Zc oc4 od4 sl4 kV4 dc4 pm4 an4 cd4 ct4)
  (c4:PySem.W.codeIn K cd4 "moved_left" = true) (k4:PySem.W.keepIn K (.ref f4)=true)
  (a5:PySem.W.nsIn K mainGlobals "moved_right" = some (some (.ref f5)))
  (l5:K.lookup f5=zp "moved_right" Zd oc5 od5 sl5 kV5 dc5 pm5 an5 cd5 ct5)
  (c5:PySem.W.codeIn K cd5 "moved_right" = true) (k5:PySem.W.keepIn K (.ref f5)=true)
  (a6:PySem.W.nsIn K mainGlobals "with_part" = some (some (.ref f6)))
  (l6:K.lookup f6=zp "with_part" Zn oc6 od6 sl6 kV6 dc6 pm6 an6 cd6 ct6)
  (c6:PySem.W.codeIn K cd6 "with_part" = true) (k6:PySem.W.keepIn K (.ref f6)=true)
  (a7:PySem.W.nsIn K mainGlobals "bytes_of" = some (some (.ref f7)))
  (l7:K.lookup f7=zp "bytes_of" Z1 oc7 od7 sl7 kV7 dc7 pm7 an7 cd7 ct7)
  (c7:PySem.W.codeIn K cd7 "bytes_of" = true) (k7:PySem.W.keepIn K (.ref f7)=true)
  (a8:PySem.W.nsIn K mainGlobals "word_of" = some (some (.ref f8)))
  (l8:K.lookup f8=zp "word_of" Zp oc8 od8 sl8 kV8 dc8 pm8 an8 cd8 ct8)
  (c8:PySem.W.codeIn K cd8 "word_of" = true) (k8:PySem.W.keepIn K (.ref f8)=true)
  (a9:PySem.W.nsIn K mainGlobals "is_label" = some (some (.ref f9)))
  (l9:K.lookup f9=zp "is_label" ZG oc9 od9 sl9 kV9 dc9 pm9 an9 cd9 ct9)
  (c9:PySem.W.codeIn K cd9 "is_label" = true) (k9:PySem.W.keepIn K (.ref f9)=true)
  (a10:PySem.W.nsIn K mainGlobals "is_jump" = some (some (.ref f10)))
  (l10:K.lookup f10=zp "is_jump" ZF oc10 od10 sl10 kV10 dc10 pm10 an10 cd10 ct10)
  (c10:PySem.W.codeIn K cd10 "is_jump" = true) (k10:PySem.W.keepIn K (.ref f10)=true)
  (a11:PySem.W.nsIn K mainGlobals "rows_of" = some (some (.ref f11)))
  (l11:K.lookup f11=zp "rows_of" Zi oc11 od11 sl11 kV11 dc11 pm11 an11 cd11 ct11)
  (c11:PySem.W.codeIn K cd11 "rows_of" = true) (k11:PySem.W.keepIn K (.ref f11)=true)
  (a12:PySem.W.nsIn K mainGlobals "label_places" = some (some (.ref f12)))
  (l12:K.lookup f12=zp "label_places" ZK oc12 od12 sl12 kV12 dc12 pm12 an12 cd12 ct12)
  (c12:PySem.W.codeIn K cd12 "label_places" = true) (k12:PySem.W.keepIn K (.ref f12)=true)
  (a13:PySem.W.nsIn K mainGlobals "targets_of" = some (some (.ref f13)))
  (l13:K.lookup f13=zp "targets_of" Zm oc13 od13 sl13 kV13 dc13 pm13 an13 cd13 ct13)
  (c13:PySem.W.codeIn K cd13 "targets_of" = true) (k13:PySem.W.keepIn K (.ref f13)=true)
  (a14:PySem.W.nsIn K mainGlobals "is_address" = some (some (.ref f14)))
  (l14:K.lookup f14=zp "is_address" ZE oc14 od14 sl14 kV14 dc14 pm14 an14 cd14 ct14)
  (c14:PySem.W.codeIn K cd14 "is_address" = true) (k14:PySem.W.keepIn K (.ref f14)=true)
  (a15:PySem.W.nsIn K mainGlobals "is_pair" = some (some (.ref f15)))
  (l15:K.lookup f15=zp "is_pair" ZI oc15 od15 sl15 kV15 dc15 pm15 an15 cd15 ct15)
  (c15:PySem.W.codeIn K cd15 "is_pair" = true) (k15:PySem.W.keepIn K (.ref f15)=true)
  (a16:PySem.W.nsIn K mainGlobals "bytes_from" = some (some (.ref f16)))
  (l16:K.lookup f16=zp "bytes_from" Z0 oc16 od16 sl16 kV16 dc16 pm16 an16 cd16 ct16)
  (c16:PySem.W.codeIn K cd16 "bytes_from" = true) (k16:PySem.W.keepIn K (.ref f16)=true)
  (a17:PySem.W.nsIn K mainGlobals "pairs_of" = some (some (.ref f17)))
  (l17:K.lookup f17=zp "pairs_of" Ze oc17 od17 sl17 kV17 dc17 pm17 an17 cd17 ct17)
  (c17:PySem.W.codeIn K cd17 "pairs_of" = true) (k17:PySem.W.keepIn K (.ref f17)=true)
  (a18:PySem.W.nsIn K mainGlobals "byte_at" = some (some (.ref f18)))
  (l18:K.lookup f18=zp "byte_at" k_ oc18 od18 sl18 kV18 dc18 pm18 an18 cd18 ct18)
  (c18:PySem.W.codeIn K cd18 "byte_at" = true) (k18:PySem.W.keepIn K (.ref f18)=true)
  (a19:PySem.W.nsIn K mainGlobals "address_of" = some (some (.ref f19)))
  (l19:K.lookup f19=zp "address_of" kz oc19 od19 sl19 kV19 dc19 pm19 an19 cd19 ct19)
  (c19:PySem.W.codeIn K cd19 "address_of" = true) (k19:PySem.W.keepIn K (.ref f19)=true)
  (a20:PySem.W.nsIn K mainGlobals "four_from" = some (some (.ref f20)))
  (l20:K.lookup f20=zp "four_from" ZD oc20 od20 sl20 kV20 dc20 pm20 an20 cd20 ct20)
  (c20:PySem.W.codeIn K cd20 "four_from" = true) (k20:PySem.W.keepIn K (.ref f20)=true)
  (a21:PySem.W.nsIn K mainGlobals "word_at" = some (some (.ref f21)))
  (l21:K.lookup f21=zp "word_at" Zo oc21 od21 sl21 kV21 dc21 pm21 an21 cd21 ct21)
  (c21:PySem.W.codeIn K cd21 "word_at" = true) (k21:PySem.W.keepIn K (.ref f21)=true)
  (a22:PySem.W.nsIn K mainGlobals "put_byte" = some (some (.ref f22)))
  (l22:K.lookup f22=zp "put_byte" Zg oc22 od22 sl22 kV22 dc22 pm22 an22 cd22 ct22)
  (c22:PySem.W.codeIn K cd22 "put_byte" = true) (k22:PySem.W.keepIn K (.ref f22)=true)
  (a23:PySem.W.nsIn K mainGlobals "put_word" = some (some (.ref f23)))
  (l23:K.lookup f23=zp "put_word" Zh oc23 od23 sl23 kV23 dc23 pm23 an23 cd23 ct23)
  (c23:PySem.W.codeIn K cd23 "put_word" = true) (k23:PySem.W.keepIn K (.ref f23)=true)
  (a24:PySem.W.findIn K (.ref C_State) "__init__" = some (some (.ref f24)))
  (i24:PySem.W.isFn K (.ref f24)=true)
  (l24:K.lookup f24=some ⟨oc24,od24,.func (PySem.W.fnOf "__init__" "State.__init__" (yl tu) (yM tu) (zM tu) .none kV24 dc24 pm24 an24 cd24 ct24),sl24⟩)
  (c24:PySem.W.codeIn K cd24 "State.__init__" = true) (k24:PySem.W.keepIn K (.ref f24)=true)
  (a25:PySem.W.nsIn K mainGlobals "do_set" = some (some (.ref f25)))
  (l25:K.lookup f25=zp "do_set" Z9 oc25 od25 sl25 kV25 dc25 pm25 an25 cd25 ct25)
  (c25:PySem.W.codeIn K cd25 "do_set" = true) (k25:PySem.W.keepIn K (.ref f25)=true)
  (a26:PySem.W.nsIn K mainGlobals "do_high" = some (some (.ref f26)))
  (l26:K.lookup f26=zp "do_high" Z4 oc26 od26 sl26 kV26 dc26 pm26 an26 cd26 ct26)
  (c26:PySem.W.codeIn K cd26 "do_high" = true) (k26:PySem.W.keepIn K (.ref f26)=true)
  (a27:PySem.W.nsIn K mainGlobals "do_copy" = some (some (.ref f27)))
  (l27:K.lookup f27=zp "do_copy" Z3 oc27 od27 sl27 kV27 dc27 pm27 an27 cd27 ct27)
  (c27:PySem.W.codeIn K cd27 "do_copy" = true) (k27:PySem.W.keepIn K (.ref f27)=true)
  (a28:PySem.W.nsIn K mainGlobals "summed" = some (some (.ref f28)))
  (l28:K.lookup f28=zp "summed" Zj oc28 od28 sl28 kV28 dc28 pm28 an28 cd28 ct28)
  (c28:PySem.W.codeIn K cd28 "summed" = true) (k28:PySem.W.keepIn K (.ref f28)=true)
  (a29:PySem.W.nsIn K mainGlobals "look_at" = some (some (.ref f29)))
  (l29:K.lookup f29=zp "look_at" Zb oc29 od29 sl29 kV29 dc29 pm29 an29 cd29 ct29)
  (c29:PySem.W.codeIn K cd29 "look_at" = true) (k29:PySem.W.keepIn K (.ref f29)=true)
  (a30:PySem.W.nsIn K mainGlobals "do_sum" = some (some (.ref f30)))
  (l30:K.lookup f30=zp "do_sum" ZC oc30 od30 sl30 kV30 dc30 pm30 an30 cd30 ct30)
  (c30:PySem.W.codeIn K cd30 "do_sum" = true) (k30:PySem.W.keepIn K (.ref f30)=true)
  (a31:PySem.W.nsIn K mainGlobals "joined" = some (some (.ref f31)))
  (l31:K.lookup f31=zp "joined" ZJ oc31 od31 sl31 kV31 dc31 pm31 an31 cd31 ct31)
  (c31:PySem.W.codeIn K cd31 "joined" = true) (k31:PySem.W.keepIn K (.ref f31)=true)
  (a32:PySem.W.nsIn K mainGlobals "do_bits" = some (some (.ref f32)))
  (l32:K.lookup f32=zp "do_bits" Z2 oc32 od32 sl32 kV32 dc32 pm32 an32 cd32 ct32)
  (c32:PySem.W.codeIn K cd32 "do_bits" = true) (k32:PySem.W.keepIn K (.ref f32)=true)
  (a33:PySem.W.nsIn K mainGlobals "do_move" = some (some (.ref f33)))
  (l33:K.lookup f33=zp "do_move" Z7 oc33 od33 sl33 kV33 dc33 pm33 an33 cd33 ct33)
  (c33:PySem.W.codeIn K cd33 "do_move" = true) (k33:PySem.W.keepIn K (.ref f33)=true)
  (a34:PySem.W.nsIn K mainGlobals "address_in" = some (some (.ref f34)))
  (l34:K.lookup f34=zp "address_in" ku oc34 od34 sl34 kV34 dc34 pm34 an34 cd34 ct34)
  (c34:PySem.W.codeIn K cd34 "address_in" = true) (k34:PySem.W.keepIn K (.ref f34)=true)
  (a35:PySem.W.nsIn K mainGlobals "do_load" = some (some (.ref f35)))
  (l35:K.lookup f35=zp "do_load" Z5 oc35 od35 sl35 kV35 dc35 pm35 an35 cd35 ct35)
  (c35:PySem.W.codeIn K cd35 "do_load" = true) (k35:PySem.W.keepIn K (.ref f35)=true)
  (a36:PySem.W.nsIn K mainGlobals "do_loadw" = some (some (.ref f36)))
  (l36:K.lookup f36=zp "do_loadw" Z6 oc36 od36 sl36 kV36 dc36 pm36 an36 cd36 ct36)
  (c36:PySem.W.codeIn K cd36 "do_loadw" = true) (k36:PySem.W.keepIn K (.ref f36)=true)
  (a37:PySem.W.nsIn K mainGlobals "do_store" = some (some (.ref f37)))
  (l37:K.lookup f37=zp "do_store" ZA oc37 od37 sl37 kV37 dc37 pm37 an37 cd37 ct37)
  (c37:PySem.W.codeIn K cd37 "do_store" = true) (k37:PySem.W.keepIn K (.ref f37)=true)
  (a38:PySem.W.nsIn K mainGlobals "do_storew" = some (some (.ref f38)))
  (l38:K.lookup f38=zp "do_storew" ZB oc38 od38 sl38 kV38 dc38 pm38 an38 cd38 ct38)
  (c38:PySem.W.codeIn K cd38 "do_storew" = true) (k38:PySem.W.keepIn K (.ref f38)=true)
  (a39:PySem.W.nsIn K mainGlobals "do_row" = some (some (.ref f39)))
  (l39:K.lookup f39=zp "do_row" Z8 oc39 od39 sl39 kV39 dc39 pm39 an39 cd39 ct39)
  (c39:PySem.W.codeIn K cd39 "do_row" = true) (k39:PySem.W.keepIn K (.ref f39)=true)
  (a40:PySem.W.nsIn K mainGlobals "leads" = some (some (.ref f40)))
  (l40:K.lookup f40=zp "leads" Za oc40 od40 sl40 kV40 dc40 pm40 an40 cd40 ct40)
  (c40:PySem.W.codeIn K cd40 "leads" = true) (k40:PySem.W.keepIn K (.ref f40)=true)
  (a41:PySem.W.nsIn K mainGlobals "words_from" = some (some (.ref f41)))
  (l41:K.lookup f41=zp "words_from" Zq oc41 od41 sl41 kV41 dc41 pm41 an41 cd41 ct41)
  (c41:PySem.W.codeIn K cd41 "words_from" = true) (k41:PySem.W.keepIn K (.ref f41)=true)
  (a42:PySem.W.findIn K (.ref C_RowMachine) "stands" = some (some (.ref f42)))
  (i42:PySem.W.isFn K (.ref f42)=true)
  (l42:K.lookup f42=some ⟨oc42,od42,.func (PySem.W.fnOf "stands" "Machine.stands" (yl tj) (yM tj) (zM tj) .none kV42 dc42 pm42 an42 cd42 ct42),sl42⟩)
  (c42:PySem.W.codeIn K cd42 "Machine.stands" = true) (k42:PySem.W.keepIn K (.ref f42)=true)
  (a43:PySem.W.findIn K (.ref C_RowMachine) "again" = some (some (.ref f43)))
  (i43:PySem.W.isFn K (.ref f43)=true)
  (l43:K.lookup f43=some ⟨oc43,od43,.func (PySem.W.fnOf "again" "Machine.again" (yl tW) (yM tW) (zM tW) .none kV43 dc43 pm43 an43 cd43 ct43),sl43⟩)
  (c43:PySem.W.codeIn K cd43 "Machine.again" = true) (k43:PySem.W.keepIn K (.ref f43)=true)
  (a44:PySem.W.findIn K (.ref C_RowMachine) "step" = some (some (.ref f44)))
  (i44:PySem.W.isFn K (.ref f44)=true)
  (l44:K.lookup f44=some ⟨oc44,od44,.func (PySem.W.fnOf "step" "Machine.step" (yl tm) (yM tm) (zM tm) .none kV44 dc44 pm44 an44 cd44 ct44),sl44⟩)
  (c44:PySem.W.codeIn K cd44 "Machine.step" = true) (k44:PySem.W.keepIn K (.ref f44)=true)
  (a45:PySem.W.findIn K (.ref C_RowMachine) "registers" = some (some (.ref f45)))
  (i45:PySem.W.isFn K (.ref f45)=true)
  (l45:K.lookup f45=some ⟨oc45,od45,.func (PySem.W.fnOf "registers" "Machine.registers" (yl tf) (yM tf) (zM tf) .none kV45 dc45 pm45 an45 cd45 ct45),sl45⟩)
  (c45:PySem.W.codeIn K cd45 "Machine.registers" = true) (k45:PySem.W.keepIn K (.ref f45)=true)
  (a46:PySem.W.findIn K (.ref C_RowMachine) "marks" = some (some (.ref f46)))
  (i46:PySem.W.isFn K (.ref f46)=true)
  (l46:K.lookup f46=some ⟨oc46,od46,.func (PySem.W.fnOf "marks" "Machine.marks" (yl tX) (yM tX) (zM tX) .none kV46 dc46 pm46 an46 cd46 ct46),sl46⟩)
  (c46:PySem.W.codeIn K cd46 "Machine.marks" = true) (k46:PySem.W.keepIn K (.ref f46)=true)
  (a47:PySem.W.findIn K (.ref C_RowMachine) "memory" = some (some (.ref f47)))
  (i47:PySem.W.isFn K (.ref f47)=true)
  (l47:K.lookup f47=some ⟨oc47,od47,.func (PySem.W.fnOf "memory" "Machine.memory" (yl tY) (yM tY) (zM tY) .none kV47 dc47 pm47 an47 cd47 ct47),sl47⟩)
  (c47:PySem.W.codeIn K cd47 "Machine.memory" = true) (k47:PySem.W.keepIn K (.ref f47)=true)
  (a48:PySem.W.findIn K (.ref C_RowMachine) "place" = some (some (.ref f48)))
  (i48:PySem.W.isFn K (.ref f48)=true)
  (l48:K.lookup f48=some ⟨oc48,od48,.func (PySem.W.fnOf "place" "Machine.place" (yl tZ) (yM tZ) (zM tZ) .none kV48 dc48 pm48 an48 cd48 ct48),sl48⟩)
  (c48:PySem.W.codeIn K cd48 "Machine.place" = true) (k48:PySem.W.keepIn K (.ref f48)=true)
  (a49:PySem.W.findIn K (.ref C_RowMachine) "steps" = some (some (.ref f49)))
  (i49:PySem.W.isFn K (.ref f49)=true)
  (l49:K.lookup f49=some ⟨oc49,od49,.func (PySem.W.fnOf "steps" "Machine.steps" (yl tq) (yM tq) (zM tq) .none kV49 dc49 pm49 an49 cd49 ct49),sl49⟩)
  (c49:PySem.W.codeIn K cd49 "Machine.steps" = true) (k49:PySem.W.keepIn K (.ref f49)=true)
  (a50:PySem.W.findCls K (.ref C_Machine) (.type "type") "__init__" = some (.val (.ref f50)))
  (i50:PySem.W.isFn K (.ref f50)=true)
  (l50:K.lookup f50=some ⟨oc50,od50,.func (PySem.W.fnOf "__init__" "Machine.__init__" (yl tV) (yM tV) (zM tV) .none kV50 dc50 pm50 an50 cd50 ct50),sl50⟩)
  (c50:PySem.W.codeIn K cd50 "Machine.__init__" = true) (k50:PySem.W.keepIn K (.ref f50)=true)
  (a51:PySem.W.nsIn K mainGlobals "table_of_rows" = some (some (.ref f51)))
  (l51:K.lookup f51=zp "table_of_rows" Zk oc51 od51 sl51 kV51 dc51 pm51 an51 cd51 ct51)
  (c51:PySem.W.codeIn K cd51 "table_of_rows" = true) (k51:PySem.W.keepIn K (.ref f51)=true)
  (a52:PySem.W.findIn K (.ref C_RowMachine) "__init__" = some (some (.ref f52)))
  (i52:PySem.W.isFn K (.ref f52)=true)
  {T52:Addr}
  (l52:K.lookup f52=some ⟨oc52,od52,.func (PySem.W.fnOf "__init__" "RowMachine.__init__" (yl uI) (yM uI) (zM uI) (.ref T52) kV52 dc52 pm52 an52 cd52 ct52),sl52⟩)
  {nt52:Nat} {st52:Array (Option Value)} {dt52:Option Addr} (t52:K.lookup T52=some ⟨.type "tuple",dt52,.seq #[.none,.none] nt52,st52⟩)
  (c52:PySem.W.codeIn K cd52 "RowMachine.__init__" = true) (k52:PySem.W.keepIn K (.ref f52)=true)
  (a53:PySem.W.nsIn K mainGlobals "_law_cell_at" = some (some (.ref f53)))
  (l53:K.lookup f53=zp "_law_cell_at" ZN oc53 od53 sl53 kV53 dc53 pm53 an53 cd53 ct53)
  (c53:PySem.W.codeIn K cd53 "_law_cell_at" = true) (k53:PySem.W.keepIn K (.ref f53)=true)
  (a54:PySem.W.nsIn K mainGlobals "_law_mixed" = some (some (.ref f54)))
  (l54:K.lookup f54=zp "_law_mixed" ZR oc54 od54 sl54 kV54 dc54 pm54 an54 cd54 ct54)
  (c54:PySem.W.codeIn K cd54 "_law_mixed" = true) (k54:PySem.W.keepIn K (.ref f54)=true)
  (a55:PySem.W.nsIn K mainGlobals "_law_word" = some (some (.ref f55)))
  (l55:K.lookup f55=zp "_law_word" ZY oc55 od55 sl55 kV55 dc55 pm55 an55 cd55 ct55)
  (c55:PySem.W.codeIn K cd55 "_law_word" = true) (k55:PySem.W.keepIn K (.ref f55)=true)
  (a56:PySem.W.nsIn K mainGlobals "_law_words" = some (some (.ref f56)))
  (l56:K.lookup f56=zp "_law_words" ZZ oc56 od56 sl56 kV56 dc56 pm56 an56 cd56 ct56)
  (c56:PySem.W.codeIn K cd56 "_law_words" = true) (k56:PySem.W.keepIn K (.ref f56)=true)
  (a57:PySem.W.nsIn K mainGlobals "_law_power" = some (some (.ref f57)))
  (l57:K.lookup f57=zp "_law_power" ZU oc57 od57 sl57 kV57 dc57 pm57 an57 cd57 ct57)
  (c57:PySem.W.codeIn K cd57 "_law_power" = true) (k57:PySem.W.keepIn K (.ref f57)=true)
  (a58:PySem.W.nsIn K mainGlobals "_law_sum" = some (some (.ref f58)))
  (l58:K.lookup f58=zp "_law_sum" ZX oc58 od58 sl58 kV58 dc58 pm58 an58 cd58 ct58)
  (c58:PySem.W.codeIn K cd58 "_law_sum" = true) (k58:PySem.W.keepIn K (.ref f58)=true)
  (a59:PySem.W.nsIn K mainGlobals "_law_bitwise" = some (some (.ref f59)))
  (l59:K.lookup f59=zp "_law_bitwise" ZM oc59 od59 sl59 kV59 dc59 pm59 an59 cd59 ct59)
  (c59:PySem.W.codeIn K cd59 "_law_bitwise" = true) (k59:PySem.W.keepIn K (.ref f59)=true)
  (a60:PySem.W.nsIn K mainGlobals "_law_shifted" = some (some (.ref f60)))
  (l60:K.lookup f60=zp "_law_shifted" ZV oc60 od60 sl60 kV60 dc60 pm60 an60 cd60 ct60)
  (c60:PySem.W.codeIn K cd60 "_law_shifted" = true) (k60:PySem.W.keepIn K (.ref f60)=true)
  (a61:PySem.W.nsIn K mainGlobals "_law_deed" = some (some (.ref f61)))
  (l61:K.lookup f61=zp "_law_deed" ZO oc61 od61 sl61 kV61 dc61 pm61 an61 cd61 ct61)
  (c61:PySem.W.codeIn K cd61 "_law_deed" = true) (k61:PySem.W.keepIn K (.ref f61)=true)
  (a62:PySem.W.nsIn K mainGlobals "_law_begin" = some (some (.ref f62)))
  (l62:K.lookup f62=zp "_law_begin" ZL oc62 od62 sl62 kV62 dc62 pm62 an62 cd62 ct62)
  (c62:PySem.W.codeIn K cd62 "_law_begin" = true) (k62:PySem.W.keepIn K (.ref f62)=true)
  (a63:PySem.W.nsIn K mainGlobals "_law_pairs" = some (some (.ref f63)))
  (l63:K.lookup f63=zp "_law_pairs" ZS oc63 od63 sl63 kV63 dc63 pm63 an63 cd63 ct63)
  (c63:PySem.W.codeIn K cd63 "_law_pairs" = true) (k63:PySem.W.keepIn K (.ref f63)=true)
  (a64:PySem.W.nsIn K mainGlobals "_law_look" = some (some (.ref f64)))
  (l64:K.lookup f64=zp "_law_look" ZQ oc64 od64 sl64 kV64 dc64 pm64 an64 cd64 ct64)
  (c64:PySem.W.codeIn K cd64 "_law_look" = true) (k64:PySem.W.keepIn K (.ref f64)=true)
  (a65:PySem.W.nsIn K mainGlobals "_law_due" = some (some (.ref f65)))
  (l65:K.lookup f65=zp "_law_due" ZP oc65 od65 sl65 kV65 dc65 pm65 an65 cd65 ct65)
  (c65:PySem.W.codeIn K cd65 "_law_due" = true) (k65:PySem.W.keepIn K (.ref f65)=true)
  (a66:PySem.W.nsIn K mainGlobals "_law_straight" = some (some (.ref f66)))
  (l66:K.lookup f66=zp "_law_straight" ZW oc66 od66 sl66 kV66 dc66 pm66 an66 cd66 ct66)
  (c66:PySem.W.codeIn K cd66 "_law_straight" = true) (k66:PySem.W.keepIn K (.ref f66)=true)
  (a67:PySem.W.nsIn K mainGlobals "_law_played" = some (some (.ref f67)))
  (l67:K.lookup f67=zp "_law_played" ZT oc67 od67 sl67 kV67 dc67 pm67 an67 cd67 ct67)
  (c67:PySem.W.codeIn K cd67 "_law_played" = true) (k67:PySem.W.keepIn K (.ref f67)=true)
  (a68:PySem.W.nsIn K mainGlobals "law" = some (some (.ref f68)))
  (l68:K.lookup f68=zp "law" j9 oc68 od68 sl68 kV68 dc68 pm68 an68 cd68 ct68)
  (c68:PySem.W.codeIn K cd68 "law" = true) (k68:PySem.W.keepIn K (.ref f68)=true)
  (nz_isinstance:PySem.W.nsIn K mainGlobals "isinstance" = some none)
  (nz_int:PySem.W.nsIn K mainGlobals "int" = some none)
  (nz_bool:PySem.W.nsIn K mainGlobals "bool" = some none)
  (nz_tuple:PySem.W.nsIn K mainGlobals "tuple" = some none)
  (nz_sum:PySem.W.nsIn K mainGlobals "sum" = some none)
  (nz_zip:PySem.W.nsIn K mainGlobals "zip" = some none)
  (nz_len:PySem.W.nsIn K mainGlobals "len" = some none)
  (nz_list:PySem.W.nsIn K mainGlobals "list" = some none)
  (nz_sorted:PySem.W.nsIn K mainGlobals "sorted" = some none)
  (nz_range:PySem.W.nsIn K mainGlobals "range" = some none)
  (nz_dict:PySem.W.nsIn K mainGlobals "dict" = some none)
  (nz_all:PySem.W.nsIn K mainGlobals "all" = some none)
  (nz_enumerate:PySem.W.nsIn K mainGlobals "enumerate" = some none)
  (nz_max:PySem.W.nsIn K mainGlobals "max" = some none)
  (nz_repr:PySem.W.nsIn K mainGlobals "repr" = some none)
  (hg_Machine:PySem.W.specialIn K (.ref C_Machine) "__getattribute__" = some (some (.builtin "type.__getattribute__"))) (rd_Machine:PySem.W.readsIn K C_Machine (.type "type")=true)
  (pg_RowMachine:PySem.W.plainGet K C_RowMachine Str.empty=true) (hd_RowMachine:PySem.W.hasDictIn K C_RowMachine=true) (po_RowMachine:PySem.W.plainOver K C_RowMachine=true) (sa_RowMachine:PySem.W.findIn K (.ref C_RowMachine) "__setattr__" = some (some (.builtin "object.__setattr__")))
  (mk_RowMachine:PySem.W.makesIn K C_RowMachine=true) (kc_RowMachine:PySem.W.keepIn K (.ref C_RowMachine)=true)
  (pg_State:PySem.W.plainGet K C_State Str.empty=true) (hd_State:PySem.W.hasDictIn K C_State=true) (po_State:PySem.W.plainOver K C_State=true) (sa_State:PySem.W.findIn K (.ref C_State) "__setattr__" = some (some (.builtin "object.__setattr__")))
  (mk_State:PySem.W.makesIn K C_State=true) (kc_State:PySem.W.keepIn K (.ref C_State)=true)
  (nf_RowMachine_done:PySem.W.findIn K (.ref C_RowMachine) "done" = some none)
  (nf_RowMachine_due:PySem.W.findIn K (.ref C_RowMachine) "due" = some none)
  (nf_RowMachine_end:PySem.W.findIn K (.ref C_RowMachine) "end" = some none)
  (nf_RowMachine_first_held:PySem.W.findIn K (.ref C_RowMachine) "first_held" = some none)
  (nf_RowMachine_first_words:PySem.W.findIn K (.ref C_RowMachine) "first_words" = some none)
  (nf_State_held:PySem.W.findIn K (.ref C_State) "held" = some none)
  (nf_RowMachine_state:PySem.W.findIn K (.ref C_RowMachine) "state" = some none)
  (nf_RowMachine_table:PySem.W.findIn K (.ref C_RowMachine) "table" = some none)
  (nf_State_truths:PySem.W.findIn K (.ref C_State) "truths" = some none)
  (nf_State_words:PySem.W.findIn K (.ref C_State) "words" = some none)
  {A_DEEDS:Addr} {n_DEEDS:Nat} {tk0_DEEDS tk1_DEEDS tk2_DEEDS tk3_DEEDS tk4_DEEDS tk5_DEEDS tk6_DEEDS tk7_DEEDS tk8_DEEDS tk9_DEEDS tk10_DEEDS tk11_DEEDS tk12_DEEDS tk13_DEEDS tk14_DEEDS tk15_DEEDS tk16_DEEDS:Tok} (ng_DEEDS:PySem.W.nsIn K mainGlobals "DEEDS" = some (some (.ref A_DEEDS)))
  (nq_DEEDS:K.lookup A_DEEDS=some { cls:=.type "dict",data:=.dict #[⟨PyData.keyHash w.params "set",.str "set" tk0_DEEDS,.ref f25⟩,⟨PyData.keyHash w.params "high",.str "high" tk1_DEEDS,.ref f26⟩,⟨PyData.keyHash w.params "copy",.str "copy" tk2_DEEDS,.ref f27⟩,⟨PyData.keyHash w.params "add",.str "add" tk3_DEEDS,.ref f30⟩,⟨PyData.keyHash w.params "addc",.str "addc" tk4_DEEDS,.ref f30⟩,⟨PyData.keyHash w.params "sub",.str "sub" tk5_DEEDS,.ref f30⟩,⟨PyData.keyHash w.params "subc",.str "subc" tk6_DEEDS,.ref f30⟩,⟨PyData.keyHash w.params "test",.str "test" tk7_DEEDS,.ref f30⟩,⟨PyData.keyHash w.params "and",.str "and" tk8_DEEDS,.ref f32⟩,⟨PyData.keyHash w.params "or",.str "or" tk9_DEEDS,.ref f32⟩,⟨PyData.keyHash w.params "xor",.str "xor" tk10_DEEDS,.ref f32⟩,⟨PyData.keyHash w.params "left",.str "left" tk11_DEEDS,.ref f33⟩,⟨PyData.keyHash w.params "right",.str "right" tk12_DEEDS,.ref f33⟩,⟨PyData.keyHash w.params "load",.str "load" tk13_DEEDS,.ref f35⟩,⟨PyData.keyHash w.params "loadw",.str "loadw" tk14_DEEDS,.ref f36⟩,⟨PyData.keyHash w.params "store",.str "store" tk15_DEEDS,.ref f37⟩,⟨PyData.keyHash w.params "storew",.str "storew" tk16_DEEDS,.ref f38⟩] n_DEEDS }) (ns_DEEDS:(A_DEEDS == sysModules)=false)
  {tg_BEYOND:Tok} (ng_BEYOND:PySem.W.nsIn K mainGlobals "BEYOND" = some (some (.int 4294967296 tg_BEYOND)))
  {tg_WORD_BITS:Tok} (ng_WORD_BITS:PySem.W.nsIn K mainGlobals "WORD_BITS" = some (some (.int 32 tg_WORD_BITS)))
  {A_BYTE_LOWS:Addr} {n_BYTE_LOWS:Nat} {sl_BYTE_LOWS:Array (Option Value)} {u0_BYTE_LOWS u1_BYTE_LOWS u2_BYTE_LOWS u3_BYTE_LOWS:Tok} (ng_BYTE_LOWS:PySem.W.nsIn K mainGlobals "BYTE_LOWS" = some (some (.ref A_BYTE_LOWS)))
  (nq_BYTE_LOWS:K.lookup A_BYTE_LOWS=some ⟨.type "tuple",none,.seq #[.int 0 u0_BYTE_LOWS,.int 8 u1_BYTE_LOWS,.int 16 u2_BYTE_LOWS,.int 24 u3_BYTE_LOWS] n_BYTE_LOWS,sl_BYTE_LOWS⟩)
  {A_JUMPS:Addr} {n_JUMPS:Nat} {sl_JUMPS:Array (Option Value)} {u0_JUMPS u1_JUMPS u2_JUMPS:Tok} (ng_JUMPS:PySem.W.nsIn K mainGlobals "JUMPS" = some (some (.ref A_JUMPS)))
  (nq_JUMPS:K.lookup A_JUMPS=some ⟨.type "tuple",none,.seq #[.str "jump" u0_JUMPS,.str "when" u1_JUMPS,.str "unless" u2_JUMPS] n_JUMPS,sl_JUMPS⟩)
  {tg_ADDRESS_BITS:Tok} (ng_ADDRESS_BITS:PySem.W.nsIn K mainGlobals "ADDRESS_BITS" = some (some (.int 16 tg_ADDRESS_BITS)))
  {tg_BYTE_BITS:Tok} (ng_BYTE_BITS:PySem.W.nsIn K mainGlobals "BYTE_BITS" = some (some (.int 8 tg_BYTE_BITS)))
  {A_MARKS:Addr} {n_MARKS:Nat} {sl_MARKS:Array (Option Value)} {u0_MARKS u1_MARKS u2_MARKS:Tok} (ng_MARKS:PySem.W.nsIn K mainGlobals "MARKS" = some (some (.ref A_MARKS)))
  (nq_MARKS:K.lookup A_MARKS=some ⟨.type "tuple",none,.seq #[.str "carry" u0_MARKS,.str "nought" u1_MARKS,.str "sign" u2_MARKS] n_MARKS,sl_MARKS⟩)
  {tg_REGISTER_COUNT:Tok} (ng_REGISTER_COUNT:PySem.W.nsIn K mainGlobals "REGISTER_COUNT" = some (some (.int 8 tg_REGISTER_COUNT)))
  : ∃ fd:FuncData,(∀ (s:Shared) (v:Value),BindsTo s fd ⟨[v],[]⟩ [("_law_script",v)])/\∀ base:Heap,K.In base->base.Ns mainGlobals mg->yY l.prog w K mg base yZ 10 fa fd ["_law_script"] (Zy K):=by
 have e:=hfa.symm.trans (PySem.W.mg_of X G a68)
 cases e
 have z_isinstance:mg "isinstance" = none:=PySem.W.mg_none_of X G nz_isinstance
 have z_int:mg "int" = none:=PySem.W.mg_none_of X G nz_int
 have z_bool:mg "bool" = none:=PySem.W.mg_none_of X G nz_bool
 have z_tuple:mg "tuple" = none:=PySem.W.mg_none_of X G nz_tuple
 have z_sum:mg "sum" = none:=PySem.W.mg_none_of X G nz_sum
 have z_zip:mg "zip" = none:=PySem.W.mg_none_of X G nz_zip
 have z_len:mg "len" = none:=PySem.W.mg_none_of X G nz_len
 have z_list:mg "list" = none:=PySem.W.mg_none_of X G nz_list
 have z_sorted:mg "sorted" = none:=PySem.W.mg_none_of X G nz_sorted
 have z_range:mg "range" = none:=PySem.W.mg_none_of X G nz_range
 have z_dict:mg "dict" = none:=PySem.W.mg_none_of X G nz_dict
 have z_all:mg "all" = none:=PySem.W.mg_none_of X G nz_all
 have z_enumerate:mg "enumerate" = none:=PySem.W.mg_none_of X G nz_enumerate
 have z_max:mg "max" = none:=PySem.W.mg_none_of X G nz_max
 have z_repr:mg "repr" = none:=PySem.W.mg_none_of X G nz_repr
 have cl_RowMachine:wt K C_RowMachine:=⟨pg_RowMachine,hd_RowMachine,po_RowMachine,sa_RowMachine⟩
 have cl_State:wt K C_State:=⟨pg_State,hd_State,po_State,sa_State⟩
 have a_done:zl K ["RowMachine"] "done" := (uq nc_RowMachine cl_RowMachine nf_RowMachine_done ur)
 have a_due:zl K ["RowMachine"] "due" := (uq nc_RowMachine cl_RowMachine nf_RowMachine_due ur)
 have a_end:zl K ["RowMachine"] "end" := (uq nc_RowMachine cl_RowMachine nf_RowMachine_end ur)
 have a_first_held:zl K ["RowMachine"] "first_held" := (uq nc_RowMachine cl_RowMachine nf_RowMachine_first_held ur)
 have a_first_words:zl K ["RowMachine"] "first_words" := (uq nc_RowMachine cl_RowMachine nf_RowMachine_first_words ur)
 have a_held:zl K ["State"] "held" := (uq nc_State cl_State nf_State_held ur)
 have a_state:zl K ["RowMachine"] "state" := (uq nc_RowMachine cl_RowMachine nf_RowMachine_state ur)
 have a_table:zl K ["RowMachine"] "table" := (uq nc_RowMachine cl_RowMachine nf_RowMachine_table ur)
 have a_truths:zl K ["State"] "truths" := (uq nc_State cl_State nf_State_truths ur)
 have a_words:zl K ["State"] "words" := (uq nc_State cl_State nf_State_words ur)
 have g_DEEDS:y_ mg "DEEDS" (.ref A_DEEDS):=⟨_,PySem.W.mg_of X G ng_DEEDS,rfl⟩
 have d_DEEDS:pN K w mg A_DEEDS qV QO:=M5 (fs:=[f25,f26,f27,f30,f30,f30,f30,f30,f32,f32,f32,f33,f33,f35,f36,f37,f38]) nq_DEEDS (.cons (.cons (.cons (.cons (.cons (.cons (.cons (.cons (.cons (.cons (.cons (.cons (.cons (.cons (.cons (.cons (.cons .nil))))))))))))))))) (by decide +kernel) ns_DEEDS (.cons (PySem.W.mg_of X G a25) (.cons (PySem.W.mg_of X G a26) (.cons (PySem.W.mg_of X G a27) (.cons (PySem.W.mg_of X G a30) (.cons (PySem.W.mg_of X G a30) (.cons (PySem.W.mg_of X G a30) (.cons (PySem.W.mg_of X G a30) (.cons (PySem.W.mg_of X G a30) (.cons (PySem.W.mg_of X G a32) (.cons (PySem.W.mg_of X G a32) (.cons (PySem.W.mg_of X G a32) (.cons (PySem.W.mg_of X G a33) (.cons (PySem.W.mg_of X G a33) (.cons (PySem.W.mg_of X G a35) (.cons (PySem.W.mg_of X G a36) (.cons (PySem.W.mg_of X G a37) (.cons (PySem.W.mg_of X G a38) .nil)))))))))))))))))
 have g_BEYOND:y_ mg "BEYOND" (.int 4294967296):=⟨_,PySem.W.mg_of X G ng_BEYOND,⟨_,rfl⟩⟩
 have q_BEYOND:∀ H,zP K H (.int 4294967296) (.int 4294967296):=fun _=>rfl
 have g_WORD_BITS:y_ mg "WORD_BITS" (.int 32):=⟨_,PySem.W.mg_of X G ng_WORD_BITS,⟨_,rfl⟩⟩
 have q_WORD_BITS:∀ H,zP K H (.int 32) (.int 32):=fun _=>rfl
 have k_BYTE_LOWS:WW K A_BYTE_LOWS:=⟨_,nq_BYTE_LOWS,rfl,rfl⟩
 have g_BYTE_LOWS:y_ mg "BYTE_LOWS" (.ref A_BYTE_LOWS):=⟨_,PySem.W.mg_of X G ng_BYTE_LOWS,rfl⟩
 have q_BYTE_LOWS:∀ H,zP K H kG (.ref A_BYTE_LOWS):=fun H=>⟨A_BYTE_LOWS,_,rfl,Wy (xs:=[.int 0,.int 8,.int 16,.int 24]) nq_BYTE_LOWS (by show (4:Nat)<=sizeLine; decide) (.cons ⟨_,rfl⟩ (.cons ⟨_,rfl⟩ (.cons ⟨_,rfl⟩ (.cons ⟨_,rfl⟩ .nil)))) H,⟨_,_,rfl,rfl,⟨_,_,rfl,rfl,⟨_,_,rfl,rfl,⟨_,_,rfl,rfl,rfl⟩⟩⟩⟩,wK (by decide)⟩
 have k_JUMPS:WW K A_JUMPS:=⟨_,nq_JUMPS,rfl,rfl⟩
 have g_JUMPS:y_ mg "JUMPS" (.ref A_JUMPS):=⟨_,PySem.W.mg_of X G ng_JUMPS,rfl⟩
 have q_JUMPS:∀ H,zP K H VQ (.ref A_JUMPS):=fun H=>⟨A_JUMPS,_,rfl,Wy (xs:=[.str "jump",.str "when",.str "unless"]) nq_JUMPS (by show (3:Nat)<=sizeLine; decide) (.cons ⟨_,rfl⟩ (.cons ⟨_,rfl⟩ (.cons ⟨_,rfl⟩ .nil))) H,⟨_,_,rfl,⟨rfl,wK (by decide)⟩,⟨_,_,rfl,⟨rfl,wK (by decide)⟩,⟨_,_,rfl,⟨rfl,wK (by decide)⟩,rfl⟩⟩⟩,wK (by decide)⟩
 have g_ADDRESS_BITS:y_ mg "ADDRESS_BITS" (.int 16):=⟨_,PySem.W.mg_of X G ng_ADDRESS_BITS,⟨_,rfl⟩⟩
 have q_ADDRESS_BITS:∀ H,zP K H (.int 16) (.int 16):=fun _=>rfl
 have g_BYTE_BITS:y_ mg "BYTE_BITS" (.int 8):=⟨_,PySem.W.mg_of X G ng_BYTE_BITS,⟨_,rfl⟩⟩
 have q_BYTE_BITS:∀ H,zP K H (.int 8) (.int 8):=fun _=>rfl
 have k_MARKS:WW K A_MARKS:=⟨_,nq_MARKS,rfl,rfl⟩
 have g_MARKS:y_ mg "MARKS" (.ref A_MARKS):=⟨_,PySem.W.mg_of X G ng_MARKS,rfl⟩
 have q_MARKS:∀ H,zP K H pq (.ref A_MARKS):=fun H=>⟨A_MARKS,_,rfl,Wy (xs:=[.str "carry",.str "nought",.str "sign"]) nq_MARKS (by show (3:Nat)<=sizeLine; decide) (.cons ⟨_,rfl⟩ (.cons ⟨_,rfl⟩ (.cons ⟨_,rfl⟩ .nil))) H,⟨_,_,rfl,⟨rfl,wK (by decide)⟩,⟨_,_,rfl,⟨rfl,wK (by decide)⟩,⟨_,_,rfl,⟨rfl,wK (by decide)⟩,rfl⟩⟩⟩,wK (by decide)⟩
 have g_REGISTER_COUNT:y_ mg "REGISTER_COUNT" (.int 8):=⟨_,PySem.W.mg_of X G ng_REGISTER_COUNT,⟨_,rfl⟩⟩
 have q_REGISTER_COUNT:∀ H,zP K H (.int 8) (.int 8):=fun _=>rfl
 have F0:=zr (st:=ZH) l0 c0 k0
 have D0:zE K mg "is_number" ZH ["thing", "width"]:=⟨_,_,F0,PySem.W.mg_of X G a0,F0.binds fun _ _ _ _ _ _=>yz fun _ _=>rfl⟩
 have F1:=zr (st:=kq) l1 c1 k1
 have D1:zE K mg "added" kq ["one", "other", "carry"]:=⟨_,_,F1,PySem.W.mg_of X G a1,F1.binds fun _ _ _ _ _ _=>t7 fun _ _ _=>rfl⟩
 have F2:=zr (st:=Zl) l2 c2 k2
 have D2:zE K mg "taken" Zl ["one", "other", "borrow"]:=⟨_,_,F2,PySem.W.mg_of X G a2,F2.binds fun _ _ _ _ _ _=>t7 fun _ _ _=>rfl⟩
 have F3:=zr (st:=Zf) l3 c3 k3
 have D3:zE K mg "part" Zf ["word", "low", "width"]:=⟨_,_,F3,PySem.W.mg_of X G a3,F3.binds fun _ _ _ _ _ _=>t7 fun _ _ _=>rfl⟩
 have F4:=zr (st:=Zc) l4 c4 k4
 have D4:zE K mg "moved_left" Zc ["word", "count"]:=⟨_,_,F4,PySem.W.mg_of X G a4,F4.binds fun _ _ _ _ _ _=>yz fun _ _=>rfl⟩
 have F5:=zr (st:=Zd) l5 c5 k5
 have D5:zE K mg "moved_right" Zd ["word", "count"]:=⟨_,_,F5,PySem.W.mg_of X G a5,F5.binds fun _ _ _ _ _ _=>yz fun _ _=>rfl⟩
 have F6:=zr (st:=Zn) l6 c6 k6
 have D6:zE K mg "with_part" Zn ["word", "low", "width", "number"]:=⟨_,_,F6,PySem.W.mg_of X G a6,F6.binds fun _ _ _ _ _ _=>Y6 fun _ _ _ _=>rfl⟩
 have F7:=zr (st:=Z1) l7 c7 k7
 have D7:zE K mg "bytes_of" Z1 ["word"]:=⟨_,_,F7,PySem.W.mg_of X G a7,F7.binds fun _ _ _ _ _ _=>xP fun _=>rfl⟩
 have F8:=zr (st:=Zp) l8 c8 k8
 have D8:zE K mg "word_of" Zp ["four"]:=⟨_,_,F8,PySem.W.mg_of X G a8,F8.binds fun _ _ _ _ _ _=>xP fun _=>rfl⟩
 have F9:=zr (st:=ZG) l9 c9 k9
 have D9:zE K mg "is_label" ZG ["item"]:=⟨_,_,F9,PySem.W.mg_of X G a9,F9.binds fun _ _ _ _ _ _=>xP fun _=>rfl⟩
 have F10:=zr (st:=ZF) l10 c10 k10
 have D10:zE K mg "is_jump" ZF ["item"]:=⟨_,_,F10,PySem.W.mg_of X G a10,F10.binds fun _ _ _ _ _ _=>xP fun _=>rfl⟩
 have F11:=zr (st:=Zi) l11 c11 k11
 have D11:zE K mg "rows_of" Zi ["items"]:=⟨_,_,F11,PySem.W.mg_of X G a11,F11.binds fun _ _ _ _ _ _=>xP fun _=>rfl⟩
 have F12:=zr (st:=ZK) l12 c12 k12
 have D12:zE K mg "label_places" ZK ["items"]:=⟨_,_,F12,PySem.W.mg_of X G a12,F12.binds fun _ _ _ _ _ _=>xP fun _=>rfl⟩
 have F13:=zr (st:=Zm) l13 c13 k13
 have D13:zE K mg "targets_of" Zm ["items"]:=⟨_,_,F13,PySem.W.mg_of X G a13,F13.binds fun _ _ _ _ _ _=>xP fun _=>rfl⟩
 have F14:=zr (st:=ZE) l14 c14 k14
 have D14:zE K mg "is_address" ZE ["thing"]:=⟨_,_,F14,PySem.W.mg_of X G a14,F14.binds fun _ _ _ _ _ _=>xP fun _=>rfl⟩
 have F15:=zr (st:=ZI) l15 c15 k15
 have D15:zE K mg "is_pair" ZI ["thing"]:=⟨_,_,F15,PySem.W.mg_of X G a15,F15.binds fun _ _ _ _ _ _=>xP fun _=>rfl⟩
 have F16:=zr (st:=Z0) l16 c16 k16
 have D16:zE K mg "bytes_from" Z0 ["memory"]:=⟨_,_,F16,PySem.W.mg_of X G a16,F16.binds fun _ _ _ _ _ _=>xP fun _=>rfl⟩
 have F17:=zr (st:=Ze) l17 c17 k17
 have D17:zE K mg "pairs_of" Ze ["held"]:=⟨_,_,F17,PySem.W.mg_of X G a17,F17.binds fun _ _ _ _ _ _=>xP fun _=>rfl⟩
 have F18:=zr (st:=k_) l18 c18 k18
 have D18:zE K mg "byte_at" k_ ["held", "address"]:=⟨_,_,F18,PySem.W.mg_of X G a18,F18.binds fun _ _ _ _ _ _=>yz fun _ _=>rfl⟩
 have F19:=zr (st:=kz) l19 c19 k19
 have D19:zE K mg "address_of" kz ["word", "number"]:=⟨_,_,F19,PySem.W.mg_of X G a19,F19.binds fun _ _ _ _ _ _=>yz fun _ _=>rfl⟩
 have F20:=zr (st:=ZD) l20 c20 k20
 have D20:zE K mg "four_from" ZD ["address"]:=⟨_,_,F20,PySem.W.mg_of X G a20,F20.binds fun _ _ _ _ _ _=>xP fun _=>rfl⟩
 have F21:=zr (st:=Zo) l21 c21 k21
 have D21:zE K mg "word_at" Zo ["held", "address"]:=⟨_,_,F21,PySem.W.mg_of X G a21,F21.binds fun _ _ _ _ _ _=>yz fun _ _=>rfl⟩
 have F22:=zr (st:=Zg) l22 c22 k22
 have D22:zE K mg "put_byte" Zg ["held", "address", "word"]:=⟨_,_,F22,PySem.W.mg_of X G a22,F22.binds fun _ _ _ _ _ _=>t7 fun _ _ _=>rfl⟩
 have F23:=zr (st:=Zh) l23 c23 k23
 have D23:zE K mg "put_word" Zh ["held", "address", "word"]:=⟨_,_,F23,PySem.W.mg_of X G a23,F23.binds fun _ _ _ _ _ _=>t7 fun _ _ _=>rfl⟩
 have F24:=uV (st:=tu) l24 c24 k24
 have b24:xQ K (PySem.W.fnOf "__init__" "State.__init__" (yl tu) (yM tu) (zM tu) .none kV24 dc24 pm24 an24 cd24 ct24) ["self", "words", "held"] []:=.all (t7 fun _ _ _=>rfl)
 have F25:=zr (st:=Z9) l25 c25 k25
 have D25:zE K mg "do_set" Z9 ["state", "row"]:=⟨_,_,F25,PySem.W.mg_of X G a25,F25.binds fun _ _ _ _ _ _=>yz fun _ _=>rfl⟩
 have F26:=zr (st:=Z4) l26 c26 k26
 have D26:zE K mg "do_high" Z4 ["state", "row"]:=⟨_,_,F26,PySem.W.mg_of X G a26,F26.binds fun _ _ _ _ _ _=>yz fun _ _=>rfl⟩
 have F27:=zr (st:=Z3) l27 c27 k27
 have D27:zE K mg "do_copy" Z3 ["state", "row"]:=⟨_,_,F27,PySem.W.mg_of X G a27,F27.binds fun _ _ _ _ _ _=>yz fun _ _=>rfl⟩
 have F28:=zr (st:=Zj) l28 c28 k28
 have D28:zE K mg "summed" Zj ["kind", "one", "other", "carry"]:=⟨_,_,F28,PySem.W.mg_of X G a28,F28.binds fun _ _ _ _ _ _=>Y6 fun _ _ _ _=>rfl⟩
 have F29:=zr (st:=Zb) l29 c29 k29
 have D29:zE K mg "look_at" Zb ["state", "word"]:=⟨_,_,F29,PySem.W.mg_of X G a29,F29.binds fun _ _ _ _ _ _=>yz fun _ _=>rfl⟩
 have F30:=zr (st:=ZC) l30 c30 k30
 have D30:zE K mg "do_sum" ZC ["state", "row"]:=⟨_,_,F30,PySem.W.mg_of X G a30,F30.binds fun _ _ _ _ _ _=>yz fun _ _=>rfl⟩
 have F31:=zr (st:=ZJ) l31 c31 k31
 have D31:zE K mg "joined" ZJ ["kind", "one", "other"]:=⟨_,_,F31,PySem.W.mg_of X G a31,F31.binds fun _ _ _ _ _ _=>t7 fun _ _ _=>rfl⟩
 have F32:=zr (st:=Z2) l32 c32 k32
 have D32:zE K mg "do_bits" Z2 ["state", "row"]:=⟨_,_,F32,PySem.W.mg_of X G a32,F32.binds fun _ _ _ _ _ _=>yz fun _ _=>rfl⟩
 have F33:=zr (st:=Z7) l33 c33 k33
 have D33:zE K mg "do_move" Z7 ["state", "row"]:=⟨_,_,F33,PySem.W.mg_of X G a33,F33.binds fun _ _ _ _ _ _=>yz fun _ _=>rfl⟩
 have F34:=zr (st:=ku) l34 c34 k34
 have D34:zE K mg "address_in" ku ["state", "row"]:=⟨_,_,F34,PySem.W.mg_of X G a34,F34.binds fun _ _ _ _ _ _=>yz fun _ _=>rfl⟩
 have F35:=zr (st:=Z5) l35 c35 k35
 have D35:zE K mg "do_load" Z5 ["state", "row"]:=⟨_,_,F35,PySem.W.mg_of X G a35,F35.binds fun _ _ _ _ _ _=>yz fun _ _=>rfl⟩
 have F36:=zr (st:=Z6) l36 c36 k36
 have D36:zE K mg "do_loadw" Z6 ["state", "row"]:=⟨_,_,F36,PySem.W.mg_of X G a36,F36.binds fun _ _ _ _ _ _=>yz fun _ _=>rfl⟩
 have F37:=zr (st:=ZA) l37 c37 k37
 have D37:zE K mg "do_store" ZA ["state", "row"]:=⟨_,_,F37,PySem.W.mg_of X G a37,F37.binds fun _ _ _ _ _ _=>yz fun _ _=>rfl⟩
 have F38:=zr (st:=ZB) l38 c38 k38
 have D38:zE K mg "do_storew" ZB ["state", "row"]:=⟨_,_,F38,PySem.W.mg_of X G a38,F38.binds fun _ _ _ _ _ _=>yz fun _ _=>rfl⟩
 have F39:=zr (st:=Z8) l39 c39 k39
 have D39:zE K mg "do_row" Z8 ["state", "row"]:=⟨_,_,F39,PySem.W.mg_of X G a39,F39.binds fun _ _ _ _ _ _=>yz fun _ _=>rfl⟩
 have F40:=zr (st:=Za) l40 c40 k40
 have D40:zE K mg "leads" Za ["state", "row"]:=⟨_,_,F40,PySem.W.mg_of X G a40,F40.binds fun _ _ _ _ _ _=>yz fun _ _=>rfl⟩
 have F41:=zr (st:=Zq) l41 c41 k41
 have D41:zE K mg "words_from" Zq ["registers"]:=⟨_,_,F41,PySem.W.mg_of X G a41,F41.binds fun _ _ _ _ _ _=>xP fun _=>rfl⟩
 have F42:=uV (st:=tj) l42 c42 k42
 have b42:xQ K (PySem.W.fnOf "stands" "Machine.stands" (yl tj) (yM tj) (zM tj) .none kV42 dc42 pm42 an42 cd42 ct42) ["self"] []:=.all (xP fun _=>rfl)
 have F43:=uV (st:=tW) l43 c43 k43
 have b43:xQ K (PySem.W.fnOf "again" "Machine.again" (yl tW) (yM tW) (zM tW) .none kV43 dc43 pm43 an43 cd43 ct43) ["self"] []:=.all (xP fun _=>rfl)
 have F44:=uV (st:=tm) l44 c44 k44
 have b44:xQ K (PySem.W.fnOf "step" "Machine.step" (yl tm) (yM tm) (zM tm) .none kV44 dc44 pm44 an44 cd44 ct44) ["self"] []:=.all (xP fun _=>rfl)
 have F45:=uV (st:=tf) l45 c45 k45
 have b45:xQ K (PySem.W.fnOf "registers" "Machine.registers" (yl tf) (yM tf) (zM tf) .none kV45 dc45 pm45 an45 cd45 ct45) ["self"] []:=.all (xP fun _=>rfl)
 have F46:=uV (st:=tX) l46 c46 k46
 have b46:xQ K (PySem.W.fnOf "marks" "Machine.marks" (yl tX) (yM tX) (zM tX) .none kV46 dc46 pm46 an46 cd46 ct46) ["self"] []:=.all (xP fun _=>rfl)
 have F47:=uV (st:=tY) l47 c47 k47
 have b47:xQ K (PySem.W.fnOf "memory" "Machine.memory" (yl tY) (yM tY) (zM tY) .none kV47 dc47 pm47 an47 cd47 ct47) ["self"] []:=.all (xP fun _=>rfl)
 have F48:=uV (st:=tZ) l48 c48 k48
 have b48:xQ K (PySem.W.fnOf "place" "Machine.place" (yl tZ) (yM tZ) (zM tZ) .none kV48 dc48 pm48 an48 cd48 ct48) ["self"] []:=.all (xP fun _=>rfl)
 have F49:=uV (st:=tq) l49 c49 k49
 have b49:xQ K (PySem.W.fnOf "steps" "Machine.steps" (yl tq) (yM tq) (zM tq) .none kV49 dc49 pm49 an49 cd49 ct49) ["self"] []:=.all (xP fun _=>rfl)
 have F50:=uV (st:=tV) l50 c50 k50
 have b50:xQ K (PySem.W.fnOf "__init__" "Machine.__init__" (yl tV) (yM tV) (zM tV) .none kV50 dc50 pm50 an50 cd50 ct50) ["self", "table", "end", "registers", "memory"] []:=.all (Nk fun _ _ _ _ _=>rfl)
 have F51:=zr (st:=Zk) l51 c51 k51
 have D51:zE K mg "table_of_rows" Zk ["items"]:=⟨_,_,F51,PySem.W.mg_of X G a51,F51.binds fun _ _ _ _ _ _=>xP fun _=>rfl⟩
 have F52:=uV (st:=uI) l52 c52 k52
 have b52:xQ K (PySem.W.fnOf "__init__" "RowMachine.__init__" (yl uI) (yM uI) (zM uI) (.ref T52) kV52 dc52 pm52 an52 cd52 ct52) ["self", "items", "registers", "memory"] []:=fun s us KI hl=>by
  rw [List.append_nil] at hl ⊢
  exact Y6 (P:=fun us=>BindsTo s (PySem.W.fnOf "__init__" "RowMachine.__init__" (yl uI) (yM uI) (zM uI) (.ref T52) kV52 dc52 pm52 an52 cd52 ct52) ⟨us,[]⟩ ((["self", "items", "registers", "memory"]:List Str).zip us)) (fun _ _ _ _=>PySem.W.binds_K KI rfl t52 rfl rfl rfl) us hl
 have F53:=zr (st:=ZN) l53 c53 k53
 have D53:zE K mg "_law_cell_at" ZN ["_law_script", "_law_k"]:=⟨_,_,F53,PySem.W.mg_of X G a53,F53.binds fun _ _ _ _ _ _=>yz fun _ _=>rfl⟩
 have F54:=zr (st:=ZR) l54 c54 k54
 have D54:zE K mg "_law_mixed" ZR ["_law_cell", "_law_k"]:=⟨_,_,F54,PySem.W.mg_of X G a54,F54.binds fun _ _ _ _ _ _=>yz fun _ _=>rfl⟩
 have F55:=zr (st:=ZY) l55 c55 k55
 have D55:zE K mg "_law_word" ZY ["_law_cell", "_law_k"]:=⟨_,_,F55,PySem.W.mg_of X G a55,F55.binds fun _ _ _ _ _ _=>yz fun _ _=>rfl⟩
 have F56:=zr (st:=ZZ) l56 c56 k56
 have D56:zE K mg "_law_words" ZZ ["_law_cell"]:=⟨_,_,F56,PySem.W.mg_of X G a56,F56.binds fun _ _ _ _ _ _=>xP fun _=>rfl⟩
 have F57:=zr (st:=ZU) l57 c57 k57
 have D57:zE K mg "_law_power" ZU ["_law_count"]:=⟨_,_,F57,PySem.W.mg_of X G a57,F57.binds fun _ _ _ _ _ _=>xP fun _=>rfl⟩
 have F58:=zr (st:=ZX) l58 c58 k58
 have D58:zE K mg "_law_sum" ZX ["_law_kind", "_law_one", "_law_other", "_law_carry"]:=⟨_,_,F58,PySem.W.mg_of X G a58,F58.binds fun _ _ _ _ _ _=>Y6 fun _ _ _ _=>rfl⟩
 have F59:=zr (st:=ZM) l59 c59 k59
 have D59:zE K mg "_law_bitwise" ZM ["_law_kind", "_law_one", "_law_other"]:=⟨_,_,F59,PySem.W.mg_of X G a59,F59.binds fun _ _ _ _ _ _=>t7 fun _ _ _=>rfl⟩
 have F60:=zr (st:=ZV) l60 c60 k60
 have D60:zE K mg "_law_shifted" ZV ["_law_kind", "_law_word_here", "_law_count"]:=⟨_,_,F60,PySem.W.mg_of X G a60,F60.binds fun _ _ _ _ _ _=>t7 fun _ _ _=>rfl⟩
 have F61:=zr (st:=ZO) l61 c61 k61
 have D61:zE K mg "_law_deed" ZO ["_law_row", "_law_s"]:=⟨_,_,F61,PySem.W.mg_of X G a61,F61.binds fun _ _ _ _ _ _=>yz fun _ _=>rfl⟩
 have F62:=zr (st:=ZL) l62 c62 k62
 have D62:zE K mg "_law_begin" ZL ["_law_words_here", "_law_pairs_here"]:=⟨_,_,F62,PySem.W.mg_of X G a62,F62.binds fun _ _ _ _ _ _=>yz fun _ _=>rfl⟩
 have F63:=zr (st:=ZS) l63 c63 k63
 have D63:zE K mg "_law_pairs" ZS ["_law_cell"]:=⟨_,_,F63,PySem.W.mg_of X G a63,F63.binds fun _ _ _ _ _ _=>xP fun _=>rfl⟩
 have F64:=zr (st:=ZQ) l64 c64 k64
 have D64:zE K mg "_law_look" ZQ ["_law_machine", "_law_cell"]:=⟨_,_,F64,PySem.W.mg_of X G a64,F64.binds fun _ _ _ _ _ _=>yz fun _ _=>rfl⟩
 have F65:=zr (st:=ZP) l65 c65 k65
 have D65:zE K mg "_law_due" ZP ["_law_s", "_law_stands"]:=⟨_,_,F65,PySem.W.mg_of X G a65,F65.binds fun _ _ _ _ _ _=>yz fun _ _=>rfl⟩
 have F66:=zr (st:=ZW) l66 c66 k66
 have D66:zE K mg "_law_straight" ZW ["_law_row", "_law_s"]:=⟨_,_,F66,PySem.W.mg_of X G a66,F66.binds fun _ _ _ _ _ _=>yz fun _ _=>rfl⟩
 have F67:=zr (st:=ZT) l67 c67 k67
 have D67:zE K mg "_law_played" ZT ["_law_script", "_law_rows"]:=⟨_,_,F67,PySem.W.mg_of X G a67,F67.binds fun _ _ _ _ _ _=>yz fun _ _=>rfl⟩
 have F68:=zr (st:=j9) l68 c68 k68
 refine ⟨PySem.W.fnOf "law" "law" (yl j9) (yM j9) (zM j9) .none kV68 dc68 pm68 an68 cd68 ct68,fun s v=>.of_eq rfl,fun base _ _=>?_⟩
 have h_is_number:=FN (P:=l.prog) (w:=w) (base:=base) D0 z_isinstance z_int z_bool
 have h_added:=Dk (P:=l.prog) (w:=w) (base:=base) D1 g_BEYOND q_BEYOND
 have h_taken:=C4 (P:=l.prog) (w:=w) (base:=base) D2 g_BEYOND q_BEYOND
 have h_part:=Fy (P:=l.prog) (w:=w) (base:=base) D3 
 have h_moved_left:=Fq (P:=l.prog) (w:=w) (base:=base) D4 g_WORD_BITS q_WORD_BITS h_part
 have h_moved_right:=Fr (P:=l.prog) (w:=w) (base:=base) D5 h_part
 have h_with_part:=C6 (P:=l.prog) (w:=w) (base:=base) D6 
 have h_bytes_of:=Dq (P:=l.prog) (w:=w) (base:=base) D7 z_tuple g_BYTE_LOWS q_BYTE_LOWS h_part
 have h_word_of:=C8 (P:=l.prog) (w:=w) (base:=base) D8 z_sum z_zip g_BYTE_LOWS q_BYTE_LOWS
 have h_is_label:=FK (P:=l.prog) (w:=w) (base:=base) D9 
 have h_is_jump:=FJ (P:=l.prog) (w:=w) (base:=base) D10 g_JUMPS q_JUMPS
 have h_rows_of:=C0 (P:=l.prog) (w:=w) (base:=base) D11 h_is_label
 have h_label_places:=FQ (P:=l.prog) (w:=w) (base:=base) D12 h_is_label
 have h_targets_of:=C5 (P:=l.prog) (w:=w) (base:=base) D13 h_label_places h_rows_of h_is_jump
 have h_is_address:=FI (P:=l.prog) (w:=w) (base:=base) D14 g_ADDRESS_BITS q_ADDRESS_BITS h_is_number
 have h_is_pair:=FO (P:=l.prog) (w:=w) (base:=base) D15 z_len z_isinstance z_tuple g_BYTE_BITS q_BYTE_BITS h_is_number h_is_address
 have h_bytes_from:=Dp (P:=l.prog) (w:=w) (base:=base) D16 z_isinstance z_list h_is_pair
 have h_pairs_of:=Fx (P:=l.prog) (w:=w) (base:=base) D17 z_sorted
 have h_byte_at:=Do (P:=l.prog) (w:=w) (base:=base) D18 
 have h_address_of:=Dm (P:=l.prog) (w:=w) (base:=base) D19 g_ADDRESS_BITS q_ADDRESS_BITS h_part
 have h_four_from:=FC (P:=l.prog) (w:=w) (base:=base) D20 z_range h_address_of
 have h_word_at:=C7 (P:=l.prog) (w:=w) (base:=base) D21 h_word_of h_four_from h_byte_at
 have h_put_byte:=Fz (P:=l.prog) (w:=w) (base:=base) D22 g_BYTE_BITS q_BYTE_BITS h_part
 have h_put_word:=F_ (P:=l.prog) (w:=w) (base:=base) D23 z_zip h_put_byte h_four_from h_bytes_of
 have o24:=Dj (P:=l.prog) (w:=w) (mg:=mg) (base:=base) F24 z_list z_dict g_MARKS q_MARKS a_words a_truths a_held
 have k_State:gZ l.prog w K mg base "State" ["self", "words", "held"] 1 (zk K jK):=⟨C_State,f24,_,nc_State,PySem.W.mg_of X G nc_State,⟨mk_State,a24,i24,kc_State⟩,b24,o24⟩
 have h_do_set:=Dy (P:=l.prog) (w:=w) (base:=base) D25 a_words
 have h_do_high:=Dt (P:=l.prog) (w:=w) (base:=base) D26 a_words h_with_part
 have h_do_copy:=Ds (P:=l.prog) (w:=w) (base:=base) D27 a_words
 have h_summed:=C2 (P:=l.prog) (w:=w) (base:=base) D28 h_added h_taken
 have h_look_at:=Fo (P:=l.prog) (w:=w) (base:=base) D29 g_WORD_BITS q_WORD_BITS a_truths h_part
 have h_do_sum:=FB (P:=l.prog) (w:=w) (base:=base) D30 a_truths a_words h_look_at h_summed
 have h_joined:=FP (P:=l.prog) (w:=w) (base:=base) D31 
 have h_do_bits:=Dr (P:=l.prog) (w:=w) (base:=base) D32 a_words h_look_at h_joined
 have h_do_move:=Dw (P:=l.prog) (w:=w) (base:=base) D33 a_words a_truths h_look_at h_moved_left h_moved_right
 have h_address_in:=Dl (P:=l.prog) (w:=w) (base:=base) D34 a_words h_address_of
 have h_do_load:=Du (P:=l.prog) (w:=w) (base:=base) D35 a_words a_held h_byte_at h_address_in
 have h_do_loadw:=Dv (P:=l.prog) (w:=w) (base:=base) D36 a_words a_held h_word_at h_address_in
 have h_do_store:=Dz (P:=l.prog) (w:=w) (base:=base) D37 a_words a_held h_put_byte h_address_in
 have h_do_storew:=D_ (P:=l.prog) (w:=w) (base:=base) D38 a_words a_held h_put_word h_address_in
 have h_do_row:=Dx (P:=l.prog) (w:=w) (base:=base) D39 g_DEEDS d_DEEDS h_do_set h_do_high h_do_copy h_do_sum h_do_bits h_do_move h_do_load h_do_loadw h_do_store h_do_storew
 have h_leads:=Fm (P:=l.prog) (w:=w) (base:=base) D40 a_truths
 have h_words_from:=C9 (P:=l.prog) (w:=w) (base:=base) D41 z_len z_isinstance z_list z_all g_REGISTER_COUNT q_REGISTER_COUNT g_WORD_BITS q_WORD_BITS h_is_number
 have o42:=Df (P:=l.prog) (w:=w) (mg:=mg) (base:=base) F42 a_due a_table a_end
 have v_Machine_stands:wF l.prog w K mg base "RowMachine" "stands" ["self"] 1 (zO K wf):=⟨C_RowMachine,f42,_,nc_RowMachine,cl_RowMachine,⟨a42,i42,k42⟩,b42,o42⟩
 have o43:=Da (P:=l.prog) (w:=w) (mg:=mg) (base:=base) F43 a_state a_first_held a_first_words a_due a_done k_State
 have v_Machine_again:wF l.prog w K mg base "RowMachine" "again" ["self"] 3 (zk K qE):=⟨C_RowMachine,f43,_,nc_RowMachine,cl_RowMachine,⟨a43,i43,k43⟩,b43,o43⟩
 have o44:=Dg (P:=l.prog) (w:=w) (mg:=mg) (base:=base) F44 a_due a_table a_state a_done v_Machine_stands h_do_row h_leads
 have v_Machine_step:wF l.prog w K mg base "RowMachine" "step" ["self"] 7 (zk K uj):=⟨C_RowMachine,f44,_,nc_RowMachine,cl_RowMachine,⟨a44,i44,k44⟩,b44,o44⟩
 have o45:=De (P:=l.prog) (w:=w) (mg:=mg) (base:=base) F45 z_list a_state a_words
 have v_Machine_registers:wF l.prog w K mg base "RowMachine" "registers" ["self"] 1 (zO K p8):=⟨C_RowMachine,f45,_,nc_RowMachine,cl_RowMachine,⟨a45,i45,k45⟩,b45,o45⟩
 have o46:=Db (P:=l.prog) (w:=w) (mg:=mg) (base:=base) F46 z_tuple g_MARKS q_MARKS a_state a_truths
 have v_Machine_marks:wF l.prog w K mg base "RowMachine" "marks" ["self"] 1 (zO K p5):=⟨C_RowMachine,f46,_,nc_RowMachine,cl_RowMachine,⟨a46,i46,k46⟩,b46,o46⟩
 have o47:=Dc (P:=l.prog) (w:=w) (mg:=mg) (base:=base) F47 a_state a_held h_pairs_of
 have v_Machine_memory:wF l.prog w K mg base "RowMachine" "memory" ["self"] 2 (zO K p6):=⟨C_RowMachine,f47,_,nc_RowMachine,cl_RowMachine,⟨a47,i47,k47⟩,b47,o47⟩
 have o48:=Dd (P:=l.prog) (w:=w) (mg:=mg) (base:=base) F48 a_due
 have v_Machine_place:wF l.prog w K mg base "RowMachine" "place" ["self"] 1 (zO K p7):=⟨C_RowMachine,f48,_,nc_RowMachine,cl_RowMachine,⟨a48,i48,k48⟩,b48,o48⟩
 have o49:=Dh (P:=l.prog) (w:=w) (mg:=mg) (base:=base) F49 a_done
 have v_Machine_steps:wF l.prog w K mg base "RowMachine" "steps" ["self"] 1 (zO K p9):=⟨C_RowMachine,f49,_,nc_RowMachine,cl_RowMachine,⟨a49,i49,k49⟩,b49,o49⟩
 have o50:=DZ (P:=l.prog) (w:=w) (mg:=mg) (base:=base) F50 a_table a_end a_first_words a_first_held v_Machine_again h_words_from h_bytes_from
 have w_Machine___init__:YD l.prog w K mg base "Machine" "__init__" ["self", "table", "end", "registers", "memory"] 5 (zk K jI):=⟨⟨C_Machine,f50,_,.type "type",PySem.W.mg_of X G nc_Machine,hg_Machine,rd_Machine,a50,k50,b50,o50⟩⟩
 have h_table_of_rows:=C3 (P:=l.prog) (w:=w) (base:=base) D51 z_enumerate h_rows_of h_targets_of
 have o52:=Di (P:=l.prog) (w:=w) (mg:=mg) (base:=base) F52 z_len w_Machine___init__ h_table_of_rows
 have k_RowMachine:gZ l.prog w K mg base "RowMachine" ["self", "items", "registers", "memory"] 6 (zk K jJ):=⟨C_RowMachine,f52,_,nc_RowMachine,PySem.W.mg_of X G nc_RowMachine,⟨mk_RowMachine,a52,i52,kc_RowMachine⟩,b52,o52⟩
 have h_law_cell_at:=FY (P:=l.prog) (w:=w) (base:=base) D53 z_len
 have h_law_mixed:=Fc (P:=l.prog) (w:=w) (base:=base) D54 
 have h_law_word:=Fj (P:=l.prog) (w:=w) (base:=base) D55 h_law_mixed
 have h_law_words:=Fk (P:=l.prog) (w:=w) (base:=base) D56 z_range h_law_word
 have h_law_power:=Ff (P:=l.prog) (w:=w) (base:=base) D57 z_range
 have h_law_sum:=Fi (P:=l.prog) (w:=w) (base:=base) D58 z_int
 have h_law_bitwise:=FW (P:=l.prog) (w:=w) (base:=base) D59 z_range z_max
 have h_law_shifted:=Fg (P:=l.prog) (w:=w) (base:=base) D60 h_law_power
 have h_law_deed:=FZ (P:=l.prog) (w:=w) (base:=base) D61 h_law_shifted h_law_bitwise h_law_sum
 have h_law_begin:=FV (P:=l.prog) (w:=w) (base:=base) D62 z_list
 have h_law_pairs:=Fd (P:=l.prog) (w:=w) (base:=base) D63 z_range h_law_mixed
 have h_law_look:=Fb (P:=l.prog) (w:=w) (base:=base) D64 z_repr z_range v_Machine_registers v_Machine_marks v_Machine_memory v_Machine_place v_Machine_steps v_Machine_stands
 have h_law_due:=Fa (P:=l.prog) (w:=w) (base:=base) D65 z_sorted z_list z_repr z_tuple
 have h_law_straight:=Fh (P:=l.prog) (w:=w) (base:=base) D66 h_law_deed
 have h_law_played:=Fe (P:=l.prog) (w:=w) (base:=base) D67 z_list z_range z_len k_RowMachine v_Machine_step h_law_begin h_law_straight h_law_words h_law_cell_at h_law_pairs h_law_look h_law_due
 exact FU F68 z_range h_law_cell_at h_law_mixed (zH.fzM h_law_played)
theorem walk {l:PySem.W.OpenLaw} {q:Program} {loose:List Str} {XP:(Str->Option Value)->Heap->Prop} {YP:World->Heap->Prop} {d:DefRec} {K:Params->PySem.W.Frag} (hn:l.most=some 63) (hdf:d.params.defaults=[])
  (hY:∀ (w:World) (h:Heap),YP w h->(K w.params).In h)
  (F:∀ (w:World) (mg:Str->Option Value) (fa:Addr) (h:Heap),(K w.params).In h->h.Ns mainGlobals mg->mg d.name=some (.ref fa)->
   ∃ fd:FuncData,(∀ (s:Shared) (u:Value),BindsTo s fd ⟨[u],[]⟩ [("_law_script",u)])/\∀ base:Heap,(K w.params).In base->base.Ns mainGlobals mg->yY l.prog w (K w.params) mg base yZ 10 fa fd ["_law_script"] (Zy (K w.params))) :
  PySem.W.WalkO q loose XP YP l.row.toRowW d [] (fun f vs=>PySem.call f vs):=
 L3.walkB (n:=63) (k:=10) (x := "_law_script") (sp:=Zy) hn (by decide) hdf ⟨rfl,by decide,by decide,rfl⟩ hY F fun _ _ a ns hl hb hS=>⟨a,ns,rfl,hS,hl,hb,fun _=>rfl⟩
end My
namespace PySem.W.Fast
noncomputable def tw12245710603776837910:=0
noncomputable def tw4114194667754986546:=0
noncomputable def tw2509390360447807675:=0
noncomputable def tw652681322558490100:=0
noncomputable def tw15448449129121959646:=0
noncomputable def tw14656667395657021682:=0
noncomputable def tw1043509610403433335:=0
noncomputable def tw16410242275956114012:=0
noncomputable def tw18298827424564982331:=0
noncomputable def tw1885763125430146967:=0
noncomputable def tw10650883073348841522:=0
noncomputable def tw4216937990968021537:=0
noncomputable def tw2111264333085686507:=0
noncomputable def tw6697362033393178980:=0
noncomputable def tw7996595133186497882:=0
noncomputable def tw18205489608830267212:=0
noncomputable def tw16821396500915076674:=0
noncomputable def tw7814140888244766802:=0
noncomputable def tw10388214531902122186:=0
noncomputable def tw14104523532014803442:=0
noncomputable def tw6691696776561047484:=0
noncomputable def tw14696114877727833806:=0
noncomputable def tw1632809451960824453:=0
noncomputable def tw5506202602618714916:=0
noncomputable def tw16411841540169741394:=0
noncomputable def tw9790628140087694118:=0
noncomputable def tw11999691025577810877:=0
noncomputable def tw10182499861867712017:=0
noncomputable def tw5439338066179971577:=0
noncomputable def tw16820574266663085604:=0
noncomputable def tw11832343866706247527:=0
noncomputable def tw3365090990336322258:=0
noncomputable def tw9467249485762250514:=0
noncomputable def tw9889567576376940150:=0
noncomputable def tw7662822139874563328:=0
noncomputable def tw2786230721933654384:=0
noncomputable def tw17287117451621862989:=0
noncomputable def tw16515279447915132690:=0
noncomputable def tw17680003589781369164:=0
noncomputable def tw10857320921673586163:=0
noncomputable def tw4782897553645619212:=0
noncomputable def tw2066436186044261171:=0
noncomputable def tw14060198535244387713:=0
noncomputable def tw2279679396229439769:=0
noncomputable def tw11688909195871459311:=0
noncomputable def tw6822914361931481181:=0
noncomputable def tw9104359477654378552:=0
noncomputable def tw4148365523592460608:=0
noncomputable def tw61821246593081833:=0
noncomputable def tw16359089310921106630:=0
noncomputable def tw10308938086081758139:=0
noncomputable def tw9595317424261936987:=0
noncomputable def tw7917602725874578464:=0
noncomputable def tw12328212441666229947:=0
noncomputable def tw17111529223310704862:=0
noncomputable def tw6040784648527355355:=0
noncomputable def tw9973081692324791560:=0
noncomputable def tw1124608306120210375:=0
noncomputable def tw13522554755682675183:=0
noncomputable def tw9429582501797064815:=0
noncomputable def tw2738763591204471230:=0
noncomputable def tw10992749837295742066:=0
noncomputable def tw12252683742990841567:=0
noncomputable def tw17529465981465770852:=0
noncomputable def tw5920641422838452361:=0
noncomputable def tw7193605001865408082:=0
noncomputable def tw6506692834449721774:=0
noncomputable def tw119827520829934570:=0
noncomputable def tw4006768281202668414:=0
noncomputable def tw10138525635285390794:=0
noncomputable def tw8525741761115189705:=0
noncomputable def tw9157245009243424113:=0
noncomputable def tw15702470522005957541:=0
noncomputable def tw1809864397064589479:=0
noncomputable def tw2087006636590142659:=0
noncomputable def tw1775084598337831132:=0
noncomputable def tw6229148830254386807:=0
noncomputable def tw4435703250988150162:=0
noncomputable def tw17184208908836488141:=0
noncomputable def tw12848728818123303912:=0
noncomputable def tw2177936616116633424:=0
noncomputable def tw14136980631363259729:=0
noncomputable def tw4431879054252650055:=0
noncomputable def tw2257108655194835792:=0
noncomputable def tw13055633991266327320:=0
noncomputable def tw4545089654713185830:=0
noncomputable def tw8294285160051643136:=0
noncomputable def tw9558688455291623324:=0
noncomputable def tw13280524616043627351:=0
noncomputable def tw1735834829841800998:=0
noncomputable def tw10699551737616642313:=0
noncomputable def tw17833823459673616071:=0
noncomputable def tw13851119406933351158:=0
noncomputable def tw13079610146668386134:=0
noncomputable def tw17101259918512650102:=0
noncomputable def tw6784145888722349162:=0
noncomputable def tw16545720909778791662:=0
noncomputable def tw6767389545410962318:=0
noncomputable def tw7661471461132176499:=0
noncomputable def tw6859229300114569433:=0
noncomputable def tw17243087286395300438:=0
noncomputable def tw6048118158558068391:=0
noncomputable def tw13804373957369749173:=0
noncomputable def tw8181016559135667675:=0
noncomputable def tw11784442543975928079:=0
noncomputable def tw8391856866979804383:=0
noncomputable def tw3761467962513681053:=0
noncomputable def tw3346021273401666633:=0
noncomputable def tw4919547227376149313:=0
noncomputable def tw9997024866705382849:=0
noncomputable def tw14131391758602572889:=0
noncomputable def tw2962353298138190054:=0
noncomputable def tw18004005902505578072:=0
noncomputable def tw4885678871356065515:=0
noncomputable def tw14676595444894265820:=0
noncomputable def tw2531379903006550524:=0
noncomputable def tw15894096169693591578:=0
noncomputable def tw14205644828511743074:=0
noncomputable def tw14150103275755557765:=0
noncomputable def tw13732856585701383256:=0
noncomputable def tw10847756353999125392:=0
noncomputable def tw4272276984097689111:=0
noncomputable def tw11634801611777142727:=0
noncomputable def tw4932150602343447303:=0
noncomputable def tw12453047710436739506:=0
noncomputable def tw15978753689483621378:=0
noncomputable def tw12894041474237940458:=0
noncomputable def tw5039730349272594974:=0
noncomputable def tw1014264129525750653:=0
noncomputable def tw5272231722081164665:=0
noncomputable def tw657067072591607102:=0
noncomputable def tw18016360775049236643:=0
noncomputable def tw14062161391059967192:=0
noncomputable def tw5822171940675596863:=0
noncomputable def tw7336980035218755600:=0
noncomputable def tw10014236768900406527:=0
noncomputable def tw3762766198240519224:=0
noncomputable def tw980663559086223812:=0
noncomputable def tw6623630964584547531:=0
noncomputable def tw7375572226157534449:=0
noncomputable def tw16796018169641510887:=0
noncomputable def tw8843256093272672754:=0
noncomputable def tw8874259117679580294:=0
noncomputable def tw9903057590609031399:=0
noncomputable def tw9916061473792740640:=0
noncomputable def tw1989061796083761003:=0
noncomputable def tw13308012827363120885:=0
noncomputable def tw15433865579260627355:=0
noncomputable def tw7351654896645519104:=0
noncomputable def tw10943335322635400196:=0
noncomputable def tw17850363806947710035:=0
noncomputable def tw11968522692535648231:=0
noncomputable def tw8692046050245028951:=0
noncomputable def tw2196414924771387266:=0
end PySem.W.Fast
open PySem PySem.W PyProof.Rows
set_option maxRecDepth 100000 in
set_option maxHeartbeats 0 in
theorem PySem.Challenge.cw_markrun_k36_bits_and_moves_holds : PySem.Challenge.rw_markrun_k36_bits_and_moves.Holds := by
 w_on; o_law; k_head; (case hw=>w_witness2)
 k_fill
 refine My.walk (l:=PySem.Challenge.rw_markrun_k36_bits_and_moves) rfl rfl (fun w h Y=>PySem.W.kIn_of Y) ?F
 case F=>
  intro w mg fa h KX G hmg
  refine' My.all_mk KX G hmg ?nc_Machine ?nc_RowMachine ?nc_State ?a0 ?l0 ?c0 ?k0 ?a1 ?l1 ?c1 ?k1 ?a2 ?l2 ?c2 ?k2 ?a3 ?l3 ?c3 ?k3 ?a4 ?l4 ?c4 ?k4 ?a5 ?l5 ?c5 ?k5 ?a6 ?l6 ?c6 ?k6 ?a7 ?l7 ?c7 ?k7 ?a8 ?l8 ?c8 ?k8 ?a9 ?l9 ?c9 ?k9 ?a10 ?l10 ?c10 ?k10 ?a11 ?l11 ?c11 ?k11 ?a12 ?l12 ?c12 ?k12 ?a13 ?l13 ?c13 ?k13 ?a14 ?l14 ?c14 ?k14 ?a15 ?l15 ?c15 ?k15 ?a16 ?l16 ?c16 ?k16 ?a17 ?l17 ?c17 ?k17 ?a18 ?l18 ?c18 ?k18 ?a19 ?l19 ?c19 ?k19 ?a20 ?l20 ?c20 ?k20 ?a21 ?l21 ?c21 ?k21 ?a22 ?l22 ?c22 ?k22 ?a23 ?l23 ?c23 ?k23 ?a24 ?l24 ?c24 ?k24 ?i24 ?a25 ?l25 ?c25 ?k25 ?a26 ?l26 ?c26 ?k26 ?a27 ?l27 ?c27 ?k27 ?a28 ?l28 ?c28 ?k28 ?a29 ?l29 ?c29 ?k29 ?a30 ?l30 ?c30 ?k30 ?a31 ?l31 ?c31 ?k31 ?a32 ?l32 ?c32 ?k32 ?a33 ?l33 ?c33 ?k33 ?a34 ?l34 ?c34 ?k34 ?a35 ?l35 ?c35 ?k35 ?a36 ?l36 ?c36 ?k36 ?a37 ?l37 ?c37 ?k37 ?a38 ?l38 ?c38 ?k38 ?a39 ?l39 ?c39 ?k39 ?a40 ?l40 ?c40 ?k40 ?a41 ?l41 ?c41 ?k41 ?a42 ?l42 ?c42 ?k42 ?i42 ?a43 ?l43 ?c43 ?k43 ?i43 ?a44 ?l44 ?c44 ?k44 ?i44 ?a45 ?l45 ?c45 ?k45 ?i45 ?a46 ?l46 ?c46 ?k46 ?i46 ?a47 ?l47 ?c47 ?k47 ?i47 ?a48 ?l48 ?c48 ?k48 ?i48 ?a49 ?l49 ?c49 ?k49 ?i49 ?a50 ?l50 ?c50 ?k50 ?i50 ?a51 ?l51 ?c51 ?k51 ?a52 ?l52 ?c52 ?k52 ?i52 ?t52 ?a53 ?l53 ?c53 ?k53 ?a54 ?l54 ?c54 ?k54 ?a55 ?l55 ?c55 ?k55 ?a56 ?l56 ?c56 ?k56 ?a57 ?l57 ?c57 ?k57 ?a58 ?l58 ?c58 ?k58 ?a59 ?l59 ?c59 ?k59 ?a60 ?l60 ?c60 ?k60 ?a61 ?l61 ?c61 ?k61 ?a62 ?l62 ?c62 ?k62 ?a63 ?l63 ?c63 ?k63 ?a64 ?l64 ?c64 ?k64 ?a65 ?l65 ?c65 ?k65 ?a66 ?l66 ?c66 ?k66 ?a67 ?l67 ?c67 ?k67 ?a68 ?l68 ?c68 ?k68 ?nz_isinstance ?nz_int ?nz_bool ?nz_tuple ?nz_sum ?nz_zip ?nz_len ?nz_list ?nz_sorted ?nz_range ?nz_dict ?nz_all ?nz_enumerate ?nz_max ?nz_repr ?hg_Machine ?rd_Machine ?pg_RowMachine ?hd_RowMachine ?po_RowMachine ?sa_RowMachine ?mk_RowMachine ?kc_RowMachine ?pg_State ?hd_State ?po_State ?sa_State ?mk_State ?kc_State ?nf_RowMachine_done ?nf_RowMachine_due ?nf_RowMachine_end ?nf_RowMachine_first_held ?nf_RowMachine_first_words ?nf_State_held ?nf_RowMachine_state ?nf_RowMachine_table ?nf_State_truths ?nf_State_words ?ng_DEEDS ?nq_DEEDS ?ns_DEEDS ?ng_BEYOND ?ng_WORD_BITS ?ng_BYTE_LOWS ?nq_BYTE_LOWS ?ng_JUMPS ?nq_JUMPS ?ng_ADDRESS_BITS ?ng_BYTE_BITS ?ng_MARKS ?nq_MARKS ?ng_REGISTER_COUNT
  all_goals try (first | k_is | k_exc | kit_is | kts_exm)
  all_goals decide
