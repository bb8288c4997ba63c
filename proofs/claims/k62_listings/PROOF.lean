import PyProof.Rows.All
import Wide.All
import OpenK.AllK
import Wide.FinOn
import Lean
import PyProof.EqAt
import PyProof.EqKinds
import PyProof.TupleCall
import PySem.Challenge.RW_markrun_k62_listings
set_option Elab.async false
set_option linter.all false
set_option maxRecDepth 100000
namespace L2
open PySem PySem.Spec PyProof.Rows
noncomputable abbrev zU:=Sum Int Str
noncomputable def pF:zU->Value->Bool
 | .inl k,v=>Value.isInt k v
 | .inr x,v=>Value.isStrOf x v
noncomputable def BE (w:World):zU->Int
 | .inl k=>hashInt k
 | .inr x=>hashStr w x
theorem ur:∀ {k:zU} {v:Value},pF k v=true->(∃ i t,k=Sum.inl i/\v=Value.int i t)\/(∃ x t,k=Sum.inr x/\v=Value.str x t)
 | .inl i,v,h=>by
  obtain ⟨t,e⟩:=Value.isInt_shape (k:=i) (v:=v) h
  exact .inl ⟨i,t,rfl,e⟩
 | .inr x,v,h=>by
  obtain ⟨t,e⟩:=Value.isStrOf_shape (x:=x) (v:=v) h
  exact .inr ⟨x,t,rfl,e⟩
theorem BF (i:Int) (t:Tok):pF (.inl i) (.int i t)=true:=by simp [pF,Value.isInt]
theorem BH (x:Str) (t:Tok):pF (.inr x) (.str x t)=true:=by simp [pF,Value.isStrOf]
theorem BI (a b:Int):decide ((Sum.inl a:zU)=Sum.inl b)=(a == b):=by
 by_cases e:a=b
 ·subst e; simp
 ·have h:¬ (Sum.inl a:zU)=Sum.inl b:=fun q=>e (Sum.inl.inj q)
  rw [decide_eq_false h]
  exact (beq_eq_false_iff_ne.mpr e).symm
theorem BL (a b:Str):decide ((Sum.inr a:zU)=Sum.inr b)=decide (a=b):=by
 by_cases e:a=b
 ·subst e; simp
 ·have h:¬ (Sum.inr a:zU)=Sum.inr b:=fun q=>e (Sum.inr.inj q)
  rw [decide_eq_false h,decide_eq_false e]
theorem BJ (a:Int) (b:Str):decide ((Sum.inl a:zU)=Sum.inr b)=false:=decide_eq_false (fun q=>nomatch q)
theorem BK (a:Str) (b:Int):decide ((Sum.inr a:zU)=Sum.inl b)=false:=decide_eq_false (fun q=>nomatch q)
noncomputable def xG (prog:Program) (w:World):PySem.KeyKind prog w zU where
 is:=pF
 hash:=BE w
 inj:=fun v a b ha hb=>by
  rcases ur ha with ⟨i,t,rfl,rfl⟩ | ⟨x,t,rfl,rfl⟩
  ·rcases ur hb with ⟨j,u,rfl,e⟩ | ⟨y,u,rfl,e⟩
   ·injection e with e1 _; rw [e1]
   ·exact nomatch e
  ·rcases ur hb with ⟨j,u,rfl,e⟩ | ⟨y,u,rfl,e⟩
   ·exact nomatch e
   ·injection e with e1 _; rw [e1]
 byValue:=fun k v h=>by
  rcases ur h with ⟨i,t,rfl,rfl⟩ | ⟨x,t,rfl,rfl⟩<;>rfl
 pyHash:=fun hv h=>by
  rcases ur hv with ⟨i,t,rfl,rfl⟩ | ⟨x,t,rfl,rfl⟩
  ·exact wpAny_pyHash_int h
  ·exact wpAny_pyHash_str h
 eqBool:=fun hu hv h=>by
  rcases ur hu with ⟨i,t,rfl,rfl⟩ | ⟨x,t,rfl,rfl⟩
  ·rcases ur hv with ⟨j,u,rfl,rfl⟩ | ⟨y,u,rfl,rfl⟩
   ·rw [BI] at h; exact wpAny_eqBool_int h
   ·rw [BJ] at h; exact SeqAt.EqAt.int_str i t y u _ _ _ _ h
  ·rcases ur hv with ⟨j,u,rfl,rfl⟩ | ⟨y,u,rfl,rfl⟩
   ·rw [BK] at h; exact SeqAt.EqAt.str_int x t j u _ _ _ _ h
   ·rw [BL] at h; exact wpAny_eqBool_str h
 «strs»:=fun k x t v h=>by
  rcases ur h with ⟨i,u,rfl,e⟩ | ⟨y,u,rfl,e⟩
  ·exact nomatch e
  ·injection e with e1 _
   subst e1
   cases v<;>rfl
theorem Bq (prog:Program) (w:World) (i:Int) (t:Tok):(xG prog w).is (.inl i) (.int i t)=true:=BF i t
theorem VL (prog:Program) (w:World) (x:Str) (t:Tok):(xG prog w).is (.inr x) (.str x t)=true:=BH x t
end L2
namespace L2
open PySem PySem.Spec PyProof.Rows
inductive V where
 | non | bl (b:Bool) | int (i:Int) | str (x:Str) | byt (b:Array UInt8) | flt (b:UInt64) | ref (a:Addr) | ty (n:String)
 deriving DecidableEq
noncomputable def zp:V->Value->Prop
 | .non,u=>u=Value.none
 | .bl b,u=>u=Value.bool b
 | .int i,u=>∃ t,u=Value.int i t
 | .str x,u=>∃ t,u=Value.str x t
 | .byt b,u=>∃ t,u=Value.bytes b t
 | .flt b,u=>∃ t,u=Value.float b t
 | .ref a,u=>u=Value.ref a
 | .ty n,u=>u=Value.type n
noncomputable abbrev zi:List V->List Value->Prop:=Paired zp
theorem zi.length {xs:List V} {us:List Value} (r:zi xs us):xs.length=us.length:=Paired.length r
theorem zi.get:∀ {xs:List V} {us:List Value} {i:Nat} {x:V},zi xs us->xs[i]?=some x->∃ u,us[i]?=some u/\zp x u
 | _,_,_,_,.nil,e=>by simp at e
 | _,_,0,_,.cons r _,e=>by simp at e; subst e; exact ⟨_,rfl,r⟩
 | _,_,i+1,x,.cons _ t,e=>by
  obtain ⟨u,h1,h2⟩:=zi.get (i:=i) (x:=x) t (by simpa using e)
  exact ⟨u,by simpa using h1,h2⟩
theorem zi.set {x:V} {u:Value} (r:zp x u):∀ {xs:List V} {us:List Value} (i:Nat),zi xs us->zi (xs.set i x) (us.set i u)
 | _,_,_,.nil=>.nil
 | _,_,0,.cons _ t=>.cons r t
 | _,_,i+1,.cons q t=>.cons q (zi.set r i t)
theorem zi.append:∀ {xs ys:List V} {us ws:List Value},zi xs us->zi ys ws->zi (xs++ys) (us++ws)
 | _,_,_,_,.nil,s=>s
 | _,_,_,_,.cons r t,s=>.cons r (zi.append t s)
theorem zi.take:∀ {xs:List V} {us:List Value} (n:Nat),zi xs us->zi (xs.take n) (us.take n)
 | _,_,0,_=>.nil
 | _,_,_+1,.nil=>.nil
 | _,_,n+1,.cons r t=>.cons r (zi.take n t)
theorem zi.drop:∀ {xs:List V} {us:List Value} (n:Nat),zi xs us->zi (xs.drop n) (us.drop n)
 | _,_,0,r=>r
 | _,_,_+1,.nil=>.nil
 | _,_,n+1,.cons _ t=>zi.drop n t
noncomputable def u9:Option V->Option Value->Prop
 | some v,some u=>zp v u
 | none,none=>True
 | _,_=>False
noncomputable def KV {κ:Type}:List (κ×V)->List (κ×Value)->Prop:=Paired fun (p:κ×V) (q:κ×Value)=>p.1=q.1/\zp p.2 q.2
noncomputable def kV:zU->V
 | .inl i=>.int i
 | .inr x=>.str x
inductive HO where
  | lst (xs:List V)
  | tup (xs:List V)
  | dK (kvs:List (zU×V)) | dT (kvs:List (List zU×V))
  | set (S:Int->Bool) (n:Nat)
  | ins (C dx:Addr) (fs:List (Str×V))
  | own (x:Addr)
  | xd (fs:List (Str×V))
  | met (f x:Addr)
  | rng (lo hi:Int)
  | frz (o:Obj) (u:HO)
  | tbl (ps:Array Value)
  | ext (φ:Heap->Prop)
noncomputable abbrev Hp:=Addr->Option HO
noncomputable def zV (H:Hp) (a:Addr) (o:HO):Hp:=fun b=>if b=a then some o else H b
theorem yT {H:Hp} {a:Addr} {o:HO}:zV H a o a=some o:=by unfold zV; rw [if_pos rfl]
theorem zr {H:Hp} {a b:Addr} {o:HO} (h:b≠a):zV H a o b=H b:=by unfold zV; rw [if_neg h]
theorem D2 {H:Hp} {a b:Addr} {o u:HO} (h:H a=some o) (h':H b=some u) (d:o≠u):a≠b:=by
 intro e; subst e; rw [h] at h'; exact d (Option.some.inj h')
theorem wx {H:Hp} {a b:Addr} {o:HO} (h:H a=some o) (h':H b=none):a≠b:=by
 intro e; subst e; rw [h] at h'; cases h'
section
variable (P:Program) (w:World)
noncomputable def yc (H:Hp) (h:Heap) (a:Addr):HO->Prop
 | .lst xs=>xs.length<=sizeLine/\∃ (its:List Value) (n:Nat),zi xs its/\h.get? a=some { cls:=.type "list",data:=.seq its.toArray n }
 | .tup xs=>xs.length<=sizeLine/\∃ its:List Value,zi xs its/\IsTup h a its.toArray
 | .dK kvs=>kvs.length<=sizeLine/\(a == sysModules)=false/\∃ vs,KV kvs vs/\h.DictOf (xG P w) a vs
 | .dT kvs=>kvs.length<=sizeLine/\(a == sysModules)=false/\∃ xs:List (List zU×Addr×Value),
   Paired (fun (p:List zU×V) (q:List zU×Addr×Value)=>p.1=q.1/\H q.2.1=some (.tup (p.1.map kV))/\zp p.2 q.2.2) kvs xs/\
   ∃ o es ep,h.get? a=some o/\o.ExactDict/\o.data=.dict es ep/\es.toList=xs.map (entryOfKey (tupleKind (xG P w)))/\(xs.map (·.1)).Nodup
 | .set S n=>h.SetOf (intKind P w) a S n
 | .ins C dx fs=>H dx=some (.own a)/\fs.length<=1000/\dx≠a/\h.get? a=some (PySem.W.instObj C dx)/\
   ∃ mA,h.Ns1 dx mA/\(∀ f,u9 (fs.lookup f) (mA f))/\PySem.Within mA (fs.map (·.1))
 | .own _=>∃ o,h.get? a=some o
 | .xd fs=>∃ mA,h.Ns1 a mA/\∀ f,u9 (fs.lookup f) (mA f)
 | .rng lo hi=>∃ t u v,h.get? a=some { cls:=.type "range",data:=.fields #[.int lo t,.int hi u,.int 1 v] }
 | .frz o u=>h.get? a=some o/\yc H h a u
 | .tbl ps=>h.get? a=some { cls:=.none,data:=.fields ps }
 | .met f x=>h.get? a=some (PySem.W.methodObj (.ref f) (.ref x))
 | .ext φ=>φ h/\(∃ o,h.get? a=some o)/\∀ h1 h2:Heap,φ h1->(∀ o,h1.get? a=some o->h2.get? a=some o)->φ h2
noncomputable def yn (H:Hp) (h:Heap):Prop:=∀ a o,H a=some o->yc P w H h a o
end
section
variable {P:Program} {w:World} {H H':Hp} {h h':Heap} {a:Addr} {o:HO}
theorem yc.lt (x:yc P w H h a o):a<h.objs.size:=by
 cases o with
 | lst xs=>obtain ⟨_,_,_,_,e⟩:=x; exact Heap.lt_size e
 | tup xs=>obtain ⟨_,_,_,p⟩:=x; exact p.lt
 | dK kvs=>obtain ⟨_,_,_,_,o,_,_,e,_⟩:=x; exact Heap.lt_size e
 | dT kvs=>obtain ⟨_,_,_,_,o,_,_,e,_⟩:=x; exact Heap.lt_size e
 | set S n=>obtain ⟨o,_,_,_,e,_⟩:=x; exact Heap.lt_size e
 | ins C dx fs=>obtain ⟨_,_,_,e,_⟩:=x; exact Heap.lt_size e
 | own y=>obtain ⟨_,e⟩:=x; exact Heap.lt_size e
 | xd fs=>obtain ⟨_,⟨_,_,_,e,_⟩,_⟩:=x; exact Heap.lt_size e
 | rng lo hi=>obtain ⟨_,_,_,e⟩:=x; exact Heap.lt_size e
 | frz ob u=>obtain ⟨e,_⟩:=x; exact Heap.lt_size e
 | tbl ps=>exact Heap.lt_size (show h.get? a=some _ from x)
 | met f y=>exact Heap.lt_size (show h.get? a=some _ from x)
 | ext φ=>obtain ⟨_,⟨_,e⟩,_⟩:=x; exact Heap.lt_size e
theorem Paired.mapP {α β:Type} {F G:α->β->Prop}:∀ {l₁:List α} {l₂:List β},Paired F l₁ l₂->(∀ a b,F a b->G a b)->Paired G l₁ l₂
 | _,_,.nil,_=>.nil
 | _,_,.cons r t,f=>.cons (f _ _ r) (Paired.mapP t f)
theorem yc.stay (x:yc P w H h a o) (k:∀ b u,(b=a\/H b=some (.own a))->h.get? b=some u->h'.get? b=some u)
  (ho:∀ b,H b=some (.own a)->H' b=some (.own a)) (ht:∀ b xs,H b=some (.tup xs)->H' b=some (.tup xs)):yc P w H' h' a o:=by
 induction o with
 | lst xs=>obtain ⟨z,its,n,r,e⟩:=x; exact ⟨z,its,n,r,k _ _ (.inl rfl) e⟩
 | tup xs=>obtain ⟨z,its,r,ob,e,c⟩:=x; exact ⟨z,its,r,ob,k _ _ (.inl rfl) e,c⟩
 | dK kvs=>obtain ⟨z,y,vs,r,ob,es,ep,e,c⟩:=x; exact ⟨z,y,vs,r,ob,es,ep,k _ _ (.inl rfl) e,c⟩
 | dT kvs=>
  obtain ⟨z,y,xs,r,ob,es,ep,e,c⟩:=x
  exact ⟨z,y,xs,Paired.mapP r fun p q z=>⟨z.1,ht _ _ z.2.1,z.2.2⟩,ob,es,ep,k _ _ (.inl rfl) e,c⟩
 | set S n=>obtain ⟨ob,es,ep,t,e,c⟩:=x; exact ⟨ob,es,ep,t,k _ _ (.inl rfl) e,c⟩
 | ins C dx fs=>
  obtain ⟨d,z,ne,e,mA,⟨od,es,ep,e2,c⟩,r⟩:=x
  exact ⟨ho _ d,z,ne,k _ _ (.inl rfl) e,mA,⟨od,es,ep,k _ _ (.inr d) e2,c⟩,r⟩
 | own y=>obtain ⟨ob,e⟩:=x; exact ⟨ob,k _ _ (.inl rfl) e⟩
 | xd fs=>obtain ⟨mA,⟨od,es,ep,e,c⟩,r⟩:=x; exact ⟨mA,⟨od,es,ep,k _ _ (.inl rfl) e,c⟩,r⟩
 | rng lo hi=>obtain ⟨t,u,v,e⟩:=x; exact ⟨t,u,v,k _ _ (.inl rfl) e⟩
 | frz ob u ih=>obtain ⟨e,q⟩:=x; exact ⟨k _ _ (.inl rfl) e,ih q⟩
 | tbl ps=>
  have e:h.get? a=some { cls:=.none,data:=.fields ps }:=x
  show h'.get? a=some { cls:=.none,data:=.fields ps }
  exact k a _ (.inl rfl) e
 | met f y=>
  have e:h.get? a=some (PySem.W.methodObj (.ref f) (.ref y)):=x
  show h'.get? a=some (PySem.W.methodObj (.ref f) (.ref y))
  exact k a _ (.inl rfl) e
 | ext φ=>obtain ⟨p,⟨o,e⟩,st⟩:=x; exact ⟨st _ _ p fun o q=>k _ _ (.inl rfl) q,⟨o,k _ _ (.inl rfl) e⟩,st⟩
theorem yn.lt (x:yn P w H h) (e:H a=some o):a<h.objs.size:=(x a o e).lt
theorem yn.fresh (x:yn P w H h) (e:h.objs.size<=a):H a=none:=by
 cases q:H a with
 | none=>rfl
 | some u=>exact absurd (Nat.lt_of_lt_of_le (x.lt q) e) (Nat.lt_irrefl _)
theorem yn.kept (x:yn P w H h) (k:∀ b u,h.get? b=some u->h'.get? b=some u):yn P w H h':=fun a o e=>
 (x a o e).stay (fun b u _ q=>k b u q) (fun _ q=>q) fun _ _ q=>q
theorem yn.laid (x:yn P w H h) (k:∀ b u,h.get? b=some u->h'.get? b=some u) (hp:h.objs.size<=a) (new:yc P w (zV H a o) h' a o):yn P w (zV H a o) h':=fun b u e=>by
 have hn:=x.fresh hp
 by_cases hb:b=a
 ·subst hb; rw [yT] at e; cases e; exact new
 ·rw [zr hb] at e
  exact (x b u e).stay (fun c v _ q=>k c v q) (fun c q=>by rw [zr (wx q hn)]; exact q) fun c xs q=>by rw [zr (wx q hn)]; exact q
end
noncomputable def Rd (H:Hp) (a:Addr) (u:HO):Prop:=H a=some u\/∃ o,H a=some (.frz o u)
theorem Rd.ok {P:Program} {w:World} {H:Hp} {h:Heap} {a:Addr} {u:HO} (r:Rd H a u) (x:yn P w H h):yc P w H h a u:=by
 rcases r with r | ⟨o,r⟩
 ·exact x a u r
 ·obtain ⟨_,q⟩:=x a _ r
  exact q
noncomputable def gN:Option HO->Prop
 | some (.lst _)=>True
 | some (.dK _)=>True
 | some (.dT _)=>True
 | some (.set _ _)=>True
 | some (.ins _ _ _)=>True
 | some (.ext _)=>True
 | _=>False
section
variable {P:Program} {w:World} {H:Hp} {h h':Heap} {x e:Addr} {o':HO}
theorem yn.write (ok:yn P w H h) (mu:gN (H x)) (he:e=x\/H e=some (.own x)) (k:∀ b u,b≠e->h.get? b=some u->h'.get? b=some u) (heo:∃ u,h'.get? e=some u)
  (new:yc P w (zV H x o') h' x o'):yn P w (zV H x o') h':=fun b u q=>by
 have nown:∀ c y,H c=some (.own y)->c≠x:=fun c y r z=>by subst z; rw [r] at mu; exact mu
 have ntup:∀ c xs,H c=some (.tup xs)->c≠x:=fun c xs r z=>by subst z; rw [r] at mu; exact mu
 by_cases hb:b=x
 ·subst hb; rw [yT] at q; cases q; exact new
 ·rw [zr hb] at q
  by_cases hbe:b=e
  ·have q':H b=some (.own x):=by
    rcases he with z | z
    ·exact absurd (hbe.trans z) hb
    ·rw [hbe]; exact z
   rw [q] at q'; cases q'
   obtain ⟨v,hv⟩:=heo
   exact ⟨v,by rw [hbe]; exact hv⟩
  ·refine (ok b u q).stay (fun c v hc r=>k c v ?_ r) (fun c r=>by rw [zr (nown c b r)]; exact r) fun c xs r=>by rw [zr (ntup c xs r)]; exact r
   rcases hc with rfl | hc
   ·exact hbe
   ·rintro rfl
    rcases he with z | z
    ·exact nown c b hc z
    ·rw [hc] at z; cases z; exact hb rfl
end
structure Un (fs ex:List Addr) (H H':Hp) (h h':Heap):Prop where
 keep:∀ b o,h.get? b=some o->H b=none->b ∉ fs->b ∉ ex->h'.get? b=some o
 slot:∀ b o,h.get? b=some o->H b=none->b∈fs->b ∉ ex->∃ sl,h'.get? b=some { o with slots:=sl }
 free:∀ b o,h.get? b=some o->H b=none->b ∉ ex->H' b=none
 there:∀ b o,h.get? b=some o->b ∉ ex->∃ o',h'.get? b=some o'
 tups:∀ b xs,H b=some (.tup xs)->H' b=some (.tup xs)
 frzs:∀ b o u,H b=some (.frz o u)->H' b=some (.frz o u)
 tbls:∀ b ps,H b=some (.tbl ps)->∃ more,H' b=some (.tbl (ps++more))
section
variable {fs fs' ex ex':List Addr} {H H1 H2:Hp} {h h1 h2 h':Heap} {a x e:Addr} {o:HO}
theorem Un.any (u:Un fs ex H H1 h h1) {b:Addr} {ob:Obj} (q:h.get? b=some ob) (n:H b=none) (hx:b ∉ ex):∃ sl,h1.get? b=some { ob with slots:=sl }:=by
 by_cases hb:b∈fs
 ·exact u.slot b ob q n hb hx
 ·exact ⟨ob.slots,u.keep b ob q n hb hx⟩
theorem Un.kept (k:∀ b u,h.get? b=some u->h'.get? b=some u):Un fs ex H H h h':=
 ⟨fun b ob q _ _ _=>k b ob q,fun b ob q _ _ _=>⟨ob.slots,k b ob q⟩,fun _ _ _ n _=>n,fun b ob q _=>⟨ob,k b ob q⟩,fun _ _ q=>q,fun _ _ _ q=>q,fun _ ps q=>⟨#[],by rw [q]; simp⟩⟩
theorem Un.refl:Un fs ex H H h h:=Un.kept fun _ _ q=>q
theorem Un.laid (k:∀ b u,h.get? b=some u->h'.get? b=some u) (hp:h.objs.size<=a) (hn:H a=none):Un fs ex H (zV H a o) h h' where
 keep:=fun b u q _ _ _=>k b u q
 slot:=fun b u q _ _ _=>⟨u.slots,k b u q⟩
 free:=fun b u q n _=>by rw [zr (Nat.ne_of_lt (Nat.lt_of_lt_of_le (Heap.lt_size q) hp))]; exact n
 there:=fun b u q _=>⟨u,k b u q⟩
 tups:=fun b xs q=>by rw [zr (wx q hn)]; exact q
 frzs:=fun b u xs q=>by rw [zr (wx q hn)]; exact q
 tbls:=fun b ps q=>⟨#[],by rw [zr (wx q hn),q]; simp⟩
theorem Un.write (mu:gN (H x)) (he:e=x\/H e=some (.own x)) (k:∀ b u,b≠e->h.get? b=some u->h'.get? b=some u) (heo:∃ u,h'.get? e=some u):Un fs ex H (zV H x o) h h':=by
 have hx:∀ b,H b=none->b≠x:=fun b n z=>by subst z; rw [n] at mu; exact mu
 have hb:∀ b,H b=none->b≠e:=fun b n z=>by
  subst z
  rcases he with r | r
  ·exact hx b n r
  ·rw [n] at r; cases r
 have hm:∀ b u,H b=some u->¬ gN (some u)->b≠x:=fun b u q nm z=>by subst z; rw [q] at mu; exact nm mu
 refine ⟨fun b u q n _ _=>k b u (hb b n) q,fun b u q n _ _=>⟨u.slots,k b u (hb b n) q⟩,fun b u q n _=>by rw [zr (hx b n)]; exact n,fun b u q _=>?_,
  fun b xs q=>by rw [zr (hm b _ q fun z=>z)]; exact q,fun b u xs q=>by rw [zr (hm b _ q fun z=>z)]; exact q,fun b ps q=>⟨#[],by rw [zr (hm b _ q fun z=>z),q]; simp⟩⟩
 by_cases hbe:b=e
 ·subst hbe; exact heo
 ·exact ⟨u,k b u hbe q⟩
end
noncomputable def Yc (h:Heap) (H:Hp):List Addr:=(List.range h.objs.size).filter fun a=>(H a).isSome
noncomputable def tI (h:Heap) (H:Hp):Heap:=PySem.W.hideAll h (Yc h H)
theorem Md (h:Heap) (H:Hp):(tI h H).objs.size=h.objs.size:=PySem.W.hideAll_size _ _
theorem Mc {h:Heap} {H:Hp} {b:Addr} {o:Obj} (e:h.get? b=some o) (n:H b=none):(tI h H).get? b=some o:=
 PySem.W.hideAll_get _ e fun hm=>by
  have q:(H b).isSome=true:=(List.mem_filter.mp hm).2
  rw [n] at q; simp at q
theorem D8 {h:Heap} {H:Hp} {b:Addr} {o:Obj} (e:(tI h H).get? b=some o):h.get? b=some o/\H b=none:=by
 have e':h.get? b=some o:=PySem.W.of_hideAll (Yc h H) e
 refine ⟨e',?_⟩
 cases q:H b with
 | none=>rfl
 | some x=>
  have hm:b∈Yc h H:=List.mem_filter.mpr ⟨List.mem_range.mpr (Heap.lt_size e'),by simp [q]⟩
  have z:(tI h H).get? b=none:=PySem.W.hideAll_none (Yc h H) hm
  rw [z] at e; cases e
end L2
namespace L2
open PySem PySem.Spec PyProof.Rows
structure Mod (K:PySem.W.Frag) (mg:Str->Option Value) (base:Heap):Prop where
 kin:K.In base
 glob:base.Ns mainGlobals mg
 blt:∃ mb,base.Ns builtinsNs mb/\∀ x:Str,x ≠ "__name__" -> mb x=bootBuiltins x
 nolimit:base.NoLimit
structure Cx where
 prog:Program
 w:World
 K:PySem.W.Frag
 mg:Str->Option Value
 base:Heap
 A:Around
 N:List Str
 s₀:Shared
 H₀:Hp
 env:Env
 outer:List Env
 stack:List Env
 ex:List Addr
 fn:Str->Bool
 calm:Bool
 pn:List (Addr×Obj)
 xe:Value->Shared->Prop
noncomputable def vc (l:List Env):List Addr:=l.filterMap (·.frame)
noncomputable abbrev Cx.fs (X:Cx):List Addr:=vc X.outer
noncomputable def uB (sc:Scope) (x:Str):Prop:=sc.names.lookup x=some .local\/sc.names.lookup x=some .cell\/sc.names.lookup x=some .free
noncomputable def uc (sc:Scope) (x:Str):Prop:=sc.names.lookup x=some .local\/sc.names.lookup x=some .cell
noncomputable def OZ (env:Env) (h:Heap) (m:Str->Option Value) (x:Str) (u:Value):Prop:=
 (env.kindOf x=some .local/\m x=some u)\/((env.kindOf x=some .cell\/env.kindOf x=some .free)/\∃ c,env.cells.lookup x=some c/\h.IsCell c (some u))
structure Cx.Ok (X:Cx):Prop where
 mod:Mod X.K X.mg X.base
 kind:X.env.scope.kind=.function
 glob:X.env.globals=mainGlobals
 blt:X.env.builtins=builtinsNs
 above:X.s₀.heap.objs.size<=X.env.locals
 inj:∀ x y c,X.env.cells.lookup x=some c->X.env.cells.lookup y=some c->x=y
 has:∀ x,(X.env.kindOf x=some .cell\/X.env.kindOf x=some .free)->∃ c,X.env.cells.lookup x=some c
 cab:∀ x c,X.fn x=true->X.env.cells.lookup x=some c->X.s₀.heap.objs.size<=c
 hd:X.calm=true->X.A.handled=none
 frames:X.A.frames=some X.stack
 stk:X.stack=X.outer\/(X.stack=X.env::X.outer/\X.env.frame=some X.env.locals)
 exf:∀ b∈X.ex,b≠X.env.locals/\∀ x c,X.env.cells.lookup x=some c->c≠b
 bs:∀ b o,X.base.get? b=some o->X.s₀.heap.get? b=some o/\X.H₀ b=none
 bsz:X.base.objs.size<=X.s₀.heap.objs.size
 noex:∀ b o,X.base.get? b=some o->b ∉ X.ex
 exfs:∀ b∈X.ex,b ∉ X.fs
 funs:X.s₀.heap.FunFrames X.base X.outer
 frf:∀ b∈X.fs,X.H₀ b=none
structure Inv (X:Cx) (pins:List (Addr×Obj)) (σ:List (Option V)) (H:Hp) (s:Shared):Prop where
 ok:X.Ok
 os:s.os=X.s₀.os
 bare:AllBare s.gens
 base:Un X.fs X.ex X.H₀ H X.s₀.heap s.heap
 loc:∃ m,s.heap.Ns X.env.locals m/\∀ (i:Nat) (x:Str) (v:V),X.N[i]?=some x->σ[i]?=some (some v)->uB X.env.scope x->∃ u,zp v u/\OZ X.env s.heap m x u
 cell:∀ x c,X.env.cells.lookup x=some c->∃ v,s.heap.IsCell c v
 free:H X.env.locals=none
 freeC:∀ x c,X.env.cells.lookup x=some c->H c=none
 pin:∀ p∈X.pn++pins,s.heap.get? p.1=some p.2/\H p.1=none/\p.1≠X.env.locals/\p.1 ∉ X.fs/\∀ v,p.2.data≠.cell v
 hok:yn X.prog X.w H s.heap
 len:σ.length=X.N.length
section
variable {X:Cx} {pins:List (Addr×Obj)} {σ:List (Option V)} {H H':Hp} {s:Shared} {h':Heap}
theorem Cx.Ok.nofr (ok:X.Ok) {b:Addr} {o:Obj} (e:X.base.get? b=some o):b ∉ X.fs:=fun hb=>by
 have:=(ok.funs.mem hb).1
 rw [e] at this; cases this
theorem Inv.bs (I:Inv X pins σ H s):∀ b o,X.base.get? b=some o->s.heap.get? b=some o/\H b=none:=fun b o e=>
 ⟨I.base.keep b o (I.ok.bs b o e).1 (I.ok.bs b o e).2 (I.ok.nofr e) (I.ok.noex b o e),I.base.free b o (I.ok.bs b o e).1 (I.ok.bs b o e).2 (I.ok.noex b o e)⟩
theorem Inv.bk (I:Inv X pins σ H s):∀ b o,X.base.get? b=some o->s.heap.get? b=some o:=fun b o e=>(I.bs b o e).1
theorem Inv.mod (I:Inv X pins σ H s):Mod X.K X.mg X.base:=I.ok.mod
theorem Inv.kIn (I:Inv X pins σ H s):X.K.In s.heap:=I.ok.mod.kin.keeps I.bk
theorem Inv.lt (I:Inv X pins σ H s):X.env.locals<s.heap.objs.size:=let ⟨_,hn,_⟩:=I.loc; hn.lt
theorem Inv.sz (I:Inv X pins σ H s):X.s₀.heap.objs.size<=s.heap.objs.size:=Nat.le_trans I.ok.above (Nat.le_of_lt I.lt)
theorem Inv.nofs (I:Inv X pins σ H s) {a:Addr} (h:s.heap.objs.size<=a):a ∉ X.fs:=fun hb=>by
 obtain ⟨_,o,ho,_⟩:=I.ok.funs.mem hb
 exact absurd (Nat.lt_of_lt_of_le (Heap.lt_size ho) (Nat.le_trans I.sz h)) (Nat.lt_irrefl _)
theorem Inv.cne (I:Inv X pins σ H s):∀ x c,X.env.cells.lookup x=some c->c≠X.env.locals:=fun x c e z=>by
 obtain ⟨v,o,ho,hd⟩:=I.cell x c e
 obtain ⟨m,⟨o',es,ep,ho',hd',_⟩,_⟩:=I.loc
 rw [z,ho'] at ho; cases ho; rw [hd'] at hd; cases hd
theorem Inv.funs (I:Inv X pins σ H s):s.heap.FunFrames X.base X.outer:=by
 have all:∀ (l:List Env),(∀ b∈vc l,b∈X.fs)->X.s₀.heap.FunFrames X.base l->s.heap.FunFrames X.base l:=by
  intro l
  induction l with
  | nil=>intro _ _; trivial
  | cons env r ih=>
   intro hs hl
   obtain ⟨hk,⟨L,o,hf,hn,ho,hd⟩,hr⟩:=hl
   have hL:L∈X.fs:=hs L (by unfold vc; rw [List.filterMap_cons,hf]; exact List.mem_cons_self)
   obtain ⟨sl,e⟩:=I.base.slot L o ho (I.ok.frf L hL) hL fun z=>I.ok.exfs L z hL
   exact ⟨hk,⟨L,_,hf,hn,e,hd⟩,ih (fun b hb=>hs b (by unfold vc; rw [List.filterMap_cons,hf]; exact List.mem_cons_of_mem _ hb)) hr⟩
 exact all X.outer (fun _ hb=>hb) I.ok.funs
theorem Inv.stack (I:Inv X pins σ H s):s.heap.FunFrames X.base X.stack:=by
 rcases I.ok.stk with e | ⟨e,hf⟩
 ·rw [e]; exact I.funs
 ·rw [e]
  obtain ⟨m,hn,_⟩:=I.loc
  refine .cons (by rw [I.ok.kind]; decide) hf hn ?_ I.funs
  exact Heap.get?_none_of_le (Nat.le_trans I.ok.bsz I.ok.above)
theorem Inv.stkSub (I:Inv X pins σ H s):∀ b∈vc X.stack,b∈X.env.locals::X.fs:=fun b hb=>by
 rcases I.ok.stk with e | ⟨e,hf⟩
 ·rw [e] at hb; exact List.mem_cons_of_mem _ hb
 ·rw [e] at hb
  unfold vc at hb
  rw [List.filterMap_cons,hf] at hb
  exact hb
theorem Inv.stkFree (I:Inv X pins σ H s):∀ b∈vc X.stack,H b=none:=fun b hb=>by
 rcases List.mem_cons.mp (I.stkSub b hb) with e | hb
 ·rw [e]; exact I.free
 ·obtain ⟨_,o,ho,_⟩:=I.ok.funs.mem hb
  exact I.base.free b o ho (I.ok.frf b hb) fun z=>I.ok.exfs b z hb
theorem Inv.step {g':Array GenState} {t':Nat} {d':Drawn} {ch:List Addr} (I:Inv X pins σ H s)
  (hch:∀ b∈ch,(b∈X.ex\/X.s₀.heap.objs.size<=b)/\b≠X.env.locals/\(∀ x c,X.env.cells.lookup x=some c->c≠b)/\∀ p∈X.pn++pins,p.1≠b)
  (keep:∀ b o,b≠X.env.locals->b ∉ X.fs->b ∉ ch->s.heap.get? b=some o->H b=none->h'.get? b=some o)
  (slot:∀ b o,b≠X.env.locals->b∈X.fs->b ∉ ch->s.heap.get? b=some o->H b=none->∃ sl,h'.get? b=some { o with slots:=sl }) (free:∀ b o,b ∉ ch->s.heap.get? b=some o->H b=none->H' b=none)
  (there:∀ b o,b ∉ ch->s.heap.get? b=some o->∃ o',h'.get? b=some o')
  (tups:∀ b xs,H b=some (.tup xs)->H' b=some (.tup xs)) (frzs:∀ b o u,H b=some (.frz o u)->H' b=some (.frz o u)) (tbls:∀ b ps,H b=some (.tbl ps)->∃ more,H' b=some (.tbl (ps++more)))
  (ns:∀ m,s.heap.Ns X.env.locals m->h'.Ns X.env.locals m) (hok:yn X.prog X.w H' h') (hg:AllBare g') :
  Inv X pins σ H' { s with heap:=h',gens:=g',drawn:=d',toks:=t' }:=by
 have neL:∀ b o,X.s₀.heap.get? b=some o->b≠X.env.locals:=fun b o e=>Nat.ne_of_lt (Nat.lt_of_lt_of_le (Heap.lt_size e) I.ok.above)
 have neC:∀ b o,X.s₀.heap.get? b=some o->b ∉ X.ex->b ∉ ch:=fun b o e hx hb=>by
  rcases (hch b hb).1 with z | z
  ·exact hx z
  ·exact absurd (Nat.lt_of_lt_of_le (Heap.lt_size e) z) (Nat.lt_irrefl _)
 have cellK:∀ x c,X.env.cells.lookup x=some c->∀ v,s.heap.IsCell c v->h'.IsCell c v:=fun x c e v ⟨o,ho,hd⟩=>by
  have nch:c ∉ ch:=fun z=>(hch c z).2.2.1 x c e rfl
  by_cases hc:c∈X.fs
  ·obtain ⟨sl,q⟩:=slot c o (I.cne x c e) hc nch ho (I.freeC x c e)
   exact ⟨_,q,hd⟩
  ·exact ⟨o,keep c o (I.cne x c e) hc nch ho (I.freeC x c e),hd⟩
 refine ⟨I.ok,I.os,hg,⟨fun b o e n hb hx=>?_,fun b o e n hb hx=>?_,fun b o e n hx=>?_,fun b o e hx=>?_,fun b xs e=>tups b xs (I.base.tups b xs e),fun b o xs e=>frzs b o xs (I.base.frzs b o xs e),fun b ps e=>?_⟩,?_,fun x c e=>?_,?_,fun x c e=>?_,fun p hp=>?_,hok,I.len⟩
 ·exact keep b o (neL b o e) hb (neC b o e hx) (I.base.keep b o e n hb hx) (I.base.free b o e n hx)
 ·obtain ⟨sl,e1⟩:=I.base.slot b o e n hb hx
  obtain ⟨sl',e2⟩:=slot b _ (neL b o e) hb (neC b o e hx) e1 (I.base.free b o e n hx)
  exact ⟨sl',e2⟩
 ·obtain ⟨o',e1⟩:=I.base.there b o e hx
  exact free b o' (neC b o e hx) e1 (I.base.free b o e n hx)
 ·obtain ⟨o',e1⟩:=I.base.there b o e hx
  exact there b o' (neC b o e hx) e1
 ·obtain ⟨m1,e1⟩:=I.base.tbls b ps e
  obtain ⟨m2,e2⟩:=tbls b _ e1
  exact ⟨m1++m2,by rw [e2,Array.append_assoc]⟩
 ·obtain ⟨m,hn,hl⟩:=I.loc
  refine ⟨m,ns m hn,fun i x v e1 e2 e3=>?_⟩
  obtain ⟨u,r,l⟩:=hl i x v e1 e2 e3
  refine ⟨u,r,?_⟩
  rcases l with l | ⟨k,c,e,z⟩
  ·exact .inl l
  ·exact .inr ⟨k,c,e,cellK x c e _ z⟩
 ·obtain ⟨v,z⟩:=I.cell x c e
  exact ⟨v,cellK x c e v z⟩
 ·obtain ⟨m,⟨o,_,_,ho,_⟩,_⟩:=I.loc
  exact free _ o (fun z=>(hch _ z).2.1 rfl) ho I.free
 ·obtain ⟨v,o,ho,hd⟩:=I.cell x c e
  exact free c o (fun z=>(hch c z).2.2.1 x c e rfl) ho (I.freeC x c e)
 ·obtain ⟨e,n,ne,nf,d⟩:=I.pin p hp
  have nch:p.1 ∉ ch:=fun z=>(hch p.1 z).2.2.2 p hp rfl
  exact ⟨keep p.1 p.2 ne nf nch e n,free p.1 p.2 nch e n,ne,nf,d⟩
theorem Inv.un {t':Nat} (I:Inv X pins σ H s) (u:Un X.fs [] H H' s.heap h') (hok:yn X.prog X.w H' h'):Inv X pins σ H' { s with heap:=h',toks:=t' }:=by
 obtain ⟨m,⟨o,es,ep,ho,r⟩,_⟩:=id I.loc
 obtain ⟨sl,hL⟩:=u.any ho I.free (by simp)
 exact I.step (g':=s.gens) (d':=s.drawn) (ch:=[]) (fun _ z=>nomatch z) (fun b o _ hb _ e n=>u.keep b o e n hb (by simp)) (fun b o _ hb _ e n=>u.slot b o e n hb (by simp)) (fun b o _ e n=>u.free b o e n (by simp)) (fun b o _ e=>u.there b o e (by simp)) u.tups u.frzs u.tbls (fun m' hm=>by
  obtain ⟨o',es',ep',ho',r'⟩:=hm
  rw [ho] at ho'; cases ho'
  exact ⟨_,es',ep',hL,r'⟩) hok I.bare
theorem Inv.call {g':Array GenState} {t':Nat} {d':Drawn} {ch:List Addr} (I:Inv X pins σ H s) (u:Un (vc X.stack) ch H H' s.heap h') (hok:yn X.prog X.w H' h') (hg:AllBare g')
  (hch:∀ b∈ch,(b∈X.ex\/X.s₀.heap.objs.size<=b)/\b≠X.env.locals/\(∀ x c,X.env.cells.lookup x=some c->c≠b)/\∀ p∈X.pn++pins,p.1≠b) :
  Inv X pins σ H' { s with heap:=h',gens:=g',drawn:=d',toks:=t' }:=by
 obtain ⟨m,⟨o,es,ep,ho,r⟩,_⟩:=id I.loc
 obtain ⟨sl,hL⟩:=u.any ho I.free fun z=>(hch _ z).2.1 rfl
 exact I.step (ch:=ch) hch (fun b o hL hb hc e n=>u.keep b o e n (fun z=>(List.mem_cons.mp (I.stkSub b z)).elim hL hb) hc) (fun b o _ _ hc e n=>u.any e n hc) (fun b o hc e n=>u.free b o e n hc) (fun b o hc e=>u.there b o e hc) u.tups u.frzs u.tbls (fun m' hm=>by
  obtain ⟨o',es',ep',ho',r'⟩:=hm
  rw [ho] at ho'; cases ho'
  exact ⟨_,es',ep',hL,r'⟩) hok hg
theorem Inv.turned {t':Nat} {it:Addr} (I:Inv X pins σ H s) (k:∀ b o,b≠it->s.heap.get? b=some o->h'.get? b=some o) (hn:H it=none) (hL:it≠X.env.locals)
  (h1:it∈X.ex\/X.s₀.heap.objs.size<=it) (h2:∀ x c,X.env.cells.lookup x=some c->c≠it) (h3:∀ p∈X.pn++pins,p.1≠it):Inv X pins σ H { s with heap:=h',toks:=t' }:=by
 have nit:∀ b u,H b=some u->b≠it:=fun b u e z=>by rw [z,hn] at e; cases e
 refine I.step (g':=s.gens) (d':=s.drawn) (ch:=[it]) (fun b hb=>?_) (fun b o _ _ hc e _=>k b o (fun z=>hc (by simp [z])) e) (fun b o _ _ hc e _=>⟨o.slots,k b o (fun z=>hc (by simp [z])) e⟩) (fun _ _ _ _ n=>n)
  (fun b o hc e=>⟨o,k b o (fun z=>hc (by simp [z])) e⟩) (fun _ _ e=>e) (fun _ _ _ e=>e) (fun b ps e=>⟨#[],by rw [e]; simp⟩) (fun m hm=>?_) (fun b u e=>?_) I.bare
 ·have e:b=it:=by simpa using hb
  subst e
  exact ⟨h1,hL,h2,h3⟩
 ·obtain ⟨o,es,ep,ho,r⟩:=hm
  exact ⟨o,es,ep,k _ o (Ne.symm hL) ho,r⟩
 ·refine (I.hok b u e).stay (fun c v hc q=>k c v ?_ q) (fun _ q=>q) fun _ _ q=>q
  rcases hc with z | z
  ·rw [z]; exact nit b u e
  ·exact nit c _ z
theorem Inv.tok (I:Inv X pins σ H s) (t:Nat):Inv X pins σ H { s with toks:=t }:=I.un (h':=s.heap) (t':=t) Un.refl I.hok
theorem Inv.kept {t':Nat} (I:Inv X pins σ H s) (k:∀ b u,s.heap.get? b=some u->h'.get? b=some u):Inv X pins σ H { s with heap:=h',toks:=t' }:=I.un (Un.kept k) (I.hok.kept k)
theorem Inv.laid {a:Addr} {o:HO} {t':Nat} (I:Inv X pins σ H s) (k:∀ b u,s.heap.get? b=some u->h'.get? b=some u) (hp:s.heap.objs.size<=a) (new:yc X.prog X.w (zV H a o) h' a o) :
  Inv X pins σ (zV H a o) { s with heap:=h',toks:=t' }:=I.un (Un.laid k hp (I.hok.fresh hp)) (I.hok.laid k hp new)
theorem Inv.write {x e:Addr} {o:HO} {t':Nat} (I:Inv X pins σ H s) (mu:gN (H x)) (he:e=x\/H e=some (.own x)) (k:∀ b u,b≠e->s.heap.get? b=some u->h'.get? b=some u) (heo:∃ u,h'.get? e=some u)
  (new:yc X.prog X.w (zV H x o) h' x o):Inv X pins σ (zV H x o) { s with heap:=h',toks:=t' }:=I.un (Un.write mu he k heo) (I.hok.write mu he k heo new)
theorem Inv.weak {σ':List (Option V)} (I:Inv X pins σ H s) (hl:σ'.length=σ.length) (w:∀ (i:Nat) v,σ'[i]?=some (some v)->σ[i]?=some (some v)):Inv X pins σ' H s:=
 ⟨I.ok,I.os,I.bare,I.base,let ⟨m,hn,hl'⟩:=I.loc; ⟨m,hn,fun i x v e1 e2 e3=>hl' i x v e1 (w i v e2) e3⟩,I.cell,I.free,I.freeC,I.pin,I.hok,hl.trans I.len⟩
theorem Inv.pins_of {pins':List (Addr×Obj)} (I:Inv X pins σ H s) (h:∀ p∈pins',s.heap.get? p.1=some p.2/\H p.1=none/\p.1≠X.env.locals/\p.1 ∉ X.fs/\∀ v,p.2.data≠.cell v):Inv X pins' σ H s:=
 ⟨I.ok,I.os,I.bare,I.base,I.loc,I.cell,I.free,I.freeC,fun p hp=>(List.mem_append.mp hp).elim (fun z=>I.pin p (List.mem_append_left _ z)) (h p),I.hok,I.len⟩
theorem J9 {N:List Str} (hN:N.Nodup) {i j:Nat} {x:Str} (a:N[i]?=some x) (b:N[j]?=some x):i=j:=by
 obtain ⟨h1,e1⟩:=List.getElem?_eq_some_iff.mp a
 obtain ⟨h2,e2⟩:=List.getElem?_eq_some_iff.mp b
 exact (List.getElem_inj hN).mp (e1.trans e2.symm)
theorem Ix {M:Model} {A:Around} {E:Value->Shared->Prop} {i:Nat} {x:Str} {v:V} {u:Value} {Q:Unit->Shared->Prop} (I:Inv X pins σ H s) (hN:X.N.Nodup) (hi:X.N[i]?=some x) (hx:uc X.env.scope x) (r:zp v u)
  (h:∀ s',Inv X pins (σ.set i (some v)) H s'->(∃ a,Heap.SameBut a s.heap s'.heap/\(a=X.env.locals\/X.env.cells.lookup x=some a))->Q () s') (hf:X.fn x=true\/X.env.scope.names.lookup x=some .local:=by first | exact .inl rfl | exact .inr rfl | assumption):wpAny M A (storeName X.env x u) Q E s:=by
 obtain ⟨m,hn,hl⟩:=id I.loc
 have hcls:(X.env.scope.kind == .class||(X.env.scope.kind == .module&&X.env.locals != X.env.globals))=false:=by rw [I.ok.kind]; rfl
 have hiσ:i<σ.length:=by rw [I.len]; exact (List.getElem?_eq_some_iff.mp hi).1
 have cne:=I.cne
 have tracked:∀ {a:Addr} {h':Heap},(∃ o,s.heap.get? a=some o/\H a=none)->Heap.SameBut a s.heap h'->yn X.prog X.w H h':=fun {a h'} ha hs b ob e=>by
  obtain ⟨_,_,hfree⟩:=ha
  refine (I.hok b ob e).stay (fun c w' hc q=>(hs.2 c ?_).trans q) (fun _ q=>q) fun _ _ q=>q
  rintro rfl
  rcases hc with rfl | hc
  ·rw [hfree] at e; cases e
  ·rw [hfree] at hc; cases hc
 rcases hx with hk | hk
 ·refine wpAny_storeName_local hk hn (fun h' hn' hs=>?_) hcls
  obtain ⟨oL,_,_,hoL,_⟩:=id hn
  refine h _ ⟨I.ok,I.os,I.bare,⟨fun b o e n hb hx=>?_,fun b o e n hb hx=>?_,I.base.free,fun b o e hx=>?_,I.base.tups,I.base.frzs,I.base.tbls⟩,⟨_,hn',fun j y v' e1 e2 e3=>?_⟩,fun y c e=>?_,I.free,I.freeC,fun p hp=>?_,tracked ⟨oL,hoL,I.free⟩ hs,by simpa using I.len⟩ ⟨_,hs,.inl rfl⟩
  ·exact (hs.2 b (Nat.ne_of_lt (Nat.lt_of_lt_of_le (Heap.lt_size e) I.ok.above))).trans (I.base.keep b o e n hb hx)
  ·obtain ⟨sl,e1⟩:=I.base.slot b o e n hb hx
   exact ⟨sl,(hs.2 b (Nat.ne_of_lt (Nat.lt_of_lt_of_le (Heap.lt_size e) I.ok.above))).trans e1⟩
  ·obtain ⟨o',e1⟩:=I.base.there b o e hx
   exact ⟨o',(hs.2 b (Nat.ne_of_lt (Nat.lt_of_lt_of_le (Heap.lt_size e) I.ok.above))).trans e1⟩
  ·by_cases hj:j=i
   ·subst hj
    rw [hi] at e1; cases e1
    rw [List.getElem?_set_self hiσ] at e2
    cases e2
    exact ⟨u,r,.inl ⟨hk,by simp⟩⟩
   ·rw [List.getElem?_set_ne (Ne.symm hj)] at e2
    obtain ⟨u',r',q⟩:=hl j y v' e1 e2 e3
    refine ⟨u',r',?_⟩
    rcases q with ⟨k,e⟩ | ⟨k,c,e,z⟩
    ·refine .inl ⟨k,?_⟩
     have:y≠x:=fun e=>hj (J9 hN e1 (e ▸ hi))
     simp [this,e]
    ·exact .inr ⟨k,c,e,z.sameBut hs (cne y c e)⟩
  ·obtain ⟨w',z⟩:=I.cell y c e
   exact ⟨w',z.sameBut hs (cne y c e)⟩
  ·obtain ⟨e,n,ne,nf,d⟩:=I.pin p hp
   exact ⟨(hs.2 p.1 ne).trans e,n,ne,nf,d⟩
 ·have hfn:X.fn x=true:=by
   rcases hf with z | z
   ·exact z
   ·rw [z] at hk; cases hk
  obtain ⟨c,hc⟩:=I.ok.has x (.inl hk)
  obtain ⟨w',z⟩:=I.cell x c hc
  refine wpAny_storeName_cell I.ok.kind hk hc z (fun h' hc' hs=>?_)
  obtain ⟨oc,hoc,hocd⟩:=id z
  refine h { s with heap:=h' } ⟨I.ok,I.os,I.bare,⟨fun b o e n hb hx=>?_,fun b o e n hb hx=>?_,I.base.free,fun b o e hx=>?_,I.base.tups,I.base.frzs,I.base.tbls⟩,⟨m,hn.sameBut hs (Ne.symm (cne x c hc)),fun j y v' e1 e2 e3=>?_⟩,fun y c' e=>?_,I.free,I.freeC,fun p hp=>?_,tracked ⟨oc,hoc,I.freeC x c hc⟩ hs,by simpa using I.len⟩ ⟨c,hs,.inr hc⟩
  ·exact (hs.2 b (Nat.ne_of_lt (Nat.lt_of_lt_of_le (Heap.lt_size e) (I.ok.cab x c hfn hc)))).trans (I.base.keep b o e n hb hx)
  ·obtain ⟨sl,e1⟩:=I.base.slot b o e n hb hx
   exact ⟨sl,(hs.2 b (Nat.ne_of_lt (Nat.lt_of_lt_of_le (Heap.lt_size e) (I.ok.cab x c hfn hc)))).trans e1⟩
  ·obtain ⟨o',e1⟩:=I.base.there b o e hx
   exact ⟨o',(hs.2 b (Nat.ne_of_lt (Nat.lt_of_lt_of_le (Heap.lt_size e) (I.ok.cab x c hfn hc)))).trans e1⟩
  ·by_cases hj:j=i
   ·subst hj
    rw [hi] at e1; cases e1
    rw [List.getElem?_set_self hiσ] at e2
    cases e2
    exact ⟨u,r,.inr ⟨.inl hk,c,hc,hc'⟩⟩
   ·rw [List.getElem?_set_ne (Ne.symm hj)] at e2
    obtain ⟨u',r',q⟩:=hl j y v' e1 e2 e3
    refine ⟨u',r',?_⟩
    rcases q with q | ⟨k,c',e,z'⟩
    ·exact .inl q
    ·refine .inr ⟨k,c',e,z'.sameBut hs ?_⟩
     rintro rfl
     exact hj (J9 hN e1 (I.ok.inj _ _ _ e hc ▸ hi))
  ·by_cases hcc:c'=c
   ·subst hcc; exact ⟨_,hc'⟩
   ·obtain ⟨w2,z2⟩:=I.cell y c' e
    exact ⟨w2,z2.sameBut hs hcc⟩
  ·obtain ⟨e,n,ne,nf,d⟩:=I.pin p hp
   refine ⟨(hs.2 p.1 ?_).trans e,n,ne,nf,d⟩
   intro q
   rw [q,hoc] at e
   have q':oc=p.2:=Option.some.inj e
   exact d w' (by rw [<- q']; exact hocd)
theorem Uj {M:Model} {A:Around} {E:Value->Shared->Prop} {i:Nat} {x:Str} {v:V} {u:Value} {Q:Unit->Shared->Prop} (I:Inv X pins σ H s) (hN:X.N.Nodup) (hi:X.N[i]?=some x) (hx:uc X.env.scope x) (r:zp v u)
  (h:∀ s',Inv X pins (σ.set i (some v)) H s'->Q () s') (hf:X.fn x=true\/X.env.scope.names.lookup x=some .local:=by first | exact .inl rfl | exact .inr rfl | assumption):wpAny M A (storeName X.env x u) Q E s:=
 Ix I hN hi hx r (fun s' I' _=>h s' I') hf
theorem Inv.call' {s':Shared} {ch:List Addr} (I:Inv X pins σ H s) (ho:s'.os=s.os) (u:Un (vc X.stack) ch H H' s.heap s'.heap) (hok:yn X.prog X.w H' s'.heap) (hg:AllBare s'.gens)
  (hch:∀ b∈ch,(b∈X.ex\/X.s₀.heap.objs.size<=b)/\b≠X.env.locals/\(∀ x c,X.env.cells.lookup x=some c->c≠b)/\∀ p∈X.pn++pins,p.1≠b):Inv X pins σ H' s':=by
 obtain ⟨h',g',d',t',o'⟩:=s'
 have e:o'=s.os:=ho
 subst e
 exact I.call (g':=g') (t':=t') (d':=d') u hok hg hch
end
noncomputable abbrev XK:=Value->Option Addr->Hp->Prop
noncomputable abbrev St:=List (Option V)
noncomputable abbrev VK:=V->Hp->Prop
noncomputable abbrev TE:=St->Hp->VK->Prop
noncomputable abbrev TT:=St->Hp->(Bool->Hp->Prop)->Prop
noncomputable abbrev TA:=St->Hp->(List V->Hp->Prop)->Prop
structure v4 where
 nx:St->Hp->Prop
 rt:VK
 bk:St->Hp->Prop:=fun _ _=>False
 ct:St->Hp->Prop:=fun _ _=>False
noncomputable abbrev TS:=v4->St->Hp->Prop
noncomputable def EP (X:Cx) (pins:List (Addr×Obj)) (σ:St) (Q:VK) (u:Value) (s':Shared):Prop:=∃ v H',Inv X pins σ H' s'/\zp v u/\Q v H'
noncomputable def TP (X:Cx) (pins:List (Addr×Obj)) (σ:St) (Q:Bool->Hp->Prop) (b:Bool) (s':Shared):Prop:=∃ H',Inv X pins σ H' s'/\Q b H'
noncomputable def AP (X:Cx) (pins:List (Addr×Obj)) (σ:St) (Q:List V->Hp->Prop) (us:List Value) (s':Shared):Prop:=∃ vs H',Inv X pins σ H' s'/\zi vs us/\Q vs H'
noncomputable def SP (X:Cx) (pins:List (Addr×Obj)) (D:v4) (f:Flow) (s':Shared):Prop:=
 match f with
 | .next=>∃ σ' H',Inv X pins σ' H' s'/\D.nx σ' H'
 | .brk=>∃ σ' H',Inv X pins σ' H' s'/\D.bk σ' H'
 | .cont=>∃ σ' H',Inv X pins σ' H' s'/\D.ct σ' H'
 | .ret u=>∃ v σ' H',Inv X pins σ' H' s'/\zp v u/\D.rt v H'
noncomputable def PE (X:Cx) (e:Expr) (t:TE):Prop:=
 ∀ (pins:List (Addr×Obj)) (s:Shared) (σ:St) (H:Hp) (Q:VK),Inv X pins σ H s->t σ H Q->wpAny (model X.prog X.w) X.A (eval e X.env) (EP X pins σ Q) X.xe s
noncomputable def PT (X:Cx) (e:Expr) (t:TT):Prop:=
 ∀ (pins:List (Addr×Obj)) (s:Shared) (σ:St) (H:Hp) (Q:Bool->Hp->Prop),Inv X pins σ H s->t σ H Q->wpAny (model X.prog X.w) X.A (isTrue e X.env (eval e X.env)) (TP X pins σ Q) X.xe s
noncomputable def PW (X:Cx) (e:Expr) (t:TT):Prop:=
 ∀ (whole:Sem Value) (pins:List (Addr×Obj)) (s:Shared) (σ:St) (H:Hp) (Q:Bool->Hp->Prop),Inv X pins σ H s->t σ H Q->wpAny (model X.prog X.w) X.A (isTrue e X.env whole) (TP X pins σ Q) X.xe s
theorem PW.pt {X:Cx} {e:Expr} {t:TT} (h:PW X e t):PT X e t:=h _
noncomputable def PA (X:Cx) (es:List Expr) (t:TA):Prop:=
 ∀ (pos:Pos) (pins:List (Addr×Obj)) (s:Shared) (σ:St) (H:Hp) (Q:List V->Hp->Prop),Inv X pins σ H s->t σ H Q->wpAny (model X.prog X.w) X.A (spliced (backTo pos (starEach es X.env))) (AP X pins σ Q) X.xe s
noncomputable def PS (X:Cx) (st:Stmt) (t:TS):Prop:=
 ∀ (pins:List (Addr×Obj)) (s:Shared) (σ:St) (H:Hp) (D:v4),Inv X pins σ H s->t D σ H->wpAny (model X.prog X.w) X.A (exec st X.env) (SP X pins D) X.xe s
noncomputable def wW (X:Cx) (st:List Stmt) (t:TS):Prop:=
 ∀ (pins:List (Addr×Obj)) (s:Shared) (σ:St) (H:Hp) (D:v4),Inv X pins σ H s->t D σ H->wpAny (model X.prog X.w) X.A (execs st X.env) (SP X pins D) X.xe s
theorem zg {α:Type} {t:Sem α} {Q Q':α->Shared->Prop} {M:Model} {A:Around} {E:Value->Shared->Prop} {s:Shared} (h:wpAny M A t Q E s) (hQ:∀ a s,Q a s->Q' a s):wpAny M A t Q' E s:=wpAny_mono h hQ fun _ _ x=>x
end L2
namespace L2
open PySem PySem.Spec PyProof.Rows
section
variable {X:Cx}
noncomputable def tT (i:Nat):TE:=fun σ H Q=>∃ v,σ[i]?=some (some v)/\Q v H
noncomputable def tC (v:V):TE:=fun _ H Q=>Q v H
theorem ja {i:Nat} {x:Str} {pos:Pos} (hN:X.N[i]?=some x) (hv:uB X.env.scope x) (hd:(x == ("__debug__" : Str))=false:=by decide) (hcd:(x == ("__classdict__" : Str))=false:=by decide):PE X (.Name x pos) (tT i):=by
 intro pins s σ H Q I h
 obtain ⟨v,e,h⟩:=h
 obtain ⟨m,hn,hl⟩:=I.loc
 obtain ⟨u,r,l⟩:=hl i x v hN e hv
 have fin:EP X pins σ Q u s:=⟨v,H,I,r,h⟩
 rcases l with ⟨hk,hm⟩ | ⟨hk,c,hc,hcell⟩
 ·exact wpAny_Name (wpAny_loadName_local I.ok.kind hk hn hm fin) hd
 ·rcases hk with hk | hk
  ·exact wpAny_Name (wpAny_loadName_cell I.ok.kind hk hc hcell fin) hd
  ·exact wpAny_Name (wpAny_loadName_free I.ok.kind hk hc hcell fin hcd) hd
theorem JP {i j pos}:PE X (.Constant (.int i) j pos) (tC (.int i)):=fun _ _ _ H _ I h=>wpAny_Constant_int ⟨.int i,H,I.tok _,⟨_,rfl⟩,h⟩
theorem FZ {b j pos}:PE X (.Constant (.bool b) j pos) (tC (.bl b)):=fun _ _ _ H _ I h=>Constant_bool ⟨.bl b,H,I,rfl,h⟩
theorem Fo {j pos}:PE X (.Constant .none j pos) (tC .non):=fun _ _ _ H _ I h=>Constant_none ⟨.non,H,I,rfl,h⟩
theorem Fr {x j pos}:PE X (.Constant (.str x) j pos) (tC (.str x)):=fun _ _ _ H _ I h=>Calls.Constant_str ⟨.str x,H,I.tok _,⟨_,rfl⟩,h⟩
noncomputable def Gl (X:Cx) (x:Str):Prop:=X.env.kindOf x=some .globalImplicit
theorem VF {E:Value->Shared->Prop} {pins:List (Addr×Obj)} {s:Shared} {σ:St} {H:Hp} {x:Str} {u:Value} {pos:Pos} {Q:Value->Shared->Prop} (I:Inv X pins σ H s) (hg:Gl X x) (hm:X.mg x=some u) (h:Q u s)
  (hd:(x == ("__debug__" : Str))=false:=by decide):wpAny (model X.prog X.w) X.A (eval (.Name x pos) X.env) Q E s:=
 Calls.Name_function_global I.ok.kind hg (Calls.loadGlobal_global (by rw [I.ok.glob]; exact I.mod.glob.keeps I.bk) hm h) hd
theorem qN {E:Value->Shared->Prop} {pins:List (Addr×Obj)} {s:Shared} {σ:St} {H:Hp} {x:Str} {u:Value} {pos:Pos} {Q:Value->Shared->Prop} (I:Inv X pins σ H s) (hg:Gl X x) (hm:X.mg x=none) (hv:bootBuiltins x=some u) (h:Q u s)
  (hn:x ≠ "__name__" := by decide) (hd:(x == ("__debug__" : Str))=false:=by decide):wpAny (model X.prog X.w) X.A (eval (.Name x pos) X.env) Q E s:=by
 obtain ⟨mb,h1,h2⟩:=I.mod.blt
 exact Calls.Name_function_global I.ok.kind hg (Calls.loadGlobal_builtin (by rw [I.ok.glob]; exact I.mod.glob.keeps I.bk) hm (by rw [I.ok.blt]; exact h1.keeps I.bk) ((h2 x hn).trans hv) h) hd
theorem Fj {x:Str} {v:V} {u:Value} {pos:Pos} (hg:Gl X x) (hm:X.mg x=some u) (r:zp v u) (hd:(x == ("__debug__" : Str))=false:=by decide):PE X (.Name x pos) (tC v):=
 fun _ _ _ H _ I h=>VF I hg hm ⟨v,H,I,r,h⟩ hd
theorem Fa {x:Str} {v:V} {u:Value} {pos:Pos} (hg:Gl X x) (hm:X.mg x=none) (hv:bootBuiltins x=some u) (r:zp v u) (hn:x ≠ "__name__" := by decide) (hd:(x == ("__debug__" : Str))=false:=by decide):PE X (.Name x pos) (tC v):=
 fun _ _ _ H _ I h=>qN I hg hm hv ⟨v,H,I,r,h⟩ hn hd
variable {a b:Expr} {ta tb:TE} {pos:Pos}
noncomputable def tB (t:TE):TT:=fun σ H Q=>t σ H fun x H1=>∃ c,x=.bl c/\Q c H1
theorem Cg {e:Expr} {t:TE} (h:PE X e t) (he:∀ whole,isTrue e X.env whole=(do let v <- whole; standAt e.pos; holding [v] (truthy v)):=by intro _; rfl):PT X e (tB t):=by
 intro pins s σ H Q I hw
 refine isTrue_plain (zg (h pins s σ H _ I hw) fun v s1 ⟨x,H1,I1,r1,q1⟩=>?_) (he _)
 obtain ⟨d,rfl,q⟩:=q1
 cases r1
 exact wpAny_truthy_bool ⟨H1,I1,q⟩
variable {tA tB':TT} {rest:List Expr}
noncomputable def GX (t u:TT):TT:=fun σ H Q=>t σ H fun c H1=>if c=true then u σ H1 Q else Q false H1
noncomputable def Gq (t u:TT):TT:=fun σ H Q=>t σ H fun c H1=>if c=true then Q true H1 else u σ H1 Q
noncomputable def Gp (t:TT):TT:=fun σ H Q=>t σ H fun c H1=>Q (!c) H1
theorem Cm (ha:PT X a tA):PW X (.BoolOp .And [a] pos) tA:=by
 intro wh pins s σ H Q I h
 refine isTrue_and (zg (ha pins s σ H Q I h) fun c s1 e=>?_)
 cases c with
 | true=>exact isTrue_and_nil e
 | false=>exact e
theorem Co (ha:PT X a tA):PW X (.BoolOp .Or [a] pos) tA:=by
 intro wh pins s σ H Q I h
 refine isTrue_or (zg (ha pins s σ H Q I h) fun c s1 e=>?_)
 cases c with
 | false=>exact isTrue_or_nil e
 | true=>exact e
theorem Cl (ha:PT X a tA) (hb:PW X (.BoolOp .And (b::rest) pos) tB'):PW X (.BoolOp .And (a::b::rest) pos) (GX tA tB'):=by
 intro wh pins s σ H Q I h
 refine isTrue_and (zg (ha pins s σ H _ I h) fun c s1 ⟨H1,I1,q1⟩=>?_)
 cases c with
 | true=>exact hb wh pins s1 σ H1 Q I1 q1
 | false=>exact ⟨H1,I1,q1⟩
theorem Cn (ha:PT X a tA) (hb:PW X (.BoolOp .Or (b::rest) pos) tB'):PW X (.BoolOp .Or (a::b::rest) pos) (Gq tA tB'):=by
 intro wh pins s σ H Q I h
 refine isTrue_or (zg (ha pins s σ H _ I h) fun c s1 ⟨H1,I1,q1⟩=>?_)
 cases c with
 | true=>exact ⟨H1,I1,q1⟩
 | false=>exact hb wh pins s1 σ H1 Q I1 q1
theorem Cf (ha:PT X a tA):PT X (.UnaryOp .Not a pos) (Gp tA):=by
 intro pins s σ H Q I h
 exact isTrue_not (ha pins s σ H (fun c H1=>Q (!c) H1) I h)
noncomputable def GY (ta tb:TE):TE:=fun σ H Q=>ta σ H fun x H1=>∃ c,x=.bl c/\if c=true then tb σ H1 Q else Q (.bl false) H1
theorem Fp {op} {t:TE} (h:PE X a t):PE X (.BoolOp op [a] pos) t:=fun pins s σ H Q I hw=>BoolOp_one (h pins s σ H Q I hw)
theorem FY (ha:PE X a ta) (hb:PE X (.BoolOp .And (b::rest) pos) tb):PE X (.BoolOp .And (a::b::rest) pos) (GY ta tb):=by
 intro pins s σ H Q I h
 refine BoolOp_and (zg (ha pins s σ H _ I h) fun v s1 ⟨x,H1,I1,r1,q1⟩=>?_)
 obtain ⟨c,rfl,q1⟩:=q1
 cases r1
 refine wpAny_truthy_bool ?_
 cases c with
 | true=>exact hb pins s1 σ H1 Q I1 q1
 | false=>exact ⟨.bl false,H1,I1,rfl,q1⟩
noncomputable def Gf (t:TT) (ta tb:TE):TE:=fun σ H Q=>t σ H fun c H1=>if c=true then ta σ H1 Q else tb σ H1 Q
theorem Fk {c:Expr} (hc:PT X c tA) (ha:PE X a ta) (hb:PE X b tb):PE X (.IfExp c a b pos) (Gf tA ta tb):=by
 intro pins s σ H Q I h
 refine wpAny_IfExp (zg (hc pins s σ H _ I h) fun d s1 ⟨H1,I1,q1⟩=>?_)
 cases d with
 | true=>exact ha pins s1 σ H1 Q I1 q1
 | false=>exact hb pins s1 σ H1 Q I1 q1
end
end L2
namespace L2
open PySem PySem.Spec PyProof.Rows
noncomputable def yO (K:PySem.W.Frag) (H:Hp) (a:Addr) (xs:List V):Prop:=
 Rd H a (.lst xs) \/
  ∃ (o:Obj) (its:Array Value) (n:Nat),K.lookup a=some o/\o.cls=.type "list" /\ o.dict=none/\o.data=.seq its n/\its.size<=sizeLine/\zi xs its.toList
noncomputable def yd (K:PySem.W.Frag) (H:Hp) (a:Addr) (xs:List V):Prop:=
 Rd H a (.tup xs) \/
  ∃ (o:Obj) (its:Array Value) (n:Nat),K.lookup a=some o/\o.cls=.type "tuple" /\ o.data=.seq its n/\its.size<=sizeLine/\zi xs its.toList
noncomputable def Oc:Value->Option V
 | .none=>some .non
 | .bool b=>some (.bl b)
 | .int i _=>some (.int i)
 | .str x _=>some (.str x)
 | .bytes b _=>some (.byt b)
 | .float b _=>some (.flt b)
 | .ref a=>some (.ref a)
 | .type n=>some (.ty n)
 | _=>none
theorem zp.abs {x:V} {u:Value} (r:zp x u):Oc u=some x:=by
 cases x with
 | non=>cases r; rfl
 | bl _=>cases r; rfl
 | int _=>obtain ⟨t,rfl⟩:=r; rfl
 | str _=>obtain ⟨t,rfl⟩:=r; rfl
 | byt _=>obtain ⟨t,rfl⟩:=r; rfl
 | flt _=>obtain ⟨t,rfl⟩:=r; rfl
 | ref _=>cases r; rfl
 | ty _=>cases r; rfl
theorem zp.inj {x y:V} {u:Value} (r:zp x u) (q:zp y u):x=y:=Option.some.inj (r.abs.symm.trans q.abs)
theorem zi.inj:∀ {xs ys:List V} {us:List Value},zi xs us->zi ys us->xs=ys
 | _,_,_,.nil,.nil=>rfl
 | _,_,_,.cons r t,.cons r' t'=>by rw [r.inj r',zi.inj t t']
section
variable {X:Cx} {pins:List (Addr×Obj)} {σ:St} {H:Hp} {s:Shared} {a:Addr} {xs ys:List V}
theorem yO.of {K:PySem.W.Frag} (h:H a=some (.lst xs)):yO K H a xs:=.inl (.inl h)
theorem yd.of {K:PySem.W.Frag} (h:H a=some (.tup xs)):yd K H a xs:=.inl (.inl h)
theorem Inv.list (I:Inv X pins σ H s) (h:yO X.K H a xs):∃ its:List Value,zi xs its/\PlainL s.heap a its.toArray/\xs.length<=sizeLine:=by
 rcases h with h | ⟨o,its,n,hk,hc,hd,hs,hz,r⟩
 ·obtain ⟨z,its,n,r,e⟩:=h.ok I.hok
  exact ⟨its,r,⟨_,n,e,rfl,rfl,rfl⟩,z⟩
 ·refine ⟨its.toList,r,⟨o,n,I.kIn a o hk,hc,hd,by simpa using hs⟩,?_⟩
  have e:=r.length
  simp only [Array.length_toList] at e
  omega
theorem Inv.tuple (I:Inv X pins σ H s) (h:yd X.K H a xs):∃ its:List Value,zi xs its/\IsTup s.heap a its.toArray/\xs.length<=sizeLine:=by
 rcases h with h | ⟨o,its,n,hk,hc,hs,hz,r⟩
 ·obtain ⟨z,its,r,p⟩:=h.ok I.hok
  exact ⟨its,r,p,z⟩
 ·refine ⟨its.toList,r,⟨o,I.kIn a o hk,hc,n,by simpa using hs⟩,?_⟩
  have e:=r.length
  simp only [Array.length_toList] at e
  omega
theorem Inv.list_inj (I:Inv X pins σ H s) (h:yO X.K H a xs) (h':yO X.K H a ys):xs=ys:=by
 obtain ⟨its,r,⟨o,n,e,_,_,d⟩,_⟩:=I.list h
 obtain ⟨its',r',⟨o',n',e',_,_,d'⟩,_⟩:=I.list h'
 rw [e] at e'; cases e'
 rw [d] at d'
 injection d' with d1 _
 have:its=its':=by simpa using congrArg Array.toList d1
 subst this
 exact r.inj r'
theorem Inv.tuple_inj (I:Inv X pins σ H s) (h:yd X.K H a xs) (h':yd X.K H a ys):xs=ys:=by
 obtain ⟨its,r,⟨o,e,_,n,d⟩,_⟩:=I.tuple h
 obtain ⟨its',r',⟨o',e',_,n',d'⟩,_⟩:=I.tuple h'
 rw [e] at e'; cases e'
 rw [d] at d'
 injection d' with d1 _
 have:its=its':=by simpa using congrArg Array.toList d1
 subst this
 exact r.inj r'
end
noncomputable abbrev Cx.wish (X:Cx) (E:Value->Shared->Prop):Cx:={ X with xe:=E }
noncomputable abbrev Cx.nox (X:Cx):Cx:=X.wish fun _ _=>False
theorem Cx.Ok.wish {X:Cx} (ok:X.Ok) (E:Value->Shared->Prop):(X.wish E).Ok:=
 ⟨ok.mod,ok.kind,ok.glob,ok.blt,ok.above,ok.inj,ok.has,ok.cab,ok.hd,ok.frames,ok.stk,ok.exf,ok.bs,ok.bsz,ok.noex,ok.exfs,ok.funs,ok.frf⟩
theorem Cx.Ok.unwish {X:Cx} {E:Value->Shared->Prop} (ok:(X.wish E).Ok):X.Ok:=
 ⟨ok.mod,ok.kind,ok.glob,ok.blt,ok.above,ok.inj,ok.has,ok.cab,ok.hd,ok.frames,ok.stk,ok.exf,ok.bs,ok.bsz,ok.noex,ok.exfs,ok.funs,ok.frf⟩
section
variable {X:Cx} {pins:List (Addr×Obj)} {σ:St} {H:Hp} {s:Shared} {E:Value->Shared->Prop}
theorem Inv.wish (I:Inv X pins σ H s) (E:Value->Shared->Prop):Inv (X.wish E) pins σ H s:=⟨I.ok.wish E,I.os,I.bare,I.base,I.loc,I.cell,I.free,I.freeC,I.pin,I.hok,I.len⟩
theorem Inv.unwish (I:Inv (X.wish E) pins σ H s):Inv X pins σ H s:=⟨I.ok.unwish,I.os,I.bare,I.base,I.loc,I.cell,I.free,I.freeC,I.pin,I.hok,I.len⟩
theorem SP.unwish {D:v4} {f:Flow} {s':Shared} (h:SP (X.wish E) pins D f s'):SP X pins D f s':=by
 cases f with
 | next=>obtain ⟨σ',H',I,q⟩:=h; exact ⟨σ',H',I.unwish,q⟩
 | brk=>obtain ⟨σ',H',I,q⟩:=h; exact ⟨σ',H',I.unwish,q⟩
 | cont=>obtain ⟨σ',H',I,q⟩:=h; exact ⟨σ',H',I.unwish,q⟩
 | ret u=>obtain ⟨v,σ',H',I,r,q⟩:=h; exact ⟨v,σ',H',I.unwish,r,q⟩
theorem wW.nox {st:List Stmt} {t:TS} (h:wW X.nox st t):wW X st t:=fun pins s σ H D I hw=>
 wpAny_mono (h pins s σ H D (I.wish _) hw) (fun _ _ q=>q.unwish) fun _ _ z=>False.elim z
end
section
variable {X:Cx} {st:Stmt} {rest:List Stmt} {t u:TS} {e:Expr} {te:TE} {pos:Pos}
noncomputable def Gn:TS:=fun D σ H=>D.nx σ H
noncomputable def Gw (t u:TS):TS:=fun D σ H=>t { D with nx:=u D } σ H
theorem Ca:wW X [] Gn:=fun _ _ σ H _ I h=>wpAny_execs_nil ⟨σ,H,I,h⟩
theorem CY (h1:PS X st t) (h2:wW X rest u):wW X (st::rest) (Gw t u):=by
 intro pins s σ H D I h
 refine wpAny_execs_cons (zg (h1 pins s σ H { D with nx:=u D } I h) fun f s1 q=>?_)
 cases f with
 | next=>
  obtain ⟨σ',H',I',q⟩:=q
  exact h2 pins s1 σ' H' D I' q
 | ret v=>exact q
 | brk=>exact q
 | cont=>exact q
theorem Cc (h1:PS X st t):wW X [st] t:=by
 intro pins s σ H D I h
 refine wpAny_execs_cons (zg (h1 pins s σ H D I h) fun f s1 q=>?_)
 cases f with
 | next=>exact wpAny_execs_nil q
 | ret v=>exact q
 | brk=>exact q
 | cont=>exact q
theorem Inv.quiet {pins:List (Addr×Obj)} {σ:St} {H:Hp} {s:Shared} (I:Inv X pins σ H s):interactive X.env=false:=by simp [interactive,I.ok.kind]
noncomputable def O0 (te:TE):TS:=fun D σ H=>te σ H fun _ H1=>D.nx σ H1
theorem CS (he:PE X e te) (hs:swapsWith e none pos.line X.env=pure false:=by rfl):PS X (.Expr e pos) (O0 te):=by
 intro pins s σ H D I h
 exact wpAny_Expr_any (zg (he pins s σ H _ I h) fun v s1 ⟨x,H1,I1,r1,q1⟩=>⟨σ,H1,I1,q1⟩) I.quiet hs
noncomputable def Gu (te:TE):TS:=fun D σ H=>te σ H D.rt
theorem VZ (he:PE X e te):PS X (.Return (some e) pos) (Gu te):=by
 intro pins s σ H D I h
 exact wpAny_Return_some (zg (he pins s σ H _ I h) fun v s1 ⟨x,H1,I1,r1,q1⟩=>⟨x,σ,H1,I1,r1,q1⟩)
noncomputable def Gg (c:TT) (t u:TS):TS:=fun D σ H=>c σ H fun b H1=>if b=true then t D σ H1 else u D σ H1
theorem CT {c:Expr} {a b:List Stmt} {tc:TT} (hc:PT X c tc) (ha:wW X a t) (hb:wW X b u):PS X (.If c a b pos) (Gg tc t u):=by
 intro pins s σ H D I h
 refine wpAny_If (zg (hc pins s σ H _ I h) fun d s1 ⟨H1,I1,q1⟩=>?_)
 cases d with
 | true=>exact ha pins s1 σ H1 D I1 q1
 | false=>exact hb pins s1 σ H1 D I1 q1
noncomputable def Gm:TS:=fun _ _ _=>False
theorem CZ {sts:List Stmt}:wW X sts Gm:=fun _ _ _ _ _ _ h=>h.elim
end
noncomputable abbrev TG:=V->St->Hp->(St->Hp->Prop)->Prop
noncomputable abbrev vV:=List V->St->Hp->(St->Hp->Prop)->Prop
noncomputable def PG (X:Cx) (target:Expr) (t:TG):Prop:=
 ∀ (pins:List (Addr×Obj)) (s:Shared) (σ:St) (H:Hp) (v:V) (u:Value) (Q:St->Hp->Prop),Inv X pins σ H s->zp v u->t v σ H Q->
  wpAny (model X.prog X.w) X.A (assign target X.env u) (fun _ s'=>∃ σ' H',Inv X pins σ' H' s'/\Q σ' H') X.xe s
noncomputable def j5 (X:Cx) (ts:List Expr) (t:vV):Prop:=
 ∀ (pins:List (Addr×Obj)) (s:Shared) (σ:St) (H:Hp) (vs:List V) (us:List Value) (Q:St->Hp->Prop),Inv X pins σ H s->zi vs us->t vs σ H Q->
  wpAny (model X.prog X.w) X.A (assignInOrder ((assignEach ts X.env).map (·.2)) us) (fun _ s'=>∃ σ' H',Inv X pins σ' H' s'/\Q σ' H') X.xe s
noncomputable abbrev Z5:=V->V->V->Hp->(Hp->Prop)->Prop
noncomputable def Xz (X:Cx) (t:Z5):Prop:=
 ∀ (pins:List (Addr×Obj)) (s:Shared) (σ:St) (H:Hp) (o i v:V) (ov iv u:Value) (Q:Hp->Prop),Inv X pins σ H s->zp o ov->zp i iv->zp v u->t o i v H Q->
  wpAny (model X.prog X.w) X.A (setItem ov iv u) (fun _ s'=>∃ H',Inv X pins σ H' s'/\Q H') X.xe s
noncomputable abbrev gQ:=V->V->Hp->VK->Prop
noncomputable def Xy (X:Cx) (op:Operator) (t:gQ):Prop:=
 ∀ (pins:List (Addr×Obj)) (s:Shared) (σ:St) (H:Hp) (x y:V) (v u:Value) (Q:VK),Inv X pins σ H s->zp x v->zp y u->t x y H Q->
  wpAny (model X.prog X.w) X.A (inplaceOp op v u) (EP X pins σ Q) X.xe s
section
variable {X:Cx} {pos:Pos}
noncomputable def wD (i:Nat):TG:=fun v σ H Q=>Q (σ.set i (some v)) H
theorem Fw {i:Nat} {x:Str} (hN:X.N.Nodup) (hi:X.N[i]?=some x) (hx:uc X.env.scope x) (hf:X.fn x=true\/X.env.scope.names.lookup x=some .local:=by first | exact .inl rfl | exact .inr rfl | assumption):PG X (.Name x pos) (wD i):=by
 intro pins s σ H v u Q I r h
 exact wpAny_assign_Name (Uj I hN hi hx r (fun s' I'=>⟨_,H,I',h⟩) hf)
noncomputable def qy:vV:=fun vs σ H Q=>vs=[]/\Q σ H
noncomputable def vC (t:TG) (u:vV):vV:=fun vs σ H Q=>∃ v r,vs=v::r/\t v σ H fun σ' H'=>u r σ' H' Q
theorem F_:j5 X [] qy:=by
 intro pins s σ H vs us Q I r h
 obtain ⟨e,h⟩:=h
 subst e
 cases r
 exact assignInOrder_nil ⟨σ,H,I,h⟩
theorem Fz {e:Expr} {es:List Expr} {t:TG} {u:vV} (h1:PG X e t) (h2:j5 X es u)
  (hs:(assignEach (e::es) X.env).map (·.2)=assign e X.env::(assignEach es X.env).map (·.2):=by rfl):j5 X (e::es) (vC t u):=by
 intro pins s σ H vs us Q I r h
 obtain ⟨v,vr,e1,h⟩:=h
 subst e1
 cases r with
 | cons r rr=>
  rw [hs]
  refine assignInOrder_cons (zg (h1 pins s σ H _ _ _ I r h) fun _ s1 ⟨σ1,H1,I1,q1⟩=>?_)
  exact h2 pins s1 σ1 H1 _ _ Q I1 rr q1
noncomputable def jH (K:PySem.W.Frag) (n:Nat) (t:vV):TG:=fun v σ H Q=>∃ a xs,v=.ref a/\yd K H a xs/\xs.length=n/\t xs σ H Q
theorem Fy {es:List Expr} {k:Nat} {t:vV} {n:Nat} (hc:X.calm=true) (h:j5 X es t)
  (hn:(assignEach es X.env).length=n:=by rfl) (hst:(assignEach es X.env).findIdx? (·.1)=none:=by rfl):PG X (.Tuple es k pos) (jH X.K n t):=by
 intro pins s σ H v u Q I r hw
 obtain ⟨a,xs,e1,hq,hl,hw⟩:=hw
 subst e1
 cases r
 obtain ⟨its,rv,ht,hz⟩:=I.tuple hq
 refine assign_Tuple_tuple (I.ok.hd hc) ht (by simp [hn,<- hl,rv.length]) hst fun h' hx=>?_
 have I1:Inv X pins σ H { s with heap:=h' }:=I.kept (t':=s.toks) fun b o e=>hx b o (Nat.ne_of_lt (Heap.lt_size e)) e
 exact h pins _ σ H xs _ Q I1 (by simpa using rv) hw
noncomputable def QB (to ti:TE) (t:Z5):TG:=fun v σ H Q=>to σ H fun o H1=>ti σ H1 fun i H2=>t o i v H2 fun H3=>Q σ H3
theorem Fx {o i:Expr} {to ti:TE} {t:Z5} (ho:PE X o to) (hi:PE X i ti) (hs:Xz X t)
  (ha:∀ v,assign (.Subscript o i pos) X.env v=(do
   let ov <- holding [v] (eval o X.env)
   let iv <- holding [v,ov] (eval i X.env)
   standAt pos
   holding [v,ov,iv] (setItem ov iv v)
   release [v,ov,iv] []):=by intro _; rfl):PG X (.Subscript o i pos) (QB to ti t):=by
 intro pins s σ H v u Q I r h
 rw [ha]
 refine wpAny_bind (wpAny_holding (zg (ho pins s σ H _ I h) fun ov s1 ⟨x,H1,I1,r1,q1⟩=>?_))
 refine wpAny_bind (wpAny_holding (zg (hi pins s1 σ H1 _ I1 q1) fun iv s2 ⟨y,H2,I2,r2,q2⟩=>?_))
 refine wpAny_bind (wpAny_standAt (wpAny_bind (wpAny_holding (zg (hs pins s2 σ H2 x y v ov iv u _ I2 r1 r2 r q2) fun _ s3 ⟨H3,I3,q3⟩=>?_))))
 exact wpAny_release ⟨σ,H3,I3,q3⟩
noncomputable def Um (te:TE) (g:TG):TS:=fun D σ H=>te σ H fun x H1=>g x σ H1 D.nx
theorem Ja {tg e:Expr} {te:TE} {g:TG} (he:PE X e te) (hg:PG X tg g) (hs:swapsWithSole [tg] e pos.line X.env=pure false:=by rfl) (hw:swappedStores [tg] e X.env=pure none:=by rfl)
  (h1:(assignEach [tg] X.env).map (·.2)=[assign tg X.env]:=by rfl):PS X (.Assign [tg] e pos) (Um te g):=by
 intro pins s σ H D I h
 refine wpAny_Assign_stores (zg (he pins s σ H _ I h) fun v s1 ⟨x,H1,I1,r1,q1⟩=>?_) hs hw
 rw [h1]
 exact zg (hg pins s1 σ H1 x v _ I1 r1 q1) fun _ s2 q=>q
theorem CV {i:Nat} {x:Str} {e:Expr} {te:TE} {pos':Pos} (hN:X.N.Nodup) (hi:X.N[i]?=some x) (hx:uc X.env.scope x) (he:PE X e te) (hs:swapsWith e (some (.Name x pos')) pos.line X.env=pure false:=by rfl) (hf:X.fn x=true\/X.env.scope.names.lookup x=some .local:=by first | exact .inl rfl | exact .inr rfl | assumption) :
  PS X (.Assign [.Name x pos'] e pos) (Um te (wD i)):=by
 intro pins s σ H D I h
 refine wpAny_Assign_Name (zg (he pins s σ H _ I h) fun v s1 ⟨y,H1,I1,r1,q1⟩=>?_) hs
 exact Uj I1 hN hi hx r1 (fun s2 I2=>⟨_,H1,I2,q1⟩) hf
noncomputable def GZ (i:Nat) (te:TE) (ti:gQ):TS:=fun D σ H=>∃ x,σ[i]?=some (some x)/\te σ H fun y H1=>ti x y H1 fun z H2=>D.nx (σ.set i (some z)) H2
theorem CP {i:Nat} {x:Str} {e:Expr} {te:TE} {op:Operator} {ti:gQ} {pos':Pos} (hN:X.N.Nodup) (hi:X.N[i]?=some x) (hx:uc X.env.scope x) (he:PE X e te) (ho:Xy X op ti) (hf:X.fn x=true\/X.env.scope.names.lookup x=some .local:=by first | exact .inl rfl | exact .inr rfl | assumption) :
  PS X (.AugAssign (.Name x pos') op e pos) (GZ i te ti):=by
 intro pins s σ H D I h
 obtain ⟨v,e1,h⟩:=h
 obtain ⟨m,hn,hl⟩:=I.loc
 have vis:uB X.env.scope x:=by rcases hx with k | k; exact .inl k; exact .inr (.inl k)
 obtain ⟨u,r,l⟩:=hl i x v hi e1 vis
 refine wpAny_AugAssign_Name ?_
 have go:wpAny (model X.prog X.w) X.A (eval e X.env) (fun w s₂=>wpAny (model X.prog X.w) X.A (inplaceOp op u w) (fun r s₃=>wpAny (model X.prog X.w) X.A (storeName X.env x r) (fun _=>SP X pins D .next) X.xe s₃) X.xe s₂) X.xe s:=by
  refine zg (he pins s σ H _ I h) fun w s1 ⟨y,H1,I1,r1,q1⟩=>?_
  refine zg (ho pins s1 σ H1 v y u w _ I1 r r1 q1) fun z s2 ⟨zv,H2,I2,r2,q2⟩=>?_
  exact Uj I2 hN hi hx r2 (fun s3 I3=>⟨_,H2,I3,q2⟩) hf
 rcases l with ⟨hk,hm⟩ | ⟨hk,c,hc,hcell⟩
 ·exact wpAny_loadName_local I.ok.kind hk hn hm go
 ·rcases hk with hk | hk
  ·exact wpAny_loadName_cell I.ok.kind hk hc hcell go
  ·rcases hx with k | k
   ·have:X.env.scope.names.lookup x=some .free:=hk
    rw [k] at this; cases this
   ·have:X.env.scope.names.lookup x=some .free:=hk
    rw [k] at this; cases this
noncomputable def Qd (f:Int->Int->Int):gQ:=fun x y H Q=>∃ i j,x=.int i/\y=.int j/\Q (.int (f i j)) H
theorem Qe:Xy X .Add (Qd fun i j=>i+j):=by
 intro pins s σ H x y v u Q I r1 r2 h
 obtain ⟨i,j,e1,e2,q⟩:=h
 subst e1; subst e2
 obtain ⟨t,rfl⟩:=r1
 obtain ⟨t',rfl⟩:=r2
 exact iadd_int ⟨.int _,H,I.tok _,⟨_,rfl⟩,q⟩
end
section
variable {X:Cx} {pos:Pos}
noncomputable def HA (c:TT) (tb:TS):TS:=fun D σ H=>∃ W:Nat->St->Hp->Prop,(∃ m,W m σ H)/\∀ m σ H,W m σ H->
 c σ H fun b H1=>if b=true then ∃ N:St->Hp->Prop,(∀ σ' H',N σ' H'->∃ m',m'<m/\W m' σ' H')/\tb { D with nx:=N,ct:=N,bk:=D.nx } σ H1 else D.nx σ H1
theorem CW {c:Expr} {body:List Stmt} {tc:TT} {tb:TS} (hp:PassesOwn (model X.prog X.w) X.A X.env X.xe) (hc:PT X c tc) (hb:wW X body tb):PS X (.While c body [] pos) (HA tc tb):=by
 intro pins s σ H D I h
 obtain ⟨W,⟨m0,w0⟩,turn⟩:=h
 refine wpAny_While (codeAny_whileLoop (fun n s'=>∃ σ' H',Inv X pins σ' H' s'/\W n σ' H') ?_ m0 ⟨σ,H,I,w0⟩)
 rintro n s1 ⟨σ1,H1,I1,w1⟩
 refine wpAny_passesOwn hp (zg (hc pins s1 σ1 H1 _ I1 (turn n σ1 H1 w1)) fun b s2 ⟨H2,I2,q2⟩=>?_)
 cases b with
 | true=>
  obtain ⟨N,hN,q2⟩:=q2
  rw [if_pos rfl]
  refine wpAny_passesOwn hp (zg (hb pins s2 σ1 H2 _ I2 q2) fun f s3 q3=>?_)
  cases f with
  | next=>
   obtain ⟨σ3,H3,I3,n3⟩:=q3
   obtain ⟨m',hm,w3⟩:=hN σ3 H3 n3
   exact ⟨m',hm,σ3,H3,I3,w3⟩
  | cont=>
   obtain ⟨σ3,H3,I3,n3⟩:=q3
   obtain ⟨m',hm,w3⟩:=hN σ3 H3 n3
   exact ⟨m',hm,σ3,H3,I3,w3⟩
  | brk=>exact q3
  | ret v=>exact q3
 | false=>
  rw [if_neg Bool.false_ne_true]
  exact wpAny_execs_nil ⟨σ1,H2,I2,q2⟩
end
structure It where
 go:Nat->Hp->Prop
 yld:Nat->Hp->V->Hp->Prop
 stop:Nat->Hp->Prop
noncomputable def vm (X:Cx) (pins:List (Addr×Obj)) (H:Hp) (b:Addr):Prop:=
 H b=none/\b≠X.env.locals/\b ∉ X.fs/\(b∈X.ex\/X.s₀.heap.objs.size<=b)/\(∀ x c,X.env.cells.lookup x=some c->c≠b)/\∀ p∈X.pn++pins,p.1≠b
theorem Inv.fpOk {X:Cx} {pins:List (Addr×Obj)} {σ:St} {H H':Hp} {s:Shared} {b:Addr} (I:Inv X pins σ H s) (hb:s.heap.objs.size<=b) (hn:H' b=none):vm X pins H' b:=by
 refine ⟨hn,Nat.ne_of_gt (Nat.lt_of_lt_of_le I.lt hb),I.nofs hb,.inr (Nat.le_trans I.sz hb),fun x c e z=>?_,fun p hp z=>?_⟩
 ·obtain ⟨v,q⟩:=I.cell x c e
  exact absurd (Nat.lt_of_lt_of_le q.lt (by rw [z]; exact hb)) (Nat.lt_irrefl _)
 ·exact absurd (Nat.lt_of_lt_of_le (Heap.lt_size (I.pin p hp).1) (by rw [z]; exact hb)) (Nat.lt_irrefl _)
structure uA (P:Program) (w:World) (K:PySem.W.Frag) (tg:Expr) (J:It) (fp:List Addr) (it:Addr) (tn:Nat->Heap->Prop):Prop where
 mem:it∈fp
 obj:∀ i h,tn i h->∀ b∈fp,∃ o,h.get? b=some o/\∀ v,o.data≠.cell v
 keep:∀ i h h',tn i h->(∀ b∈fp,∀ o,h.get? b=some o->h'.get? b=some o)->tn i h'
 item:∀ (X:Cx),X.prog=P->X.w=w->X.K=K->X.calm=true->∀ (i:Nat) (pins:List (Addr×Obj)) (s:Shared) (σ:St) (H:Hp) (E:Value->Shared->Prop),Inv X pins σ H s->(∀ b∈fp,vm X pins H b)->tn i s.heap->J.go i H->
  wpAny (model P w) X.A (pyNext (.ref it)) (fun r s1=>∃ u,r=some u/\
   wpAny (model P w) X.A (letOwnedTupleGo tg (.ref it) u) (fun _ s2=>∃ x H',Inv X pins σ H' s2/\zp x u/\J.yld i H x H'/\tn (i+1) s2.heap/\∀ b∈fp,H' b=none) E s1) E s
 done:∀ (X:Cx),X.prog=P->X.w=w->X.K=K->X.calm=true->∀ (i:Nat) (pins:List (Addr×Obj)) (s:Shared) (σ:St) (H:Hp) (E:Value->Shared->Prop),Inv X pins σ H s->(∀ b∈fp,vm X pins H b)->tn i s.heap->J.stop i H->
  wpAny (model P w) X.A (pyNext (.ref it)) (fun r s1=>r=none/\Inv X pins σ H s1) E s
 self:∀ (A:Around) (i:Nat) (s:Shared) (Q:Value->Shared->Prop) (E:Value->Shared->Prop),tn i s.heap->Q (.ref it) s->wpAny (model P w) A (pyIter (.ref it)) Q E s
noncomputable abbrev TI:=St->Hp->(It->Hp->Prop)->Prop
noncomputable def Xx (X:Cx) (pins:List (Addr×Obj)) (σ:St) (tg:Expr) (R:It->Hp->Prop) (itv:Value) (s2:Shared):Prop:=
 ∃ (it:Addr) (fp:List Addr) (tn:Nat->Heap->Prop) (J:It) (H':Hp),itv=.ref it/\Inv X pins σ H' s2/\uA X.prog X.w X.K tg J fp it tn/\tn 0 s2.heap/\(∀ b∈fp,vm X pins H' b)/\R J H'
noncomputable def PI (X:Cx) (tg iter:Expr) (wi:TI):Prop:=
 ∀ (pins:List (Addr×Obj)) (s:Shared) (σ:St) (H:Hp) (R:It->Hp->Prop),Inv X pins σ H s->wi σ H R->
  wpAny (model X.prog X.w) X.A (eval iter X.env) (fun v s1=>wpAny (model X.prog X.w) X.A (pyIter v) (Xx X pins σ tg R) X.xe s1) X.xe s
theorem jK {M:Model} {A:Around} {E:Value->Shared->Prop} {s:Shared} {tg:Expr} {it:Addr} {u:Value} {o:Obj} {n:String} {vs:Array Value} {Q:Unit->Shared->Prop} (ho:s.heap.get? it=some o) (hc:o.cls=.type n) (hd:o.data=.fields vs)
    (hn:["enumerate", "zip", "dict_itemiterator", "dict_reverseitemiterator", "odict_iterator", "itertools.zip_longest", "itertools.pairwise"].contains n=false) (hQ:Q () s):wpAny M A (letOwnedTupleGo tg (.ref it) u) Q E s:=by
  unfold letOwnedTupleGo
  cases tg<;>first
    | exact wpAny_pure hQ
    | (cases u<;>first
        | exact wpAny_pure hQ
        | (refine wpAny_bind (wpAny_load ho ?_)
           rw [hc,hd]
           show wpAny M A (if (["enumerate", "zip", "dict_itemiterator", "dict_reverseitemiterator", "odict_iterator", "itertools.zip_longest", "itertools.pairwise"].contains n&&vs[0]? == some (rawInt _))=true then _ else _) Q E s
           rw [if_neg (by intro h; rw [hn,Bool.false_and] at h; cases h)]
           exact wpAny_pure hQ))
noncomputable def Xs (K:PySem.W.Frag) (a:Addr):It:=
 ⟨fun i H=>∃ xs x,yO K H a xs/\xs[i]?=some x,fun i H x H'=>H'=H/\∀ xs,yO K H a xs->xs[i]?=some x,fun i H=>∃ xs,yO K H a xs/\xs.length<=i⟩
noncomputable def Xt (K:PySem.W.Frag) (a:Addr):It:=
 ⟨fun i H=>∃ xs x,yd K H a xs/\xs[i]?=some x,fun i H x H'=>H'=H/\∀ xs,yd K H a xs->xs[i]?=some x,fun i H=>∃ xs,yd K H a xs/\xs.length<=i⟩
noncomputable def gM (lo:Int) (n:Nat):It:=⟨fun i _=>i<n,fun i H x H'=>H'=H/\x=.int (lo+i),fun i _=>n<=i⟩
theorem HQ {P:Program} {w:World} {K:PySem.W.Frag} {tg:Expr} (a it:Addr):uA P w K tg (Xs K a) [it] it (fun i h=>h.IsListIter it a i) where
 mem:=by simp
 obj:=fun i h st b hb=>by
  have e:b=it:=by simpa using hb
  subst e
  obtain ⟨o,e,c,d⟩:=st
  exact ⟨o,e,fun v z=>by rw [d] at z; cases z⟩
 keep:=fun i h h' st k=>st.at fun o e=>k it (by simp) o e
 item:=by
  intro X hP hw hK hc i pins s σ H E I hf st hg
  subst hP hw hK
  obtain ⟨xs,x,hq,hx⟩:=hg
  obtain ⟨its,rv,p,hz⟩:=I.list hq
  obtain ⟨u,hu,ru⟩:=rv.get hx
  obtain ⟨f0,f1,f2,f3,f4,f5⟩:=hf it (by simp)
  refine wpAny_pyNext_list_item st p.isList (x:=u) (by simpa using hu) fun h' st' sb=>?_
  have I1:Inv X pins σ H { s with heap:=h' }:=I.turned (t':=s.toks) (fun b o hb e=>(sb.2 b hb).trans e) f0 f1 f3 f4 f5
  obtain ⟨o,e,c,d⟩:=id st'
  exact ⟨u,rfl,jK (s:={ s with heap:=h' }) e c d (by decide) ⟨x,H,I1,ru,⟨rfl,fun ys hy=>by rw [I.list_inj hy hq]; exact hx⟩,st',fun b hb=>(hf b hb).1⟩⟩
 done:=by
  intro X hP hw hK hc i pins s σ H E I hf st hg
  subst hP hw hK
  obtain ⟨xs,hq,hx⟩:=hg
  obtain ⟨its,rv,p,hz⟩:=I.list hq
  obtain ⟨f0,f1,f2,f3,f4,f5⟩:=hf it (by simp)
  have hl:=rv.length
  exact wpAny_pyNext_list_end (I.ok.hd hc) st p.isList (by simp; omega) fun h' eb=>⟨rfl,I.turned (t':=s.toks) (fun b o hb e=>eb b o hb e) f0 f1 f3 f4 f5⟩
 self:=fun _ _ _ _ _ st h=>wpAny_pyIter_listiter st h
theorem HU {P:Program} {w:World} {K:PySem.W.Frag} {tg:Expr} (a it:Addr):uA P w K tg (Xt K a) [it] it (fun i h=>h.IsTupleIter it a i) where
 mem:=by simp
 obj:=fun i h st b hb=>by
  have e:b=it:=by simpa using hb
  subst e
  obtain ⟨o,e,c,d⟩:=st
  exact ⟨o,e,fun v z=>by rw [d] at z; cases z⟩
 keep:=fun i h h' st k=>st.at fun o e=>k it (by simp) o e
 item:=by
  intro X hP hw hK hc i pins s σ H E I hf st hg
  subst hP hw hK
  obtain ⟨xs,x,hq,hx⟩:=hg
  obtain ⟨its,rv,p,hz⟩:=I.tuple hq
  obtain ⟨u,hu,ru⟩:=rv.get hx
  obtain ⟨f0,f1,f2,f3,f4,f5⟩:=hf it (by simp)
  refine wpAny_pyNext_tuple_item st (show s.heap.IsTuple a its.toArray from p) (x:=u) (by simpa using hu) fun h' st' sb=>?_
  have I1:Inv X pins σ H { s with heap:=h' }:=I.turned (t':=s.toks) (fun b o hb e=>(sb.2 b hb).trans e) f0 f1 f3 f4 f5
  obtain ⟨o,e,c,d⟩:=id st'
  exact ⟨u,rfl,jK (s:={ s with heap:=h' }) e c d (by decide) ⟨x,H,I1,ru,⟨rfl,fun ys hy=>by rw [I.tuple_inj hy hq]; exact hx⟩,st',fun b hb=>(hf b hb).1⟩⟩
 done:=by
  intro X hP hw hK hc i pins s σ H E I hf st hg
  subst hP hw hK
  obtain ⟨xs,hq,hx⟩:=hg
  obtain ⟨its,rv,p,hz⟩:=I.tuple hq
  obtain ⟨f0,f1,f2,f3,f4,f5⟩:=hf it (by simp)
  have hl:=rv.length
  exact wpAny_pyNext_tuple_end (I.ok.hd hc) st (show s.heap.IsTuple a its.toArray from p) (by simp; omega) fun h' eb=>⟨rfl,I.turned (t':=s.toks) (fun b o hb e=>eb b o hb e) f0 f1 f3 f4 f5⟩
 self:=fun _ _ _ _ _ st h=>wpAny_pyIter_tupleiter st h
theorem HR {P:Program} {w:World} {K:PySem.W.Frag} {tg:Expr} (it:Addr) (lo:Int) (n:Nat):uA P w K tg (gM lo n) [it] it (fun i h=>IsRangeIter h it (lo+(i:Nat)*1) ((n:Int) - (i:Nat)) 1) where
 mem:=by simp
 obj:=fun i h st b hb=>by
  have e:b=it:=by simpa using hb
  subst e
  exact ⟨_,st,fun v z=>by
   have z':Data.fields _=Data.cell v:=z
   cases z'⟩
 keep:=fun i h h' st k=>k it (by simp) _ st
 item:=by
  intro X hP hw hK hc i pins s σ H E I hf st hg
  subst hP hw hK
  obtain ⟨f0,f1,f2,f3,f4,f5⟩:=hf it (by simp)
  have W:=Walks.range (prog:=X.prog) (w:=X.w) (I.ok.hd hc) it lo 1 n
  refine W.item i s _ _ hg st fun v h' tk hv st' kk=>?_
  obtain ⟨t,rfl⟩:=hv
  have I1:Inv X pins σ H { s with heap:=h',toks:=tk }:=I.turned (fun b o hb e=>kk b o (by simpa using hb) e) f0 f1 f3 f4 f5
  refine ⟨_,rfl,jK (s:={ s with heap:=h',toks:=tk }) (n := "range_iterator") st' rfl rfl (by decide) ⟨.int (lo+i),H,I1,⟨t,?_⟩,⟨rfl,rfl⟩,st',fun b hb=>(hf b hb).1⟩⟩
  rw [Int.mul_one]
 done:=by
  intro X hP hw hK hc i pins s σ H E I hf st hg
  subst hP hw hK
  obtain ⟨f0,f1,f2,f3,f4,f5⟩:=hf it (by simp)
  exact wpAny_pyNext_range_end (I.ok.hd hc) st (by have:n<=i:=hg; omega) fun h' eb=>⟨rfl,I.turned (t':=s.toks) (fun b o hb e=>eb b o hb e) f0 f1 f3 f4 f5⟩
 self:=fun _ _ _ _ _ st h=>wpAny_pyIter_rangeiter st h
end L2
namespace L2
open PySem PySem.Spec PyProof.Rows
section
variable {X:Cx} {tg:Expr}
noncomputable def Mi (K:PySem.W.Frag) (tl:TE):TI:=fun σ H R=>tl σ H fun x H1=>∃ a,x=.ref a/\(∃ xs,yO K H1 a xs)/\R (Xs K a) H1
noncomputable def Mm (K:PySem.W.Frag) (tl:TE):TI:=fun σ H R=>tl σ H fun x H1=>∃ a,x=.ref a/\(∃ xs,yd K H1 a xs)/\R (Xt K a) H1
theorem C4 {l:Expr} {tl:TE} (hl:PE X l tl):PI X tg l (Mi X.K tl):=by
 intro pins s σ H R I h
 refine zg (hl pins s σ H _ I h) fun v s1 ⟨x,H1,I1,r1,q1⟩=>?_
 obtain ⟨a,e,⟨xs,hq⟩,q⟩:=q1
 subst e
 cases r1
 obtain ⟨its,rv,p,hz⟩:=I1.list hq
 refine wpAny_pyIter_list p.isList ?_
 refine ⟨s1.heap.objs.size,[s1.heap.objs.size],_,_,H1,rfl,I1.kept (t':=s1.toks) fun b o e=>Heap.get?_push_of_some _ e,HQ a _,⟨_,Heap.get?_push_size _ rfl,rfl,rfl⟩,fun b hb=>?_,q⟩
 have e:b=s1.heap.objs.size:=by simpa using hb
 subst e
 exact I1.fpOk (Nat.le_refl _) (I1.hok.fresh (Nat.le_refl _))
theorem C8 {l:Expr} {tl:TE} (hl:PE X l tl):PI X tg l (Mm X.K tl):=by
 intro pins s σ H R I h
 refine zg (hl pins s σ H _ I h) fun v s1 ⟨x,H1,I1,r1,q1⟩=>?_
 obtain ⟨a,e,⟨xs,hq⟩,q⟩:=q1
 subst e
 cases r1
 obtain ⟨its,rv,p,hz⟩:=I1.tuple hq
 refine wpAny_pyIter_tuple (show s1.heap.IsTuple a its.toArray from p) ?_
 refine ⟨s1.heap.objs.size,[s1.heap.objs.size],_,_,H1,rfl,I1.kept (t':=s1.toks) fun b o e=>Heap.get?_push_of_some _ e,HU a _,⟨_,Heap.get?_push_size _ rfl,rfl,rfl⟩,fun b hb=>?_,q⟩
 have e:b=s1.heap.objs.size:=by simpa using hb
 subst e
 exact I1.fpOk (Nat.le_refl _) (I1.hok.fresh (Nat.le_refl _))
theorem IC {pins:List (Addr×Obj)} {σ:St} {H:Hp} {s:Shared} {R:It->Hp->Prop} {E:Value->Shared->Prop} {lo hi:Int} {t u v:Tok} {tk:Nat} (I:Inv X pins σ H s) (h1 : -(2 ^ 62)<=lo) (h2:lo<2 ^ 62) (h3 : -(2 ^ 62)<=hi) (h4:hi<2 ^ 62)
  (q:R (gM lo (hi - lo).toNat) H):wpAny (model X.prog X.w) X.A (pyIter (.ref s.heap.objs.size)) (Xx X pins σ tg R) E { s with heap:=s.heap.push { cls:=.type "range",data:=.fields #[.int lo t,.int hi u,.int 1 v] },toks:=tk }:=by
 refine wpAny_pyIter_range (IsRange.new ..) (small_one h1 h2 h3 h4) ?_
 have I1:Inv X pins σ H { s with heap:=s.heap.push { cls:=.type "range",data:=.fields #[.int lo t,.int hi u,.int 1 v] },toks:=tk }:=I.kept fun b o e=>Heap.get?_push_of_some _ e
 refine ⟨(s.heap.push { cls:=.type "range",data:=.fields #[.int lo t,.int hi u,.int 1 v] }).objs.size,[(s.heap.push { cls:=.type "range",data:=.fields #[.int lo t,.int hi u,.int 1 v] }).objs.size],_,_,H,rfl,
  I1.kept (t':=tk) fun b o e=>Heap.get?_push_of_some _ e,HR _ lo (hi - lo).toNat,?_,fun b hb=>?_,q⟩
 ·have e1:lo+((0:Nat):Int)*1=lo:=by simp
  have e2:(((hi - lo).toNat:Nat):Int) - ((0:Nat):Int)=Builtin.Range.rangeSize lo hi 1:=by rw [rangeSize_one]; split<;>omega
  show IsRangeIter _ _ (lo+((0:Nat):Int)*1) ((((hi - lo).toNat:Nat):Int) - ((0:Nat):Int)) 1
  rw [e1,e2]
  exact Heap.get?_push_size _ rfl
 ·have e:b=(s.heap.push { cls:=.type "range",data:=.fields #[.int lo t,.int hi u,.int 1 v] }).objs.size:=by simpa using hb
  subst e
  exact I1.fpOk (Nat.le_refl _) (I1.hok.fresh (Nat.le_refl _))
noncomputable def Mj (ta:TA):TI:=fun σ H R=>ta σ H fun vs H1=>∃ j:Int,vs=[.int j] /\ -(2 ^ 62)<=j/\j<2 ^ 62/\R (gM 0 j.toNat) H1
noncomputable def Mk (ta:TA):TI:=fun σ H R=>ta σ H fun vs H1=>∃ i j:Int,vs=[.int i,.int j]/\(-(2 ^ 62)<=i/\i<2 ^ 62 /\ -(2 ^ 62)<=j/\j<2 ^ 62)/\R (gM i (j - i).toNat) H1
theorem C5 {a:Expr} {ta:TA} {p pos:Pos} (hg:Gl X "range") (hm:X.mg "range" = none) (ha:PA X [a] ta) (hs:starEach [a] X.env=[(false,eval a X.env)]:=by rfl):PI X tg (.Call (.Name "range" p) [a] [] pos) (Mj ta):=by
 intro pins s σ H R I h
 refine Call_ (qN I hg hm boot_range (PyProof.Rows.callWith_type1 (zg (ha pos pins s σ H _ I h) fun us s1 ⟨vs,H1,I1,r1,q1⟩=>?_) hs rfl))
 obtain ⟨j,e,q1,q2,q⟩:=q1
 subst e
 cases r1 with
 | cons r rr=>
  cases rr
  obtain ⟨t,rfl⟩:=r
  exact call_range_1 (IC I1 (by omega) (by omega) q1 q2 (by simpa using q))
theorem C6 {a b:Expr} {ta:TA} {p pos:Pos} (hg:Gl X "range") (hm:X.mg "range" = none) (ha:PA X [a,b] ta) (hs:starEach [a,b] X.env=[(false,eval a X.env),(false,eval b X.env)]:=by rfl) (hs2:starEach [b] X.env=[(false,eval b X.env)]:=by rfl) :
  PI X tg (.Call (.Name "range" p) [a,b] [] pos) (Mk ta):=by
 intro pins s σ H R I h
 refine Call_ (qN I hg hm boot_range (PyProof.Rows.callWith_type1 (zg (ha pos pins s σ H _ I h) fun us s1 ⟨vs,H1,I1,r1,q1⟩=>?_) (by rw [hs,hs2]) (by rw [hs2]; rfl)))
 obtain ⟨i,j,e,⟨q1,q2,q3,q4⟩,q⟩:=q1
 subst e
 cases r1 with
 | cons r rr=>
  cases rr with
  | cons r' rr=>
   cases rr
   obtain ⟨t,rfl⟩:=r
   obtain ⟨t',rfl⟩:=r'
   exact call_range_2 (IC I1 q1 q2 q3 q4 q)
noncomputable def Ge (wi:TI) (g:TG) (tb:TS):TS:=fun D σ H=>wi σ H fun J H1=>∃ W:Nat->Nat->St->Hp->Prop,(∃ m,W 0 m σ H1)/\∀ i m σ H,W i m σ H->
 (J.stop i H/\D.nx σ H)\/(J.go i H/\∃ N:St->Hp->Prop,(∀ σ' H',N σ' H'->∃ m',m'<m/\W (i+1) m' σ' H')/\∀ x H',J.yld i H x H'->g x σ H' fun σ2 H2=>tb { D with nx:=N,ct:=N,bk:=D.nx } σ2 H2)
noncomputable def kJ (fp:List Addr) (h:Heap):List (Addr×Obj):=fp.filterMap fun b=>(h.get? b).map fun o=>(b,o)
theorem Y9 {fp:List Addr} {h:Heap} {b:Addr} {o:Obj} (hb:b∈fp) (e:h.get? b=some o):(b,o)∈kJ fp h:=List.mem_filterMap.mpr ⟨b,hb,by rw [e]; rfl⟩
theorem D9 {fp:List Addr} {h:Heap} {p:Addr×Obj} (hp:p∈kJ fp h):p.1∈fp/\h.get? p.1=some p.2:=by
 obtain ⟨b,hb,e⟩:=List.mem_filterMap.mp hp
 cases q:h.get? b with
 | none=>rw [q] at e; cases e
 | some o=>
  rw [q] at e
  have e':(b,o)=p:=Option.some.inj e
  subst e'
  exact ⟨hb,q⟩
theorem Inv.pinned {pins:List (Addr×Obj)} {σ:St} {H:Hp} {s:Shared} {fp:List Addr} (I:Inv X pins σ H s) (hf:∀ b∈fp,vm X pins H b) (ho:∀ b∈fp,∃ o,s.heap.get? b=some o/\∀ v,o.data≠.cell v):Inv X (pins++kJ fp s.heap) σ H s:=
 I.pins_of fun p hp=>(List.mem_append.mp hp).elim (fun z=>I.pin p (List.mem_append_right _ z)) fun z=>by
  obtain ⟨hb,e⟩:=D9 z
  obtain ⟨f0,f1,f2,_⟩:=hf p.1 hb
  obtain ⟨o,e',d⟩:=ho p.1 hb
  rw [e] at e'; cases e'
  exact ⟨e,f0,f1,f2,d⟩
theorem Inv.unpinned {pins pl:List (Addr×Obj)} {σ:St} {H:Hp} {s:Shared} (I:Inv X (pins++pl) σ H s):Inv X pins σ H s:=I.pins_of fun p hp=>I.pin p (List.mem_append_right _ (List.mem_append_left _ hp))
theorem Jb {iter:Expr} {body:List Stmt} {wi:TI} {g:TG} {tb:TS} {pos:Pos} (hp:PassesOwn (model X.prog X.w) X.A X.env X.xe) (hc:X.calm=true) (hi:PI X tg iter wi) (hg:PG X tg g) (hb:wW X body tb)
  (hs:∀ x,foldedSetIterable iter X.env x=pure x:=by intro _; rfl):PS X (.For tg iter body [] pos) (Ge wi g tb):=by
 intro pins s σ H D I h
 refine wpAny_For (zg (hi pins s σ H _ I h) fun v s1 h1=>zg h1 fun itv s2 h2=>?_) hs
 obtain ⟨it,fp,tn,J,H2,e,I2,T,st2,f2,W,⟨m0,w0⟩,turn⟩:=h2
 subst e
 have stat:∀ {H':Hp},(∀ b∈fp,H' b=none)->∀ b∈fp,vm X pins H' b:=fun hn b hb=>⟨hn b hb,(f2 b hb).2⟩
 refine codeAny_forLoop_any (fun n s'=>∃ i σ' H',Inv X pins σ' H' s'/\tn i s'.heap/\(∀ b∈fp,H' b=none)/\W i n σ' H') ?_ m0 ⟨0,σ,H2,I2,st2,fun b hb=>(f2 b hb).1,w0⟩
 rintro n s3 ⟨i,σ3,H3,I3,st3,fr3,w3⟩
 rcases turn i n σ3 H3 w3 with ⟨stop,qn⟩ | ⟨go,N,hN,step⟩
 ·refine wpAny_passesOwn hp (zg (T.done X rfl rfl rfl hc i pins s3 σ3 H3 X.xe I3 (stat fr3) st3 stop) fun r s4 ⟨hr,I4⟩=>?_)
  subst hr
  exact wpAny_execs_nil ⟨σ3,H3,I4,qn⟩
 ·refine wpAny_passesOwn hp (zg (T.item X rfl rfl rfl hc i pins s3 σ3 H3 X.xe I3 (stat fr3) st3 go) fun r s4 ⟨u,hr,h4⟩=>?_)
  subst hr
  refine wpAny_passesOwn hp (zg h4 fun _ s5 ⟨x,H5,I5,r5,y5,st5,fr5⟩=>?_)
  have I5':=I5.pinned (stat fr5) (T.obj _ _ st5)
  refine wpAny_passesOwn hp (zg (hg _ s5 σ3 H5 x u _ I5' r5 (step x H5 y5)) fun _ s6 ⟨σ6,H6,I6,q6⟩=>?_)
  refine wpAny_passesOwn hp (zg (hb _ s6 σ6 H6 _ I6 q6) fun f s7 q7=>?_)
  have again:∀ {σ7:St} {H7:Hp},Inv X (pins++kJ fp s5.heap) σ7 H7 s7->N σ7 H7->∃ m,m<n/\∃ i σ' H',Inv X pins σ' H' s7/\tn i s7.heap/\(∀ b∈fp,H' b=none)/\W i m σ' H':=fun {σ7 H7} I7 n7=>by
   obtain ⟨m',hm,w7⟩:=hN σ7 H7 n7
   refine ⟨m',hm,i+1,σ7,H7,I7.unpinned,T.keep _ _ _ st5 fun b hb o e=>(I7.pin (b,o) (List.mem_append_right _ (List.mem_append_right _ (Y9 hb e)))).1,fun b hb=>?_,w7⟩
   obtain ⟨o,e,d⟩:=T.obj _ _ st5 b hb
   exact (I7.pin (b,o) (List.mem_append_right _ (List.mem_append_right _ (Y9 hb e)))).2.1
  cases f with
  | next=>obtain ⟨σ7,H7,I7,n7⟩:=q7; exact again I7 n7
  | cont=>obtain ⟨σ7,H7,I7,n7⟩:=q7; exact again I7 n7
  | brk=>obtain ⟨σ7,H7,I7,q7⟩:=q7; exact ⟨σ7,H7,I7.unpinned,q7⟩
  | ret v=>obtain ⟨x7,σ7,H7,I7,r7,q7⟩:=q7; exact ⟨x7,σ7,H7,I7.unpinned,r7,q7⟩
end
end L2
namespace L2
open PySem PySem.Spec PyProof.Rows
noncomputable abbrev R2:=V->V->Hp->VK->Prop
noncomputable def yP (X:Cx) (f:Value->Value->Sem Value) (r:R2):Prop:=
 ∀ (pins:List (Addr×Obj)) (s:Shared) (σ:St) (H:Hp) (x y:V) (v u:Value) (Q:VK),Inv X pins σ H s->zp x v->zp y u->r x y H Q->
  wpAny (model X.prog X.w) X.A (f v u) (EP X pins σ Q) X.xe s
noncomputable def gR (X:Cx) (f:Value->Sem Value) (r:V->Hp->VK->Prop):Prop:=
 ∀ (pins:List (Addr×Obj)) (s:Shared) (σ:St) (H:Hp) (x:V) (v:Value) (Q:VK),Inv X pins σ H s->zp x v->r x H Q->
  wpAny (model X.prog X.w) X.A (f v) (EP X pins σ Q) X.xe s
noncomputable def xT (X:Cx) (f:Value) (r:List V->Hp->VK->Prop):Prop:=
 ∀ (pins:List (Addr×Obj)) (s:Shared) (σ:St) (H:Hp) (xs:List V) (us:List Value) (Q:VK),Inv X pins σ H s->zi xs us->r xs H Q->
  wpAny (model X.prog X.w) X.A (call f us) (EP X pins σ Q) X.xe s
noncomputable def Ya (r:R2) (ta tb:TE):TE:=fun σ H Q=>ta σ H fun x H1=>tb σ H1 fun y H2=>r x y H2 Q
noncomputable def G_ (r:V->Hp->VK->Prop) (ta:TE):TE:=fun σ H Q=>ta σ H fun x H1=>r x H1 Q
noncomputable def rI (C:Int->Int->Prop) (g:Int->Int->V):R2:=fun x y H Q=>∃ i j,x=.int i/\y=.int j/\C i j/\Q (g i j) H
noncomputable def vL (g:Int->Int->V):R2:=fun x y H Q=>∃ i j,x=.int i/\y=.int j/\Q (g i j) H
noncomputable def rU (g:Int->V):V->Hp->VK->Prop:=fun x H Q=>∃ i,x=.int i/\Q (g i) H
section
variable {X:Cx} {a b c:Expr} {ta tb tc:TE} {pos:Pos}
theorem WR (ha:PE X a ta) (hb:PE X b tb) {pins:List (Addr×Obj)} {s:Shared} {σ:St} {H:Hp} {R:V->V->Hp->Prop} (I:Inv X pins σ H s)
  (h:ta σ H fun x H1=>tb σ H1 fun y H2=>R x y H2) {Q:Value->Shared->Prop} {f:Value->Value->Sem Value}
  (hf:∀ v u s2 x y H2,Inv X pins σ H2 s2->zp x v->zp y u->R x y H2->wpAny (model X.prog X.w) X.A (f v u) Q X.xe s2) :
  wpAny (model X.prog X.w) X.A (eval a X.env) (fun v s₁=>wpAny (model X.prog X.w) X.A (eval b X.env) (fun u s₂=>wpAny (model X.prog X.w) X.A (f v u) Q X.xe s₂) X.xe s₁) X.xe s:=by
 refine zg (ha pins s σ H _ I h) fun v s1 ⟨x,H1,I1,r1,q1⟩=>?_
 refine zg (hb pins s1 σ H1 _ I1 q1) fun u s2 ⟨y,H2,I2,r2,q2⟩=>?_
 exact hf v u s2 x y H2 I2 r1 r2 q2
theorem JR {op:Operator} {r:R2} (ho:yP X (binaryOp op) r) (ha:PE X a ta) (hb:PE X b tb):PE X (.BinOp a op b pos) (Ya r ta tb):=by
 intro pins s σ H Q I h
 exact wpAny_BinOp (WR ha hb I h fun v u s2 x y H2 I2 rx ry q=>ho pins s2 σ H2 x y v u Q I2 rx ry q)
theorem Ft {op:UnaryOp} {r:V->Hp->VK->Prop} (ho:gR X (unaryOp op) r) (ha:PE X a ta):PE X (.UnaryOp op a pos) (G_ r ta):=by
 intro pins s σ H Q I h
 exact UnaryOp_ (zg (ha pins s σ H _ I h) fun v s1 ⟨x,H1,I1,r1,q1⟩=>ho pins s1 σ H1 x v Q I1 r1 q1)
theorem jY {f:Value->Value->Sem Value} {C:Int->Int->Prop} {g:Int->Int->Int}
  (rule:∀ (i j:Int) (t u:Tok) (s:Shared) (Q:Value->Shared->Prop) (E:Value->Shared->Prop),C i j->Q (.int (g i j) s.toks) { s with toks:=s.toks+1 }->wpAny (model X.prog X.w) X.A (f (.int i t) (.int j u)) Q E s) :
  yP X f (rI C fun i j=>.int (g i j)):=by
 intro pins s σ H x y v u Q I rx ry h
 obtain ⟨i,j,rfl,rfl,hc,q⟩:=h
 obtain ⟨t,rfl⟩:=rx
 obtain ⟨t',rfl⟩:=ry
 exact rule i j t t' s _ _ hc ⟨.int (g i j),H,I.tok _,⟨_,rfl⟩,q⟩
theorem YF {f:Value->Value->Sem Value} {g:Int->Int->Int}
  (rule:∀ (i j:Int) (t u:Tok) (s:Shared) (Q:Value->Shared->Prop) (E:Value->Shared->Prop),Q (.int (g i j) s.toks) { s with toks:=s.toks+1 }->wpAny (model X.prog X.w) X.A (f (.int i t) (.int j u)) Q E s) :
  yP X f (vL fun i j=>.int (g i j)):=by
 intro pins s σ H x y v u Q I rx ry h
 obtain ⟨i,j,rfl,rfl,q⟩:=h
 obtain ⟨t,rfl⟩:=rx
 obtain ⟨t',rfl⟩:=ry
 exact rule i j t t' s _ _ ⟨.int (g i j),H,I.tok _,⟨_,rfl⟩,q⟩
theorem YE {f:Value->Value->Sem Value} {g:Int->Int->Bool}
  (rule:∀ (i j:Int) (t u:Tok) (s:Shared) (Q:Value->Shared->Prop) (E:Value->Shared->Prop),Q (.bool (g i j)) s->wpAny (model X.prog X.w) X.A (f (.int i t) (.int j u)) Q E s) :
  yP X f (vL fun i j=>.bl (g i j)):=by
 intro pins s σ H x y v u Q I rx ry h
 obtain ⟨i,j,rfl,rfl,q⟩:=h
 obtain ⟨t,rfl⟩:=rx
 obtain ⟨t',rfl⟩:=ry
 exact rule i j t t' s _ _ ⟨.bl (g i j),H,I,rfl,q⟩
noncomputable def g6 (i j:Int):Prop:=0<=j/\j<=1000000/\i.natAbs<2 ^ 64
noncomputable def j_ (i j:Int):Prop:=(-(2 ^ 64)<i/\i<2 ^ 64)\/(-(2 ^ 64)<j/\j<2 ^ 64)
theorem j_.ok {i j:Int} (h:j_ i j):IntMulOk i j:=by
 rcases h with ⟨h1,h2⟩ | ⟨h1,h2⟩
 ·exact .of_left (intBits_le_64 h1 h2)
 ·exact .of_right (intBits_le_64 h1 h2)
theorem HW (k:Nat):(0:Int)<=2 ^ k:=by
 rw [two_pow_cast]
 exact Int.natCast_nonneg _
theorem F6:yP X (binaryOp .Add) (vL fun i j=>.int (i+j)):=YF fun _ _ _ _ _ _ _ q=>add_int q
theorem wb:yP X (binaryOp .Sub) (vL fun i j=>.int (i - j)):=YF fun _ _ _ _ _ _ _ q=>sub_int q
theorem tO:yP X (binaryOp .Mult) (rI j_ fun i j=>.int (i*j)):=jY fun _ _ _ _ _ _ _ hc q=>mul_int q hc.ok
theorem yV:yP X (binaryOp .Mod) (rI (fun _ j=>0<j) fun i j=>.int (i % j)):=jY fun i j _ _ _ _ _ hc q=>by
 have h1:(0:Int)<j:=hc
 exact mod_int' (by omega) (by rw [Int.fmod_eq_emod_of_nonneg i (by omega)]; exact q)
theorem vz:yP X (binaryOp .Pow) (rI g6 fun i j=>.int (i ^ j.toNat)):=jY fun _ _ _ _ _ _ _ hc q=>pow_int_small hc.1 hc.2.1 hc.2.2 q
theorem kF:yP X (binaryOp .LShift) (rI g6 fun i j=>.int (i*2 ^ j.toNat)):=jY fun _ _ _ _ _ _ _ hc q=>lshift_int_small hc.1 hc.2.1 hc.2.2 q
theorem FU:yP X (binaryOp .RShift) (rI (fun _ j=>0<=j) fun i j=>.int (i / 2 ^ j.toNat)):=jY fun i j _ _ _ _ _ hc q=>
 rshift_int hc (by rw [Int.fdiv_eq_ediv_of_nonneg i (HW _)]; exact q)
theorem JF:yP X (binaryOp .BitAnd) (vL fun i j=>.int (Builtin.bitAnd i j)):=YF fun _ _ _ _ _ _ _ q=>and_int q
theorem FQ:yP X (binaryOp .BitOr) (vL fun i j=>.int (Builtin.bitOr i j)):=YF fun _ _ _ _ _ _ _ q=>or_int q
theorem OC {f:Value->Sem Value} {g:Int->Int}
  (rule:∀ (i:Int) (t:Tok) (s:Shared) (Q:Value->Shared->Prop) (E:Value->Shared->Prop),Q (.int (g i) s.toks) { s with toks:=s.toks+1 }->wpAny (model X.prog X.w) X.A (f (.int i t)) Q E s) :
  gR X f (rU fun i=>.int (g i)):=by
 intro pins s σ H x v Q I rx h
 obtain ⟨i,rfl,q⟩:=h
 obtain ⟨t,rfl⟩:=rx
 exact rule i t s _ _ ⟨.int (g i),H,I.tok _,⟨_,rfl⟩,q⟩
theorem vh:gR X (unaryOp .USub) (rU fun i=>.int (-i)):=OC fun _ _ _ _ _ q=>neg_int q
theorem He:gR X (unaryOp .Invert) (rU fun i=>.int (Builtin.bitNot i)):=OC fun _ _ _ _ _ q=>invert_int q
theorem F7:yP X (binaryOp .Add) (fun x y H Q=>∃ i k,x=.int i/\y=.bl k/\Q (.int (i+b2i k)) H):=by
 intro pins s σ H x y v u Q I rx ry h
 obtain ⟨i,k,rfl,rfl,q⟩:=h
 obtain ⟨t,rfl⟩:=rx
 cases ry
 exact add_int_bool ⟨.int (i+b2i k),H,I.tok _,⟨_,rfl⟩,q⟩
end
noncomputable def Uc:V->V->Bool
 | .non,.non=>true | .non,.int _=>true | .int _,.non=>true | .non,.bl _=>true | .bl _,.non=>true | .non,.str _=>true | .str _,.non=>true
 | .int _,.int _=>true | .bl _,.bl _=>true | .str _,.str _=>true | .byt _,.byt _=>true
 | .int _,.str _=>true | .str _,.int _=>true | .bl _,.str _=>true | .str _,.bl _=>true
 | _,_=>false
noncomputable def E1:R2:=fun x y H Q=>Uc x y=true/\Q (.bl (decide (x=y))) H
noncomputable def E7:R2:=fun x y H Q=>Uc x y=true/\Q (.bl (!decide (x=y))) H
theorem Wb {i j:Int}:decide (V.int i=V.int j)=(i == j):=by
 rw [Bool.eq_iff_iff]
 simp
theorem Wa {i j:Bool}:decide (V.bl i=V.bl j)=(i == j):=by
 rw [Bool.eq_iff_iff]
 simp
theorem Wc {i j:Str}:decide (V.str i=V.str j)=(i == j):=by
 rw [Bool.eq_iff_iff]
 simp
theorem To {i j:Array UInt8}:decide (V.byt i=V.byt j)=(i.toList == j.toList):=by
 rw [Bool.eq_iff_iff]
 cases i
 cases j
 simp
section
variable {X:Cx} {a b c:Expr} {ta tb tc:TE} {pos:Pos}
theorem yu {pins:List (Addr×Obj)} {σ:St} {H:Hp} {s:Shared} {Q:VK} {k k':Bool} (I:Inv X pins σ H s) (q:Q (.bl k) H) (e:k=k'):EP X pins σ Q (.bool k') s:=by
 subst e
 exact ⟨.bl k,H,I,rfl,q⟩
theorem FB:yP X (compareOp .Eq) E1:=by
 intro pins s σ H x y v u Q I rx ry h
 obtain ⟨hs,q⟩:=h
 cases x with
 | non=>
  cases rx
  cases y with
  | non=>cases ry; exact PySem.EqNone.eq_none_none (yu I q (by simp))
  | bl j=>cases ry; exact PySem.EqNone.eq_none_bool (yu I q (by simp))
  | int j=>obtain ⟨t',rfl⟩:=ry; exact PySem.EqNone.eq_none_int (yu I q (by simp))
  | str j=>obtain ⟨t',rfl⟩:=ry; exact PySem.EqNone.eq_none_str (yu I q (by simp))
  | _=>exact absurd (show false=true from hs) Bool.false_ne_true
 | bl i=>
  cases rx
  cases y with
  | non=>cases ry; exact PySem.EqNone.eq_bool_none (yu I q (by simp))
  | bl j=>cases ry; exact eq_bool (yu I q Wa)
  | str j=>obtain ⟨t',rfl⟩:=ry; exact PySem.EqMixed.eq_bool_str (yu I q (by simp))
  | _=>exact absurd (show false=true from hs) Bool.false_ne_true
 | int i=>
  obtain ⟨t,rfl⟩:=rx
  cases y with
  | non=>cases ry; exact PySem.EqNone.eq_int_none (yu I q (by simp))
  | int j=>obtain ⟨t',rfl⟩:=ry; exact eq_int (yu I q Wb)
  | str j=>obtain ⟨t',rfl⟩:=ry; exact PySem.EqMixed.eq_int_str (yu I q (by simp))
  | _=>exact absurd (show false=true from hs) Bool.false_ne_true
 | str i=>
  obtain ⟨t,rfl⟩:=rx
  cases y with
  | non=>cases ry; exact PySem.EqNone.eq_str_none (yu I q (by simp))
  | bl j=>cases ry; exact PySem.EqMixed.eq_str_bool (yu I q (by simp))
  | int j=>obtain ⟨t',rfl⟩:=ry; exact PySem.EqMixed.eq_str_int (yu I q (by simp))
  | str j=>obtain ⟨t',rfl⟩:=ry; exact eq_str (yu I q Wc)
  | _=>exact absurd (show false=true from hs) Bool.false_ne_true
 | byt i=>
  obtain ⟨t,rfl⟩:=rx
  cases y with
  | byt j=>obtain ⟨t',rfl⟩:=ry; exact PySem.W.eq_bytes (yu I q To)
  | _=>exact absurd (show false=true from hs) Bool.false_ne_true
 | _=>cases y<;>exact absurd (show false=true from hs) Bool.false_ne_true
theorem FK:yP X (compareOp .NotEq) E7:=by
 intro pins s σ H x y v u Q I rx ry h
 obtain ⟨hs,q⟩:=h
 cases x with
 | non=>
  cases rx
  cases y with
  | non=>cases ry; exact PySem.EqNone.ne_none_none (yu I q (by simp))
  | bl j=>cases ry; exact PySem.EqNone.ne_none_bool (yu I q (by simp))
  | int j=>obtain ⟨t',rfl⟩:=ry; exact PySem.EqNone.ne_none_int (yu I q (by simp))
  | str j=>obtain ⟨t',rfl⟩:=ry; exact PySem.EqNone.ne_none_str (yu I q (by simp))
  | _=>exact absurd (show false=true from hs) Bool.false_ne_true
 | bl i=>
  cases rx
  cases y with
  | non=>cases ry; exact PySem.EqNone.ne_bool_none (yu I q (by simp))
  | bl j=>cases ry; exact ne_bool (yu I q (congrArg not Wa))
  | str j=>obtain ⟨t',rfl⟩:=ry; exact PySem.EqMixed.ne_bool_str (yu I q (by simp))
  | _=>exact absurd (show false=true from hs) Bool.false_ne_true
 | int i=>
  obtain ⟨t,rfl⟩:=rx
  cases y with
  | non=>cases ry; exact PySem.EqNone.ne_int_none (yu I q (by simp))
  | int j=>obtain ⟨t',rfl⟩:=ry; exact ne_int (yu I q (congrArg not Wb))
  | str j=>obtain ⟨t',rfl⟩:=ry; exact PySem.EqMixed.ne_int_str (yu I q (by simp))
  | _=>exact absurd (show false=true from hs) Bool.false_ne_true
 | str i=>
  obtain ⟨t,rfl⟩:=rx
  cases y with
  | non=>cases ry; exact PySem.EqNone.ne_str_none (yu I q (by simp))
  | bl j=>cases ry; exact PySem.EqMixed.ne_str_bool (yu I q (by simp))
  | int j=>obtain ⟨t',rfl⟩:=ry; exact PySem.EqMixed.ne_str_int (yu I q (by simp))
  | str j=>obtain ⟨t',rfl⟩:=ry; exact ne_str (yu I q (congrArg not Wc))
  | _=>exact absurd (show false=true from hs) Bool.false_ne_true
 | byt i=>
  obtain ⟨t,rfl⟩:=rx
  cases y with
  | byt j=>obtain ⟨t',rfl⟩:=ry; exact PySem.W.ne_bytes (yu I q (congrArg not To))
  | _=>exact absurd (show false=true from hs) Bool.false_ne_true
 | _=>cases y<;>exact absurd (show false=true from hs) Bool.false_ne_true
theorem wZ:yP X (compareOp .Lt) (vL fun i j=>.bl (decide (i<j))):=YE fun _ _ _ _ _ _ _ q=>lt_int q
theorem YG:yP X (compareOp .LtE) (vL fun i j=>.bl (decide (i<=j))):=YE fun _ _ _ _ _ _ _ q=>le_int q
theorem tN:yP X (compareOp .Gt) (vL fun i j=>.bl (decide (j<i))):=YE fun _ _ _ _ _ _ _ q=>gt_int q
theorem JH:yP X (compareOp .GtE) (vL fun i j=>.bl (decide (j<=i))):=YE fun _ _ _ _ _ _ _ q=>ge_int q
theorem FH:yP X (compareOp .In) (fun x y H Q=>∃ i j,x=.str i/\y=.str j/\Q (.bl (!(Builtin.Str.occurrences j i 0 j.length 1).isEmpty)) H):=by
 intro pins s σ H x y v u Q I rx ry h
 obtain ⟨i,j,rfl,rfl,q⟩:=h
 obtain ⟨t,rfl⟩:=rx
 obtain ⟨t',rfl⟩:=ry
 exact in_str (yu I q rfl)
theorem VS:yP X (compareOp .Is) (fun x y H Q=>y=.non/\Q (.bl (decide (x=.non))) H):=by
 intro pins s σ H x y v u Q I rx ry h
 obtain ⟨rfl,q⟩:=h
 cases ry
 refine is_none_gen (yu I q ?_)
 cases x<;>first
  | (cases rx; rfl)
  | (obtain ⟨t,rfl⟩:=rx; rfl)
theorem YH:yP X (compareOp .IsNot) (fun x y H Q=>y=.non/\Q (.bl (!decide (x=.non))) H):=by
 intro pins s σ H x y v u Q I rx ry h
 obtain ⟨rfl,q⟩:=h
 cases ry
 refine isnot_none_gen (yu I q ?_)
 cases x<;>first
  | (cases rx; rfl)
  | (obtain ⟨t,rfl⟩:=rx; rfl)
theorem yP.or {f:Value->Value->Sem Value} {r r':R2} (h:yP X f r) (h':yP X f r'):yP X f (fun x y H Q=>r x y H Q\/r' x y H Q):=by
 intro pins s σ H x y v u Q I rx ry q
 rcases q with q | q
 ·exact h pins s σ H x y v u Q I rx ry q
 ·exact h' pins s σ H x y v u Q I rx ry q
theorem zu (b:Expr) {op:CmpOp} (h:op≠.In:=by decide) (h2:op≠.NotIn:=by decide):behindInMarks op b=false:=by
 have e1:(op == CmpOp.In)=false:=by cases op<;>first | rfl | exact absurd rfl h
 have e2:(op == CmpOp.NotIn)=false:=by cases op<;>first | rfl | exact absurd rfl h2
 cases b<;>simp [behindInMarks,e1,e2]
theorem Fh {op:CmpOp} {r:R2} (ho:yP X (compareOp op) r) (ha:PE X a ta) (hb:PE X b tb) (hm:behindInMarks op b=false):PE X (.Compare a [op] [b] pos) (Ya r ta tb):=by
 intro pins s σ H Q I h
 exact wpAny_Compare1 (WR ha hb I h fun v u s2 x y H2 I2 rx ry q=>ho pins s2 σ H2 x y v u Q I2 rx ry q) hm
noncomputable def O1 (t:TE):TT:=fun σ H Q=>t σ H fun x H'=>∃ k,x=.bl k/\Q k H'
theorem Ce {op:CmpOp} {r:R2} (ho:yP X (compareOp op) r) (ha:PE X a ta) (hb:PE X b tb) (hm:behindInMarks op b=false):PT X (.Compare a [op] [b] pos) (O1 (Ya r ta tb)):=by
 intro pins s σ H Q I h
 refine wpAny_isTrue_Compare1 (zg (ha pins s σ H _ I h) fun v s1 ⟨x,H1,I1,r1,q1⟩=>zg (hb pins s1 σ H1 _ I1 q1) fun u s2 ⟨y,H2,I2,r2,q2⟩=>
  zg (ho pins s2 σ H2 x y v u _ I2 r1 r2 q2) fun c s3 ⟨z,H3,I3,r3,k,e,q3⟩=>?_) hm
 subst e
 cases r3
 exact wpAny_truthy_bool ⟨H3,I3,q3⟩
noncomputable def Gb (r r':R2) (ta tb tc:TE):TE:=fun σ H Q=>ta σ H fun x H1=>tb σ H1 fun y H2=>r x y H2 fun z H3=>∃ k,z=.bl k/\
 (if k=true then tc σ H3 fun w' H4=>r' y w' H4 Q else Q (.bl false) H3)
theorem Cd {op op':CmpOp} {r r':R2} (ho:yP X (compareOp op) r) (ho':yP X (compareOp op') r') (ha:PE X a ta) (hb:PE X b tb) (hc:PE X c tc)
  (hm:lastMarks [op,op'] [b,c]=false:=by with_unfolding_all rfl):PT X (.Compare a [op,op'] [b,c] pos) (O1 (Gb r r' ta tb tc)):=by
 intro pins s σ H Q I h
 refine isTrue_chain (zg (ha pins s σ H _ I h) fun v s1 ⟨x,H1,I1,r1,q1⟩=>test_link (zg (hb pins s1 σ H1 _ I1 q1) fun u s2 ⟨y,H2,I2,r2,q2⟩=>
  zg (ho pins s2 σ H2 x y v u _ I2 r1 r2 q2) fun d s3 ⟨z,H3,I3,r3,k,e,q3⟩=>?_)) hm
 subst e
 cases r3
 refine wpAny_truthy_bool ?_
 cases k with
 | false=>
  obtain ⟨k',e',q'⟩:=q3
  cases e'
  exact ite_ff ⟨H3,I3,q'⟩
 | true=>
  refine ite_tt (test_last (zg (hc pins s3 σ H3 _ I3 q3) fun w' s4 ⟨z',H4,I4,r4,q4⟩=>zg (ho' pins s4 σ H4 y z' u w' _ I4 r2 r4 q4) fun d' s5 ⟨z2,H5,I5,r5,k2,e2,q5⟩=>?_))
  subst e2
  cases r5
  exact wpAny_truthy_bool ⟨H5,I5,q5⟩
theorem pG:(sizeLine:Nat)<2 ^ 63:=by rw [sizeLine_eq]; decide
theorem F8:yP X (binaryOp .Add) (fun x y H Q=>∃ i j,x=.str i/\y=.str j/\i.length+j.length<=sizeLine/\Q (.str (i++j)) H):=by
 intro pins s σ H x y v u Q I rx ry h
 obtain ⟨i,j,rfl,rfl,hz,q⟩:=h
 obtain ⟨t,rfl⟩:=rx
 obtain ⟨t',rfl⟩:=ry
 exact add_str (fun t' tk=>⟨.str (i++j),H,I.tok _,⟨_,rfl⟩,q⟩) hz
theorem wR {x:V} {us:List Value} (r:zi [x] us):∃ u,us=[u]/\zp x u:=by
 cases r with
 | cons r1 r2=>cases r2; exact ⟨_,rfl,r1⟩
theorem Yi {x y:V} {us:List Value} (r:zi [x,y] us):∃ u w',us=[u,w']/\zp x u/\zp y w':=by
 cases r with
 | cons r1 r2=>
  cases r2 with
  | cons r3 r4=>cases r4; exact ⟨_,_,rfl,r1,r3⟩
theorem LH (hc:X.calm=true):xT X (.builtin "max") (fun xs H Q=>∃ i j,xs=[.int i,.int j]/\Q (.int (if j > i then j else i)) H):=by
 intro pins s σ H xs us Q I r h
 obtain ⟨i,j,rfl,q⟩:=h
 obtain ⟨u,w',rfl,⟨t,rfl⟩,⟨t',rfl⟩⟩:=Yi r
 refine max_two_ints (I.ok.hd hc) fun h' tk k=>⟨_,H,I.kept k,?_,q⟩
 by_cases hj:j > i
 ·rw [if_pos hj,if_pos hj]; exact ⟨_,rfl⟩
 ·rw [if_neg hj,if_neg hj]; exact ⟨_,rfl⟩
theorem LJ (hc:X.calm=true):xT X (.builtin "min") (fun xs H Q=>∃ i j,xs=[.int i,.int j]/\Q (.int (if j<i then j else i)) H):=by
 intro pins s σ H xs us Q I r h
 obtain ⟨i,j,rfl,q⟩:=h
 obtain ⟨u,w',rfl,⟨t,rfl⟩,⟨t',rfl⟩⟩:=Yi r
 refine min_two_ints (I.ok.hd hc) fun h' tk k=>⟨_,H,I.kept k,?_,q⟩
 by_cases hj:j<i
 ·rw [if_pos hj,if_pos hj]; exact ⟨_,rfl⟩
 ·rw [if_neg hj,if_neg hj]; exact ⟨_,rfl⟩
theorem ga:xT X (.type "int") (fun xs H Q=>(∃ i,xs=[.int i]/\Q (.int i) H)\/∃ k,xs=[.bl k]/\Q (.int (if k then 1 else 0)) H):=by
 intro pins s σ H xs us Q I r h
 rcases h with ⟨i,rfl,q⟩ | ⟨k,rfl,q⟩
 ·obtain ⟨u,rfl,t,rfl⟩:=wR r
  exact call_int_int ⟨.int i,H,I,⟨_,rfl⟩,q⟩
 ·obtain ⟨u,rfl,r1⟩:=wR r
  cases r1
  exact call_int_bool ⟨.int (if k then 1 else 0),H,I.tok _,⟨_,rfl⟩,q⟩
theorem LM:xT X (.type "str") (fun xs H Q=>∃ i,xs=[.int i]/\i.natAbs.log2<1920/\Q (.str (toString i)) H):=by
 intro pins s σ H xs us Q I r h
 obtain ⟨i,rfl,hz,q⟩:=h
 obtain ⟨u,rfl,t,rfl⟩:=wR r
 exact PySem.P.str_of_int hz ⟨.str _,H,I.tok _,⟨_,rfl⟩,q⟩
end
end L2
namespace L2
open PySem PySem.Spec PyProof.Rows
structure Xw (h:Heap) (x dx C:Addr) (mA:Str->Option Value):Prop where
 obj:h.get? x=some (PySem.W.instObj C dx)
 ns:h.Ns1 dx mA
 ne:dx≠x
theorem Bm {h:Heap} {dx:Addr} {mA:Str->Option Value} (n:h.Ns1 dx mA):∃ od,h.get? dx=some od/\∀ name,PySem.W.lookIn name od=some (mA name):=by
 obtain ⟨o,es,ep,ho,hd,hk,_,hm⟩:=n
 refine ⟨o,ho,fun name=>?_⟩
 have e:=hm name
 unfold nsFind findBy at e
 rw [<- Array.find?_toList] at e
 unfold PySem.W.lookIn
 rw [hd]
 dsimp only
 split
 ·rename_i y q
  rw [q] at e
  exact congrArg some e
 ·rename_i q
  rw [q] at e
  have a:es.toList.any (·.refKey)=false:=by
   rw [List.any_eq_false]
   intro y hy
   obtain ⟨z,t,hkey⟩:=hk y (Array.mem_toList_iff.mp hy)
   simp [DictEntry.refKey,hkey]
  have a':¬ es.toList.any (·.refKey)=true:=by rw [a]; exact Bool.false_ne_true
  rw [if_neg a']
  exact congrArg some e
theorem Xw.look {h:Heap} {x dx C:Addr} {mA:Str->Option Value} (I:Xw h x dx C mA):∃ od,PySem.W.InstAt h x (PySem.W.instObj C dx) C (some od)/\∀ name,PySem.W.lookIn name od=some (mA name):=
 let ⟨od,ho,hl⟩:=Bm I.ns
 ⟨od,⟨I.obj,rfl,rfl,ho⟩,hl⟩
theorem u9.some_of {v:V} {o:Option Value} (r:u9 (some v) o):∃ u,o=some u/\zp v u:=by
 cases o with
 | none=>exact (show False from r).elim
 | some u=>exact ⟨u,rfl,r⟩
section
variable {P:Program} {w:World} {H H':Hp} {h h':Heap} {a C dx:Addr} {fs fs':List (Str×V)}
theorem Mr (hok:yn P w H h) (e:H a=some (.ins C dx fs)):∃ mA,Xw h a dx C mA/\(∀ f,u9 (fs.lookup f) (mA f))/\PySem.Within mA (fs.map (·.1))/\fs.length<=1000/\H dx=some (.own a):=by
 obtain ⟨d,z,ne,ob,mA,n,r,q⟩:=(show yc P w H h a (.ins C dx fs) from hok a _ e)
 exact ⟨mA,⟨ob,n,ne⟩,r,q,z,d⟩
end
structure Yw (K:PySem.W.Frag) (C:Addr):Prop where
 pg:PySem.W.plainGet K C Str.empty=true
 hd:PySem.W.hasDictIn K C=true
 po:PySem.W.plainOver K C=true
 sa:PySem.W.findIn K (.ref C) "__setattr__" = some (some (.builtin "object.__setattr__"))
theorem Yw.get {K:PySem.W.Frag} {C:Addr} (c:Yw K C) (f:Str):PySem.W.plainGet K C f=true:=c.pg
section
variable {X:Cx} {pins:List (Addr×Obj)} {σ:St} {H:Hp} {s:Shared} {A:Around} {E:Value->Shared->Prop} {Q:Value->Shared->Prop} {c:Value} {b:Bool}
inductive vo (K:PySem.W.Frag) (H:Hp):V->Value->Prop where
 | non:vo K H .non (.type "NoneType")
 | bl (x:Bool):vo K H (.bl x) (.type "bool")
 | int (i:Int):vo K H (.int i) (.type "int")
 | str (x:Str):vo K H (.str x) (.type "str")
 | flt (x:UInt64):vo K H (.flt x) (.type "float")
 | lst {a:Addr} {xs:List V} (e:H a=some (.lst xs)):vo K H (.ref a) (.type "list")
 | frz {a:Addr} {o:Obj} {xs:List V} (e:H a=some (.frz o (.lst xs))):vo K H (.ref a) (.type "list")
 | tup {a:Addr} {xs:List V} (e:H a=some (.tup xs)):vo K H (.ref a) (.type "tuple")
 | dK {a:Addr} {kvs:List (zU×V)} (e:H a=some (.dK kvs)):vo K H (.ref a) (.type "dict")
 | dT {a:Addr} {kvs:List (List zU×V)} (e:H a=some (.dT kvs)):vo K H (.ref a) (.type "dict")
 | ins {a C dx:Addr} {fs:List (Str×V)} (e:H a=some (.ins C dx fs)) (cl:Yw K C) (ha:PySem.W.findIn K (.ref C) "__class__" = some (some (.builtin "object.__class__")))
   (hn:PySem.W.specialIn K (.builtin "object.__class__") "__get__" = some (some (.builtin "getset_descriptor.__get__"))) (htk:PySem.W.takesIn K (.builtin "object.__class__")=some true)
   (hm:PySem.W.mroIn K C (.type "object")=some true):vo K H (.ref a) (.ref C)
theorem Zr {x:V} {u t:Value} (I:Inv X pins σ H s) (rx:zp x u) (ty:vo X.K H x t) (e:PySem.W.kitOne X.K t c=some b) (h:∀ tk,Q (.bool b) { s with toks:=tk }) :
  wpAny (model X.prog X.w) A (call (.builtin "isinstance") [u,c]) Q E s:=by
 cases ty with
 | non=>cases (show u=Value.none from rx); exact PySem.W.kia_one PySem.W.kitx_none I.kIn True.intro e (fun z=>nomatch z) h
 | bl y=>cases (show u=Value.bool y from rx); exact PySem.W.kia_one PySem.W.kitx_bool I.kIn True.intro e (fun z=>nomatch z) h
 | int i=>obtain ⟨t,q⟩:=(show ∃ t,u=Value.int i t from rx); cases q; exact PySem.W.kia_one PySem.W.kitx_int I.kIn True.intro e (fun z=>nomatch z) h
 | str y=>obtain ⟨t,q⟩:=(show ∃ t,u=Value.str y t from rx); cases q; exact PySem.W.kia_one PySem.W.kitx_str I.kIn True.intro e (fun z=>nomatch z) h
 | flt y=>obtain ⟨t,q⟩:=(show ∃ t,u=Value.float y t from rx); cases q; exact PySem.W.kia_one PySem.W.kitx_float I.kIn True.intro e (fun z=>nomatch z) h
 | @lst a xs ea=>
  cases (show u=Value.ref a from rx)
  obtain ⟨_,_,n,_,h1⟩:=(show yc X.prog X.w H s.heap a (.lst xs) from I.hok a _ ea)
  exact PySem.W.kia_one PySem.W.kitx_list I.kIn ⟨_,h1,rfl⟩ e (fun z=>nomatch z) h
 | @frz a ob xs ea=>
  cases (show u=Value.ref a from rx)
  obtain ⟨_,_,_,n,_,h1⟩:=(show yc X.prog X.w H s.heap a (.frz ob (.lst xs)) from I.hok a _ ea)
  exact PySem.W.kia_one PySem.W.kitx_list I.kIn ⟨_,h1,rfl⟩ e (fun z=>nomatch z) h
 | @tup a xs ea=>
  cases (show u=Value.ref a from rx)
  obtain ⟨_,_,_,p⟩:=(show yc X.prog X.w H s.heap a (.tup xs) from I.hok a _ ea)
  obtain ⟨o,h1,h2,_⟩:=p
  exact PySem.W.kia_one PySem.W.kitx_tuple I.kIn ⟨o,h1,h2⟩ e (fun z=>nomatch z) h
 | @dK a kvs ea=>
  cases (show u=Value.ref a from rx)
  obtain ⟨_,_,vs,_,p⟩:=(show yc X.prog X.w H s.heap a (.dK kvs) from I.hok a _ ea)
  obtain ⟨o,es,ep,h1,h2,_⟩:=p
  exact PySem.W.kia_one PySem.W.kitx_dict I.kIn ⟨o,h1,h2.1⟩ e (fun z=>nomatch z) h
 | @dT a kvs ea=>
  cases (show u=Value.ref a from rx)
  obtain ⟨_,_,xs,_,o,es,ep,h1,h2,_⟩:=(show yc X.prog X.w H s.heap a (.dT kvs) from I.hok a _ ea)
  exact PySem.W.kia_one PySem.W.kitx_dict I.kIn ⟨o,h1,h2.1⟩ e (fun z=>nomatch z) h
 | @ins a C dx fs ea cl ha hn htk hm=>
  cases (show u=Value.ref a from rx)
  obtain ⟨mA,O,_⟩:=Mr I.hok ea
  obtain ⟨od,J,_⟩:=O.look
  exact PySem.W.kia_one (PySem.W.kitx_own (cl.get _) cl.hd ha hn htk hm) I.kIn J e (fun z=>nomatch z) h
end
end L2
namespace L2
open PySem PySem.Spec PyProof.Rows
structure xH (k:Nat) (A:Around):Prop where
 hd:A.handled=none
 dp:A.depth+3*k+5<recursionLimit
 un:A.units+16*k+200<cLine
 gd:A.guards=some []
theorem xH.mono {j k:Nat} {A:Around} (r:xH k A) (h:j<=k):xH j A:=⟨r.hd,by have:=r.dp; omega,by have:=r.un; omega,r.gd⟩
theorem xH.deeper {k:Nat} {A:Around} (r:xH (k+1) A) (env:Env):xH k (A.deeper env):=
 ⟨r.hd,by have:=r.dp; show A.depth+1+3*k+5<_; omega,by have:=r.un; show A.units+3+16*k+200<_; omega,by first | exact r.gd | simp [Around.under,Code.guards,pushGuards,r.gd]⟩
theorem xH.depth {k:Nat} {A:Around} (r:xH k A):A.depth<recursionLimit:=by have:=r.dp; omega
theorem xH.units {k:Nat} {A:Around} (r:xH k A):A.units+64<cLine:=by have:=r.un; omega
noncomputable def jw:TA:=fun _ H Q=>Q [] H
noncomputable def jv (ta:TE) (tr:TA):TA:=fun σ H Q=>ta σ H fun x H1=>tr σ H1 fun xs H2=>Q (x::xs) H2
section
variable {X:Cx} {e:Expr} {es:List Expr} {te:TE} {t:TA} {pos:Pos}
theorem jZ:PA X [] jw:=fun _ _ _ _ H Q I h=>Calls.spliced_nil ⟨[],H,I,.nil,h⟩
theorem JJ (ha:PE X e te) (hr:PA X es t) (hs:starEach (e::es) X.env=(false,eval e X.env)::starEach es X.env:=by rfl):PA X (e::es) (jv te t):=by
 intro pos pins s σ H Q I h
 rw [hs]
 show wpAny _ _ (spliced ((false,eval e X.env)::backTo pos (starEach es X.env))) _ _ s
 refine Calls.spliced_cons (zg (ha pins s σ H _ I h) fun u s1 ⟨x,H1,I1,r1,q1⟩=>?_)
 exact zg (hr pos pins s1 σ H1 _ I1 q1) fun us s2 ⟨xs,H2,I2,r2,q2⟩=>⟨x::xs,H2,I2,.cons r1 r2,q2⟩
noncomputable def Gz (t:TA):TE:=fun σ H Q=>t σ H fun xs H1=>xs.length<=sizeLine/\∀ p,H1 p=none->Q (.ref p) (zV H1 p (.tup xs))
noncomputable def Gj (t:TA):TE:=fun σ H Q=>t σ H fun xs H1=>xs.length<=sizeLine/\∀ p,H1 p=none->Q (.ref p) (zV H1 p (.lst xs))
theorem Fs {x1} (h:PA X es t):PE X (.Tuple es x1 pos) (Gz t):=by
 intro pins s σ H Q I hq
 refine wpAny_Tuple_spliced (zg (h pos pins s σ H _ I hq) fun us s1 ⟨xs,H1,I1,r,z,q⟩=>⟨by rw [<- r.length]; exact z,?_⟩)
 have hf:H1 s1.heap.objs.size=none:=I1.hok.fresh (Nat.le_refl _)
 refine ⟨.ref s1.heap.objs.size,zV H1 s1.heap.objs.size (.tup xs),I1.laid (t':=s1.toks) (fun b u e=>Heap.get?_push_of_some _ e) (Nat.le_refl _) ?_,rfl,q _ hf⟩
 exact ⟨z,us,r,⟨_,Heap.get?_push_size _ rfl,rfl,_,rfl⟩⟩
theorem Fm (h:PA X es t):PE X (.List es pos) (Gj t):=by
 intro pins s σ H Q I hq
 refine wpAny_List_spliced (zg (h pos pins s σ H _ I hq) fun us s1 ⟨xs,H1,I1,r,z,q⟩=>⟨by rw [<- r.length]; exact z,?_⟩)
 have hf:H1 s1.heap.objs.size=none:=I1.hok.fresh (Nat.le_refl _)
 refine ⟨.ref s1.heap.objs.size,zV H1 s1.heap.objs.size (.lst xs),I1.laid (t':=s1.toks) (fun b u e=>Heap.get?_push_of_some _ e) (Nat.le_refl _) ?_,rfl,q _ hf⟩
 exact ⟨z,us,0,r,Heap.get?_push_size _ rfl⟩
end
noncomputable abbrev Sp:=List V->Hp->VK->XK->Prop
noncomputable abbrev uZ:=List Env->Hp->Shared->XK->Value->Shared->Prop
structure k_ (P:Program) (w:World) (K:PySem.W.Frag) (mg:Str->Option Value) (base:Heap) (A:Around) (outer:List Env) (s:Shared) (H:Hp):Prop where
 frames:A.frames=some outer
 mod:Mod K mg base
 bs:∀ b o,base.get? b=some o->s.heap.get? b=some o/\H b=none
 bsz:base.objs.size<=s.heap.objs.size
 funs:s.heap.FunFrames base outer
 frf:∀ b∈vc outer,H b=none
 hok:yn P w H s.heap
 bare:AllBare s.gens
noncomputable def CE (outer:List Env) (P:Program) (w:World) (H:Hp) (s:Shared) (Q:VK) (u:Value) (s':Shared):Prop:=
 ∃ v H',s'.os=s.os/\AllBare s'.gens/\Un (vc outer) [] H H' s.heap s'.heap/\yn P w H' s'.heap/\zp v u/\Q v H'
noncomputable def CR (CX:uZ) (outer:List Env) (P:Program) (w:World) (H:Hp) (s:Shared) (Q:VK) (E:XK) (r:Result) (s':Shared):Prop:=
 match r with
 | .ok (.ret u)=>CE outer P w H s Q u s'
 | .ok _=>False
 | .error e=>CX outer H s E e s'
structure vk (P:Program) (w:World) (K:PySem.W.Frag) (mg:Str->Option Value) (base:Heap) (CX:uZ) (k:Nat) (f:Addr) (fd:FuncData) (ps:List Str) (sp:Sp):Prop where
 len:∀ vs H Q E,sp vs H Q E->vs.length=ps.length
 run:∀ (A:Around) (outer:List Env) (s:Shared) (H:Hp) (args:Args) (us:List Value) (vs:List V) (Q:VK) (E:XK),xH k A->k_ P w K mg base A outer s H->BindsTo s fd args (ps.zip us)->zi vs us->sp vs H Q E->
  codeAny (model P w) A (.call (.ref f) args) (CR CX outer P w H s Q E) s
section
variable {X:Cx} {pins:List (Addr×Obj)} {σ:St} {H:Hp} {s s':Shared}
theorem Inv.env0 (I:Inv X pins σ H s):k_ X.prog X.w X.K X.mg X.base X.A X.stack s H:=
 ⟨I.ok.frames,I.ok.mod,I.bs,Nat.le_trans I.ok.bsz I.sz,I.stack,I.stkFree,I.hok,I.bare⟩
theorem Inv.after {Q:VK} {u:Value} (I:Inv X pins σ H s) (h:CE X.stack X.prog X.w H s Q u s'):EP X pins σ Q u s':=by
 obtain ⟨v,H',os,bare,un,hok,r,q⟩:=h
 obtain ⟨hh,g,d,t,os'⟩:=s'
 obtain rfl:os'=s.os:=os
 exact ⟨v,H',I.call (h':=hh) (g':=g) (d':=d) (t':=t) (ch:=[]) un hok bare (fun b z=>absurd z (by simp)),r,q⟩
end
noncomputable def Uo (sp:Sp) (dvs:List V) (E:XK) (t:TA):TE:=fun σ H Q=>t σ H fun vs H1=>sp (vs++dvs) H1 Q E
noncomputable def tX (K:PySem.W.Frag) (fd:FuncData) (ps:List Str) (ds:List Value):Prop:=
 ∀ (s:Shared) (us:List Value),K.In s.heap->(us++ds).length=ps.length->BindsTo s fd ⟨us,[]⟩ (ps.zip (us++ds))
theorem tX.all {K:PySem.W.Frag} {fd:FuncData} {ps:List Str} (h:∀ us:List Value,us.length=ps.length->bindArgs fd ⟨us,[]⟩=pure (ps.zip us)):tX K fd ps []:=fun s us _ hl=>by
 rw [List.append_nil] at hl ⊢
 exact .of_eq (h us hl)
noncomputable def Z3 (CX:uZ) (X:Cx) (E:XK):Prop:=∀ (pins:List (Addr×Obj)) (σ:St) (H:Hp) (s:Shared) (e:Value) (s':Shared),Inv X pins σ H s->CX X.stack H s E e s'->X.xe e s'
section
variable {X:Cx} {CX:uZ} {k:Nat} {f C:Addr} {fd:FuncData} {ps:List Str} {sp:Sp} {dvs:List V} {ds:List Value} {E:XK} {x m:Str} {p pos apos:Pos} {e o:Expr} {es:List Expr} {ta:TE} {t:TA}
theorem IL {pins:List (Addr×Obj)} {σ:St} {H:Hp} {s:Shared} {Q:VK} {us:List Value} {vs:List V} (F:vk X.prog X.w X.K X.mg X.base CX k f fd ps sp) (hr:xH k X.A) (hb:tX X.K fd ps ds) (hd:zi dvs ds) (hx:Z3 CX X E)
  (I:Inv X pins σ H s) (r:zi vs us) (h:sp (vs++dvs) H Q E):wpAny (model X.prog X.w) X.A (call (.ref f) us) (EP X pins σ Q) X.xe s:=by
 have r2:zi (vs++dvs) (us++ds):=r.append hd
 have hl:(us++ds).length=ps.length:=by rw [<- r2.length]; exact F.len _ _ _ _ h
 refine wpAny_call (codeAny_mono (F.run X.A X.stack s H ⟨us,[]⟩ (us++ds) (vs++dvs) Q E hr I.env0 (hb s us I.kIn hl) r2 h) fun r s' hq=>?_)
 cases r with
 | error e=>exact hx pins σ H s e s' I hq
 | ok fl=>
  cases fl with
  | ret u=>exact I.after hq
  | next=>exact False.elim hq
  | brk=>exact False.elim hq
  | cont=>exact False.elim hq
theorem Fd (F:vk X.prog X.w X.K X.mg X.base CX k f fd ps sp) (hr:xH k X.A) (hg:Gl X x) (hm:X.mg x=some (.ref f)) (hk:PySem.W.keepIn X.K (.ref f)=true) (hb:tX X.K fd ps ds) (hd:zi dvs ds) (hx:Z3 CX X E)
  (ha:PA X (e::es) t) (hdb:(x == ("__debug__" : Str))=false:=by decide) (he:starEach (e::es) X.env=(false,eval e X.env)::starEach es X.env:=by rfl) (hpl:(backTo pos (starEach es X.env)).any (·.1)=false:=by rfl) :
  PE X (.Call (.Name x p) (e::es) [] pos) (Uo sp dvs E t):=by
 intro pins s σ H Q I h
 refine wpAny_Call_Name_kw (VF I hg hm ?_ hdb)
 refine PySem.W.callWith_K (h₀:=X.base) I.ok.mod.kin hk (zg (ha pos pins s σ H _ I h) fun us s1 ⟨vs,H1,I1,r,q⟩=>⟨I1.kIn,?_⟩) he hpl
 exact IL F hr hb hd hx I1 r q
theorem Fe (F:vk X.prog X.w X.K X.mg X.base CX k f fd ps sp) (hr:xH k X.A) (hg:Gl X x) (hm:X.mg x=some (.ref f)) (hk:PySem.W.keepIn X.K (.ref f)=true) (hb:tX X.K fd ps ds) (hd:zi dvs ds) (hx:Z3 CX X E)
  (hdb:(x == ("__debug__" : Str))=false:=by decide):PE X (.Call (.Name x p) [] [] pos) (Uo sp dvs E jw):=by
 intro pins s σ H Q I h
 refine wpAny_Call_Name_kw (VF I hg hm ?_ hdb)
 exact PySem.W.callWith_K0 I.kIn hk (IL (us:=[]) F hr hb hd hx I .nil h)
end
noncomputable def PK (X:Cx) (kws:List Keyword) (t:TA):Prop:=
 ∀ (pos:Pos) (pins:List (Addr×Obj)) (s:Shared) (σ:St) (H:Hp) (Q:List V->Hp->Prop),Inv X pins σ H s->t σ H Q->wpAny (model X.prog X.w) X.A (evalAll ((backToKw pos (keywordEach kws X.env)).map (·.2))) (AP X pins σ Q) X.xe s
section
variable {X:Cx} {CX:uZ} {k:Nat} {f C:Addr} {fd:FuncData} {ps ks:List Str} {sp:Sp} {E:XK} {x m:Str} {p pos apos kpos:Pos} {e o:Expr} {es:List Expr} {kws:List Keyword} {te ta:TE} {t tk:TA} {nm:Option Str}
theorem CF:PK X [] jw:=fun _ _ _ _ H Q I h=>wpAny_evalAll_nil ⟨[],H,I,.nil,h⟩
theorem CD (ha:PE X e te) (hr:PK X kws t):PK X (⟨nm,e,kpos⟩::kws) (jv te t):=by
 intro pos pins s σ H Q I h
 show wpAny _ _ (evalAll ((do let v <- eval e X.env; standAt pos; pure v)::(backToKw pos (keywordEach kws X.env)).map (·.2))) _ _ s
 refine wpAny_evalAll_cons (wpAny_bind (zg (ha pins s σ H _ I h) fun u s1 ⟨x,H1,I1,r1,q1⟩=>wpAny_bind (wpAny_standAt (wpAny_pure ?_))))
 exact zg (hr pos pins s1 σ H1 _ I1 q1) fun us s2 ⟨xs,H2,I2,r2,q2⟩=>⟨x::xs,H2,I2,.cons r1 r2,q2⟩
variable {g:List Value->List Value->List Value} {gV:List V->List V->List V}
end
structure yF (N P:List Str) (sc:Scope):Prop where
 kind:sc.kind=.function
 co:sc.isCoroutine=false
 gen:sc.isGenerator=false
 nd:N.Nodup
 pre:N.take P.length=P
 par:∀ x∈P,sc.names.lookup x=some .local\/sc.names.lookup x=some .cell
 nofree:∀ y∈sc.names,y.2≠.free
theorem TY {kindOf:Str->Option NameKind} {x:Str}:∀ {binds:List (Str×Value)} {m:Str->Option Value},(∀ v,(x,v) ∉ binds)->bindL kindOf binds m x=m x
 | [],_,_=>rfl
 | (n,v)::r,m,h=>by
  unfold bindL
  rw [TY fun w hw=>h w (List.mem_cons_of_mem _ hw)]
  split
  ·have:x≠n:=by rintro rfl; exact h v List.mem_cons_self
   simp [this]
  ·rfl
theorem TW {kindOf:Str->Option NameKind} {x:Str}:∀ {binds:List (Str×Value)} {m:Str->Option Value},(∀ v,(x,v) ∉ binds)->bindC kindOf binds m x=m x
 | [],_,_=>rfl
 | (n,v)::r,m,h=>by
  unfold bindC
  rw [TW fun w hw=>h w (List.mem_cons_of_mem _ hw)]
  split
  ·rfl
  ·have:x≠n:=by rintro rfl; exact h v List.mem_cons_self
   simp [this]
theorem TX {kindOf:Str->Option NameKind} {x:Str} {v:Value}:∀ {P:List Str} {vs:List Value} {i:Nat} {m:Str->Option Value},P.Nodup->P[i]?=some x->vs[i]?=some v->kindOf x=some .local->
  bindL kindOf (P.zip vs) m x=some v
 | [],_,_,_,_,h,_,_=>by simp at h
 | _::_,[],_,_,_,_,h,_=>by simp at h
 | p::P,w::vs,0,m,nd,h1,h2,hk=>by
  simp at h1 h2; subst h1; subst h2
  show bindL kindOf ((p,w)::P.zip vs) m p=_
  unfold bindL
  rw [TY fun v hv=>(List.nodup_cons.mp nd).1 (List.of_mem_zip hv).1,if_pos hk]
  simp
 | p::P,w::vs,i+1,m,nd,h1,h2,hk=>by
  show bindL kindOf ((p,w)::P.zip vs) m x=_
  unfold bindL
  exact TX (i:=i) (List.nodup_cons.mp nd).2 (by simpa using h1) (by simpa using h2) hk
theorem TV {kindOf:Str->Option NameKind} {x:Str} {v:Value}:∀ {P:List Str} {vs:List Value} {i:Nat} {m:Str->Option Value},P.Nodup->P[i]?=some x->vs[i]?=some v->kindOf x≠some .local->
  bindC kindOf (P.zip vs) m x=some v
 | [],_,_,_,_,h,_,_=>by simp at h
 | _::_,[],_,_,_,_,h,_=>by simp at h
 | p::P,w::vs,0,m,nd,h1,h2,hk=>by
  simp at h1 h2; subst h1; subst h2
  show bindC kindOf ((p,w)::P.zip vs) m p=_
  unfold bindC
  rw [TW fun v hv=>(List.nodup_cons.mp nd).1 (List.of_mem_zip hv).1,if_neg hk]
  simp
 | p::P,w::vs,i+1,m,nd,h1,h2,hk=>by
  show bindC kindOf ((p,w)::P.zip vs) m x=_
  unfold bindC
  exact TV (i:=i) (List.nodup_cons.mp nd).2 (by simpa using h1) (by simpa using h2) hk
noncomputable def start (N:List Str) (vs:List V):St:=vs.map some++List.replicate (N.length - vs.length) none
noncomputable def ug (CX:uZ) (P:Program) (w:World) (K:PySem.W.Frag) (mg:Str->Option Value) (base:Heap) (N:List Str) (qual:Str) (scope:Scope) (f:Addr) (cd:Value) (A:Around) (outer:List Env) (s:Shared) (H:Hp) (E:XK):Cx where
 prog:=P
 w:=w
 K:=K
 mg:=mg
 base:=base
 A:=A.deeper (envOfC qual scope s.heap.objs.size f cd)
 N:=N
 s₀:=s
 H₀:=H
 env:=envOfC qual scope s.heap.objs.size f cd
 outer:=outer
 stack:=envOfC qual scope s.heap.objs.size f cd::outer
 ex:=[]
 calm:=true
 fn:=fun _=>true
 pn:=[]
 xe:=fun e s'=>wpAny (model P w) (A.deeper (envOfC qual scope s.heap.objs.size f cd)) (leaving (envOfC qual scope s.heap.objs.size f cd) e) (fun _ s''=>CX outer H s E e s'') (fun e' s''=>CX outer H s E e' s'') s'
theorem Ti {sc:Scope} {n:Nat} {x:Str} (h:sc.names.lookup x=some .cell):∃ c,(cellsFrom n sc.names []).lookup x=some c:=by
 have q:=PySem.W.cellsFrom_some sc.names n [] (.inl h)
 exact Option.isSome_iff_exists.mp q
theorem Mv {CX:uZ} {P:Program} {w:World} {K:PySem.W.Frag} {mg:Str->Option Value} {base:Heap} {N ps:List Str} {qual:Str} {scope:Scope} {f:Addr} {cd:Value} {A:Around} {outer:List Env} {s s1:Shared} {H:Hp} {E:XK} {us:List Value} {vs:List V}
  (S:yF N ps scope) (hd:A.handled=none) (e0:k_ P w K mg base A outer s H) (hl:vs.length=ps.length) (r:zi vs us)
  (x:InCallC s s.heap.objs.size (bindL (envOfC qual scope s.heap.objs.size f cd).kindOf (ps.zip us) fun _=>none) (cellsFrom (s.heap.objs.size+1) scope.names []) (bindC (envOfC qual scope s.heap.objs.size f cd).kindOf (ps.zip us) fun _=>none) s1) :
  Inv (ug CX P w K mg base N qual scope f cd A outer s H E) [] (start N vs) H s1:=by
 have hpl:ps.length<=N.length:=by have:=congrArg List.length S.pre; rw [List.length_take] at this; omega
 obtain ⟨h1,tk,rfl,hk⟩:=x.done
 have noA:∀ b:Addr,b ∉ (ug CX P w K mg base N qual scope f cd A outer s H E).ex:=fun b z=>absurd (show b∈([]:List Addr) from z) (by simp)
 refine ⟨⟨e0.mod,S.kind,rfl,rfl,Nat.le_refl _,fun y z c h1 h2=>?_,fun y hy=>?_,fun y c _ h=>?_,fun _=>hd,Around.frames_deeper e0.frames,.inr ⟨rfl,rfl⟩,fun b z=>absurd z (noA b),e0.bs,e0.bsz,fun b _ _=>noA b,fun b z=>absurd z (noA b),e0.funs,e0.frf⟩,
  rfl,e0.bare,Un.kept hk,⟨_,x.toInCall.ns,fun i y v h1 h2 h3=>?_⟩,fun y c h=>⟨_,x.cell y c h⟩,e0.hok.fresh (Nat.le_refl _),fun y c h=>?_,fun p hp=>absurd (show p∈([]:List (Addr×Obj)) from hp) (by simp),e0.hok.kept hk,?_⟩
 ·exact name_of_addr x.apart (PySem.mem_of_lookup h1) (PySem.mem_of_lookup h2)
 ·have hy:scope.names.lookup y=some .cell\/scope.names.lookup y=some .free:=hy
  rcases hy with hy | hy
  ·exact Ti hy
  ·exact absurd rfl (S.nofree _ (PySem.mem_of_lookup hy))
 ·exact Nat.le_of_lt (x.above y c (PySem.mem_of_lookup h))
 ·have hi:i<vs.length:=by
   unfold start at h2
   by_cases hi:i<vs.length
   ·exact hi
   ·rw [List.getElem?_append_right (by simpa using hi)] at h2
    rw [List.getElem?_replicate] at h2
    split at h2<;>cases h2
  have ha:vs[i]?=some v:=by
   unfold start at h2
   rw [List.getElem?_append_left (by simpa using hi),List.getElem?_map] at h2
   cases e:vs[i]? with
   | none=>rw [e] at h2; cases h2
   | some a=>rw [e] at h2; cases h2; rfl
  obtain ⟨u,hu,rv⟩:=r.get ha
  have hp:ps[i]?=some y:=by
   rw [<- S.pre,List.getElem?_take_of_lt (by omega)]; exact h1
  have ndP:ps.Nodup:=by rw [<- S.pre]; exact S.nd.sublist (List.take_sublist _ _)
  refine ⟨u,rv,?_⟩
  rcases S.par y (List.mem_of_getElem? hp) with k | k
  ·exact .inl ⟨k,TX ndP hp hu k⟩
  ·obtain ⟨c,e⟩:=Ti (n:=s.heap.objs.size+1) k
   refine .inr ⟨.inl k,c,e,?_⟩
   have q:=x.cell y c e
   rw [TV ndP hp hu (by show scope.names.lookup y≠_; rw [k]; decide)] at q
   exact q
 ·exact e0.hok.fresh (Nat.le_of_lt (x.above y c (PySem.mem_of_lookup h)))
 ·unfold start
  show _=N.length
  rw [List.length_append,List.length_map,List.length_replicate]
  omega
theorem M1 {CX:uZ} {P:Program} {w:World} {K:PySem.W.Frag} {mg:Str->Option Value} {base:Heap} {k:Nat} {f:Addr} {name qual:Str} {params:Arguments} {body:List Stmt} {scope:Scope} {dV kV doc pm cdv ct oc:Value} {an od:Option Addr}
  {osl:Array (Option Value)} {N ps:List Str} {sp:Sp} (lk:K.lookup f=some ⟨oc,od,.func (PySem.W.fnOf name qual params body scope dV kV doc pm an cdv ct),osl⟩) (hcd:PySem.W.codeIn K cdv qual=true) (S:yF N ps scope)
  (len:∀ vs H Q E,sp vs H Q E->vs.length=ps.length)
  (hbody:∀ (A:Around) (outer:List Env) (s:Shared) (H:Hp) (vs:List V) (Q:VK) (E:XK),xH k (A.deeper (envOfC qual scope s.heap.objs.size f cdv))->sp vs H Q E->
   ∃ t,wW (ug CX P w K mg base N qual scope f cdv A outer s H E) body t/\t { nx:=fun _ H'=>Q .non H',rt:=Q } (start N vs) H) :
  vk P w K mg base CX (k+1) f (PySem.W.fnOf name qual params body scope dV kV doc pm an cdv ct) ps sp:=by
 refine ⟨len,fun A outer s H args us vs Q E hr e0 hb r hsp=>?_⟩
 have hl:=len _ _ _ _ hsp
 have KX:K.In s.heap:=e0.mod.kin.keeps fun b o e=>(e0.bs b o e).1
 have lim:s.heap.NoLimit:=e0.mod.nolimit.keeps fun b o e=>(e0.bs b o e).1
 have hkind:∀ y∈ps.zip us,scope.names.lookup y.1=some .local\/(scope.names.lookup y.1=some .cell/\((cellsFrom (s.heap.objs.size+1) scope.names []).lookup y.1).isSome=true):=fun ⟨n,v⟩ hy=>by
  rcases S.par n (List.of_mem_zip hy).1 with q | q
  ·exact .inl q
  ·exact .inr ⟨q,PySem.W.cellsFrom_some _ _ _ (.inl q)⟩
 refine codeAny_call_function hr.depth (KX _ _ lk) rfl S.co S.gen rfl (PySem.W.codeRec_of KX hcd) (hb _ _ _ _ ?_)
 refine wpAny_newFunctionEnv_cells S.kind hkind fun env he s1 x=>?_
 subst he
 refine ⟨lim.keeps x.toInCall.keep,codeAny_func ?_⟩
 obtain ⟨t,ht,hq⟩:=hbody A outer s H vs Q E (hr.deeper _) hsp
 have I:Inv (ug CX P w K mg base N qual scope f cdv A outer s H E) [] (start N vs) H s1:=Mv S hr.hd e0 hl r x
 refine wpAny_mono (ht [] s1 (start N vs) H _ I hq) (fun fl s' hs=>?_) fun e s' hs=>hs
 have fin:∀ {σ':St} {H':Hp} {v:V} {u:Value},Inv (ug CX P w K mg base N qual scope f cdv A outer s H E) [] σ' H' s'->zp v u->Q v H'->CE outer P w H s Q u s':=
  fun {σ' H' v u} J rv q=>⟨v,H',J.os,J.bare,J.base,J.hok,rv,q⟩
 cases fl with
 | ret u=>
  obtain ⟨v,σ',H',J,rv,q⟩:=hs
  exact fin J rv q
 | next=>
  obtain ⟨σ',H',J,q⟩:=hs
  exact fin (v:=V.non) (u:=Value.none) J rfl q
 | brk=>
  obtain ⟨_,_,_,q⟩:=hs
  exact False.elim q
 | cont=>
  obtain ⟨_,_,_,q⟩:=hs
  exact False.elim q
end L2
namespace L2
open PySem PySem.Spec PyProof.Rows
section
variable {X:Cx} {x:Str} {p pos:Pos} {e:Expr} {es:List Expr} {t:TA} {id T:String} {r:List V->Hp->VK->Prop}
noncomputable def YY (r:List V->Hp->VK->Prop) (t:TA):TE:=fun σ H Q=>t σ H fun vs H1=>r vs H1 Q
theorem Ff (hc:xT X (.builtin id) r) (hg:Gl X x) (hm:X.mg x=none) (hv:bootBuiltins x=some (.builtin id)) (ha:PA X (e::es) t) (hn:x ≠ "__name__" := by decide) (hdb:(x == ("__debug__" : Str))=false:=by decide)
  (he:starEach (e::es) X.env=(false,eval e X.env)::starEach es X.env:=by rfl) (hpl:(backTo pos (starEach es X.env)).any (·.1)=false:=by rfl):PE X (.Call (.Name x p) (e::es) [] pos) (YY r t):=by
 intro pins s σ H Q I h
 refine wpAny_Call_Name_kw (qN I hg hm hv ?_ hn hdb)
 exact PyProof.Rows.callWith_builtin1 (zg (ha pos pins s σ H _ I h) fun us s1 ⟨vs,H1,I1,r1,q1⟩=>hc pins s1 σ H1 vs us Q I1 r1 q1) he hpl
theorem Fg (hc:xT X (.type T) r) (hg:Gl X x) (hm:X.mg x=none) (hv:bootBuiltins x=some (.type T)) (ha:PA X (e::es) t) (hn:x ≠ "__name__" := by decide) (hdb:(x == ("__debug__" : Str))=false:=by decide)
  (he:starEach (e::es) X.env=(false,eval e X.env)::starEach es X.env:=by rfl) (hpl:(backTo pos (starEach es X.env)).any (·.1)=false:=by rfl):PE X (.Call (.Name x p) (e::es) [] pos) (YY r t):=by
 intro pins s σ H Q I h
 refine wpAny_Call_Name_kw (qN I hg hm hv ?_ hn hdb)
 exact PyProof.Rows.callWith_type1 (zg (ha pos pins s σ H _ I h) fun us s1 ⟨vs,H1,I1,r1,q1⟩=>hc pins s1 σ H1 vs us Q I1 r1 q1) he hpl
end
end L2
namespace HT
open PySem PyProof.Rows
section
variable {prog:Program} {w:World} {A:Around} {E:Value->Shared->Prop} {s:Shared}
theorem cat_tup {t b:Addr} {vs ws:List Value} {Q:Value->Shared->Prop} (ht:IsTup s.heap t vs.toArray) (hb:IsTup s.heap b ws.toArray) (hv:vs≠[])
  (h1:ws=[]->Q (.ref t) s) (h2:ws≠[]->Q (.ref s.heap.objs.size) { s with heap:=s.heap.push { cls:=.type "tuple",data:=.seq (vs++ws).toArray } })
  (hsz:vs.length+ws.length<=sizeLine):wpAny (model prog w) A (binaryOp .Add (.ref t) (.ref b)) Q E s:=by
 obtain ⟨⟨cls,dd,data,sl⟩,ho,hc,n,hd⟩:=id ht
 obtain ⟨⟨cls2,dd2,data2,sl2⟩,ho2,hc2,n2,hd2⟩:=id hb
 simp only at hc hd hc2 hd2
 subst hc hd hc2 hd2
 have e:vs.toArray++ws.toArray=(vs++ws).toArray:=by simp
 by_cases hw:ws=[]
 ·exact concat_meets ⟨_,ho,rfl⟩ ⟨_,ho2,rfl⟩ noFill_tuple_add seq_tuple_add PySem.F.slot_tuple_add PySem.F.entry_tuple_add (PySem.F.args_tuple_add_2 _ _)
   (tuple_addW1 t b vs.toArray ws.toArray n n2 dd dd2 sl sl2 (by simpa using hv) (by simp [hw])) ⟨ho,ho2,h1 hw⟩
 ·refine concat_meets ⟨_,ho,rfl⟩ ⟨_,ho2,rfl⟩ noFill_tuple_add seq_tuple_add PySem.F.slot_tuple_add PySem.F.entry_tuple_add (PySem.F.args_tuple_add_2 _ _)
   (tuple_addW2 t b vs.toArray ws.toArray n n2 dd dd2 sl sl2 (by simpa using hv) (by simpa using hw) (by rw [List.size_toArray,List.size_toArray]; exact hsz)) ⟨ho,ho2,?_⟩
  rw [e]
  exact h2 hw
noncomputable def sIx (n d:Nat):Option Int->Nat
 | none=>d
 | some v=>if v<0 then (v+(n:Int)).toNat else min v.toNat n
theorem sIx_le (n d:Nat) (hd:d<=n) (o:Option Int):sIx n d o<=n:=by
 cases o with
 | none=>exact hd
 | some v=>
  show (if v<0 then (v+(n:Int)).toNat else min v.toNat n)<=n
  by_cases hv:v<0
  ·rw [if_pos hv]; omega
  ·rw [if_neg hv]; exact Nat.min_le_right _ _
theorem Tj (v:Int) (n d:Nat):(if v<0 then max (v+(n:Int)) 0 else min v (n:Int))=((sIx n d (some v):Nat):Int):=by
 show (if v<0 then max (v+(n:Int)) 0 else min v (n:Int))=(((if v<0 then (v+(n:Int)).toNat else min v.toNat n):Nat):Int)
 by_cases hv:v<0
 ·simp only [if_pos hv]; omega
 ·simp only [if_neg hv]; omega
theorem Of (lo hi:Option Int) (n:Nat):Builtin.Slice.sliceAdjust lo hi 1 (n:Int)=(((sIx n 0 lo:Nat):Int),((sIx n n hi:Nat):Int)):=by
 have h1:¬ ((1:Int)<0):=by omega
 unfold Builtin.Slice.sliceAdjust
 simp only [h1,if_false]
 refine Prod.ext ?_ ?_
 ·cases lo with
  | none=>rfl
  | some v=>exact Tj v n 0
 ·cases hi with
  | none=>rfl
  | some v=>exact Tj v n n
theorem CH (i j:Nat):Builtin.Slice.slicePlaces (i:Int) (j:Int) 1=j - i:=by
 unfold Builtin.Slice.slicePlaces
 have h1:(1:Int) > 0:=by omega
 simp only [h1,if_true,Int.ediv_one]
 split<;>omega
theorem Il {v:Value} {o:Option Int} {Q:Option Int->Shared->Prop} (p:IsPart v o) (h:Q o s):wpAny (model prog w) A (Builtin.Slice.slicePartIndex v) Q E s:=by
 cases p with
 | none=>exact slicePart_none h
 | int i t=>exact slicePart_int h
theorem Ik {sl:Addr} {vl vu:Value} {lo hi:Option Int} {n:Nat} {Q:Int×Int×Nat->Shared->Prop} (hs:s.heap.IsSliceOf sl vl vu .none) (pl:IsPart vl lo) (pu:IsPart vu hi)
  (h:Q (((sIx n 0 lo:Nat):Int),1,sIx n n hi - sIx n 0 lo) s):wpAny (model prog w) A (Builtin.Slice.sliceApplied (.ref sl) (pure (n:Int))) Q E s:=by
 obtain ⟨os,hos,hcs,hds⟩:=id hs
 unfold Builtin.Slice.sliceApplied Builtin.Slice.sliceFields
 refine wpAny_bind (wpAny_bind (wpAny_field hos hds (x:=vl) rfl (wpAny_bind (wpAny_field hos hds (x:=vu) rfl (wpAny_bind (wpAny_field hos hds (x:=.none) rfl (wpAny_pure ?_)))))))
 refine wpAny_bind (slicePart_none ?_)
 show wpAny _ _ (if ((1:Int) == 0)=true then _ else _) _ _ s
 rw [if_neg (by decide)]
 refine wpAny_bind (Il pl (wpAny_bind (Il pu (wpAny_bind (wpAny_pure ?_)))))
 show wpAny _ _ (match Builtin.Slice.sliceAdjust lo hi 1 (n:Int) with | (lo,hi)=>pure (lo,(1:Int),Builtin.Slice.slicePlaces lo hi 1)) _ _ s
 rw [Of lo hi n]
 show wpAny _ _ (pure (((sIx n 0 lo:Nat):Int),(1:Int),Builtin.Slice.slicePlaces ((sIx n 0 lo:Nat):Int) ((sIx n n hi:Nat):Int) 1)) _ _ s
 rw [CH]
 exact wpAny_pure h
theorem CB (xs:Array Value) (i k:Nat):((List.range k).filterMap fun (m:Nat)=>xs[((i:Int)+(m:Int)*1).toNat]?).toArray=((xs.toList.drop i).take k).toArray:=by
 have e:(fun (m:Nat)=>xs[((i:Int)+(m:Int)*1).toNat]?)=fun m=>xs[i+m]?:=by
  funext m
  have:((i:Int)+(m:Int)*1).toNat=i+m:=by omega
  rw [this]
 rw [e]
 have:=pick_run xs i k
 rw [List.filterMap_map] at this
 have e2:((fun x=>xs[x]?) ∘ fun x=>i+x)=fun m=>xs[i+m]?:=rfl
 rw [e2] at this
 rw [this]
theorem getItem_tuple_cut {t sl:Addr} {items:Array Value} {vl vu:Value} {lo hi:Option Int} {Q:Value->Shared->Prop} (ht:IsTup s.heap t items) (hs:s.heap.IsSliceOf sl vl vu .none) (pl:IsPart vl lo) (pu:IsPart vu hi)
  (hw:¬ (sIx items.size 0 lo=0/\sIx items.size items.size hi=items.size))
  (h:Q (.ref s.heap.objs.size) { s with heap:=s.heap.push { cls:=.type "tuple",data:=.seq ((items.toList.drop (sIx items.size 0 lo)).take (sIx items.size items.size hi - sIx items.size 0 lo)).toArray } })
  (hsz:items.size<=sizeLine):wpAny (model prog w) A (getItem (.ref t) (.ref sl)) Q E s:=by
 have htake:sizeOk (.seq ((items.toList.drop (sIx items.size 0 lo)).take (sIx items.size items.size hi - sIx items.size 0 lo)).toArray):=by
  show ((items.toList.drop (sIx items.size 0 lo)).take (sIx items.size items.size hi - sIx items.size 0 lo)).toArray.size<=sizeLine
  rw [List.size_toArray,List.length_take,List.length_drop,Array.length_toList]
  omega
 have hj:sIx items.size items.size hi<=items.size:=sIx_le _ _ (Nat.le_refl _) hi
 obtain ⟨os,hos,hcs,hds⟩:=id hs
 have hTs:s.TypeIs (.ref sl) "slice" := ⟨os,hos,hcs⟩
 unfold getItem
 try with_reducible refine wpAny_holding ?_
 first | refine wpAny_bind (wpAny_pure ?_) | skip
 refine wpAny_bind (wpAny_sequenceKey ht.typeIs (by decide) ?_)
 refine wpAny_bind (wpAny_callSpecial?_slot (name:=Str.ofString "__getitem__") ht.typeIs PyProof.Rows.slot_tuple_getitem
  (wpAny_call_entry PyProof.Rows.slot_tuple_getitem ht.typeIs entry_tuple_getitem ?_ (args_tuple_getitem _ _)))
 show wpAny _ _ (Builtin.Tuple.tupleItemsOf (.ref t) >>= _) _ _ s
 refine wpAny_bind (tupleItemsOf_ ht ?_)
 refine wpAny_bind (wpAny_typeOf hTs ?_)
 rw [if_pos (by decide)]
 refine wpAny_bind (Ik hs pl pu ?_)
 have hno:¬ ((((sIx items.size 0 lo:Nat):Int) == 0&&(1:Int) == 1&&(sIx items.size items.size hi - sIx items.size 0 lo) == items.size)=true):=by
  intro q
  rw [Bool.and_eq_true,Bool.and_eq_true] at q
  have q1:((sIx items.size 0 lo:Nat):Int)=0:=eq_of_beq q.1.1
  have q2:sIx items.size items.size hi - sIx items.size 0 lo=items.size:=eq_of_beq q.2
  exact hw ⟨by omega,by omega⟩
 show wpAny _ _ (if (((sIx items.size 0 lo:Nat):Int) == 0&&(1:Int) == 1&&(sIx items.size items.size hi - sIx items.size 0 lo) == items.size)=true then _ else _) _ _ s
 rw [if_neg hno,CB]
 first
  | exact wpAny_bind (m:=Builtin.Tuple.tupleExact _) (wpAny_newObj_type (wpAny_pure ⟨_,rfl,wpAny_pure h⟩) htake)
  | exact wpAny_bind (m:=Builtin.Tuple.tupleExact _) (wpAny_newObj_type (wpAny_bind (wpAny_pure (wpAny_pure ⟨_,rfl,wpAny_pure h⟩))) htake)
  | exact wpAny_bind (wpAny_bind (m:=Builtin.Tuple.tupleExact _) (wpAny_newObj_type (wpAny_pure (wpAny_pure ⟨_,rfl,wpAny_pure h⟩)) htake))
  | exact wpAny_bind (wpAny_bind (m:=Builtin.Tuple.tupleExact _) (wpAny_newObj_type (wpAny_pure ⟨_,rfl,wpAny_pure h⟩) htake))
end
end HT
namespace L2
open PySem PySem.Spec PyProof.Rows
noncomputable abbrev TO:=St->Hp->(Option Int->Hp->Prop)->Prop
noncomputable def PO (X:Cx) (e:Option Expr) (t:TO):Prop:=
 ∀ (pins:List (Addr×Obj)) (s:Shared) (σ:St) (H:Hp) (Q:Option Int->Hp->Prop),Inv X pins σ H s->t σ H Q->
  wpAny (model X.prog X.w) X.A (evalPart e X.env) (fun u s'=>∃ o H',Inv X pins σ H' s'/\IsPart u o/\Q o H') X.xe s
noncomputable def Go:TO:=fun _ H Q=>Q none H
noncomputable def Gs (t:TE):TO:=fun σ H Q=>t σ H fun x H1=>∃ i,x=.int i/\Q (some i) H1
section
variable {X:Cx} {e:Expr} {te:TE} {lo hi:Option Expr} {tl th:TO} {pos p2:Pos}
theorem CM:PO X none Go:=by
 intro pins s σ H Q I h
 rw [evalPart_none]
 exact wpAny_pure ⟨none,H,I,.none,h⟩
theorem CN (h:PE X e te):PO X (some e) (Gs te):=by
 intro pins s σ H Q I hw
 rw [evalPart_some]
 refine zg (h pins s σ H _ I hw) fun u s1 ⟨x,H1,I1,r1,q1⟩=>?_
 obtain ⟨i,rfl,q⟩:=q1
 obtain ⟨t,rfl⟩:=r1
 exact ⟨some i,H1,I1,.int i t,q⟩
noncomputable def ud (X:Cx) (r:V->Option Int->Option Int->Hp->VK->Prop):Prop:=
 ∀ (pins:List (Addr×Obj)) (s:Shared) (σ:St) (H:Hp) (x:V) (v vl vu:Value) (lo hi:Option Int) (sl:Addr) (Q:VK),Inv X pins σ H s->zp x v->s.heap.IsSliceOf sl vl vu .none->IsPart vl lo->IsPart vu hi->r x lo hi H Q->
  ∃ T id,typeLookup (.type T) "__getitem__" = pure (some (.builtin id))/\s.TypeIs v T/\wpAny (model X.prog X.w) X.A (getItem v (.ref sl)) (EP X pins σ Q) X.xe s
theorem ud.or {r r':V->Option Int->Option Int->Hp->VK->Prop} (h:ud X r) (h':ud X r'):ud X (fun x lo hi H Q=>r x lo hi H Q\/r' x lo hi H Q):=by
 intro pins s σ H x v vl vu lo hi sl Q I rx hs pl pu q
 rcases q with q | q
 ·exact h pins s σ H x v vl vu lo hi sl Q I rx hs pl pu q
 ·exact h' pins s σ H x v vl vu lo hi sl Q I rx hs pl pu q
noncomputable def Gy (r:V->Option Int->Option Int->Hp->VK->Prop) (te:TE) (tl th:TO):TE:=fun σ H Q=>te σ H fun x H1=>tl σ H1 fun l H2=>th σ H2 fun u H3=>r x l u H3 Q
theorem JT {r:V->Option Int->Option Int->Hp->VK->Prop} (hr:ud X r) (he:PE X e te) (hl:PO X lo tl) (hu:PO X hi th):PE X (.Subscript e (.Slice lo hi none p2) pos) (Gy r te tl th):=by
 intro pins s σ H Q I h
 refine Subscript_ (zg (he pins s σ H _ I h) fun v s1 ⟨x,H1,I1,r1,q1⟩=>?_)
 refine wpAny_Slice (zg (hl pins s1 σ H1 _ I1 q1) fun vl s2 ⟨l,H2,I2,pl,q2⟩=>zg (hu pins s2 σ H2 _ I2 q2) fun vu s3 ⟨u,H3,I3,pu,q3⟩=>?_)
 rw [evalPart_none]
 refine wpAny_pure ?_
 have I4:Inv X pins σ H3 { s3 with heap:=s3.heap.push { cls:=.type "slice",data:=.fields #[vl,vu,.none] } }:=I3.kept (t':=s3.toks) fun b ob q=>Heap.get?_push_of_some _ q
 obtain ⟨T,id,hT,ht,hg⟩:=hr pins { s3 with heap:=s3.heap.push { cls:=.type "slice",data:=.fields #[vl,vu,.none] } } σ H3 x v vl vu l u s3.heap.objs.size Q I4 r1 (Heap.IsSliceOf.new ..) pl pu q3
 show wpAny (model X.prog X.w) X.A (subscriptTail e (.Slice lo hi none p2) v (.ref s3.heap.objs.size)) (EP X pins σ Q) X.xe { s3 with heap:=s3.heap.push { cls:=.type "slice",data:=.fields #[vl,vu,.none] } }
 exact tail_any (ops:=[.ref s3.heap.objs.size,v]) ht hT hg (by with_unfolding_all rfl)
noncomputable def qH (xs:List V) (lo hi:Option Int):List V:=(xs.drop (HT.sIx xs.length 0 lo)).take (HT.sIx xs.length xs.length hi - HT.sIx xs.length 0 lo)
theorem Tl (xs:List V) (lo hi:Option Int):(qH xs lo hi).length<=xs.length:=by
 unfold qH
 rw [List.length_take,List.length_drop]
 omega
noncomputable def Jw (K:PySem.W.Frag):V->Option Int->Option Int->Hp->VK->Prop:=fun x lo hi H Q=>∃ a xs,x=.ref a/\yd K H a xs/\
 ¬ (HT.sIx xs.length 0 lo=0/\HT.sIx xs.length xs.length hi=xs.length)/\∀ p,H p=none->Q (.ref p) (zV H p (.tup (qH xs lo hi)))
theorem GG:ud X (Jw X.K):=by
 intro pins s σ H x v vl vu lo hi sl Q I rx hs pl pu h
 obtain ⟨a,xs,rfl,hx,hw,q⟩:=h
 cases rx
 obtain ⟨its,r,ht,hz⟩:=I.tuple hx
 have hlen:its.toArray.size=xs.length:=by rw [List.size_toArray]; exact r.length.symm
 refine ⟨"tuple",_,PyProof.Rows.slot_tuple_getitem.lookup,ht.typeIs,?_⟩
 refine HT.getItem_tuple_cut ht hs pl pu (by rw [hlen]; exact hw) ?_ (by rw [hlen]; exact hz)
 rw [hlen]
 refine ⟨.ref s.heap.objs.size,_,I.laid (t':=s.toks) (o:=.tup (qH xs lo hi)) (fun b ob q=>Heap.get?_push_of_some _ q) (Nat.le_refl _) ?_,rfl,q _ (I.hok.fresh (Nat.le_refl _))⟩
 exact ⟨Nat.le_trans (Tl xs lo hi) hz,_,(r.drop (HT.sIx xs.length 0 lo)).take (HT.sIx xs.length xs.length hi - HT.sIx xs.length 0 lo),IsTup.new _ _⟩
noncomputable def Jn (K:PySem.W.Frag):R2:=fun x y H Q=>∃ a b xs ys,x=.ref a/\y=.ref b/\yd K H a xs/\yd K H b ys/\xs≠[]/\xs.length+ys.length<=sizeLine/\
 (ys=[]->Q (.ref a) H)/\(ys≠[]->∀ p,H p=none->Q (.ref p) (zV H p (.tup (xs++ys))))
theorem zi.nil_iff {xs:List V} {us:List Value} (r:zi xs us):us=[]↔xs=[]:=by
 cases r with
 | nil=>simp
 | cons _ _=>simp
theorem F9:yP X (binaryOp .Add) (Jn X.K):=by
 intro pins s σ H x y v u Q I rx ry h
 obtain ⟨a,b,xs,ys,rfl,rfl,ha,hb,hx,hz,q1,q2⟩:=h
 cases rx
 cases ry
 obtain ⟨its,r1,p1,_⟩:=I.tuple ha
 obtain ⟨its2,r2,p2,_⟩:=I.tuple hb
 refine HT.cat_tup p1 p2 (fun z=>hx (r1.nil_iff.mp z)) (fun z=>⟨.ref a,H,I,rfl,q1 (r2.nil_iff.mp z)⟩) (fun z=>?_) (by rw [<- r1.length,<- r2.length]; exact hz)
 refine ⟨.ref s.heap.objs.size,_,I.laid (t':=s.toks) (o:=.tup (xs++ys)) (fun b ob q=>Heap.get?_push_of_some _ q) (Nat.le_refl _) ?_,rfl,q2 (fun w=>z (r2.nil_iff.mpr w)) _ (I.hok.fresh (Nat.le_refl _))⟩
 exact ⟨by rw [List.length_append]; exact hz,_,r1.append r2,IsTup.new _ _⟩
end
end L2
namespace L2
open PySem PySem.Spec PyProof.Rows
noncomputable def ixN (n:Nat) (i:Int):Option Nat:=if 0<=i then (if i<n then some i.toNat else none) else if -(n:Int)<=i then some (i+n).toNat else none
noncomputable def vq {α:Type} (xs:List α) (i:Int):Option α:=(ixN xs.length i).bind fun j=>xs[j]?
theorem Qi {n:Nat} {i:Int} {j:Nat} (h:ixN n i=some j):seqIndex? i n=some j/\j<n /\ -(n:Int)<=i/\i<n:=by
 unfold ixN at h
 by_cases h0:0<=i
 ·rw [if_pos h0] at h
  by_cases h1:i<n
  ·rw [if_pos h1] at h
   have e:i.toNat=j:=Option.some.inj h
   exact ⟨by rw [seqIndex_of h0 h1,e],by omega,by omega,h1⟩
  ·rw [if_neg h1] at h; cases h
 ·rw [if_neg h0] at h
  by_cases h1 : -(n:Int)<=i
  ·rw [if_pos h1] at h
   have e:(i+n).toNat=j:=Option.some.inj h
   exact ⟨by rw [seqIndex_neg (by omega) h1,e],by omega,h1,by omega⟩
  ·rw [if_neg h1] at h; cases h
theorem W2 {α:Type} {xs:List α} {i:Int} {v:α} (h:vq xs i=some v):∃ j,seqIndex? i xs.length=some j/\xs[j]?=some v/\j<xs.length /\ -(xs.length:Int)<=i/\i<xs.length:=by
 unfold vq at h
 cases e:ixN xs.length i with
 | none=>rw [e] at h; cases h
 | some j=>
  rw [e] at h
  obtain ⟨h1,h2,h3,h4⟩:=Qi e
  exact ⟨j,h1,h,h2,h3,h4⟩
noncomputable def T4 (b:Expr):Prop:=∀ o i,subscripted b false o i=operate [o,i] (getItem o i)
noncomputable def vU (X:Cx) (r:R2):Prop:=
 ∀ (value slice:Expr) (pins:List (Addr×Obj)) (s:Shared) (σ:St) (H:Hp) (x y:V) (v u:Value) (Q:VK),Inv X pins σ H s->zp x v->zp y u->r x y H Q->
  subscripted slice false v u=operate [v,u] (getItem v u)->wpAny (model X.prog X.w) X.A (subscriptTail value slice v u) (EP X pins σ Q) X.xe s
noncomputable def qC (X:Cx) (id:String) (r:V->List V->Hp->VK->Prop):Prop:=
 ∀ (pins:List (Addr×Obj)) (s:Shared) (σ:St) (H:Hp) (x:V) (xs:List V) (v:Value) (us:List Value) (Q:VK),Inv X pins σ H s->zp x v->zi xs us->r x xs H Q->
  wpAny (model X.prog X.w) X.A (call (.builtin id) (v::us)) (EP X pins σ Q) X.xe s
section
variable {X:Cx} {a b:Expr} {ta tb:TE} {pos:Pos}
theorem vU.or {r r':R2} (h:vU X r) (h':vU X r'):vU X (fun x y H Q=>r x y H Q\/r' x y H Q):=by
 intro value slice pins s σ H x y v u Q I rx ry q hs
 rcases q with q | q
 ·exact h value slice pins s σ H x y v u Q I rx ry q hs
 ·exact h' value slice pins s σ H x y v u Q I rx ry q hs
theorem VU {r:R2} (hr:vU X r) (ha:PE X a ta) (hb:PE X b tb) (hs:T4 b):PE X (.Subscript a b pos) (Ya r ta tb):=by
 intro pins s σ H Q I h
 exact Subscript_ (WR ha hb I h fun v u s2 x y H2 I2 rx ry q=>hr a b pins s2 σ H2 x y v u Q I2 rx ry q (hs _ _))
noncomputable def Jq (K:PySem.W.Frag):R2:=fun x y H Q=>∃ p xs i v,x=.ref p/\y=.int i/\yO K H p xs/\vq xs i=some v/\Q v H
noncomputable def Js (K:PySem.W.Frag):R2:=fun x y H Q=>∃ p xs i v,x=.ref p/\y=.int i/\yd K H p xs/\vq xs i=some v/\Q v H
noncomputable def Jr:R2:=fun x y H Q=>∃ z i c,x=.str z/\y=.int i/\z.length<=sizeLine/\vq z.cps.toList i=some c/\Q (.str ⟨#[c]⟩) H
theorem B2:vU X (Jq X.K):=by
 intro value slice pins s σ H x y v u Q I rx ry h hs
 obtain ⟨p,xs,i,z,rfl,rfl,hq,he,q⟩:=h
 cases rx
 obtain ⟨t,rfl⟩:=ry
 obtain ⟨its,r,pl,hz⟩:=I.list hq
 obtain ⟨j,h1,h2,h3,h4,h5⟩:=W2 he
 obtain ⟨w,ew,rw'⟩:=r.get h2
 have hl:=r.length
 have hn:=pG
 have fin:EP X pins σ Q w s:=⟨z,H,I,rw',q⟩
 by_cases h0:0<=i
 ·have hj:i.toNat=j:=by
   rw [seqIndex_of h0 h5] at h1
   exact Option.some.inj h1
  exact item_listR pl.isList h0 (by omega) (by rw [hj]; simpa using ew) fin hs
 ·have hj:(i+(its.toArray.size:Int)).toNat=j:=by
   rw [seqIndex_neg (by omega) h4] at h1
   rw [List.size_toArray,<- hl]
   exact Option.some.inj h1
  exact subscriptTail_builtinR (x:=w) pl.isList.typeIs slot_list_getitem.lookup
   (wpAny_getItem_list_neg (Q:=fun r s'=>r=w/\EP X pins σ Q r s') pl.isList (by omega) (by rw [List.size_toArray]<;>omega) (by omega) (by rw [hj]; simpa using ew) ⟨rfl,fin⟩) hs
theorem B5:vU X (Js X.K):=by
 intro value slice pins s σ H x y v u Q I rx ry h hs
 obtain ⟨p,xs,i,z,rfl,rfl,hq,he,q⟩:=h
 cases rx
 obtain ⟨t,rfl⟩:=ry
 obtain ⟨its,r,pl,hz⟩:=I.tuple hq
 obtain ⟨j,h1,h2,h3,h4,h5⟩:=W2 he
 obtain ⟨w,ew,rw'⟩:=r.get h2
 have hl:=r.length
 have hn:=pG
 have fin:EP X pins σ Q w s:=⟨z,H,I,rw',q⟩
 exact subscriptTail_builtinR (x:=w) pl.typeIs slot_tuple_getitem.lookup
  (getItem_tuple (j:=j) (Q:=fun r s'=>r=w/\EP X pins σ Q r s') pl (by omega) (by omega) (by rw [List.size_toArray,<- hl]; exact h1) (by simpa using ew) ⟨rfl,fin⟩) hs
theorem B4:vU X Jr:=by
 intro value slice pins s σ H x y v u Q I rx ry h hs
 obtain ⟨z,i,c,rfl,rfl,hz,he,q⟩:=h
 obtain ⟨t,rfl⟩:=rx
 obtain ⟨t',rfl⟩:=ry
 obtain ⟨j,h1,h2,h3,h4,h5⟩:=W2 he
 have hl:z.cps.toList.length=z.length:=by simp [Str.length]
 rw [hl] at h1 h4 h5
 have hn:=pG
 exact tail_any (typeIs_str s z t) slot_str_getitem.lookup (getItem_str (c:=c) (by
  have e1:decide (i < -(2 ^ 63:Int))=false:=decide_eq_false (by omega)
  have e2:decide (i ≥ 2 ^ 63)=false:=decide_eq_false (by omega)
  rw [e1,e2,Bool.or_false]) (by rw [h1]; simpa using h2) ⟨.str ⟨#[c]⟩,H,I.tok _,⟨_,rfl⟩,q⟩) hs
noncomputable def Vf (K:PySem.W.Frag):R2:=fun x y H Q=>Jq K x y H Q\/Js K x y H Q\/Jr x y H Q
theorem B3:vU X (Vf X.K):=B2.or (B5.or B4)
theorem Bo (its:List Value) (n j:Nat) (u:Value):Obj.mapSeq (·.setIfInBounds j u) { cls:=.type "list",data:=.seq its.toArray n }={ cls:=.type "list",data:=.seq (its.set j u).toArray n }:=by
 simp [Obj.mapSeq]
theorem Inv.lst {pins:List (Addr×Obj)} {σ:St} {H:Hp} {s:Shared} {p:Addr} {xs:List V} (I:Inv X pins σ H s) (h:H p=some (.lst xs)) :
  ∃ (its:List Value) (n:Nat),zi xs its/\s.heap.get? p=some { cls:=.type "list",data:=.seq its.toArray n }/\xs.length<=sizeLine:=by
 obtain ⟨z,its,n,r,e⟩:=I.hok p _ h
 exact ⟨its,n,r,e,z⟩
theorem Inv.lstUpd {pins:List (Addr×Obj)} {σ:St} {H:Hp} {s:Shared} {p:Addr} {xs ys:List V} {its its':List Value} {n n':Nat} {f:Obj->Obj} (I:Inv X pins σ H s) (h:H p=some (.lst xs))
  (ho:s.heap.get? p=some { cls:=.type "list",data:=.seq its.toArray n }) (hf:f { cls:=.type "list",data:=.seq its.toArray n }={ cls:=.type "list",data:=.seq its'.toArray n' }) (r:zi ys its') (hz:ys.length<=sizeLine) (t:Nat) :
  Inv X pins σ (zV H p (.lst ys)) { s with heap:=s.heap.update p f,toks:=t }:=by
 have e:(s.heap.update p f).get? p=some { cls:=.type "list",data:=.seq its'.toArray n' }:=by
  rw [Heap.get?_update_self f ho (by rw [hf]<;>rfl),hf]
 refine I.write (x:=p) (e:=p) (by rw [h]; trivial) (.inl rfl) (fun b u hb q=>(Heap.get?_update_other _ _ (Ne.symm hb)).trans q) ⟨_,e⟩ ?_
 exact ⟨hz,its',n',r,e⟩
noncomputable def E8:V->V->V->Hp->(Hp->Prop)->Prop:=fun o i v H Q=>∃ p xs k j,o=.ref p/\i=.int k/\H p=some (.lst xs)/\ixN xs.length k=some j/\Q (zV H p (.lst (xs.set j v)))
theorem Ew:Xz X E8:=by
 intro pins s σ H o i v ov iv u Q I ro ri rv h
 obtain ⟨p,xs,k,j,rfl,rfl,hp,hj,q⟩:=h
 cases ro
 obtain ⟨t,rfl⟩:=ri
 obtain ⟨its,n,r,ho,hz⟩:=I.lst hp
 obtain ⟨h1,h2,h3,h4⟩:=Qi hj
 have hl:=r.length
 have hn:=pG
 have I':Inv X pins σ (zV H p (.lst (xs.set j v))) { s with heap:=s.heap.update p (Obj.mapSeq (·.setIfInBounds j u)) }:=
  I.lstUpd hp ho (Bo its n j u) (r.set rv j) (by rw [List.length_set]; exact hz) s.toks
 by_cases h0:0<=k
 ·have hk:k.toNat=j:=by
   rw [seqIndex_of h0 h4] at h1
   exact Option.some.inj h1
  exact PySem.W.ki_setAt ho h0 (by omega) (by rw [List.size_toArray,<- hl]; exact h4) (by rw [hk]; exact ⟨_,I',q⟩)
 ·have hk:(k+(its.toArray.size:Int)).toNat=j:=by
   rw [seqIndex_neg (by omega) h3] at h1
   rw [List.size_toArray,<- hl]
   exact Option.some.inj h1
  exact PySem.W.ki_setBack ho (by omega) (by rw [List.size_toArray,<- hl]; exact h3) (by omega) (by rw [hk]; exact ⟨_,I',q⟩)
theorem GJ (lo hi:Option Int) (n:Nat):(sliceBounds lo hi none n).1=((HT.sIx n 0 lo:Nat):Int)/\(sliceBounds lo hi none n).2.1=((HT.sIx n n hi:Nat):Int)/\(sliceBounds lo hi none n).2.2=1:=by
 refine ⟨?_,?_,rfl⟩
 ·cases lo with
  | none=>simp [sliceBounds,HT.sIx]
  | some i=>
   simp only [sliceBounds,HT.sIx,Option.getD_none,show (1:Int) > 0 by decide,if_true]
   by_cases h:i<0
   ·simp only [h,if_true]<;>omega
   ·simp only [h,if_false]<;>omega
 ·cases hi with
  | none=>simp [sliceBounds,HT.sIx]
  | some i=>
   simp only [sliceBounds,HT.sIx,Option.getD_none,show (1:Int) > 0 by decide,if_true]
   by_cases h:i<0
   ·simp only [h,if_true]<;>omega
   ·simp only [h,if_false]<;>omega
theorem GI (its:List Value) (lo hi:Option Int):slicePick its.toArray lo hi none=((its.drop (HT.sIx its.length 0 lo)).take (HT.sIx its.length its.length hi - HT.sIx its.length 0 lo)).toArray:=by
 obtain ⟨h1,h2,h3⟩:=GJ lo hi its.toArray.size
 unfold slicePick
 rw [h1,h2,h3]
 simp only [sliceRange_one,pick_run,List.size_toArray]<;>rfl
noncomputable def Ju (K:PySem.W.Frag):V->Option Int->Option Int->Hp->VK->Prop:=fun x lo hi H Q=>∃ a xs,x=.ref a/\yO K H a xs/\∀ p,H p=none->Q (.ref p) (zV H p (.lst (qH xs lo hi)))
theorem GE:ud X (Ju X.K):=by
 intro pins s σ H x v vl vu lo hi sl Q I rx hs pl pu h
 obtain ⟨a,xs,rfl,hx,q⟩:=h
 cases rx
 obtain ⟨its,r,ht,hz⟩:=I.list hx
 have hlen:=r.length
 refine ⟨"list",_,slot_list_getitem.lookup,ht.isList.typeIs,?_⟩
 refine wpAny_getItem_list_slice ht.isList hs pl pu .none (by simp) ?_ (by rw [List.size_toArray]<;>omega)
 rw [GI,<- hlen]
 refine ⟨.ref s.heap.objs.size,_,I.laid (t':=s.toks) (o:=.lst (qH xs lo hi)) (fun b ob q=>Heap.get?_push_of_some _ q) (Nat.le_refl _) ?_,rfl,q _ (I.hok.fresh (Nat.le_refl _))⟩
 exact ⟨Nat.le_trans (Tl xs lo hi) hz,_,0,(r.drop (HT.sIx xs.length 0 lo)).take (HT.sIx xs.length xs.length hi - HT.sIx xs.length 0 lo),Heap.get?_push_size _ rfl⟩
noncomputable def wo:V->Bool
 | .non=>true
 | .bl _=>true
 | .int _=>true
 | .str _=>true
 | _=>false
noncomputable def wM:V->V->Bool
 | .non,.non=>true
 | .bl a,.bl b=>a == b
 | .bl a,.int b=>(if a then 1 else 0) == b
 | .int a,.bl b=>a == (if b then 1 else 0)
 | .int a,.int b=>a == b
 | .str a,.str b=>a == b
 | _,_=>false
theorem Ty {A:Around} {s:Shared} {y x:V} {u v:Value} (ry:zp y u) (rx:zp x v) (fy:wo y=true) (fx:wo x=true):SeqAt.EqAt A s u v (wM y x):=by
 cases y with
 | non=>
  cases ry
  cases x with
  | non=>cases rx; exact SeqAt.EqAt.same _
  | bl b=>cases rx; exact SeqAt.EqAt.none_bool b
  | int b=>obtain ⟨t,rfl⟩:=rx; exact SeqAt.EqAt.none_int b t
  | str b=>obtain ⟨t,rfl⟩:=rx; exact SeqAt.EqAt.none_str b t
  | _=>exact absurd (show false=true from fx) Bool.false_ne_true
 | bl a=>
  cases ry
  cases x with
  | non=>cases rx; exact SeqAt.EqAt.bool_none a
  | bl b=>cases rx; exact SeqAt.EqAt.bool_bool a b
  | int b=>obtain ⟨t,rfl⟩:=rx; exact SeqAt.EqAt.bool_int a b t
  | str b=>obtain ⟨t,rfl⟩:=rx; exact SeqAt.EqAt.bool_str a b t
  | _=>exact absurd (show false=true from fx) Bool.false_ne_true
 | int a=>
  obtain ⟨t',rfl⟩:=ry
  cases x with
  | non=>cases rx; exact SeqAt.EqAt.int_none a t'
  | bl b=>cases rx; exact SeqAt.EqAt.int_bool a t' b
  | int b=>obtain ⟨t,rfl⟩:=rx; exact SeqAt.EqAt.int_int a t' b t
  | str b=>obtain ⟨t,rfl⟩:=rx; exact SeqAt.EqAt.int_str a t' b t
  | _=>exact absurd (show false=true from fx) Bool.false_ne_true
 | str a=>
  obtain ⟨t',rfl⟩:=ry
  cases x with
  | non=>cases rx; exact SeqAt.EqAt.str_none a t'
  | bl b=>cases rx; exact SeqAt.EqAt.str_bool a t' b
  | int b=>obtain ⟨t,rfl⟩:=rx; exact SeqAt.EqAt.str_int a t' b t
  | str b=>obtain ⟨t,rfl⟩:=rx; exact SeqAt.EqAt.str_str a t' b t
  | _=>exact absurd (show false=true from fx) Bool.false_ne_true
 | _=>exact absurd (show false=true from fy) Bool.false_ne_true
noncomputable def wB (x:V) (u:Value):Bool:=match u with
 | .none=>wM .non x
 | .bool b=>wM (.bl b) x
 | .int i _=>wM (.int i) x
 | .str z _=>wM (.str z) x
 | _=>false
theorem ZX {x y:V} {u:Value} (r:zp y u) (f:wo y=true):wB x u=wM y x:=by
 cases y with
 | non=>cases r; rfl
 | bl b=>cases r; rfl
 | int i=>obtain ⟨t,rfl⟩:=r; rfl
 | str z=>obtain ⟨t,rfl⟩:=r; rfl
 | _=>exact absurd (show false=true from f) Bool.false_ne_true
theorem gT {x:V}:∀ {xs:List V} {us:List Value},zi xs us->xs.all wo=true->us.any (wB x)=xs.any fun y=>wM y x
 | _,_,.nil,_=>rfl
 | y::xs,u::us,.cons r t,f=>by
  rw [List.all_cons,Bool.and_eq_true] at f
  rw [List.any_cons,List.any_cons,ZX r f.1,gT t f.2]
theorem pH {A:Around} {s:Shared} {x:V} {v:Value} (rx:zp x v) (fx:wo x=true):∀ {xs:List V} {us:List Value},zi xs us->xs.all wo=true->∀ u∈us,SeqAt.EqAt A s u v (wB x u)
 | _,_,.nil,_=>fun u hu=>by cases hu
 | y::xs,u::us,.cons r t,f=>fun u' hu=>by
  rw [List.all_cons,Bool.and_eq_true] at f
  rcases List.mem_cons.mp hu with rfl | hu
  ·rw [ZX r f.1]; exact Ty r rx f.1 fx
  ·exact pH rx fx t f.2 u' hu
noncomputable def Zq (x:V) (xs:List V):Bool:=xs.any fun y=>wM y x
noncomputable def Vd (K:PySem.W.Frag) (neg:Bool):R2:=fun x y H Q=>∃ p xs,y=.ref p/\(yO K H p xs\/yd K H p xs)/\wo x=true/\xs.all wo=true/\Q (.bl (if neg then !Zq x xs else Zq x xs)) H
theorem FD:yP X (compareOp .In) (Vd X.K false):=by
 intro pins s σ H x y v u Q I rx ry h
 obtain ⟨p,xs,rfl,hq,fx,fs,q⟩:=h
 cases ry
 rcases hq with hq | hq
 ·obtain ⟨its,r,pl,hz⟩:=I.list hq
  refine SeqAt.in_listAt (wB x) pl.isList (fun w hw=>pH rx fx r fs w (by simpa using hw)) ⟨.bl _,H,I,rfl,?_⟩
  rw [show its.toArray.any (wB x)=its.any (wB x) by simp,gT r fs]
  exact q
 ·obtain ⟨its,r,pl,hz⟩:=I.tuple hq
  refine SeqAt.in_tupleAt (wB x) pl (fun w hw=>pH rx fx r fs w (by simpa using hw)) ⟨.bl _,H,I,rfl,?_⟩
  rw [show its.toArray.any (wB x)=its.any (wB x) by simp,gT r fs]
  exact q
theorem FN:yP X (compareOp .NotIn) (Vd X.K true):=by
 intro pins s σ H x y v u Q I rx ry h
 obtain ⟨p,xs,rfl,hq,fx,fs,q⟩:=h
 cases ry
 rcases hq with hq | hq
 ·obtain ⟨its,r,pl,hz⟩:=I.list hq
  refine SeqAt.notIn_listAt (wB x) pl.isList (fun w hw=>pH rx fx r fs w (by simpa using hw)) ⟨.bl _,H,I,rfl,?_⟩
  rw [show its.toArray.any (wB x)=its.any (wB x) by simp,gT r fs]
  exact q
 ·obtain ⟨its,r,pl,hz⟩:=I.tuple hq
  refine SeqAt.notIn_tupleAt (wB x) pl (fun w hw=>pH rx fx r fs w (by simpa using hw)) ⟨.bl _,H,I,rfl,?_⟩
  rw [show its.toArray.any (wB x)=its.any (wB x) by simp,gT r fs]
  exact q
theorem FP:yP X (compareOp .NotIn) (fun x y H Q=>∃ i j,x=.str i/\y=.str j/\Q (.bl (!(!(Builtin.Str.occurrences j i 0 j.length 1).isEmpty))) H):=by
 intro pins s σ H x y v u Q I rx ry h
 obtain ⟨i,j,rfl,rfl,q⟩:=h
 obtain ⟨t,rfl⟩:=rx
 obtain ⟨t',rfl⟩:=ry
 exact notIn_str ⟨.bl _,H,I,rfl,q⟩
theorem LD:xT X (.builtin "len") (fun xs H Q=>∃ p ys,xs=[.ref p]/\(yO X.K H p ys\/yd X.K H p ys)/\Q (.int ys.length) H):=by
 intro pins s σ H xs us Q I r h
 obtain ⟨p,ys,rfl,hq,q⟩:=h
 obtain ⟨u,rfl,rx⟩:=wR r
 cases rx
 have hn:=pG
 rcases hq with hq | hq
 ·obtain ⟨its,r',pl,hz⟩:=I.list hq
  have hlen:=r'.length
  exact Calls.call_len_list pl.isList (by simp only [List.size_toArray]<;>omega) ⟨.int ys.length,H,I.tok _,⟨s.toks+1,by rw [List.size_toArray,hlen]⟩,q⟩
 ·obtain ⟨its,r',pl,hz⟩:=I.tuple hq
  have hlen:=r'.length
  exact len_tuple pl (by simp only [List.size_toArray]<;>omega) ⟨.int ys.length,H,I.tok _,⟨s.toks+1,by rw [List.size_toArray,hlen]⟩,q⟩
theorem LE:xT X (.builtin "len") (fun xs H Q=>∃ z,xs=[.str z]/\z.length<=sizeLine/\Q (.int z.length) H):=by
 intro pins s σ H xs us Q I r h
 obtain ⟨z,rfl,hz,q⟩:=h
 obtain ⟨u,rfl,t,rfl⟩:=wR r
 have hn:=pG
 exact len_str (by omega) ⟨.int z.length,H,I.tok _,⟨_,rfl⟩,q⟩
theorem xT.or {f:Value} {r r':List V->Hp->VK->Prop} (h:xT X f r) (h':xT X f r'):xT X f (fun xs H Q=>r xs H Q\/r' xs H Q):=by
 intro pins s σ H xs us Q I rs q
 rcases q with q | q
 ·exact h pins s σ H xs us Q I rs q
 ·exact h' pins s σ H xs us Q I rs q
theorem LG:xT X (.type "list") (fun xs H Q=>∃ p ys,xs=[.ref p]/\(yO X.K H p ys\/yd X.K H p ys)/\∀ l,H l=none->Q (.ref l) (zV H l (.lst ys))):=by
 intro pins s σ H xs us Q I r h
 obtain ⟨p,ys,rfl,hq,q⟩:=h
 obtain ⟨u,rfl,rx⟩:=wR r
 cases rx
 have fin:∀ (its:List Value),zi ys its->ys.length<=sizeLine->∀ (h':Heap) (c':Nat),(∀ b o',s.heap.get? b=some o'->h'.get? b=some o')->
   h'.get? s.heap.objs.size=some { cls:=.type "list",dict:=none,data:=.seq its.toArray c',slots:=#[] }->EP X pins σ Q (.ref s.heap.objs.size) { s with heap:=h' }:=fun its r' hz h' c' kp e=>
  ⟨.ref s.heap.objs.size,_,I.laid (t':=s.toks) kp (Nat.le_refl _) (show yc X.prog X.w _ h' _ (.lst ys) from ⟨hz,its,c',r',e⟩),rfl,q _ (I.hok.fresh (Nat.le_refl _))⟩
 rcases hq with hq | hq
 ·obtain ⟨its,r',pl,hz⟩:=I.list hq
  have hlen:=r'.length
  obtain ⟨o,ho,hc,n,hd⟩:=pl.isList
  exact call_list_seq p (.inl rfl) ho hc hd (fun h' c' kp e=>fin its r' hz h' c' kp e) (by simp only [List.size_toArray]<;>omega)
 ·obtain ⟨its,r',pl,hz⟩:=I.tuple hq
  have hlen:=r'.length
  obtain ⟨o,ho,hc,n,hd⟩:=pl
  exact call_list_seq p (.inr rfl) ho hc hd (fun h' c' kp e=>fin its r' hz h' c' kp e) (by simp only [List.size_toArray]<;>omega)
theorem LO:xT X (.type "tuple") (fun xs H Q=>∃ p ys,xs=[.ref p]/\((yO X.K H p ys/\∀ l,H l=none->Q (.ref l) (zV H l (.tup ys)))\/(yd X.K H p ys/\Q (.ref p) H))):=by
 intro pins s σ H xs us Q I r h
 obtain ⟨p,ys,rfl,h⟩:=h
 obtain ⟨u,rfl,rx⟩:=wR r
 cases rx
 rcases h with ⟨hq,q⟩ | ⟨hq,q⟩
 ·obtain ⟨its,r',pl,hz⟩:=I.list hq
  have hlen:=r'.length
  refine call_tuple_list pl.isList (fun h' kp=>?_) (by simp only [List.size_toArray]<;>omega)
  have I1:Inv X pins σ H { s with heap:=h' }:=I.kept (t':=s.toks) kp
  have I2:Inv X pins σ (zV H h'.objs.size (.tup ys)) { s with heap:=h'.push { cls:=.type "tuple",data:=.seq its.toArray } }:=
   I1.laid (t':=s.toks) (fun b o e=>Heap.get?_push_of_some _ e) (Nat.le_refl _) (show yc X.prog X.w _ _ _ (.tup ys) from ⟨hz,its,r',IsTup.new _ _⟩)
  exact ⟨.ref h'.objs.size,_,I2,rfl,q _ (I1.hok.fresh (Nat.le_refl _))⟩
 ·obtain ⟨its,r',pl,hz⟩:=I.tuple hq
  exact call_tuple_same pl ⟨.ref p,H,I,rfl,q⟩
noncomputable def OB (K:PySem.W.Frag) (T:String) (x:V) (H:Hp):Prop:=match x with
 | .str _=>T = "str"
 | .int _=>T = "int"
 | .ref p=>(T = "list" /\ ∃ xs,yO K H p xs)\/(T = "tuple" /\ ∃ o,K.lookup p=some o/\o.cls=.type "tuple" /\ o.dict=none) \/
   (T = "dict" /\ ((∃ kvs,H p=some (.dK kvs))\/∃ kvs,H p=some (.dT kvs)))\/(T = "set" /\ ∃ S n,H p=some (.set S n))
 | _=>False
theorem Hc {pins:List (Addr×Obj)} {σ:St} {H:Hp} {s:Shared} {T:String} {x:V} {v:Value} (I:Inv X pins σ H s) (r:zp x v) (ty:OB X.K T x H) :
  s.TypeIs v T/\∀ a,v=.ref a->∃ ob,s.heap.get? a=some ob/\ob.dict=none:=by
 cases x with
 | str z=>
  obtain ⟨t,rfl⟩:=r
  cases (show T = "str" from ty)
  exact ⟨typeIs_str s z t,fun _ e=>nomatch e⟩
 | int i=>
  obtain ⟨t,rfl⟩:=r
  cases (show T = "int" from ty)
  exact ⟨typeIs_int s i t,fun _ e=>nomatch e⟩
 | ref p=>
  cases r
  rcases ty with ⟨rfl,xs,hq⟩ | ⟨rfl,o,hk,hc,hd⟩ | ⟨rfl,hk⟩ | ⟨rfl,S,n,hk⟩
  ·obtain ⟨its,_,pl,_⟩:=I.list hq
   refine ⟨pl.isList.typeIs,fun a e=>?_⟩
   cases e
   obtain ⟨o,n,e,c,hd,_⟩:=pl
   exact ⟨o,e,hd⟩
  ·refine ⟨⟨o,I.kIn p o hk,hc⟩,fun a e=>?_⟩
   cases e
   exact ⟨o,I.kIn _ o hk,hd⟩
  ·have z:∃ o,s.heap.get? p=some o/\o.ExactDict:=by
    rcases hk with ⟨kvs,hk⟩ | ⟨kvs,hk⟩
    ·obtain ⟨_,_,_,_,o,_,_,e,ex,_⟩:=I.hok p _ hk
     exact ⟨o,e,ex⟩
    ·obtain ⟨_,_,_,_,o,_,_,e,ex,_⟩:=I.hok p _ hk
     exact ⟨o,e,ex⟩
   obtain ⟨o,e,ex⟩:=z
   refine ⟨⟨o,e,ex.1⟩,fun a e2=>?_⟩
   cases e2
   exact ⟨o,e,ex.2.1⟩
  ·obtain ⟨o,_,_,_,e,ex,_⟩:=I.hok p _ hk
   refine ⟨⟨o,e,ex.1⟩,fun a e2=>?_⟩
   cases e2
   exact ⟨o,e,ex.2.1⟩
 | _=>exact False.elim ty
noncomputable def I_ (K:PySem.W.Frag) (T:String) (r:V->List V->Hp->VK->Prop) (to:TE) (t:TA):TE:=fun σ H Q=>to σ H fun x H1=>OB K T x H1/\t σ H1 fun xs H2=>r x xs H2 Q
variable {o e:Expr} {es:List Expr} {to:TE} {t:TA} {name:Str} {apos cpos:Pos} {T id:String} {r:V->List V->Hp->VK->Prop}
theorem Fb (pa:PlainAttrs T) (slot:Slot T name id) (hty:typeOf (.builtin id)=pure (.type "method_descriptor")) (hm:qC X id r) (ho:PE X o to) (ha:PA X (e::es) t)
  (hbase:attributeBase o name X.env (eval o X.env)=eval o X.env:=by rfl)
  (hfew:((backTo cpos (starEach (e::es) X.env)).all (fun x=>!x.1)&&(backToKw cpos (keywordEach [] X.env)).all (fun x=>x.1.isSome)
   && decide ((e::es).length+([]:List Keyword).length+(if ([]:List Keyword).isEmpty then 0 else 1)<30))=true:=by rfl)
  (hline:(apos.endLine == cpos.line)=true:=by rfl) (hs:starEach (e::es) X.env=(false,eval e X.env)::starEach es X.env:=by rfl) (hplain:(backTo cpos (starEach es X.env)).any (·.1)=false:=by rfl) :
  PE X (.Call (.Attribute o name apos) (e::es) [] cpos) (I_ X.K T r to t):=by
 intro pins s σ H Q I h
 refine wpAny_Call_method_late hbase hfew hline rfl (zg (ho pins s σ H _ I h) fun v s1 ⟨x,H1,I1,r1,ty,q1⟩=>?_)
 obtain ⟨h1,h2⟩:=Hc I1 r1 ty
 refine ⟨T,id,pa,slot,hty,h1,h2,?_⟩
 have hA:=ha cpos pins s1 σ H1 _ I1 q1
 rw [hs] at hA ⊢
 refine Calls.callWith_builtin (by show (false||(backTo cpos (starEach es X.env)).any (·.1))=false; rw [hplain]<;>rfl) (Calls.evalArgs_plain ?_)
 exact zg hA fun us s2 ⟨vs,H2,I2,r2,q2⟩=>hm pins s2 σ H2 x vs v us Q I2 r1 r2 q2
end
end L2
namespace L2
open PySem PySem.Spec PyProof.Rows
noncomputable def T1 (X:Cx) (id:String) (r:V->List V->Hp->VK->Prop):Prop:=
 ∀ (pins:List (Addr×Obj)) (s:Shared) (σ:St) (H:Hp) (x:V) (xs:List V) (v:Value) (us:List Value) (Q:VK),Inv X pins σ H s->zp x v->zi xs us->r x xs H Q->
  wpAny (model X.prog X.w) X.A (call (.builtin id) (v::us)) (EP X pins σ Q) X.xe s
theorem zi.one:∀ {x:V} {us:List Value},zi [x] us->∃ u,us=[u]/\zp x u
 | _,_,.cons r .nil=>⟨_,rfl,r⟩
section
variable {X:Cx} {pins:List (Addr×Obj)} {σ:St} {H:Hp} {s:Shared} {l b:Addr} {xs ys zs:List V}
theorem Inv.lset {its its':List Value} {n:Nat} {f:Array Value->Array Value} {t':Nat} (I:Inv X pins σ H s) (hH:H l=some (.lst xs))
  (e:s.heap.get? l=some { cls:=.type "list",data:=.seq its.toArray n }) (hf:f its.toArray=its'.toArray) (hv:zi ys its') (hz:ys.length<=sizeLine) :
  Inv X pins σ (zV H l (.lst ys)) { s with heap:=s.heap.update l (Obj.mapSeq f),toks:=t' }:=by
 have q:=PySem.IsL.update e f
 rw [hf] at q
 refine I.write (x:=l) (e:=l) (by rw [hH]; exact trivial) (.inl rfl) (fun b' u hb hu=>(Heap.get?_update_other s.heap (Obj.mapSeq f) (Ne.symm hb)).trans hu) ⟨_,q⟩ ?_
 exact ⟨hz,its',_,hv,q⟩
theorem Inv.lnew {its:List Value} {t':Nat} (I:Inv X pins σ H s) (hv:zi ys its) (hz:ys.length<=sizeLine) :
  Inv X pins σ (zV H s.heap.objs.size (.lst ys)) { s with heap:=s.heap.push { cls:=.type "list",data:=.seq its.toArray },toks:=t' }:=
 I.laid (fun _ _ q=>Heap.get?_push_of_some _ q) (Nat.le_refl _) ⟨hz,its,0,hv,Heap.get?_push_size _ rfl⟩
theorem Inv.fresh (I:Inv X pins σ H s):H s.heap.objs.size=none:=I.hok.fresh (Nat.le_refl _)
theorem Inv.lstM (I:Inv X pins σ H s) (hH:H l=some (.lst xs)):xs.length<=sizeLine/\∃ (its:List Value) (n:Nat),zi xs its/\xs.length=its.length/\s.heap.get? l=some { cls:=.type "list",data:=.seq its.toArray n }:=by
 obtain ⟨z,its,n,r,e⟩:=I.hok l _ hH
 exact ⟨z,its,n,r,r.length,e⟩
theorem D7 {n:Nat} (h:n<=sizeLine):Builtin.List.listTooLong n=false:=by
 unfold Builtin.List.listTooLong
 exact decide_eq_false (by omega)
end
section
variable {X:Cx}
noncomputable def C_:V->List V->Hp->VK->Prop:=fun x vs H Q=>∃ l xs y,x=.ref l/\vs=[y]/\H l=some (.lst xs)/\xs.length<sizeLine/\Q .non (zV H l (.lst (xs++[y])))
theorem Br:T1 X "list.append" C_:=by
 intro pins s σ H x vs v us Q I rx rv h
 obtain ⟨l,xs,y,rfl,rfl,hH,hz,q⟩:=h
 cases rx
 obtain ⟨u,rfl,ru⟩:=rv.one
 obtain ⟨z,its,n,r,hl,e⟩:=I.lstM hH
 refine call_meets F.slot_list_append ⟨_,e,rfl⟩ F.entry_list_append (F.args_list_append_2 _ _) (PySem.list_append l its.toArray n u (by rw [List.size_toArray]; omega)) ⟨e,?_⟩
 refine ⟨.non,_,I.lset (its':=its++[u]) hH e (by simp) (r.append (.cons ru .nil)) ?_,rfl,q⟩
 rw [List.length_append,List.length_singleton]
 omega
noncomputable def E2:V->List V->Hp->VK->Prop:=fun x vs H Q=>∃ l b xs zs,x=.ref l/\vs=[.ref b]/\H l=some (.lst xs)/\H b=some (.lst zs)/\xs.length+zs.length<=sizeLine/\Q .non (zV H l (.lst (xs++zs)))
theorem Bs:T1 X "list.extend" E2:=by
 intro pins s σ H x vs v us Q I rx rv h
 obtain ⟨l,b,xs,zs,rfl,rfl,hH,hB,hz,q⟩:=h
 cases rx
 obtain ⟨u,rfl,ru⟩:=rv.one
 cases ru
 obtain ⟨z,its,n,r,hl,e⟩:=I.lstM hH
 obtain ⟨z2,its2,n2,r2,hl2,e2⟩:=I.lstM hB
 have hsz:its.toArray.size+its2.toArray.size<=sizeLine:=by rw [List.size_toArray,List.size_toArray]; omega
 have hlong:¬ (!its.toArray.isEmpty&&Builtin.List.listTooLong (its.toArray.size+its2.toArray.size))=true:=by
  rw [D7 hsz,Bool.and_false]
  exact Bool.false_ne_true
 refine call_meets F.slot_list_extend ⟨_,e,rfl⟩ F.entry_list_extend (F.args_list_extend_2 _ _)
  (AutoSeq1.list_extend_list_list_0 l its.toArray n b its2.toArray n2 hlong (by rw [List.size_toArray]; omega) (by omega)) ⟨e,e2,?_⟩
 refine ⟨.non,_,I.lset (its':=its++its2) hH e (by simp) (r.append r2) ?_,rfl,q⟩
 rw [List.length_append]
 omega
end
end L2
namespace Att
open PySem PySem.W PySem.Calls PyProof.Rows
theorem Mt {P:Params} {h:Heap}:∀ (ns:List Int) (vs:List Value),WellAll P h vs (ns.map WData.int)->IntsAre vs ns:=by
 intro ns
 induction ns with
 | nil=>
  intro vs w
  rw [List.map_nil] at w
  cases w
  exact .nil
 | cons n ns ih=>
  intro vs w
  rw [List.map_cons] at w
  cases w with
  | cons a b=>
   cases a
   exact .cons _ _ (ih _ b)
theorem script_of {l:OpenLaw} {n:Nat} (hn:l.most=some n) {P:Params} {h:Heap} {args:List WData} {vals:List Value}
  (hpre:l.row.toRowW.claim.pre args=true) (hwl:WellAll P h vals args) :
  ∃ a vs ns,vals=[Value.ref a]/\args=[WData.list (ns.map WData.int)]/\h.get? a=some { cls:=.type "list",data:=.seq vs.toArray }/\IntsAre vs ns/\ns.length<=n:=by
 have hsh:WShape.hasAll [] args [.list .int]=true:=(pre_splitW hpre).1
 have hc:l.pre.holds [] { args:=args }=true:=(pre_splitW hpre).2
 obtain ⟨d,r,rfl,h1,h2⟩:=hasAllW_cons hsh
 obtain rfl:=hasAllW_nil h2
 obtain ⟨xs,rfl,h3⟩:=hasW_list h1
 obtain ⟨ns,rfl⟩:=items_int h3
 have hlen:ns.length<=n:=by
  unfold OpenLaw.pre at hc
  have h4:(WTm.not (.lt (.lit (.int (n:Int))) (.len (.arg 0)))).holds [] { args:=[.list (ns.map .int)] }=true:=by
   have h4:=(holds_andW hc).1
   rw [hn] at h4
   exact h4
  have h5:=condW_of h4 (w_not (w_lt w_lit (w_len_list (w_arg rfl))))
  rw [List.length_map] at h5
  refine Nat.le_of_not_lt fun q=>?_
  have q':(n:Int)<((ns.length:Nat):Int):=by omega
  first
   | (rw [decide_eq_true q'] at h5; exact absurd h5 (by decide))
   | (simp at h5; omega)
 cases hwl with
 | cons w1 w2=>
  cases w2
  cases w1 with
  | list ho hall=>exact ⟨_,_,ns,rfl,rfl,ho,Mt ns _ hall,hlen⟩
theorem post_true (l:OpenLaw) (args:List WData):l.row.toRowW.claim.post args (.bool true) args=true:=
 postW_of (r:=l.row.toRowW) (X:=(true == true))
  (show WShape.has [] (.bool true) .bool=true by first | rfl | decide | simp [WShape.has,WShape.arms,WShape.armsAll])
  (show (WTm.eq .res (.lit (.bool true))).value [] { args:=args,res:=some (.bool true),after:=args }=some (.bool (true == true)) from w_eq_bool (w_res rfl) w_lit) rfl
end Att
namespace L2
open PySem PySem.Spec PyProof.Rows
theorem ON:∀ {vs:List Value} {ns:List Int},IntsAre vs ns->zi (ns.map V.int) vs
 | _,_,.nil=>.nil
 | _,_,.cons n t h=>.cons ⟨t,rfl⟩ (ON h)
noncomputable def T3 (H:Hp):Prop:=∀ b,H b=none\/∃ o xs,H b=some (.frz o (.lst xs))
theorem Bb {P:Program} {w:World} {K:PySem.W.Frag} {mg mb:Str->Option Value} {CX:uZ} {k:Nat} {fa a:Addr} {fd:FuncData} {x:Str} {sp:Sp} {s₁:Shared} {vs:List Value} {ns:List Int}
  (KX:K.In s₁.heap) (hns:s₁.heap.Ns mainGlobals mg) (hb:s₁.heap.Ns builtinsNs mb) (hbb:∀ x:Str,x ≠ "__name__" -> mb x=bootBuiltins x) (hlim:s₁.heap.NoLimit) (hg:s₁.gens=#[])
  (ha:s₁.heap.get? a=some { cls:=.type "list",data:=.seq vs.toArray }) (hi:IntsAre vs ns) (hl:ns.length<=sizeLine) (hr:xH k callerA)
  (F:∀ base:Heap,K.In base->base.Ns mainGlobals mg->vk P w K mg base CX k fa fd [x] sp) (hbind:∀ (s:Shared) (u:Value),BindsTo s fd ⟨[u],[]⟩ [(x,u)])
  (hsp:∀ H:Hp,T3 H->yO K H a (ns.map V.int)->sp [.ref a] H (fun v _=>v=.bl true) fun _ _ _=>False)
  (hCX:∀ H e s',CX [] H s₁ (fun _ _ _=>False) e s'->False) :
  codeAny (model P w) callerA (.call (.ref fa) ⟨[.ref a],[]⟩) (fun r s'=>r=.ok (.ret (.bool true))/\OldK s₁.heap s'.heap/\s'.os=s₁.os/\AllBare s'.gens) s₁:=by
 have rv:=ON hi
 have lenV:=hi.length
 have core:∀ H:Hp,T3 H->yO K H a (ns.map V.int)->yn P w H s₁.heap->(∀ b,H b≠none->b=a)->(H a≠none->K.lookup a=none)->
   codeAny (model P w) callerA (.call (.ref fa) ⟨[.ref a],[]⟩) (fun r s'=>r=.ok (.ret (.bool true))/\OldK s₁.heap s'.heap/\s'.os=s₁.os/\AllBare s'.gens) s₁:=by
  intro H hO hS hok hA hK
  have base_of:∀ {b:Addr} {o:Obj},s₁.heap.get? b=some o->H b=none->(tI s₁.heap H).get? b=some o:=fun e n=>Mc e n
  have noA:∀ {b:Addr} {o:Obj} {es:Array DictEntry} {ep:Nat},s₁.heap.get? b=some o->o.data=.dict es ep->H b=none:=fun {b o es ep} e d=>by
   cases q:H b with
   | none=>rfl
   | some u=>
    have e':b=a:=hA b (by rw [q]; simp)
    subst e'
    rw [ha] at e; cases e
    have d':Data.seq vs.toArray _=Data.dict es ep:=d
    cases d'
  have nsK:∀ {b:Addr} {m:Str->Option Value},s₁.heap.Ns b m->(tI s₁.heap H).Ns b m:=fun {b m} ⟨o,es,ep,e,d,r⟩=>⟨o,es,ep,base_of e (noA e d),d,r⟩
  have hKb:K.In (tI s₁.heap H):=fun b o e=>base_of (KX b o e) (by
   cases q:H b with
   | none=>rfl
   | some u=>
    have e':b=a:=hA b (by rw [q]; simp)
    subst e'
    rw [hK (by rw [q]; simp)] at e; cases e)
  have hM:Mod K mg (tI s₁.heap H):=⟨hKb,nsK hns,⟨mb,nsK hb,hbb⟩,let ⟨mc,h1,h2⟩:=hlim; ⟨mc,nsK h1,h2⟩⟩
  have e0:k_ P w K mg (tI s₁.heap H) callerA [] s₁ H:=⟨rfl,hM,fun b o e=>D8 e,Nat.le_of_eq (Md _ _),trivial,fun b hb=>absurd (show b∈([]:List Addr) from hb) (by simp),hok,.of_eq hg⟩
  refine codeAny_mono ((F _ hKb (nsK hns)).run callerA [] s₁ H ⟨[.ref a],[]⟩ [.ref a] [.ref a] _ _ hr e0 (hbind s₁ (.ref a)) (.cons rfl .nil) (hsp H hO hS)) fun r s' h=>?_
  cases r with
  | error e=>exact (hCX H e s' h).elim
  | ok fl=>
   cases fl with
   | next=>exact False.elim h
   | brk=>exact False.elim h
   | cont=>exact False.elim h
   | ret u=>
    obtain ⟨v,H',os,bare,un,hok',r',q⟩:=h
    have q':v=.bl true:=q
    subst q'
    obtain rfl:u=Value.bool true:=r'
    refine ⟨rfl,OldK.of_keep fun b o e=>?_,os,bare⟩
    cases q:H b with
    | none=>exact un.keep b o e q (by intro z; exact absurd (show b∈([]:List Addr) from z) (by simp)) (by simp)
    | some u=>
     rcases hO b with z | ⟨ob,xs,z⟩
     ·rw [q] at z; cases z
     ·have z2:=un.frzs b ob _ z
      obtain ⟨e1,_⟩:=hok b _ z
      obtain ⟨e2,_⟩:=hok' b _ z2
      rw [e] at e1; cases e1
      exact e2
 cases hk:K.lookup a with
 | some o=>
  have e:=KX a o hk
  rw [ha] at e
  cases e
  refine core (fun _=>none) (fun _=>.inl rfl) (.inr ⟨_,vs.toArray,_,hk,rfl,rfl,rfl,by rw [List.size_toArray,lenV]; exact hl,by simpa using rv⟩) (fun b u z=>by have z':(none:Option HO)=some u:=z; cases z') (fun b z=>absurd rfl z) fun z=>absurd rfl z
 | none=>
  refine core (fun b=>if b=a then some (.frz { cls:=.type "list",data:=.seq vs.toArray } (.lst (ns.map V.int))) else none) (fun b=>?_) (.inl (.inr ⟨{ cls:=.type "list",data:=.seq vs.toArray },if_pos rfl⟩)) (fun b u z=>?_) (fun b z=>?_) fun _=>hk
  ·by_cases hb:b=a
   ·exact .inr ⟨_,_,if_pos hb⟩
   ·exact .inl (if_neg hb)
  ·by_cases hb:b=a
   ·have z':=(if_pos hb).symm.trans z
    cases z'
    subst hb
    exact ⟨ha,by rw [List.length_map]; exact hl,vs,_,rv,ha⟩
   ·have z':=(if_neg hb).symm.trans z
    cases z'
  ·by_cases hb:b=a
   ·exact hb
   ·exact absurd (if_neg hb) z
end L2
namespace L2
open PySem PySem.Spec PyProof.Rows
end L2
namespace L2
open PySem PySem.Spec PyProof.Rows
noncomputable def qI (s:Stmt):Arguments:=match s with
 | .FunctionDef _ a _ _ _ _ _ _ _ _=>a
 | _=>{ posonlyargs:=[],args:=[],vararg:=none,kwonlyargs:=[],kw_defaults:=[],kwarg:=none,defaults:=[] }
noncomputable def va (s:Stmt):List Stmt:=match s with
 | .FunctionDef _ _ b _ _ _ _ _ _ _=>b
 | _=>[]
noncomputable def zm (s:Stmt):Scope:=match s with
 | .FunctionDef _ _ _ _ _ _ sc _ _ _=>sc
 | _=>{ kind:=.function,names:=[],isGenerator:=false,isCoroutine:=false }
noncomputable abbrev vP:uZ:=fun _ _ _ _ _ _=>False
noncomputable abbrev E0:XK:=fun _ _ _=>False
theorem JO {X:Cx}:Z3 vP X E0:=fun _ _ _ _ _ _ _ h=>h.elim
structure qA (K:PySem.W.Frag) (x qual:Str) (st:Stmt) (f:Addr) (fd:FuncData):Prop where
 ex:∃ (oc:Value) (od:Option Addr) (kV doc pm:Value) (an:Option Addr) (cdv ct:Value) (osl:Array (Option Value)),
  fd=PySem.W.fnOf x qual (qI st) (va st) (zm st) .none kV doc pm an cdv ct/\K.lookup f=some ⟨oc,od,.func fd,osl⟩/\PySem.W.codeIn K cdv qual=true
 kp:PySem.W.keepIn K (.ref f)=true
section
variable {P:Program} {w:World} {K:PySem.W.Frag} {mg:Str->Option Value} {base:Heap}
theorem qA.ok {x qual:Str} {st:Stmt} {f:Addr} {fd:FuncData} {N ps:List Str} {k:Nat} {sp:Sp} (F:qA K x qual st f fd) (S:yF N ps (zm st)) (len:∀ vs H Q E,sp vs H Q E->vs.length=ps.length)
  (hbody:∀ (cdv:Value) (A:Around) (outer:List Env) (s:Shared) (H:Hp) (vs:List V) (Q:VK) (E:XK),xH k (A.deeper (envOfC qual (zm st) s.heap.objs.size f cdv))->sp vs H Q E->
   ∃ t,wW (ug vP P w K mg base N qual (zm st) f cdv A outer s H E).nox (va st) t/\t { nx:=fun _ H'=>Q .non H',rt:=Q } (start N vs) H):vk P w K mg base vP (k+1) f fd ps sp:=by
 obtain ⟨oc,od,kV,doc,pm,an,cdv,ct,osl,rfl,lk,hcd⟩:=F.ex
 refine M1 lk hcd S len fun A outer s H vs Q E hr hsp=>?_
 obtain ⟨t,h,q⟩:=hbody cdv A outer s H vs Q E hr hsp
 exact ⟨t,h.nox,q⟩
theorem qA.binds {x qual:Str} {st:Stmt} {f:Addr} {fd:FuncData} {ps:List Str} (F:qA K x qual st f fd)
  (h:∀ (kV doc pm:Value) (an:Option Addr) (cdv ct:Value) (us:List Value),us.length=ps.length->bindArgs (PySem.W.fnOf x qual (qI st) (va st) (zm st) .none kV doc pm an cdv ct) ⟨us,[]⟩=pure (ps.zip us)):tX K fd ps []:=by
 obtain ⟨oc,od,kV,doc,pm,an,cdv,ct,osl,rfl,lk,hcd⟩:=F.ex
 exact .all (h kV doc pm an cdv ct)
theorem Q6 {x qual:Str} {st:Stmt} {f:Addr} {oc:Value} {od an:Option Addr} {osl:Array (Option Value)} {kV doc pm cdv ct:Value} (l:K.lookup f=some ⟨oc,od,.func (PySem.W.fnOf x qual (qI st) (va st) (zm st) .none kV doc pm an cdv ct),osl⟩)
  (c:PySem.W.codeIn K cdv qual=true) (k:PySem.W.keepIn K (.ref f)=true):qA K x qual st f (PySem.W.fnOf x qual (qI st) (va st) (zm st) .none kV doc pm an cdv ct):=⟨⟨oc,od,kV,doc,pm,an,cdv,ct,osl,rfl,l,c⟩,k⟩
end
theorem zS {A:Around} {k:Nat} (hr:xH k A):A.units+1<cLine:=Nat.lt_of_le_of_lt (Nat.add_le_add_left (by decide:1<=64) _) hr.units
theorem GK {n:Nat} (h:n<=1000):n<sizeLine:=Nat.lt_of_le_of_lt h (by decide)
section
variable {X:Cx}
theorem pv (i:Nat) {x:Str} {pos:Pos} (hN:X.N[i]?=some x:=by rfl) (hv:uB X.env.scope x:=by first | exact Or.inl rfl | exact Or.inr (Or.inl rfl) | exact Or.inr (Or.inr rfl)) (hd:(x == ("__debug__" : Str))=false:=by decide)
  (hcd:(x == ("__classdict__" : Str))=false:=by decide):PE X (.Name x pos) (tT i):=ja hN hv hd hcd
end
theorem qL {A B:Prop} (h:B):if false=true then A else B:=by
 rw [if_neg Bool.false_ne_true]
 exact h
theorem qM {A B:Prop} (h:A):if true=true then A else B:=by
 rw [if_pos rfl]
 exact h
noncomputable def yN (H H':Hp):Prop:=∀ b o,H b=some o->H' b=some o
theorem yN.refl (H:Hp):yN H H:=fun _ _ h=>h
theorem yN.trans {H H1 H2:Hp} (a:yN H H1) (b:yN H1 H2):yN H H2:=fun c o h=>b c o (a c o h)
theorem yN.free {H H':Hp} (e:yN H H') {l:Addr} (h:H' l=Option.none):H l=Option.none:=by
 cases q:H l with
 | none=>rfl
 | some o=>
  rw [e l o q] at h
  cases h
end L2
set_option linter.all false
set_option maxRecDepth 100000
set_option maxHeartbeats 4000000
namespace L2
open PySem PySem.Spec PyProof.Rows
noncomputable def Def (K:PySem.W.Frag) (mg:Str->Option Value) (x:Str) (st:Stmt) (ps:List Str):Prop:=
 ∃ (f:Addr) (fd:FuncData),qA K x x st f fd/\mg x=some (.ref f)/\tX K fd ps []
noncomputable def yG (P:Program) (w:World) (K:PySem.W.Frag) (mg:Str->Option Value) (base:Heap) (x:Str) (ps:List Str) (k:Nat) (sp:Sp):Prop:=
 ∃ (f:Addr) (fd:FuncData),mg x=some (.ref f)/\PySem.W.keepIn K (.ref f)=true/\tX K fd ps []/\vk P w K mg base vP k f fd ps sp
noncomputable def yt (mg:Str->Option Value) (x:Str) (v:V):Prop:=∃ u,mg x=some u/\zp v u
section
variable {P:Program} {w:World} {K:PySem.W.Frag} {mg:Str->Option Value} {base:Heap}
theorem Def.ok {x:Str} {st:Stmt} {N ps:List Str} {k:Nat} {sp:Sp} (d:Def K mg x st ps) (S:yF N ps (zm st)) (len:∀ vs H Q E,sp vs H Q E->vs.length=ps.length)
  (hbody:∀ (f:Addr) (cdv:Value) (A:Around) (outer:List Env) (s:Shared) (H:Hp) (vs:List V) (Q:VK) (E:XK),xH k (A.deeper (envOfC x (zm st) s.heap.objs.size f cdv))->sp vs H Q E->
   ∃ t,wW (ug vP P w K mg base N x (zm st) f cdv A outer s H E).nox (va st) t/\t { nx:=fun _ H'=>Q .non H',rt:=Q } (start N vs) H):yG P w K mg base x ps (k+1) sp:=by
 obtain ⟨f,fd,F,hm,hb⟩:=d
 exact ⟨f,fd,hm,F.kp,hb,F.ok S len (hbody f)⟩
end
section
variable {X:Cx} {x:Str} {p pos:Pos} {e:Expr} {es:List Expr} {t:TA} {ps:List Str} {j k:Nat} {sp:Sp} {v:V} {T:String}
noncomputable def yi:Expr->Bool
 | .Starred ..=>false
 | _=>true
theorem we {e:Expr} {es:List Expr} {env:Env} (h:yi e=true):starEach (e::es) env=(false,eval e env)::starEach es env:=by
 cases e<;>first | rfl | cases h
theorem ku {env:Env} {pos:Pos}:∀ {es:List Expr},es.all yi=true->(backTo pos (starEach es env)).any (·.1)=false
 | [],_=>rfl
 | e::es,h=>by
  rw [List.all_cons,Bool.and_eq_true] at h
  rw [we h.1]
  have ih:=ku (env:=env) (pos:=pos) h.2
  unfold backTo at ih ⊢
  rw [List.map_cons,List.any_cons,ih]
  rfl
theorem kH {te:TE} (ha:PE X e te) (hr:PA X es t) (h:yi e=true:=by rfl):PA X (e::es) (jv te t):=JJ ha hr (we h)
noncomputable def ZF:Expr->Option Int
 | .Constant (.int i) _ _=>some i
 | _=>none
theorem Op {e:Expr} {i:Int} (h:ZF e=some i):∃ k p,e=.Constant (.int i) k p:=by
 cases e<;>first | (cases h; done) | skip
 rename_i c k p
 cases c<;>first | (cases h; done) | skip
 cases h
 exact ⟨k,p,rfl⟩
noncomputable def intsOf:List Expr->Option (List Int)
 | []=>some []
 | e::r=>(ZF e).bind fun i=>(intsOf r).map (i::·)
theorem JK:∀ {es:List Expr} {is:List Int},intsOf es=some is->PA X es (fun _ H Q=>Q (is.map V.int) H)
 | [],is,h=>by
  cases (show some []=some is from h)
  exact jZ
 | e::r,is,h=>by
  have q:((ZF e).bind fun i=>(intsOf r).map (i::·))=some is:=h
  cases e1:ZF e with
  | none=>rw [e1] at q; cases q
  | some i=>
   rw [e1] at q
   obtain ⟨k,p,rfl⟩:=Op e1
   cases e2:intsOf r with
   | none=>rw [e2] at q; cases q
   | some js=>
    rw [e2] at q
    cases (show some (i::js)=some is from q)
    exact kH JP (JK e2)
theorem JS (h:yG X.prog X.w X.K X.mg X.base x ps k sp) (hr:xH j X.A) (hg:Gl X x) (ha:PA X (e::es) t) (hk:k<=j:=by decide) (hdb:(x == ("__debug__" : Str))=false:=by decide)
  (he:(e::es).all yi=true:=by rfl):PE X (.Call (.Name x p) (e::es) [] pos) (Uo sp [] E0 t):=by
 obtain ⟨f,fd,hm,kp,b,F⟩:=h
 rw [List.all_cons,Bool.and_eq_true] at he
 exact Fd F (hr.mono hk) hg hm kp b .nil JO ha hdb (we he.1) (ku he.2)
theorem kI (h:yt X.mg x v) (hg:Gl X x) (hd:(x == ("__debug__" : Str))=false:=by decide):PE X (.Name x pos) (tC v):=by
 obtain ⟨u,hm,r⟩:=h
 exact Fj hg hm r hd
theorem Fc (hg:Gl X x) (hm:X.mg x=none) (hv:bootBuiltins x=some (.type T)) (hn:x ≠ "__name__" := by decide) (hd:(x == ("__debug__" : Str))=false:=by decide):PE X (.Name x pos) (tC (.ty T)):=
 Fa hg hm hv rfl hn hd
end
section
variable {X:Cx}
theorem xc:yP X (binaryOp .FloorDiv) (rI (fun _ j=>0<j/\j<2 ^ 64) fun i j=>.int (i / j)):=jY fun i j _ _ _ _ _ hc q=>by
 have h1:(0:Int)<j:=hc.1
 have h2:j<2 ^ 64:=hc.2
 have h3:j.natAbs.log2<64:=(Nat.log2_lt (by omega)).mpr (by omega)
 exact PyProof.Rows.floordiv_int (by omega) (by rw [Int.fdiv_eq_ediv_of_nonneg i (by omega)]; exact q) (.inl (PyProof.noPylong_of_log2 (by omega)))
end
theorem wK:bootBuiltins "len" = some (.builtin "len"):=by decide +kernel
theorem L8:bootBuiltins "isinstance" = some (.builtin "isinstance"):=by decide +kernel
theorem L9:bootBuiltins "min" = some (.builtin "min"):=by decide +kernel
theorem Tg:bootBuiltins "max" = some (.builtin "max"):=by decide +kernel
theorem gZ:bootBuiltins "int" = some (.type "int"):=by decide +kernel
theorem qG:bootBuiltins "str" = some (.type "str"):=by decide +kernel
theorem Tf:bootBuiltins "list" = some (.type "list"):=by decide +kernel
theorem L6:bootBuiltins "tuple" = some (.type "tuple"):=by decide +kernel
theorem BQ {K:PySem.W.Frag}:PySem.W.kitOne K (.type "int") (.type "int")=some true:=by rfl
theorem BO {K:PySem.W.Frag}:PySem.W.kitOne K (.type "bool") (.type "int")=some true:=by kernel_rfl
theorem BP {K:PySem.W.Frag}:PySem.W.kitOne K (.type "int") (.type "bool")=some false:=by kernel_rfl
theorem BN {K:PySem.W.Frag}:PySem.W.kitOne K (.type "bool") (.type "bool")=some true:=by rfl
theorem BS {K:PySem.W.Frag}:PySem.W.kitOne K (.type "NoneType") (.type "int")=some false:=by kernel_rfl
theorem BR {K:PySem.W.Frag}:PySem.W.kitOne K (.type "NoneType") (.type "bool")=some false:=by kernel_rfl
theorem BU {K:PySem.W.Frag}:PySem.W.kitOne K (.type "tuple") (.type "tuple")=some true:=by rfl
theorem BT {K:PySem.W.Frag}:PySem.W.kitOne K (.type "str") (.type "str")=some true:=by rfl
theorem xm {H:Hp} {p:Addr} (h:H p=none) (o:HO):yN H (zV H p o):=fun b u q=>by rw [zr (wx q h)]; exact q
theorem small {n:Nat} (h:n<=1000):n<=sizeLine:=Nat.le_of_lt (GK h)
end L2
namespace L2
open PySem PySem.Spec PyProof.Rows
end L2
namespace L2
open PySem PySem.Spec PyProof.Rows
noncomputable def tZ (env:Env):List (Str×Addr)->Prop
 | []=>True
 | p::r=>env.cells.lookup p.1=some p.2/\tZ env r
theorem tZ.get {env:Env}:∀ {cl:List (Str×Addr)} {y:Str} {c:Addr},tZ env cl->cl.lookup y=some c->env.cells.lookup y=some c
 | [],_,_,_,h=>by cases h
 | (n,a)::r,y,c,hc,h=>by
  rw [List.lookup_cons] at h
  cases e:y == n with
  | true=>
   rw [e] at h
   have e':y=n:=by simpa using e
   subst e'
   have h':a=c:=by simpa using h
   subst h'
   exact hc.1
  | false=>
   rw [e] at h
   exact tZ.get hc.2 (by simpa using h)
noncomputable def jD (scope:Scope) (env:Env) (cl:List (Str×Addr)) (own:List Str):Bool:=
 scope.names.all fun p=>p.1 != ("." : Str)&&((p.2 == .local&&(own.contains p.1||p.1 == (".0" : Str)))||p.2 == .globalImplicit||p.2 == .globalExplicit ||
  (p.2 == .free&&(env.kindOf p.1 == some .cell||env.kindOf p.1 == some .free)&&(cl.lookup p.1).isSome))
noncomputable def gz (own:List Str) (y:Str):Str:=if own.contains y||y == (".0" : Str) then "." else y
noncomputable def wS (N own:List Str):List Str:=N.map (gz own)++own
theorem Vh {env:Env}:∀ {names:List (Str×NameKind)} {y:Str} {k:NameKind},
  (names.map fun (n,k)=>if (k == NameKind.free&&env.scope.kind == .function&&env.kindOf n == some .cell) then (n,NameKind.cell) else (n,k)).lookup y=some k->∃ k0,(y,k0)∈names/\(k=k0\/(k0=.free/\k=.cell))
 | [],_,_,h=>by simp at h
 | (n,k')::r,y,k,h=>by
  rw [List.map_cons] at h
  by_cases hc:(k' == NameKind.free&&env.scope.kind == .function&&env.kindOf n == some .cell)=true
  ·dsimp only at h
   rw [if_pos hc,List.lookup_cons] at h
   cases e:y == n with
   | true=>
    rw [e] at h
    have e':y=n:=by simpa using e
    subst e'
    have h':NameKind.cell=k:=by simpa using h
    have hf:k'=.free:=by
     rw [Bool.and_eq_true,Bool.and_eq_true] at hc
     simpa using hc.1.1
    exact ⟨k',List.mem_cons_self,.inr ⟨hf,h'.symm⟩⟩
   | false=>
    rw [e] at h
    obtain ⟨k0,m,z⟩:=Vh (env:=env) (by simpa using h)
    exact ⟨k0,List.mem_cons_of_mem _ m,z⟩
  ·dsimp only at h
   rw [if_neg hc,List.lookup_cons] at h
   cases e:y == n with
   | true=>
    rw [e] at h
    have e':y=n:=by simpa using e
    subst e'
    have h':k'=k:=by simpa using h
    exact ⟨k',List.mem_cons_self,.inl h'.symm⟩
   | false=>
    rw [e] at h
    obtain ⟨k0,m,z⟩:=Vh (env:=env) (by simpa using h)
    exact ⟨k0,List.mem_cons_of_mem _ m,z⟩
noncomputable def xF (X:Cx) (scope:Scope) (cl:List (Str×Addr)) (own:List Str) (C:Addr) (s2:Shared) (H2:Hp) (fp:List Addr) (pn:List (Addr×Obj)):Cx:=
 { X with N:=wS X.N own,s₀:=s2,H₀:=H2,env:=compEnvC scope cl C X.env,outer:=X.stack,stack:=X.stack,ex:=fp,fn:=fun _=>false,pn:=pn,xe:=fun _ _=>False }
section
variable {X:Cx} {pins:List (Addr×Obj)} {σ:St} {H2:Hp} {s2:Shared} {scope:Scope} {cl:List (Str×Addr)} {own:List Str} {C D:Addr} {fp:List Addr}
theorem Tc (hb:jD scope X.env cl own=true) {y:Str} {k:NameKind} (h:(relabel scope X.env).names.lookup y=some k) :
  y ≠ "." /\ ((k=.local->own.contains y=true\/y = ".0")/\((k=.cell\/k=.free)->(∃ k0,(y,k0)∈scope.names/\k0=.cell)\/((X.env.kindOf y=some .cell\/X.env.kindOf y=some .free)/\∃ c,cl.lookup y=some c))):=by
 obtain ⟨k0,m,z⟩:=Vh h
 have q:=List.all_eq_true.mp hb _ m
 rw [Bool.and_eq_true] at q
 obtain ⟨q1,q2⟩:=q
 refine ⟨by simpa using q1,fun hk=>?_,fun hk=>?_⟩
 ·rcases z with z | ⟨_,z⟩
  ·subst z
   subst hk
   simpa using q2
  ·rw [z] at hk
   cases hk
 ·have hf:k0=.free\/k0=.cell:=by
   rcases z with z | ⟨z,_⟩
   ·subst z
    rcases hk with hk | hk
    ·exact .inr hk
    ·exact .inl hk
   ·exact .inl z
  rcases hf with hf | hf
  ·subst hf
   right
   have q3:((X.env.kindOf y == some .cell||X.env.kindOf y == some .free)&&(cl.lookup y).isSome)=true:=by simpa using q2
   rw [Bool.and_eq_true] at q3
   refine ⟨?_,Option.isSome_iff_exists.mp q3.2⟩
   have:=q3.1
   rw [Bool.or_eq_true] at this
   rcases this with t | t
   ·exact .inl (by simpa using t)
   ·exact .inr (by simpa using t)
  ·exact .inl ⟨k0,m,hf⟩
theorem WS (hb:jD scope X.env cl own=true) (hcell:∀ y∈scope.names,y.2≠.cell) {y:Str} {k:NameKind} (h:(relabel scope X.env).names.lookup y=some k) (hk:k=.cell\/k=.free) :
  (X.env.kindOf y=some .cell\/X.env.kindOf y=some .free)/\∃ c,cl.lookup y=some c:=by
 rcases (Tc hb h).2.2 hk with ⟨k0,m,e⟩ | q
 ·exact absurd e (hcell _ m)
 ·exact q
theorem Td (I:Inv X pins σ H2 s2) (hk:scope.kind=.function) (hcell:∀ y∈scope.names,y.2≠.cell) (hcap:tZ X.env cl) (hb:jD scope X.env cl own=true) (hC:s2.heap.objs.size<=C)
  (hfp:∀ b∈fp,vm X pins H2 b) (hfo:∀ b∈fp,∃ o,s2.heap.get? b=some o):(xF X scope cl own C s2 H2 fp (X.pn++pins)).Ok where
 mod:=I.ok.mod
 kind:=hk
 glob:=I.ok.glob
 blt:=I.ok.blt
 above:=hC
 inj:=fun x y c h1 h2=>I.ok.inj x y c (hcap.get h1) (hcap.get h2)
 has:=fun x hx=>by
  rcases hx with hx | hx
  ·exact (WS hb hcell (show (relabel scope X.env).names.lookup x=_ from hx) (.inl rfl)).2
  ·exact (WS hb hcell (show (relabel scope X.env).names.lookup x=_ from hx) (.inr rfl)).2
 cab:=fun x c h=>by cases h
 hd:=I.ok.hd
 frames:=I.ok.frames
 stk:=.inl rfl
 exf:=fun b hx=>⟨by
  obtain ⟨o,e⟩:=hfo b hx
  exact Nat.ne_of_lt (Nat.lt_of_lt_of_le (Heap.lt_size e) hC),fun x c h=>(hfp b hx).2.2.2.2.1 x c (hcap.get h)⟩
 bs:=I.bs
 bsz:=Nat.le_trans I.ok.bsz I.sz
 noex:=fun b o e hx=>by
  rcases (hfp b hx).2.2.2.1 with z | z
  ·exact I.ok.noex b o e z
  ·exact absurd (Nat.lt_of_lt_of_le (Heap.lt_size e) (Nat.le_trans I.ok.bsz z)) (Nat.lt_irrefl _)
 exfs:=fun b hx hz=>by
  rcases List.mem_cons.mp (I.stkSub b hz) with z | z
  ·exact (hfp b hx).2.1 z
  ·exact (hfp b hx).2.2.1 z
 funs:=I.stack
 frf:=I.stkFree
theorem Zf {α:Type} {σ:List (Option α)} {n i:Nat} {v:α} (h:(σ++List.replicate n none)[i]?=some (some v)):σ[i]?=some (some v):=by
 by_cases hi:i<σ.length
 ·rw [List.getElem?_append_left hi] at h
  exact h
 ·rw [List.getElem?_append_right (by omega),List.getElem?_replicate] at h
  split at h<;>cases h
theorem L5 {h4:Heap} {m0:Str->Option Value} {dobj:Obj} {tk:Nat} (I:Inv X pins σ H2 s2) (hk:scope.kind=.function) (hcell:∀ y∈scope.names,y.2≠.cell) (hcap:tZ X.env cl) (hb:jD scope X.env cl own=true)
  (hC:s2.heap.objs.size<=C) (hD:s2.heap.objs.size<=D) (hDC:D≠C) (hfp:∀ b∈fp,vm X pins H2 b) (hfo:∀ b∈fp,∃ o,s2.heap.get? b=some o)
  (keep:∀ b o,s2.heap.get? b=some o->h4.get? b=some o) (ns:h4.Ns C m0) (hd:h4.get? D=some dobj) (hdd:∀ v,dobj.data≠.cell v) :
  Inv (xF X scope cl own C s2 H2 fp (X.pn++pins)) [(D,dobj)] (σ++List.replicate own.length none) H2 { s2 with heap:=h4,toks:=tk }:=by
 have nfs:∀ a,s2.heap.objs.size<=a->a ∉ vc X.stack:=fun a ha hz=>by
  rcases List.mem_cons.mp (I.stkSub a hz) with z | z
  ·exact absurd (Nat.lt_of_lt_of_le I.lt ha) (by rw [z]; exact Nat.lt_irrefl _)
  ·exact I.nofs ha z
 refine ⟨Td I hk hcell hcap hb hC hfp hfo,rfl,I.bare,Un.kept keep,⟨m0,ns,fun i y v e1 e2 e3=>?_⟩,fun x c h=>?_,I.hok.fresh hC,fun x c h=>I.freeC x c (hcap.get h),fun p hp=>?_,I.hok.kept keep,?_⟩
 ·have e2':σ[i]?=some (some v):=Zf e2
  have hi:i<X.N.length:=by
   have:=(List.getElem?_eq_some_iff.mp e2').1
   rw [I.len] at this
   exact this
  have e1':(X.N.map (gz own)++own)[i]?=some y:=e1
  rw [List.getElem?_append_left (by simpa using hi),List.getElem?_map] at e1'
  cases en:X.N[i]? with
  | none=>
   rw [en] at e1'
   cases e1'
  | some n=>
   rw [en] at e1'
   have ey:gz own n=y:=Option.some.inj e1'
   have vis:∃ k,(relabel scope X.env).names.lookup y=some k/\(k=.local\/k=.cell\/k=.free):=by
    rcases e3 with z | z | z
    ·exact ⟨_,z,.inl rfl⟩
    ·exact ⟨_,z,.inr (.inl rfl)⟩
    ·exact ⟨_,z,.inr (.inr rfl)⟩
   obtain ⟨k,lk,kk⟩:=vis
   obtain ⟨nd,loc,_⟩:=Tc hb lk
   unfold gz at ey
   by_cases ho:(own.contains n||n == (".0" : Str))=true
   ·rw [if_pos ho] at ey
    exact absurd ey.symm nd
   ·rw [if_neg ho] at ey
    subst ey
    have kk':k=.cell\/k=.free:=by
     rcases kk with z | z
     ·exfalso
      apply ho
      rcases loc z with t | t
      ·rw [t]; rfl
      ·subst t; simp
     ·exact z
    obtain ⟨ok,c,hc⟩:=WS hb hcell lk kk'
    obtain ⟨m,hn,hl⟩:=I.loc
    obtain ⟨u,r,l⟩:=hl i n v en e2' (.inr ok)
    refine ⟨u,r,.inr ⟨?_,c,hc,?_⟩⟩
    ·rcases kk' with z | z
     ·subst z; exact .inl lk
     ·subst z; exact .inr lk
    ·rcases l with ⟨z,_⟩ | ⟨_,c',hc',z⟩
     ·rcases ok with t | t<;>(rw [t] at z; cases z)
     ·rw [hcap.get hc] at hc'
      cases hc'
      obtain ⟨o,ho',hd'⟩:=z
      exact ⟨o,keep _ _ ho',hd'⟩
 ·obtain ⟨v,o,ho,hd'⟩:=I.cell x c (hcap.get h)
  exact ⟨v,o,keep _ _ ho,hd'⟩
 ·rcases List.mem_append.mp hp with z | z
  ·obtain ⟨e,n,ne,nf,d⟩:=I.pin p z
   refine ⟨keep _ _ e,n,Nat.ne_of_lt (Nat.lt_of_lt_of_le (Heap.lt_size e) hC),fun hz=>?_,d⟩
   rcases List.mem_cons.mp (I.stkSub p.1 hz) with t | t
   ·exact ne t
   ·exact nf t
  ·have e:p=(D,dobj):=by simpa using z
   subst e
   exact ⟨hd,I.hok.fresh hD,hDC,nfs D hD,hdd⟩
 ·show (σ++List.replicate own.length none).length=(X.N.map (gz own)++own).length
  rw [List.length_append,List.length_append,List.length_replicate,List.length_map,I.len]
end
end L2
namespace L2
open PySem PySem.Spec PyProof.Rows
noncomputable def qi (X:Cx) (ifs:List Expr) (tc:TT):Prop:=
 ∀ (pins:List (Addr×Obj)) (s:Shared) (σ:St) (H:Hp) (Q:Bool->Hp->Prop),Inv X pins σ H s->tc σ H Q->
  wpAny (model X.prog X.w) X.A (forIn ifs true fun c r=>if r=true then do let ok <- isTrue c X.env (eval c X.env); pure (ForInStep.yield ok) else pure (ForInStep.yield r)) (TP X pins σ Q) X.xe s
noncomputable def HB:TT:=fun _ H Q=>Q true H
theorem Ch {X:Cx}:qi X [] HB:=fun _ _ _ H _ I h=>wpAny_tests_nil ⟨H,I,h⟩
theorem Ci {X:Cx} {c:Expr} {t:TT} (h:PT X c t):qi X [c] t:=fun pins s σ H Q I q=>wpAny_tests_one (h pins s σ H Q I q)
section
variable {prog:Program} {w:World} {A:Around} {R:Result->Shared->Prop} {s:Shared}
theorem Bi {elt tg iter:Expr} {ifs:List Expr} {scope:Scope} {pos:Pos} {it acc:Value} {env:Env} (J:Nat->Shared->Prop)
  (turn:∀ n s,J n s->wpAny (model prog w) A (pyNext it) (fun r s₁=>match r with
   | none=>R (.ok .next) s₁
   | some v=>wpAny (model prog w) A (letOwnedTupleGo tg it v) (fun _ z=>wpAny (model prog w) A (assign tg env v) (fun _ s₂=>
    wpAny (model prog w) A (forIn ifs true fun c r=>if r=true then do let ok <- isTrue c env (eval c env); pure (ForInStep.yield ok) else pure (ForInStep.yield r)) (fun ok s₃=>
     if ok=true then wpAny (model prog w) A (eval elt env) (fun x s₄=>wpAny (model prog w) A (call (.builtin "list.append") [acc,x]) (fun _ s₅=>∃ m,m<n/\J m s₅) (fun _ _=>False) s₄) (fun _ _=>False) s₃
     else ∃ m,m<n/\J m s₃) (fun _ _=>False) s₂) (fun _ _=>False) z) (fun _ _=>False) s₁) (fun _ _=>False) s)
  (n:Nat) (h:J n s):codeAny (model prog w) A (.compLoop (.ListComp elt [⟨tg,iter,ifs,0⟩] scope pos) 0 it acc env) R s:=by
 have no:∀ {P:Value->Shared->Prop},∀ e s',(fun _ _=>False:Value->Shared->Prop) e s'->P e s':=fun _ _ z=>z.elim
 refine codeAny_loop rfl J (fun n s hI=>?_) n h
 show wpAny _ A (Sem.onRaise (compTurn (.ListComp elt [⟨tg,iter,ifs,0⟩] scope pos) 0 it acc env) (fun x=>do noteFrame x env; theTreesLotGoes x)) _ _ s
 refine wpAny_noted ?_
 rw [compTurn_list]
 refine wpAny_bind (wpAny_standAt (wpAny_bind (wpAny_mono (turn n s hI) (fun r s₁ h₁=>?_) no)))
 cases r with
 | none=>exact wpAny_pure h₁
 | some v=>
  refine wpAny_bind (wpAny_mono h₁ (fun _ z hz=>?_) no)
  refine wpAny_bind (wpAny_mono hz (fun _ s₂ h₂=>?_) no)
  refine wpAny_bind (wpAny_mono h₂ (fun ok s₃ h₃=>?_) no)
  cases ok with
  | false=>exact wpAny_pure ⟨rfl,h₃⟩
  | true=>
   refine wpAny_bind (wpAny_bind (wpAny_mono h₃ (fun x s₄ h₄=>?_) no))
   exact wpAny_bind (wpAny_mono h₄ (fun _ s₅ h₅=>wpAny_pure (wpAny_pure ⟨rfl,h₅⟩)) no)
end
noncomputable abbrev xr (its:List Value) (k:Nat):Obj:={ cls:=.type "list",data:=.seq its.toArray k }
theorem Q_ {its:List Value} {k:Nat}:∀ v,(xr its k).data≠.cell v:=fun _ z=>nomatch z
section
variable {X:Cx} {σ:St} {H:Hp} {s:Shared} {D:Addr}
theorem Mu {pl:List (Addr×Obj)} {its its':List Value} {k k' tk:Nat} {h':Heap} (I:Inv X ((D,xr its k)::pl) σ H s) (hD:X.s₀.heap.objs.size<=D) (hpn:∀ p∈X.pn,p.1≠D)
  (hs:Heap.SameBut D s.heap h') (hd:h'.get? D=some (xr its' k')):Inv X [(D,xr its' k')] σ H { s with heap:=h',toks:=tk }:=by
 obtain ⟨e,n,ne,nf,d⟩:=I.pin (D,xr its k) (List.mem_append_right _ List.mem_cons_self)
 have I0:Inv X [] σ H s:=I.pins_of fun p hp=>absurd hp (by simp)
 have I1:Inv X [] σ H { s with heap:=h',toks:=tk }:=I0.turned (it:=D) (fun b o hb q=>(hs.2 b hb).trans q) n ne (.inr hD) (fun x c hc z=>by
  subst z
  obtain ⟨v,o,ho,hv⟩:=I.cell x c hc
  rw [show s.heap.get? c=some (xr its k) from e] at ho
  cases ho
  exact d v hv) (fun p hp=>hpn p (by simpa using hp))
 exact I1.pins_of fun p hp=>by
  have q:p=(D,xr its' k'):=by simpa using hp
  subst q
  exact ⟨hd,n,ne,nf,Q_⟩
end
section
variable {X:Cx} {tg iter elt:Expr} {ifs:List Expr} {scope:Scope} {cl:List (Str×Addr)} {own:List Str} {pos:Pos} {te:TE} {tc:TT} {g:TG} {wi:TI}
theorem Hf {fs ex:List Addr} {H H':Hp} {h h':Heap} {D:Addr} {o:HO} (u:Un fs ex H H' h h') (hD:h.objs.size<=D) (hn:H' D=none):Un fs ex H (zV H' D o) h h' where
 keep:=u.keep
 slot:=u.slot
 free:=fun b ob q n hx=>by rw [zr (fun z=>by subst z; exact absurd (Nat.lt_of_lt_of_le (Heap.lt_size q) hD) (Nat.lt_irrefl _))]; exact u.free b ob q n hx
 there:=u.there
 tups:=fun b xs q=>by rw [zr (wx (u.tups b xs q) hn)]; exact u.tups b xs q
 frzs:=fun b ob v q=>by rw [zr (wx (u.frzs b ob v q) hn)]; exact u.frzs b ob v q
 tbls:=fun b ps q=>by
  obtain ⟨more,z⟩:=u.tbls b ps q
  exact ⟨more,by rw [zr (wx z hn)]; exact z⟩
theorem QR {P:Program} {w:World} {H:Hp} {h:Heap} {D:Addr} {o:HO} (x:yn P w H h) (hn:H D=none) (new:yc P w (zV H D o) h D o):yn P w (zV H D o) h:=fun b u e=>by
 by_cases hb:b=D
 ·subst hb
  rw [yT] at e
  cases e
  exact new
 ·rw [zr hb] at e
  refine (x b u e).stay (fun c v _ q=>q) (fun c q=>?_) (fun c xs q=>?_)
  ·rw [zr (wx q hn)]; exact q
  ·rw [zr (wx q hn)]; exact q
structure tY (X:Cx) (scope:Scope) (cl:List (Str×Addr)) (own:List Str):Prop where
 kind:scope.kind=.function
 cell:∀ y∈scope.names,y.2≠.cell
 cap:tZ X.env cl
 ok:jD scope X.env cl own=true
 clos:closureFor scope X.env=pure cl
 names:∀ y∈scope.names,y.2=.local->scope.names.lookup y.1=some .local
structure Z2 (X:Cx) (pins:List (Addr×Obj)) (H:Hp) (s:Shared) (C:Addr):Prop where
 free:H C=none
 ne:C≠X.env.locals
 old:X.s₀.heap.objs.size<=C
 cell:∀ x c,X.env.cells.lookup x=some c->c≠C
 pin:∀ p∈X.pn++pins,p.1≠C
noncomputable def Y2 (σ:St) (n:Nat) (J:It) (g:TG) (tc:TT) (te:TE) (W:Nat->Nat->List V->Hp->Prop) (Fin:List V->Hp->Prop):Prop:=
 ∀ i m ys H,W i m ys H->(J.stop i H/\Fin ys H)\/(J.go i H/\ys.length<sizeLine/\∃ N:List V->Hp->Prop,(∀ ys' H',N ys' H'->∃ m',m'<m/\W (i+1) m' ys' H')/\
  ∀ x H',J.yld i H x H'->g x (σ++List.replicate n none) H' fun σ2 H3=>(∃ τ,σ2=σ++τ)/\tc σ2 H3 fun c H4=>if c=true then te σ2 H4 fun y H5=>N (ys++[y]) H5 else N ys H4)
theorem Te {pins:List (Addr×Obj)} {σ:St} {H2:Hp} {s2:Shared} {fp:List Addr} {it:Addr} {tn:Nat->Heap->Prop} {J:It} {W:Nat->Nat->List V->Hp->Prop} {Fin:List V->Hp->Prop} {m0:Nat}
  {RR:Value->Addr->Result->Shared->Prop} (hcalm:X.calm=true) (B:tY X scope cl own) (I:Inv X pins σ H2 s2) (T:uA X.prog X.w X.K tg J fp it tn) (t0:tn 0 s2.heap) (hfp:∀ b∈fp,vm X pins H2 b)
  (hg:∀ C s H fp pn,PG (xF X scope cl own C s H fp pn) tg g) (hc:∀ C s H fp pn,qi (xF X scope cl own C s H fp pn) ifs tc) (he:∀ C s H fp pn,PE (xF X scope cl own C s H fp pn) elt te)
  (W0:W 0 m0 [] H2) (turn:Y2 σ own.length J g tc te W Fin)
  (hRR:∀ D C s' H' ys m',Inv X pins σ (zV H' D (.lst ys)) s'->H' D=none->Fin ys H'->s'.heap.Ns C m'->Z2 X pins (zV H' D (.lst ys)) s' C->RR (.ref D) C (.ok .next) s') {E:Value->Shared->Prop} :
  wpAny (model X.prog X.w) X.A (newList []) (fun acc s3=>wpAny (model X.prog X.w) X.A (newFunctionEnv scope X.env.globals cl [] X.env.qual none .none (some X.env)) (fun cenv s4=>
   codeAny (model X.prog X.w) X.A (.compStart (.ListComp elt [⟨tg,iter,ifs,0⟩] scope pos) 0 (.ref it) acc { cenv with scope:=relabel scope X.env }) (RR acc cenv.locals) s4) E s3) E s2:=by
 refine wpAny_newObj_type (wpAny_newFunctionEnv B.cell (by intro y hy; simp at hy) (fun h4 hns hsb=>?_) B.kind)
 dsimp only at hns hsb ⊢
 generalize hP:s2.heap.push (xr [] 0)=P2 at hns hsb ⊢
 have hC:P2.objs.size=s2.heap.objs.size+1:=by rw [<- hP,Heap.size_push]
 have hDC:s2.heap.objs.size≠P2.objs.size:=by rw [hC]; exact Nat.ne_of_lt (Nat.lt_succ_self _)
 have hCle:s2.heap.objs.size<=P2.objs.size:=by rw [hC]; exact Nat.le_succ _
 have keep:∀ b o,s2.heap.get? b=some o->h4.get? b=some o:=fun b o e=>
  hsb.extBut b o (Nat.ne_of_lt (Nat.lt_of_lt_of_le (Heap.lt_size e) hCle)) (Heap.get?_push_of_some _ (hP ▸ Heap.get?_push_of_some _ e))
 have hd4:h4.get? s2.heap.objs.size=some (xr [] 0):=hsb.extBut _ _ hDC (Heap.get?_push_of_some _ (hP ▸ Heap.get?_push_size _ rfl))
 have hfo:∀ b∈fp,∃ o,s2.heap.get? b=some o:=fun b hb=>let ⟨o,e,_⟩:=T.obj 0 _ t0 b hb; ⟨o,e⟩
 have lt:∀ b∈fp,b<s2.heap.objs.size:=fun b hb=>let ⟨o,e⟩:=hfo b hb; Heap.lt_size e
 generalize hDD:s2.heap.objs.size=D at hDC hd4 ⊢
 generalize hCC:P2.objs.size=C at hDC hns hsb hCle ⊢
 have hDle:s2.heap.objs.size<=D:=Nat.le_of_eq hDD
 let X':=xF X scope cl own C s2 H2 fp (X.pn++pins)
 have hpn:∀ p∈X'.pn,p.1≠D:=fun p hp z=>by
  obtain ⟨e,_⟩:=I.pin p hp
  rw [z] at e
  exact absurd (Nat.lt_of_lt_of_le (Heap.lt_size e) hDle) (Nat.lt_irrefl _)
 have okb:=Td I B.kind B.cell B.cap B.ok hCle hfp hfo
 have fpok:∀ {k:Nat} {its:List Value} {H':Hp},(∀ b∈fp,H' b=none)->∀ b∈fp,vm X' [(D,xr its k)] H' b:=fun {k its H'} hn b hb=>
  ⟨hn b hb,(okb.exf b hb).1,okb.exfs b hb,.inl hb,(okb.exf b hb).2,fun p hp=>by
   rcases List.mem_append.mp hp with z | z
   ·exact (hfp b hb).2.2.2.2.2 p z
   ·have q:p=(D,xr its k):=by simpa using z
    subst q
    exact fun z=>absurd (lt b hb) (by rw [<- z]; exact Nat.not_lt.mpr hDle)⟩
 have loop:∀ s4:Shared,s4={ s2 with heap:=h4,toks:=s2.toks+([]:List (Str×Value)).length }->
   codeAny (model X.prog X.w) X.A (.compLoop (.ListComp elt [⟨tg,iter,ifs,0⟩] scope pos) 0 (.ref it) (.ref D) (compEnvC scope cl C X.env)) (RR (.ref D) C) s4:=by
  rintro s4 rfl
  refine Bi (fun n s'=>∃ (i:Nat) (ys:List V) (its:List Value) (k:Nat) (H':Hp),Inv X' [(D,xr its k)] (σ++List.replicate own.length none) H' s'/\zi ys its/\tn i s'.heap/\(∀ b∈fp,H' b=none)/\W i n ys H'/\ys.length<=sizeLine) ?_ m0
   ⟨0,[],[],0,H2,L5 I B.kind B.cell B.cap B.ok hCle hDle hDC hfp hfo keep hns hd4 Q_,.nil,T.keep _ _ _ t0 fun b _ o e=>keep b o e,fun b hb=>(hfp b hb).1,W0,Nat.zero_le _⟩
  rintro n s5 ⟨i,ys,its,k,H5,I5,v5,st5,fr5,w5,z5⟩
  rcases turn i n ys H5 w5 with ⟨stop,fin⟩ | ⟨go,room,N,hN,step⟩
  ·refine wpAny_mono (T.done X' rfl rfl rfl hcalm i _ s5 _ H5 (fun _ _=>False) I5 (fpok fr5) st5 stop) (fun r s6 ⟨hr,I6⟩=>?_) fun _ _ z=>z
   subst hr
   obtain ⟨e6,n6,ne6,nf6,d6⟩:=I6.pin (D,xr its k) (List.mem_append_right _ List.mem_cons_self)
   obtain ⟨m6,ns6,_⟩:=I6.loc
   have u6:Un (vc X.stack) fp H2 (zV H5 D (.lst ys)) s2.heap s6.heap:=Hf I6.base hDle n6
   have new6:yc X.prog X.w (zV H5 D (.lst ys)) s6.heap D (.lst ys):=⟨z5,its,k,v5,e6⟩
   have I7:Inv X pins σ (zV H5 D (.lst ys)) s6:=I.call' I6.os u6 (QR I6.hok n6 new6) I6.bare (fun b hb=>⟨(hfp b hb).2.2.2.1,(hfp b hb).2.1,(hfp b hb).2.2.2.2.1,(hfp b hb).2.2.2.2.2⟩)
   refine hRR D C s6 H5 ys m6 I7 n6 fin ns6 ⟨?_,?_,?_,fun x c hcx z=>?_,fun p hp z=>?_⟩
   ·rw [zr (Ne.symm hDC)]; exact I6.free
   ·exact fun z=>absurd I.lt (by rw [<- z]; exact Nat.not_lt.mpr hCle)
   ·exact Nat.le_trans I.sz hCle
   ·subst z
    obtain ⟨v,o,ho,_⟩:=I.cell x c hcx
    exact absurd (Nat.lt_of_lt_of_le (Heap.lt_size ho) hCle) (Nat.lt_irrefl _)
   ·obtain ⟨e,_⟩:=I.pin p hp
    rw [z] at e
    exact absurd (Nat.lt_of_lt_of_le (Heap.lt_size e) hCle) (Nat.lt_irrefl _)
  ·refine wpAny_mono (T.item X' rfl rfl rfl hcalm i _ s5 _ H5 (fun _ _=>False) I5 (fpok fr5) st5 go) (fun r s6 ⟨u,hr,h6⟩=>?_) fun _ _ z=>z
   subst hr
   refine wpAny_mono h6 (fun _ s7 ⟨x,H7,I7,r7,y7,st7,fr7⟩=>?_) fun _ _ z=>z
   have I7':=I7.pinned (fpok fr7) (T.obj _ _ st7)
   refine wpAny_mono (hg C s2 H2 fp _ _ s7 _ H7 x u _ I7' r7 (step x H7 y7)) (fun _ s8 ⟨σ8,H8,I8,⟨τ,hτ⟩,q8⟩=>?_) fun _ _ z=>z
   subst hτ
   have back:∀ {n':Nat} {ys':List V} {its':List Value} {k':Nat} {H9:Hp} {s9:Shared} {pl:List (Addr×Obj)},Inv X' ((D,xr its' k')::pl) (σ++τ) H9 s9->zi ys' its'->tn (i+1) s9.heap->(∀ b∈fp,H9 b=none)->W (i+1) n' ys' H9->ys'.length<=sizeLine->
     ∃ (i:Nat) (ys:List V) (its:List Value) (k:Nat) (H':Hp),Inv X' [(D,xr its k)] (σ++List.replicate own.length none) H' s9/\zi ys its/\tn i s9.heap/\(∀ b∈fp,H' b=none)/\W i n' ys H'/\ys.length<=sizeLine:=fun {n' ys' its' k' H9 s9 pl} I9 v9 st9 fr9 w9 z9=>by
    have I9':Inv X' [(D,xr its' k')] (σ++τ) H9 s9:=I9.pins_of fun p hp=>I9.pin p (List.mem_append_right _ (by
     have q:p=(D,xr its' k'):=by simpa using hp
     subst q
     exact List.mem_cons_self))
    refine ⟨i+1,ys',its',k',H9,I9'.weak ?_ (fun j v e=>?_),v9,st9,fr9,w9,z9⟩
    ·rw [I9'.len,<- I5.len]
    ·have e':=Zf e
     rw [List.getElem?_append_left (List.getElem?_eq_some_iff.mp e').1]
     exact e'
   have keepIt:∀ {σ9:St} {H9:Hp} {s9:Shared},Inv X' ([(D,xr its k)]++kJ fp s7.heap) σ9 H9 s9->tn (i+1) s9.heap/\∀ b∈fp,H9 b=none:=fun {σ9 H9 s9} I9=>
    ⟨T.keep _ _ _ st7 fun b hb o e=>(I9.pin (b,o) (List.mem_append_right _ (List.mem_append_right _ (Y9 hb e)))).1,fun b hb=>by
     obtain ⟨o,e,_⟩:=T.obj _ _ st7 b hb
     exact (I9.pin (b,o) (List.mem_append_right _ (List.mem_append_right _ (Y9 hb e)))).2.1⟩
   refine wpAny_mono (hc C s2 H2 fp _ _ s8 _ H8 _ I8 q8) (fun c s9 ⟨H9,I9,q9⟩=>?_) fun _ _ z=>z
   cases c with
   | false=>
    rw [if_neg Bool.false_ne_true] at q9 ⊢
    obtain ⟨m',hm,w9⟩:=hN _ _ q9
    exact ⟨m',hm,back I9 v5 (keepIt I9).1 (keepIt I9).2 w9 z5⟩
   | true=>
    rw [if_pos rfl] at q9 ⊢
    refine wpAny_mono (he C s2 H2 fp _ _ s9 _ H9 _ I9 q9) (fun yv sa ⟨y,Ha,Ia,ra,qa⟩=>?_) fun _ _ z=>z
    obtain ⟨m',hm,wa⟩:=hN _ _ qa
    obtain ⟨ea,na,_⟩:=Ia.pin (D,xr its k) (List.mem_append_right _ (List.mem_append_left _ List.mem_cons_self))
    have szi:its.toArray.size<=sizeLine:=by
     have:=v5.length
     simp only [List.size_toArray]
     omega
    refine wpAny_list_append_plain (hsz:=szi) ⟨k,ea⟩ fun hb hlb hsb'=>?_
    obtain ⟨kb,eb⟩:=hlb
    have eb':hb.get? D=some (xr (its++[yv]) kb):=by rw [eb]; simp
    have Ib:Inv X' [(D,xr (its++[yv]) kb)] (σ++τ) Ha { sa with heap:=hb,toks:=sa.toks }:=Mu (tk:=sa.toks) Ia hDle hpn hsb' eb'
    have stb:tn (i+1) hb:=T.keep _ _ _ (keepIt Ia).1 fun b hbf o e=>(hsb'.2 b (fun z=>absurd (lt b hbf) (by rw [z]; exact Nat.not_lt.mpr hDle))).trans e
    exact ⟨m',hm,back Ib (zi.append v5 (.cons ra .nil)) stb (keepIt Ia).2 wa (by rw [List.length_append]; exact room)⟩
 exact codeAny_compStart_list (loop _ rfl) (T.self X.A 0 _ _ _ (T.keep _ _ _ t0 fun b _ o e=>keep b o e) (loop _ rfl))
noncomputable def Gi (n:Nat) (wi:TI) (g:TG) (tc:TT) (te:TE):TE:=fun σ H Q=>wi σ H fun J H1=>∃ W:Nat->Nat->List V->Hp->Prop,(∃ m,W 0 m [] H1)/\
 Y2 σ n J g tc te W fun ys H'=>∀ p,H' p=none->Q (.ref p) (zV H' p (.lst ys))
theorem Z2.inv {pins:List (Addr×Obj)} {σ:St} {H:Hp} {s:Shared} {C:Addr} {h':Heap} (o:Z2 X pins H s C) (I:Inv X pins σ H s) (hs:Heap.SameBut C s.heap h'):Inv X pins σ H { s with heap:=h' }:=
 I.turned (it:=C) (t':=s.toks) (fun b u hb q=>(hs.2 b hb).trans q) o.free o.ne (.inr o.old) o.cell o.pin
theorem JQ (hcalm:X.calm=true) (B:tY X scope cl own) (hi:PI X tg iter wi) (hg:∀ C s H fp pn,PG (xF X scope cl own C s H fp pn) tg g) (hc:∀ C s H fp pn,qi (xF X scope cl own C s H fp pn) ifs tc)
  (he:∀ C s H fp pn,PE (xF X scope cl own C s H fp pn) elt te) (hs:∀ x,foldedSetIterable iter X.env x=pure x:=by intro _; rfl) :
  PE X (.ListComp elt [⟨tg,iter,ifs,0⟩] scope pos) (Gi own.length wi g tc te):=by
 intro pins s σ H Q I h
 rw [eval_ListComp]
 refine wpAny_comprehension_free (use:=none) rfl hs B.clos B.kind B.names (zg (hi pins s σ H _ I h) fun v s1 h1=>zg h1 fun itv s2 h2=>?_)
 obtain ⟨it,fp,tn,J,H2,e,I2,T,st2,f2,W,⟨m0,w0⟩,turn⟩:=h2
 subst e
 refine Te (RR:=fun acc C=>compPost (model X.prog X.w) X.A X.xe none (EP X pins σ Q) acc C) hcalm B I2 T st2 f2 hg hc he w0 turn ?_
 intro D C s' H' ys m' I' n' fin ns' off
 exact ⟨m',ns',fun h' hs'=>⟨.ref D,zV H' D (.lst ys),off.inv I' hs',rfl,fin D n'⟩⟩
noncomputable def Gx (i n:Nat) (wi:TI) (g:TG) (tc:TT) (te:TE):TS:=fun D σ H=>wi σ H fun J H1=>∃ W:Nat->Nat->List V->Hp->Prop,(∃ m,W 0 m [] H1)/\
 Y2 σ n J g tc te W fun ys H'=>∀ p,H' p=none->D.nx (σ.set i (some (.ref p))) (zV H' p (.lst ys))
theorem Jc {i:Nat} {x:Str} {px spos:Pos} (hcalm:X.calm=true) (hN:X.N.Nodup) (hix:X.N[i]?=some x) (hx:X.env.scope.names.lookup x=some .local) (B:tY X scope cl own)
  (hsw:swapsWith (.ListComp elt [⟨tg,iter,ifs,0⟩] scope pos) (some (.Name x px)) spos.line X.env=pure true) (hi:PI X tg iter wi)
  (hg:∀ C s H fp pn,PG (xF X scope cl own C s H fp pn) tg g) (hc:∀ C s H fp pn,qi (xF X scope cl own C s H fp pn) ifs tc) (he:∀ C s H fp pn,PE (xF X scope cl own C s H fp pn) elt te)
  (hs:∀ x,foldedSetIterable iter X.env x=pure x:=by intro _; rfl) :
  PS X (.Assign [.Name x px] (.ListComp elt [⟨tg,iter,ifs,0⟩] scope pos) spos) (Gx i own.length wi g tc te):=by
 intro pins s σ H D I h
 rw [exec_Assign_Name_used _ _ _ _ hsw]
 refine wpAny_bind (wpAny_standAt (wpAny_bind ?_))
 show wpAny _ X.A (do let _ <- comprehension (.ListComp elt [⟨tg,iter,ifs,0⟩] scope pos) scope X.env _ (newList []) false (eval iter X.env) (some (assign (.Name x px) X.env))) _ _ s
 refine wpAny_bind (zg (wpAny_comprehension_free (use:=some (assign (.Name x px) X.env)) (Q:=fun _ s'=>SP X pins D .next s') rfl hs B.clos B.kind B.names
  (zg (hi pins s σ H _ I h) fun v s1 h1=>zg h1 fun itv s2 h2=>?_)) fun _ s' hq=>wpAny_pure (wpAny_pure hq))
 obtain ⟨it,fp,tn,J,H2,e,I2,T,st2,f2,W,⟨m0,w0⟩,turn⟩:=h2
 subst e
 refine Te (RR:=fun acc C=>compPost (model X.prog X.w) X.A X.xe (some (assign (.Name x px) X.env)) (fun _ s'=>SP X pins D .next s') acc C) hcalm B I2 T st2 f2 hg hc he w0 turn ?_
 intro L C s' H' ys m' I' n' fin ns' off
 show wpAny _ X.A (assign (.Name x px) X.env (.ref L)) _ _ s'
 refine wpAny_assign_Name (Ix I' hN hix (.inl hx) (v:=.ref L) rfl (fun s3 I3 q3=>?_) (.inr hx))
 obtain ⟨a,hsa,ha⟩:=q3
 have hCa:C≠a:=by
  rcases ha with z | z
  ·rw [z]; exact off.ne
  ·exact fun y=>off.cell x a z y.symm
 refine ⟨m',ns'.sameBut hsa hCa,fun h' hs'=>?_⟩
 exact ⟨_,_,Z2.inv (H:=zV H' L (.lst ys)) ⟨off.free,off.ne,off.old,off.cell,off.pin⟩ I3 hs',fin L n'⟩
end
end L2
namespace L2
open PySem PySem.Spec PyProof.Rows
structure QE (X:Cx) (e:Expr) (t:TE):Prop where
 h:PE X e t
structure QA (X:Cx) (es:List Expr) (t:TA):Prop where
 h:PA X es t
structure QS (X:Cx) (st:Stmt) (t:TS):Prop where
 h:PS X st t
structure QG (X:Cx) (e:Expr) (t:TG):Prop where
 h:PG X e t
structure gO (X:Cx) (es:List Expr) (t:vV):Prop where
 h:j5 X es t
structure QI (X:Cx) (tg e:Expr) (t:TI):Prop where
 h:PI X tg e t
section
variable {X:Cx} {x y:Str} {p pos pos' apos cpos p2:Pos} {e a b c o tg iter elt:Expr} {es rest:List Expr} {te ta tb tc to:TE} {t:TA} {tA tB':TT} {r r':R2} {v:V} {T id:String} {ps:List Str} {j k i:Nat} {sp:Sp}
theorem qv (i:Nat) {x:Str} {pos:Pos} (hN:X.N[i]?=some x:=by rfl) (hv:uB X.env.scope x:=by first | exact Or.inl rfl | exact Or.inr (Or.inl rfl) | exact Or.inr (Or.inr rfl)) (hd:(x == ("__debug__" : Str))=false:=by decide)
  (hcd:(x == ("__classdict__" : Str))=false:=by decide):QE X (.Name x pos) (tT i):=⟨ja hN hv hd hcd⟩
theorem Ct (h:yt X.mg x v) (hg:Gl X x) (hd:(x == ("__debug__" : Str))=false:=by decide):QE X (.Name x pos) (tC v):=⟨kI h hg hd⟩
theorem Cq (hg:Gl X x) (hm:X.mg x=none) (hv:bootBuiltins x=some (.type T)) (hn:x ≠ "__name__" := by decide) (hd:(x == ("__debug__" : Str))=false:=by decide):QE X (.Name x pos) (tC (.ty T)):=⟨Fc hg hm hv hn hd⟩
noncomputable def JV:Expr->Bool
 | .Name ..=>true
 | .Call ..=>true
 | .Subscript ..=>true
 | .Attribute ..=>true
 | .Constant ..=>true
 | .List ..=>true
 | .Tuple ..=>true
 | .BinOp ..=>true
 | _=>false
theorem CJ {e:Expr} {env:Env} (h:JV e=true):∀ whole,isTrue e env whole=(do let v <- whole; standAt e.pos; holding [v] (truthy v)):=by
 cases e<;>first | (intro _; rfl) | cases h
theorem Jg:QA X [] jw:=⟨jZ⟩
theorem Vb (ha:QE X e te) (hr:QA X es t) (h:yi e=true:=by rfl):QA X (e::es) (jv te t):=⟨kH ha.h hr.h h⟩
noncomputable def jb:Expr->Bool
 | .Name ..=>true
 | .Constant ..=>true
 | .BinOp ..=>true
 | .Call ..=>true
 | .UnaryOp ..=>true
 | .Subscript ..=>true
 | .Attribute ..=>true
 | _=>false
theorem VX {b:Expr} (h:jb b=true):T4 b:=by
 cases b<;>first | (intro _ _; rfl) | cases h
theorem Vc {r:List V->Hp->VK->Prop} (hc:xT X (.builtin id) r) (hg:Gl X x) (hm:X.mg x=none) (hv:bootBuiltins x=some (.builtin id)) (ha:QA X (e::es) t) (hn:x ≠ "__name__" := by decide) (hdb:(x == ("__debug__" : Str))=false:=by decide)
  (he:(e::es).all yi=true:=by rfl):QE X (.Call (.Name x p) (e::es) [] pos) (YY r t):=by
 rw [List.all_cons,Bool.and_eq_true] at he
 exact ⟨Ff hc hg hm hv ha.h hn hdb (we he.1) (ku he.2)⟩
theorem YI {r:List V->Hp->VK->Prop} (hc:xT X (.type T) r) (hg:Gl X x) (hm:X.mg x=none) (hv:bootBuiltins x=some (.type T)) (ha:QA X (e::es) t) (hn:x ≠ "__name__" := by decide) (hdb:(x == ("__debug__" : Str))=false:=by decide)
  (he:(e::es).all yi=true:=by rfl):QE X (.Call (.Name x p) (e::es) [] pos) (YY r t):=by
 rw [List.all_cons,Bool.and_eq_true] at he
 exact ⟨Fg hc hg hm hv ha.h hn hdb (we he.1) (ku he.2)⟩
variable {st:Stmt} {sts body:List Stmt} {ts us tbs:TS} {g:TG} {wi:TI}
noncomputable def kB:Expr->Bool
 | .ListComp ..=>false
 | .SetComp ..=>false
 | .DictComp ..=>false
 | _=>true
theorem J8 {e:Expr} {tgt:Option Expr} {n:Nat} {env:Env} (h:kB e=true):swapsWith e tgt n env=pure false:=by
 cases e<;>first | rfl | cases h
theorem Jj (he:QE X e te) (hs:kB e=true:=by rfl):QS X (.Expr e pos) (O0 te):=⟨CS he.h (J8 hs)⟩
theorem Jk {i:Nat} {x:Str} {pos':Pos} (hN:X.N.Nodup) (hi:X.N[i]?=some x) (hx:uc X.env.scope x) (he:QE X e te) (hs:kB e=true:=by rfl) (hf:X.fn x=true\/X.env.scope.names.lookup x=some .local:=by first | exact .inl rfl | exact .inr rfl | assumption) :
  QS X (.Assign [.Name x pos'] e pos) (Um te (wD i)):=⟨CV hN hi hx he.h (J8 hs) hf⟩
theorem yq {i:Nat} {x:Str} (hN:X.N.Nodup) (hi:X.N[i]?=some x) (hx:uc X.env.scope x) (hf:X.fn x=true\/X.env.scope.names.lookup x=some .local:=by first | exact .inl rfl | exact .inr rfl | assumption):QG X (.Name x pos) (wD i):=⟨Fw hN hi hx hf⟩
theorem Cv {o i:Expr} {to ti:TE} {t:Z5} (ho:QE X o to) (hi:QE X i ti) (hs:Xz X t) (hp:jb i=true:=by rfl):QG X (.Subscript o i pos) (QB to ti t):=by
 refine ⟨Fx ho.h hi.h hs ?_⟩
 cases i<;>first | (intro _; rfl) | cases hp
theorem jd:gO X [] qy:=⟨F_⟩
theorem vK {t:TG} {u:vV} (h1:QG X e t) (h2:gO X es u) (hs:(assignEach (e::es) X.env).map (·.2)=assign e X.env::(assignEach es X.env).map (·.2):=by rfl):gO X (e::es) (vC t u):=⟨Fz h1.h h2.h hs⟩
theorem kM {k:Nat} {t:vV} {n:Nat} (hc:X.calm=true) (h:gO X es t) (hn:(assignEach es X.env).length=n:=by rfl) (hst:(assignEach es X.env).findIdx? (·.1)=none:=by rfl):QG X (.Tuple es k pos) (jH X.K n t):=⟨Fy hc h.h hn hst⟩
variable {ifs:List Expr} {scope:Scope} {cl:List (Str×Addr)} {own:List Str} {tcc:TT}
variable {name:Str} {rm:V->List V->Hp->VK->Prop}
theorem Iw {env:Env} {pos:Pos}:∀ {es:List Expr},es.all yi=true->(backTo pos (starEach es env)).all (fun x=>!x.1)=true
 | [],_=>rfl
 | e::es,h=>by
  rw [List.all_cons,Bool.and_eq_true] at h
  rw [we h.1]
  have ih:=Iw (env:=env) (pos:=pos) h.2
  unfold backTo at ih ⊢
  rw [List.map_cons,List.all_cons,ih]
  rfl
theorem pN (pa:PlainAttrs T) (slot:Slot T name id) (hty:typeOf (.builtin id)=pure (.type "method_descriptor")) (hm:qC X id rm) (ho:QE X o to) (ha:QA X (e::es) t)
  (hbase:attributeBase o name X.env (eval o X.env)=eval o X.env:=by rfl) (hline:(apos.endLine == cpos.line)=true:=by rfl) (he:(e::es).all yi=true:=by rfl) (hl:(e::es).length<30:=by decide) :
  QE X (.Call (.Attribute o name apos) (e::es) [] cpos) (I_ X.K T rm to t):=⟨by
 have ha':=Iw (env:=X.env) (pos:=cpos) he
 rw [List.all_cons,Bool.and_eq_true] at he
 refine Fb pa slot hty hm ho.h ha.h hbase ?_ hline (we he.1) (ku he.2)
 rw [ha']
 show (true&&true&&decide ((e::es).length+0+0<30))=true
 rw [decide_eq_true (show (e::es).length+0+0<30 from hl)]
 rfl⟩
end
end L2
namespace L2
open PySem PySem.Spec PyProof.Rows
noncomputable def T7 (K:PySem.W.Frag) (H:Hp) (a c:Addr) (xs ys:List V):Prop:=(yd K H a xs/\yd K H c ys)\/(yO K H a xs/\yO K H c ys)
section
variable {X:Cx} {pins:List (Addr×Obj)} {σ:St} {H:Hp} {s:Shared}
theorem EB {A:Around} {a c:Addr} {xs ys:List V} {e:Nat->Bool} (I:Inv X pins σ H s) (hu:A.units<cLine) (hq:T7 X.K H a c xs ys)
  (he:∀ (j:Nat) x' y' u v,xs[j]?=some x'->ys[j]?=some y'->zp x' u->zp y' v->SeqAt.EqAt A.in1 s u v (e j)) :
  SeqAt.RcAt A s (.ref a) (.ref c) ((List.range (min xs.length ys.length)).all e&&xs.length == ys.length)/\SeqAt.RcNeAt A s (.ref a) (.ref c) (!((List.range (min xs.length ys.length)).all e&&xs.length == ys.length)):=by
 have get:∀ {zs:List V} {us:List Value} {j:Nat} (hj:j<us.toArray.size),zi zs us->∃ z,zs[j]?=some z/\zp z us.toArray[j]:=fun {zs us j} hj r=>by
  have hl:=r.length
  have hj':j<zs.length:=by
   rw [List.size_toArray] at hj
   omega
  obtain ⟨u,hu',ru⟩:=r.get (List.getElem?_eq_getElem hj')
  refine ⟨_,List.getElem?_eq_getElem hj',?_⟩
  have:us.toArray[j]=u:=by
   have h2:us[j]?=some us[j]:=List.getElem?_eq_getElem (by omega)
   rw [h2] at hu'
   simpa using hu'
  rw [this]
  exact ru
 rcases hq with ⟨ha,hc⟩ | ⟨ha,hc⟩
 ·obtain ⟨us,ra,pa,_⟩:=I.tuple ha
  obtain ⟨vs,rc,pc,_⟩:=I.tuple hc
  have h1:=ra.length
  have h2:=rc.length
  have key:∀ j (k1:j<us.toArray.size) (k2:j<vs.toArray.size),SeqAt.EqAt A.in1 s us.toArray[j] vs.toArray[j] (e j):=fun j k1 k2=>by
   obtain ⟨z1,e1,r1⟩:=get k1 ra
   obtain ⟨z2,e2,r2⟩:=get k2 rc
   exact he j z1 z2 _ _ e1 e2 r1 r2
  have p:=SeqAt.RcAt.tuples (e:=e) pa pc hu key
  have q:=SeqAt.RcNeAt.tuples (e:=e) pa pc hu key
  rw [List.size_toArray,List.size_toArray,<- h1,<- h2] at p q
  exact ⟨p,q⟩
 ·obtain ⟨us,ra,pa,_⟩:=I.list ha
  obtain ⟨vs,rc,pc,_⟩:=I.list hc
  have h1:=ra.length
  have h2:=rc.length
  have key:∀ j (k1:j<us.toArray.size) (k2:j<vs.toArray.size),SeqAt.EqAt A.in1 s us.toArray[j] vs.toArray[j] (e j):=fun j k1 k2=>by
   obtain ⟨z1,e1,r1⟩:=get k1 ra
   obtain ⟨z2,e2,r2⟩:=get k2 rc
   exact he j z1 z2 _ _ e1 e2 r1 r2
  by_cases hl:xs.length=ys.length
  ·have hs:us.toArray.size=vs.toArray.size:=by rw [List.size_toArray,List.size_toArray]; omega
   have p:=SeqAt.RcAt.lists (e:=e) pa.isList pc.isList hs hu key
   have q:=SeqAt.RcNeAt.lists (e:=e) pa.isList pc.isList hs hu key
   have e1:min xs.length ys.length=us.toArray.size:=by rw [List.size_toArray]; omega
   have e2:(xs.length == ys.length)=true:=by simp [hl]
   rw [e1,e2,Bool.and_true]
   exact ⟨p,q⟩
  ·have hs:(us.toArray.size != vs.toArray.size)=true:=by
    rw [List.size_toArray,List.size_toArray]
    simp
    omega
   have e2:(xs.length == ys.length)=false:=by simp [hl]
   rw [e2,Bool.and_false]
   exact ⟨SeqAt.RcAt.lists_lengths pa.isList pc.isList hs hu,SeqAt.RcNeAt.lists_lengths pa.isList pc.isList hs hu⟩
theorem Zp (A:Around):A.in1.units=A.units+1:=rfl
end
theorem Lv {x:V} (h:wo x=true):wM x x=true:=by
 cases x<;>first | rfl | (simp [wM]; done) | cases h
end L2
namespace L2
open PySem PySem.Spec PyProof.Rows
open PySem.W (hideAll)
end L2
namespace L2
open PySem PySem.Spec PyProof.Rows
section
variable {X:Cx} {pins:List (Addr×Obj)} {σ:St} {H H':Hp} {s:Shared} {a C:Addr}
noncomputable def OX (a C:Addr) (h:Heap):Prop:=∃ o vs,h.get? a=some o/\o.cls=.ref C/\o.data=.fields vs
theorem Hg {fs ex:List Addr} {H H':Hp} {h h':Heap} {D:Addr} {o:HO} (u:Un fs ex H H' h h') (hD:h.get? D=none) (hn:H' D=none):Un fs ex H (zV H' D o) h h' where
 keep:=u.keep
 slot:=u.slot
 free:=fun b ob q n hx=>by rw [zr (fun z=>by subst z; rw [hD] at q; cases q)]; exact u.free b ob q n hx
 there:=u.there
 tups:=fun b xs q=>by rw [zr (wx (u.tups b xs q) hn)]; exact u.tups b xs q
 frzs:=fun b ob v q=>by rw [zr (wx (u.frzs b ob v q) hn)]; exact u.frzs b ob v q
 tbls:=fun b ps q=>by
  obtain ⟨more,z⟩:=u.tbls b ps q
  exact ⟨more,by rw [zr (wx z hn)]; exact z⟩
end
end L2
namespace L2
open PySem PySem.Spec PyProof.Rows
end L2
namespace L2
open PySem PySem.Spec PyProof.Rows
noncomputable abbrev TJ:=St->Hp->Str->VK->Prop
structure QJ (X:Cx) (es:List Expr) (t:TJ):Prop where
 h:∀ (pins:List (Addr×Obj)) (s:Shared) (σ:St) (H:Hp) (acc:Str) (Q:VK),Inv X pins σ H s->t σ H acc Q->wpAny (model X.prog X.w) X.A (joinParts acc (evalEach es X.env)) (EP X pins σ Q) X.xe s
section
variable {X:Cx} {e e1 e2:Expr} {es:List Expr} {te:TE} {t:TJ} {pos:Pos}
noncomputable def Gh (te:TE) (t:TJ):TJ:=fun σ H acc Q=>te σ H fun v H1=>∃ y,v=.str y/\(acc++y).length<=sizeLine/\t σ H1 (acc++y) Q
theorem Cz:QJ X [] (fun _ H acc Q=>acc.length<=sizeLine/\Q (.str acc) H):=⟨fun pins s σ H acc Q I q=>wpAny_mkStr ⟨.str acc,H,I.tok _,⟨_,rfl⟩,q.2⟩ q.1⟩
theorem Cy (he:QE X e te) (ht:QJ X es t):QJ X (e::es) (Gh te t):=by
 refine ⟨fun pins s σ H acc Q I q=>?_⟩
 show wpAny _ _ (joinParts acc (eval e X.env::evalEach es X.env)) _ _ s
 refine joinParts_cons (zg (he.h pins s σ H _ I q) fun u s1 ⟨v,H1,I1,r,y,hv,hl,q1⟩=>?_)
 subst hv
 obtain ⟨tk,rfl⟩:=(show ∃ tk,u=Value.str y tk from r)
 exact ⟨hl,ht.h pins s1 σ H1 _ Q I1 q1⟩
theorem Cs (h:QJ X (e1::e2::es) t):QE X (.JoinedStr (e1::e2::es) pos) (fun σ H Q=>t σ H Str.empty Q):=⟨fun pins s σ H Q I q=>h.h pins s σ H _ Q I q⟩
noncomputable def Gd (te:TE):TE:=fun σ H Q=>te σ H fun v H1=>(∃ a:Int,v=.int a/\a.natAbs.log2<1920/\Q (.str (Str.ofString (toString a))) H1)\/∃ y:Str,v=.str y/\y.length<=sizeLine/\Q (.str y) H1
theorem Cr (he:QE X e te):QE X (.FormattedValue e (-1) none pos) (Gd te):=by
 refine ⟨fun pins s σ H Q I q=>?_⟩
 refine FormattedValue_plain (zg (he.h pins s σ H _ I q) fun u s1 ⟨v,H1,I1,r,z⟩=>?_)
 rcases z with ⟨a,rfl,hl,q1⟩ | ⟨y,rfl,hl,q1⟩
 ·obtain ⟨tk,rfl⟩:=(show ∃ tk,u=Value.int a tk from r)
  exact formatField_int_small hl ⟨.str (Str.ofString (toString a)),H1,I1.tok _,⟨_,rfl⟩,q1⟩
 ·obtain ⟨tk,rfl⟩:=(show ∃ tk,u=Value.str y tk from r)
  exact formatField_str (fun t' tk'=>⟨.str y,H1,I1.tok _,⟨_,rfl⟩,q1⟩) hl
theorem int_le {a:Int} (h:a.natAbs.log2<1920):(Str.ofString (toString a)).length<=1921:=by
 have e:=int_text_length_le (k:=1920) (by decide) h
 rw [PySem.ofString_length]; exact e
theorem HG {a:Str} {m:Nat} (h:a.length<=m) (hm:m<=16777216:=by decide):a.length<=sizeLine:=Nat.le_trans h (by rw [sizeLine_eq]; exact hm)
end
end L2
namespace L2
open PySem PySem.Spec PyProof.Rows
open PySem.W (Looks findIn mroIn looks_findIn looks_mroIn clsIn)
end L2
namespace L2
open PySem PySem.Spec PyProof.Rows
section
variable {X:Cx}
theorem OM {ns:List Int} {its:List Value} (r:zi (ns.map V.int) its) {i:Nat} {v:Value} (h:its.toArray[i]?=some v):∃ t,v=.int (ns.getD i 0) t:=by
 have hi:i<its.length:=by
  rw [List.getElem?_toArray] at h
  exact (List.getElem?_eq_some_iff.mp h).1
 have hl:ns.length=its.length:=by have:=r.length; rw [List.length_map] at this; exact this
 have hx:(ns.map V.int)[i]?=some (.int (ns.getD i 0)):=by
  rw [List.getElem?_map,List.getD_eq_getElem?_getD,List.getElem?_eq_getElem (by omega)]
  rfl
 obtain ⟨u,hu,ru⟩:=r.get hx
 rw [List.getElem?_toArray,hu] at h
 cases h
 exact ru
end
end L2
namespace L2
open PySem PySem.Spec PyProof.Rows
open Builtin.SmallTypes (nextOf)
structure qk (P:Program) (w:World) (it l:Addr) (st:Nat->Heap->Prop) (n:Nat) (val:Nat->Value):Prop where
 keep:∀ i h h',st i h->(∀ b o,(b=it\/b=l)->h.get? b=some o->h'.get? b=some o)->st i h'
 item:∀ {A:Around} {Q:Value->Shared->Prop} {E:Value->Shared->Prop} {s:Shared} (i:Nat),st i s.heap->i<n->(∀ h',st (i+1) h'->Heap.SameBut it s.heap h'->Q (val i) { s with heap:=h' })->wpAny (model P w) A (nextOf (.ref it)) Q E s
 done:∀ {A:Around} {Q:Value->Shared->Prop} {E:Value->Shared->Prop} {s:Shared} (i:Nat),A.handled=none->st i s.heap->n<=i->
  (∀ h' e,Heap.ExtBut it s.heap h'->(∃ o,h'.get? e=some o/\o.cls=.type "StopIteration")->E (.ref e) { s with heap:=h' })->wpAny (model P w) A (nextOf (.ref it)) Q E s
section
variable {prog:Program} {w:World} {A:Around} {E:Value->Shared->Prop} {s:Shared}
theorem D6 {it t:Addr} {i:Nat} {items} {x:Value} {Q:Value->Shared->Prop} (hit:s.heap.IsTupleIter it t i) (ht:s.heap.IsTuple t items) (hx:items[i]?=some x)
  (hQ:∀ h',h'.IsTupleIter it t (i+1)->Heap.SameBut it s.heap h'->Q x { s with heap:=h' }):wpAny (model prog w) A (nextOf (.ref it)) Q E s:=by
 obtain ⟨o,ho,hc,hd⟩:=id hit
 obtain ⟨ol,hol,_,nl,hdl⟩:=ht
 unfold nextOf
 refine wpAny_bind (wpAny_callSpecial?_slot (name:=Str.ofString "__next__") hit.typeIs F.slot_tuple_iterator_next
  (wpAny_call_entry F.slot_tuple_iterator_next hit.typeIs F.entry_tuple_iterator_next ?_ (F.args_tuple_iterator_next_1 _)))
 refine wpAny_bind (m:=field (.ref it) 0) (wpAny_field ho hd (x:=.ref t) rfl ?_)
 show wpAny _ _ (if (Value.ref t == Value.none)=true then _ else _) _ _ s
 rw [if_neg (show ¬ ((Value.ref t == Value.none)=true) from Bool.false_ne_true)]
 refine wpAny_bind (m:=field (.ref it) 1) (wpAny_field ho hd (x:=.int i 0) rfl ?_)
 refine wpAny_bind (m:=seqItems? (.ref t)) (wpAny_seqItems hol hdl ?_)
 simp only [Int.toNat_natCast,hx]
 refine wpAny_bind (wpAny_setField ho hd (by simp) (wpAny_pure ⟨x,rfl,wpAny_pure (hQ _ ?_ (Heap.SameBut.update ..))⟩))
 exact ⟨_,Heap.get?_update_self _ ho (Obj.isFreed_of_fields (Obj.data_mapFields hd _)),(Obj.cls_mapFields ..).trans hc,by
  rw [Obj.data_mapFields hd]; simp [rawInt]⟩
theorem D5 {it t:Addr} {i:Nat} {items} {Q:Value->Shared->Prop} (hh:A.handled=none) (hit:s.heap.IsTupleIter it t i) (ht:s.heap.IsTuple t items) (hx:items[i]?=none)
  (hE:∀ h' e,Heap.ExtBut it s.heap h'->(∃ o,h'.get? e=some o/\o.cls=.type "StopIteration")->E (.ref e) { s with heap:=h' }):wpAny (model prog w) A (nextOf (.ref it)) Q E s:=by
 obtain ⟨o,ho,hc,hd⟩:=id hit
 obtain ⟨ol,hol,_,nl,hdl⟩:=ht
 unfold nextOf
 refine wpAny_bind (wpAny_callSpecial?_slot (name:=Str.ofString "__next__") hit.typeIs F.slot_tuple_iterator_next
  (wpAny_call_entry F.slot_tuple_iterator_next hit.typeIs F.entry_tuple_iterator_next ?_ (F.args_tuple_iterator_next_1 _)))
 refine wpAny_bind (m:=field (.ref it) 0) (wpAny_field ho hd (x:=.ref t) rfl ?_)
 show wpAny _ _ (if (Value.ref t == Value.none)=true then _ else _) _ _ s
 rw [if_neg (show ¬ ((Value.ref t == Value.none)=true) from Bool.false_ne_true)]
 refine wpAny_bind (m:=field (.ref it) 1) (wpAny_field ho hd (x:=.int i 0) rfl ?_)
 refine wpAny_bind (m:=seqItems? (.ref t)) (wpAny_seqItems hol hdl ?_)
 simp only [Int.toNat_natCast,hx]
 refine wpAny_bind (wpAny_rule (wpAny_bind (wpAny_setField ho hd (by simp) ?_)))
 refine wpAny_bind (m:=newExc (.type "StopIteration") []) ?_
 simp only [newExc,newTuple]
 refine wpAny_bind (wpAny_newObj_type ?_ (by size_fits))
 refine wpAny_bind (m:=firstArgMember _ _) (wpAny_of_eq (a:=Value.none) (by first | rfl | (simp only [firstArgMember]; rfl)) ?_)
 refine wpAny_newObj_type ?_ (by size_fits)
 simp only [raiseNew]
 refine wpAny_bind (wpAny_handled ?_)
 first | rw [show A.in1.handled=none from hh] | rw [hh]
 refine wpAny_bind (wpAny_pure (wpAny_throw ?_))
 exact hE _ _ (((Heap.SameBut.update ..).extBut.push _).push _) ⟨_,Heap.get?_push_size _ rfl,rfl⟩
theorem GN {it l:Addr} (hne:l≠it) (items:Array Value):qk prog w it l (fun i h=>h.IsListIter it l i/\h.IsList l items) items.size (fun i=>items.getD i .none) where
 keep:=fun i h h' st k=>⟨st.1.at fun o e=>k it o (.inl rfl) e,st.2.at fun o e=>k l o (.inr rfl) e⟩
 item:=fun i st hi hQ=>wpAny_nextOf_list_item st.1 st.2 (x:=items.getD i .none) (by simp [Array.getD,hi]) fun h' st' sb=>hQ h' ⟨st',st.2.extBut sb.extBut hne⟩ sb
 done:=fun i hh st hi hE=>wpAny_nextOf_list_end hh st.1 st.2 (Array.getElem?_eq_none hi) hE
theorem GO {it l:Addr} (hne:l≠it) (items:Array Value):qk prog w it l (fun i h=>h.IsTupleIter it l i/\h.IsTuple l items) items.size (fun i=>items.getD i .none) where
 keep:=fun i h h' st k=>⟨st.1.at fun o e=>k it o (.inl rfl) e,st.2.at fun o e=>k l o (.inr rfl) e⟩
 item:=fun i st hi hQ=>D6 st.1 st.2 (x:=items.getD i .none) (by simp [Array.getD,hi]) fun h' st' sb=>hQ h' ⟨st',st.2.extBut sb.extBut hne⟩ sb
 done:=fun i hh st hi hE=>D5 hh st.1 st.2 (Array.getElem?_eq_none hi) hE
variable {z TI TO i1 i2 l1 l2:Addr} {st1 st2:Nat->Heap->Prop} {n1 n2:Nat} {v1 v2:Nat->Value} {a b:Value} {k:Nat}
theorem Hx {Q:Value->Shared->Prop} (D:ZipApart z TI TO i1 i2 l1 l2) (S1:qk prog w i1 l1 st1 n1 v1) (S2:qk prog w i2 l2 st2 n2 v2)
  (hz:IsZip s.heap z TI TO .none) (hTI:IsPair s.heap TI (.ref i1) (.ref i2)) (hTO:IsPair s.heap TO a b) (h1:st1 k s.heap) (h2:st2 k s.heap) (k1:k<n1) (k2:k<n2)
  (hi1:i1<s.heap.objs.size) (hi2:i2<s.heap.objs.size) (hl1:l1<s.heap.objs.size) (hl2:l2<s.heap.objs.size)
  (hQ:∀ h',IsZip h' z TI TO (rawInt s.heap.objs.size)->IsPair h' TO (v1 k) (v2 k)->st1 (k+1) h'->st2 (k+1) h'->IsPair h' s.heap.objs.size (v1 k) (v2 k)->
   (∀ c o,c≠z->c≠TO->c≠i1->c≠i2->s.heap.get? c=some o->h'.get? c=some o)->Q (.ref s.heap.objs.size) { s with heap:=h' }) :
  wpAny (model prog w) A (Builtin.«zip.__next__» ⟨[.ref z],[]⟩) (fun fin s'=>∃ v,fin=.done (.ret v)/\Q v s') E s:=by
 refine wpAny_bind (m:=field (.ref z) 2) (wpAny_field hz rfl (x:=.bool false) rfl ?_)
 refine wpAny_bind (m:=field (.ref z) 3) (wpAny_field hz rfl (x:=.ref TI) rfl ?_)
 refine wpAny_bind (wpAny_seqItems hTI rfl ?_)
 refine wpAny_bind (m:=Builtin.SmallTypes.ownedTupleIsFree (.ref z)) ?_
 unfold Builtin.SmallTypes.ownedTupleIsFree
 refine wpAny_bind (wpAny_field hz rfl (x:=.none) rfl (wpAny_pure ?_))
 simp only [if_true]
 refine wpAny_bind (wpAny_rule (wpAny_bind (wpAny_field hz rfl (x:=.ref TO) rfl ?_)))
 refine wpAny_bind (wpAny_setField_rec hz (by simp) fun ha hza sa=>?_)
 replace hza:IsZip ha z TI TO .ellipsis:=hza
 refine wpAny_bind ?_
 simp only [List.zipIdx_cons,List.zipIdx_nil,List.forIn_cons,List.forIn_nil]
 have h1a:st1 k ha:=S1.keep k _ _ h1 fun c o hc e=>sa.extBut c o (by rcases hc with rfl | rfl; exact D.i1z; exact D.l1z) e
 refine wpAny_bind (wpAny_bind (wpAny_onRaise (wpAny_bind (m:=nextOf (.ref i1)) (S1.item k h1a k1 fun hb h1b sb=>wpAny_pure ?_))))
 have hTOb:IsPair hb TO a b:=sb.extBut _ _ D.TOi1 (sa.extBut _ _ D.TOz hTO)
 refine wpAny_bind (wpAny_seqItems hTOb rfl (wpAny_bind (wpAny_updateSeq_pair hTOb fun hc hTOc sc=>?_)))
 replace hTOc:IsPair hc TO (v1 k) b:=hTOc
 refine wpAny_bind (wpAny_letGo (wpAny_pure ?_))
 have h2c:st2 k hc:=S2.keep k _ _ h2 fun c o hcc e=>by
  rcases hcc with rfl | rfl
  ·exact sc.extBut _ _ D.TOi2.symm (sb.extBut _ _ D.i12.symm (sa.extBut _ _ D.i2z e))
  ·exact sc.extBut _ _ D.l2TO (sb.extBut _ _ D.l2i1 (sa.extBut _ _ D.l2z e))
 refine wpAny_bind (wpAny_bind (wpAny_onRaise (wpAny_bind (m:=nextOf (.ref i2)) (S2.item k h2c k2 fun hd h2d sd=>wpAny_pure ?_))))
 have hTOd:IsPair hd TO (v1 k) b:=sd.extBut _ _ D.TOi2 hTOc
 refine wpAny_bind (wpAny_seqItems hTOd rfl (wpAny_bind (wpAny_updateSeq_pair hTOd fun he hTOe se=>?_)))
 replace hTOe:IsPair he TO (v1 k) (v2 k):=hTOe
 refine wpAny_bind (wpAny_letGo (wpAny_pure (wpAny_pure ?_)))
 refine wpAny_bind (wpAny_seqItems hTOe rfl (wpAny_bind (wpAny_newTuple ?_)))
 have hsz:he.objs.size=s.heap.objs.size:=by rw [se.1,sd.1,sc.1,sb.1,sa.1]
 have hze:IsZip he z TI TO .ellipsis:=se.extBut _ _ D.TOz.symm (sd.extBut _ _ D.i2z.symm (sc.extBut _ _ D.TOz.symm (sb.extBut _ _ D.i1z.symm hza)))
 have hke:∀ c o,c≠z->c≠TO->c≠i1->c≠i2->s.heap.get? c=some o->he.get? c=some o:=fun c o c1 c2 c3 c4 e=>
  se.extBut _ _ c2 (sd.extBut _ _ c4 (sc.extBut _ _ c2 (sb.extBut _ _ c3 (sa.extBut _ _ c1 e))))
 have h1e:st1 (k+1) he:=S1.keep _ _ _ h1b fun c o hcc e=>by
  rcases hcc with rfl | rfl
  ·exact se.extBut _ _ D.TOi1.symm (sd.extBut _ _ D.i12 (sc.extBut _ _ D.TOi1.symm e))
  ·exact se.extBut _ _ D.l1TO (sd.extBut _ _ D.l1i2 (sc.extBut _ _ D.l1TO e))
 have h2e:st2 (k+1) he:=S2.keep _ _ _ h2d fun c o hcc e=>by
  rcases hcc with rfl | rfl
  ·exact se.extBut _ _ D.TOi2.symm e
  ·exact se.extBut _ _ D.l2TO e
 have hzlt:z<he.objs.size:=Heap.lt_size hze
 refine wpAny_bind (m:=Builtin.SmallTypes.ownedTupleHandOut (.ref z) (.ref he.objs.size)) ?_
 unfold Builtin.SmallTypes.ownedTupleHandOut
 have hzf:IsZip (he.push { cls:=.type "tuple",data:=.seq #[v1 k,v2 k] }) z TI TO .ellipsis:=Heap.get?_push_of_some _ hze
 refine wpAny_bind (wpAny_setField_rec hzf (by simp) fun hg hzg sg=>?_)
 replace hzg:IsZip hg z TI TO (rawInt he.objs.size):=hzg
 refine wpAny_setField_rec hzg (by simp) fun hh hzh sh=>?_
 replace hzh:IsZip hh z TI TO (rawInt he.objs.size):=hzh
 have up:∀ c o,c≠z->he.get? c=some o->hh.get? c=some o:=fun c o c1 e=>sh.extBut _ _ c1 (sg.extBut _ _ c1 (Heap.get?_push_of_some _ e))
 have hT:IsPair hh he.objs.size (v1 k) (v2 k):=sh.extBut _ _ (Nat.ne_of_gt hzlt) (sg.extBut _ _ (Nat.ne_of_gt hzlt) (Heap.get?_push_size _ rfl))
 rw [hsz] at hzh hT
 refine wpAny_pure ⟨_,rfl,?_⟩
 show Q (.ref he.objs.size) _
 rw [hsz]
 refine hQ hh hzh (up _ _ D.TOz hTOe) (S1.keep _ _ _ h1e fun c o hcc e=>up c o ?_ e) (S2.keep _ _ _ h2e fun c o hcc e=>up c o ?_ e) hT fun c o c1 c2 c3 c4 e=>up c o c1 (hke c o c1 c2 c3 c4 e)
 ·rcases hcc with rfl | rfl
  ·exact D.i1z
  ·exact D.l1z
 ·rcases hcc with rfl | rfl
  ·exact D.i2z
  ·exact D.l2z
theorem Hw {Q:Fin->Shared->Prop} (hh:A.handled=none) (D:ZipApart z TI TO i1 i2 l1 l2) (S1:qk prog w i1 l1 st1 n1 v1) (S2:qk prog w i2 l2 st2 n2 v2)
  (hz:IsZip s.heap z TI TO .none) (hTI:IsPair s.heap TI (.ref i1) (.ref i2)) (hTO:IsPair s.heap TO a b) (h1:st1 k s.heap) (h2:st2 k s.heap) (hend:n1<=k\/n2<=k)
  (hE:∀ h' e,(∀ c o,c≠z->c≠TO->c≠i1->c≠i2->s.heap.get? c=some o->h'.get? c=some o)->(∃ o,h'.get? e=some o/\o.cls=.type "StopIteration")->E (.ref e) { s with heap:=h' }) :
  wpAny (model prog w) A (Builtin.«zip.__next__» ⟨[.ref z],[]⟩) Q E s:=by
 refine wpAny_bind (m:=field (.ref z) 2) (wpAny_field hz rfl (x:=.bool false) rfl ?_)
 refine wpAny_bind (m:=field (.ref z) 3) (wpAny_field hz rfl (x:=.ref TI) rfl ?_)
 refine wpAny_bind (wpAny_seqItems hTI rfl ?_)
 refine wpAny_bind (m:=Builtin.SmallTypes.ownedTupleIsFree (.ref z)) ?_
 unfold Builtin.SmallTypes.ownedTupleIsFree
 refine wpAny_bind (wpAny_field hz rfl (x:=.none) rfl (wpAny_pure ?_))
 simp only [if_true]
 refine wpAny_bind (wpAny_rule (wpAny_bind (wpAny_field hz rfl (x:=.ref TO) rfl ?_)))
 refine wpAny_bind (wpAny_setField_rec hz (by simp) fun ha hza sa=>?_)
 replace hza:IsZip ha z TI TO .ellipsis:=hza
 refine wpAny_bind ?_
 simp only [List.zipIdx_cons,List.zipIdx_nil,List.forIn_cons,List.forIn_nil]
 have h1a:st1 k ha:=S1.keep k _ _ h1 fun c o hc e=>sa.extBut c o (by rcases hc with rfl | rfl; exact D.i1z; exact D.l1z) e
 by_cases k1:k<n1
 ·have k2:n2<=k:=by omega
  refine wpAny_bind (wpAny_bind (wpAny_onRaise (wpAny_bind (m:=nextOf (.ref i1)) (S1.item k h1a k1 fun hb h1b sb=>wpAny_pure ?_))))
  have hTOb:IsPair hb TO a b:=sb.extBut _ _ D.TOi1 (sa.extBut _ _ D.TOz hTO)
  refine wpAny_bind (wpAny_seqItems hTOb rfl (wpAny_bind (wpAny_updateSeq_pair hTOb fun hc hTOc sc=>?_)))
  refine wpAny_bind (wpAny_letGo (wpAny_pure ?_))
  have h2c:st2 k hc:=S2.keep k _ _ h2 fun c o hcc e=>by
   rcases hcc with rfl | rfl
   ·exact sc.extBut _ _ D.TOi2.symm (sb.extBut _ _ D.i12.symm (sa.extBut _ _ D.i2z e))
   ·exact sc.extBut _ _ D.l2TO (sb.extBut _ _ D.l2i1 (sa.extBut _ _ D.l2z e))
  refine wpAny_bind (wpAny_bind (wpAny_onRaise (wpAny_bind (m:=nextOf (.ref i2)) (S2.done k hh h2c k2 fun hd e sd he=>?_))))
  obtain ⟨oe,hoe,hce⟩:=he
  have hzd:IsZip hd z TI TO .ellipsis:=sd _ _ D.i2z.symm (sc.extBut _ _ D.TOz.symm (sb.extBut _ _ D.i1z.symm hza))
  have hez:e≠z:=fun x=>by subst x; rw [hzd] at hoe; cases hoe; simp at hce
  exact wpAny_setField_rec hzd (by simp) fun hf _ sf=>hE hf e (fun c o c1 c2 c3 c4 x=>sf.extBut _ _ c1 (sd _ _ c4 (sc.extBut _ _ c2 (sb.extBut _ _ c3 (sa.extBut _ _ c1 x))))) ⟨oe,sf.extBut _ _ hez hoe,hce⟩
 ·refine wpAny_bind (wpAny_bind (wpAny_onRaise (wpAny_bind (m:=nextOf (.ref i1)) (S1.done k hh h1a (by omega) fun hb e sb he=>?_))))
  obtain ⟨oe,hoe,hce⟩:=he
  have hzb:IsZip hb z TI TO .ellipsis:=sb _ _ D.i1z.symm hza
  have hez:e≠z:=fun x=>by subst x; rw [hzb] at hoe; cases hoe; simp at hce
  exact wpAny_setField_rec hzb (by simp) fun hf _ sf=>hE hf e (fun c o c1 _ c3 _ x=>sf.extBut _ _ c1 (sb _ _ c3 (sa.extBut _ _ c1 x))) ⟨oe,sf.extBut _ _ hez hoe,hce⟩
end
end L2
namespace L2
open PySem PySem.Spec PyProof.Rows
noncomputable def wX (K:PySem.W.Frag) (tp:Bool) (H:Hp) (a:Addr) (xs:List V):Prop:=match tp with
 | true=>yd K H a xs
 | false=>yO K H a xs
noncomputable def k4 (tp:Bool):String:=match tp with
 | true => "tuple_iterator"
 | false => "list_iterator"
noncomputable def wm (tp:Bool) (h:Heap) (a:Addr) (its:Array Value):Prop:=match tp with
 | true=>h.IsTuple a its
 | false=>h.IsList a its
noncomputable def qB (tp:Bool) (h:Heap) (it l:Addr) (i:Nat):Prop:=∃ o,h.get? it=some o/\o.cls=.type (k4 tp)/\o.data=.fields #[.ref l,.int i 0]
theorem qB.at {tp:Bool} {h h':Heap} {it l:Addr} {i:Nat} (x:qB tp h it l i) (e:∀ o,h.get? it=some o->h'.get? it=some o):qB tp h' it l i:=let ⟨o,ho,r⟩:=x; ⟨o,e _ ho,r⟩
theorem wm.push {tp:Bool} {h:Heap} {a:Addr} {its:Array Value} (x:wm tp h a its) (o:Obj):wm tp (h.push o) a its:=by
 cases tp
 ·exact Heap.IsList.push x o
 ·exact Heap.IsTuple.push x o
theorem wm.lt {tp:Bool} {h:Heap} {a:Addr} {its:Array Value} (x:wm tp h a its):a<h.objs.size:=by
 cases tp
 ·obtain ⟨o,e,_⟩:=x; exact Heap.lt_size e
 ·obtain ⟨o,e,_⟩:=x; exact Heap.lt_size e
section
variable {prog:Program} {w:World} {A:Around} {E:Value->Shared->Prop} {s:Shared}
theorem YV {tp:Bool} {it l:Addr} (hne:l≠it) (items:Array Value):qk prog w it l (fun i h=>qB tp h it l i/\wm tp h l items) items.size (fun i=>items.getD i .none):=by
 cases tp
 ·exact GN hne items
 ·exact GO hne items
theorem Je {tp:Bool} {l:Addr} {items:Array Value} {Q:Value->Shared->Prop} (h:wm tp s.heap l items)
  (hQ:Q (.ref s.heap.objs.size) { s with heap:=s.heap.push { cls:=.type (k4 tp),data:=.fields #[.ref l,.int 0 0] } }):wpAny (model prog w) A (pyIter (.ref l)) Q E s:=by
 cases tp
 ·exact wpAny_pyIter_list (show s.heap.IsList l items from h) hQ
 ·exact wpAny_pyIter_tuple (show s.heap.IsTuple l items from h) hQ
noncomputable abbrev Ys (t1:Bool) (h:Heap) (l1:Addr):Heap:=h.push { cls:=.type (k4 t1),data:=.fields #[.ref l1,.int 0 0] }
noncomputable abbrev Yt (t1 t2:Bool) (h:Heap) (l1 l2:Addr):Heap:=(Ys t1 h l1).push { cls:=.type (k4 t2),data:=.fields #[.ref l2,.int 0 0] }
noncomputable abbrev Yu (t1 t2:Bool) (h:Heap) (l1 l2:Addr):Heap:=(Yt t1 t2 h l1 l2).push { cls:=.type "tuple",data:=.seq #[.ref h.objs.size,.ref (Ys t1 h l1).objs.size] }
noncomputable abbrev Yv (t1 t2:Bool) (h:Heap) (l1 l2:Addr):Heap:=(Yu t1 t2 h l1 l2).push { cls:=.type "tuple",data:=.seq #[.none,.none] }
noncomputable abbrev jz (t1 t2:Bool) (h:Heap) (l1 l2:Addr):Heap:=(Yv t1 t2 h l1 l2).push { cls:=.type "zip",data:=.fields #[.none,.bool false,.bool false,.ref (Yt t1 t2 h l1 l2).objs.size,.ref (Yu t1 t2 h l1 l2).objs.size] }
theorem K5 (t1 t2:Bool) (l1 l2:Addr) (xs ys:Array Value) :
  Meets (Builtin.«zip.__new__» ⟨[.type "zip",.ref l1,.ref l2],[]⟩) (fun _ R s=>wm t1 s.heap l1 xs/\wm t2 s.heap l2 ys/\R (.ok (.ret (.ref (Yv t1 t2 s.heap l1 l2).objs.size))) { s with heap:=jz t1 t2 s.heap l1 l2 }):=
 .of_wp fun prog w A R s h=>by
  obtain ⟨hp,g,d,tk,os⟩:=s; obtain ⟨hl1,hl2,h⟩:=h
  have hsub:=sub_zip
  have hL1:wm t1 (Shared.heap ⟨hp,g,d,tk,os⟩) l1 xs:=hl1
  have hL2:wm t2 (Shared.heap ⟨hp.push { cls:=.type (k4 t1),data:=.fields #[.ref l1,.int 0 0] },g,d,tk,os⟩) l2 ys:=wm.push hl2 _
  wp_walk using Je hL1,Je hL2
  exact ⟨_,rfl,h⟩
theorem LP {t1 t2:Bool} {l1 l2:Addr} {xs ys:Array Value} {Q:Value->Shared->Prop} (hl1:wm t1 s.heap l1 xs) (hl2:wm t2 s.heap l2 ys)
  (h:∀ h',IsZip h' (s.heap.objs.size+4) (s.heap.objs.size+2) (s.heap.objs.size+3) .none->IsPair h' (s.heap.objs.size+2) (.ref s.heap.objs.size) (.ref (s.heap.objs.size+1))->
   IsPair h' (s.heap.objs.size+3) .none .none->qB t1 h' s.heap.objs.size l1 0->qB t2 h' (s.heap.objs.size+1) l2 0->
   (∀ c o,s.heap.get? c=some o->h'.get? c=some o)->Q (.ref (s.heap.objs.size+4)) { s with heap:=h' }) :
  wpAny (model prog w) A (call (.type "zip") [.ref l1,.ref l2]) Q E s:=by
 refine callType_new F.called_zip (by decide) (F.typeCall_zip_2 _ _) (F.newCall_zip_2 _ _) (fun obj=>F.args_object_init_3 obj _ _) F.entry_zip_new (K5 t1 t2 l1 l2 xs ys) ⟨hl1,hl2,?_⟩
 have z1:(Ys t1 s.heap l1).objs.size=s.heap.objs.size+1:=Heap.size_push ..
 have z2:(Yt t1 t2 s.heap l1 l2).objs.size=s.heap.objs.size+2:=by rw [Heap.size_push,z1]
 have z3:(Yu t1 t2 s.heap l1 l2).objs.size=s.heap.objs.size+3:=by rw [Heap.size_push,z2]
 have z4:(Yv t1 t2 s.heap l1 l2).objs.size=s.heap.objs.size+4:=by rw [Heap.size_push,z3]
 have g5:(jz t1 t2 s.heap l1 l2).get? (Yv t1 t2 s.heap l1 l2).objs.size=some _:=Heap.get?_push_size _ rfl
 have g4:(jz t1 t2 s.heap l1 l2).get? (Yu t1 t2 s.heap l1 l2).objs.size=some _:=Heap.get?_push_of_some _ (Heap.get?_push_size _ rfl)
 have g3:(jz t1 t2 s.heap l1 l2).get? (Yt t1 t2 s.heap l1 l2).objs.size=some _:=Heap.get?_push_of_some _ (Heap.get?_push_of_some _ (Heap.get?_push_size _ rfl))
 have g2:(jz t1 t2 s.heap l1 l2).get? (Ys t1 s.heap l1).objs.size=some _:=Heap.get?_push_of_some _ (Heap.get?_push_of_some _ (Heap.get?_push_of_some _ (Heap.get?_push_size _ rfl)))
 have g1:(jz t1 t2 s.heap l1 l2).get? s.heap.objs.size=some _:=Heap.get?_push_of_some _ (Heap.get?_push_of_some _ (Heap.get?_push_of_some _ (Heap.get?_push_of_some _ (Heap.get?_push_size _ rfl))))
 show _/\_
 rw [z2,z3,z4] at g5
 rw [z1,z2] at g3
 rw [z3] at g4
 rw [z1] at g2
 rw [z4]
 exact ⟨⟨_,g5,rfl⟩,h _ g5 g3 g4 ⟨_,g1,rfl,rfl⟩ ⟨_,g2,rfl,rfl⟩ fun c o x=>
  Heap.get?_push_of_some _ (Heap.get?_push_of_some _ (Heap.get?_push_of_some _ (Heap.get?_push_of_some _ (Heap.get?_push_of_some _ x))))⟩
end
section
variable {X:Cx} {pins:List (Addr×Obj)} {σ:St} {H:Hp} {s:Shared}
theorem Inv.seqX {tp:Bool} {a:Addr} {xs:List V} (I:Inv X pins σ H s) (h:wX X.K tp H a xs):∃ its:List Value,zi xs its/\wm tp s.heap a its.toArray:=by
 cases tp
 ·obtain ⟨its,r,p,_⟩:=I.list h
  exact ⟨its,r,p.isList⟩
 ·obtain ⟨its,r,p,_⟩:=I.tuple h
  exact ⟨its,r,p⟩
theorem Inv.seqX_inj {tp:Bool} {a:Addr} {xs ys:List V} (I:Inv X pins σ H s) (h:wX X.K tp H a xs) (h':wX X.K tp H a ys):xs=ys:=by
 cases tp
 ·exact I.list_inj h h'
 ·exact I.tuple_inj h h'
theorem OD {fs ch:List Addr} {h h':Heap} (k:∀ b o,b ∉ ch->h.get? b=some o->h'.get? b=some o):Un fs ch H H h h':=
 ⟨fun b o e _ _ hx=>k b o hx e,fun b o e _ _ hx=>⟨o.slots,k b o hx e⟩,fun _ _ _ n _=>n,fun b o e hx=>⟨o,k b o hx e⟩,fun _ _ z=>z,fun _ _ _ z=>z,fun b ps e=>⟨#[],by rw [e]; simp⟩⟩
theorem QQ {P:Program} {w:World} {ch:List Addr} {h h':Heap} (x:yn P w H h) (hn:∀ b∈ch,H b=none) (k:∀ b o,b ∉ ch->h.get? b=some o->h'.get? b=some o):yn P w H h':=fun b u e=>by
 have nit:∀ c v,H c=some v->c ∉ ch:=fun c v e z=>by rw [hn c z] at e; cases e
 refine (x b u e).stay (fun c v hc q=>k c v ?_ q) (fun _ q=>q) fun _ _ q=>q
 rcases hc with z | z
 ·rw [z]; exact nit b u e
 ·exact nit c _ z
theorem Inv.but {ch:List Addr} {h':Heap} {tk:Nat} (I:Inv X pins σ H s) (hf:∀ b∈ch,vm X pins H b) (k:∀ b o,b ∉ ch->s.heap.get? b=some o->h'.get? b=some o):Inv X pins σ H { s with heap:=h',toks:=tk }:=
 I.call' (s':={ s with heap:=h',toks:=tk }) rfl (OD k) (QQ I.hok (fun b hb=>(hf b hb).1) k) I.bare fun b hb=>⟨(hf b hb).2.2.2.1,(hf b hb).2.1,(hf b hb).2.2.2.2.1,(hf b hb).2.2.2.2.2⟩
theorem Inv.butNew {ch:List Addr} {h':Heap} {tk:Nat} {T:Addr} {o:HO} (I:Inv X pins σ H s) (hf:∀ b∈ch,vm X pins H b) (k:∀ b o,b ∉ ch->s.heap.get? b=some o->h'.get? b=some o) (hT:s.heap.get? T=none) (hn:H T=none)
  (new:yc X.prog X.w (zV H T o) h' T o):Inv X pins σ (zV H T o) { s with heap:=h',toks:=tk }:=
 I.call' (s':={ s with heap:=h',toks:=tk }) rfl (Hg (OD k) hT hn) (QR (QQ I.hok (fun b hb=>(hf b hb).1) k) hn new) I.bare fun b hb=>⟨(hf b hb).2.2.2.1,(hf b hb).2.1,(hf b hb).2.2.2.2.1,(hf b hb).2.2.2.2.2⟩
end
noncomputable def Xv (K:PySem.W.Frag) (t1 t2:Bool) (a b:Addr):It:=
  ⟨fun i H=>∃ xs ys x y,wX K t1 H a xs/\wX K t2 H b ys/\xs[i]?=some x/\ys[i]?=some y,
   fun i H v H'=>∃ p,H p=none/\v=.ref p/\∀ xs ys,wX K t1 H a xs->wX K t2 H b ys->∃ x y,xs[i]?=some x/\ys[i]?=some y/\H'=zV H p (.tup [x,y]),
   fun i H=>∃ xs ys,wX K t1 H a xs/\wX K t2 H b ys/\(xs.length<=i\/ys.length<=i)⟩
theorem HV {P:Program} {w:World} {K:PySem.W.Frag} {elts:List Expr} {kk:Nat} {pos:Pos} (t1 t2:Bool) (a b z TI TO i1 i2:Addr) (D:ZipApart z TI TO i1 i2 a b) :
  uA P w K (.Tuple elts kk pos) (Xv K t1 t2 a b) [z,TI,TO,i1,i2] z (fun i h=>IsZip h z TI TO .none/\IsPair h TI (.ref i1) (.ref i2)/\(∃ u v,IsPair h TO u v)/\qB t1 h i1 a i/\qB t2 h i2 b i) where
 mem:=by simp
 obj:=fun i h st c hc=>by
  obtain ⟨s1,s2,⟨u,v,s3⟩,⟨o4,s4,_,d4⟩,⟨o5,s5,_,d5⟩⟩:=st
  simp only [List.mem_cons,List.not_mem_nil,or_false] at hc
  rcases hc with rfl | rfl | rfl | rfl | rfl
  ·exact ⟨_,s1,fun v q=>nomatch q⟩
  ·exact ⟨_,s2,fun v q=>nomatch q⟩
  ·exact ⟨_,s3,fun v q=>nomatch q⟩
  ·exact ⟨_,s4,fun v q=>by rw [d4] at q; cases q⟩
  ·exact ⟨_,s5,fun v q=>by rw [d5] at q; cases q⟩
 keep:=fun i h h' st k=>by
  obtain ⟨s1,s2,⟨u,v,s3⟩,s4,s5⟩:=st
  exact ⟨k z (by simp) _ s1,k TI (by simp) _ s2,⟨u,v,k TO (by simp) _ s3⟩,s4.at fun o e=>k i1 (by simp) o e,s5.at fun o e=>k i2 (by simp) o e⟩
 item:=by
  intro X hP hw hK hc i pins s σ H E I hf st hg
  subst hP hw hK
  obtain ⟨s1,s2,⟨u,v,s3⟩,s4,s5⟩:=st
  obtain ⟨xs,ys,x,y,hx,hy,ex,ey⟩:=hg
  obtain ⟨us,ru,pu⟩:=I.seqX hx
  obtain ⟨ws,rw',pw⟩:=I.seqX hy
  obtain ⟨xu,hxu,rxu⟩:=ru.get ex
  obtain ⟨yw,hyw,ryw⟩:=rw'.get ey
  have k1:i<us.toArray.size:=by rw [List.size_toArray]; exact (List.getElem?_eq_some_iff.mp hxu).1
  have k2:i<ws.toArray.size:=by rw [List.size_toArray]; exact (List.getElem?_eq_some_iff.mp hyw).1
  have e1:us.toArray.getD i .none=xu:=by
   have:=List.getElem?_eq_some_iff.mp hxu
   obtain ⟨l,e⟩:=this
   simp [Array.getD,l,e]
  have e2:ws.toArray.getD i .none=yw:=by
   have:=List.getElem?_eq_some_iff.mp hyw
   obtain ⟨l,e⟩:=this
   simp [Array.getD,l,e]
  have hT:s.TypeIs (.ref z) "zip" := ⟨_,s1,rfl⟩
  have q4:i1<s.heap.objs.size:=by obtain ⟨o,e,_⟩:=s4; exact Heap.lt_size e
  have q5:i2<s.heap.objs.size:=by obtain ⟨o,e,_⟩:=s5; exact Heap.lt_size e
  unfold pyNext
  refine wpAny_bind (wpAny_attempt (wpAny_callSpecial?_slot (name:=Str.ofString "__next__") hT F.slot_zip_next (wpAny_call_entry F.slot_zip_next hT F.entry_zip_next
   (Hx D (YV D.l1i1 us.toArray) (YV D.l2i2 ws.toArray) s1 s2 s3 ⟨s4,pu⟩ ⟨s5,pw⟩ k1 k2 q4 q5 pu.lt pw.lt fun h' a1 a2 a3 a4 a5 a6=>wpAny_pure ?_) (F.args_zip_next_1 _))))
  rw [e1,e2] at a2 a5
  refine ⟨_,rfl,wpAny_letOwnedTupleGo_zip (s:={ s with heap:=h' }) a1 fun h'' b1 sb=>?_⟩
  have hTs:s.heap.get? s.heap.objs.size=none:=by
   cases q:s.heap.get? s.heap.objs.size with
   | none=>rfl
   | some o=>exact absurd (Heap.lt_size q) (Nat.lt_irrefl _)
  have hTf:H s.heap.objs.size=none:=I.hok.fresh (Nat.le_refl _)
  have hTz:s.heap.objs.size≠z:=Nat.ne_of_gt (Heap.lt_size s1)
  have tup:h''.get? s.heap.objs.size=some { cls:=.type "tuple",data:=.seq #[xu,yw] }:=sb.extBut _ _ hTz a5
  have kk:∀ c o,c ∉ [z,TI,TO,i1,i2]->s.heap.get? c=some o->h''.get? c=some o:=fun c o hc e=>by
   simp only [List.mem_cons,List.not_mem_nil,or_false,not_or] at hc
   exact sb.extBut _ _ hc.1 (a6 c o hc.1 hc.2.2.1 hc.2.2.2.1 hc.2.2.2.2 e)
  have new:yc X.prog X.w (zV H s.heap.objs.size (.tup [x,y])) h'' s.heap.objs.size (.tup [x,y]):=⟨(by show 2<=sizeLine; decide),[xu,yw],.cons rxu (.cons ryw .nil),⟨_,tup,rfl,_,rfl⟩⟩
  refine ⟨.ref s.heap.objs.size,zV H s.heap.objs.size (.tup [x,y]),I.butNew (tk:=s.toks) hf kk hTs hTf new,rfl,⟨s.heap.objs.size,hTf,rfl,fun xs' ys' hx' hy'=>?_⟩,⟨b1,?_,⟨_,_,sb.extBut _ _ D.TOz a2⟩,a3.1.at fun o e=>sb.extBut _ _ D.i1z e,a4.1.at fun o e=>sb.extBut _ _ D.i2z e⟩,fun c hc=>?_⟩
  ·rw [I.seqX_inj hx' hx,I.seqX_inj hy' hy]
   exact ⟨x,y,ex,ey,rfl⟩
  ·exact sb.extBut _ _ D.TIz (a6 _ _ D.TIz D.TITO D.TIi1 D.TIi2 s2)
  ·rw [zr]
   ·exact (hf c hc).1
   ·intro q
    have hlt:c<s.heap.objs.size:=by
     simp only [List.mem_cons,List.not_mem_nil,or_false] at hc
     rcases hc with rfl | rfl | rfl | rfl | rfl
     ·exact Heap.lt_size s1
     ·exact Heap.lt_size s2
     ·exact Heap.lt_size s3
     ·exact q4
     ·exact q5
    rw [q] at hlt
    exact absurd hlt (Nat.lt_irrefl _)
 done:=by
  intro X hP hw hK hc i pins s σ H E I hf st hg
  subst hP hw hK
  obtain ⟨s1,s2,⟨u,v,s3⟩,s4,s5⟩:=st
  obtain ⟨xs,ys,hx,hy,hend⟩:=hg
  obtain ⟨us,ru,pu⟩:=I.seqX hx
  obtain ⟨ws,rw',pw⟩:=I.seqX hy
  have hend':us.toArray.size<=i\/ws.toArray.size<=i:=by
   have l1:=ru.length
   have l2:=rw'.length
   rw [List.size_toArray,List.size_toArray]
   omega
  have hT:s.TypeIs (.ref z) "zip" := ⟨_,s1,rfl⟩
  unfold pyNext
  refine wpAny_bind (wpAny_attempt (wpAny_callSpecial?_slot (name:=Str.ofString "__next__") hT F.slot_zip_next (wpAny_call_entry F.slot_zip_next hT F.entry_zip_next
   (Hw (by exact I.ok.hd hc) D (YV D.l1i1 us.toArray) (YV D.l2i2 ws.toArray) s1 s2 s3 ⟨s4,pu⟩ ⟨s5,pw⟩ hend' fun h' e kk he=>?_) (F.args_zip_next_1 _))))
  obtain ⟨o,ho,hcl⟩:=he
  refine wpAny_bind (wpAny_isInstance (T := "StopIteration") (b:=true) ⟨o,ho,hcl⟩ isSubtype_stop ?_)
  refine wpAny_pure ⟨rfl,I.but (tk:=s.toks) hf fun c ob hcc eb=>?_⟩
  simp only [List.mem_cons,List.not_mem_nil,or_false,not_or] at hcc
  exact kk c ob hcc.1 hcc.2.2.1 hcc.2.2.2.1 hcc.2.2.2.2 eb
 self:=fun _ _ _ _ _ st h=>wpAny_pyIter_zip st.1 h
theorem wF {a b:Nat} (h:a≠b):@Ne Addr a b:=h
theorem Hy {n l1 l2:Nat} (h1:l1<n) (h2:l2<n):ZipApart (n+4) (n+2) (n+3) n (n+1) l1 l2:=
 ⟨wF (by omega),wF (by omega),wF (by omega),wF (by omega),wF (by omega),wF (by omega),wF (by omega),wF (by omega),wF (by omega),wF (by omega),wF (by omega),wF (by omega),wF (by omega),wF (by omega),wF (by omega),wF (by omega),wF (by omega),wF (by omega)⟩
theorem L7:bootBuiltins "zip" = some (.type "zip"):=by decide +kernel
section
variable {X:Cx}
noncomputable def QT (K:PySem.W.Frag) (ta:TA):TI:=fun σ H R=>ta σ H fun vs H1=>∃ a b xs ys t1 t2,vs=[.ref a,.ref b]/\wX K t1 H1 a xs/\wX K t2 H1 b ys/\R (Xv K t1 t2 a b) H1
theorem C9 {a b:Expr} {ta:TA} {p pos:Pos} {elts:List Expr} {kk:Nat} {tp:Pos} (hg:Gl X "zip") (hm:X.mg "zip" = none) (ha:PA X [a,b] ta) (hs:starEach [a,b] X.env=[(false,eval a X.env),(false,eval b X.env)]:=by rfl)
  (hs2:starEach [b] X.env=[(false,eval b X.env)]:=by rfl):PI X (.Tuple elts kk tp) (.Call (.Name "zip" p) [a,b] [] pos) (QT X.K ta):=by
 intro pins s σ H R I h
 refine Call_ (qN I hg hm L7 (PyProof.Rows.callWith_type1 (zg (ha pos pins s σ H _ I h) fun us s1 ⟨vs,H1,I1,r1,q1⟩=>?_) (by rw [hs,hs2]) (by rw [hs2]; rfl)))
 obtain ⟨l1,l2,xs,ys,t1,t2,rfl,hx,hy,q⟩:=q1
 obtain ⟨u,v,rfl,ru,rv⟩:=Yi r1
 cases (show u=Value.ref l1 from ru)
 cases (show v=Value.ref l2 from rv)
 obtain ⟨us,_,pu⟩:=I1.seqX hx
 obtain ⟨ws,_,pw⟩:=I1.seqX hy
 have w1:=pu.lt
 have w2:=pw.lt
 refine LP pu pw fun h' a1 a2 a3 a4 a5 kp=>?_
 have I2:Inv X pins σ H1 { s1 with heap:=h' }:=I1.kept (t':=s1.toks) kp
 refine wpAny_pyIter_zip (s:={ s1 with heap:=h' }) a1 ?_
 generalize hn:s1.heap.objs.size=n at a1 a2 a3 a4 a5 w1 w2
 have D:ZipApart (n+4) (n+2) (n+3) n (n+1) l1 l2:=by
  exact Hy w1 w2
 refine ⟨n+4,[n+4,n+2,n+3,n,n+1],_,_,H1,rfl,I2,HV t1 t2 l1 l2 (n+4) (n+2) (n+3) n (n+1) D,⟨a1,a2,⟨_,_,a3⟩,a4,a5⟩,fun c hc=>?_,q⟩
 have hle:s1.heap.objs.size<=c:=by
  rw [hn]
  simp only [List.mem_cons,List.not_mem_nil,or_false] at hc
  rcases hc with rfl | rfl | rfl | rfl | rfl
  ·exact Nat.le_add_right _ _
  ·exact Nat.le_add_right _ _
  ·exact Nat.le_add_right _ _
  ·exact Nat.le_refl _
  ·exact Nat.le_add_right _ _
 exact I1.fpOk hle (I1.hok.fresh hle)
theorem Cw {a b:Expr} {ta:TA} {p pos:Pos} {elts:List Expr} {kk:Nat} {tp:Pos} (hg:Gl X "zip") (hm:X.mg "zip" = none) (ha:QA X [a,b] ta) (hs:yi a=true:=by rfl) (hs2:yi b=true:=by rfl) :
  QI X (.Tuple elts kk tp) (.Call (.Name "zip" p) [a,b] [] pos) (QT X.K ta):=⟨C9 hg hm ha.h (by rw [we hs,we hs2]; rfl) (we hs2)⟩
end
end L2
namespace L2
open PySem PySem.Spec PyProof.Rows
noncomputable def TZ (scope:Scope) (env:Env) (cl:List (Str×Addr)) (own:List Str):Bool:=
 scope.kind == .function&&scope.names.all (fun y=>y.2 != .cell)&&jD scope env cl own&&scope.names.all (fun y=>y.2 != .local||scope.names.lookup y.1 == some .local)
theorem vW {X:Cx} {scope:Scope} {cl:List (Str×Addr)} {own:List Str} (clos:closureFor scope X.env=pure cl) (cap:tZ X.env cl:=by first | exact True.intro | exact ⟨rfl,True.intro⟩ | exact ⟨rfl,rfl,True.intro⟩ | exact ⟨rfl,rfl,rfl,True.intro⟩ | exact ⟨rfl,rfl,rfl,rfl,True.intro⟩)
  (ok:TZ scope X.env cl own=true:=by rfl):tY X scope cl own:=by
 unfold TZ at ok
 simp only [Bool.and_eq_true] at ok
 obtain ⟨⟨⟨h1,h2⟩,h3⟩,h4⟩:=ok
 refine ⟨beq_iff_eq.mp h1,fun y hy e=>?_,cap,h3,clos,fun y hy e=>?_⟩
 ·have:=List.all_eq_true.mp h2 y hy
  rw [e] at this
  cases this
 ·have:=List.all_eq_true.mp h4 y hy
  rw [e] at this
  simpa using this
section
variable {X:Cx} (K:PySem.W.Frag) (hK:X.K=K)
include hK
end
noncomputable def OW (K:PySem.W.Frag) (a:Addr) (xs:List V):Prop:=∀ H,yd K H a xs
theorem xE {K:PySem.W.Frag} {a:Addr} {xs:List V} {d:Option Addr} {its:Array Value} {n:Nat} {sl:Array (Option Value)} (h:K.lookup a=some ⟨.type "tuple",d,.seq its n,sl⟩) (hz:its.size<=sizeLine) (r:zi xs its.toList):OW K a xs:=
 fun _=>.inr ⟨_,its,n,h,rfl,rfl,hz,r⟩
end L2
namespace L2
open PySem PySem.Spec PyProof.Rows
open Builtin Builtin.Str
section
variable {X:Cx}
theorem Uv:∀ {ts:List Str} {its:List Value},zi (ts.map V.str) its->∃ l:List (Str×Tok),its=strValues l/\l.map (·.1)=ts
 | [],_,.nil=>⟨[],rfl,rfl⟩
 | t::ts,_,.cons r rr=>by
  obtain ⟨k,e⟩:=(show ∃ k,_=Value.str t k from r)
  obtain ⟨l,e1,e2⟩:=Uv rr
  subst e e1
  exact ⟨(t,k)::l,rfl,by rw [List.map_cons,e2]⟩
noncomputable def E4 (K:PySem.W.Frag):V->List V->Hp->VK->Prop:=fun x vs H Q=>∃ (sep:Str) (p:Addr) (ts:List Str),x=.str sep/\vs=[.ref p]/\yO K H p (ts.map V.str)/\(ts.map (·.length)).sum+ts.length*sep.length<=sizeLine/\Q (.str (glued sep ts)) H
theorem glued_len (sep:Str):∀ ts:List Str,(glued sep ts).length<=(ts.map (·.length)).sum+ts.length*sep.length
 | []=>by show (Str.length _)<=_; simp [glued,Str.length,Str.empty]
 | t::ts=>by
  have h:∀ (us:List Str) (a:Array Nat),(us.foldl (fun acc p=>acc++sep.cps++p.cps) a).size=a.size+(us.map (·.length)).sum+us.length*sep.length:=fun us=>by
   induction us with
   | nil=>intro a; simp
   | cons u us ih=>
    intro a
    rw [List.foldl_cons,ih]
    simp only [Array.size_append,List.map_cons,List.sum_cons,List.length_cons,Nat.succ_mul,Str.length]
    omega
  show (ts.foldl (fun acc p=>acc++sep.cps++p.cps) t.cps).size<=_
  rw [h]
  simp only [List.map_cons,List.sum_cons,List.length_cons,Nat.succ_mul,Str.length]
  omega
theorem Bv:qC X "str.join" (E4 X.K):=by
 intro pins s σ H x vs v us Q I rx rv h
 obtain ⟨sep,p,ts,rfl,rfl,hq,hz,q⟩:=h
 obtain ⟨t,rfl⟩:=(show ∃ t,v=Value.str sep t from rx)
 obtain ⟨u,rfl,ru⟩:=wR rv
 cases (show u=Value.ref p from ru)
 obtain ⟨its,r,pl,_⟩:=I.list hq
 obtain ⟨l,rfl,el⟩:=Uv r
 have hT:s.TypeIs (.ref p) "list" := pl.isList.typeIs
 obtain ⟨o,ho,hc,n,hd⟩:=pl.isList
 have hno:tooLong ((l.map (·.1)).toArray.foldl (·+·.length+sep.length) 0)=false:=by
  rw [el,StrLaws.joinTotal]
  unfold tooLong
  exact decide_eq_false (by omega)
 have fit:(glued sep ts).length<=sizeLine:=Nat.le_trans (glued_len sep ts) hz
 refine wpAny_call (codeAny_call_builtin F.slot_str_join.plain F.entry_str_join (F.slot_str_join.check _ _ _ _ _ _ _ _ (typeIs_str _ _ _) (F.args_str_join_2 _ _) ?_))
 obtain ⟨other,e⟩:=join_tree sep t p
 rw [e]
 refine wpAny_bind (wpAny_typeOf hT ?_)
 rw [if_pos (by decide)]
 refine wpAny_bind (wpAny_seqItems ho hd ?_)
 show wpAny _ _ (joinTail sep (strValues l)) _ _ _
 rcases l with _ | ⟨a,_ | ⟨b,c⟩⟩
 ·subst el
  exact gives_joinTail sep [] hno X.prog X.w _ (fun r s'=>match r with | .ok (.ret v)=>EP X pins σ Q v s' | .ok _=>False | .error e=>X.xe e s') s ⟨fit,.str _,H,I.tok _,⟨_,rfl⟩,q⟩
 ·subst el
  exact gives_joinTail sep [a] hno X.prog X.w _ (fun r s'=>match r with | .ok (.ret v)=>EP X pins σ Q v s' | .ok _=>False | .error e=>X.xe e s') s ⟨.str _,H,I,⟨_,rfl⟩,q⟩
 ·subst el
  exact gives_joinTail sep (a::b::c) hno X.prog X.w _ (fun r s'=>match r with | .ok (.ret v)=>EP X pins σ Q v s' | .ok _=>False | .error e=>X.xe e s') s ⟨fit,.str _,H,I.tok _,⟨_,rfl⟩,q⟩
end
noncomputable def Z1 (z:Str):It:=⟨fun i _=>i<z.length,fun i H x H'=>H'=H/\∃ c,z.cps[i]?=some c/\x=.str ⟨#[c]⟩,fun i _=>z.length<=i⟩
section
variable {X:Cx} {tg:Expr}
noncomputable def Ml (te:TE):TI:=fun σ H R=>te σ H fun x H1=>∃ z,x=.str z/\R (Z1 z) H1
theorem HS {P:Program} {w:World} {K:PySem.W.Frag} {it:Addr} {z:Str} {t:Tok} {ty:String} (hty:ty = "str_ascii_iterator" \/ ty = "str_iterator"):uA P w K tg (Z1 z) [it] it (fun i h=>h.IsStrIter it ty z t i/\i<=z.length) where
 mem:=by simp
 obj:=fun i h st b hb=>by
  have e:b=it:=by simpa using hb
  subst e
  obtain ⟨⟨o,e,c,d⟩,_⟩:=st
  exact ⟨o,e,fun v z=>by rw [d] at z; cases z⟩
 keep:=fun i h h' st k=>⟨let ⟨o,ho,r⟩:=st.1; ⟨o,k it (by simp) o ho,r⟩,st.2⟩
 item:=by
  intro X hP hw hK hc i pins s σ H E I hf st hg
  subst hP hw hK
  obtain ⟨f0,f1,f2,f3,f4,f5⟩:=hf it (by simp)
  have hg':i<z.cps.size:=hg
  have hx:z.cps[i]?=some z.cps[i]:=by simp [hg']
  have go:∀ h' tk (u:Value),(∃ t',u=Value.str ⟨#[z.cps[i]]⟩ t')->h'.IsStrIter it ty z t (i+1)->Heap.SameBut it s.heap h'->∃ v,some u=some v/\
    wpAny (model X.prog X.w) X.A (letOwnedTupleGo tg (.ref it) v) (fun _ s2=>∃ x H',Inv X pins σ H' s2/\zp x v/\(Z1 z).yld i H x H'/\(s2.heap.IsStrIter it ty z t (i+1)/\i+1<=z.length)/\∀ b∈[it],H' b=none) E { s with heap:=h',toks:=tk }:=fun h' tk u hu st' sb=>by
   obtain ⟨t',rfl⟩:=hu
   have I1:Inv X pins σ H { s with heap:=h',toks:=tk }:=I.turned (fun b o hb e=>(sb.2 b hb).trans e) f0 f1 f3 f4 f5
   obtain ⟨o,e,c,d⟩:=id st'
   exact ⟨_,rfl,jK (s:={ s with heap:=h',toks:=tk }) e c d (by rcases hty with rfl | rfl<;>decide) ⟨.str ⟨#[z.cps[i]]⟩,H,I1,⟨t',rfl⟩,⟨rfl,_,hx,rfl⟩,⟨st',hg⟩,fun b hb=>(hf b hb).1⟩⟩
  rcases hty with rfl | rfl
  ·exact wpAny_pyNext_ascii_item st.1 hx fun h' st' sb=>go h' _ _ ⟨_,rfl⟩ st' sb
  ·exact wpAny_pyNext_wide_item st.1 hx fun h' st' sb=>go h' _ _ ⟨_,rfl⟩ st' sb
 done:=by
  intro X hP hw hK hc i pins s σ H E I hf st hg
  subst hP hw hK
  obtain ⟨f0,f1,f2,f3,f4,f5⟩:=hf it (by simp)
  have hx:z.cps[i]?=none:=Array.getElem?_eq_none hg
  rcases hty with rfl | rfl
  ·exact wpAny_pyNext_ascii_end (I.ok.hd hc) st.1 hx fun h' eb=>⟨rfl,I.turned (t':=s.toks) (fun b o hb e=>eb b o hb e) f0 f1 f3 f4 f5⟩
  ·exact wpAny_pyNext_wide_end (I.ok.hd hc) st.1 hx fun h' eb=>⟨rfl,I.turned (t':=s.toks) (fun b o hb e=>eb b o hb e) f0 f1 f3 f4 f5⟩
 self:=fun _ _ _ _ _ st h=>by
  rcases hty with rfl | rfl
  ·exact wpAny_pyIter_striter_ascii st.1 h
  ·exact wpAny_pyIter_striter_wide st.1 h
theorem C7 {e:Expr} {te:TE} (he:PE X e te):PI X tg e (Ml te):=by
 intro pins s σ H R I h
 refine zg (he pins s σ H _ I h) fun v s1 ⟨x,H1,I1,r1,q1⟩=>?_
 obtain ⟨z,rfl,q⟩:=q1
 obtain ⟨t,rfl⟩:=(show ∃ t,v=Value.str z t from r1)
 have fin:∀ (ty:String),(ty = "str_ascii_iterator" \/ ty = "str_iterator")->∀ o:Obj,(s1.heap.push o).IsStrIter s1.heap.objs.size ty z t 0->Xx X pins σ tg R (.ref s1.heap.objs.size) { s1 with heap:=s1.heap.push o }:=fun ty hty o st=>
  ⟨s1.heap.objs.size,[s1.heap.objs.size],_,_,H1,rfl,I1.kept (t':=s1.toks) fun b o e=>Heap.get?_push_of_some _ e,HS hty,⟨st,Nat.zero_le _⟩,fun b hb=>by
   have e:b=s1.heap.objs.size:=by simpa using hb
   subst e
   exact I1.fpOk (Nat.le_refl _) (I1.hok.fresh (Nat.le_refl _)),q⟩
 cases ha:z.cps.all (·<128)
 ·exact wpAny_pyIter_wide ha (fin _ (.inr rfl) _ ⟨_,Heap.get?_push_size _ rfl,rfl,rfl⟩)
 ·exact wpAny_pyIter_ascii ha (fin _ (.inl rfl) _ ⟨_,Heap.get?_push_size _ rfl,rfl,rfl⟩)
end
end L2
namespace L2
open PySem PySem.Spec PyProof.Rows
open Builtin Builtin.Str
noncomputable def cutS (z:Str) (lo hi:Option Int):Str:=⟨((z.cps.toList.drop (HT.sIx z.length 0 lo)).take (HT.sIx z.length z.length hi - HT.sIx z.length 0 lo)).toArray⟩
theorem LT (n:Nat) (lo:Option Int):(match lo with | none=>(0:Int) | some i=>max 0 (min (if i<0 then i+(n:Int) else i) (n:Int)))=((HT.sIx n 0 lo:Nat):Int)\/∃ i,lo=some i/\i<0/\(n:Int)<i+n:=by
 cases lo with
 | none=>left; rfl
 | some i=>
  left
  show max 0 (min (if i<0 then i+(n:Int) else i) (n:Int))=(((if i<0 then (i+(n:Int)).toNat else min i.toNat n):Nat):Int)
  by_cases h:i<0
  ·simp only [h,if_true]; omega
  ·simp only [h,if_false]; omega
theorem LS (n:Nat) (hi:Option Int):(match hi with | none=>(n:Int) | some i=>max 0 (min (if i<0 then i+(n:Int) else i) (n:Int)))=((HT.sIx n n hi:Nat):Int):=by
 cases hi with
 | none=>rfl
 | some i=>
  show max 0 (min (if i<0 then i+(n:Int) else i) (n:Int))=(((if i<0 then (i+(n:Int)).toNat else min i.toNat n):Nat):Int)
  by_cases h:i<0
  ·simp only [h,if_true]; omega
  ·simp only [h,if_false]; omega
theorem LU (n:Nat) (lo:Option Int):(match lo with | none=>(0:Int) | some i=>max 0 (min (if i<0 then i+(n:Int) else i) (n:Int)))=((HT.sIx n 0 lo:Nat):Int):=by
 rcases LT n lo with h | ⟨i,_,h1,h2⟩
 ·exact h
 ·omega
theorem JU (z:Str) (lo hi:Option Int):(strSliceIndices lo hi 1 z.length)=(List.range (HT.sIx z.length z.length hi - HT.sIx z.length 0 lo)).map (HT.sIx z.length 0 lo+·):=by
 have h1:=LU z.length lo
 have h2:=LS z.length hi
 rw [<- sliceRange_one,<- h1,<- h2]
 unfold strSliceIndices
 simp only [show (1:Int) > 0 by decide,if_true]
 cases lo<;>cases hi<;>rfl
theorem LY (z:Str) (lo hi:Option Int):(⟨((strSliceIndices lo hi 1 z.length).filterMap (z.cps[·]?)).toArray⟩:Str)=cutS z lo hi:=by
 rw [JU,pick_run]
 rfl
theorem sIx_le (n d:Nat) (hd:d<=n) (v:Option Int):HT.sIx n d v<=n:=by
 cases v with
 | none=>exact hd
 | some i=>
  show (if i<0 then (i+(n:Int)).toNat else min i.toNat n)<=n
  by_cases h:i<0
  ·simp only [h,if_true]; omega
  ·simp only [h,if_false]; omega
theorem La (z:Str) (lo hi:Option Int) (h:(strSliceIndices lo hi 1 z.length).length=z.length):cutS z lo hi=z:=by
 rw [JU,List.length_map,List.length_range] at h
 have a:=sIx_le z.length 0 (Nat.zero_le _) lo
 have b:=sIx_le z.length z.length (Nat.le_refl _) hi
 unfold cutS
 rw [h]
 have hz:HT.sIx z.length 0 lo=0\/z.length=0:=by omega
 have hl:z.cps.toList.length=z.length:=by simp [Str.length]
 rcases hz with q | q
 ·rw [q,List.drop_zero,<- hl,List.take_length]
 ·have e:z.cps.toList=[]:=List.eq_nil_of_length_eq_zero (by omega)
  rw [e]
  simp
  cases z with
  | mk c=>simp [Str.length] at q; simp [q]
theorem cut_len (z:Str) (lo hi:Option Int):(cutS z lo hi).length<=z.length:=by
 show (List.toArray _).size<=z.cps.size
 rw [List.size_toArray,List.length_take,List.length_drop,Array.length_toList]
 omega
section
variable {X:Cx}
theorem JN {v:Value} {lo:Option Int} (h:IsPart v lo):∃ l:Option (Int×Tok),v=partValue l/\l.map (·.1)=lo:=by
 cases h with
 | none=>exact ⟨none,rfl,rfl⟩
 | int i t=>exact ⟨some (i,t),rfl,rfl⟩
noncomputable def Jv:V->Option Int->Option Int->Hp->VK->Prop:=fun x lo hi H Q=>∃ z:Str,x=.str z/\z.length<=sizeLine/\Q (.str (cutS z lo hi)) H
theorem GF:ud X Jv:=by
 intro pins s σ H x v vl vu lo hi sl Q I rx hs pl pu h
 obtain ⟨z,rfl,hz,q⟩:=h
 obtain ⟨t,rfl⟩:=(show ∃ t,v=Value.str z t from rx)
 obtain ⟨l,rfl,rfl⟩:=JN pl
 obtain ⟨u,rfl,rfl⟩:=JN pu
 refine ⟨"str",_,F.slot_str_getitem.lookup,typeIs_str _ _ _,?_⟩
 refine wpAny_getItem_str_slice (l:=l) (u:=u) (st:=none) hs rfl ?_
 unfold sliceMade
 have hp:slicePicked z l u none=strSliceIndices (l.map (·.1)) (u.map (·.1)) 1 z.length:=rfl
 rw [hp]
 split
 ·rename_i hc
  have e:(strSliceIndices (l.map (·.1)) (u.map (·.1)) 1 z.length).length=z.length:=by
   rw [Bool.and_eq_true] at hc
   exact beq_iff_eq.mp hc.2
  rw [La z _ _ e] at q
  exact ⟨.str z,H,I,⟨_,rfl⟩,q⟩
 ·rw [LY]
  exact ⟨Nat.le_trans (cut_len z _ _) hz,.str _,H,I.tok _,⟨_,rfl⟩,q⟩
end
end L2
namespace L2
open PySem PySem.Spec PyProof.Rows
open Builtin Builtin.Str
end L2
namespace L2
open PySem PySem.Spec PyProof.Rows
section
variable {κ:Type} [DecidableEq κ]
noncomputable def vO (kvs:List (κ×V)) (k:κ):Option V:=(kvs.find? fun kv=>decide (kv.1=k)).map (·.2)
noncomputable def v_ (kvs:List (κ×V)) (k:κ) (v:V):List (κ×V):=
 if (kvs.any fun kv=>decide (kv.1=k))=true then kvs.map (fun kv=>if kv.1=k then (kv.1,v) else kv) else kvs++[(k,v)]
theorem Yh {p:κ×V} {r:List (κ×V)} {k:κ} (e:p.1=k):vO (p::r) k=some p.2:=by simp [vO,List.find?_cons,e]
theorem Yg {p:κ×V} {r:List (κ×V)} {k:κ} (e:¬ p.1=k):vO (p::r) k=vO r k:=by simp [vO,List.find?_cons,e]
theorem OL (k:κ):∀ kvs:List (κ×V),(kvs.any fun kv=>decide (kv.1=k))=(vO kvs k).isSome
 | []=>rfl
 | p::r=>by
  rw [List.any_cons]
  by_cases e:p.1=k
  ·simp only [Yh e,decide_eq_true e,Bool.true_or,Option.isSome_some]
  ·rw [Yg e,decide_eq_false e,Bool.false_or]; exact OL k r
theorem Qq (kvs:List (κ×V)) (k:κ) (v:V):(v_ kvs k v).length<=kvs.length+1:=by
 unfold v_
 split
 ·rw [List.length_map]; omega
 ·rw [List.length_append,List.length_cons,List.length_nil]; omega
theorem u9.isSome_eq {o:Option V} {u:Option Value} (r:u9 o u):o.isSome=u.isSome:=by
 cases o with
 | none=>cases u with
  | none=>rfl
  | some _=>exact (show False from r).elim
 | some _=>cases u with
  | none=>exact (show False from r).elim
  | some _=>rfl
theorem KV.val {kvs:List (κ×V)} {vs:List (κ×Value)} (r:KV kvs vs) (k:κ):u9 (vO kvs k) (valueAt vs k):=by
 unfold KV at r
 induction r with
 | nil=>exact True.intro
 | @cons p q ps qs h t ih=>
  obtain ⟨h1,h2⟩:=h
  by_cases e:p.1=k
  ·have e':q.1=k:=h1.symm.trans e
   have b:valueAt (q::qs) k=some q.2:=by simp [valueAt,List.find?_cons,e']
   rw [Yh e,b]; exact h2
  ·have e':¬ q.1=k:=fun z=>e (h1.trans z)
   have b:valueAt (q::qs) k=valueAt qs k:=by simp [valueAt,List.find?_cons,e']
   rw [Yg e,b]; exact ih
theorem KV.any {kvs:List (κ×V)} {vs:List (κ×Value)} (r:KV kvs vs) (k:κ):(kvs.any fun kv=>decide (kv.1=k))=vs.any fun kv=>decide (kv.1=k):=by
 unfold KV at r
 induction r with
 | nil=>rfl
 | cons h t ih=>rw [List.any_cons,List.any_cons,ih,h.1]
theorem KV.repl {kvs:List (κ×V)} {vs:List (κ×Value)} (r:KV kvs vs) (k:κ) {y:V} {u:Value} (ry:zp y u) :
  KV (kvs.map fun kv=>if kv.1=k then (kv.1,y) else kv) (vs.map fun kv=>if kv.1=k then (kv.1,u) else kv):=by
 unfold KV at r ⊢
 induction r with
 | nil=>exact .nil
 | @cons p q ps qs h t ih=>
  rw [List.map_cons,List.map_cons]
  refine .cons ?_ ih
  obtain ⟨h1,h2⟩:=h
  by_cases e:p.1=k
  ·rw [if_pos e,if_pos (h1.symm.trans e)]; exact ⟨h1,ry⟩
  ·rw [if_neg e,if_neg (fun z=>e (h1.trans z))]; exact ⟨h1,h2⟩
theorem KV.put {kvs:List (κ×V)} {vs:List (κ×Value)} (r:KV kvs vs) (k:κ) {y:V} {u:Value} (ry:zp y u):KV (v_ kvs k y) (stored vs k u):=by
 unfold v_ stored
 rw [r.any k]
 by_cases e:(vs.any fun kv=>decide (kv.1=k))=true
 ·rw [if_pos e,if_pos e]; exact r.repl k ry
 ·rw [if_neg e,if_neg e]; exact Paired.snoc r ⟨rfl,ry⟩
theorem KV.length {kvs:List (κ×V)} {vs:List (κ×Value)} (r:KV kvs vs):kvs.length=vs.length:=Paired.length r
end
theorem jR {P:Program} {w:World} {k:zU} {u:Value} (r:zp (kV k) u):(xG P w).is k u=true:=by
 cases k with
 | inl i=>obtain ⟨t,e⟩:=(show ∃ t,u=Value.int i t from r); subst e; exact Bq P w i t
 | inr x=>obtain ⟨t,e⟩:=(show ∃ t,u=Value.str x t from r); subst e; exact VL P w x t
theorem Qh {P:Program} {w:World}:∀ {ks:List zU} {us:List Value},zi (ks.map kV) us->ItemsAre (xG P w) ks us
 | [],_,r=>by rw [List.map_nil] at r; cases r; exact .nil
 | k::ks,_,r=>by
  rw [List.map_cons] at r
  cases r with
  | cons h t=>exact .cons (jR h) (Qh t)
noncomputable abbrev KT (H:Hp):List (List zU×V)->List (List zU×Addr×Value)->Prop:=Paired fun p q=>p.1=q.1/\H q.2.1=some (.tup (p.1.map kV))/\zp p.2 q.2.2
theorem KT.val {H:Hp} {kvs:List (List zU×V)} {xs:List (List zU×Addr×Value)} (r:KT H kvs xs) (k:List zU):u9 (vO kvs k) ((atKey xs k).map (·.2)):=by
 induction r with
 | nil=>exact True.intro
 | @cons p q ps qs h t ih=>
  obtain ⟨h1,_,h2⟩:=h
  by_cases e:p.1=k
  ·have e':q.1=k:=h1.symm.trans e
   have b:atKey (q::qs) k=some q.2:=by simp [atKey,List.find?_cons,e']
   rw [Yh e,b]; exact h2
  ·have e':¬ q.1=k:=fun z=>e (h1.trans z)
   have b:atKey (q::qs) k=atKey qs k:=by simp [atKey,List.find?_cons,e']
   rw [Yg e,b]; exact ih
theorem KT.repl {H:Hp} {kvs:List (List zU×V)} {xs:List (List zU×Addr×Value)} (r:KT H kvs xs) (k:List zU) {y:V} {u:Value} (ry:zp y u) :
  KT H (kvs.map fun kv=>if kv.1=k then (kv.1,y) else kv) (xs.map (putAt k u)):=by
 induction r with
 | nil=>exact .nil
 | @cons p q ps qs h t ih=>
  rw [List.map_cons,List.map_cons]
  refine .cons ?_ ih
  obtain ⟨h1,h2,h3⟩:=h
  unfold putAt
  by_cases e:p.1=k
  ·rw [if_pos e,if_pos (h1.symm.trans e)]; exact ⟨h1,h2,ry⟩
  ·rw [if_neg e,if_neg (fun z=>e (h1.trans z))]; exact ⟨h1,h2,h3⟩
theorem KT.put {H:Hp} {kvs:List (List zU×V)} {xs:List (List zU×Addr×Value)} (r:KT H kvs xs) (k:List zU) {b:Addr} {y:V} {u:Value} (hb:H b=some (.tup (k.map kV))) (ry:zp y u) :
  KT H (v_ kvs k y) (storedH xs k b u):=by
 have e:(kvs.any fun kv=>decide (kv.1=k))=(atKey xs k).isSome:=by
  rw [OL,(r.val k).isSome_eq,Option.isSome_map]
 unfold v_ storedH
 rw [e]
 by_cases q:(atKey xs k).isSome=true
 ·rw [if_pos q,if_pos q]; exact r.repl k ry
 ·rw [if_neg q,if_neg q]; exact Paired.snoc r ⟨rfl,hb,ry⟩
theorem KT.keeps {H H':Hp} {kvs:List (List zU×V)} {xs:List (List zU×Addr×Value)} (r:KT H kvs xs) (ht:∀ b ys,H b=some (.tup ys)->H' b=some (.tup ys)):KT H' kvs xs:=
 Paired.mapP r fun _ _ z=>⟨z.1,ht _ _ z.2.1,z.2.2⟩
section
variable {P:Program} {w:World} {H:Hp} {h:Heap} {a:Addr}
theorem ID {u:HO} (ok:yn P w H h) (e:Rd H a u):yc P w H h a u:=e.ok ok
theorem gc {kvs:List (zU×V)} (ok:yn P w H h) (e:Rd H a (.dK kvs)):kvs.length<=sizeLine/\(a == sysModules)=false/\∃ vs,KV kvs vs/\h.DictOf (xG P w) a vs:=
 show yc P w H h a (.dK kvs) from ID ok e
theorem Lm {kvs:List (zU×V)} (ok:yn P w H h) (e:H a=some (.dK kvs)):kvs.length<=sizeLine/\(a == sysModules)=false/\∃ vs,KV kvs vs/\h.DictOf (xG P w) a vs:=gc ok (.inl e)
theorem Zv {ks:List zU} (ok:yn P w H h) (e:H a=some (.tup (ks.map kV))):(tupleKind (xG P w)).is h ks a:=by
 obtain ⟨_,its,r,o,h1,h2,n,h3⟩:=(show yc P w H h a (.tup (ks.map kV)) from ok a _ e)
 exact ⟨o,its.toArray,n,h1,h2,h3,by simpa using Qh r⟩
theorem ZR {kvs:List (List zU×V)} (ok:yn P w H h) (e:Rd H a (.dT kvs)):kvs.length<=sizeLine/\(a == sysModules)=false/\
  ∃ xs,KT H kvs xs/\h.DictOfH (tupleKind (xG P w)) a xs:=by
 obtain ⟨z,y,xs,r,o,es,ep,h1,h2,h3,h4,h5⟩:=(show yc P w H h a (.dT kvs) from ID ok e)
 refine ⟨z,y,xs,r,o,es,ep,h1,h2,h3,h4,fun x hx=>?_,h5⟩
 have all:∀ {l:List (List zU×V)} {m:List (List zU×Addr×Value)},KT H l m->∀ x∈m,(tupleKind (xG P w)).is h x.1 x.2.1:=by
  intro l m q
  induction q with
  | nil=>intro x hx; exact nomatch hx
  | @cons p q ps qs hq t ih=>
   intro x hx
   rcases List.mem_cons.mp hx with e | hx
   ·subst e
    exact Zv ok (by rw [<- hq.1]; exact hq.2.1)
   ·exact ih x hx
 exact all r x hx
theorem Ln {kvs:List (List zU×V)} (ok:yn P w H h) (e:H a=some (.dT kvs)):kvs.length<=sizeLine/\(a == sysModules)=false/\
  ∃ xs,KT H kvs xs/\h.DictOfH (tupleKind (xG P w)) a xs:=ZR ok (.inl e)
end
noncomputable def Yx (H:Hp) (a:Addr) (y:V) (r:Option V):Prop:=
 (∃ kvs k,Rd H a (.dK kvs)/\y=kV k/\r=vO kvs k)\/∃ kvs k b,Rd H a (.dT kvs)/\y=.ref b/\H b=some (.tup (k.map kV))/\r=vO kvs k
noncomputable def T0 (H:Hp) (a:Addr) (y v:V) (H':Hp):Prop:=
 (∃ kvs k,H a=some (.dK kvs)/\y=kV k/\kvs.length<sizeLine/\H'=zV H a (.dK (v_ kvs k v))) \/
 ∃ kvs k b,H a=some (.dT kvs)/\y=.ref b/\H b=some (.tup (k.map kV))/\kvs.length<sizeLine/\H'=zV H a (.dT (v_ kvs k v))
section
variable {X:Cx} {pins:List (Addr×Obj)} {σ:St} {H:Hp} {s:Shared} {a:Addr} {y v:V} {u r:Value} {o:Option V} {A:Around} {E:Value->Shared->Prop}
theorem Inv.big (I:Inv X pins σ H s):sysModules<s.heap.objs.size:=by
 have h:mainGlobals<s.heap.objs.size:=(I.mod.glob.keeps I.bk).lt
 exact Nat.lt_trans (by decide) h
theorem Lb {Q:Value->Shared->Prop} (hu:A.units+1<cLine) (I:Inv X pins σ H s) (g:Yx H a y o) (ry:zp y u) (h:∀ s',Inv X pins σ H s'->Q (.bool o.isSome) s') :
  wpAny (model X.prog X.w) A (compareOp .In u (.ref a)) Q E s:=by
 rcases g with ⟨kvs,k,e,ey,l⟩ | ⟨kvs,k,b,e,ey,eb,l⟩
 ·subst ey
  obtain ⟨z,hd,vs,rel,dd⟩:=gc I.hok e
  refine wpAny_in_of (jR ry) hd dd.mapOf ?_
  rw [<- (rel.val k).isSome_eq,<- l]
  exact h _ (I.tok _)
 ·subst ey
  cases (show u=Value.ref b from ry)
  obtain ⟨z,hd,xs,rel,dd⟩:=ZR I.hok e
  refine wpAny_in_heap (tupleKind_room_in1 hu) (Zv I.hok eb) hd dd ?_
  have q:=(rel.val k).isSome_eq
  rw [Option.isSome_map] at q
  rw [<- q,<- l]
  exact h _ (I.tok _)
theorem Lc {Q:Value->Shared->Prop} (hu:A.units+1<cLine) (I:Inv X pins σ H s) (g:Yx H a y o) (ry:zp y u) (h:∀ s',Inv X pins σ H s'->Q (.bool (!o.isSome)) s') :
  wpAny (model X.prog X.w) A (compareOp .NotIn u (.ref a)) Q E s:=by
 rcases g with ⟨kvs,k,e,ey,l⟩ | ⟨kvs,k,b,e,ey,eb,l⟩
 ·subst ey
  obtain ⟨z,hd,vs,rel,dd⟩:=gc I.hok e
  refine wpAny_notIn_of (jR ry) hd dd.mapOf ?_
  rw [<- (rel.val k).isSome_eq,<- l]
  exact h _ (I.tok _)
 ·subst ey
  cases (show u=Value.ref b from ry)
  obtain ⟨z,hd,xs,rel,dd⟩:=ZR I.hok e
  refine wpAny_notIn_heap (tupleKind_room_in1 hu) (Zv I.hok eb) hd dd ?_
  have q:=(rel.val k).isSome_eq
  rw [Option.isSome_map] at q
  rw [<- q,<- l]
  exact h _ (I.tok _)
theorem Tn {h':Heap} {t':Nat} {ob:HO} (I:Inv X pins σ H s) (mu:gN (H a)) (hs:Heap.SameBut a s.heap h') (he:∃ q,h'.get? a=some q) (new:yc X.prog X.w (zV H a ob) h' a ob) :
  Inv X pins σ (zV H a ob) { s with heap:=h',toks:=t' }:=
 I.write (x:=a) (e:=a) mu (.inl rfl) (fun b q hb z=>(hs.2 b hb).trans z) he new
theorem Ll {P:Program} {w:World} {H':Hp} {h':Heap} {kvs:List (zU×V)} {vs:List (zU×Value)} (z:kvs.length<=sizeLine) (hd:(a == sysModules)=false) (rel:KV kvs vs) (dd:h'.DictOf (xG P w) a vs) :
  yc P w H' h' a (.dK kvs):=⟨z,hd,vs,rel,dd⟩
theorem Ld {H':Hp} {Q:Unit->Shared->Prop} (hu:A.units+1<cLine) (I:Inv X pins σ H s) (g:T0 H a y v H') (ry:zp y u) (rv:zp v r) (h:∀ s',Inv X pins σ H' s'->Q () s') :
  wpAny (model X.prog X.w) A (setItem (.ref a) u r) Q E s:=by
 rcases g with ⟨kvs,k,e,ey,l,eH⟩ | ⟨kvs,k,b,e,ey,eb,l,eH⟩
 ·subst ey eH
  obtain ⟨z,hd,vs,rel,dd⟩:=Lm I.hok e
  have hz:vs.length<=sizeLine:=by rw [<- rel.length]; exact z
  have hl:(v_ kvs k v).length<=sizeLine:=by have:=Qq kvs k v; omega
  refine wpAny_setItem_pairs (hsz:=hz) (jR ry) dd fun h' dd' hs=>h _ ?_
  have he:∃ q,h'.get? a=some q:=let ⟨q,_,_,hq,_⟩:=dd'; ⟨q,hq⟩
  exact Tn I (by rw [e]; exact True.intro) hs he (Ll hl hd (rel.put k rv) dd')
 ·subst ey eH
  cases (show u=Value.ref b from ry)
  obtain ⟨z,hd,xs,rel,dd⟩:=Ln I.hok e
  have hz:xs.length<=sizeLine:=by rw [<- Paired.length rel]; exact z
  have hl:(v_ kvs k v).length<=sizeLine:=by have:=Qq kvs k v; omega
  refine wpAny_setItem_heap (hsz:=hz) (tupleKind_room_in1 hu) (Zv I.hok eb) dd fun h' dd' hs=>h _ ?_
  obtain ⟨q,es,ep,hq,h2,h3,h4,_,h5⟩:=dd'
  refine Tn I (by rw [e]; exact True.intro) hs ⟨q,hq⟩ ⟨hl,hd,_,(rel.put k eb rv).keeps fun c ys ec=>?_,q,es,ep,hq,h2,h3,h4,h5⟩
  rw [zr (D2 ec e (fun z=>nomatch z))]
  exact ec
end
theorem Lj {X:Cx} {pins:List (Addr×Obj)} {σ:St} {H:Hp} {s:Shared} {a:Addr} {y:V} {o:Option V} (I:Inv X pins σ H s) (g:Yx H a y o):s.TypeIs (.ref a) "dict" := by
 rcases g with ⟨kvs,k,e,_,_⟩ | ⟨kvs,k,b,e,_,_,_⟩
 ·obtain ⟨_,_,vs,_,dd⟩:=gc I.hok e
  exact dd.typeIs
 ·obtain ⟨_,_,xs,_,dd⟩:=ZR I.hok e
  exact dd.typeIs
noncomputable def EN (td ty tv:TE):TS:=fun D σ H=>tv σ H fun v H1=>td σ H1 fun x H2=>ty σ H2 fun y H3=>∃ a H4,x=.ref a/\T0 H3 a y v H4/\D.nx σ H4
section
variable {X:Cx} {o i e value:Expr} {pos pos' tpos:Pos} {td ty tv:TE}
theorem CQ (hu:X.A.units+1<cLine) (ho:PE X o td) (hi:PE X i ty) (hv:PE X value tv) (hs:swapsWith value (some (.Subscript o i pos')) pos.line X.env=pure false) :
  PS X (.Assign [.Subscript o i pos'] value pos) (EN td ty tv):=by
 intro pins s σ H D I h
 refine wpAny_Assign_Subscript (zg (hv pins s σ H _ I h) fun r s1 ⟨v,H1,I1,rv,q1⟩=>zg (ho pins s1 σ H1 _ I1 q1) fun u s2 ⟨x,H2,I2,rx,q2⟩=>zg (hi pins s2 σ H2 _ I2 q2) fun iv s3 ⟨y,H3,I3,ry,a,H4,ex,g,q3⟩=>?_) hs
 subst ex
 obtain rfl:u=Value.ref a:=rx
 exact Ld hu I3 g ry rv fun s4 I4=>⟨σ,H4,I4,q3⟩
end
theorem Lk {P:Program} {w:World} {H:Hp} (h:Heap) (hb:sysModules<h.objs.size):yc P w H (h.push { cls:=.type "dict",data:=.dict #[] }) h.objs.size (.dK []):=
 ⟨Nat.zero_le _,beq_eq_false_iff_ne.mpr (Ne.symm (Nat.ne_of_lt hb)),[],.nil,Heap.DictOf.new h⟩
noncomputable def Gc:TE:=fun _ H Q=>∀ p,H p=none->Q (.ref p) (zV H p (.dK []))
section
variable {X:Cx} {pos:Pos}
theorem Fi:PE X (.Dict [] [] pos) Gc:=fun pins s σ H Q I h=>
 wpAny_Dict_empty ⟨.ref s.heap.objs.size,_,I.laid (a:=s.heap.objs.size) (o:=.dK []) (t':=s.toks) (fun _ _ q=>Heap.get?_push_of_some _ q) (Nat.le_refl _) (Lk s.heap I.big),rfl,h _ (I.hok.fresh (Nat.le_refl _))⟩
end
noncomputable abbrev VV:List (V×V)->List (Value×Value)->Prop:=Paired fun p q=>zp p.1 q.1/\zp p.2 q.2
end L2
namespace L3
open PySem
inductive D where
 | non | bl (b:Bool) | int (i:Int) | str (x:Str) | tup (xs:List D) | lst (xs:List D) | dic (ks:List (Sum Int Str)) (vs:List D) | exc (x:Str) | obj (x:Str) (fs:List Str) (vs:List D)
theorem D.ind {P:D->Prop} (non:P .non) (bl:∀ b,P (.bl b)) (int:∀ i,P (.int i)) (str:∀ x,P (.str x)) (tup:∀ xs,(∀ d∈xs,P d)->P (.tup xs)) (lst:∀ xs,(∀ d∈xs,P d)->P (.lst xs))
  (dic:∀ ks xs,(∀ d∈xs,P d)->P (.dic ks xs)) (exc:∀ x,P (.exc x)) (obj:∀ x fs xs,(∀ d∈xs,P d)->P (.obj x fs xs)) (d:D):P d:=
 D.rec (motive_1:=P) (motive_2:=fun ds=>∀ d∈ds,P d) non bl int str (fun xs h=>tup xs h) (fun xs h=>lst xs h) (fun ks xs h=>dic ks xs h) exc (fun x fs xs h=>obj x fs xs h) (fun _ h=>absurd h (by simp))
  (fun d ds hd hds e he=>by
   rcases List.mem_cons.mp he with z | z
   ·exact z ▸ hd
   ·exact hds e z) d
mutual
noncomputable def yW:D->D->Bool
 | .non,.non=>true
 | .bl a,.bl b=>a == b
 | .bl a,.int b=>(if a then 1 else 0) == b
 | .int a,.bl b=>a == (if b then 1 else 0)
 | .int a,.int b=>a == b
 | .str a,.str b=>a == b
 | .tup xs,.tup ys=>dEqs xs ys
 | .lst xs,.lst ys=>dEqs xs ys
 | _,_=>false
noncomputable def dEqs:List D->List D->Bool
 | [],[]=>true
 | x::xs,y::ys=>yW x y&&dEqs xs ys
 | _,_=>false
end
noncomputable abbrev Sl:=Bool×D
noncomputable abbrev yD:=List (Option Sl)
noncomputable abbrev FE:=yD->Option D
noncomputable abbrev FT:=yD->Option Bool
noncomputable abbrev FA:=yD->Option (List D)
noncomputable abbrev FG:=D->yD->Option yD
inductive Fl where
 | nx (σ:yD) | rt (o:Bool) (d:D) | bk (σ:yD) | ct (σ:yD)
noncomputable abbrev FS:=yD->Option Fl
noncomputable abbrev yA:Nat:=16777216
noncomputable def z6 (i:Nat):FE:=fun σ=>match σ[i]? with
 | some (some (false,d))=>some d
 | _=>none
noncomputable def uE (i:Nat):FE:=fun σ=>match σ[i]? with
 | some (some (_,d))=>some d
 | _=>none
noncomputable def eC (d:D):FE:=fun _=>some d
noncomputable def e1 (F:D->Option D) (a:FE):FE:=fun σ=>(a σ).bind F
noncomputable def e2 (F:D->D->Option D) (a b:FE):FE:=fun σ=>(a σ).bind fun x=>(b σ).bind fun y=>F x y
noncomputable def eL (F:List D->Option D) (a:FA):FE:=fun σ=>(a σ).bind F
noncomputable def zD:FA:=fun _=>some []
noncomputable def z8 (a:FE) (r:FA):FA:=fun σ=>(a σ).bind fun x=>(r σ).bind fun xs=>some (x::xs)
noncomputable def qm:D->Option Bool
 | .bl b=>some b
 | _=>none
noncomputable def tE (a:FE):FT:=fun σ=>(a σ).bind qm
noncomputable def ju (a b:FT):FT:=fun σ=>(a σ).bind fun k=>match k with
 | true=>b σ
 | false=>some false
noncomputable def uz (a b:FT):FT:=fun σ=>(a σ).bind fun k=>match k with
 | true=>some true
 | false=>b σ
noncomputable def YZ (a:FT):FT:=fun σ=>(a σ).bind fun k=>some (!k)
noncomputable def ZS (a b:FE):FE:=fun σ=>(a σ).bind fun x=>(qm x).bind fun k=>match k with
 | true=>b σ
 | false=>some (.bl false)
noncomputable def Ls (a b:FE):FE:=fun σ=>(a σ).bind fun x=>(qm x).bind fun k=>match k with
 | true=>some (.bl true)
 | false=>b σ
noncomputable def Lr (a:FE):FE:=fun σ=>(a σ).bind fun x=>(qm x).bind fun k=>some (.bl (!k))
noncomputable def uh (c:FT) (a b:FE):FE:=fun σ=>(c σ).bind fun k=>match k with
 | true=>a σ
 | false=>b σ
noncomputable def yX (a:FA):FE:=fun σ=>(a σ).bind fun xs=>some (.tup xs)
noncomputable def yb (a:FA):FE:=fun σ=>(a σ).bind fun xs=>some (.lst xs)
noncomputable def ze:D->D->Option D
 | .int i,.int j=>some (.int (i+j))
 | .int i,.bl b=>some (.int (i+(if b then 1 else 0)))
 | .str x,.str y=>if x.length+y.length<=yA then some (.str (x++y)) else none
 | .lst x,.lst y=>if x.length+y.length<=yA then some (.lst (x++y)) else none
 | .tup x,.tup y=>if x.isEmpty=false/\x.length+y.length<=yA then some (.tup (x++y)) else none
 | _,_=>none
noncomputable def fI (C:Int->Int->Bool) (g:Int->Int->Int):D->D->Option D
 | .int i,.int j=>match C i j with
  | true=>some (.int (g i j))
  | false=>none
 | _,_=>none
noncomputable def xq:D->D->Option D
 | .int i,.int j=>some (.int (i - j))
 | _,_=>none
noncomputable def wE (i:Int):Bool:=decide (-(2 ^ 64)<i)&&decide (i<2 ^ 64)
noncomputable def Zd:D->D->Option D:=fI (fun i _=>wE i) (·*·)
noncomputable def tF:D->D->Option D:=fI (fun _ j=>wE j) (·*·)
noncomputable def yI:D->D->Option D:=fI (fun _ j=>decide (0<j)) (· % ·)
noncomputable def xK:D->D->Option D:=fI (fun _ j=>decide (0<j)&&decide (j<2 ^ 64)) (· / ·)
noncomputable def xQ (i j:Int):Bool:=decide (0<=j)&&(decide (j<=1000000)&&decide (i.natAbs<2 ^ 64))
noncomputable def vB:D->D->Option D:=fI xQ fun i j=>i ^ j.toNat
noncomputable def qw:D->D->Option D:=fI xQ fun i j=>i*2 ^ j.toNat
noncomputable def Wm:D->D->Option D:=fI (fun _ j=>decide (0<=j)) fun i j=>i / 2 ^ j.toNat
noncomputable def uj (g:Int->Int->Int):D->D->Option D
 | .int i,.int j=>some (.int (g i j))
 | _,_=>none
noncomputable def wC:D->Option D
 | .int i=>some (.int (-i))
 | _=>none
noncomputable def Wg:D->Option D
 | .int i=>some (.int (Builtin.bitNot i))
 | _=>none
noncomputable def ye (g:Int->Int->Bool):D->D->Option D
 | .int i,.int j=>some (.bl (g i j))
 | _,_=>none
noncomputable def jO:D->Bool
 | .non=>true
 | _=>false
noncomputable def gg:D->D->Option D
 | x,.non=>some (.bl (jO x))
 | _,_=>none
noncomputable def jE:D->D->Option D
 | x,.non=>some (.bl (!jO x))
 | _,_=>none
noncomputable def yL:D->Bool
 | .non=>true
 | .bl _=>true
 | .int _=>true
 | .str _=>true
 | _=>false
noncomputable def vY (f:D->D->Bool):List D->List D->Bool
 | x::xs,y::ys=>f x y&&vY f xs ys
 | _,_=>true
noncomputable def w4:Nat->D->D->Bool
 | 0,_,_=>false
 | n+1,x,y=>match x,y with
  | .tup xs,.tup ys=>vY (w4 n) xs ys
  | .lst xs,.lst ys=>vY (w4 n) xs ys
  | x,y=>yL x&&yL y
noncomputable def t9:D->D->Option Bool
 | .int _,.bl _=>none
 | .bl _,.int _=>none
 | x,y=>match w4 6 x y with
  | true=>some (yW x y)
  | false=>none
noncomputable def zd (x y:D):Option D:=(t9 x y).bind fun k=>some (.bl k)
noncomputable def yl (x y:D):Option D:=(t9 x y).bind fun k=>some (.bl (!k))
noncomputable def jS:D->Option (Sum Int Str)
 | .int i=>some (.inl i)
 | .str x=>some (.inr x)
 | _=>none
noncomputable def getK {α:Type}:List (Sum Int Str)->List α->Sum Int Str->Option α
 | k'::ks,v::vs,k=>if k'=k then some v else getK ks vs k
 | _,_,_=>none
noncomputable def xL (ks:List (Sum Int Str)) (k:Sum Int Str):Bool:=ks.any fun j=>decide (j=k)
noncomputable def vJ (ks:List (Sum Int Str)) (k:Sum Int Str):List (Sum Int Str):=if xL ks k=true then ks else ks++[k]
noncomputable def wO {α:Type} (ks:List (Sum Int Str)) (vs:List α) (k:Sum Int Str) (v:α):List α:=if xL ks k=true then List.zipWith (fun k' x=>if k'=k then v else x) ks vs else vs++[v]
noncomputable def tD (x:D):D->Option Bool
 | .lst ys=>match yL x&&ys.all yL with
  | true=>some (ys.any fun y=>yW y x)
  | false=>none
 | .tup ys=>match yL x&&ys.all yL with
  | true=>some (ys.any fun y=>yW y x)
  | false=>none
 | .str j=>match x with
  | .str i=>some (!(Builtin.Str.occurrences j i 0 j.length 1).isEmpty)
  | _=>none
 | .dic ks _=>(jS x).bind fun k=>some (xL ks k)
 | _=>none
noncomputable def yY (x y:D):Option D:=(tD x y).bind fun k=>some (.bl k)
noncomputable def gi (x y:D):Option D:=(tD x y).bind fun k=>some (.bl (!k))
noncomputable def x_ {α:Type} (xs:List α) (i:Int):Option α:=if 0<=i then xs[i.toNat]? else if -(xs.length:Int)<=i then xs[(i+xs.length).toNat]? else none
noncomputable def zF:D->D->Option D
 | .lst xs,.int i=>x_ xs i
 | .tup xs,.int i=>x_ xs i
 | .str z,.int i=>(x_ z.cps.toList i).bind fun c=>some (.str ⟨#[c]⟩)
 | .dic ks vs,k=>(jS k).bind fun k=>getK ks vs k
 | _,_=>none
noncomputable def xh:List D->Option D
 | [.lst xs]=>some (.int xs.length)
 | [.tup xs]=>some (.int xs.length)
 | [.str z]=>some (.int z.length)
 | _=>none
noncomputable def Zb:List D->Option D
 | [.int i,.int j]=>some (.int (if j > i then j else i))
 | _=>none
noncomputable def Zc:List D->Option D
 | [.int i,.int j]=>some (.int (if j<i then j else i))
 | _=>none
noncomputable def qJ:List D->Option D
 | [.int i]=>some (.int i)
 | [.bl k]=>some (.int (if k then 1 else 0))
 | _=>none
inductive qD where
 | int | bool | str | list | tuple
noncomputable def qD.nm:qD->String
 | .int => "int"
 | .bool => "bool"
 | .str => "str"
 | .list => "list"
 | .tuple => "tuple"
noncomputable def g_:qD->D->Option Bool
 | _,.dic _ _=>none
 | _,.exc _=>none
 | _,.obj _ _ _=>none
 | .int,.int _=>some true
 | .int,.bl _=>some true
 | .int,_=>some false
 | .bool,.bl _=>some true
 | .bool,_=>some false
 | .str,.str _=>some true
 | .str,_=>some false
 | .list,.lst _=>some true
 | .list,_=>some false
 | .tuple,.tup _=>some true
 | .tuple,_=>some false
noncomputable def ZV (T:qD) (a:FE):FE:=fun τ=>(a τ).bind fun d=>(g_ T d).bind fun b=>some (.bl b)
noncomputable def uo (a:FE):FA:=fun σ=>(a σ).bind fun d=>match d with
 | .lst xs=>some xs
 | .tup xs=>some xs
 | .str z=>some (z.cps.toList.map fun c=>.str ⟨#[c]⟩)
 | _=>none
noncomputable def vE (lo hi:FE):FA:=fun σ=>(lo σ).bind fun x=>(hi σ).bind fun y=>match x,y with
 | .int i,.int j=>if i.natAbs<=yA/\j.natAbs<=yA/\(j - i).toNat<=yA then some ((List.range (j - i).toNat).map fun k:Nat=>.int (i+k)) else none
 | _,_=>none
noncomputable def yC (i:Nat):FG:=fun d σ=>some (σ.set i (some (false,d)))
noncomputable def wp (i j:Nat):FG:=fun d σ=>match d with
 | .tup [x,y]=>some ((σ.set i (some (false,x))).set j (some (false,y)))
 | _=>none
noncomputable def yB:FS:=fun σ=>some (.nx σ)
noncomputable def zI (a b:FS):FS:=fun σ=>(a σ).bind fun f=>match f with
 | .nx σ'=>b σ'
 | f=>some f
noncomputable def zQ (i:Nat) (e:FE):FS:=fun σ=>(e σ).bind fun d=>some (.nx (σ.set i (some (false,d))))
noncomputable def wz (i:Nat) (e:FE):FS:=fun σ=>(e σ).bind fun d=>some (.nx (σ.set i (some (true,d))))
noncomputable def zk (e:FE):FS:=fun σ=>(e σ).bind fun d=>some (.rt false d)
noncomputable def pS (e:FE):FS:=fun σ=>(e σ).bind fun d=>some (.rt true d)
noncomputable def tR (i:Nat):FS:=fun σ=>match σ[i]? with
 | some (some (true,d))=>some (.rt true d)
 | _=>none
noncomputable def zj (c:FT) (a b:FS):FS:=fun σ=>(c σ).bind fun k=>match k with
 | true=>a σ
 | false=>b σ
noncomputable def uJ (g:FG) (b:FS):List D->yD->Option Fl
 | [],σ=>some (.nx σ)
 | d::r,σ=>(g d σ).bind fun σ1=>(b σ1).bind fun f=>match f with
  | .nx σ2=>uJ g b r σ2
  | .ct σ2=>uJ g b r σ2
  | .bk σ2=>some (.nx σ2)
  | .rt o d=>some (.rt o d)
noncomputable def wc (it:FA) (g:FG) (b:FS):FS:=fun σ=>(it σ).bind fun ds=>uJ g b ds σ
noncomputable def w_ (c:FT) (b:FS):Nat->yD->Option Fl
 | 0,_=>none
 | n+1,σ=>(c σ).bind fun k=>match k with
  | false=>some (.nx σ)
  | true=>(b σ).bind fun f=>match f with
   | .nx σ2=>w_ c b n σ2
   | .ct σ2=>w_ c b n σ2
   | .bk σ2=>some (.nx σ2)
   | .rt o d=>some (.rt o d)
noncomputable def Z0:Nat:=100000000
noncomputable def kP (c:FT) (b:FS):FS:=fun σ=>w_ c b Z0 σ
noncomputable def qR (i:Nat):FS:=fun σ=>match σ[i]? with
 | some (some (_,d))=>some (.nx (σ.set i (some (false,d))))
 | _=>none
noncomputable def EO (i:Nat) (F:D->Option D):FS:=fun σ=>match σ[i]? with
 | some (some (true,d))=>(F d).bind fun d'=>some (.nx (σ.set i (some (true,d'))))
 | _=>none
noncomputable def xl (i:Nat) (F:D->D->Option D) (e:FE):FS:=fun σ=>match σ[i]? with
 | some (some (true,d))=>(e σ).bind fun x=>(F d x).bind fun d'=>some (.nx (σ.set i (some (true,d'))))
 | _=>none
noncomputable def xJ:D->D->Option D
 | .lst xs,y=>if xs.length<yA then some (.lst (xs++[y])) else none
 | _,_=>none
noncomputable def pR (i:Nat) (k v:FE):FS:=fun σ=>(v σ).bind fun y=>match σ[i]? with
 | some (some (true,.dic ks ds))=>(k σ).bind fun x=>(jS x).bind fun x=>if ks.length<yA then some (.nx (σ.set i (some (true,.dic (vJ ks x) (wO ks ds x y))))) else none
 | _=>none
noncomputable def yy (ks:List (Sum Int Str)) (ds:List D) (x:D):Option D:=(jS x).bind fun k=>getK ks ds k
noncomputable def vw (F F':D->D->Option D) (a b c:FE):FE:=fun τ=>(a τ).bind fun x=>(b τ).bind fun y=>(F x y).bind fun k=>(qm k).bind fun k=>match k with
 | true=>(c τ).bind fun z=>F' y z
 | false=>some (.bl false)
noncomputable def yg (g:FG) (c:FT) (e:FE) (σ:yD):List D->Option (List D)
 | []=>some []
 | d::r=>(g d σ).bind fun σ1=>(c σ1).bind fun k=>match k with
  | true=>(e σ1).bind fun x=>(yg g c e σ r).bind fun xs=>some (x::xs)
  | false=>yg g c e σ r
noncomputable def yk:FT:=fun _=>some true
noncomputable def w8 (n:Nat) (it:FA) (g:FG) (c:FT) (e:FE):FE:=fun σ=>(it σ).bind fun ds=>(yg g c e (σ++List.replicate n none) ds).bind fun xs=>some (.lst xs)
noncomputable def yQ (n:Nat) (b:FS) (ds:List D):Option (Bool×D):=(b (ds.map (fun d=>some (false,d))++List.replicate (n - ds.length) none)).bind fun f=>match f with
 | .rt o d=>some (o,d)
 | .nx _=>some (false,.non)
 | _=>none
noncomputable def zX (F:List D->Option (Bool×D)) (a:FA):FE:=fun σ=>(a σ).bind fun ds=>(F ds).bind fun r=>some r.2
noncomputable def ZT (F:List D->Option (Bool×D)) (a:FA):FE:=fun σ=>(a σ).bind fun ds=>(F ds).bind fun r=>match r with
 | (true,d)=>some d
 | _=>none
end L3
namespace L3
open PySem PySem.Spec PyProof.Rows L2
noncomputable abbrev St:=L2.St
noncomputable def Oa (_:PySem.W.Frag) (H:Hp) (a:Addr) (kvs:List (zU×V)):Prop:=Rd H a (.dK kvs)
mutual
noncomputable def zZ (K:PySem.W.Frag) (H:Hp):D->V->Prop
 | .non,v=>v=.non
 | .bl b,v=>v=.bl b
 | .int i,v=>v=.int i
 | .str x,v=>v=.str x/\x.length<=sizeLine
 | .tup ds,v=>∃ a vs,v=.ref a/\yd K H a vs/\Reps K H ds vs/\ds.length<=sizeLine
 | .lst ds,v=>∃ a vs,v=.ref a/\yO K H a vs/\Reps K H ds vs/\ds.length<=sizeLine
 | .dic ks ds,v=>∃ a vs,v=.ref a/\Oa K H a (ks.zip vs)/\ks.length=vs.length/\Reps K H ds vs/\ds.length<=sizeLine
 | .exc x,v=>∃ a C,v=.ref a/\PySem.W.nsIn K mainGlobals x=some (some (.ref C))/\H a=some (.ext (OX a C))
 | .obj x fs ds,v=>∃ a C dx vs,v=.ref a/\PySem.W.nsIn K mainGlobals x=some (some (.ref C))/\H a=some (.ins C dx (fs.zip vs))/\fs.length=vs.length/\Reps K H ds vs
noncomputable def Reps (K:PySem.W.Frag) (H:Hp):List D->List V->Prop
 | [],vs=>vs=[]
 | d::ds,vs=>∃ v r,vs=v::r/\zZ K H d v/\Reps K H ds r
end
section
variable {K:PySem.W.Frag} {G H H':Hp}
theorem Rd.mono {a:Addr} {u:HO} (s:yN H H') (h:Rd H a u):Rd H' a u:=by
 rcases h with h | ⟨o,h⟩
 ·exact .inl (s _ _ h)
 ·exact .inr ⟨o,s _ _ h⟩
theorem wP {a:Addr} {xs:List V} (s:yN H H') (h:yd K H a xs):yd K H' a xs:=by
 rcases h with h | h
 ·exact .inl (Rd.mono s h)
 ·exact .inr h
theorem xR {a:Addr} {xs:List V} (s:yN H H') (h:yO K H a xs):yO K H' a xs:=by
 rcases h with h | h
 ·exact .inl (Rd.mono s h)
 ·exact .inr h
theorem Reps.imp:∀ {ds:List D} {vs:List V},(∀ d∈ds,∀ v,zZ K H d v->zZ K H' d v)->Reps K H ds vs->Reps K H' ds vs
 | [],_,_,h=>h
 | d::ds,vs,f,h=>by
  obtain ⟨v,r,rfl,hv,hr⟩:=h
  exact ⟨v,r,rfl,f d List.mem_cons_self v hv,Reps.imp (fun d' m=>f d' (List.mem_cons_of_mem _ m)) hr⟩
theorem zZ.mono (s:yN H H'):∀ {d:D} {v:V},zZ K H d v->zZ K H' d v:=fun {d}=>by
 refine D.ind (P:=fun d=>∀ v,zZ K H d v->zZ K H' d v) (fun v h=>h) (fun b v h=>h) (fun i v h=>h) (fun x v h=>h) ?_ ?_ ?_ ?_ ?_ d _
 ·rintro xs ih v ⟨a,vs,e,q,r,l⟩
  exact ⟨a,vs,e,wP s q,Reps.imp ih r,l⟩
 ·rintro xs ih v ⟨a,vs,e,q,r,l⟩
  exact ⟨a,vs,e,xR s q,Reps.imp ih r,l⟩
 ·rintro ks xs ih v ⟨a,vs,e,q,z,r,l⟩
  exact ⟨a,vs,e,Rd.mono s q,z,Reps.imp ih r,l⟩
 ·rintro x v ⟨a,C,e,n,h⟩
  exact ⟨a,C,e,n,s _ _ h⟩
 ·rintro x fs xs ih v ⟨a,C,dx,vs,e,n,h,l,r⟩
  exact ⟨a,C,dx,vs,e,n,s _ _ h,l,Reps.imp ih r⟩
theorem Reps.mono (s:yN H H') {ds:List D} {vs:List V} (h:Reps K H ds vs):Reps K H' ds vs:=Reps.imp (fun _ _ _=>zZ.mono s) h
theorem Reps.length:∀ {ds:List D} {vs:List V},Reps K H ds vs->vs.length=ds.length
 | [],_,h=>by cases (show _=[] from h); rfl
 | d::ds,_,h=>by
  obtain ⟨v,r,rfl,_,hr⟩:=h
  rw [List.length_cons,List.length_cons,Reps.length hr]
theorem Reps.get:∀ {ds:List D} {vs:List V} {i:Nat} {d:D},Reps K H ds vs->ds[i]?=some d->∃ v,vs[i]?=some v/\zZ K H d v
 | [],_,_,_,_,e=>by cases e
 | d::ds,_,0,_,h,e=>by
  obtain ⟨v,r,rfl,hv,hr⟩:=h
  cases e
  exact ⟨v,rfl,hv⟩
 | d::ds,_,i+1,d',h,e=>by
  obtain ⟨v,r,rfl,hv,hr⟩:=h
  exact Reps.get (i:=i) hr (by simpa using e)
theorem Reps.at {ds:List D} {vs:List V} {i:Nat} {v:V} (h:Reps K H ds vs) (e:vs[i]?=some v):∃ d,ds[i]?=some d/\zZ K H d v:=by
 have l:=h.length
 have hi:i<ds.length:=by rw [<- l]; exact (List.getElem?_eq_some_iff.mp e).1
 obtain ⟨v',e',r⟩:=h.get (List.getElem?_eq_getElem hi)
 rw [e] at e'
 cases e'
 exact ⟨_,List.getElem?_eq_getElem hi,r⟩
theorem Reps.append:∀ {ds es:List D} {vs us:List V},Reps K H ds vs->Reps K H es us->Reps K H (ds++es) (vs++us)
 | [],_,_,_,h,g=>by cases (show _=[] from h); exact g
 | d::ds,_,_,_,h,g=>by
  obtain ⟨v,r,rfl,hv,hr⟩:=h
  exact ⟨v,_,rfl,hv,Reps.append hr g⟩
theorem Reps.one {d:D} {v:V} (h:zZ K H d v):Reps K H [d] [v]:=⟨v,[],rfl,h,rfl⟩
theorem Reps.take:∀ {ds:List D} {vs:List V} (n:Nat),Reps K H ds vs->Reps K H (ds.take n) (vs.take n)
 | _,_,0,_=>by rw [List.take_zero,List.take_zero]; rfl
 | [],_,n+1,h=>by cases (show _=[] from h); rfl
 | d::ds,_,n+1,h=>by
  obtain ⟨v,r,rfl,hv,hr⟩:=h
  exact ⟨v,_,rfl,hv,Reps.take n hr⟩
theorem Reps.drop:∀ {ds:List D} {vs:List V} (n:Nat),Reps K H ds vs->Reps K H (ds.drop n) (vs.drop n)
 | _,_,0,h=>h
 | [],_,n+1,h=>by cases (show _=[] from h); rfl
 | d::ds,_,n+1,h=>by
  obtain ⟨v,r,rfl,hv,hr⟩:=h
  exact Reps.drop n hr
theorem Reps.ints:∀ {ns:List Int},Reps K H (ns.map D.int) (ns.map V.int)
 | []=>rfl
 | n::ns=>⟨_,_,rfl,rfl,Reps.ints⟩
end
structure zP (G H G' H':Hp):Prop where
 g:yN G G'
 h:yN H H'
 gh:yN G' H'
 new:∀ p,G' p≠none->G p≠none\/H p=none
section
variable {G H G' H' G0 H0 G1 H1 G2 H2:Hp} {p:Addr} {o:HO}
theorem zP.refl (s:yN G H):zP G H G H:=⟨yN.refl _,yN.refl _,s,fun _ h=>.inl h⟩
theorem zP.trans (a:zP G H G1 H1) (b:zP G1 H1 G2 H2):zP G H G2 H2:=⟨a.g.trans b.g,a.h.trans b.h,b.gh,fun p h=>by
 rcases b.new p h with z | z
 ·exact a.new p z
 ·exact .inr (a.h.free z)⟩
theorem zP.rebase (a:zP G0 H0 G1 H1) (b:zP G1 H0 G2 H2):zP G0 H0 G2 H2:=⟨a.g.trans b.g,b.h,b.gh,fun p h=>by
 rcases b.new p h with z | z
 ·exact a.new p z
 ·exact .inr z⟩
theorem zP.far (a:zP G0 H0 G1 H1):zP G1 H0 G1 H1:=⟨yN.refl _,a.h,a.gh,fun _ h=>.inl h⟩
theorem OG {H:Hp} {p q:Addr} {o:HO} (h:zV H p o q≠none):q=p\/H q≠none:=by
 by_cases e:q=p
 ·exact .inl e
 ·rw [zr e] at h
  exact .inr h
theorem YO (s:yN G H):yN (zV G p o) (zV H p o):=fun b u e=>by
 by_cases hb:b=p
 ·subst hb
  rw [yT] at e ⊢
  exact e
 ·rw [zr hb] at e ⊢
  exact s _ _ e
theorem zP.lay (s:yN G H) (h:H p=none):zP G H (zV G p o) (zV H p o):=⟨xm (s.free h) o,xm h o,YO s,fun q z=>by
 rcases OG z with e | e
 ·exact .inr (e ▸ h)
 ·exact .inl e⟩
theorem zP.layO (s:yN G H) (h:H p=none):zP G H G (zV H p o):=⟨yN.refl _,xm h o,s.trans (xm h o),fun _ z=>.inl z⟩
theorem zP.frz (a:zP G H G1 H1) (h:H p=none) (g:G1 p=none) (e:H1 p=some o):zP G H (zV G1 p o) H1:=⟨a.g.trans (xm g o),a.h,fun b u q=>by
 by_cases hb:b=p
 ·subst hb
  rw [yT] at q
  cases q
  exact e
 ·rw [zr hb] at q
  exact a.gh _ _ q,fun q z=>by
 rcases OG z with w | w
 ·exact .inr (w ▸ h)
 ·exact a.new q w⟩
end
noncomputable def wJ (K:PySem.W.Frag) (G H:Hp) (d:D) (p:Addr):Prop:=match d with
 | .lst ds=>∃ vs,H p=some (.lst vs)/\Reps K G ds vs/\ds.length<=sizeLine
 | .dic ks ds=>∃ vs,H p=some (.dK (ks.zip vs))/\ks.length=vs.length/\Reps K G ds vs/\ds.length<=sizeLine
 | _=>False
section
variable {K:PySem.W.Frag} {G H G' H':Hp} {d:D} {p:Addr}
theorem wJ.some (h:wJ K G H d p):H p≠none:=by
 cases d with
 | lst ds=>obtain ⟨vs,e,_⟩:=h; rw [e]; exact fun z=>nomatch z
 | dic ks ds=>obtain ⟨vs,e,_⟩:=h; rw [e]; exact fun z=>nomatch z
 | _=>exact h.elim
theorem wJ.mono (g:yN G G') (h:yN H H') (o:wJ K G H d p):wJ K G' H' d p:=by
 cases d with
 | lst ds=>obtain ⟨vs,e,r,l⟩:=o; exact ⟨vs,h _ _ e,r.mono g,l⟩
 | dic ks ds=>obtain ⟨vs,e,z,r,l⟩:=o; exact ⟨vs,h _ _ e,z,r.mono g,l⟩
 | _=>exact o.elim
theorem wJ.frz (o:wJ K G H d p) (g:G p=none):∃ u,H p=Option.some u/\zZ K (zV G p u) d (.ref p):=by
 cases d with
 | lst ds=>obtain ⟨vs,e,r,l⟩:=o; exact ⟨_,e,p,vs,rfl,yO.of yT,r.mono (xm g _),l⟩
 | dic ks ds=>obtain ⟨vs,e,z,r,l⟩:=o; exact ⟨_,e,p,vs,rfl,.inl yT,z,r.mono (xm g _),l⟩
 | _=>exact o.elim
end
structure zo (K:PySem.W.Frag) (n:Nat) (G0 H0 G H:Hp) (τ:yD) (σ:St):Prop where
 ext:zP G0 H0 G H
 l1:σ.length=n
 l2:τ.length=n
 fr:∀ (i:Nat) (d:D),τ[i]?=some (some (false,d))->∃ v,σ[i]?=some (some v)/\zZ K G d v
 ow:∀ (i:Nat) (d:D),τ[i]?=some (some (true,d))->∃ p,σ[i]?=some (some (V.ref p))/\G p=none/\H0 p=none/\wJ K G H d p
 ap:∀ (i j:Nat) (d e:D) (p:Addr),i≠j->τ[i]?=some (some (true,d))->τ[j]?=some (some (true,e))->σ[i]?=some (some (V.ref p))->σ[j]?=some (some (V.ref p))->False
section
variable {K:PySem.W.Frag} {n:Nat} {G0 H0 G H G' H':Hp} {τ:yD} {σ:St}
theorem zo.go (E:zo K n G0 H0 G H τ σ) (x:zP G H G' H'):zo K n G0 H0 G' H' τ σ:=⟨E.ext.trans x,E.l1,E.l2,fun i d h=>by
 obtain ⟨v,e,r⟩:=E.fr i d h
 exact ⟨v,e,r.mono x.g⟩,fun i d h=>by
 obtain ⟨p,e,g,z,o⟩:=E.ow i d h
 refine ⟨p,e,?_,z,o.mono x.g x.h⟩
 cases q:G' p with
 | none=>rfl
 | some u=>
  rcases x.new p (by rw [q]; exact fun z=>nomatch z) with w | w
  ·exact absurd g w
  ·exact absurd w o.some,E.ap⟩
theorem zo.far (E:zo K n G0 H0 G H τ σ):zo K n G H0 G H τ σ:=⟨E.ext.far,E.l1,E.l2,E.fr,E.ow,E.ap⟩
theorem zo.near {Ga Ha:Hp} (a:zP G0 H0 Ga Ha) (E:zo K n Ga H0 G H τ σ):zo K n G0 H0 G H τ σ:=⟨a.rebase E.ext,E.l1,E.l2,E.fr,E.ow,E.ap⟩
theorem zo.lt {i:Nat} {s:Option Sl} (E:zo K n G0 H0 G H τ σ) (h:τ[i]?=some s):i<n:=by
 rw [<- E.l2]
 exact (List.getElem?_eq_some_iff.mp h).1
theorem wd {α:Type} {xs:List α} {i j:Nat} {x y:α} (h:(xs.set i x)[j]?=some y):(j=i/\y=x)\/(j≠i/\xs[j]?=some y):=by
 rw [List.getElem?_set] at h
 by_cases e:i=j
 ·subst e
  rw [if_pos rfl] at h
  split at h
  ·cases h; exact .inl ⟨rfl,rfl⟩
  ·cases h
 ·rw [if_neg e] at h
  exact .inr ⟨fun z=>e z.symm,h⟩
theorem gm {α:Type} {xs:List α} {i:Nat} {x:α} (h:i<xs.length):(xs.set i x)[i]?=some x:=by rw [List.getElem?_set,if_pos rfl,if_pos h]
theorem uG {α:Type} {xs:List α} {i j:Nat} {x:α} (h:j≠i):(xs.set i x)[j]?=xs[j]?:=by rw [List.getElem?_set,if_neg (fun z=>h z.symm)]
theorem zo.set {i:Nat} {d:D} {v:V} (E:zo K n G0 H0 G H τ σ) (hi:i<n) (r:zZ K G d v):zo K n G0 H0 G H (τ.set i (some (false,d))) (σ.set i (some v)):=⟨E.ext,by rw [List.length_set]; exact E.l1,by rw [List.length_set]; exact E.l2,fun j e h=>by
 rcases wd h with ⟨rfl,z⟩ | ⟨ne,z⟩
 ·cases z
  exact ⟨v,gm (by rw [E.l1]; exact hi),r⟩
 ·rw [uG ne]
  exact E.fr j e z,fun j e h=>by
 rcases wd h with ⟨rfl,z⟩ | ⟨ne,z⟩
 ·cases z
 ·rw [uG ne]
  exact E.ow j e z,fun j k e f p hne h1 h2=>by
 rcases wd h1 with ⟨rfl,z⟩ | ⟨ne,z⟩
 ·cases z
 ·rcases wd h2 with ⟨rfl,z'⟩ | ⟨ne',z'⟩
  ·cases z'
  ·rw [uG ne,uG ne']
   exact E.ap j k e f p hne z z'⟩
theorem zo.setO {i:Nat} {d:D} {p:Addr} (E:zo K n G0 H0 G H τ σ) (hi:i<n) (hg:G p=none) (h0:H0 p=none) (o:wJ K G H d p) (hn:∀ (j:Nat) (e:D),j≠i->τ[j]?=some (some (true,e))->σ[j]?=some (some (V.ref p))->False) :
  zo K n G0 H0 G H (τ.set i (some (true,d))) (σ.set i (some (.ref p))):=⟨E.ext,by rw [List.length_set]; exact E.l1,by rw [List.length_set]; exact E.l2,fun j e h=>by
 rcases wd h with ⟨rfl,z⟩ | ⟨ne,z⟩
 ·cases z
 ·rw [uG ne]
  exact E.fr j e z,fun j e h=>by
 rcases wd h with ⟨rfl,z⟩ | ⟨ne,z⟩
 ·cases z
  exact ⟨p,gm (by rw [E.l1]; exact hi),hg,h0,o⟩
 ·rw [uG ne]
  exact E.ow j e z,fun j k e f q hne h1 h2 h3 h4=>by
 rcases wd h1 with ⟨rfl,z⟩ | ⟨ne,z⟩
 ·rcases wd h2 with ⟨rfl,z'⟩ | ⟨ne',z'⟩
  ·exact hne rfl
  ·rw [gm (by rw [E.l1]; exact hi)] at h3
   rw [uG ne'] at h4
   cases h3
   exact hn k f ne' z' h4
 ·rcases wd h2 with ⟨rfl,z'⟩ | ⟨ne',z'⟩
  ·rw [gm (by rw [E.l1]; exact hi)] at h4
   rw [uG ne] at h3
   cases h4
   exact hn j e ne z h3
  ·rw [uG ne] at h3
   rw [uG ne'] at h4
   exact E.ap j k e f q hne z z' h3 h4⟩
theorem zo.newO {i:Nat} {p:Addr} (E:zo K n G0 H0 G H τ σ) (hp:H p=none):∀ (j:Nat) (e:D),j≠i->τ[j]?=some (some (true,e))->σ[j]?=some (some (V.ref p))->False:=fun j e _ h1 h2=>by
 obtain ⟨q,e1,_,_,o⟩:=E.ow j e h1
 rw [h2] at e1
 cases e1
 exact o.some hp
theorem zo.freeze {i:Nat} {b:Bool} {d:D} (E:zo K n G0 H0 G H τ σ) (hi:τ[i]?=some (some (b,d))):∃ G',zo K n G0 H0 G' H (τ.set i (some (false,d))) σ/\yN G G':=by
 have hin:=E.lt hi
 cases b with
 | false=>
  refine ⟨G,?_,yN.refl _⟩
  have e:τ.set i (some (false,d))=τ:=by
   apply List.ext_getElem?
   intro j
   by_cases hj:j=i
   ·subst hj; rw [gm (by rw [E.l2]; exact hin),hi]
   ·rw [uG hj]
  rw [e]
  exact E
 | true=>
  obtain ⟨p,e,g,z,o⟩:=E.ow i d hi
  obtain ⟨u,hu,r⟩:=o.frz g
  have x:zP G0 H0 (zV G p u) H:=E.ext.frz z g hu
  refine ⟨zV G p u,⟨x,E.l1,by rw [List.length_set]; exact E.l2,fun j d' h=>?_,fun j d' h=>?_,fun j k e1 f q hne h1 h2=>?_⟩,xm g _⟩
  ·rcases wd h with ⟨rfl,w⟩ | ⟨ne,w⟩
   ·cases w
    exact ⟨_,e,r⟩
   ·obtain ⟨v,e',r'⟩:=E.fr j d' w
    exact ⟨v,e',r'.mono (xm g _)⟩
  ·rcases wd h with ⟨rfl,w⟩ | ⟨ne,w⟩
   ·cases w
   ·obtain ⟨q,e',g',z',o'⟩:=E.ow j d' w
    refine ⟨q,e',?_,z',o'.mono (xm g _) (yN.refl _)⟩
    rw [zr (fun c=>?_)]
    ·exact g'
    ·subst c
     exact E.ap i j d d' q (fun c=>ne c.symm) hi w e e'
  ·rcases wd h1 with ⟨rfl,w⟩ | ⟨ne,w⟩
   ·cases w
   ·rcases wd h2 with ⟨rfl,w'⟩ | ⟨ne',w'⟩
    ·cases w'
    ·exact E.ap j k e1 f q hne w w'
end
section
variable (X:Cx)
structure SE (e:Expr) (f:FE):Prop where
 h:∃ t,PE X e t/\∀ {G0 H0 G H:Hp} {τ:yD} {σ:St} {d:D} {Q:VK},zo X.K X.N.length G0 H0 G H τ σ->f τ=some d->(∀ v G' H',zP G H G' H'->zZ X.K G' d v->Q v H')->t σ H Q
structure SB (e:Expr) (f:FE):Prop where
 h:∃ t,PE X e t/\∀ {G0 H0 G H:Hp} {τ:yD} {σ:St} {d:D} {Q:VK},zo X.K X.N.length G0 H0 G H τ σ->f τ=some d->(∀ v G' H',zP G H G' H'->zZ X.K H' d v->Q v H')->t σ H Q
structure SF (e:Expr) (f:FE):Prop where
 h:∃ t,PE X e t/\∀ {G0 H0 G H:Hp} {τ:yD} {σ:St} {d:D} {Q:VK},zo X.K X.N.length G0 H0 G H τ σ->f τ=some d->(∀ p G' H',zP G H G' H'->H p=none->G' p=none->wJ X.K G' H' d p->Q (.ref p) H')->t σ H Q
structure ST (e:Expr) (f:FT):Prop where
 h:∃ t,PT X e t/\∀ {G0 H0 G H:Hp} {τ:yD} {σ:St} {d:Bool} {Q:Bool->Hp->Prop},zo X.K X.N.length G0 H0 G H τ σ->f τ=some d->(∀ G' H',zP G H G' H'->Q d H')->t σ H Q
structure SW (e:Expr) (f:FT):Prop where
 h:∃ t,PW X e t/\∀ {G0 H0 G H:Hp} {τ:yD} {σ:St} {d:Bool} {Q:Bool->Hp->Prop},zo X.K X.N.length G0 H0 G H τ σ->f τ=some d->(∀ G' H',zP G H G' H'->Q d H')->t σ H Q
structure SA (es:List Expr) (f:FA):Prop where
 h:∃ t,PA X es t/\∀ {G0 H0 G H:Hp} {τ:yD} {σ:St} {ds:List D} {Q:List V->Hp->Prop},zo X.K X.N.length G0 H0 G H τ σ->f τ=some ds->(∀ vs G' H',zP G H G' H'->Reps X.K G' ds vs->Q vs H')->t σ H Q
structure gP (es:List Expr) (f:FA):Prop where
 h:∃ t,PA X es t/\∀ {G0 H0 G H:Hp} {τ:yD} {σ:St} {ds:List D} {Q:List V->Hp->Prop},zo X.K X.N.length G0 H0 G H τ σ->f τ=some ds->(∀ vs G' H',zP G H G' H'->Reps X.K H' ds vs->Q vs H')->t σ H Q
end
noncomputable def wH (K:PySem.W.Frag) (n:Nat) (G0 H0:Hp) (E:v4):Fl->Prop
 | .nx τ=>∀ σ G H,zo K n G0 H0 G H τ σ->E.nx σ H
 | .bk τ=>∀ σ G H,zo K n G0 H0 G H τ σ->E.bk σ H
 | .ct τ=>∀ σ G H,zo K n G0 H0 G H τ σ->E.ct σ H
 | .rt false d=>∀ v G H,zP G0 H0 G H->zZ K G d v->E.rt v H
 | .rt true d=>∀ p G H,zP G0 H0 G H->H0 p=none->G p=none->wJ K G H d p->E.rt (.ref p) H
section
variable (X:Cx)
structure SS (st:Stmt) (f:FS):Prop where
 h:∃ t,PS X st t/\∀ {G0 H0 G H:Hp} {τ:yD} {σ:St} {fl:Fl} {E:v4},zo X.K X.N.length G0 H0 G H τ σ->f τ=some fl->wH X.K X.N.length G0 H0 E fl->t E σ H
structure wj (st:List Stmt) (f:FS):Prop where
 h:∃ t,wW X st t/\∀ {G0 H0 G H:Hp} {τ:yD} {σ:St} {fl:Fl} {E:v4},zo X.K X.N.length G0 H0 G H τ σ->f τ=some fl->wH X.K X.N.length G0 H0 E fl->t E σ H
end
structure vp (K:PySem.W.Frag) (J:It) (G:Hp) (ds:List D):Prop where
 go:∀ i G2 H,yN G G2->yN G2 H->i<ds.length->J.go i H
 yld:∀ i G2 H x H',yN G G2->yN G2 H->i<ds.length->J.yld i H x H'->∃ G3 d,zP G2 H G3 H'/\ds[i]?=some d/\zZ K G3 d x
 stop:∀ i G2 H,yN G G2->yN G2 H->ds.length<=i->J.stop i H
structure SI (X:Cx) (tg iter:Expr) (f:FA):Prop where
 h:∃ wi,PI X tg iter wi/\∀ {G0 H0 G H:Hp} {τ:yD} {σ:St} {ds:List D} {R:It->Hp->Prop},zo X.K X.N.length G0 H0 G H τ σ->f τ=some ds->(∀ J G' H',zP G H G' H'->ds.length<=sizeLine->vp X.K J G' ds->R J H')->wi σ H R
noncomputable def yJ (K:PySem.W.Frag) (F:List D->Option (Bool×D)):Sp:=fun vs H Q _=>∃ G ds o d,yN G H/\Reps K G ds vs/\F ds=some (o,d)/\
 match o with
 | false=>∀ v G' H',zP G H G' H'->zZ K G' d v->Q v H'
 | true=>∀ p G' H',zP G H G' H'->H p=none->G' p=none->wJ K G' H' d p->Q (.ref p) H'
end L3
namespace L3
open PySem PySem.Spec PyProof.Rows L2
theorem zM {α β:Type} {o:Option α} {f:α->Option β} {b:β} (h:o.bind f=some b):∃ a,o=some a/\f a=some b:=by
 cases o with
 | none=>cases h
 | some a=>exact ⟨a,rfl,h⟩
theorem Tq {i:Nat} {τ:yD} {d:D} (h:z6 i τ=some d):τ[i]?=some (some (false,d)):=by
 unfold z6 at h
 split at h
 ·rename_i e
  cases h
  exact e
 ·cases h
theorem Tp {i:Nat} {τ:yD} {d:D} (h:uE i τ=some d):∃ b,τ[i]?=some (some (b,d)):=by
 unfold uE at h
 split at h
 ·rename_i b d' e
  cases h
  exact ⟨_,e⟩
 ·cases h
section
variable {X:Cx} {x:Str} {p pos apos cpos p2:Pos} {e a b c o:Expr} {es rest:List Expr} {f fa fb fc:FE} {ft fu:FT} {fs:FA} {F:D->D->Option D} {r:R2}
theorem SE.sb (h:SE X e f):SB X e f:=⟨let ⟨t,p,k⟩:=h.h; ⟨t,p,fun E hf q=>k E hf fun v G' H' x r=>q v G' H' x (r.mono x.gh)⟩⟩
theorem SF.se (h:SF X e f):SE X e f:=⟨let ⟨t,p,k⟩:=h.h; ⟨t,p,fun E hf q=>k E hf fun p G' H' x hp gp o=>by
 obtain ⟨u,hu,r⟩:=o.frz gp
 exact q _ _ _ (x.frz hp gp hu) r⟩⟩
theorem zE (h:SE X e f):SB X e f:=h.sb
theorem yj (h:SF X e f):SE X e f:=h.se
theorem z7 (i:Nat) {x:Str} {pos:Pos} (hN:X.N[i]?=some x:=by rfl) (hv:uB X.env.scope x:=by first | exact Or.inl rfl | exact Or.inr (Or.inl rfl) | exact Or.inr (Or.inr rfl)) (hd:(x == ("__debug__" : Str))=false:=by decide)
  (hcd:(x == ("__classdict__" : Str))=false:=by decide):SE X (.Name x pos) (z6 i):=⟨⟨_,ja hN hv hd hcd,fun E hf q=>by
 obtain ⟨v,e,r⟩:=E.fr _ _ (Tq hf)
 exact ⟨v,e,q v _ _ (zP.refl E.ext.gh) r⟩⟩⟩
theorem kX {v:V} {d:D} (h:PE X e (tC v)) (r:∀ H,zZ X.K H d v):SE X e (eC d):=⟨⟨_,h,fun E hf q=>by
 cases hf
 exact q v _ _ (zP.refl E.ext.gh) (r _)⟩⟩
theorem zB {i k pos}:SE X (.Constant (.int i) k pos) (eC (.int i)):=kX JP fun _=>rfl
theorem Ek {i k pos}:SE X (.Constant (.bool i) k pos) (eC (.bl i)):=kX FZ fun _=>rfl
theorem xg {k pos}:SE X (.Constant .none k pos) (eC .non):=kX Fo fun _=>rfl
theorem zO {x k pos} (h:x.length<=1000:=by decide):SE X (.Constant (.str x) k pos) (eC (.str x)):=kX Fr fun _=>⟨rfl,small h⟩
theorem pX {v:V} {d:D} (h:yt X.mg x v) (r:∀ H,zZ X.K H d v) (hg:Gl X x) (hd:(x == ("__debug__" : Str))=false:=by decide):SE X (.Name x pos) (eC d):=kX (kI h hg hd) r
noncomputable def wI (K:PySem.W.Frag) (r:R2) (F:D->D->Option D):Prop:=∀ G H x y u v d (Q:VK),yN G H->zZ K G x u->zZ K G y v->F x y=some d->(∀ w G' H',zP G H G' H'->zZ K G' d w->Q w H')->r u v H Q
noncomputable def u8 (K:PySem.W.Frag) (r:R2) (F:D->D->Option D):Prop:=∀ H x y u v d (Q:VK),zZ K H x u->zZ K H y v->F x y=some d->∃ k,d=.bl k/\(Q (.bl k) H->r u v H Q)
theorem zG {op:Operator} (ho:yP X (binaryOp op) r) (hF:wI X.K r F) (ha:SE X a fa) (hb:SE X b fb):SE X (.BinOp a op b pos) (e2 F fa fb):=by
 obtain ⟨ta,pa,ka⟩:=ha.h
 obtain ⟨tb,pb,kb⟩:=hb.h
 refine ⟨⟨_,JR ho pa pb,fun E hf q=>?_⟩⟩
 obtain ⟨x,hx,hf⟩:=zM hf
 obtain ⟨y,hy,hf⟩:=zM hf
 refine ka E hx fun v G1 H1 x1 r1=>?_
 refine kb (E.go x1) hy fun u G2 H2 x2 r2=>?_
 exact hF G2 H2 x y v u _ _ x2.gh (r1.mono x2.g) r2 hf fun w G' H' x3 r3=>q w G' H' (x1.trans (x2.trans x3)) r3
theorem zc (hr:vU X r) (hF:wI X.K r F) (ha:SE X a fa) (hb:SE X b fb) (hs:jb b=true:=by rfl):SE X (.Subscript a b pos) (e2 F fa fb):=by
 obtain ⟨ta,pa,ka⟩:=ha.h
 obtain ⟨tb,pb,kb⟩:=hb.h
 refine ⟨⟨_,VU hr pa pb (VX hs),fun E hf q=>?_⟩⟩
 obtain ⟨x,hx,hf⟩:=zM hf
 obtain ⟨y,hy,hf⟩:=zM hf
 refine ka E hx fun v G1 H1 x1 r1=>?_
 refine kb (E.go x1) hy fun u G2 H2 x2 r2=>?_
 exact hF G2 H2 x y v u _ _ x2.gh (r1.mono x2.g) r2 hf fun w G' H' x3 r3=>q w G' H' (x1.trans (x2.trans x3)) r3
theorem uw {op:CmpOp} (ho:yP X (compareOp op) r) (hF:u8 X.K r F) (ha:SB X a fa) (hb:SB X b fb) (hm:behindInMarks op b=false):SE X (.Compare a [op] [b] pos) (e2 F fa fb):=by
 obtain ⟨ta,pa,ka⟩:=ha.h
 obtain ⟨tb,pb,kb⟩:=hb.h
 refine ⟨⟨_,Fh ho pa pb hm,fun E hf q=>?_⟩⟩
 obtain ⟨x,hx,hf⟩:=zM hf
 obtain ⟨y,hy,hf⟩:=zM hf
 refine ka E hx fun v G1 H1 x1 r1=>?_
 refine kb (E.go x1) hy fun u G2 H2 x2 r2=>?_
 obtain ⟨k,rfl,z⟩:=hF H2 x y v u _ _ (r1.mono x2.h) r2 hf
 exact z (q _ _ _ (x1.trans x2) rfl)
theorem zh {op:CmpOp} (ho:yP X (compareOp op) r) (hF:u8 X.K r F) (ha:SB X a fa) (hb:SB X b fb) (hm:behindInMarks op b=false):ST X (.Compare a [op] [b] pos) (tE (e2 F fa fb)):=by
 obtain ⟨ta,pa,ka⟩:=ha.h
 obtain ⟨tb,pb,kb⟩:=hb.h
 refine ⟨⟨_,Ce ho pa pb hm,fun E hf q=>?_⟩⟩
 obtain ⟨z,hz,hf⟩:=zM hf
 obtain ⟨x,hx,hz⟩:=zM hz
 obtain ⟨y,hy,hz⟩:=zM hz
 refine ka E hx fun v G1 H1 x1 r1=>?_
 refine kb (E.go x1) hy fun u G2 H2 x2 r2=>?_
 obtain ⟨k,rfl,z⟩:=hF H2 x y v u _ _ (r1.mono x2.h) r2 hz
 cases hf
 exact z ⟨_,rfl,q _ _ (x1.trans x2)⟩
theorem pf (h:SE X e f) (he:JV e=true:=by rfl):ST X e (tE f):=by
 obtain ⟨t,p,k⟩:=h.h
 refine ⟨⟨_,Cg p (CJ he),fun E hf q=>?_⟩⟩
 obtain ⟨z,hz,hf⟩:=zM hf
 refine k E hz fun v G' H' x r=>?_
 cases z<;>first | cases hf | skip
 cases r
 exact ⟨_,rfl,q _ _ x⟩
theorem Ul (h:ST X a ft):SW X (.BoolOp .And [a] pos) ft:=⟨let ⟨t,p,k⟩:=h.h; ⟨t,Cm p,k⟩⟩
theorem jt (h:ST X a ft):SW X (.BoolOp .Or [a] pos) ft:=⟨let ⟨t,p,k⟩:=h.h; ⟨t,Co p,k⟩⟩
theorem YX (ha:ST X a ft) (hb:SW X (.BoolOp .And (b::rest) pos) fu):SW X (.BoolOp .And (a::b::rest) pos) (ju ft fu):=by
 obtain ⟨ta,pa,ka⟩:=ha.h
 obtain ⟨tb,pb,kb⟩:=hb.h
 refine ⟨⟨_,Cl pa pb,fun E hf q=>?_⟩⟩
 obtain ⟨k,hk,hf⟩:=zM hf
 refine ka E hk fun G1 H1 x1=>?_
 cases k with
 | true=>exact qM (kb (E.go x1) hf fun G' H' x2=>q _ _ (x1.trans x2))
 | false=>cases hf; exact qL (q _ _ x1)
theorem jq (ha:ST X a ft) (hb:SW X (.BoolOp .Or (b::rest) pos) fu):SW X (.BoolOp .Or (a::b::rest) pos) (uz ft fu):=by
 obtain ⟨ta,pa,ka⟩:=ha.h
 obtain ⟨tb,pb,kb⟩:=hb.h
 refine ⟨⟨_,Cn pa pb,fun E hf q=>?_⟩⟩
 obtain ⟨k,hk,hf⟩:=zM hf
 refine ka E hk fun G1 H1 x1=>?_
 cases k with
 | false=>exact qL (kb (E.go x1) hf fun G' H' x2=>q _ _ (x1.trans x2))
 | true=>cases hf; exact qM (q _ _ x1)
theorem tS (h:SW X e ft):ST X e ft:=⟨let ⟨t,p,k⟩:=h.h; ⟨t,p.pt,k⟩⟩
theorem Iu (h:ST X a ft):ST X (.UnaryOp .Not a pos) (YZ ft):=by
 obtain ⟨ta,pa,ka⟩:=h.h
 refine ⟨⟨_,Cf pa,fun E hf q=>?_⟩⟩
 obtain ⟨k,hk,hf⟩:=zM hf
 cases hf
 exact ka E hk fun G1 H1 x1=>q _ _ x1
theorem Et {op} (h:SE X a f):SE X (.BoolOp op [a] pos) f:=⟨let ⟨t,p,k⟩:=h.h; ⟨t,Fp p,k⟩⟩
theorem ED {K:PySem.W.Frag} {G:Hp} {z:D} {v:V} {k:Bool} (r:zZ K G z v) (h:qm z=some k):v=.bl k:=by
 cases z<;>first | cases h | skip
 exact r
theorem IW (ha:SE X a fa) (hb:SE X (.BoolOp .And (b::rest) pos) fb):SE X (.BoolOp .And (a::b::rest) pos) (ZS fa fb):=by
 obtain ⟨ta,pa,ka⟩:=ha.h
 obtain ⟨tb,pb,kb⟩:=hb.h
 refine ⟨⟨_,FY pa pb,fun E hf q=>?_⟩⟩
 obtain ⟨z,hz,hf⟩:=zM hf
 obtain ⟨k,hk,hf⟩:=zM hf
 refine ka E hz fun v G1 H1 x1 r1=>⟨k,ED r1 hk,?_⟩
 cases k with
 | true=>exact qM (kb (E.go x1) hf fun v G' H' x2 r2=>q v _ _ (x1.trans x2) r2)
 | false=>cases hf; exact qL (q _ _ _ x1 rfl)
theorem qT (hc:ST X c ft) (ha:SE X a fa) (hb:SE X b fb):SE X (.IfExp c a b pos) (uh ft fa fb):=by
 obtain ⟨tc,pc,kc⟩:=hc.h
 obtain ⟨ta,pa,ka⟩:=ha.h
 obtain ⟨tb,pb,kb⟩:=hb.h
 refine ⟨⟨_,Fk pc pa pb,fun E hf q=>?_⟩⟩
 obtain ⟨k,hk,hf⟩:=zM hf
 refine kc E hk fun G1 H1 x1=>?_
 cases k with
 | true=>exact qM (ka (E.go x1) hf fun v G' H' x2 r2=>q v _ _ (x1.trans x2) r2)
 | false=>exact qL (kb (E.go x1) hf fun v G' H' x2 r2=>q v _ _ (x1.trans x2) r2)
theorem zK:SA X [] zD:=⟨⟨_,jZ,fun E hf q=>by cases hf; exact q _ _ _ (zP.refl E.ext.gh) rfl⟩⟩
theorem zA (ha:SE X e f) (hr:SA X es fs) (h:yi e=true:=by rfl):SA X (e::es) (z8 f fs):=by
 obtain ⟨ta,pa,ka⟩:=ha.h
 obtain ⟨tb,pb,kb⟩:=hr.h
 refine ⟨⟨_,kH pa pb h,fun E hf q=>?_⟩⟩
 obtain ⟨x,hx,hf⟩:=zM hf
 obtain ⟨xs,hxs,hf⟩:=zM hf
 cases hf
 refine ka E hx fun v G1 H1 x1 r1=>kb (E.go x1) hxs fun vs G2 H2 x2 r2=>?_
 exact q _ _ _ (x1.trans x2) ⟨v,vs,rfl,r1.mono x2.g,r2⟩
theorem yr:gP X [] zD:=⟨⟨_,jZ,fun E hf q=>by cases hf; exact q _ _ _ (zP.refl E.ext.gh) rfl⟩⟩
theorem ym (ha:SB X e f) (hr:gP X es fs) (h:yi e=true:=by rfl):gP X (e::es) (z8 f fs):=by
 obtain ⟨ta,pa,ka⟩:=ha.h
 obtain ⟨tb,pb,kb⟩:=hr.h
 refine ⟨⟨_,kH pa pb h,fun E hf q=>?_⟩⟩
 obtain ⟨x,hx,hf⟩:=zM hf
 obtain ⟨xs,hxs,hf⟩:=zM hf
 cases hf
 refine ka E hx fun v G1 H1 x1 r1=>kb (E.go x1) hxs fun vs G2 H2 x2 r2=>?_
 exact q _ _ _ (x1.trans x2) ⟨v,vs,rfl,r1.mono x2.h,r2⟩
theorem ES {is:List Int} (h:intsOf es=some is):SA X es (fun _=>some (is.map D.int)):=⟨⟨_,JK h,fun E hf q=>by cases hf; exact q _ _ _ (zP.refl E.ext.gh) Reps.ints⟩⟩
theorem y_ {x1} (h:SA X es fs) (hl:∀ τ ds,fs τ=some ds->ds.length<=1000):SE X (.Tuple es x1 pos) (yX fs):=by
 obtain ⟨t,pt,k⟩:=h.h
 refine ⟨⟨_,Fs pt,fun E hf q=>?_⟩⟩
 obtain ⟨xs,hx,hf⟩:=zM hf
 cases hf
 have l:xs.length<=sizeLine:=small (hl _ _ hx)
 refine k E hx fun vs G1 H1 x1 r1=>⟨by rw [r1.length]; exact l,fun p hp=>?_⟩
 exact q _ _ _ (x1.trans (zP.lay x1.gh hp)) ⟨p,vs,rfl,yd.of yT,r1.mono (xm (x1.gh.free hp) _),l⟩
theorem yo (h:SA X es fs) (hl:∀ τ ds,fs τ=some ds->ds.length<=1000):SF X (.List es pos) (yb fs):=by
 obtain ⟨t,pt,k⟩:=h.h
 refine ⟨⟨_,Fm pt,fun E hf q=>?_⟩⟩
 obtain ⟨xs,hx,hf⟩:=zM hf
 cases hf
 have l:xs.length<=sizeLine:=small (hl _ _ hx)
 refine k E hx fun vs G1 H1 x1 r1=>⟨by rw [r1.length]; exact l,fun p hp=>?_⟩
 exact q _ _ _ (x1.trans (zP.layO x1.gh hp)) (x1.h.free hp) (x1.gh.free hp) ⟨vs,yT,r1,l⟩
theorem zx:∀ (τ:yD) ds,zD τ=some ds->ds.length<=0:=fun _ _ h=>by cases h; exact Nat.le_refl _
theorem zJ {n:Nat} (h:∀ τ ds,fs τ=some ds->ds.length<=n):∀ τ ds,z8 f fs τ=some ds->ds.length<=n+1:=fun τ ds e=>by
 obtain ⟨x,_,e⟩:=zM e
 obtain ⟨xs,hx,e⟩:=zM e
 cases e
 exact Nat.succ_le_succ (h _ _ hx)
theorem Og {is:List Int} {n:Nat} (h:is.length<=n):∀ (τ:yD) ds,(some (is.map D.int))=some ds->ds.length<=n:=fun _ _ e=>by
 cases e
 rw [List.length_map]
 exact h
theorem zw {m n:Nat} (h:∀ τ ds,fs τ=some ds->ds.length<=m) (hmn:m<=n):∀ τ ds,fs τ=some ds->ds.length<=n:=fun τ ds e=>Nat.le_trans (h τ ds e) hmn
variable {ps:List Str} {j k:Nat} {FF:List D->Option (Bool×D)} {FL:List D->Option D} {id T:String}
theorem Ic (h:yG X.prog X.w X.K X.mg X.base x ps k (yJ X.K FF)) (hr:xH j X.A) (hg:Gl X x) (ha:SA X (e::es) fs) (hk:k<=j:=by decide) (hdb:(x == ("__debug__" : Str))=false:=by decide)
  (he:(e::es).all yi=true:=by rfl):SF X (.Call (.Name x p) (e::es) [] pos) (ZT FF fs):=by
 obtain ⟨t,pt,kt⟩:=ha.h
 refine ⟨⟨_,JS h hr hg pt hk hdb he,fun E hf q=>?_⟩⟩
 obtain ⟨ds,hd,hf⟩:=zM hf
 obtain ⟨⟨o,d⟩,hr,hf⟩:=zM hf
 cases o with
 | false=>cases hf
 | true=>
  cases hf
  refine kt E hd fun vs G1 H1 x1 r1=>⟨G1,ds,true,_,x1.gh,by rw [List.append_nil]; exact r1,hr,fun p G' H' x2 hp gp o=>?_⟩
  exact q p G' H' (x1.trans x2) (x1.h.free hp) gp o
theorem zf (h:yG X.prog X.w X.K X.mg X.base x ps k (yJ X.K FF)) (hr:xH j X.A) (hg:Gl X x) (ha:SA X (e::es) fs) (hk:k<=j:=by decide) (hdb:(x == ("__debug__" : Str))=false:=by decide)
  (he:(e::es).all yi=true:=by rfl):SE X (.Call (.Name x p) (e::es) [] pos) (zX FF fs):=by
 obtain ⟨t,pt,kt⟩:=ha.h
 refine ⟨⟨_,JS h hr hg pt hk hdb he,fun E hf q=>?_⟩⟩
 obtain ⟨ds,hd,hf⟩:=zM hf
 obtain ⟨⟨o,d⟩,hr,hf⟩:=zM hf
 cases hf
 refine kt E hd fun vs G1 H1 x1 r1=>⟨G1,ds,o,d,x1.gh,by rw [List.append_nil]; exact r1,hr,?_⟩
 cases o with
 | false=>exact fun v G' H' x2 r=>q v G' H' (x1.trans x2) r
 | true=>
  intro p G' H' x2 hp gp o
  obtain ⟨u,hu,r⟩:=o.frz gp
  exact q _ _ _ (x1.trans (x2.frz hp gp hu)) r
noncomputable def qh (K:PySem.W.Frag) (r:List V->Hp->VK->Prop) (F:List D->Option D):Prop:=∀ G H ds vs d (Q:VK),yN G H->Reps K H ds vs->F ds=some d->(∀ w G' H',zP G H G' H'->zZ K G' d w->Q w H')->r vs H Q
noncomputable def T2 (K:PySem.W.Frag) (r:List V->Hp->VK->Prop) (F:List D->Option D):Prop:=∀ G H ds vs d (Q:VK),yN G H->Reps K G ds vs->F ds=some d->(∀ w G' H',zP G H G' H'->zZ K G' d w->Q w H')->r vs H Q
theorem xy {rc:List V->Hp->VK->Prop} (hc:xT X (.builtin id) rc) (hF:qh X.K rc FL) (hg:Gl X x) (hm:X.mg x=none) (hv:bootBuiltins x=some (.builtin id)) (ha:gP X (e::es) fs) (hn:x ≠ "__name__" := by decide) (hdb:(x == ("__debug__" : Str))=false:=by decide)
  (he:(e::es).all yi=true:=by rfl):SE X (.Call (.Name x p) (e::es) [] pos) (eL FL fs):=by
 obtain ⟨t,pt,kt⟩:=ha.h
 refine ⟨⟨_,(Vc hc hg hm hv ⟨pt⟩ hn hdb he).h,fun E hf q=>?_⟩⟩
 obtain ⟨ds,hd,hf⟩:=zM hf
 exact kt E hd fun vs G1 H1 x1 r1=>hF G1 H1 ds vs _ _ x1.gh r1 hf fun w G' H' x2 r2=>q w G' H' (x1.trans x2) r2
theorem u1 {rc:List V->Hp->VK->Prop} (hc:xT X (.type T) rc) (hF:qh X.K rc FL) (hg:Gl X x) (hm:X.mg x=none) (hv:bootBuiltins x=some (.type T)) (ha:gP X (e::es) fs) (hn:x ≠ "__name__" := by decide) (hdb:(x == ("__debug__" : Str))=false:=by decide)
  (he:(e::es).all yi=true:=by rfl):SE X (.Call (.Name x p) (e::es) [] pos) (eL FL fs):=by
 obtain ⟨t,pt,kt⟩:=ha.h
 refine ⟨⟨_,(YI hc hg hm hv ⟨pt⟩ hn hdb he).h,fun E hf q=>?_⟩⟩
 obtain ⟨ds,hd,hf⟩:=zM hf
 exact kt E hd fun vs G1 H1 x1 r1=>hF G1 H1 ds vs _ _ x1.gh r1 hf fun w G' H' x2 r2=>q w G' H' (x1.trans x2) r2
theorem El {rc:List V->Hp->VK->Prop} (hc:xT X (.type T) rc) (hF:T2 X.K rc FL) (hg:Gl X x) (hm:X.mg x=none) (hv:bootBuiltins x=some (.type T)) (ha:SA X (e::es) fs) (hn:x ≠ "__name__" := by decide) (hdb:(x == ("__debug__" : Str))=false:=by decide)
  (he:(e::es).all yi=true:=by rfl):SE X (.Call (.Name x p) (e::es) [] pos) (eL FL fs):=by
 obtain ⟨t,pt,kt⟩:=ha.h
 refine ⟨⟨_,(YI hc hg hm hv ⟨pt⟩ hn hdb he).h,fun E hf q=>?_⟩⟩
 obtain ⟨ds,hd,hf⟩:=zM hf
 exact kt E hd fun vs G1 H1 x1 r1=>hF G1 H1 ds vs _ _ x1.gh r1 hf fun w G' H' x2 r2=>q w G' H' (x1.trans x2) r2
theorem vM {op:UnaryOp} {ru:V->Hp->VK->Prop} {F1:D->Option D} (ho:gR X (unaryOp op) ru) (hF:∀ (G H:Hp) x u d (Q:VK),zZ X.K G x u->F1 x=some d->∃ w,(∀ G,zZ X.K G d w)/\(Q w H->ru u H Q)) (ha:SE X a fa):SE X (.UnaryOp op a pos) (e1 F1 fa):=by
 obtain ⟨t,pt,kt⟩:=ha.h
 refine ⟨⟨_,Ft ho pt,fun E hf q=>?_⟩⟩
 obtain ⟨x,hx,hf⟩:=zM hf
 refine kt E hx fun v G1 H1 x1 r1=>?_
 obtain ⟨w,rw_,z⟩:=hF G1 H1 x v _ _ r1 hf
 exact z (q w _ _ x1 (rw_ _))
end
end L3
namespace L3
open PySem PySem.Spec PyProof.Rows L2
section
variable {X:Cx} {x:Str} {p pos pos' apos cpos:Pos} {e a b c tg iter elt:Expr} {es ifs:List Expr} {f fa fb:FE} {ft:FT} {fs:FA} {st:Stmt} {sts body:List Stmt} {g g':FS}
theorem yM:wj X [] yB:=⟨⟨_,Ca,fun {_ _ G H τ σ fl E} K hf q=>by
 cases hf
 exact q σ G H K⟩⟩
theorem wH.with {K:PySem.W.Frag} {n:Nat} {G0 H0:Hp} {E E':v4} {fl:Fl} (h:wH K n G0 H0 E fl) (hn:∀ τ,fl=.nx τ->wH K n G0 H0 E' (.nx τ)) (hb:∀ τ,fl=.bk τ->wH K n G0 H0 E' (.bk τ)) (hc:∀ τ,fl=.ct τ->wH K n G0 H0 E' (.ct τ)) (hr:E'.rt=E.rt):wH K n G0 H0 E' fl:=by
 cases fl with
 | nx τ=>exact hn τ rfl
 | bk τ=>exact hb τ rfl
 | ct τ=>exact hc τ rfl
 | rt o d=>
  cases o with
  | false=>intro v G H x r; rw [hr]; exact h v G H x r
  | true=>intro v G H x r1 r2 r3; rw [hr]; exact h v G H x r1 r2 r3
theorem zL (h1:SS X st g) (h2:wj X sts g'):wj X (st::sts) (zI g g'):=by
 obtain ⟨t,p,k⟩:=h1.h
 obtain ⟨t',p',k'⟩:=h2.h
 refine ⟨⟨_,CY p p',fun {G0 H0 G H τ σ fl E} K hf q=>?_⟩⟩
 obtain ⟨f1,h1,hf⟩:=zM hf
 refine k K h1 ?_
 cases f1 with
 | nx τ'=>exact fun σ' G' H' K'=>k' K' hf q
 | bk τ'=>cases hf; exact q
 | ct τ'=>cases hf; exact q
 | rt o d=>cases hf; exact wH.with q (fun _ z=>nomatch z) (fun _ z=>nomatch z) (fun _ z=>nomatch z) rfl
theorem zN (h1:SS X st g):wj X [st] g:=⟨let ⟨t,p,k⟩:=h1.h; ⟨t,Cc p,k⟩⟩
theorem kq (i:Nat) (h:wj X sts g):wj X sts (zI (qR i) g):=by
 obtain ⟨t,p,k⟩:=h.h
 refine ⟨⟨t,p,fun {G0 H0 G H τ σ fl E} K hf q=>?_⟩⟩
 obtain ⟨f1,h1,hf⟩:=zM hf
 unfold qR at h1
 split at h1
 ·rename_i bb d hd
  cases h1
  obtain ⟨G',K',_⟩:=K.freeze hd
  exact k K' hf q
 ·cases h1
theorem zY {i:Nat} {x:Str} {pos':Pos} (hN:X.N.Nodup) (hi:X.N[i]?=some x) (hx:uc X.env.scope x) (he:SE X e f) (hs:kB e=true:=by rfl) (hf:X.fn x=true\/X.env.scope.names.lookup x=some .local:=by first | exact .inl rfl | exact .inr rfl | assumption) :
  SS X (.Assign [.Name x pos'] e pos) (zQ i f):=by
 obtain ⟨t,p,k⟩:=he.h
 refine ⟨⟨_,(Jk hN hi hx ⟨p⟩ hs hf).h,fun {G0 H0 G H τ σ fl E} K hf q=>?_⟩⟩
 obtain ⟨d,hd,hf⟩:=zM hf
 cases hf
 exact k K hd fun v G' H' x r=>q _ _ _ ((K.go x).set (List.getElem?_eq_some_iff.mp hi).1 r)
theorem uW {i:Nat} {x:Str} {pos':Pos} (hN:X.N.Nodup) (hi:X.N[i]?=some x) (hx:uc X.env.scope x) (he:SF X e f) (hs:kB e=true:=by rfl) (hf:X.fn x=true\/X.env.scope.names.lookup x=some .local:=by first | exact .inl rfl | exact .inr rfl | assumption) :
  SS X (.Assign [.Name x pos'] e pos) (wz i f):=by
 obtain ⟨t,p,k⟩:=he.h
 refine ⟨⟨_,(Jk hN hi hx ⟨p⟩ hs hf).h,fun {G0 H0 G H τ σ fl E} K hf q=>?_⟩⟩
 obtain ⟨d,hd,hf⟩:=zM hf
 cases hf
 refine k K hd fun p G' H' x hp gp o=>q _ _ _ ((K.go x).setO (List.getElem?_eq_some_iff.mp hi).1 gp (K.ext.h.free hp) o ?_)
 exact K.newO hp
theorem zn (he:SE X e f):SS X (.Return (some e) pos) (zk f):=by
 obtain ⟨t,p,k⟩:=he.h
 refine ⟨⟨_,VZ p,fun {G0 H0 G H τ σ fl E} K hf q=>?_⟩⟩
 obtain ⟨d,hd,hf⟩:=zM hf
 cases hf
 exact k K hd fun v G' H' x r=>q v _ _ (K.ext.trans x) r
theorem km (he:SF X e f):SS X (.Return (some e) pos) (pS f):=by
 obtain ⟨t,p,k⟩:=he.h
 refine ⟨⟨_,VZ p,fun {G0 H0 G H τ σ fl E} K hf q=>?_⟩⟩
 obtain ⟨d,hd,hf⟩:=zM hf
 cases hf
 exact k K hd fun p G' H' x hp gp o=>q p _ _ (K.ext.trans x) (K.ext.h.free hp) gp o
theorem jo (i:Nat) {x:Str} {pos':Pos} (hN:X.N[i]?=some x:=by rfl) (hv:uB X.env.scope x:=by first | exact Or.inl rfl | exact Or.inr (Or.inl rfl) | exact Or.inr (Or.inr rfl)) (hd:(x == ("__debug__" : Str))=false:=by decide)
  (hcd:(x == ("__classdict__" : Str))=false:=by decide):SS X (.Return (some (.Name x pos')) pos) (tR i):=by
 refine ⟨⟨_,VZ (ja hN hv hd hcd),fun {G0 H0 G H τ σ fl E} K hf q=>?_⟩⟩
 unfold tR at hf
 split at hf
 ·rename_i d he
  cases hf
  obtain ⟨p,e,g,z,o⟩:=K.ow _ _ he
  exact ⟨_,e,q p _ _ K.ext z g o⟩
 ·cases hf
theorem yE {sa sb:List Stmt} (hc:ST X c ft) (ha:wj X sa g) (hb:wj X sb g'):SS X (.If c sa sb pos) (zj ft g g'):=by
 obtain ⟨tc,pc,kc⟩:=hc.h
 obtain ⟨ta,pa,ka⟩:=ha.h
 obtain ⟨tb,pb,kb⟩:=hb.h
 refine ⟨⟨_,CT pc pa pb,fun {G0 H0 G H τ σ fl E} K hf q=>?_⟩⟩
 obtain ⟨k,hk,hf⟩:=zM hf
 refine kc K hk fun G1 H1 x1=>?_
 cases k with
 | true=>exact qM (ka (K.go x1) hf q)
 | false=>exact qL (kb (K.go x1) hf q)
theorem GT:wj X sts (fun _=>none):=⟨⟨_,CZ,fun _ hf=>by cases hf⟩⟩
theorem Ui {ft:FT} (hp:PassesOwn (model X.prog X.w) X.A X.env X.xe) (hc:ST X c ft) (hb:wj X body g):SS X (.While c body [] pos) (kP ft g):=by
 obtain ⟨tc,pc,kc⟩:=hc.h
 obtain ⟨tb,pb,kb⟩:=hb.h
 refine ⟨⟨_,CW hp pc pb,fun {G0 H0 G H τ σ fl E} K hf q=>?_⟩⟩
 refine ⟨fun m σ H=>∃ τ G,zo X.K X.N.length G0 H0 G H τ σ/\w_ ft g m τ=some fl,⟨Z0,τ,G,K,hf⟩,?_⟩
 rintro m σ H ⟨τ,G,K,hf⟩
 cases m with
 | zero=>cases hf
 | succ n=>
  obtain ⟨k,hk,hf⟩:=zM (show (ft τ).bind _=_ from hf)
  refine kc K hk fun G1 H1 x1=>?_
  cases k with
  | false=>
   cases hf
   exact qL (q _ _ _ (K.go x1))
  | true=>
   obtain ⟨f1,h1,hf⟩:=zM (show (g τ).bind _=_ from hf)
   refine qM ⟨fun σ' H'=>∃ τ G,zo X.K X.N.length G0 H0 G H' τ σ'/\w_ ft g n τ=some fl,fun σ' H' z=>⟨n,Nat.lt_succ_self n,z⟩,kb (K.go x1) h1 ?_⟩
   cases f1 with
   | nx τ2=>exact fun σ2 G2 H2 K2=>⟨τ2,G2,K2,hf⟩
   | ct τ2=>exact fun σ2 G2 H2 K2=>⟨τ2,G2,K2,hf⟩
   | bk τ2=>cases hf; exact q
   | rt o d=>cases hf; exact wH.with q (fun _ z=>nomatch z) (fun _ z=>nomatch z) (fun _ z=>nomatch z) rfl
theorem wH.near {K:PySem.W.Frag} {n:Nat} {G0 H0 Ga Ha:Hp} {E:v4} {fl:Fl} (x:zP G0 H0 Ga Ha) (h:wH K n G0 H0 E fl):wH K n Ga H0 E fl:=by
 cases fl with
 | nx τ=>exact fun σ G H z=>h σ G H (zo.near x z)
 | bk τ=>exact fun σ G H z=>h σ G H (zo.near x z)
 | ct τ=>exact fun σ G H z=>h σ G H (zo.near x z)
 | rt o d=>
  cases o with
  | false=>exact fun v G H y r=>h v G H (x.rebase y) r
  | true=>exact fun p G H y r1 r2 r3=>h p G H (x.rebase y) r1 r2 r3
structure SG (X:Cx) (tg:Expr) (fg:FG):Prop where
 h:∃ t,PG X tg t/\∀ {G0 H0 G H:Hp} {τ τ':yD} {σ:St} {d:D} {v:V} {Q:St->Hp->Prop},zo X.K X.N.length G0 H0 G H τ σ->zZ X.K G d v->fg d τ=some τ'->(∀ σ',zo X.K X.N.length G0 H0 G H τ' σ'->Q σ' H)->t v σ H Q
theorem qV {i:Nat} {x:Str} (h:QG X (.Name x pos) (wD i)) (hi:X.N[i]?=some x):SG X (.Name x pos) (yC i):=⟨⟨_,h.h,fun K r hf q=>by
 cases hf
 exact q _ (K.set (List.getElem?_eq_some_iff.mp hi).1 r)⟩⟩
theorem Ug {i j:Nat} {x y:Str} {p1 p2:Pos} {kk:Nat} (h:QG X (.Tuple [.Name x p1,.Name y p2] kk pos) (jH X.K 2 (vC (wD i) (vC (wD j) qy)))) (hi:X.N[i]?=some x) (hj:X.N[j]?=some y):SG X (.Tuple [.Name x p1,.Name y p2] kk pos) (wp i j):=⟨⟨_,h.h,fun {G0 H0 G H τ τ' σ d v Q} K r hf q=>by
 unfold wp at hf
 split at hf
 ·rename_i d1 d2
  cases hf
  obtain ⟨a,vs,rfl,sq,⟨v1,r1,rfl,h1,⟨v2,r2,rfl,h2,h3⟩⟩,_⟩:=r
  cases (show r2=[] from h3)
  refine ⟨a,_,rfl,wP K.ext.gh sq,rfl,v1,_,rfl,v2,_,rfl,rfl,?_⟩
  exact q _ ((K.set (List.getElem?_eq_some_iff.mp hi).1 h1).set (List.getElem?_eq_some_iff.mp hj).1 h2)
 ·cases hf⟩⟩
theorem uV {fg:FG} (hp:PassesOwn (model X.prog X.w) X.A X.env X.xe) (hc:X.calm=true) (hi:SI X tg iter fs) (hg:SG X tg fg) (hb:wj X body g) (hs:∀ x,foldedSetIterable iter X.env x=pure x:=by intro _; rfl):SS X (.For tg iter body [] pos) (wc fs fg g):=by
 obtain ⟨ti,pi,ki⟩:=hi.h
 obtain ⟨tg',pg,kg⟩:=hg.h
 obtain ⟨tb,pb,kb⟩:=hb.h
 refine ⟨⟨_,Jb hp hc pi pg pb hs,fun {G0 H0 G H τ σ fl E} K hf q=>?_⟩⟩
 obtain ⟨ds,hd,hf⟩:=zM hf
 refine ki K hd fun J Ga Ha xa _ wk=>?_
 have Ka:=K.go xa
 have q':=wH.near Ka.ext q
 refine ⟨fun i m σ H=>m=ds.length - i/\i<=ds.length/\∃ τ G,zo X.K X.N.length Ga H0 G H τ σ/\uJ fg g (ds.drop i) τ=some fl,⟨ds.length,rfl,Nat.zero_le _,τ,Ga,Ka.far,hf⟩,?_⟩
 rintro i m σ H ⟨rfl,hle,τ,G,K,hf⟩
 by_cases hlt:i<ds.length
 ·refine .inr ⟨wk.go i G H K.ext.g K.ext.gh hlt,fun σ' H'=>∃ τ G,zo X.K X.N.length Ga H0 G H' τ σ'/\uJ fg g (ds.drop (i+1)) τ=some fl,fun σ' H' z=>⟨ds.length - (i+1),by omega,rfl,hlt,z⟩,fun x H' y=>?_⟩
  obtain ⟨G3,d,x3,ed,rd⟩:=wk.yld i G H x H' K.ext.g K.ext.gh hlt y
  rw [List.drop_eq_getElem_cons hlt] at hf
  rw [List.getElem?_eq_getElem hlt] at ed
  cases ed
  obtain ⟨τ1,h1,hf⟩:=zM (show (fg _ τ).bind _=_ from hf)
  obtain ⟨f1,h2,hf⟩:=zM hf
  refine kg (K.go x3) rd h1 fun σ1 K1=>kb K1 h2 ?_
  cases f1 with
  | nx τ2=>exact fun σ2 G2 H2 K2=>⟨τ2,G2,K2,hf⟩
  | ct τ2=>exact fun σ2 G2 H2 K2=>⟨τ2,G2,K2,hf⟩
  | bk τ2=>cases hf; exact q'
  | rt o d=>cases hf; exact wH.with q' (fun _ z=>nomatch z) (fun _ z=>nomatch z) (fun _ z=>nomatch z) rfl
 ·have e:ds.drop i=[]:=List.drop_eq_nil_of_le (by omega)
  rw [e] at hf
  cases hf
  exact .inl ⟨wk.stop i G H K.ext.g K.ext.gh (by omega),q' _ _ _ K⟩
theorem Qc {K:PySem.W.Frag} {G:Hp} {lo:Int} {n:Nat}:vp K (gM lo n) G ((List.range n).map fun k:Nat=>D.int (lo+k)) where
 go:=fun i G2 H _ _ hi=>by
  show i<n
  simpa using hi
 yld:=fun i G2 H x H' _ g2 hi y=>by
  obtain ⟨rfl,rfl⟩:=y
  exact ⟨G2,.int (lo+i),zP.refl g2,by simp at hi; simp [hi],rfl⟩
 stop:=fun i G2 H _ _ hi=>by
  show n<=i
  simpa using hi
theorem qW (hg:Gl X "range") (hm:X.mg "range" = none) (ha:SE X a fa) (hs:yi a=true:=by rfl):SI X tg (.Call (.Name "range" p) [a] [] pos) (vE (eC (.int 0)) fa):=by
 obtain ⟨t,pt,k⟩:=(zA ha zK hs).h
 refine ⟨⟨_,C5 hg hm pt (we hs),fun {G0 H0 G H τ σ ds R} K hf q=>?_⟩⟩
 obtain ⟨x,hx,hf⟩:=zM hf
 cases hx
 obtain ⟨y,hy,hf⟩:=zM hf
 refine k K (ds:=[y]) (by unfold z8; rw [hy]; rfl) fun vs G1 H1 x1 r1=>?_
 cases y<;>first | cases hf | skip
 rename_i j
 obtain ⟨v,r,rfl,hv,hr⟩:=r1
 cases (show r=[] from hr)
 cases (show v=.int j from hv)
 change (if (0:Int).natAbs<=yA/\j.natAbs<=yA/\(j - 0).toNat<=yA then _ else _)=_ at hf
 by_cases c:(0:Int).natAbs<=yA/\j.natAbs<=yA/\(j - 0).toNat<=yA
 ·rw [if_pos c] at hf
  cases hf
  have c2:j.natAbs<=16777216:=c.2.1
  have c3:(j - 0).toNat<=16777216:=c.2.2
  refine ⟨j,rfl,by omega,by omega,q _ _ _ x1 ?_ ?_⟩
  ·rw [List.length_map,List.length_range,sizeLine_eq]; omega
  ·have e:(j - 0).toNat=j.toNat:=by omega
   rw [e]
   exact Qc
 ·rw [if_neg c] at hf
  cases hf
theorem GC (hg:Gl X "range") (hm:X.mg "range" = none) (ha:SE X a fa) (hb:SE X b fb) (hs:yi a=true:=by rfl) (hs2:yi b=true:=by rfl):SI X tg (.Call (.Name "range" p) [a,b] [] pos) (vE fa fb):=by
 obtain ⟨t,pt,k⟩:=(zA ha (zA hb zK hs2) hs).h
 refine ⟨⟨_,C6 hg hm pt (by rw [we hs,we hs2]; rfl) (we hs2),fun {G0 H0 G H τ σ ds R} K hf q=>?_⟩⟩
 obtain ⟨x,hx,hf⟩:=zM hf
 obtain ⟨y,hy,hf⟩:=zM hf
 refine k K (ds:=[x,y]) (by unfold z8; rw [hx,hy]; rfl) fun vs G1 H1 x1 r1=>?_
 cases x with
 | int i=>
  cases y with
  | int j=>
   obtain ⟨v,r,rfl,hv,⟨v2,r2,rfl,hv2,hr⟩⟩:=r1
   cases (show r2=[] from hr)
   cases (show v=.int i from hv)
   cases (show v2=.int j from hv2)
   change (if i.natAbs<=yA/\j.natAbs<=yA/\(j - i).toNat<=yA then _ else _)=_ at hf
   by_cases c:i.natAbs<=yA/\j.natAbs<=yA/\(j - i).toNat<=yA
   ·rw [if_pos c] at hf
    have c1:i.natAbs<=16777216:=c.1
    have c2:j.natAbs<=16777216:=c.2.1
    have c3:(j - i).toNat<=16777216:=c.2.2
    cases hf
    refine ⟨i,j,rfl,⟨by omega,by omega,by omega,by omega⟩,q _ _ _ x1 ?_ Qc⟩
    rw [List.length_map,List.length_range,sizeLine_eq]; exact c3
   ·rw [if_neg c] at hf
    cases hf
  | _=>cases hf
 | _=>cases hf
theorem Bl {K:PySem.W.Frag} {G:Hp} {a:Addr} {vs:List V} {ds:List D} (sq:yO K G a vs) (r:Reps K G ds vs):vp K (Xs K a) G ds where
 go:=fun i G2 H g1 g2 hi=>by
  obtain ⟨v,e,_⟩:=r.get (List.getElem?_eq_getElem hi)
  exact ⟨vs,v,xR (g1.trans g2) sq,e⟩
 yld:=fun i G2 H x H' g1 g2 hi y=>by
  obtain ⟨rfl,y⟩:=y
  have e:=y vs (xR (g1.trans g2) sq)
  obtain ⟨d,ed,rd⟩:=r.at e
  exact ⟨G2,d,zP.refl g2,ed,rd.mono g1⟩
 stop:=fun i G2 H g1 g2 hi=>⟨vs,xR (g1.trans g2) sq,by rw [r.length]; exact hi⟩
theorem HJ {K:PySem.W.Frag} {G:Hp} {a:Addr} {vs:List V} {ds:List D} (sq:yd K G a vs) (r:Reps K G ds vs):vp K (Xt K a) G ds where
 go:=fun i G2 H g1 g2 hi=>by
  obtain ⟨v,e,_⟩:=r.get (List.getElem?_eq_getElem hi)
  exact ⟨vs,v,wP (g1.trans g2) sq,e⟩
 yld:=fun i G2 H x H' g1 g2 hi y=>by
  obtain ⟨rfl,y⟩:=y
  have e:=y vs (wP (g1.trans g2) sq)
  obtain ⟨d,ed,rd⟩:=r.at e
  exact ⟨G2,d,zP.refl g2,ed,rd.mono g1⟩
 stop:=fun i G2 H g1 g2 hi=>⟨vs,wP (g1.trans g2) sq,by rw [r.length]; exact hi⟩
theorem GW {K:PySem.W.Frag} {G:Hp} {z:Str}:vp K (Z1 z) G (z.cps.toList.map fun c=>D.str ⟨#[c]⟩) where
 go:=fun i G2 H _ _ hi=>by
  rw [List.length_map,Array.length_toList] at hi
  exact hi
 yld:=fun i G2 H x H' _ g2 hi y=>by
  obtain ⟨rfl,c,ec,rfl⟩:=y
  refine ⟨G2,.str ⟨#[c]⟩,zP.refl g2,?_,rfl,small (n:=1) (by decide)⟩
  rw [List.getElem?_map,Array.getElem?_toList,ec]
  rfl
 stop:=fun i G2 H _ _ hi=>by
  rw [List.length_map,Array.length_toList] at hi
  exact hi
theorem PI.or {w1 w2:TI} (h1:PI X tg e w1) (h2:PI X tg e w2):PI X tg e (fun σ H R=>w1 σ H R\/w2 σ H R):=fun pins s σ H R I q=>by
 rcases q with q | q
 ·exact h1 pins s σ H R I q
 ·exact h2 pins s σ H R I q
theorem qX (h:SE X e f):SI X tg e (uo f):=by
 obtain ⟨t,p,k⟩:=h.h
 refine ⟨⟨_,PI.or (C4 p) (PI.or (C8 p) (C7 p)),fun {G0 H0 G H τ σ ds R} K hf q=>?_⟩⟩
 obtain ⟨d,hd,hf⟩:=zM hf
 cases d<;>first | cases hf | skip
 ·rename_i z
  refine .inr (.inr (k K hd fun v G' H' x r=>?_))
  obtain ⟨rfl,l⟩:=r
  exact ⟨z,rfl,q _ _ _ x (by rw [List.length_map,Array.length_toList]; exact l) GW⟩
 ·refine .inr (.inl (k K hd fun v G' H' x r=>?_))
  obtain ⟨a,vs,rfl,sq,rs,l⟩:=r
  exact ⟨a,rfl,⟨vs,wP x.gh sq⟩,q _ _ _ x l (HJ sq rs)⟩
 ·refine .inl (k K hd fun v G' H' x r=>?_)
  obtain ⟨a,vs,rfl,sq,rs,l⟩:=r
  exact ⟨a,rfl,⟨vs,xR x.gh sq⟩,q _ _ _ x l (Bl sq rs)⟩
end
noncomputable def Up (K:PySem.W.Frag) (n:Nat) (f:FE):TE:=fun σ H Q=>∃ G0 H0 G τ d,zo K n G0 H0 G H τ σ/\f τ=some d/\∀ v G' H',zP G H G' H'->zZ K G' d v->Q v H'
noncomputable def Yb (K:PySem.W.Frag) (n:Nat) (f:FT):TT:=fun σ H Q=>∃ G0 H0 G τ d,zo K n G0 H0 G H τ σ/\f τ=some d/\∀ G' H',zP G H G' H'->Q d H'
structure qj (X:Cx) (es:List Expr) (f:FT):Prop where
 h:qi X es (Yb X.K X.N.length f)
section
variable {X:Cx} {e c:Expr} {f:FE} {ft:FT}
theorem SE.pe (h:SE X e f):PE X e (Up X.K X.N.length f):=fun pins s σ H Q I q=>by
 obtain ⟨t,p,k⟩:=h.h
 obtain ⟨G0,H0,G,τ,d,K,hf,z⟩:=q
 exact p pins s σ H Q I (k K hf z)
theorem ST.pt (h:ST X e ft):PT X e (Yb X.K X.N.length ft):=fun pins s σ H Q I q=>by
 obtain ⟨t,p,k⟩:=h.h
 obtain ⟨G0,H0,G,τ,d,K,hf,z⟩:=q
 exact p pins s σ H Q I (k K hf z)
theorem pj:qj X [] yk:=⟨fun pins s σ H Q I q=>by
 obtain ⟨G0,H0,G,τ,d,K,hf,z⟩:=q
 cases hf
 exact Ch pins s σ H Q I (z _ _ (zP.refl K.ext.gh))⟩
theorem jp (h:ST X c ft):qj X [c] ft:=⟨Ci h.pt⟩
end
theorem zo.more {K:PySem.W.Frag} {n:Nat} {G0 H0 G H:Hp} {τ:yD} {σ:St} (k:Nat) (E:zo K n G0 H0 G H τ σ):zo K (n+k) G0 H0 G H (τ++List.replicate k none) (σ++List.replicate k none):=by
 have at_:∀ {i:Nat} {s:Sl},(τ++List.replicate k none)[i]?=some (some s)->τ[i]?=some (some s)/\(σ++List.replicate k none)[i]?=σ[i]?:=fun {i s} h=>by
  have h':=Zf h
  have hi:i<n:=E.lt h'
  exact ⟨h',List.getElem?_append_left (by rw [E.l1]; exact hi)⟩
 refine ⟨E.ext,by rw [List.length_append,List.length_replicate,E.l1],by rw [List.length_append,List.length_replicate,E.l2],fun i d h=>?_,fun i d h=>?_,fun i j d e p hne h1 h2 h3 h4=>?_⟩
 ·obtain ⟨h',e⟩:=at_ h
  rw [e]
  exact E.fr i d h'
 ·obtain ⟨h',e⟩:=at_ h
  rw [e]
  exact E.ow i d h'
 ·obtain ⟨h1',e1⟩:=at_ h1
  obtain ⟨h2',e2⟩:=at_ h2
  rw [e1] at h3
  rw [e2] at h4
  exact E.ap i j d e p hne h1' h2' h3 h4
theorem Y5 {K:PySem.W.Frag} {n k:Nat} {G0 H0 Ga Ha:Hp} {τ:yD} {σ:St} {J:It} {ds out:List D} {g:TG} {fg:FG} {ft:FT} {f:FE} {Fin:List V->Hp->Prop} (wk:vp K J Ga ds) (hl:ds.length<=sizeLine) (Ka:zo K n G0 H0 Ga Ha τ σ)
  (hf:yg fg ft f (τ++List.replicate k none) ds=some out)
  (kg:∀ G H d v τ' (Q:St->Hp->Prop),zo K (n+k) G0 H0 G H (τ++List.replicate k none) (σ++List.replicate k none)->zZ K G d v->fg d (τ++List.replicate k none)=some τ'->(∀ ρ,zo K (n+k) G0 H0 G H τ' (σ++ρ)->Q (σ++ρ) H)->g v (σ++List.replicate k none) H Q)
  (fin:∀ ys G H,zP Ga Ha G H->Reps K G out ys->out.length<=sizeLine->Fin ys H) :
  ∃ W:Nat->Nat->List V->Hp->Prop,(∃ m,W 0 m [] Ha)/\Y2 σ k J g (Yb K (n+k) ft) (Up K (n+k) f) W Fin:=by
 refine ⟨fun i m ys H=>m=ds.length - i/\i<=ds.length/\ys.length<=i/\∃ G done rest,zP Ga Ha G H/\Reps K G done ys/\yg fg ft f (τ++List.replicate k none) (ds.drop i)=some rest/\done++rest=out,⟨ds.length,rfl,Nat.zero_le _,Nat.le_refl _,Ga,[],out,zP.refl Ka.ext.gh,rfl,hf,rfl⟩,?_⟩
 rintro i m ys H ⟨rfl,hle,hys,G,done,rest,x,rd,hf,eo⟩
 by_cases hlt:i<ds.length
 ·refine .inr ⟨wk.go i G H x.g x.gh hlt,by omega,fun ys H=>ys.length<=i+1/\∃ G done rest,zP Ga Ha G H/\Reps K G done ys/\yg fg ft f (τ++List.replicate k none) (ds.drop (i+1))=some rest/\done++rest=out,fun ys' H' z=>⟨ds.length - (i+1),by omega,rfl,hlt,z.1,z.2⟩,fun v H' y=>?_⟩
  obtain ⟨G3,d,x3,ed,rv⟩:=wk.yld i G H v H' x.g x.gh hlt y
  rw [List.drop_eq_getElem_cons hlt] at hf
  rw [List.getElem?_eq_getElem hlt] at ed
  cases ed
  obtain ⟨τ1,h1,hf⟩:=zM (show (fg _ _).bind _=_ from hf)
  obtain ⟨kk,h2,hf⟩:=zM hf
  have K3:=((Ka.go x).go x3).more k
  refine kg G3 H' _ v τ1 _ K3 rv h1 fun ρ K4=>⟨⟨ρ,rfl⟩,_,_,_,_,kk,K4,h2,fun G5 H5 x5=>?_⟩
  cases kk with
  | false=>exact qL ⟨by omega,G5,done,rest,x.trans (x3.trans x5),rd.mono (x3.g.trans x5.g),hf,eo⟩
  | true=>
   obtain ⟨z,hz,hf⟩:=zM (show (f _).bind _=_ from hf)
   obtain ⟨more,hm,hf⟩:=zM hf
   cases hf
   refine qM ⟨_,_,_,_,z,K4.go x5,hz,fun u G6 H6 x6 r6=>⟨by rw [List.length_append]; exact Nat.succ_le_succ hys,G6,done++[z],more,x.trans (x3.trans (x5.trans x6)),(rd.mono (x3.g.trans (x5.g.trans x6.g))).append (Reps.one r6),hm,?_⟩⟩
   rw [List.append_assoc]
   exact eo
 ·have e:ds.drop i=[]:=List.drop_eq_nil_of_le (by omega)
  rw [e] at hf
  cases hf
  rw [List.append_nil] at eo
  subst eo
  refine .inl ⟨wk.stop i G H x.g x.gh (by omega),fin ys G H x rd ?_⟩
  rw [<- rd.length]
  omega
section
variable {X:Cx} {tg iter elt:Expr} {ifs:List Expr} {scope:Scope} {cl:List (Str×Addr)} {own:List Str} {pos:Pos} {fs:FA} {fg:FG} {ft:FT} {f:FE} {g:TG}
theorem Uf {α:Type} (xs:List α) (y:α) (ys:List α) {n:Nat} (h:n=xs.length) (z:α):(xs++y::ys).set n z=xs++z::ys:=by
 subst h
 rw [List.set_append_right _ _ (Nat.le_refl _),Nat.sub_self]
 rfl
structure BG (X:Cx) (scope:Scope) (cl:List (Str×Addr)) (own:List Str) (tg:Expr) (g:TG) (fg:FG):Prop where
 q:∀ C s H fp pn,QG (xF X scope cl own C s H fp pn) tg g
 k:∀ {G0 H0:Hp} {τ:yD} {σ:St},τ.length=X.N.length->σ.length=X.N.length->∀ G H d v τ' (Q:St->Hp->Prop),zo X.K (X.N.length+own.length) G0 H0 G H (τ++List.replicate own.length none) (σ++List.replicate own.length none)->zZ X.K G d v->fg d (τ++List.replicate own.length none)=some τ'->
  (∀ ρ,zo X.K (X.N.length+own.length) G0 H0 G H τ' (σ++ρ)->Q (σ++ρ) H)->g v (σ++List.replicate own.length none) H Q
theorem vv {x:Str} {i:Nat} (q:∀ C s H fp pn,QG (xF X scope cl [x] C s H fp pn) tg (wD i)) (hi:i=X.N.length):BG X scope cl [x] tg (wD i) (yC i):=⟨q,fun {G0 H0 τ σ} l1 l2 G H d v τ' Q E r hf k=>by
 cases hf
 have E':=E.set (i:=i) (v:=v) (by rw [hi]; exact Nat.lt_succ_self _) r
 have es:(σ++List.replicate 1 none).set i (some v)=σ++[some v]:=Uf σ none [] (hi.trans l2.symm) (some v)
 show Q ((σ++List.replicate 1 none).set i (some v)) H
 rw [es]
 refine k [some v] ?_
 rw [<- es]
 exact E'⟩
theorem O_ {x y:Str} {i j:Nat} (q:∀ C s H fp pn,QG (xF X scope cl [x,y] C s H fp pn) tg (jH X.K 2 (vC (wD i) (vC (wD j) qy)))) (hi:i=X.N.length) (hj:j=X.N.length+1):BG X scope cl [x,y] tg (jH X.K 2 (vC (wD i) (vC (wD j) qy))) (wp i j):=⟨q,fun {G0 H0 τ σ} l1 l2 G H d v τ' Q E r hf k=>by
 unfold wp at hf
 split at hf
 ·rename_i d1 d2
  cases hf
  obtain ⟨a,vs,rfl,sq,⟨v1,r1,rfl,h1,⟨v2,r2,rfl,h2,h3⟩⟩,_⟩:=r
  cases (show r2=[] from h3)
  have E':=(E.set (i:=i) (v:=v1) (by rw [hi]; exact Nat.lt_add_of_pos_right (Nat.succ_pos _)) h1).set (i:=j) (v:=v2) (by rw [hj]; exact Nat.lt_succ_self _) h2
  have es:((σ++List.replicate 2 none).set i (some v1)).set j (some v2)=σ++[some v1,some v2]:=by
   have e1:(σ++List.replicate 2 none).set i (some v1)=σ++[some v1,none]:=Uf σ none [none] (hi.trans l2.symm) (some v1)
   rw [e1]
   have e2:σ++[some v1,none]=(σ++[some v1])++[none]:=by simp
   rw [e2,Uf (σ++[some v1]) none [] (by rw [List.length_append,hj,l2]; rfl) (some v2)]
   simp
  refine ⟨a,_,rfl,wP E.ext.gh sq,rfl,v1,_,rfl,v2,_,rfl,rfl,?_⟩
  show Q (((σ++List.replicate 2 none).set i (some v1)).set j (some v2)) H
  rw [es]
  refine k [some v1,some v2] ?_
  rw [<- es]
  exact E'
 ·cases hf⟩
theorem Ta (X:Cx) (own:List Str):(wS X.N own).length=X.N.length+own.length:=by
 unfold wS
 rw [List.length_append,List.length_map]
theorem ZK {C:Addr} {s:Shared} {H:Hp} {fp:List Addr} {pn:List (Addr×Obj)} (h:SE (xF X scope cl own C s H fp pn) elt f):PE (xF X scope cl own C s H fp pn) elt (Up X.K (X.N.length+own.length) f):=by
 have q:=h.pe
 rw [show (xF X scope cl own C s H fp pn).N.length=X.N.length+own.length from Ta X own] at q
 exact q
theorem ZL {C:Addr} {s:Shared} {H:Hp} {fp:List Addr} {pn:List (Addr×Obj)} (h:qj (xF X scope cl own C s H fp pn) ifs ft):qi (xF X scope cl own C s H fp pn) ifs (Yb X.K (X.N.length+own.length) ft):=by
 have q:=h.h
 rw [show (xF X scope cl own C s H fp pn).N.length=X.N.length+own.length from Ta X own] at q
 exact q
theorem ux (hcalm:X.calm=true) (B:tY X scope cl own) (hi:SI X tg iter fs) (hg:BG X scope cl own tg g fg) (hc:∀ C s H fp pn,qj (xF X scope cl own C s H fp pn) ifs ft)
  (he:∀ C s H fp pn,SE (xF X scope cl own C s H fp pn) elt f) (hs:∀ x,foldedSetIterable iter X.env x=pure x:=by intro _; rfl) :
  SF X (.ListComp elt [⟨tg,iter,ifs,0⟩] scope pos) (w8 own.length fs fg ft f):=by
 obtain ⟨ti,pi,ki⟩:=hi.h
 refine ⟨⟨_,JQ hcalm B pi (fun C s H fp pn=>(hg.q C s H fp pn).h) (fun C s H fp pn=>ZL (hc C s H fp pn)) (fun C s H fp pn=>ZK (he C s H fp pn)) hs,fun {G0 H0 G H τ σ d Q} K hf q=>?_⟩⟩
 obtain ⟨ds,hd,hf⟩:=zM hf
 obtain ⟨out,ho,hf⟩:=zM hf
 cases hf
 refine ki K hd fun J Ga Ha xa l wk=>Y5 wk l (K.go xa) ho (hg.k K.l2 K.l1) fun ys G1 H1 x1 r1 l1 p hp=>?_
 exact q p _ _ (xa.trans (x1.trans (zP.layO x1.gh hp))) (xa.h.free (x1.h.free hp)) (x1.gh.free hp) ⟨ys,yT,r1,l1⟩
theorem GS {i:Nat} {x:Str} {px spos:Pos} (hcalm:X.calm=true) (hN:X.N.Nodup) (hix:X.N[i]?=some x) (hx:X.env.scope.names.lookup x=some .local) (B:tY X scope cl own)
  (hsw:swapsWith (.ListComp elt [⟨tg,iter,ifs,0⟩] scope pos) (some (.Name x px)) spos.line X.env=pure true) (hi:SI X tg iter fs) (hg:BG X scope cl own tg g fg) (hc:∀ C s H fp pn,qj (xF X scope cl own C s H fp pn) ifs ft)
  (he:∀ C s H fp pn,SE (xF X scope cl own C s H fp pn) elt f) (hs:∀ x,foldedSetIterable iter X.env x=pure x:=by intro _; rfl) :
  SS X (.Assign [.Name x px] (.ListComp elt [⟨tg,iter,ifs,0⟩] scope pos) spos) (wz i (w8 own.length fs fg ft f)):=by
 obtain ⟨ti,pi,ki⟩:=hi.h
 refine ⟨⟨_,Jc hcalm hN hix hx B hsw pi (fun C s H fp pn=>(hg.q C s H fp pn).h) (fun C s H fp pn=>ZL (hc C s H fp pn)) (fun C s H fp pn=>ZK (he C s H fp pn)) hs,fun {G0 H0 G H τ σ fl E} K hf q=>?_⟩⟩
 obtain ⟨d,hf1,hf⟩:=zM hf
 cases hf
 obtain ⟨ds,hd,hf1⟩:=zM hf1
 obtain ⟨out,ho,hf1⟩:=zM hf1
 cases hf1
 refine ki K hd fun J Ga Ha xa l wk=>Y5 wk l (K.go xa) ho (hg.k K.l2 K.l1) fun ys G1 H1 x1 r1 l1 p hp=>?_
 have K1:=(K.go xa).go x1
 have K2:=K1.go (zP.layO (o:=.lst ys) x1.gh hp)
 exact q _ _ _ (K2.setO (List.getElem?_eq_some_iff.mp hix).1 (x1.gh.free hp) (K1.ext.h.free hp) ⟨ys,yT,r1,l1⟩ (K1.newO hp))
theorem GR {i:Nat} {x:Str} {px spos:Pos} (hcalm:X.calm=true) (hN:X.N.Nodup) (hix:X.N[i]?=some x) (hx:X.env.scope.names.lookup x=some .local) (B:tY X scope cl own)
  (hsw:swapsWith (.ListComp elt [⟨tg,iter,ifs,0⟩] scope pos) (some (.Name x px)) spos.line X.env=pure true) (hi:SI X tg iter fs) (hg:BG X scope cl own tg g fg) (hc:∀ C s H fp pn,qj (xF X scope cl own C s H fp pn) ifs ft)
  (he:∀ C s H fp pn,SE (xF X scope cl own C s H fp pn) elt f) (hs:∀ x,foldedSetIterable iter X.env x=pure x:=by intro _; rfl) :
  SS X (.Assign [.Name x px] (.ListComp elt [⟨tg,iter,ifs,0⟩] scope pos) spos) (zQ i (w8 own.length fs fg ft f)):=by
 obtain ⟨ti,pi,ki⟩:=hi.h
 refine ⟨⟨_,Jc hcalm hN hix hx B hsw pi (fun C s H fp pn=>(hg.q C s H fp pn).h) (fun C s H fp pn=>ZL (hc C s H fp pn)) (fun C s H fp pn=>ZK (he C s H fp pn)) hs,fun {G0 H0 G H τ σ fl E} K hf q=>?_⟩⟩
 obtain ⟨d,hf1,hf⟩:=zM hf
 cases hf
 obtain ⟨ds,hd,hf1⟩:=zM hf1
 obtain ⟨out,ho,hf1⟩:=zM hf1
 cases hf1
 refine ki K hd fun J Ga Ha xa l wk=>Y5 wk l (K.go xa) ho (hg.k K.l2 K.l1) fun ys G1 H1 x1 r1 l1 p hp=>?_
 have K2:=((K.go xa).go x1).go (zP.lay (o:=.lst ys) x1.gh hp)
 exact q _ _ _ (K2.set (List.getElem?_eq_some_iff.mp hix).1 ⟨p,ys,rfl,yO.of yT,r1.mono (xm (x1.gh.free hp) _),l1⟩)
end
section
variable {K:PySem.W.Frag} {n:Nat} {G0 H0 G H:Hp} {τ:yD} {σ:St}
theorem zo.mut {i:Nat} {d d':D} {p:Addr} {o:HO} (E:zo K n G0 H0 G H τ σ) (hi:τ[i]?=some (some (true,d))) (hp:σ[i]?=some (some (.ref p))) (new:wJ K G (zV H p o) d' p):zo K n G0 H0 G (zV H p o) (τ.set i (some (true,d'))) σ:=by
 obtain ⟨p',e,g,z,_⟩:=E.ow i d hi
 rw [hp] at e
 cases e
 have keep:∀ {H1:Hp},H1 p=none->yN H1 H->yN H1 (zV H p o):=fun {H1} h s b u q=>by
  rw [zr (wx q h)]
  exact s _ _ q
 refine ⟨⟨E.ext.g,keep z E.ext.h,keep g E.ext.gh,E.ext.new⟩,E.l1,by rw [List.length_set]; exact E.l2,fun j e h=>?_,fun j e h=>?_,fun j k e f q hne h1 h2 h3 h4=>?_⟩
 ·rcases wd h with ⟨rfl,w⟩ | ⟨ne,w⟩
  ·cases w
  ·exact E.fr j e w
 ·rcases wd h with ⟨rfl,w⟩ | ⟨ne,w⟩
  ·cases w
   exact ⟨p,hp,g,z,new⟩
  ·obtain ⟨q,eq,gq,zq,oq⟩:=E.ow j e w
   refine ⟨q,eq,gq,zq,?_⟩
   have hne:q≠p:=fun c=>by
    subst c
    exact E.ap i j d e q (fun c=>ne c.symm) hi w hp eq
   cases e with
   | lst ds=>obtain ⟨vs,ev,r⟩:=oq; exact ⟨vs,by rw [zr hne]; exact ev,r⟩
   | dic ks ds=>obtain ⟨vs,ev,r⟩:=oq; exact ⟨vs,by rw [zr hne]; exact ev,r⟩
   | _=>exact oq.elim
 ·have t:∀ {j:Nat} {e:D},(τ.set i (some (true,d')))[j]?=some (some (true,e))->∃ e,τ[j]?=some (some (true,e)):=fun {j e} h=>by
   rcases wd h with ⟨rfl,_⟩ | ⟨_,w⟩
   ·exact ⟨_,hi⟩
   ·exact ⟨_,w⟩
  obtain ⟨e1,w1⟩:=t h1
  obtain ⟨e2,w2⟩:=t h2
  exact E.ap j k e1 e2 q hne w1 w2 h3 h4
end
section
variable {X:Cx} {x:Str} {xp pos apos cpos:Pos} {e:Expr} {f:FE}
theorem vf {i:Nat} (ho:QE X (.Name x xp) (tT i)) (he:SE X e f) (hbase:attributeBase (.Name x xp) "append" X.env (eval (.Name x xp) X.env)=eval (.Name x xp) X.env:=by rfl) (hline:(apos.endLine == cpos.line)=true:=by rfl) (hs:yi e=true:=by rfl) :
  SS X (.Expr (.Call (.Attribute (.Name x xp) "append" apos) [e] [] cpos) pos) (xl i xJ f):=by
 obtain ⟨t,p,k⟩:=(zA he zK hs).h
 refine ⟨⟨_,(Jj (pN PySem.F.plainAttrs_list PySem.F.slot_list_append PySem.F.type_list_append Br ho ⟨p⟩ hbase hline (by rw [List.all_cons,hs]; rfl) (by show 1<30; decide)) rfl).h,fun {G0 H0 G H τ σ fl E} K hf q=>?_⟩⟩
 unfold xl at hf
 split at hf
 ·rename_i d hd
  obtain ⟨y,hy,hf⟩:=zM hf
  obtain ⟨d',hd',hf⟩:=zM hf
  cases hf
  obtain ⟨a,ea,g,z,o⟩:=K.ow _ _ hd
  cases d with
  | lst ds=>
   obtain ⟨vs,ev,rs,l⟩:=o
   refine ⟨_,ea,.inl ⟨rfl,vs,yO.of ev⟩,k K (ds:=[y]) (by unfold z8; rw [hy]; rfl) fun us G1 H1 x1 r1=>?_⟩
   obtain ⟨u,r,rfl,hu,hr⟩:=r1
   cases (show r=[] from hr)
   change (if ds.length<yA then some (D.lst (ds++[y])) else none)=some d' at hd'
   by_cases c:ds.length<yA
   ·rw [if_pos c] at hd'
    cases hd'
    refine ⟨a,vs,u,rfl,rfl,x1.h _ _ ev,by rw [rs.length,sizeLine_eq]; exact c,?_⟩
    refine q _ _ _ ((K.go x1).mut hd ea ⟨vs++[u],yT,(rs.mono x1.g).append (Reps.one hu),?_⟩)
    rw [List.length_append,sizeLine_eq]
    exact c
   ·rw [if_neg c] at hd'
    cases hd'
  | _=>cases hd'
 ·cases hf
end
section
variable {P:Program} {w:World} {K:PySem.W.Frag} {mg:Str->Option Value} {base:Heap}
theorem VI {α β:Type} {ds:List α} {k i:Nat} {h:α->Option β} {y:β} (e:(ds.map h++List.replicate k none)[i]?=some (some y)):∃ d,ds[i]?=some d/\h d=some y:=by
 have e':=Zf e
 rw [List.getElem?_map] at e'
 cases q:ds[i]? with
 | none=>rw [q] at e'; cases e'
 | some d=>
  rw [q] at e'
  exact ⟨d,rfl,Option.some.inj e'⟩
theorem Tv {N:List Str} {G H:Hp} {ds:List D} {vs:List V} (s:yN G H) (r:Reps K G ds vs) (hl:ds.length<=N.length):zo K N.length G H G H (ds.map (fun d=>some (false,d))++List.replicate (N.length - ds.length) none) (L2.start N vs):=by
 have l:=r.length
 refine ⟨zP.refl s,?_,?_,fun i d h=>?_,fun i d h=>?_,fun i j d e p _ h1=>?_⟩
 ·unfold L2.start
  rw [List.length_append,List.length_map,List.length_replicate]
  omega
 ·rw [List.length_append,List.length_map,List.length_replicate]
  omega
 ·obtain ⟨d',e,z⟩:=VI h
  cases z
  obtain ⟨v,ev,rv⟩:=r.get e
  refine ⟨v,?_,rv⟩
  unfold L2.start
  rw [List.getElem?_append_left (by rw [List.length_map]; exact (List.getElem?_eq_some_iff.mp ev).1),List.getElem?_map,ev]
  rfl
 ·obtain ⟨d',e,z⟩:=VI h
  cases z
 ·obtain ⟨d',e,z⟩:=VI h1
  cases z
theorem Def.okS {x:Str} {st:Stmt} {N ps:List Str} {k:Nat} {F:List D->Option (Bool×D)} {b:FS} (d:Def K mg x st ps) (S:yF N ps (zm st)) (hN:ps.length<=N.length) (hF:∀ ds r,F ds=some r->ds.length=ps.length/\yQ N.length b ds=some r)
  (hb:∀ (f:Addr) (cdv:Value) (A:Around) (outer:List Env) (s:Shared) (H:Hp) (E:XK),xH k (A.deeper (envOfC x (zm st) s.heap.objs.size f cdv))->wj (ug vP P w K mg base N x (zm st) f cdv A outer s H E).nox (va st) b):yG P w K mg base x ps (k+1) (yJ K F):=by
 refine d.ok S (fun vs H Q E h=>?_) fun f cdv A outer s H vs Q E hr h=>?_
 ·obtain ⟨G,ds,o,dd,_,r,e,_⟩:=h
  rw [r.length,(hF _ _ e).1]
 ·obtain ⟨G,ds,o,dd,s',r,e,q⟩:=h
  obtain ⟨l,hrun⟩:=hF _ _ e
  obtain ⟨t,p,kt⟩:=(hb f cdv A outer s H E hr).h
  obtain ⟨fl,hfl,hrun⟩:=zM hrun
  refine ⟨t,p,kt (Tv (N:=N) s' r (by omega)) hfl ?_⟩
  cases fl with
  | nx τ=>
   cases hrun
   exact fun σ G' H' z=>q .non G' H' z.ext rfl
  | rt o' d'=>
   cases hrun
   cases o with
   | false=>exact q
   | true=>exact q
  | _=>cases hrun
end
end L3
namespace L3
open PySem PySem.Spec PyProof.Rows L2
end L3
namespace L3
open PySem PySem.Spec PyProof.Rows L2
section
variable {X:Cx} {K:PySem.W.Frag}
theorem pI {C:Int->Int->Prop} {Cb:Int->Int->Bool} {g:Int->Int->Int} (h:∀ i j,Cb i j=true->C i j):wI K (rI C fun i j=>.int (g i j)) (fI Cb g):=fun G H x y u v d Q s rx ry hf q=>by
 cases x<;>first | (cases hf; done) | skip
 cases y<;>first | (cases hf; done) | skip
 rename_i i j
 change (match Cb i j with | true=>some (D.int (g i j)) | false=>none)=some d at hf
 cases c:Cb i j with
 | false=>rw [c] at hf; cases hf
 | true=>
  rw [c] at hf
  cases hf
  exact ⟨i,j,rx,ry,h i j c,q _ _ _ (zP.refl s) rfl⟩
theorem VP {g:Int->Int->Int}:wI K (vL fun i j=>.int (g i j)) (uj g):=fun G H x y u v d Q s rx ry hf q=>by
 cases x<;>first | (cases hf; done) | skip
 cases y<;>first | (cases hf; done) | skip
 cases hf
 exact ⟨_,_,rx,ry,q _ _ _ (zP.refl s) rfl⟩
theorem wY:wI K (vL fun i j=>.int (i - j)) xq:=fun G H x y u v d Q s rx ry hf q=>by
 cases x<;>first | (cases hf; done) | skip
 cases y<;>first | (cases hf; done) | skip
 cases hf
 exact ⟨_,_,rx,ry,q _ _ _ (zP.refl s) rfl⟩
theorem J0 {i:Int} (h:wE i=true) : -(2 ^ 64)<i/\i<2 ^ 64:=by
 unfold wE at h
 rw [Bool.and_eq_true] at h
 exact ⟨of_decide_eq_true h.1,of_decide_eq_true h.2⟩
theorem JD:wI K (rI j_ fun i j=>.int (i*j)) Zd:=pI fun _ _ h=>.inl (J0 h)
theorem pJ:wI K (rI j_ fun i j=>.int (i*j)) tF:=pI fun _ _ h=>.inr (J0 h)
theorem yU:wI K (rI (fun _ j=>0<j) fun i j=>.int (i % j)) yI:=pI fun _ _ h=>of_decide_eq_true h
theorem xb:wI K (rI (fun _ j=>0<j/\j<2 ^ 64) fun i j=>.int (i / j)) xK:=pI fun _ _ h=>by
 rw [Bool.and_eq_true] at h
 exact ⟨of_decide_eq_true h.1,of_decide_eq_true h.2⟩
theorem JZ {i j:Int} (h:xQ i j=true):g6 i j:=by
 unfold xQ at h
 rw [Bool.and_eq_true,Bool.and_eq_true] at h
 exact ⟨of_decide_eq_true h.1,of_decide_eq_true h.2.1,of_decide_eq_true h.2.2⟩
theorem vy:wI K (rI g6 fun i j=>.int (i ^ j.toNat)) vB:=pI fun _ _ h=>JZ h
theorem kE:wI K (rI g6 fun i j=>.int (i*2 ^ j.toNat)) qw:=pI fun _ _ h=>JZ h
theorem Dw:wI K (rI (fun _ j=>0<=j) fun i j=>.int (i / 2 ^ j.toNat)) Wm:=pI fun _ _ h=>of_decide_eq_true h
theorem xB {g:Int->Int->Bool}:u8 K (vL fun i j=>.bl (g i j)) (ye g):=fun H x y u v d Q rx ry hf=>by
 cases x<;>first | (cases hf; done) | skip
 cases y<;>first | (cases hf; done) | skip
 cases hf
 exact ⟨_,rfl,fun q=>⟨_,_,rx,ry,q⟩⟩
theorem Qf {H:Hp} {x:D} {u:V} (r:zZ K H x u):jO x=decide (u=.non):=by
 cases x with
 | non=>cases r; rfl
 | bl b=>cases r; rfl
 | int b=>cases r; rfl
 | str b=>obtain ⟨rfl,_⟩:=r; rfl
 | tup b=>obtain ⟨a,vs,rfl,_⟩:=r; rfl
 | lst b=>obtain ⟨a,vs,rfl,_⟩:=r; rfl
 | dic b c=>obtain ⟨a,vs,rfl,_⟩:=r; rfl
 | exc b=>obtain ⟨a,C,rfl,_⟩:=r; rfl
 | obj b c e=>obtain ⟨a,C,dx,vs,rfl,_⟩:=r; rfl
theorem VQ:u8 K (fun x y H Q=>y=.non/\Q (.bl (decide (x=.non))) H) gg:=fun H x y u v d Q rx ry hf=>by
 cases y<;>first | (cases hf; done) | skip
 have e:=Qf rx
 refine ⟨jO x,(Option.some.inj hf).symm,fun q=>⟨ry,?_⟩⟩
 rw [<- e]
 exact q
theorem YD:u8 K (fun x y H Q=>y=.non/\Q (.bl (!decide (x=.non))) H) jE:=fun H x y u v d Q rx ry hf=>by
 cases y<;>first | (cases hf; done) | skip
 have e:=Qf rx
 refine ⟨!jO x,(Option.some.inj hf).symm,fun q=>⟨ry,?_⟩⟩
 rw [<- e]
 exact q
theorem vg:∀ (G H:Hp) x u d (Q:VK),zZ K G x u->wC x=some d->∃ w,(∀ G,zZ K G d w)/\(Q w H->rU (fun i=>.int (-i)) u H Q):=fun G H x u d Q r hf=>by
 cases x<;>first | (cases hf; done) | skip
 cases hf
 exact ⟨_,fun _=>rfl,fun q=>⟨_,r,q⟩⟩
theorem Hd:∀ (G H:Hp) x u d (Q:VK),zZ K G x u->Wg x=some d->∃ w,(∀ G,zZ K G d w)/\(Q w H->rU (fun i=>.int (Builtin.bitNot i)) u H Q):=fun G H x u d Q r hf=>by
 cases x<;>first | (cases hf; done) | skip
 cases hf
 exact ⟨_,fun _=>rfl,fun q=>⟨_,r,q⟩⟩
noncomputable def Jm (K:PySem.W.Frag):R2:=fun x y H Q=>∃ l b xs zs,x=.ref l/\y=.ref b/\yO K H l xs/\yO K H b zs/\xs.length+zs.length<=sizeLine/\∀ p,H p=none->Q (.ref p) (zV H p (.lst (xs++zs)))
theorem JG:yP X (binaryOp .Add) (Jm X.K):=by
 intro pins s σ H x y v u Q I rx ry h
 obtain ⟨l,b,xs,zs,rfl,rfl,hl,hb,hz,q⟩:=h
 cases rx
 cases ry
 obtain ⟨its,r1,p1,_⟩:=I.list hl
 obtain ⟨its2,r2,p2,_⟩:=I.list hb
 obtain ⟨⟨c1,d1,t1,sl1⟩,n1,ho1,hc1,hd1,ht1⟩:=p1
 obtain ⟨⟨c2,d2,t2,sl2⟩,n2,ho2,hc2,hd2,ht2⟩:=p2
 simp only at hc1 ht1 hc2 ht2
 subst hc1 ht1 hc2 ht2
 refine concat_meets ⟨_,ho1,rfl⟩ ⟨_,ho2,rfl⟩ noFill_list_add seq_list_add PySem.F.slot_list_add PySem.F.entry_list_add (PySem.F.args_list_add_2 _ _)
  (list_addW l b its.toArray its2.toArray n1 n2 d1 d2 sl1 sl2 (by rw [List.size_toArray,List.size_toArray,<- r1.length,<- r2.length]; exact hz)) ⟨ho1,ho2,?_⟩
 rw [show its.toArray++its2.toArray=(its++its2).toArray by simp]
 exact ⟨.ref _,_,I.lnew (t':=s.toks) (r1.append r2) (by rw [List.length_append]; exact hz),rfl,q _ I.fresh⟩
noncomputable def Jl (K:PySem.W.Frag):R2:=fun x y H Q=>vL (fun i j=>.int (i+j)) x y H Q\/(∃ i k,x=.int i/\y=.bl k/\Q (.int (i+b2i k)) H)\/(∃ i j,x=.str i/\y=.str j/\i.length+j.length<=sizeLine/\Q (.str (i++j)) H)\/Jm K x y H Q\/Jn K x y H Q
theorem zz:yP X (binaryOp .Add) (Jl X.K):=F6.or (F7.or (F8.or (JG.or F9)))
theorem zy:wI K (Jl K) ze:=fun G H x y u v d Q s rx ry hf q=>by
 cases x<;>cases y<;>first | (cases hf; done) | skip
 ·rename_i i b
  cases rx
  cases ry
  cases hf
  refine .inr (.inl ⟨i,b,rfl,rfl,?_⟩)
  have e:i+b2i b=i+(if b then 1 else 0):=by cases b<;>rfl
  rw [e]
  exact q _ _ _ (zP.refl s) rfl
 ·cases hf
  exact .inl ⟨_,_,rx,ry,q _ _ _ (zP.refl s) rfl⟩
 ·rename_i i j
  obtain ⟨rfl,l1⟩:=rx
  obtain ⟨rfl,l2⟩:=ry
  change (if i.length+j.length<=yA then _ else _)=_ at hf
  by_cases c:i.length+j.length<=yA
  ·rw [if_pos c] at hf
   cases hf
   have c':i.length+j.length<=sizeLine:=by rw [sizeLine_eq]; exact c
   exact .inr (.inr (.inl ⟨i,j,rfl,rfl,c',q _ _ _ (zP.refl s) ⟨rfl,by rw [strLen_append]; exact c'⟩⟩))
  ·rw [if_neg c] at hf
   cases hf
 ·rename_i xs ys
  obtain ⟨a,vs,rfl,sa,ra,_⟩:=rx
  obtain ⟨b,us,rfl,sb,rb,_⟩:=ry
  change (if xs.isEmpty=false/\xs.length+ys.length<=yA then _ else _)=_ at hf
  by_cases c0:xs.isEmpty=false/\xs.length+ys.length<=yA
  ·rw [if_pos c0] at hf
   have c:=c0.2
   cases hf
   have c':(xs++ys).length<=sizeLine:=by rw [sizeLine_eq,List.length_append]; exact c
   have hx:vs≠[]:=fun e=>by
    have l:=ra.length
    rw [e] at l
    cases xs with
    | nil=>cases c0.1
    | cons=>cases l
   ·refine .inr (.inr (.inr (.inr ⟨a,b,vs,us,rfl,rfl,wP s sa,wP s sb,hx,by rw [ra.length,rb.length,sizeLine_eq]; exact c,fun e=>?_,fun e p hp=>?_⟩)))
    ·subst e
     have e2:ys=[]:=by
      cases ys with
      | nil=>rfl
      | cons=>obtain ⟨_,_,z,_⟩:=rb; cases z
     subst e2
     exact q _ _ _ (zP.refl s) ⟨a,vs,rfl,sa,by rw [List.append_nil]; exact ra,c'⟩
    ·exact q _ _ _ (zP.lay s hp) ⟨p,vs++us,rfl,yd.of yT,(ra.append rb).mono (xm (s.free hp) _),c'⟩
  ·rw [if_neg c0] at hf
   cases hf
 ·rename_i xs ys
  obtain ⟨a,vs,rfl,sa,ra,_⟩:=rx
  obtain ⟨b,us,rfl,sb,rb,_⟩:=ry
  change (if xs.length+ys.length<=yA then _ else _)=_ at hf
  by_cases c:xs.length+ys.length<=yA
  ·rw [if_pos c] at hf
   cases hf
   have c':(xs++ys).length<=sizeLine:=by rw [sizeLine_eq,List.length_append]; exact c
   refine .inr (.inr (.inr (.inl ⟨a,b,vs,us,rfl,rfl,xR s sa,xR s sb,by rw [ra.length,rb.length,sizeLine_eq]; exact c,fun p hp=>?_⟩)))
   exact q _ _ _ (zP.lay s hp) ⟨p,vs++us,rfl,yO.of yT,(ra.append rb).mono (xm (s.free hp) _),c'⟩
  ·rw [if_neg c] at hf
   cases hf
theorem Oq {α:Type} {xs:List α} {i:Int} {x:α} (h:vq xs i=some x):∃ j:Nat,xs[j]?=some x/\∀ {β:Type} (ys:List β),ys.length=xs.length->vq ys i=ys[j]?:=by
 unfold vq at h
 cases e:ixN xs.length i with
 | none=>rw [e] at h; cases h
 | some j=>
  rw [e] at h
  exact ⟨j,h,fun ys l=>by unfold vq; rw [l,e]; rfl⟩
theorem TH {α:Type} (xs:List α) (i:Int):vq xs i=x_ xs i:=by
 unfold vq x_ ixN
 by_cases h:0<=i
 ·rw [if_pos h,if_pos h]
  by_cases h2:i<xs.length
  ·rw [if_pos h2]; rfl
  ·rw [if_neg h2]
   exact (List.getElem?_eq_none (by omega)).symm
 ·rw [if_neg h,if_neg h]
  split<;>rfl
theorem Vi {H:Hp} {ds:List D} {vs:List V} {i:Int} {d:D} (r:Reps K H ds vs) (h:x_ ds i=some d):∃ v,vq vs i=some v/\zZ K H d v:=by
 rw [<- TH] at h
 obtain ⟨j,e,k⟩:=Oq h
 obtain ⟨v,ev,rv⟩:=r.get e
 exact ⟨v,by rw [k vs r.length]; exact ev,rv⟩
noncomputable def Lx:D->D->Option D
 | .lst xs,.int i=>x_ xs i
 | .tup xs,.int i=>x_ xs i
 | .str z,.int i=>(x_ z.cps.toList i).bind fun c=>some (.str ⟨#[c]⟩)
 | _,_=>none
theorem VR:wI K (Vf K) Lx:=fun G H x y u v d Q s rx ry hf q=>by
 cases x<;>first | (cases hf; done) | skip
 all_goals (cases y<;>first | (cases hf; done) | skip)
 ·rename_i z i
  obtain ⟨rfl,l⟩:=rx
  cases ry
  obtain ⟨c,hc,hf⟩:=zM hf
  cases hf
  rw [<- TH] at hc
  exact .inr (.inr ⟨z,i,c,rfl,rfl,l,hc,q _ _ _ (zP.refl s) ⟨rfl,small (n:=1) (by decide)⟩⟩)
 ·rename_i xs i
  obtain ⟨a,vs,rfl,sa,ra,_⟩:=rx
  cases ry
  obtain ⟨w,hw,rw_⟩:=Vi ra hf
  exact .inr (.inl ⟨a,vs,i,w,rfl,rfl,wP s sa,hw,q _ _ _ (zP.refl s) rw_⟩)
 ·rename_i xs i
  obtain ⟨a,vs,rfl,sa,ra,_⟩:=rx
  cases ry
  obtain ⟨w,hw,rw_⟩:=Vi ra hf
  exact .inl ⟨a,vs,i,w,rfl,rfl,xR s sa,hw,q _ _ _ (zP.refl s) rw_⟩
theorem wL:xT X (.builtin "len") (fun xs H Q=>(∃ p ys,xs=[.ref p]/\(yO X.K H p ys\/yd X.K H p ys)/\Q (.int ys.length) H)\/∃ z,xs=[.str z]/\z.length<=sizeLine/\Q (.int z.length) H):=LD.or LE
theorem wN:qh K (fun xs H Q=>(∃ p ys,xs=[.ref p]/\(yO K H p ys\/yd K H p ys)/\Q (.int ys.length) H)\/∃ z,xs=[.str z]/\z.length<=sizeLine/\Q (.int z.length) H) xh:=fun G H ds vs d Q s r hf q=>by
 match ds,hf with
 | [.lst xs],hf=>
  cases hf
  obtain ⟨v,r',rfl,⟨a,us,rfl,sq,ru,_⟩,h2⟩:=r
  cases (show r'=[] from h2)
  exact .inl ⟨a,us,rfl,.inl sq,by rw [ru.length]; exact q _ _ _ (zP.refl s) rfl⟩
 | [.tup xs],hf=>
  cases hf
  obtain ⟨v,r',rfl,⟨a,us,rfl,sq,ru,_⟩,h2⟩:=r
  cases (show r'=[] from h2)
  exact .inl ⟨a,us,rfl,.inr sq,by rw [ru.length]; exact q _ _ _ (zP.refl s) rfl⟩
 | [.str z],hf=>
  cases hf
  obtain ⟨v,r',rfl,⟨rfl,l⟩,h2⟩:=r
  cases (show r'=[] from h2)
  exact .inr ⟨z,rfl,l,q _ _ _ (zP.refl s) rfl⟩
theorem Dp:qh K (fun xs H Q=>∃ i j,xs=[.int i,.int j]/\Q (.int (if j > i then j else i)) H) Zb:=fun G H ds vs d Q s r hf q=>by
 match ds,hf with
 | [.int i,.int j],hf=>
  cases hf
  obtain ⟨v,r',rfl,rfl,⟨v2,r2,rfl,rfl,h2⟩⟩:=r
  cases (show r2=[] from h2)
  exact ⟨i,j,rfl,q _ _ _ (zP.refl s) rfl⟩
theorem Dq:qh K (fun xs H Q=>∃ i j,xs=[.int i,.int j]/\Q (.int (if j<i then j else i)) H) Zc:=fun G H ds vs d Q s r hf q=>by
 match ds,hf with
 | [.int i,.int j],hf=>
  cases hf
  obtain ⟨v,r',rfl,rfl,⟨v2,r2,rfl,rfl,h2⟩⟩:=r
  cases (show r2=[] from h2)
  exact ⟨i,j,rfl,q _ _ _ (zP.refl s) rfl⟩
theorem kC:qh K (fun xs H Q=>(∃ i,xs=[.int i]/\Q (.int i) H)\/∃ k,xs=[.bl k]/\Q (.int (if k then 1 else 0)) H) qJ:=fun G H ds vs d Q s r hf q=>by
 match ds,hf with
 | [.int i],hf=>
  cases hf
  obtain ⟨v,r',rfl,rfl,h2⟩:=r
  cases (show r'=[] from h2)
  exact .inl ⟨i,rfl,q _ _ _ (zP.refl s) rfl⟩
 | [.bl k],hf=>
  cases hf
  obtain ⟨v,r',rfl,rfl,h2⟩:=r
  cases (show r'=[] from h2)
  exact .inr ⟨k,rfl,q _ _ _ (zP.refl s) rfl⟩
end
end L3
namespace L3
open PySem PySem.Spec PyProof.Rows L2
theorem Tm:∀ xs ys:List D,(((List.range (min xs.length ys.length)).all fun j=>yW (xs.getD j .non) (ys.getD j .non))&&xs.length == ys.length)=dEqs xs ys
 | [],[]=>rfl
 | [],_::_=>rfl
 | _::_,[]=>rfl
 | x::xs,y::ys=>by
  have ih:=Tm xs ys
  show _=(yW x y&&dEqs xs ys)
  rw [<- ih,List.length_cons,List.length_cons,Nat.succ_min_succ,List.range_succ_eq_map,List.all_cons,List.all_map,Bool.and_assoc]
  congr 1
  congr 1
  rw [Bool.eq_iff_iff]
  simp
theorem Tk {f:D->D->Bool}:∀ {xs ys:List D},vY f xs ys=true->∀ (j:Nat) x y,xs[j]?=some x->ys[j]?=some y->f x y=true
 | [],_,_,j,x,y,e,_=>by cases e
 | x::xs,[],_,j,_,y,_,e=>by cases e
 | x::xs,y::ys,h,0,_,_,e1,e2=>by
  cases e1
  cases e2
  have h':(f x y&&vY f xs ys)=true:=h
  rw [Bool.and_eq_true] at h'
  exact h'.1
 | x::xs,y::ys,h,j+1,a,b,e1,e2=>by
  have h':(f x y&&vY f xs ys)=true:=h
  rw [Bool.and_eq_true] at h'
  exact Tk h'.2 j a b (by simpa using e1) (by simpa using e2)
section
variable {X:Cx} {pins:List (Addr×Obj)} {σ:St} {H:Hp} {s:Shared} {K:PySem.W.Frag}
theorem We {n:Nat} (ih:∀ d1 d2 v,w4 n d1 d2=true->zZ K H d1 v->zZ K H d2 v->yW d1 d2=true):∀ {xs ys:List D} {vs:List V},vY (w4 n) xs ys=true->Reps K H xs vs->Reps K H ys vs->dEqs xs ys=true
 | [],[],_,_,_,_=>rfl
 | [],_::_,_,_,r1,r2=>by
  cases (show _=[] from r1)
  obtain ⟨_,_,e,_⟩:=r2
  cases e
 | _::_,[],_,_,r1,r2=>by
  cases (show _=[] from r2)
  obtain ⟨_,_,e,_⟩:=r1
  cases e
 | x::xs,y::ys,_,h,r1,r2=>by
  obtain ⟨v,r,rfl,a,b⟩:=r1
  obtain ⟨v',r',e,a',b'⟩:=r2
  cases e
  have h':(w4 n x y&&vY (w4 n) xs ys)=true:=h
  rw [Bool.and_eq_true] at h'
  show (yW x y&&dEqs xs ys)=true
  rw [ih x y v h'.1 a a',We ih h'.2 b b']
  rfl
theorem WV {n:Nat} {x y:D} (h:w4 (n+1) x y=true):(∃ xs ys,x=.tup xs/\y=.tup ys/\vY (w4 n) xs ys=true)\/(∃ xs ys,x=.lst xs/\y=.lst ys/\vY (w4 n) xs ys=true)\/(yL x=true/\yL y=true):=by
 unfold w4 at h
 split at h
 ·exact .inl ⟨_,_,rfl,rfl,h⟩
 ·exact .inr (.inl ⟨_,_,rfl,rfl,h⟩)
 ·rw [Bool.and_eq_true] at h
  exact .inr (.inr h)
theorem qQ {d:D} {v:V} (h:yL d=true) (r:zZ K H d v):wo v=true:=by
 cases d<;>first | exact absurd h Bool.false_ne_true | skip
 ·cases (show v=_ from r); rfl
 ·cases (show v=_ from r); rfl
 ·cases (show v=_ from r); rfl
 ·cases (show v=_/\_ from r).1; rfl
theorem pP {d1 d2:D} {x y:V} (h1:yL d1=true) (h2:yL d2=true) (r1:zZ K H d1 x) (r2:zZ K H d2 y):wM x y=yW d1 d2:=by
 cases d1<;>first | exact absurd h1 Bool.false_ne_true | skip
 all_goals (cases d2<;>first | exact absurd h2 Bool.false_ne_true | skip)
 all_goals first
  | (cases (show x=_ from r1); cases (show y=_ from r2); rfl)
  | (cases (show x=_ from r1); cases (show y=_/\_ from r2).1; rfl)
  | (cases (show x=_/\_ from r1).1; cases (show y=_ from r2); rfl)
  | (cases (show x=_/\_ from r1).1; cases (show y=_/\_ from r2).1; rfl)
theorem ZY (I:Inv X pins σ H s):∀ (n:Nat) (d1 d2:D) (v:V),w4 n d1 d2=true->zZ X.K H d1 v->zZ X.K H d2 v->yW d1 d2=true
 | 0,_,_,_,h,_,_=>by cases h
 | n+1,d1,d2,v,h,r1,r2=>by
  rcases WV h with ⟨xs,ys,rfl,rfl,h⟩ | ⟨xs,ys,rfl,rfl,h⟩ | ⟨f1,f2⟩
  ·obtain ⟨a,vs,rfl,s1,q1,_⟩:=r1
   obtain ⟨a',us,e,s2,q2,_⟩:=r2
   cases e
   cases I.tuple_inj s1 s2
   exact We (fun d1 d2 v=>ZY I n d1 d2 v) h q1 q2
  ·obtain ⟨a,vs,rfl,s1,q1,_⟩:=r1
   obtain ⟨a',us,e,s2,q2,_⟩:=r2
   cases e
   cases I.list_inj s1 s2
   exact We (fun d1 d2 v=>ZY I n d1 d2 v) h q1 q2
  ·rw [<- pP f1 f2 r1 r2]
   exact Lv (qQ f1 r1)
theorem QC {α:Type} {xs:List α} {j:Nat} {x d:α} (h:xs[j]?=some x):xs.getD j d=x:=by rw [List.getD_eq_getElem?_getD,h]; rfl
theorem YL {A:Around} {n:Nat} {a c:Addr} {xs ys:List D} {vs us:List V} (I:Inv X pins σ H s) (hu:A.units<cLine) (hq:T7 X.K H a c vs us) (q1:Reps X.K H xs vs) (q2:Reps X.K H ys us) (h:vY (w4 n) xs ys=true)
  (ih:∀ (d1 d2:D) (x y:V) (u v:Value),w4 n d1 d2=true->zZ X.K H d1 x->zZ X.K H d2 y->zp x u->zp y v->SeqAt.EqAt A.in1 s u v (yW d1 d2)):SeqAt.RcAt A s (.ref a) (.ref c) (dEqs xs ys)/\SeqAt.RcNeAt A s (.ref a) (.ref c) (!dEqs xs ys):=by
 have z:=EB (A:=A) (e:=fun j=>yW (xs.getD j .non) (ys.getD j .non)) I hu hq fun j x' y' u' v' e1 e2 w1 w2=>by
  obtain ⟨d1,g1,t1⟩:=q1.at e1
  obtain ⟨d2,g2,t2⟩:=q2.at e2
  show SeqAt.EqAt A.in1 s u' v' (yW (xs.getD j .non) (ys.getD j .non))
  rw [QC g1,QC g2]
  exact ih d1 d2 x' y' u' v' (Tk h j d1 d2 g1 g2) t1 t2 w1 w2
 rw [q1.length,q2.length,Tm] at z
 exact z
theorem ZW (I:Inv X pins σ H s):∀ (n:Nat) (A:Around) (d1 d2:D) (x y:V) (u v:Value),A.units+n<cLine->w4 n d1 d2=true->zZ X.K H d1 x->zZ X.K H d2 y->zp x u->zp y v->SeqAt.EqAt A s u v (yW d1 d2)
 | 0,_,_,_,_,_,_,_,_,h,_,_,_,_=>by cases h
 | n+1,A,d1,d2,x,y,u,v,hu,h,r1,r2,rx,ry=>by
  have h0:=h
  have ra:=r1
  have rb:=r2
  rcases WV h with ⟨xs,ys,rfl,rfl,h⟩ | ⟨xs,ys,rfl,rfl,h⟩ | ⟨f1,f2⟩
  ·obtain ⟨a,vs,rfl,s1,q1,l1⟩:=r1
   obtain ⟨c,us,rfl,s2,q2,l2⟩:=r2
   cases (show u=Value.ref a from rx)
   cases (show v=Value.ref c from ry)
   by_cases hac:a=c
   ·subst hac
    rw [ZY I (n+1) _ _ _ h0 ra rb]
    exact SeqAt.EqAt.same _
   ·exact SeqAt.EqAt.of_refs hac (YL I (by omega) (.inl ⟨s1,s2⟩) q1 q2 h fun d1 d2 x y u v hh t1 t2 w1 w2=>ZW I n A.in1 d1 d2 x y u v (by rw [Zp]; omega) hh t1 t2 w1 w2).1
  ·obtain ⟨a,vs,rfl,s1,q1,l1⟩:=r1
   obtain ⟨c,us,rfl,s2,q2,l2⟩:=r2
   cases (show u=Value.ref a from rx)
   cases (show v=Value.ref c from ry)
   by_cases hac:a=c
   ·subst hac
    rw [ZY I (n+1) _ _ _ h0 ra rb]
    exact SeqAt.EqAt.same _
   ·exact SeqAt.EqAt.of_refs hac (YL I (by omega) (.inr ⟨s1,s2⟩) q1 q2 h fun d1 d2 x y u v hh t1 t2 w1 w2=>ZW I n A.in1 d1 d2 x y u v (by rw [Zp]; omega) hh t1 t2 w1 w2).1
  ·rw [<- pP f1 f2 r1 r2]
   exact Ty rx ry (qQ f1 r1) (qQ f2 r2)
end
noncomputable def YJ (K:PySem.W.Frag) (neg:Bool):R2:=fun x y H Q=>∃ d1 d2 k,zZ K H d1 x/\zZ K H d2 y/\t9 d1 d2=some k/\Q (.bl (if neg then !k else k)) H
theorem yh {A:Around} {k:Nat} (hr:xH k A):A.units+7<cLine:=Nat.lt_of_le_of_lt (Nat.add_le_add_left (by decide:7<=64) _) hr.units
section
variable {X:Cx} {K:PySem.W.Frag}
theorem Wf {d1 d2:D} {k:Bool} (h:t9 d1 d2=some k):w4 6 d1 d2=true/\k=yW d1 d2:=by
 unfold t9 at h
 split at h
 ·cases h
 ·cases h
 ·split at h
  ·rename_i e
   cases h
   exact ⟨e,rfl⟩
  ·cases h
theorem IV {H:Hp} {d1 d2:D} {x y:V} {k:Bool} (h:t9 d1 d2=some k) (h1:yL d1=true) (h2:yL d2=true) (r1:zZ K H d1 x) (r2:zZ K H d2 y):Uc x y=true/\decide (x=y)=k:=by
 obtain ⟨_,e⟩:=Wf h
 subst e
 cases d1<;>first | exact absurd h1 Bool.false_ne_true | skip
 all_goals (cases d2<;>first | exact absurd h2 Bool.false_ne_true | (cases h; done) | skip)
 all_goals first
  | (cases (show x=_ from r1); cases (show y=_ from r2); exact ⟨rfl,by first | rfl | exact Wb | exact Wa⟩)
  | (cases (show x=_ from r1); cases (show y=_/\_ from r2).1; exact ⟨rfl,rfl⟩)
  | (cases (show x=_/\_ from r1).1; cases (show y=_ from r2); exact ⟨rfl,rfl⟩)
  | (cases (show x=_/\_ from r1).1; cases (show y=_/\_ from r2).1; exact ⟨rfl,Wc⟩)
theorem T_ {pins:List (Addr×Obj)} {σ:St} {H:Hp} {s:Shared} {A:Around} {d1 d2:D} {x y:V} {u v:Value} (I:Inv X pins σ H s) (hu:A.units+7<cLine) (h:w4 6 d1 d2=true) (hf:¬ (yL d1&&yL d2)=true) (r1:zZ X.K H d1 x) (r2:zZ X.K H d2 y) (rx:zp x u) (ry:zp y v) :
  SeqAt.RcAt A s u v (yW d1 d2)/\SeqAt.RcNeAt A s u v (!yW d1 d2):=by
 rcases WV h with ⟨xs,ys,rfl,rfl,h⟩ | ⟨xs,ys,rfl,rfl,h⟩ | ⟨f1,f2⟩
 ·obtain ⟨a,vs,rfl,s1,q1,l1⟩:=r1
  obtain ⟨c,us,rfl,s2,q2,l2⟩:=r2
  cases (show u=Value.ref a from rx)
  cases (show v=Value.ref c from ry)
  exact YL I (by omega) (.inl ⟨s1,s2⟩) q1 q2 h fun d1 d2 x y u v hh t1 t2 w1 w2=>ZW I 5 A.in1 d1 d2 x y u v (by rw [Zp]; omega) hh t1 t2 w1 w2
 ·obtain ⟨a,vs,rfl,s1,q1,l1⟩:=r1
  obtain ⟨c,us,rfl,s2,q2,l2⟩:=r2
  cases (show u=Value.ref a from rx)
  cases (show v=Value.ref c from ry)
  exact YL I (by omega) (.inr ⟨s1,s2⟩) q1 q2 h fun d1 d2 x y u v hh t1 t2 w1 w2=>ZW I 5 A.in1 d1 d2 x y u v (by rw [Zp]; omega) hh t1 t2 w1 w2
 ·exact absurd (by rw [f1,f2]; rfl) hf
theorem xN (hu:X.A.units+7<cLine):yP X (compareOp .Eq) (YJ X.K false):=by
 intro pins s σ H x y v u Q I rx ry h
 obtain ⟨d1,d2,k,r1,r2,hk,q⟩:=h
 by_cases hf:(yL d1&&yL d2)=true
 ·have hf':=hf
  rw [Bool.and_eq_true] at hf'
  obtain ⟨a,b⟩:=IV hk hf'.1 hf'.2 r1 r2
  exact FB pins s σ H x y v u Q I rx ry ⟨a,by rw [b]; exact q⟩
 ·obtain ⟨hc,rfl⟩:=Wf hk
  exact (T_ I hu hc hf r1 r2 rx ry).1 _ _ _ _ ⟨.bl _,H,I,rfl,q⟩
theorem uO (hu:X.A.units+7<cLine):yP X (compareOp .NotEq) (YJ X.K true):=by
 intro pins s σ H x y v u Q I rx ry h
 obtain ⟨d1,d2,k,r1,r2,hk,q⟩:=h
 by_cases hf:(yL d1&&yL d2)=true
 ·have hf':=hf
  rw [Bool.and_eq_true] at hf'
  obtain ⟨a,b⟩:=IV hk hf'.1 hf'.2 r1 r2
  exact FK pins s σ H x y v u Q I rx ry ⟨a,by rw [b]; exact q⟩
 ·obtain ⟨hc,rfl⟩:=Wf hk
  exact (T_ I hu hc hf r1 r2 rx ry).2 _ _ _ _ ⟨.bl _,H,I,rfl,q⟩
theorem xM:u8 K (YJ K false) zd:=fun H x y u v d Q rx ry hf=>by
 obtain ⟨k,hk,hf⟩:=zM hf
 cases hf
 exact ⟨_,rfl,fun q=>⟨x,y,k,rx,ry,hk,q⟩⟩
theorem uN:u8 K (YJ K true) yl:=fun H x y u v d Q rx ry hf=>by
 obtain ⟨k,hk,hf⟩:=zM hf
 cases hf
 exact ⟨_,rfl,fun q=>⟨x,y,k,rx,ry,hk,q⟩⟩
end
theorem BV {K:PySem.W.Frag}:PySem.W.kitOne K (.type "NoneType") (.type "str")=some false/\PySem.W.kitOne K (.type "NoneType") (.type "list")=some false/\PySem.W.kitOne K (.type "NoneType") (.type "tuple")=some false/\
  PySem.W.kitOne K (.type "bool") (.type "str")=some false/\PySem.W.kitOne K (.type "bool") (.type "list")=some false/\PySem.W.kitOne K (.type "bool") (.type "tuple")=some false/\
  PySem.W.kitOne K (.type "int") (.type "str")=some false/\PySem.W.kitOne K (.type "int") (.type "list")=some false/\PySem.W.kitOne K (.type "int") (.type "tuple")=some false:=by refine ⟨?_,?_,?_,?_,?_,?_,?_,?_,?_⟩<;>kernel_rfl
theorem BW {K:PySem.W.Frag}:PySem.W.kitOne K (.type "str") (.type "int")=some false/\PySem.W.kitOne K (.type "str") (.type "bool")=some false/\PySem.W.kitOne K (.type "str") (.type "list")=some false/\PySem.W.kitOne K (.type "str") (.type "tuple")=some false/\
  PySem.W.kitOne K (.type "list") (.type "int")=some false/\PySem.W.kitOne K (.type "list") (.type "bool")=some false/\PySem.W.kitOne K (.type "list") (.type "str")=some false/\PySem.W.kitOne K (.type "list") (.type "tuple")=some false/\PySem.W.kitOne K (.type "list") (.type "list")=some true:=by refine ⟨?_,?_,?_,?_,?_,?_,?_,?_,?_⟩<;>first | kernel_rfl | rfl
theorem BX {K:PySem.W.Frag}:PySem.W.kitOne K (.type "tuple") (.type "int")=some false/\PySem.W.kitOne K (.type "tuple") (.type "bool")=some false/\PySem.W.kitOne K (.type "tuple") (.type "list")=some false/\PySem.W.kitOne K (.type "tuple") (.type "str")=some false:=by refine ⟨?_,?_,?_,?_⟩<;>kernel_rfl
noncomputable def Hb:D->String
 | .non => "NoneType"
 | .bl _ => "bool"
 | .int _ => "int"
 | .str _ => "str"
 | .tup _ => "tuple"
 | .lst _ => "list"
 | .dic _ _ => "dict"
 | .exc _ => "x"
 | .obj _ _ _ => "x"
theorem jU {K:PySem.W.Frag} {T:qD} {d:D} {b:Bool} (h:g_ T d=some b):PySem.W.kitOne K (.type (Hb d)) (.type T.nm)=some b:=by
 obtain ⟨x1,x2,x3,x4,x5,x6,x7,x8,x9⟩:=BV (K:=K)
 obtain ⟨y1,y2,y3,y4,y5,y6,y7,y8,y9⟩:=BW (K:=K)
 obtain ⟨z1,z2,z3,z4⟩:=BX (K:=K)
 cases T<;>cases d<;>cases h
 all_goals first | exact BQ | exact BO | exact BP | exact BN | exact BS | exact BR | exact BU | exact BT | assumption
noncomputable def E3 (K:PySem.W.Frag) (T:qD):List V->Hp->VK->Prop:=fun xs H Q=>∃ x d b,xs=[x,.ty T.nm]/\zZ K H d x/\g_ T d=some b/\Q (.bl b) H
theorem LC {X:Cx} (T:qD):xT X (.builtin "isinstance") (E3 X.K T):=by
 intro pins s σ H xs us Q I r h
 obtain ⟨x,d,b,rfl,rd,e,q⟩:=h
 obtain ⟨u,c,rfl,rx,rc⟩:=Yi r
 cases (show c=Value.type T.nm from rc)
 have fin:∀ tk,EP X pins σ Q (.bool b) { s with toks:=tk }:=fun tk=>⟨.bl b,H,I.tok tk,rfl,q⟩
 cases d with
 | non=>cases (show x=_ from rd); exact Zr I rx .non (jU (d:=.non) e) fin
 | bl y=>cases (show x=_ from rd); exact Zr I rx (.bl _) (jU (d:=.bl y) e) fin
 | int y=>cases (show x=_ from rd); exact Zr I rx (.int _) (jU (d:=.int y) e) fin
 | str y=>cases (show x=_/\_ from rd).1; exact Zr I rx (.str _) (jU (d:=.str y) e) fin
 | tup ds=>
  obtain ⟨a,vs,rfl,sq,_⟩:=rd
  cases (show u=Value.ref a from rx)
  obtain ⟨its,_,⟨o,h1,h2,_⟩,_⟩:=I.tuple sq
  exact PySem.W.kia_one PySem.W.kitx_tuple I.kIn ⟨o,h1,h2⟩ (jU (d:=.tup ds) e) (fun z=>nomatch z) fin
 | lst ds=>
  obtain ⟨a,vs,rfl,sq,_⟩:=rd
  cases (show u=Value.ref a from rx)
  obtain ⟨its,_,⟨o,n,h1,h2,_⟩,_⟩:=I.list sq
  exact PySem.W.kia_one PySem.W.kitx_list I.kIn ⟨o,h1,h2⟩ (jU (d:=.lst ds) e) (fun z=>nomatch z) fin
 | dic ks ds=>cases T<;>cases e
 | exc _=>cases T<;>cases e
 | obj _ _ _=>cases T<;>cases e
theorem Ep {X:Cx} {a:Expr} {f:FE} {x:Str} {p p1 pos:Pos} (T:qD) (hg:Gl X "isinstance") (hgT:Gl X x) (hm:X.mg "isinstance" = none) (hmT:X.mg x=none) (hv:bootBuiltins x=some (.type T.nm)) (ha:SB X a f) (hs:yi a=true:=by rfl)
  (hn:x ≠ "__name__" := by decide) (hd:(x == ("__debug__" : Str))=false:=by decide):SE X (.Call (.Name "isinstance" p) [a,.Name x p1] [] pos) (ZV T f):=by
 obtain ⟨t,pt,k⟩:=ha.h
 refine ⟨⟨_,(Vc (LC T) hg hm L8 (Vb ⟨pt⟩ (Vb (Cq hgT hmT hv hn hd) Jg rfl) hs) (by decide) (by decide) (by rw [List.all_cons,hs]; rfl)).h,fun {G0 H0 G H τ σ d Q} E hf q=>?_⟩⟩
 obtain ⟨z,hz,hf⟩:=zM hf
 obtain ⟨b,hb,hf⟩:=zM hf
 cases hf
 exact k E hz fun v G' H' x r=>⟨v,z,b,rfl,r,hb,q _ _ _ x rfl⟩
end L3
namespace L3
open PySem
theorem Uy {c:FT} {b:FS}:∀ {n:Nat} {σ:yD} {fl:Fl} (k:Nat),w_ c b n σ=some fl->w_ c b (n+k) σ=some fl
 | 0,_,_,_,h=>by cases h
 | n+1,σ,fl,k,h=>by
  rw [Nat.succ_add]
  unfold w_ at h ⊢
  cases hc:c σ with
  | none=>rw [hc] at h; cases h
  | some kk=>
   rw [hc] at h
   cases kk with
   | false=>exact h
   | true=>
    change (b σ).bind _=_ at h
    show (b σ).bind _=_
    cases hb:b σ with
    | none=>rw [hb] at h; cases h
    | some f=>
     rw [hb] at h
     cases f with
     | nx τ=>exact Uy k h
     | ct τ=>exact Uy k h
     | bk τ=>exact h
     | rt o d=>exact h
theorem Vk {c:FT} {b:FS} {σ:yD} {fl:Fl} (n:Nat) (h:w_ c b n σ=some fl) (hn:n<=Z0:=by decide):kP c b σ=some fl:=by
 have e:=Uy (Z0 - n) h
 rw [Nat.add_sub_of_le hn] at e
 exact e
theorem Ux {c:FT} {b:FS} {σ σ':yD} {n:Nat} (hc:c σ=some true) (hb:b σ=some (.nx σ')):w_ c b (n+1) σ=w_ c b n σ':=by
 show (c σ).bind _=_
 rw [hc]
 show (b σ).bind _=_
 rw [hb]
 rfl
theorem Uw {c:FT} {b:FS} {σ:yD} {n:Nat} (hc:c σ=some false):w_ c b (n+1) σ=some (.nx σ):=by
 show (c σ).bind _=_
 rw [hc]
 rfl
theorem uK {g:FG} {b:FS} (P:Nat->yD->Prop):∀ {ds:List D} {σ:yD} (n:Nat),P n σ->(∀ i d σ,ds[i]?=some d->P (n+i) σ->∃ σ1 σ2,g d σ=some σ1/\(b σ1=some (.nx σ2)\/b σ1=some (.ct σ2))/\P (n+i+1) σ2)->
  ∃ σ',uJ g b ds σ=some (.nx σ')/\P (n+ds.length) σ'
 | [],σ,n,h,_=>⟨σ,rfl,h⟩
 | d::ds,σ,n,h,step=>by
  obtain ⟨σ1,σ2,e1,e2,p2⟩:=step 0 d σ rfl h
  obtain ⟨σ',e3,p3⟩:=uK P (ds:=ds) (σ:=σ2) (n+1) p2 fun i d' τ hd hp=>by
   obtain ⟨a,b',c1,c2,c3⟩:=step (i+1) d' τ (by simpa using hd) (by rw [show n+(i+1)=n+1+i by omega]; exact hp)
   exact ⟨a,b',c1,c2,by rw [show n+1+i+1=n+(i+1)+1 by omega]; exact c3⟩
  refine ⟨σ',?_,by rw [List.length_cons,show n+(ds.length+1)=n+1+ds.length by omega]; exact p3⟩
  show (g d σ).bind _=_
  rw [e1]
  show (b σ1).bind _=_
  rcases e2 with e2 | e2
  ·rw [e2]; exact e3
  ·rw [e2]; exact e3
theorem qU {a b:FS} {σ σ':yD} (h:a σ=some (.nx σ')):zI a b σ=b σ':=by
 show (a σ).bind _=_
 rw [h]
 rfl
theorem Mn {c:FT} {a b:FS} {σ:yD} (h:c σ=some true):zj c a b σ=a σ:=by
 show (c σ).bind _=_
 rw [h]
 rfl
noncomputable abbrev xn (j:Nat):List D:=(List.range j).map fun k:Nat=>D.int k
theorem pO {f:FE} {τ:yD} {n:Int} (h:f τ=some (.int n)) (h1:n.natAbs<=1000000):vE (eC (.int 0)) f τ=some (xn n.toNat):=by
 unfold vE
 rw [h]
 show (if (0:Int).natAbs<=yA/\n.natAbs<=yA/\(n - 0).toNat<=yA then _ else _)=_
 rw [if_pos ⟨by decide,by show _<=16777216; omega,by show _<=16777216; omega⟩,Int.sub_zero]
 simp only [Int.zero_add]
end L3
namespace L3
noncomputable def shx:=
 And.intro yQ.eq_1 <| And.intro zI.eq_1 <| And.intro zQ.eq_1 <| And.intro wz.eq_1 <| And.intro zk.eq_1 <| And.intro pS.eq_1 <| And.intro tR.eq_1 <| And.intro zj.eq_1 <| And.intro yB.eq_1 <| And.intro qR.eq_1 <|
 And.intro EO.eq_1 <| And.intro xl.eq_1 <| And.intro wc.eq_1 <| And.intro uJ.eq_1 <| And.intro uJ.eq_2 <| And.intro e1.eq_1 <| And.intro e2.eq_1 <| And.intro eL.eq_1 <| And.intro eC.eq_1 <| And.intro z6.eq_1 <| And.intro uE.eq_1 <|
 And.intro z8.eq_1 <| And.intro zD.eq_1 <| And.intro tE.eq_1 <| And.intro qm.eq_def <| And.intro ju.eq_1 <| And.intro uz.eq_1 <| And.intro YZ.eq_1 <| And.intro ZS.eq_1 <| And.intro Ls.eq_1 <| And.intro Lr.eq_1 <| And.intro uh.eq_1 <|
 And.intro yX.eq_1 <| And.intro yb.eq_1 <| And.intro ZV.eq_1 <| And.intro g_.eq_def <| And.intro fI.eq_def <| And.intro xq.eq_def <| And.intro ye.eq_def <| And.intro Zd.eq_1 <| And.intro tF.eq_1 <| And.intro yI.eq_1 <| And.intro xK.eq_1 <|
 And.intro vB.eq_1 <| And.intro qw.eq_1 <| And.intro Wm.eq_1 <| And.intro uj.eq_def <| And.intro wC.eq_def <| And.intro xh.eq_def <| And.intro qJ.eq_def <| And.intro gg.eq_def <| And.intro jE.eq_def <| And.intro jO.eq_def <|
 And.intro yC.eq_1 <| And.intro wp.eq_1 <| And.intro uo.eq_1 <| And.intro zX.eq_1 <| And.intro ZT.eq_1 <| And.intro w8.eq_1 <|
 And.intro @Option.bind_some.{0,0} <| And.intro @Option.bind_none.{0,0} <| And.intro @List.getElem?_cons_zero.{0} <| And.intro @List.getElem?_cons_succ.{0} <| And.intro @List.set_cons_zero.{0} <| And.intro @List.set_cons_succ.{0} <| And.intro @List.map_cons.{0,0} <| And.intro @List.map_nil.{0,0} <|
 And.intro @List.cons_append.{0} <| And.intro @List.nil_append.{0} <| And.intro @List.length_cons.{0} <| And.intro @List.length_nil.{0} <| And.intro @List.replicate_zero.{0} <| And.intro @List.replicate_succ.{0} <| And.intro Bool.not_true <| And.intro Bool.not_false <|
 And.intro @decide_true <| And.intro @decide_false <| And.intro Bool.and_self <| And.intro Bool.and_true Bool.true_and
end L3
namespace L3
open PySem PySem.Spec PyProof.Rows L2
section
variable {α:Type}
theorem OT:∀ {ks:List zU} {vs:List α} (k:zU),ks.length=vs.length->((ks.zip vs).any fun kv=>decide (kv.1=k))=xL ks k
 | [],[],_,_=>rfl
 | k'::ks,v::vs,k,h=>by
  have ih:=OT (ks:=ks) (vs:=vs) k (by simpa using h)
  show (decide (k'=k)||((ks.zip vs).any fun kv=>decide (kv.1=k)))=(decide (k'=k)||xL ks k)
  rw [ih]
theorem kz:∀ {ks:List zU} {vs:List V} (k:zU),ks.length=vs.length->vO (ks.zip vs) k=getK ks vs k
 | [],[],_,_=>rfl
 | k'::ks,v::vs,k,h=>by
  have ih:=kz (ks:=ks) (vs:=vs) k (by simpa using h)
  by_cases e:k'=k
  ·rw [List.zip_cons_cons,Yh (p:=(k',v)) e]
   show _=(if k'=k then some v else _)
   rw [if_pos e]
  ·rw [List.zip_cons_cons,Yg (p:=(k',v)) e,ih]
   show _=(if k'=k then some v else _)
   rw [if_neg e]
theorem OV:∀ {ks:List zU} {vs:List V} (k:zU) (v:V),ks.length=vs.length->((ks.zip vs).map fun kv=>if kv.1=k then (kv.1,v) else kv)=ks.zip (List.zipWith (fun k' x=>if k'=k then v else x) ks vs)
 | [],[],_,_,_=>rfl
 | k'::ks,u::vs,k,v,h=>by
  have ih:=OV (ks:=ks) (vs:=vs) k v (by simpa using h)
  rw [List.zip_cons_cons,List.map_cons,ih,List.zipWith_cons_cons,List.zip_cons_cons]
  by_cases e:k'=k
  ·rw [if_pos e,if_pos e]
  ·rw [if_neg e,if_neg e]
theorem Hz {ks:List zU} {vs:List V} {k:zU} {v:V} (h:ks.length=vs.length):v_ (ks.zip vs) k v=(vJ ks k).zip (wO ks vs k v):=by
 unfold v_ vJ wO
 rw [OT k h]
 by_cases c:xL ks k=true
 ·rw [if_pos c,if_pos c,if_pos c,OV k v h]
 ·rw [if_neg c,if_neg c,if_neg c,List.zip_append h]
  rfl
theorem Jd {ks:List zU} {vs:List α} {k:zU} {v:α} (h:ks.length=vs.length):(vJ ks k).length=(wO ks vs k v).length:=by
 unfold vJ wO
 split
 ·rw [List.length_zipWith,h,Nat.min_self]
 ·rw [List.length_append,List.length_append,h]
  rfl
theorem Cj {ks:List zU} {vs:List α} {k:zU} {v:α} (h:ks.length=vs.length):(wO ks vs k v).length<=vs.length+1:=by
 unfold wO
 split
 ·rw [List.length_zipWith,h,Nat.min_self]
  exact Nat.le_succ _
 ·rw [List.length_append]
  exact Nat.le_refl _
end
section
variable {K:PySem.W.Frag} {G H:Hp}
theorem Reps.getK:∀ {ks:List zU} {ds:List D} {vs:List V} {k:zU} {d:D},Reps K H ds vs->getK ks ds k=some d->∃ v,getK ks vs k=some v/\zZ K H d v
 | [],_,_,_,_,_,e=>by cases e
 | _::_,[],_,_,_,_,e=>by cases e
 | k'::ks,d'::ds,_,k,d,r,e=>by
  obtain ⟨v,r',rfl,hv,hr⟩:=r
  change (if k'=k then some d' else L3.getK ks ds k)=some d at e
  by_cases c:k'=k
  ·rw [if_pos c] at e
   cases e
   exact ⟨v,by show (if k'=k then some v else _)=_; rw [if_pos c],hv⟩
  ·rw [if_neg c] at e
   obtain ⟨u,hu,ru⟩:=Reps.getK hr e
   exact ⟨u,by show (if k'=k then some v else _)=_; rw [if_neg c]; exact hu,ru⟩
theorem QD {α:Type}:∀ {ks:List zU} {vs:List α} (k:zU),ks.length=vs.length->(getK ks vs k).isSome=xL ks k
 | [],[],_,_=>rfl
 | k'::ks,v::vs,k,h=>by
  have ih:=QD (ks:=ks) (vs:=vs) k (by simpa using h)
  show (if k'=k then some v else getK ks vs k).isSome=(decide (k'=k)||_)
  by_cases c:k'=k
  ·rw [if_pos c,decide_eq_true c]; rfl
  ·rw [if_neg c,decide_eq_false c,ih]; rfl
theorem Reps.zipW {k:zU} {d:D} {v:V} (hv:zZ K H d v):∀ {ks:List zU} {ds:List D} {vs:List V},Reps K H ds vs->Reps K H (List.zipWith (fun k' x=>if k'=k then d else x) ks ds) (List.zipWith (fun k' x=>if k'=k then v else x) ks vs)
 | [],_,_,_=>rfl
 | _::_,[],_,r=>by cases (show _=[] from r); rfl
 | k'::ks,d'::ds,_,r=>by
  obtain ⟨u,r',rfl,hu,hr⟩:=r
  refine ⟨_,_,rfl,?_,Reps.zipW hv hr⟩
  show zZ K H (if k'=k then d else d') (if k'=k then v else u)
  by_cases c:k'=k
  ·rw [if_pos c,if_pos c]; exact hv
  ·rw [if_neg c,if_neg c]; exact hu
theorem Reps.put {ks:List zU} {ds:List D} {vs:List V} {k:zU} {d:D} {v:V} (r:Reps K H ds vs) (hv:zZ K H d v):Reps K H (wO ks ds k d) (wO ks vs k v):=by
 unfold wO
 split
 ·exact Reps.zipW hv r
 ·exact r.append (Reps.one hv)
theorem k6 {x:D} {k:zU} {u:V} (h:jS x=some k) (r:zZ K H x u):u=kV k:=by
 cases x<;>first | (cases h; done) | skip
 ·cases h; exact r
 ·cases h; exact (show u=_/\_ from r).1
end
section
variable {X:Cx} {K:PySem.W.Frag}
noncomputable def Jp:R2:=fun x y H Q=>∃ a kvs k v,x=.ref a/\y=kV k/\Rd H a (.dK kvs)/\vO kvs k=some v/\Q v H
theorem B1:vU X Jp:=by
 intro value slice pins s σ H x y v u Q I rx ry h hs
 obtain ⟨a,kvs,k,z,rfl,rfl,e,l,q⟩:=h
 cases rx
 obtain ⟨_,_,vs,rel,dd⟩:=gc I.hok e
 obtain ⟨w',hw,rw'⟩:=u9.some_of (v:=z) (o:=valueAt vs k) (by rw [<- l]; exact rel.val k)
 exact subscriptTail_builtinR (x:=w') (Lj I (.inl ⟨kvs,k,e,rfl,rfl⟩)) PySem.F.slot_dict_getitem.lookup
  (wpAny_getItem_of (Q:=fun r s'=>r=w'/\EP X pins σ Q r s') (jR ry) dd.mapOf hw ⟨rfl,z,H,I.tok _,rw',q⟩) hs
noncomputable def Jo (K:PySem.W.Frag):R2:=fun x y H Q=>Vf K x y H Q\/Jp x y H Q
theorem za (_:X.A.units+1<cLine):vU X (Jo X.K):=B3.or B1
theorem zb:wI K (Jo K) zF:=fun G H x y u v d Q s rx ry hf q=>by
 cases x with
 | dic ks ds=>
  obtain ⟨a,vs,rfl,sq,l,rs,_⟩:=rx
  obtain ⟨k,hk,hf⟩:=zM hf
  obtain ⟨z,hz,rz⟩:=rs.getK hf
  exact .inr ⟨a,_,k,z,rfl,k6 hk ry,Rd.mono s sq,by rw [kz k l]; exact hz,q _ _ _ (zP.refl s) rz⟩
 | non=>cases hf
 | bl b=>cases hf
 | int b=>cases hf
 | str z=>exact .inl (VR G H (.str z) y u v d Q s rx ry (by cases y<;>exact hf) q)
 | tup z=>exact .inl (VR G H (.tup z) y u v d Q s rx ry (by cases y<;>exact hf) q)
 | lst z=>exact .inl (VR G H (.lst z) y u v d Q s rx ry (by cases y<;>exact hf) q)
 | exc z=>cases hf
 | obj z _ _=>cases hf
theorem Ue {i:Nat} {x:Str} {p pos:Pos} {b:Expr} {fb:FE} (hu:X.A.units+1<cLine) (ho:QE X (.Name x p) (tT i)) (hb:SE X b fb) (hs:jb b=true:=by rfl):SE X (.Subscript (.Name x p) b pos) (e2 zF (uE i) fb):=by
 obtain ⟨tb,pb,kb⟩:=hb.h
 refine ⟨⟨_,VU (za hu) ho.h pb (VX hs),fun {G0 H0 G H τ σ d Q} E hf q=>?_⟩⟩
 obtain ⟨x,hx,hf⟩:=zM hf
 obtain ⟨y,hy,hf⟩:=zM hf
 obtain ⟨o,ho⟩:=Tp hx
 cases o with
 | false=>
  obtain ⟨v,ev,rv⟩:=E.fr _ _ ho
  exact ⟨v,ev,kb E hy fun u G2 H2 x2 r2=>zb G2 H2 x y v u _ _ x2.gh (rv.mono x2.g) r2 hf fun w G' H' x3 r3=>q w G' H' (x2.trans x3) r3⟩
 | true=>
  obtain ⟨p,ev,_,_,o⟩:=E.ow _ _ ho
  refine ⟨_,ev,kb E hy fun u G2 H2 x2 r2=>?_⟩
  cases x with
  | lst ds=>
   obtain ⟨vs,e1,rs,_⟩:=o
   cases y<;>first | (cases hf; done) | skip
   rename_i i
   obtain ⟨w,hw,rw_⟩:=Vi rs hf
   cases r2
   exact .inl (.inl ⟨p,vs,i,w,rfl,rfl,yO.of (x2.h _ _ e1),hw,q _ _ _ x2 (rw_.mono x2.g)⟩)
  | dic ks ds=>
   obtain ⟨vs,e1,l,rs,_⟩:=o
   obtain ⟨k,hk,hf⟩:=zM hf
   obtain ⟨z,hz,rz⟩:=rs.getK hf
   exact .inr ⟨p,_,k,z,rfl,k6 hk r2,.inl (x2.h _ _ e1),by rw [kz k l]; exact hz,q _ _ _ x2 (rz.mono x2.g)⟩
  | _=>exact o.elim
noncomputable def Ve (neg:Bool):R2:=fun x y H Q=>∃ a kvs k,y=.ref a/\x=kV k/\Rd H a (.dK kvs)/\Q (.bl (if neg then !(vO kvs k).isSome else (vO kvs k).isSome)) H
theorem FC (hu:X.A.units+1<cLine):yP X (compareOp .In) (Ve false):=by
 intro pins s σ H x y v u Q I rx ry h
 obtain ⟨a,kvs,k,rfl,rfl,e,q⟩:=h
 cases ry
 exact Lb hu I (.inl ⟨kvs,k,e,rfl,rfl⟩) rx fun s' I'=>⟨.bl _,H,I',rfl,q⟩
theorem FM (hu:X.A.units+1<cLine):yP X (compareOp .NotIn) (Ve true):=by
 intro pins s σ H x y v u Q I rx ry h
 obtain ⟨a,kvs,k,rfl,rfl,e,q⟩:=h
 cases ry
 exact Lc hu I (.inl ⟨kvs,k,e,rfl,rfl⟩) rx fun s' I'=>⟨.bl _,H,I',rfl,q⟩
noncomputable def kN (K:PySem.W.Frag) (neg:Bool):R2:=fun x y H Q=>Vd K neg x y H Q\/(∃ i j,x=.str i/\y=.str j/\Q (.bl (if neg then !(!(Builtin.Str.occurrences j i 0 j.length 1).isEmpty) else !(Builtin.Str.occurrences j i 0 j.length 1).isEmpty)) H)\/Ve neg x y H Q
theorem vI (hu:X.A.units+1<cLine):yP X (compareOp .In) (kN X.K false):=FD.or (FH.or (FC hu))
theorem JI (hu:X.A.units+1<cLine):yP X (compareOp .NotIn) (kN X.K true):=FN.or (FP.or (FM hu))
theorem kO {H:Hp} {x:D} {u:V} (hx:yL x=true) (rx:zZ K H x u):∀ {ys:List D} {vs:List V},Reps K H ys vs->ys.all yL=true->vs.all wo=true/\Zq u vs=ys.any fun y=>yW y x
 | [],_,r,_=>by cases (show _=[] from r); exact ⟨rfl,rfl⟩
 | y::ys,_,r,h=>by
  obtain ⟨v,r',rfl,hv,hr⟩:=r
  rw [List.all_cons,Bool.and_eq_true] at h
  obtain ⟨a,b⟩:=kO hx rx hr h.2
  refine ⟨by rw [List.all_cons,qQ h.1 hv,a]; rfl,?_⟩
  show (wM v u||Zq u r')=(yW y x||_)
  rw [pP h.1 hx hv rx,b]
theorem QU {neg:Bool} {H:Hp} {x y:D} {u v:V} {k:Bool} {Q:VK} (rx:zZ K H x u) (ry:zZ K H y v) (hf:tD x y=some k) (q:Q (.bl (if neg then !k else k)) H):kN K neg u v H Q:=by
 cases y with
 | lst ys=>
  obtain ⟨a,vs,rfl,sq,rs,_⟩:=ry
  change (match yL x&&ys.all yL with | true=>some (ys.any fun y=>yW y x) | false=>none)=some k at hf
  cases c:(yL x&&ys.all yL) with
  | false=>rw [c] at hf; cases hf
  | true=>
   rw [c] at hf
   cases hf
   rw [Bool.and_eq_true] at c
   obtain ⟨c1,c2⟩:=kO c.1 rx rs c.2
   exact .inl ⟨a,vs,rfl,.inl sq,qQ c.1 rx,c1,by rw [c2]; exact q⟩
 | tup ys=>
  obtain ⟨a,vs,rfl,sq,rs,_⟩:=ry
  change (match yL x&&ys.all yL with | true=>some (ys.any fun y=>yW y x) | false=>none)=some k at hf
  cases c:(yL x&&ys.all yL) with
  | false=>rw [c] at hf; cases hf
  | true=>
   rw [c] at hf
   cases hf
   rw [Bool.and_eq_true] at c
   obtain ⟨c1,c2⟩:=kO c.1 rx rs c.2
   exact .inl ⟨a,vs,rfl,.inr sq,qQ c.1 rx,c1,by rw [c2]; exact q⟩
 | str j=>
  cases x<;>first | (cases hf; done) | skip
  rename_i i
  cases hf
  exact .inr (.inl ⟨i,j,(show u=_/\_ from rx).1,(show v=_/\_ from ry).1,q⟩)
 | dic ks ds=>
  obtain ⟨kk,hk,hf⟩:=zM hf
  cases hf
  obtain ⟨a,vs,rfl,sq,l,rs,_⟩:=ry
  refine .inr (.inr ⟨a,_,kk,rfl,k6 hk rx,sq,?_⟩)
  rw [kz kk l,QD kk l]
  exact q
 | _=>cases hf
theorem vH:u8 K (kN K false) yY:=fun H x y u v d Q rx ry hf=>by
 obtain ⟨k,hk,hf⟩:=zM hf
 cases hf
 exact ⟨_,rfl,fun q=>QU rx ry hk q⟩
theorem JE:u8 K (kN K true) gi:=fun H x y u v d Q rx ry hf=>by
 obtain ⟨k,hk,hf⟩:=zM hf
 cases hf
 exact ⟨_,rfl,fun q=>QU rx ry hk q⟩
theorem Id {pos:Pos}:SF X (.Dict [] [] pos) (eC (.dic [] [])):=⟨⟨_,Fi,fun {G0 H0 G H τ σ d Q} E hf q p hp=>by
 cases hf
 exact q p G _ (zP.layO E.ext.gh hp) hp (E.ext.gh.free hp) ⟨[],yT,rfl,rfl,Nat.zero_le _⟩⟩⟩
theorem Ip {i:Nat} {x:Str} {xp pos pos':Pos} {k v:Expr} {fk fv:FE} (hu:X.A.units+1<cLine) (ho:QE X (.Name x xp) (tT i)) (hk:SE X k fk) (hv:SE X v fv) (hs:swapsWith v (some (.Subscript (.Name x xp) k pos')) pos.line X.env=pure false:=by rfl) :
  SS X (.Assign [.Subscript (.Name x xp) k pos'] v pos) (pR i fk fv):=by
 obtain ⟨tk,pk,kk⟩:=hk.h
 obtain ⟨tv,pv,kv⟩:=hv.h
 refine ⟨⟨_,CQ hu ho.h pk pv hs,fun {G0 H0 G H τ σ fl E} K hf q=>?_⟩⟩
 obtain ⟨y,hy,hf⟩:=zM hf
 refine kv K hy fun w G1 H1 x1 r1=>?_
 split at hf
 ·rename_i ks ds hd
  obtain ⟨xk,hx,hf⟩:=zM hf
  obtain ⟨key,hkey,hf⟩:=zM hf
  by_cases c:ks.length<yA
  ·rw [if_pos c] at hf
   cases hf
   have K1:=K.go x1
   obtain ⟨a,ea,g,z,vs,ev,l,rs,hl⟩:=K1.ow _ _ hd
   refine ⟨_,ea,kk K1 hx fun u G2 H2 x2 r2=>⟨a,_,rfl,.inl ⟨_,key,x2.h _ _ ev,k6 hkey r2,?_,rfl⟩,?_⟩⟩
   ·rw [List.length_zip,l,Nat.min_self,sizeLine_eq,<- l]; exact c
   ·refine q _ _ _ ((K1.go x2).mut hd ea ⟨wO ks vs key w,?_,Jd l,(rs.mono x2.g).put (r1.mono x2.g),?_⟩)
    ·rw [yT,Hz l]
    ·have h1:=Cj (ks:=ks) (vs:=ds) (k:=key) (v:=y) (by rw [l,rs.length])
     have h2:ds.length<16777216:=by rw [<- rs.length,<- l]; exact c
     rw [sizeLine_eq]
     omega
  ·rw [if_neg c] at hf
   cases hf
 ·cases hf
noncomputable def wg (K:PySem.W.Frag) (w:World) (a:Addr) (ks:List zU) (ds:List D):Prop:=
 ∃ us:List V,ks.length=us.length/\(a == sysModules)=false/\(∀ H,Reps K H ds us)/\∀ (P:Program) (h:Heap),K.In h->∃ vs,KV (ks.zip us) vs/\h.DictOf (xG P w) a vs
inductive ua (w:World):List DictEntry->List Str->List Value->Prop
 | nil:ua w [] [] []
 | cons {x:Str} {t:Tok} {v:Value} {es:List DictEntry} {xs:List Str} {vs:List Value} (r:ua w es xs vs):ua w (⟨PyData.keyHash w.params x,.str x t,v⟩::es) (x::xs) (v::vs)
theorem ua.pairs {w:World} {P:Program}:∀ {es:List DictEntry} {xs:List Str} {vs:List Value},ua w es xs vs->Pairs (xG P w) es ((xs.map Sum.inr).zip vs)/\(∀ e∈es,∃ k,(xG P w).is k e.key=true/\e.hash=(xG P w).hash k)
 | _,_,_,.nil=>⟨.nil,fun e h=>absurd h (by simp)⟩
 | _,_,_,.cons (x:=x) (t:=t) r=>by
  obtain ⟨a,b⟩:=ua.pairs (P:=P) r
  refine ⟨.cons (VL P w x t) rfl a,fun e h=>?_⟩
  rcases List.mem_cons.mp h with rfl | h
  ·exact ⟨.inr x,VL P w x t,rfl⟩
  ·exact b e h
theorem ua.len {w:World}:∀ {es:List DictEntry} {xs:List Str} {vs:List Value},ua w es xs vs->xs.length=vs.length
 | _,_,_,.nil=>rfl
 | _,_,_,.cons r=>by rw [List.length_cons,List.length_cons,r.len]
theorem V7:∀ {ks:List zU} {us:List V} {vs:List Value},zi us vs->ks.length=us.length->KV (ks.zip us) (ks.zip vs)
 | [],_,_,.nil,_=>.nil
 | k::ks,_,_,.cons r t,h=>.cons ⟨rfl,r⟩ (V7 t (by simpa using h))
theorem U_:∀ {ks:List zU} {vs:List Value},ks.length=vs.length->(ks.zip vs).map (·.1)=ks
 | [],[],_=>rfl
 | k::ks,v::vs,h=>by rw [List.zip_cons_cons,List.map_cons,U_ (by simpa using h)]
theorem jI {w:World} {a:Addr} {es:List DictEntry} {n:Nat} {xs:List Str} {vs:List Value} {us:List V} {ds:List D} (l:K.lookup a=some { cls:=.type "dict",data:=.dict es.toArray n }) (e:ua w es xs vs) (nd:xs.Nodup) (hs:(a == sysModules)=false) (r:zi us vs) (rd:∀ H,Reps K H ds us) :
  wg K w a (xs.map .inr) ds:=by
 have hl:(xs.map Sum.inr:List zU).length=us.length:=by rw [List.length_map,e.len,r.length]
 refine ⟨us,hl,hs,rd,fun P h KI=>⟨_,V7 r hl,?_⟩⟩
 obtain ⟨p,q⟩:=e.pairs (P:=P)
 refine ⟨_,_,_,KI _ _ l,⟨rfl,rfl,rfl⟩,rfl,fun e he=>q e (by simpa using he),p,?_⟩
 rw [U_ (by rw [List.length_map]; exact e.len)]
 exact List.Pairwise.map _ (fun a b h z=>h (Sum.inr.inj z)) nd
theorem M7 {A:Addr} {ks:List zU} {ds:List D} (g:wg X.K X.w A ks ds):vU X (fun x y H Q=>x=.ref A/\∃ k,y=kV k/\∃ d,getK ks ds k=some d/\∀ v,(∀ H,∃ H',yN H H'/\True)->(∀ H,zZ X.K H d v)->Q v H):=by
 intro value slice pins s σ H x y v u Q I rx ry h hs
 obtain ⟨rfl,k,rfl,d,hd,q⟩:=h
 cases rx
 obtain ⟨us,hl,hsys,rd,mk⟩:=g
 obtain ⟨vs,rel,dd⟩:=mk X.prog s.heap I.kIn
 obtain ⟨z,hz,_⟩:=(rd H).getK hd
 have rz:∀ H,zZ X.K H d z:=fun H'=>by
  obtain ⟨z',hz',r'⟩:=(rd H').getK hd
  rw [hz] at hz'
  cases hz'
  exact r'
 obtain ⟨w',hw,rw'⟩:=u9.some_of (v:=z) (o:=valueAt vs k) (by rw [<- hz,<- kz k hl]; exact rel.val k)
 exact subscriptTail_builtinR (x:=w') dd.typeIs PySem.F.slot_dict_getitem.lookup
  (wpAny_getItem_of (Q:=fun r s'=>r=w'/\EP X pins σ Q r s') (jR ry) dd.mapOf hw ⟨rfl,z,H,I.tok _,rw',q z (fun H=>⟨H,yN.refl H,trivial⟩) rz⟩) hs
theorem uT {A:Addr} {ks:List zU} {ds:List D} {x:Str} {p pos:Pos} {b:Expr} {fb:FE} (h:yt X.mg x (.ref A)) (g:wg X.K X.w A ks ds) (hg:Gl X x) (hb:SE X b fb) (hs:jb b=true:=by rfl) (hd:(x == ("__debug__" : Str))=false:=by decide) :
  SE X (.Subscript (.Name x p) b pos) (e1 (yy ks ds) fb):=by
 obtain ⟨tb,pb,kb⟩:=hb.h
 refine ⟨⟨_,VU (M7 g) (kI h hg hd) pb (VX hs),fun {G0 H0 G H τ σ d Q} E hf q=>?_⟩⟩
 obtain ⟨y,hy,hf⟩:=zM hf
 obtain ⟨k,hk,hf⟩:=zM hf
 exact kb E hy fun u G2 H2 x2 r2=>⟨rfl,k,k6 hk r2,d,hf,fun v _ rv=>q v _ _ x2 (rv _)⟩
end
end L3
namespace L3
open PySem PySem.Spec PyProof.Rows L2
noncomputable def vN:D->Option (List D)
 | .lst xs=>some xs
 | .tup xs=>some xs
 | _=>none
noncomputable def vd (a b:FE):FA:=fun σ=>(a σ).bind fun x=>(b σ).bind fun y=>(vN x).bind fun xs=>(vN y).bind fun ys=>some (List.zipWith (fun x y=>D.tup [x,y]) xs ys)
section
variable {K:PySem.W.Frag} {G H:Hp}
theorem IZ {x:D} {xs:List D} {u:V} (h:vN x=some xs) (r:zZ K G x u):∃ t a vs,u=.ref a/\wX K t G a vs/\Reps K G xs vs/\xs.length<=sizeLine:=by
 cases x<;>first | (cases h; done) | skip
 ·cases h
  obtain ⟨a,vs,rfl,sq,rs,l⟩:=r
  exact ⟨true,a,vs,rfl,sq,rs,l⟩
 ·cases h
  obtain ⟨a,vs,rfl,sq,rs,l⟩:=r
  exact ⟨false,a,vs,rfl,sq,rs,l⟩
theorem qY {H':Hp} {t:Bool} {a:Addr} {vs:List V} (s:yN H H') (h:wX K t H a vs):wX K t H' a vs:=by
 cases t
 ·exact xR s h
 ·exact wP s h
theorem H_ {t1 t2:Bool} {a b:Addr} {vs us:List V} {xs ys:List D} (s1:wX K t1 G a vs) (s2:wX K t2 G b us) (r1:Reps K G xs vs) (r2:Reps K G ys us):vp K (Xv K t1 t2 a b) G (List.zipWith (fun x y=>D.tup [x,y]) xs ys) where
 go:=fun i G2 H g1 g2 hi=>by
  rw [List.length_zipWith] at hi
  obtain ⟨v,e1,_⟩:=r1.get (List.getElem?_eq_getElem (show i<xs.length by omega))
  obtain ⟨u,e2,_⟩:=r2.get (List.getElem?_eq_getElem (show i<ys.length by omega))
  exact ⟨vs,us,v,u,qY (g1.trans g2) s1,qY (g1.trans g2) s2,e1,e2⟩
 yld:=fun i G2 H x H' g1 g2 hi y=>by
  obtain ⟨p,hp,rfl,k⟩:=y
  obtain ⟨v,u,e1,e2,rfl⟩:=k vs us (qY (g1.trans g2) s1) (qY (g1.trans g2) s2)
  obtain ⟨d1,f1,q1⟩:=r1.at e1
  obtain ⟨d2,f2,q2⟩:=r2.at e2
  refine ⟨zV G2 p (.tup [v,u]),.tup [d1,d2],zP.lay g2 hp,by rw [List.getElem?_zipWith,f1,f2],?_⟩
  have sm:yN G (zV G2 p (.tup [v,u])):=g1.trans (xm (g2.free hp) _)
  exact ⟨p,[v,u],rfl,yd.of yT,⟨v,_,rfl,q1.mono sm,⟨u,_,rfl,q2.mono sm,rfl⟩⟩,small (n:=2) (by decide)⟩
 stop:=fun i G2 H g1 g2 hi=>by
  rw [List.length_zipWith] at hi
  refine ⟨vs,us,qY (g1.trans g2) s1,qY (g1.trans g2) s2,?_⟩
  rw [r1.length,r2.length]
  omega
end
section
variable {X:Cx} {a b e o:Expr} {fa fb f:FE} {p pos apos cpos:Pos}
theorem Ig {elts:List Expr} {kk:Nat} {tp:Pos} (hg:Gl X "zip") (hm:X.mg "zip" = none) (ha:SE X a fa) (hb:SE X b fb) (hs:yi a=true:=by rfl) (hs2:yi b=true:=by rfl):SI X (.Tuple elts kk tp) (.Call (.Name "zip" p) [a,b] [] pos) (vd fa fb):=by
 obtain ⟨t,pt,k⟩:=(zA ha (zA hb zK hs2) hs).h
 refine ⟨⟨_,(Cw hg hm ⟨pt⟩ hs hs2).h,fun {G0 H0 G H τ σ ds R} K hf q=>?_⟩⟩
 obtain ⟨x,hx,hf⟩:=zM hf
 obtain ⟨y,hy,hf⟩:=zM hf
 obtain ⟨xs,hxs,hf⟩:=zM hf
 obtain ⟨ys,hys,hf⟩:=zM hf
 cases hf
 refine k K (ds:=[x,y]) (by unfold z8; rw [hx,hy]; rfl) fun vs G1 H1 x1 r1=>?_
 obtain ⟨v,r,rfl,hv,⟨v2,r2,rfl,hv2,hr⟩⟩:=r1
 cases (show r2=[] from hr)
 obtain ⟨t1,a1,vs1,rfl,s1,q1,l1⟩:=IZ hxs hv
 obtain ⟨t2,a2,vs2,rfl,s2,q2,l2⟩:=IZ hys hv2
 refine ⟨a1,a2,vs1,vs2,t1,t2,rfl,qY x1.gh s1,qY x1.gh s2,q _ _ _ x1 ?_ (H_ s1 s2 q1 q2)⟩
 rw [List.length_zipWith]
 omega
noncomputable abbrev FO:=yD->Option (Option Int)
noncomputable def xY:FO:=fun _=>some none
noncomputable def xZ (f:FE):FO:=fun σ=>(f σ).bind fun d=>match d with
 | .int i=>some (some i)
 | _=>none
noncomputable def uf {α:Type} (xs:List α) (lo hi:Option Int):List α:=(xs.drop (HT.sIx xs.length 0 lo)).take (HT.sIx xs.length xs.length hi - HT.sIx xs.length 0 lo)
noncomputable def qK (d:D) (lo hi:Option Int):Option D:=match d with
 | .lst xs=>some (.lst (uf xs lo hi))
 | .tup xs=>if HT.sIx xs.length 0 lo=0/\HT.sIx xs.length xs.length hi=xs.length then none else some (.tup (uf xs lo hi))
 | .str z=>some (.str (cutS z lo hi))
 | _=>none
noncomputable def wn (a:FE) (lo hi:FO):FE:=fun σ=>(a σ).bind fun d=>(lo σ).bind fun l=>(hi σ).bind fun h=>qK d l h
structure SO (X:Cx) (e:Option Expr) (f:FO):Prop where
 h:∃ t,PO X e t/\∀ {G0 H0 G H:Hp} {τ:yD} {σ:St} {d:Option Int} {Q:Option Int->Hp->Prop},zo X.K X.N.length G0 H0 G H τ σ->f τ=some d->(∀ G' H',zP G H G' H'->Q d H')->t σ H Q
theorem pY:SO X none xY:=⟨⟨_,CM,fun E hf q=>by cases hf; exact q _ _ (zP.refl E.ext.gh)⟩⟩
theorem pZ (h:SE X e f):SO X (some e) (xZ f):=by
 obtain ⟨t,pt,k⟩:=h.h
 refine ⟨⟨_,CN pt,fun {G0 H0 G H τ σ d Q} E hf q=>?_⟩⟩
 obtain ⟨x,hx,hf⟩:=zM hf
 cases x<;>first | (cases hf; done) | skip
 cases hf
 exact k E hx fun v G' H' x r=>⟨_,r,q _ _ x⟩
theorem Reps.cut {K:PySem.W.Frag} {G:Hp} {ds:List D} {vs:List V} (r:Reps K G ds vs) (lo hi:Option Int):Reps K G (uf ds lo hi) (qH vs lo hi):=by
 unfold uf qH
 rw [r.length]
 exact (r.drop _).take _
theorem ZP {α:Type} (xs:List α) (lo hi:Option Int):(uf xs lo hi).length<=xs.length:=by
 unfold uf
 rw [List.length_take,List.length_drop]
 omega
noncomputable def E9 (K:PySem.W.Frag):V->Option Int->Option Int->Hp->VK->Prop:=fun x lo hi H Q=>Ju K x lo hi H Q\/Jw K x lo hi H Q\/Jv x lo hi H Q
theorem Ij:ud X (E9 X.K):=GE.or (GG.or GF)
theorem kZ {lo hi:Option Expr} {fl fh:FO} {p2:Pos} (ha:SE X a fa) (hl:SO X lo fl) (hh:SO X hi fh):SE X (.Subscript a (.Slice lo hi none p2) pos) (wn fa fl fh):=by
 obtain ⟨ta,pa,ka⟩:=ha.h
 obtain ⟨tl,pl,kl⟩:=hl.h
 obtain ⟨th,ph,kh⟩:=hh.h
 refine ⟨⟨_,JT Ij pa pl ph,fun {G0 H0 G H τ σ d Q} E hf q=>?_⟩⟩
 obtain ⟨x,hx,hf⟩:=zM hf
 obtain ⟨l,hl,hf⟩:=zM hf
 obtain ⟨h,hh,hf⟩:=zM hf
 refine ka E hx fun v G1 H1 x1 r1=>kl (E.go x1) hl fun G2 H2 x2=>kh ((E.go x1).go x2) hh fun G3 H3 x3=>?_
 have xx:=x1.trans (x2.trans x3)
 have r3:=r1.mono (x2.g.trans x3.g)
 cases x with
 | lst xs=>
  cases hf
  obtain ⟨a,vs,rfl,sq,rs,ll⟩:=r3
  refine .inl ⟨a,vs,rfl,xR x3.gh sq,fun p hp=>q _ _ _ (xx.trans (zP.lay x3.gh hp)) ⟨p,_,rfl,yO.of yT,(rs.cut l h).mono (xm (x3.gh.free hp) _),Nat.le_trans (ZP ..) ll⟩⟩
 | tup xs=>
  change (if HT.sIx xs.length 0 l=0/\HT.sIx xs.length xs.length h=xs.length then none else some (D.tup (uf xs l h)))=some d at hf
  by_cases c:HT.sIx xs.length 0 l=0/\HT.sIx xs.length xs.length h=xs.length
  ·rw [if_pos c] at hf
   cases hf
  ·rw [if_neg c] at hf
   cases hf
   obtain ⟨a,vs,rfl,sq,rs,ll⟩:=r3
   refine .inr (.inl ⟨a,vs,rfl,wP x3.gh sq,by rw [rs.length]; exact c,fun p hp=>?_⟩)
   exact q _ _ _ (xx.trans (zP.lay x3.gh hp)) ⟨p,_,rfl,yd.of yT,(rs.cut l h).mono (xm (x3.gh.free hp) _),Nat.le_trans (ZP ..) ll⟩
 | str z=>
  cases hf
  obtain ⟨rfl,ll⟩:=r3
  exact .inr (.inr ⟨z,rfl,ll,q _ _ _ xx ⟨rfl,Nat.le_trans (cut_len ..) ll⟩⟩)
 | _=>cases hf
noncomputable def Wi:List D->Option D
 | [.lst xs]=>some (.lst xs)
 | [.tup xs]=>some (.lst xs)
 | _=>none
noncomputable def Ze:List D->Option D
 | [.lst xs]=>some (.tup xs)
 | [.tup xs]=>some (.tup xs)
 | _=>none
theorem u0 {K:PySem.W.Frag} {G:Hp} {d:D} {vs:List V} (r:Reps K G [d] vs):∃ v,vs=[v]/\zZ K G d v:=by
 obtain ⟨v,r',rfl,hv,hr⟩:=r
 cases (show r'=[] from hr)
 exact ⟨v,rfl,hv⟩
theorem Ez {fs:FA} (hg:Gl X "list") (hm:X.mg "list" = none) (ha:SA X [e] fs) (hs:yi e=true:=by rfl):SF X (.Call (.Name "list" p) [e] [] pos) (eL Wi fs):=by
 obtain ⟨t,pt,k⟩:=ha.h
 refine ⟨⟨_,(YI LG hg hm Tf ⟨pt⟩ (by decide) (by decide) (by rw [List.all_cons,hs]; rfl)).h,fun {G0 H0 G H τ σ d Q} E hf q=>?_⟩⟩
 obtain ⟨ds,hd,hf⟩:=zM hf
 refine k E hd fun vs G1 H1 x1 r1=>?_
 match ds,hf with
 | [.lst xs],hf=>
  cases hf
  obtain ⟨v,rfl,a,us,rfl,sq,rs,l⟩:=u0 r1
  exact ⟨a,us,rfl,.inl (xR x1.gh sq),fun p hp=>q p _ _ (x1.trans (zP.layO x1.gh hp)) (x1.h.free hp) (x1.gh.free hp) ⟨us,yT,rs,l⟩⟩
 | [.tup xs],hf=>
  cases hf
  obtain ⟨v,rfl,a,us,rfl,sq,rs,l⟩:=u0 r1
  exact ⟨a,us,rfl,.inr (wP x1.gh sq),fun p hp=>q p _ _ (x1.trans (zP.layO x1.gh hp)) (x1.h.free hp) (x1.gh.free hp) ⟨us,yT,rs,l⟩⟩
theorem F0 {K:PySem.W.Frag}:T2 K (fun xs H Q=>∃ p ys,xs=[.ref p]/\((yO K H p ys/\∀ l,H l=none->Q (.ref l) (zV H l (.tup ys)))\/(yd K H p ys/\Q (.ref p) H))) Ze:=fun G H ds vs d Q s r hf q=>by
 match ds,hf with
 | [.lst xs],hf=>
  cases hf
  obtain ⟨v,rfl,a,us,rfl,sq,rs,l⟩:=u0 r
  exact ⟨a,us,rfl,.inl ⟨xR s sq,fun p hp=>q _ _ _ (zP.lay s hp) ⟨p,us,rfl,yd.of yT,rs.mono (xm (s.free hp) _),l⟩⟩⟩
 | [.tup xs],hf=>
  cases hf
  obtain ⟨v,rfl,a,us,rfl,sq,rs,l⟩:=u0 r
  exact ⟨a,us,rfl,.inr ⟨wP s sq,q _ _ _ (zP.refl s) ⟨a,us,rfl,sq,rs,l⟩⟩⟩
noncomputable def jP (x:D):List D->Nat->Option Nat
 | [],_=>none
 | y::ys,n=>match yW y x with
  | true=>some n
  | false=>jP x ys (n+1)
noncomputable def xv:D->D->Option D
 | .lst ys,x=>match yL x&&ys.all yL with
  | true=>(jP x ys 0).bind fun n=>some (.int n)
  | false=>none
 | _,_=>none
theorem V4 {x:D}:∀ {ys:List D} {n m:Nat},jP x ys n=some m->∃ j y,m=n+j/\ys[j]?=some y/\yW y x=true/\∀ i z,i<j->ys[i]?=some z->yW z x=false
 | [],_,_,h=>by cases h
 | y::ys,n,m,h=>by
  change (match yW y x with | true=>some n | false=>jP x ys (n+1))=some m at h
  cases c:yW y x with
  | true=>
   rw [c] at h
   cases h
   exact ⟨0,y,rfl,rfl,c,fun i z hi=>absurd hi (Nat.not_lt_zero _)⟩
  | false=>
   rw [c] at h
   obtain ⟨j,y',e1,e2,e3,e4⟩:=V4 h
   refine ⟨j+1,y',by omega,by simpa using e2,e3,fun i z hi ez=>?_⟩
   cases i with
   | zero=>cases ez; exact c
   | succ i=>exact e4 i z (by omega) (by simpa using ez)
theorem Bt:qC X "list.index" (fun x vs H Q=>∃ (a:Addr) (us:List V) (y:V) (j:Nat) (u:V),x=.ref a/\vs=[y]/\yO X.K H a us/\wo y=true/\us.all wo=true/\us[j]?=some u/\wM u y=true/\(∀ i z,i<j->us[i]?=some z->wM z y=false)/\Q (.int (j:Int)) H):=by
 intro pins s σ H x xs v us' Q I rx rs h
 obtain ⟨a,us,y,j,u,rfl,rfl,sq,fy,fu,eu,hit,no,q⟩:=h
 cases rx
 obtain ⟨w,rfl,ry⟩:=wR rs
 obtain ⟨its,r,⟨⟨c1,d1,t1,sl1⟩,n1,ho,hc,hd,ht⟩,hz⟩:=I.list sq
 simp only at hc ht
 subst hc ht
 have hl:=r.length
 have hj:j<us.length:=(List.getElem?_eq_some_iff.mp eu).1
 have key:∀ (i:Nat) (z:V) (hi:i<its.toArray.size),us[i]?=some z->wB y its.toArray[i]=wM z y:=fun i z hi ez=>by
  obtain ⟨t,et,rt⟩:=r.get ez
  have e:its.toArray[i]=t:=by
   have h2:its[i]?=some its[i]:=List.getElem?_eq_getElem (by rw [List.size_toArray] at hi; exact hi)
   rw [h2] at et
   simpa using et
  rw [e]
  exact ZX rt (List.all_eq_true.mp fu z (List.mem_of_getElem? ez))
 have hjs:j<its.toArray.size:=by rw [List.size_toArray,<- hl]; exact hj
 have hsz:=pG
 refine call_meets PySem.F.slot_list_index ⟨_,ho,rfl⟩ PySem.F.entry_list_index (PySem.F.args_list_index_2 _ _) (SeqAt.list_indexAt a its.toArray n1 d1 sl1 w (wB y) j hjs (by omega) (by rw [key j u hjs eu]; exact hit) fun m hm hlt=>?_) ⟨ho,fun t ht=>?_,⟨.int j,H,I.tok _,⟨_,rfl⟩,q⟩⟩
 ·have hm':m<us.length:=by rw [List.size_toArray,<- hl] at hm; exact hm
  rw [key m us[m] hm (List.getElem?_eq_getElem hm')]
  exact no m _ hlt (List.getElem?_eq_getElem hm')
 ·exact pH ry fy r fu t (by simpa using ht)
theorem Ud {fo:FE} (ho:SE X o fo) (he:SE X e f) (hbase:attributeBase o "index" X.env (eval o X.env)=eval o X.env:=by rfl) (hline:(apos.endLine == cpos.line)=true:=by rfl) (hs:yi e=true:=by rfl) :
  SE X (.Call (.Attribute o "index" apos) [e] [] cpos) (e2 xv fo f):=by
 obtain ⟨to,po,ko⟩:=ho.h
 obtain ⟨te,pe,ke⟩:=(zA he zK hs).h
 refine ⟨⟨_,(pN PySem.F.plainAttrs_list PySem.F.slot_list_index PySem.F.type_list_index Bt ⟨po⟩ ⟨pe⟩ hbase hline (by rw [List.all_cons,hs]; rfl) (by show 1<30; decide)).h,fun {G0 H0 G H τ σ d Q} E hf q=>?_⟩⟩
 obtain ⟨x,hx,hf⟩:=zM hf
 obtain ⟨y,hy,hf⟩:=zM hf
 refine ko E hx fun v G1 H1 x1 r1=>?_
 cases x with
 | lst ys=>
  obtain ⟨a,us,rfl,sq,rs,_⟩:=r1
  refine ⟨.inl ⟨rfl,us,xR x1.gh sq⟩,ke (E.go x1) (ds:=[y]) (by unfold z8; rw [hy]; rfl) fun ws G2 H2 x2 r2=>?_⟩
  obtain ⟨w,rfl,rw_⟩:=u0 r2
  change (match yL y&&ys.all yL with | true=>(jP y ys 0).bind fun n=>some (D.int n) | false=>none)=some d at hf
  cases c:(yL y&&ys.all yL) with
  | false=>rw [c] at hf; cases hf
  | true=>
   rw [c] at hf
   obtain ⟨n,hn,hf⟩:=zM hf
   cases hf
   rw [Bool.and_eq_true] at c
   obtain ⟨j,z,e1,e2,e3,e4⟩:=V4 hn
   rw [Nat.zero_add] at e1
   subst e1
   have rs2:=rs.mono x2.g
   obtain ⟨u,eu,ru⟩:=rs2.get e2
   have fl:∀ {i:Nat} {z:D},ys[i]?=some z->yL z=true:=fun {i z} ez=>List.all_eq_true.mp c.2 z (List.mem_of_getElem? ez)
   refine ⟨a,us,w,n,u,rfl,rfl,xR (x1.gh.trans x2.h) sq,qQ c.1 rw_,(kO c.1 rw_ rs2 c.2).1,eu,by rw [pP (fl e2) c.1 ru rw_]; exact e3,fun i z hi ez=>?_,q _ _ _ (x1.trans x2) rfl⟩
   obtain ⟨dz,ed,rd⟩:=rs2.at ez
   rw [pP (fl ed) c.1 rd rw_]
   exact e4 i dz hi ed
 | _=>cases hf
theorem Io {i:Nat} {x:Str} {op:Operator} {ti:gQ} {F:D->D->Option D} {pos':Pos} (ho:Xy X op ti) (hF:wI X.K ti F) (hN:X.N.Nodup) (hi:X.N[i]?=some x) (hx:uc X.env.scope x) (he:SE X e f) (hf:X.fn x=true\/X.env.scope.names.lookup x=some .local:=by first | exact .inl rfl | exact .inr rfl | assumption) :
  SS X (.AugAssign (.Name x pos') op e pos) (zQ i (e2 F (z6 i) f)):=by
 obtain ⟨t,pt,k⟩:=he.h
 refine ⟨⟨_,CP hN hi hx pt ho hf,fun {G0 H0 G H τ σ fl E} K hf q=>?_⟩⟩
 obtain ⟨d,hd,hf⟩:=zM hf
 cases hf
 obtain ⟨x,hx,hd⟩:=zM hd
 obtain ⟨y,hy,hd⟩:=zM hd
 obtain ⟨v,ev,rv⟩:=K.fr _ _ (Tq hx)
 refine ⟨v,ev,k K hy fun u G1 H1 x1 r1=>hF G1 H1 x y v u d _ x1.gh (rv.mono x1.g) r1 hd fun w G2 H2 x2 r2=>?_⟩
 exact q _ _ _ (((K.go x1).go x2).set (List.getElem?_eq_some_iff.mp hi).1 r2)
theorem JC {K:PySem.W.Frag}:wI K (Qd fun i j=>i+j) (uj fun i j=>i+j):=fun G H x y u v d Q s rx ry hf q=>by
 cases x<;>first | (cases hf; done) | skip
 cases y<;>first | (cases hf; done) | skip
 cases hf
 exact ⟨_,_,rx,ry,q _ _ _ (zP.refl s) rfl⟩
variable {x:Str} {ps:List Str} {j k:Nat} {FF:List D->Option (Bool×D)}
theorem IX (h:yG X.prog X.w X.K X.mg X.base x ps k (yJ X.K FF)) (hr:xH j X.A) (hg:Gl X x) (hk:k<=j:=by decide) (hdb:(x == ("__debug__" : Str))=false:=by decide):SE X (.Call (.Name x p) [] [] pos) (zX FF zD):=by
 obtain ⟨f,fd,hm,kp,b,F⟩:=h
 refine ⟨⟨_,Fe F (hr.mono hk) hg hm kp b .nil JO hdb,fun {G0 H0 G H τ σ d Q} E hf q=>?_⟩⟩
 obtain ⟨ds,hd,hf⟩:=zM hf
 cases hd
 obtain ⟨⟨o,d⟩,hr,hf⟩:=zM hf
 cases hf
 refine ⟨G,[],o,d,E.ext.gh,rfl,hr,?_⟩
 cases o with
 | false=>exact fun v G' H' x2 r=>q v G' H' x2 r
 | true=>
  intro p G' H' x2 hp gp o
  obtain ⟨u,hu,r⟩:=o.frz gp
  exact q _ _ _ (x2.frz hp gp hu) r
end
noncomputable def FR (n N:Nat) (b:FS) (ds:List D):Option (Bool×D):=if ds.length=n then yQ N b ds else none
theorem yR {n N:Nat} {b:FS}:∀ ds r,FR n N b ds=some r->ds.length=n/\yQ N b ds=some r:=fun ds r h=>by
 unfold FR at h
 split at h
 ·rename_i c
  exact ⟨c,h⟩
 ·cases h
end L3
namespace L3
open PySem PySem.Spec PyProof.Rows L2
theorem O9 {M:Model} {A:Around} {E:Value->Shared->Prop} {items:Array Value} {x:Value} {e:Value->Bool} {j:Nat} (hM:∃ prog w,M=model prog w) (hj:j<items.size) (hit:e items[j]=true) (no:∀ m (hm:m<items.size),m<j->e items[m]=false) {s:Shared}
  (he:∀ y∈items,SeqAt.EqAt A s y x (e y)) {Q:Option PySem.Fin×Unit->Shared->Prop} (h:Q (some (.done (.ret (.int j s.toks))),()) { s with toks:=s.toks+1 }):∀ m i:Nat,i+m=items.size->i<=j->
  wpAny M A (forIn (List.range' i m) ((none,()):Option PySem.Fin×Unit) fun (i:Nat) (_:Option PySem.Fin×Unit)=>match items[i]? with
   | some y=>do
    let __do_lift <- eqBool y x
    if __do_lift=true then do
      let __do_lift <- retInt (i:Int)
      pure (ForInStep.done (some __do_lift,()))
     else pure (ForInStep.yield (none,()))
   | _=>pure (ForInStep.yield (none,()))) Q E s
 | 0,i,h1,h2=>by omega
 | m+1,i,h1,h2=>by
  obtain ⟨prog,w,rfl⟩:=hM
  have hi:i<items.size:=by omega
  rw [List.range'_succ,List.forIn_cons]
  refine wpAny_bind ?_
  rw [Array.getElem?_eq_getElem hi]
  refine wpAny_bind (he _ (Array.getElem_mem hi) prog w E _ ?_)
  by_cases c:i=j
  ·subst c
   rw [hit,if_pos rfl]
   wp_walk
   exact h
  ·rw [no i hi (by omega),if_neg (by decide)]
   refine wpAny_pure ?_
   exact O9 ⟨prog,w,rfl⟩ hj hit no he h m (i+1) (by omega) (by omega)
theorem HK (t:Addr) (items:Array Value) (x:Value) (e:Value->Bool) (j:Nat) (hj:j<items.size) (hit:e items[j]=true) (no:∀ m (hm:m<items.size),m<j->e items[m]=false) :
  Meets (Builtin.«tuple.index» ⟨[.ref t,x],[]⟩) (fun A R s=>IsTup s.heap t items/\(∀ y∈items,SeqAt.EqAt A.in1 s y x (e y))/\R (.ok (.ret (.int j s.toks))) { s with toks:=s.toks+1 }):=by
 intro prog w A R s h
 obtain ⟨hp,g,d,tk,os⟩:=s
 obtain ⟨⟨o,ho,hc,n,hd⟩,he,h⟩:=h
 unfold Builtin.«tuple.index»
 wp_walk
 skip
 rw [hd]
 refine wpAny_pure (wpAny_pure ?_)
 show wpAny _ _ (pure 0 >>= _) _ _ _
 refine wpAny_bind (wpAny_pure (wpAny_bind (wpAny_pure (wpAny_bind ?_))))
 rw [Std.Legacy.Range.forIn_eq_forIn_range']
 have hs:Std.Legacy.Range.size [0:min items.size items.size]=items.size:=by simp [Std.Legacy.Range.size]
 rw [hs]
 refine O9 ⟨prog,w,rfl⟩ hj hit no he ?_ items.size 0 (by omega) (by omega)
 exact wpAny_pure h
section
variable {X:Cx} {e o k v:Expr} {f fo fk fv:FE} {x:Str} {xp p pos apos cpos:Pos}
theorem Bu:qC X "tuple.index" (fun x vs H Q=>∃ (a:Addr) (us:List V) (y:V) (j:Nat) (u:V),x=.ref a/\vs=[y]/\yd X.K H a us/\wo y=true/\us.all wo=true/\us[j]?=some u/\wM u y=true/\(∀ i z,i<j->us[i]?=some z->wM z y=false)/\Q (.int (j:Int)) H):=by
 intro pins s σ H x xs v us' Q I rx rs h
 obtain ⟨a,us,y,j,u,rfl,rfl,sq,fy,fu,eu,hit,no,q⟩:=h
 cases rx
 obtain ⟨w,rfl,ry⟩:=wR rs
 obtain ⟨its,r,pt,hz⟩:=I.tuple sq
 have hl:=r.length
 have hj:j<us.length:=(List.getElem?_eq_some_iff.mp eu).1
 have key:∀ (i:Nat) (z:V) (hi:i<its.toArray.size),us[i]?=some z->wB y its.toArray[i]=wM z y:=fun i z hi ez=>by
  obtain ⟨t,et,rt⟩:=r.get ez
  have e:its.toArray[i]=t:=by
   have h2:its[i]?=some its[i]:=List.getElem?_eq_getElem (by rw [List.size_toArray] at hi; exact hi)
   rw [h2] at et
   simpa using et
  rw [e]
  exact ZX rt (List.all_eq_true.mp fu z (List.mem_of_getElem? ez))
 have hjs:j<its.toArray.size:=by rw [List.size_toArray,<- hl]; exact hj
 refine call_meets PySem.F.slot_tuple_index pt.typeIs PySem.F.entry_tuple_index (PySem.F.args_tuple_index_2 _ _) (HK a its.toArray w (wB y) j hjs (by rw [key j u hjs eu]; exact hit) fun m hm hlt=>?_) ⟨pt,fun t ht=>?_,⟨.int j,H,I.tok _,⟨_,rfl⟩,q⟩⟩
 ·have hm':m<us.length:=by rw [List.size_toArray,<- hl] at hm; exact hm
  rw [key m us[m] hm (List.getElem?_eq_getElem hm')]
  exact no m _ hlt (List.getElem?_eq_getElem hm')
 ·exact pH ry fy r fu t (by simpa using ht)
noncomputable def Z6 (K:PySem.W.Frag) (A:Addr):Prop:=∃ o,K.lookup A=some o/\o.cls=.type "tuple" /\ o.dict=none
noncomputable def gj (ds:List D) (y:D):Option D:=xv (.lst ds) y
theorem Eo {A:Addr} {ds:List D} (h:yt X.mg x (.ref A)) (r:∀ H,zZ X.K H (.tup ds) (.ref A)) (kt:Z6 X.K A) (hg:Gl X x) (he:SE X e f) (hd:(x == ("__debug__" : Str))=false:=by decide)
  (hbase:attributeBase (.Name x xp) "index" X.env (eval (.Name x xp) X.env)=eval (.Name x xp) X.env:=by rfl) (hline:(apos.endLine == cpos.line)=true:=by rfl) (hs:yi e=true:=by rfl) :
  SE X (.Call (.Attribute (.Name x xp) "index" apos) [e] [] cpos) (e1 (gj ds) f):=by
 obtain ⟨te,pe,ke⟩:=(zA he zK hs).h
 refine ⟨⟨_,(pN PySem.F.plainAttrs_tuple PySem.F.slot_tuple_index PySem.F.type_tuple_index Bu (Ct h hg hd) ⟨pe⟩ hbase hline (by rw [List.all_cons,hs]; rfl) (by show 1<30; decide)).h,fun {G0 H0 G H τ σ d Q} E hf q=>?_⟩⟩
 obtain ⟨y,hy,hf⟩:=zM hf
 refine ⟨.inr (.inl ⟨rfl,kt⟩),ke E (ds:=[y]) (by unfold z8; rw [hy]; rfl) fun ws G2 H2 x2 r2=>?_⟩
 obtain ⟨w,rfl,rw_⟩:=u0 r2
 obtain ⟨a,us,ea,sq,rs,_⟩:=r G2
 cases ea
 change (match yL y&&ds.all yL with | true=>(jP y ds 0).bind fun n=>some (D.int n) | false=>none)=some d at hf
 cases c:(yL y&&ds.all yL) with
 | false=>rw [c] at hf; cases hf
 | true=>
  rw [c] at hf
  obtain ⟨n,hn,hf⟩:=zM hf
  cases hf
  rw [Bool.and_eq_true] at c
  obtain ⟨j,z,e1,e2,e3,e4⟩:=V4 hn
  rw [Nat.zero_add] at e1
  subst e1
  obtain ⟨u,eu,ru⟩:=rs.get e2
  have fl:∀ {i:Nat} {z:D},ds[i]?=some z->yL z=true:=fun {i z} ez=>List.all_eq_true.mp c.2 z (List.mem_of_getElem? ez)
  refine ⟨A,us,w,n,u,rfl,rfl,wP x2.gh sq,qQ c.1 rw_,(kO c.1 rw_ rs c.2).1,eu,by rw [pP (fl e2) c.1 ru rw_]; exact e3,fun i z hi ez=>?_,q _ _ _ x2 rfl⟩
  obtain ⟨dz,ed,rd⟩:=rs.at ez
  rw [pP (fl ed) c.1 rd rw_]
  exact e4 i dz hi ed
noncomputable def qt (i:Int):Nat:=Builtin.Int.intBits i
end
end L3
namespace L3
open PySem PySem.Spec PyProof.Rows L2 PySem.W
theorem OR:∀ {ns:List Int} {m:Int},m∈ns->qt m<=WData.weightAll (ns.map WData.int)
 | [],_,h=>by cases h
 | n::ns,m,h=>by
  have e:WData.weightAll ((n::ns).map WData.int)=qt n+1+WData.weightAll (ns.map WData.int):=by
   show WData.weightAll (WData.int n::ns.map WData.int)=_
   rw [WData.weightAll]
   rfl
  rw [e]
  rcases List.mem_cons.mp h with rfl | h
  ·omega
  ·have:=OR h
   omega
theorem Bh {ns:List Int} (h:WData.layableAll [.list (ns.map WData.int)]=true):∀ m∈ns,qt m<=1048576:=fun m hm=>by
 have h1:WData.layable (.list (ns.map WData.int))=true:=List.all_eq_true.mp h _ (List.mem_singleton.mpr rfl)
 unfold WData.layable at h1
 rw [Bool.and_eq_true] at h1
 have h2:WData.weight (.list (ns.map WData.int))<=2 ^ 20:=of_decide_eq_true h1.2
 have h3:=OR hm
 have h4:WData.weight (.list (ns.map WData.int))=WData.weightAll (ns.map WData.int):=by rw [WData.weight]
 omega
section
variable {P:Program} {w:World} {K:PySem.W.Frag} {mg:Str->Option Value} {base:Heap}
noncomputable def kj (K:PySem.W.Frag):Sp:=fun vs H Q _=>∃ (a:Addr) (ns:List Int),vs=[.ref a]/\yO K H a (ns.map V.int)/\ns.length<=63/\(∀ m∈ns,qt m<=1048576)/\∀ H',Q (.bl true) H'
theorem Be {x:Str} {st:Stmt} {N:List Str} {k:Nat} {b:FS} {f:Addr} {fd:FuncData} (d:qA K "law" "law" st f fd) (S:yF N [x] (zm st)) (hN:1<=N.length) (hrun:∀ ns:List Int,ns.length<=63->(∀ m∈ns,qt m<=1048576)->∃ o,yQ N.length b [.lst (ns.map D.int)]=some (o,.bl true))
  (hb:∀ (cdv:Value) (A:Around) (outer:List Env) (s:Shared) (H:Hp) (E:XK),xH k (A.deeper (envOfC "law" (zm st) s.heap.objs.size f cdv))->wj (ug vP P w K mg base N "law" (zm st) f cdv A outer s H E).nox (va st) b):vk P w K mg base vP (k+1) f fd [x] (kj K):=by
 refine d.ok S (fun vs H Q E h=>?_) fun cdv A outer s H vs Q E hr h=>?_
 ·obtain ⟨a,ns,rfl,_⟩:=h
  rfl
 ·obtain ⟨a,ns,rfl,sq,l,hbits,q⟩:=h
  obtain ⟨o,hrun⟩:=hrun ns l hbits
  obtain ⟨t,p,kt⟩:=(hb cdv A outer s H E hr).h
  obtain ⟨fl,hfl,hrun⟩:=zM hrun
  have r:Reps K H [.lst (ns.map D.int)] [.ref a]:=⟨_,_,rfl,⟨a,_,rfl,sq,Reps.ints,by rw [List.length_map]; exact small (by omega)⟩,rfl⟩
  refine ⟨t,p,kt (Tv (N:=N) (yN.refl H) r hN) hfl ?_⟩
  cases fl with
  | nx τ=>cases hrun
  | rt o' d'=>
   cases hrun
   cases o with
   | false=>
    intro v G H' _ r
    cases (show v=.bl true from r)
    exact q H'
   | true=>exact fun p G H' _ _ _ z=>z.elim
  | _=>cases hrun
end
theorem walkB {l:PySem.W.OpenLaw} {n k:Nat} {q:Program} {loose:List Str} {XP:(Str->Option Value)->Heap->Prop} {YP:World->Heap->Prop} {d:DefRec} {K:Params->PySem.W.Frag} {sp:PySem.W.Frag->Sp} {x:Str}
  (hn:l.most=some n) (hn2:n<=sizeLine) (hdf:d.params.defaults=[]) (hr:xH k callerA) (hY:∀ (w:World) (h:Heap),YP w h->(K w.params).In h)
  (F:∀ (w:World) (mg:Str->Option Value) (fa:Addr) (h:Heap),(K w.params).In h->h.Ns mainGlobals mg->mg d.name=some (.ref fa)->
   ∃ fd:FuncData,(∀ (s:Shared) (u:Value),BindsTo s fd ⟨[u],[]⟩ [(x,u)])/\∀ base:Heap,(K w.params).In base->base.Ns mainGlobals mg->vk l.prog w (K w.params) mg base vP k fa fd [x] (sp (K w.params)))
  (hsp:∀ (K:PySem.W.Frag) (H:Hp) (a:Addr) (ns:List Int),ns.length<=n->(∀ m∈ns,qt m<=1048576)->yO K H a (ns.map V.int)->sp K [.ref a] H (fun v _=>v=.bl true) fun _ _ _=>False) :
  PySem.W.WalkO q loose XP YP l.row.toRowW d [] (fun f vs=>PySem.call f vs):=by
 intro w s0 s1 mg mb Gr Y fa o pm cd doc dV kV ho hd hcd hD hmg hg args vals as hpre hlay hrd hwl hlo
 have e1:dV=.none:=Dflts.none hD hdf
 have e2:kV=.none:=Dflts.noKw hD
 subst e1 e2
 obtain ⟨a,vs,ns,rfl,rfl,hobj,hints,hlen⟩:=Att.script_of hn hpre hwl
 have KX:=hY w _ Y
 obtain ⟨fd,hb,hF⟩:=F w mg fa _ KX Gr.T.g hmg
 have main:=Bb KX Gr.T.g Gr.T.b Gr.T.builtins Gr.T.nolimit hg hobj hints (Nat.le_trans hlen hn2) hr hF hb (fun H _ hS=>hsp _ H a ns hlen (Bh hlay) hS) (fun _ _ _ z=>z)
 refine enter_call (codeAny_mono main fun r s' hq=>?_)
 obtain ⟨rfl,h2,h3,h4⟩:=hq
 refine ⟨.inl ⟨.bool true,.bool true,[],rfl,fun _=>rfl,.bool true,Att.post_true l _,fun _=>?_⟩,h2,h3,h4⟩
 exact ⟨List.Pairwise.nil,fun _ hm=>nomatch hm⟩
end L3
namespace L3
open PySem PySem.Spec PyProof.Rows L2
end L3
namespace L3
open PySem PySem.Spec PyProof PyProof.Rows L2 Builtin Builtin.Str
section
variable {X:Cx} {e o a b c:Expr} {f fo fa fb fc:FE} {x:Str} {xp p pos apos cpos:Pos}
noncomputable def uy:List D->Option (List Str)
 | []=>some []
 | .str z::r=>(uy r).bind fun ts=>some (z::ts)
 | _=>none
noncomputable def vA:D->D->Option D
 | .str sep,.lst xs=>(uy xs).bind fun ts=>if (ts.map (·.length)).sum+ts.length*sep.length<=yA then some (.str (glued sep ts)) else none
 | _,_=>none
theorem Uk {K:PySem.W.Frag} {G:Hp}:∀ {xs:List D} {vs:List V} {ts:List Str},uy xs=some ts->Reps K G xs vs->vs=ts.map V.str
 | [],_,_,h,r=>by
  cases h
  exact r
 | x::xs,_,ts,h,r=>by
  obtain ⟨v,r',rfl,hv,hr⟩:=r
  unfold uy at h
  split at h
  ·rename_i e; cases e
  ·rename_i z r2 e
   cases e
   obtain ⟨ts2,h2,h⟩:=zM h
   cases h
   rw [List.map_cons,(show v=_/\_ from hv).1,Uk h2 hr]
  ·cases h
theorem kY (ho:SE X o fo) (he:SB X e f) (hbase:attributeBase o "join" X.env (eval o X.env)=eval o X.env:=by rfl) (hline:(apos.endLine == cpos.line)=true:=by rfl) (hs:yi e=true:=by rfl) :
  SE X (.Call (.Attribute o "join" apos) [e] [] cpos) (e2 vA fo f):=by
 obtain ⟨to,po,ko⟩:=ho.h
 obtain ⟨te,pe,ke⟩:=(ym he yr hs).h
 refine ⟨⟨_,(pN PySem.F.plainAttrs_str PySem.F.slot_str_join PySem.F.type_str_join Bv ⟨po⟩ ⟨pe⟩ hbase hline (by rw [List.all_cons,hs]; rfl) (by show 1<30; decide)).h,fun {G0 H0 G H τ σ d Q} E hf q=>?_⟩⟩
 obtain ⟨x,hx,hf⟩:=zM hf
 obtain ⟨y,hy,hf⟩:=zM hf
 refine ko E hx fun v G1 H1 x1 r1=>?_
 cases x with
 | str sep=>
  obtain ⟨rfl,l1⟩:=r1
  refine ⟨rfl,ke (E.go x1) (ds:=[y]) (by unfold z8; rw [hy]; rfl) fun ws G2 H2 x2 r2=>?_⟩
  obtain ⟨w,rfl,rw_⟩:=u0 r2
  cases y with
  | lst xs=>
   obtain ⟨ts,hts,hf⟩:=zM hf
   obtain ⟨aa,vs,rfl,sq,rs,_⟩:=rw_
   have ev:=Uk hts rs
   subst ev
   by_cases cc:(ts.map (·.length)).sum+ts.length*sep.length<=yA
   ·rw [if_pos cc] at hf
    cases hf
    have c':(ts.map (·.length)).sum+ts.length*sep.length<=sizeLine:=by rw [sizeLine_eq]; exact cc
    exact ⟨sep,aa,ts,rfl,rfl,sq,c',q _ _ _ (x1.trans x2) ⟨rfl,Nat.le_trans (glued_len sep ts) c'⟩⟩
   ·rw [if_neg cc] at hf
    cases hf
  | _=>cases hf
 | _=>cases hf
noncomputable def wy (i:Int):Bool:=decide (i.natAbs.log2<1920)
noncomputable def uF:List D->Option D
 | [.int i]=>match wy i with
  | true=>some (.str (toString i))
  | false=>none
 | [.str z]=>some (.str z)
 | _=>none
theorem qu:xT X (.type "str") (fun xs H Q=>(∃ i,xs=[.int i]/\i.natAbs.log2<1920/\Q (.str (toString i)) H)\/∃ z,xs=[.str z]/\Q (.str z) H):=LM.or (by
 intro pins s σ H xs us Q I r h
 obtain ⟨z,rfl,q⟩:=h
 obtain ⟨u,rfl,t,rfl⟩:=wR r
 exact PySem.P.str_of_str ⟨.str z,H,I,⟨_,rfl⟩,q⟩)
theorem Iy {i:Int} (h:i.natAbs.log2<1920):(Str.ofString (toString i)).length<=sizeLine:=HG (int_le h)
theorem pK {K:PySem.W.Frag}:qh K (fun xs H Q=>(∃ i,xs=[.int i]/\i.natAbs.log2<1920/\Q (.str (toString i)) H)\/∃ z,xs=[.str z]/\Q (.str z) H) uF:=fun G H ds vs d Q s r hf q=>by
 unfold uF at hf
 split at hf
 ·rename_i i
  obtain ⟨v,rfl,hv⟩:=u0 r
  cases c:wy i with
  | false=>rw [c] at hf; cases hf
  | true=>
   rw [c] at hf
   cases hf
   cases (show v=_ from hv)
   have h:=of_decide_eq_true c
   exact .inl ⟨i,rfl,h,q _ _ _ (zP.refl s) ⟨rfl,Iy h⟩⟩
 ·rename_i z
  cases hf
  obtain ⟨v,rfl,hv⟩:=u0 r
  obtain ⟨rfl,l⟩:=hv
  exact .inr ⟨z,rfl,q _ _ _ (zP.refl s) ⟨rfl,l⟩⟩
 ·cases hf
noncomputable def Za:D->Option D
 | .int i=>match wy i with
  | true=>some (.str (Str.ofString (toString i)))
  | false=>none
 | .str z=>some (.str z)
 | _=>none
theorem Em (he:SE X e f):SE X (.FormattedValue e (-1) none pos) (e1 Za f):=by
 obtain ⟨t,pt,k⟩:=he.h
 refine ⟨⟨_,(Cr ⟨pt⟩).h,fun {G0 H0 G H τ σ d Q} E hf q=>?_⟩⟩
 obtain ⟨x,hx,hf⟩:=zM hf
 refine k E hx fun v G1 H1 x1 r1=>?_
 cases x with
 | int i=>
  change (match wy i with | true=>some (D.str (Str.ofString (toString i))) | false=>none)=some d at hf
  cases c:wy i with
  | false=>rw [c] at hf; cases hf
  | true=>
   rw [c] at hf
   cases hf
   cases (show v=_ from r1)
   have h:=of_decide_eq_true c
   exact .inl ⟨i,rfl,h,q _ _ _ x1 ⟨rfl,Iy h⟩⟩
 | str z=>
  cases hf
  obtain ⟨rfl,l⟩:=r1
  exact .inr ⟨z,rfl,l,q _ _ _ x1 ⟨rfl,l⟩⟩
 | _=>cases hf
noncomputable abbrev FJ:=yD->Str->Option D
noncomputable def Zt:FJ:=fun _ acc=>some (.str acc)
noncomputable def jQ (f:FE) (r:FJ):FJ:=fun σ acc=>(f σ).bind fun d=>match d with
 | .str y=>if (acc++y).length<=yA then r σ (acc++y) else none
 | _=>none
noncomputable def ZU (f:FJ):FE:=fun σ=>f σ Str.empty
structure SJ (X:Cx) (es:List Expr) (f:FJ):Prop where
 h:∃ t,QJ X es t/\∀ {G0 H0 G H:Hp} {τ:yD} {σ:St} {acc:Str} {d:D} {Q:VK},zo X.K X.N.length G0 H0 G H τ σ->acc.length<=sizeLine->f τ acc=some d->(∀ v G' H',zP G H G' H'->zZ X.K G' d v->Q v H')->t σ H acc Q
theorem GD:SJ X [] Zt:=⟨⟨_,Cz,fun E l hf q=>by
 cases hf
 exact ⟨l,q _ _ _ (zP.refl E.ext.gh) ⟨rfl,l⟩⟩⟩⟩
theorem Ii {es:List Expr} {fj:FJ} (he:SE X e f) (hr:SJ X es fj):SJ X (e::es) (jQ f fj):=by
 obtain ⟨te,pe,ke⟩:=he.h
 obtain ⟨tr,pr,kr⟩:=hr.h
 refine ⟨⟨_,Cy ⟨pe⟩ pr,fun {G0 H0 G H τ σ acc d Q} E l hf q=>?_⟩⟩
 obtain ⟨x,hx,hf⟩:=zM hf
 refine ke E hx fun v G1 H1 x1 r1=>?_
 cases x with
 | str y=>
  obtain ⟨rfl,_⟩:=r1
  change (if (acc++y).length<=yA then fj τ (acc++y) else none)=some d at hf
  by_cases cc:(acc++y).length<=yA
  ·rw [if_pos cc] at hf
   have c':(acc++y).length<=sizeLine:=by rw [sizeLine_eq]; exact cc
   exact ⟨y,rfl,c',kr (E.go x1) c' hf fun v G' H' x2 r2=>q v _ _ (x1.trans x2) r2⟩
  ·rw [if_neg cc] at hf
   cases hf
 | _=>cases hf
theorem En {e1' e2':Expr} {es:List Expr} {fj:FJ} (h:SJ X (e1'::e2'::es) fj):SE X (.JoinedStr (e1'::e2'::es) pos) (ZU fj):=by
 obtain ⟨t,pt,k⟩:=h.h
 exact ⟨⟨_,(Cs pt).h,fun E hf q=>k E (Nat.zero_le _) hf q⟩⟩
noncomputable def Vj (f:FE) (fg:FG):FS:=fun τ=>(f τ).bind fun d=>(fg d τ).bind fun τ'=>some (.nx τ')
theorem GP {tg:Expr} {fg:FG} (he:SE X e f) (hg:SG X tg fg) (hs:swapsWithSole [tg] e pos.line X.env=pure false:=by rfl) (hw:swappedStores [tg] e X.env=pure none:=by rfl) (h1:(assignEach [tg] X.env).map (·.2)=[assign tg X.env]:=by rfl) :
  SS X (.Assign [tg] e pos) (Vj f fg):=by
 obtain ⟨te,pe,ke⟩:=he.h
 obtain ⟨tt,pt,kt⟩:=hg.h
 refine ⟨⟨_,Ja pe pt hs hw h1,fun {G0 H0 G H τ σ fl E} K hf q=>?_⟩⟩
 obtain ⟨d,hd,hf⟩:=zM hf
 obtain ⟨τ',ht,hf⟩:=zM hf
 cases hf
 exact ke K hd fun v G' H' x1 r1=>kt (K.go x1) r1 ht fun σ' K'=>q _ _ _ K'
noncomputable def YN (i:Nat) (k v:FE):FS:=fun σ=>(v σ).bind fun y=>match σ[i]? with
 | some (some (true,.lst ds))=>(k σ).bind fun x=>match x with
  | .int j=>(ixN ds.length j).bind fun n=>some (.nx (σ.set i (some (true,.lst (ds.set n y)))))
  | _=>none
 | _=>none
theorem Reps.set {K:PySem.W.Frag} {G:Hp} {d:D} {v:V} (hv:zZ K G d v):∀ {ds:List D} {vs:List V} (n:Nat),Reps K G ds vs->Reps K G (ds.set n d) (vs.set n v)
 | [],_,_,r=>by cases (show _=[] from r); rfl
 | d'::ds,_,0,r=>by
  obtain ⟨u,r',rfl,hu,hr⟩:=r
  exact ⟨v,r',rfl,hv,hr⟩
 | d'::ds,_,n+1,r=>by
  obtain ⟨u,r',rfl,hu,hr⟩:=r
  exact ⟨u,_,rfl,hu,Reps.set hv n hr⟩
theorem GV {i:Nat} {k v:Expr} {fk fv:FE} {pos':Pos} (ho:QE X (.Name x xp) (tT i)) (hk:SE X k fk) (hv:SE X v fv) (hp:jb k=true:=by rfl) (hs:swapsWithSole [.Subscript (.Name x xp) k pos'] v pos.line X.env=pure false:=by rfl)
  (hw:swappedStores [.Subscript (.Name x xp) k pos'] v X.env=pure none:=by rfl) (h1:(assignEach [.Subscript (.Name x xp) k pos'] X.env).map (·.2)=[assign (.Subscript (.Name x xp) k pos') X.env]:=by rfl):SS X (.Assign [.Subscript (.Name x xp) k pos'] v pos) (YN i fk fv):=by
 obtain ⟨tk,pk,kk⟩:=hk.h
 obtain ⟨tv,pv,kv⟩:=hv.h
 refine ⟨⟨_,Ja pv (Cv ho ⟨pk⟩ Ew hp).h hs hw h1,fun {G0 H0 G H τ σ fl E} K hf q=>?_⟩⟩
 obtain ⟨y,hy,hf⟩:=zM hf
 refine kv K hy fun w G1 H1 x1 r1=>?_
 split at hf
 ·rename_i ds hd
  obtain ⟨xk,hx,hf⟩:=zM hf
  cases xk with
  | int j=>
   obtain ⟨n,hn,hf⟩:=zM hf
   cases hf
   have K1:=K.go x1
   obtain ⟨aa,ea,g,z,vs,ev,rs,l⟩:=K1.ow _ _ hd
   refine ⟨_,ea,kk K1 hx fun u G2 H2 x2 r2=>?_⟩
   cases (show u=_ from r2)
   refine ⟨aa,vs,j,n,rfl,rfl,x2.h _ _ ev,by rw [rs.length]; exact hn,?_⟩
   exact q _ _ _ ((K1.go x2).mut hd ea ⟨_,yT,Reps.set (r1.mono x2.g) n (rs.mono x2.g),by rw [List.length_set]; exact l⟩)
  | _=>cases hf
 ·cases hf
theorem Ir {op op':CmpOp} {r r':R2} {F F':D->D->Option D} (ho:yP X (compareOp op) r) (hF:u8 X.K r F) (ho':yP X (compareOp op') r') (hF':u8 X.K r' F') (ha:SB X a fa) (hb:SB X b fb) (hc:SB X c fc) (hm:lastMarks [op,op'] [b,c]=false:=by with_unfolding_all rfl) :
  ST X (.Compare a [op,op'] [b,c] pos) (tE (vw F F' fa fb fc)):=by
 obtain ⟨ta,pa,ka⟩:=ha.h
 obtain ⟨tb,pb,kb⟩:=hb.h
 obtain ⟨tc,pc,kc⟩:=hc.h
 refine ⟨⟨_,Cd ho ho' pa pb pc hm,fun {G0 H0 G H τ σ d Q} E hf q=>?_⟩⟩
 obtain ⟨w0,hw0,hf0⟩:=zM hf
 obtain ⟨x,hx,hw0⟩:=zM hw0
 obtain ⟨y,hy,hw0⟩:=zM hw0
 obtain ⟨k,hk,hw0⟩:=zM hw0
 refine ka E hx fun v G1 H1 x1 r1=>?_
 refine kb (E.go x1) hy fun u G2 H2 x2 r2=>?_
 obtain ⟨k,rfl,z⟩:=hF H2 x y v u _ _ (r1.mono x2.h) r2 hk
 refine z ⟨k,rfl,?_⟩
 cases k with
 | false=>
  cases hw0
  cases hf0
  exact qL ⟨_,rfl,q _ _ (x1.trans x2)⟩
 | true=>
  obtain ⟨w,hw,hw0⟩:=zM (show (fc _).bind _=_ from hw0)
  refine qM (kc ((E.go x1).go x2) hw fun u3 G3 H3 x3 r3=>?_)
  obtain ⟨k,rfl,z⟩:=hF' H3 y w u u3 _ _ (r2.mono x3.h) r3 hw0
  cases hf0
  exact z ⟨_,rfl,q _ _ (x1.trans (x2.trans x3))⟩
end
end L3
namespace L2
open PySem PySem.Spec PyProof.Rows
noncomputable def Xp (K:PySem.W.Frag) (a:Addr):It:=
  ⟨fun i H=>∃ xs x,yO K H a xs/\xs[i]?=some x,
   fun i H v H'=>∃ p,H p=none/\v=.ref p/\∀ xs,yO K H a xs->∃ x,xs[i]?=some x/\H'=zV H p (.tup [.int (i:Int),x]),
   fun i H=>∃ xs,yO K H a xs/\xs.length<=i⟩
theorem HN {P:Program} {w:World} {K:PySem.W.Frag} {elts:List Expr} {kk:Nat} {pos:Pos} (a e it:Addr) (hei:e≠it) :
  uA P w K (.Tuple elts kk pos) (Xp K a) [e,it] e (fun i h=>(∃ old,IsEnum h e it (i:Int) old)/\h.IsListIter it a i) where
 mem:=by simp
 obj:=fun i h st c hc=>by
  obtain ⟨⟨old,s1⟩,⟨o2,s2,_,d2⟩⟩:=st
  simp only [List.mem_cons,List.not_mem_nil,or_false] at hc
  rcases hc with rfl | rfl
  ·exact ⟨_,s1,fun v q=>nomatch q⟩
  ·exact ⟨_,s2,fun v q=>by rw [d2] at q; cases q⟩
 keep:=fun i h h' st k=>by
  obtain ⟨⟨old,s1⟩,s2⟩:=st
  exact ⟨⟨old,k e (by simp) _ s1⟩,s2.at fun o x=>k it (by simp) o x⟩
 item:=by
  intro X hP hw hK hc i pins s σ H E I hf st hg
  subst hP hw hK
  obtain ⟨⟨old,s1⟩,s2⟩:=st
  obtain ⟨xs,x,hx,ex⟩:=hg
  obtain ⟨us,ru,pu,_⟩:=I.list hx
  have pl:=pu.isList
  obtain ⟨xu,hxu,rxu⟩:=ru.get ex
  have hx':us.toArray[i]?=some xu:=by rw [List.getElem?_toArray]; exact hxu
  have lt1:e<s.heap.objs.size:=Heap.lt_size s1
  have lt2:it<s.heap.objs.size:=by obtain ⟨o,z,_⟩:=s2; exact Heap.lt_size z
  refine wpAny_pyNext_enum_item s1 s2 pl hx' hei fun h1 heo hit1 ht1 hz1 hk1=>?_
  refine ⟨_,rfl,wpAny_letOwnedTupleGo_enum (s:={ s with heap:=h1,toks:=s.toks+1 }) heo fun h2 he2 hs2=>?_⟩
  replace hs2:Heap.SameBut e h1 h2:=hs2
  have hTs:s.heap.get? s.heap.objs.size=none:=by
   cases q:s.heap.get? s.heap.objs.size with
   | none=>rfl
   | some o=>exact absurd (Heap.lt_size q) (Nat.lt_irrefl _)
  have hTf:H s.heap.objs.size=none:=I.hok.fresh (Nat.le_refl _)
  have tup:h2.get? s.heap.objs.size=some { cls:=.type "tuple",data:=.seq #[.int i s.toks,xu] }:=hs2.extBut _ _ (Nat.ne_of_gt lt1) ht1
  have kk:∀ c o,c ∉ [e,it]->s.heap.get? c=some o->h2.get? c=some o:=fun c o hc z=>by
   simp only [List.mem_cons,List.not_mem_nil,or_false,not_or] at hc
   exact hs2.extBut _ _ hc.1 (hk1 c o hc.1 hc.2 z)
  have new:yc X.prog X.w (zV H s.heap.objs.size (.tup [.int (i:Int),x])) h2 s.heap.objs.size (.tup [.int (i:Int),x]):=⟨(by show 2<=sizeLine; decide),[.int i s.toks,xu],.cons ⟨_,rfl⟩ (.cons rxu .nil),⟨_,tup,rfl,_,rfl⟩⟩
  refine ⟨.ref s.heap.objs.size,zV H s.heap.objs.size (.tup [.int (i:Int),x]),I.butNew (tk:=s.toks+1) hf kk hTs hTf new,rfl,⟨s.heap.objs.size,hTf,rfl,fun xs' hx'=>?_⟩,⟨⟨xu,?_⟩,hit1.at fun o z=>hs2.extBut _ _ hei.symm z⟩,fun c hc=>?_⟩
  ·rw [I.list_inj hx' hx]
   exact ⟨x,ex,rfl⟩
  ·rw [show ((i+1:Nat):Int)=(i:Int)+1 from rfl]
   exact he2
  ·rw [zr]
   ·exact (hf c hc).1
   ·intro q
    have hlt:c<s.heap.objs.size:=by
     simp only [List.mem_cons,List.not_mem_nil,or_false] at hc
     rcases hc with rfl | rfl
     ·exact lt1
     ·exact lt2
    rw [q] at hlt
    exact absurd hlt (Nat.lt_irrefl _)
 done:=by
  intro X hP hw hK hc i pins s σ H E I hf st hg
  subst hP hw hK
  obtain ⟨⟨old,s1⟩,s2⟩:=st
  obtain ⟨xs,hx,hend⟩:=hg
  obtain ⟨us,ru,pu,_⟩:=I.list hx
  have pl:=pu.isList
  have hx':us.toArray[i]?=none:=by
   rw [List.getElem?_toArray]
   exact List.getElem?_eq_none (by have:=ru.length; omega)
  refine wpAny_pyNext_enum_end (by exact I.ok.hd hc) s1 s2 pl hx' fun h1 he1=>?_
  refine ⟨rfl,I.but (tk:=s.toks) hf fun c ob hcc eb=>?_⟩
  simp only [List.mem_cons,List.not_mem_nil,or_false,not_or] at hcc
  exact he1 c ob hcc.2 eb
 self:=fun _ _ _ _ _ st h=>by
  obtain ⟨⟨old,s1⟩,_⟩:=st
  exact wpAny_pyIter_enum s1 h
section
variable {X:Cx}
noncomputable def Mg (K:PySem.W.Frag) (ta:TA):TI:=fun σ H R=>ta σ H fun vs H1=>∃ a xs,vs=[.ref a]/\yO K H1 a xs/\R (Xp K a) H1
theorem C2 {a:Expr} {ta:TA} {p pos:Pos} {elts:List Expr} {kk:Nat} {tp:Pos} (hg:Gl X "enumerate") (hm:X.mg "enumerate" = none) (ha:PA X [a] ta) (hs:starEach [a] X.env=[(false,eval a X.env)]:=by rfl) :
  PI X (.Tuple elts kk tp) (.Call (.Name "enumerate" p) [a] [] pos) (Mg X.K ta):=by
 intro pins s σ H R I h
 refine Call_ (qN I hg hm boot_enumerate (PyProof.Rows.callWith_type1 (zg (ha pos pins s σ H _ I h) fun us s1 ⟨vs,H1,I1,r1,q1⟩=>?_) (by rw [hs]; rfl) rfl))
 obtain ⟨l1,xs,rfl,hx,q⟩:=q1
 obtain ⟨u,rfl,ru⟩:=wR r1
 cases (show u=Value.ref l1 from ru)
 obtain ⟨us,_,pu,_⟩:=I1.list hx
 refine call_enumerate_list pu.isList fun h' a1 a2 hz kp=>?_
 have I2:Inv X pins σ H1 { s1 with heap:=h' }:=I1.kept (t':=s1.toks) kp
 refine wpAny_pyIter_enum (s:={ s1 with heap:=h' }) a1 ?_
 generalize hn:s1.heap.objs.size=n at a1 a2 hz
 refine ⟨n+1,[n+1,n],_,_,H1,rfl,I2,HN l1 (n+1) n (wF (by omega)),⟨⟨_,a1⟩,a2⟩,fun c hc=>?_,q⟩
 have hle:s1.heap.objs.size<=c:=by
  rw [hn]
  simp only [List.mem_cons,List.not_mem_nil,or_false] at hc
  rcases hc with rfl | rfl
  ·exact Nat.le_add_right _ _
  ·exact Nat.le_refl _
 exact I1.fpOk hle (I1.hok.fresh hle)
end
end L2
namespace L3
open PySem PySem.Spec PyProof.Rows L2
noncomputable def tL (xs:List D):List D:=List.zipWith (fun (i:Nat) x=>D.tup [.int (i:Int),x]) (List.range xs.length) xs
noncomputable def W_ (a:FE):FA:=fun σ=>(a σ).bind fun d=>match d with
 | .lst xs=>some (tL xs)
 | _=>none
theorem YC (xs:List D):(tL xs).length=xs.length:=by simp [tL]
theorem JB (xs:List D) (i:Nat):(tL xs)[i]?=(xs[i]?).map fun x=>D.tup [.int (i:Int),x]:=by
 unfold tL
 rw [List.getElem?_zipWith]
 by_cases h:i<xs.length
 ·rw [List.getElem?_range h,List.getElem?_eq_getElem h]; rfl
 ·rw [List.getElem?_eq_none (by simpa using h),List.getElem?_eq_none (by omega)]; rfl
section
variable {K:PySem.W.Frag} {G H:Hp}
theorem Lu {a:Addr} {vs:List V} {xs:List D} (s1:yO K G a vs) (r1:Reps K G xs vs):vp K (Xp K a) G (tL xs) where
 go:=fun i G2 H g1 g2 hi=>by
  rw [YC] at hi
  obtain ⟨v,e1,_⟩:=r1.get (List.getElem?_eq_getElem hi)
  exact ⟨vs,v,xR (g1.trans g2) s1,e1⟩
 yld:=fun i G2 H x H' g1 g2 hi y=>by
  obtain ⟨p,hp,rfl,k⟩:=y
  obtain ⟨v,e1,rfl⟩:=k vs (xR (g1.trans g2) s1)
  obtain ⟨d1,f1,q1⟩:=r1.at e1
  refine ⟨zV G2 p (.tup [.int (i:Int),v]),.tup [.int (i:Int),d1],zP.lay g2 hp,by rw [JB,f1]; rfl,?_⟩
  have sm:yN G (zV G2 p (.tup [.int (i:Int),v])):=g1.trans (xm (g2.free hp) _)
  exact ⟨p,[.int (i:Int),v],rfl,yd.of yT,⟨_,_,rfl,rfl,⟨v,_,rfl,q1.mono sm,rfl⟩⟩,small (n:=2) (by decide)⟩
 stop:=fun i G2 H g1 g2 hi=>by
  rw [YC] at hi
  exact ⟨vs,xR (g1.trans g2) s1,by rw [r1.length]; exact hi⟩
end
theorem GB {X:Cx} {a:Expr} {fa:FE} {p pos:Pos} {elts:List Expr} {kk:Nat} {tp:Pos} (hg:Gl X "enumerate") (hm:X.mg "enumerate" = none) (ha:SE X a fa) (hs:yi a=true:=by rfl):SI X (.Tuple elts kk tp) (.Call (.Name "enumerate" p) [a] [] pos) (W_ fa):=by
 obtain ⟨t,pt,k⟩:=(zA ha zK hs).h
 refine ⟨⟨_,C2 hg hm pt (we hs),fun {G0 H0 G H τ σ ds R} K hf q=>?_⟩⟩
 obtain ⟨x,hx,hf⟩:=zM hf
 cases x<;>first | (cases hf; done) | skip
 cases hf
 rename_i xs
 refine k K (ds:=[.lst xs]) (by unfold z8; rw [hx]; rfl) fun vs G1 H1 x1 r1=>?_
 obtain ⟨v,r,rfl,hv,hr⟩:=r1
 cases (show r=[] from hr)
 obtain ⟨aa,vs1,rfl,s1,q1,l1⟩:=hv
 exact ⟨aa,vs1,rfl,xR x1.gh s1,q _ _ _ x1 (by rw [YC]; exact l1) (Lu s1 q1)⟩
end L3
namespace L2
open PySem PySem.Spec PyProof PyProof.Rows
noncomputable def pC (a:Int):List Int->List Int
 | []=>[a]
 | b::r=>if a<=b then a::b::r else b::pC a r
noncomputable def isort:List Int->List Int
 | []=>[]
 | a::r=>pC a (isort r)
theorem V3 (a:Int):∀ l:List Int,(pC a l).Perm (a::l)
 | []=>List.Perm.refl _
 | b::r=>by
  unfold pC
  split
  ·exact List.Perm.refl _
  ·exact ((V3 a r).cons b).trans (List.Perm.swap a b r)
theorem isort_perm:∀ l:List Int,(isort l).Perm l
 | []=>List.Perm.refl _
 | a::r=>(V3 a _).trans ((isort_perm r).cons a)
theorem QV (a:Int):∀ {l:List Int},l.Pairwise (·<=·)->(pC a l).Pairwise (·<=·)
 | [],_=>by simp [pC]
 | b::r,h=>by
  obtain ⟨h1,h2⟩:=List.pairwise_cons.mp h
  unfold pC
  split
  ·rename_i hab
   exact List.pairwise_cons.mpr ⟨fun x hx=>by
    rcases List.mem_cons.mp hx with rfl | hx
    ·exact hab
    ·exact Int.le_trans hab (h1 x hx),h⟩
  ·rename_i hab
   refine List.pairwise_cons.mpr ⟨fun x hx=>?_,QV a h2⟩
   rcases List.mem_cons.mp ((V3 a r).mem_iff.mp hx) with rfl | hx
   ·omega
   ·exact h1 x hx
theorem Qg:∀ l:List Int,(isort l).Pairwise (·<=·)
 | []=>List.Pairwise.nil
 | a::r=>QV a (Qg r)
theorem Im:∀ {a b:List Int},a.Perm b->a.Pairwise (·<=·)->b.Pairwise (·<=·)->a=b
 | [],b,p,_,_=>(List.nil_perm.mp p).symm
 | x::a,[],p,_,_=>by cases p.length_eq
 | x::a,y::b,p,ha,hb=>by
  obtain ⟨h1,h2⟩:=List.pairwise_cons.mp ha
  obtain ⟨g1,g2⟩:=List.pairwise_cons.mp hb
  have e:x=y:=by
   have hx:x∈y::b:=p.mem_iff.mp (List.mem_cons_self ..)
   have hy:y∈x::a:=p.mem_iff.mpr (List.mem_cons_self ..)
   rcases List.mem_cons.mp hx with rfl | hx
   ·rfl
   ·rcases List.mem_cons.mp hy with e | hy
    ·exact e.symm
    ·exact Int.le_antisymm (h1 y hy) (g1 x hx)
  subst e
  rw [Im (List.perm_cons x |>.mp p) h2 g2]
theorem OO:∀ {ns:List Int} {its:List Value},zi (ns.map V.int) its->IntsAre its ns
 | [],_,.nil=>.nil
 | n::ns,_,.cons r rr=>by
  obtain ⟨t,rfl⟩:=r
  exact .cons _ _ (OO rr)
theorem QX:∀ {ns:List Int} {its:List Value},IntsAre its ns->zi (ns.map V.int) its
 | [],_,.nil=>.nil
 | _::_,_,.cons _ _ r=>.cons ⟨_,rfl⟩ (QX r)
section
variable {X:Cx}
theorem LK:xT X (.builtin "sorted") (fun xs H Q=>∃ p ns,xs=[.ref p]/\yO X.K H p (ns.map V.int)/\ns.length<64/\∀ l,H l=none->Q (.ref l) (zV H l (.lst ((isort ns).map V.int)))):=by
 intro pins s σ H xs us Q I r h
 obtain ⟨p,ns,rfl,hq,h64,q⟩:=h
 obtain ⟨u,rfl,rx⟩:=wR r
 cases rx
 obtain ⟨its,r',pl,hz⟩:=I.list hq
 have hlen:=r'.length
 rw [List.length_map] at hlen
 refine sorted_ints pl.isList (OO r') (by omega) fun out ns' a1 a2 a3=>?_
 have e:ns'=isort ns:=Im (a2.trans (isort_perm ns).symm) a3 (Qg ns)
 subst e
 obtain ⟨c,hc⟩:=sortedAll_at s.heap its out
 have hl2:(isort ns).length=ns.length:=(isort_perm ns).length_eq
 refine ⟨.ref (s.heap.objs.size+1),_,I.laid (t':=s.toks) (h':=sortedAll s.heap its out) (fun _ _=>sortedAll_old) (Nat.le_succ _) (show yc X.prog X.w _ _ _ (.lst ((isort ns).map V.int)) from ⟨?_,out.toList,c,QX a1,?_⟩),rfl,q _ (I.hok.fresh (Nat.le_succ _))⟩
 ·rw [List.length_map,hl2]
  show _<=sizeLine
  rw [List.length_map] at hz
  exact hz
 ·rw [Array.toArray_toList]
  exact hc
end
end L2
namespace L3
open PySem PySem.Spec PyProof.Rows L2
theorem LA:bootBuiltins "sorted" = some (.builtin "sorted"):=by decide +kernel
noncomputable def intsOf:List D->Option (List Int)
 | []=>some []
 | .int i::r=>(intsOf r).bind fun ns=>some (i::ns)
 | _=>none
theorem Qb:∀ ns:List Int,intsOf (ns.map D.int)=some ns
 | []=>rfl
 | n::ns=>by
  show (intsOf (ns.map D.int)).bind _=_
  rw [Qb ns]
  rfl
theorem Qa:∀ {ds:List D} {ns:List Int},intsOf ds=some ns->ds=ns.map D.int
 | [],_,h=>by cases h; rfl
 | d::ds,ns,h=>by
  unfold intsOf at h
  split at h
  ·rename_i e; cases e
  ·rename_i i r e
   cases e
   obtain ⟨ns',h1,h⟩:=zM h
   cases h
   rw [Qa h1]
   rfl
  ·cases h
theorem IF {K:PySem.W.Frag} {G:Hp}:∀ {ns:List Int} {vs:List V},Reps K G (ns.map D.int) vs->vs=ns.map V.int
 | [],_,r=>r
 | n::ns,_,r=>by
  obtain ⟨v,r',rfl,hv,hr⟩:=r
  rw [IF hr,show v=V.int n from hv]
  rfl
theorem QW {K:PySem.W.Frag} {G:Hp}:∀ ns:List Int,Reps K G (ns.map D.int) (ns.map V.int)
 | []=>rfl
 | n::ns=>⟨.int n,_,rfl,rfl,QW ns⟩
noncomputable def Wn:List D->Option D
 | [.lst xs]=>(intsOf xs).bind fun ns=>if ns.length<64 then some (.lst ((isort ns).map D.int)) else none
 | _=>none
theorem G4 {X:Cx} {e:Expr} {fs:FA} {p pos:Pos} (hg:Gl X "sorted") (hm:X.mg "sorted" = none) (ha:SA X [e] fs) (hs:yi e=true:=by rfl):SF X (.Call (.Name "sorted" p) [e] [] pos) (eL Wn fs):=by
 obtain ⟨t,pt,k⟩:=ha.h
 refine ⟨⟨_,(Vc LK hg hm LA ⟨pt⟩ (by decide) (by decide) (by rw [List.all_cons,hs]; rfl)).h,fun {G0 H0 G H τ σ d Q} E hf q=>?_⟩⟩
 obtain ⟨ds,hd,hf⟩:=zM hf
 refine k E hd fun vs G1 H1 x1 r1=>?_
 match ds,hf with
 | [.lst xs],hf=>
  obtain ⟨ns,hn,hf⟩:=zM (show (intsOf xs).bind _=some d from hf)
  split at hf
  ·rename_i h64
   cases hf
   obtain ⟨v,rfl,a,us,rfl,sq,rs,l⟩:=u0 r1
   rw [Qa hn] at rs l
   rw [IF rs] at sq
   refine ⟨a,ns,rfl,xR x1.gh sq,h64,fun p hp=>q p _ _ (x1.trans (zP.layO x1.gh hp)) (x1.h.free hp) (x1.gh.free hp) ⟨_,yT,QW _,?_⟩⟩
   rw [List.length_map,(isort_perm ns).length_eq]
   rw [List.length_map] at l
   exact l
  ·cases hf
end L3
namespace L2
open PySem PySem.Spec PyProof.Rows
end L2
namespace L3
open PySem PySem.Spec PyProof.Rows L2
end L3
namespace L3
open PySem PySem.Spec PyProof.Rows L2
noncomputable def ge:D->D->Option D
 | .lst x,.lst y=>if x.length+y.length<=yA then some (.lst (x++y)) else none
 | _,_=>none
theorem Lw {x y d:D} (h:ge x y=some d):∃ xs ys,x=.lst xs/\y=.lst ys/\xs.length+ys.length<=yA/\d=.lst (xs++ys):=by
 unfold ge at h
 split at h
 ·rename_i xs ys
  by_cases c:xs.length+ys.length<=yA
  ·rw [if_pos c] at h
   cases h
   exact ⟨_,_,rfl,rfl,c,rfl⟩
  ·rw [if_neg c] at h
   cases h
 ·cases h
section
variable {X:Cx} {a b:Expr} {fa fb:FE} {x:Str} {xp pos:Pos}
theorem Ex {i:Nat} (ho:QE X (.Name x xp) (tT i)) (hb:SE X b fb):SF X (.BinOp (.Name x xp) .Add b pos) (e2 ge (uE i) fb):=by
 obtain ⟨tb,pb,kb⟩:=hb.h
 refine ⟨⟨_,JR JG ho.h pb,fun {G0 H0 G H τ σ d Q} E hf q=>?_⟩⟩
 obtain ⟨x,hx,hf⟩:=zM hf
 obtain ⟨y,hy,hf⟩:=zM hf
 obtain ⟨xs,ys,rfl,rfl,c,rfl⟩:=Lw hf
 ·have c':(xs++ys).length<=sizeLine:=by rw [sizeLine_eq,List.length_append]; exact c
  obtain ⟨o,ho⟩:=Tp hx
  cases o with
  | false=>
   obtain ⟨v,ev,rv⟩:=E.fr _ _ ho
   refine ⟨v,ev,kb E hy fun u G2 H2 x2 r2=>?_⟩
   obtain ⟨aa,vs,rfl,sa,ra,_⟩:=rv
   obtain ⟨bb,us,rfl,sb,rb,_⟩:=r2
   refine ⟨aa,bb,vs,us,rfl,rfl,xR (x2.g.trans x2.gh) sa,xR x2.gh sb,by rw [ra.length,rb.length,sizeLine_eq]; exact c,fun p hp=>?_⟩
   exact q p _ _ (x2.trans (zP.layO x2.gh hp)) (x2.h.free hp) (x2.gh.free hp) ⟨_,yT,(ra.mono x2.g).append rb,c'⟩
  | true=>
   obtain ⟨p,ev,_,_,vs,e1,ra,_⟩:=E.ow _ _ ho
   refine ⟨_,ev,kb E hy fun u G2 H2 x2 r2=>?_⟩
   obtain ⟨bb,us,rfl,sb,rb,_⟩:=r2
   refine ⟨p,bb,vs,us,rfl,rfl,yO.of (x2.h _ _ e1),xR x2.gh sb,by rw [ra.length,rb.length,sizeLine_eq]; exact c,fun p hp=>?_⟩
   exact q p _ _ (x2.trans (zP.layO x2.gh hp)) (x2.h.free hp) (x2.gh.free hp) ⟨_,yT,(ra.mono x2.g).append rb,c'⟩
end
end L3
namespace L3
open PySem PySem.Spec PyProof.Rows L2
end L3
namespace L3
open PySem PySem.Spec PyProof.Rows L2
end L3
namespace L3
open PySem PySem.Spec PyProof.Rows L2
end L3
namespace L3
open PySem PySem.Spec PyProof.Rows L2
noncomputable def YM (i:Nat) (e:FE):FS:=fun σ=>match σ[i]? with
 | some (some (true,.lst xs))=>(e σ).bind fun y=>match y with
  | .lst ys=>if xs.length+ys.length<=yA then some (.nx (σ.set i (some (true,.lst (xs++ys))))) else none
  | _=>none
 | _=>none
section
variable {X:Cx} {a b:Expr} {f fa fb:FE} {x:Str} {xp pos apos cpos:Pos} {e:Expr}
theorem ER (he:SF X e f) (hs:yi e=true:=by rfl):∃ t,PA X [e] t/\∀ {G0 H0 G H:Hp} {τ:yD} {σ:St} {d:D} {Q:List V->Hp->Prop},zo X.K X.N.length G0 H0 G H τ σ->f τ=some d->(∀ p G' H',zP G H G' H'->H p=none->G' p=none->wJ X.K G' H' d p->Q [.ref p] H')->t σ H Q:=by
 obtain ⟨t,p,k⟩:=he.h
 refine ⟨_,kH p jZ hs,fun E hf q=>k E hf fun p G1 H1 x1 hp gp o=>?_⟩
 exact q p G1 H1 x1 hp gp o
theorem Iq {i:Nat} (ho:QE X (.Name x xp) (tT i)) (he:SF X e f) (hbase:attributeBase (.Name x xp) "extend" X.env (eval (.Name x xp) X.env)=eval (.Name x xp) X.env:=by rfl) (hline:(apos.endLine == cpos.line)=true:=by rfl) (hs:yi e=true:=by rfl) :
  SS X (.Expr (.Call (.Attribute (.Name x xp) "extend" apos) [e] [] cpos) pos) (YM i f):=by
 obtain ⟨t,p,k⟩:=ER he hs
 refine ⟨⟨_,(Jj (pN PySem.F.plainAttrs_list PySem.F.slot_list_extend PySem.F.type_list_extend Bs ho ⟨p⟩ hbase hline (by rw [List.all_cons,hs]; rfl) (by show 1<30; decide)) rfl).h,fun {G0 H0 G H τ σ fl E} K hf q=>?_⟩⟩
 unfold YM at hf
 split at hf
 ·rename_i xs hd
  obtain ⟨y,hy,hf⟩:=zM hf
  cases y with
  | lst ys=>
   change (if xs.length+ys.length<=yA then some (Fl.nx (τ.set i (some (true,.lst (xs++ys))))) else none)=some fl at hf
   by_cases c:xs.length+ys.length<=yA
   ·rw [if_pos c] at hf
    cases hf
    obtain ⟨aa,ea,g,z,vs,ev,rs,l⟩:=K.ow _ _ hd
    refine ⟨_,ea,.inl ⟨rfl,vs,yO.of ev⟩,k K hy fun p G1 H1 x1 hp gp o=>?_⟩
    obtain ⟨us,eu,ru,_⟩:=o
    refine ⟨aa,p,vs,us,rfl,rfl,x1.h _ _ ev,eu,by rw [rs.length,ru.length,sizeLine_eq]; exact c,?_⟩
    refine q _ _ _ ((K.go x1).mut hd ea ⟨_,yT,(rs.mono x1.g).append ru,?_⟩)
    rw [sizeLine_eq,List.length_append]; exact c
   ·rw [if_neg c] at hf
    cases hf
  | _=>cases hf
 ·cases hf
end
end L3
namespace L3
open PySem PySem.Spec PyProof.Rows L2
end L3
namespace L2
open PySem PySem.Spec PyProof PyProof.Rows
end L2
namespace L3
open PySem PySem.Spec PyProof.Rows L2
end L3
namespace L2
open PySem PySem.Spec PyProof PyProof.Rows
end L2
namespace L2
open PySem PySem.Spec PyProof PyProof.Rows
end L2
namespace L2
open PySem PySem.Spec PyProof PyProof.Rows
end L2
namespace L3
open PySem PySem.Spec PyProof.Rows L2
end L3
namespace L2
open PySem PySem.Spec PyProof PyProof.Rows
end L2
namespace L2
open PySem PySem.Spec PyProof PyProof.Rows
section
variable {prog:Program} {w:World} {K:Type} [DecidableEq K] {knd:KeyKind prog w K} {A:Around} {E:Value->Shared->Prop}
theorem put_at {h:Heap} {a:Addr} {o:Obj} {es es2:Array (Int×Value)} {ep:Nat} {t t2:SetTable} (ho:h.get? a=some o) (hd:o.data=.set es ep t) :
  (h.update a (Obj.putSet es2 t2)).get? a=some { o with data:=.set es2 (ep+1) t2 }:=by
 have e:=Heap.get?_update_self (Obj.putSet es2 t2) ho (by rw [putSet_of es2 t2 hd]; rfl)
 rw [putSet_of es2 t2 hd] at e
 exact e
end
end L2
namespace L2
open PySem PySem.Spec PyProof PyProof.Rows
end L2
namespace L2
open PySem PySem.Spec PyProof PyProof.Rows
end L2
namespace L2
open PySem PySem.Spec PyProof PyProof.Rows
end L2
namespace L2
open PySem PySem.Spec PyProof PyProof.Rows
end L2
namespace L2
open PySem PySem.Spec PyProof PyProof.Rows
end L2
namespace L3
open PySem PySem.Spec PyProof.Rows L2
end L3
namespace L2
open PySem PySem.Spec PyProof PyProof.Rows
end L2
namespace L3
open PySem PySem.Spec PyProof.Rows L2
end L3
namespace L2
open PySem PySem.Spec PyProof PyProof.Rows
end L2
namespace L3
open PySem PySem.Spec PyProof.Rows L2
end L3
namespace L3
open PySem PySem.Spec PyProof.Rows L2
end L3
namespace L3
open PySem PySem.Spec PyProof.Rows L2
end L3
namespace L2
open PySem PySem.Spec PyProof PyProof.Rows
section
variable {X:Cx}
theorem Qm:∀ {kvs:List (zU×V)} {vs:List (zU×Value)},KV kvs vs->vs.map (·.1)=kvs.map (·.1)
 | _,_,.nil=>rfl
 | _,_,.cons r t=>by rw [List.map_cons,List.map_cons,Qm t,r.1]
end
end L2
namespace L3
open PySem PySem.Spec PyProof.Rows L2
end L3
namespace L2
open PySem PySem.Spec PyProof PyProof.Rows
end L2
namespace L3
open PySem PySem.Spec PyProof.Rows L2
end L3
namespace L3
open PySem PySem.Spec PyProof.Rows L2
section
variable {α:Type} {P:List α->Prop}
theorem OH (h:P []):∀ us:List α,us.length=0->P us
 | [],_=>h
theorem Yf {n:Nat} (h:∀ a (r:List α),r.length=n->P (a::r)):∀ us:List α,us.length=n+1->P us
 | a::r,e=>h a r (Nat.succ.inj e)
theorem OI (h:∀ a,P [a]):∀ us:List α,us.length=1->P us:=Yf fun a=>OH (P:=fun r=>P (a::r)) (h a)
theorem OJ (h:∀ a b,P [a,b]):∀ us:List α,us.length=2->P us:=Yf fun a=>OI (P:=fun r=>P (a::r)) (h a)
theorem OK (h:∀ a b c,P [a,b,c]):∀ us:List α,us.length=3->P us:=Yf fun a=>OJ (P:=fun r=>P (a::r)) (h a)
theorem Hi (h:∀ a b c d,P [a,b,c,d]):∀ us:List α,us.length=4->P us:=Yf fun a=>OK (P:=fun r=>P (a::r)) (h a)
end
noncomputable abbrev Q3 (x:Str) (st:Stmt) (oc:Value) (od:Option Addr) (sl:Array (Option Value)) (kV dc pm:Value) (an:Option Addr) (cd ct:Value):Option Obj:=some ⟨oc,od,.func (PySem.W.fnOf x x (qI st) (va st) (zm st) .none kV dc pm an cd ct),sl⟩
end L3
namespace L3
open PySem PySem.Spec PyProof.Rows L2
end L3
namespace L3
open PySem PySem.Spec PyProof PyProof.Rows L2
end L3
namespace L3
open PySem PySem.Spec PyProof PyProof.Rows L2
end L3
namespace L2
open PySem PySem.Spec PyProof PyProof.Rows
noncomputable def vn (K:PySem.W.Frag) (w:World) (a:Addr) (ks:List zU) (us:List V):Prop:=
 (a == sysModules)=false/\ks.length=us.length/\∃ ep,∀ (P:Program) (h:Heap),K.In h->∃ vs,KV (ks.zip us) vs/\h.DictAt (xG P w) a vs ep
theorem Qj {k:zU} {v:Value} (h:pF k v=true):zp (kV k) v:=by
 rcases ur h with ⟨i,t,rfl,rfl⟩ | ⟨x,t,rfl,rfl⟩
 ·exact ⟨t,rfl⟩
 ·exact ⟨t,rfl⟩
noncomputable def Xq (ks:List zU):It:=⟨fun i _=>i<ks.length,fun i H v H'=>H'=H/\∃ k,ks[i]?=some k/\v=kV k,fun i _=>ks.length<=i⟩
theorem uI:∀ {kvs:List (zU×V)} {vs:List (zU×Value)},KV kvs vs->vs.length=kvs.length
 | _,_,.nil=>rfl
 | _,_,.cons _ t=>by rw [List.length_cons,List.length_cons,uI t]
theorem HP {P:Program} {w:World} {K:PySem.W.Frag} {tg:Expr} {ks:List zU} {us:List V} {ep:Nat} (a it:Addr) (hl:ks.length=us.length) (g:∀ (P:Program) (h:Heap),K.In h->∃ vs,KV (ks.zip us) vs/\h.DictAt (xG P w) a vs ep) :
  uA P w K tg (Xq ks) [it] it (fun i h=>h.IsKeyIter it a i ks.length ep) where
 mem:=by simp
 obj:=fun i h st b hb=>by
  have e:b=it:=by simpa using hb
  subst e
  obtain ⟨o,e,c,d⟩:=st
  exact ⟨o,e,fun v z=>by rw [d] at z; cases z⟩
 keep:=fun i h h' st k=>st.at fun o e=>k it (by simp) o e
 item:=by
  intro X hP hw hK hc i pins s σ H E I hf st hg
  subst hP hw hK
  obtain ⟨vs,rel,dd⟩:=g X.prog s.heap I.kIn
  have ln:vs.length=ks.length:=by rw [uI rel,List.length_zip,hl,Nat.min_self]
  have hi:i<vs.length:=by rw [ln]; exact hg
  have hx:vs[i]?=some (vs[i].1,vs[i].2):=List.getElem?_eq_getElem hi
  have hk:ks[i]?=some vs[i].1:=by
   have e:=congrArg (fun l:List zU=>l[i]?) (Qm rel)
   simp only [List.getElem?_map,hx,Option.map_some,List.map_fst_zip (show ks.length<=us.length by omega)] at e
   exact e.symm
  obtain ⟨f0,f1,f2,f3,f4,f5⟩:=hf it (by simp)
  rw [<- ln] at st
  refine wpAny_pyNext_dict_item st dd hx fun key h' hkey st' sb=>?_
  rw [ln] at st'
  have I1:Inv X pins σ H { s with heap:=h' }:=I.turned (t':=s.toks) (fun b o hb e=>(sb.2 b hb).trans e) f0 f1 f3 f4 f5
  obtain ⟨o,e,c,d⟩:=id st'
  exact ⟨key,rfl,jK (s:={ s with heap:=h' }) e c d (by decide) ⟨kV vs[i].1,H,I1,Qj hkey,⟨rfl,_,hk,rfl⟩,st',fun b hb=>(hf b hb).1⟩⟩
 done:=by
  intro X hP hw hK hc i pins s σ H E I hf st hg
  subst hP hw hK
  obtain ⟨vs,rel,dd⟩:=g X.prog s.heap I.kIn
  have ln:vs.length=ks.length:=by rw [uI rel,List.length_zip,hl,Nat.min_self]
  have hx:vs[i]?=none:=List.getElem?_eq_none (by rw [ln]; exact hg)
  obtain ⟨f0,f1,f2,f3,f4,f5⟩:=hf it (by simp)
  rw [<- ln] at st
  exact wpAny_pyNext_dict_end (I.ok.hd hc) st dd hx fun h' eb=>⟨rfl,I.turned (t':=s.toks) (fun b o hb e=>eb b o hb e) f0 f1 f3 f4 f5⟩
 self:=fun _ _ _ _ _ st h=>wpAny_pyIter_keyiter st h
noncomputable def Mh (ks:List zU):TI:=fun _ H R=>R (Xq ks) H
theorem C3 {X:Cx} {tg:Expr} {x:Str} {p:Pos} {A:Addr} {ks:List zU} {us:List V} (h:yt X.mg x (.ref A)) (g:vn X.K X.w A ks us) (hg:Gl X x) (hd:(x == ("__debug__" : Str))=false:=by decide):PI X tg (.Name x p) (Mh ks):=by
 intro pins s σ H R I hR
 obtain ⟨hsys,hl,ep,mk⟩:=g
 refine zg (kI (pos:=p) h hg hd pins s σ H (fun v H1=>v=.ref A/\H1=H) I ⟨rfl,rfl⟩) fun v s1 ⟨y,H1,I1,r1,e1,e2⟩=>?_
 subst e1 e2
 cases (show v=Value.ref A from r1)
 obtain ⟨vs,rel,dd⟩:=mk X.prog s1.heap I1.kIn
 have ln:vs.length=ks.length:=by rw [uI rel,List.length_zip,hl,Nat.min_self]
 refine wpAny_pyIter_dict hsys dd ?_
 rw [ln]
 refine ⟨s1.heap.objs.size,[s1.heap.objs.size],_,_,H1,rfl,I1.kept (t':=s1.toks) fun b o e=>Heap.get?_push_of_some _ e,HP A _ hl mk,⟨_,Heap.get?_push_size _ rfl,rfl,rfl⟩,fun b hb=>?_,hR⟩
 have e:b=s1.heap.objs.size:=by simpa using hb
 subst e
 exact I1.fpOk (Nat.le_refl _) (I1.hok.fresh (Nat.le_refl _))
end L2
namespace L3
open PySem PySem.Spec PyProof PyProof.Rows L2
noncomputable def jT:zU->D
 | .inl i=>.int i
 | .inr x=>.str x
noncomputable def tM:zU->Bool
 | .inl _=>true
 | .inr x=>decide (x.length<=yA)
noncomputable def iG (ks:List zU):FA:=fun _=>some (ks.map jT)
theorem Qk {K:PySem.W.Frag} {G:Hp} {k:zU} (h:tM k=true):zZ K G (jT k) (kV k):=by
 cases k with
 | inl i=>rfl
 | inr x=>exact ⟨rfl,by rw [sizeLine_eq]; exact of_decide_eq_true h⟩
theorem MA {K:PySem.W.Frag} {G:Hp} {ks:List zU} (h:ks.all tM=true):vp K (Xq ks) G (ks.map jT) where
 go:=fun i G2 H _ _ hi=>by rw [List.length_map] at hi; exact hi
 yld:=fun i G2 H x H' g1 g2 hi y=>by
  obtain ⟨rfl,k,hk,rfl⟩:=y
  exact ⟨G2,jT k,zP.refl g2,by rw [List.getElem?_map,hk]; rfl,Qk (List.all_eq_true.mp h k (List.mem_of_getElem? hk))⟩
 stop:=fun i G2 H _ _ hi=>by rw [List.length_map] at hi; exact hi
theorem Uh {X:Cx} {tg:Expr} {x:Str} {p:Pos} {A:Addr} {ks:List zU} {us:List V} (h:yt X.mg x (.ref A)) (g:vn X.K X.w A ks us) (hg:Gl X x) (hk:ks.all tM=true) (hn:ks.length<=1000) (hd:(x == ("__debug__" : Str))=false:=by decide):SI X tg (.Name x p) (iG ks):=
 ⟨⟨_,C3 h g hg hd,fun {G0 H0 G H τ σ ds R} K hf q=>by
  cases hf
  exact q _ _ _ (zP.refl K.ext.gh) (by rw [List.length_map,sizeLine_eq]; exact Nat.le_trans hn (by decide)) (MA hk)⟩⟩
theorem Ws {K:PySem.W.Frag} {w:World} {a:Addr} {es:List DictEntry} {n:Nat} {xs:List Str} {vs:List Value} {us:List V} (l:K.lookup a=some { cls:=.type "dict",data:=.dict es.toArray n }) (e:ua w es xs vs) (nd:xs.Nodup) (hs:(a == sysModules)=false) (r:zi us vs) :
  vn K w a (xs.map .inr) us:=by
 have hl:(xs.map Sum.inr:List zU).length=us.length:=by rw [List.length_map,e.len,r.length]
 refine ⟨hs,hl,n,fun P h KI=>⟨_,V7 r hl,?_⟩⟩
 obtain ⟨p,q⟩:=e.pairs (P:=P)
 refine ⟨_,_,KI _ _ l,⟨rfl,rfl,rfl⟩,rfl,fun e he=>q e (by simpa using he),p,?_⟩
 rw [U_ (by rw [List.length_map]; exact e.len)]
 exact List.Pairwise.map _ (fun a b h z=>h (Sum.inr.inj z)) nd
end L3
namespace L2
open PySem PySem.Spec PyProof PyProof.Rows
noncomputable def T8 (r d:Addr) (h:Heap):Prop:=h.IsValuesView r d
noncomputable abbrev gS (r d:Addr):HO:=.ext (T8 r d)
section
variable {X:Cx} {A:Addr} {ks:List zU} {us:List V} {x:Str} {p apos cpos:Pos}
noncomputable def O2 (A:Addr):TE:=fun _ H Q=>∀ r,H r=none->Q (.ref r) (zV H r (gS r A))
theorem Fu (h:yt X.mg x (.ref A)) (g:vn X.K X.w A ks us) (hg:Gl X x) (hd:(x == ("__debug__" : Str))=false:=by decide)
  (hbase:attributeBase (.Name x p) "values" X.env (eval (.Name x p) X.env)=eval (.Name x p) X.env:=by rfl) (hline:(apos.endLine == cpos.line)=true:=by rfl) :
  PE X (.Call (.Attribute (.Name x p) "values" apos) [] [] cpos) (O2 A):=by
 intro pins s σ H Q I hQ
 obtain ⟨hsys,hl,ep,mk⟩:=g
 refine wpAny_Call_method0_late hbase hline (zg (kI (pos:=p) h hg hd pins s σ H (fun v H1=>v=.ref A/\H1=H) I ⟨rfl,rfl⟩) fun v s1 ⟨y,H1,I1,r1,e1,e2⟩=>?_)
 subst e1 e2
 cases (show v=Value.ref A from r1)
 obtain ⟨vs,rel,dd⟩:=mk X.prog s1.heap I1.kIn
 have dO:s1.heap.DictOf (xG X.prog X.w) A vs:=dd.dictOf
 have t2:∀ b,Value.ref A=.ref b->∃ ob,s1.heap.get? b=some ob/\ob.dict=none:=fun b q=>by
  cases q
  obtain ⟨ob,_,_,h1,h2,_⟩:=dO
  exact ⟨ob,h1,h2.2.1⟩
 refine ⟨"dict",_,PySem.F.plainAttrs_dict,PySem.F.slot_dict_values,PySem.F.type_dict_values,dO.typeIs,t2,Calls.callWith_builtin rfl (PySem.evalArgs_none ?_)⟩
 refine call_meetsIn PySem.F.slot_dict_values dO.typeIs PySem.F.entry_dict_values (PySem.F.args_dict_values_1 _) (meets_dict_values (xG X.prog X.w) A hsys) ⟨⟨vs,dO⟩,?_⟩
 have hv:T8 s1.heap.objs.size A (s1.heap.push { cls:=.type "dict_values",data:=.fields #[.ref A] }):=⟨_,Heap.get?_push_size _ rfl,rfl,rfl⟩
 refine ⟨.ref s1.heap.objs.size,_,I1.laid (a:=s1.heap.objs.size) (o:=gS s1.heap.objs.size A) (t':=s1.toks) (fun _ _ q=>Heap.get?_push_of_some _ q) (Nat.le_refl _) ⟨hv,?_,fun h1 h2 z k=>?_⟩,rfl,hQ _ I1.fresh⟩
 ·obtain ⟨o,e,_⟩:=hv
  exact ⟨o,e⟩
 ·obtain ⟨o,e,z⟩:=z
  exact ⟨o,k _ e,z⟩
noncomputable def E6 (A:Addr) (us:List V):List V->Hp->VK->Prop:=fun xs H Q=>∃ r,xs=[.ref r]/\H r=some (gS r A)/\∀ p,H p=none->Q (.ref p) (zV H p (.lst us))
theorem Qn:∀ {kvs:List (zU×V)} {vs:List (zU×Value)},KV kvs vs->zi (kvs.map (·.2)) (vs.map (·.2))
 | _,_,.nil=>.nil
 | _,_,.cons r t=>.cons r.2 (Qn t)
theorem LF (hcalm:X.calm=true) (g:vn X.K X.w A ks us) (hn:us.length<=1000):xT X (.type "list") (E6 A us):=by
 intro pins s σ H xs ws Q I r h
 obtain ⟨a,rfl,ea,q⟩:=h
 obtain ⟨u,rfl,ru⟩:=wR r
 cases (show u=Value.ref a from ru)
 obtain ⟨hsys,hl,ep,mk⟩:=g
 obtain ⟨vs,rel,dd⟩:=mk X.prog s.heap I.kIn
 have ln:vs.length=us.length:=by rw [uI rel,List.length_zip,hl,Nat.min_self]
 obtain ⟨hv,_⟩:=(show yc X.prog X.w H s.heap a (gS a A) from I.hok a _ ea)
 refine PySem.W.kdl_call (PySem.W.kdl_values (knd:=xG X.prog X.w) (d:=A) (r:=a) (kvs:=vs) (ep:=ep)) (I.ok.hd hcalm) ⟨hv,dd⟩ (by rw [ln,sizeLine_eq]; exact Nat.le_trans hn (by decide)) fun h' tk acc' c' kp hS hacc=>?_
 obtain ⟨hsz,hat⟩:=hacc
 have e:acc'.toList=vs.map (·.2):=by
  refine List.ext_getElem? fun j=>?_
  cases hj:acc'.toList[j]? with
  | none=>
   have:=List.getElem?_eq_none_iff.mp hj
   rw [Array.length_toList,hsz] at this
   rw [List.getElem?_map,List.getElem?_eq_none this]
   rfl
  | some v=>
   obtain ⟨k,e⟩:=hat j v (by rw [<- Array.getElem?_toList]; exact hj)
   rw [List.getElem?_map,e]
   rfl
 have rv:zi us acc'.toList:=by
  rw [e]
  have:=Qn rel
  rw [List.map_snd_zip (show us.length<=ks.length by omega)] at this
  exact this
 refine ⟨.ref s.heap.objs.size,_,I.laid (a:=s.heap.objs.size) (o:=.lst us) (t':=tk) kp (Nat.le_refl _) ⟨?_,acc'.toList,c',rv,?_⟩,rfl,q _ I.fresh⟩
 ·rw [sizeLine_eq]
  exact Nat.le_trans hn (by decide)
 ·rw [hS]
end
end L2
namespace L3
open PySem PySem.Spec PyProof PyProof.Rows L2
theorem Ie {X:Cx} {A:Addr} {ks:List zU} {us:List V} {ds:List D} {x:Str} {p p2 apos cpos pos:Pos} (hcalm:X.calm=true) (hgl:Gl X "list") (hml:X.mg "list" = none) (h:yt X.mg x (.ref A)) (g:vn X.K X.w A ks us) (hg:Gl X x) (rd:∀ H,Reps X.K H ds us) (hn:ds.length<=1000) (hd:(x == ("__debug__" : Str))=false:=by decide)
  (hbase:attributeBase (.Name x p2) "values" X.env (eval (.Name x p2) X.env)=eval (.Name x p2) X.env:=by rfl) (hline:(apos.endLine == cpos.line)=true:=by rfl) :
  SF X (.Call (.Name "list" p) [.Call (.Attribute (.Name x p2) "values" apos) [] [] cpos] [] pos) (eC (.lst ds)):=by
 have hu:us.length<=1000:=by rw [(rd (fun _=>none)).length]; exact hn
 have q1:QE X (.Call (.Attribute (.Name x p2) "values" apos) [] [] cpos) (O2 A):=⟨Fu h g hg hd hbase hline⟩
 refine ⟨⟨_,(YI (p:=p) (pos:=pos) (LF hcalm g hu) hgl hml Tf (Vb q1 Jg) (by decide) (by decide)).h,fun {G0 H0 G H τ σ d Q} E hf q=>?_⟩⟩
 cases hf
 intro r hr
 refine ⟨r,rfl,yT,fun l hl=>?_⟩
 have x1:=zP.layO (o:=gS r A) E.ext.gh hr
 have x2:=x1.trans (zP.layO (o:=.lst us) x1.gh hl)
 exact q l _ _ x2 (x1.h.free hl) (x1.gh.free hl) ⟨us,yT,rd _,by rw [sizeLine_eq]; exact Nat.le_trans hn (by decide)⟩
end L3
namespace L2
open PySem PySem.Spec PyProof PyProof.Rows
end L2
namespace L3
open PySem PySem.Spec PyProof PyProof.Rows L2
end L3
namespace L2
open PySem PySem.Spec PyProof PyProof.Rows
section
variable {prog:Program} {w:World} {A:Around} {E:Value->Shared->Prop} {s:Shared}
open HT in
theorem M8 {t sl:Addr} {items:Array Value} {vl vu:Value} {lo hi:Option Int} {Q:Value->Shared->Prop} (ht:IsTup s.heap t items) (hs:s.heap.IsSliceOf sl vl vu .none) (pl:IsPart vl lo) (pu:IsPart vu hi)
  (hw:sIx items.size 0 lo=0/\sIx items.size items.size hi=items.size) (h:Q (.ref t) s):wpAny (model prog w) A (getItem (.ref t) (.ref sl)) Q E s:=by
 obtain ⟨os,hos,hcs,hds⟩:=id hs
 have hTs:s.TypeIs (.ref sl) "slice" := ⟨os,hos,hcs⟩
 unfold getItem
 try with_reducible refine wpAny_holding ?_
 first | refine wpAny_bind (wpAny_pure ?_) | skip
 refine wpAny_bind (wpAny_sequenceKey ht.typeIs (by decide) ?_)
 refine wpAny_bind (wpAny_callSpecial?_slot (name:=Str.ofString "__getitem__") ht.typeIs PyProof.Rows.slot_tuple_getitem
  (wpAny_call_entry PyProof.Rows.slot_tuple_getitem ht.typeIs entry_tuple_getitem ?_ (args_tuple_getitem _ _)))
 show wpAny _ _ (Builtin.Tuple.tupleItemsOf (.ref t) >>= _) _ _ s
 refine wpAny_bind (tupleItemsOf_ ht ?_)
 refine wpAny_bind (wpAny_typeOf hTs ?_)
 rw [if_pos (by decide)]
 refine wpAny_bind (Ik hs pl pu ?_)
 have hyes:(((sIx items.size 0 lo:Nat):Int) == 0&&(1:Int) == 1&&(sIx items.size items.size hi - sIx items.size 0 lo) == items.size)=true:=by
  rw [hw.1,hw.2,Nat.sub_zero]
  simp
 show wpAny _ _ (if (((sIx items.size 0 lo:Nat):Int) == 0&&(1:Int) == 1&&(sIx items.size items.size hi - sIx items.size 0 lo) == items.size)=true then _ else _) _ _ s
 rw [if_pos hyes]
 have hT:s.TypeIs (.ref t) "tuple" := ht.typeIs
 unfold Builtin.Tuple.tupleIsExact
 exact wpAny_bind (wpAny_bind (wpAny_typeOf hT (wpAny_pure (wpAny_bind (wpAny_rule (wpAny_pure ⟨_,rfl,wpAny_pure h⟩))))))
end
noncomputable def EA (K:PySem.W.Frag):V->Option Int->Option Int->Hp->VK->Prop:=fun x lo hi H Q=>∃ a xs,x=.ref a/\yd K H a xs/\
 (HT.sIx xs.length 0 lo=0/\HT.sIx xs.length xs.length hi=xs.length)/\Q (.ref a) H
theorem GH {X:Cx}:ud X (EA X.K):=by
 intro pins s σ H x v vl vu lo hi sl Q I rx hs pl pu h
 obtain ⟨a,xs,rfl,hx,hw,q⟩:=h
 cases rx
 obtain ⟨its,r,ht,hz⟩:=I.tuple hx
 have hlen:its.toArray.size=xs.length:=by rw [List.size_toArray]; exact r.length.symm
 refine ⟨"tuple",_,PyProof.Rows.slot_tuple_getitem.lookup,ht.typeIs,?_⟩
 exact M8 ht hs pl pu (by rw [hlen]; exact hw) ⟨.ref a,H,I,rfl,q⟩
end L2
namespace L3
open PySem PySem.Spec PyProof PyProof.Rows L2
noncomputable def qx (d:D) (lo hi:Option Int):Option D:=match d with
 | .tup xs=>some (.tup (uf xs lo hi))
 | d=>qK d lo hi
noncomputable def ui (a:FE) (lo hi:FO):FE:=fun σ=>(a σ).bind fun d=>(lo σ).bind fun l=>(hi σ).bind fun h=>qx d l h
theorem LX {α:Type} {xs:List α} {lo hi:Option Int} (c:HT.sIx xs.length 0 lo=0/\HT.sIx xs.length xs.length hi=xs.length):uf xs lo hi=xs:=by
 unfold uf
 rw [c.1,c.2,Nat.sub_zero,List.drop_zero,List.take_length]
theorem IY {X:Cx} {a:Expr} {fa:FE} {pos:Pos} {lo hi:Option Expr} {fl fh:FO} {p2:Pos} (ha:SE X a fa) (hl:SO X lo fl) (hh:SO X hi fh):SE X (.Subscript a (.Slice lo hi none p2) pos) (ui fa fl fh):=by
 obtain ⟨ta,pa,ka⟩:=ha.h
 obtain ⟨tl,pl,kl⟩:=hl.h
 obtain ⟨th,ph,kh⟩:=hh.h
 refine ⟨⟨_,JT (Ij.or GH) pa pl ph,fun {G0 H0 G H τ σ d Q} E hf q=>?_⟩⟩
 obtain ⟨x,hx,hf⟩:=zM hf
 obtain ⟨l,hl,hf⟩:=zM hf
 obtain ⟨h,hh,hf⟩:=zM hf
 refine ka E hx fun v G1 H1 x1 r1=>kl (E.go x1) hl fun G2 H2 x2=>kh ((E.go x1).go x2) hh fun G3 H3 x3=>?_
 have xx:=x1.trans (x2.trans x3)
 have r3:=r1.mono (x2.g.trans x3.g)
 cases x with
 | lst xs=>
  cases hf
  obtain ⟨a,vs,rfl,sq,rs,ll⟩:=r3
  refine .inl (.inl ⟨a,vs,rfl,xR x3.gh sq,fun p hp=>q _ _ _ (xx.trans (zP.lay x3.gh hp)) ⟨p,_,rfl,yO.of yT,(rs.cut l h).mono (xm (x3.gh.free hp) _),Nat.le_trans (ZP ..) ll⟩⟩)
 | tup xs=>
  cases hf
  obtain ⟨a,vs,rfl,sq,rs,ll⟩:=r3
  by_cases c:HT.sIx xs.length 0 l=0/\HT.sIx xs.length xs.length h=xs.length
  ·refine .inr ⟨a,vs,rfl,wP x3.gh sq,by rw [rs.length]; exact c,?_⟩
   rw [LX c] at q
   exact q _ _ _ xx ⟨a,vs,rfl,sq,rs,ll⟩
  ·refine .inl (.inr (.inl ⟨a,vs,rfl,wP x3.gh sq,by rw [rs.length]; exact c,fun p hp=>?_⟩))
   exact q _ _ _ (xx.trans (zP.lay x3.gh hp)) ⟨p,_,rfl,yd.of yT,(rs.cut l h).mono (xm (x3.gh.free hp) _),Nat.le_trans (ZP ..) ll⟩
 | str z=>
  cases hf
  obtain ⟨rfl,ll⟩:=r3
  exact .inl (.inr (.inr ⟨z,rfl,ll,q _ _ _ xx ⟨rfl,Nat.le_trans (cut_len ..) ll⟩⟩))
 | _=>cases hf
end L3
namespace L2
open PySem PySem.Spec PyProof PyProof.Rows
section
variable {X:Cx} {pins:List (Addr×Obj)} {σ:St} {H:Hp} {s:Shared} {a:Addr} {o:Obj} {kvs:List (zU×V)}
theorem Inv.swap {u u':HO} (I:Inv X pins σ H s) (e:H a=some u) (no:∀ x,u≠.own x) (nt:∀ xs,u≠.tup xs) (nb:∀ ps,X.H₀ a≠some (.tbl ps)) (nf:∀ ob v,X.H₀ a≠some (.frz ob v)) (nq:∀ xs,X.H₀ a≠some (.tup xs)) (new:yc X.prog X.w (zV H a u') s.heap a u'):Inv X pins σ (zV H a u') s:=by
 have ne:∀ b,H b=none->b≠a:=fun b hb z=>by subst z; rw [e] at hb; cases hb
 refine ⟨I.ok,I.os,I.bare,⟨I.base.keep,I.base.slot,fun b ob q n hx=>?_,I.base.there,fun b xs q=>?_,fun b ob v q=>?_,fun b ps q=>?_⟩,I.loc,I.cell,?_,fun x c q=>?_,fun p hp=>?_,fun b v q=>?_,I.len⟩
 ·have:=I.base.free b ob q n hx
  rw [zr (ne b this)]; exact this
 ·have hb:b≠a:=fun z=>by subst z; exact nq xs q
  rw [zr hb]; exact I.base.tups b xs q
 ·have hb:b≠a:=fun z=>by subst z; exact nf ob v q
  rw [zr hb]; exact I.base.frzs b ob v q
 ·have hb:b≠a:=fun z=>by subst z; exact nb ps q
  rw [zr hb]; exact I.base.tbls b ps q
 ·rw [zr (ne _ I.free)]; exact I.free
 ·rw [zr (ne _ (I.freeC x c q))]; exact I.freeC x c q
 ·obtain ⟨h1,h2,h3⟩:=I.pin p hp
  exact ⟨h1,by rw [zr (ne _ h2)]; exact h2,h3⟩
 ·by_cases hb:b=a
  ·subst hb; rw [yT] at q; cases q; exact new
  ·rw [zr hb] at q
   refine (I.hok b v q).stay (fun c w _ z=>z) (fun c z=>?_) fun c xs z=>?_
   ·have hc:c≠a:=fun y=>by subst y; rw [e] at z; cases z; exact no _ rfl
    rw [zr hc]; exact z
   ·have hc:c≠a:=fun y=>by subst y; rw [e] at z; cases z; exact nt _ rfl
    rw [zr hc]; exact z
theorem Inv.noH (I:Inv X pins σ H s) (e:H a=some (.dK kvs)):(∀ ps,X.H₀ a≠some (.tbl ps))/\(∀ ob v,X.H₀ a≠some (.frz ob v))/\∀ xs,X.H₀ a≠some (.tup xs):=by
 refine ⟨fun ps z=>?_,fun ob v z=>?_,fun xs z=>?_⟩
 ·obtain ⟨_,q⟩:=I.base.tbls a ps z; rw [e] at q; cases q
 ·have q:=I.base.frzs a ob v z; rw [e] at q; cases q
 ·have q:=I.base.tups a xs z; rw [e] at q; cases q
theorem Inv.up (I:Inv X pins σ H s) (e:H a=some (.dK kvs)):∃ o,Inv X pins σ (zV H a (.frz o (.dK kvs))) s:=by
 obtain ⟨n1,n2,n3⟩:=I.noH e
 obtain ⟨z,y,vs,r,ob,es,ep,g,c⟩:=(show yc X.prog X.w H s.heap a (.dK kvs) from I.hok a _ e)
 exact ⟨ob,I.swap e (fun _ z=>nomatch z) (fun _ z=>nomatch z) n1 n2 n3 ⟨g,z,y,vs,r,ob,es,ep,g,c⟩⟩
theorem Inv.dn (I:Inv X pins σ H s) (e:H a=some (.frz o (.dK kvs))) (n:(∀ ps,X.H₀ a≠some (.tbl ps))/\(∀ ob v,X.H₀ a≠some (.frz ob v))/\∀ xs,X.H₀ a≠some (.tup xs)):Inv X pins σ (zV H a (.dK kvs)) s:=by
 obtain ⟨n1,n2,n3⟩:=n
 obtain ⟨_,z,y,vs,r,ob,es,ep,g,c⟩:=(show yc X.prog X.w H s.heap a (.frz o (.dK kvs)) from I.hok a _ e)
 exact I.swap e (fun _ z=>nomatch z) (fun _ z=>nomatch z) n1 n2 n3 ⟨z,y,vs,r,ob,es,ep,g,c⟩
end
noncomputable def v4.dn (D:v4) (a:Addr) (o:Obj) (kvs:List (zU×V)):v4:=
 ⟨fun σ H=>H a=some (.frz o (.dK kvs))/\D.nx σ (zV H a (.dK kvs)),fun v H=>H a=some (.frz o (.dK kvs))/\D.rt v (zV H a (.dK kvs)),fun σ H=>H a=some (.frz o (.dK kvs))/\D.bk σ (zV H a (.dK kvs)),fun σ H=>H a=some (.frz o (.dK kvs))/\D.ct σ (zV H a (.dK kvs))⟩
noncomputable def EQ (i:Nat) (t:TS):TS:=fun D σ H=>∃ a,σ[i]?=some (some (.ref a))/\((∃ o kvs,H a=some (.frz o (.dK kvs))/\t D σ H)\/∃ kvs,H a=some (.dK kvs)/\∀ o,t (D.dn a o kvs) σ (zV H a (.frz o (.dK kvs))))
theorem CU {X:Cx} {st:Stmt} {t:TS} {i:Nat} (h:PS X st t):PS X st (EQ i t):=by
 intro pins s σ H D I ht
 obtain ⟨a,ha,⟨_,_,_,ht⟩ | ⟨kvs,e,ht⟩⟩:=ht
 ·exact h pins s σ H D I ht
 ·obtain ⟨o,I1⟩:=I.up e
  refine zg (h pins s σ _ _ I1 (ht o)) fun f s' hf=>?_
  cases f with
  | next=>obtain ⟨σ',H',I',e',q⟩:=hf; exact ⟨σ',_,I'.dn e' (I.noH e),q⟩
  | brk=>obtain ⟨σ',H',I',e',q⟩:=hf; exact ⟨σ',_,I'.dn e' (I.noH e),q⟩
  | cont=>obtain ⟨σ',H',I',e',q⟩:=hf; exact ⟨σ',_,I'.dn e' (I.noH e),q⟩
  | ret u=>obtain ⟨v,σ',H',I',r,e',q⟩:=hf; exact ⟨v,σ',_,I'.dn e' (I.noH e),r,q⟩
noncomputable def Gv (i:Nat) (t:TE):TE:=fun σ H Q=>∃ a,σ[i]?=some (some (.ref a))/\((∃ o kvs,H a=some (.frz o (.dK kvs))/\t σ H Q)\/∃ kvs,H a=some (.dK kvs)/\∀ o,t σ (zV H a (.frz o (.dK kvs))) fun v H'=>H' a=some (.frz o (.dK kvs))/\Q v (zV H' a (.dK kvs)))
theorem Fq {X:Cx} {e:Expr} {t:TE} {i:Nat} (h:PE X e t):PE X e (Gv i t):=by
 intro pins s σ H Q I ht
 obtain ⟨a,ha,⟨_,_,_,ht⟩ | ⟨kvs,e,ht⟩⟩:=ht
 ·exact h pins s σ H Q I ht
 ·obtain ⟨o,I1⟩:=I.up e
  exact zg (h pins s σ _ _ I1 (ht o)) fun u s' ⟨v,H',I',r,e',q⟩=>⟨v,_,I'.dn e' (I.noH e),r,q⟩
theorem jF {P:Program} {w:World} {H:Hp} {h:Heap} {a:Addr} {o:Obj} {kvs:List (zU×V)} {es:Array DictEntry} {ep:Nat} (ok:yn P w H h) (e:H a=some (.frz o (.dK kvs))) (d:o.data=.dict es ep):(a == sysModules)=false/\∃ vs,KV kvs vs/\h.DictAt (xG P w) a vs ep:=by
 obtain ⟨g,z,y,vs,r,ob,es',ep',g',c⟩:=(show yc P w H h a (.frz o (.dK kvs)) from ok a _ e)
 rw [g] at g'
 cases g'
 refine ⟨y,vs,r,o,es',g,c.1,?_,c.2.2⟩
 have e1:=c.2.1
 rw [d] at e1
 cases e1
 exact d
end L2
namespace L2
open PySem PySem.Spec PyProof PyProof.Rows
theorem V6:∀ {kvs:List (zU×V)} {vs:List (zU×Value)} {i:Nat} {k:zU} {x:Value},KV kvs vs->vs[i]?=some (k,x)->∃ u,kvs[i]?=some (k,u)/\zp u x
 | _,_,_,_,_,.nil,e=>by cases e
 | _,_,0,_,_,.cons r t,e=>by
  cases e
  obtain ⟨r1,r2⟩:=r
  exact ⟨_,congrArg some (Prod.ext r1 rfl),r2⟩
 | _,_,i+1,_,_,.cons _ t,e=>V6 (i:=i) t (by simpa using e)
end L2
namespace L3
open PySem PySem.Spec PyProof PyProof.Rows L2
structure Tw (a:Addr) (kvs:List (zU×V)) (G G':Hp):Prop where
 ne:∀ b,b≠a->G' b=G b
 l:Rd G a (.dK kvs)
 r:Rd G' a (.dK kvs)
section
variable {K:PySem.W.Frag} {a:Addr} {o:Obj} {kvs:List (zU×V)} {G G' H H' G0 H0:Hp}
theorem Rd.tw {b:Addr} {u:HO} (t:Tw a kvs G G') (hu:∀ ob v,u≠.frz ob v) (h:Rd G b u):Rd G' b u:=by
 by_cases hb:b=a
 ·subst hb
  have e:u=.dK kvs:=by
   rcases h with h | ⟨ob,h⟩<;>rcases t.l with l | ⟨oc,l⟩<;>rw [l] at h
   ·cases h; rfl
   ·cases h; exact absurd rfl (hu oc _)
   ·cases h
   ·cases h; rfl
  rw [e]
  exact t.r
 ·rcases h with h | ⟨ob,h⟩
  ·exact .inl (by rw [t.ne b hb]; exact h)
  ·exact .inr ⟨ob,by rw [t.ne b hb]; exact h⟩
theorem Tw.at {b:Addr} {u:HO} (t:Tw a kvs G G') (h:G b=some u) (h1:u≠.dK kvs) (h2:∀ o,u≠.frz o (.dK kvs)):G' b=some u:=by
 by_cases hb:b=a
 ·subst hb
  rcases t.l with l | ⟨oc,l⟩<;>rw [l] at h
  ·cases h; exact absurd rfl h1
  ·cases h; exact absurd rfl (h2 oc)
 ·rw [t.ne b hb]; exact h
theorem zZ.tw (t:Tw a kvs G G'):∀ {d:D} {v:V},zZ K G d v->zZ K G' d v:=fun {d}=>by
 refine D.ind (P:=fun d=>∀ v,zZ K G d v->zZ K G' d v) (fun v h=>h) (fun b v h=>h) (fun i v h=>h) (fun x v h=>h) ?_ ?_ ?_ ?_ ?_ d _
 ·rintro xs ih v ⟨b,vs,e,q,r,l⟩
  refine ⟨b,vs,e,?_,Reps.imp ih r,l⟩
  rcases q with q | q
  ·exact .inl (Rd.tw t (fun _ _ z=>nomatch z) q)
  ·exact .inr q
 ·rintro xs ih v ⟨b,vs,e,q,r,l⟩
  refine ⟨b,vs,e,?_,Reps.imp ih r,l⟩
  rcases q with q | q
  ·exact .inl (Rd.tw t (fun _ _ z=>nomatch z) q)
  ·exact .inr q
 ·rintro ks xs ih v ⟨b,vs,e,q,z,r,l⟩
  exact ⟨b,vs,e,Rd.tw t (fun _ _ z=>nomatch z) q,z,Reps.imp ih r,l⟩
 ·rintro x v ⟨b,C,e,n,h⟩
  exact ⟨b,C,e,n,t.at h (fun z=>nomatch z) (fun _ z=>nomatch z)⟩
 ·rintro x fs xs ih v ⟨b,C,dx,vs,e,n,h,l,r⟩
  exact ⟨b,C,dx,vs,e,n,t.at h (fun z=>nomatch z) (fun _ z=>nomatch z),l,Reps.imp ih r⟩
theorem Reps.tw (t:Tw a kvs G G') {ds:List D} {vs:List V} (h:Reps K G ds vs):Reps K G' ds vs:=Reps.imp (fun _ _ _=>zZ.tw t) h
theorem wJ.tw {d:D} {p:Addr} (t:Tw a kvs G G') (hp:H' p=H p) (ow:wJ K G H d p):wJ K G' H' d p:=by
 cases d with
 | lst ds=>obtain ⟨vs,e,r,l⟩:=ow; exact ⟨vs,by rw [hp]; exact e,r.tw t,l⟩
 | dic ks ds=>obtain ⟨vs,e,z,r,l⟩:=ow; exact ⟨vs,by rw [hp]; exact e,z,r.tw t,l⟩
 | _=>exact ow.elim
theorem Us (e:G a=some (.dK kvs)):Tw a kvs G (zV G a (.frz o (.dK kvs))):=⟨fun b hb=>zr hb,.inl e,.inr ⟨o,yT⟩⟩
theorem Yd (e:G a=some (.frz o (.dK kvs))):Tw a kvs G (zV G a (.dK kvs)):=⟨fun b hb=>zr hb,.inr ⟨o,e⟩,.inl yT⟩
noncomputable def qb (a:Addr) (f:HO) (H0:Hp):Hp:=fun b=>if b=a then (H0 a).bind fun _=>some f else H0 b
theorem OE {f:HO} {b:Addr} (h:b≠a):qb a f H0 b=H0 b:=if_neg h
theorem Ye {f:HO} {b:Addr}:qb a f H0 b=none↔H0 b=none:=by
 unfold qb
 by_cases h:b=a
 ·subst h
  rw [if_pos rfl]
  cases H0 b with
  | none=>exact ⟨fun _=>rfl,fun _=>rfl⟩
  | some u=>exact ⟨fun z=>(nomatch z),fun z=>(nomatch z)⟩
 ·rw [if_neg h]
theorem Hh {f u:HO} (h:qb a f H0 a=some u):u=f:=by
 unfold qb at h
 rw [if_pos rfl] at h
 cases e:H0 a with
 | none=>rw [e] at h; cases h
 | some w=>rw [e] at h; cases h; rfl
theorem zo.up {n:Nat} {τ:yD} {σ:St} (E:zo K n G0 H0 G H τ σ) (e:G a=some (.dK kvs)):zo K n (zV G a (.frz o (.dK kvs))) (qb a (.frz o (.dK kvs)) H0) (zV G a (.frz o (.dK kvs))) (zV H a (.frz o (.dK kvs))) τ σ:=by
 have t:=Us (o:=o) e
 refine ⟨⟨yN.refl _,fun b u h=>?_,YO E.ext.gh,fun _ h=>.inl h⟩,E.l1,E.l2,fun i d h=>?_,fun i d h=>?_,E.ap⟩
 ·by_cases hb:b=a
  ·subst hb
   rw [yT,Hh h]
  ·rw [OE hb] at h
   rw [zr hb]
   exact E.ext.h _ _ h
 ·obtain ⟨v,e',r⟩:=E.fr i d h
  exact ⟨v,e',r.tw t⟩
 ·obtain ⟨p,e',g,z,ow⟩:=E.ow i d h
  have hp:p≠a:=fun z=>by subst z; rw [e] at g; cases g
  exact ⟨p,e',by rw [zr hp]; exact g,Ye.mpr z,ow.tw t (zr hp)⟩
theorem zP.backD (x0:zP G0 H0 G H) (e:G a=some (.dK kvs)) (x:zP (zV G a (.frz o (.dK kvs))) (qb a (.frz o (.dK kvs)) H0) G' H'):G' a=some (.frz o (.dK kvs))/\H' a=some (.frz o (.dK kvs))/\zP G0 H0 (zV G' a (.dK kvs)) (zV H' a (.dK kvs)):=by
 have g':G' a=some (.frz o (.dK kvs)):=x.g _ _ yT
 refine ⟨g',x.gh _ _ g',x0.rebase ⟨fun b u h=>?_,fun b u h=>?_,YO x.gh,fun p h=>?_⟩⟩
 ·by_cases hb:b=a
  ·subst hb
   rw [e] at h
   cases h
   exact yT
  ·rw [zr hb]
   exact x.g _ _ (by rw [zr hb]; exact h)
 ·by_cases hb:b=a
  ·subst hb
   have:=x0.h _ _ h
   rw [x0.gh _ _ e] at this
   cases this
   exact yT
  ·rw [zr hb]
   exact x.h _ _ (by rw [OE hb]; exact h)
 ·by_cases hb:p=a
  ·subst hb
   exact .inl (by rw [e]; exact fun z=>nomatch z)
  ·rw [zr hb] at h
   rcases x.new p h with z | z
   ·rw [zr hb] at z
    exact .inl z
   ·exact .inr (Ye.mp z)
theorem zo.backD {n:Nat} {τ τ':yD} {σ σ':St} (E:zo K n G0 H0 G H τ σ) (e:G a=some (.dK kvs)) (E':zo K n (zV G a (.frz o (.dK kvs))) (qb a (.frz o (.dK kvs)) H0) G' H' τ' σ'):H' a=some (.frz o (.dK kvs))/\zo K n G0 H0 (zV G' a (.dK kvs)) (zV H' a (.dK kvs)) τ' σ':=by
 obtain ⟨g',h',x⟩:=E.ext.backD e E'.ext
 have t:=Yd g'
 refine ⟨h',x,E'.l1,E'.l2,fun i d h=>?_,fun i d h=>?_,E'.ap⟩
 ·obtain ⟨v,e',r⟩:=E'.fr i d h
  exact ⟨v,e',r.tw t⟩
 ·obtain ⟨p,e',g,z,ow⟩:=E'.ow i d h
  have hp:p≠a:=fun z=>by subst z; rw [g'] at g; cases g
  exact ⟨p,e',by rw [zr hp]; exact g,Ye.mp z,ow.tw t (zr hp)⟩
end
noncomputable def Kn (K:PySem.W.Frag) (i:Nat) (τ:yD) (σ:St) (G:Hp):Prop:=∃ a o ks ds vs,τ[i]?=some (some (false,.dic ks ds))/\σ[i]?=some (some (.ref a))/\G a=some (.frz o (.dK (ks.zip vs)))/\ks.length=vs.length/\Reps K G ds vs/\ds.length<=sizeLine
structure T6 (X:Cx) (i:Nat) (st:Stmt) (f:FS):Prop where
 h:∃ t,PS X st t/\∀ {G0 H0 G H:Hp} {τ:yD} {σ:St} {fl:Fl} {E:v4},zo X.K X.N.length G0 H0 G H τ σ->Kn X.K i τ σ G->f τ=some fl->wH X.K X.N.length G0 H0 E fl->t E σ H
structure T5 (X:Cx) (i:Nat) (e:Expr) (f:FE):Prop where
 h:∃ t,PE X e t/\∀ {G0 H0 G H:Hp} {τ:yD} {σ:St} {d:D} {Q:VK},zo X.K X.N.length G0 H0 G H τ σ->Kn X.K i τ σ G->f τ=some d->(∀ p G' H',zP G H G' H'->H p=none->G' p=none->wJ X.K G' H' d p->Q (.ref p) H')->t σ H Q
structure Z4 (X:Cx) (i:Nat) (tg iter:Expr) (f:FA):Prop where
 h:∃ wi,PI X tg iter wi/\∀ {G0 H0 G H:Hp} {τ:yD} {σ:St} {ds:List D} {R:It->Hp->Prop},zo X.K X.N.length G0 H0 G H τ σ->Kn X.K i τ σ G->f τ=some ds->(∀ J G' H',zP G H G' H'->ds.length<=sizeLine->vp X.K J G' ds->R J H')->wi σ H R
noncomputable def tf {α:Type} (i:Nat) (f:yD->Option α):Prop:=∀ τ x,f τ=some x->∃ ks ds,τ[i]?=some (some (false,.dic ks ds))
theorem GU {X:Cx} {i:Nat} {st:Stmt} {f:FS} (h:T6 X i st f) (hk:tf i f):SS X st f:=by
 obtain ⟨t,pt,k⟩:=h.h
 refine ⟨⟨_,CU (i:=i) pt,fun {G0 H0 G H τ σ fl E} K hf q=>?_⟩⟩
 obtain ⟨ks,ds,ht⟩:=hk _ _ hf
 obtain ⟨v,hv,a,vs,rfl,rd,hl,rs,ll⟩:=K.fr i _ ht
 refine ⟨a,hv,?_⟩
 rcases rd with e | ⟨o,e⟩
 ·refine .inr ⟨_,K.ext.gh _ _ e,fun o=>?_⟩
  have K1:=K.up (o:=o) e
  refine k K1 ⟨a,o,ks,ds,vs,ht,hv,yT,hl,rs.tw (Us e),ll⟩ hf ?_
  cases fl with
  | nx τ'=>exact fun σ' G' H' z=>let ⟨h1,h2⟩:=K.backD e z; ⟨h1,q σ' _ _ h2⟩
  | bk τ'=>exact fun σ' G' H' z=>let ⟨h1,h2⟩:=K.backD e z; ⟨h1,q σ' _ _ h2⟩
  | ct τ'=>exact fun σ' G' H' z=>let ⟨h1,h2⟩:=K.backD e z; ⟨h1,q σ' _ _ h2⟩
  | rt ow d=>
   cases ow with
   | false=>
    intro v G' H' x r
    obtain ⟨g',h',x'⟩:=K.ext.backD e x
    exact ⟨h',q v _ _ x' (r.tw (Yd g'))⟩
   | true=>
    intro p G' H' x hp gp ow
    obtain ⟨g',h',x'⟩:=K.ext.backD e x
    have ne:p≠a:=fun z=>by subst z; rw [g'] at gp; cases gp
    exact ⟨h',q p _ _ x' (Ye.mp hp) (by rw [zr ne]; exact gp) (ow.tw (Yd g') (zr ne))⟩
 ·exact .inl ⟨o,_,K.ext.gh _ _ e,k K ⟨a,o,ks,ds,vs,ht,hv,e,hl,rs,ll⟩ hf q⟩
theorem E_ {X:Cx} {i:Nat} {e:Expr} {f:FE} (h:T5 X i e f) (hk:tf i f):SF X e f:=by
 obtain ⟨t,pt,k⟩:=h.h
 refine ⟨⟨_,Fq (i:=i) pt,fun {G0 H0 G H τ σ d Q} K hf q=>?_⟩⟩
 obtain ⟨ks,ds,ht⟩:=hk _ _ hf
 obtain ⟨v,hv,a,vs,rfl,rd,hl,rs,ll⟩:=K.fr i _ ht
 refine ⟨a,hv,?_⟩
 rcases rd with e | ⟨o,e⟩
 ·refine .inr ⟨_,K.ext.gh _ _ e,fun o=>?_⟩
  have K1:=K.up (o:=o) e
  refine k K1 ⟨a,o,ks,ds,vs,ht,hv,yT,hl,rs.tw (Us e),ll⟩ hf fun p G' H' x hp gp ow=>?_
  have hH:H a=some _:=K.ext.gh _ _ e
  have g':G' a=some (.frz o (.dK (ks.zip vs))):=x.g _ _ yT
  have hpH:H p=none:=by
   by_cases z:p=a
   ·subst z; rw [g'] at gp; cases gp
   ·rw [zr z] at hp; exact hp
  have ne:p≠a:=fun z=>by subst z; rw [g'] at gp; cases gp
  refine ⟨x.gh _ _ g',q p (zV G' a (.dK (ks.zip vs))) (zV H' a (.dK (ks.zip vs))) ⟨fun b u hb=>?_,fun b u hb=>?_,YO x.gh,fun b hb=>?_⟩ hpH (by rw [zr ne]; exact gp) (ow.tw (Yd g') (zr ne))⟩
  ·by_cases z:b=a
   ·subst z; rw [e] at hb; cases hb; exact yT
   ·rw [zr z]; exact x.g _ _ (by rw [zr z]; exact hb)
  ·by_cases z:b=a
   ·subst z; rw [hH] at hb; cases hb; exact yT
   ·rw [zr z]; exact x.h _ _ (by rw [zr z]; exact hb)
  ·by_cases z:b=a
   ·subst z; exact .inl (by rw [e]; exact fun z=>nomatch z)
   ·rw [zr z] at hb
    rcases x.new b hb with w | w
    ·rw [zr z] at w; exact .inl w
    ·rw [zr z] at w; exact .inr w
 ·exact .inl ⟨o,_,K.ext.gh _ _ e,k K ⟨a,o,ks,ds,vs,ht,hv,e,hl,rs,ll⟩ hf q⟩
theorem GQ {X:Cx} {i:Nat} {tg iter:Expr} {body:List Stmt} {fs:FA} {g:FS} {pos:Pos} {fg:FG} (hp:PassesOwn (model X.prog X.w) X.A X.env X.xe) (hc:X.calm=true) (hi:Z4 X i tg iter fs) (hg:SG X tg fg) (hb:wj X body g) (hs:∀ x,foldedSetIterable iter X.env x=pure x:=by intro _; rfl):T6 X i (.For tg iter body [] pos) (wc fs fg g):=by
 obtain ⟨ti,pi,ki⟩:=hi.h
 obtain ⟨tg',pg,kg⟩:=hg.h
 obtain ⟨tb,pb,kb⟩:=hb.h
 refine ⟨⟨_,Jb hp hc pi pg pb hs,fun {G0 H0 G H τ σ fl E} K kn hf q=>?_⟩⟩
 obtain ⟨ds,hd,hf⟩:=zM hf
 refine ki K kn hd fun J Ga Ha xa _ wk=>?_
 have Ka:=K.go xa
 have q':=wH.near Ka.ext q
 refine ⟨fun i m σ H=>m=ds.length - i/\i<=ds.length/\∃ τ G,zo X.K X.N.length Ga H0 G H τ σ/\uJ fg g (ds.drop i) τ=some fl,⟨ds.length,rfl,Nat.zero_le _,τ,Ga,Ka.far,hf⟩,?_⟩
 rintro i m σ H ⟨rfl,hle,τ,G,K,hf⟩
 by_cases hlt:i<ds.length
 ·refine .inr ⟨wk.go i G H K.ext.g K.ext.gh hlt,fun σ' H'=>∃ τ G,zo X.K X.N.length Ga H0 G H' τ σ'/\uJ fg g (ds.drop (i+1)) τ=some fl,fun σ' H' z=>⟨ds.length - (i+1),by omega,rfl,hlt,z⟩,fun x H' y=>?_⟩
  obtain ⟨G3,d,x3,ed,rd⟩:=wk.yld i G H x H' K.ext.g K.ext.gh hlt y
  rw [List.drop_eq_getElem_cons hlt] at hf
  rw [List.getElem?_eq_getElem hlt] at ed
  cases ed
  obtain ⟨τ1,h1,hf⟩:=zM (show (fg _ τ).bind _=_ from hf)
  obtain ⟨f1,h2,hf⟩:=zM hf
  refine kg (K.go x3) rd h1 fun σ1 K1=>kb K1 h2 ?_
  cases f1 with
  | nx τ2=>exact fun σ2 G2 H2 K2=>⟨τ2,G2,K2,hf⟩
  | ct τ2=>exact fun σ2 G2 H2 K2=>⟨τ2,G2,K2,hf⟩
  | bk τ2=>cases hf; exact q'
  | rt o d=>cases hf; exact wH.with q' (fun _ z=>nomatch z) (fun _ z=>nomatch z) (fun _ z=>nomatch z) rfl
 ·have e:ds.drop i=[]:=List.drop_eq_nil_of_le (by omega)
  rw [e] at hf
  cases hf
  exact .inl ⟨wk.stop i G H K.ext.g K.ext.gh (by omega),q' _ _ _ K⟩
theorem Lf {i:Nat} {fs:FA} {fg:FG} {g:FS} (h:tf i fs):tf i (wc fs fg g):=fun τ x hf=>by
 obtain ⟨ds,hd,_⟩:=zM hf
 exact h τ ds hd
end L3
namespace L2
open PySem PySem.Spec PyProof PyProof.Rows
noncomputable def Xu (a:Addr) (o:Obj) (kvs:List (zU×V)):It:=⟨fun i H=>H a=some (.frz o (.dK kvs))/\i<kvs.length,fun i H v H'=>H'=H/\∃ k,kvs[i]?=some (k,v),fun i H=>H a=some (.frz o (.dK kvs))/\kvs.length<=i⟩
theorem HM {P:Program} {w:World} {K:PySem.W.Frag} {tg:Expr} {kvs:List (zU×V)} {o:Obj} {es:Array DictEntry} {ep:Nat} (a it:Addr) (d:o.data=.dict es ep) :
  uA P w K tg (Xu a o kvs) [it] it (fun i h=>h.IsValIter it a i kvs.length ep) where
 mem:=by simp
 obj:=fun i h st b hb=>by
  have e:b=it:=by simpa using hb
  subst e
  obtain ⟨o,e,c,d⟩:=st
  exact ⟨o,e,fun v z=>by rw [d] at z; cases z⟩
 keep:=fun i h h' st k=>st.at fun o e=>k it (by simp) o e
 item:=by
  intro X hP hw hK hc i pins s σ H E I hf st hg
  subst hP hw hK
  obtain ⟨_,vs,rel,dd⟩:=jF I.hok hg.1 d
  have ln:vs.length=kvs.length:=uI rel
  have hi:i<vs.length:=by rw [ln]; exact hg.2
  have hx:vs[i]?=some (vs[i].1,vs[i].2):=List.getElem?_eq_getElem hi
  obtain ⟨u,hk,ru⟩:=V6 rel hx
  obtain ⟨f0,f1,f2,f3,f4,f5⟩:=hf it (by simp)
  rw [<- ln] at st
  refine wpAny_pyNext_values_item st dd hx fun h' st' sb=>?_
  rw [ln] at st'
  have I1:Inv X pins σ H { s with heap:=h' }:=I.turned (t':=s.toks) (fun b o hb e=>(sb.2 b hb).trans e) f0 f1 f3 f4 f5
  obtain ⟨o,e,c,d⟩:=id st'
  exact ⟨vs[i].2,rfl,jK (s:={ s with heap:=h' }) e c d (by decide) ⟨u,H,I1,ru,⟨rfl,_,hk⟩,st',fun b hb=>(hf b hb).1⟩⟩
 done:=by
  intro X hP hw hK hc i pins s σ H E I hf st hg
  subst hP hw hK
  obtain ⟨_,vs,rel,dd⟩:=jF I.hok hg.1 d
  have ln:vs.length=kvs.length:=uI rel
  have hx:vs[i]?=none:=List.getElem?_eq_none (by rw [ln]; exact hg.2)
  obtain ⟨f0,f1,f2,f3,f4,f5⟩:=hf it (by simp)
  rw [<- ln] at st
  exact wpAny_pyNext_values_end (I.ok.hd hc) st dd hx fun h' eb=>⟨rfl,I.turned (t':=s.toks) (fun b o hb e=>eb b o hb e) f0 f1 f3 f4 f5⟩
 self:=fun _ _ _ _ _ st h=>wpAny_pyIter_valiter st h
noncomputable def Mf (i:Nat):TI:=fun σ H R=>∃ a o kvs,σ[i]?=some (some (.ref a))/\H a=some (.frz o (.dK kvs))/\R (Xu a o kvs) H
theorem C1 {X:Cx} {tg:Expr} {x:Str} {p apos cpos:Pos} {i:Nat} (hN:X.N[i]?=some x) (hv:uB X.env.scope x) (hd:(x == ("__debug__" : Str))=false:=by decide) (hcd:(x == ("__classdict__" : Str))=false:=by decide)
  (hbase:attributeBase (.Name x p) "values" X.env (eval (.Name x p) X.env)=eval (.Name x p) X.env:=by rfl) (hline:(apos.endLine == cpos.line)=true:=by rfl) :
  PI X tg (.Call (.Attribute (.Name x p) "values" apos) [] [] cpos) (Mf i):=by
 intro pins s σ H R I hR
 obtain ⟨a,o,kvs,ha,e,hR⟩:=hR
 refine wpAny_Call_method0_late hbase hline (zg (ja (pos:=p) hN hv hd hcd pins s σ H (fun v H1=>v=.ref a/\H1=H) I ⟨_,ha,rfl,rfl⟩) fun v s1 ⟨y,H1,I1,r1,e1,e2⟩=>?_)
 subst e1 e2
 cases (show v=Value.ref a from r1)
 obtain ⟨g,_,_,_,_,o',es,ep,g',_,hdat,_⟩:=(show yc X.prog X.w H1 s1.heap a (.frz o (.dK kvs)) from I1.hok a _ e)
 rw [g] at g'
 cases g'
 obtain ⟨lo,vs,rel,dd⟩:=jF I1.hok e hdat
 have ln:vs.length=kvs.length:=uI rel
 have dO:s1.heap.DictOf (xG X.prog X.w) a vs:=dd.dictOf
 have t2:∀ b,Value.ref a=.ref b->∃ ob,s1.heap.get? b=some ob/\ob.dict=none:=fun b q=>by
  cases q
  obtain ⟨ob,_,_,h1,h2,_⟩:=dO
  exact ⟨ob,h1,h2.2.1⟩
 refine ⟨"dict",_,PySem.F.plainAttrs_dict,PySem.F.slot_dict_values,PySem.F.type_dict_values,dO.typeIs,t2,Calls.callWith_builtin rfl (PySem.evalArgs_none ?_)⟩
 refine call_meetsIn PySem.F.slot_dict_values dO.typeIs PySem.F.entry_dict_values (PySem.F.args_dict_values_1 _) (meets_dict_values (xG X.prog X.w) a lo) ⟨⟨vs,dO⟩,?_⟩
 have I2:Inv X pins σ H1 { s1 with heap:=s1.heap.push { cls:=.type "dict_values",data:=.fields #[.ref a] } }:=I1.kept (t':=s1.toks) fun b o e=>Heap.get?_push_of_some _ e
 refine wpAny_pyIter_values (knd:=xG X.prog X.w) (s:={ s1 with heap:=s1.heap.push { cls:=.type "dict_values",data:=.fields #[.ref a] } }) ⟨_,Heap.get?_push_size _ rfl,rfl,rfl⟩ (dd.push _) ?_
 rw [ln]
 refine ⟨_,[_],_,_,H1,rfl,I2.kept (t':=s1.toks) fun b o e=>Heap.get?_push_of_some _ e,HM a _ hdat,⟨_,Heap.get?_push_size _ rfl,rfl,rfl⟩,fun b hb=>?_,hR⟩
 have e:=List.mem_singleton.mp hb
 subst e
 exact I2.fpOk (Nat.le_refl _) (I2.hok.fresh (Nat.le_refl _))
end L2
namespace L3
open PySem PySem.Spec PyProof PyProof.Rows L2
noncomputable def jN (i:Nat):FA:=fun τ=>match τ[i]? with
 | some (some (false,.dic _ ds))=>some ds
 | _=>none
theorem Li (i:Nat):tf i (jN i):=fun τ x hf=>by
 unfold jN at hf
 split at hf
 ·rename_i ks ds e
  exact ⟨ks,ds,e⟩
 ·cases hf
theorem OU {ks:List zU} {vs:List V} {i:Nat} {k:zU} {v:V} (h:(ks.zip vs)[i]?=some (k,v)):ks[i]?=some k/\vs[i]?=some v:=by
 rw [List.getElem?_zip_eq_some] at h
 exact h
theorem Lq {K:PySem.W.Frag} {G:Hp} {a:Addr} {o:Obj} {ks:List zU} {ds:List D} {vs:List V} (hl:ks.length=vs.length) (e:G a=some (.frz o (.dK (ks.zip vs)))) (rs:Reps K G ds vs):vp K (Xu a o (ks.zip vs)) G ds where
 go:=fun i G2 H g1 g2 hi=>⟨g2 _ _ (g1 _ _ e),by rw [List.length_zip,hl,Nat.min_self,rs.length]; exact hi⟩
 yld:=fun i G2 H x H' g1 g2 hi y=>by
  obtain ⟨rfl,k,hk⟩:=y
  obtain ⟨d,ed,rd⟩:=rs.at (OU hk).2
  exact ⟨G2,d,zP.refl g2,ed,rd.mono g1⟩
 stop:=fun i G2 H g1 g2 hi=>⟨g2 _ _ (g1 _ _ e),by rw [List.length_zip,hl,Nat.min_self,rs.length]; exact hi⟩
theorem GA {X:Cx} {tg:Expr} {x:Str} {p apos cpos:Pos} {i:Nat} (hN:X.N[i]?=some x) (hv:uB X.env.scope x) (hd:(x == ("__debug__" : Str))=false:=by decide) (hcd:(x == ("__classdict__" : Str))=false:=by decide)
  (hbase:attributeBase (.Name x p) "values" X.env (eval (.Name x p) X.env)=eval (.Name x p) X.env:=by rfl) (hline:(apos.endLine == cpos.line)=true:=by rfl):Z4 X i tg (.Call (.Attribute (.Name x p) "values" apos) [] [] cpos) (jN i):=by
 refine ⟨⟨_,C1 hN hv hd hcd hbase hline,fun {G0 H0 G H τ σ ds R} K kn hf q=>?_⟩⟩
 obtain ⟨a,o,ks,ds',vs,ht,hs,e,hl,rs,ll⟩:=kn
 unfold jN at hf
 rw [ht] at hf
 cases hf
 exact ⟨a,o,_,hs,K.ext.gh _ _ e,q _ _ _ (zP.refl K.ext.gh) ll (Lq hl e rs)⟩
theorem Lh {i n:Nat} {fs:FA} {fg:FG} {ft:FT} {f:FE} (h:tf i fs):tf i (w8 n fs fg ft f):=fun τ x hf=>by
 obtain ⟨ds,hd,_⟩:=zM hf
 exact h τ ds hd
section
variable {X:Cx} {i:Nat} {tg iter elt:Expr} {ifs:List Expr} {scope:Scope} {cl:List (Str×Addr)} {own:List Str} {pos:Pos} {fs:FA} {fg:FG} {ft:FT} {f:FE} {g:TG}
theorem Ey (hcalm:X.calm=true) (B:tY X scope cl own) (hi:Z4 X i tg iter fs) (hg:BG X scope cl own tg g fg) (hc:∀ C s H fp pn,qj (xF X scope cl own C s H fp pn) ifs ft)
  (he:∀ C s H fp pn,SE (xF X scope cl own C s H fp pn) elt f) (hs:∀ x,foldedSetIterable iter X.env x=pure x:=by intro _; rfl) :
  T5 X i (.ListComp elt [⟨tg,iter,ifs,0⟩] scope pos) (w8 own.length fs fg ft f):=by
 obtain ⟨ti,pi,ki⟩:=hi.h
 refine ⟨⟨_,JQ hcalm B pi (fun C s H fp pn=>(hg.q C s H fp pn).h) (fun C s H fp pn=>ZL (hc C s H fp pn)) (fun C s H fp pn=>ZK (he C s H fp pn)) hs,fun {G0 H0 G H τ σ d Q} K kn hf q=>?_⟩⟩
 obtain ⟨ds,hd,hf⟩:=zM hf
 obtain ⟨out,ho,hf⟩:=zM hf
 cases hf
 refine ki K kn hd fun J Ga Ha xa l wk=>Y5 wk l (K.go xa) ho (hg.k K.l2 K.l1) fun ys G1 H1 x1 r1 l1 p hp=>?_
 exact q p _ _ (xa.trans (x1.trans (zP.layO x1.gh hp))) (xa.h.free (x1.h.free hp)) (x1.gh.free hp) ⟨ys,yT,r1,l1⟩
end
end L3
namespace L2
open PySem PySem.Spec PyProof PyProof.Rows
noncomputable def Xr (a:Addr) (o:Obj) (kvs:List (zU×V)):It:=⟨fun i H=>H a=some (.frz o (.dK kvs))/\i<kvs.length,fun i H v H'=>∃ p k u,H p=none/\v=.ref p/\kvs[i]?=some (k,u)/\H'=zV H p (.tup [kV k,u]),fun i H=>H a=some (.frz o (.dK kvs))/\kvs.length<=i⟩
theorem HL {P:Program} {w:World} {K:PySem.W.Frag} {elts:List Expr} {kk:Nat} {pos:Pos} {kvs:List (zU×V)} {o:Obj} {es:Array DictEntry} {ep:Nat} (a it:Addr) (d:o.data=.dict es ep) :
  uA P w K (.Tuple elts kk pos) (Xr a o kvs) [it] it (fun i h=>∃ ok ov,IsItemIter h it a i kvs.length ep ok ov) where
 mem:=by simp
 obj:=fun i h st b hb=>by
  have e:b=it:=by simpa using hb
  subst e
  obtain ⟨ok,ov,s1⟩:=st
  exact ⟨_,s1,fun v q=>nomatch q⟩
 keep:=fun i h h' st k=>by
  obtain ⟨ok,ov,s1⟩:=st
  exact ⟨ok,ov,k it (by simp) _ s1⟩
 item:=by
  intro X hP hw hK hc i pins s σ H E I hf st hg
  subst hP hw hK
  obtain ⟨ok,ov,s1⟩:=st
  obtain ⟨_,vs,rel,dd⟩:=jF I.hok hg.1 d
  have ln:vs.length=kvs.length:=uI rel
  have hi:i<vs.length:=by rw [ln]; exact hg.2
  have hx:vs[i]?=some (vs[i].1,vs[i].2):=List.getElem?_eq_getElem hi
  obtain ⟨u,hk,ru⟩:=V6 rel hx
  have lt1:it<s.heap.objs.size:=Heap.lt_size s1
  rw [<- ln] at s1
  refine wpAny_pyNext_items_item s1 dd hx fun key h1 hkey ho ht hz hk1=>?_
  refine ⟨_,rfl,wpAny_letOwnedTupleGo_items (s:={ s with heap:=h1 }) ho fun h2 he2 hs2=>?_⟩
  replace hs2:Heap.SameBut it h1 h2:=hs2
  have hTs:s.heap.get? s.heap.objs.size=none:=by
   cases q:s.heap.get? s.heap.objs.size with
   | none=>rfl
   | some o=>exact absurd (Heap.lt_size q) (Nat.lt_irrefl _)
  have hTf:H s.heap.objs.size=none:=I.hok.fresh (Nat.le_refl _)
  have tup:h2.get? s.heap.objs.size=some { cls:=.type "tuple",data:=.seq #[key,vs[i].2] }:=hs2.extBut _ _ (Nat.ne_of_gt lt1) ht
  have kk:∀ c o,c ∉ [it]->s.heap.get? c=some o->h2.get? c=some o:=fun c o hc z=>by
   have hc':c≠it:=fun q=>hc (by rw [q]; exact List.mem_singleton.mpr rfl)
   exact hs2.extBut _ _ hc' (hk1 c o hc' z)
  have new:yc X.prog X.w (zV H s.heap.objs.size (.tup [kV vs[i].1,u])) h2 s.heap.objs.size (.tup [kV vs[i].1,u]):=⟨(by show 2<=sizeLine; decide),[key,vs[i].2],.cons (Qj hkey) (.cons ru .nil),⟨_,tup,rfl,_,rfl⟩⟩
  rw [ln] at he2
  refine ⟨.ref s.heap.objs.size,zV H s.heap.objs.size (.tup [kV vs[i].1,u]),I.butNew (tk:=s.toks) hf kk hTs hTf new,rfl,⟨s.heap.objs.size,_,u,hTf,rfl,hk,rfl⟩,⟨key,_,he2⟩,fun c hc=>?_⟩
  rw [zr]
  ·exact (hf c hc).1
  ·intro q
   have e:c=it:=by simpa using hc
   rw [e] at q
   rw [q] at lt1
   exact absurd lt1 (Nat.lt_irrefl _)
 done:=by
  intro X hP hw hK hc i pins s σ H E I hf st hg
  subst hP hw hK
  obtain ⟨ok,ov,s1⟩:=st
  obtain ⟨_,vs,rel,dd⟩:=jF I.hok hg.1 d
  have ln:vs.length=kvs.length:=uI rel
  have hx:vs[i]?=none:=List.getElem?_eq_none (by rw [ln]; exact hg.2)
  rw [<- ln] at s1
  exact wpAny_pyNext_items_end (I.ok.hd hc) s1 dd hx fun h1 he1=>⟨rfl,I.but (tk:=s.toks) hf fun c ob hcc eb=>he1 c ob (fun q=>hcc (by rw [q]; exact List.mem_singleton.mpr rfl)) eb⟩
 self:=fun _ _ _ _ _ st h=>by
  obtain ⟨ok,ov,s1⟩:=st
  exact PySem.W.kcp_self s1 h
noncomputable def Me (i:Nat):TI:=fun σ H R=>∃ a o kvs,σ[i]?=some (some (.ref a))/\H a=some (.frz o (.dK kvs))/\R (Xr a o kvs) H
theorem C0 {X:Cx} {elts:List Expr} {kk:Nat} {tpos:Pos} {x:Str} {p apos cpos:Pos} {i:Nat} (hN:X.N[i]?=some x) (hv:uB X.env.scope x) (hd:(x == ("__debug__" : Str))=false:=by decide) (hcd:(x == ("__classdict__" : Str))=false:=by decide)
  (hbase:attributeBase (.Name x p) "items" X.env (eval (.Name x p) X.env)=eval (.Name x p) X.env:=by rfl) (hline:(apos.endLine == cpos.line)=true:=by rfl) :
  PI X (.Tuple elts kk tpos) (.Call (.Attribute (.Name x p) "items" apos) [] [] cpos) (Me i):=by
 intro pins s σ H R I hR
 obtain ⟨a,o,kvs,ha,e,hR⟩:=hR
 refine wpAny_Call_method0_late hbase hline (zg (ja (pos:=p) hN hv hd hcd pins s σ H (fun v H1=>v=.ref a/\H1=H) I ⟨_,ha,rfl,rfl⟩) fun v s1 ⟨y,H1,I1,r1,e1,e2⟩=>?_)
 subst e1 e2
 cases (show v=Value.ref a from r1)
 obtain ⟨g,_,_,_,_,o',es,ep,g',_,hdat,_⟩:=(show yc X.prog X.w H1 s1.heap a (.frz o (.dK kvs)) from I1.hok a _ e)
 rw [g] at g'
 cases g'
 obtain ⟨lo,vs,rel,dd⟩:=jF I1.hok e hdat
 have ln:vs.length=kvs.length:=uI rel
 have dO:s1.heap.DictOf (xG X.prog X.w) a vs:=dd.dictOf
 have t2:∀ b,Value.ref a=.ref b->∃ ob,s1.heap.get? b=some ob/\ob.dict=none:=fun b q=>by
  cases q
  obtain ⟨ob,_,_,h1,h2,_⟩:=dO
  exact ⟨ob,h1,h2.2.1⟩
 refine ⟨"dict",_,PySem.F.plainAttrs_dict,PySem.F.slot_dict_items,PySem.F.type_dict_items,dO.typeIs,t2,Calls.callWith_builtin rfl (PySem.evalArgs_none ?_)⟩
 refine call_meetsIn PySem.F.slot_dict_items dO.typeIs PySem.F.entry_dict_items (PySem.F.args_dict_items_1 _) (meets_dict_items (xG X.prog X.w) a lo) ⟨⟨vs,dO⟩,?_⟩
 have I2:Inv X pins σ H1 { s1 with heap:=s1.heap.push { cls:=.type "dict_items",data:=.fields #[.ref a] } }:=I1.kept (t':=s1.toks) fun b o e=>Heap.get?_push_of_some _ e
 refine wpAny_pyIter_items (knd:=xG X.prog X.w) (s:={ s1 with heap:=s1.heap.push { cls:=.type "dict_items",data:=.fields #[.ref a] } }) ⟨_,Heap.get?_push_size _ rfl,rfl,rfl⟩ (dd.push _) ?_
 rw [ln]
 refine ⟨_,[_],_,_,H1,rfl,I2.kept (t':=s1.toks) fun b o e=>Heap.get?_push_of_some _ e,HL a _ hdat,⟨_,_,Heap.get?_push_size _ rfl⟩,fun b hb=>?_,hR⟩
 have e:=List.mem_singleton.mp hb
 subst e
 exact I2.fpOk (Nat.le_refl _) (I2.hok.fresh (Nat.le_refl _))
end L2
namespace L3
open PySem PySem.Spec PyProof PyProof.Rows L2
noncomputable def tP (ks:List zU) (ds:List D):List D:=List.zipWith (fun k d=>D.tup [jT k,d]) ks ds
noncomputable def jM (i:Nat):FA:=fun τ=>match τ[i]? with
 | some (some (false,.dic ks ds))=>if ks.all tM=true then some (tP ks ds) else none
 | _=>none
theorem Lg (i:Nat):tf i (jM i):=fun τ x hf=>by
 unfold jM at hf
 split at hf
 ·rename_i ks ds e
  exact ⟨ks,ds,e⟩
 ·cases hf
theorem Le {K:PySem.W.Frag} {G:Hp} {a:Addr} {o:Obj} {ks:List zU} {ds:List D} {vs:List V} (hl:ks.length=vs.length) (e:G a=some (.frz o (.dK (ks.zip vs)))) (rs:Reps K G ds vs) (h:ks.all tM=true):vp K (Xr a o (ks.zip vs)) G (tP ks ds) where
 go:=fun i G2 H g1 g2 hi=>⟨g2 _ _ (g1 _ _ e),by
  unfold tP at hi
  rw [List.length_zipWith,<- rs.length] at hi
  rw [List.length_zip]
  exact hi⟩
 yld:=fun i G2 H x H' g1 g2 hi y=>by
  obtain ⟨p,k,u,hp,rfl,hk,rfl⟩:=y
  obtain ⟨hk1,hu⟩:=OU hk
  obtain ⟨d,ed,rd⟩:=rs.at hu
  refine ⟨zV G2 p (.tup [kV k,u]),.tup [jT k,d],zP.lay g2 hp,?_,?_⟩
  ·unfold tP
   rw [List.getElem?_zipWith,hk1,ed]
  ·have sm:yN G (zV G2 p (.tup [kV k,u])):=g1.trans (xm (g2.free hp) _)
   exact ⟨p,[kV k,u],rfl,yd.of yT,⟨_,_,rfl,Qk (List.all_eq_true.mp h k (List.mem_of_getElem? hk1)),⟨u,_,rfl,rd.mono sm,rfl⟩⟩,L2.small (n:=2) (by decide)⟩
 stop:=fun i G2 H g1 g2 hi=>⟨g2 _ _ (g1 _ _ e),by
  unfold tP at hi
  rw [List.length_zipWith,<- rs.length] at hi
  rw [List.length_zip]
  exact hi⟩
theorem G9 {X:Cx} {elts:List Expr} {kk:Nat} {tpos:Pos} {x:Str} {p apos cpos:Pos} {i:Nat} (hN:X.N[i]?=some x) (hv:uB X.env.scope x) (hd:(x == ("__debug__" : Str))=false:=by decide) (hcd:(x == ("__classdict__" : Str))=false:=by decide)
  (hbase:attributeBase (.Name x p) "items" X.env (eval (.Name x p) X.env)=eval (.Name x p) X.env:=by rfl) (hline:(apos.endLine == cpos.line)=true:=by rfl):Z4 X i (.Tuple elts kk tpos) (.Call (.Attribute (.Name x p) "items" apos) [] [] cpos) (jM i):=by
 refine ⟨⟨_,C0 hN hv hd hcd hbase hline,fun {G0 H0 G H τ σ ds R} K kn hf q=>?_⟩⟩
 obtain ⟨a,o,ks,ds',vs,ht,hs,e,hl,rs,ll⟩:=kn
 unfold jM at hf
 rw [ht] at hf
 change (if ks.all tM=true then some (tP ks ds') else none)=some ds at hf
 by_cases c:ks.all tM=true
 ·rw [if_pos c] at hf
  cases hf
  refine ⟨a,o,_,hs,K.ext.gh _ _ e,q _ _ _ (zP.refl K.ext.gh) ?_ (Le hl e rs c)⟩
  unfold tP
  rw [List.length_zipWith]
  exact Nat.le_trans (Nat.min_le_right _ _) ll
 ·rw [if_neg c] at hf
  cases hf
end L3
namespace L2
open PySem PySem.Spec PyProof PyProof.Rows
end L2
namespace L3
open PySem PySem.Spec PyProof PyProof.Rows L2
end L3
namespace L2
open PySem PySem.Spec PyProof PyProof.Rows
theorem Bz (a d:Value):argsOk "max" ⟨[a],[("default",d)]⟩:=by unfold argsOk; kernel_rfl
section
variable {prog:Program} {w:World} {A:Around} {R:Result->Shared->Prop} {I:Addr} {fp wr:List Addr} {n:Nat} {P:Nat->Value->Prop} {St:Nat->Heap->Prop} {kw:List (Str×Value)}
theorem YA:(toString "max" ++ toString ".loop" : String) = "max.loop" := by decide
theorem VN (W:Walks prog w A.in1 I fp wr n P St) (bt:Nat->Nat->Bool) (hcmp:CmpOf prog w A.in1 .Gt P bt) (S:Addr) (hSf:S ∉ fp):∀ (k j:Nat) (s:Shared) (vb:Value) (c:Nat),n - (j+1)=k->j+1<=n->St (j+1) s.heap->P (argBest bt j) vb->
  s.heap.get? S=some { cls:=.type "list",dict:=none,data:=.seq #[vb,vb] c,slots:=#[] }->(∀ v h' tk,P (argBest bt (n - 1)) v->(∀ b o,b ∉ wr->b≠S->s.heap.get? b=some o->h'.get? b=some o)->R (.ok (.ret v)) { s with heap:=h',toks:=tk })->
  codeAny (model prog w) A (.builtin "max.loop" ⟨[.ref I,.none,.ref S],kw⟩) R s
 | k,j,s,vb,c,hk,hj,hst,hPb,hS,hR=>by
  have hSw:S ∉ wr:=fun h=>hSf (W.sub _ h)
  refine codeAny_builtin PySem.F.entry_max_loop ?_
  rw [Around.under_plainId PySem.F.plain_max_loop _]
  change wpAny _ A.in1 (seqItems? (.ref S) >>= _) _ _ s
  refine wpAny_bind (wpAny_seqItems hS rfl ?_)
  change wpAny _ A.in1 (tryCatch (pyNext (.ref I)) _ >>= _) _ _ s
  match k,hk with
  | 0,hk=>
   have hin:j+1=n:=by omega
   refine wpAny_bind (wpAny_tryCatch (W.done s _ _ (hin ▸ hst) fun h' tk hk'=>?_))
   have hS':=hk' S _ hSw hS
   change wpAny _ A.in1 (updateSeq S (fun _=>#[]) >>= _) _ _ _
   refine wpAny_bind (wpAny_updateSeq hS' rfl (wpAny_bind (wpAny_letGo (wpAny_pure ?_))))
   exact hR vb _ tk (by rw [<- hin]; exact hPb) fun b o hbw hbS e=>(Heap.get?_update_other _ _ (Ne.symm hbS)).trans (hk' b o hbw e)
  | k+1,hk=>
   have hlt:j+1<n:=by omega
   refine wpAny_bind (wpAny_tryCatch (W.item (j+1) s _ _ hlt hst fun v h' tk hP hst' hk'=>?_))
   have hS':=hk' S _ hSw hS
   change wpAny _ A.in1 (tryCatch (holding [v,v] (richCompare .Gt v vb >>= _)) _ >>= _) _ _ _
   refine wpAny_bind (wpAny_tryCatch (wpAny_holding (wpAny_bind (hcmp (j+1) (argBest bt j) v vb _ _ _ hP hPb (wpAny_bind (wpAny_holding (wpAny_truthy_bool (wpAny_bind (wpAny_letGo (wpAny_pure ?_))))))))))
   cases hb:bt (j+1) (argBest bt j) with
   | true=>
    simp only [if_true]
    refine wpAny_bind (wpAny_updateSeq hS' rfl (wpAny_bind (wpAny_letGo ?_)))
    rw [YA]
    refine wpAny_pure ⟨plainId_quiet PySem.F.plain_max_loop _,VN W bt hcmp S hSf k (j+1) _ v _ (by omega) hlt (W.frame _ _ _ hst' fun b hbf o e=>?_) (by simp only [argBest,hb,if_true]; exact hP) (Heap.get?_update_self _ hS' rfl) fun v' h'' tk'' hP' hk''=>?_⟩
    ·exact (Heap.get?_update_other _ _ (fun h:S=b=>hSf (by rw [h]; exact hbf))).trans e
    ·exact hR v' h'' tk'' hP' fun b o hbw hbS e=>hk'' b o hbw hbS ((Heap.get?_update_other _ _ (Ne.symm hbS)).trans (hk' b o hbw e))
   | false=>
    simp only [Bool.false_eq_true,if_false]
    refine wpAny_bind (wpAny_letGo ?_)
    rw [YA]
    refine wpAny_pure ⟨plainId_quiet PySem.F.plain_max_loop _,VN W bt hcmp S hSf k (j+1) _ vb c (by omega) hlt hst' (by simp only [argBest,hb,Bool.false_eq_true,if_false]; exact hPb) hS' fun v' h'' tk'' hP' hk''=>?_⟩
    exact hR v' h'' tk'' hP' fun b o hbw hbS e=>hk'' b o hbw hbS (hk' b o hbw e)
theorem B_ {dv:Value} (W:Walks prog w A.in1 I fp wr n P St) (bt:Nat->Nat->Bool) (hcmp:CmpOf prog w A.in1 .Gt P bt) (S:Addr) (hSf:S ∉ fp) {s:Shared} {c:Nat} (hst:St 0 s.heap)
  (hS:s.heap.get? S=some { cls:=.type "list",dict:=none,data:=.seq #[] c,slots:=#[] })
  (hR:∀ v h' tk,(n=0->v=dv)->(0<n->P (argBest bt (n - 1)) v)->(∀ b o,b ∉ wr->b≠S->s.heap.get? b=some o->h'.get? b=some o)->R (.ok (.ret v)) { s with heap:=h',toks:=tk }) :
  codeAny (model prog w) A (.builtin "max.loop" ⟨[.ref I,.none,.ref S],[("default",dv)]⟩) R s:=by
 have hSw:S ∉ wr:=fun h=>hSf (W.sub _ h)
 refine codeAny_builtin PySem.F.entry_max_loop ?_
 rw [Around.under_plainId PySem.F.plain_max_loop _]
 change wpAny _ A.in1 (seqItems? (.ref S) >>= _) _ _ s
 refine wpAny_bind (wpAny_seqItems hS rfl ?_)
 change wpAny _ A.in1 (tryCatch (pyNext (.ref I)) _ >>= _) _ _ s
 by_cases hn:n=0
 ·subst hn
  refine wpAny_bind (wpAny_tryCatch (W.done s _ _ hst fun h' tk hk'=>?_))
  change wpAny _ A.in1 (rule _ >>= _) _ _ _
  refine wpAny_bind (wpAny_rule (wpAny_pure ?_))
  exact hR dv _ tk (fun _=>rfl) (fun z=>absurd z (Nat.lt_irrefl _)) fun b o hbw hbS e=>hk' b o hbw e
 ·have hn':0<n:=by omega
  refine wpAny_bind (wpAny_tryCatch (W.item 0 s _ _ hn' hst fun v h' tk hP hst' hk'=>?_))
  have hS':=hk' S _ hSw hS
  change wpAny _ A.in1 (updateSeq S (fun _=>#[v,v]) >>= _) _ _ _
  refine wpAny_bind (wpAny_updateSeq hS' rfl ?_)
  rw [YA]
  refine wpAny_pure ⟨plainId_quiet PySem.F.plain_max_loop _,VN W bt hcmp S hSf _ 0 _ v _ rfl hn' (W.frame _ _ _ hst' fun b hbf o e=>?_) hP (Heap.get?_update_self _ hS' rfl) fun v' h'' tk'' hP' hk''=>?_⟩
  ·exact (Heap.get?_update_other _ _ (fun h:S=b=>hSf (by rw [h]; exact hbf))).trans e
  ·exact hR v' h'' tk'' (fun z=>absurd z hn) (fun _=>hP') fun b o hbw hbS e=>hk'' b o hbw hbS ((Heap.get?_update_other _ _ (Ne.symm hbS)).trans (hk' b o hbw e))
end
section
variable {prog:Program} {w:World} {A:Around} {E:Value->Shared->Prop} {s:Shared}
theorem HI {id:String} {b:Builtin} {args:List Value} {kw:List (Str×Value)} {Q:Value->Shared->Prop} (hk:builtinKind id=none) (hp:plainId id=true) (hb:entryFor table id=some b) (ha:argsOk id ⟨args,kw⟩)
  (hc:wpAny (model prog w) A.in1 (b ⟨args,kw⟩) (fun fin s'=>match fin with
   | .done f=>(match (Except.ok f:Result) with | .ok (.ret v)=>Q v s' | .ok _=>False | .error e=>E e s')
   | .again c'=>c'.quiet=true/\codeAny (model prog w) A c' (fun r s'=>match r with | .ok (.ret v)=>Q v s' | .ok _=>False | .error e=>E e s') s') E s):wpAny (model prog w) A (call (.builtin id) args kw) Q E s:=by
 refine wpAny_call (codeAny_call_builtin hp hb ?_)
 simp only [checkBuiltinCall,hk]
 cases hsig:Manifest.signature? id with
 | none=>exact wpAny_pure hc
 | some sig=>
  have ha':Bind.checkArgs id sig ⟨args,kw⟩=pure ():=by simpa only [argsOk,hsig] using ha
  simp only [ha']
  exact wpAny_pure hc
theorem LI {x dv:Value} {Q:Value->Shared->Prop}
  (h:wpAny (model prog w) A.in1 (pyIter x) (fun it s₂=>∃ I fp wr n P St bt,it=.ref I/\Walks prog w A.in1 I fp wr n P St/\St 0 s₂.heap/\(∀ b∈fp,b<s₂.heap.objs.size)/\CmpOf prog w A.in1 .Gt P bt/\
   ∀ v h' tk,(n=0->v=dv)->(0<n->P (argBest bt (n - 1)) v)->(∀ b o,b ∉ wr->s₂.heap.get? b=some o->h'.get? b=some o)->Q v { s₂ with heap:=h',toks:=tk }) E s) :
  wpAny (model prog w) A (call (.builtin "max") [x] [("default",dv)]) Q E s:=by
 refine HI PySem.F.kind_max PySem.F.plain_max PySem.F.entry_max (Bz _ _) ?_
 change wpAny _ A.in1 (Builtin.Builtins.bindParams "max" ["key", "default"] 0 ⟨[],[("default",dv)]⟩ >>= _) _ _ s
 refine wpAny_bind (wpAny_of_eq (show Builtin.Builtins.bindParams "max" ["key", "default"] 0 ⟨[],[("default",dv)]⟩=pure [none,some dv] from rfl) ?_)
 refine wpAny_bind (wpAny_pure (wpAny_bind (wpAny_mono h (fun it s₂ h₂=>?_) fun _ _ e=>e)))
 obtain ⟨I,fp,wr,n,P,St,bt,rfl,W,hst,hfp,hcmp,hQ⟩:=h₂
 refine wpAny_bind (wpAny_newObj_type ?_)
 have hSf:s₂.heap.objs.size ∉ fp:=fun hm=>Nat.lt_irrefl _ (hfp _ hm)
 rw [YA]
 refine wpAny_pure ⟨plainId_quiet PySem.F.plain_max_loop _,B_ W bt hcmp s₂.heap.objs.size hSf (W.frame _ _ _ hst fun b _ o e=>Heap.get?_push_of_some _ e) (Heap.get?_push_size _ rfl) fun v h' tk h0 hP hk=>?_⟩
 exact hQ v h' tk h0 hP fun b o hbw e=>hk b o hbw (Nat.ne_of_lt (Heap.lt_size e)) (Heap.get?_push_of_some _ e)
end
section
variable {X:Cx}
noncomputable def maxI:List Int->Int
 | []=>0
 | x::xs=>xs.foldl (fun a b=>if a<b then b else a) x
theorem J2:∀ (xs:List Int) (x:Int),(xs.foldl (fun a b=>if a<b then b else a) x=x\/xs.foldl (fun a b=>if a<b then b else a) x∈xs)/\x<=xs.foldl (fun a b=>if a<b then b else a) x/\∀ y∈xs,y<=xs.foldl (fun a b=>if a<b then b else a) x
 | [],x=>⟨.inl rfl,Int.le_refl _,fun y h=>absurd h (by simp)⟩
 | z::xs,x=>by
  obtain ⟨a,b,c⟩:=J2 xs (if x<z then z else x)
  have h1:x<=if x<z then z else x:=by split<;>omega
  have h2:z<=if x<z then z else x:=by split<;>omega
  refine ⟨?_,Int.le_trans h1 b,fun y hy=>?_⟩
  ·rcases a with a | a
   ·by_cases q:x<z
    ·rw [if_pos q] at a
     right
     show List.foldl _ (if x<z then z else x) xs∈z::xs
     rw [if_pos q,a]
     exact List.mem_cons_self
    ·left
     rw [if_neg q] at a
     show List.foldl _ (if x<z then z else x) xs=x
     rw [if_neg q,a]
   ·exact .inr (List.mem_cons_of_mem _ a)
  ·rcases List.mem_cons.mp hy with rfl | hy
   ·exact Int.le_trans h2 b
   ·exact c y hy
theorem Bp {xs:List Int} (h:xs≠[]):maxI xs∈xs/\∀ y∈xs,y<=maxI xs:=by
 cases xs with
 | nil=>exact absurd rfl h
 | cons x xs=>
  obtain ⟨a,b,c⟩:=J2 xs x
  refine ⟨?_,fun y hy=>?_⟩
  ·rcases a with a | a
   ·show List.foldl _ x xs∈_
    rw [a]
    exact List.mem_cons_self
   ·exact List.mem_cons_of_mem _ a
  ·rcases List.mem_cons.mp hy with rfl | hy
   ·exact b
   ·exact c y hy
theorem maxI_uniq {xs:List Int} {m:Int} (h:m∈xs) (h2:∀ y∈xs,y<=m):m=maxI xs:=by
 obtain ⟨a,b⟩:=Bp (xs:=xs) (fun z=>by rw [z] at h; exact absurd h (by simp))
 have:=b m h
 have:=h2 _ a
 omega
noncomputable def Gk (K:PySem.W.Frag) (ta td:TE):TE:=fun σ H Q=>ta σ H fun x H1=>td σ H1 fun z H2=>∃ (p:Addr) (ns:List Int),x=.ref p/\yO K H2 p (ns.map V.int)/\Q (if ns=[] then z else .int (maxI ns)) H2
noncomputable def Jf (K:PySem.W.Frag) (x:V) (Q:VK):List V->Hp->Prop:=fun zs H2=>match zs with
 | [z]=>∃ (p:Addr) (ns:List Int),x=.ref p/\yO K H2 p (ns.map V.int)/\Q (if ns=[] then z else .int (maxI ns)) H2
 | _=>False
noncomputable def Cp (K:PySem.W.Frag) (td:TE) (σ:St) (Q:VK):List V->Hp->Prop:=fun vs H1=>match vs with
 | [x]=>td σ H1 fun z H2=>Jf K x Q [z] H2
 | _=>False
theorem Fn {a e:Expr} {ta td:TE} {p kp pos:Pos} (hcalm:X.calm=true) (hg:Gl X "max") (hm:X.mg "max" = none) (ha:PE X a ta) (hd:PE X e td) (hs:starEach [a] X.env=[(false,eval a X.env)]:=by rfl) :
  PE X (.Call (.Name "max" p) [a] [⟨some "default",e,kp⟩] pos) (Gk X.K ta td):=by
 intro pins s σ H Q I h
 have pa:PA X [a] (jv ta jw):=JJ ha jZ hs
 have pk:PK X [⟨some "default",e,kp⟩] (jv td jw):=CD hd CF
 refine wpAny_Call_Name_kw (qN I hg hm Tg ?_)
 refine PyProof.Rows.callWith_kw (zg (pa pos pins s σ H (Cp X.K td σ Q) I h) fun us s1 ⟨vs,H1,I1,r1,q1⟩=>?_) (by rw [hs]; rfl) (by rw [hs]; rfl)
 match vs,r1,q1 with
 | [x],r1,q1=>
  obtain ⟨u,rfl,ru⟩:=wR r1
  refine zg (pk pos pins s1 σ H1 (Jf X.K x Q) I1 q1) fun ws s2 ⟨zs,H2,I2,rz,q2⟩=>?_
  match zs,rz,q2 with
  | [z],rz,q2=>
   obtain ⟨dv,rfl,rd⟩:=wR rz
   obtain ⟨l,ns,rfl,hq,q⟩:=q2
   cases (show u=Value.ref l from ru)
   have hdn:=I2.ok.hd hcalm
   obtain ⟨its,rv,pl,hz⟩:=I2.list hq
   have hl:ns.length=its.toArray.size:=by have:=rv.length; rw [List.length_map] at this; rw [List.size_toArray]; exact this
   have hlt:l<s2.heap.objs.size:=by obtain ⟨o,n,e,_⟩:=pl; exact Heap.lt_size e
   refine LI ?_
   refine wpAny_pyIter_list pl.isList ?_
   refine ⟨_,_,_,_,_,_,_,rfl,Walks.list (by exact hdn) s2.heap.objs.size l (Nat.ne_of_lt hlt) its.toArray,⟨⟨_,Heap.get?_push_size _ rfl,rfl,rfl⟩,pl.isList.push _⟩,?_,CmpOf.ints_gt (fun i=>ns.getD i 0) (fun i v hv=>OM rv hv),?_⟩
   ·intro b hb
    show b<(s2.heap.push _).objs.size
    rw [Heap.size_push]
    simp only [List.mem_cons,List.not_mem_nil,or_false] at hb
    rcases hb with rfl | rfl
    ·exact Nat.lt_succ_self _
    ·exact Nat.lt_succ_of_lt hlt
   ·intro v h' tk h0 hP k
    have kp:∀ b o,s2.heap.get? b=some o->h'.get? b=some o:=fun b o eb=>k b o (fun z=>by
     have:b=s2.heap.objs.size:=by simpa using z
     rw [this] at eb
     exact absurd (Heap.lt_size eb) (Nat.lt_irrefl _)) (Heap.get?_push_of_some _ eb)
    by_cases e0:ns=[]
    ·rw [if_pos e0] at q
     have:v=dv:=h0 (by rw [<- hl,e0]; rfl)
     subst this
     exact ⟨z,H2,I2.kept (t':=tk) kp,rd,q⟩
    ·rw [if_neg e0] at q
     have hpos:0<ns.length:=List.length_pos_iff.mpr e0
     have hP':=hP (by rw [<- hl]; exact hpos)
     obtain ⟨t,rfl⟩:=OM rv hP'
     obtain ⟨b1,b2⟩:=argBest_gt (fun i=>ns.getD i 0) (its.toArray.size - 1)
     generalize argBest (fun i j=>decide (ns.getD i 0 > ns.getD j 0)) (its.toArray.size - 1)=m at *
     have hm':m<ns.length:=by omega
     have em:ns.getD m 0=maxI ns:=by
      refine maxI_uniq ?_ fun y hy=>?_
      ·rw [List.getD_eq_getElem?_getD,List.getElem?_eq_getElem hm']
       exact List.getElem_mem hm'
      ·obtain ⟨j,hj,rfl⟩:=List.mem_iff_getElem.mp hy
       have:=b2 j (by omega)
       rwa [List.getD_eq_getElem?_getD,List.getElem?_eq_getElem hj] at this
     exact ⟨.int (maxI ns),H2,I2.kept (t':=tk) kp,⟨t,by rw [<- em]⟩,q⟩
end
end L2
namespace L3
open PySem PySem.Spec PyProof PyProof.Rows L2
noncomputable def pD:List D->Option (List Int)
 | []=>some []
 | .int i::r=>(pD r).bind fun is=>some (i::is)
 | _::_=>none
theorem QZ {K:PySem.W.Frag} {G:Hp}:∀ {xs:List D} {ns:List Int} {vs:List V},pD xs=some ns->Reps K G xs vs->vs=ns.map V.int
 | [],ns,vs,h,r=>by
  cases h
  exact (show vs=[] from r)
 | .int i::xs,ns,vs,h,r=>by
  obtain ⟨is,h1,h⟩:=zM (show (pD xs).bind _=_ from h)
  cases h
  obtain ⟨v,r',rfl,hv,hr⟩:=r
  cases (show v=.int i from hv)
  rw [QZ h1 hr]
  rfl
 | .non::_,_,_,h,_=>by cases h
 | .bl _::_,_,_,h,_=>by cases h
 | .str _::_,_,_,h,_=>by cases h
 | .tup _::_,_,_,h,_=>by cases h
 | .lst _::_,_,_,h,_=>by cases h
 | .dic _ _::_,_,_,h,_=>by cases h
 | .exc _::_,_,_,h,_=>by cases h
 | .obj _ _ _::_,_,_,h,_=>by cases h
theorem QY:∀ ns:List Int,pD (ns.map D.int)=some ns
 | []=>rfl
 | n::ns=>by
  show (pD (ns.map D.int)).bind _=_
  rw [QY ns]
  rfl
noncomputable def Wj:D->D->Option D
 | .lst xs,z=>(pD xs).bind fun ns=>some (if ns=[] then z else .int (maxI ns))
 | _,_=>none
theorem Es {X:Cx} {a e:Expr} {fa fe:FE} {p kp pos:Pos} (hcalm:X.calm=true) (hg:Gl X "max") (hm:X.mg "max" = none) (ha:SE X a fa) (hd:SE X e fe) (hs:yi a=true:=by rfl):SE X (.Call (.Name "max" p) [a] [⟨some "default",e,kp⟩] pos) (e2 Wj fa fe):=by
 obtain ⟨ta,pa,ka⟩:=ha.h
 obtain ⟨td,pd,kd⟩:=hd.h
 refine ⟨⟨_,Fn hcalm hg hm pa pd (we hs),fun {G0 H0 G H τ σ d Q} E hf q=>?_⟩⟩
 obtain ⟨x,hx,hf⟩:=zM hf
 obtain ⟨z,hz,hf⟩:=zM hf
 refine ka E hx fun v G1 H1 x1 r1=>?_
 refine kd (E.go x1) hz fun u G2 H2 x2 r2=>?_
 cases x with
 | lst xs=>
  obtain ⟨ns,hn,hf⟩:=zM hf
  cases hf
  obtain ⟨l,vs,rfl,sq,rs,_⟩:=r1
  have e:=QZ hn rs
  subst e
  refine ⟨l,ns,rfl,xR (x1.gh.trans x2.h) sq,?_⟩
  by_cases c:ns=[]
  ·rw [if_pos c]
   rw [if_pos c] at q
   exact q u G2 H2 (x1.trans x2) r2
  ·rw [if_neg c]
   rw [if_neg c] at q
   exact q _ G2 H2 (x1.trans x2) rfl
 | _=>cases hf
end L3
namespace L3
open PySem PySem.Spec PyProof PyProof.Rows L2
end L3
namespace L2
open PySem PySem.Spec PyProof PyProof.Rows
end L2
namespace L3
open PySem PySem.Spec PyProof PyProof.Rows L2
end L3
namespace L2
open PySem PySem.Spec PyProof PyProof.Rows
open Builtin Builtin.Str
section
variable {X:Cx}
theorem Bx:qC X "str.rjust" (fun x vs H Q=>∃ (z:Str) (i:Int),x=.str z/\vs=[.int i]/\PadOk i=true/\Q (.str (Txt.rjust z i)) H):=by
 intro pins s σ H x vs v us Q I rx rv h
 obtain ⟨z,i,rfl,rfl,hz,q⟩:=h
 obtain ⟨t,rfl⟩:=(show ∃ t,v=Value.str z t from rx)
 obtain ⟨u,rfl,t',rfl⟩:=wR rv
 exact SC.rjust hz fun t' k=>⟨.str _,H,I.tok _,⟨_,rfl⟩,q⟩
variable {a o:Expr} {ta to:TE} {i:Int} {ck ck1 ck2:Nat} {cp pos apos cpos p1 p2:Pos} {y z:Str}
end
end L2
namespace L3
open PySem PySem.Spec PyProof PyProof.Rows L2
noncomputable def Wl:D->D->Option D
 | .str z,.int i=>if PadOk i=true/\(Txt.rjust z i).length<=16777216 then some (.str (Txt.rjust z i)) else none
 | _,_=>none
section
variable {X:Cx} {o e a:Expr} {fo f fa:FE} {apos cpos p1 p2 cp pos:Pos} {nm:Str} {id:String} {rm:V->List V->Hp->VK->Prop} {F:D->D->Option D} {ck ck1 ck2:Nat} {i:Int} {y z:Str}
theorem Ev (slot:Slot "str" nm id) (hty:typeOf (.builtin id)=pure (.type "method_descriptor")) (hm:qC X id rm)
  (hF:∀ {x y d:D},F x y=some d->∃ w,x=.str w) (hR:∀ {w:Str} {y d:D} {v:V} {G H:Hp} {Q:VK},yN G H->w.length<=sizeLine->F (.str w) y=some d->zZ X.K G y v->(∀ u G' H',zP G H G' H'->zZ X.K G' d u->Q u H')->rm (.str w) [v] H Q)
  (ho:SE X o fo) (he:SE X e f) (hbase:attributeBase o nm X.env (eval o X.env)=eval o X.env:=by rfl) (hline:(apos.endLine == cpos.line)=true:=by rfl) (hs:yi e=true:=by rfl) :
  SE X (.Call (.Attribute o nm apos) [e] [] cpos) (e2 F fo f):=by
 obtain ⟨to,po,ko⟩:=ho.h
 obtain ⟨te,pe,ke⟩:=(zA he zK hs).h
 refine ⟨⟨_,(pN PySem.F.plainAttrs_str slot hty hm ⟨po⟩ ⟨pe⟩ hbase hline (by rw [List.all_cons,hs]; rfl) (by show 1<30; decide)).h,fun {G0 H0 G H τ σ d Q} E hf q=>?_⟩⟩
 obtain ⟨x,hx,hf⟩:=zM hf
 obtain ⟨y,hy,hf⟩:=zM hf
 obtain ⟨w,rfl⟩:=hF hf
 refine ko E hx fun v G1 H1 x1 r1=>?_
 obtain ⟨rfl,l1⟩:=r1
 refine ⟨rfl,ke (E.go x1) (ds:=[y]) (by unfold z8; rw [hy]; rfl) fun ws G2 H2 x2 r2=>?_⟩
 obtain ⟨u,rfl,ru⟩:=u0 r2
 exact hR x2.gh l1 hf ru fun u G' H' x3 r3=>q u G' H' ((x1.trans x2).trans x3) r3
theorem Eu (ho:SE X o fo) (he:SE X e f) (hbase:attributeBase o "rjust" X.env (eval o X.env)=eval o X.env:=by rfl) (hline:(apos.endLine == cpos.line)=true:=by rfl) (hs:yi e=true:=by rfl) :
  SE X (.Call (.Attribute o "rjust" apos) [e] [] cpos) (e2 Wl fo f):=
 Ev PySem.F.slot_str_rjust PySem.F.type_str_rjust Bx (fun {x y d} h=>by
  cases x with
  | str w=>exact ⟨w,rfl⟩
  | _=>cases h) (fun {w y d v G H Q} g l h r q=>by
  cases y with
  | int i=>
   change (if PadOk i=true/\(Txt.rjust w i).length<=16777216 then some (D.str (Txt.rjust w i)) else none)=some d at h
   by_cases c:PadOk i=true/\(Txt.rjust w i).length<=16777216
   ·rw [if_pos c] at h
    cases h
    cases (show v=V.int i from r)
    exact ⟨w,i,rfl,rfl,c.1,q _ G H (zP.refl g) ⟨rfl,by rw [sizeLine_eq]; exact c.2⟩⟩
   ·rw [if_neg c] at h
    cases h
  | _=>cases h) ho he hbase hline hs
end
end L3
namespace L2
open PySem PySem.Spec PyProof PyProof.Rows
end L2
namespace L3
open PySem PySem.Spec PyProof PyProof.Rows L2
end L3
namespace L2
open PySem PySem.Spec PyProof PyProof.Rows
end L2
namespace L3
open PySem PySem.Spec PyProof PyProof.Rows L2
end L3
namespace L3
open PySem PySem.Spec PyProof.Rows L2
inductive M where
 | fz (d:D) | own (d:D) | obj (x:Str) (fs:List Str) (ms:List M) | tab (ks:List (Sum Int Str)) (ms:List M)
end L3
namespace L3
open PySem PySem.Spec PyProof.Rows L2
end L3
namespace L3
open PySem PySem.Spec PyProof.Rows L2
end L3
namespace L3
open PySem PySem.Spec PyProof.Rows L2
end L3
namespace L3
open PySem PySem.Spec PyProof.Rows L2
end L3
namespace L3
open PySem PySem.Spec PyProof.Rows L2
end L3
namespace L3
open PySem PySem.Spec PyProof.Rows L2
end L3
namespace L2
open PySem PySem.Spec PyProof PyProof.Rows
end L2
namespace L3
open PySem PySem.Spec PyProof.Rows L2
end L3
namespace L3
open PySem PySem.Spec PyProof PyProof.Rows L2
end L3
namespace L3
open PySem PySem.Spec PyProof PyProof.Rows L2
end L3
namespace L3
end L3
namespace L3
open PySem PySem.Spec PyProof.Rows L2
end L3
namespace L3
open PySem PySem.Spec PyProof.Rows L2
end L3
namespace L3
open PySem PySem.Spec PyProof.Rows L2
end L3
namespace L3
open PySem PySem.Spec PyProof.Rows L2
end L3
namespace L3
open PySem PySem.Spec PyProof PyProof.Rows L2
end L3
namespace L3
open PySem PySem.Spec PyProof PyProof.Rows L2
noncomputable def Wk:D->D->Option D
 | .str x,.int j=>match decide (x.length<=16)&&(decide (0<=j)&&decide (j<=1000)) with
  | true=>some (.str (Txt.mul x j))
  | false=>none
 | _,_=>none
noncomputable def Jt:V->V->Hp->VK->Prop:=fun x y H Q=>∃ i j,x=.str i/\y=.int j/\i.length<=16/\0<=j/\j<=1000/\Q (.str (Txt.mul i j)) H
theorem FI {X:Cx}:yP X (binaryOp .Mult) Jt:=by
 intro pins s σ H x y v u Q I rx ry h
 obtain ⟨i,j,rfl,rfl,h1,h2,h3,q⟩:=h
 obtain ⟨t,rfl⟩:=rx
 obtain ⟨t',rfl⟩:=ry
 exact SB.mul (mulOk_of 16 1000 h1 (by omega) (by omega) (by decide) (by decide)) fun t' k=>⟨.str (Txt.mul i j),H,I.tok _,⟨_,rfl⟩,q⟩
theorem Dr {K:PySem.W.Frag}:wI K Jt Wk:=fun G H x y u v d Q s rx ry hf q=>by
 cases x<;>first | (cases hf; done) | skip
 cases y<;>first | (cases hf; done) | skip
 rename_i i j
 change (match decide (i.length<=16)&&(decide (0<=j)&&decide (j<=1000)) with | true=>some (D.str (Txt.mul i j)) | false=>none)=some d at hf
 cases c:(decide (i.length<=16)&&(decide (0<=j)&&decide (j<=1000))) with
 | false=>rw [c] at hf; cases hf
 | true=>
  rw [c] at hf
  cases hf
  rw [Bool.and_eq_true,Bool.and_eq_true] at c
  have h1:=of_decide_eq_true c.1
  have h2:=of_decide_eq_true c.2.1
  have h3:=of_decide_eq_true c.2.2
  have l:(Txt.mul i j).length<=16*1000:=len_mul_leN h1 (by omega)
  exact ⟨i,j,rx.1,ry,h1,h2,h3,q _ _ _ (zP.refl s) ⟨rfl,by rw [sizeLine_eq]; omega⟩⟩
end L3
namespace L3
open PySem PySem.Spec PyProof PyProof.Rows L2
end L3
namespace L2
open PySem PySem.Spec PyProof PyProof.Rows
end L2
namespace L3
open PySem PySem.Spec PyProof PyProof.Rows L2
end L3
namespace L3
open PySem PySem.Spec PyProof PyProof.Rows L2
end L3
namespace L3
open PySem PySem.Spec PyProof.Rows L2
noncomputable def zR (K:PySem.W.Frag) (x:Str) (st:Stmt):Prop:=
 ∃ (f:Addr) (od an:Option Addr) (sl:Array (Option Value)) (oc kV dc pm cd ct:Value),PySem.W.nsIn K mainGlobals x=some (some (.ref f))/\K.lookup f=Q3 x st oc od sl kV dc pm an cd ct/\PySem.W.codeIn K cd x=true/\PySem.W.keepIn K (.ref f)=true
section
variable {K:PySem.W.Frag} {mg:Str->Option Value} {h:Heap} {x p0 p1 p2 p3 p4 p5:Str} {st:Stmt} {ps:List Str}
theorem zR.d (a:zR K x st) (X:K.In h) (G:h.Ns mainGlobals mg) (b:∀ (kV doc pm:Value) (an:Option Addr) (cdv ct:Value) (us:List Value),us.length=ps.length->bindArgs (PySem.W.fnOf x x (qI st) (va st) (zm st) .none kV doc pm an cdv ct) ⟨us,[]⟩=pure (ps.zip us)):Def K mg x st ps:=by
 obtain ⟨f,od,an,sl,oc,kV,dc,pm,cd,ct,a,l,c,k⟩:=a
 have F:=Q6 (st:=st) l c k
 exact ⟨_,_,F,PySem.W.mg_of X G a,F.binds b⟩
noncomputable abbrev BA (x:Str) (st:Stmt) (us:List Value) (ps:List Str):Prop:=∀ (kV doc pm:Value) (an:Option Addr) (cdv ct:Value),bindArgs (PySem.W.fnOf x x (qI st) (va st) (zm st) .none kV doc pm an cdv ct) ⟨us,[]⟩=pure (ps.zip us)
theorem zR.d0 (a:zR K x st) (X:K.In h) (G:h.Ns mainGlobals mg) (b:BA x st [] []:=by intros; exact fun _ _ _ _ _ _=>rfl):Def K mg x st []:=a.d X G fun _ _ _ _ _ _=>OH (b _ _ _ _ _ _)
theorem zR.d1 (a:zR K x st) (X:K.In h) (G:h.Ns mainGlobals mg) (b:∀ u,BA x st [u] [p0]:=by intros; exact fun _ _ _ _ _ _=>rfl):Def K mg x st [p0]:=a.d X G fun _ _ _ _ _ _=>OI fun u=>b u _ _ _ _ _ _
theorem zR.d2 (a:zR K x st) (X:K.In h) (G:h.Ns mainGlobals mg) (b:∀ u v,BA x st [u,v] [p0,p1]:=by intros; exact fun _ _ _ _ _ _=>rfl):Def K mg x st [p0,p1]:=a.d X G fun _ _ _ _ _ _=>OJ fun u v=>b u v _ _ _ _ _ _
theorem zR.d3 (a:zR K x st) (X:K.In h) (G:h.Ns mainGlobals mg) (b:∀ u v y,BA x st [u,v,y] [p0,p1,p2]:=by intros; exact fun _ _ _ _ _ _=>rfl):Def K mg x st [p0,p1,p2]:=a.d X G fun _ _ _ _ _ _=>OK fun u v y=>b u v y _ _ _ _ _ _
theorem zR.d4 (a:zR K x st) (X:K.In h) (G:h.Ns mainGlobals mg) (b:∀ u v y z,BA x st [u,v,y,z] [p0,p1,p2,p3]:=by intros; exact fun _ _ _ _ _ _=>rfl):Def K mg x st [p0,p1,p2,p3]:=a.d X G fun _ _ _ _ _ _=>Hi fun u v y z=>b u v y z _ _ _ _ _ _
theorem _root_.L2.Def.oS (d:Def K mg x st ps) (P:Program) (w:World) (base:Heap) (k:Nat) (F:List D->Option (Bool×D)) {N:List Str} {b:FS} (S:yF N ps (zm st)) (hF:∀ ds r,F ds=some r->ds.length=ps.length/\yQ N.length b ds=some r)
  (hb:∀ {f:Addr} {cdv:Value} {A:Around} {outer:List Env} {s:Shared} {H:Hp} {E:XK},xH k (A.deeper (envOfC x (zm st) s.heap.objs.size f cdv))->wj (ug vP P w K mg base N x (zm st) f cdv A outer s H E).nox (va st) b)
  (hN:ps.length<=N.length:=by decide):yG P w K mg base x ps (k+1) (yJ K F):=Def.okS d S hN hF fun _ _ _ _ _ _ _ hr=>hb hr
end
end L3
namespace L2
open PySem PySem.Spec PyProof PyProof.Rows
open Builtin Builtin.Str
end L2
namespace L3
open PySem PySem.Spec PyProof PyProof.Rows L2
end L3
namespace L3
open PySem PySem.Spec PyProof PyProof.Rows L2
noncomputable def jG (i j k:Nat):FG:=fun d σ=>match d with
 | .tup [x,y,z]=>some (((σ.set i (some (false,x))).set j (some (false,y))).set k (some (false,z)))
 | _=>none
section
variable {X:Cx} {E:XK} {i j k:Nat} {y f:Str} {ps:List Str} {F:FX} {fa:FA} {g:FSX} {e:Expr} {es:List Expr} {rest:List Stmt} {yp fp cp pos:Pos}
theorem G7 {l:Nat} {x z:Str} {p1 p2 p3:Pos} {kk:Nat} (h:QG X (.Tuple [.Name x p1,.Name y p2,.Name z p3] kk pos) (jH X.K 3 (vC (wD i) (vC (wD j) (vC (wD l) qy))))) (hi:X.N[i]?=some x) (hj:X.N[j]?=some y) (hl:X.N[l]?=some z):SG X (.Tuple [.Name x p1,.Name y p2,.Name z p3] kk pos) (jG i j l):=⟨⟨_,h.h,fun {G0 H0 G H τ τ' σ d v Q} K r hf q=>by
 unfold jG at hf
 split at hf
 ·rename_i d1 d2 d3
  cases hf
  obtain ⟨a,vs,rfl,sq,⟨v1,r1,rfl,h1,⟨v2,r2,rfl,h2,⟨v3,r3,rfl,h3,h4⟩⟩⟩,_⟩:=r
  cases (show r3=[] from h4)
  refine ⟨a,_,rfl,wP K.ext.gh sq,rfl,v1,_,rfl,v2,_,rfl,v3,_,rfl,rfl,?_⟩
  exact q _ (((K.set (List.getElem?_eq_some_iff.mp hi).1 h1).set (List.getElem?_eq_some_iff.mp hj).1 h2).set (List.getElem?_eq_some_iff.mp hl).1 h3)
 ·cases hf⟩⟩
end
end L3
namespace L2
open PySem PySem.Spec PyProof PyProof.Rows
section
variable {X:Cx} {pos:Pos}
noncomputable def Wq (K:PySem.W.Frag) (n:Nat) (t:vV):TG:=fun v σ H Q=>∃ a xs,v=.ref a/\yO K H a xs/\xs.length=n/\t xs σ H Q
theorem Fv {es:List Expr} {k:Nat} {t:vV} {n:Nat} (hc:X.calm=true) (h:j5 X es t)
  (hn:(assignEach es X.env).length=n:=by rfl) (hst:(assignEach es X.env).findIdx? (·.1)=none:=by rfl):PG X (.Tuple es k pos) (Wq X.K n t):=by
 intro pins s σ H v u Q I r hw
 obtain ⟨a,xs,e1,hq,hl,hw⟩:=hw
 subst e1
 cases r
 obtain ⟨its,rv,ht,hz⟩:=I.list hq
 rw [assign_Tuple]
 refine wpAny_bind (wpAny_standAt ?_)
 unfold unpack
 rw [show (assignEach es X.env).length=its.toArray.size by simp [hn,<- hl,rv.length],hst]
 refine wpAny_bind (wpAny_holding (PySem.W.kun_itemsOf (I.ok.hd hc) ht.isList fun h' hx=>?_))
 have I1:Inv X pins σ H { s with heap:=h' }:=I.kept (t':=s.toks) fun b o e=>hx b o (Nat.ne_of_lt (Heap.lt_size e)) e
 exact h pins _ σ H xs _ Q I1 (by simpa using rv) hw
end
end L2
namespace L3
open PySem PySem.Spec PyProof PyProof.Rows L2
noncomputable def gl (i j k:Nat):FG:=fun d σ=>match d with
 | .lst [x,y,z]=>some (((σ.set i (some (false,x))).set j (some (false,y))).set k (some (false,z)))
 | _=>none
section
variable {X:Cx} {i j:Nat} {y:Str} {pos:Pos}
theorem Cu {es:List Expr} {k:Nat} {t:vV} {n:Nat} (hc:X.calm=true) (h:gO X es t)
  (hn:(assignEach es X.env).length=n:=by rfl) (hst:(assignEach es X.env).findIdx? (·.1)=none:=by rfl):QG X (.Tuple es k pos) (Wq X.K n t):=⟨Fv hc h.h hn hst⟩
theorem G8 {l:Nat} {x z:Str} {p1 p2 p3:Pos} {kk:Nat} (h:QG X (.Tuple [.Name x p1,.Name y p2,.Name z p3] kk pos) (Wq X.K 3 (vC (wD i) (vC (wD j) (vC (wD l) qy))))) (hi:X.N[i]?=some x) (hj:X.N[j]?=some y) (hl:X.N[l]?=some z):SG X (.Tuple [.Name x p1,.Name y p2,.Name z p3] kk pos) (gl i j l):=⟨⟨_,h.h,fun {G0 H0 G H τ τ' σ d v Q} K r hf q=>by
 unfold gl at hf
 split at hf
 ·rename_i d1 d2 d3
  cases hf
  obtain ⟨a,vs,rfl,sq,⟨v1,r1,rfl,h1,⟨v2,r2,rfl,h2,⟨v3,r3,rfl,h3,h4⟩⟩⟩,_⟩:=r
  cases (show r3=[] from h4)
  refine ⟨a,_,rfl,xR K.ext.gh sq,rfl,v1,_,rfl,v2,_,rfl,v3,_,rfl,rfl,?_⟩
  exact q _ (((K.set (List.getElem?_eq_some_iff.mp hi).1 h1).set (List.getElem?_eq_some_iff.mp hj).1 h2).set (List.getElem?_eq_some_iff.mp hl).1 h3)
 ·cases hf⟩⟩
end
end L3
namespace L2
open PySem PySem.Spec PyProof.Rows
open Builtin Builtin.Str
section
variable {X:Cx}
noncomputable def E5 (K:PySem.W.Frag):V->List V->Hp->VK->Prop:=fun x vs H Q=>∃ (sep:Str) (p:Addr) (ts:List Str),x=.str sep/\vs=[.ref p]/\yd K H p (ts.map V.str)/\(ts.map (·.length)).sum+ts.length*sep.length<=sizeLine/\Q (.str (glued sep ts)) H
theorem Bw:qC X "str.join" (E5 X.K):=by
 intro pins s σ H x vs v us Q I rx rv h
 obtain ⟨sep,p,ts,rfl,rfl,hq,hz,q⟩:=h
 obtain ⟨t,rfl⟩:=(show ∃ t,v=Value.str sep t from rx)
 obtain ⟨u,rfl,ru⟩:=wR rv
 cases (show u=Value.ref p from ru)
 obtain ⟨its,r,pl,_⟩:=I.tuple hq
 obtain ⟨l,rfl,el⟩:=Uv r
 have hT:s.TypeIs (.ref p) "tuple" := pl.typeIs
 obtain ⟨o,ho,hc,n,hd⟩:=pl
 have hno:tooLong ((l.map (·.1)).toArray.foldl (·+·.length+sep.length) 0)=false:=by
  rw [el,StrLaws.joinTotal]
  unfold tooLong
  exact decide_eq_false (by omega)
 have fit:(glued sep ts).length<=sizeLine:=Nat.le_trans (glued_len sep ts) hz
 refine wpAny_call (codeAny_call_builtin F.slot_str_join.plain F.entry_str_join (F.slot_str_join.check _ _ _ _ _ _ _ _ (typeIs_str _ _ _) (F.args_str_join_2 _ _) ?_))
 obtain ⟨other,e⟩:=join_tree sep t p
 rw [e]
 refine wpAny_bind (wpAny_typeOf hT ?_)
 rw [if_pos (by decide)]
 refine wpAny_bind (wpAny_seqItems ho hd ?_)
 show wpAny _ _ (joinTail sep (strValues l)) _ _ _
 rcases l with _ | ⟨a,_ | ⟨b,c⟩⟩
 ·subst el
  exact gives_joinTail sep [] hno X.prog X.w _ (fun r s'=>match r with | .ok (.ret v)=>EP X pins σ Q v s' | .ok _=>False | .error e=>X.xe e s') s ⟨fit,.str _,H,I.tok _,⟨_,rfl⟩,q⟩
 ·subst el
  exact gives_joinTail sep [a] hno X.prog X.w _ (fun r s'=>match r with | .ok (.ret v)=>EP X pins σ Q v s' | .ok _=>False | .error e=>X.xe e s') s ⟨.str _,H,I,⟨_,rfl⟩,q⟩
 ·subst el
  exact gives_joinTail sep (a::b::c) hno X.prog X.w _ (fun r s'=>match r with | .ok (.ret v)=>EP X pins σ Q v s' | .ok _=>False | .error e=>X.xe e s') s ⟨fit,.str _,H,I.tok _,⟨_,rfl⟩,q⟩
end
end L2
namespace L3
open PySem PySem.Spec PyProof PyProof.Rows L2 Builtin Builtin.Str
section
variable {X:Cx} {e o a b c:Expr} {f fo fa fb fc:FE} {x:Str} {xp p pos apos cpos:Pos}
noncomputable def Wh:D->D->Option D
 | .str sep,.tup xs=>(uy xs).bind fun ts=>if (ts.map (·.length)).sum+ts.length*sep.length<=yA then some (.str (glued sep ts)) else none
 | _,_=>none
theorem Er (ho:SE X o fo) (he:SB X e f) (hbase:attributeBase o "join" X.env (eval o X.env)=eval o X.env:=by rfl) (hline:(apos.endLine == cpos.line)=true:=by rfl) (hs:yi e=true:=by rfl) :
  SE X (.Call (.Attribute o "join" apos) [e] [] cpos) (e2 Wh fo f):=by
 obtain ⟨to,po,ko⟩:=ho.h
 obtain ⟨te,pe,ke⟩:=(ym he yr hs).h
 refine ⟨⟨_,(pN PySem.F.plainAttrs_str PySem.F.slot_str_join PySem.F.type_str_join Bw ⟨po⟩ ⟨pe⟩ hbase hline (by rw [List.all_cons,hs]; rfl) (by show 1<30; decide)).h,fun {G0 H0 G H τ σ d Q} E hf q=>?_⟩⟩
 obtain ⟨x,hx,hf⟩:=zM hf
 obtain ⟨y,hy,hf⟩:=zM hf
 refine ko E hx fun v G1 H1 x1 r1=>?_
 cases x with
 | str sep=>
  obtain ⟨rfl,l1⟩:=r1
  refine ⟨rfl,ke (E.go x1) (ds:=[y]) (by unfold z8; rw [hy]; rfl) fun ws G2 H2 x2 r2=>?_⟩
  obtain ⟨w,rfl,rw_⟩:=u0 r2
  cases y with
  | tup xs=>
   obtain ⟨ts,hts,hf⟩:=zM hf
   obtain ⟨aa,vs,rfl,sq,rs,_⟩:=rw_
   have ev:=Uk hts rs
   subst ev
   by_cases cc:(ts.map (·.length)).sum+ts.length*sep.length<=yA
   ·rw [if_pos cc] at hf
    cases hf
    have c':(ts.map (·.length)).sum+ts.length*sep.length<=sizeLine:=by rw [sizeLine_eq]; exact cc
    exact ⟨sep,aa,ts,rfl,rfl,sq,c',q _ _ _ (x1.trans x2) ⟨rfl,Nat.le_trans (glued_len sep ts) c'⟩⟩
   ·rw [if_neg cc] at hf
    cases hf
  | _=>cases hf
 | _=>cases hf
end
end L3
local macro_rules
 | `(tactic| simp! [$ls,*])=>`(tactic| simp only [L3.shx,Nat.reduceAdd,Nat.reduceSub,Int.reduceLT,Int.reduceLE,Int.reducePow,Int.reduceToNat,Int.reduceAdd,Int.reduceSub,Int.reduceMul,Int.reduceNeg,$ls,*])
namespace L3
open PySem
noncomputable def gn:List D:=[(.str "carry"),(.str "nought"),(.str "sign")]
noncomputable def p8:D:=.tup gn
noncomputable def ul:List (Sum Int Str):=List.map .inr ["label", "set", "high", "copy", "add", "addc", "sub", "subc", "and", "or", "xor", "test", "left", "right", "load", "store", "loadw", "storew", "jump", "when", "unless", "stop"]
noncomputable def um:List D:=[(.tup [(.str "name")]),(.tup [(.str "d"),(.str "n")]),(.tup [(.str "d"),(.str "n")]),(.tup [(.str "d"),(.str "s")]),(.tup [(.str "d"),(.str "s")]),(.tup [(.str "d"),(.str "s")]),(.tup [(.str "d"),(.str "s")]),(.tup [(.str "d"),(.str "s")]),(.tup [(.str "d"),(.str "s")]),(.tup [(.str "d"),(.str "s")]),(.tup [(.str "d"),(.str "s")]),(.tup [(.str "d"),(.str "s")]),(.tup [(.str "d"),(.str "n")]),(.tup [(.str "d"),(.str "n")]),(.tup [(.str "d"),(.str "s"),(.str "n")]),(.tup [(.str "d"),(.str "s"),(.str "n")]),(.tup [(.str "d"),(.str "s"),(.str "n")]),(.tup [(.str "d"),(.str "s"),(.str "n")]),(.tup [(.str "name")]),(.tup [(.str "mark"),(.str "name")]),(.tup [(.str "mark"),(.str "name")]),(.tup [])]
noncomputable def Wt:List (Sum Int Str):=List.map .inr ["set", "high", "left", "right", "load", "store", "loadw", "storew"]
noncomputable def Wx:List D:=[(.int 16),(.int 16),(.int 5),(.int 5),(.int 8),(.int 8),(.int 8),(.int 8)]
noncomputable def wq:List (Sum Int Str):=List.map .inr ["kind", "d", "s", "mark", "distance"]
noncomputable def wt:List D:=[(.tup [(.int 27),(.int 5)]),(.tup [(.int 24),(.int 3)]),(.tup [(.int 21),(.int 3)]),(.tup [(.int 24),(.int 2)]),(.tup [(.int 0),(.int 5)])]
noncomputable def uk:List (Sum Int Str):=List.map .inr ["stop", "set", "high", "copy", "add", "addc", "sub", "subc", "and", "or", "xor", "test", "left", "right", "load", "store", "loadw", "storew"]
noncomputable def tH:List D:=[(.int 0),(.int 1),(.int 2),(.int 3),(.int 4),(.int 5),(.int 6),(.int 7),(.int 8),(.int 9),(.int 10),(.int 11),(.int 12),(.int 13),(.int 14),(.int 15),(.int 16),(.int 17)]
noncomputable def gw:List L2.V:=[.int 0,.int 1,.int 2,.int 3,.int 4,.int 5,.int 6,.int 7,.int 8,.int 9,.int 10,.int 11,.int 12,.int 13,.int 14,.int 15,.int 16,.int 17]
noncomputable def q_:List (Sum Int Str):=List.map .inr ["jump", "when", "unless"]
noncomputable def pA:List D:=[(.int 18),(.int 19),(.int 20)]
noncomputable def gy:List L2.V:=[.int 18,.int 19,.int 20]
noncomputable def qz:List (Sum Int Str):=List.map .inr ["jump", "when", "unless"]
noncomputable def p9:List D:=[(.int 21),(.int 22),(.int 23)]
noncomputable def gx:List L2.V:=[.int 21,.int 22,.int 23]
noncomputable def MB:List D:=[(.int 28),(.int 24),(.int 20),(.int 16),(.int 12),(.int 8),(.int 4),(.int 0)]
noncomputable def Zo:D:=.tup MB
end L3
namespace L3
open PySem
noncomputable def TR:FS:=
 (zI (zj (tE (e2 (ye fun i j=>decide (i<j)) (z6 1) (eL xh (z8 (z6 0) zD))))
   (zk (e2 zF (z6 0) (z6 1)))
   yB)
  (zk (eC (.int 0))))
theorem Ms (ns:List Int) (k:Nat):(ns.map D.int)[k]?=(ns[k]?).map D.int:=List.getElem?_map
noncomputable def vX (ns:List Int) (k:Int):Int:=ns.getD k.toNat 0
noncomputable def u4:List D->Option (Bool×D)
 | [.lst xs,.int k]=>if 0<=k then ((xs[k.toNat]?).getD (.int 0) |> fun d=>some (false,d)) else none
 | _=>none
theorem gb (ns:List Int) {k:Int} (h:0<=k):u4 [.lst (ns.map D.int),.int k]=some (false,.int (vX ns k)):=by
 show (if 0<=k then _ else _)=_
 rw [if_pos h,Ms]
 unfold vX
 rw [List.getD_eq_getElem?_getD]
 cases ns[k.toNat]?<;>rfl
theorem EL:∀ ds r,u4 ds=some r->ds.length=2/\yQ 2 TR ds=some r:=fun ds r h=>by
 unfold u4 at h
 split at h
 ·rename_i xs k
  refine ⟨rfl,?_⟩
  by_cases h0:0<=k
  ·rw [if_pos h0] at h
   cases h
   unfold TR
   by_cases c:k<(xs.length:Int)
   ·have e:zF (.lst xs) (.int k)=some ((xs[k.toNat]?).getD (.int 0)):=by
     show x_ xs k=_
     unfold x_
     rw [if_pos h0,List.getElem?_eq_getElem (by omega)]
     rfl
    simp! [decide_eq_true c,e]
   ·have e:xs[k.toNat]?=none:=List.getElem?_eq_none (by omega)
    simp! [decide_eq_false c,e,Option.getD]
  ·rw [if_neg h0] at h
   cases h
 ·cases h
end L3
namespace L3
open PySem
noncomputable def lt (k:Int):Str:=⟨#[97+k.toNat]⟩
theorem Ob {k:Int} (h0:0<=k) (h1:k<26):x_ ("abcdefghijklmnopqrstuvwxyz" : Str).cps.toList k=some (97+k.toNat):=by
 have h:∀ j:Fin 26,x_ ("abcdefghijklmnopqrstuvwxyz" : Str).cps.toList (j.val:Int)=some (97+j.val):=by decide +kernel
 have:=h ⟨k.toNat,by omega⟩
 rw [show ((⟨k.toNat,by omega⟩:Fin 26).val:Int)=k by show (k.toNat:Int)=k; omega] at this
 exact this
theorem X_ {k:Int} (h0:0<=k) (h1:k<26):zF (.str "abcdefghijklmnopqrstuvwxyz") (.int k)=some (.str (lt k)):=by
 show (x_ _ k).bind _=_
 rw [Ob h0 h1]
 rfl
theorem add_str {a b:Str} (h:a.length+b.length<=100000):ze (.str a) (.str b)=some (.str (a++b)):=by
 show (if a.length+b.length<=yA then _ else _)=_
 rw [if_pos (by show _<=16777216; omega)]
theorem yz (a b:Str):(a++b).length=a.length+b.length:=Array.size_append
theorem Y8 (k:Int):(lt k).length=1:=rfl
end L3
namespace L3
open PySem
theorem Y3 {g:FG} {c:FT} {e:FE} {σ:yD} (p:D->Bool) (v:D->D):∀ {ds:List D},(∀ d∈ds,∃ σ1,g d σ=some σ1/\c σ1=some (p d)/\(p d=true->e σ1=some (v d)))->yg g c e σ ds=some ((ds.filter p).map v)
 | [],_=>rfl
 | d::ds,h=>by
  obtain ⟨σ1,e1,e2,e3⟩:=h d (List.mem_cons_self ..)
  have ih:=Y3 p v (ds:=ds) fun x hx=>h x (List.mem_cons_of_mem _ hx)
  show (g d σ).bind _=_
  rw [e1]
  show (c σ1).bind _=_
  rw [e2]
  cases hp:p d with
  | false=>
   rw [List.filter_cons_of_neg (by rw [hp]; decide)]
   exact ih
  | true=>
   rw [List.filter_cons_of_pos hp]
   show (e σ1).bind _=_
   rw [e3 hp]
   show (yg g c e σ ds).bind _=_
   rw [ih]
   rfl
theorem Y4 {g:FG} {e:FE} {σ:yD} (v:D->D) {ds:List D} (h:∀ d∈ds,∃ σ1,g d σ=some σ1/\e σ1=some (v d)):yg g yk e σ ds=some (ds.map v):=by
 have:=Y3 (g:=g) (c:=yk) (e:=e) (σ:=σ) (fun _=>true) v (ds:=ds) fun d hd=>by
  obtain ⟨σ1,a,b⟩:=h d hd
  exact ⟨σ1,a,rfl,fun _=>b⟩
 rw [this,List.filter_eq_self.mpr (fun _ _=>rfl)]
inductive vQ (R:D->D->Prop):List D->List D->Prop
 | nil:vQ R [] []
 | cons {x y:D} {xs ys:List D}:R x y->vQ R xs ys->vQ R (x::xs) (y::ys)
theorem Qp {g:FG} {e:FE} {σ:yD} (R:D->D->Prop):∀ {ds:List D},(∀ d∈ds,∃ σ1 x,g d σ=some σ1/\e σ1=some x/\R d x)->∃ xs,yg g yk e σ ds=some xs/\vQ R ds xs
 | [],_=>⟨[],rfl,.nil⟩
 | d::ds,h=>by
  obtain ⟨σ1,x,e1,e2,r⟩:=h d (List.mem_cons_self ..)
  obtain ⟨xs,ih,rs⟩:=Qp R (ds:=ds) fun x hx=>h x (List.mem_cons_of_mem _ hx)
  refine ⟨x::xs,?_,.cons r rs⟩
  show (g d σ).bind _=_
  rw [e1]
  show (e σ1).bind _=_
  rw [e2]
  show (yg g yk e σ ds).bind _=_
  rw [ih]
  rfl
theorem pp {n i:Nat} {d:D} (h:(xn n)[i]?=some d):i<n/\d=.int (i:Int):=by
 have hi:i<n:=by
  have:=(List.getElem?_eq_some_iff.mp h).1
  simpa using this
 refine ⟨hi,?_⟩
 simp [hi] at h
 exact h.symm
theorem OF {n:Nat} {d:D} (h:d∈xn n):∃ i:Nat,i<n/\d=.int (i:Int):=by
 obtain ⟨i,hi,e⟩:=List.getElem_of_mem h
 exact ⟨i,(pp (List.getElem?_eq_some_iff.mpr ⟨hi,e⟩))⟩
theorem jx (n:Nat):(xn n).length=n:=by simp
theorem TK {α:Type} (xs:List α) (a:α):x_ (xs++[a]) (-1)=some a:=by
 unfold x_
 rw [if_neg (by decide),if_pos (by rw [List.length_append,List.length_singleton]; omega)]
 rw [show ((-1:Int)+((xs++[a]).length:Nat)).toNat=xs.length by rw [List.length_append,List.length_singleton]; omega]
 simp
theorem uD {α:Type} {xs:List α} {i:Int} {a:α} (h0:0<=i) (h:xs[i.toNat]?=some a):x_ xs i=some a:=by
 unfold x_
 rw [if_pos h0,h]
noncomputable def uM:Nat->D->Bool
 | 0,_=>false
 | n+1,.tup xs=>xs.all (uM n)
 | n+1,.lst xs=>xs.all (uM n)
 | _+1,d=>yL d
theorem WU {f:D->D->Bool}:∀ {xs:List D},(∀ x∈xs,f x x=true)->vY f xs xs=true
 | [],_=>rfl
 | x::xs,h=>by
  show (f x x&&vY f xs xs)=true
  rw [h x (List.mem_cons_self ..),WU fun y hy=>h y (List.mem_cons_of_mem _ hy)]
  rfl
theorem WZ:∀ {xs:List D},(∀ x∈xs,yW x x=true)->dEqs xs xs=true
 | [],_=>by unfold dEqs; rfl
 | x::xs,h=>by
  unfold dEqs
  rw [h x (List.mem_cons_self ..),WZ fun y hy=>h y (List.mem_cons_of_mem _ hy)]
  rfl
theorem kD:∀ (n:Nat) (d:D),uM n d=true->w4 n d d=true/\yW d d=true
 | 0,_,h=>by cases h
 | n+1,d,h=>by
  cases d with
  | tup xs=>
   have h':∀ x∈xs,uM n x=true:=List.all_eq_true.mp h
   exact ⟨WU fun x hx=>(kD n x (h' x hx)).1,by unfold yW; exact WZ fun x hx=>(kD n x (h' x hx)).2⟩
  | lst xs=>
   have h':∀ x∈xs,uM n x=true:=List.all_eq_true.mp h
   exact ⟨WU fun x hx=>(kD n x (h' x hx)).1,by unfold yW; exact WZ fun x hx=>(kD n x (h' x hx)).2⟩
  | dic ks vs=>cases h
  | exc _=>cases h
  | obj _ _ _=>cases h
  | non=>exact ⟨rfl,by unfold yW; rfl⟩
  | bl b=>exact ⟨rfl,by unfold yW; exact beq_self_eq_true b⟩
  | int i=>exact ⟨rfl,by unfold yW; exact beq_self_eq_true i⟩
  | str z=>exact ⟨rfl,by unfold yW; exact beq_self_eq_true z⟩
theorem Tz {d:D} (h:uM 6 d=true):t9 d d=some true:=by
 obtain ⟨h1,h2⟩:=kD 6 d h
 have e:t9 d d=match w4 6 d d with
  | true=>some (yW d d)
  | false=>none:=by cases d<;>rfl
 rw [e,h1,h2]
theorem Q0 {d:D} (h:uM 6 d=true):zd d d=some (.bl true):=by
 unfold zd
 rw [Tz h]
 rfl
theorem J6 {d:D} (h:uM 6 d=true):yl d d=some (.bl false):=by
 unfold yl
 rw [Tz h]
 rfl
theorem uq {i j:Int} (h:i=j):zd (.int i) (.int j)=some (.bl true):=by
 subst h
 show some (D.bl (i == i))=_
 rw [beq_self_eq_true]
theorem ve {i j:Int} (h:i≠j):zd (.int i) (.int j)=some (.bl false):=by
 show some (D.bl (i == j))=_
 rw [beq_eq_false_iff_ne.mpr h]
theorem add_int {i j:Int}:ze (.int i) (.int j)=some (.int (i+j)):=rfl
theorem YW:∀ ts:List Str,uy (ts.map D.str)=some ts
 | []=>rfl
 | t::ts=>by
  show (uy (ts.map D.str)).bind _=_
  rw [YW ts]
  rfl
theorem B7 {sep:Str} {ts:List Str} (h:(ts.map (·.length)).sum+ts.length*sep.length<=1000000):vA (.str sep) (.lst (ts.map D.str))=some (.str (Builtin.Str.glued sep ts)):=by
 show (uy (ts.map D.str)).bind _=_
 rw [YW]
 show (if _<=yA then _ else _)=_
 rw [if_pos (by show _<=16777216; omega)]
theorem cut_len (z:Str) (lo hi:Option Int):(L2.cutS z lo hi).length<=z.length:=by
 show ((z.cps.toList.drop _).take _).toArray.size<=z.cps.size
 simp only [List.size_toArray,List.length_take,List.length_drop,Array.length_toList]
 omega
theorem M9 {α:Type} {k:Sum Int Str} {v:α}:∀ {ks:List (Sum Int Str)} {vs:List α},ks.length=vs.length->∀ k',getK (vJ ks k) (wO ks vs k v) k'=if k=k' then some v else getK ks vs k':=by
 have one:∀ {ks:List (Sum Int Str)} {vs:List α},ks.length=vs.length->∀ k',xL ks k=true->getK ks (List.zipWith (fun k' x=>if k'=k then v else x) ks vs) k'=if k=k' then some v else getK ks vs k':=by
  intro ks
  induction ks with
  | nil=>intro vs _ k' h; cases h
  | cons a ks ih=>
   intro vs hl k' h
   cases vs with
   | nil=>cases hl
   | cons b vs=>
    rw [List.zipWith_cons_cons]
    unfold getK
    by_cases e1:a=k
    ·subst e1
     by_cases e2:a=k'
     ·rw [if_pos e2,if_pos e2,if_pos rfl]
     ·rw [if_neg e2,if_neg e2,if_neg e2]
      by_cases e3:xL ks a=true
      ·have:=ih (vs:=vs) (by simpa using hl) k' e3
       rw [this,if_neg e2]
      ·have:∀ {ks:List (Sum Int Str)} {vs:List α},ks.length=vs.length->xL ks a=false->getK ks (List.zipWith (fun k' x=>if k'=a then v else x) ks vs) k'=getK ks vs k':=by
        intro ks
        induction ks with
        | nil=>intro vs _ _; rfl
        | cons a' ks ih'=>
         intro vs hl h
         cases vs with
         | nil=>cases hl
         | cons b vs=>
          have h2:decide (a'=a)=false/\xL ks a=false:=by
           have:(decide (a'=a)||xL ks a)=false:=h
           exact Bool.or_eq_false_iff.mp this
          rw [List.zipWith_cons_cons]
          unfold getK
          rw [if_neg (of_decide_eq_false h2.1),ih' (by simpa using hl) h2.2]
       exact this (by simpa using hl) (by simpa using e3)
    ·have h2:xL ks k=true:=by
      have:(decide (a=k)||xL ks k)=true:=h
      rw [decide_eq_false e1] at this
      exact this
     have:=ih (vs:=vs) (by simpa using hl) k' h2
     rw [this,if_neg e1]
     by_cases e2:a=k'
     ·rw [if_pos e2]
      rw [if_neg (fun e=>e1 (e2.trans e.symm)),if_pos e2]
     ·rw [if_neg e2]
      by_cases e3:k=k'
      ·rw [if_pos e3,if_pos e3]
      ·rw [if_neg e3,if_neg e3,if_neg e2]
 intro ks vs hl k'
 unfold vJ wO
 by_cases h:xL ks k=true
 ·rw [if_pos h,if_pos h]
  exact one hl k' h
 ·rw [if_neg h,if_neg h]
  clear one
  induction ks generalizing vs with
  | nil=>
   cases vs with
   | nil=>rfl
   | cons _ _=>cases hl
  | cons a ks ih=>
   cases vs with
   | nil=>cases hl
   | cons b vs=>
    have h2:¬ a=k/\¬ xL ks k=true:=by
     have:¬ (decide (a=k)||xL ks k)=true:=h
     constructor
     ·intro e; exact this (by rw [decide_eq_true e]; rfl)
     ·intro e; exact this (by rw [e,Bool.or_true])
    rw [List.cons_append,List.cons_append]
    show (if a=k' then some b else getK (ks++[k]) (vs++[v]) k')=if k=k' then some v else if a=k' then some b else getK ks vs k'
    rw [ih (by simpa using hl) h2.2]
    by_cases e:a=k'
    ·rw [if_pos e,if_pos e]
     rw [if_neg (fun e'=>h2.1 (e.trans e'.symm))]
    ·rw [if_neg e,if_neg e]
theorem ql {L M:List D} (h:L.length+M.length<=1000):ze (.lst L) (.lst M)=some (.lst (L++M)):=by
 show (if L.length+M.length<=yA then _ else _)=_
 rw [if_pos (by show _<=16777216; omega)]
theorem J5 (xs:List D):yl (.lst xs) (.lst [])=some (.bl (!xs.isEmpty)):=by
 cases xs with
 | nil=>exact J6 (d:=.lst []) rfl
 | cons x r=>
  have e:yW (.lst (x::r)) (.lst [])=false:=by unfold yW; unfold dEqs; rfl
  show (some (yW (.lst (x::r)) (.lst []))).bind _=_
  rw [e]
  rfl
theorem WQ:∀ (n:Nat) {l:List Nat},l.Nodup->(∀ x∈l,x<n)->l.length<=n
 | 0,l,_,h=>by
  cases l with
  | nil=>exact Nat.le_refl _
  | cons x r=>exact absurd (h x (List.mem_cons_self ..)) (Nat.not_lt_zero _)
 | n+1,l,hd,h=>by
  by_cases hm:n∈l
  ·have h1:=WQ n (hd.erase n) fun x hx=>by
    have:=(hd.mem_erase_iff).mp hx
    have:=h x this.2
    omega
   rw [List.length_erase_of_mem hm] at h1
   omega
  ·have h1:=WQ n hd fun x hx=>by
    have h2:=h x hx
    have h3:x≠n:=fun e=>hm (e ▸ hx)
    omega
   omega
theorem vx {x y:D} {b:Bool} (h:zd x y=some (.bl b)):yl x y=some (.bl (!b)):=by
 unfold zd at h
 unfold yl
 cases e:t9 x y with
 | none=>rw [e] at h; cases h
 | some k=>
  rw [e] at h
  cases h
  rfl
end L3
namespace L3
open PySem
theorem Om {n y l w:Nat} (hn:n<2 ^ w) (hy:y / 2 ^ l % 2 ^ w=0):(y &&& (n*2 ^ l))=0:=by
 apply Nat.eq_of_testBit_eq
 intro i
 rw [Nat.testBit_and,Nat.zero_testBit]
 rw [Nat.testBit_mul_two_pow]
 by_cases hl:l<=i
 ·by_cases hi:i - l<w
  ·have e:y.testBit i=(y / 2 ^ l % 2 ^ w).testBit (i - l):=by
    rw [Nat.testBit_mod_two_pow,Nat.testBit_div_two_pow,decide_eq_true hi,Bool.true_and,Nat.sub_add_cancel hl]
   rw [e,hy,Nat.zero_testBit,Bool.false_and]
  ·have:n.testBit (i - l)=false:=Nat.testBit_lt_two_pow (Nat.lt_of_lt_of_le hn (Nat.pow_le_pow_right (by decide) (by omega)))
   rw [this]; simp
 ·simp [hl]
theorem Ol (x l w:Nat):(x &&& ((2 ^ w - 1)*2 ^ l))=x / 2 ^ l % 2 ^ w*2 ^ l:=by
 apply Nat.eq_of_testBit_eq
 intro i
 rw [Nat.testBit_and,Nat.testBit_mul_two_pow,Nat.testBit_mul_two_pow,Nat.testBit_two_pow_sub_one,Nat.testBit_mod_two_pow,Nat.testBit_div_two_pow]
 by_cases hl:l<=i
 ·simp [hl,Nat.sub_add_cancel hl]
  rw [Bool.and_comm]
 ·simp [hl]
theorem LQ (l w:Nat):(((1:Int)*2 ^ w - 1)*2 ^ l)=(((2 ^ w - 1)*2 ^ l:Nat):Int):=by
 have h:1<=2 ^ w:=Nat.one_le_two_pow
 rw [Int.natCast_mul,Int.natCast_sub h]
 simp
theorem L4 {x:Int} (hx:0<=x) (l w:Nat):Builtin.bitAnd x (((1:Int)*2 ^ w - 1)*2 ^ l)=x / 2^l % 2^w*2^l:=by
 obtain ⟨n,rfl⟩:=Int.eq_ofNat_of_zero_le hx
 rw [LQ,PyProof.Rows.bitAnd_pp (Int.natCast_nonneg _) (Int.natCast_nonneg _),Int.toNat_natCast,Int.toNat_natCast,Ol]
 simp
theorem L1 {y n:Int} {l w:Nat} (hy:0<=y) (hn:0<=n) (hn2:n<2 ^ w) (hz:y / 2 ^ l % 2 ^ w=0):Builtin.bitAnd y (n*2 ^ l)=0:=by
 obtain ⟨a,rfl⟩:=Int.eq_ofNat_of_zero_le hy
 obtain ⟨b,rfl⟩:=Int.eq_ofNat_of_zero_le hn
 have e:(b:Int)*2 ^ l=((b*2 ^ l:Nat):Int):=by simp
 have h1:b<2 ^ w:=by
  have:((2 ^ w:Nat):Int)=(2:Int) ^ w:=by simp
  omega
 have h2:a / 2 ^ l % 2 ^ w=0:=by
  have:((a / 2 ^ l % 2 ^ w:Nat):Int)=(a:Int) / 2 ^ l % 2 ^ w:=by simp
  omega
 rw [e,PyProof.Rows.bitAnd_pp (Int.natCast_nonneg _) (Int.natCast_nonneg _),Int.toNat_natCast,Int.toNat_natCast,Om h1 h2]
 rfl
theorem LZ {x p r:Int} (hx:0<=x) (hp:0<p) (hr:0<r):0<=x - x / p % r*p/\(x - x / p % r*p) / p % r=0/\(x - x / p % r*p) / p / r=x / p / r/\(x - x / p % r*p) % p=x % p:=by
 have h0:0<=x / p:=Int.ediv_nonneg hx (Int.le_of_lt hp)
 have e1:x - x / p % r*p=x+p*(-(x / p % r)):=by rw [Int.mul_neg,Int.mul_comm p]; omega
 have e2:(x - x / p % r*p) / p=x / p - x / p % r:=by rw [e1,Int.add_mul_ediv_left _ _ (Int.ne_of_gt hp)]; omega
 have e3:x / p - x / p % r=r*(x / p / r):=by have:=Int.mul_ediv_add_emod (x / p) r; omega
 refine ⟨?_,?_,?_,?_⟩
 ·have h1:x / p % r<=x / p:=by
   have:=Int.mul_ediv_add_emod (x / p) r
   have h2:0<=x / p / r:=Int.ediv_nonneg h0 (Int.le_of_lt hr)
   have h3:0<=r*(x / p / r):=Int.mul_nonneg (Int.le_of_lt hr) h2
   omega
  have h4:x / p % r*p<=x / p*p:=Int.mul_le_mul_of_nonneg_right h1 (Int.le_of_lt hp)
  have h5:=Int.ediv_mul_le x (Int.ne_of_gt hp)
  omega
 ·rw [e2,e3]; exact Int.mul_emod_right _ _
 ·rw [e2,e3]; exact Int.mul_ediv_cancel_left _ (Int.ne_of_gt hr)
 ·rw [e1]; exact Int.add_mul_emod_self_left ..
theorem JM (x:Int) (w:Nat):Builtin.bitAnd x ((1:Int)*2 ^ w - 1)=x % 2 ^ w:=by
 rw [Int.one_mul,PySem.W.kbt_mask]
theorem Hk {x n:Int} {l w:Nat} (hx:0<=x) (hn:0<=n) (hn2:n<2 ^ w):Builtin.bitOr (Builtin.bitAnd x (Builtin.bitNot (((1:Int)*2 ^ w - 1)*2 ^ l))) (n*2 ^ l)=x+(n - x / 2 ^ l % 2 ^ w)*2 ^ l:=by
 have hp:(0:Int)<2 ^ l:=Int.pow_pos (by decide)
 have hr:(0:Int)<2 ^ w:=Int.pow_pos (by decide)
 obtain ⟨c0,c1,_,_⟩:=LZ hx hp hr
 rw [PyProof.Rows.bitAnd_not,L4 hx,PyProof.Rows.bitOr_and,L1 c0 hn hn2 c1,Int.sub_mul]
 omega
end L3
namespace L3
open PySem
theorem VW {a b c d i:Int} (h0:0<=i) (h1:i<4):∃ n,(n=a\/n=b\/n=c\/n=d)/\zF (.lst [.int a,.int b,.int c,.int d]) (.int i)=some (.int n):=by
 rcases (show i=0\/i=1\/i=2\/i=3 by omega) with rfl | rfl | rfl | rfl
 ·exact ⟨a,by simp,rfl⟩
 ·exact ⟨b,by simp,rfl⟩
 ·exact ⟨c,by simp,rfl⟩
 ·exact ⟨d,by simp,rfl⟩
theorem CA {a b c i:Int} (h0:0<=i) (h1:i<3):∃ n,(n=a\/n=b\/n=c)/\zF (.lst [.int a,.int b,.int c]) (.int i)=some (.int n):=by
 rcases (show i=0\/i=1\/i=2 by omega) with rfl | rfl | rfl
 ·exact ⟨a,by simp,rfl⟩
 ·exact ⟨b,by simp,rfl⟩
 ·exact ⟨c,by simp,rfl⟩
inductive v6:D->Prop
 | stop:v6 (.tup [.str "stop"])
 | imm {w:Str} {d n:Int} (hw:w = "set" \/ w = "high") (d0:0<=d) (d1:d<8) (n0:0<=n) (n1:n<65536):v6 (.tup [.str w,.int d,.int n])
 | two {w:Str} {d s:Int} (hw:w = "copy" \/ w = "add" \/ w = "addc" \/ w = "sub" \/ w = "subc" \/ w = "and" \/ w = "or" \/ w = "xor" \/ w = "test") (d0:0<=d) (d1:d<8) (s0:0<=s) (s1:s<8):v6 (.tup [.str w,.int d,.int s])
 | mov {w:Str} {d n:Int} (hw:w = "left" \/ w = "right") (d0:0<=d) (d1:d<8) (n0:0<=n) (n1:n<32):v6 (.tup [.str w,.int d,.int n])
 | mem {w:Str} {d s n:Int} (hw:w = "load" \/ w = "store" \/ w = "loadw" \/ w = "storew") (d0:0<=d) (d1:d<8) (s0:0<=s) (s1:s<8) (n0:0<=n) (n1:n<256):v6 (.tup [.str w,.int d,.int s,.int n])
inductive t6 (m:Int):D->Prop
 | jump {p:Int} (p0:0<=p) (p1:p<=m):t6 m (.tup [.str "jump",.int p])
 | cond {w k:Str} {p:Int} (hw:w = "when" \/ w = "unless") (hk:k = "carry" \/ k = "nought" \/ k = "sign") (p0:0<=p) (p1:p<=m):t6 m (.tup [.str w,.str k,.int p])
noncomputable def xz (m:Int) (d:D):Prop:=v6 d\/t6 m d
theorem yx {a:D} {r:List D}:zF (.tup (a::r)) (.int 0)=some a:=rfl
noncomputable def yf:D->Bool
 | .tup (.str w::_)=>w == "jump" || w == "when" || w == "unless"
 | _=>false
noncomputable def uu:D->D
 | .tup xs=>(x_ xs (-1)).getD .non
 | _=>.non
noncomputable def Zu:D:=.tup [.str "jump",.str "when",.str "unless"]
theorem tQ {d:D} (h:v6 d):∃ w,zF d (.int 0)=some (.str w)/\yY (.str w) Zu=some (.bl false)/\zd (.str w) (.str "label")=some (.bl false)/\yf d=false/\uM 5 d=true:=by
 cases h with
 | stop=>exact ⟨_,rfl,rfl,rfl,rfl,rfl⟩
 | imm hw=>rcases hw with rfl | rfl<;>exact ⟨_,rfl,rfl,rfl,rfl,rfl⟩
 | two hw=>rcases hw with rfl | rfl | rfl | rfl | rfl | rfl | rfl | rfl | rfl<;>exact ⟨_,rfl,rfl,rfl,rfl,rfl⟩
 | mov hw=>rcases hw with rfl | rfl<;>exact ⟨_,rfl,rfl,rfl,rfl,rfl⟩
 | mem hw=>rcases hw with rfl | rfl | rfl | rfl<;>exact ⟨_,rfl,rfl,rfl,rfl,rfl⟩
theorem uH {m:Int} {d:D} (h:t6 m d):∃ (w:Str) (p:Int),zF d (.int 0)=some (.str w)/\yY (.str w) Zu=some (.bl true)/\zd (.str w) (.str "label")=some (.bl false)/\yf d=true/\uM 5 d=true/\zF d (.int (-1))=some (.int p)/\uu d=.int p/\0<=p/\p<=m:=by
 cases h with
 | jump p0 p1=>exact ⟨_,_,rfl,rfl,rfl,rfl,rfl,rfl,rfl,p0,p1⟩
 | cond hw hk p0 p1=>rcases hw with rfl | rfl<;>rcases hk with rfl | rfl | rfl<;>exact ⟨_,_,rfl,rfl,rfl,rfl,rfl,rfl,rfl,p0,p1⟩
noncomputable def xX (rows:List D):List Nat:=(List.range rows.length).filter fun i=>yf (rows.getD i .non)
theorem k5 {rows:List D} {i:Nat} (h:i∈xX rows):i<rows.length/\yf (rows.getD i .non)=true:=by
 obtain ⟨a,b⟩:=List.mem_filter.mp h
 exact ⟨List.mem_range.mp a,b⟩
noncomputable def xW:D->Bool
 | .tup (.str w::_)=>w == "label"
 | _=>false
noncomputable def vF (t:Str):D:=.tup [.str "label",.str t]
theorem IK {m:Int} {d:D} (h:xz m d):∃ w,zF d (.int 0)=some (.str w)/\zd (.str w) (.str "label")=some (.bl false)/\xW d=false/\uM 5 d=true:=by
 rcases h with h | h
 ·cases h with
  | stop=>exact ⟨_,rfl,rfl,rfl,rfl⟩
  | imm hw=>rcases hw with rfl | rfl<;>exact ⟨_,rfl,rfl,rfl,rfl⟩
  | two hw=>rcases hw with rfl | rfl | rfl | rfl | rfl | rfl | rfl | rfl | rfl<;>exact ⟨_,rfl,rfl,rfl,rfl⟩
  | mov hw=>rcases hw with rfl | rfl<;>exact ⟨_,rfl,rfl,rfl,rfl⟩
  | mem hw=>rcases hw with rfl | rfl | rfl | rfl<;>exact ⟨_,rfl,rfl,rfl,rfl⟩
 ·cases h with
  | jump=>exact ⟨_,rfl,rfl,rfl,rfl⟩
  | cond hw hk=>rcases hw with rfl | rfl<;>rcases hk with rfl | rfl | rfl<;>exact ⟨_,rfl,rfl,rfl,rfl⟩
noncomputable def D0 (t:Str):D->Bool
 | .tup [_,.str u]=>u == t
 | _=>false
noncomputable def qO (t:Str) (s:Nat×Option Nat) (d:D):Nat×Option Nat:=match xW d with
 | true=>(s.1,match D0 t d with
  | true=>some s.1
  | false=>s.2)
 | false=>(s.1+1,s.2)
noncomputable def xw (t:Str) (L:List D):Nat×Option Nat:=L.foldl (qO t) (0,none)
theorem JY (t:Str) (L:List D) (d:D):xw t (L++[d])=qO t (xw t L) d:=by
 unfold xw
 rw [List.foldl_append]
 rfl
theorem JX (t:Str):∀ (L:List D) (s:Nat×Option Nat),(L.foldl (qO t) s).1=s.1+(L.filter fun d=>!xW d).length
 | [],_=>rfl
 | d::L,s=>by
  rw [List.foldl_cons,JX t L]
  unfold qO
  cases h:xW d with
  | true=>rw [List.filter_cons_of_neg (by rw [h]; decide)]
  | false=>
   rw [List.filter_cons_of_pos (by rw [h]; rfl),List.length_cons]
   show s.1+1+_=_
   omega
theorem VY (t u:Str) (L:List D):(xw t (L++[vF u])).2=if u=t then some (L.filter fun d=>!xW d).length else (xw t L).2:=by
 rw [JY]
 have h:=JX t L (0,none)
 show (match (u == t) with | true=>some (xw t L).1 | false=>(xw t L).2)=_
 by_cases e:u=t
 ·rw [if_pos e,beq_iff_eq.mpr e]
  show some (xw t L).1=_
  rw [show (xw t L).1=_ from h,Nat.zero_add]
 ·rw [if_neg e,beq_eq_false_iff_ne.mpr e]
theorem CL {t:Str} {L:List D} {d:D} (h:xW d=false):(xw t (L++[d])).2=(xw t L).2:=by
 rw [JY]
 unfold qO
 rw [h]
theorem v8 {L:List D} {r:D} (h:L.length<=1000):xJ (.lst L) r=some (.lst (L++[r])):=by
 show (if L.length<yA then _ else _)=_
 rw [if_pos (by show _<16777216; omega)]
inductive qg:D->Prop
 | label (t:Str):qg (vF t)
 | plain {d:D}:v6 d->qg d
 | jump (t:Str):qg (.tup [.str "jump",.str t])
 | cond {w k:Str} (t:Str) (hw:w = "when" \/ w = "unless") (hk:k = "carry" \/ k = "nought" \/ k = "sign"):qg (.tup [.str w,.str k,.str t])
noncomputable def OY (x y:D):Prop:=(yf x=false->y=x)/\(yf x=true->∃ (h:List D) (a:D) (t:Str),x=.tup (h++[a])/\y=.tup (h++[.str t]))
theorem Mx {x:D} (h:xW x=true):yf x=false:=by
 unfold xW at h
 split at h
 ·rename_i w r
  have e:w = "label" := by simpa using h
  subst e
  rfl
 ·cases h
noncomputable def qf (L:List D) (x y:D):Prop:=qg y/\xW y=xW x/\OY x y/\yf y=yf x/\(yf x=true->∃ (t:Str) (p:Nat),zF y (.int (-1))=some (.str t)/\(xw t L).2=some p/\uu x=.int (p:Int))
theorem Ts {R:D->D->Prop}:∀ {xs ys:List D},vQ R xs ys->xs.length=ys.length
 | _,_,.nil=>rfl
 | _,_,.cons _ r=>by rw [List.length_cons,List.length_cons,Ts r]
theorem Tt {R:D->D->Prop}:∀ {xs ys:List D},vQ R xs ys->∀ y∈ys,∃ x∈xs,R x y
 | _,_,.nil,_,h=>by cases h
 | x::xs,y::ys,.cons r rs,z,hz=>by
  rcases List.mem_cons.mp hz with rfl | hz
  ·exact ⟨x,List.mem_cons_self ..,r⟩
  ·obtain ⟨w,hw,h⟩:=Tt rs z hz
   exact ⟨w,List.mem_cons_of_mem _ hw,h⟩
theorem Tr {R R':D->D->Prop} (h:∀ x y,R x y->R' x y):∀ {xs ys:List D},vQ R xs ys->vQ R' xs ys
 | _,_,.nil=>.nil
 | _,_,.cons r rs=>.cons (h _ _ r) (Tr h rs)
theorem Q1 {L0:List D}:∀ {xs ys:List D},vQ (qf L0) xs ys->vQ (qf L0) (xs.filter fun d=>!xW d) (ys.filter fun d=>!xW d)
 | _,_,.nil=>.nil
 | x::xs,y::ys,.cons r rs=>by
  have a:=Q1 rs
  cases h:xW x with
  | true=>
   rw [List.filter_cons_of_neg (p:=fun d=>!xW d) (a:=y) (by rw [r.2.1,h]; decide),List.filter_cons_of_neg (p:=fun d=>!xW d) (a:=x) (by rw [h]; decide)]
   exact a
  | false=>
   rw [List.filter_cons_of_pos (p:=fun d=>!xW d) (a:=y) (by rw [r.2.1,h]; rfl),List.filter_cons_of_pos (p:=fun d=>!xW d) (a:=x) (by rw [h]; rfl)]
   exact .cons r a
theorem Q2 {L0:List D} (t:Str):∀ {xs ys:List D} (s:Nat×Option Nat),vQ (qf L0) xs ys->ys.foldl (qO t) s=xs.foldl (qO t) s
 | _,_,_,.nil=>rfl
 | x::xs,y::ys,s,.cons r rs=>by
  rw [List.foldl_cons,List.foldl_cons,Q2 t _ rs]
  congr 1
  unfold qO
  rw [r.2.1]
  cases h:xW x with
  | true=>rw [r.2.2.1.1 (Mx h)]
  | false=>rfl
end L3
namespace L3
open PySem
noncomputable def WC:FS:=
 (zk (e2 yI (e2 vB (e2 yI (e2 ze (e2 tF (z6 0) (eC (.int 48271))) (e2 tF (e2 ze (z6 1) (eC (.int 1))) (eC (.int 1299721)))) (eC (.int 2147483647))) (eC (.int 5))) (eC (.int 2147483647))))
noncomputable def wG:List D->Option (Bool×D):=FR 2 2 WC
theorem ML (x0 x1:D):wG [x0,x1]=yQ 2 WC [x0,x1]:=rfl
noncomputable def qr:FS:=
 (zI (zQ 1 (e2 yI (z6 0) (eC (.int 18))))
  (zI (zQ 2 (e2 yI (e2 xK (z6 0) (eC (.int 18))) (eC (.int 8))))
  (zI (zQ 3 (e2 yI (e2 xK (z6 0) (eC (.int 144))) (eC (.int 8))))
  (zI (zQ 4 (e2 xK (z6 0) (eC (.int 1152))))
  (zI (zj (tE (e2 zd (z6 1) (eC (.int 0))))
   (zk (yX (z8 (eC (.str "stop")) zD)))
   yB)
  (zI (zj (tE (e2 (ye fun i j=>decide (i<j)) (z6 1) (eC (.int 3))))
   (zk (yX (z8 (e2 zF (yb (z8 (eC (.str "set")) (z8 (eC (.str "high")) zD))) (e2 xq (z6 1) (eC (.int 1)))) (z8 (z6 2) (z8 (e2 zF (yb (z8 (e2 yI (z6 4) (eC (.int 65536))) (z8 (eC (.int 0)) (z8 (eC (.int 65535)) (z8 (e2 yI (z6 4) (eC (.int 9))) zD))))) (e2 yI (e2 xK (z6 4) (eC (.int 65536))) (eC (.int 4)))) zD)))))
   yB)
  (zI (zj (tE (e2 (ye fun i j=>decide (i<j)) (z6 1) (eC (.int 12))))
   (zk (yX (z8 (e2 zF (yb (z8 (eC (.str "copy")) (z8 (eC (.str "add")) (z8 (eC (.str "addc")) (z8 (eC (.str "sub")) (z8 (eC (.str "subc")) (z8 (eC (.str "and")) (z8 (eC (.str "or")) (z8 (eC (.str "xor")) (z8 (eC (.str "test")) zD)))))))))) (e2 xq (z6 1) (eC (.int 3)))) (z8 (z6 2) (z8 (z6 3) zD)))))
   yB)
  (zI (zj (tE (e2 (ye fun i j=>decide (i<j)) (z6 1) (eC (.int 14))))
   (zk (yX (z8 (e2 zF (yb (z8 (eC (.str "left")) (z8 (eC (.str "right")) zD))) (e2 xq (z6 1) (eC (.int 12)))) (z8 (z6 2) (z8 (e2 zF (yb (z8 (e2 yI (z6 4) (eC (.int 32))) (z8 (eC (.int 0)) (z8 (eC (.int 31)) (z8 (eC (.int 1)) zD))))) (e2 yI (e2 xK (z6 4) (eC (.int 32))) (eC (.int 4)))) zD)))))
   yB)
  (zk (yX (z8 (e2 zF (yb (z8 (eC (.str "load")) (z8 (eC (.str "store")) (z8 (eC (.str "loadw")) (z8 (eC (.str "storew")) zD))))) (e2 xq (z6 1) (eC (.int 14)))) (z8 (z6 2) (z8 (z6 3) (z8 (e2 zF (yb (z8 (e2 yI (z6 4) (eC (.int 256))) (z8 (eC (.int 0)) (z8 (eC (.int 255)) zD)))) (e2 yI (e2 xK (z6 4) (eC (.int 256))) (eC (.int 3)))) zD))))))))))))))
noncomputable def j1:List D->Option (Bool×D):=FR 1 5 qr
theorem gv (x0:D):j1 [x0]=yQ 5 qr [x0]:=rfl
noncomputable def xP (c k:Int):Int:=((c*48271+(k+1)*1299721) % 2147483647) ^ 5 % 2147483647
theorem pM {i j:Int} (h0:0<=j) (h1:j<64) (h2:0<=i) (h3:i<2 ^ 64):xQ i j=true:=by
 unfold xQ
 rw [decide_eq_true h0,decide_eq_true (show j<=1000000 by omega),decide_eq_true (show i.natAbs<2 ^ 64 by omega)]
 rfl
theorem tK (c k:Int):wG [.int c,.int k]=some (false,.int (xP c k)):=by
 have h0:=Int.emod_nonneg (c*48271+(k+1)*1299721) (show (2147483647:Int)≠0 by decide)
 have h1:=Int.emod_lt_of_pos (c*48271+(k+1)*1299721) (show (0:Int)<2147483647 by decide)
 have hp:=pM (i:=(c*48271+(k+1)*1299721) % 2147483647) (j:=5) (by decide) (by decide) h0 (by omega)
 have l1:wE 48271=true/\wE 1299721=true:=⟨by decide,by decide⟩
 rw [ML]
 unfold WC
 simp! [add_int,l1,hp]
 rfl
theorem EF (c:Int):∃ r,j1 [.int c]=some (false,r)/\v6 r:=by
 have d0:0<=c / 18 % 8:=by omega
 have d1:c / 18 % 8<8:=by omega
 have s0:0<=c / 144 % 8:=by omega
 have s1:c / 144 % 8<8:=by omega
 by_cases h0:c % 18=0
 ·refine ⟨_,?_,.stop⟩
  rw [gv]
  unfold qr
  simp! [h0,uq]
 ·by_cases h3:c % 18<3
  ·obtain ⟨n,hn,e⟩:=VW (a:=c / 1152 % 65536) (b:=0) (c:=65535) (d:=c / 1152 % 9) (i:=c / 1152 / 65536 % 4) (by omega) (by omega)
   obtain ⟨w,hw,ew⟩:∃ w:Str,(w = "set" \/ w = "high")/\zF (.lst [.str "set",.str "high"]) (.int (c % 18 - 1))=some (.str w):=by
    rcases (show c % 18=1\/c % 18=2 by omega) with h | h<;>rw [h]
    ·exact ⟨"set",.inl rfl,rfl⟩
    ·exact ⟨"high",.inr rfl,rfl⟩
   refine ⟨_,?_,.imm hw d0 d1 (show 0<=n by omega) (by omega)⟩
   rw [gv]
   unfold qr
   simp! [ve h0,decide_eq_true h3,ew,e]
  ·by_cases h12:c % 18<12
   ·obtain ⟨w,hw,ew⟩:∃ w:Str,(w = "copy" \/ w = "add" \/ w = "addc" \/ w = "sub" \/ w = "subc" \/ w = "and" \/ w = "or" \/ w = "xor" \/ w = "test")/\zF (.lst [.str "copy",.str "add",.str "addc",.str "sub",.str "subc",.str "and",.str "or",.str "xor",.str "test"]) (.int (c % 18 - 3))=some (.str w):=by
     rcases (show c % 18=3\/c % 18=4\/c % 18=5\/c % 18=6\/c % 18=7\/c % 18=8\/c % 18=9\/c % 18=10\/c % 18=11 by omega) with h | h | h | h | h | h | h | h | h<;>rw [h]
     ·exact ⟨"copy",by simp,rfl⟩
     ·exact ⟨"add",by simp,rfl⟩
     ·exact ⟨"addc",by simp,rfl⟩
     ·exact ⟨"sub",by simp,rfl⟩
     ·exact ⟨"subc",by simp,rfl⟩
     ·exact ⟨"and",by simp,rfl⟩
     ·exact ⟨"or",by simp,rfl⟩
     ·exact ⟨"xor",by simp,rfl⟩
     ·exact ⟨"test",by simp,rfl⟩
    refine ⟨_,?_,.two hw d0 d1 s0 s1⟩
    rw [gv]
    unfold qr
    simp! [ve h0,decide_eq_false h3,decide_eq_true h12,ew]
   ·by_cases h14:c % 18<14
    ·obtain ⟨n,hn,e⟩:=VW (a:=c / 1152 % 32) (b:=0) (c:=31) (d:=1) (i:=c / 1152 / 32 % 4) (by omega) (by omega)
     obtain ⟨w,hw,ew⟩:∃ w:Str,(w = "left" \/ w = "right")/\zF (.lst [.str "left",.str "right"]) (.int (c % 18 - 12))=some (.str w):=by
      rcases (show c % 18=12\/c % 18=13 by omega) with h | h<;>rw [h]
      ·exact ⟨"left",.inl rfl,rfl⟩
      ·exact ⟨"right",.inr rfl,rfl⟩
     refine ⟨_,?_,.mov hw d0 d1 (show 0<=n by omega) (by omega)⟩
     rw [gv]
     unfold qr
     simp! [ve h0,decide_eq_false h3,decide_eq_false h12,decide_eq_true h14,ew,e]
    ·obtain ⟨n,hn,e⟩:=CA (a:=c / 1152 % 256) (b:=0) (c:=255) (i:=c / 1152 / 256 % 3) (by omega) (by omega)
     obtain ⟨w,hw,ew⟩:∃ w:Str,(w = "load" \/ w = "store" \/ w = "loadw" \/ w = "storew")/\zF (.lst [.str "load",.str "store",.str "loadw",.str "storew"]) (.int (c % 18 - 14))=some (.str w):=by
      rcases (show c % 18=14\/c % 18=15\/c % 18=16\/c % 18=17 by omega) with h | h | h | h<;>rw [h]
      ·exact ⟨"load",by simp,rfl⟩
      ·exact ⟨"store",by simp,rfl⟩
      ·exact ⟨"loadw",by simp,rfl⟩
      ·exact ⟨"storew",by simp,rfl⟩
     refine ⟨_,?_,.mem hw d0 d1 s0 s1 (show 0<=n by omega) (by omega)⟩
     rw [gv]
     unfold qr
     simp! [ve h0,decide_eq_false h3,decide_eq_false h12,decide_eq_false h14,ew,e]
end L3
namespace L3
open PySem
noncomputable def Vg:FA:=(vE (eC (.int 0)) (e2 yI (e2 xK (z6 1) (eC (.int 3))) (eC (.int 7))))
noncomputable def Yp:FE:=(e2 zF (z6 2) (e2 yI (zX wG (z8 (z6 1) (z8 (z6 6) zD))) (eC (.int 26))))
noncomputable def Jz:FA:=(vE (eC (.int 0)) (e2 xK (z6 0) (eC (.int 26))))
noncomputable def V9:FS:=(zQ 4 (e2 ze (z6 4) (eC (.str "q"))))
noncomputable def gW:FS:=
 (zI (zQ 2 (eC (.str "abcdefghijklmnopqrstuvwxyz")))
  (zI (zQ 3 (e2 vA (eC (.str "")) (w8 1 Vg (yC 6) yk Yp)))
  (zI (zj (tE (e2 zd (e2 yI (z6 1) (eC (.int 3))) (eC (.int 0))))
   (zI (zQ 4 (e2 zF (z6 2) (e2 yI (z6 0) (eC (.int 26)))))
    (zI (wc Jz (yC 5)
     V9)
    (zk (z6 4))))
   yB)
  (zI (zj (tE (e2 zd (e2 yI (z6 1) (eC (.int 3))) (eC (.int 1))))
   (zk (e2 ze (e2 ze (e2 zF (z6 2) (e2 yI (z6 0) (eC (.int 26)))) (e2 zF (z6 2) (e2 xK (z6 0) (eC (.int 26))))) (wn (z6 3) xY (xZ (eC (.int 6))))))
   yB)
  (zk (e2 ze (e2 ze (wn (z6 3) xY (xZ (eC (.int 6)))) (e2 zF (z6 2) (e2 xK (z6 0) (eC (.int 26))))) (e2 zF (z6 2) (e2 yI (z6 0) (eC (.int 26))))))))))
noncomputable def t3:List D->Option (Bool×D):=FR 2 6 gW
theorem Wv (x0 x1:D):t3 [x0,x1]=yQ 6 gW [x0,x1]:=rfl
noncomputable def Jy:FA:=(vE (eC (.int 0)) (eL xh (z8 (z6 0) zD)))
noncomputable def OS:FE:=(z6 1)
noncomputable def Yr:FT:=(tE (e2 yY (e2 zF (e2 zF (z6 0) (z6 1)) (eC (.int 0))) (yX (z8 (eC (.str "jump")) (z8 (eC (.str "when")) (z8 (eC (.str "unless")) zD))))))
noncomputable def WA:FS:=
 (pS (w8 1 Jy (yC 1) Yr OS))
noncomputable def qc:List D->Option (Bool×D):=FR 1 1 WA
theorem MJ (x0:D):qc [x0]=yQ 1 WA [x0]:=rfl
noncomputable def Yo:FE:=(e2 zF (e2 zF (z6 0) (z6 10)) (e1 wC (eC (.int 1))))
noncomputable def Jx:FA:=(vE (eC (.int 0)) (e2 ze (eL xh (z8 (z6 0) zD)) (eC (.int 1))))
noncomputable def Zx:FS:=(zI (zQ 8 (e2 yI (zX wG (z8 (z6 1) (z8 (z6 7) zD))) (eC (.int 12))))
    (zI (zj (uz (tE (e2 yY (z6 7) (z6 3))) (tE (e2 zd (z6 8) (eC (.int 0)))))
     (zI (pR 4 (z6 7) (zX t3 (z8 (z6 6) (z8 (z6 2) zD))))
      (zI (xl 5 xJ (yX (z8 (eC (.str "label")) (z8 (e2 zF (uE 4) (z6 7)) zD))))
      (zQ 6 (e2 (uj fun i j=>i+j) (z6 6) (eC (.int 1))))))
     yB)
    (zI (zj (tE (e2 zd (z6 8) (eC (.int 1))))
     (zI (xl 5 xJ (yX (z8 (eC (.str "label")) (z8 (zX t3 (z8 (z6 6) (z8 (z6 2) zD))) zD))))
      (zQ 6 (e2 (uj fun i j=>i+j) (z6 6) (eC (.int 1)))))
     yB)
    (zj (tE (e2 (ye fun i j=>decide (i<j)) (z6 7) (eL xh (z8 (z6 0) zD))))
     (xl 5 xJ (e2 zF (z6 0) (z6 7)))
     yB))))
noncomputable def pq:FE:=(uh (tE (e2 yY (e2 zF (z6 10) (eC (.int 0))) (z6 9))) (e2 ze (wn (z6 10) xY (xZ (e1 wC (eC (.int 1))))) (yX (z8 (e2 zF (z6 4) (e2 zF (z6 10) (e1 wC (eC (.int 1))))) zD))) (z6 10))
noncomputable def W9:FS:=
 (zI (zQ 2 (e2 yI (e2 xK (z6 1) (eC (.int 4))) (eC (.int 999))))
  (zI (zQ 3 (w8 1 (uo (zX qc (z8 (z6 0) zD))) (yC 10) yk Yo))
  (zI (wz 4 (eC (.dic [] [])))
  (zI (wz 5 (yb zD))
  (zI (zQ 6 (eC (.int 0)))
  (zI (wc Jx (yC 7)
   Zx)
  (zI (qR 5) (zI (qR 4) (zI (zQ 9 (yX (z8 (eC (.str "jump")) (z8 (eC (.str "when")) (z8 (eC (.str "unless")) zD)))))
  (pS (w8 1 (uo (z6 5)) (yC 10) yk pq)))))))))))
noncomputable def gB:List D->Option (Bool×D):=FR 2 10 W9
theorem MI (x0 x1:D):gB [x0,x1]=yQ 10 W9 [x0,x1]:=rfl
theorem Bj:∀ (sh:Int) (n:Nat),(xn n).map (fun d=>match d with | .int j=>D.str (lt (xP sh j % 26)) | d=>d)=((List.range n).map fun j:Nat=>lt (xP sh j % 26)).map D.str:=fun sh n=>by
 rw [List.map_map,List.map_map]
 rfl
theorem Iz (f:Nat->Int):∀ l:List Nat,((l.map fun j=>lt (f j)).map (·.length)).sum=l.length
 | []=>rfl
 | a::l=>by
  rw [List.map_cons,List.map_cons,List.sum_cons,Iz f l,Y8,List.length_cons]
  omega
noncomputable def kx (sh:Int):Str:=Builtin.Str.glued "" ((List.range (sh / 3 % 7).toNat).map fun j:Nat=>lt (xP sh j % 26))
noncomputable def qP (x:Str):Nat->Str
 | 0=>x
 | n+1=>qP x n ++ "q"
noncomputable def vG (sh k:Int):Str:=if sh % 3=0 then qP (lt (k % 26)) (k / 26).toNat else if sh % 3=1 then lt (k % 26)++lt (k / 26)++L2.cutS (kx sh) none (some 6) else L2.cutS (kx sh) none (some 6)++lt (k / 26)++lt (k % 26)
theorem HE {k sh:Int} {x3 x4 x5:Option Sl}:∃ ds xs:List D,(kx sh).length<=7/\Vg [some (false,.int k),some (false,.int sh),some (false,.str "abcdefghijklmnopqrstuvwxyz"),x3,x4,x5]=some ds/\yg (yC 6) yk Yp [some (false,.int k),some (false,.int sh),some (false,.str "abcdefghijklmnopqrstuvwxyz"),x3,x4,x5,none] ds=some xs/\vA (.str "") (.lst xs)=some (.str (kx sh)):=by
 have hr:Vg [some (false,.int k),some (false,.int sh),some (false,.str "abcdefghijklmnopqrstuvwxyz"),x3,x4,x5]=some (xn (sh / 3 % 7).toNat):=
  pO (n:=sh / 3 % 7) rfl (by omega)
 have hl:=Y4 (g:=yC 6) (e:=Yp) (σ:=[some (false,.int k),some (false,.int sh),some (false,.str "abcdefghijklmnopqrstuvwxyz"),x3,x4,x5]++List.replicate 1 none) (fun d=>match d with | .int j=>D.str (lt (xP sh j % 26)) | d=>d) (ds:=xn (sh / 3 % 7).toNat) fun d hd=>by
  obtain ⟨i,hi,rfl⟩:=OF hd
  have hm:=tK sh (i:Int)
  have hx:=X_ (k:=xP sh i % 26) (by omega) (by omega)
  refine ⟨_,rfl,?_⟩
  unfold Yp
  simp! [hm,hx]
 rw [Bj] at hl
 have hs:=Iz (fun j:Nat=>xP sh j % 26) (List.range (sh / 3 % 7).toNat)
 rw [List.length_range] at hs
 have hg:=L2.glued_len "" ((List.range (sh / 3 % 7).toNat).map fun j:Nat=>lt (xP sh j % 26))
 have e0:("" : Str).length=0:=rfl
 rw [hs,e0,Nat.mul_zero,Nat.add_zero] at hg
 have hj:=B7 (sep := "") (ts:=(List.range (sh / 3 % 7).toNat).map fun j:Nat=>lt (xP sh j % 26)) (by rw [hs,e0]; omega)
 exact ⟨_,_,Nat.le_trans hg (by omega),hr,hl,hj⟩
theorem Ji (x:Str):∀ n,(qP x n).length=x.length+n
 | 0=>rfl
 | n+1=>by
  show (qP x n ++ "q").length=_
  rw [yz,Ji x n]
  rfl
theorem J3 {k sh:Int} (k0:0<=k) (k1:k<676) (s0:0<=sh):t3 [.int k,.int sh]=some (false,.str (vG sh k)):=by
 obtain ⟨ds,xs,ht,er,ex,ej⟩:=HE (k:=k) (sh:=sh) (x3:=none) (x4:=none) (x5:=none)
 unfold vG
 generalize kx sh=t at ht ej ⊢
 have a1:=X_ (k:=k % 26) (by omega) (by omega)
 have a2:=X_ (k:=k / 26) (by omega) (by omega)
 have c6:=cut_len t none (some 6)
 have l1:=Y8 (k % 26)
 have l2:=Y8 (k / 26)
 have h2:∀ x y:Str,(x++y).length=x.length+y.length:=yz
 have sl:wn (z6 3) xY (xZ (eC (.int 6))) [some (false,.int k),some (false,.int sh),some (false,.str "abcdefghijklmnopqrstuvwxyz"),some (false,.str t),none,none]=some (.str (L2.cutS t none (some 6))):=rfl
 rcases (show sh % 3=0\/sh % 3=1\/sh % 3=2 by omega) with h | h | h
 ·have hr:Jz [some (false,.int k),some (false,.int sh),some (false,.str "abcdefghijklmnopqrstuvwxyz"),some (false,.str t),some (false,.str (lt (k % 26))),none]=some (xn (k / 26).toNat):=pO (n:=k / 26) rfl (by omega)
  obtain ⟨σ',e2,x,rfl⟩:=uK (g:=yC 5) (b:=V9) (fun i σ=>∃ x,σ=[some (false,.int k),some (false,.int sh),some (false,.str "abcdefghijklmnopqrstuvwxyz"),some (false,.str t),some (false,.str (qP (lt (k % 26)) i)),x]) (ds:=xn (k / 26).toNat)
   (σ:=[some (false,.int k),some (false,.int sh),some (false,.str "abcdefghijklmnopqrstuvwxyz"),some (false,.str t),some (false,.str (lt (k % 26))),none]) 0 ⟨_,rfl⟩ (by
   rintro i v σ hv ⟨x,rfl⟩
   obtain ⟨hi,rfl⟩:=pp hv
   rw [Nat.zero_add]
   have lq:("q" : Str).length=1:=rfl
   have ha:=add_str (a:=qP (lt (k % 26)) i) (b := "q") (by rw [lq,Ji,Y8]; omega)
   exact ⟨_,_,rfl,.inl (by unfold V9; simp! [ha]; rfl),_,rfl⟩)
  rw [jx,Nat.zero_add] at e2
  rw [if_pos h,Wv]
  unfold gW
  simp! [er,ex,ej,h,uq,a1,hr,e2]
 ·rw [if_neg (by omega),if_pos h]
  have h1:=add_str (a:=lt (k % 26)) (b:=lt (k / 26)) (by omega)
  have h3:=add_str (a:=lt (k % 26)++lt (k / 26)) (b:=L2.cutS t none (some 6)) (by rw [h2]; omega)
  have z:zd (.int 1) (.int 0)=some (.bl false):=rfl
  rw [Wv]
  unfold gW
  simp! [er,ex,ej,h,z,uq,a1,a2,h1,sl,h3]
 ·rw [if_neg (by omega),if_neg (by omega)]
  have h1:=add_str (a:=L2.cutS t none (some 6)) (b:=lt (k / 26)) (by omega)
  have h3:=add_str (a:=L2.cutS t none (some 6)++lt (k / 26)) (b:=lt (k % 26)) (by rw [h2]; omega)
  have z:zd (.int 2) (.int 0)=some (.bl false):=rfl
  have z1:zd (.int 2) (.int 1)=some (.bl false):=rfl
  rw [Wv]
  unfold gW
  simp! [er,ex,ej,h,z,z1,a1,a2,h1,sl,h3]
theorem WY (a b:Str):(a++b).cps.toList=a.cps.toList++b.cps.toList:=Array.toList_append
theorem Jh (x:Str):∀ n,(qP x n).cps.toList=x.cps.toList++List.replicate n 113
 | 0=>by rw [List.replicate_zero,List.append_nil]; rfl
 | n+1=>by
  show (qP x n ++ "q").cps.toList=_
  rw [WY,Jh x n,List.append_assoc,List.replicate_succ']
  rfl
theorem J4 {sh k k':Int} (a0:0<=k) (b0:0<=k') (h:vG sh k=vG sh k'):k=k':=by
 unfold vG at h
 have lc:∀ x:Int,(lt x).cps.toList=[97+x.toNat]:=fun _=>rfl
 have h1:=congrArg (fun z:Str=>z.cps.toList) h
 by_cases c:sh % 3=0
 ·simp only [if_pos c,Jh,lc,List.cons_append,List.nil_append,List.cons.injEq] at h1
  have h2:=congrArg List.length h1.2
  rw [List.length_replicate,List.length_replicate] at h2
  omega
 ·by_cases c1:sh % 3=1
  ·simp only [if_neg c,if_pos c1,WY,lc,List.cons_append,List.nil_append,List.cons.injEq] at h1
   omega
  ·simp only [if_neg c,if_neg c1,WY,lc,List.append_assoc,List.append_cancel_left_eq,List.cons_append,List.nil_append,List.cons.injEq] at h1
   omega
theorem V5 {m:Int} {rows:List D} (hr:∀ r∈rows,xz m r) (hl:rows.length<=1000):qc [.lst rows]=some (true,.lst ((xX rows).map fun i:Nat=>D.int i)):=by
 have h1:Jy [some (false,.lst rows)]=some (xn rows.length):=pO (n:=(rows.length:Int)) rfl (by omega)
 have h2:=Y3 (g:=yC 1) (c:=Yr) (e:=OS) (σ:=[some (false,.lst rows),none]) (fun d=>match d with | .int i=>yf (rows.getD i.toNat .non) | _=>false) id (ds:=xn rows.length) fun d hd=>by
  obtain ⟨i,hi,rfl⟩:=OF hd
  have ex:zF (.lst rows) (.int (i:Int))=some rows[i]:=uD (by omega) (by rw [Int.toNat_natCast]; exact List.getElem?_eq_getElem hi)
  have eg:rows.getD ((i:Int)).toNat .non=rows[i]:=by rw [Int.toNat_natCast,List.getD_eq_getElem?_getD,List.getElem?_eq_getElem hi]; rfl
  have ej:∃ w,zF rows[i] (.int 0)=some (.str w)/\yY (.str w) (.tup [.str "jump",.str "when",.str "unless"])=some (.bl (yf rows[i])):=by
   rcases hr _ (List.getElem_mem hi) with h | h
   ·obtain ⟨w,a,b,_,c,_⟩:=tQ h
    exact ⟨w,a,by rw [c]; exact b⟩
   ·obtain ⟨w,p,a,b,_,c,_⟩:=uH h
    exact ⟨w,a,by rw [c]; exact b⟩
  obtain ⟨w,ew,ein⟩:=ej
  refine ⟨_,rfl,?_,fun _=>?_⟩
  ·show Yr [some (false,.lst rows),some (false,.int (i:Int))]=some (yf (rows.getD ((i:Int)).toNat .non))
   rw [eg]
   unfold Yr
   simp! [ex,ew,ein]
  ·rfl
 have h3:List.map id ((xn rows.length).filter fun d=>match d with | .int i=>yf (rows.getD i.toNat .non) | _=>false)=(xX rows).map fun i:Nat=>D.int i:=by
  rw [List.map_id,List.filter_map]
  rfl
 rw [h3] at h2
 rw [MJ]
 unfold WA
 simp! [h1,h2]
noncomputable def xI (rows:List D):List D:=(xX rows).map fun i=>uu (rows.getD i .non)
noncomputable def pB (rows:List D) (q:Int):Bool:=(xI rows).any fun y=>yW y (.int q)
theorem CI {m:Int} {rows:List D} (hr:∀ r∈rows,xz m r) {y:D} (h:y∈xI rows):∃ p:Int,y=.int p/\0<=p/\p<=m:=by
 obtain ⟨i,hi,rfl⟩:=List.mem_map.mp h
 obtain ⟨hl,hj⟩:=k5 hi
 have eg:rows.getD i .non=rows[i]:=by rw [List.getD_eq_getElem?_getD,List.getElem?_eq_getElem hl]; rfl
 rw [eg] at hj ⊢
 rcases hr _ (List.getElem_mem hl) with h | h
 ·obtain ⟨_,_,_,_,c,_⟩:=tQ h
  rw [c] at hj
  cases hj
 ·obtain ⟨w,p,_,_,_,_,_,_,e,p0,p1⟩:=uH h
  exact ⟨p,e,p0,p1⟩
theorem Mp {m:Int} {rows:List D} (hr:∀ r∈rows,xz m r) (q:Int):yY (.int q) (.lst (xI rows))=some (.bl (pB rows q)):=by
 have ha:(xI rows).all yL=true:=List.all_eq_true.mpr fun y hy=>by
  obtain ⟨p,rfl,_⟩:=CI hr hy
  rfl
 show (tD (.int q) (.lst (xI rows))).bind _=_
 have:tD (.int q) (.lst (xI rows))=some (pB rows q):=by
  show (match yL (.int q)&&(xI rows).all yL with | true=>_ | false=>_)=_
  rw [ha]
  rfl
 rw [this]
 rfl
theorem Mo {rows:List D} {i:Nat} {p:Int} (hl:i<rows.length) (hj:yf rows[i]=true) (he:uu rows[i]=.int p):pB rows p=true:=by
 refine List.any_eq_true.mpr ⟨.int p,List.mem_map.mpr ⟨i,List.mem_filter.mpr ⟨List.mem_range.mpr hl,?_⟩,?_⟩,?_⟩
 ·rw [List.getD_eq_getElem?_getD,List.getElem?_eq_getElem hl]; exact hj
 ·rw [List.getD_eq_getElem?_getD,List.getElem?_eq_getElem hl]; exact he
 ·unfold yW; exact beq_self_eq_true p
structure Inv (rows:List D) (sh:Int) (i:Nat) (ks:List (Sum Int Str)) (vs L:List D) (c:Int):Prop where
 hk:ks.length=vs.length
 k1:ks.length<=i
 l1:L.length<=3*i
 c0:0<=c
 c1:c<=2*i
 nm:∀ q:Int,0<=q->q<i->pB rows q=true->∃ k:Int,0<=k/\k<c/\getK ks vs (.inl q)=some (.str (vG sh k))/\(xw (vG sh k) L).2=some q.toNat
 fl:L.filter (fun d=>!xW d)=rows.take i
 el:∀ d∈L,(∃ t,d=vF t)\/d∈rows
theorem B0 {m:Int} {rows:List D} (hr:∀ r∈rows,xz m r) (hl:rows.length<=100) {cell sh:Int} (s0:0<=sh) {i:Nat} (hi:i<=rows.length) {ks:List (Sum Int Str)} {vs L:List D} {c:Int} (I:Inv rows sh i ks vs L c) {x8 x9:Option Sl} :
  ∃ ks' vs' L' c' y8,Inv rows sh (i+1) ks' vs' L' c'/\Zx [some (false,.lst rows),some (false,.int cell),some (false,.int sh),some (false,.lst (xI rows)),some (true,.dic ks vs),some (true,.lst L),some (false,.int c),some (false,.int (i:Int)),x8,x9] =
   some (.nx [some (false,.lst rows),some (false,.int cell),some (false,.int sh),some (false,.lst (xI rows)),some (true,.dic ks' vs'),some (true,.lst L'),some (false,.int c'),some (false,.int (i:Int)),y8,x9]):=by
 obtain ⟨hk,k1,l1,c0,c1,nm,fl,el⟩:=I
 have hm:=tK cell (i:Int)
 generalize xP cell (i:Int)=mx at hm
 have hin:=Mp hr (i:Int)
 have A:∃ (ks':List (Sum Int Str)) (vs' L':List D) (c':Int),(ks'.length=vs'.length/\ks'.length<=i+1/\L'.length<=3*i+1/\0<=c'/\c'<=2*i+1)/\(∀ q:Int,0<=q->q<(i+1:Nat)->pB rows q=true->∃ k:Int,0<=k/\k<c'/\getK ks' vs' (.inl q)=some (.str (vG sh k))/\(xw (vG sh k) L').2=some q.toNat)/\L'.filter (fun d=>!xW d)=rows.take i/\(∀ d∈L',(∃ t,d=vF t)\/d∈rows)/\
   zj (uz (tE (e2 yY (z6 7) (z6 3))) (tE (e2 zd (z6 8) (eC (.int 0)))))
     (zI (pR 4 (z6 7) (zX t3 (z8 (z6 6) (z8 (z6 2) zD))))
      (zI (xl 5 xJ (yX (z8 (eC (.str "label")) (z8 (e2 zF (uE 4) (z6 7)) zD))))
      (zQ 6 (e2 (uj fun i j=>i+j) (z6 6) (eC (.int 1))))))
     yB [some (false,.lst rows),some (false,.int cell),some (false,.int sh),some (false,.lst (xI rows)),some (true,.dic ks vs),some (true,.lst L),some (false,.int c),some (false,.int (i:Int)),some (false,.int (mx % 12)),x9] =
   some (.nx [some (false,.lst rows),some (false,.int cell),some (false,.int sh),some (false,.lst (xI rows)),some (true,.dic ks' vs'),some (true,.lst L'),some (false,.int c'),some (false,.int (i:Int)),some (false,.int (mx % 12)),x9]):=by
  obtain ⟨k0,e0⟩:∃ k,zd (.int (mx % 12)) (.int 0)=some (.bl k):=⟨_,rfl⟩
  by_cases h:pB rows (i:Int)=false/\k0=false
  ·refine ⟨ks,vs,L,c,⟨hk,by omega,by omega,c0,by omega⟩,?_,fl,el,?_⟩
   ·intro q q0 q1 hq
    by_cases e:q=(i:Int)
    ·subst e; rw [h.1] at hq; cases hq
    ·exact nm q q0 (by omega) hq
   ·rw [h.1] at hin
    rw [h.2] at e0
    simp! [hin,e0]
  ·have et:=J3 (k:=c) (sh:=sh) c0 (by omega) s0
   obtain ⟨t,ht⟩:∃ t,t=vG sh c:=⟨_,rfl⟩
   rw [<- ht] at et
   have hc:uz (tE (e2 yY (z6 7) (z6 3))) (tE (e2 zd (z6 8) (eC (.int 0)))) [some (false,.lst rows),some (false,.int cell),some (false,.int sh),some (false,.lst (xI rows)),some (true,.dic ks vs),some (true,.lst L),some (false,.int c),some (false,.int (i:Int)),some (false,.int (mx % 12)),x9]=some true:=by
    cases hb:pB rows (i:Int) with
    | true=>rw [hb] at hin; simp! [hin]
    | false=>
     have:k0=true:=by cases k0 with | true=>rfl | false=>exact absurd ⟨hb,rfl⟩ h
     rw [hb] at hin
     rw [this] at e0
     simp! [hin,e0]
   have gp:=M9 (k:=.inl (i:Int)) (v:=D.str t) hk
   have g0:zF (.dic (vJ ks (.inl (i:Int))) (wO ks vs (.inl (i:Int)) (.str t))) (.int (i:Int))=some (.str t):=by
    show getK _ _ _=_
    rw [gp,if_pos rfl]
   have hlk:(vJ ks (.inl (i:Int))).length<=i+1:=by
    unfold vJ
    split
    ·omega
    ·rw [List.length_append]; show _+1<=_; omega
   have hap:=v8 (L:=L) (r:=vF t) (by omega)
   refine ⟨vJ ks (.inl (i:Int)),wO ks vs (.inl (i:Int)) (.str t),L++[vF t],c+1,⟨Jd hk,hlk,by rw [List.length_append]; show _+1<=_; omega,by omega,by omega⟩,?_,?_,?_,?_⟩
   ·intro q q0 q1 hq
    rw [gp]
    by_cases e:(i:Int)=q
    ·subst e
     refine ⟨c,c0,by omega,by rw [if_pos rfl,ht],?_⟩
     rw [VY,if_pos ht,fl,List.length_take,Int.toNat_natCast,Nat.min_eq_left hi]
    ·rw [if_neg (fun h=>e (Sum.inl.inj h))]
     obtain ⟨k,k0,k1,k2,k3⟩:=nm q q0 (by omega) hq
     refine ⟨k,k0,by omega,k2,?_⟩
     rw [VY,if_neg,k3]
     intro z
     have:=J4 c0 k0 (ht.symm.trans z)
     omega
   ·rw [List.filter_append,fl]
    show rows.take i++[]=_
    rw [List.append_nil]
   ·intro d hd
    rcases List.mem_append.mp hd with hd | hd
    ·exact el d hd
    ·cases List.mem_singleton.mp hd; exact .inl ⟨t,rfl⟩
   ·rw [Mn hc]
    have kd:jS (.int (i:Int))=some (.inl (i:Int)):=rfl
    have hlim:ks.length<yA:=by show _<16777216; omega
    have sp:pR 4 (z6 7) (zX t3 (z8 (z6 6) (z8 (z6 2) zD))) [some (false,.lst rows),some (false,.int cell),some (false,.int sh),some (false,.lst (xI rows)),some (true,.dic ks vs),some (true,.lst L),some (false,.int c),some (false,.int (i:Int)),some (false,.int (mx % 12)),x9] =
      some (.nx [some (false,.lst rows),some (false,.int cell),some (false,.int sh),some (false,.lst (xI rows)),some (true,.dic (vJ ks (.inl (i:Int))) (wO ks vs (.inl (i:Int)) (.str t))),some (true,.lst L),some (false,.int c),some (false,.int (i:Int)),some (false,.int (mx % 12)),x9]):=by
     simp! [pR,et,kd,if_pos hlim]
    rw [qU sp]
    unfold vF at hap ⊢
    simp! [g0,hap]
 obtain ⟨ks',vs',L',c',⟨a1,a2,a3,a4,a5⟩,anm,afl,ael,ae⟩:=A
 have B:∃ (L2:List D) (c2:Int),(L2.length<=3*i+2/\0<=c2/\c2<=2*i+2/\c'<=c2/\∀ k:Int,0<=k->k<c'->(xw (vG sh k) L2).2=(xw (vG sh k) L').2)/\L2.filter (fun d=>!xW d)=rows.take i/\(∀ d∈L2,(∃ t,d=vF t)\/d∈rows)/\
   zj (tE (e2 zd (z6 8) (eC (.int 1))))
     (zI (xl 5 xJ (yX (z8 (eC (.str "label")) (z8 (zX t3 (z8 (z6 6) (z8 (z6 2) zD))) zD))))
      (zQ 6 (e2 (uj fun i j=>i+j) (z6 6) (eC (.int 1)))))
     yB [some (false,.lst rows),some (false,.int cell),some (false,.int sh),some (false,.lst (xI rows)),some (true,.dic ks' vs'),some (true,.lst L'),some (false,.int c'),some (false,.int (i:Int)),some (false,.int (mx % 12)),x9] =
   some (.nx [some (false,.lst rows),some (false,.int cell),some (false,.int sh),some (false,.lst (xI rows)),some (true,.dic ks' vs'),some (true,.lst L2),some (false,.int c2),some (false,.int (i:Int)),some (false,.int (mx % 12)),x9]):=by
  obtain ⟨k0,e0⟩:∃ k,zd (.int (mx % 12)) (.int 1)=some (.bl k):=⟨_,rfl⟩
  cases k0 with
  | false=>exact ⟨L',c',⟨by omega,a4,by omega,by omega,fun _ _ _=>rfl⟩,afl,ael,by simp! [e0]⟩
  | true=>
   have et:=J3 (k:=c') (sh:=sh) a4 (by omega) s0
   obtain ⟨t,ht⟩:∃ t,t=vG sh c':=⟨_,rfl⟩
   rw [<- ht] at et
   have hap:=v8 (L:=L') (r:=vF t) (by omega)
   refine ⟨L'++[vF t],c'+1,⟨by rw [List.length_append]; show _+1<=_; omega,by omega,by omega,by omega,fun k k0 k1=>?_⟩,?_,?_,?_⟩
   ·rw [VY,if_neg]
    intro z
    have:=J4 a4 k0 (ht.symm.trans z)
    omega
   ·rw [List.filter_append,afl]
    show rows.take i++[]=_
    rw [List.append_nil]
   ·intro d hd
    rcases List.mem_append.mp hd with hd | hd
    ·exact ael d hd
    ·cases List.mem_singleton.mp hd; exact .inl ⟨t,rfl⟩
   ·unfold vF at hap ⊢
    simp! [e0,et,hap]
 obtain ⟨L2,c2,⟨b1,b2,b3,b4,b5⟩,bfl,bel,be⟩:=B
 have C:∃ L3:List D,L3.length<=3*(i+1)/\(∀ t,(xw t L3).2=(xw t L2).2)/\L3.filter (fun d=>!xW d)=rows.take (i+1)/\(∀ d∈L3,(∃ t,d=vF t)\/d∈rows)/\
   zj (tE (e2 (ye fun i j=>decide (i<j)) (z6 7) (eL xh (z8 (z6 0) zD))))
     (xl 5 xJ (e2 zF (z6 0) (z6 7)))
     yB [some (false,.lst rows),some (false,.int cell),some (false,.int sh),some (false,.lst (xI rows)),some (true,.dic ks' vs'),some (true,.lst L2),some (false,.int c2),some (false,.int (i:Int)),some (false,.int (mx % 12)),x9] =
   some (.nx [some (false,.lst rows),some (false,.int cell),some (false,.int sh),some (false,.lst (xI rows)),some (true,.dic ks' vs'),some (true,.lst L3),some (false,.int c2),some (false,.int (i:Int)),some (false,.int (mx % 12)),x9]):=by
  by_cases h:i<rows.length
  ·have hap:=v8 (L:=L2) (r:=rows[i]) (by omega)
   have ex:zF (.lst rows) (.int (i:Int))=some rows[i]:=uD (by omega) (by rw [Int.toNat_natCast]; exact List.getElem?_eq_getElem h)
   have hd:decide ((i:Int)<(rows.length:Int))=true:=decide_eq_true (by omega)
   refine ⟨L2++[rows[i]],by rw [List.length_append]; show _+1<=_; omega,?_,?_,?_,?_⟩
   ·intro t
    obtain ⟨_,_,_,z,_⟩:=IK (hr _ (List.getElem_mem h))
    exact CL z
   ·obtain ⟨_,_,_,z,_⟩:=IK (hr _ (List.getElem_mem h))
    rw [List.filter_append,bfl,List.filter_cons_of_pos (by rw [z]; rfl),List.filter_nil,List.take_succ_eq_append_getElem h]
   ·intro d hd
    rcases List.mem_append.mp hd with hd | hd
    ·exact bel d hd
    ·cases List.mem_singleton.mp hd; exact .inr (List.getElem_mem h)
   ·simp! [hd,ex,hap]
  ·have hd:decide ((i:Int)<(rows.length:Int))=false:=decide_eq_false (by omega)
   refine ⟨L2,by omega,fun _=>rfl,?_,bel,by simp! [hd]⟩
   rw [bfl,List.take_of_length_le (by omega),List.take_of_length_le (by omega)]
 obtain ⟨L3,d1,dpl,dfl,del,de⟩:=C
 refine ⟨ks',vs',L3,c2,some (false,.int (mx % 12)),⟨a1,a2,by omega,b2,by omega,fun q q0 q1 hq=>?_,dfl,del⟩,?_⟩
 ·obtain ⟨k,k0,k1,k2,k3⟩:=anm q q0 q1 hq
  exact ⟨k,k0,by omega,k2,by rw [dpl,b5 k k0 k1,k3]⟩
 unfold Zx
 refine Eq.trans (qU (σ':=[some (false,.lst rows),some (false,.int cell),some (false,.int sh),some (false,.lst (xI rows)),some (true,.dic ks vs),some (true,.lst L),some (false,.int c),some (false,.int (i:Int)),some (false,.int (mx % 12)),x9]) (by simp! [hm])) ?_
 rw [qU ae,qU be]
 exact de
theorem Mz {rows:List D} (hr:∀ r∈rows,xz (rows.length:Int) r) (hl:rows.length<=100) {cell:Int}:∃ items:List D,gB [.lst rows,.int cell]=some (true,.lst items)/\(∀ d∈items,qg d)/\vQ (qf items) rows (items.filter fun d=>!xW d)/\items.length<=1000:=by
 have hj:=V5 hr (by omega)
 have q9:yg (yC 10) yk Yo [some (false,.lst rows),some (false,.int cell),some (false,.int (cell / 4 % 999)),none,none,none,none,none,none,none,none] ((xX rows).map fun i:Nat=>D.int i)=some (xI rows):=by
  have:=Y4 (g:=yC 10) (e:=Yo) (σ:=[some (false,.lst rows),some (false,.int cell),some (false,.int (cell / 4 % 999)),none,none,none,none,none,none,none,none]) (fun d=>match d with | .int i=>uu (rows.getD i.toNat .non) | d=>d) (ds:=(xX rows).map fun i:Nat=>D.int i) fun d hd=>by
   obtain ⟨i,hi,rfl⟩:=List.mem_map.mp hd
   obtain ⟨h1,h2⟩:=k5 hi
   have eg:rows.getD i .non=rows[i]:=by rw [List.getD_eq_getElem?_getD,List.getElem?_eq_getElem h1]; rfl
   have ex:zF (.lst rows) (.int (i:Int))=some rows[i]:=uD (by omega) (by rw [Int.toNat_natCast]; exact List.getElem?_eq_getElem h1)
   rw [eg] at h2
   refine ⟨_,rfl,?_⟩
   show _=some (uu (rows.getD ((i:Int)).toNat .non))
   rw [Int.toNat_natCast,eg]
   rcases hr _ (List.getElem_mem h1) with h | h
   ·obtain ⟨_,_,_,_,c,_⟩:=tQ h
    rw [c] at h2
    cases h2
   ·obtain ⟨w,p,_,_,_,_,_,q1,q2,_⟩:=uH h
    rw [q2]
    unfold Yo
    simp! [ex,q1]
  rw [this,List.map_map]
  rfl
 have e2:Jx [some (false,.lst rows),some (false,.int cell),some (false,.int (cell / 4 % 999)),some (false,.lst (xI rows)),some (true,.dic [] []),some (true,.lst []),some (false,.int 0),none,none,none]=some (xn (rows.length+1)):=by
  have:=pO (f:=e2 ze (eL xh (z8 (z6 0) zD)) (eC (.int 1))) (τ:=[some (false,.lst rows),some (false,.int cell),some (false,.int (cell / 4 % 999)),some (false,.lst (xI rows)),some (true,.dic [] []),some (true,.lst []),some (false,.int 0),none,none,none]) (n:=(rows.length:Int)+1) rfl (by omega)
  rw [show ((rows.length:Int)+1).toNat=rows.length+1 by omega] at this
  exact this
 obtain ⟨σ',e3,ks,vs,L,c,x7,x8,I,rfl⟩:=uK (g:=yC 7) (b:=Zx) (fun i σ=>∃ ks vs L c x7 x8,Inv rows (cell / 4 % 999) i ks vs L c/\σ=[some (false,.lst rows),some (false,.int cell),some (false,.int (cell / 4 % 999)),some (false,.lst (xI rows)),some (true,.dic ks vs),some (true,.lst L),some (false,.int c),x7,x8,none]) (ds:=xn (rows.length+1))
  (σ:=[some (false,.lst rows),some (false,.int cell),some (false,.int (cell / 4 % 999)),some (false,.lst (xI rows)),some (true,.dic [] []),some (true,.lst []),some (false,.int 0),none,none,none]) 0
  ⟨[],[],[],0,none,none,⟨rfl,Nat.le_refl _,Nat.le_refl _,by decide,by decide,(fun q q0 q1=>by omega),rfl,(fun _ h=>by cases h)⟩,rfl⟩ (by
  rintro i v σ hv ⟨ks,vs,L,c,x7,x8,I,rfl⟩
  obtain ⟨hi,rfl⟩:=pp hv
  rw [Nat.zero_add] at I ⊢
  obtain ⟨ks',vs',L',c',y8,I',e⟩:=B0 (cell:=cell) (sh:=cell / 4 % 999) hr hl (by omega) (by omega) I (x8:=x8) (x9:=none)
  exact ⟨_,_,rfl,.inl e,ks',vs',L',c',_,y8,I',rfl⟩)
 rw [jx,Nat.zero_add] at I
 obtain ⟨hk,k1,l1,c0,c1,nm,fl,el⟩:=I
 obtain ⟨items,e4,ea⟩:=Qp (g:=yC 10) (e:=pq) (σ:=[some (false,.lst rows),some (false,.int cell),some (false,.int (cell / 4 % 999)),some (false,.lst (xI rows)),some (false,.dic ks vs),some (false,.lst L),some (false,.int c),x7,x8,some (false,.tup [.str "jump",.str "when",.str "unless"]),none]) (qf L) (ds:=L) fun d hd=>by
  have pr:∀ d,v6 d->∃ σ1 x,yC 10 d [some (false,.lst rows),some (false,.int cell),some (false,.int (cell / 4 % 999)),some (false,.lst (xI rows)),some (false,.dic ks vs),some (false,.lst L),some (false,.int c),x7,x8,some (false,.tup [.str "jump",.str "when",.str "unless"]),none]=some σ1/\pq σ1=some x/\qf L d x:=fun d h=>by
   obtain ⟨w,a,b,_,jf,_⟩:=tQ h
   unfold Zu at b
   refine ⟨_,d,rfl,?_,.plain h,rfl,⟨fun _=>rfl,fun z=>by rw [jf] at z; cases z⟩,rfl,fun z=>by rw [jf] at z; cases z⟩
   unfold pq
   simp! [a,b]
  rcases el d hd with ⟨t,rfl⟩ | hd
  ·have a:zF (vF t) (.int 0)=some (.str "label"):=rfl
   have b:yY (.str "label") (.tup [.str "jump",.str "when",.str "unless"])=some (.bl false):=rfl
   refine ⟨_,vF t,rfl,?_,.label t,rfl,⟨fun _=>rfl,fun z=>by cases z⟩,rfl,fun z=>by cases z⟩
   unfold pq
   simp! [a,b]
  ·obtain ⟨i,hi,rfl⟩:=List.getElem_of_mem hd
   rcases hr _ (List.getElem_mem hi) with h | h
   ·exact pr _ h
   ·obtain ⟨w,p,a,b,_,j,_,q1,q2,p0,p1⟩:=uH h
    obtain ⟨kn,kn0,kn1,et,ep⟩:=nm p p0 (by omega) (Mo hi j q2)
    generalize vG (cell / 4 % 999) kn=t at et ep
    have eg:zF (.dic ks vs) (.int p)=some (.str t):=et
    have hp:uu rows[i]=.int ((p.toNat:Nat):Int):=by rw [q2,show ((p.toNat:Nat):Int)=p by omega]
    unfold Zu at b
    generalize rows[i]=r at h a j q1 q2 hp
    cases h with
    | jump p0 p1=>
     rename_i p'
     cases a
     have sl:wn (z6 10) xY (xZ (e1 wC (eC (.int 1)))) [some (false,.lst rows),some (false,.int cell),some (false,.int (cell / 4 % 999)),some (false,.lst (xI rows)),some (false,.dic ks vs),some (false,.lst L),some (false,.int c),x7,x8,some (false,.tup [.str "jump",.str "when",.str "unless"]),some (false,.tup [.str "jump",.int p'])]=some (.tup [.str "jump"]):=rfl
     have ad:ze (.tup [.str "jump"]) (.tup [.str t])=some (.tup [.str "jump",.str t]):=rfl
     refine ⟨_,_,rfl,?_,.jump t,rfl,⟨(fun z=>by cases z),fun _=>⟨[.str "jump"],_,t,rfl,rfl⟩⟩,rfl,fun _=>⟨t,p.toNat,rfl,ep,hp⟩⟩
     unfold pq
     simp! [yx,b,sl,q1,eg,ad]
    | cond hw hk p0 p1=>
     rename_i w' k' p'
     cases a
     have sl:wn (z6 10) xY (xZ (e1 wC (eC (.int 1)))) [some (false,.lst rows),some (false,.int cell),some (false,.int (cell / 4 % 999)),some (false,.lst (xI rows)),some (false,.dic ks vs),some (false,.lst L),some (false,.int c),x7,x8,some (false,.tup [.str "jump",.str "when",.str "unless"]),some (false,.tup [.str w,.str k',.int p'])]=some (.tup [.str w,.str k']):=rfl
     have ad:ze (.tup [.str w,.str k']) (.tup [.str t])=some (.tup [.str w,.str k',.str t]):=rfl
     refine ⟨_,.tup [.str w,.str k',.str t],rfl,?_,.cond t hw hk,?_,⟨fun z=>?_,fun _=>⟨[.str w,.str k'],_,t,rfl,rfl⟩⟩,?_,fun _=>⟨t,p.toNat,rfl,ep,hp⟩⟩
     ·unfold pq
      simp! [yx,b,sl,q1,eg,ad]
     ·rcases hw with rfl | rfl<;>rfl
     ·rcases hw with rfl | rfl<;>cases z
     ·rcases hw with rfl | rfl<;>rfl
 have f1:=Q1 ea
 have f3:=Ts ea
 have f4:∀ t,xw t items=xw t L:=fun t=>Q2 t _ ea
 rw [fl,List.take_of_length_le (by omega)] at f1
 refine ⟨items,?_,fun d hd=>?_,Tr (fun x y h=>⟨h.1,h.2.1,h.2.2.1,h.2.2.2.1,fun z=>?_⟩) f1,by omega⟩
 rotate_left
 ·obtain ⟨x,_,h⟩:=Tt ea d hd
  exact h.1
 ·obtain ⟨t,p,a,b,c⟩:=h.2.2.2.2 z
  exact ⟨t,p,a,by rw [f4]; exact b,c⟩
 rw [MI]
 unfold W9
 simp! [hj,q9,e2,e3,e4]
end L3
namespace L3
open PySem
noncomputable def qE:FS:=
 (zI (zQ 3 (e2 yI (z6 2) (eC (.int 8))))
  (zI (zQ 4 (e2 ze (z6 0) (e2 zF (yb (z8 (eC (.int 14)) (z8 (eC (.int 15)) (z8 (eC (.int 16)) (z8 (eC (.int 13)) (z8 (e1 wC (eC (.int 15))) (z8 (e1 wC (eC (.int 16))) (z8 (e1 wC (eC (.int 17))) (z8 (e1 wC (eC (.int 14))) zD))))))))) (e2 yI (e2 xK (z6 2) (eC (.int 8))) (eC (.int 8))))))
  (zI (zj (ju (tE (e2 (ye fun i j=>decide (i<j)) (z6 3) (eC (.int 4)))) (tE (vw (ye fun i j=>decide (i<=j)) (ye fun i j=>decide (i<=j)) (eC (.int 0)) (z6 4) (z6 1))))
   (zk (z6 4))
   yB)
  (zI (zj (tE (e2 (ye fun i j=>decide (i<j)) (z6 3) (eC (.int 6))))
   (zk (e2 yI (e2 xK (z6 2) (eC (.int 64))) (e2 ze (z6 1) (eC (.int 1)))))
   yB)
  (zk (eL Zb (z8 (eC (.int 0)) (z8 (eL Zc (z8 (z6 1) (z8 (e2 xq (e2 ze (z6 0) (e2 yI (e2 xK (z6 2) (eC (.int 64))) (eC (.int 7)))) (eC (.int 3))) zD))) zD))))))))
noncomputable def p_:List D->Option (Bool×D):=FR 3 5 qE
theorem jJ (x0 x1 x2:D):p_ [x0,x1,x2]=yQ 5 qE [x0,x1,x2]:=rfl
noncomputable def J_:FA:=(vE (eC (.int 0)) (z6 1))
noncomputable def k8:FS:=(zI (zQ 5 (zX u4 (z8 (z6 0) (z8 (e2 ze (eC (.int 3)) (z6 4)) zD))))
    (zI (zj (tE (e2 (ye fun i j=>decide (i<j)) (eL xh (z8 (z6 0) zD)) (e2 ze (eC (.int 4)) (z6 4))))
     (zQ 5 (zX wG (z8 (zX u4 (z8 (z6 0) (z8 (eC (.int 2)) zD))) (z8 (z6 4) zD))))
     yB)
    (zj (tE (e2 (ye fun i j=>decide (i<j)) (e2 yI (zX wG (z8 (z6 5) (z8 (eC (.int 1)) zD))) (eC (.int 8))) (z6 2)))
     (zI (zQ 6 (zX p_ (z8 (z6 4) (z8 (z6 1) (z8 (zX wG (z8 (z6 5) (z8 (eC (.int 2)) zD))) zD)))))
      (zI (zQ 7 (e2 zF (yb (z8 (eC (.str "jump")) (z8 (eC (.str "when")) (z8 (eC (.str "unless")) zD)))) (e2 yI (zX wG (z8 (z6 5) (z8 (eC (.int 3)) zD))) (eC (.int 3)))))
      (zj (tE (e2 zd (z6 7) (eC (.str "jump"))))
       (xl 3 xJ (yX (z8 (z6 7) (z8 (z6 6) zD))))
       (xl 3 xJ (yX (z8 (z6 7) (z8 (e2 zF (yb (z8 (eC (.str "carry")) (z8 (eC (.str "nought")) (z8 (eC (.str "sign")) zD)))) (e2 yI (zX wG (z8 (z6 5) (z8 (eC (.int 4)) zD))) (eC (.int 3)))) (z8 (z6 6) zD))))))))
     (xl 3 xJ (zX j1 (z8 (zX wG (z8 (z6 5) (z8 (eC (.int 5)) zD))) zD))))))
noncomputable def WF:FS:=
 (zI (wz 3 (yb zD))
  (zI (wc J_ (yC 4)
   k8)
  (tR 3)))
noncomputable def gH:List D->Option (Bool×D):=FR 3 8 WF
theorem MP (x0 x1 x2:D):gH [x0,x1,x2]=yQ 8 WF [x0,x1,x2]:=rfl
noncomputable def j9:FS:=
 (zI (zQ 1 (e2 yI (z6 0) (eC (.int 24))))
  (zI (zj (tE (e2 zd (e2 yI (e2 xK (z6 0) (eC (.int 24))) (eC (.int 4))) (eC (.int 1))))
   (zQ 1 (e2 ze (eC (.int 16)) (e2 yI (e2 xK (z6 0) (eC (.int 96))) (eC (.int 24)))))
   yB)
  (zI (zj (tE (e2 zd (e2 yI (e2 xK (z6 0) (eC (.int 24))) (eC (.int 8))) (eC (.int 3))))
   (zQ 1 (e2 ze (eC (.int 30)) (e2 yI (e2 xK (z6 0) (eC (.int 192))) (eC (.int 31)))))
   yB)
  (zk (z6 1)))))
noncomputable def gD:List D->Option (Bool×D):=FR 1 2 j9
theorem Zk (x0:D):gD [x0]=yQ 2 j9 [x0]:=rfl
noncomputable def W7:FS:=
 (zI (zQ 1 (zX gD (z8 (zX u4 (z8 (z6 0) (z8 (eC (.int 0)) zD))) zD)))
  (zI (zQ 2 (e2 zF (yb (fun _=>some (List.map D.int [4,2,6,8]))) (e2 yI (zX u4 (z8 (z6 0) (z8 (eC (.int 1)) zD))) (eC (.int 4)))))
  (zI (zQ 3 (zX gH (z8 (z6 0) (z8 (z6 1) (z8 (z6 2) zD)))))
  (zk (yX (z8 (z6 3) (z8 (zX gB (z8 (z6 3) (z8 (e2 xK (zX u4 (z8 (z6 0) (z8 (eC (.int 1)) zD))) (eC (.int 4))) zD))) zD)))))))
noncomputable def gA:List D->Option (Bool×D):=FR 1 4 W7
theorem MG (x0:D):gA [x0]=yQ 4 W7 [x0]:=rfl
theorem CG {n m c:Int} (n0:0<=n) (m0:0<=m):∃ p:Int,0<=p/\p<=m/\p_ [.int n,.int m,.int c]=some (false,.int p):=by
 obtain ⟨z,e⟩:∃ z:Int,zF (.lst [.int 14,.int 15,.int 16,.int 13,.int (-15),.int (-16),.int (-17),.int (-14)]) (.int (c / 8 % 8))=some (.int z):=by
  rcases (show c / 8 % 8=0\/c / 8 % 8=1\/c / 8 % 8=2\/c / 8 % 8=3\/c / 8 % 8=4\/c / 8 % 8=5\/c / 8 % 8=6\/c / 8 % 8=7 by omega) with h | h | h | h | h | h | h | h<;>rw [h]<;>exact ⟨_,rfl⟩
 have hm:decide (0<m+1)=true:=decide_eq_true (by omega)
 have q0:=Int.emod_nonneg (c / 64) (show m+1≠0 by omega)
 have q1:=Int.emod_lt_of_pos (c / 64) (show 0<m+1 by omega)
 have hch:vw (ye fun i j=>decide (i<=j)) (ye fun i j=>decide (i<=j)) (eC (.int 0)) (z6 4) (z6 1) [some (false,.int n),some (false,.int m),some (false,.int c),some (false,.int (c % 8)),some (false,.int (n+z))]=some (.bl (decide (0<=n+z)&&decide (n+z<=m))):=by
  by_cases g0:0<=n+z
  ·simp! [vw,decide_eq_true g0,Bool.true_and]
  ·simp! [vw,decide_eq_false g0,Bool.false_and]
 have hg:(decide (0<=n+z)&&decide (n+z<=m))=true->0<=n+z/\n+z<=m:=fun h=>by
  rw [Bool.and_eq_true] at h
  exact ⟨of_decide_eq_true h.1,of_decide_eq_true h.2⟩
 generalize (decide (0<=n+z)&&decide (n+z<=m))=bc at hch hg
 cases h4:decide (c % 8<4)<;>cases bc
 ·by_cases h6:c % 8<6
  ·refine ⟨_,q0,by omega,?_⟩
   rw [jJ]
   unfold qE
   simp! [e,add_int,h4,hch,decide_eq_true h6,hm]
  ·refine ⟨if (if n+c / 64 % 7 - 3<m then n+c / 64 % 7 - 3 else m) > 0 then (if n+c / 64 % 7 - 3<m then n+c / 64 % 7 - 3 else m) else 0,?_,?_,?_⟩
   ·split<;>omega
   ·split
    ·split<;>omega
    ·omega
   ·rw [jJ]
    unfold qE
    simp! [e,add_int,h4,hch,decide_eq_false h6,Zc,Zb]
 ·by_cases h6:c % 8<6
  ·refine ⟨_,q0,by omega,?_⟩
   rw [jJ]
   unfold qE
   simp! [e,add_int,h4,hch,decide_eq_true h6,hm]
  ·refine ⟨if (if n+c / 64 % 7 - 3<m then n+c / 64 % 7 - 3 else m) > 0 then (if n+c / 64 % 7 - 3<m then n+c / 64 % 7 - 3 else m) else 0,?_,?_,?_⟩
   ·split<;>omega
   ·split
    ·split<;>omega
    ·omega
   ·rw [jJ]
    unfold qE
    simp! [e,add_int,h4,hch,decide_eq_false h6,Zc,Zb]
 ·have h6:c % 8<6:=by have:=of_decide_eq_true h4; omega
  refine ⟨_,q0,by omega,?_⟩
  rw [jJ]
  unfold qE
  simp! [e,add_int,h4,hch,decide_eq_true h6,hm]
 ·obtain ⟨g0,g1⟩:=hg rfl
  refine ⟨n+z,g0,g1,?_⟩
  rw [jJ]
  unfold qE
  simp! [e,add_int,h4,hch]
theorem EJ {s:D} {ns:List Int} {m dn i:Int} {L:List D} {x5 x6 x7:Option Sl} (hs:s=.lst (ns.map D.int)) (i0:0<=i) (m0:0<=m) (hl:L.length<=1000) :
  ∃ r,xz m r/\∃ y5 y6 y7,k8 [some (false,s),some (false,.int m),some (false,.int dn),some (true,.lst L),some (false,.int i),x5,x6,x7]=some (.nx [some (false,s),some (false,.int m),some (false,.int dn),some (true,.lst (L++[r])),some (false,.int i),y5,y6,y7]):=by
 have hap:∀ r,xJ (.lst L) r=some (.lst (L++[r])):=fun r=>by
  show (if L.length<yA then _ else _)=_
  rw [if_pos (by show _<16777216; omega)]
 have hc:=gb ns (k:=3+i) (by omega)
 have hc2:=gb ns (k:=2) (by decide)
 have hln:xh [s]=some (.int (ns.length:Int)):=by rw [hs]; show some (D.int ((ns.map D.int).length:Nat))=_; rw [List.length_map]
 rw [<- hs] at hc hc2
 have go:∀ c:Int,∃ r,xz m r/\∃ y5 y6 y7,zj (tE (e2 (ye fun i j=>decide (i<j)) (e2 yI (zX wG (z8 (z6 5) (z8 (eC (.int 1)) zD))) (eC (.int 8))) (z6 2)))
     (zI (zQ 6 (zX p_ (z8 (z6 4) (z8 (z6 1) (z8 (zX wG (z8 (z6 5) (z8 (eC (.int 2)) zD))) zD)))))
      (zI (zQ 7 (e2 zF (yb (z8 (eC (.str "jump")) (z8 (eC (.str "when")) (z8 (eC (.str "unless")) zD)))) (e2 yI (zX wG (z8 (z6 5) (z8 (eC (.int 3)) zD))) (eC (.int 3)))))
      (zj (tE (e2 zd (z6 7) (eC (.str "jump"))))
       (xl 3 xJ (yX (z8 (z6 7) (z8 (z6 6) zD))))
       (xl 3 xJ (yX (z8 (z6 7) (z8 (e2 zF (yb (z8 (eC (.str "carry")) (z8 (eC (.str "nought")) (z8 (eC (.str "sign")) zD)))) (e2 yI (zX wG (z8 (z6 5) (z8 (eC (.int 4)) zD))) (eC (.int 3)))) (z8 (z6 6) zD))))))))
     (xl 3 xJ (zX j1 (z8 (zX wG (z8 (z6 5) (z8 (eC (.int 5)) zD))) zD))) [some (false,s),some (false,.int m),some (false,.int dn),some (true,.lst L),some (false,.int i),some (false,.int c),x6,x7]=some (.nx [some (false,s),some (false,.int m),some (false,.int dn),some (true,.lst (L++[r])),some (false,.int i),y5,y6,y7]):=fun c=>by
  have m1:=tK c 1
  have m2:=tK c 2
  have m3:=tK c 3
  have m4:=tK c 4
  have m5:=tK c 5
  cases hd:decide (xP c 1 % 8<dn) with
  | false=>
   obtain ⟨r,er,pr⟩:=EF (xP c 5)
   refine ⟨r,.inl pr,some (false,.int c),x6,x7,?_⟩
   simp! [m1,hd,m5,er,hap]
  | true=>
   obtain ⟨p,p0,p1,ep⟩:=CG (c:=xP c 2) i0 m0
   obtain ⟨w,hw,ew⟩:∃ w:Str,(w = "jump" \/ w = "when" \/ w = "unless")/\zF (.lst [.str "jump",.str "when",.str "unless"]) (.int (xP c 3 % 3))=some (.str w):=by
    rcases (show xP c 3 % 3=0\/xP c 3 % 3=1\/xP c 3 % 3=2 by omega) with h | h | h<;>rw [h]
    ·exact ⟨"jump",by simp,rfl⟩
    ·exact ⟨"when",by simp,rfl⟩
    ·exact ⟨"unless",by simp,rfl⟩
   obtain ⟨k,hk,ek⟩:∃ w:Str,(w = "carry" \/ w = "nought" \/ w = "sign")/\zF (.lst [.str "carry",.str "nought",.str "sign"]) (.int (xP c 4 % 3))=some (.str w):=by
    rcases (show xP c 4 % 3=0\/xP c 4 % 3=1\/xP c 4 % 3=2 by omega) with h | h | h<;>rw [h]
    ·exact ⟨"carry",by simp,rfl⟩
    ·exact ⟨"nought",by simp,rfl⟩
    ·exact ⟨"sign",by simp,rfl⟩
   rcases hw with rfl | hw
   ·have q:zd (.str "jump") (.str "jump")=some (.bl true):=by rfl
    refine ⟨_,.inr (.jump p0 p1),some (false,.int c),some (false,.int p),some (false,.str "jump"),?_⟩
    simp! [m1,m2,m3,hd,ep,ew,q,hap]
   ·have q:zd (.str w) (.str "jump")=some (.bl false):=by rcases hw with rfl | rfl<;>rfl
    refine ⟨_,.inr (.cond hw hk p0 p1),some (false,.int c),some (false,.int p),some (false,.str w),?_⟩
    simp! [m1,m2,m3,m4,hd,ep,ew,ek,q,hap]
 cases hd:decide ((ns.length:Int)<4+i) with
 | false=>
  obtain ⟨r,hr,y5,y6,y7,e⟩:=go (vX ns (3+i))
  refine ⟨r,hr,y5,y6,y7,?_⟩
  unfold k8
  rw [qU (σ':=[some (false,s),some (false,.int m),some (false,.int dn),some (true,.lst L),some (false,.int i),some (false,.int (vX ns (3+i))),x6,x7]) (by simp! [add_int,hc])]
  rw [qU (σ':=[some (false,s),some (false,.int m),some (false,.int dn),some (true,.lst L),some (false,.int i),some (false,.int (vX ns (3+i))),x6,x7]) (by rw [hs]; simp! [add_int,List.length_map,hd])]
  exact e
 | true=>
  obtain ⟨r,hr,y5,y6,y7,e⟩:=go (xP (vX ns 2) i)
  refine ⟨r,hr,y5,y6,y7,?_⟩
  have mm:=tK (vX ns 2) i
  unfold k8
  rw [qU (σ':=[some (false,s),some (false,.int m),some (false,.int dn),some (true,.lst L),some (false,.int i),some (false,.int (vX ns (3+i))),x6,x7]) (by simp! [add_int,hc])]
  rw [qU (σ':=[some (false,s),some (false,.int m),some (false,.int dn),some (true,.lst L),some (false,.int i),some (false,.int (xP (vX ns 2) i)),x6,x7]) (by rw [hs] at hc2 ⊢; simp! [add_int,List.length_map,hd,hc2,mm])]
  exact e
theorem EI {ns:List Int} {m dn:Int} (m0:0<=m) (m1:m<=100):∃ rows:List D,rows.length=m.toNat/\(∀ r∈rows,xz m r)/\gH [.lst (ns.map D.int),.int m,.int dn]=some (true,.lst rows):=by
 obtain ⟨s,hs⟩:∃ s:D,s=.lst (ns.map D.int):=⟨_,rfl⟩
 rw [<- hs]
 have hr:J_ [some (false,s),some (false,.int m),some (false,.int dn),some (true,.lst []),none,none,none,none]=some (xn m.toNat):=pO (n:=m) rfl (by omega)
 obtain ⟨σ',e,L,x4,x5,x6,x7,hl,hL,rfl⟩:=uK (g:=yC 4) (b:=k8) (fun i σ=>∃ L x4 x5 x6 x7,L.length=i/\(∀ r∈L,xz m r)/\σ=[some (false,s),some (false,.int m),some (false,.int dn),some (true,.lst L),x4,x5,x6,x7]) (ds:=xn m.toNat)
  (σ:=[some (false,s),some (false,.int m),some (false,.int dn),some (true,.lst []),none,none,none,none]) 0 ⟨[],none,none,none,none,rfl,(fun _ h=>by cases h),rfl⟩ (by
  rintro i v σ hv ⟨L,x4,x5,x6,x7,hl,hL,rfl⟩
  obtain ⟨hi,rfl⟩:=pp hv
  obtain ⟨r,hr,y5,y6,y7,e⟩:=EJ (s:=s) (ns:=ns) (m:=m) (dn:=dn) (i:=(i:Int)) (L:=L) (x5:=x5) (x6:=x6) (x7:=x7) hs (by omega) m0 (by omega)
  refine ⟨_,_,rfl,.inl e,L++[r],_,y5,y6,y7,by rw [List.length_append,hl]; rfl,?_,rfl⟩
  intro x hx
  rcases List.mem_append.mp hx with hx | hx
  ·exact hL x hx
  ·cases List.mem_singleton.mp hx
   exact hr)
 rw [jx,Nat.zero_add] at hl
 refine ⟨L,hl,hL,?_⟩
 rw [MP]
 unfold WF
 simp! [hr,e]
theorem Bn (c:Int):∃ m:Int,0<=m/\m<=60/\gD [.int c]=some (false,.int m):=by
 have b1:∀ x:Int,(∃ k,zd (.int (c / 24 % 4)) (.int 1)=some (.bl k)):=fun _=>⟨_,rfl⟩
 obtain ⟨k1,e1⟩:∃ k,zd (.int (c / 24 % 4)) (.int 1)=some (.bl k):=⟨_,rfl⟩
 obtain ⟨k2,e2⟩:∃ k,zd (.int (c / 24 % 8)) (.int 3)=some (.bl k):=⟨_,rfl⟩
 cases k1<;>cases k2
 ·refine ⟨c % 24,by omega,by omega,?_⟩
  rw [Zk]
  unfold j9
  simp! [e1,e2,add_int]
 ·refine ⟨30+c / 192 % 31,by omega,by omega,?_⟩
  rw [Zk]
  unfold j9
  simp! [e1,e2,add_int]
 ·refine ⟨16+c / 96 % 24,by omega,by omega,?_⟩
  rw [Zk]
  unfold j9
  simp! [e1,e2,add_int]
 ·refine ⟨30+c / 192 % 31,by omega,by omega,?_⟩
  rw [Zk]
  unfold j9
  simp! [e1,e2,add_int]
theorem LB (ns:List Int):∃ rows items:List D,rows.length<=60/\(∀ r∈rows,xz (rows.length:Int) r)/\(∀ d∈items,qg d)/\vQ (qf items) rows (items.filter fun d=>!xW d)/\items.length<=1000/\gA [.lst (ns.map D.int)]=some (false,.tup [.lst rows,.lst items]):=by
 have hc0:=gb ns (k:=0) (by decide)
 have hc1:=gb ns (k:=1) (by decide)
 obtain ⟨m,m0,m1,em⟩:=Bn (vX ns 0)
 obtain ⟨dn,_,ed⟩:=VW (a:=4) (b:=2) (c:=6) (d:=8) (i:=vX ns 1 % 4) (by omega) (by omega)
 obtain ⟨rows,hl,hr,er⟩:=EI (ns:=ns) (m:=m) (dn:=dn) m0 (by omega)
 have hr':∀ r∈rows,xz (rows.length:Int) r:=by rw [hl,show ((m.toNat:Nat):Int)=m by omega]; exact hr
 obtain ⟨items,ei,h1,h2,h3⟩:=Mz (cell:=vX ns 1 / 4) hr' (by omega)
 refine ⟨rows,items,by omega,hr',h1,h2,h3,?_⟩
 generalize D.lst (ns.map D.int)=s at hc0 hc1 er ⊢
 rw [MG]
 unfold W7
 simp! [hc0,em,hc1,ed,er,ei]
end L3
namespace L3
open PySem
noncomputable def qp:FS:=
 (zk (e2 zd (e2 zF (z6 0) (eC (.int 0))) (eC (.str "label"))))
noncomputable def u_:List D->Option (Bool×D):=FR 1 1 qp
theorem gt (x0:D):u_ [x0]=yQ 1 qp [x0]:=rfl
end L3
namespace L3
open PySem
noncomputable def zH (f:Nat->Bool):Nat->Int
 | 0=>0
 | n+1=>zH f n+(if f n then 2 else 1)
noncomputable def xD (f:Nat->Bool) (n:Nat):List D:=(List.range n).map fun i=>D.int (zH f i)
theorem T9 (f:Nat->Bool) (n:Nat):xD f (n+1)=xD f n++[.int (zH f n)]:=by
 unfold xD
 rw [List.range_succ,List.map_append]
 rfl
theorem Oe (f:Nat->Bool) (n:Nat):(xD f n).length=n:=by simp [xD]
noncomputable def y0 (far:List Nat):List D:=far.map fun i:Nat=>D.int i
noncomputable def zC (far:List Nat) (n:Nat):Bool:=(y0 far).any fun y=>yW y (.int (n:Int))
end L3
namespace L3
open PySem
end L3
namespace L3
open PySem
noncomputable def tgt (r:D):D:=match yf r with
 | true=>uu r
 | false=>.non
theorem HF {m:Int} {r:D} (h:xz m r):(yf r=false/\tgt r=.non)\/(yf r=true/\∃ p:Nat,(p:Int)<=m/\tgt r=.int (p:Int)/\uu r=.int (p:Int)/\zF r (.int (-1))=some (.int (p:Int))):=by
 rcases h with h | h
 ·obtain ⟨_,_,_,_,c,_⟩:=tQ h
  refine .inl ⟨c,?_⟩
  unfold tgt
  rw [c]
 ·obtain ⟨w,p,_,_,_,c,_,q1,q2,p0,p1⟩:=uH h
  have hp:((p.toNat:Nat):Int)=p:=by omega
  refine .inr ⟨c,p.toNat,by omega,?_,by rw [hp,q2],by rw [hp,q1]⟩
  unfold tgt
  rw [c,hp]
  exact q2
noncomputable def dv (f:Nat->Bool) (d:D):D:=match d with
 | .tup [.int i,.int p]=>.int (zH f p.toNat - zH f i.toNat)
 | _=>.non
theorem Z9 {f:Nat->Bool} {n p:Nat} (h:p<n):zF (.lst (xD f n)) (.int (p:Int))=some (.int (zH f p)):=by
 refine uD (by omega) ?_
 rw [Int.toNat_natCast]
 unfold xD
 rw [List.getElem?_map,List.getElem?_range h]
 rfl
noncomputable def J7:D->Bool
 | .non=>true
 | .int x=>decide (-16<=x)&&decide (x<=15)
 | _=>false
noncomputable def ue (rows:List D) (far:List Nat) (i:Nat):Bool:=!J7 (dv (zC far) (.tup [.int (i:Int),tgt (rows.getD i .non)]))
noncomputable def gF (rows:List D) (far:List Nat):List Nat:=((List.range rows.length).filter fun i=>!zC far i).filter (ue rows far)
noncomputable def uU (l:List Nat):List Nat:=(L2.isort (l.map fun i:Nat=>(i:Int))).map Int.toNat
theorem GL (l:List Nat):y0 (uU l)=(L2.isort (l.map fun i:Nat=>(i:Int))).map D.int:=by
 unfold y0 uU
 rw [List.map_map]
 refine List.map_congr_left fun x hx=>?_
 obtain ⟨i,_,rfl⟩:=List.mem_map.mp ((L2.isort_perm _).mem_iff.mp hx)
 rfl
theorem YU (l:List Nat):(uU l).Perm l:=by
 have h:=(L2.isort_perm (l.map fun i:Nat=>(i:Int))).map Int.toNat
 rw [List.map_map] at h
 have e:l.map (Int.toNat ∘ fun i:Nat=>(i:Int))=l:=by
  rw [show (Int.toNat ∘ fun i:Nat=>(i:Int))=id from funext fun i=>Int.toNat_natCast i,List.map_id]
 rw [e] at h
 exact h
inductive t7 (g:List Nat->List Nat):List Nat->List Nat->Nat->Prop
 | stop {far:List Nat}:g far=[]->t7 g far far 0
 | go {far R:List Nat} {k:Nat}:g far≠[]->(far++g far).length<64->t7 g (uU (far++g far)) R k->t7 g far R (k+1)
noncomputable def t5 (n:Nat) (l:List Nat):Prop:=l.Nodup/\∀ x∈l,x<n
theorem IH {g:List Nat->List Nat} {n:Nat} (hn:n<64) (hg:∀ far,t5 n far->t5 n (far++g far)):∀ (m:Nat) (far:List Nat),t5 n far->n - far.length<=m->∃ R k,t7 g far R k/\k<=m/\t5 n R
 | m,far,gf,hm=>by
  by_cases e:g far=[]
  ·exact ⟨far,0,.stop e,Nat.zero_le _,gf⟩
  ·have g2:=hg far gf
   have l2:=WQ n g2.1 g2.2
   have l3:0<(g far).length:=List.length_pos_iff.mpr e
   rw [List.length_append] at l2
   have g3:t5 n (uU (far++g far)):=⟨(YU _).nodup_iff.mpr g2.1,fun x hx=>g2.2 x ((YU _).mem_iff.mp hx)⟩
   have l4:(uU (far++g far)).length=far.length+(g far).length:=by rw [(YU _).length_eq,List.length_append]
   match m,hm with
   | 0,hm=>omega
   | m+1,hm=>
    obtain ⟨R,k,h,hk,gr⟩:=IH hn hg m (uU (far++g far)) g3 (by omega)
    exact ⟨R,k+1,.go e (by rw [List.length_append]; omega) h,by omega,gr⟩
theorem GM {l:List Nat} (h:l.length<64):Wn [.lst (y0 l)]=some (.lst (y0 (uU l))):=by
 have e:y0 l=(l.map fun i:Nat=>(i:Int)).map D.int:=by
  unfold y0
  rw [List.map_map]
  rfl
 rw [GL,e]
 show (intsOf _).bind _=_
 rw [Qb]
 show (if (l.map fun i:Nat=>(i:Int)).length<64 then _ else _)=_
 rw [if_pos (by rw [List.length_map]; exact h)]
theorem Od {a b:List Nat} (h:(a++b).length<64):ze (.lst (y0 a)) (.lst (y0 b))=some (.lst (y0 (a++b))):=by
 show (if (y0 a).length+(y0 b).length<=yA then _ else _)=_
 rw [List.length_append] at h
 unfold y0
 rw [if_pos (by rw [List.length_map,List.length_map]; show _<=16777216; omega),List.map_append]
theorem Lz (l:List Nat):(!(y0 l).isEmpty)=decide (l≠[]):=by
 cases l<;>rfl
theorem Ma {rows:List D} {far:List Nat} (h:t5 rows.length far):t5 rows.length (far++gF rows far):=by
 have mem:∀ x∈gF rows far,x<rows.length/\zC far x=false:=fun x hx=>by
  have h1:=List.mem_filter.mp (List.mem_filter.mp hx).1
  exact ⟨List.mem_range.mp h1.1,by simpa using h1.2⟩
 refine ⟨List.nodup_append.mpr ⟨h.1,(List.nodup_range.filter _).filter _,fun a ha b hb e=>?_⟩,fun x hx=>?_⟩
 ·subst e
  have h2:=(mem a hb).2
  have:zC far a=true:=List.any_eq_true.mpr ⟨.int (a:Int),List.mem_map.mpr ⟨a,ha,rfl⟩,by unfold yW; exact beq_self_eq_true _⟩
  rw [this] at h2
  cases h2
 ·rcases List.mem_append.mp hx with hx | hx
  ·exact h.2 x hx
  ·exact (mem x hx).1
theorem V2 (far:List Nat) (n:Nat):tD (.int (n:Int)) (.lst (y0 far))=some (zC far n):=by
 have ha:(y0 far).all yL=true:=List.all_eq_true.mpr fun y hy=>by
  obtain ⟨p,_,rfl⟩:=List.mem_map.mp hy
  rfl
 show (match yL (.int (n:Int))&&(y0 far).all yL with | true=>_ | false=>_)=_
 rw [ha]
 rfl
noncomputable def vt (rows:List D) (far:List Nat) (i:Nat):Bool:=!zC far i&&ue rows far i
theorem TN {rows:List D} {far:List Nat} {i:Nat} (h:yf (rows.getD i .non)=false):ue rows far i=false:=by
 unfold ue tgt
 rw [h]
 rfl
theorem M6 (rows:List D) (far:List Nat):gF rows far=(xX rows).filter (vt rows far):=by
 unfold gF xX
 rw [List.filter_filter,List.filter_filter]
 refine List.filter_congr fun i _=>?_
 unfold vt
 cases h:yf (rows.getD i .non) with
 | true=>rw [Bool.and_true,Bool.and_comm]
 | false=>rw [TN h,Bool.and_false,Bool.false_and]
end L3
namespace L3
open PySem
noncomputable def IA:FA:=(vE (eC (.int 0)) (eL xh (z8 (z6 0) zD)))
noncomputable def VC:FS:=(zI (xl 2 xJ (e2 ze (e2 zF (uE 2) (e1 wC (eC (.int 1)))) (eC (.int 1))))
    (zj (tE (e2 yY (z6 3) (z6 1)))
     (YN 2 (e1 wC (eC (.int 1))) (e2 ze (e2 zF (uE 2) (e1 wC (eC (.int 1)))) (eC (.int 1))))
     yB))
noncomputable def WG:FS:=
 (zI (wz 2 (yb (z8 (eC (.int 0)) zD)))
  (zI (wc IA (yC 3)
   VC)
  (tR 2)))
noncomputable def j2:List D->Option (Bool×D):=FR 2 4 WG
theorem MQ (x0 x1:D):j2 [x0,x1]=yQ 4 WG [x0,x1]:=rfl
noncomputable def VA:FS:=(zI (zQ 5 (e2 xq (e2 zF (z6 2) (e2 zF (e2 zF (z6 0) (z6 4)) (e1 wC (eC (.int 1))))) (e2 zF (z6 2) (z6 4))))
    (zj (ju (tE (e2 gi (z6 4) (z6 1))) (uz (tE (e2 (ye fun i j=>decide (i<j)) (z6 5) (e1 wC (eC (.int 16))))) (tE (e2 (ye fun i j=>decide (j<i)) (z6 5) (eC (.int 15))))))
     (xl 3 xJ (z6 4))
     yB))
noncomputable def WD:FS:=
 (zI (zQ 2 (zX j2 (z8 (z6 0) (z8 (z6 1) zD))))
  (zI (wz 3 (yb zD))
  (zI (wc (uo (zX qc (z8 (z6 0) zD))) (yC 4)
   VA)
  (tR 3))))
noncomputable def tu:List D->Option (Bool×D):=FR 2 6 WD
theorem MN (x0 x1:D):tu [x0,x1]=yQ 6 WD [x0,x1]:=rfl
theorem Iv {rows:List D} {far:List Nat} (hl:rows.length<=900):j2 [.lst rows,.lst (y0 far)]=some (true,.lst (xD (zC far) (rows.length+1))):=by
 have e3:IA [some (false,.lst rows),some (false,.lst (y0 far)),some (true,.lst [.int 0]),none]=some (xn rows.length):=pO (n:=(rows.length:Int)) rfl (by omega)
 obtain ⟨σ',e4,x3,rfl⟩:=uK (g:=yC 3) (b:=VC) (fun i σ=>∃ x3,σ=[some (false,.lst rows),some (false,.lst (y0 far)),some (true,.lst (xD (zC far) (i+1))),x3]) (ds:=xn rows.length)
  (σ:=[some (false,.lst rows),some (false,.lst (y0 far)),some (true,.lst [.int 0]),none]) 0 ⟨none,rfl⟩ (by
  rintro i v σ hv ⟨x3,rfl⟩
  obtain ⟨hi,rfl⟩:=pp hv
  rw [Nat.zero_add] at *
  have hap:=v8 (L:=xD (zC far) (i+1)) (r:=.int (zH (zC far) i+1)) (by rw [Oe]; omega)
  have hin:yY (.int (i:Int)) (.lst (y0 far))=some (.bl (zC far i)):=by
   show (tD _ _).bind _=_
   rw [V2]
   rfl
  have i1:zF (.lst (xD (zC far) (i+1))) (.int (-1))=some (.int (zH (zC far) i)):=by rw [T9]; exact TK _ _
  have i2:zF (.lst (xD (zC far) (i+1)++[.int (zH (zC far) i+1)])) (.int (-1))=some (.int (zH (zC far) i+1)):=TK _ _
  refine ⟨_,[some (false,.lst rows),some (false,.lst (y0 far)),some (true,.lst (xD (zC far) (i+1+1))),some (false,.int (i:Int))],rfl,.inl ?_,_,rfl⟩
  rw [T9 _ (i+1)]
  show _=some (Fl.nx [_,_,some (true,.lst (_++[.int (zH (zC far) i+(if zC far i then 2 else 1))])),_])
  unfold VC
  cases hf:zC far i
  ·rw [hf] at hin
   simp! [i1,add_int,hap,hin]
   rfl
  ·rw [hf] at hin
   have hs:YN 2 (e1 wC (eC (.int 1))) (e2 ze (e2 zF (uE 2) (e1 wC (eC (.int 1)))) (eC (.int 1))) [some (false,.lst rows),some (false,.lst (y0 far)),some (true,.lst (xD (zC far) (i+1)++[.int (zH (zC far) i+1)])),some (false,.int (i:Int))] =
     some (.nx [some (false,.lst rows),some (false,.lst (y0 far)),some (true,.lst (xD (zC far) (i+1)++[.int (zH (zC far) i+2)])),some (false,.int (i:Int))]):=by
    have hn:L2.ixN (xD (zC far) (i+1)++[D.int (zH (zC far) i+1)]).length (-1)=some (xD (zC far) (i+1)).length:=by
     rw [List.length_append,List.length_singleton]
     unfold L2.ixN
     rw [if_neg (by decide),if_pos (by omega)]
     congr 1
     omega
    have ht:(xD (zC far) (i+1)++[D.int (zH (zC far) i+1)]).set (xD (zC far) (i+1)).length (.int (zH (zC far) i+2))=xD (zC far) (i+1)++[.int (zH (zC far) i+2)]:=by
     rw [List.set_append_right _ _ (Nat.le_refl _),Nat.sub_self]
     rfl
    have h2:zH (zC far) i+1+1=zH (zC far) i+2:=by omega
    simp! [YN,i2,add_int,hn,h2,ht]
   simp! [i1,add_int,hap,hin,hs]
   rfl)
 rw [jx,Nat.zero_add] at e4
 rw [MQ]
 unfold WG
 simp! [e3,e4]
theorem D4 {rows:List D} (hr:∀ r∈rows,xz (rows.length:Int) r) (hn:rows.length<=900) {far:List Nat}:tu [.lst rows,.lst (y0 far)]=some (true,.lst (y0 (gF rows far))):=by
 have e1:=Iv (rows:=rows) (far:=far) hn
 have e2:=V5 hr (by omega)
 have jl:(xX rows).length<=900:=by
  have:=List.length_filter_le (fun i=>yf (rows.getD i .non)) (List.range rows.length)
  rw [List.length_range] at this
  exact Nat.le_trans this hn
 obtain ⟨σ',e3,x4,x5,rfl⟩:=uK (g:=yC 4) (b:=VA) (fun i σ=>∃ x4 x5,σ=[some (false,.lst rows),some (false,.lst (y0 far)),some (false,.lst (xD (zC far) (rows.length+1))),some (true,.lst (y0 (((xX rows).take i).filter (vt rows far)))),x4,x5]) (ds:=(xX rows).map fun i:Nat=>D.int i)
  (σ:=[some (false,.lst rows),some (false,.lst (y0 far)),some (false,.lst (xD (zC far) (rows.length+1))),some (true,.lst []),none,none]) 0 ⟨none,none,rfl⟩ (by
  rintro i v σ hv ⟨x4,x5,rfl⟩
  rw [Nat.zero_add] at *
  rw [List.getElem?_map] at hv
  cases hj:(xX rows)[i]? with
  | none=>rw [hj] at hv; cases hv
  | some j=>
  rw [hj] at hv
  cases hv
  have hi:=(List.getElem?_eq_some_iff.mp hj).1
  have ej:=(List.getElem?_eq_some_iff.mp hj).2
  have ht:(xX rows).take (i+1)=(xX rows).take i++[j]:=by rw [List.take_succ_eq_append_getElem hi,ej]
  obtain ⟨jl1,jj⟩:=k5 (List.mem_of_getElem? hj)
  have eg:rows.getD j .non=rows[j]:=by rw [List.getD_eq_getElem?_getD,List.getElem?_eq_getElem jl1]; rfl
  rw [eg] at jj
  have ex:zF (.lst rows) (.int (j:Int))=some rows[j]:=uD (by omega) (by rw [Int.toNat_natCast]; exact List.getElem?_eq_getElem jl1)
  rcases HF (hr _ (List.getElem_mem jl1)) with ⟨z,_⟩ | ⟨_,p,p1,tp,_,lp⟩
  ·rw [z] at jj; cases jj
  have ap:=Z9 (f:=zC far) (n:=rows.length+1) (p:=p) (by omega)
  have aj:=Z9 (f:=zC far) (n:=rows.length+1) (p:=j) (by omega)
  have hni:gi (.int (j:Int)) (.lst (y0 far))=some (.bl (!zC far j)):=by
   show (tD _ _).bind _=_
   rw [V2]
   rfl
  have ea:ue rows far j=(decide (zH (zC far) p - zH (zC far) j < -16)||decide (15<zH (zC far) p - zH (zC far) j)):=by
   unfold ue
   rw [eg,tp]
   show (!(decide (-16<=zH (zC far) ((p:Int)).toNat - zH (zC far) ((j:Int)).toNat)&&decide (zH (zC far) ((p:Int)).toNat - zH (zC far) ((j:Int)).toNat<=15)))=_
   rw [Int.toNat_natCast,Int.toNat_natCast,Bool.not_and,<- decide_not,<- decide_not]
   congr 1
   ·exact decide_eq_decide.mpr (by omega)
   ·exact decide_eq_decide.mpr (by omega)
  have hap:=v8 (L:=y0 (((xX rows).take i).filter (vt rows far))) (r:=.int (j:Int)) (by
   unfold y0
   rw [List.length_map]
   have h1:=List.length_filter_le (vt rows far) ((xX rows).take i)
   rw [List.length_take] at h1
   omega)
  have eL:y0 (((xX rows).take (i+1)).filter (vt rows far))=match vt rows far j with
   | true=>y0 (((xX rows).take i).filter (vt rows far))++[.int (j:Int)]
   | false=>y0 (((xX rows).take i).filter (vt rows far)):=by
   rw [ht,List.filter_append]
   cases hA:vt rows far j with
   | true=>
    rw [List.filter_cons_of_pos hA]
    unfold y0
    rw [List.map_append]
    rfl
   | false=>
    rw [List.filter_cons_of_neg (by rw [hA]; decide),List.filter_nil,List.append_nil]
  refine ⟨_,[some (false,.lst rows),some (false,.lst (y0 far)),some (false,.lst (xD (zC far) (rows.length+1))),some (true,.lst (y0 (((xX rows).take (i+1)).filter (vt rows far)))),some (false,.int (j:Int)),some (false,.int (zH (zC far) p - zH (zC far) j))],rfl,.inl ?_,_,_,rfl⟩
  rw [eL]
  unfold vt at *
  rw [ea]
  generalize y0 (List.filter (fun i=>!zC far i&&ue rows far i) ((xX rows).take i))=LL at *
  unfold VA
  cases hf:zC far j with
  | true=>
   rw [hf] at hni
   simp! [ex,lp,ap,aj,hni,Bool.false_and]
  | false=>
   rw [hf] at hni
   cases c1:decide (zH (zC far) p - zH (zC far) j < -16) with
   | true=>simp! [ex,lp,ap,aj,hni,c1,hap,Bool.true_and,Bool.true_or]
   | false=>
    cases c2:decide (15<zH (zC far) p - zH (zC far) j) with
    | true=>simp! [ex,lp,ap,aj,hni,c1,c2,hap,Bool.true_and,Bool.false_or]
    | false=>simp! [ex,lp,ap,aj,hni,c1,c2,Bool.true_and,Bool.false_or])
 rw [List.length_map,Nat.zero_add,List.take_length,<- M6] at e3
 rw [MN]
 unfold WD
 simp! [e1,e2,e3]
end L3
namespace L3
open PySem
noncomputable def TU:FS:=
 (zI (zQ 4 (e2 qw (e2 xq (e2 qw (eC (.int 1)) (z6 2)) (eC (.int 1))) (z6 1)))
  (zk (e2 (uj Builtin.bitOr) (e2 (uj Builtin.bitAnd) (z6 0) (e1 Wg (z6 4))) (e2 qw (z6 3) (z6 1)))))
theorem CO {d:Nat} (h:d<64):1<=(2:Int) ^ d/\(2:Int) ^ d<2 ^ 64:=by
 have h1:(2:Nat) ^ d<2 ^ 64:=Nat.pow_lt_pow_right (by decide) h
 have h2:0<(2:Nat) ^ d:=Nat.pow_pos (by decide)
 have e:((2 ^ d:Nat):Int)=(2:Int) ^ d:=by simp
 have e2:((2 ^ 64:Nat):Int)=(2:Int) ^ 64:=by decide
 omega
noncomputable def j4:List D->Option (Bool×D)
 | [.int x,.int l,.int d,.int n]=>if (0<=x/\0<=l/\l<64/\0<=d/\d<64)/\0<=n/\n<2 ^ d.toNat then some (false,.int (x+(n - x / 2 ^ l.toNat % 2 ^ d.toNat)*2 ^ l.toNat)) else none
 | _=>none
theorem EM:∀ ds r,j4 ds=some r->ds.length=4/\yQ 5 TU ds=some r:=fun ds r h=>by
 unfold j4 at h
 split at h
 ·rename_i x l d n
  refine ⟨rfl,?_⟩
  split at h
  ·rename_i c
   obtain ⟨⟨x0,l0,l1,d0,d1⟩,n0,n1⟩:=c
   obtain ⟨p0,p1⟩:=CO (d:=d.toNat) (by omega)
   cases h
   have e1:=pM (i:=1) (j:=d) d0 d1 (by decide) (by decide)
   have e2:=pM (i:=1*2 ^ d.toNat - 1) (j:=l) l0 l1 (by omega) (by omega)
   have e3:=pM (i:=n) (j:=l) l0 l1 n0 (by omega)
   unfold TU
   simp! [e1,e2,e3,Wg,Hk x0 n0 n1]
  ·cases h
 ·cases h
theorem Hl {x l d n:Int} (h:(0<=x/\0<=l/\l<64/\0<=d/\d<64)/\0<=n/\n<2 ^ d.toNat):j4 [.int x,.int l,.int d,.int n]=some (false,.int (x+(n - x / 2 ^ l.toNat % 2 ^ d.toNat)*2 ^ l.toNat)):=if_pos h
noncomputable def Oy:FS:=
 (zI (zj (tE (e2 zd (z6 1) (eC (.str "n"))))
   (zk (yX (z8 (eC (.int 0)) (z8 (e1 (yy Wt Wx) (z6 0)) zD))))
   yB)
  (zk (e1 (yy wq wt) (z6 1))))
noncomputable def xC:List D->Option (Bool×D):=FR 2 2 Oy
noncomputable def WO:FS:=
 (zk (zX j4 (z8 (z6 0) (z8 (e2 zF (z6 1) (eC (.int 0))) (z8 (e2 zF (z6 1) (eC (.int 1))) (z8 (z6 2) zD))))))
noncomputable def vj:List D->Option (Bool×D):=FR 3 3 WO
theorem MY (x0 x1 x2:D):vj [x0,x1,x2]=yQ 3 WO [x0,x1,x2]:=rfl
theorem Ym {x l d n:Int} (h:(0<=x/\0<=l/\l<64/\0<=d/\d<64)/\0<=n/\n<2 ^ d.toNat):vj [.int x,.tup [.int l,.int d],.int n]=some (false,.int (x+(n - x / 2 ^ l.toNat % 2 ^ d.toNat)*2 ^ l.toNat)):=by
 have i0:zF (.tup [.int l,.int d]) (.int 0)=some (.int l):=rfl
 have i1:zF (.tup [.int l,.int d]) (.int 1)=some (.int d):=rfl
 rw [MY]
 unfold WO
 simp! [i0,i1,Hl h]
noncomputable def Hn:FE:=(z6 1)
noncomputable def Hs:FT:=(tE (e2 yl (z6 1) (eC (.str "name"))))
noncomputable def Ot:FS:=
 (pS (w8 1 (uo (e1 (yy ul um) (z6 0))) (yC 1) Hs Hn))
noncomputable def xU:List D->Option (Bool×D):=FR 1 1 Ot
noncomputable def k7:FS:=(zI (zQ 5 (uh (tE (e2 zd (z6 3) (eC (.str "mark")))) (e1 (gj gn) (z6 4)) (z6 4)))
    (zQ 2 (zX vj (z8 (z6 2) (z8 (zX xC (z8 (e2 zF (z6 0) (eC (.int 0))) (z8 (z6 3) zD))) (z8 (z6 5) zD))))))
noncomputable def qo:FS:=
 (zI (zQ 2 (zX vj (z8 (eC (.int 0)) (z8 (e1 (yy wq wt) (eC (.str "kind"))) (z8 (z6 1) zD)))))
  (zI (wc (vd (ZT xU (z8 (e2 zF (z6 0) (eC (.int 0))) zD)) (ui (z6 0) (xZ (eC (.int 1))) xY)) (wp 3 4)
   k7)
  (zk (z6 2))))
noncomputable def vR:List D->Option (Bool×D):=FR 2 6 qo
theorem gs (x0 x1:D):vR [x0,x1]=yQ 6 qo [x0,x1]:=rfl
theorem kK {c:Int} (h0:0<=c) (h1:c<32):vj [.int 0,.tup [.int 27,.int 5],.int c]=some (false,.int (c*134217728)):=by
 rw [Ym (x:=0) (l:=27) (d:=5) (n:=c) ⟨by decide,h0,h1⟩]
 simp
theorem put_at {x l d n m:Int} (hl:0<=l/\l<64) (hd:0<=d/\d<64) (x0:0<=x) (n0:0<=n) (n1:n<2 ^ d.toNat) (hz:x / 2 ^ l.toNat % 2 ^ d.toNat=0) (hm:m=2 ^ l.toNat):vj [.int x,.tup [.int l,.int d],.int n]=some (false,.int (x+n*m)):=by
 rw [Ym ⟨⟨x0,hl.1,hl.2,hd.1,hd.2⟩,n0,n1⟩,hz,hm,Int.sub_zero]
theorem gk {c:Int} (c0:0<=c) (c1:c<32) {w:Str} (hf:xU [.str w]=some (true,.lst [])):vR [.tup [.str w],.int c]=some (false,.int (c*134217728)):=by
 have hk:yy wq wt (.str "kind")=some (.tup [.int 27,.int 5]):=by rfl
 have q1:=kK c0 c1
 have sl:qx (.tup [.str w]) (some 1) none=some (.tup []):=by rfl
 rw [gs]
 unfold qo
 simp! [hk,q1,yx,hf,vd,ui,xZ,xY,sl,vN,List.zipWith_nil_left]
theorem Q7 {w:Str} {c W d n:Int} (hf:xU [.str w]=some (true,.lst [.str "d",.str "n"])) (hd:xC [.str w,.str "d"]=some (false,.tup [.int 24,.int 3])) (hn:xC [.str w,.str "n"]=some (false,.tup [.int 0,.int W]))
  (c0:0<=c) (c1:c<32) (w0:0<=W) (w1:W<=16) (d0:0<=d) (d1:d<8) (n0:0<=n) (n1:n<2 ^ W.toNat) (hp:(2:Int) ^ W.toNat ∣ 16777216) :
  vR [.tup [.str w,.int d,.int n],.int c]=some (false,.int (c*134217728+d*16777216+n)):=by
 have hk:yy wq wt (.str "kind")=some (.tup [.int 27,.int 5]):=by rfl
 have q1:=kK c0 c1
 have q2:=put_at (x:=c*134217728) (l:=24) (d:=3) (n:=d) (m:=16777216) (by decide) (by decide) (by omega) d0 d1 (by show c*134217728 / 16777216 % 8=0; omega) (by decide)
 have q3:=put_at (x:=c*134217728+d*16777216) (l:=0) (d:=W) (n:=n) (m:=1) (by decide) ⟨w0,by omega⟩ (by omega) n0 n1 (by
  show (c*134217728+d*16777216) / 1 % 2 ^ W.toNat=0
  rw [Int.ediv_one]
  obtain ⟨k,hk⟩:=hp
  rw [show c*134217728+d*16777216=2 ^ W.toNat*(k*(8*c+d)) by rw [<- Int.mul_assoc,<- hk]; omega]
  exact Int.mul_emod_right _ _) (by decide)
 have m1:zd (.str "d") (.str "mark")=some (.bl false):=by rfl
 have m2:zd (.str "n") (.str "mark")=some (.bl false):=by rfl
 have sl:qx (.tup [.str w,.int d,.int n]) (some 1) none=some (.tup [.int d,.int n]):=by rfl
 rw [gs]
 unfold qo
 simp! [hk,q1,yx,hf,vd,ui,xZ,xY,sl,vN,List.zipWith_cons_cons,List.zipWith_nil_left,k7,m1,m2,hd,q2,hn,q3,Int.mul_one]
theorem Q8 {w:Str} {c d s:Int} (hf:xU [.str w]=some (true,.lst [.str "d",.str "s"])) (hd:xC [.str w,.str "d"]=some (false,.tup [.int 24,.int 3])) (hs:xC [.str w,.str "s"]=some (false,.tup [.int 21,.int 3]))
  (c0:0<=c) (c1:c<32) (d0:0<=d) (d1:d<8) (s0:0<=s) (s1:s<8) :
  vR [.tup [.str w,.int d,.int s],.int c]=some (false,.int (c*134217728+d*16777216+s*2097152)):=by
 have hk:yy wq wt (.str "kind")=some (.tup [.int 27,.int 5]):=by rfl
 have q1:=kK c0 c1
 have q2:=put_at (x:=c*134217728) (l:=24) (d:=3) (n:=d) (m:=16777216) (by decide) (by decide) (by omega) d0 d1 (by show c*134217728 / 16777216 % 8=0; omega) (by decide)
 have q3:=put_at (x:=c*134217728+d*16777216) (l:=21) (d:=3) (n:=s) (m:=2097152) (by decide) (by decide) (by omega) s0 s1 (by show (c*134217728+d*16777216) / 2097152 % 8=0; omega) (by decide)
 have m1:zd (.str "d") (.str "mark")=some (.bl false):=by rfl
 have m2:zd (.str "s") (.str "mark")=some (.bl false):=by rfl
 have sl:qx (.tup [.str w,.int d,.int s]) (some 1) none=some (.tup [.int d,.int s]):=by rfl
 rw [gs]
 unfold qo
 simp! [hk,q1,yx,hf,vd,ui,xZ,xY,sl,vN,List.zipWith_cons_cons,List.zipWith_nil_left,k7,m1,m2,hd,q2,hs,q3]
theorem Q9 {w:Str} {c d s n:Int} (hf:xU [.str w]=some (true,.lst [.str "d",.str "s",.str "n"])) (hd:xC [.str w,.str "d"]=some (false,.tup [.int 24,.int 3])) (hs:xC [.str w,.str "s"]=some (false,.tup [.int 21,.int 3]))
  (hn:xC [.str w,.str "n"]=some (false,.tup [.int 0,.int 8])) (c0:0<=c) (c1:c<32) (d0:0<=d) (d1:d<8) (s0:0<=s) (s1:s<8) (n0:0<=n) (n1:n<256) :
  vR [.tup [.str w,.int d,.int s,.int n],.int c]=some (false,.int (c*134217728+d*16777216+s*2097152+n)):=by
 have hk:yy wq wt (.str "kind")=some (.tup [.int 27,.int 5]):=by rfl
 have q1:=kK c0 c1
 have q2:=put_at (x:=c*134217728) (l:=24) (d:=3) (n:=d) (m:=16777216) (by decide) (by decide) (by omega) d0 d1 (by show c*134217728 / 16777216 % 8=0; omega) (by decide)
 have q3:=put_at (x:=c*134217728+d*16777216) (l:=21) (d:=3) (n:=s) (m:=2097152) (by decide) (by decide) (by omega) s0 s1 (by show (c*134217728+d*16777216) / 2097152 % 8=0; omega) (by decide)
 have q4:=put_at (x:=c*134217728+d*16777216+s*2097152) (l:=0) (d:=8) (n:=n) (m:=1) (by decide) (by decide) (by omega) n0 n1 (by show (c*134217728+d*16777216+s*2097152) / 1 % 256=0; omega) (by decide)
 have m1:zd (.str "d") (.str "mark")=some (.bl false):=by rfl
 have m2:zd (.str "s") (.str "mark")=some (.bl false):=by rfl
 have m3:zd (.str "n") (.str "mark")=some (.bl false):=by rfl
 have sl:qx (.tup [.str w,.int d,.int s,.int n]) (some 1) none=some (.tup [.int d,.int s,.int n]):=by rfl
 rw [gs]
 unfold qo
 simp! [hk,q1,yx,hf,vd,ui,xZ,xY,sl,vN,List.zipWith_cons_cons,List.zipWith_nil_left,k7,m1,m2,m3,hd,q2,hs,q3,hn,q4,Int.mul_one]
theorem Wp {c m:Int} {w k:Str} (hf:xU [.str w]=some (true,.lst [.str "mark"])) (hp:xC [.str w,.str "mark"]=some (false,.tup [.int 24,.int 2])) (hm:gj gn (.str k)=some (.int m)) (m0:0<=m) (m1:m<3) (c0:0<=c) (c1:c<32):vR [.tup [.str w,.str k],.int c]=some (false,.int (c*134217728+m*16777216)):=by
 have hk:yy wq wt (.str "kind")=some (.tup [.int 27,.int 5]):=by rfl
 have q1:=kK c0 c1
 have q2:=put_at (x:=c*134217728) (l:=24) (d:=2) (n:=m) (m:=16777216) (by decide) (by decide) (by omega) m0 (by show m<4; omega) (by show c*134217728 / 16777216 % 4=0; omega) (by decide)
 have e1:zd (.str "mark") (.str "mark")=some (.bl true):=by rfl
 have sl:qx (.tup [.str w,.str k]) (some 1) none=some (.tup [.str k]):=by rfl
 rw [gs]
 unfold qo
 simp! [hk,q1,yx,hf,vd,ui,xZ,xY,sl,vN,List.zipWith_cons_cons,List.zipWith_nil_left,k7,e1,hm,hp,q2]
noncomputable def Ox:FS:=
 (zI (zQ 0 (yb (z8 (eC (.str "stop")) (z8 (eC (.str "set")) (z8 (eC (.str "high")) (z8 (eC (.str "copy")) (z8 (eC (.str "add")) (z8 (eC (.str "addc")) (z8 (eC (.str "sub")) (z8 (eC (.str "subc")) (z8 (eC (.str "and")) (z8 (eC (.str "or")) (z8 (eC (.str "xor")) (z8 (eC (.str "test")) zD))))))))))))))
  (zk (e2 ze (z6 0) (yb (z8 (eC (.str "left")) (z8 (eC (.str "right")) (z8 (eC (.str "load")) (z8 (eC (.str "store")) (z8 (eC (.str "loadw")) (z8 (eC (.str "storew")) zD))))))))))
noncomputable def gE:List D->Option (Bool×D):=FR 0 1 Ox
noncomputable def jC:FS:=
 (zI (zQ 1 (e2 tF (e2 xv (zX gE zD) (e2 zF (z6 0) (eC (.int 0)))) (e2 vB (eC (.int 2)) (eC (.int 27)))))
  (zI (zj (tE (e2 zd (e2 zF (z6 0) (eC (.int 0))) (eC (.str "stop"))))
   (zk (z6 1))
   yB)
  (zI (zQ 1 (e2 ze (z6 1) (e2 tF (e2 zF (z6 0) (eC (.int 1))) (e2 vB (eC (.int 2)) (eC (.int 24))))))
  (zI (zj (tE (e2 yY (e2 zF (z6 0) (eC (.int 0))) (yX (z8 (eC (.str "set")) (z8 (eC (.str "high")) (z8 (eC (.str "left")) (z8 (eC (.str "right")) zD)))))))
   (zk (e2 ze (z6 1) (e2 zF (z6 0) (eC (.int 2)))))
   yB)
  (zI (zQ 1 (e2 ze (z6 1) (e2 tF (e2 zF (z6 0) (eC (.int 2))) (e2 vB (eC (.int 2)) (eC (.int 21))))))
  (zI (zj (tE (e2 zd (eL xh (z8 (z6 0) zD)) (eC (.int 4))))
   (zQ 1 (e2 ze (z6 1) (e2 zF (z6 0) (eC (.int 3)))))
   yB)
  (zk (z6 1))))))))
noncomputable def vT:List D->Option (Bool×D):=FR 1 2 jC
theorem Zn (x0:D):vT [x0]=yQ 2 jC [x0]:=rfl
noncomputable abbrev wT:D:=.lst [.str "stop",.str "set",.str "high",.str "copy",.str "add",.str "addc",.str "sub",.str "subc",.str "and",.str "or",.str "xor",.str "test",.str "left",.str "right",.str "load",.str "store",.str "loadw",.str "storew"]
theorem kG:gE []=some (false,wT):=by rfl
theorem kL:xQ 2 27=true/\xQ 2 24=true/\xQ 2 21=true/\wE 134217728=true/\wE 16777216=true/\wE 2097152=true:=⟨by decide,by decide,by decide,by decide,by decide,by decide⟩
theorem J1:vT [.tup [.str "stop"]]=some (false,.int 0):=by
 have hi:xv wT (.str "stop")=some (.int 0):=by rfl
 have hs:zd (.str "stop") (.str "stop")=some (.bl true):=by rfl
 have hO:=kG
 rw [Zn]
 unfold jC
 generalize wT=O at hi hO
 simp! [hO,yx,hi,kL,hs]
theorem k9 {w:Str} {c d n:Int} (hi:xv wT (.str w)=some (.int c)) (hs:zd (.str w) (.str "stop")=some (.bl false)) (hin:yY (.str w) (.tup [.str "set",.str "high",.str "left",.str "right"])=some (.bl true)) :
  vT [.tup [.str w,.int d,.int n]]=some (false,.int (c*134217728+d*16777216+n)):=by
 have i1:∀ {a b c:D},zF (.tup [a,b,c]) (.int 1)=some b:=rfl
 have i2:∀ {a b c:D},zF (.tup [a,b,c]) (.int 2)=some c:=rfl
 have hO:=kG
 rw [Zn]
 unfold jC
 generalize wT=O at hi hO
 simp! [hO,yx,i1,i2,hi,kL,hs,hin,add_int]
theorem uv {w:Str} {c d n:Int} (hi:xv wT (.str w)=some (.int c)) (hs:zd (.str w) (.str "stop")=some (.bl false)) (hin:yY (.str w) (.tup [.str "set",.str "high",.str "left",.str "right"])=some (.bl false)) :
  vT [.tup [.str w,.int d,.int n]]=some (false,.int (c*134217728+d*16777216+n*2097152)):=by
 have i1:∀ {a b c:D},zF (.tup [a,b,c]) (.int 1)=some b:=rfl
 have i2:∀ {a b c:D},zF (.tup [a,b,c]) (.int 2)=some c:=rfl
 have hl:zd (.int ((0+1+1+1:Nat):Int)) (.int 4)=some (.bl false):=by rfl
 have hO:=kG
 rw [Zn]
 unfold jC
 generalize wT=O at hi hO
 simp! [hO,yx,i1,i2,hi,kL,hs,hin,add_int,hl]
theorem kA {w:Str} {c d s n:Int} (hi:xv wT (.str w)=some (.int c)) (hs:zd (.str w) (.str "stop")=some (.bl false)) (hin:yY (.str w) (.tup [.str "set",.str "high",.str "left",.str "right"])=some (.bl false)) :
  vT [.tup [.str w,.int d,.int s,.int n]]=some (false,.int (c*134217728+d*16777216+s*2097152+n)):=by
 have i1:∀ {a b c e:D},zF (.tup [a,b,c,e]) (.int 1)=some b:=rfl
 have i2:∀ {a b c e:D},zF (.tup [a,b,c,e]) (.int 2)=some c:=rfl
 have i3:∀ {a b c e:D},zF (.tup [a,b,c,e]) (.int 3)=some e:=rfl
 have hl:zd (.int ((0+1+1+1+1:Nat):Int)) (.int 4)=some (.bl true):=by rfl
 have hO:=kG
 rw [Zn]
 unfold jC
 generalize wT=O at hi hO
 simp! [hO,yx,i1,i2,i3,hi,kL,hs,hin,add_int,hl]
end L3
namespace L3
open PySem
noncomputable def ZI:FS:=
 (zk (e2 (uj Builtin.bitAnd) (e2 Wm (z6 0) (z6 1)) (e2 xq (e2 qw (eC (.int 1)) (z6 2)) (eC (.int 1)))))
noncomputable def qe:List D->Option (Bool×D):=FR 3 3 ZI
theorem QM (x0 x1 x2:D):qe [x0,x1,x2]=yQ 3 ZI [x0,x1,x2]:=rfl
noncomputable def WK:FS:=
 (zk (zX qe (z8 (z6 0) (z8 (e2 zF (z6 1) (eC (.int 0))) (z8 (e2 zF (z6 1) (eC (.int 1))) zD)))))
noncomputable def ub:List D->Option (Bool×D):=FR 2 2 WK
theorem MU (x0 x1:D):ub [x0,x1]=yQ 2 WK [x0,x1]:=rfl
noncomputable def W4:FS:=
 (zk (zX ub (z8 (z6 0) (z8 (e1 (yy wq wt) (eC (.str "kind"))) zD))))
noncomputable def wV:List D->Option (Bool×D):=FR 1 1 W4
theorem MD (x0:D):wV [x0]=yQ 1 W4 [x0]:=rfl
noncomputable def Ho:FE:=(z6 2)
noncomputable def Ht:FT:=(tE (e2 zd (e1 (yy uk tH) (z6 2)) (z6 0)))
noncomputable def Hq:FE:=(z6 2)
noncomputable def Hu:FT:=(tE (e2 zd (e1 (yy q_ pA) (z6 2)) (z6 0)))
noncomputable def Hr:FE:=(z6 2)
noncomputable def Hv:FT:=(tE (e2 zd (e1 (yy qz p9) (z6 2)) (z6 0)))
noncomputable def Ow:FS:=
 (zI (wz 1 (w8 1 (iG uk) (yC 2) Ht Ho))
  (zI (YM 1 (w8 1 (iG q_) (yC 2) Hu Hq))
  (zI (YM 1 (w8 1 (iG qz) (yC 2) Hv Hr))
  (zI (qR 1) (zk (uh (tE (e2 zd (z6 1) (yb zD))) (eC .non) (e2 zF (z6 1) (eC (.int 0)))))))))
noncomputable def tq:List D->Option (Bool×D):=FR 1 2 Ow
noncomputable def Ov:FS:=
 (zk (e2 yY (z6 0) (eC (.lst pA))))
noncomputable def u2:List D->Option (Bool×D):=FR 1 1 Ov
noncomputable def Ou:FS:=
 (zk (e2 yY (z6 0) (eC (.lst p9))))
noncomputable def vi:List D->Option (Bool×D):=FR 1 1 Ou
noncomputable def ZH:FS:=
 (zI (zQ 3 (zX ub (z8 (z6 0) (z8 (zX xC (z8 (z6 1) (z8 (z6 2) zD))) zD))))
  (zI (zj (tE (e2 yl (z6 2) (eC (.str "mark"))))
   (zk (z6 3))
   yB)
  (zk (uh (tE (e2 (ye fun i j=>decide (i<j)) (z6 3) (eL xh (z8 (eC p8) zD)))) (e2 zF (eC p8) (z6 3)) (eC .non)))))
noncomputable def xo:List D->Option (Bool×D):=FR 3 4 ZH
theorem QL (x0 x1 x2:D):xo [x0,x1,x2]=yQ 4 ZH [x0,x1,x2]:=rfl
noncomputable def wU:FE:=(zX xo (z8 (z6 0) (z8 (z6 2) (z8 (z6 5) zD))))
noncomputable def gX:FS:=
 (zI (zQ 1 (zX wV (z8 (z6 0) zD)))
  (zI (zQ 2 (zX tq (z8 (z6 1) zD)))
  (zI (zj (tE (e2 gg (z6 2) (eC .non)))
   (zk (eC .non))
   yB)
  (zI (zQ 3 (eL Ze (z8 (e2 ze (yb (z8 (z6 2) zD)) (w8 1 (uo (ZT xU (z8 (z6 2) zD))) (yC 5) yk wU)) zD)))
  (zI (zj (tE (e2 yY (eC .non) (z6 3)))
   (zk (eC .non))
   yB)
  (zI (zQ 4 (uh (tE (zX u2 (z8 (z6 1) zD))) (zX vj (z8 (z6 0) (z8 (e1 (yy wq wt) (eC (.str "distance"))) (z8 (eC (.int 0)) zD)))) (z6 0)))
  (zk (uh (tE (e2 zd (zX vR (z8 (z6 3) (z8 (z6 1) zD))) (z6 4))) (z6 3) (eC .non)))))))))
noncomputable def xt:List D->Option (Bool×D):=FR 1 5 gX
theorem Ww (x0:D):xt [x0]=yQ 5 gX [x0]:=rfl
noncomputable def WL:FS:=
 (zI (zQ 2 (e2 qw (eC (.int 1)) (z6 1)))
  (zk (uh (tE (e2 (ye fun i j=>decide (i<j)) (e2 Zd (eC (.int 2)) (z6 0)) (z6 2))) (z6 0) (e2 xq (z6 0) (z6 2)))))
noncomputable def t_:List D->Option (Bool×D):=FR 2 3 WL
theorem MV (x0 x1:D):t_ [x0,x1]=yQ 3 WL [x0,x1]:=rfl
noncomputable def ZG:FS:=
 (zI (zj (tE (e2 (ye fun i j=>decide (j<=i)) (e2 ze (z6 1) (eC (.int 1))) (eL xh (z8 (z6 0) zD))))
   (zk (eC .non))
   yB)
  (zk (yX (z8 (z6 2) (z8 (e2 ze (z6 1) (eC (.int 2))) (z8 (e2 ze (z6 1) (zX t_ (z8 (e2 zF (z6 0) (e2 ze (z6 1) (eC (.int 1)))) (z8 (eC (.int 32)) zD)))) zD))))))
noncomputable def py:List D->Option (Bool×D):=FR 3 3 ZG
theorem QK (x0 x1 x2:D):py [x0,x1,x2]=yQ 3 ZG [x0,x1,x2]:=rfl
noncomputable def qF:FS:=
 (zI (zj (uz (tE (e2 (ye fun i j=>decide (i<j)) (z6 1) (eC (.int 0)))) (tE (e2 (ye fun i j=>decide (j<=i)) (z6 1) (eL xh (z8 (z6 0) zD)))))
   (zk (eC .non))
   yB)
  (zI (zQ 2 (zX xt (z8 (e2 zF (z6 0) (z6 1)) zD)))
  (zI (zj (tE (e2 gg (z6 2) (eC .non)))
   (zk (eC .non))
   yB)
  (zI (zQ 3 (zX wV (z8 (e2 zF (z6 0) (z6 1)) zD)))
  (zI (zj (tE (zX vi (z8 (z6 3) zD)))
   (zk (zX py (z8 (z6 0) (z8 (z6 1) (z8 (z6 2) zD)))))
   yB)
  (zI (zj (tE (zX u2 (z8 (z6 3) zD)))
   (zI (zQ 4 (e1 (yy wq wt) (eC (.str "distance"))))
    (zk (yX (z8 (z6 2) (z8 (e2 ze (z6 1) (eC (.int 1))) (z8 (e2 ze (z6 1) (zX t_ (z8 (zX ub (z8 (e2 zF (z6 0) (z6 1)) (z8 (z6 4) zD))) (z8 (e2 zF (z6 4) (eC (.int 1))) zD)))) zD))))))
   yB)
  (zk (yX (z8 (z6 2) (z8 (e2 ze (z6 1) (eC (.int 1))) (z8 (eC .non) zD)))))))))))
noncomputable def wf:List D->Option (Bool×D):=FR 2 5 qF
theorem jL (x0 x1:D):wf [x0,x1]=yQ 5 qF [x0,x1]:=rfl
noncomputable def j8:FS:=
 (zI (zQ 3 (e2 tF (e2 ze (e2 ze (eC (.int 18)) (e2 xv (yb (z8 (eC (.str "jump")) (z8 (eC (.str "when")) (z8 (eC (.str "unless")) zD)))) (e2 zF (z6 0) (eC (.int 0))))) (e2 Zd (eC (.int 3)) (eL qJ (z8 (z6 2) zD)))) (e2 vB (eC (.int 2)) (eC (.int 27)))))
  (zI (zj (tE (e2 yl (e2 zF (z6 0) (eC (.int 0))) (eC (.str "jump"))))
   (zQ 3 (e2 ze (z6 3) (e2 tF (e2 xv (yb (z8 (eC (.str "carry")) (z8 (eC (.str "nought")) (z8 (eC (.str "sign")) zD)))) (e2 zF (z6 0) (eC (.int 1)))) (e2 vB (eC (.int 2)) (eC (.int 24))))))
   yB)
  (zI (zj (tE (z6 2))
   (pS (yb (z8 (z6 3) (z8 (e2 yI (z6 1) (e2 vB (eC (.int 2)) (eC (.int 32)))) zD))))
   yB)
  (pS (yb (z8 (e2 ze (z6 3) (e2 yI (z6 1) (eC (.int 32)))) zD))))))
noncomputable def u7:List D->Option (Bool×D):=FR 3 4 j8
theorem Zj (x0 x1 x2:D):u7 [x0,x1,x2]=yQ 4 j8 [x0,x1,x2]:=rfl
noncomputable def j7:FS:=
 (zI (zQ 3 (e2 zF (z6 0) (z6 1)))
  (zI (zQ 4 (e2 zF (yb (z8 (eC (.str "jump")) (z8 (eC (.str "when")) (z8 (eC (.str "unless")) zD)))) (e2 yI (e2 xq (z6 2) (eC (.int 18))) (eC (.int 3)))))
  (zI (zQ 5 (e2 yI (e2 xK (z6 3) (e2 vB (eC (.int 2)) (eC (.int 24)))) (eC (.int 4))))
  (zI (zQ 6 (e2 (ye fun i j=>decide (j<i)) (z6 2) (eC (.int 20))))
  (zI (zj (uz (tE (e2 zd (z6 5) (eC (.int 3)))) (tE (e2 (ye fun i j=>decide (j<i)) (e2 ze (e2 ze (z6 1) (eC (.int 1))) (eL qJ (z8 (z6 6) zD))) (eL xh (z8 (z6 0) zD)))))
   (zk (eC .non))
   yB)
  (zI (zQ 7 (yX (z8 (eC (.str "jump")) zD)))
  (zI (zj (tE (e2 yl (z6 4) (eC (.str "jump"))))
   (zQ 7 (yX (z8 (z6 4) (z8 (e2 zF (yb (z8 (eC (.str "carry")) (z8 (eC (.str "nought")) (z8 (eC (.str "sign")) zD)))) (z6 5)) zD))))
   yB)
  (zI (zQ 8 (e2 yI (z6 3) (eC (.int 32))))
  (zI (zj (tE (e2 (ye fun i j=>decide (j<i)) (z6 8) (eC (.int 15))))
   (zQ 8 (e2 xq (z6 8) (eC (.int 32))))
   yB)
  (zI (zj (tE (z6 6))
   (zI (zQ 8 (e2 zF (z6 0) (e2 ze (z6 1) (eC (.int 1)))))
    (zj (tE (e2 (ye fun i j=>decide (j<i)) (z6 8) (eC (.int 2147483647))))
     (zQ 8 (e2 xq (z6 8) (e2 vB (eC (.int 2)) (eC (.int 32)))))
     yB))
   yB)
  (zI (zj (tE (e2 yl (e2 zF (zX u7 (z8 (z6 7) (z8 (z6 8) (z8 (z6 6) zD)))) (eC (.int 0))) (z6 3)))
   (zk (eC .non))
   yB)
  (zk (yX (z8 (z6 7) (z8 (e2 ze (e2 ze (z6 1) (eC (.int 1))) (eL qJ (z8 (z6 6) zD))) (z8 (e2 ze (z6 1) (z6 8)) zD))))))))))))))))
noncomputable def u5:List D->Option (Bool×D):=FR 3 9 j7
theorem Zi (x0 x1 x2:D):u5 [x0,x1,x2]=yQ 9 j7 [x0,x1,x2]:=rfl
noncomputable def jA:FS:=
 (zI (zj (YZ (tE (vw (ye fun i j=>decide (i<=j)) (ye fun i j=>decide (i<j)) (eC (.int 0)) (z6 1) (eL xh (z8 (z6 0) zD)))))
   (zk (eC .non))
   yB)
  (zI (zQ 2 (e2 zF (z6 0) (z6 1)))
  (zI (zQ 3 (e2 xK (z6 2) (e2 vB (eC (.int 2)) (eC (.int 27)))))
  (zI (zj (tE (e2 (ye fun i j=>decide (j<i)) (z6 3) (eC (.int 23))))
   (zk (eC .non))
   yB)
  (zI (zj (tE (e2 (ye fun i j=>decide (j<i)) (z6 3) (eC (.int 17))))
   (zk (zX u5 (z8 (z6 0) (z8 (z6 1) (z8 (z6 3) zD)))))
   yB)
  (zI (zQ 4 (e2 zF (zX gE zD) (z6 3)))
  (zI (zQ 5 (yX (z8 (z6 4) (z8 (e2 yI (e2 xK (z6 2) (e2 vB (eC (.int 2)) (eC (.int 24)))) (eC (.int 8))) (z8 (e2 yI (e2 xK (z6 2) (e2 vB (eC (.int 2)) (eC (.int 21)))) (eC (.int 8))) zD)))))
  (zI (zj (tE (e2 zd (z6 4) (eC (.str "stop"))))
   (zQ 5 (yX (z8 (eC (.str "stop")) zD)))
   (zj (tE (e2 yY (z6 4) (yX (z8 (eC (.str "set")) (z8 (eC (.str "high")) (z8 (eC (.str "left")) (z8 (eC (.str "right")) zD)))))))
     (zQ 5 (e2 ze (ui (z6 5) xY (xZ (eC (.int 2)))) (yX (z8 (e2 yI (z6 2) (e2 zF (yb (z8 (eC (.int 65536)) (z8 (eC (.int 32)) zD))) (eL qJ (z8 (e2 yY (z6 4) (yX (z8 (eC (.str "left")) (z8 (eC (.str "right")) zD)))) zD)))) zD))))
     (zj (tE (e2 (ye fun i j=>decide (j<i)) (z6 3) (eC (.int 13))))
       (zQ 5 (e2 ze (z6 5) (yX (z8 (e2 yI (z6 2) (eC (.int 256))) zD))))
       yB)))
  (zI (zj (tE (e2 yl (zX vT (z8 (z6 5) zD)) (z6 2)))
   (zk (eC .non))
   yB)
  (zk (yX (z8 (z6 5) (z8 (e2 ze (z6 1) (eC (.int 1))) (z8 (eC .non) zD))))))))))))))
noncomputable def vS:List D->Option (Bool×D):=FR 2 6 jA
theorem Zl (x0 x1:D):vS [x0,x1]=yQ 6 jA [x0,x1]:=rfl
theorem YB {x l W:Int} (l0:0<=l) (w0:0<=W) (w1:W<64):ub [.int x,.tup [.int l,.int W]]=some (false,.int (x / 2 ^ l.toNat % 2 ^ W.toNat)):=by
 have i0:zF (.tup [.int l,.int W]) (.int 0)=some (.int l):=rfl
 have i1:zF (.tup [.int l,.int W]) (.int 1)=some (.int W):=rfl
 have e1:=pM (i:=1) (j:=W) w0 w1 (by decide) (by decide)
 have p:qe [.int x,.int l,.int W]=some (false,.int (x / 2 ^ l.toNat % 2 ^ W.toNat)):=by
  rw [QM]
  unfold ZI
  simp! [e1,decide_eq_true l0,JM]
 rw [MU]
 unfold WK
 simp! [i0,i1,p]
theorem vZ {x:Int} (h0:0<=x) (h1:x<4294967296):wV [.int x]=some (false,.int (x / 134217728)):=by
 have hk:yy wq wt (.str "kind")=some (.tup [.int 27,.int 5]):=by rfl
 have n:ub [.int x,.tup [.int 27,.int 5]]=some (false,.int (x / 134217728 % 32)):=YB (by decide) (by decide) (by decide)
 rw [show x / 134217728 % 32=x / 134217728 by omega] at n
 rw [MD]
 unfold W4
 simp! [hk,n]
noncomputable def wu:List D:=[.str "stop",.str "set",.str "high",.str "copy",.str "add",.str "addc",.str "sub",.str "subc",.str "and",.str "or",.str "xor",.str "test",.str "left",.str "right",.str "load",.str "store",.str "loadw",.str "storew",.str "jump",.str "when",.str "unless",.str "jump",.str "when",.str "unless"]
theorem BM:(List.range 32).map (fun c:Nat=>tq [.int (c:Int)])=(List.range 32).map fun c=>some (false,wu.getD c .non):=by kernel_rfl
theorem D3:(List.range 32).map (fun c:Nat=>u2 [.int (c:Int)])=(List.range 32).map fun c=>some (false,.bl (decide (18<=c)&&decide (c<=20))):=by kernel_rfl
theorem Ly:(List.range 32).map (fun c:Nat=>vi [.int (c:Int)])=(List.range 32).map fun c=>some (false,.bl (decide (21<=c)&&decide (c<=23))):=by kernel_rfl
theorem VO {f g:Nat->Option (Bool×D)} (h:(List.range 32).map f=(List.range 32).map g) {n:Nat} (hn:n<32):f n=g n:=by
 have e:=congrArg (fun l=>l[n]?) h
 simp only [List.getElem?_map,List.getElem?_range hn,Option.map_some] at e
 exact Option.some.inj e
theorem ut {n:Nat} (h:n<32):tq [.int (n:Int)]=some (false,wu.getD n .non):=VO BM h
theorem uL {n:Nat} (h:n<32):u2 [.int (n:Int)]=some (false,.bl (decide (18<=n)&&decide (n<=20))):=VO D3 h
theorem tG {n:Nat} (h:n<32):vi [.int (n:Int)]=some (false,.bl (decide (21<=n)&&decide (n<=23))):=VO Ly h
theorem vD {x l W:Int} {k f:Str} (hp:xC [.str k,.str f]=some (false,.tup [.int l,.int W])) (hm:yl (.str f) (.str "mark")=some (.bl true)) (l0:0<=l) (w0:0<=W) (w1:W<64):xo [.int x,.str k,.str f]=some (false,.int (x / 2 ^ l.toNat % 2 ^ W.toNat)):=by
 have n:=YB (x:=x) l0 w0 w1
 rw [QL]
 unfold ZH
 simp! [hp,n,hm]
noncomputable def VJ:List D:=[.str "carry",.str "nought",.str "sign",.non]
theorem QO {x:Int} {k:Str} (hp:xC [.str k,.str "mark"]=some (false,.tup [.int 24,.int 2])):xo [.int x,.str k,.str "mark"]=some (false,VJ.getD (x / 16777216 % 4).toNat .non):=by
 have n:ub [.int x,.tup [.int 24,.int 2]]=some (false,.int (x / 16777216 % 4)):=YB (by decide) (by decide) (by decide)
 have hm:yl (.str "mark") (.str "mark")=some (.bl false):=by rfl
 rw [QL]
 unfold ZH
 rcases (show x / 16777216 % 4=0\/x / 16777216 % 4=1\/x / 16777216 % 4=2\/x / 16777216 % 4=3 by omega) with e | e | e | e<;>rw [e] at n ⊢
 ·have i:zF p8 (.int 0)=some (.str "carry"):=rfl
  simp only [shx,hp,n,hm,i]
  rfl
 ·have i:zF p8 (.int 1)=some (.str "nought"):=rfl
  simp only [shx,hp,n,hm,i]
  rfl
 ·have i:zF p8 (.int 2)=some (.str "sign"):=rfl
  simp only [shx,hp,n,hm,i]
  rfl
 ·simp only [shx,hp,n,hm]
  rfl
theorem uP {x c Z known:Int} {b:Bool} {k:Str} {fs R:List D} (hc:wV [.int x]=some (false,.int c)) (hk:tq [.int c]=some (false,.str k)) (hf:xU [.str k]=some (true,.lst fs))
  (hl:yg (yC 5) yk wU [some (false,.int x),some (false,.int c),some (false,.str k),none,none,none] fs=some R) (hn:yY .non (.tup (.str k::R))=some (.bl false)) (hR:R.length<=3) (hnear:u2 [.int c]=some (false,.bl b))
  (hw:b=true->vj [.int x,.tup [.int 0,.int 5],.int 0]=some (false,.int known)) (hb:b=false->known=x) (hz:vR [.tup (.str k::R),.int c]=some (false,.int Z)) :
  xt [.int x]=some (false,if Z=known then .tup (.str k::R) else .non):=by
 have ha:ze (.lst [.str k]) (.lst R)=some (.lst (.str k::R)):=by
  rw [ql (by simp only [List.length_cons,List.length_nil]; omega)]
  rfl
 have ht:Ze [.lst (.str k::R)]=some (.tup (.str k::R)):=rfl
 have hd:yy wq wt (.str "distance")=some (.tup [.int 0,.int 5]):=by rfl
 have hq:zd (.int Z) (.int known)=some (.bl (decide (Z=known))):=by
  by_cases e:Z=known
  ·rw [uq e,decide_eq_true e]
  ·rw [ve e,decide_eq_false e]
 rw [Ww]
 unfold gX
 cases b with
 | true=>
  have hw:=hw rfl
  by_cases e:Z=known
  ·rw [if_pos e]
   rw [decide_eq_true e] at hq
   simp! [hc,hk,hf,hl,ha,ht,hn,hnear,hd,hw,hz,hq]
  ·rw [if_neg e]
   rw [decide_eq_false e] at hq
   simp! [hc,hk,hf,hl,ha,ht,hn,hnear,hd,hw,hz,hq]
 | false=>
  cases hb rfl
  by_cases e:Z=x
  ·rw [if_pos e]
   rw [decide_eq_true e] at hq
   simp! [hc,hk,hf,hl,ha,ht,hn,hnear,hd,hz,hq]
  ·rw [if_neg e]
   rw [decide_eq_false e] at hq
   simp! [hc,hk,hf,hl,ha,ht,hn,hnear,hd,hz,hq]
theorem EG {x c:Int} {k:Str} {fs R:List D} {b:Bool} (hc:wV [.int x]=some (false,.int c)) (hk:tq [.int c]=some (false,.str k)) (hf:xU [.str k]=some (true,.lst fs))
  (hl:yg (yC 5) yk wU [some (false,.int x),some (false,.int c),some (false,.str k),none,none,none] fs=some R) (hn:yY .non (.tup (.str k::R))=some (.bl true)) (hR:R.length<=3) :
  xt [.int x]=some (false,.non):=by
 have ha:ze (.lst [.str k]) (.lst R)=some (.lst (.str k::R)):=by
  rw [ql (by simp only [List.length_cons,List.length_nil]; omega)]
  rfl
 have ht:Ze [.lst (.str k::R)]=some (.tup (.str k::R)):=rfl
 rw [Ww]
 unfold gX
 simp! [hc,hk,hf,hl,ha,ht,hn]
theorem EH {x c:Int} (hc:wV [.int x]=some (false,.int c)) (hk:tq [.int c]=some (false,.non)):xt [.int x]=some (false,.non):=by
 rw [Ww]
 unfold gX
 simp! [hc,hk]
end L3
namespace L3
open PySem
theorem Ih {n W:Int} (w0:0<=W) (w1:W<64):t_ [.int n,.int W]=some (false,.int (if 2*n<2 ^ W.toNat then n else n - 2 ^ W.toNat)):=by
 have e1:=pM (i:=1) (j:=W) w0 w1 (by decide) (by decide)
 have l2:wE 2=true:=by decide
 rw [MV]
 unfold WL
 by_cases c:2*n<2 ^ W.toNat
 ·rw [if_pos c]
  have c':decide (2*n<1*2 ^ W.toNat)=true:=decide_eq_true (by omega)
  simp! [e1,l2,c']
 ·rw [if_neg c]
  have c':decide (2*n<1*2 ^ W.toNat)=false:=decide_eq_false (by omega)
  simp! [e1,l2,c',decide_eq_false c,Int.one_mul]
theorem O7 {ws:List D} {a:Int} (h:a<0\/(ws.length:Int)<=a):wf [.lst ws,.int a]=some (false,.non):=by
 rw [jL]
 unfold qF
 by_cases c:a<0
 ·simp! [decide_eq_true c]
 ·have d:(ws.length:Int)<=a:=by omega
  simp! [decide_eq_false c,decide_eq_true d]
theorem Bf {ws:List D} {a:Int} (h:a<0\/(ws.length:Int)<=a):vS [.lst ws,.int a]=some (false,.non):=by
 rw [Zl]
 unfold jA
 by_cases c:a<0
 ·have c':decide (0<=a)=false:=decide_eq_false (by omega)
  simp! [vw,c']
 ·have c':decide (0<=a)=true:=decide_eq_true (by omega)
  have d:decide (a<(ws.length:Int))=false:=decide_eq_false (by omega)
  simp! [vw,c',d]
structure At (ws:List D) (a x:Int):Prop where
 a0:0<=a
 a1:a<(ws.length:Int)
 ix:zF (.lst ws) (.int a)=some (.int x)
 x0:0<=x
 x1:x<4294967296
section
variable {ws:List D} {a x:Int} (A:At ws a x)
include A
theorem At.cond {α:Type}:decide (a<0)=false/\decide ((ws.length:Int)<=a)=false/\decide (0<=a)=true/\decide (a<(ws.length:Int))=true:=by
 obtain ⟨a0,a1,_,_,_⟩:=A
 exact ⟨decide_eq_false (by omega),decide_eq_false (by omega),decide_eq_true a0,decide_eq_true a1⟩
theorem tU (hr:xt [.int x]=some (false,.non)):wf [.lst ws,.int a]=some (false,.non):=by
 obtain ⟨c1,c2,_,_⟩:=A.cond (α:=Nat)
 have ix:=A.ix
 rw [jL]
 unfold qF
 simp! [c1,c2,ix,hr]
theorem O8 {c:Int} {R:List D} (hc:wV [.int x]=some (false,.int c)) (hf:vi [.int c]=some (false,.bl false)) (hn:u2 [.int c]=some (false,.bl false)) (hr:xt [.int x]=some (false,.tup R)) :
  wf [.lst ws,.int a]=some (false,.tup [.tup R,.int (a+1),.non]):=by
 obtain ⟨c1,c2,_,_⟩:=A.cond (α:=Nat)
 have ix:=A.ix
 rw [jL]
 unfold qF
 simp! [c1,c2,ix,hr,hc,hf,hn,add_int]
theorem O6 {c:Int} {R:List D} (hc:wV [.int x]=some (false,.int c)) (hf:vi [.int c]=some (false,.bl false)) (hn:u2 [.int c]=some (false,.bl true)) (hr:xt [.int x]=some (false,.tup R)) :
  wf [.lst ws,.int a]=some (false,.tup [.tup R,.int (a+1),.int (a+(if 2*(x % 32)<32 then x % 32 else x % 32 - 32))]):=by
 obtain ⟨c1,c2,_,_⟩:=A.cond (α:=Nat)
 have ix:=A.ix
 have hk:yy wq wt (.str "distance")=some (.tup [.int 0,.int 5]):=by rfl
 have n:ub [.int x,.tup [.int 0,.int 5]]=some (false,.int (x / 1 % 32)):=YB (by decide) (by decide) (by decide)
 rw [Int.ediv_one] at n
 have s:t_ [.int (x % 32),.int 5]=some (false,.int (if 2*(x % 32)<32 then x % 32 else x % 32 - 32)):=Ih (by decide) (by decide)
 have i1:zF (.tup [.int 0,.int 5]) (.int 1)=some (.int 5):=rfl
 rw [jL]
 unfold qF
 generalize (if 2*(x % 32)<32 then x % 32 else x % 32 - 32)=S at s ⊢
 simp! [c1,c2,ix,hr,hc,hf,hn,hk,n,i1,s,add_int]
theorem O5 {c:Int} {R:List D} (hc:wV [.int x]=some (false,.int c)) (hf:vi [.int c]=some (false,.bl true)) (hr:xt [.int x]=some (false,.tup R)) {y:Int} (hy:zF (.lst ws) (.int (a+1))=some (.int y)) (hl:a+1<(ws.length:Int)) :
  wf [.lst ws,.int a]=some (false,.tup [.tup R,.int (a+2),.int (a+(if 2*y<4294967296 then y else y - 4294967296))]):=by
 obtain ⟨c1,c2,_,_⟩:=A.cond (α:=Nat)
 have ix:=A.ix
 have s:t_ [.int y,.int 32]=some (false,.int (if 2*y<4294967296 then y else y - 4294967296)):=Ih (by decide) (by decide)
 have d:decide ((ws.length:Int)<=a+1)=false:=decide_eq_false (by omega)
 have e:py [.lst ws,.int a,.tup R]=some (false,.tup [.tup R,.int (a+2),.int (a+(if 2*y<4294967296 then y else y - 4294967296))]):=by
  rw [QK]
  unfold ZG
  generalize (if 2*y<4294967296 then y else y - 4294967296)=S at s ⊢
  simp! [add_int,d,hy,s]
 rw [jL]
 unfold qF
 simp! [c1,c2,ix,hr,hc,hf,e]
theorem O4 {c:Int} {R:List D} (hc:wV [.int x]=some (false,.int c)) (hf:vi [.int c]=some (false,.bl true)) (hr:xt [.int x]=some (false,.tup R)) (hl:(ws.length:Int)<=a+1) :
  wf [.lst ws,.int a]=some (false,.non):=by
 obtain ⟨c1,c2,_,_⟩:=A.cond (α:=Nat)
 have ix:=A.ix
 have e:py [.lst ws,.int a,.tup R]=some (false,.non):=by
  rw [QK]
  unfold ZG
  simp! [add_int,decide_eq_true hl]
 rw [jL]
 unfold qF
 simp! [c1,c2,ix,hr,hc,hf,e]
theorem Bc (h:24<=x / 134217728):vS [.lst ws,.int a]=some (false,.non):=by
 obtain ⟨_,_,c3,c4⟩:=A.cond (α:=Nat)
 have ix:=A.ix
 have p27:xQ 2 27=true:=by decide
 have d:decide (23<x / 134217728)=true:=decide_eq_true (by omega)
 rw [Zl]
 unfold jA
 simp! [vw,c3,c4,ix,p27,d]
theorem tJ {r:D} (h0:18<=x / 134217728) (h1:x / 134217728<=23) (hj:u5 [.lst ws,.int a,.int (x / 134217728)]=some (false,r)):vS [.lst ws,.int a]=some (false,r):=by
 obtain ⟨_,_,c3,c4⟩:=A.cond (α:=Nat)
 have ix:=A.ix
 have p27:xQ 2 27=true:=by decide
 have d:decide (23<x / 134217728)=false:=decide_eq_false (by omega)
 have d2:decide (17<x / 134217728)=true:=decide_eq_true (by omega)
 rw [Zl]
 unfold jA
 simp! [vw,c3,c4,ix,p27,d,d2,hj]
theorem Y1 {c Z:Int} {k:Str} {R:List D} (hc:x / 134217728=c) (c1:c<=17) (hk:zF wT (.int c)=some (.str k))
  (hb:(zj (tE (e2 zd (z6 4) (eC (.str "stop"))))
   (zQ 5 (yX (z8 (eC (.str "stop")) zD)))
   (zj (tE (e2 yY (z6 4) (yX (z8 (eC (.str "set")) (z8 (eC (.str "high")) (z8 (eC (.str "left")) (z8 (eC (.str "right")) zD)))))))
     (zQ 5 (e2 ze (ui (z6 5) xY (xZ (eC (.int 2)))) (yX (z8 (e2 yI (z6 2) (e2 zF (yb (z8 (eC (.int 65536)) (z8 (eC (.int 32)) zD))) (eL qJ (z8 (e2 yY (z6 4) (yX (z8 (eC (.str "left")) (z8 (eC (.str "right")) zD)))) zD)))) zD))))
     (zj (tE (e2 (ye fun i j=>decide (j<i)) (z6 3) (eC (.int 13))))
       (zQ 5 (e2 ze (z6 5) (yX (z8 (e2 yI (z6 2) (eC (.int 256))) zD))))
       yB)))
    [some (false,.lst ws),some (false,.int a),some (false,.int x),some (false,.int c),some (false,.str k),some (false,.tup [.str k,.int (x / 16777216 % 8),.int (x / 2097152 % 8)])] =
    some (.nx [some (false,.lst ws),some (false,.int a),some (false,.int x),some (false,.int c),some (false,.str k),some (false,.tup R)]))
  (hw:vT [.tup R]=some (false,.int Z)):vS [.lst ws,.int a]=some (false,if Z=x then .tup [.tup R,.int (a+1),.non] else .non):=by
 obtain ⟨_,_,c3,c4⟩:=A.cond (α:=Nat)
 have ix:=A.ix
 obtain ⟨p27,p24,p21,_⟩:=kL
 have d:decide (23<c)=false:=decide_eq_false (by omega)
 have d2:decide (17<c)=false:=decide_eq_false (by omega)
 have hO:=kG
 rw [Zl]
 unfold jA
 generalize wT=O at hk hO
 have e16:(2:Int) ^ (24:Int).toNat=16777216:=by decide
 have e21:(2:Int) ^ (21:Int).toNat=2097152:=by decide
 have e27:(2:Int) ^ (27:Int).toNat=134217728:=by decide
 by_cases e:Z=x
 ·rw [if_pos e]
  have hq:=vx (uq e)
  generalize (zj (tE (e2 zd (z6 4) (eC (.str "stop")))) _ _)=B at hb ⊢
  simp! [vw,c3,c4,ix,p27,p24,p21,hc,d,d2,hO,hk,hb,hw,hq,add_int]
 ·rw [if_neg e]
  have hq:=vx (ve e)
  generalize (zj (tE (e2 zd (z6 4) (eC (.str "stop")))) _ _)=B at hb ⊢
  simp! [vw,c3,c4,ix,p27,p24,p21,hc,d,d2,hO,hk,hb,hw,hq]
end
end L3
namespace L3
open PySem
noncomputable def uY (ws:List D) (a:Int):Prop:=∃ r,wf [.lst ws,.int a]=some (false,r)/\vS [.lst ws,.int a]=some (false,r)/\(r=.non\/∃ R n t,r=.tup [.tup R,.int n,t]/\R.all yL=true/\yL t=true/\(t=.non\/∃ i:Int,t=.int i))
section
variable {ws:List D} {a x:Int} (A:At ws a x)
include A
theorem ZD {c Z:Int} {k:Str} {R:List D} (hR:(D.str k::R).all yL=true) (hc:wV [.int x]=some (false,.int c)) (hf:vi [.int c]=some (false,.bl false)) (hn:u2 [.int c]=some (false,.bl false))
  (hr:xt [.int x]=some (false,if Z=x then .tup (.str k::R) else .non)) (hl:vS [.lst ws,.int a]=some (false,if Z=x then .tup [.tup (.str k::R),.int (a+1),.non] else .non)):uY ws a:=by
 by_cases e:Z=x
 ·rw [if_pos e] at hr hl
  exact ⟨_,O8 A hc hf hn hr,hl,.inr ⟨_,_,_,rfl,hR,rfl,.inl rfl⟩⟩
 ·rw [if_neg e] at hr hl
  exact ⟨_,tU A hr,hl,.inl rfl⟩
theorem ZC {n:Nat} {k:Str} {W P:Int} {b:Bool} (hn:x / 134217728=(n:Int)) (n17:n<=17) (hk:wu.getD n .non=.str k) (ho:zF wT (.int (n:Int))=some (.str k)) (hf:xU [.str k]=some (true,.lst [.str "d",.str "n"])) (hd:xC [.str k,.str "d"]=some (false,.tup [.int 24,.int 3]))
  (hp:xC [.str k,.str "n"]=some (false,.tup [.int 0,.int W])) (w0:0<=W) (w1:W<=16) (hP:(2:Int) ^ W.toNat=P) (hdv:(2:Int) ^ W.toNat ∣ 16777216) (hi:xv wT (.str k)=some (.int (n:Int))) (hs:zd (.str k) (.str "stop")=some (.bl false))
  (hin:yY (.str k) (.tup [.str "set",.str "high",.str "left",.str "right"])=some (.bl true)) (hin2:yY (.str k) (.tup [.str "left",.str "right"])=some (.bl b)) (hix:zF (.lst [.int 65536,.int 32]) (.int (if b then 1 else 0))=some (.int P)):uY ws a:=by
 have x0:=A.x0
 have x1:=A.x1
 have p0:0<P:=by rw [<- hP]; exact Int.pow_pos (by decide)
 have hc:=vZ x0 x1
 rw [hn] at hc
 have hkk:=ut (n:=n) (by omega)
 rw [hk] at hkk
 have hnear:=uL (n:=n) (by omega)
 rw [decide_eq_false (show ¬ 18<=n by omega),Bool.false_and] at hnear
 have hfar:=tG (n:=n) (by omega)
 rw [decide_eq_false (show ¬ 21<=n by omega),Bool.false_and] at hfar
 have h1:xo [.int x,.str k,.str "d"]=some (false,.int (x / 16777216 % 8)):=vD hd (by rfl) (by decide) (by decide) (by decide)
 have h2:xo [.int x,.str k,.str "n"]=some (false,.int (x / 1 % P)):=by rw [<- hP]; exact vD hp (by rfl) (by decide) w0 (by omega)
 rw [Int.ediv_one] at h2
 have hfw:=Q7 (c:=(n:Int)) (d:=x / 16777216 % 8) (n:=x % P) hf hd hp (by omega) (by omega) w0 w1 (by omega) (by omega) (Int.emod_nonneg _ (by omega)) (by rw [hP]; exact Int.emod_lt_of_pos _ p0) hdv
 have hr:=uP (R:=[.int (x / 16777216 % 8),.int (x % P)]) hc hkk hf (by simp only [yg,yC.eq_1,yk,wU,shx,h1,h2]) (by rfl) (by simp) hnear (fun h=>by cases h) (fun _=>rfl) hfw
 refine ZD A rfl hc hfar hnear hr (Y1 A hn (by omega) ho ?_ (k9 hi hs hin))
 have sl:qx (.tup [.str k,.int (x / 16777216 % 8),.int (x / 2097152 % 8)]) none (some 2)=some (.tup [.str k,.int (x / 16777216 % 8)]):=by rfl
 have ad:ze (.tup [.str k,.int (x / 16777216 % 8)]) (.tup [.int (x % P)])=some (.tup [.str k,.int (x / 16777216 % 8),.int (x % P)]):=by rfl
 simp! [hs,hin,hin2,hix,ui,xY,xZ,sl,decide_eq_true p0,ad]
theorem t8 {n:Nat} {k:Str} (hn:x / 134217728=(n:Int)) (n13:n<=13) (hk:wu.getD n .non=.str k) (ho:zF wT (.int (n:Int))=some (.str k)) (hf:xU [.str k]=some (true,.lst [.str "d",.str "s"])) (hd:xC [.str k,.str "d"]=some (false,.tup [.int 24,.int 3]))
  (hp:xC [.str k,.str "s"]=some (false,.tup [.int 21,.int 3])) (hi:xv wT (.str k)=some (.int (n:Int))) (hs:zd (.str k) (.str "stop")=some (.bl false))
  (hin:yY (.str k) (.tup [.str "set",.str "high",.str "left",.str "right"])=some (.bl false)):uY ws a:=by
 have x0:=A.x0
 have x1:=A.x1
 have hc:=vZ x0 x1
 rw [hn] at hc
 have hkk:=ut (n:=n) (by omega)
 rw [hk] at hkk
 have hnear:=uL (n:=n) (by omega)
 rw [decide_eq_false (show ¬ 18<=n by omega),Bool.false_and] at hnear
 have hfar:=tG (n:=n) (by omega)
 rw [decide_eq_false (show ¬ 21<=n by omega),Bool.false_and] at hfar
 have h1:xo [.int x,.str k,.str "d"]=some (false,.int (x / 16777216 % 8)):=vD hd (by rfl) (by decide) (by decide) (by decide)
 have h2:xo [.int x,.str k,.str "s"]=some (false,.int (x / 2097152 % 8)):=vD hp (by rfl) (by decide) (by decide) (by decide)
 have hfw:=Q8 (c:=(n:Int)) (d:=x / 16777216 % 8) (s:=x / 2097152 % 8) hf hd hp (by omega) (by omega) (by omega) (by omega) (by omega) (by omega)
 have hr:=uP (R:=[.int (x / 16777216 % 8),.int (x / 2097152 % 8)]) hc hkk hf (by simp only [yg,yC.eq_1,yk,wU,shx,h1,h2]) (by rfl) (by simp) hnear (fun h=>by cases h) (fun _=>rfl) hfw
 refine ZD A rfl hc hfar hnear hr (Y1 A hn (by omega) ho ?_ (uv hi hs hin))
 have d13:decide (13<(n:Int))=false:=decide_eq_false (by omega)
 simp! [hs,hin,d13]
theorem ZB {n:Nat} {k:Str} (hn:x / 134217728=(n:Int)) (n14:14<=n) (n17:n<=17) (hk:wu.getD n .non=.str k) (ho:zF wT (.int (n:Int))=some (.str k)) (hf:xU [.str k]=some (true,.lst [.str "d",.str "s",.str "n"])) (hd:xC [.str k,.str "d"]=some (false,.tup [.int 24,.int 3]))
  (hp:xC [.str k,.str "s"]=some (false,.tup [.int 21,.int 3])) (hp2:xC [.str k,.str "n"]=some (false,.tup [.int 0,.int 8])) (hi:xv wT (.str k)=some (.int (n:Int))) (hs:zd (.str k) (.str "stop")=some (.bl false))
  (hin:yY (.str k) (.tup [.str "set",.str "high",.str "left",.str "right"])=some (.bl false)):uY ws a:=by
 have x0:=A.x0
 have x1:=A.x1
 have hc:=vZ x0 x1
 rw [hn] at hc
 have hkk:=ut (n:=n) (by omega)
 rw [hk] at hkk
 have hnear:=uL (n:=n) (by omega)
 rw [decide_eq_false (show ¬ 18<=n by omega),Bool.false_and] at hnear
 have hfar:=tG (n:=n) (by omega)
 rw [decide_eq_false (show ¬ 21<=n by omega),Bool.false_and] at hfar
 have h1:xo [.int x,.str k,.str "d"]=some (false,.int (x / 16777216 % 8)):=vD hd (by rfl) (by decide) (by decide) (by decide)
 have h2:xo [.int x,.str k,.str "s"]=some (false,.int (x / 2097152 % 8)):=vD hp (by rfl) (by decide) (by decide) (by decide)
 have h3:xo [.int x,.str k,.str "n"]=some (false,.int (x / 1 % 256)):=vD hp2 (by rfl) (by decide) (by decide) (by decide)
 rw [Int.ediv_one] at h3
 have hfw:=Q9 (c:=(n:Int)) (d:=x / 16777216 % 8) (s:=x / 2097152 % 8) (n:=x % 256) hf hd hp hp2 (by omega) (by omega) (by omega) (by omega) (by omega) (by omega) (by omega) (by omega)
 have hr:=uP (R:=[.int (x / 16777216 % 8),.int (x / 2097152 % 8),.int (x % 256)]) hc hkk hf (by simp only [yg,yC.eq_1,yk,wU,shx,h1,h2,h3]) (by rfl) (by simp) hnear (fun h=>by cases h) (fun _=>rfl) hfw
 refine ZD A rfl hc hfar hnear hr (Y1 A hn (by omega) ho ?_ (kA hi hs hin))
 have d13:decide (13<(n:Int))=true:=decide_eq_true (by omega)
 have ad:ze (.tup [.str k,.int (x / 16777216 % 8),.int (x / 2097152 % 8)]) (.tup [.int (x % 256)])=some (.tup [.str k,.int (x / 16777216 % 8),.int (x / 2097152 % 8),.int (x % 256)]):=by rfl
 have p0:decide ((0:Int)<256)=true:=rfl
 simp! [hs,hin,d13,p0,ad]
theorem Oi (hn:x / 134217728=0):uY ws a:=by
 have x0:=A.x0
 have x1:=A.x1
 have hc:=vZ x0 x1
 rw [hn] at hc
 have hkk:=ut (n:=0) (by decide)
 have hnear:=uL (n:=0) (by decide)
 have hfar:=tG (n:=0) (by decide)
 have hf:xU [.str "stop"]=some (true,.lst []):=by rfl
 have hfw:=gk (c:=0) (by decide) (by decide) hf
 have hr:=uP (R:=[]) (Z:=0) (known:=x) hc hkk hf rfl (by rfl) (by simp) hnear (fun h=>by cases h) (fun _=>rfl) hfw
 refine ZD A rfl hc hfar hnear hr (Y1 A hn (by decide) (by rfl) ?_ J1)
 have hs:zd (.str "stop") (.str "stop")=some (.bl true):=by rfl
 simp! [hs]
end
end L3
namespace L3
open PySem
theorem Qy (d:Int) (b:Bool):u7 [.tup [.str "jump"],.int d,.bl b]=some (true,.lst (match b with
  | true=>[.int (21*134217728),.int (d % 4294967296)]
  | false=>[.int (18*134217728+d % 32)])):=by
 have pw:xQ 2 27=true/\xQ 2 24=true/\xQ 2 32=true/\wE 134217728=true/\wE 16777216=true/\wE 3=true:=⟨by decide,by decide,by decide,by decide,by decide,by decide⟩
 have i0:xv (.lst [.str "jump",.str "when",.str "unless"]) (.str "jump")=some (.int 0):=by rfl
 have ne:yl (.str "jump") (.str "jump")=some (.bl false):=by rfl
 rw [Zj]
 unfold j8
 cases b
 ·simp! [yx,i0,pw,add_int,ne,Bool.false_eq_true,if_false]
 ·simp! [yx,i0,pw,add_int,ne,if_true]
theorem Qx {w k:Str} {c m:Int} (hi:xv (.lst [.str "jump",.str "when",.str "unless"]) (.str w)=some (.int c)) (hk:xv (.lst [.str "carry",.str "nought",.str "sign"]) (.str k)=some (.int m)) (ne:yl (.str w) (.str "jump")=some (.bl true)) (d:Int) (b:Bool) :
  u7 [.tup [.str w,.str k],.int d,.bl b]=some (true,.lst (match b with
  | true=>[.int ((21+c)*134217728+m*16777216),.int (d % 4294967296)]
  | false=>[.int ((18+c)*134217728+m*16777216+d % 32)])):=by
 have pw:xQ 2 27=true/\xQ 2 24=true/\xQ 2 32=true/\wE 134217728=true/\wE 16777216=true/\wE 3=true:=⟨by decide,by decide,by decide,by decide,by decide,by decide⟩
 have i1:zF (.tup [.str w,.str k]) (.int 1)=some (.str k):=rfl
 rw [Zj]
 unfold j8
 cases b
 ·simp! [yx,i1,hi,hk,pw,add_int,ne,Bool.false_eq_true,if_false,Int.add_zero]
 ·have e3:(18+c+3:Int)=21+c:=by omega
  simp! [yx,i1,hi,hk,pw,add_int,ne,if_true,e3]
section
variable {ws:List D} {a x:Int} (A:At ws a x)
include A
theorem VH {c:Int} {k:Str} (hk:zF (.lst [.str "jump",.str "when",.str "unless"]) (.int ((c - 18) % 3))=some (.str k)) (m3:x / 16777216 % 4=3):u5 [.lst ws,.int a,.int c]=some (false,.non):=by
 have ix:=A.ix
 have p24:xQ 2 24=true:=by decide
 have e3:zd (.int 3) (.int 3)=some (.bl true):=by rfl
 rw [Zi]
 unfold j7
 simp! [ix,hk,p24,m3,e3]
theorem Qu {c:Int} {k:Str} (hk:zF (.lst [.str "jump",.str "when",.str "unless"]) (.int ((c - 18) % 3))=some (.str k)) (hb:decide (20<c)=true) (hl:(ws.length:Int)<=a+1) (m3:x / 16777216 % 4≠3):u5 [.lst ws,.int a,.int c]=some (false,.non):=by
 have ix:=A.ix
 have p24:xQ 2 24=true:=by decide
 have e3:=ve m3
 have d:decide ((ws.length:Int)<a+1+1)=true:=decide_eq_true (by omega)
 rw [Zi]
 unfold j7
 simp! [ix,hk,p24,e3,hb,add_int,if_true,d]
theorem Qw {c B:Int} {k:Str} {R:List D} (hk:zF (.lst [.str "jump",.str "when",.str "unless"]) (.int ((c - 18) % 3))=some (.str k)) (hb:decide (20<c)=false) (m3:x / 16777216 % 4≠3)
  (hrow:(zj (tE (e2 yl (z6 4) (eC (.str "jump")))) (zQ 7 (yX (z8 (z6 4) (z8 (e2 zF (yb (z8 (eC (.str "carry")) (z8 (eC (.str "nought")) (z8 (eC (.str "sign")) zD)))) (z6 5)) zD)))) yB) [some (false,.lst ws),some (false,.int a),some (false,.int c),some (false,.int x),some (false,.str k),some (false,.int (x / 16777216 % 4)),some (false,.bl false),some (false,.tup [.str "jump"]),none] =
   some (.nx [some (false,.lst ws),some (false,.int a),some (false,.int c),some (false,.int x),some (false,.str k),some (false,.int (x / 16777216 % 4)),some (false,.bl false),some (false,.tup R),none]))
  (hj:∀ d:Int,u7 [.tup R,.int d,.bl false]=some (true,.lst [.int (B+d % 32)])) :
  u5 [.lst ws,.int a,.int c]=some (false,if B+x % 32=x then .tup [.tup R,.int (a+1),.int (a+(if 2*(x % 32)<32 then x % 32 else x % 32 - 32))] else .non):=by
 have ix:=A.ix
 have a1:=A.a1
 have p24:xQ 2 24=true:=by decide
 have e3:=ve m3
 have d:decide ((ws.length:Int)<a+1+0)=false:=decide_eq_false (by omega)
 have d':decide ((ws.length:Int)<a+1)=false:=decide_eq_false (by omega)
 have i0:∀ v:D,zF (.lst [v]) (.int 0)=some v:=fun _=>rfl
 rw [Zi]
 unfold j7
 generalize (zj (tE (e2 yl (z6 4) (eC (.str "jump")))) _ _)=RJ at hrow ⊢
 by_cases h:15<x % 32
 ·have hd:decide (15<x % 32)=true:=decide_eq_true h
  have hs:¬ 2*(x % 32)<32:=by omega
  have hw:=hj (x % 32 - 32)
  rw [show (x % 32 - 32) % 32=x % 32 by omega] at hw
  rw [if_neg hs]
  by_cases e:B+x % 32=x
  ·rw [if_pos e]
   have hq:=vx (uq e)
   simp! [ix,hk,p24,e3,hb,add_int,Bool.false_eq_true,if_false,d,d',Int.add_zero,hrow,hd,hw,i0,hq]
  ·rw [if_neg e]
   have hq:=vx (ve e)
   simp! [ix,hk,p24,e3,hb,add_int,Bool.false_eq_true,if_false,d,d',Int.add_zero,hrow,hd,hw,i0,hq]
 ·have hd:decide (15<x % 32)=false:=decide_eq_false h
  have hs:2*(x % 32)<32:=by omega
  have hw:=hj (x % 32)
  rw [show (x % 32) % 32=x % 32 by omega] at hw
  rw [if_pos hs]
  by_cases e:B+x % 32=x
  ·rw [if_pos e]
   have hq:=vx (uq e)
   simp! [ix,hk,p24,e3,hb,add_int,Bool.false_eq_true,if_false,d,d',Int.add_zero,hrow,hd,hw,i0,hq]
  ·rw [if_neg e]
   have hq:=vx (ve e)
   simp! [ix,hk,p24,e3,hb,add_int,Bool.false_eq_true,if_false,d,d',Int.add_zero,hrow,hd,hw,i0,hq]
end
end L3
namespace L3
open PySem
section
variable {ws:List D} {a x:Int} (A:At ws a x)
include A
theorem Qv {c B y:Int} {k:Str} {R:List D} (hk:zF (.lst [.str "jump",.str "when",.str "unless"]) (.int ((c - 18) % 3))=some (.str k)) (hb:decide (20<c)=true) (m3:x / 16777216 % 4≠3) (hy:zF (.lst ws) (.int (a+1))=some (.int y)) (hl:a+1<(ws.length:Int))
  (hrow:(zj (tE (e2 yl (z6 4) (eC (.str "jump")))) (zQ 7 (yX (z8 (z6 4) (z8 (e2 zF (yb (z8 (eC (.str "carry")) (z8 (eC (.str "nought")) (z8 (eC (.str "sign")) zD)))) (z6 5)) zD)))) yB) [some (false,.lst ws),some (false,.int a),some (false,.int c),some (false,.int x),some (false,.str k),some (false,.int (x / 16777216 % 4)),some (false,.bl true),some (false,.tup [.str "jump"]),none] =
   some (.nx [some (false,.lst ws),some (false,.int a),some (false,.int c),some (false,.int x),some (false,.str k),some (false,.int (x / 16777216 % 4)),some (false,.bl true),some (false,.tup R),none]))
  (hj:∀ d:Int,u7 [.tup R,.int d,.bl true]=some (true,.lst [.int B,.int (d % 4294967296)])) :
  u5 [.lst ws,.int a,.int c]=some (false,if B=x then .tup [.tup R,.int (a+2),.int (a+(if 2*y<4294967296 then y else y - 4294967296))] else .non):=by
 have ix:=A.ix
 have p24:xQ 2 24=true:=by decide
 have p32:xQ 2 32=true:=by decide
 have e3:=ve m3
 have d:decide ((ws.length:Int)<a+1+1)=false:=decide_eq_false (by omega)
 have e11:a+1+1=a+2:=by omega
 have d2:decide ((ws.length:Int)<a+2)=false:=decide_eq_false (by omega)
 have i0:∀ v u:D,zF (.lst [v,u]) (.int 0)=some v:=fun _ _=>rfl
 rw [Zi]
 unfold j7
 generalize (zj (tE (e2 yl (z6 4) (eC (.str "jump")))) _ _)=RJ at hrow ⊢
 obtain ⟨h1,e1⟩:∃ h1,decide (15<x % 32)=h1:=⟨_,rfl⟩
 obtain ⟨h2,e2⟩:∃ h2,decide (2147483647<y)=h2:=⟨_,rfl⟩
 obtain ⟨h3,e3'⟩:∃ h3,decide (B=x)=h3:=⟨_,rfl⟩
 have hq:yl (.int B) (.int x)=some (.bl (!h3)):=by
  cases h3
  ·exact vx (ve (of_decide_eq_false e3'))
  ·exact vx (uq (of_decide_eq_true e3'))
 have hS:(if 2*y<4294967296 then y else y - 4294967296)=(bif h2 then y - 4294967296 else y):=by
  cases h2
  ·have:=of_decide_eq_false e2
   rw [if_pos (by omega)]
   rfl
  ·have:=of_decide_eq_true e2
   rw [if_neg (by omega)]
   rfl
 have hB:∀ u v:D,(if B=x then u else v)=(bif h3 then u else v):=fun u v=>by
  cases h3
  ·rw [if_neg (of_decide_eq_false e3')]
   rfl
  ·rw [if_pos (of_decide_eq_true e3')]
   rfl
 rw [hS,hB]
 have hw:=hj
 cases h1<;>cases h2<;>cases h3<;>simp! [ix,hk,p24,p32,e3,hb,add_int,if_true,d,d2,hrow,e1,hy,e2,hw,i0,hq,e11,cond_true,cond_false]
theorem TF {c B:Int} {k:Str} {R:List D} (hR:(D.str k::R).all yL=true) (h0:18<=x / 134217728) (h1:x / 134217728<=20) (hc:wV [.int x]=some (false,.int c)) (hf:vi [.int c]=some (false,.bl false)) (hn:u2 [.int c]=some (false,.bl true))
  (hr:xt [.int x]=some (false,if B=x+(0 - x % 32)*1 then .tup (.str k::R) else .non)) (hl:u5 [.lst ws,.int a,.int (x / 134217728)]=some (false,if B+x % 32=x then .tup [.tup (.str k::R),.int (a+1),.int (a+(if 2*(x % 32)<32 then x % 32 else x % 32 - 32))] else .non)):uY ws a:=by
 by_cases e:B+x % 32=x
 ·rw [if_pos (show B=x+(0 - x % 32)*1 by omega)] at hr
  rw [if_pos e] at hl
  exact ⟨_,O6 A hc hf hn hr,tJ A h0 (by omega) hl,.inr ⟨_,_,_,rfl,hR,rfl,.inr ⟨_,rfl⟩⟩⟩
 ·rw [if_neg (show ¬ B=x+(0 - x % 32)*1 by omega)] at hr
  rw [if_neg e] at hl
  exact ⟨_,tU A hr,tJ A h0 (by omega) hl,.inl rfl⟩
theorem TB {c B y:Int} {k:Str} {R:List D} (hR:(D.str k::R).all yL=true) (h0:21<=x / 134217728) (h1:x / 134217728<=23) (hc:wV [.int x]=some (false,.int c)) (hf:vi [.int c]=some (false,.bl true)) (hy:zF (.lst ws) (.int (a+1))=some (.int y)) (hl':a+1<(ws.length:Int))
  (hr:xt [.int x]=some (false,if B=x then .tup (.str k::R) else .non)) (hl:u5 [.lst ws,.int a,.int (x / 134217728)]=some (false,if B=x then .tup [.tup (.str k::R),.int (a+2),.int (a+(if 2*y<4294967296 then y else y - 4294967296))] else .non)):uY ws a:=by
 by_cases e:B=x
 ·rw [if_pos e] at hr hl
  exact ⟨_,O5 A hc hf hr hy hl',tJ A (by omega) h1 hl,.inr ⟨_,_,_,rfl,hR,rfl,.inr ⟨_,rfl⟩⟩⟩
 ·rw [if_neg e] at hr hl
  exact ⟨_,tU A hr,tJ A (by omega) h1 hl,.inl rfl⟩
theorem Ql:vj [.int x,.tup [.int 0,.int 5],.int 0]=some (false,.int (x+(0 - x % 32)*1)):=by
 have h:=Ym (x:=x) (l:=0) (d:=5) (n:=0) ⟨⟨A.x0,by decide,by decide,by decide,by decide⟩,by decide,by decide⟩
 rw [h]
 have e:x / 2 ^ (0:Int).toNat % 2 ^ (5:Int).toNat=x % 32:=by
  show x / 1 % 32=x % 32
  rw [Int.ediv_one]
 rw [e]
 rfl
theorem TC {n:Nat} (hn:x / 134217728=(n:Int)) (h:n=18\/n=21) (hws:∀ i:Nat,∀ d,ws[i]?=some d->∃ y:Int,d=.int y):uY ws a:=by
 have x0:=A.x0
 have x1:=A.x1
 have a0:=A.a0
 have hc:=vZ x0 x1
 rw [hn] at hc
 have hkk:=ut (n:=n) (by omega)
 have hf:xU [.str "jump"]=some (true,.lst []):=by rfl
 have hfw:=gk (c:=(n:Int)) (by omega) (by omega) hf
 have hne:yl (.str "jump") (.str "jump")=some (.bl false):=by rfl
 have hnear:=uL (n:=n) (by omega)
 have hfar:=tG (n:=n) (by omega)
 rcases h with rfl | rfl
 ·have hr:=uP (R:=[]) (known:=x+(0 - x % 32)*1) hc hkk hf rfl (by rfl) (by decide) hnear (fun _=>Ql A) (fun h=>by cases h) hfw
  by_cases m3:x / 16777216 % 4=3
  ·have hz:¬ ((18:Nat):Int)*134217728=x+(0 - x % 32)*1:=by omega
   rw [if_neg hz] at hr
   exact ⟨_,tU A hr,tJ A (by omega) (by omega) (VH A (k := "jump") (by rw [hn]; rfl) m3),.inl rfl⟩
  ·refine TF A rfl (by omega) (by omega) hc hfar hnear hr ?_
   rw [hn]
   refine Qw A (k := "jump") (by rfl) (by rfl) m3 ?_ fun d=>Qy d false
   simp! [hne]
 ·have hr:=uP (R:=[]) (known:=x) hc hkk hf rfl (by rfl) (by decide) hnear (fun h=>by cases h) (fun _=>rfl) hfw
  by_cases m3:x / 16777216 % 4=3
  ·have hz:¬ ((21:Nat):Int)*134217728=x:=by omega
   rw [if_neg hz] at hr
   exact ⟨_,tU A hr,tJ A (by omega) (by omega) (VH A (k := "jump") (by rw [hn]; rfl) m3),.inl rfl⟩
  ·by_cases hl:a+1<(ws.length:Int)
   ·obtain ⟨y,hy⟩:=hws (a.toNat+1) _ (List.getElem?_eq_getElem (by omega))
    have hy':zF (.lst ws) (.int (a+1))=some (.int y):=uD (by omega) (by rw [show (a+1).toNat=a.toNat+1 by omega,List.getElem?_eq_getElem (by omega),hy])
    refine TB A rfl (by omega) (by omega) hc hfar hy' hl hr ?_
    rw [hn]
    refine Qv A (k := "jump") (by rfl) (by rfl) m3 hy' hl ?_ fun d=>Qy d true
    simp! [hne]
   ·refine ⟨.non,?_,tJ A (by omega) (by omega) (Qu A (k := "jump") (by rw [hn]; rfl) (by rw [hn]; rfl) (by omega) m3),.inl rfl⟩
    by_cases e:((21:Nat):Int)*134217728=x
    ·rw [if_pos e] at hr
     exact O4 A hc hfar hr (by omega)
    ·rw [if_neg e] at hr
     exact tU A hr
theorem ZA {n:Nat} {q:Int} {k:Str} (hn:x / 134217728=(n:Int)) (h:(n:Int)=18+q\/(n:Int)=21+q) (q0:1<=q) (q1:q<=2) (hk:wu.getD n .non=.str k) (hix:zF (.lst [.str "jump",.str "when",.str "unless"]) (.int (((n:Int) - 18) % 3))=some (.str k))
  (hi:xv (.lst [.str "jump",.str "when",.str "unless"]) (.str k)=some (.int q)) (hne:yl (.str k) (.str "jump")=some (.bl true)) (hf:xU [.str k]=some (true,.lst [.str "mark"])) (hp:xC [.str k,.str "mark"]=some (false,.tup [.int 24,.int 2]))
  (hws:∀ i:Nat,∀ d,ws[i]?=some d->∃ y:Int,d=.int y):uY ws a:=by
 have x0:=A.x0
 have x1:=A.x1
 have a0:=A.a0
 have hc:=vZ x0 x1
 rw [hn] at hc
 have hkk:=ut (n:=n) (by omega)
 rw [hk] at hkk
 have hm:=QO (x:=x) hp
 have hnear:=uL (n:=n) (by omega)
 have hfar:=tG (n:=n) (by omega)
 by_cases m3:x / 16777216 % 4=3
 ·rw [m3] at hm
  have hr:=EG (R:=[.non]) (b:=true) hc hkk hf (by simp only [yg,yC.eq_1,yk,wU,shx,hm]; rfl) (by rfl) (by simp)
  exact ⟨_,tU A hr,tJ A (by omega) (by omega) (VH A (by rw [hn]; exact hix) m3),.inl rfl⟩
 ·obtain ⟨mk,hmk,hme,hmi,hmt⟩:∃ mk:Str,VJ.getD (x / 16777216 % 4).toNat .non=.str mk/\zF (.lst [.str "carry",.str "nought",.str "sign"]) (.int (x / 16777216 % 4))=some (.str mk)/\xv (.lst [.str "carry",.str "nought",.str "sign"]) (.str mk)=some (.int (x / 16777216 % 4))/\gj gn (.str mk)=some (.int (x / 16777216 % 4)):=by
   rcases (show x / 16777216 % 4=0\/x / 16777216 % 4=1\/x / 16777216 % 4=2 by omega) with e | e | e<;>rw [e]
   ·exact ⟨"carry",rfl,rfl,by rfl,by rfl⟩
   ·exact ⟨"nought",rfl,rfl,by rfl,by rfl⟩
   ·exact ⟨"sign",rfl,rfl,by rfl,by rfl⟩
  rw [hmk] at hm
  have hfw:=Wp (c:=(n:Int)) (m:=x / 16777216 % 4) (k:=mk) hf hp hmt (by omega) (by omega) (by omega) (by omega)
  have hl1:yg (yC 5) yk wU [some (false,.int x),some (false,.int (n:Int)),some (false,.str k),none,none,none] [.str "mark"]=some [.str mk]:=by simp only [yg,yC.eq_1,yk,wU,shx,hm]
  rcases h with h | h
  ·rw [decide_eq_true (show 18<=n by omega),decide_eq_true (show n<=20 by omega),Bool.and_self] at hnear
   rw [decide_eq_false (show ¬ 21<=n by omega),Bool.false_and] at hfar
   have hr:=uP (R:=[.str mk]) (known:=x+(0 - x % 32)*1) hc hkk hf hl1 (by rfl) (by simp) hnear (fun _=>Ql A) (fun h=>by cases h) hfw
   refine TF A rfl (by omega) (by omega) hc hfar hnear hr ?_
   rw [hn]
   refine Qw A hix (decide_eq_false (by omega)) m3 ?_ fun d=>by rw [h]; exact Qx hi hmi hne d false
   simp! [hne,hme]
  ·rw [decide_eq_false (show ¬ n<=20 by omega),Bool.and_false] at hnear
   rw [decide_eq_true (show 21<=n by omega),decide_eq_true (show n<=23 by omega),Bool.and_self] at hfar
   have hr:=uP (R:=[.str mk]) (known:=x) hc hkk hf hl1 (by rfl) (by simp) hnear (fun h=>by cases h) (fun _=>rfl) hfw
   by_cases hl:a+1<(ws.length:Int)
   ·obtain ⟨y,hy⟩:=hws (a.toNat+1) _ (List.getElem?_eq_getElem (by omega))
    have hy':zF (.lst ws) (.int (a+1))=some (.int y):=uD (by omega) (by rw [show (a+1).toNat=a.toNat+1 by omega,List.getElem?_eq_getElem (by omega),hy])
    refine TB A rfl (by omega) (by omega) hc hfar hy' hl hr ?_
    rw [hn]
    refine Qv A hix (decide_eq_true (by omega)) m3 hy' hl ?_ fun d=>by rw [h]; exact Qx hi hmi hne d true
    simp! [hne,hme]
   ·refine ⟨.non,?_,tJ A (by omega) (by omega) (Qu A (by rw [hn]; exact hix) (by rw [hn]; exact decide_eq_true (by omega)) (by omega) m3),.inl rfl⟩
    by_cases e:(n:Int)*134217728+x / 16777216 % 4*16777216=x
    ·rw [if_pos e] at hr
     exact O4 A hc hfar hr (by omega)
    ·rw [if_neg e] at hr
     exact tU A hr
end
theorem Oh {ns:List Int} (h:∀ m∈ns,0<=m/\m<4294967296) (a:Int):uY (ns.map D.int) a:=by
 by_cases hr:0<=a/\a<((ns.map D.int).length:Int)
 case neg=>exact ⟨_,O7 (by omega),Bf (by omega),.inl rfl⟩
 obtain ⟨a0,a1⟩:=hr
 have a1':a.toNat<ns.length:=by rw [List.length_map] at a1; omega
 have hm:=h _ (List.getElem_mem a1')
 obtain ⟨x,hx⟩:∃ x,x=ns[a.toNat]:=⟨_,rfl⟩
 rw [<- hx] at hm
 have A:At (ns.map D.int) a x:=⟨a0,a1,uD a0 (by rw [List.getElem?_map,List.getElem?_eq_getElem a1',hx]; rfl),hm.1,hm.2⟩
 have hws:∀ i:Nat,∀ d,(ns.map D.int)[i]?=some d->∃ y:Int,d=.int y:=fun i d hd=>by
  rw [List.getElem?_map] at hd
  cases e:ns[i]? with
  | none=>rw [e] at hd; cases hd
  | some y=>rw [e] at hd; cases hd; exact ⟨y,rfl⟩
 obtain ⟨n,hn⟩:=Int.eq_ofNat_of_zero_le (show 0<=x / 134217728 by omega)
 have hn:x / 134217728=(n:Int):=hn
 by_cases hh:24<=n
 ·have hc:=vZ hm.1 hm.2
  rw [hn] at hc
  have hkk:=ut (n:=n) (by omega)
  rw [show wu.getD n .non=.non from by rw [List.getD_eq_getElem?_getD,List.getElem?_eq_none (by show 24<=n; exact hh)]; rfl] at hkk
  exact ⟨_,tU A (EH hc hkk),Bc A (by omega),.inl rfl⟩
 ·rcases (show n=0\/n=1\/n=2\/n=3\/n=4\/n=5\/n=6\/n=7\/n=8\/n=9\/n=10\/n=11\/n=12\/n=13\/n=14\/n=15\/n=16\/n=17\/n=18\/n=19\/n=20\/n=21\/n=22\/n=23 by omega) with
   rfl | rfl | rfl | rfl | rfl | rfl | rfl | rfl | rfl | rfl | rfl | rfl | rfl | rfl | rfl | rfl | rfl | rfl | rfl | rfl | rfl | rfl | rfl | rfl
  ·exact Oi A hn
  ·exact ZC A (W:=16) (P:=65536) hn (by decide) rfl (by rfl) (by rfl) (by rfl) (by rfl) (by decide) (by decide) (by decide) (by decide) (by rfl) (by rfl) (by rfl) (by rfl) (by rfl)
  ·exact ZC A (W:=16) (P:=65536) hn (by decide) rfl (by rfl) (by rfl) (by rfl) (by rfl) (by decide) (by decide) (by decide) (by decide) (by rfl) (by rfl) (by rfl) (by rfl) (by rfl)
  ·exact t8 A hn (by decide) rfl (by rfl) (by rfl) (by rfl) (by rfl) (by rfl) (by rfl) (by rfl)
  ·exact t8 A hn (by decide) rfl (by rfl) (by rfl) (by rfl) (by rfl) (by rfl) (by rfl) (by rfl)
  ·exact t8 A hn (by decide) rfl (by rfl) (by rfl) (by rfl) (by rfl) (by rfl) (by rfl) (by rfl)
  ·exact t8 A hn (by decide) rfl (by rfl) (by rfl) (by rfl) (by rfl) (by rfl) (by rfl) (by rfl)
  ·exact t8 A hn (by decide) rfl (by rfl) (by rfl) (by rfl) (by rfl) (by rfl) (by rfl) (by rfl)
  ·exact t8 A hn (by decide) rfl (by rfl) (by rfl) (by rfl) (by rfl) (by rfl) (by rfl) (by rfl)
  ·exact t8 A hn (by decide) rfl (by rfl) (by rfl) (by rfl) (by rfl) (by rfl) (by rfl) (by rfl)
  ·exact t8 A hn (by decide) rfl (by rfl) (by rfl) (by rfl) (by rfl) (by rfl) (by rfl) (by rfl)
  ·exact t8 A hn (by decide) rfl (by rfl) (by rfl) (by rfl) (by rfl) (by rfl) (by rfl) (by rfl)
  ·exact ZC A (W:=5) (P:=32) hn (by decide) rfl (by rfl) (by rfl) (by rfl) (by rfl) (by decide) (by decide) (by decide) (by decide) (by rfl) (by rfl) (by rfl) (by rfl) (by rfl)
  ·exact ZC A (W:=5) (P:=32) hn (by decide) rfl (by rfl) (by rfl) (by rfl) (by rfl) (by decide) (by decide) (by decide) (by decide) (by rfl) (by rfl) (by rfl) (by rfl) (by rfl)
  ·exact ZB A hn (by decide) (by decide) rfl (by rfl) (by rfl) (by rfl) (by rfl) (by rfl) (by rfl) (by rfl) (by rfl)
  ·exact ZB A hn (by decide) (by decide) rfl (by rfl) (by rfl) (by rfl) (by rfl) (by rfl) (by rfl) (by rfl) (by rfl)
  ·exact ZB A hn (by decide) (by decide) rfl (by rfl) (by rfl) (by rfl) (by rfl) (by rfl) (by rfl) (by rfl) (by rfl)
  ·exact ZB A hn (by decide) (by decide) rfl (by rfl) (by rfl) (by rfl) (by rfl) (by rfl) (by rfl) (by rfl) (by rfl)
  ·exact TC A hn (.inl rfl) hws
  ·exact ZA A (q:=1) hn (.inl rfl) (by decide) (by decide) rfl (by rfl) (by rfl) (by rfl) (by rfl) (by rfl) hws
  ·exact ZA A (q:=2) hn (.inl rfl) (by decide) (by decide) rfl (by rfl) (by rfl) (by rfl) (by rfl) (by rfl) hws
  ·exact TC A hn (.inr rfl) hws
  ·exact ZA A (q:=1) hn (.inr rfl) (by decide) (by decide) rfl (by rfl) (by rfl) (by rfl) (by rfl) (by rfl) hws
  ·exact ZA A (q:=2) hn (.inr rfl) (by decide) (by decide) rfl (by rfl) (by rfl) (by rfl) (by rfl) (by rfl) hws
end L3
namespace L3
open PySem
noncomputable def zW (n:Int):Str:=Str.ofString (toString n)
end L3
namespace L3
open PySem
structure j6 (r:D) (v:Int):Prop where
 v0:0<=v
 v1:v<4294967296
 c:∃ n:Nat,n<=17/\v / 134217728=(n:Int)
 r:xt [.int v]=some (false,r)
theorem Yl {k:Str} {n:Nat} {v:Int} {R fs:List D} (v0:0<=v) (v1:v<4294967296) (n17:n<=17) (hv:v / 134217728=(n:Int)) (hk:wu.getD n .non=.str k) (hc:yy uk tH (.str k)=some (.int (n:Int))) (hf:xU [.str k]=some (true,.lst fs))
  (hl:yg (yC 5) yk wU [some (false,.int v),some (false,.int (n:Int)),some (false,.str k),none,none,none] fs=some R) (hn:yY .non (.tup (.str k::R))=some (.bl false)) (hR:R.length<=3) (hz:vR [.tup (.str k::R),.int (n:Int)]=some (false,.int v)):j6 (.tup (.str k::R)) v:=by
 refine ⟨v0,v1,⟨n,n17,hv⟩,?_⟩
 ·have hcc:=vZ v0 v1
  rw [hv] at hcc
  have hkk:=ut (n:=n) (by omega)
  rw [hk] at hkk
  have hnear:=uL (n:=n) (by omega)
  rw [decide_eq_false (show ¬ 18<=n by omega),Bool.false_and] at hnear
  have:=uP hcc hkk hf hl hn hR hnear (fun h=>by cases h) (fun _=>rfl) hz
  rw [this,if_pos rfl]
theorem Yk {n:Nat} {k:Str} {W P d m:Int} (n17:n<=17) (hk:wu.getD n .non=.str k) (hc:yy uk tH (.str k)=some (.int (n:Int))) (hf:xU [.str k]=some (true,.lst [.str "d",.str "n"])) (hd:xC [.str k,.str "d"]=some (false,.tup [.int 24,.int 3]))
  (hp:xC [.str k,.str "n"]=some (false,.tup [.int 0,.int W])) (w0:0<=W) (w1:W<=16) (hP:(2:Int) ^ W.toNat=P) (hdv:(2:Int) ^ W.toNat ∣ 16777216) (d0:0<=d) (d1:d<8) (m0:0<=m) (m1:m<P) (hP2:P<=65536) (hx:((n:Int)*134217728+d*16777216+m) % P=m):j6 (.tup [.str k,.int d,.int m]) ((n:Int)*134217728+d*16777216+m):=by
 have hfw:=Q7 (c:=(n:Int)) (d:=d) (n:=m) hf hd hp (by omega) (by omega) w0 w1 d0 d1 m0 (by rw [hP]; exact m1) hdv
 have h1:xo [.int ((n:Int)*134217728+d*16777216+m),.str k,.str "d"]=some (false,.int (((n:Int)*134217728+d*16777216+m) / 16777216 % 8)):=vD hd (by rfl) (by decide) (by decide) (by decide)
 have h2:xo [.int ((n:Int)*134217728+d*16777216+m),.str k,.str "n"]=some (false,.int (((n:Int)*134217728+d*16777216+m) / 1 % P)):=by rw [<- hP]; exact vD hp (by rfl) (by decide) w0 (by omega)
 rw [Int.ediv_one,hx] at h2
 rw [show ((n:Int)*134217728+d*16777216+m) / 16777216 % 8=d by omega] at h1
 refine Yl (by omega) (by omega) n17 (by omega) hk hc hf ?_ rfl (by simp) hfw
 generalize (n:Int)*134217728+d*16777216+m=x at *
 simp only [yg,yC.eq_1,yk,wU,shx,h1,h2]
theorem tV {n:Nat} {k:Str} {d s:Int} (n13:n<=13) (hk:wu.getD n .non=.str k) (hc:yy uk tH (.str k)=some (.int (n:Int))) (hf:xU [.str k]=some (true,.lst [.str "d",.str "s"])) (hd:xC [.str k,.str "d"]=some (false,.tup [.int 24,.int 3]))
  (hp:xC [.str k,.str "s"]=some (false,.tup [.int 21,.int 3])) (d0:0<=d) (d1:d<8) (s0:0<=s) (s1:s<8):j6 (.tup [.str k,.int d,.int s]) ((n:Int)*134217728+d*16777216+s*2097152):=by
 have hfw:=Q8 (c:=(n:Int)) (d:=d) (s:=s) hf hd hp (by omega) (by omega) d0 d1 s0 s1
 have h1:xo [.int ((n:Int)*134217728+d*16777216+s*2097152),.str k,.str "d"]=some (false,.int (((n:Int)*134217728+d*16777216+s*2097152) / 16777216 % 8)):=vD hd (by rfl) (by decide) (by decide) (by decide)
 have h2:xo [.int ((n:Int)*134217728+d*16777216+s*2097152),.str k,.str "s"]=some (false,.int (((n:Int)*134217728+d*16777216+s*2097152) / 2097152 % 8)):=vD hp (by rfl) (by decide) (by decide) (by decide)
 rw [show ((n:Int)*134217728+d*16777216+s*2097152) / 16777216 % 8=d by omega] at h1
 rw [show ((n:Int)*134217728+d*16777216+s*2097152) / 2097152 % 8=s by omega] at h2
 refine Yl (by omega) (by omega) (by omega) (by omega) hk hc hf ?_ rfl (by simp) hfw
 generalize (n:Int)*134217728+d*16777216+s*2097152=x at *
 simp only [yg,yC.eq_1,yk,wU,shx,h1,h2]
theorem Yj {n:Nat} {k:Str} {d s m:Int} (n17:n<=17) (hk:wu.getD n .non=.str k) (hc:yy uk tH (.str k)=some (.int (n:Int))) (hf:xU [.str k]=some (true,.lst [.str "d",.str "s",.str "n"])) (hd:xC [.str k,.str "d"]=some (false,.tup [.int 24,.int 3]))
  (hp:xC [.str k,.str "s"]=some (false,.tup [.int 21,.int 3])) (hp2:xC [.str k,.str "n"]=some (false,.tup [.int 0,.int 8])) (d0:0<=d) (d1:d<8) (s0:0<=s) (s1:s<8) (m0:0<=m) (m1:m<256):j6 (.tup [.str k,.int d,.int s,.int m]) ((n:Int)*134217728+d*16777216+s*2097152+m):=by
 have hfw:=Q9 (c:=(n:Int)) (d:=d) (s:=s) (n:=m) hf hd hp hp2 (by omega) (by omega) d0 d1 s0 s1 m0 m1
 have h1:xo [.int ((n:Int)*134217728+d*16777216+s*2097152+m),.str k,.str "d"]=some (false,.int (((n:Int)*134217728+d*16777216+s*2097152+m) / 16777216 % 8)):=vD hd (by rfl) (by decide) (by decide) (by decide)
 have h2:xo [.int ((n:Int)*134217728+d*16777216+s*2097152+m),.str k,.str "s"]=some (false,.int (((n:Int)*134217728+d*16777216+s*2097152+m) / 2097152 % 8)):=vD hp (by rfl) (by decide) (by decide) (by decide)
 have h3:xo [.int ((n:Int)*134217728+d*16777216+s*2097152+m),.str k,.str "n"]=some (false,.int (((n:Int)*134217728+d*16777216+s*2097152+m) / 1 % 256)):=vD hp2 (by rfl) (by decide) (by decide) (by decide)
 rw [show ((n:Int)*134217728+d*16777216+s*2097152+m) / 16777216 % 8=d by omega] at h1
 rw [show ((n:Int)*134217728+d*16777216+s*2097152+m) / 2097152 % 8=s by omega] at h2
 rw [show ((n:Int)*134217728+d*16777216+s*2097152+m) / 1 % 256=m by omega] at h3
 refine Yl (by omega) (by omega) n17 (by omega) hk hc hf ?_ rfl (by simp) hfw
 generalize (n:Int)*134217728+d*16777216+s*2097152+m=x at *
 simp only [yg,yC.eq_1,yk,wU,shx,h1,h2,h3]
noncomputable def gY:D->D
 | .tup xs=>.tup xs.dropLast
 | d=>d
noncomputable def cJ:D->Int
 | .tup (.str w::_)=>if w = "when" then 1 else if w = "unless" then 2 else 0
 | _=>0
noncomputable def mJ:D->Int
 | .tup [_,.str k,_]=>if k = "nought" then 1 else if k = "sign" then 2 else 0
 | _=>0
structure Z7 (r:D) (c m:Int):Prop where
 c0:0<=c
 c1:c<3
 m0:0<=m
 m1:m<3
 nr:∀ d:Int,xt [.int ((18+c)*134217728+m*16777216+d % 32)]=some (false,gY r)
 fr:xt [.int ((21+c)*134217728+m*16777216)]=some (false,gY r)
 hd:∃ R,gY r=.tup R/\R≠[]/\R.length<=2/\R.all yL=true
theorem JA {x Z:Int} {n:Nat} {k:Str} {fs R:List D} (x0:0<=x) (x1:x<4294967296) (hx:x / 134217728=(n:Int)) (n0:18<=n) (n1:n<=20) (hk:wu.getD n .non=.str k) (hf:xU [.str k]=some (true,.lst fs)) (hl:yg (yC 5) yk wU [some (false,.int x),some (false,.int (n:Int)),some (false,.str k),none,none,none] fs=some R)
  (hn:yY .non (.tup (.str k::R))=some (.bl false)) (hR:R.length<=3) (hz:vR [.tup (.str k::R),.int (n:Int)]=some (false,.int Z)) (hZ:Z=x+(0 - x % 32)*1):xt [.int x]=some (false,.tup (.str k::R)):=by
 have hcc:=vZ x0 x1
 rw [hx] at hcc
 have hkk:=ut (n:=n) (by omega)
 rw [hk] at hkk
 have hnear:=uL (n:=n) (by omega)
 rw [decide_eq_true n0,decide_eq_true n1,Bool.true_and] at hnear
 have hw:vj [.int x,.tup [.int 0,.int 5],.int 0]=some (false,.int (x+(0 - x / 1 % 32)*1)):=Ym ⟨⟨x0,by decide,by decide,by decide,by decide⟩,by decide,by decide⟩
 rw [Int.ediv_one] at hw
 have:=uP hcc hkk hf hl hn hR hnear (fun _=>hw) (fun h=>by cases h) hz
 rw [this,if_pos hZ]
theorem Q5 {x:Int} {n:Nat} {k:Str} {fs R:List D} (x0:0<=x) (x1:x<4294967296) (hx:x / 134217728=(n:Int)) (n0:21<=n) (n1:n<=23) (hk:wu.getD n .non=.str k) (hf:xU [.str k]=some (true,.lst fs)) (hl:yg (yC 5) yk wU [some (false,.int x),some (false,.int (n:Int)),some (false,.str k),none,none,none] fs=some R)
  (hn:yY .non (.tup (.str k::R))=some (.bl false)) (hR:R.length<=3) (hz:vR [.tup (.str k::R),.int (n:Int)]=some (false,.int x)):xt [.int x]=some (false,.tup (.str k::R)):=by
 have hcc:=vZ x0 x1
 rw [hx] at hcc
 have hkk:=ut (n:=n) (by omega)
 rw [hk] at hkk
 have hnear:=uL (n:=n) (by omega)
 rw [decide_eq_false (show ¬ n<=20 by omega),Bool.and_false] at hnear
 have:=uP hcc hkk hf hl hn hR hnear (fun h=>by cases h) (fun _=>rfl) hz
 rw [this,if_pos rfl]
theorem BD {p:Int}:Z7 (.tup [.str "jump",.int p]) 0 0:=by
 refine ⟨by decide,by decide,by decide,by decide,fun d=>?_,?_,⟨_,rfl,by simp,by simp,rfl⟩⟩
 ·refine JA (n:=18) (k := "jump") (fs:=[]) (R:=[]) (Z:=18*134217728) (by omega) (by omega) (by omega) (by decide) (by decide) rfl rfl rfl rfl (by simp) (gk (c:=18) (by decide) (by decide) rfl) (by omega)
 ·exact Q5 (n:=21) (k := "jump") (fs:=[]) (R:=[]) (by omega) (by omega) (by omega) (by decide) (by decide) rfl rfl rfl rfl (by simp) (gk (c:=21) (by decide) (by decide) rfl)
theorem LV {w k:Str} {p:Int} (hw:w = "when" \/ w = "unless") (hk:k = "carry" \/ k = "nought" \/ k = "sign"):Z7 (.tup [.str w,.str k,.int p]) (cJ (.tup [.str w,.str k,.int p])) (mJ (.tup [.str w,.str k,.int p])):=by
 obtain ⟨c,ec,c0,c1,hn,hfar,kn,kf⟩:∃ c:Nat,cJ (.tup [.str w,.str k,.int p])=(c:Int)/\1<=c/\c<=2/\yy q_ pA (.str w)=some (.int (18+(c:Int)))/\yy qz p9 (.str w)=some (.int (21+(c:Int)))/\wu.getD (18+c) .non=.str w/\wu.getD (21+c) .non=.str w:=by
  rcases hw with rfl | rfl
  ·exact ⟨1,by rfl,by decide,by decide,by rfl,by rfl,rfl,rfl⟩
  ·exact ⟨2,by rfl,by decide,by decide,by rfl,by rfl,rfl,rfl⟩
 obtain ⟨m,em,m1,hm,mk⟩:∃ m:Nat,mJ (.tup [.str w,.str k,.int p])=(m:Int)/\m<3/\gj gn (.str k)=some (.int (m:Int))/\VJ.getD m .non=.str k:=by
  rcases hk with rfl | rfl | rfl
  ·exact ⟨0,by rfl,by decide,by rfl,rfl⟩
  ·exact ⟨1,by rfl,by decide,by rfl,rfl⟩
  ·exact ⟨2,by rfl,by decide,by rfl,rfl⟩
 rw [ec,em]
 have hf:xU [.str w]=some (true,.lst [.str "mark"]):=by rcases hw with rfl | rfl<;>rfl
 have hp:xC [.str w,.str "mark"]=some (false,.tup [.int 24,.int 2]):=by rcases hw with rfl | rfl<;>rfl
 have held:∀ x:Int,x / 16777216 % 4=(m:Int)->xo [.int x,.str w,.str "mark"]=some (false,.str k):=fun x hx=>by
  have:=QO (x:=x) hp
  rw [hx,Int.toNat_natCast,mk] at this
  exact this
 refine ⟨by omega,by omega,by omega,by omega,fun d=>?_,?_,⟨_,rfl,by simp,by simp,rfl⟩⟩
 ·have hh:=held ((18+(c:Int))*134217728+(m:Int)*16777216+d % 32) (by omega)
  refine JA (n:=18+c) (k:=w) (fs:=[.str "mark"]) (R:=[.str k]) (Z:=((18+c:Nat):Int)*134217728+(m:Int)*16777216) (by omega) (by omega) (by omega) (by omega) (by omega) kn hf ?_ rfl (by simp) (Wp hf hp hm (by omega) (by omega) (by omega) (by omega)) (by omega)
  generalize (18+(c:Int))*134217728+(m:Int)*16777216+d % 32=x at *
  simp only [yg,yC.eq_1,yk,wU,shx,hh]
 ·have hh:=held ((21+(c:Int))*134217728+(m:Int)*16777216) (by omega)
  have hz:=Wp (c:=((21+c:Nat):Int)) hf hp hm (by omega) (by omega) (by omega) (by omega)
  rw [show ((21+c:Nat):Int)*134217728+(m:Int)*16777216=(21+(c:Int))*134217728+(m:Int)*16777216 by omega] at hz
  refine Q5 (n:=21+c) (k:=w) (fs:=[.str "mark"]) (R:=[.str k]) (by omega) (by omega) (by omega) (by omega) (by omega) kf hf ?_ rfl (by simp) hz
  generalize (21+(c:Int))*134217728+(m:Int)*16777216=x at *
  simp only [yg,yC.eq_1,yk,wU,shx,hh]
theorem B8 {n:Int} {r:D} (h:t6 n r):Z7 r (cJ r) (mJ r):=by
 cases h with
 | jump p0 p1=>exact BD
 | cond hw hk p0 p1=>exact LV hw hk
end L3
namespace L3
open PySem
noncomputable def VD:FS:=(zI (pR 1 (z6 2) (z6 3))
    (zI (zQ 2 (e2 zF (z6 3) (eC (.int 1))))
    (zQ 3 (zX wf (z8 (z6 0) (z8 (z6 2) zD))))))
noncomputable def ZO:FT:=(tE (e2 jE (z6 3) (eC .non)))
noncomputable def WN:FS:=
 (zI (wz 1 (eC (.dic [] [])))
  (zI (zQ 2 (eC (.int 0)))
  (zI (zQ 3 (zX wf (z8 (z6 0) (z8 (z6 2) zD))))
  (zI (kP ZO
   VD)
  (tR 1)))))
noncomputable def j3:List D->Option (Bool×D):=FR 1 4 WN
theorem MX (x0:D):j3 [x0]=yQ 4 WN [x0]:=rfl
noncomputable def Uz:FE:=(e2 zF (z6 1) (eC (.int 1)))
noncomputable def W3:FS:=
 (zk (e2 Wj (w8 1 (jN 0) (yC 1) yk Uz) (eC (.int 0))))
noncomputable def g7:List D->Option (Bool×D):=FR 1 1 W3
theorem MC (x0:D):g7 [x0]=yQ 1 W3 [x0]:=rfl
noncomputable def VE:FS:=(zI (zQ 5 (e2 zF (z6 4) (eC (.int 2))))
    (zj (ju (tE (e2 jE (z6 5) (eC .non))) (ju (tE (e2 yl (z6 5) (z6 2))) (tE (e2 gi (z6 5) (z6 1)))))
     (zk (z6 3))
     yB))
noncomputable def WP:FS:=
 (zI (zQ 1 (zX j3 (z8 (z6 0) zD)))
  (zI (zQ 2 (zX g7 (z8 (z6 1) zD)))
  (zI (zj (tE (e2 yl (z6 2) (eL xh (z8 (z6 0) zD))))
   (zk (z6 2))
   yB)
  (zI (wc (jM 1) (wp 3 4)
   VE)
  (zk (eC .non))))))
noncomputable def gL:List D->Option (Bool×D):=FR 1 6 WP
theorem MZ (x0:D):gL [x0]=yQ 6 WP [x0]:=rfl
noncomputable def WM:FS:=
 (zI (zQ 1 (zX gL (z8 (z6 0) zD)))
  (zI (zj (tE (e2 jE (z6 1) (eC .non)))
   (fun _=>none)
   yB)
  (zk (zX j3 (z8 (z6 0) zD)))))
noncomputable def gK:List D->Option (Bool×D):=FR 1 2 WM
theorem MW (x0:D):gK [x0]=yQ 2 WM [x0]:=rfl
noncomputable def tA (A:Nat->Int):Option Nat->D
 | none=>.non
 | some p=>.int (A p)
structure Tb (ws:List D) (n:Nat) (A:Nat->Int) (b:Nat->D) (tg:Nat->Option Nat):Prop where
 up:∀ i,i<n->A i<A (i+1)
 z:A 0=0
 e:A n=(ws.length:Int)
 told:∀ i,i<n->wf [.lst ws,.int (A i)]=some (false,.tup [b i,.int (A (i+1)),tA A (tg i)])
 fin:wf [.lst ws,.int (A n)]=some (false,.non)
 le:∀ i p,i<n->tg i=some p->p<=n
 few:n<=400
noncomputable def wQ (A:Nat->Int) (b:Nat->D) (tg:Nat->Option Nat) (i:Nat):D:=.tup [b i,.int (A (i+1)),tA A (tg i)]
noncomputable def yH (A:Nat->Int) (n:Nat):List (Sum Int Str):=(List.range n).map fun i=>.inl (A i)
noncomputable def yS (A:Nat->Int) (b:Nat->D) (tg:Nat->Option Nat) (n:Nat):List D:=(List.range n).map (wQ A b tg)
theorem Ck {ks:List (Sum Int Str)} {vs:List D} {k:Sum Int Str} {v:D} (h:xL ks k=false):vJ ks k=ks++[k]/\wO ks vs k v=vs++[v]:=by
 unfold vJ wO
 rw [h]
 exact ⟨rfl,rfl⟩
theorem BZ (A:Nat->Int) (n:Nat):yH A (n+1)=yH A n++[.inl (A n)]:=by
 unfold yH
 rw [List.range_succ,List.map_append]
 rfl
theorem Hj (A:Nat->Int) (b:Nat->D) (tg:Nat->Option Nat) (n:Nat):yS A b tg (n+1)=yS A b tg n++[wQ A b tg n]:=by
 unfold yS
 rw [List.range_succ,List.map_append]
 rfl
theorem BY (A:Nat->Int) (n:Nat):(yH A n).length=n:=by
 unfold yH
 rw [List.length_map,List.length_range]
theorem Zw {A:Nat->Int} {n:Nat} {x:Int}:xL (yH A n) (.inl x)=true↔∃ i,i<n/\A i=x:=by
 unfold xL yH
 rw [List.any_eq_true]
 constructor
 ·rintro ⟨k,hk,e⟩
  obtain ⟨i,hi,rfl⟩:=List.mem_map.mp hk
  exact ⟨i,List.mem_range.mp hi,Sum.inl.inj (of_decide_eq_true e)⟩
 ·rintro ⟨i,hi,rfl⟩
  exact ⟨_,List.mem_map.mpr ⟨i,List.mem_range.mpr hi,rfl⟩,decide_eq_true rfl⟩
section
variable {ws:List D} {n:Nat} {A:Nat->Int} {b:Nat->D} {tg:Nat->Option Nat} (T:Tb ws n A b tg)
include T
theorem Tb.lt {i j:Nat} (h:i<j) (hj:j<=n):A i<A j:=by
 induction j with
 | zero=>omega
 | succ j ih=>
  have u:=T.up j (by omega)
  by_cases e:i=j
  ·rw [e]; exact u
  ·have:=ih (by omega) (by omega)
   omega
theorem Tb.inj {i j:Nat} (hi:i<=n) (hj:j<=n) (e:A i=A j):i=j:=by
 rcases Nat.lt_trichotomy i j with h | h | h
 ·have:=T.lt h hj; omega
 ·exact h
 ·have:=T.lt h hi; omega
theorem Tb.new {i:Nat} (hi:i<=n):xL (yH A i) (.inl (A i))=false:=by
 cases c:xL (yH A i) (.inl (A i)) with
 | false=>rfl
 | true=>
  obtain ⟨j,hj,e⟩:=Zw.mp c
  have:=T.inj (by omega) hi e
  omega
noncomputable def qZ (n:Nat) (A:Nat->Int) (b:Nat->D) (tg:Nat->Option Nat) (i:Nat):D:=if i<n then wQ A b tg i else .non
theorem Tb.tell {i:Nat} (hi:i<=n):wf [.lst ws,.int (A i)]=some (false,qZ n A b tg i):=by
 unfold qZ
 by_cases h:i<n
 ·rw [if_pos h]
  exact T.told i h
 ·have e:i=n:=by omega
  rw [if_neg h,e]
  exact T.fin
theorem OP:∀ (k i:Nat),i+k=n->w_ ZO VD (k+1) [some (false,.lst ws),some (true,.dic (yH A i) (yS A b tg i)),some (false,.int (A i)),some (false,qZ n A b tg i)]=some (.nx [some (false,.lst ws),some (true,.dic (yH A n) (yS A b tg n)),some (false,.int (A n)),some (false,.non)])
 | 0,i,h=>by
  have e:i=n:=by omega
  subst e
  have ht:qZ i A b tg i=.non:=if_neg (Nat.lt_irrefl _)
  rw [ht]
  refine Uw ?_
  unfold ZO
  simp! []
 | k+1,i,h=>by
  have hi:i<n:=by omega
  have ht:qZ n A b tg i=wQ A b tg i:=if_pos hi
  rw [ht,Ux (σ':=[some (false,.lst ws),some (true,.dic (yH A (i+1)) (yS A b tg (i+1))),some (false,.int (A (i+1))),some (false,qZ n A b tg (i+1))])]
  ·exact OP k (i+1) (by omega)
  ·unfold ZO wQ
   simp! []
  ·obtain ⟨p1,p2⟩:=Ck (vs:=yS A b tg i) (v:=wQ A b tg i) (T.new (Nat.le_of_lt hi))
   have tl:=T.tell (i:=i+1) hi
   have hl:(yH A i).length<yA:=by rw [BY]; have:=T.few; show i<16777216; omega
   have i1:zF (wQ A b tg i) (.int 1)=some (.int (A (i+1))):=rfl
   have hp:pR 1 (z6 2) (z6 3) [some (false,.lst ws),some (true,.dic (yH A i) (yS A b tg i)),some (false,.int (A i)),some (false,wQ A b tg i)]=some (.nx [some (false,.lst ws),some (true,.dic (yH A (i+1)) (yS A b tg (i+1))),some (false,.int (A i)),some (false,wQ A b tg i)]):=by
    rw [BZ,Hj,<- p1,<- p2]
    show (if (yH A i).length<yA then _ else _)=_
    rw [if_pos hl]
    rfl
   unfold VD
   generalize yH A (i+1)=K1 at *
   generalize yS A b tg (i+1)=V1 at *
   generalize yH A i=K0 at *
   generalize yS A b tg i=V0 at *
   generalize wQ A b tg i=TD at *
   generalize qZ n A b tg (i+1)=TL at *
   simp! [hp,i1,tl]
theorem OQ:j3 [.lst ws]=some (true,.dic (yH A n) (yS A b tg n)):=by
 have e0:=T.tell (i:=0) (Nat.zero_le _)
 rw [T.z] at e0
 have lp:=Vk (n+1) (OP T n 0 (Nat.zero_add n)) (by have:=T.few; show n+1<=100000000; omega)
 rw [T.z] at lp
 have k0:yH A 0=[]:=rfl
 have v0:yS A b tg 0=[]:=rfl
 rw [k0,v0] at lp
 rw [MX]
 unfold WN
 generalize qZ n A b tg 0=TL at *
 generalize yH A n=KK at *
 generalize yS A b tg n=VV at *
 simp! [e0,lp]
theorem Oz:g7 [.dic (yH A n) (yS A b tg n)]=some (false,.int (A n)):=by
 have e1:yg (yC 1) yk Uz [some (false,.dic (yH A n) (yS A b tg n)),none] (yS A b tg n)=some (((List.range n).map fun i=>A (i+1)).map D.int):=by
  have:=Y4 (g:=yC 1) (e:=Uz) (σ:=[some (false,.dic (yH A n) (yS A b tg n)),none]) (fun d=>match d with | .tup [_,x,_]=>x | _=>.non) (ds:=yS A b tg n) fun d hd=>by
   obtain ⟨i,_,rfl⟩:=List.mem_map.mp hd
   exact ⟨_,rfl,rfl⟩
  rw [this]
  unfold yS
  rw [List.map_map,List.map_map]
  rfl
 have e2:Wj (.lst (((List.range n).map fun i=>A (i+1)).map D.int)) (.int 0)=some (.int (A n)):=by
  show (pD _).bind _=_
  rw [QY]
  show some (if (List.range n).map (fun i=>A (i+1))=[] then _ else _)=_
  by_cases c:n=0
  ·subst c
   show some (D.int 0)=some (D.int (A 0))
   rw [T.z]
  ·rw [if_neg (by
    intro h
    have:=congrArg List.length h
    rw [List.length_map,List.length_range] at this
    exact c this)]
   have:A n=L2.maxI ((List.range n).map fun i=>A (i+1)):=by
    refine L2.maxI_uniq ?_ fun y hy=>?_
    ·exact List.mem_map.mpr ⟨n - 1,List.mem_range.mpr (by omega),by rw [Nat.sub_add_cancel (by omega)]⟩
    ·obtain ⟨i,hi,rfl⟩:=List.mem_map.mp hy
     have hi:=List.mem_range.mp hi
     by_cases e:i+1=n
     ·rw [e]; exact Int.le_refl _
     ·exact Int.le_of_lt (T.lt (by omega) (Nat.le_refl _))
   rw [<- this]
 rw [MC]
 unfold W3
 generalize ((List.range n).map fun i=>A (i+1)).map D.int=LL at *
 have e0:jN 0 [some (false,.dic (yH A n) (yS A b tg n))]=some (yS A b tg n):=rfl
 generalize yH A n=KK at *
 generalize yS A b tg n=VV at *
 simp! [e0,e1,e2]
noncomputable def Zs (A:Nat->Int) (b:Nat->D) (tg:Nat->Option Nat) (n:Nat):List D:=(List.range n).map fun i=>D.tup [.int (A i),wQ A b tg i]
omit T in
theorem M_ {x2 x3 x4 x5:Option Sl}:jM 1 [some (false,.lst ws),some (false,.dic (yH A n) (yS A b tg n)),x2,x3,x4,x5]=some (Zs A b tg n):=by
 have h:(yH A n).all tM=true:=List.all_eq_true.mpr fun k hk=>by
  obtain ⟨i,_,rfl⟩:=List.mem_map.mp hk
  rfl
 show (if (yH A n).all tM=true then some (tP (yH A n) (yS A b tg n)) else none)=_
 rw [if_pos h]
 unfold tP yH yS Zs
 refine congrArg some (List.ext_getElem? fun i=>?_)
 rw [List.getElem?_zipWith,List.getElem?_map,List.getElem?_map,List.getElem?_map]
 cases (List.range n)[i]? with
 | none=>rfl
 | some j=>rfl
theorem L_:gL [.lst ws]=some (false,.non):=by
 have e1:=OQ T
 have e2:=Oz T
 have ne:yl (.int (A n)) (.int (ws.length:Int))=some (.bl false):=by rw [T.e]; exact vx (uq rfl)
 obtain ⟨σ',e3,x3,x4,x5,rfl⟩:=uK (g:=wp 3 4) (b:=VE) (fun i σ=>∃ x3 x4 x5,σ=[some (false,.lst ws),some (false,.dic (yH A n) (yS A b tg n)),some (false,.int (A n)),x3,x4,x5]) (ds:=Zs A b tg n)
  (σ:=[some (false,.lst ws),some (false,.dic (yH A n) (yS A b tg n)),some (false,.int (A n)),none,none,none]) 0 ⟨none,none,none,rfl⟩ (by
  rintro i v σ hv ⟨x3,x4,x5,rfl⟩
  obtain ⟨j,hj,rfl⟩:=List.mem_map.mp (List.mem_of_getElem? hv)
  have hj:=List.mem_range.mp hj
  refine ⟨_,[some (false,.lst ws),some (false,.dic (yH A n) (yS A b tg n)),some (false,.int (A n)),some (false,.int (A j)),some (false,wQ A b tg j),some (false,tA A (tg j))],rfl,.inl ?_,_,_,_,rfl⟩
  have i2:zF (wQ A b tg j) (.int 2)=some (tA A (tg j)):=rfl
  unfold VE
  cases h:tg j with
  | none=>
   rw [h] at i2
   have t0:tA A none=.non:=rfl
   rw [t0] at i2 ⊢
   generalize wQ A b tg j=TD at *
   generalize yH A n=KK at *
   generalize yS A b tg n=VV at *
   simp! [i2]
  | some p=>
   rw [h] at i2
   have t0:tA A (some p)=.int (A p):=rfl
   rw [t0] at i2 ⊢
   have hp:=T.le j p hj h
   by_cases e:p=n
   ·have q:yl (.int (A p)) (.int (A n))=some (.bl false):=by rw [e]; exact vx (uq rfl)
    generalize wQ A b tg j=TD at *
    generalize yH A n=KK at *
    generalize yS A b tg n=VV at *
    simp! [i2,q]
   ·have q:yl (.int (A p)) (.int (A n))=some (.bl true):=vx (ve (by have:=T.lt (i:=p) (j:=n) (by omega) (Nat.le_refl _); omega))
    have hin:gi (.int (A p)) (.dic (yH A n) (yS A b tg n))=some (.bl false):=by
     show (some (xL (yH A n) (.inl (A p)))).bind _=_
     rw [Zw.mpr ⟨p,by omega,rfl⟩]
     rfl
    generalize wQ A b tg j=TD at *
    generalize yH A n=KK at *
    generalize yS A b tg n=VV at *
    simp! [i2,q,hin])
 have e4:=M_ (ws:=ws) (A:=A) (b:=b) (tg:=tg) (n:=n) (x2:=some (false,.int (A n))) (x3:=none) (x4:=none) (x5:=none)
 rw [MZ]
 unfold WP
 generalize Zs A b tg n=IT at *
 generalize yH A n=KK at *
 generalize yS A b tg n=VV at *
 simp! [e1,e2,ne,e4,e3]
theorem HC:gK [.lst ws]=some (false,.dic (yH A n) (yS A b tg n)):=by
 have e1:=L_ T
 have e2:=OQ T
 rw [MW]
 unfold WM
 generalize yH A n=KK at *
 generalize yS A b tg n=VV at *
 simp! [e1,e2]
omit T in
theorem QF {n:Nat} {A:Nat->Int} (inj:∀ i j,i<=n->j<=n->A i=A j->i=j) {p:Nat} (hp:p<n) (f:Nat->D):∀ (l:List Nat),p∈l->(∀ i∈l,i<=n)->getK (l.map fun i=>Sum.inl (A i)) (l.map f) (.inl (A p))=some (f p)
 | [],h,_=>by cases h
 | a::l,h,hl=>by
  show (if (Sum.inl (A a):Sum Int Str)=.inl (A p) then some (f a) else getK (l.map fun i=>Sum.inl (A i)) (l.map f) (.inl (A p)))=_
  by_cases e:A a=A p
  ·have:=inj a p (hl a List.mem_cons_self) (Nat.le_of_lt hp) e
   subst this
   rw [if_pos rfl]
  ·rw [if_neg (fun z=>e (Sum.inl.inj z))]
   rcases List.mem_cons.mp h with rfl | h
   ·exact absurd rfl e
   ·exact QF inj hp f l h fun i hi=>hl i (List.mem_cons_of_mem _ hi)
end
end L3
namespace L3
open PySem
noncomputable def VB:FS:=(zI (zQ 1 (eL Wn (z8 (e2 ze (z6 1) (z6 2)) zD)))
    (zQ 2 (zX tu (z8 (z6 0) (z8 (z6 1) zD)))))
noncomputable def ZN:FT:=(tE (e2 yl (z6 2) (yb zD)))
noncomputable def WE:FS:=
 (zI (zQ 2 (zX tu (z8 (z6 0) (z8 (z6 1) zD))))
  (zI (kP ZN
   VB)
  (zk (z6 1))))
noncomputable def gG:List D->Option (Bool×D):=FR 2 3 WE
theorem MO (x0 x1:D):gG [x0,x1]=yQ 3 WE [x0,x1]:=rfl
noncomputable def Yn:FE:=(z6 3)
noncomputable def Yq:FT:=(tE (e2 (ye fun i j=>decide (i<j)) (e2 yI (zX wG (z8 (z6 1) (z8 (z6 3) zD))) (eC (.int 4))) (z6 2)))
noncomputable def W6:FS:=
 (zk (zX gG (z8 (z6 0) (z8 (w8 1 (uo (zX qc (z8 (z6 0) zD))) (yC 3) Yq Yn) zD))))
noncomputable def g9:List D->Option (Bool×D):=FR 3 3 W6
theorem MF (x0 x1 x2:D):g9 [x0,x1,x2]=yQ 3 W6 [x0,x1,x2]:=rfl
noncomputable def IB:FA:=(vE (eC (.int 0)) (eL xh (z8 (z6 0) zD)))
noncomputable def Z_:FS:=(zj (tE (e2 yY (e2 zF (e2 zF (z6 0) (z6 4)) (eC (.int 0))) (yX (z8 (eC (.str "jump")) (z8 (eC (.str "when")) (z8 (eC (.str "unless")) zD))))))
     (zI (zQ 5 (e2 xq (e2 zF (z6 2) (e2 zF (e2 zF (z6 0) (z6 4)) (e1 wC (eC (.int 1))))) (e2 zF (z6 2) (z6 4))))
      (wz 3 (e2 ge (uE 3) (zX u7 (z8 (e2 zF (z6 0) (z6 4)) (z8 (z6 5) (z8 (e2 yY (z6 4) (z6 1)) zD)))))))
     (xl 3 xJ (zX vT (z8 (e2 zF (z6 0) (z6 4)) zD))))
noncomputable def WI:FS:=
 (zI (zQ 2 (zX j2 (z8 (z6 0) (z8 (z6 1) zD))))
  (zI (wz 3 (yb zD))
  (zI (wc IB (yC 4)
   Z_)
  (tR 3))))
noncomputable def gJ:List D->Option (Bool×D):=FR 2 6 WI
theorem MS (x0 x1:D):gJ [x0,x1]=yQ 6 WI [x0,x1]:=rfl
noncomputable def xj (r:D):Nat:=match uu r with
 | .int p=>p.toNat
 | _=>0
noncomputable def tW (c m d:Int) (far:Bool):List Int:=bif far then [(21+c)*134217728+m*16777216,d % 4294967296] else [(18+c)*134217728+m*16777216+d % 32]
noncomputable def pL (r:D):Int:=match vT [r] with
 | some (_,.int v)=>v
 | _=>0
noncomputable def dJ (rows:List D) (far:List Nat) (i:Nat):Int:=zH (zC far) (xj (rows.getD i .non)) - zH (zC far) i
noncomputable def xf (rows:List D) (far:List Nat) (i:Nat):List Int:=bif yf (rows.getD i .non) then tW (cJ (rows.getD i .non)) (mJ (rows.getD i .non)) (dJ rows far i) (zC far i) else [pL (rows.getD i .non)]
noncomputable def zt (rows:List D) (far:List Nat):Nat->List Int
 | 0=>[]
 | n+1=>zt rows far n++xf rows far n
noncomputable def xV (rows:List D) (i:Nat):D:=bif yf (rows.getD i .non) then gY (rows.getD i .non) else rows.getD i .non
noncomputable def xS (rows:List D) (i:Nat):Option Nat:=bif yf (rows.getD i .non) then some (xj (rows.getD i .non)) else none
structure Wr (rows:List D) (far:List Nat):Prop where
 hr:∀ r∈rows,xz (rows.length:Int) r
 hn:rows.length<64
 hg:gF rows far=[]
 hj:∀ i,zC far i=true->yf (rows.getD i .non)=true
structure W1 (rows:List D) (far:List Nat) (i:Nat):Prop where
 pl:yf (rows.getD i .non)=false->j6 (rows.getD i .non) (pL (rows.getD i .non))/\vT [rows.getD i .non]=some (false,.int (pL (rows.getD i .non)))/\zC far i=false/\tgt (rows.getD i .non)=.non
 jm:yf (rows.getD i .non)=true->Z7 (rows.getD i .non) (cJ (rows.getD i .non)) (mJ (rows.getD i .non))/\xj (rows.getD i .non)<=rows.length/\tgt (rows.getD i .non)=.int (xj (rows.getD i .non):Nat)/\(zC far i=false -> -16<=dJ rows far i/\dJ rows far i<=15) /\ -200<=dJ rows far i/\dJ rows far i<=200
theorem JW {r:D} (h:v6 r):∃ v:Int,j6 r v/\vT [r]=some (false,.int v):=by
 cases h with
 | stop=>exact ⟨0,Yl (n:=0) (fs:=[]) (by decide) (by decide) (by decide) (by decide) rfl rfl rfl rfl rfl (by simp) (gk (c:=0) (by decide) (by decide) rfl),J1⟩
 | imm hw d0 d1 n0 n1=>
  rcases hw with rfl | rfl
  ·exact ⟨_,Yk (n:=1) (W:=16) (P:=65536) (by decide) rfl rfl rfl rfl rfl (by decide) (by decide) (by decide) (by decide) d0 d1 n0 n1 (by decide) (by omega),k9 (c:=1) (by rfl) (by rfl) (by rfl)⟩
  ·exact ⟨_,Yk (n:=2) (W:=16) (P:=65536) (by decide) rfl rfl rfl rfl rfl (by decide) (by decide) (by decide) (by decide) d0 d1 n0 n1 (by decide) (by omega),k9 (c:=2) (by rfl) (by rfl) (by rfl)⟩
 | two hw d0 d1 s0 s1=>
  rcases hw with rfl | rfl | rfl | rfl | rfl | rfl | rfl | rfl | rfl
  ·exact ⟨_,tV (n:=3) (by decide) rfl rfl rfl rfl rfl d0 d1 s0 s1,uv (c:=3) (by rfl) (by rfl) (by rfl)⟩
  ·exact ⟨_,tV (n:=4) (by decide) rfl rfl rfl rfl rfl d0 d1 s0 s1,uv (c:=4) (by rfl) (by rfl) (by rfl)⟩
  ·exact ⟨_,tV (n:=5) (by decide) rfl rfl rfl rfl rfl d0 d1 s0 s1,uv (c:=5) (by rfl) (by rfl) (by rfl)⟩
  ·exact ⟨_,tV (n:=6) (by decide) rfl rfl rfl rfl rfl d0 d1 s0 s1,uv (c:=6) (by rfl) (by rfl) (by rfl)⟩
  ·exact ⟨_,tV (n:=7) (by decide) rfl rfl rfl rfl rfl d0 d1 s0 s1,uv (c:=7) (by rfl) (by rfl) (by rfl)⟩
  ·exact ⟨_,tV (n:=8) (by decide) rfl rfl rfl rfl rfl d0 d1 s0 s1,uv (c:=8) (by rfl) (by rfl) (by rfl)⟩
  ·exact ⟨_,tV (n:=9) (by decide) rfl rfl rfl rfl rfl d0 d1 s0 s1,uv (c:=9) (by rfl) (by rfl) (by rfl)⟩
  ·exact ⟨_,tV (n:=10) (by decide) rfl rfl rfl rfl rfl d0 d1 s0 s1,uv (c:=10) (by rfl) (by rfl) (by rfl)⟩
  ·exact ⟨_,tV (n:=11) (by decide) rfl rfl rfl rfl rfl d0 d1 s0 s1,uv (c:=11) (by rfl) (by rfl) (by rfl)⟩
 | mov hw d0 d1 n0 n1=>
  rcases hw with rfl | rfl
  ·exact ⟨_,Yk (n:=12) (W:=5) (P:=32) (by decide) rfl rfl rfl rfl rfl (by decide) (by decide) (by decide) (by decide) d0 d1 n0 n1 (by decide) (by omega),k9 (c:=12) (by rfl) (by rfl) (by rfl)⟩
  ·exact ⟨_,Yk (n:=13) (W:=5) (P:=32) (by decide) rfl rfl rfl rfl rfl (by decide) (by decide) (by decide) (by decide) d0 d1 n0 n1 (by decide) (by omega),k9 (c:=13) (by rfl) (by rfl) (by rfl)⟩
 | mem hw d0 d1 s0 s1 n0 n1=>
  rcases hw with rfl | rfl | rfl | rfl
  ·exact ⟨_,Yj (n:=14) (by decide) rfl rfl rfl rfl rfl rfl d0 d1 s0 s1 n0 n1,kA (c:=14) (by rfl) (by rfl) (by rfl)⟩
  ·exact ⟨_,Yj (n:=15) (by decide) rfl rfl rfl rfl rfl rfl d0 d1 s0 s1 n0 n1,kA (c:=15) (by rfl) (by rfl) (by rfl)⟩
  ·exact ⟨_,Yj (n:=16) (by decide) rfl rfl rfl rfl rfl rfl d0 d1 s0 s1 n0 n1,kA (c:=16) (by rfl) (by rfl) (by rfl)⟩
  ·exact ⟨_,Yj (n:=17) (by decide) rfl rfl rfl rfl rfl rfl d0 d1 s0 s1 n0 n1,kA (c:=17) (by rfl) (by rfl) (by rfl)⟩
theorem uC (f:Nat->Bool):∀ n:Nat,0<=zH f n/\zH f n<=2*n
 | 0=>⟨Int.le_refl _,Int.le_refl _⟩
 | n+1=>by
  obtain ⟨a,b⟩:=uC f n
  show 0<=zH f n+(if f n then 2 else 1)/\zH f n+(if f n then 2 else 1)<=_
  split<;>omega
section
variable {rows:List D} {far:List Nat} (W:Wr rows far)
include W
theorem Wr.one {i:Nat} (hi:i<rows.length):W1 rows far i:=by
 have eg:rows.getD i .non=rows[i]:=by rw [List.getD_eq_getElem?_getD,List.getElem?_eq_getElem hi]; rfl
 have hR:=W.hr _ (List.getElem_mem hi)
 refine ⟨fun hj=>?_,fun hj=>?_⟩
 ·rw [eg] at hj ⊢
  have pr:v6 rows[i]:=by
   rcases hR with h | h
   ·exact h
   ·obtain ⟨_,_,_,_,_,z,_⟩:=uH h
    rw [z] at hj
    cases hj
  obtain ⟨v,w,wl⟩:=JW pr
  have pv:pL rows[i]=v:=by unfold pL; rw [wl]
  refine ⟨?_,?_,?_,?_⟩
  ·rw [pv]
   exact w
  ·rw [pv]
   exact wl
  ·cases c:zC far i with
   | false=>rfl
   | true=>
    have:=W.hj i c
    rw [eg,hj] at this
    cases this
  ·unfold tgt
   rw [hj]
 ·rw [eg] at hj ⊢
  have jr:t6 (rows.length:Int) rows[i]:=by
   rcases hR with h | h
   ·obtain ⟨_,_,_,_,z,_⟩:=tQ h
    rw [z] at hj
    cases hj
   ·exact h
  obtain ⟨_,p,_,_,_,_,_,_,lp,p0,p1⟩:=uH jr
  have hp:xj rows[i]=p.toNat:=by unfold xj; rw [lp]
  have pn:(xj rows[i]:Int)=p:=by rw [hp]; omega
  have tp:tgt rows[i]=.int (xj rows[i]:Nat):=by
   unfold tgt
   rw [hj,pn]
   exact lp
  have a1:=uC (zC far) (xj rows[i])
  have a2:=uC (zC far) i
  have hn:=W.hn
  have ed:dJ rows far i=zH (zC far) (xj rows[i]) - zH (zC far) i:=by unfold dJ; rw [eg]
  refine ⟨B8 jr,by omega,tp,fun hF=>?_,by omega,by omega⟩
  have aw:ue rows far i=false:=by
   cases z:ue rows far i with
   | false=>rfl
   | true=>
    have:i∈gF rows far:=List.mem_filter.mpr ⟨List.mem_filter.mpr ⟨List.mem_range.mpr hi,by rw [hF]; rfl⟩,z⟩
    rw [W.hg] at this
    cases this
  unfold ue at aw
  rw [eg,tp] at aw
  have nb:(decide (-16<=zH (zC far) (xj rows[i]) - zH (zC far) i)&&decide (zH (zC far) (xj rows[i]) - zH (zC far) i<=15))=true:=by simpa [J7,dv] using aw
  rw [Bool.and_eq_true] at nb
  rw [ed]
  exact ⟨of_decide_eq_true nb.1,of_decide_eq_true nb.2⟩
theorem Wr.len1 {i:Nat} (hi:i<rows.length):((xf rows far i).length:Int)=if zC far i then 2 else 1:=by
 have h:=W.one hi
 unfold xf
 cases hj:yf (rows.getD i .non) with
 | false=>
  rw [(h.pl hj).2.2.1]
  rfl
 | true=>
  unfold tW
  cases zC far i<;>rfl
theorem Wr.len:∀ {n:Nat},n<=rows.length->((zt rows far n).length:Int)=zH (zC far) n
 | 0,_=>rfl
 | n+1,h=>by
  have a:=Wr.len (n:=n) (by omega)
  have b:=W.len1 (i:=n) (by omega)
  show ((zt rows far n++xf rows far n).length:Int)=zH (zC far) n+(if zC far n then 2 else 1)
  rw [List.length_append]
  omega
omit W in
theorem Oj:∀ {i n:Nat},i<=n->∃ r,zt rows far n=zt rows far i++r
 | i,n,h=>by
  induction n with
  | zero=>exact ⟨[],by rw [show i=0 by omega]; rfl⟩
  | succ n ih=>
   by_cases e:i=n+1
   ·exact ⟨[],by rw [e,List.append_nil]⟩
   ·obtain ⟨r,q⟩:=ih (by omega)
    exact ⟨r++xf rows far n,by show zt rows far n++xf rows far n=_; rw [q,List.append_assoc]⟩
theorem Wr.at {i k:Nat} {v:Int} (hi:i<rows.length) (hk:(xf rows far i)[k]?=some v):zF (.lst ((zt rows far rows.length).map D.int)) (.int (zH (zC far) i+k))=some (.int v)/\zH (zC far) i+k<((zt rows far rows.length).length:Int):=by
 obtain ⟨r,e⟩:=Oj (rows:=rows) (far:=far) (i:=i+1) (n:=rows.length) hi
 have l:=W.len (n:=i) (by omega)
 have kl:k<(xf rows far i).length:=(List.getElem?_eq_some_iff.mp hk).1
 have e2:zt rows far (i+1)=zt rows far i++xf rows far i:=rfl
 have g:(zt rows far rows.length)[(zt rows far i).length+k]?=some v:=by
  rw [e,e2,List.append_assoc,List.getElem?_append_right (by omega),Nat.add_sub_cancel_left,List.getElem?_append_left kl]
  exact hk
 have lt:=(List.getElem?_eq_some_iff.mp g).1
 refine ⟨uD (by omega) ?_,by omega⟩
 rw [show (zH (zC far) i+(k:Int)).toNat=(zt rows far i).length+k by omega,List.getElem?_map,g]
 rfl
theorem Wr.tb:Tb ((zt rows far rows.length).map D.int) rows.length (zH (zC far)) (xV rows) (xS rows):=by
 refine ⟨fun i hi=>?_,rfl,?_,fun i hi=>?_,?_,fun i p hi h=>?_,by have:=W.hn; omega⟩
 ·show zH (zC far) i<zH (zC far) i+(if zC far i then 2 else 1)
  split<;>omega
 ·rw [List.length_map]
  exact (W.len (Nat.le_refl _)).symm
 ·have h:=W.one hi
  have a0:=uC (zC far) i
  have ll:(((zt rows far rows.length).map D.int).length:Int)=((zt rows far rows.length).length:Int):=by rw [List.length_map]
  unfold xV xS
  show _=some (false,D.tup [_,.int (zH (zC far) i+(if zC far i then 2 else 1)),_])
  cases hj:yf (rows.getD i .non) with
  | false=>
   obtain ⟨w,_,nf,_⟩:=h.pl hj
   have g:=W.at (k:=0) (v:=pL (rows.getD i .non)) hi (by unfold xf; rw [hj]; rfl)
   rw [Int.ofNat_zero,Int.add_zero] at g
   obtain ⟨n,n17,hc⟩:=w.c
   have hcc:=vZ w.v0 w.v1
   rw [hc] at hcc
   have hnear:=uL (n:=n) (by omega)
   rw [decide_eq_false (show ¬ 18<=n by omega),Bool.false_and] at hnear
   have hfar:=tG (n:=n) (by omega)
   rw [decide_eq_false (show ¬ 21<=n by omega),Bool.false_and] at hfar
   obtain ⟨R,hR⟩:∃ R,rows.getD i .non=.tup R:=by
    have:=W.hr _ (List.getElem_mem hi)
    have eg:rows.getD i .non=rows[i]:=by rw [List.getD_eq_getElem?_getD,List.getElem?_eq_getElem hi]; rfl
    rw [eg]
    generalize rows[i]=rr at this
    rcases this with q | q<;>cases q<;>exact ⟨_,rfl⟩
   have wr:=w.r
   rw [hR] at wr g
   have:=O8 ⟨a0.1,by rw [ll]; exact g.2,g.1,by rw [<- hR]; exact w.v0,by rw [<- hR]; exact w.v1⟩ (by rw [<- hR]; exact hcc) hfar hnear wr
   rw [this,nf,hR]
   rfl
  | true=>
   obtain ⟨w,p1,tp,nr,d0,d1⟩:=h.jm hj
   obtain ⟨R,hR,_,_,_⟩:=w.hd
   have c0:=w.c0
   have c1:=w.c1
   have m0:=w.m0
   have m1:=w.m1
   have ea:zH (zC far) i+dJ rows far i=zH (zC far) (xj (rows.getD i .non)):=by unfold dJ; omega
   cases hF:zC far i with
   | true=>
    have rv:xf rows far i=[(21+cJ (rows.getD i .non))*134217728+mJ (rows.getD i .non)*16777216,dJ rows far i % 4294967296]:=by
     unfold xf
     rw [hj,hF]
     rfl
    have g:=W.at (k:=0) hi (by rw [rv]; rfl)
    rw [Int.ofNat_zero,Int.add_zero] at g
    have g1:=W.at (k:=1) hi (by rw [rv]; rfl)
    rw [show ((1:Nat):Int)=1 from rfl] at g1
    have fr:=w.fr
    rw [hR] at fr
    obtain ⟨x,hx⟩:∃ x,x=(21+cJ (rows.getD i .non))*134217728+mJ (rows.getD i .non)*16777216:=⟨_,rfl⟩
    obtain ⟨n,hn'⟩:∃ n:Nat,(n:Int)=21+cJ (rows.getD i .non):=⟨(21+cJ (rows.getD i .non)).toNat,by omega⟩
    rw [<- hx] at g fr
    have hcc:=vZ (x:=x) (by omega) (by omega)
    rw [show x / 134217728=(n:Int) by omega] at hcc
    have hfar:=tG (n:=n) (by omega)
    rw [decide_eq_true (show 21<=n by omega),decide_eq_true (show n<=23 by omega),Bool.true_and] at hfar
    have:=O5 (a:=zH (zC far) i) ⟨a0.1,by rw [ll]; exact g.2,g.1,by omega,by omega⟩ hcc hfar fr g1.1 (by rw [ll]; exact g1.2)
    rw [this,show zH (zC far) i+(if 2*(dJ rows far i % 4294967296)<4294967296 then dJ rows far i % 4294967296 else dJ rows far i % 4294967296 - 4294967296)=zH (zC far) (xj (rows.getD i .non)) by rw [<- ea]; split<;>omega]
    simp only [cond_true,hR]
    rfl
   | false=>
    have rv:xf rows far i=[(18+cJ (rows.getD i .non))*134217728+mJ (rows.getD i .non)*16777216+dJ rows far i % 32]:=by
     unfold xf
     rw [hj,hF]
     rfl
    obtain ⟨n0,n1⟩:=nr hF
    have g:=W.at (k:=0) hi (by rw [rv]; rfl)
    rw [Int.ofNat_zero,Int.add_zero] at g
    have fr:=w.nr (dJ rows far i)
    rw [hR] at fr
    obtain ⟨x,hx⟩:∃ x,x=(18+cJ (rows.getD i .non))*134217728+mJ (rows.getD i .non)*16777216+dJ rows far i % 32:=⟨_,rfl⟩
    obtain ⟨n,hn'⟩:∃ n:Nat,(n:Int)=18+cJ (rows.getD i .non):=⟨(18+cJ (rows.getD i .non)).toNat,by omega⟩
    rw [<- hx] at g fr
    have hcc:=vZ (x:=x) (by omega) (by omega)
    rw [show x / 134217728=(n:Int) by omega] at hcc
    have hfar:=tG (n:=n) (by omega)
    rw [decide_eq_false (show ¬ 21<=n by omega),Bool.false_and] at hfar
    have hnear:=uL (n:=n) (by omega)
    rw [decide_eq_true (show 18<=n by omega),decide_eq_true (show n<=20 by omega),Bool.true_and] at hnear
    have:=O6 (a:=zH (zC far) i) ⟨a0.1,by rw [ll]; exact g.2,g.1,by omega,by omega⟩ hcc hfar hnear fr
    rw [this,show zH (zC far) i+(if 2*(x % 32)<32 then x % 32 else x % 32 - 32)=zH (zC far) (xj (rows.getD i .non)) by rw [<- ea]; split<;>omega]
    simp only [cond_true,hR]
    rfl
 ·refine O7 (.inr ?_)
  rw [List.length_map]
  exact Int.le_of_eq (W.len (Nat.le_refl _))
 ·have w:=W.one hi
  unfold xS at h
  cases hj:yf (rows.getD i .non) with
  | false=>rw [hj] at h; cases h
  | true=>
   rw [hj] at h
   cases h
   exact (w.jm hj).2.1
end
theorem B9 {m:Int} {r:D} (h:t6 m r) (d:Int) (b:Bool):u7 [r,.int d,.bl b]=some (true,.lst ((tW (cJ r) (mJ r) d b).map D.int)):=by
 have pw:xQ 2 27=true/\xQ 2 24=true/\xQ 2 32=true/\wE 134217728=true/\wE 16777216=true/\wE 3=true:=⟨by decide,by decide,by decide,by decide,by decide,by decide⟩
 have one:∀ (w k:Str) (c m p:Int) (hi:xv (.lst [.str "jump",.str "when",.str "unless"]) (.str w)=some (.int c)) (hk:xv (.lst [.str "carry",.str "nought",.str "sign"]) (.str k)=some (.int m)) (ne:yl (.str w) (.str "jump")=some (.bl true)),u7 [.tup [.str w,.str k,.int p],.int d,.bl b]=some (true,.lst ((tW c m d b).map D.int)):=fun w k c m p hi hk ne=>by
  have i1:zF (.tup [.str w,.str k,.int p]) (.int 1)=some (.str k):=rfl
  rw [Zj]
  unfold j8 tW
  cases b
  ·simp! [yx,i1,hi,hk,pw,add_int,ne,Bool.false_eq_true,if_false,Int.add_zero,cond_false,List.map_cons,List.map_nil]
  ·have e3:(18+c+3:Int)=21+c:=by omega
   simp! [yx,i1,hi,hk,pw,add_int,ne,if_true,e3,cond_true,List.map_cons,List.map_nil]
 cases h with
 | jump p0 p1=>
  rename_i p
  have i0:xv (.lst [.str "jump",.str "when",.str "unless"]) (.str "jump")=some (.int 0):=by rfl
  have ne:yl (.str "jump") (.str "jump")=some (.bl false):=by rfl
  have c0:cJ (.tup [.str "jump",.int p])=0:=by rfl
  have m0:mJ (.tup [.str "jump",.int p])=0:=by rfl
  rw [c0,m0,Zj]
  unfold j8 tW
  cases b
  ·simp! [yx,i0,pw,add_int,ne,Bool.false_eq_true,if_false,cond_false,List.map_cons,List.map_nil,Int.add_zero,Int.zero_mul]
  ·simp! [yx,i0,pw,add_int,ne,if_true,cond_true,List.map_cons,List.map_nil,Int.add_zero,Int.zero_mul]
 | cond hw hk p0 p1=>rcases hw with rfl | rfl<;>rcases hk with rfl | rfl | rfl<;>exact one _ _ _ _ _ (by rfl) (by rfl) (by rfl)
theorem LR {L W:List D} (h1:L.length<=1000) (h2:W.length<=2):ge (.lst L) (.lst W)=some (.lst (L++W)):=by
 show (if L.length+W.length<=yA then _ else _)=_
 rw [if_pos (by show _<=16777216; omega)]
theorem Bg {rows:List D} {far:List Nat} (W:Wr rows far):gJ [.lst rows,.lst (y0 far)]=some (true,.lst ((zt rows far rows.length).map D.int)):=by
 have hn:=W.hn
 have e1:=Iv (rows:=rows) (far:=far) (by omega)
 have e2:IB [some (false,.lst rows),some (false,.lst (y0 far)),some (false,.lst (xD (zC far) (rows.length+1))),some (true,.lst []),none,none]=some (xn rows.length):=pO (n:=(rows.length:Int)) rfl (by omega)
 obtain ⟨σ',e3,x4,x5,rfl⟩:=uK (g:=yC 4) (b:=Z_) (fun i σ=>∃ x4 x5,σ=[some (false,.lst rows),some (false,.lst (y0 far)),some (false,.lst (xD (zC far) (rows.length+1))),some (true,.lst ((zt rows far i).map D.int)),x4,x5]) (ds:=xn rows.length)
  (σ:=[some (false,.lst rows),some (false,.lst (y0 far)),some (false,.lst (xD (zC far) (rows.length+1))),some (true,.lst []),none,none]) 0 ⟨none,none,rfl⟩ (by
  rintro i v σ hv ⟨x4,x5,rfl⟩
  obtain ⟨hi,rfl⟩:=pp hv
  rw [Nat.zero_add] at *
  have H:=W.one hi
  have eg:rows.getD i .non=rows[i]:=by rw [List.getD_eq_getElem?_getD,List.getElem?_eq_getElem hi]; rfl
  have al:((zt rows far i).map D.int).length<=900:=by
   have:=W.len (n:=i) (by omega)
   have:=uC (zC far) i
   rw [List.length_map]
   omega
  have ex:zF (.lst rows) (.int (i:Int))=some (rows.getD i .non):=uD (by omega) (by rw [Int.toNat_natCast,eg]; exact List.getElem?_eq_getElem hi)
  have hR:xz (rows.length:Int) (rows.getD i .non):=by rw [eg]; exact W.hr _ (List.getElem_mem hi)
  have ej:∃ w,zF (rows.getD i .non) (.int 0)=some (.str w)/\yY (.str w) (.tup [.str "jump",.str "when",.str "unless"])=some (.bl (yf (rows.getD i .non))):=by
   rcases hR with h | h
   ·obtain ⟨w,a,b,_,c,_⟩:=tQ h
    exact ⟨w,a,by rw [c]; exact b⟩
   ·obtain ⟨w,p,a,b,_,c,_⟩:=uH h
    exact ⟨w,a,by rw [c]; exact b⟩
  obtain ⟨w,ew,ein⟩:=ej
  have hin:yY (.int (i:Int)) (.lst (y0 far))=some (.bl (zC far i)):=by
   show (tD _ _).bind _=_
   rw [V2]
   rfl
  have s1:(zt rows far (i+1)).map D.int=(zt rows far i).map D.int++(xf rows far i).map D.int:=by
   show (zt rows far i++xf rows far i).map D.int=_
   rw [List.map_append]
  cases hj:yf (rows.getD i .non) with
  | false=>
   have pr:v6 (rows.getD i .non):=by
    rcases hR with h | h
    ·exact h
    ·obtain ⟨_,_,_,_,_,z,_⟩:=uH h
     rw [z] at hj
     cases hj
   obtain ⟨v,w1,w2⟩:=JW pr
   have rv:xf rows far i=[v]:=by
    unfold xf pL
    rw [hj,w2]
    rfl
   have hap:=v8 (L:=(zt rows far i).map D.int) (r:=.int v) (by omega)
   rw [hj] at ein
   refine ⟨_,[some (false,.lst rows),some (false,.lst (y0 far)),some (false,.lst (xD (zC far) (rows.length+1))),some (true,.lst ((zt rows far (i+1)).map D.int)),some (false,.int (i:Int)),x5],rfl,.inl ?_,_,_,rfl⟩
   rw [s1,rv]
   unfold Z_
   generalize (zt rows far i).map D.int=LL at *
   generalize rows.getD i .non=RR at *
   simp! [ex,ew,ein,w2,hap]
  | true=>
   have jr:t6 (rows.length:Int) (rows.getD i .non):=by
    rcases hR with h | h
    ·obtain ⟨_,_,_,_,z,_⟩:=tQ h
     rw [z] at hj
     cases hj
    ·exact h
   obtain ⟨_,p1,tp,_,_,_⟩:=H.jm hj
   have lx:zF (rows.getD i .non) (.int (-1))=some (.int (xj (rows.getD i .non):Nat)):=by
    obtain ⟨_,p,_,_,_,_,_,l1,l2,_⟩:=uH jr
    unfold tgt at tp
    rw [hj] at tp
    rw [l1,<- tp,<- l2]
   have q4:=B9 jr (dJ rows far i) (zC far i)
   have rv:xf rows far i=tW (cJ (rows.getD i .non)) (mJ (rows.getD i .non)) (dJ rows far i) (zC far i):=by
    unfold xf
    rw [hj]
    rfl
   rw [<- rv] at q4
   have hc:=LR (L:=(zt rows far i).map D.int) (W:=(xf rows far i).map D.int) (by omega) (by rw [rv,List.length_map]; unfold tW; cases zC far i<;>simp)
   have ap:=Z9 (f:=zC far) (n:=rows.length+1) (p:=xj (rows.getD i .non)) (by omega)
   have aj:=Z9 (f:=zC far) (n:=rows.length+1) (p:=i) (by omega)
   rw [hj] at ein
   have sb:xq (.int (zH (zC far) (xj (rows.getD i .non)))) (.int (zH (zC far) i))=some (.int (dJ rows far i)):=rfl
   refine ⟨_,[some (false,.lst rows),some (false,.lst (y0 far)),some (false,.lst (xD (zC far) (rows.length+1))),some (true,.lst ((zt rows far (i+1)).map D.int)),some (false,.int (i:Int)),some (false,.int (dJ rows far i))],rfl,.inl ?_,_,_,rfl⟩
   rw [s1]
   unfold Z_
   generalize (zt rows far i).map D.int=LL at *
   generalize (xf rows far i).map D.int=WW at *
   generalize dJ rows far i=DJ at *
   generalize zH (zC far) (xj (rows.getD i .non))=AP at *
   generalize zH (zC far) i=AI at *
   generalize xj (rows.getD i .non)=PP at *
   generalize rows.getD i .non=RR at *
   generalize xD (zC far) (rows.length+1)=AA at *
   have hs:xq (.int AP) (.int AI)=some (.int DJ):=sb
   simp only [xq.eq_1] at hs
   have hd:AP - AI=DJ:=by injection hs with z; injection z
   simp! [ex,ew,ein,lx,ap,aj,hd,hin,q4,hc])
 rw [jx,Nat.zero_add] at e3
 rw [MS]
 unfold WI
 simp! [e1,e2,e3]
theorem IE {rows:List D} (hf:∀ far,tu [.lst rows,.lst (y0 far)]=some (true,.lst (y0 (gF rows far)))):∀ {far R:List Nat} {k:Nat},t7 (gF rows) far R k->
  w_ ZN VB (k+1) [some (false,.lst rows),some (false,.lst (y0 far)),some (false,.lst (y0 (gF rows far)))]=some (.nx [some (false,.lst rows),some (false,.lst (y0 R)),some (false,.lst (y0 []))])
 | far,_,_,.stop e=>by
  rw [Uw]
  ·rw [e]
  ·have h:=J5 (y0 (gF rows far))
   rw [e] at h ⊢
   unfold ZN
   simp! [h]
   rfl
 | far,_,_,.go e h r=>by
  rw [Ux (σ':=[some (false,.lst rows),some (false,.lst (y0 (uU (far++gF rows far)))),some (false,.lst (y0 (gF rows (uU (far++gF rows far)))))]) ?_ ?_]
  ·exact IE hf r
  ·have h:=J5 (y0 (gF rows far))
   rw [Lz,decide_eq_true e] at h
   unfold ZN
   simp! [h]
  ·have h1:=Od h
   have h2:=GM h
   have h3:=hf (uU (far++gF rows far))
   unfold VB
   simp! [h1,h2,h3]
theorem EC {rows:List D} (hr:∀ r∈rows,xz (rows.length:Int) r) (hn:rows.length<64) {far0:List Nat} (g0:t5 rows.length far0):∃ R k,t7 (gF rows) far0 R k/\gG [.lst rows,.lst (y0 far0)]=some (false,.lst (y0 R)):=by
 obtain ⟨R,k,hR,hk,gr⟩:=IH hn (fun far=>Ma (rows:=rows)) rows.length far0 g0 (Nat.sub_le _ _)
 have hf:∀ far,tu [.lst rows,.lst (y0 far)]=some (true,.lst (y0 (gF rows far))):=fun far=>D4 hr (by omega)
 have e1:=IE hf hR
 have e2:=Vk _ e1 (Nat.le_trans (show k+1<=65 by omega) (by decide))
 have e3:=hf far0
 refine ⟨R,k,hR,?_⟩
 rw [MO]
 unfold WE
 simp! [e3,e2]
theorem On {rows:List D} (hr:∀ r∈rows,xz (rows.length:Int) r) (hn:rows.length<64) (c m:Int):∃ far0 R k,(∀ i∈far0,yf (rows.getD i .non)=true)/\t7 (gF rows) far0 R k/\g9 [.lst rows,.int c,.int m]=some (false,.lst (y0 R)):=by
 obtain ⟨far0,e0⟩:∃ f:List Nat,f=(xX rows).filter fun i:Nat=>decide (xP c (i:Int) % 4<m):=⟨_,rfl⟩
 have g0:t5 rows.length far0:=by
  rw [e0]
  refine ⟨(List.nodup_range.sublist List.filter_sublist).sublist List.filter_sublist,fun x hx=>?_⟩
  exact (k5 (List.mem_filter.mp hx).1).1
 obtain ⟨R,k,hR,e4⟩:=EC hr hn g0
 have ej:=V5 hr (by omega)
 have el:yg (yC 3) Yq Yn [some (false,.lst rows),some (false,.int c),some (false,.int m),none] ((xX rows).map fun i:Nat=>D.int i)=some (y0 far0):=by
  have h2:=Y3 (g:=yC 3) (c:=Yq) (e:=Yn) (σ:=[some (false,.lst rows),some (false,.int c),some (false,.int m),none]) (fun d=>match d with | .int i=>decide (xP c i % 4<m) | _=>false) id (ds:=(xX rows).map fun i:Nat=>D.int i) fun d hd=>by
   obtain ⟨i,_,rfl⟩:=List.mem_map.mp hd
   have hm:=tK c (i:Int)
   refine ⟨_,rfl,?_,fun _=>?_⟩
   ·unfold Yq
    show tE _ [some (false,.lst rows),some (false,.int c),some (false,.int m),some (false,.int (i:Int))]=_
    simp! [hm]
   ·unfold Yn
    rfl
  rw [h2,e0]
  unfold y0
  rw [List.map_id,List.filter_map]
  rfl
 refine ⟨far0,R,k,fun i hi=>?_,hR,?_⟩
 ·rw [e0] at hi
  exact (k5 (List.mem_filter.mp hi).1).2
 ·rw [MF]
  unfold W6
  simp! [ej,vN,el,e4]
end L3
namespace L3
open PySem
noncomputable def gU:FS:=
 (zI (zj (tE (e2 zd (z6 0) (eC (.str "n"))))
   (zk (eL uF (z8 (z6 1) zD)))
   yB)
  (zI (zj (uz (tE (e2 zd (z6 0) (eC (.str "d")))) (tE (e2 zd (z6 0) (eC (.str "s")))))
   (zk (ZU (jQ (eC (.str "r")) (jQ (e1 Za (z6 1)) Zt))))
   yB)
  (zk (z6 1))))
noncomputable def tj:List D->Option (Bool×D):=FR 2 2 gU
theorem Wu (x0 x1:D):tj [x0,x1]=yQ 2 gU [x0,x1]:=rfl
noncomputable def ky:FE:=(zX tj (z8 (z6 2) (z8 (z6 3) zD)))
noncomputable def qq:FS:=
 (zI (zj (tE (zX u_ (z8 (z6 0) zD)))
   (zk (e2 ze (e2 zF (z6 0) (eC (.int 1))) (eC (.str ":"))))
   yB)
  (zI (zQ 1 (e1 (yy ul um) (e2 zF (z6 0) (eC (.int 0)))))
  (zk (e2 vA (eC (.str " ")) (e2 ze (yb (z8 (e2 zF (z6 0) (eC (.int 0))) zD)) (w8 2 (vd (z6 1) (wn (z6 0) (xZ (eC (.int 1))) xY)) (wp 2 3) yk ky))))))
noncomputable def tm:List D->Option (Bool×D):=FR 1 2 qq
theorem gu (x0:D):tm [x0]=yQ 2 qq [x0]:=rfl
noncomputable def ZJ:FS:=
 (zI (zQ 1 (e2 zF (z6 0) (eC (.int 2))))
  (zk (zX tm (z8 (uh (tE (e2 gg (z6 1) (eC .non))) (e2 zF (z6 0) (eC (.int 0))) (e2 ze (e2 zF (z6 0) (eC (.int 0))) (yX (z8 (eL uF (z8 (z6 1) zD)) zD)))) zD))))
noncomputable def t4:List D->Option (Bool×D):=FR 1 2 ZJ
theorem QN (x0:D):t4 [x0]=yQ 2 ZJ [x0]:=rfl
noncomputable def YK:FA:=(vE (eC (.int 1)) (eL xh (z8 (z6 0) zD)))
noncomputable def Zz:FS:=(xl 2 xJ (e2 ze (e2 zF (yb (z8 (eC (.str "")) (z8 (eC (.str "r")) zD))) (eL qJ (z8 (e2 (ye fun i j=>decide (i<=j)) (z6 4) (z6 3)) zD))) (eL uF (z8 (e2 zF (z6 0) (z6 4)) zD))))
noncomputable def jB:FS:=
 (zI (zj (tE (e2 jE (z6 1) (eC .non)))
   (zk (e2 Wh (eC (.str " ")) (e2 ze (z6 0) (yX (z8 (eL uF (z8 (z6 1) zD)) zD)))))
   yB)
  (zI (wz 2 (yb (z8 (e2 zF (z6 0) (eC (.int 0))) zD)))
  (zI (zQ 3 (e2 xq (eL xh (z8 (z6 0) zD)) (eC (.int 1))))
  (zI (zj (tE (e2 yY (e2 zF (z6 0) (eC (.int 0))) (yX (z8 (eC (.str "set")) (z8 (eC (.str "high")) (z8 (eC (.str "left")) (z8 (eC (.str "right")) (z8 (eC (.str "load")) (z8 (eC (.str "store")) (z8 (eC (.str "loadw")) (z8 (eC (.str "storew")) zD)))))))))))
   (zQ 3 (e2 xq (z6 3) (eC (.int 1))))
   yB)
  (zI (wc YK (yC 4)
   Zz)
  (zI (qR 2) (zk (e2 vA (eC (.str " ")) (z6 2)))))))))
noncomputable def qd:List D->Option (Bool×D):=FR 2 5 jB
theorem Zm (x0 x1:D):qd [x0,x1]=yQ 5 jB [x0,x1]:=rfl
theorem jX {n:Int} (h0:0<=n) (h1:n<100000):wy n=true:=decide_eq_true (by
 by_cases e:n.natAbs=0
 ·rw [e]; decide
 ·have p:(2:Nat) ^ 17=131072:=by decide
  have:n.natAbs.log2<17:=(Nat.log2_lt e).mpr (by omega)
  omega)
theorem str_int {n:Int} (h:wy n=true):uF [.int n]=some (.str (zW n)):=by
 show (match wy n with | true=>_ | false=>_)=_
 rw [h]
 rfl
theorem M0 {n:Int} (h:wy n=true):Za (.int n)=some (.str (zW n)):=by
 show (match wy n with | true=>_ | false=>_)=_
 rw [h]
 rfl
theorem ZQ {n:Int} (h:wy n=true):(zW n).length<=1921:=L2.int_le (of_decide_eq_true h)
theorem Wd (x:Str):("" : Str)++x=x:=by
 cases x with
 | mk c=>
  show (⟨#[]++c⟩:Str)=⟨c⟩
  rw [Array.empty_append]
theorem M4 {n:Int} (h:wy n=true):tj [.str "n",.int n]=some (false,.str (zW n)):=by
 have e:zd (.str "n") (.str "n")=some (.bl true):=by rfl
 have s:=str_int h
 rw [Wu]
 unfold gU
 simp! [e,s]
theorem M5 {f:Str} {n:Int} (hf:f = "d" \/ f = "s") (h:wy n=true):tj [.str f,.int n]=some (false,.str ("r" ++ zW n)):=by
 have l:=ZQ h
 have g1:zd (.str f) (.str "n")=some (.bl false):=by rcases hf with rfl | rfl<;>rfl
 have s:=M0 h
 have j:ZU (jQ (eC (.str "r")) (jQ (e1 Za (z6 1)) Zt)) [some (false,.str f),some (false,.int n)]=some (.str ("r" ++ zW n)):=by
  have c1:("r" : Str).length<=yA:=by decide
  have c2:(("r" : Str)++zW n).length<=yA:=by rw [yz]; show 1+_<=16777216; omega
  have ee:∀ x:Str,Str.empty++x=x:=Wd
  simp! [ZU,jQ,Zt,s,ee,if_pos c1,if_pos c2]
 rw [Wu]
 unfold gU
 rcases hf with rfl | rfl
 ·have e2:zd (.str "d") (.str "d")=some (.bl true):=by rfl
  simp! [g1,e2,j]
 ·have e2:zd (.str "s") (.str "d")=some (.bl false):=by rfl
  have e3:zd (.str "s") (.str "s")=some (.bl true):=by rfl
  simp! [g1,e2,e3,j]
theorem Wo {f t:Str} (hf:f = "name" \/ f = "mark"):tj [.str f,.str t]=some (false,.str t):=by
 have e1:zd (.str f) (.str "n")=some (.bl false):=by rcases hf with rfl | rfl<;>rfl
 have e2:zd (.str f) (.str "d")=some (.bl false):=by rcases hf with rfl | rfl<;>rfl
 have e3:zd (.str f) (.str "s")=some (.bl false):=by rcases hf with rfl | rfl<;>rfl
 rw [Wu]
 unfold gU
 simp! [e1,e2,e3]
theorem pE {sep:Str} {ts:List Str} (h:(ts.map (·.length)).sum+ts.length*sep.length<=16777216):vA (.str sep) (.lst (ts.map D.str))=some (.str (Builtin.Str.glued sep ts)):=by
 show (uy _).bind _=_
 rw [YW]
 show (if _<=yA then _ else _)=_
 rw [if_pos h]
theorem B6 {sep:Str} {ts:List Str} (h:(ts.map (·.length)).sum+ts.length*sep.length<=16777216):Wh (.str sep) (.tup (ts.map D.str))=some (.str (Builtin.Str.glued sep ts)):=by
 show (uy _).bind _=_
 rw [YW]
 show (if _<=yA then _ else _)=_
 rw [if_pos h]
noncomputable def rS (b:Bool):Str:=bif b then "r" else ""
structure Pt (f:Str) (b:Bool) (d:D) (z:Str):Prop where
 ft:tj [.str f,d]=some (false,.str z)
 lt:∃ sd:Str,uF [d]=some (.str sd)/\ze (.str (rS b)) (.str sd)=some (.str z)
 ln:z.length<=2000
theorem jc {f:Str} {n:Int} (hf:f = "d" \/ f = "s") (n0:0<=n) (n1:n<8):Pt f true (.int n) ("r" ++ zW n):=by
 have h:=jX n0 (by omega)
 have l:=ZQ h
 exact ⟨M5 hf h,⟨zW n,str_int h,add_str (by show 1+_<=_; omega)⟩,by rw [yz]; show 1+_<=_; omega⟩
theorem Va {n:Int} (n0:0<=n) (n1:n<65536):Pt "n" false (.int n) (zW n):=by
 have h:=jX n0 (by omega)
 have l:=ZQ h
 exact ⟨M4 h,⟨zW n,str_int h,by
  have:=add_str (a := "") (b:=zW n) (by show 0+_<=_; omega)
  rw [Wd] at this
  exact this⟩,by omega⟩
structure Tx (r t:D) (z:Str):Prop where
 tp:∀ nx,t4 [.tup [r,nx,t]]=some (false,.str z)
 lw:qd [r,t]=some (false,.str z)
 ln:z.length<=7000
 ne:1<=z.length
theorem Zg (sep w:Str) (zs:List Str):w.length<=(Builtin.Str.glued sep (w::zs)).length:=by
 have h:∀ (us:List Str) (a:Array Nat),a.size<=(us.foldl (fun acc p=>acc++sep.cps++p.cps) a).size:=fun us=>by
  induction us with
  | nil=>intro a; exact Nat.le_refl _
  | cons u us ih=>
   intro a
   rw [List.foldl_cons]
   refine Nat.le_trans ?_ (ih _)
   rw [Array.size_append,Array.size_append]
   omega
 exact h zs w.cps
theorem Zh {w:Str} {zs:List Str} (hw:w.length<=100) (hz:∀ z∈zs,z.length<=2000) (hn:zs.length<=3):(Builtin.Str.glued " " (w::zs)).length<=7000:=by
 have h:=L2.glued_len " " (w::zs)
 have e:(" " : Str).length=1:=rfl
 rw [e] at h
 have s:∀ {l:List Str},(∀ z∈l,z.length<=2000)->(l.map (·.length)).sum<=2000*l.length:=fun {l}=>by
  induction l with
  | nil=>intro _; exact Nat.le_refl _
  | cons z l ih=>
   intro h
   have h1:=h z (List.mem_cons_self ..)
   have h2:=ih fun y hy=>h y (List.mem_cons_of_mem _ hy)
   rw [List.map_cons,List.sum_cons,List.length_cons]
   omega
 have:=s hz
 rw [List.map_cons,List.sum_cons,List.length_cons] at h
 omega
theorem Ur {r nx:D} {z:Str} (h:tm [r]=some (false,.str z)):t4 [.tup [r,nx,.non]]=some (false,.str z):=by
 have i2:zF (.tup [r,nx,.non]) (.int 2)=some .non:=rfl
 have i0:zF (.tup [r,nx,.non]) (.int 0)=some r:=rfl
 rw [QN]
 unfold ZJ
 simp! [i2,i0,h]
theorem HH {R:List D} {nx:D} {a:Int} {z:Str} (ha:wy a=true) (hR:R≠[]) (hl:R.length<=3) (h:tm [.tup (R++[.str (zW a)])]=some (false,.str z)):t4 [.tup [.tup R,nx,.int a]]=some (false,.str z):=by
 have i2:zF (.tup [.tup R,nx,.int a]) (.int 2)=some (.int a):=rfl
 have i0:zF (.tup [.tup R,nx,.int a]) (.int 0)=some (.tup R):=rfl
 have s:=str_int ha
 have ad:ze (.tup R) (.tup [.str (zW a)])=some (.tup (R++[.str (zW a)])):=by
  show (if R.isEmpty=false/\R.length+1<=yA then _ else _)=_
  rw [if_pos ⟨by cases R with | nil=>exact absurd rfl hR | cons _ _=>rfl,by show _<=16777216; omega⟩]
 rw [QN]
 unfold ZJ
 simp! [i2,i0,s,ad,h]
noncomputable def jW:D:=.tup [.str "set",.str "high",.str "left",.str "right",.str "load",.str "store",.str "loadw",.str "storew"]
theorem HY {w:Str} (hl:zd (.str w) (.str "label")=some (.bl false)) (hw:w.length<=100) (hw1:1<=w.length) (hF:yy ul um (.str w)=some (.tup [])) (hi:yY (.str w) jW=some (.bl false)):Tx (.tup [.str w]) .non (Builtin.Str.glued " " [w]):=by
 have sl:qK (.tup [.str w]) (some 1) none=some (.tup []):=by rfl
 have jn:vA (.str " ") (.lst [.str w])=some (.str (Builtin.Str.glued " " [w])):=pE (ts:=[w]) (by show w.length+0+1*1<=_; omega)
 have il:u_ [.tup [.str w]]=some (false,.bl false):=by rw [gt]; unfold qp; simp! [yx,hl]
 have ad:=ql (L:=[.str w]) (M:=[]) (by show 1+0<=_; omega)
 rw [show [D.str w]++[]=[.str w] from rfl] at ad
 refine ⟨fun nx=>Ur ?_,?_,Zh hw (fun _ h=>by cases h) (by decide),Nat.le_trans hw1 (Zg ..)⟩
 ·rw [gu]
  unfold qq
  simp! [il,yx,hF,vd,wn,xZ,xY,sl,vN,List.zipWith_nil_left,yg,ad,jn]
 ·have rr:∀ x,YK [some (false,.tup [.str w]),some (false,.non),some (true,.lst [.str w]),x,none]=some []:=fun _=>rfl
  unfold jW at hi
  rw [Zm]
  unfold jB
  simp! [yx,hi,rr,jn]
theorem Ut {w f1 z1 f2 z2:Str} {d1 d2:D} {b:Bool} (hl:zd (.str w) (.str "label")=some (.bl false)) (hw:w.length<=100) (hw1:1<=w.length) (hF:yy ul um (.str w)=some (.tup [.str f1,.str f2])) (hi:yY (.str w) jW=some (.bl (!b))) (P1:Pt f1 true d1 z1) (P2:Pt f2 b d2 z2):Tx (.tup [.str w,d1,d2]) .non (Builtin.Str.glued " " [w,z1,z2]):=by
 obtain ⟨g1,⟨s1,a1,a2⟩,l1⟩:=P1
 obtain ⟨g2,⟨s2,c1,c2⟩,l2⟩:=P2
 have sl:qK (.tup [.str w,d1,d2]) (some 1) none=some (.tup [d1,d2]):=by rfl
 have jn:vA (.str " ") (.lst [.str w,.str z1,.str z2])=some (.str (Builtin.Str.glued " " [w,z1,z2])):=pE (ts:=[w,z1,z2]) (by show w.length+(z1.length+(z2.length+0))+3*1<=_; omega)
 have il:u_ [.tup [.str w,d1,d2]]=some (false,.bl false):=by rw [gt]; unfold qp; simp! [yx,hl]
 have ad:=ql (L:=[.str w]) (M:=[.str z1,.str z2]) (by show 1+2<=_; omega)
 rw [show [D.str w]++[.str z1,.str z2]=[.str w,.str z1,.str z2] from rfl] at ad
 refine ⟨fun nx=>Ur ?_,?_,Zh hw (fun z hz=>by
  rcases List.mem_cons.mp hz with rfl | hz
  ·exact l1
  ·cases List.mem_singleton.mp hz; exact l2) (by simp),Nat.le_trans hw1 (Zg ..)⟩
 ·rw [gu]
  unfold qq
  simp! [il,yx,hF,vd,wn,xZ,xY,sl,vN,List.zipWith_cons_cons,List.zipWith_nil_left,ky,yg,yk,wp,g1,g2,ad,jn]
 ·have rr:∀ x,YK [some (false,.tup [.str w,d1,d2]),some (false,.non),some (true,.lst [.str w]),x,none]=some [.int 1,.int 2]:=fun _=>rfl
  have i1:zF (.tup [.str w,d1,d2]) (.int 1)=some d1:=rfl
  have i2:zF (.tup [.str w,d1,d2]) (.int 2)=some d2:=rfl
  have p1:xJ (.lst [.str w]) (.str z1)=some (.lst [.str w,.str z1]):=v8 (by simp)
  have p2:xJ (.lst [.str w,.str z1]) (.str z2)=some (.lst [.str w,.str z1,.str z2]):=v8 (by simp)
  have x1:zF (.lst [.str "",.str "r"]) (.int 1)=some (.str "r"):=rfl
  have x0:zF (.lst [.str "",.str "r"]) (.int 0)=some (.str ""):=rfl
  have k1:rS true = "r" := rfl
  have c3:((3:Nat):Int)=3:=rfl
  rw [k1] at a2
  unfold jW at hi
  rw [Zm]
  unfold jB
  cases b with
  | true=>
   rw [k1] at c2
   simp! [yx,hi,rr,Zz,List.length_cons,List.length_nil,c3,Bool.not_true,x1,i1,i2,a1,a2,c1,c2,p1,p2,jn,decide_true,decide_false,if_true]
  | false=>
   have k0:rS false = "" := rfl
   rw [k0] at c2
   simp! [yx,hi,rr,Zz,List.length_cons,List.length_nil,c3,Bool.not_false,x1,x0,i1,i2,a1,a2,c1,c2,p1,p2,jn,decide_true,decide_false,if_true,Bool.false_eq_true,if_false]
end L3
namespace L3
open PySem
theorem HZ {w f1 z1 f2 z2 f3 z3:Str} {d1 d2 d3:D} (hl:zd (.str w) (.str "label")=some (.bl false)) (hw:w.length<=100) (hw1:1<=w.length) (hF:yy ul um (.str w)=some (.tup [.str f1,.str f2,.str f3])) (hi:yY (.str w) jW=some (.bl true)) (P1:Pt f1 true d1 z1) (P2:Pt f2 true d2 z2) (P3:Pt f3 false d3 z3):Tx (.tup [.str w,d1,d2,d3]) .non (Builtin.Str.glued " " [w,z1,z2,z3]):=by
 obtain ⟨g1,⟨s1,a1,a2⟩,l1⟩:=P1
 obtain ⟨g2,⟨s2,c1,c2⟩,l2⟩:=P2
 obtain ⟨g3,⟨s3,q1,q2⟩,l3⟩:=P3
 have sl:qK (.tup [.str w,d1,d2,d3]) (some 1) none=some (.tup [d1,d2,d3]):=by rfl
 have jn:vA (.str " ") (.lst [.str w,.str z1,.str z2,.str z3])=some (.str (Builtin.Str.glued " " [w,z1,z2,z3])):=pE (ts:=[w,z1,z2,z3]) (by show w.length+(z1.length+(z2.length+(z3.length+0)))+4*1<=_; omega)
 have il:u_ [.tup [.str w,d1,d2,d3]]=some (false,.bl false):=by rw [gt]; unfold qp; simp! [yx,hl]
 have ad:=ql (L:=[.str w]) (M:=[.str z1,.str z2,.str z3]) (by show 1+3<=_; omega)
 rw [show [D.str w]++[.str z1,.str z2,.str z3]=[.str w,.str z1,.str z2,.str z3] from rfl] at ad
 refine ⟨fun nx=>Ur ?_,?_,Zh hw (fun z hz=>by
  rcases List.mem_cons.mp hz with rfl | hz
  ·exact l1
  ·rcases List.mem_cons.mp hz with rfl | hz
   ·exact l2
   ·cases List.mem_singleton.mp hz; exact l3) (by simp),Nat.le_trans hw1 (Zg ..)⟩
 ·rw [gu]
  unfold qq
  simp! [il,yx,hF,vd,wn,xZ,xY,sl,vN,List.zipWith_cons_cons,List.zipWith_nil_left,ky,yg,yk,wp,g1,g2,g3,ad,jn]
 ·have rr:∀ x,YK [some (false,.tup [.str w,d1,d2,d3]),some (false,.non),some (true,.lst [.str w]),x,none]=some [.int 1,.int 2,.int 3]:=fun _=>rfl
  have i1:zF (.tup [.str w,d1,d2,d3]) (.int 1)=some d1:=rfl
  have i2:zF (.tup [.str w,d1,d2,d3]) (.int 2)=some d2:=rfl
  have i3:zF (.tup [.str w,d1,d2,d3]) (.int 3)=some d3:=rfl
  have p1:xJ (.lst [.str w]) (.str z1)=some (.lst [.str w,.str z1]):=v8 (by simp)
  have p2:xJ (.lst [.str w,.str z1]) (.str z2)=some (.lst [.str w,.str z1,.str z2]):=v8 (by simp)
  have p3:xJ (.lst [.str w,.str z1,.str z2]) (.str z3)=some (.lst [.str w,.str z1,.str z2,.str z3]):=v8 (by simp)
  have x1:zF (.lst [.str "",.str "r"]) (.int 1)=some (.str "r"):=rfl
  have x0:zF (.lst [.str "",.str "r"]) (.int 0)=some (.str ""):=rfl
  have k1:rS true = "r" := rfl
  have k0:rS false = "" := rfl
  have c4:((4:Nat):Int)=4:=rfl
  rw [k1] at a2 c2
  rw [k0] at q2
  unfold jW at hi
  rw [Zm]
  unfold jB
  simp! [yx,hi,rr,Zz,List.length_cons,List.length_nil,c4,x1,x0,i1,i2,i3,a1,a2,c1,c2,q1,q2,p1,p2,p3,jn,decide_true,decide_false,if_true,Bool.false_eq_true,if_false]
theorem OA {w:Str} {R:List D} {zs fs:List Str} {a:Int} (ha:wy a=true) (hl:zd (.str w) (.str "label")=some (.bl false)) (hw:w.length<=100) (hw1:1<=w.length) (hR:R=zs.map D.str) (hz:zs.length<=1) (hzl:∀ z∈zs,z.length<=100) (hF:yy ul um (.str w)=some (.tup (fs.map D.str)))
  (he:zs=[]/\fs=[("name" : Str)]\/∃ k:Str,zs=[k]/\fs=[("mark" : Str), "name"]):Tx (.tup (.str w::R)) (.int a) (Builtin.Str.glued " " (w::(zs++[zW a]))):=by
 have al:=ZQ ha
 have s:=str_int ha
 subst hR
 have lw:qd [.tup (.str w::zs.map D.str),.int a]=some (false,.str (Builtin.Str.glued " " (w::(zs++[zW a])))):=by
  have ad:ze (.tup (.str w::zs.map D.str)) (.tup [.str (zW a)])=some (.tup ((w::(zs++[zW a])).map D.str)):=by
   show (if (D.str w::zs.map D.str).isEmpty=false/\(D.str w::zs.map D.str).length+1<=yA then some (D.tup ((D.str w::zs.map D.str)++[.str (zW a)])) else none)=_
   rw [if_pos ⟨rfl,by rw [List.length_cons,List.length_map]; show _<=16777216; omega⟩,List.map_cons,List.map_append]
   rfl
  have jn:=B6 (sep := " ") (ts:=w::(zs++[zW a])) (by
   rcases he with ⟨rfl,_⟩ | ⟨k,rfl,_⟩
   ·show w.length+((zW a).length+0)+2*1<=_; omega
   ·have:=hzl k (List.mem_singleton.mpr rfl)
    show w.length+(k.length+((zW a).length+0))+3*1<=_; omega)
  rw [Zm]
  unfold jB
  generalize (w::(zs++[zW a])).map D.str=LL at *
  generalize zs.map D.str=ZZ at *
  simp! [s,ad,jn]
 refine ⟨fun nx=>?_,lw,Zh hw (fun z hz=>?_) (by rw [List.length_append]; show _+1<=_; omega),Nat.le_trans hw1 (Zg ..)⟩
 ·refine HH ha (by simp) (by rw [List.length_cons,List.length_map]; omega) ?_
  rcases he with ⟨rfl,rfl⟩ | ⟨k,rfl,rfl⟩
  ·show tm [.tup [.str w,.str (zW a)]]=_
   have hF:yy ul um (.str w)=some (.tup [.str "name"]):=hF
   have sl:qK (.tup [.str w,.str (zW a)]) (some 1) none=some (.tup [.str (zW a)]):=by rfl
   have jn:vA (.str " ") (.lst [.str w,.str (zW a)])=some (.str (Builtin.Str.glued " " [w,zW a])):=pE (ts:=[w,zW a]) (by show w.length+((zW a).length+0)+2*1<=_; omega)
   have il:u_ [.tup [.str w,.str (zW a)]]=some (false,.bl false):=by rw [gt]; unfold qp; simp! [yx,hl]
   have ad:=ql (L:=[.str w]) (M:=[.str (zW a)]) (by show 1+1<=_; omega)
   rw [show [D.str w]++[.str (zW a)]=[.str w,.str (zW a)] from rfl] at ad
   have g1:=Wo (f := "name") (t:=zW a) (.inl rfl)
   rw [gu]
   unfold qq
   generalize zW a=A at *
   simp! [il,yx,hF,vd,wn,xZ,xY,sl,vN,List.zipWith_cons_cons,List.zipWith_nil_left,ky,yg,yk,wp,g1,ad,jn,List.nil_append]
  ·have kl:=hzl k (List.mem_singleton.mpr rfl)
   show tm [.tup [.str w,.str k,.str (zW a)]]=_
   have hF:yy ul um (.str w)=some (.tup [.str "mark",.str "name"]):=hF
   have sl:qK (.tup [.str w,.str k,.str (zW a)]) (some 1) none=some (.tup [.str k,.str (zW a)]):=by rfl
   have jn:vA (.str " ") (.lst [.str w,.str k,.str (zW a)])=some (.str (Builtin.Str.glued " " [w,k,zW a])):=pE (ts:=[w,k,zW a]) (by show w.length+(k.length+((zW a).length+0))+3*1<=_; omega)
   have il:u_ [.tup [.str w,.str k,.str (zW a)]]=some (false,.bl false):=by rw [gt]; unfold qp; simp! [yx,hl]
   have ad:=ql (L:=[.str w]) (M:=[.str k,.str (zW a)]) (by show 1+2<=_; omega)
   rw [show [D.str w]++[.str k,.str (zW a)]=[.str w,.str k,.str (zW a)] from rfl] at ad
   have g1:=Wo (f := "name") (t:=zW a) (.inl rfl)
   have g2:=Wo (f := "mark") (t:=k) (.inr rfl)
   have e:([k]++[zW a]:List Str)=[k,zW a]:=rfl
   rw [e,gu]
   unfold qq
   generalize zW a=A at *
   simp! [il,yx,hF,vd,wn,xZ,xY,sl,vN,List.zipWith_cons_cons,List.zipWith_nil_left,ky,yg,yk,wp,g1,g2,ad,jn]
 ·rcases List.mem_append.mp hz with h | h
  ·have:=hzl z h; omega
  ·cases List.mem_singleton.mp h; omega
theorem CK {r:D} (h:v6 r):∃ z,Tx r .non z:=by
 cases h with
 | stop=>exact ⟨_,HY (w := "stop") (by rfl) (by decide) (by decide) (by rfl) (by rfl)⟩
 | imm hw d0 d1 n0 n1=>exact ⟨_,Ut (b:=false) (by rcases hw with rfl | rfl<;>rfl) (by rcases hw with rfl | rfl<;>decide) (by rcases hw with rfl | rfl<;>decide) (by rcases hw with rfl | rfl<;>rfl) (by rcases hw with rfl | rfl<;>rfl) (jc (.inl rfl) d0 d1) (Va n0 n1)⟩
 | mov hw d0 d1 n0 n1=>exact ⟨_,Ut (b:=false) (by rcases hw with rfl | rfl<;>rfl) (by rcases hw with rfl | rfl<;>decide) (by rcases hw with rfl | rfl<;>decide) (by rcases hw with rfl | rfl<;>rfl) (by rcases hw with rfl | rfl<;>rfl) (jc (.inl rfl) d0 d1) (Va n0 (by omega))⟩
 | two hw d0 d1 s0 s1=>exact ⟨_,Ut (b:=true) (by rcases hw with rfl | rfl | rfl | rfl | rfl | rfl | rfl | rfl | rfl<;>rfl) (by rcases hw with rfl | rfl | rfl | rfl | rfl | rfl | rfl | rfl | rfl<;>decide) (by rcases hw with rfl | rfl | rfl | rfl | rfl | rfl | rfl | rfl | rfl<;>decide) (by rcases hw with rfl | rfl | rfl | rfl | rfl | rfl | rfl | rfl | rfl<;>rfl) (by rcases hw with rfl | rfl | rfl | rfl | rfl | rfl | rfl | rfl | rfl<;>rfl) (jc (.inl rfl) d0 d1) (jc (.inr rfl) s0 s1)⟩
 | mem hw d0 d1 s0 s1 n0 n1=>exact ⟨_,HZ (by rcases hw with rfl | rfl | rfl | rfl<;>rfl) (by rcases hw with rfl | rfl | rfl | rfl<;>decide) (by rcases hw with rfl | rfl | rfl | rfl<;>decide) (by rcases hw with rfl | rfl | rfl | rfl<;>rfl) (by rcases hw with rfl | rfl | rfl | rfl<;>rfl) (jc (.inl rfl) d0 d1) (jc (.inr rfl) s0 s1) (Va n0 (by omega))⟩
theorem BC {m:Int} {r:D} (h:t6 m r) {a:Int} (a0:0<=a) (a1:a<1000):∃ z,Tx (gY r) (.int a) z:=by
 have ha:=jX a0 (by omega)
 cases h with
 | jump p0 p1=>exact ⟨_,OA (w := "jump") (zs:=[]) (fs:=["name"]) ha (by rfl) (by decide) (by decide) rfl (by simp) (fun _ h=>by cases h) (by rfl) (.inl ⟨rfl,rfl⟩)⟩
 | cond hw hk p0 p1=>
  rename_i w k p
  exact ⟨_,OA (w:=w) (zs:=[k]) (fs:=["mark", "name"]) ha (by rcases hw with rfl | rfl<;>rfl) (by rcases hw with rfl | rfl<;>decide) (by rcases hw with rfl | rfl<;>decide) rfl (by simp) (fun z h=>by cases List.mem_singleton.mp h; rcases hk with rfl | rfl | rfl<;>decide) (by rcases hw with rfl | rfl<;>rfl) (.inr ⟨k,rfl,rfl⟩)⟩
end L3
namespace L3
open PySem
noncomputable def jy:FE:=(e2 zF (eC (.str "0123456789abcdef")) (zX qe (z8 (z6 0) (z8 (z6 1) (z8 (eC (.int 4)) zD)))))
noncomputable def W5:FS:=
 (zk (e2 vA (eC (.str "")) (w8 1 (uo (eC Zo)) (yC 1) yk jy)))
noncomputable def g8:List D->Option (Bool×D):=FR 1 1 W5
theorem ME (x0:D):g8 [x0]=yQ 1 W5 [x0]:=rfl
noncomputable def V8:FS:=(zI (zQ 1 (e2 ze (e2 zF (eC (.str "0123456789abcdef")) (e2 yI (z6 0) (eC (.int 16)))) (z6 1)))
    (zQ 0 (e2 xK (z6 0) (eC (.int 16)))))
noncomputable def W8:FS:=
 (zI (zQ 1 (eC (.str "")))
  (zI (wc (vE (eC (.int 0)) (eC (.int 8))) (yC 2)
   V8)
  (zk (z6 1))))
noncomputable def pz:List D->Option (Bool×D):=FR 1 3 W8
theorem MH (x0:D):pz [x0]=yQ 3 W8 [x0]:=rfl
noncomputable def ya (d:Int):Str:=⟨#[("0123456789abcdef" : Str).cps.getD d.toNat 0]⟩
theorem hix:∀ n:Nat,n<16->zF (.str "0123456789abcdef") (.int (n:Int))=some (.str (ya (n:Int)))
 | 0,_=>rfl
 | 1,_=>rfl
 | 2,_=>rfl
 | 3,_=>rfl
 | 4,_=>rfl
 | 5,_=>rfl
 | 6,_=>rfl
 | 7,_=>rfl
 | 8,_=>rfl
 | 9,_=>rfl
 | 10,_=>rfl
 | 11,_=>rfl
 | 12,_=>rfl
 | 13,_=>rfl
 | 14,_=>rfl
 | 15,_=>rfl
 | n+16,h=>absurd h (by omega)
theorem QP {d:Int} (h0:0<=d) (h1:d<16):zF (.str "0123456789abcdef") (.int d)=some (.str (ya d)):=by
 obtain ⟨n,rfl⟩:=Int.eq_ofNat_of_zero_le h0
 exact hix n (by omega)
noncomputable def hx (x:Int):Str:=Builtin.Str.glued "" [ya (x / 268435456 % 16),ya (x / 16777216 % 16),ya (x / 1048576 % 16),ya (x / 65536 % 16),ya (x / 4096 % 16),ya (x / 256 % 16),ya (x / 16 % 16),ya (x % 16)]
theorem FW {x l:Int} (l0:0<=l):qe [.int x,.int l,.int 4]=some (false,.int (x / 2 ^ l.toNat % 16)):=by
 have e1:=pM (i:=1) (j:=4) (by decide) (by decide) (by decide) (by decide)
 have e2:Builtin.bitAnd (x / 2 ^ l.toNat) 15=x / 2 ^ l.toNat % 16:=JM (x / 2 ^ l.toNat) 4
 rw [QM]
 unfold ZI
 simp! [e1,decide_eq_true l0,e2]
theorem Mb (x:Int):g8 [.int x]=some (false,.str (hx x)):=by
 have one:∀ l:Int,0<=l->jy [some (false,.int x),some (false,.int l)]=some (.str (ya (x / 2 ^ l.toNat % 16))):=fun l h=>by
  have p:=FW (x:=x) h
  have q:=QP (d:=x / 2 ^ l.toNat % 16) (by omega) (by omega)
  unfold jy
  generalize x / 2 ^ l.toNat % 16=d at *
  simp! [p,q]
 have lc:yg (yC 1) yk jy [some (false,.int x),none] [.int 28,.int 24,.int 20,.int 16,.int 12,.int 8,.int 4,.int 0]=some ([28,24,20,16,12,8,4,0].map fun l:Nat=>.str (ya (x / 2 ^ l % 16))):=
  Y4 (g:=yC 1) (e:=jy) (σ:=[some (false,.int x),none]) (fun d=>match d with | .int l=>.str (ya (x / 2 ^ l.toNat % 16)) | _=>.non) (ds:=[.int 28,.int 24,.int 20,.int 16,.int 12,.int 8,.int 4,.int 0]) fun d hd=>by
   obtain ⟨l,l0,rfl⟩:∃ l:Int,0<=l/\d=.int l:=by
    simp only [List.mem_cons,List.not_mem_nil,or_false] at hd
    rcases hd with rfl | rfl | rfl | rfl | rfl | rfl | rfl | rfl<;>exact ⟨_,by decide,rfl⟩
   exact ⟨_,rfl,one l l0⟩
 have lc:yg (yC 1) yk jy [some (false,.int x),none] [.int 28,.int 24,.int 20,.int 16,.int 12,.int 8,.int 4,.int 0]=some ([ya (x / 268435456 % 16),ya (x / 16777216 % 16),ya (x / 1048576 % 16),ya (x / 65536 % 16),ya (x / 4096 % 16),ya (x / 256 % 16),ya (x / 16 % 16),ya (x % 16)].map D.str):=by
  rw [lc,show ya (x % 16)=ya (x / 1 % 16) by rw [Int.ediv_one]]
  rfl
 have jn:=pE (sep := "") (ts:=[ya (x / 268435456 % 16),ya (x / 16777216 % 16),ya (x / 1048576 % 16),ya (x / 65536 % 16),ya (x / 4096 % 16),ya (x / 256 % 16),ya (x / 16 % 16),ya (x % 16)]) (by show 1+(1+(1+(1+(1+(1+(1+(1+0)))))))+8*0<=_; decide)
 have it:Zo=.tup [.int 28,.int 24,.int 20,.int 16,.int 12,.int 8,.int 4,.int 0]:=rfl
 rw [ME]
 unfold W5 hx
 generalize [ya (x / 268435456 % 16),ya (x / 16777216 % 16),ya (x / 1048576 % 16),ya (x / 65536 % 16),ya (x / 4096 % 16),ya (x / 256 % 16),ya (x / 16 % 16),ya (x % 16)]=L at *
 generalize L.map D.str=M at *
 simp! [it,lc,jn]
noncomputable def uX (x:Int):Nat->Str
 | 0 => ""
 | n+1=>ya (x / 16 ^ n % 16)++uX x n
theorem Uq (x:Int):∀ n,(uX x n).length=n
 | 0=>rfl
 | n+1=>by
  show (ya _++uX x n).length=_
  rw [yz,Uq x n]
  show 1+n=n+1
  omega
noncomputable def xO:List Str->Str
 | [] => ""
 | a::r=>a++xO r
theorem Tu:("" : Str).cps=#[]:=by rfl
theorem LW (a b:Str):(a++b).cps=a.cps++b.cps:=rfl
theorem Q4:∀ (ts:List Str) (a:Array Nat),ts.foldl (fun acc p=>acc++("" : Str).cps++p.cps) a=a++(xO ts).cps
 | [],a=>by
  show a=a++("" : Str).cps
  rw [Tu,Array.append_empty]
 | t::ts,a=>by
  rw [List.foldl_cons,Q4 ts]
  show _=a++(t++xO ts).cps
  rw [LW,Tu,Array.append_empty,Array.append_assoc]
theorem QH:∀ ts:List Str,Builtin.Str.glued "" ts=xO ts
 | []=>by
  show (⟨Str.empty.cps⟩:Str) = ""
  rfl
 | t::ts=>by
  have h:=Q4 ts t.cps
  show (⟨ts.foldl (fun acc p=>acc++("" : Str).cps++p.cps) t.cps⟩:Str)=t++xO ts
  rw [h]
  rfl
theorem O3 (x:Int):uX x 8=hx x:=by
 have p7:(16:Int) ^ 7=268435456:=by decide
 have p6:(16:Int) ^ 6=16777216:=by decide
 have p5:(16:Int) ^ 5=1048576:=by decide
 have p4:(16:Int) ^ 4=65536:=by decide
 have p3:(16:Int) ^ 3=4096:=by decide
 have p2:(16:Int) ^ 2=256:=by decide
 have p1:(16:Int) ^ 1=16:=by decide
 have p0:(16:Int) ^ 0=1:=by decide
 unfold hx
 rw [QH]
 simp only [xO,uX,p7,p6,p5,p4,p3,p2,p1,p0,Int.ediv_one]
theorem Qo {x:Int}:pz [.int x]=some (false,.str (hx x)):=by
 obtain ⟨σ',e1,x2,rfl⟩:=uK (g:=yC 2) (b:=V8) (fun i σ=>∃ x2,σ=[some (false,.int (x / 16 ^ i)),some (false,.str (uX x i)),x2]) (ds:=xn 8) (σ:=[some (false,.int x),some (false,.str ""),none]) 0 ⟨none,by rw [Int.pow_zero,Int.ediv_one]; rfl⟩ (by
  rintro i v σ hv ⟨x2,rfl⟩
  obtain ⟨hi,rfl⟩:=pp hv
  rw [Nat.zero_add] at *
  refine ⟨_,[some (false,.int (x / 16 ^ (i+1))),some (false,.str (uX x (i+1))),some (false,.int (i:Int))],rfl,.inl ?_,_,rfl⟩
  have q:=QP (d:=x / 16 ^ i % 16) (by omega) (by omega)
  have ad:=add_str (a:=ya (x / 16 ^ i % 16)) (b:=uX x i) (by rw [Uq]; show 1+i<=_; omega)
  have d1:x / 16 ^ (i+1)=x / 16 ^ i / 16:=by rw [Int.pow_succ,Int.ediv_ediv_of_nonneg (Int.le_of_lt (Int.pow_pos (by decide)))]
  have t1:uX x (i+1)=ya (x / 16 ^ i % 16)++uX x i:=rfl
  have fm:yI (.int (x / 16 ^ i)) (.int 16)=some (.int (x / 16 ^ i % 16)):=rfl
  have fd:xK (.int (x / 16 ^ i)) (.int 16)=some (.int (x / 16 ^ i / 16)):=rfl
  rw [d1,t1]
  unfold V8
  generalize uX x i=T at *
  generalize x / 16 ^ i=Y at *
  simp! [fm,q,ad,fd])
 rw [jx,Nat.zero_add,O3] at e1
 have r:vE (eC (.int 0)) (eC (.int 8)) [some (false,.int x),some (false,.str ""),none]=some (xn 8):=rfl
 rw [MH]
 unfold W8
 simp! [r,e1]
end L3
namespace L3
open PySem
noncomputable def Y0:FS:=(zI (zQ 5 (e2 ze (e2 ze (e2 Wl (eL uF (z8 (z6 3) zD)) (eC (.int 5))) (eC (.str "  "))) (zX g8 (z8 (z6 4) zD))))
    (zI (zj (tE (e2 yY (z6 3) (z6 1)))
     (zQ 5 (e2 ze (e2 ze (z6 5) (eC (.str "  "))) (zX t4 (z8 (e2 zF (z6 1) (z6 3)) zD))))
     yB)
    (xl 2 xJ (e2 ze (z6 5) (eC (.str "\n"))))))
noncomputable def WJ:FS:=
 (zI (zQ 1 (zX gK (z8 (z6 0) zD)))
  (zI (wz 2 (yb zD))
  (zI (wc (W_ (z6 0)) (wp 3 4)
   Y0)
  (zI (qR 2) (zk (e2 vA (eC (.str "")) (z6 2)))))))
noncomputable def tz:List D->Option (Bool×D):=FR 1 6 WJ
theorem MT (x0:D):tz [x0]=yQ 6 WJ [x0]:=rfl
noncomputable def Zy:FS:=(zI (Vj (zX vS (z8 (z6 0) (z8 (z6 2) zD))) (jG 3 4 5))
    (zI (xl 1 xJ (yb (z8 (eL uF (z8 (z6 2) zD)) (z8 (zX pz (z8 (e2 zF (z6 0) (z6 2)) zD)) (z8 (zX qd (z8 (z6 3) (z8 (z6 5) zD))) zD)))))
    (zI (zj (tE (e2 (ye fun i j=>decide (j<i)) (z6 4) (e2 ze (z6 2) (eC (.int 1)))))
     (xl 1 xJ (yb (z8 (eL uF (z8 (e2 ze (z6 2) (eC (.int 1))) zD)) (z8 (zX pz (z8 (e2 zF (z6 0) (e2 ze (z6 2) (eC (.int 1)))) zD)) (z8 (eC (.str "")) zD)))))
     yB)
    (zQ 2 (z6 4)))))
noncomputable def ZM:FT:=(tE (e2 (ye fun i j=>decide (i<j)) (z6 2) (eL xh (z8 (z6 0) zD))))
noncomputable def WB:FS:=
 (zI (wz 1 (yb zD))
  (zI (zQ 2 (eC (.int 0)))
  (zI (kP ZM
   Zy)
  (tR 1))))
noncomputable def gC:List D->Option (Bool×D):=FR 1 6 WB
theorem MK (x0:D):gC [x0]=yQ 6 WB [x0]:=rfl
theorem ZE (a b c:Str):a++b++c=a++(b++c):=by
 show (⟨_⟩:Str)=⟨_⟩
 rw [Str.mk.injEq]
 exact Array.append_assoc ..
theorem Oo (a:Str):a ++ "" = a:=by
 cases a with
 | mk c=>
  show (⟨c++#[]⟩:Str)=⟨c⟩
  rw [Array.append_empty]
theorem WT:∀ (L:List Str) (x:Str),xO (L++[x])=xO L++x
 | [],x=>by
  show x ++ "" = "" ++ x
  rw [Oo,Wd]
 | a::L,x=>by
  show a++xO (L++[x])=a++xO L++x
  rw [WT L x,ZE]
theorem VT:∀ a:Nat,a<128->Txt.rjust (zW (a:Int)) 5=Txt.mul " " (5 - ((zW (a:Int)).length:Int))++zW (a:Int)/\1<=(zW (a:Int)).length/\(zW (a:Int)).length<=3:=by decide +kernel
section
variable (rows:List D) (far:List Nat)
noncomputable def zT (i:Nat):Str:=match qd [xV rows i,tA (zH (zC far)) (xS rows i)] with
 | some (_,.str z)=>z
 | _ => ""
noncomputable def pQ (i:Nat):List (Int×Str):=(zH (zC far) i,zT rows far i)::(bif zC far i then [(zH (zC far) i+1, "")] else [])
noncomputable def z_:Nat->List (Int×Str)
 | 0=>[]
 | n+1=>z_ n++pQ rows far n
end
section
variable {rows:List D} {far:List Nat} (W:Wr rows far)
include W
theorem EE {i:Nat} (hi:i<rows.length):∀ m∈xf rows far i,0<=m/\m<4294967296:=by
 have h:=W.one hi
 unfold xf
 cases hj:yf (rows.getD i .non) with
 | false=>
  intro m hm
  obtain ⟨w,_⟩:=h.pl hj
  cases List.mem_singleton.mp hm
  exact ⟨w.v0,w.v1⟩
 | true=>
  obtain ⟨w,_⟩:=h.jm hj
  have c0:=w.c0
  have c1:=w.c1
  have m0:=w.m0
  have m1:=w.m1
  intro m hm
  unfold tW at hm
  cases hF:zC far i with
  | true=>
   rw [hF] at hm
   rcases List.mem_cons.mp hm with rfl | hm
   ·omega
   ·cases List.mem_singleton.mp hm
    omega
  | false=>
   rw [hF] at hm
   cases List.mem_singleton.mp hm
   omega
theorem IG:∀ {n:Nat},n<=rows.length->∀ m∈zt rows far n,0<=m/\m<4294967296
 | 0,_,m,hm=>by cases hm
 | n+1,h,m,hm=>by
  rcases List.mem_append.mp hm with q | q
  ·exact IG (by omega) m q
  ·exact EE W (by omega) m q
theorem Uu {i:Nat} (hi:i<rows.length):Tx (xV rows i) (tA (zH (zC far)) (xS rows i)) (zT rows far i):=by
 have:∃ z,Tx (xV rows i) (tA (zH (zC far)) (xS rows i)) z:=by
  have eg:rows.getD i .non=rows[i]:=by rw [List.getD_eq_getElem?_getD,List.getElem?_eq_getElem hi]; rfl
  have hR:xz (rows.length:Int) (rows.getD i .non):=by rw [eg]; exact W.hr _ (List.getElem_mem hi)
  unfold xV xS
  cases hj:yf (rows.getD i .non) with
  | false=>
   rcases hR with h | h
   ·exact CK h
   ·obtain ⟨_,_,_,_,_,z,_⟩:=uH h
    rw [z] at hj
    cases hj
  | true=>
   obtain ⟨_,p1,_⟩:=(W.one hi).jm hj
   have a:=uC (zC far) (xj (rows.getD i .non))
   have:=W.hn
   rcases hR with h | h
   ·obtain ⟨_,_,_,_,z,_⟩:=tQ h
    rw [z] at hj
    cases hj
   ·exact BC h (a:=zH (zC far) (xj (rows.getD i .non))) a.1 (by omega)
 obtain ⟨z,h⟩:=this
 have e:zT rows far i=z:=by unfold zT; rw [h.lw]
 rw [e]
 exact h
theorem Ba {i:Nat} (hi:i<rows.length):vS [.lst ((zt rows far rows.length).map D.int),.int (zH (zC far) i)]=some (false,.tup [xV rows i,.int (zH (zC far) (i+1)),tA (zH (zC far)) (xS rows i)]):=by
 obtain ⟨r,h1,h2,_⟩:=Oh (IG W (Nat.le_refl _)) (zH (zC far) i)
 have:=W.tb.told i hi
 rw [h1] at this
 rw [h2]
 exact this
omit W in
theorem Z8 (i:Nat):zH (zC far) (i+1)=zH (zC far) i+(if zC far i then 2 else 1):=rfl
theorem Y7:∀ {n:Nat},n<=rows.length->(z_ rows far n).map (·.1)=(List.range (zH (zC far) n).toNat).map fun k:Nat=>(k:Int)
 | 0,_=>rfl
 | n+1,h=>by
  have ih:=Y7 (n:=n) (by omega)
  have a:=uC (zC far) n
  show (z_ rows far n++pQ rows far n).map (·.1)=_
  rw [List.map_append,ih,Z8]
  unfold pQ
  cases zC far n with
  | true=>
   rw [if_pos rfl,show (zH (zC far) n+2).toNat=(zH (zC far) n).toNat+1+1 by omega,List.range_succ,List.range_succ,List.map_append,List.map_append,List.append_assoc]
   congr 1
   show [zH (zC far) n,zH (zC far) n+1]=[(((zH (zC far) n).toNat:Nat):Int),(((zH (zC far) n).toNat+1:Nat):Int)]
   rw [show (((zH (zC far) n).toNat:Nat):Int)=zH (zC far) n by omega,show (((zH (zC far) n).toNat+1:Nat):Int)=zH (zC far) n+1 by omega]
  | false=>
   rw [if_neg (by decide),show (zH (zC far) n+1).toNat=(zH (zC far) n).toNat+1 by omega,List.range_succ,List.map_append]
   congr 1
   show [zH (zC far) n]=[(((zH (zC far) n).toNat:Nat):Int)]
   rw [show (((zH (zC far) n).toNat:Nat):Int)=zH (zC far) n by omega]
theorem Y6 {k:Nat} {p:Int×Str} (h:(z_ rows far rows.length)[k]?=some p):p.1=(k:Int)/\k<(zt rows far rows.length).length/\k<128:=by
 have e:=Y7 W (Nat.le_refl rows.length)
 have l:=W.len (Nat.le_refl rows.length)
 have a:=uC (zC far) rows.length
 have hn:=W.hn
 have g:((z_ rows far rows.length).map (·.1))[k]?=some p.1:=by rw [List.getElem?_map,h]; rfl
 rw [e,List.getElem?_map] at g
 have hk:k<(zH (zC far) rows.length).toNat:=by
  cases z:(List.range (zH (zC far) rows.length).toNat)[k]? with
  | none=>rw [z] at g; cases g
  | some y=>
   have:=(List.getElem?_eq_some_iff.mp z).1
   rw [List.length_range] at this
   exact this
 rw [List.getElem?_range hk] at g
 exact ⟨(Option.some.inj g).symm,by omega,by omega⟩
theorem Qr:(z_ rows far rows.length).length=(zt rows far rows.length).length:=by
 have e:=congrArg List.length (Y7 W (Nat.le_refl rows.length))
 have l:=W.len (Nat.le_refl rows.length)
 rw [List.length_map,List.length_map,List.length_range] at e
 omega
omit W in
theorem VG:∀ {n:Nat} {p:Int×Str},p∈z_ rows far n->∃ i,i<n/\(p=(zH (zC far) i,zT rows far i)\/zC far i=true/\p=(zH (zC far) i+1,("" : Str)))
 | 0,p,h=>by cases h
 | n+1,p,h=>by
  rcases List.mem_append.mp h with q | q
  ·obtain ⟨i,hi,e⟩:=VG q
   exact ⟨i,by omega,e⟩
  ·rcases List.mem_cons.mp q with rfl | q
   ·exact ⟨n,by omega,.inl rfl⟩
   ·cases hF:zC far n with
    | true=>
     rw [hF] at q
     cases List.mem_singleton.mp q
     exact ⟨n,by omega,.inr ⟨hF,rfl⟩⟩
    | false=>
     rw [hF] at q
     cases q
end
end L3
namespace L3
open PySem
noncomputable def WH:FS:=
 (zI (zQ 1 (e2 zF (zX gA (z8 (z6 0) zD)) (eC (.int 0))))
  (zI (zQ 2 (zX u4 (z8 (z6 0) (z8 (eC (.int 2)) zD))))
  (zk (zX gJ (z8 (z6 1) (z8 (zX g9 (z8 (z6 1) (z8 (z6 2) (z8 (e2 yI (z6 2) (eC (.int 3))) zD)))) zD))))))
noncomputable def gI:List D->Option (Bool×D):=FR 1 3 WH
theorem MR (x0:D):gI [x0]=yQ 3 WH [x0]:=rfl
section
variable {rows:List D} {far:List Nat}
noncomputable def wA (rows:List D) (far:List Nat) (a:Int):Int:=(zt rows far rows.length).getD a.toNat 0
noncomputable def xA (rows:List D) (far:List Nat) (p:Int×Str):D:=.lst [.str (zW p.1),.str (hx (wA rows far p.1)),.str p.2]
noncomputable def xi (rows:List D) (far:List Nat) (p:Int×Str):Str:=Txt.mul " " (5 - ((zW p.1).length:Int))++zW p.1 ++ "  " ++ hx (wA rows far p.1)
noncomputable def yZ (rows:List D) (far:List Nat) (p:Int×Str):Str:=(if p.2 = "" then xi rows far p else xi rows far p ++ "  " ++ p.2) ++ "\n"
variable (W:Wr rows far)
include W
theorem Os {k:Nat} (hk:k<(zt rows far rows.length).length):zF (.lst ((zt rows far rows.length).map D.int)) (.int (k:Int))=some (.int (wA rows far (k:Int))):=by
 refine uD (by omega) ?_
 rw [Int.toNat_natCast,List.getElem?_map,List.getElem?_eq_getElem hk]
 unfold wA
 rw [Int.toNat_natCast,List.getD_eq_getElem?_getD,List.getElem?_eq_getElem hk]
 rfl
theorem TM {a:Int} (h0:0<=a) (h1:a<zH (zC far) rows.length):zF (.lst ((zt rows far rows.length).map D.int)) (.int a)=some (.int (wA rows far a)):=by
 obtain ⟨k,rfl⟩:=Int.eq_ofNat_of_zero_le h0
 have:=W.len (Nat.le_refl rows.length)
 exact Os W (by omega)
theorem Bk {i:Nat} (hi:i<rows.length) (x3 x4 x5:Option Sl):∃ y3 y4 y5,Zy [some (false,.lst ((zt rows far rows.length).map D.int)),some (true,.lst ((z_ rows far i).map (xA rows far))),some (false,.int (zH (zC far) i)),x3,x4,x5]=some (.nx [some (false,.lst ((zt rows far rows.length).map D.int)),some (true,.lst ((z_ rows far (i+1)).map (xA rows far))),some (false,.int (zH (zC far) (i+1))),y3,y4,y5]):=by
 have e1:=Ba W hi
 have tx:=Uu W hi
 have a0:=uC (zC far) i
 have hn:=W.hn
 have lt:=W.tb.lt (i:=i) (j:=rows.length) hi (Nat.le_refl _)
 have w0:=TM W a0.1 lt
 have s0:=str_int (jX a0.1 (by omega))
 have h0:=Qo (x:=wA rows far (zH (zC far) i))
 have ll:(z_ rows far i).length<=200:=by
  have e:=congrArg List.length (Y7 W (n:=i) (by omega))
  rw [List.length_map,List.length_map,List.length_range] at e
  omega
 have p0:=v8 (L:=(z_ rows far i).map (xA rows far)) (r:=xA rows far (zH (zC far) i,zT rows far i)) (by rw [List.length_map]; omega)
 refine ⟨some (false,xV rows i),some (false,.int (zH (zC far) (i+1))),some (false,tA (zH (zC far)) (xS rows i)),?_⟩
 have lw:=tx.lw
 have ap1:∀ σ:yD,Vj (zX vS (z8 (z6 0) (z8 (z6 2) zD))) (jG 3 4 5) σ=((zX vS (z8 (z6 0) (z8 (z6 2) zD))) σ).bind fun d=>(jG 3 4 5 d σ).bind fun σ'=>some (.nx σ'):=fun _=>rfl
 have g3:∀ (a b c:D) (σ:yD),jG 3 4 5 (.tup [a,b,c]) σ=some (((σ.set 3 (some (false,a))).set 4 (some (false,b))).set 5 (some (false,c))):=fun _ _ _ _=>rfl
 unfold Zy
 cases hF:zC far i with
 | false=>
  have ad:zH (zC far) (i+1)=zH (zC far) i+1:=by rw [Z8,hF]; rfl
  have al:(z_ rows far (i+1)).map (xA rows far)=(z_ rows far i).map (xA rows far)++[xA rows far (zH (zC far) i,zT rows far i)]:=by
   show (z_ rows far i++pQ rows far i).map (xA rows far)=_
   unfold pQ
   rw [hF,List.map_append]
   rfl
  have c:decide (zH (zC far) i+1<zH (zC far) i+1)=false:=decide_eq_false (by omega)
  rw [al]
  rw [ad] at e1 ⊢
  have ld:xA rows far (zH (zC far) i,zT rows far i)=.lst [.str (zW (zH (zC far) i)),.str (hx (wA rows far (zH (zC far) i))),.str (zT rows far i)]:=rfl
  rw [ld] at p0 ⊢
  generalize (z_ rows far i).map (xA rows far)=LL at *
  generalize (zt rows far rows.length).map D.int=WW at *
  generalize tA (zH (zC far)) (xS rows i)=TT at *
  generalize xV rows i=BB at *
  generalize zT rows far i=ZZ at *
  generalize wA rows far (zH (zC far) i)=XX at *
  generalize zH (zC far) i=AA at *
  simp! [ap1,e1,g3,s0,w0,h0,lw,p0,add_int,c]
 | true=>
  have ad:zH (zC far) (i+1)=zH (zC far) i+2:=by rw [Z8,hF]; rfl
  have al:(z_ rows far (i+1)).map (xA rows far)=(z_ rows far i).map (xA rows far)++[xA rows far (zH (zC far) i,zT rows far i)]++[xA rows far (zH (zC far) i+1, "")]:=by
   show (z_ rows far i++pQ rows far i).map (xA rows far)=_
   unfold pQ
   rw [hF,List.map_append,List.append_assoc]
   rfl
  have lt1:zH (zC far) i+1<zH (zC far) rows.length:=by
   have:=W.tb.up i hi
   by_cases e:i+1=rows.length
   ·rw [<- e]; omega
   ·have:=W.tb.lt (i:=i+1) (j:=rows.length) (by omega) (Nat.le_refl _)
    omega
  have w1:=TM W (a:=zH (zC far) i+1) (by omega) lt1
  have s1:=str_int (jX (n:=zH (zC far) i+1) (by omega) (by omega))
  have h1:=Qo (x:=wA rows far (zH (zC far) i+1))
  have p1:=v8 (L:=(z_ rows far i).map (xA rows far)++[xA rows far (zH (zC far) i,zT rows far i)]) (r:=xA rows far (zH (zC far) i+1, "")) (by rw [List.length_append,List.length_map]; show _+1<=_; omega)
  have c:decide (zH (zC far) i+1<zH (zC far) i+2)=true:=decide_eq_true (by omega)
  rw [al]
  rw [ad] at e1 ⊢
  have ld:xA rows far (zH (zC far) i,zT rows far i)=.lst [.str (zW (zH (zC far) i)),.str (hx (wA rows far (zH (zC far) i))),.str (zT rows far i)]:=rfl
  have ld1:xA rows far (zH (zC far) i+1, "")=.lst [.str (zW (zH (zC far) i+1)),.str (hx (wA rows far (zH (zC far) i+1))),.str ""]:=rfl
  rw [ld] at p0 p1 ⊢
  rw [ld1] at p1 ⊢
  generalize (z_ rows far i).map (xA rows far)=LL at *
  generalize (zt rows far rows.length).map D.int=WW at *
  generalize tA (zH (zC far)) (xS rows i)=TT at *
  generalize xV rows i=BB at *
  generalize zT rows far i=ZZ at *
  generalize wA rows far (zH (zC far) i)=XX at *
  generalize wA rows far (zH (zC far) i+1)=XY at *
  generalize zH (zC far) i=AA at *
  simp! [ap1,e1,g3,s0,w0,h0,lw,p0,add_int,c,s1,w1,h1,p1]
theorem Qs:∀ (k i:Nat) (x3 x4 x5:Option Sl),i+k=rows.length->∃ y3 y4 y5,w_ ZM Zy (k+1) [some (false,.lst ((zt rows far rows.length).map D.int)),some (true,.lst ((z_ rows far i).map (xA rows far))),some (false,.int (zH (zC far) i)),x3,x4,x5]=some (.nx [some (false,.lst ((zt rows far rows.length).map D.int)),some (true,.lst ((z_ rows far rows.length).map (xA rows far))),some (false,.int (zH (zC far) rows.length)),y3,y4,y5])
 | 0,i,x3,x4,x5,h=>by
  have e:i=rows.length:=by omega
  subst e
  refine ⟨x3,x4,x5,Uw ?_⟩
  have l:=W.len (Nat.le_refl rows.length)
  have c:decide (zH (zC far) rows.length<(((zt rows far rows.length).map D.int).length:Int))=false:=decide_eq_false (by rw [List.length_map]; omega)
  unfold ZM
  generalize (z_ rows far rows.length).map (xA rows far)=LL at *
  generalize (zt rows far rows.length).map D.int=WW at *
  simp! [c]
 | k+1,i,x3,x4,x5,h=>by
  have hi:i<rows.length:=by omega
  obtain ⟨y3,y4,y5,st⟩:=Bk W hi x3 x4 x5
  obtain ⟨z3,z4,z5,go⟩:=Qs k (i+1) y3 y4 y5 (by omega)
  refine ⟨z3,z4,z5,?_⟩
  rw [Ux ?_ st]
  ·exact go
  ·have l:=W.len (Nat.le_refl rows.length)
   have lt:=W.tb.lt (i:=i) (j:=rows.length) hi (Nat.le_refl _)
   have c:decide (zH (zC far) i<(((zt rows far rows.length).map D.int).length:Int))=true:=decide_eq_true (by rw [List.length_map]; omega)
   unfold ZM
   generalize (z_ rows far i).map (xA rows far)=LL at *
   generalize (zt rows far rows.length).map D.int=WW at *
   simp! [c]
theorem Bd:gC [.lst ((zt rows far rows.length).map D.int)]=some (true,.lst ((z_ rows far rows.length).map (xA rows far))):=by
 obtain ⟨y3,y4,y5,lp⟩:=Qs W rows.length 0 none none none (Nat.zero_add _)
 have lp:=Vk (rows.length+1) lp (by have:=W.hn; show _<=100000000; omega)
 have z0:zH (zC far) 0=0:=rfl
 have l0:(z_ rows far 0).map (xA rows far)=[]:=rfl
 rw [z0,l0] at lp
 rw [MK]
 unfold WB
 generalize (z_ rows far rows.length).map (xA rows far)=LL at *
 generalize (zt rows far rows.length).map D.int=WW at *
 simp! [lp]
end
end L3
namespace L3
open PySem
theorem v7 {a b:Str} (h:a.length+b.length<=16777216):ze (.str a) (.str b)=some (.str (a++b)):=by
 show (if a.length+b.length<=yA then _ else _)=_
 rw [if_pos h]
theorem Wz (x:Int):(hx x).length=8:=by rw [<- O3,Uq]
theorem JL:∀ a:Nat,a<128->(Txt.rjust (zW (a:Int)) 5).length=5/\PadOk 5=true:=by decide +kernel
theorem FV {k:Nat} (hk:k<128):Wl (.str (zW (k:Int))) (.int 5)=some (.str (Txt.mul " " (5 - ((zW (k:Int)).length:Int))++zW (k:Int))):=by
 obtain ⟨l,p⟩:=JL k hk
 show (if PadOk 5=true/\(Txt.rjust (zW (k:Int)) 5).length<=16777216 then _ else _)=_
 rw [if_pos ⟨p,by omega⟩,(VT k hk).1]
theorem By {k:Nat} (hk:k<128):Wk (.str " ") (.int (5 - ((zW (k:Int)).length:Int)))=some (.str (Txt.mul " " (5 - ((zW (k:Int)).length:Int)))):=by
 obtain ⟨_,l0,l1⟩:=VT k hk
 show (match decide ((" " : Str).length<=16)&&(decide ((0:Int)<=5 - ((zW (k:Int)).length:Int))&&decide (5 - ((zW (k:Int)).length:Int)<=1000)) with | true=>_ | false=>_)=_
 rw [decide_eq_true (show (" " : Str).length<=16 by decide),decide_eq_true (show (0:Int)<=5 - ((zW (k:Int)).length:Int) by omega),decide_eq_true (show 5 - ((zW (k:Int)).length:Int)<=1000 by omega)]
 rfl
theorem VM {k:Nat} (hk:k<128):(Txt.mul " " (5 - ((zW (k:Int)).length:Int))).length+(zW (k:Int)).length=5:=by
 have e:=(VT k hk).1
 have l:=(JL k hk).1
 rw [e,yz] at l
 exact l
theorem D1 {z:Str} (h:1<=z.length):z ≠ "" := fun e=>by
 rw [e] at h
 exact absurd h (by decide)
theorem M2 {z:Str} (h:z ≠ ""):yl (.str z) (.str "")=some (.bl true):=by
 have e:zd (.str z) (.str "")=some (.bl (z == "")):=rfl
 have q:(z == ("" : Str))=false:=by
  cases c:(z == ("" : Str)) with
  | false=>rfl
  | true=>exact absurd (eq_of_beq c) h
 rw [q] at e
 exact vx e
theorem M3:yl (.str "") (.str "")=some (.bl false):=by rfl
section
variable {rows:List D} {far:List Nat} (W:Wr rows far)
include W
theorem Wy {k:Nat} (hk:k<128) (z:Str):(xi rows far ((k:Int),z)).length=15:=by
 have:=VM hk
 show (Txt.mul " " (5 - ((zW (k:Int)).length:Int))++zW (k:Int) ++ "  " ++ hx (wA rows far (k:Int))).length=15
 rw [yz,yz,yz,Wz,this]
 rfl
theorem yK {k:Nat} {p:Int×Str} (h:(z_ rows far rows.length)[k]?=some p):p.2.length<=7000:=by
 obtain ⟨i,hi,e | ⟨_,e⟩⟩:=VG (List.mem_of_getElem? h)
 ·rw [e]; exact (Uu W hi).ln
 ·rw [e]; show ("" : Str).length<=7000; decide
theorem Qz {k:Nat} {p:Int×Str} (h:(z_ rows far rows.length)[k]?=some p):(yZ rows far p).length<=7018:=by
 obtain ⟨e,_,hk⟩:=Y6 W h
 have z:=yK W h
 obtain ⟨a,y⟩:=p
 have e:a=(k:Int):=e
 subst e
 have l:=Wy W hk y
 unfold yZ
 rw [yz]
 split
 ·rw [l]; decide
 ·rw [yz,yz,l]
  show 15+2+y.length+1<=7018
  have:y.length<=7000:=z
  omega
theorem Th:∀ k,k<=(z_ rows far rows.length).length->(xO (((z_ rows far rows.length).take k).map (yZ rows far))).length<=7018*k
 | 0,_=>by
  show (xO []).length<=_
  decide
 | k+1,h=>by
  have ih:=Th k (by omega)
  have g:=List.getElem?_eq_getElem (show k<(z_ rows far rows.length).length by omega)
  have l:=Qz W g
  rw [List.take_succ,g,List.map_append]
  show (xO (_++[yZ rows far _])).length<=_
  rw [WT,yz]
  omega
theorem Mq {k:Nat} {p:Int×Str} (h:(z_ rows far rows.length)[k]?=some p) (b:D):(p.2 = "" /\ yY (.int (k:Int)) (.dic (yH (zH (zC far)) rows.length) (yS (zH (zC far)) (xV rows) (xS rows) rows.length))=some (.bl false)) \/
  (p.2 ≠ "" /\ yY (.int (k:Int)) (.dic (yH (zH (zC far)) rows.length) (yS (zH (zC far)) (xV rows) (xS rows) rows.length))=some (.bl true)/\∃ t,zF (.dic (yH (zH (zC far)) rows.length) (yS (zH (zC far)) (xV rows) (xS rows) rows.length)) (.int (k:Int))=some t/\t4 [t]=some (false,.str p.2)):=by
 obtain ⟨e,_,_⟩:=Y6 W h
 have T:=W.tb
 have hin:∀ b,xL (yH (zH (zC far)) rows.length) (.inl (k:Int))=b->yY (.int (k:Int)) (.dic (yH (zH (zC far)) rows.length) (yS (zH (zC far)) (xV rows) (xS rows) rows.length))=some (.bl b):=fun b q=>by
  show (some (xL (yH (zH (zC far)) rows.length) (.inl (k:Int)))).bind _=_
  rw [q]
  rfl
 obtain ⟨i,hi,e2 | ⟨hF,e2⟩⟩:=VG (List.mem_of_getElem? h)
 ·have tx:=Uu W hi
  have ek:zH (zC far) i=(k:Int):=by rw [<- e,e2]
  right
  rw [e2]
  refine ⟨D1 tx.ne,hin _ (Zw.mpr ⟨i,hi,ek⟩),wQ (zH (zC far)) (xV rows) (xS rows) i,?_,tx.tp _⟩
  rw [<- ek]
  exact QF (fun i j hi hj h=>T.inj hi hj h) hi (wQ (zH (zC far)) (xV rows) (xS rows)) (List.range rows.length) (List.mem_range.mpr hi) fun i hi=>Nat.le_of_lt (List.mem_range.mp hi)
 ·left
  have ek:zH (zC far) i+1=(k:Int):=by rw [<- e,e2]
  refine ⟨by rw [e2],hin _ ?_⟩
  cases c:xL (yH (zH (zC far)) rows.length) (.inl (k:Int)) with
  | false=>rfl
  | true=>
   obtain ⟨j,hj,ej⟩:=Zw.mp c
   have s:=Z8 (far:=far) i
   rw [hF,if_pos rfl] at s
   rcases Nat.lt_or_ge i j with q | q
   ·by_cases w:i+1=j
    ·rw [w] at s; omega
    ·have:=T.lt (i:=i+1) (j:=j) (by omega) (by omega)
     omega
   ·by_cases w:j=i
    ·rw [w] at ej; omega
    ·have:=T.lt (i:=j) (j:=i) (by omega) (by omega)
     omega
theorem Qt:tz [.lst ((zt rows far rows.length).map D.int)]=some (false,.str (xO ((z_ rows far rows.length).map (yZ rows far)))):=by
 have e1:=HC W.tb
 have hn:=W.hn
 have ll:=Qr W
 have al:(z_ rows far rows.length).length<=126:=by
  have:=W.len (Nat.le_refl rows.length)
  have:=uC (zC far) rows.length
  omega
 obtain ⟨σ',e2,x3,x4,x5,rfl⟩:=uK (g:=wp 3 4) (b:=Y0) (fun i σ=>∃ x3 x4 x5,σ=[some (false,.lst ((zt rows far rows.length).map D.int)),some (false,.dic (yH (zH (zC far)) rows.length) (yS (zH (zC far)) (xV rows) (xS rows) rows.length)),some (true,.lst ((((z_ rows far rows.length).take i).map (yZ rows far)).map D.str)),x3,x4,x5]) (ds:=tL ((zt rows far rows.length).map D.int))
  (σ:=[some (false,.lst ((zt rows far rows.length).map D.int)),some (false,.dic (yH (zH (zC far)) rows.length) (yS (zH (zC far)) (xV rows) (xS rows) rows.length)),some (true,.lst []),none,none,none]) 0 ⟨none,none,none,rfl⟩ (by
  rintro i v σ hv ⟨x3,x4,x5,rfl⟩
  rw [Nat.zero_add] at *
  rw [JB,List.getElem?_map] at hv
  have hi:i<(zt rows far rows.length).length:=by
   cases z:(zt rows far rows.length)[i]? with
   | none=>rw [z] at hv; cases hv
   | some y=>exact (List.getElem?_eq_some_iff.mp z).1
  have wv:(zt rows far rows.length)[i]?=some (wA rows far (i:Int)):=by
   unfold wA
   rw [Int.toNat_natCast,List.getD_eq_getElem?_getD,List.getElem?_eq_getElem hi]
   rfl
  rw [wv] at hv
  cases hv
  obtain ⟨p,g⟩:∃ p,(z_ rows far rows.length)[i]?=some p:=⟨_,List.getElem?_eq_getElem (show i<(z_ rows far rows.length).length by omega)⟩
  obtain ⟨pe,_,hk⟩:=Y6 W g
  have tk:(((z_ rows far rows.length).take (i+1)).map (yZ rows far)).map D.str=(((z_ rows far rows.length).take i).map (yZ rows far)).map D.str++[.str (yZ rows far p)]:=by
   rw [List.take_succ,g,List.map_append,List.map_append]
   rfl
  have ap:=v8 (L:=(((z_ rows far rows.length).take i).map (yZ rows far)).map D.str) (r:=.str (yZ rows far p)) (by rw [List.length_map,List.length_map,List.length_take]; omega)
  have it:=Mq W g .non
  have zl:=yK W g
  obtain ⟨a,z⟩:=p
  have pe:a=(i:Int):=pe
  subst pe
  have s0:=str_int (jX (n:=(i:Int)) (by omega) (by omega))
  have rj:=FV hk
  have ml:=VM hk
  have h0:=Mb (wA rows far (i:Int))
  have hl:=Wz (wA rows far (i:Int))
  have hd:=Wy W hk z
  have a1:=v7 (a:=Txt.mul " " (5 - ((zW (i:Int)).length:Int))++zW (i:Int)) (b := "  ") (by rw [yz,ml]; decide)
  have a2:=v7 (a:=Txt.mul " " (5 - ((zW (i:Int)).length:Int))++zW (i:Int) ++ "  ") (b:=hx (wA rows far (i:Int))) (by rw [yz,yz,ml,hl]; decide)
  have eh:Txt.mul " " (5 - ((zW (i:Int)).length:Int))++zW (i:Int) ++ "  " ++ hx (wA rows far (i:Int))=xi rows far ((i:Int),z):=rfl
  rw [eh] at a2
  rw [tk]
  rcases it with ⟨z0,i1⟩ | ⟨z1,i1,t,i2,tt⟩
  ·have z0:z = "" := z0
   have el:yZ rows far ((i:Int),z)=xi rows far ((i:Int),z) ++ "\n" := by unfold yZ; rw [if_pos z0]
   have a3:=v7 (a:=xi rows far ((i:Int),z)) (b := "\n") (by rw [hd]; decide)
   rw [<- el] at a3
   refine ⟨_,[some (false,.lst ((zt rows far rows.length).map D.int)),some (false,.dic (yH (zH (zC far)) rows.length) (yS (zH (zC far)) (xV rows) (xS rows) rows.length)),some (true,.lst ((((z_ rows far rows.length).take i).map (yZ rows far)).map D.str++[.str (yZ rows far ((i:Int),z))])),some (false,.int (i:Int)),some (false,.int (wA rows far (i:Int))),some (false,.str (xi rows far ((i:Int),z)))],rfl,.inl ?_,_,_,_,rfl⟩
   unfold Y0
   generalize (((z_ rows far rows.length).take i).map (yZ rows far)).map D.str=LL at *
   generalize yZ rows far ((i:Int),z)=LN at *
   generalize xi rows far ((i:Int),z)=HD at *
   generalize hx (wA rows far (i:Int))=HX at *
   generalize wA rows far (i:Int)=WX at *
   generalize (zt rows far rows.length).map D.int=WW at *
   generalize yH (zH (zC far)) rows.length=KK at *
   generalize yS (zH (zC far)) (xV rows) (xS rows) rows.length=VV at *
   generalize Txt.mul " " (5 - ((zW (i:Int)).length:Int))=MM at *
   generalize zW (i:Int)=DD at *
   simp! [s0,rj,a1,h0,a2,i1,a3,ap]
  ·have el:yZ rows far ((i:Int),z)=xi rows far ((i:Int),z) ++ "  " ++ z ++ "\n" := by unfold yZ; rw [if_neg z1]
   have zl:z.length<=7000:=zl
   have a3:=v7 (a:=xi rows far ((i:Int),z)) (b := "  ") (by rw [hd]; decide)
   have a4:=v7 (a:=xi rows far ((i:Int),z) ++ "  ") (b:=z) (by rw [yz,hd]; show 15+2+_<=_; omega)
   have a5:=v7 (a:=xi rows far ((i:Int),z) ++ "  " ++ z) (b := "\n") (by rw [yz,yz,hd]; show 15+2+_+1<=_; omega)
   rw [<- el] at a5
   refine ⟨_,[some (false,.lst ((zt rows far rows.length).map D.int)),some (false,.dic (yH (zH (zC far)) rows.length) (yS (zH (zC far)) (xV rows) (xS rows) rows.length)),some (true,.lst ((((z_ rows far rows.length).take i).map (yZ rows far)).map D.str++[.str (yZ rows far ((i:Int),z))])),some (false,.int (i:Int)),some (false,.int (wA rows far (i:Int))),some (false,.str (xi rows far ((i:Int),z) ++ "  " ++ z))],rfl,.inl ?_,_,_,_,rfl⟩
   have tt:t4 [t]=some (false,.str z):=tt
   unfold Y0
   generalize (((z_ rows far rows.length).take i).map (yZ rows far)).map D.str=LL at *
   generalize yZ rows far ((i:Int),z)=LN at *
   generalize xi rows far ((i:Int),z)=HD at *
   generalize hx (wA rows far (i:Int))=HX at *
   generalize wA rows far (i:Int)=WX at *
   generalize (zt rows far rows.length).map D.int=WW at *
   generalize yH (zH (zC far)) rows.length=KK at *
   generalize yS (zH (zC far)) (xV rows) (xS rows) rows.length=VV at *
   generalize Txt.mul " " (5 - ((zW (i:Int)).length:Int))=MM at *
   generalize zW (i:Int)=DD at *
   simp! [s0,rj,a1,h0,a2,i1,i2,tt,a3,a4,a5,ap])
 rw [YC,List.length_map,Nat.zero_add,<- ll,List.take_length] at e2
 have jn:=pE (sep := "") (ts:=(z_ rows far rows.length).map (yZ rows far)) (by
  have:∀ L:List Str,(∀ z∈L,z.length<=7018)->(L.map (·.length)).sum<=7018*L.length:=fun L=>by
   induction L with
   | nil=>intro _; exact Nat.le_refl _
   | cons z L ih=>
    intro h
    have h1:=h z (List.mem_cons_self ..)
    have h2:=ih fun y hy=>h y (List.mem_cons_of_mem _ hy)
    rw [List.map_cons,List.sum_cons,List.length_cons]
    omega
  have:=this ((z_ rows far rows.length).map (yZ rows far)) fun z hz=>by
   obtain ⟨p,hp,rfl⟩:=List.mem_map.mp hz
   obtain ⟨k,hk⟩:=List.getElem?_of_mem hp
   exact Qz W hk
  rw [List.length_map] at this ⊢
  have e0:("" : Str).length=0:=rfl
  rw [e0]
  omega)
 rw [QH] at jn
 have en:W_ (z6 0) [some (false,.lst ((zt rows far rows.length).map D.int)),some (false,.dic (yH (zH (zC far)) rows.length) (yS (zH (zC far)) (xV rows) (xS rows) rows.length)),some (true,.lst []),none,none,none]=some (tL ((zt rows far rows.length).map D.int)):=rfl
 rw [MT]
 unfold WJ
 generalize xO ((z_ rows far rows.length).map (yZ rows far))=CC at *
 generalize ((z_ rows far rows.length).map (yZ rows far)).map D.str=LL at *
 generalize tL ((zt rows far rows.length).map D.int)=NN at *
 generalize (zt rows far rows.length).map D.int=WW at *
 generalize yH (zH (zC far)) rows.length=KK at *
 generalize yS (zH (zC far)) (xV rows) (xS rows) rows.length=VV at *
 simp! [e1,en,e2,jn]
end
end L3
namespace L3
open PySem
noncomputable def jV:FS:=(zI (zQ 2 (e2 ze (e2 ze (e2 ze (e2 ze (z6 2) (e2 Wk (eC (.str " ")) (e2 xq (eC (.int 5)) (eL xh (z8 (z6 3) zD))))) (z6 3)) (eC (.str "  "))) (z6 4)))
    (zI (zj (tE (e2 yl (z6 5) (eC (.str ""))))
     (zQ 2 (e2 ze (e2 ze (z6 2) (eC (.str "  "))) (z6 5)))
     yB)
    (zQ 2 (e2 ze (z6 2) (eC (.str "\n"))))))
noncomputable def TQ:FS:=
 (zI (zQ 1 (zX gI (z8 (z6 0) zD)))
  (zI (zQ 2 (eC (.str "")))
  (zI (wc (uo (zX gC (z8 (z6 1) zD))) (gl 3 4 5)
   jV)
  (zI (zQ 6 (eL Wi (z8 (z6 1) zD)))
  (zI (zQ 7 (zX tz (z8 (z6 6) zD)))
  (zI (zj (uz (YZ (tE (ZV .str (z6 7)))) (tE (e2 yl (z6 7) (z6 2))))
   (zk (eC (.bl false)))
   yB)
  (zk (ZS (e2 zd (zX tz (z8 (wn (z6 6) xY (xZ (eC (.int 0)))) zD)) (eC (.str ""))) (ZS (e2 zd (zX tz (z8 (z6 6) zD)) (z6 2)) (e2 zd (z6 6) (z6 1)))))))))))
theorem Mw {far:List Nat} {n:Nat}:zC far n=true↔n∈far:=by
 unfold zC y0
 rw [List.any_eq_true]
 have e:∀ a:Nat,yW (.int (a:Int)) (.int (n:Int))=true↔a=n:=fun a=>by
  have:yW (.int (a:Int)) (.int (n:Int))=((a:Int) == (n:Int)):=by unfold yW; rfl
  rw [this,beq_iff_eq]
  omega
 constructor
 ·rintro ⟨x,hx,h⟩
  obtain ⟨a,ha,rfl⟩:=List.mem_map.mp hx
  exact (e a).mp h ▸ ha
 ·exact fun h=>⟨_,List.mem_map.mpr ⟨n,h,rfl⟩,(e n).mpr rfl⟩
theorem IJ {g:List Nat->List Nat}:∀ {far R:List Nat} {k:Nat},t7 g far R k->g R=[]
 | _,_,_,.stop e=>e
 | _,_,_,.go _ _ r=>IJ r
theorem II {rows:List D}:∀ {far R:List Nat} {k:Nat},t7 (gF rows) far R k->(∀ i∈far,yf (rows.getD i .non)=true)->∀ i∈R,yf (rows.getD i .non)=true
 | _,_,_,.stop _,h=>h
 | far,_,_,.go _ _ r,h=>II r fun i hi=>by
  have hi:i∈far++gF rows far:=(YU _).mem_iff.mp hi
  rcases List.mem_append.mp hi with hi | hi
  ·exact h i hi
  ·cases c:yf (rows.getD i .non) with
   | true=>rfl
   | false=>
    have:=(List.mem_filter.mp hi).2
    rw [TN c] at this
    cases this
section
variable {rows:List D} {far:List Nat} (W:Wr rows far)
include W
theorem Lp {i:Nat} {p:Int×Str} (g:(z_ rows far rows.length)[i]?=some p) (s w6 w7:Option Sl) (ww:Option Sl) (x3 x4 x5:Option Sl):jV [s,ww,some (false,.str (xO (((z_ rows far rows.length).take i).map (yZ rows far)))),some (false,.str (zW p.1)),some (false,.str (hx (wA rows far p.1))),some (false,.str p.2),w6,w7]=some (.nx [s,ww,some (false,.str (xO (((z_ rows far rows.length).take (i+1)).map (yZ rows far)))),some (false,.str (zW p.1)),some (false,.str (hx (wA rows far p.1))),some (false,.str p.2),w6,w7]):=by
 obtain ⟨pe,_,hk⟩:=Y6 W g
 have al:(z_ rows far rows.length).length<=126:=by
  have:=Qr W
  have:=W.len (Nat.le_refl rows.length)
  have:=uC (zC far) rows.length
  have:=W.hn
  omega
 have il:=(List.getElem?_eq_some_iff.mp g).1
 have cl:=Th W i (by omega)
 have zl:=yK W g
 have tk:xO (((z_ rows far rows.length).take (i+1)).map (yZ rows far))=xO (((z_ rows far rows.length).take i).map (yZ rows far))++yZ rows far p:=by
  rw [List.take_succ,g,List.map_append]
  exact WT _ _
 rw [tk]
 generalize xO (((z_ rows far rows.length).take i).map (yZ rows far))=CC at *
 obtain ⟨a,z⟩:=p
 have pe:a=(i:Int):=pe
 subst pe
 have zl:z.length<=7000:=zl
 have mf:=By hk
 have ml:=VM hk
 have hl:=Wz (wA rows far (i:Int))
 have hd:=Wy W hk z
 have a1:=v7 (a:=CC) (b:=Txt.mul " " (5 - ((zW (i:Int)).length:Int))) (by omega)
 have a2:=v7 (a:=CC++Txt.mul " " (5 - ((zW (i:Int)).length:Int))) (b:=zW (i:Int)) (by rw [yz]; omega)
 have a3:=v7 (a:=CC++Txt.mul " " (5 - ((zW (i:Int)).length:Int))++zW (i:Int)) (b := "  ") (by rw [yz,yz]; show _+2<=_; omega)
 have a4:=v7 (a:=CC++Txt.mul " " (5 - ((zW (i:Int)).length:Int))++zW (i:Int) ++ "  ") (b:=hx (wA rows far (i:Int))) (by rw [yz,yz,yz]; show _+2+_<=_; omega)
 have eh:CC++Txt.mul " " (5 - ((zW (i:Int)).length:Int))++zW (i:Int) ++ "  " ++ hx (wA rows far (i:Int))=CC++xi rows far ((i:Int),z):=by
  show _=CC++(Txt.mul " " (5 - ((zW (i:Int)).length:Int))++zW (i:Int) ++ "  " ++ hx (wA rows far (i:Int)))
  simp only [ZE]
 rw [eh] at a4
 show jV [s,ww,some (false,.str CC),some (false,.str (zW (i:Int))),some (false,.str (hx (wA rows far (i:Int)))),some (false,.str z),w6,w7]=some (.nx [s,ww,some (false,.str (CC++yZ rows far ((i:Int),z))),some (false,.str (zW (i:Int))),some (false,.str (hx (wA rows far (i:Int)))),some (false,.str z),w6,w7])
 unfold jV
 by_cases z0:z = ""
 ·have el:CC++xi rows far ((i:Int),z) ++ "\n" = CC++yZ rows far ((i:Int),z):=by unfold yZ; rw [if_pos z0,ZE]
  have a5:=v7 (a:=CC++xi rows far ((i:Int),z)) (b := "\n") (by rw [yz,hd]; show _+15+1<=_; omega)
  rw [el] at a5
  have ne:yl (.str z) (.str "")=some (.bl false):=by rw [z0]; exact M3
  generalize CC++yZ rows far ((i:Int),z)=LN at *
  generalize CC++xi rows far ((i:Int),z)=HD at *
  generalize hx (wA rows far (i:Int))=HX at *
  generalize Txt.mul " " (5 - ((zW (i:Int)).length:Int))=MM at *
  generalize zW (i:Int)=DD at *
  simp! [mf,a1,a2,a3,a4,ne,a5]
 ·have el:CC++xi rows far ((i:Int),z) ++ "  " ++ z ++ "\n" = CC++yZ rows far ((i:Int),z):=by unfold yZ; rw [if_neg z0]; simp only [ZE]
  have a5:=v7 (a:=CC++xi rows far ((i:Int),z)) (b := "  ") (by rw [yz,hd]; show _+15+2<=_; omega)
  have a6:=v7 (a:=CC++xi rows far ((i:Int),z) ++ "  ") (b:=z) (by rw [yz,yz,hd]; show _+15+2+_<=_; omega)
  have a7:=v7 (a:=CC++xi rows far ((i:Int),z) ++ "  " ++ z) (b := "\n") (by rw [yz,yz,yz,hd]; show _+15+2+_+1<=_; omega)
  rw [el] at a7
  have ne:=M2 z0
  generalize CC++yZ rows far ((i:Int),z)=LN at *
  generalize CC++xi rows far ((i:Int),z)=HD at *
  generalize hx (wA rows far (i:Int))=HX at *
  generalize Txt.mul " " (5 - ((zW (i:Int)).length:Int))=MM at *
  generalize zW (i:Int)=DD at *
  simp! [mf,a1,a2,a3,a4,ne,a5,a6,a7]
theorem Lo (s ww:Option Sl):∃ x3 x4 x5,uJ (gl 3 4 5) jV ((z_ rows far rows.length).map (xA rows far)) [s,ww,some (false,.str ""),none,none,none,none,none]=some (.nx [s,ww,some (false,.str (xO ((z_ rows far rows.length).map (yZ rows far)))),x3,x4,x5,none,none]):=by
 obtain ⟨σ',e,x3,x4,x5,rfl⟩:=uK (g:=gl 3 4 5) (b:=jV) (fun i σ=>∃ x3 x4 x5,σ=[s,ww,some (false,.str (xO (((z_ rows far rows.length).take i).map (yZ rows far)))),x3,x4,x5,none,none]) (ds:=(z_ rows far rows.length).map (xA rows far)) (σ:=[s,ww,some (false,.str ""),none,none,none,none,none]) 0 ⟨none,none,none,rfl⟩ (by
  rintro i v σ hv ⟨x3,x4,x5,rfl⟩
  rw [Nat.zero_add] at *
  rw [List.getElem?_map] at hv
  cases g:(z_ rows far rows.length)[i]? with
  | none=>rw [g] at hv; cases hv
  | some p=>
   rw [g] at hv
   cases hv
   refine ⟨_,_,rfl,.inl (Lp W g s none none ww x3 x4 x5),_,_,_,rfl⟩)
 rw [List.length_map,Nat.zero_add,List.take_length] at e
 exact ⟨x3,x4,x5,e⟩
end
theorem Hm:Wr [] []:=⟨fun r h=>(by cases h),by decide,rfl,fun i h=>(by cases h)⟩
theorem EK:∀ ns:List Int,ns.length<=63->(∀ m∈ns,qt m<=1048576)->∃ o,yQ 8 TQ [.lst (ns.map D.int)]=some (o,.bl true):=fun ns hl hb=>by
 refine ⟨false,?_⟩
 obtain ⟨rows,items,h1,h2,_,_,_,eb⟩:=LB ns
 have ec:=gb ns (k:=2) (by omega)
 generalize vX ns 2=c at ec
 generalize D.lst (ns.map D.int)=s at eb ec ⊢
 obtain ⟨far0,R,k,j0,hR,ea⟩:=On h2 (by omega) c (c % 3)
 have W:Wr rows R:=⟨h2,by omega,IJ hR,fun i hi=>II hR j0 i (Mw.mp hi)⟩
 have el:=Bg W
 have i0:zF (.tup [.lst rows,.lst items]) (.int 0)=some (.lst rows):=rfl
 have fm:yI (.int c) (.int 3)=some (.int (c % 3)):=rfl
 have eB:∃ o,gI [s]=some (o,.lst ((zt rows R rows.length).map D.int)):=by
  rw [MR]
  unfold WH
  generalize (zt rows R rows.length).map D.int=WW at *
  refine ⟨false,?_⟩
  simp! [eb,i0,ec,fm,ea,el]
 obtain ⟨o,eB⟩:=eB
 have e2:=Bd W
 obtain ⟨x3,x4,x5,e3⟩:=Lo W (some (false,s)) (some (false,.lst ((zt rows R rows.length).map D.int)))
 have e4:=Qt W
 have e5:=Qt Hm
 have e5:tz [.lst []]=some (false,.str ""):=e5
 have sl:qK (.lst ((zt rows R rows.length).map D.int)) none (some 0)=some (.lst []):=rfl
 have fl:Wi [.lst ((zt rows R rows.length).map D.int)]=some (.lst ((zt rows R rows.length).map D.int)):=rfl
 have q1:=J6 (d:=.str (xO ((z_ rows R rows.length).map (yZ rows R)))) rfl
 have q2:=Q0 (d:=.str (xO ((z_ rows R rows.length).map (yZ rows R)))) rfl
 have q3:=Q0 (d:=.lst ((zt rows R rows.length).map D.int)) (List.all_eq_true.mpr fun d hd=>by
  obtain ⟨v,_,rfl⟩:=List.mem_map.mp hd
  rfl)
 have q4:zd (.str "") (.str "")=some (.bl true):=by rfl
 unfold TQ
 generalize xO ((z_ rows R rows.length).map (yZ rows R))=CC at *
 generalize (z_ rows R rows.length).map (xA rows R)=LL at *
 generalize (zt rows R rows.length).map D.int=WW at *
 simp! [eB,e2,e3,fl,e4,q1,sl,wn,xY,xZ,e5,q4,q2,q3,ZV,g_]
end L3
local macro_rules
 | `(tactic| ac_rfl)=>`(tactic| exact ⟨rfl,rfl,rfl,by decide +kernel,rfl,by decide +kernel,by decide +kernel⟩)
namespace My
open PySem L2 L3
set_option maxHeartbeats 4000000
noncomputable def top (i:Nat):Stmt:=PySem.Challenge.pw_markrun_k62_listings.main.body.getD i (.Pass ⟨0,0,0,0⟩)
section
variable {P:Program} {w:World} {K:PySem.W.Frag} {mg:Str->Option Value} {base:Heap} {A_MARKS:Addr} {A_FIELDS:Addr} {A_NUMBER_WIDTHS:Addr} {A_PLACES:Addr} {A_CODES:Addr} {A_NEAR_CODES:Addr} {A_FAR_CODES:Addr} {A_SIGN_LOWS:Addr}
noncomputable abbrev HT:=Program->World->PySem.W.Frag->(Str->Option Value)->Heap->Prop
section
variable {h:Heap} (X:K.In h) (G:h.Ns mainGlobals mg)
noncomputable abbrev UN:Stmt:=top 5
theorem Eh:yF ["word", "low", "width"] ["word", "low", "width"] (zm UN):=by ac_rfl
noncomputable def Xe:HT:=fun P w K mg base=>yG P w K mg base "part" ["word", "low", "width"] 1 (yJ K qe)
include X G in
theorem Dt (a:zR K "part" UN):Xe P w K mg base:=(a.d3 X G).oS P w base 0 qe Eh yR fun hr=>(zN (zn (zG JF VP (zG FU Dw (z7 0) (z7 1)) (zG wb wY (zG kF kE zB (z7 2)) zB))))
noncomputable abbrev UW:Stmt:=top 6
theorem IU:yF ["word", "low", "width", "number", "there"] ["word", "low", "width", "number"] (zm UW):=by ac_rfl
noncomputable def Xn:HT:=fun P w K mg base=>yG P w K mg base "with_part" ["word", "low", "width", "number"] 1 (yJ K j4)
include X G in
theorem F4 (a:zR K "with_part" UW):Xn P w K mg base:=(a.d4 X G).oS P w base 0 j4 IU EM fun hr=>(zL (zY (i:=4) IU.nd rfl (Or.inl rfl) (zG kF kE (zG wb wY (zG kF kE zB (z7 2)) zB) (z7 1))) (zN (zn (zG FQ VP (zG JF VP (z7 0) (vM He Hd (z7 4))) (zG kF kE (z7 3) (z7 1))))))
noncomputable abbrev UQ:Stmt:=top 7
theorem IQ:yF ["number", "width", "power"] ["number", "width"] (zm UQ):=by ac_rfl
noncomputable def Xh:HT:=fun P w K mg base=>yG P w K mg base "signed" ["number", "width"] 1 (yJ K t_)
include X G in
theorem Dx (a:zR K "signed" UQ):Xh P w K mg base:=(a.d2 X G).oS P w base 0 t_ IQ yR fun hr=>(zL (zY (i:=2) IQ.nd rfl (Or.inl rfl) (zG kF kE zB (z7 1))) (zN (zn (qT (zh wZ xB (zE (zG tO JD zB (z7 0))) (zE (z7 2)) (zu _)) (z7 0) (zG wb wY (z7 0) (z7 2))))))
noncomputable abbrev Vs:Stmt:=top 11
theorem EY:yF ["word"] ["word"] (zm Vs):=by ac_rfl
variable (g_SIGN_LOWS:yt mg "SIGN_LOWS" (.ref A_SIGN_LOWS)) (q_SIGN_LOWS:∀ H,zZ K H Zo (.ref A_SIGN_LOWS)) (g_SIGNS:yt mg "SIGNS" (.str "0123456789abcdef")) (q_SIGNS:∀ H,zZ K H (.str "0123456789abcdef") (.str "0123456789abcdef")) (h_part:Xe P w K mg base)
noncomputable def X4:HT:=fun P w K mg base=>yG P w K mg base "hex_text" ["word"] 2 (yJ K g8)
include X G g_SIGN_LOWS q_SIGN_LOWS g_SIGNS q_SIGNS h_part in
theorem DI (a:zR K "hex_text" Vs):X4 P w K mg base:=(a.d1 X G).oS P w base 1 g8 EY yR fun hr=>(zN (zn (kY zO (zE (yj (ux rfl (vW (own:=["low"]) rfl) (qX (pX g_SIGN_LOWS q_SIGN_LOWS rfl)) (vv (fun C s H fp pn=>(yq (i:=1) (show (wS ["word"] ["low"]).Nodup by decide +kernel) rfl (Or.inl rfl))) rfl) (fun C s H fp pn=>pj) (fun C s H fp pn=>(zc (za (zS hr)) zb (pX g_SIGNS q_SIGNS rfl) (zf h_part hr rfl (zA (z7 0) (zA (z7 1) (zA zB zK))))))))))))
noncomputable abbrev Vu:Stmt:=top 21
theorem Ea:yF ["item"] ["item"] (zm Vu):=by ac_rfl
noncomputable def X6:HT:=fun P w K mg base=>yG P w K mg base "is_label" ["item"] 1 (yJ K u_)
include X G in
theorem DL (a:zR K "is_label" Vu):X6 P w K mg base:=(a.d1 X G).oS P w base 0 u_ Ea yR fun hr=>(zN (zn (uw (xN (yh hr)) xM (zE (zc (za (zS hr)) zb (z7 0) zB)) (zE zO) (zu _))))
noncomputable abbrev Vo:Stmt:=top 24
theorem EW:yF ["field", "held"] ["field", "held"] (zm Vo):=by ac_rfl
variable (z_str:mg "str" = none)
noncomputable def X0:HT:=fun P w K mg base=>yG P w K mg base "field_text" ["field", "held"] 1 (yJ K tj)
include X G z_str in
theorem DE (a:zR K "field_text" Vo):X0 P w K mg base:=(a.d2 X G).oS P w base 0 tj EW yR fun hr=>(zL (yE (zh (xN (yh hr)) xM (zE (z7 0)) (zE zO) (zu _)) (zN (zn (u1 qu pK rfl z_str qG (ym (zE (z7 1)) yr)))) yM) (zL (yE (tS (jq (zh (xN (yh hr)) xM (zE (z7 0)) (zE zO) (zu _)) (jt (zh (xN (yh hr)) xM (zE (z7 0)) (zE zO) (zu _))))) (zN (zn (En (Ii zO (Ii (Em (z7 1)) GD))))) yM) (zN (zn (z7 1)))))
noncomputable abbrev Vw:Stmt:=top 23
theorem IN:yF ["item", "fields"] ["item"] (zm Vw):=by ac_rfl
variable (z_zip:mg "zip" = none) (g_FIELDS:yt mg "FIELDS" (.ref A_FIELDS)) (q_FIELDS:wg K w A_FIELDS ul um) (h_is_label:X6 P w K mg base) (h_field_text:X0 P w K mg base)
noncomputable def X8:HT:=fun P w K mg base=>yG P w K mg base "item_text" ["item"] 2 (yJ K tm)
include X G z_zip g_FIELDS q_FIELDS h_is_label h_field_text in
theorem DN (a:zR K "item_text" Vw):X8 P w K mg base:=(a.d1 X G).oS P w base 1 tm IN yR fun hr=>(zL (yE (pf (zf h_is_label hr rfl (zA (z7 0) zK))) (zN (zn (zG zz zy (zc (za (zS hr)) zb (z7 0) zB) zO))) yM) (zL (zY (i:=1) IN.nd rfl (Or.inl rfl) (uT g_FIELDS q_FIELDS rfl (zc (za (zS hr)) zb (z7 0) zB))) (zN (zn (kY zO (zE (zG zz zy (yj (yo (zA (zc (za (zS hr)) zb (z7 0) zB) zK) (zw (zJ zx) (by decide)))) (yj (ux rfl (vW (own:=["field", "held"]) rfl) (Ig rfl z_zip (z7 1) (kZ (z7 0) (pZ zB) pY)) (O_ (fun C s H fp pn=>(kM (n:=2) rfl (vK (yq (i:=2) (show (wS ["item", "fields"] ["field", "held"]).Nodup by decide +kernel) rfl (Or.inl rfl)) (vK (yq (i:=3) (show (wS ["item", "fields"] ["field", "held"]).Nodup by decide +kernel) rfl (Or.inl rfl)) jd)))) rfl rfl) (fun C s H fp pn=>pj) (fun C s H fp pn=>(zf h_field_text hr rfl (zA (z7 2) (zA (z7 3) zK)))))))))))))
noncomputable abbrev UO:Stmt:=top 26
theorem Ei:yF ["kind", "field"] ["kind", "field"] (zm UO):=by ac_rfl
variable (g_NUMBER_WIDTHS:yt mg "NUMBER_WIDTHS" (.ref A_NUMBER_WIDTHS)) (q_NUMBER_WIDTHS:wg K w A_NUMBER_WIDTHS Wt Wx) (g_NUMBER_LOW:yt mg "NUMBER_LOW" (.int 0)) (q_NUMBER_LOW:∀ H,zZ K H (.int 0) (.int 0)) (g_PLACES:yt mg "PLACES" (.ref A_PLACES)) (q_PLACES:wg K w A_PLACES wq wt)
noncomputable def Xf:HT:=fun P w K mg base=>yG P w K mg base "place_in_word" ["kind", "field"] 1 (yJ K xC)
include X G g_NUMBER_WIDTHS q_NUMBER_WIDTHS g_NUMBER_LOW q_NUMBER_LOW g_PLACES q_PLACES in
theorem Du (a:zR K "place_in_word" UO):Xf P w K mg base:=(a.d2 X G).oS P w base 0 xC Ei yR fun hr=>(zL (yE (zh (xN (yh hr)) xM (zE (z7 1)) (zE zO) (zu _)) (zN (zn (y_ (zA (pX g_NUMBER_LOW q_NUMBER_LOW rfl) (zA (uT g_NUMBER_WIDTHS q_NUMBER_WIDTHS rfl (z7 0)) zK)) (zw (zJ (zJ zx)) (by decide))))) yM) (zN (zn (uT g_PLACES q_PLACES rfl (z7 1)))))
noncomputable abbrev UM:Stmt:=top 27
theorem Eg:yF ["word", "place"] ["word", "place"] (zm UM):=by ac_rfl
noncomputable def Xd:HT:=fun P w K mg base=>yG P w K mg base "number_at" ["word", "place"] 2 (yJ K ub)
include X G h_part in
theorem Ds (a:zR K "number_at" UM):Xd P w K mg base:=(a.d2 X G).oS P w base 1 ub Eg yR fun hr=>(zN (zn (zf h_part hr rfl (zA (z7 0) (zA (zc (za (zS hr)) zb (z7 1) zB) (zA (zc (za (zS hr)) zb (z7 1) zB) zK))))))
noncomputable abbrev UV:Stmt:=top 28
theorem Ej:yF ["word", "place", "number"] ["word", "place", "number"] (zm UV):=by ac_rfl
variable (h_with_part:Xn P w K mg base)
noncomputable def Xm:HT:=fun P w K mg base=>yG P w K mg base "with_number" ["word", "place", "number"] 2 (yJ K vj)
include X G h_with_part in
theorem F3 (a:zR K "with_number" UV):Xm P w K mg base:=(a.d3 X G).oS P w base 1 vj Ej yR fun hr=>(zN (zn (zf h_with_part hr rfl (zA (z7 0) (zA (zc (za (zS hr)) zb (z7 1) zB) (zA (zc (za (zS hr)) zb (z7 1) zB) (zA (z7 2) zK)))))))
noncomputable abbrev Vp:Stmt:=top 29
theorem EX:yF ["kind"] ["kind"] (zm Vp):=by ac_rfl
noncomputable def X1:HT:=fun P w K mg base=>yG P w K mg base "fields_in_word" ["kind"] 1 (yJ K xU)
include X G g_FIELDS q_FIELDS in
theorem DF (a:zR K "fields_in_word" Vp):X1 P w K mg base:=(a.d1 X G).oS P w base 0 xU EX yR fun hr=>(zN (km (ux rfl (vW (own:=["field"]) rfl) (qX (uT g_FIELDS q_FIELDS rfl (z7 0))) (vv (fun C s H fp pn=>(yq (i:=1) (show (wS ["kind"] ["field"]).Nodup by decide +kernel) rfl (Or.inl rfl))) rfl) (fun C s H fp pn=>(jp (zh (uO (yh hr)) uN (zE (z7 1)) (zE zO) (zu _)))) (fun C s H fp pn=>(z7 1)))))
noncomputable abbrev Vq:Stmt:=top 30
theorem je:yF ["row", "code", "word", "field", "held", "number"] ["row", "code"] (zm Vq):=by ac_rfl
variable (g_MARKS:yt mg "MARKS" (.ref A_MARKS)) (q_MARKS:∀ H,zZ K H p8 (.ref A_MARKS)) (k_MARKS:Z6 K A_MARKS) (h_with_number:Xm P w K mg base) (h_fields_in_word:X1 P w K mg base) (h_place_in_word:Xf P w K mg base)
noncomputable def X2:HT:=fun P w K mg base=>yG P w K mg base "first_word" ["row", "code"] 3 (yJ K vR)
include X G z_zip g_PLACES q_PLACES g_MARKS q_MARKS k_MARKS h_with_number h_fields_in_word h_place_in_word in
theorem DG (a:zR K "first_word" Vq):X2 P w K mg base:=(a.d2 X G).oS P w base 2 vR je yR fun hr=>(zL (zY (i:=2) je.nd rfl (Or.inl rfl) (zf h_with_number hr rfl (zA zB (zA (uT g_PLACES q_PLACES rfl zO) (zA (z7 1) zK))))) (zL (uV PassesOwn.never rfl (Ig rfl z_zip (yj (Ic h_fields_in_word hr rfl (zA (zc (za (zS hr)) zb (z7 0) zB) zK))) (IY (z7 0) (pZ zB) pY)) (Ug (kM (n:=2) rfl (vK (yq (i:=3) je.nd rfl (Or.inl rfl)) (vK (yq (i:=4) je.nd rfl (Or.inl rfl)) jd))) rfl rfl) (zL (zY (i:=5) je.nd rfl (Or.inl rfl) (qT (zh (xN (yh hr)) xM (zE (z7 3)) (zE zO) (zu _)) (Eo g_MARKS q_MARKS k_MARKS rfl (z7 4)) (z7 4))) (zN (zY (i:=2) je.nd rfl (Or.inl rfl) (zf h_with_number hr rfl (zA (z7 2) (zA (zf h_place_in_word hr rfl (zA (zc (za (zS hr)) zb (z7 0) zB) (zA (z7 3) zK))) (zA (z7 5) zK)))))))) (zN (zn (z7 2)))))
noncomputable abbrev Vm:Stmt:=top 31
theorem EU:yF ["word"] ["word"] (zm Vm):=by ac_rfl
variable (h_number_at:Xd P w K mg base)
noncomputable def Yz:HT:=fun P w K mg base=>yG P w K mg base "code_in" ["word"] 3 (yJ K wV)
include X G g_PLACES q_PLACES h_number_at in
theorem DB (a:zR K "code_in" Vm):Yz P w K mg base:=(a.d1 X G).oS P w base 2 wV EU yR fun hr=>(zN (zn (zf h_number_at hr rfl (zA (z7 0) (zA (uT g_PLACES q_PLACES rfl zO) zK)))))
noncomputable abbrev Vx:Stmt:=top 32
theorem IO:yF ["code", "found"] ["code"] (zm Vx):=by ac_rfl
variable (g_CODES:yt mg "CODES" (.ref A_CODES)) (q_CODES:wg K w A_CODES uk tH) (g_NEAR_CODES:yt mg "NEAR_CODES" (.ref A_NEAR_CODES)) (q_NEAR_CODES:wg K w A_NEAR_CODES q_ pA) (g_FAR_CODES:yt mg "FAR_CODES" (.ref A_FAR_CODES)) (q_FAR_CODES:wg K w A_FAR_CODES qz p9) (e_CODES:vn K w A_CODES uk gw) (r_CODES:∀ H,Reps K H tH gw) (e_NEAR_CODES:vn K w A_NEAR_CODES q_ gy) (r_NEAR_CODES:∀ H,Reps K H pA gy) (e_FAR_CODES:vn K w A_FAR_CODES qz gx) (r_FAR_CODES:∀ H,Reps K H p9 gx)
noncomputable def X9:HT:=fun P w K mg base=>yG P w K mg base "kind_of_code" ["code"] 1 (yJ K tq)
include X G g_CODES q_CODES g_NEAR_CODES q_NEAR_CODES g_FAR_CODES q_FAR_CODES e_CODES r_CODES e_NEAR_CODES r_NEAR_CODES e_FAR_CODES r_FAR_CODES in
theorem DO (a:zR K "kind_of_code" Vx):X9 P w K mg base:=(a.d1 X G).oS P w base 0 tq IO yR fun hr=>(zL (GS (i:=1) rfl IO.nd rfl rfl (vW (own:=["kind"]) rfl) rfl (Uh g_CODES e_CODES rfl (by decide) (by decide)) (vv (fun C s H fp pn=>(yq (i:=2) (show (wS ["code", "found"] ["kind"]).Nodup by decide +kernel) rfl (Or.inl rfl))) rfl) (fun C s H fp pn=>(jp (zh (xN (yh hr)) xM (zE (uT g_CODES q_CODES rfl (z7 2))) (zE (z7 0)) (zu _)))) (fun C s H fp pn=>(z7 2))) (zL (Iq (qv 1) (ux rfl (vW (own:=["kind"]) rfl) (Uh g_NEAR_CODES e_NEAR_CODES rfl (by decide) (by decide)) (vv (fun C s H fp pn=>(yq (i:=2) (show (wS ["code", "found"] ["kind"]).Nodup by decide +kernel) rfl (Or.inl rfl))) rfl) (fun C s H fp pn=>(jp (zh (xN (yh hr)) xM (zE (uT g_NEAR_CODES q_NEAR_CODES rfl (z7 2))) (zE (z7 0)) (zu _)))) (fun C s H fp pn=>(z7 2)))) (zL (Iq (qv 1) (ux rfl (vW (own:=["kind"]) rfl) (Uh g_FAR_CODES e_FAR_CODES rfl (by decide) (by decide)) (vv (fun C s H fp pn=>(yq (i:=2) (show (wS ["code", "found"] ["kind"]).Nodup by decide +kernel) rfl (Or.inl rfl))) rfl) (fun C s H fp pn=>(jp (zh (xN (yh hr)) xM (zE (uT g_FAR_CODES q_FAR_CODES rfl (z7 2))) (zE (z7 0)) (zu _)))) (fun C s H fp pn=>(z7 2)))) (kq 1 (zN (zn (qT (zh (xN (yh hr)) xM (zE (z7 1)) (zE (yj (yo zK (zw zx (by decide))))) (zu _)) xg (zc (za (zS hr)) zb (z7 1) zB))))))))
noncomputable abbrev Vv:Stmt:=top 33
theorem Eb:yF ["code"] ["code"] (zm Vv):=by ac_rfl
variable (z_list:mg "list" = none)
noncomputable def X7:HT:=fun P w K mg base=>yG P w K mg base "is_near_code" ["code"] 1 (yJ K u2)
include X G z_list g_NEAR_CODES q_NEAR_CODES e_NEAR_CODES r_NEAR_CODES in
theorem DM (a:zR K "is_near_code" Vv):X7 P w K mg base:=(a.d1 X G).oS P w base 0 u2 Eb yR fun hr=>(zN (zn (uw (vI (zS hr)) vH (zE (z7 0)) (zE (yj (Ie rfl rfl z_list g_NEAR_CODES e_NEAR_CODES rfl r_NEAR_CODES (by decide)))) (by with_unfolding_all rfl))))
noncomputable abbrev Vt:Stmt:=top 34
theorem EZ:yF ["code"] ["code"] (zm Vt):=by ac_rfl
noncomputable def X5:HT:=fun P w K mg base=>yG P w K mg base "is_far_code" ["code"] 1 (yJ K vi)
include X G z_list g_FAR_CODES q_FAR_CODES e_FAR_CODES r_FAR_CODES in
theorem DK (a:zR K "is_far_code" Vt):X5 P w K mg base:=(a.d1 X G).oS P w base 0 vi EZ yR fun hr=>(zN (zn (uw (vI (zS hr)) vH (zE (z7 0)) (zE (yj (Ie rfl rfl z_list g_FAR_CODES e_FAR_CODES rfl r_FAR_CODES (by decide)))) (by with_unfolding_all rfl))))
noncomputable abbrev Vr:Stmt:=top 36
theorem IM:yF ["word", "kind", "field", "number"] ["word", "kind", "field"] (zm Vr):=by ac_rfl
variable (yK:mg "len" = none)
noncomputable def X3:HT:=fun P w K mg base=>yG P w K mg base "held_in" ["word", "kind", "field"] 3 (yJ K xo)
include X G yK g_MARKS q_MARKS h_number_at h_place_in_word in
theorem DH (a:zR K "held_in" Vr):X3 P w K mg base:=(a.d3 X G).oS P w base 2 xo IM yR fun hr=>(zL (zY (i:=3) IM.nd rfl (Or.inl rfl) (zf h_number_at hr rfl (zA (z7 0) (zA (zf h_place_in_word hr rfl (zA (z7 1) (zA (z7 2) zK))) zK)))) (zL (yE (zh (uO (yh hr)) uN (zE (z7 2)) (zE zO) (zu _)) (zN (zn (z7 3))) yM) (zN (zn (qT (zh wZ xB (zE (z7 3)) (zE (xy wL wN rfl yK wK (ym (zE (pX g_MARKS q_MARKS rfl)) yr))) (zu _)) (zc (za (zS hr)) zb (pX g_MARKS q_MARKS rfl) (z7 3)) xg)))))
noncomputable abbrev UP:Stmt:=top 35
theorem kW:yF ["word", "code", "kind", "row", "known"] ["word"] (zm UP):=by ac_rfl
variable (z_tuple:mg "tuple" = none) (h_code_in:Yz P w K mg base) (h_kind_of_code:X9 P w K mg base) (h_held_in:X3 P w K mg base) (h_is_near_code:X7 P w K mg base) (h_first_word:X2 P w K mg base)
noncomputable def Xg:HT:=fun P w K mg base=>yG P w K mg base "row_in" ["word"] 4 (yJ K xt)
include X G z_tuple g_PLACES q_PLACES h_code_in h_kind_of_code h_fields_in_word h_held_in h_is_near_code h_with_number h_first_word in
theorem Dv (a:zR K "row_in" UP):Xg P w K mg base:=(a.d1 X G).oS P w base 3 xt kW yR fun hr=>(zL (zY (i:=1) kW.nd rfl (Or.inl rfl) (zf h_code_in hr rfl (zA (z7 0) zK))) (zL (zY (i:=2) kW.nd rfl (Or.inr rfl) (zf h_kind_of_code hr rfl (zA (z7 1) zK))) (zL (yE (zh VS VQ (zE (z7 2)) (zE xg) (zu _)) (zN (zn xg)) yM) (zL (zY (i:=3) kW.nd rfl (Or.inl rfl) (El LO F0 rfl z_tuple L6 (zA (zG zz zy (yj (yo (zA (z7 2) zK) (zw (zJ zx) (by decide)))) (yj (ux rfl (vW (own:=["field"]) rfl) (qX (yj (Ic h_fields_in_word hr rfl (zA (z7 2) zK)))) (vv (fun C s H fp pn=>(yq (i:=5) (show (wS ["word", "code", "kind", "row", "known"] ["field"]).Nodup by decide +kernel) rfl (Or.inl rfl))) rfl) (fun C s H fp pn=>pj) (fun C s H fp pn=>(zf h_held_in hr rfl (zA (z7 0) (zA (z7 2) (zA (z7 5) zK)))))))) zK))) (zL (yE (zh (vI (zS hr)) vH (zE xg) (zE (z7 3)) (by with_unfolding_all rfl)) (zN (zn xg)) yM) (zL (zY (i:=4) kW.nd rfl (Or.inl rfl) (qT (pf (zf h_is_near_code hr rfl (zA (z7 1) zK))) (zf h_with_number hr rfl (zA (z7 0) (zA (uT g_PLACES q_PLACES rfl zO) (zA zB zK)))) (z7 0))) (zN (zn (qT (zh (xN (yh hr)) xM (zE (zf h_first_word hr rfl (zA (z7 3) (zA (z7 1) zK)))) (zE (z7 4)) (zu _)) (z7 3) xg)))))))))
noncomputable abbrev Vn:Stmt:=top 39
theorem EV:yF ["words", "address", "row"] ["words", "address", "row"] (zm Vn):=by ac_rfl
variable (g_WORD_BITS:yt mg "WORD_BITS" (.int 32)) (q_WORD_BITS:∀ H,zZ K H (.int 32) (.int 32)) (h_signed:Xh P w K mg base)
noncomputable def Y_:HT:=fun P w K mg base=>yG P w K mg base "far_at" ["words", "address", "row"] 2 (yJ K py)
include X G yK g_WORD_BITS q_WORD_BITS h_signed in
theorem DC (a:zR K "far_at" Vn):Y_ P w K mg base:=(a.d3 X G).oS P w base 1 py EV yR fun hr=>(zL (yE (zh JH xB (zE (zG zz zy (z7 1) zB)) (zE (xy wL wN rfl yK wK (ym (zE (z7 0)) yr))) (zu _)) (zN (zn xg)) yM) (zN (zn (y_ (zA (z7 2) (zA (zG zz zy (z7 1) zB) (zA (zG zz zy (z7 1) (zf h_signed hr rfl (zA (zc (za (zS hr)) zb (z7 0) (zG zz zy (z7 1) zB)) (zA (pX g_WORD_BITS q_WORD_BITS rfl) zK)))) zK))) (zw (zJ (zJ (zJ zx))) (by decide))))))
noncomputable abbrev US:Stmt:=top 38
theorem YT:yF ["words", "address", "row", "code", "place"] ["words", "address"] (zm US):=by ac_rfl
variable (h_row_in:Xg P w K mg base) (h_is_far_code:X5 P w K mg base) (h_far_at:Y_ P w K mg base)
noncomputable def Xj:HT:=fun P w K mg base=>yG P w K mg base "told_at" ["words", "address"] 5 (yJ K wf)
include X G yK g_PLACES q_PLACES h_row_in h_code_in h_is_far_code h_far_at h_is_near_code h_signed h_number_at in
theorem Dz (a:zR K "told_at" US):Xj P w K mg base:=(a.d2 X G).oS P w base 4 wf YT yR fun hr=>(zL (yE (tS (jq (zh wZ xB (zE (z7 1)) (zE zB) (zu _)) (jt (zh JH xB (zE (z7 1)) (zE (xy wL wN rfl yK wK (ym (zE (z7 0)) yr))) (zu _))))) (zN (zn xg)) yM) (zL (zY (i:=2) YT.nd rfl (Or.inl rfl) (zf h_row_in hr rfl (zA (zc (za (zS hr)) zb (z7 0) (z7 1)) zK))) (zL (yE (zh VS VQ (zE (z7 2)) (zE xg) (zu _)) (zN (zn xg)) yM) (zL (zY (i:=3) YT.nd rfl (Or.inl rfl) (zf h_code_in hr rfl (zA (zc (za (zS hr)) zb (z7 0) (z7 1)) zK))) (zL (yE (pf (zf h_is_far_code hr rfl (zA (z7 3) zK))) (zN (zn (zf h_far_at hr rfl (zA (z7 0) (zA (z7 1) (zA (z7 2) zK)))))) yM) (zL (yE (pf (zf h_is_near_code hr rfl (zA (z7 3) zK))) (zL (zY (i:=4) YT.nd rfl (Or.inl rfl) (uT g_PLACES q_PLACES rfl zO)) (zN (zn (y_ (zA (z7 2) (zA (zG zz zy (z7 1) zB) (zA (zG zz zy (z7 1) (zf h_signed hr rfl (zA (zf h_number_at hr rfl (zA (zc (za (zS hr)) zb (z7 0) (z7 1)) (zA (z7 4) zK))) (zA (zc (za (zS hr)) zb (z7 4) zB) zK)))) zK))) (zw (zJ (zJ (zJ zx))) (by decide)))))) yM) (zN (zn (y_ (zA (z7 2) (zA (zG zz zy (z7 1) zB) (zA xg zK))) (zw (zJ (zJ (zJ zx))) (by decide)))))))))))
noncomputable abbrev UU:Stmt:=top 42
theorem ji:yF ["words", "table", "address", "told"] ["words"] (zm UU):=by ac_rfl
variable (h_told_at:Xj P w K mg base)
noncomputable def Xl:HT:=fun P w K mg base=>yG P w K mg base "walked" ["words"] 6 (yJ K j3)
include X G h_told_at in
theorem F2 (a:zR K "walked" UU):Xl P w K mg base:=(a.d1 X G).oS P w base 5 j3 ji yR fun hr=>(zL (uW (i:=1) ji.nd rfl (Or.inl rfl) Id) (zL (zY (i:=2) ji.nd rfl (Or.inl rfl) zB) (zL (zY (i:=3) ji.nd rfl (Or.inl rfl) (zf h_told_at hr rfl (zA (z7 0) (zA (z7 2) zK)))) (zL (Ui PassesOwn.never (zh YH YD (zE (z7 3)) (zE xg) (zu _)) (zL (Ip (zS hr) (qv 1) (z7 2) (z7 3)) (zL (zY (i:=2) ji.nd rfl (Or.inl rfl) (zc (za (zS hr)) zb (z7 3) zB)) (zN (zY (i:=3) ji.nd rfl (Or.inl rfl) (zf h_told_at hr rfl (zA (z7 0) (zA (z7 2) zK)))))))) (zN (jo 1))))))
noncomputable abbrev Vl:Stmt:=top 43
theorem ET:yF ["table"] ["table"] (zm Vl):=by ac_rfl
variable (z_max:mg "max" = none)
noncomputable def Yy:HT:=fun P w K mg base=>yG P w K mg base "behind" ["table"] 1 (yJ K g7)
include X G z_max in
theorem DA (a:zR K "behind" Vl):Yy P w K mg base:=(a.d1 X G).oS P w base 0 g7 ET yR fun hr=>(zN (zn (Es rfl rfl z_max (yj (E_ (Ey rfl (vW (own:=["told"]) rfl) (GA (i:=0) rfl (by first | exact Or.inl rfl | exact Or.inr (Or.inl rfl) | exact Or.inr (Or.inr rfl))) (vv (fun C s H fp pn=>(yq (i:=1) (show (wS ["table"] ["told"]).Nodup by decide +kernel) rfl (Or.inl rfl))) rfl) (fun C s H fp pn=>pj) (fun C s H fp pn=>(zc (za (zS hr)) zb (z7 1) zB))) (Lh (Li 0)))) zB)))
noncomputable abbrev UX:Stmt:=top 40
theorem jk:yF ["words", "table", "end", "address", "told", "target"] ["words"] (zm UX):=by ac_rfl
variable (h_walked:Xl P w K mg base) (h_behind:Yy P w K mg base)
noncomputable def Xo:HT:=fun P w K mg base=>yG P w K mg base "word_fault" ["words"] 7 (yJ K gL)
include X G yK h_walked h_behind in
theorem F5 (a:zR K "word_fault" UX):Xo P w K mg base:=(a.d1 X G).oS P w base 6 gL jk yR fun hr=>(zL (zY (i:=1) jk.nd rfl (Or.inl rfl) (zf h_walked hr rfl (zA (z7 0) zK))) (zL (zY (i:=2) jk.nd rfl (Or.inl rfl) (zf h_behind hr rfl (zA (z7 1) zK))) (zL (yE (zh (uO (yh hr)) uN (zE (z7 2)) (zE (xy wL wN rfl yK wK (ym (zE (z7 0)) yr))) (zu _)) (zN (zn (z7 2))) yM) (zL (GU (GQ PassesOwn.never rfl (G9 (i:=1) rfl (by first | exact Or.inl rfl | exact Or.inr (Or.inl rfl) | exact Or.inr (Or.inr rfl))) (Ug (kM (n:=2) rfl (vK (yq (i:=3) jk.nd rfl (Or.inl rfl)) (vK (yq (i:=4) jk.nd rfl (Or.inl rfl)) jd))) rfl rfl) (zL (zY (i:=5) jk.nd rfl (Or.inl rfl) (zc (za (zS hr)) zb (z7 4) zB)) (zN (yE (tS (YX (zh YH YD (zE (z7 5)) (zE xg) (zu _)) (YX (zh (uO (yh hr)) uN (zE (z7 5)) (zE (z7 2)) (zu _)) (Ul (zh (JI (zS hr)) JE (zE (z7 5)) (zE (z7 1)) (by with_unfolding_all rfl)))))) (zN (zn (z7 3))) yM)))) (Lf (Lg 1))) (zN (zn xg))))))
noncomputable abbrev UR:Stmt:=top 41
theorem IR:yF ["words", "wrong"] ["words"] (zm UR):=by ac_rfl
variable (h_word_fault:Xo P w K mg base)
noncomputable def Xi:HT:=fun P w K mg base=>yG P w K mg base "table_of" ["words"] 8 (yJ K gK)
include X G h_word_fault h_walked in
theorem Dy (a:zR K "table_of" UR):Xi P w K mg base:=(a.d1 X G).oS P w base 7 gK IR yR fun hr=>(zL (zY (i:=1) IR.nd rfl (Or.inl rfl) (zf h_word_fault hr rfl (zA (z7 0) zK))) (zL (yE (zh YH YD (zE (z7 1)) (zE xg) (zu _)) GT yM) (zN (zn (zf h_walked hr rfl (zA (z7 0) zK))))))
noncomputable abbrev UT:Stmt:=top 47
theorem IS:yF ["told", "target"] ["told"] (zm UT):=by ac_rfl
variable (h_item_text:X8 P w K mg base)
noncomputable def Xk:HT:=fun P w K mg base=>yG P w K mg base "told_text" ["told"] 3 (yJ K t4)
include X G z_str h_item_text in
theorem D_ (a:zR K "told_text" UT):Xk P w K mg base:=(a.d1 X G).oS P w base 2 t4 IS yR fun hr=>(zL (zY (i:=1) IS.nd rfl (Or.inl rfl) (zc (za (zS hr)) zb (z7 0) zB)) (zN (zn (zf h_item_text hr rfl (zA (qT (zh VS VQ (zE (z7 1)) (zE xg) (zu _)) (zc (za (zS hr)) zb (z7 0) zB) (zG zz zy (zc (za (zS hr)) zb (z7 0) zB) (y_ (zA (u1 qu pK rfl z_str qG (ym (zE (z7 1)) yr)) zK) (zw (zJ zx) (by decide))))) zK)))))
noncomputable abbrev UL:Stmt:=top 46
theorem pW:yF ["words", "table", "rows", "address", "word", "row"] ["words"] (zm UL):=by ac_rfl
variable (z_enumerate:mg "enumerate" = none) (g_ADDRESS_SIGNS:yt mg "ADDRESS_SIGNS" (.int 5)) (q_ADDRESS_SIGNS:∀ H,zZ K H (.int 5) (.int 5)) (h_table_of:Xi P w K mg base) (h_hex_text:X4 P w K mg base) (h_told_text:Xk P w K mg base)
noncomputable def Xc:HT:=fun P w K mg base=>yG P w K mg base "listing" ["words"] 9 (yJ K tz)
include X G z_enumerate z_str g_ADDRESS_SIGNS q_ADDRESS_SIGNS h_table_of h_hex_text h_told_text in
theorem Do (a:zR K "listing" UL):Xc P w K mg base:=(a.d1 X G).oS P w base 8 tz pW yR fun hr=>(zL (zY (i:=1) pW.nd rfl (Or.inl rfl) (zf h_table_of hr rfl (zA (z7 0) zK))) (zL (uW (i:=2) pW.nd rfl (Or.inl rfl) (yo zK (zw zx (by decide)))) (zL (uV PassesOwn.never rfl (GB rfl z_enumerate (z7 0)) (Ug (kM (n:=2) rfl (vK (yq (i:=3) pW.nd rfl (Or.inl rfl)) (vK (yq (i:=4) pW.nd rfl (Or.inl rfl)) jd))) rfl rfl) (zL (zY (i:=5) pW.nd rfl (Or.inl rfl) (zG zz zy (zG zz zy (Eu (u1 qu pK rfl z_str qG (ym (zE (z7 3)) yr)) (pX g_ADDRESS_SIGNS q_ADDRESS_SIGNS rfl)) zO) (zf h_hex_text hr rfl (zA (z7 4) zK)))) (zL (yE (zh (vI (zS hr)) vH (zE (z7 3)) (zE (z7 1)) (by with_unfolding_all rfl)) (zN (zY (i:=5) pW.nd rfl (Or.inl rfl) (zG zz zy (zG zz zy (z7 5) zO) (zf h_told_text hr rfl (zA (zc (za (zS hr)) zb (z7 1) (z7 3)) zK))))) yM) (zN (vf (qv 2) (zG zz zy (z7 5) zO)))))) (kq 2 (zN (zn (kY zO (zE (z7 2)))))))))
noncomputable abbrev V_:Stmt:=top 49
theorem Ed:yF ["_law_script", "_law_k"] ["_law_script", "_law_k"] (zm V_):=by ac_rfl
noncomputable def XC:HT:=fun P w K mg base=>yG P w K mg base "_law_cell_at" ["_law_script", "_law_k"] 1 (yJ K u4)
include X G yK in
theorem DS (a:zR K "_law_cell_at" V_):XC P w K mg base:=(a.d2 X G).oS P w base 0 u4 Ed EL fun hr=>(zL (yE (zh wZ xB (zE (z7 1)) (zE (xy wL wN rfl yK wK (ym (zE (z7 0)) yr))) (zu _)) (zN (zn (zc (za (zS hr)) zb (z7 0) (z7 1)))) yM) (zN (zn zB)))
noncomputable abbrev U7:Stmt:=top 50
theorem Ef:yF ["_law_cell", "_law_k"] ["_law_cell", "_law_k"] (zm U7):=by ac_rfl
noncomputable def XL:HT:=fun P w K mg base=>yG P w K mg base "_law_mixed" ["_law_cell", "_law_k"] 1 (yJ K wG)
include X G in
theorem Da (a:zR K "_law_mixed" U7):XL P w K mg base:=(a.d2 X G).oS P w base 0 wG Ef yR fun hr=>(zN (zn (zG yV yU (zG vz vy (zG yV yU (zG zz zy (zG tO pJ (z7 0) zB) (zG tO pJ (zG zz zy (z7 1) zB) zB)) zB) zB) zB)))
noncomputable abbrev U8:Stmt:=top 51
theorem jg:yF ["_law_k", "_law_shape", "_law_letters", "_law_tail", "_law_name", "_law_turn"] ["_law_k", "_law_shape"] (zm U8):=by ac_rfl
variable (z_range:mg "range" = none) (h_law_mixed:XL P w K mg base)
noncomputable def XM:HT:=fun P w K mg base=>yG P w K mg base "_law_name_by" ["_law_k", "_law_shape"] 2 (yJ K t3)
include X G z_range h_law_mixed in
theorem Db (a:zR K "_law_name_by" U8):XM P w K mg base:=(a.d2 X G).oS P w base 1 t3 jg yR fun hr=>(zL (zY (i:=2) jg.nd rfl (Or.inr rfl) zO) (zL (zY (i:=3) jg.nd rfl (Or.inl rfl) (kY zO (zE (yj (ux rfl (vW (own:=["_law_j"]) rfl) (qW rfl z_range (zG yV yU (zG xc xb (z7 1) zB) zB)) (vv (fun C s H fp pn=>(yq (i:=6) (show (wS ["_law_k", "_law_shape", "_law_letters", "_law_tail", "_law_name", "_law_turn"] ["_law_j"]).Nodup by decide +kernel) rfl (Or.inl rfl))) rfl) (fun C s H fp pn=>pj) (fun C s H fp pn=>(zc (za (zS hr)) zb (z7 2) (zG yV yU (zf h_law_mixed hr rfl (zA (z7 1) (zA (z7 6) zK))) zB)))))))) (zL (yE (zh (xN (yh hr)) xM (zE (zG yV yU (z7 1) zB)) (zE zB) (zu _)) (zL (zY (i:=4) jg.nd rfl (Or.inl rfl) (zc (za (zS hr)) zb (z7 2) (zG yV yU (z7 0) zB))) (zL (uV PassesOwn.never rfl (qW rfl z_range (zG xc xb (z7 0) zB)) (qV (yq (i:=5) jg.nd rfl (Or.inl rfl)) rfl) (zN (zY (i:=4) jg.nd rfl (Or.inl rfl) (zG zz zy (z7 4) zO)))) (zN (zn (z7 4))))) yM) (zL (yE (zh (xN (yh hr)) xM (zE (zG yV yU (z7 1) zB)) (zE zB) (zu _)) (zN (zn (zG zz zy (zG zz zy (zc (za (zS hr)) zb (z7 2) (zG yV yU (z7 0) zB)) (zc (za (zS hr)) zb (z7 2) (zG xc xb (z7 0) zB))) (kZ (z7 3) pY (pZ zB))))) yM) (zN (zn (zG zz zy (zG zz zy (kZ (z7 3) pY (pZ zB)) (zc (za (zS hr)) zb (z7 2) (zG xc xb (z7 0) zB))) (zc (za (zS hr)) zb (z7 2) (zG yV yU (z7 0) zB)))))))))
noncomputable abbrev UE:Stmt:=top 52
theorem kS:yF ["_law_cell", "_law_kind", "_law_first", "_law_other", "_law_rest"] ["_law_cell"] (zm UE):=by ac_rfl
noncomputable def XT:HT:=fun P w K mg base=>yG P w K mg base "_law_row_by" ["_law_cell"] 1 (yJ K j1)
include X G in
theorem Dh (a:zR K "_law_row_by" UE):XT P w K mg base:=(a.d1 X G).oS P w base 0 j1 kS yR fun hr=>(zL (zY (i:=1) kS.nd rfl (Or.inl rfl) (zG yV yU (z7 0) zB)) (zL (zY (i:=2) kS.nd rfl (Or.inl rfl) (zG yV yU (zG xc xb (z7 0) zB) zB)) (zL (zY (i:=3) kS.nd rfl (Or.inl rfl) (zG yV yU (zG xc xb (z7 0) zB) zB)) (zL (zY (i:=4) kS.nd rfl (Or.inl rfl) (zG xc xb (z7 0) zB)) (zL (yE (zh (xN (yh hr)) xM (zE (z7 1)) (zE zB) (zu _)) (zN (zn (y_ (zA zO zK) (zw (zJ zx) (by decide))))) yM) (zL (yE (zh wZ xB (zE (z7 1)) (zE zB) (zu _)) (zN (zn (y_ (zA (zc (za (zS hr)) zb (yj (yo (zA zO (zA zO zK)) (zw (zJ (zJ zx)) (by decide)))) (zG wb wY (z7 1) zB)) (zA (z7 2) (zA (zc (za (zS hr)) zb (yj (yo (zA (zG yV yU (z7 4) zB) (zA zB (zA zB (zA (zG yV yU (z7 4) zB) zK)))) (zw (zJ (zJ (zJ (zJ zx)))) (by decide)))) (zG yV yU (zG xc xb (z7 4) zB) zB)) zK))) (zw (zJ (zJ (zJ zx))) (by decide))))) yM) (zL (yE (zh wZ xB (zE (z7 1)) (zE zB) (zu _)) (zN (zn (y_ (zA (zc (za (zS hr)) zb (yj (yo (zA zO (zA zO (zA zO (zA zO (zA zO (zA zO (zA zO (zA zO (zA zO zK))))))))) (zw (zJ (zJ (zJ (zJ (zJ (zJ (zJ (zJ (zJ zx))))))))) (by decide)))) (zG wb wY (z7 1) zB)) (zA (z7 2) (zA (z7 3) zK))) (zw (zJ (zJ (zJ zx))) (by decide))))) yM) (zL (yE (zh wZ xB (zE (z7 1)) (zE zB) (zu _)) (zN (zn (y_ (zA (zc (za (zS hr)) zb (yj (yo (zA zO (zA zO zK)) (zw (zJ (zJ zx)) (by decide)))) (zG wb wY (z7 1) zB)) (zA (z7 2) (zA (zc (za (zS hr)) zb (yj (yo (zA (zG yV yU (z7 4) zB) (zA zB (zA zB (zA zB zK)))) (zw (zJ (zJ (zJ (zJ zx)))) (by decide)))) (zG yV yU (zG xc xb (z7 4) zB) zB)) zK))) (zw (zJ (zJ (zJ zx))) (by decide))))) yM) (zN (zn (y_ (zA (zc (za (zS hr)) zb (yj (yo (zA zO (zA zO (zA zO (zA zO zK)))) (zw (zJ (zJ (zJ (zJ zx)))) (by decide)))) (zG wb wY (z7 1) zB)) (zA (z7 2) (zA (z7 3) (zA (zc (za (zS hr)) zb (yj (yo (zA (zG yV yU (z7 4) zB) (zA zB (zA zB zK))) (zw (zJ (zJ (zJ zx))) (by decide)))) (zG yV yU (zG xc xb (z7 4) zB) zB)) zK)))) (zw (zJ (zJ (zJ (zJ zx)))) (by decide)))))))))))))
noncomputable abbrev UB:Stmt:=top 53
theorem UZ:yF ["_law_number", "_law_many", "_law_cell", "_law_way", "_law_far"] ["_law_number", "_law_many", "_law_cell"] (zm UB):=by ac_rfl
variable (z_min:mg "min" = none)
noncomputable def XQ:HT:=fun P w K mg base=>yG P w K mg base "_law_place_by" ["_law_number", "_law_many", "_law_cell"] 1 (yJ K p_)
include X G z_max z_min in
theorem De (a:zR K "_law_place_by" UB):XQ P w K mg base:=(a.d3 X G).oS P w base 0 p_ UZ yR fun hr=>(zL (zY (i:=3) UZ.nd rfl (Or.inl rfl) (zG yV yU (z7 2) zB)) (zL (zY (i:=4) UZ.nd rfl (Or.inl rfl) (zG zz zy (z7 0) (zc (za (zS hr)) zb (yj (yo (zA zB (zA zB (zA zB (zA zB (zA (vM vh vg zB) (zA (vM vh vg zB) (zA (vM vh vg zB) (zA (vM vh vg zB) zK)))))))) (zw (zJ (zJ (zJ (zJ (zJ (zJ (zJ (zJ zx)))))))) (by decide)))) (zG yV yU (zG xc xb (z7 2) zB) zB)))) (zL (yE (tS (YX (zh wZ xB (zE (z7 3)) (zE zB) (zu _)) (Ul (Ir YG xB YG xB (zE zB) (zE (z7 4)) (zE (z7 1)))))) (zN (zn (z7 4))) yM) (zL (yE (zh wZ xB (zE (z7 3)) (zE zB) (zu _)) (zN (zn (zG yV yU (zG xc xb (z7 2) zB) (zG zz zy (z7 1) zB)))) yM) (zN (zn (xy (LH rfl) Dp rfl z_max Tg (ym (zE zB) (ym (zE (xy (LJ rfl) Dq rfl z_min L9 (ym (zE (z7 1)) (ym (zE (zG wb wY (zG zz zy (z7 0) (zG yV yU (zG xc xb (z7 2) zB) zB)) zB)) yr)))) yr)))))))))
noncomputable abbrev UG:Stmt:=top 54
theorem pV:yF ["_law_script", "_law_many", "_law_dense", "_law_found", "_law_number", "_law_cell", "_law_place", "_law_word_here"] ["_law_script", "_law_many", "_law_dense"] (zm UG):=by ac_rfl
variable (h_law_cell_at:XC P w K mg base) (h_law_place_by:XQ P w K mg base) (h_law_row_by:XT P w K mg base)
noncomputable def XV:HT:=fun P w K mg base=>yG P w K mg base "_law_rows_by" ["_law_script", "_law_many", "_law_dense"] 3 (yJ K gH)
include X G z_range yK h_law_cell_at h_law_mixed h_law_place_by h_law_row_by in
theorem Dj (a:zR K "_law_rows_by" UG):XV P w K mg base:=(a.d3 X G).oS P w base 2 gH pV yR fun hr=>(zL (uW (i:=3) pV.nd rfl (Or.inl rfl) (yo zK (zw zx (by decide)))) (zL (uV PassesOwn.never rfl (qW rfl z_range (z7 1)) (qV (yq (i:=4) pV.nd rfl (Or.inl rfl)) rfl) (zL (zY (i:=5) pV.nd rfl (Or.inl rfl) (zf h_law_cell_at hr rfl (zA (z7 0) (zA (zG zz zy zB (z7 4)) zK)))) (zL (yE (zh wZ xB (zE (xy wL wN rfl yK wK (ym (zE (z7 0)) yr))) (zE (zG zz zy zB (z7 4))) (zu _)) (zN (zY (i:=5) pV.nd rfl (Or.inl rfl) (zf h_law_mixed hr rfl (zA (zf h_law_cell_at hr rfl (zA (z7 0) (zA zB zK))) (zA (z7 4) zK))))) yM) (zN (yE (zh wZ xB (zE (zG yV yU (zf h_law_mixed hr rfl (zA (z7 5) (zA zB zK))) zB)) (zE (z7 2)) (zu _)) (zL (zY (i:=6) pV.nd rfl (Or.inl rfl) (zf h_law_place_by hr rfl (zA (z7 4) (zA (z7 1) (zA (zf h_law_mixed hr rfl (zA (z7 5) (zA zB zK))) zK))))) (zL (zY (i:=7) pV.nd rfl (Or.inl rfl) (zc (za (zS hr)) zb (yj (yo (zA zO (zA zO (zA zO zK))) (zw (zJ (zJ (zJ zx))) (by decide)))) (zG yV yU (zf h_law_mixed hr rfl (zA (z7 5) (zA zB zK))) zB))) (zN (yE (zh (xN (yh hr)) xM (zE (z7 7)) (zE zO) (zu _)) (zN (vf (qv 3) (y_ (zA (z7 7) (zA (z7 6) zK)) (zw (zJ (zJ zx)) (by decide))))) (zN (vf (qv 3) (y_ (zA (z7 7) (zA (zc (za (zS hr)) zb (yj (yo (zA zO (zA zO (zA zO zK))) (zw (zJ (zJ (zJ zx))) (by decide)))) (zG yV yU (zf h_law_mixed hr rfl (zA (z7 5) (zA zB zK))) zB)) (zA (z7 6) zK))) (zw (zJ (zJ (zJ zx))) (by decide))))))))) (zN (vf (qv 3) (zf h_law_row_by hr rfl (zA (zf h_law_mixed hr rfl (zA (z7 5) (zA zB zK))) zK))))))))) (zN (jo 3))))
noncomputable abbrev U4:Stmt:=top 55
theorem Ee:yF ["_law_rows"] ["_law_rows"] (zm U4):=by ac_rfl
noncomputable def XH:HT:=fun P w K mg base=>yG P w K mg base "_law_jumps_in" ["_law_rows"] 1 (yJ K qc)
include X G z_range yK in
theorem DX (a:zR K "_law_jumps_in" U4):XH P w K mg base:=(a.d1 X G).oS P w base 0 qc Ee yR fun hr=>(zN (km (ux rfl (vW (own:=["_law_number"]) rfl) (qW rfl z_range (xy wL wN rfl yK wK (ym (zE (z7 0)) yr))) (vv (fun C s H fp pn=>(yq (i:=1) (show (wS ["_law_rows"] ["_law_number"]).Nodup by decide +kernel) rfl (Or.inl rfl))) rfl) (fun C s H fp pn=>(jp (zh (vI (zS hr)) vH (zE (zc (za (zS hr)) zb (zc (za (zS hr)) zb (z7 0) (z7 1)) zB)) (zE (y_ (zA zO (zA zO (zA zO zK))) (zw (zJ (zJ (zJ zx))) (by decide)))) (by with_unfolding_all rfl)))) (fun C s H fp pn=>(z7 1)))))
noncomputable abbrev U6:Stmt:=top 56
theorem YR:yF ["_law_cell", "_law_many"] ["_law_cell"] (zm U6):=by ac_rfl
noncomputable def XJ:HT:=fun P w K mg base=>yG P w K mg base "_law_many_by" ["_law_cell"] 1 (yJ K gD)
include X G in
theorem DZ (a:zR K "_law_many_by" U6):XJ P w K mg base:=(a.d1 X G).oS P w base 0 gD YR yR fun hr=>(zL (zY (i:=1) YR.nd rfl (Or.inl rfl) (zG yV yU (z7 0) zB)) (zL (yE (zh (xN (yh hr)) xM (zE (zG yV yU (zG xc xb (z7 0) zB) zB)) (zE zB) (zu _)) (zN (zY (i:=1) YR.nd rfl (Or.inl rfl) (zG zz zy zB (zG yV yU (zG xc xb (z7 0) zB) zB)))) yM) (zL (yE (zh (xN (yh hr)) xM (zE (zG yV yU (zG xc xb (z7 0) zB) zB)) (zE zB) (zu _)) (zN (zY (i:=1) YR.nd rfl (Or.inl rfl) (zG zz zy zB (zG yV yU (zG xc xb (z7 0) zB) zB)))) yM) (zN (zn (z7 1))))))
noncomputable abbrev U1:Stmt:=top 57
theorem uR:yF ["_law_rows", "_law_cell", "_law_shape", "_law_places", "_law_names", "_law_items", "_law_count", "_law_place", "_law_more", "_law_jumps"] ["_law_rows", "_law_cell"] (zm U1):=by ac_rfl
variable (h_law_jumps_in:XH P w K mg base) (h_law_name_by:XM P w K mg base)
noncomputable def XE:HT:=fun P w K mg base=>yG P w K mg base "_law_items_by" ["_law_rows", "_law_cell"] 4 (yJ K gB)
include X G z_range yK h_law_jumps_in h_law_mixed h_law_name_by in
theorem DU (a:zR K "_law_items_by" U1):XE P w K mg base:=(a.d2 X G).oS P w base 3 gB uR yR fun hr=>(zL (zY (i:=2) uR.nd rfl (Or.inl rfl) (zG yV yU (zG xc xb (z7 1) zB) zB)) (zL (GR (i:=3) rfl uR.nd rfl rfl (vW (own:=["_law_number"]) rfl) rfl (qX (zf h_law_jumps_in hr rfl (zA (z7 0) zK))) (vv (fun C s H fp pn=>(yq (i:=10) (show (wS ["_law_rows", "_law_cell", "_law_shape", "_law_places", "_law_names", "_law_items", "_law_count", "_law_place", "_law_more", "_law_jumps"] ["_law_number"]).Nodup by decide +kernel) rfl (Or.inl rfl))) rfl) (fun C s H fp pn=>pj) (fun C s H fp pn=>(zc (za (zS hr)) zb (zc (za (zS hr)) zb (z7 0) (z7 10)) (vM vh vg zB)))) (zL (uW (i:=4) uR.nd rfl (Or.inr rfl) Id) (zL (uW (i:=5) uR.nd rfl (Or.inl rfl) (yo zK (zw zx (by decide)))) (zL (zY (i:=6) uR.nd rfl (Or.inl rfl) zB) (zL (uV PassesOwn.never rfl (qW rfl z_range (zG zz zy (xy wL wN rfl yK wK (ym (zE (z7 0)) yr)) zB)) (qV (yq (i:=7) uR.nd rfl (Or.inl rfl)) rfl) (zL (zY (i:=8) uR.nd rfl (Or.inl rfl) (zG yV yU (zf h_law_mixed hr rfl (zA (z7 1) (zA (z7 7) zK))) zB)) (zL (yE (tS (jq (zh (vI (zS hr)) vH (zE (z7 7)) (zE (z7 3)) (by with_unfolding_all rfl)) (jt (zh (xN (yh hr)) xM (zE (z7 8)) (zE zB) (zu _))))) (zL (Ip (zS hr) (qv 4) (z7 7) (zf h_law_name_by hr rfl (zA (z7 6) (zA (z7 2) zK)))) (zL (vf (qv 5) (y_ (zA zO (zA (Ue (zS hr) (qv 4) (z7 7)) zK)) (zw (zJ (zJ zx)) (by decide)))) (zN (Io (i:=6) Qe JC uR.nd rfl (Or.inl rfl) zB)))) yM) (zL (yE (zh (xN (yh hr)) xM (zE (z7 8)) (zE zB) (zu _)) (zL (vf (qv 5) (y_ (zA zO (zA (zf h_law_name_by hr rfl (zA (z7 6) (zA (z7 2) zK))) zK)) (zw (zJ (zJ zx)) (by decide)))) (zN (Io (i:=6) Qe JC uR.nd rfl (Or.inl rfl) zB))) yM) (zN (yE (zh wZ xB (zE (z7 7)) (zE (xy wL wN rfl yK wK (ym (zE (z7 0)) yr))) (zu _)) (zN (vf (qv 5) (zc (za (zS hr)) zb (z7 0) (z7 7)))) yM)))))) (kq 5 (kq 4 (zL (zY (i:=9) uR.nd rfl (Or.inr rfl) (y_ (zA zO (zA zO (zA zO zK))) (zw (zJ (zJ (zJ zx))) (by decide)))) (zN (km (ux rfl (vW (own:=["_law_item"]) rfl) (qX (z7 5)) (vv (fun C s H fp pn=>(yq (i:=10) (show (wS ["_law_rows", "_law_cell", "_law_shape", "_law_places", "_law_names", "_law_items", "_law_count", "_law_place", "_law_more", "_law_jumps"] ["_law_item"]).Nodup by decide +kernel) rfl (Or.inl rfl))) rfl) (fun C s H fp pn=>pj) (fun C s H fp pn=>(qT (zh (vI (zS hr)) vH (zE (zc (za (zS hr)) zb (z7 10) zB)) (zE (z7 9)) (by with_unfolding_all rfl)) (zG zz zy (kZ (z7 10) pY (pZ (vM vh vg zB))) (y_ (zA (zc (za (zS hr)) zb (z7 4) (zc (za (zS hr)) zb (z7 10) (vM vh vg zB))) zK) (zw (zJ zx) (by decide)))) (z7 10)))))))))))))))
noncomputable abbrev Vz:Stmt:=top 58
theorem YQ:yF ["_law_script", "_law_many", "_law_dense", "_law_rows"] ["_law_script"] (zm Vz):=by ac_rfl
variable (h_law_many_by:XJ P w K mg base) (h_law_rows_by:XV P w K mg base) (h_law_items_by:XE P w K mg base)
noncomputable def XB:HT:=fun P w K mg base=>yG P w K mg base "_law_built" ["_law_script"] 5 (yJ K gA)
include X G h_law_many_by h_law_cell_at h_law_rows_by h_law_items_by in
theorem DR (a:zR K "_law_built" Vz):XB P w K mg base:=(a.d1 X G).oS P w base 4 gA YQ yR fun hr=>(zL (zY (i:=1) YQ.nd rfl (Or.inl rfl) (zf h_law_many_by hr rfl (zA (zf h_law_cell_at hr rfl (zA (z7 0) (zA zB zK))) zK))) (zL (zY (i:=2) YQ.nd rfl (Or.inl rfl) (zc (za (zS hr)) zb (yj (yo (ES (is:=[4,2,6,8]) rfl) (zw (Og (n:=4) (by decide)) (by decide)))) (zG yV yU (zf h_law_cell_at hr rfl (zA (z7 0) (zA zB zK))) zB))) (zL (zY (i:=3) YQ.nd rfl (Or.inl rfl) (zf h_law_rows_by hr rfl (zA (z7 0) (zA (z7 1) (zA (z7 2) zK))))) (zN (zn (y_ (zA (z7 3) (zA (zf h_law_items_by hr rfl (zA (z7 3) (zA (zG xc xb (zf h_law_cell_at hr rfl (zA (z7 0) (zA zB zK))) zB) zK))) zK)) (zw (zJ (zJ zx)) (by decide))))))))
noncomputable abbrev UH:Stmt:=top 59
theorem Ua:yF ["_law_rows", "_law_far", "_law_found", "_law_number"] ["_law_rows", "_law_far"] (zm UH):=by ac_rfl
noncomputable def XW:HT:=fun P w K mg base=>yG P w K mg base "_law_stands" ["_law_rows", "_law_far"] 1 (yJ K j2)
include X G z_range yK in
theorem Dk (a:zR K "_law_stands" UH):XW P w K mg base:=(a.d2 X G).oS P w base 0 j2 Ua yR fun hr=>(zL (uW (i:=2) Ua.nd rfl (Or.inl rfl) (yo (zA zB zK) (zw (zJ zx) (by decide)))) (zL (uV PassesOwn.never rfl (qW rfl z_range (xy wL wN rfl yK wK (ym (zE (z7 0)) yr))) (qV (yq (i:=3) Ua.nd rfl (Or.inl rfl)) rfl) (zL (vf (qv 2) (zG zz zy (Ue (zS hr) (qv 2) (vM vh vg zB)) zB)) (zN (yE (zh (vI (zS hr)) vH (zE (z7 3)) (zE (z7 1)) (by with_unfolding_all rfl)) (zN (GV (qv 2) (vM vh vg zB) (zG zz zy (Ue (zS hr) (qv 2) (vM vh vg zB)) zB))) yM)))) (zN (jo 2))))
noncomputable abbrev U9:Stmt:=top 60
theorem kR:yF ["_law_rows", "_law_far", "_law_stands_here", "_law_found", "_law_number", "_law_distance"] ["_law_rows", "_law_far"] (zm U9):=by ac_rfl
variable (h_law_stands:XW P w K mg base)
noncomputable def XN:HT:=fun P w K mg base=>yG P w K mg base "_law_near_ones" ["_law_rows", "_law_far"] 2 (yJ K tu)
include X G h_law_stands h_law_jumps_in in
theorem Dc (a:zR K "_law_near_ones" U9):XN P w K mg base:=(a.d2 X G).oS P w base 1 tu kR yR fun hr=>(zL (zY (i:=2) kR.nd rfl (Or.inl rfl) (zf h_law_stands hr rfl (zA (z7 0) (zA (z7 1) zK)))) (zL (uW (i:=3) kR.nd rfl (Or.inl rfl) (yo zK (zw zx (by decide)))) (zL (uV PassesOwn.never rfl (qX (zf h_law_jumps_in hr rfl (zA (z7 0) zK))) (qV (yq (i:=4) kR.nd rfl (Or.inl rfl)) rfl) (zL (zY (i:=5) kR.nd rfl (Or.inl rfl) (zG wb wY (zc (za (zS hr)) zb (z7 2) (zc (za (zS hr)) zb (zc (za (zS hr)) zb (z7 0) (z7 4)) (vM vh vg zB))) (zc (za (zS hr)) zb (z7 2) (z7 4)))) (zN (yE (tS (YX (zh (JI (zS hr)) JE (zE (z7 4)) (zE (z7 1)) (by with_unfolding_all rfl)) (Ul (tS (jq (zh wZ xB (zE (z7 5)) (zE (vM vh vg zB)) (zu _)) (jt (zh tN xB (zE (z7 5)) (zE zB) (zu _)))))))) (zN (vf (qv 3) (z7 4))) yM)))) (zN (jo 3)))))
noncomputable abbrev UC:Stmt:=top 61
theorem YS:yF ["_law_rows", "_law_far", "_law_more"] ["_law_rows", "_law_far"] (zm UC):=by ac_rfl
variable (z_sorted:mg "sorted" = none) (h_law_near_ones:XN P w K mg base)
noncomputable def XR:HT:=fun P w K mg base=>yG P w K mg base "_law_reaching" ["_law_rows", "_law_far"] 3 (yJ K gG)
include X G z_sorted h_law_near_ones in
theorem Df (a:zR K "_law_reaching" UC):XR P w K mg base:=(a.d2 X G).oS P w base 2 gG YS yR fun hr=>(zL (zY (i:=2) YS.nd rfl (Or.inl rfl) (zf h_law_near_ones hr rfl (zA (z7 0) (zA (z7 1) zK)))) (zL (Ui PassesOwn.never (zh (uO (yh hr)) uN (zE (z7 2)) (zE (yj (yo zK (zw zx (by decide))))) (zu _)) (zL (zY (i:=1) YS.nd rfl (Or.inl rfl) (yj (G4 rfl z_sorted (zA (zG zz zy (z7 1) (z7 2)) zK)))) (zN (zY (i:=2) YS.nd rfl (Or.inl rfl) (zf h_law_near_ones hr rfl (zA (z7 0) (zA (z7 1) zK))))))) (zN (zn (z7 1)))))
noncomputable abbrev Vy:Stmt:=top 63
theorem Ec:yF ["_law_rows", "_law_cell", "_law_most"] ["_law_rows", "_law_cell", "_law_most"] (zm Vy):=by ac_rfl
variable (h_law_reaching:XR P w K mg base)
noncomputable def XA:HT:=fun P w K mg base=>yG P w K mg base "_law_any_far" ["_law_rows", "_law_cell", "_law_most"] 4 (yJ K g9)
include X G h_law_reaching h_law_jumps_in h_law_mixed in
theorem DQ (a:zR K "_law_any_far" Vy):XA P w K mg base:=(a.d3 X G).oS P w base 3 g9 Ec yR fun hr=>(zN (zn (zf h_law_reaching hr rfl (zA (z7 0) (zA (yj (ux rfl (vW (own:=["_law_number"]) rfl) (qX (zf h_law_jumps_in hr rfl (zA (z7 0) zK))) (vv (fun C s H fp pn=>(yq (i:=3) (show (wS ["_law_rows", "_law_cell", "_law_most"] ["_law_number"]).Nodup by decide +kernel) rfl (Or.inl rfl))) rfl) (fun C s H fp pn=>(jp (zh wZ xB (zE (zG yV yU (zf h_law_mixed hr rfl (zA (z7 1) (zA (z7 3) zK))) zB)) (zE (z7 2)) (zu _)))) (fun C s H fp pn=>(z7 3)))) zK)))))
noncomputable abbrev UA:Stmt:=top 64
theorem IP:yF ["_law_some"] [] (zm UA):=by ac_rfl
noncomputable def XO:HT:=fun P w K mg base=>yG P w K mg base "_law_order" [] 1 (yJ K gE)
include X G in
theorem Dd (a:zR K "_law_order" UA):XO P w K mg base:=(a.d0 X G).oS P w base 0 gE IP yR fun hr=>(zL (zY (i:=0) IP.nd rfl (Or.inl rfl) (yj (yo (zA zO (zA zO (zA zO (zA zO (zA zO (zA zO (zA zO (zA zO (zA zO (zA zO (zA zO (zA zO zK)))))))))))) (zw (zJ (zJ (zJ (zJ (zJ (zJ (zJ (zJ (zJ (zJ (zJ (zJ zx)))))))))))) (by decide))))) (zN (zn (zG zz zy (z7 0) (yj (yo (zA zO (zA zO (zA zO (zA zO (zA zO (zA zO zK)))))) (zw (zJ (zJ (zJ (zJ (zJ (zJ zx)))))) (by decide))))))))
noncomputable abbrev UI:Stmt:=top 65
theorem kU:yF ["_law_row", "_law_word_here"] ["_law_row"] (zm UI):=by ac_rfl
variable (h_law_order:XO P w K mg base)
noncomputable def XZ:HT:=fun P w K mg base=>yG P w K mg base "_law_word" ["_law_row"] 2 (yJ K vT)
include X G yK h_law_order in
theorem Dl (a:zR K "_law_word" UI):XZ P w K mg base:=(a.d1 X G).oS P w base 1 vT kU yR fun hr=>(zL (zY (i:=1) kU.nd rfl (Or.inl rfl) (zG tO pJ (Ud (IX h_law_order hr rfl) (zc (za (zS hr)) zb (z7 0) zB)) (zG vz vy zB zB))) (zL (yE (zh (xN (yh hr)) xM (zE (zc (za (zS hr)) zb (z7 0) zB)) (zE zO) (zu _)) (zN (zn (z7 1))) yM) (zL (zY (i:=1) kU.nd rfl (Or.inl rfl) (zG zz zy (z7 1) (zG tO pJ (zc (za (zS hr)) zb (z7 0) zB) (zG vz vy zB zB)))) (zL (yE (zh (vI (zS hr)) vH (zE (zc (za (zS hr)) zb (z7 0) zB)) (zE (y_ (zA zO (zA zO (zA zO (zA zO zK)))) (zw (zJ (zJ (zJ (zJ zx)))) (by decide)))) (by with_unfolding_all rfl)) (zN (zn (zG zz zy (z7 1) (zc (za (zS hr)) zb (z7 0) zB)))) yM) (zL (zY (i:=1) kU.nd rfl (Or.inl rfl) (zG zz zy (z7 1) (zG tO pJ (zc (za (zS hr)) zb (z7 0) zB) (zG vz vy zB zB)))) (zL (yE (zh (xN (yh hr)) xM (zE (xy wL wN rfl yK wK (ym (zE (z7 0)) yr))) (zE zB) (zu _)) (zN (zY (i:=1) kU.nd rfl (Or.inl rfl) (zG zz zy (z7 1) (zc (za (zS hr)) zb (z7 0) zB)))) yM) (zN (zn (z7 1)))))))))
noncomputable abbrev U3:Stmt:=top 66
theorem UY:yF ["_law_row", "_law_distance", "_law_is_far", "_law_word_here"] ["_law_row", "_law_distance", "_law_is_far"] (zm U3):=by ac_rfl
variable (z_int:mg "int" = none)
noncomputable def XG:HT:=fun P w K mg base=>yG P w K mg base "_law_jump_words" ["_law_row", "_law_distance", "_law_is_far"] 1 (yJ K u7)
include X G z_int in
theorem DW (a:zR K "_law_jump_words" U3):XG P w K mg base:=(a.d3 X G).oS P w base 0 u7 UY yR fun hr=>(zL (zY (i:=3) UY.nd rfl (Or.inl rfl) (zG tO pJ (zG zz zy (zG zz zy zB (Ud (yj (yo (zA zO (zA zO (zA zO zK))) (zw (zJ (zJ (zJ zx))) (by decide)))) (zc (za (zS hr)) zb (z7 0) zB))) (zG tO JD zB (u1 ga kC rfl z_int gZ (ym (zE (z7 2)) yr)))) (zG vz vy zB zB))) (zL (yE (zh (uO (yh hr)) uN (zE (zc (za (zS hr)) zb (z7 0) zB)) (zE zO) (zu _)) (zN (zY (i:=3) UY.nd rfl (Or.inl rfl) (zG zz zy (z7 3) (zG tO pJ (Ud (yj (yo (zA zO (zA zO (zA zO zK))) (zw (zJ (zJ (zJ zx))) (by decide)))) (zc (za (zS hr)) zb (z7 0) zB)) (zG vz vy zB zB))))) yM) (zL (yE (pf (z7 2)) (zN (km (yo (zA (z7 3) (zA (zG yV yU (z7 1) (zG vz vy zB zB)) zK)) (zw (zJ (zJ zx)) (by decide))))) yM) (zN (km (yo (zA (zG zz zy (z7 3) (zG yV yU (z7 1) zB)) zK) (zw (zJ zx) (by decide))))))))
noncomputable abbrev UK:Stmt:=top 67
theorem jh:yF ["_law_rows", "_law_far", "_law_stands_here", "_law_found", "_law_number", "_law_distance"] ["_law_rows", "_law_far"] (zm UK):=by ac_rfl
variable (h_law_jump_words:XG P w K mg base) (h_law_word:XZ P w K mg base)
noncomputable def Xb:HT:=fun P w K mg base=>yG P w K mg base "_law_written" ["_law_rows", "_law_far"] 3 (yJ K gJ)
include X G z_range yK h_law_stands h_law_jump_words h_law_word in
theorem Dn (a:zR K "_law_written" UK):Xb P w K mg base:=(a.d2 X G).oS P w base 2 gJ jh yR fun hr=>(zL (zY (i:=2) jh.nd rfl (Or.inl rfl) (zf h_law_stands hr rfl (zA (z7 0) (zA (z7 1) zK)))) (zL (uW (i:=3) jh.nd rfl (Or.inl rfl) (yo zK (zw zx (by decide)))) (zL (uV PassesOwn.never rfl (qW rfl z_range (xy wL wN rfl yK wK (ym (zE (z7 0)) yr))) (qV (yq (i:=4) jh.nd rfl (Or.inl rfl)) rfl) (zN (yE (zh (vI (zS hr)) vH (zE (zc (za (zS hr)) zb (zc (za (zS hr)) zb (z7 0) (z7 4)) zB)) (zE (y_ (zA zO (zA zO (zA zO zK))) (zw (zJ (zJ (zJ zx))) (by decide)))) (by with_unfolding_all rfl)) (zL (zY (i:=5) jh.nd rfl (Or.inl rfl) (zG wb wY (zc (za (zS hr)) zb (z7 2) (zc (za (zS hr)) zb (zc (za (zS hr)) zb (z7 0) (z7 4)) (vM vh vg zB))) (zc (za (zS hr)) zb (z7 2) (z7 4)))) (zN (uW (i:=3) jh.nd rfl (Or.inl rfl) (Ex (qv 3) (zf h_law_jump_words hr rfl (zA (zc (za (zS hr)) zb (z7 0) (z7 4)) (zA (z7 5) (zA (uw (vI (zS hr)) vH (zE (z7 4)) (zE (z7 1)) (by with_unfolding_all rfl)) zK)))))))) (zN (vf (qv 3) (zf h_law_word hr rfl (zA (zc (za (zS hr)) zb (z7 0) (z7 4)) zK))))))) (zN (jo 3)))))
noncomputable abbrev U2:Stmt:=top 68
theorem uS:yF ["_law_words", "_law_address", "_law_kind", "_law_word_here", "_law_name", "_law_mark", "_law_is_far", "_law_row", "_law_distance"] ["_law_words", "_law_address", "_law_kind"] (zm U2):=by ac_rfl
noncomputable def XF:HT:=fun P w K mg base=>yG P w K mg base "_law_jump_at" ["_law_words", "_law_address", "_law_kind"] 2 (yJ K u5)
include X G z_int yK h_law_jump_words in
theorem DV (a:zR K "_law_jump_at" U2):XF P w K mg base:=(a.d3 X G).oS P w base 1 u5 uS yR fun hr=>(zL (zY (i:=3) uS.nd rfl (Or.inl rfl) (zc (za (zS hr)) zb (z7 0) (z7 1))) (zL (zY (i:=4) uS.nd rfl (Or.inl rfl) (zc (za (zS hr)) zb (yj (yo (zA zO (zA zO (zA zO zK))) (zw (zJ (zJ (zJ zx))) (by decide)))) (zG yV yU (zG wb wY (z7 2) zB) zB))) (zL (zY (i:=5) uS.nd rfl (Or.inl rfl) (zG yV yU (zG xc xb (z7 3) (zG vz vy zB zB)) zB)) (zL (zY (i:=6) uS.nd rfl (Or.inl rfl) (uw tN xB (zE (z7 2)) (zE zB) (zu _))) (zL (yE (tS (jq (zh (xN (yh hr)) xM (zE (z7 5)) (zE zB) (zu _)) (jt (zh tN xB (zE (zG zz zy (zG zz zy (z7 1) zB) (u1 ga kC rfl z_int gZ (ym (zE (z7 6)) yr)))) (zE (xy wL wN rfl yK wK (ym (zE (z7 0)) yr))) (zu _))))) (zN (zn xg)) yM) (zL (zY (i:=7) uS.nd rfl (Or.inl rfl) (y_ (zA zO zK) (zw (zJ zx) (by decide)))) (zL (yE (zh (uO (yh hr)) uN (zE (z7 4)) (zE zO) (zu _)) (zN (zY (i:=7) uS.nd rfl (Or.inl rfl) (y_ (zA (z7 4) (zA (zc (za (zS hr)) zb (yj (yo (zA zO (zA zO (zA zO zK))) (zw (zJ (zJ (zJ zx))) (by decide)))) (z7 5)) zK)) (zw (zJ (zJ zx)) (by decide))))) yM) (zL (zY (i:=8) uS.nd rfl (Or.inl rfl) (zG yV yU (z7 3) zB)) (zL (yE (zh tN xB (zE (z7 8)) (zE zB) (zu _)) (zN (zY (i:=8) uS.nd rfl (Or.inl rfl) (zG wb wY (z7 8) zB))) yM) (zL (yE (pf (z7 6)) (zL (zY (i:=8) uS.nd rfl (Or.inl rfl) (zc (za (zS hr)) zb (z7 0) (zG zz zy (z7 1) zB))) (zN (yE (zh tN xB (zE (z7 8)) (zE zB) (zu _)) (zN (zY (i:=8) uS.nd rfl (Or.inl rfl) (zG wb wY (z7 8) (zG vz vy zB zB)))) yM))) yM) (zL (yE (zh (uO (yh hr)) uN (zE (zc (za (zS hr)) zb (zf h_law_jump_words hr rfl (zA (z7 7) (zA (z7 8) (zA (z7 6) zK)))) zB)) (zE (z7 3)) (zu _)) (zN (zn xg)) yM) (zN (zn (y_ (zA (z7 7) (zA (zG zz zy (zG zz zy (z7 1) zB) (u1 ga kC rfl z_int gZ (ym (zE (z7 6)) yr))) (zA (zG zz zy (z7 1) (z7 8)) zK))) (zw (zJ (zJ (zJ zx))) (by decide))))))))))))))))
noncomputable abbrev UD:Stmt:=top 69
theorem qS:yF ["_law_words", "_law_address", "_law_word_here", "_law_kind", "_law_name", "_law_row"] ["_law_words", "_law_address"] (zm UD):=by ac_rfl
variable (h_law_jump_at:XF P w K mg base)
noncomputable def XS:HT:=fun P w K mg base=>yG P w K mg base "_law_row_at" ["_law_words", "_law_address"] 3 (yJ K vS)
include X G yK z_int h_law_jump_at h_law_order h_law_word in
theorem Dg (a:zR K "_law_row_at" UD):XS P w K mg base:=(a.d2 X G).oS P w base 2 vS qS yR fun hr=>(zL (yE (Iu (Ir YG xB wZ xB (zE zB) (zE (z7 1)) (zE (xy wL wN rfl yK wK (ym (zE (z7 0)) yr))))) (zN (zn xg)) yM) (zL (zY (i:=2) qS.nd rfl (Or.inl rfl) (zc (za (zS hr)) zb (z7 0) (z7 1))) (zL (zY (i:=3) qS.nd rfl (Or.inl rfl) (zG xc xb (z7 2) (zG vz vy zB zB))) (zL (yE (zh tN xB (zE (z7 3)) (zE zB) (zu _)) (zN (zn xg)) yM) (zL (yE (zh tN xB (zE (z7 3)) (zE zB) (zu _)) (zN (zn (zf h_law_jump_at hr rfl (zA (z7 0) (zA (z7 1) (zA (z7 3) zK)))))) yM) (zL (zY (i:=4) qS.nd rfl (Or.inl rfl) (zc (za (zS hr)) zb (IX h_law_order hr rfl) (z7 3))) (zL (zY (i:=5) qS.nd rfl (Or.inl rfl) (y_ (zA (z7 4) (zA (zG yV yU (zG xc xb (z7 2) (zG vz vy zB zB)) zB) (zA (zG yV yU (zG xc xb (z7 2) (zG vz vy zB zB)) zB) zK))) (zw (zJ (zJ (zJ zx))) (by decide)))) (zL (yE (zh (xN (yh hr)) xM (zE (z7 4)) (zE zO) (zu _)) (zN (zY (i:=5) qS.nd rfl (Or.inl rfl) (y_ (zA zO zK) (zw (zJ zx) (by decide))))) (zN (yE (zh (vI (zS hr)) vH (zE (z7 4)) (zE (y_ (zA zO (zA zO (zA zO (zA zO zK)))) (zw (zJ (zJ (zJ (zJ zx)))) (by decide)))) (by with_unfolding_all rfl)) (zN (zY (i:=5) qS.nd rfl (Or.inl rfl) (zG zz zy (IY (z7 5) pY (pZ zB)) (y_ (zA (zG yV yU (z7 2) (zc (za (zS hr)) zb (yj (yo (zA zB (zA zB zK)) (zw (zJ (zJ zx)) (by decide)))) (u1 ga kC rfl z_int gZ (ym (zE (uw (vI (zS hr)) vH (zE (z7 4)) (zE (y_ (zA zO (zA zO zK)) (zw (zJ (zJ zx)) (by decide)))) (by with_unfolding_all rfl))) yr)))) zK) (zw (zJ zx) (by decide)))))) (zN (yE (zh tN xB (zE (z7 3)) (zE zB) (zu _)) (zN (zY (i:=5) qS.nd rfl (Or.inl rfl) (zG zz zy (z7 5) (y_ (zA (zG yV yU (z7 2) zB) zK) (zw (zJ zx) (by decide)))))) yM))))) (zL (yE (zh (uO (yh hr)) uN (zE (zf h_law_word hr rfl (zA (z7 5) zK))) (zE (z7 2)) (zu _)) (zN (zn xg)) yM) (zN (zn (y_ (zA (z7 5) (zA (zG zz zy (z7 1) zB) (zA xg zK))) (zw (zJ (zJ (zJ zx))) (by decide))))))))))))))
noncomputable abbrev UJ:Stmt:=top 70
theorem Ub:yF ["_law_script", "_law_rows", "_law_cell"] ["_law_script"] (zm UJ):=by ac_rfl
variable (h_law_built:XB P w K mg base) (h_law_written:Xb P w K mg base) (h_law_any_far:XA P w K mg base)
noncomputable def Xa:HT:=fun P w K mg base=>yG P w K mg base "_law_words_built" ["_law_script"] 6 (yJ K gI)
include X G h_law_built h_law_cell_at h_law_written h_law_any_far in
theorem Dm (a:zR K "_law_words_built" UJ):Xa P w K mg base:=(a.d1 X G).oS P w base 5 gI Ub yR fun hr=>(zL (zY (i:=1) Ub.nd rfl (Or.inl rfl) (zc (za (zS hr)) zb (zf h_law_built hr rfl (zA (z7 0) zK)) zB)) (zL (zY (i:=2) Ub.nd rfl (Or.inl rfl) (zf h_law_cell_at hr rfl (zA (z7 0) (zA zB zK)))) (zN (zn (zf h_law_written hr rfl (zA (z7 1) (zA (zf h_law_any_far hr rfl (zA (z7 1) (zA (z7 2) (zA (zG yV yU (z7 2) zB) zK)))) zK)))))))
noncomputable abbrev U0:Stmt:=top 71
theorem kQ:yF ["_law_word_here", "_law_text", "_law_k"] ["_law_word_here"] (zm U0):=by ac_rfl
noncomputable def XD:HT:=fun P w K mg base=>yG P w K mg base "_law_hex" ["_law_word_here"] 1 (yJ K pz)
include X G z_range in
theorem DT (a:zR K "_law_hex" U0):XD P w K mg base:=(a.d1 X G).oS P w base 0 pz kQ yR fun hr=>(zL (zY (i:=1) kQ.nd rfl (Or.inl rfl) zO) (zL (uV PassesOwn.never rfl (qW rfl z_range zB) (qV (yq (i:=2) kQ.nd rfl (Or.inl rfl)) rfl) (zL (zY (i:=1) kQ.nd rfl (Or.inl rfl) (zG zz zy (zc (za (zS hr)) zb zO (zG yV yU (z7 0) zB)) (z7 1))) (zN (zY (i:=0) kQ.nd rfl (Or.inl rfl) (zG xc xb (z7 0) zB))))) (zN (zn (z7 1)))))
noncomputable abbrev UF:Stmt:=top 72
theorem kT:yF ["_law_row", "_law_target", "_law_words", "_law_registers", "_law_k"] ["_law_row", "_law_target"] (zm UF):=by ac_rfl
noncomputable def XU:HT:=fun P w K mg base=>yG P w K mg base "_law_row_text" ["_law_row", "_law_target"] 1 (yJ K qd)
include X G z_str yK z_range z_int in
theorem Di (a:zR K "_law_row_text" UF):XU P w K mg base:=(a.d2 X G).oS P w base 0 qd kT yR fun hr=>(zL (yE (zh YH YD (zE (z7 1)) (zE xg) (zu _)) (zN (zn (Er zO (zE (zG zz zy (z7 0) (y_ (zA (u1 qu pK rfl z_str qG (ym (zE (z7 1)) yr)) zK) (zw (zJ zx) (by decide)))))))) yM) (zL (uW (i:=2) kT.nd rfl (Or.inl rfl) (yo (zA (zc (za (zS hr)) zb (z7 0) zB) zK) (zw (zJ zx) (by decide)))) (zL (zY (i:=3) kT.nd rfl (Or.inl rfl) (zG wb wY (xy wL wN rfl yK wK (ym (zE (z7 0)) yr)) zB)) (zL (yE (zh (vI (zS hr)) vH (zE (zc (za (zS hr)) zb (z7 0) zB)) (zE (y_ (zA zO (zA zO (zA zO (zA zO (zA zO (zA zO (zA zO (zA zO zK)))))))) (zw (zJ (zJ (zJ (zJ (zJ (zJ (zJ (zJ zx)))))))) (by decide)))) (by with_unfolding_all rfl)) (zN (zY (i:=3) kT.nd rfl (Or.inl rfl) (zG wb wY (z7 3) zB))) yM) (zL (uV PassesOwn.never rfl (GC rfl z_range zB (xy wL wN rfl yK wK (ym (zE (z7 0)) yr))) (qV (yq (i:=4) kT.nd rfl (Or.inl rfl)) rfl) (zN (vf (qv 2) (zG zz zy (zc (za (zS hr)) zb (yj (yo (zA zO (zA zO zK)) (zw (zJ (zJ zx)) (by decide)))) (u1 ga kC rfl z_int gZ (ym (zE (uw YG xB (zE (z7 4)) (zE (z7 3)) (zu _))) yr))) (u1 qu pK rfl z_str qG (ym (zE (zc (za (zS hr)) zb (z7 0) (z7 4))) yr)))))) (kq 2 (zN (zn (kY zO (zE (z7 2)))))))))))
noncomputable abbrev U5:Stmt:=top 73
theorem pU:yF ["_law_words", "_law_found", "_law_address", "_law_row", "_law_following", "_law_target"] ["_law_words"] (zm U5):=by ac_rfl
variable (h_law_row_at:XS P w K mg base) (h_law_row_text:XU P w K mg base) (h_law_hex:XD P w K mg base)
noncomputable def XI:HT:=fun P w K mg base=>yG P w K mg base "_law_lines" ["_law_words"] 4 (yJ K gC)
include X G yK z_str h_law_row_at h_law_row_text h_law_hex in
theorem DY (a:zR K "_law_lines" U5):XI P w K mg base:=(a.d1 X G).oS P w base 3 gC pU yR fun hr=>(zL (uW (i:=1) pU.nd rfl (Or.inl rfl) (yo zK (zw zx (by decide)))) (zL (zY (i:=2) pU.nd rfl (Or.inl rfl) zB) (zL (Ui PassesOwn.never (zh wZ xB (zE (z7 2)) (zE (xy wL wN rfl yK wK (ym (zE (z7 0)) yr))) (zu _)) (zL (GP (zf h_law_row_at hr rfl (zA (z7 0) (zA (z7 2) zK))) (G7 (kM (n:=3) rfl (vK (yq (i:=3) pU.nd rfl (Or.inl rfl)) (vK (yq (i:=4) pU.nd rfl (Or.inl rfl)) (vK (yq (i:=5) pU.nd rfl (Or.inl rfl)) jd)))) rfl rfl rfl)) (zL (vf (qv 1) (yj (yo (zA (u1 qu pK rfl z_str qG (ym (zE (z7 2)) yr)) (zA (zf h_law_hex hr rfl (zA (zc (za (zS hr)) zb (z7 0) (z7 2)) zK)) (zA (zf h_law_row_text hr rfl (zA (z7 3) (zA (z7 5) zK))) zK))) (zw (zJ (zJ (zJ zx))) (by decide))))) (zL (yE (zh tN xB (zE (z7 4)) (zE (zG zz zy (z7 2) zB)) (zu _)) (zN (vf (qv 1) (yj (yo (zA (u1 qu pK rfl z_str qG (ym (zE (zG zz zy (z7 2) zB)) yr)) (zA (zf h_law_hex hr rfl (zA (zc (za (zS hr)) zb (z7 0) (zG zz zy (z7 2) zB)) zK)) (zA zO zK))) (zw (zJ (zJ (zJ zx))) (by decide)))))) yM) (zN (zY (i:=2) pU.nd rfl (Or.inl rfl) (z7 4))))))) (zN (jo 1)))))
noncomputable abbrev pT:Stmt:=top 74
theorem uQ:yF ["_law_script", "_law_words", "_law_due", "_law_address", "_law_signs", "_law_told", "_law_handed", "_law_found"] ["_law_script"] (zm pT):=by ac_rfl
variable (z_isinstance:mg "isinstance" = none) (h_law_words_built:Xa P w K mg base) (h_law_lines:XI P w K mg base) (h_listing:Xc P w K mg base)
include yK z_list z_isinstance z_str h_law_words_built h_law_lines h_listing in
theorem DP {f:Addr} {fd:FuncData} (d:qA K "law" "law" pT f fd):vk P w K mg base vP 11 f fd ["_law_script"] (kj K):=Be d uQ (by decide) EK fun cdv A outer s H E hr=>(zL (zY (i:=1) uQ.nd rfl (Or.inl rfl) (zf h_law_words_built hr rfl (zA (z7 0) zK))) (zL (zY (i:=2) uQ.nd rfl (Or.inl rfl) zO) (zL (uV PassesOwn.never rfl (qX (zf h_law_lines hr rfl (zA (z7 1) zK))) (G8 (Cu (n:=3) rfl (vK (yq (i:=3) uQ.nd rfl (Or.inl rfl)) (vK (yq (i:=4) uQ.nd rfl (Or.inl rfl)) (vK (yq (i:=5) uQ.nd rfl (Or.inl rfl)) jd)))) rfl rfl rfl) (zL (zY (i:=2) uQ.nd rfl (Or.inl rfl) (zG zz zy (zG zz zy (zG zz zy (zG zz zy (z7 2) (zG FI Dr zO (zG wb wY zB (xy wL wN rfl yK wK (ym (zE (z7 3)) yr))))) (z7 3)) zO) (z7 4))) (zL (yE (zh (uO (yh hr)) uN (zE (z7 5)) (zE zO) (zu _)) (zN (zY (i:=2) uQ.nd rfl (Or.inl rfl) (zG zz zy (zG zz zy (z7 2) zO) (z7 5)))) yM) (zN (zY (i:=2) uQ.nd rfl (Or.inl rfl) (zG zz zy (z7 2) zO)))))) (zL (zY (i:=6) uQ.nd rfl (Or.inl rfl) (yj (Ez rfl z_list (zA (z7 1) zK)))) (zL (zY (i:=7) uQ.nd rfl (Or.inl rfl) (zf h_listing hr rfl (zA (z7 6) zK))) (zL (yE (tS (jq (Iu (pf (Ep .str rfl rfl z_isinstance z_str qG (zE (z7 7))))) (jt (zh (uO (yh hr)) uN (zE (z7 7)) (zE (z7 2)) (zu _))))) (zN (zn Ek)) yM) (zN (zn (IW (uw (xN (yh hr)) xM (zE (zf h_listing hr rfl (zA (kZ (z7 6) pY (pZ zB)) zK))) (zE zO) (zu _)) (IW (uw (xN (yh hr)) xM (zE (zf h_listing hr rfl (zA (z7 6) zK))) (zE (z7 2)) (zu _)) (Et (uw (xN (yh hr)) xM (zE (z7 6)) (zE (z7 1)) (zu _)))))))))))))
end
end
theorem all_mk {l:PySem.W.OpenLaw} {w:World} {K:PySem.W.Frag} {h:Heap} {mg:Str->Option Value} {fa:Addr} (X:K.In h) (G:h.Ns mainGlobals mg) (hfa:mg "law" = some (.ref fa))
  {f50:Addr} {od50 an50:Option Addr} {sl50:Array (Option Value)} {oc50 kV50 dc50 pm50 cd50 ct50:Value}
  (a0:zR K "part" UN)
  (a1:zR K "with_part" UW)
  (a2:zR K "signed" UQ)
  (a3:zR K "hex_text" Vs)
  (a4:zR K "is_label" Vu)
  (a5:zR K "field_text" Vo)
  (a6:zR K "item_text" Vw)
  (a7:zR K "place_in_word" UO)
  (a8:zR K "number_at" UM)
  (a9:zR K "with_number" UV)
  (a10:zR K "fields_in_word" Vp)
  (a11:zR K "first_word" Vq)
  (a12:zR K "code_in" Vm)
  (a13:zR K "kind_of_code" Vx)
  (a14:zR K "is_near_code" Vv)
  (a15:zR K "is_far_code" Vt)
  (a16:zR K "held_in" Vr)
  (a17:zR K "row_in" UP)
  (a18:zR K "far_at" Vn)
  (a19:zR K "told_at" US)
  (a20:zR K "walked" UU)
  (a21:zR K "behind" Vl)
  (a22:zR K "word_fault" UX)
  (a23:zR K "table_of" UR)
  (a24:zR K "told_text" UT)
  (a25:zR K "listing" UL)
  (a26:zR K "_law_cell_at" V_)
  (a27:zR K "_law_mixed" U7)
  (a28:zR K "_law_name_by" U8)
  (a29:zR K "_law_row_by" UE)
  (a30:zR K "_law_place_by" UB)
  (a31:zR K "_law_rows_by" UG)
  (a32:zR K "_law_jumps_in" U4)
  (a33:zR K "_law_many_by" U6)
  (a34:zR K "_law_items_by" U1)
  (a35:zR K "_law_built" Vz)
  (a36:zR K "_law_stands" UH)
  (a37:zR K "_law_near_ones" U9)
  (a38:zR K "_law_reaching" UC)
  (a39:zR K "_law_any_far" Vy)
  (a40:zR K "_law_order" UA)
  (a41:zR K "_law_word" UI)
  (a42:zR K "_law_jump_words" U3)
  (a43:zR K "_law_written" UK)
  (a44:zR K "_law_jump_at" U2)
  (a45:zR K "_law_row_at" UD)
  (a46:zR K "_law_words_built" UJ)
  (a47:zR K "_law_hex" U0)
  (a48:zR K "_law_row_text" UF)
  (a49:zR K "_law_lines" U5)
  (a50:PySem.W.nsIn K mainGlobals "law" = some (some (.ref f50)))
  (l50:K.lookup f50=Q3 "law" pT oc50 od50 sl50 kV50 dc50 pm50 an50 cd50 ct50)
  (c50:PySem.W.codeIn K cd50 "law" = true) (k50:PySem.W.keepIn K (.ref f50)=true)
  (nz_str:PySem.W.nsIn K mainGlobals "str" = some none)
  (nz_zip:PySem.W.nsIn K mainGlobals "zip" = some none)
  (nz_list:PySem.W.nsIn K mainGlobals "list" = some none)
  (nz_len:PySem.W.nsIn K mainGlobals "len" = some none)
  (nz_tuple:PySem.W.nsIn K mainGlobals "tuple" = some none)
  (nz_max:PySem.W.nsIn K mainGlobals "max" = some none)
  (nz_enumerate:PySem.W.nsIn K mainGlobals "enumerate" = some none)
  (nz_range:PySem.W.nsIn K mainGlobals "range" = some none)
  (nz_min:PySem.W.nsIn K mainGlobals "min" = some none)
  (nz_sorted:PySem.W.nsIn K mainGlobals "sorted" = some none)
  (nz_int:PySem.W.nsIn K mainGlobals "int" = some none)
  (nz_isinstance:PySem.W.nsIn K mainGlobals "isinstance" = some none)
  {A_SIGN_LOWS:Addr} {n_SIGN_LOWS:Nat} {sl_SIGN_LOWS:Array (Option Value)} {u0_SIGN_LOWS u1_SIGN_LOWS u2_SIGN_LOWS u3_SIGN_LOWS u4_SIGN_LOWS u5_SIGN_LOWS u6_SIGN_LOWS u7_SIGN_LOWS:Tok} (ng_SIGN_LOWS:PySem.W.nsIn K mainGlobals "SIGN_LOWS" = some (some (.ref A_SIGN_LOWS)))
  (nq_SIGN_LOWS:K.lookup A_SIGN_LOWS=some ⟨.type "tuple",none,.seq #[.int 28 u0_SIGN_LOWS,.int 24 u1_SIGN_LOWS,.int 20 u2_SIGN_LOWS,.int 16 u3_SIGN_LOWS,.int 12 u4_SIGN_LOWS,.int 8 u5_SIGN_LOWS,.int 4 u6_SIGN_LOWS,.int 0 u7_SIGN_LOWS] n_SIGN_LOWS,sl_SIGN_LOWS⟩)
  {tg_SIGNS:Tok} (ng_SIGNS:PySem.W.nsIn K mainGlobals "SIGNS" = some (some (.str "0123456789abcdef" tg_SIGNS)))
  {A_FIELDS:Addr} {n_FIELDS:Nat} (ng_FIELDS:PySem.W.nsIn K mainGlobals "FIELDS" = some (some (.ref A_FIELDS)))
  {tk0_FIELDS:Tok}
  {A0_FIELDS:Addr} {d0_FIELDS:Option Addr} {n0_FIELDS:Nat} {sl0_FIELDS:Array (Option Value)}
  {w0_0_FIELDS:Tok}
  {tk1_FIELDS:Tok}
  {A1_FIELDS:Addr} {d1_FIELDS:Option Addr} {n1_FIELDS:Nat} {sl1_FIELDS:Array (Option Value)}
  {w1_0_FIELDS w1_1_FIELDS:Tok}
  {tk2_FIELDS:Tok}
  {A2_FIELDS:Addr} {d2_FIELDS:Option Addr} {n2_FIELDS:Nat} {sl2_FIELDS:Array (Option Value)}
  {w2_0_FIELDS w2_1_FIELDS:Tok}
  {tk3_FIELDS:Tok}
  {A3_FIELDS:Addr} {d3_FIELDS:Option Addr} {n3_FIELDS:Nat} {sl3_FIELDS:Array (Option Value)}
  {w3_0_FIELDS w3_1_FIELDS:Tok}
  {tk4_FIELDS:Tok}
  {A4_FIELDS:Addr} {d4_FIELDS:Option Addr} {n4_FIELDS:Nat} {sl4_FIELDS:Array (Option Value)}
  {w4_0_FIELDS w4_1_FIELDS:Tok}
  {tk5_FIELDS:Tok}
  {A5_FIELDS:Addr} {d5_FIELDS:Option Addr} {n5_FIELDS:Nat} {sl5_FIELDS:Array (Option Value)}
  {w5_0_FIELDS w5_1_FIELDS:Tok}
  {tk6_FIELDS:Tok}
  {A6_FIELDS:Addr} {d6_FIELDS:Option Addr} {n6_FIELDS:Nat} {sl6_FIELDS:Array (Option Value)}
  {w6_0_FIELDS w6_1_FIELDS:Tok}
  {tk7_FIELDS:Tok}
  {A7_FIELDS:Addr} {d7_FIELDS:Option Addr} {n7_FIELDS:Nat} {sl7_FIELDS:Array (Option Value)}
  {w7_0_FIELDS w7_1_FIELDS:Tok}
  {tk8_FIELDS:Tok}
  {A8_FIELDS:Addr} {d8_FIELDS:Option Addr} {n8_FIELDS:Nat} {sl8_FIELDS:Array (Option Value)}
  {w8_0_FIELDS w8_1_FIELDS:Tok}
  {tk9_FIELDS:Tok}
  {A9_FIELDS:Addr} {d9_FIELDS:Option Addr} {n9_FIELDS:Nat} {sl9_FIELDS:Array (Option Value)}
  {w9_0_FIELDS w9_1_FIELDS:Tok}
  {tk10_FIELDS:Tok}
  {A10_FIELDS:Addr} {d10_FIELDS:Option Addr} {n10_FIELDS:Nat} {sl10_FIELDS:Array (Option Value)}
  {w10_0_FIELDS w10_1_FIELDS:Tok}
  {tk11_FIELDS:Tok}
  {A11_FIELDS:Addr} {d11_FIELDS:Option Addr} {n11_FIELDS:Nat} {sl11_FIELDS:Array (Option Value)}
  {w11_0_FIELDS w11_1_FIELDS:Tok}
  {tk12_FIELDS:Tok}
  {A12_FIELDS:Addr} {d12_FIELDS:Option Addr} {n12_FIELDS:Nat} {sl12_FIELDS:Array (Option Value)}
  {w12_0_FIELDS w12_1_FIELDS:Tok}
  {tk13_FIELDS:Tok}
  {A13_FIELDS:Addr} {d13_FIELDS:Option Addr} {n13_FIELDS:Nat} {sl13_FIELDS:Array (Option Value)}
  {w13_0_FIELDS w13_1_FIELDS:Tok}
  {tk14_FIELDS:Tok}
  {A14_FIELDS:Addr} {d14_FIELDS:Option Addr} {n14_FIELDS:Nat} {sl14_FIELDS:Array (Option Value)}
  {w14_0_FIELDS w14_1_FIELDS w14_2_FIELDS:Tok}
  {tk15_FIELDS:Tok}
  {A15_FIELDS:Addr} {d15_FIELDS:Option Addr} {n15_FIELDS:Nat} {sl15_FIELDS:Array (Option Value)}
  {w15_0_FIELDS w15_1_FIELDS w15_2_FIELDS:Tok}
  {tk16_FIELDS:Tok}
  {A16_FIELDS:Addr} {d16_FIELDS:Option Addr} {n16_FIELDS:Nat} {sl16_FIELDS:Array (Option Value)}
  {w16_0_FIELDS w16_1_FIELDS w16_2_FIELDS:Tok}
  {tk17_FIELDS:Tok}
  {A17_FIELDS:Addr} {d17_FIELDS:Option Addr} {n17_FIELDS:Nat} {sl17_FIELDS:Array (Option Value)}
  {w17_0_FIELDS w17_1_FIELDS w17_2_FIELDS:Tok}
  {tk18_FIELDS:Tok}
  {A18_FIELDS:Addr} {d18_FIELDS:Option Addr} {n18_FIELDS:Nat} {sl18_FIELDS:Array (Option Value)}
  {w18_0_FIELDS:Tok}
  {tk19_FIELDS:Tok}
  {A19_FIELDS:Addr} {d19_FIELDS:Option Addr} {n19_FIELDS:Nat} {sl19_FIELDS:Array (Option Value)}
  {w19_0_FIELDS w19_1_FIELDS:Tok}
  {tk20_FIELDS:Tok}
  {A20_FIELDS:Addr} {d20_FIELDS:Option Addr} {n20_FIELDS:Nat} {sl20_FIELDS:Array (Option Value)}
  {w20_0_FIELDS w20_1_FIELDS:Tok}
  {tk21_FIELDS:Tok}
  {A21_FIELDS:Addr} {d21_FIELDS:Option Addr} {n21_FIELDS:Nat} {sl21_FIELDS:Array (Option Value)}
  (nq_FIELDS:K.lookup A_FIELDS=some { cls:=.type "dict",data:=.dict #[⟨PyData.keyHash w.params "label",.str "label" tk0_FIELDS,.ref A0_FIELDS⟩,⟨PyData.keyHash w.params "set",.str "set" tk1_FIELDS,.ref A1_FIELDS⟩,⟨PyData.keyHash w.params "high",.str "high" tk2_FIELDS,.ref A2_FIELDS⟩,⟨PyData.keyHash w.params "copy",.str "copy" tk3_FIELDS,.ref A3_FIELDS⟩,⟨PyData.keyHash w.params "add",.str "add" tk4_FIELDS,.ref A4_FIELDS⟩,⟨PyData.keyHash w.params "addc",.str "addc" tk5_FIELDS,.ref A5_FIELDS⟩,⟨PyData.keyHash w.params "sub",.str "sub" tk6_FIELDS,.ref A6_FIELDS⟩,⟨PyData.keyHash w.params "subc",.str "subc" tk7_FIELDS,.ref A7_FIELDS⟩,⟨PyData.keyHash w.params "and",.str "and" tk8_FIELDS,.ref A8_FIELDS⟩,⟨PyData.keyHash w.params "or",.str "or" tk9_FIELDS,.ref A9_FIELDS⟩,⟨PyData.keyHash w.params "xor",.str "xor" tk10_FIELDS,.ref A10_FIELDS⟩,⟨PyData.keyHash w.params "test",.str "test" tk11_FIELDS,.ref A11_FIELDS⟩,⟨PyData.keyHash w.params "left",.str "left" tk12_FIELDS,.ref A12_FIELDS⟩,⟨PyData.keyHash w.params "right",.str "right" tk13_FIELDS,.ref A13_FIELDS⟩,⟨PyData.keyHash w.params "load",.str "load" tk14_FIELDS,.ref A14_FIELDS⟩,⟨PyData.keyHash w.params "store",.str "store" tk15_FIELDS,.ref A15_FIELDS⟩,⟨PyData.keyHash w.params "loadw",.str "loadw" tk16_FIELDS,.ref A16_FIELDS⟩,⟨PyData.keyHash w.params "storew",.str "storew" tk17_FIELDS,.ref A17_FIELDS⟩,⟨PyData.keyHash w.params "jump",.str "jump" tk18_FIELDS,.ref A18_FIELDS⟩,⟨PyData.keyHash w.params "when",.str "when" tk19_FIELDS,.ref A19_FIELDS⟩,⟨PyData.keyHash w.params "unless",.str "unless" tk20_FIELDS,.ref A20_FIELDS⟩,⟨PyData.keyHash w.params "stop",.str "stop" tk21_FIELDS,.ref A21_FIELDS⟩] n_FIELDS }) (ns_FIELDS:(A_FIELDS == sysModules)=false)
  (nt0_FIELDS:K.lookup A0_FIELDS=some ⟨.type "tuple",d0_FIELDS,.seq #[.str "name" w0_0_FIELDS] n0_FIELDS,sl0_FIELDS⟩)
  (nt1_FIELDS:K.lookup A1_FIELDS=some ⟨.type "tuple",d1_FIELDS,.seq #[.str "d" w1_0_FIELDS,.str "n" w1_1_FIELDS] n1_FIELDS,sl1_FIELDS⟩)
  (nt2_FIELDS:K.lookup A2_FIELDS=some ⟨.type "tuple",d2_FIELDS,.seq #[.str "d" w2_0_FIELDS,.str "n" w2_1_FIELDS] n2_FIELDS,sl2_FIELDS⟩)
  (nt3_FIELDS:K.lookup A3_FIELDS=some ⟨.type "tuple",d3_FIELDS,.seq #[.str "d" w3_0_FIELDS,.str "s" w3_1_FIELDS] n3_FIELDS,sl3_FIELDS⟩)
  (nt4_FIELDS:K.lookup A4_FIELDS=some ⟨.type "tuple",d4_FIELDS,.seq #[.str "d" w4_0_FIELDS,.str "s" w4_1_FIELDS] n4_FIELDS,sl4_FIELDS⟩)
  (nt5_FIELDS:K.lookup A5_FIELDS=some ⟨.type "tuple",d5_FIELDS,.seq #[.str "d" w5_0_FIELDS,.str "s" w5_1_FIELDS] n5_FIELDS,sl5_FIELDS⟩)
  (nt6_FIELDS:K.lookup A6_FIELDS=some ⟨.type "tuple",d6_FIELDS,.seq #[.str "d" w6_0_FIELDS,.str "s" w6_1_FIELDS] n6_FIELDS,sl6_FIELDS⟩)
  (nt7_FIELDS:K.lookup A7_FIELDS=some ⟨.type "tuple",d7_FIELDS,.seq #[.str "d" w7_0_FIELDS,.str "s" w7_1_FIELDS] n7_FIELDS,sl7_FIELDS⟩)
  (nt8_FIELDS:K.lookup A8_FIELDS=some ⟨.type "tuple",d8_FIELDS,.seq #[.str "d" w8_0_FIELDS,.str "s" w8_1_FIELDS] n8_FIELDS,sl8_FIELDS⟩)
  (nt9_FIELDS:K.lookup A9_FIELDS=some ⟨.type "tuple",d9_FIELDS,.seq #[.str "d" w9_0_FIELDS,.str "s" w9_1_FIELDS] n9_FIELDS,sl9_FIELDS⟩)
  (nt10_FIELDS:K.lookup A10_FIELDS=some ⟨.type "tuple",d10_FIELDS,.seq #[.str "d" w10_0_FIELDS,.str "s" w10_1_FIELDS] n10_FIELDS,sl10_FIELDS⟩)
  (nt11_FIELDS:K.lookup A11_FIELDS=some ⟨.type "tuple",d11_FIELDS,.seq #[.str "d" w11_0_FIELDS,.str "s" w11_1_FIELDS] n11_FIELDS,sl11_FIELDS⟩)
  (nt12_FIELDS:K.lookup A12_FIELDS=some ⟨.type "tuple",d12_FIELDS,.seq #[.str "d" w12_0_FIELDS,.str "n" w12_1_FIELDS] n12_FIELDS,sl12_FIELDS⟩)
  (nt13_FIELDS:K.lookup A13_FIELDS=some ⟨.type "tuple",d13_FIELDS,.seq #[.str "d" w13_0_FIELDS,.str "n" w13_1_FIELDS] n13_FIELDS,sl13_FIELDS⟩)
  (nt14_FIELDS:K.lookup A14_FIELDS=some ⟨.type "tuple",d14_FIELDS,.seq #[.str "d" w14_0_FIELDS,.str "s" w14_1_FIELDS,.str "n" w14_2_FIELDS] n14_FIELDS,sl14_FIELDS⟩)
  (nt15_FIELDS:K.lookup A15_FIELDS=some ⟨.type "tuple",d15_FIELDS,.seq #[.str "d" w15_0_FIELDS,.str "s" w15_1_FIELDS,.str "n" w15_2_FIELDS] n15_FIELDS,sl15_FIELDS⟩)
  (nt16_FIELDS:K.lookup A16_FIELDS=some ⟨.type "tuple",d16_FIELDS,.seq #[.str "d" w16_0_FIELDS,.str "s" w16_1_FIELDS,.str "n" w16_2_FIELDS] n16_FIELDS,sl16_FIELDS⟩)
  (nt17_FIELDS:K.lookup A17_FIELDS=some ⟨.type "tuple",d17_FIELDS,.seq #[.str "d" w17_0_FIELDS,.str "s" w17_1_FIELDS,.str "n" w17_2_FIELDS] n17_FIELDS,sl17_FIELDS⟩)
  (nt18_FIELDS:K.lookup A18_FIELDS=some ⟨.type "tuple",d18_FIELDS,.seq #[.str "name" w18_0_FIELDS] n18_FIELDS,sl18_FIELDS⟩)
  (nt19_FIELDS:K.lookup A19_FIELDS=some ⟨.type "tuple",d19_FIELDS,.seq #[.str "mark" w19_0_FIELDS,.str "name" w19_1_FIELDS] n19_FIELDS,sl19_FIELDS⟩)
  (nt20_FIELDS:K.lookup A20_FIELDS=some ⟨.type "tuple",d20_FIELDS,.seq #[.str "mark" w20_0_FIELDS,.str "name" w20_1_FIELDS] n20_FIELDS,sl20_FIELDS⟩)
  (nt21_FIELDS:K.lookup A21_FIELDS=some ⟨.type "tuple",d21_FIELDS,.seq #[] n21_FIELDS,sl21_FIELDS⟩)
  {A_NUMBER_WIDTHS:Addr} {n_NUMBER_WIDTHS:Nat} (ng_NUMBER_WIDTHS:PySem.W.nsIn K mainGlobals "NUMBER_WIDTHS" = some (some (.ref A_NUMBER_WIDTHS)))
  {tk0_NUMBER_WIDTHS:Tok}
  {tv0_NUMBER_WIDTHS:Tok}
  {tk1_NUMBER_WIDTHS:Tok}
  {tv1_NUMBER_WIDTHS:Tok}
  {tk2_NUMBER_WIDTHS:Tok}
  {tv2_NUMBER_WIDTHS:Tok}
  {tk3_NUMBER_WIDTHS:Tok}
  {tv3_NUMBER_WIDTHS:Tok}
  {tk4_NUMBER_WIDTHS:Tok}
  {tv4_NUMBER_WIDTHS:Tok}
  {tk5_NUMBER_WIDTHS:Tok}
  {tv5_NUMBER_WIDTHS:Tok}
  {tk6_NUMBER_WIDTHS:Tok}
  {tv6_NUMBER_WIDTHS:Tok}
  {tk7_NUMBER_WIDTHS:Tok}
  {tv7_NUMBER_WIDTHS:Tok}
  (nq_NUMBER_WIDTHS:K.lookup A_NUMBER_WIDTHS=some { cls:=.type "dict",data:=.dict #[⟨PyData.keyHash w.params "set",.str "set" tk0_NUMBER_WIDTHS,.int 16 tv0_NUMBER_WIDTHS⟩,⟨PyData.keyHash w.params "high",.str "high" tk1_NUMBER_WIDTHS,.int 16 tv1_NUMBER_WIDTHS⟩,⟨PyData.keyHash w.params "left",.str "left" tk2_NUMBER_WIDTHS,.int 5 tv2_NUMBER_WIDTHS⟩,⟨PyData.keyHash w.params "right",.str "right" tk3_NUMBER_WIDTHS,.int 5 tv3_NUMBER_WIDTHS⟩,⟨PyData.keyHash w.params "load",.str "load" tk4_NUMBER_WIDTHS,.int 8 tv4_NUMBER_WIDTHS⟩,⟨PyData.keyHash w.params "store",.str "store" tk5_NUMBER_WIDTHS,.int 8 tv5_NUMBER_WIDTHS⟩,⟨PyData.keyHash w.params "loadw",.str "loadw" tk6_NUMBER_WIDTHS,.int 8 tv6_NUMBER_WIDTHS⟩,⟨PyData.keyHash w.params "storew",.str "storew" tk7_NUMBER_WIDTHS,.int 8 tv7_NUMBER_WIDTHS⟩] n_NUMBER_WIDTHS }) (ns_NUMBER_WIDTHS:(A_NUMBER_WIDTHS == sysModules)=false)
  {tg_NUMBER_LOW:Tok} (ng_NUMBER_LOW:PySem.W.nsIn K mainGlobals "NUMBER_LOW" = some (some (.int 0 tg_NUMBER_LOW)))
  {A_PLACES:Addr} {n_PLACES:Nat} (ng_PLACES:PySem.W.nsIn K mainGlobals "PLACES" = some (some (.ref A_PLACES)))
  {tk0_PLACES:Tok}
  {A0_PLACES:Addr} {d0_PLACES:Option Addr} {n0_PLACES:Nat} {sl0_PLACES:Array (Option Value)}
  {w0_0_PLACES w0_1_PLACES:Tok}
  {tk1_PLACES:Tok}
  {A1_PLACES:Addr} {d1_PLACES:Option Addr} {n1_PLACES:Nat} {sl1_PLACES:Array (Option Value)}
  {w1_0_PLACES w1_1_PLACES:Tok}
  {tk2_PLACES:Tok}
  {A2_PLACES:Addr} {d2_PLACES:Option Addr} {n2_PLACES:Nat} {sl2_PLACES:Array (Option Value)}
  {w2_0_PLACES w2_1_PLACES:Tok}
  {tk3_PLACES:Tok}
  {A3_PLACES:Addr} {d3_PLACES:Option Addr} {n3_PLACES:Nat} {sl3_PLACES:Array (Option Value)}
  {w3_0_PLACES w3_1_PLACES:Tok}
  {tk4_PLACES:Tok}
  {A4_PLACES:Addr} {d4_PLACES:Option Addr} {n4_PLACES:Nat} {sl4_PLACES:Array (Option Value)}
  {w4_0_PLACES w4_1_PLACES:Tok}
  (nq_PLACES:K.lookup A_PLACES=some { cls:=.type "dict",data:=.dict #[⟨PyData.keyHash w.params "kind",.str "kind" tk0_PLACES,.ref A0_PLACES⟩,⟨PyData.keyHash w.params "d",.str "d" tk1_PLACES,.ref A1_PLACES⟩,⟨PyData.keyHash w.params "s",.str "s" tk2_PLACES,.ref A2_PLACES⟩,⟨PyData.keyHash w.params "mark",.str "mark" tk3_PLACES,.ref A3_PLACES⟩,⟨PyData.keyHash w.params "distance",.str "distance" tk4_PLACES,.ref A4_PLACES⟩] n_PLACES }) (ns_PLACES:(A_PLACES == sysModules)=false)
  (nt0_PLACES:K.lookup A0_PLACES=some ⟨.type "tuple",d0_PLACES,.seq #[.int 27 w0_0_PLACES,.int 5 w0_1_PLACES] n0_PLACES,sl0_PLACES⟩)
  (nt1_PLACES:K.lookup A1_PLACES=some ⟨.type "tuple",d1_PLACES,.seq #[.int 24 w1_0_PLACES,.int 3 w1_1_PLACES] n1_PLACES,sl1_PLACES⟩)
  (nt2_PLACES:K.lookup A2_PLACES=some ⟨.type "tuple",d2_PLACES,.seq #[.int 21 w2_0_PLACES,.int 3 w2_1_PLACES] n2_PLACES,sl2_PLACES⟩)
  (nt3_PLACES:K.lookup A3_PLACES=some ⟨.type "tuple",d3_PLACES,.seq #[.int 24 w3_0_PLACES,.int 2 w3_1_PLACES] n3_PLACES,sl3_PLACES⟩)
  (nt4_PLACES:K.lookup A4_PLACES=some ⟨.type "tuple",d4_PLACES,.seq #[.int 0 w4_0_PLACES,.int 5 w4_1_PLACES] n4_PLACES,sl4_PLACES⟩)
  {A_MARKS:Addr} {n_MARKS:Nat} {sl_MARKS:Array (Option Value)} {u0_MARKS u1_MARKS u2_MARKS:Tok} (ng_MARKS:PySem.W.nsIn K mainGlobals "MARKS" = some (some (.ref A_MARKS)))
  (nq_MARKS:K.lookup A_MARKS=some ⟨.type "tuple",none,.seq #[.str "carry" u0_MARKS,.str "nought" u1_MARKS,.str "sign" u2_MARKS] n_MARKS,sl_MARKS⟩)
  {A_CODES:Addr} {n_CODES:Nat} (ng_CODES:PySem.W.nsIn K mainGlobals "CODES" = some (some (.ref A_CODES)))
  {tk0_CODES:Tok}
  {tv0_CODES:Tok}
  {tk1_CODES:Tok}
  {tv1_CODES:Tok}
  {tk2_CODES:Tok}
  {tv2_CODES:Tok}
  {tk3_CODES:Tok}
  {tv3_CODES:Tok}
  {tk4_CODES:Tok}
  {tv4_CODES:Tok}
  {tk5_CODES:Tok}
  {tv5_CODES:Tok}
  {tk6_CODES:Tok}
  {tv6_CODES:Tok}
  {tk7_CODES:Tok}
  {tv7_CODES:Tok}
  {tk8_CODES:Tok}
  {tv8_CODES:Tok}
  {tk9_CODES:Tok}
  {tv9_CODES:Tok}
  {tk10_CODES:Tok}
  {tv10_CODES:Tok}
  {tk11_CODES:Tok}
  {tv11_CODES:Tok}
  {tk12_CODES:Tok}
  {tv12_CODES:Tok}
  {tk13_CODES:Tok}
  {tv13_CODES:Tok}
  {tk14_CODES:Tok}
  {tv14_CODES:Tok}
  {tk15_CODES:Tok}
  {tv15_CODES:Tok}
  {tk16_CODES:Tok}
  {tv16_CODES:Tok}
  {tk17_CODES:Tok}
  {tv17_CODES:Tok}
  (nq_CODES:K.lookup A_CODES=some { cls:=.type "dict",data:=.dict #[⟨PyData.keyHash w.params "stop",.str "stop" tk0_CODES,.int 0 tv0_CODES⟩,⟨PyData.keyHash w.params "set",.str "set" tk1_CODES,.int 1 tv1_CODES⟩,⟨PyData.keyHash w.params "high",.str "high" tk2_CODES,.int 2 tv2_CODES⟩,⟨PyData.keyHash w.params "copy",.str "copy" tk3_CODES,.int 3 tv3_CODES⟩,⟨PyData.keyHash w.params "add",.str "add" tk4_CODES,.int 4 tv4_CODES⟩,⟨PyData.keyHash w.params "addc",.str "addc" tk5_CODES,.int 5 tv5_CODES⟩,⟨PyData.keyHash w.params "sub",.str "sub" tk6_CODES,.int 6 tv6_CODES⟩,⟨PyData.keyHash w.params "subc",.str "subc" tk7_CODES,.int 7 tv7_CODES⟩,⟨PyData.keyHash w.params "and",.str "and" tk8_CODES,.int 8 tv8_CODES⟩,⟨PyData.keyHash w.params "or",.str "or" tk9_CODES,.int 9 tv9_CODES⟩,⟨PyData.keyHash w.params "xor",.str "xor" tk10_CODES,.int 10 tv10_CODES⟩,⟨PyData.keyHash w.params "test",.str "test" tk11_CODES,.int 11 tv11_CODES⟩,⟨PyData.keyHash w.params "left",.str "left" tk12_CODES,.int 12 tv12_CODES⟩,⟨PyData.keyHash w.params "right",.str "right" tk13_CODES,.int 13 tv13_CODES⟩,⟨PyData.keyHash w.params "load",.str "load" tk14_CODES,.int 14 tv14_CODES⟩,⟨PyData.keyHash w.params "store",.str "store" tk15_CODES,.int 15 tv15_CODES⟩,⟨PyData.keyHash w.params "loadw",.str "loadw" tk16_CODES,.int 16 tv16_CODES⟩,⟨PyData.keyHash w.params "storew",.str "storew" tk17_CODES,.int 17 tv17_CODES⟩] n_CODES }) (ns_CODES:(A_CODES == sysModules)=false)
  {A_NEAR_CODES:Addr} {n_NEAR_CODES:Nat} (ng_NEAR_CODES:PySem.W.nsIn K mainGlobals "NEAR_CODES" = some (some (.ref A_NEAR_CODES)))
  {tk0_NEAR_CODES:Tok}
  {tv0_NEAR_CODES:Tok}
  {tk1_NEAR_CODES:Tok}
  {tv1_NEAR_CODES:Tok}
  {tk2_NEAR_CODES:Tok}
  {tv2_NEAR_CODES:Tok}
  (nq_NEAR_CODES:K.lookup A_NEAR_CODES=some { cls:=.type "dict",data:=.dict #[⟨PyData.keyHash w.params "jump",.str "jump" tk0_NEAR_CODES,.int 18 tv0_NEAR_CODES⟩,⟨PyData.keyHash w.params "when",.str "when" tk1_NEAR_CODES,.int 19 tv1_NEAR_CODES⟩,⟨PyData.keyHash w.params "unless",.str "unless" tk2_NEAR_CODES,.int 20 tv2_NEAR_CODES⟩] n_NEAR_CODES }) (ns_NEAR_CODES:(A_NEAR_CODES == sysModules)=false)
  {A_FAR_CODES:Addr} {n_FAR_CODES:Nat} (ng_FAR_CODES:PySem.W.nsIn K mainGlobals "FAR_CODES" = some (some (.ref A_FAR_CODES)))
  {tk0_FAR_CODES:Tok}
  {tv0_FAR_CODES:Tok}
  {tk1_FAR_CODES:Tok}
  {tv1_FAR_CODES:Tok}
  {tk2_FAR_CODES:Tok}
  {tv2_FAR_CODES:Tok}
  (nq_FAR_CODES:K.lookup A_FAR_CODES=some { cls:=.type "dict",data:=.dict #[⟨PyData.keyHash w.params "jump",.str "jump" tk0_FAR_CODES,.int 21 tv0_FAR_CODES⟩,⟨PyData.keyHash w.params "when",.str "when" tk1_FAR_CODES,.int 22 tv1_FAR_CODES⟩,⟨PyData.keyHash w.params "unless",.str "unless" tk2_FAR_CODES,.int 23 tv2_FAR_CODES⟩] n_FAR_CODES }) (ns_FAR_CODES:(A_FAR_CODES == sysModules)=false)
  {tg_WORD_BITS:Tok} (ng_WORD_BITS:PySem.W.nsIn K mainGlobals "WORD_BITS" = some (some (.int 32 tg_WORD_BITS)))
  {tg_ADDRESS_SIGNS:Tok} (ng_ADDRESS_SIGNS:PySem.W.nsIn K mainGlobals "ADDRESS_SIGNS" = some (some (.int 5 tg_ADDRESS_SIGNS)))
  : ∃ fd:FuncData,(∀ (s:Shared) (v:Value),BindsTo s fd ⟨[v],[]⟩ [("_law_script",v)])/\∀ base:Heap,K.In base->base.Ns mainGlobals mg->vk l.prog w K mg base vP 11 fa fd ["_law_script"] (kj K):=by
 have e:=hfa.symm.trans (PySem.W.mg_of X G a50)
 cases e
 have z_str:mg "str" = none:=PySem.W.mg_none_of X G nz_str
 have z_zip:mg "zip" = none:=PySem.W.mg_none_of X G nz_zip
 have z_list:mg "list" = none:=PySem.W.mg_none_of X G nz_list
 have yK:mg "len" = none:=PySem.W.mg_none_of X G nz_len
 have z_tuple:mg "tuple" = none:=PySem.W.mg_none_of X G nz_tuple
 have z_max:mg "max" = none:=PySem.W.mg_none_of X G nz_max
 have z_enumerate:mg "enumerate" = none:=PySem.W.mg_none_of X G nz_enumerate
 have z_range:mg "range" = none:=PySem.W.mg_none_of X G nz_range
 have z_min:mg "min" = none:=PySem.W.mg_none_of X G nz_min
 have z_sorted:mg "sorted" = none:=PySem.W.mg_none_of X G nz_sorted
 have z_int:mg "int" = none:=PySem.W.mg_none_of X G nz_int
 have z_isinstance:mg "isinstance" = none:=PySem.W.mg_none_of X G nz_isinstance
 have k_SIGN_LOWS:Z6 K A_SIGN_LOWS:=⟨_,nq_SIGN_LOWS,rfl,rfl⟩
 have g_SIGN_LOWS:yt mg "SIGN_LOWS" (.ref A_SIGN_LOWS):=⟨_,PySem.W.mg_of X G ng_SIGN_LOWS,rfl⟩
 have q_SIGN_LOWS:∀ H,zZ K H Zo (.ref A_SIGN_LOWS):=fun H=>⟨A_SIGN_LOWS,_,rfl,xE (xs:=[.int 28,.int 24,.int 20,.int 16,.int 12,.int 8,.int 4,.int 0]) nq_SIGN_LOWS (by show (8:Nat)<=sizeLine; decide) (.cons ⟨_,rfl⟩ (.cons ⟨_,rfl⟩ (.cons ⟨_,rfl⟩ (.cons ⟨_,rfl⟩ (.cons ⟨_,rfl⟩ (.cons ⟨_,rfl⟩ (.cons ⟨_,rfl⟩ (.cons ⟨_,rfl⟩ .nil)))))))) H,⟨_,_,rfl,rfl,⟨_,_,rfl,rfl,⟨_,_,rfl,rfl,⟨_,_,rfl,rfl,⟨_,_,rfl,rfl,⟨_,_,rfl,rfl,⟨_,_,rfl,rfl,⟨_,_,rfl,rfl,rfl⟩⟩⟩⟩⟩⟩⟩⟩,small (by decide)⟩
 have g_SIGNS:yt mg "SIGNS" (.str "0123456789abcdef"):=⟨_,PySem.W.mg_of X G ng_SIGNS,⟨_,rfl⟩⟩
 have q_SIGNS:∀ H,zZ K H (.str "0123456789abcdef") (.str "0123456789abcdef"):=fun _=>⟨rfl,small (by decide)⟩
 have g_FIELDS:yt mg "FIELDS" (.ref A_FIELDS):=⟨_,PySem.W.mg_of X G ng_FIELDS,rfl⟩
 have q_FIELDS:wg K w A_FIELDS ul um:=jI (us:=[.ref A0_FIELDS,.ref A1_FIELDS,.ref A2_FIELDS,.ref A3_FIELDS,.ref A4_FIELDS,.ref A5_FIELDS,.ref A6_FIELDS,.ref A7_FIELDS,.ref A8_FIELDS,.ref A9_FIELDS,.ref A10_FIELDS,.ref A11_FIELDS,.ref A12_FIELDS,.ref A13_FIELDS,.ref A14_FIELDS,.ref A15_FIELDS,.ref A16_FIELDS,.ref A17_FIELDS,.ref A18_FIELDS,.ref A19_FIELDS,.ref A20_FIELDS,.ref A21_FIELDS]) nq_FIELDS (.cons (.cons (.cons (.cons (.cons (.cons (.cons (.cons (.cons (.cons (.cons (.cons (.cons (.cons (.cons (.cons (.cons (.cons (.cons (.cons (.cons (.cons .nil)))))))))))))))))))))) (by decide +kernel) ns_FIELDS (.cons rfl (.cons rfl (.cons rfl (.cons rfl (.cons rfl (.cons rfl (.cons rfl (.cons rfl (.cons rfl (.cons rfl (.cons rfl (.cons rfl (.cons rfl (.cons rfl (.cons rfl (.cons rfl (.cons rfl (.cons rfl (.cons rfl (.cons rfl (.cons rfl (.cons rfl .nil)))))))))))))))))))))) fun H=>⟨_,_,rfl,⟨A0_FIELDS,_,rfl,xE (xs:=[.str "name"]) nt0_FIELDS (by show (1:Nat)<=sizeLine; decide) (.cons ⟨_,rfl⟩ .nil) H,⟨_,_,rfl,⟨rfl,small (by decide)⟩,rfl⟩,small (by decide)⟩,⟨_,_,rfl,⟨A1_FIELDS,_,rfl,xE (xs:=[.str "d",.str "n"]) nt1_FIELDS (by show (2:Nat)<=sizeLine; decide) (.cons ⟨_,rfl⟩ (.cons ⟨_,rfl⟩ .nil)) H,⟨_,_,rfl,⟨rfl,small (by decide)⟩,⟨_,_,rfl,⟨rfl,small (by decide)⟩,rfl⟩⟩,small (by decide)⟩,⟨_,_,rfl,⟨A2_FIELDS,_,rfl,xE (xs:=[.str "d",.str "n"]) nt2_FIELDS (by show (2:Nat)<=sizeLine; decide) (.cons ⟨_,rfl⟩ (.cons ⟨_,rfl⟩ .nil)) H,⟨_,_,rfl,⟨rfl,small (by decide)⟩,⟨_,_,rfl,⟨rfl,small (by decide)⟩,rfl⟩⟩,small (by decide)⟩,⟨_,_,rfl,⟨A3_FIELDS,_,rfl,xE (xs:=[.str "d",.str "s"]) nt3_FIELDS (by show (2:Nat)<=sizeLine; decide) (.cons ⟨_,rfl⟩ (.cons ⟨_,rfl⟩ .nil)) H,⟨_,_,rfl,⟨rfl,small (by decide)⟩,⟨_,_,rfl,⟨rfl,small (by decide)⟩,rfl⟩⟩,small (by decide)⟩,⟨_,_,rfl,⟨A4_FIELDS,_,rfl,xE (xs:=[.str "d",.str "s"]) nt4_FIELDS (by show (2:Nat)<=sizeLine; decide) (.cons ⟨_,rfl⟩ (.cons ⟨_,rfl⟩ .nil)) H,⟨_,_,rfl,⟨rfl,small (by decide)⟩,⟨_,_,rfl,⟨rfl,small (by decide)⟩,rfl⟩⟩,small (by decide)⟩,⟨_,_,rfl,⟨A5_FIELDS,_,rfl,xE (xs:=[.str "d",.str "s"]) nt5_FIELDS (by show (2:Nat)<=sizeLine; decide) (.cons ⟨_,rfl⟩ (.cons ⟨_,rfl⟩ .nil)) H,⟨_,_,rfl,⟨rfl,small (by decide)⟩,⟨_,_,rfl,⟨rfl,small (by decide)⟩,rfl⟩⟩,small (by decide)⟩,⟨_,_,rfl,⟨A6_FIELDS,_,rfl,xE (xs:=[.str "d",.str "s"]) nt6_FIELDS (by show (2:Nat)<=sizeLine; decide) (.cons ⟨_,rfl⟩ (.cons ⟨_,rfl⟩ .nil)) H,⟨_,_,rfl,⟨rfl,small (by decide)⟩,⟨_,_,rfl,⟨rfl,small (by decide)⟩,rfl⟩⟩,small (by decide)⟩,⟨_,_,rfl,⟨A7_FIELDS,_,rfl,xE (xs:=[.str "d",.str "s"]) nt7_FIELDS (by show (2:Nat)<=sizeLine; decide) (.cons ⟨_,rfl⟩ (.cons ⟨_,rfl⟩ .nil)) H,⟨_,_,rfl,⟨rfl,small (by decide)⟩,⟨_,_,rfl,⟨rfl,small (by decide)⟩,rfl⟩⟩,small (by decide)⟩,⟨_,_,rfl,⟨A8_FIELDS,_,rfl,xE (xs:=[.str "d",.str "s"]) nt8_FIELDS (by show (2:Nat)<=sizeLine; decide) (.cons ⟨_,rfl⟩ (.cons ⟨_,rfl⟩ .nil)) H,⟨_,_,rfl,⟨rfl,small (by decide)⟩,⟨_,_,rfl,⟨rfl,small (by decide)⟩,rfl⟩⟩,small (by decide)⟩,⟨_,_,rfl,⟨A9_FIELDS,_,rfl,xE (xs:=[.str "d",.str "s"]) nt9_FIELDS (by show (2:Nat)<=sizeLine; decide) (.cons ⟨_,rfl⟩ (.cons ⟨_,rfl⟩ .nil)) H,⟨_,_,rfl,⟨rfl,small (by decide)⟩,⟨_,_,rfl,⟨rfl,small (by decide)⟩,rfl⟩⟩,small (by decide)⟩,⟨_,_,rfl,⟨A10_FIELDS,_,rfl,xE (xs:=[.str "d",.str "s"]) nt10_FIELDS (by show (2:Nat)<=sizeLine; decide) (.cons ⟨_,rfl⟩ (.cons ⟨_,rfl⟩ .nil)) H,⟨_,_,rfl,⟨rfl,small (by decide)⟩,⟨_,_,rfl,⟨rfl,small (by decide)⟩,rfl⟩⟩,small (by decide)⟩,⟨_,_,rfl,⟨A11_FIELDS,_,rfl,xE (xs:=[.str "d",.str "s"]) nt11_FIELDS (by show (2:Nat)<=sizeLine; decide) (.cons ⟨_,rfl⟩ (.cons ⟨_,rfl⟩ .nil)) H,⟨_,_,rfl,⟨rfl,small (by decide)⟩,⟨_,_,rfl,⟨rfl,small (by decide)⟩,rfl⟩⟩,small (by decide)⟩,⟨_,_,rfl,⟨A12_FIELDS,_,rfl,xE (xs:=[.str "d",.str "n"]) nt12_FIELDS (by show (2:Nat)<=sizeLine; decide) (.cons ⟨_,rfl⟩ (.cons ⟨_,rfl⟩ .nil)) H,⟨_,_,rfl,⟨rfl,small (by decide)⟩,⟨_,_,rfl,⟨rfl,small (by decide)⟩,rfl⟩⟩,small (by decide)⟩,⟨_,_,rfl,⟨A13_FIELDS,_,rfl,xE (xs:=[.str "d",.str "n"]) nt13_FIELDS (by show (2:Nat)<=sizeLine; decide) (.cons ⟨_,rfl⟩ (.cons ⟨_,rfl⟩ .nil)) H,⟨_,_,rfl,⟨rfl,small (by decide)⟩,⟨_,_,rfl,⟨rfl,small (by decide)⟩,rfl⟩⟩,small (by decide)⟩,⟨_,_,rfl,⟨A14_FIELDS,_,rfl,xE (xs:=[.str "d",.str "s",.str "n"]) nt14_FIELDS (by show (3:Nat)<=sizeLine; decide) (.cons ⟨_,rfl⟩ (.cons ⟨_,rfl⟩ (.cons ⟨_,rfl⟩ .nil))) H,⟨_,_,rfl,⟨rfl,small (by decide)⟩,⟨_,_,rfl,⟨rfl,small (by decide)⟩,⟨_,_,rfl,⟨rfl,small (by decide)⟩,rfl⟩⟩⟩,small (by decide)⟩,⟨_,_,rfl,⟨A15_FIELDS,_,rfl,xE (xs:=[.str "d",.str "s",.str "n"]) nt15_FIELDS (by show (3:Nat)<=sizeLine; decide) (.cons ⟨_,rfl⟩ (.cons ⟨_,rfl⟩ (.cons ⟨_,rfl⟩ .nil))) H,⟨_,_,rfl,⟨rfl,small (by decide)⟩,⟨_,_,rfl,⟨rfl,small (by decide)⟩,⟨_,_,rfl,⟨rfl,small (by decide)⟩,rfl⟩⟩⟩,small (by decide)⟩,⟨_,_,rfl,⟨A16_FIELDS,_,rfl,xE (xs:=[.str "d",.str "s",.str "n"]) nt16_FIELDS (by show (3:Nat)<=sizeLine; decide) (.cons ⟨_,rfl⟩ (.cons ⟨_,rfl⟩ (.cons ⟨_,rfl⟩ .nil))) H,⟨_,_,rfl,⟨rfl,small (by decide)⟩,⟨_,_,rfl,⟨rfl,small (by decide)⟩,⟨_,_,rfl,⟨rfl,small (by decide)⟩,rfl⟩⟩⟩,small (by decide)⟩,⟨_,_,rfl,⟨A17_FIELDS,_,rfl,xE (xs:=[.str "d",.str "s",.str "n"]) nt17_FIELDS (by show (3:Nat)<=sizeLine; decide) (.cons ⟨_,rfl⟩ (.cons ⟨_,rfl⟩ (.cons ⟨_,rfl⟩ .nil))) H,⟨_,_,rfl,⟨rfl,small (by decide)⟩,⟨_,_,rfl,⟨rfl,small (by decide)⟩,⟨_,_,rfl,⟨rfl,small (by decide)⟩,rfl⟩⟩⟩,small (by decide)⟩,⟨_,_,rfl,⟨A18_FIELDS,_,rfl,xE (xs:=[.str "name"]) nt18_FIELDS (by show (1:Nat)<=sizeLine; decide) (.cons ⟨_,rfl⟩ .nil) H,⟨_,_,rfl,⟨rfl,small (by decide)⟩,rfl⟩,small (by decide)⟩,⟨_,_,rfl,⟨A19_FIELDS,_,rfl,xE (xs:=[.str "mark",.str "name"]) nt19_FIELDS (by show (2:Nat)<=sizeLine; decide) (.cons ⟨_,rfl⟩ (.cons ⟨_,rfl⟩ .nil)) H,⟨_,_,rfl,⟨rfl,small (by decide)⟩,⟨_,_,rfl,⟨rfl,small (by decide)⟩,rfl⟩⟩,small (by decide)⟩,⟨_,_,rfl,⟨A20_FIELDS,_,rfl,xE (xs:=[.str "mark",.str "name"]) nt20_FIELDS (by show (2:Nat)<=sizeLine; decide) (.cons ⟨_,rfl⟩ (.cons ⟨_,rfl⟩ .nil)) H,⟨_,_,rfl,⟨rfl,small (by decide)⟩,⟨_,_,rfl,⟨rfl,small (by decide)⟩,rfl⟩⟩,small (by decide)⟩,⟨_,_,rfl,⟨A21_FIELDS,_,rfl,xE (xs:=[]) nt21_FIELDS (by show (0:Nat)<=sizeLine; decide) .nil H,rfl,small (by decide)⟩,rfl⟩⟩⟩⟩⟩⟩⟩⟩⟩⟩⟩⟩⟩⟩⟩⟩⟩⟩⟩⟩⟩⟩
 have g_NUMBER_WIDTHS:yt mg "NUMBER_WIDTHS" (.ref A_NUMBER_WIDTHS):=⟨_,PySem.W.mg_of X G ng_NUMBER_WIDTHS,rfl⟩
 have q_NUMBER_WIDTHS:wg K w A_NUMBER_WIDTHS Wt Wx:=jI (us:=[.int 16,.int 16,.int 5,.int 5,.int 8,.int 8,.int 8,.int 8]) nq_NUMBER_WIDTHS (.cons (.cons (.cons (.cons (.cons (.cons (.cons (.cons .nil)))))))) (by decide +kernel) ns_NUMBER_WIDTHS (.cons ⟨_,rfl⟩ (.cons ⟨_,rfl⟩ (.cons ⟨_,rfl⟩ (.cons ⟨_,rfl⟩ (.cons ⟨_,rfl⟩ (.cons ⟨_,rfl⟩ (.cons ⟨_,rfl⟩ (.cons ⟨_,rfl⟩ .nil)))))))) fun H=>⟨_,_,rfl,rfl,⟨_,_,rfl,rfl,⟨_,_,rfl,rfl,⟨_,_,rfl,rfl,⟨_,_,rfl,rfl,⟨_,_,rfl,rfl,⟨_,_,rfl,rfl,⟨_,_,rfl,rfl,rfl⟩⟩⟩⟩⟩⟩⟩⟩
 have g_NUMBER_LOW:yt mg "NUMBER_LOW" (.int 0):=⟨_,PySem.W.mg_of X G ng_NUMBER_LOW,⟨_,rfl⟩⟩
 have q_NUMBER_LOW:∀ H,zZ K H (.int 0) (.int 0):=fun _=>rfl
 have g_PLACES:yt mg "PLACES" (.ref A_PLACES):=⟨_,PySem.W.mg_of X G ng_PLACES,rfl⟩
 have q_PLACES:wg K w A_PLACES wq wt:=jI (us:=[.ref A0_PLACES,.ref A1_PLACES,.ref A2_PLACES,.ref A3_PLACES,.ref A4_PLACES]) nq_PLACES (.cons (.cons (.cons (.cons (.cons .nil))))) (by decide +kernel) ns_PLACES (.cons rfl (.cons rfl (.cons rfl (.cons rfl (.cons rfl .nil))))) fun H=>⟨_,_,rfl,⟨A0_PLACES,_,rfl,xE (xs:=[.int 27,.int 5]) nt0_PLACES (by show (2:Nat)<=sizeLine; decide) (.cons ⟨_,rfl⟩ (.cons ⟨_,rfl⟩ .nil)) H,⟨_,_,rfl,rfl,⟨_,_,rfl,rfl,rfl⟩⟩,small (by decide)⟩,⟨_,_,rfl,⟨A1_PLACES,_,rfl,xE (xs:=[.int 24,.int 3]) nt1_PLACES (by show (2:Nat)<=sizeLine; decide) (.cons ⟨_,rfl⟩ (.cons ⟨_,rfl⟩ .nil)) H,⟨_,_,rfl,rfl,⟨_,_,rfl,rfl,rfl⟩⟩,small (by decide)⟩,⟨_,_,rfl,⟨A2_PLACES,_,rfl,xE (xs:=[.int 21,.int 3]) nt2_PLACES (by show (2:Nat)<=sizeLine; decide) (.cons ⟨_,rfl⟩ (.cons ⟨_,rfl⟩ .nil)) H,⟨_,_,rfl,rfl,⟨_,_,rfl,rfl,rfl⟩⟩,small (by decide)⟩,⟨_,_,rfl,⟨A3_PLACES,_,rfl,xE (xs:=[.int 24,.int 2]) nt3_PLACES (by show (2:Nat)<=sizeLine; decide) (.cons ⟨_,rfl⟩ (.cons ⟨_,rfl⟩ .nil)) H,⟨_,_,rfl,rfl,⟨_,_,rfl,rfl,rfl⟩⟩,small (by decide)⟩,⟨_,_,rfl,⟨A4_PLACES,_,rfl,xE (xs:=[.int 0,.int 5]) nt4_PLACES (by show (2:Nat)<=sizeLine; decide) (.cons ⟨_,rfl⟩ (.cons ⟨_,rfl⟩ .nil)) H,⟨_,_,rfl,rfl,⟨_,_,rfl,rfl,rfl⟩⟩,small (by decide)⟩,rfl⟩⟩⟩⟩⟩
 have k_MARKS:Z6 K A_MARKS:=⟨_,nq_MARKS,rfl,rfl⟩
 have g_MARKS:yt mg "MARKS" (.ref A_MARKS):=⟨_,PySem.W.mg_of X G ng_MARKS,rfl⟩
 have q_MARKS:∀ H,zZ K H p8 (.ref A_MARKS):=fun H=>⟨A_MARKS,_,rfl,xE (xs:=[.str "carry",.str "nought",.str "sign"]) nq_MARKS (by show (3:Nat)<=sizeLine; decide) (.cons ⟨_,rfl⟩ (.cons ⟨_,rfl⟩ (.cons ⟨_,rfl⟩ .nil))) H,⟨_,_,rfl,⟨rfl,small (by decide)⟩,⟨_,_,rfl,⟨rfl,small (by decide)⟩,⟨_,_,rfl,⟨rfl,small (by decide)⟩,rfl⟩⟩⟩,small (by decide)⟩
 have g_CODES:yt mg "CODES" (.ref A_CODES):=⟨_,PySem.W.mg_of X G ng_CODES,rfl⟩
 have e_CODES:vn K w A_CODES uk gw:=Ws (us:=gw) nq_CODES (.cons (.cons (.cons (.cons (.cons (.cons (.cons (.cons (.cons (.cons (.cons (.cons (.cons (.cons (.cons (.cons (.cons (.cons .nil)))))))))))))))))) (by decide +kernel) ns_CODES (.cons ⟨_,rfl⟩ (.cons ⟨_,rfl⟩ (.cons ⟨_,rfl⟩ (.cons ⟨_,rfl⟩ (.cons ⟨_,rfl⟩ (.cons ⟨_,rfl⟩ (.cons ⟨_,rfl⟩ (.cons ⟨_,rfl⟩ (.cons ⟨_,rfl⟩ (.cons ⟨_,rfl⟩ (.cons ⟨_,rfl⟩ (.cons ⟨_,rfl⟩ (.cons ⟨_,rfl⟩ (.cons ⟨_,rfl⟩ (.cons ⟨_,rfl⟩ (.cons ⟨_,rfl⟩ (.cons ⟨_,rfl⟩ (.cons ⟨_,rfl⟩ .nil))))))))))))))))))
 have r_CODES:∀ H,Reps K H tH gw:=fun H=>⟨_,_,rfl,rfl,⟨_,_,rfl,rfl,⟨_,_,rfl,rfl,⟨_,_,rfl,rfl,⟨_,_,rfl,rfl,⟨_,_,rfl,rfl,⟨_,_,rfl,rfl,⟨_,_,rfl,rfl,⟨_,_,rfl,rfl,⟨_,_,rfl,rfl,⟨_,_,rfl,rfl,⟨_,_,rfl,rfl,⟨_,_,rfl,rfl,⟨_,_,rfl,rfl,⟨_,_,rfl,rfl,⟨_,_,rfl,rfl,⟨_,_,rfl,rfl,⟨_,_,rfl,rfl,rfl⟩⟩⟩⟩⟩⟩⟩⟩⟩⟩⟩⟩⟩⟩⟩⟩⟩⟩
 have q_CODES:wg K w A_CODES uk tH:=jI (us:=[.int 0,.int 1,.int 2,.int 3,.int 4,.int 5,.int 6,.int 7,.int 8,.int 9,.int 10,.int 11,.int 12,.int 13,.int 14,.int 15,.int 16,.int 17]) nq_CODES (.cons (.cons (.cons (.cons (.cons (.cons (.cons (.cons (.cons (.cons (.cons (.cons (.cons (.cons (.cons (.cons (.cons (.cons .nil)))))))))))))))))) (by decide +kernel) ns_CODES (.cons ⟨_,rfl⟩ (.cons ⟨_,rfl⟩ (.cons ⟨_,rfl⟩ (.cons ⟨_,rfl⟩ (.cons ⟨_,rfl⟩ (.cons ⟨_,rfl⟩ (.cons ⟨_,rfl⟩ (.cons ⟨_,rfl⟩ (.cons ⟨_,rfl⟩ (.cons ⟨_,rfl⟩ (.cons ⟨_,rfl⟩ (.cons ⟨_,rfl⟩ (.cons ⟨_,rfl⟩ (.cons ⟨_,rfl⟩ (.cons ⟨_,rfl⟩ (.cons ⟨_,rfl⟩ (.cons ⟨_,rfl⟩ (.cons ⟨_,rfl⟩ .nil)))))))))))))))))) fun H=>⟨_,_,rfl,rfl,⟨_,_,rfl,rfl,⟨_,_,rfl,rfl,⟨_,_,rfl,rfl,⟨_,_,rfl,rfl,⟨_,_,rfl,rfl,⟨_,_,rfl,rfl,⟨_,_,rfl,rfl,⟨_,_,rfl,rfl,⟨_,_,rfl,rfl,⟨_,_,rfl,rfl,⟨_,_,rfl,rfl,⟨_,_,rfl,rfl,⟨_,_,rfl,rfl,⟨_,_,rfl,rfl,⟨_,_,rfl,rfl,⟨_,_,rfl,rfl,⟨_,_,rfl,rfl,rfl⟩⟩⟩⟩⟩⟩⟩⟩⟩⟩⟩⟩⟩⟩⟩⟩⟩⟩
 have g_NEAR_CODES:yt mg "NEAR_CODES" (.ref A_NEAR_CODES):=⟨_,PySem.W.mg_of X G ng_NEAR_CODES,rfl⟩
 have e_NEAR_CODES:vn K w A_NEAR_CODES q_ gy:=Ws (us:=gy) nq_NEAR_CODES (.cons (.cons (.cons .nil))) (by decide +kernel) ns_NEAR_CODES (.cons ⟨_,rfl⟩ (.cons ⟨_,rfl⟩ (.cons ⟨_,rfl⟩ .nil)))
 have r_NEAR_CODES:∀ H,Reps K H pA gy:=fun H=>⟨_,_,rfl,rfl,⟨_,_,rfl,rfl,⟨_,_,rfl,rfl,rfl⟩⟩⟩
 have q_NEAR_CODES:wg K w A_NEAR_CODES q_ pA:=jI (us:=[.int 18,.int 19,.int 20]) nq_NEAR_CODES (.cons (.cons (.cons .nil))) (by decide +kernel) ns_NEAR_CODES (.cons ⟨_,rfl⟩ (.cons ⟨_,rfl⟩ (.cons ⟨_,rfl⟩ .nil))) fun H=>⟨_,_,rfl,rfl,⟨_,_,rfl,rfl,⟨_,_,rfl,rfl,rfl⟩⟩⟩
 have g_FAR_CODES:yt mg "FAR_CODES" (.ref A_FAR_CODES):=⟨_,PySem.W.mg_of X G ng_FAR_CODES,rfl⟩
 have e_FAR_CODES:vn K w A_FAR_CODES qz gx:=Ws (us:=gx) nq_FAR_CODES (.cons (.cons (.cons .nil))) (by decide +kernel) ns_FAR_CODES (.cons ⟨_,rfl⟩ (.cons ⟨_,rfl⟩ (.cons ⟨_,rfl⟩ .nil)))
 have r_FAR_CODES:∀ H,Reps K H p9 gx:=fun H=>⟨_,_,rfl,rfl,⟨_,_,rfl,rfl,⟨_,_,rfl,rfl,rfl⟩⟩⟩
 have q_FAR_CODES:wg K w A_FAR_CODES qz p9:=jI (us:=[.int 21,.int 22,.int 23]) nq_FAR_CODES (.cons (.cons (.cons .nil))) (by decide +kernel) ns_FAR_CODES (.cons ⟨_,rfl⟩ (.cons ⟨_,rfl⟩ (.cons ⟨_,rfl⟩ .nil))) fun H=>⟨_,_,rfl,rfl,⟨_,_,rfl,rfl,⟨_,_,rfl,rfl,rfl⟩⟩⟩
 have g_WORD_BITS:yt mg "WORD_BITS" (.int 32):=⟨_,PySem.W.mg_of X G ng_WORD_BITS,⟨_,rfl⟩⟩
 have q_WORD_BITS:∀ H,zZ K H (.int 32) (.int 32):=fun _=>rfl
 have g_ADDRESS_SIGNS:yt mg "ADDRESS_SIGNS" (.int 5):=⟨_,PySem.W.mg_of X G ng_ADDRESS_SIGNS,⟨_,rfl⟩⟩
 have q_ADDRESS_SIGNS:∀ H,zZ K H (.int 5) (.int 5):=fun _=>rfl
 have F50:=Q6 (st:=pT) l50 c50 k50
 refine ⟨PySem.W.fnOf "law" "law" (qI pT) (va pT) (zm pT) .none kV50 dc50 pm50 an50 cd50 ct50,fun s v=>.of_eq rfl,fun base _ _=>?_⟩
 have h_part:Xe l.prog w K mg base:=Dt X G  a0
 have h_with_part:Xn l.prog w K mg base:=F4 X G  a1
 have h_signed:Xh l.prog w K mg base:=Dx X G  a2
 have h_hex_text:X4 l.prog w K mg base:=DI X G g_SIGN_LOWS q_SIGN_LOWS g_SIGNS q_SIGNS h_part a3
 have h_is_label:X6 l.prog w K mg base:=DL X G  a4
 have h_field_text:X0 l.prog w K mg base:=DE X G z_str a5
 have h_item_text:X8 l.prog w K mg base:=DN X G z_zip g_FIELDS q_FIELDS h_is_label h_field_text a6
 have h_place_in_word:Xf l.prog w K mg base:=Du X G g_NUMBER_WIDTHS q_NUMBER_WIDTHS g_NUMBER_LOW q_NUMBER_LOW g_PLACES q_PLACES a7
 have h_number_at:Xd l.prog w K mg base:=Ds X G h_part a8
 have h_with_number:Xm l.prog w K mg base:=F3 X G h_with_part a9
 have h_fields_in_word:X1 l.prog w K mg base:=DF X G g_FIELDS q_FIELDS a10
 have h_first_word:X2 l.prog w K mg base:=DG X G z_zip g_PLACES q_PLACES g_MARKS q_MARKS k_MARKS h_with_number h_fields_in_word h_place_in_word a11
 have h_code_in:Yz l.prog w K mg base:=DB X G g_PLACES q_PLACES h_number_at a12
 have h_kind_of_code:X9 l.prog w K mg base:=DO X G g_CODES q_CODES g_NEAR_CODES q_NEAR_CODES g_FAR_CODES q_FAR_CODES e_CODES r_CODES e_NEAR_CODES r_NEAR_CODES e_FAR_CODES r_FAR_CODES a13
 have h_is_near_code:X7 l.prog w K mg base:=DM X G g_NEAR_CODES q_NEAR_CODES e_NEAR_CODES r_NEAR_CODES z_list a14
 have h_is_far_code:X5 l.prog w K mg base:=DK X G g_FAR_CODES q_FAR_CODES e_FAR_CODES r_FAR_CODES z_list a15
 have h_held_in:X3 l.prog w K mg base:=DH X G g_MARKS q_MARKS h_place_in_word h_number_at yK a16
 have h_row_in:Xg l.prog w K mg base:=Dv X G g_PLACES q_PLACES h_with_number h_fields_in_word z_tuple h_code_in h_kind_of_code h_held_in h_is_near_code h_first_word a17
 have h_far_at:Y_ l.prog w K mg base:=DC X G yK g_WORD_BITS q_WORD_BITS h_signed a18
 have h_told_at:Xj l.prog w K mg base:=Dz X G g_PLACES q_PLACES h_number_at yK h_code_in h_is_near_code h_signed h_row_in h_is_far_code h_far_at a19
 have h_walked:Xl l.prog w K mg base:=F2 X G h_told_at a20
 have h_behind:Yy l.prog w K mg base:=DA X G z_max a21
 have h_word_fault:Xo l.prog w K mg base:=F5 X G yK h_walked h_behind a22
 have h_table_of:Xi l.prog w K mg base:=Dy X G h_walked h_word_fault a23
 have h_told_text:Xk l.prog w K mg base:=D_ X G z_str h_item_text a24
 have h_listing:Xc l.prog w K mg base:=Do X G z_str z_enumerate g_ADDRESS_SIGNS q_ADDRESS_SIGNS h_table_of h_hex_text h_told_text a25
 have h_law_cell_at:XC l.prog w K mg base:=DS X G yK a26
 have h_law_mixed:XL l.prog w K mg base:=Da X G  a27
 have h_law_name_by:XM l.prog w K mg base:=Db X G z_range h_law_mixed a28
 have h_law_row_by:XT l.prog w K mg base:=Dh X G  a29
 have h_law_place_by:XQ l.prog w K mg base:=De X G z_max z_min a30
 have h_law_rows_by:XV l.prog w K mg base:=Dj X G yK z_range h_law_mixed h_law_cell_at h_law_place_by h_law_row_by a31
 have h_law_jumps_in:XH l.prog w K mg base:=DX X G yK z_range a32
 have h_law_many_by:XJ l.prog w K mg base:=DZ X G  a33
 have h_law_items_by:XE l.prog w K mg base:=DU X G yK z_range h_law_mixed h_law_jumps_in h_law_name_by a34
 have h_law_built:XB l.prog w K mg base:=DR X G h_law_cell_at h_law_many_by h_law_rows_by h_law_items_by a35
 have h_law_stands:XW l.prog w K mg base:=Dk X G yK z_range a36
 have h_law_near_ones:XN l.prog w K mg base:=Dc X G h_law_jumps_in h_law_stands a37
 have h_law_reaching:XR l.prog w K mg base:=Df X G z_sorted h_law_near_ones a38
 have h_law_any_far:XA l.prog w K mg base:=DQ X G h_law_mixed h_law_jumps_in h_law_reaching a39
 have h_law_order:XO l.prog w K mg base:=Dd X G  a40
 have h_law_word:XZ l.prog w K mg base:=Dl X G yK h_law_order a41
 have h_law_jump_words:XG l.prog w K mg base:=DW X G z_int a42
 have h_law_written:Xb l.prog w K mg base:=Dn X G yK z_range h_law_stands h_law_jump_words h_law_word a43
 have h_law_jump_at:XF l.prog w K mg base:=DV X G yK z_int h_law_jump_words a44
 have h_law_row_at:XS l.prog w K mg base:=Dg X G yK h_law_order z_int h_law_word h_law_jump_at a45
 have h_law_words_built:Xa l.prog w K mg base:=Dm X G h_law_cell_at h_law_built h_law_written h_law_any_far a46
 have h_law_hex:XD l.prog w K mg base:=DT X G z_range a47
 have h_law_row_text:XU l.prog w K mg base:=Di X G z_str yK z_range z_int a48
 have h_law_lines:XI l.prog w K mg base:=DY X G z_str yK h_law_row_at h_law_row_text h_law_hex a49
 exact DP z_str z_list yK z_isinstance h_law_words_built h_law_lines h_listing F50
theorem walk {l:PySem.W.OpenLaw} {q:Program} {loose:List Str} {XP:(Str->Option Value)->Heap->Prop} {YP:World->Heap->Prop} {d:DefRec} {K:Params->PySem.W.Frag} (hn:l.most=some 63) (hdf:d.params.defaults=[])
  (hY:∀ (w:World) (h:Heap),YP w h->(K w.params).In h)
  (F:∀ (w:World) (mg:Str->Option Value) (fa:Addr) (h:Heap),(K w.params).In h->h.Ns mainGlobals mg->mg d.name=some (.ref fa)->
   ∃ fd:FuncData,(∀ (s:Shared) (u:Value),BindsTo s fd ⟨[u],[]⟩ [("_law_script",u)])/\∀ base:Heap,(K w.params).In base->base.Ns mainGlobals mg->vk l.prog w (K w.params) mg base vP 11 fa fd ["_law_script"] (kj (K w.params))) :
  PySem.W.WalkO q loose XP YP l.row.toRowW d [] (fun f vs=>PySem.call f vs):=
 L3.walkB (n:=63) (k:=11) (x := "_law_script") (sp:=kj) hn (by decide) hdf ⟨rfl,by decide,by decide,rfl⟩ hY F fun _ _ a ns hl hb hS=>⟨a,ns,rfl,hS,hl,hb,fun _=>rfl⟩
end My
namespace PySem.W.Fast
noncomputable def tw11663390719942815663:=0
noncomputable def tw3946027546258898258:=0
noncomputable def tw13443243186879774679:=0
noncomputable def tw16516350473863893388:=0
noncomputable def tw12807247764456349902:=0
noncomputable def tw1087937348070443214:=0
noncomputable def tw12071309025692489174:=0
noncomputable def tw13171589929811219535:=0
noncomputable def tw7411208795210995138:=0
noncomputable def tw17839687287793149947:=0
noncomputable def tw7211037394589517357:=0
noncomputable def tw6256635626293272573:=0
noncomputable def tw11483630392087042932:=0
noncomputable def tw1837779603736303609:=0
noncomputable def tw1730712789863811756:=0
noncomputable def tw17630681647508032258:=0
noncomputable def tw8106729425871423933:=0
noncomputable def tw1755457718081355360:=0
noncomputable def tw15808524272724958373:=0
noncomputable def tw3284660929721062618:=0
noncomputable def tw10638669575824948696:=0
noncomputable def tw10135750452866497014:=0
noncomputable def tw15832979903063312647:=0
noncomputable def tw985695114572620759:=0
noncomputable def tw9904442636354336780:=0
noncomputable def tw5280615591594689956:=0
noncomputable def tw5012744693806932592:=0
noncomputable def tw6155895397080387566:=0
noncomputable def tw2270336848051926667:=0
noncomputable def tw13852829798852992881:=0
noncomputable def tw9111808358472425313:=0
noncomputable def tw4745153231493271487:=0
noncomputable def tw15758570045502278724:=0
noncomputable def tw796486501240189065:=0
noncomputable def tw12467294741197839749:=0
noncomputable def tw11048396792193849266:=0
noncomputable def tw3406174988187207415:=0
noncomputable def tw5148516222781801218:=0
noncomputable def tw3680715911603265718:=0
noncomputable def tw18336994383374227692:=0
noncomputable def tw5379048818718149744:=0
noncomputable def tw7276338426570122913:=0
noncomputable def tw14646690153247074634:=0
noncomputable def tw14327226724938834023:=0
noncomputable def tw14986716822911391942:=0
noncomputable def tw15561407049231456962:=0
noncomputable def tw17490766708131621063:=0
noncomputable def tw14549936416203727826:=0
noncomputable def tw7062976563287055575:=0
noncomputable def tw552269904984683812:=0
noncomputable def tw9180148960513174585:=0
noncomputable def tw874339121643785674:=0
noncomputable def tw5913891172641547330:=0
noncomputable def tw4678486212353254074:=0
noncomputable def tw8242636560451552604:=0
noncomputable def tw7965709794626269407:=0
noncomputable def tw910228162287356071:=0
noncomputable def tw15434960839100693149:=0
noncomputable def tw13920995749727755832:=0
noncomputable def tw14475409712004498695:=0
noncomputable def tw11489359993115372135:=0
noncomputable def tw1718681478720368664:=0
noncomputable def tw17847606114605925154:=0
noncomputable def tw14987341640602079538:=0
noncomputable def tw12727544356406082727:=0
noncomputable def tw8548214519670018337:=0
noncomputable def tw17867048277409426828:=0
noncomputable def tw7277288939108412773:=0
noncomputable def tw454353259386526569:=0
noncomputable def tw11711373489955605757:=0
noncomputable def tw5439166078145954421:=0
noncomputable def tw15366623788592828559:=0
noncomputable def tw14396866932901007096:=0
noncomputable def tw11296719960032171344:=0
noncomputable def tw2147261217895016398:=0
noncomputable def tw11085219704954962167:=0
noncomputable def tw11273239347674462112:=0
noncomputable def tw4015641351362952316:=0
noncomputable def tw18095888570798734356:=0
noncomputable def tw17454182535744575306:=0
noncomputable def tw4915218185570683026:=0
noncomputable def tw16886201507794402352:=0
noncomputable def tw14623178091809560452:=0
noncomputable def tw14435927848470840218:=0
noncomputable def tw5766397615299961765:=0
noncomputable def tw9011957290303665446:=0
noncomputable def tw13574071186908761742:=0
noncomputable def tw10406003561794973153:=0
noncomputable def tw7632095998974204256:=0
noncomputable def tw270281043210982966:=0
noncomputable def tw5653680714896135943:=0
noncomputable def tw11479865514507697518:=0
noncomputable def tw2771009912892372510:=0
noncomputable def tw4723365967277092025:=0
noncomputable def tw16718950294145661473:=0
noncomputable def tw14926942858832477435:=0
noncomputable def tw8570694344517395156:=0
noncomputable def tw7965781030479474167:=0
noncomputable def tw10449227933289885393:=0
noncomputable def tw16404174751398277600:=0
noncomputable def tw3716357415199114334:=0
noncomputable def tw2502090629823901403:=0
noncomputable def tw8103206929166730299:=0
noncomputable def tw4361939615451683190:=0
noncomputable def tw1519687566803049745:=0
noncomputable def tw2717329472096826224:=0
noncomputable def tw7320257082904869246:=0
noncomputable def tw17810022428375957212:=0
noncomputable def tw11220717900960680633:=0
noncomputable def tw5337398131607948786:=0
noncomputable def tw1339131928377856321:=0
noncomputable def tw10824638761794697453:=0
noncomputable def tw2105912729627626815:=0
noncomputable def tw13479855697317985474:=0
noncomputable def tw9975144412782347953:=0
noncomputable def tw4850164269481751721:=0
noncomputable def tw5718026239848918654:=0
noncomputable def tw2642013720531546343:=0
noncomputable def tw11831573495472839446:=0
noncomputable def tw15579813183975443621:=0
noncomputable def tw8299886164513889133:=0
noncomputable def tw7782188243073802626:=0
end PySem.W.Fast
open PySem PySem.W PyProof.Rows
set_option maxRecDepth 100000 in
set_option maxHeartbeats 0 in
theorem PySem.Challenge.cw_markrun_k62_listings_holds : PySem.Challenge.rw_markrun_k62_listings.Holds := by
 w_on; o_law; k_head; (case hw=>w_witness2)
 k_fill
 refine My.walk (l:=PySem.Challenge.rw_markrun_k62_listings) rfl rfl (fun w h Y=>PySem.W.kIn_of Y) ?F
 case F=>
  intro w mg fa h KX G hmg
  refine' My.all_mk KX G hmg ?a0 ?a1 ?a2 ?a3 ?a4 ?a5 ?a6 ?a7 ?a8 ?a9 ?a10 ?a11 ?a12 ?a13 ?a14 ?a15 ?a16 ?a17 ?a18 ?a19 ?a20 ?a21 ?a22 ?a23 ?a24 ?a25 ?a26 ?a27 ?a28 ?a29 ?a30 ?a31 ?a32 ?a33 ?a34 ?a35 ?a36 ?a37 ?a38 ?a39 ?a40 ?a41 ?a42 ?a43 ?a44 ?a45 ?a46 ?a47 ?a48 ?a49 ?a50 ?l50 ?c50 ?k50 ?nz_str ?nz_zip ?nz_list ?nz_len ?nz_tuple ?nz_max ?nz_enumerate ?nz_range ?nz_min ?nz_sorted ?nz_int ?nz_isinstance ?ng_SIGN_LOWS ?nq_SIGN_LOWS ?ng_SIGNS ?ng_FIELDS ?nt0_FIELDS ?nt1_FIELDS ?nt2_FIELDS ?nt3_FIELDS ?nt4_FIELDS ?nt5_FIELDS ?nt6_FIELDS ?nt7_FIELDS ?nt8_FIELDS ?nt9_FIELDS ?nt10_FIELDS ?nt11_FIELDS ?nt12_FIELDS ?nt13_FIELDS ?nt14_FIELDS ?nt15_FIELDS ?nt16_FIELDS ?nt17_FIELDS ?nt18_FIELDS ?nt19_FIELDS ?nt20_FIELDS ?nt21_FIELDS ?nq_FIELDS ?ns_FIELDS ?ng_NUMBER_WIDTHS ?nq_NUMBER_WIDTHS ?ns_NUMBER_WIDTHS ?ng_NUMBER_LOW ?ng_PLACES ?nt0_PLACES ?nt1_PLACES ?nt2_PLACES ?nt3_PLACES ?nt4_PLACES ?nq_PLACES ?ns_PLACES ?ng_MARKS ?nq_MARKS ?ng_CODES ?nq_CODES ?ns_CODES ?ng_NEAR_CODES ?nq_NEAR_CODES ?ns_NEAR_CODES ?ng_FAR_CODES ?nq_FAR_CODES ?ns_FAR_CODES ?ng_WORD_BITS ?ng_ADDRESS_SIGNS
  all_goals try exact ⟨_,_,_,_,_,_,_,_,_,_,by k_is,by k_is,by k_is,by k_is⟩
  all_goals try (first | k_is | k_exc | kit_is | kts_exm)
  all_goals decide
