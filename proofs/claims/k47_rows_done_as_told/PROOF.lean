import PyProof.Rows.All
import Wide.All
import OpenK.AllK
import Wide.FinOn
import Lean
import PyProof.EqAt
import PyProof.EqKinds
import PyProof.TupleCall
import PySem.Challenge.RW_markrun_k47_rows_done_as_told
set_option Elab.async false
set_option linter.all false
set_option maxRecDepth 100000
namespace L2
open PySem PySem.Spec PyProof.Rows
noncomputable abbrev zM:=Sum Int Str
noncomputable def pU:zM->Value->Bool
 | .inl k,v=>Value.isInt k v
 | .inr x,v=>Value.isStrOf x v
noncomputable def Bm (w:World):zM->Int
 | .inl k=>hashInt k
 | .inr x=>hashStr w x
theorem tT:∀ {k:zM} {v:Value},pU k v=true->(∃ i t,k=Sum.inl i/\v=Value.int i t)\/(∃ x t,k=Sum.inr x/\v=Value.str x t)
 | .inl i,v,h=>by
  obtain ⟨t,e⟩:=Value.isInt_shape (k:=i) (v:=v) h
  exact .inl ⟨i,t,rfl,e⟩
 | .inr x,v,h=>by
  obtain ⟨t,e⟩:=Value.isStrOf_shape (x:=x) (v:=v) h
  exact .inr ⟨x,t,rfl,e⟩
theorem Bn (i:Int) (t:Tok):pU (.inl i) (.int i t)=true:=by simp [pU,Value.isInt]
theorem Bo (x:Str) (t:Tok):pU (.inr x) (.str x t)=true:=by simp [pU,Value.isStrOf]
theorem Bp (a b:Int):decide ((Sum.inl a:zM)=Sum.inl b)=(a == b):=by
 by_cases e:a=b
 ·subst e; simp
 ·have h:¬ (Sum.inl a:zM)=Sum.inl b:=fun q=>e (Sum.inl.inj q)
  rw [decide_eq_false h]
  exact (beq_eq_false_iff_ne.mpr e).symm
theorem Bs (a b:Str):decide ((Sum.inr a:zM)=Sum.inr b)=decide (a=b):=by
 by_cases e:a=b
 ·subst e; simp
 ·have h:¬ (Sum.inr a:zM)=Sum.inr b:=fun q=>e (Sum.inr.inj q)
  rw [decide_eq_false h,decide_eq_false e]
theorem Bq (a:Int) (b:Str):decide ((Sum.inl a:zM)=Sum.inr b)=false:=decide_eq_false (fun q=>nomatch q)
theorem Br (a:Str) (b:Int):decide ((Sum.inr a:zM)=Sum.inl b)=false:=decide_eq_false (fun q=>nomatch q)
noncomputable def ye (prog:Program) (w:World):PySem.KeyKind prog w zM where
 is:=pU
 hash:=Bm w
 inj:=fun v a b ha hb=>by
  rcases tT ha with ⟨i,t,rfl,rfl⟩ | ⟨x,t,rfl,rfl⟩
  ·rcases tT hb with ⟨j,u,rfl,e⟩ | ⟨y,u,rfl,e⟩
   ·injection e with e1 _; rw [e1]
   ·exact nomatch e
  ·rcases tT hb with ⟨j,u,rfl,e⟩ | ⟨y,u,rfl,e⟩
   ·exact nomatch e
   ·injection e with e1 _; rw [e1]
 byValue:=fun k v h=>by
  rcases tT h with ⟨i,t,rfl,rfl⟩ | ⟨x,t,rfl,rfl⟩<;>rfl
 pyHash:=fun hv h=>by
  rcases tT hv with ⟨i,t,rfl,rfl⟩ | ⟨x,t,rfl,rfl⟩
  ·exact wpAny_pyHash_int h
  ·exact wpAny_pyHash_str h
 eqBool:=fun hu hv h=>by
  rcases tT hu with ⟨i,t,rfl,rfl⟩ | ⟨x,t,rfl,rfl⟩
  ·rcases tT hv with ⟨j,u,rfl,rfl⟩ | ⟨y,u,rfl,rfl⟩
   ·rw [Bp] at h; exact wpAny_eqBool_int h
   ·rw [Bq] at h; exact SeqAt.EqAt.int_str i t y u _ _ _ _ h
  ·rcases tT hv with ⟨j,u,rfl,rfl⟩ | ⟨y,u,rfl,rfl⟩
   ·rw [Br] at h; exact SeqAt.EqAt.str_int x t j u _ _ _ _ h
   ·rw [Bs] at h; exact wpAny_eqBool_str h
 «strs»:=fun k x t v h=>by
  rcases tT h with ⟨i,u,rfl,e⟩ | ⟨y,u,rfl,e⟩
  ·exact nomatch e
  ·injection e with e1 _
   subst e1
   cases v<;>rfl
theorem Da (prog:Program) (w:World) (i:Int) (t:Tok):(ye prog w).is (.inl i) (.int i t)=true:=Bn i t
theorem VN (prog:Program) (w:World) (x:Str) (t:Tok):(ye prog w).is (.inr x) (.str x t)=true:=Bo x t
end L2
namespace L2
open PySem PySem.Spec PyProof.Rows
inductive V where
 | non | bl (b:Bool) | int (i:Int) | str (x:Str) | byt (b:Array UInt8) | flt (b:UInt64) | ref (a:Addr) | ty (n:String)
 deriving DecidableEq
noncomputable def zY:V->Value->Prop
 | .non,u=>u=Value.none
 | .bl b,u=>u=Value.bool b
 | .int i,u=>∃ t,u=Value.int i t
 | .str x,u=>∃ t,u=Value.str x t
 | .byt b,u=>∃ t,u=Value.bytes b t
 | .flt b,u=>∃ t,u=Value.float b t
 | .ref a,u=>u=Value.ref a
 | .ty n,u=>u=Value.type n
noncomputable abbrev zZ:List V->List Value->Prop:=Paired zY
theorem zZ.length {xs:List V} {us:List Value} (r:zZ xs us):xs.length=us.length:=Paired.length r
theorem zZ.get:∀ {xs:List V} {us:List Value} {i:Nat} {x:V},zZ xs us->xs[i]?=some x->∃ u,us[i]?=some u/\zY x u
 | _,_,_,_,.nil,e=>by simp at e
 | _,_,0,_,.cons r _,e=>by simp at e; subst e; exact ⟨_,rfl,r⟩
 | _,_,i+1,x,.cons _ t,e=>by
  obtain ⟨u,h1,h2⟩:=zZ.get (i:=i) (x:=x) t (by simpa using e)
  exact ⟨u,by simpa using h1,h2⟩
theorem zZ.set {x:V} {u:Value} (r:zY x u):∀ {xs:List V} {us:List Value} (i:Nat),zZ xs us->zZ (xs.set i x) (us.set i u)
 | _,_,_,.nil=>.nil
 | _,_,0,.cons _ t=>.cons r t
 | _,_,i+1,.cons q t=>.cons q (zZ.set r i t)
theorem zZ.append:∀ {xs ys:List V} {us ws:List Value},zZ xs us->zZ ys ws->zZ (xs++ys) (us++ws)
 | _,_,_,_,.nil,s=>s
 | _,_,_,_,.cons r t,s=>.cons r (zZ.append t s)
noncomputable def w6:Option V->Option Value->Prop
 | some v,some u=>zY v u
 | none,none=>True
 | _,_=>False
noncomputable def KV {κ:Type}:List (κ×V)->List (κ×Value)->Prop:=Paired fun (p:κ×V) (q:κ×Value)=>p.1=q.1/\zY p.2 q.2
noncomputable def kV:zM->V
 | .inl i=>.int i
 | .inr x=>.str x
inductive HO where
  | lst (xs:List V)
  | tup (xs:List V)
  | dK (kvs:List (zM×V)) | dT (kvs:List (List zM×V))
  | set (S:Int->Bool) (n:Nat)
  | ins (C dx:Addr) (fs:List (Str×V))
  | own (x:Addr)
  | xd (fs:List (Str×V))
  | met (f x:Addr)
  | rng (lo hi:Int)
  | frz (o:Obj) (u:HO)
  | tbl (ps:Array Value)
  | ext (φ:Heap->Prop)
noncomputable abbrev Hp:=Addr->Option HO
noncomputable def zR (H:Hp) (a:Addr) (o:HO):Hp:=fun b=>if b=a then some o else H b
theorem yk {H:Hp} {a:Addr} {o:HO}:zR H a o a=some o:=by unfold zR; rw [if_pos rfl]
theorem z_ {H:Hp} {a b:Addr} {o:HO} (h:b≠a):zR H a o b=H b:=by unfold zR; rw [if_neg h]
theorem Dl {H:Hp} {a b:Addr} {o u:HO} (h:H a=some o) (h':H b=some u) (d:o≠u):a≠b:=by
 intro e; subst e; rw [h] at h'; exact d (Option.some.inj h')
theorem wu {H:Hp} {a b:Addr} {o:HO} (h:H a=some o) (h':H b=none):a≠b:=by
 intro e; subst e; rw [h] at h'; cases h'
section
variable (P:Program) (w:World)
noncomputable def yh (H:Hp) (h:Heap) (a:Addr):HO->Prop
 | .lst xs=>xs.length<=sizeLine/\∃ (its:List Value) (n:Nat),zZ xs its/\h.get? a=some { cls:=.type "list",data:=.seq its.toArray n }
 | .tup xs=>xs.length<=sizeLine/\∃ its:List Value,zZ xs its/\IsTup h a its.toArray
 | .dK kvs=>kvs.length<=sizeLine/\(a == sysModules)=false/\∃ vs,KV kvs vs/\h.DictOf (ye P w) a vs
 | .dT kvs=>kvs.length<=sizeLine/\(a == sysModules)=false/\∃ xs:List (List zM×Addr×Value),
   Paired (fun (p:List zM×V) (q:List zM×Addr×Value)=>p.1=q.1/\H q.2.1=some (.tup (p.1.map kV))/\zY p.2 q.2.2) kvs xs/\
   ∃ o es ep,h.get? a=some o/\o.ExactDict/\o.data=.dict es ep/\es.toList=xs.map (entryOfKey (tupleKind (ye P w)))/\(xs.map (·.1)).Nodup
 | .set S n=>h.SetOf (intKind P w) a S n
 | .ins C dx fs=>H dx=some (.own a)/\fs.length<=1000/\dx≠a/\h.get? a=some (PySem.W.instObj C dx)/\
   ∃ mA,h.Ns1 dx mA/\(∀ f,w6 (fs.lookup f) (mA f))/\PySem.Within mA (fs.map (·.1))
 | .own _=>∃ o,h.get? a=some o
 | .xd fs=>∃ mA,h.Ns1 a mA/\∀ f,w6 (fs.lookup f) (mA f)
 | .rng lo hi=>∃ t u v,h.get? a=some { cls:=.type "range",data:=.fields #[.int lo t,.int hi u,.int 1 v] }
 | .frz o u=>h.get? a=some o/\yh H h a u
 | .tbl ps=>h.get? a=some { cls:=.none,data:=.fields ps }
 | .met f x=>h.get? a=some (PySem.W.methodObj (.ref f) (.ref x))
 | .ext φ=>φ h/\(∃ o,h.get? a=some o)/\∀ h1 h2:Heap,φ h1->(∀ o,h1.get? a=some o->h2.get? a=some o)->φ h2
noncomputable def yd (H:Hp) (h:Heap):Prop:=∀ a o,H a=some o->yh P w H h a o
end
section
variable {P:Program} {w:World} {H H':Hp} {h h':Heap} {a:Addr} {o:HO}
theorem yh.lt (x:yh P w H h a o):a<h.objs.size:=by
 cases o with
 | lst xs=>obtain ⟨_,_,_,_,e⟩:=x; exact Heap.lt_size e
 | tup xs=>obtain ⟨_,_,_,p⟩:=x; exact p.lt
 | dK kvs=>obtain ⟨_,_,_,_,o,_,_,e,_⟩:=x; exact Heap.lt_size e
 | dT kvs=>obtain ⟨_,_,_,_,o,_,_,e,_⟩:=x; exact Heap.lt_size e
 | set S n=>obtain ⟨o,_,_,_,e,_⟩:=x; exact Heap.lt_size e
 | ins C dx fs=>obtain ⟨_,_,_,e,_⟩:=x; exact Heap.lt_size e
 | own y=>obtain ⟨_,e⟩:=x; exact Heap.lt_size e
 | xd fs=>obtain ⟨_,⟨_,_,_,e,_⟩,_⟩:=x; exact Heap.lt_size e
 | rng lo hi=>obtain ⟨_,_,_,e⟩:=x; exact Heap.lt_size e
 | frz ob u=>obtain ⟨e,_⟩:=x; exact Heap.lt_size e
 | tbl ps=>exact Heap.lt_size (show h.get? a=some _ from x)
 | met f y=>exact Heap.lt_size (show h.get? a=some _ from x)
 | ext φ=>obtain ⟨_,⟨_,e⟩,_⟩:=x; exact Heap.lt_size e
theorem Paired.mapP {α β:Type} {F G:α->β->Prop}:∀ {l₁:List α} {l₂:List β},Paired F l₁ l₂->(∀ a b,F a b->G a b)->Paired G l₁ l₂
 | _,_,.nil,_=>.nil
 | _,_,.cons r t,f=>.cons (f _ _ r) (Paired.mapP t f)
theorem yh.stay (x:yh P w H h a o) (k:∀ b u,(b=a\/H b=some (.own a))->h.get? b=some u->h'.get? b=some u)
  (ho:∀ b,H b=some (.own a)->H' b=some (.own a)) (ht:∀ b xs,H b=some (.tup xs)->H' b=some (.tup xs)):yh P w H' h' a o:=by
 induction o with
 | lst xs=>obtain ⟨z,its,n,r,e⟩:=x; exact ⟨z,its,n,r,k _ _ (.inl rfl) e⟩
 | tup xs=>obtain ⟨z,its,r,ob,e,c⟩:=x; exact ⟨z,its,r,ob,k _ _ (.inl rfl) e,c⟩
 | dK kvs=>obtain ⟨z,y,vs,r,ob,es,ep,e,c⟩:=x; exact ⟨z,y,vs,r,ob,es,ep,k _ _ (.inl rfl) e,c⟩
 | dT kvs=>
  obtain ⟨z,y,xs,r,ob,es,ep,e,c⟩:=x
  exact ⟨z,y,xs,Paired.mapP r fun p q z=>⟨z.1,ht _ _ z.2.1,z.2.2⟩,ob,es,ep,k _ _ (.inl rfl) e,c⟩
 | set S n=>obtain ⟨ob,es,ep,t,e,c⟩:=x; exact ⟨ob,es,ep,t,k _ _ (.inl rfl) e,c⟩
 | ins C dx fs=>
  obtain ⟨d,z,ne,e,mA,⟨od,es,ep,e2,c⟩,r⟩:=x
  exact ⟨ho _ d,z,ne,k _ _ (.inl rfl) e,mA,⟨od,es,ep,k _ _ (.inr d) e2,c⟩,r⟩
 | own y=>obtain ⟨ob,e⟩:=x; exact ⟨ob,k _ _ (.inl rfl) e⟩
 | xd fs=>obtain ⟨mA,⟨od,es,ep,e,c⟩,r⟩:=x; exact ⟨mA,⟨od,es,ep,k _ _ (.inl rfl) e,c⟩,r⟩
 | rng lo hi=>obtain ⟨t,u,v,e⟩:=x; exact ⟨t,u,v,k _ _ (.inl rfl) e⟩
 | frz ob u ih=>obtain ⟨e,q⟩:=x; exact ⟨k _ _ (.inl rfl) e,ih q⟩
 | tbl ps=>
  have e:h.get? a=some { cls:=.none,data:=.fields ps }:=x
  show h'.get? a=some { cls:=.none,data:=.fields ps }
  exact k a _ (.inl rfl) e
 | met f y=>
  have e:h.get? a=some (PySem.W.methodObj (.ref f) (.ref y)):=x
  show h'.get? a=some (PySem.W.methodObj (.ref f) (.ref y))
  exact k a _ (.inl rfl) e
 | ext φ=>obtain ⟨p,⟨o,e⟩,st⟩:=x; exact ⟨st _ _ p fun o q=>k _ _ (.inl rfl) q,⟨o,k _ _ (.inl rfl) e⟩,st⟩
theorem yd.lt (x:yd P w H h) (e:H a=some o):a<h.objs.size:=(x a o e).lt
theorem yd.fresh (x:yd P w H h) (e:h.objs.size<=a):H a=none:=by
 cases q:H a with
 | none=>rfl
 | some u=>exact absurd (Nat.lt_of_lt_of_le (x.lt q) e) (Nat.lt_irrefl _)
theorem yd.kept (x:yd P w H h) (k:∀ b u,h.get? b=some u->h'.get? b=some u):yd P w H h':=fun a o e=>
 (x a o e).stay (fun b u _ q=>k b u q) (fun _ q=>q) fun _ _ q=>q
theorem yd.laid (x:yd P w H h) (k:∀ b u,h.get? b=some u->h'.get? b=some u) (hp:h.objs.size<=a) (new:yh P w (zR H a o) h' a o):yd P w (zR H a o) h':=fun b u e=>by
 have hn:=x.fresh hp
 by_cases hb:b=a
 ·subst hb; rw [yk] at e; cases e; exact new
 ·rw [z_ hb] at e
  exact (x b u e).stay (fun c v _ q=>k c v q) (fun c q=>by rw [z_ (wu q hn)]; exact q) fun c xs q=>by rw [z_ (wu q hn)]; exact q
end
noncomputable def Rd (H:Hp) (a:Addr) (u:HO):Prop:=H a=some u\/∃ o,H a=some (.frz o u)
theorem Rd.ok {P:Program} {w:World} {H:Hp} {h:Heap} {a:Addr} {u:HO} (r:Rd H a u) (x:yd P w H h):yh P w H h a u:=by
 rcases r with r | ⟨o,r⟩
 ·exact x a u r
 ·obtain ⟨_,q⟩:=x a _ r
  exact q
noncomputable def gO:Option HO->Prop
 | some (.lst _)=>True
 | some (.dK _)=>True
 | some (.dT _)=>True
 | some (.set _ _)=>True
 | some (.ins _ _ _)=>True
 | some (.ext _)=>True
 | _=>False
section
variable {P:Program} {w:World} {H:Hp} {h h':Heap} {x e:Addr} {o':HO}
theorem yd.write (ok:yd P w H h) (mu:gO (H x)) (he:e=x\/H e=some (.own x)) (k:∀ b u,b≠e->h.get? b=some u->h'.get? b=some u) (heo:∃ u,h'.get? e=some u)
  (new:yh P w (zR H x o') h' x o'):yd P w (zR H x o') h':=fun b u q=>by
 have nown:∀ c y,H c=some (.own y)->c≠x:=fun c y r z=>by subst z; rw [r] at mu; exact mu
 have ntup:∀ c xs,H c=some (.tup xs)->c≠x:=fun c xs r z=>by subst z; rw [r] at mu; exact mu
 by_cases hb:b=x
 ·subst hb; rw [yk] at q; cases q; exact new
 ·rw [z_ hb] at q
  by_cases hbe:b=e
  ·have q':H b=some (.own x):=by
    rcases he with z | z
    ·exact absurd (hbe.trans z) hb
    ·rw [hbe]; exact z
   rw [q] at q'; cases q'
   obtain ⟨v,hv⟩:=heo
   exact ⟨v,by rw [hbe]; exact hv⟩
  ·refine (ok b u q).stay (fun c v hc r=>k c v ?_ r) (fun c r=>by rw [z_ (nown c b r)]; exact r) fun c xs r=>by rw [z_ (ntup c xs r)]; exact r
   rcases hc with rfl | hc
   ·exact hbe
   ·rintro rfl
    rcases he with z | z
    ·exact nown c b hc z
    ·rw [hc] at z; cases z; exact hb rfl
end
structure Un (fs ex:List Addr) (H H':Hp) (h h':Heap):Prop where
 keep:∀ b o,h.get? b=some o->H b=none->b ∉ fs->b ∉ ex->h'.get? b=some o
 slot:∀ b o,h.get? b=some o->H b=none->b∈fs->b ∉ ex->∃ sl,h'.get? b=some { o with slots:=sl }
 free:∀ b o,h.get? b=some o->H b=none->b ∉ ex->H' b=none
 there:∀ b o,h.get? b=some o->b ∉ ex->∃ o',h'.get? b=some o'
 tups:∀ b xs,H b=some (.tup xs)->H' b=some (.tup xs)
 frzs:∀ b o u,H b=some (.frz o u)->H' b=some (.frz o u)
 tbls:∀ b ps,H b=some (.tbl ps)->∃ more,H' b=some (.tbl (ps++more))
section
variable {fs fs' ex ex':List Addr} {H H1 H2:Hp} {h h1 h2 h':Heap} {a x e:Addr} {o:HO}
theorem Un.any (u:Un fs ex H H1 h h1) {b:Addr} {ob:Obj} (q:h.get? b=some ob) (n:H b=none) (hx:b ∉ ex):∃ sl,h1.get? b=some { ob with slots:=sl }:=by
 by_cases hb:b∈fs
 ·exact u.slot b ob q n hb hx
 ·exact ⟨ob.slots,u.keep b ob q n hb hx⟩
theorem Un.kept (k:∀ b u,h.get? b=some u->h'.get? b=some u):Un fs ex H H h h':=
 ⟨fun b ob q _ _ _=>k b ob q,fun b ob q _ _ _=>⟨ob.slots,k b ob q⟩,fun _ _ _ n _=>n,fun b ob q _=>⟨ob,k b ob q⟩,fun _ _ q=>q,fun _ _ _ q=>q,fun _ ps q=>⟨#[],by rw [q]; simp⟩⟩
theorem Un.refl:Un fs ex H H h h:=Un.kept fun _ _ q=>q
theorem Un.laid (k:∀ b u,h.get? b=some u->h'.get? b=some u) (hp:h.objs.size<=a) (hn:H a=none):Un fs ex H (zR H a o) h h' where
 keep:=fun b u q _ _ _=>k b u q
 slot:=fun b u q _ _ _=>⟨u.slots,k b u q⟩
 free:=fun b u q n _=>by rw [z_ (Nat.ne_of_lt (Nat.lt_of_lt_of_le (Heap.lt_size q) hp))]; exact n
 there:=fun b u q _=>⟨u,k b u q⟩
 tups:=fun b xs q=>by rw [z_ (wu q hn)]; exact q
 frzs:=fun b u xs q=>by rw [z_ (wu q hn)]; exact q
 tbls:=fun b ps q=>⟨#[],by rw [z_ (wu q hn),q]; simp⟩
theorem Un.write (mu:gO (H x)) (he:e=x\/H e=some (.own x)) (k:∀ b u,b≠e->h.get? b=some u->h'.get? b=some u) (heo:∃ u,h'.get? e=some u):Un fs ex H (zR H x o) h h':=by
 have hx:∀ b,H b=none->b≠x:=fun b n z=>by subst z; rw [n] at mu; exact mu
 have hb:∀ b,H b=none->b≠e:=fun b n z=>by
  subst z
  rcases he with r | r
  ·exact hx b n r
  ·rw [n] at r; cases r
 have hm:∀ b u,H b=some u->¬ gO (some u)->b≠x:=fun b u q nm z=>by subst z; rw [q] at mu; exact nm mu
 refine ⟨fun b u q n _ _=>k b u (hb b n) q,fun b u q n _ _=>⟨u.slots,k b u (hb b n) q⟩,fun b u q n _=>by rw [z_ (hx b n)]; exact n,fun b u q _=>?_,
  fun b xs q=>by rw [z_ (hm b _ q fun z=>z)]; exact q,fun b u xs q=>by rw [z_ (hm b _ q fun z=>z)]; exact q,fun b ps q=>⟨#[],by rw [z_ (hm b _ q fun z=>z),q]; simp⟩⟩
 by_cases hbe:b=e
 ·subst hbe; exact heo
 ·exact ⟨u,k b u hbe q⟩
end
noncomputable def YG (h:Heap) (H:Hp):List Addr:=(List.range h.objs.size).filter fun a=>(H a).isSome
noncomputable def tS (h:Heap) (H:Hp):Heap:=PySem.W.hideAll h (YG h H)
theorem BO (h:Heap) (H:Hp):(tS h H).objs.size=h.objs.size:=PySem.W.hideAll_size _ _
theorem BN {h:Heap} {H:Hp} {b:Addr} {o:Obj} (e:h.get? b=some o) (n:H b=none):(tS h H).get? b=some o:=
 PySem.W.hideAll_get _ e fun hm=>by
  have q:(H b).isSome=true:=(List.mem_filter.mp hm).2
  rw [n] at q; simp at q
theorem Ds {h:Heap} {H:Hp} {b:Addr} {o:Obj} (e:(tS h H).get? b=some o):h.get? b=some o/\H b=none:=by
 have e':h.get? b=some o:=PySem.W.of_hideAll (YG h H) e
 refine ⟨e',?_⟩
 cases q:H b with
 | none=>rfl
 | some x=>
  have hm:b∈YG h H:=List.mem_filter.mpr ⟨List.mem_range.mpr (Heap.lt_size e'),by simp [q]⟩
  have z:(tS h H).get? b=none:=PySem.W.hideAll_none (YG h H) hm
  rw [z] at e; cases e
noncomputable def Oa (g h:Heap) (L:Addr):List (Addr×Obj):=(List.range h.objs.size).filterMap fun a=>if a=L\/(g.get? a).isSome=true then none else (h.get? a).map fun o=>(a,o)
noncomputable def za (g h:Heap) (L d:Addr):List (Addr×Obj):=(Oa g h L).filter fun p=>decide (p.1≠d)
end L2
namespace L2
open PySem PySem.Spec PyProof.Rows
structure Mod (K:PySem.W.Frag) (mg:Str->Option Value) (base:Heap):Prop where
 kin:K.In base
 glob:base.Ns mainGlobals mg
 blt:∃ mb,base.Ns builtinsNs mb/\∀ x:Str,x ≠ "__name__" -> mb x=bootBuiltins x
 nolimit:base.NoLimit
structure Cx where
 prog:Program
 w:World
 K:PySem.W.Frag
 mg:Str->Option Value
 base:Heap
 A:Around
 N:List Str
 s₀:Shared
 H₀:Hp
 env:Env
 outer:List Env
 stack:List Env
 ex:List Addr
 fn:Str->Bool
 calm:Bool
 pn:List (Addr×Obj)
 xe:Value->Shared->Prop
noncomputable def vR (l:List Env):List Addr:=l.filterMap (·.frame)
noncomputable abbrev Cx.fs (X:Cx):List Addr:=vR X.outer
noncomputable def qQ (sc:Scope) (x:Str):Prop:=sc.names.lookup x=some .local\/sc.names.lookup x=some .cell\/sc.names.lookup x=some .free
noncomputable def vZ (sc:Scope) (x:Str):Prop:=sc.names.lookup x=some .local\/sc.names.lookup x=some .cell
noncomputable def OR (env:Env) (h:Heap) (m:Str->Option Value) (x:Str) (u:Value):Prop:=
 (env.kindOf x=some .local/\m x=some u)\/((env.kindOf x=some .cell\/env.kindOf x=some .free)/\∃ c,env.cells.lookup x=some c/\h.IsCell c (some u))
structure Cx.Ok (X:Cx):Prop where
 mod:Mod X.K X.mg X.base
 kind:X.env.scope.kind=.function
 glob:X.env.globals=mainGlobals
 blt:X.env.builtins=builtinsNs
 above:X.s₀.heap.objs.size<=X.env.locals
 inj:∀ x y c,X.env.cells.lookup x=some c->X.env.cells.lookup y=some c->x=y
 has:∀ x,(X.env.kindOf x=some .cell\/X.env.kindOf x=some .free)->∃ c,X.env.cells.lookup x=some c
 cab:∀ x c,X.fn x=true->X.env.cells.lookup x=some c->X.s₀.heap.objs.size<=c
 hd:X.calm=true->X.A.handled=none
 frames:X.A.frames=some X.stack
 stk:X.stack=X.outer\/(X.stack=X.env::X.outer/\X.env.frame=some X.env.locals)
 exf:∀ b∈X.ex,b≠X.env.locals/\∀ x c,X.env.cells.lookup x=some c->c≠b
 bs:∀ b o,X.base.get? b=some o->X.s₀.heap.get? b=some o/\X.H₀ b=none
 bsz:X.base.objs.size<=X.s₀.heap.objs.size
 noex:∀ b o,X.base.get? b=some o->b ∉ X.ex
 exfs:∀ b∈X.ex,b ∉ X.fs
 funs:X.s₀.heap.FunFrames X.base X.outer
 frf:∀ b∈X.fs,X.H₀ b=none
structure zC (X:Cx) (pins:List (Addr×Obj)) (σ:List (Option V)) (H:Hp) (s:Shared):Prop where
 ok:X.Ok
 os:s.os=X.s₀.os
 bare:AllBare s.gens
 base:Un X.fs X.ex X.H₀ H X.s₀.heap s.heap
 loc:∃ m,s.heap.Ns X.env.locals m/\∀ (i:Nat) (x:Str) (v:V),X.N[i]?=some x->σ[i]?=some (some v)->qQ X.env.scope x->∃ u,zY v u/\OR X.env s.heap m x u
 cell:∀ x c,X.env.cells.lookup x=some c->∃ v,s.heap.IsCell c v
 free:H X.env.locals=none
 freeC:∀ x c,X.env.cells.lookup x=some c->H c=none
 pin:∀ p∈X.pn++pins,s.heap.get? p.1=some p.2/\H p.1=none/\p.1≠X.env.locals/\p.1 ∉ X.fs/\∀ v,p.2.data≠.cell v
 hok:yd X.prog X.w H s.heap
 len:σ.length=X.N.length
section
variable {X:Cx} {pins:List (Addr×Obj)} {σ:List (Option V)} {H H':Hp} {s:Shared} {h':Heap}
theorem Cx.Ok.nofr (ok:X.Ok) {b:Addr} {o:Obj} (e:X.base.get? b=some o):b ∉ X.fs:=fun hb=>by
 have:=(ok.funs.mem hb).1
 rw [e] at this; cases this
theorem zC.bs (I:zC X pins σ H s):∀ b o,X.base.get? b=some o->s.heap.get? b=some o/\H b=none:=fun b o e=>
 ⟨I.base.keep b o (I.ok.bs b o e).1 (I.ok.bs b o e).2 (I.ok.nofr e) (I.ok.noex b o e),I.base.free b o (I.ok.bs b o e).1 (I.ok.bs b o e).2 (I.ok.noex b o e)⟩
theorem zC.bk (I:zC X pins σ H s):∀ b o,X.base.get? b=some o->s.heap.get? b=some o:=fun b o e=>(I.bs b o e).1
theorem zC.mod (I:zC X pins σ H s):Mod X.K X.mg X.base:=I.ok.mod
theorem zC.kIn (I:zC X pins σ H s):X.K.In s.heap:=I.ok.mod.kin.keeps I.bk
theorem zC.lt (I:zC X pins σ H s):X.env.locals<s.heap.objs.size:=let ⟨_,hn,_⟩:=I.loc; hn.lt
theorem zC.sz (I:zC X pins σ H s):X.s₀.heap.objs.size<=s.heap.objs.size:=Nat.le_trans I.ok.above (Nat.le_of_lt I.lt)
theorem zC.nofs (I:zC X pins σ H s) {a:Addr} (h:s.heap.objs.size<=a):a ∉ X.fs:=fun hb=>by
 obtain ⟨_,o,ho,_⟩:=I.ok.funs.mem hb
 exact absurd (Nat.lt_of_lt_of_le (Heap.lt_size ho) (Nat.le_trans I.sz h)) (Nat.lt_irrefl _)
theorem zC.cne (I:zC X pins σ H s):∀ x c,X.env.cells.lookup x=some c->c≠X.env.locals:=fun x c e z=>by
 obtain ⟨v,o,ho,hd⟩:=I.cell x c e
 obtain ⟨m,⟨o',es,ep,ho',hd',_⟩,_⟩:=I.loc
 rw [z,ho'] at ho; cases ho; rw [hd'] at hd; cases hd
theorem zC.funs (I:zC X pins σ H s):s.heap.FunFrames X.base X.outer:=by
 have all:∀ (l:List Env),(∀ b∈vR l,b∈X.fs)->X.s₀.heap.FunFrames X.base l->s.heap.FunFrames X.base l:=by
  intro l
  induction l with
  | nil=>intro _ _; trivial
  | cons env r ih=>
   intro hs hl
   obtain ⟨hk,⟨L,o,hf,hn,ho,hd⟩,hr⟩:=hl
   have hL:L∈X.fs:=hs L (by unfold vR; rw [List.filterMap_cons,hf]; exact List.mem_cons_self)
   obtain ⟨sl,e⟩:=I.base.slot L o ho (I.ok.frf L hL) hL fun z=>I.ok.exfs L z hL
   exact ⟨hk,⟨L,_,hf,hn,e,hd⟩,ih (fun b hb=>hs b (by unfold vR; rw [List.filterMap_cons,hf]; exact List.mem_cons_of_mem _ hb)) hr⟩
 exact all X.outer (fun _ hb=>hb) I.ok.funs
theorem zC.stack (I:zC X pins σ H s):s.heap.FunFrames X.base X.stack:=by
 rcases I.ok.stk with e | ⟨e,hf⟩
 ·rw [e]; exact I.funs
 ·rw [e]
  obtain ⟨m,hn,_⟩:=I.loc
  refine .cons (by rw [I.ok.kind]; decide) hf hn ?_ I.funs
  exact Heap.get?_none_of_le (Nat.le_trans I.ok.bsz I.ok.above)
theorem zC.stkSub (I:zC X pins σ H s):∀ b∈vR X.stack,b∈X.env.locals::X.fs:=fun b hb=>by
 rcases I.ok.stk with e | ⟨e,hf⟩
 ·rw [e] at hb; exact List.mem_cons_of_mem _ hb
 ·rw [e] at hb
  unfold vR at hb
  rw [List.filterMap_cons,hf] at hb
  exact hb
theorem zC.stkFree (I:zC X pins σ H s):∀ b∈vR X.stack,H b=none:=fun b hb=>by
 rcases List.mem_cons.mp (I.stkSub b hb) with e | hb
 ·rw [e]; exact I.free
 ·obtain ⟨_,o,ho,_⟩:=I.ok.funs.mem hb
  exact I.base.free b o ho (I.ok.frf b hb) fun z=>I.ok.exfs b z hb
theorem zC.step {g':Array GenState} {t':Nat} {d':Drawn} {ch:List Addr} (I:zC X pins σ H s)
  (hch:∀ b∈ch,(b∈X.ex\/X.s₀.heap.objs.size<=b)/\b≠X.env.locals/\(∀ x c,X.env.cells.lookup x=some c->c≠b)/\∀ p∈X.pn++pins,p.1≠b)
  (keep:∀ b o,b≠X.env.locals->b ∉ X.fs->b ∉ ch->s.heap.get? b=some o->H b=none->h'.get? b=some o)
  (slot:∀ b o,b≠X.env.locals->b∈X.fs->b ∉ ch->s.heap.get? b=some o->H b=none->∃ sl,h'.get? b=some { o with slots:=sl }) (free:∀ b o,b ∉ ch->s.heap.get? b=some o->H b=none->H' b=none)
  (there:∀ b o,b ∉ ch->s.heap.get? b=some o->∃ o',h'.get? b=some o')
  (tups:∀ b xs,H b=some (.tup xs)->H' b=some (.tup xs)) (frzs:∀ b o u,H b=some (.frz o u)->H' b=some (.frz o u)) (tbls:∀ b ps,H b=some (.tbl ps)->∃ more,H' b=some (.tbl (ps++more)))
  (ns:∀ m,s.heap.Ns X.env.locals m->h'.Ns X.env.locals m) (hok:yd X.prog X.w H' h') (hg:AllBare g') :
  zC X pins σ H' { s with heap:=h',gens:=g',drawn:=d',toks:=t' }:=by
 have neL:∀ b o,X.s₀.heap.get? b=some o->b≠X.env.locals:=fun b o e=>Nat.ne_of_lt (Nat.lt_of_lt_of_le (Heap.lt_size e) I.ok.above)
 have neC:∀ b o,X.s₀.heap.get? b=some o->b ∉ X.ex->b ∉ ch:=fun b o e hx hb=>by
  rcases (hch b hb).1 with z | z
  ·exact hx z
  ·exact absurd (Nat.lt_of_lt_of_le (Heap.lt_size e) z) (Nat.lt_irrefl _)
 have cellK:∀ x c,X.env.cells.lookup x=some c->∀ v,s.heap.IsCell c v->h'.IsCell c v:=fun x c e v ⟨o,ho,hd⟩=>by
  have nch:c ∉ ch:=fun z=>(hch c z).2.2.1 x c e rfl
  by_cases hc:c∈X.fs
  ·obtain ⟨sl,q⟩:=slot c o (I.cne x c e) hc nch ho (I.freeC x c e)
   exact ⟨_,q,hd⟩
  ·exact ⟨o,keep c o (I.cne x c e) hc nch ho (I.freeC x c e),hd⟩
 refine ⟨I.ok,I.os,hg,⟨fun b o e n hb hx=>?_,fun b o e n hb hx=>?_,fun b o e n hx=>?_,fun b o e hx=>?_,fun b xs e=>tups b xs (I.base.tups b xs e),fun b o xs e=>frzs b o xs (I.base.frzs b o xs e),fun b ps e=>?_⟩,?_,fun x c e=>?_,?_,fun x c e=>?_,fun p hp=>?_,hok,I.len⟩
 ·exact keep b o (neL b o e) hb (neC b o e hx) (I.base.keep b o e n hb hx) (I.base.free b o e n hx)
 ·obtain ⟨sl,e1⟩:=I.base.slot b o e n hb hx
  obtain ⟨sl',e2⟩:=slot b _ (neL b o e) hb (neC b o e hx) e1 (I.base.free b o e n hx)
  exact ⟨sl',e2⟩
 ·obtain ⟨o',e1⟩:=I.base.there b o e hx
  exact free b o' (neC b o e hx) e1 (I.base.free b o e n hx)
 ·obtain ⟨o',e1⟩:=I.base.there b o e hx
  exact there b o' (neC b o e hx) e1
 ·obtain ⟨m1,e1⟩:=I.base.tbls b ps e
  obtain ⟨m2,e2⟩:=tbls b _ e1
  exact ⟨m1++m2,by rw [e2,Array.append_assoc]⟩
 ·obtain ⟨m,hn,hl⟩:=I.loc
  refine ⟨m,ns m hn,fun i x v e1 e2 e3=>?_⟩
  obtain ⟨u,r,l⟩:=hl i x v e1 e2 e3
  refine ⟨u,r,?_⟩
  rcases l with l | ⟨k,c,e,z⟩
  ·exact .inl l
  ·exact .inr ⟨k,c,e,cellK x c e _ z⟩
 ·obtain ⟨v,z⟩:=I.cell x c e
  exact ⟨v,cellK x c e v z⟩
 ·obtain ⟨m,⟨o,_,_,ho,_⟩,_⟩:=I.loc
  exact free _ o (fun z=>(hch _ z).2.1 rfl) ho I.free
 ·obtain ⟨v,o,ho,hd⟩:=I.cell x c e
  exact free c o (fun z=>(hch c z).2.2.1 x c e rfl) ho (I.freeC x c e)
 ·obtain ⟨e,n,ne,nf,d⟩:=I.pin p hp
  have nch:p.1 ∉ ch:=fun z=>(hch p.1 z).2.2.2 p hp rfl
  exact ⟨keep p.1 p.2 ne nf nch e n,free p.1 p.2 nch e n,ne,nf,d⟩
theorem zC.un {t':Nat} (I:zC X pins σ H s) (u:Un X.fs [] H H' s.heap h') (hok:yd X.prog X.w H' h'):zC X pins σ H' { s with heap:=h',toks:=t' }:=by
 obtain ⟨m,⟨o,es,ep,ho,r⟩,_⟩:=id I.loc
 obtain ⟨sl,hL⟩:=u.any ho I.free (by simp)
 exact I.step (g':=s.gens) (d':=s.drawn) (ch:=[]) (fun _ z=>nomatch z) (fun b o _ hb _ e n=>u.keep b o e n hb (by simp)) (fun b o _ hb _ e n=>u.slot b o e n hb (by simp)) (fun b o _ e n=>u.free b o e n (by simp)) (fun b o _ e=>u.there b o e (by simp)) u.tups u.frzs u.tbls (fun m' hm=>by
  obtain ⟨o',es',ep',ho',r'⟩:=hm
  rw [ho] at ho'; cases ho'
  exact ⟨_,es',ep',hL,r'⟩) hok I.bare
theorem zC.call {g':Array GenState} {t':Nat} {d':Drawn} {ch:List Addr} (I:zC X pins σ H s) (u:Un (vR X.stack) ch H H' s.heap h') (hok:yd X.prog X.w H' h') (hg:AllBare g')
  (hch:∀ b∈ch,(b∈X.ex\/X.s₀.heap.objs.size<=b)/\b≠X.env.locals/\(∀ x c,X.env.cells.lookup x=some c->c≠b)/\∀ p∈X.pn++pins,p.1≠b) :
  zC X pins σ H' { s with heap:=h',gens:=g',drawn:=d',toks:=t' }:=by
 obtain ⟨m,⟨o,es,ep,ho,r⟩,_⟩:=id I.loc
 obtain ⟨sl,hL⟩:=u.any ho I.free fun z=>(hch _ z).2.1 rfl
 exact I.step (ch:=ch) hch (fun b o hL hb hc e n=>u.keep b o e n (fun z=>(List.mem_cons.mp (I.stkSub b z)).elim hL hb) hc) (fun b o _ _ hc e n=>u.any e n hc) (fun b o hc e n=>u.free b o e n hc) (fun b o hc e=>u.there b o e hc) u.tups u.frzs u.tbls (fun m' hm=>by
  obtain ⟨o',es',ep',ho',r'⟩:=hm
  rw [ho] at ho'; cases ho'
  exact ⟨_,es',ep',hL,r'⟩) hok hg
theorem zC.turned {t':Nat} {it:Addr} (I:zC X pins σ H s) (k:∀ b o,b≠it->s.heap.get? b=some o->h'.get? b=some o) (hn:H it=none) (hL:it≠X.env.locals)
  (h1:it∈X.ex\/X.s₀.heap.objs.size<=it) (h2:∀ x c,X.env.cells.lookup x=some c->c≠it) (h3:∀ p∈X.pn++pins,p.1≠it):zC X pins σ H { s with heap:=h',toks:=t' }:=by
 have nit:∀ b u,H b=some u->b≠it:=fun b u e z=>by rw [z,hn] at e; cases e
 refine I.step (g':=s.gens) (d':=s.drawn) (ch:=[it]) (fun b hb=>?_) (fun b o _ _ hc e _=>k b o (fun z=>hc (by simp [z])) e) (fun b o _ _ hc e _=>⟨o.slots,k b o (fun z=>hc (by simp [z])) e⟩) (fun _ _ _ _ n=>n)
  (fun b o hc e=>⟨o,k b o (fun z=>hc (by simp [z])) e⟩) (fun _ _ e=>e) (fun _ _ _ e=>e) (fun b ps e=>⟨#[],by rw [e]; simp⟩) (fun m hm=>?_) (fun b u e=>?_) I.bare
 ·have e:b=it:=by simpa using hb
  subst e
  exact ⟨h1,hL,h2,h3⟩
 ·obtain ⟨o,es,ep,ho,r⟩:=hm
  exact ⟨o,es,ep,k _ o (Ne.symm hL) ho,r⟩
 ·refine (I.hok b u e).stay (fun c v hc q=>k c v ?_ q) (fun _ q=>q) fun _ _ q=>q
  rcases hc with z | z
  ·rw [z]; exact nit b u e
  ·exact nit c _ z
theorem zC.tok (I:zC X pins σ H s) (t:Nat):zC X pins σ H { s with toks:=t }:=I.un (h':=s.heap) (t':=t) Un.refl I.hok
theorem zC.kept {t':Nat} (I:zC X pins σ H s) (k:∀ b u,s.heap.get? b=some u->h'.get? b=some u):zC X pins σ H { s with heap:=h',toks:=t' }:=I.un (Un.kept k) (I.hok.kept k)
theorem zC.laid {a:Addr} {o:HO} {t':Nat} (I:zC X pins σ H s) (k:∀ b u,s.heap.get? b=some u->h'.get? b=some u) (hp:s.heap.objs.size<=a) (new:yh X.prog X.w (zR H a o) h' a o) :
  zC X pins σ (zR H a o) { s with heap:=h',toks:=t' }:=I.un (Un.laid k hp (I.hok.fresh hp)) (I.hok.laid k hp new)
theorem zC.write {x e:Addr} {o:HO} {t':Nat} (I:zC X pins σ H s) (mu:gO (H x)) (he:e=x\/H e=some (.own x)) (k:∀ b u,b≠e->s.heap.get? b=some u->h'.get? b=some u) (heo:∃ u,h'.get? e=some u)
  (new:yh X.prog X.w (zR H x o) h' x o):zC X pins σ (zR H x o) { s with heap:=h',toks:=t' }:=I.un (Un.write mu he k heo) (I.hok.write mu he k heo new)
theorem zC.weak {σ':List (Option V)} (I:zC X pins σ H s) (hl:σ'.length=σ.length) (w:∀ (i:Nat) v,σ'[i]?=some (some v)->σ[i]?=some (some v)):zC X pins σ' H s:=
 ⟨I.ok,I.os,I.bare,I.base,let ⟨m,hn,hl'⟩:=I.loc; ⟨m,hn,fun i x v e1 e2 e3=>hl' i x v e1 (w i v e2) e3⟩,I.cell,I.free,I.freeC,I.pin,I.hok,hl.trans I.len⟩
theorem zC.pins_of {pins':List (Addr×Obj)} (I:zC X pins σ H s) (h:∀ p∈pins',s.heap.get? p.1=some p.2/\H p.1=none/\p.1≠X.env.locals/\p.1 ∉ X.fs/\∀ v,p.2.data≠.cell v):zC X pins' σ H s:=
 ⟨I.ok,I.os,I.bare,I.base,I.loc,I.cell,I.free,I.freeC,fun p hp=>(List.mem_append.mp hp).elim (fun z=>I.pin p (List.mem_append_left _ z)) (h p),I.hok,I.len⟩
theorem JM {N:List Str} (hN:N.Nodup) {i j:Nat} {x:Str} (a:N[i]?=some x) (b:N[j]?=some x):i=j:=by
 obtain ⟨h1,e1⟩:=List.getElem?_eq_some_iff.mp a
 obtain ⟨h2,e2⟩:=List.getElem?_eq_some_iff.mp b
 exact (List.getElem_inj hN).mp (e1.trans e2.symm)
theorem Hf {M:Model} {A:Around} {E:Value->Shared->Prop} {i:Nat} {x:Str} {v:V} {u:Value} {Q:Unit->Shared->Prop} (I:zC X pins σ H s) (hN:X.N.Nodup) (hi:X.N[i]?=some x) (hx:vZ X.env.scope x) (r:zY v u)
  (h:∀ s',zC X pins (σ.set i (some v)) H s'->(∃ a,Heap.SameBut a s.heap s'.heap/\(a=X.env.locals\/X.env.cells.lookup x=some a))->Q () s') (hf:X.fn x=true\/X.env.scope.names.lookup x=some .local:=by first | exact .inl rfl | exact .inr rfl | assumption):wpAny M A (storeName X.env x u) Q E s:=by
 obtain ⟨m,hn,hl⟩:=id I.loc
 have hcls:(X.env.scope.kind == .class||(X.env.scope.kind == .module&&X.env.locals != X.env.globals))=false:=by rw [I.ok.kind]; rfl
 have hiσ:i<σ.length:=by rw [I.len]; exact (List.getElem?_eq_some_iff.mp hi).1
 have cne:=I.cne
 have tracked:∀ {a:Addr} {h':Heap},(∃ o,s.heap.get? a=some o/\H a=none)->Heap.SameBut a s.heap h'->yd X.prog X.w H h':=fun {a h'} ha hs b ob e=>by
  obtain ⟨_,_,hfree⟩:=ha
  refine (I.hok b ob e).stay (fun c w' hc q=>(hs.2 c ?_).trans q) (fun _ q=>q) fun _ _ q=>q
  rintro rfl
  rcases hc with rfl | hc
  ·rw [hfree] at e; cases e
  ·rw [hfree] at hc; cases hc
 rcases hx with hk | hk
 ·refine wpAny_storeName_local hk hn (fun h' hn' hs=>?_) hcls
  obtain ⟨oL,_,_,hoL,_⟩:=id hn
  refine h _ ⟨I.ok,I.os,I.bare,⟨fun b o e n hb hx=>?_,fun b o e n hb hx=>?_,I.base.free,fun b o e hx=>?_,I.base.tups,I.base.frzs,I.base.tbls⟩,⟨_,hn',fun j y v' e1 e2 e3=>?_⟩,fun y c e=>?_,I.free,I.freeC,fun p hp=>?_,tracked ⟨oL,hoL,I.free⟩ hs,by simpa using I.len⟩ ⟨_,hs,.inl rfl⟩
  ·exact (hs.2 b (Nat.ne_of_lt (Nat.lt_of_lt_of_le (Heap.lt_size e) I.ok.above))).trans (I.base.keep b o e n hb hx)
  ·obtain ⟨sl,e1⟩:=I.base.slot b o e n hb hx
   exact ⟨sl,(hs.2 b (Nat.ne_of_lt (Nat.lt_of_lt_of_le (Heap.lt_size e) I.ok.above))).trans e1⟩
  ·obtain ⟨o',e1⟩:=I.base.there b o e hx
   exact ⟨o',(hs.2 b (Nat.ne_of_lt (Nat.lt_of_lt_of_le (Heap.lt_size e) I.ok.above))).trans e1⟩
  ·by_cases hj:j=i
   ·subst hj
    rw [hi] at e1; cases e1
    rw [List.getElem?_set_self hiσ] at e2
    cases e2
    exact ⟨u,r,.inl ⟨hk,by simp⟩⟩
   ·rw [List.getElem?_set_ne (Ne.symm hj)] at e2
    obtain ⟨u',r',q⟩:=hl j y v' e1 e2 e3
    refine ⟨u',r',?_⟩
    rcases q with ⟨k,e⟩ | ⟨k,c,e,z⟩
    ·refine .inl ⟨k,?_⟩
     have:y≠x:=fun e=>hj (JM hN e1 (e ▸ hi))
     simp [this,e]
    ·exact .inr ⟨k,c,e,z.sameBut hs (cne y c e)⟩
  ·obtain ⟨w',z⟩:=I.cell y c e
   exact ⟨w',z.sameBut hs (cne y c e)⟩
  ·obtain ⟨e,n,ne,nf,d⟩:=I.pin p hp
   exact ⟨(hs.2 p.1 ne).trans e,n,ne,nf,d⟩
 ·have hfn:X.fn x=true:=by
   rcases hf with z | z
   ·exact z
   ·rw [z] at hk; cases hk
  obtain ⟨c,hc⟩:=I.ok.has x (.inl hk)
  obtain ⟨w',z⟩:=I.cell x c hc
  refine wpAny_storeName_cell I.ok.kind hk hc z (fun h' hc' hs=>?_)
  obtain ⟨oc,hoc,hocd⟩:=id z
  refine h { s with heap:=h' } ⟨I.ok,I.os,I.bare,⟨fun b o e n hb hx=>?_,fun b o e n hb hx=>?_,I.base.free,fun b o e hx=>?_,I.base.tups,I.base.frzs,I.base.tbls⟩,⟨m,hn.sameBut hs (Ne.symm (cne x c hc)),fun j y v' e1 e2 e3=>?_⟩,fun y c' e=>?_,I.free,I.freeC,fun p hp=>?_,tracked ⟨oc,hoc,I.freeC x c hc⟩ hs,by simpa using I.len⟩ ⟨c,hs,.inr hc⟩
  ·exact (hs.2 b (Nat.ne_of_lt (Nat.lt_of_lt_of_le (Heap.lt_size e) (I.ok.cab x c hfn hc)))).trans (I.base.keep b o e n hb hx)
  ·obtain ⟨sl,e1⟩:=I.base.slot b o e n hb hx
   exact ⟨sl,(hs.2 b (Nat.ne_of_lt (Nat.lt_of_lt_of_le (Heap.lt_size e) (I.ok.cab x c hfn hc)))).trans e1⟩
  ·obtain ⟨o',e1⟩:=I.base.there b o e hx
   exact ⟨o',(hs.2 b (Nat.ne_of_lt (Nat.lt_of_lt_of_le (Heap.lt_size e) (I.ok.cab x c hfn hc)))).trans e1⟩
  ·by_cases hj:j=i
   ·subst hj
    rw [hi] at e1; cases e1
    rw [List.getElem?_set_self hiσ] at e2
    cases e2
    exact ⟨u,r,.inr ⟨.inl hk,c,hc,hc'⟩⟩
   ·rw [List.getElem?_set_ne (Ne.symm hj)] at e2
    obtain ⟨u',r',q⟩:=hl j y v' e1 e2 e3
    refine ⟨u',r',?_⟩
    rcases q with q | ⟨k,c',e,z'⟩
    ·exact .inl q
    ·refine .inr ⟨k,c',e,z'.sameBut hs ?_⟩
     rintro rfl
     exact hj (JM hN e1 (I.ok.inj _ _ _ e hc ▸ hi))
  ·by_cases hcc:c'=c
   ·subst hcc; exact ⟨_,hc'⟩
   ·obtain ⟨w2,z2⟩:=I.cell y c' e
    exact ⟨w2,z2.sameBut hs hcc⟩
  ·obtain ⟨e,n,ne,nf,d⟩:=I.pin p hp
   refine ⟨(hs.2 p.1 ?_).trans e,n,ne,nf,d⟩
   intro q
   rw [q,hoc] at e
   have q':oc=p.2:=Option.some.inj e
   exact d w' (by rw [<- q']; exact hocd)
theorem Uq {M:Model} {A:Around} {E:Value->Shared->Prop} {i:Nat} {x:Str} {v:V} {u:Value} {Q:Unit->Shared->Prop} (I:zC X pins σ H s) (hN:X.N.Nodup) (hi:X.N[i]?=some x) (hx:vZ X.env.scope x) (r:zY v u)
  (h:∀ s',zC X pins (σ.set i (some v)) H s'->Q () s') (hf:X.fn x=true\/X.env.scope.names.lookup x=some .local:=by first | exact .inl rfl | exact .inr rfl | assumption):wpAny M A (storeName X.env x u) Q E s:=
 Hf I hN hi hx r (fun s' I' _=>h s' I') hf
theorem zC.call' {s':Shared} {ch:List Addr} (I:zC X pins σ H s) (ho:s'.os=s.os) (u:Un (vR X.stack) ch H H' s.heap s'.heap) (hok:yd X.prog X.w H' s'.heap) (hg:AllBare s'.gens)
  (hch:∀ b∈ch,(b∈X.ex\/X.s₀.heap.objs.size<=b)/\b≠X.env.locals/\(∀ x c,X.env.cells.lookup x=some c->c≠b)/\∀ p∈X.pn++pins,p.1≠b):zC X pins σ H' s':=by
 obtain ⟨h',g',d',t',o'⟩:=s'
 have e:o'=s.os:=ho
 subst e
 exact I.call (g':=g') (t':=t') (d':=d') u hok hg hch
end
noncomputable abbrev XK:=Value->Option Addr->Hp->Prop
noncomputable abbrev St:=List (Option V)
noncomputable abbrev VK:=V->Hp->Prop
noncomputable abbrev TE:=St->Hp->VK->Prop
noncomputable abbrev TT:=St->Hp->(Bool->Hp->Prop)->Prop
noncomputable abbrev TA:=St->Hp->(List V->Hp->Prop)->Prop
structure wS where
 nx:St->Hp->Prop
 rt:VK
 bk:St->Hp->Prop:=fun _ _=>False
 ct:St->Hp->Prop:=fun _ _=>False
noncomputable abbrev TS:=wS->St->Hp->Prop
noncomputable def EP (X:Cx) (pins:List (Addr×Obj)) (σ:St) (Q:VK) (u:Value) (s':Shared):Prop:=∃ v H',zC X pins σ H' s'/\zY v u/\Q v H'
noncomputable def TP (X:Cx) (pins:List (Addr×Obj)) (σ:St) (Q:Bool->Hp->Prop) (b:Bool) (s':Shared):Prop:=∃ H',zC X pins σ H' s'/\Q b H'
noncomputable def AP (X:Cx) (pins:List (Addr×Obj)) (σ:St) (Q:List V->Hp->Prop) (us:List Value) (s':Shared):Prop:=∃ vs H',zC X pins σ H' s'/\zZ vs us/\Q vs H'
noncomputable def SP (X:Cx) (pins:List (Addr×Obj)) (D:wS) (f:Flow) (s':Shared):Prop:=
 match f with
 | .next=>∃ σ' H',zC X pins σ' H' s'/\D.nx σ' H'
 | .brk=>∃ σ' H',zC X pins σ' H' s'/\D.bk σ' H'
 | .cont=>∃ σ' H',zC X pins σ' H' s'/\D.ct σ' H'
 | .ret u=>∃ v σ' H',zC X pins σ' H' s'/\zY v u/\D.rt v H'
noncomputable def PE (X:Cx) (e:Expr) (t:TE):Prop:=
 ∀ (pins:List (Addr×Obj)) (s:Shared) (σ:St) (H:Hp) (Q:VK),zC X pins σ H s->t σ H Q->wpAny (model X.prog X.w) X.A (eval e X.env) (EP X pins σ Q) X.xe s
noncomputable def PT (X:Cx) (e:Expr) (t:TT):Prop:=
 ∀ (pins:List (Addr×Obj)) (s:Shared) (σ:St) (H:Hp) (Q:Bool->Hp->Prop),zC X pins σ H s->t σ H Q->wpAny (model X.prog X.w) X.A (isTrue e X.env (eval e X.env)) (TP X pins σ Q) X.xe s
noncomputable def PW (X:Cx) (e:Expr) (t:TT):Prop:=
 ∀ (whole:Sem Value) (pins:List (Addr×Obj)) (s:Shared) (σ:St) (H:Hp) (Q:Bool->Hp->Prop),zC X pins σ H s->t σ H Q->wpAny (model X.prog X.w) X.A (isTrue e X.env whole) (TP X pins σ Q) X.xe s
theorem PW.pt {X:Cx} {e:Expr} {t:TT} (h:PW X e t):PT X e t:=h _
noncomputable def PA (X:Cx) (es:List Expr) (t:TA):Prop:=
 ∀ (pos:Pos) (pins:List (Addr×Obj)) (s:Shared) (σ:St) (H:Hp) (Q:List V->Hp->Prop),zC X pins σ H s->t σ H Q->wpAny (model X.prog X.w) X.A (spliced (backTo pos (starEach es X.env))) (AP X pins σ Q) X.xe s
noncomputable def PS (X:Cx) (st:Stmt) (t:TS):Prop:=
 ∀ (pins:List (Addr×Obj)) (s:Shared) (σ:St) (H:Hp) (D:wS),zC X pins σ H s->t D σ H->wpAny (model X.prog X.w) X.A (exec st X.env) (SP X pins D) X.xe s
noncomputable def x_ (X:Cx) (st:List Stmt) (t:TS):Prop:=
 ∀ (pins:List (Addr×Obj)) (s:Shared) (σ:St) (H:Hp) (D:wS),zC X pins σ H s->t D σ H->wpAny (model X.prog X.w) X.A (execs st X.env) (SP X pins D) X.xe s
theorem zd {α:Type} {t:Sem α} {Q Q':α->Shared->Prop} {M:Model} {A:Around} {E:Value->Shared->Prop} {s:Shared} (h:wpAny M A t Q E s) (hQ:∀ a s,Q a s->Q' a s):wpAny M A t Q' E s:=wpAny_mono h hQ fun _ _ x=>x
end L2
namespace L2
open PySem PySem.Spec PyProof.Rows
section
variable {X:Cx}
noncomputable def YF (i:Nat):TE:=fun σ H Q=>∃ v,σ[i]?=some (some v)/\Q v H
noncomputable def tC (v:V):TE:=fun _ H Q=>Q v H
theorem kC {i:Nat} {x:Str} {pos:Pos} (hN:X.N[i]?=some x) (hv:qQ X.env.scope x) (hd:(x == ("__debug__" : Str))=false:=by decide) (hcd:(x == ("__classdict__" : Str))=false:=by decide):PE X (.Name x pos) (YF i):=by
 intro pins s σ H Q I h
 obtain ⟨v,e,h⟩:=h
 obtain ⟨m,hn,hl⟩:=I.loc
 obtain ⟨u,r,l⟩:=hl i x v hN e hv
 have fin:EP X pins σ Q u s:=⟨v,H,I,r,h⟩
 rcases l with ⟨hk,hm⟩ | ⟨hk,c,hc,hcell⟩
 ·exact wpAny_Name (wpAny_loadName_local I.ok.kind hk hn hm fin) hd
 ·rcases hk with hk | hk
  ·exact wpAny_Name (wpAny_loadName_cell I.ok.kind hk hc hcell fin) hd
  ·exact wpAny_Name (wpAny_loadName_free I.ok.kind hk hc hcell fin hcd) hd
theorem Cn {i j pos}:PE X (.Constant (.int i) j pos) (tC (.int i)):=fun _ _ _ H _ I h=>wpAny_Constant_int ⟨.int i,H,I.tok _,⟨_,rfl⟩,h⟩
theorem CW {b j pos}:PE X (.Constant (.bool b) j pos) (tC (.bl b)):=fun _ _ _ H _ I h=>Constant_bool ⟨.bl b,H,I,rfl,h⟩
theorem Cq {j pos}:PE X (.Constant .none j pos) (tC .non):=fun _ _ _ H _ I h=>Constant_none ⟨.non,H,I,rfl,h⟩
theorem Cu {x j pos}:PE X (.Constant (.str x) j pos) (tC (.str x)):=fun _ _ _ H _ I h=>Calls.Constant_str ⟨.str x,H,I.tok _,⟨_,rfl⟩,h⟩
noncomputable def Gl (X:Cx) (x:Str):Prop:=X.env.kindOf x=some .globalImplicit
theorem gr {E:Value->Shared->Prop} {pins:List (Addr×Obj)} {s:Shared} {σ:St} {H:Hp} {x:Str} {u:Value} {pos:Pos} {Q:Value->Shared->Prop} (I:zC X pins σ H s) (hg:Gl X x) (hm:X.mg x=some u) (h:Q u s)
  (hd:(x == ("__debug__" : Str))=false:=by decide):wpAny (model X.prog X.w) X.A (eval (.Name x pos) X.env) Q E s:=
 Calls.Name_function_global I.ok.kind hg (Calls.loadGlobal_global (by rw [I.ok.glob]; exact I.mod.glob.keeps I.bk) hm h) hd
theorem jd {E:Value->Shared->Prop} {pins:List (Addr×Obj)} {s:Shared} {σ:St} {H:Hp} {x:Str} {u:Value} {pos:Pos} {Q:Value->Shared->Prop} (I:zC X pins σ H s) (hg:Gl X x) (hm:X.mg x=none) (hv:bootBuiltins x=some u) (h:Q u s)
  (hn:x ≠ "__name__" := by decide) (hd:(x == ("__debug__" : Str))=false:=by decide):wpAny (model X.prog X.w) X.A (eval (.Name x pos) X.env) Q E s:=by
 obtain ⟨mb,h1,h2⟩:=I.mod.blt
 exact Calls.Name_function_global I.ok.kind hg (Calls.loadGlobal_builtin (by rw [I.ok.glob]; exact I.mod.glob.keeps I.bk) hm (by rw [I.ok.blt]; exact h1.keeps I.bk) ((h2 x hn).trans hv) h) hd
theorem Cl {x:Str} {v:V} {u:Value} {pos:Pos} (hg:Gl X x) (hm:X.mg x=some u) (r:zY v u) (hd:(x == ("__debug__" : Str))=false:=by decide):PE X (.Name x pos) (tC v):=
 fun _ _ _ H _ I h=>gr I hg hm ⟨v,H,I,r,h⟩ hd
theorem CY {x:Str} {v:V} {u:Value} {pos:Pos} (hg:Gl X x) (hm:X.mg x=none) (hv:bootBuiltins x=some u) (r:zY v u) (hn:x ≠ "__name__" := by decide) (hd:(x == ("__debug__" : Str))=false:=by decide):PE X (.Name x pos) (tC v):=
 fun _ _ _ H _ I h=>jd I hg hm hv ⟨v,H,I,r,h⟩ hn hd
variable {a b:Expr} {ta tb:TE} {pos:Pos}
noncomputable def tB (t:TE):TT:=fun σ H Q=>t σ H fun x H1=>∃ c,x=.bl c/\Q c H1
theorem Jp {e:Expr} {t:TE} (h:PE X e t) (he:∀ whole,isTrue e X.env whole=(do let v <- whole; standAt e.pos; holding [v] (truthy v)):=by intro _; rfl):PT X e (tB t):=by
 intro pins s σ H Q I hw
 refine isTrue_plain (zd (h pins s σ H _ I hw) fun v s1 ⟨x,H1,I1,r1,q1⟩=>?_) (he _)
 obtain ⟨d,rfl,q⟩:=q1
 cases r1
 exact wpAny_truthy_bool ⟨H1,I1,q⟩
variable {tA tB':TT} {za:List Expr}
noncomputable def Hi (t u:TT):TT:=fun σ H Q=>t σ H fun c H1=>if c=true then u σ H1 Q else Q false H1
noncomputable def H_ (t u:TT):TT:=fun σ H Q=>t σ H fun c H1=>if c=true then Q true H1 else u σ H1 Q
noncomputable def Hy (t:TT):TT:=fun σ H Q=>t σ H fun c H1=>Q (!c) H1
theorem Jy (ha:PT X a tA):PW X (.BoolOp .And [a] pos) tA:=by
 intro wh pins s σ H Q I h
 refine isTrue_and (zd (ha pins s σ H Q I h) fun c s1 e=>?_)
 cases c with
 | true=>exact isTrue_and_nil e
 | false=>exact e
theorem EY (ha:PT X a tA):PW X (.BoolOp .Or [a] pos) tA:=by
 intro wh pins s σ H Q I h
 refine isTrue_or (zd (ha pins s σ H Q I h) fun c s1 e=>?_)
 cases c with
 | false=>exact isTrue_or_nil e
 | true=>exact e
theorem Jx (ha:PT X a tA) (hb:PW X (.BoolOp .And (b::za) pos) tB'):PW X (.BoolOp .And (a::b::za) pos) (Hi tA tB'):=by
 intro wh pins s σ H Q I h
 refine isTrue_and (zd (ha pins s σ H _ I h) fun c s1 ⟨H1,I1,q1⟩=>?_)
 cases c with
 | true=>exact hb wh pins s1 σ H1 Q I1 q1
 | false=>exact ⟨H1,I1,q1⟩
theorem EX (ha:PT X a tA) (hb:PW X (.BoolOp .Or (b::za) pos) tB'):PW X (.BoolOp .Or (a::b::za) pos) (H_ tA tB'):=by
 intro wh pins s σ H Q I h
 refine isTrue_or (zd (ha pins s σ H _ I h) fun c s1 ⟨H1,I1,q1⟩=>?_)
 cases c with
 | true=>exact ⟨H1,I1,q1⟩
 | false=>exact hb wh pins s1 σ H1 Q I1 q1
theorem EQ (ha:PT X a tA):PT X (.UnaryOp .Not a pos) (Hy tA):=by
 intro pins s σ H Q I h
 exact isTrue_not (ha pins s σ H (fun c H1=>Q (!c) H1) I h)
noncomputable def Hj (ta tb:TE):TE:=fun σ H Q=>ta σ H fun x H1=>∃ c,x=.bl c/\if c=true then tb σ H1 Q else Q (.bl false) H1
noncomputable def K6 (ta tb:TE):TE:=fun σ H Q=>ta σ H fun x H1=>∃ c,x=.bl c/\if c=true then Q (.bl true) H1 else tb σ H1 Q
noncomputable def Hz (ta:TE):TE:=fun σ H Q=>ta σ H fun x H1=>∃ c,x=.bl c/\Q (.bl (!c)) H1
theorem Cs {op} {t:TE} (h:PE X a t):PE X (.BoolOp op [a] pos) t:=fun pins s σ H Q I hw=>BoolOp_one (h pins s σ H Q I hw)
theorem CV (ha:PE X a ta) (hb:PE X (.BoolOp .And (b::za) pos) tb):PE X (.BoolOp .And (a::b::za) pos) (Hj ta tb):=by
 intro pins s σ H Q I h
 refine BoolOp_and (zd (ha pins s σ H _ I h) fun v s1 ⟨x,H1,I1,r1,q1⟩=>?_)
 obtain ⟨c,rfl,q1⟩:=q1
 cases r1
 refine wpAny_truthy_bool ?_
 cases c with
 | true=>exact hb pins s1 σ H1 Q I1 q1
 | false=>exact ⟨.bl false,H1,I1,rfl,q1⟩
theorem Ct (ha:PE X a ta) (hb:PE X (.BoolOp .Or (b::za) pos) tb):PE X (.BoolOp .Or (a::b::za) pos) (K6 ta tb):=by
 intro pins s σ H Q I h
 refine BoolOp_or (zd (ha pins s σ H _ I h) fun v s1 ⟨x,H1,I1,r1,q1⟩=>?_)
 obtain ⟨c,rfl,q1⟩:=q1
 cases r1
 refine wpAny_truthy_bool ?_
 cases c with
 | false=>exact hb pins s1 σ H1 Q I1 q1
 | true=>exact ⟨.bl true,H1,I1,rfl,q1⟩
theorem Cr (ha:PE X a ta):PE X (.UnaryOp .Not a pos) (Hz ta):=by
 intro pins s σ H Q I h
 refine UnaryOp_ (zd (ha pins s σ H _ I h) fun v s1 ⟨x,H1,I1,r1,q1⟩=>?_)
 obtain ⟨c,rfl,q1⟩:=q1
 cases r1
 exact not_of (wpAny_truthy_bool ⟨.bl (!c),H1,I1,rfl,q1⟩)
noncomputable def Hr (t:TT) (ta tb:TE):TE:=fun σ H Q=>t σ H fun c H1=>if c=true then ta σ H1 Q else tb σ H1 Q
theorem Cm {c:Expr} (hc:PT X c tA) (ha:PE X a ta) (hb:PE X b tb):PE X (.IfExp c a b pos) (Hr tA ta tb):=by
 intro pins s σ H Q I h
 refine wpAny_IfExp (zd (hc pins s σ H _ I h) fun d s1 ⟨H1,I1,q1⟩=>?_)
 cases d with
 | true=>exact ha pins s1 σ H1 Q I1 q1
 | false=>exact hb pins s1 σ H1 Q I1 q1
end
end L2
namespace L2
open PySem PySem.Spec PyProof.Rows
noncomputable def yC (K:PySem.W.Frag) (H:Hp) (a:Addr) (xs:List V):Prop:=
 Rd H a (.lst xs) \/
  ∃ (o:Obj) (its:Array Value) (n:Nat),K.lookup a=some o/\o.cls=.type "list" /\ o.dict=none/\o.data=.seq its n/\its.size<=sizeLine/\zZ xs its.toList
noncomputable def yM (K:PySem.W.Frag) (H:Hp) (a:Addr) (xs:List V):Prop:=
 Rd H a (.tup xs) \/
  ∃ (o:Obj) (its:Array Value) (n:Nat),K.lookup a=some o/\o.cls=.type "tuple" /\ o.data=.seq its n/\its.size<=sizeLine/\zZ xs its.toList
noncomputable def OX:Value->Option V
 | .none=>some .non
 | .bool b=>some (.bl b)
 | .int i _=>some (.int i)
 | .str x _=>some (.str x)
 | .bytes b _=>some (.byt b)
 | .float b _=>some (.flt b)
 | .ref a=>some (.ref a)
 | .type n=>some (.ty n)
 | _=>none
theorem zY.abs {x:V} {u:Value} (r:zY x u):OX u=some x:=by
 cases x with
 | non=>cases r; rfl
 | bl _=>cases r; rfl
 | int _=>obtain ⟨t,rfl⟩:=r; rfl
 | str _=>obtain ⟨t,rfl⟩:=r; rfl
 | byt _=>obtain ⟨t,rfl⟩:=r; rfl
 | flt _=>obtain ⟨t,rfl⟩:=r; rfl
 | ref _=>cases r; rfl
 | ty _=>cases r; rfl
theorem zY.inj {x y:V} {u:Value} (r:zY x u) (q:zY y u):x=y:=Option.some.inj (r.abs.symm.trans q.abs)
theorem zZ.inj:∀ {xs ys:List V} {us:List Value},zZ xs us->zZ ys us->xs=ys
 | _,_,_,.nil,.nil=>rfl
 | _,_,_,.cons r t,.cons r' t'=>by rw [r.inj r',zZ.inj t t']
section
variable {X:Cx} {pins:List (Addr×Obj)} {σ:St} {H:Hp} {s:Shared} {a:Addr} {xs ys:List V}
theorem yC.of {K:PySem.W.Frag} (h:H a=some (.lst xs)):yC K H a xs:=.inl (.inl h)
theorem yM.of {K:PySem.W.Frag} (h:H a=some (.tup xs)):yM K H a xs:=.inl (.inl h)
theorem zC.list (I:zC X pins σ H s) (h:yC X.K H a xs):∃ its:List Value,zZ xs its/\PlainL s.heap a its.toArray/\xs.length<=sizeLine:=by
 rcases h with h | ⟨o,its,n,hk,hc,hd,hs,hz,r⟩
 ·obtain ⟨z,its,n,r,e⟩:=h.ok I.hok
  exact ⟨its,r,⟨_,n,e,rfl,rfl,rfl⟩,z⟩
 ·refine ⟨its.toList,r,⟨o,n,I.kIn a o hk,hc,hd,by simpa using hs⟩,?_⟩
  have e:=r.length
  simp only [Array.length_toList] at e
  omega
theorem zC.tuple (I:zC X pins σ H s) (h:yM X.K H a xs):∃ its:List Value,zZ xs its/\IsTup s.heap a its.toArray/\xs.length<=sizeLine:=by
 rcases h with h | ⟨o,its,n,hk,hc,hs,hz,r⟩
 ·obtain ⟨z,its,r,p⟩:=h.ok I.hok
  exact ⟨its,r,p,z⟩
 ·refine ⟨its.toList,r,⟨o,I.kIn a o hk,hc,n,by simpa using hs⟩,?_⟩
  have e:=r.length
  simp only [Array.length_toList] at e
  omega
theorem zC.list_inj (I:zC X pins σ H s) (h:yC X.K H a xs) (h':yC X.K H a ys):xs=ys:=by
 obtain ⟨its,r,⟨o,n,e,_,_,d⟩,_⟩:=I.list h
 obtain ⟨its',r',⟨o',n',e',_,_,d'⟩,_⟩:=I.list h'
 rw [e] at e'; cases e'
 rw [d] at d'
 injection d' with d1 _
 have:its=its':=by simpa using congrArg Array.toList d1
 subst this
 exact r.inj r'
theorem zC.tuple_inj (I:zC X pins σ H s) (h:yM X.K H a xs) (h':yM X.K H a ys):xs=ys:=by
 obtain ⟨its,r,⟨o,e,_,n,d⟩,_⟩:=I.tuple h
 obtain ⟨its',r',⟨o',e',_,n',d'⟩,_⟩:=I.tuple h'
 rw [e] at e'; cases e'
 rw [d] at d'
 injection d' with d1 _
 have:its=its':=by simpa using congrArg Array.toList d1
 subst this
 exact r.inj r'
end
noncomputable abbrev Cx.wish (X:Cx) (E:Value->Shared->Prop):Cx:={ X with xe:=E }
noncomputable abbrev Cx.nox (X:Cx):Cx:=X.wish fun _ _=>False
theorem Cx.Ok.wish {X:Cx} (ok:X.Ok) (E:Value->Shared->Prop):(X.wish E).Ok:=
 ⟨ok.mod,ok.kind,ok.glob,ok.blt,ok.above,ok.inj,ok.has,ok.cab,ok.hd,ok.frames,ok.stk,ok.exf,ok.bs,ok.bsz,ok.noex,ok.exfs,ok.funs,ok.frf⟩
theorem Cx.Ok.unwish {X:Cx} {E:Value->Shared->Prop} (ok:(X.wish E).Ok):X.Ok:=
 ⟨ok.mod,ok.kind,ok.glob,ok.blt,ok.above,ok.inj,ok.has,ok.cab,ok.hd,ok.frames,ok.stk,ok.exf,ok.bs,ok.bsz,ok.noex,ok.exfs,ok.funs,ok.frf⟩
section
variable {X:Cx} {pins:List (Addr×Obj)} {σ:St} {H:Hp} {s:Shared} {E:Value->Shared->Prop}
theorem zC.wish (I:zC X pins σ H s) (E:Value->Shared->Prop):zC (X.wish E) pins σ H s:=⟨I.ok.wish E,I.os,I.bare,I.base,I.loc,I.cell,I.free,I.freeC,I.pin,I.hok,I.len⟩
theorem zC.unwish (I:zC (X.wish E) pins σ H s):zC X pins σ H s:=⟨I.ok.unwish,I.os,I.bare,I.base,I.loc,I.cell,I.free,I.freeC,I.pin,I.hok,I.len⟩
theorem SP.unwish {D:wS} {f:Flow} {s':Shared} (h:SP (X.wish E) pins D f s'):SP X pins D f s':=by
 cases f with
 | next=>obtain ⟨σ',H',I,q⟩:=h; exact ⟨σ',H',I.unwish,q⟩
 | brk=>obtain ⟨σ',H',I,q⟩:=h; exact ⟨σ',H',I.unwish,q⟩
 | cont=>obtain ⟨σ',H',I,q⟩:=h; exact ⟨σ',H',I.unwish,q⟩
 | ret u=>obtain ⟨v,σ',H',I,r,q⟩:=h; exact ⟨v,σ',H',I.unwish,r,q⟩
theorem x_.nox {st:List Stmt} {t:TS} (h:x_ X.nox st t):x_ X st t:=fun pins s σ H D I hw=>
 wpAny_mono (h pins s σ H D (I.wish _) hw) (fun _ _ q=>q.unwish) fun _ _ z=>False.elim z
end
section
variable {X:Cx} {st:Stmt} {za:List Stmt} {t u:TS} {e:Expr} {te:TE} {pos:Pos}
noncomputable def Hx:TS:=fun D σ H=>D.nx σ H
noncomputable def K8 (t u:TS):TS:=fun D σ H=>t { D with nx:=u D } σ H
theorem Jm:x_ X [] Hx:=fun _ _ σ H _ I h=>wpAny_execs_nil ⟨σ,H,I,h⟩
theorem Jl (h1:PS X st t) (h2:x_ X za u):x_ X (st::za) (K8 t u):=by
 intro pins s σ H D I h
 refine wpAny_execs_cons (zd (h1 pins s σ H { D with nx:=u D } I h) fun f s1 q=>?_)
 cases f with
 | next=>
  obtain ⟨σ',H',I',q⟩:=q
  exact h2 pins s1 σ' H' D I' q
 | ret v=>exact q
 | brk=>exact q
 | cont=>exact q
theorem Jn (h1:PS X st t):x_ X [st] t:=by
 intro pins s σ H D I h
 refine wpAny_execs_cons (zd (h1 pins s σ H D I h) fun f s1 q=>?_)
 cases f with
 | next=>exact wpAny_execs_nil q
 | ret v=>exact q
 | brk=>exact q
 | cont=>exact q
theorem zC.quiet {pins:List (Addr×Obj)} {σ:St} {H:Hp} {s:Shared} (I:zC X pins σ H s):interactive X.env=false:=by simp [interactive,I.ok.kind]
noncomputable def O0 (te:TE):TS:=fun D σ H=>te σ H fun _ H1=>D.nx σ H1
theorem Ji (he:PE X e te) (hs:swapsWith e none pos.line X.env=pure false:=by rfl):PS X (.Expr e pos) (O0 te):=by
 intro pins s σ H D I h
 exact wpAny_Expr_any (zd (he pins s σ H _ I h) fun v s1 ⟨x,H1,I1,r1,q1⟩=>⟨σ,H1,I1,q1⟩) I.quiet hs
noncomputable def K7 (te:TE):TS:=fun D σ H=>te σ H D.rt
theorem Zt (he:PE X e te):PS X (.Return (some e) pos) (K7 te):=by
 intro pins s σ H D I h
 exact wpAny_Return_some (zd (he pins s σ H _ I h) fun v s1 ⟨x,H1,I1,r1,q1⟩=>⟨x,σ,H1,I1,r1,q1⟩)
noncomputable def Hs (c:TT) (t u:TS):TS:=fun D σ H=>c σ H fun b H1=>if b=true then t D σ H1 else u D σ H1
theorem Jk {c:Expr} {a b:List Stmt} {tc:TT} (hc:PT X c tc) (ha:x_ X a t) (hb:x_ X b u):PS X (.If c a b pos) (Hs tc t u):=by
 intro pins s σ H D I h
 refine wpAny_If (zd (hc pins s σ H _ I h) fun d s1 ⟨H1,I1,q1⟩=>?_)
 cases d with
 | true=>exact ha pins s1 σ H1 D I1 q1
 | false=>exact hb pins s1 σ H1 D I1 q1
noncomputable def Hw:TS:=fun _ _ _=>False
theorem EO {sts:List Stmt}:x_ X sts Hw:=fun _ _ _ _ _ _ h=>h.elim
end
noncomputable abbrev TG:=V->St->Hp->(St->Hp->Prop)->Prop
noncomputable abbrev uZ:=List V->St->Hp->(St->Hp->Prop)->Prop
noncomputable def PG (X:Cx) (target:Expr) (t:TG):Prop:=
 ∀ (pins:List (Addr×Obj)) (s:Shared) (σ:St) (H:Hp) (v:V) (u:Value) (Q:St->Hp->Prop),zC X pins σ H s->zY v u->t v σ H Q->
  wpAny (model X.prog X.w) X.A (assign target X.env u) (fun _ s'=>∃ σ' H',zC X pins σ' H' s'/\Q σ' H') X.xe s
noncomputable def gR (X:Cx) (ts:List Expr) (t:uZ):Prop:=
 ∀ (pins:List (Addr×Obj)) (s:Shared) (σ:St) (H:Hp) (vs:List V) (us:List Value) (Q:St->Hp->Prop),zC X pins σ H s->zZ vs us->t vs σ H Q->
  wpAny (model X.prog X.w) X.A (assignInOrder ((assignEach ts X.env).map (·.2)) us) (fun _ s'=>∃ σ' H',zC X pins σ' H' s'/\Q σ' H') X.xe s
noncomputable abbrev Z7:=V->V->V->Hp->(Hp->Prop)->Prop
noncomputable def XX (X:Cx) (t:Z7):Prop:=
 ∀ (pins:List (Addr×Obj)) (s:Shared) (σ:St) (H:Hp) (o i v:V) (ov iv u:Value) (Q:Hp->Prop),zC X pins σ H s->zY o ov->zY i iv->zY v u->t o i v H Q->
  wpAny (model X.prog X.w) X.A (setItem ov iv u) (fun _ s'=>∃ H',zC X pins σ H' s'/\Q H') X.xe s
noncomputable abbrev jI:=V->V->Hp->VK->Prop
noncomputable def Z2 (X:Cx) (op:Operator) (t:jI):Prop:=
 ∀ (pins:List (Addr×Obj)) (s:Shared) (σ:St) (H:Hp) (x y:V) (v u:Value) (Q:VK),zC X pins σ H s->zY x v->zY y u->t x y H Q->
  wpAny (model X.prog X.w) X.A (inplaceOp op v u) (EP X pins σ Q) X.xe s
section
variable {X:Cx} {pos:Pos}
noncomputable def wW (i:Nat):TG:=fun v σ H Q=>Q (σ.set i (some v)) H
theorem Cy {i:Nat} {x:Str} (hN:X.N.Nodup) (hi:X.N[i]?=some x) (hx:vZ X.env.scope x) (hf:X.fn x=true\/X.env.scope.names.lookup x=some .local:=by first | exact .inl rfl | exact .inr rfl | assumption):PG X (.Name x pos) (wW i):=by
 intro pins s σ H v u Q I r h
 exact wpAny_assign_Name (Uq I hN hi hx r (fun s' I'=>⟨_,H,I',h⟩) hf)
noncomputable def jT:uZ:=fun vs σ H Q=>vs=[]/\Q σ H
noncomputable def uf (t:TG) (u:uZ):uZ:=fun vs σ H Q=>∃ v r,vs=v::r/\t v σ H fun σ' H'=>u r σ' H' Q
theorem E5:gR X [] jT:=by
 intro pins s σ H vs us Q I r h
 obtain ⟨e,h⟩:=h
 subst e
 cases r
 exact assignInOrder_nil ⟨σ,H,I,h⟩
theorem E4 {e:Expr} {es:List Expr} {t:TG} {u:uZ} (h1:PG X e t) (h2:gR X es u)
  (hs:(assignEach (e::es) X.env).map (·.2)=assign e X.env::(assignEach es X.env).map (·.2):=by rfl):gR X (e::es) (uf t u):=by
 intro pins s σ H vs us Q I r h
 obtain ⟨v,vr,e1,h⟩:=h
 subst e1
 cases r with
 | cons r rr=>
  rw [hs]
  refine assignInOrder_cons (zd (h1 pins s σ H _ _ _ I r h) fun _ s1 ⟨σ1,H1,I1,q1⟩=>?_)
  exact h2 pins s1 σ1 H1 _ _ Q I1 rr q1
noncomputable def jU (K:PySem.W.Frag) (n:Nat) (t:uZ):TG:=fun v σ H Q=>∃ a xs,v=.ref a/\yM K H a xs/\xs.length=n/\t xs σ H Q
theorem C_ {es:List Expr} {k:Nat} {t:uZ} {n:Nat} (hc:X.calm=true) (h:gR X es t)
  (hn:(assignEach es X.env).length=n:=by rfl) (hst:(assignEach es X.env).findIdx? (·.1)=none:=by rfl):PG X (.Tuple es k pos) (jU X.K n t):=by
 intro pins s σ H v u Q I r hw
 obtain ⟨a,xs,e1,hq,hl,hw⟩:=hw
 subst e1
 cases r
 obtain ⟨its,rv,ht,hz⟩:=I.tuple hq
 refine assign_Tuple_tuple (I.ok.hd hc) ht (by simp [hn,<- hl,rv.length]) hst fun h' hx=>?_
 have I1:zC X pins σ H { s with heap:=h' }:=I.kept (t':=s.toks) fun b o e=>hx b o (Nat.ne_of_lt (Heap.lt_size e)) e
 exact h pins _ σ H xs _ Q I1 (by simpa using rv) hw
noncomputable def QZ (to ti:TE) (t:Z7):TG:=fun v σ H Q=>to σ H fun o H1=>ti σ H1 fun i H2=>t o i v H2 fun H3=>Q σ H3
theorem Cz {o i:Expr} {to ti:TE} {t:Z7} (ho:PE X o to) (hi:PE X i ti) (hs:XX X t)
  (ha:∀ v,assign (.Subscript o i pos) X.env v=(do
   let ov <- holding [v] (eval o X.env)
   let iv <- holding [v,ov] (eval i X.env)
   standAt pos
   holding [v,ov,iv] (setItem ov iv v)
   release [v,ov,iv] []):=by intro _; rfl):PG X (.Subscript o i pos) (QZ to ti t):=by
 intro pins s σ H v u Q I r h
 rw [ha]
 refine wpAny_bind (wpAny_holding (zd (ho pins s σ H _ I h) fun ov s1 ⟨x,H1,I1,r1,q1⟩=>?_))
 refine wpAny_bind (wpAny_holding (zd (hi pins s1 σ H1 _ I1 q1) fun iv s2 ⟨y,H2,I2,r2,q2⟩=>?_))
 refine wpAny_bind (wpAny_standAt (wpAny_bind (wpAny_holding (zd (hs pins s2 σ H2 x y v ov iv u _ I2 r1 r2 r q2) fun _ s3 ⟨H3,I3,q3⟩=>?_))))
 exact wpAny_release ⟨σ,H3,I3,q3⟩
noncomputable def Uv (te:TE) (g:TG):TS:=fun D σ H=>te σ H fun x H1=>g x σ H1 D.nx
theorem EJ {tg e:Expr} {te:TE} {g:TG} (he:PE X e te) (hg:PG X tg g) (hs:swapsWithSole [tg] e pos.line X.env=pure false:=by rfl) (hw:swappedStores [tg] e X.env=pure none:=by rfl)
  (h1:(assignEach [tg] X.env).map (·.2)=[assign tg X.env]:=by rfl):PS X (.Assign [tg] e pos) (Uv te g):=by
 intro pins s σ H D I h
 refine wpAny_Assign_stores (zd (he pins s σ H _ I h) fun v s1 ⟨x,H1,I1,r1,q1⟩=>?_) hs hw
 rw [h1]
 exact zd (hg pins s1 σ H1 x v _ I1 r1 q1) fun _ s2 q=>q
theorem EM {i:Nat} {x:Str} {e:Expr} {te:TE} {pos':Pos} (hN:X.N.Nodup) (hi:X.N[i]?=some x) (hx:vZ X.env.scope x) (he:PE X e te) (hs:swapsWith e (some (.Name x pos')) pos.line X.env=pure false:=by rfl) (hf:X.fn x=true\/X.env.scope.names.lookup x=some .local:=by first | exact .inl rfl | exact .inr rfl | assumption) :
  PS X (.Assign [.Name x pos'] e pos) (Uv te (wW i)):=by
 intro pins s σ H D I h
 refine wpAny_Assign_Name (zd (he pins s σ H _ I h) fun v s1 ⟨y,H1,I1,r1,q1⟩=>?_) hs
 exact Uq I1 hN hi hx r1 (fun s2 I2=>⟨_,H1,I2,q1⟩) hf
noncomputable def Hk (i:Nat) (te:TE) (ti:jI):TS:=fun D σ H=>∃ x,σ[i]?=some (some x)/\te σ H fun y H1=>ti x y H1 fun z H2=>D.nx (σ.set i (some z)) H2
theorem Jg {i:Nat} {x:Str} {e:Expr} {te:TE} {op:Operator} {ti:jI} {pos':Pos} (hN:X.N.Nodup) (hi:X.N[i]?=some x) (hx:vZ X.env.scope x) (he:PE X e te) (ho:Z2 X op ti) (hf:X.fn x=true\/X.env.scope.names.lookup x=some .local:=by first | exact .inl rfl | exact .inr rfl | assumption) :
  PS X (.AugAssign (.Name x pos') op e pos) (Hk i te ti):=by
 intro pins s σ H D I h
 obtain ⟨v,e1,h⟩:=h
 obtain ⟨m,hn,hl⟩:=I.loc
 have vis:qQ X.env.scope x:=by rcases hx with k | k; exact .inl k; exact .inr (.inl k)
 obtain ⟨u,r,l⟩:=hl i x v hi e1 vis
 refine wpAny_AugAssign_Name ?_
 have go:wpAny (model X.prog X.w) X.A (eval e X.env) (fun w s₂=>wpAny (model X.prog X.w) X.A (inplaceOp op u w) (fun r s₃=>wpAny (model X.prog X.w) X.A (storeName X.env x r) (fun _=>SP X pins D .next) X.xe s₃) X.xe s₂) X.xe s:=by
  refine zd (he pins s σ H _ I h) fun w s1 ⟨y,H1,I1,r1,q1⟩=>?_
  refine zd (ho pins s1 σ H1 v y u w _ I1 r r1 q1) fun z s2 ⟨zv,H2,I2,r2,q2⟩=>?_
  exact Uq I2 hN hi hx r2 (fun s3 I3=>⟨_,H2,I3,q2⟩) hf
 rcases l with ⟨hk,hm⟩ | ⟨hk,c,hc,hcell⟩
 ·exact wpAny_loadName_local I.ok.kind hk hn hm go
 ·rcases hk with hk | hk
  ·exact wpAny_loadName_cell I.ok.kind hk hc hcell go
  ·rcases hx with k | k
   ·have:X.env.scope.names.lookup x=some .free:=hk
    rw [k] at this; cases this
   ·have:X.env.scope.names.lookup x=some .free:=hk
    rw [k] at this; cases this
noncomputable def Qu (f:Int->Int->Int):jI:=fun x y H Q=>∃ i j,x=.int i/\y=.int j/\Q (.int (f i j)) H
theorem Qv:Z2 X .Add (Qu fun i j=>i+j):=by
 intro pins s σ H x y v u Q I r1 r2 h
 obtain ⟨i,j,e1,e2,q⟩:=h
 subst e1; subst e2
 obtain ⟨t,rfl⟩:=r1
 obtain ⟨t',rfl⟩:=r2
 exact iadd_int ⟨.int _,H,I.tok _,⟨_,rfl⟩,q⟩
end
section
variable {X:Cx} {pos:Pos}
noncomputable def KC (c:TT) (tb:TS):TS:=fun D σ H=>∃ W:Nat->St->Hp->Prop,(∃ m,W m σ H)/\∀ m σ H,W m σ H->
 c σ H fun b H1=>if b=true then ∃ N:St->Hp->Prop,(∀ σ' H',N σ' H'->∃ m',m'<m/\W m' σ' H')/\tb { D with nx:=N,ct:=N,bk:=D.nx } σ H1 else D.nx σ H1
theorem EN {c:Expr} {body:List Stmt} {tc:TT} {tb:TS} (hp:PassesOwn (model X.prog X.w) X.A X.env X.xe) (hc:PT X c tc) (hb:x_ X body tb):PS X (.While c body [] pos) (KC tc tb):=by
 intro pins s σ H D I h
 obtain ⟨W,⟨m0,w0⟩,turn⟩:=h
 refine wpAny_While (codeAny_whileLoop (fun n s'=>∃ σ' H',zC X pins σ' H' s'/\W n σ' H') ?_ m0 ⟨σ,H,I,w0⟩)
 rintro n s1 ⟨σ1,H1,I1,w1⟩
 refine wpAny_passesOwn hp (zd (hc pins s1 σ1 H1 _ I1 (turn n σ1 H1 w1)) fun b s2 ⟨H2,I2,q2⟩=>?_)
 cases b with
 | true=>
  obtain ⟨N,hN,q2⟩:=q2
  rw [if_pos rfl]
  refine wpAny_passesOwn hp (zd (hb pins s2 σ1 H2 _ I2 q2) fun f s3 q3=>?_)
  cases f with
  | next=>
   obtain ⟨σ3,H3,I3,n3⟩:=q3
   obtain ⟨m',hm,w3⟩:=hN σ3 H3 n3
   exact ⟨m',hm,σ3,H3,I3,w3⟩
  | cont=>
   obtain ⟨σ3,H3,I3,n3⟩:=q3
   obtain ⟨m',hm,w3⟩:=hN σ3 H3 n3
   exact ⟨m',hm,σ3,H3,I3,w3⟩
  | brk=>exact q3
  | ret v=>exact q3
 | false=>
  rw [if_neg Bool.false_ne_true]
  exact wpAny_execs_nil ⟨σ1,H2,I2,q2⟩
end
structure It where
 go:Nat->Hp->Prop
 yld:Nat->Hp->V->Hp->Prop
 stop:Nat->Hp->Prop
noncomputable def vY (X:Cx) (pins:List (Addr×Obj)) (H:Hp) (b:Addr):Prop:=
 H b=none/\b≠X.env.locals/\b ∉ X.fs/\(b∈X.ex\/X.s₀.heap.objs.size<=b)/\(∀ x c,X.env.cells.lookup x=some c->c≠b)/\∀ p∈X.pn++pins,p.1≠b
theorem zC.fpOk {X:Cx} {pins:List (Addr×Obj)} {σ:St} {H H':Hp} {s:Shared} {b:Addr} (I:zC X pins σ H s) (hb:s.heap.objs.size<=b) (hn:H' b=none):vY X pins H' b:=by
 refine ⟨hn,Nat.ne_of_gt (Nat.lt_of_lt_of_le I.lt hb),I.nofs hb,.inr (Nat.le_trans I.sz hb),fun x c e z=>?_,fun p hp z=>?_⟩
 ·obtain ⟨v,q⟩:=I.cell x c e
  exact absurd (Nat.lt_of_lt_of_le q.lt (by rw [z]; exact hb)) (Nat.lt_irrefl _)
 ·exact absurd (Nat.lt_of_lt_of_le (Heap.lt_size (I.pin p hp).1) (by rw [z]; exact hb)) (Nat.lt_irrefl _)
structure qO (P:Program) (w:World) (K:PySem.W.Frag) (tg:Expr) (J:It) (fp:List Addr) (it:Addr) (tn:Nat->Heap->Prop):Prop where
 mem:it∈fp
 obj:∀ i h,tn i h->∀ b∈fp,∃ o,h.get? b=some o/\∀ v,o.data≠.cell v
 keep:∀ i h h',tn i h->(∀ b∈fp,∀ o,h.get? b=some o->h'.get? b=some o)->tn i h'
 item:∀ (X:Cx),X.prog=P->X.w=w->X.K=K->X.calm=true->∀ (i:Nat) (pins:List (Addr×Obj)) (s:Shared) (σ:St) (H:Hp) (E:Value->Shared->Prop),zC X pins σ H s->(∀ b∈fp,vY X pins H b)->tn i s.heap->J.go i H->
  wpAny (model P w) X.A (pyNext (.ref it)) (fun r s1=>∃ u,r=some u/\
   wpAny (model P w) X.A (letOwnedTupleGo tg (.ref it) u) (fun _ s2=>∃ x H',zC X pins σ H' s2/\zY x u/\J.yld i H x H'/\tn (i+1) s2.heap/\∀ b∈fp,H' b=none) E s1) E s
 done:∀ (X:Cx),X.prog=P->X.w=w->X.K=K->X.calm=true->∀ (i:Nat) (pins:List (Addr×Obj)) (s:Shared) (σ:St) (H:Hp) (E:Value->Shared->Prop),zC X pins σ H s->(∀ b∈fp,vY X pins H b)->tn i s.heap->J.stop i H->
  wpAny (model P w) X.A (pyNext (.ref it)) (fun r s1=>r=none/\zC X pins σ H s1) E s
 self:∀ (A:Around) (i:Nat) (s:Shared) (Q:Value->Shared->Prop) (E:Value->Shared->Prop),tn i s.heap->Q (.ref it) s->wpAny (model P w) A (pyIter (.ref it)) Q E s
noncomputable abbrev TI:=St->Hp->(It->Hp->Prop)->Prop
noncomputable def XW (X:Cx) (pins:List (Addr×Obj)) (σ:St) (tg:Expr) (R:It->Hp->Prop) (itv:Value) (s2:Shared):Prop:=
 ∃ (it:Addr) (fp:List Addr) (tn:Nat->Heap->Prop) (J:It) (H':Hp),itv=.ref it/\zC X pins σ H' s2/\qO X.prog X.w X.K tg J fp it tn/\tn 0 s2.heap/\(∀ b∈fp,vY X pins H' b)/\R J H'
noncomputable def PI (X:Cx) (tg iter:Expr) (wi:TI):Prop:=
 ∀ (pins:List (Addr×Obj)) (s:Shared) (σ:St) (H:Hp) (R:It->Hp->Prop),zC X pins σ H s->wi σ H R->
  wpAny (model X.prog X.w) X.A (eval iter X.env) (fun v s1=>wpAny (model X.prog X.w) X.A (pyIter v) (XW X pins σ tg R) X.xe s1) X.xe s
theorem ZV {M:Model} {A:Around} {E:Value->Shared->Prop} {s:Shared} {tg:Expr} {it:Addr} {u:Value} {o:Obj} {n:String} {vs:Array Value} {Q:Unit->Shared->Prop} (ho:s.heap.get? it=some o) (hc:o.cls=.type n) (hd:o.data=.fields vs)
    (hn:["enumerate", "zip", "dict_itemiterator", "dict_reverseitemiterator", "odict_iterator", "itertools.zip_longest", "itertools.pairwise"].contains n=false) (hQ:Q () s):wpAny M A (letOwnedTupleGo tg (.ref it) u) Q E s:=by
  unfold letOwnedTupleGo
  cases tg<;>first
    | exact wpAny_pure hQ
    | (cases u<;>first
        | exact wpAny_pure hQ
        | (refine wpAny_bind (wpAny_load ho ?_)
           rw [hc,hd]
           show wpAny M A (if (["enumerate", "zip", "dict_itemiterator", "dict_reverseitemiterator", "odict_iterator", "itertools.zip_longest", "itertools.pairwise"].contains n&&vs[0]? == some (rawInt _))=true then _ else _) Q E s
           rw [if_neg (by intro h; rw [hn,Bool.false_and] at h; cases h)]
           exact wpAny_pure hQ))
noncomputable def XQ (K:PySem.W.Frag) (a:Addr):It:=
 ⟨fun i H=>∃ xs x,yC K H a xs/\xs[i]?=some x,fun i H x H'=>H'=H/\∀ xs,yC K H a xs->xs[i]?=some x,fun i H=>∃ xs,yC K H a xs/\xs.length<=i⟩
noncomputable def XR (K:PySem.W.Frag) (a:Addr):It:=
 ⟨fun i H=>∃ xs x,yM K H a xs/\xs[i]?=some x,fun i H x H'=>H'=H/\∀ xs,yM K H a xs->xs[i]?=some x,fun i H=>∃ xs,yM K H a xs/\xs.length<=i⟩
noncomputable def k_ (lo:Int) (n:Nat):It:=⟨fun i _=>i<n,fun i H x H'=>H'=H/\x=.int (lo+i),fun i _=>n<=i⟩
theorem KP {P:Program} {w:World} {K:PySem.W.Frag} {tg:Expr} (a it:Addr):qO P w K tg (XQ K a) [it] it (fun i h=>h.IsListIter it a i) where
 mem:=by simp
 obj:=fun i h st b hb=>by
  have e:b=it:=by simpa using hb
  subst e
  obtain ⟨o,e,c,d⟩:=st
  exact ⟨o,e,fun v z=>by rw [d] at z; cases z⟩
 keep:=fun i h h' st k=>st.at fun o e=>k it (by simp) o e
 item:=by
  intro X hP hw hK hc i pins s σ H E I hf st hg
  subst hP hw hK
  obtain ⟨xs,x,hq,hx⟩:=hg
  obtain ⟨its,rv,p,hz⟩:=I.list hq
  obtain ⟨u,hu,ru⟩:=rv.get hx
  obtain ⟨f0,f1,f2,f3,f4,f5⟩:=hf it (by simp)
  refine wpAny_pyNext_list_item st p.isList (x:=u) (by simpa using hu) fun h' st' sb=>?_
  have I1:zC X pins σ H { s with heap:=h' }:=I.turned (t':=s.toks) (fun b o hb e=>(sb.2 b hb).trans e) f0 f1 f3 f4 f5
  obtain ⟨o,e,c,d⟩:=id st'
  exact ⟨u,rfl,ZV (s:={ s with heap:=h' }) e c d (by decide) ⟨x,H,I1,ru,⟨rfl,fun ys hy=>by rw [I.list_inj hy hq]; exact hx⟩,st',fun b hb=>(hf b hb).1⟩⟩
 done:=by
  intro X hP hw hK hc i pins s σ H E I hf st hg
  subst hP hw hK
  obtain ⟨xs,hq,hx⟩:=hg
  obtain ⟨its,rv,p,hz⟩:=I.list hq
  obtain ⟨f0,f1,f2,f3,f4,f5⟩:=hf it (by simp)
  have hl:=rv.length
  exact wpAny_pyNext_list_end (I.ok.hd hc) st p.isList (by simp; omega) fun h' eb=>⟨rfl,I.turned (t':=s.toks) (fun b o hb e=>eb b o hb e) f0 f1 f3 f4 f5⟩
 self:=fun _ _ _ _ _ st h=>wpAny_pyIter_listiter st h
theorem KS {P:Program} {w:World} {K:PySem.W.Frag} {tg:Expr} (a it:Addr):qO P w K tg (XR K a) [it] it (fun i h=>h.IsTupleIter it a i) where
 mem:=by simp
 obj:=fun i h st b hb=>by
  have e:b=it:=by simpa using hb
  subst e
  obtain ⟨o,e,c,d⟩:=st
  exact ⟨o,e,fun v z=>by rw [d] at z; cases z⟩
 keep:=fun i h h' st k=>st.at fun o e=>k it (by simp) o e
 item:=by
  intro X hP hw hK hc i pins s σ H E I hf st hg
  subst hP hw hK
  obtain ⟨xs,x,hq,hx⟩:=hg
  obtain ⟨its,rv,p,hz⟩:=I.tuple hq
  obtain ⟨u,hu,ru⟩:=rv.get hx
  obtain ⟨f0,f1,f2,f3,f4,f5⟩:=hf it (by simp)
  refine wpAny_pyNext_tuple_item st (show s.heap.IsTuple a its.toArray from p) (x:=u) (by simpa using hu) fun h' st' sb=>?_
  have I1:zC X pins σ H { s with heap:=h' }:=I.turned (t':=s.toks) (fun b o hb e=>(sb.2 b hb).trans e) f0 f1 f3 f4 f5
  obtain ⟨o,e,c,d⟩:=id st'
  exact ⟨u,rfl,ZV (s:={ s with heap:=h' }) e c d (by decide) ⟨x,H,I1,ru,⟨rfl,fun ys hy=>by rw [I.tuple_inj hy hq]; exact hx⟩,st',fun b hb=>(hf b hb).1⟩⟩
 done:=by
  intro X hP hw hK hc i pins s σ H E I hf st hg
  subst hP hw hK
  obtain ⟨xs,hq,hx⟩:=hg
  obtain ⟨its,rv,p,hz⟩:=I.tuple hq
  obtain ⟨f0,f1,f2,f3,f4,f5⟩:=hf it (by simp)
  have hl:=rv.length
  exact wpAny_pyNext_tuple_end (I.ok.hd hc) st (show s.heap.IsTuple a its.toArray from p) (by simp; omega) fun h' eb=>⟨rfl,I.turned (t':=s.toks) (fun b o hb e=>eb b o hb e) f0 f1 f3 f4 f5⟩
 self:=fun _ _ _ _ _ st h=>wpAny_pyIter_tupleiter st h
theorem KQ {P:Program} {w:World} {K:PySem.W.Frag} {tg:Expr} (it:Addr) (lo:Int) (n:Nat):qO P w K tg (k_ lo n) [it] it (fun i h=>IsRangeIter h it (lo+(i:Nat)*1) ((n:Int) - (i:Nat)) 1) where
 mem:=by simp
 obj:=fun i h st b hb=>by
  have e:b=it:=by simpa using hb
  subst e
  exact ⟨_,st,fun v z=>by
   have z':Data.fields _=Data.cell v:=z
   cases z'⟩
 keep:=fun i h h' st k=>k it (by simp) _ st
 item:=by
  intro X hP hw hK hc i pins s σ H E I hf st hg
  subst hP hw hK
  obtain ⟨f0,f1,f2,f3,f4,f5⟩:=hf it (by simp)
  have W:=Walks.range (prog:=X.prog) (w:=X.w) (I.ok.hd hc) it lo 1 n
  refine W.item i s _ _ hg st fun v h' tk hv st' kk=>?_
  obtain ⟨t,rfl⟩:=hv
  have I1:zC X pins σ H { s with heap:=h',toks:=tk }:=I.turned (fun b o hb e=>kk b o (by simpa using hb) e) f0 f1 f3 f4 f5
  refine ⟨_,rfl,ZV (s:={ s with heap:=h',toks:=tk }) (n := "range_iterator") st' rfl rfl (by decide) ⟨.int (lo+i),H,I1,⟨t,?_⟩,⟨rfl,rfl⟩,st',fun b hb=>(hf b hb).1⟩⟩
  rw [Int.mul_one]
 done:=by
  intro X hP hw hK hc i pins s σ H E I hf st hg
  subst hP hw hK
  obtain ⟨f0,f1,f2,f3,f4,f5⟩:=hf it (by simp)
  exact wpAny_pyNext_range_end (I.ok.hd hc) st (by have:n<=i:=hg; omega) fun h' eb=>⟨rfl,I.turned (t':=s.toks) (fun b o hb e=>eb b o hb e) f0 f1 f3 f4 f5⟩
 self:=fun _ _ _ _ _ st h=>wpAny_pyIter_rangeiter st h
end L2
namespace L2
open PySem PySem.Spec PyProof.Rows
section
variable {X:Cx} {tg:Expr}
noncomputable def BR (K:PySem.W.Frag) (tl:TE):TI:=fun σ H R=>tl σ H fun x H1=>∃ a,x=.ref a/\(∃ xs,yC K H1 a xs)/\R (XQ K a) H1
noncomputable def BU (K:PySem.W.Frag) (tl:TE):TI:=fun σ H R=>tl σ H fun x H1=>∃ a,x=.ref a/\(∃ xs,yM K H1 a xs)/\R (XR K a) H1
theorem E7 {l:Expr} {tl:TE} (hl:PE X l tl):PI X tg l (BR X.K tl):=by
 intro pins s σ H R I h
 refine zd (hl pins s σ H _ I h) fun v s1 ⟨x,H1,I1,r1,q1⟩=>?_
 obtain ⟨a,e,⟨xs,hq⟩,q⟩:=q1
 subst e
 cases r1
 obtain ⟨its,rv,p,hz⟩:=I1.list hq
 refine wpAny_pyIter_list p.isList ?_
 refine ⟨s1.heap.objs.size,[s1.heap.objs.size],_,_,H1,rfl,I1.kept (t':=s1.toks) fun b o e=>Heap.get?_push_of_some _ e,KP a _,⟨_,Heap.get?_push_size _ rfl,rfl,rfl⟩,fun b hb=>?_,q⟩
 have e:b=s1.heap.objs.size:=by simpa using hb
 subst e
 exact I1.fpOk (Nat.le_refl _) (I1.hok.fresh (Nat.le_refl _))
theorem EA {l:Expr} {tl:TE} (hl:PE X l tl):PI X tg l (BU X.K tl):=by
 intro pins s σ H R I h
 refine zd (hl pins s σ H _ I h) fun v s1 ⟨x,H1,I1,r1,q1⟩=>?_
 obtain ⟨a,e,⟨xs,hq⟩,q⟩:=q1
 subst e
 cases r1
 obtain ⟨its,rv,p,hz⟩:=I1.tuple hq
 refine wpAny_pyIter_tuple (show s1.heap.IsTuple a its.toArray from p) ?_
 refine ⟨s1.heap.objs.size,[s1.heap.objs.size],_,_,H1,rfl,I1.kept (t':=s1.toks) fun b o e=>Heap.get?_push_of_some _ e,KS a _,⟨_,Heap.get?_push_size _ rfl,rfl,rfl⟩,fun b hb=>?_,q⟩
 have e:b=s1.heap.objs.size:=by simpa using hb
 subst e
 exact I1.fpOk (Nat.le_refl _) (I1.hok.fresh (Nat.le_refl _))
theorem Ex {pins:List (Addr×Obj)} {σ:St} {H:Hp} {s:Shared} {R:It->Hp->Prop} {E:Value->Shared->Prop} {lo hi:Int} {t u v:Tok} {tk:Nat} (I:zC X pins σ H s) (h1 : -(2 ^ 62)<=lo) (h2:lo<2 ^ 62) (h3 : -(2 ^ 62)<=hi) (h4:hi<2 ^ 62)
  (q:R (k_ lo (hi - lo).toNat) H):wpAny (model X.prog X.w) X.A (pyIter (.ref s.heap.objs.size)) (XW X pins σ tg R) E { s with heap:=s.heap.push { cls:=.type "range",data:=.fields #[.int lo t,.int hi u,.int 1 v] },toks:=tk }:=by
 refine wpAny_pyIter_range (IsRange.new ..) (small_one h1 h2 h3 h4) ?_
 have I1:zC X pins σ H { s with heap:=s.heap.push { cls:=.type "range",data:=.fields #[.int lo t,.int hi u,.int 1 v] },toks:=tk }:=I.kept fun b o e=>Heap.get?_push_of_some _ e
 refine ⟨(s.heap.push { cls:=.type "range",data:=.fields #[.int lo t,.int hi u,.int 1 v] }).objs.size,[(s.heap.push { cls:=.type "range",data:=.fields #[.int lo t,.int hi u,.int 1 v] }).objs.size],_,_,H,rfl,
  I1.kept (t':=tk) fun b o e=>Heap.get?_push_of_some _ e,KQ _ lo (hi - lo).toNat,?_,fun b hb=>?_,q⟩
 ·have e1:lo+((0:Nat):Int)*1=lo:=by simp
  have e2:(((hi - lo).toNat:Nat):Int) - ((0:Nat):Int)=Builtin.Range.rangeSize lo hi 1:=by rw [rangeSize_one]; split<;>omega
  show IsRangeIter _ _ (lo+((0:Nat):Int)*1) ((((hi - lo).toNat:Nat):Int) - ((0:Nat):Int)) 1
  rw [e1,e2]
  exact Heap.get?_push_size _ rfl
 ·have e:b=(s.heap.push { cls:=.type "range",data:=.fields #[.int lo t,.int hi u,.int 1 v] }).objs.size:=by simpa using hb
  subst e
  exact I1.fpOk (Nat.le_refl _) (I1.hok.fresh (Nat.le_refl _))
noncomputable def BS (ta:TA):TI:=fun σ H R=>ta σ H fun vs H1=>∃ j:Int,vs=[.int j] /\ -(2 ^ 62)<=j/\j<2 ^ 62/\R (k_ 0 j.toNat) H1
theorem E8 {a:Expr} {ta:TA} {p pos:Pos} (hg:Gl X "range") (hm:X.mg "range" = none) (ha:PA X [a] ta) (hs:starEach [a] X.env=[(false,eval a X.env)]:=by rfl):PI X tg (.Call (.Name "range" p) [a] [] pos) (BS ta):=by
 intro pins s σ H R I h
 refine Call_ (jd I hg hm boot_range (PyProof.Rows.callWith_type1 (zd (ha pos pins s σ H _ I h) fun us s1 ⟨vs,H1,I1,r1,q1⟩=>?_) hs rfl))
 obtain ⟨j,e,q1,q2,q⟩:=q1
 subst e
 cases r1 with
 | cons r rr=>
  cases rr
  obtain ⟨t,rfl⟩:=r
  exact call_range_1 (Ex I1 (by omega) (by omega) q1 q2 (by simpa using q))
noncomputable def Hq (wi:TI) (g:TG) (tb:TS):TS:=fun D σ H=>wi σ H fun J H1=>∃ W:Nat->Nat->St->Hp->Prop,(∃ m,W 0 m σ H1)/\∀ i m σ H,W i m σ H->
 (J.stop i H/\D.nx σ H)\/(J.go i H/\∃ N:St->Hp->Prop,(∀ σ' H',N σ' H'->∃ m',m'<m/\W (i+1) m' σ' H')/\∀ x H',J.yld i H x H'->g x σ H' fun σ2 H2=>tb { D with nx:=N,ct:=N,bk:=D.nx } σ2 H2)
noncomputable def kD (fp:List Addr) (h:Heap):List (Addr×Obj):=fp.filterMap fun b=>(h.get? b).map fun o=>(b,o)
theorem Zm {fp:List Addr} {h:Heap} {b:Addr} {o:Obj} (hb:b∈fp) (e:h.get? b=some o):(b,o)∈kD fp h:=List.mem_filterMap.mpr ⟨b,hb,by rw [e]; rfl⟩
theorem Dt {fp:List Addr} {h:Heap} {p:Addr×Obj} (hp:p∈kD fp h):p.1∈fp/\h.get? p.1=some p.2:=by
 obtain ⟨b,hb,e⟩:=List.mem_filterMap.mp hp
 cases q:h.get? b with
 | none=>rw [q] at e; cases e
 | some o=>
  rw [q] at e
  have e':(b,o)=p:=Option.some.inj e
  subst e'
  exact ⟨hb,q⟩
theorem zC.pinned {pins:List (Addr×Obj)} {σ:St} {H:Hp} {s:Shared} {fp:List Addr} (I:zC X pins σ H s) (hf:∀ b∈fp,vY X pins H b) (ho:∀ b∈fp,∃ o,s.heap.get? b=some o/\∀ v,o.data≠.cell v):zC X (pins++kD fp s.heap) σ H s:=
 I.pins_of fun p hp=>(List.mem_append.mp hp).elim (fun z=>I.pin p (List.mem_append_right _ z)) fun z=>by
  obtain ⟨hb,e⟩:=Dt z
  obtain ⟨f0,f1,f2,_⟩:=hf p.1 hb
  obtain ⟨o,e',d⟩:=ho p.1 hb
  rw [e] at e'; cases e'
  exact ⟨e,f0,f1,f2,d⟩
theorem zC.unpinned {pins pl:List (Addr×Obj)} {σ:St} {H:Hp} {s:Shared} (I:zC X (pins++pl) σ H s):zC X pins σ H s:=I.pins_of fun p hp=>I.pin p (List.mem_append_right _ (List.mem_append_left _ hp))
theorem Jj {iter:Expr} {body:List Stmt} {wi:TI} {g:TG} {tb:TS} {pos:Pos} (hp:PassesOwn (model X.prog X.w) X.A X.env X.xe) (hc:X.calm=true) (hi:PI X tg iter wi) (hg:PG X tg g) (hb:x_ X body tb)
  (hs:∀ x,foldedSetIterable iter X.env x=pure x:=by intro _; rfl):PS X (.For tg iter body [] pos) (Hq wi g tb):=by
 intro pins s σ H D I h
 refine wpAny_For (zd (hi pins s σ H _ I h) fun v s1 h1=>zd h1 fun itv s2 h2=>?_) hs
 obtain ⟨it,fp,tn,J,H2,e,I2,T,st2,f2,W,⟨m0,w0⟩,turn⟩:=h2
 subst e
 have stat:∀ {H':Hp},(∀ b∈fp,H' b=none)->∀ b∈fp,vY X pins H' b:=fun hn b hb=>⟨hn b hb,(f2 b hb).2⟩
 refine codeAny_forLoop_any (fun n s'=>∃ i σ' H',zC X pins σ' H' s'/\tn i s'.heap/\(∀ b∈fp,H' b=none)/\W i n σ' H') ?_ m0 ⟨0,σ,H2,I2,st2,fun b hb=>(f2 b hb).1,w0⟩
 rintro n s3 ⟨i,σ3,H3,I3,st3,fr3,w3⟩
 rcases turn i n σ3 H3 w3 with ⟨stop,qn⟩ | ⟨go,N,hN,step⟩
 ·refine wpAny_passesOwn hp (zd (T.done X rfl rfl rfl hc i pins s3 σ3 H3 X.xe I3 (stat fr3) st3 stop) fun r s4 ⟨hr,I4⟩=>?_)
  subst hr
  exact wpAny_execs_nil ⟨σ3,H3,I4,qn⟩
 ·refine wpAny_passesOwn hp (zd (T.item X rfl rfl rfl hc i pins s3 σ3 H3 X.xe I3 (stat fr3) st3 go) fun r s4 ⟨u,hr,h4⟩=>?_)
  subst hr
  refine wpAny_passesOwn hp (zd h4 fun _ s5 ⟨x,H5,I5,r5,y5,st5,fr5⟩=>?_)
  have I5':=I5.pinned (stat fr5) (T.obj _ _ st5)
  refine wpAny_passesOwn hp (zd (hg _ s5 σ3 H5 x u _ I5' r5 (step x H5 y5)) fun _ s6 ⟨σ6,H6,I6,q6⟩=>?_)
  refine wpAny_passesOwn hp (zd (hb _ s6 σ6 H6 _ I6 q6) fun f s7 q7=>?_)
  have again:∀ {σ7:St} {H7:Hp},zC X (pins++kD fp s5.heap) σ7 H7 s7->N σ7 H7->∃ m,m<n/\∃ i σ' H',zC X pins σ' H' s7/\tn i s7.heap/\(∀ b∈fp,H' b=none)/\W i m σ' H':=fun {σ7 H7} I7 n7=>by
   obtain ⟨m',hm,w7⟩:=hN σ7 H7 n7
   refine ⟨m',hm,i+1,σ7,H7,I7.unpinned,T.keep _ _ _ st5 fun b hb o e=>(I7.pin (b,o) (List.mem_append_right _ (List.mem_append_right _ (Zm hb e)))).1,fun b hb=>?_,w7⟩
   obtain ⟨o,e,d⟩:=T.obj _ _ st5 b hb
   exact (I7.pin (b,o) (List.mem_append_right _ (List.mem_append_right _ (Zm hb e)))).2.1
  cases f with
  | next=>obtain ⟨σ7,H7,I7,n7⟩:=q7; exact again I7 n7
  | cont=>obtain ⟨σ7,H7,I7,n7⟩:=q7; exact again I7 n7
  | brk=>obtain ⟨σ7,H7,I7,q7⟩:=q7; exact ⟨σ7,H7,I7.unpinned,q7⟩
  | ret v=>obtain ⟨x7,σ7,H7,I7,r7,q7⟩:=q7; exact ⟨x7,σ7,H7,I7.unpinned,r7,q7⟩
end
end L2
namespace L2
open PySem PySem.Spec PyProof.Rows
noncomputable abbrev R2:=V->V->Hp->VK->Prop
noncomputable def yB (X:Cx) (f:Value->Value->Sem Value) (r:R2):Prop:=
 ∀ (pins:List (Addr×Obj)) (s:Shared) (σ:St) (H:Hp) (x y:V) (v u:Value) (Q:VK),zC X pins σ H s->zY x v->zY y u->r x y H Q->
  wpAny (model X.prog X.w) X.A (f v u) (EP X pins σ Q) X.xe s
noncomputable def gS (X:Cx) (f:Value->Sem Value) (r:V->Hp->VK->Prop):Prop:=
 ∀ (pins:List (Addr×Obj)) (s:Shared) (σ:St) (H:Hp) (x:V) (v:Value) (Q:VK),zC X pins σ H s->zY x v->r x H Q->
  wpAny (model X.prog X.w) X.A (f v) (EP X pins σ Q) X.xe s
noncomputable def xX (X:Cx) (f:Value) (r:List V->Hp->VK->Prop):Prop:=
 ∀ (pins:List (Addr×Obj)) (s:Shared) (σ:St) (H:Hp) (xs:List V) (us:List Value) (Q:VK),zC X pins σ H s->zZ xs us->r xs H Q->
  wpAny (model X.prog X.w) X.A (call f us) (EP X pins σ Q) X.xe s
noncomputable def YD (r:R2) (ta tb:TE):TE:=fun σ H Q=>ta σ H fun x H1=>tb σ H1 fun y H2=>r x y H2 Q
noncomputable def KB (r:V->Hp->VK->Prop) (ta:TE):TE:=fun σ H Q=>ta σ H fun x H1=>r x H1 Q
noncomputable def rI (C:Int->Int->Prop) (g:Int->Int->V):R2:=fun x y H Q=>∃ i j,x=.int i/\y=.int j/\C i j/\Q (g i j) H
noncomputable def vF (g:Int->Int->V):R2:=fun x y H Q=>∃ i j,x=.int i/\y=.int j/\Q (g i j) H
noncomputable def rU (g:Int->V):V->Hp->VK->Prop:=fun x H Q=>∃ i,x=.int i/\Q (g i) H
section
variable {X:Cx} {a b c:Expr} {ta tb tc:TE} {pos:Pos}
theorem WK (ha:PE X a ta) (hb:PE X b tb) {pins:List (Addr×Obj)} {s:Shared} {σ:St} {H:Hp} {R:V->V->Hp->Prop} (I:zC X pins σ H s)
  (h:ta σ H fun x H1=>tb σ H1 fun y H2=>R x y H2) {Q:Value->Shared->Prop} {f:Value->Value->Sem Value}
  (hf:∀ v u s2 x y H2,zC X pins σ H2 s2->zY x v->zY y u->R x y H2->wpAny (model X.prog X.w) X.A (f v u) Q X.xe s2) :
  wpAny (model X.prog X.w) X.A (eval a X.env) (fun v s₁=>wpAny (model X.prog X.w) X.A (eval b X.env) (fun u s₂=>wpAny (model X.prog X.w) X.A (f v u) Q X.xe s₂) X.xe s₁) X.xe s:=by
 refine zd (ha pins s σ H _ I h) fun v s1 ⟨x,H1,I1,r1,q1⟩=>?_
 refine zd (hb pins s1 σ H1 _ I1 q1) fun u s2 ⟨y,H2,I2,r2,q2⟩=>?_
 exact hf v u s2 x y H2 I2 r1 r2 q2
theorem VW {op:Operator} {r:R2} (ho:yB X (binaryOp op) r) (ha:PE X a ta) (hb:PE X b tb):PE X (.BinOp a op b pos) (YD r ta tb):=by
 intro pins s σ H Q I h
 exact wpAny_BinOp (WK ha hb I h fun v u s2 x y H2 I2 rx ry q=>ho pins s2 σ H2 x y v u Q I2 rx ry q)
theorem Cw {op:UnaryOp} {r:V->Hp->VK->Prop} (ho:gS X (unaryOp op) r) (ha:PE X a ta):PE X (.UnaryOp op a pos) (KB r ta):=by
 intro pins s σ H Q I h
 exact UnaryOp_ (zd (ha pins s σ H _ I h) fun v s1 ⟨x,H1,I1,r1,q1⟩=>ho pins s1 σ H1 x v Q I1 r1 q1)
theorem ji {f:Value->Value->Sem Value} {C:Int->Int->Prop} {g:Int->Int->Int}
  (rule:∀ (i j:Int) (t u:Tok) (s:Shared) (Q:Value->Shared->Prop) (E:Value->Shared->Prop),C i j->Q (.int (g i j) s.toks) { s with toks:=s.toks+1 }->wpAny (model X.prog X.w) X.A (f (.int i t) (.int j u)) Q E s) :
  yB X f (rI C fun i j=>.int (g i j)):=by
 intro pins s σ H x y v u Q I rx ry h
 obtain ⟨i,j,rfl,rfl,hc,q⟩:=h
 obtain ⟨t,rfl⟩:=rx
 obtain ⟨t',rfl⟩:=ry
 exact rule i j t t' s _ _ hc ⟨.int (g i j),H,I.tok _,⟨_,rfl⟩,q⟩
theorem k9 {f:Value->Value->Sem Value} {g:Int->Int->Int}
  (rule:∀ (i j:Int) (t u:Tok) (s:Shared) (Q:Value->Shared->Prop) (E:Value->Shared->Prop),Q (.int (g i j) s.toks) { s with toks:=s.toks+1 }->wpAny (model X.prog X.w) X.A (f (.int i t) (.int j u)) Q E s) :
  yB X f (vF fun i j=>.int (g i j)):=by
 intro pins s σ H x y v u Q I rx ry h
 obtain ⟨i,j,rfl,rfl,q⟩:=h
 obtain ⟨t,rfl⟩:=rx
 obtain ⟨t',rfl⟩:=ry
 exact rule i j t t' s _ _ ⟨.int (g i j),H,I.tok _,⟨_,rfl⟩,q⟩
theorem VT {f:Value->Value->Sem Value} {g:Int->Int->Bool}
  (rule:∀ (i j:Int) (t u:Tok) (s:Shared) (Q:Value->Shared->Prop) (E:Value->Shared->Prop),Q (.bool (g i j)) s->wpAny (model X.prog X.w) X.A (f (.int i t) (.int j u)) Q E s) :
  yB X f (vF fun i j=>.bl (g i j)):=by
 intro pins s σ H x y v u Q I rx ry h
 obtain ⟨i,j,rfl,rfl,q⟩:=h
 obtain ⟨t,rfl⟩:=rx
 obtain ⟨t',rfl⟩:=ry
 exact rule i j t t' s _ _ ⟨.bl (g i j),H,I,rfl,q⟩
noncomputable def YS (i j:Int):Prop:=0<=j/\j<=1000000/\i.natAbs<2 ^ 64
noncomputable def jw (i j:Int):Prop:=(-(2 ^ 64)<i/\i<2 ^ 64)\/(-(2 ^ 64)<j/\j<2 ^ 64)
theorem jw.ok {i j:Int} (h:jw i j):IntMulOk i j:=by
 rcases h with ⟨h1,h2⟩ | ⟨h1,h2⟩
 ·exact .of_left (intBits_le_64 h1 h2)
 ·exact .of_right (intBits_le_64 h1 h2)
theorem KW (k:Nat):(0:Int)<=2 ^ k:=by
 rw [two_pow_cast]
 exact Int.natCast_nonneg _
theorem CD:yB X (binaryOp .Add) (vF fun i j=>.int (i+j)):=k9 fun _ _ _ _ _ _ _ q=>add_int q
theorem ph:yB X (binaryOp .Sub) (vF fun i j=>.int (i - j)):=k9 fun _ _ _ _ _ _ _ q=>sub_int q
theorem Zo:yB X (binaryOp .Mult) (rI jw fun i j=>.int (i*j)):=ji fun _ _ _ _ _ _ _ hc q=>mul_int q hc.ok
theorem xG:yB X (binaryOp .Mod) (rI (fun _ j=>0<j) fun i j=>.int (i % j)):=ji fun i j _ _ _ _ _ hc q=>by
 have h1:(0:Int)<j:=hc
 exact mod_int' (by omega) (by rw [Int.fmod_eq_emod_of_nonneg i (by omega)]; exact q)
theorem vt:yB X (binaryOp .LShift) (rI YS fun i j=>.int (i*2 ^ j.toNat)):=ji fun _ _ _ _ _ _ _ hc q=>lshift_int_small hc.1 hc.2.1 hc.2.2 q
theorem kA:yB X (binaryOp .RShift) (rI (fun _ j=>0<=j) fun i j=>.int (i / 2 ^ j.toNat)):=ji fun i j _ _ _ _ _ hc q=>
 rshift_int hc (by rw [Int.fdiv_eq_ediv_of_nonneg i (KW _)]; exact q)
theorem jj:yB X (binaryOp .BitAnd) (vF fun i j=>.int (Builtin.bitAnd i j)):=k9 fun _ _ _ _ _ _ _ q=>and_int q
theorem ut:yB X (binaryOp .BitOr) (vF fun i j=>.int (Builtin.bitOr i j)):=k9 fun _ _ _ _ _ _ _ q=>or_int q
theorem JV:yB X (binaryOp .BitXor) (vF fun i j=>.int (Builtin.bitXor i j)):=k9 fun _ _ _ _ _ _ _ q=>xor_int q
theorem O5 {f:Value->Sem Value} {g:Int->Int}
  (rule:∀ (i:Int) (t:Tok) (s:Shared) (Q:Value->Shared->Prop) (E:Value->Shared->Prop),Q (.int (g i) s.toks) { s with toks:=s.toks+1 }->wpAny (model X.prog X.w) X.A (f (.int i t)) Q E s) :
  gS X f (rU fun i=>.int (g i)):=by
 intro pins s σ H x v Q I rx h
 obtain ⟨i,rfl,q⟩:=h
 obtain ⟨t,rfl⟩:=rx
 exact rule i t s _ _ ⟨.int (g i),H,I.tok _,⟨_,rfl⟩,q⟩
theorem Kg:gS X (unaryOp .USub) (rU fun i=>.int (-i)):=O5 fun _ _ _ _ _ q=>neg_int q
theorem Kf:gS X (unaryOp .Invert) (rU fun i=>.int (Builtin.bitNot i)):=O5 fun _ _ _ _ _ q=>invert_int q
theorem CF:yB X (binaryOp .Add) (fun x y H Q=>∃ i k,x=.int i/\y=.bl k/\Q (.int (i+b2i k)) H):=by
 intro pins s σ H x y v u Q I rx ry h
 obtain ⟨i,k,rfl,rfl,q⟩:=h
 obtain ⟨t,rfl⟩:=rx
 cases ry
 exact add_int_bool ⟨.int (i+b2i k),H,I.tok _,⟨_,rfl⟩,q⟩
end
noncomputable def Uj:V->V->Bool
 | .non,.non=>true | .non,.int _=>true | .int _,.non=>true | .non,.bl _=>true | .bl _,.non=>true | .non,.str _=>true | .str _,.non=>true
 | .int _,.int _=>true | .bl _,.bl _=>true | .str _,.str _=>true | .byt _,.byt _=>true
 | .int _,.str _=>true | .str _,.int _=>true | .bl _,.str _=>true | .str _,.bl _=>true
 | _,_=>false
noncomputable def Eo:R2:=fun x y H Q=>Uj x y=true/\Q (.bl (decide (x=y))) H
noncomputable def Er:R2:=fun x y H Q=>Uj x y=true/\Q (.bl (!decide (x=y))) H
theorem Wb {i j:Int}:decide (V.int i=V.int j)=(i == j):=by
 rw [Bool.eq_iff_iff]
 simp
theorem Wa {i j:Bool}:decide (V.bl i=V.bl j)=(i == j):=by
 rw [Bool.eq_iff_iff]
 simp
theorem Wc {i j:Str}:decide (V.str i=V.str j)=(i == j):=by
 rw [Bool.eq_iff_iff]
 simp
theorem Q9 {i j:Array UInt8}:decide (V.byt i=V.byt j)=(i.toList == j.toList):=by
 rw [Bool.eq_iff_iff]
 cases i
 cases j
 simp
section
variable {X:Cx} {a b c:Expr} {ta tb tc:TE} {pos:Pos}
theorem yi {pins:List (Addr×Obj)} {σ:St} {H:Hp} {s:Shared} {Q:VK} {k k':Bool} (I:zC X pins σ H s) (q:Q (.bl k) H) (e:k=k'):EP X pins σ Q (.bool k') s:=by
 subst e
 exact ⟨.bl k,H,I,rfl,q⟩
theorem CI:yB X (compareOp .Eq) Eo:=by
 intro pins s σ H x y v u Q I rx ry h
 obtain ⟨hs,q⟩:=h
 cases x with
 | non=>
  cases rx
  cases y with
  | non=>cases ry; exact PySem.EqNone.eq_none_none (yi I q (by simp))
  | bl j=>cases ry; exact PySem.EqNone.eq_none_bool (yi I q (by simp))
  | int j=>obtain ⟨t',rfl⟩:=ry; exact PySem.EqNone.eq_none_int (yi I q (by simp))
  | str j=>obtain ⟨t',rfl⟩:=ry; exact PySem.EqNone.eq_none_str (yi I q (by simp))
  | _=>exact absurd (show false=true from hs) Bool.false_ne_true
 | bl i=>
  cases rx
  cases y with
  | non=>cases ry; exact PySem.EqNone.eq_bool_none (yi I q (by simp))
  | bl j=>cases ry; exact eq_bool (yi I q Wa)
  | str j=>obtain ⟨t',rfl⟩:=ry; exact PySem.EqMixed.eq_bool_str (yi I q (by simp))
  | _=>exact absurd (show false=true from hs) Bool.false_ne_true
 | int i=>
  obtain ⟨t,rfl⟩:=rx
  cases y with
  | non=>cases ry; exact PySem.EqNone.eq_int_none (yi I q (by simp))
  | int j=>obtain ⟨t',rfl⟩:=ry; exact eq_int (yi I q Wb)
  | str j=>obtain ⟨t',rfl⟩:=ry; exact PySem.EqMixed.eq_int_str (yi I q (by simp))
  | _=>exact absurd (show false=true from hs) Bool.false_ne_true
 | str i=>
  obtain ⟨t,rfl⟩:=rx
  cases y with
  | non=>cases ry; exact PySem.EqNone.eq_str_none (yi I q (by simp))
  | bl j=>cases ry; exact PySem.EqMixed.eq_str_bool (yi I q (by simp))
  | int j=>obtain ⟨t',rfl⟩:=ry; exact PySem.EqMixed.eq_str_int (yi I q (by simp))
  | str j=>obtain ⟨t',rfl⟩:=ry; exact eq_str (yi I q Wc)
  | _=>exact absurd (show false=true from hs) Bool.false_ne_true
 | byt i=>
  obtain ⟨t,rfl⟩:=rx
  cases y with
  | byt j=>obtain ⟨t',rfl⟩:=ry; exact PySem.W.eq_bytes (yi I q Q9)
  | _=>exact absurd (show false=true from hs) Bool.false_ne_true
 | _=>cases y<;>exact absurd (show false=true from hs) Bool.false_ne_true
theorem CP:yB X (compareOp .NotEq) Er:=by
 intro pins s σ H x y v u Q I rx ry h
 obtain ⟨hs,q⟩:=h
 cases x with
 | non=>
  cases rx
  cases y with
  | non=>cases ry; exact PySem.EqNone.ne_none_none (yi I q (by simp))
  | bl j=>cases ry; exact PySem.EqNone.ne_none_bool (yi I q (by simp))
  | int j=>obtain ⟨t',rfl⟩:=ry; exact PySem.EqNone.ne_none_int (yi I q (by simp))
  | str j=>obtain ⟨t',rfl⟩:=ry; exact PySem.EqNone.ne_none_str (yi I q (by simp))
  | _=>exact absurd (show false=true from hs) Bool.false_ne_true
 | bl i=>
  cases rx
  cases y with
  | non=>cases ry; exact PySem.EqNone.ne_bool_none (yi I q (by simp))
  | bl j=>cases ry; exact ne_bool (yi I q (congrArg not Wa))
  | str j=>obtain ⟨t',rfl⟩:=ry; exact PySem.EqMixed.ne_bool_str (yi I q (by simp))
  | _=>exact absurd (show false=true from hs) Bool.false_ne_true
 | int i=>
  obtain ⟨t,rfl⟩:=rx
  cases y with
  | non=>cases ry; exact PySem.EqNone.ne_int_none (yi I q (by simp))
  | int j=>obtain ⟨t',rfl⟩:=ry; exact ne_int (yi I q (congrArg not Wb))
  | str j=>obtain ⟨t',rfl⟩:=ry; exact PySem.EqMixed.ne_int_str (yi I q (by simp))
  | _=>exact absurd (show false=true from hs) Bool.false_ne_true
 | str i=>
  obtain ⟨t,rfl⟩:=rx
  cases y with
  | non=>cases ry; exact PySem.EqNone.ne_str_none (yi I q (by simp))
  | bl j=>cases ry; exact PySem.EqMixed.ne_str_bool (yi I q (by simp))
  | int j=>obtain ⟨t',rfl⟩:=ry; exact PySem.EqMixed.ne_str_int (yi I q (by simp))
  | str j=>obtain ⟨t',rfl⟩:=ry; exact ne_str (yi I q (congrArg not Wc))
  | _=>exact absurd (show false=true from hs) Bool.false_ne_true
 | byt i=>
  obtain ⟨t,rfl⟩:=rx
  cases y with
  | byt j=>obtain ⟨t',rfl⟩:=ry; exact PySem.W.ne_bytes (yi I q (congrArg not Q9))
  | _=>exact absurd (show false=true from hs) Bool.false_ne_true
 | _=>cases y<;>exact absurd (show false=true from hs) Bool.false_ne_true
theorem Zn:yB X (compareOp .Lt) (vF fun i j=>.bl (decide (i<j))):=VT fun _ _ _ _ _ _ _ q=>lt_int q
theorem CN:yB X (compareOp .LtE) (vF fun i j=>.bl (decide (i<=j))):=VT fun _ _ _ _ _ _ _ q=>le_int q
theorem CJ:yB X (compareOp .GtE) (vF fun i j=>.bl (decide (j<=i))):=VT fun _ _ _ _ _ _ _ q=>ge_int q
theorem CM:yB X (compareOp .In) (fun x y H Q=>∃ i j,x=.str i/\y=.str j/\Q (.bl (!(Builtin.Str.occurrences j i 0 j.length 1).isEmpty)) H):=by
 intro pins s σ H x y v u Q I rx ry h
 obtain ⟨i,j,rfl,rfl,q⟩:=h
 obtain ⟨t,rfl⟩:=rx
 obtain ⟨t',rfl⟩:=ry
 exact in_str (yi I q rfl)
theorem JU:yB X (compareOp .Is) (fun x y H Q=>y=.non/\Q (.bl (decide (x=.non))) H):=by
 intro pins s σ H x y v u Q I rx ry h
 obtain ⟨rfl,q⟩:=h
 cases ry
 refine is_none_gen (yi I q ?_)
 cases x<;>first
  | (cases rx; rfl)
  | (obtain ⟨t,rfl⟩:=rx; rfl)
theorem CQ:yB X (compareOp .IsNot) (fun x y H Q=>y=.non/\Q (.bl (!decide (x=.non))) H):=by
 intro pins s σ H x y v u Q I rx ry h
 obtain ⟨rfl,q⟩:=h
 cases ry
 refine isnot_none_gen (yi I q ?_)
 cases x<;>first
  | (cases rx; rfl)
  | (obtain ⟨t,rfl⟩:=rx; rfl)
theorem yB.or {f:Value->Value->Sem Value} {r r':R2} (h:yB X f r) (h':yB X f r'):yB X f (fun x y H Q=>r x y H Q\/r' x y H Q):=by
 intro pins s σ H x y v u Q I rx ry q
 rcases q with q | q
 ·exact h pins s σ H x y v u Q I rx ry q
 ·exact h' pins s σ H x y v u Q I rx ry q
theorem yA (b:Expr) {op:CmpOp} (h:op≠.In:=by decide) (h2:op≠.NotIn:=by decide):behindInMarks op b=false:=by
 have e1:(op == CmpOp.In)=false:=by cases op<;>first | rfl | exact absurd rfl h
 have e2:(op == CmpOp.NotIn)=false:=by cases op<;>first | rfl | exact absurd rfl h2
 cases b<;>simp [behindInMarks,e1,e2]
theorem Ci {op:CmpOp} {r:R2} (ho:yB X (compareOp op) r) (ha:PE X a ta) (hb:PE X b tb) (hm:behindInMarks op b=false):PE X (.Compare a [op] [b] pos) (YD r ta tb):=by
 intro pins s σ H Q I h
 exact wpAny_Compare1 (WK ha hb I h fun v u s2 x y H2 I2 rx ry q=>ho pins s2 σ H2 x y v u Q I2 rx ry q) hm
noncomputable def K9 (t:TE):TT:=fun σ H Q=>t σ H fun x H'=>∃ k,x=.bl k/\Q k H'
theorem Jo {op:CmpOp} {r:R2} (ho:yB X (compareOp op) r) (ha:PE X a ta) (hb:PE X b tb) (hm:behindInMarks op b=false):PT X (.Compare a [op] [b] pos) (K9 (YD r ta tb)):=by
 intro pins s σ H Q I h
 refine wpAny_isTrue_Compare1 (zd (ha pins s σ H _ I h) fun v s1 ⟨x,H1,I1,r1,q1⟩=>zd (hb pins s1 σ H1 _ I1 q1) fun u s2 ⟨y,H2,I2,r2,q2⟩=>
  zd (ho pins s2 σ H2 x y v u _ I2 r1 r2 q2) fun c s3 ⟨z,H3,I3,r3,k,e,q3⟩=>?_) hm
 subst e
 cases r3
 exact wpAny_truthy_bool ⟨H3,I3,q3⟩
theorem je:(sizeLine:Nat)<2 ^ 63:=by rw [sizeLine_eq]; decide
theorem CG:yB X (binaryOp .Add) (fun x y H Q=>∃ i j,x=.str i/\y=.str j/\i.length+j.length<=sizeLine/\Q (.str (i++j)) H):=by
 intro pins s σ H x y v u Q I rx ry h
 obtain ⟨i,j,rfl,rfl,hz,q⟩:=h
 obtain ⟨t,rfl⟩:=rx
 obtain ⟨t',rfl⟩:=ry
 exact add_str (fun t' tk=>⟨.str (i++j),H,I.tok _,⟨_,rfl⟩,q⟩) hz
theorem vy {x:V} {us:List Value} (r:zZ [x] us):∃ u,us=[u]/\zY x u:=by
 cases r with
 | cons r1 r2=>cases r2; exact ⟨_,rfl,r1⟩
theorem T4 {x y:V} {us:List Value} (r:zZ [x,y] us):∃ u w',us=[u,w']/\zY x u/\zY y w':=by
 cases r with
 | cons r1 r2=>
  cases r2 with
  | cons r3 r4=>cases r4; exact ⟨_,_,rfl,r1,r3⟩
end
end L2
namespace L2
open PySem PySem.Spec PyProof.Rows
structure pG (h:Heap) (x dx C:Addr) (mA:Str->Option Value):Prop where
 obj:h.get? x=some (PySem.W.instObj C dx)
 ns:h.Ns1 dx mA
 ne:dx≠x
theorem DF {h:Heap} {dx:Addr} {mA:Str->Option Value} (n:h.Ns1 dx mA):∃ od,h.get? dx=some od/\∀ name,PySem.W.lookIn name od=some (mA name):=by
 obtain ⟨o,es,ep,ho,hd,hk,_,hm⟩:=n
 refine ⟨o,ho,fun name=>?_⟩
 have e:=hm name
 unfold nsFind findBy at e
 rw [<- Array.find?_toList] at e
 unfold PySem.W.lookIn
 rw [hd]
 dsimp only
 split
 ·rename_i y q
  rw [q] at e
  exact congrArg some e
 ·rename_i q
  rw [q] at e
  have a:es.toList.any (·.refKey)=false:=by
   rw [List.any_eq_false]
   intro y hy
   obtain ⟨z,t,hkey⟩:=hk y (Array.mem_toList_iff.mp hy)
   simp [DictEntry.refKey,hkey]
  have a':¬ es.toList.any (·.refKey)=true:=by rw [a]; exact Bool.false_ne_true
  rw [if_neg a']
  exact congrArg some e
theorem pG.look {h:Heap} {x dx C:Addr} {mA:Str->Option Value} (I:pG h x dx C mA):∃ od,PySem.W.InstAt h x (PySem.W.instObj C dx) C (some od)/\∀ name,PySem.W.lookIn name od=some (mA name):=
 let ⟨od,ho,hl⟩:=DF I.ns
 ⟨od,⟨I.obj,rfl,rfl,ho⟩,hl⟩
section
variable {prog:Program} {w:World} {A:Around} {E:Value->Shared->Prop} {s:Shared} {K:PySem.W.Frag} {x dx C f:Addr} {mA:Str->Option Value} {name:Str} {v:Value}
theorem MM {expr:Bool} {Q:Value->Shared->Prop} (X:K.In s.heap) (I:pG s.heap x dx C mA) (hg:PySem.W.plainGet K C name=true) (hh:PySem.W.hasDictIn K C=true)
  (ha:PySem.W.findIn K (.ref C) name=some none) (hv:mA name=some v) (hv':PySem.W.handedIn v=true) (h:Q v { s with toks:=s.toks+1 }) :
  wpAny (model prog w) A (getAttr (.ref x) name expr) Q E s:=by
 obtain ⟨od,J,hl⟩:=I.look
 exact PySem.W.get_value X J (PySem.W.plainGet_of hg).1 (PySem.W.findObj_own hh ha rfl (by rw [hl,hv])) hv' h
theorem MN {pl:Sem Bool} {Q:Value×List Value->Shared->Prop} (X:K.In s.heap) (I:pG s.heap x dx C mA) (hg:PySem.W.plainGet K C name=true)
  (hf:PySem.W.findIn K (.ref C) name=some (some (.ref f))) (ht:PySem.W.isFn K (.ref f)=true) (hv:mA name=none) (h:Q (.ref f,[.ref x]) s) :
  wpAny (model prog w) A (getMethod (.ref x) name pl) Q E s:=by
 obtain ⟨od,J,hl⟩:=I.look
 exact PySem.W.method_fn X J (PySem.W.plainGet_of hg).1 (PySem.W.plainGet_of hg).2 hf (beq_iff_eq.mp ht) (by show (PySem.W.lookIn name od).map (·.isSome)=some false; rw [hl,hv]; rfl) h
theorem HI {ns:List Str} {Q:Unit->Shared->Prop} (X:K.In s.heap) (I:pG s.heap x dx C mA)
  (hs:PySem.W.findIn K (.ref C) "__setattr__" = some (some (.builtin "object.__setattr__"))) (hp:PySem.W.plainOver K C=true) (ht:PySem.W.takerIn K C name=some none) (hh:PySem.W.hasDictIn K C=true)
  (hw:PySem.Within mA ns) (hsz:ns.length<=sizeLine)
  (h:∀ h',pG h' x dx C (fun y=>if y=name then some v else mA y)->Heap.SameBut dx s.heap h'->Q () { s with heap:=h',toks:=s.toks+2 }) :
  wpAny (model prog w) A (setAttr (.ref x) name v) Q E s:=by
 obtain ⟨od,J,hl⟩:=I.look
 refine PySem.W.set_plain X J hs (PySem.W.osa_open (s:={ s with toks:=s.toks+1 }) (r:=none) X J hp ht fun b=>?_)
 obtain ⟨cd,hc,hd'⟩:=PySem.W.any_some hh
 have hx:s.heap.get? x=some ⟨.ref C,some dx,.plain,#[]⟩:=I.obj
 refine wpAny_bind (wpAny_pure (wpAny_bind (wpAny_bind (wpAny_loadPart hx (wpAny_bind (PySem.W.Looks.here (s:={ s with toks:=s.toks+1 }) (PySem.W.looks_clsIn X hc) ?_))))))
 rw [hd']
 refine wpAny_pure (a:=some dx) (wpAny_bind (wpAny_pure (wpAny_bind ?_)))
 refine wpAny_nsSet1 (s:={ s with toks:=s.toks+1 }) I.ns fun h' hn2 hs2=>?_
 obtain ⟨oD,esD,epD,hoD,hdD,hcD⟩:=hn2.count (PySem.Within.cons name v hw)
 refine wpAny_bind (wpAny_lookBehind hoD (by rw [hdD]; exact pastItsLine_dict (Nat.le_trans hcD (by rw [List.length_cons]; omega))) ?_)
 exact wpAny_pure (h _ ⟨(hs2.2 _ (Ne.symm I.ne)).trans I.obj,hn2,I.ne⟩ hs2)
theorem DK {R:Result->Shared->Prop} {vs:List Value} {kw:List (Str×Value)} (X:K.In s.heap) (hm:PySem.W.makesIn K C=true)
  (hi:PySem.W.findIn K (.ref C) "__init__" = some (some (.ref f))) (hf:PySem.W.typeIn K (.ref f)=some (.type "function"))
  (h:codeAny (model prog w) (A.under (.builtin "type.__call__" ⟨.ref C::vs,kw⟩)) (.call (.ref f) ⟨.ref (s.heap.objs.size+1)::vs,kw⟩) (PySem.W.InitBack (s.heap.objs.size+1) R)
   { s with heap:=(s.heap.push PySem.W.emptyDict).push (PySem.W.instObj C s.heap.objs.size) }) :
  codeAny (model prog w) A (.call (.ref C) ⟨vs,kw⟩) R s:=by
 obtain ⟨hh,g,d,t,os⟩:=s
 exact PySem.W.make_core (PySem.W.makes_of X hm) (PySem.W.looks_findIn X hi) (fun self=>PySem.W.bind_fn X self hf) (.inl rfl) h
end
noncomputable def putF (f:Str) (v:V):List (Str×V)->List (Str×V)
 | []=>[(f,v)]
 | (g,x)::r=>if g=f then (g,v)::r else (g,x)::putF f v r
theorem JC (f g:Str) (v:V):∀ fs:List (Str×V),(putF f v fs).lookup g=if g=f then some v else fs.lookup g
 | []=>by
  show List.lookup g [(f,v)]=_
  by_cases h:g=f
  ·have hb:(g == f)=true:=beq_iff_eq.mpr h
   simp only [List.lookup,hb,if_pos h]
  ·have hb:(g == f)=false:=beq_eq_false_iff_ne.mpr h
   simp only [List.lookup,hb,if_neg h]
 | (k,x)::r=>by
  have ih:=JC f g v r
  rw [show putF f v ((k,x)::r)=(if k=f then (k,v)::r else (k,x)::putF f v r) from rfl]
  by_cases hk:k=f
  ·rw [if_pos hk]
   by_cases h:g=k
   ·have hb:(g == k)=true:=beq_iff_eq.mpr h
    simp only [List.lookup,hb,if_pos (h.trans hk)]
   ·have hb:(g == k)=false:=beq_eq_false_iff_ne.mpr h
    simp only [List.lookup,hb,if_neg (fun e:g=f=>h (e.trans hk.symm))]
  ·rw [if_neg hk]
   by_cases h:g=k
   ·have hb:(g == k)=true:=beq_iff_eq.mpr h
    simp only [List.lookup,hb,if_neg (fun e:g=f=>hk (h.symm.trans e))]
   ·have hb:(g == k)=false:=beq_eq_false_iff_ne.mpr h
    simp only [List.lookup,hb]
    exact ih
theorem V7 (f:Str) (v:V):∀ fs:List (Str×V),f∈(putF f v fs).map (·.1)/\∀ g,g∈fs.map (·.1)->g∈(putF f v fs).map (·.1)
 | []=>⟨by simp [putF],fun g h=>by simp at h⟩
 | (k,x)::r=>by
  obtain ⟨i1,i2⟩:=V7 f v r
  rw [show putF f v ((k,x)::r)=(if k=f then (k,v)::r else (k,x)::putF f v r) from rfl]
  by_cases hk:k=f
  ·rw [if_pos hk]
   subst hk
   exact ⟨by simp,fun g h=>by simpa using h⟩
  ·rw [if_neg hk]
   refine ⟨?_,fun g h=>?_⟩
   ·rw [List.map_cons]
    exact List.mem_cons_of_mem _ i1
   ·rw [List.map_cons] at h ⊢
    rcases List.mem_cons.mp h with e | e
    ·exact List.mem_cons.mpr (.inl e)
    ·exact List.mem_cons_of_mem _ (i2 g e)
theorem JA (f:Str) (v:V):∀ fs:List (Str×V),(putF f v fs).length<=fs.length+1
 | []=>by simp [putF]
 | (k,x)::r=>by
  have ih:=JA f v r
  rw [show putF f v ((k,x)::r)=(if k=f then (k,v)::r else (k,x)::putF f v r) from rfl]
  by_cases hk:k=f
  ·rw [if_pos hk,List.length_cons,List.length_cons]; omega
  ·rw [if_neg hk,List.length_cons,List.length_cons]; omega
theorem w6.some_of {v:V} {o:Option Value} (r:w6 (some v) o):∃ u,o=some u/\zY v u:=by
 cases o with
 | none=>exact (show False from r).elim
 | some u=>exact ⟨u,rfl,r⟩
theorem w6.none_of {o:Option Value} (r:w6 none o):o=none:=by
 cases o with
 | none=>rfl
 | some u=>exact (show False from r).elim
theorem BM {v:V} {u:Value} (r:zY v u):PySem.W.handedIn u=true:=by
 cases v with
 | non=>cases (show u=Value.none from r); rfl
 | bl b=>cases (show u=Value.bool b from r); rfl
 | int i=>obtain ⟨t,e⟩:=(show ∃ t,u=Value.int i t from r); cases e; rfl
 | str x=>obtain ⟨t,e⟩:=(show ∃ t,u=Value.str x t from r); cases e; rfl
 | byt b=>obtain ⟨t,e⟩:=(show ∃ t,u=Value.bytes b t from r); cases e; rfl
 | flt b=>obtain ⟨t,e⟩:=(show ∃ t,u=Value.float b t from r); cases e; rfl
 | ref a=>cases (show u=Value.ref a from r); rfl
 | ty n=>cases (show u=Value.type n from r); rfl
section
variable {P:Program} {w:World} {H H':Hp} {h h':Heap} {a C dx:Addr} {fs fs':List (Str×V)}
theorem ZZ (hok:yd P w H h) (e:H a=some (.ins C dx fs)):∃ mA,pG h a dx C mA/\(∀ f,w6 (fs.lookup f) (mA f))/\PySem.Within mA (fs.map (·.1))/\fs.length<=1000/\H dx=some (.own a):=by
 obtain ⟨d,z,ne,ob,mA,n,r,q⟩:=(show yh P w H h a (.ins C dx fs) from hok a _ e)
 exact ⟨mA,⟨ob,n,ne⟩,r,q,z,d⟩
end
structure wR (K:PySem.W.Frag) (C:Addr):Prop where
 pg:PySem.W.plainGet K C Str.empty=true
 hd:PySem.W.hasDictIn K C=true
 po:PySem.W.plainOver K C=true
 sa:PySem.W.findIn K (.ref C) "__setattr__" = some (some (.builtin "object.__setattr__"))
theorem wR.get {K:PySem.W.Frag} {C:Addr} (c:wR K C) (f:Str):PySem.W.plainGet K C f=true:=c.pg
noncomputable def qL (K:PySem.W.Frag) (C:Addr) (f:Str):Prop:=PySem.W.findIn K (.ref C) f=some none
theorem qL.taker {K:PySem.W.Frag} {C:Addr} {f:Str} (n:qL K C f):PySem.W.takerIn K C f=some none:=by
 unfold PySem.W.takerIn
 rw [show PySem.W.findIn K (.ref C) f=some none from n]
 rfl
structure Z1 (K:PySem.W.Frag) (C:Addr) (m:Str) (f:Addr):Prop where
 at_:PySem.W.findIn K (.ref C) m=some (some (.ref f))
 fn:PySem.W.isFn K (.ref f)=true
 kp:PySem.W.keepIn K (.ref f)=true
section
variable {X:Cx} {pins:List (Addr×Obj)} {σ:St} {H:Hp} {s:Shared} {a C dx:Addr} {fs:List (Str×V)} {f:Str} {v:V} {A:Around} {E:Value->Shared->Prop}
theorem Qg {b:Bool} {Q:Value->Shared->Prop} (I:zC X pins σ H s) (e:H a=some (.ins C dx fs)) (c:wR X.K C) (n:qL X.K C f) (l:fs.lookup f=some v)
  (h:∀ u s',zC X pins σ H s'->zY v u->Q u s'):wpAny (model X.prog X.w) A (getAttr (.ref a) f b) Q E s:=by
 obtain ⟨mA,O,r,_,_,_⟩:=ZZ I.hok e
 obtain ⟨u,hu,ru⟩:=w6.some_of (v:=v) (o:=mA f) (by rw [<- l]; exact r f)
 exact MM I.kIn O (c.get f) c.hd n hu (BM ru) (h u _ (I.tok _) ru)
theorem Qh {m:Str} {g:Addr} {pl:Sem Bool} {Q:Value×List Value->Shared->Prop} (I:zC X pins σ H s) (e:H a=some (.ins C dx fs)) (c:wR X.K C) (k:Z1 X.K C m g) (l:fs.lookup m=none)
  (h:Q (.ref g,[.ref a]) s):wpAny (model X.prog X.w) A (getMethod (.ref a) m pl) Q E s:=by
 obtain ⟨mA,O,r,_,_,_⟩:=ZZ I.hok e
 have hn:mA m=none:=w6.none_of (by rw [<- l]; exact r m)
 exact MN I.kIn O (c.get m) k.at_ k.fn hn h
theorem Ip {y:V} {u:Value} {Q:Unit->Shared->Prop} (I:zC X pins σ H s) (e:H a=some (.ins C dx fs)) (c:wR X.K C) (n:qL X.K C f) (hl:fs.length<1000) (ry:zY y u)
  (h:∀ s',zC X pins σ (zR H a (.ins C dx (putF f y fs))) s'->Q () s'):wpAny (model X.prog X.w) A (setAttr (.ref a) f u) Q E s:=by
 obtain ⟨mA,O,r,wi,_,ho⟩:=ZZ I.hok e
 have hz:(fs.map (·.1)).length<=sizeLine:=by rw [List.length_map,sizeLine_eq]; omega
 refine HI I.kIn O c.sa c.po n.taker c.hd wi hz fun h' O' sb=>h _ ?_
 have hd:∃ o,h'.get? dx=some o:=let ⟨o,_,_,e',_⟩:=O'.ns; ⟨o,e'⟩
 refine I.write (x:=a) (e:=dx) (by rw [e]; exact True.intro) (.inr ho) (fun b q hb z=>(sb.2 b hb).trans z) hd ?_
 refine ⟨by rw [z_ O.ne]; exact ho,?_,O.ne,O'.obj,_,O'.ns,fun g=>?_,fun g hg=>?_⟩
 ·have:=JA f y fs; omega
 ·show w6 ((putF f y fs).lookup g) (if g=f then some u else mA g)
  rw [JC]
  by_cases q:g=f
  ·rw [if_pos q,if_pos q]; exact ry
  ·rw [if_neg q,if_neg q]; exact r g
 ·by_cases q:g=f
  ·rw [q]; exact (V7 f y fs).1
  ·refine (V7 f y fs).2 g (wi g fun z=>hg ?_)
   show (if g=f then some u else mA g)=none
   rw [if_neg q]; exact z
theorem zC.made (I:zC X pins σ H s):zC X pins σ (zR (zR H s.heap.objs.size (.own (s.heap.objs.size+1))) (s.heap.objs.size+1) (.ins C s.heap.objs.size []))
  { s with heap:=(s.heap.push PySem.W.emptyDict).push (PySem.W.instObj C s.heap.objs.size) }:=by
 have e1:(s.heap.push PySem.W.emptyDict).get? s.heap.objs.size=some PySem.W.emptyDict:=Heap.get?_push_size s.heap rfl
 have e2:((s.heap.push PySem.W.emptyDict).push (PySem.W.instObj C s.heap.objs.size)).get? (s.heap.objs.size+1)=some (PySem.W.instObj C s.heap.objs.size):=by
  have:=Heap.get?_push_size (s.heap.push PySem.W.emptyDict) (o:=PySem.W.instObj C s.heap.objs.size) rfl
  rwa [Heap.size_push] at this
 have e3:(s.heap.push PySem.W.emptyDict).Ns s.heap.objs.size (fun _=>none):=⟨PySem.W.emptyDict,#[],_,e1,rfl,(fun e he=>absurd he (by simp)),fun _=>rfl⟩
 have I1:=I.laid (a:=s.heap.objs.size) (o:=.own (s.heap.objs.size+1)) (h':=s.heap.push PySem.W.emptyDict) (t':=s.toks) (fun b u q=>Heap.get?_push_of_some _ q) (Nat.le_refl _) ⟨_,e1⟩
 refine I1.laid (a:=s.heap.objs.size+1) (o:=.ins C s.heap.objs.size []) (t':=s.toks) (fun b u q=>Heap.get?_push_of_some _ q) (Nat.le_of_eq (Heap.size_push _ _)) ?_
 have ne:s.heap.objs.size≠s.heap.objs.size+1:=Nat.ne_of_lt (Nat.lt_succ_self _)
 refine ⟨by rw [z_ ne,yk],Nat.zero_le _,ne,e2,fun _=>none,(Heap.Ns1.of_empty e3).at fun o q=>Heap.get?_push_of_some _ q,fun _=>True.intro,fun y hy=>absurd rfl hy⟩
theorem Of {prog:Program} {w:World} {env:Env} {e:Expr} {f:Str} {pos:Pos} {s:Shared} {Q:Value->Shared->Prop} (hb:attributeBase e f env (eval e env)=eval e env)
  (h:wpAny (model prog w) A (eval e env) (fun o s₁=>wpAny (model prog w) A (getAttr o f true) Q E s₁) E s):wpAny (model prog w) A (eval (.Attribute e f pos) env) Q E s:=
 Attribute_any_ h (by rw [arm_eval_Attribute,hb])
end
noncomputable def Ho (K:PySem.W.Frag) (ta:TE) (f:Str):TE:=fun σ H Q=>ta σ H fun x H1=>∃ a C dx fs v,x=.ref a/\H1 a=some (.ins C dx fs)/\wR K C/\qL K C f/\fs.lookup f=some v/\Q v H1
noncomputable def GG (K:PySem.W.Frag) (ta tv:TE) (f:Str):TS:=fun D σ H=>tv σ H fun y H1=>ta σ H1 fun x H2=>∃ a C dx fs,x=.ref a/\H2 a=some (.ins C dx fs)/\wR K C/\qL K C f/\fs.length<1000/\
 D.nx σ (zR H2 a (.ins C dx (putF f y fs)))
noncomputable def TK (X:Cx) (op:Operator) (rd:V->V->Hp->VK->Prop):Prop:=
 ∀ (pins:List (Addr×Obj)) (s:Shared) (σ:St) (H:Hp) (x y:V) (u v:Value) (Q:VK),zC X pins σ H s->zY x u->zY y v->rd x y H Q->wpAny (model X.prog X.w) X.A (inplaceOp op u v) (EP X pins σ Q) X.xe s
noncomputable def GH (K:PySem.W.Frag) (ta tv:TE) (rd:V->V->Hp->VK->Prop) (f:Str):TS:=fun D σ H=>ta σ H fun x H1=>∃ a C dx fs v,x=.ref a/\H1 a=some (.ins C dx fs)/\wR K C/\qL K C f/\fs.lookup f=some v/\
 tv σ H1 fun y H2=>rd v y H2 fun z H3=>∃ dx' fs',H3 a=some (.ins C dx' fs')/\fs'.length<1000/\D.nx σ (zR H3 a (.ins C dx' (putF f z fs')))
section
variable {X:Cx} {o e value:Expr} {f:Str} {pos pos' tpos:Pos} {ta tv:TE}
theorem JZ (he:PE X e ta) (hb:attributeBase e f X.env (eval e X.env)=eval e X.env):PE X (.Attribute e f pos) (Ho X.K ta f):=by
 intro pins s σ H Q I h
 refine Of hb (zd (he pins s σ H _ I h) fun u s1 ⟨x,H1,I1,rx,a,C,dx,fs,v,ex,ea,c,n,l,q⟩=>?_)
 subst ex
 obtain rfl:u=Value.ref a:=rx
 exact Qg I1 ea c n l fun u' s2 I2 ru=>⟨v,H1,I2,ru,q⟩
theorem EK (ha:PE X o ta) (hv:PE X value tv) (hs:swapsWith value (some (.Attribute o f pos')) pos.line X.env=pure false):PS X (.Assign [.Attribute o f pos'] value pos) (GG X.K ta tv f):=by
 intro pins s σ H D I h
 refine plainObj_wpAny_Assign_Attribute (zd (hv pins s σ H _ I h) fun u s1 ⟨y,H1,I1,ry,q⟩=>zd (ha pins s1 σ H1 _ I1 q) fun ov s2 ⟨x,H2,I2,rx,a,C,dx,fs,ex,ea,c,n,l,q2⟩=>?_) hs
 subst ex
 obtain rfl:ov=Value.ref a:=rx
 exact Ip I2 ea c n l ry fun s3 I3=>⟨σ,_,I3,q2⟩
theorem EL {op:Operator} {rd:V->V->Hp->VK->Prop} (ha:PE X o ta) (hv:PE X value tv) (hop:TK X op rd):PS X (.AugAssign (.Attribute o f tpos) op value pos) (GH X.K ta tv rd f):=by
 intro pins s σ H D I h
 refine wpAny_AugAssign_AttributeAny (zd (ha pins s σ H _ I h) fun ov s1 ⟨x,H1,I1,rx,a,C,dx,fs,v,ex,ea,c,n,l,q⟩=>?_)
 subst ex
 obtain rfl:ov=Value.ref a:=rx
 refine Qg I1 ea c n l fun u s2 I2 ru=>zd (hv pins s2 σ H1 _ I2 q) fun w3 s3 ⟨y,H2,I3,ry,q3⟩=>zd (hop pins s3 σ H2 v y u w3 _ I3 ru ry q3) fun w4 s4 ⟨z,H3,I4,rz,dx',fs',ea',l',q4⟩=>?_
 exact Ip I4 ea' c n l' rz fun s5 I5=>⟨σ,_,I5,q4⟩
noncomputable def El:V->V->Hp->VK->Prop:=fun x y H Q=>∃ i j,x=.int i/\y=.int j/\Q (.int (i+j)) H
theorem BV:TK X .Add El:=by
 rintro pins s σ H x y u v Q I rx ry ⟨i,j,rfl,rfl,q⟩
 obtain ⟨t,rfl⟩:=(show ∃ t,u=Value.int i t from rx)
 obtain ⟨t',rfl⟩:=(show ∃ t',v=Value.int j t' from ry)
 exact PyProof.Rows.iadd_int ⟨.int (i+j),H,I.tok _,⟨_,rfl⟩,q⟩
end
section
variable {X:Cx} {pins:List (Addr×Obj)} {σ:St} {H:Hp} {s:Shared} {A:Around} {E:Value->Shared->Prop} {Q:Value->Shared->Prop} {c:Value} {b:Bool}
inductive vg (K:PySem.W.Frag) (H:Hp):V->Value->Prop where
 | non:vg K H .non (.type "NoneType")
 | bl (x:Bool):vg K H (.bl x) (.type "bool")
 | int (i:Int):vg K H (.int i) (.type "int")
 | str (x:Str):vg K H (.str x) (.type "str")
 | flt (x:UInt64):vg K H (.flt x) (.type "float")
 | lst {a:Addr} {xs:List V} (e:H a=some (.lst xs)):vg K H (.ref a) (.type "list")
 | frz {a:Addr} {o:Obj} {xs:List V} (e:H a=some (.frz o (.lst xs))):vg K H (.ref a) (.type "list")
 | tup {a:Addr} {xs:List V} (e:H a=some (.tup xs)):vg K H (.ref a) (.type "tuple")
 | dK {a:Addr} {kvs:List (zM×V)} (e:H a=some (.dK kvs)):vg K H (.ref a) (.type "dict")
 | dT {a:Addr} {kvs:List (List zM×V)} (e:H a=some (.dT kvs)):vg K H (.ref a) (.type "dict")
 | ins {a C dx:Addr} {fs:List (Str×V)} (e:H a=some (.ins C dx fs)) (cl:wR K C) (ha:PySem.W.findIn K (.ref C) "__class__" = some (some (.builtin "object.__class__")))
   (hn:PySem.W.specialIn K (.builtin "object.__class__") "__get__" = some (some (.builtin "getset_descriptor.__get__"))) (htk:PySem.W.takesIn K (.builtin "object.__class__")=some true)
   (hm:PySem.W.mroIn K C (.type "object")=some true):vg K H (.ref a) (.ref C)
theorem Zb {x:V} {u t:Value} (I:zC X pins σ H s) (rx:zY x u) (ty:vg X.K H x t) (e:PySem.W.kitOne X.K t c=some b) (h:∀ tk,Q (.bool b) { s with toks:=tk }) :
  wpAny (model X.prog X.w) A (call (.builtin "isinstance") [u,c]) Q E s:=by
 cases ty with
 | non=>cases (show u=Value.none from rx); exact PySem.W.kia_one PySem.W.kitx_none I.kIn True.intro e (fun z=>nomatch z) h
 | bl y=>cases (show u=Value.bool y from rx); exact PySem.W.kia_one PySem.W.kitx_bool I.kIn True.intro e (fun z=>nomatch z) h
 | int i=>obtain ⟨t,q⟩:=(show ∃ t,u=Value.int i t from rx); cases q; exact PySem.W.kia_one PySem.W.kitx_int I.kIn True.intro e (fun z=>nomatch z) h
 | str y=>obtain ⟨t,q⟩:=(show ∃ t,u=Value.str y t from rx); cases q; exact PySem.W.kia_one PySem.W.kitx_str I.kIn True.intro e (fun z=>nomatch z) h
 | flt y=>obtain ⟨t,q⟩:=(show ∃ t,u=Value.float y t from rx); cases q; exact PySem.W.kia_one PySem.W.kitx_float I.kIn True.intro e (fun z=>nomatch z) h
 | @lst a xs ea=>
  cases (show u=Value.ref a from rx)
  obtain ⟨_,_,n,_,h1⟩:=(show yh X.prog X.w H s.heap a (.lst xs) from I.hok a _ ea)
  exact PySem.W.kia_one PySem.W.kitx_list I.kIn ⟨_,h1,rfl⟩ e (fun z=>nomatch z) h
 | @frz a ob xs ea=>
  cases (show u=Value.ref a from rx)
  obtain ⟨_,_,_,n,_,h1⟩:=(show yh X.prog X.w H s.heap a (.frz ob (.lst xs)) from I.hok a _ ea)
  exact PySem.W.kia_one PySem.W.kitx_list I.kIn ⟨_,h1,rfl⟩ e (fun z=>nomatch z) h
 | @tup a xs ea=>
  cases (show u=Value.ref a from rx)
  obtain ⟨_,_,_,p⟩:=(show yh X.prog X.w H s.heap a (.tup xs) from I.hok a _ ea)
  obtain ⟨o,h1,h2,_⟩:=p
  exact PySem.W.kia_one PySem.W.kitx_tuple I.kIn ⟨o,h1,h2⟩ e (fun z=>nomatch z) h
 | @dK a kvs ea=>
  cases (show u=Value.ref a from rx)
  obtain ⟨_,_,vs,_,p⟩:=(show yh X.prog X.w H s.heap a (.dK kvs) from I.hok a _ ea)
  obtain ⟨o,es,ep,h1,h2,_⟩:=p
  exact PySem.W.kia_one PySem.W.kitx_dict I.kIn ⟨o,h1,h2.1⟩ e (fun z=>nomatch z) h
 | @dT a kvs ea=>
  cases (show u=Value.ref a from rx)
  obtain ⟨_,_,xs,_,o,es,ep,h1,h2,_⟩:=(show yh X.prog X.w H s.heap a (.dT kvs) from I.hok a _ ea)
  exact PySem.W.kia_one PySem.W.kitx_dict I.kIn ⟨o,h1,h2.1⟩ e (fun z=>nomatch z) h
 | @ins a C dx fs ea cl ha hn htk hm=>
  cases (show u=Value.ref a from rx)
  obtain ⟨mA,O,_⟩:=ZZ I.hok ea
  obtain ⟨od,J,_⟩:=O.look
  exact PySem.W.kia_one (PySem.W.kitx_own (cl.get _) cl.hd ha hn htk hm) I.kIn J e (fun z=>nomatch z) h
end
end L2
namespace L2
open PySem PySem.Spec PyProof.Rows
structure zt (k:Nat) (A:Around):Prop where
 hd:A.handled=none
 dp:A.depth+3*k+5<recursionLimit
 un:A.units+16*k+200<cLine
 gd:A.guards=some []
theorem zt.mono {j k:Nat} {A:Around} (r:zt k A) (h:j<=k):zt j A:=⟨r.hd,by have:=r.dp; omega,by have:=r.un; omega,r.gd⟩
theorem zt.deeper {k:Nat} {A:Around} (r:zt (k+1) A) (env:Env):zt k (A.deeper env):=
 ⟨r.hd,by have:=r.dp; show A.depth+1+3*k+5<_; omega,by have:=r.un; show A.units+3+16*k+200<_; omega,by first | exact r.gd | simp [Around.under,Code.guards,pushGuards,r.gd]⟩
theorem DJ {A:Around} {C:Addr} {us:List Value} {kw:List (Str×Value)}:(A.under (.builtin "type.__call__" ⟨.ref C::us,kw⟩)).depth=A.depth+1:=by
 first | rfl | simp [Around.under,Code.weight,Code.isCreation,Code.isGuard,Code.isCaller,Code.frames,Code.isFrame,guardIds]
theorem DL {A:Around} {C:Addr} {us:List Value} {kw:List (Str×Value)}:(A.under (.builtin "type.__call__" ⟨.ref C::us,kw⟩)).units=A.units+1:=by
 first | rfl | simp [Around.under,Code.cUnits,Code.frames,Code.isFrame]
theorem zt.make {k:Nat} {A:Around} (r:zt (k+1) A) (C:Addr) (us:List Value) (kw:List (Str×Value)):zt k (A.under (.builtin "type.__call__" ⟨.ref C::us,kw⟩)):=
 ⟨r.hd,by have:=r.dp; rw [DJ]; omega,by have:=r.un; rw [DL]; omega,by first | exact r.gd | simp [Around.under,Code.guards,pushGuards,r.gd]⟩
theorem zt.depth {k:Nat} {A:Around} (r:zt k A):A.depth<recursionLimit:=by have:=r.dp; omega
theorem zt.units {k:Nat} {A:Around} (r:zt k A):A.units+64<cLine:=by have:=r.un; omega
noncomputable def px:TA:=fun _ H Q=>Q [] H
noncomputable def Uw (ta:TE) (tr:TA):TA:=fun σ H Q=>ta σ H fun x H1=>tr σ H1 fun xs H2=>Q (x::xs) H2
section
variable {X:Cx} {e:Expr} {es:List Expr} {te:TE} {t:TA} {pos:Pos}
theorem kB:PA X [] px:=fun _ _ _ _ H Q I h=>Calls.spliced_nil ⟨[],H,I,.nil,h⟩
theorem CT (ha:PE X e te) (hr:PA X es t) (hs:starEach (e::es) X.env=(false,eval e X.env)::starEach es X.env:=by rfl):PA X (e::es) (Uw te t):=by
 intro pos pins s σ H Q I h
 rw [hs]
 show wpAny _ _ (spliced ((false,eval e X.env)::backTo pos (starEach es X.env))) _ _ s
 refine Calls.spliced_cons (zd (ha pins s σ H _ I h) fun u s1 ⟨x,H1,I1,r1,q1⟩=>?_)
 exact zd (hr pos pins s1 σ H1 _ I1 q1) fun us s2 ⟨xs,H2,I2,r2,q2⟩=>⟨x::xs,H2,I2,.cons r1 r2,q2⟩
noncomputable def KA (t:TA):TE:=fun σ H Q=>t σ H fun xs H1=>xs.length<=sizeLine/\∀ p,H1 p=none->Q (.ref p) (zR H1 p (.tup xs))
noncomputable def Hu (t:TA):TE:=fun σ H Q=>t σ H fun xs H1=>xs.length<=sizeLine/\∀ p,H1 p=none->Q (.ref p) (zR H1 p (.lst xs))
theorem Cv {x1} (h:PA X es t):PE X (.Tuple es x1 pos) (KA t):=by
 intro pins s σ H Q I hq
 refine wpAny_Tuple_spliced (zd (h pos pins s σ H _ I hq) fun us s1 ⟨xs,H1,I1,r,z,q⟩=>⟨by rw [<- r.length]; exact z,?_⟩)
 have hf:H1 s1.heap.objs.size=none:=I1.hok.fresh (Nat.le_refl _)
 refine ⟨.ref s1.heap.objs.size,zR H1 s1.heap.objs.size (.tup xs),I1.laid (t':=s1.toks) (fun b u e=>Heap.get?_push_of_some _ e) (Nat.le_refl _) ?_,rfl,q _ hf⟩
 exact ⟨z,us,r,⟨_,Heap.get?_push_size _ rfl,rfl,_,rfl⟩⟩
theorem Jb (h:PA X es t):PE X (.List es pos) (Hu t):=by
 intro pins s σ H Q I hq
 refine wpAny_List_spliced (zd (h pos pins s σ H _ I hq) fun us s1 ⟨xs,H1,I1,r,z,q⟩=>⟨by rw [<- r.length]; exact z,?_⟩)
 have hf:H1 s1.heap.objs.size=none:=I1.hok.fresh (Nat.le_refl _)
 refine ⟨.ref s1.heap.objs.size,zR H1 s1.heap.objs.size (.lst xs),I1.laid (t':=s1.toks) (fun b u e=>Heap.get?_push_of_some _ e) (Nat.le_refl _) ?_,rfl,q _ hf⟩
 exact ⟨z,us,0,r,Heap.get?_push_size _ rfl⟩
end
noncomputable abbrev Sp:=List V->Hp->VK->XK->Prop
noncomputable abbrev uW:=List Env->Hp->Shared->XK->Value->Shared->Prop
structure qu (P:Program) (w:World) (K:PySem.W.Frag) (mg:Str->Option Value) (base:Heap) (A:Around) (outer:List Env) (s:Shared) (H:Hp):Prop where
 frames:A.frames=some outer
 mod:Mod K mg base
 bs:∀ b o,base.get? b=some o->s.heap.get? b=some o/\H b=none
 bsz:base.objs.size<=s.heap.objs.size
 funs:s.heap.FunFrames base outer
 frf:∀ b∈vR outer,H b=none
 hok:yd P w H s.heap
 bare:AllBare s.gens
noncomputable def CE (outer:List Env) (P:Program) (w:World) (H:Hp) (s:Shared) (Q:VK) (u:Value) (s':Shared):Prop:=
 ∃ v H',s'.os=s.os/\AllBare s'.gens/\Un (vR outer) [] H H' s.heap s'.heap/\yd P w H' s'.heap/\zY v u/\Q v H'
noncomputable def CR (CX:uW) (outer:List Env) (P:Program) (w:World) (H:Hp) (s:Shared) (Q:VK) (E:XK) (r:Result) (s':Shared):Prop:=
 match r with
 | .ok (.ret u)=>CE outer P w H s Q u s'
 | .ok _=>False
 | .error e=>CX outer H s E e s'
structure yO (P:Program) (w:World) (K:PySem.W.Frag) (mg:Str->Option Value) (base:Heap) (CX:uW) (k:Nat) (f:Addr) (fd:FuncData) (ps:List Str) (sp:Sp):Prop where
 len:∀ vs H Q E,sp vs H Q E->vs.length=ps.length
 run:∀ (A:Around) (outer:List Env) (s:Shared) (H:Hp) (args:Args) (us:List Value) (vs:List V) (Q:VK) (E:XK),zt k A->qu P w K mg base A outer s H->BindsTo s fd args (ps.zip us)->zZ vs us->sp vs H Q E->
  codeAny (model P w) A (.call (.ref f) args) (CR CX outer P w H s Q E) s
theorem yO.imp {P:Program} {w:World} {K:PySem.W.Frag} {mg:Str->Option Value} {base:Heap} {CX:uW} {k:Nat} {f:Addr} {fd:FuncData} {ps:List Str} {sp sp':Sp} (F:yO P w K mg base CX k f fd ps sp)
  (h:∀ vs H Q E,sp' vs H Q E->sp vs H Q E):yO P w K mg base CX k f fd ps sp':=
 ⟨fun vs H Q E q=>F.len vs H Q E (h _ _ _ _ q),fun A outer s H args us vs Q E hr he hb hv hs=>F.run A outer s H args us vs Q E hr he hb hv (h _ _ _ _ hs)⟩
theorem qu.make {P:Program} {w:World} {K:PySem.W.Frag} {mg:Str->Option Value} {base:Heap} {A:Around} {outer:List Env} {s:Shared} {H:Hp} (e:qu P w K mg base A outer s H) (C:Addr) (us:List Value) (kw:List (Str×Value)) :
  qu P w K mg base (A.under (.builtin "type.__call__" ⟨.ref C::us,kw⟩)) outer s H:=⟨by first | exact e.frames | (simpa [Around.under,Code.envs,Code.isFrame,pushEnvs] using e.frames),e.mod,e.bs,e.bsz,e.funs,e.frf,e.hok,e.bare⟩
section
variable {X:Cx} {pins:List (Addr×Obj)} {σ:St} {H:Hp} {s s':Shared}
theorem zC.env0 (I:zC X pins σ H s):qu X.prog X.w X.K X.mg X.base X.A X.stack s H:=
 ⟨I.ok.frames,I.ok.mod,I.bs,Nat.le_trans I.ok.bsz I.sz,I.stack,I.stkFree,I.hok,I.bare⟩
theorem zC.after {Q:VK} {u:Value} (I:zC X pins σ H s) (h:CE X.stack X.prog X.w H s Q u s'):EP X pins σ Q u s':=by
 obtain ⟨v,H',os,bare,un,hok,r,q⟩:=h
 obtain ⟨hh,g,d,t,os'⟩:=s'
 obtain rfl:os'=s.os:=os
 exact ⟨v,H',I.call (h':=hh) (g':=g) (d':=d) (t':=t) (ch:=[]) un hok bare (fun b z=>absurd z (by simp)),r,q⟩
end
noncomputable def YB (sp:Sp) (dvs:List V) (E:XK) (t:TA):TE:=fun σ H Q=>t σ H fun vs H1=>sp (vs++dvs) H1 Q E
noncomputable def YC (C:Addr) (m:Str) (sp:Sp) (dvs:List V) (E:XK) (ta:TE) (t:TA):TE:=fun σ H Q=>ta σ H fun x H1=>∃ a dx fs,x=.ref a/\H1 a=some (.ins C dx fs)/\fs.lookup m=none/\
 t σ H1 fun vs H2=>sp (x::(vs++dvs)) H2 Q E
noncomputable def Hv (C:Addr) (sp:Sp) (dvs:List V) (E:XK) (t:TA):TE:=fun σ H Q=>t σ H fun vs H1=>∀ x dx,H1 x=none->H1 dx=none->dx≠x->
 sp (.ref x::(vs++dvs)) (zR (zR H1 dx (.own x)) x (.ins C dx [])) (fun v H2=>v=.non/\Q (.ref x) H2) E
noncomputable def xB (K:PySem.W.Frag) (fd:FuncData) (ps:List Str) (ds:List Value):Prop:=
 ∀ (s:Shared) (us:List Value),K.In s.heap->(us++ds).length=ps.length->BindsTo s fd ⟨us,[]⟩ (ps.zip (us++ds))
theorem xB.all {K:PySem.W.Frag} {fd:FuncData} {ps:List Str} (h:∀ us:List Value,us.length=ps.length->bindArgs fd ⟨us,[]⟩=pure (ps.zip us)):xB K fd ps []:=fun s us _ hl=>by
 rw [List.append_nil] at hl ⊢
 exact .of_eq (h us hl)
noncomputable def qN (CX:uW) (X:Cx) (E:XK):Prop:=∀ (pins:List (Addr×Obj)) (σ:St) (H:Hp) (s:Shared) (e:Value) (s':Shared),zC X pins σ H s->CX X.stack H s E e s'->X.xe e s'
section
variable {X:Cx} {CX:uW} {k:Nat} {f C:Addr} {fd:FuncData} {ps:List Str} {sp:Sp} {dvs:List V} {ds:List Value} {E:XK} {x m:Str} {p pos apos:Pos} {e o:Expr} {es:List Expr} {ta:TE} {t:TA}
theorem jn {pins:List (Addr×Obj)} {σ:St} {H:Hp} {s:Shared} {Q:VK} {us:List Value} {vs:List V} (F:yO X.prog X.w X.K X.mg X.base CX k f fd ps sp) (hr:zt k X.A) (hb:xB X.K fd ps ds) (hd:zZ dvs ds) (hx:qN CX X E)
  (I:zC X pins σ H s) (r:zZ vs us) (h:sp (vs++dvs) H Q E):wpAny (model X.prog X.w) X.A (call (.ref f) us) (EP X pins σ Q) X.xe s:=by
 have r2:zZ (vs++dvs) (us++ds):=r.append hd
 have hl:(us++ds).length=ps.length:=by rw [<- r2.length]; exact F.len _ _ _ _ h
 refine wpAny_call (codeAny_mono (F.run X.A X.stack s H ⟨us,[]⟩ (us++ds) (vs++dvs) Q E hr I.env0 (hb s us I.kIn hl) r2 h) fun r s' hq=>?_)
 cases r with
 | error e=>exact hx pins σ H s e s' I hq
 | ok fl=>
  cases fl with
  | ret u=>exact I.after hq
  | next=>exact False.elim hq
  | brk=>exact False.elim hq
  | cont=>exact False.elim hq
theorem Cc (F:yO X.prog X.w X.K X.mg X.base CX k f fd ps sp) (hr:zt k X.A) (hg:Gl X x) (hm:X.mg x=some (.ref f)) (hk:PySem.W.keepIn X.K (.ref f)=true) (hb:xB X.K fd ps ds) (hd:zZ dvs ds) (hx:qN CX X E)
  (ha:PA X (e::es) t) (hdb:(x == ("__debug__" : Str))=false:=by decide) (he:starEach (e::es) X.env=(false,eval e X.env)::starEach es X.env:=by rfl) (hpl:(backTo pos (starEach es X.env)).any (·.1)=false:=by rfl) :
  PE X (.Call (.Name x p) (e::es) [] pos) (YB sp dvs E t):=by
 intro pins s σ H Q I h
 refine wpAny_Call_Name_kw (gr I hg hm ?_ hdb)
 refine PySem.W.callWith_K (h₀:=X.base) I.ok.mod.kin hk (zd (ha pos pins s σ H _ I h) fun us s1 ⟨vs,H1,I1,r,q⟩=>⟨I1.kIn,?_⟩) he hpl
 exact jn F hr hb hd hx I1 r q
theorem Cd (F:yO X.prog X.w X.K X.mg X.base CX k f fd ps sp) (hr:zt k X.A) (hg:Gl X x) (hm:X.mg x=some (.ref f)) (hk:PySem.W.keepIn X.K (.ref f)=true) (hb:xB X.K fd ps ds) (hd:zZ dvs ds) (hx:qN CX X E)
  (hdb:(x == ("__debug__" : Str))=false:=by decide):PE X (.Call (.Name x p) [] [] pos) (YB sp dvs E px):=by
 intro pins s σ H Q I h
 refine wpAny_Call_Name_kw (gr I hg hm ?_ hdb)
 exact PySem.W.callWith_K0 I.kIn hk (jn (us:=[]) F hr hb hd hx I .nil h)
theorem Cp {pl:Sem Bool} (he:PE X o ta) (c:wR X.K C) (hm:Z1 X.K C m f) (F:yO X.prog X.w X.K X.mg X.base CX k f fd ps sp) (hr:zt k X.A) (hb:xB X.K fd ps ds) (hd:zZ dvs ds) (hx:qN CX X E) (ha:PA X (e::es) t)
  (hst:starEach (e::es) X.env=(false,eval e X.env)::starEach es X.env:=by rfl) (hpl:(backTo pos (starEach es X.env)).any (·.1)=false:=by rfl)
  (ht:eval (.Call (.Attribute o m apos) (e::es) [] pos) X.env=(do
   let ov <- eval o X.env
   standAt apos.atName
   let (f,first) <- holding [ov] (getMethod ov m pl)
   callWith pos f first (backTo pos (starEach (e::es) X.env)) (backToKw pos (keywordEach [] X.env))):=by rfl) :
  PE X (.Call (.Attribute o m apos) (e::es) [] pos) (YC C m sp dvs E ta t):=by
 intro pins s σ H Q I h
 refine PySem.W.methodCall_KW (pl:=pl) (zd (he pins s σ H _ I h) fun u s1 ⟨x,H1,I1,rx,a,dx,fs,ex,ea,l,q⟩=>?_) ht
 subst ex
 obtain rfl:u=Value.ref a:=rx
 refine Qh I1 ea c hm l ?_
 refine PySem.W.callWith_K (first:=[.ref a]) (h₀:=X.base) I.ok.mod.kin hm.kp (zd (ha pos pins s1 σ H1 _ I1 q) fun us s2 ⟨vs,H2,I2,r,q2⟩=>⟨I2.kIn,?_⟩) hst hpl
 exact jn (us:=.ref a::us) (vs:=.ref a::vs) F hr hb hd hx I2 (.cons rfl r) q2
theorem VV {pl:Sem Bool} (he:PE X o ta) (c:wR X.K C) (hm:Z1 X.K C m f) (F:yO X.prog X.w X.K X.mg X.base CX k f fd ps sp) (hr:zt k X.A) (hb:xB X.K fd ps ds) (hd:zZ dvs ds) (hx:qN CX X E)
  (ht:eval (.Call (.Attribute o m apos) [] [] pos) X.env=(do
   let ov <- eval o X.env
   standAt apos.atName
   let (f,first) <- holding [ov] (getMethod ov m pl)
   callWith pos f first (backTo pos (starEach [] X.env)) (backToKw pos (keywordEach [] X.env))):=by rfl) :
  PE X (.Call (.Attribute o m apos) [] [] pos) (YC C m sp dvs E ta px):=by
 intro pins s σ H Q I h
 refine PySem.W.methodCall_KW (pl:=pl) (zd (he pins s σ H _ I h) fun u s1 ⟨x,H1,I1,rx,a,dx,fs,ex,ea,l,q⟩=>?_) ht
 subst ex
 obtain rfl:u=Value.ref a:=rx
 refine Qh I1 ea c hm l ?_
 exact PySem.W.callWith_K0 (first:=[.ref a]) I1.kIn hm.kp (jn (us:=[.ref a]) (vs:=[.ref a]) F hr hb hd hx I1 (.cons rfl .nil) q)
structure Mk (K:PySem.W.Frag) (C f:Addr):Prop where
 makes:PySem.W.makesIn K C=true
 init:PySem.W.findIn K (.ref C) "__init__" = some (some (.ref f))
 fn:PySem.W.isFn K (.ref f)=true
 kp:PySem.W.keepIn K (.ref C)=true
theorem GE {pins:List (Addr×Obj)} {σ:St} {H:Hp} {s:Shared} {Q:VK} {us:List Value} {vs:List V} (M:Mk X.K C f) (F:yO X.prog X.w X.K X.mg X.base CX k f fd ps sp) (hr:zt (k+1) X.A) (hb:xB X.K fd ps ds) (hd:zZ dvs ds)
  (hx:qN CX X E) (I:zC X pins σ H s) (r:zZ vs us)
  (h:∀ x dx,H x=none->H dx=none->dx≠x->sp (.ref x::(vs++dvs)) (zR (zR H dx (.own x)) x (.ins C dx [])) (fun v H2=>v=.non/\Q (.ref x) H2) E) :
  wpAny (model X.prog X.w) X.A (call (.ref C) us) (EP X pins σ Q) X.xe s:=by
 have hq:=h (s.heap.objs.size+1) s.heap.objs.size (I.hok.fresh (Nat.le_succ _)) (I.hok.fresh (Nat.le_refl _)) (Nat.ne_of_lt (Nat.lt_succ_self _))
 have I2:=zC.made (C:=C) I
 have r2:zZ (V.ref (s.heap.objs.size+1)::(vs++dvs)) (Value.ref (s.heap.objs.size+1)::(us++ds)):=.cons rfl (r.append hd)
 have hl:(Value.ref (s.heap.objs.size+1)::us++ds).length=ps.length:=by
  have e:=r2.length
  rw [F.len _ _ _ _ hq] at e
  exact e.symm
 refine wpAny_call (DK (f:=f) I.kIn M.makes M.init (beq_iff_eq.mp M.fn) (codeAny_mono (F.run _ X.stack _ _ ⟨Value.ref (s.heap.objs.size+1)::us,[]⟩ (Value.ref (s.heap.objs.size+1)::(us++ds)) _ _ E (hr.make C us [])
  (I2.env0.make C us []) (hb _ (Value.ref (s.heap.objs.size+1)::us) I2.kIn hl) r2 hq) fun r s' hq'=>?_))
 cases r with
 | error e=>exact hx pins σ _ _ e s' I2 hq'
 | ok fl=>
  cases fl with
  | ret u=>
   obtain ⟨v,H',I3,rv,ev,q3⟩:=I2.after hq'
   subst ev
   exact ⟨rv,⟨V.ref (s.heap.objs.size+1),H',I3,rfl,q3⟩⟩
  | next=>exact False.elim hq'
  | brk=>exact False.elim hq'
  | cont=>exact False.elim hq'
theorem Jc (M:Mk X.K C f) (F:yO X.prog X.w X.K X.mg X.base CX k f fd ps sp) (hr:zt (k+1) X.A) (hg:Gl X x) (hm:X.mg x=some (.ref C)) (hb:xB X.K fd ps ds) (hd:zZ dvs ds) (hx:qN CX X E)
  (ha:PA X (e::es) t) (hdb:(x == ("__debug__" : Str))=false:=by decide) (he:starEach (e::es) X.env=(false,eval e X.env)::starEach es X.env:=by rfl) (hpl:(backTo pos (starEach es X.env)).any (·.1)=false:=by rfl) :
  PE X (.Call (.Name x p) (e::es) [] pos) (Hv C sp dvs E t):=by
 intro pins s σ H Q I h
 refine wpAny_Call_Name_kw (gr I hg hm ?_ hdb)
 refine PySem.W.callWith_K (h₀:=X.base) I.ok.mod.kin M.kp (zd (ha pos pins s σ H _ I h) fun us s1 ⟨vs,H1,I1,r,q⟩=>⟨I1.kIn,?_⟩) he hpl
 exact GE M F hr hb hd hx I1 r q
end
structure zX (N P:List Str) (sc:Scope):Prop where
 kind:sc.kind=.function
 co:sc.isCoroutine=false
 gen:sc.isGenerator=false
 nd:N.Nodup
 pre:N.take P.length=P
 par:∀ x∈P,sc.names.lookup x=some .local\/sc.names.lookup x=some .cell
 nofree:∀ y∈sc.names,y.2≠.free
theorem Tl {kindOf:Str->Option NameKind} {x:Str}:∀ {binds:List (Str×Value)} {m:Str->Option Value},(∀ v,(x,v) ∉ binds)->bindL kindOf binds m x=m x
 | [],_,_=>rfl
 | (n,v)::r,m,h=>by
  unfold bindL
  rw [Tl fun w hw=>h w (List.mem_cons_of_mem _ hw)]
  split
  ·have:x≠n:=by rintro rfl; exact h v List.mem_cons_self
   simp [this]
  ·rfl
theorem Tj {kindOf:Str->Option NameKind} {x:Str}:∀ {binds:List (Str×Value)} {m:Str->Option Value},(∀ v,(x,v) ∉ binds)->bindC kindOf binds m x=m x
 | [],_,_=>rfl
 | (n,v)::r,m,h=>by
  unfold bindC
  rw [Tj fun w hw=>h w (List.mem_cons_of_mem _ hw)]
  split
  ·rfl
  ·have:x≠n:=by rintro rfl; exact h v List.mem_cons_self
   simp [this]
theorem Tk {kindOf:Str->Option NameKind} {x:Str} {v:Value}:∀ {P:List Str} {vs:List Value} {i:Nat} {m:Str->Option Value},P.Nodup->P[i]?=some x->vs[i]?=some v->kindOf x=some .local->
  bindL kindOf (P.zip vs) m x=some v
 | [],_,_,_,_,h,_,_=>by simp at h
 | _::_,[],_,_,_,_,h,_=>by simp at h
 | p::P,w::vs,0,m,nd,h1,h2,hk=>by
  simp at h1 h2; subst h1; subst h2
  show bindL kindOf ((p,w)::P.zip vs) m p=_
  unfold bindL
  rw [Tl fun v hv=>(List.nodup_cons.mp nd).1 (List.of_mem_zip hv).1,if_pos hk]
  simp
 | p::P,w::vs,i+1,m,nd,h1,h2,hk=>by
  show bindL kindOf ((p,w)::P.zip vs) m x=_
  unfold bindL
  exact Tk (i:=i) (List.nodup_cons.mp nd).2 (by simpa using h1) (by simpa using h2) hk
theorem Ti {kindOf:Str->Option NameKind} {x:Str} {v:Value}:∀ {P:List Str} {vs:List Value} {i:Nat} {m:Str->Option Value},P.Nodup->P[i]?=some x->vs[i]?=some v->kindOf x≠some .local->
  bindC kindOf (P.zip vs) m x=some v
 | [],_,_,_,_,h,_,_=>by simp at h
 | _::_,[],_,_,_,_,h,_=>by simp at h
 | p::P,w::vs,0,m,nd,h1,h2,hk=>by
  simp at h1 h2; subst h1; subst h2
  show bindC kindOf ((p,w)::P.zip vs) m p=_
  unfold bindC
  rw [Tj fun v hv=>(List.nodup_cons.mp nd).1 (List.of_mem_zip hv).1,if_neg hk]
  simp
 | p::P,w::vs,i+1,m,nd,h1,h2,hk=>by
  show bindC kindOf ((p,w)::P.zip vs) m x=_
  unfold bindC
  exact Ti (i:=i) (List.nodup_cons.mp nd).2 (by simpa using h1) (by simpa using h2) hk
noncomputable def start (N:List Str) (vs:List V):St:=vs.map some++List.replicate (N.length - vs.length) none
noncomputable def wJ (CX:uW) (P:Program) (w:World) (K:PySem.W.Frag) (mg:Str->Option Value) (base:Heap) (N:List Str) (qual:Str) (scope:Scope) (f:Addr) (cd:Value) (A:Around) (outer:List Env) (s:Shared) (H:Hp) (E:XK):Cx where
 prog:=P
 w:=w
 K:=K
 mg:=mg
 base:=base
 A:=A.deeper (envOfC qual scope s.heap.objs.size f cd)
 N:=N
 s₀:=s
 H₀:=H
 env:=envOfC qual scope s.heap.objs.size f cd
 outer:=outer
 stack:=envOfC qual scope s.heap.objs.size f cd::outer
 ex:=[]
 calm:=true
 fn:=fun _=>true
 pn:=[]
 xe:=fun e s'=>wpAny (model P w) (A.deeper (envOfC qual scope s.heap.objs.size f cd)) (leaving (envOfC qual scope s.heap.objs.size f cd) e) (fun _ s''=>CX outer H s E e s'') (fun e' s''=>CX outer H s E e' s'') s'
theorem Tz {sc:Scope} {n:Nat} {x:Str} (h:sc.names.lookup x=some .cell):∃ c,(cellsFrom n sc.names []).lookup x=some c:=by
 have q:=PySem.W.cellsFrom_some sc.names n [] (.inl h)
 exact Option.isSome_iff_exists.mp q
theorem Bb {CX:uW} {P:Program} {w:World} {K:PySem.W.Frag} {mg:Str->Option Value} {base:Heap} {N ps:List Str} {qual:Str} {scope:Scope} {f:Addr} {cd:Value} {A:Around} {outer:List Env} {s s1:Shared} {H:Hp} {E:XK} {us:List Value} {vs:List V}
  (S:zX N ps scope) (hd:A.handled=none) (e0:qu P w K mg base A outer s H) (hl:vs.length=ps.length) (r:zZ vs us)
  (x:InCallC s s.heap.objs.size (bindL (envOfC qual scope s.heap.objs.size f cd).kindOf (ps.zip us) fun _=>none) (cellsFrom (s.heap.objs.size+1) scope.names []) (bindC (envOfC qual scope s.heap.objs.size f cd).kindOf (ps.zip us) fun _=>none) s1) :
  zC (wJ CX P w K mg base N qual scope f cd A outer s H E) [] (start N vs) H s1:=by
 have hpl:ps.length<=N.length:=by have:=congrArg List.length S.pre; rw [List.length_take] at this; omega
 obtain ⟨h1,tk,rfl,hk⟩:=x.done
 have noA:∀ b:Addr,b ∉ (wJ CX P w K mg base N qual scope f cd A outer s H E).ex:=fun b z=>absurd (show b∈([]:List Addr) from z) (by simp)
 refine ⟨⟨e0.mod,S.kind,rfl,rfl,Nat.le_refl _,fun y z c h1 h2=>?_,fun y hy=>?_,fun y c _ h=>?_,fun _=>hd,Around.frames_deeper e0.frames,.inr ⟨rfl,rfl⟩,fun b z=>absurd z (noA b),e0.bs,e0.bsz,fun b _ _=>noA b,fun b z=>absurd z (noA b),e0.funs,e0.frf⟩,
  rfl,e0.bare,Un.kept hk,⟨_,x.toInCall.ns,fun i y v h1 h2 h3=>?_⟩,fun y c h=>⟨_,x.cell y c h⟩,e0.hok.fresh (Nat.le_refl _),fun y c h=>?_,fun p hp=>absurd (show p∈([]:List (Addr×Obj)) from hp) (by simp),e0.hok.kept hk,?_⟩
 ·exact name_of_addr x.apart (PySem.mem_of_lookup h1) (PySem.mem_of_lookup h2)
 ·have hy:scope.names.lookup y=some .cell\/scope.names.lookup y=some .free:=hy
  rcases hy with hy | hy
  ·exact Tz hy
  ·exact absurd rfl (S.nofree _ (PySem.mem_of_lookup hy))
 ·exact Nat.le_of_lt (x.above y c (PySem.mem_of_lookup h))
 ·have hi:i<vs.length:=by
   unfold start at h2
   by_cases hi:i<vs.length
   ·exact hi
   ·rw [List.getElem?_append_right (by simpa using hi)] at h2
    rw [List.getElem?_replicate] at h2
    split at h2<;>cases h2
  have ha:vs[i]?=some v:=by
   unfold start at h2
   rw [List.getElem?_append_left (by simpa using hi),List.getElem?_map] at h2
   cases e:vs[i]? with
   | none=>rw [e] at h2; cases h2
   | some a=>rw [e] at h2; cases h2; rfl
  obtain ⟨u,hu,rv⟩:=r.get ha
  have hp:ps[i]?=some y:=by
   rw [<- S.pre,List.getElem?_take_of_lt (by omega)]; exact h1
  have ndP:ps.Nodup:=by rw [<- S.pre]; exact S.nd.sublist (List.take_sublist _ _)
  refine ⟨u,rv,?_⟩
  rcases S.par y (List.mem_of_getElem? hp) with k | k
  ·exact .inl ⟨k,Tk ndP hp hu k⟩
  ·obtain ⟨c,e⟩:=Tz (n:=s.heap.objs.size+1) k
   refine .inr ⟨.inl k,c,e,?_⟩
   have q:=x.cell y c e
   rw [Ti ndP hp hu (by show scope.names.lookup y≠_; rw [k]; decide)] at q
   exact q
 ·exact e0.hok.fresh (Nat.le_of_lt (x.above y c (PySem.mem_of_lookup h)))
 ·unfold start
  show _=N.length
  rw [List.length_append,List.length_map,List.length_replicate]
  omega
theorem QU {CX:uW} {P:Program} {w:World} {K:PySem.W.Frag} {mg:Str->Option Value} {base:Heap} {k:Nat} {f:Addr} {name qual:Str} {params:Arguments} {body:List Stmt} {scope:Scope} {dV kV doc pm cdv ct oc:Value} {an od:Option Addr}
  {osl:Array (Option Value)} {N ps:List Str} {sp:Sp} (lk:K.lookup f=some ⟨oc,od,.func (PySem.W.fnOf name qual params body scope dV kV doc pm an cdv ct),osl⟩) (hcd:PySem.W.codeIn K cdv qual=true) (S:zX N ps scope)
  (len:∀ vs H Q E,sp vs H Q E->vs.length=ps.length)
  (hbody:∀ (A:Around) (outer:List Env) (s:Shared) (H:Hp) (vs:List V) (Q:VK) (E:XK),zt k (A.deeper (envOfC qual scope s.heap.objs.size f cdv))->sp vs H Q E->
   ∃ t,x_ (wJ CX P w K mg base N qual scope f cdv A outer s H E) body t/\t { nx:=fun _ H'=>Q .non H',rt:=Q } (start N vs) H) :
  yO P w K mg base CX (k+1) f (PySem.W.fnOf name qual params body scope dV kV doc pm an cdv ct) ps sp:=by
 refine ⟨len,fun A outer s H args us vs Q E hr e0 hb r hsp=>?_⟩
 have hl:=len _ _ _ _ hsp
 have KX:K.In s.heap:=e0.mod.kin.keeps fun b o e=>(e0.bs b o e).1
 have lim:s.heap.NoLimit:=e0.mod.nolimit.keeps fun b o e=>(e0.bs b o e).1
 have hkind:∀ y∈ps.zip us,scope.names.lookup y.1=some .local\/(scope.names.lookup y.1=some .cell/\((cellsFrom (s.heap.objs.size+1) scope.names []).lookup y.1).isSome=true):=fun ⟨n,v⟩ hy=>by
  rcases S.par n (List.of_mem_zip hy).1 with q | q
  ·exact .inl q
  ·exact .inr ⟨q,PySem.W.cellsFrom_some _ _ _ (.inl q)⟩
 refine codeAny_call_function hr.depth (KX _ _ lk) rfl S.co S.gen rfl (PySem.W.codeRec_of KX hcd) (hb _ _ _ _ ?_)
 refine wpAny_newFunctionEnv_cells S.kind hkind fun env he s1 x=>?_
 subst he
 refine ⟨lim.keeps x.toInCall.keep,codeAny_func ?_⟩
 obtain ⟨t,ht,hq⟩:=hbody A outer s H vs Q E (hr.deeper _) hsp
 have I:zC (wJ CX P w K mg base N qual scope f cdv A outer s H E) [] (start N vs) H s1:=Bb S hr.hd e0 hl r x
 refine wpAny_mono (ht [] s1 (start N vs) H _ I hq) (fun fl s' hs=>?_) fun e s' hs=>hs
 have fin:∀ {σ':St} {H':Hp} {v:V} {u:Value},zC (wJ CX P w K mg base N qual scope f cdv A outer s H E) [] σ' H' s'->zY v u->Q v H'->CE outer P w H s Q u s':=
  fun {σ' H' v u} J rv q=>⟨v,H',J.os,J.bare,J.base,J.hok,rv,q⟩
 cases fl with
 | ret u=>
  obtain ⟨v,σ',H',J,rv,q⟩:=hs
  exact fin J rv q
 | next=>
  obtain ⟨σ',H',J,q⟩:=hs
  exact fin (v:=V.non) (u:=Value.none) J rfl q
 | brk=>
  obtain ⟨_,_,_,q⟩:=hs
  exact False.elim q
 | cont=>
  obtain ⟨_,_,_,q⟩:=hs
  exact False.elim q
end L2
namespace L2
open PySem PySem.Spec PyProof.Rows
section
variable {X:Cx} {x:Str} {p pos:Pos} {e:Expr} {es:List Expr} {t:TA} {id T:String} {r:List V->Hp->VK->Prop}
noncomputable def YA (r:List V->Hp->VK->Prop) (t:TA):TE:=fun σ H Q=>t σ H fun vs H1=>r vs H1 Q
theorem Ce (hc:xX X (.builtin id) r) (hg:Gl X x) (hm:X.mg x=none) (hv:bootBuiltins x=some (.builtin id)) (ha:PA X (e::es) t) (hn:x ≠ "__name__" := by decide) (hdb:(x == ("__debug__" : Str))=false:=by decide)
  (he:starEach (e::es) X.env=(false,eval e X.env)::starEach es X.env:=by rfl) (hpl:(backTo pos (starEach es X.env)).any (·.1)=false:=by rfl):PE X (.Call (.Name x p) (e::es) [] pos) (YA r t):=by
 intro pins s σ H Q I h
 refine wpAny_Call_Name_kw (jd I hg hm hv ?_ hn hdb)
 exact PyProof.Rows.callWith_builtin1 (zd (ha pos pins s σ H _ I h) fun us s1 ⟨vs,H1,I1,r1,q1⟩=>hc pins s1 σ H1 vs us Q I1 r1 q1) he hpl
theorem Cg (hc:xX X (.type T) r) (hg:Gl X x) (hm:X.mg x=none) (hv:bootBuiltins x=some (.type T)) (ha:PA X (e::es) t) (hn:x ≠ "__name__" := by decide) (hdb:(x == ("__debug__" : Str))=false:=by decide)
  (he:starEach (e::es) X.env=(false,eval e X.env)::starEach es X.env:=by rfl) (hpl:(backTo pos (starEach es X.env)).any (·.1)=false:=by rfl):PE X (.Call (.Name x p) (e::es) [] pos) (YA r t):=by
 intro pins s σ H Q I h
 refine wpAny_Call_Name_kw (jd I hg hm hv ?_ hn hdb)
 exact PyProof.Rows.callWith_type1 (zd (ha pos pins s σ H _ I h) fun us s1 ⟨vs,H1,I1,r1,q1⟩=>hc pins s1 σ H1 vs us Q I1 r1 q1) he hpl
end
end L2
namespace HT
open PySem PyProof.Rows
section
variable {prog:Program} {w:World} {A:Around} {E:Value->Shared->Prop} {s:Shared}
theorem cat_tup {t b:Addr} {vs ws:List Value} {Q:Value->Shared->Prop} (ht:IsTup s.heap t vs.toArray) (hb:IsTup s.heap b ws.toArray) (hv:vs≠[])
  (h1:ws=[]->Q (.ref t) s) (h2:ws≠[]->Q (.ref s.heap.objs.size) { s with heap:=s.heap.push { cls:=.type "tuple",data:=.seq (vs++ws).toArray } })
  (hsz:vs.length+ws.length<=sizeLine):wpAny (model prog w) A (binaryOp .Add (.ref t) (.ref b)) Q E s:=by
 obtain ⟨⟨cls,dd,data,sl⟩,ho,hc,n,hd⟩:=id ht
 obtain ⟨⟨cls2,dd2,data2,sl2⟩,ho2,hc2,n2,hd2⟩:=id hb
 simp only at hc hd hc2 hd2
 subst hc hd hc2 hd2
 have e:vs.toArray++ws.toArray=(vs++ws).toArray:=by simp
 by_cases hw:ws=[]
 ·exact concat_meets ⟨_,ho,rfl⟩ ⟨_,ho2,rfl⟩ noFill_tuple_add seq_tuple_add PySem.F.slot_tuple_add PySem.F.entry_tuple_add (PySem.F.args_tuple_add_2 _ _)
   (tuple_addW1 t b vs.toArray ws.toArray n n2 dd dd2 sl sl2 (by simpa using hv) (by simp [hw])) ⟨ho,ho2,h1 hw⟩
 ·refine concat_meets ⟨_,ho,rfl⟩ ⟨_,ho2,rfl⟩ noFill_tuple_add seq_tuple_add PySem.F.slot_tuple_add PySem.F.entry_tuple_add (PySem.F.args_tuple_add_2 _ _)
   (tuple_addW2 t b vs.toArray ws.toArray n n2 dd dd2 sl sl2 (by simpa using hv) (by simpa using hw) (by rw [List.size_toArray,List.size_toArray]; exact hsz)) ⟨ho,ho2,?_⟩
  rw [e]
  exact h2 hw
end
end HT
namespace L2
open PySem PySem.Spec PyProof.Rows
section
variable {X:Cx} {e:Expr} {te:TE} {lo hi:Option Expr} {tl th:TO} {pos p2:Pos}
noncomputable def IE (K:PySem.W.Frag):R2:=fun x y H Q=>∃ a b xs ys,x=.ref a/\y=.ref b/\yM K H a xs/\yM K H b ys/\xs≠[]/\xs.length+ys.length<=sizeLine/\
 (ys=[]->Q (.ref a) H)/\(ys≠[]->∀ p,H p=none->Q (.ref p) (zR H p (.tup (xs++ys))))
theorem zZ.nil_iff {xs:List V} {us:List Value} (r:zZ xs us):us=[]↔xs=[]:=by
 cases r with
 | nil=>simp
 | cons _ _=>simp
theorem CH:yB X (binaryOp .Add) (IE X.K):=by
 intro pins s σ H x y v u Q I rx ry h
 obtain ⟨a,b,xs,ys,rfl,rfl,ha,hb,hx,hz,q1,q2⟩:=h
 cases rx
 cases ry
 obtain ⟨its,r1,p1,_⟩:=I.tuple ha
 obtain ⟨its2,r2,p2,_⟩:=I.tuple hb
 refine HT.cat_tup p1 p2 (fun z=>hx (r1.nil_iff.mp z)) (fun z=>⟨.ref a,H,I,rfl,q1 (r2.nil_iff.mp z)⟩) (fun z=>?_) (by rw [<- r1.length,<- r2.length]; exact hz)
 refine ⟨.ref s.heap.objs.size,_,I.laid (t':=s.toks) (o:=.tup (xs++ys)) (fun b ob q=>Heap.get?_push_of_some _ q) (Nat.le_refl _) ?_,rfl,q2 (fun w=>z (r2.nil_iff.mpr w)) _ (I.hok.fresh (Nat.le_refl _))⟩
 exact ⟨by rw [List.length_append]; exact hz,_,r1.append r2,IsTup.new _ _⟩
end
end L2
namespace L2
open PySem PySem.Spec PyProof.Rows
noncomputable def ixN (n:Nat) (i:Int):Option Nat:=if 0<=i then (if i<n then some i.toNat else none) else if -(n:Int)<=i then some (i+n).toNat else none
noncomputable def vh {α:Type} (xs:List α) (i:Int):Option α:=(ixN xs.length i).bind fun j=>xs[j]?
theorem Qz {n:Nat} {i:Int} {j:Nat} (h:ixN n i=some j):seqIndex? i n=some j/\j<n /\ -(n:Int)<=i/\i<n:=by
 unfold ixN at h
 by_cases h0:0<=i
 ·rw [if_pos h0] at h
  by_cases h1:i<n
  ·rw [if_pos h1] at h
   have e:i.toNat=j:=Option.some.inj h
   exact ⟨by rw [seqIndex_of h0 h1,e],by omega,by omega,h1⟩
  ·rw [if_neg h1] at h; cases h
 ·rw [if_neg h0] at h
  by_cases h1 : -(n:Int)<=i
  ·rw [if_pos h1] at h
   have e:(i+n).toNat=j:=Option.some.inj h
   exact ⟨by rw [seqIndex_neg (by omega) h1,e],by omega,h1,by omega⟩
  ·rw [if_neg h1] at h; cases h
theorem Xa {α:Type} {xs:List α} {i:Int} {v:α} (h:vh xs i=some v):∃ j,seqIndex? i xs.length=some j/\xs[j]?=some v/\j<xs.length /\ -(xs.length:Int)<=i/\i<xs.length:=by
 unfold vh at h
 cases e:ixN xs.length i with
 | none=>rw [e] at h; cases h
 | some j=>
  rw [e] at h
  obtain ⟨h1,h2,h3,h4⟩:=Qz e
  exact ⟨j,h1,h,h2,h3,h4⟩
noncomputable def TR (b:Expr):Prop:=∀ o i,subscripted b false o i=operate [o,i] (getItem o i)
noncomputable def vH (X:Cx) (r:R2):Prop:=
 ∀ (value slice:Expr) (pins:List (Addr×Obj)) (s:Shared) (σ:St) (H:Hp) (x y:V) (v u:Value) (Q:VK),zC X pins σ H s->zY x v->zY y u->r x y H Q->
  subscripted slice false v u=operate [v,u] (getItem v u)->wpAny (model X.prog X.w) X.A (subscriptTail value slice v u) (EP X pins σ Q) X.xe s
noncomputable def XU (X:Cx) (id:String) (r:V->List V->Hp->VK->Prop):Prop:=
 ∀ (pins:List (Addr×Obj)) (s:Shared) (σ:St) (H:Hp) (x:V) (xs:List V) (v:Value) (us:List Value) (Q:VK),zC X pins σ H s->zY x v->zZ xs us->r x xs H Q->
  wpAny (model X.prog X.w) X.A (call (.builtin id) (v::us)) (EP X pins σ Q) X.xe s
section
variable {X:Cx} {a b:Expr} {ta tb:TE} {pos:Pos}
theorem vH.or {r r':R2} (h:vH X r) (h':vH X r'):vH X (fun x y H Q=>r x y H Q\/r' x y H Q):=by
 intro value slice pins s σ H x y v u Q I rx ry q hs
 rcases q with q | q
 ·exact h value slice pins s σ H x y v u Q I rx ry q hs
 ·exact h' value slice pins s σ H x y v u Q I rx ry q hs
theorem Ja {r:R2} (hr:vH X r) (ha:PE X a ta) (hb:PE X b tb) (hs:TR b):PE X (.Subscript a b pos) (YD r ta tb):=by
 intro pins s σ H Q I h
 exact Subscript_ (WK ha hb I h fun v u s2 x y H2 I2 rx ry q=>hr a b pins s2 σ H2 x y v u Q I2 rx ry q (hs _ _))
noncomputable def IJ (K:PySem.W.Frag):R2:=fun x y H Q=>∃ p xs i v,x=.ref p/\y=.int i/\yC K H p xs/\vh xs i=some v/\Q v H
noncomputable def IL (K:PySem.W.Frag):R2:=fun x y H Q=>∃ p xs i v,x=.ref p/\y=.int i/\yM K H p xs/\vh xs i=some v/\Q v H
noncomputable def IK:R2:=fun x y H Q=>∃ z i c,x=.str z/\y=.int i/\z.length<=sizeLine/\vh z.cps.toList i=some c/\Q (.str ⟨#[c]⟩) H
theorem Bg:vH X (IJ X.K):=by
 intro value slice pins s σ H x y v u Q I rx ry h hs
 obtain ⟨p,xs,i,z,rfl,rfl,hq,he,q⟩:=h
 cases rx
 obtain ⟨t,rfl⟩:=ry
 obtain ⟨its,r,pl,hz⟩:=I.list hq
 obtain ⟨j,h1,h2,h3,h4,h5⟩:=Xa he
 obtain ⟨w,ew,rw'⟩:=r.get h2
 have hl:=r.length
 have hn:=je
 have fin:EP X pins σ Q w s:=⟨z,H,I,rw',q⟩
 by_cases h0:0<=i
 ·have hj:i.toNat=j:=by
   rw [seqIndex_of h0 h5] at h1
   exact Option.some.inj h1
  exact item_listR pl.isList h0 (by omega) (by rw [hj]; simpa using ew) fin hs
 ·have hj:(i+(its.toArray.size:Int)).toNat=j:=by
   rw [seqIndex_neg (by omega) h4] at h1
   rw [List.size_toArray,<- hl]
   exact Option.some.inj h1
  exact subscriptTail_builtinR (x:=w) pl.isList.typeIs slot_list_getitem.lookup
   (wpAny_getItem_list_neg (Q:=fun r s'=>r=w/\EP X pins σ Q r s') pl.isList (by omega) (by rw [List.size_toArray]<;>omega) (by omega) (by rw [hj]; simpa using ew) ⟨rfl,fin⟩) hs
theorem Bj:vH X (IL X.K):=by
 intro value slice pins s σ H x y v u Q I rx ry h hs
 obtain ⟨p,xs,i,z,rfl,rfl,hq,he,q⟩:=h
 cases rx
 obtain ⟨t,rfl⟩:=ry
 obtain ⟨its,r,pl,hz⟩:=I.tuple hq
 obtain ⟨j,h1,h2,h3,h4,h5⟩:=Xa he
 obtain ⟨w,ew,rw'⟩:=r.get h2
 have hl:=r.length
 have hn:=je
 have fin:EP X pins σ Q w s:=⟨z,H,I,rw',q⟩
 exact subscriptTail_builtinR (x:=w) pl.typeIs slot_tuple_getitem.lookup
  (getItem_tuple (j:=j) (Q:=fun r s'=>r=w/\EP X pins σ Q r s') pl (by omega) (by omega) (by rw [List.size_toArray,<- hl]; exact h1) (by simpa using ew) ⟨rfl,fin⟩) hs
theorem Bi:vH X IK:=by
 intro value slice pins s σ H x y v u Q I rx ry h hs
 obtain ⟨z,i,c,rfl,rfl,hz,he,q⟩:=h
 obtain ⟨t,rfl⟩:=rx
 obtain ⟨t',rfl⟩:=ry
 obtain ⟨j,h1,h2,h3,h4,h5⟩:=Xa he
 have hl:z.cps.toList.length=z.length:=by simp [Str.length]
 rw [hl] at h1 h4 h5
 have hn:=je
 exact tail_any (typeIs_str s z t) slot_str_getitem.lookup (getItem_str (c:=c) (by
  have e1:decide (i < -(2 ^ 63:Int))=false:=decide_eq_false (by omega)
  have e2:decide (i ≥ 2 ^ 63)=false:=decide_eq_false (by omega)
  rw [e1,e2,Bool.or_false]) (by rw [h1]; simpa using h2) ⟨.str ⟨#[c]⟩,H,I.tok _,⟨_,rfl⟩,q⟩) hs
noncomputable def Vi (K:PySem.W.Frag):R2:=fun x y H Q=>IJ K x y H Q\/IL K x y H Q\/IK x y H Q
theorem Bh:vH X (Vi X.K):=Bg.or (Bj.or Bi)
theorem DM (its:List Value) (n j:Nat) (u:Value):Obj.mapSeq (·.setIfInBounds j u) { cls:=.type "list",data:=.seq its.toArray n }={ cls:=.type "list",data:=.seq (its.set j u).toArray n }:=by
 simp [Obj.mapSeq]
theorem zC.lst {pins:List (Addr×Obj)} {σ:St} {H:Hp} {s:Shared} {p:Addr} {xs:List V} (I:zC X pins σ H s) (h:H p=some (.lst xs)) :
  ∃ (its:List Value) (n:Nat),zZ xs its/\s.heap.get? p=some { cls:=.type "list",data:=.seq its.toArray n }/\xs.length<=sizeLine:=by
 obtain ⟨z,its,n,r,e⟩:=I.hok p _ h
 exact ⟨its,n,r,e,z⟩
theorem zC.lstUpd {pins:List (Addr×Obj)} {σ:St} {H:Hp} {s:Shared} {p:Addr} {xs ys:List V} {its its':List Value} {n n':Nat} {f:Obj->Obj} (I:zC X pins σ H s) (h:H p=some (.lst xs))
  (ho:s.heap.get? p=some { cls:=.type "list",data:=.seq its.toArray n }) (hf:f { cls:=.type "list",data:=.seq its.toArray n }={ cls:=.type "list",data:=.seq its'.toArray n' }) (r:zZ ys its') (hz:ys.length<=sizeLine) (t:Nat) :
  zC X pins σ (zR H p (.lst ys)) { s with heap:=s.heap.update p f,toks:=t }:=by
 have e:(s.heap.update p f).get? p=some { cls:=.type "list",data:=.seq its'.toArray n' }:=by
  rw [Heap.get?_update_self f ho (by rw [hf]<;>rfl),hf]
 refine I.write (x:=p) (e:=p) (by rw [h]; trivial) (.inl rfl) (fun b u hb q=>(Heap.get?_update_other _ _ (Ne.symm hb)).trans q) ⟨_,e⟩ ?_
 exact ⟨hz,its',n',r,e⟩
noncomputable def Eu:V->V->V->Hp->(Hp->Prop)->Prop:=fun o i v H Q=>∃ p xs k j,o=.ref p/\i=.int k/\H p=some (.lst xs)/\ixN xs.length k=some j/\Q (zR H p (.lst (xs.set j v)))
theorem HH:XX X Eu:=by
 intro pins s σ H o i v ov iv u Q I ro ri rv h
 obtain ⟨p,xs,k,j,rfl,rfl,hp,hj,q⟩:=h
 cases ro
 obtain ⟨t,rfl⟩:=ri
 obtain ⟨its,n,r,ho,hz⟩:=I.lst hp
 obtain ⟨h1,h2,h3,h4⟩:=Qz hj
 have hl:=r.length
 have hn:=je
 have I':zC X pins σ (zR H p (.lst (xs.set j v))) { s with heap:=s.heap.update p (Obj.mapSeq (·.setIfInBounds j u)) }:=
  I.lstUpd hp ho (DM its n j u) (r.set rv j) (by rw [List.length_set]; exact hz) s.toks
 by_cases h0:0<=k
 ·have hk:k.toNat=j:=by
   rw [seqIndex_of h0 h4] at h1
   exact Option.some.inj h1
  exact PySem.W.ki_setAt ho h0 (by omega) (by rw [List.size_toArray,<- hl]; exact h4) (by rw [hk]; exact ⟨_,I',q⟩)
 ·have hk:(k+(its.toArray.size:Int)).toNat=j:=by
   rw [seqIndex_neg (by omega) h3] at h1
   rw [List.size_toArray,<- hl]
   exact Option.some.inj h1
  exact PySem.W.ki_setBack ho (by omega) (by rw [List.size_toArray,<- hl]; exact h3) (by omega) (by rw [hk]; exact ⟨_,I',q⟩)
noncomputable def vQ:V->Bool
 | .non=>true
 | .bl _=>true
 | .int _=>true
 | .str _=>true
 | _=>false
noncomputable def wl:V->V->Bool
 | .non,.non=>true
 | .bl a,.bl b=>a == b
 | .bl a,.int b=>(if a then 1 else 0) == b
 | .int a,.bl b=>a == (if b then 1 else 0)
 | .int a,.int b=>a == b
 | .str a,.str b=>a == b
 | _,_=>false
theorem QM {A:Around} {s:Shared} {y x:V} {u v:Value} (ry:zY y u) (rx:zY x v) (fy:vQ y=true) (fx:vQ x=true):SeqAt.EqAt A s u v (wl y x):=by
 cases y with
 | non=>
  cases ry
  cases x with
  | non=>cases rx; exact SeqAt.EqAt.same _
  | bl b=>cases rx; exact SeqAt.EqAt.none_bool b
  | int b=>obtain ⟨t,rfl⟩:=rx; exact SeqAt.EqAt.none_int b t
  | str b=>obtain ⟨t,rfl⟩:=rx; exact SeqAt.EqAt.none_str b t
  | _=>exact absurd (show false=true from fx) Bool.false_ne_true
 | bl a=>
  cases ry
  cases x with
  | non=>cases rx; exact SeqAt.EqAt.bool_none a
  | bl b=>cases rx; exact SeqAt.EqAt.bool_bool a b
  | int b=>obtain ⟨t,rfl⟩:=rx; exact SeqAt.EqAt.bool_int a b t
  | str b=>obtain ⟨t,rfl⟩:=rx; exact SeqAt.EqAt.bool_str a b t
  | _=>exact absurd (show false=true from fx) Bool.false_ne_true
 | int a=>
  obtain ⟨t',rfl⟩:=ry
  cases x with
  | non=>cases rx; exact SeqAt.EqAt.int_none a t'
  | bl b=>cases rx; exact SeqAt.EqAt.int_bool a t' b
  | int b=>obtain ⟨t,rfl⟩:=rx; exact SeqAt.EqAt.int_int a t' b t
  | str b=>obtain ⟨t,rfl⟩:=rx; exact SeqAt.EqAt.int_str a t' b t
  | _=>exact absurd (show false=true from fx) Bool.false_ne_true
 | str a=>
  obtain ⟨t',rfl⟩:=ry
  cases x with
  | non=>cases rx; exact SeqAt.EqAt.str_none a t'
  | bl b=>cases rx; exact SeqAt.EqAt.str_bool a t' b
  | int b=>obtain ⟨t,rfl⟩:=rx; exact SeqAt.EqAt.str_int a t' b t
  | str b=>obtain ⟨t,rfl⟩:=rx; exact SeqAt.EqAt.str_str a t' b t
  | _=>exact absurd (show false=true from fx) Bool.false_ne_true
 | _=>exact absurd (show false=true from fy) Bool.false_ne_true
noncomputable def uE (x:V) (u:Value):Bool:=match u with
 | .none=>wl .non x
 | .bool b=>wl (.bl b) x
 | .int i _=>wl (.int i) x
 | .str z _=>wl (.str z) x
 | _=>false
theorem Wh {x y:V} {u:Value} (r:zY y u) (f:vQ y=true):uE x u=wl y x:=by
 cases y with
 | non=>cases r; rfl
 | bl b=>cases r; rfl
 | int i=>obtain ⟨t,rfl⟩:=r; rfl
 | str z=>obtain ⟨t,rfl⟩:=r; rfl
 | _=>exact absurd (show false=true from f) Bool.false_ne_true
theorem XZ {x:V}:∀ {xs:List V} {us:List Value},zZ xs us->xs.all vQ=true->us.any (uE x)=xs.any fun y=>wl y x
 | _,_,.nil,_=>rfl
 | y::xs,u::us,.cons r t,f=>by
  rw [List.all_cons,Bool.and_eq_true] at f
  rw [List.any_cons,List.any_cons,Wh r f.1,XZ t f.2]
theorem Zl {A:Around} {s:Shared} {x:V} {v:Value} (rx:zY x v) (fx:vQ x=true):∀ {xs:List V} {us:List Value},zZ xs us->xs.all vQ=true->∀ u∈us,SeqAt.EqAt A s u v (uE x u)
 | _,_,.nil,_=>fun u hu=>by cases hu
 | y::xs,u::us,.cons r t,f=>fun u' hu=>by
  rw [List.all_cons,Bool.and_eq_true] at f
  rcases List.mem_cons.mp hu with rfl | hu
  ·rw [Wh r f.1]; exact QM r rx f.1 fx
  ·exact Zl rx fx t f.2 u' hu
noncomputable def ZY (x:V) (xs:List V):Bool:=xs.any fun y=>wl y x
noncomputable def IF (K:PySem.W.Frag) (neg:Bool):R2:=fun x y H Q=>∃ p xs,y=.ref p/\(yC K H p xs\/yM K H p xs)/\vQ x=true/\xs.all vQ=true/\Q (.bl (if neg then !ZY x xs else ZY x xs)) H
theorem CL:yB X (compareOp .In) (IF X.K false):=by
 intro pins s σ H x y v u Q I rx ry h
 obtain ⟨p,xs,rfl,hq,fx,fs,q⟩:=h
 cases ry
 rcases hq with hq | hq
 ·obtain ⟨its,r,pl,hz⟩:=I.list hq
  refine SeqAt.in_listAt (uE x) pl.isList (fun w hw=>Zl rx fx r fs w (by simpa using hw)) ⟨.bl _,H,I,rfl,?_⟩
  rw [show its.toArray.any (uE x)=its.any (uE x) by simp,XZ r fs]
  exact q
 ·obtain ⟨its,r,pl,hz⟩:=I.tuple hq
  refine SeqAt.in_tupleAt (uE x) pl (fun w hw=>Zl rx fx r fs w (by simpa using hw)) ⟨.bl _,H,I,rfl,?_⟩
  rw [show its.toArray.any (uE x)=its.any (uE x) by simp,XZ r fs]
  exact q
theorem LP:xX X (.builtin "len") (fun xs H Q=>∃ p ys,xs=[.ref p]/\(yC X.K H p ys\/yM X.K H p ys)/\Q (.int ys.length) H):=by
 intro pins s σ H xs us Q I r h
 obtain ⟨p,ys,rfl,hq,q⟩:=h
 obtain ⟨u,rfl,rx⟩:=vy r
 cases rx
 have hn:=je
 rcases hq with hq | hq
 ·obtain ⟨its,r',pl,hz⟩:=I.list hq
  have hlen:=r'.length
  exact Calls.call_len_list pl.isList (by simp only [List.size_toArray]<;>omega) ⟨.int ys.length,H,I.tok _,⟨s.toks+1,by rw [List.size_toArray,hlen]⟩,q⟩
 ·obtain ⟨its,r',pl,hz⟩:=I.tuple hq
  have hlen:=r'.length
  exact len_tuple pl (by simp only [List.size_toArray]<;>omega) ⟨.int ys.length,H,I.tok _,⟨s.toks+1,by rw [List.size_toArray,hlen]⟩,q⟩
theorem LQ:xX X (.builtin "len") (fun xs H Q=>∃ z,xs=[.str z]/\z.length<=sizeLine/\Q (.int z.length) H):=by
 intro pins s σ H xs us Q I r h
 obtain ⟨z,rfl,hz,q⟩:=h
 obtain ⟨u,rfl,t,rfl⟩:=vy r
 have hn:=je
 exact len_str (by omega) ⟨.int z.length,H,I.tok _,⟨_,rfl⟩,q⟩
theorem xX.or {f:Value} {r r':List V->Hp->VK->Prop} (h:xX X f r) (h':xX X f r'):xX X f (fun xs H Q=>r xs H Q\/r' xs H Q):=by
 intro pins s σ H xs us Q I rs q
 rcases q with q | q
 ·exact h pins s σ H xs us Q I rs q
 ·exact h' pins s σ H xs us Q I rs q
theorem LR:xX X (.type "list") (fun xs H Q=>∃ p ys,xs=[.ref p]/\(yC X.K H p ys\/yM X.K H p ys)/\∀ l,H l=none->Q (.ref l) (zR H l (.lst ys))):=by
 intro pins s σ H xs us Q I r h
 obtain ⟨p,ys,rfl,hq,q⟩:=h
 obtain ⟨u,rfl,rx⟩:=vy r
 cases rx
 have fin:∀ (its:List Value),zZ ys its->ys.length<=sizeLine->∀ (h':Heap) (c':Nat),(∀ b o',s.heap.get? b=some o'->h'.get? b=some o')->
   h'.get? s.heap.objs.size=some { cls:=.type "list",dict:=none,data:=.seq its.toArray c',slots:=#[] }->EP X pins σ Q (.ref s.heap.objs.size) { s with heap:=h' }:=fun its r' hz h' c' kp e=>
  ⟨.ref s.heap.objs.size,_,I.laid (t':=s.toks) kp (Nat.le_refl _) (show yh X.prog X.w _ h' _ (.lst ys) from ⟨hz,its,c',r',e⟩),rfl,q _ (I.hok.fresh (Nat.le_refl _))⟩
 rcases hq with hq | hq
 ·obtain ⟨its,r',pl,hz⟩:=I.list hq
  have hlen:=r'.length
  obtain ⟨o,ho,hc,n,hd⟩:=pl.isList
  exact call_list_seq p (.inl rfl) ho hc hd (fun h' c' kp e=>fin its r' hz h' c' kp e) (by simp only [List.size_toArray]<;>omega)
 ·obtain ⟨its,r',pl,hz⟩:=I.tuple hq
  have hlen:=r'.length
  obtain ⟨o,ho,hc,n,hd⟩:=pl
  exact call_list_seq p (.inr rfl) ho hc hd (fun h' c' kp e=>fin its r' hz h' c' kp e) (by simp only [List.size_toArray]<;>omega)
theorem Tx:xX X (.type "tuple") (fun xs H Q=>∃ p ys,xs=[.ref p]/\((yC X.K H p ys/\∀ l,H l=none->Q (.ref l) (zR H l (.tup ys)))\/(yM X.K H p ys/\Q (.ref p) H))):=by
 intro pins s σ H xs us Q I r h
 obtain ⟨p,ys,rfl,h⟩:=h
 obtain ⟨u,rfl,rx⟩:=vy r
 cases rx
 rcases h with ⟨hq,q⟩ | ⟨hq,q⟩
 ·obtain ⟨its,r',pl,hz⟩:=I.list hq
  have hlen:=r'.length
  refine call_tuple_list pl.isList (fun h' kp=>?_) (by simp only [List.size_toArray]<;>omega)
  have I1:zC X pins σ H { s with heap:=h' }:=I.kept (t':=s.toks) kp
  have I2:zC X pins σ (zR H h'.objs.size (.tup ys)) { s with heap:=h'.push { cls:=.type "tuple",data:=.seq its.toArray } }:=
   I1.laid (t':=s.toks) (fun b o e=>Heap.get?_push_of_some _ e) (Nat.le_refl _) (show yh X.prog X.w _ _ _ (.tup ys) from ⟨hz,its,r',IsTup.new _ _⟩)
  exact ⟨.ref h'.objs.size,_,I2,rfl,q _ (I1.hok.fresh (Nat.le_refl _))⟩
 ·obtain ⟨its,r',pl,hz⟩:=I.tuple hq
  exact call_tuple_same pl ⟨.ref p,H,I,rfl,q⟩
noncomputable def O4 (K:PySem.W.Frag) (T:String) (x:V) (H:Hp):Prop:=match x with
 | .str _=>T = "str"
 | .int _=>T = "int"
 | .ref p=>(T = "list" /\ ∃ xs,yC K H p xs)\/(T = "tuple" /\ ∃ o,K.lookup p=some o/\o.cls=.type "tuple" /\ o.dict=none) \/
   (T = "dict" /\ ((∃ kvs,H p=some (.dK kvs))\/∃ kvs,H p=some (.dT kvs)))\/(T = "set" /\ ∃ S n,H p=some (.set S n))
 | _=>False
theorem KZ {pins:List (Addr×Obj)} {σ:St} {H:Hp} {s:Shared} {T:String} {x:V} {v:Value} (I:zC X pins σ H s) (r:zY x v) (ty:O4 X.K T x H) :
  s.TypeIs v T/\∀ a,v=.ref a->∃ ob,s.heap.get? a=some ob/\ob.dict=none:=by
 cases x with
 | str z=>
  obtain ⟨t,rfl⟩:=r
  cases (show T = "str" from ty)
  exact ⟨typeIs_str s z t,fun _ e=>nomatch e⟩
 | int i=>
  obtain ⟨t,rfl⟩:=r
  cases (show T = "int" from ty)
  exact ⟨typeIs_int s i t,fun _ e=>nomatch e⟩
 | ref p=>
  cases r
  rcases ty with ⟨rfl,xs,hq⟩ | ⟨rfl,o,hk,hc,hd⟩ | ⟨rfl,hk⟩ | ⟨rfl,S,n,hk⟩
  ·obtain ⟨its,_,pl,_⟩:=I.list hq
   refine ⟨pl.isList.typeIs,fun a e=>?_⟩
   cases e
   obtain ⟨o,n,e,c,hd,_⟩:=pl
   exact ⟨o,e,hd⟩
  ·refine ⟨⟨o,I.kIn p o hk,hc⟩,fun a e=>?_⟩
   cases e
   exact ⟨o,I.kIn _ o hk,hd⟩
  ·have z:∃ o,s.heap.get? p=some o/\o.ExactDict:=by
    rcases hk with ⟨kvs,hk⟩ | ⟨kvs,hk⟩
    ·obtain ⟨_,_,_,_,o,_,_,e,ex,_⟩:=I.hok p _ hk
     exact ⟨o,e,ex⟩
    ·obtain ⟨_,_,_,_,o,_,_,e,ex,_⟩:=I.hok p _ hk
     exact ⟨o,e,ex⟩
   obtain ⟨o,e,ex⟩:=z
   refine ⟨⟨o,e,ex.1⟩,fun a e2=>?_⟩
   cases e2
   exact ⟨o,e,ex.2.1⟩
  ·obtain ⟨o,_,_,_,e,ex,_⟩:=I.hok p _ hk
   refine ⟨⟨o,e,ex.1⟩,fun a e2=>?_⟩
   cases e2
   exact ⟨o,e,ex.2.1⟩
 | _=>exact False.elim ty
noncomputable def I_ (K:PySem.W.Frag) (T:String) (r:V->List V->Hp->VK->Prop) (to:TE) (t:TA):TE:=fun σ H Q=>to σ H fun x H1=>O4 K T x H1/\t σ H1 fun xs H2=>r x xs H2 Q
variable {o e:Expr} {es:List Expr} {to:TE} {t:TA} {name:Str} {apos cpos:Pos} {T id:String} {r:V->List V->Hp->VK->Prop}
theorem CZ (pa:PlainAttrs T) (slot:Slot T name id) (hty:typeOf (.builtin id)=pure (.type "method_descriptor")) (hm:XU X id r) (ho:PE X o to) (ha:PA X (e::es) t)
  (hbase:attributeBase o name X.env (eval o X.env)=eval o X.env:=by rfl)
  (hfew:((backTo cpos (starEach (e::es) X.env)).all (fun x=>!x.1)&&(backToKw cpos (keywordEach [] X.env)).all (fun x=>x.1.isSome)
   && decide ((e::es).length+([]:List Keyword).length+(if ([]:List Keyword).isEmpty then 0 else 1)<30))=true:=by rfl)
  (hline:(apos.endLine == cpos.line)=true:=by rfl) (hs:starEach (e::es) X.env=(false,eval e X.env)::starEach es X.env:=by rfl) (hplain:(backTo cpos (starEach es X.env)).any (·.1)=false:=by rfl) :
  PE X (.Call (.Attribute o name apos) (e::es) [] cpos) (I_ X.K T r to t):=by
 intro pins s σ H Q I h
 refine wpAny_Call_method_late hbase hfew hline rfl (zd (ho pins s σ H _ I h) fun v s1 ⟨x,H1,I1,r1,ty,q1⟩=>?_)
 obtain ⟨h1,h2⟩:=KZ I1 r1 ty
 refine ⟨T,id,pa,slot,hty,h1,h2,?_⟩
 have hA:=ha cpos pins s1 σ H1 _ I1 q1
 rw [hs] at hA ⊢
 refine Calls.callWith_builtin (by show (false||(backTo cpos (starEach es X.env)).any (·.1))=false; rw [hplain]<;>rfl) (Calls.evalArgs_plain ?_)
 exact zd hA fun us s2 ⟨vs,H2,I2,r2,q2⟩=>hm pins s2 σ H2 x vs v us Q I2 r1 r2 q2
end
end L2
namespace L2
open PySem PySem.Spec PyProof.Rows
noncomputable def OS (X:Cx) (id:String) (r:V->List V->Hp->VK->Prop):Prop:=
 ∀ (pins:List (Addr×Obj)) (s:Shared) (σ:St) (H:Hp) (x:V) (xs:List V) (v:Value) (us:List Value) (Q:VK),zC X pins σ H s->zY x v->zZ xs us->r x xs H Q->
  wpAny (model X.prog X.w) X.A (call (.builtin id) (v::us)) (EP X pins σ Q) X.xe s
theorem zZ.one:∀ {x:V} {us:List Value},zZ [x] us->∃ u,us=[u]/\zY x u
 | _,_,.cons r .nil=>⟨_,rfl,r⟩
theorem zZ.rep {xs:List V} {us:List Value} (h:zZ xs us):∀ k:Nat,zZ (List.replicate k xs).flatten (List.replicate k us).flatten
 | 0=>.nil
 | k+1=>by
  rw [List.replicate_succ,List.replicate_succ,List.flatten_cons,List.flatten_cons]
  exact zZ.append h (zZ.rep h k)
theorem QV (its:List Value):∀ (k:Nat) (acc:List Value),
  List.foldl (fun x1 x2=>x1++x2) acc.toArray (List.replicate k its.toArray)=(acc++(List.replicate k its).flatten).toArray
 | 0,acc=>by simp
 | k+1,acc=>by
  have e:acc.toArray++its.toArray=(acc++its).toArray:=by simp
  have e2:(acc++its)++(List.replicate k its).flatten=acc++(List.replicate (k+1) its).flatten:=by
   rw [List.replicate_succ,List.flatten_cons,List.append_assoc]
  rw [<- e2,<- QV its k (acc++its),<- e,List.replicate_succ,List.foldl_cons]
section
variable {X:Cx} {pins:List (Addr×Obj)} {σ:St} {H:Hp} {s:Shared} {l b:Addr} {xs ys zs:List V}
theorem zC.lset {its its':List Value} {n:Nat} {f:Array Value->Array Value} {t':Nat} (I:zC X pins σ H s) (hH:H l=some (.lst xs))
  (e:s.heap.get? l=some { cls:=.type "list",data:=.seq its.toArray n }) (hf:f its.toArray=its'.toArray) (hv:zZ ys its') (hz:ys.length<=sizeLine) :
  zC X pins σ (zR H l (.lst ys)) { s with heap:=s.heap.update l (Obj.mapSeq f),toks:=t' }:=by
 have q:=PySem.IsL.update e f
 rw [hf] at q
 refine I.write (x:=l) (e:=l) (by rw [hH]; exact trivial) (.inl rfl) (fun b' u hb hu=>(Heap.get?_update_other s.heap (Obj.mapSeq f) (Ne.symm hb)).trans hu) ⟨_,q⟩ ?_
 exact ⟨hz,its',_,hv,q⟩
theorem zC.lnew {its:List Value} {t':Nat} (I:zC X pins σ H s) (hv:zZ ys its) (hz:ys.length<=sizeLine) :
  zC X pins σ (zR H s.heap.objs.size (.lst ys)) { s with heap:=s.heap.push { cls:=.type "list",data:=.seq its.toArray },toks:=t' }:=
 I.laid (fun _ _ q=>Heap.get?_push_of_some _ q) (Nat.le_refl _) ⟨hz,its,0,hv,Heap.get?_push_size _ rfl⟩
theorem zC.fresh (I:zC X pins σ H s):H s.heap.objs.size=none:=I.hok.fresh (Nat.le_refl _)
theorem zC.lstM (I:zC X pins σ H s) (hH:H l=some (.lst xs)):xs.length<=sizeLine/\∃ (its:List Value) (n:Nat),zZ xs its/\xs.length=its.length/\s.heap.get? l=some { cls:=.type "list",data:=.seq its.toArray n }:=by
 obtain ⟨z,its,n,r,e⟩:=I.hok l _ hH
 exact ⟨z,its,n,r,r.length,e⟩
theorem Dq {n:Nat} (h:n<=sizeLine):Builtin.List.listTooLong n=false:=by
 unfold Builtin.List.listTooLong
 exact decide_eq_false (by omega)
end
section
variable {X:Cx}
noncomputable def Em:V->List V->Hp->VK->Prop:=fun x vs H Q=>∃ l xs y,x=.ref l/\vs=[y]/\H l=some (.lst xs)/\xs.length<sizeLine/\Q .non (zR H l (.lst (xs++[y])))
theorem De:OS X "list.append" Em:=by
 intro pins s σ H x vs v us Q I rx rv h
 obtain ⟨l,xs,y,rfl,rfl,hH,hz,q⟩:=h
 cases rx
 obtain ⟨u,rfl,ru⟩:=rv.one
 obtain ⟨z,its,n,r,hl,e⟩:=I.lstM hH
 refine call_meets F.slot_list_append ⟨_,e,rfl⟩ F.entry_list_append (F.args_list_append_2 _ _) (PySem.list_append l its.toArray n u (by rw [List.size_toArray]; omega)) ⟨e,?_⟩
 refine ⟨.non,_,I.lset (its':=its++[u]) hH e (by simp) (r.append (.cons ru .nil)) ?_,rfl,q⟩
 rw [List.length_append,List.length_singleton]
 omega
noncomputable def Es:R2:=fun x y H Q=>∃ l k xs,x=.ref l/\y=.int k/\H l=some (.lst xs) /\ -(2 ^ 63)<=k/\k<2 ^ 63/\xs.length*k.toNat<=sizeLine/\
 ∀ p,H p=none->Q (.ref p) (zR H p (.lst (List.replicate k.toNat xs).flatten))
theorem J8 {α:Type} (xs:List α) (k:Nat):(List.replicate k xs).flatten.length=k*xs.length:=by
 induction k with
 | zero=>simp
 | succ k ih=>rw [List.replicate_succ,List.flatten_cons,List.length_append,ih,Nat.succ_mul,Nat.add_comm]
theorem CS:yB X (binaryOp .Mult) Es:=by
 intro pins s σ H x y v u Q I rx ry h
 obtain ⟨l,k,xs,rfl,rfl,hH,h1,h2,hz,q⟩:=h
 cases rx
 obtain ⟨t,rfl⟩:=ry
 obtain ⟨z,its,n,r,hl,e⟩:=I.lstM hH
 have hlen:its.toArray.size*k.toNat<=sizeLine:=by rw [List.size_toArray,<- hl]; exact hz
 have hcap:¬ its.toArray.size*k.toNat > (2 ^ 63 - 1) / 8:=by
  have:(sizeLine:Nat)<=(2 ^ 63 - 1) / 8:=by decide
  omega
 have hfit:¬ (!Builtin.List.listFitsIndex k)=true:=by
  rw [fitsIndex_both h1 h2]
  exact Bool.false_ne_true
 have hlong:¬ Builtin.List.listTooLong (its.toArray.size*k.toNat)=true:=by
  rw [Dq hlen]
  exact Bool.false_ne_true
 have hnew:List.foldl (fun x1 x2=>x1++x2) #[] (List.replicate (if its.toArray.isEmpty=true then 0 else k.toNat) its.toArray)=(List.replicate k.toNat its).flatten.toArray:=by
  have f0:∀ m:Nat,List.foldl (fun x1 x2=>x1++x2) #[] (List.replicate m its.toArray)=(List.replicate m its).flatten.toArray:=fun m=>by
   have:=QV its m []
   rw [List.nil_append] at this
   exact this
  rw [f0]
  cases its with
  | nil=>simp
  | cons a r'=>rw [if_neg (by simp)]
 refine wpAny_binaryOp_repeat_ref (T := "list") (U := "int") (by decide) ⟨_,e,rfl⟩ (fun s'=>typeIs_int s' k t) noFill_list_mul F.fills_int_mul F.slot_int_rmul repeat_list F.slot_int_index.lookup
  (call_meets F.slot_int_rmul (typeIs_int s k t) F.entry_int_rmul (F.args_int_rmul_2 _ _) (int___rmul___int_list k t l its.toArray n)
   ⟨e,rfl,⟨_,e,rfl⟩,call_meets F.slot_list_mul ⟨_,e,rfl⟩ F.entry_list_mul (F.args_list_mul_2 _ _) (AutoListH.list___mul___list_int_3 l its.toArray n k t hfit hcap hlong) ⟨e,?_⟩⟩)
 rw [hnew]
 exact ⟨.ref _,_,I.lnew (t':=s.toks) (r.rep k.toNat) (by rw [J8,Nat.mul_comm]; exact hz),rfl,q _ I.fresh⟩
end
end L2
namespace Att
open PySem PySem.W PySem.Calls PyProof.Rows
theorem BY {P:Params} {h:Heap}:∀ (ns:List Int) (vs:List Value),WellAll P h vs (ns.map WData.int)->IntsAre vs ns:=by
 intro ns
 induction ns with
 | nil=>
  intro vs w
  rw [List.map_nil] at w
  cases w
  exact .nil
 | cons n ns ih=>
  intro vs w
  rw [List.map_cons] at w
  cases w with
  | cons a b=>
   cases a
   exact .cons _ _ (ih _ b)
theorem script_of {l:OpenLaw} {n:Nat} (hn:l.most=some n) {P:Params} {h:Heap} {args:List WData} {vals:List Value}
  (hpre:l.row.toRowW.claim.pre args=true) (hwl:WellAll P h vals args) :
  ∃ a vs ns,vals=[Value.ref a]/\args=[WData.list (ns.map WData.int)]/\h.get? a=some { cls:=.type "list",data:=.seq vs.toArray }/\IntsAre vs ns/\ns.length<=n:=by
 have hsh:WShape.hasAll [] args [.list .int]=true:=(pre_splitW hpre).1
 have hc:l.pre.holds [] { args:=args }=true:=(pre_splitW hpre).2
 obtain ⟨d,r,rfl,h1,h2⟩:=hasAllW_cons hsh
 obtain rfl:=hasAllW_nil h2
 obtain ⟨xs,rfl,h3⟩:=hasW_list h1
 obtain ⟨ns,rfl⟩:=items_int h3
 have hlen:ns.length<=n:=by
  unfold OpenLaw.pre at hc
  have h4:(WTm.not (.lt (.lit (.int (n:Int))) (.len (.arg 0)))).holds [] { args:=[.list (ns.map .int)] }=true:=by
   have h4:=(holds_andW hc).1
   rw [hn] at h4
   exact h4
  have h5:=condW_of h4 (w_not (w_lt w_lit (w_len_list (w_arg rfl))))
  rw [List.length_map] at h5
  refine Nat.le_of_not_lt fun q=>?_
  have q':(n:Int)<((ns.length:Nat):Int):=by omega
  first
   | (rw [decide_eq_true q'] at h5; exact absurd h5 (by decide))
   | (simp at h5; omega)
 cases hwl with
 | cons w1 w2=>
  cases w2
  cases w1 with
  | list ho hall=>exact ⟨_,_,ns,rfl,rfl,ho,BY ns _ hall,hlen⟩
theorem post_true (l:OpenLaw) (args:List WData):l.row.toRowW.claim.post args (.bool true) args=true:=
 postW_of (r:=l.row.toRowW) (X:=(true == true))
  (show WShape.has [] (.bool true) .bool=true by first | rfl | decide | simp [WShape.has,WShape.arms,WShape.armsAll])
  (show (WTm.eq .res (.lit (.bool true))).value [] { args:=args,res:=some (.bool true),after:=args }=some (.bool (true == true)) from w_eq_bool (w_res rfl) w_lit) rfl
end Att
namespace L2
open PySem PySem.Spec PyProof.Rows
theorem OD:∀ {vs:List Value} {ns:List Int},IntsAre vs ns->zZ (ns.map V.int) vs
 | _,_,.nil=>.nil
 | _,_,.cons n t h=>.cons ⟨t,rfl⟩ (OD h)
noncomputable def TQ (H:Hp):Prop:=∀ b,H b=none\/∃ o xs,H b=some (.frz o (.lst xs))
theorem D6 {P:Program} {w:World} {K:PySem.W.Frag} {mg mb:Str->Option Value} {CX:uW} {k:Nat} {fa a:Addr} {fd:FuncData} {x:Str} {sp:Sp} {s₁:Shared} {vs:List Value} {ns:List Int}
  (KX:K.In s₁.heap) (hns:s₁.heap.Ns mainGlobals mg) (hb:s₁.heap.Ns builtinsNs mb) (hbb:∀ x:Str,x ≠ "__name__" -> mb x=bootBuiltins x) (hlim:s₁.heap.NoLimit) (hg:s₁.gens=#[])
  (ha:s₁.heap.get? a=some { cls:=.type "list",data:=.seq vs.toArray }) (hi:IntsAre vs ns) (hl:ns.length<=sizeLine) (hr:zt k callerA)
  (F:∀ base:Heap,K.In base->base.Ns mainGlobals mg->yO P w K mg base CX k fa fd [x] sp) (hbind:∀ (s:Shared) (u:Value),BindsTo s fd ⟨[u],[]⟩ [(x,u)])
  (hsp:∀ H:Hp,TQ H->yC K H a (ns.map V.int)->sp [.ref a] H (fun v _=>v=.bl true) fun _ _ _=>False)
  (hCX:∀ H e s',CX [] H s₁ (fun _ _ _=>False) e s'->False) :
  codeAny (model P w) callerA (.call (.ref fa) ⟨[.ref a],[]⟩) (fun r s'=>r=.ok (.ret (.bool true))/\OldK s₁.heap s'.heap/\s'.os=s₁.os/\AllBare s'.gens) s₁:=by
 have rv:=OD hi
 have lenV:=hi.length
 have core:∀ H:Hp,TQ H->yC K H a (ns.map V.int)->yd P w H s₁.heap->(∀ b,H b≠none->b=a)->(H a≠none->K.lookup a=none)->
   codeAny (model P w) callerA (.call (.ref fa) ⟨[.ref a],[]⟩) (fun r s'=>r=.ok (.ret (.bool true))/\OldK s₁.heap s'.heap/\s'.os=s₁.os/\AllBare s'.gens) s₁:=by
  intro H hO hS hok hA hK
  have base_of:∀ {b:Addr} {o:Obj},s₁.heap.get? b=some o->H b=none->(tS s₁.heap H).get? b=some o:=fun e n=>BN e n
  have noA:∀ {b:Addr} {o:Obj} {es:Array DictEntry} {ep:Nat},s₁.heap.get? b=some o->o.data=.dict es ep->H b=none:=fun {b o es ep} e d=>by
   cases q:H b with
   | none=>rfl
   | some u=>
    have e':b=a:=hA b (by rw [q]; simp)
    subst e'
    rw [ha] at e; cases e
    have d':Data.seq vs.toArray _=Data.dict es ep:=d
    cases d'
  have nsK:∀ {b:Addr} {m:Str->Option Value},s₁.heap.Ns b m->(tS s₁.heap H).Ns b m:=fun {b m} ⟨o,es,ep,e,d,r⟩=>⟨o,es,ep,base_of e (noA e d),d,r⟩
  have hKb:K.In (tS s₁.heap H):=fun b o e=>base_of (KX b o e) (by
   cases q:H b with
   | none=>rfl
   | some u=>
    have e':b=a:=hA b (by rw [q]; simp)
    subst e'
    rw [hK (by rw [q]; simp)] at e; cases e)
  have hM:Mod K mg (tS s₁.heap H):=⟨hKb,nsK hns,⟨mb,nsK hb,hbb⟩,let ⟨mc,h1,h2⟩:=hlim; ⟨mc,nsK h1,h2⟩⟩
  have e0:qu P w K mg (tS s₁.heap H) callerA [] s₁ H:=⟨rfl,hM,fun b o e=>Ds e,Nat.le_of_eq (BO _ _),trivial,fun b hb=>absurd (show b∈([]:List Addr) from hb) (by simp),hok,.of_eq hg⟩
  refine codeAny_mono ((F _ hKb (nsK hns)).run callerA [] s₁ H ⟨[.ref a],[]⟩ [.ref a] [.ref a] _ _ hr e0 (hbind s₁ (.ref a)) (.cons rfl .nil) (hsp H hO hS)) fun r s' h=>?_
  cases r with
  | error e=>exact (hCX H e s' h).elim
  | ok fl=>
   cases fl with
   | next=>exact False.elim h
   | brk=>exact False.elim h
   | cont=>exact False.elim h
   | ret u=>
    obtain ⟨v,H',os,bare,un,hok',r',q⟩:=h
    have q':v=.bl true:=q
    subst q'
    obtain rfl:u=Value.bool true:=r'
    refine ⟨rfl,OldK.of_keep fun b o e=>?_,os,bare⟩
    cases q:H b with
    | none=>exact un.keep b o e q (by intro z; exact absurd (show b∈([]:List Addr) from z) (by simp)) (by simp)
    | some u=>
     rcases hO b with z | ⟨ob,xs,z⟩
     ·rw [q] at z; cases z
     ·have z2:=un.frzs b ob _ z
      obtain ⟨e1,_⟩:=hok b _ z
      obtain ⟨e2,_⟩:=hok' b _ z2
      rw [e] at e1; cases e1
      exact e2
 cases hk:K.lookup a with
 | some o=>
  have e:=KX a o hk
  rw [ha] at e
  cases e
  refine core (fun _=>none) (fun _=>.inl rfl) (.inr ⟨_,vs.toArray,_,hk,rfl,rfl,rfl,by rw [List.size_toArray,lenV]; exact hl,by simpa using rv⟩) (fun b u z=>by have z':(none:Option HO)=some u:=z; cases z') (fun b z=>absurd rfl z) fun z=>absurd rfl z
 | none=>
  refine core (fun b=>if b=a then some (.frz { cls:=.type "list",data:=.seq vs.toArray } (.lst (ns.map V.int))) else none) (fun b=>?_) (.inl (.inr ⟨{ cls:=.type "list",data:=.seq vs.toArray },if_pos rfl⟩)) (fun b u z=>?_) (fun b z=>?_) fun _=>hk
  ·by_cases hb:b=a
   ·exact .inr ⟨_,_,if_pos hb⟩
   ·exact .inl (if_neg hb)
  ·by_cases hb:b=a
   ·have z':=(if_pos hb).symm.trans z
    cases z'
    subst hb
    exact ⟨ha,by rw [List.length_map]; exact hl,vs,_,rv,ha⟩
   ·have z':=(if_neg hb).symm.trans z
    cases z'
  ·by_cases hb:b=a
   ·exact hb
   ·exact absurd (if_neg hb) z
end L2
namespace L2
open PySem PySem.Spec PyProof.Rows
end L2
namespace L2
open PySem PySem.Spec PyProof.Rows
noncomputable def uj (s:Stmt) (j:Nat):Stmt:=match s with
 | .ClassDef _ _ _ body _ _ _ _ _ _ _=>body.getD j (.Pass ⟨0,0,0,0⟩)
 | _=>.Pass ⟨0,0,0,0⟩
noncomputable def yc (s:Stmt):Arguments:=match s with
 | .FunctionDef _ a _ _ _ _ _ _ _ _=>a
 | _=>{ posonlyargs:=[],args:=[],vararg:=none,kwonlyargs:=[],kw_defaults:=[],kwarg:=none,defaults:=[] }
noncomputable def zz (s:Stmt):List Stmt:=match s with
 | .FunctionDef _ _ b _ _ _ _ _ _ _=>b
 | _=>[]
noncomputable def zH (s:Stmt):Scope:=match s with
 | .FunctionDef _ _ _ _ _ _ sc _ _ _=>sc
 | _=>{ kind:=.function,names:=[],isGenerator:=false,isCoroutine:=false }
noncomputable abbrev yJ:uW:=fun _ _ _ _ _ _=>False
noncomputable abbrev E0:XK:=fun _ _ _=>False
theorem uu {X:Cx}:qN yJ X E0:=fun _ _ _ _ _ _ _ h=>h.elim
structure Fun (K:PySem.W.Frag) (x qual:Str) (st:Stmt) (f:Addr) (fd:FuncData):Prop where
 ex:∃ (oc:Value) (od:Option Addr) (kV doc pm:Value) (an:Option Addr) (cdv ct:Value) (osl:Array (Option Value)),
  fd=PySem.W.fnOf x qual (yc st) (zz st) (zH st) .none kV doc pm an cdv ct/\K.lookup f=some ⟨oc,od,.func fd,osl⟩/\PySem.W.codeIn K cdv qual=true
 kp:PySem.W.keepIn K (.ref f)=true
section
variable {P:Program} {w:World} {K:PySem.W.Frag} {mg:Str->Option Value} {base:Heap}
theorem Fun.ok {x qual:Str} {st:Stmt} {f:Addr} {fd:FuncData} {N ps:List Str} {k:Nat} {sp:Sp} (F:Fun K x qual st f fd) (S:zX N ps (zH st)) (len:∀ vs H Q E,sp vs H Q E->vs.length=ps.length)
  (hbody:∀ (cdv:Value) (A:Around) (outer:List Env) (s:Shared) (H:Hp) (vs:List V) (Q:VK) (E:XK),zt k (A.deeper (envOfC qual (zH st) s.heap.objs.size f cdv))->sp vs H Q E->
   ∃ t,x_ (wJ yJ P w K mg base N qual (zH st) f cdv A outer s H E).nox (zz st) t/\t { nx:=fun _ H'=>Q .non H',rt:=Q } (start N vs) H):yO P w K mg base yJ (k+1) f fd ps sp:=by
 obtain ⟨oc,od,kV,doc,pm,an,cdv,ct,osl,rfl,lk,hcd⟩:=F.ex
 refine QU lk hcd S len fun A outer s H vs Q E hr hsp=>?_
 obtain ⟨t,h,q⟩:=hbody cdv A outer s H vs Q E hr hsp
 exact ⟨t,h.nox,q⟩
theorem Fun.binds {x qual:Str} {st:Stmt} {f:Addr} {fd:FuncData} {ps:List Str} (F:Fun K x qual st f fd)
  (h:∀ (kV doc pm:Value) (an:Option Addr) (cdv ct:Value) (us:List Value),us.length=ps.length->bindArgs (PySem.W.fnOf x qual (yc st) (zz st) (zH st) .none kV doc pm an cdv ct) ⟨us,[]⟩=pure (ps.zip us)):xB K fd ps []:=by
 obtain ⟨oc,od,kV,doc,pm,an,cdv,ct,osl,rfl,lk,hcd⟩:=F.ex
 exact .all (h kV doc pm an cdv ct)
theorem QY {x qual:Str} {st:Stmt} {f:Addr} {oc:Value} {od an:Option Addr} {osl:Array (Option Value)} {kV doc pm cdv ct:Value} (l:K.lookup f=some ⟨oc,od,.func (PySem.W.fnOf x qual (yc st) (zz st) (zH st) .none kV doc pm an cdv ct),osl⟩)
  (c:PySem.W.codeIn K cdv qual=true) (k:PySem.W.keepIn K (.ref f)=true):Fun K x qual st f (PySem.W.fnOf x qual (yc st) (zz st) (zH st) .none kV doc pm an cdv ct):=⟨⟨oc,od,kV,doc,pm,an,cdv,ct,osl,rfl,l,c⟩,k⟩
end
theorem zI {A:Around} {k:Nat} (hr:zt k A):A.units+1<cLine:=Nat.lt_of_le_of_lt (Nat.add_le_add_left (by decide:1<=64) _) hr.units
theorem HR {n:Nat} (h:n<=1000):n<sizeLine:=Nat.lt_of_le_of_lt h (by decide)
theorem uk {A B:Prop} (h:B):if false=true then A else B:=by
 rw [if_neg Bool.false_ne_true]
 exact h
theorem ul {A B:Prop} (h:A):if true=true then A else B:=by
 rw [if_pos rfl]
 exact h
noncomputable def zf (H H':Hp):Prop:=∀ b o,H b=some o->H' b=some o
theorem zf.refl (H:Hp):zf H H:=fun _ _ h=>h
theorem zf.trans {H H1 H2:Hp} (a:zf H H1) (b:zf H1 H2):zf H H2:=fun c o h=>b c o (a c o h)
theorem zf.free {H H':Hp} (e:zf H H') {l:Addr} (h:H' l=Option.none):H l=Option.none:=by
 cases q:H l with
 | none=>rfl
 | some o=>
  rw [e l o q] at h
  cases h
end L2
set_option linter.all false
set_option maxRecDepth 100000
set_option maxHeartbeats 4000000
namespace L2
open PySem PySem.Spec PyProof.Rows
noncomputable def Def (K:PySem.W.Frag) (mg:Str->Option Value) (x:Str) (st:Stmt) (ps:List Str):Prop:=
 ∃ (f:Addr) (fd:FuncData),Fun K x x st f fd/\mg x=some (.ref f)/\xB K fd ps []
noncomputable def zi (P:Program) (w:World) (K:PySem.W.Frag) (mg:Str->Option Value) (base:Heap) (x:Str) (ps:List Str) (k:Nat) (sp:Sp):Prop:=
 ∃ (f:Addr) (fd:FuncData),mg x=some (.ref f)/\PySem.W.keepIn K (.ref f)=true/\xB K fd ps []/\yO P w K mg base yJ k f fd ps sp
noncomputable def yL (mg:Str->Option Value) (x:Str) (v:V):Prop:=∃ u,mg x=some u/\zY v u
section
variable {P:Program} {w:World} {K:PySem.W.Frag} {mg:Str->Option Value} {base:Heap}
theorem Def.ok {x:Str} {st:Stmt} {N ps:List Str} {k:Nat} {sp:Sp} (d:Def K mg x st ps) (S:zX N ps (zH st)) (len:∀ vs H Q E,sp vs H Q E->vs.length=ps.length)
  (hbody:∀ (f:Addr) (cdv:Value) (A:Around) (outer:List Env) (s:Shared) (H:Hp) (vs:List V) (Q:VK) (E:XK),zt k (A.deeper (envOfC x (zH st) s.heap.objs.size f cdv))->sp vs H Q E->
   ∃ t,x_ (wJ yJ P w K mg base N x (zH st) f cdv A outer s H E).nox (zz st) t/\t { nx:=fun _ H'=>Q .non H',rt:=Q } (start N vs) H):zi P w K mg base x ps (k+1) sp:=by
 obtain ⟨f,fd,F,hm,hb⟩:=d
 exact ⟨f,fd,hm,F.kp,hb,F.ok S len (hbody f)⟩
end
section
variable {X:Cx} {x:Str} {p pos:Pos} {e:Expr} {es:List Expr} {t:TA} {ps:List Str} {j k:Nat} {sp:Sp} {v:V} {T:String}
noncomputable def yH:Expr->Bool
 | .Starred ..=>false
 | _=>true
theorem wP {e:Expr} {es:List Expr} {env:Env} (h:yH e=true):starEach (e::es) env=(false,eval e env)::starEach es env:=by
 cases e<;>first | rfl | cases h
theorem t7 {env:Env} {pos:Pos}:∀ {es:List Expr},es.all yH=true->(backTo pos (starEach es env)).any (·.1)=false
 | [],_=>rfl
 | e::es,h=>by
  rw [List.all_cons,Bool.and_eq_true] at h
  rw [wP h.1]
  have ih:=t7 (env:=env) (pos:=pos) h.2
  unfold backTo at ih ⊢
  rw [List.map_cons,List.any_cons,ih]
  rfl
theorem qg {te:TE} (ha:PE X e te) (hr:PA X es t) (h:yH e=true:=by rfl):PA X (e::es) (Uw te t):=CT ha hr (wP h)
theorem VX (h:zi X.prog X.w X.K X.mg X.base x ps k sp) (hr:zt j X.A) (hg:Gl X x) (ha:PA X (e::es) t) (hk:k<=j:=by decide) (hdb:(x == ("__debug__" : Str))=false:=by decide)
  (he:(e::es).all yH=true:=by rfl):PE X (.Call (.Name x p) (e::es) [] pos) (YB sp [] E0 t):=by
 obtain ⟨f,fd,hm,kp,b,F⟩:=h
 rw [List.all_cons,Bool.and_eq_true] at he
 exact Cc F (hr.mono hk) hg hm kp b .nil uu ha hdb (wP he.1) (t7 he.2)
theorem Zq (h:yL X.mg x v) (hg:Gl X x) (hd:(x == ("__debug__" : Str))=false:=by decide):PE X (.Name x pos) (tC v):=by
 obtain ⟨u,hm,r⟩:=h
 exact Cl hg hm r hd
theorem Ca (hg:Gl X x) (hm:X.mg x=none) (hv:bootBuiltins x=some (.type T)) (hn:x ≠ "__name__" := by decide) (hd:(x == ("__debug__" : Str))=false:=by decide):PE X (.Name x pos) (tC (.ty T)):=
 CY hg hm hv rfl hn hd
end
section
variable {X:Cx}
theorem uP:yB X (binaryOp .FloorDiv) (rI (fun _ j=>0<j/\j<2 ^ 64) fun i j=>.int (i / j)):=ji fun i j _ _ _ _ _ hc q=>by
 have h1:(0:Int)<j:=hc.1
 have h2:j<2 ^ 64:=hc.2
 have h3:j.natAbs.log2<64:=(Nat.log2_lt (by omega)).mpr (by omega)
 exact PyProof.Rows.floordiv_int (by omega) (by rw [Int.fdiv_eq_ediv_of_nonneg i (by omega)]; exact q) (.inl (PyProof.noPylong_of_log2 (by omega)))
end
theorem qT:bootBuiltins "len" = some (.builtin "len"):=by decide +kernel
theorem LC:bootBuiltins "isinstance" = some (.builtin "isinstance"):=by decide +kernel
theorem LE:bootBuiltins "sum" = some (.builtin "sum"):=by decide +kernel
theorem LB:bootBuiltins "all" = some (.builtin "all"):=by decide +kernel
theorem L9:bootBuiltins "int" = some (.type "int"):=by decide +kernel
theorem L8:bootBuiltins "bool" = some (.type "bool"):=by decide +kernel
theorem WN:bootBuiltins "list" = some (.type "list"):=by decide +kernel
theorem WO:bootBuiltins "tuple" = some (.type "tuple"):=by decide +kernel
theorem Bw {K:PySem.W.Frag}:PySem.W.kitOne K (.type "int") (.type "int")=some true:=by rfl
theorem Bu {K:PySem.W.Frag}:PySem.W.kitOne K (.type "bool") (.type "int")=some true:=by kernel_rfl
theorem Bv {K:PySem.W.Frag}:PySem.W.kitOne K (.type "int") (.type "bool")=some false:=by kernel_rfl
theorem Bt {K:PySem.W.Frag}:PySem.W.kitOne K (.type "bool") (.type "bool")=some true:=by rfl
theorem Bz {K:PySem.W.Frag}:PySem.W.kitOne K (.type "NoneType") (.type "int")=some false:=by kernel_rfl
theorem By {K:PySem.W.Frag}:PySem.W.kitOne K (.type "NoneType") (.type "bool")=some false:=by kernel_rfl
theorem D0 {K:PySem.W.Frag}:PySem.W.kitOne K (.type "tuple") (.type "tuple")=some true:=by rfl
theorem B_ {K:PySem.W.Frag}:PySem.W.kitOne K (.type "str") (.type "str")=some true:=by rfl
theorem vG {H:Hp} {p:Addr} (h:H p=none) (o:HO):zf H (zR H p o):=fun b u q=>by rw [z_ (wu q h)]; exact q
theorem zW {n:Nat} (h:n<=1000):n<=sizeLine:=Nat.le_of_lt (HR h)
end L2
namespace L2
open PySem PySem.Spec PyProof.Rows
end L2
namespace L2
open PySem PySem.Spec PyProof.Rows
noncomputable def qD (env:Env):List (Str×Addr)->Prop
 | []=>True
 | p::r=>env.cells.lookup p.1=some p.2/\qD env r
theorem qD.get {env:Env}:∀ {cl:List (Str×Addr)} {y:Str} {c:Addr},qD env cl->cl.lookup y=some c->env.cells.lookup y=some c
 | [],_,_,_,h=>by cases h
 | (n,a)::r,y,c,hc,h=>by
  rw [List.lookup_cons] at h
  cases e:y == n with
  | true=>
   rw [e] at h
   have e':y=n:=by simpa using e
   subst e'
   have h':a=c:=by simpa using h
   subst h'
   exact hc.1
  | false=>
   rw [e] at h
   exact qD.get hc.2 (by simpa using h)
noncomputable def jL (scope:Scope) (env:Env) (cl:List (Str×Addr)) (own:List Str):Bool:=
 scope.names.all fun p=>p.1 != ("." : Str)&&((p.2 == .local&&(own.contains p.1||p.1 == (".0" : Str)))||p.2 == .globalImplicit||p.2 == .globalExplicit ||
  (p.2 == .free&&(env.kindOf p.1 == some .cell||env.kindOf p.1 == some .free)&&(cl.lookup p.1).isSome))
noncomputable def hide (own:List Str) (y:Str):Str:=if own.contains y||y == (".0" : Str) then "." else y
noncomputable def v8 (N own:List Str):List Str:=N.map (hide own)++own
theorem Vk {env:Env}:∀ {names:List (Str×NameKind)} {y:Str} {k:NameKind},
  (names.map fun (n,k)=>if (k == NameKind.free&&env.scope.kind == .function&&env.kindOf n == some .cell) then (n,NameKind.cell) else (n,k)).lookup y=some k->∃ k0,(y,k0)∈names/\(k=k0\/(k0=.free/\k=.cell))
 | [],_,_,h=>by simp at h
 | (n,k')::r,y,k,h=>by
  rw [List.map_cons] at h
  by_cases hc:(k' == NameKind.free&&env.scope.kind == .function&&env.kindOf n == some .cell)=true
  ·dsimp only at h
   rw [if_pos hc,List.lookup_cons] at h
   cases e:y == n with
   | true=>
    rw [e] at h
    have e':y=n:=by simpa using e
    subst e'
    have h':NameKind.cell=k:=by simpa using h
    have hf:k'=.free:=by
     rw [Bool.and_eq_true,Bool.and_eq_true] at hc
     simpa using hc.1.1
    exact ⟨k',List.mem_cons_self,.inr ⟨hf,h'.symm⟩⟩
   | false=>
    rw [e] at h
    obtain ⟨k0,m,z⟩:=Vk (env:=env) (by simpa using h)
    exact ⟨k0,List.mem_cons_of_mem _ m,z⟩
  ·dsimp only at h
   rw [if_neg hc,List.lookup_cons] at h
   cases e:y == n with
   | true=>
    rw [e] at h
    have e':y=n:=by simpa using e
    subst e'
    have h':k'=k:=by simpa using h
    exact ⟨k',List.mem_cons_self,.inl h'.symm⟩
   | false=>
    rw [e] at h
    obtain ⟨k0,m,z⟩:=Vk (env:=env) (by simpa using h)
    exact ⟨k0,List.mem_cons_of_mem _ m,z⟩
noncomputable def xr (X:Cx) (scope:Scope) (cl:List (Str×Addr)) (own:List Str) (C:Addr) (s2:Shared) (H2:Hp) (fp:List Addr) (pn:List (Addr×Obj)):Cx:=
 { X with N:=v8 X.N own,s₀:=s2,H₀:=H2,env:=compEnvC scope cl C X.env,outer:=X.stack,stack:=X.stack,ex:=fp,fn:=fun _=>false,pn:=pn,xe:=fun _ _=>False }
section
variable {X:Cx} {pins:List (Addr×Obj)} {σ:St} {H2:Hp} {s2:Shared} {scope:Scope} {cl:List (Str×Addr)} {own:List Str} {C D:Addr} {fp:List Addr}
theorem To (hb:jL scope X.env cl own=true) {y:Str} {k:NameKind} (h:(relabel scope X.env).names.lookup y=some k) :
  y ≠ "." /\ ((k=.local->own.contains y=true\/y = ".0")/\((k=.cell\/k=.free)->(∃ k0,(y,k0)∈scope.names/\k0=.cell)\/((X.env.kindOf y=some .cell\/X.env.kindOf y=some .free)/\∃ c,cl.lookup y=some c))):=by
 obtain ⟨k0,m,z⟩:=Vk h
 have q:=List.all_eq_true.mp hb _ m
 rw [Bool.and_eq_true] at q
 obtain ⟨q1,q2⟩:=q
 refine ⟨by simpa using q1,fun hk=>?_,fun hk=>?_⟩
 ·rcases z with z | ⟨_,z⟩
  ·subst z
   subst hk
   simpa using q2
  ·rw [z] at hk
   cases hk
 ·have hf:k0=.free\/k0=.cell:=by
   rcases z with z | ⟨z,_⟩
   ·subst z
    rcases hk with hk | hk
    ·exact .inr hk
    ·exact .inl hk
   ·exact .inl z
  rcases hf with hf | hf
  ·subst hf
   right
   have q3:((X.env.kindOf y == some .cell||X.env.kindOf y == some .free)&&(cl.lookup y).isSome)=true:=by simpa using q2
   rw [Bool.and_eq_true] at q3
   refine ⟨?_,Option.isSome_iff_exists.mp q3.2⟩
   have:=q3.1
   rw [Bool.or_eq_true] at this
   rcases this with t | t
   ·exact .inl (by simpa using t)
   ·exact .inr (by simpa using t)
  ·exact .inl ⟨k0,m,hf⟩
theorem WM (hb:jL scope X.env cl own=true) (hcell:∀ y∈scope.names,y.2≠.cell) {y:Str} {k:NameKind} (h:(relabel scope X.env).names.lookup y=some k) (hk:k=.cell\/k=.free) :
  (X.env.kindOf y=some .cell\/X.env.kindOf y=some .free)/\∃ c,cl.lookup y=some c:=by
 rcases (To hb h).2.2 hk with ⟨k0,m,e⟩ | q
 ·exact absurd e (hcell _ m)
 ·exact q
theorem Tp (I:zC X pins σ H2 s2) (hk:scope.kind=.function) (hcell:∀ y∈scope.names,y.2≠.cell) (hcap:qD X.env cl) (hb:jL scope X.env cl own=true) (hC:s2.heap.objs.size<=C)
  (hfp:∀ b∈fp,vY X pins H2 b) (hfo:∀ b∈fp,∃ o,s2.heap.get? b=some o):(xr X scope cl own C s2 H2 fp (X.pn++pins)).Ok where
 mod:=I.ok.mod
 kind:=hk
 glob:=I.ok.glob
 blt:=I.ok.blt
 above:=hC
 inj:=fun x y c h1 h2=>I.ok.inj x y c (hcap.get h1) (hcap.get h2)
 has:=fun x hx=>by
  rcases hx with hx | hx
  ·exact (WM hb hcell (show (relabel scope X.env).names.lookup x=_ from hx) (.inl rfl)).2
  ·exact (WM hb hcell (show (relabel scope X.env).names.lookup x=_ from hx) (.inr rfl)).2
 cab:=fun x c h=>by cases h
 hd:=I.ok.hd
 frames:=I.ok.frames
 stk:=.inl rfl
 exf:=fun b hx=>⟨by
  obtain ⟨o,e⟩:=hfo b hx
  exact Nat.ne_of_lt (Nat.lt_of_lt_of_le (Heap.lt_size e) hC),fun x c h=>(hfp b hx).2.2.2.2.1 x c (hcap.get h)⟩
 bs:=I.bs
 bsz:=Nat.le_trans I.ok.bsz I.sz
 noex:=fun b o e hx=>by
  rcases (hfp b hx).2.2.2.1 with z | z
  ·exact I.ok.noex b o e z
  ·exact absurd (Nat.lt_of_lt_of_le (Heap.lt_size e) (Nat.le_trans I.ok.bsz z)) (Nat.lt_irrefl _)
 exfs:=fun b hx hz=>by
  rcases List.mem_cons.mp (I.stkSub b hz) with z | z
  ·exact (hfp b hx).2.1 z
  ·exact (hfp b hx).2.2.1 z
 funs:=I.stack
 frf:=I.stkFree
theorem ZU {α:Type} {σ:List (Option α)} {n i:Nat} {v:α} (h:(σ++List.replicate n none)[i]?=some (some v)):σ[i]?=some (some v):=by
 by_cases hi:i<σ.length
 ·rw [List.getElem?_append_left hi] at h
  exact h
 ·rw [List.getElem?_append_right (by omega),List.getElem?_replicate] at h
  split at h<;>cases h
theorem L5 {h4:Heap} {m0:Str->Option Value} {dobj:Obj} {tk:Nat} (I:zC X pins σ H2 s2) (hk:scope.kind=.function) (hcell:∀ y∈scope.names,y.2≠.cell) (hcap:qD X.env cl) (hb:jL scope X.env cl own=true)
  (hC:s2.heap.objs.size<=C) (hD:s2.heap.objs.size<=D) (hDC:D≠C) (hfp:∀ b∈fp,vY X pins H2 b) (hfo:∀ b∈fp,∃ o,s2.heap.get? b=some o)
  (keep:∀ b o,s2.heap.get? b=some o->h4.get? b=some o) (ns:h4.Ns C m0) (hd:h4.get? D=some dobj) (hdd:∀ v,dobj.data≠.cell v) :
  zC (xr X scope cl own C s2 H2 fp (X.pn++pins)) [(D,dobj)] (σ++List.replicate own.length none) H2 { s2 with heap:=h4,toks:=tk }:=by
 have nfs:∀ a,s2.heap.objs.size<=a->a ∉ vR X.stack:=fun a ha hz=>by
  rcases List.mem_cons.mp (I.stkSub a hz) with z | z
  ·exact absurd (Nat.lt_of_lt_of_le I.lt ha) (by rw [z]; exact Nat.lt_irrefl _)
  ·exact I.nofs ha z
 refine ⟨Tp I hk hcell hcap hb hC hfp hfo,rfl,I.bare,Un.kept keep,⟨m0,ns,fun i y v e1 e2 e3=>?_⟩,fun x c h=>?_,I.hok.fresh hC,fun x c h=>I.freeC x c (hcap.get h),fun p hp=>?_,I.hok.kept keep,?_⟩
 ·have e2':σ[i]?=some (some v):=ZU e2
  have hi:i<X.N.length:=by
   have:=(List.getElem?_eq_some_iff.mp e2').1
   rw [I.len] at this
   exact this
  have e1':(X.N.map (hide own)++own)[i]?=some y:=e1
  rw [List.getElem?_append_left (by simpa using hi),List.getElem?_map] at e1'
  cases en:X.N[i]? with
  | none=>
   rw [en] at e1'
   cases e1'
  | some n=>
   rw [en] at e1'
   have ey:hide own n=y:=Option.some.inj e1'
   have vis:∃ k,(relabel scope X.env).names.lookup y=some k/\(k=.local\/k=.cell\/k=.free):=by
    rcases e3 with z | z | z
    ·exact ⟨_,z,.inl rfl⟩
    ·exact ⟨_,z,.inr (.inl rfl)⟩
    ·exact ⟨_,z,.inr (.inr rfl)⟩
   obtain ⟨k,lk,kk⟩:=vis
   obtain ⟨nd,loc,_⟩:=To hb lk
   unfold hide at ey
   by_cases ho:(own.contains n||n == (".0" : Str))=true
   ·rw [if_pos ho] at ey
    exact absurd ey.symm nd
   ·rw [if_neg ho] at ey
    subst ey
    have kk':k=.cell\/k=.free:=by
     rcases kk with z | z
     ·exfalso
      apply ho
      rcases loc z with t | t
      ·rw [t]; rfl
      ·subst t; simp
     ·exact z
    obtain ⟨ok,c,hc⟩:=WM hb hcell lk kk'
    obtain ⟨m,hn,hl⟩:=I.loc
    obtain ⟨u,r,l⟩:=hl i n v en e2' (.inr ok)
    refine ⟨u,r,.inr ⟨?_,c,hc,?_⟩⟩
    ·rcases kk' with z | z
     ·subst z; exact .inl lk
     ·subst z; exact .inr lk
    ·rcases l with ⟨z,_⟩ | ⟨_,c',hc',z⟩
     ·rcases ok with t | t<;>(rw [t] at z; cases z)
     ·rw [hcap.get hc] at hc'
      cases hc'
      obtain ⟨o,ho',hd'⟩:=z
      exact ⟨o,keep _ _ ho',hd'⟩
 ·obtain ⟨v,o,ho,hd'⟩:=I.cell x c (hcap.get h)
  exact ⟨v,o,keep _ _ ho,hd'⟩
 ·rcases List.mem_append.mp hp with z | z
  ·obtain ⟨e,n,ne,nf,d⟩:=I.pin p z
   refine ⟨keep _ _ e,n,Nat.ne_of_lt (Nat.lt_of_lt_of_le (Heap.lt_size e) hC),fun hz=>?_,d⟩
   rcases List.mem_cons.mp (I.stkSub p.1 hz) with t | t
   ·exact ne t
   ·exact nf t
  ·have e:p=(D,dobj):=by simpa using z
   subst e
   exact ⟨hd,I.hok.fresh hD,hDC,nfs D hD,hdd⟩
 ·show (σ++List.replicate own.length none).length=(X.N.map (hide own)++own).length
  rw [List.length_append,List.length_append,List.length_replicate,List.length_map,I.len]
end
end L2
namespace L2
open PySem PySem.Spec PyProof.Rows
noncomputable def jH (X:Cx) (ifs:List Expr) (tc:TT):Prop:=
 ∀ (pins:List (Addr×Obj)) (s:Shared) (σ:St) (H:Hp) (Q:Bool->Hp->Prop),zC X pins σ H s->tc σ H Q->
  wpAny (model X.prog X.w) X.A (forIn ifs true fun c r=>if r=true then do let ok <- isTrue c X.env (eval c X.env); pure (ForInStep.yield ok) else pure (ForInStep.yield r)) (TP X pins σ Q) X.xe s
noncomputable def KD:TT:=fun _ H Q=>Q true H
theorem ER {X:Cx}:jH X [] KD:=fun _ _ _ H _ I h=>wpAny_tests_nil ⟨H,I,h⟩
theorem ES {X:Cx} {c:Expr} {t:TT} (h:PT X c t):jH X [c] t:=fun pins s σ H Q I q=>wpAny_tests_one (h pins s σ H Q I q)
section
variable {prog:Program} {w:World} {A:Around} {R:Result->Shared->Prop} {s:Shared}
theorem DA {elt tg iter:Expr} {ifs:List Expr} {scope:Scope} {pos:Pos} {it acc:Value} {env:Env} (J:Nat->Shared->Prop)
  (turn:∀ n s,J n s->wpAny (model prog w) A (pyNext it) (fun r s₁=>match r with
   | none=>R (.ok .next) s₁
   | some v=>wpAny (model prog w) A (letOwnedTupleGo tg it v) (fun _ z=>wpAny (model prog w) A (assign tg env v) (fun _ s₂=>
    wpAny (model prog w) A (forIn ifs true fun c r=>if r=true then do let ok <- isTrue c env (eval c env); pure (ForInStep.yield ok) else pure (ForInStep.yield r)) (fun ok s₃=>
     if ok=true then wpAny (model prog w) A (eval elt env) (fun x s₄=>wpAny (model prog w) A (call (.builtin "list.append") [acc,x]) (fun _ s₅=>∃ m,m<n/\J m s₅) (fun _ _=>False) s₄) (fun _ _=>False) s₃
     else ∃ m,m<n/\J m s₃) (fun _ _=>False) s₂) (fun _ _=>False) z) (fun _ _=>False) s₁) (fun _ _=>False) s)
  (n:Nat) (h:J n s):codeAny (model prog w) A (.compLoop (.ListComp elt [⟨tg,iter,ifs,0⟩] scope pos) 0 it acc env) R s:=by
 have no:∀ {P:Value->Shared->Prop},∀ e s',(fun _ _=>False:Value->Shared->Prop) e s'->P e s':=fun _ _ z=>z.elim
 refine codeAny_loop rfl J (fun n s hI=>?_) n h
 show wpAny _ A (Sem.onRaise (compTurn (.ListComp elt [⟨tg,iter,ifs,0⟩] scope pos) 0 it acc env) (fun x=>do noteFrame x env; theTreesLotGoes x)) _ _ s
 refine wpAny_noted ?_
 rw [compTurn_list]
 refine wpAny_bind (wpAny_standAt (wpAny_bind (wpAny_mono (turn n s hI) (fun r s₁ h₁=>?_) no)))
 cases r with
 | none=>exact wpAny_pure h₁
 | some v=>
  refine wpAny_bind (wpAny_mono h₁ (fun _ z hz=>?_) no)
  refine wpAny_bind (wpAny_mono hz (fun _ s₂ h₂=>?_) no)
  refine wpAny_bind (wpAny_mono h₂ (fun ok s₃ h₃=>?_) no)
  cases ok with
  | false=>exact wpAny_pure ⟨rfl,h₃⟩
  | true=>
   refine wpAny_bind (wpAny_bind (wpAny_mono h₃ (fun x s₄ h₄=>?_) no))
   exact wpAny_bind (wpAny_mono h₄ (fun _ s₅ h₅=>wpAny_pure (wpAny_pure ⟨rfl,h₅⟩)) no)
end
noncomputable abbrev xl (its:List Value) (k:Nat):Obj:={ cls:=.type "list",data:=.seq its.toArray k }
theorem JB {its:List Value} {k:Nat}:∀ v,(xl its k).data≠.cell v:=fun _ z=>nomatch z
section
variable {X:Cx} {σ:St} {H:Hp} {s:Shared} {D:Addr}
theorem Ba {pl:List (Addr×Obj)} {its its':List Value} {k k' tk:Nat} {h':Heap} (I:zC X ((D,xl its k)::pl) σ H s) (hD:X.s₀.heap.objs.size<=D) (hpn:∀ p∈X.pn,p.1≠D)
  (hs:Heap.SameBut D s.heap h') (hd:h'.get? D=some (xl its' k')):zC X [(D,xl its' k')] σ H { s with heap:=h',toks:=tk }:=by
 obtain ⟨e,n,ne,nf,d⟩:=I.pin (D,xl its k) (List.mem_append_right _ List.mem_cons_self)
 have I0:zC X [] σ H s:=I.pins_of fun p hp=>absurd hp (by simp)
 have I1:zC X [] σ H { s with heap:=h',toks:=tk }:=I0.turned (it:=D) (fun b o hb q=>(hs.2 b hb).trans q) n ne (.inr hD) (fun x c hc z=>by
  subst z
  obtain ⟨v,o,ho,hv⟩:=I.cell x c hc
  rw [show s.heap.get? c=some (xl its k) from e] at ho
  cases ho
  exact d v hv) (fun p hp=>hpn p (by simpa using hp))
 exact I1.pins_of fun p hp=>by
  have q:p=(D,xl its' k'):=by simpa using hp
  subst q
  exact ⟨hd,n,ne,nf,JB⟩
end
section
variable {X:Cx} {tg iter elt:Expr} {ifs:List Expr} {scope:Scope} {cl:List (Str×Addr)} {own:List Str} {pos:Pos} {te:TE} {tc:TT} {g:TG} {wi:TI}
theorem Ki {fs ex:List Addr} {H H':Hp} {h h':Heap} {D:Addr} {o:HO} (u:Un fs ex H H' h h') (hD:h.objs.size<=D) (hn:H' D=none):Un fs ex H (zR H' D o) h h' where
 keep:=u.keep
 slot:=u.slot
 free:=fun b ob q n hx=>by rw [z_ (fun z=>by subst z; exact absurd (Nat.lt_of_lt_of_le (Heap.lt_size q) hD) (Nat.lt_irrefl _))]; exact u.free b ob q n hx
 there:=u.there
 tups:=fun b xs q=>by rw [z_ (wu (u.tups b xs q) hn)]; exact u.tups b xs q
 frzs:=fun b ob v q=>by rw [z_ (wu (u.frzs b ob v q) hn)]; exact u.frzs b ob v q
 tbls:=fun b ps q=>by
  obtain ⟨more,z⟩:=u.tbls b ps q
  exact ⟨more,by rw [z_ (wu z hn)]; exact z⟩
theorem Qp {P:Program} {w:World} {H:Hp} {h:Heap} {D:Addr} {o:HO} (x:yd P w H h) (hn:H D=none) (new:yh P w (zR H D o) h D o):yd P w (zR H D o) h:=fun b u e=>by
 by_cases hb:b=D
 ·subst hb
  rw [yk] at e
  cases e
  exact new
 ·rw [z_ hb] at e
  refine (x b u e).stay (fun c v _ q=>q) (fun c q=>?_) (fun c xs q=>?_)
  ·rw [z_ (wu q hn)]; exact q
  ·rw [z_ (wu q hn)]; exact q
structure kl (X:Cx) (scope:Scope) (cl:List (Str×Addr)) (own:List Str):Prop where
 kind:scope.kind=.function
 cell:∀ y∈scope.names,y.2≠.cell
 cap:qD X.env cl
 ok:jL scope X.env cl own=true
 clos:closureFor scope X.env=pure cl
 names:∀ y∈scope.names,y.2=.local->scope.names.lookup y.1=some .local
structure XV (X:Cx) (pins:List (Addr×Obj)) (H:Hp) (s:Shared) (C:Addr):Prop where
 free:H C=none
 ne:C≠X.env.locals
 old:X.s₀.heap.objs.size<=C
 cell:∀ x c,X.env.cells.lookup x=some c->c≠C
 pin:∀ p∈X.pn++pins,p.1≠C
noncomputable def VD (σ:St) (n:Nat) (J:It) (g:TG) (tc:TT) (te:TE) (W:Nat->Nat->List V->Hp->Prop) (Fin:List V->Hp->Prop):Prop:=
 ∀ i m ys H,W i m ys H->(J.stop i H/\Fin ys H)\/(J.go i H/\ys.length<sizeLine/\∃ N:List V->Hp->Prop,(∀ ys' H',N ys' H'->∃ m',m'<m/\W (i+1) m' ys' H')/\
  ∀ x H',J.yld i H x H'->g x (σ++List.replicate n none) H' fun σ2 H3=>(∃ τ,σ2=σ++τ)/\tc σ2 H3 fun c H4=>if c=true then te σ2 H4 fun y H5=>N (ys++[y]) H5 else N ys H4)
theorem L4 {pins:List (Addr×Obj)} {σ:St} {H2:Hp} {s2:Shared} {fp:List Addr} {it:Addr} {tn:Nat->Heap->Prop} {J:It} {W:Nat->Nat->List V->Hp->Prop} {Fin:List V->Hp->Prop} {m0:Nat}
  {RR:Value->Addr->Result->Shared->Prop} (hcalm:X.calm=true) (B:kl X scope cl own) (I:zC X pins σ H2 s2) (T:qO X.prog X.w X.K tg J fp it tn) (t0:tn 0 s2.heap) (hfp:∀ b∈fp,vY X pins H2 b)
  (hg:∀ C s H fp pn,PG (xr X scope cl own C s H fp pn) tg g) (hc:∀ C s H fp pn,jH (xr X scope cl own C s H fp pn) ifs tc) (he:∀ C s H fp pn,PE (xr X scope cl own C s H fp pn) elt te)
  (W0:W 0 m0 [] H2) (turn:VD σ own.length J g tc te W Fin)
  (hRR:∀ D C s' H' ys m',zC X pins σ (zR H' D (.lst ys)) s'->H' D=none->Fin ys H'->s'.heap.Ns C m'->XV X pins (zR H' D (.lst ys)) s' C->RR (.ref D) C (.ok .next) s') {E:Value->Shared->Prop} :
  wpAny (model X.prog X.w) X.A (newList []) (fun acc s3=>wpAny (model X.prog X.w) X.A (newFunctionEnv scope X.env.globals cl [] X.env.qual none .none (some X.env)) (fun cenv s4=>
   codeAny (model X.prog X.w) X.A (.compStart (.ListComp elt [⟨tg,iter,ifs,0⟩] scope pos) 0 (.ref it) acc { cenv with scope:=relabel scope X.env }) (RR acc cenv.locals) s4) E s3) E s2:=by
 refine wpAny_newObj_type (wpAny_newFunctionEnv B.cell (by intro y hy; simp at hy) (fun h4 hns hsb=>?_) B.kind)
 dsimp only at hns hsb ⊢
 generalize hP:s2.heap.push (xl [] 0)=P2 at hns hsb ⊢
 have hC:P2.objs.size=s2.heap.objs.size+1:=by rw [<- hP,Heap.size_push]
 have hDC:s2.heap.objs.size≠P2.objs.size:=by rw [hC]; exact Nat.ne_of_lt (Nat.lt_succ_self _)
 have hCle:s2.heap.objs.size<=P2.objs.size:=by rw [hC]; exact Nat.le_succ _
 have keep:∀ b o,s2.heap.get? b=some o->h4.get? b=some o:=fun b o e=>
  hsb.extBut b o (Nat.ne_of_lt (Nat.lt_of_lt_of_le (Heap.lt_size e) hCle)) (Heap.get?_push_of_some _ (hP ▸ Heap.get?_push_of_some _ e))
 have hd4:h4.get? s2.heap.objs.size=some (xl [] 0):=hsb.extBut _ _ hDC (Heap.get?_push_of_some _ (hP ▸ Heap.get?_push_size _ rfl))
 have hfo:∀ b∈fp,∃ o,s2.heap.get? b=some o:=fun b hb=>let ⟨o,e,_⟩:=T.obj 0 _ t0 b hb; ⟨o,e⟩
 have lt:∀ b∈fp,b<s2.heap.objs.size:=fun b hb=>let ⟨o,e⟩:=hfo b hb; Heap.lt_size e
 generalize hDD:s2.heap.objs.size=D at hDC hd4 ⊢
 generalize hCC:P2.objs.size=C at hDC hns hsb hCle ⊢
 have hDle:s2.heap.objs.size<=D:=Nat.le_of_eq hDD
 let X':=xr X scope cl own C s2 H2 fp (X.pn++pins)
 have hpn:∀ p∈X'.pn,p.1≠D:=fun p hp z=>by
  obtain ⟨e,_⟩:=I.pin p hp
  rw [z] at e
  exact absurd (Nat.lt_of_lt_of_le (Heap.lt_size e) hDle) (Nat.lt_irrefl _)
 have okb:=Tp I B.kind B.cell B.cap B.ok hCle hfp hfo
 have fpok:∀ {k:Nat} {its:List Value} {H':Hp},(∀ b∈fp,H' b=none)->∀ b∈fp,vY X' [(D,xl its k)] H' b:=fun {k its H'} hn b hb=>
  ⟨hn b hb,(okb.exf b hb).1,okb.exfs b hb,.inl hb,(okb.exf b hb).2,fun p hp=>by
   rcases List.mem_append.mp hp with z | z
   ·exact (hfp b hb).2.2.2.2.2 p z
   ·have q:p=(D,xl its k):=by simpa using z
    subst q
    exact fun z=>absurd (lt b hb) (by rw [<- z]; exact Nat.not_lt.mpr hDle)⟩
 have loop:∀ s4:Shared,s4={ s2 with heap:=h4,toks:=s2.toks+([]:List (Str×Value)).length }->
   codeAny (model X.prog X.w) X.A (.compLoop (.ListComp elt [⟨tg,iter,ifs,0⟩] scope pos) 0 (.ref it) (.ref D) (compEnvC scope cl C X.env)) (RR (.ref D) C) s4:=by
  rintro s4 rfl
  refine DA (fun n s'=>∃ (i:Nat) (ys:List V) (its:List Value) (k:Nat) (H':Hp),zC X' [(D,xl its k)] (σ++List.replicate own.length none) H' s'/\zZ ys its/\tn i s'.heap/\(∀ b∈fp,H' b=none)/\W i n ys H'/\ys.length<=sizeLine) ?_ m0
   ⟨0,[],[],0,H2,L5 I B.kind B.cell B.cap B.ok hCle hDle hDC hfp hfo keep hns hd4 JB,.nil,T.keep _ _ _ t0 fun b _ o e=>keep b o e,fun b hb=>(hfp b hb).1,W0,Nat.zero_le _⟩
  rintro n s5 ⟨i,ys,its,k,H5,I5,v5,st5,fr5,w5,z5⟩
  rcases turn i n ys H5 w5 with ⟨stop,fin⟩ | ⟨go,room,N,hN,step⟩
  ·refine wpAny_mono (T.done X' rfl rfl rfl hcalm i _ s5 _ H5 (fun _ _=>False) I5 (fpok fr5) st5 stop) (fun r s6 ⟨hr,I6⟩=>?_) fun _ _ z=>z
   subst hr
   obtain ⟨e6,n6,ne6,nf6,d6⟩:=I6.pin (D,xl its k) (List.mem_append_right _ List.mem_cons_self)
   obtain ⟨m6,ns6,_⟩:=I6.loc
   have u6:Un (vR X.stack) fp H2 (zR H5 D (.lst ys)) s2.heap s6.heap:=Ki I6.base hDle n6
   have new6:yh X.prog X.w (zR H5 D (.lst ys)) s6.heap D (.lst ys):=⟨z5,its,k,v5,e6⟩
   have I7:zC X pins σ (zR H5 D (.lst ys)) s6:=I.call' I6.os u6 (Qp I6.hok n6 new6) I6.bare (fun b hb=>⟨(hfp b hb).2.2.2.1,(hfp b hb).2.1,(hfp b hb).2.2.2.2.1,(hfp b hb).2.2.2.2.2⟩)
   refine hRR D C s6 H5 ys m6 I7 n6 fin ns6 ⟨?_,?_,?_,fun x c hcx z=>?_,fun p hp z=>?_⟩
   ·rw [z_ (Ne.symm hDC)]; exact I6.free
   ·exact fun z=>absurd I.lt (by rw [<- z]; exact Nat.not_lt.mpr hCle)
   ·exact Nat.le_trans I.sz hCle
   ·subst z
    obtain ⟨v,o,ho,_⟩:=I.cell x c hcx
    exact absurd (Nat.lt_of_lt_of_le (Heap.lt_size ho) hCle) (Nat.lt_irrefl _)
   ·obtain ⟨e,_⟩:=I.pin p hp
    rw [z] at e
    exact absurd (Nat.lt_of_lt_of_le (Heap.lt_size e) hCle) (Nat.lt_irrefl _)
  ·refine wpAny_mono (T.item X' rfl rfl rfl hcalm i _ s5 _ H5 (fun _ _=>False) I5 (fpok fr5) st5 go) (fun r s6 ⟨u,hr,h6⟩=>?_) fun _ _ z=>z
   subst hr
   refine wpAny_mono h6 (fun _ s7 ⟨x,H7,I7,r7,y7,st7,fr7⟩=>?_) fun _ _ z=>z
   have I7':=I7.pinned (fpok fr7) (T.obj _ _ st7)
   refine wpAny_mono (hg C s2 H2 fp _ _ s7 _ H7 x u _ I7' r7 (step x H7 y7)) (fun _ s8 ⟨σ8,H8,I8,⟨τ,hτ⟩,q8⟩=>?_) fun _ _ z=>z
   subst hτ
   have back:∀ {n':Nat} {ys':List V} {its':List Value} {k':Nat} {H9:Hp} {s9:Shared} {pl:List (Addr×Obj)},zC X' ((D,xl its' k')::pl) (σ++τ) H9 s9->zZ ys' its'->tn (i+1) s9.heap->(∀ b∈fp,H9 b=none)->W (i+1) n' ys' H9->ys'.length<=sizeLine->
     ∃ (i:Nat) (ys:List V) (its:List Value) (k:Nat) (H':Hp),zC X' [(D,xl its k)] (σ++List.replicate own.length none) H' s9/\zZ ys its/\tn i s9.heap/\(∀ b∈fp,H' b=none)/\W i n' ys H'/\ys.length<=sizeLine:=fun {n' ys' its' k' H9 s9 pl} I9 v9 st9 fr9 w9 z9=>by
    have I9':zC X' [(D,xl its' k')] (σ++τ) H9 s9:=I9.pins_of fun p hp=>I9.pin p (List.mem_append_right _ (by
     have q:p=(D,xl its' k'):=by simpa using hp
     subst q
     exact List.mem_cons_self))
    refine ⟨i+1,ys',its',k',H9,I9'.weak ?_ (fun j v e=>?_),v9,st9,fr9,w9,z9⟩
    ·rw [I9'.len,<- I5.len]
    ·have e':=ZU e
     rw [List.getElem?_append_left (List.getElem?_eq_some_iff.mp e').1]
     exact e'
   have keepIt:∀ {σ9:St} {H9:Hp} {s9:Shared},zC X' ([(D,xl its k)]++kD fp s7.heap) σ9 H9 s9->tn (i+1) s9.heap/\∀ b∈fp,H9 b=none:=fun {σ9 H9 s9} I9=>
    ⟨T.keep _ _ _ st7 fun b hb o e=>(I9.pin (b,o) (List.mem_append_right _ (List.mem_append_right _ (Zm hb e)))).1,fun b hb=>by
     obtain ⟨o,e,_⟩:=T.obj _ _ st7 b hb
     exact (I9.pin (b,o) (List.mem_append_right _ (List.mem_append_right _ (Zm hb e)))).2.1⟩
   refine wpAny_mono (hc C s2 H2 fp _ _ s8 _ H8 _ I8 q8) (fun c s9 ⟨H9,I9,q9⟩=>?_) fun _ _ z=>z
   cases c with
   | false=>
    rw [if_neg Bool.false_ne_true] at q9 ⊢
    obtain ⟨m',hm,w9⟩:=hN _ _ q9
    exact ⟨m',hm,back I9 v5 (keepIt I9).1 (keepIt I9).2 w9 z5⟩
   | true=>
    rw [if_pos rfl] at q9 ⊢
    refine wpAny_mono (he C s2 H2 fp _ _ s9 _ H9 _ I9 q9) (fun yv sa ⟨y,Ha,Ia,ra,qa⟩=>?_) fun _ _ z=>z
    obtain ⟨m',hm,wa⟩:=hN _ _ qa
    obtain ⟨ea,na,_⟩:=Ia.pin (D,xl its k) (List.mem_append_right _ (List.mem_append_left _ List.mem_cons_self))
    have szi:its.toArray.size<=sizeLine:=by
     have:=v5.length
     simp only [List.size_toArray]
     omega
    refine wpAny_list_append_plain (hsz:=szi) ⟨k,ea⟩ fun hb hlb hsb'=>?_
    obtain ⟨kb,eb⟩:=hlb
    have eb':hb.get? D=some (xl (its++[yv]) kb):=by rw [eb]; simp
    have Ib:zC X' [(D,xl (its++[yv]) kb)] (σ++τ) Ha { sa with heap:=hb,toks:=sa.toks }:=Ba (tk:=sa.toks) Ia hDle hpn hsb' eb'
    have stb:tn (i+1) hb:=T.keep _ _ _ (keepIt Ia).1 fun b hbf o e=>(hsb'.2 b (fun z=>absurd (lt b hbf) (by rw [z]; exact Nat.not_lt.mpr hDle))).trans e
    exact ⟨m',hm,back Ib (zZ.append v5 (.cons ra .nil)) stb (keepIt Ia).2 wa (by rw [List.length_append]; exact room)⟩
 exact codeAny_compStart_list (loop _ rfl) (T.self X.A 0 _ _ _ (T.keep _ _ _ t0 fun b _ o e=>keep b o e) (loop _ rfl))
noncomputable def Ht (n:Nat) (wi:TI) (g:TG) (tc:TT) (te:TE):TE:=fun σ H Q=>wi σ H fun J H1=>∃ W:Nat->Nat->List V->Hp->Prop,(∃ m,W 0 m [] H1)/\
 VD σ n J g tc te W fun ys H'=>∀ p,H' p=none->Q (.ref p) (zR H' p (.lst ys))
theorem XV.inv {pins:List (Addr×Obj)} {σ:St} {H:Hp} {s:Shared} {C:Addr} {h':Heap} (o:XV X pins H s C) (I:zC X pins σ H s) (hs:Heap.SameBut C s.heap h'):zC X pins σ H { s with heap:=h' }:=
 I.turned (it:=C) (t':=s.toks) (fun b u hb q=>(hs.2 b hb).trans q) o.free o.ne (.inr o.old) o.cell o.pin
theorem Co (hcalm:X.calm=true) (B:kl X scope cl own) (hi:PI X tg iter wi) (hg:∀ C s H fp pn,PG (xr X scope cl own C s H fp pn) tg g) (hc:∀ C s H fp pn,jH (xr X scope cl own C s H fp pn) ifs tc)
  (he:∀ C s H fp pn,PE (xr X scope cl own C s H fp pn) elt te) (hs:∀ x,foldedSetIterable iter X.env x=pure x:=by intro _; rfl) :
  PE X (.ListComp elt [⟨tg,iter,ifs,0⟩] scope pos) (Ht own.length wi g tc te):=by
 intro pins s σ H Q I h
 rw [eval_ListComp]
 refine wpAny_comprehension_free (use:=none) rfl hs B.clos B.kind B.names (zd (hi pins s σ H _ I h) fun v s1 h1=>zd h1 fun itv s2 h2=>?_)
 obtain ⟨it,fp,tn,J,H2,e,I2,T,st2,f2,W,⟨m0,w0⟩,turn⟩:=h2
 subst e
 refine L4 (RR:=fun acc C=>compPost (model X.prog X.w) X.A X.xe none (EP X pins σ Q) acc C) hcalm B I2 T st2 f2 hg hc he w0 turn ?_
 intro D C s' H' ys m' I' n' fin ns' off
 exact ⟨m',ns',fun h' hs'=>⟨.ref D,zR H' D (.lst ys),off.inv I' hs',rfl,fin D n'⟩⟩
end
end L2
namespace L2
open PySem PySem.Spec PyProof.Rows
structure QE (X:Cx) (e:Expr) (t:TE):Prop where
 h:PE X e t
structure QA (X:Cx) (es:List Expr) (t:TA):Prop where
 h:PA X es t
structure QS (X:Cx) (st:Stmt) (t:TS):Prop where
 h:PS X st t
structure QG (X:Cx) (e:Expr) (t:TG):Prop where
 h:PG X e t
structure Z3 (X:Cx) (es:List Expr) (t:uZ):Prop where
 h:gR X es t
structure QI (X:Cx) (tg e:Expr) (t:TI):Prop where
 h:PI X tg e t
section
variable {X:Cx} {x y:Str} {p pos pos' apos cpos p2:Pos} {e a b c o tg iter elt:Expr} {es za:List Expr} {te ta tb tc to:TE} {t:TA} {tA tB':TT} {r r':R2} {v:V} {T id:String} {ps:List Str} {j k i:Nat} {sp:Sp}
theorem qv (i:Nat) {x:Str} {pos:Pos} (hN:X.N[i]?=some x:=by rfl) (hv:qQ X.env.scope x:=by first | exact Or.inl rfl | exact Or.inr (Or.inl rfl) | exact Or.inr (Or.inr rfl)) (hd:(x == ("__debug__" : Str))=false:=by decide)
  (hcd:(x == ("__classdict__" : Str))=false:=by decide):QE X (.Name x pos) (YF i):=⟨kC hN hv hd hcd⟩
theorem Ee (h:yL X.mg x v) (hg:Gl X x) (hd:(x == ("__debug__" : Str))=false:=by decide):QE X (.Name x pos) (tC v):=⟨Zq h hg hd⟩
theorem Ec (hg:Gl X x) (hm:X.mg x=none) (hv:bootBuiltins x=some (.type T)) (hn:x ≠ "__name__" := by decide) (hd:(x == ("__debug__" : Str))=false:=by decide):QE X (.Name x pos) (tC (.ty T)):=⟨Ca hg hm hv hn hd⟩
noncomputable def VZ:Expr->Bool
 | .Name ..=>true
 | .Call ..=>true
 | .Subscript ..=>true
 | .Attribute ..=>true
 | .Constant ..=>true
 | .List ..=>true
 | .Tuple ..=>true
 | .BinOp ..=>true
 | _=>false
theorem Je {e:Expr} {env:Env} (h:VZ e=true):∀ whole,isTrue e env whole=(do let v <- whole; standAt e.pos; holding [v] (truthy v)):=by
 cases e<;>first | (intro _; rfl) | cases h
theorem Eb:QA X [] px:=⟨kB⟩
theorem J_ (ha:QE X e te) (hr:QA X es t) (h:yH e=true:=by rfl):QA X (e::es) (Uw te t):=⟨qg ha.h hr.h h⟩
noncomputable def kE:Expr->Bool
 | .Name ..=>true
 | .Constant ..=>true
 | .BinOp ..=>true
 | .Call ..=>true
 | .UnaryOp ..=>true
 | .Subscript ..=>true
 | .Attribute ..=>true
 | _=>false
theorem Jd {b:Expr} (h:kE b=true):TR b:=by
 cases b<;>first | (intro _ _; rfl) | cases h
theorem Vd {r:List V->Hp->VK->Prop} (hc:xX X (.builtin id) r) (hg:Gl X x) (hm:X.mg x=none) (hv:bootBuiltins x=some (.builtin id)) (ha:QA X (e::es) t) (hn:x ≠ "__name__" := by decide) (hdb:(x == ("__debug__" : Str))=false:=by decide)
  (he:(e::es).all yH=true:=by rfl):QE X (.Call (.Name x p) (e::es) [] pos) (YA r t):=by
 rw [List.all_cons,Bool.and_eq_true] at he
 exact ⟨Ce hc hg hm hv ha.h hn hdb (wP he.1) (t7 he.2)⟩
theorem Zv {r:List V->Hp->VK->Prop} (hc:xX X (.type T) r) (hg:Gl X x) (hm:X.mg x=none) (hv:bootBuiltins x=some (.type T)) (ha:QA X (e::es) t) (hn:x ≠ "__name__" := by decide) (hdb:(x == ("__debug__" : Str))=false:=by decide)
  (he:(e::es).all yH=true:=by rfl):QE X (.Call (.Name x p) (e::es) [] pos) (YA r t):=by
 rw [List.all_cons,Bool.and_eq_true] at he
 exact ⟨Cg hc hg hm hv ha.h hn hdb (wP he.1) (t7 he.2)⟩
variable {st:Stmt} {sts body:List Stmt} {ts us tbs:TS} {g:TG} {wi:TI}
noncomputable def jf:Expr->Bool
 | .ListComp ..=>false
 | .SetComp ..=>false
 | .DictComp ..=>false
 | _=>true
theorem JL {e:Expr} {tgt:Option Expr} {n:Nat} {env:Env} (h:jf e=true):swapsWith e tgt n env=pure false:=by
 cases e<;>first | rfl | cases h
theorem Eh (he:QE X e te) (hs:jf e=true:=by rfl):QS X (.Expr e pos) (O0 te):=⟨Ji he.h (JL hs)⟩
theorem Vg {i:Nat} {x:Str} {pos':Pos} (hN:X.N.Nodup) (hi:X.N[i]?=some x) (hx:vZ X.env.scope x) (he:QE X e te) (hs:jf e=true:=by rfl) (hf:X.fn x=true\/X.env.scope.names.lookup x=some .local:=by first | exact .inl rfl | exact .inr rfl | assumption) :
  QS X (.Assign [.Name x pos'] e pos) (Uv te (wW i)):=⟨EM hN hi hx he.h (JL hs) hf⟩
theorem xv {i:Nat} {x:Str} (hN:X.N.Nodup) (hi:X.N[i]?=some x) (hx:vZ X.env.scope x) (hf:X.fn x=true\/X.env.scope.names.lookup x=some .local:=by first | exact .inl rfl | exact .inr rfl | assumption):QG X (.Name x pos) (wW i):=⟨Cy hN hi hx hf⟩
theorem Ef {o i:Expr} {to ti:TE} {t:Z7} (ho:QE X o to) (hi:QE X i ti) (hs:XX X t) (hp:kE i=true:=by rfl):QG X (.Subscript o i pos) (QZ to ti t):=by
 refine ⟨Cz ho.h hi.h hs ?_⟩
 cases i<;>first | (intro _; rfl) | cases hp
theorem Vf:Z3 X [] jT:=⟨E5⟩
theorem jm {t:TG} {u:uZ} (h1:QG X e t) (h2:Z3 X es u) (hs:(assignEach (e::es) X.env).map (·.2)=assign e X.env::(assignEach es X.env).map (·.2):=by rfl):Z3 X (e::es) (uf t u):=⟨E4 h1.h h2.h hs⟩
theorem Ve {k:Nat} {t:uZ} {n:Nat} (hc:X.calm=true) (h:Z3 X es t) (hn:(assignEach es X.env).length=n:=by rfl) (hst:(assignEach es X.env).findIdx? (·.1)=none:=by rfl):QG X (.Tuple es k pos) (jU X.K n t):=⟨C_ hc h.h hn hst⟩
variable {ifs:List Expr} {scope:Scope} {cl:List (Str×Addr)} {own:List Str} {tcc:TT}
variable {name:Str} {rm:V->List V->Hp->VK->Prop}
theorem Iu {env:Env} {pos:Pos}:∀ {es:List Expr},es.all yH=true->(backTo pos (starEach es env)).all (fun x=>!x.1)=true
 | [],_=>rfl
 | e::es,h=>by
  rw [List.all_cons,Bool.and_eq_true] at h
  rw [wP h.1]
  have ih:=Iu (env:=env) (pos:=pos) h.2
  unfold backTo at ih ⊢
  rw [List.map_cons,List.all_cons,ih]
  rfl
theorem IA (pa:PlainAttrs T) (slot:Slot T name id) (hty:typeOf (.builtin id)=pure (.type "method_descriptor")) (hm:XU X id rm) (ho:QE X o to) (ha:QA X (e::es) t)
  (hbase:attributeBase o name X.env (eval o X.env)=eval o X.env:=by rfl) (hline:(apos.endLine == cpos.line)=true:=by rfl) (he:(e::es).all yH=true:=by rfl) (hl:(e::es).length<30:=by decide) :
  QE X (.Call (.Attribute o name apos) (e::es) [] cpos) (I_ X.K T rm to t):=⟨by
 have ha':=Iu (env:=X.env) (pos:=cpos) he
 rw [List.all_cons,Bool.and_eq_true] at he
 refine CZ pa slot hty hm ho.h ha.h hbase ?_ hline (wP he.1) (t7 he.2)
 rw [ha']
 show (true&&true&&decide ((e::es).length+0+0<30))=true
 rw [decide_eq_true (show (e::es).length+0+0<30 from hl)]
 rfl⟩
end
end L2
namespace L2
open PySem PySem.Spec PyProof.Rows
noncomputable def TU (K:PySem.W.Frag) (H:Hp) (a c:Addr) (xs ys:List V):Prop:=(yM K H a xs/\yM K H c ys)\/(yC K H a xs/\yC K H c ys)
section
variable {X:Cx} {pins:List (Addr×Obj)} {σ:St} {H:Hp} {s:Shared}
theorem Ey {A:Around} {a c:Addr} {xs ys:List V} {e:Nat->Bool} (I:zC X pins σ H s) (hu:A.units<cLine) (hq:TU X.K H a c xs ys)
  (he:∀ (j:Nat) x' y' u v,xs[j]?=some x'->ys[j]?=some y'->zY x' u->zY y' v->SeqAt.EqAt A.in1 s u v (e j)) :
  SeqAt.RcAt A s (.ref a) (.ref c) ((List.range (min xs.length ys.length)).all e&&xs.length == ys.length)/\SeqAt.RcNeAt A s (.ref a) (.ref c) (!((List.range (min xs.length ys.length)).all e&&xs.length == ys.length)):=by
 have get:∀ {zs:List V} {us:List Value} {j:Nat} (hj:j<us.toArray.size),zZ zs us->∃ z,zs[j]?=some z/\zY z us.toArray[j]:=fun {zs us j} hj r=>by
  have hl:=r.length
  have hj':j<zs.length:=by
   rw [List.size_toArray] at hj
   omega
  obtain ⟨u,hu',ru⟩:=r.get (List.getElem?_eq_getElem hj')
  refine ⟨_,List.getElem?_eq_getElem hj',?_⟩
  have:us.toArray[j]=u:=by
   have h2:us[j]?=some us[j]:=List.getElem?_eq_getElem (by omega)
   rw [h2] at hu'
   simpa using hu'
  rw [this]
  exact ru
 rcases hq with ⟨ha,hc⟩ | ⟨ha,hc⟩
 ·obtain ⟨us,ra,pa,_⟩:=I.tuple ha
  obtain ⟨vs,rc,pc,_⟩:=I.tuple hc
  have h1:=ra.length
  have h2:=rc.length
  have key:∀ j (k1:j<us.toArray.size) (k2:j<vs.toArray.size),SeqAt.EqAt A.in1 s us.toArray[j] vs.toArray[j] (e j):=fun j k1 k2=>by
   obtain ⟨z1,e1,r1⟩:=get k1 ra
   obtain ⟨z2,e2,r2⟩:=get k2 rc
   exact he j z1 z2 _ _ e1 e2 r1 r2
  have p:=SeqAt.RcAt.tuples (e:=e) pa pc hu key
  have q:=SeqAt.RcNeAt.tuples (e:=e) pa pc hu key
  rw [List.size_toArray,List.size_toArray,<- h1,<- h2] at p q
  exact ⟨p,q⟩
 ·obtain ⟨us,ra,pa,_⟩:=I.list ha
  obtain ⟨vs,rc,pc,_⟩:=I.list hc
  have h1:=ra.length
  have h2:=rc.length
  have key:∀ j (k1:j<us.toArray.size) (k2:j<vs.toArray.size),SeqAt.EqAt A.in1 s us.toArray[j] vs.toArray[j] (e j):=fun j k1 k2=>by
   obtain ⟨z1,e1,r1⟩:=get k1 ra
   obtain ⟨z2,e2,r2⟩:=get k2 rc
   exact he j z1 z2 _ _ e1 e2 r1 r2
  by_cases hl:xs.length=ys.length
  ·have hs:us.toArray.size=vs.toArray.size:=by rw [List.size_toArray,List.size_toArray]; omega
   have p:=SeqAt.RcAt.lists (e:=e) pa.isList pc.isList hs hu key
   have q:=SeqAt.RcNeAt.lists (e:=e) pa.isList pc.isList hs hu key
   have e1:min xs.length ys.length=us.toArray.size:=by rw [List.size_toArray]; omega
   have e2:(xs.length == ys.length)=true:=by simp [hl]
   rw [e1,e2,Bool.and_true]
   exact ⟨p,q⟩
  ·have hs:(us.toArray.size != vs.toArray.size)=true:=by
    rw [List.size_toArray,List.size_toArray]
    simp
    omega
   have e2:(xs.length == ys.length)=false:=by simp [hl]
   rw [e2,Bool.and_false]
   exact ⟨SeqAt.RcAt.lists_lengths pa.isList pc.isList hs hu,SeqAt.RcNeAt.lists_lengths pa.isList pc.isList hs hu⟩
theorem ZX (A:Around):A.in1.units=A.units+1:=rfl
end
theorem MB {x:V} (h:vQ x=true):wl x x=true:=by
 cases x<;>first | rfl | (simp [wl]; done) | cases h
end L2
namespace L2
open PySem PySem.Spec PyProof.Rows
open PySem.W (hideAll)
end L2
namespace L2
open PySem PySem.Spec PyProof.Rows
section
variable {X:Cx} {pins:List (Addr×Obj)} {σ:St} {H H':Hp} {s:Shared} {a C:Addr}
noncomputable def OQ (a C:Addr) (h:Heap):Prop:=∃ o vs,h.get? a=some o/\o.cls=.ref C/\o.data=.fields vs
theorem Kj {fs ex:List Addr} {H H':Hp} {h h':Heap} {D:Addr} {o:HO} (u:Un fs ex H H' h h') (hD:h.get? D=none) (hn:H' D=none):Un fs ex H (zR H' D o) h h' where
 keep:=u.keep
 slot:=u.slot
 free:=fun b ob q n hx=>by rw [z_ (fun z=>by subst z; rw [hD] at q; cases q)]; exact u.free b ob q n hx
 there:=u.there
 tups:=fun b xs q=>by rw [z_ (wu (u.tups b xs q) hn)]; exact u.tups b xs q
 frzs:=fun b ob v q=>by rw [z_ (wu (u.frzs b ob v q) hn)]; exact u.frzs b ob v q
 tbls:=fun b ps q=>by
  obtain ⟨more,z⟩:=u.tbls b ps q
  exact ⟨more,by rw [z_ (wu z hn)]; exact z⟩
end
end L2
namespace L2
open PySem PySem.Spec PyProof.Rows
end L2
namespace L2
open PySem PySem.Spec PyProof.Rows
end L2
namespace L2
open PySem PySem.Spec PyProof.Rows
open PySem.W (Looks findIn mroIn looks_findIn looks_mroIn clsIn)
end L2
namespace L2
open PySem PySem.Spec PyProof.Rows
section
variable {X:Cx}
theorem OC {ns:List Int} {its:List Value} (r:zZ (ns.map V.int) its) {i:Nat} {v:Value} (h:its.toArray[i]?=some v):∃ t,v=.int (ns.getD i 0) t:=by
 have hi:i<its.length:=by
  rw [List.getElem?_toArray] at h
  exact (List.getElem?_eq_some_iff.mp h).1
 have hl:ns.length=its.length:=by have:=r.length; rw [List.length_map] at this; exact this
 have hx:(ns.map V.int)[i]?=some (.int (ns.getD i 0)):=by
  rw [List.getElem?_map,List.getD_eq_getElem?_getD,List.getElem?_eq_getElem (by omega)]
  rfl
 obtain ⟨u,hu,ru⟩:=r.get hx
 rw [List.getElem?_toArray,hu] at h
 cases h
 exact ru
theorem Va {ns:List Int}:∀ (k:Nat),k<=ns.length->preSum (fun i=>ns.getD i 0) k=(ns.take k).sum
 | 0,_=>by simp [preSum]
 | k+1,h=>by
  rw [preSum,Va k (by omega),List.take_succ_eq_append_getElem (by omega),List.sum_append,List.getD_eq_getElem?_getD,List.getElem?_eq_getElem (by omega)]
  show _+ns[k]=_+(ns[k]+0)
  rw [Int.add_zero]
noncomputable def TV (ns:List Int):Prop:=(∀ n∈ns,InLong n)/\∀ k,k<=ns.length->InLong (ns.take k).sum
noncomputable def IM (K:PySem.W.Frag):List V->Hp->VK->Prop:=fun xs H Q=>∃ (p:Addr) (ns:List Int),xs=[.ref p]/\(yC K H p (ns.map V.int)\/yM K H p (ns.map V.int))/\TV ns/\Q (.int ns.sum) H
theorem Ix {ns:List Int} (h:TV ns):∀ j,j<ns.length->InLong (ns.getD j 0)/\InLong (preSum (fun i=>ns.getD i 0) (j+1)):=fun j hj=>by
 refine ⟨h.1 _ ?_,?_⟩
 ·rw [List.getD_eq_getElem?_getD,List.getElem?_eq_getElem hj]
  exact List.getElem_mem hj
 ·rw [Va _ (by omega)]
  exact h.2 _ (by omega)
theorem LT (hc:X.calm=true):xX X (.builtin "sum") (IM X.K):=by
 intro pins s σ H xs us Q I r h
 obtain ⟨p,ns,rfl,hq,hok,q⟩:=h
 obtain ⟨u,rfl,rx⟩:=vy r
 cases rx
 have hd:=I.ok.hd hc
 have e:preSum (fun i=>ns.getD i 0) ns.length=ns.sum:=by rw [Va _ (Nat.le_refl _),List.take_length]
 refine call_sum_walk ?_
 rcases hq with hq | hq
 ·obtain ⟨its,rv,pl,hz⟩:=I.list hq
  have hl:ns.length=its.toArray.size:=by have:=rv.length; rw [List.length_map] at this; rw [List.size_toArray]; exact this
  have hlt:p<s.heap.objs.size:=by obtain ⟨o,n,e,_⟩:=pl; exact Heap.lt_size e
  refine wpAny_pyIter_list pl.isList ?_
  refine ⟨_,_,_,_,_,_,fun i=>ns.getD i 0,rfl,Walks.list (by exact hd) s.heap.objs.size p (Nat.ne_of_lt hlt) its.toArray,⟨⟨_,Heap.get?_push_size _ rfl,rfl,rfl⟩,pl.isList.push _⟩,?_,fun i v hv=>OC rv hv,?_,?_⟩
  ·intro b hb
   show b<(s.heap.push _).objs.size
   rw [Heap.size_push]
   simp only [List.mem_cons,List.not_mem_nil,or_false] at hb
   rcases hb with rfl | rfl
   ·exact Nat.lt_succ_self _
   ·exact Nat.lt_succ_of_lt hlt
  ·rw [<- hl]
   exact Ix hok
  ·intro h' tk t' k
   rw [<- hl,e]
   exact ⟨.int ns.sum,H,I.kept (t':=tk) fun b o eb=>k b o (fun z=>by
    have:b=s.heap.objs.size:=by simpa using z
    rw [this] at eb
    exact absurd (Heap.lt_size eb) (Nat.lt_irrefl _)) (Heap.get?_push_of_some _ eb),⟨_,rfl⟩,q⟩
 ·obtain ⟨its,rv,pl,hz⟩:=I.tuple hq
  have hl:ns.length=its.toArray.size:=by have:=rv.length; rw [List.length_map] at this; rw [List.size_toArray]; exact this
  have plT:s.heap.IsTuple p its.toArray:=pl
  have hlt:p<s.heap.objs.size:=by obtain ⟨o,e,_⟩:=plT; exact Heap.lt_size e
  refine wpAny_pyIter_tuple plT ?_
  refine ⟨_,_,_,_,_,_,fun i=>ns.getD i 0,rfl,Walks.tuple (by exact hd) s.heap.objs.size p (Nat.ne_of_lt hlt) its.toArray,⟨⟨_,Heap.get?_push_size _ rfl,rfl,rfl⟩,plT.push _⟩,?_,fun i v hv=>OC rv hv,?_,?_⟩
  ·intro b hb
   show b<(s.heap.push _).objs.size
   rw [Heap.size_push]
   simp only [List.mem_cons,List.not_mem_nil,or_false] at hb
   rcases hb with rfl | rfl
   ·exact Nat.lt_succ_self _
   ·exact Nat.lt_succ_of_lt hlt
  ·rw [<- hl]
   exact Ix hok
  ·intro h' tk t' k
   rw [<- hl,e]
   exact ⟨.int ns.sum,H,I.kept (t':=tk) fun b o eb=>k b o (fun z=>by
    have:b=s.heap.objs.size:=by simpa using z
    rw [this] at eb
    exact absurd (Heap.lt_size eb) (Nat.lt_irrefl _)) (Heap.get?_push_of_some _ eb),⟨_,rfl⟩,q⟩
theorem Kn {bs:List Bool} {its:List Value} (r:zZ (bs.map V.bl) its) {i:Nat} {v:Value} (h:its.toArray[i]?=some v):v=.bool (bs.getD i false):=by
 have hi:i<its.length:=by
  rw [List.getElem?_toArray] at h
  exact (List.getElem?_eq_some_iff.mp h).1
 have hl:bs.length=its.length:=by have:=r.length; rw [List.length_map] at this; exact this
 have hx:(bs.map V.bl)[i]?=some (.bl (bs.getD i false)):=by
  rw [List.getElem?_map,List.getD_eq_getElem?_getD,List.getElem?_eq_getElem (by omega)]
  rfl
 obtain ⟨u,hu,ru⟩:=r.get hx
 rw [List.getElem?_toArray,hu] at h
 cases h
 exact ru
theorem Ew {bs:List Bool}:(List.range bs.length).all (fun i=>bs.getD i false)=bs.all id:=by
 rw [Bool.eq_iff_iff,List.all_eq_true,List.all_eq_true]
 constructor
 ·intro h b hb
  obtain ⟨i,hi,rfl⟩:=List.mem_iff_getElem.mp hb
  have:=h i (List.mem_range.mpr hi)
  rwa [List.getD_eq_getElem?_getD,List.getElem?_eq_getElem hi] at this
 ·intro h i hi
  have hi':=List.mem_range.mp hi
  rw [List.getD_eq_getElem?_getD,List.getElem?_eq_getElem hi']
  exact h _ (List.getElem_mem hi')
noncomputable def IC (K:PySem.W.Frag):List V->Hp->VK->Prop:=fun xs H Q=>∃ (p:Addr) (bs:List Bool),xs=[.ref p]/\yC K H p (bs.map V.bl)/\Q (.bl (bs.all id)) H
theorem LJ (hc:X.calm=true):xX X (.builtin "all") (IC X.K):=by
 intro pins s σ H xs us Q I r h
 obtain ⟨p,bs,rfl,hq,q⟩:=h
 obtain ⟨u,rfl,rx⟩:=vy r
 cases rx
 have hd:=I.ok.hd hc
 refine call_all_walk ?_
 obtain ⟨its,rv,pl,hz⟩:=I.list hq
 have hl:bs.length=its.toArray.size:=by have:=rv.length; rw [List.length_map] at this; rw [List.size_toArray]; exact this
 have hlt:p<s.heap.objs.size:=by obtain ⟨o,n,e,_⟩:=pl; exact Heap.lt_size e
 refine wpAny_pyIter_list pl.isList ?_
 refine ⟨_,_,_,_,_,_,fun i=>bs.getD i false,rfl,Walks.list (by exact hd) s.heap.objs.size p (Nat.ne_of_lt hlt) its.toArray,⟨⟨_,Heap.get?_push_size _ rfl,rfl,rfl⟩,pl.isList.push _⟩,?_,?_⟩
 ·intro i v Q' E' s' hv h'
  rw [Kn rv hv]
  exact wpAny_pure h'
 ·intro h' tk k
  rw [<- hl,Ew]
  exact ⟨.bl (bs.all id),H,I.kept (t':=tk) fun b o eb=>k b o (fun z=>by
   have:b=s.heap.objs.size:=by simpa using z
   rw [this] at eb
   exact absurd (Heap.lt_size eb) (Nat.lt_irrefl _)) (Heap.get?_push_of_some _ eb),rfl,q⟩
end
end L2
namespace L2
open PySem PySem.Spec PyProof.Rows
open Builtin.SmallTypes (nextOf)
structure pJ (P:Program) (w:World) (it l:Addr) (st:Nat->Heap->Prop) (n:Nat) (val:Nat->Value):Prop where
 keep:∀ i h h',st i h->(∀ b o,(b=it\/b=l)->h.get? b=some o->h'.get? b=some o)->st i h'
 item:∀ {A:Around} {Q:Value->Shared->Prop} {E:Value->Shared->Prop} {s:Shared} (i:Nat),st i s.heap->i<n->(∀ h',st (i+1) h'->Heap.SameBut it s.heap h'->Q (val i) { s with heap:=h' })->wpAny (model P w) A (nextOf (.ref it)) Q E s
 done:∀ {A:Around} {Q:Value->Shared->Prop} {E:Value->Shared->Prop} {s:Shared} (i:Nat),A.handled=none->st i s.heap->n<=i->
  (∀ h' e,Heap.ExtBut it s.heap h'->(∃ o,h'.get? e=some o/\o.cls=.type "StopIteration")->E (.ref e) { s with heap:=h' })->wpAny (model P w) A (nextOf (.ref it)) Q E s
section
variable {prog:Program} {w:World} {A:Around} {E:Value->Shared->Prop} {s:Shared}
theorem Do {it t:Addr} {i:Nat} {items} {x:Value} {Q:Value->Shared->Prop} (hit:s.heap.IsTupleIter it t i) (ht:s.heap.IsTuple t items) (hx:items[i]?=some x)
  (hQ:∀ h',h'.IsTupleIter it t (i+1)->Heap.SameBut it s.heap h'->Q x { s with heap:=h' }):wpAny (model prog w) A (nextOf (.ref it)) Q E s:=by
 obtain ⟨o,ho,hc,hd⟩:=id hit
 obtain ⟨ol,hol,_,nl,hdl⟩:=ht
 unfold nextOf
 refine wpAny_bind (wpAny_callSpecial?_slot (name:=Str.ofString "__next__") hit.typeIs F.slot_tuple_iterator_next
  (wpAny_call_entry F.slot_tuple_iterator_next hit.typeIs F.entry_tuple_iterator_next ?_ (F.args_tuple_iterator_next_1 _)))
 refine wpAny_bind (m:=field (.ref it) 0) (wpAny_field ho hd (x:=.ref t) rfl ?_)
 show wpAny _ _ (if (Value.ref t == Value.none)=true then _ else _) _ _ s
 rw [if_neg (show ¬ ((Value.ref t == Value.none)=true) from Bool.false_ne_true)]
 refine wpAny_bind (m:=field (.ref it) 1) (wpAny_field ho hd (x:=.int i 0) rfl ?_)
 refine wpAny_bind (m:=seqItems? (.ref t)) (wpAny_seqItems hol hdl ?_)
 simp only [Int.toNat_natCast,hx]
 refine wpAny_bind (wpAny_setField ho hd (by simp) (wpAny_pure ⟨x,rfl,wpAny_pure (hQ _ ?_ (Heap.SameBut.update ..))⟩))
 exact ⟨_,Heap.get?_update_self _ ho (Obj.isFreed_of_fields (Obj.data_mapFields hd _)),(Obj.cls_mapFields ..).trans hc,by
  rw [Obj.data_mapFields hd]; simp [rawInt]⟩
theorem Dn {it t:Addr} {i:Nat} {items} {Q:Value->Shared->Prop} (hh:A.handled=none) (hit:s.heap.IsTupleIter it t i) (ht:s.heap.IsTuple t items) (hx:items[i]?=none)
  (hE:∀ h' e,Heap.ExtBut it s.heap h'->(∃ o,h'.get? e=some o/\o.cls=.type "StopIteration")->E (.ref e) { s with heap:=h' }):wpAny (model prog w) A (nextOf (.ref it)) Q E s:=by
 obtain ⟨o,ho,hc,hd⟩:=id hit
 obtain ⟨ol,hol,_,nl,hdl⟩:=ht
 unfold nextOf
 refine wpAny_bind (wpAny_callSpecial?_slot (name:=Str.ofString "__next__") hit.typeIs F.slot_tuple_iterator_next
  (wpAny_call_entry F.slot_tuple_iterator_next hit.typeIs F.entry_tuple_iterator_next ?_ (F.args_tuple_iterator_next_1 _)))
 refine wpAny_bind (m:=field (.ref it) 0) (wpAny_field ho hd (x:=.ref t) rfl ?_)
 show wpAny _ _ (if (Value.ref t == Value.none)=true then _ else _) _ _ s
 rw [if_neg (show ¬ ((Value.ref t == Value.none)=true) from Bool.false_ne_true)]
 refine wpAny_bind (m:=field (.ref it) 1) (wpAny_field ho hd (x:=.int i 0) rfl ?_)
 refine wpAny_bind (m:=seqItems? (.ref t)) (wpAny_seqItems hol hdl ?_)
 simp only [Int.toNat_natCast,hx]
 refine wpAny_bind (wpAny_rule (wpAny_bind (wpAny_setField ho hd (by simp) ?_)))
 refine wpAny_bind (m:=newExc (.type "StopIteration") []) ?_
 simp only [newExc,newTuple]
 refine wpAny_bind (wpAny_newObj_type ?_ (by size_fits))
 refine wpAny_bind (m:=firstArgMember _ _) (wpAny_of_eq (a:=Value.none) (by first | rfl | (simp only [firstArgMember]; rfl)) ?_)
 refine wpAny_newObj_type ?_ (by size_fits)
 simp only [raiseNew]
 refine wpAny_bind (wpAny_handled ?_)
 first | rw [show A.in1.handled=none from hh] | rw [hh]
 refine wpAny_bind (wpAny_pure (wpAny_throw ?_))
 exact hE _ _ (((Heap.SameBut.update ..).extBut.push _).push _) ⟨_,Heap.get?_push_size _ rfl,rfl⟩
theorem HW {it l:Addr} (hne:l≠it) (items:Array Value):pJ prog w it l (fun i h=>h.IsListIter it l i/\h.IsList l items) items.size (fun i=>items.getD i .none) where
 keep:=fun i h h' st k=>⟨st.1.at fun o e=>k it o (.inl rfl) e,st.2.at fun o e=>k l o (.inr rfl) e⟩
 item:=fun i st hi hQ=>wpAny_nextOf_list_item st.1 st.2 (x:=items.getD i .none) (by simp [Array.getD,hi]) fun h' st' sb=>hQ h' ⟨st',st.2.extBut sb.extBut hne⟩ sb
 done:=fun i hh st hi hE=>wpAny_nextOf_list_end hh st.1 st.2 (Array.getElem?_eq_none hi) hE
theorem HX {it l:Addr} (hne:l≠it) (items:Array Value):pJ prog w it l (fun i h=>h.IsTupleIter it l i/\h.IsTuple l items) items.size (fun i=>items.getD i .none) where
 keep:=fun i h h' st k=>⟨st.1.at fun o e=>k it o (.inl rfl) e,st.2.at fun o e=>k l o (.inr rfl) e⟩
 item:=fun i st hi hQ=>Do st.1 st.2 (x:=items.getD i .none) (by simp [Array.getD,hi]) fun h' st' sb=>hQ h' ⟨st',st.2.extBut sb.extBut hne⟩ sb
 done:=fun i hh st hi hE=>Dn hh st.1 st.2 (Array.getElem?_eq_none hi) hE
variable {z TI TO i1 i2 l1 l2:Addr} {st1 st2:Nat->Heap->Prop} {n1 n2:Nat} {v1 v2:Nat->Value} {a b:Value} {k:Nat}
theorem Kw {Q:Value->Shared->Prop} (D:ZipApart z TI TO i1 i2 l1 l2) (S1:pJ prog w i1 l1 st1 n1 v1) (S2:pJ prog w i2 l2 st2 n2 v2)
  (hz:IsZip s.heap z TI TO .none) (hTI:IsPair s.heap TI (.ref i1) (.ref i2)) (hTO:IsPair s.heap TO a b) (h1:st1 k s.heap) (h2:st2 k s.heap) (k1:k<n1) (k2:k<n2)
  (hi1:i1<s.heap.objs.size) (hi2:i2<s.heap.objs.size) (hl1:l1<s.heap.objs.size) (hl2:l2<s.heap.objs.size)
  (hQ:∀ h',IsZip h' z TI TO (rawInt s.heap.objs.size)->IsPair h' TO (v1 k) (v2 k)->st1 (k+1) h'->st2 (k+1) h'->IsPair h' s.heap.objs.size (v1 k) (v2 k)->
   (∀ c o,c≠z->c≠TO->c≠i1->c≠i2->s.heap.get? c=some o->h'.get? c=some o)->Q (.ref s.heap.objs.size) { s with heap:=h' }) :
  wpAny (model prog w) A (Builtin.«zip.__next__» ⟨[.ref z],[]⟩) (fun fin s'=>∃ v,fin=.done (.ret v)/\Q v s') E s:=by
 refine wpAny_bind (m:=field (.ref z) 2) (wpAny_field hz rfl (x:=.bool false) rfl ?_)
 refine wpAny_bind (m:=field (.ref z) 3) (wpAny_field hz rfl (x:=.ref TI) rfl ?_)
 refine wpAny_bind (wpAny_seqItems hTI rfl ?_)
 refine wpAny_bind (m:=Builtin.SmallTypes.ownedTupleIsFree (.ref z)) ?_
 unfold Builtin.SmallTypes.ownedTupleIsFree
 refine wpAny_bind (wpAny_field hz rfl (x:=.none) rfl (wpAny_pure ?_))
 simp only [if_true]
 refine wpAny_bind (wpAny_rule (wpAny_bind (wpAny_field hz rfl (x:=.ref TO) rfl ?_)))
 refine wpAny_bind (wpAny_setField_rec hz (by simp) fun ha hza sa=>?_)
 replace hza:IsZip ha z TI TO .ellipsis:=hza
 refine wpAny_bind ?_
 simp only [List.zipIdx_cons,List.zipIdx_nil,List.forIn_cons,List.forIn_nil]
 have h1a:st1 k ha:=S1.keep k _ _ h1 fun c o hc e=>sa.extBut c o (by rcases hc with rfl | rfl; exact D.i1z; exact D.l1z) e
 refine wpAny_bind (wpAny_bind (wpAny_onRaise (wpAny_bind (m:=nextOf (.ref i1)) (S1.item k h1a k1 fun hb h1b sb=>wpAny_pure ?_))))
 have hTOb:IsPair hb TO a b:=sb.extBut _ _ D.TOi1 (sa.extBut _ _ D.TOz hTO)
 refine wpAny_bind (wpAny_seqItems hTOb rfl (wpAny_bind (wpAny_updateSeq_pair hTOb fun hc hTOc sc=>?_)))
 replace hTOc:IsPair hc TO (v1 k) b:=hTOc
 refine wpAny_bind (wpAny_letGo (wpAny_pure ?_))
 have h2c:st2 k hc:=S2.keep k _ _ h2 fun c o hcc e=>by
  rcases hcc with rfl | rfl
  ·exact sc.extBut _ _ D.TOi2.symm (sb.extBut _ _ D.i12.symm (sa.extBut _ _ D.i2z e))
  ·exact sc.extBut _ _ D.l2TO (sb.extBut _ _ D.l2i1 (sa.extBut _ _ D.l2z e))
 refine wpAny_bind (wpAny_bind (wpAny_onRaise (wpAny_bind (m:=nextOf (.ref i2)) (S2.item k h2c k2 fun hd h2d sd=>wpAny_pure ?_))))
 have hTOd:IsPair hd TO (v1 k) b:=sd.extBut _ _ D.TOi2 hTOc
 refine wpAny_bind (wpAny_seqItems hTOd rfl (wpAny_bind (wpAny_updateSeq_pair hTOd fun he hTOe se=>?_)))
 replace hTOe:IsPair he TO (v1 k) (v2 k):=hTOe
 refine wpAny_bind (wpAny_letGo (wpAny_pure (wpAny_pure ?_)))
 refine wpAny_bind (wpAny_seqItems hTOe rfl (wpAny_bind (wpAny_newTuple ?_)))
 have hsz:he.objs.size=s.heap.objs.size:=by rw [se.1,sd.1,sc.1,sb.1,sa.1]
 have hze:IsZip he z TI TO .ellipsis:=se.extBut _ _ D.TOz.symm (sd.extBut _ _ D.i2z.symm (sc.extBut _ _ D.TOz.symm (sb.extBut _ _ D.i1z.symm hza)))
 have hke:∀ c o,c≠z->c≠TO->c≠i1->c≠i2->s.heap.get? c=some o->he.get? c=some o:=fun c o c1 c2 c3 c4 e=>
  se.extBut _ _ c2 (sd.extBut _ _ c4 (sc.extBut _ _ c2 (sb.extBut _ _ c3 (sa.extBut _ _ c1 e))))
 have h1e:st1 (k+1) he:=S1.keep _ _ _ h1b fun c o hcc e=>by
  rcases hcc with rfl | rfl
  ·exact se.extBut _ _ D.TOi1.symm (sd.extBut _ _ D.i12 (sc.extBut _ _ D.TOi1.symm e))
  ·exact se.extBut _ _ D.l1TO (sd.extBut _ _ D.l1i2 (sc.extBut _ _ D.l1TO e))
 have h2e:st2 (k+1) he:=S2.keep _ _ _ h2d fun c o hcc e=>by
  rcases hcc with rfl | rfl
  ·exact se.extBut _ _ D.TOi2.symm e
  ·exact se.extBut _ _ D.l2TO e
 have hzlt:z<he.objs.size:=Heap.lt_size hze
 refine wpAny_bind (m:=Builtin.SmallTypes.ownedTupleHandOut (.ref z) (.ref he.objs.size)) ?_
 unfold Builtin.SmallTypes.ownedTupleHandOut
 have hzf:IsZip (he.push { cls:=.type "tuple",data:=.seq #[v1 k,v2 k] }) z TI TO .ellipsis:=Heap.get?_push_of_some _ hze
 refine wpAny_bind (wpAny_setField_rec hzf (by simp) fun hg hzg sg=>?_)
 replace hzg:IsZip hg z TI TO (rawInt he.objs.size):=hzg
 refine wpAny_setField_rec hzg (by simp) fun hh hzh sh=>?_
 replace hzh:IsZip hh z TI TO (rawInt he.objs.size):=hzh
 have up:∀ c o,c≠z->he.get? c=some o->hh.get? c=some o:=fun c o c1 e=>sh.extBut _ _ c1 (sg.extBut _ _ c1 (Heap.get?_push_of_some _ e))
 have hT:IsPair hh he.objs.size (v1 k) (v2 k):=sh.extBut _ _ (Nat.ne_of_gt hzlt) (sg.extBut _ _ (Nat.ne_of_gt hzlt) (Heap.get?_push_size _ rfl))
 rw [hsz] at hzh hT
 refine wpAny_pure ⟨_,rfl,?_⟩
 show Q (.ref he.objs.size) _
 rw [hsz]
 refine hQ hh hzh (up _ _ D.TOz hTOe) (S1.keep _ _ _ h1e fun c o hcc e=>up c o ?_ e) (S2.keep _ _ _ h2e fun c o hcc e=>up c o ?_ e) hT fun c o c1 c2 c3 c4 e=>up c o c1 (hke c o c1 c2 c3 c4 e)
 ·rcases hcc with rfl | rfl
  ·exact D.i1z
  ·exact D.l1z
 ·rcases hcc with rfl | rfl
  ·exact D.i2z
  ·exact D.l2z
theorem Kv {Q:Fin->Shared->Prop} (hh:A.handled=none) (D:ZipApart z TI TO i1 i2 l1 l2) (S1:pJ prog w i1 l1 st1 n1 v1) (S2:pJ prog w i2 l2 st2 n2 v2)
  (hz:IsZip s.heap z TI TO .none) (hTI:IsPair s.heap TI (.ref i1) (.ref i2)) (hTO:IsPair s.heap TO a b) (h1:st1 k s.heap) (h2:st2 k s.heap) (hend:n1<=k\/n2<=k)
  (hE:∀ h' e,(∀ c o,c≠z->c≠TO->c≠i1->c≠i2->s.heap.get? c=some o->h'.get? c=some o)->(∃ o,h'.get? e=some o/\o.cls=.type "StopIteration")->E (.ref e) { s with heap:=h' }) :
  wpAny (model prog w) A (Builtin.«zip.__next__» ⟨[.ref z],[]⟩) Q E s:=by
 refine wpAny_bind (m:=field (.ref z) 2) (wpAny_field hz rfl (x:=.bool false) rfl ?_)
 refine wpAny_bind (m:=field (.ref z) 3) (wpAny_field hz rfl (x:=.ref TI) rfl ?_)
 refine wpAny_bind (wpAny_seqItems hTI rfl ?_)
 refine wpAny_bind (m:=Builtin.SmallTypes.ownedTupleIsFree (.ref z)) ?_
 unfold Builtin.SmallTypes.ownedTupleIsFree
 refine wpAny_bind (wpAny_field hz rfl (x:=.none) rfl (wpAny_pure ?_))
 simp only [if_true]
 refine wpAny_bind (wpAny_rule (wpAny_bind (wpAny_field hz rfl (x:=.ref TO) rfl ?_)))
 refine wpAny_bind (wpAny_setField_rec hz (by simp) fun ha hza sa=>?_)
 replace hza:IsZip ha z TI TO .ellipsis:=hza
 refine wpAny_bind ?_
 simp only [List.zipIdx_cons,List.zipIdx_nil,List.forIn_cons,List.forIn_nil]
 have h1a:st1 k ha:=S1.keep k _ _ h1 fun c o hc e=>sa.extBut c o (by rcases hc with rfl | rfl; exact D.i1z; exact D.l1z) e
 by_cases k1:k<n1
 ·have k2:n2<=k:=by omega
  refine wpAny_bind (wpAny_bind (wpAny_onRaise (wpAny_bind (m:=nextOf (.ref i1)) (S1.item k h1a k1 fun hb h1b sb=>wpAny_pure ?_))))
  have hTOb:IsPair hb TO a b:=sb.extBut _ _ D.TOi1 (sa.extBut _ _ D.TOz hTO)
  refine wpAny_bind (wpAny_seqItems hTOb rfl (wpAny_bind (wpAny_updateSeq_pair hTOb fun hc hTOc sc=>?_)))
  refine wpAny_bind (wpAny_letGo (wpAny_pure ?_))
  have h2c:st2 k hc:=S2.keep k _ _ h2 fun c o hcc e=>by
   rcases hcc with rfl | rfl
   ·exact sc.extBut _ _ D.TOi2.symm (sb.extBut _ _ D.i12.symm (sa.extBut _ _ D.i2z e))
   ·exact sc.extBut _ _ D.l2TO (sb.extBut _ _ D.l2i1 (sa.extBut _ _ D.l2z e))
  refine wpAny_bind (wpAny_bind (wpAny_onRaise (wpAny_bind (m:=nextOf (.ref i2)) (S2.done k hh h2c k2 fun hd e sd he=>?_))))
  obtain ⟨oe,hoe,hce⟩:=he
  have hzd:IsZip hd z TI TO .ellipsis:=sd _ _ D.i2z.symm (sc.extBut _ _ D.TOz.symm (sb.extBut _ _ D.i1z.symm hza))
  have hez:e≠z:=fun x=>by subst x; rw [hzd] at hoe; cases hoe; simp at hce
  exact wpAny_setField_rec hzd (by simp) fun hf _ sf=>hE hf e (fun c o c1 c2 c3 c4 x=>sf.extBut _ _ c1 (sd _ _ c4 (sc.extBut _ _ c2 (sb.extBut _ _ c3 (sa.extBut _ _ c1 x))))) ⟨oe,sf.extBut _ _ hez hoe,hce⟩
 ·refine wpAny_bind (wpAny_bind (wpAny_onRaise (wpAny_bind (m:=nextOf (.ref i1)) (S1.done k hh h1a (by omega) fun hb e sb he=>?_))))
  obtain ⟨oe,hoe,hce⟩:=he
  have hzb:IsZip hb z TI TO .ellipsis:=sb _ _ D.i1z.symm hza
  have hez:e≠z:=fun x=>by subst x; rw [hzb] at hoe; cases hoe; simp at hce
  exact wpAny_setField_rec hzb (by simp) fun hf _ sf=>hE hf e (fun c o c1 _ c3 _ x=>sf.extBut _ _ c1 (sb _ _ c3 (sa.extBut _ _ c1 x))) ⟨oe,sf.extBut _ _ hez hoe,hce⟩
end
end L2
namespace L2
open PySem PySem.Spec PyProof.Rows
noncomputable def wT (K:PySem.W.Frag) (tp:Bool) (H:Hp) (a:Addr) (xs:List V):Prop:=match tp with
 | true=>yM K H a xs
 | false=>yC K H a xs
noncomputable def gl (tp:Bool):String:=match tp with
 | true => "tuple_iterator"
 | false => "list_iterator"
noncomputable def wf (tp:Bool) (h:Heap) (a:Addr) (its:Array Value):Prop:=match tp with
 | true=>h.IsTuple a its
 | false=>h.IsList a its
noncomputable def qK (tp:Bool) (h:Heap) (it l:Addr) (i:Nat):Prop:=∃ o,h.get? it=some o/\o.cls=.type (gl tp)/\o.data=.fields #[.ref l,.int i 0]
theorem qK.at {tp:Bool} {h h':Heap} {it l:Addr} {i:Nat} (x:qK tp h it l i) (e:∀ o,h.get? it=some o->h'.get? it=some o):qK tp h' it l i:=let ⟨o,ho,r⟩:=x; ⟨o,e _ ho,r⟩
theorem wf.push {tp:Bool} {h:Heap} {a:Addr} {its:Array Value} (x:wf tp h a its) (o:Obj):wf tp (h.push o) a its:=by
 cases tp
 ·exact Heap.IsList.push x o
 ·exact Heap.IsTuple.push x o
theorem wf.lt {tp:Bool} {h:Heap} {a:Addr} {its:Array Value} (x:wf tp h a its):a<h.objs.size:=by
 cases tp
 ·obtain ⟨o,e,_⟩:=x; exact Heap.lt_size e
 ·obtain ⟨o,e,_⟩:=x; exact Heap.lt_size e
section
variable {prog:Program} {w:World} {A:Around} {E:Value->Shared->Prop} {s:Shared}
theorem Y5 {tp:Bool} {it l:Addr} (hne:l≠it) (items:Array Value):pJ prog w it l (fun i h=>qK tp h it l i/\wf tp h l items) items.size (fun i=>items.getD i .none):=by
 cases tp
 ·exact HW hne items
 ·exact HX hne items
theorem Jz {tp:Bool} {l:Addr} {items:Array Value} {Q:Value->Shared->Prop} (h:wf tp s.heap l items)
  (hQ:Q (.ref s.heap.objs.size) { s with heap:=s.heap.push { cls:=.type (gl tp),data:=.fields #[.ref l,.int 0 0] } }):wpAny (model prog w) A (pyIter (.ref l)) Q E s:=by
 cases tp
 ·exact wpAny_pyIter_list (show s.heap.IsList l items from h) hQ
 ·exact wpAny_pyIter_tuple (show s.heap.IsTuple l items from h) hQ
noncomputable abbrev YN (t1:Bool) (h:Heap) (l1:Addr):Heap:=h.push { cls:=.type (gl t1),data:=.fields #[.ref l1,.int 0 0] }
noncomputable abbrev YO (t1 t2:Bool) (h:Heap) (l1 l2:Addr):Heap:=(YN t1 h l1).push { cls:=.type (gl t2),data:=.fields #[.ref l2,.int 0 0] }
noncomputable abbrev YQ (t1 t2:Bool) (h:Heap) (l1 l2:Addr):Heap:=(YO t1 t2 h l1 l2).push { cls:=.type "tuple",data:=.seq #[.ref h.objs.size,.ref (YN t1 h l1).objs.size] }
noncomputable abbrev YR (t1 t2:Bool) (h:Heap) (l1 l2:Addr):Heap:=(YQ t1 t2 h l1 l2).push { cls:=.type "tuple",data:=.seq #[.none,.none] }
noncomputable abbrev jv (t1 t2:Bool) (h:Heap) (l1 l2:Addr):Heap:=(YR t1 t2 h l1 l2).push { cls:=.type "zip",data:=.fields #[.none,.bool false,.bool false,.ref (YO t1 t2 h l1 l2).objs.size,.ref (YQ t1 t2 h l1 l2).objs.size] }
theorem Kz (t1 t2:Bool) (l1 l2:Addr) (xs ys:Array Value) :
  Meets (Builtin.«zip.__new__» ⟨[.type "zip",.ref l1,.ref l2],[]⟩) (fun _ R s=>wf t1 s.heap l1 xs/\wf t2 s.heap l2 ys/\R (.ok (.ret (.ref (YR t1 t2 s.heap l1 l2).objs.size))) { s with heap:=jv t1 t2 s.heap l1 l2 }):=
 .of_wp fun prog w A R s h=>by
  obtain ⟨hp,g,d,tk,os⟩:=s; obtain ⟨hl1,hl2,h⟩:=h
  have hsub:=sub_zip
  have hL1:wf t1 (Shared.heap ⟨hp,g,d,tk,os⟩) l1 xs:=hl1
  have hL2:wf t2 (Shared.heap ⟨hp.push { cls:=.type (gl t1),data:=.fields #[.ref l1,.int 0 0] },g,d,tk,os⟩) l2 ys:=wf.push hl2 _
  wp_walk using Jz hL1,Jz hL2
  exact ⟨_,rfl,h⟩
theorem LU {t1 t2:Bool} {l1 l2:Addr} {xs ys:Array Value} {Q:Value->Shared->Prop} (hl1:wf t1 s.heap l1 xs) (hl2:wf t2 s.heap l2 ys)
  (h:∀ h',IsZip h' (s.heap.objs.size+4) (s.heap.objs.size+2) (s.heap.objs.size+3) .none->IsPair h' (s.heap.objs.size+2) (.ref s.heap.objs.size) (.ref (s.heap.objs.size+1))->
   IsPair h' (s.heap.objs.size+3) .none .none->qK t1 h' s.heap.objs.size l1 0->qK t2 h' (s.heap.objs.size+1) l2 0->
   (∀ c o,s.heap.get? c=some o->h'.get? c=some o)->Q (.ref (s.heap.objs.size+4)) { s with heap:=h' }) :
  wpAny (model prog w) A (call (.type "zip") [.ref l1,.ref l2]) Q E s:=by
 refine callType_new F.called_zip (by decide) (F.typeCall_zip_2 _ _) (F.newCall_zip_2 _ _) (fun obj=>F.args_object_init_3 obj _ _) F.entry_zip_new (Kz t1 t2 l1 l2 xs ys) ⟨hl1,hl2,?_⟩
 have z1:(YN t1 s.heap l1).objs.size=s.heap.objs.size+1:=Heap.size_push ..
 have z2:(YO t1 t2 s.heap l1 l2).objs.size=s.heap.objs.size+2:=by rw [Heap.size_push,z1]
 have z3:(YQ t1 t2 s.heap l1 l2).objs.size=s.heap.objs.size+3:=by rw [Heap.size_push,z2]
 have z4:(YR t1 t2 s.heap l1 l2).objs.size=s.heap.objs.size+4:=by rw [Heap.size_push,z3]
 have g5:(jv t1 t2 s.heap l1 l2).get? (YR t1 t2 s.heap l1 l2).objs.size=some _:=Heap.get?_push_size _ rfl
 have g4:(jv t1 t2 s.heap l1 l2).get? (YQ t1 t2 s.heap l1 l2).objs.size=some _:=Heap.get?_push_of_some _ (Heap.get?_push_size _ rfl)
 have g3:(jv t1 t2 s.heap l1 l2).get? (YO t1 t2 s.heap l1 l2).objs.size=some _:=Heap.get?_push_of_some _ (Heap.get?_push_of_some _ (Heap.get?_push_size _ rfl))
 have g2:(jv t1 t2 s.heap l1 l2).get? (YN t1 s.heap l1).objs.size=some _:=Heap.get?_push_of_some _ (Heap.get?_push_of_some _ (Heap.get?_push_of_some _ (Heap.get?_push_size _ rfl)))
 have g1:(jv t1 t2 s.heap l1 l2).get? s.heap.objs.size=some _:=Heap.get?_push_of_some _ (Heap.get?_push_of_some _ (Heap.get?_push_of_some _ (Heap.get?_push_of_some _ (Heap.get?_push_size _ rfl))))
 show _/\_
 rw [z2,z3,z4] at g5
 rw [z1,z2] at g3
 rw [z3] at g4
 rw [z1] at g2
 rw [z4]
 exact ⟨⟨_,g5,rfl⟩,h _ g5 g3 g4 ⟨_,g1,rfl,rfl⟩ ⟨_,g2,rfl,rfl⟩ fun c o x=>
  Heap.get?_push_of_some _ (Heap.get?_push_of_some _ (Heap.get?_push_of_some _ (Heap.get?_push_of_some _ (Heap.get?_push_of_some _ x))))⟩
end
section
variable {X:Cx} {pins:List (Addr×Obj)} {σ:St} {H:Hp} {s:Shared}
theorem zC.seqX {tp:Bool} {a:Addr} {xs:List V} (I:zC X pins σ H s) (h:wT X.K tp H a xs):∃ its:List Value,zZ xs its/\wf tp s.heap a its.toArray:=by
 cases tp
 ·obtain ⟨its,r,p,_⟩:=I.list h
  exact ⟨its,r,p.isList⟩
 ·obtain ⟨its,r,p,_⟩:=I.tuple h
  exact ⟨its,r,p⟩
theorem zC.seqX_inj {tp:Bool} {a:Addr} {xs ys:List V} (I:zC X pins σ H s) (h:wT X.K tp H a xs) (h':wT X.K tp H a ys):xs=ys:=by
 cases tp
 ·exact I.list_inj h h'
 ·exact I.tuple_inj h h'
theorem O6 {fs ch:List Addr} {h h':Heap} (k:∀ b o,b ∉ ch->h.get? b=some o->h'.get? b=some o):Un fs ch H H h h':=
 ⟨fun b o e _ _ hx=>k b o hx e,fun b o e _ _ hx=>⟨o.slots,k b o hx e⟩,fun _ _ _ n _=>n,fun b o e hx=>⟨o,k b o hx e⟩,fun _ _ z=>z,fun _ _ _ z=>z,fun b ps e=>⟨#[],by rw [e]; simp⟩⟩
theorem Qo {P:Program} {w:World} {ch:List Addr} {h h':Heap} (x:yd P w H h) (hn:∀ b∈ch,H b=none) (k:∀ b o,b ∉ ch->h.get? b=some o->h'.get? b=some o):yd P w H h':=fun b u e=>by
 have nit:∀ c v,H c=some v->c ∉ ch:=fun c v e z=>by rw [hn c z] at e; cases e
 refine (x b u e).stay (fun c v hc q=>k c v ?_ q) (fun _ q=>q) fun _ _ q=>q
 rcases hc with z | z
 ·rw [z]; exact nit b u e
 ·exact nit c _ z
theorem zC.but {ch:List Addr} {h':Heap} {tk:Nat} (I:zC X pins σ H s) (hf:∀ b∈ch,vY X pins H b) (k:∀ b o,b ∉ ch->s.heap.get? b=some o->h'.get? b=some o):zC X pins σ H { s with heap:=h',toks:=tk }:=
 I.call' (s':={ s with heap:=h',toks:=tk }) rfl (O6 k) (Qo I.hok (fun b hb=>(hf b hb).1) k) I.bare fun b hb=>⟨(hf b hb).2.2.2.1,(hf b hb).2.1,(hf b hb).2.2.2.2.1,(hf b hb).2.2.2.2.2⟩
theorem zC.butNew {ch:List Addr} {h':Heap} {tk:Nat} {T:Addr} {o:HO} (I:zC X pins σ H s) (hf:∀ b∈ch,vY X pins H b) (k:∀ b o,b ∉ ch->s.heap.get? b=some o->h'.get? b=some o) (hT:s.heap.get? T=none) (hn:H T=none)
  (new:yh X.prog X.w (zR H T o) h' T o):zC X pins σ (zR H T o) { s with heap:=h',toks:=tk }:=
 I.call' (s':={ s with heap:=h',toks:=tk }) rfl (Kj (O6 k) hT hn) (Qp (Qo I.hok (fun b hb=>(hf b hb).1) k) hn new) I.bare fun b hb=>⟨(hf b hb).2.2.2.1,(hf b hb).2.1,(hf b hb).2.2.2.2.1,(hf b hb).2.2.2.2.2⟩
end
noncomputable def XS (K:PySem.W.Frag) (t1 t2:Bool) (a b:Addr):It:=
  ⟨fun i H=>∃ xs ys x y,wT K t1 H a xs/\wT K t2 H b ys/\xs[i]?=some x/\ys[i]?=some y,
   fun i H v H'=>∃ p,H p=none/\v=.ref p/\∀ xs ys,wT K t1 H a xs->wT K t2 H b ys->∃ x y,xs[i]?=some x/\ys[i]?=some y/\H'=zR H p (.tup [x,y]),
   fun i H=>∃ xs ys,wT K t1 H a xs/\wT K t2 H b ys/\(xs.length<=i\/ys.length<=i)⟩
theorem KU {P:Program} {w:World} {K:PySem.W.Frag} {elts:List Expr} {kk:Nat} {pos:Pos} (t1 t2:Bool) (a b z TI TO i1 i2:Addr) (D:ZipApart z TI TO i1 i2 a b) :
  qO P w K (.Tuple elts kk pos) (XS K t1 t2 a b) [z,TI,TO,i1,i2] z (fun i h=>IsZip h z TI TO .none/\IsPair h TI (.ref i1) (.ref i2)/\(∃ u v,IsPair h TO u v)/\qK t1 h i1 a i/\qK t2 h i2 b i) where
 mem:=by simp
 obj:=fun i h st c hc=>by
  obtain ⟨s1,s2,⟨u,v,s3⟩,⟨o4,s4,_,d4⟩,⟨o5,s5,_,d5⟩⟩:=st
  simp only [List.mem_cons,List.not_mem_nil,or_false] at hc
  rcases hc with rfl | rfl | rfl | rfl | rfl
  ·exact ⟨_,s1,fun v q=>nomatch q⟩
  ·exact ⟨_,s2,fun v q=>nomatch q⟩
  ·exact ⟨_,s3,fun v q=>nomatch q⟩
  ·exact ⟨_,s4,fun v q=>by rw [d4] at q; cases q⟩
  ·exact ⟨_,s5,fun v q=>by rw [d5] at q; cases q⟩
 keep:=fun i h h' st k=>by
  obtain ⟨s1,s2,⟨u,v,s3⟩,s4,s5⟩:=st
  exact ⟨k z (by simp) _ s1,k TI (by simp) _ s2,⟨u,v,k TO (by simp) _ s3⟩,s4.at fun o e=>k i1 (by simp) o e,s5.at fun o e=>k i2 (by simp) o e⟩
 item:=by
  intro X hP hw hK hc i pins s σ H E I hf st hg
  subst hP hw hK
  obtain ⟨s1,s2,⟨u,v,s3⟩,s4,s5⟩:=st
  obtain ⟨xs,ys,x,y,hx,hy,ex,ey⟩:=hg
  obtain ⟨us,ru,pu⟩:=I.seqX hx
  obtain ⟨ws,rw',pw⟩:=I.seqX hy
  obtain ⟨xu,hxu,rxu⟩:=ru.get ex
  obtain ⟨yw,hyw,ryw⟩:=rw'.get ey
  have k1:i<us.toArray.size:=by rw [List.size_toArray]; exact (List.getElem?_eq_some_iff.mp hxu).1
  have k2:i<ws.toArray.size:=by rw [List.size_toArray]; exact (List.getElem?_eq_some_iff.mp hyw).1
  have e1:us.toArray.getD i .none=xu:=by
   have:=List.getElem?_eq_some_iff.mp hxu
   obtain ⟨l,e⟩:=this
   simp [Array.getD,l,e]
  have e2:ws.toArray.getD i .none=yw:=by
   have:=List.getElem?_eq_some_iff.mp hyw
   obtain ⟨l,e⟩:=this
   simp [Array.getD,l,e]
  have hT:s.TypeIs (.ref z) "zip" := ⟨_,s1,rfl⟩
  have q4:i1<s.heap.objs.size:=by obtain ⟨o,e,_⟩:=s4; exact Heap.lt_size e
  have q5:i2<s.heap.objs.size:=by obtain ⟨o,e,_⟩:=s5; exact Heap.lt_size e
  unfold pyNext
  refine wpAny_bind (wpAny_attempt (wpAny_callSpecial?_slot (name:=Str.ofString "__next__") hT F.slot_zip_next (wpAny_call_entry F.slot_zip_next hT F.entry_zip_next
   (Kw D (Y5 D.l1i1 us.toArray) (Y5 D.l2i2 ws.toArray) s1 s2 s3 ⟨s4,pu⟩ ⟨s5,pw⟩ k1 k2 q4 q5 pu.lt pw.lt fun h' a1 a2 a3 a4 a5 a6=>wpAny_pure ?_) (F.args_zip_next_1 _))))
  rw [e1,e2] at a2 a5
  refine ⟨_,rfl,wpAny_letOwnedTupleGo_zip (s:={ s with heap:=h' }) a1 fun h'' b1 sb=>?_⟩
  have hTs:s.heap.get? s.heap.objs.size=none:=by
   cases q:s.heap.get? s.heap.objs.size with
   | none=>rfl
   | some o=>exact absurd (Heap.lt_size q) (Nat.lt_irrefl _)
  have hTf:H s.heap.objs.size=none:=I.hok.fresh (Nat.le_refl _)
  have hTz:s.heap.objs.size≠z:=Nat.ne_of_gt (Heap.lt_size s1)
  have tup:h''.get? s.heap.objs.size=some { cls:=.type "tuple",data:=.seq #[xu,yw] }:=sb.extBut _ _ hTz a5
  have kk:∀ c o,c ∉ [z,TI,TO,i1,i2]->s.heap.get? c=some o->h''.get? c=some o:=fun c o hc e=>by
   simp only [List.mem_cons,List.not_mem_nil,or_false,not_or] at hc
   exact sb.extBut _ _ hc.1 (a6 c o hc.1 hc.2.2.1 hc.2.2.2.1 hc.2.2.2.2 e)
  have new:yh X.prog X.w (zR H s.heap.objs.size (.tup [x,y])) h'' s.heap.objs.size (.tup [x,y]):=⟨(by show 2<=sizeLine; decide),[xu,yw],.cons rxu (.cons ryw .nil),⟨_,tup,rfl,_,rfl⟩⟩
  refine ⟨.ref s.heap.objs.size,zR H s.heap.objs.size (.tup [x,y]),I.butNew (tk:=s.toks) hf kk hTs hTf new,rfl,⟨s.heap.objs.size,hTf,rfl,fun xs' ys' hx' hy'=>?_⟩,⟨b1,?_,⟨_,_,sb.extBut _ _ D.TOz a2⟩,a3.1.at fun o e=>sb.extBut _ _ D.i1z e,a4.1.at fun o e=>sb.extBut _ _ D.i2z e⟩,fun c hc=>?_⟩
  ·rw [I.seqX_inj hx' hx,I.seqX_inj hy' hy]
   exact ⟨x,y,ex,ey,rfl⟩
  ·exact sb.extBut _ _ D.TIz (a6 _ _ D.TIz D.TITO D.TIi1 D.TIi2 s2)
  ·rw [z_]
   ·exact (hf c hc).1
   ·intro q
    have hlt:c<s.heap.objs.size:=by
     simp only [List.mem_cons,List.not_mem_nil,or_false] at hc
     rcases hc with rfl | rfl | rfl | rfl | rfl
     ·exact Heap.lt_size s1
     ·exact Heap.lt_size s2
     ·exact Heap.lt_size s3
     ·exact q4
     ·exact q5
    rw [q] at hlt
    exact absurd hlt (Nat.lt_irrefl _)
 done:=by
  intro X hP hw hK hc i pins s σ H E I hf st hg
  subst hP hw hK
  obtain ⟨s1,s2,⟨u,v,s3⟩,s4,s5⟩:=st
  obtain ⟨xs,ys,hx,hy,hend⟩:=hg
  obtain ⟨us,ru,pu⟩:=I.seqX hx
  obtain ⟨ws,rw',pw⟩:=I.seqX hy
  have hend':us.toArray.size<=i\/ws.toArray.size<=i:=by
   have l1:=ru.length
   have l2:=rw'.length
   rw [List.size_toArray,List.size_toArray]
   omega
  have hT:s.TypeIs (.ref z) "zip" := ⟨_,s1,rfl⟩
  unfold pyNext
  refine wpAny_bind (wpAny_attempt (wpAny_callSpecial?_slot (name:=Str.ofString "__next__") hT F.slot_zip_next (wpAny_call_entry F.slot_zip_next hT F.entry_zip_next
   (Kv (by exact I.ok.hd hc) D (Y5 D.l1i1 us.toArray) (Y5 D.l2i2 ws.toArray) s1 s2 s3 ⟨s4,pu⟩ ⟨s5,pw⟩ hend' fun h' e kk he=>?_) (F.args_zip_next_1 _))))
  obtain ⟨o,ho,hcl⟩:=he
  refine wpAny_bind (wpAny_isInstance (T := "StopIteration") (b:=true) ⟨o,ho,hcl⟩ isSubtype_stop ?_)
  refine wpAny_pure ⟨rfl,I.but (tk:=s.toks) hf fun c ob hcc eb=>?_⟩
  simp only [List.mem_cons,List.not_mem_nil,or_false,not_or] at hcc
  exact kk c ob hcc.1 hcc.2.2.1 hcc.2.2.2.1 hcc.2.2.2.2 eb
 self:=fun _ _ _ _ _ st h=>wpAny_pyIter_zip st.1 h
theorem yt {a b:Nat} (h:a≠b):@Ne Addr a b:=h
theorem Kx {n l1 l2:Nat} (h1:l1<n) (h2:l2<n):ZipApart (n+4) (n+2) (n+3) n (n+1) l1 l2:=
 ⟨yt (by omega),yt (by omega),yt (by omega),yt (by omega),yt (by omega),yt (by omega),yt (by omega),yt (by omega),yt (by omega),yt (by omega),yt (by omega),yt (by omega),yt (by omega),yt (by omega),yt (by omega),yt (by omega),yt (by omega),yt (by omega)⟩
theorem LA:bootBuiltins "zip" = some (.type "zip"):=by decide +kernel
section
variable {X:Cx}
noncomputable def Qq (K:PySem.W.Frag) (ta:TA):TI:=fun σ H R=>ta σ H fun vs H1=>∃ a b xs ys t1 t2,vs=[.ref a,.ref b]/\wT K t1 H1 a xs/\wT K t2 H1 b ys/\R (XS K t1 t2 a b) H1
theorem EB {a b:Expr} {ta:TA} {p pos:Pos} {elts:List Expr} {kk:Nat} {tp:Pos} (hg:Gl X "zip") (hm:X.mg "zip" = none) (ha:PA X [a,b] ta) (hs:starEach [a,b] X.env=[(false,eval a X.env),(false,eval b X.env)]:=by rfl)
  (hs2:starEach [b] X.env=[(false,eval b X.env)]:=by rfl):PI X (.Tuple elts kk tp) (.Call (.Name "zip" p) [a,b] [] pos) (Qq X.K ta):=by
 intro pins s σ H R I h
 refine Call_ (jd I hg hm LA (PyProof.Rows.callWith_type1 (zd (ha pos pins s σ H _ I h) fun us s1 ⟨vs,H1,I1,r1,q1⟩=>?_) (by rw [hs,hs2]) (by rw [hs2]; rfl)))
 obtain ⟨l1,l2,xs,ys,t1,t2,rfl,hx,hy,q⟩:=q1
 obtain ⟨u,v,rfl,ru,rv⟩:=T4 r1
 cases (show u=Value.ref l1 from ru)
 cases (show v=Value.ref l2 from rv)
 obtain ⟨us,_,pu⟩:=I1.seqX hx
 obtain ⟨ws,_,pw⟩:=I1.seqX hy
 have w1:=pu.lt
 have w2:=pw.lt
 refine LU pu pw fun h' a1 a2 a3 a4 a5 kp=>?_
 have I2:zC X pins σ H1 { s1 with heap:=h' }:=I1.kept (t':=s1.toks) kp
 refine wpAny_pyIter_zip (s:={ s1 with heap:=h' }) a1 ?_
 generalize hn:s1.heap.objs.size=n at a1 a2 a3 a4 a5 w1 w2
 have D:ZipApart (n+4) (n+2) (n+3) n (n+1) l1 l2:=by
  exact Kx w1 w2
 refine ⟨n+4,[n+4,n+2,n+3,n,n+1],_,_,H1,rfl,I2,KU t1 t2 l1 l2 (n+4) (n+2) (n+3) n (n+1) D,⟨a1,a2,⟨_,_,a3⟩,a4,a5⟩,fun c hc=>?_,q⟩
 have hle:s1.heap.objs.size<=c:=by
  rw [hn]
  simp only [List.mem_cons,List.not_mem_nil,or_false] at hc
  rcases hc with rfl | rfl | rfl | rfl | rfl
  ·exact Nat.le_add_right _ _
  ·exact Nat.le_add_right _ _
  ·exact Nat.le_add_right _ _
  ·exact Nat.le_refl _
  ·exact Nat.le_add_right _ _
 exact I1.fpOk hle (I1.hok.fresh hle)
theorem Eg {a b:Expr} {ta:TA} {p pos:Pos} {elts:List Expr} {kk:Nat} {tp:Pos} (hg:Gl X "zip") (hm:X.mg "zip" = none) (ha:QA X [a,b] ta) (hs:yH a=true:=by rfl) (hs2:yH b=true:=by rfl) :
  QI X (.Tuple elts kk tp) (.Call (.Name "zip" p) [a,b] [] pos) (Qq X.K ta):=⟨EB hg hm ha.h (by rw [wP hs,wP hs2]; rfl) (wP hs2)⟩
end
end L2
namespace L2
open PySem PySem.Spec PyProof.Rows
noncomputable def Tm (scope:Scope) (env:Env) (cl:List (Str×Addr)) (own:List Str):Bool:=
 scope.kind == .function&&scope.names.all (fun y=>y.2 != .cell)&&jL scope env cl own&&scope.names.all (fun y=>y.2 != .local||scope.names.lookup y.1 == some .local)
theorem ua {X:Cx} {scope:Scope} {cl:List (Str×Addr)} {own:List Str} (clos:closureFor scope X.env=pure cl) (cap:qD X.env cl:=by first | exact True.intro | exact ⟨rfl,True.intro⟩ | exact ⟨rfl,rfl,True.intro⟩ | exact ⟨rfl,rfl,rfl,True.intro⟩ | exact ⟨rfl,rfl,rfl,rfl,True.intro⟩)
  (ok:Tm scope X.env cl own=true:=by rfl):kl X scope cl own:=by
 unfold Tm at ok
 simp only [Bool.and_eq_true] at ok
 obtain ⟨⟨⟨h1,h2⟩,h3⟩,h4⟩:=ok
 refine ⟨beq_iff_eq.mp h1,fun y hy e=>?_,cap,h3,clos,fun y hy e=>?_⟩
 ·have:=List.all_eq_true.mp h2 y hy
  rw [e] at this
  cases this
 ·have:=List.all_eq_true.mp h4 y hy
  rw [e] at this
  simpa using this
section
variable {X:Cx} (K:PySem.W.Frag) (hK:X.K=K)
include hK
end
noncomputable def OP (K:PySem.W.Frag) (a:Addr) (xs:List V):Prop:=∀ H,yM K H a xs
theorem tQ {K:PySem.W.Frag} {a:Addr} {xs:List V} {d:Option Addr} {its:Array Value} {n:Nat} {sl:Array (Option Value)} (h:K.lookup a=some ⟨.type "tuple",d,.seq its n,sl⟩) (hz:its.size<=sizeLine) (r:zZ xs its.toList):OP K a xs:=
 fun _=>.inr ⟨_,its,n,h,rfl,rfl,hz,r⟩
end L2
namespace L2
open PySem PySem.Spec PyProof.Rows
open Builtin Builtin.Str
noncomputable def Z0 (z:Str):It:=⟨fun i _=>i<z.length,fun i H x H'=>H'=H/\∃ c,z.cps[i]?=some c/\x=.str ⟨#[c]⟩,fun i _=>z.length<=i⟩
section
variable {X:Cx} {tg:Expr}
noncomputable def BT (te:TE):TI:=fun σ H R=>te σ H fun x H1=>∃ z,x=.str z/\R (Z0 z) H1
theorem KR {P:Program} {w:World} {K:PySem.W.Frag} {it:Addr} {z:Str} {t:Tok} {ty:String} (hty:ty = "str_ascii_iterator" \/ ty = "str_iterator"):qO P w K tg (Z0 z) [it] it (fun i h=>h.IsStrIter it ty z t i/\i<=z.length) where
 mem:=by simp
 obj:=fun i h st b hb=>by
  have e:b=it:=by simpa using hb
  subst e
  obtain ⟨⟨o,e,c,d⟩,_⟩:=st
  exact ⟨o,e,fun v z=>by rw [d] at z; cases z⟩
 keep:=fun i h h' st k=>⟨let ⟨o,ho,r⟩:=st.1; ⟨o,k it (by simp) o ho,r⟩,st.2⟩
 item:=by
  intro X hP hw hK hc i pins s σ H E I hf st hg
  subst hP hw hK
  obtain ⟨f0,f1,f2,f3,f4,f5⟩:=hf it (by simp)
  have hg':i<z.cps.size:=hg
  have hx:z.cps[i]?=some z.cps[i]:=by simp [hg']
  have go:∀ h' tk (u:Value),(∃ t',u=Value.str ⟨#[z.cps[i]]⟩ t')->h'.IsStrIter it ty z t (i+1)->Heap.SameBut it s.heap h'->∃ v,some u=some v/\
    wpAny (model X.prog X.w) X.A (letOwnedTupleGo tg (.ref it) v) (fun _ s2=>∃ x H',zC X pins σ H' s2/\zY x v/\(Z0 z).yld i H x H'/\(s2.heap.IsStrIter it ty z t (i+1)/\i+1<=z.length)/\∀ b∈[it],H' b=none) E { s with heap:=h',toks:=tk }:=fun h' tk u hu st' sb=>by
   obtain ⟨t',rfl⟩:=hu
   have I1:zC X pins σ H { s with heap:=h',toks:=tk }:=I.turned (fun b o hb e=>(sb.2 b hb).trans e) f0 f1 f3 f4 f5
   obtain ⟨o,e,c,d⟩:=id st'
   exact ⟨_,rfl,ZV (s:={ s with heap:=h',toks:=tk }) e c d (by rcases hty with rfl | rfl<;>decide) ⟨.str ⟨#[z.cps[i]]⟩,H,I1,⟨t',rfl⟩,⟨rfl,_,hx,rfl⟩,⟨st',hg⟩,fun b hb=>(hf b hb).1⟩⟩
  rcases hty with rfl | rfl
  ·exact wpAny_pyNext_ascii_item st.1 hx fun h' st' sb=>go h' _ _ ⟨_,rfl⟩ st' sb
  ·exact wpAny_pyNext_wide_item st.1 hx fun h' st' sb=>go h' _ _ ⟨_,rfl⟩ st' sb
 done:=by
  intro X hP hw hK hc i pins s σ H E I hf st hg
  subst hP hw hK
  obtain ⟨f0,f1,f2,f3,f4,f5⟩:=hf it (by simp)
  have hx:z.cps[i]?=none:=Array.getElem?_eq_none hg
  rcases hty with rfl | rfl
  ·exact wpAny_pyNext_ascii_end (I.ok.hd hc) st.1 hx fun h' eb=>⟨rfl,I.turned (t':=s.toks) (fun b o hb e=>eb b o hb e) f0 f1 f3 f4 f5⟩
  ·exact wpAny_pyNext_wide_end (I.ok.hd hc) st.1 hx fun h' eb=>⟨rfl,I.turned (t':=s.toks) (fun b o hb e=>eb b o hb e) f0 f1 f3 f4 f5⟩
 self:=fun _ _ _ _ _ st h=>by
  rcases hty with rfl | rfl
  ·exact wpAny_pyIter_striter_ascii st.1 h
  ·exact wpAny_pyIter_striter_wide st.1 h
theorem E9 {e:Expr} {te:TE} (he:PE X e te):PI X tg e (BT te):=by
 intro pins s σ H R I h
 refine zd (he pins s σ H _ I h) fun v s1 ⟨x,H1,I1,r1,q1⟩=>?_
 obtain ⟨z,rfl,q⟩:=q1
 obtain ⟨t,rfl⟩:=(show ∃ t,v=Value.str z t from r1)
 have fin:∀ (ty:String),(ty = "str_ascii_iterator" \/ ty = "str_iterator")->∀ o:Obj,(s1.heap.push o).IsStrIter s1.heap.objs.size ty z t 0->XW X pins σ tg R (.ref s1.heap.objs.size) { s1 with heap:=s1.heap.push o }:=fun ty hty o st=>
  ⟨s1.heap.objs.size,[s1.heap.objs.size],_,_,H1,rfl,I1.kept (t':=s1.toks) fun b o e=>Heap.get?_push_of_some _ e,KR hty,⟨st,Nat.zero_le _⟩,fun b hb=>by
   have e:b=s1.heap.objs.size:=by simpa using hb
   subst e
   exact I1.fpOk (Nat.le_refl _) (I1.hok.fresh (Nat.le_refl _)),q⟩
 cases ha:z.cps.all (·<128)
 ·exact wpAny_pyIter_wide ha (fin _ (.inr rfl) _ ⟨_,Heap.get?_push_size _ rfl,rfl,rfl⟩)
 ·exact wpAny_pyIter_ascii ha (fin _ (.inl rfl) _ ⟨_,Heap.get?_push_size _ rfl,rfl,rfl⟩)
end
end L2
namespace L2
open PySem PySem.Spec PyProof.Rows
open Builtin Builtin.Str
end L2
namespace L2
open PySem PySem.Spec PyProof.Rows
open Builtin Builtin.Str
end L2
namespace L2
open PySem PySem.Spec PyProof.Rows
section
variable {κ:Type} [DecidableEq κ]
noncomputable def we (kvs:List (κ×V)) (k:κ):Option V:=(kvs.find? fun kv=>decide (kv.1=k)).map (·.2)
noncomputable def wC (kvs:List (κ×V)) (k:κ) (v:V):List (κ×V):=
 if (kvs.any fun kv=>decide (kv.1=k))=true then kvs.map (fun kv=>if kv.1=k then (kv.1,v) else kv) else kvs++[(k,v)]
theorem YJ {p:κ×V} {r:List (κ×V)} {k:κ} (e:p.1=k):we (p::r) k=some p.2:=by simp [we,List.find?_cons,e]
theorem YI {p:κ×V} {r:List (κ×V)} {k:κ} (e:¬ p.1=k):we (p::r) k=we r k:=by simp [we,List.find?_cons,e]
theorem OB (k:κ):∀ kvs:List (κ×V),(kvs.any fun kv=>decide (kv.1=k))=(we kvs k).isSome
 | []=>rfl
 | p::r=>by
  rw [List.any_cons]
  by_cases e:p.1=k
  ·simp only [YJ e,decide_eq_true e,Bool.true_or,Option.isSome_some]
  ·rw [YI e,decide_eq_false e,Bool.false_or]; exact OB k r
theorem VF (kvs:List (κ×V)) (k:κ) (v:V):(wC kvs k v).length<=kvs.length+1:=by
 unfold wC
 split
 ·rw [List.length_map]; omega
 ·rw [List.length_append,List.length_cons,List.length_nil]; omega
theorem w6.isSome_eq {o:Option V} {u:Option Value} (r:w6 o u):o.isSome=u.isSome:=by
 cases o with
 | none=>cases u with
  | none=>rfl
  | some _=>exact (show False from r).elim
 | some _=>cases u with
  | none=>exact (show False from r).elim
  | some _=>rfl
theorem w6.getD {o:Option V} {u:Option Value} {d:V} {d':Value} (r:w6 o u) (rd:zY d d'):zY (o.getD d) (u.getD d'):=by
 cases o with
 | none=>cases u with
  | none=>exact rd
  | some _=>exact (show False from r).elim
 | some _=>cases u with
  | none=>exact (show False from r).elim
  | some _=>exact r
theorem KV.val {kvs:List (κ×V)} {vs:List (κ×Value)} (r:KV kvs vs) (k:κ):w6 (we kvs k) (valueAt vs k):=by
 unfold KV at r
 induction r with
 | nil=>exact True.intro
 | @cons p q ps qs h t ih=>
  obtain ⟨h1,h2⟩:=h
  by_cases e:p.1=k
  ·have e':q.1=k:=h1.symm.trans e
   have b:valueAt (q::qs) k=some q.2:=by simp [valueAt,List.find?_cons,e']
   rw [YJ e,b]; exact h2
  ·have e':¬ q.1=k:=fun z=>e (h1.trans z)
   have b:valueAt (q::qs) k=valueAt qs k:=by simp [valueAt,List.find?_cons,e']
   rw [YI e,b]; exact ih
theorem KV.any {kvs:List (κ×V)} {vs:List (κ×Value)} (r:KV kvs vs) (k:κ):(kvs.any fun kv=>decide (kv.1=k))=vs.any fun kv=>decide (kv.1=k):=by
 unfold KV at r
 induction r with
 | nil=>rfl
 | cons h t ih=>rw [List.any_cons,List.any_cons,ih,h.1]
theorem KV.repl {kvs:List (κ×V)} {vs:List (κ×Value)} (r:KV kvs vs) (k:κ) {y:V} {u:Value} (ry:zY y u) :
  KV (kvs.map fun kv=>if kv.1=k then (kv.1,y) else kv) (vs.map fun kv=>if kv.1=k then (kv.1,u) else kv):=by
 unfold KV at r ⊢
 induction r with
 | nil=>exact .nil
 | @cons p q ps qs h t ih=>
  rw [List.map_cons,List.map_cons]
  refine .cons ?_ ih
  obtain ⟨h1,h2⟩:=h
  by_cases e:p.1=k
  ·rw [if_pos e,if_pos (h1.symm.trans e)]; exact ⟨h1,ry⟩
  ·rw [if_neg e,if_neg (fun z=>e (h1.trans z))]; exact ⟨h1,h2⟩
theorem KV.put {kvs:List (κ×V)} {vs:List (κ×Value)} (r:KV kvs vs) (k:κ) {y:V} {u:Value} (ry:zY y u):KV (wC kvs k y) (stored vs k u):=by
 unfold wC stored
 rw [r.any k]
 by_cases e:(vs.any fun kv=>decide (kv.1=k))=true
 ·rw [if_pos e,if_pos e]; exact r.repl k ry
 ·rw [if_neg e,if_neg e]; exact Paired.snoc r ⟨rfl,ry⟩
theorem KV.length {kvs:List (κ×V)} {vs:List (κ×Value)} (r:KV kvs vs):kvs.length=vs.length:=Paired.length r
end
theorem qZ {P:Program} {w:World} {k:zM} {u:Value} (r:zY (kV k) u):(ye P w).is k u=true:=by
 cases k with
 | inl i=>obtain ⟨t,e⟩:=(show ∃ t,u=Value.int i t from r); subst e; exact Da P w i t
 | inr x=>obtain ⟨t,e⟩:=(show ∃ t,u=Value.str x t from r); subst e; exact VN P w x t
theorem Qy {P:Program} {w:World}:∀ {ks:List zM} {us:List Value},zZ (ks.map kV) us->ItemsAre (ye P w) ks us
 | [],_,r=>by rw [List.map_nil] at r; cases r; exact .nil
 | k::ks,_,r=>by
  rw [List.map_cons] at r
  cases r with
  | cons h t=>exact .cons (qZ h) (Qy t)
noncomputable abbrev KT (H:Hp):List (List zM×V)->List (List zM×Addr×Value)->Prop:=Paired fun p q=>p.1=q.1/\H q.2.1=some (.tup (p.1.map kV))/\zY p.2 q.2.2
theorem KT.val {H:Hp} {kvs:List (List zM×V)} {xs:List (List zM×Addr×Value)} (r:KT H kvs xs) (k:List zM):w6 (we kvs k) ((atKey xs k).map (·.2)):=by
 induction r with
 | nil=>exact True.intro
 | @cons p q ps qs h t ih=>
  obtain ⟨h1,_,h2⟩:=h
  by_cases e:p.1=k
  ·have e':q.1=k:=h1.symm.trans e
   have b:atKey (q::qs) k=some q.2:=by simp [atKey,List.find?_cons,e']
   rw [YJ e,b]; exact h2
  ·have e':¬ q.1=k:=fun z=>e (h1.trans z)
   have b:atKey (q::qs) k=atKey qs k:=by simp [atKey,List.find?_cons,e']
   rw [YI e,b]; exact ih
theorem KT.repl {H:Hp} {kvs:List (List zM×V)} {xs:List (List zM×Addr×Value)} (r:KT H kvs xs) (k:List zM) {y:V} {u:Value} (ry:zY y u) :
  KT H (kvs.map fun kv=>if kv.1=k then (kv.1,y) else kv) (xs.map (putAt k u)):=by
 induction r with
 | nil=>exact .nil
 | @cons p q ps qs h t ih=>
  rw [List.map_cons,List.map_cons]
  refine .cons ?_ ih
  obtain ⟨h1,h2,h3⟩:=h
  unfold putAt
  by_cases e:p.1=k
  ·rw [if_pos e,if_pos (h1.symm.trans e)]; exact ⟨h1,h2,ry⟩
  ·rw [if_neg e,if_neg (fun z=>e (h1.trans z))]; exact ⟨h1,h2,h3⟩
theorem KT.put {H:Hp} {kvs:List (List zM×V)} {xs:List (List zM×Addr×Value)} (r:KT H kvs xs) (k:List zM) {b:Addr} {y:V} {u:Value} (hb:H b=some (.tup (k.map kV))) (ry:zY y u) :
  KT H (wC kvs k y) (storedH xs k b u):=by
 have e:(kvs.any fun kv=>decide (kv.1=k))=(atKey xs k).isSome:=by
  rw [OB,(r.val k).isSome_eq,Option.isSome_map]
 unfold wC storedH
 rw [e]
 by_cases q:(atKey xs k).isSome=true
 ·rw [if_pos q,if_pos q]; exact r.repl k ry
 ·rw [if_neg q,if_neg q]; exact Paired.snoc r ⟨rfl,hb,ry⟩
theorem KT.keeps {H H':Hp} {kvs:List (List zM×V)} {xs:List (List zM×Addr×Value)} (r:KT H kvs xs) (ht:∀ b ys,H b=some (.tup ys)->H' b=some (.tup ys)):KT H' kvs xs:=
 Paired.mapP r fun _ _ z=>⟨z.1,ht _ _ z.2.1,z.2.2⟩
section
variable {P:Program} {w:World} {H:Hp} {h:Heap} {a:Addr}
theorem IN {u:HO} (ok:yd P w H h) (e:Rd H a u):yh P w H h a u:=e.ok ok
theorem tR {kvs:List (zM×V)} (ok:yd P w H h) (e:Rd H a (.dK kvs)):kvs.length<=sizeLine/\(a == sysModules)=false/\∃ vs,KV kvs vs/\h.DictOf (ye P w) a vs:=
 show yh P w H h a (.dK kvs) from IN ok e
theorem Lu {kvs:List (zM×V)} (ok:yd P w H h) (e:H a=some (.dK kvs)):kvs.length<=sizeLine/\(a == sysModules)=false/\∃ vs,KV kvs vs/\h.DictOf (ye P w) a vs:=tR ok (.inl e)
theorem Zc {ks:List zM} (ok:yd P w H h) (e:H a=some (.tup (ks.map kV))):(tupleKind (ye P w)).is h ks a:=by
 obtain ⟨_,its,r,o,h1,h2,n,h3⟩:=(show yh P w H h a (.tup (ks.map kV)) from ok a _ e)
 exact ⟨o,its.toArray,n,h1,h2,h3,by simpa using Qy r⟩
theorem ga {kvs:List (List zM×V)} (ok:yd P w H h) (e:Rd H a (.dT kvs)):kvs.length<=sizeLine/\(a == sysModules)=false/\
  ∃ xs,KT H kvs xs/\h.DictOfH (tupleKind (ye P w)) a xs:=by
 obtain ⟨z,y,xs,r,o,es,ep,h1,h2,h3,h4,h5⟩:=(show yh P w H h a (.dT kvs) from IN ok e)
 refine ⟨z,y,xs,r,o,es,ep,h1,h2,h3,h4,fun x hx=>?_,h5⟩
 have all:∀ {l:List (List zM×V)} {m:List (List zM×Addr×Value)},KT H l m->∀ x∈m,(tupleKind (ye P w)).is h x.1 x.2.1:=by
  intro l m q
  induction q with
  | nil=>intro x hx; exact nomatch hx
  | @cons p q ps qs hq t ih=>
   intro x hx
   rcases List.mem_cons.mp hx with e | hx
   ·subst e
    exact Zc ok (by rw [<- hq.1]; exact hq.2.1)
   ·exact ih x hx
 exact all r x hx
theorem M5 {kvs:List (List zM×V)} (ok:yd P w H h) (e:H a=some (.dT kvs)):kvs.length<=sizeLine/\(a == sysModules)=false/\
  ∃ xs,KT H kvs xs/\h.DictOfH (tupleKind (ye P w)) a xs:=ga ok (.inl e)
end
noncomputable def km (H:Hp) (a:Addr) (y:V) (r:Option V):Prop:=
 (∃ kvs k,Rd H a (.dK kvs)/\y=kV k/\r=we kvs k)\/∃ kvs k b,Rd H a (.dT kvs)/\y=.ref b/\H b=some (.tup (k.map kV))/\r=we kvs k
noncomputable def TH (H:Hp) (a:Addr) (y v:V) (H':Hp):Prop:=
 (∃ kvs k,H a=some (.dK kvs)/\y=kV k/\kvs.length<sizeLine/\H'=zR H a (.dK (wC kvs k v))) \/
 ∃ kvs k b,H a=some (.dT kvs)/\y=.ref b/\H b=some (.tup (k.map kV))/\kvs.length<sizeLine/\H'=zR H a (.dT (wC kvs k v))
section
variable {X:Cx} {pins:List (Addr×Obj)} {σ:St} {H:Hp} {s:Shared} {a:Addr} {y v:V} {u r:Value} {o:Option V} {A:Around} {E:Value->Shared->Prop}
theorem zC.big (I:zC X pins σ H s):sysModules<s.heap.objs.size:=by
 have h:mainGlobals<s.heap.objs.size:=(I.mod.glob.keeps I.bk).lt
 exact Nat.lt_trans (by decide) h
theorem Lm {Q:Value->Shared->Prop} (hu:A.units+1<cLine) (I:zC X pins σ H s) (g:km H a y o) (ry:zY y u) (h:∀ s',zC X pins σ H s'->Q (.bool o.isSome) s') :
  wpAny (model X.prog X.w) A (compareOp .In u (.ref a)) Q E s:=by
 rcases g with ⟨kvs,k,e,ey,l⟩ | ⟨kvs,k,b,e,ey,eb,l⟩
 ·subst ey
  obtain ⟨z,hd,vs,rel,dd⟩:=tR I.hok e
  refine wpAny_in_of (qZ ry) hd dd.mapOf ?_
  rw [<- (rel.val k).isSome_eq,<- l]
  exact h _ (I.tok _)
 ·subst ey
  cases (show u=Value.ref b from ry)
  obtain ⟨z,hd,xs,rel,dd⟩:=ga I.hok e
  refine wpAny_in_heap (tupleKind_room_in1 hu) (Zc I.hok eb) hd dd ?_
  have q:=(rel.val k).isSome_eq
  rw [Option.isSome_map] at q
  rw [<- q,<- l]
  exact h _ (I.tok _)
theorem Q8 {h':Heap} {t':Nat} {ob:HO} (I:zC X pins σ H s) (mu:gO (H a)) (hs:Heap.SameBut a s.heap h') (he:∃ q,h'.get? a=some q) (new:yh X.prog X.w (zR H a ob) h' a ob) :
  zC X pins σ (zR H a ob) { s with heap:=h',toks:=t' }:=
 I.write (x:=a) (e:=a) mu (.inl rfl) (fun b q hb z=>(hs.2 b hb).trans z) he new
theorem Wd {P:Program} {w:World} {H':Hp} {h':Heap} {kvs:List (zM×V)} {vs:List (zM×Value)} (z:kvs.length<=sizeLine) (hd:(a == sysModules)=false) (rel:KV kvs vs) (dd:h'.DictOf (ye P w) a vs) :
  yh P w H' h' a (.dK kvs):=⟨z,hd,vs,rel,dd⟩
theorem Lo {H':Hp} {Q:Unit->Shared->Prop} (hu:A.units+1<cLine) (I:zC X pins σ H s) (g:TH H a y v H') (ry:zY y u) (rv:zY v r) (h:∀ s',zC X pins σ H' s'->Q () s') :
  wpAny (model X.prog X.w) A (setItem (.ref a) u r) Q E s:=by
 rcases g with ⟨kvs,k,e,ey,l,eH⟩ | ⟨kvs,k,b,e,ey,eb,l,eH⟩
 ·subst ey eH
  obtain ⟨z,hd,vs,rel,dd⟩:=Lu I.hok e
  have hz:vs.length<=sizeLine:=by rw [<- rel.length]; exact z
  have hl:(wC kvs k v).length<=sizeLine:=by have:=VF kvs k v; omega
  refine wpAny_setItem_pairs (hsz:=hz) (qZ ry) dd fun h' dd' hs=>h _ ?_
  have he:∃ q,h'.get? a=some q:=let ⟨q,_,_,hq,_⟩:=dd'; ⟨q,hq⟩
  exact Q8 I (by rw [e]; exact True.intro) hs he (Wd hl hd (rel.put k rv) dd')
 ·subst ey eH
  cases (show u=Value.ref b from ry)
  obtain ⟨z,hd,xs,rel,dd⟩:=M5 I.hok e
  have hz:xs.length<=sizeLine:=by rw [<- Paired.length rel]; exact z
  have hl:(wC kvs k v).length<=sizeLine:=by have:=VF kvs k v; omega
  refine wpAny_setItem_heap (hsz:=hz) (tupleKind_room_in1 hu) (Zc I.hok eb) dd fun h' dd' hs=>h _ ?_
  obtain ⟨q,es,ep,hq,h2,h3,h4,_,h5⟩:=dd'
  refine Q8 I (by rw [e]; exact True.intro) hs ⟨q,hq⟩ ⟨hl,hd,_,(rel.put k eb rv).keeps fun c ys ec=>?_,q,es,ep,hq,h2,h3,h4,h5⟩
  rw [z_ (Dl ec e (fun z=>nomatch z))]
  exact ec
end
section
variable {X:Cx} {pins:List (Addr×Obj)} {σ:St} {H:Hp} {s:Shared} {a:Addr} {kvs:List (zM×V)} {k:zM} {u:Value} {A:Around} {E:Value->Shared->Prop}
theorem Ln {Q:Value->Shared->Prop} (I:zC X pins σ H s) (e:Rd H a (.dK kvs)) (h:∀ t s',zC X pins σ H s'->Q (.int kvs.length t) s'):wpAny (model X.prog X.w) A (call (.builtin "len") [.ref a]) Q E s:=by
 obtain ⟨z,hd,vs,rel,dd⟩:=tR I.hok e
 refine call_len_dict hd dd (by rw [<- rel.length]; rw [sizeLine_eq] at z; omega) ?_
 rw [<- rel.length]
 exact h _ _ (I.tok _)
end
theorem Lp {X:Cx} {pins:List (Addr×Obj)} {σ:St} {H:Hp} {s:Shared} {a:Addr} {y:V} {o:Option V} (I:zC X pins σ H s) (g:km H a y o):s.TypeIs (.ref a) "dict" := by
 rcases g with ⟨kvs,k,e,_,_⟩ | ⟨kvs,k,b,e,_,_,_⟩
 ·obtain ⟨_,_,vs,_,dd⟩:=tR I.hok e
  exact dd.typeIs
 ·obtain ⟨_,_,xs,_,dd⟩:=ga I.hok e
  exact dd.typeIs
noncomputable def GF (td ty tv:TE):TS:=fun D σ H=>tv σ H fun v H1=>td σ H1 fun x H2=>ty σ H2 fun y H3=>∃ a H4,x=.ref a/\TH H3 a y v H4/\D.nx σ H4
section
variable {X:Cx} {o i e value:Expr} {pos pos' tpos:Pos} {td ty tv:TE}
theorem Jh (hu:X.A.units+1<cLine) (ho:PE X o td) (hi:PE X i ty) (hv:PE X value tv) (hs:swapsWith value (some (.Subscript o i pos')) pos.line X.env=pure false) :
  PS X (.Assign [.Subscript o i pos'] value pos) (GF td ty tv):=by
 intro pins s σ H D I h
 refine wpAny_Assign_Subscript (zd (hv pins s σ H _ I h) fun r s1 ⟨v,H1,I1,rv,q1⟩=>zd (ho pins s1 σ H1 _ I1 q1) fun u s2 ⟨x,H2,I2,rx,q2⟩=>zd (hi pins s2 σ H2 _ I2 q2) fun iv s3 ⟨y,H3,I3,ry,a,H4,ex,g,q3⟩=>?_) hs
 subst ex
 obtain rfl:u=Value.ref a:=rx
 exact Lo hu I3 g ry rv fun s4 I4=>⟨σ,H4,I4,q3⟩
end
theorem Lq {P:Program} {w:World} {H:Hp} (h:Heap) (hb:sysModules<h.objs.size):yh P w H (h.push { cls:=.type "dict",data:=.dict #[] }) h.objs.size (.dK []):=
 ⟨Nat.zero_le _,beq_eq_false_iff_ne.mpr (Ne.symm (Nat.ne_of_lt hb)),[],.nil,Heap.DictOf.new h⟩
noncomputable def Hn:TE:=fun _ H Q=>∀ p,H p=none->Q (.ref p) (zR H p (.dK []))
section
variable {X:Cx} {pos:Pos}
theorem Ck:PE X (.Dict [] [] pos) Hn:=fun pins s σ H Q I h=>
 wpAny_Dict_empty ⟨.ref s.heap.objs.size,_,I.laid (a:=s.heap.objs.size) (o:=.dK []) (t':=s.toks) (fun _ _ q=>Heap.get?_push_of_some _ q) (Nat.le_refl _) (Lq s.heap I.big),rfl,h _ (I.hok.fresh (Nat.le_refl _))⟩
end
noncomputable def tU (kvs more:List (zM×V)):List (zM×V):=more.foldl (fun acc kv=>wC acc kv.1 kv.2) kvs
theorem KV.merge:∀ {more:List (zM×V)} {rs:List (zM×Value)} {kvs:List (zM×V)} {vs:List (zM×Value)},KV more rs->KV kvs vs->KV (tU kvs more) (merged vs rs):=by
 intro more rs kvs vs r
 unfold KV at r
 induction r generalizing kvs vs with
 | nil=>intro q; exact q
 | @cons p q ps qs h t ih=>
  intro r0
  have e:KV (wC kvs p.1 p.2) (stored vs q.1 q.2):=by
   have:=r0.put p.1 h.2
   rw [<- h.1]; exact this
  exact ih e
theorem J9:∀ (more kvs:List (zM×V)),(tU kvs more).length<=kvs.length+more.length
 | [],kvs=>by show kvs.length<=kvs.length+0; omega
 | p::r,kvs=>by
  have h1:=J9 r (wC kvs p.1 p.2)
  have h2:=VF kvs p.1 p.2
  show (tU (wC kvs p.1 p.2) r).length<=_
  rw [List.length_cons]; omega
structure M2 (X:Cx) (o:Expr) (m:Str) (apos:Pos) (e f:Expr) (cpos:Pos):Prop where
 base:attributeBase o m X.env (eval o X.env)=eval o X.env
 few:((backTo cpos (starEach [e,f] X.env)).all (fun x=>!x.1)&&(backToKw cpos (keywordEach [] X.env)).all (fun x=>x.1.isSome)
  && decide (([e,f]:List Expr).length+([]:List Keyword).length+(if ([]:List Keyword).isEmpty then 0 else 1)<30))=true
 line:(apos.endLine == cpos.line)=true
 trees:backTo cpos (starEach [e,f] X.env)=[(false,eval e X.env),(false,eval f X.env)]
noncomputable def TL (H:Hp) (a:Addr):Prop:=(∃ kvs,Rd H a (.dK kvs))\/∃ kvs,Rd H a (.dT kvs)
theorem Bc {X:Cx} {pins:List (Addr×Obj)} {σ:St} {H:Hp} {s:Shared} {a:Addr} (I:zC X pins σ H s) (d:TL H a) :
  s.TypeIs (.ref a) "dict" /\ (∀ b,Value.ref a=.ref b->∃ ob,s.heap.get? b=some ob/\ob.dict=none)/\(a == sysModules)=false:=by
 rcases d with ⟨kvs,e⟩ | ⟨kvs,e⟩
 ·obtain ⟨_,hd,vs,_,dd⟩:=tR I.hok e
  refine ⟨dd.typeIs,fun b q=>?_,hd⟩
  cases q
  obtain ⟨ob,_,_,h1,h2,_⟩:=dd
  exact ⟨ob,h1,h2.2.1⟩
 ·obtain ⟨_,hd,xs,_,dd⟩:=ga I.hok e
  refine ⟨dd.typeIs,fun b q=>?_,hd⟩
  cases q
  obtain ⟨ob,_,_,h1,h2,_⟩:=dd
  exact ⟨ob,h1,h2.2.1⟩
section
variable {X:Cx} {pins:List (Addr×Obj)} {σ:St} {H:Hp} {s:Shared} {a:Addr} {y d:V} {u r:Value} {o:Option V} {A:Around} {E:Value->Shared->Prop}
theorem Ll {Q:Value->Shared->Prop} (hu:A.units+1<cLine) (I:zC X pins σ H s) (g:km H a y o) (ry:zY y u) (rd:zY d r) (h:∀ w' s',zC X pins σ H s'->zY (o.getD d) w'->Q w' s') :
  wpAny (model X.prog X.w) A (call (.builtin "dict.get") [.ref a,u,r]) Q E s:=by
 rcases g with ⟨kvs,k,e,ey,l⟩ | ⟨kvs,k,b,e,ey,eb,l⟩
 ·subst ey
  obtain ⟨z,hd,vs,rel,dd⟩:=tR I.hok e
  refine call_meetsIn PySem.F.slot_dict_get dd.typeIs PySem.F.entry_dict_get (PySem.F.args_dict_get_3 _ _ _) (meets_dict_get_default (ye X.prog X.w) a (qZ ry) hd r) ⟨_,dd.mapOf,h _ _ (I.tok _) ?_⟩
  rw [l]
  exact (rel.val k).getD rd
 ·subst ey
  cases (show u=Value.ref b from ry)
  obtain ⟨z,hd,xs,rel,dd⟩:=ga I.hok e
  refine call_meetsIn PySem.F.slot_dict_get dd.typeIs PySem.F.entry_dict_get (PySem.F.args_dict_get_3 _ _ _) (meetsH_dict_get_default (tupleKind (ye X.prog X.w)) a b hd r) ⟨tupleKind_room_in1 hu,k,xs,Zc I.hok eb,dd,h _ _ (I.tok _) ?_⟩
  rw [l]
  exact (rel.val k).getD rd
end
noncomputable def Hm (td ty tx:TE):TE:=fun σ H Q=>td σ H fun x H1=>∃ a,x=.ref a/\TL H1 a/\ty σ H1 fun y H2=>tx σ H2 fun z H3=>∃ o,km H3 a y o/\Q (o.getD z) H3
section
variable {X:Cx} {o e f:Expr} {apos cpos:Pos} {td ty tx:TE}
theorem Cj (hu:X.A.units+1<cLine) (ho:PE X o td) (he:PE X e ty) (hf:PE X f tx) (m:M2 X o "get" apos e f cpos):PE X (.Call (.Attribute o "get" apos) [e,f] [] cpos) (Hm td ty tx):=by
 intro pins s σ H Q I h
 refine wpAny_Call_method m.base m.few m.line PySem.F.plainAttrs_dict PySem.F.slot_dict_get PySem.F.type_dict_get (zd (ho pins s σ H _ I h) fun u s1 ⟨x,H1,I1,rx,a,ex,d,q1⟩=>?_)
 subst ex
 obtain rfl:u=Value.ref a:=rx
 obtain ⟨t1,t2,_⟩:=Bc I1 d
 refine ⟨t1,t2,?_⟩
 rw [m.trees]
 refine Calls.callWith_builtin rfl (Calls.evalArgs_plain (Calls.spliced_cons (zd (he pins s1 σ H1 _ I1 q1) fun iv s2 ⟨y,H2,I2,ry,q2⟩=>
  Calls.spliced_cons (zd (hf pins s2 σ H2 _ I2 q2) fun fv s3 ⟨z,H3,I3,rz,ov,g,q3⟩=>Calls.spliced_nil ?_))))
 exact Ll hu I3 g ry rz fun w' s4 I4 rw'=>⟨_,H3,I4,rw',q3⟩
end
end L2
namespace L3
open PySem
inductive D where
 | non | bl (b:Bool) | int (i:Int) | str (x:Str) | tup (xs:List D) | lst (xs:List D) | dic (ks:List (Sum Int Str)) (vs:List D) | exc (x:Str) | obj (x:Str) (fs:List Str) (vs:List D)
theorem D.ind {P:D->Prop} (non:P .non) (bl:∀ b,P (.bl b)) (int:∀ i,P (.int i)) (str:∀ x,P (.str x)) (tup:∀ xs,(∀ d∈xs,P d)->P (.tup xs)) (lst:∀ xs,(∀ d∈xs,P d)->P (.lst xs))
  (dic:∀ ks xs,(∀ d∈xs,P d)->P (.dic ks xs)) (exc:∀ x,P (.exc x)) (obj:∀ x fs xs,(∀ d∈xs,P d)->P (.obj x fs xs)) (d:D):P d:=
 D.rec (motive_1:=P) (motive_2:=fun ds=>∀ d∈ds,P d) non bl int str (fun xs h=>tup xs h) (fun xs h=>lst xs h) (fun ks xs h=>dic ks xs h) exc (fun x fs xs h=>obj x fs xs h) (fun _ h=>absurd h (by simp))
  (fun d ds hd hds e he=>by
   rcases List.mem_cons.mp he with z | z
   ·exact z ▸ hd
   ·exact hds e z) d
mutual
noncomputable def ya:D->D->Bool
 | .non,.non=>true
 | .bl a,.bl b=>a == b
 | .bl a,.int b=>(if a then 1 else 0) == b
 | .int a,.bl b=>a == (if b then 1 else 0)
 | .int a,.int b=>a == b
 | .str a,.str b=>a == b
 | .tup xs,.tup ys=>dEqs xs ys
 | .lst xs,.lst ys=>dEqs xs ys
 | _,_=>false
noncomputable def dEqs:List D->List D->Bool
 | [],[]=>true
 | x::xs,y::ys=>ya x y&&dEqs xs ys
 | _,_=>false
end
noncomputable abbrev Sl:=Bool×D
noncomputable abbrev zr:=List (Option Sl)
noncomputable abbrev FE:=zr->Option D
noncomputable abbrev FT:=zr->Option Bool
noncomputable abbrev FA:=zr->Option (List D)
noncomputable abbrev FG:=D->zr->Option zr
inductive Fl where
 | nx (σ:zr) | rt (o:Bool) (d:D) | bk (σ:zr) | ct (σ:zr)
noncomputable abbrev FS:=zr->Option Fl
noncomputable abbrev yP:Nat:=16777216
noncomputable def z6 (i:Nat):FE:=fun σ=>match σ[i]? with
 | some (some (false,d))=>some d
 | _=>none
noncomputable def gb (i:Nat):FE:=fun σ=>match σ[i]? with
 | some (some (_,d))=>some d
 | _=>none
noncomputable def eC (d:D):FE:=fun _=>some d
noncomputable def e1 (F:D->Option D) (a:FE):FE:=fun σ=>(a σ).bind F
noncomputable def e2 (F:D->D->Option D) (a b:FE):FE:=fun σ=>(a σ).bind fun x=>(b σ).bind fun y=>F x y
noncomputable def eL (F:List D->Option D) (a:FA):FE:=fun σ=>(a σ).bind F
noncomputable def zG:FA:=fun _=>some []
noncomputable def zA (a:FE) (r:FA):FA:=fun σ=>(a σ).bind fun x=>(r σ).bind fun xs=>some (x::xs)
noncomputable def qS:D->Option Bool
 | .bl b=>some b
 | _=>none
noncomputable def tE (a:FE):FT:=fun σ=>(a σ).bind qS
noncomputable def kZ (a b:FT):FT:=fun σ=>(a σ).bind fun k=>match k with
 | true=>b σ
 | false=>some false
noncomputable def ju (a b:FT):FT:=fun σ=>(a σ).bind fun k=>match k with
 | true=>some true
 | false=>b σ
noncomputable def t8 (a:FT):FT:=fun σ=>(a σ).bind fun k=>some (!k)
noncomputable def jR (a b:FE):FE:=fun σ=>(a σ).bind fun x=>(qS x).bind fun k=>match k with
 | true=>b σ
 | false=>some (.bl false)
noncomputable def ZI (a b:FE):FE:=fun σ=>(a σ).bind fun x=>(qS x).bind fun k=>match k with
 | true=>some (.bl true)
 | false=>b σ
noncomputable def Wf (a:FE):FE:=fun σ=>(a σ).bind fun x=>(qS x).bind fun k=>some (.bl (!k))
noncomputable def uD (c:FT) (a b:FE):FE:=fun σ=>(c σ).bind fun k=>match k with
 | true=>a σ
 | false=>b σ
noncomputable def xO (a:FA):FE:=fun σ=>(a σ).bind fun xs=>some (.tup xs)
noncomputable def wL (a:FA):FE:=fun σ=>(a σ).bind fun xs=>some (.lst xs)
noncomputable def w8:D->D->Option D
 | .int i,.int j=>some (.int (i+j))
 | .int i,.bl b=>some (.int (i+(if b then 1 else 0)))
 | .str x,.str y=>if x.length+y.length<=yP then some (.str (x++y)) else none
 | .lst x,.lst y=>if x.length+y.length<=yP then some (.lst (x++y)) else none
 | .tup x,.tup y=>if x.isEmpty=false/\x.length+y.length<=yP then some (.tup (x++y)) else none
 | _,_=>none
noncomputable def fI (C:Int->Int->Bool) (g:Int->Int->Int):D->D->Option D
 | .int i,.int j=>match C i j with
  | true=>some (.int (g i j))
  | false=>none
 | _,_=>none
noncomputable def uG:D->D->Option D
 | .int i,.int j=>some (.int (i - j))
 | _,_=>none
noncomputable def qd (i:Int):Bool:=decide (-(2 ^ 64)<i)&&decide (i<2 ^ 64)
noncomputable def ZQ:D->D->Option D:=fI (fun i _=>qd i) (·*·)
noncomputable def ZR:D->D->Option D:=fI (fun _ j=>qd j) (·*·)
noncomputable def ym:D->D->Option D:=fI (fun _ j=>decide (0<j)) (· % ·)
noncomputable def wV:D->D->Option D:=fI (fun _ j=>decide (0<j)&&decide (j<2 ^ 64)) (· / ·)
noncomputable def wM (i j:Int):Bool:=decide (0<=j)&&(decide (j<=1000000)&&decide (i.natAbs<2 ^ 64))
noncomputable def MJ:D->D->Option D:=fI wM fun i j=>i ^ j.toNat
noncomputable def xJ:D->D->Option D:=fI wM fun i j=>i*2 ^ j.toNat
noncomputable def qY:D->D->Option D:=fI (fun _ j=>decide (0<=j)) fun i j=>i / 2 ^ j.toNat
noncomputable def xI (g:Int->Int->Int):D->D->Option D
 | .int i,.int j=>some (.int (g i j))
 | _,_=>none
noncomputable def Wp:D->Option D
 | .int i=>some (.int (-i))
 | _=>none
noncomputable def Wm:D->Option D
 | .int i=>some (.int (Builtin.bitNot i))
 | _=>none
noncomputable def qW (g:Int->Int->Bool):D->D->Option D
 | .int i,.int j=>some (.bl (g i j))
 | _,_=>none
noncomputable def jY:D->Bool
 | .non=>true
 | _=>false
noncomputable def ZP:D->D->Option D
 | x,.non=>some (.bl (jY x))
 | _,_=>none
noncomputable def Wq:D->D->Option D
 | x,.non=>some (.bl (!jY x))
 | _,_=>none
noncomputable def yV:D->Bool
 | .non=>true
 | .bl _=>true
 | .int _=>true
 | .str _=>true
 | _=>false
noncomputable def vM (f:D->D->Bool):List D->List D->Bool
 | x::xs,y::ys=>f x y&&vM f xs ys
 | _,_=>true
noncomputable def xx:Nat->D->D->Bool
 | 0,_,_=>false
 | n+1,x,y=>match x,y with
  | .tup xs,.tup ys=>vM (xx n) xs ys
  | .lst xs,.lst ys=>vM (xx n) xs ys
  | x,y=>yV x&&yV y
noncomputable def qX:D->D->Option Bool
 | .int _,.bl _=>none
 | .bl _,.int _=>none
 | x,y=>match xx 6 x y with
  | true=>some (ya x y)
  | false=>none
noncomputable def zh (x y:D):Option D:=(qX x y).bind fun k=>some (.bl k)
noncomputable def wm (x y:D):Option D:=(qX x y).bind fun k=>some (.bl (!k))
noncomputable def wp:D->Option (Sum Int Str)
 | .int i=>some (.inl i)
 | .str x=>some (.inr x)
 | _=>none
noncomputable def getK {α:Type}:List (Sum Int Str)->List α->Sum Int Str->Option α
 | k'::ks,v::vs,k=>if k'=k then some v else getK ks vs k
 | _,_,_=>none
noncomputable def vA (ks:List (Sum Int Str)) (k:Sum Int Str):Bool:=ks.any fun j=>decide (j=k)
noncomputable def xm (ks:List (Sum Int Str)) (k:Sum Int Str):List (Sum Int Str):=if vA ks k=true then ks else ks++[k]
noncomputable def xH {α:Type} (ks:List (Sum Int Str)) (vs:List α) (k:Sum Int Str) (v:α):List α:=if vA ks k=true then List.zipWith (fun k' x=>if k'=k then v else x) ks vs else vs++[v]
noncomputable def QP (x:D):D->Option Bool
 | .lst ys=>match yV x&&ys.all yV with
  | true=>some (ys.any fun y=>ya y x)
  | false=>none
 | .tup ys=>match yV x&&ys.all yV with
  | true=>some (ys.any fun y=>ya y x)
  | false=>none
 | .str j=>match x with
  | .str i=>some (!(Builtin.Str.occurrences j i 0 j.length 1).isEmpty)
  | _=>none
 | .dic ks _=>(wp x).bind fun k=>some (vA ks k)
 | _=>none
noncomputable def yU (x y:D):Option D:=(QP x y).bind fun k=>some (.bl k)
noncomputable def xj {α:Type} (xs:List α) (i:Int):Option α:=if 0<=i then xs[i.toNat]? else if -(xs.length:Int)<=i then xs[(i+xs.length).toNat]? else none
noncomputable def zF:D->D->Option D
 | .lst xs,.int i=>xj xs i
 | .tup xs,.int i=>xj xs i
 | .str z,.int i=>(xj z.cps.toList i).bind fun c=>some (.str ⟨#[c]⟩)
 | .dic ks vs,k=>(wp k).bind fun k=>getK ks vs k
 | _,_=>none
noncomputable def uF:List D->Option D
 | [.lst xs]=>some (.int xs.length)
 | [.tup xs]=>some (.int xs.length)
 | [.str z]=>some (.int z.length)
 | _=>none
noncomputable def MH:List D->Option D
 | [.int i]=>some (.int i)
 | [.bl k]=>some (.int (if k then 1 else 0))
 | _=>none
inductive qP where
 | int | bool | str | list | tuple
noncomputable def qP.nm:qP->String
 | .int => "int"
 | .bool => "bool"
 | .str => "str"
 | .list => "list"
 | .tuple => "tuple"
noncomputable def Za:qP->D->Option Bool
 | _,.dic _ _=>none
 | _,.exc _=>none
 | _,.obj _ _ _=>none
 | .int,.int _=>some true
 | .int,.bl _=>some true
 | .int,_=>some false
 | .bool,.bl _=>some true
 | .bool,_=>some false
 | .str,.str _=>some true
 | .str,_=>some false
 | .list,.lst _=>some true
 | .list,_=>some false
 | .tuple,.tup _=>some true
 | .tuple,_=>some false
noncomputable def pR (T:qP) (a:FE):FE:=fun τ=>(a τ).bind fun d=>(Za T d).bind fun b=>some (.bl b)
noncomputable def vm (a:FE):FA:=fun σ=>(a σ).bind fun d=>match d with
 | .lst xs=>some xs
 | .tup xs=>some xs
 | .str z=>some (z.cps.toList.map fun c=>.str ⟨#[c]⟩)
 | _=>none
noncomputable def ui (lo hi:FE):FA:=fun σ=>(lo σ).bind fun x=>(hi σ).bind fun y=>match x,y with
 | .int i,.int j=>if i.natAbs<=yP/\j.natAbs<=yP/\(j - i).toNat<=yP then some ((List.range (j - i).toNat).map fun k:Nat=>.int (i+k)) else none
 | _,_=>none
noncomputable def yp (i:Nat):FG:=fun d σ=>some (σ.set i (some (false,d)))
noncomputable def uh (i j:Nat):FG:=fun d σ=>match d with
 | .tup [x,y]=>some ((σ.set i (some (false,x))).set j (some (false,y)))
 | _=>none
noncomputable def yj:FS:=fun σ=>some (.nx σ)
noncomputable def zb (a b:FS):FS:=fun σ=>(a σ).bind fun f=>match f with
 | .nx σ'=>b σ'
 | f=>some f
noncomputable def yW (i:Nat) (e:FE):FS:=fun σ=>(e σ).bind fun d=>some (.nx (σ.set i (some (false,d))))
noncomputable def jp (i:Nat) (e:FE):FS:=fun σ=>(e σ).bind fun d=>some (.nx (σ.set i (some (true,d))))
noncomputable def zu (e:FE):FS:=fun σ=>(e σ).bind fun d=>some (.rt false d)
noncomputable def uy (e:FE):FS:=fun σ=>(e σ).bind fun d=>some (.rt true d)
noncomputable def qi (i:Nat):FS:=fun σ=>match σ[i]? with
 | some (some (true,d))=>some (.rt true d)
 | _=>none
noncomputable def yg (c:FT) (a b:FS):FS:=fun σ=>(c σ).bind fun k=>match k with
 | true=>a σ
 | false=>b σ
noncomputable def qc (g:FG) (b:FS):List D->zr->Option Fl
 | [],σ=>some (.nx σ)
 | d::r,σ=>(g d σ).bind fun σ1=>(b σ1).bind fun f=>match f with
  | .nx σ2=>qc g b r σ2
  | .ct σ2=>qc g b r σ2
  | .bk σ2=>some (.nx σ2)
  | .rt o d=>some (.rt o d)
noncomputable def jo (it:FA) (g:FG) (b:FS):FS:=fun σ=>(it σ).bind fun ds=>qc g b ds σ
noncomputable def kn:Nat:=100000000
noncomputable def GI (i:Nat):FS:=fun σ=>match σ[i]? with
 | some (some (_,d))=>some (.nx (σ.set i (some (false,d))))
 | _=>none
noncomputable def GJ (i:Nat) (F:D->Option D):FS:=fun σ=>match σ[i]? with
 | some (some (true,d))=>(F d).bind fun d'=>some (.nx (σ.set i (some (true,d'))))
 | _=>none
noncomputable def Y0 (i:Nat) (F:D->D->Option D) (e:FE):FS:=fun σ=>match σ[i]? with
 | some (some (true,d))=>(e σ).bind fun x=>(F d x).bind fun d'=>some (.nx (σ.set i (some (true,d'))))
 | _=>none
noncomputable def Wk:D->D->Option D
 | .lst xs,y=>if xs.length<yP then some (.lst (xs++[y])) else none
 | _,_=>none
noncomputable def kJ (i:Nat) (k v:FE):FS:=fun σ=>(v σ).bind fun y=>match σ[i]? with
 | some (some (true,.dic ks ds))=>(k σ).bind fun x=>(wp x).bind fun x=>if ks.length<yP then some (.nx (σ.set i (some (true,.dic (xm ks x) (xH ks ds x y))))) else none
 | _=>none
noncomputable def jS (ks:List (Sum Int Str)) (x:D):Option D:=(wp x).bind fun k=>some (.bl (vA ks k))
noncomputable def We (d k e:FE):FE:=fun σ=>(d σ).bind fun x=>match x with
 | .dic ks ds=>(k σ).bind fun y=>(e σ).bind fun z=>(wp y).bind fun y=>some ((getK ks ds y).getD z)
 | _=>none
noncomputable def xE (g:FG) (c:FT) (e:FE) (σ:zr):List D->Option (List D)
 | []=>some []
 | d::r=>(g d σ).bind fun σ1=>(c σ1).bind fun k=>match k with
  | true=>(e σ1).bind fun x=>(xE g c e σ r).bind fun xs=>some (x::xs)
  | false=>xE g c e σ r
noncomputable def xW:FT:=fun _=>some true
noncomputable def vj (n:Nat) (it:FA) (g:FG) (c:FT) (e:FE):FE:=fun σ=>(it σ).bind fun ds=>(xE g c e (σ++List.replicate n none) ds).bind fun xs=>some (.lst xs)
noncomputable def yQ (n:Nat) (b:FS) (ds:List D):Option (Bool×D):=(b (ds.map (fun d=>some (false,d))++List.replicate (n - ds.length) none)).bind fun f=>match f with
 | .rt o d=>some (o,d)
 | .nx _=>some (false,.non)
 | _=>none
noncomputable def zl (F:List D->Option (Bool×D)) (a:FA):FE:=fun σ=>(a σ).bind fun ds=>(F ds).bind fun r=>some r.2
noncomputable def wK (F:List D->Option (Bool×D)) (a:FA):FE:=fun σ=>(a σ).bind fun ds=>(F ds).bind fun r=>match r with
 | (true,d)=>some d
 | _=>none
end L3
namespace L3
open PySem PySem.Spec PyProof.Rows L2
noncomputable abbrev St:=L2.St
noncomputable def OW (_:PySem.W.Frag) (H:Hp) (a:Addr) (kvs:List (zM×V)):Prop:=Rd H a (.dK kvs)
mutual
noncomputable def zK (K:PySem.W.Frag) (H:Hp):D->V->Prop
 | .non,v=>v=.non
 | .bl b,v=>v=.bl b
 | .int i,v=>v=.int i
 | .str x,v=>v=.str x/\x.length<=sizeLine
 | .tup ds,v=>∃ a vs,v=.ref a/\yM K H a vs/\Reps K H ds vs/\ds.length<=sizeLine
 | .lst ds,v=>∃ a vs,v=.ref a/\yC K H a vs/\Reps K H ds vs/\ds.length<=sizeLine
 | .dic ks ds,v=>∃ a vs,v=.ref a/\OW K H a (ks.zip vs)/\ks.length=vs.length/\Reps K H ds vs/\ds.length<=sizeLine
 | .exc x,v=>∃ a C,v=.ref a/\PySem.W.nsIn K mainGlobals x=some (some (.ref C))/\H a=some (.ext (OQ a C))
 | .obj x fs ds,v=>∃ a C dx vs,v=.ref a/\PySem.W.nsIn K mainGlobals x=some (some (.ref C))/\H a=some (.ins C dx (fs.zip vs))/\fs.length=vs.length/\Reps K H ds vs
noncomputable def Reps (K:PySem.W.Frag) (H:Hp):List D->List V->Prop
 | [],vs=>vs=[]
 | d::ds,vs=>∃ v r,vs=v::r/\zK K H d v/\Reps K H ds r
end
section
variable {K:PySem.W.Frag} {G H H':Hp}
theorem Rd.mono {a:Addr} {u:HO} (s:zf H H') (h:Rd H a u):Rd H' a u:=by
 rcases h with h | ⟨o,h⟩
 ·exact .inl (s _ _ h)
 ·exact .inr ⟨o,s _ _ h⟩
theorem wb {a:Addr} {xs:List V} (s:zf H H') (h:yM K H a xs):yM K H' a xs:=by
 rcases h with h | h
 ·exact .inl (Rd.mono s h)
 ·exact .inr h
theorem wE {a:Addr} {xs:List V} (s:zf H H') (h:yC K H a xs):yC K H' a xs:=by
 rcases h with h | h
 ·exact .inl (Rd.mono s h)
 ·exact .inr h
theorem Reps.imp:∀ {ds:List D} {vs:List V},(∀ d∈ds,∀ v,zK K H d v->zK K H' d v)->Reps K H ds vs->Reps K H' ds vs
 | [],_,_,h=>h
 | d::ds,vs,f,h=>by
  obtain ⟨v,r,rfl,hv,hr⟩:=h
  exact ⟨v,r,rfl,f d List.mem_cons_self v hv,Reps.imp (fun d' m=>f d' (List.mem_cons_of_mem _ m)) hr⟩
theorem zK.mono (s:zf H H'):∀ {d:D} {v:V},zK K H d v->zK K H' d v:=fun {d}=>by
 refine D.ind (P:=fun d=>∀ v,zK K H d v->zK K H' d v) (fun v h=>h) (fun b v h=>h) (fun i v h=>h) (fun x v h=>h) ?_ ?_ ?_ ?_ ?_ d _
 ·rintro xs ih v ⟨a,vs,e,q,r,l⟩
  exact ⟨a,vs,e,wb s q,Reps.imp ih r,l⟩
 ·rintro xs ih v ⟨a,vs,e,q,r,l⟩
  exact ⟨a,vs,e,wE s q,Reps.imp ih r,l⟩
 ·rintro ks xs ih v ⟨a,vs,e,q,z,r,l⟩
  exact ⟨a,vs,e,Rd.mono s q,z,Reps.imp ih r,l⟩
 ·rintro x v ⟨a,C,e,n,h⟩
  exact ⟨a,C,e,n,s _ _ h⟩
 ·rintro x fs xs ih v ⟨a,C,dx,vs,e,n,h,l,r⟩
  exact ⟨a,C,dx,vs,e,n,s _ _ h,l,Reps.imp ih r⟩
theorem Reps.mono (s:zf H H') {ds:List D} {vs:List V} (h:Reps K H ds vs):Reps K H' ds vs:=Reps.imp (fun _ _ _=>zK.mono s) h
theorem Reps.length:∀ {ds:List D} {vs:List V},Reps K H ds vs->vs.length=ds.length
 | [],_,h=>by cases (show _=[] from h); rfl
 | d::ds,_,h=>by
  obtain ⟨v,r,rfl,_,hr⟩:=h
  rw [List.length_cons,List.length_cons,Reps.length hr]
theorem Reps.get:∀ {ds:List D} {vs:List V} {i:Nat} {d:D},Reps K H ds vs->ds[i]?=some d->∃ v,vs[i]?=some v/\zK K H d v
 | [],_,_,_,_,e=>by cases e
 | d::ds,_,0,_,h,e=>by
  obtain ⟨v,r,rfl,hv,hr⟩:=h
  cases e
  exact ⟨v,rfl,hv⟩
 | d::ds,_,i+1,d',h,e=>by
  obtain ⟨v,r,rfl,hv,hr⟩:=h
  exact Reps.get (i:=i) hr (by simpa using e)
theorem Reps.at {ds:List D} {vs:List V} {i:Nat} {v:V} (h:Reps K H ds vs) (e:vs[i]?=some v):∃ d,ds[i]?=some d/\zK K H d v:=by
 have l:=h.length
 have hi:i<ds.length:=by rw [<- l]; exact (List.getElem?_eq_some_iff.mp e).1
 obtain ⟨v',e',r⟩:=h.get (List.getElem?_eq_getElem hi)
 rw [e] at e'
 cases e'
 exact ⟨_,List.getElem?_eq_getElem hi,r⟩
theorem Reps.append:∀ {ds es:List D} {vs us:List V},Reps K H ds vs->Reps K H es us->Reps K H (ds++es) (vs++us)
 | [],_,_,_,h,g=>by cases (show _=[] from h); exact g
 | d::ds,_,_,_,h,g=>by
  obtain ⟨v,r,rfl,hv,hr⟩:=h
  exact ⟨v,_,rfl,hv,Reps.append hr g⟩
theorem Reps.one {d:D} {v:V} (h:zK K H d v):Reps K H [d] [v]:=⟨v,[],rfl,h,rfl⟩
theorem Reps.ints:∀ {ns:List Int},Reps K H (ns.map D.int) (ns.map V.int)
 | []=>rfl
 | n::ns=>⟨_,_,rfl,rfl,Reps.ints⟩
end
structure zL (G H G' H':Hp):Prop where
 g:zf G G'
 h:zf H H'
 gh:zf G' H'
 new:∀ p,G' p≠none->G p≠none\/H p=none
section
variable {G H G' H' G0 H0 G1 H1 G2 H2:Hp} {p:Addr} {o:HO}
theorem zL.refl (s:zf G H):zL G H G H:=⟨zf.refl _,zf.refl _,s,fun _ h=>.inl h⟩
theorem zL.trans (a:zL G H G1 H1) (b:zL G1 H1 G2 H2):zL G H G2 H2:=⟨a.g.trans b.g,a.h.trans b.h,b.gh,fun p h=>by
 rcases b.new p h with z | z
 ·exact a.new p z
 ·exact .inr (a.h.free z)⟩
theorem zL.rebase (a:zL G0 H0 G1 H1) (b:zL G1 H0 G2 H2):zL G0 H0 G2 H2:=⟨a.g.trans b.g,b.h,b.gh,fun p h=>by
 rcases b.new p h with z | z
 ·exact a.new p z
 ·exact .inr z⟩
theorem zL.far (a:zL G0 H0 G1 H1):zL G1 H0 G1 H1:=⟨zf.refl _,a.h,a.gh,fun _ h=>.inl h⟩
theorem O8 {H:Hp} {p q:Addr} {o:HO} (h:zR H p o q≠none):q=p\/H q≠none:=by
 by_cases e:q=p
 ·exact .inl e
 ·rw [z_ e] at h
  exact .inr h
theorem GK (s:zf G H):zf (zR G p o) (zR H p o):=fun b u e=>by
 by_cases hb:b=p
 ·subst hb
  rw [yk] at e ⊢
  exact e
 ·rw [z_ hb] at e ⊢
  exact s _ _ e
theorem zL.lay (s:zf G H) (h:H p=none):zL G H (zR G p o) (zR H p o):=⟨vG (s.free h) o,vG h o,GK s,fun q z=>by
 rcases O8 z with e | e
 ·exact .inr (e ▸ h)
 ·exact .inl e⟩
theorem zL.layO (s:zf G H) (h:H p=none):zL G H G (zR H p o):=⟨zf.refl _,vG h o,s.trans (vG h o),fun _ z=>.inl z⟩
theorem zL.frz (a:zL G H G1 H1) (h:H p=none) (g:G1 p=none) (e:H1 p=some o):zL G H (zR G1 p o) H1:=⟨a.g.trans (vG g o),a.h,fun b u q=>by
 by_cases hb:b=p
 ·subst hb
  rw [yk] at q
  cases q
  exact e
 ·rw [z_ hb] at q
  exact a.gh _ _ q,fun q z=>by
 rcases O8 z with w | w
 ·exact .inr (w ▸ h)
 ·exact a.new q w⟩
end
noncomputable def xT (K:PySem.W.Frag) (G H:Hp) (d:D) (p:Addr):Prop:=match d with
 | .lst ds=>∃ vs,H p=some (.lst vs)/\Reps K G ds vs/\ds.length<=sizeLine
 | .dic ks ds=>∃ vs,H p=some (.dK (ks.zip vs))/\ks.length=vs.length/\Reps K G ds vs/\ds.length<=sizeLine
 | _=>False
section
variable {K:PySem.W.Frag} {G H G' H':Hp} {d:D} {p:Addr}
theorem xT.some (h:xT K G H d p):H p≠none:=by
 cases d with
 | lst ds=>obtain ⟨vs,e,_⟩:=h; rw [e]; exact fun z=>nomatch z
 | dic ks ds=>obtain ⟨vs,e,_⟩:=h; rw [e]; exact fun z=>nomatch z
 | _=>exact h.elim
theorem xT.mono (g:zf G G') (h:zf H H') (o:xT K G H d p):xT K G' H' d p:=by
 cases d with
 | lst ds=>obtain ⟨vs,e,r,l⟩:=o; exact ⟨vs,h _ _ e,r.mono g,l⟩
 | dic ks ds=>obtain ⟨vs,e,z,r,l⟩:=o; exact ⟨vs,h _ _ e,z,r.mono g,l⟩
 | _=>exact o.elim
theorem xT.rep (s:zf G H) (o:xT K G H d p):zK K H d (.ref p):=by
 cases d with
 | lst ds=>obtain ⟨vs,e,r,l⟩:=o; exact ⟨p,vs,rfl,yC.of e,r.mono s,l⟩
 | dic ks ds=>obtain ⟨vs,e,z,r,l⟩:=o; exact ⟨p,vs,rfl,.inl e,z,r.mono s,l⟩
 | _=>exact o.elim
theorem xT.frz (o:xT K G H d p) (g:G p=none):∃ u,H p=Option.some u/\zK K (zR G p u) d (.ref p):=by
 cases d with
 | lst ds=>obtain ⟨vs,e,r,l⟩:=o; exact ⟨_,e,p,vs,rfl,yC.of yk,r.mono (vG g _),l⟩
 | dic ks ds=>obtain ⟨vs,e,z,r,l⟩:=o; exact ⟨_,e,p,vs,rfl,.inl yk,z,r.mono (vG g _),l⟩
 | _=>exact o.elim
end
structure zk (K:PySem.W.Frag) (n:Nat) (G0 H0 G H:Hp) (τ:zr) (σ:St):Prop where
 ext:zL G0 H0 G H
 l1:σ.length=n
 l2:τ.length=n
 fr:∀ (i:Nat) (d:D),τ[i]?=some (some (false,d))->∃ v,σ[i]?=some (some v)/\zK K G d v
 ow:∀ (i:Nat) (d:D),τ[i]?=some (some (true,d))->∃ p,σ[i]?=some (some (V.ref p))/\G p=none/\H0 p=none/\xT K G H d p
 ap:∀ (i j:Nat) (d e:D) (p:Addr),i≠j->τ[i]?=some (some (true,d))->τ[j]?=some (some (true,e))->σ[i]?=some (some (V.ref p))->σ[j]?=some (some (V.ref p))->False
section
variable {K:PySem.W.Frag} {n:Nat} {G0 H0 G H G' H':Hp} {τ:zr} {σ:St}
theorem zk.go (E:zk K n G0 H0 G H τ σ) (x:zL G H G' H'):zk K n G0 H0 G' H' τ σ:=⟨E.ext.trans x,E.l1,E.l2,fun i d h=>by
 obtain ⟨v,e,r⟩:=E.fr i d h
 exact ⟨v,e,r.mono x.g⟩,fun i d h=>by
 obtain ⟨p,e,g,z,o⟩:=E.ow i d h
 refine ⟨p,e,?_,z,o.mono x.g x.h⟩
 cases q:G' p with
 | none=>rfl
 | some u=>
  rcases x.new p (by rw [q]; exact fun z=>nomatch z) with w | w
  ·exact absurd g w
  ·exact absurd w o.some,E.ap⟩
theorem zk.far (E:zk K n G0 H0 G H τ σ):zk K n G H0 G H τ σ:=⟨E.ext.far,E.l1,E.l2,E.fr,E.ow,E.ap⟩
theorem zk.near {Ga Ha:Hp} (a:zL G0 H0 Ga Ha) (E:zk K n Ga H0 G H τ σ):zk K n G0 H0 G H τ σ:=⟨a.rebase E.ext,E.l1,E.l2,E.fr,E.ow,E.ap⟩
theorem zk.lt {i:Nat} {s:Option Sl} (E:zk K n G0 H0 G H τ σ) (h:τ[i]?=some s):i<n:=by
 rw [<- E.l2]
 exact (List.getElem?_eq_some_iff.mp h).1
theorem wx {α:Type} {xs:List α} {i j:Nat} {x y:α} (h:(xs.set i x)[j]?=some y):(j=i/\y=x)\/(j≠i/\xs[j]?=some y):=by
 rw [List.getElem?_set] at h
 by_cases e:i=j
 ·subst e
  rw [if_pos rfl] at h
  split at h
  ·cases h; exact .inl ⟨rfl,rfl⟩
  ·cases h
 ·rw [if_neg e] at h
  exact .inr ⟨fun z=>e z.symm,h⟩
theorem gg {α:Type} {xs:List α} {i:Nat} {x:α} (h:i<xs.length):(xs.set i x)[i]?=some x:=by rw [List.getElem?_set,if_pos rfl,if_pos h]
theorem vl {α:Type} {xs:List α} {i j:Nat} {x:α} (h:j≠i):(xs.set i x)[j]?=xs[j]?:=by rw [List.getElem?_set,if_neg (fun z=>h z.symm)]
theorem zk.set {i:Nat} {d:D} {v:V} (E:zk K n G0 H0 G H τ σ) (hi:i<n) (r:zK K G d v):zk K n G0 H0 G H (τ.set i (some (false,d))) (σ.set i (some v)):=⟨E.ext,by rw [List.length_set]; exact E.l1,by rw [List.length_set]; exact E.l2,fun j e h=>by
 rcases wx h with ⟨rfl,z⟩ | ⟨ne,z⟩
 ·cases z
  exact ⟨v,gg (by rw [E.l1]; exact hi),r⟩
 ·rw [vl ne]
  exact E.fr j e z,fun j e h=>by
 rcases wx h with ⟨rfl,z⟩ | ⟨ne,z⟩
 ·cases z
 ·rw [vl ne]
  exact E.ow j e z,fun j k e f p hne h1 h2=>by
 rcases wx h1 with ⟨rfl,z⟩ | ⟨ne,z⟩
 ·cases z
 ·rcases wx h2 with ⟨rfl,z'⟩ | ⟨ne',z'⟩
  ·cases z'
  ·rw [vl ne,vl ne']
   exact E.ap j k e f p hne z z'⟩
theorem zk.setO {i:Nat} {d:D} {p:Addr} (E:zk K n G0 H0 G H τ σ) (hi:i<n) (hg:G p=none) (h0:H0 p=none) (o:xT K G H d p) (hn:∀ (j:Nat) (e:D),j≠i->τ[j]?=some (some (true,e))->σ[j]?=some (some (V.ref p))->False) :
  zk K n G0 H0 G H (τ.set i (some (true,d))) (σ.set i (some (.ref p))):=⟨E.ext,by rw [List.length_set]; exact E.l1,by rw [List.length_set]; exact E.l2,fun j e h=>by
 rcases wx h with ⟨rfl,z⟩ | ⟨ne,z⟩
 ·cases z
 ·rw [vl ne]
  exact E.fr j e z,fun j e h=>by
 rcases wx h with ⟨rfl,z⟩ | ⟨ne,z⟩
 ·cases z
  exact ⟨p,gg (by rw [E.l1]; exact hi),hg,h0,o⟩
 ·rw [vl ne]
  exact E.ow j e z,fun j k e f q hne h1 h2 h3 h4=>by
 rcases wx h1 with ⟨rfl,z⟩ | ⟨ne,z⟩
 ·rcases wx h2 with ⟨rfl,z'⟩ | ⟨ne',z'⟩
  ·exact hne rfl
  ·rw [gg (by rw [E.l1]; exact hi)] at h3
   rw [vl ne'] at h4
   cases h3
   exact hn k f ne' z' h4
 ·rcases wx h2 with ⟨rfl,z'⟩ | ⟨ne',z'⟩
  ·rw [gg (by rw [E.l1]; exact hi)] at h4
   rw [vl ne] at h3
   cases h4
   exact hn j e ne z h3
  ·rw [vl ne] at h3
   rw [vl ne'] at h4
   exact E.ap j k e f q hne z z' h3 h4⟩
theorem zk.newO {i:Nat} {p:Addr} (E:zk K n G0 H0 G H τ σ) (hp:H p=none):∀ (j:Nat) (e:D),j≠i->τ[j]?=some (some (true,e))->σ[j]?=some (some (V.ref p))->False:=fun j e _ h1 h2=>by
 obtain ⟨q,e1,_,_,o⟩:=E.ow j e h1
 rw [h2] at e1
 cases e1
 exact o.some hp
end
section
variable (X:Cx)
structure SE (e:Expr) (f:FE):Prop where
 h:∃ t,PE X e t/\∀ {G0 H0 G H:Hp} {τ:zr} {σ:St} {d:D} {Q:VK},zk X.K X.N.length G0 H0 G H τ σ->f τ=some d->(∀ v G' H',zL G H G' H'->zK X.K G' d v->Q v H')->t σ H Q
structure SB (e:Expr) (f:FE):Prop where
 h:∃ t,PE X e t/\∀ {G0 H0 G H:Hp} {τ:zr} {σ:St} {d:D} {Q:VK},zk X.K X.N.length G0 H0 G H τ σ->f τ=some d->(∀ v G' H',zL G H G' H'->zK X.K H' d v->Q v H')->t σ H Q
structure SF (e:Expr) (f:FE):Prop where
 h:∃ t,PE X e t/\∀ {G0 H0 G H:Hp} {τ:zr} {σ:St} {d:D} {Q:VK},zk X.K X.N.length G0 H0 G H τ σ->f τ=some d->(∀ p G' H',zL G H G' H'->H p=none->G' p=none->xT X.K G' H' d p->Q (.ref p) H')->t σ H Q
structure ST (e:Expr) (f:FT):Prop where
 h:∃ t,PT X e t/\∀ {G0 H0 G H:Hp} {τ:zr} {σ:St} {d:Bool} {Q:Bool->Hp->Prop},zk X.K X.N.length G0 H0 G H τ σ->f τ=some d->(∀ G' H',zL G H G' H'->Q d H')->t σ H Q
structure SW (e:Expr) (f:FT):Prop where
 h:∃ t,PW X e t/\∀ {G0 H0 G H:Hp} {τ:zr} {σ:St} {d:Bool} {Q:Bool->Hp->Prop},zk X.K X.N.length G0 H0 G H τ σ->f τ=some d->(∀ G' H',zL G H G' H'->Q d H')->t σ H Q
structure SA (es:List Expr) (f:FA):Prop where
 h:∃ t,PA X es t/\∀ {G0 H0 G H:Hp} {τ:zr} {σ:St} {ds:List D} {Q:List V->Hp->Prop},zk X.K X.N.length G0 H0 G H τ σ->f τ=some ds->(∀ vs G' H',zL G H G' H'->Reps X.K G' ds vs->Q vs H')->t σ H Q
structure Z5 (es:List Expr) (f:FA):Prop where
 h:∃ t,PA X es t/\∀ {G0 H0 G H:Hp} {τ:zr} {σ:St} {ds:List D} {Q:List V->Hp->Prop},zk X.K X.N.length G0 H0 G H τ σ->f τ=some ds->(∀ vs G' H',zL G H G' H'->Reps X.K H' ds vs->Q vs H')->t σ H Q
end
noncomputable def v6 (K:PySem.W.Frag) (n:Nat) (G0 H0:Hp) (E:wS):Fl->Prop
 | .nx τ=>∀ σ G H,zk K n G0 H0 G H τ σ->E.nx σ H
 | .bk τ=>∀ σ G H,zk K n G0 H0 G H τ σ->E.bk σ H
 | .ct τ=>∀ σ G H,zk K n G0 H0 G H τ σ->E.ct σ H
 | .rt false d=>∀ v G H,zL G0 H0 G H->zK K G d v->E.rt v H
 | .rt true d=>∀ p G H,zL G0 H0 G H->H0 p=none->G p=none->xT K G H d p->E.rt (.ref p) H
section
variable (X:Cx)
structure SS (st:Stmt) (f:FS):Prop where
 h:∃ t,PS X st t/\∀ {G0 H0 G H:Hp} {τ:zr} {σ:St} {fl:Fl} {E:wS},zk X.K X.N.length G0 H0 G H τ σ->f τ=some fl->v6 X.K X.N.length G0 H0 E fl->t E σ H
structure vf (st:List Stmt) (f:FS):Prop where
 h:∃ t,x_ X st t/\∀ {G0 H0 G H:Hp} {τ:zr} {σ:St} {fl:Fl} {E:wS},zk X.K X.N.length G0 H0 G H τ σ->f τ=some fl->v6 X.K X.N.length G0 H0 E fl->t E σ H
end
structure qR (K:PySem.W.Frag) (J:It) (G:Hp) (ds:List D):Prop where
 go:∀ i G2 H,zf G G2->zf G2 H->i<ds.length->J.go i H
 yld:∀ i G2 H x H',zf G G2->zf G2 H->i<ds.length->J.yld i H x H'->∃ G3 d,zL G2 H G3 H'/\ds[i]?=some d/\zK K G3 d x
 stop:∀ i G2 H,zf G G2->zf G2 H->ds.length<=i->J.stop i H
structure SI (X:Cx) (tg iter:Expr) (f:FA):Prop where
 h:∃ wi,PI X tg iter wi/\∀ {G0 H0 G H:Hp} {τ:zr} {σ:St} {ds:List D} {R:It->Hp->Prop},zk X.K X.N.length G0 H0 G H τ σ->f τ=some ds->(∀ J G' H',zL G H G' H'->ds.length<=sizeLine->qR X.K J G' ds->R J H')->wi σ H R
noncomputable def zm (K:PySem.W.Frag) (F:List D->Option (Bool×D)):Sp:=fun vs H Q _=>∃ G ds o d,zf G H/\Reps K G ds vs/\F ds=some (o,d)/\
 match o with
 | false=>∀ v G' H',zL G H G' H'->zK K G' d v->Q v H'
 | true=>∀ p G' H',zL G H G' H'->H p=none->G' p=none->xT K G' H' d p->Q (.ref p) H'
end L3
namespace L3
open PySem PySem.Spec PyProof.Rows L2
theorem zD {α β:Type} {o:Option α} {f:α->Option β} {b:β} (h:o.bind f=some b):∃ a,o=some a/\f a=some b:=by
 cases o with
 | none=>cases h
 | some a=>exact ⟨a,rfl,h⟩
theorem Wg {i:Nat} {τ:zr} {d:D} (h:z6 i τ=some d):τ[i]?=some (some (false,d)):=by
 unfold z6 at h
 split at h
 ·rename_i e
  cases h
  exact e
 ·cases h
theorem M6 {i:Nat} {τ:zr} {d:D} (h:gb i τ=some d):∃ b,τ[i]?=some (some (b,d)):=by
 unfold gb at h
 split at h
 ·rename_i b d' e
  cases h
  exact ⟨_,e⟩
 ·cases h
section
variable {X:Cx} {x:Str} {p pos apos cpos p2:Pos} {e a b c o:Expr} {es za:List Expr} {f fa fb fc:FE} {ft fu:FT} {fs:FA} {F:D->D->Option D} {r:R2}
theorem SE.sb (h:SE X e f):SB X e f:=⟨let ⟨t,p,k⟩:=h.h; ⟨t,p,fun E hf q=>k E hf fun v G' H' x r=>q v G' H' x (r.mono x.gh)⟩⟩
theorem SF.se (h:SF X e f):SE X e f:=⟨let ⟨t,p,k⟩:=h.h; ⟨t,p,fun E hf q=>k E hf fun p G' H' x hp gp o=>by
 obtain ⟨u,hu,r⟩:=o.frz gp
 exact q _ _ _ (x.frz hp gp hu) r⟩⟩
theorem zJ (h:SE X e f):SB X e f:=h.sb
theorem xA (h:SF X e f):SE X e f:=h.se
theorem z7 (i:Nat) {x:Str} {pos:Pos} (hN:X.N[i]?=some x:=by rfl) (hv:qQ X.env.scope x:=by first | exact Or.inl rfl | exact Or.inr (Or.inl rfl) | exact Or.inr (Or.inr rfl)) (hd:(x == ("__debug__" : Str))=false:=by decide)
  (hcd:(x == ("__classdict__" : Str))=false:=by decide):SE X (.Name x pos) (z6 i):=⟨⟨_,kC hN hv hd hcd,fun E hf q=>by
 obtain ⟨v,e,r⟩:=E.fr _ _ (Wg hf)
 exact ⟨v,e,q v _ _ (zL.refl E.ext.gh) r⟩⟩⟩
theorem GL (i:Nat) {x:Str} {pos:Pos} (hN:X.N[i]?=some x:=by rfl) (hv:qQ X.env.scope x:=by first | exact Or.inl rfl | exact Or.inr (Or.inl rfl) | exact Or.inr (Or.inr rfl)) (hd:(x == ("__debug__" : Str))=false:=by decide)
  (hcd:(x == ("__classdict__" : Str))=false:=by decide):SB X (.Name x pos) (gb i):=⟨⟨_,kC hN hv hd hcd,fun E hf q=>by
 obtain ⟨b,hb⟩:=M6 hf
 cases b with
 | false=>
  obtain ⟨v,e,r⟩:=E.fr _ _ hb
  exact ⟨v,e,q v _ _ (zL.refl E.ext.gh) (r.mono E.ext.gh)⟩
 | true=>
  obtain ⟨p,e,_,_,o⟩:=E.ow _ _ hb
  exact ⟨_,e,q _ _ _ (zL.refl E.ext.gh) (o.rep E.ext.gh)⟩⟩⟩
theorem kO {v:V} {d:D} (h:PE X e (tC v)) (r:∀ H,zK X.K H d v):SE X e (eC d):=⟨⟨_,h,fun E hf q=>by
 cases hf
 exact q v _ _ (zL.refl E.ext.gh) (r _)⟩⟩
theorem zE {i k pos}:SE X (.Constant (.int i) k pos) (eC (.int i)):=kO Cn fun _=>rfl
theorem vw {i k pos}:SE X (.Constant (.bool i) k pos) (eC (.bl i)):=kO CW fun _=>rfl
theorem jr {k pos}:SE X (.Constant .none k pos) (eC .non):=kO Cq fun _=>rfl
theorem zc {x k pos} (h:x.length<=1000:=by decide):SE X (.Constant (.str x) k pos) (eC (.str x)):=kO Cu fun _=>⟨rfl,zW h⟩
theorem xL {v:V} {d:D} (h:yL X.mg x v) (r:∀ H,zK X.K H d v) (hg:Gl X x) (hd:(x == ("__debug__" : Str))=false:=by decide):SE X (.Name x pos) (eC d):=kO (Zq h hg hd) r
noncomputable def xz (K:PySem.W.Frag) (r:R2) (F:D->D->Option D):Prop:=∀ G H x y u v d (Q:VK),zf G H->zK K G x u->zK K G y v->F x y=some d->(∀ w G' H',zL G H G' H'->zK K G' d w->Q w H')->r u v H Q
noncomputable def qM (K:PySem.W.Frag) (r:R2) (F:D->D->Option D):Prop:=∀ H x y u v d (Q:VK),zK K H x u->zK K H y v->F x y=some d->∃ k,d=.bl k/\(Q (.bl k) H->r u v H Q)
theorem zU {op:Operator} (ho:yB X (binaryOp op) r) (hF:xz X.K r F) (ha:SE X a fa) (hb:SE X b fb):SE X (.BinOp a op b pos) (e2 F fa fb):=by
 obtain ⟨ta,pa,ka⟩:=ha.h
 obtain ⟨tb,pb,kb⟩:=hb.h
 refine ⟨⟨_,VW ho pa pb,fun E hf q=>?_⟩⟩
 obtain ⟨x,hx,hf⟩:=zD hf
 obtain ⟨y,hy,hf⟩:=zD hf
 refine ka E hx fun v G1 H1 x1 r1=>?_
 refine kb (E.go x1) hy fun u G2 H2 x2 r2=>?_
 exact hF G2 H2 x y v u _ _ x2.gh (r1.mono x2.g) r2 hf fun w G' H' x3 r3=>q w G' H' (x1.trans (x2.trans x3)) r3
theorem zQ (hr:vH X r) (hF:xz X.K r F) (ha:SE X a fa) (hb:SE X b fb) (hs:kE b=true:=by rfl):SE X (.Subscript a b pos) (e2 F fa fb):=by
 obtain ⟨ta,pa,ka⟩:=ha.h
 obtain ⟨tb,pb,kb⟩:=hb.h
 refine ⟨⟨_,Ja hr pa pb (Jd hs),fun E hf q=>?_⟩⟩
 obtain ⟨x,hx,hf⟩:=zD hf
 obtain ⟨y,hy,hf⟩:=zD hf
 refine ka E hx fun v G1 H1 x1 r1=>?_
 refine kb (E.go x1) hy fun u G2 H2 x2 r2=>?_
 exact hF G2 H2 x y v u _ _ x2.gh (r1.mono x2.g) r2 hf fun w G' H' x3 r3=>q w G' H' (x1.trans (x2.trans x3)) r3
theorem wN {op:CmpOp} (ho:yB X (compareOp op) r) (hF:qM X.K r F) (ha:SB X a fa) (hb:SB X b fb) (hm:behindInMarks op b=false):SE X (.Compare a [op] [b] pos) (e2 F fa fb):=by
 obtain ⟨ta,pa,ka⟩:=ha.h
 obtain ⟨tb,pb,kb⟩:=hb.h
 refine ⟨⟨_,Ci ho pa pb hm,fun E hf q=>?_⟩⟩
 obtain ⟨x,hx,hf⟩:=zD hf
 obtain ⟨y,hy,hf⟩:=zD hf
 refine ka E hx fun v G1 H1 x1 r1=>?_
 refine kb (E.go x1) hy fun u G2 H2 x2 r2=>?_
 obtain ⟨k,rfl,z⟩:=hF H2 x y v u _ _ (r1.mono x2.h) r2 hf
 exact z (q _ _ _ (x1.trans x2) rfl)
theorem yI {op:CmpOp} (ho:yB X (compareOp op) r) (hF:qM X.K r F) (ha:SB X a fa) (hb:SB X b fb) (hm:behindInMarks op b=false):ST X (.Compare a [op] [b] pos) (tE (e2 F fa fb)):=by
 obtain ⟨ta,pa,ka⟩:=ha.h
 obtain ⟨tb,pb,kb⟩:=hb.h
 refine ⟨⟨_,Jo ho pa pb hm,fun E hf q=>?_⟩⟩
 obtain ⟨z,hz,hf⟩:=zD hf
 obtain ⟨x,hx,hz⟩:=zD hz
 obtain ⟨y,hy,hz⟩:=zD hz
 refine ka E hx fun v G1 H1 x1 r1=>?_
 refine kb (E.go x1) hy fun u G2 H2 x2 r2=>?_
 obtain ⟨k,rfl,z⟩:=hF H2 x y v u _ _ (r1.mono x2.h) r2 hz
 cases hf
 exact z ⟨_,rfl,q _ _ (x1.trans x2)⟩
theorem w_ (h:SE X e f) (he:VZ e=true:=by rfl):ST X e (tE f):=by
 obtain ⟨t,p,k⟩:=h.h
 refine ⟨⟨_,Jp p (Je he),fun E hf q=>?_⟩⟩
 obtain ⟨z,hz,hf⟩:=zD hf
 refine k E hz fun v G' H' x r=>?_
 cases z<;>first | cases hf | skip
 cases r
 exact ⟨_,rfl,q _ _ x⟩
theorem Uu (h:ST X a ft):SW X (.BoolOp .And [a] pos) ft:=⟨let ⟨t,p,k⟩:=h.h; ⟨t,Jy p,k⟩⟩
theorem Y9 (h:ST X a ft):SW X (.BoolOp .Or [a] pos) ft:=⟨let ⟨t,p,k⟩:=h.h; ⟨t,EY p,k⟩⟩
theorem Us (ha:ST X a ft) (hb:SW X (.BoolOp .And (b::za) pos) fu):SW X (.BoolOp .And (a::b::za) pos) (kZ ft fu):=by
 obtain ⟨ta,pa,ka⟩:=ha.h
 obtain ⟨tb,pb,kb⟩:=hb.h
 refine ⟨⟨_,Jx pa pb,fun E hf q=>?_⟩⟩
 obtain ⟨k,hk,hf⟩:=zD hf
 refine ka E hk fun G1 H1 x1=>?_
 cases k with
 | true=>exact ul (kb (E.go x1) hf fun G' H' x2=>q _ _ (x1.trans x2))
 | false=>cases hf; exact uk (q _ _ x1)
theorem Y8 (ha:ST X a ft) (hb:SW X (.BoolOp .Or (b::za) pos) fu):SW X (.BoolOp .Or (a::b::za) pos) (ju ft fu):=by
 obtain ⟨ta,pa,ka⟩:=ha.h
 obtain ⟨tb,pb,kb⟩:=hb.h
 refine ⟨⟨_,EX pa pb,fun E hf q=>?_⟩⟩
 obtain ⟨k,hk,hf⟩:=zD hf
 refine ka E hk fun G1 H1 x1=>?_
 cases k with
 | false=>exact uk (kb (E.go x1) hf fun G' H' x2=>q _ _ (x1.trans x2))
 | true=>cases hf; exact ul (q _ _ x1)
theorem pr (h:SW X e ft):ST X e ft:=⟨let ⟨t,p,k⟩:=h.h; ⟨t,p.pt,k⟩⟩
theorem qm (h:ST X a ft):ST X (.UnaryOp .Not a pos) (t8 ft):=by
 obtain ⟨ta,pa,ka⟩:=h.h
 refine ⟨⟨_,EQ pa,fun E hf q=>?_⟩⟩
 obtain ⟨k,hk,hf⟩:=zD hf
 cases hf
 exact ka E hk fun G1 H1 x1=>q _ _ x1
theorem js {op} (h:SE X a f):SE X (.BoolOp op [a] pos) f:=⟨let ⟨t,p,k⟩:=h.h; ⟨t,Cs p,k⟩⟩
theorem Zz {K:PySem.W.Frag} {G:Hp} {z:D} {v:V} {k:Bool} (r:zK K G z v) (h:qS z=some k):v=.bl k:=by
 cases z<;>first | cases h | skip
 exact r
theorem Y2 (ha:SE X a fa) (hb:SE X (.BoolOp .And (b::za) pos) fb):SE X (.BoolOp .And (a::b::za) pos) (jR fa fb):=by
 obtain ⟨ta,pa,ka⟩:=ha.h
 obtain ⟨tb,pb,kb⟩:=hb.h
 refine ⟨⟨_,CV pa pb,fun E hf q=>?_⟩⟩
 obtain ⟨z,hz,hf⟩:=zD hf
 obtain ⟨k,hk,hf⟩:=zD hf
 refine ka E hz fun v G1 H1 x1 r1=>⟨k,Zz r1 hk,?_⟩
 cases k with
 | true=>exact ul (kb (E.go x1) hf fun v G' H' x2 r2=>q v _ _ (x1.trans x2) r2)
 | false=>cases hf; exact uk (q _ _ _ x1 rfl)
theorem Ij (ha:SE X a fa) (hb:SE X (.BoolOp .Or (b::za) pos) fb):SE X (.BoolOp .Or (a::b::za) pos) (ZI fa fb):=by
 obtain ⟨ta,pa,ka⟩:=ha.h
 obtain ⟨tb,pb,kb⟩:=hb.h
 refine ⟨⟨_,Ct pa pb,fun E hf q=>?_⟩⟩
 obtain ⟨z,hz,hf⟩:=zD hf
 obtain ⟨k,hk,hf⟩:=zD hf
 refine ka E hz fun v G1 H1 x1 r1=>⟨k,Zz r1 hk,?_⟩
 cases k with
 | false=>exact uk (kb (E.go x1) hf fun v G' H' x2 r2=>q v _ _ (x1.trans x2) r2)
 | true=>cases hf; exact ul (q _ _ _ x1 rfl)
theorem HE (ha:SE X a fa):SE X (.UnaryOp .Not a pos) (Wf fa):=by
 obtain ⟨ta,pa,ka⟩:=ha.h
 refine ⟨⟨_,Cr pa,fun E hf q=>?_⟩⟩
 obtain ⟨z,hz,hf⟩:=zD hf
 obtain ⟨k,hk,hf⟩:=zD hf
 cases hf
 exact ka E hz fun v G1 H1 x1 r1=>⟨k,Zz r1 hk,q _ _ _ x1 rfl⟩
theorem pq (hc:ST X c ft) (ha:SE X a fa) (hb:SE X b fb):SE X (.IfExp c a b pos) (uD ft fa fb):=by
 obtain ⟨tc,pc,kc⟩:=hc.h
 obtain ⟨ta,pa,ka⟩:=ha.h
 obtain ⟨tb,pb,kb⟩:=hb.h
 refine ⟨⟨_,Cm pc pa pb,fun E hf q=>?_⟩⟩
 obtain ⟨k,hk,hf⟩:=zD hf
 refine kc E hk fun G1 H1 x1=>?_
 cases k with
 | true=>exact ul (ka (E.go x1) hf fun v G' H' x2 r2=>q v _ _ (x1.trans x2) r2)
 | false=>exact uk (kb (E.go x1) hf fun v G' H' x2 r2=>q v _ _ (x1.trans x2) r2)
theorem zN:SA X [] zG:=⟨⟨_,kB,fun E hf q=>by cases hf; exact q _ _ _ (zL.refl E.ext.gh) rfl⟩⟩
theorem zB (ha:SE X e f) (hr:SA X es fs) (h:yH e=true:=by rfl):SA X (e::es) (zA f fs):=by
 obtain ⟨ta,pa,ka⟩:=ha.h
 obtain ⟨tb,pb,kb⟩:=hr.h
 refine ⟨⟨_,qg pa pb h,fun E hf q=>?_⟩⟩
 obtain ⟨x,hx,hf⟩:=zD hf
 obtain ⟨xs,hxs,hf⟩:=zD hf
 cases hf
 refine ka E hx fun v G1 H1 x1 r1=>kb (E.go x1) hxs fun vs G2 H2 x2 r2=>?_
 exact q _ _ _ (x1.trans x2) ⟨v,vs,rfl,r1.mono x2.g,r2⟩
theorem u_:Z5 X [] zG:=⟨⟨_,kB,fun E hf q=>by cases hf; exact q _ _ _ (zL.refl E.ext.gh) rfl⟩⟩
theorem uz (ha:SB X e f) (hr:Z5 X es fs) (h:yH e=true:=by rfl):Z5 X (e::es) (zA f fs):=by
 obtain ⟨ta,pa,ka⟩:=ha.h
 obtain ⟨tb,pb,kb⟩:=hr.h
 refine ⟨⟨_,qg pa pb h,fun E hf q=>?_⟩⟩
 obtain ⟨x,hx,hf⟩:=zD hf
 obtain ⟨xs,hxs,hf⟩:=zD hf
 cases hf
 refine ka E hx fun v G1 H1 x1 r1=>kb (E.go x1) hxs fun vs G2 H2 x2 r2=>?_
 exact q _ _ _ (x1.trans x2) ⟨v,vs,rfl,r1.mono x2.h,r2⟩
theorem xV {x1} (h:SA X es fs) (hl:∀ τ ds,fs τ=some ds->ds.length<=1000):SE X (.Tuple es x1 pos) (xO fs):=by
 obtain ⟨t,pt,k⟩:=h.h
 refine ⟨⟨_,Cv pt,fun E hf q=>?_⟩⟩
 obtain ⟨xs,hx,hf⟩:=zD hf
 cases hf
 have l:xs.length<=sizeLine:=zW (hl _ _ hx)
 refine k E hx fun vs G1 H1 x1 r1=>⟨by rw [r1.length]; exact l,fun p hp=>?_⟩
 exact q _ _ _ (x1.trans (zL.lay x1.gh hp)) ⟨p,vs,rfl,yM.of yk,r1.mono (vG (x1.gh.free hp) _),l⟩
theorem wy (h:SA X es fs) (hl:∀ τ ds,fs τ=some ds->ds.length<=1000):SF X (.List es pos) (wL fs):=by
 obtain ⟨t,pt,k⟩:=h.h
 refine ⟨⟨_,Jb pt,fun E hf q=>?_⟩⟩
 obtain ⟨xs,hx,hf⟩:=zD hf
 cases hf
 have l:xs.length<=sizeLine:=zW (hl _ _ hx)
 refine k E hx fun vs G1 H1 x1 r1=>⟨by rw [r1.length]; exact l,fun p hp=>?_⟩
 exact q _ _ _ (x1.trans (zL.layO x1.gh hp)) (x1.h.free hp) (x1.gh.free hp) ⟨vs,yk,r1,l⟩
theorem yS:∀ (τ:zr) ds,zG τ=some ds->ds.length<=0:=fun _ _ h=>by cases h; exact Nat.le_refl _
theorem zT {n:Nat} (h:∀ τ ds,fs τ=some ds->ds.length<=n):∀ τ ds,zA f fs τ=some ds->ds.length<=n+1:=fun τ ds e=>by
 obtain ⟨x,_,e⟩:=zD e
 obtain ⟨xs,hx,e⟩:=zD e
 cases e
 exact Nat.succ_le_succ (h _ _ hx)
theorem yR {m n:Nat} (h:∀ τ ds,fs τ=some ds->ds.length<=m) (hmn:m<=n):∀ τ ds,fs τ=some ds->ds.length<=n:=fun τ ds e=>Nat.le_trans (h τ ds e) hmn
variable {ps:List Str} {j k:Nat} {FF:List D->Option (Bool×D)} {FL:List D->Option D} {id T:String}
theorem uS (h:zi X.prog X.w X.K X.mg X.base x ps k (zm X.K FF)) (hr:zt j X.A) (hg:Gl X x) (ha:SA X (e::es) fs) (hk:k<=j:=by decide) (hdb:(x == ("__debug__" : Str))=false:=by decide)
  (he:(e::es).all yH=true:=by rfl):SF X (.Call (.Name x p) (e::es) [] pos) (wK FF fs):=by
 obtain ⟨t,pt,kt⟩:=ha.h
 refine ⟨⟨_,VX h hr hg pt hk hdb he,fun E hf q=>?_⟩⟩
 obtain ⟨ds,hd,hf⟩:=zD hf
 obtain ⟨⟨o,d⟩,hr,hf⟩:=zD hf
 cases o with
 | false=>cases hf
 | true=>
  cases hf
  refine kt E hd fun vs G1 H1 x1 r1=>⟨G1,ds,true,_,x1.gh,by rw [List.append_nil]; exact r1,hr,fun p G' H' x2 hp gp o=>?_⟩
  exact q p G' H' (x1.trans x2) (x1.h.free hp) gp o
theorem zw (h:zi X.prog X.w X.K X.mg X.base x ps k (zm X.K FF)) (hr:zt j X.A) (hg:Gl X x) (ha:SA X (e::es) fs) (hk:k<=j:=by decide) (hdb:(x == ("__debug__" : Str))=false:=by decide)
  (he:(e::es).all yH=true:=by rfl):SE X (.Call (.Name x p) (e::es) [] pos) (zl FF fs):=by
 obtain ⟨t,pt,kt⟩:=ha.h
 refine ⟨⟨_,VX h hr hg pt hk hdb he,fun E hf q=>?_⟩⟩
 obtain ⟨ds,hd,hf⟩:=zD hf
 obtain ⟨⟨o,d⟩,hr,hf⟩:=zD hf
 cases hf
 refine kt E hd fun vs G1 H1 x1 r1=>⟨G1,ds,o,d,x1.gh,by rw [List.append_nil]; exact r1,hr,?_⟩
 cases o with
 | false=>exact fun v G' H' x2 r=>q v G' H' (x1.trans x2) r
 | true=>
  intro p G' H' x2 hp gp o
  obtain ⟨u,hu,r⟩:=o.frz gp
  exact q _ _ _ (x1.trans (x2.frz hp gp hu)) r
noncomputable def gQ (K:PySem.W.Frag) (r:List V->Hp->VK->Prop) (F:List D->Option D):Prop:=∀ G H ds vs d (Q:VK),zf G H->Reps K H ds vs->F ds=some d->(∀ w G' H',zL G H G' H'->zK K G' d w->Q w H')->r vs H Q
noncomputable def TN (K:PySem.W.Frag) (r:List V->Hp->VK->Prop) (F:List D->Option D):Prop:=∀ G H ds vs d (Q:VK),zf G H->Reps K G ds vs->F ds=some d->(∀ w G' H',zL G H G' H'->zK K G' d w->Q w H')->r vs H Q
theorem t4 {rc:List V->Hp->VK->Prop} (hc:xX X (.builtin id) rc) (hF:gQ X.K rc FL) (hg:Gl X x) (hm:X.mg x=none) (hv:bootBuiltins x=some (.builtin id)) (ha:Z5 X (e::es) fs) (hn:x ≠ "__name__" := by decide) (hdb:(x == ("__debug__" : Str))=false:=by decide)
  (he:(e::es).all yH=true:=by rfl):SE X (.Call (.Name x p) (e::es) [] pos) (eL FL fs):=by
 obtain ⟨t,pt,kt⟩:=ha.h
 refine ⟨⟨_,(Vd hc hg hm hv ⟨pt⟩ hn hdb he).h,fun E hf q=>?_⟩⟩
 obtain ⟨ds,hd,hf⟩:=zD hf
 exact kt E hd fun vs G1 H1 x1 r1=>hF G1 H1 ds vs _ _ x1.gh r1 hf fun w G' H' x2 r2=>q w G' H' (x1.trans x2) r2
theorem Ii {rc:List V->Hp->VK->Prop} (hc:xX X (.type T) rc) (hF:TN X.K rc FL) (hg:Gl X x) (hm:X.mg x=none) (hv:bootBuiltins x=some (.type T)) (ha:SA X (e::es) fs) (hn:x ≠ "__name__" := by decide) (hdb:(x == ("__debug__" : Str))=false:=by decide)
  (he:(e::es).all yH=true:=by rfl):SE X (.Call (.Name x p) (e::es) [] pos) (eL FL fs):=by
 obtain ⟨t,pt,kt⟩:=ha.h
 refine ⟨⟨_,(Zv hc hg hm hv ⟨pt⟩ hn hdb he).h,fun E hf q=>?_⟩⟩
 obtain ⟨ds,hd,hf⟩:=zD hf
 exact kt E hd fun vs G1 H1 x1 r1=>hF G1 H1 ds vs _ _ x1.gh r1 hf fun w G' H' x2 r2=>q w G' H' (x1.trans x2) r2
theorem Ik {op:UnaryOp} {ru:V->Hp->VK->Prop} {F1:D->Option D} (ho:gS X (unaryOp op) ru) (hF:∀ (G H:Hp) x u d (Q:VK),zK X.K G x u->F1 x=some d->∃ w,(∀ G,zK X.K G d w)/\(Q w H->ru u H Q)) (ha:SE X a fa):SE X (.UnaryOp op a pos) (e1 F1 fa):=by
 obtain ⟨t,pt,kt⟩:=ha.h
 refine ⟨⟨_,Cw ho pt,fun E hf q=>?_⟩⟩
 obtain ⟨x,hx,hf⟩:=zD hf
 refine kt E hx fun v G1 H1 x1 r1=>?_
 obtain ⟨w,rw_,z⟩:=hF G1 H1 x v _ _ r1 hf
 exact z (q w _ _ x1 (rw_ _))
end
end L3
namespace L3
open PySem PySem.Spec PyProof.Rows L2
section
variable {X:Cx} {x:Str} {p pos pos' apos cpos:Pos} {e a b c tg iter elt:Expr} {es ifs:List Expr} {f fa fb:FE} {ft:FT} {fs:FA} {st:Stmt} {sts body:List Stmt} {g g':FS}
theorem yr:vf X [] yj:=⟨⟨_,Jm,fun {_ _ G H τ σ fl E} K hf q=>by
 cases hf
 exact q σ G H K⟩⟩
theorem v6.with {K:PySem.W.Frag} {n:Nat} {G0 H0:Hp} {E E':wS} {fl:Fl} (h:v6 K n G0 H0 E fl) (hn:∀ τ,fl=.nx τ->v6 K n G0 H0 E' (.nx τ)) (hb:∀ τ,fl=.bk τ->v6 K n G0 H0 E' (.bk τ)) (hc:∀ τ,fl=.ct τ->v6 K n G0 H0 E' (.ct τ)) (hr:E'.rt=E.rt):v6 K n G0 H0 E' fl:=by
 cases fl with
 | nx τ=>exact hn τ rfl
 | bk τ=>exact hb τ rfl
 | ct τ=>exact hc τ rfl
 | rt o d=>
  cases o with
  | false=>intro v G H x r; rw [hr]; exact h v G H x r
  | true=>intro v G H x r1 r2 r3; rw [hr]; exact h v G H x r1 r2 r3
theorem zn (h1:SS X st g) (h2:vf X sts g'):vf X (st::sts) (zb g g'):=by
 obtain ⟨t,p,k⟩:=h1.h
 obtain ⟨t',p',k'⟩:=h2.h
 refine ⟨⟨_,Jl p p',fun {G0 H0 G H τ σ fl E} K hf q=>?_⟩⟩
 obtain ⟨f1,h1,hf⟩:=zD hf
 refine k K h1 ?_
 cases f1 with
 | nx τ'=>exact fun σ' G' H' K'=>k' K' hf q
 | bk τ'=>cases hf; exact q
 | ct τ'=>cases hf; exact q
 | rt o d=>cases hf; exact v6.with q (fun _ z=>nomatch z) (fun _ z=>nomatch z) (fun _ z=>nomatch z) rfl
theorem ze (h1:SS X st g):vf X [st] g:=⟨let ⟨t,p,k⟩:=h1.h; ⟨t,Jn p,k⟩⟩
theorem xM {i:Nat} {x:Str} {pos':Pos} (hN:X.N.Nodup) (hi:X.N[i]?=some x) (hx:vZ X.env.scope x) (he:SE X e f) (hs:jf e=true:=by rfl) (hf:X.fn x=true\/X.env.scope.names.lookup x=some .local:=by first | exact .inl rfl | exact .inr rfl | assumption) :
  SS X (.Assign [.Name x pos'] e pos) (yW i f):=by
 obtain ⟨t,p,k⟩:=he.h
 refine ⟨⟨_,(Vg hN hi hx ⟨p⟩ hs hf).h,fun {G0 H0 G H τ σ fl E} K hf q=>?_⟩⟩
 obtain ⟨d,hd,hf⟩:=zD hf
 cases hf
 exact k K hd fun v G' H' x r=>q _ _ _ ((K.go x).set (List.getElem?_eq_some_iff.mp hi).1 r)
theorem Y7 {i:Nat} {x:Str} {pos':Pos} (hN:X.N.Nodup) (hi:X.N[i]?=some x) (hx:vZ X.env.scope x) (he:SF X e f) (hs:jf e=true:=by rfl) (hf:X.fn x=true\/X.env.scope.names.lookup x=some .local:=by first | exact .inl rfl | exact .inr rfl | assumption) :
  SS X (.Assign [.Name x pos'] e pos) (jp i f):=by
 obtain ⟨t,p,k⟩:=he.h
 refine ⟨⟨_,(Vg hN hi hx ⟨p⟩ hs hf).h,fun {G0 H0 G H τ σ fl E} K hf q=>?_⟩⟩
 obtain ⟨d,hd,hf⟩:=zD hf
 cases hf
 refine k K hd fun p G' H' x hp gp o=>q _ _ _ ((K.go x).setO (List.getElem?_eq_some_iff.mp hi).1 gp (K.ext.h.free hp) o ?_)
 exact K.newO hp
theorem zy (he:SE X e f):SS X (.Return (some e) pos) (zu f):=by
 obtain ⟨t,p,k⟩:=he.h
 refine ⟨⟨_,Zt p,fun {G0 H0 G H τ σ fl E} K hf q=>?_⟩⟩
 obtain ⟨d,hd,hf⟩:=zD hf
 cases hf
 exact k K hd fun v G' H' x r=>q v _ _ (K.ext.trans x) r
theorem ql (he:SF X e f):SS X (.Return (some e) pos) (uy f):=by
 obtain ⟨t,p,k⟩:=he.h
 refine ⟨⟨_,Zt p,fun {G0 H0 G H τ σ fl E} K hf q=>?_⟩⟩
 obtain ⟨d,hd,hf⟩:=zD hf
 cases hf
 exact k K hd fun p G' H' x hp gp o=>q p _ _ (K.ext.trans x) (K.ext.h.free hp) gp o
theorem kY (i:Nat) {x:Str} {pos':Pos} (hN:X.N[i]?=some x:=by rfl) (hv:qQ X.env.scope x:=by first | exact Or.inl rfl | exact Or.inr (Or.inl rfl) | exact Or.inr (Or.inr rfl)) (hd:(x == ("__debug__" : Str))=false:=by decide)
  (hcd:(x == ("__classdict__" : Str))=false:=by decide):SS X (.Return (some (.Name x pos')) pos) (qi i):=by
 refine ⟨⟨_,Zt (kC hN hv hd hcd),fun {G0 H0 G H τ σ fl E} K hf q=>?_⟩⟩
 unfold qi at hf
 split at hf
 ·rename_i d he
  cases hf
  obtain ⟨p,e,g,z,o⟩:=K.ow _ _ he
  exact ⟨_,e,q p _ _ K.ext z g o⟩
 ·cases hf
theorem yo {sa sb:List Stmt} (hc:ST X c ft) (ha:vf X sa g) (hb:vf X sb g'):SS X (.If c sa sb pos) (yg ft g g'):=by
 obtain ⟨tc,pc,kc⟩:=hc.h
 obtain ⟨ta,pa,ka⟩:=ha.h
 obtain ⟨tb,pb,kb⟩:=hb.h
 refine ⟨⟨_,Jk pc pa pb,fun {G0 H0 G H τ σ fl E} K hf q=>?_⟩⟩
 obtain ⟨k,hk,hf⟩:=zD hf
 refine kc K hk fun G1 H1 x1=>?_
 cases k with
 | true=>exact ul (ka (K.go x1) hf q)
 | false=>exact uk (kb (K.go x1) hf q)
theorem kX:vf X sts (fun _=>none):=⟨⟨_,EO,fun _ hf=>by cases hf⟩⟩
theorem v6.near {K:PySem.W.Frag} {n:Nat} {G0 H0 Ga Ha:Hp} {E:wS} {fl:Fl} (x:zL G0 H0 Ga Ha) (h:v6 K n G0 H0 E fl):v6 K n Ga H0 E fl:=by
 cases fl with
 | nx τ=>exact fun σ G H z=>h σ G H (zk.near x z)
 | bk τ=>exact fun σ G H z=>h σ G H (zk.near x z)
 | ct τ=>exact fun σ G H z=>h σ G H (zk.near x z)
 | rt o d=>
  cases o with
  | false=>exact fun v G H y r=>h v G H (x.rebase y) r
  | true=>exact fun p G H y r1 r2 r3=>h p G H (x.rebase y) r1 r2 r3
structure SG (X:Cx) (tg:Expr) (fg:FG):Prop where
 h:∃ t,PG X tg t/\∀ {G0 H0 G H:Hp} {τ τ':zr} {σ:St} {d:D} {v:V} {Q:St->Hp->Prop},zk X.K X.N.length G0 H0 G H τ σ->zK X.K G d v->fg d τ=some τ'->(∀ σ',zk X.K X.N.length G0 H0 G H τ' σ'->Q σ' H)->t v σ H Q
theorem Uo {i:Nat} {x:Str} (h:QG X (.Name x pos) (wW i)) (hi:X.N[i]?=some x):SG X (.Name x pos) (yp i):=⟨⟨_,h.h,fun K r hf q=>by
 cases hf
 exact q _ (K.set (List.getElem?_eq_some_iff.mp hi).1 r)⟩⟩
theorem HP {i j:Nat} {x y:Str} {p1 p2:Pos} {kk:Nat} (h:QG X (.Tuple [.Name x p1,.Name y p2] kk pos) (jU X.K 2 (uf (wW i) (uf (wW j) jT)))) (hi:X.N[i]?=some x) (hj:X.N[j]?=some y):SG X (.Tuple [.Name x p1,.Name y p2] kk pos) (uh i j):=⟨⟨_,h.h,fun {G0 H0 G H τ τ' σ d v Q} K r hf q=>by
 unfold uh at hf
 split at hf
 ·rename_i d1 d2
  cases hf
  obtain ⟨a,vs,rfl,sq,⟨v1,r1,rfl,h1,⟨v2,r2,rfl,h2,h3⟩⟩,_⟩:=r
  cases (show r2=[] from h3)
  refine ⟨a,_,rfl,wb K.ext.gh sq,rfl,v1,_,rfl,v2,_,rfl,rfl,?_⟩
  exact q _ ((K.set (List.getElem?_eq_some_iff.mp hi).1 h1).set (List.getElem?_eq_some_iff.mp hj).1 h2)
 ·cases hf⟩⟩
theorem Y6 {fg:FG} (hp:PassesOwn (model X.prog X.w) X.A X.env X.xe) (hc:X.calm=true) (hi:SI X tg iter fs) (hg:SG X tg fg) (hb:vf X body g) (hs:∀ x,foldedSetIterable iter X.env x=pure x:=by intro _; rfl):SS X (.For tg iter body [] pos) (jo fs fg g):=by
 obtain ⟨ti,pi,ki⟩:=hi.h
 obtain ⟨tg',pg,kg⟩:=hg.h
 obtain ⟨tb,pb,kb⟩:=hb.h
 refine ⟨⟨_,Jj hp hc pi pg pb hs,fun {G0 H0 G H τ σ fl E} K hf q=>?_⟩⟩
 obtain ⟨ds,hd,hf⟩:=zD hf
 refine ki K hd fun J Ga Ha xa _ wk=>?_
 have Ka:=K.go xa
 have q':=v6.near Ka.ext q
 refine ⟨fun i m σ H=>m=ds.length - i/\i<=ds.length/\∃ τ G,zk X.K X.N.length Ga H0 G H τ σ/\qc fg g (ds.drop i) τ=some fl,⟨ds.length,rfl,Nat.zero_le _,τ,Ga,Ka.far,hf⟩,?_⟩
 rintro i m σ H ⟨rfl,hle,τ,G,K,hf⟩
 by_cases hlt:i<ds.length
 ·refine .inr ⟨wk.go i G H K.ext.g K.ext.gh hlt,fun σ' H'=>∃ τ G,zk X.K X.N.length Ga H0 G H' τ σ'/\qc fg g (ds.drop (i+1)) τ=some fl,fun σ' H' z=>⟨ds.length - (i+1),by omega,rfl,hlt,z⟩,fun x H' y=>?_⟩
  obtain ⟨G3,d,x3,ed,rd⟩:=wk.yld i G H x H' K.ext.g K.ext.gh hlt y
  rw [List.drop_eq_getElem_cons hlt] at hf
  rw [List.getElem?_eq_getElem hlt] at ed
  cases ed
  obtain ⟨τ1,h1,hf⟩:=zD (show (fg _ τ).bind _=_ from hf)
  obtain ⟨f1,h2,hf⟩:=zD hf
  refine kg (K.go x3) rd h1 fun σ1 K1=>kb K1 h2 ?_
  cases f1 with
  | nx τ2=>exact fun σ2 G2 H2 K2=>⟨τ2,G2,K2,hf⟩
  | ct τ2=>exact fun σ2 G2 H2 K2=>⟨τ2,G2,K2,hf⟩
  | bk τ2=>cases hf; exact q'
  | rt o d=>cases hf; exact v6.with q' (fun _ z=>nomatch z) (fun _ z=>nomatch z) (fun _ z=>nomatch z) rfl
 ·have e:ds.drop i=[]:=List.drop_eq_nil_of_le (by omega)
  rw [e] at hf
  cases hf
  exact .inl ⟨wk.stop i G H K.ext.g K.ext.gh (by omega),q' _ _ _ K⟩
theorem BZ {K:PySem.W.Frag} {G:Hp} {lo:Int} {n:Nat}:qR K (k_ lo n) G ((List.range n).map fun k:Nat=>D.int (lo+k)) where
 go:=fun i G2 H _ _ hi=>by
  show i<n
  simpa using hi
 yld:=fun i G2 H x H' _ g2 hi y=>by
  obtain ⟨rfl,rfl⟩:=y
  exact ⟨G2,.int (lo+i),zL.refl g2,by simp at hi; simp [hi],rfl⟩
 stop:=fun i G2 H _ _ hi=>by
  show n<=i
  simpa using hi
theorem Y4 (hg:Gl X "range") (hm:X.mg "range" = none) (ha:SE X a fa) (hs:yH a=true:=by rfl):SI X tg (.Call (.Name "range" p) [a] [] pos) (ui (eC (.int 0)) fa):=by
 obtain ⟨t,pt,k⟩:=(zB ha zN hs).h
 refine ⟨⟨_,E8 hg hm pt (wP hs),fun {G0 H0 G H τ σ ds R} K hf q=>?_⟩⟩
 obtain ⟨x,hx,hf⟩:=zD hf
 cases hx
 obtain ⟨y,hy,hf⟩:=zD hf
 refine k K (ds:=[y]) (by unfold zA; rw [hy]; rfl) fun vs G1 H1 x1 r1=>?_
 cases y<;>first | cases hf | skip
 rename_i j
 obtain ⟨v,r,rfl,hv,hr⟩:=r1
 cases (show r=[] from hr)
 cases (show v=.int j from hv)
 change (if (0:Int).natAbs<=yP/\j.natAbs<=yP/\(j - 0).toNat<=yP then _ else _)=_ at hf
 by_cases c:(0:Int).natAbs<=yP/\j.natAbs<=yP/\(j - 0).toNat<=yP
 ·rw [if_pos c] at hf
  cases hf
  have c2:j.natAbs<=16777216:=c.2.1
  have c3:(j - 0).toNat<=16777216:=c.2.2
  refine ⟨j,rfl,by omega,by omega,q _ _ _ x1 ?_ ?_⟩
  ·rw [List.length_map,List.length_range,sizeLine_eq]; omega
  ·have e:(j - 0).toNat=j.toNat:=by omega
   rw [e]
   exact BZ
 ·rw [if_neg c] at hf
  cases hf
theorem DE {K:PySem.W.Frag} {G:Hp} {a:Addr} {vs:List V} {ds:List D} (sq:yC K G a vs) (r:Reps K G ds vs):qR K (XQ K a) G ds where
 go:=fun i G2 H g1 g2 hi=>by
  obtain ⟨v,e,_⟩:=r.get (List.getElem?_eq_getElem hi)
  exact ⟨vs,v,wE (g1.trans g2) sq,e⟩
 yld:=fun i G2 H x H' g1 g2 hi y=>by
  obtain ⟨rfl,y⟩:=y
  have e:=y vs (wE (g1.trans g2) sq)
  obtain ⟨d,ed,rd⟩:=r.at e
  exact ⟨G2,d,zL.refl g2,ed,rd.mono g1⟩
 stop:=fun i G2 H g1 g2 hi=>⟨vs,wE (g1.trans g2) sq,by rw [r.length]; exact hi⟩
theorem KM {K:PySem.W.Frag} {G:Hp} {a:Addr} {vs:List V} {ds:List D} (sq:yM K G a vs) (r:Reps K G ds vs):qR K (XR K a) G ds where
 go:=fun i G2 H g1 g2 hi=>by
  obtain ⟨v,e,_⟩:=r.get (List.getElem?_eq_getElem hi)
  exact ⟨vs,v,wb (g1.trans g2) sq,e⟩
 yld:=fun i G2 H x H' g1 g2 hi y=>by
  obtain ⟨rfl,y⟩:=y
  have e:=y vs (wb (g1.trans g2) sq)
  obtain ⟨d,ed,rd⟩:=r.at e
  exact ⟨G2,d,zL.refl g2,ed,rd.mono g1⟩
 stop:=fun i G2 H g1 g2 hi=>⟨vs,wb (g1.trans g2) sq,by rw [r.length]; exact hi⟩
theorem Hh {K:PySem.W.Frag} {G:Hp} {z:Str}:qR K (Z0 z) G (z.cps.toList.map fun c=>D.str ⟨#[c]⟩) where
 go:=fun i G2 H _ _ hi=>by
  rw [List.length_map,Array.length_toList] at hi
  exact hi
 yld:=fun i G2 H x H' _ g2 hi y=>by
  obtain ⟨rfl,c,ec,rfl⟩:=y
  refine ⟨G2,.str ⟨#[c]⟩,zL.refl g2,?_,rfl,zW (n:=1) (by decide)⟩
  rw [List.getElem?_map,Array.getElem?_toList,ec]
  rfl
 stop:=fun i G2 H _ _ hi=>by
  rw [List.length_map,Array.length_toList] at hi
  exact hi
theorem PI.or {w1 w2:TI} (h1:PI X tg e w1) (h2:PI X tg e w2):PI X tg e (fun σ H R=>w1 σ H R\/w2 σ H R):=fun pins s σ H R I q=>by
 rcases q with q | q
 ·exact h1 pins s σ H R I q
 ·exact h2 pins s σ H R I q
theorem t6 (h:SE X e f):SI X tg e (vm f):=by
 obtain ⟨t,p,k⟩:=h.h
 refine ⟨⟨_,PI.or (E7 p) (PI.or (EA p) (E9 p)),fun {G0 H0 G H τ σ ds R} K hf q=>?_⟩⟩
 obtain ⟨d,hd,hf⟩:=zD hf
 cases d<;>first | cases hf | skip
 ·rename_i z
  refine .inr (.inr (k K hd fun v G' H' x r=>?_))
  obtain ⟨rfl,l⟩:=r
  exact ⟨z,rfl,q _ _ _ x (by rw [List.length_map,Array.length_toList]; exact l) Hh⟩
 ·refine .inr (.inl (k K hd fun v G' H' x r=>?_))
  obtain ⟨a,vs,rfl,sq,rs,l⟩:=r
  exact ⟨a,rfl,⟨vs,wb x.gh sq⟩,q _ _ _ x l (KM sq rs)⟩
 ·refine .inl (k K hd fun v G' H' x r=>?_)
  obtain ⟨a,vs,rfl,sq,rs,l⟩:=r
  exact ⟨a,rfl,⟨vs,wE x.gh sq⟩,q _ _ _ x l (DE sq rs)⟩
end
noncomputable def Ux (K:PySem.W.Frag) (n:Nat) (f:FE):TE:=fun σ H Q=>∃ G0 H0 G τ d,zk K n G0 H0 G H τ σ/\f τ=some d/\∀ v G' H',zL G H G' H'->zK K G' d v->Q v H'
noncomputable def YE (K:PySem.W.Frag) (n:Nat) (f:FT):TT:=fun σ H Q=>∃ G0 H0 G τ d,zk K n G0 H0 G H τ σ/\f τ=some d/\∀ G' H',zL G H G' H'->Q d H'
structure Z6 (X:Cx) (es:List Expr) (f:FT):Prop where
 h:jH X es (YE X.K X.N.length f)
section
variable {X:Cx} {e c:Expr} {f:FE} {ft:FT}
theorem SE.pe (h:SE X e f):PE X e (Ux X.K X.N.length f):=fun pins s σ H Q I q=>by
 obtain ⟨t,p,k⟩:=h.h
 obtain ⟨G0,H0,G,τ,d,K,hf,z⟩:=q
 exact p pins s σ H Q I (k K hf z)
theorem ST.pt (h:ST X e ft):PT X e (YE X.K X.N.length ft):=fun pins s σ H Q I q=>by
 obtain ⟨t,p,k⟩:=h.h
 obtain ⟨G0,H0,G,τ,d,K,hf,z⟩:=q
 exact p pins s σ H Q I (k K hf z)
theorem qo:Z6 X [] xW:=⟨fun pins s σ H Q I q=>by
 obtain ⟨G0,H0,G,τ,d,K,hf,z⟩:=q
 cases hf
 exact ER pins s σ H Q I (z _ _ (zL.refl K.ext.gh))⟩
theorem Iw (h:ST X c ft):Z6 X [c] ft:=⟨ES h.pt⟩
end
theorem zk.more {K:PySem.W.Frag} {n:Nat} {G0 H0 G H:Hp} {τ:zr} {σ:St} (k:Nat) (E:zk K n G0 H0 G H τ σ):zk K (n+k) G0 H0 G H (τ++List.replicate k none) (σ++List.replicate k none):=by
 have at_:∀ {i:Nat} {s:Sl},(τ++List.replicate k none)[i]?=some (some s)->τ[i]?=some (some s)/\(σ++List.replicate k none)[i]?=σ[i]?:=fun {i s} h=>by
  have h':=ZU h
  have hi:i<n:=E.lt h'
  exact ⟨h',List.getElem?_append_left (by rw [E.l1]; exact hi)⟩
 refine ⟨E.ext,by rw [List.length_append,List.length_replicate,E.l1],by rw [List.length_append,List.length_replicate,E.l2],fun i d h=>?_,fun i d h=>?_,fun i j d e p hne h1 h2 h3 h4=>?_⟩
 ·obtain ⟨h',e⟩:=at_ h
  rw [e]
  exact E.fr i d h'
 ·obtain ⟨h',e⟩:=at_ h
  rw [e]
  exact E.ow i d h'
 ·obtain ⟨h1',e1⟩:=at_ h1
  obtain ⟨h2',e2⟩:=at_ h2
  rw [e1] at h3
  rw [e2] at h4
  exact E.ap i j d e p hne h1' h2' h3 h4
theorem DB {K:PySem.W.Frag} {n k:Nat} {G0 H0 Ga Ha:Hp} {τ:zr} {σ:St} {J:It} {ds out:List D} {g:TG} {fg:FG} {ft:FT} {f:FE} {Fin:List V->Hp->Prop} (wk:qR K J Ga ds) (hl:ds.length<=sizeLine) (Ka:zk K n G0 H0 Ga Ha τ σ)
  (hf:xE fg ft f (τ++List.replicate k none) ds=some out)
  (kg:∀ G H d v τ' (Q:St->Hp->Prop),zk K (n+k) G0 H0 G H (τ++List.replicate k none) (σ++List.replicate k none)->zK K G d v->fg d (τ++List.replicate k none)=some τ'->(∀ ρ,zk K (n+k) G0 H0 G H τ' (σ++ρ)->Q (σ++ρ) H)->g v (σ++List.replicate k none) H Q)
  (fin:∀ ys G H,zL Ga Ha G H->Reps K G out ys->out.length<=sizeLine->Fin ys H) :
  ∃ W:Nat->Nat->List V->Hp->Prop,(∃ m,W 0 m [] Ha)/\VD σ k J g (YE K (n+k) ft) (Ux K (n+k) f) W Fin:=by
 refine ⟨fun i m ys H=>m=ds.length - i/\i<=ds.length/\ys.length<=i/\∃ G done za,zL Ga Ha G H/\Reps K G done ys/\xE fg ft f (τ++List.replicate k none) (ds.drop i)=some za/\done++za=out,⟨ds.length,rfl,Nat.zero_le _,Nat.le_refl _,Ga,[],out,zL.refl Ka.ext.gh,rfl,hf,rfl⟩,?_⟩
 rintro i m ys H ⟨rfl,hle,hys,G,done,za,x,rd,hf,eo⟩
 by_cases hlt:i<ds.length
 ·refine .inr ⟨wk.go i G H x.g x.gh hlt,by omega,fun ys H=>ys.length<=i+1/\∃ G done za,zL Ga Ha G H/\Reps K G done ys/\xE fg ft f (τ++List.replicate k none) (ds.drop (i+1))=some za/\done++za=out,fun ys' H' z=>⟨ds.length - (i+1),by omega,rfl,hlt,z.1,z.2⟩,fun v H' y=>?_⟩
  obtain ⟨G3,d,x3,ed,rv⟩:=wk.yld i G H v H' x.g x.gh hlt y
  rw [List.drop_eq_getElem_cons hlt] at hf
  rw [List.getElem?_eq_getElem hlt] at ed
  cases ed
  obtain ⟨τ1,h1,hf⟩:=zD (show (fg _ _).bind _=_ from hf)
  obtain ⟨kk,h2,hf⟩:=zD hf
  have K3:=((Ka.go x).go x3).more k
  refine kg G3 H' _ v τ1 _ K3 rv h1 fun ρ K4=>⟨⟨ρ,rfl⟩,_,_,_,_,kk,K4,h2,fun G5 H5 x5=>?_⟩
  cases kk with
  | false=>exact uk ⟨by omega,G5,done,za,x.trans (x3.trans x5),rd.mono (x3.g.trans x5.g),hf,eo⟩
  | true=>
   obtain ⟨z,hz,hf⟩:=zD (show (f _).bind _=_ from hf)
   obtain ⟨more,hm,hf⟩:=zD hf
   cases hf
   refine ul ⟨_,_,_,_,z,K4.go x5,hz,fun u G6 H6 x6 r6=>⟨by rw [List.length_append]; exact Nat.succ_le_succ hys,G6,done++[z],more,x.trans (x3.trans (x5.trans x6)),(rd.mono (x3.g.trans (x5.g.trans x6.g))).append (Reps.one r6),hm,?_⟩⟩
   rw [List.append_assoc]
   exact eo
 ·have e:ds.drop i=[]:=List.drop_eq_nil_of_le (by omega)
  rw [e] at hf
  cases hf
  rw [List.append_nil] at eo
  subst eo
  refine .inl ⟨wk.stop i G H x.g x.gh (by omega),fin ys G H x rd ?_⟩
  rw [<- rd.length]
  omega
section
variable {X:Cx} {tg iter elt:Expr} {ifs:List Expr} {scope:Scope} {cl:List (Str×Addr)} {own:List Str} {pos:Pos} {fs:FA} {fg:FG} {ft:FT} {f:FE} {g:TG}
theorem Ul {α:Type} (xs:List α) (y:α) (ys:List α) {n:Nat} (h:n=xs.length) (z:α):(xs++y::ys).set n z=xs++z::ys:=by
 subst h
 rw [List.set_append_right _ _ (Nat.le_refl _),Nat.sub_self]
 rfl
structure BG (X:Cx) (scope:Scope) (cl:List (Str×Addr)) (own:List Str) (tg:Expr) (g:TG) (fg:FG):Prop where
 q:∀ C s H fp pn,QG (xr X scope cl own C s H fp pn) tg g
 k:∀ {G0 H0:Hp} {τ:zr} {σ:St},τ.length=X.N.length->σ.length=X.N.length->∀ G H d v τ' (Q:St->Hp->Prop),zk X.K (X.N.length+own.length) G0 H0 G H (τ++List.replicate own.length none) (σ++List.replicate own.length none)->zK X.K G d v->fg d (τ++List.replicate own.length none)=some τ'->
  (∀ ρ,zk X.K (X.N.length+own.length) G0 H0 G H τ' (σ++ρ)->Q (σ++ρ) H)->g v (σ++List.replicate own.length none) H Q
theorem tN {x:Str} {i:Nat} (q:∀ C s H fp pn,QG (xr X scope cl [x] C s H fp pn) tg (wW i)) (hi:i=X.N.length):BG X scope cl [x] tg (wW i) (yp i):=⟨q,fun {G0 H0 τ σ} l1 l2 G H d v τ' Q E r hf k=>by
 cases hf
 have E':=E.set (i:=i) (v:=v) (by rw [hi]; exact Nat.lt_succ_self _) r
 have es:(σ++List.replicate 1 none).set i (some v)=σ++[some v]:=Ul σ none [] (hi.trans l2.symm) (some v)
 show Q ((σ++List.replicate 1 none).set i (some v)) H
 rw [es]
 refine k [some v] ?_
 rw [<- es]
 exact E'⟩
theorem Ot {x y:Str} {i j:Nat} (q:∀ C s H fp pn,QG (xr X scope cl [x,y] C s H fp pn) tg (jU X.K 2 (uf (wW i) (uf (wW j) jT)))) (hi:i=X.N.length) (hj:j=X.N.length+1):BG X scope cl [x,y] tg (jU X.K 2 (uf (wW i) (uf (wW j) jT))) (uh i j):=⟨q,fun {G0 H0 τ σ} l1 l2 G H d v τ' Q E r hf k=>by
 unfold uh at hf
 split at hf
 ·rename_i d1 d2
  cases hf
  obtain ⟨a,vs,rfl,sq,⟨v1,r1,rfl,h1,⟨v2,r2,rfl,h2,h3⟩⟩,_⟩:=r
  cases (show r2=[] from h3)
  have E':=(E.set (i:=i) (v:=v1) (by rw [hi]; exact Nat.lt_add_of_pos_right (Nat.succ_pos _)) h1).set (i:=j) (v:=v2) (by rw [hj]; exact Nat.lt_succ_self _) h2
  have es:((σ++List.replicate 2 none).set i (some v1)).set j (some v2)=σ++[some v1,some v2]:=by
   have e1:(σ++List.replicate 2 none).set i (some v1)=σ++[some v1,none]:=Ul σ none [none] (hi.trans l2.symm) (some v1)
   rw [e1]
   have e2:σ++[some v1,none]=(σ++[some v1])++[none]:=by simp
   rw [e2,Ul (σ++[some v1]) none [] (by rw [List.length_append,hj,l2]; rfl) (some v2)]
   simp
  refine ⟨a,_,rfl,wb E.ext.gh sq,rfl,v1,_,rfl,v2,_,rfl,rfl,?_⟩
  show Q (((σ++List.replicate 2 none).set i (some v1)).set j (some v2)) H
  rw [es]
  refine k [some v1,some v2] ?_
  rw [<- es]
  exact E'
 ·cases hf⟩
theorem Tn (X:Cx) (own:List Str):(v8 X.N own).length=X.N.length+own.length:=by
 unfold v8
 rw [List.length_append,List.length_map]
theorem O_ {C:Addr} {s:Shared} {H:Hp} {fp:List Addr} {pn:List (Addr×Obj)} (h:SE (xr X scope cl own C s H fp pn) elt f):PE (xr X scope cl own C s H fp pn) elt (Ux X.K (X.N.length+own.length) f):=by
 have q:=h.pe
 rw [show (xr X scope cl own C s H fp pn).N.length=X.N.length+own.length from Tn X own] at q
 exact q
theorem L0 {C:Addr} {s:Shared} {H:Hp} {fp:List Addr} {pn:List (Addr×Obj)} (h:Z6 (xr X scope cl own C s H fp pn) ifs ft):jH (xr X scope cl own C s H fp pn) ifs (YE X.K (X.N.length+own.length) ft):=by
 have q:=h.h
 rw [show (xr X scope cl own C s H fp pn).N.length=X.N.length+own.length from Tn X own] at q
 exact q
theorem t5 (hcalm:X.calm=true) (B:kl X scope cl own) (hi:SI X tg iter fs) (hg:BG X scope cl own tg g fg) (hc:∀ C s H fp pn,Z6 (xr X scope cl own C s H fp pn) ifs ft)
  (he:∀ C s H fp pn,SE (xr X scope cl own C s H fp pn) elt f) (hs:∀ x,foldedSetIterable iter X.env x=pure x:=by intro _; rfl) :
  SF X (.ListComp elt [⟨tg,iter,ifs,0⟩] scope pos) (vj own.length fs fg ft f):=by
 obtain ⟨ti,pi,ki⟩:=hi.h
 refine ⟨⟨_,Co hcalm B pi (fun C s H fp pn=>(hg.q C s H fp pn).h) (fun C s H fp pn=>L0 (hc C s H fp pn)) (fun C s H fp pn=>O_ (he C s H fp pn)) hs,fun {G0 H0 G H τ σ d Q} K hf q=>?_⟩⟩
 obtain ⟨ds,hd,hf⟩:=zD hf
 obtain ⟨out,ho,hf⟩:=zD hf
 cases hf
 refine ki K hd fun J Ga Ha xa l wk=>DB wk l (K.go xa) ho (hg.k K.l2 K.l1) fun ys G1 H1 x1 r1 l1 p hp=>?_
 exact q p _ _ (xa.trans (x1.trans (zL.layO x1.gh hp))) (xa.h.free (x1.h.free hp)) (x1.gh.free hp) ⟨ys,yk,r1,l1⟩
end
section
variable {K:PySem.W.Frag} {n:Nat} {G0 H0 G H:Hp} {τ:zr} {σ:St}
theorem zk.mut {i:Nat} {d d':D} {p:Addr} {o:HO} (E:zk K n G0 H0 G H τ σ) (hi:τ[i]?=some (some (true,d))) (hp:σ[i]?=some (some (.ref p))) (new:xT K G (zR H p o) d' p):zk K n G0 H0 G (zR H p o) (τ.set i (some (true,d'))) σ:=by
 obtain ⟨p',e,g,z,_⟩:=E.ow i d hi
 rw [hp] at e
 cases e
 have keep:∀ {H1:Hp},H1 p=none->zf H1 H->zf H1 (zR H p o):=fun {H1} h s b u q=>by
  rw [z_ (wu q h)]
  exact s _ _ q
 refine ⟨⟨E.ext.g,keep z E.ext.h,keep g E.ext.gh,E.ext.new⟩,E.l1,by rw [List.length_set]; exact E.l2,fun j e h=>?_,fun j e h=>?_,fun j k e f q hne h1 h2 h3 h4=>?_⟩
 ·rcases wx h with ⟨rfl,w⟩ | ⟨ne,w⟩
  ·cases w
  ·exact E.fr j e w
 ·rcases wx h with ⟨rfl,w⟩ | ⟨ne,w⟩
  ·cases w
   exact ⟨p,hp,g,z,new⟩
  ·obtain ⟨q,eq,gq,zq,oq⟩:=E.ow j e w
   refine ⟨q,eq,gq,zq,?_⟩
   have hne:q≠p:=fun c=>by
    subst c
    exact E.ap i j d e q (fun c=>ne c.symm) hi w hp eq
   cases e with
   | lst ds=>obtain ⟨vs,ev,r⟩:=oq; exact ⟨vs,by rw [z_ hne]; exact ev,r⟩
   | dic ks ds=>obtain ⟨vs,ev,r⟩:=oq; exact ⟨vs,by rw [z_ hne]; exact ev,r⟩
   | _=>exact oq.elim
 ·have t:∀ {j:Nat} {e:D},(τ.set i (some (true,d')))[j]?=some (some (true,e))->∃ e,τ[j]?=some (some (true,e)):=fun {j e} h=>by
   rcases wx h with ⟨rfl,_⟩ | ⟨_,w⟩
   ·exact ⟨_,hi⟩
   ·exact ⟨_,w⟩
  obtain ⟨e1,w1⟩:=t h1
  obtain ⟨e2,w2⟩:=t h2
  exact E.ap j k e1 e2 q hne w1 w2 h3 h4
end
section
variable {X:Cx} {x:Str} {xp pos apos cpos:Pos} {e:Expr} {f:FE}
theorem HY {i:Nat} (ho:QE X (.Name x xp) (YF i)) (he:SE X e f) (hbase:attributeBase (.Name x xp) "append" X.env (eval (.Name x xp) X.env)=eval (.Name x xp) X.env:=by rfl) (hline:(apos.endLine == cpos.line)=true:=by rfl) (hs:yH e=true:=by rfl) :
  SS X (.Expr (.Call (.Attribute (.Name x xp) "append" apos) [e] [] cpos) pos) (Y0 i Wk f):=by
 obtain ⟨t,p,k⟩:=(zB he zN hs).h
 refine ⟨⟨_,(Eh (IA PySem.F.plainAttrs_list PySem.F.slot_list_append PySem.F.type_list_append De ho ⟨p⟩ hbase hline (by rw [List.all_cons,hs]; rfl) (by show 1<30; decide)) rfl).h,fun {G0 H0 G H τ σ fl E} K hf q=>?_⟩⟩
 unfold Y0 at hf
 split at hf
 ·rename_i d hd
  obtain ⟨y,hy,hf⟩:=zD hf
  obtain ⟨d',hd',hf⟩:=zD hf
  cases hf
  obtain ⟨a,ea,g,z,o⟩:=K.ow _ _ hd
  cases d with
  | lst ds=>
   obtain ⟨vs,ev,rs,l⟩:=o
   refine ⟨_,ea,.inl ⟨rfl,vs,yC.of ev⟩,k K (ds:=[y]) (by unfold zA; rw [hy]; rfl) fun us G1 H1 x1 r1=>?_⟩
   obtain ⟨u,r,rfl,hu,hr⟩:=r1
   cases (show r=[] from hr)
   change (if ds.length<yP then some (D.lst (ds++[y])) else none)=some d' at hd'
   by_cases c:ds.length<yP
   ·rw [if_pos c] at hd'
    cases hd'
    refine ⟨a,vs,u,rfl,rfl,x1.h _ _ ev,by rw [rs.length,sizeLine_eq]; exact c,?_⟩
    refine q _ _ _ ((K.go x1).mut hd ea ⟨vs++[u],yk,(rs.mono x1.g).append (Reps.one hu),?_⟩)
    rw [List.length_append,sizeLine_eq]
    exact c
   ·rw [if_neg c] at hd'
    cases hd'
  | _=>cases hd'
 ·cases hf
end
section
variable {P:Program} {w:World} {K:PySem.W.Frag} {mg:Str->Option Value} {base:Heap}
theorem Zj {α β:Type} {ds:List α} {k i:Nat} {h:α->Option β} {y:β} (e:(ds.map h++List.replicate k none)[i]?=some (some y)):∃ d,ds[i]?=some d/\h d=some y:=by
 have e':=ZU e
 rw [List.getElem?_map] at e'
 cases q:ds[i]? with
 | none=>rw [q] at e'; cases e'
 | some d=>
  rw [q] at e'
  exact ⟨d,rfl,Option.some.inj e'⟩
theorem QL {N:List Str} {G H:Hp} {ds:List D} {vs:List V} (s:zf G H) (r:Reps K G ds vs) (hl:ds.length<=N.length):zk K N.length G H G H (ds.map (fun d=>some (false,d))++List.replicate (N.length - ds.length) none) (L2.start N vs):=by
 have l:=r.length
 refine ⟨zL.refl s,?_,?_,fun i d h=>?_,fun i d h=>?_,fun i j d e p _ h1=>?_⟩
 ·unfold L2.start
  rw [List.length_append,List.length_map,List.length_replicate]
  omega
 ·rw [List.length_append,List.length_map,List.length_replicate]
  omega
 ·obtain ⟨d',e,z⟩:=Zj h
  cases z
  obtain ⟨v,ev,rv⟩:=r.get e
  refine ⟨v,?_,rv⟩
  unfold L2.start
  rw [List.getElem?_append_left (by rw [List.length_map]; exact (List.getElem?_eq_some_iff.mp ev).1),List.getElem?_map,ev]
  rfl
 ·obtain ⟨d',e,z⟩:=Zj h
  cases z
 ·obtain ⟨d',e,z⟩:=Zj h1
  cases z
theorem Def.okS {x:Str} {st:Stmt} {N ps:List Str} {k:Nat} {F:List D->Option (Bool×D)} {b:FS} (d:Def K mg x st ps) (S:zX N ps (zH st)) (hN:ps.length<=N.length) (hF:∀ ds r,F ds=some r->ds.length=ps.length/\yQ N.length b ds=some r)
  (hb:∀ (f:Addr) (cdv:Value) (A:Around) (outer:List Env) (s:Shared) (H:Hp) (E:XK),zt k (A.deeper (envOfC x (zH st) s.heap.objs.size f cdv))->vf (wJ yJ P w K mg base N x (zH st) f cdv A outer s H E).nox (zz st) b):zi P w K mg base x ps (k+1) (zm K F):=by
 refine d.ok S (fun vs H Q E h=>?_) fun f cdv A outer s H vs Q E hr h=>?_
 ·obtain ⟨G,ds,o,dd,_,r,e,_⟩:=h
  rw [r.length,(hF _ _ e).1]
 ·obtain ⟨G,ds,o,dd,s',r,e,q⟩:=h
  obtain ⟨l,hrun⟩:=hF _ _ e
  obtain ⟨t,p,kt⟩:=(hb f cdv A outer s H E hr).h
  obtain ⟨fl,hfl,hrun⟩:=zD hrun
  refine ⟨t,p,kt (QL (N:=N) s' r (by omega)) hfl ?_⟩
  cases fl with
  | nx τ=>
   cases hrun
   exact fun σ G' H' z=>q .non G' H' z.ext rfl
  | rt o' d'=>
   cases hrun
   cases o with
   | false=>exact q
   | true=>exact q
  | _=>cases hrun
end
end L3
namespace L3
open PySem PySem.Spec PyProof.Rows L2
end L3
namespace L3
open PySem PySem.Spec PyProof.Rows L2
section
variable {X:Cx} {K:PySem.W.Frag}
theorem pZ {C:Int->Int->Prop} {Cb:Int->Int->Bool} {g:Int->Int->Int} (h:∀ i j,Cb i j=true->C i j):xz K (rI C fun i j=>.int (g i j)) (fI Cb g):=fun G H x y u v d Q s rx ry hf q=>by
 cases x<;>first | (cases hf; done) | skip
 cases y<;>first | (cases hf; done) | skip
 rename_i i j
 change (match Cb i j with | true=>some (D.int (g i j)) | false=>none)=some d at hf
 cases c:Cb i j with
 | false=>rw [c] at hf; cases hf
 | true=>
  rw [c] at hf
  cases hf
  exact ⟨i,j,rx,ry,h i j c,q _ _ _ (zL.refl s) rfl⟩
theorem wB {g:Int->Int->Int}:xz K (vF fun i j=>.int (g i j)) (xI g):=fun G H x y u v d Q s rx ry hf q=>by
 cases x<;>first | (cases hf; done) | skip
 cases y<;>first | (cases hf; done) | skip
 cases hf
 exact ⟨_,_,rx,ry,q _ _ _ (zL.refl s) rfl⟩
theorem pf:xz K (vF fun i j=>.int (i - j)) uG:=fun G H x y u v d Q s rx ry hf q=>by
 cases x<;>first | (cases hf; done) | skip
 cases y<;>first | (cases hf; done) | skip
 cases hf
 exact ⟨_,_,rx,ry,q _ _ _ (zL.refl s) rfl⟩
theorem JD {i:Int} (h:qd i=true) : -(2 ^ 64)<i/\i<2 ^ 64:=by
 unfold qd at h
 rw [Bool.and_eq_true] at h
 exact ⟨of_decide_eq_true h.1,of_decide_eq_true h.2⟩
theorem JQ:xz K (rI jw fun i j=>.int (i*j)) ZQ:=pZ fun _ _ h=>.inl (JD h)
theorem JR:xz K (rI jw fun i j=>.int (i*j)) ZR:=pZ fun _ _ h=>.inr (JD h)
theorem xF:xz K (rI (fun _ j=>0<j) fun i j=>.int (i % j)) ym:=pZ fun _ _ h=>of_decide_eq_true h
theorem uO:xz K (rI (fun _ j=>0<j/\j<2 ^ 64) fun i j=>.int (i / j)) wV:=pZ fun _ _ h=>by
 rw [Bool.and_eq_true] at h
 exact ⟨of_decide_eq_true h.1,of_decide_eq_true h.2⟩
theorem EH {i j:Int} (h:wM i j=true):YS i j:=by
 unfold wM at h
 rw [Bool.and_eq_true,Bool.and_eq_true] at h
 exact ⟨of_decide_eq_true h.1,of_decide_eq_true h.2.1,of_decide_eq_true h.2.2⟩
theorem vq:xz K (rI YS fun i j=>.int (i*2 ^ j.toNat)) xJ:=pZ fun _ _ h=>EH h
theorem k8:xz K (rI (fun _ j=>0<=j) fun i j=>.int (i / 2 ^ j.toNat)) qY:=pZ fun _ _ h=>of_decide_eq_true h
theorem jg {g:Int->Int->Bool}:qM K (vF fun i j=>.bl (g i j)) (qW g):=fun H x y u v d Q rx ry hf=>by
 cases x<;>first | (cases hf; done) | skip
 cases y<;>first | (cases hf; done) | skip
 cases hf
 exact ⟨_,rfl,fun q=>⟨_,_,rx,ry,q⟩⟩
theorem Qw {H:Hp} {x:D} {u:V} (r:zK K H x u):jY x=decide (u=.non):=by
 cases x with
 | non=>cases r; rfl
 | bl b=>cases r; rfl
 | int b=>cases r; rfl
 | str b=>obtain ⟨rfl,_⟩:=r; rfl
 | tup b=>obtain ⟨a,vs,rfl,_⟩:=r; rfl
 | lst b=>obtain ⟨a,vs,rfl,_⟩:=r; rfl
 | dic b c=>obtain ⟨a,vs,rfl,_⟩:=r; rfl
 | exc b=>obtain ⟨a,C,rfl,_⟩:=r; rfl
 | obj b c e=>obtain ⟨a,C,dx,vs,rfl,_⟩:=r; rfl
theorem JP:qM K (fun x y H Q=>y=.non/\Q (.bl (decide (x=.non))) H) ZP:=fun H x y u v d Q rx ry hf=>by
 cases y<;>first | (cases hf; done) | skip
 have e:=Qw rx
 refine ⟨jY x,(Option.some.inj hf).symm,fun q=>⟨ry,?_⟩⟩
 rw [<- e]
 exact q
theorem Fx:qM K (fun x y H Q=>y=.non/\Q (.bl (!decide (x=.non))) H) Wq:=fun H x y u v d Q rx ry hf=>by
 cases y<;>first | (cases hf; done) | skip
 have e:=Qw rx
 refine ⟨!jY x,(Option.some.inj hf).symm,fun q=>⟨ry,?_⟩⟩
 rw [<- e]
 exact q
theorem Ke:∀ (G H:Hp) x u d (Q:VK),zK K G x u->Wp x=some d->∃ w,(∀ G,zK K G d w)/\(Q w H->rU (fun i=>.int (-i)) u H Q):=fun G H x u d Q r hf=>by
 cases x<;>first | (cases hf; done) | skip
 cases hf
 exact ⟨_,fun _=>rfl,fun q=>⟨_,r,q⟩⟩
theorem Kd:∀ (G H:Hp) x u d (Q:VK),zK K G x u->Wm x=some d->∃ w,(∀ G,zK K G d w)/\(Q w H->rU (fun i=>.int (Builtin.bitNot i)) u H Q):=fun G H x u d Q r hf=>by
 cases x<;>first | (cases hf; done) | skip
 cases hf
 exact ⟨_,fun _=>rfl,fun q=>⟨_,r,q⟩⟩
noncomputable def ID (K:PySem.W.Frag):R2:=fun x y H Q=>∃ l b xs zs,x=.ref l/\y=.ref b/\yC K H l xs/\yC K H b zs/\xs.length+zs.length<=sizeLine/\∀ p,H p=none->Q (.ref p) (zR H p (.lst (xs++zs)))
theorem JT:yB X (binaryOp .Add) (ID X.K):=by
 intro pins s σ H x y v u Q I rx ry h
 obtain ⟨l,b,xs,zs,rfl,rfl,hl,hb,hz,q⟩:=h
 cases rx
 cases ry
 obtain ⟨its,r1,p1,_⟩:=I.list hl
 obtain ⟨its2,r2,p2,_⟩:=I.list hb
 obtain ⟨⟨c1,d1,t1,sl1⟩,n1,ho1,hc1,hd1,ht1⟩:=p1
 obtain ⟨⟨c2,d2,t2,sl2⟩,n2,ho2,hc2,hd2,ht2⟩:=p2
 simp only at hc1 ht1 hc2 ht2
 subst hc1 ht1 hc2 ht2
 refine concat_meets ⟨_,ho1,rfl⟩ ⟨_,ho2,rfl⟩ noFill_list_add seq_list_add PySem.F.slot_list_add PySem.F.entry_list_add (PySem.F.args_list_add_2 _ _)
  (list_addW l b its.toArray its2.toArray n1 n2 d1 d2 sl1 sl2 (by rw [List.size_toArray,List.size_toArray,<- r1.length,<- r2.length]; exact hz)) ⟨ho1,ho2,?_⟩
 rw [show its.toArray++its2.toArray=(its++its2).toArray by simp]
 exact ⟨.ref _,_,I.lnew (t':=s.toks) (r1.append r2) (by rw [List.length_append]; exact hz),rfl,q _ I.fresh⟩
noncomputable def IB (K:PySem.W.Frag):R2:=fun x y H Q=>vF (fun i j=>.int (i+j)) x y H Q\/(∃ i k,x=.int i/\y=.bl k/\Q (.int (i+b2i k)) H)\/(∃ i j,x=.str i/\y=.str j/\i.length+j.length<=sizeLine/\Q (.str (i++j)) H)\/ID K x y H Q\/IE K x y H Q
theorem vU:yB X (binaryOp .Add) (IB X.K):=CD.or (CF.or (CG.or (JT.or CH)))
theorem vS:xz K (IB K) w8:=fun G H x y u v d Q s rx ry hf q=>by
 cases x<;>cases y<;>first | (cases hf; done) | skip
 ·rename_i i b
  cases rx
  cases ry
  cases hf
  refine .inr (.inl ⟨i,b,rfl,rfl,?_⟩)
  have e:i+b2i b=i+(if b then 1 else 0):=by cases b<;>rfl
  rw [e]
  exact q _ _ _ (zL.refl s) rfl
 ·cases hf
  exact .inl ⟨_,_,rx,ry,q _ _ _ (zL.refl s) rfl⟩
 ·rename_i i j
  obtain ⟨rfl,l1⟩:=rx
  obtain ⟨rfl,l2⟩:=ry
  change (if i.length+j.length<=yP then _ else _)=_ at hf
  by_cases c:i.length+j.length<=yP
  ·rw [if_pos c] at hf
   cases hf
   have c':i.length+j.length<=sizeLine:=by rw [sizeLine_eq]; exact c
   exact .inr (.inr (.inl ⟨i,j,rfl,rfl,c',q _ _ _ (zL.refl s) ⟨rfl,by rw [strLen_append]; exact c'⟩⟩))
  ·rw [if_neg c] at hf
   cases hf
 ·rename_i xs ys
  obtain ⟨a,vs,rfl,sa,ra,_⟩:=rx
  obtain ⟨b,us,rfl,sb,rb,_⟩:=ry
  change (if xs.isEmpty=false/\xs.length+ys.length<=yP then _ else _)=_ at hf
  by_cases c0:xs.isEmpty=false/\xs.length+ys.length<=yP
  ·rw [if_pos c0] at hf
   have c:=c0.2
   cases hf
   have c':(xs++ys).length<=sizeLine:=by rw [sizeLine_eq,List.length_append]; exact c
   have hx:vs≠[]:=fun e=>by
    have l:=ra.length
    rw [e] at l
    cases xs with
    | nil=>cases c0.1
    | cons=>cases l
   ·refine .inr (.inr (.inr (.inr ⟨a,b,vs,us,rfl,rfl,wb s sa,wb s sb,hx,by rw [ra.length,rb.length,sizeLine_eq]; exact c,fun e=>?_,fun e p hp=>?_⟩)))
    ·subst e
     have e2:ys=[]:=by
      cases ys with
      | nil=>rfl
      | cons=>obtain ⟨_,_,z,_⟩:=rb; cases z
     subst e2
     exact q _ _ _ (zL.refl s) ⟨a,vs,rfl,sa,by rw [List.append_nil]; exact ra,c'⟩
    ·exact q _ _ _ (zL.lay s hp) ⟨p,vs++us,rfl,yM.of yk,(ra.append rb).mono (vG (s.free hp) _),c'⟩
  ·rw [if_neg c0] at hf
   cases hf
 ·rename_i xs ys
  obtain ⟨a,vs,rfl,sa,ra,_⟩:=rx
  obtain ⟨b,us,rfl,sb,rb,_⟩:=ry
  change (if xs.length+ys.length<=yP then _ else _)=_ at hf
  by_cases c:xs.length+ys.length<=yP
  ·rw [if_pos c] at hf
   cases hf
   have c':(xs++ys).length<=sizeLine:=by rw [sizeLine_eq,List.length_append]; exact c
   refine .inr (.inr (.inr (.inl ⟨a,b,vs,us,rfl,rfl,wE s sa,wE s sb,by rw [ra.length,rb.length,sizeLine_eq]; exact c,fun p hp=>?_⟩)))
   exact q _ _ _ (zL.lay s hp) ⟨p,vs++us,rfl,yC.of yk,(ra.append rb).mono (vG (s.free hp) _),c'⟩
  ·rw [if_neg c] at hf
   cases hf
theorem Od {α:Type} {xs:List α} {i:Int} {x:α} (h:vh xs i=some x):∃ j:Nat,xs[j]?=some x/\∀ {β:Type} (ys:List β),ys.length=xs.length->vh ys i=ys[j]?:=by
 unfold vh at h
 cases e:ixN xs.length i with
 | none=>rw [e] at h; cases h
 | some j=>
  rw [e] at h
  exact ⟨j,h,fun ys l=>by unfold vh; rw [l,e]; rfl⟩
theorem Tc {α:Type} (xs:List α) (i:Int):vh xs i=xj xs i:=by
 unfold vh xj ixN
 by_cases h:0<=i
 ·rw [if_pos h,if_pos h]
  by_cases h2:i<xs.length
  ·rw [if_pos h2]; rfl
  ·rw [if_neg h2]
   exact (List.getElem?_eq_none (by omega)).symm
 ·rw [if_neg h,if_neg h]
  split<;>rfl
theorem IO {H:Hp} {ds:List D} {vs:List V} {i:Int} {d:D} (r:Reps K H ds vs) (h:xj ds i=some d):∃ v,vh vs i=some v/\zK K H d v:=by
 rw [<- Tc] at h
 obtain ⟨j,e,k⟩:=Od h
 obtain ⟨v,ev,rv⟩:=r.get e
 exact ⟨v,by rw [k vs r.length]; exact ev,rv⟩
noncomputable def MI:D->D->Option D
 | .lst xs,.int i=>xj xs i
 | .tup xs,.int i=>xj xs i
 | .str z,.int i=>(xj z.cps.toList i).bind fun c=>some (.str ⟨#[c]⟩)
 | _,_=>none
theorem VS:xz K (Vi K) MI:=fun G H x y u v d Q s rx ry hf q=>by
 cases x<;>first | (cases hf; done) | skip
 all_goals (cases y<;>first | (cases hf; done) | skip)
 ·rename_i z i
  obtain ⟨rfl,l⟩:=rx
  cases ry
  obtain ⟨c,hc,hf⟩:=zD hf
  cases hf
  rw [<- Tc] at hc
  exact .inr (.inr ⟨z,i,c,rfl,rfl,l,hc,q _ _ _ (zL.refl s) ⟨rfl,zW (n:=1) (by decide)⟩⟩)
 ·rename_i xs i
  obtain ⟨a,vs,rfl,sa,ra,_⟩:=rx
  cases ry
  obtain ⟨w,hw,rw_⟩:=IO ra hf
  exact .inr (.inl ⟨a,vs,i,w,rfl,rfl,wb s sa,hw,q _ _ _ (zL.refl s) rw_⟩)
 ·rename_i xs i
  obtain ⟨a,vs,rfl,sa,ra,_⟩:=rx
  cases ry
  obtain ⟨w,hw,rw_⟩:=IO ra hf
  exact .inl ⟨a,vs,i,w,rfl,rfl,wE s sa,hw,q _ _ _ (zL.refl s) rw_⟩
theorem pP:xX X (.builtin "len") (fun xs H Q=>(∃ p ys,xs=[.ref p]/\(yC X.K H p ys\/yM X.K H p ys)/\Q (.int ys.length) H)\/∃ z,xs=[.str z]/\z.length<=sizeLine/\Q (.int z.length) H):=LP.or LQ
theorem pd:gQ K (fun xs H Q=>(∃ p ys,xs=[.ref p]/\(yC K H p ys\/yM K H p ys)/\Q (.int ys.length) H)\/∃ z,xs=[.str z]/\z.length<=sizeLine/\Q (.int z.length) H) uF:=fun G H ds vs d Q s r hf q=>by
 match ds,hf with
 | [.lst xs],hf=>
  cases hf
  obtain ⟨v,r',rfl,⟨a,us,rfl,sq,ru,_⟩,h2⟩:=r
  cases (show r'=[] from h2)
  exact .inl ⟨a,us,rfl,.inl sq,by rw [ru.length]; exact q _ _ _ (zL.refl s) rfl⟩
 | [.tup xs],hf=>
  cases hf
  obtain ⟨v,r',rfl,⟨a,us,rfl,sq,ru,_⟩,h2⟩:=r
  cases (show r'=[] from h2)
  exact .inl ⟨a,us,rfl,.inr sq,by rw [ru.length]; exact q _ _ _ (zL.refl s) rfl⟩
 | [.str z],hf=>
  cases hf
  obtain ⟨v,r',rfl,⟨rfl,l⟩,h2⟩:=r
  cases (show r'=[] from h2)
  exact .inr ⟨z,rfl,l,q _ _ _ (zL.refl s) rfl⟩
end
end L3
namespace L3
open PySem PySem.Spec PyProof.Rows L2
theorem Q7:∀ xs ys:List D,(((List.range (min xs.length ys.length)).all fun j=>ya (xs.getD j .non) (ys.getD j .non))&&xs.length == ys.length)=dEqs xs ys
 | [],[]=>rfl
 | [],_::_=>rfl
 | _::_,[]=>rfl
 | x::xs,y::ys=>by
  have ih:=Q7 xs ys
  show _=(ya x y&&dEqs xs ys)
  rw [<- ih,List.length_cons,List.length_cons,Nat.succ_min_succ,List.range_succ_eq_map,List.all_cons,List.all_map,Bool.and_assoc]
  congr 1
  congr 1
  rw [Bool.eq_iff_iff]
  simp
theorem Q3 {f:D->D->Bool}:∀ {xs ys:List D},vM f xs ys=true->∀ (j:Nat) x y,xs[j]?=some x->ys[j]?=some y->f x y=true
 | [],_,_,j,x,y,e,_=>by cases e
 | x::xs,[],_,j,_,y,_,e=>by cases e
 | x::xs,y::ys,h,0,_,_,e1,e2=>by
  cases e1
  cases e2
  have h':(f x y&&vM f xs ys)=true:=h
  rw [Bool.and_eq_true] at h'
  exact h'.1
 | x::xs,y::ys,h,j+1,a,b,e1,e2=>by
  have h':(f x y&&vM f xs ys)=true:=h
  rw [Bool.and_eq_true] at h'
  exact Q3 h'.2 j a b (by simpa using e1) (by simpa using e2)
section
variable {X:Cx} {pins:List (Addr×Obj)} {σ:St} {H:Hp} {s:Shared} {K:PySem.W.Frag}
theorem Wi {n:Nat} (ih:∀ d1 d2 v,xx n d1 d2=true->zK K H d1 v->zK K H d2 v->ya d1 d2=true):∀ {xs ys:List D} {vs:List V},vM (xx n) xs ys=true->Reps K H xs vs->Reps K H ys vs->dEqs xs ys=true
 | [],[],_,_,_,_=>rfl
 | [],_::_,_,_,r1,r2=>by
  cases (show _=[] from r1)
  obtain ⟨_,_,e,_⟩:=r2
  cases e
 | _::_,[],_,_,r1,r2=>by
  cases (show _=[] from r2)
  obtain ⟨_,_,e,_⟩:=r1
  cases e
 | x::xs,y::ys,_,h,r1,r2=>by
  obtain ⟨v,r,rfl,a,b⟩:=r1
  obtain ⟨v',r',e,a',b'⟩:=r2
  cases e
  have h':(xx n x y&&vM (xx n) xs ys)=true:=h
  rw [Bool.and_eq_true] at h'
  show (ya x y&&dEqs xs ys)=true
  rw [ih x y v h'.1 a a',Wi ih h'.2 b b']
  rfl
theorem WX {n:Nat} {x y:D} (h:xx (n+1) x y=true):(∃ xs ys,x=.tup xs/\y=.tup ys/\vM (xx n) xs ys=true)\/(∃ xs ys,x=.lst xs/\y=.lst ys/\vM (xx n) xs ys=true)\/(yV x=true/\yV y=true):=by
 unfold xx at h
 split at h
 ·exact .inl ⟨_,_,rfl,rfl,h⟩
 ·exact .inr (.inl ⟨_,_,rfl,rfl,h⟩)
 ·rw [Bool.and_eq_true] at h
  exact .inr (.inr h)
theorem pj {d:D} {v:V} (h:yV d=true) (r:zK K H d v):vQ v=true:=by
 cases d<;>first | exact absurd h Bool.false_ne_true | skip
 ·cases (show v=_ from r); rfl
 ·cases (show v=_ from r); rfl
 ·cases (show v=_ from r); rfl
 ·cases (show v=_/\_ from r).1; rfl
theorem kI {d1 d2:D} {x y:V} (h1:yV d1=true) (h2:yV d2=true) (r1:zK K H d1 x) (r2:zK K H d2 y):wl x y=ya d1 d2:=by
 cases d1<;>first | exact absurd h1 Bool.false_ne_true | skip
 all_goals (cases d2<;>first | exact absurd h2 Bool.false_ne_true | skip)
 all_goals first
  | (cases (show x=_ from r1); cases (show y=_ from r2); rfl)
  | (cases (show x=_ from r1); cases (show y=_/\_ from r2).1; rfl)
  | (cases (show x=_/\_ from r1).1; cases (show y=_ from r2); rfl)
  | (cases (show x=_/\_ from r1).1; cases (show y=_/\_ from r2).1; rfl)
theorem ZL (I:zC X pins σ H s):∀ (n:Nat) (d1 d2:D) (v:V),xx n d1 d2=true->zK X.K H d1 v->zK X.K H d2 v->ya d1 d2=true
 | 0,_,_,_,h,_,_=>by cases h
 | n+1,d1,d2,v,h,r1,r2=>by
  rcases WX h with ⟨xs,ys,rfl,rfl,h⟩ | ⟨xs,ys,rfl,rfl,h⟩ | ⟨f1,f2⟩
  ·obtain ⟨a,vs,rfl,s1,q1,_⟩:=r1
   obtain ⟨a',us,e,s2,q2,_⟩:=r2
   cases e
   cases I.tuple_inj s1 s2
   exact Wi (fun d1 d2 v=>ZL I n d1 d2 v) h q1 q2
  ·obtain ⟨a,vs,rfl,s1,q1,_⟩:=r1
   obtain ⟨a',us,e,s2,q2,_⟩:=r2
   cases e
   cases I.list_inj s1 s2
   exact Wi (fun d1 d2 v=>ZL I n d1 d2 v) h q1 q2
  ·rw [<- kI f1 f2 r1 r2]
   exact MB (pj f1 r1)
theorem Qb {α:Type} {xs:List α} {j:Nat} {x d:α} (h:xs[j]?=some x):xs.getD j d=x:=by rw [List.getD_eq_getElem?_getD,h]; rfl
theorem Zy {A:Around} {n:Nat} {a c:Addr} {xs ys:List D} {vs us:List V} (I:zC X pins σ H s) (hu:A.units<cLine) (hq:TU X.K H a c vs us) (q1:Reps X.K H xs vs) (q2:Reps X.K H ys us) (h:vM (xx n) xs ys=true)
  (ih:∀ (d1 d2:D) (x y:V) (u v:Value),xx n d1 d2=true->zK X.K H d1 x->zK X.K H d2 y->zY x u->zY y v->SeqAt.EqAt A.in1 s u v (ya d1 d2)):SeqAt.RcAt A s (.ref a) (.ref c) (dEqs xs ys)/\SeqAt.RcNeAt A s (.ref a) (.ref c) (!dEqs xs ys):=by
 have z:=Ey (A:=A) (e:=fun j=>ya (xs.getD j .non) (ys.getD j .non)) I hu hq fun j x' y' u' v' e1 e2 w1 w2=>by
  obtain ⟨d1,g1,t1⟩:=q1.at e1
  obtain ⟨d2,g2,t2⟩:=q2.at e2
  show SeqAt.EqAt A.in1 s u' v' (ya (xs.getD j .non) (ys.getD j .non))
  rw [Qb g1,Qb g2]
  exact ih d1 d2 x' y' u' v' (Q3 h j d1 d2 g1 g2) t1 t2 w1 w2
 rw [q1.length,q2.length,Q7] at z
 exact z
theorem ZK (I:zC X pins σ H s):∀ (n:Nat) (A:Around) (d1 d2:D) (x y:V) (u v:Value),A.units+n<cLine->xx n d1 d2=true->zK X.K H d1 x->zK X.K H d2 y->zY x u->zY y v->SeqAt.EqAt A s u v (ya d1 d2)
 | 0,_,_,_,_,_,_,_,_,h,_,_,_,_=>by cases h
 | n+1,A,d1,d2,x,y,u,v,hu,h,r1,r2,rx,ry=>by
  have h0:=h
  have ra:=r1
  have rb:=r2
  rcases WX h with ⟨xs,ys,rfl,rfl,h⟩ | ⟨xs,ys,rfl,rfl,h⟩ | ⟨f1,f2⟩
  ·obtain ⟨a,vs,rfl,s1,q1,l1⟩:=r1
   obtain ⟨c,us,rfl,s2,q2,l2⟩:=r2
   cases (show u=Value.ref a from rx)
   cases (show v=Value.ref c from ry)
   by_cases hac:a=c
   ·subst hac
    rw [ZL I (n+1) _ _ _ h0 ra rb]
    exact SeqAt.EqAt.same _
   ·exact SeqAt.EqAt.of_refs hac (Zy I (by omega) (.inl ⟨s1,s2⟩) q1 q2 h fun d1 d2 x y u v hh t1 t2 w1 w2=>ZK I n A.in1 d1 d2 x y u v (by rw [ZX]; omega) hh t1 t2 w1 w2).1
  ·obtain ⟨a,vs,rfl,s1,q1,l1⟩:=r1
   obtain ⟨c,us,rfl,s2,q2,l2⟩:=r2
   cases (show u=Value.ref a from rx)
   cases (show v=Value.ref c from ry)
   by_cases hac:a=c
   ·subst hac
    rw [ZL I (n+1) _ _ _ h0 ra rb]
    exact SeqAt.EqAt.same _
   ·exact SeqAt.EqAt.of_refs hac (Zy I (by omega) (.inr ⟨s1,s2⟩) q1 q2 h fun d1 d2 x y u v hh t1 t2 w1 w2=>ZK I n A.in1 d1 d2 x y u v (by rw [ZX]; omega) hh t1 t2 w1 w2).1
  ·rw [<- kI f1 f2 r1 r2]
   exact QM rx ry (pj f1 r1) (pj f2 r2)
end
noncomputable def Zx (K:PySem.W.Frag) (neg:Bool):R2:=fun x y H Q=>∃ d1 d2 k,zK K H d1 x/\zK K H d2 y/\qX d1 d2=some k/\Q (.bl (if neg then !k else k)) H
theorem yZ {A:Around} {k:Nat} (hr:zt k A):A.units+7<cLine:=Nat.lt_of_le_of_lt (Nat.add_le_add_left (by decide:7<=64) _) hr.units
section
variable {X:Cx} {K:PySem.W.Frag}
theorem Wl {d1 d2:D} {k:Bool} (h:qX d1 d2=some k):xx 6 d1 d2=true/\k=ya d1 d2:=by
 unfold qX at h
 split at h
 ·cases h
 ·cases h
 ·split at h
  ·rename_i e
   cases h
   exact ⟨e,rfl⟩
  ·cases h
theorem Ih {H:Hp} {d1 d2:D} {x y:V} {k:Bool} (h:qX d1 d2=some k) (h1:yV d1=true) (h2:yV d2=true) (r1:zK K H d1 x) (r2:zK K H d2 y):Uj x y=true/\decide (x=y)=k:=by
 obtain ⟨_,e⟩:=Wl h
 subst e
 cases d1<;>first | exact absurd h1 Bool.false_ne_true | skip
 all_goals (cases d2<;>first | exact absurd h2 Bool.false_ne_true | (cases h; done) | skip)
 all_goals first
  | (cases (show x=_ from r1); cases (show y=_ from r2); exact ⟨rfl,by first | rfl | exact Wb | exact Wa⟩)
  | (cases (show x=_ from r1); cases (show y=_/\_ from r2).1; exact ⟨rfl,rfl⟩)
  | (cases (show x=_/\_ from r1).1; cases (show y=_ from r2); exact ⟨rfl,rfl⟩)
  | (cases (show x=_/\_ from r1).1; cases (show y=_/\_ from r2).1; exact ⟨rfl,Wc⟩)
theorem QO {pins:List (Addr×Obj)} {σ:St} {H:Hp} {s:Shared} {A:Around} {d1 d2:D} {x y:V} {u v:Value} (I:zC X pins σ H s) (hu:A.units+7<cLine) (h:xx 6 d1 d2=true) (hf:¬ (yV d1&&yV d2)=true) (r1:zK X.K H d1 x) (r2:zK X.K H d2 y) (rx:zY x u) (ry:zY y v) :
  SeqAt.RcAt A s u v (ya d1 d2)/\SeqAt.RcNeAt A s u v (!ya d1 d2):=by
 rcases WX h with ⟨xs,ys,rfl,rfl,h⟩ | ⟨xs,ys,rfl,rfl,h⟩ | ⟨f1,f2⟩
 ·obtain ⟨a,vs,rfl,s1,q1,l1⟩:=r1
  obtain ⟨c,us,rfl,s2,q2,l2⟩:=r2
  cases (show u=Value.ref a from rx)
  cases (show v=Value.ref c from ry)
  exact Zy I (by omega) (.inl ⟨s1,s2⟩) q1 q2 h fun d1 d2 x y u v hh t1 t2 w1 w2=>ZK I 5 A.in1 d1 d2 x y u v (by rw [ZX]; omega) hh t1 t2 w1 w2
 ·obtain ⟨a,vs,rfl,s1,q1,l1⟩:=r1
  obtain ⟨c,us,rfl,s2,q2,l2⟩:=r2
  cases (show u=Value.ref a from rx)
  cases (show v=Value.ref c from ry)
  exact Zy I (by omega) (.inr ⟨s1,s2⟩) q1 q2 h fun d1 d2 x y u v hh t1 t2 w1 w2=>ZK I 5 A.in1 d1 d2 x y u v (by rw [ZX]; omega) hh t1 t2 w1 w2
 ·exact absurd (by rw [f1,f2]; rfl) hf
theorem yx (hu:X.A.units+7<cLine):yB X (compareOp .Eq) (Zx X.K false):=by
 intro pins s σ H x y v u Q I rx ry h
 obtain ⟨d1,d2,k,r1,r2,hk,q⟩:=h
 by_cases hf:(yV d1&&yV d2)=true
 ·have hf':=hf
  rw [Bool.and_eq_true] at hf'
  obtain ⟨a,b⟩:=Ih hk hf'.1 hf'.2 r1 r2
  exact CI pins s σ H x y v u Q I rx ry ⟨a,by rw [b]; exact q⟩
 ·obtain ⟨hc,rfl⟩:=Wl hk
  exact (QO I hu hc hf r1 r2 rx ry).1 _ _ _ _ ⟨.bl _,H,I,rfl,q⟩
theorem jk (hu:X.A.units+7<cLine):yB X (compareOp .NotEq) (Zx X.K true):=by
 intro pins s σ H x y v u Q I rx ry h
 obtain ⟨d1,d2,k,r1,r2,hk,q⟩:=h
 by_cases hf:(yV d1&&yV d2)=true
 ·have hf':=hf
  rw [Bool.and_eq_true] at hf'
  obtain ⟨a,b⟩:=Ih hk hf'.1 hf'.2 r1 r2
  exact CP pins s σ H x y v u Q I rx ry ⟨a,by rw [b]; exact q⟩
 ·obtain ⟨hc,rfl⟩:=Wl hk
  exact (QO I hu hc hf r1 r2 rx ry).2 _ _ _ _ ⟨.bl _,H,I,rfl,q⟩
theorem yu:qM K (Zx K false) zh:=fun H x y u v d Q rx ry hf=>by
 obtain ⟨k,hk,hf⟩:=zD hf
 cases hf
 exact ⟨_,rfl,fun q=>⟨x,y,k,rx,ry,hk,q⟩⟩
theorem jh:qM K (Zx K true) wm:=fun H x y u v d Q rx ry hf=>by
 obtain ⟨k,hk,hf⟩:=zD hf
 cases hf
 exact ⟨_,rfl,fun q=>⟨x,y,k,rx,ry,hk,q⟩⟩
end
theorem D2 {K:PySem.W.Frag}:PySem.W.kitOne K (.type "NoneType") (.type "str")=some false/\PySem.W.kitOne K (.type "NoneType") (.type "list")=some false/\PySem.W.kitOne K (.type "NoneType") (.type "tuple")=some false/\
  PySem.W.kitOne K (.type "bool") (.type "str")=some false/\PySem.W.kitOne K (.type "bool") (.type "list")=some false/\PySem.W.kitOne K (.type "bool") (.type "tuple")=some false/\
  PySem.W.kitOne K (.type "int") (.type "str")=some false/\PySem.W.kitOne K (.type "int") (.type "list")=some false/\PySem.W.kitOne K (.type "int") (.type "tuple")=some false:=by refine ⟨?_,?_,?_,?_,?_,?_,?_,?_,?_⟩<;>kernel_rfl
theorem D3 {K:PySem.W.Frag}:PySem.W.kitOne K (.type "str") (.type "int")=some false/\PySem.W.kitOne K (.type "str") (.type "bool")=some false/\PySem.W.kitOne K (.type "str") (.type "list")=some false/\PySem.W.kitOne K (.type "str") (.type "tuple")=some false/\
  PySem.W.kitOne K (.type "list") (.type "int")=some false/\PySem.W.kitOne K (.type "list") (.type "bool")=some false/\PySem.W.kitOne K (.type "list") (.type "str")=some false/\PySem.W.kitOne K (.type "list") (.type "tuple")=some false/\PySem.W.kitOne K (.type "list") (.type "list")=some true:=by refine ⟨?_,?_,?_,?_,?_,?_,?_,?_,?_⟩<;>first | kernel_rfl | rfl
theorem D4 {K:PySem.W.Frag}:PySem.W.kitOne K (.type "tuple") (.type "int")=some false/\PySem.W.kitOne K (.type "tuple") (.type "bool")=some false/\PySem.W.kitOne K (.type "tuple") (.type "list")=some false/\PySem.W.kitOne K (.type "tuple") (.type "str")=some false:=by refine ⟨?_,?_,?_,?_⟩<;>kernel_rfl
noncomputable def KY:D->String
 | .non => "NoneType"
 | .bl _ => "bool"
 | .int _ => "int"
 | .str _ => "str"
 | .tup _ => "tuple"
 | .lst _ => "list"
 | .dic _ _ => "dict"
 | .exc _ => "x"
 | .obj _ _ _ => "x"
theorem jc {K:PySem.W.Frag} {T:qP} {d:D} {b:Bool} (h:Za T d=some b):PySem.W.kitOne K (.type (KY d)) (.type T.nm)=some b:=by
 obtain ⟨x1,x2,x3,x4,x5,x6,x7,x8,x9⟩:=D2 (K:=K)
 obtain ⟨y1,y2,y3,y4,y5,y6,y7,y8,y9⟩:=D3 (K:=K)
 obtain ⟨z1,z2,z3,z4⟩:=D4 (K:=K)
 cases T<;>cases d<;>cases h
 all_goals first | exact Bw | exact Bu | exact Bv | exact Bt | exact Bz | exact By | exact D0 | exact B_ | assumption
noncomputable def Ep (K:PySem.W.Frag) (T:qP):List V->Hp->VK->Prop:=fun xs H Q=>∃ x d b,xs=[x,.ty T.nm]/\zK K H d x/\Za T d=some b/\Q (.bl b) H
theorem LN {X:Cx} (T:qP):xX X (.builtin "isinstance") (Ep X.K T):=by
 intro pins s σ H xs us Q I r h
 obtain ⟨x,d,b,rfl,rd,e,q⟩:=h
 obtain ⟨u,c,rfl,rx,rc⟩:=T4 r
 cases (show c=Value.type T.nm from rc)
 have fin:∀ tk,EP X pins σ Q (.bool b) { s with toks:=tk }:=fun tk=>⟨.bl b,H,I.tok tk,rfl,q⟩
 cases d with
 | non=>cases (show x=_ from rd); exact Zb I rx .non (jc (d:=.non) e) fin
 | bl y=>cases (show x=_ from rd); exact Zb I rx (.bl _) (jc (d:=.bl y) e) fin
 | int y=>cases (show x=_ from rd); exact Zb I rx (.int _) (jc (d:=.int y) e) fin
 | str y=>cases (show x=_/\_ from rd).1; exact Zb I rx (.str _) (jc (d:=.str y) e) fin
 | tup ds=>
  obtain ⟨a,vs,rfl,sq,_⟩:=rd
  cases (show u=Value.ref a from rx)
  obtain ⟨its,_,⟨o,h1,h2,_⟩,_⟩:=I.tuple sq
  exact PySem.W.kia_one PySem.W.kitx_tuple I.kIn ⟨o,h1,h2⟩ (jc (d:=.tup ds) e) (fun z=>nomatch z) fin
 | lst ds=>
  obtain ⟨a,vs,rfl,sq,_⟩:=rd
  cases (show u=Value.ref a from rx)
  obtain ⟨its,_,⟨o,n,h1,h2,_⟩,_⟩:=I.list sq
  exact PySem.W.kia_one PySem.W.kitx_list I.kIn ⟨o,h1,h2⟩ (jc (d:=.lst ds) e) (fun z=>nomatch z) fin
 | dic ks ds=>cases T<;>cases e
 | exc _=>cases T<;>cases e
 | obj _ _ _=>cases T<;>cases e
theorem kQ {X:Cx} {a:Expr} {f:FE} {x:Str} {p p1 pos:Pos} (T:qP) (hg:Gl X "isinstance") (hgT:Gl X x) (hm:X.mg "isinstance" = none) (hmT:X.mg x=none) (hv:bootBuiltins x=some (.type T.nm)) (ha:SB X a f) (hs:yH a=true:=by rfl)
  (hn:x ≠ "__name__" := by decide) (hd:(x == ("__debug__" : Str))=false:=by decide):SE X (.Call (.Name "isinstance" p) [a,.Name x p1] [] pos) (pR T f):=by
 obtain ⟨t,pt,k⟩:=ha.h
 refine ⟨⟨_,(Vd (LN T) hg hm LC (J_ ⟨pt⟩ (J_ (Ec hgT hmT hv hn hd) Eb rfl) hs) (by decide) (by decide) (by rw [List.all_cons,hs]; rfl)).h,fun {G0 H0 G H τ σ d Q} E hf q=>?_⟩⟩
 obtain ⟨z,hz,hf⟩:=zD hf
 obtain ⟨b,hb,hf⟩:=zD hf
 cases hf
 exact k E hz fun v G' H' x r=>⟨v,z,b,rfl,r,hb,q _ _ _ x rfl⟩
end L3
namespace L3
open PySem
theorem Zh {g:FG} {b:FS} (P:Nat->zr->Prop):∀ {ds:List D} {σ:zr} (n:Nat),P n σ->(∀ i d σ,ds[i]?=some d->P (n+i) σ->∃ σ1 σ2,g d σ=some σ1/\(b σ1=some (.nx σ2)\/b σ1=some (.ct σ2))/\P (n+i+1) σ2)->
  ∃ σ',qc g b ds σ=some (.nx σ')/\P (n+ds.length) σ'
 | [],σ,n,h,_=>⟨σ,rfl,h⟩
 | d::ds,σ,n,h,step=>by
  obtain ⟨σ1,σ2,e1,e2,p2⟩:=step 0 d σ rfl h
  obtain ⟨σ',e3,p3⟩:=Zh P (ds:=ds) (σ:=σ2) (n+1) p2 fun i d' τ hd hp=>by
   obtain ⟨a,b',c1,c2,c3⟩:=step (i+1) d' τ (by simpa using hd) (by rw [show n+(i+1)=n+1+i by omega]; exact hp)
   exact ⟨a,b',c1,c2,by rw [show n+1+i+1=n+(i+1)+1 by omega]; exact c3⟩
  refine ⟨σ',?_,by rw [List.length_cons,show n+(ds.length+1)=n+1+ds.length by omega]; exact p3⟩
  show (g d σ).bind _=_
  rw [e1]
  show (b σ1).bind _=_
  rcases e2 with e2 | e2
  ·rw [e2]; exact e3
  ·rw [e2]; exact e3
theorem kR {a b:FS} {σ σ':zr} (h:a σ=some (.nx σ')):zb a b σ=b σ':=by
 show (a σ).bind _=_
 rw [h]
 rfl
noncomputable abbrev vx (j:Nat):List D:=(List.range j).map fun k:Nat=>D.int k
theorem Vj {f:FE} {τ:zr} {n:Int} (h:f τ=some (.int n)) (h1:n.natAbs<=1000000):ui (eC (.int 0)) f τ=some (vx n.toNat):=by
 unfold ui
 rw [h]
 show (if (0:Int).natAbs<=yP/\n.natAbs<=yP/\(n - 0).toNat<=yP then _ else _)=_
 rw [if_pos ⟨by decide,by show _<=16777216; omega,by show _<=16777216; omega⟩,Int.sub_zero]
 simp only [Int.zero_add]
end L3
namespace L3
noncomputable def shx:=
 And.intro yQ.eq_1 <| And.intro zb.eq_1 <| And.intro yW.eq_1 <| And.intro jp.eq_1 <| And.intro zu.eq_1 <| And.intro uy.eq_1 <| And.intro qi.eq_1 <| And.intro yg.eq_1 <| And.intro yj.eq_1 <| And.intro GI.eq_1 <|
 And.intro GJ.eq_1 <| And.intro Y0.eq_1 <| And.intro jo.eq_1 <| And.intro qc.eq_1 <| And.intro qc.eq_2 <| And.intro e1.eq_1 <| And.intro e2.eq_1 <| And.intro eL.eq_1 <| And.intro eC.eq_1 <| And.intro z6.eq_1 <| And.intro gb.eq_1 <|
 And.intro zA.eq_1 <| And.intro zG.eq_1 <| And.intro tE.eq_1 <| And.intro qS.eq_def <| And.intro kZ.eq_1 <| And.intro ju.eq_1 <| And.intro t8.eq_1 <| And.intro jR.eq_1 <| And.intro ZI.eq_1 <| And.intro Wf.eq_1 <| And.intro uD.eq_1 <|
 And.intro xO.eq_1 <| And.intro wL.eq_1 <| And.intro pR.eq_1 <| And.intro Za.eq_def <| And.intro fI.eq_def <| And.intro uG.eq_def <| And.intro qW.eq_def <| And.intro ZQ.eq_1 <| And.intro ZR.eq_1 <| And.intro ym.eq_1 <| And.intro wV.eq_1 <|
 And.intro MJ.eq_1 <| And.intro xJ.eq_1 <| And.intro qY.eq_1 <| And.intro xI.eq_def <| And.intro Wp.eq_def <| And.intro uF.eq_def <| And.intro MH.eq_def <| And.intro ZP.eq_def <| And.intro Wq.eq_def <| And.intro jY.eq_def <|
 And.intro yp.eq_1 <| And.intro uh.eq_1 <| And.intro vm.eq_1 <| And.intro zl.eq_1 <| And.intro wK.eq_1 <| And.intro vj.eq_1 <|
 And.intro @Option.bind_some.{0,0} <| And.intro @Option.bind_none.{0,0} <| And.intro @List.getElem?_cons_zero.{0} <| And.intro @List.getElem?_cons_succ.{0} <| And.intro @List.set_cons_zero.{0} <| And.intro @List.set_cons_succ.{0} <| And.intro @List.map_cons.{0,0} <| And.intro @List.map_nil.{0,0} <|
 And.intro @List.cons_append.{0} <| And.intro @List.nil_append.{0} <| And.intro @List.length_cons.{0} <| And.intro @List.length_nil.{0} <| And.intro @List.replicate_zero.{0} <| And.intro @List.replicate_succ.{0} <| And.intro Bool.not_true <| And.intro Bool.not_false <|
 And.intro @decide_true <| And.intro @decide_false <| And.intro Bool.and_self <| And.intro Bool.and_true Bool.true_and
end L3
namespace L3
open PySem PySem.Spec PyProof.Rows L2
section
variable {α:Type}
theorem OL:∀ {ks:List zM} {vs:List α} (k:zM),ks.length=vs.length->((ks.zip vs).any fun kv=>decide (kv.1=k))=vA ks k
 | [],[],_,_=>rfl
 | k'::ks,v::vs,k,h=>by
  have ih:=OL (ks:=ks) (vs:=vs) k (by simpa using h)
  show (decide (k'=k)||((ks.zip vs).any fun kv=>decide (kv.1=k)))=(decide (k'=k)||vA ks k)
  rw [ih]
theorem pz:∀ {ks:List zM} {vs:List V} (k:zM),ks.length=vs.length->we (ks.zip vs) k=getK ks vs k
 | [],[],_,_=>rfl
 | k'::ks,v::vs,k,h=>by
  have ih:=pz (ks:=ks) (vs:=vs) k (by simpa using h)
  by_cases e:k'=k
  ·rw [List.zip_cons_cons,YJ (p:=(k',v)) e]
   show _=(if k'=k then some v else _)
   rw [if_pos e]
  ·rw [List.zip_cons_cons,YI (p:=(k',v)) e,ih]
   show _=(if k'=k then some v else _)
   rw [if_neg e]
theorem ON:∀ {ks:List zM} {vs:List V} (k:zM) (v:V),ks.length=vs.length->((ks.zip vs).map fun kv=>if kv.1=k then (kv.1,v) else kv)=ks.zip (List.zipWith (fun k' x=>if k'=k then v else x) ks vs)
 | [],[],_,_,_=>rfl
 | k'::ks,u::vs,k,v,h=>by
  have ih:=ON (ks:=ks) (vs:=vs) k v (by simpa using h)
  rw [List.zip_cons_cons,List.map_cons,ih,List.zipWith_cons_cons,List.zip_cons_cons]
  by_cases e:k'=k
  ·rw [if_pos e,if_pos e]
  ·rw [if_neg e,if_neg e]
theorem TF {ks:List zM} {vs:List V} {k:zM} {v:V} (h:ks.length=vs.length):wC (ks.zip vs) k v=(xm ks k).zip (xH ks vs k v):=by
 unfold wC xm xH
 rw [OL k h]
 by_cases c:vA ks k=true
 ·rw [if_pos c,if_pos c,if_pos c,ON k v h]
 ·rw [if_neg c,if_neg c,if_neg c,List.zip_append h]
  rfl
theorem kF {ks:List zM} {vs:List α} {k:zM} {v:α} (h:ks.length=vs.length):(xm ks k).length=(xH ks vs k v).length:=by
 unfold xm xH
 split
 ·rw [List.length_zipWith,h,Nat.min_self]
 ·rw [List.length_append,List.length_append,h]
  rfl
theorem Vc {ks:List zM} {vs:List α} {k:zM} {v:α} (h:ks.length=vs.length):(xH ks vs k v).length<=vs.length+1:=by
 unfold xH
 split
 ·rw [List.length_zipWith,h,Nat.min_self]
  exact Nat.le_succ _
 ·rw [List.length_append]
  exact Nat.le_refl _
end
section
variable {K:PySem.W.Frag} {G H:Hp}
theorem Reps.getK:∀ {ks:List zM} {ds:List D} {vs:List V} {k:zM} {d:D},Reps K H ds vs->getK ks ds k=some d->∃ v,getK ks vs k=some v/\zK K H d v
 | [],_,_,_,_,_,e=>by cases e
 | _::_,[],_,_,_,_,e=>by cases e
 | k'::ks,d'::ds,_,k,d,r,e=>by
  obtain ⟨v,r',rfl,hv,hr⟩:=r
  change (if k'=k then some d' else L3.getK ks ds k)=some d at e
  by_cases c:k'=k
  ·rw [if_pos c] at e
   cases e
   exact ⟨v,by show (if k'=k then some v else _)=_; rw [if_pos c],hv⟩
  ·rw [if_neg c] at e
   obtain ⟨u,hu,ru⟩:=Reps.getK hr e
   exact ⟨u,by show (if k'=k then some v else _)=_; rw [if_neg c]; exact hu,ru⟩
theorem Qe {α β:Type}:∀ {ks:List zM} {ds:List α} {vs:List β} {k:zM},ds.length=vs.length->getK ks ds k=none->getK ks vs k=none
 | [],_,_,_,_,_=>by unfold getK; rfl
 | _::_,[],[],_,_,_=>rfl
 | k'::ks,d'::ds,v::vs,k,h,e=>by
  change (if k'=k then some d' else getK ks ds k)=none at e
  show (if k'=k then some v else getK ks vs k)=none
  by_cases c:k'=k
  ·rw [if_pos c] at e; cases e
  ·rw [if_neg c] at e
   rw [if_neg c]
   exact Qe (by simpa using h) e
theorem Wy {α:Type}:∀ {ks:List zM} {vs:List α} (k:zM),ks.length=vs.length->(getK ks vs k).isSome=vA ks k
 | [],[],_,_=>rfl
 | k'::ks,v::vs,k,h=>by
  have ih:=Wy (ks:=ks) (vs:=vs) k (by simpa using h)
  show (if k'=k then some v else getK ks vs k).isSome=(decide (k'=k)||_)
  by_cases c:k'=k
  ·rw [if_pos c,decide_eq_true c]; rfl
  ·rw [if_neg c,decide_eq_false c,ih]; rfl
theorem Reps.zipW {k:zM} {d:D} {v:V} (hv:zK K H d v):∀ {ks:List zM} {ds:List D} {vs:List V},Reps K H ds vs->Reps K H (List.zipWith (fun k' x=>if k'=k then d else x) ks ds) (List.zipWith (fun k' x=>if k'=k then v else x) ks vs)
 | [],_,_,_=>rfl
 | _::_,[],_,r=>by cases (show _=[] from r); rfl
 | k'::ks,d'::ds,_,r=>by
  obtain ⟨u,r',rfl,hu,hr⟩:=r
  refine ⟨_,_,rfl,?_,Reps.zipW hv hr⟩
  show zK K H (if k'=k then d else d') (if k'=k then v else u)
  by_cases c:k'=k
  ·rw [if_pos c,if_pos c]; exact hv
  ·rw [if_neg c,if_neg c]; exact hu
theorem Reps.put {ks:List zM} {ds:List D} {vs:List V} {k:zM} {d:D} {v:V} (r:Reps K H ds vs) (hv:zK K H d v):Reps K H (xH ks ds k d) (xH ks vs k v):=by
 unfold xH
 split
 ·exact Reps.zipW hv r
 ·exact r.append (Reps.one hv)
theorem qb {x:D} {k:zM} {u:V} (h:wp x=some k) (r:zK K H x u):u=kV k:=by
 cases x<;>first | (cases h; done) | skip
 ·cases h; exact r
 ·cases h; exact (show u=_/\_ from r).1
end
section
variable {X:Cx} {K:PySem.W.Frag}
noncomputable def II:R2:=fun x y H Q=>∃ a kvs k v,x=.ref a/\y=kV k/\Rd H a (.dK kvs)/\we kvs k=some v/\Q v H
theorem Bf:vH X II:=by
 intro value slice pins s σ H x y v u Q I rx ry h hs
 obtain ⟨a,kvs,k,z,rfl,rfl,e,l,q⟩:=h
 cases rx
 obtain ⟨_,_,vs,rel,dd⟩:=tR I.hok e
 obtain ⟨w',hw,rw'⟩:=w6.some_of (v:=z) (o:=valueAt vs k) (by rw [<- l]; exact rel.val k)
 exact subscriptTail_builtinR (x:=w') (Lp I (.inl ⟨kvs,k,e,rfl,rfl⟩)) PySem.F.slot_dict_getitem.lookup
  (wpAny_getItem_of (Q:=fun r s'=>r=w'/\EP X pins σ Q r s') (qZ ry) dd.mapOf hw ⟨rfl,z,H,I.tok _,rw',q⟩) hs
noncomputable def IH (K:PySem.W.Frag):R2:=fun x y H Q=>Vi K x y H Q\/II x y H Q
theorem zO (_:X.A.units+1<cLine):vH X (IH X.K):=Bh.or Bf
theorem zP:xz K (IH K) zF:=fun G H x y u v d Q s rx ry hf q=>by
 cases x with
 | dic ks ds=>
  obtain ⟨a,vs,rfl,sq,l,rs,_⟩:=rx
  obtain ⟨k,hk,hf⟩:=zD hf
  obtain ⟨z,hz,rz⟩:=rs.getK hf
  exact .inr ⟨a,_,k,z,rfl,qb hk ry,Rd.mono s sq,by rw [pz k l]; exact hz,q _ _ _ (zL.refl s) rz⟩
 | non=>cases hf
 | bl b=>cases hf
 | int b=>cases hf
 | str z=>exact .inl (VS G H (.str z) y u v d Q s rx ry (by cases y<;>exact hf) q)
 | tup z=>exact .inl (VS G H (.tup z) y u v d Q s rx ry (by cases y<;>exact hf) q)
 | lst z=>exact .inl (VS G H (.lst z) y u v d Q s rx ry (by cases y<;>exact hf) q)
 | exc z=>cases hf
 | obj z _ _=>cases hf
noncomputable def IG (neg:Bool):R2:=fun x y H Q=>∃ a kvs k,y=.ref a/\x=kV k/\Rd H a (.dK kvs)/\Q (.bl (if neg then !(we kvs k).isSome else (we kvs k).isSome)) H
theorem CK (hu:X.A.units+1<cLine):yB X (compareOp .In) (IG false):=by
 intro pins s σ H x y v u Q I rx ry h
 obtain ⟨a,kvs,k,rfl,rfl,e,q⟩:=h
 cases ry
 exact Lm hu I (.inl ⟨kvs,k,e,rfl,rfl⟩) rx fun s' I'=>⟨.bl _,H,I',rfl,q⟩
noncomputable def Vh (K:PySem.W.Frag) (neg:Bool):R2:=fun x y H Q=>IF K neg x y H Q\/(∃ i j,x=.str i/\y=.str j/\Q (.bl (if neg then !(!(Builtin.Str.occurrences j i 0 j.length 1).isEmpty) else !(Builtin.Str.occurrences j i 0 j.length 1).isEmpty)) H)\/IG neg x y H Q
theorem vV (hu:X.A.units+1<cLine):yB X (compareOp .In) (Vh X.K false):=CL.or (CM.or (CK hu))
theorem Z_ {H:Hp} {x:D} {u:V} (hx:yV x=true) (rx:zK K H x u):∀ {ys:List D} {vs:List V},Reps K H ys vs->ys.all yV=true->vs.all vQ=true/\ZY u vs=ys.any fun y=>ya y x
 | [],_,r,_=>by cases (show _=[] from r); exact ⟨rfl,rfl⟩
 | y::ys,_,r,h=>by
  obtain ⟨v,r',rfl,hv,hr⟩:=r
  rw [List.all_cons,Bool.and_eq_true] at h
  obtain ⟨a,b⟩:=Z_ hx rx hr h.2
  refine ⟨by rw [List.all_cons,pj h.1 hv,a]; rfl,?_⟩
  show (wl v u||ZY u r')=(ya y x||_)
  rw [kI h.1 hx hv rx,b]
theorem BW {neg:Bool} {H:Hp} {x y:D} {u v:V} {k:Bool} {Q:VK} (rx:zK K H x u) (ry:zK K H y v) (hf:QP x y=some k) (q:Q (.bl (if neg then !k else k)) H):Vh K neg u v H Q:=by
 cases y with
 | lst ys=>
  obtain ⟨a,vs,rfl,sq,rs,_⟩:=ry
  change (match yV x&&ys.all yV with | true=>some (ys.any fun y=>ya y x) | false=>none)=some k at hf
  cases c:(yV x&&ys.all yV) with
  | false=>rw [c] at hf; cases hf
  | true=>
   rw [c] at hf
   cases hf
   rw [Bool.and_eq_true] at c
   obtain ⟨c1,c2⟩:=Z_ c.1 rx rs c.2
   exact .inl ⟨a,vs,rfl,.inl sq,pj c.1 rx,c1,by rw [c2]; exact q⟩
 | tup ys=>
  obtain ⟨a,vs,rfl,sq,rs,_⟩:=ry
  change (match yV x&&ys.all yV with | true=>some (ys.any fun y=>ya y x) | false=>none)=some k at hf
  cases c:(yV x&&ys.all yV) with
  | false=>rw [c] at hf; cases hf
  | true=>
   rw [c] at hf
   cases hf
   rw [Bool.and_eq_true] at c
   obtain ⟨c1,c2⟩:=Z_ c.1 rx rs c.2
   exact .inl ⟨a,vs,rfl,.inr sq,pj c.1 rx,c1,by rw [c2]; exact q⟩
 | str j=>
  cases x<;>first | (cases hf; done) | skip
  rename_i i
  cases hf
  exact .inr (.inl ⟨i,j,(show u=_/\_ from rx).1,(show v=_/\_ from ry).1,q⟩)
 | dic ks ds=>
  obtain ⟨kk,hk,hf⟩:=zD hf
  cases hf
  obtain ⟨a,vs,rfl,sq,l,rs,_⟩:=ry
  refine .inr (.inr ⟨a,_,kk,rfl,qb hk rx,sq,?_⟩)
  rw [pz kk l,Wy kk l]
  exact q
 | _=>cases hf
theorem vT:qM K (Vh K false) yU:=fun H x y u v d Q rx ry hf=>by
 obtain ⟨k,hk,hf⟩:=zD hf
 cases hf
 exact ⟨_,rfl,fun q=>BW rx ry hk q⟩
theorem Um {pos:Pos}:SF X (.Dict [] [] pos) (eC (.dic [] [])):=⟨⟨_,Ck,fun {G0 H0 G H τ σ d Q} E hf q p hp=>by
 cases hf
 exact q p G _ (zL.layO E.ext.gh hp) hp (E.ext.gh.free hp) ⟨[],yk,rfl,rfl,Nat.zero_le _⟩⟩⟩
theorem Up {i:Nat} {x:Str} {xp pos pos':Pos} {k v:Expr} {fk fv:FE} (hu:X.A.units+1<cLine) (ho:QE X (.Name x xp) (YF i)) (hk:SE X k fk) (hv:SE X v fv) (hs:swapsWith v (some (.Subscript (.Name x xp) k pos')) pos.line X.env=pure false:=by rfl) :
  SS X (.Assign [.Subscript (.Name x xp) k pos'] v pos) (kJ i fk fv):=by
 obtain ⟨tk,pk,kk⟩:=hk.h
 obtain ⟨tv,pv,kv⟩:=hv.h
 refine ⟨⟨_,Jh hu ho.h pk pv hs,fun {G0 H0 G H τ σ fl E} K hf q=>?_⟩⟩
 obtain ⟨y,hy,hf⟩:=zD hf
 refine kv K hy fun w G1 H1 x1 r1=>?_
 split at hf
 ·rename_i ks ds hd
  obtain ⟨xk,hx,hf⟩:=zD hf
  obtain ⟨key,hkey,hf⟩:=zD hf
  by_cases c:ks.length<yP
  ·rw [if_pos c] at hf
   cases hf
   have K1:=K.go x1
   obtain ⟨a,ea,g,z,vs,ev,l,rs,hl⟩:=K1.ow _ _ hd
   refine ⟨_,ea,kk K1 hx fun u G2 H2 x2 r2=>⟨a,_,rfl,.inl ⟨_,key,x2.h _ _ ev,qb hkey r2,?_,rfl⟩,?_⟩⟩
   ·rw [List.length_zip,l,Nat.min_self,sizeLine_eq,<- l]; exact c
   ·refine q _ _ _ ((K1.go x2).mut hd ea ⟨xH ks vs key w,?_,kF l,(rs.mono x2.g).put (r1.mono x2.g),?_⟩)
    ·rw [yk,TF l]
    ·have h1:=Vc (ks:=ks) (vs:=ds) (k:=key) (v:=y) (by rw [l,rs.length])
     have h2:ds.length<16777216:=by rw [<- rs.length,<- l]; exact c
     rw [sizeLine_eq]
     omega
  ·rw [if_neg c] at hf
   cases hf
 ·cases hf
inductive tH (w:World):List DictEntry->List Str->List Value->Prop
 | nil:tH w [] [] []
 | cons {x:Str} {t:Tok} {v:Value} {es:List DictEntry} {xs:List Str} {vs:List Value} (r:tH w es xs vs):tH w (⟨PyData.keyHash w.params x,.str x t,v⟩::es) (x::xs) (v::vs)
theorem tH.pairs {w:World} {P:Program}:∀ {es:List DictEntry} {xs:List Str} {vs:List Value},tH w es xs vs->Pairs (ye P w) es ((xs.map Sum.inr).zip vs)/\(∀ e∈es,∃ k,(ye P w).is k e.key=true/\e.hash=(ye P w).hash k)
 | _,_,_,.nil=>⟨.nil,fun e h=>absurd h (by simp)⟩
 | _,_,_,.cons (x:=x) (t:=t) r=>by
  obtain ⟨a,b⟩:=tH.pairs (P:=P) r
  refine ⟨.cons (VN P w x t) rfl a,fun e h=>?_⟩
  rcases List.mem_cons.mp h with rfl | h
  ·exact ⟨.inr x,VN P w x t,rfl⟩
  ·exact b e h
theorem tH.len {w:World}:∀ {es:List DictEntry} {xs:List Str} {vs:List Value},tH w es xs vs->xs.length=vs.length
 | _,_,_,.nil=>rfl
 | _,_,_,.cons r=>by rw [List.length_cons,List.length_cons,r.len]
theorem J5:∀ {ks:List zM} {us:List V} {vs:List Value},zZ us vs->ks.length=us.length->KV (ks.zip us) (ks.zip vs)
 | [],_,_,.nil,_=>.nil
 | k::ks,_,_,.cons r t,h=>.cons ⟨rfl,r⟩ (J5 t (by simpa using h))
theorem OM:∀ {ks:List zM} {vs:List Value},ks.length=vs.length->(ks.zip vs).map (·.1)=ks
 | [],[],_=>rfl
 | k::ks,v::vs,h=>by rw [List.zip_cons_cons,List.map_cons,OM (by simpa using h)]
end
end L3
namespace L3
open PySem PySem.Spec PyProof.Rows L2
noncomputable def Y3:D->Option (List D)
 | .lst xs=>some xs
 | .tup xs=>some xs
 | _=>none
noncomputable def jX (a b:FE):FA:=fun σ=>(a σ).bind fun x=>(b σ).bind fun y=>(Y3 x).bind fun xs=>(Y3 y).bind fun ys=>some (List.zipWith (fun x y=>D.tup [x,y]) xs ys)
section
variable {K:PySem.W.Frag} {G H:Hp}
theorem Im {x:D} {xs:List D} {u:V} (h:Y3 x=some xs) (r:zK K G x u):∃ t a vs,u=.ref a/\wT K t G a vs/\Reps K G xs vs/\xs.length<=sizeLine:=by
 cases x<;>first | (cases h; done) | skip
 ·cases h
  obtain ⟨a,vs,rfl,sq,rs,l⟩:=r
  exact ⟨true,a,vs,rfl,sq,rs,l⟩
 ·cases h
  obtain ⟨a,vs,rfl,sq,rs,l⟩:=r
  exact ⟨false,a,vs,rfl,sq,rs,l⟩
theorem qk {H':Hp} {t:Bool} {a:Addr} {vs:List V} (s:zf H H') (h:wT K t H a vs):wT K t H' a vs:=by
 cases t
 ·exact wE s h
 ·exact wb s h
theorem Ky {t1 t2:Bool} {a b:Addr} {vs us:List V} {xs ys:List D} (s1:wT K t1 G a vs) (s2:wT K t2 G b us) (r1:Reps K G xs vs) (r2:Reps K G ys us):qR K (XS K t1 t2 a b) G (List.zipWith (fun x y=>D.tup [x,y]) xs ys) where
 go:=fun i G2 H g1 g2 hi=>by
  rw [List.length_zipWith] at hi
  obtain ⟨v,e1,_⟩:=r1.get (List.getElem?_eq_getElem (show i<xs.length by omega))
  obtain ⟨u,e2,_⟩:=r2.get (List.getElem?_eq_getElem (show i<ys.length by omega))
  exact ⟨vs,us,v,u,qk (g1.trans g2) s1,qk (g1.trans g2) s2,e1,e2⟩
 yld:=fun i G2 H x H' g1 g2 hi y=>by
  obtain ⟨p,hp,rfl,k⟩:=y
  obtain ⟨v,u,e1,e2,rfl⟩:=k vs us (qk (g1.trans g2) s1) (qk (g1.trans g2) s2)
  obtain ⟨d1,f1,q1⟩:=r1.at e1
  obtain ⟨d2,f2,q2⟩:=r2.at e2
  refine ⟨zR G2 p (.tup [v,u]),.tup [d1,d2],zL.lay g2 hp,by rw [List.getElem?_zipWith,f1,f2],?_⟩
  have sm:zf G (zR G2 p (.tup [v,u])):=g1.trans (vG (g2.free hp) _)
  exact ⟨p,[v,u],rfl,yM.of yk,⟨v,_,rfl,q1.mono sm,⟨u,_,rfl,q2.mono sm,rfl⟩⟩,zW (n:=2) (by decide)⟩
 stop:=fun i G2 H g1 g2 hi=>by
  rw [List.length_zipWith] at hi
  refine ⟨vs,us,qk (g1.trans g2) s1,qk (g1.trans g2) s2,?_⟩
  rw [r1.length,r2.length]
  omega
end
section
variable {X:Cx} {a b e o:Expr} {fa fb f:FE} {p pos apos cpos:Pos}
theorem Iq {elts:List Expr} {kk:Nat} {tp:Pos} (hg:Gl X "zip") (hm:X.mg "zip" = none) (ha:SE X a fa) (hb:SE X b fb) (hs:yH a=true:=by rfl) (hs2:yH b=true:=by rfl):SI X (.Tuple elts kk tp) (.Call (.Name "zip" p) [a,b] [] pos) (jX fa fb):=by
 obtain ⟨t,pt,k⟩:=(zB ha (zB hb zN hs2) hs).h
 refine ⟨⟨_,(Eg hg hm ⟨pt⟩ hs hs2).h,fun {G0 H0 G H τ σ ds R} K hf q=>?_⟩⟩
 obtain ⟨x,hx,hf⟩:=zD hf
 obtain ⟨y,hy,hf⟩:=zD hf
 obtain ⟨xs,hxs,hf⟩:=zD hf
 obtain ⟨ys,hys,hf⟩:=zD hf
 cases hf
 refine k K (ds:=[x,y]) (by unfold zA; rw [hx,hy]; rfl) fun vs G1 H1 x1 r1=>?_
 obtain ⟨v,r,rfl,hv,⟨v2,r2,rfl,hv2,hr⟩⟩:=r1
 cases (show r2=[] from hr)
 obtain ⟨t1,a1,vs1,rfl,s1,q1,l1⟩:=Im hxs hv
 obtain ⟨t2,a2,vs2,rfl,s2,q2,l2⟩:=Im hys hv2
 refine ⟨a1,a2,vs1,vs2,t1,t2,rfl,qk x1.gh s1,qk x1.gh s2,q _ _ _ x1 ?_ (Ky s1 s2 q1 q2)⟩
 rw [List.length_zipWith]
 omega
noncomputable def vN:List D->Option D
 | [.lst xs]=>some (.lst xs)
 | [.tup xs]=>some (.lst xs)
 | _=>none
noncomputable def ge:List D->Option D
 | [.lst xs]=>some (.tup xs)
 | [.tup xs]=>some (.tup xs)
 | _=>none
theorem ux {K:PySem.W.Frag} {G:Hp} {d:D} {vs:List V} (r:Reps K G [d] vs):∃ v,vs=[v]/\zK K G d v:=by
 obtain ⟨v,r',rfl,hv,hr⟩:=r
 cases (show r'=[] from hr)
 exact ⟨v,rfl,hv⟩
theorem jt {fs:FA} (hg:Gl X "list") (hm:X.mg "list" = none) (ha:SA X [e] fs) (hs:yH e=true:=by rfl):SF X (.Call (.Name "list" p) [e] [] pos) (eL vN fs):=by
 obtain ⟨t,pt,k⟩:=ha.h
 refine ⟨⟨_,(Zv LR hg hm WN ⟨pt⟩ (by decide) (by decide) (by rw [List.all_cons,hs]; rfl)).h,fun {G0 H0 G H τ σ d Q} E hf q=>?_⟩⟩
 obtain ⟨ds,hd,hf⟩:=zD hf
 refine k E hd fun vs G1 H1 x1 r1=>?_
 match ds,hf with
 | [.lst xs],hf=>
  cases hf
  obtain ⟨v,rfl,a,us,rfl,sq,rs,l⟩:=ux r1
  exact ⟨a,us,rfl,.inl (wE x1.gh sq),fun p hp=>q p _ _ (x1.trans (zL.layO x1.gh hp)) (x1.h.free hp) (x1.gh.free hp) ⟨us,yk,rs,l⟩⟩
 | [.tup xs],hf=>
  cases hf
  obtain ⟨v,rfl,a,us,rfl,sq,rs,l⟩:=ux r1
  exact ⟨a,us,rfl,.inr (wb x1.gh sq),fun p hp=>q p _ _ (x1.trans (zL.layO x1.gh hp)) (x1.h.free hp) (x1.gh.free hp) ⟨us,yk,rs,l⟩⟩
theorem JS {K:PySem.W.Frag}:TN K (fun xs H Q=>∃ p ys,xs=[.ref p]/\((yC K H p ys/\∀ l,H l=none->Q (.ref l) (zR H l (.tup ys)))\/(yM K H p ys/\Q (.ref p) H))) ge:=fun G H ds vs d Q s r hf q=>by
 match ds,hf with
 | [.lst xs],hf=>
  cases hf
  obtain ⟨v,rfl,a,us,rfl,sq,rs,l⟩:=ux r
  exact ⟨a,us,rfl,.inl ⟨wE s sq,fun p hp=>q _ _ _ (zL.lay s hp) ⟨p,us,rfl,yM.of yk,rs.mono (vG (s.free hp) _),l⟩⟩⟩
 | [.tup xs],hf=>
  cases hf
  obtain ⟨v,rfl,a,us,rfl,sq,rs,l⟩:=ux r
  exact ⟨a,us,rfl,.inr ⟨wb s sq,q _ _ _ (zL.refl s) ⟨a,us,rfl,sq,rs,l⟩⟩⟩
noncomputable def gm (x:D):List D->Nat->Option Nat
 | [],_=>none
 | y::ys,n=>match ya y x with
  | true=>some n
  | false=>gm x ys (n+1)
noncomputable def MF:D->D->Option D
 | .lst ys,x=>match yV x&&ys.all yV with
  | true=>(gm x ys 0).bind fun n=>some (.int n)
  | false=>none
 | _,_=>none
theorem Q_ {x:D}:∀ {ys:List D} {n m:Nat},gm x ys n=some m->∃ j y,m=n+j/\ys[j]?=some y/\ya y x=true/\∀ i z,i<j->ys[i]?=some z->ya z x=false
 | [],_,_,h=>by cases h
 | y::ys,n,m,h=>by
  change (match ya y x with | true=>some n | false=>gm x ys (n+1))=some m at h
  cases c:ya y x with
  | true=>
   rw [c] at h
   cases h
   exact ⟨0,y,rfl,rfl,c,fun i z hi=>absurd hi (Nat.not_lt_zero _)⟩
  | false=>
   rw [c] at h
   obtain ⟨j,y',e1,e2,e3,e4⟩:=Q_ h
   refine ⟨j+1,y',by omega,by simpa using e2,e3,fun i z hi ez=>?_⟩
   cases i with
   | zero=>cases ez; exact c
   | succ i=>exact e4 i z (by omega) (by simpa using ez)
theorem HZ {i:Nat} {x:Str} {op:Operator} {ti:jI} {F:D->D->Option D} {pos':Pos} (ho:Z2 X op ti) (hF:xz X.K ti F) (hN:X.N.Nodup) (hi:X.N[i]?=some x) (hx:vZ X.env.scope x) (he:SE X e f) (hf:X.fn x=true\/X.env.scope.names.lookup x=some .local:=by first | exact .inl rfl | exact .inr rfl | assumption) :
  SS X (.AugAssign (.Name x pos') op e pos) (yW i (e2 F (z6 i) f)):=by
 obtain ⟨t,pt,k⟩:=he.h
 refine ⟨⟨_,Jg hN hi hx pt ho hf,fun {G0 H0 G H τ σ fl E} K hf q=>?_⟩⟩
 obtain ⟨d,hd,hf⟩:=zD hf
 cases hf
 obtain ⟨x,hx,hd⟩:=zD hd
 obtain ⟨y,hy,hd⟩:=zD hd
 obtain ⟨v,ev,rv⟩:=K.fr _ _ (Wg hx)
 refine ⟨v,ev,k K hy fun u G1 H1 x1 r1=>hF G1 H1 x y v u d _ x1.gh (rv.mono x1.g) r1 hd fun w G2 H2 x2 r2=>?_⟩
 exact q _ _ _ (((K.go x1).go x2).set (List.getElem?_eq_some_iff.mp hi).1 r2)
theorem JO {K:PySem.W.Frag}:xz K (Qu fun i j=>i+j) (xI fun i j=>i+j):=fun G H x y u v d Q s rx ry hf q=>by
 cases x<;>first | (cases hf; done) | skip
 cases y<;>first | (cases hf; done) | skip
 cases hf
 exact ⟨_,_,rx,ry,q _ _ _ (zL.refl s) rfl⟩
variable {x:Str} {ps:List Str} {j k:Nat} {FF:List D->Option (Bool×D)}
theorem HB (h:zi X.prog X.w X.K X.mg X.base x ps k (zm X.K FF)) (hr:zt j X.A) (hg:Gl X x) (hk:k<=j:=by decide) (hdb:(x == ("__debug__" : Str))=false:=by decide):SE X (.Call (.Name x p) [] [] pos) (zl FF zG):=by
 obtain ⟨f,fd,hm,kp,b,F⟩:=h
 refine ⟨⟨_,Cd F (hr.mono hk) hg hm kp b .nil uu hdb,fun {G0 H0 G H τ σ d Q} E hf q=>?_⟩⟩
 obtain ⟨ds,hd,hf⟩:=zD hf
 cases hd
 obtain ⟨⟨o,d⟩,hr,hf⟩:=zD hf
 cases hf
 refine ⟨G,[],o,d,E.ext.gh,rfl,hr,?_⟩
 cases o with
 | false=>exact fun v G' H' x2 r=>q v G' H' x2 r
 | true=>
  intro p G' H' x2 hp gp o
  obtain ⟨u,hu,r⟩:=o.frz gp
  exact q _ _ _ (x2.frz hp gp hu) r
end
noncomputable def FR (n N:Nat) (b:FS) (ds:List D):Option (Bool×D):=if ds.length=n then yQ N b ds else none
theorem yK {n N:Nat} {b:FS}:∀ ds r,FR n N b ds=some r->ds.length=n/\yQ N b ds=some r:=fun ds r h=>by
 unfold FR at h
 split at h
 ·rename_i c
  exact ⟨c,h⟩
 ·cases h
end L3
namespace L3
open PySem PySem.Spec PyProof.Rows L2
theorem O3 {M:Model} {A:Around} {E:Value->Shared->Prop} {items:Array Value} {x:Value} {e:Value->Bool} {j:Nat} (hM:∃ prog w,M=model prog w) (hj:j<items.size) (hit:e items[j]=true) (no:∀ m (hm:m<items.size),m<j->e items[m]=false) {s:Shared}
  (he:∀ y∈items,SeqAt.EqAt A s y x (e y)) {Q:Option PySem.Fin×Unit->Shared->Prop} (h:Q (some (.done (.ret (.int j s.toks))),()) { s with toks:=s.toks+1 }):∀ m i:Nat,i+m=items.size->i<=j->
  wpAny M A (forIn (List.range' i m) ((none,()):Option PySem.Fin×Unit) fun (i:Nat) (_:Option PySem.Fin×Unit)=>match items[i]? with
   | some y=>do
    let __do_lift <- eqBool y x
    if __do_lift=true then do
      let __do_lift <- retInt (i:Int)
      pure (ForInStep.done (some __do_lift,()))
     else pure (ForInStep.yield (none,()))
   | _=>pure (ForInStep.yield (none,()))) Q E s
 | 0,i,h1,h2=>by omega
 | m+1,i,h1,h2=>by
  obtain ⟨prog,w,rfl⟩:=hM
  have hi:i<items.size:=by omega
  rw [List.range'_succ,List.forIn_cons]
  refine wpAny_bind ?_
  rw [Array.getElem?_eq_getElem hi]
  refine wpAny_bind (he _ (Array.getElem_mem hi) prog w E _ ?_)
  by_cases c:i=j
  ·subst c
   rw [hit,if_pos rfl]
   wp_walk
   exact h
  ·rw [no i hi (by omega),if_neg (by decide)]
   refine wpAny_pure ?_
   exact O3 ⟨prog,w,rfl⟩ hj hit no he h m (i+1) (by omega) (by omega)
theorem KN (t:Addr) (items:Array Value) (x:Value) (e:Value->Bool) (j:Nat) (hj:j<items.size) (hit:e items[j]=true) (no:∀ m (hm:m<items.size),m<j->e items[m]=false) :
  Meets (Builtin.«tuple.index» ⟨[.ref t,x],[]⟩) (fun A R s=>IsTup s.heap t items/\(∀ y∈items,SeqAt.EqAt A.in1 s y x (e y))/\R (.ok (.ret (.int j s.toks))) { s with toks:=s.toks+1 }):=by
 intro prog w A R s h
 obtain ⟨hp,g,d,tk,os⟩:=s
 obtain ⟨⟨o,ho,hc,n,hd⟩,he,h⟩:=h
 unfold Builtin.«tuple.index»
 wp_walk
 skip
 rw [hd]
 refine wpAny_pure (wpAny_pure ?_)
 show wpAny _ _ (pure 0 >>= _) _ _ _
 refine wpAny_bind (wpAny_pure (wpAny_bind (wpAny_pure (wpAny_bind ?_))))
 rw [Std.Legacy.Range.forIn_eq_forIn_range']
 have hs:Std.Legacy.Range.size [0:min items.size items.size]=items.size:=by simp [Std.Legacy.Range.size]
 rw [hs]
 refine O3 ⟨prog,w,rfl⟩ hj hit no he ?_ items.size 0 (by omega) (by omega)
 exact wpAny_pure h
section
variable {X:Cx} {e o k v:Expr} {f fo fk fv:FE} {x:Str} {xp p pos apos cpos:Pos}
theorem Df:XU X "tuple.index" (fun x vs H Q=>∃ (a:Addr) (us:List V) (y:V) (j:Nat) (u:V),x=.ref a/\vs=[y]/\yM X.K H a us/\vQ y=true/\us.all vQ=true/\us[j]?=some u/\wl u y=true/\(∀ i z,i<j->us[i]?=some z->wl z y=false)/\Q (.int (j:Int)) H):=by
 intro pins s σ H x xs v us' Q I rx rs h
 obtain ⟨a,us,y,j,u,rfl,rfl,sq,fy,fu,eu,hit,no,q⟩:=h
 cases rx
 obtain ⟨w,rfl,ry⟩:=vy rs
 obtain ⟨its,r,pt,hz⟩:=I.tuple sq
 have hl:=r.length
 have hj:j<us.length:=(List.getElem?_eq_some_iff.mp eu).1
 have key:∀ (i:Nat) (z:V) (hi:i<its.toArray.size),us[i]?=some z->uE y its.toArray[i]=wl z y:=fun i z hi ez=>by
  obtain ⟨t,et,rt⟩:=r.get ez
  have e:its.toArray[i]=t:=by
   have h2:its[i]?=some its[i]:=List.getElem?_eq_getElem (by rw [List.size_toArray] at hi; exact hi)
   rw [h2] at et
   simpa using et
  rw [e]
  exact Wh rt (List.all_eq_true.mp fu z (List.mem_of_getElem? ez))
 have hjs:j<its.toArray.size:=by rw [List.size_toArray,<- hl]; exact hj
 refine call_meets PySem.F.slot_tuple_index pt.typeIs PySem.F.entry_tuple_index (PySem.F.args_tuple_index_2 _ _) (KN a its.toArray w (uE y) j hjs (by rw [key j u hjs eu]; exact hit) fun m hm hlt=>?_) ⟨pt,fun t ht=>?_,⟨.int j,H,I.tok _,⟨_,rfl⟩,q⟩⟩
 ·have hm':m<us.length:=by rw [List.size_toArray,<- hl] at hm; exact hm
  rw [key m us[m] hm (List.getElem?_eq_getElem hm')]
  exact no m _ hlt (List.getElem?_eq_getElem hm')
 ·exact Zl ry fy r fu t (by simpa using ht)
noncomputable def u5 (K:PySem.W.Frag) (A:Addr):Prop:=∃ o,K.lookup A=some o/\o.cls=.type "tuple" /\ o.dict=none
noncomputable def QQ (ds:List D) (y:D):Option D:=MF (.lst ds) y
theorem HD {A:Addr} {ds:List D} (h:yL X.mg x (.ref A)) (r:∀ H,zK X.K H (.tup ds) (.ref A)) (kt:u5 X.K A) (hg:Gl X x) (he:SE X e f) (hd:(x == ("__debug__" : Str))=false:=by decide)
  (hbase:attributeBase (.Name x xp) "index" X.env (eval (.Name x xp) X.env)=eval (.Name x xp) X.env:=by rfl) (hline:(apos.endLine == cpos.line)=true:=by rfl) (hs:yH e=true:=by rfl) :
  SE X (.Call (.Attribute (.Name x xp) "index" apos) [e] [] cpos) (e1 (QQ ds) f):=by
 obtain ⟨te,pe,ke⟩:=(zB he zN hs).h
 refine ⟨⟨_,(IA PySem.F.plainAttrs_tuple PySem.F.slot_tuple_index PySem.F.type_tuple_index Df (Ee h hg hd) ⟨pe⟩ hbase hline (by rw [List.all_cons,hs]; rfl) (by show 1<30; decide)).h,fun {G0 H0 G H τ σ d Q} E hf q=>?_⟩⟩
 obtain ⟨y,hy,hf⟩:=zD hf
 refine ⟨.inr (.inl ⟨rfl,kt⟩),ke E (ds:=[y]) (by unfold zA; rw [hy]; rfl) fun ws G2 H2 x2 r2=>?_⟩
 obtain ⟨w,rfl,rw_⟩:=ux r2
 obtain ⟨a,us,ea,sq,rs,_⟩:=r G2
 cases ea
 change (match yV y&&ds.all yV with | true=>(gm y ds 0).bind fun n=>some (D.int n) | false=>none)=some d at hf
 cases c:(yV y&&ds.all yV) with
 | false=>rw [c] at hf; cases hf
 | true=>
  rw [c] at hf
  obtain ⟨n,hn,hf⟩:=zD hf
  cases hf
  rw [Bool.and_eq_true] at c
  obtain ⟨j,z,e1,e2,e3,e4⟩:=Q_ hn
  rw [Nat.zero_add] at e1
  subst e1
  obtain ⟨u,eu,ru⟩:=rs.get e2
  have fl:∀ {i:Nat} {z:D},ds[i]?=some z->yV z=true:=fun {i z} ez=>List.all_eq_true.mp c.2 z (List.mem_of_getElem? ez)
  refine ⟨A,us,w,n,u,rfl,rfl,wb x2.gh sq,pj c.1 rw_,(Z_ c.1 rw_ rs c.2).1,eu,by rw [kI (fl e2) c.1 ru rw_]; exact e3,fun i z hi ez=>?_,q _ _ _ x2 rfl⟩
  obtain ⟨dz,ed,rd⟩:=rs.at ez
  rw [kI (fl ed) c.1 rd rw_]
  exact e4 i dz hi ed
theorem HC (hu:X.A.units+1<cLine) (ho:SE X o fo) (hk:SE X k fk) (hv:SE X v fv) (m:M2 X o "get" apos k v cpos):SE X (.Call (.Attribute o "get" apos) [k,v] [] cpos) (We fo fk fv):=by
 obtain ⟨to,po,ko⟩:=ho.h
 obtain ⟨tk,pk,kk⟩:=hk.h
 obtain ⟨tv,pv,kv⟩:=hv.h
 refine ⟨⟨_,Cj hu po pk pv m,fun {G0 H0 G H τ σ d Q} E hf q=>?_⟩⟩
 obtain ⟨x,hx,hf⟩:=zD hf
 refine ko E hx fun w G1 H1 x1 r1=>?_
 cases x with
 | dic ks ds=>
  obtain ⟨y,hy,hf⟩:=zD hf
  obtain ⟨z,hz,hf⟩:=zD hf
  obtain ⟨key,hkey,hf⟩:=zD hf
  cases hf
  obtain ⟨a,vs,rfl,sq,l,rs,_⟩:=r1
  refine ⟨a,rfl,.inl ⟨_,Rd.mono x1.gh sq⟩,kk (E.go x1) hy fun u G2 H2 x2 r2=>kv ((E.go x1).go x2) hz fun w' G3 H3 x3 r3=>?_⟩
  refine ⟨we (ks.zip vs) key,.inl ⟨_,key,Rd.mono (x1.gh.trans (x2.h.trans x3.h)) sq,qb hkey r2,rfl⟩,?_⟩
  rw [pz key l]
  have rs3:=rs.mono (x2.g.trans x3.g)
  cases c:getK ks ds key with
  | none=>
   rw [c] at q
   rw [Qe (by rw [rs.length]) c]
   exact q _ _ _ (x1.trans (x2.trans x3)) r3
  | some d'=>
   rw [c] at q
   obtain ⟨z',hz',rz'⟩:=rs3.getK c
   rw [hz']
   exact q _ _ _ (x1.trans (x2.trans x3)) rz'
 | _=>cases hf
noncomputable def xN (i:Int):Nat:=Builtin.Int.intBits i
noncomputable def Wo:D->D->Option D:=fI (fun i j=>decide (xN i+xN j<=134217728)) (·*·)
theorem CO:yB X (binaryOp .Mult) (rI (fun i j=>xN i+xN j<=134217728) fun i j=>.int (i*j)):=ji fun i j _ _ _ _ _ hc q=>mul_int q (by
 unfold IntMulOk
 intro h
 rw [Bool.and_eq_true] at h
 have h2:decide (((Builtin.Int.intBits i+Builtin.Int.intBits j:Nat):Int) > (134217728:Nat))=true:=h.2
 have h3:=of_decide_eq_true h2
 have h4:Builtin.Int.intBits i+Builtin.Int.intBits j<=134217728:=hc
 omega)
theorem Fw {K:PySem.W.Frag}:xz K (rI (fun i j=>xN i+xN j<=134217728) fun i j=>.int (i*j)) Wo:=pZ fun _ _ h=>of_decide_eq_true h
end
end L3
namespace L3
open PySem PySem.Spec PyProof.Rows L2 PySem.W
theorem OG:∀ {ns:List Int} {m:Int},m∈ns->xN m<=WData.weightAll (ns.map WData.int)
 | [],_,h=>by cases h
 | n::ns,m,h=>by
  have e:WData.weightAll ((n::ns).map WData.int)=xN n+1+WData.weightAll (ns.map WData.int):=by
   show WData.weightAll (WData.int n::ns.map WData.int)=_
   rw [WData.weightAll]
   rfl
  rw [e]
  rcases List.mem_cons.mp h with rfl | h
  ·omega
  ·have:=OG h
   omega
theorem D8 {ns:List Int} (h:WData.layableAll [.list (ns.map WData.int)]=true):∀ m∈ns,xN m<=1048576:=fun m hm=>by
 have h1:WData.layable (.list (ns.map WData.int))=true:=List.all_eq_true.mp h _ (List.mem_singleton.mpr rfl)
 unfold WData.layable at h1
 rw [Bool.and_eq_true] at h1
 have h2:WData.weight (.list (ns.map WData.int))<=2 ^ 20:=of_decide_eq_true h1.2
 have h3:=OG hm
 have h4:WData.weight (.list (ns.map WData.int))=WData.weightAll (ns.map WData.int):=by rw [WData.weight]
 omega
section
variable {P:Program} {w:World} {K:PySem.W.Frag} {mg:Str->Option Value} {base:Heap}
noncomputable def kW (K:PySem.W.Frag):Sp:=fun vs H Q _=>∃ (a:Addr) (ns:List Int),vs=[.ref a]/\yC K H a (ns.map V.int)/\ns.length<=63/\(∀ m∈ns,xN m<=1048576)/\∀ H',Q (.bl true) H'
end
theorem walkB {l:PySem.W.OpenLaw} {n k:Nat} {q:Program} {loose:List Str} {XP:(Str->Option Value)->Heap->Prop} {YP:World->Heap->Prop} {d:DefRec} {K:Params->PySem.W.Frag} {sp:PySem.W.Frag->Sp} {x:Str}
  (hn:l.most=some n) (hn2:n<=sizeLine) (hdf:d.params.defaults=[]) (hr:zt k callerA) (hY:∀ (w:World) (h:Heap),YP w h->(K w.params).In h)
  (F:∀ (w:World) (mg:Str->Option Value) (fa:Addr) (h:Heap),(K w.params).In h->h.Ns mainGlobals mg->mg d.name=some (.ref fa)->
   ∃ fd:FuncData,(∀ (s:Shared) (u:Value),BindsTo s fd ⟨[u],[]⟩ [(x,u)])/\∀ base:Heap,(K w.params).In base->base.Ns mainGlobals mg->yO l.prog w (K w.params) mg base yJ k fa fd [x] (sp (K w.params)))
  (hsp:∀ (K:PySem.W.Frag) (H:Hp) (a:Addr) (ns:List Int),ns.length<=n->(∀ m∈ns,xN m<=1048576)->yC K H a (ns.map V.int)->sp K [.ref a] H (fun v _=>v=.bl true) fun _ _ _=>False) :
  PySem.W.WalkO q loose XP YP l.row.toRowW d [] (fun f vs=>PySem.call f vs):=by
 intro w s0 s1 mg mb Gr Y fa o pm cd doc dV kV ho hd hcd hD hmg hg args vals as hpre hlay hrd hwl hlo
 have e1:dV=.none:=Dflts.none hD hdf
 have e2:kV=.none:=Dflts.noKw hD
 subst e1 e2
 obtain ⟨a,vs,ns,rfl,rfl,hobj,hints,hlen⟩:=Att.script_of hn hpre hwl
 have KX:=hY w _ Y
 obtain ⟨fd,hb,hF⟩:=F w mg fa _ KX Gr.T.g hmg
 have main:=D6 KX Gr.T.g Gr.T.b Gr.T.builtins Gr.T.nolimit hg hobj hints (Nat.le_trans hlen hn2) hr hF hb (fun H _ hS=>hsp _ H a ns hlen (D8 hlay) hS) (fun _ _ _ z=>z)
 refine enter_call (codeAny_mono main fun r s' hq=>?_)
 obtain ⟨rfl,h2,h3,h4⟩:=hq
 refine ⟨.inl ⟨.bool true,.bool true,[],rfl,fun _=>rfl,.bool true,Att.post_true l _,fun _=>?_⟩,h2,h3,h4⟩
 exact ⟨List.Pairwise.nil,fun _ hm=>nomatch hm⟩
end L3
namespace L3
open PySem PySem.Spec PyProof.Rows L2
theorem ML {prog:Program} {w:World} {A:Around} {E:Value->Shared->Prop} {s:Shared} {a:Addr} {o:Obj} {xs:Array Value} {k:Nat} {name:Str} {Q:Option Value->Shared->Prop}
  (hx:s.heap.get? a=some o) (hc:o.cls=.type "list") (hdat:o.data=.seq xs k) (hd:o.dict=none) (hmiss:typeLookup (.type "list") name=pure none)
  (hname:(["__module__", "__name__", "__qualname__", "__doc__", "__annotations__"]:List Str).contains name=false) (hA:A.handled=none)
  (h:∀ h' tk,(∀ b ob,s.heap.get? b=some ob->h'.get? b=some ob)->Q none { s with heap:=h',toks:=tk }) (hsz:name.length+100<=sizeLine) :
  wpAny (model prog w) A (getAttr? (.ref a) name) Q E s:=by
 obtain ⟨c,dct,dat,sl⟩:=o
 simp only at hc hdat hd
 subst hc hdat hd
 obtain ⟨hp,g,d,tk,os⟩:=s
 have hT:∀ tk',(⟨hp,g,d,tk',os⟩:Shared).TypeIs (.ref a) "list" := fun _=>⟨_,hx,rfl⟩
 have f1:=sub_AttributeError
 have f3:=F.slot_list_getattribute.lookup
 have f4:=F.slot_list_getattribute.bind (.ref a)
 have f5:=am_list_getattr_none
 unfold getAttr? getAttrBy? getAttrBy
 repeat (any_goals (first | assumption | exact hT _ | ((with_reducible show wpAny _ _ (call (Value.builtin "list.__getattribute__") _ _) _ _ _); refine call_meets F.slot_list_getattribute (hT _) am_entry_list_getattribute (F.args_list_getattribute_2 _ _) (meets_getattribute_miss_list a xs k sl name _ hmiss hname hsz) ⟨hx,hA,fun h' tk' e hx'=>?_⟩) | wp_step))
 obtain ⟨t',u',he⟩:=hx'.there
 show wpAny _ _ (getattributeRaised _ _ _ _ _ _ _) _ _ _
 unfold getattributeRaised
 repeat (any_goals (first | assumption | wp_step))
 exact h _ _ hx'.keeps
theorem Zs:plainId "dict.update.loop" = true:=by decide +kernel
theorem QJ:entryFor table "dict.update.loop" = some Builtin.«dict.update.loop»:=entryFor_of_fast (by kernel_rfl)
theorem _root_.PySem.Heap.DictOf.keepB {prog:Program} {w:World} {h h':Heap} {a:Addr} {kvs:List (zM×Value)} (hm:h.DictOf (ye prog w) a kvs) (k:∀ o,h.get? a=some o->h'.get? a=some o):h'.DictOf (ye prog w) a kvs:=
 let ⟨o',es,ep,ho,r⟩:=hm; ⟨o',es,ep,k _ ho,r⟩
theorem Hg (kvs:List (zM×Value)) (k:zM) (v:Value):(stored kvs k v).length<=kvs.length+1:=by
 unfold stored
 split
 ·rw [List.length_map]; omega
 ·rw [List.length_append]; exact Nat.le_refl _
noncomputable def XY (h:Heap) (v:Value) (k:zM) (x:Value):Prop:=∃ b key,v=.ref b/\pU k key=true/\IsTup h b #[key,x]
theorem O7 {prog:Program} {w:World} {A:Around} {R:Result->Shared->Prop} {d it l:Addr} {its:List Value} (hA:A.handled=none) (hdl:d≠l) (hdi:d≠it) (hli:l≠it) :
  ∀ (kvs:List (zM×Value)) (i:Nat) (acc:List (zM×Value)) (s:Shared),s.heap.IsListIter it l i->s.heap.IsList l its.toArray->i+kvs.length=its.length->(∀ j kv,kvs[j]?=some kv->∃ v,its[i+j]?=some v/\XY s.heap v kv.1 kv.2)->
   s.heap.DictOf (ye prog w) d acc->acc.length+kvs.length<=sizeLine->(∀ h' tk,h'.DictOf (ye prog w) d (kvs.foldl (fun a kv=>stored a kv.1 kv.2) acc)->(∀ b o,b≠d->b≠it->s.heap.get? b=some o->h'.get? b=some o)->R (.ok (.ret .none)) { s with heap:=h',toks:=tk })->
   wpAny (model prog w) A.in1 (Builtin.«dict.update.loop» ⟨[.ref d,.ref it,rawInt i,.none],[]⟩) (fun fin s'=>match fin with | .done f=>R (.ok f) s' | .again c'=>c'.quiet=true/\codeAny (model prog w) A c' R s') (fun e s'=>R (.error e) s') s
 | [],i,acc,s,st,hl,hn,hp,hd,hz,h=>by
  unfold Builtin.«dict.update.loop»
  refine wpAny_bind (wpAny_pyNext_list_end (by exact hA) st hl (by simp at hn ⊢; omega) fun h' eb=>?_)
  show wpAny _ _ (Builtin.Dict.addKeywords d [] >>= _) _ _ _
  refine wpAny_bind (wpAny_pure (wpAny_pure ?_))
  exact h h' s.toks (hd.keepB fun o e=>eb d o hdi e) (fun b o _ hb e=>eb b o hb e)
 | kv::kvs,i,acc,s,st,hl,hn,hp,hd,hz,h=>by
  obtain ⟨v,hv,b,key,rfl,hk,ht⟩:=hp 0 kv rfl
  unfold Builtin.«dict.update.loop»
  refine wpAny_bind (wpAny_pyNext_list_item st hl (x:=.ref b) (by simpa using hv) fun h1 st1 sb=>?_)
  have keep1:∀ c o,c≠it->s.heap.get? c=some o->h1.get? c=some o:=fun c o hc e=>(sb.2 c hc).trans e
  have notIt:∀ {c:Addr} {xs:Array Value},IsTup s.heap c xs->c≠it:=fun {c xs} t e=>by
   subst e
   obtain ⟨o,e1,c1,_⟩:=t
   obtain ⟨o',e2,c2,_⟩:=st
   rw [e1] at e2
   cases e2
   rw [c1] at c2
   exact absurd (Value.type.inj c2) (by decide)
  have notD:∀ {c:Addr} {xs:Array Value},IsTup s.heap c xs->c≠d:=fun {c xs} t e=>by
   subst e
   obtain ⟨o,e1,c1,_⟩:=t
   obtain ⟨o',es,ep,e2,c2,_⟩:=hd
   rw [e1] at e2
   cases e2
   have c3:=c2.1
   rw [c1] at c3
   exact absurd (Value.type.inj c3) (by decide)
  obtain ⟨o,ho,hc,n,hdat⟩:=ht
  have ho1:=keep1 b o (notIt ⟨o,ho,hc,n,hdat⟩) ho
  have hd1:h1.DictOf (ye prog w) d acc:=hd.keepB fun o e=>keep1 d o hdi e
  refine wpAny_bind (wpAny_holding (wpAny_bind (wpAny_tryCatch ?_)))
  unfold Builtin.Dict.pairItems
  refine wpAny_bind (wpAny_typeOf (T := "tuple") ⟨o,ho1,hc⟩ ?_)
  rw [if_pos (by rfl)]
  refine wpAny_bind (wpAny_seqItems ho1 hdat (wpAny_pure ?_))
  refine wpAny_holding (wpAny_dictSet_pairs (knd:=ye prog w) (k:=kv.1) hk hd1 (fun h2 hd2 sb2=>?_) (by omega))
  refine wpAny_pure ⟨plainId_quiet Zs _,codeAny_builtin QJ ?_⟩
  rw [Around.under_plainId Zs _]
  have keep2:∀ c o,c≠d->c≠it->s.heap.get? c=some o->h2.get? c=some o:=fun c o h1' h2' e=>(sb2.2 c h1').trans (keep1 c o h2' e)
  have key2:∀ {c:Addr} {xs:Array Value},IsTup s.heap c xs->IsTup h2 c xs:=fun {c xs} t=>by
   have a1:=notD t
   have a2:=notIt t
   obtain ⟨o,e1,r⟩:=t
   exact ⟨o,keep2 c o a1 a2 e1,r⟩
  refine O7 (its:=its) hA hdl hdi hli kvs (i+1) (stored acc kv.1 kv.2) _ ?_ ?_ (by rw [List.length_cons] at hn; omega) (fun j kv' e=>?_) hd2 ?_ fun h' tk hd' kp=>?_
  ·exact st1.at fun o e=>(sb2.2 it (fun z=>hdi z.symm)).trans e
  ·obtain ⟨o,e,r⟩:=hl
   exact ⟨o,keep2 l o (fun z=>hdl z.symm) hli e,r⟩
  ·obtain ⟨v',hv',b',key',rfl,hk',ht'⟩:=hp (j+1) kv' (by simpa using e)
   exact ⟨_,by rw [show i+1+j=i+(j+1) by omega]; exact hv',b',key',rfl,hk',key2 ht'⟩
  ·have:=Hg acc kv.1 kv.2
   rw [List.length_cons] at hz
   omega
  ·exact h h' tk hd' fun c o h1' h2' e=>kp c o h1' h2' (keep2 c o h1' h2' e)
theorem LM {prog:Program} {w:World} {A:Around} {E:Value->Shared->Prop} {s:Shared} {l:Addr} {o:Obj} {its:List Value} {n:Nat} {kvs:List (zM×Value)} {Q:Value->Shared->Prop} (hA:A.handled=none) (ho:s.heap.get? l=some o) (hc:o.cls=.type "list") (hdd:o.dict=none) (hdat:o.data=.seq its.toArray n)
  (hn:kvs.length=its.length) (hp:∀ (j:Nat) (kv:zM×Value),kvs[j]?=some kv->∃ v,its[j]?=some v/\XY s.heap v kv.1 kv.2) (hz:kvs.length<=sizeLine)
  (h:∀ h' tk,h'.DictOf (ye prog w) s.heap.objs.size (kvs.foldl (fun a kv=>stored a kv.1 kv.2) [])->(∀ b o,s.heap.get? b=some o->h'.get? b=some o)->Q (.ref s.heap.objs.size) { s with heap:=h',toks:=tk }) :
  wpAny (model prog w) A (call (.type "dict") [.ref l]) Q E s:=by
 refine callType_codes (Q₁:=fun obj s₁=>obj=.ref s.heap.objs.size/\s₁={ s with heap:=s.heap.push { cls:=.type "dict",data:=.dict #[] } }) F.kt_called_dict (F.kt_typeCall_dict_1 _) F.entry_dict_init (kt_code_dict_new _ ⟨rfl,rfl⟩) ?_
 rintro obj s₁ ⟨rfl,rfl⟩
 have hnew:(s.heap.push { cls:=.type "dict",data:=.dict #[] }).DictOf (ye prog w) s.heap.objs.size []:=Heap.DictOf.new s.heap
 refine ⟨hnew.typeIs,F.args_dict_init_2 _ _,?_⟩
 unfold Builtin.«dict.__init__»
 refine wpAny_bind ?_
 unfold Builtin.Dict.selfAndRest
 refine wpAny_bind (wpAny_notOrdered_dict hnew.typeIs ?_)
 show wpAny _ _ (pure (s.heap.objs.size,[Value.ref l])) _ _ _
 refine wpAny_pure ?_
 show wpAny _ _ (Builtin.Dict.updateFrom "dict.__init__" s.heap.objs.size (.ref l) [] .none) _ _ _
 unfold Builtin.Dict.updateFrom
 have hlt:=Heap.lt_size ho
 have ho1:(s.heap.push { cls:=.type "dict",data:=.dict #[] }).get? l=some o:=Heap.get?_push_of_some _ ho
 refine wpAny_bind (wpAny_typeOf (T := "list") ⟨o,ho1,hc⟩ ?_)
 rw [if_pos (by rfl)]
 refine wpAny_bind (ML (o:=o) ho1 hc hdat hdd (am_miss_of_fast (by kernel_rfl)) (by decide) (by exact hA) (fun h1 tk1 kp1=>?_) (by decide))
 rw [if_pos (by rfl)]
 have hd1:h1.DictOf (ye prog w) s.heap.objs.size []:=hnew.keepB fun o e=>kp1 _ _ e
 have ho2:h1.get? l=some o:=kp1 _ _ ho1
 have hl1:h1.IsList l its.toArray:=⟨o,ho2,hc,n,hdat⟩
 have hd1lt:s.heap.objs.size<h1.objs.size:=by
  obtain ⟨o',_,_,e,_⟩:=hd1
  exact Heap.lt_size e
 show wpAny _ _ (pure () >>= _) _ _ _
 refine wpAny_bind (wpAny_pure (wpAny_bind ?_))
 refine wpAny_pyIter_list (s:={ s with heap:=h1,toks:=tk1 }) hl1 ?_
 refine wpAny_pure ⟨plainId_quiet Zs _,codeAny_builtin QJ ?_⟩
 rw [Around.under_plainId Zs _]
 have k0:∀ b ob,s.heap.get? b=some ob->(h1.push { cls:=.type "list_iterator",data:=.fields #[.ref l,.int 0 0] }).get? b=some ob:=fun b ob e=>Heap.get?_push_of_some _ (kp1 b ob (Heap.get?_push_of_some _ e))
 refine O7 (l:=l) (its:=its) (A:=A.in1) (by exact hA) (yt (Nat.ne_of_gt hlt)) (yt (Nat.ne_of_lt hd1lt)) (yt (Nat.ne_of_lt (Nat.lt_trans hlt hd1lt))) kvs 0 [] _ ⟨_,Heap.get?_push_size _ rfl,rfl,rfl⟩ ⟨o,k0 l o ho,hc,n,hdat⟩ (by rw [Nat.zero_add]; exact hn) (fun j kv e=>?_) (hd1.push _) (by simpa using hz) fun h' tk hd' kp=>?_
 ·obtain ⟨v,hv,b,key,rfl,hk,o',e1,r⟩:=hp j kv e
  exact ⟨_,by rw [Nat.zero_add]; exact hv,b,key,rfl,hk,o',k0 b o' e1,r⟩
 ·refine ⟨rfl,h h' tk hd' fun b ob e=>?_⟩
  have hb:=Heap.lt_size e
  exact kp b ob (yt (Nat.ne_of_lt hb)) (yt (Nat.ne_of_lt (Nat.lt_trans hb hd1lt))) (k0 b ob e)
section
variable {X:Cx}
theorem JY {pins:List (Addr×Obj)} {σ:St} {H:Hp} {s:Shared} (I:zC X pins σ H s):∀ {kvs:List (zM×V)} {vs:List V} {its:List Value},zZ vs its->kvs.length=vs.length->(∀ (j:Nat) (kv:zM×V),kvs[j]?=some kv->∃ b,vs[j]?=some (V.ref b)/\yM X.K H b [kV kv.1,kv.2])->
  ∃ ws:List (zM×Value),KV kvs ws/\∀ (j:Nat) (kw:zM×Value),ws[j]?=some kw->∃ v,its[j]?=some v/\XY s.heap v kw.1 kw.2
 | [],_,_,_,_,_=>⟨[],.nil,fun j kw e=>by cases e⟩
 | kv::kvs,[],_,_,h,_=>by cases h
 | kv::kvs,_::vs,_::its,.cons r t,h,hp=>by
  obtain ⟨ws,rk,hw⟩:=JY I t (by simpa using h) fun j kv' e=>by
   obtain ⟨b,e1,q⟩:=hp (j+1) kv' (by simpa using e)
   exact ⟨b,by simpa using e1,q⟩
  obtain ⟨b,e1,sq⟩:=hp 0 kv rfl
  cases e1
  obtain ⟨is,ri,pt,_⟩:=I.tuple sq
  obtain ⟨key,x,rfl,rkey,rx⟩:=T4 ri
  refine ⟨(kv.1,x)::ws,.cons ⟨rfl,rx⟩ rk,fun j kw e=>?_⟩
  cases j with
  | zero=>
   cases e
   exact ⟨_,rfl,b,key,r,qZ (P:=X.prog) (w:=X.w) rkey,pt⟩
  | succ j=>
   obtain ⟨v,e2,q⟩:=hw j kw (by simpa using e)
   exact ⟨v,by simpa using e2,q⟩
noncomputable def En (K:PySem.W.Frag):List V->Hp->VK->Prop:=fun xs H Q=>∃ a vs kvs,xs=[.ref a]/\yC K H a vs/\kvs.length=vs.length/\(∀ (j:Nat) (kv:zM×V),kvs[j]?=some kv->∃ b,vs[j]?=some (.ref b)/\yM K H b [kV kv.1,kv.2])/\∀ p,H p=none->Q (.ref p) (zR H p (.dK (tU [] kvs)))
theorem LL (hcalm:X.calm=true):xX X (.type "dict") (En X.K):=by
 intro pins s σ H xs us Q I r h
 obtain ⟨a,vs,kvs,rfl,sq,hl,hp,q⟩:=h
 obtain ⟨u,rfl,ru⟩:=vy r
 cases (show u=Value.ref a from ru)
 obtain ⟨its,rv,⟨o,n,ho,hc,hdd,hdat⟩,hz⟩:=I.list sq
 obtain ⟨ws,rk,hw⟩:=JY I rv hl hp
 have hlw:ws.length=its.length:=by rw [<- rk.length,hl,rv.length]
 refine LM (I.ok.hd hcalm) ho hc hdd hdat hlw hw (by rw [hlw,<- rv.length]; exact hz) fun h' tk dd kp=>?_
 have hle:(tU [] kvs).length<=sizeLine:=by
  have h1:=J9 kvs []
  rw [List.length_nil] at h1
  omega
 have hm:(s.heap.objs.size == sysModules)=false:=by
  have:=I.big
  rw [beq_eq_false_iff_ne]
  exact yt (Nat.ne_of_gt this)
 exact ⟨.ref s.heap.objs.size,_,I.laid (a:=s.heap.objs.size) (o:=.dK (tU [] kvs)) (t':=tk) kp (Nat.le_refl _) (Wd hle hm (rk.merge .nil) dd),rfl,q _ I.fresh⟩
end
noncomputable def Zd:List D->Option (List (Sum Int Str)×List D)
 | []=>some ([],[])
 | .tup [k,v]::r=>(wp k).bind fun k=>(Zd r).bind fun p=>some (k::p.1,v::p.2)
 | _=>none
noncomputable def xK {α:Type}:List (Sum Int Str)->List α->List (Sum Int Str)->List α->List (Sum Int Str)×List α
 | ks,ds,k::r,v::q=>xK (xm ks k) (xH ks ds k v) r q
 | ks,ds,_,_=>(ks,ds)
noncomputable def ZO:List D->Option D
 | [.lst xs]=>(Zd xs).bind fun p=>some (.dic (xK [] [] p.1 p.2).1 (xK [] [] p.1 p.2).2)
 | _=>none
theorem Js:∀ {ks:List zM} {us:List V} {as:List zM} {vs:List V},ks.length=us.length->as.length=vs.length->tU (as.zip vs) (ks.zip us)=(xK as vs ks us).1.zip (xK as vs ks us).2/\(xK as vs ks us).1.length=(xK as vs ks us).2.length
 | [],[],as,vs,_,h=>⟨rfl,h⟩
 | k::ks,u::us,as,vs,h1,h2=>by
  have ih:=Js (ks:=ks) (us:=us) (as:=xm as k) (vs:=xH as vs k u) (by simpa using h1) (kF h2)
  refine ⟨?_,ih.2⟩
  show tU (wC (as.zip vs) k u) (ks.zip us)=_
  rw [TF h2]
  exact ih.1
theorem Jr {K:PySem.W.Frag} {G:Hp}:∀ {ks:List zM} {es:List D} {us:List V} {as:List zM} {ds:List D} {vs:List V},Reps K G es us->Reps K G ds vs->ks.length=us.length->as.length=vs.length->Reps K G (xK as ds ks es).2 (xK as vs ks us).2/\(xK as ds ks es).1=(xK as vs ks us).1
 | [],es,us,as,ds,vs,r1,r2,h1,h2=>by
  have e1:xK as ds [] es=(as,ds):=by unfold xK; rfl
  have e2:xK as vs [] us=(as,vs):=by unfold xK; rfl
  rw [e1,e2]
  exact ⟨r2,rfl⟩
 | k::ks,es,[],as,ds,vs,r1,r2,h1,h2=>by cases h1
 | k::ks,[],u::us,as,ds,vs,r1,r2,h1,h2=>by cases (show _=[] from r1)
 | k::ks,e::es,_::_,as,ds,vs,r1,r2,h1,h2=>by
  obtain ⟨v,r,ev,hv,hr⟩:=r1
  cases ev
  exact Jr (ks:=ks) (es:=es) (as:=xm as k) hr (r2.put hv) (by simpa using h1) (kF h2)
theorem Jq {α:Type}:∀ {ks:List zM} {es:List α} {as:List zM} {ds:List α},as.length=ds.length->(xK as ds ks es).2.length<=ds.length+es.length
 | [],es,as,ds,_=>by
  have e:xK as ds [] es=(as,ds):=by unfold xK; rfl
  rw [e]
  exact Nat.le_add_right _ _
 | _::_,[],as,ds,_=>by
  have e:∀ k ks,xK as ds (k::ks) ([]:List α)=(as,ds):=fun _ _=>by unfold xK; rfl
  rw [e]
  exact Nat.le_add_right _ _
 | k::ks,e::es,as,ds,h=>by
  have ih:=Jq (ks:=ks) (es:=es) (as:=xm as k) (ds:=xH as ds k e) (kF h)
  have:=Vc (ks:=as) (vs:=ds) (k:=k) (v:=e) h
  show (xK (xm as k) (xH as ds k e) ks es).2.length<=_
  rw [List.length_cons]
  omega
theorem J2 {K:PySem.W.Frag} {G:Hp}:∀ {xs:List D} {vs:List V} {ks:List zM} {ds:List D},Zd xs=some (ks,ds)->Reps K G xs vs->∃ us,Reps K G ds us/\ks.length=us.length/\ks.length=vs.length/\∀ (j:Nat) (kv:zM×V),(ks.zip us)[j]?=some kv->∃ b,vs[j]?=some (V.ref b)/\yM K G b [kV kv.1,kv.2]
 | [],_,_,_,h,r=>by
  cases h
  cases (show _=[] from r)
  exact ⟨[],rfl,rfl,rfl,fun j kv e=>by cases e⟩
 | x::xs,_,ks,ds,h,r=>by
  obtain ⟨v,r',rfl,hv,hr⟩:=r
  unfold Zd at h
  split at h
  ·rename_i e; cases e
  ·rename_i k y r2 e
   cases e
   obtain ⟨key,hk,h⟩:=zD h
   obtain ⟨⟨ks2,ds2⟩,h2,h⟩:=zD h
   cases h
   obtain ⟨us,q1,q2,q3,q4⟩:=J2 h2 hr
   obtain ⟨b,ws,rfl,sq,⟨u1,_,rfl,hu1,⟨u2,_,rfl,hu2,e3⟩⟩,_⟩:=hv
   cases (show _=[] from e3)
   refine ⟨u2::us,⟨u2,us,rfl,hu2,q1⟩,by rw [List.length_cons,List.length_cons,q2],by rw [List.length_cons,List.length_cons,q3],fun j kv e=>?_⟩
   cases j with
   | zero=>
    cases e
    refine ⟨b,rfl,?_⟩
    rw [<- qb hk hu1]
    exact sq
   | succ j=>
    obtain ⟨b',e1,e2⟩:=q4 j kv (by simpa using e)
    exact ⟨b',by simpa using e1,e2⟩
  ·cases h
theorem HJ {X:Cx} {e:Expr} {fs:FA} {p pos:Pos} (hcalm:X.calm=true) (hg:Gl X "dict") (hm:X.mg "dict" = none) (hv:bootBuiltins "dict" = some (.type "dict")) (ha:SA X [e] fs) (hs:yH e=true:=by rfl):SF X (.Call (.Name "dict" p) [e] [] pos) (eL ZO fs):=by
 obtain ⟨t,pt,k⟩:=ha.h
 refine ⟨⟨_,(Zv (LL hcalm) hg hm hv ⟨pt⟩ (by decide) (by decide) (by rw [List.all_cons,hs]; rfl)).h,fun {G0 H0 G H τ σ d Q} E hf q=>?_⟩⟩
 obtain ⟨ds,hd,hf⟩:=zD hf
 refine k E hd fun vs G1 H1 x1 r1=>?_
 unfold ZO at hf
 split at hf
 ·rename_i xs
  obtain ⟨⟨ks,es⟩,hk,hf⟩:=zD hf
  cases hf
  obtain ⟨v,rfl,a,ws,rfl,sq,rs,l⟩:=ux r1
  obtain ⟨us,q1,q2,q3,q4⟩:=J2 hk rs
  obtain ⟨z1,z2⟩:=Js (ks:=ks) (us:=us) (as:=[]) (vs:=[]) q2 rfl
  obtain ⟨z3,z4⟩:=Jr (ks:=ks) (as:=[]) (ds:=[]) (vs:=[]) q1 rfl q2 rfl
  refine ⟨a,ws,ks.zip us,rfl,wE x1.gh sq,by rw [List.length_zip,q2,Nat.min_self,<- q2,q3],fun j kv e=>?_,fun p hp=>?_⟩
  ·obtain ⟨b,e1,e2⟩:=q4 j kv e
   exact ⟨b,e1,wb x1.gh e2⟩
  ·refine q p _ _ (x1.trans (zL.layO x1.gh hp)) (x1.h.free hp) (x1.gh.free hp) ⟨(xK [] [] ks us).2,?_,?_,z3,?_⟩
   ·show zR H1 p (.dK (tU [] (ks.zip us))) p=some (.dK ((xK [] [] ks es).1.zip (xK [] [] ks us).2))
    rw [yk,z4]
    exact congrArg (fun x=>some (HO.dK x)) z1
   ·show (xK [] [] ks es).1.length=_
    rw [z4]
    exact z2
   ·have:=Jq (ks:=ks) (es:=es) (as:=[]) (ds:=[]) rfl
    have e1:es.length=ws.length:=by rw [<- q1.length,<- q2,q3]
    rw [rs.length] at e1
    show (xK [] [] ks es).2.length<=sizeLine
    simp only [List.length_nil,Nat.zero_add] at this
    omega
 ·cases hf
end L3
namespace L3
open PySem PySem.Spec PyProof PyProof.Rows L2 Builtin Builtin.Str
section
variable {X:Cx} {e o a b c:Expr} {f fo fa fb fc:FE} {x:Str} {xp p pos apos cpos:Pos}
theorem Ts:bootBuiltins "dict" = some (.type "dict"):=by decide +kernel
theorem Reps.set {K:PySem.W.Frag} {G:Hp} {d:D} {v:V} (hv:zK K G d v):∀ {ds:List D} {vs:List V} (n:Nat),Reps K G ds vs->Reps K G (ds.set n d) (vs.set n v)
 | [],_,_,r=>by cases (show _=[] from r); rfl
 | d'::ds,_,0,r=>by
  obtain ⟨u,r',rfl,hu,hr⟩:=r
  exact ⟨v,r',rfl,hv,hr⟩
 | d'::ds,_,n+1,r=>by
  obtain ⟨u,r',rfl,hu,hr⟩:=r
  exact ⟨u,_,rfl,hu,Reps.set hv n hr⟩
end
end L3
namespace L2
open PySem PySem.Spec PyProof.Rows
noncomputable def XO (K:PySem.W.Frag) (a:Addr):It:=
  ⟨fun i H=>∃ xs x,yC K H a xs/\xs[i]?=some x,
   fun i H v H'=>∃ p,H p=none/\v=.ref p/\∀ xs,yC K H a xs->∃ x,xs[i]?=some x/\H'=zR H p (.tup [.int (i:Int),x]),
   fun i H=>∃ xs,yC K H a xs/\xs.length<=i⟩
theorem KO {P:Program} {w:World} {K:PySem.W.Frag} {elts:List Expr} {kk:Nat} {pos:Pos} (a e it:Addr) (hei:e≠it) :
  qO P w K (.Tuple elts kk pos) (XO K a) [e,it] e (fun i h=>(∃ old,IsEnum h e it (i:Int) old)/\h.IsListIter it a i) where
 mem:=by simp
 obj:=fun i h st c hc=>by
  obtain ⟨⟨old,s1⟩,⟨o2,s2,_,d2⟩⟩:=st
  simp only [List.mem_cons,List.not_mem_nil,or_false] at hc
  rcases hc with rfl | rfl
  ·exact ⟨_,s1,fun v q=>nomatch q⟩
  ·exact ⟨_,s2,fun v q=>by rw [d2] at q; cases q⟩
 keep:=fun i h h' st k=>by
  obtain ⟨⟨old,s1⟩,s2⟩:=st
  exact ⟨⟨old,k e (by simp) _ s1⟩,s2.at fun o x=>k it (by simp) o x⟩
 item:=by
  intro X hP hw hK hc i pins s σ H E I hf st hg
  subst hP hw hK
  obtain ⟨⟨old,s1⟩,s2⟩:=st
  obtain ⟨xs,x,hx,ex⟩:=hg
  obtain ⟨us,ru,pu,_⟩:=I.list hx
  have pl:=pu.isList
  obtain ⟨xu,hxu,rxu⟩:=ru.get ex
  have hx':us.toArray[i]?=some xu:=by rw [List.getElem?_toArray]; exact hxu
  have lt1:e<s.heap.objs.size:=Heap.lt_size s1
  have lt2:it<s.heap.objs.size:=by obtain ⟨o,z,_⟩:=s2; exact Heap.lt_size z
  refine wpAny_pyNext_enum_item s1 s2 pl hx' hei fun h1 heo hit1 ht1 hz1 hk1=>?_
  refine ⟨_,rfl,wpAny_letOwnedTupleGo_enum (s:={ s with heap:=h1,toks:=s.toks+1 }) heo fun h2 he2 hs2=>?_⟩
  replace hs2:Heap.SameBut e h1 h2:=hs2
  have hTs:s.heap.get? s.heap.objs.size=none:=by
   cases q:s.heap.get? s.heap.objs.size with
   | none=>rfl
   | some o=>exact absurd (Heap.lt_size q) (Nat.lt_irrefl _)
  have hTf:H s.heap.objs.size=none:=I.hok.fresh (Nat.le_refl _)
  have tup:h2.get? s.heap.objs.size=some { cls:=.type "tuple",data:=.seq #[.int i s.toks,xu] }:=hs2.extBut _ _ (Nat.ne_of_gt lt1) ht1
  have kk:∀ c o,c ∉ [e,it]->s.heap.get? c=some o->h2.get? c=some o:=fun c o hc z=>by
   simp only [List.mem_cons,List.not_mem_nil,or_false,not_or] at hc
   exact hs2.extBut _ _ hc.1 (hk1 c o hc.1 hc.2 z)
  have new:yh X.prog X.w (zR H s.heap.objs.size (.tup [.int (i:Int),x])) h2 s.heap.objs.size (.tup [.int (i:Int),x]):=⟨(by show 2<=sizeLine; decide),[.int i s.toks,xu],.cons ⟨_,rfl⟩ (.cons rxu .nil),⟨_,tup,rfl,_,rfl⟩⟩
  refine ⟨.ref s.heap.objs.size,zR H s.heap.objs.size (.tup [.int (i:Int),x]),I.butNew (tk:=s.toks+1) hf kk hTs hTf new,rfl,⟨s.heap.objs.size,hTf,rfl,fun xs' hx'=>?_⟩,⟨⟨xu,?_⟩,hit1.at fun o z=>hs2.extBut _ _ hei.symm z⟩,fun c hc=>?_⟩
  ·rw [I.list_inj hx' hx]
   exact ⟨x,ex,rfl⟩
  ·rw [show ((i+1:Nat):Int)=(i:Int)+1 from rfl]
   exact he2
  ·rw [z_]
   ·exact (hf c hc).1
   ·intro q
    have hlt:c<s.heap.objs.size:=by
     simp only [List.mem_cons,List.not_mem_nil,or_false] at hc
     rcases hc with rfl | rfl
     ·exact lt1
     ·exact lt2
    rw [q] at hlt
    exact absurd hlt (Nat.lt_irrefl _)
 done:=by
  intro X hP hw hK hc i pins s σ H E I hf st hg
  subst hP hw hK
  obtain ⟨⟨old,s1⟩,s2⟩:=st
  obtain ⟨xs,hx,hend⟩:=hg
  obtain ⟨us,ru,pu,_⟩:=I.list hx
  have pl:=pu.isList
  have hx':us.toArray[i]?=none:=by
   rw [List.getElem?_toArray]
   exact List.getElem?_eq_none (by have:=ru.length; omega)
  refine wpAny_pyNext_enum_end (by exact I.ok.hd hc) s1 s2 pl hx' fun h1 he1=>?_
  refine ⟨rfl,I.but (tk:=s.toks) hf fun c ob hcc eb=>?_⟩
  simp only [List.mem_cons,List.not_mem_nil,or_false,not_or] at hcc
  exact he1 c ob hcc.2 eb
 self:=fun _ _ _ _ _ st h=>by
  obtain ⟨⟨old,s1⟩,_⟩:=st
  exact wpAny_pyIter_enum s1 h
section
variable {X:Cx}
noncomputable def BQ (K:PySem.W.Frag) (ta:TA):TI:=fun σ H R=>ta σ H fun vs H1=>∃ a xs,vs=[.ref a]/\yC K H1 a xs/\R (XO K a) H1
theorem E6 {a:Expr} {ta:TA} {p pos:Pos} {elts:List Expr} {kk:Nat} {tp:Pos} (hg:Gl X "enumerate") (hm:X.mg "enumerate" = none) (ha:PA X [a] ta) (hs:starEach [a] X.env=[(false,eval a X.env)]:=by rfl) :
  PI X (.Tuple elts kk tp) (.Call (.Name "enumerate" p) [a] [] pos) (BQ X.K ta):=by
 intro pins s σ H R I h
 refine Call_ (jd I hg hm boot_enumerate (PyProof.Rows.callWith_type1 (zd (ha pos pins s σ H _ I h) fun us s1 ⟨vs,H1,I1,r1,q1⟩=>?_) (by rw [hs]; rfl) rfl))
 obtain ⟨l1,xs,rfl,hx,q⟩:=q1
 obtain ⟨u,rfl,ru⟩:=vy r1
 cases (show u=Value.ref l1 from ru)
 obtain ⟨us,_,pu,_⟩:=I1.list hx
 refine call_enumerate_list pu.isList fun h' a1 a2 hz kp=>?_
 have I2:zC X pins σ H1 { s1 with heap:=h' }:=I1.kept (t':=s1.toks) kp
 refine wpAny_pyIter_enum (s:={ s1 with heap:=h' }) a1 ?_
 generalize hn:s1.heap.objs.size=n at a1 a2 hz
 refine ⟨n+1,[n+1,n],_,_,H1,rfl,I2,KO l1 (n+1) n (yt (by omega)),⟨⟨_,a1⟩,a2⟩,fun c hc=>?_,q⟩
 have hle:s1.heap.objs.size<=c:=by
  rw [hn]
  simp only [List.mem_cons,List.not_mem_nil,or_false] at hc
  rcases hc with rfl | rfl
  ·exact Nat.le_add_right _ _
  ·exact Nat.le_refl _
 exact I1.fpOk hle (I1.hok.fresh hle)
end
end L2
namespace L3
open PySem PySem.Spec PyProof.Rows L2
noncomputable def tY (xs:List D):List D:=List.zipWith (fun (i:Nat) x=>D.tup [.int (i:Int),x]) (List.range xs.length) xs
noncomputable def ZW (a:FE):FA:=fun σ=>(a σ).bind fun d=>match d with
 | .lst xs=>some (tY xs)
 | _=>none
theorem g_ (xs:List D):(tY xs).length=xs.length:=by simp [tY]
theorem JN (xs:List D) (i:Nat):(tY xs)[i]?=(xs[i]?).map fun x=>D.tup [.int (i:Int),x]:=by
 unfold tY
 rw [List.getElem?_zipWith]
 by_cases h:i<xs.length
 ·rw [List.getElem?_range h,List.getElem?_eq_getElem h]; rfl
 ·rw [List.getElem?_eq_none (by simpa using h),List.getElem?_eq_none (by omega)]; rfl
section
variable {K:PySem.W.Frag} {G H:Hp}
theorem M9 {a:Addr} {vs:List V} {xs:List D} (s1:yC K G a vs) (r1:Reps K G xs vs):qR K (XO K a) G (tY xs) where
 go:=fun i G2 H g1 g2 hi=>by
  rw [g_] at hi
  obtain ⟨v,e1,_⟩:=r1.get (List.getElem?_eq_getElem hi)
  exact ⟨vs,v,wE (g1.trans g2) s1,e1⟩
 yld:=fun i G2 H x H' g1 g2 hi y=>by
  obtain ⟨p,hp,rfl,k⟩:=y
  obtain ⟨v,e1,rfl⟩:=k vs (wE (g1.trans g2) s1)
  obtain ⟨d1,f1,q1⟩:=r1.at e1
  refine ⟨zR G2 p (.tup [.int (i:Int),v]),.tup [.int (i:Int),d1],zL.lay g2 hp,by rw [JN,f1]; rfl,?_⟩
  have sm:zf G (zR G2 p (.tup [.int (i:Int),v])):=g1.trans (vG (g2.free hp) _)
  exact ⟨p,[.int (i:Int),v],rfl,yM.of yk,⟨_,_,rfl,rfl,⟨v,_,rfl,q1.mono sm,rfl⟩⟩,zW (n:=2) (by decide)⟩
 stop:=fun i G2 H g1 g2 hi=>by
  rw [g_] at hi
  exact ⟨vs,wE (g1.trans g2) s1,by rw [r1.length]; exact hi⟩
end
theorem HQ {X:Cx} {a:Expr} {fa:FE} {p pos:Pos} {elts:List Expr} {kk:Nat} {tp:Pos} (hg:Gl X "enumerate") (hm:X.mg "enumerate" = none) (ha:SE X a fa) (hs:yH a=true:=by rfl):SI X (.Tuple elts kk tp) (.Call (.Name "enumerate" p) [a] [] pos) (ZW fa):=by
 obtain ⟨t,pt,k⟩:=(zB ha zN hs).h
 refine ⟨⟨_,E6 hg hm pt (wP hs),fun {G0 H0 G H τ σ ds R} K hf q=>?_⟩⟩
 obtain ⟨x,hx,hf⟩:=zD hf
 cases x<;>first | (cases hf; done) | skip
 cases hf
 rename_i xs
 refine k K (ds:=[.lst xs]) (by unfold zA; rw [hx]; rfl) fun vs G1 H1 x1 r1=>?_
 obtain ⟨v,r,rfl,hv,hr⟩:=r1
 cases (show r=[] from hr)
 obtain ⟨aa,vs1,rfl,s1,q1,l1⟩:=hv
 exact ⟨aa,vs1,rfl,wE x1.gh s1,q _ _ _ x1 (by rw [g_]; exact l1) (M9 s1 q1)⟩
end L3
namespace L2
open PySem PySem.Spec PyProof PyProof.Rows
noncomputable def pT (a:Int):List Int->List Int
 | []=>[a]
 | b::r=>if a<=b then a::b::r else b::pT a r
noncomputable def isort:List Int->List Int
 | []=>[]
 | a::r=>pT a (isort r)
theorem V6 (a:Int):∀ l:List Int,(pT a l).Perm (a::l)
 | []=>List.Perm.refl _
 | b::r=>by
  unfold pT
  split
  ·exact List.Perm.refl _
  ·exact ((V6 a r).cons b).trans (List.Perm.swap a b r)
theorem isort_perm:∀ l:List Int,(isort l).Perm l
 | []=>List.Perm.refl _
 | a::r=>(V6 a _).trans ((isort_perm r).cons a)
theorem Qr (a:Int):∀ {l:List Int},l.Pairwise (·<=·)->(pT a l).Pairwise (·<=·)
 | [],_=>by simp [pT]
 | b::r,h=>by
  obtain ⟨h1,h2⟩:=List.pairwise_cons.mp h
  unfold pT
  split
  ·rename_i hab
   exact List.pairwise_cons.mpr ⟨fun x hx=>by
    rcases List.mem_cons.mp hx with rfl | hx
    ·exact hab
    ·exact Int.le_trans hab (h1 x hx),h⟩
  ·rename_i hab
   refine List.pairwise_cons.mpr ⟨fun x hx=>?_,Qr a h2⟩
   rcases List.mem_cons.mp ((V6 a r).mem_iff.mp hx) with rfl | hx
   ·omega
   ·exact h1 x hx
theorem Qx:∀ l:List Int,(isort l).Pairwise (·<=·)
 | []=>List.Pairwise.nil
 | a::r=>Qr a (Qx r)
theorem Ir:∀ {a b:List Int},a.Perm b->a.Pairwise (·<=·)->b.Pairwise (·<=·)->a=b
 | [],b,p,_,_=>(List.nil_perm.mp p).symm
 | x::a,[],p,_,_=>by cases p.length_eq
 | x::a,y::b,p,ha,hb=>by
  obtain ⟨h1,h2⟩:=List.pairwise_cons.mp ha
  obtain ⟨g1,g2⟩:=List.pairwise_cons.mp hb
  have e:x=y:=by
   have hx:x∈y::b:=p.mem_iff.mp (List.mem_cons_self ..)
   have hy:y∈x::a:=p.mem_iff.mpr (List.mem_cons_self ..)
   rcases List.mem_cons.mp hx with rfl | hx
   ·rfl
   ·rcases List.mem_cons.mp hy with e | hy
    ·exact e.symm
    ·exact Int.le_antisymm (h1 y hy) (g1 x hx)
  subst e
  rw [Ir (List.perm_cons x |>.mp p) h2 g2]
theorem Qs:∀ {ns:List Int} {its:List Value},IntsAre its ns->zZ (ns.map V.int) its
 | [],_,.nil=>.nil
 | _::_,_,.cons _ _ r=>.cons ⟨_,rfl⟩ (Qs r)
end L2
namespace L3
open PySem PySem.Spec PyProof.Rows L2
theorem LD:bootBuiltins "sorted" = some (.builtin "sorted"):=by decide +kernel
end L3
namespace L2
open PySem PySem.Spec PyProof.Rows
end L2
namespace L3
open PySem PySem.Spec PyProof.Rows L2
end L3
namespace L3
open PySem PySem.Spec PyProof.Rows L2
noncomputable def ZM:D->D->Option D
 | .lst x,.lst y=>if x.length+y.length<=yP then some (.lst (x++y)) else none
 | _,_=>none
theorem ME {x y d:D} (h:ZM x y=some d):∃ xs ys,x=.lst xs/\y=.lst ys/\xs.length+ys.length<=yP/\d=.lst (xs++ys):=by
 unfold ZM at h
 split at h
 ·rename_i xs ys
  by_cases c:xs.length+ys.length<=yP
  ·rw [if_pos c] at h
   cases h
   exact ⟨_,_,rfl,rfl,c,rfl⟩
  ·rw [if_neg c] at h
   cases h
 ·cases h
end L3
namespace L3
open PySem PySem.Spec PyProof.Rows L2
end L3
namespace L3
open PySem PySem.Spec PyProof.Rows L2
end L3
namespace L3
open PySem PySem.Spec PyProof.Rows L2
end L3
namespace L3
open PySem PySem.Spec PyProof.Rows L2
noncomputable def ZS:D->D->Option D
 | .lst x,.int k=>if 0<=k/\k<=1000000/\x.length*k.toNat<=yP then some (.lst (List.replicate k.toNat x).flatten) else none
 | _,_=>none
theorem MK {x y d:D} (h:ZS x y=some d):∃ xs k,x=.lst xs/\y=.int k/\(0<=k/\k<=1000000/\xs.length*k.toNat<=yP)/\d=.lst (List.replicate k.toNat xs).flatten:=by
 unfold ZS at h
 split at h
 ·rename_i xs k
  by_cases c:0<=k/\k<=1000000/\xs.length*k.toNat<=yP
  ·rw [if_pos c] at h
   cases h
   exact ⟨_,_,rfl,rfl,c,rfl⟩
  ·rw [if_neg c] at h
   cases h
 ·cases h
theorem Reps.rep {K:PySem.W.Frag} {G:Hp} {ds:List D} {vs:List V} (r:Reps K G ds vs):∀ k:Nat,Reps K G (List.replicate k ds).flatten (List.replicate k vs).flatten
 | 0=>rfl
 | k+1=>by
  rw [List.replicate_succ,List.flatten_cons,List.replicate_succ,List.flatten_cons]
  exact r.append (Reps.rep r k)
section
variable {X:Cx} {a b:Expr} {f fa fb:FE} {x:Str} {xp pos apos cpos:Pos} {e:Expr}
theorem HM (ha:SF X a fa) (hb:SE X b fb):SF X (.BinOp a .Mult b pos) (e2 ZS fa fb):=by
 obtain ⟨ta,pa,ka⟩:=ha.h
 obtain ⟨tb,pb,kb⟩:=hb.h
 refine ⟨⟨_,VW CS pa pb,fun {G0 H0 G H τ σ d Q} E hf q=>?_⟩⟩
 obtain ⟨x,hx,hf⟩:=zD hf
 obtain ⟨y,hy,hf⟩:=zD hf
 refine ka E hx fun p G1 H1 x1 hp gp o=>?_
 refine kb (E.go x1) hy fun u G2 H2 x2 r2=>?_
 obtain ⟨xs,k,rfl,rfl,c,rfl⟩:=MK hf
 obtain ⟨vs,ev,rv,_⟩:=o
 cases (show u=.int k from r2)
 have x12:=x1.trans x2
 refine ⟨p,k,vs,rfl,rfl,x2.h _ _ ev,by omega,by omega,by rw [rv.length,sizeLine_eq]; exact c.2.2,fun p' hp'=>?_⟩
 refine q p' _ _ (x12.trans (zL.layO x12.gh hp')) (x12.h.free hp') (x12.gh.free hp') ⟨_,yk,Reps.rep (rv.mono x2.g) _,?_⟩
 rw [sizeLine_eq,J8,Nat.mul_comm]; exact c.2.2
end
end L3
namespace L3
open PySem PySem.Spec PyProof.Rows L2
noncomputable def Dp (τ:zr):Bool:=τ.all fun s=>match s with
 | some (true,_)=>false
 | _=>true
end L3
namespace L2
open PySem PySem.Spec PyProof PyProof.Rows
end L2
namespace L3
open PySem PySem.Spec PyProof.Rows L2
noncomputable def gX:List D->Option (List Bool)
 | []=>some []
 | .bl b::r=>(gX r).bind fun bs=>some (b::bs)
 | _=>none
theorem Tr:∀ {ds:List D} {bs:List Bool},gX ds=some bs->ds=bs.map D.bl
 | [],_,h=>by cases h; rfl
 | d::ds,bs,h=>by
  unfold gX at h
  split at h
  ·rename_i e; cases e
  ·rename_i b r e
   cases e
   obtain ⟨bs',h1,h⟩:=zD h
   cases h
   rw [Tr h1]
   rfl
  ·cases h
theorem IP {K:PySem.W.Frag} {G:Hp}:∀ {bs:List Bool} {vs:List V},Reps K G (bs.map D.bl) vs->vs=bs.map V.bl
 | [],_,r=>r
 | b::bs,_,r=>by
  obtain ⟨v,r',rfl,hv,hr⟩:=r
  rw [IP hr,show v=V.bl b from hv]
  rfl
noncomputable def Wj:List D->Option D
 | [.lst xs]=>(gX xs).bind fun bs=>some (.bl (bs.all id))
 | _=>none
theorem F7 {K:PySem.W.Frag}:gQ K (IC K) Wj:=fun G H ds vs d Q s r hf q=>by
 match ds,hf with
 | [.lst xs],hf=>
  obtain ⟨bs,hb,hf⟩:=zD (show (gX xs).bind _=some d from hf)
  cases hf
  obtain ⟨v,rfl,a,us,rfl,sq,rs,l⟩:=ux r
  rw [Tr hb] at rs
  rw [IP rs] at sq
  exact ⟨a,bs,rfl,sq,q _ _ _ (zL.refl s) rfl⟩
end L3
namespace L2
open PySem PySem.Spec PyProof PyProof.Rows
noncomputable def memK (ks:List zM) (k:zM):Bool:=ks.any fun k'=>decide (k'=k)
end L2
namespace L2
open PySem PySem.Spec PyProof PyProof.Rows
end L2
namespace L2
open PySem PySem.Spec PyProof PyProof.Rows
end L2
namespace L3
open PySem PySem.Spec PyProof.Rows L2
end L3
namespace L2
open PySem PySem.Spec PyProof PyProof.Rows
end L2
namespace L2
open PySem PySem.Spec PyProof PyProof.Rows
end L2
namespace L2
open PySem PySem.Spec PyProof PyProof.Rows
end L2
namespace L2
open PySem PySem.Spec PyProof PyProof.Rows
end L2
namespace L2
open PySem PySem.Spec PyProof PyProof.Rows
end L2
namespace L2
open PySem PySem.Spec PyProof PyProof.Rows
end L2
namespace L2
open PySem PySem.Spec PyProof PyProof.Rows
end L2
namespace L3
open PySem PySem.Spec PyProof.Rows L2
end L3
namespace L2
open PySem PySem.Spec PyProof PyProof.Rows
end L2
namespace L3
open PySem PySem.Spec PyProof.Rows L2
end L3
namespace L2
open PySem PySem.Spec PyProof PyProof.Rows
end L2
namespace L3
open PySem PySem.Spec PyProof.Rows L2
end L3
namespace L3
open PySem PySem.Spec PyProof.Rows L2
structure OV (K:PySem.W.Frag) (H0 G H:Hp) (p:Addr) (qs:List Addr) (nds:List (List D)):Prop where
 hp:H p=some (.lst (qs.map V.ref))
 p0:H0 p=none
 pg:G p=none
 np:p ∉ qs
 nd:qs.Nodup
 ln:nds.length=qs.length
 el:∀ (j:Nat) (q:Addr),qs[j]?=some q->∃ ds vs,nds[j]?=some ds/\H q=some (.lst vs)/\H0 q=none/\G q=none/\Reps K G ds vs/\ds.length<=sizeLine
structure TM (K:PySem.W.Frag) (n:Nat) (G0 H0 G H:Hp) (τ:zr) (σ:St) (i:Nat) (nds:List (List D)):Prop where
 env:zk K n G0 H0 G H τ σ
 no:Dp τ=true
 nst:∃ p qs,σ[i]?=some (some (.ref p))/\OV K H0 G H p qs nds
inductive NF where
 | nx (nds:List (List D)) (τ:zr)
 | rt (d:D)
noncomputable abbrev OT:=List (List D)->zr->Option NF
noncomputable def OU (K:PySem.W.Frag) (n:Nat) (G0 H0:Hp) (E:wS) (i:Nat):NF->Prop
 | .nx nds τ=>∀ σ G H,TM K n G0 H0 G H τ σ i nds->E.nx σ H
 | .rt d=>∀ v G H,zL G0 H0 G H->zK K G d v->E.rt v H
structure NS (X:Cx) (i:Nat) (st:Stmt) (f:OT):Prop where
 h:∃ t,PS X st t/\∀ {G0 H0 G H:Hp} {τ:zr} {σ:St} {nds:List (List D)} {fl:NF} {E:wS},TM X.K X.N.length G0 H0 G H τ σ i nds->f nds τ=some fl->OU X.K X.N.length G0 H0 E i fl->t E σ H
end L3
namespace L3
open PySem PySem.Spec PyProof.Rows L2
end L3
namespace L2
open PySem PySem.Spec PyProof PyProof.Rows
section
variable {prog:Program} {w:World} {A:Around} {E:Value->Shared->Prop}
theorem Le {s:Shared} {a:Addr} {kvs:List (zM×Value)} {ep:Nat} {Q:List Value->Shared->Prop} (hh:A.handled=none) (lo:(a == sysModules)=false) (hm:s.heap.DictAt (ye prog w) a kvs ep) (hb:kvs.length<=sizeLine)
  (h:∀ h' tk vs,vs.length=kvs.length->(∀ (j:Nat) (v:Value),vs[j]?=some v->∃ k x,kvs[j]?=some (k,x)/\(ye prog w).is k v=true)->s.heap.objs.size<h'.objs.size->(∀ b ob,s.heap.get? b=some ob->h'.get? b=some ob)->Q vs { s with heap:=h',toks:=tk }):wpAny (model prog w) A (collect (.ref a)) Q E s:=by
 unfold collect
 refine wpAny_bind (wpAny_runValue (codeAny_builtin (entry_proto_collect') ?_))
 show wpAny _ _ (newList [] >>= fun l=>again (.builtin "list.__iadd__" ⟨[l,.ref a],[]⟩)) _ _ s
 refine wpAny_bind (wpAny_newList (wpAny_pure ⟨Code.quiet_builtin _ (by decide +kernel),codeAny_builtin (entry_list_iadd') ?_⟩))
 have hlt:a<s.heap.objs.size:=hm.lt_size
 have neS:s.heap.objs.size≠a:=yt (Nat.ne_of_gt hlt)
 rw [Around.under_plainId (by decide +kernel)]
 refine PySem.W.kdl_extend (R:=fun r s'=>match r with
  | .ok (.ret v)=>wpAny (model prog w) A (match v with
   | Value.ref a=>(do
    let o <- load a
    match o.data with
    | .seq xs _=>pure xs.toList
    | _=>unsupported "internal:collect")
   | _=>unsupported "internal:collect") Q E s'
  | .ok _=>False
  | .error e=>E e s') (s:={ s with heap:=s.heap.push (seqObj "list" #[] 0) }) (PySem.W.kdl_dict (knd:=ye prog w) (kvs:=kvs) (ep:=ep) lo) (by exact hh) (hm.push _) s.heap.objs.size neS neS (.ref s.heap.objs.size) 0 (Heap.get?_push_size _ rfl) (fun h' tk acc' c' hk hS' hacc=>?_) hb
 refine wpAny_bind (wpAny_load hS' ?_)
 show wpAny _ _ (pure acc'.toList) _ _ _
 refine wpAny_pure (h h' tk acc'.toList (by rw [Array.length_toList]; exact hacc.1) (fun j v e=>hacc.2 j v (by rw [<- Array.getElem?_toList]; exact e)) (Heap.lt_size hS') fun b ob e=>?_)
 exact hk b ob (yt (Nat.ne_of_lt (Heap.lt_size e))) (Heap.get?_push_of_some _ e)
theorem HS {s:Shared} {a:Addr} {kvs:List (zM×Value)} {ep:Nat} {ns:List Int} {Q:Value->Shared->Prop} (hh:A.handled=none) (lo:(a == sysModules)=false) (hm:s.heap.DictAt (ye prog w) a kvs ep) (hk:kvs.map (·.1)=ns.map Sum.inl) (h64:ns.length<64)
  (h:∀ h' tk p out c ns',s.heap.objs.size<=p->h'.get? p=some (seqObj "list" out c)->IntsAre out.toList ns'->ns'.Perm ns->ns'.Pairwise (·<=·)->(∀ b ob,s.heap.get? b=some ob->h'.get? b=some ob)->Q (.ref p) { s with heap:=h',toks:=tk }) :
  wpAny (model prog w) A (call (.builtin "sorted") [.ref a]) Q E s:=by
 have hl:kvs.length=ns.length:=by
  have:=congrArg List.length hk
  rwa [List.length_map,List.length_map] at this
 have hb:kvs.length<=sizeLine:=by rw [sizeLine_eq]; omega
 refine Calls.call_function_entry kind_sorted plain_sorted entry_sorted (args_sorted1 _) ?_
 unfold Builtin.«sorted»
 refine wpAny_bind (m:=checkCount "sorted" 1 1 _) (wpAny_pure (wpAny_bind (Le (by exact hh) lo hm hb fun h1 tk ord ol oe hle kp=>wpAny_bind (wpAny_newList ?_ (by rw [ol]; exact hb)))))
 have hI:IntsAre ord ns:=by
  have:∀ (vs:List Value) (kvs:List (zM×Value)) (ns:List Int),vs.length=kvs.length->kvs.map (·.1)=ns.map Sum.inl->(∀ (j:Nat) (v:Value),vs[j]?=some v->∃ k x,kvs[j]?=some (k,x)/\(ye prog w).is k v=true)->IntsAre vs ns:=by
   intro vs
   induction vs with
   | nil=>
    intro kvs ns h1 h2 _
    cases kvs with
    | nil=>
     cases ns with
     | nil=>exact .nil
     | cons n ns=>cases h2
    | cons _ _=>cases h1
   | cons v vs ih=>
    intro kvs ns h1 h2 h3
    cases kvs with
    | nil=>cases h1
    | cons kx kvs=>
     cases ns with
     | nil=>cases h2
     | cons n ns=>
      obtain ⟨k,x,e,z⟩:=h3 0 v rfl
      cases e
      have e0:k=Sum.inl n:=(List.cons.inj h2).1
      subst e0
      obtain ⟨t,rfl⟩:=Value.isInt_shape (k:=n) (v:=v) z
      exact .cons _ _ (ih kvs ns (by simpa using h1) (List.cons.inj h2).2 fun j u hu=>by simpa using h3 (j+1) u (by simpa using hu))
  exact this ord kvs ns ol hk oe
 have l64:ord.length<64:=by omega
 have g1:(h1.push (seqObj "list" ord.toArray 0)).get? h1.objs.size=some (seqObj "list" ord.toArray 0):=Heap.get?_push_size _ rfl
 refine wpAny_bind (wpAny_holding (wpAny_call_entry slot_list_sort ⟨_,g1,rfl⟩ entry_list_sort (list_sort_tree g1 hI l64 fun out ns' a1 a2 a3=>⟨_,rfl,?_⟩) (args_list_sort _)))
 obtain ⟨c,hc⟩:=sortedHeap_at (vs:=ord) (out:=out) g1
 refine wpAny_pure ⟨_,rfl,h _ tk h1.objs.size out c ns' (Nat.le_of_lt hle) hc a1 a2 a3 fun b ob e=>?_⟩
 have hbl:=Heap.lt_size (kp b ob e)
 rw [sortedHeap_old (yt (Nat.ne_of_lt hbl)) (by rw [size_push']; exact Nat.lt_succ_of_lt hbl)]
 exact Heap.get?_push_of_some _ (kp b ob e)
end
section
variable {X:Cx}
theorem J3:∀ {kvs:List (zM×V)} {vs:List (zM×Value)},KV kvs vs->vs.map (·.1)=kvs.map (·.1)
 | _,_,.nil=>rfl
 | _,_,.cons r t=>by rw [List.map_cons,List.map_cons,J3 t,r.1]
noncomputable def Ev:List V->Hp->VK->Prop:=fun xs H Q=>∃ (a:Addr) (kvs:List (zM×V)) (ns:List Int),xs=[.ref a]/\Rd H a (.dK kvs)/\kvs.map (·.1)=ns.map Sum.inl/\ns.length<64/\∀ l,H l=none->Q (.ref l) (zR H l (.lst ((isort ns).map V.int)))
theorem LS (hcalm:X.calm=true):xX X (.builtin "sorted") Ev:=by
 intro pins s σ H xs us Q I r h
 obtain ⟨a,kvs,ns,rfl,ea,hk,h64,q⟩:=h
 obtain ⟨u,rfl,ru⟩:=vy r
 cases (show u=Value.ref a from ru)
 obtain ⟨_,lo,vs,rel,o,es,ep,ho,hx,hd,k1,k2,k3⟩:=tR I.hok ea
 have hm:s.heap.DictAt (ye X.prog X.w) a vs ep:=⟨o,es,ho,hx,hd,k1,k2,k3⟩
 refine HS (I.ok.hd hcalm) lo hm ((J3 rel).trans hk) h64 fun h' tk p out c ns' hp hc a1 a2 a3 kp=>?_
 have e:ns'=isort ns:=Ir (a2.trans (isort_perm ns).symm) a3 (Qx ns)
 subst e
 have hl2:(isort ns).length=ns.length:=(isort_perm ns).length_eq
 refine ⟨.ref p,_,I.laid (t':=tk) (h':=h') kp hp (show yh X.prog X.w _ _ _ (.lst ((isort ns).map V.int)) from ⟨?_,out.toList,c,Qs a1,?_⟩),rfl,q _ (I.hok.fresh hp)⟩
 ·rw [List.length_map,hl2]
  show _<=sizeLine
  rw [sizeLine_eq]
  omega
 ·rw [Array.toArray_toList]
  exact hc
end
end L2
namespace L3
open PySem PySem.Spec PyProof.Rows L2
noncomputable def jb:List (Sum Int Str)->Option (List Int)
 | []=>some []
 | .inl i::r=>(jb r).bind fun ns=>some (i::ns)
 | .inr _::_=>none
theorem J1:∀ {ks:List (Sum Int Str)} {ns:List Int},jb ks=some ns->ks=ns.map Sum.inl
 | [],_,h=>by cases h; rfl
 | .inl i::r,_,h=>by
  obtain ⟨ns,h1,h⟩:=zD h
  cases h
  rw [J1 h1]
  rfl
 | .inr _::_,_,h=>by cases h
noncomputable def Wr:List D->Option D
 | [.dic ks _]=>(jb ks).bind fun ns=>if ns.length<64 then some (.lst ((isort ns).map D.int)) else none
 | _=>none
theorem HN {X:Cx} {e:Expr} {fs:FA} {p pos:Pos} (hcalm:X.calm=true) (hg:Gl X "sorted") (hm:X.mg "sorted" = none) (ha:SA X [e] fs) (hs:yH e=true:=by rfl) :
  SF X (.Call (.Name "sorted" p) [e] [] pos) (eL Wr fs):=by
 obtain ⟨t,pt,k⟩:=ha.h
 refine ⟨⟨_,(Vd (p:=p) (pos:=pos) (LS hcalm) hg hm LD ⟨pt⟩ (by decide) (by decide) (by rw [List.all_cons,hs]; rfl)).h,fun {G0 H0 G H τ σ d Q} E hf q=>?_⟩⟩
 obtain ⟨ds,hd,hf⟩:=zD hf
 refine k E hd fun vs G1 H1 x1 r1=>?_
 match ds,hf with
 | [.dic ks xs],hf=>
  obtain ⟨ns,hn,hf⟩:=zD hf
  by_cases c:ns.length<64
  ·rw [if_pos c] at hf
   cases hf
   obtain ⟨v,rfl,a,us,rfl,sq,hl,rs,l⟩:=ux r1
   refine ⟨a,ks.zip us,ns,rfl,Rd.mono x1.gh sq,?_,c,fun p' hp'=>?_⟩
   ·rw [<- J1 hn]
    exact List.map_fst_zip (by omega)
   ·refine q p' _ _ (x1.trans (zL.layO x1.gh hp')) (x1.h.free hp') (x1.gh.free hp') ⟨_,yk,Reps.ints,?_⟩
    rw [List.length_map,(isort_perm ns).length_eq,sizeLine_eq]
    show _<=16777216
    omega
  ·rw [if_neg c] at hf
   cases hf
end L3
namespace L2
open PySem PySem.Spec PyProof PyProof.Rows
end L2
namespace L3
open PySem PySem.Spec PyProof.Rows L2
end L3
namespace L3
open PySem PySem.Spec PyProof.Rows L2
section
variable {α:Type} {P:List α->Prop}
theorem O9 (h:P []):∀ us:List α,us.length=0->P us
 | [],_=>h
theorem kf {n:Nat} (h:∀ a (r:List α),r.length=n->P (a::r)):∀ us:List α,us.length=n+1->P us
 | a::r,e=>h a r (Nat.succ.inj e)
theorem qq (h:∀ a,P [a]):∀ us:List α,us.length=1->P us:=kf fun a=>O9 (P:=fun r=>P (a::r)) (h a)
theorem T2 (h:∀ a b,P [a,b]):∀ us:List α,us.length=2->P us:=kf fun a=>qq (P:=fun r=>P (a::r)) (h a)
theorem YH (h:∀ a b c,P [a,b,c]):∀ us:List α,us.length=3->P us:=kf fun a=>T2 (P:=fun r=>P (a::r)) (h a)
theorem T3 (h:∀ a b c d,P [a,b,c,d]):∀ us:List α,us.length=4->P us:=kf fun a=>YH (P:=fun r=>P (a::r)) (h a)
theorem Kk (h:∀ a b c d e,P [a,b,c,d,e]):∀ us:List α,us.length=5->P us:=kf fun a=>T3 (P:=fun r=>P (a::r)) (h a)
end
noncomputable abbrev vk (x:Str) (st:Stmt) (oc:Value) (od:Option Addr) (sl:Array (Option Value)) (kV dc pm:Value) (an:Option Addr) (cd ct:Value):Option Obj:=some ⟨oc,od,.func (PySem.W.fnOf x x (yc st) (zz st) (zH st) .none kV dc pm an cd ct),sl⟩
end L3
namespace L3
open PySem PySem.Spec PyProof.Rows L2
end L3
namespace L3
open PySem PySem.Spec PyProof PyProof.Rows L2
end L3
namespace L3
open PySem PySem.Spec PyProof PyProof.Rows L2
end L3
namespace L2
open PySem PySem.Spec PyProof PyProof.Rows
theorem J4:∀ {kvs:List (zM×V)} {vs:List (zM×Value)},KV kvs vs->vs.length=kvs.length
 | _,_,.nil=>rfl
 | _,_,.cons _ t=>by rw [List.length_cons,List.length_cons,J4 t]
end L2
namespace L3
open PySem PySem.Spec PyProof PyProof.Rows L2
end L3
namespace L2
open PySem PySem.Spec PyProof PyProof.Rows
end L2
namespace L3
open PySem PySem.Spec PyProof PyProof.Rows L2
end L3
namespace L2
open PySem PySem.Spec PyProof PyProof.Rows
end L2
namespace L3
open PySem PySem.Spec PyProof PyProof.Rows L2
end L3
namespace L2
open PySem PySem.Spec PyProof PyProof.Rows
end L2
namespace L3
open PySem PySem.Spec PyProof PyProof.Rows L2
end L3
namespace L2
open PySem PySem.Spec PyProof PyProof.Rows
end L2
namespace L2
open PySem PySem.Spec PyProof PyProof.Rows
end L2
namespace L3
open PySem PySem.Spec PyProof PyProof.Rows L2
end L3
namespace L2
open PySem PySem.Spec PyProof PyProof.Rows
end L2
namespace L3
open PySem PySem.Spec PyProof PyProof.Rows L2
end L3
namespace L2
open PySem PySem.Spec PyProof PyProof.Rows
end L2
namespace L3
open PySem PySem.Spec PyProof PyProof.Rows L2
end L3
namespace L2
open PySem PySem.Spec PyProof PyProof.Rows
end L2
namespace L3
open PySem PySem.Spec PyProof PyProof.Rows L2
end L3
namespace L2
open PySem PySem.Spec PyProof PyProof.Rows
end L2
namespace L3
open PySem PySem.Spec PyProof PyProof.Rows L2
noncomputable def gk:List D->Option (List Int)
 | []=>some []
 | .int i::r=>(gk r).bind fun is=>some (i::is)
 | _::_=>none
theorem Qt {K:PySem.W.Frag} {G:Hp}:∀ {xs:List D} {ns:List Int} {vs:List V},gk xs=some ns->Reps K G xs vs->vs=ns.map V.int
 | [],ns,vs,h,r=>by
  cases h
  exact (show vs=[] from r)
 | .int i::xs,ns,vs,h,r=>by
  obtain ⟨is,h1,h⟩:=zD (show (gk xs).bind _=_ from h)
  cases h
  obtain ⟨v,r',rfl,hv,hr⟩:=r
  cases (show v=.int i from hv)
  rw [Qt h1 hr]
  rfl
 | .non::_,_,_,h,_=>by cases h
 | .bl _::_,_,_,h,_=>by cases h
 | .str _::_,_,_,h,_=>by cases h
 | .tup _::_,_,_,h,_=>by cases h
 | .lst _::_,_,_,h,_=>by cases h
 | .dic _ _::_,_,_,h,_=>by cases h
 | .exc _::_,_,_,h,_=>by cases h
 | .obj _ _ _::_,_,_,h,_=>by cases h
noncomputable def Wn:List D->Option D
 | [.dic ks _]=>some (.int ks.length)
 | _=>none
theorem LO {X:Cx}:xX X (.builtin "len") (fun xs H Q=>∃ a kvs,xs=[V.ref a]/\Rd H a (.dK kvs)/\Q (.int kvs.length) H):=by
 intro pins s σ H xs us Q I r h
 obtain ⟨a,kvs,rfl,ha,q⟩:=h
 obtain ⟨u,rfl,ru⟩:=vy r
 cases ru
 exact Ln I ha fun t s' I'=>⟨.int kvs.length,H,I',⟨t,rfl⟩,q⟩
theorem Fm {K:PySem.W.Frag}:gQ K (fun xs H Q=>∃ a kvs,xs=[V.ref a]/\Rd H a (.dK kvs)/\Q (.int kvs.length) H) Wn:=fun G H ds vs d Q s r hf q=>by
 match ds,hf with
 | [.dic ks xs],hf=>
  cases hf
  obtain ⟨v,r',rfl,hv,hr⟩:=r
  cases (show r'=[] from hr)
  obtain ⟨a,vs,rfl,sq,hl,rs,_⟩:=hv
  refine ⟨a,_,rfl,sq,?_⟩
  rw [List.length_zip,<- hl,Nat.min_self]
  exact q _ _ _ (zL.refl s) rfl
end L3
namespace L3
open PySem PySem.Spec PyProof PyProof.Rows L2
end L3
namespace L2
open PySem PySem.Spec PyProof PyProof.Rows
end L2
namespace L3
open PySem PySem.Spec PyProof PyProof.Rows L2
end L3
namespace L2
open PySem PySem.Spec PyProof PyProof.Rows
open Builtin Builtin.Str
end L2
namespace L3
open PySem PySem.Spec PyProof PyProof.Rows L2
end L3
namespace L2
open PySem PySem.Spec PyProof PyProof.Rows
end L2
namespace L3
open PySem PySem.Spec PyProof PyProof.Rows L2
end L3
namespace L2
open PySem PySem.Spec PyProof PyProof.Rows
end L2
namespace L3
open PySem PySem.Spec PyProof PyProof.Rows L2
end L3
namespace L3
open PySem PySem.Spec PyProof.Rows L2
inductive M where
 | fz (d:D) | own (d:D) | obj (x:Str) (fs:List Str) (ms:List M) | tab (ks:List (Sum Int Str)) (ms:List M)
mutual
noncomputable def xh:M->D
 | .fz d=>d
 | .own d=>d
 | .obj x fs ms=>.obj x fs (thaws ms)
 | .tab ks ms=>.dic ks (thaws ms)
noncomputable def thaws:List M->List D
 | []=>[]
 | m::ms=>xh m::thaws ms
end
noncomputable def getA {κ α:Type} [DecidableEq κ]:List κ->List α->κ->Option α
 | k'::ks,v::vs,k=>if k'=k then some v else getA ks vs k
 | _,_,_=>none
noncomputable def xc {κ α:Type} [DecidableEq κ]:List κ->List α->κ->α->List α
 | k'::ks,v::vs,k,y=>if k'=k then y::vs else v::xc ks vs k y
 | _,vs,_,_=>vs
inductive yY where
 | at (cs:List Str) (f:Str) | ky (k:Sum Int Str)
noncomputable def Iv:M->yY->Option M
 | .obj x fs ms,.at cs f=>if x∈cs then getA fs ms f else none
 | .tab ks ms,.ky k=>getA ks ms k
 | _,_=>none
noncomputable def HF:M->yY->M->M
 | .obj x fs ms,.at _ f,m=>.obj x fs (xc fs ms f m)
 | .tab ks ms,.ky k,m=>.tab ks (xc ks ms k m)
 | m,_,_=>m
noncomputable def vJ:M->List yY->Option M
 | m,[]=>some m
 | m,s::π=>(Iv m s).bind fun m1=>vJ m1 π
noncomputable def vE:M->List yY->M->Option M
 | _,[],m'=>some m'
 | m,s::π,m'=>(Iv m s).bind fun m1=>(vE m1 π m').bind fun m2=>some (HF m s m2)
noncomputable abbrev Ft:=Addr->Prop
mutual
noncomputable def yF (K:PySem.W.Frag) (G H:Hp):M->V->Ft->Prop
 | .fz d,v,L=>zK K G d v/\∀ q,¬ L q
 | .own d,v,L=>∃ p,v=.ref p/\xT K G H d p/\∀ q,L q↔q=p
 | .obj x fs ms,v,L=>∃ p C dx vs L',v=.ref p/\PySem.W.nsIn K mainGlobals x=some (some (.ref C))/\H p=some (.ins C dx (fs.zip vs))/\fs.length=vs.length/\OwnMs K G H ms vs L'/\¬ L' p/\∀ q,L q↔q=p\/L' q
 | .tab ks ms,v,L=>∃ p vs L',v=.ref p/\H p=some (.dK (ks.zip vs))/\ks.length=vs.length/\OwnMs K G H ms vs L'/\ms.length<=sizeLine/\¬ L' p/\∀ q,L q↔q=p\/L' q
noncomputable def OwnMs (K:PySem.W.Frag) (G H:Hp):List M->List V->Ft->Prop
 | [],vs,L=>vs=[]/\∀ q,¬ L q
 | m::ms,vs,L=>∃ v r L1 L2,vs=v::r/\yF K G H m v L1/\OwnMs K G H ms r L2/\(∀ q,L1 q->L2 q->False)/\∀ q,L q↔L1 q\/L2 q
end
theorem M.ind {P:M->Prop} (fz:∀ d,P (.fz d)) (own:∀ d,P (.own d)) (obj:∀ x fs ms,(∀ m∈ms,P m)->P (.obj x fs ms)) (tab:∀ ks ms,(∀ m∈ms,P m)->P (.tab ks ms)) (m:M):P m:=
 M.rec (motive_1:=P) (motive_2:=fun ms=>∀ m∈ms,P m) fz own (fun x fs ms h=>obj x fs ms h) (fun ks ms h=>tab ks ms h) (fun _ h=>absurd h (by simp))
  (fun d ds hd hds e he=>by
   rcases List.mem_cons.mp he with z | z
   ·exact z ▸ hd
   ·exact hds e z) m
noncomputable def Tt:HO->Bool
 | .lst _=>true
 | .dK _=>true
 | .ins _ _ _=>true
 | _=>false
noncomputable def Bx (H:Hp) (q:Addr):Prop:=∃ u,H q=some u/\Tt u=true
theorem Bx.some {H:Hp} {q:Addr} (b:Bx H q):H q≠none:=by
 obtain ⟨u,e,_⟩:=b
 rw [e]
 exact fun z=>nomatch z
section
variable {K:PySem.W.Frag} {G H G' H':Hp}
theorem xT.loc {d:D} {p:Addr} (g:zf G G') (h:H' p=H p) (o:xT K G H d p):xT K G' H' d p:=by
 cases d with
 | lst ds=>obtain ⟨vs,e,r,l⟩:=o; exact ⟨vs,h.trans e,r.mono g,l⟩
 | dic ks ds=>obtain ⟨vs,e,z,r,l⟩:=o; exact ⟨vs,h.trans e,z,r.mono g,l⟩
 | _=>exact o.elim
theorem OwnMs.imp:∀ {ms:List M} {vs:List V} {L:Ft},(∀ m∈ms,∀ v L1,(∀ q,L1 q->L q)->yF K G H m v L1->yF K G' H' m v L1)->OwnMs K G H ms vs L->OwnMs K G' H' ms vs L
 | [],_,_,_,h=>h
 | m::ms,vs,L,f,h=>by
  obtain ⟨v,r,L1,L2,e,hv,hr,dj,u⟩:=h
  exact ⟨v,r,L1,L2,e,f m List.mem_cons_self v L1 (fun q z=>(u q).mpr (.inl z)) hv,OwnMs.imp (fun m' h' v' L' s o=>f m' (List.mem_cons_of_mem _ h') v' L' (fun q z=>(u q).mpr (.inr (s q z))) o) hr,dj,u⟩
theorem yF.loc (g:zf G G') (m:M):∀ (v:V) (L:Ft),(∀ q,L q->H' q=H q)->yF K G H m v L->yF K G' H' m v L:=by
 refine M.ind (P:=fun m=>∀ v L,(∀ q,L q->H' q=H q)->yF K G H m v L->yF K G' H' m v L) ?_ ?_ ?_ ?_ m
 ·rintro d v L h ⟨r,n⟩
  exact ⟨r.mono g,n⟩
 ·rintro d v L h ⟨p,e,o,u⟩
  exact ⟨p,e,o.loc g (h p ((u p).mpr rfl)),u⟩
 ·rintro x fs ms ih v L h ⟨p,C,dx,vs,L',e,ns,hp,l,r,n,u⟩
  exact ⟨p,C,dx,vs,L',e,ns,(h p ((u p).mpr (.inl rfl))).trans hp,l,OwnMs.imp (fun m hm v' L1 s o=>ih m hm v' L1 (fun q z=>h q ((u q).mpr (.inr (s q z)))) o) r,n,u⟩
 ·rintro ks ms ih v L h ⟨p,vs,L',e,hp,l,r,l2,n,u⟩
  exact ⟨p,vs,L',e,(h p ((u p).mpr (.inl rfl))).trans hp,l,OwnMs.imp (fun m hm v' L1 s o=>ih m hm v' L1 (fun q z=>h q ((u q).mpr (.inr (s q z)))) o) r,l2,n,u⟩
theorem OwnMs.length:∀ {ms:List M} {vs:List V} {L:Ft},OwnMs K G H ms vs L->vs.length=ms.length
 | [],_,_,h=>by obtain ⟨rfl,_⟩:=h; rfl
 | m::ms,_,_,h=>by
  obtain ⟨v,r,L1,L2,rfl,_,hr,_⟩:=h
  rw [List.length_cons,List.length_cons,OwnMs.length hr]
theorem xT.bx {d:D} {p:Addr} (o:xT K G H d p):Bx H p:=by
 cases d with
 | lst ds=>obtain ⟨vs,e,_⟩:=o; exact ⟨_,e,rfl⟩
 | dic ks ds=>obtain ⟨vs,e,_⟩:=o; exact ⟨_,e,rfl⟩
 | _=>exact o.elim
theorem OwnMs.cells:∀ {ms:List M} {vs:List V} {L:Ft},(∀ m∈ms,∀ v L1,yF K G H m v L1->∀ q,L1 q->Bx H q)->OwnMs K G H ms vs L->∀ q,L q->Bx H q
 | [],_,_,_,h,q,z=>absurd z (h.2 q)
 | m::ms,vs,L,f,h,q,z=>by
  obtain ⟨v,r,L1,L2,e,hv,hr,dj,u⟩:=h
  rcases (u q).mp z with z | z
  ·exact f m List.mem_cons_self v L1 hv q z
  ·exact OwnMs.cells (fun m' h'=>f m' (List.mem_cons_of_mem _ h')) hr q z
theorem yF.cells (m:M):∀ (v:V) (L:Ft),yF K G H m v L->∀ q,L q->Bx H q:=by
 refine M.ind (P:=fun m=>∀ v L,yF K G H m v L->∀ q,L q->Bx H q) ?_ ?_ ?_ ?_ m
 ·rintro d v L ⟨r,n⟩ q z
  exact absurd z (n q)
 ·rintro d v L ⟨p,e,o,u⟩ q z
  cases (u q).mp z
  exact o.bx
 ·rintro x fs ms ih v L ⟨p,C,dx,vs,L',e,ns,hp,l,r,n,u⟩ q z
  rcases (u q).mp z with rfl | z
  ·exact ⟨_,hp,rfl⟩
  ·exact OwnMs.cells ih r q z
 ·rintro ks ms ih v L ⟨p,vs,L',e,hp,l,r,l2,n,u⟩ q z
  rcases (u q).mp z with rfl | z
  ·exact ⟨_,hp,rfl⟩
  ·exact OwnMs.cells ih r q z
theorem O2:∀ (ms:List M),(thaws ms).length=ms.length
 | []=>rfl
 | m::ms=>by
  show (thaws ms).length+1=_
  rw [O2 ms]
  rfl
theorem OwnMs.thw:∀ {ms:List M} {vs:List V} {L:Ft},(∀ m∈ms,∀ v L1,(∀ q,L1 q->L q)->yF K G H m v L1->zK K G' (xh m) v)->OwnMs K G H ms vs L->Reps K G' (thaws ms) vs
 | [],_,_,_,h=>h.1
 | m::ms,vs,L,f,h=>by
  obtain ⟨v,r,L1,L2,e,hv,hr,dj,u⟩:=h
  exact ⟨v,r,e,f m List.mem_cons_self v L1 (fun q z=>(u q).mpr (.inl z)) hv,OwnMs.thw (fun m' h' v' L' s o=>f m' (List.mem_cons_of_mem _ h') v' L' (fun q z=>(u q).mpr (.inr (s q z))) o) hr⟩
theorem yF.thw (g:zf G G') (m:M):∀ (v:V) (L:Ft),(∀ q,L q->G' q=H q)->yF K G H m v L->zK K G' (xh m) v:=by
 refine M.ind (P:=fun m=>∀ v L,(∀ q,L q->G' q=H q)->yF K G H m v L->zK K G' (xh m) v) ?_ ?_ ?_ ?_ m
 ·rintro d v L h ⟨r,n⟩
  exact r.mono g
 ·rintro d v L h ⟨p,rfl,o,u⟩
  have hp:=h p ((u p).mpr rfl)
  cases d with
  | lst ds=>obtain ⟨vs,e,r,l⟩:=o; exact ⟨p,vs,rfl,yC.of (hp.trans e),r.mono g,l⟩
  | dic ks ds=>obtain ⟨vs,e,z,r,l⟩:=o; exact ⟨p,vs,rfl,.inl (hp.trans e),z,r.mono g,l⟩
  | _=>exact o.elim
 ·rintro x fs ms ih v L h ⟨p,C,dx,vs,L',e,ns,hp,l,r,n,u⟩
  exact ⟨p,C,dx,vs,e,ns,(h p ((u p).mpr (.inl rfl))).trans hp,l,OwnMs.thw (fun m hm v' L1 s o=>ih m hm v' L1 (fun q z=>h q ((u q).mpr (.inr (s q z)))) o) r⟩
 ·rintro ks ms ih v L h ⟨p,vs,L',e,hp,l,r,l2,n,u⟩
  exact ⟨p,vs,e,.inl ((h p ((u p).mpr (.inl rfl))).trans hp),l,OwnMs.thw (fun m hm v' L1 s o=>ih m hm v' L1 (fun q z=>h q ((u q).mpr (.inr (s q z)))) o) r,by rw [O2]; exact l2⟩
theorem OwnMs.focus {κ:Type} [DecidableEq κ] {k:κ} {m1:M}:∀ {ks:List κ} {ms:List M} {vs:List V} {L:Ft},OwnMs K G H ms vs L->getA ks ms k=some m1->
  ∃ v1 L1,getA ks vs k=some v1/\yF K G H m1 v1 L1/\(∀ q,L1 q->L q)/\∀ {G' H':Hp} {m2:M} {L2:Ft},zf G G'->(∀ q,L q->¬ L1 q->H' q=H q)->yF K G' H' m2 v1 L2->(∀ q,L2 q->L q->L1 q)->OwnMs K G' H' (xc ks ms k m2) vs (fun q=>(L q/\¬ L1 q)\/L2 q)
 | [],_,_,_,_,e=>by cases e
 | _::_,[],_,_,_,e=>by cases e
 | k'::ks,m::ms,vs,L,h,e=>by
  obtain ⟨v,r,La,Lb,rfl,hv,hr,dj,u⟩:=h
  unfold getA at e
  by_cases c:k'=k
  ·rw [if_pos c] at e
   cases e
   refine ⟨v,La,by unfold getA; rw [if_pos c],hv,fun q z=>(u q).mpr (.inl z),fun {G' H' m2 L2} g hk o2 hd=>?_⟩
   unfold xc
   rw [if_pos c]
   refine ⟨v,r,L2,Lb,rfl,o2,?_,fun q z1 z2=>dj q (hd q z1 ((u q).mpr (.inr z2))) z2,fun q=>?_⟩
   ·exact OwnMs.imp (fun m' _ v' L' s o=>o.loc g m' v' L' fun q z=>hk q ((u q).mpr (.inr (s q z))) fun w=>dj q w (s q z)) hr
   ·constructor
    ·rintro (⟨z,w⟩ | z)
     ·rcases (u q).mp z with z | z
      ·exact absurd z w
      ·exact .inr z
     ·exact .inl z
    ·rintro (z | z)
     ·exact .inr z
     ·exact .inl ⟨(u q).mpr (.inr z),fun w=>dj q w z⟩
  ·rw [if_neg c] at e
   obtain ⟨v1,L1,e1,o1,s1,f⟩:=OwnMs.focus hr e
   refine ⟨v1,L1,by unfold getA; rw [if_neg c]; exact e1,o1,fun q z=>(u q).mpr (.inr (s1 q z)),fun {G' H' m2 L2} g hk o2 hd=>?_⟩
   unfold xc
   rw [if_neg c]
   refine ⟨v,r,La,fun q=>(Lb q/\¬ L1 q)\/L2 q,rfl,?_,f g (fun q z w=>hk q ((u q).mpr (.inr z)) w) o2 (fun q z w=>hd q z ((u q).mpr (.inr w))),fun q z1 z2=>?_,fun q=>?_⟩
   ·exact hv.loc g m v La fun q z=>hk q ((u q).mpr (.inl z)) fun w=>dj q z (s1 q w)
   ·rcases z2 with ⟨z2,_⟩ | z2
    ·exact dj q z1 z2
    ·exact dj q z1 (s1 q (hd q z2 ((u q).mpr (.inl z1))))
   ·constructor
    ·rintro (⟨z,w⟩ | z)
     ·rcases (u q).mp z with z | z
      ·exact .inl z
      ·exact .inr (.inl ⟨z,w⟩)
     ·exact .inr (.inr z)
    ·rintro (z | ⟨z,w⟩ | z)
     ·exact .inl ⟨(u q).mpr (.inl z),fun w=>dj q z (s1 q w)⟩
     ·exact .inl ⟨(u q).mpr (.inr z),w⟩
     ·exact .inr z
end
noncomputable def yz (K:PySem.W.Frag) (H:Hp):V->List yY->V->Prop
 | v,[],u=>u=v
 | v,.at cs f::π,u=>∃ p x C dx fs w,v=.ref p/\x∈cs/\PySem.W.nsIn K mainGlobals x=some (some (.ref C))/\H p=some (.ins C dx fs)/\fs.lookup f=some w/\yz K H w π u
 | v,.ky k::π,u=>∃ p kvs w,v=.ref p/\H p=some (.dK kvs)/\we kvs k=some w/\yz K H w π u
theorem Zg {κ α:Type} [DecidableEq κ] [BEq κ] [LawfulBEq κ] {k:κ}:∀ {ks:List κ} {vs:List α},(ks.zip vs).lookup k=getA ks vs k
 | [],_=>rfl
 | _::_,[]=>rfl
 | k'::ks,v::vs=>by
  rw [List.zip_cons_cons,List.lookup_cons]
  unfold getA
  by_cases c:k'=k
  ·subst c
   rw [if_pos rfl]
   simp
  ·rw [if_neg c]
   have:(k == k')=false:=by simpa using fun z=>c z.symm
   rw [this]
   exact Zg
theorem Qa {α:Type} {k:Sum Int Str}:∀ {ks:List (Sum Int Str)} {vs:List α},getA ks vs k=getK ks vs k
 | [],_=>by unfold getA getK; rfl
 | _::_,[]=>by unfold getA getK; rfl
 | k'::ks,v::vs=>by
  unfold getA getK
  by_cases c:k'=k
  ·rw [if_pos c,if_pos c]
  ·rw [if_neg c,if_neg c]
   exact Qa
section
variable {K:PySem.W.Frag} {G H G' H':Hp}
theorem yz.mono (s:zf H H'):∀ {π:List yY} {v u:V},yz K H v π u->yz K H' v π u
 | [],_,_,h=>h
 | .at cs f::π,_,_,h=>by
  obtain ⟨p,x,C,dx,fs,w,e,hx,ns,hp,l,r⟩:=h
  exact ⟨p,x,C,dx,fs,w,e,hx,ns,s _ _ hp,l,yz.mono s r⟩
 | .ky k::π,_,_,h=>by
  obtain ⟨p,kvs,w,e,hp,l,r⟩:=h
  exact ⟨p,kvs,w,e,s _ _ hp,l,yz.mono s r⟩
theorem yz.one:∀ {π:List yY} {v u u':V},yz K H v π u->yz K H v π u'->u=u'
 | [],_,_,_,h,h'=>h.trans h'.symm
 | .at cs f::π,_,_,_,h,h'=>by
  obtain ⟨p,x,C,dx,fs,w,rfl,hx,ns,hp,l,r⟩:=h
  obtain ⟨p',x',C',dx',fs',w',e',hx',ns',hp',l',r'⟩:=h'
  cases e'
  rw [hp] at hp'
  cases hp'
  rw [l] at l'
  cases l'
  exact yz.one r r'
 | .ky k::π,_,_,_,h,h'=>by
  obtain ⟨p,kvs,w,rfl,hp,l,r⟩:=h
  obtain ⟨p',kvs',w',e',hp',l',r'⟩:=h'
  cases e'
  rw [hp] at hp'
  cases hp'
  rw [l] at l'
  cases l'
  exact yz.one r r'
theorem yz.snoc:∀ {π:List yY} {s:yY} {v u:V},yz K H v (π++[s]) u->∃ w,yz K H v π w/\yz K H w [s] u
 | [],_,v,_,h=>⟨v,rfl,h⟩
 | .at cs f::π,_,_,_,h=>by
  obtain ⟨p,x,C,dx,fs,w,e,hx,ns,hp,l,r⟩:=h
  obtain ⟨w',r1,r2⟩:=yz.snoc r
  exact ⟨w',⟨p,x,C,dx,fs,w,e,hx,ns,hp,l,r1⟩,r2⟩
 | .ky k::π,_,_,_,h=>by
  obtain ⟨p,kvs,w,e,hp,l,r⟩:=h
  obtain ⟨w',r1,r2⟩:=yz.snoc r
  exact ⟨w',⟨p,kvs,w,e,hp,l,r1⟩,r2⟩
theorem yF.focus {m1:M}:∀ {π:List yY} {m:M} {v:V} {L:Ft},yF K G H m v L->vJ m π=some m1->
  ∃ v1 L1,yz K H v π v1/\yF K G H m1 v1 L1/\(∀ q,L1 q->L q)/\∀ {G' H':Hp} {m2:M} {L2:Ft},zf G G'->(∀ q,L q->¬ L1 q->H' q=H q)->yF K G' H' m2 v1 L2->(∀ q,L2 q->L q->L1 q)->
   ∃ m',vE m π m2=some m'/\yF K G' H' m' v (fun q=>(L q/\¬ L1 q)\/L2 q)
 | [],m,v,L,h,e=>by
  cases e
  refine ⟨v,L,rfl,h,fun _ z=>z,fun {G' H' m2 L2} g hk o2 hd=>⟨m2,rfl,?_⟩⟩
  have e:(fun q=>(L q/\¬ L q)\/L2 q)=L2:=by
   funext q
   exact propext ⟨fun z=>z.elim (fun w=>absurd w.1 w.2) id,.inr⟩
  rw [e]
  exact o2
 | s::π,m,v,L,h,e=>by
  obtain ⟨ma,ea,ee⟩:=zD e
  have fin:∀ {p:Addr} {L' L1 L2:Ft},¬ L' p->(∀ q,L q↔q=p\/L' q)->(∀ q,L1 q->L' q)->(∀ q,L2 q->L q->L1 q)->(¬ ((L' p/\¬ L1 p)\/L2 p))/\∀ q,((L q/\¬ L1 q)\/L2 q)↔q=p\/((L' q/\¬ L1 q)\/L2 q):=fun {p L' L1 L2} n u s hd=>by
   refine ⟨?_,fun q=>⟨?_,?_⟩⟩
   ·rintro (⟨z,_⟩ | z)
    ·exact n z
    ·exact n (s p (hd p z ((u p).mpr (.inl rfl))))
   ·rintro (⟨z,w⟩ | z)
    ·rcases (u q).mp z with z | z
     ·exact .inl z
     ·exact .inr (.inl ⟨z,w⟩)
    ·exact .inr (.inr z)
   ·rintro (rfl | ⟨z,w⟩ | z)
    ·exact .inl ⟨(u q).mpr (.inl rfl),fun w=>n (s q w)⟩
    ·exact .inl ⟨(u q).mpr (.inr z),w⟩
    ·exact .inr z
  cases m with
  | fz d=>cases ea
  | own d=>cases ea
  | obj x fs ms=>
   cases s with
   | ky k=>cases ea
   | «at» cs f=>
    change (if x∈cs then getA fs ms f else none)=some ma at ea
    by_cases hx:x∈cs
    ·rw [if_pos hx] at ea
     obtain ⟨p,C,dx,vs,L',rfl,ns,hp,l,r,n,u⟩:=h
     obtain ⟨va,La,e1,o1,s1,f1⟩:=OwnMs.focus r ea
     obtain ⟨v1,L1,a1,oo,s2,f2⟩:=yF.focus o1 ee
     refine ⟨v1,L1,⟨p,x,C,dx,_,va,rfl,hx,ns,hp,by rw [Zg]; exact e1,a1⟩,oo,fun q z=>(u q).mpr (.inr (s1 q (s2 q z))),fun {G' H' m2 L2} g hk o2 hd=>?_⟩
     obtain ⟨m',e',o'⟩:=f2 g (fun q z w=>hk q ((u q).mpr (.inr (s1 q z))) w) o2 (fun q z w=>hd q z ((u q).mpr (.inr (s1 q w))))
     have o3:=f1 g (fun q z w=>hk q ((u q).mpr (.inr z)) fun w'=>w (s2 q w')) o' (fun q z w=>by
      rcases z with ⟨z,_⟩ | z
      ·exact z
      ·exact s2 q (hd q z ((u q).mpr (.inr w))))
     have eL:(fun q=>(L' q/\¬ La q)\/((La q/\¬ L1 q)\/L2 q))=(fun q=>(L' q/\¬ L1 q)\/L2 q):=by
      funext q
      refine propext ⟨?_,?_⟩
      ·rintro (⟨z,w⟩ | ⟨z,w⟩ | z)
       ·exact .inl ⟨z,fun w'=>w (s2 q w')⟩
       ·exact .inl ⟨s1 q z,w⟩
       ·exact .inr z
      ·rintro (⟨z,w⟩ | z)
       ·by_cases c:La q
        ·exact .inr (.inl ⟨c,w⟩)
        ·exact .inl ⟨z,c⟩
       ·exact .inr (.inr z)
     rw [eL] at o3
     obtain ⟨f3,f4⟩:=fin n u (fun q z=>s1 q (s2 q z)) hd
     refine ⟨.obj x fs (xc fs ms f m'),by show (Option.bind (if x∈cs then getA fs ms f else none) _)=_; rw [if_pos hx,ea]; show Option.bind (vE ma π m2) _=_; rw [e']; rfl,p,C,dx,vs,_,rfl,ns,?_,l,o3,f3,f4⟩
     rw [hk p ((u p).mpr (.inl rfl)) fun w=>n (s1 p (s2 p w))]
     exact hp
    ·rw [if_neg hx] at ea
     cases ea
  | tab ks ms=>
   cases s with
   | «at» cs f=>cases ea
   | ky k=>
    change getA ks ms k=some ma at ea
    obtain ⟨p,vs,L',rfl,hp,l,r,l2,n,u⟩:=h
    obtain ⟨va,La,e1,o1,s1,f1⟩:=OwnMs.focus r ea
    obtain ⟨v1,L1,a1,oo,s2,f2⟩:=yF.focus o1 ee
    refine ⟨v1,L1,⟨p,_,va,rfl,hp,by rw [pz _ l,<- Qa]; exact e1,a1⟩,oo,fun q z=>(u q).mpr (.inr (s1 q (s2 q z))),fun {G' H' m2 L2} g hk o2 hd=>?_⟩
    obtain ⟨m',e',o'⟩:=f2 g (fun q z w=>hk q ((u q).mpr (.inr (s1 q z))) w) o2 (fun q z w=>hd q z ((u q).mpr (.inr (s1 q w))))
    have o3:=f1 g (fun q z w=>hk q ((u q).mpr (.inr z)) fun w'=>w (s2 q w')) o' (fun q z w=>by
     rcases z with ⟨z,_⟩ | z
     ·exact z
     ·exact s2 q (hd q z ((u q).mpr (.inr w))))
    have eL:(fun q=>(L' q/\¬ La q)\/((La q/\¬ L1 q)\/L2 q))=(fun q=>(L' q/\¬ L1 q)\/L2 q):=by
     funext q
     refine propext ⟨?_,?_⟩
     ·rintro (⟨z,w⟩ | ⟨z,w⟩ | z)
      ·exact .inl ⟨z,fun w'=>w (s2 q w')⟩
      ·exact .inl ⟨s1 q z,w⟩
      ·exact .inr z
     ·rintro (⟨z,w⟩ | z)
      ·by_cases c:La q
       ·exact .inr (.inl ⟨c,w⟩)
       ·exact .inl ⟨z,c⟩
      ·exact .inr (.inr z)
    rw [eL] at o3
    obtain ⟨f3,f4⟩:=fin n u (fun q z=>s1 q (s2 q z)) hd
    refine ⟨.tab ks (xc ks ms k m'),by show (Option.bind (getA ks ms k) _)=_; rw [ea]; show Option.bind (vE ma π m2) _=_; rw [e']; rfl,p,vs,_,rfl,?_,l,o3,?_,f3,f4⟩
    ·rw [hk p ((u p).mpr (.inl rfl)) fun w=>n (s1 p (s2 p w))]
     exact hp
    ·have:∀ {ks:List (Sum Int Str)} {ms:List M},(xc ks ms k m').length=ms.length:=fun {ks}=>by
      induction ks with
      | nil=>intro ms; rfl
      | cons k' ks ih=>
       intro ms
       cases ms with
       | nil=>rfl
       | cons y ms=>
        unfold xc
        split
        ·rfl
        ·rw [List.length_cons,List.length_cons,ih]
     rw [this]
     exact l2
end
end L3
namespace L3
open PySem PySem.Spec PyProof.Rows L2
noncomputable abbrev zg:=List (Option M)
noncomputable def hide:M->Option Sl
 | .fz d=>some (false,d)
 | _=>none
noncomputable def uH (β:zg):zr:=β.map fun o=>o.bind hide
noncomputable def v3 (β:zg):zr:=β.map fun o=>o.map fun m=>(false,xh m)
mutual
noncomputable def xo:D->Bool
 | .non=>true
 | .bl _=>true
 | .int _=>true
 | .str _=>true
 | .tup ds=>tplDs ds
 | _=>false
noncomputable def tplDs:List D->Bool
 | []=>true
 | d::ds=>xo d&&tplDs ds
end
noncomputable def gz:D->Bool
 | .lst ds=>tplDs ds
 | .dic _ ds=>tplDs ds
 | _=>false
structure TJ (K:PySem.W.Frag) (H0 G H:Hp) (β:zg) (σ:St) (Ls:Nat->Ft):Prop where
 at_:∀ (i:Nat) (m:M),β[i]?=some (some m)->∃ v,σ[i]?=some (some v)/\yF K G H m v (Ls i)
 dj:∀ (i j:Nat) (q:Addr),i≠j->Ls i q->Ls j q->False
 ok:∀ (i:Nat) (q:Addr),Ls i q->G q=none/\H0 q=none/\Bx H q
structure zV (K:PySem.W.Frag) (n:Nat) (P:List V) (G0 H0 G H:Hp) (β:zg) (σ:St):Prop where
 ext:zL G0 H0 G H
 l1:σ.length=n
 l2:β.length=n
 lp:P.length<=n
 pin:∀ (i:Nat) (v:V),P[i]?=some v->σ[i]?=some (some v)
 own:∃ Ls,TJ K H0 G H β σ Ls
section
variable {K:PySem.W.Frag} {n:Nat} {P:List V} {G0 H0 G H G' H':Hp} {β:zg} {σ:St}
theorem WQ {q:Addr} (x:zL G H G' H') (g:G q=none) (b:Bx H q):G' q=none/\Bx H' q:=by
 obtain ⟨u,e,c⟩:=b
 refine ⟨?_,u,x.h _ _ e,c⟩
 cases z:G' q with
 | none=>rfl
 | some o=>
  rcases x.new q (by rw [z]; exact fun w=>nomatch w) with w | w
  ·exact absurd g w
  ·rw [e] at w; cases w
theorem zV.go (E:zV K n P G0 H0 G H β σ) (x:zL G H G' H'):zV K n P G0 H0 G' H' β σ:=by
 obtain ⟨Ls,F⟩:=E.own
 refine ⟨E.ext.trans x,E.l1,E.l2,E.lp,E.pin,Ls,fun i m h=>?_,F.dj,fun i q z=>?_⟩
 ·obtain ⟨v,e,o⟩:=F.at_ i m h
  refine ⟨v,e,o.loc x.g m v _ fun q z=>?_⟩
  obtain ⟨u,hu,_⟩:=(F.ok i q z).2.2
  rw [hu]
  exact x.h _ _ hu
 ·obtain ⟨a,b,c⟩:=F.ok i q z
  obtain ⟨a',c'⟩:=WQ x a c
  exact ⟨a',b,c'⟩
theorem BP {i:Nat} {b:Bool} {d:D} (h:(uH β)[i]?=some (some (b,d))):b=false/\β[i]?=some (some (.fz d)):=by
 unfold uH at h
 rw [List.getElem?_map] at h
 cases e:β[i]? with
 | none=>rw [e] at h; cases h
 | some o=>
  rw [e] at h
  cases o with
  | none=>cases h
  | some m=>
   cases m with
   | fz d'=>cases h; exact ⟨rfl,rfl⟩
   | _=>cases h
theorem KJ {i:Nat} {b:Bool} {d:D} (h:(v3 β)[i]?=some (some (b,d))):b=false/\∃ m,β[i]?=some (some m)/\d=xh m:=by
 unfold v3 at h
 rw [List.getElem?_map] at h
 cases e:β[i]? with
 | none=>rw [e] at h; cases h
 | some o=>
  rw [e] at h
  cases o with
  | none=>cases h
  | some m=>cases h; exact ⟨rfl,m,rfl,rfl⟩
theorem QK {τ:zr} (s:zf G H) (l1:σ.length=n) (l2:τ.length=n) (h:∀ (i:Nat) (b:Bool) (d:D),τ[i]?=some (some (b,d))->b=false/\∃ v,σ[i]?=some (some v)/\zK K G d v):zk K n G H G H τ σ:=
 ⟨zL.refl s,l1,l2,fun i d e=>(h i false d e).2,fun i d e=>(by cases (h i true d e).1),fun i j d e p _ h1=>(by cases (h i true d h1).1)⟩
theorem zV.hid (E:zV K n P G0 H0 G H β σ):zk K n G H G H (uH β) σ:=by
 obtain ⟨Ls,F⟩:=E.own
 refine QK E.ext.gh E.l1 (by unfold uH; rw [List.length_map]; exact E.l2) fun i b d h=>?_
 obtain ⟨rfl,hm⟩:=BP h
 obtain ⟨v,e,r,_⟩:=F.at_ i _ hm
 exact ⟨rfl,v,e,r⟩
theorem Li {G1 G2:Hp} {L:Ft} (h1:∀ q,¬ L q->G2 q=G1 q) (hb:∀ q,L q->Bx G1 q) {a:Addr} {vs:List V} (h:yM K G1 a vs):yM K G2 a vs:=by
 have k:∀ {u:HO},Tt u=false->G1 a=some u->G2 a=some u:=fun {u} hu e=>by
  rw [h1 a fun z=>?_]
  ·exact e
  ·obtain ⟨w,ew,cw⟩:=hb a z
   rw [e] at ew
   cases ew
   rw [hu] at cw
   cases cw
 rcases h with h | h
 ·rcases h with h | ⟨o,h⟩
  ·exact .inl (.inl (k rfl h))
  ·exact .inl (.inr ⟨o,k rfl h⟩)
 ·exact .inr h
theorem Q5 {G1 G2:Hp} {L:Ft} (h1:∀ q,¬ L q->G2 q=G1 q) (hb:∀ q,L q->Bx G1 q) (d:D):∀ (v:V),xo d=true->zK K G1 d v->zK K G2 d v:=by
 refine D.ind (P:=fun d=>∀ v,xo d=true->zK K G1 d v->zK K G2 d v) (fun v _ h=>h) (fun b v _ h=>h) (fun i v _ h=>h) (fun x v _ h=>h) ?_ (fun xs ih v t=>by cases t) (fun ks xs ih v t=>by cases t) (fun x v t=>by cases t) (fun x fs xs ih v t=>by cases t) d
 rintro xs ih v t ⟨a,vs,e,q,r,l⟩
 refine ⟨a,vs,e,Li h1 hb q,?_,l⟩
 have t':tplDs xs=true:=t
 clear t q l
 induction xs generalizing vs with
 | nil=>exact r
 | cons x xs ih2=>
  obtain ⟨u,r',rfl,hu,hr⟩:=r
  have t2:(xo x&&tplDs xs)=true:=t'
  rw [Bool.and_eq_true] at t2
  exact ⟨u,r',rfl,ih x List.mem_cons_self u t2.1 hu,ih2 (fun d hd=>ih d (List.mem_cons_of_mem _ hd)) r' hr t2.2⟩
theorem Q6 {G1 G2:Hp} {L:Ft} (h1:∀ q,¬ L q->G2 q=G1 q) (hb:∀ q,L q->Bx G1 q):∀ {ds:List D} {vs:List V},tplDs ds=true->Reps K G1 ds vs->Reps K G2 ds vs
 | [],_,_,r=>r
 | d::ds,_,t,r=>by
  obtain ⟨u,r',rfl,hu,hr⟩:=r
  have t2:(xo d&&tplDs ds)=true:=t
  rw [Bool.and_eq_true] at t2
  exact ⟨u,r',rfl,Q5 h1 hb d u t2.1 hu,Q6 h1 hb t2.2 hr⟩
theorem zV.thw (E:zV K n P G0 H0 G H β σ):∃ G1,zk K n G1 H G1 H (v3 β) σ/\∀ G2 H2,zL G1 H G2 H2->∃ G3,zL G H G3 H2/\zV K n P G0 H0 G3 H2 β σ/\(∀ d v,xo d=true->zK K G2 d v->zK K G3 d v)/\(∀ ds vs,tplDs ds=true->Reps K G2 ds vs->Reps K G3 ds vs)/\∀ q,G2 q=none->G3 q=none:=by
 classical
 obtain ⟨Ls,F⟩:=E.own
 let L:Ft:=fun q=>∃ i,Ls i q
 have gG:∀ q,L q->G q=none:=fun q ⟨i,z⟩=>(F.ok i q z).1
 have bH:∀ q,L q->Bx H q:=fun q ⟨i,z⟩=>(F.ok i q z).2.2
 let G1:Hp:=fun q=>if L q then H q else G q
 have e1:∀ q,L q->G1 q=H q:=fun q z=>if_pos z
 have e2:∀ q,¬ L q->G1 q=G q:=fun q z=>if_neg z
 have s1:zf G G1:=fun q o e=>by
  rw [e2 q fun z=>by rw [gG q z] at e; cases e]
  exact e
 have s2:zf G1 H:=fun q o e=>by
  by_cases c:L q
  ·rw [e1 q c] at e; exact e
  ·rw [e2 q c] at e; exact E.ext.gh _ _ e
 refine ⟨G1,QK s2 E.l1 (by unfold v3; rw [List.length_map]; exact E.l2) fun i b d h=>?_,fun G2 H2 x=>?_⟩
 ·obtain ⟨rfl,m,hm,rfl⟩:=KJ h
  obtain ⟨v,e,o⟩:=F.at_ i m hm
  exact ⟨rfl,v,e,o.thw s1 m v _ fun q z=>e1 q ⟨i,z⟩⟩
 ·let G3:Hp:=fun q=>if L q then none else G2 q
  have e3:∀ q,¬ L q->G3 q=G2 q:=fun q z=>if_neg z
  have e4:∀ q,L q->G3 q=none:=fun q z=>if_pos z
  have b2:∀ q,L q->Bx G2 q:=fun q z=>by
   obtain ⟨u,hu,c⟩:=bH q z
   exact ⟨u,x.g _ _ ((e1 q z).trans hu),c⟩
  have X3:zL G H G3 H2:=by
   refine ⟨fun q o e=>?_,x.h,fun q o e=>?_,fun q z=>?_⟩
   ·have c:¬ L q:=fun z=>by rw [gG q z] at e; cases e
    rw [e3 q c]
    exact x.g _ _ (s1 _ _ e)
   ·by_cases c:L q
    ·rw [e4 q c] at e; cases e
    ·rw [e3 q c] at e; exact x.gh _ _ e
   ·by_cases c:L q
    ·rw [e4 q c] at z; exact absurd rfl z
    ·rw [e3 q c] at z
     rcases x.new q z with w | w
     ·rw [e2 q c] at w; exact .inl w
     ·exact .inr w
  refine ⟨G3,X3,E.go X3,fun d v t r=>Q5 e3 b2 d v t r,fun ds vs t r=>Q6 e3 b2 t r,fun q z=>?_⟩
  by_cases c:L q
  ·exact e4 q c
  ·rw [e3 q c]; exact z
theorem kU {α:Type} {xs:List α} {x y:α} {i:Nat} (h:(xs++[x])[i]?=some y):(i<xs.length/\xs[i]?=some y)\/(i=xs.length/\y=x):=by
 rcases Nat.lt_or_ge i xs.length with c | c
 ·rw [List.getElem?_append_left c] at h
  exact .inl ⟨c,h⟩
 ·rw [List.getElem?_append_right c] at h
  cases z:i - xs.length with
  | zero=>
   rw [z] at h
   cases h
   exact .inr ⟨by omega,rfl⟩
  | succ k=>rw [z] at h; cases h
theorem wz {α:Type} {xs:List α} {x:α} {n:Nat} (h:xs.length=n):(xs++[x])[n]?=some x:=by
 subst h
 rw [List.getElem?_append_right (Nat.le_refl _),Nat.sub_self]
 rfl
theorem xg {α:Type} {xs:List α} {x:α} {i:Nat} (h:i<xs.length):(xs++[x])[i]?=xs[i]?:=List.getElem?_append_left h
theorem zV.push {m:M} {v:V} {L:Ft} (E:zV K n P G0 H0 G H β σ) (o:yF K G H m v L) (hL:∀ Ls,TJ K H0 G H β σ Ls->∀ i q,Ls i q->L q->False) (ok:∀ q,L q->G q=none/\H0 q=none/\Bx H q):zV K (n+1) P G0 H0 G H (β++[some m]) (σ++[some v]):=by
 obtain ⟨Ls,F⟩:=E.own
 have hd:=hL Ls F
 refine ⟨E.ext,by rw [List.length_append,E.l1]; rfl,by rw [List.length_append,E.l2]; rfl,by have:=E.lp; omega,fun i u h=>?_,fun j=>if j<n then Ls j else if j=n then L else fun _=>False,fun i m' h=>?_,fun i j q ne z1 z2=>?_,fun i q z=>?_⟩
 ·have hi:i<σ.length:=by
   rw [E.l1]
   exact Nat.lt_of_lt_of_le (List.getElem?_eq_some_iff.mp h).1 E.lp
  rw [xg hi]
  exact E.pin i u h
 ·rcases kU h with ⟨c,e⟩ | ⟨c,e⟩
  ·rw [E.l2] at c
   obtain ⟨u,eu,ou⟩:=F.at_ i m' e
   refine ⟨u,by rw [xg (by rw [E.l1]; exact c)]; exact eu,?_⟩
   simp only [if_pos c]
   exact ou
  ·cases e
   rw [E.l2] at c
   subst c
   refine ⟨v,wz E.l1,?_⟩
   simp only [Nat.lt_irrefl,if_false,if_true]
   exact o
 ·skip
  split at z1
  ·split at z2
   ·exact F.dj i j q ne z1 z2
   ·split at z2
    ·exact hd i q z1 z2
    ·exact z2
  ·split at z1
   ·split at z2
    ·exact hd j q z2 z1
    ·split at z2
     ·exact ne (by omega)
     ·exact z2
   ·exact z1
 ·skip
  split at z
  ·exact F.ok i q z
  ·split at z
   ·exact ok q z
   ·exact z.elim
theorem zV.pushF {d:D} {v:V} (E:zV K n P G0 H0 G H β σ) (r:zK K G d v):zV K (n+1) P G0 H0 G H (β++[some (.fz d)]) (σ++[some v]):=
 E.push (L:=fun _=>False) ⟨r,fun _ z=>z⟩ (fun _ _ _ _ _ z=>z) fun _ z=>z.elim
theorem zV.pushO {d:D} {p:Addr} (E:zV K n P G0 H0 G H β σ) (x:zL G H G' H') (hp:H p=none) (gp:G' p=none) (o:xT K G' H' d p):zV K (n+1) P G0 H0 G' H' (β++[some (.own d)]) (σ++[some (.ref p)]):=by
 obtain ⟨Ls,F⟩:=E.own
 have E':=E.go x
 refine ⟨?_,?_,?_,?_,?_,?_⟩<;>try first | exact E'.ext | exact (by rw [List.length_append,E.l1]; rfl) | exact (by rw [List.length_append,E.l2]; rfl)
 ·have:=E.lp; omega
 ·intro i u h
  have hi:i<σ.length:=by
   rw [E.l1]
   exact Nat.lt_of_lt_of_le (List.getElem?_eq_some_iff.mp h).1 E.lp
  rw [xg hi]
  exact E.pin i u h
 ·have hz:∀ i q,Ls i q->q≠p:=fun i q z c=>by
   subst c
   exact (F.ok i q z).2.2.some hp
  refine ⟨fun j=>if j<n then Ls j else if j=n then (fun q=>q=p) else fun _=>False,fun i m' h=>?_,fun i j q ne z1 z2=>?_,fun i q z=>?_⟩
  ·rcases kU h with ⟨c,e⟩ | ⟨c,e⟩
   ·rw [E.l2] at c
    obtain ⟨u,eu,ou⟩:=F.at_ i m' e
    refine ⟨u,by rw [xg (by rw [E.l1]; exact c)]; exact eu,?_⟩
    simp only [if_pos c]
    refine ou.loc x.g m' u _ fun q z=>?_
    obtain ⟨w,hw,_⟩:=(F.ok i q z).2.2
    rw [hw]
    exact x.h _ _ hw
   ·cases e
    rw [E.l2] at c
    subst c
    refine ⟨_,wz E.l1,?_⟩
    simp only [Nat.lt_irrefl,if_false,if_true]
    exact ⟨p,rfl,o,fun q=>Iff.rfl⟩
  ·skip
   split at z1
   ·split at z2
    ·exact F.dj i j q ne z1 z2
    ·split at z2
     ·exact hz i q z1 z2
     ·exact z2
   ·split at z1
    ·split at z2
     ·exact hz j q z2 z1
     ·split at z2
      ·exact ne (by omega)
      ·exact z2
    ·exact z1
  ·skip
   split at z
   ·obtain ⟨a,b,c⟩:=F.ok i q z
    obtain ⟨a',c'⟩:=WQ x a c
    exact ⟨a',b,c'⟩
   ·split at z
    ·subst z
     exact ⟨gp,E.ext.h.free hp,o.bx⟩
    ·exact z.elim
theorem zV.setL {m:M} {v:V} {i:Nat} (hi:i<n) (hP:P.length<=i) (hl1:σ.length=n) (hl2:β.length=n) (E:zV K (n+1) P G0 H0 G H (β++[some m]) (σ++[some v])):zV K n P G0 H0 G H (β.set i (some m)) (σ.set i (some v)):=by
 obtain ⟨Ls,F⟩:=E.own
 refine ⟨E.ext,by rw [List.length_set]; exact hl1,by rw [List.length_set]; exact hl2,by omega,fun j u h=>?_,fun j=>if j=i then Ls n else if j<n then Ls j else fun _=>False,fun j m' h=>?_,fun j k q ne z1 z2=>?_,fun j q z=>?_⟩
 ·have hj:j<P.length:=(List.getElem?_eq_some_iff.mp h).1
  rw [vl (by omega)]
  have:=E.pin j u h
  rw [xg (by omega)] at this
  exact this
 ·rcases wx h with ⟨rfl,w⟩ | ⟨ne,w⟩
  ·cases w
   obtain ⟨u,eu,ou⟩:=F.at_ n m (wz hl2)
   rw [wz hl1] at eu
   cases eu
   simp only [if_true]
   exact ⟨v,gg (by omega),ou⟩
  ·have hj:j<n:=by rw [<- hl2]; exact (List.getElem?_eq_some_iff.mp w).1
   obtain ⟨u,eu,ou⟩:=F.at_ j m' (by rw [xg (by omega)]; exact w)
   rw [xg (by omega)] at eu
   simp only [if_neg ne,if_pos hj]
   exact ⟨u,by rw [vl ne]; exact eu,ou⟩
 ·skip
  split at z1
  ·split at z2
   ·exact ne (by omega)
   ·split at z2
    ·exact F.dj n k q (by omega) z1 z2
    ·exact z2
  ·split at z1
   ·split at z2
    ·exact F.dj j n q (by omega) z1 z2
    ·split at z2
     ·exact F.dj j k q ne z1 z2
     ·exact z2
   ·exact z1
 ·skip
  split at z
  ·exact F.ok n q z
  ·split at z
   ·exact F.ok j q z
   ·exact z.elim
theorem zV.pop {m:Option M} {v:Option V} (hl1:σ.length=n) (hl2:β.length=n) (hP:P.length<=n) (E:zV K (n+1) P G0 H0 G H (β++[m]) (σ++[v])):zV K n P G0 H0 G H β σ:=by
 obtain ⟨Ls,F⟩:=E.own
 refine ⟨E.ext,hl1,hl2,hP,fun j u h=>?_,Ls,fun j m' h=>?_,F.dj,F.ok⟩
 ·have hj:j<P.length:=(List.getElem?_eq_some_iff.mp h).1
  have:=E.pin j u h
  rw [xg (by omega)] at this
  exact this
 ·have hj:j<n:=by rw [<- hl2]; exact (List.getElem?_eq_some_iff.mp h).1
  obtain ⟨u,eu,ou⟩:=F.at_ j m' (by rw [xg (by omega)]; exact h)
  rw [xg (by omega)] at eu
  exact ⟨u,eu,ou⟩
end
end L3
namespace L3
open PySem PySem.Spec PyProof.Rows L2
inductive u4 where
 | nx (β:zg) | rt (m:M) (β:zg) | bk (β:zg) | ct (β:zg)
noncomputable abbrev zj:=zg->Option u4
noncomputable abbrev yX:=zg->Option (M×zg)
noncomputable abbrev xq:=zg->Option (Bool×zg)
noncomputable def jF (K:PySem.W.Frag) (n:Nat) (P:List V) (G0 H0:Hp) (E:wS):u4->Prop
 | .nx β=>∀ σ G H,zV K n P G0 H0 G H β σ->E.nx σ H
 | .bk β=>∀ σ G H,zV K n P G0 H0 G H β σ->E.bk σ H
 | .ct β=>∀ σ G H,zV K n P G0 H0 G H β σ->E.ct σ H
 | .rt m β=>∀ σ v G H,zV K (n+1) P G0 H0 G H (β++[some m]) (σ++[some v])->E.rt v H
section
variable (X:Cx)
structure MC (e:Expr) (f:yX):Prop where
 h:∃ t,PE X e t/\∀ {P:List V} {G0 H0 G H:Hp} {β β':zg} {σ:St} {m:M} {Q:VK},zV X.K X.N.length P G0 H0 G H β σ->f β=some (m,β')->(∀ v G' H',zf G G'->zV X.K (X.N.length+1) P G0 H0 G' H' (β'++[some m]) (σ++[some v])->Q v H')->t σ H Q
structure MT (e:Expr) (f:xq):Prop where
 h:∃ t,PT X e t/\∀ {P:List V} {G0 H0 G H:Hp} {β β':zg} {σ:St} {b:Bool} {Q:Bool->Hp->Prop},zV X.K X.N.length P G0 H0 G H β σ->f β=some (b,β')->(∀ G' H',zf G G'->zV X.K X.N.length P G0 H0 G' H' β' σ->Q b H')->t σ H Q
structure MW (e:Expr) (f:xq):Prop where
 h:∃ t,PW X e t/\∀ {P:List V} {G0 H0 G H:Hp} {β β':zg} {σ:St} {b:Bool} {Q:Bool->Hp->Prop},zV X.K X.N.length P G0 H0 G H β σ->f β=some (b,β')->(∀ G' H',zf G G'->zV X.K X.N.length P G0 H0 G' H' β' σ->Q b H')->t σ H Q
structure MS (np:Nat) (st:Stmt) (f:zj):Prop where
 h:∃ t,PS X st t/\∀ {P:List V} {G0 H0 G H:Hp} {β:zg} {σ:St} {fl:u4} {E:wS},P.length=np->zV X.K X.N.length P G0 H0 G H β σ->f β=some fl->jF X.K X.N.length P G0 H0 E fl->t E σ H
structure vI (np:Nat) (st:List Stmt) (f:zj):Prop where
 h:∃ t,x_ X st t/\∀ {P:List V} {G0 H0 G H:Hp} {β:zg} {σ:St} {fl:u4} {E:wS},P.length=np->zV X.K X.N.length P G0 H0 G H β σ->f β=some fl->jF X.K X.N.length P G0 H0 E fl->t E σ H
end
section
variable {K:PySem.W.Frag} {n:Nat} {P:List V} {G0 H0 G H G' H':Hp} {β:zg} {σ:St} {m:M} {v:V} {d:D}
theorem zV.l1' {m:Option M} {v:Option V} (E:zV K (n+1) P G0 H0 G H (β++[m]) (σ++[v])):σ.length=n:=by
 have:=E.l1
 rw [List.length_append] at this
 exact Nat.succ.inj this
theorem zV.l2' {m:Option M} {v:Option V} (E:zV K (n+1) P G0 H0 G H (β++[m]) (σ++[v])):β.length=n:=by
 have:=E.l2
 rw [List.length_append] at this
 exact Nat.succ.inj this
theorem zV.lastR (E:zV K (n+1) P G0 H0 G H (β++[some (.fz d)]) (σ++[some v])):zK K G d v:=by
 obtain ⟨Ls,F⟩:=E.own
 obtain ⟨u,eu,r,_⟩:=F.at_ n _ (wz E.l2')
 rw [wz E.l1'] at eu
 cases eu
 exact r
theorem zV.setF {i:Nat} (E:zV K n P G0 H0 G H β σ) (hi:i<n) (hP:P.length<=i) (r:zK K G d v):zV K n P G0 H0 G H (β.set i (some (.fz d))) (σ.set i (some v)):=(E.pushF r).setL hi hP E.l1 E.l2
theorem zV.far (E:zV K n P G0 H0 G H β σ):zV K n P G H0 G H β σ:=⟨E.ext.far,E.l1,E.l2,E.lp,E.pin,E.own⟩
theorem zV.near {Ga Ha:Hp} (a:zL G0 H0 Ga Ha) (E:zV K n P Ga H0 G H β σ):zV K n P G0 H0 G H β σ:=⟨a.rebase E.ext,E.l1,E.l2,E.lp,E.pin,E.own⟩
theorem jF.near {Ga Ha:Hp} {E:wS} {fl:u4} (x:zL G0 H0 Ga Ha) (h:jF K n P G0 H0 E fl):jF K n P Ga H0 E fl:=by
 cases fl with
 | nx τ=>exact fun σ G H z=>h σ G H (zV.near x z)
 | bk τ=>exact fun σ G H z=>h σ G H (zV.near x z)
 | ct τ=>exact fun σ G H z=>h σ G H (zV.near x z)
 | rt m β=>exact fun σ v G H z=>h σ v G H (zV.near x z)
theorem zV.frzL {Ls:Nat->Ft} (E:zV K (n+1) P G0 H0 G H (β++[some (.own d)]) (σ++[some v])):∃ G',zf G G'/\zV K (n+1) P G0 H0 G' H (β++[some (.fz d)]) (σ++[some v]):=by
 obtain ⟨Ls,F⟩:=E.own
 obtain ⟨u,eu,p,rfl,o,uL⟩:=F.at_ n _ (wz E.l2')
 rw [wz E.l1'] at eu
 cases eu
 obtain ⟨gp,zp,bp⟩:=F.ok n p ((uL p).mpr rfl)
 obtain ⟨w,hw,r⟩:=o.frz gp
 have sg:zf G (zR G p w):=vG gp w
 have pin:∀ (i:Nat) (v:V),P[i]?=some v->(σ++[some (V.ref p)])[i]?=some (some v):=E.pin
 refine ⟨zR G p w,sg,E.ext.frz zp gp hw,E.l1,by rw [List.length_append,E.l2']; rfl,E.lp,pin,fun j=>if j<n then Ls j else fun _=>False,fun i m' h=>?_,fun i j q ne z1 z2=>?_,fun i q z=>?_⟩
 ·rcases kU h with ⟨c,e⟩ | ⟨c,e⟩
  ·rw [E.l2'] at c
   obtain ⟨u,eu,ou⟩:=F.at_ i m' (by rw [xg (by rw [E.l2']; exact c)]; exact e)
   refine ⟨u,eu,?_⟩
   simp only [if_pos c]
   exact ou.loc sg m' u _ fun q z=>rfl
  ·cases e
   rw [E.l2'] at c
   subst c
   refine ⟨_,wz E.l1',?_⟩
   simp only [Nat.lt_irrefl,if_false]
   exact ⟨r,fun _ z=>z⟩
 ·split at z1
  ·split at z2
   ·exact F.dj i j q ne z1 z2
   ·exact z2
  ·exact z1
 ·split at z
  ·rename_i c
   obtain ⟨a,b,c'⟩:=F.ok i q z
   refine ⟨?_,b,c'⟩
   rw [z_ fun e=>?_]
   ·exact a
   ·subst e
    exact F.dj i n q (by omega) z ((uL q).mpr rfl)
  ·exact z.elim
end
noncomputable def yl (f:FE):yX:=fun β=>(f (uH β)).bind fun d=>some (.fz d,β)
noncomputable def vK (f:FE):yX:=fun β=>(f (v3 β)).bind fun d=>match xo d with
 | true=>some (.fz d,β)
 | false=>none
noncomputable def jM (f:FE):yX:=fun β=>(f (uH β)).bind fun d=>some (.own d,β)
noncomputable def jN (f:FE):yX:=fun β=>(f (v3 β)).bind fun d=>match gz d with
 | true=>some (.own d,β)
 | false=>none
noncomputable def qU (f:yX):yX:=fun β=>(f β).bind fun r=>match r with
 | (.own d,β')=>some (.fz d,β')
 | r=>some r
noncomputable def uU (f:FT):xq:=fun β=>(f (v3 β)).bind fun b=>some (b,β)
noncomputable def Kb (f:xq):xq:=fun β=>(f β).bind fun r=>some (!r.1,r.2)
noncomputable def U_ (f g:xq):xq:=fun β=>(f β).bind fun r=>match r.1 with
 | true=>g r.2
 | false=>some (false,r.2)
noncomputable def Kc (f g:xq):xq:=fun β=>(f β).bind fun r=>match r.1 with
 | true=>some (true,r.2)
 | false=>g r.2
noncomputable def v7:M->Option D
 | .fz d=>some d
 | _=>none
noncomputable def LG (F:D->D->Option D) (f g:yX):yX:=fun β=>(f β).bind fun r=>(v7 r.1).bind fun x=>(g r.2).bind fun r'=>(v7 r'.1).bind fun y=>(F x y).bind fun z=>some (.fz z,r'.2)
noncomputable def T0 (f:yX):xq:=fun β=>(f β).bind fun r=>(v7 r.1).bind fun x=>(qS x).bind fun b=>some (b,r.2)
noncomputable def LF (f g:yX):yX:=fun β=>(f β).bind fun r=>(v7 r.1).bind fun x=>(qS x).bind fun b=>match b with
 | true=>g r.2
 | false=>some (.fz (.bl false),r.2)
theorem pM {m:M} {d:D} (h:v7 m=some d):m=.fz d:=by
 cases m with
 | fz d'=>cases h; rfl
 | _=>cases h
section
variable {X:Cx} {x:Str} {p pos:Pos} {e a b:Expr} {za:List Expr} {f:FE} {ft:FT} {F:D->D->Option D} {r:R2} {g g':yX} {u u':xq}
theorem y_ (h:SE X e f):MC X e (yl f):=by
 obtain ⟨t,p,k⟩:=h.h
 refine ⟨⟨t,p,fun E hf q=>?_⟩⟩
 obtain ⟨d,hd,hf⟩:=zD hf
 cases hf
 exact k E.hid hd fun v G' H' x r=>q v G' H' x.g ((E.go x).pushF r)
theorem uK (h:SE X e f):MC X e (vK f):=by
 obtain ⟨t,p,k⟩:=h.h
 refine ⟨⟨t,p,fun E hf q=>?_⟩⟩
 obtain ⟨d,hd,hf⟩:=zD hf
 cases c:xo d with
 | false=>rw [c] at hf; cases hf
 | true=>
  rw [c] at hf
  cases hf
  obtain ⟨G1,E1,back⟩:=E.thw
  refine k E1 hd fun v G' H' x r=>?_
  obtain ⟨G3,x3,E3,r3,_⟩:=back _ _ x
  exact q v G3 H' x3.g (E3.pushF (r3 d v c r))
theorem Zk (h:SF X e f):MC X e (jM f):=by
 obtain ⟨t,p,k⟩:=h.h
 refine ⟨⟨t,p,fun E hf q=>?_⟩⟩
 obtain ⟨d,hd,hf⟩:=zD hf
 cases hf
 exact k E.hid hd fun p G' H' x hp gp o=>q _ G' H' x.g (E.pushO x hp gp o)
theorem JK {K:PySem.W.Frag} {G G' H:Hp} {d:D} {p:Addr} (hr:∀ ds vs,tplDs ds=true->Reps K G ds vs->Reps K G' ds vs) (c:gz d=true) (o:xT K G H d p):xT K G' H d p:=by
 cases d with
 | lst ds=>obtain ⟨vs,e,r,l⟩:=o; exact ⟨vs,e,hr _ _ c r,l⟩
 | dic ks ds=>obtain ⟨vs,e,z,r,l⟩:=o; exact ⟨vs,e,z,hr _ _ c r,l⟩
 | _=>exact o.elim
theorem VM (h:SF X e f):MC X e (jN f):=by
 obtain ⟨t,p,k⟩:=h.h
 refine ⟨⟨t,p,fun E hf q=>?_⟩⟩
 obtain ⟨d,hd,hf⟩:=zD hf
 cases c:gz d with
 | false=>rw [c] at hf; cases hf
 | true=>
  rw [c] at hf
  cases hf
  obtain ⟨G1,E1,back⟩:=E.thw
  refine k E1 hd fun p G' H' x hp gp o=>?_
  obtain ⟨G3,x3,E3,_,rs,fr⟩:=back _ _ x
  exact q _ G3 H' x3.g (E.pushO x3 hp (fr p gp) (JK rs c o))
theorem gw (h:MC X e g):MC X e (qU g):=by
 obtain ⟨t,p,k⟩:=h.h
 refine ⟨⟨t,p,fun E hf q=>?_⟩⟩
 obtain ⟨⟨m,β1⟩,hg,hf⟩:=zD hf
 cases m with
 | own d=>
  cases hf
  refine k E hg fun v G' H' s E'=>?_
  obtain ⟨G2,s2,E2⟩:=zV.frzL (Ls:=fun _ _=>False) E'
  exact q v G2 H' (s.trans s2) E2
 | _=>cases hf; exact k E hg q
theorem tX (h:ST X e ft):MT X e (uU ft):=by
 obtain ⟨t,p,k⟩:=h.h
 refine ⟨⟨t,p,fun E hf q=>?_⟩⟩
 obtain ⟨b,hb,hf⟩:=zD hf
 cases hf
 obtain ⟨G1,E1,back⟩:=E.thw
 refine k E1 hb fun G' H' x=>?_
 obtain ⟨G3,x3,E3,_⟩:=back _ _ x
 exact q G3 H' x3.g E3
theorem Di (h:MT X a u):MW X (.BoolOp .And [a] pos) u:=⟨let ⟨t,p,k⟩:=h.h; ⟨t,Jy p,k⟩⟩
theorem Dh (ha:MT X a u) (hb:MW X (.BoolOp .And (b::za) pos) u'):MW X (.BoolOp .And (a::b::za) pos) (U_ u u'):=by
 obtain ⟨ta,pa,ka⟩:=ha.h
 obtain ⟨tb,pb,kb⟩:=hb.h
 refine ⟨⟨_,Jx pa pb,fun E hf q=>?_⟩⟩
 obtain ⟨⟨k,β1⟩,hk,hf⟩:=zD hf
 refine ka E hk fun G1 H1 s1 E1=>?_
 cases k with
 | true=>exact ul (kb E1 hf fun G' H' s2 E2=>q _ _ (s1.trans s2) E2)
 | false=>cases hf; exact uk (q _ _ s1 E1)
theorem Dj (h:MW X e u):MT X e u:=⟨let ⟨t,p,k⟩:=h.h; ⟨t,p.pt,k⟩⟩
theorem zV.down {K:PySem.W.Frag} {n:Nat} {P:List V} {G0 H0 G H:Hp} {β:zg} {σ:St} {m:Option M} {v:Option V} (hP:P.length<=n) (E:zV K (n+1) P G0 H0 G H (β++[m]) (σ++[v])):zV K n P G0 H0 G H β σ:=E.pop E.l1' E.l2' hP
theorem Dg (h:MC X e g) (he:VZ e=true:=by rfl):MT X e (T0 g):=by
 obtain ⟨t,p,k⟩:=h.h
 refine ⟨⟨_,Jp p (Je he),fun E hf q=>?_⟩⟩
 obtain ⟨⟨m1,β1⟩,h1,hf⟩:=zD hf
 obtain ⟨d1,e1,hf⟩:=zD hf
 cases pM e1
 obtain ⟨b,hb,hf⟩:=zD hf
 cases hf
 refine k E h1 fun v1 G1 H1 s1 E1=>?_
 exact ⟨_,Zz E1.lastR hb,q _ _ s1 (E1.down E.lp)⟩
end
noncomputable def uo:zj:=fun β=>some (.nx β)
noncomputable def yD (a b:zj):zj:=fun β=>(a β).bind fun f=>match f with
 | .nx β'=>b β'
 | f=>some f
noncomputable def um (c:xq) (a b:zj):zj:=fun β=>(c β).bind fun r=>match r.1 with
 | true=>a r.2
 | false=>b r.2
noncomputable def uI (f:yX):zj:=fun β=>(f β).bind fun r=>some (.rt r.1 r.2)
noncomputable def vB (f:yX):zj:=fun β=>(f β).bind fun r=>some (.nx r.2)
noncomputable def wA (i:Nat) (f:yX):zj:=fun β=>(f β).bind fun r=>some (.nx (r.2.set i (some r.1)))
noncomputable abbrev MG:=D->zg->Option zg
noncomputable def ja (i:Nat):MG:=fun d β=>some (β.set i (some (.fz d)))
noncomputable def jZ (i j:Nat):MG:=fun d β=>match d with
 | .tup [x,y]=>some ((β.set i (some (.fz x))).set j (some (.fz y)))
 | _=>none
noncomputable def vo (g:MG) (b:zj):List D->zg->Option u4
 | [],β=>some (.nx β)
 | d::r,β=>(g d β).bind fun β1=>(b β1).bind fun f=>match f with
  | .nx β2=>vo g b r β2
  | .ct β2=>vo g b r β2
  | .bk β2=>some (.nx β2)
  | .rt m β2=>some (.rt m β2)
noncomputable def gu (it:FA) (g:MG) (b:zj):zj:=fun β=>(it (uH β)).bind fun ds=>vo g b ds β
noncomputable def uV (c:xq) (b:zj):Nat->zg->Option u4
 | 0,_=>none
 | n+1,β=>(c β).bind fun r=>match r.1 with
  | false=>some (.nx r.2)
  | true=>(b r.2).bind fun f=>match f with
   | .nx β2=>uV c b n β2
   | .ct β2=>uV c b n β2
   | .bk β2=>some (.nx β2)
   | .rt m β2=>some (.rt m β2)
noncomputable def gv (c:xq) (b:zj):zj:=fun β=>uV c b kn β
section
variable {X:Cx} {np:Nat} {x:Str} {p pos pos':Pos} {e c tg iter:Expr} {st:Stmt} {sts body:List Stmt} {f g:zj} {h:yX} {u:xq} {fs:FA}
theorem qf:vI X np [] uo:=⟨⟨_,Jm,fun {P G0 H0 G H β σ fl E} _ K hf q=>by
 cases hf
 exact q σ G H K⟩⟩
theorem yG (h1:MS X np st f) (h2:vI X np sts g):vI X np (st::sts) (yD f g):=by
 obtain ⟨t,p,k⟩:=h1.h
 obtain ⟨t',p',k'⟩:=h2.h
 refine ⟨⟨_,Jl p p',fun {P G0 H0 G H β σ fl E} hP K hf q=>?_⟩⟩
 obtain ⟨f1,h1,hf⟩:=zD hf
 refine k hP K h1 ?_
 cases f1 with
 | nx τ'=>exact fun σ' G' H' K'=>k' hP K' hf q
 | bk τ'=>cases hf; exact q
 | ct τ'=>cases hf; exact q
 | rt o d=>cases hf; exact q
theorem yf (h1:MS X np st f):vI X np [st] f:=⟨let ⟨t,p,k⟩:=h1.h; ⟨t,Jn p,k⟩⟩
theorem qe {sa sb:List Stmt} (hc:MT X c u) (ha:vI X np sa f) (hb:vI X np sb g):MS X np (.If c sa sb pos) (um u f g):=by
 obtain ⟨tc,pc,kc⟩:=hc.h
 obtain ⟨ta,pa,ka⟩:=ha.h
 obtain ⟨tb,pb,kb⟩:=hb.h
 refine ⟨⟨_,Jk pc pa pb,fun {P G0 H0 G H β σ fl E} hP K hf q=>?_⟩⟩
 obtain ⟨⟨k,β1⟩,hk,hf⟩:=zD hf
 refine kc K hk fun G1 H1 _ K1=>?_
 cases k with
 | true=>exact ul (ka hP K1 hf q)
 | false=>exact uk (kb hP K1 hf q)
theorem tV (he:MC X e h):MS X np (.Return (some e) pos) (uI h):=by
 obtain ⟨t,p,k⟩:=he.h
 refine ⟨⟨_,Zt p,fun {P G0 H0 G H β σ fl E} hP K hf q=>?_⟩⟩
 obtain ⟨⟨m,β1⟩,hk,hf⟩:=zD hf
 cases hf
 exact k K hk fun v G' H' _ K'=>q _ v _ _ K'
theorem uM (he:MC X e h) (hs:swapsWith e none pos.line X.env=pure false:=by rfl):MS X np (.Expr e pos) (vB h):=by
 obtain ⟨t,p,k⟩:=he.h
 refine ⟨⟨_,Ji p hs,fun {P G0 H0 G H β σ fl E} hP K hf q=>?_⟩⟩
 obtain ⟨⟨m,β1⟩,hk,hf⟩:=zD hf
 cases hf
 exact k K hk fun v G' H' _ K'=>q _ _ _ (K'.down K.lp)
theorem wZ {i:Nat} {x:Str} {pos':Pos} (hN:X.N.Nodup) (hi:X.N[i]?=some x) (hx:vZ X.env.scope x) (hn:np<=i) (he:MC X e h) (hs:jf e=true:=by rfl) (hf:X.fn x=true\/X.env.scope.names.lookup x=some .local:=by first | exact .inl rfl | exact .inr rfl | assumption) :
  MS X np (.Assign [.Name x pos'] e pos) (wA i h):=by
 obtain ⟨t,p,k⟩:=he.h
 refine ⟨⟨_,(Vg hN hi hx ⟨p⟩ hs hf).h,fun {P G0 H0 G H β σ fl E} hP K hf q=>?_⟩⟩
 obtain ⟨⟨m,β1⟩,hk,hf⟩:=zD hf
 cases hf
 exact k K hk fun v G' H' _ K'=>q _ _ _ (K'.setL (List.getElem?_eq_some_iff.mp hi).1 (by omega) K'.l1' K'.l2')
structure XT (X:Cx) (np:Nat) (tg:Expr) (fg:MG):Prop where
 h:∃ t,PG X tg t/\∀ {P:List V} {G0 H0 G H:Hp} {β β':zg} {σ:St} {d:D} {v:V} {Q:St->Hp->Prop},P.length=np->zV X.K X.N.length P G0 H0 G H β σ->zK X.K G d v->fg d β=some β'->(∀ σ',zV X.K X.N.length P G0 H0 G H β' σ'->Q σ' H)->t v σ H Q
theorem JJ {i:Nat} {x:Str} (h:QG X (.Name x pos) (wW i)) (hi:X.N[i]?=some x) (hn:np<=i):XT X np (.Name x pos) (ja i):=⟨⟨_,h.h,fun hP K r hf q=>by
 cases hf
 exact q _ (K.setF (List.getElem?_eq_some_iff.mp hi).1 (by omega) r)⟩⟩
theorem DY {i j:Nat} {x y:Str} {p1 p2:Pos} {kk:Nat} (h:QG X (.Tuple [.Name x p1,.Name y p2] kk pos) (jU X.K 2 (uf (wW i) (uf (wW j) jT)))) (hi:X.N[i]?=some x) (hj:X.N[j]?=some y) (hn:np<=i) (hm:np<=j):XT X np (.Tuple [.Name x p1,.Name y p2] kk pos) (jZ i j):=⟨⟨_,h.h,fun {P G0 H0 G H β β' σ d v Q} hP K r hf q=>by
 unfold jZ at hf
 split at hf
 ·rename_i d1 d2
  cases hf
  obtain ⟨a,vs,rfl,sq,⟨v1,r1,rfl,h1,⟨v2,r2,rfl,h2,h3⟩⟩,_⟩:=r
  cases (show r2=[] from h3)
  refine ⟨a,_,rfl,wb K.ext.gh sq,rfl,v1,_,rfl,v2,_,rfl,rfl,?_⟩
  exact q _ ((K.setF (List.getElem?_eq_some_iff.mp hi).1 (by omega) h1).setF (List.getElem?_eq_some_iff.mp hj).1 (by omega) h2)
 ·cases hf⟩⟩
theorem VP {fg:MG} (hp:PassesOwn (model X.prog X.w) X.A X.env X.xe) (hc:X.calm=true) (hi:SI X tg iter fs) (hg:XT X np tg fg) (hb:vI X np body g) (hs:∀ x,foldedSetIterable iter X.env x=pure x:=by intro _; rfl):MS X np (.For tg iter body [] pos) (gu fs fg g):=by
 obtain ⟨ti,pi,ki⟩:=hi.h
 obtain ⟨tg',pg,kg⟩:=hg.h
 obtain ⟨tb,pb,kb⟩:=hb.h
 refine ⟨⟨_,Jj hp hc pi pg pb hs,fun {P G0 H0 G H τ σ fl E} hP K hf q=>?_⟩⟩
 obtain ⟨ds,hd,hf⟩:=zD hf
 refine ki K.hid hd fun J Ga Ha xa _ wk=>?_
 have Ka:=K.go xa
 have q':=jF.near Ka.ext q
 refine ⟨fun i m σ H=>m=ds.length - i/\i<=ds.length/\∃ τ G,zV X.K X.N.length P Ga H0 G H τ σ/\vo fg g (ds.drop i) τ=some fl,⟨ds.length,rfl,Nat.zero_le _,τ,Ga,Ka.far,hf⟩,?_⟩
 rintro i m σ H ⟨rfl,hle,τ,G,K,hf⟩
 by_cases hlt:i<ds.length
 ·refine .inr ⟨wk.go i G H K.ext.g K.ext.gh hlt,fun σ' H'=>∃ τ G,zV X.K X.N.length P Ga H0 G H' τ σ'/\vo fg g (ds.drop (i+1)) τ=some fl,fun σ' H' z=>⟨ds.length - (i+1),by omega,rfl,hlt,z⟩,fun x H' y=>?_⟩
  obtain ⟨G3,d,x3,ed,rd⟩:=wk.yld i G H x H' K.ext.g K.ext.gh hlt y
  rw [List.drop_eq_getElem_cons hlt] at hf
  rw [List.getElem?_eq_getElem hlt] at ed
  cases ed
  obtain ⟨τ1,h1,hf⟩:=zD (show (fg _ τ).bind _=_ from hf)
  obtain ⟨f1,h2,hf⟩:=zD hf
  refine kg hP (K.go x3) rd h1 fun σ1 K1=>kb hP K1 h2 ?_
  cases f1 with
  | nx τ2=>exact fun σ2 G2 H2 K2=>⟨τ2,G2,K2,hf⟩
  | ct τ2=>exact fun σ2 G2 H2 K2=>⟨τ2,G2,K2,hf⟩
  | bk τ2=>cases hf; exact q'
  | rt m β=>cases hf; exact q'
 ·have e:i=ds.length:=by omega
  subst e
  rw [List.drop_length] at hf
  cases hf
  exact .inl ⟨wk.stop _ G H K.ext.g K.ext.gh (Nat.le_refl _),q' _ _ _ K⟩
theorem Dd (hp:PassesOwn (model X.prog X.w) X.A X.env X.xe) (hc:MT X c u) (hb:vI X np body g):MS X np (.While c body [] pos) (gv u g):=by
 obtain ⟨tc,pc,kc⟩:=hc.h
 obtain ⟨tb,pb,kb⟩:=hb.h
 refine ⟨⟨_,EN hp pc pb,fun {P G0 H0 G H τ σ fl E} hP K hf q=>?_⟩⟩
 refine ⟨fun m σ H=>∃ τ G,zV X.K X.N.length P G0 H0 G H τ σ/\uV u g m τ=some fl,⟨kn,τ,G,K,hf⟩,?_⟩
 rintro m σ H ⟨τ,G,K,hf⟩
 cases m with
 | zero=>cases hf
 | succ n=>
  obtain ⟨⟨k,β1⟩,hk,hf⟩:=zD (show (u τ).bind _=_ from hf)
  refine kc K hk fun G1 H1 _ K1=>?_
  cases k with
  | false=>
   cases hf
   exact uk (q _ _ _ K1)
  | true=>
   obtain ⟨f1,h1,hf⟩:=zD (show (g β1).bind _=_ from hf)
   refine ul ⟨fun σ' H'=>∃ τ G,zV X.K X.N.length P G0 H0 G H' τ σ'/\uV u g n τ=some fl,fun σ' H' z=>⟨n,Nat.lt_succ_self n,z⟩,kb hP K1 h1 ?_⟩
   cases f1 with
   | nx τ2=>exact fun σ2 G2 H2 K2=>⟨τ2,G2,K2,hf⟩
   | ct τ2=>exact fun σ2 G2 H2 K2=>⟨τ2,G2,K2,hf⟩
   | bk τ2=>cases hf; exact q
   | rt m β=>cases hf; exact q
end
end L3
namespace L3
open PySem PySem.Spec PyProof.Rows L2
noncomputable def vp (β:zg) (i:Nat) (π:List yY):Option M:=match β[i]? with
 | some (some m)=>vJ m π
 | _=>none
noncomputable def putAt (β:zg) (i:Nat) (π:List yY) (m2:M):Option zg:=match β[i]? with
 | some (some m)=>(vE m π m2).bind fun m'=>some (β.set i (some m'))
 | _=>none
theorem pY {β:zg} {i:Nat} {π:List yY} {nd:M} (h:vp β i π=some nd):∃ m,β[i]?=some (some m)/\vJ m π=some nd:=by
 unfold vp at h
 split at h
 ·rename_i m e
  exact ⟨m,e,h⟩
 ·cases h
theorem kG {β:zg} {i:Nat} {π:List yY} {m m' m2:M} (h:β[i]?=some (some m)) (e:vE m π m2=some m'):putAt β i π m2=some (β.set i (some m')):=by
 unfold putAt
 rw [h]
 show (vE m π m2).bind _=_
 rw [e]
 rfl
noncomputable def xD (K:PySem.W.Frag) (cs:List Str) (f:Str):Prop:=∀ x∈cs,∀ C,PySem.W.nsIn K mainGlobals x=some (some (.ref C))->wR K C/\qL K C f
structure SP (X:Cx) (e:Expr) (i:Nat) (π:List yY):Prop where
 h:∃ t,PE X e t/\∀ {σ:St} {H:Hp} {v u:V} {Q:VK},σ[i]?=some (some v)->yz X.K H v π u->Q u H->t σ H Q
section
variable {X:Cx} {x f:Str} {p pos:Pos} {e:Expr} {i:Nat} {π:List yY} {cs:List Str}
theorem yE (i:Nat) {x:Str} {pos:Pos} (hN:X.N[i]?=some x:=by rfl) (hv:qQ X.env.scope x:=by first | exact Or.inl rfl | exact Or.inr (Or.inl rfl) | exact Or.inr (Or.inr rfl)) (hd:(x == ("__debug__" : Str))=false:=by decide)
  (hcd:(x == ("__classdict__" : Str))=false:=by decide):SP X (.Name x pos) i []:=⟨⟨_,kC hN hv hd hcd,fun e a q=>by
 cases (show _=_ from a)
 exact ⟨_,e,q⟩⟩⟩
theorem wO (h:SP X e i π) (k:xD X.K cs f) (hb:attributeBase e f X.env (eval e X.env)=eval e X.env:=by rfl):SP X (.Attribute e f pos) i (π++[.at cs f]):=by
 obtain ⟨t,p,kt⟩:=h.h
 refine ⟨⟨_,JZ p hb,fun e a q=>?_⟩⟩
 obtain ⟨w,a1,a2⟩:=a.snoc
 obtain ⟨p,x,C,dx,fs,w',rfl,hx,ns,hp,l,rfl⟩:=a2
 obtain ⟨c,n⟩:=k x hx C ns
 exact kt e a1 ⟨p,C,dx,fs,_,rfl,hp,c,n,l,q⟩
end
section
variable {K:PySem.W.Frag} {n:Nat} {P:List V} {G0 H0 G H:Hp} {β:zg} {σ:St}
theorem zV.write {m m1 mr:M} {vr:V} {i:Nat} {π:List yY} (E:zV K (n+1) P G0 H0 G H (β++[some mr]) (σ++[some vr])) (hP:P.length<=n) (hm:β[i]?=some (some m)) (ha:vJ m π=some m1) :
  ∃ r v1 L1 Lr,σ[i]?=some (some r)/\yz K H r π v1/\yF K G H m1 v1 L1/\yF K G H mr vr Lr/\(∀ q,L1 q->Lr q->False)/\
   ∀ {H':Hp} {m2:M} {L2:Ft},(∀ q,¬ L1 q->H' q=H q)->yF K G H' m2 v1 L2->(∀ q,L2 q->L1 q\/Lr q)->∃ m',vE m π m2=some m'/\zV K n P G0 H0 G H' (β.set i (some m')) σ:=by
 obtain ⟨Ls,F⟩:=E.own
 have hl1:=E.l1'
 have hl2:=E.l2'
 have hi:i<n:=by rw [<- hl2]; exact (List.getElem?_eq_some_iff.mp hm).1
 obtain ⟨r,er,om⟩:=F.at_ i m (by rw [xg (by omega)]; exact hm)
 rw [xg (by omega)] at er
 obtain ⟨u,eu,orr⟩:=F.at_ n mr (wz hl2)
 rw [wz hl1] at eu
 cases eu
 obtain ⟨v1,L1,va,o1,s1,re⟩:=om.focus ha
 have djn:∀ q,L1 q->Ls n q->False:=fun q a b=>F.dj i n q (by omega) (s1 q a) b
 refine ⟨r,v1,L1,Ls n,er,va,o1,orr,djn,fun {H' m2 L2} hk o2 hL=>?_⟩
 obtain ⟨m',e',o'⟩:=re (zf.refl G) (fun q _ z=>hk q z) o2 (fun q z w=>by
  rcases hL q z with c | c
  ·exact c
  ·exact absurd c fun c=>F.dj i n q (by omega) w c)
 have f0:∀ q,L1 q->G q=none/\H0 q=none:=fun q z=>⟨(F.ok i q (s1 q z)).1,(F.ok i q (s1 q z)).2.1⟩
 refine ⟨m',e',⟨E.ext.g,fun q o z=>?_,fun q o z=>?_,E.ext.new⟩,hl1,by rw [List.length_set]; exact hl2,hP,fun j w h=>?_,fun j=>if j=i then (fun q=>(Ls i q/\¬ L1 q)\/L2 q) else if j<n then Ls j else fun _=>False,fun j m3 h=>?_,fun j k q ne z1 z2=>?_,fun j q z=>?_⟩
 ·rw [hk q fun w=>by rw [(f0 q w).2] at z; cases z]
  exact E.ext.h _ _ z
 ·rw [hk q fun w=>by rw [(f0 q w).1] at z; cases z]
  exact E.ext.gh _ _ z
 ·have hj:j<P.length:=(List.getElem?_eq_some_iff.mp h).1
  have:=E.pin j w h
  rw [xg (by omega)] at this
  exact this
 ·rcases wx h with ⟨rfl,w⟩ | ⟨ne,w⟩
  ·cases w
   simp only [if_true]
   exact ⟨r,er,o'⟩
  ·have hj:j<n:=by rw [<- hl2]; exact (List.getElem?_eq_some_iff.mp w).1
   obtain ⟨u,eu,ou⟩:=F.at_ j m3 (by rw [xg (by omega)]; exact w)
   rw [xg (by omega)] at eu
   simp only [if_neg ne,if_pos hj]
   exact ⟨u,eu,ou.loc (zf.refl G) m3 u _ fun q z=>hk q fun w'=>F.dj i j q (fun c=>ne c.symm) (s1 q w') z⟩
 ·have key:∀ j,j≠i->j<n->∀ q,(Ls i q/\¬ L1 q)\/L2 q->Ls j q->False:=fun j ne hj q z1 z2=>by
   rcases z1 with ⟨z1,_⟩ | z1
   ·exact F.dj i j q (fun c=>ne c.symm) z1 z2
   ·rcases hL q z1 with c | c
    ·exact F.dj i j q (fun c=>ne c.symm) (s1 q c) z2
    ·exact F.dj n j q (by omega) c z2
  split at z1
  ·split at z2
   ·exact ne (by omega)
   ·split at z2
    ·exact key k (by omega) (by omega) q z1 z2
    ·exact z2
  ·split at z1
   ·split at z2
    ·exact key j (by omega) (by omega) q z2 z1
    ·split at z2
     ·exact F.dj j k q ne z1 z2
     ·exact z2
   ·exact z1
 ·split at z
  ·rcases z with ⟨z,w⟩ | z
   ·obtain ⟨a,b,c⟩:=F.ok i q z
    obtain ⟨u,hu,cu⟩:=c
    exact ⟨a,b,u,(hk q w).trans hu,cu⟩
   ·refine ⟨?_,?_,o2.cells m2 _ _ q z⟩
    ·rcases hL q z with c | c
     ·exact (f0 q c).1
     ·exact (F.ok n q c).1
    ·rcases hL q z with c | c
     ·exact (f0 q c).2
     ·exact (F.ok n q c).2.1
  ·split at z
   ·rename_i ne hj
    obtain ⟨a,b,c⟩:=F.ok j q z
    obtain ⟨u,hu,cu⟩:=c
    exact ⟨a,b,u,(hk q fun w'=>F.dj i j q (fun c=>ne c.symm) (s1 q w') z).trans hu,cu⟩
   ·exact z.elim
end
noncomputable def uJ (i:Nat) (π:List yY) (fk:FE) (fv:yX):zj:=fun β=>(fv β).bind fun r=>(v7 r.1).bind fun y=>(vp r.2 i π).bind fun nd=>match nd with
 | .own (.lst ds)=>(fk (v3 r.2)).bind fun x=>match x with
  | .int j=>(ixN ds.length j).bind fun n=>(putAt r.2 i π (.own (.lst (ds.set n y)))).bind fun β2=>some (.nx β2)
  | _=>none
 | _=>none
noncomputable def pX (i:Nat) (π:List yY) (fk:FE) (fv:yX):zj:=fun β=>(fv β).bind fun r=>(v7 r.1).bind fun y=>(vp r.2 i π).bind fun nd=>match nd with
 | .own (.dic ks ds)=>(fk (v3 r.2)).bind fun x=>(wp x).bind fun x=>match decide (ks.length<yP) with
  | true=>(putAt r.2 i π (.own (.dic (xm ks x) (xH ks ds x y)))).bind fun β2=>some (.nx β2)
  | false=>none
 | _=>none
section
variable {X:Cx} {np:Nat} {o k v:Expr} {i:Nat} {π:List yY} {fk:FE} {fv:yX} {pos pos':Pos}
theorem tW (ho:SP X o i π) (hk:SE X k fk) (hv:MC X v fv) (hp:kE k=true:=by rfl) (hs:swapsWithSole [.Subscript o k pos'] v pos.line X.env=pure false:=by rfl)
  (hw:swappedStores [.Subscript o k pos'] v X.env=pure none:=by rfl) (h1:(assignEach [.Subscript o k pos'] X.env).map (·.2)=[assign (.Subscript o k pos') X.env]:=by rfl):MS X np (.Assign [.Subscript o k pos'] v pos) (uJ i π fk fv):=by
 obtain ⟨tk,pk,kk⟩:=hk.h
 obtain ⟨tv,pv,kv⟩:=hv.h
 obtain ⟨to,po,ko⟩:=ho.h
 refine ⟨⟨_,EJ pv (Ef ⟨po⟩ ⟨pk⟩ HH hp).h hs hw h1,fun {P G0 H0 G H β σ fl E} hP K hf q=>?_⟩⟩
 obtain ⟨⟨m,β1⟩,hy,hf⟩:=zD hf
 obtain ⟨y,ey,hf⟩:=zD hf
 cases pM ey
 obtain ⟨nd,hn,hf⟩:=zD hf
 split at hf
 ·rename_i ds
  obtain ⟨xk,hx,hf⟩:=zD hf
  cases xk with
  | int j=>
   obtain ⟨nn,hnn,hf⟩:=zD hf
   obtain ⟨β2,hβ,hf⟩:=zD hf
   cases hf
   obtain ⟨mm,hm,ha⟩:=pY hn
   refine kv K hy fun w G1 H1 s1 K1=>?_
   obtain ⟨r,v1,L1,Lr,er,va,_⟩:=K1.write K.lp hm ha
   refine ko er va ?_
   obtain ⟨Ga,Ea,back⟩:=(K1.down K.lp).thw
   refine kk Ea hx fun u G2 H2 x2 r2=>?_
   cases (show u=_ from r2)
   obtain ⟨G3,x3,_,_⟩:=back _ _ x2
   have K4:=K1.go x3
   obtain ⟨r',v1',L1',Lr',er',va',o1',or',dj',wr'⟩:=K4.write K.lp hm ha
   rw [er] at er'
   cases er'
   cases yz.one (va.mono x3.h) va'
   obtain ⟨p,rfl,⟨vs,ev,rs,l⟩,uL⟩:=o1'
   obtain ⟨m',e',K5⟩:=wr' (H':=zR H2 p (.lst (vs.set nn w))) (m2:=.own (.lst (ds.set nn y))) (L2:=fun q=>q=p) (fun q z=>z_ fun c=>z ((uL q).mpr c)) ⟨p,rfl,⟨_,yk,Reps.set K4.lastR nn rs,by rw [List.length_set]; exact l⟩,fun _=>Iff.rfl⟩ (fun q z=>.inl ((uL q).mpr z))
   rw [kG hm e'] at hβ
   cases hβ
   exact ⟨p,vs,j,nn,rfl,rfl,ev,by rw [rs.length]; exact hnn,q _ _ _ K5⟩
  | _=>cases hf
 ·cases hf
theorem gx (hu:X.A.units+1<cLine) (ho:SP X o i π) (hk:SE X k fk) (hv:MC X v fv) (hs:swapsWith v (some (.Subscript o k pos')) pos.line X.env=pure false:=by rfl):MS X np (.Assign [.Subscript o k pos'] v pos) (pX i π fk fv):=by
 obtain ⟨tk,pk,kk⟩:=hk.h
 obtain ⟨tv,pv,kv⟩:=hv.h
 obtain ⟨to,po,ko⟩:=ho.h
 refine ⟨⟨_,Jh hu po pk pv hs,fun {P G0 H0 G H β σ fl E} hP K hf q=>?_⟩⟩
 obtain ⟨⟨m,β1⟩,hy,hf⟩:=zD hf
 obtain ⟨y,ey,hf⟩:=zD hf
 cases pM ey
 obtain ⟨nd,hn,hf⟩:=zD hf
 split at hf
 ·rename_i ks ds
  obtain ⟨xk,hx,hf⟩:=zD hf
  obtain ⟨key,hkey,hf⟩:=zD hf
  split at hf
  ·rename_i c
   have c:=of_decide_eq_true c
   obtain ⟨β2,hβ,hf⟩:=zD hf
   cases hf
   obtain ⟨mm,hm,ha⟩:=pY hn
   refine kv K hy fun w G1 H1 s1 K1=>?_
   obtain ⟨r,v1,L1,Lr,er,va,_⟩:=K1.write K.lp hm ha
   refine ko er va ?_
   obtain ⟨Ga,Ea,back⟩:=(K1.down K.lp).thw
   refine kk Ea hx fun u G2 H2 x2 r2=>?_
   obtain ⟨G3,x3,_,_⟩:=back _ _ x2
   have K4:=K1.go x3
   obtain ⟨r',v1',L1',Lr',er',va',o1',or',dj',wr'⟩:=K4.write K.lp hm ha
   rw [er] at er'
   cases er'
   cases yz.one (va.mono x3.h) va'
   obtain ⟨p,rfl,⟨vs,ev,l,rs,hl⟩,uL⟩:=o1'
   obtain ⟨m',e',K5⟩:=wr' (H':=zR H2 p (.dK (wC (ks.zip vs) key w))) (m2:=.own (.dic (xm ks key) (xH ks ds key y))) (L2:=fun q=>q=p) (fun q z=>z_ fun c=>z ((uL q).mpr c))
    ⟨p,rfl,⟨xH ks vs key w,by rw [yk,TF l],kF l,rs.put K4.lastR,by
     have h1:=Vc (ks:=ks) (vs:=ds) (k:=key) (v:=y) (by rw [l,rs.length])
     have h2:ds.length<16777216:=by rw [<- rs.length,<- l]; exact c
     rw [sizeLine_eq]
     omega⟩,fun _=>Iff.rfl⟩ (fun q z=>.inl ((uL q).mpr z))
   rw [kG hm e'] at hβ
   cases hβ
   exact ⟨p,_,rfl,.inl ⟨_,key,ev,qb hkey r2,by rw [List.length_zip,l,Nat.min_self,sizeLine_eq,<- l]; exact c,rfl⟩,q _ _ _ K5⟩
  ·cases hf
 ·cases hf
end
noncomputable def uv (fs:List Str) (f:Str):List Str:=if f∈fs then fs else fs++[f]
noncomputable def ww {α:Type} (fs:List Str) (ms:List α) (f:Str) (m:α):List α:=if f∈fs then xc fs ms f m else ms++[m]
theorem Vb {f:Str} {w:V}:∀ {fs:List Str} {vs:List V},fs.length=vs.length->putF f w (fs.zip vs)=(uv fs f).zip (ww fs vs f w)
 | [],[],_=>by
  unfold uv ww
  rw [if_neg (by simp),if_neg (by simp)]
  rfl
 | [],_::_,h=>by cases h
 | _::_,[],h=>by cases h
 | g::fs,v::vs,h=>by
  have ih:=Vb (f:=f) (w:=w) (fs:=fs) (vs:=vs) (Nat.succ.inj h)
  rw [List.zip_cons_cons]
  unfold putF
  by_cases c:g=f
  ·subst c
   unfold uv ww
   rw [if_pos rfl,if_pos List.mem_cons_self,if_pos List.mem_cons_self]
   unfold xc
   rw [if_pos rfl,List.zip_cons_cons]
  ·rw [if_neg c,ih]
   unfold uv ww
   by_cases z:f∈fs
   ·rw [if_pos z,if_pos z,if_pos (List.mem_cons_of_mem _ z),if_pos (List.mem_cons_of_mem _ z)]
    conv=>rhs; unfold xc
    rw [if_neg c,List.zip_cons_cons]
   ·have z':f ∉ g::fs:=fun w=>by
     rcases List.mem_cons.mp w with w | w
     ·exact c w.symm
     ·exact z w
    rw [if_neg z,if_neg z,if_neg z',if_neg z',List.cons_append,List.cons_append,List.zip_cons_cons]
theorem Io {κ α:Type} [DecidableEq κ] {k:κ} {y:α}:∀ {ks:List κ} {xs:List α},(xc ks xs k y).length=xs.length
 | [],_=>by unfold xc; rfl
 | _::_,[]=>by unfold xc; rfl
 | k'::ks,x::xs=>by
  unfold xc
  split
  ·rfl
  ·rw [List.length_cons,List.length_cons,Io]
theorem Jt {α:Type} {f:Str} {w:α} {fs:List Str} {vs:List α} (h:fs.length=vs.length):(uv fs f).length=(ww fs vs f w).length:=by
 unfold uv ww
 split
 ·rw [Io]; exact h
 ·rw [List.length_append,List.length_append,h]; rfl
section
variable {K:PySem.W.Frag} {G H:Hp}
theorem OwnMs.exch {κ:Type} [DecidableEq κ] {k:κ} {m2:M} {v2:V} {L2:Ft} (o2:yF K G H m2 v2 L2):∀ {ks:List κ} {ms:List M} {vs:List V} {L:Ft},OwnMs K G H ms vs L->(∀ q,L q->L2 q->False)->∃ L',OwnMs K G H (xc ks ms k m2) (xc ks vs k v2) L'/\∀ q,L' q->L q\/L2 q
 | [],ms,vs,L,h,_=>⟨L,by unfold xc; exact h,fun q z=>.inl z⟩
 | _::_,[],vs,L,h,_=>by
  obtain ⟨rfl,n⟩:=h
  exact ⟨L,by unfold xc; exact ⟨rfl,n⟩,fun q z=>.inl z⟩
 | k'::ks,m::ms,vs,L,h,dj=>by
  obtain ⟨v,r,La,Lb,rfl,hv,hr,d,u⟩:=h
  unfold xc
  by_cases c:k'=k
  ·rw [if_pos c,if_pos c]
   refine ⟨fun q=>L2 q\/Lb q,⟨v2,r,L2,Lb,rfl,o2,hr,fun q a b=>dj q ((u q).mpr (.inr b)) a,fun q=>Iff.rfl⟩,fun q z=>?_⟩
   rcases z with z | z
   ·exact .inr z
   ·exact .inl ((u q).mpr (.inr z))
  ·rw [if_neg c,if_neg c]
   obtain ⟨L',h',s'⟩:=OwnMs.exch (k:=k) o2 (ks:=ks) hr (fun q a b=>dj q ((u q).mpr (.inr a)) b)
   refine ⟨fun q=>La q\/L' q,⟨v,_,La,L',rfl,hv,h',fun q a b=>?_,fun q=>Iff.rfl⟩,fun q z=>?_⟩
   ·rcases s' q b with b | b
    ·exact d q a b
    ·exact dj q ((u q).mpr (.inl a)) b
   ·rcases z with z | z
    ·exact .inl ((u q).mpr (.inl z))
    ·rcases s' q z with z | z
     ·exact .inl ((u q).mpr (.inr z))
     ·exact .inr z
theorem OwnMs.snoc {m2:M} {v2:V} {L2:Ft} (o2:yF K G H m2 v2 L2):∀ {ms:List M} {vs:List V} {L:Ft},OwnMs K G H ms vs L->(∀ q,L q->L2 q->False)->OwnMs K G H (ms++[m2]) (vs++[v2]) (fun q=>L q\/L2 q)
 | [],vs,L,h,_=>by
  obtain ⟨rfl,n⟩:=h
  refine ⟨v2,[],L2,fun _=>False,rfl,o2,⟨rfl,fun _ z=>z⟩,fun _ _ z=>z,fun q=>⟨?_,?_⟩⟩
  ·rintro (z | z)
   ·exact absurd z (n q)
   ·exact .inl z
  ·rintro (z | z)
   ·exact .inr z
   ·exact z.elim
 | m::ms,vs,L,h,dj=>by
  obtain ⟨v,r,La,Lb,rfl,hv,hr,d,u⟩:=h
  refine ⟨v,_,La,fun q=>Lb q\/L2 q,rfl,hv,OwnMs.snoc o2 hr (fun q a b=>dj q ((u q).mpr (.inr a)) b),fun q a b=>?_,fun q=>⟨?_,?_⟩⟩
  ·rcases b with b | b
   ·exact d q a b
   ·exact dj q ((u q).mpr (.inl a)) b
  ·rintro (z | z)
   ·rcases (u q).mp z with z | z
    ·exact .inl z
    ·exact .inr (.inl z)
   ·exact .inr (.inr z)
  ·rintro (z | z | z)
   ·exact .inl ((u q).mpr (.inl z))
   ·exact .inl ((u q).mpr (.inr z))
   ·exact .inr z
theorem OwnMs.putF {f:Str} {m2:M} {v2:V} {L2 L:Ft} {fs:List Str} {ms:List M} {vs:List V} (o2:yF K G H m2 v2 L2) (h:OwnMs K G H ms vs L) (dj:∀ q,L q->L2 q->False):∃ L',OwnMs K G H (ww fs ms f m2) (ww fs vs f v2) L'/\∀ q,L' q->L q\/L2 q:=by
 unfold ww
 by_cases c:f∈fs
 ·rw [if_pos c,if_pos c]
  exact OwnMs.exch o2 h dj
 ·rw [if_neg c,if_neg c]
  exact ⟨_,OwnMs.snoc o2 h dj,fun q z=>z⟩
end
noncomputable def vu (m:M) (β:zg) (i:Nat) (π:List yY) (cs:List Str) (f:Str):Option u4:=(vp β i π).bind fun nd=>match nd with
 | .obj x fs ms=>match decide (x∈cs)&&decide (fs.length<1000) with
  | true=>(putAt β i π (.obj x (uv fs f) (ww fs ms f m))).bind fun β2=>some (.nx β2)
  | false=>none
 | _=>none
noncomputable def vC (i:Nat) (π:List yY) (cs:List Str) (f:Str) (fv:yX):zj:=fun β=>(fv β).bind fun r=>vu r.1 r.2 i π cs f
noncomputable def VJ (i:Nat) (π:List yY) (cs:List Str) (f:Str) (fe:FE):zj:=fun β=>(vp β i π).bind fun nd=>match nd with
 | .obj x fs ms=>match decide (x∈cs)&&decide (fs.length<1000) with
  | true=>(getA fs ms f).bind fun c=>(v7 c).bind fun c=>match c with
   | .int a=>(fe (v3 β)).bind fun y=>match y with
    | .int b=>(putAt β i π (.obj x (uv fs f) (ww fs ms f (.fz (.int (a+b)))))).bind fun β2=>some (.nx β2)
    | _=>none
   | _=>none
  | false=>none
 | _=>none
section
variable {X:Cx} {np:Nat} {o v:Expr} {i:Nat} {π:List yY} {cs:List Str} {f:Str} {fv:yX} {fe:FE} {pos pos' tpos:Pos}
theorem uN (ho:SP X o i π) (k:xD X.K cs f) (hv:MC X v fv) (hs:swapsWith v (some (.Attribute o f pos')) pos.line X.env=pure false:=by rfl):MS X np (.Assign [.Attribute o f pos'] v pos) (vC i π cs f fv):=by
 obtain ⟨tv,pv,kv⟩:=hv.h
 obtain ⟨to,po,ko⟩:=ho.h
 refine ⟨⟨_,EK po pv hs,fun {P G0 H0 G H β σ fl E} hP K hf q=>?_⟩⟩
 obtain ⟨⟨m,β1⟩,hy,hf⟩:=zD hf
 obtain ⟨nd,hn,hf⟩:=zD (show (vp β1 i π).bind _=_ from hf)
 split at hf
 ·rename_i x fs ms
  split at hf
  ·rename_i c
   rw [Bool.and_eq_true] at c
   have hx:=of_decide_eq_true c.1
   have hl:=of_decide_eq_true c.2
   obtain ⟨β2,hβ,hf⟩:=zD hf
   cases hf
   obtain ⟨mm,hm,ha⟩:=pY hn
   refine kv K hy fun w G1 H1 s1 K1=>?_
   obtain ⟨r,v1,L1,Lr,er,va,o1,orr,dj,wr⟩:=K1.write K.lp hm ha
   obtain ⟨p,C,dx,vs,L',rfl,ns,hp,l,rs,nL,uL⟩:=o1
   obtain ⟨cl,na⟩:=k x hx C ns
   have k1:∀ q,q≠p->(zR H1 p (.ins C dx (putF f w (fs.zip vs)))) q=H1 q:=fun q z=>z_ z
   have rs':OwnMs X.K G1 (zR H1 p (.ins C dx (putF f w (fs.zip vs)))) ms vs L':=OwnMs.imp (fun m' _ v' L3 s o=>o.loc (zf.refl _) m' v' L3 fun q z=>k1 q fun c=>nL (c ▸ s q z)) rs
   have or':yF X.K G1 (zR H1 p (.ins C dx (putF f w (fs.zip vs)))) m w Lr:=orr.loc (zf.refl _) m w Lr fun q z=>k1 q fun c=>dj q ((uL q).mpr (.inl c)) z
   obtain ⟨L3,o3,s3⟩:=OwnMs.putF (f:=f) (fs:=fs) or' rs' (fun q a b=>dj q ((uL q).mpr (.inr a)) b)
   obtain ⟨m',e',K5⟩:=wr (H':=zR H1 p (.ins C dx (putF f w (fs.zip vs)))) (m2:=.obj x (uv fs f) (ww fs ms f m)) (L2:=fun q=>q=p\/L3 q) (fun q z=>k1 q fun c=>z ((uL q).mpr (.inl c)))
    ⟨p,C,dx,ww fs vs f w,L3,rfl,ns,by rw [yk,Vb l],Jt l,o3,fun z=>by
     rcases s3 p z with z | z
     ·exact nL z
     ·exact dj p ((uL p).mpr (.inl rfl)) z,fun q=>Iff.rfl⟩ (fun q z=>by
     rcases z with rfl | z
     ·exact .inl ((uL q).mpr (.inl rfl))
     ·rcases s3 q z with z | z
      ·exact .inl ((uL q).mpr (.inr z))
      ·exact .inr z)
   rw [kG hm e'] at hβ
   cases hβ
   exact ko er va ⟨p,C,dx,_,rfl,hp,cl,na,by rw [List.length_zip,l,Nat.min_self,<- l]; exact hl,q _ _ _ K5⟩
  ·cases hf
 ·cases hf
theorem Dc (ho:SP X o i π) (k:xD X.K cs f) (hv:SE X v fe):MS X np (.AugAssign (.Attribute o f tpos) .Add v pos) (VJ i π cs f fe):=by
 obtain ⟨tv,pv,kv⟩:=hv.h
 obtain ⟨to,po,ko⟩:=ho.h
 refine ⟨⟨_,EL po pv BV,fun {P G0 H0 G H β σ fl E} hP K hf q=>?_⟩⟩
 obtain ⟨nd,hn,hf⟩:=zD hf
 split at hf
 ·rename_i x fs ms
  split at hf
  ·rename_i c
   rw [Bool.and_eq_true] at c
   have hx:=of_decide_eq_true c.1
   have hl:=of_decide_eq_true c.2
   obtain ⟨ch,hch,hf⟩:=zD hf
   obtain ⟨dc,hdc,hg⟩:=zD hf
   cases pM hdc
   split at hg
   ·rename_i a
    obtain ⟨y,hy,hf⟩:=zD hg
    split at hf
    ·rename_i b
     obtain ⟨β2,hβ,hf⟩:=zD hf
     cases hf
     obtain ⟨mm,hm,ha⟩:=pY hn
     have K0:=K.pushF (d:=.non) (v:=.non) rfl
     obtain ⟨r,v1,L1,Lr,er,va,o1,_⟩:=K0.write K.lp hm ha
     obtain ⟨p,C,dx,vs,L',rfl,ns,hp,l,rs,nL,uL⟩:=o1
     obtain ⟨cl,na⟩:=k x hx C ns
     obtain ⟨vc,Lc,ec,⟨rc,_⟩,_⟩:=OwnMs.focus rs hch
     cases (show vc=_ from rc)
     refine ko er va ⟨p,C,dx,_,_,rfl,hp,cl,na,by rw [Zg]; exact ec,?_⟩
     obtain ⟨Ga,Ea,back⟩:=K.thw
     refine kv Ea hy fun u G2 H2 x2 r2=>?_
     cases (show u=_ from r2)
     obtain ⟨G3,x3,K3,_⟩:=back _ _ x2
     have K4:=K3.pushF (d:=.int (a+b)) (v:=.int (a+b)) rfl
     obtain ⟨r',v1',L1',Lr',er',va',o1',orr,dj,wr⟩:=K4.write K.lp hm ha
     rw [er] at er'
     cases er'
     cases yz.one (va.mono x3.h) va'
     obtain ⟨p',C',dx',vs',L'',e0,ns',hp',l',rs',nL',uL'⟩:=o1'
     cases e0
     have eC:C'=C:=by rw [ns] at ns'; cases ns'; rfl
     subst eC
     have k1:∀ q,q≠p->(zR H2 p (.ins C' dx' (putF f (V.int (a+b)) (fs.zip vs')))) q=H2 q:=fun q z=>z_ z
     have rs2:OwnMs X.K G3 (zR H2 p (.ins C' dx' (putF f (V.int (a+b)) (fs.zip vs')))) ms vs' L'':=OwnMs.imp (fun m' _ v' L3 s o=>o.loc (zf.refl _) m' v' L3 fun q z=>k1 q fun c=>nL' (c ▸ s q z)) rs'
     obtain ⟨L3,o3,s3⟩:=OwnMs.putF (f:=f) (fs:=fs) (m2:=.fz (.int (a+b))) (v2:=.int (a+b)) (L2:=fun _=>False) ⟨rfl,fun _ z=>z⟩ rs2 (fun q _ z=>z)
     obtain ⟨m',e',K5⟩:=wr (H':=zR H2 p (.ins C' dx' (putF f (V.int (a+b)) (fs.zip vs')))) (m2:=.obj x (uv fs f) (ww fs ms f (.fz (.int (a+b))))) (L2:=fun q=>q=p\/L3 q) (fun q z=>k1 q fun c=>z ((uL' q).mpr (.inl c)))
      ⟨p,C',dx',ww fs vs' f _,L3,rfl,ns,by rw [yk,Vb l'],Jt l',o3,fun z=>by
       rcases s3 p z with z | z
       ·exact nL' z
       ·exact z,fun q=>Iff.rfl⟩ (fun q z=>by
       rcases z with rfl | z
       ·exact .inl ((uL' q).mpr (.inl rfl))
       ·rcases s3 q z with z | z
        ·exact .inl ((uL' q).mpr (.inr z))
        ·exact z.elim)
     rw [kG hm e'] at hβ
     cases hβ
     exact ⟨_,_,rfl,rfl,dx',_,hp',by rw [List.length_zip,l',Nat.min_self,<- l']; exact hl,q _ _ _ K5⟩
    ·cases hf
   ·cases hg
  ·cases hf
 ·cases hf
end
end L3
namespace L3
open PySem PySem.Spec PyProof.Rows L2
open Classical in
noncomputable def wj (H:Hp) (L:Ft):Hp:=fun q=>if L q then none else H q
theorem Q4 {H:Hp} {L:Ft} {q:Addr} (h:L q):wj H L q=none:=by unfold wj; rw [if_pos h]
theorem ub {H:Hp} {L:Ft} {q:Addr} (h:¬ L q):wj H L q=H q:=by unfold wj; rw [if_neg h]
theorem WY {H:Hp} {L:Ft} {q:Addr} (h:wj H L q=none):L q\/H q=none:=by
 by_cases c:L q
 ·exact .inl c
 ·rw [ub c] at h; exact .inr h
noncomputable abbrev FM:=List M->Option (List M×M)
noncomputable def zx (K:PySem.W.Frag) (F:FM):Sp:=fun vs H Q _=>∃ G ms L ms' m',zf G H/\OwnMs K G H ms vs L/\(∀ q,L q->G q=none)/\F ms=some (ms',m')/\
 ∀ v G' H' L',zL G (wj H L) G' H'->OwnMs K G' H' (m'::ms') (v::vs) L'->(∀ q,L' q->G' q=none/\wj H L q=none)->Q v H'
section
variable {K:PySem.W.Frag} {n:Nat} {P:List V} {G0 H0 G H G' H':Hp} {β:zg} {σ:St}
theorem zV.pushN {m:M} {v:V} {L:Ft} (E:zV K n P G0 H0 G H β σ) (x:zL G H G' H') (o:yF K G' H' m v L) (hL:∀ q,L q->G' q=none/\H q=none):zV K (n+1) P G0 H0 G' H' (β++[some m]) (σ++[some v]):=by
 obtain ⟨Ls,F⟩:=E.own
 have E':=E.go x
 have hz:∀ i q,Ls i q->L q->False:=fun i q z c=>(F.ok i q z).2.2.some (hL q c).2
 refine ⟨E'.ext,by rw [List.length_append,E.l1]; rfl,by rw [List.length_append,E.l2]; rfl,by have:=E.lp; omega,fun i u h=>?_,fun j=>if j<n then Ls j else if j=n then L else fun _=>False,fun i m' h=>?_,fun i j q ne z1 z2=>?_,fun i q z=>?_⟩
 ·have hi:i<σ.length:=by
   rw [E.l1]
   exact Nat.lt_of_lt_of_le (List.getElem?_eq_some_iff.mp h).1 E.lp
  rw [xg hi]
  exact E.pin i u h
 ·rcases kU h with ⟨c,e⟩ | ⟨c,e⟩
  ·rw [E.l2] at c
   obtain ⟨u,eu,ou⟩:=F.at_ i m' e
   refine ⟨u,by rw [xg (by rw [E.l1]; exact c)]; exact eu,?_⟩
   simp only [if_pos c]
   refine ou.loc x.g m' u _ fun q z=>?_
   obtain ⟨w,hw,_⟩:=(F.ok i q z).2.2
   rw [hw]
   exact x.h _ _ hw
  ·cases e
   rw [E.l2] at c
   subst c
   refine ⟨_,wz E.l1,?_⟩
   simp only [Nat.lt_irrefl,if_false,if_true]
   exact o
 ·split at z1
  ·split at z2
   ·exact F.dj i j q ne z1 z2
   ·split at z2
    ·exact hz i q z1 z2
    ·exact z2
  ·split at z1
   ·split at z2
    ·exact hz j q z2 z1
    ·split at z2
     ·exact ne (by omega)
     ·exact z2
   ·exact z1
 ·split at z
  ·obtain ⟨a,b,c⟩:=F.ok i q z
   obtain ⟨a',c'⟩:=WQ x a c
   exact ⟨a',b,c'⟩
  ·split at z
   ·exact ⟨(hL q z).1,E.ext.h.free (hL q z).2,o.cells m v _ q z⟩
   ·exact z.elim
theorem zV.back {m nd:M} {i:Nat} {π:List yY} (E:zV K n P G0 H0 G H β σ) (hm:β[i]?=some (some m)) (ha:vJ m π=some nd) :
  ∃ r v1 L1,σ[i]?=some (some r)/\yz K H r π v1/\yF K G H nd v1 L1/\(∀ q,L1 q->G q=none)/\
   ∀ {G' H':Hp} {m' nd':M} {v:V} {Lr L2:Ft},zL G (wj H L1) G' H'->yF K G' H' m' v Lr->yF K G' H' nd' v1 L2->(∀ q,Lr q->L2 q->False)->(∀ q,Lr q\/L2 q->G' q=none/\wj H L1 q=none)->
    ∃ mm,vE m π nd'=some mm/\zV K (n+1) P G0 H0 G' H' (β.set i (some mm)++[some m']) (σ++[some v]):=by
 obtain ⟨Ls,F⟩:=E.own
 have hi:i<n:=by rw [<- E.l2]; exact (List.getElem?_eq_some_iff.mp hm).1
 obtain ⟨r,er,om⟩:=F.at_ i m hm
 obtain ⟨v1,L1,va,o1,s1,re⟩:=om.focus ha
 refine ⟨r,v1,L1,er,va,o1,fun q z=>(F.ok i q (s1 q z)).1,fun {G' H' m' nd' v Lr L2} x or o2 dj hN=>?_⟩
 have keep:∀ j q,Ls j q->¬ L1 q->H' q=H q:=fun j q z w=>by
  obtain ⟨u,hu,_⟩:=(F.ok j q z).2.2
  rw [hu]
  exact x.h _ _ ((ub w).trans hu)
 have old:∀ j q,Ls j q->¬ L1 q->(Lr q\/L2 q)->False:=fun j q z w c=>by
  have e:=(hN q c).2
  rw [ub w] at e
  exact (F.ok j q z).2.2.some e
 obtain ⟨mm,e',o'⟩:=re x.g (fun q z w=>keep i q z w) o2 (fun q z w=>by
  by_cases c:L1 q
  ·exact c
  ·exact (old i q w c (.inr z)).elim)
 have dj1:∀ j q,j≠i->Ls j q->¬ L1 q:=fun j q ne z w=>F.dj i j q (fun c=>ne c.symm) (s1 q w) z
 have g0:∀ q,wj H L1 q=none->H0 q=none:=fun q z=>by
  rcases WY z with z | z
  ·exact (F.ok i q (s1 q z)).2.1
  ·exact E.ext.h.free z
 have hlen1:(β.set i (some mm)).length=n:=by rw [List.length_set]; exact E.l2
 refine ⟨mm,e',⟨E.ext.g.trans x.g,fun q o z=>x.h _ _ ?_,x.gh,fun q z=>?_⟩,by rw [List.length_append,E.l1]; rfl,by rw [List.length_append,hlen1]; rfl,by have:=E.lp; omega,fun j u h=>?_,fun j=>if j=i then (fun q=>(Ls i q/\¬ L1 q)\/L2 q) else if j<n then Ls j else if j=n then Lr else fun _=>False,fun j m3 h=>?_,fun j k q ne z1 z2=>?_,fun j q z=>?_⟩
 ·rw [ub fun w=>by rw [(F.ok i q (s1 q w)).2.1] at z; cases z]
  exact E.ext.h _ _ z
 ·rcases x.new q z with w | w
  ·exact E.ext.new q w
  ·exact .inr (g0 q w)
 ·have hj:j<σ.length:=by
   rw [E.l1]
   exact Nat.lt_of_lt_of_le (List.getElem?_eq_some_iff.mp h).1 E.lp
  rw [xg hj]
  exact E.pin j u h
 ·rcases kU h with ⟨c,e⟩ | ⟨c,e⟩
  ·rw [hlen1] at c
   rcases wx e with ⟨rfl,w⟩ | ⟨ne,w⟩
   ·cases w
    simp only [if_true]
    exact ⟨r,by rw [xg (by rw [E.l1]; exact c)]; exact er,o'⟩
   ·obtain ⟨u,eu,ou⟩:=F.at_ j m3 w
    simp only [if_neg ne,if_pos c]
    exact ⟨u,by rw [xg (by rw [E.l1]; exact c)]; exact eu,ou.loc x.g m3 u _ fun q z=>keep j q z (dj1 j q ne z)⟩
  ·cases e
   rw [hlen1] at c
   subst c
   refine ⟨_,wz E.l1,?_⟩
   simp only [if_neg (Nat.ne_of_gt hi),Nat.lt_irrefl,if_false,if_true]
   exact or
 ·have a1:∀ j,j≠i->∀ q,(Ls i q/\¬ L1 q)\/L2 q->Ls j q->False:=fun j ne q z1 z2=>by
   rcases z1 with ⟨z1,_⟩ | z1
   ·exact F.dj i j q (fun c=>ne c.symm) z1 z2
   ·exact old j q z2 (dj1 j q ne z2) (.inr z1)
  have a2:∀ q,(Ls i q/\¬ L1 q)\/L2 q->Lr q->False:=fun q z1 z2=>by
   rcases z1 with ⟨z1,w⟩ | z1
   ·exact old i q z1 w (.inl z2)
   ·exact dj q z2 z1
  have a3:∀ j,j≠i->∀ q,Ls j q->Lr q->False:=fun j ne q z1 z2=>old j q z1 (dj1 j q ne z1) (.inl z2)
  split at z1
  ·split at z2
   ·exact ne (by omega)
   ·split at z2
    ·exact a1 k (by omega) q z1 z2
    ·split at z2
     ·exact a2 q z1 z2
     ·exact z2
  ·split at z1
   ·split at z2
    ·exact a1 j (by omega) q z2 z1
    ·split at z2
     ·exact F.dj j k q ne z1 z2
     ·split at z2
      ·exact a3 j (by omega) q z1 z2
      ·exact z2
   ·split at z1
    ·split at z2
     ·exact a2 q z2 z1
     ·split at z2
      ·exact a3 k (by omega) q z2 z1
      ·split at z2
       ·exact ne (by omega)
       ·exact z2
    ·exact z1
 ·have nw:∀ q,Ls j q->¬ L1 q->G' q=none/\H0 q=none/\Bx H' q:=fun q z w=>by
   obtain ⟨a,b,u,hu,cu⟩:=F.ok j q z
   refine ⟨?_,b,u,(keep j q z w).trans hu,cu⟩
   cases e:G' q with
   | none=>rfl
   | some o=>
    rcases x.new q (by rw [e]; exact fun z=>nomatch z) with c | c
    ·exact absurd a c
    ·rw [ub w,hu] at c
     cases c
  split at z
  ·rename_i ej
   subst ej
   rcases z with ⟨z,w⟩ | z
   ·exact nw q z w
   ·exact ⟨(hN q (.inr z)).1,g0 q (hN q (.inr z)).2,o2.cells nd' _ _ q z⟩
  ·rename_i ne
   split at z
   ·exact nw q z (dj1 j q ne z)
   ·split at z
    ·exact ⟨(hN q (.inl z)).1,g0 q (hN q (.inl z)).2,or.cells m' _ _ q z⟩
    ·exact z.elim
end
inductive AV where
 | v (d:D) | p (i:Nat) (π:List yY)
noncomputable abbrev xi:=zg->Option (List AV)
noncomputable def qr (K:PySem.W.Frag) (G H:Hp) (σ:St):List AV->List V->Prop
 | [],vs=>vs=[]
 | .v d::as,vs=>∃ v r,vs=v::r/\zK K G d v/\qr K G H σ as r
 | .p i π::as,vs=>∃ v r w,vs=v::r/\σ[i]?=some (some w)/\yz K H w π v/\qr K G H σ as r
structure MA (X:Cx) (es:List Expr) (f:xi):Prop where
 h:∃ t,PA X es t/\∀ {P:List V} {G0 H0 G H:Hp} {β:zg} {σ:St} {as:List AV} {Q:List V->Hp->Prop},zV X.K X.N.length P G0 H0 G H β σ->f β=some as->(∀ vs G' H',zL G H G' H'->qr X.K G' H' σ as vs->Q vs H')->t σ H Q
noncomputable def xU:xi:=fun _=>some []
noncomputable def jJ (f:FE) (r:xi):xi:=fun β=>(f (v3 β)).bind fun d=>match xo d with
 | true=>(r β).bind fun as=>some (.v d::as)
 | false=>none
noncomputable def xw (f:FE) (r:xi):xi:=fun β=>(f (uH β)).bind fun d=>(r β).bind fun as=>some (.v d::as)
noncomputable def Z9 (f:FE) (r:xi):xi:=fun β=>(f (v3 β)).bind fun d=>match gz d with
 | true=>(r β).bind fun as=>some (.v d::as)
 | false=>none
noncomputable def u9:M->Nat->List yY->AV
 | .fz d,_,_=>.v d
 | _,i,π=>.p i π
noncomputable def wU (i:Nat) (π:List yY) (r:xi):xi:=fun β=>(vp β i π).bind fun nd=>(r β).bind fun as=>some (u9 nd i π::as)
section
variable {X:Cx} {e:Expr} {es:List Expr} {f:FE} {r:xi} {i:Nat} {π:List yY}
theorem wq:MA X [] xU:=⟨⟨_,kB,fun E hf q=>by cases hf; exact q _ _ _ (zL.refl E.ext.gh) rfl⟩⟩
theorem Zi (he:SE X e f) (hr:MA X es r) (h:yH e=true:=by rfl):MA X (e::es) (jJ f r):=by
 obtain ⟨t,p,k⟩:=he.h
 obtain ⟨t',p',k'⟩:=hr.h
 refine ⟨⟨_,qg p p' h,fun E hf q=>?_⟩⟩
 obtain ⟨d,hd,hf⟩:=zD hf
 split at hf
 ·rename_i c
  obtain ⟨as,has,hf⟩:=zD hf
  cases hf
  obtain ⟨G1,E1,back⟩:=E.thw
  refine k E1 hd fun v G2 H2 x r=>?_
  obtain ⟨G3,x3,E3,r3,_⟩:=back _ _ x
  refine k' E3 has fun vs G' H' x' rr=>q _ _ _ (x3.trans x') ⟨v,vs,rfl,(r3 d v c r).mono x'.g,rr⟩
 ·cases hf
theorem wY (he:SE X e f) (hr:MA X es r) (h:yH e=true:=by rfl):MA X (e::es) (xw f r):=by
 obtain ⟨t,p,k⟩:=he.h
 obtain ⟨t',p',k'⟩:=hr.h
 refine ⟨⟨_,qg p p' h,fun E hf q=>?_⟩⟩
 obtain ⟨d,hd,hf⟩:=zD hf
 obtain ⟨as,has,hf⟩:=zD hf
 cases hf
 refine k E.hid hd fun v G2 H2 x r=>?_
 exact k' (E.go x) has fun vs G' H' x' rr=>q _ _ _ (x.trans x') ⟨v,vs,rfl,r.mono x'.g,rr⟩
theorem DI (he:SF X e f) (hr:MA X es r) (h:yH e=true:=by rfl):MA X (e::es) (Z9 f r):=by
 obtain ⟨t,p,k⟩:=he.h
 obtain ⟨t',p',k'⟩:=hr.h
 refine ⟨⟨_,qg p p' h,fun E hf q=>?_⟩⟩
 obtain ⟨d,hd,hf⟩:=zD hf
 split at hf
 ·rename_i c
  obtain ⟨as,has,hf⟩:=zD hf
  cases hf
  obtain ⟨G1,E1,back⟩:=E.thw
  refine k E1 hd fun p G2 H2 x hp gp o=>?_
  obtain ⟨G3,x3,E3,_,rs,fr⟩:=back _ _ x
  obtain ⟨u,hu,ru⟩:=(JK rs c o).frz (fr p gp)
  have x4:=x3.frz hp (fr p gp) hu
  exact k' (E.go x4) has fun vs G' H' x' rr=>q _ _ _ (x4.trans x') ⟨_,vs,rfl,ru.mono x'.g,rr⟩
 ·cases hf
theorem vD (he:SP X e i π) (hr:MA X es r) (h:yH e=true:=by rfl):MA X (e::es) (wU i π r):=by
 obtain ⟨t,p,k⟩:=he.h
 obtain ⟨t',p',k'⟩:=hr.h
 refine ⟨⟨_,qg p p' h,fun E hf q=>?_⟩⟩
 obtain ⟨nd,hn,hf⟩:=zD hf
 obtain ⟨as,has,hf⟩:=zD hf
 obtain ⟨mm,hm,ha⟩:=pY hn
 obtain ⟨w,v1,L1,er,va,o1,_⟩:=E.back hm ha
 refine k er va (k' E has fun vs G' H' x' rr=>q _ _ _ x' ?_)
 cases nd with
 | fz d=>cases hf; exact ⟨v1,vs,rfl,o1.1.mono x'.g,rr⟩
 | own d=>cases hf; exact ⟨v1,vs,w,rfl,er,va.mono x'.h,rr⟩
 | obj x fs ms=>cases hf; exact ⟨v1,vs,w,rfl,er,va.mono x'.h,rr⟩
 | tab ks ms=>cases hf; exact ⟨v1,vs,w,rfl,er,va.mono x'.h,rr⟩
end
noncomputable def qC:List AV->Option (List D)
 | []=>some []
 | .v d::as=>(qC as).bind fun ds=>some (d::ds)
 | .p _ _::_=>none
noncomputable def jO:List AV->Option (List D×Nat×List yY×List D)
 | []=>none
 | .v d::as=>(jO as).bind fun r=>some (d::r.1,r.2)
 | .p i π::as=>(qC as).bind fun b=>some ([],i,π,b)
noncomputable def wn (ds:List D):List M:=ds.map .fz
noncomputable def qV (F:FM) (as:List AV) (β:zg):Option (M×zg):=match qC as with
 | some ds=>(F (wn ds)).bind fun r=>some (r.2,β)
 | none=>(jO as).bind fun c=>(vp β c.2.1 c.2.2.1).bind fun nd=>(F (wn c.1++nd::wn c.2.2.2)).bind fun r=>(r.1[c.1.length]?).bind fun nd'=>(putAt β c.2.1 c.2.2.1 nd').bind fun β'=>some (r.2,β')
noncomputable def wg (F:FM) (f:xi):yX:=fun β=>(f β).bind fun as=>qV F as β
section
variable {K:PySem.W.Frag} {n:Nat} {P:List V} {G0 H0 G H G' H':Hp} {β:zg} {σ:St}
theorem jl:∀ {ds:List D} {vs:List V},Reps K G ds vs->OwnMs K G H (wn ds) vs (fun _=>False)
 | [],_,r=>⟨r,fun _ z=>z⟩
 | d::ds,_,r=>by
  obtain ⟨v,r,rfl,hv,hr⟩:=r
  exact ⟨v,r,fun _=>False,fun _=>False,rfl,⟨hv,fun _ z=>z⟩,jl hr,fun _ z=>z.elim,fun q=>⟨fun z=>z.elim,fun z=>z.elim id id⟩⟩
theorem JX {nd:M} {v1:V} {L1:Ft} (o:yF K G H nd v1 L1) {b:List D} {vb:List V} (rb:Reps K G b vb):∀ {a:List D} {va:List V},Reps K G a va->OwnMs K G H (wn a++nd::wn b) (va++v1::vb) L1
 | [],va,r=>by
  cases (show va=[] from r)
  exact ⟨v1,vb,L1,fun _=>False,rfl,o,jl rb,fun _ _ z=>z,fun q=>⟨.inl,fun z=>z.elim id False.elim⟩⟩
 | d::ds,_,r=>by
  obtain ⟨v,r,rfl,hv,hr⟩:=r
  exact ⟨v,_,fun _=>False,L1,rfl,⟨hv,fun _ z=>z⟩,JX o rb hr,fun _ z=>z.elim,fun q=>⟨.inr,fun z=>z.elim False.elim id⟩⟩
theorem gT:∀ {as:List AV} {ds:List D} {vs:List V},qC as=some ds->qr K G H σ as vs->Reps K G ds vs
 | [],ds,vs,e,r=>by cases e; exact r
 | .v d::as,ds,vs,e,r=>by
  obtain ⟨ds',e',e⟩:=zD e
  cases e
  obtain ⟨v,r,rfl,hv,hr⟩:=r
  exact ⟨v,r,rfl,hv,gT e' hr⟩
 | .p i π::as,ds,vs,e,r=>by cases e
theorem Tb:∀ {as:List AV} {a b:List D} {i:Nat} {π:List yY} {vs:List V},jO as=some (a,i,π,b)->qr K G H σ as vs->∃ va v1 vb w,vs=va++v1::vb/\Reps K G a va/\Reps K G b vb/\σ[i]?=some (some w)/\yz K H w π v1
 | [],a,b,i,π,vs,e,r=>by cases e
 | .v d::as,a,b,i,π,vs,e,r=>by
  obtain ⟨⟨a',i',π',b'⟩,e',e⟩:=zD e
  cases e
  obtain ⟨v,r,rfl,hv,hr⟩:=r
  obtain ⟨va,v1,vb,w,rfl,ra,rb,ew,va'⟩:=Tb e' hr
  exact ⟨v::va,v1,vb,w,rfl,⟨v,va,rfl,hv,ra⟩,rb,ew,va'⟩
 | .p j ρ::as,a,b,i,π,vs,e,r=>by
  obtain ⟨b',e',e⟩:=zD e
  cases e
  obtain ⟨v,r,w,rfl,ew,va,hr⟩:=r
  exact ⟨[],v,r,w,rfl,rfl,gT e' hr,ew,va⟩
theorem Zp {v1:V} {nd:M}:∀ {ms:List M} {vs:List V} {L:Ft} {k:Nat},OwnMs K G H ms vs L->ms[k]?=some nd->vs[k]?=some v1->∃ L2,yF K G H nd v1 L2/\∀ q,L2 q->L q
 | [],_,_,_,_,e,_=>by cases e
 | m::ms,_,L,0,h,e1,e2=>by
  obtain ⟨v,r,La,Lb,rfl,hv,hr,d,u⟩:=h
  cases e1
  cases e2
  exact ⟨La,hv,fun q z=>(u q).mpr (.inl z)⟩
 | m::ms,_,L,k+1,h,e1,e2=>by
  obtain ⟨v,r,La,Lb,rfl,hv,hr,d,u⟩:=h
  obtain ⟨L2,o,s⟩:=Zp (k:=k) hr (by simpa using e1) (by simpa using e2)
  exact ⟨L2,o,fun q z=>(u q).mpr (.inr (s q z))⟩
theorem zV.call {F:FM} {as:List AV} {vs:List V} {m:M} {β':zg} {Q:VK} {E0:XK} (E:zV K n P G0 H0 G H β σ) (ra:qr K G H σ as vs) (hf:qV F as β=some (m,β')) (q:∀ v G' H',zf G G'->zV K (n+1) P G0 H0 G' H' (β'++[some m]) (σ++[some v])->Q v H'):zx K F vs H Q E0:=by
 unfold qV at hf
 split at hf
 ·rename_i ds e
  obtain ⟨⟨ms',m'⟩,hF,hf⟩:=zD hf
  cases hf
  refine ⟨G,_,_,_,_,E.ext.gh,jl (gT e ra),fun _ z=>z.elim,hF,fun v G' H' L' x o hN=>?_⟩
  have ec:wj H (fun _=>False)=H:=by
   funext q
   exact ub (fun z=>z)
  rw [ec] at x
  obtain ⟨v',r',La,Lb,e2,o1,o2,dj,u⟩:=o
  cases e2
  exact q v G' H' x.g (E.pushN x o1 fun q z=>by
   obtain ⟨a,b⟩:=hN q ((u q).mpr (.inl z))
   rw [ec] at b
   exact ⟨a,b⟩)
 ·obtain ⟨⟨a,i,π,b⟩,hc,hf⟩:=zD hf
  obtain ⟨nd,hn,hf⟩:=zD hf
  obtain ⟨⟨ms',m'⟩,hF,hf⟩:=zD hf
  obtain ⟨nd',hnd,hf⟩:=zD hf
  obtain ⟨β2,hβ,hf⟩:=zD hf
  cases hf
  obtain ⟨mm,hm,ha⟩:=pY hn
  obtain ⟨w,v1,L1,er,va,o1,g1,bk⟩:=E.back hm ha
  obtain ⟨xa,v1',xb,w',rfl,r1,r2,er',va'⟩:=Tb hc ra
  rw [er] at er'
  cases er'
  cases yz.one va va'
  refine ⟨G,_,L1,_,_,E.ext.gh,JX o1 r2 r1,g1,hF,fun v G' H' L' x o hN=>?_⟩
  obtain ⟨v',r',La,Lb,e2,oa,ob,dj,u⟩:=o
  cases e2
  obtain ⟨L2,o2,s2⟩:=Zp (v1:=v1) ob hnd (by
   rw [<- r1.length,List.getElem?_append_right (Nat.le_refl _),Nat.sub_self]
   rfl)
  obtain ⟨m3,e3,K3⟩:=bk x oa o2 (fun q z w=>dj q z (s2 q w)) (fun q z=>by
   rcases z with z | z
   ·exact hN q ((u q).mpr (.inl z))
   ·exact hN q ((u q).mpr (.inr (s2 q z))))
  rw [kG hm e3] at hβ
  cases hβ
  exact q v G' H' x.g K3
end
section
variable {X:Cx} {x m c:Str} {ps:List Str} {j k:Nat} {F:FM} {e o:Expr} {es:List Expr} {fa:xi} {p pos apos:Pos} {i:Nat} {π:List yY}
theorem uq (h:zi X.prog X.w X.K X.mg X.base x ps k (zx X.K F)) (hr:zt j X.A) (hg:Gl X x) (ha:MA X (e::es) fa) (hk:k<=j:=by decide) (hdb:(x == ("__debug__" : Str))=false:=by decide)
  (he:(e::es).all yH=true:=by rfl):MC X (.Call (.Name x p) (e::es) [] pos) (wg F fa):=by
 obtain ⟨t,pa,ka⟩:=ha.h
 refine ⟨⟨_,VX h hr hg pa hk hdb he,fun E hf q=>?_⟩⟩
 obtain ⟨as,has,hf⟩:=zD hf
 refine ka E has fun vs G1 H1 x1 ra=>?_
 rw [List.append_nil]
 exact (E.go x1).call ra hf fun v G' H' s K'=>q v G' H' (x1.g.trans s) K'
noncomputable def xy (P:Program) (w:World) (K:PySem.W.Frag) (mg:Str->Option Value) (base:Heap) (c m:Str) (ps:List Str) (k:Nat) (sp:Sp):Prop:=
 ∃ (C f:Addr) (fd:FuncData),PySem.W.nsIn K mainGlobals c=some (some (.ref C))/\wR K C/\Z1 K C m f/\xB K fd ps []/\yO P w K mg base yJ k f fd ps sp
noncomputable def tP (c m:Str) (i:Nat) (π:List yY) (F:FM) (f:xi):yX:=fun β=>(vp β i π).bind fun nd=>match nd with
 | .obj x fs _=>match decide (x=c)&&!(decide (m∈fs)) with
  | true=>(f β).bind fun as=>qV F (.p i π::as) β
  | false=>none
 | _=>none
theorem VG {f:Str}:∀ {fs:List Str} {vs:List V},f ∉ fs->(fs.zip vs).lookup f=none
 | [],_,_=>rfl
 | _::_,[],_=>rfl
 | g::fs,v::vs,h=>by
  rw [List.zip_cons_cons,List.lookup_cons]
  have c:(f == g)=false:=by
   have:f≠g:=fun z=>h (z ▸ List.mem_cons_self)
   simpa using this
  rw [c]
  exact VG fun z=>h (List.mem_cons_of_mem _ z)
theorem Tw {P:List V} {G0 H0 G H:Hp} {β β':zg} {σ:St} {mr:M} {Q:VK} {C:Addr} {t:TA} {to:TE} {E0:XK} (nsC:PySem.W.nsIn X.K mainGlobals c=some (some (.ref C)))
  (ko:∀ {σ:St} {H:Hp} {v u:V} {Q:VK},σ[i]?=some (some v)->yz X.K H v π u->Q u H->to σ H Q)
  (ka:∀ {P:List V} {G0 H0 G H:Hp} {β:zg} {σ:St} {as:List AV} {Q:List V->Hp->Prop},zV X.K X.N.length P G0 H0 G H β σ->fa β=some as->(∀ vs G' H',zL G H G' H'->qr X.K G' H' σ as vs->Q vs H')->t σ H Q)
  (E:zV X.K X.N.length P G0 H0 G H β σ) (hf:tP c m i π F fa β=some (mr,β')) (q:∀ v G' H',zf G G'->zV X.K (X.N.length+1) P G0 H0 G' H' (β'++[some mr]) (σ++[some v])->Q v H'):YC C m (zx X.K F) [] E0 to t σ H Q:=by
 obtain ⟨nd,hn,hf⟩:=zD hf
 split at hf
 ·rename_i x fs ms
  split at hf
  ·rename_i cc
   rw [Bool.and_eq_true] at cc
   cases of_decide_eq_true cc.1
   have hm:m ∉ fs:=by
    have:=cc.2
    simpa using this
   obtain ⟨as,has,hf⟩:=zD hf
   obtain ⟨mm,hmm,ha⟩:=pY hn
   obtain ⟨w,v1,L1,er,va,o1,_⟩:=E.back hmm ha
   obtain ⟨p,C',dx,vs,L',rfl,ns,hp,l,rs,nL,uL⟩:=o1
   rw [nsC] at ns
   cases ns
   refine ko er va ⟨p,dx,_,rfl,hp,VG hm,?_⟩
   refine ka E has fun vs G1 H1 x1 ra=>?_
   rw [List.append_nil]
   exact (E.go x1).call (as:=.p i π::as) ⟨_,vs,w,rfl,er,va.mono x1.h,ra⟩ hf fun v G' H' s K'=>q v G' H' (x1.g.trans s) K'
  ·cases hf
 ·cases hf
theorem DU {pl:Sem Bool} (h:xy X.prog X.w X.K X.mg X.base c m ps k (zx X.K F)) (hr:zt j X.A) (ho:SP X o i π) (ha:MA X (e::es) fa) (hk:k<=j:=by decide) (he:(e::es).all yH=true:=by rfl)
  (ht:eval (.Call (.Attribute o m apos) (e::es) [] pos) X.env=(do
   let ov <- eval o X.env
   standAt apos.atName
   let (f,first) <- holding [ov] (getMethod ov m pl)
   callWith pos f first (backTo pos (starEach (e::es) X.env)) (backToKw pos (keywordEach [] X.env))):=by rfl):MC X (.Call (.Attribute o m apos) (e::es) [] pos) (tP c m i π F fa):=by
 obtain ⟨C,f,fd,ns,cl,me,b,FF⟩:=h
 obtain ⟨t,pa,ka⟩:=ha.h
 obtain ⟨to,po,ko⟩:=ho.h
 rw [List.all_cons,Bool.and_eq_true] at he
 exact ⟨⟨_,Cp po cl me FF (hr.mono hk) b .nil uu pa (wP he.1) (t7 he.2) ht,fun E hf q=>Tw ns ko ka E hf q⟩⟩
theorem JH {pl:Sem Bool} (h:xy X.prog X.w X.K X.mg X.base c m ps k (zx X.K F)) (hr:zt j X.A) (ho:SP X o i π) (hk:k<=j:=by decide)
  (ht:eval (.Call (.Attribute o m apos) [] [] pos) X.env=(do
   let ov <- eval o X.env
   standAt apos.atName
   let (f,first) <- holding [ov] (getMethod ov m pl)
   callWith pos f first (backTo pos (starEach [] X.env)) (backToKw pos (keywordEach [] X.env))):=by rfl):MC X (.Call (.Attribute o m apos) [] [] pos) (tP c m i π F xU):=by
 obtain ⟨C,f,fd,ns,cl,me,b,FF⟩:=h
 obtain ⟨to,po,ko⟩:=ho.h
 exact ⟨⟨_,VV po cl me FF (hr.mono hk) b .nil uu ht,fun E hf q=>Tw (t:=px) ns ko (fun {P G0 H0 G H β σ as Q} E' e k'=>by cases e; exact k' _ _ _ (zL.refl E'.ext.gh) rfl) E hf q⟩⟩
noncomputable def kz (P:Program) (w:World) (K:PySem.W.Frag) (mg:Str->Option Value) (base:Heap) (c:Str) (ps:List Str) (k:Nat) (sp:Sp):Prop:=
 ∃ (C f:Addr) (fd:FuncData),PySem.W.nsIn K mainGlobals c=some (some (.ref C))/\mg c=some (.ref C)/\Mk K C f/\xB K fd ps []/\yO P w K mg base yJ k f fd ps sp
noncomputable def WT (c:Str) (F:FM) (f:xi):yX:=fun β=>(f β).bind fun as=>(qC as).bind fun ds=>(F (.obj c [] []::wn ds)).bind fun r=>match r.2 with
 | .fz .non=>(r.1[0]?).bind fun m=>some (m,β)
 | _=>none
theorem DS (h:kz X.prog X.w X.K X.mg X.base c ps k (zx X.K F)) (hr:zt j X.A) (hg:Gl X c) (ha:MA X (e::es) fa) (hk:k+1<=j:=by decide) (hdb:(c == ("__debug__" : Str))=false:=by decide) (he:(e::es).all yH=true:=by rfl) :
  MC X (.Call (.Name c p) (e::es) [] pos) (WT c F fa):=by
 obtain ⟨C,f,fd,ns,mgc,mk,b,FF⟩:=h
 obtain ⟨t,pa,ka⟩:=ha.h
 rw [List.all_cons,Bool.and_eq_true] at he
 refine ⟨⟨_,Jc mk FF (hr.mono hk) hg mgc b .nil uu pa hdb (wP he.1) (t7 he.2),fun {P G0 H0 G H β β' σ mr Q} E hf q=>?_⟩⟩
 obtain ⟨as,has,hf⟩:=zD hf
 obtain ⟨ds,hds,hf⟩:=zD hf
 obtain ⟨⟨ms',m'⟩,hF,hf⟩:=zD hf
 refine ka E has fun vs G1 H1 x1 ra y dy ny ndy ne=>?_
 rw [List.append_nil]
 have E1:=E.go x1
 have rd:=gT hds ra
 split at hf
 ·rename_i em
  change m'=.fz .non at em
  subst em
  obtain ⟨m0,h0,hf⟩:=zD hf
  cases hf
  have a1:∀ q,q≠y->q≠dy->zR (zR H1 dy (.own y)) y (.ins C dy []) q=H1 q:=fun q z w=>by rw [z_ z,z_ w]
  have gy:G1 y=none:=E1.ext.gh.free ny
  have s2:zf G1 (zR (zR H1 dy (.own y)) y (.ins C dy [])):=fun q o z=>by
   have h1:=E1.ext.gh _ _ z
   rw [a1 q (fun c=>by subst c; rw [ny] at h1; cases h1) (fun c=>by subst c; rw [ndy] at h1; cases h1)]
   exact h1
  refine ⟨G1,.obj c [] []::wn ds,fun q=>q=y,ms',.fz .non,s2,⟨_,vs,fun q=>q=y,fun _=>False,rfl,⟨y,C,dy,[],fun _=>False,rfl,ns,yk,rfl,⟨rfl,fun _ z=>z⟩,fun z=>z,fun q=>⟨.inl,fun z=>z.elim id False.elim⟩⟩,jl rd,fun _ _ z=>z,fun q=>⟨.inl,fun z=>z.elim id False.elim⟩⟩,fun q z=>z ▸ gy,hF,fun v G' H' L' x2 o hN=>?_⟩
  obtain ⟨v',r',La,Lb,e2,oa,ob,dj,u⟩:=o
  cases e2
  refine ⟨oa.1,?_⟩
  obtain ⟨L2,o2,s2'⟩:=Zp (v1:=.ref y) ob h0 rfl
  have cn:∀ q,wj (zR (zR H1 dy (.own y)) y (.ins C dy [])) (fun q=>q=y) q=none->H1 q=none:=fun q z=>by
   rcases WY z with z | z
   ·exact z ▸ ny
   ·by_cases c1:q=y
    ·exact c1 ▸ ny
    ·by_cases c2:q=dy
     ·exact c2 ▸ ndy
     ·rw [a1 q c1 c2] at z; exact z
  have x3:zL G1 H1 G' H':=⟨x2.g,fun q o z=>x2.h _ _ (by
   have c1:q≠y:=fun c=>by subst c; rw [ny] at z; cases z
   have c2:q≠dy:=fun c=>by subst c; rw [ndy] at z; cases z
   rw [ub (L:=fun q=>q=y) c1,a1 q c1 c2]
   exact z),x2.gh,fun q z=>by
   rcases x2.new q z with w | w
   ·exact .inl w
   ·exact .inr (cn q w)⟩
  exact q _ G' H' (x1.g.trans x3.g) (E1.pushN x3 o2 fun q z=>by
   obtain ⟨a,b⟩:=hN q ((u q).mpr (.inr (s2' q z)))
   exact ⟨a,cn q b⟩)
 ·cases hf
end
end L3
namespace L3
open PySem PySem.Spec PyProof.Rows L2
section
variable {K:PySem.W.Frag} {G H:Hp}
theorem OwnMs.split:∀ {ms:List M} {vs:List V} {L:Ft},OwnMs K G H ms vs L->∃ Ls:Nat->Ft,(∀ (i:Nat) (m:M),ms[i]?=some m->∃ v,vs[i]?=some v/\yF K G H m v (Ls i))/\(∀ (i j:Nat) (q:Addr),i≠j->Ls i q->Ls j q->False)/\∀ i q,Ls i q->L q
 | [],_,_,_=>⟨fun _ _=>False,⟨fun i m h=>(by cases h),⟨fun _ _ _ _ z=>z.elim,fun _ _ z=>z.elim⟩⟩⟩
 | m::ms,_,L,h=>by
  obtain ⟨v,r,La,Lb,rfl,hv,hr,d,u⟩:=h
  obtain ⟨Ls,h1,h2,h3⟩:=OwnMs.split hr
  refine ⟨fun i=>match i with | 0=>La | j+1=>Ls j,fun i m' e=>?_,fun i j q ne z1 z2=>?_,fun i q z=>?_⟩
  ·cases i with
   | zero=>cases e; exact ⟨v,rfl,hv⟩
   | succ j=>exact h1 j m' (by simpa using e)
  ·cases i with
   | zero=>
    cases j with
    | zero=>exact ne rfl
    | succ j=>exact d q z1 (h3 j q z2)
   | succ i=>
    cases j with
    | zero=>exact d q z2 (h3 i q z1)
    | succ j=>exact h2 i j q (fun c=>ne (by rw [c])) z1 z2
  ·cases i with
   | zero=>exact (u q).mpr (.inl z)
   | succ j=>exact (u q).mpr (.inr (h3 j q z))
theorem OwnMs.join:∀ {ms:List M} {vs:List V} {Ls:Nat->Ft},(∀ (i:Nat) (m:M),ms[i]?=some m->∃ v,vs[i]?=some v/\yF K G H m v (Ls i))->(∀ (i j:Nat) (q:Addr),i≠j->Ls i q->Ls j q->False)->vs.length=ms.length->∃ L,OwnMs K G H ms vs L/\∀ q,L q->∃ i,i<ms.length/\Ls i q
 | [],vs,Ls,_,_,l=>by
  cases vs with
  | nil=>exact ⟨fun _=>False,⟨rfl,fun _ z=>z⟩,fun _ z=>z.elim⟩
  | cons v r=>cases l
 | m::ms,[],Ls,_,_,l=>by cases l
 | m::ms,v::vs,Ls,h,d,l=>by
  obtain ⟨L,o,hL⟩:=OwnMs.join (ms:=ms) (vs:=vs) (Ls:=fun i=>Ls (i+1)) (fun i m' e=>by
   obtain ⟨u,eu,ou⟩:=h (i+1) m' (by simpa using e)
   exact ⟨u,by simpa using eu,ou⟩) (fun i j q ne=>d (i+1) (j+1) q (by omega)) (Nat.succ.inj l)
  obtain ⟨u,eu,ou⟩:=h 0 m rfl
  cases eu
  refine ⟨fun q=>Ls 0 q\/L q,⟨v,vs,Ls 0,L,rfl,ou,o,fun q z1 z2=>?_,fun q=>Iff.rfl⟩,fun q z=>?_⟩
  ·obtain ⟨i,_,z⟩:=hL q z2
   exact d 0 (i+1) q (by omega) z1 z
  ·rcases z with z | z
   ·exact ⟨0,Nat.succ_pos _,z⟩
   ·obtain ⟨i,hi,z⟩:=hL q z
    exact ⟨i+1,Nat.succ_lt_succ hi,z⟩
end
noncomputable def u8:List (Option M)->Option (List M)
 | []=>some []
 | o::r=>o.bind fun m=>(u8 r).bind fun ms=>some (m::ms)
noncomputable def gc (np:Nat):u4->Option (List M×M)
 | .rt m β=>(u8 (β.take np)).bind fun ms=>some (ms,m)
 | .nx β=>(u8 (β.take np)).bind fun ms=>some (ms,.fz .non)
 | _=>none
noncomputable def yq (np n:Nat) (b:zj) (ms:List M):Option (List M×M):=(b (ms.map some++List.replicate (n - ms.length) none)).bind (gc np)
noncomputable def xS (np n:Nat) (b:zj):FM:=fun ms=>if ms.length=np then yq np n b ms else none
theorem xY {np n:Nat} {b:zj}:∀ ms r,xS np n b ms=some r->ms.length=np/\yq np n b ms=some r:=fun ms r h=>by
 unfold xS at h
 split at h
 ·rename_i c
  exact ⟨c,h⟩
 ·cases h
theorem TZ:∀ {os:List (Option M)} {ms:List M},u8 os=some ms->ms.length=os.length/\∀ (i:Nat) (m:M),ms[i]?=some m->os[i]?=some (some m)
 | [],ms,h=>by cases h; exact ⟨rfl,fun i m e=>by cases e⟩
 | o::r,ms,h=>by
  obtain ⟨m0,e0,h⟩:=zD h
  obtain ⟨ms',e',h⟩:=zD h
  cases h
  subst e0
  obtain ⟨l,g⟩:=TZ e'
  refine ⟨by rw [List.length_cons,List.length_cons,l],fun i m e=>?_⟩
  cases i with
  | zero=>cases e; rfl
  | succ j=>exact g j m (by simpa using e)
section
variable {K:PySem.W.Frag}
theorem DH {N:List Str} {G H:Hp} {ms:List M} {vs:List V} {L:Ft} (s:zf G H) (o:OwnMs K G H ms vs L) (hL:∀ q,L q->G q=none) (hl:ms.length<=N.length):zV K N.length vs G (wj H L) G H (ms.map some++List.replicate (N.length - ms.length) none) (L2.start N vs):=by
 have l:=o.length
 obtain ⟨Ls,h1,h2,h3⟩:=o.split
 have cel:∀ q,L q->Bx H q:=OwnMs.cells (fun m _ v L1 oo=>oo.cells m v L1) o
 have get:∀ (i:Nat) (v:V),vs[i]?=some v->(L2.start N vs)[i]?=some (some v):=fun i v e=>by
  unfold L2.start
  rw [List.getElem?_append_left (by rw [List.length_map]; exact (List.getElem?_eq_some_iff.mp e).1),List.getElem?_map,e]
  rfl
 refine ⟨⟨zf.refl _,fun q o e=>?_,s,fun q z=>.inl z⟩,?_,?_,by omega,get,Ls,fun i m h=>?_,h2,fun i q z=>⟨hL q (h3 i q z),Q4 (h3 i q z),cel q (h3 i q z)⟩⟩
 ·by_cases c:L q
  ·rw [Q4 c] at e; cases e
  ·rw [ub c] at e; exact e
 ·unfold L2.start
  rw [List.length_append,List.length_map,List.length_replicate]
  omega
 ·rw [List.length_append,List.length_map,List.length_replicate]
  omega
 ·obtain ⟨m',e,z⟩:=Zj h
  cases z
  obtain ⟨v,ev,ov⟩:=h1 i m e
  exact ⟨v,get i v ev,ov⟩
theorem JF {n:Nat} {G0 H0 G H:Hp} {vs:List V} {β:zg} {σ:St} {m:M} {v:V} {ms:List M} (E:zV K (n+1) vs G0 H0 G H (β++[some m]) (σ++[some v])) (hn:vs.length<=n) (h:u8 (β.take vs.length)=some ms) :
  ∃ L,OwnMs K G H (m::ms) (v::vs) L/\∀ q,L q->G q=none/\H0 q=none:=by
 obtain ⟨Ls,F⟩:=E.own
 obtain ⟨l,g⟩:=TZ h
 rw [List.length_take,E.l2',Nat.min_eq_left hn] at l
 obtain ⟨u,eu,ou⟩:=F.at_ n m (wz E.l2')
 rw [wz E.l1'] at eu
 cases eu
 obtain ⟨L,o,hL⟩:=OwnMs.join (K:=K) (G:=G) (H:=H) (ms:=m::ms) (vs:=v::vs) (Ls:=fun i=>match i with | 0=>Ls n | j+1=>if j<n then Ls j else fun _=>False) (fun i m' e=>by
  cases i with
  | zero=>cases e; exact ⟨v,rfl,ou⟩
  | succ j=>
   have e':ms[j]?=some m':=by simpa using e
   have hj:j<vs.length:=by rw [<- l]; exact (List.getElem?_eq_some_iff.mp e').1
   have e2:=g j m' e'
   rw [List.getElem?_take] at e2
   rw [if_pos hj] at e2
   obtain ⟨w,ew,ow⟩:=F.at_ j m' (by rw [xg (by rw [E.l2']; omega)]; exact e2)
   have e3:=E.pin j (vs[j]) (List.getElem?_eq_getElem hj)
   rw [ew] at e3
   cases e3
   refine ⟨vs[j],by simp [hj],?_⟩
   simp only [if_pos (show j<n by omega)]
   exact ow) (fun i j q ne z1 z2=>by
  cases i with
  | zero=>
   cases j with
   | zero=>exact ne rfl
   | succ j=>
    dsimp only at z1 z2
    split at z2
    ·exact F.dj n j q (by omega) z1 z2
    ·exact z2
  | succ i=>
   cases j with
   | zero=>
    dsimp only at z1 z2
    split at z1
    ·exact F.dj n i q (by omega) z2 z1
    ·exact z1
   | succ j=>
    dsimp only at z1 z2
    split at z1
    ·split at z2
     ·exact F.dj i j q (by omega) z1 z2
     ·exact z2
    ·exact z1) (by rw [List.length_cons,List.length_cons,l])
 refine ⟨L,o,fun q z=>?_⟩
 obtain ⟨i,_,z⟩:=hL q z
 cases i with
 | zero=>exact ⟨(F.ok n q z).1,(F.ok n q z).2.1⟩
 | succ j=>
  dsimp only at z
  split at z
  ·exact ⟨(F.ok j q z).1,(F.ok j q z).2.1⟩
  ·exact z.elim
end
structure xZ (K:PySem.W.Frag) (x qual:Str) (st:Stmt) (f:Addr) (fd:FuncData):Prop where
 ex:∃ (oc:Value) (od:Option Addr) (dV kV doc pm:Value) (an:Option Addr) (cdv ct:Value) (osl:Array (Option Value)),
  fd=PySem.W.fnOf x qual (yc st) (zz st) (zH st) dV kV doc pm an cdv ct/\K.lookup f=some ⟨oc,od,.func fd,osl⟩/\PySem.W.codeIn K cdv qual=true
 kp:PySem.W.keepIn K (.ref f)=true
theorem _root_.L2.Fun.v {K:PySem.W.Frag} {x qual:Str} {st:Stmt} {f:Addr} {fd:FuncData} (F:Fun K x qual st f fd):xZ K x qual st f fd:=by
 obtain ⟨oc,od,kV,doc,pm,an,cdv,ct,osl,e,lk,hcd⟩:=F.ex
 exact ⟨⟨oc,od,.none,kV,doc,pm,an,cdv,ct,osl,e,lk,hcd⟩,F.kp⟩
section
variable {P:Program} {w:World} {K:PySem.W.Frag} {mg:Str->Option Value} {base:Heap}
theorem ue {x qual:Str} {st:Stmt} {f:Addr} {oc:Value} {od an:Option Addr} {osl:Array (Option Value)} {dV kV doc pm cdv ct:Value} (l:K.lookup f=some ⟨oc,od,.func (PySem.W.fnOf x qual (yc st) (zz st) (zH st) dV kV doc pm an cdv ct),osl⟩)
  (c:PySem.W.codeIn K cdv qual=true) (k:PySem.W.keepIn K (.ref f)=true):xZ K x qual st f (PySem.W.fnOf x qual (yc st) (zz st) (zH st) dV kV doc pm an cdv ct):=⟨⟨oc,od,dV,kV,doc,pm,an,cdv,ct,osl,rfl,l,c⟩,k⟩
theorem xZ.ok {x qual:Str} {st:Stmt} {f:Addr} {fd:FuncData} {N ps:List Str} {k:Nat} {sp:Sp} (F:xZ K x qual st f fd) (S:zX N ps (zH st)) (len:∀ vs H Q E,sp vs H Q E->vs.length=ps.length)
  (hbody:∀ (cdv:Value) (A:Around) (outer:List Env) (s:Shared) (H:Hp) (vs:List V) (Q:VK) (E:XK),zt k (A.deeper (envOfC qual (zH st) s.heap.objs.size f cdv))->sp vs H Q E->
   ∃ t,x_ (wJ yJ P w K mg base N qual (zH st) f cdv A outer s H E).nox (zz st) t/\t { nx:=fun _ H'=>Q .non H',rt:=Q } (start N vs) H):yO P w K mg base yJ (k+1) f fd ps sp:=by
 obtain ⟨oc,od,dV,kV,doc,pm,an,cdv,ct,osl,rfl,lk,hcd⟩:=F.ex
 refine QU lk hcd S len fun A outer s H vs Q E hr hsp=>?_
 obtain ⟨t,h,q⟩:=hbody cdv A outer s H vs Q E hr hsp
 exact ⟨t,h.nox,q⟩
theorem xZ.okM {x qual:Str} {st:Stmt} {f:Addr} {fd:FuncData} {N ps:List Str} {k:Nat} {F:FM} {b:zj} (d:xZ K x qual st f fd) (S:zX N ps (zH st)) (hN:ps.length<=N.length) (hF:∀ ms r,F ms=some r->ms.length=ps.length/\yq ps.length N.length b ms=some r)
  (hb:∀ (cdv:Value) (A:Around) (outer:List Env) (s:Shared) (H:Hp) (E:XK),zt k (A.deeper (envOfC qual (zH st) s.heap.objs.size f cdv))->vI (wJ yJ P w K mg base N qual (zH st) f cdv A outer s H E).nox ps.length (zz st) b):yO P w K mg base yJ (k+1) f fd ps (zx K F):=by
 refine d.ok S (fun vs H Q E h=>?_) fun cdv A outer s H vs Q E hr h=>?_
 ·obtain ⟨G,ms,L,ms',m',_,o,_,e,_⟩:=h
  rw [o.length,(hF _ _ e).1]
 ·obtain ⟨G,ms,L,ms',m',s',o,hL,e,q⟩:=h
  obtain ⟨l,hrun⟩:=hF _ _ e
  obtain ⟨t,p,kt⟩:=(hb cdv A outer s H E hr).h
  obtain ⟨fl,hfl,hrun⟩:=zD hrun
  have lv:vs.length=ps.length:=by rw [o.length,l]
  refine ⟨t,p,kt lv (DH (N:=N) s' o hL (by omega)) hfl ?_⟩
  cases fl with
  | nx β=>
   obtain ⟨ms2,ha,hrun⟩:=zD (show (u8 (β.take ps.length)).bind _=_ from hrun)
   cases hrun
   intro σ G' H' K'
   obtain ⟨L2,o2,h2⟩:=JF (K'.pushF (d:=.non) (v:=.non) rfl) (by rw [lv]; exact hN) (by rw [lv]; exact ha)
   exact q .non G' H' L2 K'.ext o2 h2
  | rt m β=>
   obtain ⟨ms2,ha,hrun⟩:=zD (show (u8 (β.take ps.length)).bind _=_ from hrun)
   cases hrun
   intro σ v G' H' K'
   obtain ⟨L2,o2,h2⟩:=JF K' (by rw [lv]; exact hN) (by rw [lv]; exact ha)
   exact q v G' H' L2 K'.ext o2 h2
  | _=>cases hrun
theorem xZ.okF {x qual:Str} {st:Stmt} {f:Addr} {fd:FuncData} {N ps:List Str} {k:Nat} {F:List D->Option (Bool×D)} {b:FS} (d:xZ K x qual st f fd) (S:zX N ps (zH st)) (hN:ps.length<=N.length) (hF:∀ ds r,F ds=some r->ds.length=ps.length/\yQ N.length b ds=some r)
  (hb:∀ (cdv:Value) (A:Around) (outer:List Env) (s:Shared) (H:Hp) (E:XK),zt k (A.deeper (envOfC qual (zH st) s.heap.objs.size f cdv))->vf (wJ yJ P w K mg base N qual (zH st) f cdv A outer s H E).nox (zz st) b):yO P w K mg base yJ (k+1) f fd ps (zm K F):=by
 refine d.ok S (fun vs H Q E h=>?_) fun cdv A outer s H vs Q E hr h=>?_
 ·obtain ⟨G,ds,o,dd,_,r,e,_⟩:=h
  rw [r.length,(hF _ _ e).1]
 ·obtain ⟨G,ds,o,dd,s',r,e,q⟩:=h
  obtain ⟨l,hrun⟩:=hF _ _ e
  obtain ⟨t,p,kt⟩:=(hb cdv A outer s H E hr).h
  obtain ⟨fl,hfl,hrun⟩:=zD hrun
  refine ⟨t,p,kt (QL (N:=N) s' r (by omega)) hfl ?_⟩
  cases fl with
  | nx τ=>
   cases hrun
   exact fun σ G' H' z=>q .non G' H' z.ext rfl
  | rt o' d'=>
   cases hrun
   cases o with
   | false=>exact q
   | true=>exact q
  | _=>cases hrun
theorem Def.okM {x:Str} {st:Stmt} {N ps:List Str} {k:Nat} {F:FM} {b:zj} (d:Def K mg x st ps) (S:zX N ps (zH st)) (hN:ps.length<=N.length) (hF:∀ ms r,F ms=some r->ms.length=ps.length/\yq ps.length N.length b ms=some r)
  (hb:∀ (f:Addr) (cdv:Value) (A:Around) (outer:List Env) (s:Shared) (H:Hp) (E:XK),zt k (A.deeper (envOfC x (zH st) s.heap.objs.size f cdv))->vI (wJ yJ P w K mg base N x (zH st) f cdv A outer s H E).nox ps.length (zz st) b):zi P w K mg base x ps (k+1) (zx K F):=by
 obtain ⟨f,fd,F',hm,hb'⟩:=d
 exact ⟨f,fd,hm,F'.kp,hb',F'.v.okM S hN hF (hb f)⟩
noncomputable def QX (F:FM):List D->Option (Bool×D):=fun ds=>(F (wn ds)).bind fun r=>match r.2 with
 | .fz d=>some (false,d)
 | .own d=>some (true,d)
 | _=>none
theorem HU {F:FM} {vs:List V} {H:Hp} {Q:VK} {E:XK} (h:zm K (QX F) vs H Q E):zx K F vs H Q E:=by
 obtain ⟨G,ds,o,d,s,r,e,q⟩:=h
 obtain ⟨⟨ms',m'⟩,hF,e⟩:=zD e
 have ec:wj H (fun _=>False)=H:=by
  funext q
  exact ub (fun z=>z)
 refine ⟨G,wn ds,fun _=>False,ms',m',s,jl r,fun _ z=>z.elim,hF,fun v G' H' L' x oo hN=>?_⟩
 rw [ec] at x
 obtain ⟨v',r',La,Lb,e2,oa,ob,dj,u⟩:=oo
 cases e2
 cases m' with
 | fz d'=>cases e; exact q v G' H' x oa.1
 | own d'=>
  cases e
  obtain ⟨p,rfl,op,uL⟩:=oa
  obtain ⟨a,b⟩:=hN p ((u p).mpr (.inl ((uL p).mpr rfl)))
  rw [ec] at b
  exact q p G' H' x b a op
 | _=>cases e
end
structure ku (P:Program) (w:World) (K:PySem.W.Frag) (mg:Str->Option Value) (base:Heap) (c m:Str) (ps:List Str) (k:Nat) (sp:Sp):Prop where
 ex:∃ (C f:Addr) (fd:FuncData) (mc:Value),mg c=some (.ref C)/\PySem.W.specialIn K (.ref C) "__getattribute__" = some (some (.builtin "type.__getattribute__"))/\PySem.W.readsIn K C mc=true/\PySem.W.findCls K (.ref C) mc m=some (.val (.ref f))/\PySem.W.keepIn K (.ref f)=true/\xB K fd ps []/\yO P w K mg base yJ k f fd ps sp
section
variable {X:Cx} {c m:Str} {ps:List Str} {j k:Nat} {F:FM} {e:Expr} {es:List Expr} {fa:xi} {p pos apos:Pos} {sp:Sp} {t:TA}
theorem Ch {pl:Sem Bool} (h:ku X.prog X.w X.K X.mg X.base c m ps k sp) (hr:zt j X.A) (hg:Gl X c) (ha:PA X (e::es) t) (hk:k<=j:=by decide) (hdb:(c == ("__debug__" : Str))=false:=by decide) (he:(e::es).all yH=true:=by rfl)
  (ht:eval (.Call (.Attribute (.Name c p) m apos) (e::es) [] pos) X.env=(do
   let ov <- eval (.Name c p) X.env
   standAt apos.atName
   let (f,first) <- holding [ov] (getMethod ov m pl)
   callWith pos f first (backTo pos (starEach (e::es) X.env)) (backToKw pos (keywordEach [] X.env))):=by rfl):PE X (.Call (.Attribute (.Name c p) m apos) (e::es) [] pos) (YB sp [] E0 t):=by
 obtain ⟨C,f,fd,mc,hm,hga,hrd,hfc,kp,b,FF⟩:=h.ex
 rw [List.all_cons,Bool.and_eq_true] at he
 intro pins s σ H Q I hq
 refine PySem.W.methodCall_KW (pl:=pl) ?_ ht
 refine gr I hg hm ?_ hdb
 refine PySem.W.method_cls I.kIn hga (PySem.W.cls_value I.kIn hrd hfc rfl ?_)
 exact PySem.W.callWith_K (h₀:=X.base) I.ok.mod.kin kp (zd (ha pos pins _ σ H _ (I.tok _) hq) fun us s1 ⟨vs,H1,I1,r,q⟩=>⟨I1.kIn,jn FF (hr.mono hk) b .nil uu I1 r q⟩) (wP he.1) (t7 he.2)
theorem DP {pl:Sem Bool} (h:ku X.prog X.w X.K X.mg X.base c m ps k (zx X.K F)) (hr:zt j X.A) (hg:Gl X c) (ha:MA X (e::es) fa) (hk:k<=j:=by decide) (hdb:(c == ("__debug__" : Str))=false:=by decide) (he:(e::es).all yH=true:=by rfl)
  (ht:eval (.Call (.Attribute (.Name c p) m apos) (e::es) [] pos) X.env=(do
   let ov <- eval (.Name c p) X.env
   standAt apos.atName
   let (f,first) <- holding [ov] (getMethod ov m pl)
   callWith pos f first (backTo pos (starEach (e::es) X.env)) (backToKw pos (keywordEach [] X.env))):=by rfl):MC X (.Call (.Attribute (.Name c p) m apos) (e::es) [] pos) (wg F fa):=by
 obtain ⟨t,pa,ka⟩:=ha.h
 refine ⟨⟨_,Ch h hr hg pa hk hdb he ht,fun E hf q=>?_⟩⟩
 obtain ⟨as,has,hf⟩:=zD hf
 refine ka E has fun vs G1 H1 x1 ra=>?_
 rw [List.append_nil]
 exact (E.go x1).call ra hf fun v G' H' s K'=>q v G' H' (x1.g.trans s) K'
end
end L3
namespace L3
open PySem PySem.Spec PyProof.Rows L2
noncomputable def Lk:zg->Option (List M×zg):=fun β=>some ([],β)
noncomputable def Lj (f:yX) (r:zg->Option (List M×zg)):zg->Option (List M×zg):=fun β=>(f β).bind fun a=>(r a.2).bind fun b=>some (a.1::b.1,b.2)
noncomputable def LI (ks:List Str) (fs:zg->Option (List M×zg)):yX:=fun β=>(fs β).bind fun r=>match decide (ks.length=r.1.length) with
 | true=>some (.tab (ks.map .inr) r.1,r.2)
 | false=>none
noncomputable def LH (i:Nat):yX:=fun β=>match β[i]? with
 | some (some m)=>some (m,β.set i none)
 | _=>none
end L3
namespace L2
open PySem PySem.Spec PyProof PyProof.Rows
section
variable {X:Cx} {c e:Expr} {es:List Expr} {t:TA} {tc:TE} {pos:Pos} {j:Nat}
noncomputable def Hl (X:Cx) (j:Nat) (tc:TE) (t:TA):TE:=fun σ H Q=>tc σ H fun v H1=>∃ (f:Addr) (fd:FuncData) (ps:List Str) (k:Nat) (sp:Sp),v=.ref f/\k<=j/\PySem.W.keepIn X.K (.ref f)=true/\xB X.K fd ps []/\yO X.prog X.w X.K X.mg X.base yJ k f fd ps sp/\t σ H1 fun vs H2=>sp (vs++[]) H2 Q E0
theorem Cf (hr:zt j X.A) (hc:PE X c tc) (ha:PA X (e::es) t) (he:(e::es).all yH=true:=by rfl)
  (hev:eval (.Call c (e::es) [] pos) X.env=(do callWith pos (<- eval c X.env) [] (backTo pos (starEach (e::es) X.env)) (backToKw pos (keywordEach [] X.env))):=by rfl):PE X (.Call c (e::es) [] pos) (Hl X j tc t):=by
 intro pins s σ H Q I h
 rw [List.all_cons,Bool.and_eq_true] at he
 rw [hev]
 refine wpAny_bind (zd (hc pins s σ H _ I h) fun u s1 ⟨v,H1,I1,r1,f,fd,ps,k,sp,ev,hk,kp,b,F,q⟩=>?_)
 subst ev
 cases r1
 refine PySem.W.callWith_K (h₀:=X.base) I.ok.mod.kin kp (zd (ha pos pins s1 σ _ _ I1 q) fun us s2 ⟨vs,H2,I2,r,q⟩=>⟨I2.kIn,?_⟩) (wP he.1) (t7 he.2)
 exact jn F (hr.mono hk) b .nil uu I2 r q
end
end L2
namespace L3
open PySem PySem.Spec PyProof.Rows L2
noncomputable def pF (K:PySem.W.Frag) (w:World) (mg:Str->Option Value) (a:Addr) (ks:List zM) (ns:List Str):Prop:=
 ∃ fs:List Addr,(a == sysModules)=false/\ks.length=fs.length/\(∀ (i:Nat) (n:Str),ns[i]?=some n->∃ f,fs[i]?=some f/\mg n=some (.ref f))/\ns.length=fs.length/\∀ (P:Program) (h:Heap),K.In h->∃ vs,KV (ks.zip (fs.map V.ref)) vs/\h.DictOf (ye P w) a vs
inductive jG (mg:Str->Option Value):List Str->List Addr->Prop
 | nil:jG mg [] []
 | cons {n:Str} {f:Addr} {ns:List Str} {fs:List Addr} (h:mg n=some (.ref f)) (r:jG mg ns fs):jG mg (n::ns) (f::fs)
theorem jG.at_ {mg:Str->Option Value}:∀ {ns:List Str} {fs:List Addr},jG mg ns fs->(∀ (i:Nat) (n:Str),ns[i]?=some n->∃ f,fs[i]?=some f/\mg n=some (.ref f))/\ns.length=fs.length
 | _,_,.nil=>⟨fun i n h=>(by cases h),rfl⟩
 | _,_,.cons h r=>by
  obtain ⟨a,b⟩:=r.at_
  refine ⟨fun i n e=>?_,by rw [List.length_cons,List.length_cons,b]⟩
  cases i with
  | zero=>cases e; exact ⟨_,rfl,h⟩
  | succ i=>exact a i n (by simpa using e)
theorem OE:∀ {fs:List Addr},zZ (fs.map V.ref) (fs.map Value.ref)
 | []=>.nil
 | _::_=>.cons rfl OE
theorem MQ {K:PySem.W.Frag} {mg:Str->Option Value} {w:World} {a:Addr} {es:List DictEntry} {n:Nat} {xs ns:List Str} {fs:List Addr} (l:K.lookup a=some { cls:=.type "dict",data:=.dict es.toArray n }) (e:tH w es xs (fs.map Value.ref)) (nd:xs.Nodup) (hs:(a == sysModules)=false) (m:jG mg ns fs) :
  pF K w mg a (xs.map .inr) ns:=by
 have hl:(xs.map Sum.inr:List zM).length=(fs.map V.ref).length:=by rw [List.length_map,e.len,List.length_map,List.length_map]
 obtain ⟨m1,m2⟩:=m.at_
 refine ⟨fs,hs,by rw [hl,List.length_map],m1,m2,fun P h KI=>⟨_,J5 OE hl,?_⟩⟩
 obtain ⟨p,q⟩:=e.pairs (P:=P)
 refine ⟨_,_,_,KI _ _ l,⟨rfl,rfl,rfl⟩,rfl,fun e he=>q e (by simpa using he),p,?_⟩
 rw [OM (by rw [List.length_map]; exact e.len)]
 exact List.Pairwise.map _ (fun a b h z=>h (Sum.inr.inj z)) nd
section
variable {X:Cx}
theorem MO {A:Addr} {ks:List zM} {ns:List Str} (g:pF X.K X.w X.mg A ks ns):yB X (compareOp .In) (fun x y H Q=>y=.ref A/\∃ k,x=kV k/\Q (.bl (vA ks k)) H):=by
 intro pins s σ H x y v u Q I rx ry h
 obtain ⟨rfl,k,rfl,q⟩:=h
 cases ry
 obtain ⟨fs,hsys,hl,_,_,mk⟩:=g
 obtain ⟨vs,rel,dd⟩:=mk X.prog s.heap I.kIn
 refine wpAny_in_of (qZ rx) hsys dd.mapOf ?_
 rw [<- (rel.val k).isSome_eq,pz k (by rw [List.length_map]; exact hl),Wy k (by rw [List.length_map]; exact hl)]
 exact ⟨.bl _,H,I.tok _,rfl,q⟩
theorem Hb {A:Addr} {ks:List zM} {ns:List Str} {x:Str} {p pos:Pos} {a:Expr} {fa:FE} (h:yL X.mg x (.ref A)) (g:pF X.K X.w X.mg A ks ns) (hg:Gl X x) (ha:SE X a fa) (hd:(x == ("__debug__" : Str))=false:=by decide) (hm:behindInMarks .In (.Name x p)=false:=by rfl) :
  ST X (.Compare a [.In] [.Name x p] pos) (tE (e1 (jS ks) fa)):=by
 obtain ⟨ta,pa,ka⟩:=ha.h
 refine ⟨⟨_,Jo (MO g) pa (Zq h hg hd) hm,fun {G0 H0 G H τ σ d Q} E hf q=>?_⟩⟩
 obtain ⟨z,hz,hf⟩:=zD hf
 obtain ⟨y,hy,hz⟩:=zD hz
 obtain ⟨k,hk,hz⟩:=zD hz
 cases hz
 cases hf
 exact ka E hy fun u G2 H2 x2 r2=>⟨rfl,k,qb hk r2,_,rfl,q _ _ x2⟩
theorem MP {A:Addr} {ks:List zM} {ns:List Str} (g:pF X.K X.w X.mg A ks ns):vH X (fun x y H Q=>x=.ref A/\∃ k n,y=kV k/\getK ks ns k=some n/\∀ f,X.mg n=some (.ref f)->Q (.ref f) H):=by
 intro value slice pins s σ H x y v u Q I rx ry h hs
 obtain ⟨rfl,k,n,rfl,hn,q⟩:=h
 cases rx
 obtain ⟨fs,hsys,hl,hm,hl2,mk⟩:=g
 obtain ⟨vs,rel,dd⟩:=mk X.prog s.heap I.kIn
 have key:∀ {ks:List zM} {ns:List Str} {fs:List Addr},(∀ (i:Nat) (n:Str),ns[i]?=some n->∃ f,fs[i]?=some f/\X.mg n=some (.ref f))->getK ks ns k=some n->∃ f,getK ks (fs.map V.ref) k=some (.ref f)/\X.mg n=some (.ref f):=fun {ks}=>by
  induction ks with
  | nil=>intro ns fs _ e; cases e
  | cons k' ks ih=>
   intro ns fs hm e
   cases ns with
   | nil=>cases e
   | cons n' ns=>
    obtain ⟨f0,e0,m0⟩:=hm 0 n' rfl
    cases fs with
    | nil=>cases e0
    | cons f1 fs=>
     cases e0
     unfold getK at e
     rw [List.map_cons]
     unfold getK
     by_cases c:k'=k
     ·rw [if_pos c] at e ⊢
      cases e
      exact ⟨_,rfl,m0⟩
     ·rw [if_neg c] at e ⊢
      exact ih (fun i n h=>hm (i+1) n (by simpa using h)) e
 obtain ⟨f,hf,mf⟩:=key hm hn
 obtain ⟨w',hw,rw'⟩:=w6.some_of (v:=V.ref f) (o:=valueAt vs k) (by rw [<- hf,<- pz k (by rw [List.length_map]; exact hl)]; exact rel.val k)
 exact subscriptTail_builtinR (x:=w') dd.typeIs PySem.F.slot_dict_getitem.lookup
  (wpAny_getItem_of (Q:=fun r s'=>r=w'/\EP X pins σ Q r s') (qZ ry) dd.mapOf hw ⟨rfl,_,H,I.tok _,rw',q f mf⟩) hs
inductive xR (X:Cx) (j:Nat):List Str->List FM->Prop
 | nil:xR X j [] []
 | cons {n:Str} {ps:List Str} {k:Nat} {F:FM} {ns:List Str} {Fs:List FM} (h:zi X.prog X.w X.K X.mg X.base n ps k (zx X.K F)) (hk:k<=j) (r:xR X j ns Fs):xR X j (n::ns) (F::Fs)
theorem xR.get {X:Cx} {j:Nat} {k:zM} {F:FM}:∀ {ks:List zM} {ns:List Str} {Fs:List FM},xR X j ns Fs->getK ks Fs k=some F->∃ n ps i,getK ks ns k=some n/\i<=j/\zi X.prog X.w X.K X.mg X.base n ps i (zx X.K F)
 | [],_,_,_,e=>by cases e
 | _::_,_,_,.nil,e=>by cases e
 | k'::ks,_,_,.cons (n:=n) (ps:=ps) (k:=i) h hk r,e=>by
  unfold getK at e
  by_cases c:k'=k
  ·rw [if_pos c] at e
   cases e
   exact ⟨n,ps,i,by unfold getK; rw [if_pos c],hk,h⟩
  ·rw [if_neg c] at e
   obtain ⟨n',ps',i',e',r'⟩:=r.get e
   exact ⟨n',ps',i',by unfold getK; rw [if_neg c]; exact e',r'⟩
noncomputable def WS (ks:List zM) (Fs:List FM) (fk:FE) (fa:xi):yX:=fun β=>(fk (v3 β)).bind fun x=>(wp x).bind fun k=>(getK ks Fs k).bind fun F=>wg F fa β
theorem DQ {A:Addr} {ks:List zM} {ns:List Str} {Fs:List FM} {x:Str} {p p2 pos:Pos} {k e:Expr} {es:List Expr} {fk:FE} {fa:xi} {j:Nat} (h:yL X.mg x (.ref A)) (g:pF X.K X.w X.mg A ks ns) (hg:Gl X x) (D:xR X j ns Fs) (hr:zt j X.A) (hk:SE X k fk) (ha:MA X (e::es) fa)
  (hs:kE k=true:=by rfl) (hd:(x == ("__debug__" : Str))=false:=by decide) (he:(e::es).all yH=true:=by rfl)
  (hev:eval (.Call (.Subscript (.Name x p) k p2) (e::es) [] pos) X.env=(do callWith pos (<- eval (.Subscript (.Name x p) k p2) X.env) [] (backTo pos (starEach (e::es) X.env)) (backToKw pos (keywordEach [] X.env))):=by rfl):MC X (.Call (.Subscript (.Name x p) k p2) (e::es) [] pos) (WS ks Fs fk fa):=by
 obtain ⟨tk,pk,kk⟩:=hk.h
 obtain ⟨ta,pa,ka⟩:=ha.h
 refine ⟨⟨_,Cf hr (Ja (MP g) (Zq h hg hd) pk (Jd hs)) pa he hev,fun {P G0 H0 G H β β' σ m Q} E hf q=>?_⟩⟩
 obtain ⟨y,hy,hf⟩:=zD hf
 obtain ⟨key,hkey,hf⟩:=zD hf
 obtain ⟨F,hF,hf⟩:=zD hf
 obtain ⟨as,has,hf⟩:=zD hf
 obtain ⟨n,ps,i,hn,hi,⟨f,fd,hm,kp,b,FF⟩⟩:=D.get hF
 obtain ⟨G1,E1,back⟩:=E.thw
 refine kk E1 hy fun u G2 H2 x2 r2=>?_
 obtain ⟨G3,x3,E3,_⟩:=back _ _ x2
 refine ⟨rfl,key,n,qb hkey r2,hn,fun f' hm'=>?_⟩
 rw [hm] at hm'
 cases hm'
 refine ⟨f,fd,ps,i,_,rfl,hi,kp,b,FF,ka E3 has fun vs G4 H4 x4 ra=>?_⟩
 rw [List.append_nil]
 exact (E3.go x4).call ra hf fun v G' H' s K'=>q v G' H' (x3.g.trans (x4.g.trans s)) K'
end
noncomputable def yT (cs:List Str) (f:Str):D->Option D
 | .obj x fs vs=>if x∈cs then getA fs vs f else none
 | _=>none
theorem Reps.getA {K:PySem.W.Frag} {G:Hp} {κ:Type} [DecidableEq κ] {k:κ} {d:D}:∀ {ks:List κ} {ds:List D} {vs:List V},Reps K G ds vs->L3.getA ks ds k=some d->∃ v,L3.getA ks vs k=some v/\zK K G d v
 | [],_,_,_,e=>by cases e
 | _::_,[],_,_,e=>by cases e
 | k'::ks,d'::ds,vs,r,e=>by
  obtain ⟨v,r',rfl,hv,hr⟩:=r
  unfold L3.getA at e ⊢
  by_cases c:k'=k
  ·rw [if_pos c] at e ⊢
   cases e
   exact ⟨v,rfl,hv⟩
  ·rw [if_neg c] at e ⊢
   exact Reps.getA hr e
noncomputable def u7 (c m:Str) (fo:FE) (fs:FA):FA:=fun τ=>(fo τ).bind fun o=>match o with
 | .obj x fl _=>match decide (x=c)&&!(decide (m∈fl)) with
  | true=>(fs τ).bind fun ds=>some (o::ds)
  | false=>none
 | _=>none
section
variable {X:Cx} {e o:Expr} {f m c:Str} {cs:List Str} {fe fo:FE} {pos apos:Pos} {ps:List Str} {j k:Nat} {FF:List D->Option (Bool×D)}
theorem xC (h:SE X e fe) (k:xD X.K cs f) (hb:attributeBase e f X.env (eval e X.env)=eval e X.env:=by rfl):SE X (.Attribute e f pos) (e1 (yT cs f) fe):=by
 obtain ⟨t,p,kt⟩:=h.h
 refine ⟨⟨_,JZ p hb,fun {G0 H0 G H τ σ d Q} E hf q=>?_⟩⟩
 obtain ⟨y,hy,hf⟩:=zD hf
 refine kt E hy fun v G1 H1 x1 r1=>?_
 unfold yT at hf
 split at hf
 ·rename_i x fs vs
  by_cases hx:x∈cs
  ·rw [if_pos hx] at hf
   obtain ⟨a,C,dx,us,rfl,ns,ha,l,rs⟩:=r1
   obtain ⟨u,hu,ru⟩:=rs.getA hf
   obtain ⟨cl,na⟩:=k x hx C ns
   exact ⟨a,C,dx,_,u,rfl,x1.gh _ _ ha,cl,na,by rw [Zg]; exact hu,q _ _ _ x1 ru⟩
  ·rw [if_neg hx] at hf; cases hf
 ·cases hf
theorem Il {G0 H0 G H:Hp} {τ:zr} {σ:St} {ds:List D} {Q:VK} {C:Addr} {t:TA} {to:TE} {sp:Sp} {fs:FA} (nsC:PySem.W.nsIn X.K mainGlobals c=some (some (.ref C)))
  (ko:∀ {G0 H0 G H:Hp} {τ:zr} {σ:St} {d:D} {Q:VK},zk X.K X.N.length G0 H0 G H τ σ->fo τ=some d->(∀ v G' H',zL G H G' H'->zK X.K G' d v->Q v H')->to σ H Q)
  (kt:∀ {G0 H0 G H:Hp} {τ:zr} {σ:St} {ds:List D} {Q:List V->Hp->Prop},zk X.K X.N.length G0 H0 G H τ σ->fs τ=some ds->(∀ vs G' H',zL G H G' H'->Reps X.K G' ds vs->Q vs H')->t σ H Q)
  (E:zk X.K X.N.length G0 H0 G H τ σ) (hf:u7 c m fo fs τ=some ds) (q:∀ vs G' H',zL G H G' H'->Reps X.K G' ds vs->sp vs H' Q E0):YC C m sp [] E0 to t σ H Q:=by
 obtain ⟨y,hy,hf⟩:=zD hf
 split at hf
 ·rename_i x fl vs
  split at hf
  ·rename_i cc
   rw [Bool.and_eq_true] at cc
   cases of_decide_eq_true cc.1
   have hm:m ∉ fl:=by
    have:=cc.2
    simpa using this
   obtain ⟨ds',hd,hf⟩:=zD hf
   cases hf
   refine ko E hy fun v G1 H1 x1 r1=>?_
   obtain ⟨a,C',dx,us,rfl,ns,ha,l,rs⟩:=id r1
   rw [nsC] at ns
   cases ns
   refine ⟨a,dx,_,rfl,x1.gh _ _ ha,VG hm,kt (E.go x1) hd fun vs G2 H2 x2 r2=>?_⟩
   rw [List.append_nil]
   exact q _ _ _ (x1.trans x2) ⟨_,vs,rfl,r1.mono x2.g,r2⟩
  ·cases hf
 ·cases hf
theorem HV {G H:Hp} {ds:List D} {vs:List V} {Q:VK} {G0' H0':Hp} {d:D} {o:Bool} {E:XK} (x:zL G0' H0' G H) (r:Reps X.K G ds vs) (hr:FF ds=some (o,d)) (q:∀ v G' H',zL G0' H0' G' H'->zK X.K G' d v->Q v H'):zm X.K FF vs H Q E:=by
 refine ⟨G,ds,o,d,x.gh,r,hr,?_⟩
 cases o with
 | false=>exact fun v G' H' x2 r=>q v G' H' (x.trans x2) r
 | true=>
  intro p G' H' x2 hp gp o
  obtain ⟨u,hu,r⟩:=o.frz gp
  exact q _ _ _ (x.trans (x2.frz hp gp hu)) r
theorem Uk {pl:Sem Bool} (h:xy X.prog X.w X.K X.mg X.base c m ps k (zm X.K FF)) (hr:zt j X.A) (ho:SE X o fo) (hk:k<=j:=by decide)
  (ht:eval (.Call (.Attribute o m apos) [] [] pos) X.env=(do
   let ov <- eval o X.env
   standAt apos.atName
   let (f,first) <- holding [ov] (getMethod ov m pl)
   callWith pos f first (backTo pos (starEach [] X.env)) (backToKw pos (keywordEach [] X.env))):=by rfl):SE X (.Call (.Attribute o m apos) [] [] pos) (zl FF (u7 c m fo zG)):=by
 obtain ⟨C,f,fd,ns,cl,me,b,F⟩:=h
 obtain ⟨to,po,ko⟩:=ho.h
 refine ⟨⟨_,VV po cl me F (hr.mono hk) b .nil uu ht,fun {G0 H0 G H τ σ d Q} E hf q=>?_⟩⟩
 obtain ⟨ds,hd,hf⟩:=zD hf
 obtain ⟨⟨oo,dd⟩,hF,hf⟩:=zD hf
 cases hf
 exact Il (t:=px) ns ko (fun {G0 H0 G H τ σ ds Q} E' e k'=>by cases e; exact k' _ _ _ (zL.refl E'.ext.gh) rfl) E hd fun vs G' H' x r=>HV x r hF q
theorem HL {pl:Sem Bool} (h:xy X.prog X.w X.K X.mg X.base c m ps k (zm X.K FF)) (hr:zt j X.A) (ho:SE X o fo) (hk:k<=j:=by decide)
  (ht:eval (.Call (.Attribute o m apos) [] [] pos) X.env=(do
   let ov <- eval o X.env
   standAt apos.atName
   let (f,first) <- holding [ov] (getMethod ov m pl)
   callWith pos f first (backTo pos (starEach [] X.env)) (backToKw pos (keywordEach [] X.env))):=by rfl):SF X (.Call (.Attribute o m apos) [] [] pos) (wK FF (u7 c m fo zG)):=by
 obtain ⟨C,f,fd,ns,cl,me,b,F⟩:=h
 obtain ⟨to,po,ko⟩:=ho.h
 refine ⟨⟨_,VV po cl me F (hr.mono hk) b .nil uu ht,fun {G0 H0 G H τ σ d Q} E hf q=>?_⟩⟩
 obtain ⟨ds,hd,hf⟩:=zD hf
 obtain ⟨⟨oo,dd⟩,hF,hf⟩:=zD hf
 cases oo with
 | false=>cases hf
 | true=>
  cases hf
  exact Il (t:=px) ns ko (fun {G0 H0 G H τ σ ds Q} E' e k'=>by cases e; exact k' _ _ _ (zL.refl E'.ext.gh) rfl) E hd fun vs G' H' x r=>⟨G',ds,true,_,x.gh,r,hF,fun p G2 H2 x2 hp gp o=>q p G2 H2 (x.trans x2) (x.h.free hp) gp o⟩
end
noncomputable def DG (ix:Nat) (i:Nat) (π:List yY) (fk:FE) (fv:yX):zj:=fun β=>(fv β).bind fun r=>(v7 r.1).bind fun y=>match y with
 | .tup [d1,d2]=>(vp (r.2.set ix (some (.fz d1))) i π).bind fun nd=>match nd with
  | .own (.lst ds)=>(fk (v3 (r.2.set ix (some (.fz d1))))).bind fun x=>match x with
   | .int j=>(ixN ds.length j).bind fun n=>(putAt (r.2.set ix (some (.fz d1))) i π (.own (.lst (ds.set n d2)))).bind fun β2=>some (.nx β2)
   | _=>none
  | _=>none
 | _=>none
end L3
namespace L3
open PySem PySem.Spec PyProof PyProof.Rows L2
end L3
namespace L3
open PySem PySem.Spec PyProof PyProof.Rows L2
theorem LK {X:Cx}:xX X (.type "dict") (fun xs H Q=>∃ a kvs,xs=[.ref a]/\Rd H a (.dK kvs)/\∀ p,H p=none->Q (.ref p) (zR H p (.dK kvs))):=by
 intro pins s σ H xs us Q I r h
 obtain ⟨a,kvs,rfl,e,q⟩:=h
 obtain ⟨u,rfl,ru⟩:=vy r
 cases (show u=Value.ref a from ru)
 obtain ⟨hz,hsys,vs,rel,dd⟩:=tR I.hok e
 have hlv:vs.length=kvs.length:=J4 rel
 refine kt_call_dict hsys dd (by rw [hlv]; exact hz) fun h' hm sb=>?_
 have hm2:(s.heap.objs.size == sysModules)=false:=by
  have:=I.big
  rw [beq_eq_false_iff_ne]
  exact yt (Nat.ne_of_gt this)
 have kp:∀ b o,s.heap.get? b=some o->h'.get? b=some o:=fun b o eb=>by
  have hlt:=Heap.lt_size eb
  exact (sb.2 b (yt (Nat.ne_of_lt hlt))).trans (Heap.get?_push_of_some _ eb)
 exact ⟨.ref s.heap.objs.size,_,I.laid (a:=s.heap.objs.size) (o:=.dK kvs) (t':=s.toks) kp (Nat.le_refl _) (Wd hz hm2 rel hm),rfl,q _ I.fresh⟩
noncomputable def ZN:List D->Option D
 | [.dic ks ds]=>some (.dic ks ds)
 | _=>none
theorem HK {X:Cx} {e:Expr} {fs:FA} {p pos:Pos} (hg:Gl X "dict") (hm:X.mg "dict" = none) (hv:bootBuiltins "dict" = some (.type "dict")) (ha:SA X [e] fs) (hs:yH e=true:=by rfl):SF X (.Call (.Name "dict" p) [e] [] pos) (eL ZN fs):=by
 obtain ⟨t,pt,k⟩:=ha.h
 refine ⟨⟨_,(Zv LK hg hm hv ⟨pt⟩ (by decide) (by decide) (by rw [List.all_cons,hs]; rfl)).h,fun {G0 H0 G H τ σ d Q} E hf q=>?_⟩⟩
 obtain ⟨ds,hd,hf⟩:=zD hf
 refine k E hd fun vs G1 H1 x1 r1=>?_
 unfold ZN at hf
 split at hf
 ·rename_i ks es
  cases hf
  obtain ⟨v,rfl,a,ws,rfl,sq,hl,rs,l⟩:=ux r1
  refine ⟨a,_,rfl,Rd.mono x1.gh sq,fun p hp=>?_⟩
  exact q p _ _ (x1.trans (zL.layO x1.gh hp)) (x1.h.free hp) (x1.gh.free hp) ⟨ws,yk,hl,rs,l⟩
 ·cases hf
end L3
namespace L3
noncomputable def yN:=
 And.intro yD.eq_1 <| And.intro um.eq_1 <| And.intro uo.eq_1 <| And.intro uI.eq_1 <| And.intro vB.eq_1 <| And.intro wA.eq_1 <| And.intro yl.eq_1 <| And.intro vK.eq_1 <| And.intro jM.eq_1 <| And.intro jN.eq_1 <| And.intro qU.eq_1 <|
 And.intro uU.eq_1 <| And.intro Kb.eq_1 <| And.intro U_.eq_1 <| And.intro Kc.eq_1 <| And.intro T0.eq_1 <| And.intro LG.eq_1 <| And.intro LF.eq_1 <| And.intro v7.eq_def <| And.intro vp.eq_1 <| And.intro putAt.eq_1 <|
 And.intro vJ.eq_1 <| And.intro vE.eq_1 <| And.intro uH.eq_1 <| And.intro hide.eq_1 <| And.intro v3.eq_1 <| And.intro xh.eq_1 <| And.intro xh.eq_2 <| And.intro xh.eq_3 <| And.intro xh.eq_4 <| And.intro thaws.eq_1 <| And.intro thaws.eq_2 <|
 And.intro xo.eq_1 <| And.intro xo.eq_2 <| And.intro xo.eq_3 <| And.intro xo.eq_4 <| And.intro xo.eq_5 <| And.intro tplDs.eq_1 <| And.intro tplDs.eq_2 <| And.intro gz.eq_def <| And.intro uJ.eq_1 <| And.intro pX.eq_1 <| And.intro vC.eq_1 <| And.intro DG.eq_1 <| And.intro gu.eq_1 <| And.intro vo.eq_1 <| And.intro vo.eq_2 <|
 And.intro xU.eq_1 <| And.intro jJ.eq_1 <| And.intro xw.eq_1 <| And.intro Z9.eq_1 <| And.intro wU.eq_1 <| And.intro u9.eq_1 <| And.intro qC.eq_1 <| And.intro qC.eq_2 <| And.intro qC.eq_3 <| And.intro jO.eq_1 <| And.intro jO.eq_2 <| And.intro jO.eq_3 <| And.intro wn.eq_1 <| And.intro qV.eq_1 <| And.intro wg.eq_1 <| And.intro WT.eq_1 <| And.intro WS.eq_1 <|
 And.intro u8.eq_1 <| And.intro u8.eq_2 <| And.intro gc.eq_1 <| And.intro gc.eq_2 <| And.intro yq.eq_1 <| And.intro QX.eq_1 <| And.intro Lk.eq_1 <| And.intro Lj.eq_1 <| And.intro LI.eq_1 <| And.intro LH.eq_1 <|
 And.intro ja.eq_1 <| And.intro jZ.eq_1 <| And.intro @Option.map_some.{0,0} <| And.intro @Option.map_none.{0,0} <| And.intro @List.take_succ_cons.{0} @List.take_zero.{0}
end L3
namespace L3
open PySem PySem.Spec PyProof.Rows L2
theorem ud {K:PySem.W.Frag} {f:Str}:xD K [] f:=fun x hx=>absurd hx (by simp)
theorem uc {K:PySem.W.Frag} {f c:Str} {C:Addr} {cs:List Str} (ns:PySem.W.nsIn K mainGlobals c=some (some (.ref C))) (cl:wR K C) (na:PySem.W.findIn K (.ref C) f=some none) (r:xD K cs f):xD K (c::cs) f:=fun x hx C' ns'=>by
 rcases List.mem_cons.mp hx with rfl | hx
 ·rw [ns] at ns'
  cases ns'
  exact ⟨cl,na⟩
 ·exact r x hx C' ns'
end L3
namespace L3
open PySem PySem.Spec PyProof.Rows L2
noncomputable def Wt:List D->Option D
 | [.lst xs]=>(gk xs).bind fun ns=>match ns.all (fun i=>decide (0<=i)&&decide (i<1099511627776))&&decide (ns.length<=1000) with
  | true=>some (.int ns.sum)
  | false=>none
 | _=>none
theorem Iz:∀ {ns:List Int},(∀ n∈ns,0<=n/\n<1099511627776)->0<=ns.sum/\ns.sum<=1099511627776*(ns.length:Int)
 | [],_=>⟨Int.le_refl _,by decide⟩
 | n::ns,h=>by
  obtain ⟨a,b⟩:=Iz fun m hm=>h m (List.mem_cons_of_mem _ hm)
  obtain ⟨c,d⟩:=h n List.mem_cons_self
  rw [List.sum_cons,List.length_cons]
  constructor
  ·omega
  ·push_cast
   omega
theorem C3 {K:PySem.W.Frag}:gQ K (IM K) Wt:=fun G H ds vs d Q s r hf q=>by
 match ds,hf with
 | [.lst xs],hf=>
  obtain ⟨ns,hn,hf⟩:=zD (show (gk xs).bind _=some d from hf)
  cases c:(ns.all (fun i=>decide (0<=i)&&decide (i<1099511627776))&&decide (ns.length<=1000)) with
  | false=>rw [c] at hf; cases hf
  | true=>
   rw [c] at hf
   cases hf
   rw [Bool.and_eq_true] at c
   have hl:=of_decide_eq_true c.2
   have ha:∀ n∈ns,0<=n/\n<1099511627776:=fun n hm=>by
    have:=List.all_eq_true.mp c.1 n hm
    rw [Bool.and_eq_true] at this
    exact ⟨of_decide_eq_true this.1,of_decide_eq_true this.2⟩
   obtain ⟨v,rfl,a,us,rfl,sq,rs,l⟩:=ux r
   rw [Qt hn rs] at sq
   refine ⟨a,ns,rfl,.inl sq,⟨fun n hm=>?_,fun k hk=>?_⟩,q _ _ _ (zL.refl s) rfl⟩
   ·have:=ha n hm
    constructor<;>omega
   ·have:=Iz (ns:=ns.take k) fun n hm=>ha n (List.mem_of_mem_take hm)
    have l2:(ns.take k).length<=1000:=by rw [List.length_take]; omega
    have l3:((ns.take k).length:Int)<=1000:=by exact_mod_cast l2
    constructor<;>omega
end L3
namespace L3
open PySem PySem.Spec PyProof.Rows L2
noncomputable def VI (i:Nat) (F:D->D->Option D) (f:FE):zj:=fun β=>(e2 F (z6 i) f (uH β)).bind fun d=>some (.nx (β.set i (some (.fz d))))
section
variable {X:Cx} {np:Nat} {x c:Str} {p pos pos':Pos} {e:Expr} {es:List Expr} {f:FE} {F:D->D->Option D}
theorem Db {i:Nat} {op:Operator} {ti:jI} (ho:Z2 X op ti) (hF:xz X.K ti F) (hN:X.N.Nodup) (hi:X.N[i]?=some x) (hx:vZ X.env.scope x) (hn:np<=i) (he:SE X e f) (hf:X.fn x=true\/X.env.scope.names.lookup x=some .local:=by first | exact .inl rfl | exact .inr rfl | assumption) :
  MS X np (.AugAssign (.Name x pos') op e pos) (VI i F f):=by
 obtain ⟨t,pt,k⟩:=he.h
 refine ⟨⟨_,Jg hN hi hx pt ho hf,fun {P G0 H0 G H β σ fl E} hP K hf q=>?_⟩⟩
 obtain ⟨d,hd,hf⟩:=zD hf
 cases hf
 obtain ⟨x,hx,hd⟩:=zD hd
 obtain ⟨y,hy,hd⟩:=zD hd
 have Kh:=K.hid
 obtain ⟨v,ev,rv⟩:=Kh.fr _ _ (Wg hx)
 refine ⟨v,ev,k Kh hy fun u G1 H1 x1 r1=>hF G1 H1 x y v u d _ x1.gh (rv.mono x1.g) r1 hd fun w G2 H2 x2 r2=>?_⟩
 exact q _ _ _ (((K.go x1).go x2).setF (List.getElem?_eq_some_iff.mp hi).1 (by omega) r2)
noncomputable def XN (P:Program) (w:World) (K:PySem.W.Frag) (mg:Str->Option Value) (base:Heap) (c:Str) (ps:List Str) (k:Nat) (sp:Sp) (dv:List D):Prop:=
 ∃ (C f:Addr) (fd:FuncData) (ds:List Value) (dvs:List V),PySem.W.nsIn K mainGlobals c=some (some (.ref C))/\mg c=some (.ref C)/\Mk K C f/\xB K fd ps ds/\zZ dvs ds/\(∀ H,Reps K H dv dvs)/\yO P w K mg base yJ k f fd ps sp
noncomputable def WU (c:Str) (F:FM) (dv:List D) (f:xi):yX:=fun β=>(f β).bind fun as=>(qC as).bind fun ds=>(F (.obj c [] []::wn (ds++dv))).bind fun r=>match r.2 with
 | .fz .non=>(r.1[0]?).bind fun m=>some (m,β)
 | _=>none
theorem DT {F:FM} {fa:xi} {ps:List Str} {j k:Nat} {dv:List D} (h:XN X.prog X.w X.K X.mg X.base c ps k (zx X.K F) dv) (hr:zt j X.A) (hg:Gl X c) (ha:MA X (e::es) fa) (hk:k+1<=j:=by decide) (hdb:(c == ("__debug__" : Str))=false:=by decide) (he:(e::es).all yH=true:=by rfl) :
  MC X (.Call (.Name c p) (e::es) [] pos) (WU c F dv fa):=by
 obtain ⟨C,f,fd,dss,dvs,ns,mgc,mk,b,hvs,hdv,FF⟩:=h
 obtain ⟨t,pa,ka⟩:=ha.h
 rw [List.all_cons,Bool.and_eq_true] at he
 refine ⟨⟨_,Jc mk FF (hr.mono hk) hg mgc b hvs uu pa hdb (wP he.1) (t7 he.2),fun {P G0 H0 G H β β' σ mr Q} E hf q=>?_⟩⟩
 obtain ⟨as,has,hf⟩:=zD hf
 obtain ⟨ds,hds,hf⟩:=zD hf
 obtain ⟨⟨ms',m'⟩,hF,hf⟩:=zD hf
 refine ka E has fun vs G1 H1 x1 ra y dy ny ndy ne=>?_
 have E1:=E.go x1
 have rd:=Reps.append (gT hds ra) (hdv G1)
 split at hf
 ·rename_i em
  change m'=.fz .non at em
  subst em
  obtain ⟨m0,h0,hf⟩:=zD hf
  cases hf
  have a1:∀ q,q≠y->q≠dy->zR (zR H1 dy (.own y)) y (.ins C dy []) q=H1 q:=fun q z w=>by rw [z_ z,z_ w]
  have gy:G1 y=none:=E1.ext.gh.free ny
  have s2:zf G1 (zR (zR H1 dy (.own y)) y (.ins C dy [])):=fun q o z=>by
   have h1:=E1.ext.gh _ _ z
   rw [a1 q (fun c=>by subst c; rw [ny] at h1; cases h1) (fun c=>by subst c; rw [ndy] at h1; cases h1)]
   exact h1
  refine ⟨G1,.obj c [] []::wn (ds++dv),fun q=>q=y,ms',.fz .non,s2,⟨_,vs++dvs,fun q=>q=y,fun _=>False,rfl,⟨y,C,dy,[],fun _=>False,rfl,ns,yk,rfl,⟨rfl,fun _ z=>z⟩,fun z=>z,fun q=>⟨.inl,fun z=>z.elim id False.elim⟩⟩,jl rd,fun _ _ z=>z,fun q=>⟨.inl,fun z=>z.elim id False.elim⟩⟩,fun q z=>z ▸ gy,hF,fun v G' H' L' x2 o hN=>?_⟩
  obtain ⟨v',r',La,Lb,e2,oa,ob,dj,u⟩:=o
  cases e2
  refine ⟨oa.1,?_⟩
  obtain ⟨L2,o2,s2'⟩:=Zp (v1:=.ref y) ob h0 rfl
  have cn:∀ q,wj (zR (zR H1 dy (.own y)) y (.ins C dy [])) (fun q=>q=y) q=none->H1 q=none:=fun q z=>by
   rcases WY z with z | z
   ·exact z ▸ ny
   ·by_cases c1:q=y
    ·exact c1 ▸ ny
    ·by_cases c2:q=dy
     ·exact c2 ▸ ndy
     ·rw [a1 q c1 c2] at z; exact z
  have x3:zL G1 H1 G' H':=⟨x2.g,fun q o z=>x2.h _ _ (by
   have c1:q≠y:=fun c=>by subst c; rw [ny] at z; cases z
   have c2:q≠dy:=fun c=>by subst c; rw [ndy] at z; cases z
   rw [ub (L:=fun q=>q=y) c1,a1 q c1 c2]
   exact z),x2.gh,fun q z=>by
   rcases x2.new q z with w | w
   ·exact .inl w
   ·exact .inr (cn q w)⟩
  exact q _ G' H' (x1.g.trans x3.g) (E1.pushN x3 o2 fun q z=>by
   obtain ⟨a,b⟩:=hN q ((u q).mpr (.inr (s2' q z)))
   exact ⟨a,cn q b⟩)
 ·cases hf
end
end L3
namespace L3
open PySem PySem.Spec PyProof.Rows L2
end L3
namespace L3
open PySem PySem.Spec PyProof PyProof.Rows L2
section
variable {P:Program} {w:World} {K:PySem.W.Frag} {mg:Str->Option Value} {base:Heap}
theorem D7 {x:Str} {st:Stmt} {N:List Str} {k:Nat} {F:FM} {b:zj} {f:Addr} {fd:FuncData} (d:Fun K "law" "law" st f fd) (S:zX N [x] (zH st)) (hN:1<=N.length) (hF:∀ ms r,F ms=some r->ms.length=1/\yq 1 N.length b ms=some r) (hrun:∀ ns:List Int,ns.length<=63->(∀ m∈ns,xN m<=1048576)->∃ r,F [.fz (.lst (ns.map D.int))]=some (r,.fz (.bl true)))
  (hb:∀ (cdv:Value) (A:Around) (outer:List Env) (s:Shared) (H:Hp) (E:XK),zt k (A.deeper (envOfC "law" (zH st) s.heap.objs.size f cdv))->vI (wJ yJ P w K mg base N "law" (zH st) f cdv A outer s H E).nox 1 (zz st) b):yO P w K mg base yJ (k+1) f fd [x] (kW K):=
 (d.v.okM (F:=F) S hN hF hb).imp fun vs H Q E h=>by
  obtain ⟨a,ns,rfl,sq,l,hbits,q⟩:=h
  obtain ⟨r,hr⟩:=hrun ns l hbits
  have rr:Reps K H [.lst (ns.map D.int)] [.ref a]:=⟨_,_,rfl,⟨a,_,rfl,sq,Reps.ints,by rw [List.length_map]; exact zW (by omega)⟩,rfl⟩
  refine HU ⟨H,_,false,.bl true,zf.refl H,rr,?_,fun v G' H' _ z=>?_⟩
  ·show (F (wn [.lst (ns.map D.int)])).bind _=_
   rw [show wn [.lst (ns.map D.int)]=[.fz (.lst (ns.map D.int))] from rfl,hr]
   rfl
  ·cases (show v=.bl true from z)
   exact q H'
end
end L3
namespace L3
open PySem PySem.Spec PyProof PyProof.Rows L2
end L3
namespace L3
open PySem PySem.Spec PyProof PyProof.Rows L2
end L3
namespace L2
open PySem PySem.Spec PyProof PyProof.Rows
end L2
namespace L3
open PySem PySem.Spec PyProof PyProof.Rows L2
end L3
namespace L3
open PySem PySem.Spec PyProof PyProof.Rows L2
noncomputable def ZF (f g:yX):yX:=fun β=>(f β).bind fun r=>(v7 r.1).bind fun x=>(g r.2).bind fun r'=>(v7 r'.1).bind fun y=>(ZM x y).bind fun z=>some (.own z,r'.2)
noncomputable def WR (f:yX):yX:=fun β=>(f β).bind fun r=>(v7 r.1).bind fun x=>some (.own (.lst [x]),r.2)
section
variable {X:Cx} {a b:Expr} {pos:Pos} {g g':yX}
theorem JG (ha:MC X a g) (hb:MC X b g'):MC X (.BinOp a .Add b pos) (ZF g g'):=by
 obtain ⟨ta,pa,ka⟩:=ha.h
 obtain ⟨tb,pb,kb⟩:=hb.h
 refine ⟨⟨_,VW JT pa pb,fun E hf q=>?_⟩⟩
 obtain ⟨⟨m1,β1⟩,h1,hf⟩:=zD hf
 obtain ⟨d1,e1,hf⟩:=zD hf
 cases pM e1
 obtain ⟨⟨m2,β2⟩,h2,hf⟩:=zD hf
 obtain ⟨d2,e2,hf⟩:=zD hf
 cases pM e2
 obtain ⟨z,hz,hf⟩:=zD hf
 cases hf
 refine ka E h1 fun v1 G1 H1 s1 E1=>?_
 have r1:=E1.lastR
 refine kb (E1.down E.lp) h2 fun v2 G2 H2 s2 E2=>?_
 have r2:=E2.lastR
 have Ed:=E2.down E.lp
 obtain ⟨xs,ys,rfl,rfl,c,rfl⟩:=ME hz
 obtain ⟨aa,vs,rfl,sa,ra,_⟩:=r1
 obtain ⟨bb,us,rfl,sb,rb,_⟩:=r2
 have c':(xs++ys).length<=sizeLine:=by rw [sizeLine_eq,List.length_append]; exact c
 refine ⟨aa,bb,vs,us,rfl,rfl,wE (s2.trans Ed.ext.gh) sa,wE Ed.ext.gh sb,by rw [ra.length,rb.length,sizeLine_eq]; exact c,fun p hp=>?_⟩
 exact q _ G2 _ (s1.trans s2) (Ed.pushO (zL.layO Ed.ext.gh hp) hp (Ed.ext.gh.free hp) ⟨_,yk,(ra.mono s2).append rb,c'⟩)
theorem DR (ha:MC X a g) (h1:yH a=true:=by rfl):MC X (.List [a] pos) (WR g):=by
 obtain ⟨ta,pa,ka⟩:=ha.h
 refine ⟨⟨_,Jb (qg pa kB h1),fun E hf q=>?_⟩⟩
 obtain ⟨⟨m1,β1⟩,h1,hf⟩:=zD hf
 obtain ⟨d1,e1,hf⟩:=zD hf
 cases pM e1
 cases hf
 refine ka E h1 fun v1 G1 H1 s1 E1=>?_
 have r1:=E1.lastR
 have Ed:=E1.down E.lp
 refine ⟨by rw [sizeLine_eq]; show 1<=16777216; decide,fun p hp=>?_⟩
 exact q _ G1 _ s1 (Ed.pushO (zL.layO Ed.ext.gh hp) hp (Ed.ext.gh.free hp) ⟨[v1],yk,⟨v1,[],rfl,r1,rfl⟩,by rw [sizeLine_eq]; show 1<=16777216; decide⟩)
end
end L3
namespace L3
open PySem PySem.Spec PyProof.Rows L2
noncomputable def zS (K:PySem.W.Frag) (x:Str) (st:Stmt):Prop:=
 ∃ (f:Addr) (od an:Option Addr) (sl:Array (Option Value)) (oc kV dc pm cd ct:Value),PySem.W.nsIn K mainGlobals x=some (some (.ref f))/\K.lookup f=vk x st oc od sl kV dc pm an cd ct/\PySem.W.codeIn K cd x=true/\PySem.W.keepIn K (.ref f)=true
section
variable {K:PySem.W.Frag} {mg:Str->Option Value} {h:Heap} {x p0 p1 p2 p3 p4 p5:Str} {st:Stmt} {ps:List Str}
theorem zS.d (a:zS K x st) (X:K.In h) (G:h.Ns mainGlobals mg) (b:∀ (kV doc pm:Value) (an:Option Addr) (cdv ct:Value) (us:List Value),us.length=ps.length->bindArgs (PySem.W.fnOf x x (yc st) (zz st) (zH st) .none kV doc pm an cdv ct) ⟨us,[]⟩=pure (ps.zip us)):Def K mg x st ps:=by
 obtain ⟨f,od,an,sl,oc,kV,dc,pm,cd,ct,a,l,c,k⟩:=a
 have F:=QY (st:=st) l c k
 exact ⟨_,_,F,PySem.W.mg_of X G a,F.binds b⟩
noncomputable abbrev BA (x:Str) (st:Stmt) (us:List Value) (ps:List Str):Prop:=∀ (kV doc pm:Value) (an:Option Addr) (cdv ct:Value),bindArgs (PySem.W.fnOf x x (yc st) (zz st) (zH st) .none kV doc pm an cdv ct) ⟨us,[]⟩=pure (ps.zip us)
theorem zS.d0 (a:zS K x st) (X:K.In h) (G:h.Ns mainGlobals mg) (b:BA x st [] []:=by intros; exact fun _ _ _ _ _ _=>rfl):Def K mg x st []:=a.d X G fun _ _ _ _ _ _=>O9 (b _ _ _ _ _ _)
theorem zS.d1 (a:zS K x st) (X:K.In h) (G:h.Ns mainGlobals mg) (b:∀ u,BA x st [u] [p0]:=by intros; exact fun _ _ _ _ _ _=>rfl):Def K mg x st [p0]:=a.d X G fun _ _ _ _ _ _=>qq fun u=>b u _ _ _ _ _ _
theorem zS.d2 (a:zS K x st) (X:K.In h) (G:h.Ns mainGlobals mg) (b:∀ u v,BA x st [u,v] [p0,p1]:=by intros; exact fun _ _ _ _ _ _=>rfl):Def K mg x st [p0,p1]:=a.d X G fun _ _ _ _ _ _=>T2 fun u v=>b u v _ _ _ _ _ _
theorem zS.d3 (a:zS K x st) (X:K.In h) (G:h.Ns mainGlobals mg) (b:∀ u v y,BA x st [u,v,y] [p0,p1,p2]:=by intros; exact fun _ _ _ _ _ _=>rfl):Def K mg x st [p0,p1,p2]:=a.d X G fun _ _ _ _ _ _=>YH fun u v y=>b u v y _ _ _ _ _ _
theorem zS.d4 (a:zS K x st) (X:K.In h) (G:h.Ns mainGlobals mg) (b:∀ u v y z,BA x st [u,v,y,z] [p0,p1,p2,p3]:=by intros; exact fun _ _ _ _ _ _=>rfl):Def K mg x st [p0,p1,p2,p3]:=a.d X G fun _ _ _ _ _ _=>T3 fun u v y z=>b u v y z _ _ _ _ _ _
theorem _root_.L2.Def.oS (d:Def K mg x st ps) (P:Program) (w:World) (base:Heap) (k:Nat) (F:List D->Option (Bool×D)) {N:List Str} {b:FS} (S:zX N ps (zH st)) (hF:∀ ds r,F ds=some r->ds.length=ps.length/\yQ N.length b ds=some r)
  (hb:∀ {f:Addr} {cdv:Value} {A:Around} {outer:List Env} {s:Shared} {H:Hp} {E:XK},zt k (A.deeper (envOfC x (zH st) s.heap.objs.size f cdv))->vf (wJ yJ P w K mg base N x (zH st) f cdv A outer s H E).nox (zz st) b)
  (hN:ps.length<=N.length:=by decide):zi P w K mg base x ps (k+1) (zm K F):=Def.okS d S hN hF fun _ _ _ _ _ _ _ hr=>hb hr
theorem _root_.L2.Def.oM (d:Def K mg x st ps) (P:Program) (w:World) (base:Heap) (k:Nat) (F:FM) {N:List Str} {b:zj} (S:zX N ps (zH st)) (hF:∀ ms r,F ms=some r->ms.length=ps.length/\yq ps.length N.length b ms=some r)
  (hb:∀ {f:Addr} {cdv:Value} {A:Around} {outer:List Env} {s:Shared} {H:Hp} {E:XK},zt k (A.deeper (envOfC x (zH st) s.heap.objs.size f cdv))->vI (wJ yJ P w K mg base N x (zH st) f cdv A outer s H E).nox ps.length (zz st) b)
  (hN:ps.length<=N.length:=by decide):zi P w K mg base x ps (k+1) (zx K F):=Def.okM d S hN hF fun _ _ _ _ _ _ _ hr=>hb hr
theorem xZ.oM {q:Str} {f:Addr} {fd:FuncData} (d:xZ K x q st f fd) (P:Program) (w:World) (mg:Str->Option Value) (base:Heap) (k:Nat) (F:FM) {N:List Str} {b:zj} (S:zX N ps (zH st)) (hF:∀ ms r,F ms=some r->ms.length=ps.length/\yq ps.length N.length b ms=some r)
  (hb:∀ {cdv:Value} {A:Around} {outer:List Env} {s:Shared} {H:Hp} {E:XK},zt k (A.deeper (envOfC q (zH st) s.heap.objs.size f cdv))->vI (wJ yJ P w K mg base N q (zH st) f cdv A outer s H E).nox ps.length (zz st) b)
  (hN:ps.length<=N.length:=by decide):yO P w K mg base yJ (k+1) f fd ps (zx K F):=d.okM S hN hF fun _ _ _ _ _ _ hr=>hb hr
theorem xZ.oF {q:Str} {f:Addr} {fd:FuncData} (d:xZ K x q st f fd) (P:Program) (w:World) (mg:Str->Option Value) (base:Heap) (k:Nat) (F:List D->Option (Bool×D)) {N:List Str} {b:FS} (S:zX N ps (zH st)) (hF:∀ ds r,F ds=some r->ds.length=ps.length/\yQ N.length b ds=some r)
  (hb:∀ {cdv:Value} {A:Around} {outer:List Env} {s:Shared} {H:Hp} {E:XK},zt k (A.deeper (envOfC q (zH st) s.heap.objs.size f cdv))->vf (wJ yJ P w K mg base N q (zH st) f cdv A outer s H E).nox (zz st) b)
  (hN:ps.length<=N.length:=by decide):yO P w K mg base yJ (k+1) f fd ps (zm K F):=d.okF S hN hF fun _ _ _ _ _ _ hr=>hb hr
end
end L3
namespace L2
open PySem PySem.Spec PyProof PyProof.Rows
open Builtin Builtin.Str
end L2
namespace L3
open PySem PySem.Spec PyProof PyProof.Rows L2
end L3
namespace L3
open PySem PySem.Spec PyProof PyProof.Rows L2
end L3
local macro_rules
 | `(tactic| simp! [$ls,*])=>`(tactic| simp only [L3.shx,Nat.reduceAdd,Nat.reduceSub,Int.reduceLT,Int.reduceLE,Int.reducePow,Int.reduceToNat,Int.reduceAdd,Int.reduceSub,Int.reduceMul,Int.reduceNeg,$ls,*])
namespace L3
open PySem
noncomputable def MV:List D:=[(.str "high"),(.str "left"),(.str "right"),(.str "add"),(.str "addc"),(.str "sub"),(.str "subc"),(.str "and"),(.str "or"),(.str "xor"),(.str "test"),(.str "store"),(.str "storew")]
noncomputable def V1:D:=.tup MV
noncomputable def MX:List D:=[(.str "copy"),(.str "load"),(.str "loadw"),(.str "add"),(.str "addc"),(.str "sub"),(.str "subc"),(.str "and"),(.str "or"),(.str "xor"),(.str "test"),(.str "store"),(.str "storew")]
noncomputable def V2:D:=.tup MX
noncomputable def MU:List D:=[(.str "addc"),(.str "subc")]
noncomputable def V0:D:=.tup MU
noncomputable def MZ:List D:=[(.str "set"),(.str "high"),(.str "copy"),(.str "load"),(.str "loadw"),(.str "add"),(.str "addc"),(.str "sub"),(.str "subc"),(.str "and"),(.str "or"),(.str "xor"),(.str "left"),(.str "right")]
noncomputable def V4:D:=.tup MZ
noncomputable def Ma:List D:=[(.str "add"),(.str "addc"),(.str "sub"),(.str "subc"),(.str "test"),(.str "and"),(.str "or"),(.str "xor"),(.str "left"),(.str "right")]
noncomputable def V5:D:=.tup Ma
noncomputable def MY:List D:=[(.str "add"),(.str "addc"),(.str "sub"),(.str "subc"),(.str "test"),(.str "left"),(.str "right")]
noncomputable def V3:D:=.tup MY
noncomputable def Qi:List D:=[(.int 0),(.int 8),(.int 16),(.int 24)]
noncomputable def jV:D:=.tup Qi
noncomputable def gi:List D:=[(.str "carry"),(.str "nought"),(.str "sign")]
noncomputable def jW:D:=.tup gi
noncomputable def MR:List D:=[(.str "jump"),(.str "when"),(.str "unless")]
noncomputable def W_:D:=.tup MR
end L3
namespace L3
open PySem
theorem VE {g:FG} {c:FT} {e:FE} {σ:zr} (p:D->Bool) (v:D->D):∀ {ds:List D},(∀ d∈ds,∃ σ1,g d σ=some σ1/\c σ1=some (p d)/\(p d=true->e σ1=some (v d)))->xE g c e σ ds=some ((ds.filter p).map v)
 | [],_=>rfl
 | d::ds,h=>by
  obtain ⟨σ1,e1,e2,e3⟩:=h d (List.mem_cons_self ..)
  have ih:=VE p v (ds:=ds) fun x hx=>h x (List.mem_cons_of_mem _ hx)
  show (g d σ).bind _=_
  rw [e1]
  show (c σ1).bind _=_
  rw [e2]
  cases hp:p d with
  | false=>
   rw [List.filter_cons_of_neg (by rw [hp]; decide)]
   exact ih
  | true=>
   rw [List.filter_cons_of_pos hp]
   show (e σ1).bind _=_
   rw [e3 hp]
   show (xE g c e σ ds).bind _=_
   rw [ih]
   rfl
theorem Zf {g:FG} {e:FE} {σ:zr} (v:D->D) {ds:List D} (h:∀ d∈ds,∃ σ1,g d σ=some σ1/\e σ1=some (v d)):xE g xW e σ ds=some (ds.map v):=by
 have:=VE (g:=g) (c:=xW) (e:=e) (σ:=σ) (fun _=>true) v (ds:=ds) fun d hd=>by
  obtain ⟨σ1,a,b⟩:=h d hd
  exact ⟨σ1,a,rfl,fun _=>b⟩
 rw [this,List.filter_eq_self.mpr (fun _ _=>rfl)]
theorem T1 {n i:Nat} {d:D} (h:(vx n)[i]?=some d):i<n/\d=.int (i:Int):=by
 have hi:i<n:=by
  have:=(List.getElem?_eq_some_iff.mp h).1
  simpa using this
 refine ⟨hi,?_⟩
 simp [hi] at h
 exact h.symm
theorem Oe {α:Type} {xs:List α} {i:Int} {a:α} (h0:0<=i) (h:xs[i.toNat]?=some a):xj xs i=some a:=by
 unfold xj
 rw [if_pos h0,h]
noncomputable def tZ:Nat->D->Bool
 | 0,_=>false
 | n+1,.tup xs=>xs.all (tZ n)
 | n+1,.lst xs=>xs.all (tZ n)
 | _+1,d=>yV d
theorem WW {f:D->D->Bool}:∀ {xs:List D},(∀ x∈xs,f x x=true)->vM f xs xs=true
 | [],_=>rfl
 | x::xs,h=>by
  show (f x x&&vM f xs xs)=true
  rw [h x (List.mem_cons_self ..),WW fun y hy=>h y (List.mem_cons_of_mem _ hy)]
  rfl
theorem WZ:∀ {xs:List D},(∀ x∈xs,ya x x=true)->dEqs xs xs=true
 | [],_=>by unfold dEqs; rfl
 | x::xs,h=>by
  unfold dEqs
  rw [h x (List.mem_cons_self ..),WZ fun y hy=>h y (List.mem_cons_of_mem _ hy)]
  rfl
theorem k7:∀ (n:Nat) (d:D),tZ n d=true->xx n d d=true/\ya d d=true
 | 0,_,h=>by cases h
 | n+1,d,h=>by
  cases d with
  | tup xs=>
   have h':∀ x∈xs,tZ n x=true:=List.all_eq_true.mp h
   exact ⟨WW fun x hx=>(k7 n x (h' x hx)).1,by unfold ya; exact WZ fun x hx=>(k7 n x (h' x hx)).2⟩
  | lst xs=>
   have h':∀ x∈xs,tZ n x=true:=List.all_eq_true.mp h
   exact ⟨WW fun x hx=>(k7 n x (h' x hx)).1,by unfold ya; exact WZ fun x hx=>(k7 n x (h' x hx)).2⟩
  | dic ks vs=>cases h
  | exc _=>cases h
  | obj _ _ _=>cases h
  | non=>exact ⟨rfl,by unfold ya; rfl⟩
  | bl b=>exact ⟨rfl,by unfold ya; exact beq_self_eq_true b⟩
  | int i=>exact ⟨rfl,by unfold ya; exact beq_self_eq_true i⟩
  | str z=>exact ⟨rfl,by unfold ya; exact beq_self_eq_true z⟩
theorem QN {d:D} (h:tZ 6 d=true):qX d d=some true:=by
 obtain ⟨h1,h2⟩:=k7 6 d h
 have e:qX d d=match xx 6 d d with
  | true=>some (ya d d)
  | false=>none:=by cases d<;>rfl
 rw [e,h1,h2]
theorem MD {d:D} (h:tZ 6 d=true):zh d d=some (.bl true):=by
 unfold zh
 rw [QN h]
 rfl
theorem VQ {d:D} (h:tZ 6 d=true):wm d d=some (.bl false):=by
 unfold wm
 rw [QN h]
 rfl
theorem add_int {i j:Int}:w8 (.int i) (.int j)=some (.int (i+j)):=rfl
theorem OY {L M:List D} (h:L.length+M.length<=1000):w8 (.lst L) (.lst M)=some (.lst (L++M)):=by
 show (if L.length+M.length<=yP then _ else _)=_
 rw [if_pos (by show _<=16777216; omega)]
end L3
namespace L3
open PySem
theorem Oc {n y l w:Nat} (hn:n<2 ^ w) (hy:y / 2 ^ l % 2 ^ w=0):(y &&& (n*2 ^ l))=0:=by
 apply Nat.eq_of_testBit_eq
 intro i
 rw [Nat.testBit_and,Nat.zero_testBit]
 rw [Nat.testBit_mul_two_pow]
 by_cases hl:l<=i
 ·by_cases hi:i - l<w
  ·have e:y.testBit i=(y / 2 ^ l % 2 ^ w).testBit (i - l):=by
    rw [Nat.testBit_mod_two_pow,Nat.testBit_div_two_pow,decide_eq_true hi,Bool.true_and,Nat.sub_add_cancel hl]
   rw [e,hy,Nat.zero_testBit,Bool.false_and]
  ·have:n.testBit (i - l)=false:=Nat.testBit_lt_two_pow (Nat.lt_of_lt_of_le hn (Nat.pow_le_pow_right (by decide) (by omega)))
   rw [this]; simp
 ·simp [hl]
theorem Ob (x l w:Nat):(x &&& ((2 ^ w - 1)*2 ^ l))=x / 2 ^ l % 2 ^ w*2 ^ l:=by
 apply Nat.eq_of_testBit_eq
 intro i
 rw [Nat.testBit_and,Nat.testBit_mul_two_pow,Nat.testBit_mul_two_pow,Nat.testBit_two_pow_sub_one,Nat.testBit_mod_two_pow,Nat.testBit_div_two_pow]
 by_cases hl:l<=i
 ·simp [hl,Nat.sub_add_cancel hl]
  rw [Bool.and_comm]
 ·simp [hl]
theorem LV (l w:Nat):(((1:Int)*2 ^ w - 1)*2 ^ l)=(((2 ^ w - 1)*2 ^ l:Nat):Int):=by
 have h:1<=2 ^ w:=Nat.one_le_two_pow
 rw [Int.natCast_mul,Int.natCast_sub h]
 simp
theorem Ov {x:Int} (hx:0<=x) (l w:Nat):Builtin.bitAnd x (((1:Int)*2 ^ w - 1)*2 ^ l)=x / 2^l % 2^w*2^l:=by
 obtain ⟨n,rfl⟩:=Int.eq_ofNat_of_zero_le hx
 rw [LV,PyProof.Rows.bitAnd_pp (Int.natCast_nonneg _) (Int.natCast_nonneg _),Int.toNat_natCast,Int.toNat_natCast,Ob]
 simp
theorem Ou {y n:Int} {l w:Nat} (hy:0<=y) (hn:0<=n) (hn2:n<2 ^ w) (hz:y / 2 ^ l % 2 ^ w=0):Builtin.bitAnd y (n*2 ^ l)=0:=by
 obtain ⟨a,rfl⟩:=Int.eq_ofNat_of_zero_le hy
 obtain ⟨b,rfl⟩:=Int.eq_ofNat_of_zero_le hn
 have e:(b:Int)*2 ^ l=((b*2 ^ l:Nat):Int):=by simp
 have h1:b<2 ^ w:=by
  have:((2 ^ w:Nat):Int)=(2:Int) ^ w:=by simp
  omega
 have h2:a / 2 ^ l % 2 ^ w=0:=by
  have:((a / 2 ^ l % 2 ^ w:Nat):Int)=(a:Int) / 2 ^ l % 2 ^ w:=by simp
  omega
 rw [e,PyProof.Rows.bitAnd_pp (Int.natCast_nonneg _) (Int.natCast_nonneg _),Int.toNat_natCast,Int.toNat_natCast,Oc h1 h2]
 rfl
theorem Lh {x p r:Int} (hx:0<=x) (hp:0<p) (hr:0<r):0<=x - x / p % r*p/\(x - x / p % r*p) / p % r=0/\(x - x / p % r*p) / p / r=x / p / r/\(x - x / p % r*p) % p=x % p:=by
 have h0:0<=x / p:=Int.ediv_nonneg hx (Int.le_of_lt hp)
 have e1:x - x / p % r*p=x+p*(-(x / p % r)):=by rw [Int.mul_neg,Int.mul_comm p]; omega
 have e2:(x - x / p % r*p) / p=x / p - x / p % r:=by rw [e1,Int.add_mul_ediv_left _ _ (Int.ne_of_gt hp)]; omega
 have e3:x / p - x / p % r=r*(x / p / r):=by have:=Int.mul_ediv_add_emod (x / p) r; omega
 refine ⟨?_,?_,?_,?_⟩
 ·have h1:x / p % r<=x / p:=by
   have:=Int.mul_ediv_add_emod (x / p) r
   have h2:0<=x / p / r:=Int.ediv_nonneg h0 (Int.le_of_lt hr)
   have h3:0<=r*(x / p / r):=Int.mul_nonneg (Int.le_of_lt hr) h2
   omega
  have h4:x / p % r*p<=x / p*p:=Int.mul_le_mul_of_nonneg_right h1 (Int.le_of_lt hp)
  have h5:=Int.ediv_mul_le x (Int.ne_of_gt hp)
  omega
 ·rw [e2,e3]; exact Int.mul_emod_right _ _
 ·rw [e2,e3]; exact Int.mul_ediv_cancel_left _ (Int.ne_of_gt hr)
 ·rw [e1]; exact Int.add_mul_emod_self_left ..
theorem VU (x:Int) (w:Nat):Builtin.bitAnd x ((1:Int)*2 ^ w - 1)=x % 2 ^ w:=by
 rw [Int.one_mul,PySem.W.kbt_mask]
theorem Kq {x n:Int} {l w:Nat} (hx:0<=x) (hn:0<=n) (hn2:n<2 ^ w):Builtin.bitOr (Builtin.bitAnd x (Builtin.bitNot (((1:Int)*2 ^ w - 1)*2 ^ l))) (n*2 ^ l)=x+(n - x / 2 ^ l % 2 ^ w)*2 ^ l:=by
 have hp:(0:Int)<2 ^ l:=Int.pow_pos (by decide)
 have hr:(0:Int)<2 ^ w:=Int.pow_pos (by decide)
 obtain ⟨c0,c1,_,_⟩:=Lh hx hp hr
 rw [PyProof.Rows.bitAnd_not,Ov hx,PyProof.Rows.bitOr_and,Ou c0 hn hn2 c1,Int.sub_mul]
 omega
end L3
namespace L3
open PySem
theorem Tq (a:Nat):decide ((0:Int)<=Builtin.bitNot (a:Int))=false:=decide_eq_false (by unfold Builtin.bitNot; omega)
theorem b0 (a:Nat):decide ((0:Int)<=(a:Int))=true:=decide_eq_true (Int.natCast_nonneg a)
theorem L6 (a:Int):Builtin.bitNot (Builtin.bitNot a)=a:=by unfold Builtin.bitNot; omega
theorem WP (a b:Nat):Builtin.bitOr (a:Int) (b:Int)=((a ||| b:Nat):Int):=by
 unfold Builtin.bitOr Builtin.bitAnd
 rw [Tq,Tq]
 simp only [L6,Int.toNat_natCast]
theorem Th (a b:Nat):Builtin.bitAnd (a:Int) (b:Int)=((a &&& b:Nat):Int):=by
 unfold Builtin.bitAnd
 rw [b0,b0]
 simp only [Int.toNat_natCast]
noncomputable def pc (x:Nat):Nat:=(List.range 11).countP fun k=>x.testBit k
end L3
namespace L3
open PySem
noncomputable def Tg:FS:=
 (zb (yg (tE (e2 (qW fun i j=>decide (i<j)) (z6 1) (eL uF (zA (z6 0) zG))))
   (zu (e2 zF (z6 0) (z6 1)))
   yj)
  (zu (eC (.int 0))))
theorem BX (ns:List Int) (k:Nat):(ns.map D.int)[k]?=(ns[k]?).map D.int:=List.getElem?_map
noncomputable def gY (ns:List Int) (k:Int):Int:=ns.getD k.toNat 0
noncomputable def j8:List D->Option (Bool×D)
 | [.lst xs,.int k]=>if 0<=k then ((xs[k.toNat]?).getD (.int 0) |> fun d=>some (false,d)) else none
 | _=>none
theorem LX (ns:List Int) {k:Int} (h:0<=k):j8 [.lst (ns.map D.int),.int k]=some (false,.int (gY ns k)):=by
 show (if 0<=k then _ else _)=_
 rw [if_pos h,BX]
 unfold gY
 rw [List.getD_eq_getElem?_getD]
 cases ns[k.toNat]?<;>rfl
theorem GD:∀ ds r,j8 ds=some r->ds.length=2/\yQ 2 Tg ds=some r:=fun ds r h=>by
 unfold j8 at h
 split at h
 ·rename_i xs k
  refine ⟨rfl,?_⟩
  by_cases h0:0<=k
  ·rw [if_pos h0] at h
   cases h
   unfold Tg
   by_cases c:k<(xs.length:Int)
   ·have e:zF (.lst xs) (.int k)=some ((xs[k.toNat]?).getD (.int 0)):=by
     show xj xs k=_
     unfold xj
     rw [if_pos h0,List.getElem?_eq_getElem (by omega)]
     rfl
    simp! [decide_eq_true c,e]
   ·have e:xs[k.toNat]?=none:=List.getElem?_eq_none (by omega)
    simp! [decide_eq_false c,e,Option.getD]
  ·rw [if_neg h0] at h
   cases h
 ·cases h
end L3
namespace L3
open PySem
theorem Oz {i:Int} {m:Nat} (h:xN i<=m):i.natAbs<2 ^ m:=by
 by_cases c:i=0
 ·subst c
  exact Nat.pow_pos (by decide)
 ·have e:xN i=i.natAbs.log2+1:=by
   show (if (i == 0)=true then 0 else i.natAbs.log2+1)=_
   rw [if_neg (by simpa using c)]
  exact (Nat.log2_lt (by omega)).mp (by omega)
theorem Oy {i:Int} {m:Nat} (h:i.natAbs<2 ^ m):xN i<=m:=by
 by_cases c:i=0
 ·subst c
  exact Nat.zero_le _
 ·have e:xN i=i.natAbs.log2+1:=by
   show (if (i == 0)=true then 0 else i.natAbs.log2+1)=_
   rw [if_neg (by simpa using c)]
  rw [e]
  exact (Nat.log2_lt (by omega)).mpr h
theorem LW {ns:List Int} {M:Nat} (hb:∀ m∈ns,xN m<=M) (k:Int):xN (gY ns k)<=M:=by
 unfold gY
 rw [List.getD_eq_getElem?_getD]
 cases e:ns[k.toNat]? with
 | none=>exact Nat.zero_le _
 | some m=>exact hb m (List.mem_of_getElem? e)
end L3
namespace L3
open PySem
noncomputable def W8:FS:=
 (zu (e2 (xI Builtin.bitAnd) (e2 qY (z6 0) (z6 1)) (e2 uG (e2 xJ (eC (.int 1)) (z6 2)) (eC (.int 1)))))
noncomputable def yy:List D->Option (Bool×D):=FR 3 3 W8
theorem B9 (x0 x1 x2:D):yy [x0,x1,x2]=yQ 3 W8 [x0,x1,x2]:=rfl
noncomputable def Xk:FS:=
 (zb (yW 3 (e2 w8 (e2 w8 (z6 0) (z6 1)) (uD (tE (z6 2)) (eC (.int 1)) (eC (.int 0)))))
  (zu (xO (zA (e2 ym (z6 3) (eC (.int 4294967296))) (zA (e2 (qW fun i j=>decide (j<=i)) (z6 3) (eC (.int 4294967296))) zG)))))
noncomputable def j3:List D->Option (Bool×D):=FR 3 4 Xk
theorem Ml (x0 x1 x2:D):j3 [x0,x1,x2]=yQ 4 Xk [x0,x1,x2]:=rfl
noncomputable def WE:FS:=
 (zb (yW 3 (e2 uG (e2 uG (z6 0) (z6 1)) (uD (tE (z6 2)) (eC (.int 1)) (eC (.int 0)))))
  (zb (yg (tE (e2 (qW fun i j=>decide (i<j)) (z6 3) (eC (.int 0))))
   (zu (xO (zA (e2 w8 (z6 3) (eC (.int 4294967296))) (zA (eC (.bl true)) zG))))
   yj)
  (zu (xO (zA (z6 3) (zA (eC (.bl false)) zG))))))
noncomputable def jC:List D->Option (Bool×D):=FR 3 4 WE
theorem BF (x0 x1 x2:D):jC [x0,x1,x2]=yQ 4 WE [x0,x1,x2]:=rfl
noncomputable def W5:FS:=
 (zb (yW 2 (e2 xJ (z6 0) (z6 1)))
  (zb (yW 3 (uD (tE (e2 zh (z6 1) (eC (.int 0)))) (eC .non) (e2 zh (zl yy (zA (z6 2) (zA (eC (.int 32)) (zA (eC (.int 1)) zG)))) (eC (.int 1)))))
  (zu (xO (zA (zl yy (zA (z6 2) (zA (eC (.int 0)) (zA (eC (.int 32)) zG)))) (zA (z6 3) zG))))))
noncomputable def pC:List D->Option (Bool×D):=FR 2 4 W5
theorem B6 (x0 x1:D):pC [x0,x1]=yQ 4 W5 [x0,x1]:=rfl
noncomputable def W6:FS:=
 (zb (yW 2 (uD (tE (e2 zh (z6 1) (eC (.int 0)))) (eC .non) (e2 zh (zl yy (zA (z6 0) (zA (e2 uG (z6 1) (eC (.int 1))) (zA (eC (.int 1)) zG)))) (eC (.int 1)))))
  (zu (xO (zA (e2 qY (z6 0) (z6 1)) (zA (z6 2) zG)))))
noncomputable def pD:List D->Option (Bool×D):=FR 2 3 W6
theorem B7 (x0 x1:D):pD [x0,x1]=yQ 3 W6 [x0,x1]:=rfl
noncomputable def WG:FS:=
 (zb (yW 4 (e2 xJ (e2 uG (e2 xJ (eC (.int 1)) (z6 2)) (eC (.int 1))) (z6 1)))
  (zu (e2 (xI Builtin.bitOr) (e2 (xI Builtin.bitAnd) (z6 0) (e1 Wm (z6 4))) (e2 xJ (z6 3) (z6 1)))))
noncomputable def pE:List D->Option (Bool×D):=FR 4 5 WG
theorem BI (x0 x1 x2 x3:D):pE [x0,x1,x2,x3]=yQ 5 WG [x0,x1,x2,x3]:=rfl
noncomputable def kj:FE:=(zl yy (zA (z6 0) (zA (z6 1) (zA (eC (.int 8)) zG))))
noncomputable def Xo:FS:=
 (zu (eL ge (zA (vj 1 (vm (eC jV)) (yp 1) xW kj) zG)))
noncomputable def j6:List D->Option (Bool×D):=FR 1 1 Xo
theorem Mp (x0:D):j6 [x0]=yQ 1 Xo [x0]:=rfl
noncomputable def T9:FE:=(e2 xJ (z6 1) (z6 2))
noncomputable def WI:FS:=
 (zu (eL Wt (zA (vj 2 (jX (z6 0) (eC jV)) (uh 1 2) xW T9) zG)))
noncomputable def gK:List D->Option (Bool×D):=FR 1 1 WI
theorem BK (x0:D):gK [x0]=yQ 1 WI [x0]:=rfl
noncomputable def Xn:FS:=
 (zu (We (z6 0) (z6 1) (eC (.int 0))))
noncomputable def j5:List D->Option (Bool×D):=FR 2 2 Xn
theorem Mo (x0 x1:D):j5 [x0,x1]=yQ 2 Xn [x0,x1]:=rfl
noncomputable def Xm:FS:=
 (zu (zl yy (zA (e2 w8 (z6 0) (z6 1)) (zA (eC (.int 0)) (zA (eC (.int 16)) zG)))))
noncomputable def j4:List D->Option (Bool×D):=FR 2 2 Xm
theorem Mn (x0 x1:D):j4 [x0,x1]=yQ 2 Xm [x0,x1]:=rfl
noncomputable def YL:FE:=(zl j4 (zA (z6 0) (zA (z6 1) zG)))
noncomputable def Xx:FS:=
 (uy (vj 1 (ui (eC (.int 0)) (eC (.int 4))) (yp 1) xW YL))
noncomputable def p7:List D->Option (Bool×D):=FR 1 1 Xx
theorem Mz (x0:D):p7 [x0]=yQ 1 Xx [x0]:=rfl
noncomputable def YM:FE:=(zl j5 (zA (z6 0) (zA (z6 2) zG)))
noncomputable def WH:FS:=
 (zu (zl gK (zA (vj 1 (vm (wK p7 (zA (z6 1) zG))) (yp 2) xW YM) zG)))
noncomputable def gJ:List D->Option (Bool×D):=FR 2 2 WH
theorem BJ (x0 x1:D):gJ [x0,x1]=yQ 2 WH [x0,x1]:=rfl
noncomputable def W9:zj:=
 (pX 0 [] (z6 1) (yl (zl yy (zA (z6 2) (zA (eC (.int 0)) (zA (eC (.int 8)) zG))))))
noncomputable def jB:FM:=xS 3 3 W9
theorem BB (x0 x1 x2:M):jB [x0,x1,x2]=yq 3 3 W9 [x0,x1,x2]:=rfl
noncomputable def Ze:zj:=(vB (wg jB (wU 0 [] (xw (z6 3) (xw (z6 4) xU)))))
noncomputable def WA:zj:=
 (gu (jX (wK p7 (zA (z6 1) zG)) (zl j6 (zA (z6 2) zG))) (jZ 3 4)
   Ze)
noncomputable def gH:FM:=xS 3 5 WA
theorem BC (x0 x1 x2:M):gH [x0,x1,x2]=yq 3 5 WA [x0,x1,x2]:=rfl
noncomputable def OI:FE:=(xO (zA (z6 3) (zA (eC (.bl false)) zG)))
noncomputable def Xj:zj:=
 (yD (vC 0 [] ["State"] "words" (jM (eL vN (zA (z6 1) zG))))
  (yD (vC 0 [] ["State"] "truths" (jM (eL ZO (zA (vj 1 (vm (eC jW)) (yp 3) xW OI) zG))))
  (vC 0 [] ["State"] "held" (jM (eL ZN (zA (z6 2) zG))))))
noncomputable def q_:FM:=xS 3 3 Xj
theorem Mj (x0 x1 x2:M):q_ [x0,x1,x2]=yq 3 3 Xj [x0,x1,x2]:=rfl
noncomputable def Xu:zj:=
 (uJ 0 [.at ["State"] "words"] (e2 zF (z6 1) (eC (.int 1))) (yl (e2 zF (z6 1) (eC (.int 2)))))
noncomputable def g8:FM:=xS 2 2 Xu
theorem Mv (x0 x1:M):g8 [x0,x1]=yq 2 2 Xu [x0,x1]:=rfl
noncomputable def Xr:zj:=
 (uJ 0 [.at ["State"] "words"] (e2 zF (z6 1) (eC (.int 1))) (vK (zl pE (zA (e2 zF (e1 (yT ["State"] "words") (z6 0)) (e2 zF (z6 1) (eC (.int 1)))) (zA (eC (.int 16)) (zA (eC (.int 16)) (zA (e2 zF (z6 1) (eC (.int 2))) zG)))))))
noncomputable def j_:FM:=xS 2 2 Xr
theorem Ms (x0 x1:M):j_ [x0,x1]=yq 2 2 Xr [x0,x1]:=rfl
noncomputable def Xq:zj:=
 (uJ 0 [.at ["State"] "words"] (e2 zF (z6 1) (eC (.int 1))) (vK (e2 zF (e1 (yT ["State"] "words") (z6 0)) (e2 zF (z6 1) (eC (.int 2))))))
noncomputable def jz:FM:=xS 2 2 Xq
theorem Mr (x0 x1:M):jz [x0,x1]=yq 2 2 Xq [x0,x1]:=rfl
noncomputable def pN:FS:=
 (zb (yg (tE (e2 zh (z6 0) (eC (.str "add"))))
   (zu (zl j3 (zA (z6 1) (zA (z6 2) (zA (eC (.bl false)) zG)))))
   yj)
  (zb (yg (tE (e2 zh (z6 0) (eC (.str "addc"))))
   (zu (zl j3 (zA (z6 1) (zA (z6 2) (zA (z6 3) zG)))))
   yj)
  (zu (zl jC (zA (z6 1) (zA (z6 2) (zA (jR (z6 3) (e2 zh (z6 0) (eC (.str "subc")))) zG)))))))
noncomputable def tL:List D->Option (Bool×D):=FR 4 4 pN
theorem gj (x0 x1 x2 x3:D):tL [x0,x1,x2,x3]=yQ 4 pN [x0,x1,x2,x3]:=rfl
noncomputable def W4:zj:=
 (yD (pX 0 [.at ["State"] "truths"] (eC (.str "nought")) (yl (e2 zh (z6 1) (eC (.int 0)))))
  (pX 0 [.at ["State"] "truths"] (eC (.str "sign")) (yl (e2 zh (zl yy (zA (z6 1) (zA (e2 uG (eC (.int 32)) (eC (.int 1))) (zA (eC (.int 1)) zG)))) (eC (.int 1))))))
noncomputable def pA:FM:=xS 2 2 W4
theorem B5 (x0 x1:M):pA [x0,x1]=yq 2 2 W4 [x0,x1]:=rfl
noncomputable def ZE:zj:=
 (yD (wA 2 (vK (zl tL (zA (e2 zF (z6 1) (eC (.int 0))) (zA (e2 zF (e1 (yT ["State"] "words") (z6 0)) (e2 zF (z6 1) (eC (.int 1)))) (zA (e2 zF (e1 (yT ["State"] "words") (z6 0)) (e2 zF (z6 1) (eC (.int 2)))) (zA (e2 zF (e1 (yT ["State"] "truths") (z6 0)) (eC (.str "carry"))) zG)))))))
  (yD (pX 0 [.at ["State"] "truths"] (eC (.str "carry")) (yl (e2 zF (z6 2) (eC (.int 1)))))
  (yD (vB (wg pA (wU 0 [] (xw (e2 zF (z6 2) (eC (.int 0))) xU))))
  (um (uU (tE (e2 wm (e2 zF (z6 1) (eC (.int 0))) (eC (.str "test")))))
   (uJ 0 [.at ["State"] "words"] (e2 zF (z6 1) (eC (.int 1))) (yl (e2 zF (z6 2) (eC (.int 0)))))
   uo))))
noncomputable def u3:FM:=xS 2 3 ZE
theorem Qm (x0 x1:M):u3 [x0,x1]=yq 2 3 ZE [x0,x1]:=rfl
noncomputable def Xz:FS:=
 (zb (yg (tE (e2 zh (z6 0) (eC (.str "and"))))
   (zu (e2 (xI Builtin.bitAnd) (z6 1) (z6 2)))
   yj)
  (zb (yg (tE (e2 zh (z6 0) (eC (.str "or"))))
   (zu (e2 (xI Builtin.bitOr) (z6 1) (z6 2)))
   yj)
  (zu (e2 (xI Builtin.bitXor) (z6 1) (z6 2)))))
noncomputable def j7:List D->Option (Bool×D):=FR 3 3 Xz
theorem B0 (x0 x1 x2:D):j7 [x0,x1,x2]=yQ 3 Xz [x0,x1,x2]:=rfl
noncomputable def Xp:zj:=
 (yD (wA 2 (vK (zl j7 (zA (e2 zF (z6 1) (eC (.int 0))) (zA (e2 zF (e1 (yT ["State"] "words") (z6 0)) (e2 zF (z6 1) (eC (.int 1)))) (zA (e2 zF (e1 (yT ["State"] "words") (z6 0)) (e2 zF (z6 1) (eC (.int 2)))) zG))))))
  (yD (vB (wg pA (wU 0 [] (xw (z6 2) xU))))
  (uJ 0 [.at ["State"] "words"] (e2 zF (z6 1) (eC (.int 1))) (yl (z6 2)))))
noncomputable def qF:FM:=xS 2 3 Xp
theorem Mq (x0 x1:M):qF [x0,x1]=yq 2 3 Xp [x0,x1]:=rfl
noncomputable def ZC:zj:=
 (yD (wA 2 (vK (e2 zF (e1 (yT ["State"] "words") (z6 0)) (e2 zF (z6 1) (eC (.int 1))))))
  (yD (wA 3 (yl (uD (tE (e2 zh (e2 zF (z6 1) (eC (.int 0))) (eC (.str "left")))) (zl pC (zA (z6 2) (zA (e2 zF (z6 1) (eC (.int 2))) zG))) (zl pD (zA (z6 2) (zA (e2 zF (z6 1) (eC (.int 2))) zG))))))
  (yD (um (uU (tE (e2 Wq (e2 zF (z6 3) (eC (.int 1))) (eC .non))))
   (pX 0 [.at ["State"] "truths"] (eC (.str "carry")) (yl (e2 zF (z6 3) (eC (.int 1)))))
   uo)
  (yD (vB (wg pA (wU 0 [] (xw (e2 zF (z6 3) (eC (.int 0))) xU))))
  (uJ 0 [.at ["State"] "words"] (e2 zF (z6 1) (eC (.int 1))) (yl (e2 zF (z6 3) (eC (.int 0)))))))))
noncomputable def p6:FM:=xS 2 4 ZC
theorem Qk (x0 x1:M):p6 [x0,x1]=yq 2 4 ZC [x0,x1]:=rfl
noncomputable def Xl:FS:=
 (zu (zl j4 (zA (e2 zF (e1 (yT ["State"] "words") (z6 0)) (e2 zF (z6 1) (eC (.int 2)))) (zA (e2 zF (z6 1) (eC (.int 3))) zG))))
noncomputable def qE:List D->Option (Bool×D):=FR 2 2 Xl
theorem Mm (x0 x1:D):qE [x0,x1]=yQ 2 Xl [x0,x1]:=rfl
noncomputable def Xs:zj:=
 (uJ 0 [.at ["State"] "words"] (e2 zF (z6 1) (eC (.int 1))) (vK (zl j5 (zA (e1 (yT ["State"] "held") (z6 0)) (zA (zl qE (zA (z6 0) (zA (z6 1) zG))) zG)))))
noncomputable def g6:FM:=xS 2 2 Xs
theorem Mt (x0 x1:M):g6 [x0,x1]=yq 2 2 Xs [x0,x1]:=rfl
noncomputable def Xt:zj:=
 (uJ 0 [.at ["State"] "words"] (e2 zF (z6 1) (eC (.int 1))) (vK (zl gJ (zA (e1 (yT ["State"] "held") (z6 0)) (zA (zl qE (zA (z6 0) (zA (z6 1) zG))) zG)))))
noncomputable def g7:FM:=xS 2 2 Xt
theorem Mu (x0 x1:M):g7 [x0,x1]=yq 2 2 Xt [x0,x1]:=rfl
noncomputable def Xv:zj:=
 (vB (wg jB (wU 0 [.at ["State"] "held"] (jJ (zl qE (zA (z6 0) (zA (z6 1) zG))) (jJ (e2 zF (e1 (yT ["State"] "words") (z6 0)) (e2 zF (z6 1) (eC (.int 1)))) xU)))))
noncomputable def g9:FM:=xS 2 2 Xv
theorem Mw (x0 x1:M):g9 [x0,x1]=yq 2 2 Xv [x0,x1]:=rfl
noncomputable def Xw:zj:=
 (vB (wg gH (wU 0 [.at ["State"] "held"] (jJ (zl qE (zA (z6 0) (zA (z6 1) zG))) (jJ (e2 zF (e1 (yT ["State"] "words") (z6 0)) (e2 zF (z6 1) (eC (.int 1)))) xU)))))
noncomputable def gA:FM:=xS 2 2 Xw
theorem Mx (x0 x1:M):gA [x0,x1]=yq 2 2 Xw [x0,x1]:=rfl
noncomputable def vi:List (Sum Int Str):=List.map .inr ["set", "high", "copy", "add", "addc", "sub", "subc", "test", "and", "or", "xor", "left", "right", "load", "loadw", "store", "storew"]
noncomputable def QB:List Str:=["do_set", "do_high", "do_copy", "do_sum", "do_sum", "do_sum", "do_sum", "do_sum", "do_bits", "do_bits", "do_bits", "do_move", "do_move", "do_load", "do_loadw", "do_store", "do_storew"]
noncomputable def gZ:List FM:=[g8,j_,jz,u3,u3,u3,u3,u3,qF,qF,qF,p6,p6,g6,g7,g9,gA]
noncomputable def ZD:zj:=
 (um (uU (tE (e1 (jS vi) (e2 zF (z6 1) (eC (.int 0))))))
   (vB (WS vi gZ (e2 zF (z6 1) (eC (.int 0))) (wU 0 [] (xw (z6 1) xU))))
   uo)
noncomputable def qG:FM:=xS 2 2 ZD
theorem Ql (x0 x1:M):qG [x0,x1]=yq 2 2 ZD [x0,x1]:=rfl
noncomputable def On:FS:=
 (zb (yg (tE (e2 zh (e2 zF (z6 1) (eC (.int 0))) (eC (.str "when"))))
   (zu (e2 zF (e1 (yT ["State"] "truths") (z6 0)) (e2 zF (z6 1) (eC (.int 1)))))
   yj)
  (zb (yg (tE (e2 zh (e2 zF (z6 1) (eC (.int 0))) (eC (.str "unless"))))
   (zu (Wf (e2 zF (e1 (yT ["State"] "truths") (z6 0)) (e2 zF (z6 1) (eC (.int 1))))))
   yj)
  (zu (e2 zh (e2 zF (z6 1) (eC (.int 0))) (eC (.str "jump"))))))
noncomputable def p9:List D->Option (Bool×D):=FR 2 2 On
noncomputable def Xg:FS:=
 (zu (ZI (e2 zh (e1 (yT ["RowMachine"] "due") (z6 0)) (e1 (yT ["RowMachine"] "end") (z6 0))) (e2 zh (e2 zF (e2 zF (e1 (yT ["RowMachine"] "table") (z6 0)) (e1 (yT ["RowMachine"] "due") (z6 0))) (eC (.int 0))) (xO (zA (eC (.str "stop")) zG)))))
noncomputable def tJ:List D->Option (Bool×D):=FR 1 1 Xg
theorem Mg (x0:D):tJ [x0]=yQ 1 Xg [x0]:=rfl
noncomputable def Xh:zj:=
 (yD (um (uU (tE (zl tJ (u7 "RowMachine" "stands" (z6 0) zG))))
   (uI (yl (eC (.bl false))))
   uo)
  (yD (wA 1 (vK (e2 zF (e1 (yT ["RowMachine"] "table") (z6 0)) (e1 (yT ["RowMachine"] "due") (z6 0)))))
  (yD (vB (wg qG (wU 0 [.at ["RowMachine"] "state"] (xw (e2 zF (z6 1) (eC (.int 0))) xU))))
  (yD (vC 0 [] ["RowMachine"] "due" (vK (uD (tE (zl p9 (zA (e1 (yT ["RowMachine"] "state") (z6 0)) (zA (e2 zF (z6 1) (eC (.int 0))) zG)))) (e2 zF (z6 1) (eC (.int 2))) (e2 zF (z6 1) (eC (.int 1))))))
  (yD (VJ 0 [] ["RowMachine"] "done" (eC (.int 1)))
  (uI (yl (eC (.bl true)))))))))
noncomputable def wH:FM:=xS 1 2 Xh
theorem Mh (x0:M):wH [x0]=yq 1 2 Xh [x0]:=rfl
noncomputable abbrev vd:List (Sum Int Str):=[.inr "carry",.inr "nought",.inr "sign"]
noncomputable def qp (a b c:Bool):D:=.dic vd [.bl a,.bl b,.bl c]
noncomputable def st (ws:List D) (a b c:Bool) (hk:List (Sum Int Str)) (hv:List D):M:=.obj "State" ["words", "truths", "held"] [.own (.lst ws),.own (qp a b c),.own (.dic hk hv)]
noncomputable def uC (ws:List D) (a b c:Bool) (hk:List (Sum Int Str)) (hv:List D):D:=.obj "State" ["words", "truths", "held"] [.lst ws,qp a b c,.dic hk hv]
noncomputable abbrev jE:List Str:=["table", "end", "first_words", "first_held", "state", "due", "done"]
noncomputable def zo (T:D) (e:Int) (fw fh:D) (s:M) (due done:Int):M:=.obj "RowMachine" jE [.fz T,.fz (.int e),.fz fw,.fz fh,s,.fz (.int due),.fz (.int done)]
noncomputable def xt (T:D) (e:Int) (fw fh:D) (s:D) (due done:Int):D:=.obj "RowMachine" jE [T,.int e,fw,fh,s,.int due,.int done]
section
variable {ws ws':List D} {a b c d':Bool} {hk hk':List (Sum Int Str)} {hv hv':List D} {T fw fh sd:D} {e due done:Int} {s s':M}
theorem v4:xh (st ws a b c hk hv)=uC ws a b c hk hv:=by simp only [st,uC,xh,thaws]
theorem kd:xh (zo T e fw fh s due done)=xt T e fw fh (xh s) due done:=by simp only [zo,xt,xh,thaws]
theorem pL {i:Nat} {π:List yY}:u9 (st ws a b c hk hv) i π=.p i π:=rfl
theorem uA:vJ (st ws a b c hk hv) [.at ["State"] "words"]=some (.own (.lst ws)):=rfl
theorem gV:vJ (st ws a b c hk hv) [.at ["State"] "truths"]=some (.own (.dic vd [.bl a,.bl b,.bl c])):=rfl
theorem Td:vJ (st ws a b c hk hv) [.at ["State"] "held"]=some (.own (.dic hk hv)):=rfl
theorem uQ:vE (st ws a b c hk hv) [.at ["State"] "words"] (.own (.lst ws'))=some (st ws' a b c hk hv):=rfl
theorem Ju:vE (st ws a b c hk hv) [.at ["State"] "held"] (.own (.dic hk' hv'))=some (st ws a b c hk' hv'):=rfl
theorem kH {x y z:Bool}:vE (st ws a b c hk hv) [.at ["State"] "truths"] (.own (.dic vd [.bl x,.bl y,.bl z]))=some (st ws x y z hk hv):=rfl
theorem vO:yT ["State"] "words" (uC ws a b c hk hv)=some (.lst ws):=rfl
theorem Wv:yT ["State"] "truths" (uC ws a b c hk hv)=some (qp a b c):=rfl
theorem Wu:yT ["State"] "held" (uC ws a b c hk hv)=some (.dic hk hv):=rfl
theorem Uz:zF (qp a b c) (.str "carry")=some (.bl a):=rfl
theorem KK:zF (qp a b c) (.str "nought")=some (.bl b):=rfl
theorem KL:zF (qp a b c) (.str "sign")=some (.bl c):=rfl
theorem Zr:xm vd (.inr "carry")=vd:=rfl
theorem EC:xm vd (.inr "nought")=vd:=rfl
theorem ED:xm vd (.inr "sign")=vd:=rfl
theorem Zu:xH vd [D.bl a,.bl b,.bl c] (.inr "carry") (.bl d')=[.bl d',.bl b,.bl c]:=rfl
theorem EV:xH vd [D.bl a,.bl b,.bl c] (.inr "nought") (.bl d')=[.bl a,.bl d',.bl c]:=rfl
theorem EW:xH vd [D.bl a,.bl b,.bl c] (.inr "sign") (.bl d')=[.bl a,.bl b,.bl d']:=rfl
theorem Te:vJ (zo T e fw fh s due done) [.at ["RowMachine"] "state"]=some s:=rfl
theorem Jv:vE (zo T e fw fh s due done) [.at ["RowMachine"] "state"] s'=some (zo T e fw fh s' due done):=rfl
theorem Ww:yT ["RowMachine"] "table" (xt T e fw fh sd due done)=some T:=rfl
theorem QR:yT ["RowMachine"] "end" (xt T e fw fh sd due done)=some (.int e):=rfl
theorem gf:yT ["RowMachine"] "state" (xt T e fw fh sd due done)=some sd:=rfl
theorem ZT:yT ["RowMachine"] "due" (xt T e fw fh sd due done)=some (.int due):=rfl
theorem QT {d2:Int} {za:zg}:vu (.fz (.int d2)) (some (zo T e fw fh s due done)::za) 0 [] ["RowMachine"] "due" = some (.nx (some (zo T e fw fh s d2 done)::za)):=rfl
theorem Tf {za:zg}:VJ 0 [] ["RowMachine"] "done" (eC (.int 1)) (some (zo T e fw fh s due done)::za)=some (.nx (some (zo T e fw fh s due (done+1))::za)):=rfl
theorem TW {m:Str} {fo:FE} {fs:FA} {τ:zr} {ds:List D} (h:fo τ=some (xt T e fw fh sd due done)) (hm:m ∉ jE) (h2:fs τ=some ds):u7 "RowMachine" m fo fs τ=some (xt T e fw fh sd due done::ds):=by
 unfold u7
 rw [h]
 show (match decide (("RowMachine" : Str) = "RowMachine")&&!(decide (m∈jE)) with | true=>_ | false=>_)=_
 rw [decide_eq_true (show ("RowMachine" : Str) = "RowMachine" from rfl),decide_eq_false hm]
 show (fs τ).bind _=_
 rw [h2]
 rfl
end
noncomputable def wI (ns:List Int):List D:=ns.map D.int
theorem vz {ns:List Int} {k:Nat} {v:Int}:(wI ns).set k (.int v)=wI (ns.set k v):=(List.map_set ..).symm
theorem wG {ns:List Int}:(wI ns).length=ns.length:=List.length_map ..
theorem vn {n k:Nat} (h:k<n):L2.ixN n (k:Int)=some k:=by
 unfold L2.ixN
 rw [if_pos (Int.natCast_nonneg k)]
 simp [h]
theorem wX {ns:List Int} {k:Nat} {v:Int} (h:ns[k]?=some v):zF (.lst (wI ns)) (.int (k:Int))=some (.int v):=by
 show xj (wI ns) (k:Int)=_
 unfold xj
 rw [if_pos (Int.natCast_nonneg k)]
 show (wI ns)[((k:Int)).toNat]?=_
 rw [Int.toNat_natCast]
 unfold wI
 rw [List.getElem?_map,h]
 rfl
theorem Lv {T fw fh sd:D} {e due done:Int} {τ:zr}:z6 0 (some (false,xt T e fw fh sd due done)::τ)=some (xt T e fw fh sd due done):=rfl
theorem Hc {T fw fh sd row nx tg:D} {e due done:Int} {k:Bool} (h:due≠e->zF T (.int due)=some (.tup [row,nx,tg])/\zh row (.tup [.str "stop"])=some (.bl k)) :
  tJ [xt T e fw fh sd due done]=some (false,.bl (decide (due=e)||k))\/due=e/\tJ [xt T e fw fh sd due done]=some (false,.bl true):=by
 have e0:∀ {i j:Int},zh (.int i) (.int j)=some (.bl (decide (i=j))):=fun {i j}=>by
  show some (D.bl (i == j))=_
  rw [show (i == j)=decide (i=j) from rfl]
 have t0:∀ {x y z:D},zF (.tup [x,y,z]) (.int 0)=some x:=rfl
 rw [Mg]
 unfold Xg
 by_cases c:due=e
 ·right
  refine ⟨c,?_⟩
  simp! [ZT,QR,e0,c,decide_true]
 ·left
  obtain ⟨h1,h2⟩:=h c
  have c2:decide (due=e)=false:=decide_eq_false c
  rw [c2]
  simp! [ZT,QR,Ww,e0,c2,h1,t0,h2]
  rfl
theorem He {T fw fh row tg:D} {e due done:Int} {s s':M} {nx:D} {d2:Int} (hne:due≠e) (hT:zF T (.int due)=some (.tup [row,nx,tg])) (hs:zh row (.tup [.str "stop"])=some (.bl false)) (tp:xo (.tup [row,nx,tg])=true) (ns:∀ d,s≠.fz d)
  (hr:qG [s,.fz row]=some ([s',.fz row],.fz .non)) (ld:Bool) (hl:p9 [xh s',row]=some (false,.bl ld)) (hd:(if ld then tg else nx)=.int d2) :
  wH [zo T e fw fh s due done]=some ([zo T e fw fh s' d2 (done+1)],.fz (.bl true)):=by
 have h1:tJ [xt T e fw fh (xh s) due done]=some (false,.bl false):=by
  rcases Hc (T:=T) (fw:=fw) (fh:=fh) (sd:=xh s) (row:=row) (nx:=nx) (tg:=tg) (e:=e) (due:=due) (done:=done) (k:=false) fun _=>⟨hT,hs⟩ with z | ⟨z,_⟩
  ·rw [z,decide_eq_false hne]
   rfl
  ·exact absurd z hne
 have t0:∀ {x y z:D},zF (.tup [x,y,z]) (.int 0)=some x:=rfl
 have t1:∀ {x y z:D},zF (.tup [x,y,z]) (.int 1)=some y:=rfl
 have t2:∀ {x y z:D},zF (.tup [x,y,z]) (.int 2)=some z:=rfl
 have hn:u9 s 0 [.at ["RowMachine"] "state"]=.p 0 [.at ["RowMachine"] "state"]:=by
  cases s with
  | fz d=>exact absurd rfl (ns d)
  | _=>rfl
 have hself:∀ τ:zr,u7 "RowMachine" "stands" (z6 0) zG (some (false,xt T e fw fh (xh s) due done)::τ)=some [xt T e fw fh (xh s) due done]:=fun τ=>TW Lv (by decide +kernel) rfl
 rw [Mh]
 unfold Xh
 cases ld with
 | false=>
  have hd':nx=.int d2:=hd
  subst hd'
  simp! [yN,kd,hself,h1,Ww,ZT,hT,tp,t0,t1,t2,Te,Jv,hn,hr,gf,hl,QT,Tf]
 | true=>
  have hd':tg=.int d2:=hd
  subst hd'
  simp! [yN,kd,hself,h1,Ww,ZT,hT,tp,t0,t1,t2,Te,Jv,hn,hr,gf,hl,QT,Tf]
end L3
namespace L3
open PySem
theorem uT {x y z:D}:zF (.tup [x,y,z]) (.int 0)=some x:=rfl
theorem tF {x y z:D}:zF (.tup [x,y,z]) (.int 1)=some y:=rfl
theorem tG {x y z:D}:zF (.tup [x,y,z]) (.int 2)=some z:=rfl
theorem jP {x y:D}:zF (.tup [x,y]) (.int 0)=some x:=rfl
theorem jQ {x y:D}:zF (.tup [x,y]) (.int 1)=some y:=rfl
theorem eq_int {i j:Int}:zh (.int i) (.int j)=some (.bl (decide (i=j))):=by
 show some (D.bl (i == j))=_
 rw [show (i == j)=decide (i=j) from rfl]
theorem pV {x:Str}:wp (.str x)=some (.inr x):=rfl
theorem gs:decide (3<yP)=true:=by decide
section
variable {Ws:List Int} {a b c:Bool} {hk:List (Sum Int Str)} {hv:List D}
theorem M0 {d:Nat} {n:Int} (hd:d<Ws.length):g8 [st (wI Ws) a b c hk hv,.fz (.tup [.str "set",.int (d:Int),.int n])]=some ([st (wI (Ws.set d n)) a b c hk hv,.fz (.tup [.str "set",.int (d:Int),.int n])],.fz .non):=by
 rw [Mv]
 unfold Xu
 simp! [yN,uT,tF,tG,uA,uQ,wG,vn hd,vz]
theorem Lx {d s:Nat} {v:Int} (hd:d<Ws.length) (hs:Ws[s]?=some v):jz [st (wI Ws) a b c hk hv,.fz (.tup [.str "copy",.int (d:Int),.int (s:Int)])]=some ([st (wI (Ws.set d v)) a b c hk hv,.fz (.tup [.str "copy",.int (d:Int),.int (s:Int)])],.fz .non):=by
 rw [Mr]
 unfold Xq
 simp! [yN,v4,vO,wX hs,uT,tF,tG,uA,uQ,wG,vn hd,vz]
theorem pW {w:Int} {g:Int} (h:yy [.int w,.int 31,.int 1]=some (false,.int g)):pA [st (wI Ws) a b c hk hv,.fz (.int w)]=some ([st (wI Ws) a (decide (w=0)) (decide (g=1)) hk hv,.fz (.int w)],.fz .non):=by
 rw [B5]
 unfold W4
 simp! [yN,v4,h,eq_int,pV,gV,kH,gs,EC,ED,EV,EW]
theorem Ly {d:Nat} {n v w:Int} (hd:Ws[d]?=some v) (h:pE [.int v,.int 16,.int 16,.int n]=some (false,.int w)):j_ [st (wI Ws) a b c hk hv,.fz (.tup [.str "high",.int (d:Int),.int n])]=some ([st (wI (Ws.set d w)) a b c hk hv,.fz (.tup [.str "high",.int (d:Int),.int n])],.fz .non):=by
 have hl:d<Ws.length:=(List.getElem?_eq_some_iff.mp hd).1
 rw [Ms]
 unfold Xr
 simp! [yN,v4,vO,wX hd,h,uT,tF,tG,uA,uQ,wG,vn hl,vz]
theorem M4 {k:Str} {d s:Nat} {x y w g:Int} {u:Bool} (hk0:wm (.str k) (.str "test")=some (.bl true)) (hd:Ws[d]?=some x) (hs:Ws[s]?=some y) (h:tL [.str k,.int x,.int y,.bl a]=some (false,.tup [.int w,.bl u])) (hg:yy [.int w,.int 31,.int 1]=some (false,.int g)) :
  u3 [st (wI Ws) a b c hk hv,.fz (.tup [.str k,.int (d:Int),.int (s:Int)])]=some ([st (wI (Ws.set d w)) u (decide (w=0)) (decide (g=1)) hk hv,.fz (.tup [.str k,.int (d:Int),.int (s:Int)])],.fz .non):=by
 have hl:d<Ws.length:=(List.getElem?_eq_some_iff.mp hd).1
 rw [Qm]
 unfold ZE
 simp! [yN,v4,vO,Wv,Uz,wX hd,wX hs,h,uT,tF,tG,jP,jQ,pV,gV,kH,gs,Zr,Zu,pW hg,pL,hk0,uA,uQ,wG,vn hl,vz]
theorem uB {k:Str} {d s:D} {F:FM} {S S':M} (h1:jS vi (.str k)=some (.bl true)) (h2:getK vi gZ (.inr k)=some F) (hS:∀ d,S≠.fz d) (hp:xo d=true) (hq:xo s=true) (h:F [S,.fz (.tup [.str k,d,s])]=some ([S',.fz (.tup [.str k,d,s])],.fz .non)) :
  qG [S,.fz (.tup [.str k,d,s])]=some ([S',.fz (.tup [.str k,d,s])],.fz .non):=by
 rw [Ql]
 unfold ZD
 have hn:u9 S 0 []=.p 0 []:=by
  cases S with
  | fz d=>exact absurd rfl (hS d)
  | _=>rfl
 simp! [yN,uT,h1,pV,h2,hn,h]
theorem wc {ws:List D}:∀ d,st ws a b c hk hv≠.fz d:=fun d h=>by cases h
end
end L3
namespace L3
open PySem
section
variable {Ws:List Int} {a b c:Bool} {hk:List (Sum Int Str)} {hv:List D}
theorem Lw {k:Str} {d s:Nat} {x y w g:Int} (hd:Ws[d]?=some x) (hs:Ws[s]?=some y) (h:j7 [.str k,.int x,.int y]=some (false,.int w)) (hg:yy [.int w,.int 31,.int 1]=some (false,.int g)) :
  qF [st (wI Ws) a b c hk hv,.fz (.tup [.str k,.int (d:Int),.int (s:Int)])]=some ([st (wI (Ws.set d w)) a (decide (w=0)) (decide (g=1)) hk hv,.fz (.tup [.str k,.int (d:Int),.int (s:Int)])],.fz .non):=by
 have hl:d<Ws.length:=(List.getElem?_eq_some_iff.mp hd).1
 rw [Mq]
 unfold Xp
 simp! [yN,v4,vO,wX hd,wX hs,h,uT,tF,tG,pW hg,pL,uA,uQ,wG,vn hl,vz]
theorem QC {k:Str} {d:Nat} {x n w g:Int} (hd:Ws[d]?=some x) (t:Bool) (hk0:zh (.str k) (.str "left")=some (.bl t)) (h:(if t then pC [.int x,.int n] else pD [.int x,.int n])=some (false,.tup [.int w,.non])) (hg:yy [.int w,.int 31,.int 1]=some (false,.int g)) :
  p6 [st (wI Ws) a b c hk hv,.fz (.tup [.str k,.int (d:Int),.int n])]=some ([st (wI (Ws.set d w)) a (decide (w=0)) (decide (g=1)) hk hv,.fz (.tup [.str k,.int (d:Int),.int n])],.fz .non):=by
 have hl:d<Ws.length:=(List.getElem?_eq_some_iff.mp hd).1
 rw [Qk]
 unfold ZC
 cases t with
 | false=>
  rw [if_neg (by decide)] at h
  simp! [yN,v4,vO,wX hd,hk0,h,uT,tF,tG,jP,jQ,pW hg,pL,uA,uQ,wG,vn hl,vz]
 | true=>
  rw [if_pos rfl] at h
  simp! [yN,v4,vO,wX hd,hk0,h,uT,tF,tG,jP,jQ,pW hg,pL,uA,uQ,wG,vn hl,vz]
theorem QD {k:Str} {d:Nat} {x n w g:Int} {u:Bool} (hd:Ws[d]?=some x) (t:Bool) (hk0:zh (.str k) (.str "left")=some (.bl t)) (h:(if t then pC [.int x,.int n] else pD [.int x,.int n])=some (false,.tup [.int w,.bl u])) (hg:yy [.int w,.int 31,.int 1]=some (false,.int g)) :
  p6 [st (wI Ws) a b c hk hv,.fz (.tup [.str k,.int (d:Int),.int n])]=some ([st (wI (Ws.set d w)) u (decide (w=0)) (decide (g=1)) hk hv,.fz (.tup [.str k,.int (d:Int),.int n])],.fz .non):=by
 have hl:d<Ws.length:=(List.getElem?_eq_some_iff.mp hd).1
 rw [Qk]
 unfold ZC
 cases t with
 | false=>
  rw [if_neg (by decide)] at h
  simp! [yN,v4,vO,wX hd,hk0,h,uT,tF,tG,jP,jQ,pV,gV,kH,gs,Zr,Zu,pW hg,pL,uA,uQ,wG,vn hl,vz]
 | true=>
  rw [if_pos rfl] at h
  simp! [yN,v4,vO,wX hd,hk0,h,uT,tF,tG,jP,jQ,pV,gV,kH,gs,Zr,Zu,pW hg,pL,uA,uQ,wG,vn hl,vz]
end
end L3
namespace L3
open PySem
inductive pH:D->Prop
 | stop:pH (.tup [.str "stop"])
 | imm {w:Str} {d n:Int} (hw:w = "set" \/ w = "high") (d0:0<=d) (d1:d<8) (n0:0<=n) (n1:n<65536):pH (.tup [.str w,.int d,.int n])
 | two {w:Str} {d s:Int} (hw:w = "copy" \/ w = "add" \/ w = "addc" \/ w = "sub" \/ w = "subc" \/ w = "and" \/ w = "or" \/ w = "xor" \/ w = "test") (d0:0<=d) (d1:d<8) (s0:0<=s) (s1:s<8):pH (.tup [.str w,.int d,.int s])
 | mov {w:Str} {d n:Int} (hw:w = "left" \/ w = "right") (d0:0<=d) (d1:d<8) (n0:0<=n) (n1:n<32):pH (.tup [.str w,.int d,.int n])
 | mem {w:Str} {d s n:Int} (hw:w = "load" \/ w = "store" \/ w = "loadw" \/ w = "storew") (d0:0<=d) (d1:d<8) (s0:0<=s) (s1:s<8) (n0:0<=n) (n1:n<256):pH (.tup [.str w,.int d,.int s,.int n])
noncomputable def K_:D->Bool
 | .tup (.str w::_)=>w == "jump" || w == "when" || w == "unless"
 | _=>false
inductive Z4 (N:List Str):D->Prop
 | plain {d:D}:pH d->Z4 N d
 | jump {t:Str} (ht:t∈N):Z4 N (.tup [.str "jump",.str t])
 | cond {w k t:Str} (hw:w = "when" \/ w = "unless") (hk:k = "carry" \/ k = "nought" \/ k = "sign") (ht:t∈N):Z4 N (.tup [.str w,.str k,.str t])
end L3
namespace L3
open PySem
structure pI (ps:List (Int×Int)):Prop where
 ad:∀ p∈ps,0<=p.1/\p.1<65536
 by_:∀ p∈ps,0<=p.2/\p.2<256
 nd:(ps.map (·.1)).Nodup
end L3
namespace L3
open PySem
noncomputable def Xy:FS:=
 (zb (yg (ju (tE (pR .bool (z6 0))) (t8 (tE (pR .int (z6 0)))))
   (zu (eC (.bl false)))
   yj)
  (zu (jR (e2 (qW fun i j=>decide (i<=j)) (eC (.int 0)) (z6 0)) (e2 (qW fun i j=>decide (i<j)) (z6 0) (e2 xJ (eC (.int 1)) (z6 1))))))
noncomputable def qH:List D->Option (Bool×D):=FR 2 2 Xy
theorem M_ (x0 x1:D):qH [x0,x1]=yQ 2 Xy [x0,x1]:=rfl
noncomputable def Oh:FS:=
 (zu (zl qH (zA (z6 0) (zA (eC (.int 16)) zG))))
noncomputable def YT:List D->Option (Bool×D):=FR 1 1 Oh
noncomputable def Ol:FS:=
 (zb (yg (ju (t8 (tE (pR .tuple (z6 0)))) (tE (e2 wm (eL uF (zA (z6 0) zG)) (eC (.int 2)))))
   (zu (eC (.bl false)))
   yj)
  (zu (jR (zl YT (zA (e2 zF (z6 0) (eC (.int 0))) zG)) (zl qH (zA (e2 zF (z6 0) (eC (.int 1))) (zA (eC (.int 8)) zG))))))
noncomputable def YU:List D->Option (Bool×D):=FR 1 1 Ol
noncomputable def D5:FS:=(zb (yg (t8 (tE (zl YU (zA (z6 2) zG))))
     (fun _=>none)
     yj)
    (zb (yg (tE (e2 yU (e2 zF (z6 2) (eC (.int 0))) (gb 1)))
     (fun _=>none)
     yj)
    (kJ 1 (e2 zF (z6 2) (eC (.int 0))) (e2 zF (z6 2) (eC (.int 1))))))
noncomputable def Og:FS:=
 (zb (jp 1 (eC (.dic [] [])))
  (zb (yg (tE (e2 ZP (z6 0) (eC .non)))
   (qi 1)
   yj)
  (zb (yg (t8 (tE (pR .list (z6 0))))
   (fun _=>none)
   yj)
  (zb (jo (vm (z6 0)) (yp 2)
   D5)
  (qi 1)))))
noncomputable def jy:List D->Option (Bool×D):=FR 1 3 Og
noncomputable def TB:FE:=(zl qH (zA (z6 1) (zA (eC (.int 32)) zG)))
noncomputable def WJ:FS:=
 (zb (yg (tE (e2 ZP (z6 0) (eC .non)))
   (uy (e2 ZS (wL (zA (eC (.int 0)) zG)) (eC (.int 8))))
   yj)
  (zb (yg (ju (t8 (tE (pR .list (z6 0)))) (tE (e2 wm (eL uF (zA (z6 0) zG)) (eC (.int 8)))))
   (fun _=>none)
   yj)
  (zb (yg (t8 (tE (eL Wj (zA (vj 1 (vm (z6 0)) (yp 1) xW TB) zG))))
   (fun _=>none)
   yj)
  (uy (eL vN (zA (z6 0) zG))))))
noncomputable def gL:List D->Option (Bool×D):=FR 1 1 WJ
theorem BL (x0:D):gL [x0]=yQ 1 WJ [x0]:=rfl
noncomputable def Oj:FS:=
 (zu (e2 zh (e2 zF (z6 0) (eC (.int 0))) (eC (.str "label"))))
noncomputable def gB:List D->Option (Bool×D):=FR 1 1 Oj
noncomputable def Oi:FS:=
 (zu (e2 yU (e2 zF (z6 0) (eC (.int 0))) (eC W_)))
noncomputable def kq:List D->Option (Bool×D):=FR 1 1 Oi
noncomputable def OJ:FE:=(z6 1)
noncomputable def TD:FT:=(t8 (tE (zl gB (zA (z6 1) zG))))
noncomputable def WB:FS:=
 (uy (vj 1 (vm (z6 0)) (yp 1) TD OJ))
noncomputable def qI:List D->Option (Bool×D):=FR 1 1 WB
theorem BD (x0:D):qI [x0]=yQ 1 WB [x0]:=rfl
noncomputable def V8:FS:=(yg (tE (zl gB (zA (z6 3) zG)))
     (kJ 1 (e2 zF (z6 3) (eC (.int 1))) (z6 2))
     (yW 2 (e2 (xI fun i j=>i+j) (z6 2) (eC (.int 1)))))
noncomputable def X_:FS:=
 (zb (jp 1 (eC (.dic [] [])))
  (zb (yW 2 (eC (.int 0)))
  (zb (jo (vm (z6 0)) (yp 3)
   V8)
  (qi 1))))
noncomputable def gC:List D->Option (Bool×D):=FR 1 4 X_
theorem B1 (x0:D):gC [x0]=yQ 4 X_ [x0]:=rfl
noncomputable def T8:FE:=(uD (tE (zl kq (zA (z6 2) zG))) (e2 zF (z6 1) (e2 zF (z6 2) (e1 Wp (eC (.int 1))))) (eC .non))
noncomputable def WF:FS:=
 (zb (yW 1 (wK gC (zA (z6 0) zG)))
  (uy (vj 1 (vm (wK qI (zA (z6 0) zG))) (yp 2) xW T8)))
noncomputable def qJ:List D->Option (Bool×D):=FR 1 2 WF
theorem BH (x0:D):qJ [x0]=yQ 2 WF [x0]:=rfl
noncomputable def VC:FS:=(kJ 2 (z6 3) (xO (zA (e2 zF (z6 1) (z6 3)) (zA (e2 w8 (z6 3) (eC (.int 1))) (zA (z6 4) zG)))))
noncomputable def WC:FS:=
 (zb (yW 1 (wK qI (zA (z6 0) zG)))
  (zb (jp 2 (eC (.dic [] [])))
  (zb (jo (ZW (wK qJ (zA (z6 0) zG))) (uh 3 4)
   VC)
  (qi 2))))
noncomputable def gI:List D->Option (Bool×D):=FR 1 5 WC
theorem BE (x0:D):gI [x0]=yQ 5 WC [x0]:=rfl
noncomputable def Xc:zj:=
 (yD (vC 0 [] ["RowMachine"] "state" (WT "State" q_ (wU 0 [.at ["RowMachine"] "first_words"] (wU 0 [.at ["RowMachine"] "first_held"] xU))))
  (yD (vC 0 [] ["RowMachine"] "due" (yl (eC (.int 0))))
  (vC 0 [] ["RowMachine"] "done" (yl (eC (.int 0))))))
noncomputable def tI:FM:=xS 1 1 Xc
theorem Mc (x0:M):tI [x0]=yq 1 1 Xc [x0]:=rfl
noncomputable def Xb:zj:=
 (yD (vC 0 [] ["RowMachine"] "table" (yl (z6 1)))
  (yD (vC 0 [] ["RowMachine"] "end" (yl (z6 2)))
  (yD (vC 0 [] ["RowMachine"] "first_words" (yl (wK gL (zA (z6 3) zG))))
  (yD (vC 0 [] ["RowMachine"] "first_held" (yl (wK jy (zA (z6 4) zG))))
  (vB (tP "RowMachine" "again" 0 [] tI xU))))))
noncomputable def qw:FM:=xS 5 5 Xb
theorem Mb (x0 x1 x2 x3 x4:M):qw [x0,x1,x2,x3,x4]=yq 5 5 Xb [x0,x1,x2,x3,x4]:=rfl
noncomputable def Xi:zj:=
 (yD (wA 4 (yl (wK gI (zA (z6 1) zG))))
  (vB (wg qw (wU 0 [] (xw (z6 4) (xw (eL Wn (zA (z6 4) zG)) (xw (z6 2) (xw (z6 3) xU))))))))
noncomputable def uX:FM:=xS 4 5 Xi
theorem Mi (x0 x1 x2 x3:M):uX [x0,x1,x2,x3]=yq 4 5 Xi [x0,x1,x2,x3]:=rfl
theorem VH {g:MG} {b:zj} (P:Nat->zg->Prop):∀ {ds:List D} {β:zg} (n:Nat),P n β->(∀ i d β,ds[i]?=some d->P (n+i) β->∃ β1 β2,g d β=some β1/\b β1=some (.nx β2)/\P (n+i+1) β2)->
  ∃ β',vo g b ds β=some (.nx β')/\P (n+ds.length) β'
 | [],β,n,h,_=>⟨β,rfl,h⟩
 | d::ds,β,n,h,step=>by
  obtain ⟨β1,β2,e1,e2,p2⟩:=step 0 d β rfl h
  obtain ⟨β',e3,p3⟩:=VH P (ds:=ds) (β:=β2) (n+1) p2 fun i d' τ hd hp=>by
   obtain ⟨a,b',c1,c2,c3⟩:=step (i+1) d' τ (by simpa using hd) (by rw [show n+(i+1)=n+1+i by omega]; exact hp)
   exact ⟨a,b',c1,c2,by rw [show n+1+i+1=n+(i+1)+1 by omega]; exact c3⟩
  refine ⟨β',?_,by rw [List.length_cons,show n+(ds.length+1)=n+1+ds.length by omega]; exact p3⟩
  show ((g d β).bind fun β1=>(b β1).bind fun f=>match f with | .nx β2=>vo g b ds β2 | .ct β2=>vo g b ds β2 | .bk β2=>some (.nx β2) | .rt m β2=>some (.rt m β2))=_
  rw [e1]
  show (b β1).bind _=_
  rw [e2]
  exact e3
theorem Dr {i:Int} {w:Nat} (hw:w<=64):qH [.int i,.int (w:Int)]=some (false,.bl (decide (0<=i)&&decide (i<2 ^ w))):=by
 have h1:wM 1 (w:Int)=true:=by
  unfold wM
  rw [decide_eq_true (by omega),decide_eq_true (by omega)]
  rfl
 have h2:xJ (.int 1) (.int (w:Int))=some (.int (2 ^ w)):=by
  show (match wM 1 (w:Int) with | true=>some (D.int (1*2 ^ ((w:Int)).toNat)) | false=>none)=_
  rw [h1]
  show some (D.int (1*2 ^ ((w:Int)).toNat))=_
  rw [Int.toNat_natCast,Int.one_mul]
 rw [M_]
 unfold Xy
 by_cases c:0<=i
 ·have c':decide (0<=i)=true:=decide_eq_true c
  rw [c']
  simp! [c',h1,Int.toNat_natCast,Int.one_mul]
 ·have c':decide (0<=i)=false:=decide_eq_false c
  rw [c']
  simp! [c',Bool.false_and]
theorem Ku {Ws:List Int} (hl:Ws.length=8) (hw:∀ w∈Ws,0<=w/\w<4294967296):gL [.lst (wI Ws)]=some (true,.lst (wI Ws)):=by
 have e:xE (yp 1) xW TB [some (false,.lst (wI Ws)),none] (wI Ws)=some ((wI Ws).map fun _=>.bl true):=Zf (fun _=>.bl true) fun d hd=>by
  obtain ⟨w,hw',rfl⟩:=List.mem_map.mp hd
  refine ⟨_,rfl,?_⟩
  obtain ⟨a,b⟩:=hw w hw'
  have nf:=Dr (i:=w) (w:=32) (by decide)
  have e32:(2:Int) ^ 32=4294967296:=by decide
  rw [e32,decide_eq_true a,decide_eq_true b] at nf
  unfold TB
  simp! [show qH [.int w,.int 32]=some (false,.bl true) from nf]
 have e2:(wI Ws).map (fun _=>D.bl true)=(List.replicate 8 true).map D.bl:=by
  unfold wI
  rw [List.map_map,List.map_replicate,<- hl,<- List.map_const']
  rfl
 have fa:Wj [.lst [.bl true,.bl true,.bl true,.bl true,.bl true,.bl true,.bl true,.bl true]]=some (.bl true):=rfl
 rw [e2] at e
 have fl:vN [.lst (wI Ws)]=some (.lst (wI Ws)):=rfl
 have ne:wm (.int ((wI Ws).length:Int)) (.int 8)=some (.bl false):=by
  rw [wG,hl]
  rfl
 rw [BL]
 unfold WJ
 simp! [ne,e,fa,fl]
noncomputable def kP (ps:List (Int×Int)):List (Sum Int Str):=ps.map fun p=>.inl p.1
noncomputable def vP (ps:List (Int×Int)):List D:=ps.map fun p=>.int p.2
theorem Qn {ps:List (Int×Int)} {a:Int}:vA (kP ps) (.inl a)=decide (a∈ps.map (·.1)):=by
 unfold vA kP
 rw [List.any_map,Bool.eq_iff_iff,decide_eq_true_iff,List.any_eq_true]
 constructor
 ·rintro ⟨p,hp,e⟩
  have e':=of_decide_eq_true e
  exact List.mem_map.mpr ⟨p,hp,Sum.inl.inj e'⟩
 ·intro h
  obtain ⟨p,hp,e⟩:=List.mem_map.mp h
  exact ⟨p,hp,decide_eq_true (congrArg Sum.inl e)⟩
theorem ET {ps:List (Int×Int)} {a b:Int} (h:a ∉ ps.map (·.1)):xm (kP ps) (.inl a)=kP (ps++[(a,b)])/\xH (kP ps) (vP ps) (.inl a) (.int b)=vP (ps++[(a,b)]):=by
 have h1:vA (kP ps) (.inl a)=false:=by rw [Qn]; exact decide_eq_false h
 unfold xm xH
 rw [if_neg (by rw [h1]; decide),if_neg (by rw [h1]; decide)]
 unfold kP vP
 rw [List.map_append,List.map_append]
 exact ⟨rfl,rfl⟩
noncomputable def uY (r:D):Prop:=gB [r]=some (false,.bl false)/\kq [r]=some (false,.bl false)
noncomputable def wQ (n:Nat):List (Sum Int Str):=(List.range n).map fun k:Nat=>.inl (k:Int)
theorem IR {rows:List D} (h:∀ r∈rows,uY r):qI [.lst rows]=some (true,.lst rows):=by
 have e:xE (yp 1) TD OJ [some (false,.lst rows),none] rows=some ((rows.filter fun _=>true).map id):=VE (fun _=>true) id fun d hd=>by
  refine ⟨_,rfl,?_,fun _=>rfl⟩
  unfold TD
  simp! [(h d hd).1]
 rw [List.filter_eq_self.mpr (fun _ _=>rfl),List.map_id] at e
 rw [BD]
 unfold WB
 simp! [e]
theorem EF {rows:List D} (h:∀ r∈rows,uY r):gC [.lst rows]=some (true,.dic [] []):=by
 obtain ⟨σ',e1,k,x,rfl⟩:=Zh (g:=yp 3) (b:=V8) (fun i σ=>∃ (k:Int) (x:Option Sl),σ=[some (false,.lst rows),some (true,.dic [] []),some (false,.int k),x])
  (ds:=rows) (σ:=[some (false,.lst rows),some (true,.dic [] []),some (false,.int 0),none]) 0 ⟨0,none,rfl⟩ fun i d σ hd hp=>by
   obtain ⟨k,x,rfl⟩:=hp
   refine ⟨_,[some (false,.lst rows),some (true,.dic [] []),some (false,.int (k+1)),some (false,d)],rfl,.inl ?_,_,_,rfl⟩
   unfold V8
   simp! [(h d (List.mem_of_getElem? hd)).1]
 rw [B1]
 unfold X_
 simp! [e1]
theorem KF {rows:List D} (h:∀ r∈rows,uY r):qJ [.lst rows]=some (true,.lst (rows.map fun _=>.non)):=by
 have e:xE (yp 2) xW T8 [some (false,.lst rows),some (false,.dic [] []),none] rows=some (rows.map fun _=>.non):=Zf (fun _=>.non) fun d hd=>by
  refine ⟨_,rfl,?_⟩
  unfold T8
  simp! [(h d hd).2]
 rw [BH]
 unfold WF
 simp! [EF h,IR h,e]
theorem Qd {g:Nat->D} {k:Nat}:∀ {xs:List Nat},k∈xs->getK (xs.map fun k:Nat=>(.inl (k:Int):Sum Int Str)) (xs.map g) (.inl (k:Int))=some (g k)
 | [],h=>absurd h (by simp)
 | x::xs,h=>by
  rw [List.map_cons,List.map_cons]
  unfold getK
  by_cases c:x=k
  ·rw [if_pos (by rw [c]),c]
  ·rw [if_neg (fun z=>c (by have:=Sum.inl.inj z; omega))]
   exact Qd ((List.mem_cons.mp h).resolve_left fun z=>c z.symm)
theorem O1 {n:Nat}:vA (wQ n) (.inl (n:Int))=false:=by
 unfold vA wQ
 rw [List.any_map,List.any_eq_false]
 intro k hk
 have:=List.mem_range.mp hk
 show ¬ decide ((.inl (k:Int):Sum Int Str)=.inl (n:Int))=true
 rw [decide_eq_true_iff]
 intro z
 have:=Sum.inl.inj z
 omega
theorem Hd {Ws:List Int} {hk:List (Sum Int Str)} {hv:List D}:q_ [.obj "State" [] [],.fz (.lst (wI Ws)),.fz (.dic hk hv)]=some ([st (wI Ws) false false false hk hv,.fz (.lst (wI Ws)),.fz (.dic hk hv)],.fz .non):=by
 have e1:xE (yp 3) xW OI [none,some (false,.lst (wI Ws)),some (false,.dic hk hv),none] gi=some [.tup [.str "carry",.bl false],.tup [.str "nought",.bl false],.tup [.str "sign",.bl false]]:=rfl
 have e2:ZO [.lst [.tup [.str "carry",.bl false],.tup [.str "nought",.bl false],.tup [.str "sign",.bl false]]]=some (qp false false false):=rfl
 have e3:vN [.lst (wI Ws)]=some (.lst (wI Ws)):=rfl
 have e4:ZN [.dic hk hv]=some (.dic hk hv):=rfl
 have p1:∀ {x:M} {za:zg},vu x (some (.obj "State" [] [])::za) 0 [] ["State"] "words" = some (.nx (some (.obj "State" ["words"] [x])::za)):=rfl
 have p2:∀ {x y:M} {za:zg},vu x (some (.obj "State" ["words"] [y])::za) 0 [] ["State"] "truths" = some (.nx (some (.obj "State" ["words", "truths"] [y,x])::za)):=rfl
 have p3:∀ {x y z:M} {za:zg},vu x (some (.obj "State" ["words", "truths"] [y,z])::za) 0 [] ["State"] "held" = some (.nx (some (.obj "State" ["words", "truths", "held"] [y,z,x])::za)):=rfl
 rw [Mj]
 unfold Xj
 simp! [yN,jW,e1,e2,e3,e4,p1,p2,p3]
 rfl
theorem OZ {T fw fh:D} {e:Int} {Ws:List Int} {hk:List (Sum Int Str)} {hv:List D} {fs:List Str} {ms:List M}:tI [.obj "RowMachine" ["table", "end", "first_words", "first_held"] [.fz T,.fz (.int e),.fz (.lst (wI Ws)),.fz (.dic hk hv)]]=some ([zo T e (.lst (wI Ws)) (.dic hk hv) (st (wI Ws) false false false hk hv) 0 0],.fz .non):=by
 have a1:vJ (.obj "RowMachine" ["table", "end", "first_words", "first_held"] [.fz T,.fz (.int e),.fz (.lst (wI Ws)),.fz (.dic hk hv)]) [.at ["RowMachine"] "first_words"]=some (.fz (.lst (wI Ws))):=rfl
 have a2:vJ (.obj "RowMachine" ["table", "end", "first_words", "first_held"] [.fz T,.fz (.int e),.fz (.lst (wI Ws)),.fz (.dic hk hv)]) [.at ["RowMachine"] "first_held"]=some (.fz (.dic hk hv)):=rfl
 have p1:∀ {a b c d x:M} {za:zg},vu x (some (.obj "RowMachine" ["table", "end", "first_words", "first_held"] [a,b,c,d])::za) 0 [] ["RowMachine"] "state" = some (.nx (some (.obj "RowMachine" ["table", "end", "first_words", "first_held", "state"] [a,b,c,d,x])::za)):=rfl
 have p2:∀ {a b c d f x:M} {za:zg},vu x (some (.obj "RowMachine" ["table", "end", "first_words", "first_held", "state"] [a,b,c,d,f])::za) 0 [] ["RowMachine"] "due" = some (.nx (some (.obj "RowMachine" ["table", "end", "first_words", "first_held", "state", "due"] [a,b,c,d,f,x])::za)):=rfl
 have p3:∀ {a b c d f g x:M} {za:zg},vu x (some (.obj "RowMachine" ["table", "end", "first_words", "first_held", "state", "due"] [a,b,c,d,f,g])::za) 0 [] ["RowMachine"] "done" = some (.nx (some (.obj "RowMachine" jE [a,b,c,d,f,g,x])::za)):=rfl
 rw [Mc]
 unfold Xc
 simp! [yN,a1,a2,Hd,p1,p2,p3]
 rfl
end L3
namespace L3
open PySem
theorem kT {x:Int} {n:Nat} (h0:0<=x) (h1:x<4294967296) (hn:n<=64):wM x (n:Int)=true:=by
 unfold wM
 rw [decide_eq_true (by omega),decide_eq_true (by omega),decide_eq_true (show x.natAbs<2 ^ 64 by omega)]
 rfl
theorem tf {x:Int} {l w:Nat} (hw:w<=64):yy [.int x,.int (l:Int),.int (w:Int)]=some (false,.int (x / 2 ^ l % 2 ^ w)):=by
 have h1:wM 1 (w:Int)=true:=kT (by decide) (by decide) hw
 have h2:xJ (.int 1) (.int (w:Int))=some (.int (2 ^ w)):=by
  show (match wM 1 (w:Int) with | true=>some (D.int (1*2 ^ ((w:Int)).toNat)) | false=>none)=_
  rw [h1]
  show some (D.int (1*2 ^ ((w:Int)).toNat))=_
  rw [Int.toNat_natCast,Int.one_mul]
 have h3:qY (.int x) (.int (l:Int))=some (.int (x / 2 ^ l)):=by
  show (match decide ((0:Int)<=(l:Int)) with | true=>some (D.int (x / 2 ^ ((l:Int)).toNat)) | false=>none)=_
  rw [decide_eq_true (Int.natCast_nonneg l)]
  show some (D.int (x / 2 ^ ((l:Int)).toNat))=_
  rw [Int.toNat_natCast]
 have e:=VU (x / 2 ^ l) w
 rw [Int.one_mul] at e
 rw [B9]
 unfold W8
 simp only [yQ,zb,yW,zu,e1,e2,z6,eC,Option.bind_some,List.map_cons,List.map_nil,List.cons_append,List.nil_append,List.length_cons,List.length_nil,List.replicate_succ,List.replicate_zero,List.set_cons_succ,List.set_cons_zero,List.getElem?_cons_succ,List.getElem?_cons_zero,h2,h3,uG,xI,Nat.reduceAdd,Nat.reduceSub,Int.reduceSub,e]
end L3
namespace L3
open PySem
noncomputable def xf (ps:List (Int×Int)) (a b:Int):List (Int×Int):=if a∈ps.map (·.1) then ps.map (fun p=>if p.1=a then (a,b) else p) else ps++[(a,b)]
noncomputable def gP:List (Int×Int)->Int->Int
 | [],_=>0
 | p::ps,a=>if p.1=a then p.2 else gP ps a
theorem Qf (a:Int):∀ ps:List (Int×Int),(getK (kP ps) (vP ps) (.inl a)).getD (.int 0)=.int (gP ps a)
 | []=>rfl
 | p::ps=>by
  show (if (Sum.inl p.1:Sum Int Str)=.inl a then some (D.int p.2) else getK (kP ps) (vP ps) (.inl a)).getD (.int 0)=.int (if p.1=a then p.2 else gP ps a)
  by_cases h:p.1=a
  ·rw [if_pos (by rw [h]),if_pos h]
   rfl
  ·rw [if_neg (fun z=>h (Sum.inl.inj z)),if_neg h]
   exact Qf a ps
theorem ug (a:Int):∀ {ps:List (Int×Int)},(∀ p∈ps,0<=p.2/\p.2<256)->0<=gP ps a/\gP ps a<256
 | [],_=>⟨by show (0:Int)<=0; decide,by show (0:Int)<256; decide⟩
 | p::ps,h=>by
  unfold gP
  split
  ·exact h p List.mem_cons_self
  ·exact ug a fun q hq=>h q (List.mem_cons_of_mem _ hq)
theorem OK (a b:Int):∀ ps:List (Int×Int),List.zipWith (fun k' x=>if k'=(Sum.inl a:Sum Int Str) then D.int b else x) (kP ps) (vP ps)=vP (ps.map fun p=>if p.1=a then (a,b) else p)
 | []=>rfl
 | p::ps=>by
  show (if (Sum.inl p.1:Sum Int Str)=.inl a then D.int b else .int p.2)::List.zipWith _ (kP ps) (vP ps)=D.int (if p.1=a then (a,b) else p).2::vP (ps.map fun p=>if p.1=a then (a,b) else p)
  rw [OK a b ps]
  by_cases h:p.1=a
  ·rw [if_pos (by rw [h]),if_pos h]
  ·rw [if_neg (fun z=>h (Sum.inl.inj z)),if_neg h]
theorem Wx (a b:Int):∀ ps:List (Int×Int),(ps.map fun p=>if p.1=a then (a,b) else p).map (·.1)=ps.map (·.1)
 | []=>rfl
 | p::ps=>by
  show (if p.1=a then (a,b) else p).1::_=p.1::_
  rw [Wx a b ps]
  by_cases h:p.1=a
  ·rw [if_pos h,<- h]
  ·rw [if_neg h]
theorem Bl {ps qs:List (Int×Int)} (h:ps.map (·.1)=qs.map (·.1)):kP ps=kP qs:=by
 have e:∀ l:List (Int×Int),kP l=(l.map (·.1)).map Sum.inl:=fun l=>by
  rw [List.map_map]
  rfl
 rw [e,e,h]
theorem HG (ps:List (Int×Int)) (a b:Int):xm (kP ps) (.inl a)=kP (xf ps a b)/\xH (kP ps) (vP ps) (.inl a) (.int b)=vP (xf ps a b):=by
 by_cases h:a∈ps.map (·.1)
 ·unfold xf xm xH
  rw [if_pos h,Qn,if_pos (decide_eq_true h),if_pos (decide_eq_true h),OK,Bl (Wx a b ps)]
  exact ⟨rfl,rfl⟩
 ·unfold xf
  rw [if_neg h]
  exact ET h
theorem kS {ps:List (Int×Int)} {a b:Int} (P:pI ps) (a0:0<=a) (a1:a<65536) (b0:0<=b) (b1:b<256):pI (xf ps a b):=by
 unfold xf
 by_cases h:a∈ps.map (·.1)
 ·rw [if_pos h]
  have m:∀ q∈ps.map (fun p=>if p.1=a then (a,b) else p),q=(a,b)\/q∈ps:=fun q hq=>by
   obtain ⟨p,hp,rfl⟩:=List.mem_map.mp hq
   by_cases z:p.1=a
   ·rw [if_pos z]; exact .inl rfl
   ·rw [if_neg z]; exact .inr hp
  refine ⟨fun q hq=>?_,fun q hq=>?_,?_⟩
  ·rcases m q hq with rfl | z
   ·exact ⟨a0,a1⟩
   ·exact P.ad q z
  ·rcases m q hq with rfl | z
   ·exact ⟨b0,b1⟩
   ·exact P.by_ q z
  ·rw [Wx]
   exact P.nd
 ·rw [if_neg h]
  refine ⟨fun q hq=>?_,fun q hq=>?_,?_⟩
  ·rcases List.mem_append.mp hq with z | z
   ·exact P.ad q z
   ·cases List.mem_singleton.mp z
    exact ⟨a0,a1⟩
  ·rcases List.mem_append.mp hq with z | z
   ·exact P.by_ q z
   ·cases List.mem_singleton.mp z
    exact ⟨b0,b1⟩
  ·rw [List.map_append,List.nodup_append]
   refine ⟨P.nd,by simp,fun x hx y hy=>?_⟩
   cases List.mem_singleton.mp hy
   exact fun z=>h (by rw [<- show x=a from z]; exact hx)
theorem qj {ps:List (Int×Int)} {a b:Int}:(xf ps a b).length<=ps.length+1:=by
 unfold xf
 split
 ·rw [List.length_map]; omega
 ·rw [List.length_append]; exact Nat.le_refl _
section
variable {Ws:List Int} {a b c:Bool} {ps:List (Int×Int)}
theorem TY {x n:Int}:j4 [.int x,.int n]=some (false,.int ((x+n) % 65536)):=by
 have p2:yy [.int (x+n),.int 0,.int 16]=some (false,.int ((x+n) % 65536)):=by
  have:=tf (x:=x+n) (l:=0) (w:=16) (by decide)
  rw [Int.pow_zero,Int.ediv_one] at this
  exact this
 rw [Mn]
 unfold Xm
 simp! [add_int,p2]
theorem Tv {x:Int}:j5 [.dic (kP ps) (vP ps),.int x]=some (false,.int (gP ps x)):=by
 have ky:wp (.int x)=some (.inl x):=rfl
 rw [Mo]
 unfold Xn
 simp! [We,ky,Qf]
noncomputable def jK (x:Int):List D:=[.int ((x+0) % 65536),.int ((x+1) % 65536),.int ((x+2) % 65536),.int ((x+3) % 65536)]
theorem QW {x:Int}:p7 [.int x]=some (true,.lst (jK x)):=by
 have r4:ui (eC (.int 0)) (eC (.int 4)) [some (false,.int x)]=some (vx 4):=Vj (n:=4) rfl (by decide)
 have e:xE (yp 1) xW YL [some (false,.int x),none] (vx 4)=some (jK x):=by
  have:=Zf (g:=yp 1) (e:=YL) (σ:=[some (false,.int x),none]) (ds:=vx 4) (fun d=>match d with | .int j=>.int ((x+j) % 65536) | d=>d) fun d hd=>by
   obtain ⟨k,_,rfl⟩:=List.mem_map.mp hd
   refine ⟨_,rfl,?_⟩
   unfold YL
   simp! [TY]
  exact this
 rw [Mz]
 unfold Xx
 simp! [r4,e]
theorem Ko (P:pI ps) {x:Int}:gJ [.dic (kP ps) (vP ps),.int x]=some (false,.int (gP ps ((x+0) % 65536)+gP ps ((x+1) % 65536)*256+gP ps ((x+2) % 65536)*65536+gP ps ((x+3) % 65536)*16777216)):=by
 have e:xE (yp 2) xW YM [some (false,.dic (kP ps) (vP ps)),some (false,.int x),none] (jK x)=some [.int (gP ps ((x+0) % 65536)),.int (gP ps ((x+1) % 65536)),.int (gP ps ((x+2) % 65536)),.int (gP ps ((x+3) % 65536))]:=by
  have:=Zf (g:=yp 2) (e:=YM) (σ:=[some (false,.dic (kP ps) (vP ps)),some (false,.int x),none]) (ds:=jK x) (fun d=>match d with | .int j=>.int (gP ps j) | d=>d) fun d hd=>by
   obtain ⟨j,rfl⟩:∃ j,d=.int j:=by
    rcases List.mem_cons.mp hd with rfl | hd
    ·exact ⟨_,rfl⟩
    rcases List.mem_cons.mp hd with rfl | hd
    ·exact ⟨_,rfl⟩
    rcases List.mem_cons.mp hd with rfl | hd
    ·exact ⟨_,rfl⟩
    ·exact ⟨_,List.mem_singleton.mp hd⟩
   refine ⟨_,rfl,?_⟩
   unfold YM
   simp! [Tv]
  exact this
 obtain ⟨a0,a1⟩:=ug ((x+0) % 65536) P.by_
 obtain ⟨b0,b1⟩:=ug ((x+1) % 65536) P.by_
 obtain ⟨c0,c1⟩:=ug ((x+2) % 65536) P.by_
 obtain ⟨d0,d1⟩:=ug ((x+3) % 65536) P.by_
 generalize gP ps ((x+0) % 65536)=g0 at *
 generalize gP ps ((x+1) % 65536)=g1 at *
 generalize gP ps ((x+2) % 65536)=g2 at *
 generalize gP ps ((x+3) % 65536)=g3 at *
 have sh:∀ {g:Int} (n:Nat),0<=g->g<256->n<=64->xJ (.int g) (.int (n:Int))=some (.int (g*2 ^ n)):=fun {g} n h0 h1 hn=>by
  have h1:=kT (x:=g) (n:=n) h0 (by omega) hn
  show (match wM g (n:Int) with | true=>some (D.int (g*2 ^ ((n:Int)).toNat)) | false=>none)=_
  rw [h1]
  show some (D.int (g*2 ^ ((n:Int)).toNat))=_
  rw [Int.toNat_natCast]
 have wo:gK [.lst [.int g0,.int g1,.int g2,.int g3]]=some (false,.int (g0+g1*256+g2*65536+g3*16777216)):=by
  have z:jX (z6 0) (eC jV) [some (false,.lst [.int g0,.int g1,.int g2,.int g3])]=some [.tup [.int g0,.int 0],.tup [.int g1,.int 8],.tup [.int g2,.int 16],.tup [.int g3,.int 24]]:=rfl
  have s0:xJ (.int g0) (.int 0)=some (.int g0):=by have:=sh 0 a0 a1 (by decide); rw [Int.pow_zero,Int.mul_one] at this; exact this
  have s1:xJ (.int g1) (.int 8)=some (.int (g1*256)):=sh 8 b0 b1 (by decide)
  have s2:xJ (.int g2) (.int 16)=some (.int (g2*65536)):=sh 16 c0 c1 (by decide)
  have s3:xJ (.int g3) (.int 24)=some (.int (g3*16777216)):=sh 24 d0 d1 (by decide)
  have l:xE (uh 1 2) xW T9 [some (false,.lst [.int g0,.int g1,.int g2,.int g3]),none,none] [.tup [.int g0,.int 0],.tup [.int g1,.int 8],.tup [.int g2,.int 16],.tup [.int g3,.int 24]]=some [.int g0,.int (g1*256),.int (g2*65536),.int (g3*16777216)]:=by
   have one:∀ (u v w:D),xJ u v=some w->∃ σ1,uh 1 2 (.tup [u,v]) [some (false,.lst [.int g0,.int g1,.int g2,.int g3]),none,none]=some σ1/\T9 σ1=some w:=fun u v w h=>⟨[some (false,.lst [.int g0,.int g1,.int g2,.int g3]),some (false,u),some (false,v)],rfl,h⟩
   obtain ⟨t0,q0,r0⟩:=one _ _ _ s0
   obtain ⟨t1,q1,r1⟩:=one _ _ _ s1
   obtain ⟨t2,q2,r2⟩:=one _ _ _ s2
   obtain ⟨t3,q3,r3⟩:=one _ _ _ s3
   simp only [xE,q0,q1,q2,q3,r0,r1,r2,r3,xW,Option.bind_some]
  have su:Wt [.lst [.int g0,.int (g1*256),.int (g2*65536),.int (g3*16777216)]]=some (.int (g0+g1*256+g2*65536+g3*16777216)):=by
   show (match ([g0,g1*256,g2*65536,g3*16777216].all fun i=>decide (0<=i)&&decide (i<1099511627776))&&decide (([g0,g1*256,g2*65536,g3*16777216]:List Int).length<=1000) with | true=>some (D.int ([g0,g1*256,g2*65536,g3*16777216]:List Int).sum) | false=>none)=_
   have al:(([g0,g1*256,g2*65536,g3*16777216]:List Int).all fun i=>decide (0<=i)&&decide (i<1099511627776))=true:=by
    simp only [List.all_cons,List.all_nil,Bool.and_eq_true,decide_eq_true_eq,and_true]
    refine ⟨⟨?_,?_⟩,⟨?_,?_⟩,⟨?_,?_⟩,?_,?_⟩<;>omega
   rw [al]
   show some (D.int (g0+(g1*256+(g2*65536+(g3*16777216+0)))))=_
   congr 2
   omega
  rw [BK]
  unfold WI
  simp! [z,l,su]
 rw [BJ]
 unfold WH
 have sq:Y3 (.lst (jK x))=some (jK x):=rfl
 simp! [QW,sq,e,wo]
theorem L7 {x:Int}:j6 [.int x]=some (false,.tup [.int (x % 256),.int (x / 256 % 256),.int (x / 65536 % 256),.int (x / 16777216 % 256)]):=by
 have p0:yy [.int x,.int 0,.int 8]=some (false,.int (x % 256)):=by
  have:=tf (x:=x) (l:=0) (w:=8) (by decide)
  rw [Int.pow_zero,Int.ediv_one] at this
  exact this
 have p1:yy [.int x,.int 8,.int 8]=some (false,.int (x / 256 % 256)):=tf (l:=8) (w:=8) (by decide)
 have p2:yy [.int x,.int 16,.int 8]=some (false,.int (x / 65536 % 256)):=tf (l:=16) (w:=8) (by decide)
 have p3:yy [.int x,.int 24,.int 8]=some (false,.int (x / 16777216 % 256)):=tf (l:=24) (w:=8) (by decide)
 have one:∀ (u w:D),yy [.int x,u,.int 8]=some (false,w)->∃ σ1,yp 1 u [some (false,.int x),none]=some σ1/\kj σ1=some w:=fun u w h=>⟨[some (false,.int x),some (false,u)],rfl,by unfold kj; simp! [h]⟩
 obtain ⟨t0,q0,r0⟩:=one _ _ p0
 obtain ⟨t1,q1,r1⟩:=one _ _ p1
 obtain ⟨t2,q2,r2⟩:=one _ _ p2
 obtain ⟨t3,q3,r3⟩:=one _ _ p3
 have l:xE (yp 1) xW kj [some (false,.int x),none] Qi=some [.int (x % 256),.int (x / 256 % 256),.int (x / 65536 % 256),.int (x / 16777216 % 256)]:=by
  show xE (yp 1) xW kj [some (false,.int x),none] [.int 0,.int 8,.int 16,.int 24]=_
  simp only [xE,q0,q1,q2,q3,r0,r1,r2,r3,xW,Option.bind_some]
 have ft:∀ w x y z:D,ge [.lst [w,x,y,z]]=some (.tup [w,x,y,z]):=fun _ _ _ _=>rfl
 rw [Mp]
 unfold Xo
 simp! [jV,l,ft]
theorem Jw {x w:Int} (hl:ps.length<=1000):jB [.own (.dic (kP ps) (vP ps)),.fz (.int x),.fz (.int w)]=some ([.own (.dic (kP (xf ps x (w % 256))) (vP (xf ps x (w % 256)))),.fz (.int x),.fz (.int w)],.fz .non):=by
 have p0:yy [.int w,.int 0,.int 8]=some (false,.int (w % 256)):=by
  have:=tf (x:=w) (l:=0) (w:=8) (by decide)
  rw [Int.pow_zero,Int.ediv_one] at this
  exact this
 have ky:wp (.int x)=some (.inl x):=rfl
 have ll:decide ((kP ps).length<yP)=true:=decide_eq_true (by unfold kP; rw [List.length_map]; show _<16777216; omega)
 obtain ⟨q1,q2⟩:=HG ps x (w % 256)
 rw [<- q1,<- q2,BB]
 unfold W9
 simp! [yN,p0,ky,ll]
noncomputable def uw (ps:List (Int×Int)) (x w:Int):List (Int×Int):=xf (xf (xf (xf ps ((x+0) % 65536) (w % 256)) ((x+1) % 65536) (w / 256 % 256)) ((x+2) % 65536) (w / 65536 % 256)) ((x+3) % 65536) (w / 16777216 % 256)
theorem EU {x w:Int} (hl:ps.length<=900):gH [.own (.dic (kP ps) (vP ps)),.fz (.int x),.fz (.int w)]=some ([.own (.dic (kP (uw ps x w)) (vP (uw ps x w))),.fz (.int x),.fz (.int w)],.fz .non):=by
 have z:jX (wK p7 (zA (z6 1) zG)) (zl j6 (zA (z6 2) zG)) [none,some (false,.int x),some (false,.int w),none,none]=some [.tup [.int ((x+0) % 65536),.int (w % 256)],.tup [.int ((x+1) % 65536),.int (w / 256 % 256)],.tup [.int ((x+2) % 65536),.int (w / 65536 % 256)],.tup [.int ((x+3) % 65536),.int (w / 16777216 % 256)]]:=by
  unfold jX
  simp! [QW,L7]
  rfl
 have one:∀ (qs:List (Int×Int)) (u v:Int) (x3 x4:Option M),qs.length<=1000->0<=v->v<256->Ze [some (.own (.dic (kP qs) (vP qs))),some (.fz (.int x)),some (.fz (.int w)),some (.fz (.int u)),some (.fz (.int v))]=some (.nx [some (.own (.dic (kP (xf qs u v)) (vP (xf qs u v)))),some (.fz (.int x)),some (.fz (.int w)),some (.fz (.int u)),some (.fz (.int v))]):=fun qs u v x3 x4 hq v0 v1=>by
  have pb:=Jw (ps:=qs) (x:=u) (w:=v) hq
  rw [Int.emod_eq_of_lt v0 v1] at pb
  have ar:u9 (.own (.dic (kP qs) (vP qs))) 0 []=.p 0 []:=rfl
  unfold Ze
  simp! [yN,ar,pb]
 have kt:∀ (o x3 x4:Option M) (u v:D),jZ 3 4 (.tup [u,v]) [o,some (.fz (.int x)),some (.fz (.int w)),x3,x4]=some [o,some (.fz (.int x)),some (.fz (.int w)),some (.fz u),some (.fz v)]:=fun _ _ _ _ _=>rfl
 have l0:=qj (ps:=ps) (a:=(x+0) % 65536) (b:=w % 256)
 have o0:=one ps ((x+0) % 65536) (w % 256) none none (by omega) (by omega) (by omega)
 generalize hq0:xf ps ((x+0) % 65536) (w % 256)=p0 at *
 have l1:=qj (ps:=p0) (a:=(x+1) % 65536) (b:=w / 256 % 256)
 have o1:=one p0 ((x+1) % 65536) (w / 256 % 256) none none (by omega) (by omega) (by omega)
 generalize hq1:xf p0 ((x+1) % 65536) (w / 256 % 256)=p1 at *
 have l2:=qj (ps:=p1) (a:=(x+2) % 65536) (b:=w / 65536 % 256)
 have o2:=one p1 ((x+2) % 65536) (w / 65536 % 256) none none (by omega) (by omega) (by omega)
 generalize hq2:xf p1 ((x+2) % 65536) (w / 65536 % 256)=p2 at *
 have o3:=one p2 ((x+3) % 65536) (w / 16777216 % 256) none none (by omega) (by omega) (by omega)
 have ep:xf p2 ((x+3) % 65536) (w / 16777216 % 256)=uw ps x w:=by
  unfold uw
  rw [hq0,hq1,hq2]
 rw [ep] at o3
 have lp:vo (jZ 3 4) Ze [.tup [.int ((x+0) % 65536),.int (w % 256)],.tup [.int ((x+1) % 65536),.int (w / 256 % 256)],.tup [.int ((x+2) % 65536),.int (w / 65536 % 256)],.tup [.int ((x+3) % 65536),.int (w / 16777216 % 256)]] [some (.own (.dic (kP ps) (vP ps))),some (.fz (.int x)),some (.fz (.int w)),none,none]=some (.nx [some (.own (.dic (kP (uw ps x w)) (vP (uw ps x w)))),some (.fz (.int x)),some (.fz (.int w)),some (.fz (.int ((x+3) % 65536))),some (.fz (.int (w / 16777216 % 256)))]):=by
  simp only [vo,kt,o0,o1,o2,o3,Option.bind_some]
 have hd:hide (.own (.dic (kP ps) (vP ps)))=none:=rfl
 rw [BC]
 unfold WA
 simp! [yN,hd,z,lp]
theorem Ei {x y z w:D}:zF (.tup [x,y,z,w]) (.int 0)=some x:=rfl
theorem Zw {x y z w:D}:zF (.tup [x,y,z,w]) (.int 1)=some y:=rfl
theorem Ej {x y z w:D}:zF (.tup [x,y,z,w]) (.int 2)=some z:=rfl
theorem Ek {x y z w:D}:zF (.tup [x,y,z,w]) (.int 3)=some w:=rfl
theorem ZA {k:Str} {hk:List (Sum Int Str)} {hv:List D} {d:D} {s:Nat} {x n:Int} (hs:Ws[s]?=some x):qE [uC (wI Ws) a b c hk hv,.tup [.str k,d,.int (s:Int),.int n]]=some (false,.int ((x+n) % 65536)):=by
 rw [Mm]
 unfold Xl
 simp! [vO,Ej,Ek,wX hs,TY]
theorem Lz {d s:Nat} {x n:Int} (hd:d<Ws.length) (hs:Ws[s]?=some x):g6 [st (wI Ws) a b c (kP ps) (vP ps),.fz (.tup [.str "load",.int (d:Int),.int (s:Int),.int n])]=some ([st (wI (Ws.set d (gP ps ((x+n) % 65536)))) a b c (kP ps) (vP ps),.fz (.tup [.str "load",.int (d:Int),.int (s:Int),.int n])],.fz .non):=by
 rw [Mt]
 unfold Xs
 simp! [yN,v4,Wu,ZA hs,Tv,Zw,uA,uQ,wG,vn hd,vz]
theorem L_ (P:pI ps) {d s:Nat} {x n:Int} (hd:d<Ws.length) (hs:Ws[s]?=some x):g7 [st (wI Ws) a b c (kP ps) (vP ps),.fz (.tup [.str "loadw",.int (d:Int),.int (s:Int),.int n])]=some ([st (wI (Ws.set d (gP ps (((x+n) % 65536+0) % 65536)+gP ps (((x+n) % 65536+1) % 65536)*256+gP ps (((x+n) % 65536+2) % 65536)*65536+gP ps (((x+n) % 65536+3) % 65536)*16777216))) a b c (kP ps) (vP ps),.fz (.tup [.str "loadw",.int (d:Int),.int (s:Int),.int n])],.fz .non):=by
 have w:=Ko P (x:=(x+n) % 65536)
 generalize gP ps (((x+n) % 65536+0) % 65536)+gP ps (((x+n) % 65536+1) % 65536)*256+gP ps (((x+n) % 65536+2) % 65536)*65536+gP ps (((x+n) % 65536+3) % 65536)*16777216=v at w
 rw [Mu]
 unfold Xt
 simp! [yN,v4,Wu,ZA hs,w,Zw,uA,uQ,wG,vn hd,vz]
theorem M1 (hl:ps.length<=1000) {d s:Nat} {x n v:Int} (hd:Ws[d]?=some v) (hs:Ws[s]?=some x):g9 [st (wI Ws) a b c (kP ps) (vP ps),.fz (.tup [.str "store",.int (d:Int),.int (s:Int),.int n])]=some ([st (wI Ws) a b c (kP (xf ps ((x+n) % 65536) (v % 256))) (vP (xf ps ((x+n) % 65536) (v % 256))),.fz (.tup [.str "store",.int (d:Int),.int (s:Int),.int n])],.fz .non):=by
 have ar:u9 (.own (.dic (kP ps) (vP ps))) 0 [.at ["State"] "held"]=.p 0 [.at ["State"] "held"]:=rfl
 rw [Mw]
 unfold Xv
 simp! [yN,v4,vO,ZA hs,wX hd,Zw,Td,Ju,ar,Jw hl]
theorem M3 (hl:ps.length<=900) {d s:Nat} {x n v:Int} (hd:Ws[d]?=some v) (hs:Ws[s]?=some x):gA [st (wI Ws) a b c (kP ps) (vP ps),.fz (.tup [.str "storew",.int (d:Int),.int (s:Int),.int n])]=some ([st (wI Ws) a b c (kP (uw ps ((x+n) % 65536) v)) (vP (uw ps ((x+n) % 65536) v)),.fz (.tup [.str "storew",.int (d:Int),.int (s:Int),.int n])],.fz .non):=by
 have ar:u9 (.own (.dic (kP ps) (vP ps))) 0 [.at ["State"] "held"]=.p 0 [.at ["State"] "held"]:=rfl
 rw [Mx]
 unfold Xw
 simp! [yN,v4,vO,ZA hs,wX hd,Zw,Td,Ju,ar,EU hl]
theorem ZH {k:Str} {d s n:D} {F:FM} {S S':M} (h1:jS vi (.str k)=some (.bl true)) (h2:getK vi gZ (.inr k)=some F) (hS:∀ d,S≠.fz d) (h:F [S,.fz (.tup [.str k,d,s,n])]=some ([S',.fz (.tup [.str k,d,s,n])],.fz .non)) :
  qG [S,.fz (.tup [.str k,d,s,n])]=some ([S',.fz (.tup [.str k,d,s,n])],.fz .non):=by
 rw [Ql]
 unfold ZD
 have hn:u9 S 0 []=.p 0 []:=by
  cases S with
  | fz d=>exact absurd rfl (hS d)
  | _=>rfl
 simp! [yN,Ei,h1,pV,h2,hn,h]
end
end L3
namespace L3
open PySem
theorem EZ (n:Nat):(0:Int)<2 ^ n:=Int.pow_pos (by decide)
noncomputable def tO (k:Str) (x y:Nat):Nat:=if k = "and" then x &&& y else if k = "or" then x ||| y else x ^^^ y
inductive p_:Str->Prop
 | and:p_ "and" | or:p_ "or" | xor:p_ "xor"
theorem Ow {k:Str} (h:p_ k) {x y:Nat} (hx:x<4294967296) (hy:y<4294967296):tO k x y<4294967296:=by
 have e:(4294967296:Nat)=2 ^ 32:=by decide
 rw [e] at hx hy ⊢
 unfold tO
 split
 ·exact Nat.and_lt_two_pow _ hy
 ·split
  ·exact Nat.or_lt_two_pow hx hy
  ·exact Nat.xor_lt_two_pow hx hy
end L3
namespace L3
open PySem
theorem VO (z:Nat):z % 2=(z.testBit 0).toNat:=by
 rw [Nat.testBit_zero]
 rcases Nat.mod_two_eq_zero_or_one z with h | h<;>rw [h]<;>rfl
theorem JW:∀ (n x y:Nat),x<=n->(x ||| y)=(x ^^^ y)+(x &&& y)
 | 0,x,y,h=>by
  have:x=0:=by omega
  subst this
  simp
 | n+1,x,y,h=>by
  by_cases z:x=0
  ·subst z
   simp
  ·have ih:=JW n (x / 2) (y / 2) (by omega)
   have a1:(x ||| y) / 2=x / 2 ||| y / 2:=Nat.or_div_two
   have a2:(x ^^^ y) / 2=x / 2 ^^^ y / 2:=Nat.xor_div_two
   have a3:(x &&& y) / 2=x / 2 &&& y / 2:=Nat.and_div_two
   have b1:=VO (x ||| y)
   have b2:=VO (x ^^^ y)
   have b3:=VO (x &&& y)
   rw [Nat.testBit_or] at b1
   rw [Nat.testBit_xor] at b2
   rw [Nat.testBit_and] at b3
   have c:((x.testBit 0||y.testBit 0).toNat:Nat)=(x.testBit 0 ^^ y.testBit 0).toNat+(x.testBit 0&&y.testBit 0).toNat:=by
    cases x.testBit 0<;>cases y.testBit 0<;>rfl
   rw [<- a1,<- a2,<- a3] at ih
   omega
theorem Tu (x y:Nat):Builtin.bitXor (x:Int) (y:Int)=((x ^^^ y:Nat):Int):=by
 show Builtin.bitOr (x:Int) (y:Int) - Builtin.bitAnd (x:Int) (y:Int)=_
 rw [WP,Th,JW x x y (Nat.le_refl _)]
 push_cast
 omega
theorem Bk {k:Str} (h:p_ k) {x y:Nat}:j7 [.str k,.int (x:Int),.int (y:Int)]=some (false,.int (tO k x y:Int)):=by
 have q1:zh (.str "and") (.str "and")=some (.bl true):=rfl
 have q2:zh (.str "or") (.str "and")=some (.bl false):=rfl
 have q3:zh (.str "or") (.str "or")=some (.bl true):=rfl
 have q4:zh (.str "xor") (.str "and")=some (.bl false):=rfl
 have q5:zh (.str "xor") (.str "or")=some (.bl false):=rfl
 rw [B0]
 unfold Xz tO
 cases h with
 | and=>
  rw [if_pos rfl,<- Th]
  simp! [q1]
 | or=>
  rw [if_neg (by decide +kernel),if_pos rfl,<- WP]
  simp! [q2,q3]
 | xor=>
  rw [if_neg (by decide +kernel),if_neg (by decide +kernel)]
  simp! [q4,q5,Tu]
end L3
namespace L3
open PySem
section
variable {Ws:List Int} {a b c:Bool} {hk:List (Sum Int Str)} {hv:List D}
noncomputable def wv (p:Bool):Int:=if p then 1 else 0
theorem TX {x y:Int} {p:Bool}:j3 [.int x,.int y,.bl p]=some (false,.tup [.int ((x+y+wv p) % 4294967296),.bl (decide (4294967296<=x+y+wv p))]):=by
 have h1:decide ((0:Int)<4294967296)=true:=by decide
 rw [Ml]
 unfold Xk
 cases p<;>simp! [add_int,wv,h1,Bool.false_eq_true,if_false,if_true]
theorem Uy {x y:Int} {p:Bool} (x0:0<=x) (x1:x<4294967296) (y0:0<=y) (y1:y<4294967296):jC [.int x,.int y,.bl p]=some (false,.tup [.int ((x - y - wv p) % 4294967296),.bl (decide (x - y - wv p<0))]):=by
 have key:∀ (q:Int),(q=0\/q=1)->(∀ τ:zr,uD (tE (z6 2)) (eC (.int 1)) (eC (.int 0)) [some (false,.int x),some (false,.int y),some (false,.bl p),none]=some (.int q))->jC [.int x,.int y,.bl p]=some (false,.tup [.int ((x - y - q) % 4294967296),.bl (decide (x - y - q<0))]):=fun q hq he=>by
  have he':=he []
  rw [BF]
  unfold WE
  generalize uD (tE (z6 2)) (eC (.int 1)) (eC (.int 0))=EE at he'
  by_cases z:x - y - q<0
  ·have z1:decide (x - y - q<0)=true:=decide_eq_true z
   have e:(x - y - q) % 4294967296=x - y - q+4294967296:=by omega
   rw [e,z1]
   simp! [he',z1,add_int]
  ·have z1:decide (x - y - q<0)=false:=decide_eq_false z
   have e:(x - y - q) % 4294967296=x - y - q:=by omega
   rw [e,z1]
   simp! [he',z1]
 cases p with
 | false=>exact key 0 (.inl rfl) fun _=>rfl
 | true=>exact key 1 (.inr rfl) fun _=>rfl
inductive pK:Str->Prop
 | add:pK "add" | addc:pK "addc" | sub:pK "sub" | subc:pK "subc" | test:pK "test"
theorem Iy {k:Str} (h:pK k) {x y:Int} (x0:0<=x) (x1:x<4294967296) (y0:0<=y) (y1:y<4294967296):∃ (t:Int) (u:Bool),tL [.str k,.int x,.int y,.bl a]=some (false,.tup [.int (t % 4294967296),.bl u]):=by
 cases h with
 | add=>
  refine ⟨x+y+wv false,decide (4294967296<=x+y+wv false),?_⟩
  have q1:zh (.str "add") (.str "add")=some (.bl true):=rfl
  rw [gj]
  unfold pN
  simp! [q1,TX]
 | addc=>
  refine ⟨x+y+wv a,decide (4294967296<=x+y+wv a),?_⟩
  have q1:zh (.str "addc") (.str "add")=some (.bl false):=rfl
  have q2:zh (.str "addc") (.str "addc")=some (.bl true):=rfl
  rw [gj]
  unfold pN
  simp! [q1,q2,TX]
 | sub=>
  refine ⟨x - y - wv false,decide (x - y - wv false<0),?_⟩
  have q1:zh (.str "sub") (.str "add")=some (.bl false):=rfl
  have q2:zh (.str "sub") (.str "addc")=some (.bl false):=rfl
  have q3:zh (.str "sub") (.str "subc")=some (.bl false):=rfl
  rw [gj]
  unfold pN
  cases a<;>simp! [q1,q2,q3,Uy x0 x1 y0 y1]
 | subc=>
  refine ⟨x - y - wv a,decide (x - y - wv a<0),?_⟩
  have q1:zh (.str "subc") (.str "add")=some (.bl false):=rfl
  have q2:zh (.str "subc") (.str "addc")=some (.bl false):=rfl
  have q3:zh (.str "subc") (.str "subc")=some (.bl true):=rfl
  rw [gj]
  unfold pN
  cases a<;>simp! [q1,q2,q3,Uy x0 x1 y0 y1]
 | test=>
  refine ⟨x - y - wv false,decide (x - y - wv false<0),?_⟩
  have q1:zh (.str "test") (.str "add")=some (.bl false):=rfl
  have q2:zh (.str "test") (.str "addc")=some (.bl false):=rfl
  have q3:zh (.str "test") (.str "subc")=some (.bl false):=rfl
  rw [gj]
  unfold pN
  cases a<;>simp! [q1,q2,q3,Uy x0 x1 y0 y1]
theorem QF {d s:Nat} {x y w g:Int} {u:Bool} (hd:Ws[d]?=some x) (hs:Ws[s]?=some y) (h:tL [.str "test",.int x,.int y,.bl a]=some (false,.tup [.int w,.bl u])) (hg:yy [.int w,.int 31,.int 1]=some (false,.int g)) :
  u3 [st (wI Ws) a b c hk hv,.fz (.tup [.str "test",.int (d:Int),.int (s:Int)])]=some ([st (wI Ws) u (decide (w=0)) (decide (g=1)) hk hv,.fz (.tup [.str "test",.int (d:Int),.int (s:Int)])],.fz .non):=by
 have hk0:wm (.str "test") (.str "test")=some (.bl false):=rfl
 rw [Qm]
 unfold ZE
 simp! [yN,v4,vO,Wv,Uz,wX hd,wX hs,h,uT,tF,tG,jP,jQ,pV,gV,kH,gs,Zr,Zu,pW hg,pL,hk0]
end
end L3
namespace L3
open PySem
theorem DD {x:Int} {n:Nat} (h0:0<=x) (h1:x<4294967296) (hn:n<=31):pC [.int x,.int (n:Int)]=some (false,.tup [.int (x*2 ^ n % 4294967296),if n=0 then .non else .bl (decide (x*2 ^ n / 4294967296 % 2=1))]):=by
 have pk:=kT (n:=n) h0 h1 (by omega)
 have p1:∀ y:Int,yy [.int y,.int 32,.int 1]=some (false,.int (y / 4294967296 % 2)):=fun y=>tf (x:=y) (l:=32) (w:=1) (by decide)
 have p2:∀ y:Int,yy [.int y,.int 0,.int 32]=some (false,.int (y % 4294967296)):=fun y=>by
  have:=tf (x:=y) (l:=0) (w:=32) (by decide)
  rw [Int.pow_zero,Int.ediv_one] at this
  exact this
 rw [B6]
 unfold W5
 by_cases z:n=0
 ·have z1:decide ((n:Int)=0)=true:=decide_eq_true (by omega)
  rw [if_pos z]
  simp! [pk,Int.toNat_natCast,p1,p2,eq_int,z1]
 ·have z1:decide ((n:Int)=0)=false:=decide_eq_false (by omega)
  rw [if_neg z]
  simp! [pk,Int.toNat_natCast,p1,p2,eq_int,z1]
theorem G7 {x:Int} {n:Nat}:pD [.int x,.int (n:Int)]=some (false,.tup [.int (x / 2 ^ n),if n=0 then .non else .bl (decide (x / 2 ^ (n - 1) % 2=1))]):=by
 have z0:decide ((0:Int)<=(n:Int))=true:=decide_eq_true (Int.natCast_nonneg n)
 rw [B7]
 unfold W6
 by_cases z:n=0
 ·have z1:decide ((n:Int)=0)=true:=decide_eq_true (by omega)
  rw [if_pos z]
  simp! [z0,Int.toNat_natCast,eq_int,z1]
 ·have z1:decide ((n:Int)=0)=false:=decide_eq_false (by omega)
  have p:yy [.int x,.int ((n:Int) - 1),.int 1]=some (false,.int (x / 2 ^ (n - 1) % 2)):=by
   rw [show (n:Int) - 1=((n - 1:Nat):Int) by omega]
   exact tf (l:=n - 1) (w:=1) (by decide)
  rw [if_neg z]
  simp! [z0,Int.toNat_natCast,p,eq_int,z1]
theorem Kp {w n:Int} (h0:0<=w) (h1:w<4294967296) (n0:0<=n) (n1:n<65536):pE [.int w,.int 16,.int 16,.int n]=some (false,.int (w % 65536+65536*n)):=by
 have e:=Kq (x:=w) (n:=n) (l:=16) (w:=16) h0 n0 n1
 have e0:pE [.int w,.int 16,.int 16,.int n]=some (false,.int (Builtin.bitOr (Builtin.bitAnd w (Builtin.bitNot ((1*2 ^ 16 - 1)*2 ^ 16))) (n*2 ^ 16)))\/True:=.inr trivial
 have pk:wM n 16=true:=by
  unfold wM
  rw [decide_eq_true (show n.natAbs<2 ^ 64 by omega)]
  rfl
 have s1:xJ (.int n) (.int 16)=some (.int (n*65536)):=by
  show (match wM n 16 with | true=>some (D.int (n*2 ^ (16:Int).toNat)) | false=>none)=_
  rw [pk]
  rfl
 have s2:xJ (.int 65535) (.int 16)=some (.int 4294901760):=rfl
 have s3:xJ (.int 1) (.int 16)=some (.int 65536):=rfl
 have e':Builtin.bitOr (Builtin.bitAnd w (Builtin.bitNot 4294901760)) (n*65536)=w % 65536+65536*n:=by
  have e1:Builtin.bitOr (Builtin.bitAnd w (Builtin.bitNot 4294901760)) (n*65536)=w+(n - w / 65536 % 65536)*65536:=e
  rw [e1]
  omega
 rw [BI]
 unfold WG
 simp only [yQ,zb,yW,zu,e1,e2,z6,eC,Option.bind_some,List.map_cons,List.map_nil,List.cons_append,List.nil_append,List.length_cons,List.length_nil,List.replicate_succ,List.replicate_zero,List.set_cons_succ,List.set_cons_zero,List.getElem?_cons_succ,List.getElem?_cons_zero,s1,s2,s3,uG,Wm,xI,Nat.reduceAdd,Nat.reduceSub,Int.reduceSub,e']
end L3
namespace L3
open PySem
noncomputable def t9 (rows tgs:List D) (n:Nat):List D:=(List.range n).map fun k:Nat=>.tup [rows.getD k .non,.int ((k:Int)+1),tgs.getD k .non]
theorem KH {rows tgs:List D} {n:Nat}:xm (wQ n) (.inl (n:Int))=wQ (n+1)/\xH (wQ n) (t9 rows tgs n) (.inl (n:Int)) (.tup [rows.getD n .non,.int ((n:Int)+1),tgs.getD n .non])=t9 rows tgs (n+1):=by
 unfold xm xH
 rw [if_neg (by rw [O1]; decide),if_neg (by rw [O1]; decide)]
 unfold wQ t9
 rw [List.range_succ,List.map_append,List.map_append]
 exact ⟨rfl,rfl⟩
theorem KG {rows tgs:List D} {k n:Nat} (h:k<n):zF (.dic (wQ n) (t9 rows tgs n)) (.int (k:Int))=some (.tup [rows.getD k .non,.int ((k:Int)+1),tgs.getD k .non]):=by
 show (wp (.int (k:Int))).bind _=_
 exact Qd (g:=fun k:Nat=>.tup [rows.getD k .non,.int ((k:Int)+1),tgs.getD k .non]) (List.mem_range.mpr h)
theorem KE {items rows tgs:List D} (h1:qI [.lst items]=some (true,.lst rows)) (h2:qJ [.lst items]=some (true,.lst tgs)) (h3:tgs.length=rows.length) (hl:rows.length<=1000):gI [.lst items]=some (true,.dic (wQ rows.length) (t9 rows tgs rows.length)):=by
 have en:ZW (wK qJ (zA (z6 0) zG)) [some (false,.lst items),some (false,.lst rows),some (true,.dic [] []),none,none]=some (tY tgs):=by
  unfold ZW
  simp! [h2]
 obtain ⟨σ',e1,x,y,rfl⟩:=Zh (g:=uh 3 4) (b:=VC) (fun i σ=>∃ x y:Option Sl,σ=[some (false,.lst items),some (false,.lst rows),some (true,.dic (wQ i) (t9 rows tgs i)),x,y])
  (ds:=tY tgs) (σ:=[some (false,.lst items),some (false,.lst rows),some (true,.dic [] []),none,none]) 0 ⟨none,none,rfl⟩ fun i d σ hd hp=>by
   obtain ⟨x,y,rfl⟩:=hp
   rw [Nat.zero_add]
   have hi:i<rows.length:=by
    have:=(List.getElem?_eq_some_iff.mp hd).1
    rw [g_] at this
    omega
   have hi':i<tgs.length:=by omega
   rw [JN,List.getElem?_eq_getElem hi'] at hd
   cases hd
   have gt:tgs[i]=tgs.getD i .non:=by rw [List.getD_eq_getElem?_getD,List.getElem?_eq_getElem hi']; rfl
   rw [gt]
   have ix:zF (.lst rows) (.int (i:Int))=some (rows.getD i .non):=by
    show xj rows (i:Int)=_
    unfold xj
    rw [if_pos (Int.natCast_nonneg i),Int.toNat_natCast,List.getD_eq_getElem?_getD,List.getElem?_eq_getElem hi]
    rfl
   obtain ⟨q1,q2⟩:=KH (rows:=rows) (tgs:=tgs) (n:=i)
   have ll:(wQ i).length<yP:=by unfold wQ; rw [List.length_map,List.length_range]; show _<16777216; omega
   have ky:wp (.int (i:Int))=some (.inl (i:Int)):=rfl
   refine ⟨_,[some (false,.lst items),some (false,.lst rows),some (true,.dic (wQ (i+1)) (t9 rows tgs (i+1))),some (false,.int (i:Int)),some (false,tgs.getD i .non)],rfl,.inl ?_,_,_,rfl⟩
   rw [<- q1,<- q2]
   unfold VC
   simp! [kJ,ix,add_int,ky,if_pos ll]
 rw [Nat.zero_add,g_,h3] at e1
 rw [BE]
 unfold WC
 generalize tY tgs=NN at en e1
 simp! [h1,en,e1]
theorem DZ {T md:D} {e:Int} {Ws:List Int} {ps:List (Int×Int)} (hl:Ws.length=8) (hw:∀ w∈Ws,0<=w/\w<4294967296) (hm:jy [md]=some (true,.dic (kP ps) (vP ps))) :
  qw [.obj "RowMachine" [] [],.fz T,.fz (.int e),.fz (.lst (wI Ws)),.fz md]=some ([zo T e (.lst (wI Ws)) (.dic (kP ps) (vP ps)) (st (wI Ws) false false false (kP ps) (vP ps)) 0 0,.fz T,.fz (.int e),.fz (.lst (wI Ws)),.fz md],.fz .non):=by
 have p1:∀ {x:M} {za:zg},vu x (some (.obj "RowMachine" [] [])::za) 0 [] ["RowMachine"] "table" = some (.nx (some (.obj "RowMachine" ["table"] [x])::za)):=rfl
 have p2:∀ {a x:M} {za:zg},vu x (some (.obj "RowMachine" ["table"] [a])::za) 0 [] ["RowMachine"] "end" = some (.nx (some (.obj "RowMachine" ["table", "end"] [a,x])::za)):=rfl
 have p3:∀ {a b x:M} {za:zg},vu x (some (.obj "RowMachine" ["table", "end"] [a,b])::za) 0 [] ["RowMachine"] "first_words" = some (.nx (some (.obj "RowMachine" ["table", "end", "first_words"] [a,b,x])::za)):=rfl
 have p4:∀ {a b c x:M} {za:zg},vu x (some (.obj "RowMachine" ["table", "end", "first_words"] [a,b,c])::za) 0 [] ["RowMachine"] "first_held" = some (.nx (some (.obj "RowMachine" ["table", "end", "first_words", "first_held"] [a,b,c,x])::za)):=rfl
 have ag:=OZ (T:=T) (e:=e) (fw:=.non) (fh:=.non) (Ws:=Ws) (hk:=kP ps) (hv:=vP ps) (fs:=[]) (ms:=[])
 have ct:∀ {a b c d:M} {za:zg},tP "RowMachine" "again" 0 [] tI xU (some (.obj "RowMachine" ["table", "end", "first_words", "first_held"] [a,b,c,d])::za)=qV tI [.p 0 []] (some (.obj "RowMachine" ["table", "end", "first_words", "first_held"] [a,b,c,d])::za):=rfl
 rw [Mb]
 unfold Xb
 simp! [yD.eq_1,vB.eq_1,vC.eq_1,yl.eq_1,uH.eq_1,hide.eq_1,yq.eq_1,gc.eq_1,gc.eq_2,u8.eq_1,u8.eq_2,@Option.map_some.{0,0},@List.take_succ_cons.{0},@List.take_zero.{0},p1,p2,p3,p4,Ku hl hw,hm,ct]
 simp! [yN,ag]
theorem G8 {items rows tgs:List D} {md:D} {Ws:List Int} {ps:List (Int×Int)} (h1:qI [.lst items]=some (true,.lst rows)) (h2:qJ [.lst items]=some (true,.lst tgs)) (h3:tgs.length=rows.length) (hrl:rows.length<=1000) (hl:Ws.length=8) (hw:∀ w∈Ws,0<=w/\w<4294967296) (hm:jy [md]=some (true,.dic (kP ps) (vP ps))) :
  uX [.obj "RowMachine" [] [],.fz (.lst items),.fz (.lst (wI Ws)),.fz md]=some ([zo (.dic (wQ rows.length) (t9 rows tgs rows.length)) rows.length (.lst (wI Ws)) (.dic (kP ps) (vP ps)) (st (wI Ws) false false false (kP ps) (vP ps)) 0 0,.fz (.lst items),.fz (.lst (wI Ws)),.fz md],.fz .non):=by
 have ar:u9 (.obj "RowMachine" [] []) 0 []=.p 0 []:=rfl
 have fl:Wn [.dic (wQ rows.length) (t9 rows tgs rows.length)]=some (.int rows.length):=by
  show some (D.int ((wQ rows.length).length:Int))=_
  unfold wQ
  rw [List.length_map,List.length_range]
 rw [Mi]
 unfold Xi
 simp! [yN,KE h1 h2 h3 hrl,fl,ar,DZ hl hw hm]
end L3
namespace L3
open PySem
noncomputable def Oo:FS:=
 (zu (e2 xJ (eC (.int 1)) (e2 w8 (eC (.int 8)) (e1 (QQ gi) (z6 0)))))
noncomputable def pB:List D->Option (Bool×D):=FR 1 1 Oo
noncomputable def Op:FS:=
 (zu (jR (ZI (e2 zh (e2 zF (z6 0) (eC (.int 0))) (eC (.str "left"))) (e2 zh (e2 zF (z6 0) (eC (.int 0))) (eC (.str "right")))) (e2 zh (e2 zF (z6 0) (eC (.int 2))) (eC (.int 0)))))
noncomputable def YV:List D->Option (Bool×D):=FR 1 1 Op
noncomputable def Os:FS:=
 (zb (yg (tE (e2 zh (e2 zF (z6 0) (eC (.int 0))) (eC (.str "stop"))))
   (zu (eC (.int 2047)))
   yj)
  (zb (yg (ju (tE (e2 zh (e2 zF (z6 0) (eC (.int 0))) (eC (.str "when")))) (tE (e2 zh (e2 zF (z6 0) (eC (.int 0))) (eC (.str "unless")))))
   (zu (zl pB (zA (e2 zF (z6 0) (eC (.int 1))) zG)))
   yj)
  (zb (yW 1 (eC (.int 0)))
  (zb (yg (tE (e2 yU (e2 zF (z6 0) (eC (.int 0))) (eC V1)))
   (yW 1 (e2 (xI Builtin.bitOr) (z6 1) (e2 xJ (eC (.int 1)) (e2 zF (z6 0) (eC (.int 1))))))
   yj)
  (zb (yg (tE (e2 yU (e2 zF (z6 0) (eC (.int 0))) (eC V2)))
   (yW 1 (e2 (xI Builtin.bitOr) (z6 1) (e2 xJ (eC (.int 1)) (e2 zF (z6 0) (eC (.int 2))))))
   yj)
  (zb (yg (tE (e2 yU (e2 zF (z6 0) (eC (.int 0))) (eC V0)))
   (yW 1 (e2 (xI Builtin.bitOr) (z6 1) (zl pB (zA (eC (.str "carry")) zG))))
   yj)
  (zu (z6 1))))))))
noncomputable def jD:List D->Option (Bool×D):=FR 1 2 Os
noncomputable def Oq:FS:=
 (zb (yW 1 (eC (.int 0)))
  (zb (yg (tE (e2 yU (e2 zF (z6 0) (eC (.int 0))) (eC V4)))
   (yW 1 (e2 (xI Builtin.bitOr) (z6 1) (e2 xJ (eC (.int 1)) (e2 zF (z6 0) (eC (.int 1))))))
   yj)
  (zb (yg (tE (e2 yU (e2 zF (z6 0) (eC (.int 0))) (eC V5)))
   (yW 1 (e2 (xI Builtin.bitOr) (e2 (xI Builtin.bitOr) (z6 1) (zl pB (zA (eC (.str "nought")) zG))) (zl pB (zA (eC (.str "sign")) zG))))
   yj)
  (zb (yg (kZ (tE (e2 yU (e2 zF (z6 0) (eC (.int 0))) (eC V3))) (t8 (tE (zl YV (zA (z6 0) zG)))))
   (yW 1 (e2 (xI Builtin.bitOr) (z6 1) (zl pB (zA (eC (.str "carry")) zG))))
   yj)
  (zu (z6 1))))))
noncomputable def jA:List D->Option (Bool×D):=FR 1 2 Oq
theorem qh {w:Int}:yy [.int w,.int 31,.int 1]=some (false,.int (w / 2147483648 % 2)):=by
 have e:=VU (w / 2 ^ 31) 1
 have e0:yy [.int w,.int 31,.int 1]=some (false,.int (Builtin.bitAnd (w / 2 ^ 31) (1*2 ^ 1 - 1))):=rfl
 rw [e0,e]
 rfl
inductive gM:Str->Prop
 | load:gM "load" | store:gM "store" | loadw:gM "loadw" | storew:gM "storew"
inductive ve:D->Prop
 | sum {k:Str} {d s:Nat} (h:pK k) (hd:d<8) (hs:s<8):ve (.tup [.str k,.int (d:Int),.int (s:Int)])
 | bits {k:Str} {d s:Nat} (h:p_ k) (hd:d<8) (hs:s<8):ve (.tup [.str k,.int (d:Int),.int (s:Int)])
 | copy {d s:Nat} (hd:d<8) (hs:s<8):ve (.tup [.str "copy",.int (d:Int),.int (s:Int)])
 | set {d:Nat} {n:Int} (hd:d<8) (n0:0<=n) (n1:n<65536):ve (.tup [.str "set",.int (d:Int),.int n])
 | high {d:Nat} {n:Int} (hd:d<8) (n0:0<=n) (n1:n<65536):ve (.tup [.str "high",.int (d:Int),.int n])
 | left {d n:Nat} (hd:d<8) (hn:n<=31):ve (.tup [.str "left",.int (d:Int),.int (n:Int)])
 | right {d n:Nat} (hd:d<8) (hn:n<=31):ve (.tup [.str "right",.int (d:Int),.int (n:Int)])
 | mem {k:Str} {d s:Nat} {n:Int} (h:gM k) (hd:d<8) (hs:s<8) (n0:0<=n) (n1:n<256):ve (.tup [.str k,.int (d:Int),.int (s:Int),.int n])
noncomputable def vL (r:D) (R:List Nat) (o:Option Nat) (pc pn:Bool):Bool:=match jD [r],jA [r] with
 | some (false,.int u),some (false,.int p)=>decide (0<=u)&&(decide (0<=p)&&(R.all (fun k=>u.toNat.testBit k)&&((List.range 8).all (fun k=>p.toNat.testBit k == decide (o=some k))&&((p.toNat.testBit 8 == pc)&&((p.toNat.testBit 9 == pn)&&(p.toNat.testBit 10 == pn))))))
 | _,_=>false
structure UP (r:D) (R:List Nat) (o:Option Nat) (pc pn:Bool) (U Pt:Nat):Prop where
 u:jD [r]=some (false,.int (U:Int))
 p:jA [r]=some (false,.int (Pt:Int))
 r:∀ k∈R,U.testBit k=true
 o:∀ k,k<8->Pt.testBit k=decide (o=some k)
 c:Pt.testBit 8=pc
 n:Pt.testBit 9=pn
 s:Pt.testBit 10=pn
theorem vX {r:D} {R:List Nat} {o:Option Nat} {pc pn:Bool} (h:vL r R o pc pn=true):∃ U Pt,UP r R o pc pn U Pt:=by
 unfold vL at h
 split at h
 ·rename_i u p e1 e2
  simp only [Bool.and_eq_true,decide_eq_true_eq,beq_iff_eq] at h
  obtain ⟨u0,p0,h1,h2,h3,h4,h5⟩:=h
  refine ⟨u.toNat,p.toNat,by rw [Int.toNat_of_nonneg u0]; exact e1,by rw [Int.toNat_of_nonneg p0]; exact e2,fun k hk=>List.all_eq_true.mp h1 k hk,fun k hk=>?_,h3,h4,h5⟩
  exact eq_of_beq (List.all_eq_true.mp h2 k (List.mem_range.mpr hk))
 ·cases h
theorem ZG:(["add", "addc", "sub", "subc"].all fun w=>(List.range 8).all fun d=>(List.range 8).all fun s=>vL (.tup [.str (Str.ofString w),.int (d:Nat),.int (s:Nat)]) [d,s] (some d) true true)=true:=by kernel_rfl
theorem Q2:((List.range 8).all fun d=>(List.range 8).all fun s=>vL (.tup [.str "test",.int (d:Nat),.int (s:Nat)]) [d,s] none true true)=true:=by kernel_rfl
theorem WV:(["and", "or", "xor"].all fun w=>(List.range 8).all fun d=>(List.range 8).all fun s=>vL (.tup [.str (Str.ofString w),.int (d:Nat),.int (s:Nat)]) [d,s] (some d) false true)=true:=by kernel_rfl
theorem LY:((List.range 8).all fun d=>(List.range 8).all fun s=>vL (.tup [.str "copy",.int (d:Nat),.int (s:Nat)]) [s] (some d) false false)=true:=by kernel_rfl
theorem Ld (n:Int):((List.range 8).all fun d=>vL (.tup [.str "set",.int (d:Nat),.int n]) [] (some d) false false)=true:=by kernel_rfl
theorem LZ (n:Int):((List.range 8).all fun d=>vL (.tup [.str "high",.int (d:Nat),.int n]) [d] (some d) false false)=true:=by kernel_rfl
theorem Q0:(["left", "right"].all fun w=>(List.range 8).all fun d=>(List.range 32).all fun s=>vL (.tup [.str (Str.ofString w),.int (d:Nat),.int (s:Nat)]) [d] (some d) (decide (s≠0)) true)=true:=by kernel_rfl
theorem T_ (n:Int):(["load", "loadw"].all fun w=>(List.range 8).all fun d=>(List.range 8).all fun s=>vL (.tup [.str (Str.ofString w),.int (d:Nat),.int (s:Nat),.int n]) [s] (some d) false false)=true:=by kernel_rfl
theorem Q1 (n:Int):(["store", "storew"].all fun w=>(List.range 8).all fun d=>(List.range 8).all fun s=>vL (.tup [.str (Str.ofString w),.int (d:Nat),.int (s:Nat),.int n]) [d,s] none false false)=true:=by kernel_rfl
end L3
namespace L3
open PySem
theorem al {α:Type} {l:List α} {f:α->Bool} (h:l.all f=true) {x:α} (hx:x∈l):f x=true:=List.all_eq_true.mp h x hx
noncomputable def xQ (o:Option Nat) (w:Int) (Ws:List Int):List Int:=match o with
 | some d=>Ws.set d w
 | none=>Ws
structure jx (r:D) (R:List Nat) (o:Option Nat) (pc pn:Bool) (V:Nat->Int) (a b c:Bool) (ps:List (Int×Int)) (w:Int) (a' b' c':Bool) (ps':List (Int×Int)):Prop where
 w0:0<=w
 w1:w<4294967296
 P:pI ps'
 l:ps'.length<=ps.length+4
 ca:pc=false->a'=a
 cb:pn=false->b'=b
 cc:pn=false->c'=c
 dr:∀ Ws:List Int,Ws.length=8->(∀ k∈R,Ws[k]?=some (V k))->qG [st (wI Ws) a b c (kP ps) (vP ps),.fz r]=some ([st (wI (xQ o w Ws)) a' b' c' (kP ps') (vP ps'),.fz r],.fz .non)
structure qt (r:D) (R:List Nat) (o:Option Nat) (pc pn:Bool):Prop where
 up:∃ U Pt,UP r R o pc pn U Pt
 r8:∀ k∈R,k<8
 o8:∀ d,o=some d->d<8
 ld:∀ D1,p9 [D1,r]=some (false,.bl false)
 st:zh r (.tup [.str "stop"])=some (.bl false)
 tp:xo r=true
 pl:uY r
 ef:∀ (V:Nat->Int) (a b c:Bool) (ps:List (Int×Int)),(∀ k,k<8->0<=V k/\V k<4294967296)->pI ps->ps.length<=800->∃ w a' b' c' ps',jx r R o pc pn V a b c ps w a' b' c' ps'
theorem DV {d s k:Nat} (h:k∈[d,s]):k=d\/k=s:=by simpa using h
theorem lt2 {d s:Nat} (hd:d<8) (hs:s<8):∀ k∈[d,s],k<8:=fun k hk=>by
 rcases DV hk with rfl | rfl<;>assumption
theorem qA {d:Nat} (hd:d<8):∀ k,some d=some k->k<8:=fun k e=>by cases e; exact hd
theorem M7 {r:D} (h:ve r):∃ R o pc pn,qt r R o pc pn:=by
 cases h with
 | @sum k d s h hd hs=>
  have md:=List.mem_range.mpr hd
  have ms:=List.mem_range.mpr hs
  have main:∀ (V:Nat->Int) (a b c:Bool) (ps:List (Int×Int)),(∀ k,k<8->0<=V k/\V k<4294967296)->∃ (w:Int) (u:Bool),0<=w/\w<4294967296/\tL [.str k,.int (V d),.int (V s),.bl a]=some (false,.tup [.int w,.bl u]):=fun V a b c ps hv=>by
   obtain ⟨x0,x1⟩:=hv d hd
   obtain ⟨y0,y1⟩:=hv s hs
   obtain ⟨t,u,s1⟩:=Iy (a:=a) h x0 x1 y0 y1
   exact ⟨t % 4294967296,u,Int.emod_nonneg _ (by decide),Int.emod_lt_of_pos _ (by decide),s1⟩
  have fin:∀ (k:Str),(∀ (V:Nat->Int) (a b c:Bool) (ps:List (Int×Int)),(∀ k,k<8->0<=V k/\V k<4294967296)->∃ (w:Int) (u:Bool),0<=w/\w<4294967296/\tL [.str k,.int (V d),.int (V s),.bl a]=some (false,.tup [.int w,.bl u]))->vL (.tup [.str k,.int (d:Nat),.int (s:Nat)]) [d,s] (some d) true true=true->wm (.str k) (.str "test")=some (.bl true)->jS vi (.str k)=some (.bl true)->getK vi gZ (.inr k)=some u3->(∀ D1,p9 [D1,.tup [.str k,.int (d:Int),.int (s:Int)]]=some (false,.bl false))->zh (.tup [.str k,.int (d:Int),.int (s:Int)]) (.tup [.str "stop"])=some (.bl false)->uY (.tup [.str k,.int (d:Int),.int (s:Int)])->qt (.tup [.str k,.int (d:Int),.int (s:Int)]) [d,s] (some d) true true:=fun k main ck q1 q2 q3 q4 q5 q6=>⟨vX ck,lt2 hd hs,qA hd,q4,q5,rfl,q6,fun V a b c ps hv P hp=>by
    obtain ⟨w,u,w0,w1,s1⟩:=main V a b c ps hv
    refine ⟨w,u,decide (w=0),decide (w / 2147483648 % 2=1),ps,w0,w1,P,by omega,nofun,nofun,nofun,fun Ws hl hR=>?_⟩
    exact uB (k:=k) q2 q3 wc rfl rfl (M4 (b:=b) (c:=c) (hk:=kP ps) (hv:=vP ps) q1 (hR d (by simp)) (hR s (by simp)) s1 qh)⟩
  cases h with
  | add=>exact ⟨_,_,_,_,fin "add" main (al (al (al ZG (x := "add") (by decide)) md) ms) rfl rfl rfl (fun _=>rfl) rfl ⟨rfl,rfl⟩⟩
  | addc=>exact ⟨_,_,_,_,fin "addc" main (al (al (al ZG (x := "addc") (by decide)) md) ms) rfl rfl rfl (fun _=>rfl) rfl ⟨rfl,rfl⟩⟩
  | sub=>exact ⟨_,_,_,_,fin "sub" main (al (al (al ZG (x := "sub") (by decide)) md) ms) rfl rfl rfl (fun _=>rfl) rfl ⟨rfl,rfl⟩⟩
  | subc=>exact ⟨_,_,_,_,fin "subc" main (al (al (al ZG (x := "subc") (by decide)) md) ms) rfl rfl rfl (fun _=>rfl) rfl ⟨rfl,rfl⟩⟩
  | test=>
   refine ⟨[d,s],none,true,true,vX (al (al Q2 md) ms),lt2 hd hs,nofun,fun _=>rfl,rfl,rfl,⟨rfl,rfl⟩,fun V a b c ps hv P hp=>?_⟩
   obtain ⟨w,u,w0,w1,s1⟩:=main V a b c ps hv
   refine ⟨w,u,decide (w=0),decide (w / 2147483648 % 2=1),ps,w0,w1,P,by omega,nofun,nofun,nofun,fun Ws hl hR=>?_⟩
   exact uB (k := "test") rfl rfl wc rfl rfl (QF (b:=b) (c:=c) (hk:=kP ps) (hv:=vP ps) (hR d (by simp)) (hR s (by simp)) s1 qh)
 | @bits k d s h hd hs=>
  have md:=List.mem_range.mpr hd
  have ms:=List.mem_range.mpr hs
  obtain ⟨ck,q2,q3,q4,q5,q6⟩:vL (.tup [.str k,.int (d:Nat),.int (s:Nat)]) [d,s] (some d) false true=true/\jS vi (.str k)=some (.bl true)/\getK vi gZ (.inr k)=some qF/\(∀ D1,p9 [D1,.tup [.str k,.int (d:Int),.int (s:Int)]]=some (false,.bl false))/\zh (.tup [.str k,.int (d:Int),.int (s:Int)]) (.tup [.str "stop"])=some (.bl false)/\uY (.tup [.str k,.int (d:Int),.int (s:Int)]):=by
   cases h with
   | and=>exact ⟨al (al (al WV (x := "and") (by decide)) md) ms,rfl,rfl,fun _=>rfl,rfl,rfl,rfl⟩
   | or=>exact ⟨al (al (al WV (x := "or") (by decide)) md) ms,rfl,rfl,fun _=>rfl,rfl,rfl,rfl⟩
   | xor=>exact ⟨al (al (al WV (x := "xor") (by decide)) md) ms,rfl,rfl,fun _=>rfl,rfl,rfl,rfl⟩
  refine ⟨[d,s],some d,false,true,vX ck,lt2 hd hs,qA hd,q4,q5,rfl,q6,fun V a b c ps hv P hp=>?_⟩
  obtain ⟨x0,x1⟩:=hv d hd
  obtain ⟨y0,y1⟩:=hv s hs
  obtain ⟨xn,ex⟩:=Int.eq_ofNat_of_zero_le x0
  obtain ⟨yn,ey⟩:=Int.eq_ofNat_of_zero_le y0
  have hx:xn<4294967296:=by omega
  have hy:yn<4294967296:=by omega
  have w0:0<=(tO k xn yn:Int):=Int.natCast_nonneg _
  have w1:(tO k xn yn:Int)<4294967296:=Int.ofNat_lt.mpr (Ow h hx hy)
  have s1:=Bk h (x:=xn) (y:=yn)
  refine ⟨(tO k xn yn:Int),a,decide ((tO k xn yn:Int)=0),decide ((tO k xn yn:Int) / 2147483648 % 2=1),ps,w0,w1,P,by omega,fun _=>rfl,nofun,nofun,fun Ws hl hR=>?_⟩
  exact uB (k:=k) q2 q3 wc rfl rfl (Lw (a:=a) (b:=b) (c:=c) (hk:=kP ps) (hv:=vP ps) (by rw [hR d (by simp),ex]) (by rw [hR s (by simp),ey]) s1 qh)
 | @copy d s hd hs=>
  refine ⟨[s],some d,false,false,vX (al (al LY (List.mem_range.mpr hd)) (List.mem_range.mpr hs)),fun k hk=>by cases List.mem_singleton.mp hk; exact hs,qA hd,fun _=>rfl,rfl,rfl,⟨rfl,rfl⟩,fun V a b c ps hv P hp=>?_⟩
  exact ⟨V s,a,b,c,ps,(hv s hs).1,(hv s hs).2,P,by omega,fun _=>rfl,fun _=>rfl,fun _=>rfl,fun Ws hl hR=>uB (k := "copy") rfl rfl wc rfl rfl (Lx (by omega) (hR s (by simp)))⟩
 | @set d n hd n0 n1=>
  refine ⟨[],some d,false,false,vX (al (Ld n) (List.mem_range.mpr hd)),fun k hk=>absurd hk (by simp),qA hd,fun _=>rfl,rfl,rfl,⟨rfl,rfl⟩,fun V a b c ps hv P hp=>?_⟩
  exact ⟨n,a,b,c,ps,n0,by omega,P,by omega,fun _=>rfl,fun _=>rfl,fun _=>rfl,fun Ws hl hR=>uB (k := "set") rfl rfl wc rfl rfl (M0 (by omega))⟩
 | @high d n hd n0 n1=>
  refine ⟨[d],some d,false,false,vX (al (LZ n) (List.mem_range.mpr hd)),fun k hk=>by cases List.mem_singleton.mp hk; exact hd,qA hd,fun _=>rfl,rfl,rfl,⟨rfl,rfl⟩,fun V a b c ps hv P hp=>?_⟩
  obtain ⟨x0,x1⟩:=hv d hd
  exact ⟨V d % 65536+65536*n,a,b,c,ps,by omega,by omega,P,by omega,fun _=>rfl,fun _=>rfl,fun _=>rfl,fun Ws hl hR=>uB (k := "high") rfl rfl wc rfl rfl (Ly (hR d (by simp)) (Kp x0 x1 n0 n1))⟩
 | @left d n hd hn=>
  refine ⟨[d],some d,decide (n≠0),true,vX (al (al (al Q0 (x := "left") (by decide)) (List.mem_range.mpr hd)) (List.mem_range.mpr (show n<32 by omega))),fun k hk=>by cases List.mem_singleton.mp hk; exact hd,qA hd,fun _=>rfl,rfl,rfl,⟨rfl,rfl⟩,fun V a b c ps hv P hp=>?_⟩
  obtain ⟨x0,x1⟩:=hv d hd
  have s1:=DD (n:=n) x0 x1 hn
  have w0:0<=V d*2 ^ n % 4294967296:=Int.emod_nonneg _ (by decide)
  have w1:V d*2 ^ n % 4294967296<4294967296:=Int.emod_lt_of_pos _ (by decide)
  generalize V d*2 ^ n % 4294967296=w at w0 w1 s1
  by_cases z:n=0
  ·rw [if_pos z] at s1
   exact ⟨w,_,_,_,ps,w0,w1,P,by omega,fun _=>rfl,nofun,nofun,fun Ws hl hR=>uB (k := "left") rfl rfl wc rfl rfl (QC (a:=a) (b:=b) (c:=c) (hk:=kP ps) (hv:=vP ps) (hR d (by simp)) true rfl s1 qh)⟩
  ·rw [if_neg z] at s1
   exact ⟨w,_,_,_,ps,w0,w1,P,by omega,fun y=>absurd y (by rw [decide_eq_true z]; decide),nofun,nofun,fun Ws hl hR=>uB (k := "left") rfl rfl wc rfl rfl (QD (a:=a) (b:=b) (c:=c) (hk:=kP ps) (hv:=vP ps) (hR d (by simp)) true rfl s1 qh)⟩
 | @right d n hd hn=>
  refine ⟨[d],some d,decide (n≠0),true,vX (al (al (al Q0 (x := "right") (by decide)) (List.mem_range.mpr hd)) (List.mem_range.mpr (show n<32 by omega))),fun k hk=>by cases List.mem_singleton.mp hk; exact hd,qA hd,fun _=>rfl,rfl,rfl,⟨rfl,rfl⟩,fun V a b c ps hv P hp=>?_⟩
  obtain ⟨x0,x1⟩:=hv d hd
  have s1:=G7 (x:=V d) (n:=n)
  have w0:0<=V d / 2 ^ n:=Int.ediv_nonneg x0 (Int.le_of_lt (EZ n))
  have w1:V d / 2 ^ n<4294967296:=Int.lt_of_le_of_lt (Int.ediv_le_self _ x0) x1
  generalize V d / 2 ^ n=w at w0 w1 s1
  by_cases z:n=0
  ·rw [if_pos z] at s1
   exact ⟨w,_,_,_,ps,w0,w1,P,by omega,fun _=>rfl,nofun,nofun,fun Ws hl hR=>uB (k := "right") rfl rfl wc rfl rfl (QC (a:=a) (b:=b) (c:=c) (hk:=kP ps) (hv:=vP ps) (hR d (by simp)) false rfl s1 qh)⟩
  ·rw [if_neg z] at s1
   exact ⟨w,_,_,_,ps,w0,w1,P,by omega,fun y=>absurd y (by rw [decide_eq_true z]; decide),nofun,nofun,fun Ws hl hR=>uB (k := "right") rfl rfl wc rfl rfl (QD (a:=a) (b:=b) (c:=c) (hk:=kP ps) (hv:=vP ps) (hR d (by simp)) false rfl s1 qh)⟩
 | @mem k d s n h hd hs n0 n1=>
  have md:=List.mem_range.mpr hd
  have ms:=List.mem_range.mpr hs
  have l1:∀ k∈[s],k<8:=fun k hk=>by cases List.mem_singleton.mp hk; exact hs
  cases h with
  | load=>
   refine ⟨[s],some d,false,false,vX (al (al (al (T_ n) (x := "load") (by decide)) md) ms),l1,qA hd,fun _=>rfl,rfl,rfl,⟨rfl,rfl⟩,fun V a b c ps hv P hp=>?_⟩
   have g:=ug ((V s+n) % 65536) P.by_
   exact ⟨gP ps ((V s+n) % 65536),a,b,c,ps,g.1,by omega,P,by omega,fun _=>rfl,fun _=>rfl,fun _=>rfl,fun Ws hl hR=>ZH (k := "load") rfl rfl wc (Lz (by omega) (hR s (by simp)))⟩
  | loadw=>
   refine ⟨[s],some d,false,false,vX (al (al (al (T_ n) (x := "loadw") (by decide)) md) ms),l1,qA hd,fun _=>rfl,rfl,rfl,⟨rfl,rfl⟩,fun V a b c ps hv P hp=>?_⟩
   have g0:=ug (((V s+n) % 65536+0) % 65536) P.by_
   have g1:=ug (((V s+n) % 65536+1) % 65536) P.by_
   have g2:=ug (((V s+n) % 65536+2) % 65536) P.by_
   have g3:=ug (((V s+n) % 65536+3) % 65536) P.by_
   exact ⟨_,a,b,c,ps,by omega,by omega,P,by omega,fun _=>rfl,fun _=>rfl,fun _=>rfl,fun Ws hl hR=>ZH (k := "loadw") rfl rfl wc (L_ P (by omega) (hR s (by simp)))⟩
  | store=>
   refine ⟨[d,s],none,false,false,vX (al (al (al (Q1 n) (x := "store") (by decide)) md) ms),lt2 hd hs,nofun,fun _=>rfl,rfl,rfl,⟨rfl,rfl⟩,fun V a b c ps hv P hp=>?_⟩
   have l:=qj (ps:=ps) (a:=(V s+n) % 65536) (b:=V d % 256)
   exact ⟨0,a,b,c,_,by decide,by decide,kS P (by omega) (by omega) (by omega) (by omega),by omega,fun _=>rfl,fun _=>rfl,fun _=>rfl,fun Ws hl hR=>ZH (k := "store") rfl rfl wc (M1 (by omega) (hR d (by simp)) (hR s (by simp)))⟩
  | storew=>
   refine ⟨[d,s],none,false,false,vX (al (al (al (Q1 n) (x := "storew") (by decide)) md) ms),lt2 hd hs,nofun,fun _=>rfl,rfl,rfl,⟨rfl,rfl⟩,fun V a b c ps hv P hp=>?_⟩
   have P0:=kS (a:=((V s+n) % 65536+0) % 65536) (b:=V d % 256) P (by omega) (by omega) (by omega) (by omega)
   have P1:=kS (a:=((V s+n) % 65536+1) % 65536) (b:=V d / 256 % 256) P0 (by omega) (by omega) (by omega) (by omega)
   have P2:=kS (a:=((V s+n) % 65536+2) % 65536) (b:=V d / 65536 % 256) P1 (by omega) (by omega) (by omega) (by omega)
   have P3:=kS (a:=((V s+n) % 65536+3) % 65536) (b:=V d / 16777216 % 256) P2 (by omega) (by omega) (by omega) (by omega)
   have lw:(uw ps ((V s+n) % 65536) (V d)).length<=ps.length+4:=Nat.le_trans qj (Nat.succ_le_succ (Nat.le_trans qj (Nat.succ_le_succ (Nat.le_trans qj (Nat.succ_le_succ qj)))))
   exact ⟨0,a,b,c,uw ps ((V s+n) % 65536) (V d),by decide,by decide,P3,lw,fun _=>rfl,fun _=>rfl,fun _=>rfl,fun Ws hl hR=>ZH (k := "storew") rfl rfl wc (M3 (by omega) (hR d (by simp)) (hR s (by simp)))⟩
end L3
namespace L3
open PySem
noncomputable def T7:FE:=(xO (zA (z6 1) (zA (e2 zF (z6 0) (z6 1)) zG)))
noncomputable def TC:FT:=(tE (e2 wm (e2 zF (z6 0) (z6 1)) (eC (.int 0))))
noncomputable def W7:FS:=
 (uy (vj 1 (vm (eL Wr (zA (z6 0) zG))) (yp 1) TC T7))
noncomputable def gF:List D->Option (Bool×D):=FR 1 1 W7
theorem B8 (x0:D):gF [x0]=yQ 1 W7 [x0]:=rfl
noncomputable def Xf:FS:=
 (uy (eL vN (zA (e1 (yT ["State"] "words") (e1 (yT ["RowMachine"] "state") (z6 0))) zG)))
noncomputable def qz:List D->Option (Bool×D):=FR 1 1 Xf
theorem Mf (x0:D):qz [x0]=yQ 1 Xf [x0]:=rfl
noncomputable def YK:FE:=(e2 zF (e1 (yT ["State"] "truths") (e1 (yT ["RowMachine"] "state") (z6 0))) (z6 1))
noncomputable def Xd:FS:=
 (zu (eL ge (zA (vj 1 (vm (eC jW)) (yp 1) xW YK) zG)))
noncomputable def qx:List D->Option (Bool×D):=FR 1 1 Xd
theorem Md (x0:D):qx [x0]=yQ 1 Xd [x0]:=rfl
noncomputable def Xe:FS:=
 (uy (wK gF (zA (e1 (yT ["State"] "held") (e1 (yT ["RowMachine"] "state") (z6 0))) zG)))
noncomputable def qy:List D->Option (Bool×D):=FR 1 1 Xe
theorem Me (x0:D):qy [x0]=yQ 1 Xe [x0]:=rfl
noncomputable def qB:List (Int×Int)->Int->Int
 | [],_=>0
 | p::ps,a=>if p.1=a then p.2 else qB ps a
theorem Qc {a:Int}:∀ {ps:List (Int×Int)},a∈ps.map (·.1)->getK (kP ps) (vP ps) (.inl a)=some (.int (qB ps a))
 | [],h=>absurd h (by simp)
 | p::ps,h=>by
  show getK (.inl p.1::kP ps) (.int p.2::vP ps) (.inl a)=_
  unfold getK qB
  by_cases c:p.1=a
  ·rw [if_pos (congrArg Sum.inl c),if_pos c]
  ·rw [if_neg (fun z=>c (Sum.inl.inj z)),if_neg c]
   rw [List.map_cons] at h
   exact Qc ((List.mem_cons.mp h).resolve_left fun z=>c z.symm)
theorem Bd {ps:List (Int×Int)} {a:Int} (h:a∈ps.map (·.1)):zF (.dic (kP ps) (vP ps)) (.int a)=some (.int (qB ps a)):=by
 show (wp (.int a)).bind _=_
 exact Qc h
noncomputable def memK (ps:List (Int×Int)):List Int:=L2.isort (ps.map (·.1))
noncomputable def ur (ps:List (Int×Int)):List D:=((memK ps).filter fun a=>decide (qB ps a≠0)).map fun a=>.tup [.int a,.int (qB ps a)]
theorem DW {ps:List (Int×Int)} {a:Int} (h:a∈memK ps):a∈ps.map (·.1):=(L2.isort_perm (ps.map (·.1))).mem_iff.mp h
theorem J0:∀ (ps:List (Int×Int)),jb (kP ps)=some (ps.map (·.1))
 | []=>rfl
 | p::ps=>by
  show (jb (kP ps)).bind _=_
  rw [J0 ps]
  rfl
theorem D9 {g:FG} {c:FT} {e:FE} {σ:zr} (p:Int->Bool) (v:Int->D) {ns:List Int} (h:∀ n∈ns,∃ σ1,g (.int n) σ=some σ1/\c σ1=some (p n)/\(p n=true->e σ1=some (v n))):xE g c e σ (wI ns)=some ((ns.filter p).map v):=by
 induction ns with
 | nil=>rfl
 | cons n ns ih=>
  obtain ⟨σ1,e1,e2,e3⟩:=h n List.mem_cons_self
  have ih':=ih fun m hm=>h m (List.mem_cons_of_mem _ hm)
  show xE g c e σ (.int n::wI ns)=_
  cases q:p n with
  | true=>
   rw [q] at e2
   simp only [xE,e1,Option.bind_some,e2,e3 q,ih',List.filter_cons,q,if_true,List.map_cons]
  | false=>
   rw [q] at e2
   simp only [xE,e1,Option.bind_some,e2,ih',List.filter_cons,q,Bool.false_eq_true,if_false]
theorem Dk {i:Int}:wm (.int i) (.int 0)=some (.bl (decide (i≠0))):=by
 show some (D.bl (!(i == 0)))=_
 congr 2
 by_cases c:i=0
 ·subst c; rfl
 ·rw [decide_eq_true c]
  have:(i == 0)=false:=by simpa using c
  rw [this]
  rfl
theorem CU {ps:List (Int×Int)} (hl:ps.length<64):gF [.dic (kP ps) (vP ps)]=some (true,.lst (ur ps)):=by
 have e1:Wr [.dic (kP ps) (vP ps)]=some (.lst (wI (memK ps))):=by
  show (jb (kP ps)).bind _=_
  rw [J0]
  show (if (ps.map (·.1)).length<64 then _ else _)=_
  rw [if_pos (by rw [List.length_map]; exact hl)]
  rfl
 have e2:xE (yp 1) TC T7 [some (false,.dic (kP ps) (vP ps)),none] (wI (memK ps))=some (ur ps):=D9 (fun a=>decide (qB ps a≠0)) (fun a=>.tup [.int a,.int (qB ps a)]) fun n hn=>by
  have ix:=Bd (DW hn)
  refine ⟨_,rfl,?_,fun _=>?_⟩
  ·unfold TC
   simp! [ix,Dk]
  ·unfold T7
   simp! [ix]
 rw [B8]
 unfold W7
 simp! [e1,e2]
section
variable {T fw fh:D} {e due done:Int} {Ws:List Int} {a b c:Bool} {ps:List (Int×Int)}
noncomputable def pQ (T fw fh:D) (e due done:Int) (Ws:List Int) (a b c:Bool) (ps:List (Int×Int)):D:=xt T e fw fh (uC (wI Ws) a b c (kP ps) (vP ps)) due done
theorem Ez:qz [pQ T fw fh e due done Ws a b c ps]=some (true,.lst (wI Ws)):=by
 have fl:vN [.lst (wI Ws)]=some (.lst (wI Ws)):=rfl
 unfold pQ
 rw [Mf]
 unfold Xf
 simp! [gf,vO,fl]
theorem DO:qx [pQ T fw fh e due done Ws a b c ps]=some (false,.tup [.bl a,.bl b,.bl c]):=by
 unfold pQ
 have e1:xE (yp 1) xW YK [some (false,xt T e fw fh (uC (wI Ws) a b c (kP ps) (vP ps)) due done),none] gi=some [.bl a,.bl b,.bl c]:=by
  have h:∀ m:Str,YK [some (false,xt T e fw fh (uC (wI Ws) a b c (kP ps) (vP ps)) due done),some (false,.str m)]=zF (qp a b c) (.str m):=fun m=>by
   unfold YK
   simp! [gf,Wv]
  unfold gi
  simp only [xE,yp,xW,Option.bind_some,List.set_cons_succ,List.set_cons_zero,h,Uz,KK,KL]
 have e2:ge [.lst [.bl a,.bl b,.bl c]]=some (.tup [.bl a,.bl b,.bl c]):=rfl
 rw [Md]
 unfold Xd jW
 simp! [e1,e2]
theorem DX (hl:ps.length<64):qy [pQ T fw fh e due done Ws a b c ps]=some (true,.lst (ur ps)):=by
 unfold pQ
 rw [Me]
 unfold Xe
 simp! [gf,Wu,CU hl]
end
end L3
namespace L3
open PySem
noncomputable def gn:zj:=(VI 2 (xI fun i j=>i+j) (eC (.int 1)))
noncomputable def pO:xq:=(U_ (uU (tE (e2 (qW fun i j=>decide (i<j)) (z6 2) (z6 1)))) (T0 (tP "RowMachine" "step" 0 [] wH xU)))
noncomputable def ZB:zj:=
 (yD (wA 2 (yl (eC (.int 0))))
  (yD (gv pO
   gn)
  (uI (yl (z6 2)))))
noncomputable def v_:FM:=xS 2 3 ZB
theorem Qj (x0 x1:M):v_ [x0,x1]=yq 2 3 ZB [x0,x1]:=rfl
theorem T6 {c:xq} {b:zj} {fl:u4}:∀ {n:Nat} {β:zg} (m:Nat),uV c b n β=some fl->uV c b (n+m) β=some fl
 | 0,_,_,h=>by cases h
 | n+1,β,m,h=>by
  rw [show n+1+m=(n+m)+1 by omega]
  change (c β).bind _=_ at h
  show (c β).bind _=_
  cases e:c β with
  | none=>rw [e] at h; cases h
  | some r=>
   rw [e] at h
   change (match r.1 with | false=>_ | true=>_)=_ at h
   show (match r.1 with | false=>_ | true=>_)=_
   cases hr:r.1 with
   | false=>rw [hr] at h; exact h
   | true=>
    rw [hr] at h
    change (b r.2).bind _=_ at h
    show (b r.2).bind _=_
    cases e2:b r.2 with
    | none=>rw [e2] at h; cases h
    | some f=>
     rw [e2] at h
     cases f with
     | nx β2=>exact T6 m h
     | ct β2=>exact T6 m h
     | bk β2=>exact h
     | rt x β2=>exact h
theorem JE {c:xq} {b:zj} {β:zg} {fl:u4} (n:Nat) (h:uV c b n β=some fl) (hn:n<=kn:=by decide):gv c b β=some fl:=by
 have e:=T6 (kn - n) h
 rw [Nat.add_sub_of_le hn] at e
 exact e
theorem T5 {c:xq} {b:zj} {β β1 β2:zg} {n:Nat} (hc:c β=some (true,β1)) (hb:b β1=some (.nx β2)):uV c b (n+1) β=uV c b n β2:=by
 show (c β).bind _=_
 rw [hc]
 show (b β1).bind _=_
 rw [hb]
 rfl
theorem OH {c:xq} {b:zj} {β β1:zg} {n:Nat} (hc:c β=some (false,β1)):uV c b (n+1) β=some (.nx β1):=by
 show (c β).bind _=_
 rw [hc]
 rfl
section
variable {T fw fh:D} {e:Int} {s s1 s2:M} {d0 d1 d2 j0 j1 j2:Int}
theorem Lg {T fw fh:D} {e due done:Int} {s:M} {x1 x2:Option M}:tP "RowMachine" "step" 0 [] wH xU [some (zo T e fw fh s due done),x1,x2]=qV wH [.p 0 []] [some (zo T e fw fh s due done),x1,x2]:=rfl
theorem Vm {m k:Int} (hk:k<m) (h:wH [zo T e fw fh s d0 j0]=some ([zo T e fw fh s1 d1 j1],.fz (.bl true))):pO [some (zo T e fw fh s d0 j0),some (.fz (.int m)),some (.fz (.int k))]=some (true,[some (zo T e fw fh s1 d1 j1),some (.fz (.int m)),some (.fz (.int k))]):=by
 have z:decide (k<m)=true:=decide_eq_true hk
 unfold pO
 simp! [yN,kd,z,Lg,h]
theorem IS {m k:Int} (hk:¬ k<m):pO [some (zo T e fw fh s d0 j0),some (.fz (.int m)),some (.fz (.int k))]=some (false,[some (zo T e fw fh s d0 j0),some (.fz (.int m)),some (.fz (.int k))]):=by
 have z:decide (k<m)=false:=decide_eq_false hk
 unfold pO
 simp! [yN,kd,z]
theorem Vl {m k:Int} {x:Option M} (hx:x=some (zo T e fw fh s d0 j0)):gn [x,some (.fz (.int m)),some (.fz (.int k))]=some (.nx [x,some (.fz (.int m)),some (.fz (.int (k+1)))]):=by
 subst hx
 have hd:hide (zo T e fw fh s d0 j0)=none:=rfl
 unfold gn
 simp! [yN,VI,hd]
theorem GA (h:wH [zo T e fw fh s d0 j0]=some ([zo T e fw fh s1 d1 j1],.fz (.bl true))):v_ [zo T e fw fh s d0 j0,.fz (.int 1)]=some ([zo T e fw fh s1 d1 j1,.fz (.int 1)],.fz (.int 1)):=by
 have w:gv pO gn [some (zo T e fw fh s d0 j0),some (.fz (.int 1)),some (.fz (.int 0))]=some (.nx [some (zo T e fw fh s1 d1 j1),some (.fz (.int 1)),some (.fz (.int 1))]):=JE 2 (by rw [T5 (Vm (by decide) h) (Vl rfl)]; exact OH (IS (by decide)))
 have hd:∀ {s:M} {d0 j0:Int},hide (zo T e fw fh s d0 j0)=none:=rfl
 rw [Qj]
 unfold ZB
 simp! [yN,hd,w]
theorem GB (h:wH [zo T e fw fh s d0 j0]=some ([zo T e fw fh s1 d1 j1],.fz (.bl true))) (h2:wH [zo T e fw fh s1 d1 j1]=some ([zo T e fw fh s2 d2 j2],.fz (.bl true))):v_ [zo T e fw fh s d0 j0,.fz (.int 2)]=some ([zo T e fw fh s2 d2 j2,.fz (.int 2)],.fz (.int 2)):=by
 have w:gv pO gn [some (zo T e fw fh s d0 j0),some (.fz (.int 2)),some (.fz (.int 0))]=some (.nx [some (zo T e fw fh s2 d2 j2),some (.fz (.int 2)),some (.fz (.int 2))]):=JE 3 (by rw [T5 (Vm (by decide) h) (Vl rfl),T5 (Vm (by decide) h2) (Vl rfl)]; exact OH (IS (by decide)))
 have hd:∀ {s:M} {d0 j0:Int},hide (zo T e fw fh s d0 j0)=none:=rfl
 rw [Qj]
 unfold ZB
 simp! [yN,hd,w]
end
end L3
namespace L3
open PySem
noncomputable def W1:zj:=
 (yD (wA 2 (WU "RowMachine" uX [.non] (xw (e2 w8 (z6 0) (wL (zA (xO (zA (eC (.str "stop")) zG)) zG))) (Z9 (eL vN (zA (z6 1) zG)) xU))))
  (yD (vB (tP "RowMachine" "run" 2 [] v_ (xw (eL uF (zA (z6 0) zG)) xU)))
  (uI (ZF (qU (ZF (qU (jN (eL vN (zA (zl qz (u7 "RowMachine" "registers" (z6 2) zG)) zG)))) (qU (jN (eL vN (zA (zl qx (u7 "RowMachine" "marks" (z6 2) zG)) zG)))))) (qU (WR (qU (jN (wK qy (u7 "RowMachine" "memory" (z6 2) zG))))))))))
noncomputable def tK:FM:=xS 2 3 W1
theorem B2 (x0 x1:M):tK [x0,x1]=yq 2 3 W1 [x0,x1]:=rfl
noncomputable def wd:D:=.tup [.str "stop"]
theorem VR:∀ Ws:List Int,tplDs (wI Ws)=true
 | []=>rfl
 | w::Ws=>by
  show (xo (.int w)&&tplDs (wI Ws))=true
  rw [VR Ws]
  rfl
theorem Dm {ps:List (Int×Int)}:tplDs (ur ps)=true:=by
 unfold ur
 generalize (memK ps).filter _=l
 induction l with
 | nil=>rfl
 | cons x l ih=>
  rw [List.map_cons]
  show (xo (.tup [.int x,.int (qB ps x)])&&tplDs _)=true
  rw [ih]
  rfl
theorem Ty {xs ys:List D} (h:xs.length+ys.length<=1000):ZM (.lst xs) (.lst ys)=some (.lst (xs++ys)):=by
 show (if xs.length+ys.length<=yP then _ else _)=_
 rw [if_pos (by show _<=16777216; omega)]
theorem Lf {T fw fh:D} {e due done m:Int} {s:M} {fa:xi} {x0 x1:Option M} (h:fa [x0,x1,some (zo T e fw fh s due done)]=some [.v (.int m)]):tP "RowMachine" "run" 2 [] v_ fa [x0,x1,some (zo T e fw fh s due done)]=qV v_ [.p 2 [],.v (.int m)] [x0,x1,some (zo T e fw fh s due done)]:=by
 show (fa [x0,x1,some (zo T e fw fh s due done)]).bind _=_
 rw [h]
 rfl
noncomputable def xP (Ws:List Int) (a b c:Bool) (ps:List (Int×Int)):List D:=wI Ws++[.bl a,.bl b,.bl c]++[.lst (ur ps)]
section
variable {Ws:List Int} {a b c:Bool} {ps:List (Int×Int)}
theorem J7 {rs:List D} {W:List Int} {T fw fh:D} {e m:Int} {s0:M} {d2 j2:Int} (hl:Ws.length=8) (hp:ps.length<64) (hm:(rs.length:Int)=m) (hrs:rs.length<=10)
  (ri:uX [.obj "RowMachine" [] [],.fz (.lst (rs++[wd])),.fz (.lst (wI W)),.fz .non]=some ([zo T e fw fh s0 0 0,.fz (.lst (rs++[wd])),.fz (.lst (wI W)),.fz .non],.fz .non))
  (hr:v_ [zo T e fw fh s0 0 0,.fz (.int m)]=some ([zo T e fw fh (st (wI Ws) a b c (kP ps) (vP ps)) d2 j2,.fz (.int m)],.fz (.int m))) :
  tK [.fz (.lst rs),.own (.lst (wI W))]=some ([.fz (.lst rs),.own (.lst (wI W))],.own (.lst (xP Ws a b c ps))):=by
 have ad:w8 (.lst rs) (.lst [.tup [.str "stop"]])=some (.lst (rs++[wd])):=OY (by show rs.length+1<=1000; omega)
 have fl1:vN [.lst (wI W)]=some (.lst (wI W)):=rfl
 have fl2:vN [.lst (wI Ws)]=some (.lst (wI Ws)):=rfl
 have fl3:vN [.tup [.bl a,.bl b,.bl c]]=some (.lst [.bl a,.bl b,.bl c]):=rfl
 have nm:tplDs [.bl a,.bl b,.bl c]=true:=rfl
 have ln:uF [.lst rs]=some (.int m):=by rw [<- hm]; rfl
 have rg:=Ez (T:=T) (fw:=fw) (fh:=fh) (e:=e) (due:=d2) (done:=j2) (Ws:=Ws) (a:=a) (b:=b) (c:=c) (ps:=ps)
 have mk:=DO (T:=T) (fw:=fw) (fh:=fh) (e:=e) (due:=d2) (done:=j2) (Ws:=Ws) (a:=a) (b:=b) (c:=c) (ps:=ps)
 have mm:=DX (T:=T) (fw:=fw) (fh:=fh) (e:=e) (due:=d2) (done:=j2) (Ws:=Ws) (a:=a) (b:=b) (c:=c) (ps:=ps) hp
 unfold pQ at rg mk mm
 have sf:∀ {m:Str} {o0 o1:Option Sl},m ∉ jE->u7 "RowMachine" m (z6 2) zG [o0,o1,some (false,xt T e fw fh (uC (wI Ws) a b c (kP ps) (vP ps)) d2 j2)]=some [xt T e fw fh (uC (wI Ws) a b c (kP ps) (vP ps)) d2 j2]:=fun {m o0 o1} h=>TW rfl h rfl
 have s1:=fun {o0 o1}=>sf (m := "registers") (o0:=o0) (o1:=o1) (by decide +kernel)
 have s2:=fun {o0 o1}=>sf (m := "marks") (o0:=o0) (o1:=o1) (by decide +kernel)
 have s3:=fun {o0 o1}=>sf (m := "memory") (o0:=o0) (o1:=o1) (by decide +kernel)
 have c1:=Ty (xs:=wI Ws) (ys:=[.bl a,.bl b,.bl c]) (by rw [wG]; show Ws.length+3<=1000; omega)
 have c2:=Ty (xs:=wI Ws++[.bl a,.bl b,.bl c]) (ys:=[.lst (ur ps)]) (by rw [List.length_append,wG]; show Ws.length+3+1<=1000; omega)
 have hd:∀ {s:M} {d j:Int},hide (zo T e fw fh s d j)=none:=rfl
 have hd1:hide (.own (.lst (wI W)))=none:=rfl
 have th:xh (.own (.lst (wI W)))=.lst (wI W):=rfl
 have ct:=Lf (T:=T) (fw:=fw) (fh:=fh) (e:=e) (due:=0) (done:=0) (s:=s0) (m:=m) (fa:=xw (eL uF (zA (z6 0) zG)) xU) (x0:=some (.fz (.lst rs))) (x1:=some (.own (.lst (wI W)))) (by simp! [yN,hd,hd1,hm])
 have nw:=VR W
 have nw2:=VR Ws
 rw [B2]
 unfold W1 xP
 simp! [yN,WU,Z9,ad,fl1,fl2,fl3,th,hd,hd1,ri,ct,hr,ZF,qU,WR,jN,v7,kd,v4,s1,s2,s3,rg,mk,mm,nw,nw2,nm,Dm,c1,c2]
end
end L3
namespace L3
open PySem
noncomputable def W2:FS:=
 (zb (yW 2 (e2 w8 (e2 w8 (e2 w8 (e2 ZR (zl j8 (zA (z6 0) (zA (z6 1) zG))) (eC (.int 48271))) (e2 ZQ (eC (.int 104729)) (z6 1))) (e2 ZQ (eC (.int 7919)) (eL uF (zA (z6 0) zG)))) (eC (.int 1))))
  (zu (e2 ym (e2 ZR (e2 ym (e2 Wo (z6 2) (z6 2)) (eC (.int 2147483647))) (eC (.int 2003))) (eC (.int 2147483629)))))
noncomputable def p8:List D->Option (Bool×D):=FR 2 3 W2
theorem B3 (x0 x1:D):p8 [x0,x1]=yQ 3 W2 [x0,x1]:=rfl
theorem DN {c k l:Int} {M:Nat} (hM:4<=M) (hc:xN c<=M) (k0:0<=k) (k1:k<100) (l0:0<=l) (l1:l<=63):xN (c*48271+104729*k+7919*l+1)<=M+20:=by
 have h1:=Oz hc
 have h2:2 ^ 4<=2 ^ M:=Nat.pow_le_pow_right (by decide) hM
 refine Oy ?_
 rw [Nat.pow_add]
 generalize 2 ^ M=P at h1 h2
 have h3:(2:Nat) ^ 20=1048576:=by decide
 have h4:(2:Nat) ^ 4=16:=by decide
 rw [h3]
 rw [h4] at h2
 omega
theorem VL {ns:List Int} (hl:ns.length<=63) (hb:∀ m∈ns,xN m<=1048576) {k:Int} (k0:0<=k) (k1:k<100):∃ m:Int,0<=m/\m<2147483629/\p8 [.lst (ns.map D.int),.int k]=some (false,.int m):=by
 have hc:=LX ns (k:=k) k0
 have cb:=LW hb k
 generalize gY ns k=c at hc cb
 have mb:=DN (M:=1048576) (l:=(ns.length:Int)) (by decide) cb k0 k1 (by omega) (by omega)
 have g1:decide (xN (c*48271+104729*k+7919*(ns.length:Int)+1)+xN (c*48271+104729*k+7919*(ns.length:Int)+1)<=134217728)=true:=decide_eq_true (by omega)
 have g2:qd 48271=true/\qd 104729=true/\qd 7919=true/\qd 2003=true:=⟨by decide,by decide,by decide,by decide⟩
 have ai:∀ {i j:Int},w8 (.int i) (.int j)=some (.int (i+j)):=rfl
 refine ⟨(c*48271+104729*k+7919*(ns.length:Int)+1)*(c*48271+104729*k+7919*(ns.length:Int)+1) % 2147483647*2003 % 2147483629,Int.emod_nonneg _ (by decide),Int.emod_lt_of_pos _ (by decide),?_⟩
 rw [B3]
 unfold W2
 simp only [shx,Nat.reduceAdd,Nat.reduceSub,hc,List.length_map,ai,g2,Wo,g1,decide_true,Int.reduceLT]
end L3
namespace L3
open PySem
noncomputable def Om:FS:=
 (zb (yW 0 (wL (zA (eC (.str "set")) (zA (eC (.str "high")) (zA (eC (.str "copy")) (zA (eC (.str "add")) (zA (eC (.str "addc")) (zA (eC (.str "sub")) (zA (eC (.str "subc")) (zA (eC (.str "and")) (zA (eC (.str "or")) (zA (eC (.str "xor")) (zA (eC (.str "test")) (zA (eC (.str "left")) (zA (eC (.str "right")) zG)))))))))))))))
  (zb (yW 0 (e2 w8 (z6 0) (wL (zA (eC (.str "load")) (zA (eC (.str "store")) (zA (eC (.str "loadw")) (zA (eC (.str "storew")) (zA (eC (.str "jump")) (zA (eC (.str "when")) (zA (eC (.str "unless")) (zA (eC (.str "stop")) zG)))))))))))
  (zu (e2 w8 (z6 0) (wL (zA (eC (.str "set")) (zA (eC (.str "copy")) (zA (eC (.str "add")) (zA (eC (.str "when")) (zA (eC (.str "unless")) (zA (eC (.str "test")) (zA (eC (.str "sub")) zG))))))))))))
noncomputable def gE:List D->Option (Bool×D):=FR 0 1 Om
noncomputable def tM:FS:=
 (zb (yW 3 (e2 zF (zl gE zG) (e2 ym (z6 0) (eC (.int 28)))))
  (zb (yW 0 (e2 wV (z6 0) (eC (.int 28))))
  (zb (yW 4 (e2 ym (z6 0) (z6 2)))
  (zb (yW 5 (e2 ym (e2 wV (z6 0) (eC (.int 8))) (z6 2)))
  (zb (yW 6 (e2 wV (z6 0) (eC (.int 64))))
  (zb (yg (tE (e2 yU (z6 3) (xO (zA (eC (.str "set")) (zA (eC (.str "high")) zG)))))
   (zu (xO (zA (z6 3) (zA (z6 4) (zA (e2 zF (wL (zA (e2 ym (z6 6) (eC (.int 65536))) (zA (e2 ym (z6 6) (eC (.int 3))) zG))) (e2 ym (e2 wV (z6 0) (eC (.int 32))) (eC (.int 2)))) zG)))))
   yj)
  (zb (yg (tE (e2 yU (z6 3) (xO (zA (eC (.str "left")) (zA (eC (.str "right")) zG)))))
   (zu (xO (zA (z6 3) (zA (z6 4) (zA (e2 zF (wL (zA (e2 ym (z6 6) (eC (.int 32))) (zA (e2 ym (z6 6) (eC (.int 3))) zG))) (e2 ym (e2 wV (z6 0) (eC (.int 32))) (eC (.int 2)))) zG)))))
   yj)
  (zb (yg (tE (e2 yU (z6 3) (xO (zA (eC (.str "load")) (zA (eC (.str "store")) (zA (eC (.str "loadw")) (zA (eC (.str "storew")) zG)))))))
   (zu (xO (zA (z6 3) (zA (z6 4) (zA (z6 5) (zA (e2 zF (wL (zA (e2 ym (z6 6) (eC (.int 256))) (zA (e2 ym (z6 6) (eC (.int 4))) zG))) (e2 ym (e2 wV (z6 0) (eC (.int 32))) (eC (.int 2)))) zG))))))
   yj)
  (zb (yg (tE (e2 zh (z6 3) (eC (.str "jump"))))
   (zu (xO (zA (z6 3) (zA (e2 zF (z6 1) (e2 ym (z6 6) (eL uF (zA (z6 1) zG)))) zG))))
   yj)
  (zb (yg (tE (e2 yU (z6 3) (xO (zA (eC (.str "when")) (zA (eC (.str "unless")) zG)))))
   (zu (xO (zA (z6 3) (zA (e2 zF (wL (zA (eC (.str "carry")) (zA (eC (.str "nought")) (zA (eC (.str "sign")) zG)))) (e2 ym (z6 5) (eC (.int 3)))) (zA (e2 zF (z6 1) (e2 ym (z6 6) (eL uF (zA (z6 1) zG)))) zG)))))
   yj)
  (zb (yg (tE (e2 zh (z6 3) (eC (.str "stop"))))
   (zu (xO (zA (z6 3) zG)))
   yj)
  (zu (xO (zA (z6 3) (zA (z6 4) (zA (z6 5) zG))))))))))))))))
noncomputable def j9:List D->Option (Bool×D):=FR 3 7 tM
theorem pS (x0 x1 x2:D):j9 [x0,x1,x2]=yQ 7 tM [x0,x1,x2]:=rfl
noncomputable abbrev kh:D:=.lst [.str "set",.str "high",.str "copy",.str "add",.str "addc",.str "sub",.str "subc",.str "and",.str "or",.str "xor",.str "test",.str "left",.str "right",.str "load",.str "store",.str "loadw",.str "storew",.str "jump",.str "when",.str "unless",.str "stop",.str "set",.str "copy",.str "add",.str "when",.str "unless",.str "test",.str "sub"]
theorem Kt:gE []=some (false,kh):=by rfl
noncomputable def Z8 (w:Str):Prop:=(w = "set" \/ w = "high")\/(w = "left" \/ w = "right")\/(w = "load" \/ w = "store" \/ w = "loadw" \/ w = "storew")\/(w = "copy" \/ w = "add" \/ w = "addc" \/ w = "sub" \/ w = "subc" \/ w = "and" \/ w = "or" \/ w = "xor" \/ w = "test")\/w = "jump" \/ (w = "when" \/ w = "unless")\/w = "stop"
noncomputable def OF (w:Str):Decidable (Z8 w):=by unfold Z8; infer_instance
theorem Kr:((List.range 28).all fun k:Nat=>match zF kh (.int (k:Int)) with
  | some (.str w)=>@decide (Z8 w) (OF w)
  | _=>false)=true:=by decide +kernel
theorem Ks {v:Int} (h0:0<=v) (h1:v<28):∃ w:Str,Z8 w/\zF kh (.int v)=some (.str w):=by
 have h:=List.all_eq_true.mp Kr v.toNat (List.mem_range.mpr (by omega))
 rw [Int.toNat_of_nonneg h0] at h
 generalize zF kh (.int v)=o at h ⊢
 split at h
 ·exact ⟨_,@of_decide_eq_true _ (OF _) h,rfl⟩
 ·cases h
theorem VY {a b i:Int} (h0:0<=i) (h1:i<2):∃ n,(n=a\/n=b)/\zF (.lst [.int a,.int b]) (.int i)=some (.int n):=by
 rcases (show i=0\/i=1 by omega) with rfl | rfl
 ·exact ⟨a,by simp,rfl⟩
 ·exact ⟨b,by simp,rfl⟩
theorem G9 {N:List Str} (hN:N≠[]) {m:Int} (m0:0<=m) {mn:Int} (hm:mn=3\/mn=8):∃ r,Z4 N r/\j9 [.int m,.lst (N.map D.str),.int mn]=some (false,r):=by
 obtain ⟨w,hw,ew⟩:=Ks (v:=m % 28) (by omega) (by omega)
 have wF:=Kt
 have hp:0<N.length:=List.length_pos_iff.mpr hN
 have g0:decide (0<mn)=true:=decide_eq_true (by omega)
 obtain ⟨q,hq⟩:∃ q:Int,q=m / 28:=⟨_,rfl⟩
 have o0:=Int.emod_nonneg q (show mn≠0 by omega)
 have o1:=Int.emod_lt_of_pos q (show 0<mn by omega)
 have t0:=Int.emod_nonneg (q / 8) (show mn≠0 by omega)
 have t1:=Int.emod_lt_of_pos (q / 8) (show 0<mn by omega)
 obtain ⟨one,h1⟩:∃ z:Int,z=q % mn:=⟨_,rfl⟩
 obtain ⟨two,h2⟩:∃ z:Int,z=q / 8 % mn:=⟨_,rfl⟩
 rw [<- h1] at o0 o1
 rw [<- h2] at t0 t1
 have start:∀ za:FS,zb (yW 3 (e2 zF (zl gE zG) (e2 ym (z6 0) (eC (.int 28)))))
  (zb (yW 0 (e2 wV (z6 0) (eC (.int 28))))
  (zb (yW 4 (e2 ym (z6 0) (z6 2)))
  (zb (yW 5 (e2 ym (e2 wV (z6 0) (eC (.int 8))) (z6 2)))
  (zb (yW 6 (e2 wV (z6 0) (eC (.int 64)))) za)))) [some (false,.int m),some (false,.lst (N.map D.str)),some (false,.int mn),none,none,none,none]=za [some (false,.int q),some (false,.lst (N.map D.str)),some (false,.int mn),some (false,.str w),some (false,.int one),some (false,.int two),some (false,.int (q / 64))]:=fun za=>by
  generalize N.map D.str=NN at *
  rw [kR (σ':=[some (false,.int m),some (false,.lst NN),some (false,.int mn),some (false,.str w),none,none,none]) (by
   generalize kh=WD at *
   simp! [wF,ew])]
  rw [kR (σ':=[some (false,.int q),some (false,.lst NN),some (false,.int mn),some (false,.str w),none,none,none]) (by simp! [<- hq])]
  rw [kR (σ':=[some (false,.int q),some (false,.lst NN),some (false,.int mn),some (false,.str w),some (false,.int one),none,none]) (by simp! [g0,<- h1])]
  rw [kR (σ':=[some (false,.int q),some (false,.lst NN),some (false,.int mn),some (false,.str w),some (false,.int one),some (false,.int two),none]) (by simp! [g0,<- h2])]
  rw [kR (σ':=[some (false,.int q),some (false,.lst NN),some (false,.int mn),some (false,.str w),some (false,.int one),some (false,.int two),some (false,.int (q / 64))]) (by simp! [])]
 have nm:∃ t∈N,zF (.lst (N.map D.str)) (.int (q / 64 % (N.length:Int)))=some (.str t):=by
  have a0:=Int.emod_nonneg (q / 64) (show (N.length:Int)≠0 by omega)
  have a1:=Int.emod_lt_of_pos (q / 64) (show 0<(N.length:Int) by omega)
  have hv:(q / 64 % (N.length:Int)).toNat<N.length:=by omega
  exact ⟨N[(q / 64 % (N.length:Int)).toNat],List.getElem_mem hv,Oe a0 (by rw [List.getElem?_map,List.getElem?_eq_getElem hv]; rfl)⟩
 obtain ⟨t,ht,et⟩:=nm
 have gN:decide (0<(N.length:Int))=true:=decide_eq_true (by omega)
 rcases hw with hw | hw | hw | hw | hw | hw | hw
 ·obtain ⟨n,hn,en⟩:=VY (a:=q / 64 % 65536) (b:=q / 64 % 3) (i:=q / 32 % 2) (by omega) (by omega)
  have k1:yU (.str w) (.tup [.str "set",.str "high"])=some (.bl true):=by rcases hw with rfl | rfl<;>rfl
  refine ⟨_,.plain (.imm hw o0 (by omega) (show 0<=n by omega) (by omega)),?_⟩
  rw [pS]
  unfold tM
  show ((zb _ _ [some (false,.int m),some (false,.lst (N.map D.str)),some (false,.int mn),none,none,none,none]).bind _)=_
  rw [start]
  simp! [k1,en]
 ·obtain ⟨n,hn,en⟩:=VY (a:=q / 64 % 32) (b:=q / 64 % 3) (i:=q / 32 % 2) (by omega) (by omega)
  have k1:yU (.str w) (.tup [.str "set",.str "high"])=some (.bl false):=by rcases hw with rfl | rfl<;>rfl
  have k2:yU (.str w) (.tup [.str "left",.str "right"])=some (.bl true):=by rcases hw with rfl | rfl<;>rfl
  refine ⟨_,.plain (.mov hw o0 (by omega) (show 0<=n by omega) (by omega)),?_⟩
  rw [pS]
  unfold tM
  show ((zb _ _ [some (false,.int m),some (false,.lst (N.map D.str)),some (false,.int mn),none,none,none,none]).bind _)=_
  rw [start]
  simp! [k1,k2,en]
 ·obtain ⟨n,hn,en⟩:=VY (a:=q / 64 % 256) (b:=q / 64 % 4) (i:=q / 32 % 2) (by omega) (by omega)
  have k1:yU (.str w) (.tup [.str "set",.str "high"])=some (.bl false):=by rcases hw with rfl | rfl | rfl | rfl<;>rfl
  have k2:yU (.str w) (.tup [.str "left",.str "right"])=some (.bl false):=by rcases hw with rfl | rfl | rfl | rfl<;>rfl
  have k3:yU (.str w) (.tup [.str "load",.str "store",.str "loadw",.str "storew"])=some (.bl true):=by rcases hw with rfl | rfl | rfl | rfl<;>rfl
  refine ⟨_,.plain (.mem hw o0 (by omega) t0 (by omega) (show 0<=n by omega) (by omega)),?_⟩
  rw [pS]
  unfold tM
  show ((zb _ _ [some (false,.int m),some (false,.lst (N.map D.str)),some (false,.int mn),none,none,none,none]).bind _)=_
  rw [start]
  simp! [k1,k2,k3,en]
 ·have k:yU (.str w) (.tup [.str "set",.str "high"])=some (.bl false)/\yU (.str w) (.tup [.str "left",.str "right"])=some (.bl false)/\yU (.str w) (.tup [.str "load",.str "store",.str "loadw",.str "storew"])=some (.bl false)/\zh (.str w) (.str "jump")=some (.bl false)/\yU (.str w) (.tup [.str "when",.str "unless"])=some (.bl false)/\zh (.str w) (.str "stop")=some (.bl false):=by
   rcases hw with rfl | rfl | rfl | rfl | rfl | rfl | rfl | rfl | rfl<;>exact ⟨rfl,rfl,rfl,rfl,rfl,rfl⟩
  obtain ⟨k1,k2,k3,k4,k5,k6⟩:=k
  refine ⟨_,.plain (.two hw o0 (by omega) t0 (by omega)),?_⟩
  rw [pS]
  unfold tM
  show ((zb _ _ [some (false,.int m),some (false,.lst (N.map D.str)),some (false,.int mn),none,none,none,none]).bind _)=_
  rw [start]
  simp! [k1,k2,k3,k4,k5,k6]
 ·subst hw
  have k:yU (.str "jump") (.tup [.str "set",.str "high"])=some (.bl false)/\yU (.str "jump") (.tup [.str "left",.str "right"])=some (.bl false)/\yU (.str "jump") (.tup [.str "load",.str "store",.str "loadw",.str "storew"])=some (.bl false)/\zh (.str "jump") (.str "jump")=some (.bl true):=⟨rfl,rfl,rfl,rfl⟩
  obtain ⟨k1,k2,k3,k4⟩:=k
  refine ⟨_,.jump ht,?_⟩
  rw [pS]
  unfold tM
  show ((zb _ _ [some (false,.int m),some (false,.lst (N.map D.str)),some (false,.int mn),none,none,none,none]).bind _)=_
  rw [start]
  simp! [k1,k2,k3,k4,List.length_map,gN,et]
 ·have k:yU (.str w) (.tup [.str "set",.str "high"])=some (.bl false)/\yU (.str w) (.tup [.str "left",.str "right"])=some (.bl false)/\yU (.str w) (.tup [.str "load",.str "store",.str "loadw",.str "storew"])=some (.bl false)/\zh (.str w) (.str "jump")=some (.bl false)/\yU (.str w) (.tup [.str "when",.str "unless"])=some (.bl true):=by
   rcases hw with rfl | rfl<;>exact ⟨rfl,rfl,rfl,rfl,rfl⟩
  obtain ⟨k1,k2,k3,k4,k5⟩:=k
  obtain ⟨kk,hk,ek⟩:∃ k:Str,(k = "carry" \/ k = "nought" \/ k = "sign")/\zF (.lst [.str "carry",.str "nought",.str "sign"]) (.int (two % 3))=some (.str k):=by
   rcases (show two % 3=0\/two % 3=1\/two % 3=2 by omega) with h | h | h<;>rw [h]
   ·exact ⟨"carry",by simp,rfl⟩
   ·exact ⟨"nought",by simp,rfl⟩
   ·exact ⟨"sign",by simp,rfl⟩
  refine ⟨_,.cond hw hk ht,?_⟩
  rw [pS]
  unfold tM
  show ((zb _ _ [some (false,.int m),some (false,.lst (N.map D.str)),some (false,.int mn),none,none,none,none]).bind _)=_
  rw [start]
  simp! [k1,k2,k3,k4,k5,List.length_map,gN,et,ek]
 ·subst hw
  have k:yU (.str "stop") (.tup [.str "set",.str "high"])=some (.bl false)/\yU (.str "stop") (.tup [.str "left",.str "right"])=some (.bl false)/\yU (.str "stop") (.tup [.str "load",.str "store",.str "loadw",.str "storew"])=some (.bl false)/\zh (.str "stop") (.str "jump")=some (.bl false)/\yU (.str "stop") (.tup [.str "when",.str "unless"])=some (.bl false)/\zh (.str "stop") (.str "stop")=some (.bl true):=⟨rfl,rfl,rfl,rfl,rfl,rfl⟩
  obtain ⟨k1,k2,k3,k4,k5,k6⟩:=k
  refine ⟨_,.plain .stop,?_⟩
  rw [pS]
  unfold tM
  show ((zb _ _ [some (false,.int m),some (false,.lst (N.map D.str)),some (false,.int mn),none,none,none,none]).bind _)=_
  rw [start]
  simp! [k1,k2,k3,k4,k5,k6]
end L3
namespace L3
open PySem
noncomputable def VB:FS:=(zb (yW 4 (zl p8 (zA (z6 0) (zA (e2 w8 (z6 1) (z6 3)) zG))))
    (Y0 2 Wk (e2 zF (wL (zA (e2 ym (z6 4) (eC (.int 4294967296))) (zA (e2 ym (z6 4) (eC (.int 3))) (zA (e2 uG (eC (.int 4294967295)) (e2 ym (e2 wV (z6 4) (eC (.int 4))) (eC (.int 3)))) (zA (e2 ym (e2 wV (z6 4) (eC (.int 4))) (eC (.int 70000))) zG))))) (e2 ym (z6 4) (eC (.int 4))))))
noncomputable def W3:FS:=
 (zb (jp 2 (wL zG))
  (zb (jo (ui (eC (.int 0)) (eC (.int 8))) (yp 3)
   VB)
  (qi 2)))
noncomputable def gD:List D->Option (Bool×D):=FR 2 5 W3
theorem B4 (x0 x1:D):gD [x0,x1]=yQ 5 W3 [x0,x1]:=rfl
noncomputable def V9:zj:=(um (uU (kZ (tE (e2 zh (e2 (xI Builtin.bitAnd) (e2 qY (zl jA (zA (z6 1) zG)) (z6 7)) (eC (.int 1))) (eC (.int 0)))) (tE (e2 wm (e2 zF (z6 6) (z6 7)) (e2 zF (z6 5) (z6 7))))))
     (uI (yl (eC (.bl false))))
     uo)
noncomputable def VA:zj:=(um (uU (kZ (tE (e2 zh (e2 (xI Builtin.bitAnd) (e2 qY (zl jA (zA (z6 1) zG)) (z6 7)) (eC (.int 1))) (eC (.int 1)))) (tE (e2 wm (e2 zF (z6 9) (z6 7)) (e2 zF (z6 6) (z6 7))))))
     (uI (yl (eC (.bl false))))
     uo)
noncomputable def gW:zj:=
 (yD (wA 1 (yl (zl j9 (zA (zl p8 (zA (z6 0) (zA (eC (.int 0)) zG))) (zA (wL (zA (eC (.str "a")) zG)) (zA (eC (.int 8)) zG))))))
  (yD (um (uU (tE (e2 yU (e2 zF (z6 1) (eC (.int 0))) (xO (zA (eC (.str "jump")) (zA (eC (.str "when")) (zA (eC (.str "unless")) (zA (eC (.str "stop")) zG))))))))
   (uI (yl (eC (.bl true))))
   uo)
  (yD (wA 2 (jM (wK gD (zA (z6 0) (zA (eC (.int 1)) zG)))))
  (yD (wA 3 (yl (zl p8 (zA (z6 0) (zA (eC (.int 9)) zG)))))
  (yD (wA 4 (yl (xO (zA (eC (.str "test")) (zA (e2 ym (z6 3) (eC (.int 8))) (zA (e2 ym (e2 wV (z6 3) (eC (.int 8))) (eC (.int 8))) zG))))))
  (yD (wA 5 (wg tK (xw (wL (zA (z6 4) zG)) (wU 2 [] xU))))
  (yD (wA 6 (wg tK (xw (wL (zA (z6 4) (zA (z6 1) zG))) (wU 2 [] xU))))
  (yD (gu (ui (eC (.int 0)) (eC (.int 11))) (ja 7)
   V9)
  (yD (wA 8 (yl (e2 ym (e2 wV (z6 3) (eC (.int 64))) (eC (.int 8)))))
  (yD (um (uU (tE (e2 zh (e2 (xI Builtin.bitAnd) (e2 qY (e2 (xI Builtin.bitOr) (zl jD (zA (z6 1) zG)) (zl jD (zA (z6 4) zG))) (z6 8)) (eC (.int 1))) (eC (.int 1)))))
   (uI (yl (eC (.bl true))))
   uo)
  (yD (uJ 2 [] (z6 8) (vK (e2 (xI Builtin.bitXor) (e2 zF (z6 2) (z6 8)) (e2 xJ (eC (.int 1)) (e2 ym (e2 wV (z6 3) (eC (.int 512))) (eC (.int 32)))))))
  (yD (wA 9 (wg tK (xw (wL (zA (z6 4) (zA (z6 1) zG))) (wU 2 [] xU))))
  (yD (gu (ui (eC (.int 0)) (eC (.int 11))) (ja 7)
   VA)
  (uI (vK (e2 zh (e2 zF (z6 9) (eC (.int 11))) (e2 zF (z6 6) (eC (.int 11)))))))))))))))))))
noncomputable def kr:FM:=xS 1 10 gW
theorem Wz (x0:M):kr [x0]=yq 1 10 gW [x0]:=rfl
theorem M8 {d s:Nat} (hd:d<8) (hs:s<8):qt (.tup [.str "test",.int (d:Int),.int (s:Int)]) [d,s] none true true:=by
 refine ⟨vX (al (al Q2 (List.mem_range.mpr hd)) (List.mem_range.mpr hs)),lt2 hd hs,nofun,fun _=>rfl,rfl,rfl,⟨rfl,rfl⟩,fun V a b c ps hv P hp=>?_⟩
 obtain ⟨x0,x1⟩:=hv d hd
 obtain ⟨y0,y1⟩:=hv s hs
 obtain ⟨t,u,s1⟩:=Iy (a:=a) .test x0 x1 y0 y1
 have w0:0<=t % 4294967296:=Int.emod_nonneg _ (by decide)
 have w1:t % 4294967296<4294967296:=Int.emod_lt_of_pos _ (by decide)
 generalize t % 4294967296=w at s1 w0 w1
 refine ⟨w,u,decide (w=0),decide (w / 2147483648 % 2=1),ps,w0,w1,P,by omega,nofun,nofun,nofun,fun Ws hl hR=>?_⟩
 exact uB (k := "test") rfl rfl wc rfl rfl (QF (b:=b) (c:=c) (hk:=kP ps) (hv:=vP ps) (hR d (by simp)) (hR s (by simp)) s1 qh)
theorem EG {r:D} (h:pH r):r=wd\/ve r:=by
 have nt:∀ {d:Int},0<=d->∃ n:Nat,d=(n:Int):=fun {d} h=>⟨d.toNat,by omega⟩
 cases h with
 | stop=>exact .inl rfl
 | imm hw d0 d1 n0 n1=>
  obtain ⟨k,rfl⟩:=nt d0
  rcases hw with rfl | rfl
  ·exact .inr (.set (by omega) n0 n1)
  ·exact .inr (.high (by omega) n0 n1)
 | two hw d0 d1 s0 s1=>
  obtain ⟨k,rfl⟩:=nt d0
  obtain ⟨j,rfl⟩:=nt s0
  rcases hw with rfl | rfl | rfl | rfl | rfl | rfl | rfl | rfl | rfl
  ·exact .inr (.copy (by omega) (by omega))
  ·exact .inr (.sum .add (by omega) (by omega))
  ·exact .inr (.sum .addc (by omega) (by omega))
  ·exact .inr (.sum .sub (by omega) (by omega))
  ·exact .inr (.sum .subc (by omega) (by omega))
  ·exact .inr (.bits .and (by omega) (by omega))
  ·exact .inr (.bits .or (by omega) (by omega))
  ·exact .inr (.bits .xor (by omega) (by omega))
  ·exact .inr (.sum .test (by omega) (by omega))
 | mov hw d0 d1 n0 n1=>
  obtain ⟨k,rfl⟩:=nt d0
  obtain ⟨j,rfl⟩:=nt n0
  rcases hw with rfl | rfl
  ·exact .inr (.left (by omega) (by omega))
  ·exact .inr (.right (by omega) (by omega))
 | mem hw d0 d1 s0 s1 n0 n1=>
  obtain ⟨k,rfl⟩:=nt d0
  obtain ⟨j,rfl⟩:=nt s0
  rcases hw with rfl | rfl | rfl | rfl
  ·exact .inr (.mem .load (by omega) (by omega) n0 n1)
  ·exact .inr (.mem .store (by omega) (by omega) n0 n1)
  ·exact .inr (.mem .loadw (by omega) (by omega) n0 n1)
  ·exact .inr (.mem .storew (by omega) (by omega) n0 n1)
theorem OO {r:D} (h:ve r):∃ w:Str,zF r (.int 0)=some (.str w)/\yU (.str w) (.tup [.str "jump",.str "when",.str "unless",.str "stop"])=some (.bl false):=by
 cases h with
 | sum h=>cases h<;>exact ⟨_,rfl,rfl⟩
 | bits h=>cases h<;>exact ⟨_,rfl,rfl⟩
 | mem h=>cases h<;>exact ⟨_,rfl,rfl⟩
 | _=>exact ⟨_,rfl,rfl⟩
theorem Jf:uY wd:=⟨rfl,rfl⟩
section
variable {W:List Int}
noncomputable def vW (W:List Int) (k:Nat):Int:=W.getD k 0
theorem py (hl:W.length=8) {k:Nat} (hk:k<8):W[k]?=some (vW W k):=by
 unfold vW
 rw [List.getD_eq_getElem?_getD,List.getElem?_eq_getElem (by omega)]
 rfl
theorem Kl (hl:W.length=8) (hw:∀ w∈W,0<=w/\w<4294967296):∀ k,k<8->0<=vW W k/\vW W k<4294967296:=fun k hk=>by
 have e:=py hl hk
 exact hw _ (List.mem_of_getElem? e)
noncomputable def TT (rows:List D):D:=.dic (wQ rows.length) (t9 rows (rows.map fun _=>.non) rows.length)
theorem Be {rows:List D} {k:Nat} (h:k<rows.length):zF (TT rows) (.int (k:Int))=some (.tup [rows.getD k .non,.int ((k:Int)+1),.non]):=by
 unfold TT
 rw [KG h]
 have:(rows.map fun _=>D.non).getD k .non=.non:=by
  rw [List.getD_eq_getElem?_getD,List.getElem?_map]
  cases rows[k]?<;>rfl
 rw [this]
theorem IQ {rows:List D} (h:∀ r∈rows,uY r) (h10:rows.length<=10) (hl:W.length=8) (hw:∀ w∈W,0<=w/\w<4294967296):uX [.obj "RowMachine" [] [],.fz (.lst rows),.fz (.lst (wI W)),.fz .non]=some ([zo (TT rows) rows.length (.lst (wI W)) (.dic (kP []) (vP [])) (st (wI W) false false false (kP []) (vP [])) 0 0,.fz (.lst rows),.fz (.lst (wI W)),.fz .non],.fz .non):=
 G8 (ps:=[]) (IR h) (KF h) (by rw [List.length_map]) (by omega) hl hw rfl
theorem Ur {rows:List D} {fw fh:D} {i:Nat} {j:Int} {r:D} {R:List Nat} {o:Option Nat} {pc pn:Bool} {V:Nat->Int} {a b c a' b' c':Bool} {ps ps':List (Int×Int)} {w:Int} {Ws:List Int} (E:qt r R o pc pn) (F:jx r R o pc pn V a b c ps w a' b' c' ps') (hi:i<rows.length) (he:rows.getD i .non=r) (hl:Ws.length=8) (hR:∀ k∈R,Ws[k]?=some (V k)) :
  wH [zo (TT rows) rows.length fw fh (st (wI Ws) a b c (kP ps) (vP ps)) i j]=some ([zo (TT rows) rows.length fw fh (st (wI (xQ o w Ws)) a' b' c' (kP ps') (vP ps')) ((i:Int)+1) (j+1)],.fz (.bl true)):=by
 have ht:=Be hi
 rw [he] at ht
 exact He (d2:=(i:Int)+1) (by omega) ht E.st (by show (xo r&&_)=true; rw [E.tp]; rfl) wc (F.dr Ws hl hR) false (E.ld _) rfl
end
noncomputable def elt (Ws:List Int) (a b c:Bool) (k:Nat):D:=if k<8 then .int (vW Ws k) else if k=8 then .bl a else if k=9 then .bl b else .bl c
theorem ZJ {Ws:List Int} {a b c:Bool} {ps:List (Int×Int)} (hl:Ws.length=8) {k:Nat} (hk:k<11):zF (.lst (xP Ws a b c ps)) (.int (k:Int))=some (elt Ws a b c k):=by
 show xj (xP Ws a b c ps) (k:Int)=_
 unfold xj elt xP
 rw [if_pos (Int.natCast_nonneg k),Int.toNat_natCast]
 have lw:(wI Ws).length=8:=by rw [wG,hl]
 by_cases z:k<8
 ·rw [if_pos z,List.append_assoc,List.getElem?_append_left (by omega)]
  unfold wI
  rw [List.getElem?_map,py hl z]
  rfl
 ·rw [if_neg z,List.append_assoc,List.getElem?_append_right (by omega),lw]
  rcases (show k=8\/k=9\/k=10 by omega) with rfl | rfl | rfl<;>rfl
theorem JI {Ws:List Int} {a b c:Bool} {ps:List (Int×Int)} (hl:Ws.length=8):zF (.lst (xP Ws a b c ps)) (.int 11)=some (.lst (ur ps)):=by
 show xj (xP Ws a b c ps) ((11:Nat):Int)=_
 unfold xj xP
 have lw:(wI Ws).length=8:=by rw [wG,hl]
 rw [if_pos (Int.natCast_nonneg 11),Int.toNat_natCast,List.append_assoc,List.getElem?_append_right (by omega),lw]
 rfl
theorem QH {Ws:List Int} {a b c:Bool} {k:Nat}:wm (elt Ws a b c k) (elt Ws a b c k)=some (.bl false):=by
 unfold elt
 split
 ·exact VQ rfl
 ·split
  ·exact VQ rfl
  ·split<;>exact VQ rfl
theorem Ox {P k:Nat}:xI Builtin.bitAnd (.int ((P:Int) / 2 ^ k)) (.int 1)=some (.int ((P.testBit k).toNat:Int)):=by
 have e:=VU ((P:Int) / 2 ^ k) 1
 show some (D.int (Builtin.bitAnd ((P:Int) / 2 ^ k) 1))=_
 congr 2
 rw [show (1:Int)=1*2 ^ 1 - 1 by decide,e]
 have h:P / 2 ^ k % 2=(P.testBit k).toNat:=by
  rw [Nat.testBit_eq_decide_div_mod_eq]
  rcases Nat.mod_two_eq_zero_or_one (P / 2 ^ k) with h | h<;>rw [h]<;>rfl
 rw [<- h]
 push_cast
 rfl
end L3
namespace L3
open PySem
theorem E_ {ns:List Int} (hl:ns.length<=63) (hb:∀ m∈ns,xN m<=1048576):∃ W:List Int,gD [.lst (ns.map D.int),.int 1]=some (true,.lst (wI W))/\W.length=8/\∀ w∈W,0<=w/\w<4294967296:=by
 have r8:∀ τ:zr,ui (eC (.int 0)) (eC (.int 8)) τ=some (vx 8):=fun τ=>Vj (n:=8) rfl (by decide)
 obtain ⟨σ',e1,W,x3,x4,lW,hW,rfl⟩:=Zh (g:=yp 3) (b:=VB) (fun i σ=>∃ (W:List Int) (x3 x4:Option Sl),W.length=i/\(∀ w∈W,0<=w/\w<4294967296)/\σ=[some (false,.lst (ns.map D.int)),some (false,.int 1),some (true,.lst (wI W)),x3,x4])
  (ds:=vx 8) (σ:=[some (false,.lst (ns.map D.int)),some (false,.int 1),some (true,.lst []),none,none]) 0 ⟨[],none,none,rfl,fun _ h=>absurd h (by simp),rfl⟩ fun i d σ hd hp=>by
   obtain ⟨W,x3,x4,lW,hW,rfl⟩:=hp
   rw [Nat.zero_add] at lW ⊢
   obtain ⟨hi,rfl⟩:=T1 hd
   obtain ⟨m,m0,m1,em⟩:=VL hl hb (k:=1+(i:Int)) (by omega) (by omega)
   obtain ⟨v,ev,v0,v1⟩:∃ v:Int,zF (.lst [.int (m % 4294967296),.int (m % 3),.int (4294967295 - m / 4 % 3),.int (m / 4 % 70000)]) (.int (m % 4))=some (.int v)/\0<=v/\v<4294967296:=by
    rcases (show m % 4=0\/m % 4=1\/m % 4=2\/m % 4=3 by omega) with h | h | h | h<;>rw [h]<;>exact ⟨_,rfl,by omega,by omega⟩
   have ap:Wk (.lst (wI W)) (.int v)=some (.lst (wI (W++[v]))):=by
    show (if (wI W).length<yP then some (D.lst (wI W++[_])) else none)=_
    rw [if_pos (by rw [wG]; show _<16777216; omega)]
    unfold wI
    rw [List.map_append]
    rfl
   refine ⟨_,[some (false,.lst (ns.map D.int)),some (false,.int 1),some (true,.lst (wI (W++[v]))),some (false,.int (i:Int)),some (false,.int m)],rfl,.inl ?_,W++[v],_,_,by rw [List.length_append,lW]; rfl,fun w hw=>?_,rfl⟩
   ·unfold VB
    generalize ns.map D.int=NS at *
    simp! [add_int,em,ev,ap,decide_true,Bool.and_self]
   ·rcases List.mem_append.mp hw with hw | hw
    ·exact hW w hw
    ·cases List.mem_singleton.mp hw
     exact ⟨v0,v1⟩
 have lu:(vx 8).length=8:=by rw [List.length_map,List.length_range]
 rw [Nat.zero_add,lu] at lW
 refine ⟨W,?_,lW,hW⟩
 rw [B4]
 unfold W3
 simp! [r8,e1]
end L3
namespace L3
open PySem
theorem WL {P k:Nat}:Builtin.bitAnd ((P:Int) / 2 ^ k) 1=((P.testBit k).toNat:Int):=by
 have e:=Ox (P:=P) (k:=k)
 exact D.int.inj (Option.some.inj (show some (D.int (Builtin.bitAnd ((P:Int) / 2 ^ k) 1))=some (D.int ((P.testBit k).toNat:Int)) from e))
theorem EI:pI []:=⟨fun _ h=>absurd h (by simp),fun _ h=>absurd h (by simp),by simp⟩
section
variable {W X:List Int} {r tD:D} {R Rt:List Nat} {o:Option Nat} {pc pn pct pnt:Bool} {a1 b1 c1 a2 b2 c2:Bool} {ps1 ps2:List (Int×Int)} {w wt:Int}
theorem DC (Et:qt tD Rt none pct pnt) (Ft:jx tD Rt none pct pnt (vW W) false false false [] wt a1 b1 c1 ps1) (lX:X.length=8) (hX:∀ x∈X,0<=x/\x<4294967296) (g1:∀ k∈Rt,X[k]?=some (vW W k)) :
  tK [.fz (.lst [tD]),.own (.lst (wI X))]=some ([.fz (.lst [tD]),.own (.lst (wI X))],.own (.lst (xP X a1 b1 c1 ps1))):=by
 have hp:=Ft.l
 have pl:∀ r∈[tD,wd],uY r:=fun r hr=>by
  rcases List.mem_cons.mp hr with rfl | hr
  ·exact Et.pl
  ·cases List.mem_singleton.mp hr
   exact Jf
 have ri:=IQ pl (by show 2<=10; decide) lX hX
 have h1:wH [zo (TT [tD,wd]) 2 (.lst (wI X)) (.dic (kP []) (vP [])) (st (wI X) false false false (kP []) (vP [])) 0 0]=some ([zo (TT [tD,wd]) 2 (.lst (wI X)) (.dic (kP []) (vP [])) (st (wI X) a1 b1 c1 (kP ps1) (vP ps1)) 1 1],.fz (.bl true)):=Ur (rows:=[tD,wd]) (i:=0) (j:=0) Et Ft (by show 0<2; decide) rfl lX g1
 exact J7 (rs:=[tD]) (m:=1) lX (by show _<64; simp at hp; omega) rfl (by show 1<=10; decide) ri (GA h1)
theorem J6 (Et:qt tD Rt none pct pnt) (Ft:jx tD Rt none pct pnt (vW W) false false false [] wt a1 b1 c1 ps1) (E:qt r R o pc pn) (F:jx r R o pc pn (vW W) a1 b1 c1 ps1 w a2 b2 c2 ps2) (lX:X.length=8) (hX:∀ x∈X,0<=x/\x<4294967296) (g1:∀ k∈Rt,X[k]?=some (vW W k)) (g2:∀ k∈R,X[k]?=some (vW W k)) :
  tK [.fz (.lst [tD,r]),.own (.lst (wI X))]=some ([.fz (.lst [tD,r]),.own (.lst (wI X))],.own (.lst (xP (xQ o w X) a2 b2 c2 ps2))):=by
 have hp:=Ft.l
 have hp2:=F.l
 have pl:∀ x∈[tD,r,wd],uY x:=fun x hr=>by
  rcases List.mem_cons.mp hr with rfl | hr
  ·exact Et.pl
  ·rcases List.mem_cons.mp hr with rfl | hr
   ·exact E.pl
   ·cases List.mem_singleton.mp hr
    exact Jf
 have ri:=IQ pl (by show 3<=10; decide) lX hX
 have h1:wH [zo (TT [tD,r,wd]) 3 (.lst (wI X)) (.dic (kP []) (vP [])) (st (wI X) false false false (kP []) (vP [])) 0 0]=some ([zo (TT [tD,r,wd]) 3 (.lst (wI X)) (.dic (kP []) (vP [])) (st (wI X) a1 b1 c1 (kP ps1) (vP ps1)) 1 1],.fz (.bl true)):=Ur (rows:=[tD,r,wd]) (i:=0) (j:=0) Et Ft (by show 0<3; decide) rfl lX g1
 have h2:wH [zo (TT [tD,r,wd]) 3 (.lst (wI X)) (.dic (kP []) (vP [])) (st (wI X) a1 b1 c1 (kP ps1) (vP ps1)) 1 1]=some ([zo (TT [tD,r,wd]) 3 (.lst (wI X)) (.dic (kP []) (vP [])) (st (wI (xQ o w X)) a2 b2 c2 (kP ps2) (vP ps2)) 2 2],.fz (.bl true)):=Ur (rows:=[tD,r,wd]) (i:=1) (j:=1) E F (by show 1<3; decide) rfl lX g2
 have lp:(xQ o w X).length=8:=by
  unfold xQ
  split
  ·rw [List.length_set]; exact lX
  ·exact lX
 exact J7 (rs:=[tD,r]) (m:=2) lp (by show _<64; simp at hp; omega) rfl (by show 2<=10; decide) ri (GB h1 h2)
end
theorem Ta {d:D} {i:Nat} {π:List yY}:u9 (.own d) i π=.p i π:=rfl
theorem Fp {ps:List (Int×Int)}:tZ 6 (.lst (ur ps))=true:=List.all_eq_true.mpr fun d hd=>by
 unfold ur at hd
 obtain ⟨x,_,rfl⟩:=List.mem_map.mp hd
 rfl
theorem Km {W:List Int} {o:Option Nat} {w:Int} {k:Nat} (h:o≠some k):vW (xQ o w W) k=vW W k:=by
 unfold vW xQ
 split
 ·rename_i d
  rw [List.getD_eq_getElem?_getD,List.getD_eq_getElem?_getD,List.getElem?_set_ne (fun z=>h (by rw [z]))]
 ·rfl
theorem OA {W:List Int} {w:Int} {k:Nat} (h:k<W.length):vW (xQ (some k) w W) k=w:=by
 unfold vW xQ
 rw [List.getD_eq_getElem?_getD,List.getElem?_set_self h]
 rfl
theorem GC:∀ ns:List Int,ns.length<=63->(∀ m∈ns,xN m<=1048576)->∃ r,kr [.fz (.lst (ns.map D.int))]=some (r,.fz (.bl true)):=fun ns hl hb=>by
 obtain ⟨m0,m00,m01,em0⟩:=VL hl hb (k:=0) (by decide) (by decide)
 obtain ⟨m9,m90,m91,em9⟩:=VL hl hb (k:=9) (by decide) (by decide)
 obtain ⟨r,hr,er⟩:=G9 (N:=["a"]) (by simp) m00 (mn:=8) (.inr rfl)
 have er':j9 [.int m0,.lst [.str "a"],.int 8]=some (false,r):=er
 obtain ⟨W,eW,lW,hW⟩:=E_ hl hb
 refine ⟨[.fz (.lst (ns.map D.int))],?_⟩
 generalize ns.map D.int=NS at *
 have early:∀ w:Str,zF r (.int 0)=some (.str w)->yU (.str w) (.tup [.str "jump",.str "when",.str "unless",.str "stop"])=some (.bl true)->kr [.fz (.lst NS)]=some ([.fz (.lst NS)],.fz (.bl true)):=fun w w1 w2=>by
  rw [Wz]
  unfold gW
  simp! [yN,em0,er',w1,w2]
 have main:ve r->kr [.fz (.lst NS)]=some ([.fz (.lst NS)],.fz (.bl true)):=fun h2=>by
  obtain ⟨w0,w1,w2⟩:=OO h2
  obtain ⟨R,o,pc,pn,E⟩:=M7 h2
  obtain ⟨U,Pt,up⟩:=E.up
  obtain ⟨dn,ed,hd⟩:∃ dn:Nat,m9 % 8=(dn:Int)/\dn<8:=⟨(m9 % 8).toNat,by omega,by omega⟩
  obtain ⟨sn,es,hs⟩:∃ sn:Nat,m9 / 8 % 8=(sn:Int)/\sn<8:=⟨(m9 / 8 % 8).toNat,by omega,by omega⟩
  obtain ⟨an,ea,ha⟩:∃ an:Nat,m9 / 64 % 8=(an:Int)/\an<8:=⟨(m9 / 64 % 8).toNat,by omega,by omega⟩
  obtain ⟨fn,ef,hf⟩:∃ fn:Nat,m9 / 512 % 32=(fn:Int)/\fn<32:=⟨(m9 / 512 % 32).toNat,by omega,by omega⟩
  have Et:=M8 hd hs
  obtain ⟨Ut,Ptt,upt⟩:=Et.up
  generalize htD:D.tup [.str "test",.int (dn:Int),.int (sn:Int)]=tD at *
  have vin:=Kl lW hW
  obtain ⟨wt,a1,b1,c1,ps1,Ft⟩:=Et.ef (vW W) false false false [] vin EI (by decide)
  have hp1:=Ft.l
  obtain ⟨w,a2,b2,c2,ps2,Fr⟩:=E.ef (vW W) a1 b1 c1 ps1 vin Ft.P (by simp at hp1; omega)
  have lA:=DC Et Ft lW hW (fun k hk=>py lW (Et.r8 k hk))
  have lB:=J6 Et Ft E Fr lW hW (fun k hk=>py lW (Et.r8 k hk)) (fun k hk=>py lW (E.r8 k hk))
  have lP:∀ {X:List Int},X.length=8->(xQ o w X).length=8:=fun {X} lX=>by
   unfold xQ
   split
   ·rw [List.length_set]; exact lX
   ·exact lX
  have r11:∀ τ:zr,ui (eC (.int 0)) (eC (.int 11)) τ=some (vx 11):=fun τ=>Vj (n:=11) rfl (by decide)
  have th:∀ d:D,xh (.own d)=d:=fun _=>rfl
  have hh:∀ d:D,hide (.own d)=none:=fun _=>rfl
  have b0:∀ {b:Bool},zh (.int (b.toNat:Int)) (.int 0)=some (.bl (!b)):=fun {b}=>by cases b<;>rfl
  have b1':∀ {b:Bool},zh (.int (b.toNat:Int)) (.int 1)=some (.bl b):=fun {b}=>by cases b<;>rfl
  obtain ⟨β1,e1,x7,rfl⟩:=VH (g:=ja 7) (b:=V9) (fun i β=>∃ x7:Option M,β=[some (.fz (.lst NS)),some (.fz r),some (.own (.lst (wI W))),some (.fz (.int m9)),some (.fz tD),some (.own (.lst (xP W a1 b1 c1 ps1))),some (.own (.lst (xP (xQ o w W) a2 b2 c2 ps2))),x7,none,none])
   (ds:=vx 11) (β:=[some (.fz (.lst NS)),some (.fz r),some (.own (.lst (wI W))),some (.fz (.int m9)),some (.fz tD),some (.own (.lst (xP W a1 b1 c1 ps1))),some (.own (.lst (xP (xQ o w W) a2 b2 c2 ps2))),none,none,none]) 0 ⟨none,rfl⟩ fun i d β hd' hp=>by
    obtain ⟨x7,rfl⟩:=hp
    obtain ⟨hi,rfl⟩:=T1 hd'
    refine ⟨_,[some (.fz (.lst NS)),some (.fz r),some (.own (.lst (wI W))),some (.fz (.int m9)),some (.fz tD),some (.own (.lst (xP W a1 b1 c1 ps1))),some (.own (.lst (xP (xQ o w W) a2 b2 c2 ps2))),some (.fz (.int (i:Int))),none,none],rfl,?_,_,rfl⟩
    have p1:=up.p
    have bt:=WL (P:=Pt) (k:=i)
    have z0:decide ((0:Int)<=(i:Int))=true:=decide_eq_true (Int.natCast_nonneg i)
    have x1:=ZJ (a:=a1) (b:=b1) (c:=c1) (ps:=ps1) lW hi
    have x2:=ZJ (a:=a2) (b:=b2) (c:=c2) (ps:=ps2) (lP lW) hi
    unfold V9
    cases hB:Pt.testBit i with
    | true=>
     rw [hB] at bt
     have q:=b0 (b:=true)
     simp! [yN,th,p1,z0,Int.toNat_natCast,bt,q,Bool.not_true]
    | false=>
     rw [hB] at bt
     have q:=b0 (b:=false)
     have same:elt (xQ o w W) a2 b2 c2 i=elt W a1 b1 c1 i:=by
      unfold elt
      by_cases z:i<8
      ·rw [if_pos z,if_pos z,Km]
       intro z2
       have:=up.o i z
       rw [hB,z2] at this
       simp at this
      ·rw [if_neg z,if_neg z]
       rcases (show i=8\/i=9\/i=10 by omega) with rfl | rfl | rfl
       ·have:=up.c
        rw [hB] at this
        rw [Fr.ca this.symm]
        rfl
       ·have:=up.n
        rw [hB] at this
        rw [Fr.cb this.symm]
        rfl
       ·have:=up.s
        rw [hB] at this
        rw [Fr.cc this.symm]
        rfl
     rw [same] at x2
     have ne:=QH (Ws:=W) (a:=a1) (b:=b1) (c:=c1) (k:=i)
     simp! [yN,th,p1,z0,Int.toNat_natCast,bt,q,x1,x2,ne,Bool.not_false]
  have z8:decide ((0:Int)<=(an:Int))=true:=decide_eq_true (Int.natCast_nonneg an)
  have btU:=WL (P:=U ||| Ut) (k:=an)
  have u1:=up.u
  have u2:=upt.u
  have bo:=WP U Ut
  have lu:(vx 11).length=11:=by rw [List.length_map,List.length_range]
  cases hU:(U ||| Ut).testBit an with
  | true=>
   rw [hU] at btU
   have q:=b1' (b:=true)
   rw [Wz]
   unfold gW
   simp! [yN,em0,er',w1,w2,eW,em9,ed,es,htD,th,hh,Ta,lA,lB,r11,e1,ea,u1,u2,bo,z8,Int.toNat_natCast,btU,q,decide_true,Bool.and_self]
  | false=>
   rw [hU] at btU
   have q:=b1' (b:=false)
   rw [Nat.testBit_or,Bool.or_eq_false_iff] at hU
   obtain ⟨xn,exn⟩:=Int.eq_ofNat_of_zero_le (vin an ha).1
   have xlt:xn<4294967296:=by have:=(vin an ha).2; omega
   have yb:Builtin.bitXor (vW W an) (2 ^ fn)=((xn ^^^ 2 ^ fn:Nat):Int):=by
    rw [exn]
    have:=Tu xn (2 ^ fn)
    push_cast at this ⊢
    exact this
   have ylt:xn ^^^ 2 ^ fn<4294967296:=by
    have e:(4294967296:Nat)=2 ^ 32:=by decide
    rw [e] at xlt ⊢
    exact Nat.xor_lt_two_pow xlt (Nat.pow_lt_pow_right (by decide) hf)
   have sl:xJ (.int 1) (.int (fn:Int))=some (.int (2 ^ fn)):=by
    show (match wM 1 (fn:Int) with | true=>some (D.int (1*2 ^ ((fn:Int)).toNat)) | false=>none)=_
    rw [kT (by decide) (by decide) (by omega)]
    show some (D.int (1*2 ^ ((fn:Int)).toNat))=_
    rw [Int.toNat_natCast,Int.one_mul]
   have pk:wM 1 (fn:Int)=true:=kT (by decide) (by decide) (by omega)
   generalize hy:((xn ^^^ 2 ^ fn:Nat):Int)=y at yb
   have y0:0<=y:=by rw [<- hy]; exact Int.natCast_nonneg _
   have y1:y<4294967296:=by rw [<- hy]; exact Int.ofNat_lt.mpr ylt
   have lW':(W.set an y).length=8:=by rw [List.length_set]; exact lW
   have hW':∀ x∈W.set an y,0<=x/\x<4294967296:=fun v hm=>by
    rcases List.mem_or_eq_of_mem_set hm with z | z
    ·exact hW v z
    ·exact z ▸ ⟨y0,y1⟩
   have gU:∀ {V:Nat} {k:Nat},V.testBit an=false->V.testBit k=true->k<8->(W.set an y)[k]?=some (vW W k):=fun {V k} h1 h2 hk=>by
    rw [List.getElem?_set_ne (fun z=>by rw [z] at h1; rw [h1] at h2; cases h2)]
    exact py lW hk
   have lC:=J6 Et Ft E Fr lW' hW' (fun k hk=>gU hU.2 (upt.r k hk) (Et.r8 k hk)) (fun k hk=>gU hU.1 (up.r k hk) (E.r8 k hk))
   obtain ⟨β2,e2,x7',rfl⟩:=VH (g:=ja 7) (b:=VA) (fun i β=>∃ x7:Option M,β=[some (.fz (.lst NS)),some (.fz r),some (.own (.lst (wI (W.set an y)))),some (.fz (.int m9)),some (.fz tD),some (.own (.lst (xP W a1 b1 c1 ps1))),some (.own (.lst (xP (xQ o w W) a2 b2 c2 ps2))),x7,some (.fz (.int (an:Int))),some (.own (.lst (xP (xQ o w (W.set an y)) a2 b2 c2 ps2)))])
    (ds:=vx 11) (β:=[some (.fz (.lst NS)),some (.fz r),some (.own (.lst (wI (W.set an y)))),some (.fz (.int m9)),some (.fz tD),some (.own (.lst (xP W a1 b1 c1 ps1))),some (.own (.lst (xP (xQ o w W) a2 b2 c2 ps2))),x7,some (.fz (.int (an:Int))),some (.own (.lst (xP (xQ o w (W.set an y)) a2 b2 c2 ps2)))]) 0 ⟨x7,rfl⟩ fun i d β hd' hp=>by
     obtain ⟨x7,rfl⟩:=hp
     obtain ⟨hi,rfl⟩:=T1 hd'
     refine ⟨_,[some (.fz (.lst NS)),some (.fz r),some (.own (.lst (wI (W.set an y)))),some (.fz (.int m9)),some (.fz tD),some (.own (.lst (xP W a1 b1 c1 ps1))),some (.own (.lst (xP (xQ o w W) a2 b2 c2 ps2))),some (.fz (.int (i:Int))),some (.fz (.int (an:Int))),some (.own (.lst (xP (xQ o w (W.set an y)) a2 b2 c2 ps2)))],rfl,?_,_,rfl⟩
     have p1:=up.p
     have bt:=WL (P:=Pt) (k:=i)
     have z0:decide ((0:Int)<=(i:Int))=true:=decide_eq_true (Int.natCast_nonneg i)
     have x1:=ZJ (a:=a2) (b:=b2) (c:=c2) (ps:=ps2) (lP lW) hi
     have x2:=ZJ (a:=a2) (b:=b2) (c:=c2) (ps:=ps2) (lP lW') hi
     unfold VA
     cases hB:Pt.testBit i with
     | false=>
      rw [hB] at bt
      have q:=b1' (b:=false)
      simp! [yN,th,p1,z0,Int.toNat_natCast,bt,q]
     | true=>
      rw [hB] at bt
      have q:=b1' (b:=true)
      have same:elt (xQ o w (W.set an y)) a2 b2 c2 i=elt (xQ o w W) a2 b2 c2 i:=by
       unfold elt
       by_cases z:i<8
       ·rw [if_pos z,if_pos z]
        have:=up.o i z
        rw [hB] at this
        have eo:=of_decide_eq_true this.symm
        rw [eo,OA (by omega),OA (by omega)]
       ·rw [if_neg z,if_neg z]
      rw [same] at x2
      have ne:=QH (Ws:=xQ o w W) (a:=a2) (b:=b2) (c:=c2) (k:=i)
      simp! [yN,th,p1,z0,Int.toNat_natCast,bt,q,x1,x2,ne]
   have mx1:=JI (a:=a2) (b:=b2) (c:=c2) (ps:=ps2) (lP lW)
   have mx2:=JI (a:=a2) (b:=b2) (c:=c2) (ps:=ps2) (lP lW')
   have me:=MD (Fp (ps:=ps2))
   have ixa:=wX (py lW ha)
   have hl8:an<W.length:=by omega
   rw [Wz]
   unfold gW
   simp! [yN,em0,er',w1,w2,eW,em9,ed,es,htD,th,hh,Ta,lA,lB,r11,e1,ea,u1,u2,bo,z8,Int.toNat_natCast,btU,q,ef,pk,ixa,yb,wG,vn hl8,vz,lC,e2,mx1,mx2,me,Int.one_mul,decide_true,Bool.and_self]
 cases hr with
 | plain h=>
  rcases EG h with rfl | h2
  ·exact early "stop" rfl rfl
  ·exact main h2
 | jump ht=>exact early "jump" rfl rfl
 | cond hw hk ht=>
  rcases hw with rfl | rfl
  ·exact early "when" rfl rfl
  ·exact early "unless" rfl rfl
end L3
local macro_rules
 | `(tactic| ac_rfl)=>`(tactic| exact ⟨rfl,rfl,rfl,by decide +kernel,rfl,by decide +kernel,by decide +kernel⟩)
namespace My
open PySem L2 L3
set_option maxHeartbeats 4000000
noncomputable def top (i:Nat):Stmt:=PySem.Challenge.pw_markrun_k47_rows_done_as_told.main.body.getD i (.Pass ⟨0,0,0,0⟩)
section
variable {P:Program} {w:World} {K:PySem.W.Frag} {mg:Str->Option Value} {base:Heap} {A_LOOK_AT_D:Addr} {A_LOOK_AT_S:Addr} {A_LOOK_AT_CARRY:Addr} {A_PUT_D:Addr} {A_PUT_NOUGHT_AND_SIGN:Addr} {A_PUT_CARRY:Addr} {A_BYTE_LOWS:Addr} {A_MARKS:Addr} {A_JUMPS:Addr} {A_DEEDS:Addr}
noncomputable abbrev HT:=Program->World->PySem.W.Frag->(Str->Option Value)->Heap->Prop
section
variable {h:Heap} (X:K.In h) (G:h.Ns mainGlobals mg)
noncomputable abbrev U7:Stmt:=top 9
theorem Gk:zX ["thing", "width"] ["thing", "width"] (zH U7):=by ac_rfl
variable (z_isinstance:mg "isinstance" = none) (z_int:mg "int" = none) (z_bool:mg "bool" = none)
noncomputable def Yr:HT:=fun P w K mg base=>zi P w K mg base "is_number" ["thing", "width"] 1 (zm K qH)
include X G z_isinstance z_int z_bool in
theorem FZ (a:zS K "is_number" U7):Yr P w K mg base:=(a.d2 X G).oS P w base 0 qH Gk yK fun hr=>(zn (yo (pr (Y8 (w_ (kQ .bool rfl rfl z_isinstance z_bool L8 (zJ (z7 0)))) (Y9 (qm (w_ (kQ .int rfl rfl z_isinstance z_int L9 (zJ (z7 0)))))))) (ze (zy vw)) yr) (ze (zy (Y2 (wN CN jg (zJ zE) (zJ (z7 0)) (yA _)) (js (wN Zn jg (zJ (z7 0)) (zJ (zU vt vq zE (z7 1))) (yA _)))))))
noncomputable abbrev Vn:Stmt:=top 10
theorem IV:zX ["one", "other", "carry", "total"] ["one", "other", "carry"] (zH Vn):=by ac_rfl
variable (g_BEYOND:yL mg "BEYOND" (.int 4294967296)) (q_BEYOND:∀ H,zK K H (.int 4294967296) (.int 4294967296))
noncomputable def YW:HT:=fun P w K mg base=>zi P w K mg base "added" ["one", "other", "carry"] 1 (zm K j3)
include X G g_BEYOND q_BEYOND in
theorem F4 (a:zS K "added" Vn):YW P w K mg base:=(a.d3 X G).oS P w base 0 j3 IV yK fun hr=>(zn (xM (i:=3) IV.nd rfl (Or.inl rfl) (zU vU vS (zU vU vS (z7 0) (z7 1)) (pq (w_ (z7 2)) zE zE))) (ze (zy (xV (zB (zU xG xF (z7 3) (xL g_BEYOND q_BEYOND rfl)) (zB (wN CJ jg (zJ (z7 3)) (zJ (xL g_BEYOND q_BEYOND rfl)) (yA _)) zN)) (yR (zT (zT yS)) (by decide))))))
noncomputable abbrev UW:Stmt:=top 11
theorem Id:zX ["one", "other", "borrow", "left"] ["one", "other", "borrow"] (zH UW):=by ac_rfl
noncomputable def XF:HT:=fun P w K mg base=>zi P w K mg base "taken" ["one", "other", "borrow"] 1 (zm K jC)
include X G g_BEYOND q_BEYOND in
theorem C6 (a:zS K "taken" UW):XF P w K mg base:=(a.d3 X G).oS P w base 0 jC Id yK fun hr=>(zn (xM (i:=3) Id.nd rfl (Or.inl rfl) (zU ph pf (zU ph pf (z7 0) (z7 1)) (pq (w_ (z7 2)) zE zE))) (zn (yo (yI Zn jg (zJ (z7 3)) (zJ zE) (yA _)) (ze (zy (xV (zB (zU vU vS (z7 3) (xL g_BEYOND q_BEYOND rfl)) (zB vw zN)) (yR (zT (zT yS)) (by decide))))) yr) (ze (zy (xV (zB (z7 3) (zB vw zN)) (yR (zT (zT yS)) (by decide)))))))
noncomputable abbrev UO:Stmt:=top 14
theorem Gv:zX ["word", "low", "width"] ["word", "low", "width"] (zH UO):=by ac_rfl
noncomputable def X8:HT:=fun P w K mg base=>zi P w K mg base "part" ["word", "low", "width"] 1 (zm K yy)
include X G in
theorem Fz (a:zS K "part" UO):X8 P w K mg base:=(a.d3 X G).oS P w base 0 yy Gv yK fun hr=>(ze (zy (zU jj wB (zU kA k8 (z7 0) (z7 1)) (zU ph pf (zU vt vq zE (z7 2)) zE))))
noncomputable abbrev UK:Stmt:=top 12
theorem Uh:zX ["word", "count", "moved", "fallen"] ["word", "count"] (zH UK):=by ac_rfl
variable (g_WORD_BITS:yL mg "WORD_BITS" (.int 32)) (q_WORD_BITS:∀ H,zK K H (.int 32) (.int 32)) (h_part:X8 P w K mg base)
noncomputable def X4:HT:=fun P w K mg base=>zi P w K mg base "moved_left" ["word", "count"] 2 (zm K pC)
include X G g_WORD_BITS q_WORD_BITS h_part in
theorem Fq (a:zS K "moved_left" UK):X4 P w K mg base:=(a.d2 X G).oS P w base 1 pC Uh yK fun hr=>(zn (xM (i:=2) Uh.nd rfl (Or.inl rfl) (zU vt vq (z7 0) (z7 1))) (zn (xM (i:=3) Uh.nd rfl (Or.inl rfl) (pq (yI (yx (yZ hr)) yu (zJ (z7 1)) (zJ zE) (yA _)) jr (wN (yx (yZ hr)) yu (zJ (zw h_part hr rfl (zB (z7 2) (zB (xL g_WORD_BITS q_WORD_BITS rfl) (zB zE zN))))) (zJ zE) (yA _)))) (ze (zy (xV (zB (zw h_part hr rfl (zB (z7 2) (zB zE (zB (xL g_WORD_BITS q_WORD_BITS rfl) zN)))) (zB (z7 3) zN)) (yR (zT (zT yS)) (by decide)))))))
noncomputable abbrev UL:Stmt:=top 13
theorem Ic:zX ["word", "count", "fallen"] ["word", "count"] (zH UL):=by ac_rfl
noncomputable def X5:HT:=fun P w K mg base=>zi P w K mg base "moved_right" ["word", "count"] 2 (zm K pD)
include X G h_part in
theorem Fu (a:zS K "moved_right" UL):X5 P w K mg base:=(a.d2 X G).oS P w base 1 pD Ic yK fun hr=>(zn (xM (i:=2) Ic.nd rfl (Or.inl rfl) (pq (yI (yx (yZ hr)) yu (zJ (z7 1)) (zJ zE) (yA _)) jr (wN (yx (yZ hr)) yu (zJ (zw h_part hr rfl (zB (z7 0) (zB (zU ph pf (z7 1) zE) (zB zE zN))))) (zJ zE) (yA _)))) (ze (zy (xV (zB (zU kA k8 (z7 0) (z7 1)) (zB (z7 2) zN)) (yR (zT (zT yS)) (by decide))))))
noncomputable abbrev UZ:Stmt:=top 15
theorem Ig:zX ["word", "low", "width", "number", "there"] ["word", "low", "width", "number"] (zH UZ):=by ac_rfl
noncomputable def XI:HT:=fun P w K mg base=>zi P w K mg base "with_part" ["word", "low", "width", "number"] 1 (zm K pE)
include X G in
theorem C9 (a:zS K "with_part" UZ):XI P w K mg base:=(a.d4 X G).oS P w base 0 pE Ig yK fun hr=>(zn (xM (i:=4) Ig.nd rfl (Or.inl rfl) (zU vt vq (zU ph pf (zU vt vq zE (z7 2)) zE) (z7 1))) (ze (zy (zU ut wB (zU jj wB (z7 0) (Ik Kf Kd (z7 4))) (zU vt vq (z7 3) (z7 1))))))
noncomputable abbrev Vs:Stmt:=top 16
theorem GW:zX ["word"] ["word"] (zH Vs):=by ac_rfl
variable (z_tuple:mg "tuple" = none) (g_BYTE_LOWS:yL mg "BYTE_LOWS" (.ref A_BYTE_LOWS)) (q_BYTE_LOWS:∀ H,zK K H jV (.ref A_BYTE_LOWS))
noncomputable def Yb:HT:=fun P w K mg base=>zi P w K mg base "bytes_of" ["word"] 2 (zm K j6)
include X G z_tuple g_BYTE_LOWS q_BYTE_LOWS h_part in
theorem FB (a:zS K "bytes_of" Vs):Yb P w K mg base:=(a.d1 X G).oS P w base 1 j6 GW yK fun hr=>(ze (zy (Ii Tx JS rfl z_tuple WO (zB (xA (t5 rfl (ua (own:=["low"]) rfl) (t6 (xL g_BYTE_LOWS q_BYTE_LOWS rfl)) (tN (fun C s H fp pn=>(xv (i:=1) (show (v8 ["word"] ["low"]).Nodup by decide +kernel) rfl (Or.inl rfl))) rfl) (fun C s H fp pn=>qo) (fun C s H fp pn=>(zw h_part hr rfl (zB (z7 0) (zB (z7 1) (zB zE zN))))))) zN))))
noncomputable abbrev Ub:Stmt:=top 17
theorem G_:zX ["four"] ["four"] (zH Ub):=by ac_rfl
variable (z_sum:mg "sum" = none) (z_zip:mg "zip" = none)
noncomputable def XL:HT:=fun P w K mg base=>zi P w K mg base "word_of" ["four"] 1 (zm K gK)
include X G z_sum z_zip g_BYTE_LOWS q_BYTE_LOWS in
theorem CB (a:zS K "word_of" Ub):XL P w K mg base:=(a.d1 X G).oS P w base 0 gK G_ yK fun hr=>(ze (zy (t4 (LT rfl) C3 rfl z_sum LE (uz (zJ (xA (t5 rfl (ua (own:=["byte", "low"]) rfl) (Iq rfl z_zip (z7 0) (xL g_BYTE_LOWS q_BYTE_LOWS rfl)) (Ot (fun C s H fp pn=>(Ve (n:=2) rfl (jm (xv (i:=1) (show (v8 ["four"] ["byte", "low"]).Nodup by decide +kernel) rfl (Or.inl rfl)) (jm (xv (i:=2) (show (v8 ["four"] ["byte", "low"]).Nodup by decide +kernel) rfl (Or.inl rfl)) Vf)))) rfl rfl) (fun C s H fp pn=>qo) (fun C s H fp pn=>(zU vt vq (z7 1) (z7 2)))))) u_))))
noncomputable abbrev U6:Stmt:=top 21
theorem Gj:zX ["item"] ["item"] (zH U6):=by ac_rfl
noncomputable def Yq:HT:=fun P w K mg base=>zi P w K mg base "is_label" ["item"] 1 (zm K gB)
include X G in
theorem FY (a:zS K "is_label" U6):Yq P w K mg base:=(a.d1 X G).oS P w base 0 gB Gj yK fun hr=>(ze (zy (wN (yx (yZ hr)) yu (zJ (zQ (zO (zI hr)) zP (z7 0) zE)) (zJ zc) (yA _))))
noncomputable abbrev U5:Stmt:=top 22
theorem Gi:zX ["item"] ["item"] (zH U5):=by ac_rfl
variable (g_JUMPS:yL mg "JUMPS" (.ref A_JUMPS)) (q_JUMPS:∀ H,zK K H W_ (.ref A_JUMPS))
noncomputable def Yp:HT:=fun P w K mg base=>zi P w K mg base "is_jump" ["item"] 1 (zm K kq)
include X G g_JUMPS q_JUMPS in
theorem FX (a:zS K "is_jump" U5):Yp P w K mg base:=(a.d1 X G).oS P w base 0 kq Gi yK fun hr=>(ze (zy (wN (vV (zI hr)) vT (zJ (zQ (zO (zI hr)) zP (z7 0) zE)) (zJ (xL g_JUMPS q_JUMPS rfl)) (by with_unfolding_all rfl))))
noncomputable abbrev UT:Stmt:=top 23
theorem Gx:zX ["items"] ["items"] (zH UT):=by ac_rfl
variable (h_is_label:Yq P w K mg base)
noncomputable def XC:HT:=fun P w K mg base=>zi P w K mg base "rows_of" ["items"] 2 (zm K qI)
include X G h_is_label in
theorem C2 (a:zS K "rows_of" UT):XC P w K mg base:=(a.d1 X G).oS P w base 1 qI Gx yK fun hr=>(ze (ql (t5 rfl (ua (own:=["item"]) rfl) (t6 (z7 0)) (tN (fun C s H fp pn=>(xv (i:=1) (show (v8 ["items"] ["item"]).Nodup by decide +kernel) rfl (Or.inl rfl))) rfl) (fun C s H fp pn=>(Iw (qm (w_ (zw h_is_label hr rfl (zB (z7 1) zN)))))) (fun C s H fp pn=>(z7 1)))))
noncomputable abbrev UA:Stmt:=top 24
theorem kK:zX ["items", "places", "place", "item"] ["items"] (zH UA):=by ac_rfl
noncomputable def Yu:HT:=fun P w K mg base=>zi P w K mg base "label_places" ["items"] 2 (zm K gC)
include X G h_is_label in
theorem Fc (a:zS K "label_places" UA):Yu P w K mg base:=(a.d1 X G).oS P w base 1 gC kK yK fun hr=>(zn (Y7 (i:=1) kK.nd rfl (Or.inl rfl) Um) (zn (xM (i:=2) kK.nd rfl (Or.inl rfl) zE) (zn (Y6 PassesOwn.never rfl (t6 (z7 0)) (Uo (xv (i:=3) kK.nd rfl (Or.inl rfl)) rfl) (ze (yo (w_ (zw h_is_label hr rfl (zB (z7 3) zN))) (ze (Up (zI hr) (qv 1) (zQ (zO (zI hr)) zP (z7 3) zE) (z7 2))) (ze (HZ (i:=2) Qv JO kK.nd rfl (Or.inl rfl) zE))))) (ze (kY 1)))))
noncomputable abbrev UX:Stmt:=top 25
theorem Ie:zX ["items", "places"] ["items"] (zH UX):=by ac_rfl
variable (h_label_places:Yu P w K mg base) (h_rows_of:XC P w K mg base) (h_is_jump:Yp P w K mg base)
noncomputable def XG:HT:=fun P w K mg base=>zi P w K mg base "targets_of" ["items"] 3 (zm K qJ)
include X G h_label_places h_rows_of h_is_jump in
theorem C7 (a:zS K "targets_of" UX):XG P w K mg base:=(a.d1 X G).oS P w base 2 qJ Ie yK fun hr=>(zn (xM (i:=1) Ie.nd rfl (Or.inr rfl) (xA (uS h_label_places hr rfl (zB (z7 0) zN)))) (ze (ql (t5 rfl (ua (own:=["row"]) rfl) (t6 (xA (uS h_rows_of hr rfl (zB (z7 0) zN)))) (tN (fun C s H fp pn=>(xv (i:=2) (show (v8 ["items", "places"] ["row"]).Nodup by decide +kernel) rfl (Or.inl rfl))) rfl) (fun C s H fp pn=>qo) (fun C s H fp pn=>(pq (w_ (zw h_is_jump hr rfl (zB (z7 2) zN))) (zQ (zO (zI hr)) zP (z7 1) (zQ (zO (zI hr)) zP (z7 2) (Ik Kg Ke zE))) jr))))))
noncomputable abbrev U4:Stmt:=top 44
theorem Gh:zX ["thing"] ["thing"] (zH U4):=by ac_rfl
variable (g_ADDRESS_BITS:yL mg "ADDRESS_BITS" (.int 16)) (q_ADDRESS_BITS:∀ H,zK K H (.int 16) (.int 16)) (h_is_number:Yr P w K mg base)
noncomputable def Yo:HT:=fun P w K mg base=>zi P w K mg base "is_address" ["thing"] 2 (zm K YT)
include X G g_ADDRESS_BITS q_ADDRESS_BITS h_is_number in
theorem FW (a:zS K "is_address" U4):Yo P w K mg base:=(a.d1 X G).oS P w base 1 YT Gh yK fun hr=>(ze (zy (zw h_is_number hr rfl (zB (z7 0) (zB (xL g_ADDRESS_BITS q_ADDRESS_BITS rfl) zN)))))
noncomputable abbrev U8:Stmt:=top 43
theorem Gm:zX ["thing"] ["thing"] (zH U8):=by ac_rfl
variable (z_len:mg "len" = none) (g_BYTE_BITS:yL mg "BYTE_BITS" (.int 8)) (q_BYTE_BITS:∀ H,zK K H (.int 8) (.int 8)) (h_is_address:Yo P w K mg base)
noncomputable def Ys:HT:=fun P w K mg base=>zi P w K mg base "is_pair" ["thing"] 3 (zm K YU)
include X G z_len z_isinstance z_tuple g_BYTE_BITS q_BYTE_BITS h_is_number h_is_address in
theorem Fa (a:zS K "is_pair" U8):Ys P w K mg base:=(a.d1 X G).oS P w base 2 YU Gm yK fun hr=>(zn (yo (pr (Y8 (qm (w_ (kQ .tuple rfl rfl z_isinstance z_tuple WO (zJ (z7 0))))) (Y9 (yI (jk (yZ hr)) jh (zJ (t4 pP pd rfl z_len qT (uz (zJ (z7 0)) u_))) (zJ zE) (yA _))))) (ze (zy vw)) yr) (ze (zy (Y2 (zw h_is_address hr rfl (zB (zQ (zO (zI hr)) zP (z7 0) zE) zN)) (js (zw h_is_number hr rfl (zB (zQ (zO (zI hr)) zP (z7 0) zE) (zB (xL g_BYTE_BITS q_BYTE_BITS rfl) zN))))))))
noncomputable abbrev Vr:Stmt:=top 42
theorem Ue:zX ["memory", "held", "pair"] ["memory"] (zH Vr):=by ac_rfl
variable (z_list:mg "list" = none) (h_is_pair:Ys P w K mg base)
noncomputable def Ya:HT:=fun P w K mg base=>zi P w K mg base "bytes_from" ["memory"] 4 (zm K jy)
include X G z_isinstance z_list h_is_pair in
theorem F9 (a:zS K "bytes_from" Vr):Ya P w K mg base:=(a.d1 X G).oS P w base 3 jy Ue yK fun hr=>(zn (Y7 (i:=1) Ue.nd rfl (Or.inl rfl) Um) (zn (yo (yI JU JP (zJ (z7 0)) (zJ jr) (yA _)) (ze (kY 1)) yr) (zn (yo (qm (w_ (kQ .list rfl rfl z_isinstance z_list WN (zJ (z7 0))))) kX yr) (zn (Y6 PassesOwn.never rfl (t6 (z7 0)) (Uo (xv (i:=2) Ue.nd rfl (Or.inl rfl)) rfl) (zn (yo (qm (w_ (zw h_is_pair hr rfl (zB (z7 2) zN)))) kX yr) (zn (yo (yI (vV (zI hr)) vT (zJ (zQ (zO (zI hr)) zP (z7 2) zE)) (GL 1) (by with_unfolding_all rfl)) kX yr) (ze (Up (zI hr) (qv 1) (zQ (zO (zI hr)) zP (z7 2) zE) (zQ (zO (zI hr)) zP (z7 2) zE)))))) (ze (kY 1))))))
noncomputable abbrev UN:Stmt:=top 45
theorem Gu:zX ["held"] ["held"] (zH UN):=by ac_rfl
variable (z_sorted:mg "sorted" = none)
noncomputable def X7:HT:=fun P w K mg base=>zi P w K mg base "pairs_of" ["held"] 1 (zm K gF)
include X G z_sorted in
theorem Fy (a:zS K "pairs_of" UN):X7 P w K mg base:=(a.d1 X G).oS P w base 0 gF Gu yK fun hr=>(ze (ql (t5 rfl (ua (own:=["address"]) rfl) (t6 (xA (HN rfl rfl z_sorted (zB (z7 0) zN)))) (tN (fun C s H fp pn=>(xv (i:=1) (show (v8 ["held"] ["address"]).Nodup by decide +kernel) rfl (Or.inl rfl))) rfl) (fun C s H fp pn=>(Iw (yI (jk (yZ hr)) jh (zJ (zQ (zO (zI hr)) zP (z7 0) (z7 1))) (zJ zE) (yA _)))) (fun C s H fp pn=>(xV (zB (z7 1) (zB (zQ (zO (zI hr)) zP (z7 0) (z7 1)) zN)) (yR (zT (zT yS)) (by decide)))))))
noncomputable abbrev Vq:Stmt:=top 46
theorem GV:zX ["held", "address"] ["held", "address"] (zH Vq):=by ac_rfl
noncomputable def YZ:HT:=fun P w K mg base=>zi P w K mg base "byte_at" ["held", "address"] 1 (zm K j5)
include X G in
theorem F8 (a:zS K "byte_at" Vq):YZ P w K mg base:=(a.d2 X G).oS P w base 0 j5 GV yK fun hr=>(ze (zy (HC (zI hr) (z7 0) (z7 1) zE ⟨rfl,rfl,rfl,rfl⟩)))
noncomputable abbrev Vp:Stmt:=top 47
theorem GU:zX ["word", "number"] ["word", "number"] (zH Vp):=by ac_rfl
noncomputable def YY:HT:=fun P w K mg base=>zi P w K mg base "address_of" ["word", "number"] 2 (zm K j4)
include X G g_ADDRESS_BITS q_ADDRESS_BITS h_part in
theorem F6 (a:zS K "address_of" Vp):YY P w K mg base:=(a.d2 X G).oS P w base 1 j4 GU yK fun hr=>(ze (zy (zw h_part hr rfl (zB (zU vU vS (z7 0) (z7 1)) (zB zE (zB (xL g_ADDRESS_BITS q_ADDRESS_BITS rfl) zN))))))
noncomputable abbrev U3:Stmt:=top 48
theorem Gg:zX ["address"] ["address"] (zH U3):=by ac_rfl
variable (z_range:mg "range" = none) (h_address_of:YY P w K mg base)
noncomputable def Yn:HT:=fun P w K mg base=>zi P w K mg base "four_from" ["address"] 3 (zm K p7)
include X G z_range h_address_of in
theorem FV (a:zS K "four_from" U3):Yn P w K mg base:=(a.d1 X G).oS P w base 2 p7 Gg yK fun hr=>(ze (ql (t5 rfl (ua (own:=["number"]) rfl) (Y4 rfl z_range zE) (tN (fun C s H fp pn=>(xv (i:=1) (show (v8 ["address"] ["number"]).Nodup by decide +kernel) rfl (Or.inl rfl))) rfl) (fun C s H fp pn=>qo) (fun C s H fp pn=>(zw h_address_of hr rfl (zB (z7 0) (zB (z7 1) zN)))))))
noncomputable abbrev Ua:Stmt:=top 49
theorem Gz:zX ["held", "address"] ["held", "address"] (zH Ua):=by ac_rfl
variable (h_word_of:XL P w K mg base) (h_four_from:Yn P w K mg base) (h_byte_at:YZ P w K mg base)
noncomputable def XJ:HT:=fun P w K mg base=>zi P w K mg base "word_at" ["held", "address"] 4 (zm K gJ)
include X G h_word_of h_four_from h_byte_at in
theorem CA (a:zS K "word_at" Ua):XJ P w K mg base:=(a.d2 X G).oS P w base 3 gJ Gz yK fun hr=>(ze (zy (zw h_word_of hr rfl (zB (xA (t5 rfl (ua (own:=["one"]) rfl) (t6 (xA (uS h_four_from hr rfl (zB (z7 1) zN)))) (tN (fun C s H fp pn=>(xv (i:=2) (show (v8 ["held", "address"] ["one"]).Nodup by decide +kernel) rfl (Or.inl rfl))) rfl) (fun C s H fp pn=>qo) (fun C s H fp pn=>(zw h_byte_at hr rfl (zB (z7 0) (zB (z7 2) zN)))))) zN))))
noncomputable abbrev UR:Stmt:=top 50
theorem Gw:zX ["held", "address", "word"] ["held", "address", "word"] (zH UR):=by ac_rfl
noncomputable def XA:HT:=fun P w K mg base=>zi P w K mg base "put_byte" ["held", "address", "word"] 2 (zx K jB)
include X G g_BYTE_BITS q_BYTE_BITS h_part in
theorem C0 (a:zS K "put_byte" UR):XA P w K mg base:=(a.d3 X G).oM P w base 1 jB Gw xY fun hr=>(yf (gx (zI hr) (yE 0) (z7 1) (y_ (zw h_part hr rfl (zB (z7 2) (zB zE (zB (xL g_BYTE_BITS q_BYTE_BITS rfl) zN)))))))
noncomputable abbrev US:Stmt:=top 51
theorem Ui:zX ["held", "address", "word", "one", "byte"] ["held", "address", "word"] (zH US):=by ac_rfl
variable (h_put_byte:XA P w K mg base) (h_bytes_of:Yb P w K mg base)
noncomputable def XB:HT:=fun P w K mg base=>zi P w K mg base "put_word" ["held", "address", "word"] 4 (zx K gH)
include X G z_zip h_put_byte h_four_from h_bytes_of in
theorem C1 (a:zS K "put_word" US):XB P w K mg base:=(a.d3 X G).oM P w base 3 gH Ui xY fun hr=>(yf (VP PassesOwn.never rfl (Iq rfl z_zip (xA (uS h_four_from hr rfl (zB (z7 1) zN))) (zw h_bytes_of hr rfl (zB (z7 2) zN))) (DY (Ve (n:=2) rfl (jm (xv (i:=3) Ui.nd rfl (Or.inl rfl)) (jm (xv (i:=4) Ui.nd rfl (Or.inl rfl)) Vf))) rfl rfl (by decide) (by decide)) (yf (uM (uq h_put_byte hr rfl (vD (yE 0) (wY (z7 3) (wY (z7 4) wq))))))))
noncomputable abbrev t_:Stmt:=uj (top 53) 0
theorem GS:zX ["self", "words", "held"] ["self", "words", "held"] (zH t_):=by ac_rfl
variable (z_dict:mg "dict" = none) (g_MARKS:yL mg "MARKS" (.ref A_MARKS)) (q_MARKS:∀ H,zK K H jW (.ref A_MARKS)) (a_words:xD K ["State"] "words") (a_truths:xD K ["State"] "truths") (a_held:xD K ["State"] "held")
include z_list z_dict g_MARKS q_MARKS a_words a_truths a_held in
theorem F3 {f:Addr} {fd:FuncData} (d:xZ K "__init__" "State.__init__" t_ f fd):yO P w K mg base yJ 1 f fd ["self", "words", "held"] (zx K q_):=d.oM P w mg base 0 q_ GS xY fun hr=>(yG (uN (yE 0) a_words (Zk (jt rfl z_list (zB (z7 1) zN)))) (yG (uN (yE 0) a_truths (Zk (HJ rfl rfl z_dict Ts (zB (xA (t5 rfl (ua (own:=["mark"]) rfl) (t6 (xL g_MARKS q_MARKS rfl)) (tN (fun C s H fp pn=>(xv (i:=3) (show (v8 ["self", "words", "held"] ["mark"]).Nodup by decide +kernel) rfl (Or.inl rfl))) rfl) (fun C s H fp pn=>qo) (fun C s H fp pn=>(xV (zB (z7 3) (zB vw zN)) (yR (zT (zT yS)) (by decide)))))) zN)))) (yf (uN (yE 0) a_held (Zk (HK rfl z_dict Ts (zB (z7 2) zN)))))))
noncomputable abbrev V_:Stmt:=top 54
theorem Gd:zX ["state", "row"] ["state", "row"] (zH V_):=by ac_rfl
noncomputable def Yj:HT:=fun P w K mg base=>zi P w K mg base "do_set" ["state", "row"] 1 (zx K g8)
include X G a_words in
theorem FO (a:zS K "do_set" V_):Yj P w K mg base:=(a.d2 X G).oM P w base 0 g8 Gd xY fun hr=>(yf (tW (wO (yE 0) a_words) (zQ (zO (zI hr)) zP (z7 1) zE) (y_ (zQ (zO (zI hr)) zP (z7 1) zE))))
noncomputable abbrev Vv:Stmt:=top 55
theorem GY:zX ["state", "row"] ["state", "row"] (zH Vv):=by ac_rfl
variable (h_with_part:XI P w K mg base)
noncomputable def Ye:HT:=fun P w K mg base=>zi P w K mg base "do_high" ["state", "row"] 2 (zx K j_)
include X G a_words h_with_part in
theorem FH (a:zS K "do_high" Vv):Ye P w K mg base:=(a.d2 X G).oM P w base 1 j_ GY xY fun hr=>(yf (tW (wO (yE 0) a_words) (zQ (zO (zI hr)) zP (z7 1) zE) (uK (zw h_with_part hr rfl (zB (zQ (zO (zI hr)) zP (xC (z7 0) a_words) (zQ (zO (zI hr)) zP (z7 1) zE)) (zB zE (zB zE (zB (zQ (zO (zI hr)) zP (z7 1) zE) zN))))))))
noncomputable abbrev Vu:Stmt:=top 56
theorem GX:zX ["state", "row"] ["state", "row"] (zH Vu):=by ac_rfl
noncomputable def Yd:HT:=fun P w K mg base=>zi P w K mg base "do_copy" ["state", "row"] 1 (zx K jz)
include X G a_words in
theorem FD (a:zS K "do_copy" Vu):Yd P w K mg base:=(a.d2 X G).oM P w base 0 jz GX xY fun hr=>(yf (tW (wO (yE 0) a_words) (zQ (zO (zI hr)) zP (z7 1) zE) (uK (zQ (zO (zI hr)) zP (xC (z7 0) a_words) (zQ (zO (zI hr)) zP (z7 1) zE)))))
noncomputable abbrev UU:Stmt:=top 58
theorem Gy:zX ["kind", "one", "other", "carry"] ["kind", "one", "other", "carry"] (zH UU):=by ac_rfl
variable (h_added:YW P w K mg base) (h_taken:XF P w K mg base)
noncomputable def XD:HT:=fun P w K mg base=>zi P w K mg base "summed" ["kind", "one", "other", "carry"] 2 (zm K tL)
include X G h_added h_taken in
theorem C4 (a:zS K "summed" UU):XD P w K mg base:=(a.d4 X G).oS P w base 1 tL Gy yK fun hr=>(zn (yo (yI (yx (yZ hr)) yu (zJ (z7 0)) (zJ zc) (yA _)) (ze (zy (zw h_added hr rfl (zB (z7 1) (zB (z7 2) (zB vw zN)))))) yr) (zn (yo (yI (yx (yZ hr)) yu (zJ (z7 0)) (zJ zc) (yA _)) (ze (zy (zw h_added hr rfl (zB (z7 1) (zB (z7 2) (zB (z7 3) zN)))))) yr) (ze (zy (zw h_taken hr rfl (zB (z7 1) (zB (z7 2) (zB (Y2 (z7 3) (js (wN (yx (yZ hr)) yu (zJ (z7 0)) (zJ zc) (yA _)))) zN))))))))
noncomputable abbrev UI:Stmt:=top 59
theorem Gq:zX ["state", "word"] ["state", "word"] (zH UI):=by ac_rfl
noncomputable def X1:HT:=fun P w K mg base=>zi P w K mg base "look_at" ["state", "word"] 2 (zx K pA)
include X G g_WORD_BITS q_WORD_BITS a_truths h_part in
theorem Fn (a:zS K "look_at" UI):X1 P w K mg base:=(a.d2 X G).oM P w base 1 pA Gq xY fun hr=>(yG (gx (zI hr) (wO (yE 0) a_truths) zc (y_ (wN (yx (yZ hr)) yu (zJ (z7 1)) (zJ zE) (yA _)))) (yf (gx (zI hr) (wO (yE 0) a_truths) zc (y_ (wN (yx (yZ hr)) yu (zJ (zw h_part hr rfl (zB (z7 1) (zB (zU ph pf (xL g_WORD_BITS q_WORD_BITS rfl) zE) (zB zE zN))))) (zJ zE) (yA _))))))
noncomputable abbrev U2:Stmt:=top 57
theorem IX:zX ["state", "row", "told"] ["state", "row"] (zH U2):=by ac_rfl
variable (h_look_at:X1 P w K mg base) (h_summed:XD P w K mg base)
noncomputable def Ym:HT:=fun P w K mg base=>zi P w K mg base "do_sum" ["state", "row"] 3 (zx K u3)
include X G a_truths a_words h_look_at h_summed in
theorem FU (a:zS K "do_sum" U2):Ym P w K mg base:=(a.d2 X G).oM P w base 2 u3 IX xY fun hr=>(yG (wZ (i:=2) IX.nd rfl (Or.inl rfl) (by decide) (uK (zw h_summed hr rfl (zB (zQ (zO (zI hr)) zP (z7 1) zE) (zB (zQ (zO (zI hr)) zP (xC (z7 0) a_words) (zQ (zO (zI hr)) zP (z7 1) zE)) (zB (zQ (zO (zI hr)) zP (xC (z7 0) a_words) (zQ (zO (zI hr)) zP (z7 1) zE)) (zB (zQ (zO (zI hr)) zP (xC (z7 0) a_truths) zc) zN))))))) (yG (gx (zI hr) (wO (yE 0) a_truths) zc (y_ (zQ (zO (zI hr)) zP (z7 2) zE))) (yG (uM (uq h_look_at hr rfl (vD (yE 0) (wY (zQ (zO (zI hr)) zP (z7 2) zE) wq)))) (yf (qe (tX (yI (jk (yZ hr)) jh (zJ (zQ (zO (zI hr)) zP (z7 1) zE)) (zJ zc) (yA _))) (yf (tW (wO (yE 0) a_words) (zQ (zO (zI hr)) zP (z7 1) zE) (y_ (zQ (zO (zI hr)) zP (z7 2) zE)))) qf)))))
noncomputable abbrev U9:Stmt:=top 61
theorem Gn:zX ["kind", "one", "other"] ["kind", "one", "other"] (zH U9):=by ac_rfl
noncomputable def Yt:HT:=fun P w K mg base=>zi P w K mg base "joined" ["kind", "one", "other"] 1 (zm K j7)
include X G in
theorem Fb (a:zS K "joined" U9):Yt P w K mg base:=(a.d3 X G).oS P w base 0 j7 Gn yK fun hr=>(zn (yo (yI (yx (yZ hr)) yu (zJ (z7 0)) (zJ zc) (yA _)) (ze (zy (zU jj wB (z7 1) (z7 2)))) yr) (zn (yo (yI (yx (yZ hr)) yu (zJ (z7 0)) (zJ zc) (yA _)) (ze (zy (zU ut wB (z7 1) (z7 2)))) yr) (ze (zy (zU JV wB (z7 1) (z7 2))))))
noncomputable abbrev Vt:Stmt:=top 60
theorem IW:zX ["state", "row", "word"] ["state", "row"] (zH Vt):=by ac_rfl
variable (h_joined:Yt P w K mg base)
noncomputable def Yc:HT:=fun P w K mg base=>zi P w K mg base "do_bits" ["state", "row"] 3 (zx K qF)
include X G a_words h_look_at h_joined in
theorem FC (a:zS K "do_bits" Vt):Yc P w K mg base:=(a.d2 X G).oM P w base 2 qF IW xY fun hr=>(yG (wZ (i:=2) IW.nd rfl (Or.inl rfl) (by decide) (uK (zw h_joined hr rfl (zB (zQ (zO (zI hr)) zP (z7 1) zE) (zB (zQ (zO (zI hr)) zP (xC (z7 0) a_words) (zQ (zO (zI hr)) zP (z7 1) zE)) (zB (zQ (zO (zI hr)) zP (xC (z7 0) a_words) (zQ (zO (zI hr)) zP (z7 1) zE)) zN)))))) (yG (uM (uq h_look_at hr rfl (vD (yE 0) (wY (z7 2) wq)))) (yf (tW (wO (yE 0) a_words) (zQ (zO (zI hr)) zP (z7 1) zE) (y_ (z7 2))))))
noncomputable abbrev Vy:Stmt:=top 62
theorem Uf:zX ["state", "row", "word", "told"] ["state", "row"] (zH Vy):=by ac_rfl
variable (h_moved_left:X4 P w K mg base) (h_moved_right:X5 P w K mg base)
noncomputable def Yh:HT:=fun P w K mg base=>zi P w K mg base "do_move" ["state", "row"] 3 (zx K p6)
include X G a_words a_truths h_look_at h_moved_left h_moved_right in
theorem FK (a:zS K "do_move" Vy):Yh P w K mg base:=(a.d2 X G).oM P w base 2 p6 Uf xY fun hr=>(yG (wZ (i:=2) Uf.nd rfl (Or.inl rfl) (by decide) (uK (zQ (zO (zI hr)) zP (xC (z7 0) a_words) (zQ (zO (zI hr)) zP (z7 1) zE)))) (yG (wZ (i:=3) Uf.nd rfl (Or.inl rfl) (by decide) (y_ (pq (yI (yx (yZ hr)) yu (zJ (zQ (zO (zI hr)) zP (z7 1) zE)) (zJ zc) (yA _)) (zw h_moved_left hr rfl (zB (z7 2) (zB (zQ (zO (zI hr)) zP (z7 1) zE) zN))) (zw h_moved_right hr rfl (zB (z7 2) (zB (zQ (zO (zI hr)) zP (z7 1) zE) zN)))))) (yG (qe (tX (yI CQ Fx (zJ (zQ (zO (zI hr)) zP (z7 3) zE)) (zJ jr) (yA _))) (yf (gx (zI hr) (wO (yE 0) a_truths) zc (y_ (zQ (zO (zI hr)) zP (z7 3) zE)))) qf) (yG (uM (uq h_look_at hr rfl (vD (yE 0) (wY (zQ (zO (zI hr)) zP (z7 3) zE) wq)))) (yf (tW (wO (yE 0) a_words) (zQ (zO (zI hr)) zP (z7 1) zE) (y_ (zQ (zO (zI hr)) zP (z7 3) zE))))))))
noncomputable abbrev Vo:Stmt:=top 63
theorem GT:zX ["state", "row"] ["state", "row"] (zH Vo):=by ac_rfl
noncomputable def YX:HT:=fun P w K mg base=>zi P w K mg base "address_in" ["state", "row"] 3 (zm K qE)
include X G a_words h_address_of in
theorem F5 (a:zS K "address_in" Vo):YX P w K mg base:=(a.d2 X G).oS P w base 2 qE GT yK fun hr=>(ze (zy (zw h_address_of hr rfl (zB (zQ (zO (zI hr)) zP (xC (z7 0) a_words) (zQ (zO (zI hr)) zP (z7 1) zE)) (zB (zQ (zO (zI hr)) zP (z7 1) zE) zN)))))
noncomputable abbrev Vw:Stmt:=top 64
theorem GZ:zX ["state", "row"] ["state", "row"] (zH Vw):=by ac_rfl
variable (h_address_in:YX P w K mg base)
noncomputable def Yf:HT:=fun P w K mg base=>zi P w K mg base "do_load" ["state", "row"] 4 (zx K g6)
include X G a_words a_held h_byte_at h_address_in in
theorem FI (a:zS K "do_load" Vw):Yf P w K mg base:=(a.d2 X G).oM P w base 3 g6 GZ xY fun hr=>(yf (tW (wO (yE 0) a_words) (zQ (zO (zI hr)) zP (z7 1) zE) (uK (zw h_byte_at hr rfl (zB (xC (z7 0) a_held) (zB (zw h_address_in hr rfl (zB (z7 0) (zB (z7 1) zN))) zN))))))
noncomputable abbrev Vx:Stmt:=top 65
theorem Gb:zX ["state", "row"] ["state", "row"] (zH Vx):=by ac_rfl
variable (h_word_at:XJ P w K mg base)
noncomputable def Yg:HT:=fun P w K mg base=>zi P w K mg base "do_loadw" ["state", "row"] 5 (zx K g7)
include X G a_words a_held h_word_at h_address_in in
theorem FJ (a:zS K "do_loadw" Vx):Yg P w K mg base:=(a.d2 X G).oM P w base 4 g7 Gb xY fun hr=>(yf (tW (wO (yE 0) a_words) (zQ (zO (zI hr)) zP (z7 1) zE) (uK (zw h_word_at hr rfl (zB (xC (z7 0) a_held) (zB (zw h_address_in hr rfl (zB (z7 0) (zB (z7 1) zN))) zN))))))
noncomputable abbrev U0:Stmt:=top 66
theorem Ge:zX ["state", "row"] ["state", "row"] (zH U0):=by ac_rfl
noncomputable def Yk:HT:=fun P w K mg base=>zi P w K mg base "do_store" ["state", "row"] 4 (zx K g9)
include X G a_words a_held h_put_byte h_address_in in
theorem FP (a:zS K "do_store" U0):Yk P w K mg base:=(a.d2 X G).oM P w base 3 g9 Ge xY fun hr=>(yf (uM (uq h_put_byte hr rfl (vD (wO (yE 0) a_held) (Zi (zw h_address_in hr rfl (zB (z7 0) (zB (z7 1) zN))) (Zi (zQ (zO (zI hr)) zP (xC (z7 0) a_words) (zQ (zO (zI hr)) zP (z7 1) zE)) wq))))))
noncomputable abbrev U1:Stmt:=top 67
theorem Gf:zX ["state", "row"] ["state", "row"] (zH U1):=by ac_rfl
variable (h_put_word:XB P w K mg base)
noncomputable def Yl:HT:=fun P w K mg base=>zi P w K mg base "do_storew" ["state", "row"] 5 (zx K gA)
include X G a_words a_held h_put_word h_address_in in
theorem FQ (a:zS K "do_storew" U1):Yl P w K mg base:=(a.d2 X G).oM P w base 4 gA Gf xY fun hr=>(yf (uM (uq h_put_word hr rfl (vD (wO (yE 0) a_held) (Zi (zw h_address_in hr rfl (zB (z7 0) (zB (z7 1) zN))) (Zi (zQ (zO (zI hr)) zP (xC (z7 0) a_words) (zQ (zO (zI hr)) zP (z7 1) zE)) wq))))))
noncomputable abbrev Vz:Stmt:=top 69
theorem Gc:zX ["state", "row"] ["state", "row"] (zH Vz):=by ac_rfl
variable (g_DEEDS:yL mg "DEEDS" (.ref A_DEEDS)) (d_DEEDS:pF K w mg A_DEEDS vi QB) (h_do_set:Yj P w K mg base) (h_do_high:Ye P w K mg base) (h_do_copy:Yd P w K mg base) (h_do_sum:Ym P w K mg base) (h_do_bits:Yc P w K mg base) (h_do_move:Yh P w K mg base) (h_do_load:Yf P w K mg base) (h_do_loadw:Yg P w K mg base) (h_do_store:Yk P w K mg base) (h_do_storew:Yl P w K mg base)
noncomputable def Yi:HT:=fun P w K mg base=>zi P w K mg base "do_row" ["state", "row"] 6 (zx K qG)
include X G g_DEEDS d_DEEDS h_do_set h_do_high h_do_copy h_do_sum h_do_bits h_do_move h_do_load h_do_loadw h_do_store h_do_storew in
theorem FN (a:zS K "do_row" Vz):Yi P w K mg base:=(a.d2 X G).oM P w base 5 qG Gc xY fun hr=>(yf (qe (tX (Hb g_DEEDS d_DEEDS rfl (zQ (zO (zI hr)) zP (z7 1) zE))) (yf (uM (DQ g_DEEDS d_DEEDS rfl (xR.cons h_do_set (by decide) (xR.cons h_do_high (by decide) (xR.cons h_do_copy (by decide) (xR.cons h_do_sum (by decide) (xR.cons h_do_sum (by decide) (xR.cons h_do_sum (by decide) (xR.cons h_do_sum (by decide) (xR.cons h_do_sum (by decide) (xR.cons h_do_bits (by decide) (xR.cons h_do_bits (by decide) (xR.cons h_do_bits (by decide) (xR.cons h_do_move (by decide) (xR.cons h_do_move (by decide) (xR.cons h_do_load (by decide) (xR.cons h_do_loadw (by decide) (xR.cons h_do_store (by decide) (xR.cons h_do_storew (by decide) xR.nil))))))))))))))))) hr (zQ (zO (zI hr)) zP (z7 1) zE) (vD (yE 0) (wY (z7 1) wq))))) qf))
noncomputable abbrev UH:Stmt:=top 70
theorem Gp:zX ["state", "row"] ["state", "row"] (zH UH):=by ac_rfl
noncomputable def X0:HT:=fun P w K mg base=>zi P w K mg base "leads" ["state", "row"] 1 (zm K p9)
include X G a_truths in
theorem Fk (a:zS K "leads" UH):X0 P w K mg base:=(a.d2 X G).oS P w base 0 p9 Gp yK fun hr=>(zn (yo (yI (yx (yZ hr)) yu (zJ (zQ (zO (zI hr)) zP (z7 1) zE)) (zJ zc) (yA _)) (ze (zy (zQ (zO (zI hr)) zP (xC (z7 0) a_truths) (zQ (zO (zI hr)) zP (z7 1) zE)))) yr) (zn (yo (yI (yx (yZ hr)) yu (zJ (zQ (zO (zI hr)) zP (z7 1) zE)) (zJ zc) (yA _)) (ze (zy (HE (zQ (zO (zI hr)) zP (xC (z7 0) a_truths) (zQ (zO (zI hr)) zP (z7 1) zE))))) yr) (ze (zy (wN (yx (yZ hr)) yu (zJ (zQ (zO (zI hr)) zP (z7 1) zE)) (zJ zc) (yA _))))))
noncomputable abbrev Uc:Stmt:=top 73
theorem HA:zX ["registers"] ["registers"] (zH Uc):=by ac_rfl
variable (z_all:mg "all" = none) (g_REGISTER_COUNT:yL mg "REGISTER_COUNT" (.int 8)) (q_REGISTER_COUNT:∀ H,zK K H (.int 8) (.int 8))
noncomputable def XM:HT:=fun P w K mg base=>zi P w K mg base "words_from" ["registers"] 2 (zm K gL)
include X G z_len z_isinstance z_list z_all g_REGISTER_COUNT q_REGISTER_COUNT g_WORD_BITS q_WORD_BITS h_is_number in
theorem CC (a:zS K "words_from" Uc):XM P w K mg base:=(a.d1 X G).oS P w base 1 gL HA yK fun hr=>(zn (yo (yI JU JP (zJ (z7 0)) (zJ jr) (yA _)) (ze (ql (HM (wy (zB zE zN) (yR (zT yS) (by decide))) (xL g_REGISTER_COUNT q_REGISTER_COUNT rfl)))) yr) (zn (yo (pr (Y8 (qm (w_ (kQ .list rfl rfl z_isinstance z_list WN (zJ (z7 0))))) (Y9 (yI (jk (yZ hr)) jh (zJ (t4 pP pd rfl z_len qT (uz (zJ (z7 0)) u_))) (zJ (xL g_REGISTER_COUNT q_REGISTER_COUNT rfl)) (yA _))))) kX yr) (zn (yo (qm (w_ (t4 (LJ rfl) F7 rfl z_all LB (uz (zJ (xA (t5 rfl (ua (own:=["thing"]) rfl) (t6 (z7 0)) (tN (fun C s H fp pn=>(xv (i:=1) (show (v8 ["registers"] ["thing"]).Nodup by decide +kernel) rfl (Or.inl rfl))) rfl) (fun C s H fp pn=>qo) (fun C s H fp pn=>(zw h_is_number hr rfl (zB (z7 1) (zB (xL g_WORD_BITS q_WORD_BITS rfl) zN))))))) u_)))) kX yr) (ze (ql (jt rfl z_list (zB (z7 0) zN)))))))
noncomputable abbrev tw:Stmt:=uj (top 74) 2
theorem GR:zX ["self"] ["self"] (zH tw):=by ac_rfl
variable (a_due:xD K ["RowMachine"] "due") (a_table:xD K ["RowMachine"] "table") (a_end:xD K ["RowMachine"] "end")
include a_due a_table a_end in
theorem D_ {f:Addr} {fd:FuncData} (d:xZ K "stands" "Machine.stands" tw f fd):yO P w K mg base yJ 1 f fd ["self"] (zm K tJ):=d.oF P w mg base 0 tJ GR yK fun hr=>(ze (zy (Ij (wN (yx (yZ hr)) yu (zJ (xC (z7 0) a_due)) (zJ (xC (z7 0) a_end)) (yA _)) (js (wN (yx (yZ hr)) yu (zJ (zQ (zO (zI hr)) zP (zQ (zO (zI hr)) zP (xC (z7 0) a_table) (xC (z7 0) a_due)) zE)) (zJ (xV (zB zc zN) (yR (zT yS) (by decide)))) (yA _))))))
noncomputable abbrev tm:Stmt:=uj (top 74) 1
theorem GN:zX ["self"] ["self"] (zH tm):=by ac_rfl
variable (a_state:xD K ["RowMachine"] "state") (a_first_held:xD K ["RowMachine"] "first_held") (a_first_words:xD K ["RowMachine"] "first_words") (a_done:xD K ["RowMachine"] "done") (k_State:kz P w K mg base "State" ["self", "words", "held"] 1 (zx K q_))
include a_state a_first_held a_first_words a_due a_done k_State in
theorem Dv {f:Addr} {fd:FuncData} (d:xZ K "again" "Machine.again" tm f fd):yO P w K mg base yJ 3 f fd ["self"] (zx K tI):=d.oM P w mg base 2 tI GN xY fun hr=>(yG (uN (yE 0) a_state (DS k_State hr rfl (vD (wO (yE 0) a_first_words) (vD (wO (yE 0) a_first_held) wq)))) (yG (uN (yE 0) a_due (y_ zE)) (yf (uN (yE 0) a_done (y_ zE)))))
noncomputable abbrev tz:Stmt:=uj (top 74) 3
theorem IT:zX ["self", "told"] ["self"] (zH tz):=by ac_rfl
variable (v_Machine_stands:xy P w K mg base "RowMachine" "stands" ["self"] 1 (zm K tJ)) (h_do_row:Yi P w K mg base) (h_leads:X0 P w K mg base)
include a_due a_table a_state a_done v_Machine_stands h_do_row h_leads in
theorem F0 {f:Addr} {fd:FuncData} (d:xZ K "step" "Machine.step" tz f fd):yO P w K mg base yJ 7 f fd ["self"] (zx K wH):=d.oM P w mg base 6 wH IT xY fun hr=>(yG (qe (tX (w_ (Uk v_Machine_stands hr (z7 0)))) (yf (tV (y_ vw))) qf) (yG (wZ (i:=1) IT.nd rfl (Or.inl rfl) (by decide) (uK (zQ (zO (zI hr)) zP (xC (z7 0) a_table) (xC (z7 0) a_due)))) (yG (uM (uq h_do_row hr rfl (vD (wO (yE 0) a_state) (wY (zQ (zO (zI hr)) zP (z7 1) zE) wq)))) (yG (uN (yE 0) a_due (uK (pq (w_ (zw h_leads hr rfl (zB (xC (z7 0) a_state) (zB (zQ (zO (zI hr)) zP (z7 1) zE) zN)))) (zQ (zO (zI hr)) zP (z7 1) zE) (zQ (zO (zI hr)) zP (z7 1) zE)))) (yG (Dc (yE 0) a_done zE) (yf (tV (y_ vw))))))))
noncomputable abbrev tu:Stmt:=uj (top 74) 5
theorem GQ:zX ["self"] ["self"] (zH tu):=by ac_rfl
include z_list a_state a_words in
theorem Dy {f:Addr} {fd:FuncData} (d:xZ K "registers" "Machine.registers" tu f fd):yO P w K mg base yJ 1 f fd ["self"] (zm K qz):=d.oF P w mg base 0 qz GQ yK fun hr=>(ze (ql (jt rfl z_list (zB (xC (xC (z7 0) a_state) a_words) zN))))
noncomputable abbrev tq:Stmt:=uj (top 74) 6
theorem GO:zX ["self"] ["self"] (zH tq):=by ac_rfl
include z_tuple g_MARKS q_MARKS a_state a_truths in
theorem Dw {f:Addr} {fd:FuncData} (d:xZ K "marks" "Machine.marks" tq f fd):yO P w K mg base yJ 1 f fd ["self"] (zm K qx):=d.oF P w mg base 0 qx GO yK fun hr=>(ze (zy (Ii Tx JS rfl z_tuple WO (zB (xA (t5 rfl (ua (own:=["mark"]) rfl) (t6 (xL g_MARKS q_MARKS rfl)) (tN (fun C s H fp pn=>(xv (i:=1) (show (v8 ["self"] ["mark"]).Nodup by decide +kernel) rfl (Or.inl rfl))) rfl) (fun C s H fp pn=>qo) (fun C s H fp pn=>(zQ (zO (zI hr)) zP (xC (xC (z7 0) a_state) a_truths) (z7 1))))) zN))))
noncomputable abbrev tt:Stmt:=uj (top 74) 7
theorem GP:zX ["self"] ["self"] (zH tt):=by ac_rfl
variable (h_pairs_of:X7 P w K mg base)
include a_state a_held h_pairs_of in
theorem Dx {f:Addr} {fd:FuncData} (d:xZ K "memory" "Machine.memory" tt f fd):yO P w K mg base yJ 2 f fd ["self"] (zm K qy):=d.oF P w mg base 1 qy GP yK fun hr=>(ze (ql (uS h_pairs_of hr rfl (zB (xC (xC (z7 0) a_state) a_held) zN))))
noncomputable abbrev tj:Stmt:=uj (top 74) 0
theorem GM:zX ["self", "table", "end", "registers", "memory"] ["self", "table", "end", "registers", "memory"] (zH tj):=by ac_rfl
variable (v_Machine_again:xy P w K mg base "RowMachine" "again" ["self"] 3 (zx K tI)) (h_words_from:XM P w K mg base) (h_bytes_from:Ya P w K mg base)
include a_table a_end a_first_words a_first_held v_Machine_again h_words_from h_bytes_from in
theorem Du {f:Addr} {fd:FuncData} (d:xZ K "__init__" "Machine.__init__" tj f fd):yO P w K mg base yJ 5 f fd ["self", "table", "end", "registers", "memory"] (zx K qw):=d.oM P w mg base 4 qw GM xY fun hr=>(yG (uN (yE 0) a_table (y_ (z7 1))) (yG (uN (yE 0) a_end (y_ (z7 2))) (yG (uN (yE 0) a_first_words (y_ (xA (uS h_words_from hr rfl (zB (z7 3) zN))))) (yG (uN (yE 0) a_first_held (y_ (xA (uS h_bytes_from hr rfl (zB (z7 4) zN))))) (yf (uM (JH v_Machine_again hr (yE 0))))))))
noncomputable abbrev UV:Stmt:=top 77
theorem kM:zX ["items", "rows", "table", "number", "target"] ["items"] (zH UV):=by ac_rfl
variable (z_enumerate:mg "enumerate" = none) (h_targets_of:XG P w K mg base)
noncomputable def XE:HT:=fun P w K mg base=>zi P w K mg base "table_of_rows" ["items"] 4 (zm K gI)
include X G z_enumerate h_rows_of h_targets_of in
theorem C5 (a:zS K "table_of_rows" UV):XE P w K mg base:=(a.d1 X G).oS P w base 3 gI kM yK fun hr=>(zn (xM (i:=1) kM.nd rfl (Or.inl rfl) (xA (uS h_rows_of hr rfl (zB (z7 0) zN)))) (zn (Y7 (i:=2) kM.nd rfl (Or.inl rfl) Um) (zn (Y6 PassesOwn.never rfl (HQ rfl z_enumerate (xA (uS h_targets_of hr rfl (zB (z7 0) zN)))) (HP (Ve (n:=2) rfl (jm (xv (i:=3) kM.nd rfl (Or.inl rfl)) (jm (xv (i:=4) kM.nd rfl (Or.inl rfl)) Vf))) rfl rfl) (ze (Up (zI hr) (qv 2) (z7 3) (xV (zB (zQ (zO (zI hr)) zP (z7 1) (z7 3)) (zB (zU vU vS (z7 3) zE) (zB (z7 4) zN))) (yR (zT (zT (zT yS))) (by decide)))))) (ze (kY 2)))))
noncomputable abbrev wD:Stmt:=uj (top 76) 0
theorem IU:zX ["self", "items", "registers", "memory", "table"] ["self", "items", "registers", "memory"] (zH wD):=by ac_rfl
variable (w_Machine___init__:ku P w K mg base "Machine" "__init__" ["self", "table", "end", "registers", "memory"] 5 (zx K qw)) (h_table_of_rows:XE P w K mg base)
include z_len w_Machine___init__ h_table_of_rows in
theorem F2 {f:Addr} {fd:FuncData} (d:xZ K "__init__" "RowMachine.__init__" wD f fd):yO P w K mg base yJ 6 f fd ["self", "items", "registers", "memory"] (zx K uX):=d.oM P w mg base 5 uX IU xY fun hr=>(yG (wZ (i:=4) IU.nd rfl (Or.inl rfl) (by decide) (y_ (xA (uS h_table_of_rows hr rfl (zB (z7 1) zN))))) (yf (uM (DP (pl:=_) w_Machine___init__ hr rfl (vD (yE 0) (wY (z7 4) (wY (t4 LO Fm rfl z_len qT (uz (zJ (z7 4)) u_)) (wY (z7 2) (wY (z7 3) wq)))))))))
noncomputable abbrev UJ:Stmt:=top 37
theorem Gs:zX ["mark"] ["mark"] (zH UJ):=by ac_rfl
variable (g_MARK_LOW:yL mg "MARK_LOW" (.int 8)) (q_MARK_LOW:∀ H,zK K H (.int 8) (.int 8)) (k_MARKS:u5 K A_MARKS)
noncomputable def X2:HT:=fun P w K mg base=>zi P w K mg base "mark_bit" ["mark"] 1 (zm K pB)
include X G g_MARK_LOW q_MARK_LOW g_MARKS q_MARKS k_MARKS in
theorem Fo (a:zS K "mark_bit" UJ):X2 P w K mg base:=(a.d1 X G).oS P w base 0 pB Gs yK fun hr=>(ze (zy (zU vt vq zE (zU vU vS (xL g_MARK_LOW q_MARK_LOW rfl) (HD g_MARKS q_MARKS k_MARKS rfl (z7 0))))))
noncomputable abbrev UM:Stmt:=top 38
theorem Gt:zX ["row"] ["row"] (zH UM):=by ac_rfl
noncomputable def X6:HT:=fun P w K mg base=>zi P w K mg base "moves_by_nought" ["row"] 1 (zm K YV)
include X G in
theorem Fv (a:zS K "moves_by_nought" UM):X6 P w K mg base:=(a.d1 X G).oS P w base 0 YV Gt yK fun hr=>(ze (zy (Y2 (Ij (wN (yx (yZ hr)) yu (zJ (zQ (zO (zI hr)) zP (z7 0) zE)) (zJ zc) (yA _)) (js (wN (yx (yZ hr)) yu (zJ (zQ (zO (zI hr)) zP (z7 0) zE)) (zJ zc) (yA _)))) (js (wN (yx (yZ hr)) yu (zJ (zQ (zO (zI hr)) zP (z7 0) zE)) (zJ zE) (yA _))))))
noncomputable abbrev UY:Stmt:=top 35
theorem kN:zX ["row", "need"] ["row"] (zH UY):=by ac_rfl
variable (g_ALL_NEEDED:yL mg "ALL_NEEDED" (.int 2047)) (q_ALL_NEEDED:∀ H,zK K H (.int 2047) (.int 2047)) (g_LOOK_AT_D:yL mg "LOOK_AT_D" (.ref A_LOOK_AT_D)) (q_LOOK_AT_D:∀ H,zK K H V1 (.ref A_LOOK_AT_D)) (g_LOOK_AT_S:yL mg "LOOK_AT_S" (.ref A_LOOK_AT_S)) (q_LOOK_AT_S:∀ H,zK K H V2 (.ref A_LOOK_AT_S)) (g_LOOK_AT_CARRY:yL mg "LOOK_AT_CARRY" (.ref A_LOOK_AT_CARRY)) (q_LOOK_AT_CARRY:∀ H,zK K H V0 (.ref A_LOOK_AT_CARRY)) (h_mark_bit:X2 P w K mg base)
noncomputable def XH:HT:=fun P w K mg base=>zi P w K mg base "used" ["row"] 2 (zm K jD)
include X G g_ALL_NEEDED q_ALL_NEEDED g_LOOK_AT_D q_LOOK_AT_D g_LOOK_AT_S q_LOOK_AT_S g_LOOK_AT_CARRY q_LOOK_AT_CARRY h_mark_bit in
theorem C8 (a:zS K "used" UY):XH P w K mg base:=(a.d1 X G).oS P w base 1 jD kN yK fun hr=>(zn (yo (yI (yx (yZ hr)) yu (zJ (zQ (zO (zI hr)) zP (z7 0) zE)) (zJ zc) (yA _)) (ze (zy (xL g_ALL_NEEDED q_ALL_NEEDED rfl))) yr) (zn (yo (pr (Y8 (yI (yx (yZ hr)) yu (zJ (zQ (zO (zI hr)) zP (z7 0) zE)) (zJ zc) (yA _)) (Y9 (yI (yx (yZ hr)) yu (zJ (zQ (zO (zI hr)) zP (z7 0) zE)) (zJ zc) (yA _))))) (ze (zy (zw h_mark_bit hr rfl (zB (zQ (zO (zI hr)) zP (z7 0) zE) zN)))) yr) (zn (xM (i:=1) kN.nd rfl (Or.inl rfl) zE) (zn (yo (yI (vV (zI hr)) vT (zJ (zQ (zO (zI hr)) zP (z7 0) zE)) (zJ (xL g_LOOK_AT_D q_LOOK_AT_D rfl)) (by with_unfolding_all rfl)) (ze (xM (i:=1) kN.nd rfl (Or.inl rfl) (zU ut wB (z7 1) (zU vt vq zE (zQ (zO (zI hr)) zP (z7 0) zE))))) yr) (zn (yo (yI (vV (zI hr)) vT (zJ (zQ (zO (zI hr)) zP (z7 0) zE)) (zJ (xL g_LOOK_AT_S q_LOOK_AT_S rfl)) (by with_unfolding_all rfl)) (ze (xM (i:=1) kN.nd rfl (Or.inl rfl) (zU ut wB (z7 1) (zU vt vq zE (zQ (zO (zI hr)) zP (z7 0) zE))))) yr) (zn (yo (yI (vV (zI hr)) vT (zJ (zQ (zO (zI hr)) zP (z7 0) zE)) (zJ (xL g_LOOK_AT_CARRY q_LOOK_AT_CARRY rfl)) (by with_unfolding_all rfl)) (ze (xM (i:=1) kN.nd rfl (Or.inl rfl) (zU ut wB (z7 1) (zw h_mark_bit hr rfl (zB zc zN))))) yr) (ze (zy (z7 1)))))))))
noncomputable abbrev UQ:Stmt:=top 36
theorem kL:zX ["row", "need"] ["row"] (zH UQ):=by ac_rfl
variable (g_PUT_D:yL mg "PUT_D" (.ref A_PUT_D)) (q_PUT_D:∀ H,zK K H V4 (.ref A_PUT_D)) (g_PUT_NOUGHT_AND_SIGN:yL mg "PUT_NOUGHT_AND_SIGN" (.ref A_PUT_NOUGHT_AND_SIGN)) (q_PUT_NOUGHT_AND_SIGN:∀ H,zK K H V5 (.ref A_PUT_NOUGHT_AND_SIGN)) (g_PUT_CARRY:yL mg "PUT_CARRY" (.ref A_PUT_CARRY)) (q_PUT_CARRY:∀ H,zK K H V3 (.ref A_PUT_CARRY)) (h_moves_by_nought:X6 P w K mg base)
noncomputable def X9:HT:=fun P w K mg base=>zi P w K mg base "put" ["row"] 2 (zm K jA)
include X G g_PUT_D q_PUT_D g_PUT_NOUGHT_AND_SIGN q_PUT_NOUGHT_AND_SIGN g_PUT_CARRY q_PUT_CARRY h_mark_bit h_moves_by_nought in
theorem F_ (a:zS K "put" UQ):X9 P w K mg base:=(a.d1 X G).oS P w base 1 jA kL yK fun hr=>(zn (xM (i:=1) kL.nd rfl (Or.inl rfl) zE) (zn (yo (yI (vV (zI hr)) vT (zJ (zQ (zO (zI hr)) zP (z7 0) zE)) (zJ (xL g_PUT_D q_PUT_D rfl)) (by with_unfolding_all rfl)) (ze (xM (i:=1) kL.nd rfl (Or.inl rfl) (zU ut wB (z7 1) (zU vt vq zE (zQ (zO (zI hr)) zP (z7 0) zE))))) yr) (zn (yo (yI (vV (zI hr)) vT (zJ (zQ (zO (zI hr)) zP (z7 0) zE)) (zJ (xL g_PUT_NOUGHT_AND_SIGN q_PUT_NOUGHT_AND_SIGN rfl)) (by with_unfolding_all rfl)) (ze (xM (i:=1) kL.nd rfl (Or.inl rfl) (zU ut wB (zU ut wB (z7 1) (zw h_mark_bit hr rfl (zB zc zN))) (zw h_mark_bit hr rfl (zB zc zN))))) yr) (zn (yo (pr (Us (yI (vV (zI hr)) vT (zJ (zQ (zO (zI hr)) zP (z7 0) zE)) (zJ (xL g_PUT_CARRY q_PUT_CARRY rfl)) (by with_unfolding_all rfl)) (Uu (qm (w_ (zw h_moves_by_nought hr rfl (zB (z7 0) zN))))))) (ze (xM (i:=1) kL.nd rfl (Or.inl rfl) (zU ut wB (z7 1) (zw h_mark_bit hr rfl (zB zc zN))))) yr) (ze (zy (z7 1)))))))
noncomputable abbrev vv:Stmt:=uj (top 74) 4
theorem Ud:zX ["self", "most", "count"] ["self", "most"] (zH vv):=by ac_rfl
variable (v_Machine_step:xy P w K mg base "RowMachine" "step" ["self"] 7 (zx K wH))
include v_Machine_step in
theorem Dz {f:Addr} {fd:FuncData} (d:xZ K "run" "Machine.run" vv f fd):yO P w K mg base yJ 8 f fd ["self", "most"] (zx K v_):=d.oM P w mg base 7 v_ Ud xY fun hr=>(yG (wZ (i:=2) Ud.nd rfl (Or.inl rfl) (by decide) (y_ zE)) (yG (Dd PassesOwn.never (Dj (Dh (tX (yI Zn jg (zJ (z7 2)) (zJ (z7 1)) (yA _))) (Di (Dg (JH v_Machine_step hr (yE 0)))))) (yf (Db (i:=2) Qv JO Ud.nd rfl (Or.inl rfl) (by decide) zE))) (yf (tV (y_ (z7 2))))))
noncomputable abbrev UB:Stmt:=top 79
theorem Go:zX ["_law_script", "_law_k"] ["_law_script", "_law_k"] (zH UB):=by ac_rfl
noncomputable def Yv:HT:=fun P w K mg base=>zi P w K mg base "_law_cell_at" ["_law_script", "_law_k"] 1 (zm K j8)
include X G z_len in
theorem Fe (a:zS K "_law_cell_at" UB):Yv P w K mg base:=(a.d2 X G).oS P w base 0 j8 Go GD fun hr=>(zn (yo (yI Zn jg (zJ (z7 1)) (zJ (t4 pP pd rfl z_len qT (uz (zJ (z7 0)) u_))) (yA _)) (ze (zy (zQ (zO (zI hr)) zP (z7 0) (z7 1)))) yr) (ze (zy zE)))
noncomputable abbrev UD:Stmt:=top 80
theorem IZ:zX ["_law_script", "_law_k", "_law_mark_here"] ["_law_script", "_law_k"] (zH UD):=by ac_rfl
variable (h_law_cell_at:Yv P w K mg base)
noncomputable def Yx:HT:=fun P w K mg base=>zi P w K mg base "_law_mark" ["_law_script", "_law_k"] 2 (zm K p8)
include X G z_len h_law_cell_at in
theorem Fg (a:zS K "_law_mark" UD):Yx P w K mg base:=(a.d2 X G).oS P w base 1 p8 IZ yK fun hr=>(zn (xM (i:=2) IZ.nd rfl (Or.inl rfl) (zU vU vS (zU vU vS (zU vU vS (zU Zo JR (zw h_law_cell_at hr rfl (zB (z7 0) (zB (z7 1) zN))) zE) (zU Zo JQ zE (z7 1))) (zU Zo JQ zE (t4 pP pd rfl z_len qT (uz (zJ (z7 0)) u_)))) zE)) (ze (zy (zU xG xF (zU Zo JR (zU xG xF (zU CO Fw (z7 2) (z7 2)) zE) zE) zE))))
noncomputable abbrev UG:Stmt:=top 81
theorem Ug:zX ["_law_found"] [] (zH UG):=by ac_rfl
noncomputable def Y_:HT:=fun P w K mg base=>zi P w K mg base "_law_words" [] 1 (zm K gE)
include X G in
theorem Fj (a:zS K "_law_words" UG):Y_ P w K mg base:=(a.d0 X G).oS P w base 0 gE Ug yK fun hr=>(zn (xM (i:=0) Ug.nd rfl (Or.inl rfl) (xA (wy (zB zc (zB zc (zB zc (zB zc (zB zc (zB zc (zB zc (zB zc (zB zc (zB zc (zB zc (zB zc (zB zc zN))))))))))))) (yR (zT (zT (zT (zT (zT (zT (zT (zT (zT (zT (zT (zT (zT yS))))))))))))) (by decide))))) (zn (xM (i:=0) Ug.nd rfl (Or.inl rfl) (zU vU vS (z7 0) (xA (wy (zB zc (zB zc (zB zc (zB zc (zB zc (zB zc (zB zc (zB zc zN)))))))) (yR (zT (zT (zT (zT (zT (zT (zT (zT yS)))))))) (by decide)))))) (ze (zy (zU vU vS (z7 0) (xA (wy (zB zc (zB zc (zB zc (zB zc (zB zc (zB zc (zB zc zN))))))) (yR (zT (zT (zT (zT (zT (zT (zT yS))))))) (by decide)))))))))
noncomputable abbrev UF:Stmt:=top 82
theorem jq:zX ["_law_mark_here", "_law_names", "_law_many", "_law_word", "_law_one", "_law_two", "_law_rest"] ["_law_mark_here", "_law_names", "_law_many"] (zH UF):=by ac_rfl
variable (h_law_words:Y_ P w K mg base)
noncomputable def Yz:HT:=fun P w K mg base=>zi P w K mg base "_law_row_by" ["_law_mark_here", "_law_names", "_law_many"] 2 (zm K j9)
include X G z_len h_law_words in
theorem Fi (a:zS K "_law_row_by" UF):Yz P w K mg base:=(a.d3 X G).oS P w base 1 j9 jq yK fun hr=>(zn (xM (i:=3) jq.nd rfl (Or.inl rfl) (zQ (zO (zI hr)) zP (HB h_law_words hr rfl) (zU xG xF (z7 0) zE))) (zn (xM (i:=0) jq.nd rfl (Or.inl rfl) (zU uP uO (z7 0) zE)) (zn (xM (i:=4) jq.nd rfl (Or.inl rfl) (zU xG xF (z7 0) (z7 2))) (zn (xM (i:=5) jq.nd rfl (Or.inl rfl) (zU xG xF (zU uP uO (z7 0) zE) (z7 2))) (zn (xM (i:=6) jq.nd rfl (Or.inl rfl) (zU uP uO (z7 0) zE)) (zn (yo (yI (vV (zI hr)) vT (zJ (z7 3)) (zJ (xV (zB zc (zB zc zN)) (yR (zT (zT yS)) (by decide)))) (by with_unfolding_all rfl)) (ze (zy (xV (zB (z7 3) (zB (z7 4) (zB (zQ (zO (zI hr)) zP (xA (wy (zB (zU xG xF (z7 6) zE) (zB (zU xG xF (z7 6) zE) zN)) (yR (zT (zT yS)) (by decide)))) (zU xG xF (zU uP uO (z7 0) zE) zE)) zN))) (yR (zT (zT (zT yS))) (by decide))))) yr) (zn (yo (yI (vV (zI hr)) vT (zJ (z7 3)) (zJ (xV (zB zc (zB zc zN)) (yR (zT (zT yS)) (by decide)))) (by with_unfolding_all rfl)) (ze (zy (xV (zB (z7 3) (zB (z7 4) (zB (zQ (zO (zI hr)) zP (xA (wy (zB (zU xG xF (z7 6) zE) (zB (zU xG xF (z7 6) zE) zN)) (yR (zT (zT yS)) (by decide)))) (zU xG xF (zU uP uO (z7 0) zE) zE)) zN))) (yR (zT (zT (zT yS))) (by decide))))) yr) (zn (yo (yI (vV (zI hr)) vT (zJ (z7 3)) (zJ (xV (zB zc (zB zc (zB zc (zB zc zN)))) (yR (zT (zT (zT (zT yS)))) (by decide)))) (by with_unfolding_all rfl)) (ze (zy (xV (zB (z7 3) (zB (z7 4) (zB (z7 5) (zB (zQ (zO (zI hr)) zP (xA (wy (zB (zU xG xF (z7 6) zE) (zB (zU xG xF (z7 6) zE) zN)) (yR (zT (zT yS)) (by decide)))) (zU xG xF (zU uP uO (z7 0) zE) zE)) zN)))) (yR (zT (zT (zT (zT yS)))) (by decide))))) yr) (zn (yo (yI (yx (yZ hr)) yu (zJ (z7 3)) (zJ zc) (yA _)) (ze (zy (xV (zB (z7 3) (zB (zQ (zO (zI hr)) zP (z7 1) (zU xG xF (z7 6) (t4 pP pd rfl z_len qT (uz (zJ (z7 1)) u_)))) zN)) (yR (zT (zT yS)) (by decide))))) yr) (zn (yo (yI (vV (zI hr)) vT (zJ (z7 3)) (zJ (xV (zB zc (zB zc zN)) (yR (zT (zT yS)) (by decide)))) (by with_unfolding_all rfl)) (ze (zy (xV (zB (z7 3) (zB (zQ (zO (zI hr)) zP (xA (wy (zB zc (zB zc (zB zc zN))) (yR (zT (zT (zT yS))) (by decide)))) (zU xG xF (z7 5) zE)) (zB (zQ (zO (zI hr)) zP (z7 1) (zU xG xF (z7 6) (t4 pP pd rfl z_len qT (uz (zJ (z7 1)) u_)))) zN))) (yR (zT (zT (zT yS))) (by decide))))) yr) (zn (yo (yI (yx (yZ hr)) yu (zJ (z7 3)) (zJ zc) (yA _)) (ze (zy (xV (zB (z7 3) zN) (yR (zT yS) (by decide))))) yr) (ze (zy (xV (zB (z7 3) (zB (z7 4) (zB (z7 5) zN))) (yR (zT (zT (zT yS))) (by decide))))))))))))))))
noncomputable abbrev UE:Stmt:=top 83
theorem Y1:zX ["_law_script", "_law_first", "_law_found", "_law_k", "_law_mark_here"] ["_law_script", "_law_first"] (zH UE):=by ac_rfl
variable (h_law_mark:Yx P w K mg base)
noncomputable def Yy:HT:=fun P w K mg base=>zi P w K mg base "_law_registers" ["_law_script", "_law_first"] 3 (zm K gD)
include X G z_range h_law_mark in
theorem Fh (a:zS K "_law_registers" UE):Yy P w K mg base:=(a.d2 X G).oS P w base 2 gD Y1 yK fun hr=>(zn (Y7 (i:=2) Y1.nd rfl (Or.inl rfl) (wy zN (yR yS (by decide)))) (zn (Y6 PassesOwn.never rfl (Y4 rfl z_range zE) (Uo (xv (i:=3) Y1.nd rfl (Or.inl rfl)) rfl) (zn (xM (i:=4) Y1.nd rfl (Or.inl rfl) (zw h_law_mark hr rfl (zB (z7 0) (zB (zU vU vS (z7 1) (z7 3)) zN)))) (ze (HY (qv 2) (zQ (zO (zI hr)) zP (xA (wy (zB (zU xG xF (z7 4) zE) (zB (zU xG xF (z7 4) zE) (zB (zU ph pf zE (zU xG xF (zU uP uO (z7 4) zE) zE)) (zB (zU xG xF (zU uP uO (z7 4) zE) zE) zN)))) (yR (zT (zT (zT (zT yS)))) (by decide)))) (zU xG xF (z7 4) zE)))))) (ze (kY 2))))
noncomputable abbrev UC:Stmt:=top 84
theorem IY:zX ["_law_rows", "_law_registers_here", "_law_machine"] ["_law_rows", "_law_registers_here"] (zH UC):=by ac_rfl
variable (kd1_RowMachine:XN P w K mg base "RowMachine" ["self", "items", "registers", "memory"] 6 (zx K uX) [.non]) (v_Machine_run:xy P w K mg base "RowMachine" "run" ["self", "most"] 8 (zx K v_)) (v_Machine_registers:xy P w K mg base "RowMachine" "registers" ["self"] 1 (zm K qz)) (v_Machine_marks:xy P w K mg base "RowMachine" "marks" ["self"] 1 (zm K qx)) (v_Machine_memory:xy P w K mg base "RowMachine" "memory" ["self"] 2 (zm K qy))
noncomputable def Yw:HT:=fun P w K mg base=>zi P w K mg base "_law_left_by" ["_law_rows", "_law_registers_here"] 9 (zx K tK)
include X G z_list z_len kd1_RowMachine v_Machine_run v_Machine_registers v_Machine_marks v_Machine_memory in
theorem Ff (a:zS K "_law_left_by" UC):Yw P w K mg base:=(a.d2 X G).oM P w base 8 tK IY xY fun hr=>(yG (wZ (i:=2) IY.nd rfl (Or.inl rfl) (by decide) (DT kd1_RowMachine hr rfl (wY (zU vU vS (z7 0) (xA (wy (zB (xV (zB zc zN) (yR (zT yS) (by decide))) zN) (yR (zT yS) (by decide))))) (DI (jt rfl z_list (zB (z7 1) zN)) wq)))) (yG (uM (DU v_Machine_run hr (yE 2) (wY (t4 pP pd rfl z_len qT (uz (zJ (z7 0)) u_)) wq))) (yf (tV (JG (gw (JG (gw (VM (jt rfl z_list (zB (Uk v_Machine_registers hr (z7 2)) zN)))) (gw (VM (jt rfl z_list (zB (Uk v_Machine_marks hr (z7 2)) zN)))))) (gw (DR (gw (VM (HL v_Machine_memory hr (z7 2)))))))))))
noncomputable abbrev pp:Stmt:=top 85
theorem uR:zX ["_law_script", "_law_row", "_law_registers_here", "_law_mark_here", "_law_tested", "_law_ahead", "_law_found", "_law_k", "_law_at", "_law_other"] ["_law_script"] (zH pp):=by ac_rfl
variable (h_law_left_by:Yw P w K mg base) (h_law_row_by:Yz P w K mg base) (h_law_registers:Yy P w K mg base) (h_put:X9 P w K mg base) (h_used:XH P w K mg base)
include z_range h_law_left_by h_law_row_by h_law_mark h_law_registers h_put h_used in
theorem Fd {f:Addr} {fd:FuncData} (d:Fun K "law" "law" pp f fd):yO P w K mg base yJ 10 f fd ["_law_script"] (kW K):=D7 d uR (by decide) xY GC fun cdv A outer s H E hr=>(yG (wZ (i:=1) uR.nd rfl (Or.inl rfl) (by decide) (y_ (zw h_law_row_by hr rfl (zB (zw h_law_mark hr rfl (zB (z7 0) (zB zE zN))) (zB (xA (wy (zB zc zN) (yR (zT yS) (by decide)))) (zB zE zN)))))) (yG (qe (tX (yI (vV (zI hr)) vT (zJ (zQ (zO (zI hr)) zP (z7 1) zE)) (zJ (xV (zB zc (zB zc (zB zc (zB zc zN)))) (yR (zT (zT (zT (zT yS)))) (by decide)))) (by with_unfolding_all rfl))) (yf (tV (y_ vw))) qf) (yG (wZ (i:=2) uR.nd rfl (Or.inl rfl) (by decide) (Zk (uS h_law_registers hr rfl (zB (z7 0) (zB zE zN))))) (yG (wZ (i:=3) uR.nd rfl (Or.inl rfl) (by decide) (y_ (zw h_law_mark hr rfl (zB (z7 0) (zB zE zN))))) (yG (wZ (i:=4) uR.nd rfl (Or.inl rfl) (by decide) (y_ (xV (zB zc (zB (zU xG xF (z7 3) zE) (zB (zU xG xF (zU uP uO (z7 3) zE) zE) zN))) (yR (zT (zT (zT yS))) (by decide))))) (yG (wZ (i:=5) uR.nd rfl (Or.inl rfl) (by decide) (uq h_law_left_by hr rfl (wY (xA (wy (zB (z7 4) zN) (yR (zT yS) (by decide)))) (vD (yE 2) wq)))) (yG (wZ (i:=6) uR.nd rfl (Or.inl rfl) (by decide) (uq h_law_left_by hr rfl (wY (xA (wy (zB (z7 4) (zB (z7 1) zN)) (yR (zT (zT yS)) (by decide)))) (vD (yE 2) wq)))) (yG (VP PassesOwn.never rfl (Y4 rfl z_range zE) (JJ (xv (i:=7) uR.nd rfl (Or.inl rfl)) rfl (by decide)) (yf (qe (tX (pr (Us (yI (yx (yZ hr)) yu (zJ (zU jj wB (zU kA k8 (zw h_put hr rfl (zB (z7 1) zN)) (z7 7)) zE)) (zJ zE) (yA _)) (Uu (yI (jk (yZ hr)) jh (zJ (zQ (zO (zI hr)) zP (z7 6) (z7 7))) (zJ (zQ (zO (zI hr)) zP (z7 5) (z7 7))) (yA _)))))) (yf (tV (y_ vw))) qf))) (yG (wZ (i:=8) uR.nd rfl (Or.inl rfl) (by decide) (y_ (zU xG xF (zU uP uO (z7 3) zE) zE))) (yG (qe (tX (yI (yx (yZ hr)) yu (zJ (zU jj wB (zU kA k8 (zU ut wB (zw h_used hr rfl (zB (z7 1) zN)) (zw h_used hr rfl (zB (z7 4) zN))) (z7 8)) zE)) (zJ zE) (yA _))) (yf (tV (y_ vw))) qf) (yG (tW (yE 2) (z7 8) (uK (zU JV wB (zQ (zO (zI hr)) zP (z7 2) (z7 8)) (zU vt vq zE (zU xG xF (zU uP uO (z7 3) zE) zE))))) (yG (wZ (i:=9) uR.nd rfl (Or.inl rfl) (by decide) (uq h_law_left_by hr rfl (wY (xA (wy (zB (z7 4) (zB (z7 1) zN)) (yR (zT (zT yS)) (by decide)))) (vD (yE 2) wq)))) (yG (VP PassesOwn.never rfl (Y4 rfl z_range zE) (JJ (xv (i:=7) uR.nd rfl (Or.inl rfl)) rfl (by decide)) (yf (qe (tX (pr (Us (yI (yx (yZ hr)) yu (zJ (zU jj wB (zU kA k8 (zw h_put hr rfl (zB (z7 1) zN)) (z7 7)) zE)) (zJ zE) (yA _)) (Uu (yI (jk (yZ hr)) jh (zJ (zQ (zO (zI hr)) zP (z7 9) (z7 7))) (zJ (zQ (zO (zI hr)) zP (z7 6) (z7 7))) (yA _)))))) (yf (tV (y_ vw))) qf))) (yf (tV (uK (wN (yx (yZ hr)) yu (zJ (zQ (zO (zI hr)) zP (z7 9) zE)) (zJ (zQ (zO (zI hr)) zP (z7 6) zE)) (yA _))))))))))))))))))
end
end
theorem all_mk {l:PySem.W.OpenLaw} {w:World} {K:PySem.W.Frag} {h:Heap} {mg:Str->Option Value} {fa:Addr} (X:K.In h) (G:h.Ns mainGlobals mg) (hfa:mg "law" = some (.ref fa))
  {f24:Addr} {od24 an24:Option Addr} {sl24:Array (Option Value)} {oc24 kV24 dc24 pm24 cd24 ct24:Value}
  {f25:Addr} {od25 an25:Option Addr} {sl25:Array (Option Value)} {oc25 kV25 dc25 pm25 cd25 ct25:Value}
  {f26:Addr} {od26 an26:Option Addr} {sl26:Array (Option Value)} {oc26 kV26 dc26 pm26 cd26 ct26:Value}
  {f27:Addr} {od27 an27:Option Addr} {sl27:Array (Option Value)} {oc27 kV27 dc27 pm27 cd27 ct27:Value}
  {f30:Addr} {od30 an30:Option Addr} {sl30:Array (Option Value)} {oc30 kV30 dc30 pm30 cd30 ct30:Value}
  {f32:Addr} {od32 an32:Option Addr} {sl32:Array (Option Value)} {oc32 kV32 dc32 pm32 cd32 ct32:Value}
  {f33:Addr} {od33 an33:Option Addr} {sl33:Array (Option Value)} {oc33 kV33 dc33 pm33 cd33 ct33:Value}
  {f35:Addr} {od35 an35:Option Addr} {sl35:Array (Option Value)} {oc35 kV35 dc35 pm35 cd35 ct35:Value}
  {f36:Addr} {od36 an36:Option Addr} {sl36:Array (Option Value)} {oc36 kV36 dc36 pm36 cd36 ct36:Value}
  {f37:Addr} {od37 an37:Option Addr} {sl37:Array (Option Value)} {oc37 kV37 dc37 pm37 cd37 ct37:Value}
  {f38:Addr} {od38 an38:Option Addr} {sl38:Array (Option Value)} {oc38 kV38 dc38 pm38 cd38 ct38:Value}
  {f42:Addr} {od42 an42:Option Addr} {sl42:Array (Option Value)} {oc42 kV42 dc42 pm42 cd42 ct42:Value}
  {f43:Addr} {od43 an43:Option Addr} {sl43:Array (Option Value)} {oc43 kV43 dc43 pm43 cd43 ct43:Value}
  {f44:Addr} {od44 an44:Option Addr} {sl44:Array (Option Value)} {oc44 kV44 dc44 pm44 cd44 ct44:Value}
  {f45:Addr} {od45 an45:Option Addr} {sl45:Array (Option Value)} {oc45 kV45 dc45 pm45 cd45 ct45:Value}
  {f46:Addr} {od46 an46:Option Addr} {sl46:Array (Option Value)} {oc46 kV46 dc46 pm46 cd46 ct46:Value}
  {f47:Addr} {od47 an47:Option Addr} {sl47:Array (Option Value)} {oc47 kV47 dc47 pm47 cd47 ct47:Value}
  {f48:Addr} {od48 an48:Option Addr} {sl48:Array (Option Value)} {oc48 kV48 dc48 pm48 cd48 ct48:Value}
  {f50:Addr} {od50 an50:Option Addr} {sl50:Array (Option Value)} {oc50 kV50 dc50 pm50 cd50 ct50:Value}
  {f55:Addr} {od55 an55:Option Addr} {sl55:Array (Option Value)} {oc55 kV55 dc55 pm55 cd55 ct55:Value}
  {f62:Addr} {od62 an62:Option Addr} {sl62:Array (Option Value)} {oc62 kV62 dc62 pm62 cd62 ct62:Value}
  {C_Machine:Addr} (nc_Machine:PySem.W.nsIn K mainGlobals "Machine" = some (some (.ref C_Machine)))
  {C_RowMachine:Addr} (nc_RowMachine:PySem.W.nsIn K mainGlobals "RowMachine" = some (some (.ref C_RowMachine)))
  {C_State:Addr} (nc_State:PySem.W.nsIn K mainGlobals "State" = some (some (.ref C_State)))
  (a0:zS K "is_number" U7)
  (a1:zS K "added" Vn)
  (a2:zS K "taken" UW)
  (a3:zS K "part" UO)
  (a4:zS K "moved_left" UK)
  (a5:zS K "moved_right" UL)
  (a6:zS K "with_part" UZ)
  (a7:zS K "bytes_of" Vs)
  (a8:zS K "word_of" Ub)
  (a9:zS K "is_label" U6)
  (a10:zS K "is_jump" U5)
  (a11:zS K "rows_of" UT)
  (a12:zS K "label_places" UA)
  (a13:zS K "targets_of" UX)
  (a14:zS K "is_address" U4)
  (a15:zS K "is_pair" U8)
  (a16:zS K "bytes_from" Vr)
  (a17:zS K "pairs_of" UN)
  (a18:zS K "byte_at" Vq)
  (a19:zS K "address_of" Vp)
  (a20:zS K "four_from" U3)
  (a21:zS K "word_at" Ua)
  (a22:zS K "put_byte" UR)
  (a23:zS K "put_word" US)
  (a24:PySem.W.findIn K (.ref C_State) "__init__" = some (some (.ref f24)))
  (i24:PySem.W.isFn K (.ref f24)=true)
  (l24:K.lookup f24=some ⟨oc24,od24,.func (PySem.W.fnOf "__init__" "State.__init__" (yc t_) (zz t_) (zH t_) .none kV24 dc24 pm24 an24 cd24 ct24),sl24⟩)
  (c24:PySem.W.codeIn K cd24 "State.__init__" = true) (k24:PySem.W.keepIn K (.ref f24)=true)
  (a25:PySem.W.nsIn K mainGlobals "do_set" = some (some (.ref f25)))
  (l25:K.lookup f25=vk "do_set" V_ oc25 od25 sl25 kV25 dc25 pm25 an25 cd25 ct25)
  (c25:PySem.W.codeIn K cd25 "do_set" = true) (k25:PySem.W.keepIn K (.ref f25)=true)
  (a26:PySem.W.nsIn K mainGlobals "do_high" = some (some (.ref f26)))
  (l26:K.lookup f26=vk "do_high" Vv oc26 od26 sl26 kV26 dc26 pm26 an26 cd26 ct26)
  (c26:PySem.W.codeIn K cd26 "do_high" = true) (k26:PySem.W.keepIn K (.ref f26)=true)
  (a27:PySem.W.nsIn K mainGlobals "do_copy" = some (some (.ref f27)))
  (l27:K.lookup f27=vk "do_copy" Vu oc27 od27 sl27 kV27 dc27 pm27 an27 cd27 ct27)
  (c27:PySem.W.codeIn K cd27 "do_copy" = true) (k27:PySem.W.keepIn K (.ref f27)=true)
  (a28:zS K "summed" UU)
  (a29:zS K "look_at" UI)
  (a30:PySem.W.nsIn K mainGlobals "do_sum" = some (some (.ref f30)))
  (l30:K.lookup f30=vk "do_sum" U2 oc30 od30 sl30 kV30 dc30 pm30 an30 cd30 ct30)
  (c30:PySem.W.codeIn K cd30 "do_sum" = true) (k30:PySem.W.keepIn K (.ref f30)=true)
  (a31:zS K "joined" U9)
  (a32:PySem.W.nsIn K mainGlobals "do_bits" = some (some (.ref f32)))
  (l32:K.lookup f32=vk "do_bits" Vt oc32 od32 sl32 kV32 dc32 pm32 an32 cd32 ct32)
  (c32:PySem.W.codeIn K cd32 "do_bits" = true) (k32:PySem.W.keepIn K (.ref f32)=true)
  (a33:PySem.W.nsIn K mainGlobals "do_move" = some (some (.ref f33)))
  (l33:K.lookup f33=vk "do_move" Vy oc33 od33 sl33 kV33 dc33 pm33 an33 cd33 ct33)
  (c33:PySem.W.codeIn K cd33 "do_move" = true) (k33:PySem.W.keepIn K (.ref f33)=true)
  (a34:zS K "address_in" Vo)
  (a35:PySem.W.nsIn K mainGlobals "do_load" = some (some (.ref f35)))
  (l35:K.lookup f35=vk "do_load" Vw oc35 od35 sl35 kV35 dc35 pm35 an35 cd35 ct35)
  (c35:PySem.W.codeIn K cd35 "do_load" = true) (k35:PySem.W.keepIn K (.ref f35)=true)
  (a36:PySem.W.nsIn K mainGlobals "do_loadw" = some (some (.ref f36)))
  (l36:K.lookup f36=vk "do_loadw" Vx oc36 od36 sl36 kV36 dc36 pm36 an36 cd36 ct36)
  (c36:PySem.W.codeIn K cd36 "do_loadw" = true) (k36:PySem.W.keepIn K (.ref f36)=true)
  (a37:PySem.W.nsIn K mainGlobals "do_store" = some (some (.ref f37)))
  (l37:K.lookup f37=vk "do_store" U0 oc37 od37 sl37 kV37 dc37 pm37 an37 cd37 ct37)
  (c37:PySem.W.codeIn K cd37 "do_store" = true) (k37:PySem.W.keepIn K (.ref f37)=true)
  (a38:PySem.W.nsIn K mainGlobals "do_storew" = some (some (.ref f38)))
  (l38:K.lookup f38=vk "do_storew" U1 oc38 od38 sl38 kV38 dc38 pm38 an38 cd38 ct38)
  (c38:PySem.W.codeIn K cd38 "do_storew" = true) (k38:PySem.W.keepIn K (.ref f38)=true)
  (a39:zS K "do_row" Vz)
  (a40:zS K "leads" UH)
  (a41:zS K "words_from" Uc)
  (a42:PySem.W.findIn K (.ref C_RowMachine) "stands" = some (some (.ref f42)))
  (i42:PySem.W.isFn K (.ref f42)=true)
  (l42:K.lookup f42=some ⟨oc42,od42,.func (PySem.W.fnOf "stands" "Machine.stands" (yc tw) (zz tw) (zH tw) .none kV42 dc42 pm42 an42 cd42 ct42),sl42⟩)
  (c42:PySem.W.codeIn K cd42 "Machine.stands" = true) (k42:PySem.W.keepIn K (.ref f42)=true)
  (a43:PySem.W.findIn K (.ref C_RowMachine) "again" = some (some (.ref f43)))
  (i43:PySem.W.isFn K (.ref f43)=true)
  (l43:K.lookup f43=some ⟨oc43,od43,.func (PySem.W.fnOf "again" "Machine.again" (yc tm) (zz tm) (zH tm) .none kV43 dc43 pm43 an43 cd43 ct43),sl43⟩)
  (c43:PySem.W.codeIn K cd43 "Machine.again" = true) (k43:PySem.W.keepIn K (.ref f43)=true)
  (a44:PySem.W.findIn K (.ref C_RowMachine) "step" = some (some (.ref f44)))
  (i44:PySem.W.isFn K (.ref f44)=true)
  (l44:K.lookup f44=some ⟨oc44,od44,.func (PySem.W.fnOf "step" "Machine.step" (yc tz) (zz tz) (zH tz) .none kV44 dc44 pm44 an44 cd44 ct44),sl44⟩)
  (c44:PySem.W.codeIn K cd44 "Machine.step" = true) (k44:PySem.W.keepIn K (.ref f44)=true)
  (a45:PySem.W.findIn K (.ref C_RowMachine) "registers" = some (some (.ref f45)))
  (i45:PySem.W.isFn K (.ref f45)=true)
  (l45:K.lookup f45=some ⟨oc45,od45,.func (PySem.W.fnOf "registers" "Machine.registers" (yc tu) (zz tu) (zH tu) .none kV45 dc45 pm45 an45 cd45 ct45),sl45⟩)
  (c45:PySem.W.codeIn K cd45 "Machine.registers" = true) (k45:PySem.W.keepIn K (.ref f45)=true)
  (a46:PySem.W.findIn K (.ref C_RowMachine) "marks" = some (some (.ref f46)))
  (i46:PySem.W.isFn K (.ref f46)=true)
  (l46:K.lookup f46=some ⟨oc46,od46,.func (PySem.W.fnOf "marks" "Machine.marks" (yc tq) (zz tq) (zH tq) .none kV46 dc46 pm46 an46 cd46 ct46),sl46⟩)
  (c46:PySem.W.codeIn K cd46 "Machine.marks" = true) (k46:PySem.W.keepIn K (.ref f46)=true)
  (a47:PySem.W.findIn K (.ref C_RowMachine) "memory" = some (some (.ref f47)))
  (i47:PySem.W.isFn K (.ref f47)=true)
  (l47:K.lookup f47=some ⟨oc47,od47,.func (PySem.W.fnOf "memory" "Machine.memory" (yc tt) (zz tt) (zH tt) .none kV47 dc47 pm47 an47 cd47 ct47),sl47⟩)
  (c47:PySem.W.codeIn K cd47 "Machine.memory" = true) (k47:PySem.W.keepIn K (.ref f47)=true)
  (a48:PySem.W.findCls K (.ref C_Machine) (.type "type") "__init__" = some (.val (.ref f48)))
  (i48:PySem.W.isFn K (.ref f48)=true)
  (l48:K.lookup f48=some ⟨oc48,od48,.func (PySem.W.fnOf "__init__" "Machine.__init__" (yc tj) (zz tj) (zH tj) .none kV48 dc48 pm48 an48 cd48 ct48),sl48⟩)
  (c48:PySem.W.codeIn K cd48 "Machine.__init__" = true) (k48:PySem.W.keepIn K (.ref f48)=true)
  (a49:zS K "table_of_rows" UV)
  (a50:PySem.W.findIn K (.ref C_RowMachine) "__init__" = some (some (.ref f50)))
  (i50:PySem.W.isFn K (.ref f50)=true)
  {T50:Addr}
  (l50:K.lookup f50=some ⟨oc50,od50,.func (PySem.W.fnOf "__init__" "RowMachine.__init__" (yc wD) (zz wD) (zH wD) (.ref T50) kV50 dc50 pm50 an50 cd50 ct50),sl50⟩)
  {nt50:Nat} {st50:Array (Option Value)} {dt50:Option Addr} (t50:K.lookup T50=some ⟨.type "tuple",dt50,.seq #[.none,.none] nt50,st50⟩)
  (c50:PySem.W.codeIn K cd50 "RowMachine.__init__" = true) (k50:PySem.W.keepIn K (.ref f50)=true)
  (a51:zS K "mark_bit" UJ)
  (a52:zS K "moves_by_nought" UM)
  (a53:zS K "used" UY)
  (a54:zS K "put" UQ)
  (a55:PySem.W.findIn K (.ref C_RowMachine) "run" = some (some (.ref f55)))
  (i55:PySem.W.isFn K (.ref f55)=true)
  {td55_0:Tok}
  {T55:Addr}
  (l55:K.lookup f55=some ⟨oc55,od55,.func (PySem.W.fnOf "run" "Machine.run" (yc vv) (zz vv) (zH vv) (.ref T55) kV55 dc55 pm55 an55 cd55 ct55),sl55⟩)
  {nt55:Nat} {st55:Array (Option Value)} {dt55:Option Addr} (t55:K.lookup T55=some ⟨.type "tuple",dt55,.seq #[.int 1000 td55_0] nt55,st55⟩)
  (c55:PySem.W.codeIn K cd55 "Machine.run" = true) (k55:PySem.W.keepIn K (.ref f55)=true)
  (a56:zS K "_law_cell_at" UB)
  (a57:zS K "_law_mark" UD)
  (a58:zS K "_law_words" UG)
  (a59:zS K "_law_row_by" UF)
  (a60:zS K "_law_registers" UE)
  (a61:zS K "_law_left_by" UC)
  (a62:PySem.W.nsIn K mainGlobals "law" = some (some (.ref f62)))
  (l62:K.lookup f62=vk "law" pp oc62 od62 sl62 kV62 dc62 pm62 an62 cd62 ct62)
  (c62:PySem.W.codeIn K cd62 "law" = true) (k62:PySem.W.keepIn K (.ref f62)=true)
  (nz_isinstance:PySem.W.nsIn K mainGlobals "isinstance" = some none)
  (nz_int:PySem.W.nsIn K mainGlobals "int" = some none)
  (nz_bool:PySem.W.nsIn K mainGlobals "bool" = some none)
  (nz_tuple:PySem.W.nsIn K mainGlobals "tuple" = some none)
  (nz_sum:PySem.W.nsIn K mainGlobals "sum" = some none)
  (nz_zip:PySem.W.nsIn K mainGlobals "zip" = some none)
  (nz_len:PySem.W.nsIn K mainGlobals "len" = some none)
  (nz_list:PySem.W.nsIn K mainGlobals "list" = some none)
  (nz_sorted:PySem.W.nsIn K mainGlobals "sorted" = some none)
  (nz_range:PySem.W.nsIn K mainGlobals "range" = some none)
  (nz_dict:PySem.W.nsIn K mainGlobals "dict" = some none)
  (nz_all:PySem.W.nsIn K mainGlobals "all" = some none)
  (nz_enumerate:PySem.W.nsIn K mainGlobals "enumerate" = some none)
  (hg_Machine:PySem.W.specialIn K (.ref C_Machine) "__getattribute__" = some (some (.builtin "type.__getattribute__"))) (rd_Machine:PySem.W.readsIn K C_Machine (.type "type")=true)
  (pg_RowMachine:PySem.W.plainGet K C_RowMachine Str.empty=true) (hd_RowMachine:PySem.W.hasDictIn K C_RowMachine=true) (po_RowMachine:PySem.W.plainOver K C_RowMachine=true) (sa_RowMachine:PySem.W.findIn K (.ref C_RowMachine) "__setattr__" = some (some (.builtin "object.__setattr__")))
  (mk_RowMachine:PySem.W.makesIn K C_RowMachine=true) (kc_RowMachine:PySem.W.keepIn K (.ref C_RowMachine)=true)
  (pg_State:PySem.W.plainGet K C_State Str.empty=true) (hd_State:PySem.W.hasDictIn K C_State=true) (po_State:PySem.W.plainOver K C_State=true) (sa_State:PySem.W.findIn K (.ref C_State) "__setattr__" = some (some (.builtin "object.__setattr__")))
  (mk_State:PySem.W.makesIn K C_State=true) (kc_State:PySem.W.keepIn K (.ref C_State)=true)
  (nf_RowMachine_done:PySem.W.findIn K (.ref C_RowMachine) "done" = some none)
  (nf_RowMachine_due:PySem.W.findIn K (.ref C_RowMachine) "due" = some none)
  (nf_RowMachine_end:PySem.W.findIn K (.ref C_RowMachine) "end" = some none)
  (nf_RowMachine_first_held:PySem.W.findIn K (.ref C_RowMachine) "first_held" = some none)
  (nf_RowMachine_first_words:PySem.W.findIn K (.ref C_RowMachine) "first_words" = some none)
  (nf_State_held:PySem.W.findIn K (.ref C_State) "held" = some none)
  (nf_RowMachine_state:PySem.W.findIn K (.ref C_RowMachine) "state" = some none)
  (nf_RowMachine_table:PySem.W.findIn K (.ref C_RowMachine) "table" = some none)
  (nf_State_truths:PySem.W.findIn K (.ref C_State) "truths" = some none)
  (nf_State_words:PySem.W.findIn K (.ref C_State) "words" = some none)
  {A_DEEDS:Addr} {n_DEEDS:Nat} {tk0_DEEDS tk1_DEEDS tk2_DEEDS tk3_DEEDS tk4_DEEDS tk5_DEEDS tk6_DEEDS tk7_DEEDS tk8_DEEDS tk9_DEEDS tk10_DEEDS tk11_DEEDS tk12_DEEDS tk13_DEEDS tk14_DEEDS tk15_DEEDS tk16_DEEDS:Tok} (ng_DEEDS:PySem.W.nsIn K mainGlobals "DEEDS" = some (some (.ref A_DEEDS)))
  (nq_DEEDS:K.lookup A_DEEDS=some { cls:=.type "dict",data:=.dict #[⟨PyData.keyHash w.params "set",.str "set" tk0_DEEDS,.ref f25⟩,⟨PyData.keyHash w.params "high",.str "high" tk1_DEEDS,.ref f26⟩,⟨PyData.keyHash w.params "copy",.str "copy" tk2_DEEDS,.ref f27⟩,⟨PyData.keyHash w.params "add",.str "add" tk3_DEEDS,.ref f30⟩,⟨PyData.keyHash w.params "addc",.str "addc" tk4_DEEDS,.ref f30⟩,⟨PyData.keyHash w.params "sub",.str "sub" tk5_DEEDS,.ref f30⟩,⟨PyData.keyHash w.params "subc",.str "subc" tk6_DEEDS,.ref f30⟩,⟨PyData.keyHash w.params "test",.str "test" tk7_DEEDS,.ref f30⟩,⟨PyData.keyHash w.params "and",.str "and" tk8_DEEDS,.ref f32⟩,⟨PyData.keyHash w.params "or",.str "or" tk9_DEEDS,.ref f32⟩,⟨PyData.keyHash w.params "xor",.str "xor" tk10_DEEDS,.ref f32⟩,⟨PyData.keyHash w.params "left",.str "left" tk11_DEEDS,.ref f33⟩,⟨PyData.keyHash w.params "right",.str "right" tk12_DEEDS,.ref f33⟩,⟨PyData.keyHash w.params "load",.str "load" tk13_DEEDS,.ref f35⟩,⟨PyData.keyHash w.params "loadw",.str "loadw" tk14_DEEDS,.ref f36⟩,⟨PyData.keyHash w.params "store",.str "store" tk15_DEEDS,.ref f37⟩,⟨PyData.keyHash w.params "storew",.str "storew" tk16_DEEDS,.ref f38⟩] n_DEEDS }) (ns_DEEDS:(A_DEEDS == sysModules)=false)
  {tg_BEYOND:Tok} (ng_BEYOND:PySem.W.nsIn K mainGlobals "BEYOND" = some (some (.int 4294967296 tg_BEYOND)))
  {tg_WORD_BITS:Tok} (ng_WORD_BITS:PySem.W.nsIn K mainGlobals "WORD_BITS" = some (some (.int 32 tg_WORD_BITS)))
  {A_BYTE_LOWS:Addr} {n_BYTE_LOWS:Nat} {sl_BYTE_LOWS:Array (Option Value)} {u0_BYTE_LOWS u1_BYTE_LOWS u2_BYTE_LOWS u3_BYTE_LOWS:Tok} (ng_BYTE_LOWS:PySem.W.nsIn K mainGlobals "BYTE_LOWS" = some (some (.ref A_BYTE_LOWS)))
  (nq_BYTE_LOWS:K.lookup A_BYTE_LOWS=some ⟨.type "tuple",none,.seq #[.int 0 u0_BYTE_LOWS,.int 8 u1_BYTE_LOWS,.int 16 u2_BYTE_LOWS,.int 24 u3_BYTE_LOWS] n_BYTE_LOWS,sl_BYTE_LOWS⟩)
  {A_JUMPS:Addr} {n_JUMPS:Nat} {sl_JUMPS:Array (Option Value)} {u0_JUMPS u1_JUMPS u2_JUMPS:Tok} (ng_JUMPS:PySem.W.nsIn K mainGlobals "JUMPS" = some (some (.ref A_JUMPS)))
  (nq_JUMPS:K.lookup A_JUMPS=some ⟨.type "tuple",none,.seq #[.str "jump" u0_JUMPS,.str "when" u1_JUMPS,.str "unless" u2_JUMPS] n_JUMPS,sl_JUMPS⟩)
  {tg_ADDRESS_BITS:Tok} (ng_ADDRESS_BITS:PySem.W.nsIn K mainGlobals "ADDRESS_BITS" = some (some (.int 16 tg_ADDRESS_BITS)))
  {tg_BYTE_BITS:Tok} (ng_BYTE_BITS:PySem.W.nsIn K mainGlobals "BYTE_BITS" = some (some (.int 8 tg_BYTE_BITS)))
  {A_MARKS:Addr} {n_MARKS:Nat} {sl_MARKS:Array (Option Value)} {u0_MARKS u1_MARKS u2_MARKS:Tok} (ng_MARKS:PySem.W.nsIn K mainGlobals "MARKS" = some (some (.ref A_MARKS)))
  (nq_MARKS:K.lookup A_MARKS=some ⟨.type "tuple",none,.seq #[.str "carry" u0_MARKS,.str "nought" u1_MARKS,.str "sign" u2_MARKS] n_MARKS,sl_MARKS⟩)
  {tg_REGISTER_COUNT:Tok} (ng_REGISTER_COUNT:PySem.W.nsIn K mainGlobals "REGISTER_COUNT" = some (some (.int 8 tg_REGISTER_COUNT)))
  {tg_MARK_LOW:Tok} (ng_MARK_LOW:PySem.W.nsIn K mainGlobals "MARK_LOW" = some (some (.int 8 tg_MARK_LOW)))
  {tg_ALL_NEEDED:Tok} (ng_ALL_NEEDED:PySem.W.nsIn K mainGlobals "ALL_NEEDED" = some (some (.int 2047 tg_ALL_NEEDED)))
  {A_LOOK_AT_D:Addr} {n_LOOK_AT_D:Nat} {sl_LOOK_AT_D:Array (Option Value)} {u0_LOOK_AT_D u1_LOOK_AT_D u2_LOOK_AT_D u3_LOOK_AT_D u4_LOOK_AT_D u5_LOOK_AT_D u6_LOOK_AT_D u7_LOOK_AT_D u8_LOOK_AT_D u9_LOOK_AT_D u10_LOOK_AT_D u11_LOOK_AT_D u12_LOOK_AT_D:Tok} (ng_LOOK_AT_D:PySem.W.nsIn K mainGlobals "LOOK_AT_D" = some (some (.ref A_LOOK_AT_D)))
  (nq_LOOK_AT_D:K.lookup A_LOOK_AT_D=some ⟨.type "tuple",none,.seq #[.str "high" u0_LOOK_AT_D,.str "left" u1_LOOK_AT_D,.str "right" u2_LOOK_AT_D,.str "add" u3_LOOK_AT_D,.str "addc" u4_LOOK_AT_D,.str "sub" u5_LOOK_AT_D,.str "subc" u6_LOOK_AT_D,.str "and" u7_LOOK_AT_D,.str "or" u8_LOOK_AT_D,.str "xor" u9_LOOK_AT_D,.str "test" u10_LOOK_AT_D,.str "store" u11_LOOK_AT_D,.str "storew" u12_LOOK_AT_D] n_LOOK_AT_D,sl_LOOK_AT_D⟩)
  {A_LOOK_AT_S:Addr} {n_LOOK_AT_S:Nat} {sl_LOOK_AT_S:Array (Option Value)} {u0_LOOK_AT_S u1_LOOK_AT_S u2_LOOK_AT_S u3_LOOK_AT_S u4_LOOK_AT_S u5_LOOK_AT_S u6_LOOK_AT_S u7_LOOK_AT_S u8_LOOK_AT_S u9_LOOK_AT_S u10_LOOK_AT_S u11_LOOK_AT_S u12_LOOK_AT_S:Tok} (ng_LOOK_AT_S:PySem.W.nsIn K mainGlobals "LOOK_AT_S" = some (some (.ref A_LOOK_AT_S)))
  (nq_LOOK_AT_S:K.lookup A_LOOK_AT_S=some ⟨.type "tuple",none,.seq #[.str "copy" u0_LOOK_AT_S,.str "load" u1_LOOK_AT_S,.str "loadw" u2_LOOK_AT_S,.str "add" u3_LOOK_AT_S,.str "addc" u4_LOOK_AT_S,.str "sub" u5_LOOK_AT_S,.str "subc" u6_LOOK_AT_S,.str "and" u7_LOOK_AT_S,.str "or" u8_LOOK_AT_S,.str "xor" u9_LOOK_AT_S,.str "test" u10_LOOK_AT_S,.str "store" u11_LOOK_AT_S,.str "storew" u12_LOOK_AT_S] n_LOOK_AT_S,sl_LOOK_AT_S⟩)
  {A_LOOK_AT_CARRY:Addr} {n_LOOK_AT_CARRY:Nat} {sl_LOOK_AT_CARRY:Array (Option Value)} {u0_LOOK_AT_CARRY u1_LOOK_AT_CARRY:Tok} (ng_LOOK_AT_CARRY:PySem.W.nsIn K mainGlobals "LOOK_AT_CARRY" = some (some (.ref A_LOOK_AT_CARRY)))
  (nq_LOOK_AT_CARRY:K.lookup A_LOOK_AT_CARRY=some ⟨.type "tuple",none,.seq #[.str "addc" u0_LOOK_AT_CARRY,.str "subc" u1_LOOK_AT_CARRY] n_LOOK_AT_CARRY,sl_LOOK_AT_CARRY⟩)
  {A_PUT_D:Addr} {n_PUT_D:Nat} {sl_PUT_D:Array (Option Value)} {u0_PUT_D u1_PUT_D u2_PUT_D u3_PUT_D u4_PUT_D u5_PUT_D u6_PUT_D u7_PUT_D u8_PUT_D u9_PUT_D u10_PUT_D u11_PUT_D u12_PUT_D u13_PUT_D:Tok} (ng_PUT_D:PySem.W.nsIn K mainGlobals "PUT_D" = some (some (.ref A_PUT_D)))
  (nq_PUT_D:K.lookup A_PUT_D=some ⟨.type "tuple",none,.seq #[.str "set" u0_PUT_D,.str "high" u1_PUT_D,.str "copy" u2_PUT_D,.str "load" u3_PUT_D,.str "loadw" u4_PUT_D,.str "add" u5_PUT_D,.str "addc" u6_PUT_D,.str "sub" u7_PUT_D,.str "subc" u8_PUT_D,.str "and" u9_PUT_D,.str "or" u10_PUT_D,.str "xor" u11_PUT_D,.str "left" u12_PUT_D,.str "right" u13_PUT_D] n_PUT_D,sl_PUT_D⟩)
  {A_PUT_NOUGHT_AND_SIGN:Addr} {n_PUT_NOUGHT_AND_SIGN:Nat} {sl_PUT_NOUGHT_AND_SIGN:Array (Option Value)} {u0_PUT_NOUGHT_AND_SIGN u1_PUT_NOUGHT_AND_SIGN u2_PUT_NOUGHT_AND_SIGN u3_PUT_NOUGHT_AND_SIGN u4_PUT_NOUGHT_AND_SIGN u5_PUT_NOUGHT_AND_SIGN u6_PUT_NOUGHT_AND_SIGN u7_PUT_NOUGHT_AND_SIGN u8_PUT_NOUGHT_AND_SIGN u9_PUT_NOUGHT_AND_SIGN:Tok} (ng_PUT_NOUGHT_AND_SIGN:PySem.W.nsIn K mainGlobals "PUT_NOUGHT_AND_SIGN" = some (some (.ref A_PUT_NOUGHT_AND_SIGN)))
  (nq_PUT_NOUGHT_AND_SIGN:K.lookup A_PUT_NOUGHT_AND_SIGN=some ⟨.type "tuple",none,.seq #[.str "add" u0_PUT_NOUGHT_AND_SIGN,.str "addc" u1_PUT_NOUGHT_AND_SIGN,.str "sub" u2_PUT_NOUGHT_AND_SIGN,.str "subc" u3_PUT_NOUGHT_AND_SIGN,.str "test" u4_PUT_NOUGHT_AND_SIGN,.str "and" u5_PUT_NOUGHT_AND_SIGN,.str "or" u6_PUT_NOUGHT_AND_SIGN,.str "xor" u7_PUT_NOUGHT_AND_SIGN,.str "left" u8_PUT_NOUGHT_AND_SIGN,.str "right" u9_PUT_NOUGHT_AND_SIGN] n_PUT_NOUGHT_AND_SIGN,sl_PUT_NOUGHT_AND_SIGN⟩)
  {A_PUT_CARRY:Addr} {n_PUT_CARRY:Nat} {sl_PUT_CARRY:Array (Option Value)} {u0_PUT_CARRY u1_PUT_CARRY u2_PUT_CARRY u3_PUT_CARRY u4_PUT_CARRY u5_PUT_CARRY u6_PUT_CARRY:Tok} (ng_PUT_CARRY:PySem.W.nsIn K mainGlobals "PUT_CARRY" = some (some (.ref A_PUT_CARRY)))
  (nq_PUT_CARRY:K.lookup A_PUT_CARRY=some ⟨.type "tuple",none,.seq #[.str "add" u0_PUT_CARRY,.str "addc" u1_PUT_CARRY,.str "sub" u2_PUT_CARRY,.str "subc" u3_PUT_CARRY,.str "test" u4_PUT_CARRY,.str "left" u5_PUT_CARRY,.str "right" u6_PUT_CARRY] n_PUT_CARRY,sl_PUT_CARRY⟩)
  : ∃ fd:FuncData,(∀ (s:Shared) (v:Value),BindsTo s fd ⟨[v],[]⟩ [("_law_script",v)])/\∀ base:Heap,K.In base->base.Ns mainGlobals mg->yO l.prog w K mg base yJ 10 fa fd ["_law_script"] (kW K):=by
 have e:=hfa.symm.trans (PySem.W.mg_of X G a62)
 cases e
 have z_isinstance:mg "isinstance" = none:=PySem.W.mg_none_of X G nz_isinstance
 have z_int:mg "int" = none:=PySem.W.mg_none_of X G nz_int
 have z_bool:mg "bool" = none:=PySem.W.mg_none_of X G nz_bool
 have z_tuple:mg "tuple" = none:=PySem.W.mg_none_of X G nz_tuple
 have z_sum:mg "sum" = none:=PySem.W.mg_none_of X G nz_sum
 have z_zip:mg "zip" = none:=PySem.W.mg_none_of X G nz_zip
 have z_len:mg "len" = none:=PySem.W.mg_none_of X G nz_len
 have z_list:mg "list" = none:=PySem.W.mg_none_of X G nz_list
 have z_sorted:mg "sorted" = none:=PySem.W.mg_none_of X G nz_sorted
 have z_range:mg "range" = none:=PySem.W.mg_none_of X G nz_range
 have z_dict:mg "dict" = none:=PySem.W.mg_none_of X G nz_dict
 have z_all:mg "all" = none:=PySem.W.mg_none_of X G nz_all
 have z_enumerate:mg "enumerate" = none:=PySem.W.mg_none_of X G nz_enumerate
 have cl_RowMachine:wR K C_RowMachine:=⟨pg_RowMachine,hd_RowMachine,po_RowMachine,sa_RowMachine⟩
 have cl_State:wR K C_State:=⟨pg_State,hd_State,po_State,sa_State⟩
 have a_done:xD K ["RowMachine"] "done" := (uc nc_RowMachine cl_RowMachine nf_RowMachine_done ud)
 have a_due:xD K ["RowMachine"] "due" := (uc nc_RowMachine cl_RowMachine nf_RowMachine_due ud)
 have a_end:xD K ["RowMachine"] "end" := (uc nc_RowMachine cl_RowMachine nf_RowMachine_end ud)
 have a_first_held:xD K ["RowMachine"] "first_held" := (uc nc_RowMachine cl_RowMachine nf_RowMachine_first_held ud)
 have a_first_words:xD K ["RowMachine"] "first_words" := (uc nc_RowMachine cl_RowMachine nf_RowMachine_first_words ud)
 have a_held:xD K ["State"] "held" := (uc nc_State cl_State nf_State_held ud)
 have a_state:xD K ["RowMachine"] "state" := (uc nc_RowMachine cl_RowMachine nf_RowMachine_state ud)
 have a_table:xD K ["RowMachine"] "table" := (uc nc_RowMachine cl_RowMachine nf_RowMachine_table ud)
 have a_truths:xD K ["State"] "truths" := (uc nc_State cl_State nf_State_truths ud)
 have a_words:xD K ["State"] "words" := (uc nc_State cl_State nf_State_words ud)
 have g_DEEDS:yL mg "DEEDS" (.ref A_DEEDS):=⟨_,PySem.W.mg_of X G ng_DEEDS,rfl⟩
 have d_DEEDS:pF K w mg A_DEEDS vi QB:=MQ (fs:=[f25,f26,f27,f30,f30,f30,f30,f30,f32,f32,f32,f33,f33,f35,f36,f37,f38]) nq_DEEDS (.cons (.cons (.cons (.cons (.cons (.cons (.cons (.cons (.cons (.cons (.cons (.cons (.cons (.cons (.cons (.cons (.cons .nil))))))))))))))))) (by decide +kernel) ns_DEEDS (.cons (PySem.W.mg_of X G a25) (.cons (PySem.W.mg_of X G a26) (.cons (PySem.W.mg_of X G a27) (.cons (PySem.W.mg_of X G a30) (.cons (PySem.W.mg_of X G a30) (.cons (PySem.W.mg_of X G a30) (.cons (PySem.W.mg_of X G a30) (.cons (PySem.W.mg_of X G a30) (.cons (PySem.W.mg_of X G a32) (.cons (PySem.W.mg_of X G a32) (.cons (PySem.W.mg_of X G a32) (.cons (PySem.W.mg_of X G a33) (.cons (PySem.W.mg_of X G a33) (.cons (PySem.W.mg_of X G a35) (.cons (PySem.W.mg_of X G a36) (.cons (PySem.W.mg_of X G a37) (.cons (PySem.W.mg_of X G a38) .nil)))))))))))))))))
 have g_BEYOND:yL mg "BEYOND" (.int 4294967296):=⟨_,PySem.W.mg_of X G ng_BEYOND,⟨_,rfl⟩⟩
 have q_BEYOND:∀ H,zK K H (.int 4294967296) (.int 4294967296):=fun _=>rfl
 have g_WORD_BITS:yL mg "WORD_BITS" (.int 32):=⟨_,PySem.W.mg_of X G ng_WORD_BITS,⟨_,rfl⟩⟩
 have q_WORD_BITS:∀ H,zK K H (.int 32) (.int 32):=fun _=>rfl
 have k_BYTE_LOWS:u5 K A_BYTE_LOWS:=⟨_,nq_BYTE_LOWS,rfl,rfl⟩
 have g_BYTE_LOWS:yL mg "BYTE_LOWS" (.ref A_BYTE_LOWS):=⟨_,PySem.W.mg_of X G ng_BYTE_LOWS,rfl⟩
 have q_BYTE_LOWS:∀ H,zK K H jV (.ref A_BYTE_LOWS):=fun H=>⟨A_BYTE_LOWS,_,rfl,tQ (xs:=[.int 0,.int 8,.int 16,.int 24]) nq_BYTE_LOWS (by show (4:Nat)<=sizeLine; decide) (.cons ⟨_,rfl⟩ (.cons ⟨_,rfl⟩ (.cons ⟨_,rfl⟩ (.cons ⟨_,rfl⟩ .nil)))) H,⟨_,_,rfl,rfl,⟨_,_,rfl,rfl,⟨_,_,rfl,rfl,⟨_,_,rfl,rfl,rfl⟩⟩⟩⟩,zW (by decide)⟩
 have k_JUMPS:u5 K A_JUMPS:=⟨_,nq_JUMPS,rfl,rfl⟩
 have g_JUMPS:yL mg "JUMPS" (.ref A_JUMPS):=⟨_,PySem.W.mg_of X G ng_JUMPS,rfl⟩
 have q_JUMPS:∀ H,zK K H W_ (.ref A_JUMPS):=fun H=>⟨A_JUMPS,_,rfl,tQ (xs:=[.str "jump",.str "when",.str "unless"]) nq_JUMPS (by show (3:Nat)<=sizeLine; decide) (.cons ⟨_,rfl⟩ (.cons ⟨_,rfl⟩ (.cons ⟨_,rfl⟩ .nil))) H,⟨_,_,rfl,⟨rfl,zW (by decide)⟩,⟨_,_,rfl,⟨rfl,zW (by decide)⟩,⟨_,_,rfl,⟨rfl,zW (by decide)⟩,rfl⟩⟩⟩,zW (by decide)⟩
 have g_ADDRESS_BITS:yL mg "ADDRESS_BITS" (.int 16):=⟨_,PySem.W.mg_of X G ng_ADDRESS_BITS,⟨_,rfl⟩⟩
 have q_ADDRESS_BITS:∀ H,zK K H (.int 16) (.int 16):=fun _=>rfl
 have g_BYTE_BITS:yL mg "BYTE_BITS" (.int 8):=⟨_,PySem.W.mg_of X G ng_BYTE_BITS,⟨_,rfl⟩⟩
 have q_BYTE_BITS:∀ H,zK K H (.int 8) (.int 8):=fun _=>rfl
 have k_MARKS:u5 K A_MARKS:=⟨_,nq_MARKS,rfl,rfl⟩
 have g_MARKS:yL mg "MARKS" (.ref A_MARKS):=⟨_,PySem.W.mg_of X G ng_MARKS,rfl⟩
 have q_MARKS:∀ H,zK K H jW (.ref A_MARKS):=fun H=>⟨A_MARKS,_,rfl,tQ (xs:=[.str "carry",.str "nought",.str "sign"]) nq_MARKS (by show (3:Nat)<=sizeLine; decide) (.cons ⟨_,rfl⟩ (.cons ⟨_,rfl⟩ (.cons ⟨_,rfl⟩ .nil))) H,⟨_,_,rfl,⟨rfl,zW (by decide)⟩,⟨_,_,rfl,⟨rfl,zW (by decide)⟩,⟨_,_,rfl,⟨rfl,zW (by decide)⟩,rfl⟩⟩⟩,zW (by decide)⟩
 have g_REGISTER_COUNT:yL mg "REGISTER_COUNT" (.int 8):=⟨_,PySem.W.mg_of X G ng_REGISTER_COUNT,⟨_,rfl⟩⟩
 have q_REGISTER_COUNT:∀ H,zK K H (.int 8) (.int 8):=fun _=>rfl
 have g_MARK_LOW:yL mg "MARK_LOW" (.int 8):=⟨_,PySem.W.mg_of X G ng_MARK_LOW,⟨_,rfl⟩⟩
 have q_MARK_LOW:∀ H,zK K H (.int 8) (.int 8):=fun _=>rfl
 have g_ALL_NEEDED:yL mg "ALL_NEEDED" (.int 2047):=⟨_,PySem.W.mg_of X G ng_ALL_NEEDED,⟨_,rfl⟩⟩
 have q_ALL_NEEDED:∀ H,zK K H (.int 2047) (.int 2047):=fun _=>rfl
 have k_LOOK_AT_D:u5 K A_LOOK_AT_D:=⟨_,nq_LOOK_AT_D,rfl,rfl⟩
 have g_LOOK_AT_D:yL mg "LOOK_AT_D" (.ref A_LOOK_AT_D):=⟨_,PySem.W.mg_of X G ng_LOOK_AT_D,rfl⟩
 have q_LOOK_AT_D:∀ H,zK K H V1 (.ref A_LOOK_AT_D):=fun H=>⟨A_LOOK_AT_D,_,rfl,tQ (xs:=[.str "high",.str "left",.str "right",.str "add",.str "addc",.str "sub",.str "subc",.str "and",.str "or",.str "xor",.str "test",.str "store",.str "storew"]) nq_LOOK_AT_D (by show (13:Nat)<=sizeLine; decide) (.cons ⟨_,rfl⟩ (.cons ⟨_,rfl⟩ (.cons ⟨_,rfl⟩ (.cons ⟨_,rfl⟩ (.cons ⟨_,rfl⟩ (.cons ⟨_,rfl⟩ (.cons ⟨_,rfl⟩ (.cons ⟨_,rfl⟩ (.cons ⟨_,rfl⟩ (.cons ⟨_,rfl⟩ (.cons ⟨_,rfl⟩ (.cons ⟨_,rfl⟩ (.cons ⟨_,rfl⟩ .nil))))))))))))) H,⟨_,_,rfl,⟨rfl,zW (by decide)⟩,⟨_,_,rfl,⟨rfl,zW (by decide)⟩,⟨_,_,rfl,⟨rfl,zW (by decide)⟩,⟨_,_,rfl,⟨rfl,zW (by decide)⟩,⟨_,_,rfl,⟨rfl,zW (by decide)⟩,⟨_,_,rfl,⟨rfl,zW (by decide)⟩,⟨_,_,rfl,⟨rfl,zW (by decide)⟩,⟨_,_,rfl,⟨rfl,zW (by decide)⟩,⟨_,_,rfl,⟨rfl,zW (by decide)⟩,⟨_,_,rfl,⟨rfl,zW (by decide)⟩,⟨_,_,rfl,⟨rfl,zW (by decide)⟩,⟨_,_,rfl,⟨rfl,zW (by decide)⟩,⟨_,_,rfl,⟨rfl,zW (by decide)⟩,rfl⟩⟩⟩⟩⟩⟩⟩⟩⟩⟩⟩⟩⟩,zW (by decide)⟩
 have k_LOOK_AT_S:u5 K A_LOOK_AT_S:=⟨_,nq_LOOK_AT_S,rfl,rfl⟩
 have g_LOOK_AT_S:yL mg "LOOK_AT_S" (.ref A_LOOK_AT_S):=⟨_,PySem.W.mg_of X G ng_LOOK_AT_S,rfl⟩
 have q_LOOK_AT_S:∀ H,zK K H V2 (.ref A_LOOK_AT_S):=fun H=>⟨A_LOOK_AT_S,_,rfl,tQ (xs:=[.str "copy",.str "load",.str "loadw",.str "add",.str "addc",.str "sub",.str "subc",.str "and",.str "or",.str "xor",.str "test",.str "store",.str "storew"]) nq_LOOK_AT_S (by show (13:Nat)<=sizeLine; decide) (.cons ⟨_,rfl⟩ (.cons ⟨_,rfl⟩ (.cons ⟨_,rfl⟩ (.cons ⟨_,rfl⟩ (.cons ⟨_,rfl⟩ (.cons ⟨_,rfl⟩ (.cons ⟨_,rfl⟩ (.cons ⟨_,rfl⟩ (.cons ⟨_,rfl⟩ (.cons ⟨_,rfl⟩ (.cons ⟨_,rfl⟩ (.cons ⟨_,rfl⟩ (.cons ⟨_,rfl⟩ .nil))))))))))))) H,⟨_,_,rfl,⟨rfl,zW (by decide)⟩,⟨_,_,rfl,⟨rfl,zW (by decide)⟩,⟨_,_,rfl,⟨rfl,zW (by decide)⟩,⟨_,_,rfl,⟨rfl,zW (by decide)⟩,⟨_,_,rfl,⟨rfl,zW (by decide)⟩,⟨_,_,rfl,⟨rfl,zW (by decide)⟩,⟨_,_,rfl,⟨rfl,zW (by decide)⟩,⟨_,_,rfl,⟨rfl,zW (by decide)⟩,⟨_,_,rfl,⟨rfl,zW (by decide)⟩,⟨_,_,rfl,⟨rfl,zW (by decide)⟩,⟨_,_,rfl,⟨rfl,zW (by decide)⟩,⟨_,_,rfl,⟨rfl,zW (by decide)⟩,⟨_,_,rfl,⟨rfl,zW (by decide)⟩,rfl⟩⟩⟩⟩⟩⟩⟩⟩⟩⟩⟩⟩⟩,zW (by decide)⟩
 have k_LOOK_AT_CARRY:u5 K A_LOOK_AT_CARRY:=⟨_,nq_LOOK_AT_CARRY,rfl,rfl⟩
 have g_LOOK_AT_CARRY:yL mg "LOOK_AT_CARRY" (.ref A_LOOK_AT_CARRY):=⟨_,PySem.W.mg_of X G ng_LOOK_AT_CARRY,rfl⟩
 have q_LOOK_AT_CARRY:∀ H,zK K H V0 (.ref A_LOOK_AT_CARRY):=fun H=>⟨A_LOOK_AT_CARRY,_,rfl,tQ (xs:=[.str "addc",.str "subc"]) nq_LOOK_AT_CARRY (by show (2:Nat)<=sizeLine; decide) (.cons ⟨_,rfl⟩ (.cons ⟨_,rfl⟩ .nil)) H,⟨_,_,rfl,⟨rfl,zW (by decide)⟩,⟨_,_,rfl,⟨rfl,zW (by decide)⟩,rfl⟩⟩,zW (by decide)⟩
 have k_PUT_D:u5 K A_PUT_D:=⟨_,nq_PUT_D,rfl,rfl⟩
 have g_PUT_D:yL mg "PUT_D" (.ref A_PUT_D):=⟨_,PySem.W.mg_of X G ng_PUT_D,rfl⟩
 have q_PUT_D:∀ H,zK K H V4 (.ref A_PUT_D):=fun H=>⟨A_PUT_D,_,rfl,tQ (xs:=[.str "set",.str "high",.str "copy",.str "load",.str "loadw",.str "add",.str "addc",.str "sub",.str "subc",.str "and",.str "or",.str "xor",.str "left",.str "right"]) nq_PUT_D (by show (14:Nat)<=sizeLine; decide) (.cons ⟨_,rfl⟩ (.cons ⟨_,rfl⟩ (.cons ⟨_,rfl⟩ (.cons ⟨_,rfl⟩ (.cons ⟨_,rfl⟩ (.cons ⟨_,rfl⟩ (.cons ⟨_,rfl⟩ (.cons ⟨_,rfl⟩ (.cons ⟨_,rfl⟩ (.cons ⟨_,rfl⟩ (.cons ⟨_,rfl⟩ (.cons ⟨_,rfl⟩ (.cons ⟨_,rfl⟩ (.cons ⟨_,rfl⟩ .nil)))))))))))))) H,⟨_,_,rfl,⟨rfl,zW (by decide)⟩,⟨_,_,rfl,⟨rfl,zW (by decide)⟩,⟨_,_,rfl,⟨rfl,zW (by decide)⟩,⟨_,_,rfl,⟨rfl,zW (by decide)⟩,⟨_,_,rfl,⟨rfl,zW (by decide)⟩,⟨_,_,rfl,⟨rfl,zW (by decide)⟩,⟨_,_,rfl,⟨rfl,zW (by decide)⟩,⟨_,_,rfl,⟨rfl,zW (by decide)⟩,⟨_,_,rfl,⟨rfl,zW (by decide)⟩,⟨_,_,rfl,⟨rfl,zW (by decide)⟩,⟨_,_,rfl,⟨rfl,zW (by decide)⟩,⟨_,_,rfl,⟨rfl,zW (by decide)⟩,⟨_,_,rfl,⟨rfl,zW (by decide)⟩,⟨_,_,rfl,⟨rfl,zW (by decide)⟩,rfl⟩⟩⟩⟩⟩⟩⟩⟩⟩⟩⟩⟩⟩⟩,zW (by decide)⟩
 have k_PUT_NOUGHT_AND_SIGN:u5 K A_PUT_NOUGHT_AND_SIGN:=⟨_,nq_PUT_NOUGHT_AND_SIGN,rfl,rfl⟩
 have g_PUT_NOUGHT_AND_SIGN:yL mg "PUT_NOUGHT_AND_SIGN" (.ref A_PUT_NOUGHT_AND_SIGN):=⟨_,PySem.W.mg_of X G ng_PUT_NOUGHT_AND_SIGN,rfl⟩
 have q_PUT_NOUGHT_AND_SIGN:∀ H,zK K H V5 (.ref A_PUT_NOUGHT_AND_SIGN):=fun H=>⟨A_PUT_NOUGHT_AND_SIGN,_,rfl,tQ (xs:=[.str "add",.str "addc",.str "sub",.str "subc",.str "test",.str "and",.str "or",.str "xor",.str "left",.str "right"]) nq_PUT_NOUGHT_AND_SIGN (by show (10:Nat)<=sizeLine; decide) (.cons ⟨_,rfl⟩ (.cons ⟨_,rfl⟩ (.cons ⟨_,rfl⟩ (.cons ⟨_,rfl⟩ (.cons ⟨_,rfl⟩ (.cons ⟨_,rfl⟩ (.cons ⟨_,rfl⟩ (.cons ⟨_,rfl⟩ (.cons ⟨_,rfl⟩ (.cons ⟨_,rfl⟩ .nil)))))))))) H,⟨_,_,rfl,⟨rfl,zW (by decide)⟩,⟨_,_,rfl,⟨rfl,zW (by decide)⟩,⟨_,_,rfl,⟨rfl,zW (by decide)⟩,⟨_,_,rfl,⟨rfl,zW (by decide)⟩,⟨_,_,rfl,⟨rfl,zW (by decide)⟩,⟨_,_,rfl,⟨rfl,zW (by decide)⟩,⟨_,_,rfl,⟨rfl,zW (by decide)⟩,⟨_,_,rfl,⟨rfl,zW (by decide)⟩,⟨_,_,rfl,⟨rfl,zW (by decide)⟩,⟨_,_,rfl,⟨rfl,zW (by decide)⟩,rfl⟩⟩⟩⟩⟩⟩⟩⟩⟩⟩,zW (by decide)⟩
 have k_PUT_CARRY:u5 K A_PUT_CARRY:=⟨_,nq_PUT_CARRY,rfl,rfl⟩
 have g_PUT_CARRY:yL mg "PUT_CARRY" (.ref A_PUT_CARRY):=⟨_,PySem.W.mg_of X G ng_PUT_CARRY,rfl⟩
 have q_PUT_CARRY:∀ H,zK K H V3 (.ref A_PUT_CARRY):=fun H=>⟨A_PUT_CARRY,_,rfl,tQ (xs:=[.str "add",.str "addc",.str "sub",.str "subc",.str "test",.str "left",.str "right"]) nq_PUT_CARRY (by show (7:Nat)<=sizeLine; decide) (.cons ⟨_,rfl⟩ (.cons ⟨_,rfl⟩ (.cons ⟨_,rfl⟩ (.cons ⟨_,rfl⟩ (.cons ⟨_,rfl⟩ (.cons ⟨_,rfl⟩ (.cons ⟨_,rfl⟩ .nil))))))) H,⟨_,_,rfl,⟨rfl,zW (by decide)⟩,⟨_,_,rfl,⟨rfl,zW (by decide)⟩,⟨_,_,rfl,⟨rfl,zW (by decide)⟩,⟨_,_,rfl,⟨rfl,zW (by decide)⟩,⟨_,_,rfl,⟨rfl,zW (by decide)⟩,⟨_,_,rfl,⟨rfl,zW (by decide)⟩,⟨_,_,rfl,⟨rfl,zW (by decide)⟩,rfl⟩⟩⟩⟩⟩⟩⟩,zW (by decide)⟩
 have F24:=ue (st:=t_) l24 c24 k24
 have b24:xB K (PySem.W.fnOf "__init__" "State.__init__" (yc t_) (zz t_) (zH t_) .none kV24 dc24 pm24 an24 cd24 ct24) ["self", "words", "held"] []:=.all (YH fun _ _ _=>rfl)
 have F42:=ue (st:=tw) l42 c42 k42
 have b42:xB K (PySem.W.fnOf "stands" "Machine.stands" (yc tw) (zz tw) (zH tw) .none kV42 dc42 pm42 an42 cd42 ct42) ["self"] []:=.all (qq fun _=>rfl)
 have F43:=ue (st:=tm) l43 c43 k43
 have b43:xB K (PySem.W.fnOf "again" "Machine.again" (yc tm) (zz tm) (zH tm) .none kV43 dc43 pm43 an43 cd43 ct43) ["self"] []:=.all (qq fun _=>rfl)
 have F44:=ue (st:=tz) l44 c44 k44
 have b44:xB K (PySem.W.fnOf "step" "Machine.step" (yc tz) (zz tz) (zH tz) .none kV44 dc44 pm44 an44 cd44 ct44) ["self"] []:=.all (qq fun _=>rfl)
 have F45:=ue (st:=tu) l45 c45 k45
 have b45:xB K (PySem.W.fnOf "registers" "Machine.registers" (yc tu) (zz tu) (zH tu) .none kV45 dc45 pm45 an45 cd45 ct45) ["self"] []:=.all (qq fun _=>rfl)
 have F46:=ue (st:=tq) l46 c46 k46
 have b46:xB K (PySem.W.fnOf "marks" "Machine.marks" (yc tq) (zz tq) (zH tq) .none kV46 dc46 pm46 an46 cd46 ct46) ["self"] []:=.all (qq fun _=>rfl)
 have F47:=ue (st:=tt) l47 c47 k47
 have b47:xB K (PySem.W.fnOf "memory" "Machine.memory" (yc tt) (zz tt) (zH tt) .none kV47 dc47 pm47 an47 cd47 ct47) ["self"] []:=.all (qq fun _=>rfl)
 have F48:=ue (st:=tj) l48 c48 k48
 have b48:xB K (PySem.W.fnOf "__init__" "Machine.__init__" (yc tj) (zz tj) (zH tj) .none kV48 dc48 pm48 an48 cd48 ct48) ["self", "table", "end", "registers", "memory"] []:=.all (Kk fun _ _ _ _ _=>rfl)
 have F50:=ue (st:=wD) l50 c50 k50
 have b50:xB K (PySem.W.fnOf "__init__" "RowMachine.__init__" (yc wD) (zz wD) (zH wD) (.ref T50) kV50 dc50 pm50 an50 cd50 ct50) ["self", "items", "registers", "memory"] []:=fun s us KI hl=>by
  rw [List.append_nil] at hl ⊢
  exact T3 (P:=fun us=>BindsTo s (PySem.W.fnOf "__init__" "RowMachine.__init__" (yc wD) (zz wD) (zH wD) (.ref T50) kV50 dc50 pm50 an50 cd50 ct50) ⟨us,[]⟩ ((["self", "items", "registers", "memory"]:List Str).zip us)) (fun _ _ _ _=>PySem.W.binds_K KI rfl t50 rfl rfl rfl) us hl
 have F55:=ue (st:=vv) l55 c55 k55
 have b55:xB K (PySem.W.fnOf "run" "Machine.run" (yc vv) (zz vv) (zH vv) (.ref T55) kV55 dc55 pm55 an55 cd55 ct55) ["self", "most"] []:=fun s us KI hl=>by
  rw [List.append_nil] at hl ⊢
  exact T2 (P:=fun us=>BindsTo s (PySem.W.fnOf "run" "Machine.run" (yc vv) (zz vv) (zH vv) (.ref T55) kV55 dc55 pm55 an55 cd55 ct55) ⟨us,[]⟩ ((["self", "most"]:List Str).zip us)) (fun _ _=>PySem.W.binds_K KI rfl t55 rfl rfl rfl) us hl
 have F62:=QY (st:=pp) l62 c62 k62
 refine ⟨PySem.W.fnOf "law" "law" (yc pp) (zz pp) (zH pp) .none kV62 dc62 pm62 an62 cd62 ct62,fun s v=>.of_eq rfl,fun base _ _=>?_⟩
 have h_is_number:Yr l.prog w K mg base:=FZ X G z_isinstance z_int z_bool a0
 have h_added:YW l.prog w K mg base:=F4 X G g_BEYOND q_BEYOND a1
 have h_taken:XF l.prog w K mg base:=C6 X G g_BEYOND q_BEYOND a2
 have h_part:X8 l.prog w K mg base:=Fz X G  a3
 have h_moved_left:X4 l.prog w K mg base:=Fq X G g_WORD_BITS q_WORD_BITS h_part a4
 have h_moved_right:X5 l.prog w K mg base:=Fu X G h_part a5
 have h_with_part:XI l.prog w K mg base:=C9 X G  a6
 have h_bytes_of:Yb l.prog w K mg base:=FB X G h_part z_tuple g_BYTE_LOWS q_BYTE_LOWS a7
 have h_word_of:XL l.prog w K mg base:=CB X G g_BYTE_LOWS q_BYTE_LOWS z_sum z_zip a8
 have h_is_label:Yq l.prog w K mg base:=FY X G  a9
 have h_is_jump:Yp l.prog w K mg base:=FX X G g_JUMPS q_JUMPS a10
 have h_rows_of:XC l.prog w K mg base:=C2 X G h_is_label a11
 have h_label_places:Yu l.prog w K mg base:=Fc X G h_is_label a12
 have h_targets_of:XG l.prog w K mg base:=C7 X G h_label_places h_rows_of h_is_jump a13
 have h_is_address:Yo l.prog w K mg base:=FW X G g_ADDRESS_BITS q_ADDRESS_BITS h_is_number a14
 have h_is_pair:Ys l.prog w K mg base:=Fa X G z_isinstance z_tuple h_is_number z_len g_BYTE_BITS q_BYTE_BITS h_is_address a15
 have h_bytes_from:Ya l.prog w K mg base:=F9 X G z_isinstance z_list h_is_pair a16
 have h_pairs_of:X7 l.prog w K mg base:=Fy X G z_sorted a17
 have h_byte_at:YZ l.prog w K mg base:=F8 X G  a18
 have h_address_of:YY l.prog w K mg base:=F6 X G h_part g_ADDRESS_BITS q_ADDRESS_BITS a19
 have h_four_from:Yn l.prog w K mg base:=FV X G z_range h_address_of a20
 have h_word_at:XJ l.prog w K mg base:=CA X G h_word_of h_four_from h_byte_at a21
 have h_put_byte:XA l.prog w K mg base:=C0 X G h_part g_BYTE_BITS q_BYTE_BITS a22
 have h_put_word:XB l.prog w K mg base:=C1 X G z_zip h_four_from h_put_byte h_bytes_of a23
 have o24:=F3 (P:=l.prog) (w:=w) (mg:=mg) (base:=base) z_list z_dict g_MARKS q_MARKS a_words a_truths a_held F24
 have k_State:kz l.prog w K mg base "State" ["self", "words", "held"] 1 (zx K q_):=⟨C_State,f24,_,nc_State,PySem.W.mg_of X G nc_State,⟨mk_State,a24,i24,kc_State⟩,b24,o24⟩
 have h_do_set:Yj l.prog w K mg base:=FO X G a_words ⟨_,_,_,_,_,_,_,_,_,_,a25,l25,c25,k25⟩
 have h_do_high:Ye l.prog w K mg base:=FH X G a_words h_with_part ⟨_,_,_,_,_,_,_,_,_,_,a26,l26,c26,k26⟩
 have h_do_copy:Yd l.prog w K mg base:=FD X G a_words ⟨_,_,_,_,_,_,_,_,_,_,a27,l27,c27,k27⟩
 have h_summed:XD l.prog w K mg base:=C4 X G h_added h_taken a28
 have h_look_at:X1 l.prog w K mg base:=Fn X G g_WORD_BITS q_WORD_BITS h_part a_truths a29
 have h_do_sum:Ym l.prog w K mg base:=FU X G a_words a_truths h_look_at h_summed ⟨_,_,_,_,_,_,_,_,_,_,a30,l30,c30,k30⟩
 have h_joined:Yt l.prog w K mg base:=Fb X G  a31
 have h_do_bits:Yc l.prog w K mg base:=FC X G a_words h_look_at h_joined ⟨_,_,_,_,_,_,_,_,_,_,a32,l32,c32,k32⟩
 have h_do_move:Yh l.prog w K mg base:=FK X G a_words a_truths h_look_at h_moved_left h_moved_right ⟨_,_,_,_,_,_,_,_,_,_,a33,l33,c33,k33⟩
 have h_address_in:YX l.prog w K mg base:=F5 X G h_address_of a_words a34
 have h_do_load:Yf l.prog w K mg base:=FI X G h_byte_at a_words a_held h_address_in ⟨_,_,_,_,_,_,_,_,_,_,a35,l35,c35,k35⟩
 have h_do_loadw:Yg l.prog w K mg base:=FJ X G a_words a_held h_address_in h_word_at ⟨_,_,_,_,_,_,_,_,_,_,a36,l36,c36,k36⟩
 have h_do_store:Yk l.prog w K mg base:=FP X G h_put_byte a_words a_held h_address_in ⟨_,_,_,_,_,_,_,_,_,_,a37,l37,c37,k37⟩
 have h_do_storew:Yl l.prog w K mg base:=FQ X G a_words a_held h_address_in h_put_word ⟨_,_,_,_,_,_,_,_,_,_,a38,l38,c38,k38⟩
 have h_do_row:Yi l.prog w K mg base:=FN X G g_DEEDS d_DEEDS h_do_set h_do_high h_do_copy h_do_sum h_do_bits h_do_move h_do_load h_do_loadw h_do_store h_do_storew a39
 have h_leads:X0 l.prog w K mg base:=Fk X G a_truths a40
 have h_words_from:XM l.prog w K mg base:=CC X G z_isinstance g_WORD_BITS q_WORD_BITS h_is_number z_len z_list z_all g_REGISTER_COUNT q_REGISTER_COUNT a41
 have o42:=D_ (P:=l.prog) (w:=w) (mg:=mg) (base:=base) a_due a_table a_end F42
 have v_Machine_stands:xy l.prog w K mg base "RowMachine" "stands" ["self"] 1 (zm K tJ):=⟨C_RowMachine,f42,_,nc_RowMachine,cl_RowMachine,⟨a42,i42,k42⟩,b42,o42⟩
 have o43:=Dv (P:=l.prog) (w:=w) (mg:=mg) (base:=base) a_due a_state a_first_held a_first_words a_done k_State F43
 have v_Machine_again:xy l.prog w K mg base "RowMachine" "again" ["self"] 3 (zx K tI):=⟨C_RowMachine,f43,_,nc_RowMachine,cl_RowMachine,⟨a43,i43,k43⟩,b43,o43⟩
 have o44:=F0 (P:=l.prog) (w:=w) (mg:=mg) (base:=base) a_due a_table a_state a_done v_Machine_stands h_do_row h_leads F44
 have v_Machine_step:xy l.prog w K mg base "RowMachine" "step" ["self"] 7 (zx K wH):=⟨C_RowMachine,f44,_,nc_RowMachine,cl_RowMachine,⟨a44,i44,k44⟩,b44,o44⟩
 have o45:=Dy (P:=l.prog) (w:=w) (mg:=mg) (base:=base) z_list a_words a_state F45
 have v_Machine_registers:xy l.prog w K mg base "RowMachine" "registers" ["self"] 1 (zm K qz):=⟨C_RowMachine,f45,_,nc_RowMachine,cl_RowMachine,⟨a45,i45,k45⟩,b45,o45⟩
 have o46:=Dw (P:=l.prog) (w:=w) (mg:=mg) (base:=base) z_tuple g_MARKS q_MARKS a_truths a_state F46
 have v_Machine_marks:xy l.prog w K mg base "RowMachine" "marks" ["self"] 1 (zm K qx):=⟨C_RowMachine,f46,_,nc_RowMachine,cl_RowMachine,⟨a46,i46,k46⟩,b46,o46⟩
 have o47:=Dx (P:=l.prog) (w:=w) (mg:=mg) (base:=base) a_held a_state h_pairs_of F47
 have v_Machine_memory:xy l.prog w K mg base "RowMachine" "memory" ["self"] 2 (zm K qy):=⟨C_RowMachine,f47,_,nc_RowMachine,cl_RowMachine,⟨a47,i47,k47⟩,b47,o47⟩
 have o48:=Du (P:=l.prog) (w:=w) (mg:=mg) (base:=base) a_table a_end a_first_held a_first_words v_Machine_again h_words_from h_bytes_from F48
 have w_Machine___init__:ku l.prog w K mg base "Machine" "__init__" ["self", "table", "end", "registers", "memory"] 5 (zx K qw):=⟨⟨C_Machine,f48,_,.type "type",PySem.W.mg_of X G nc_Machine,hg_Machine,rd_Machine,a48,k48,b48,o48⟩⟩
 have h_table_of_rows:XE l.prog w K mg base:=C5 X G h_rows_of z_enumerate h_targets_of a49
 have o50:=F2 (P:=l.prog) (w:=w) (mg:=mg) (base:=base) z_len w_Machine___init__ h_table_of_rows F50
 have b50_1:xB K (PySem.W.fnOf "__init__" "RowMachine.__init__" (yc wD) (zz wD) (zH wD) (.ref T50) kV50 dc50 pm50 an50 cd50 ct50) ["self", "items", "registers", "memory"] [.none]:=fun s us KI hl=>by
  have hl':us.length=3:=by rw [List.length_append] at hl; exact Nat.add_right_cancel (show us.length+1=3+1 from hl)
  exact YH (P:=fun us=>BindsTo s (PySem.W.fnOf "__init__" "RowMachine.__init__" (yc wD) (zz wD) (zH wD) (.ref T50) kV50 dc50 pm50 an50 cd50 ct50) ⟨us,[]⟩ ((["self", "items", "registers", "memory"]:List Str).zip (us++[.none]))) (fun _ _ _=>PySem.W.binds_K KI rfl t50 rfl rfl rfl) us hl'
 have kd1_RowMachine:XN l.prog w K mg base "RowMachine" ["self", "items", "registers", "memory"] 6 (zx K uX) [.non]:=⟨C_RowMachine,f50,_,[.none],[.non],nc_RowMachine,PySem.W.mg_of X G nc_RowMachine,⟨mk_RowMachine,a50,i50,kc_RowMachine⟩,b50_1,(.cons rfl .nil),fun _=>⟨_,_,rfl,rfl,rfl⟩,o50⟩
 have k_RowMachine:kz l.prog w K mg base "RowMachine" ["self", "items", "registers", "memory"] 6 (zx K uX):=⟨C_RowMachine,f50,_,nc_RowMachine,PySem.W.mg_of X G nc_RowMachine,⟨mk_RowMachine,a50,i50,kc_RowMachine⟩,b50,o50⟩
 have h_mark_bit:X2 l.prog w K mg base:=Fo X G g_MARKS q_MARKS g_MARK_LOW q_MARK_LOW k_MARKS a51
 have h_moves_by_nought:X6 l.prog w K mg base:=Fv X G  a52
 have h_used:XH l.prog w K mg base:=C8 X G g_ALL_NEEDED q_ALL_NEEDED g_LOOK_AT_D q_LOOK_AT_D g_LOOK_AT_S q_LOOK_AT_S g_LOOK_AT_CARRY q_LOOK_AT_CARRY h_mark_bit a53
 have h_put:X9 l.prog w K mg base:=F_ X G h_mark_bit g_PUT_D q_PUT_D g_PUT_NOUGHT_AND_SIGN q_PUT_NOUGHT_AND_SIGN g_PUT_CARRY q_PUT_CARRY h_moves_by_nought a54
 have o55:=Dz (P:=l.prog) (w:=w) (mg:=mg) (base:=base) v_Machine_step F55
 have v_Machine_run:xy l.prog w K mg base "RowMachine" "run" ["self", "most"] 8 (zx K v_):=⟨C_RowMachine,f55,_,nc_RowMachine,cl_RowMachine,⟨a55,i55,k55⟩,b55,o55⟩
 have h_law_cell_at:Yv l.prog w K mg base:=Fe X G z_len a56
 have h_law_mark:Yx l.prog w K mg base:=Fg X G z_len h_law_cell_at a57
 have h_law_words:Y_ l.prog w K mg base:=Fj X G  a58
 have h_law_row_by:Yz l.prog w K mg base:=Fi X G z_len h_law_words a59
 have h_law_registers:Yy l.prog w K mg base:=Fh X G z_range h_law_mark a60
 have h_law_left_by:Yw l.prog w K mg base:=Ff X G z_len z_list kd1_RowMachine v_Machine_run v_Machine_registers v_Machine_marks v_Machine_memory a61
 exact Fd z_range h_law_mark h_law_left_by h_law_row_by h_law_registers h_put h_used F62
theorem walk {l:PySem.W.OpenLaw} {q:Program} {loose:List Str} {XP:(Str->Option Value)->Heap->Prop} {YP:World->Heap->Prop} {d:DefRec} {K:Params->PySem.W.Frag} (hn:l.most=some 63) (hdf:d.params.defaults=[])
  (hY:∀ (w:World) (h:Heap),YP w h->(K w.params).In h)
  (F:∀ (w:World) (mg:Str->Option Value) (fa:Addr) (h:Heap),(K w.params).In h->h.Ns mainGlobals mg->mg d.name=some (.ref fa)->
   ∃ fd:FuncData,(∀ (s:Shared) (u:Value),BindsTo s fd ⟨[u],[]⟩ [("_law_script",u)])/\∀ base:Heap,(K w.params).In base->base.Ns mainGlobals mg->yO l.prog w (K w.params) mg base yJ 10 fa fd ["_law_script"] (kW (K w.params))) :
  PySem.W.WalkO q loose XP YP l.row.toRowW d [] (fun f vs=>PySem.call f vs):=
 L3.walkB (n:=63) (k:=10) (x := "_law_script") (sp:=kW) hn (by decide) hdf ⟨rfl,by decide,by decide,rfl⟩ hY F fun _ _ a ns hl hb hS=>⟨a,ns,rfl,hS,hl,hb,fun _=>rfl⟩
end My
namespace PySem.W.Fast
noncomputable def tw17814094420033101778:=0
noncomputable def tw10952187299497796995:=0
noncomputable def tw3472840026425001747:=0
noncomputable def tw2833759936509949088:=0
noncomputable def tw10057513668321297442:=0
noncomputable def tw12012098469291227902:=0
noncomputable def tw18373406305028790726:=0
noncomputable def tw2228940685130721031:=0
noncomputable def tw15768888302565227045:=0
noncomputable def tw13133675019815997915:=0
noncomputable def tw16553619610875829989:=0
noncomputable def tw13003527185614658187:=0
noncomputable def tw12448592892340645039:=0
noncomputable def tw2473495918499536950:=0
noncomputable def tw328434805106095228:=0
noncomputable def tw1292203826811120582:=0
noncomputable def tw6272092347684210502:=0
noncomputable def tw16765354641292748960:=0
noncomputable def tw3554619507945440327:=0
noncomputable def tw2456684085199237571:=0
noncomputable def tw6786526818013025058:=0
noncomputable def tw12262477866221171865:=0
noncomputable def tw7569788456373072897:=0
noncomputable def tw2533899039095278024:=0
noncomputable def tw8794313362833296752:=0
noncomputable def tw15015900738642849551:=0
noncomputable def tw15249336540906058256:=0
noncomputable def tw13148392130796914911:=0
noncomputable def tw1945145518206147296:=0
noncomputable def tw16121707514499634031:=0
noncomputable def tw15634124247062567179:=0
noncomputable def tw16543524000321073897:=0
noncomputable def tw8764898891659151374:=0
noncomputable def tw11827443556332002047:=0
noncomputable def tw16694245265936438073:=0
noncomputable def tw11202735289394355373:=0
noncomputable def tw10897319602684282498:=0
noncomputable def tw13136712600295576046:=0
noncomputable def tw3018590978979503926:=0
noncomputable def tw6205148585289140207:=0
noncomputable def tw8592192206479213934:=0
noncomputable def tw10769417887261086212:=0
noncomputable def tw894233955899717176:=0
noncomputable def tw5330689038631919896:=0
noncomputable def tw7953988025695170069:=0
noncomputable def tw8715215949380357637:=0
noncomputable def tw4315646858407230983:=0
noncomputable def tw8575979234123181530:=0
noncomputable def tw2883916773505707807:=0
noncomputable def tw4360945711441531441:=0
noncomputable def tw14365574639537839208:=0
noncomputable def tw1035363982425701878:=0
noncomputable def tw8258865892693219:=0
noncomputable def tw13523554215370008302:=0
noncomputable def tw6602155889140962848:=0
noncomputable def tw3687513913010391636:=0
noncomputable def tw15356568593929021550:=0
noncomputable def tw12819070922244893586:=0
noncomputable def tw12615740488176764775:=0
noncomputable def tw3178984311982560292:=0
noncomputable def tw13126515553992949797:=0
noncomputable def tw7052388778249516092:=0
noncomputable def tw4697025866095401941:=0
noncomputable def tw3095678908332499687:=0
noncomputable def tw1219146185339621329:=0
noncomputable def tw11462856121664666080:=0
noncomputable def tw11122990711297335281:=0
noncomputable def tw3765234522482759095:=0
noncomputable def tw13651637389242064583:=0
noncomputable def tw10859534189910886228:=0
noncomputable def tw4651993727361422032:=0
noncomputable def tw8841101094493857013:=0
noncomputable def tw17567773182259099680:=0
noncomputable def tw16889899159964778463:=0
noncomputable def tw11650115892929078838:=0
noncomputable def tw13519538842095885124:=0
noncomputable def tw12102542283287678661:=0
noncomputable def tw8868852492688529687:=0
noncomputable def tw12421446168401827678:=0
noncomputable def tw4545133610283264600:=0
noncomputable def tw5856624981975781405:=0
noncomputable def tw14734400398120713454:=0
noncomputable def tw13345250748056240351:=0
noncomputable def tw10749745079885963244:=0
noncomputable def tw6548078946302522689:=0
noncomputable def tw4819774549694937867:=0
noncomputable def tw6814312645591469491:=0
noncomputable def tw4617394724153395023:=0
noncomputable def tw11051386908559376194:=0
noncomputable def tw18436276225187137681:=0
noncomputable def tw11840589535176297567:=0
noncomputable def tw7733434728914864334:=0
noncomputable def tw15273831212421507422:=0
noncomputable def tw2786833372045439613:=0
noncomputable def tw12181209163751997542:=0
noncomputable def tw4437046261247530710:=0
noncomputable def tw12719058910465921220:=0
noncomputable def tw10421529135225937819:=0
noncomputable def tw12132106760829820110:=0
noncomputable def tw8115341248274226094:=0
noncomputable def tw16016264252333381007:=0
noncomputable def tw1270690683763206062:=0
noncomputable def tw8287027273191944026:=0
noncomputable def tw17668117290535493253:=0
noncomputable def tw13250554568819984353:=0
noncomputable def tw2948020633424357146:=0
noncomputable def tw3511841694069841563:=0
noncomputable def tw18387264564264475411:=0
noncomputable def tw10979127106365608036:=0
noncomputable def tw5360028557275492858:=0
noncomputable def tw5992449042053394321:=0
noncomputable def tw6346467228664524975:=0
noncomputable def tw17948652607075867187:=0
noncomputable def tw9985995888688863112:=0
noncomputable def tw12469024944537917518:=0
noncomputable def tw3602023754683654835:=0
noncomputable def tw6250086637938303814:=0
noncomputable def tw7131597159335835797:=0
noncomputable def tw13758084524006519447:=0
noncomputable def tw6314103093039112812:=0
noncomputable def tw5155667398280685367:=0
noncomputable def tw7850696184578845254:=0
noncomputable def tw6733035319351587875:=0
noncomputable def tw5003191006022183180:=0
noncomputable def tw13607659129843798862:=0
noncomputable def tw7704838151812393257:=0
noncomputable def tw10422534175506290602:=0
noncomputable def tw15546248160019031235:=0
noncomputable def tw5801314369965673936:=0
noncomputable def tw5095921328173871963:=0
noncomputable def tw2365362498105021582:=0
noncomputable def tw13885044265955797095:=0
noncomputable def tw17099127367310109999:=0
noncomputable def tw16005246280289187214:=0
noncomputable def tw2158324032185406852:=0
noncomputable def tw15429025563697815651:=0
noncomputable def tw2515176170428833648:=0
noncomputable def tw9869444112106048403:=0
noncomputable def tw4928918139534715954:=0
noncomputable def tw1714796345305666469:=0
noncomputable def tw14371190317278337359:=0
noncomputable def tw4270072449478515503:=0
noncomputable def tw17454421848705001075:=0
noncomputable def tw10273334723450751357:=0
noncomputable def tw18442706147021452799:=0
noncomputable def tw18241217043306592405:=0
end PySem.W.Fast
open PySem PySem.W PyProof.Rows
set_option maxRecDepth 100000 in
set_option maxHeartbeats 0 in
theorem PySem.Challenge.cw_markrun_k47_rows_done_as_told_holds : PySem.Challenge.rw_markrun_k47_rows_done_as_told.Holds := by
 w_on; o_law; k_head; (case hw=>w_witness2)
 k_fill
 refine My.walk (l:=PySem.Challenge.rw_markrun_k47_rows_done_as_told) rfl rfl (fun w h Y=>PySem.W.kIn_of Y) ?F
 case F=>
  intro w mg fa h KX G hmg
  refine' My.all_mk KX G hmg ?nc_Machine ?nc_RowMachine ?nc_State ?a0 ?a1 ?a2 ?a3 ?a4 ?a5 ?a6 ?a7 ?a8 ?a9 ?a10 ?a11 ?a12 ?a13 ?a14 ?a15 ?a16 ?a17 ?a18 ?a19 ?a20 ?a21 ?a22 ?a23 ?a24 ?l24 ?c24 ?k24 ?i24 ?a25 ?l25 ?c25 ?k25 ?a26 ?l26 ?c26 ?k26 ?a27 ?l27 ?c27 ?k27 ?a28 ?a29 ?a30 ?l30 ?c30 ?k30 ?a31 ?a32 ?l32 ?c32 ?k32 ?a33 ?l33 ?c33 ?k33 ?a34 ?a35 ?l35 ?c35 ?k35 ?a36 ?l36 ?c36 ?k36 ?a37 ?l37 ?c37 ?k37 ?a38 ?l38 ?c38 ?k38 ?a39 ?a40 ?a41 ?a42 ?l42 ?c42 ?k42 ?i42 ?a43 ?l43 ?c43 ?k43 ?i43 ?a44 ?l44 ?c44 ?k44 ?i44 ?a45 ?l45 ?c45 ?k45 ?i45 ?a46 ?l46 ?c46 ?k46 ?i46 ?a47 ?l47 ?c47 ?k47 ?i47 ?a48 ?l48 ?c48 ?k48 ?i48 ?a49 ?a50 ?l50 ?c50 ?k50 ?i50 ?t50 ?a51 ?a52 ?a53 ?a54 ?a55 ?l55 ?c55 ?k55 ?i55 ?t55 ?a56 ?a57 ?a58 ?a59 ?a60 ?a61 ?a62 ?l62 ?c62 ?k62 ?nz_isinstance ?nz_int ?nz_bool ?nz_tuple ?nz_sum ?nz_zip ?nz_len ?nz_list ?nz_sorted ?nz_range ?nz_dict ?nz_all ?nz_enumerate ?hg_Machine ?rd_Machine ?pg_RowMachine ?hd_RowMachine ?po_RowMachine ?sa_RowMachine ?mk_RowMachine ?kc_RowMachine ?pg_State ?hd_State ?po_State ?sa_State ?mk_State ?kc_State ?nf_RowMachine_done ?nf_RowMachine_due ?nf_RowMachine_end ?nf_RowMachine_first_held ?nf_RowMachine_first_words ?nf_State_held ?nf_RowMachine_state ?nf_RowMachine_table ?nf_State_truths ?nf_State_words ?ng_DEEDS ?nq_DEEDS ?ns_DEEDS ?ng_BEYOND ?ng_WORD_BITS ?ng_BYTE_LOWS ?nq_BYTE_LOWS ?ng_JUMPS ?nq_JUMPS ?ng_ADDRESS_BITS ?ng_BYTE_BITS ?ng_MARKS ?nq_MARKS ?ng_REGISTER_COUNT ?ng_MARK_LOW ?ng_ALL_NEEDED ?ng_LOOK_AT_D ?nq_LOOK_AT_D ?ng_LOOK_AT_S ?nq_LOOK_AT_S ?ng_LOOK_AT_CARRY ?nq_LOOK_AT_CARRY ?ng_PUT_D ?nq_PUT_D ?ng_PUT_NOUGHT_AND_SIGN ?nq_PUT_NOUGHT_AND_SIGN ?ng_PUT_CARRY ?nq_PUT_CARRY
  all_goals try exact ⟨_,_,_,_,_,_,_,_,_,_,by k_is,by k_is,by k_is,by k_is⟩
  all_goals try (first | k_is | k_exc | kit_is | kts_exm)
  all_goals decide
