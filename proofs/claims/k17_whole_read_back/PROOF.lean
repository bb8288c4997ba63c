import PyProof.Rows.All
import Wide.All
import OpenK.AllK
import Wide.FinOn
import Lean
import PyProof.EqAt
import PyProof.EqKinds
import PyProof.TupleCall
import PySem.Challenge.RW_markrun_k17_whole_read_back
set_option Elab.async false
set_option linter.all false
set_option maxRecDepth 100000
namespace L2
open PySem PySem.Spec PyProof.Rows
noncomputable abbrev Key:=Sum Int Str
noncomputable def wJ:Key->Value->Bool
 | .inl k,v=>Value.isInt k v
 | .inr x,v=>Value.isStrOf x v
noncomputable def M3 (w:World):Key->Int
 | .inl k=>hashInt k
 | .inr x=>hashStr w x
theorem vm:∀ {k:Key} {v:Value},wJ k v=true->(∃ i t,k=Sum.inl i/\v=Value.int i t)\/(∃ x t,k=Sum.inr x/\v=Value.str x t)
 | .inl i,v,h=>by
  obtain ⟨t,e⟩:=Value.isInt_shape (k:=i) (v:=v) h
  exact .inl ⟨i,t,rfl,e⟩
 | .inr x,v,h=>by
  obtain ⟨t,e⟩:=Value.isStrOf_shape (x:=x) (v:=v) h
  exact .inr ⟨x,t,rfl,e⟩
theorem M4 (i:Int) (t:Tok):wJ (.inl i) (.int i t)=true:=by simp [wJ,Value.isInt]
theorem M5 (x:Str) (t:Tok):wJ (.inr x) (.str x t)=true:=by simp [wJ,Value.isStrOf]
theorem M6 (a b:Int):decide ((Sum.inl a:Key)=Sum.inl b)=(a == b):=by
 by_cases e:a=b
 ·subst e; simp
 ·have h:¬ (Sum.inl a:Key)=Sum.inl b:=fun q=>e (Sum.inl.inj q)
  rw [decide_eq_false h]
  exact (beq_eq_false_iff_ne.mpr e).symm
theorem M9 (a b:Str):decide ((Sum.inr a:Key)=Sum.inr b)=decide (a=b):=by
 by_cases e:a=b
 ·subst e; simp
 ·have h:¬ (Sum.inr a:Key)=Sum.inr b:=fun q=>e (Sum.inr.inj q)
  rw [decide_eq_false h,decide_eq_false e]
theorem M7 (a:Int) (b:Str):decide ((Sum.inl a:Key)=Sum.inr b)=false:=decide_eq_false (fun q=>nomatch q)
theorem M8 (a:Str) (b:Int):decide ((Sum.inr a:Key)=Sum.inl b)=false:=decide_eq_false (fun q=>nomatch q)
noncomputable def yh (prog:Program) (w:World):PySem.KeyKind prog w Key where
 is:=wJ
 hash:=M3 w
 inj:=fun v a b ha hb=>by
  rcases vm ha with ⟨i,t,rfl,rfl⟩ | ⟨x,t,rfl,rfl⟩
  ·rcases vm hb with ⟨j,u,rfl,e⟩ | ⟨y,u,rfl,e⟩
   ·injection e with e1 _; rw [e1]
   ·exact nomatch e
  ·rcases vm hb with ⟨j,u,rfl,e⟩ | ⟨y,u,rfl,e⟩
   ·exact nomatch e
   ·injection e with e1 _; rw [e1]
 byValue:=fun k v h=>by
  rcases vm h with ⟨i,t,rfl,rfl⟩ | ⟨x,t,rfl,rfl⟩<;>rfl
 pyHash:=fun hv h=>by
  rcases vm hv with ⟨i,t,rfl,rfl⟩ | ⟨x,t,rfl,rfl⟩
  ·exact wpAny_pyHash_int h
  ·exact wpAny_pyHash_str h
 eqBool:=fun hu hv h=>by
  rcases vm hu with ⟨i,t,rfl,rfl⟩ | ⟨x,t,rfl,rfl⟩
  ·rcases vm hv with ⟨j,u,rfl,rfl⟩ | ⟨y,u,rfl,rfl⟩
   ·rw [M6] at h; exact wpAny_eqBool_int h
   ·rw [M7] at h; exact SeqAt.EqAt.int_str i t y u _ _ _ _ h
  ·rcases vm hv with ⟨j,u,rfl,rfl⟩ | ⟨y,u,rfl,rfl⟩
   ·rw [M8] at h; exact SeqAt.EqAt.str_int x t j u _ _ _ _ h
   ·rw [M9] at h; exact wpAny_eqBool_str h
 «strs»:=fun k x t v h=>by
  rcases vm h with ⟨i,u,rfl,e⟩ | ⟨y,u,rfl,e⟩
  ·exact nomatch e
  ·injection e with e1 _
   subst e1
   cases v<;>rfl
theorem Mf (prog:Program) (w:World) (i:Int) (t:Tok):(yh prog w).is (.inl i) (.int i t)=true:=M4 i t
theorem WV (prog:Program) (w:World) (x:Str) (t:Tok):(yh prog w).is (.inr x) (.str x t)=true:=M5 x t
end L2
namespace L2
open PySem PySem.Spec PyProof.Rows
inductive V where
 | non | bl (b:Bool) | int (i:Int) | str (x:Str) | byt (b:Array UInt8) | flt (b:UInt64) | ref (a:Addr) | ty (n:String)
 deriving DecidableEq
noncomputable def zi:V->Value->Prop
 | .non,u=>u=Value.none
 | .bl b,u=>u=Value.bool b
 | .int i,u=>∃ t,u=Value.int i t
 | .str x,u=>∃ t,u=Value.str x t
 | .byt b,u=>∃ t,u=Value.bytes b t
 | .flt b,u=>∃ t,u=Value.float b t
 | .ref a,u=>u=Value.ref a
 | .ty n,u=>u=Value.type n
noncomputable abbrev zf:List V->List Value->Prop:=Paired zi
theorem zf.length {xs:List V} {us:List Value} (r:zf xs us):xs.length=us.length:=Paired.length r
theorem zf.get:∀ {xs:List V} {us:List Value} {i:Nat} {x:V},zf xs us->xs[i]?=some x->∃ u,us[i]?=some u/\zi x u
 | _,_,_,_,.nil,e=>by simp at e
 | _,_,0,_,.cons r _,e=>by simp at e; subst e; exact ⟨_,rfl,r⟩
 | _,_,i+1,x,.cons _ t,e=>by
  obtain ⟨u,h1,h2⟩:=zf.get (i:=i) (x:=x) t (by simpa using e)
  exact ⟨u,by simpa using h1,h2⟩
theorem zf.append:∀ {xs ys:List V} {us ws:List Value},zf xs us->zf ys ws->zf (xs++ys) (us++ws)
 | _,_,_,_,.nil,s=>s
 | _,_,_,_,.cons r t,s=>.cons r (zf.append t s)
theorem zf.take:∀ {xs:List V} {us:List Value} (n:Nat),zf xs us->zf (xs.take n) (us.take n)
 | _,_,0,_=>.nil
 | _,_,_+1,.nil=>.nil
 | _,_,n+1,.cons r t=>.cons r (zf.take n t)
theorem zf.drop:∀ {xs:List V} {us:List Value} (n:Nat),zf xs us->zf (xs.drop n) (us.drop n)
 | _,_,0,r=>r
 | _,_,_+1,.nil=>.nil
 | _,_,n+1,.cons _ t=>zf.drop n t
noncomputable def v_:Option V->Option Value->Prop
 | some v,some u=>zi v u
 | none,none=>True
 | _,_=>False
noncomputable def KV {κ:Type}:List (κ×V)->List (κ×Value)->Prop:=Paired fun (p:κ×V) (q:κ×Value)=>p.1=q.1/\zi p.2 q.2
noncomputable def kV:Key->V
 | .inl i=>.int i
 | .inr x=>.str x
inductive HO where
  | lst (xs:List V)
  | tup (xs:List V)
  | dK (kvs:List (Key×V)) | dT (kvs:List (List Key×V))
  | set (S:Int->Bool) (n:Nat)
  | ins (C dx:Addr) (fs:List (Str×V))
  | own (x:Addr)
  | xd (fs:List (Str×V))
  | met (f x:Addr)
  | rng (lo hi:Int)
  | frz (o:Obj) (u:HO)
  | tbl (ps:Array Value)
  | ext (φ:Heap->Prop)
noncomputable abbrev Hp:=Addr->Option HO
noncomputable def zX (H:Hp) (a:Addr) (o:HO):Hp:=fun b=>if b=a then some o else H b
theorem yz {H:Hp} {a:Addr} {o:HO}:zX H a o a=some o:=by unfold zX; rw [if_pos rfl]
theorem yf {H:Hp} {a b:Addr} {o:HO} (h:b≠a):zX H a o b=H b:=by unfold zX; rw [if_neg h]
theorem Mu {H:Hp} {a b:Addr} {o u:HO} (h:H a=some o) (h':H b=some u) (d:o≠u):a≠b:=by
 intro e; subst e; rw [h] at h'; exact d (Option.some.inj h')
theorem wT {H:Hp} {a b:Addr} {o:HO} (h:H a=some o) (h':H b=none):a≠b:=by
 intro e; subst e; rw [h] at h'; cases h'
section
variable (P:Program) (w:World)
noncomputable def yo (H:Hp) (h:Heap) (a:Addr):HO->Prop
 | .lst xs=>xs.length<=sizeLine/\∃ (its:List Value) (n:Nat),zf xs its/\h.get? a=some { cls:=.type "list",data:=.seq its.toArray n }
 | .tup xs=>xs.length<=sizeLine/\∃ its:List Value,zf xs its/\IsTup h a its.toArray
 | .dK kvs=>kvs.length<=sizeLine/\(a == sysModules)=false/\∃ vs,KV kvs vs/\h.DictOf (yh P w) a vs
 | .dT kvs=>kvs.length<=sizeLine/\(a == sysModules)=false/\∃ xs:List (List Key×Addr×Value),
   Paired (fun (p:List Key×V) (q:List Key×Addr×Value)=>p.1=q.1/\H q.2.1=some (.tup (p.1.map kV))/\zi p.2 q.2.2) kvs xs/\
   ∃ o es ep,h.get? a=some o/\o.ExactDict/\o.data=.dict es ep/\es.toList=xs.map (entryOfKey (tupleKind (yh P w)))/\(xs.map (·.1)).Nodup
 | .set S n=>h.SetOf (intKind P w) a S n
 | .ins C dx fs=>H dx=some (.own a)/\fs.length<=1000/\dx≠a/\h.get? a=some (PySem.W.instObj C dx)/\
   ∃ mA,h.Ns1 dx mA/\(∀ f,v_ (fs.lookup f) (mA f))/\PySem.Within mA (fs.map (·.1))
 | .own _=>∃ o,h.get? a=some o
 | .xd fs=>∃ mA,h.Ns1 a mA/\∀ f,v_ (fs.lookup f) (mA f)
 | .rng lo hi=>∃ t u v,h.get? a=some { cls:=.type "range",data:=.fields #[.int lo t,.int hi u,.int 1 v] }
 | .frz o u=>h.get? a=some o/\yo H h a u
 | .tbl ps=>h.get? a=some { cls:=.none,data:=.fields ps }
 | .met f x=>h.get? a=some (PySem.W.methodObj (.ref f) (.ref x))
 | .ext φ=>φ h/\(∃ o,h.get? a=some o)/\∀ h1 h2:Heap,φ h1->(∀ o,h1.get? a=some o->h2.get? a=some o)->φ h2
noncomputable def y_ (H:Hp) (h:Heap):Prop:=∀ a o,H a=some o->yo P w H h a o
end
section
variable {P:Program} {w:World} {H H':Hp} {h h':Heap} {a:Addr} {o:HO}
theorem yo.lt (x:yo P w H h a o):a<h.objs.size:=by
 cases o with
 | lst xs=>obtain ⟨_,_,_,_,e⟩:=x; exact Heap.lt_size e
 | tup xs=>obtain ⟨_,_,_,p⟩:=x; exact p.lt
 | dK kvs=>obtain ⟨_,_,_,_,o,_,_,e,_⟩:=x; exact Heap.lt_size e
 | dT kvs=>obtain ⟨_,_,_,_,o,_,_,e,_⟩:=x; exact Heap.lt_size e
 | set S n=>obtain ⟨o,_,_,_,e,_⟩:=x; exact Heap.lt_size e
 | ins C dx fs=>obtain ⟨_,_,_,e,_⟩:=x; exact Heap.lt_size e
 | own y=>obtain ⟨_,e⟩:=x; exact Heap.lt_size e
 | xd fs=>obtain ⟨_,⟨_,_,_,e,_⟩,_⟩:=x; exact Heap.lt_size e
 | rng lo hi=>obtain ⟨_,_,_,e⟩:=x; exact Heap.lt_size e
 | frz ob u=>obtain ⟨e,_⟩:=x; exact Heap.lt_size e
 | tbl ps=>exact Heap.lt_size (show h.get? a=some _ from x)
 | met f y=>exact Heap.lt_size (show h.get? a=some _ from x)
 | ext φ=>obtain ⟨_,⟨_,e⟩,_⟩:=x; exact Heap.lt_size e
theorem Paired.mapP {α β:Type} {F G:α->β->Prop}:∀ {l₁:List α} {l₂:List β},Paired F l₁ l₂->(∀ a b,F a b->G a b)->Paired G l₁ l₂
 | _,_,.nil,_=>.nil
 | _,_,.cons r t,f=>.cons (f _ _ r) (Paired.mapP t f)
theorem yo.stay (x:yo P w H h a o) (k:∀ b u,(b=a\/H b=some (.own a))->h.get? b=some u->h'.get? b=some u)
  (ho:∀ b,H b=some (.own a)->H' b=some (.own a)) (ht:∀ b xs,H b=some (.tup xs)->H' b=some (.tup xs)):yo P w H' h' a o:=by
 induction o with
 | lst xs=>obtain ⟨z,its,n,r,e⟩:=x; exact ⟨z,its,n,r,k _ _ (.inl rfl) e⟩
 | tup xs=>obtain ⟨z,its,r,ob,e,c⟩:=x; exact ⟨z,its,r,ob,k _ _ (.inl rfl) e,c⟩
 | dK kvs=>obtain ⟨z,y,vs,r,ob,es,ep,e,c⟩:=x; exact ⟨z,y,vs,r,ob,es,ep,k _ _ (.inl rfl) e,c⟩
 | dT kvs=>
  obtain ⟨z,y,xs,r,ob,es,ep,e,c⟩:=x
  exact ⟨z,y,xs,Paired.mapP r fun p q z=>⟨z.1,ht _ _ z.2.1,z.2.2⟩,ob,es,ep,k _ _ (.inl rfl) e,c⟩
 | set S n=>obtain ⟨ob,es,ep,t,e,c⟩:=x; exact ⟨ob,es,ep,t,k _ _ (.inl rfl) e,c⟩
 | ins C dx fs=>
  obtain ⟨d,z,ne,e,mA,⟨od,es,ep,e2,c⟩,r⟩:=x
  exact ⟨ho _ d,z,ne,k _ _ (.inl rfl) e,mA,⟨od,es,ep,k _ _ (.inr d) e2,c⟩,r⟩
 | own y=>obtain ⟨ob,e⟩:=x; exact ⟨ob,k _ _ (.inl rfl) e⟩
 | xd fs=>obtain ⟨mA,⟨od,es,ep,e,c⟩,r⟩:=x; exact ⟨mA,⟨od,es,ep,k _ _ (.inl rfl) e,c⟩,r⟩
 | rng lo hi=>obtain ⟨t,u,v,e⟩:=x; exact ⟨t,u,v,k _ _ (.inl rfl) e⟩
 | frz ob u ih=>obtain ⟨e,q⟩:=x; exact ⟨k _ _ (.inl rfl) e,ih q⟩
 | tbl ps=>
  have e:h.get? a=some { cls:=.none,data:=.fields ps }:=x
  show h'.get? a=some { cls:=.none,data:=.fields ps }
  exact k a _ (.inl rfl) e
 | met f y=>
  have e:h.get? a=some (PySem.W.methodObj (.ref f) (.ref y)):=x
  show h'.get? a=some (PySem.W.methodObj (.ref f) (.ref y))
  exact k a _ (.inl rfl) e
 | ext φ=>obtain ⟨p,⟨o,e⟩,st⟩:=x; exact ⟨st _ _ p fun o q=>k _ _ (.inl rfl) q,⟨o,k _ _ (.inl rfl) e⟩,st⟩
theorem y_.lt (x:y_ P w H h) (e:H a=some o):a<h.objs.size:=(x a o e).lt
theorem y_.fresh (x:y_ P w H h) (e:h.objs.size<=a):H a=none:=by
 cases q:H a with
 | none=>rfl
 | some u=>exact absurd (Nat.lt_of_lt_of_le (x.lt q) e) (Nat.lt_irrefl _)
theorem y_.kept (x:y_ P w H h) (k:∀ b u,h.get? b=some u->h'.get? b=some u):y_ P w H h':=fun a o e=>
 (x a o e).stay (fun b u _ q=>k b u q) (fun _ q=>q) fun _ _ q=>q
theorem y_.laid (x:y_ P w H h) (k:∀ b u,h.get? b=some u->h'.get? b=some u) (hp:h.objs.size<=a) (new:yo P w (zX H a o) h' a o):y_ P w (zX H a o) h':=fun b u e=>by
 have hn:=x.fresh hp
 by_cases hb:b=a
 ·subst hb; rw [yz] at e; cases e; exact new
 ·rw [yf hb] at e
  exact (x b u e).stay (fun c v _ q=>k c v q) (fun c q=>by rw [yf (wT q hn)]; exact q) fun c xs q=>by rw [yf (wT q hn)]; exact q
end
noncomputable def Rd (H:Hp) (a:Addr) (u:HO):Prop:=H a=some u\/∃ o,H a=some (.frz o u)
theorem Rd.ok {P:Program} {w:World} {H:Hp} {h:Heap} {a:Addr} {u:HO} (r:Rd H a u) (x:y_ P w H h):yo P w H h a u:=by
 rcases r with r | ⟨o,r⟩
 ·exact x a u r
 ·obtain ⟨_,q⟩:=x a _ r
  exact q
noncomputable def ja:Option HO->Prop
 | some (.lst _)=>True
 | some (.dK _)=>True
 | some (.dT _)=>True
 | some (.set _ _)=>True
 | some (.ins _ _ _)=>True
 | some (.ext _)=>True
 | _=>False
section
variable {P:Program} {w:World} {H:Hp} {h h':Heap} {x e:Addr} {o':HO}
theorem y_.write (ok:y_ P w H h) (mu:ja (H x)) (he:e=x\/H e=some (.own x)) (k:∀ b u,b≠e->h.get? b=some u->h'.get? b=some u) (heo:∃ u,h'.get? e=some u)
  (new:yo P w (zX H x o') h' x o'):y_ P w (zX H x o') h':=fun b u q=>by
 have nown:∀ c y,H c=some (.own y)->c≠x:=fun c y r z=>by subst z; rw [r] at mu; exact mu
 have ntup:∀ c xs,H c=some (.tup xs)->c≠x:=fun c xs r z=>by subst z; rw [r] at mu; exact mu
 by_cases hb:b=x
 ·subst hb; rw [yz] at q; cases q; exact new
 ·rw [yf hb] at q
  by_cases hbe:b=e
  ·have q':H b=some (.own x):=by
    rcases he with z | z
    ·exact absurd (hbe.trans z) hb
    ·rw [hbe]; exact z
   rw [q] at q'; cases q'
   obtain ⟨v,hv⟩:=heo
   exact ⟨v,by rw [hbe]; exact hv⟩
  ·refine (ok b u q).stay (fun c v hc r=>k c v ?_ r) (fun c r=>by rw [yf (nown c b r)]; exact r) fun c xs r=>by rw [yf (ntup c xs r)]; exact r
   rcases hc with rfl | hc
   ·exact hbe
   ·rintro rfl
    rcases he with z | z
    ·exact nown c b hc z
    ·rw [hc] at z; cases z; exact hb rfl
end
structure Un (fs ex:List Addr) (H H':Hp) (h h':Heap):Prop where
 keep:∀ b o,h.get? b=some o->H b=none->b ∉ fs->b ∉ ex->h'.get? b=some o
 slot:∀ b o,h.get? b=some o->H b=none->b∈fs->b ∉ ex->∃ sl,h'.get? b=some { o with slots:=sl }
 free:∀ b o,h.get? b=some o->H b=none->b ∉ ex->H' b=none
 there:∀ b o,h.get? b=some o->b ∉ ex->∃ o',h'.get? b=some o'
 tups:∀ b xs,H b=some (.tup xs)->H' b=some (.tup xs)
 frzs:∀ b o u,H b=some (.frz o u)->H' b=some (.frz o u)
 tbls:∀ b ps,H b=some (.tbl ps)->∃ more,H' b=some (.tbl (ps++more))
section
variable {fs fs' ex ex':List Addr} {H H1 H2:Hp} {h h1 h2 h':Heap} {a x e:Addr} {o:HO}
theorem Un.any (u:Un fs ex H H1 h h1) {b:Addr} {ob:Obj} (q:h.get? b=some ob) (n:H b=none) (hx:b ∉ ex):∃ sl,h1.get? b=some { ob with slots:=sl }:=by
 by_cases hb:b∈fs
 ·exact u.slot b ob q n hb hx
 ·exact ⟨ob.slots,u.keep b ob q n hb hx⟩
theorem Un.kept (k:∀ b u,h.get? b=some u->h'.get? b=some u):Un fs ex H H h h':=
 ⟨fun b ob q _ _ _=>k b ob q,fun b ob q _ _ _=>⟨ob.slots,k b ob q⟩,fun _ _ _ n _=>n,fun b ob q _=>⟨ob,k b ob q⟩,fun _ _ q=>q,fun _ _ _ q=>q,fun _ ps q=>⟨#[],by rw [q]; simp⟩⟩
theorem Un.refl:Un fs ex H H h h:=Un.kept fun _ _ q=>q
theorem Un.laid (k:∀ b u,h.get? b=some u->h'.get? b=some u) (hp:h.objs.size<=a) (hn:H a=none):Un fs ex H (zX H a o) h h' where
 keep:=fun b u q _ _ _=>k b u q
 slot:=fun b u q _ _ _=>⟨u.slots,k b u q⟩
 free:=fun b u q n _=>by rw [yf (Nat.ne_of_lt (Nat.lt_of_lt_of_le (Heap.lt_size q) hp))]; exact n
 there:=fun b u q _=>⟨u,k b u q⟩
 tups:=fun b xs q=>by rw [yf (wT q hn)]; exact q
 frzs:=fun b u xs q=>by rw [yf (wT q hn)]; exact q
 tbls:=fun b ps q=>⟨#[],by rw [yf (wT q hn),q]; simp⟩
theorem Un.write (mu:ja (H x)) (he:e=x\/H e=some (.own x)) (k:∀ b u,b≠e->h.get? b=some u->h'.get? b=some u) (heo:∃ u,h'.get? e=some u):Un fs ex H (zX H x o) h h':=by
 have hx:∀ b,H b=none->b≠x:=fun b n z=>by subst z; rw [n] at mu; exact mu
 have hb:∀ b,H b=none->b≠e:=fun b n z=>by
  subst z
  rcases he with r | r
  ·exact hx b n r
  ·rw [n] at r; cases r
 have hm:∀ b u,H b=some u->¬ ja (some u)->b≠x:=fun b u q nm z=>by subst z; rw [q] at mu; exact nm mu
 refine ⟨fun b u q n _ _=>k b u (hb b n) q,fun b u q n _ _=>⟨u.slots,k b u (hb b n) q⟩,fun b u q n _=>by rw [yf (hx b n)]; exact n,fun b u q _=>?_,
  fun b xs q=>by rw [yf (hm b _ q fun z=>z)]; exact q,fun b u xs q=>by rw [yf (hm b _ q fun z=>z)]; exact q,fun b ps q=>⟨#[],by rw [yf (hm b _ q fun z=>z),q]; simp⟩⟩
 by_cases hbe:b=e
 ·subst hbe; exact heo
 ·exact ⟨u,k b u hbe q⟩
end
noncomputable def Yw (h:Heap) (H:Hp):List Addr:=(List.range h.objs.size).filter fun a=>(H a).isSome
noncomputable def t4 (h:Heap) (H:Hp):Heap:=PySem.W.hideAll h (Yw h H)
theorem LY (h:Heap) (H:Hp):(t4 h H).objs.size=h.objs.size:=PySem.W.hideAll_size _ _
theorem LX {h:Heap} {H:Hp} {b:Addr} {o:Obj} (e:h.get? b=some o) (n:H b=none):(t4 h H).get? b=some o:=
 PySem.W.hideAll_get _ e fun hm=>by
  have q:(H b).isSome=true:=(List.mem_filter.mp hm).2
  rw [n] at q; simp at q
theorem B3 {h:Heap} {H:Hp} {b:Addr} {o:Obj} (e:(t4 h H).get? b=some o):h.get? b=some o/\H b=none:=by
 have e':h.get? b=some o:=PySem.W.of_hideAll (Yw h H) e
 refine ⟨e',?_⟩
 cases q:H b with
 | none=>rfl
 | some x=>
  have hm:b∈Yw h H:=List.mem_filter.mpr ⟨List.mem_range.mpr (Heap.lt_size e'),by simp [q]⟩
  have z:(t4 h H).get? b=none:=PySem.W.hideAll_none (Yw h H) hm
  rw [z] at e; cases e
noncomputable def Ip (g h:Heap) (L:Addr):List (Addr×Obj):=(List.range h.objs.size).filterMap fun a=>if a=L\/(g.get? a).isSome=true then none else (h.get? a).map fun o=>(a,o)
noncomputable def yN (g h:Heap) (L d:Addr):List (Addr×Obj):=(Ip g h L).filter fun p=>decide (p.1≠d)
end L2
namespace L2
open PySem PySem.Spec PyProof.Rows
structure Mod (K:PySem.W.Frag) (mg:Str->Option Value) (base:Heap):Prop where
 kin:K.In base
 glob:base.Ns mainGlobals mg
 blt:∃ mb,base.Ns builtinsNs mb/\∀ x:Str,x ≠ "__name__" -> mb x=bootBuiltins x
 nolimit:base.NoLimit
structure Cx where
 prog:Program
 w:World
 K:PySem.W.Frag
 mg:Str->Option Value
 base:Heap
 A:Around
 N:List Str
 s₀:Shared
 H₀:Hp
 env:Env
 outer:List Env
 stack:List Env
 ex:List Addr
 fn:Str->Bool
 calm:Bool
 pn:List (Addr×Obj)
 xe:Value->Shared->Prop
noncomputable def vQ (l:List Env):List Addr:=l.filterMap (·.frame)
noncomputable abbrev Cx.fs (X:Cx):List Addr:=vQ X.outer
noncomputable def qh (sc:Scope) (x:Str):Prop:=sc.names.lookup x=some .local\/sc.names.lookup x=some .cell\/sc.names.lookup x=some .free
noncomputable def uJ (sc:Scope) (x:Str):Prop:=sc.names.lookup x=some .local\/sc.names.lookup x=some .cell
noncomputable def IW (env:Env) (h:Heap) (m:Str->Option Value) (x:Str) (u:Value):Prop:=
 (env.kindOf x=some .local/\m x=some u)\/((env.kindOf x=some .cell\/env.kindOf x=some .free)/\∃ c,env.cells.lookup x=some c/\h.IsCell c (some u))
structure Cx.Ok (X:Cx):Prop where
 mod:Mod X.K X.mg X.base
 kind:X.env.scope.kind=.function
 glob:X.env.globals=mainGlobals
 blt:X.env.builtins=builtinsNs
 above:X.s₀.heap.objs.size<=X.env.locals
 inj:∀ x y c,X.env.cells.lookup x=some c->X.env.cells.lookup y=some c->x=y
 has:∀ x,(X.env.kindOf x=some .cell\/X.env.kindOf x=some .free)->∃ c,X.env.cells.lookup x=some c
 cab:∀ x c,X.fn x=true->X.env.cells.lookup x=some c->X.s₀.heap.objs.size<=c
 hd:X.calm=true->X.A.handled=none
 frames:X.A.frames=some X.stack
 stk:X.stack=X.outer\/(X.stack=X.env::X.outer/\X.env.frame=some X.env.locals)
 exf:∀ b∈X.ex,b≠X.env.locals/\∀ x c,X.env.cells.lookup x=some c->c≠b
 bs:∀ b o,X.base.get? b=some o->X.s₀.heap.get? b=some o/\X.H₀ b=none
 bsz:X.base.objs.size<=X.s₀.heap.objs.size
 noex:∀ b o,X.base.get? b=some o->b ∉ X.ex
 exfs:∀ b∈X.ex,b ∉ X.fs
 funs:X.s₀.heap.FunFrames X.base X.outer
 frf:∀ b∈X.fs,X.H₀ b=none
structure Inv (X:Cx) (pins:List (Addr×Obj)) (σ:List (Option V)) (H:Hp) (s:Shared):Prop where
 ok:X.Ok
 os:s.os=X.s₀.os
 bare:AllBare s.gens
 base:Un X.fs X.ex X.H₀ H X.s₀.heap s.heap
 loc:∃ m,s.heap.Ns X.env.locals m/\∀ (i:Nat) (x:Str) (v:V),X.N[i]?=some x->σ[i]?=some (some v)->qh X.env.scope x->∃ u,zi v u/\IW X.env s.heap m x u
 cell:∀ x c,X.env.cells.lookup x=some c->∃ v,s.heap.IsCell c v
 free:H X.env.locals=none
 freeC:∀ x c,X.env.cells.lookup x=some c->H c=none
 pin:∀ p∈X.pn++pins,s.heap.get? p.1=some p.2/\H p.1=none/\p.1≠X.env.locals/\p.1 ∉ X.fs/\∀ v,p.2.data≠.cell v
 hok:y_ X.prog X.w H s.heap
 len:σ.length=X.N.length
section
variable {X:Cx} {pins:List (Addr×Obj)} {σ:List (Option V)} {H H':Hp} {s:Shared} {h':Heap}
theorem Cx.Ok.nofr (ok:X.Ok) {b:Addr} {o:Obj} (e:X.base.get? b=some o):b ∉ X.fs:=fun hb=>by
 have:=(ok.funs.mem hb).1
 rw [e] at this; cases this
theorem Inv.bs (I:Inv X pins σ H s):∀ b o,X.base.get? b=some o->s.heap.get? b=some o/\H b=none:=fun b o e=>
 ⟨I.base.keep b o (I.ok.bs b o e).1 (I.ok.bs b o e).2 (I.ok.nofr e) (I.ok.noex b o e),I.base.free b o (I.ok.bs b o e).1 (I.ok.bs b o e).2 (I.ok.noex b o e)⟩
theorem Inv.bk (I:Inv X pins σ H s):∀ b o,X.base.get? b=some o->s.heap.get? b=some o:=fun b o e=>(I.bs b o e).1
theorem Inv.mod (I:Inv X pins σ H s):Mod X.K X.mg X.base:=I.ok.mod
theorem Inv.kIn (I:Inv X pins σ H s):X.K.In s.heap:=I.ok.mod.kin.keeps I.bk
theorem Inv.lt (I:Inv X pins σ H s):X.env.locals<s.heap.objs.size:=let ⟨_,hn,_⟩:=I.loc; hn.lt
theorem Inv.sz (I:Inv X pins σ H s):X.s₀.heap.objs.size<=s.heap.objs.size:=Nat.le_trans I.ok.above (Nat.le_of_lt I.lt)
theorem Inv.nofs (I:Inv X pins σ H s) {a:Addr} (h:s.heap.objs.size<=a):a ∉ X.fs:=fun hb=>by
 obtain ⟨_,o,ho,_⟩:=I.ok.funs.mem hb
 exact absurd (Nat.lt_of_lt_of_le (Heap.lt_size ho) (Nat.le_trans I.sz h)) (Nat.lt_irrefl _)
theorem Inv.cne (I:Inv X pins σ H s):∀ x c,X.env.cells.lookup x=some c->c≠X.env.locals:=fun x c e z=>by
 obtain ⟨v,o,ho,hd⟩:=I.cell x c e
 obtain ⟨m,⟨o',es,ep,ho',hd',_⟩,_⟩:=I.loc
 rw [z,ho'] at ho; cases ho; rw [hd'] at hd; cases hd
theorem Inv.funs (I:Inv X pins σ H s):s.heap.FunFrames X.base X.outer:=by
 have all:∀ (l:List Env),(∀ b∈vQ l,b∈X.fs)->X.s₀.heap.FunFrames X.base l->s.heap.FunFrames X.base l:=by
  intro l
  induction l with
  | nil=>intro _ _; trivial
  | cons env r ih=>
   intro hs hl
   obtain ⟨hk,⟨L,o,hf,hn,ho,hd⟩,hr⟩:=hl
   have hL:L∈X.fs:=hs L (by unfold vQ; rw [List.filterMap_cons,hf]; exact List.mem_cons_self)
   obtain ⟨sl,e⟩:=I.base.slot L o ho (I.ok.frf L hL) hL fun z=>I.ok.exfs L z hL
   exact ⟨hk,⟨L,_,hf,hn,e,hd⟩,ih (fun b hb=>hs b (by unfold vQ; rw [List.filterMap_cons,hf]; exact List.mem_cons_of_mem _ hb)) hr⟩
 exact all X.outer (fun _ hb=>hb) I.ok.funs
theorem Inv.stack (I:Inv X pins σ H s):s.heap.FunFrames X.base X.stack:=by
 rcases I.ok.stk with e | ⟨e,hf⟩
 ·rw [e]; exact I.funs
 ·rw [e]
  obtain ⟨m,hn,_⟩:=I.loc
  refine .cons (by rw [I.ok.kind]; decide) hf hn ?_ I.funs
  exact Heap.get?_none_of_le (Nat.le_trans I.ok.bsz I.ok.above)
theorem Inv.stkSub (I:Inv X pins σ H s):∀ b∈vQ X.stack,b∈X.env.locals::X.fs:=fun b hb=>by
 rcases I.ok.stk with e | ⟨e,hf⟩
 ·rw [e] at hb; exact List.mem_cons_of_mem _ hb
 ·rw [e] at hb
  unfold vQ at hb
  rw [List.filterMap_cons,hf] at hb
  exact hb
theorem Inv.stkFree (I:Inv X pins σ H s):∀ b∈vQ X.stack,H b=none:=fun b hb=>by
 rcases List.mem_cons.mp (I.stkSub b hb) with e | hb
 ·rw [e]; exact I.free
 ·obtain ⟨_,o,ho,_⟩:=I.ok.funs.mem hb
  exact I.base.free b o ho (I.ok.frf b hb) fun z=>I.ok.exfs b z hb
theorem Inv.step {g':Array GenState} {t':Nat} {d':Drawn} {ch:List Addr} (I:Inv X pins σ H s)
  (hch:∀ b∈ch,(b∈X.ex\/X.s₀.heap.objs.size<=b)/\b≠X.env.locals/\(∀ x c,X.env.cells.lookup x=some c->c≠b)/\∀ p∈X.pn++pins,p.1≠b)
  (keep:∀ b o,b≠X.env.locals->b ∉ X.fs->b ∉ ch->s.heap.get? b=some o->H b=none->h'.get? b=some o)
  (slot:∀ b o,b≠X.env.locals->b∈X.fs->b ∉ ch->s.heap.get? b=some o->H b=none->∃ sl,h'.get? b=some { o with slots:=sl }) (free:∀ b o,b ∉ ch->s.heap.get? b=some o->H b=none->H' b=none)
  (there:∀ b o,b ∉ ch->s.heap.get? b=some o->∃ o',h'.get? b=some o')
  (tups:∀ b xs,H b=some (.tup xs)->H' b=some (.tup xs)) (frzs:∀ b o u,H b=some (.frz o u)->H' b=some (.frz o u)) (tbls:∀ b ps,H b=some (.tbl ps)->∃ more,H' b=some (.tbl (ps++more)))
  (ns:∀ m,s.heap.Ns X.env.locals m->h'.Ns X.env.locals m) (hok:y_ X.prog X.w H' h') (hg:AllBare g') :
  Inv X pins σ H' { s with heap:=h',gens:=g',drawn:=d',toks:=t' }:=by
 have neL:∀ b o,X.s₀.heap.get? b=some o->b≠X.env.locals:=fun b o e=>Nat.ne_of_lt (Nat.lt_of_lt_of_le (Heap.lt_size e) I.ok.above)
 have neC:∀ b o,X.s₀.heap.get? b=some o->b ∉ X.ex->b ∉ ch:=fun b o e hx hb=>by
  rcases (hch b hb).1 with z | z
  ·exact hx z
  ·exact absurd (Nat.lt_of_lt_of_le (Heap.lt_size e) z) (Nat.lt_irrefl _)
 have cellK:∀ x c,X.env.cells.lookup x=some c->∀ v,s.heap.IsCell c v->h'.IsCell c v:=fun x c e v ⟨o,ho,hd⟩=>by
  have nch:c ∉ ch:=fun z=>(hch c z).2.2.1 x c e rfl
  by_cases hc:c∈X.fs
  ·obtain ⟨sl,q⟩:=slot c o (I.cne x c e) hc nch ho (I.freeC x c e)
   exact ⟨_,q,hd⟩
  ·exact ⟨o,keep c o (I.cne x c e) hc nch ho (I.freeC x c e),hd⟩
 refine ⟨I.ok,I.os,hg,⟨fun b o e n hb hx=>?_,fun b o e n hb hx=>?_,fun b o e n hx=>?_,fun b o e hx=>?_,fun b xs e=>tups b xs (I.base.tups b xs e),fun b o xs e=>frzs b o xs (I.base.frzs b o xs e),fun b ps e=>?_⟩,?_,fun x c e=>?_,?_,fun x c e=>?_,fun p hp=>?_,hok,I.len⟩
 ·exact keep b o (neL b o e) hb (neC b o e hx) (I.base.keep b o e n hb hx) (I.base.free b o e n hx)
 ·obtain ⟨sl,e1⟩:=I.base.slot b o e n hb hx
  obtain ⟨sl',e2⟩:=slot b _ (neL b o e) hb (neC b o e hx) e1 (I.base.free b o e n hx)
  exact ⟨sl',e2⟩
 ·obtain ⟨o',e1⟩:=I.base.there b o e hx
  exact free b o' (neC b o e hx) e1 (I.base.free b o e n hx)
 ·obtain ⟨o',e1⟩:=I.base.there b o e hx
  exact there b o' (neC b o e hx) e1
 ·obtain ⟨m1,e1⟩:=I.base.tbls b ps e
  obtain ⟨m2,e2⟩:=tbls b _ e1
  exact ⟨m1++m2,by rw [e2,Array.append_assoc]⟩
 ·obtain ⟨m,hn,hl⟩:=I.loc
  refine ⟨m,ns m hn,fun i x v e1 e2 e3=>?_⟩
  obtain ⟨u,r,l⟩:=hl i x v e1 e2 e3
  refine ⟨u,r,?_⟩
  rcases l with l | ⟨k,c,e,z⟩
  ·exact .inl l
  ·exact .inr ⟨k,c,e,cellK x c e _ z⟩
 ·obtain ⟨v,z⟩:=I.cell x c e
  exact ⟨v,cellK x c e v z⟩
 ·obtain ⟨m,⟨o,_,_,ho,_⟩,_⟩:=I.loc
  exact free _ o (fun z=>(hch _ z).2.1 rfl) ho I.free
 ·obtain ⟨v,o,ho,hd⟩:=I.cell x c e
  exact free c o (fun z=>(hch c z).2.2.1 x c e rfl) ho (I.freeC x c e)
 ·obtain ⟨e,n,ne,nf,d⟩:=I.pin p hp
  have nch:p.1 ∉ ch:=fun z=>(hch p.1 z).2.2.2 p hp rfl
  exact ⟨keep p.1 p.2 ne nf nch e n,free p.1 p.2 nch e n,ne,nf,d⟩
theorem Inv.un {t':Nat} (I:Inv X pins σ H s) (u:Un X.fs [] H H' s.heap h') (hok:y_ X.prog X.w H' h'):Inv X pins σ H' { s with heap:=h',toks:=t' }:=by
 obtain ⟨m,⟨o,es,ep,ho,r⟩,_⟩:=id I.loc
 obtain ⟨sl,hL⟩:=u.any ho I.free (by simp)
 exact I.step (g':=s.gens) (d':=s.drawn) (ch:=[]) (fun _ z=>nomatch z) (fun b o _ hb _ e n=>u.keep b o e n hb (by simp)) (fun b o _ hb _ e n=>u.slot b o e n hb (by simp)) (fun b o _ e n=>u.free b o e n (by simp)) (fun b o _ e=>u.there b o e (by simp)) u.tups u.frzs u.tbls (fun m' hm=>by
  obtain ⟨o',es',ep',ho',r'⟩:=hm
  rw [ho] at ho'; cases ho'
  exact ⟨_,es',ep',hL,r'⟩) hok I.bare
theorem Inv.call {g':Array GenState} {t':Nat} {d':Drawn} {ch:List Addr} (I:Inv X pins σ H s) (u:Un (vQ X.stack) ch H H' s.heap h') (hok:y_ X.prog X.w H' h') (hg:AllBare g')
  (hch:∀ b∈ch,(b∈X.ex\/X.s₀.heap.objs.size<=b)/\b≠X.env.locals/\(∀ x c,X.env.cells.lookup x=some c->c≠b)/\∀ p∈X.pn++pins,p.1≠b) :
  Inv X pins σ H' { s with heap:=h',gens:=g',drawn:=d',toks:=t' }:=by
 obtain ⟨m,⟨o,es,ep,ho,r⟩,_⟩:=id I.loc
 obtain ⟨sl,hL⟩:=u.any ho I.free fun z=>(hch _ z).2.1 rfl
 exact I.step (ch:=ch) hch (fun b o hL hb hc e n=>u.keep b o e n (fun z=>(List.mem_cons.mp (I.stkSub b z)).elim hL hb) hc) (fun b o _ _ hc e n=>u.any e n hc) (fun b o hc e n=>u.free b o e n hc) (fun b o hc e=>u.there b o e hc) u.tups u.frzs u.tbls (fun m' hm=>by
  obtain ⟨o',es',ep',ho',r'⟩:=hm
  rw [ho] at ho'; cases ho'
  exact ⟨_,es',ep',hL,r'⟩) hok hg
theorem Inv.turned {t':Nat} {it:Addr} (I:Inv X pins σ H s) (k:∀ b o,b≠it->s.heap.get? b=some o->h'.get? b=some o) (hn:H it=none) (hL:it≠X.env.locals)
  (h1:it∈X.ex\/X.s₀.heap.objs.size<=it) (h2:∀ x c,X.env.cells.lookup x=some c->c≠it) (h3:∀ p∈X.pn++pins,p.1≠it):Inv X pins σ H { s with heap:=h',toks:=t' }:=by
 have nit:∀ b u,H b=some u->b≠it:=fun b u e z=>by rw [z,hn] at e; cases e
 refine I.step (g':=s.gens) (d':=s.drawn) (ch:=[it]) (fun b hb=>?_) (fun b o _ _ hc e _=>k b o (fun z=>hc (by simp [z])) e) (fun b o _ _ hc e _=>⟨o.slots,k b o (fun z=>hc (by simp [z])) e⟩) (fun _ _ _ _ n=>n)
  (fun b o hc e=>⟨o,k b o (fun z=>hc (by simp [z])) e⟩) (fun _ _ e=>e) (fun _ _ _ e=>e) (fun b ps e=>⟨#[],by rw [e]; simp⟩) (fun m hm=>?_) (fun b u e=>?_) I.bare
 ·have e:b=it:=by simpa using hb
  subst e
  exact ⟨h1,hL,h2,h3⟩
 ·obtain ⟨o,es,ep,ho,r⟩:=hm
  exact ⟨o,es,ep,k _ o (Ne.symm hL) ho,r⟩
 ·refine (I.hok b u e).stay (fun c v hc q=>k c v ?_ q) (fun _ q=>q) fun _ _ q=>q
  rcases hc with z | z
  ·rw [z]; exact nit b u e
  ·exact nit c _ z
theorem Inv.tok (I:Inv X pins σ H s) (t:Nat):Inv X pins σ H { s with toks:=t }:=I.un (h':=s.heap) (t':=t) Un.refl I.hok
theorem Inv.kept {t':Nat} (I:Inv X pins σ H s) (k:∀ b u,s.heap.get? b=some u->h'.get? b=some u):Inv X pins σ H { s with heap:=h',toks:=t' }:=I.un (Un.kept k) (I.hok.kept k)
theorem Inv.laid {a:Addr} {o:HO} {t':Nat} (I:Inv X pins σ H s) (k:∀ b u,s.heap.get? b=some u->h'.get? b=some u) (hp:s.heap.objs.size<=a) (new:yo X.prog X.w (zX H a o) h' a o) :
  Inv X pins σ (zX H a o) { s with heap:=h',toks:=t' }:=I.un (Un.laid k hp (I.hok.fresh hp)) (I.hok.laid k hp new)
theorem Inv.write {x e:Addr} {o:HO} {t':Nat} (I:Inv X pins σ H s) (mu:ja (H x)) (he:e=x\/H e=some (.own x)) (k:∀ b u,b≠e->s.heap.get? b=some u->h'.get? b=some u) (heo:∃ u,h'.get? e=some u)
  (new:yo X.prog X.w (zX H x o) h' x o):Inv X pins σ (zX H x o) { s with heap:=h',toks:=t' }:=I.un (Un.write mu he k heo) (I.hok.write mu he k heo new)
theorem Inv.weak {σ':List (Option V)} (I:Inv X pins σ H s) (hl:σ'.length=σ.length) (w:∀ (i:Nat) v,σ'[i]?=some (some v)->σ[i]?=some (some v)):Inv X pins σ' H s:=
 ⟨I.ok,I.os,I.bare,I.base,let ⟨m,hn,hl'⟩:=I.loc; ⟨m,hn,fun i x v e1 e2 e3=>hl' i x v e1 (w i v e2) e3⟩,I.cell,I.free,I.freeC,I.pin,I.hok,hl.trans I.len⟩
theorem Inv.pins_of {pins':List (Addr×Obj)} (I:Inv X pins σ H s) (h:∀ p∈pins',s.heap.get? p.1=some p.2/\H p.1=none/\p.1≠X.env.locals/\p.1 ∉ X.fs/\∀ v,p.2.data≠.cell v):Inv X pins' σ H s:=
 ⟨I.ok,I.os,I.bare,I.base,I.loc,I.cell,I.free,I.freeC,fun p hp=>(List.mem_append.mp hp).elim (fun z=>I.pin p (List.mem_append_left _ z)) (h p),I.hok,I.len⟩
theorem QB {N:List Str} (hN:N.Nodup) {i j:Nat} {x:Str} (a:N[i]?=some x) (b:N[j]?=some x):i=j:=by
 obtain ⟨h1,e1⟩:=List.getElem?_eq_some_iff.mp a
 obtain ⟨h2,e2⟩:=List.getElem?_eq_some_iff.mp b
 exact (List.getElem_inj hN).mp (e1.trans e2.symm)
theorem Jn {M:Model} {A:Around} {E:Value->Shared->Prop} {i:Nat} {x:Str} {v:V} {u:Value} {Q:Unit->Shared->Prop} (I:Inv X pins σ H s) (hN:X.N.Nodup) (hi:X.N[i]?=some x) (hx:uJ X.env.scope x) (r:zi v u)
  (h:∀ s',Inv X pins (σ.set i (some v)) H s'->(∃ a,Heap.SameBut a s.heap s'.heap/\(a=X.env.locals\/X.env.cells.lookup x=some a))->Q () s') (hf:X.fn x=true\/X.env.scope.names.lookup x=some .local:=by first | exact .inl rfl | exact .inr rfl | assumption):wpAny M A (storeName X.env x u) Q E s:=by
 obtain ⟨m,hn,hl⟩:=id I.loc
 have hcls:(X.env.scope.kind == .class||(X.env.scope.kind == .module&&X.env.locals != X.env.globals))=false:=by rw [I.ok.kind]; rfl
 have hiσ:i<σ.length:=by rw [I.len]; exact (List.getElem?_eq_some_iff.mp hi).1
 have cne:=I.cne
 have tracked:∀ {a:Addr} {h':Heap},(∃ o,s.heap.get? a=some o/\H a=none)->Heap.SameBut a s.heap h'->y_ X.prog X.w H h':=fun {a h'} ha hs b ob e=>by
  obtain ⟨_,_,hfree⟩:=ha
  refine (I.hok b ob e).stay (fun c w' hc q=>(hs.2 c ?_).trans q) (fun _ q=>q) fun _ _ q=>q
  rintro rfl
  rcases hc with rfl | hc
  ·rw [hfree] at e; cases e
  ·rw [hfree] at hc; cases hc
 rcases hx with hk | hk
 ·refine wpAny_storeName_local hk hn (fun h' hn' hs=>?_) hcls
  obtain ⟨oL,_,_,hoL,_⟩:=id hn
  refine h _ ⟨I.ok,I.os,I.bare,⟨fun b o e n hb hx=>?_,fun b o e n hb hx=>?_,I.base.free,fun b o e hx=>?_,I.base.tups,I.base.frzs,I.base.tbls⟩,⟨_,hn',fun j y v' e1 e2 e3=>?_⟩,fun y c e=>?_,I.free,I.freeC,fun p hp=>?_,tracked ⟨oL,hoL,I.free⟩ hs,by simpa using I.len⟩ ⟨_,hs,.inl rfl⟩
  ·exact (hs.2 b (Nat.ne_of_lt (Nat.lt_of_lt_of_le (Heap.lt_size e) I.ok.above))).trans (I.base.keep b o e n hb hx)
  ·obtain ⟨sl,e1⟩:=I.base.slot b o e n hb hx
   exact ⟨sl,(hs.2 b (Nat.ne_of_lt (Nat.lt_of_lt_of_le (Heap.lt_size e) I.ok.above))).trans e1⟩
  ·obtain ⟨o',e1⟩:=I.base.there b o e hx
   exact ⟨o',(hs.2 b (Nat.ne_of_lt (Nat.lt_of_lt_of_le (Heap.lt_size e) I.ok.above))).trans e1⟩
  ·by_cases hj:j=i
   ·subst hj
    rw [hi] at e1; cases e1
    rw [List.getElem?_set_self hiσ] at e2
    cases e2
    exact ⟨u,r,.inl ⟨hk,by simp⟩⟩
   ·rw [List.getElem?_set_ne (Ne.symm hj)] at e2
    obtain ⟨u',r',q⟩:=hl j y v' e1 e2 e3
    refine ⟨u',r',?_⟩
    rcases q with ⟨k,e⟩ | ⟨k,c,e,z⟩
    ·refine .inl ⟨k,?_⟩
     have:y≠x:=fun e=>hj (QB hN e1 (e ▸ hi))
     simp [this,e]
    ·exact .inr ⟨k,c,e,z.sameBut hs (cne y c e)⟩
  ·obtain ⟨w',z⟩:=I.cell y c e
   exact ⟨w',z.sameBut hs (cne y c e)⟩
  ·obtain ⟨e,n,ne,nf,d⟩:=I.pin p hp
   exact ⟨(hs.2 p.1 ne).trans e,n,ne,nf,d⟩
 ·have hfn:X.fn x=true:=by
   rcases hf with z | z
   ·exact z
   ·rw [z] at hk; cases hk
  obtain ⟨c,hc⟩:=I.ok.has x (.inl hk)
  obtain ⟨w',z⟩:=I.cell x c hc
  refine wpAny_storeName_cell I.ok.kind hk hc z (fun h' hc' hs=>?_)
  obtain ⟨oc,hoc,hocd⟩:=id z
  refine h { s with heap:=h' } ⟨I.ok,I.os,I.bare,⟨fun b o e n hb hx=>?_,fun b o e n hb hx=>?_,I.base.free,fun b o e hx=>?_,I.base.tups,I.base.frzs,I.base.tbls⟩,⟨m,hn.sameBut hs (Ne.symm (cne x c hc)),fun j y v' e1 e2 e3=>?_⟩,fun y c' e=>?_,I.free,I.freeC,fun p hp=>?_,tracked ⟨oc,hoc,I.freeC x c hc⟩ hs,by simpa using I.len⟩ ⟨c,hs,.inr hc⟩
  ·exact (hs.2 b (Nat.ne_of_lt (Nat.lt_of_lt_of_le (Heap.lt_size e) (I.ok.cab x c hfn hc)))).trans (I.base.keep b o e n hb hx)
  ·obtain ⟨sl,e1⟩:=I.base.slot b o e n hb hx
   exact ⟨sl,(hs.2 b (Nat.ne_of_lt (Nat.lt_of_lt_of_le (Heap.lt_size e) (I.ok.cab x c hfn hc)))).trans e1⟩
  ·obtain ⟨o',e1⟩:=I.base.there b o e hx
   exact ⟨o',(hs.2 b (Nat.ne_of_lt (Nat.lt_of_lt_of_le (Heap.lt_size e) (I.ok.cab x c hfn hc)))).trans e1⟩
  ·by_cases hj:j=i
   ·subst hj
    rw [hi] at e1; cases e1
    rw [List.getElem?_set_self hiσ] at e2
    cases e2
    exact ⟨u,r,.inr ⟨.inl hk,c,hc,hc'⟩⟩
   ·rw [List.getElem?_set_ne (Ne.symm hj)] at e2
    obtain ⟨u',r',q⟩:=hl j y v' e1 e2 e3
    refine ⟨u',r',?_⟩
    rcases q with q | ⟨k,c',e,z'⟩
    ·exact .inl q
    ·refine .inr ⟨k,c',e,z'.sameBut hs ?_⟩
     rintro rfl
     exact hj (QB hN e1 (I.ok.inj _ _ _ e hc ▸ hi))
  ·by_cases hcc:c'=c
   ·subst hcc; exact ⟨_,hc'⟩
   ·obtain ⟨w2,z2⟩:=I.cell y c' e
    exact ⟨w2,z2.sameBut hs hcc⟩
  ·obtain ⟨e,n,ne,nf,d⟩:=I.pin p hp
   refine ⟨(hs.2 p.1 ?_).trans e,n,ne,nf,d⟩
   intro q
   rw [q,hoc] at e
   have q':oc=p.2:=Option.some.inj e
   exact d w' (by rw [<- q']; exact hocd)
theorem VS {M:Model} {A:Around} {E:Value->Shared->Prop} {i:Nat} {x:Str} {v:V} {u:Value} {Q:Unit->Shared->Prop} (I:Inv X pins σ H s) (hN:X.N.Nodup) (hi:X.N[i]?=some x) (hx:uJ X.env.scope x) (r:zi v u)
  (h:∀ s',Inv X pins (σ.set i (some v)) H s'->Q () s') (hf:X.fn x=true\/X.env.scope.names.lookup x=some .local:=by first | exact .inl rfl | exact .inr rfl | assumption):wpAny M A (storeName X.env x u) Q E s:=
 Jn I hN hi hx r (fun s' I' _=>h s' I') hf
theorem Inv.call' {s':Shared} {ch:List Addr} (I:Inv X pins σ H s) (ho:s'.os=s.os) (u:Un (vQ X.stack) ch H H' s.heap s'.heap) (hok:y_ X.prog X.w H' s'.heap) (hg:AllBare s'.gens)
  (hch:∀ b∈ch,(b∈X.ex\/X.s₀.heap.objs.size<=b)/\b≠X.env.locals/\(∀ x c,X.env.cells.lookup x=some c->c≠b)/\∀ p∈X.pn++pins,p.1≠b):Inv X pins σ H' s':=by
 obtain ⟨h',g',d',t',o'⟩:=s'
 have e:o'=s.os:=ho
 subst e
 exact I.call (g':=g') (t':=t') (d':=d') u hok hg hch
end
noncomputable abbrev XK:=Value->Option Addr->Hp->Prop
noncomputable abbrev St:=List (Option V)
noncomputable abbrev VK:=V->Hp->Prop
noncomputable abbrev TE:=St->Hp->VK->Prop
noncomputable abbrev TT:=St->Hp->(Bool->Hp->Prop)->Prop
noncomputable abbrev TA:=St->Hp->(List V->Hp->Prop)->Prop
structure uF where
 nx:St->Hp->Prop
 rt:VK
 bk:St->Hp->Prop:=fun _ _=>False
 ct:St->Hp->Prop:=fun _ _=>False
noncomputable abbrev TS:=uF->St->Hp->Prop
noncomputable def EP (X:Cx) (pins:List (Addr×Obj)) (σ:St) (Q:VK) (u:Value) (s':Shared):Prop:=∃ v H',Inv X pins σ H' s'/\zi v u/\Q v H'
noncomputable def TP (X:Cx) (pins:List (Addr×Obj)) (σ:St) (Q:Bool->Hp->Prop) (b:Bool) (s':Shared):Prop:=∃ H',Inv X pins σ H' s'/\Q b H'
noncomputable def AP (X:Cx) (pins:List (Addr×Obj)) (σ:St) (Q:List V->Hp->Prop) (us:List Value) (s':Shared):Prop:=∃ vs H',Inv X pins σ H' s'/\zf vs us/\Q vs H'
noncomputable def SP (X:Cx) (pins:List (Addr×Obj)) (D:uF) (f:Flow) (s':Shared):Prop:=
 match f with
 | .next=>∃ σ' H',Inv X pins σ' H' s'/\D.nx σ' H'
 | .brk=>∃ σ' H',Inv X pins σ' H' s'/\D.bk σ' H'
 | .cont=>∃ σ' H',Inv X pins σ' H' s'/\D.ct σ' H'
 | .ret u=>∃ v σ' H',Inv X pins σ' H' s'/\zi v u/\D.rt v H'
noncomputable def PE (X:Cx) (e:Expr) (t:TE):Prop:=
 ∀ (pins:List (Addr×Obj)) (s:Shared) (σ:St) (H:Hp) (Q:VK),Inv X pins σ H s->t σ H Q->wpAny (model X.prog X.w) X.A (eval e X.env) (EP X pins σ Q) X.xe s
noncomputable def PT (X:Cx) (e:Expr) (t:TT):Prop:=
 ∀ (pins:List (Addr×Obj)) (s:Shared) (σ:St) (H:Hp) (Q:Bool->Hp->Prop),Inv X pins σ H s->t σ H Q->wpAny (model X.prog X.w) X.A (isTrue e X.env (eval e X.env)) (TP X pins σ Q) X.xe s
noncomputable def PW (X:Cx) (e:Expr) (t:TT):Prop:=
 ∀ (whole:Sem Value) (pins:List (Addr×Obj)) (s:Shared) (σ:St) (H:Hp) (Q:Bool->Hp->Prop),Inv X pins σ H s->t σ H Q->wpAny (model X.prog X.w) X.A (isTrue e X.env whole) (TP X pins σ Q) X.xe s
theorem PW.pt {X:Cx} {e:Expr} {t:TT} (h:PW X e t):PT X e t:=h _
noncomputable def PA (X:Cx) (es:List Expr) (t:TA):Prop:=
 ∀ (pos:Pos) (pins:List (Addr×Obj)) (s:Shared) (σ:St) (H:Hp) (Q:List V->Hp->Prop),Inv X pins σ H s->t σ H Q->wpAny (model X.prog X.w) X.A (spliced (backTo pos (starEach es X.env))) (AP X pins σ Q) X.xe s
noncomputable def PS (X:Cx) (st:Stmt) (t:TS):Prop:=
 ∀ (pins:List (Addr×Obj)) (s:Shared) (σ:St) (H:Hp) (D:uF),Inv X pins σ H s->t D σ H->wpAny (model X.prog X.w) X.A (exec st X.env) (SP X pins D) X.xe s
noncomputable def wW (X:Cx) (st:List Stmt) (t:TS):Prop:=
 ∀ (pins:List (Addr×Obj)) (s:Shared) (σ:St) (H:Hp) (D:uF),Inv X pins σ H s->t D σ H->wpAny (model X.prog X.w) X.A (execs st X.env) (SP X pins D) X.xe s
theorem zj {α:Type} {t:Sem α} {Q Q':α->Shared->Prop} {M:Model} {A:Around} {E:Value->Shared->Prop} {s:Shared} (h:wpAny M A t Q E s) (hQ:∀ a s,Q a s->Q' a s):wpAny M A t Q' E s:=wpAny_mono h hQ fun _ _ x=>x
end L2
namespace L2
open PySem PySem.Spec PyProof.Rows
section
variable {X:Cx}
noncomputable def k_ (i:Nat):TE:=fun σ H Q=>∃ v,σ[i]?=some (some v)/\Q v H
noncomputable def tC (v:V):TE:=fun _ H Q=>Q v H
theorem YV {i:Nat} {x:Str} {pos:Pos} (hN:X.N[i]?=some x) (hv:qh X.env.scope x) (hd:(x == ("__debug__" : Str))=false:=by decide) (hcd:(x == ("__classdict__" : Str))=false:=by decide):PE X (.Name x pos) (k_ i):=by
 intro pins s σ H Q I h
 obtain ⟨v,e,h⟩:=h
 obtain ⟨m,hn,hl⟩:=I.loc
 obtain ⟨u,r,l⟩:=hl i x v hN e hv
 have fin:EP X pins σ Q u s:=⟨v,H,I,r,h⟩
 rcases l with ⟨hk,hm⟩ | ⟨hk,c,hc,hcell⟩
 ·exact wpAny_Name (wpAny_loadName_local I.ok.kind hk hn hm fin) hd
 ·rcases hk with hk | hk
  ·exact wpAny_Name (wpAny_loadName_cell I.ok.kind hk hc hcell fin) hd
  ·exact wpAny_Name (wpAny_loadName_free I.ok.kind hk hc hcell fin hcd) hd
theorem QU {i j pos}:PE X (.Constant (.int i) j pos) (tC (.int i)):=fun _ _ _ H _ I h=>wpAny_Constant_int ⟨.int i,H,I.tok _,⟨_,rfl⟩,h⟩
theorem DW {b j pos}:PE X (.Constant (.bool b) j pos) (tC (.bl b)):=fun _ _ _ H _ I h=>Constant_bool ⟨.bl b,H,I,rfl,h⟩
theorem Dl {j pos}:PE X (.Constant .none j pos) (tC .non):=fun _ _ _ H _ I h=>Constant_none ⟨.non,H,I,rfl,h⟩
theorem QX {x j pos}:PE X (.Constant (.str x) j pos) (tC (.str x)):=fun _ _ _ H _ I h=>Calls.Constant_str ⟨.str x,H,I.tok _,⟨_,rfl⟩,h⟩
noncomputable def Gl (X:Cx) (x:Str):Prop:=X.env.kindOf x=some .globalImplicit
theorem WP {E:Value->Shared->Prop} {pins:List (Addr×Obj)} {s:Shared} {σ:St} {H:Hp} {x:Str} {u:Value} {pos:Pos} {Q:Value->Shared->Prop} (I:Inv X pins σ H s) (hg:Gl X x) (hm:X.mg x=some u) (h:Q u s)
  (hd:(x == ("__debug__" : Str))=false:=by decide):wpAny (model X.prog X.w) X.A (eval (.Name x pos) X.env) Q E s:=
 Calls.Name_function_global I.ok.kind hg (Calls.loadGlobal_global (by rw [I.ok.glob]; exact I.mod.glob.keeps I.bk) hm h) hd
theorem j6 {E:Value->Shared->Prop} {pins:List (Addr×Obj)} {s:Shared} {σ:St} {H:Hp} {x:Str} {u:Value} {pos:Pos} {Q:Value->Shared->Prop} (I:Inv X pins σ H s) (hg:Gl X x) (hm:X.mg x=none) (hv:bootBuiltins x=some u) (h:Q u s)
  (hn:x ≠ "__name__" := by decide) (hd:(x == ("__debug__" : Str))=false:=by decide):wpAny (model X.prog X.w) X.A (eval (.Name x pos) X.env) Q E s:=by
 obtain ⟨mb,h1,h2⟩:=I.mod.blt
 exact Calls.Name_function_global I.ok.kind hg (Calls.loadGlobal_builtin (by rw [I.ok.glob]; exact I.mod.glob.keeps I.bk) hm (by rw [I.ok.blt]; exact h1.keeps I.bk) ((h2 x hn).trans hv) h) hd
theorem Dh {x:Str} {v:V} {u:Value} {pos:Pos} (hg:Gl X x) (hm:X.mg x=some u) (r:zi v u) (hd:(x == ("__debug__" : Str))=false:=by decide):PE X (.Name x pos) (tC v):=
 fun _ _ _ H _ I h=>WP I hg hm ⟨v,H,I,r,h⟩ hd
theorem DX {x:Str} {v:V} {u:Value} {pos:Pos} (hg:Gl X x) (hm:X.mg x=none) (hv:bootBuiltins x=some u) (r:zi v u) (hn:x ≠ "__name__" := by decide) (hd:(x == ("__debug__" : Str))=false:=by decide):PE X (.Name x pos) (tC v):=
 fun _ _ _ H _ I h=>j6 I hg hm hv ⟨v,H,I,r,h⟩ hn hd
variable {a b:Expr} {ta tb:TE} {pos:Pos}
noncomputable def tB (t:TE):TT:=fun σ H Q=>t σ H fun x H1=>∃ c,x=.bl c/\Q c H1
theorem Fr {e:Expr} {t:TE} (h:PE X e t) (he:∀ whole,isTrue e X.env whole=(do let v <- whole; standAt e.pos; holding [v] (truthy v)):=by intro _; rfl):PT X e (tB t):=by
 intro pins s σ H Q I hw
 refine isTrue_plain (zj (h pins s σ H _ I hw) fun v s1 ⟨x,H1,I1,r1,q1⟩=>?_) (he _)
 obtain ⟨d,rfl,q⟩:=q1
 cases r1
 exact wpAny_truthy_bool ⟨H1,I1,q⟩
variable {tA tB':TT} {yN:List Expr}
noncomputable def GQ (t u:TT):TT:=fun σ H Q=>t σ H fun c H1=>if c=true then u σ H1 Q else Q false H1
noncomputable def Gi (t u:TT):TT:=fun σ H Q=>t σ H fun c H1=>if c=true then Q true H1 else u σ H1 Q
noncomputable def Gg (t:TT):TT:=fun σ H Q=>t σ H fun c H1=>Q (!c) H1
theorem Fy (ha:PT X a tA):PW X (.BoolOp .And [a] pos) tA:=by
 intro wh pins s σ H Q I h
 refine isTrue_and (zj (ha pins s σ H Q I h) fun c s1 e=>?_)
 cases c with
 | true=>exact isTrue_and_nil e
 | false=>exact e
theorem F_ (ha:PT X a tA):PW X (.BoolOp .Or [a] pos) tA:=by
 intro wh pins s σ H Q I h
 refine isTrue_or (zj (ha pins s σ H Q I h) fun c s1 e=>?_)
 cases c with
 | false=>exact isTrue_or_nil e
 | true=>exact e
theorem Fx (ha:PT X a tA) (hb:PW X (.BoolOp .And (b::yN) pos) tB'):PW X (.BoolOp .And (a::b::yN) pos) (GQ tA tB'):=by
 intro wh pins s σ H Q I h
 refine isTrue_and (zj (ha pins s σ H _ I h) fun c s1 ⟨H1,I1,q1⟩=>?_)
 cases c with
 | true=>exact hb wh pins s1 σ H1 Q I1 q1
 | false=>exact ⟨H1,I1,q1⟩
theorem Fz (ha:PT X a tA) (hb:PW X (.BoolOp .Or (b::yN) pos) tB'):PW X (.BoolOp .Or (a::b::yN) pos) (Gi tA tB'):=by
 intro wh pins s σ H Q I h
 refine isTrue_or (zj (ha pins s σ H _ I h) fun c s1 ⟨H1,I1,q1⟩=>?_)
 cases c with
 | true=>exact ⟨H1,I1,q1⟩
 | false=>exact hb wh pins s1 σ H1 Q I1 q1
theorem Fo (ha:PT X a tA):PT X (.UnaryOp .Not a pos) (Gg tA):=by
 intro pins s σ H Q I h
 exact isTrue_not (ha pins s σ H (fun c H1=>Q (!c) H1) I h)
noncomputable def GR (ta tb:TE):TE:=fun σ H Q=>ta σ H fun x H1=>∃ c,x=.bl c/\if c=true then tb σ H1 Q else Q (.bl false) H1
noncomputable def Gh (ta:TE):TE:=fun σ H Q=>ta σ H fun x H1=>∃ c,x=.bl c/\Q (.bl (!c)) H1
theorem Dn {op} {t:TE} (h:PE X a t):PE X (.BoolOp op [a] pos) t:=fun pins s σ H Q I hw=>BoolOp_one (h pins s σ H Q I hw)
theorem DV (ha:PE X a ta) (hb:PE X (.BoolOp .And (b::yN) pos) tb):PE X (.BoolOp .And (a::b::yN) pos) (GR ta tb):=by
 intro pins s σ H Q I h
 refine BoolOp_and (zj (ha pins s σ H _ I h) fun v s1 ⟨x,H1,I1,r1,q1⟩=>?_)
 obtain ⟨c,rfl,q1⟩:=q1
 cases r1
 refine wpAny_truthy_bool ?_
 cases c with
 | true=>exact hb pins s1 σ H1 Q I1 q1
 | false=>exact ⟨.bl false,H1,I1,rfl,q1⟩
theorem Dm (ha:PE X a ta):PE X (.UnaryOp .Not a pos) (Gh ta):=by
 intro pins s σ H Q I h
 refine UnaryOp_ (zj (ha pins s σ H _ I h) fun v s1 ⟨x,H1,I1,r1,q1⟩=>?_)
 obtain ⟨c,rfl,q1⟩:=q1
 cases r1
 exact not_of (wpAny_truthy_bool ⟨.bl (!c),H1,I1,rfl,q1⟩)
noncomputable def GX (t:TT) (ta tb:TE):TE:=fun σ H Q=>t σ H fun c H1=>if c=true then ta σ H1 Q else tb σ H1 Q
theorem Di {c:Expr} (hc:PT X c tA) (ha:PE X a ta) (hb:PE X b tb):PE X (.IfExp c a b pos) (GX tA ta tb):=by
 intro pins s σ H Q I h
 refine wpAny_IfExp (zj (hc pins s σ H _ I h) fun d s1 ⟨H1,I1,q1⟩=>?_)
 cases d with
 | true=>exact ha pins s1 σ H1 Q I1 q1
 | false=>exact hb pins s1 σ H1 Q I1 q1
end
end L2
namespace L2
open PySem PySem.Spec PyProof.Rows
noncomputable def yE (K:PySem.W.Frag) (H:Hp) (a:Addr) (xs:List V):Prop:=
 Rd H a (.lst xs) \/
  ∃ (o:Obj) (its:Array Value) (n:Nat),K.lookup a=some o/\o.cls=.type "list" /\ o.dict=none/\o.data=.seq its n/\its.size<=sizeLine/\zf xs its.toList
noncomputable def yR (K:PySem.W.Frag) (H:Hp) (a:Addr) (xs:List V):Prop:=
 Rd H a (.tup xs) \/
  ∃ (o:Obj) (its:Array Value) (n:Nat),K.lookup a=some o/\o.cls=.type "tuple" /\ o.data=.seq its n/\its.size<=sizeLine/\zf xs its.toList
noncomputable def Ii:Value->Option V
 | .none=>some .non
 | .bool b=>some (.bl b)
 | .int i _=>some (.int i)
 | .str x _=>some (.str x)
 | .bytes b _=>some (.byt b)
 | .float b _=>some (.flt b)
 | .ref a=>some (.ref a)
 | .type n=>some (.ty n)
 | _=>none
theorem zi.abs {x:V} {u:Value} (r:zi x u):Ii u=some x:=by
 cases x with
 | non=>cases r; rfl
 | bl _=>cases r; rfl
 | int _=>obtain ⟨t,rfl⟩:=r; rfl
 | str _=>obtain ⟨t,rfl⟩:=r; rfl
 | byt _=>obtain ⟨t,rfl⟩:=r; rfl
 | flt _=>obtain ⟨t,rfl⟩:=r; rfl
 | ref _=>cases r; rfl
 | ty _=>cases r; rfl
theorem zi.inj {x y:V} {u:Value} (r:zi x u) (q:zi y u):x=y:=Option.some.inj (r.abs.symm.trans q.abs)
theorem zf.inj:∀ {xs ys:List V} {us:List Value},zf xs us->zf ys us->xs=ys
 | _,_,_,.nil,.nil=>rfl
 | _,_,_,.cons r t,.cons r' t'=>by rw [r.inj r',zf.inj t t']
section
variable {X:Cx} {pins:List (Addr×Obj)} {σ:St} {H:Hp} {s:Shared} {a:Addr} {xs ys:List V}
theorem yE.of {K:PySem.W.Frag} (h:H a=some (.lst xs)):yE K H a xs:=.inl (.inl h)
theorem yR.of {K:PySem.W.Frag} (h:H a=some (.tup xs)):yR K H a xs:=.inl (.inl h)
theorem Inv.list (I:Inv X pins σ H s) (h:yE X.K H a xs):∃ its:List Value,zf xs its/\PlainL s.heap a its.toArray/\xs.length<=sizeLine:=by
 rcases h with h | ⟨o,its,n,hk,hc,hd,hs,hz,r⟩
 ·obtain ⟨z,its,n,r,e⟩:=h.ok I.hok
  exact ⟨its,r,⟨_,n,e,rfl,rfl,rfl⟩,z⟩
 ·refine ⟨its.toList,r,⟨o,n,I.kIn a o hk,hc,hd,by simpa using hs⟩,?_⟩
  have e:=r.length
  simp only [Array.length_toList] at e
  omega
theorem Inv.tuple (I:Inv X pins σ H s) (h:yR X.K H a xs):∃ its:List Value,zf xs its/\IsTup s.heap a its.toArray/\xs.length<=sizeLine:=by
 rcases h with h | ⟨o,its,n,hk,hc,hs,hz,r⟩
 ·obtain ⟨z,its,r,p⟩:=h.ok I.hok
  exact ⟨its,r,p,z⟩
 ·refine ⟨its.toList,r,⟨o,I.kIn a o hk,hc,n,by simpa using hs⟩,?_⟩
  have e:=r.length
  simp only [Array.length_toList] at e
  omega
theorem Inv.list_inj (I:Inv X pins σ H s) (h:yE X.K H a xs) (h':yE X.K H a ys):xs=ys:=by
 obtain ⟨its,r,⟨o,n,e,_,_,d⟩,_⟩:=I.list h
 obtain ⟨its',r',⟨o',n',e',_,_,d'⟩,_⟩:=I.list h'
 rw [e] at e'; cases e'
 rw [d] at d'
 injection d' with d1 _
 have:its=its':=by simpa using congrArg Array.toList d1
 subst this
 exact r.inj r'
theorem Inv.tuple_inj (I:Inv X pins σ H s) (h:yR X.K H a xs) (h':yR X.K H a ys):xs=ys:=by
 obtain ⟨its,r,⟨o,e,_,n,d⟩,_⟩:=I.tuple h
 obtain ⟨its',r',⟨o',e',_,n',d'⟩,_⟩:=I.tuple h'
 rw [e] at e'; cases e'
 rw [d] at d'
 injection d' with d1 _
 have:its=its':=by simpa using congrArg Array.toList d1
 subst this
 exact r.inj r'
end
noncomputable abbrev Cx.wish (X:Cx) (E:Value->Shared->Prop):Cx:={ X with xe:=E }
noncomputable abbrev Cx.nox (X:Cx):Cx:=X.wish fun _ _=>False
theorem Cx.Ok.wish {X:Cx} (ok:X.Ok) (E:Value->Shared->Prop):(X.wish E).Ok:=
 ⟨ok.mod,ok.kind,ok.glob,ok.blt,ok.above,ok.inj,ok.has,ok.cab,ok.hd,ok.frames,ok.stk,ok.exf,ok.bs,ok.bsz,ok.noex,ok.exfs,ok.funs,ok.frf⟩
theorem Cx.Ok.unwish {X:Cx} {E:Value->Shared->Prop} (ok:(X.wish E).Ok):X.Ok:=
 ⟨ok.mod,ok.kind,ok.glob,ok.blt,ok.above,ok.inj,ok.has,ok.cab,ok.hd,ok.frames,ok.stk,ok.exf,ok.bs,ok.bsz,ok.noex,ok.exfs,ok.funs,ok.frf⟩
section
variable {X:Cx} {pins:List (Addr×Obj)} {σ:St} {H:Hp} {s:Shared} {E:Value->Shared->Prop}
theorem Inv.wish (I:Inv X pins σ H s) (E:Value->Shared->Prop):Inv (X.wish E) pins σ H s:=⟨I.ok.wish E,I.os,I.bare,I.base,I.loc,I.cell,I.free,I.freeC,I.pin,I.hok,I.len⟩
theorem Inv.unwish (I:Inv (X.wish E) pins σ H s):Inv X pins σ H s:=⟨I.ok.unwish,I.os,I.bare,I.base,I.loc,I.cell,I.free,I.freeC,I.pin,I.hok,I.len⟩
theorem SP.unwish {D:uF} {f:Flow} {s':Shared} (h:SP (X.wish E) pins D f s'):SP X pins D f s':=by
 cases f with
 | next=>obtain ⟨σ',H',I,q⟩:=h; exact ⟨σ',H',I.unwish,q⟩
 | brk=>obtain ⟨σ',H',I,q⟩:=h; exact ⟨σ',H',I.unwish,q⟩
 | cont=>obtain ⟨σ',H',I,q⟩:=h; exact ⟨σ',H',I.unwish,q⟩
 | ret u=>obtain ⟨v,σ',H',I,r,q⟩:=h; exact ⟨v,σ',H',I.unwish,r,q⟩
theorem wW.nox {st:List Stmt} {t:TS} (h:wW X.nox st t):wW X st t:=fun pins s σ H D I hw=>
 wpAny_mono (h pins s σ H D (I.wish _) hw) (fun _ _ q=>q.unwish) fun _ _ z=>False.elim z
end
section
variable {X:Cx} {st:Stmt} {yN:List Stmt} {t u:TS} {e:Expr} {te:TE} {pos:Pos}
noncomputable def Ge:TS:=fun D σ H=>D.nx σ H
noncomputable def Gn (t u:TS):TS:=fun D σ H=>t { D with nx:=u D } σ H
theorem Fk:wW X [] Ge:=fun _ _ σ H _ I h=>wpAny_execs_nil ⟨σ,H,I,h⟩
theorem Fi (h1:PS X st t) (h2:wW X yN u):wW X (st::yN) (Gn t u):=by
 intro pins s σ H D I h
 refine wpAny_execs_cons (zj (h1 pins s σ H { D with nx:=u D } I h) fun f s1 q=>?_)
 cases f with
 | next=>
  obtain ⟨σ',H',I',q⟩:=q
  exact h2 pins s1 σ' H' D I' q
 | ret v=>exact q
 | brk=>exact q
 | cont=>exact q
theorem Fm (h1:PS X st t):wW X [st] t:=by
 intro pins s σ H D I h
 refine wpAny_execs_cons (zj (h1 pins s σ H D I h) fun f s1 q=>?_)
 cases f with
 | next=>exact wpAny_execs_nil q
 | ret v=>exact q
 | brk=>exact q
 | cont=>exact q
theorem Inv.quiet {pins:List (Addr×Obj)} {σ:St} {H:Hp} {s:Shared} (I:Inv X pins σ H s):interactive X.env=false:=by simp [interactive,I.ok.kind]
noncomputable def Jv (te:TE):TS:=fun D σ H=>te σ H fun _ H1=>D.nx σ H1
theorem Fd (he:PE X e te) (hs:swapsWith e none pos.line X.env=pure false:=by rfl):PS X (.Expr e pos) (Jv te):=by
 intro pins s σ H D I h
 exact wpAny_Expr_any (zj (he pins s σ H _ I h) fun v s1 ⟨x,H1,I1,r1,q1⟩=>⟨σ,H1,I1,q1⟩) I.quiet hs
noncomputable def Gm (te:TE):TS:=fun D σ H=>te σ H D.rt
theorem Ww (he:PE X e te):PS X (.Return (some e) pos) (Gm te):=by
 intro pins s σ H D I h
 exact wpAny_Return_some (zj (he pins s σ H _ I h) fun v s1 ⟨x,H1,I1,r1,q1⟩=>⟨x,σ,H1,I1,r1,q1⟩)
noncomputable def GY (c:TT) (t u:TS):TS:=fun D σ H=>c σ H fun b H1=>if b=true then t D σ H1 else u D σ H1
theorem Ff {c:Expr} {a b:List Stmt} {tc:TT} (hc:PT X c tc) (ha:wW X a t) (hb:wW X b u):PS X (.If c a b pos) (GY tc t u):=by
 intro pins s σ H D I h
 refine wpAny_If (zj (hc pins s σ H _ I h) fun d s1 ⟨H1,I1,q1⟩=>?_)
 cases d with
 | true=>exact ha pins s1 σ H1 D I1 q1
 | false=>exact hb pins s1 σ H1 D I1 q1
noncomputable def Gd:TS:=fun _ _ _=>False
theorem Fj {sts:List Stmt}:wW X sts Gd:=fun _ _ _ _ _ _ h=>h.elim
end
noncomputable abbrev TG:=V->St->Hp->(St->Hp->Prop)->Prop
noncomputable abbrev uK:=List V->St->Hp->(St->Hp->Prop)->Prop
noncomputable def PG (X:Cx) (target:Expr) (t:TG):Prop:=
 ∀ (pins:List (Addr×Obj)) (s:Shared) (σ:St) (H:Hp) (v:V) (u:Value) (Q:St->Hp->Prop),Inv X pins σ H s->zi v u->t v σ H Q->
  wpAny (model X.prog X.w) X.A (assign target X.env u) (fun _ s'=>∃ σ' H',Inv X pins σ' H' s'/\Q σ' H') X.xe s
noncomputable def jd (X:Cx) (ts:List Expr) (t:uK):Prop:=
 ∀ (pins:List (Addr×Obj)) (s:Shared) (σ:St) (H:Hp) (vs:List V) (us:List Value) (Q:St->Hp->Prop),Inv X pins σ H s->zf vs us->t vs σ H Q->
  wpAny (model X.prog X.w) X.A (assignInOrder ((assignEach ts X.env).map (·.2)) us) (fun _ s'=>∃ σ' H',Inv X pins σ' H' s'/\Q σ' H') X.xe s
noncomputable abbrev jh:=V->V->Hp->VK->Prop
noncomputable def XI (X:Cx) (op:Operator) (t:jh):Prop:=
 ∀ (pins:List (Addr×Obj)) (s:Shared) (σ:St) (H:Hp) (x y:V) (v u:Value) (Q:VK),Inv X pins σ H s->zi x v->zi y u->t x y H Q->
  wpAny (model X.prog X.w) X.A (inplaceOp op v u) (EP X pins σ Q) X.xe s
section
variable {X:Cx} {pos:Pos}
noncomputable def vR (i:Nat):TG:=fun v σ H Q=>Q (σ.set i (some v)) H
theorem Dt {i:Nat} {x:Str} (hN:X.N.Nodup) (hi:X.N[i]?=some x) (hx:uJ X.env.scope x) (hf:X.fn x=true\/X.env.scope.names.lookup x=some .local:=by first | exact .inl rfl | exact .inr rfl | assumption):PG X (.Name x pos) (vR i):=by
 intro pins s σ H v u Q I r h
 exact wpAny_assign_Name (VS I hN hi hx r (fun s' I'=>⟨_,H,I',h⟩) hf)
noncomputable def jw:uK:=fun vs σ H Q=>vs=[]/\Q σ H
noncomputable def qA (t:TG) (u:uK):uK:=fun vs σ H Q=>∃ v r,vs=v::r/\t v σ H fun σ' H'=>u r σ' H' Q
theorem Dw:jd X [] jw:=by
 intro pins s σ H vs us Q I r h
 obtain ⟨e,h⟩:=h
 subst e
 cases r
 exact assignInOrder_nil ⟨σ,H,I,h⟩
theorem Dv {e:Expr} {es:List Expr} {t:TG} {u:uK} (h1:PG X e t) (h2:jd X es u)
  (hs:(assignEach (e::es) X.env).map (·.2)=assign e X.env::(assignEach es X.env).map (·.2):=by rfl):jd X (e::es) (qA t u):=by
 intro pins s σ H vs us Q I r h
 obtain ⟨v,vr,e1,h⟩:=h
 subst e1
 cases r with
 | cons r rr=>
  rw [hs]
  refine assignInOrder_cons (zj (h1 pins s σ H _ _ _ I r h) fun _ s1 ⟨σ1,H1,I1,q1⟩=>?_)
  exact h2 pins s1 σ1 H1 _ _ Q I1 rr q1
noncomputable def jx (K:PySem.W.Frag) (n:Nat) (t:uK):TG:=fun v σ H Q=>∃ a xs,v=.ref a/\yR K H a xs/\xs.length=n/\t xs σ H Q
theorem Du {es:List Expr} {k:Nat} {t:uK} {n:Nat} (hc:X.calm=true) (h:jd X es t)
  (hn:(assignEach es X.env).length=n:=by rfl) (hst:(assignEach es X.env).findIdx? (·.1)=none:=by rfl):PG X (.Tuple es k pos) (jx X.K n t):=by
 intro pins s σ H v u Q I r hw
 obtain ⟨a,xs,e1,hq,hl,hw⟩:=hw
 subst e1
 cases r
 obtain ⟨its,rv,ht,hz⟩:=I.tuple hq
 refine assign_Tuple_tuple (I.ok.hd hc) ht (by simp [hn,<- hl,rv.length]) hst fun h' hx=>?_
 have I1:Inv X pins σ H { s with heap:=h' }:=I.kept (t':=s.toks) fun b o e=>hx b o (Nat.ne_of_lt (Heap.lt_size e)) e
 exact h pins _ σ H xs _ Q I1 (by simpa using rv) hw
noncomputable def Jt (te:TE) (g:TG):TS:=fun D σ H=>te σ H fun x H1=>g x σ H1 D.nx
theorem Fg {i:Nat} {x:Str} {e:Expr} {te:TE} {pos':Pos} (hN:X.N.Nodup) (hi:X.N[i]?=some x) (hx:uJ X.env.scope x) (he:PE X e te) (hs:swapsWith e (some (.Name x pos')) pos.line X.env=pure false:=by rfl) (hf:X.fn x=true\/X.env.scope.names.lookup x=some .local:=by first | exact .inl rfl | exact .inr rfl | assumption) :
  PS X (.Assign [.Name x pos'] e pos) (Jt te (vR i)):=by
 intro pins s σ H D I h
 refine wpAny_Assign_Name (zj (he pins s σ H _ I h) fun v s1 ⟨y,H1,I1,r1,q1⟩=>?_) hs
 exact VS I1 hN hi hx r1 (fun s2 I2=>⟨_,H1,I2,q1⟩) hf
noncomputable def GS (i:Nat) (te:TE) (ti:jh):TS:=fun D σ H=>∃ x,σ[i]?=some (some x)/\te σ H fun y H1=>ti x y H1 fun z H2=>D.nx (σ.set i (some z)) H2
theorem Fb {i:Nat} {x:Str} {e:Expr} {te:TE} {op:Operator} {ti:jh} {pos':Pos} (hN:X.N.Nodup) (hi:X.N[i]?=some x) (hx:uJ X.env.scope x) (he:PE X e te) (ho:XI X op ti) (hf:X.fn x=true\/X.env.scope.names.lookup x=some .local:=by first | exact .inl rfl | exact .inr rfl | assumption) :
  PS X (.AugAssign (.Name x pos') op e pos) (GS i te ti):=by
 intro pins s σ H D I h
 obtain ⟨v,e1,h⟩:=h
 obtain ⟨m,hn,hl⟩:=I.loc
 have vis:qh X.env.scope x:=by rcases hx with k | k; exact .inl k; exact .inr (.inl k)
 obtain ⟨u,r,l⟩:=hl i x v hi e1 vis
 refine wpAny_AugAssign_Name ?_
 have go:wpAny (model X.prog X.w) X.A (eval e X.env) (fun w s₂=>wpAny (model X.prog X.w) X.A (inplaceOp op u w) (fun r s₃=>wpAny (model X.prog X.w) X.A (storeName X.env x r) (fun _=>SP X pins D .next) X.xe s₃) X.xe s₂) X.xe s:=by
  refine zj (he pins s σ H _ I h) fun w s1 ⟨y,H1,I1,r1,q1⟩=>?_
  refine zj (ho pins s1 σ H1 v y u w _ I1 r r1 q1) fun z s2 ⟨zv,H2,I2,r2,q2⟩=>?_
  exact VS I2 hN hi hx r2 (fun s3 I3=>⟨_,H2,I3,q2⟩) hf
 rcases l with ⟨hk,hm⟩ | ⟨hk,c,hc,hcell⟩
 ·exact wpAny_loadName_local I.ok.kind hk hn hm go
 ·rcases hk with hk | hk
  ·exact wpAny_loadName_cell I.ok.kind hk hc hcell go
  ·rcases hx with k | k
   ·have:X.env.scope.names.lookup x=some .free:=hk
    rw [k] at this; cases this
   ·have:X.env.scope.names.lookup x=some .free:=hk
    rw [k] at this; cases this
noncomputable def TW (f:Int->Int->Int):jh:=fun x y H Q=>∃ i j,x=.int i/\y=.int j/\Q (.int (f i j)) H
theorem Lo:XI X .Add (TW fun i j=>i+j):=by
 intro pins s σ H x y v u Q I r1 r2 h
 obtain ⟨i,j,e1,e2,q⟩:=h
 subst e1; subst e2
 obtain ⟨t,rfl⟩:=r1
 obtain ⟨t',rfl⟩:=r2
 exact iadd_int ⟨.int _,H,I.tok _,⟨_,rfl⟩,q⟩
end
section
variable {X:Cx} {pos:Pos}
noncomputable def Gu (c:TT) (tb:TS):TS:=fun D σ H=>∃ W:Nat->St->Hp->Prop,(∃ m,W m σ H)/\∀ m σ H,W m σ H->
 c σ H fun b H1=>if b=true then ∃ N:St->Hp->Prop,(∀ σ' H',N σ' H'->∃ m',m'<m/\W m' σ' H')/\tb { D with nx:=N,ct:=N,bk:=D.nx } σ H1 else D.nx σ H1
theorem Fh {c:Expr} {body:List Stmt} {tc:TT} {tb:TS} (hp:PassesOwn (model X.prog X.w) X.A X.env X.xe) (hc:PT X c tc) (hb:wW X body tb):PS X (.While c body [] pos) (Gu tc tb):=by
 intro pins s σ H D I h
 obtain ⟨W,⟨m0,w0⟩,turn⟩:=h
 refine wpAny_While (codeAny_whileLoop (fun n s'=>∃ σ' H',Inv X pins σ' H' s'/\W n σ' H') ?_ m0 ⟨σ,H,I,w0⟩)
 rintro n s1 ⟨σ1,H1,I1,w1⟩
 refine wpAny_passesOwn hp (zj (hc pins s1 σ1 H1 _ I1 (turn n σ1 H1 w1)) fun b s2 ⟨H2,I2,q2⟩=>?_)
 cases b with
 | true=>
  obtain ⟨N,hN,q2⟩:=q2
  rw [if_pos rfl]
  refine wpAny_passesOwn hp (zj (hb pins s2 σ1 H2 _ I2 q2) fun f s3 q3=>?_)
  cases f with
  | next=>
   obtain ⟨σ3,H3,I3,n3⟩:=q3
   obtain ⟨m',hm,w3⟩:=hN σ3 H3 n3
   exact ⟨m',hm,σ3,H3,I3,w3⟩
  | cont=>
   obtain ⟨σ3,H3,I3,n3⟩:=q3
   obtain ⟨m',hm,w3⟩:=hN σ3 H3 n3
   exact ⟨m',hm,σ3,H3,I3,w3⟩
  | brk=>exact q3
  | ret v=>exact q3
 | false=>
  rw [if_neg Bool.false_ne_true]
  exact wpAny_execs_nil ⟨σ1,H2,I2,q2⟩
end
structure It where
 go:Nat->Hp->Prop
 yld:Nat->Hp->V->Hp->Prop
 stop:Nat->Hp->Prop
noncomputable def va (X:Cx) (pins:List (Addr×Obj)) (H:Hp) (b:Addr):Prop:=
 H b=none/\b≠X.env.locals/\b ∉ X.fs/\(b∈X.ex\/X.s₀.heap.objs.size<=b)/\(∀ x c,X.env.cells.lookup x=some c->c≠b)/\∀ p∈X.pn++pins,p.1≠b
theorem Inv.fpOk {X:Cx} {pins:List (Addr×Obj)} {σ:St} {H H':Hp} {s:Shared} {b:Addr} (I:Inv X pins σ H s) (hb:s.heap.objs.size<=b) (hn:H' b=none):va X pins H' b:=by
 refine ⟨hn,Nat.ne_of_gt (Nat.lt_of_lt_of_le I.lt hb),I.nofs hb,.inr (Nat.le_trans I.sz hb),fun x c e z=>?_,fun p hp z=>?_⟩
 ·obtain ⟨v,q⟩:=I.cell x c e
  exact absurd (Nat.lt_of_lt_of_le q.lt (by rw [z]; exact hb)) (Nat.lt_irrefl _)
 ·exact absurd (Nat.lt_of_lt_of_le (Heap.lt_size (I.pin p hp).1) (by rw [z]; exact hb)) (Nat.lt_irrefl _)
structure tX (P:Program) (w:World) (K:PySem.W.Frag) (tg:Expr) (J:It) (fp:List Addr) (it:Addr) (tn:Nat->Heap->Prop):Prop where
 mem:it∈fp
 obj:∀ i h,tn i h->∀ b∈fp,∃ o,h.get? b=some o/\∀ v,o.data≠.cell v
 keep:∀ i h h',tn i h->(∀ b∈fp,∀ o,h.get? b=some o->h'.get? b=some o)->tn i h'
 item:∀ (X:Cx),X.prog=P->X.w=w->X.K=K->X.calm=true->∀ (i:Nat) (pins:List (Addr×Obj)) (s:Shared) (σ:St) (H:Hp) (E:Value->Shared->Prop),Inv X pins σ H s->(∀ b∈fp,va X pins H b)->tn i s.heap->J.go i H->
  wpAny (model P w) X.A (pyNext (.ref it)) (fun r s1=>∃ u,r=some u/\
   wpAny (model P w) X.A (letOwnedTupleGo tg (.ref it) u) (fun _ s2=>∃ x H',Inv X pins σ H' s2/\zi x u/\J.yld i H x H'/\tn (i+1) s2.heap/\∀ b∈fp,H' b=none) E s1) E s
 done:∀ (X:Cx),X.prog=P->X.w=w->X.K=K->X.calm=true->∀ (i:Nat) (pins:List (Addr×Obj)) (s:Shared) (σ:St) (H:Hp) (E:Value->Shared->Prop),Inv X pins σ H s->(∀ b∈fp,va X pins H b)->tn i s.heap->J.stop i H->
  wpAny (model P w) X.A (pyNext (.ref it)) (fun r s1=>r=none/\Inv X pins σ H s1) E s
 self:∀ (A:Around) (i:Nat) (s:Shared) (Q:Value->Shared->Prop) (E:Value->Shared->Prop),tn i s.heap->Q (.ref it) s->wpAny (model P w) A (pyIter (.ref it)) Q E s
noncomputable abbrev TI:=St->Hp->(It->Hp->Prop)->Prop
noncomputable def XH (X:Cx) (pins:List (Addr×Obj)) (σ:St) (tg:Expr) (R:It->Hp->Prop) (itv:Value) (s2:Shared):Prop:=
 ∃ (it:Addr) (fp:List Addr) (tn:Nat->Heap->Prop) (J:It) (H':Hp),itv=.ref it/\Inv X pins σ H' s2/\tX X.prog X.w X.K tg J fp it tn/\tn 0 s2.heap/\(∀ b∈fp,va X pins H' b)/\R J H'
noncomputable def PI (X:Cx) (tg iter:Expr) (wi:TI):Prop:=
 ∀ (pins:List (Addr×Obj)) (s:Shared) (σ:St) (H:Hp) (R:It->Hp->Prop),Inv X pins σ H s->wi σ H R->
  wpAny (model X.prog X.w) X.A (eval iter X.env) (fun v s1=>wpAny (model X.prog X.w) X.A (pyIter v) (XH X pins σ tg R) X.xe s1) X.xe s
theorem Y0 {M:Model} {A:Around} {E:Value->Shared->Prop} {s:Shared} {tg:Expr} {it:Addr} {u:Value} {o:Obj} {n:String} {vs:Array Value} {Q:Unit->Shared->Prop} (ho:s.heap.get? it=some o) (hc:o.cls=.type n) (hd:o.data=.fields vs)
    (hn:["enumerate", "zip", "dict_itemiterator", "dict_reverseitemiterator", "odict_iterator", "itertools.zip_longest", "itertools.pairwise"].contains n=false) (hQ:Q () s):wpAny M A (letOwnedTupleGo tg (.ref it) u) Q E s:=by
  unfold letOwnedTupleGo
  cases tg<;>first
    | exact wpAny_pure hQ
    | (cases u<;>first
        | exact wpAny_pure hQ
        | (refine wpAny_bind (wpAny_load ho ?_)
           rw [hc,hd]
           show wpAny M A (if (["enumerate", "zip", "dict_itemiterator", "dict_reverseitemiterator", "odict_iterator", "itertools.zip_longest", "itertools.pairwise"].contains n&&vs[0]? == some (rawInt _))=true then _ else _) Q E s
           rw [if_neg (by intro h; rw [hn,Bool.false_and] at h; cases h)]
           exact wpAny_pure hQ))
noncomputable def XC (K:PySem.W.Frag) (a:Addr):It:=
 ⟨fun i H=>∃ xs x,yE K H a xs/\xs[i]?=some x,fun i H x H'=>H'=H/\∀ xs,yE K H a xs->xs[i]?=some x,fun i H=>∃ xs,yE K H a xs/\xs.length<=i⟩
noncomputable def XD (K:PySem.W.Frag) (a:Addr):It:=
 ⟨fun i H=>∃ xs x,yR K H a xs/\xs[i]?=some x,fun i H x H'=>H'=H/\∀ xs,yR K H a xs->xs[i]?=some x,fun i H=>∃ xs,yR K H a xs/\xs.length<=i⟩
noncomputable def Z9 (lo:Int) (n:Nat):It:=⟨fun i _=>i<n,fun i H x H'=>H'=H/\x=.int (lo+i),fun i _=>n<=i⟩
theorem HB {P:Program} {w:World} {K:PySem.W.Frag} {tg:Expr} (a it:Addr):tX P w K tg (XC K a) [it] it (fun i h=>h.IsListIter it a i) where
 mem:=by simp
 obj:=fun i h st b hb=>by
  have e:b=it:=by simpa using hb
  subst e
  obtain ⟨o,e,c,d⟩:=st
  exact ⟨o,e,fun v z=>by rw [d] at z; cases z⟩
 keep:=fun i h h' st k=>st.at fun o e=>k it (by simp) o e
 item:=by
  intro X hP hw hK hc i pins s σ H E I hf st hg
  subst hP hw hK
  obtain ⟨xs,x,hq,hx⟩:=hg
  obtain ⟨its,rv,p,hz⟩:=I.list hq
  obtain ⟨u,hu,ru⟩:=rv.get hx
  obtain ⟨f0,f1,f2,f3,f4,f5⟩:=hf it (by simp)
  refine wpAny_pyNext_list_item st p.isList (x:=u) (by simpa using hu) fun h' st' sb=>?_
  have I1:Inv X pins σ H { s with heap:=h' }:=I.turned (t':=s.toks) (fun b o hb e=>(sb.2 b hb).trans e) f0 f1 f3 f4 f5
  obtain ⟨o,e,c,d⟩:=id st'
  exact ⟨u,rfl,Y0 (s:={ s with heap:=h' }) e c d (by decide) ⟨x,H,I1,ru,⟨rfl,fun ys hy=>by rw [I.list_inj hy hq]; exact hx⟩,st',fun b hb=>(hf b hb).1⟩⟩
 done:=by
  intro X hP hw hK hc i pins s σ H E I hf st hg
  subst hP hw hK
  obtain ⟨xs,hq,hx⟩:=hg
  obtain ⟨its,rv,p,hz⟩:=I.list hq
  obtain ⟨f0,f1,f2,f3,f4,f5⟩:=hf it (by simp)
  have hl:=rv.length
  exact wpAny_pyNext_list_end (I.ok.hd hc) st p.isList (by simp; omega) fun h' eb=>⟨rfl,I.turned (t':=s.toks) (fun b o hb e=>eb b o hb e) f0 f1 f3 f4 f5⟩
 self:=fun _ _ _ _ _ st h=>wpAny_pyIter_listiter st h
theorem HE {P:Program} {w:World} {K:PySem.W.Frag} {tg:Expr} (a it:Addr):tX P w K tg (XD K a) [it] it (fun i h=>h.IsTupleIter it a i) where
 mem:=by simp
 obj:=fun i h st b hb=>by
  have e:b=it:=by simpa using hb
  subst e
  obtain ⟨o,e,c,d⟩:=st
  exact ⟨o,e,fun v z=>by rw [d] at z; cases z⟩
 keep:=fun i h h' st k=>st.at fun o e=>k it (by simp) o e
 item:=by
  intro X hP hw hK hc i pins s σ H E I hf st hg
  subst hP hw hK
  obtain ⟨xs,x,hq,hx⟩:=hg
  obtain ⟨its,rv,p,hz⟩:=I.tuple hq
  obtain ⟨u,hu,ru⟩:=rv.get hx
  obtain ⟨f0,f1,f2,f3,f4,f5⟩:=hf it (by simp)
  refine wpAny_pyNext_tuple_item st (show s.heap.IsTuple a its.toArray from p) (x:=u) (by simpa using hu) fun h' st' sb=>?_
  have I1:Inv X pins σ H { s with heap:=h' }:=I.turned (t':=s.toks) (fun b o hb e=>(sb.2 b hb).trans e) f0 f1 f3 f4 f5
  obtain ⟨o,e,c,d⟩:=id st'
  exact ⟨u,rfl,Y0 (s:={ s with heap:=h' }) e c d (by decide) ⟨x,H,I1,ru,⟨rfl,fun ys hy=>by rw [I.tuple_inj hy hq]; exact hx⟩,st',fun b hb=>(hf b hb).1⟩⟩
 done:=by
  intro X hP hw hK hc i pins s σ H E I hf st hg
  subst hP hw hK
  obtain ⟨xs,hq,hx⟩:=hg
  obtain ⟨its,rv,p,hz⟩:=I.tuple hq
  obtain ⟨f0,f1,f2,f3,f4,f5⟩:=hf it (by simp)
  have hl:=rv.length
  exact wpAny_pyNext_tuple_end (I.ok.hd hc) st (show s.heap.IsTuple a its.toArray from p) (by simp; omega) fun h' eb=>⟨rfl,I.turned (t':=s.toks) (fun b o hb e=>eb b o hb e) f0 f1 f3 f4 f5⟩
 self:=fun _ _ _ _ _ st h=>wpAny_pyIter_tupleiter st h
theorem HC {P:Program} {w:World} {K:PySem.W.Frag} {tg:Expr} (it:Addr) (lo:Int) (n:Nat):tX P w K tg (Z9 lo n) [it] it (fun i h=>IsRangeIter h it (lo+(i:Nat)*1) ((n:Int) - (i:Nat)) 1) where
 mem:=by simp
 obj:=fun i h st b hb=>by
  have e:b=it:=by simpa using hb
  subst e
  exact ⟨_,st,fun v z=>by
   have z':Data.fields _=Data.cell v:=z
   cases z'⟩
 keep:=fun i h h' st k=>k it (by simp) _ st
 item:=by
  intro X hP hw hK hc i pins s σ H E I hf st hg
  subst hP hw hK
  obtain ⟨f0,f1,f2,f3,f4,f5⟩:=hf it (by simp)
  have W:=Walks.range (prog:=X.prog) (w:=X.w) (I.ok.hd hc) it lo 1 n
  refine W.item i s _ _ hg st fun v h' tk hv st' kk=>?_
  obtain ⟨t,rfl⟩:=hv
  have I1:Inv X pins σ H { s with heap:=h',toks:=tk }:=I.turned (fun b o hb e=>kk b o (by simpa using hb) e) f0 f1 f3 f4 f5
  refine ⟨_,rfl,Y0 (s:={ s with heap:=h',toks:=tk }) (n := "range_iterator") st' rfl rfl (by decide) ⟨.int (lo+i),H,I1,⟨t,?_⟩,⟨rfl,rfl⟩,st',fun b hb=>(hf b hb).1⟩⟩
  rw [Int.mul_one]
 done:=by
  intro X hP hw hK hc i pins s σ H E I hf st hg
  subst hP hw hK
  obtain ⟨f0,f1,f2,f3,f4,f5⟩:=hf it (by simp)
  exact wpAny_pyNext_range_end (I.ok.hd hc) st (by have:n<=i:=hg; omega) fun h' eb=>⟨rfl,I.turned (t':=s.toks) (fun b o hb e=>eb b o hb e) f0 f1 f3 f4 f5⟩
 self:=fun _ _ _ _ _ st h=>wpAny_pyIter_rangeiter st h
end L2
namespace L2
open PySem PySem.Spec PyProof.Rows
section
variable {X:Cx} {tg:Expr}
noncomputable def Lb (K:PySem.W.Frag) (tl:TE):TI:=fun σ H R=>tl σ H fun x H1=>∃ a,x=.ref a/\(∃ xs,yE K H1 a xs)/\R (XC K a) H1
noncomputable def Le (K:PySem.W.Frag) (tl:TE):TI:=fun σ H R=>tl σ H fun x H1=>∃ a,x=.ref a/\(∃ xs,yR K H1 a xs)/\R (XD K a) H1
theorem Dy {l:Expr} {tl:TE} (hl:PE X l tl):PI X tg l (Lb X.K tl):=by
 intro pins s σ H R I h
 refine zj (hl pins s σ H _ I h) fun v s1 ⟨x,H1,I1,r1,q1⟩=>?_
 obtain ⟨a,e,⟨xs,hq⟩,q⟩:=q1
 subst e
 cases r1
 obtain ⟨its,rv,p,hz⟩:=I1.list hq
 refine wpAny_pyIter_list p.isList ?_
 refine ⟨s1.heap.objs.size,[s1.heap.objs.size],_,_,H1,rfl,I1.kept (t':=s1.toks) fun b o e=>Heap.get?_push_of_some _ e,HB a _,⟨_,Heap.get?_push_size _ rfl,rfl,rfl⟩,fun b hb=>?_,q⟩
 have e:b=s1.heap.objs.size:=by simpa using hb
 subst e
 exact I1.fpOk (Nat.le_refl _) (I1.hok.fresh (Nat.le_refl _))
theorem FB {l:Expr} {tl:TE} (hl:PE X l tl):PI X tg l (Le X.K tl):=by
 intro pins s σ H R I h
 refine zj (hl pins s σ H _ I h) fun v s1 ⟨x,H1,I1,r1,q1⟩=>?_
 obtain ⟨a,e,⟨xs,hq⟩,q⟩:=q1
 subst e
 cases r1
 obtain ⟨its,rv,p,hz⟩:=I1.tuple hq
 refine wpAny_pyIter_tuple (show s1.heap.IsTuple a its.toArray from p) ?_
 refine ⟨s1.heap.objs.size,[s1.heap.objs.size],_,_,H1,rfl,I1.kept (t':=s1.toks) fun b o e=>Heap.get?_push_of_some _ e,HE a _,⟨_,Heap.get?_push_size _ rfl,rfl,rfl⟩,fun b hb=>?_,q⟩
 have e:b=s1.heap.objs.size:=by simpa using hb
 subst e
 exact I1.fpOk (Nat.le_refl _) (I1.hok.fresh (Nat.le_refl _))
theorem CO {pins:List (Addr×Obj)} {σ:St} {H:Hp} {s:Shared} {R:It->Hp->Prop} {E:Value->Shared->Prop} {lo hi:Int} {t u v:Tok} {tk:Nat} (I:Inv X pins σ H s) (h1 : -(2 ^ 62)<=lo) (h2:lo<2 ^ 62) (h3 : -(2 ^ 62)<=hi) (h4:hi<2 ^ 62)
  (q:R (Z9 lo (hi - lo).toNat) H):wpAny (model X.prog X.w) X.A (pyIter (.ref s.heap.objs.size)) (XH X pins σ tg R) E { s with heap:=s.heap.push { cls:=.type "range",data:=.fields #[.int lo t,.int hi u,.int 1 v] },toks:=tk }:=by
 refine wpAny_pyIter_range (IsRange.new ..) (small_one h1 h2 h3 h4) ?_
 have I1:Inv X pins σ H { s with heap:=s.heap.push { cls:=.type "range",data:=.fields #[.int lo t,.int hi u,.int 1 v] },toks:=tk }:=I.kept fun b o e=>Heap.get?_push_of_some _ e
 refine ⟨(s.heap.push { cls:=.type "range",data:=.fields #[.int lo t,.int hi u,.int 1 v] }).objs.size,[(s.heap.push { cls:=.type "range",data:=.fields #[.int lo t,.int hi u,.int 1 v] }).objs.size],_,_,H,rfl,
  I1.kept (t':=tk) fun b o e=>Heap.get?_push_of_some _ e,HC _ lo (hi - lo).toNat,?_,fun b hb=>?_,q⟩
 ·have e1:lo+((0:Nat):Int)*1=lo:=by simp
  have e2:(((hi - lo).toNat:Nat):Int) - ((0:Nat):Int)=Builtin.Range.rangeSize lo hi 1:=by rw [rangeSize_one]; split<;>omega
  show IsRangeIter _ _ (lo+((0:Nat):Int)*1) ((((hi - lo).toNat:Nat):Int) - ((0:Nat):Int)) 1
  rw [e1,e2]
  exact Heap.get?_push_size _ rfl
 ·have e:b=(s.heap.push { cls:=.type "range",data:=.fields #[.int lo t,.int hi u,.int 1 v] }).objs.size:=by simpa using hb
  subst e
  exact I1.fpOk (Nat.le_refl _) (I1.hok.fresh (Nat.le_refl _))
noncomputable def Lc (ta:TA):TI:=fun σ H R=>ta σ H fun vs H1=>∃ j:Int,vs=[.int j] /\ -(2 ^ 62)<=j/\j<2 ^ 62/\R (Z9 0 j.toNat) H1
theorem Dz {a:Expr} {ta:TA} {p pos:Pos} (hg:Gl X "range") (hm:X.mg "range" = none) (ha:PA X [a] ta) (hs:starEach [a] X.env=[(false,eval a X.env)]:=by rfl):PI X tg (.Call (.Name "range" p) [a] [] pos) (Lc ta):=by
 intro pins s σ H R I h
 refine Call_ (j6 I hg hm boot_range (PyProof.Rows.callWith_type1 (zj (ha pos pins s σ H _ I h) fun us s1 ⟨vs,H1,I1,r1,q1⟩=>?_) hs rfl))
 obtain ⟨j,e,q1,q2,q⟩:=q1
 subst e
 cases r1 with
 | cons r rr=>
  cases rr
  obtain ⟨t,rfl⟩:=r
  exact call_range_1 (CO I1 (by omega) (by omega) q1 q2 (by simpa using q))
noncomputable def GW (wi:TI) (g:TG) (tb:TS):TS:=fun D σ H=>wi σ H fun J H1=>∃ W:Nat->Nat->St->Hp->Prop,(∃ m,W 0 m σ H1)/\∀ i m σ H,W i m σ H->
 (J.stop i H/\D.nx σ H)\/(J.go i H/\∃ N:St->Hp->Prop,(∀ σ' H',N σ' H'->∃ m',m'<m/\W (i+1) m' σ' H')/\∀ x H',J.yld i H x H'->g x σ H' fun σ2 H2=>tb { D with nx:=N,ct:=N,bk:=D.nx } σ2 H2)
noncomputable def gM (fp:List Addr) (h:Heap):List (Addr×Obj):=fp.filterMap fun b=>(h.get? b).map fun o=>(b,o)
theorem YI {fp:List Addr} {h:Heap} {b:Addr} {o:Obj} (hb:b∈fp) (e:h.get? b=some o):(b,o)∈gM fp h:=List.mem_filterMap.mpr ⟨b,hb,by rw [e]; rfl⟩
theorem B4 {fp:List Addr} {h:Heap} {p:Addr×Obj} (hp:p∈gM fp h):p.1∈fp/\h.get? p.1=some p.2:=by
 obtain ⟨b,hb,e⟩:=List.mem_filterMap.mp hp
 cases q:h.get? b with
 | none=>rw [q] at e; cases e
 | some o=>
  rw [q] at e
  have e':(b,o)=p:=Option.some.inj e
  subst e'
  exact ⟨hb,q⟩
theorem Inv.pinned {pins:List (Addr×Obj)} {σ:St} {H:Hp} {s:Shared} {fp:List Addr} (I:Inv X pins σ H s) (hf:∀ b∈fp,va X pins H b) (ho:∀ b∈fp,∃ o,s.heap.get? b=some o/\∀ v,o.data≠.cell v):Inv X (pins++gM fp s.heap) σ H s:=
 I.pins_of fun p hp=>(List.mem_append.mp hp).elim (fun z=>I.pin p (List.mem_append_right _ z)) fun z=>by
  obtain ⟨hb,e⟩:=B4 z
  obtain ⟨f0,f1,f2,_⟩:=hf p.1 hb
  obtain ⟨o,e',d⟩:=ho p.1 hb
  rw [e] at e'; cases e'
  exact ⟨e,f0,f1,f2,d⟩
theorem Inv.unpinned {pins pl:List (Addr×Obj)} {σ:St} {H:Hp} {s:Shared} (I:Inv X (pins++pl) σ H s):Inv X pins σ H s:=I.pins_of fun p hp=>I.pin p (List.mem_append_right _ (List.mem_append_left _ hp))
theorem Fe {iter:Expr} {body:List Stmt} {wi:TI} {g:TG} {tb:TS} {pos:Pos} (hp:PassesOwn (model X.prog X.w) X.A X.env X.xe) (hc:X.calm=true) (hi:PI X tg iter wi) (hg:PG X tg g) (hb:wW X body tb)
  (hs:∀ x,foldedSetIterable iter X.env x=pure x:=by intro _; rfl):PS X (.For tg iter body [] pos) (GW wi g tb):=by
 intro pins s σ H D I h
 refine wpAny_For (zj (hi pins s σ H _ I h) fun v s1 h1=>zj h1 fun itv s2 h2=>?_) hs
 obtain ⟨it,fp,tn,J,H2,e,I2,T,st2,f2,W,⟨m0,w0⟩,turn⟩:=h2
 subst e
 have stat:∀ {H':Hp},(∀ b∈fp,H' b=none)->∀ b∈fp,va X pins H' b:=fun hn b hb=>⟨hn b hb,(f2 b hb).2⟩
 refine codeAny_forLoop_any (fun n s'=>∃ i σ' H',Inv X pins σ' H' s'/\tn i s'.heap/\(∀ b∈fp,H' b=none)/\W i n σ' H') ?_ m0 ⟨0,σ,H2,I2,st2,fun b hb=>(f2 b hb).1,w0⟩
 rintro n s3 ⟨i,σ3,H3,I3,st3,fr3,w3⟩
 rcases turn i n σ3 H3 w3 with ⟨stop,qn⟩ | ⟨go,N,hN,step⟩
 ·refine wpAny_passesOwn hp (zj (T.done X rfl rfl rfl hc i pins s3 σ3 H3 X.xe I3 (stat fr3) st3 stop) fun r s4 ⟨hr,I4⟩=>?_)
  subst hr
  exact wpAny_execs_nil ⟨σ3,H3,I4,qn⟩
 ·refine wpAny_passesOwn hp (zj (T.item X rfl rfl rfl hc i pins s3 σ3 H3 X.xe I3 (stat fr3) st3 go) fun r s4 ⟨u,hr,h4⟩=>?_)
  subst hr
  refine wpAny_passesOwn hp (zj h4 fun _ s5 ⟨x,H5,I5,r5,y5,st5,fr5⟩=>?_)
  have I5':=I5.pinned (stat fr5) (T.obj _ _ st5)
  refine wpAny_passesOwn hp (zj (hg _ s5 σ3 H5 x u _ I5' r5 (step x H5 y5)) fun _ s6 ⟨σ6,H6,I6,q6⟩=>?_)
  refine wpAny_passesOwn hp (zj (hb _ s6 σ6 H6 _ I6 q6) fun f s7 q7=>?_)
  have again:∀ {σ7:St} {H7:Hp},Inv X (pins++gM fp s5.heap) σ7 H7 s7->N σ7 H7->∃ m,m<n/\∃ i σ' H',Inv X pins σ' H' s7/\tn i s7.heap/\(∀ b∈fp,H' b=none)/\W i m σ' H':=fun {σ7 H7} I7 n7=>by
   obtain ⟨m',hm,w7⟩:=hN σ7 H7 n7
   refine ⟨m',hm,i+1,σ7,H7,I7.unpinned,T.keep _ _ _ st5 fun b hb o e=>(I7.pin (b,o) (List.mem_append_right _ (List.mem_append_right _ (YI hb e)))).1,fun b hb=>?_,w7⟩
   obtain ⟨o,e,d⟩:=T.obj _ _ st5 b hb
   exact (I7.pin (b,o) (List.mem_append_right _ (List.mem_append_right _ (YI hb e)))).2.1
  cases f with
  | next=>obtain ⟨σ7,H7,I7,n7⟩:=q7; exact again I7 n7
  | cont=>obtain ⟨σ7,H7,I7,n7⟩:=q7; exact again I7 n7
  | brk=>obtain ⟨σ7,H7,I7,q7⟩:=q7; exact ⟨σ7,H7,I7.unpinned,q7⟩
  | ret v=>obtain ⟨x7,σ7,H7,I7,r7,q7⟩:=q7; exact ⟨x7,σ7,H7,I7.unpinned,r7,q7⟩
end
end L2
namespace L2
open PySem PySem.Spec PyProof.Rows
noncomputable abbrev R2:=V->V->Hp->VK->Prop
noncomputable def yM (X:Cx) (f:Value->Value->Sem Value) (r:R2):Prop:=
 ∀ (pins:List (Addr×Obj)) (s:Shared) (σ:St) (H:Hp) (x y:V) (v u:Value) (Q:VK),Inv X pins σ H s->zi x v->zi y u->r x y H Q->
  wpAny (model X.prog X.w) X.A (f v u) (EP X pins σ Q) X.xe s
noncomputable def ZI (X:Cx) (f:Value->Sem Value) (r:V->Hp->VK->Prop):Prop:=
 ∀ (pins:List (Addr×Obj)) (s:Shared) (σ:St) (H:Hp) (x:V) (v:Value) (Q:VK),Inv X pins σ H s->zi x v->r x H Q->
  wpAny (model X.prog X.w) X.A (f v) (EP X pins σ Q) X.xe s
noncomputable def xV (X:Cx) (f:Value) (r:List V->Hp->VK->Prop):Prop:=
 ∀ (pins:List (Addr×Obj)) (s:Shared) (σ:St) (H:Hp) (xs:List V) (us:List Value) (Q:VK),Inv X pins σ H s->zf xs us->r xs H Q->
  wpAny (model X.prog X.w) X.A (call f us) (EP X pins σ Q) X.xe s
noncomputable def kz (r:R2) (ta tb:TE):TE:=fun σ H Q=>ta σ H fun x H1=>tb σ H1 fun y H2=>r x y H2 Q
noncomputable def Gs (r:V->Hp->VK->Prop) (ta:TE):TE:=fun σ H Q=>ta σ H fun x H1=>r x H1 Q
noncomputable def rI (C:Int->Int->Prop) (g:Int->Int->V):R2:=fun x y H Q=>∃ i j,x=.int i/\y=.int j/\C i j/\Q (g i j) H
noncomputable def ua (g:Int->Int->V):R2:=fun x y H Q=>∃ i j,x=.int i/\y=.int j/\Q (g i j) H
noncomputable def rU (g:Int->V):V->Hp->VK->Prop:=fun x H Q=>∃ i,x=.int i/\Q (g i) H
section
variable {X:Cx} {a b c:Expr} {ta tb tc:TE} {pos:Pos}
theorem XU (ha:PE X a ta) (hb:PE X b tb) {pins:List (Addr×Obj)} {s:Shared} {σ:St} {H:Hp} {R:V->V->Hp->Prop} (I:Inv X pins σ H s)
  (h:ta σ H fun x H1=>tb σ H1 fun y H2=>R x y H2) {Q:Value->Shared->Prop} {f:Value->Value->Sem Value}
  (hf:∀ v u s2 x y H2,Inv X pins σ H2 s2->zi x v->zi y u->R x y H2->wpAny (model X.prog X.w) X.A (f v u) Q X.xe s2) :
  wpAny (model X.prog X.w) X.A (eval a X.env) (fun v s₁=>wpAny (model X.prog X.w) X.A (eval b X.env) (fun u s₂=>wpAny (model X.prog X.w) X.A (f v u) Q X.xe s₂) X.xe s₁) X.xe s:=by
 refine zj (ha pins s σ H _ I h) fun v s1 ⟨x,H1,I1,r1,q1⟩=>?_
 refine zj (hb pins s1 σ H1 _ I1 q1) fun u s2 ⟨y,H2,I2,r2,q2⟩=>?_
 exact hf v u s2 x y H2 I2 r1 r2 q2
theorem Do {op:Operator} {r:R2} (ho:yM X (binaryOp op) r) (ha:PE X a ta) (hb:PE X b tb):PE X (.BinOp a op b pos) (kz r ta tb):=by
 intro pins s σ H Q I h
 exact wpAny_BinOp (XU ha hb I h fun v u s2 x y H2 I2 rx ry q=>ho pins s2 σ H2 x y v u Q I2 rx ry q)
theorem Dr {op:UnaryOp} {r:V->Hp->VK->Prop} (ho:ZI X (unaryOp op) r) (ha:PE X a ta):PE X (.UnaryOp op a pos) (Gs r ta):=by
 intro pins s σ H Q I h
 exact UnaryOp_ (zj (ha pins s σ H _ I h) fun v s1 ⟨x,H1,I1,r1,q1⟩=>ho pins s1 σ H1 x v Q I1 r1 q1)
theorem gK {f:Value->Value->Sem Value} {C:Int->Int->Prop} {g:Int->Int->Int}
  (rule:∀ (i j:Int) (t u:Tok) (s:Shared) (Q:Value->Shared->Prop) (E:Value->Shared->Prop),C i j->Q (.int (g i j) s.toks) { s with toks:=s.toks+1 }->wpAny (model X.prog X.w) X.A (f (.int i t) (.int j u)) Q E s) :
  yM X f (rI C fun i j=>.int (g i j)):=by
 intro pins s σ H x y v u Q I rx ry h
 obtain ⟨i,j,rfl,rfl,hc,q⟩:=h
 obtain ⟨t,rfl⟩:=rx
 obtain ⟨t',rfl⟩:=ry
 exact rule i j t t' s _ _ hc ⟨.int (g i j),H,I.tok _,⟨_,rfl⟩,q⟩
theorem QN {f:Value->Value->Sem Value} {g:Int->Int->Int}
  (rule:∀ (i j:Int) (t u:Tok) (s:Shared) (Q:Value->Shared->Prop) (E:Value->Shared->Prop),Q (.int (g i j) s.toks) { s with toks:=s.toks+1 }->wpAny (model X.prog X.w) X.A (f (.int i t) (.int j u)) Q E s) :
  yM X f (ua fun i j=>.int (g i j)):=by
 intro pins s σ H x y v u Q I rx ry h
 obtain ⟨i,j,rfl,rfl,q⟩:=h
 obtain ⟨t,rfl⟩:=rx
 obtain ⟨t',rfl⟩:=ry
 exact rule i j t t' s _ _ ⟨.int (g i j),H,I.tok _,⟨_,rfl⟩,q⟩
theorem Wg {f:Value->Value->Sem Value} {g:Int->Int->Bool}
  (rule:∀ (i j:Int) (t u:Tok) (s:Shared) (Q:Value->Shared->Prop) (E:Value->Shared->Prop),Q (.bool (g i j)) s->wpAny (model X.prog X.w) X.A (f (.int i t) (.int j u)) Q E s) :
  yM X f (ua fun i j=>.bl (g i j)):=by
 intro pins s σ H x y v u Q I rx ry h
 obtain ⟨i,j,rfl,rfl,q⟩:=h
 obtain ⟨t,rfl⟩:=rx
 obtain ⟨t',rfl⟩:=ry
 exact rule i j t t' s _ _ ⟨.bl (g i j),H,I,rfl,q⟩
noncomputable def X8 (i j:Int):Prop:=0<=j/\j<=1000000/\i.natAbs<2 ^ 64
noncomputable def jZ (i j:Int):Prop:=(-(2 ^ 64)<i/\i<2 ^ 64)\/(-(2 ^ 64)<j/\j<2 ^ 64)
theorem jZ.ok {i j:Int} (h:jZ i j):IntMulOk i j:=by
 rcases h with ⟨h1,h2⟩ | ⟨h1,h2⟩
 ·exact .of_left (intBits_le_64 h1 h2)
 ·exact .of_right (intBits_le_64 h1 h2)
theorem Bv:yM X (binaryOp .Add) (ua fun i j=>.int (i+j)):=QN fun _ _ _ _ _ _ _ q=>add_int q
theorem Wj:yM X (binaryOp .Sub) (ua fun i j=>.int (i - j)):=QN fun _ _ _ _ _ _ _ q=>sub_int q
theorem jD:yM X (binaryOp .Mult) (rI jZ fun i j=>.int (i*j)):=gK fun _ _ _ _ _ _ _ hc q=>mul_int q hc.ok
theorem uY:yM X (binaryOp .Mod) (rI (fun _ j=>0<j) fun i j=>.int (i % j)):=gK fun i j _ _ _ _ _ hc q=>by
 have h1:(0:Int)<j:=hc
 exact mod_int' (by omega) (by rw [Int.fmod_eq_emod_of_nonneg i (by omega)]; exact q)
theorem DM:yM X (binaryOp .LShift) (rI X8 fun i j=>.int (i*2 ^ j.toNat)):=gK fun _ _ _ _ _ _ _ hc q=>lshift_int_small hc.1 hc.2.1 hc.2.2 q
theorem HK {f:Value->Sem Value} {g:Int->Int}
  (rule:∀ (i:Int) (t:Tok) (s:Shared) (Q:Value->Shared->Prop) (E:Value->Shared->Prop),Q (.int (g i) s.toks) { s with toks:=s.toks+1 }->wpAny (model X.prog X.w) X.A (f (.int i t)) Q E s) :
  ZI X f (rU fun i=>.int (g i)):=by
 intro pins s σ H x v Q I rx h
 obtain ⟨i,rfl,q⟩:=h
 obtain ⟨t,rfl⟩:=rx
 exact rule i t s _ _ ⟨.int (g i),H,I.tok _,⟨_,rfl⟩,q⟩
theorem jU:ZI X (unaryOp .USub) (rU fun i=>.int (-i)):=HK fun _ _ _ _ _ q=>neg_int q
theorem Bw:yM X (binaryOp .Add) (fun x y H Q=>∃ i k,x=.int i/\y=.bl k/\Q (.int (i+b2i k)) H):=by
 intro pins s σ H x y v u Q I rx ry h
 obtain ⟨i,k,rfl,rfl,q⟩:=h
 obtain ⟨t,rfl⟩:=rx
 cases ry
 exact add_int_bool ⟨.int (i+b2i k),H,I.tok _,⟨_,rfl⟩,q⟩
end
noncomputable def VE:V->V->Bool
 | .non,.non=>true | .non,.int _=>true | .int _,.non=>true | .non,.bl _=>true | .bl _,.non=>true | .non,.str _=>true | .str _,.non=>true
 | .int _,.int _=>true | .bl _,.bl _=>true | .str _,.str _=>true | .byt _,.byt _=>true
 | .int _,.str _=>true | .str _,.int _=>true | .bl _,.str _=>true | .str _,.bl _=>true
 | _,_=>false
noncomputable def C9:R2:=fun x y H Q=>VE x y=true/\Q (.bl (decide (x=y))) H
noncomputable def CH:R2:=fun x y H Q=>VE x y=true/\Q (.bl (!decide (x=y))) H
theorem Xe {i j:Int}:decide (V.int i=V.int j)=(i == j):=by
 rw [Bool.eq_iff_iff]
 simp
theorem Xd {i j:Bool}:decide (V.bl i=V.bl j)=(i == j):=by
 rw [Bool.eq_iff_iff]
 simp
theorem Xf {i j:Str}:decide (V.str i=V.str j)=(i == j):=by
 rw [Bool.eq_iff_iff]
 simp
theorem Ue {i j:Array UInt8}:decide (V.byt i=V.byt j)=(i.toList == j.toList):=by
 rw [Bool.eq_iff_iff]
 cases i
 cases j
 simp
section
variable {X:Cx} {a b c:Expr} {ta tb tc:TE} {pos:Pos}
theorem xA {pins:List (Addr×Obj)} {σ:St} {H:Hp} {s:Shared} {Q:VK} {k k':Bool} (I:Inv X pins σ H s) (q:Q (.bl k) H) (e:k=k'):EP X pins σ Q (.bool k') s:=by
 subst e
 exact ⟨.bl k,H,I,rfl,q⟩
theorem B_:yM X (compareOp .Eq) C9:=by
 intro pins s σ H x y v u Q I rx ry h
 obtain ⟨hs,q⟩:=h
 cases x with
 | non=>
  cases rx
  cases y with
  | non=>cases ry; exact PySem.EqNone.eq_none_none (xA I q (by simp))
  | bl j=>cases ry; exact PySem.EqNone.eq_none_bool (xA I q (by simp))
  | int j=>obtain ⟨t',rfl⟩:=ry; exact PySem.EqNone.eq_none_int (xA I q (by simp))
  | str j=>obtain ⟨t',rfl⟩:=ry; exact PySem.EqNone.eq_none_str (xA I q (by simp))
  | _=>exact absurd (show false=true from hs) Bool.false_ne_true
 | bl i=>
  cases rx
  cases y with
  | non=>cases ry; exact PySem.EqNone.eq_bool_none (xA I q (by simp))
  | bl j=>cases ry; exact eq_bool (xA I q Xd)
  | str j=>obtain ⟨t',rfl⟩:=ry; exact PySem.EqMixed.eq_bool_str (xA I q (by simp))
  | _=>exact absurd (show false=true from hs) Bool.false_ne_true
 | int i=>
  obtain ⟨t,rfl⟩:=rx
  cases y with
  | non=>cases ry; exact PySem.EqNone.eq_int_none (xA I q (by simp))
  | int j=>obtain ⟨t',rfl⟩:=ry; exact eq_int (xA I q Xe)
  | str j=>obtain ⟨t',rfl⟩:=ry; exact PySem.EqMixed.eq_int_str (xA I q (by simp))
  | _=>exact absurd (show false=true from hs) Bool.false_ne_true
 | str i=>
  obtain ⟨t,rfl⟩:=rx
  cases y with
  | non=>cases ry; exact PySem.EqNone.eq_str_none (xA I q (by simp))
  | bl j=>cases ry; exact PySem.EqMixed.eq_str_bool (xA I q (by simp))
  | int j=>obtain ⟨t',rfl⟩:=ry; exact PySem.EqMixed.eq_str_int (xA I q (by simp))
  | str j=>obtain ⟨t',rfl⟩:=ry; exact eq_str (xA I q Xf)
  | _=>exact absurd (show false=true from hs) Bool.false_ne_true
 | byt i=>
  obtain ⟨t,rfl⟩:=rx
  cases y with
  | byt j=>obtain ⟨t',rfl⟩:=ry; exact PySem.W.eq_bytes (xA I q Ue)
  | _=>exact absurd (show false=true from hs) Bool.false_ne_true
 | _=>cases y<;>exact absurd (show false=true from hs) Bool.false_ne_true
theorem DH:yM X (compareOp .NotEq) CH:=by
 intro pins s σ H x y v u Q I rx ry h
 obtain ⟨hs,q⟩:=h
 cases x with
 | non=>
  cases rx
  cases y with
  | non=>cases ry; exact PySem.EqNone.ne_none_none (xA I q (by simp))
  | bl j=>cases ry; exact PySem.EqNone.ne_none_bool (xA I q (by simp))
  | int j=>obtain ⟨t',rfl⟩:=ry; exact PySem.EqNone.ne_none_int (xA I q (by simp))
  | str j=>obtain ⟨t',rfl⟩:=ry; exact PySem.EqNone.ne_none_str (xA I q (by simp))
  | _=>exact absurd (show false=true from hs) Bool.false_ne_true
 | bl i=>
  cases rx
  cases y with
  | non=>cases ry; exact PySem.EqNone.ne_bool_none (xA I q (by simp))
  | bl j=>cases ry; exact ne_bool (xA I q (congrArg not Xd))
  | str j=>obtain ⟨t',rfl⟩:=ry; exact PySem.EqMixed.ne_bool_str (xA I q (by simp))
  | _=>exact absurd (show false=true from hs) Bool.false_ne_true
 | int i=>
  obtain ⟨t,rfl⟩:=rx
  cases y with
  | non=>cases ry; exact PySem.EqNone.ne_int_none (xA I q (by simp))
  | int j=>obtain ⟨t',rfl⟩:=ry; exact ne_int (xA I q (congrArg not Xe))
  | str j=>obtain ⟨t',rfl⟩:=ry; exact PySem.EqMixed.ne_int_str (xA I q (by simp))
  | _=>exact absurd (show false=true from hs) Bool.false_ne_true
 | str i=>
  obtain ⟨t,rfl⟩:=rx
  cases y with
  | non=>cases ry; exact PySem.EqNone.ne_str_none (xA I q (by simp))
  | bl j=>cases ry; exact PySem.EqMixed.ne_str_bool (xA I q (by simp))
  | int j=>obtain ⟨t',rfl⟩:=ry; exact PySem.EqMixed.ne_str_int (xA I q (by simp))
  | str j=>obtain ⟨t',rfl⟩:=ry; exact ne_str (xA I q (congrArg not Xf))
  | _=>exact absurd (show false=true from hs) Bool.false_ne_true
 | byt i=>
  obtain ⟨t,rfl⟩:=rx
  cases y with
  | byt j=>obtain ⟨t',rfl⟩:=ry; exact PySem.W.ne_bytes (xA I q (congrArg not Ue))
  | _=>exact absurd (show false=true from hs) Bool.false_ne_true
 | _=>cases y<;>exact absurd (show false=true from hs) Bool.false_ne_true
theorem YQ:yM X (compareOp .Lt) (ua fun i j=>.bl (decide (i<j))):=Wg fun _ _ _ _ _ _ _ q=>lt_int q
theorem DF:yM X (compareOp .LtE) (ua fun i j=>.bl (decide (i<=j))):=Wg fun _ _ _ _ _ _ _ q=>le_int q
theorem Wh:yM X (compareOp .Gt) (ua fun i j=>.bl (decide (j<i))):=Wg fun _ _ _ _ _ _ _ q=>gt_int q
theorem DE:yM X (compareOp .In) (fun x y H Q=>∃ i j,x=.str i/\y=.str j/\Q (.bl (!(Builtin.Str.occurrences j i 0 j.length 1).isEmpty)) H):=by
 intro pins s σ H x y v u Q I rx ry h
 obtain ⟨i,j,rfl,rfl,q⟩:=h
 obtain ⟨t,rfl⟩:=rx
 obtain ⟨t',rfl⟩:=ry
 exact in_str (xA I q rfl)
theorem QO:yM X (compareOp .Is) (fun x y H Q=>y=.non/\Q (.bl (decide (x=.non))) H):=by
 intro pins s σ H x y v u Q I rx ry h
 obtain ⟨rfl,q⟩:=h
 cases ry
 refine is_none_gen (xA I q ?_)
 cases x<;>first
  | (cases rx; rfl)
  | (obtain ⟨t,rfl⟩:=rx; rfl)
theorem YR:yM X (compareOp .IsNot) (fun x y H Q=>y=.non/\Q (.bl (!decide (x=.non))) H):=by
 intro pins s σ H x y v u Q I rx ry h
 obtain ⟨rfl,q⟩:=h
 cases ry
 refine isnot_none_gen (xA I q ?_)
 cases x<;>first
  | (cases rx; rfl)
  | (obtain ⟨t,rfl⟩:=rx; rfl)
theorem yM.or {f:Value->Value->Sem Value} {r r':R2} (h:yM X f r) (h':yM X f r'):yM X f (fun x y H Q=>r x y H Q\/r' x y H Q):=by
 intro pins s σ H x y v u Q I rx ry q
 rcases q with q | q
 ·exact h pins s σ H x y v u Q I rx ry q
 ·exact h' pins s σ H x y v u Q I rx ry q
theorem zm (b:Expr) {op:CmpOp} (h:op≠.In:=by decide) (h2:op≠.NotIn:=by decide):behindInMarks op b=false:=by
 have e1:(op == CmpOp.In)=false:=by cases op<;>first | rfl | exact absurd rfl h
 have e2:(op == CmpOp.NotIn)=false:=by cases op<;>first | rfl | exact absurd rfl h2
 cases b<;>simp [behindInMarks,e1,e2]
theorem De {op:CmpOp} {r:R2} (ho:yM X (compareOp op) r) (ha:PE X a ta) (hb:PE X b tb) (hm:behindInMarks op b=false):PE X (.Compare a [op] [b] pos) (kz r ta tb):=by
 intro pins s σ H Q I h
 exact wpAny_Compare1 (XU ha hb I h fun v u s2 x y H2 I2 rx ry q=>ho pins s2 σ H2 x y v u Q I2 rx ry q) hm
noncomputable def Gq (t:TE):TT:=fun σ H Q=>t σ H fun x H'=>∃ k,x=.bl k/\Q k H'
theorem Qm {op:CmpOp} {r:R2} (ho:yM X (compareOp op) r) (ha:PE X a ta) (hb:PE X b tb) (hm:behindInMarks op b=false):PT X (.Compare a [op] [b] pos) (Gq (kz r ta tb)):=by
 intro pins s σ H Q I h
 refine wpAny_isTrue_Compare1 (zj (ha pins s σ H _ I h) fun v s1 ⟨x,H1,I1,r1,q1⟩=>zj (hb pins s1 σ H1 _ I1 q1) fun u s2 ⟨y,H2,I2,r2,q2⟩=>
  zj (ho pins s2 σ H2 x y v u _ I2 r1 r2 q2) fun c s3 ⟨z,H3,I3,r3,k,e,q3⟩=>?_) hm
 subst e
 cases r3
 exact wpAny_truthy_bool ⟨H3,I3,q3⟩
theorem j8:(sizeLine:Nat)<2 ^ 63:=by rw [sizeLine_eq]; decide
theorem Bx:yM X (binaryOp .Add) (fun x y H Q=>∃ i j,x=.str i/\y=.str j/\i.length+j.length<=sizeLine/\Q (.str (i++j)) H):=by
 intro pins s σ H x y v u Q I rx ry h
 obtain ⟨i,j,rfl,rfl,hz,q⟩:=h
 obtain ⟨t,rfl⟩:=rx
 obtain ⟨t',rfl⟩:=ry
 exact add_str (fun t' tk=>⟨.str (i++j),H,I.tok _,⟨_,rfl⟩,q⟩) hz
theorem wN {x:V} {us:List Value} (r:zf [x] us):∃ u,us=[u]/\zi x u:=by
 cases r with
 | cons r1 r2=>cases r2; exact ⟨_,rfl,r1⟩
theorem jV {x y:V} {us:List Value} (r:zf [x,y] us):∃ u w',us=[u,w']/\zi x u/\zi y w':=by
 cases r with
 | cons r1 r2=>
  cases r2 with
  | cons r3 r4=>cases r4; exact ⟨_,_,rfl,r1,r3⟩
theorem OJ:xV X (.type "str") (fun xs H Q=>∃ i,xs=[.int i]/\i.natAbs.log2<1920/\Q (.str (toString i)) H):=by
 intro pins s σ H xs us Q I r h
 obtain ⟨i,rfl,hz,q⟩:=h
 obtain ⟨u,rfl,t,rfl⟩:=wN r
 exact PySem.P.str_of_int hz ⟨.str _,H,I.tok _,⟨_,rfl⟩,q⟩
end
end L2
namespace L2
open PySem PySem.Spec PyProof.Rows
structure XG (h:Heap) (x dx C:Addr) (mA:Str->Option Value):Prop where
 obj:h.get? x=some (PySem.W.instObj C dx)
 ns:h.Ns1 dx mA
 ne:dx≠x
theorem Mc {h:Heap} {dx:Addr} {mA:Str->Option Value} (n:h.Ns1 dx mA):∃ od,h.get? dx=some od/\∀ name,PySem.W.lookIn name od=some (mA name):=by
 obtain ⟨o,es,ep,ho,hd,hk,_,hm⟩:=n
 refine ⟨o,ho,fun name=>?_⟩
 have e:=hm name
 unfold nsFind findBy at e
 rw [<- Array.find?_toList] at e
 unfold PySem.W.lookIn
 rw [hd]
 dsimp only
 split
 ·rename_i y q
  rw [q] at e
  exact congrArg some e
 ·rename_i q
  rw [q] at e
  have a:es.toList.any (·.refKey)=false:=by
   rw [List.any_eq_false]
   intro y hy
   obtain ⟨z,t,hkey⟩:=hk y (Array.mem_toList_iff.mp hy)
   simp [DictEntry.refKey,hkey]
  have a':¬ es.toList.any (·.refKey)=true:=by rw [a]; exact Bool.false_ne_true
  rw [if_neg a']
  exact congrArg some e
theorem XG.look {h:Heap} {x dx C:Addr} {mA:Str->Option Value} (I:XG h x dx C mA):∃ od,PySem.W.InstAt h x (PySem.W.instObj C dx) C (some od)/\∀ name,PySem.W.lookIn name od=some (mA name):=
 let ⟨od,ho,hl⟩:=Mc I.ns
 ⟨od,⟨I.obj,rfl,rfl,ho⟩,hl⟩
section
variable {prog:Program} {w:World} {A:Around} {E:Value->Shared->Prop} {s:Shared} {K:PySem.W.Frag} {x dx C f:Addr} {mA:Str->Option Value} {name:Str} {v:Value}
end
theorem v_.some_of {v:V} {o:Option Value} (r:v_ (some v) o):∃ u,o=some u/\zi v u:=by
 cases o with
 | none=>exact (show False from r).elim
 | some u=>exact ⟨u,rfl,r⟩
section
variable {P:Program} {w:World} {H H':Hp} {h h':Heap} {a C dx:Addr} {fs fs':List (Str×V)}
theorem Lh (hok:y_ P w H h) (e:H a=some (.ins C dx fs)):∃ mA,XG h a dx C mA/\(∀ f,v_ (fs.lookup f) (mA f))/\PySem.Within mA (fs.map (·.1))/\fs.length<=1000/\H dx=some (.own a):=by
 obtain ⟨d,z,ne,ob,mA,n,r,q⟩:=(show yo P w H h a (.ins C dx fs) from hok a _ e)
 exact ⟨mA,⟨ob,n,ne⟩,r,q,z,d⟩
end
structure X9 (K:PySem.W.Frag) (C:Addr):Prop where
 pg:PySem.W.plainGet K C Str.empty=true
 hd:PySem.W.hasDictIn K C=true
 po:PySem.W.plainOver K C=true
 sa:PySem.W.findIn K (.ref C) "__setattr__" = some (some (.builtin "object.__setattr__"))
theorem X9.get {K:PySem.W.Frag} {C:Addr} (c:X9 K C) (f:Str):PySem.W.plainGet K C f=true:=c.pg
section
variable {X:Cx} {pins:List (Addr×Obj)} {σ:St} {H:Hp} {s:Shared} {a C dx:Addr} {fs:List (Str×V)} {f:Str} {v:V} {A:Around} {E:Value->Shared->Prop}
end
section
variable {X:Cx} {o e value:Expr} {f:Str} {pos pos' tpos:Pos} {ta tv:TE}
end
section
variable {X:Cx} {pins:List (Addr×Obj)} {σ:St} {H:Hp} {s:Shared} {A:Around} {E:Value->Shared->Prop} {Q:Value->Shared->Prop} {c:Value} {b:Bool}
inductive vb (K:PySem.W.Frag) (H:Hp):V->Value->Prop where
 | non:vb K H .non (.type "NoneType")
 | bl (x:Bool):vb K H (.bl x) (.type "bool")
 | int (i:Int):vb K H (.int i) (.type "int")
 | str (x:Str):vb K H (.str x) (.type "str")
 | flt (x:UInt64):vb K H (.flt x) (.type "float")
 | lst {a:Addr} {xs:List V} (e:H a=some (.lst xs)):vb K H (.ref a) (.type "list")
 | frz {a:Addr} {o:Obj} {xs:List V} (e:H a=some (.frz o (.lst xs))):vb K H (.ref a) (.type "list")
 | tup {a:Addr} {xs:List V} (e:H a=some (.tup xs)):vb K H (.ref a) (.type "tuple")
 | dK {a:Addr} {kvs:List (Key×V)} (e:H a=some (.dK kvs)):vb K H (.ref a) (.type "dict")
 | dT {a:Addr} {kvs:List (List Key×V)} (e:H a=some (.dT kvs)):vb K H (.ref a) (.type "dict")
 | ins {a C dx:Addr} {fs:List (Str×V)} (e:H a=some (.ins C dx fs)) (cl:X9 K C) (ha:PySem.W.findIn K (.ref C) "__class__" = some (some (.builtin "object.__class__")))
   (hn:PySem.W.specialIn K (.builtin "object.__class__") "__get__" = some (some (.builtin "getset_descriptor.__get__"))) (htk:PySem.W.takesIn K (.builtin "object.__class__")=some true)
   (hm:PySem.W.mroIn K C (.type "object")=some true):vb K H (.ref a) (.ref C)
theorem Y5 {x:V} {u t:Value} (I:Inv X pins σ H s) (rx:zi x u) (ty:vb X.K H x t) (e:PySem.W.kitOne X.K t c=some b) (h:∀ tk,Q (.bool b) { s with toks:=tk }) :
  wpAny (model X.prog X.w) A (call (.builtin "isinstance") [u,c]) Q E s:=by
 cases ty with
 | non=>cases (show u=Value.none from rx); exact PySem.W.kia_one PySem.W.kitx_none I.kIn True.intro e (fun z=>nomatch z) h
 | bl y=>cases (show u=Value.bool y from rx); exact PySem.W.kia_one PySem.W.kitx_bool I.kIn True.intro e (fun z=>nomatch z) h
 | int i=>obtain ⟨t,q⟩:=(show ∃ t,u=Value.int i t from rx); cases q; exact PySem.W.kia_one PySem.W.kitx_int I.kIn True.intro e (fun z=>nomatch z) h
 | str y=>obtain ⟨t,q⟩:=(show ∃ t,u=Value.str y t from rx); cases q; exact PySem.W.kia_one PySem.W.kitx_str I.kIn True.intro e (fun z=>nomatch z) h
 | flt y=>obtain ⟨t,q⟩:=(show ∃ t,u=Value.float y t from rx); cases q; exact PySem.W.kia_one PySem.W.kitx_float I.kIn True.intro e (fun z=>nomatch z) h
 | @lst a xs ea=>
  cases (show u=Value.ref a from rx)
  obtain ⟨_,_,n,_,h1⟩:=(show yo X.prog X.w H s.heap a (.lst xs) from I.hok a _ ea)
  exact PySem.W.kia_one PySem.W.kitx_list I.kIn ⟨_,h1,rfl⟩ e (fun z=>nomatch z) h
 | @frz a ob xs ea=>
  cases (show u=Value.ref a from rx)
  obtain ⟨_,_,_,n,_,h1⟩:=(show yo X.prog X.w H s.heap a (.frz ob (.lst xs)) from I.hok a _ ea)
  exact PySem.W.kia_one PySem.W.kitx_list I.kIn ⟨_,h1,rfl⟩ e (fun z=>nomatch z) h
 | @tup a xs ea=>
  cases (show u=Value.ref a from rx)
  obtain ⟨_,_,_,p⟩:=(show yo X.prog X.w H s.heap a (.tup xs) from I.hok a _ ea)
  obtain ⟨o,h1,h2,_⟩:=p
  exact PySem.W.kia_one PySem.W.kitx_tuple I.kIn ⟨o,h1,h2⟩ e (fun z=>nomatch z) h
 | @dK a kvs ea=>
  cases (show u=Value.ref a from rx)
  obtain ⟨_,_,vs,_,p⟩:=(show yo X.prog X.w H s.heap a (.dK kvs) from I.hok a _ ea)
  obtain ⟨o,es,ep,h1,h2,_⟩:=p
  exact PySem.W.kia_one PySem.W.kitx_dict I.kIn ⟨o,h1,h2.1⟩ e (fun z=>nomatch z) h
 | @dT a kvs ea=>
  cases (show u=Value.ref a from rx)
  obtain ⟨_,_,xs,_,o,es,ep,h1,h2,_⟩:=(show yo X.prog X.w H s.heap a (.dT kvs) from I.hok a _ ea)
  exact PySem.W.kia_one PySem.W.kitx_dict I.kIn ⟨o,h1,h2.1⟩ e (fun z=>nomatch z) h
 | @ins a C dx fs ea cl ha hn htk hm=>
  cases (show u=Value.ref a from rx)
  obtain ⟨mA,O,_⟩:=Lh I.hok ea
  obtain ⟨od,J,_⟩:=O.look
  exact PySem.W.kia_one (PySem.W.kitx_own (cl.get _) cl.hd ha hn htk hm) I.kIn J e (fun z=>nomatch z) h
end
end L2
namespace L2
open PySem PySem.Spec PyProof.Rows
structure xW (k:Nat) (A:Around):Prop where
 hd:A.handled=none
 dp:A.depth+3*k+5<recursionLimit
 un:A.units+16*k+200<cLine
 gd:A.guards=some []
theorem xW.mono {j k:Nat} {A:Around} (r:xW k A) (h:j<=k):xW j A:=⟨r.hd,by have:=r.dp; omega,by have:=r.un; omega,r.gd⟩
theorem xW.deeper {k:Nat} {A:Around} (r:xW (k+1) A) (env:Env):xW k (A.deeper env):=
 ⟨r.hd,by have:=r.dp; show A.depth+1+3*k+5<_; omega,by have:=r.un; show A.units+3+16*k+200<_; omega,by first | exact r.gd | simp [Around.under,Code.guards,pushGuards,r.gd]⟩
theorem xW.depth {k:Nat} {A:Around} (r:xW k A):A.depth<recursionLimit:=by have:=r.dp; omega
theorem xW.units {k:Nat} {A:Around} (r:xW k A):A.units+64<cLine:=by have:=r.un; omega
noncomputable def VX:TA:=fun _ H Q=>Q [] H
noncomputable def VW (ta:TE) (tr:TA):TA:=fun σ H Q=>ta σ H fun x H1=>tr σ H1 fun xs H2=>Q (x::xs) H2
section
variable {X:Cx} {e:Expr} {es:List Expr} {te:TE} {t:TA} {pos:Pos}
theorem YT:PA X [] VX:=fun _ _ _ _ H Q I h=>Calls.spliced_nil ⟨[],H,I,.nil,h⟩
theorem DS (ha:PE X e te) (hr:PA X es t) (hs:starEach (e::es) X.env=(false,eval e X.env)::starEach es X.env:=by rfl):PA X (e::es) (VW te t):=by
 intro pos pins s σ H Q I h
 rw [hs]
 show wpAny _ _ (spliced ((false,eval e X.env)::backTo pos (starEach es X.env))) _ _ s
 refine Calls.spliced_cons (zj (ha pins s σ H _ I h) fun u s1 ⟨x,H1,I1,r1,q1⟩=>?_)
 exact zj (hr pos pins s1 σ H1 _ I1 q1) fun us s2 ⟨xs,H2,I2,r2,q2⟩=>⟨x::xs,H2,I2,.cons r1 r2,q2⟩
noncomputable def Jw (t:TA):TE:=fun σ H Q=>t σ H fun xs H1=>xs.length<=sizeLine/\∀ p,H1 p=none->Q (.ref p) (zX H1 p (.tup xs))
noncomputable def Gc (t:TA):TE:=fun σ H Q=>t σ H fun xs H1=>xs.length<=sizeLine/\∀ p,H1 p=none->Q (.ref p) (zX H1 p (.lst xs))
theorem QY {x1} (h:PA X es t):PE X (.Tuple es x1 pos) (Jw t):=by
 intro pins s σ H Q I hq
 refine wpAny_Tuple_spliced (zj (h pos pins s σ H _ I hq) fun us s1 ⟨xs,H1,I1,r,z,q⟩=>⟨by rw [<- r.length]; exact z,?_⟩)
 have hf:H1 s1.heap.objs.size=none:=I1.hok.fresh (Nat.le_refl _)
 refine ⟨.ref s1.heap.objs.size,zX H1 s1.heap.objs.size (.tup xs),I1.laid (t':=s1.toks) (fun b u e=>Heap.get?_push_of_some _ e) (Nat.le_refl _) ?_,rfl,q _ hf⟩
 exact ⟨z,us,r,⟨_,Heap.get?_push_size _ rfl,rfl,_,rfl⟩⟩
theorem Dk (h:PA X es t):PE X (.List es pos) (Gc t):=by
 intro pins s σ H Q I hq
 refine wpAny_List_spliced (zj (h pos pins s σ H _ I hq) fun us s1 ⟨xs,H1,I1,r,z,q⟩=>⟨by rw [<- r.length]; exact z,?_⟩)
 have hf:H1 s1.heap.objs.size=none:=I1.hok.fresh (Nat.le_refl _)
 refine ⟨.ref s1.heap.objs.size,zX H1 s1.heap.objs.size (.lst xs),I1.laid (t':=s1.toks) (fun b u e=>Heap.get?_push_of_some _ e) (Nat.le_refl _) ?_,rfl,q _ hf⟩
 exact ⟨z,us,0,r,Heap.get?_push_size _ rfl⟩
end
noncomputable abbrev Sp:=List V->Hp->VK->XK->Prop
noncomputable abbrev uE:=List Env->Hp->Shared->XK->Value->Shared->Prop
structure Z7 (P:Program) (w:World) (K:PySem.W.Frag) (mg:Str->Option Value) (base:Heap) (A:Around) (outer:List Env) (s:Shared) (H:Hp):Prop where
 frames:A.frames=some outer
 mod:Mod K mg base
 bs:∀ b o,base.get? b=some o->s.heap.get? b=some o/\H b=none
 bsz:base.objs.size<=s.heap.objs.size
 funs:s.heap.FunFrames base outer
 frf:∀ b∈vQ outer,H b=none
 hok:y_ P w H s.heap
 bare:AllBare s.gens
noncomputable def CE (outer:List Env) (P:Program) (w:World) (H:Hp) (s:Shared) (Q:VK) (u:Value) (s':Shared):Prop:=
 ∃ v H',s'.os=s.os/\AllBare s'.gens/\Un (vQ outer) [] H H' s.heap s'.heap/\y_ P w H' s'.heap/\zi v u/\Q v H'
noncomputable def CR (CX:uE) (outer:List Env) (P:Program) (w:World) (H:Hp) (s:Shared) (Q:VK) (E:XK) (r:Result) (s':Shared):Prop:=
 match r with
 | .ok (.ret u)=>CE outer P w H s Q u s'
 | .ok _=>False
 | .error e=>CX outer H s E e s'
structure vZ (P:Program) (w:World) (K:PySem.W.Frag) (mg:Str->Option Value) (base:Heap) (CX:uE) (k:Nat) (f:Addr) (fd:FuncData) (ps:List Str) (sp:Sp):Prop where
 len:∀ vs H Q E,sp vs H Q E->vs.length=ps.length
 run:∀ (A:Around) (outer:List Env) (s:Shared) (H:Hp) (args:Args) (us:List Value) (vs:List V) (Q:VK) (E:XK),xW k A->Z7 P w K mg base A outer s H->BindsTo s fd args (ps.zip us)->zf vs us->sp vs H Q E->
  codeAny (model P w) A (.call (.ref f) args) (CR CX outer P w H s Q E) s
section
variable {X:Cx} {pins:List (Addr×Obj)} {σ:St} {H:Hp} {s s':Shared}
theorem Inv.env0 (I:Inv X pins σ H s):Z7 X.prog X.w X.K X.mg X.base X.A X.stack s H:=
 ⟨I.ok.frames,I.ok.mod,I.bs,Nat.le_trans I.ok.bsz I.sz,I.stack,I.stkFree,I.hok,I.bare⟩
theorem Inv.after {Q:VK} {u:Value} (I:Inv X pins σ H s) (h:CE X.stack X.prog X.w H s Q u s'):EP X pins σ Q u s':=by
 obtain ⟨v,H',os,bare,un,hok,r,q⟩:=h
 obtain ⟨hh,g,d,t,os'⟩:=s'
 obtain rfl:os'=s.os:=os
 exact ⟨v,H',I.call (h':=hh) (g':=g) (d':=d) (t':=t) (ch:=[]) un hok bare (fun b z=>absurd z (by simp)),r,q⟩
end
noncomputable def VU (sp:Sp) (dvs:List V) (E:XK) (t:TA):TE:=fun σ H Q=>t σ H fun vs H1=>sp (vs++dvs) H1 Q E
noncomputable def tM (K:PySem.W.Frag) (fd:FuncData) (ps:List Str) (ds:List Value):Prop:=
 ∀ (s:Shared) (us:List Value),K.In s.heap->(us++ds).length=ps.length->BindsTo s fd ⟨us,[]⟩ (ps.zip (us++ds))
theorem tM.all {K:PySem.W.Frag} {fd:FuncData} {ps:List Str} (h:∀ us:List Value,us.length=ps.length->bindArgs fd ⟨us,[]⟩=pure (ps.zip us)):tM K fd ps []:=fun s us _ hl=>by
 rw [List.append_nil] at hl ⊢
 exact .of_eq (h us hl)
noncomputable def ZD (CX:uE) (X:Cx) (E:XK):Prop:=∀ (pins:List (Addr×Obj)) (σ:St) (H:Hp) (s:Shared) (e:Value) (s':Shared),Inv X pins σ H s->CX X.stack H s E e s'->X.xe e s'
section
variable {X:Cx} {CX:uE} {k:Nat} {f C:Addr} {fd:FuncData} {ps:List Str} {sp:Sp} {dvs:List V} {ds:List Value} {E:XK} {x m:Str} {p pos apos:Pos} {e o:Expr} {es:List Expr} {ta:TE} {t:TA}
theorem JG {pins:List (Addr×Obj)} {σ:St} {H:Hp} {s:Shared} {Q:VK} {us:List Value} {vs:List V} (F:vZ X.prog X.w X.K X.mg X.base CX k f fd ps sp) (hr:xW k X.A) (hb:tM X.K fd ps ds) (hd:zf dvs ds) (hx:ZD CX X E)
  (I:Inv X pins σ H s) (r:zf vs us) (h:sp (vs++dvs) H Q E):wpAny (model X.prog X.w) X.A (call (.ref f) us) (EP X pins σ Q) X.xe s:=by
 have r2:zf (vs++dvs) (us++ds):=r.append hd
 have hl:(us++ds).length=ps.length:=by rw [<- r2.length]; exact F.len _ _ _ _ h
 refine wpAny_call (codeAny_mono (F.run X.A X.stack s H ⟨us,[]⟩ (us++ds) (vs++dvs) Q E hr I.env0 (hb s us I.kIn hl) r2 h) fun r s' hq=>?_)
 cases r with
 | error e=>exact hx pins σ H s e s' I hq
 | ok fl=>
  cases fl with
  | ret u=>exact I.after hq
  | next=>exact False.elim hq
  | brk=>exact False.elim hq
  | cont=>exact False.elim hq
theorem Da (F:vZ X.prog X.w X.K X.mg X.base CX k f fd ps sp) (hr:xW k X.A) (hg:Gl X x) (hm:X.mg x=some (.ref f)) (hk:PySem.W.keepIn X.K (.ref f)=true) (hb:tM X.K fd ps ds) (hd:zf dvs ds) (hx:ZD CX X E)
  (ha:PA X (e::es) t) (hdb:(x == ("__debug__" : Str))=false:=by decide) (he:starEach (e::es) X.env=(false,eval e X.env)::starEach es X.env:=by rfl) (hpl:(backTo pos (starEach es X.env)).any (·.1)=false:=by rfl) :
  PE X (.Call (.Name x p) (e::es) [] pos) (VU sp dvs E t):=by
 intro pins s σ H Q I h
 refine wpAny_Call_Name_kw (WP I hg hm ?_ hdb)
 refine PySem.W.callWith_K (h₀:=X.base) I.ok.mod.kin hk (zj (ha pos pins s σ H _ I h) fun us s1 ⟨vs,H1,I1,r,q⟩=>⟨I1.kIn,?_⟩) he hpl
 exact JG F hr hb hd hx I1 r q
theorem Db (F:vZ X.prog X.w X.K X.mg X.base CX k f fd ps sp) (hr:xW k X.A) (hg:Gl X x) (hm:X.mg x=some (.ref f)) (hk:PySem.W.keepIn X.K (.ref f)=true) (hb:tM X.K fd ps ds) (hd:zf dvs ds) (hx:ZD CX X E)
  (hdb:(x == ("__debug__" : Str))=false:=by decide):PE X (.Call (.Name x p) [] [] pos) (VU sp dvs E VX):=by
 intro pins s σ H Q I h
 refine wpAny_Call_Name_kw (WP I hg hm ?_ hdb)
 exact PySem.W.callWith_K0 I.kIn hk (JG (us:=[]) F hr hb hd hx I .nil h)
end
section
variable {X:Cx} {CX:uE} {k:Nat} {f C:Addr} {fd:FuncData} {ps ks:List Str} {sp:Sp} {E:XK} {x m:Str} {p pos apos kpos:Pos} {e o:Expr} {es:List Expr} {kws:List Keyword} {te ta:TE} {t tk:TA} {nm:Option Str}
variable {g:List Value->List Value->List Value} {gV:List V->List V->List V}
end
structure yL (N P:List Str) (sc:Scope):Prop where
 kind:sc.kind=.function
 co:sc.isCoroutine=false
 gen:sc.isGenerator=false
 nd:N.Nodup
 pre:N.take P.length=P
 par:∀ x∈P,sc.names.lookup x=some .local\/sc.names.lookup x=some .cell
 nofree:∀ y∈sc.names,y.2≠.free
theorem UH {kindOf:Str->Option NameKind} {x:Str}:∀ {binds:List (Str×Value)} {m:Str->Option Value},(∀ v,(x,v) ∉ binds)->bindL kindOf binds m x=m x
 | [],_,_=>rfl
 | (n,v)::r,m,h=>by
  unfold bindL
  rw [UH fun w hw=>h w (List.mem_cons_of_mem _ hw)]
  split
  ·have:x≠n:=by rintro rfl; exact h v List.mem_cons_self
   simp [this]
  ·rfl
theorem UF {kindOf:Str->Option NameKind} {x:Str}:∀ {binds:List (Str×Value)} {m:Str->Option Value},(∀ v,(x,v) ∉ binds)->bindC kindOf binds m x=m x
 | [],_,_=>rfl
 | (n,v)::r,m,h=>by
  unfold bindC
  rw [UF fun w hw=>h w (List.mem_cons_of_mem _ hw)]
  split
  ·rfl
  ·have:x≠n:=by rintro rfl; exact h v List.mem_cons_self
   simp [this]
theorem UG {kindOf:Str->Option NameKind} {x:Str} {v:Value}:∀ {P:List Str} {vs:List Value} {i:Nat} {m:Str->Option Value},P.Nodup->P[i]?=some x->vs[i]?=some v->kindOf x=some .local->
  bindL kindOf (P.zip vs) m x=some v
 | [],_,_,_,_,h,_,_=>by simp at h
 | _::_,[],_,_,_,_,h,_=>by simp at h
 | p::P,w::vs,0,m,nd,h1,h2,hk=>by
  simp at h1 h2; subst h1; subst h2
  show bindL kindOf ((p,w)::P.zip vs) m p=_
  unfold bindL
  rw [UH fun v hv=>(List.nodup_cons.mp nd).1 (List.of_mem_zip hv).1,if_pos hk]
  simp
 | p::P,w::vs,i+1,m,nd,h1,h2,hk=>by
  show bindL kindOf ((p,w)::P.zip vs) m x=_
  unfold bindL
  exact UG (i:=i) (List.nodup_cons.mp nd).2 (by simpa using h1) (by simpa using h2) hk
theorem UE {kindOf:Str->Option NameKind} {x:Str} {v:Value}:∀ {P:List Str} {vs:List Value} {i:Nat} {m:Str->Option Value},P.Nodup->P[i]?=some x->vs[i]?=some v->kindOf x≠some .local->
  bindC kindOf (P.zip vs) m x=some v
 | [],_,_,_,_,h,_,_=>by simp at h
 | _::_,[],_,_,_,_,h,_=>by simp at h
 | p::P,w::vs,0,m,nd,h1,h2,hk=>by
  simp at h1 h2; subst h1; subst h2
  show bindC kindOf ((p,w)::P.zip vs) m p=_
  unfold bindC
  rw [UF fun v hv=>(List.nodup_cons.mp nd).1 (List.of_mem_zip hv).1,if_neg hk]
  simp
 | p::P,w::vs,i+1,m,nd,h1,h2,hk=>by
  show bindC kindOf ((p,w)::P.zip vs) m x=_
  unfold bindC
  exact UE (i:=i) (List.nodup_cons.mp nd).2 (by simpa using h1) (by simpa using h2) hk
noncomputable def start (N:List Str) (vs:List V):St:=vs.map some++List.replicate (N.length - vs.length) none
noncomputable def uy (CX:uE) (P:Program) (w:World) (K:PySem.W.Frag) (mg:Str->Option Value) (base:Heap) (N:List Str) (qual:Str) (scope:Scope) (f:Addr) (cd:Value) (A:Around) (outer:List Env) (s:Shared) (H:Hp) (E:XK):Cx where
 prog:=P
 w:=w
 K:=K
 mg:=mg
 base:=base
 A:=A.deeper (envOfC qual scope s.heap.objs.size f cd)
 N:=N
 s₀:=s
 H₀:=H
 env:=envOfC qual scope s.heap.objs.size f cd
 outer:=outer
 stack:=envOfC qual scope s.heap.objs.size f cd::outer
 ex:=[]
 calm:=true
 fn:=fun _=>true
 pn:=[]
 xe:=fun e s'=>wpAny (model P w) (A.deeper (envOfC qual scope s.heap.objs.size f cd)) (leaving (envOfC qual scope s.heap.objs.size f cd) e) (fun _ s''=>CX outer H s E e s'') (fun e' s''=>CX outer H s E e' s'') s'
theorem UV {sc:Scope} {n:Nat} {x:Str} (h:sc.names.lookup x=some .cell):∃ c,(cellsFrom n sc.names []).lookup x=some c:=by
 have q:=PySem.W.cellsFrom_some sc.names n [] (.inl h)
 exact Option.isSome_iff_exists.mp q
theorem Ln {CX:uE} {P:Program} {w:World} {K:PySem.W.Frag} {mg:Str->Option Value} {base:Heap} {N ps:List Str} {qual:Str} {scope:Scope} {f:Addr} {cd:Value} {A:Around} {outer:List Env} {s s1:Shared} {H:Hp} {E:XK} {us:List Value} {vs:List V}
  (S:yL N ps scope) (hd:A.handled=none) (e0:Z7 P w K mg base A outer s H) (hl:vs.length=ps.length) (r:zf vs us)
  (x:InCallC s s.heap.objs.size (bindL (envOfC qual scope s.heap.objs.size f cd).kindOf (ps.zip us) fun _=>none) (cellsFrom (s.heap.objs.size+1) scope.names []) (bindC (envOfC qual scope s.heap.objs.size f cd).kindOf (ps.zip us) fun _=>none) s1) :
  Inv (uy CX P w K mg base N qual scope f cd A outer s H E) [] (start N vs) H s1:=by
 have hpl:ps.length<=N.length:=by have:=congrArg List.length S.pre; rw [List.length_take] at this; omega
 obtain ⟨h1,tk,rfl,hk⟩:=x.done
 have noA:∀ b:Addr,b ∉ (uy CX P w K mg base N qual scope f cd A outer s H E).ex:=fun b z=>absurd (show b∈([]:List Addr) from z) (by simp)
 refine ⟨⟨e0.mod,S.kind,rfl,rfl,Nat.le_refl _,fun y z c h1 h2=>?_,fun y hy=>?_,fun y c _ h=>?_,fun _=>hd,Around.frames_deeper e0.frames,.inr ⟨rfl,rfl⟩,fun b z=>absurd z (noA b),e0.bs,e0.bsz,fun b _ _=>noA b,fun b z=>absurd z (noA b),e0.funs,e0.frf⟩,
  rfl,e0.bare,Un.kept hk,⟨_,x.toInCall.ns,fun i y v h1 h2 h3=>?_⟩,fun y c h=>⟨_,x.cell y c h⟩,e0.hok.fresh (Nat.le_refl _),fun y c h=>?_,fun p hp=>absurd (show p∈([]:List (Addr×Obj)) from hp) (by simp),e0.hok.kept hk,?_⟩
 ·exact name_of_addr x.apart (PySem.mem_of_lookup h1) (PySem.mem_of_lookup h2)
 ·have hy:scope.names.lookup y=some .cell\/scope.names.lookup y=some .free:=hy
  rcases hy with hy | hy
  ·exact UV hy
  ·exact absurd rfl (S.nofree _ (PySem.mem_of_lookup hy))
 ·exact Nat.le_of_lt (x.above y c (PySem.mem_of_lookup h))
 ·have hi:i<vs.length:=by
   unfold start at h2
   by_cases hi:i<vs.length
   ·exact hi
   ·rw [List.getElem?_append_right (by simpa using hi)] at h2
    rw [List.getElem?_replicate] at h2
    split at h2<;>cases h2
  have ha:vs[i]?=some v:=by
   unfold start at h2
   rw [List.getElem?_append_left (by simpa using hi),List.getElem?_map] at h2
   cases e:vs[i]? with
   | none=>rw [e] at h2; cases h2
   | some a=>rw [e] at h2; cases h2; rfl
  obtain ⟨u,hu,rv⟩:=r.get ha
  have hp:ps[i]?=some y:=by
   rw [<- S.pre,List.getElem?_take_of_lt (by omega)]; exact h1
  have ndP:ps.Nodup:=by rw [<- S.pre]; exact S.nd.sublist (List.take_sublist _ _)
  refine ⟨u,rv,?_⟩
  rcases S.par y (List.mem_of_getElem? hp) with k | k
  ·exact .inl ⟨k,UG ndP hp hu k⟩
  ·obtain ⟨c,e⟩:=UV (n:=s.heap.objs.size+1) k
   refine .inr ⟨.inl k,c,e,?_⟩
   have q:=x.cell y c e
   rw [UE ndP hp hu (by show scope.names.lookup y≠_; rw [k]; decide)] at q
   exact q
 ·exact e0.hok.fresh (Nat.le_of_lt (x.above y c (PySem.mem_of_lookup h)))
 ·unfold start
  show _=N.length
  rw [List.length_append,List.length_map,List.length_replicate]
  omega
theorem Oy {CX:uE} {P:Program} {w:World} {K:PySem.W.Frag} {mg:Str->Option Value} {base:Heap} {k:Nat} {f:Addr} {name qual:Str} {params:Arguments} {body:List Stmt} {scope:Scope} {dV kV doc pm cdv ct oc:Value} {an od:Option Addr}
  {osl:Array (Option Value)} {N ps:List Str} {sp:Sp} (lk:K.lookup f=some ⟨oc,od,.func (PySem.W.fnOf name qual params body scope dV kV doc pm an cdv ct),osl⟩) (hcd:PySem.W.codeIn K cdv qual=true) (S:yL N ps scope)
  (len:∀ vs H Q E,sp vs H Q E->vs.length=ps.length)
  (hbody:∀ (A:Around) (outer:List Env) (s:Shared) (H:Hp) (vs:List V) (Q:VK) (E:XK),xW k (A.deeper (envOfC qual scope s.heap.objs.size f cdv))->sp vs H Q E->
   ∃ t,wW (uy CX P w K mg base N qual scope f cdv A outer s H E) body t/\t { nx:=fun _ H'=>Q .non H',rt:=Q } (start N vs) H) :
  vZ P w K mg base CX (k+1) f (PySem.W.fnOf name qual params body scope dV kV doc pm an cdv ct) ps sp:=by
 refine ⟨len,fun A outer s H args us vs Q E hr e0 hb r hsp=>?_⟩
 have hl:=len _ _ _ _ hsp
 have KX:K.In s.heap:=e0.mod.kin.keeps fun b o e=>(e0.bs b o e).1
 have lim:s.heap.NoLimit:=e0.mod.nolimit.keeps fun b o e=>(e0.bs b o e).1
 have hkind:∀ y∈ps.zip us,scope.names.lookup y.1=some .local\/(scope.names.lookup y.1=some .cell/\((cellsFrom (s.heap.objs.size+1) scope.names []).lookup y.1).isSome=true):=fun ⟨n,v⟩ hy=>by
  rcases S.par n (List.of_mem_zip hy).1 with q | q
  ·exact .inl q
  ·exact .inr ⟨q,PySem.W.cellsFrom_some _ _ _ (.inl q)⟩
 refine codeAny_call_function hr.depth (KX _ _ lk) rfl S.co S.gen rfl (PySem.W.codeRec_of KX hcd) (hb _ _ _ _ ?_)
 refine wpAny_newFunctionEnv_cells S.kind hkind fun env he s1 x=>?_
 subst he
 refine ⟨lim.keeps x.toInCall.keep,codeAny_func ?_⟩
 obtain ⟨t,ht,hq⟩:=hbody A outer s H vs Q E (hr.deeper _) hsp
 have I:Inv (uy CX P w K mg base N qual scope f cdv A outer s H E) [] (start N vs) H s1:=Ln S hr.hd e0 hl r x
 refine wpAny_mono (ht [] s1 (start N vs) H _ I hq) (fun fl s' hs=>?_) fun e s' hs=>hs
 have fin:∀ {σ':St} {H':Hp} {v:V} {u:Value},Inv (uy CX P w K mg base N qual scope f cdv A outer s H E) [] σ' H' s'->zi v u->Q v H'->CE outer P w H s Q u s':=
  fun {σ' H' v u} J rv q=>⟨v,H',J.os,J.bare,J.base,J.hok,rv,q⟩
 cases fl with
 | ret u=>
  obtain ⟨v,σ',H',J,rv,q⟩:=hs
  exact fin J rv q
 | next=>
  obtain ⟨σ',H',J,q⟩:=hs
  exact fin (v:=V.non) (u:=Value.none) J rfl q
 | brk=>
  obtain ⟨_,_,_,q⟩:=hs
  exact False.elim q
 | cont=>
  obtain ⟨_,_,_,q⟩:=hs
  exact False.elim q
end L2
namespace L2
open PySem PySem.Spec PyProof.Rows
section
variable {X:Cx} {x:Str} {p pos:Pos} {e:Expr} {es:List Expr} {t:TA} {id T:String} {r:List V->Hp->VK->Prop}
noncomputable def Yr (r:List V->Hp->VK->Prop) (t:TA):TE:=fun σ H Q=>t σ H fun vs H1=>r vs H1 Q
theorem Dc (hc:xV X (.builtin id) r) (hg:Gl X x) (hm:X.mg x=none) (hv:bootBuiltins x=some (.builtin id)) (ha:PA X (e::es) t) (hn:x ≠ "__name__" := by decide) (hdb:(x == ("__debug__" : Str))=false:=by decide)
  (he:starEach (e::es) X.env=(false,eval e X.env)::starEach es X.env:=by rfl) (hpl:(backTo pos (starEach es X.env)).any (·.1)=false:=by rfl):PE X (.Call (.Name x p) (e::es) [] pos) (Yr r t):=by
 intro pins s σ H Q I h
 refine wpAny_Call_Name_kw (j6 I hg hm hv ?_ hn hdb)
 exact PyProof.Rows.callWith_builtin1 (zj (ha pos pins s σ H _ I h) fun us s1 ⟨vs,H1,I1,r1,q1⟩=>hc pins s1 σ H1 vs us Q I1 r1 q1) he hpl
theorem Dd (hc:xV X (.type T) r) (hg:Gl X x) (hm:X.mg x=none) (hv:bootBuiltins x=some (.type T)) (ha:PA X (e::es) t) (hn:x ≠ "__name__" := by decide) (hdb:(x == ("__debug__" : Str))=false:=by decide)
  (he:starEach (e::es) X.env=(false,eval e X.env)::starEach es X.env:=by rfl) (hpl:(backTo pos (starEach es X.env)).any (·.1)=false:=by rfl):PE X (.Call (.Name x p) (e::es) [] pos) (Yr r t):=by
 intro pins s σ H Q I h
 refine wpAny_Call_Name_kw (j6 I hg hm hv ?_ hn hdb)
 exact PyProof.Rows.callWith_type1 (zj (ha pos pins s σ H _ I h) fun us s1 ⟨vs,H1,I1,r1,q1⟩=>hc pins s1 σ H1 vs us Q I1 r1 q1) he hpl
end
end L2
namespace HT
open PySem PyProof.Rows
section
open PySem.SeqAt
open PySem.AutoSeq1 (wpAny_loadPart')
open PySem.MeetsSeq PySem.MeetsSeq2 PySem.MeetsSeq3
end
section
variable {prog:Program} {w:World} {A:Around} {E:Value->Shared->Prop} {s:Shared}
theorem cat_tup {t b:Addr} {vs ws:List Value} {Q:Value->Shared->Prop} (ht:IsTup s.heap t vs.toArray) (hb:IsTup s.heap b ws.toArray) (hv:vs≠[])
  (h1:ws=[]->Q (.ref t) s) (h2:ws≠[]->Q (.ref s.heap.objs.size) { s with heap:=s.heap.push { cls:=.type "tuple",data:=.seq (vs++ws).toArray } })
  (hsz:vs.length+ws.length<=sizeLine):wpAny (model prog w) A (binaryOp .Add (.ref t) (.ref b)) Q E s:=by
 obtain ⟨⟨cls,dd,data,sl⟩,ho,hc,n,hd⟩:=id ht
 obtain ⟨⟨cls2,dd2,data2,sl2⟩,ho2,hc2,n2,hd2⟩:=id hb
 simp only at hc hd hc2 hd2
 subst hc hd hc2 hd2
 have e:vs.toArray++ws.toArray=(vs++ws).toArray:=by simp
 by_cases hw:ws=[]
 ·exact concat_meets ⟨_,ho,rfl⟩ ⟨_,ho2,rfl⟩ noFill_tuple_add seq_tuple_add PySem.F.slot_tuple_add PySem.F.entry_tuple_add (PySem.F.args_tuple_add_2 _ _)
   (tuple_addW1 t b vs.toArray ws.toArray n n2 dd dd2 sl sl2 (by simpa using hv) (by simp [hw])) ⟨ho,ho2,h1 hw⟩
 ·refine concat_meets ⟨_,ho,rfl⟩ ⟨_,ho2,rfl⟩ noFill_tuple_add seq_tuple_add PySem.F.slot_tuple_add PySem.F.entry_tuple_add (PySem.F.args_tuple_add_2 _ _)
   (tuple_addW2 t b vs.toArray ws.toArray n n2 dd dd2 sl sl2 (by simpa using hv) (by simpa using hw) (by rw [List.size_toArray,List.size_toArray]; exact hsz)) ⟨ho,ho2,?_⟩
  rw [e]
  exact h2 hw
noncomputable def sIx (n d:Nat):Option Int->Nat
 | none=>d
 | some v=>if v<0 then (v+(n:Int)).toNat else min v.toNat n
theorem sIx_nat (n d k:Nat):sIx n d (some (k:Int))=min k n:=by
 show (if (k:Int)<0 then ((k:Int)+(n:Int)).toNat else min (k:Int).toNat n)=min k n
 rw [if_neg (by omega),Int.toNat_natCast]
theorem sIx_le (n d:Nat) (hd:d<=n) (o:Option Int):sIx n d o<=n:=by
 cases o with
 | none=>exact hd
 | some v=>
  show (if v<0 then (v+(n:Int)).toNat else min v.toNat n)<=n
  by_cases hv:v<0
  ·rw [if_pos hv]; omega
  ·rw [if_neg hv]; exact Nat.min_le_right _ _
theorem UX (v:Int) (n d:Nat):(if v<0 then max (v+(n:Int)) 0 else min v (n:Int))=((sIx n d (some v):Nat):Int):=by
 show (if v<0 then max (v+(n:Int)) 0 else min v (n:Int))=(((if v<0 then (v+(n:Int)).toNat else min v.toNat n):Nat):Int)
 by_cases hv:v<0
 ·simp only [if_pos hv]; omega
 ·simp only [if_neg hv]; omega
theorem Il (lo hi:Option Int) (n:Nat):Builtin.Slice.sliceAdjust lo hi 1 (n:Int)=(((sIx n 0 lo:Nat):Int),((sIx n n hi:Nat):Int)):=by
 have h1:¬ ((1:Int)<0):=by omega
 unfold Builtin.Slice.sliceAdjust
 simp only [h1,if_false]
 refine Prod.ext ?_ ?_
 ·cases lo with
  | none=>rfl
  | some v=>exact UX v n 0
 ·cases hi with
  | none=>rfl
  | some v=>exact UX v n n
theorem FM (i j:Nat):Builtin.Slice.slicePlaces (i:Int) (j:Int) 1=j - i:=by
 unfold Builtin.Slice.slicePlaces
 have h1:(1:Int) > 0:=by omega
 simp only [h1,if_true,Int.ediv_one]
 split<;>omega
theorem Je {v:Value} {o:Option Int} {Q:Option Int->Shared->Prop} (p:IsPart v o) (h:Q o s):wpAny (model prog w) A (Builtin.Slice.slicePartIndex v) Q E s:=by
 cases p with
 | none=>exact slicePart_none h
 | int i t=>exact slicePart_int h
theorem GC {sl:Addr} {vl vu:Value} {lo hi:Option Int} {n:Nat} {Q:Int×Int×Nat->Shared->Prop} (hs:s.heap.IsSliceOf sl vl vu .none) (pl:IsPart vl lo) (pu:IsPart vu hi)
  (h:Q (((sIx n 0 lo:Nat):Int),1,sIx n n hi - sIx n 0 lo) s):wpAny (model prog w) A (Builtin.Slice.sliceApplied (.ref sl) (pure (n:Int))) Q E s:=by
 obtain ⟨os,hos,hcs,hds⟩:=id hs
 unfold Builtin.Slice.sliceApplied Builtin.Slice.sliceFields
 refine wpAny_bind (wpAny_bind (wpAny_field hos hds (x:=vl) rfl (wpAny_bind (wpAny_field hos hds (x:=vu) rfl (wpAny_bind (wpAny_field hos hds (x:=.none) rfl (wpAny_pure ?_)))))))
 refine wpAny_bind (slicePart_none ?_)
 show wpAny _ _ (if ((1:Int) == 0)=true then _ else _) _ _ s
 rw [if_neg (by decide)]
 refine wpAny_bind (Je pl (wpAny_bind (Je pu (wpAny_bind (wpAny_pure ?_)))))
 show wpAny _ _ (match Builtin.Slice.sliceAdjust lo hi 1 (n:Int) with | (lo,hi)=>pure (lo,(1:Int),Builtin.Slice.slicePlaces lo hi 1)) _ _ s
 rw [Il lo hi n]
 show wpAny _ _ (pure (((sIx n 0 lo:Nat):Int),(1:Int),Builtin.Slice.slicePlaces ((sIx n 0 lo:Nat):Int) ((sIx n n hi:Nat):Int) 1)) _ _ s
 rw [FM]
 exact wpAny_pure h
theorem FH (xs:Array Value) (i k:Nat):((List.range k).filterMap fun (m:Nat)=>xs[((i:Int)+(m:Int)*1).toNat]?).toArray=((xs.toList.drop i).take k).toArray:=by
 have e:(fun (m:Nat)=>xs[((i:Int)+(m:Int)*1).toNat]?)=fun m=>xs[i+m]?:=by
  funext m
  have:((i:Int)+(m:Int)*1).toNat=i+m:=by omega
  rw [this]
 rw [e]
 have:=pick_run xs i k
 rw [List.filterMap_map] at this
 have e2:((fun x=>xs[x]?) ∘ fun x=>i+x)=fun m=>xs[i+m]?:=rfl
 rw [e2] at this
 rw [this]
theorem getItem_tuple_cut {t sl:Addr} {items:Array Value} {vl vu:Value} {lo hi:Option Int} {Q:Value->Shared->Prop} (ht:IsTup s.heap t items) (hs:s.heap.IsSliceOf sl vl vu .none) (pl:IsPart vl lo) (pu:IsPart vu hi)
  (hw:¬ (sIx items.size 0 lo=0/\sIx items.size items.size hi=items.size))
  (h:Q (.ref s.heap.objs.size) { s with heap:=s.heap.push { cls:=.type "tuple",data:=.seq ((items.toList.drop (sIx items.size 0 lo)).take (sIx items.size items.size hi - sIx items.size 0 lo)).toArray } })
  (hsz:items.size<=sizeLine):wpAny (model prog w) A (getItem (.ref t) (.ref sl)) Q E s:=by
 have htake:sizeOk (.seq ((items.toList.drop (sIx items.size 0 lo)).take (sIx items.size items.size hi - sIx items.size 0 lo)).toArray):=by
  show ((items.toList.drop (sIx items.size 0 lo)).take (sIx items.size items.size hi - sIx items.size 0 lo)).toArray.size<=sizeLine
  rw [List.size_toArray,List.length_take,List.length_drop,Array.length_toList]
  omega
 have hj:sIx items.size items.size hi<=items.size:=sIx_le _ _ (Nat.le_refl _) hi
 obtain ⟨os,hos,hcs,hds⟩:=id hs
 have hTs:s.TypeIs (.ref sl) "slice" := ⟨os,hos,hcs⟩
 unfold getItem
 try with_reducible refine wpAny_holding ?_
 first | refine wpAny_bind (wpAny_pure ?_) | skip
 refine wpAny_bind (wpAny_sequenceKey ht.typeIs (by decide) ?_)
 refine wpAny_bind (wpAny_callSpecial?_slot (name:=Str.ofString "__getitem__") ht.typeIs PyProof.Rows.slot_tuple_getitem
  (wpAny_call_entry PyProof.Rows.slot_tuple_getitem ht.typeIs entry_tuple_getitem ?_ (args_tuple_getitem _ _)))
 show wpAny _ _ (Builtin.Tuple.tupleItemsOf (.ref t) >>= _) _ _ s
 refine wpAny_bind (tupleItemsOf_ ht ?_)
 refine wpAny_bind (wpAny_typeOf hTs ?_)
 rw [if_pos (by decide)]
 refine wpAny_bind (GC hs pl pu ?_)
 have hno:¬ ((((sIx items.size 0 lo:Nat):Int) == 0&&(1:Int) == 1&&(sIx items.size items.size hi - sIx items.size 0 lo) == items.size)=true):=by
  intro q
  rw [Bool.and_eq_true,Bool.and_eq_true] at q
  have q1:((sIx items.size 0 lo:Nat):Int)=0:=eq_of_beq q.1.1
  have q2:sIx items.size items.size hi - sIx items.size 0 lo=items.size:=eq_of_beq q.2
  exact hw ⟨by omega,by omega⟩
 show wpAny _ _ (if (((sIx items.size 0 lo:Nat):Int) == 0&&(1:Int) == 1&&(sIx items.size items.size hi - sIx items.size 0 lo) == items.size)=true then _ else _) _ _ s
 rw [if_neg hno,FH]
 first
  | exact wpAny_bind (m:=Builtin.Tuple.tupleExact _) (wpAny_newObj_type (wpAny_pure ⟨_,rfl,wpAny_pure h⟩) htake)
  | exact wpAny_bind (m:=Builtin.Tuple.tupleExact _) (wpAny_newObj_type (wpAny_bind (wpAny_pure (wpAny_pure ⟨_,rfl,wpAny_pure h⟩))) htake)
  | exact wpAny_bind (wpAny_bind (m:=Builtin.Tuple.tupleExact _) (wpAny_newObj_type (wpAny_pure (wpAny_pure ⟨_,rfl,wpAny_pure h⟩)) htake))
  | exact wpAny_bind (wpAny_bind (m:=Builtin.Tuple.tupleExact _) (wpAny_newObj_type (wpAny_pure ⟨_,rfl,wpAny_pure h⟩) htake))
end
end HT
namespace L2
open PySem PySem.Spec PyProof.Rows
noncomputable abbrev TO:=St->Hp->(Option Int->Hp->Prop)->Prop
noncomputable def PO (X:Cx) (e:Option Expr) (t:TO):Prop:=
 ∀ (pins:List (Addr×Obj)) (s:Shared) (σ:St) (H:Hp) (Q:Option Int->Hp->Prop),Inv X pins σ H s->t σ H Q->
  wpAny (model X.prog X.w) X.A (evalPart e X.env) (fun u s'=>∃ o H',Inv X pins σ H' s'/\IsPart u o/\Q o H') X.xe s
noncomputable def Gf:TO:=fun _ H Q=>Q none H
noncomputable def Gj (t:TE):TO:=fun σ H Q=>t σ H fun x H1=>∃ i,x=.int i/\Q (some i) H1
section
variable {X:Cx} {e:Expr} {te:TE} {lo hi:Option Expr} {tl th:TO} {pos p2:Pos}
theorem FU:PO X none Gf:=by
 intro pins s σ H Q I h
 rw [evalPart_none]
 exact wpAny_pure ⟨none,H,I,.none,h⟩
theorem FV (h:PE X e te):PO X (some e) (Gj te):=by
 intro pins s σ H Q I hw
 rw [evalPart_some]
 refine zj (h pins s σ H _ I hw) fun u s1 ⟨x,H1,I1,r1,q1⟩=>?_
 obtain ⟨i,rfl,q⟩:=q1
 obtain ⟨t,rfl⟩:=r1
 exact ⟨some i,H1,I1,.int i t,q⟩
noncomputable def uo (X:Cx) (r:V->Option Int->Option Int->Hp->VK->Prop):Prop:=
 ∀ (pins:List (Addr×Obj)) (s:Shared) (σ:St) (H:Hp) (x:V) (v vl vu:Value) (lo hi:Option Int) (sl:Addr) (Q:VK),Inv X pins σ H s->zi x v->s.heap.IsSliceOf sl vl vu .none->IsPart vl lo->IsPart vu hi->r x lo hi H Q->
  ∃ T id,typeLookup (.type T) "__getitem__" = pure (some (.builtin id))/\s.TypeIs v T/\wpAny (model X.prog X.w) X.A (getItem v (.ref sl)) (EP X pins σ Q) X.xe s
theorem uo.or {r r':V->Option Int->Option Int->Hp->VK->Prop} (h:uo X r) (h':uo X r'):uo X (fun x lo hi H Q=>r x lo hi H Q\/r' x lo hi H Q):=by
 intro pins s σ H x v vl vu lo hi sl Q I rx hs pl pu q
 rcases q with q | q
 ·exact h pins s σ H x v vl vu lo hi sl Q I rx hs pl pu q
 ·exact h' pins s σ H x v vl vu lo hi sl Q I rx hs pl pu q
noncomputable def Gp (r:V->Option Int->Option Int->Hp->VK->Prop) (te:TE) (tl th:TO):TE:=fun σ H Q=>te σ H fun x H1=>tl σ H1 fun l H2=>th σ H2 fun u H3=>r x l u H3 Q
theorem Dq {r:V->Option Int->Option Int->Hp->VK->Prop} (hr:uo X r) (he:PE X e te) (hl:PO X lo tl) (hu:PO X hi th):PE X (.Subscript e (.Slice lo hi none p2) pos) (Gp r te tl th):=by
 intro pins s σ H Q I h
 refine Subscript_ (zj (he pins s σ H _ I h) fun v s1 ⟨x,H1,I1,r1,q1⟩=>?_)
 refine wpAny_Slice (zj (hl pins s1 σ H1 _ I1 q1) fun vl s2 ⟨l,H2,I2,pl,q2⟩=>zj (hu pins s2 σ H2 _ I2 q2) fun vu s3 ⟨u,H3,I3,pu,q3⟩=>?_)
 rw [evalPart_none]
 refine wpAny_pure ?_
 have I4:Inv X pins σ H3 { s3 with heap:=s3.heap.push { cls:=.type "slice",data:=.fields #[vl,vu,.none] } }:=I3.kept (t':=s3.toks) fun b ob q=>Heap.get?_push_of_some _ q
 obtain ⟨T,id,hT,ht,hg⟩:=hr pins { s3 with heap:=s3.heap.push { cls:=.type "slice",data:=.fields #[vl,vu,.none] } } σ H3 x v vl vu l u s3.heap.objs.size Q I4 r1 (Heap.IsSliceOf.new ..) pl pu q3
 show wpAny (model X.prog X.w) X.A (subscriptTail e (.Slice lo hi none p2) v (.ref s3.heap.objs.size)) (EP X pins σ Q) X.xe { s3 with heap:=s3.heap.push { cls:=.type "slice",data:=.fields #[vl,vu,.none] } }
 exact tail_any (ops:=[.ref s3.heap.objs.size,v]) ht hT hg (by with_unfolding_all rfl)
noncomputable def tu (xs:List V) (lo hi:Option Int):List V:=(xs.drop (HT.sIx xs.length 0 lo)).take (HT.sIx xs.length xs.length hi - HT.sIx xs.length 0 lo)
theorem Ua (xs:List V) (lo hi:Option Int):(tu xs lo hi).length<=xs.length:=by
 unfold tu
 rw [List.length_take,List.length_drop]
 omega
noncomputable def J6 (K:PySem.W.Frag):V->Option Int->Option Int->Hp->VK->Prop:=fun x lo hi H Q=>∃ a xs,x=.ref a/\yR K H a xs/\
 ¬ (HT.sIx xs.length 0 lo=0/\HT.sIx xs.length xs.length hi=xs.length)/\∀ p,H p=none->Q (.ref p) (zX H p (.tup (tu xs lo hi)))
theorem GB:uo X (J6 X.K):=by
 intro pins s σ H x v vl vu lo hi sl Q I rx hs pl pu h
 obtain ⟨a,xs,rfl,hx,hw,q⟩:=h
 cases rx
 obtain ⟨its,r,ht,hz⟩:=I.tuple hx
 have hlen:its.toArray.size=xs.length:=by rw [List.size_toArray]; exact r.length.symm
 refine ⟨"tuple",_,PyProof.Rows.slot_tuple_getitem.lookup,ht.typeIs,?_⟩
 refine HT.getItem_tuple_cut ht hs pl pu (by rw [hlen]; exact hw) ?_ (by rw [hlen]; exact hz)
 rw [hlen]
 refine ⟨.ref s.heap.objs.size,_,I.laid (t':=s.toks) (o:=.tup (tu xs lo hi)) (fun b ob q=>Heap.get?_push_of_some _ q) (Nat.le_refl _) ?_,rfl,q _ (I.hok.fresh (Nat.le_refl _))⟩
 exact ⟨Nat.le_trans (Ua xs lo hi) hz,_,(r.drop (HT.sIx xs.length 0 lo)).take (HT.sIx xs.length xs.length hi - HT.sIx xs.length 0 lo),IsTup.new _ _⟩
noncomputable def Q_ (K:PySem.W.Frag):R2:=fun x y H Q=>∃ a b xs ys,x=.ref a/\y=.ref b/\yR K H a xs/\yR K H b ys/\xs≠[]/\xs.length+ys.length<=sizeLine/\
 (ys=[]->Q (.ref a) H)/\(ys≠[]->∀ p,H p=none->Q (.ref p) (zX H p (.tup (xs++ys))))
theorem zf.nil_iff {xs:List V} {us:List Value} (r:zf xs us):us=[]↔xs=[]:=by
 cases r with
 | nil=>simp
 | cons _ _=>simp
theorem Bz:yM X (binaryOp .Add) (Q_ X.K):=by
 intro pins s σ H x y v u Q I rx ry h
 obtain ⟨a,b,xs,ys,rfl,rfl,ha,hb,hx,hz,q1,q2⟩:=h
 cases rx
 cases ry
 obtain ⟨its,r1,p1,_⟩:=I.tuple ha
 obtain ⟨its2,r2,p2,_⟩:=I.tuple hb
 refine HT.cat_tup p1 p2 (fun z=>hx (r1.nil_iff.mp z)) (fun z=>⟨.ref a,H,I,rfl,q1 (r2.nil_iff.mp z)⟩) (fun z=>?_) (by rw [<- r1.length,<- r2.length]; exact hz)
 refine ⟨.ref s.heap.objs.size,_,I.laid (t':=s.toks) (o:=.tup (xs++ys)) (fun b ob q=>Heap.get?_push_of_some _ q) (Nat.le_refl _) ?_,rfl,q2 (fun w=>z (r2.nil_iff.mpr w)) _ (I.hok.fresh (Nat.le_refl _))⟩
 exact ⟨by rw [List.length_append]; exact hz,_,r1.append r2,IsTup.new _ _⟩
end
end L2
namespace L2
open PySem PySem.Spec PyProof.Rows
noncomputable def p_ (n:Nat) (i:Int):Option Nat:=if 0<=i then (if i<n then some i.toNat else none) else if -(n:Int)<=i then some (i+n).toNat else none
noncomputable def vd {α:Type} (xs:List α) (i:Int):Option α:=(p_ xs.length i).bind fun j=>xs[j]?
theorem Lv {n:Nat} {i:Int} {j:Nat} (h:p_ n i=some j):seqIndex? i n=some j/\j<n /\ -(n:Int)<=i/\i<n:=by
 unfold p_ at h
 by_cases h0:0<=i
 ·rw [if_pos h0] at h
  by_cases h1:i<n
  ·rw [if_pos h1] at h
   have e:i.toNat=j:=Option.some.inj h
   exact ⟨by rw [seqIndex_of h0 h1,e],by omega,by omega,h1⟩
  ·rw [if_neg h1] at h; cases h
 ·rw [if_neg h0] at h
  by_cases h1 : -(n:Int)<=i
  ·rw [if_pos h1] at h
   have e:(i+n).toNat=j:=Option.some.inj h
   exact ⟨by rw [seqIndex_neg (by omega) h1,e],by omega,h1,by omega⟩
  ·rw [if_neg h1] at h; cases h
theorem ZM {α:Type} {xs:List α} {i:Int} {v:α} (h:vd xs i=some v):∃ j,seqIndex? i xs.length=some j/\xs[j]?=some v/\j<xs.length /\ -(xs.length:Int)<=i/\i<xs.length:=by
 unfold vd at h
 cases e:p_ xs.length i with
 | none=>rw [e] at h; cases h
 | some j=>
  rw [e] at h
  obtain ⟨h1,h2,h3,h4⟩:=Lv e
  exact ⟨j,h1,h,h2,h3,h4⟩
noncomputable def ZE (b:Expr):Prop:=∀ o i,subscripted b false o i=operate [o,i] (getItem o i)
noncomputable def vN (X:Cx) (r:R2):Prop:=
 ∀ (value slice:Expr) (pins:List (Addr×Obj)) (s:Shared) (σ:St) (H:Hp) (x y:V) (v u:Value) (Q:VK),Inv X pins σ H s->zi x v->zi y u->r x y H Q->
  subscripted slice false v u=operate [v,u] (getItem v u)->wpAny (model X.prog X.w) X.A (subscriptTail value slice v u) (EP X pins σ Q) X.xe s
noncomputable def tW (X:Cx) (id:String) (r:V->List V->Hp->VK->Prop):Prop:=
 ∀ (pins:List (Addr×Obj)) (s:Shared) (σ:St) (H:Hp) (x:V) (xs:List V) (v:Value) (us:List Value) (Q:VK),Inv X pins σ H s->zi x v->zf xs us->r x xs H Q->
  wpAny (model X.prog X.w) X.A (call (.builtin id) (v::us)) (EP X pins σ Q) X.xe s
section
variable {X:Cx} {a b:Expr} {ta tb:TE} {pos:Pos}
theorem vN.or {r r':R2} (h:vN X r) (h':vN X r'):vN X (fun x y H Q=>r x y H Q\/r' x y H Q):=by
 intro value slice pins s σ H x y v u Q I rx ry q hs
 rcases q with q | q
 ·exact h value slice pins s σ H x y v u Q I rx ry q hs
 ·exact h' value slice pins s σ H x y v u Q I rx ry q hs
theorem QV {r:R2} (hr:vN X r) (ha:PE X a ta) (hb:PE X b tb) (hs:ZE b):PE X (.Subscript a b pos) (kz r ta tb):=by
 intro pins s σ H Q I h
 exact Subscript_ (XU ha hb I h fun v u s2 x y H2 I2 rx ry q=>hr a b pins s2 σ H2 x y v u Q I2 rx ry q (hs _ _))
noncomputable def J2 (K:PySem.W.Frag):R2:=fun x y H Q=>∃ p xs i v,x=.ref p/\y=.int i/\yE K H p xs/\vd xs i=some v/\Q v H
noncomputable def Yb (K:PySem.W.Frag):R2:=fun x y H Q=>∃ p xs i v,x=.ref p/\y=.int i/\yR K H p xs/\vd xs i=some v/\Q v H
noncomputable def J3:R2:=fun x y H Q=>∃ z i c,x=.str z/\y=.int i/\z.length<=sizeLine/\vd z.cps.toList i=some c/\Q (.str ⟨#[c]⟩) H
theorem Lx:vN X (J2 X.K):=by
 intro value slice pins s σ H x y v u Q I rx ry h hs
 obtain ⟨p,xs,i,z,rfl,rfl,hq,he,q⟩:=h
 cases rx
 obtain ⟨t,rfl⟩:=ry
 obtain ⟨its,r,pl,hz⟩:=I.list hq
 obtain ⟨j,h1,h2,h3,h4,h5⟩:=ZM he
 obtain ⟨w,ew,rw'⟩:=r.get h2
 have hl:=r.length
 have hn:=j8
 have fin:EP X pins σ Q w s:=⟨z,H,I,rw',q⟩
 by_cases h0:0<=i
 ·have hj:i.toNat=j:=by
   rw [seqIndex_of h0 h5] at h1
   exact Option.some.inj h1
  exact item_listR pl.isList h0 (by omega) (by rw [hj]; simpa using ew) fin hs
 ·have hj:(i+(its.toArray.size:Int)).toNat=j:=by
   rw [seqIndex_neg (by omega) h4] at h1
   rw [List.size_toArray,<- hl]
   exact Option.some.inj h1
  exact subscriptTail_builtinR (x:=w) pl.isList.typeIs slot_list_getitem.lookup
   (wpAny_getItem_list_neg (Q:=fun r s'=>r=w/\EP X pins σ Q r s') pl.isList (by omega) (by rw [List.size_toArray]<;>omega) (by omega) (by rw [hj]; simpa using ew) ⟨rfl,fin⟩) hs
theorem L_:vN X (Yb X.K):=by
 intro value slice pins s σ H x y v u Q I rx ry h hs
 obtain ⟨p,xs,i,z,rfl,rfl,hq,he,q⟩:=h
 cases rx
 obtain ⟨t,rfl⟩:=ry
 obtain ⟨its,r,pl,hz⟩:=I.tuple hq
 obtain ⟨j,h1,h2,h3,h4,h5⟩:=ZM he
 obtain ⟨w,ew,rw'⟩:=r.get h2
 have hl:=r.length
 have hn:=j8
 have fin:EP X pins σ Q w s:=⟨z,H,I,rw',q⟩
 exact subscriptTail_builtinR (x:=w) pl.typeIs slot_tuple_getitem.lookup
  (getItem_tuple (j:=j) (Q:=fun r s'=>r=w/\EP X pins σ Q r s') pl (by omega) (by omega) (by rw [List.size_toArray,<- hl]; exact h1) (by simpa using ew) ⟨rfl,fin⟩) hs
theorem Lz:vN X J3:=by
 intro value slice pins s σ H x y v u Q I rx ry h hs
 obtain ⟨z,i,c,rfl,rfl,hz,he,q⟩:=h
 obtain ⟨t,rfl⟩:=rx
 obtain ⟨t',rfl⟩:=ry
 obtain ⟨j,h1,h2,h3,h4,h5⟩:=ZM he
 have hl:z.cps.toList.length=z.length:=by simp [Str.length]
 rw [hl] at h1 h4 h5
 have hn:=j8
 exact tail_any (typeIs_str s z t) slot_str_getitem.lookup (getItem_str (c:=c) (by
  have e1:decide (i < -(2 ^ 63:Int))=false:=decide_eq_false (by omega)
  have e2:decide (i ≥ 2 ^ 63)=false:=decide_eq_false (by omega)
  rw [e1,e2,Bool.or_false]) (by rw [h1]; simpa using h2) ⟨.str ⟨#[c]⟩,H,I.tok _,⟨_,rfl⟩,q⟩) hs
noncomputable def W_ (K:PySem.W.Frag):R2:=fun x y H Q=>J2 K x y H Q\/Yb K x y H Q\/J3 x y H Q
theorem Ly:vN X (W_ X.K):=Lx.or (L_.or Lz)
theorem GE (lo hi:Option Int) (n:Nat):(sliceBounds lo hi none n).1=((HT.sIx n 0 lo:Nat):Int)/\(sliceBounds lo hi none n).2.1=((HT.sIx n n hi:Nat):Int)/\(sliceBounds lo hi none n).2.2=1:=by
 refine ⟨?_,?_,rfl⟩
 ·cases lo with
  | none=>simp [sliceBounds,HT.sIx]
  | some i=>
   simp only [sliceBounds,HT.sIx,Option.getD_none,show (1:Int) > 0 by decide,if_true]
   by_cases h:i<0
   ·simp only [h,if_true]<;>omega
   ·simp only [h,if_false]<;>omega
 ·cases hi with
  | none=>simp [sliceBounds,HT.sIx]
  | some i=>
   simp only [sliceBounds,HT.sIx,Option.getD_none,show (1:Int) > 0 by decide,if_true]
   by_cases h:i<0
   ·simp only [h,if_true]<;>omega
   ·simp only [h,if_false]<;>omega
theorem GD (its:List Value) (lo hi:Option Int):slicePick its.toArray lo hi none=((its.drop (HT.sIx its.length 0 lo)).take (HT.sIx its.length its.length hi - HT.sIx its.length 0 lo)).toArray:=by
 obtain ⟨h1,h2,h3⟩:=GE lo hi its.toArray.size
 unfold slicePick
 rw [h1,h2,h3]
 simp only [sliceRange_one,pick_run,List.size_toArray]<;>rfl
noncomputable def J4 (K:PySem.W.Frag):V->Option Int->Option Int->Hp->VK->Prop:=fun x lo hi H Q=>∃ a xs,x=.ref a/\yE K H a xs/\∀ p,H p=none->Q (.ref p) (zX H p (.lst (tu xs lo hi)))
theorem G9:uo X (J4 X.K):=by
 intro pins s σ H x v vl vu lo hi sl Q I rx hs pl pu h
 obtain ⟨a,xs,rfl,hx,q⟩:=h
 cases rx
 obtain ⟨its,r,ht,hz⟩:=I.list hx
 have hlen:=r.length
 refine ⟨"list",_,slot_list_getitem.lookup,ht.isList.typeIs,?_⟩
 refine wpAny_getItem_list_slice ht.isList hs pl pu .none (by simp) ?_ (by rw [List.size_toArray]<;>omega)
 rw [GD,<- hlen]
 refine ⟨.ref s.heap.objs.size,_,I.laid (t':=s.toks) (o:=.lst (tu xs lo hi)) (fun b ob q=>Heap.get?_push_of_some _ q) (Nat.le_refl _) ?_,rfl,q _ (I.hok.fresh (Nat.le_refl _))⟩
 exact ⟨Nat.le_trans (Ua xs lo hi) hz,_,0,(r.drop (HT.sIx xs.length 0 lo)).take (HT.sIx xs.length xs.length hi - HT.sIx xs.length 0 lo),Heap.get?_push_size _ rfl⟩
noncomputable def u5:V->Bool
 | .non=>true
 | .bl _=>true
 | .int _=>true
 | .str _=>true
 | _=>false
noncomputable def vg:V->V->Bool
 | .non,.non=>true
 | .bl a,.bl b=>a == b
 | .bl a,.int b=>(if a then 1 else 0) == b
 | .int a,.bl b=>a == (if b then 1 else 0)
 | .int a,.int b=>a == b
 | .str a,.str b=>a == b
 | _,_=>false
theorem Uv {A:Around} {s:Shared} {y x:V} {u v:Value} (ry:zi y u) (rx:zi x v) (fy:u5 y=true) (fx:u5 x=true):SeqAt.EqAt A s u v (vg y x):=by
 cases y with
 | non=>
  cases ry
  cases x with
  | non=>cases rx; exact SeqAt.EqAt.same _
  | bl b=>cases rx; exact SeqAt.EqAt.none_bool b
  | int b=>obtain ⟨t,rfl⟩:=rx; exact SeqAt.EqAt.none_int b t
  | str b=>obtain ⟨t,rfl⟩:=rx; exact SeqAt.EqAt.none_str b t
  | _=>exact absurd (show false=true from fx) Bool.false_ne_true
 | bl a=>
  cases ry
  cases x with
  | non=>cases rx; exact SeqAt.EqAt.bool_none a
  | bl b=>cases rx; exact SeqAt.EqAt.bool_bool a b
  | int b=>obtain ⟨t,rfl⟩:=rx; exact SeqAt.EqAt.bool_int a b t
  | str b=>obtain ⟨t,rfl⟩:=rx; exact SeqAt.EqAt.bool_str a b t
  | _=>exact absurd (show false=true from fx) Bool.false_ne_true
 | int a=>
  obtain ⟨t',rfl⟩:=ry
  cases x with
  | non=>cases rx; exact SeqAt.EqAt.int_none a t'
  | bl b=>cases rx; exact SeqAt.EqAt.int_bool a t' b
  | int b=>obtain ⟨t,rfl⟩:=rx; exact SeqAt.EqAt.int_int a t' b t
  | str b=>obtain ⟨t,rfl⟩:=rx; exact SeqAt.EqAt.int_str a t' b t
  | _=>exact absurd (show false=true from fx) Bool.false_ne_true
 | str a=>
  obtain ⟨t',rfl⟩:=ry
  cases x with
  | non=>cases rx; exact SeqAt.EqAt.str_none a t'
  | bl b=>cases rx; exact SeqAt.EqAt.str_bool a t' b
  | int b=>obtain ⟨t,rfl⟩:=rx; exact SeqAt.EqAt.str_int a t' b t
  | str b=>obtain ⟨t,rfl⟩:=rx; exact SeqAt.EqAt.str_str a t' b t
  | _=>exact absurd (show false=true from fx) Bool.false_ne_true
 | _=>exact absurd (show false=true from fy) Bool.false_ne_true
noncomputable def wq (x:V) (u:Value):Bool:=match u with
 | .none=>vg .non x
 | .bool b=>vg (.bl b) x
 | .int i _=>vg (.int i) x
 | .str z _=>vg (.str z) x
 | _=>false
theorem Uy {x y:V} {u:Value} (r:zi y u) (f:u5 y=true):wq x u=vg y x:=by
 cases y with
 | non=>cases r; rfl
 | bl b=>cases r; rfl
 | int i=>obtain ⟨t,rfl⟩:=r; rfl
 | str z=>obtain ⟨t,rfl⟩:=r; rfl
 | _=>exact absurd (show false=true from f) Bool.false_ne_true
theorem ji {x:V}:∀ {xs:List V} {us:List Value},zf xs us->xs.all u5=true->us.any (wq x)=xs.any fun y=>vg y x
 | _,_,.nil,_=>rfl
 | y::xs,u::us,.cons r t,f=>by
  rw [List.all_cons,Bool.and_eq_true] at f
  rw [List.any_cons,List.any_cons,Uy r f.1,ji t f.2]
theorem gG {A:Around} {s:Shared} {x:V} {v:Value} (rx:zi x v) (fx:u5 x=true):∀ {xs:List V} {us:List Value},zf xs us->xs.all u5=true->∀ u∈us,SeqAt.EqAt A s u v (wq x u)
 | _,_,.nil,_=>fun u hu=>by cases hu
 | y::xs,u::us,.cons r t,f=>fun u' hu=>by
  rw [List.all_cons,Bool.and_eq_true] at f
  rcases List.mem_cons.mp hu with rfl | hu
  ·rw [Uy r f.1]; exact Uv r rx f.1 fx
  ·exact gG rx fx t f.2 u' hu
noncomputable def Y4 (x:V) (xs:List V):Bool:=xs.any fun y=>vg y x
noncomputable def Wy (K:PySem.W.Frag) (neg:Bool):R2:=fun x y H Q=>∃ p xs,y=.ref p/\(yE K H p xs\/yR K H p xs)/\u5 x=true/\xs.all u5=true/\Q (.bl (if neg then !Y4 x xs else Y4 x xs)) H
theorem DD:yM X (compareOp .In) (Wy X.K false):=by
 intro pins s σ H x y v u Q I rx ry h
 obtain ⟨p,xs,rfl,hq,fx,fs,q⟩:=h
 cases ry
 rcases hq with hq | hq
 ·obtain ⟨its,r,pl,hz⟩:=I.list hq
  refine SeqAt.in_listAt (wq x) pl.isList (fun w hw=>gG rx fx r fs w (by simpa using hw)) ⟨.bl _,H,I,rfl,?_⟩
  rw [show its.toArray.any (wq x)=its.any (wq x) by simp,ji r fs]
  exact q
 ·obtain ⟨its,r,pl,hz⟩:=I.tuple hq
  refine SeqAt.in_tupleAt (wq x) pl (fun w hw=>gG rx fx r fs w (by simpa using hw)) ⟨.bl _,H,I,rfl,?_⟩
  rw [show its.toArray.any (wq x)=its.any (wq x) by simp,ji r fs]
  exact q
theorem DK:yM X (compareOp .NotIn) (Wy X.K true):=by
 intro pins s σ H x y v u Q I rx ry h
 obtain ⟨p,xs,rfl,hq,fx,fs,q⟩:=h
 cases ry
 rcases hq with hq | hq
 ·obtain ⟨its,r,pl,hz⟩:=I.list hq
  refine SeqAt.notIn_listAt (wq x) pl.isList (fun w hw=>gG rx fx r fs w (by simpa using hw)) ⟨.bl _,H,I,rfl,?_⟩
  rw [show its.toArray.any (wq x)=its.any (wq x) by simp,ji r fs]
  exact q
 ·obtain ⟨its,r,pl,hz⟩:=I.tuple hq
  refine SeqAt.notIn_tupleAt (wq x) pl (fun w hw=>gG rx fx r fs w (by simpa using hw)) ⟨.bl _,H,I,rfl,?_⟩
  rw [show its.toArray.any (wq x)=its.any (wq x) by simp,ji r fs]
  exact q
theorem DL:yM X (compareOp .NotIn) (fun x y H Q=>∃ i j,x=.str i/\y=.str j/\Q (.bl (!(!(Builtin.Str.occurrences j i 0 j.length 1).isEmpty))) H):=by
 intro pins s σ H x y v u Q I rx ry h
 obtain ⟨i,j,rfl,rfl,q⟩:=h
 obtain ⟨t,rfl⟩:=rx
 obtain ⟨t',rfl⟩:=ry
 exact notIn_str ⟨.bl _,H,I,rfl,q⟩
theorem O9:xV X (.builtin "len") (fun xs H Q=>∃ p ys,xs=[.ref p]/\(yE X.K H p ys\/yR X.K H p ys)/\Q (.int ys.length) H):=by
 intro pins s σ H xs us Q I r h
 obtain ⟨p,ys,rfl,hq,q⟩:=h
 obtain ⟨u,rfl,rx⟩:=wN r
 cases rx
 have hn:=j8
 rcases hq with hq | hq
 ·obtain ⟨its,r',pl,hz⟩:=I.list hq
  have hlen:=r'.length
  exact Calls.call_len_list pl.isList (by simp only [List.size_toArray]<;>omega) ⟨.int ys.length,H,I.tok _,⟨s.toks+1,by rw [List.size_toArray,hlen]⟩,q⟩
 ·obtain ⟨its,r',pl,hz⟩:=I.tuple hq
  have hlen:=r'.length
  exact len_tuple pl (by simp only [List.size_toArray]<;>omega) ⟨.int ys.length,H,I.tok _,⟨s.toks+1,by rw [List.size_toArray,hlen]⟩,q⟩
theorem OA:xV X (.builtin "len") (fun xs H Q=>∃ z,xs=[.str z]/\z.length<=sizeLine/\Q (.int z.length) H):=by
 intro pins s σ H xs us Q I r h
 obtain ⟨z,rfl,hz,q⟩:=h
 obtain ⟨u,rfl,t,rfl⟩:=wN r
 have hn:=j8
 exact len_str (by omega) ⟨.int z.length,H,I.tok _,⟨_,rfl⟩,q⟩
theorem xV.or {f:Value} {r r':List V->Hp->VK->Prop} (h:xV X f r) (h':xV X f r'):xV X f (fun xs H Q=>r xs H Q\/r' xs H Q):=by
 intro pins s σ H xs us Q I rs q
 rcases q with q | q
 ·exact h pins s σ H xs us Q I rs q
 ·exact h' pins s σ H xs us Q I rs q
theorem OB:xV X (.type "list") (fun xs H Q=>∃ p ys,xs=[.ref p]/\(yE X.K H p ys\/yR X.K H p ys)/\∀ l,H l=none->Q (.ref l) (zX H l (.lst ys))):=by
 intro pins s σ H xs us Q I r h
 obtain ⟨p,ys,rfl,hq,q⟩:=h
 obtain ⟨u,rfl,rx⟩:=wN r
 cases rx
 have fin:∀ (its:List Value),zf ys its->ys.length<=sizeLine->∀ (h':Heap) (c':Nat),(∀ b o',s.heap.get? b=some o'->h'.get? b=some o')->
   h'.get? s.heap.objs.size=some { cls:=.type "list",dict:=none,data:=.seq its.toArray c',slots:=#[] }->EP X pins σ Q (.ref s.heap.objs.size) { s with heap:=h' }:=fun its r' hz h' c' kp e=>
  ⟨.ref s.heap.objs.size,_,I.laid (t':=s.toks) kp (Nat.le_refl _) (show yo X.prog X.w _ h' _ (.lst ys) from ⟨hz,its,c',r',e⟩),rfl,q _ (I.hok.fresh (Nat.le_refl _))⟩
 rcases hq with hq | hq
 ·obtain ⟨its,r',pl,hz⟩:=I.list hq
  have hlen:=r'.length
  obtain ⟨o,ho,hc,n,hd⟩:=pl.isList
  exact call_list_seq p (.inl rfl) ho hc hd (fun h' c' kp e=>fin its r' hz h' c' kp e) (by simp only [List.size_toArray]<;>omega)
 ·obtain ⟨its,r',pl,hz⟩:=I.tuple hq
  have hlen:=r'.length
  obtain ⟨o,ho,hc,n,hd⟩:=pl
  exact call_list_seq p (.inr rfl) ho hc hd (fun h' c' kp e=>fin its r' hz h' c' kp e) (by simp only [List.size_toArray]<;>omega)
theorem US:xV X (.type "tuple") (fun xs H Q=>∃ p ys,xs=[.ref p]/\((yE X.K H p ys/\∀ l,H l=none->Q (.ref l) (zX H l (.tup ys)))\/(yR X.K H p ys/\Q (.ref p) H))):=by
 intro pins s σ H xs us Q I r h
 obtain ⟨p,ys,rfl,h⟩:=h
 obtain ⟨u,rfl,rx⟩:=wN r
 cases rx
 rcases h with ⟨hq,q⟩ | ⟨hq,q⟩
 ·obtain ⟨its,r',pl,hz⟩:=I.list hq
  have hlen:=r'.length
  refine call_tuple_list pl.isList (fun h' kp=>?_) (by simp only [List.size_toArray]<;>omega)
  have I1:Inv X pins σ H { s with heap:=h' }:=I.kept (t':=s.toks) kp
  have I2:Inv X pins σ (zX H h'.objs.size (.tup ys)) { s with heap:=h'.push { cls:=.type "tuple",data:=.seq its.toArray } }:=
   I1.laid (t':=s.toks) (fun b o e=>Heap.get?_push_of_some _ e) (Nat.le_refl _) (show yo X.prog X.w _ _ _ (.tup ys) from ⟨hz,its,r',IsTup.new _ _⟩)
  exact ⟨.ref h'.objs.size,_,I2,rfl,q _ (I1.hok.fresh (Nat.le_refl _))⟩
 ·obtain ⟨its,r',pl,hz⟩:=I.tuple hq
  exact call_tuple_same pl ⟨.ref p,H,I,rfl,q⟩
noncomputable def Jz (K:PySem.W.Frag) (T:String) (x:V) (H:Hp):Prop:=match x with
 | .str _=>T = "str"
 | .int _=>T = "int"
 | .ref p=>(T = "list" /\ ∃ xs,yE K H p xs)\/(T = "tuple" /\ ∃ o,K.lookup p=some o/\o.cls=.type "tuple" /\ o.dict=none) \/
   (T = "dict" /\ ((∃ kvs,H p=some (.dK kvs))\/∃ kvs,H p=some (.dT kvs)))\/(T = "set" /\ ∃ S n,H p=some (.set S n))
 | _=>False
theorem J_ {pins:List (Addr×Obj)} {σ:St} {H:Hp} {s:Shared} {T:String} {x:V} {v:Value} (I:Inv X pins σ H s) (r:zi x v) (ty:Jz X.K T x H) :
  s.TypeIs v T/\∀ a,v=.ref a->∃ ob,s.heap.get? a=some ob/\ob.dict=none:=by
 cases x with
 | str z=>
  obtain ⟨t,rfl⟩:=r
  cases (show T = "str" from ty)
  exact ⟨typeIs_str s z t,fun _ e=>nomatch e⟩
 | int i=>
  obtain ⟨t,rfl⟩:=r
  cases (show T = "int" from ty)
  exact ⟨typeIs_int s i t,fun _ e=>nomatch e⟩
 | ref p=>
  cases r
  rcases ty with ⟨rfl,xs,hq⟩ | ⟨rfl,o,hk,hc,hd⟩ | ⟨rfl,hk⟩ | ⟨rfl,S,n,hk⟩
  ·obtain ⟨its,_,pl,_⟩:=I.list hq
   refine ⟨pl.isList.typeIs,fun a e=>?_⟩
   cases e
   obtain ⟨o,n,e,c,hd,_⟩:=pl
   exact ⟨o,e,hd⟩
  ·refine ⟨⟨o,I.kIn p o hk,hc⟩,fun a e=>?_⟩
   cases e
   exact ⟨o,I.kIn _ o hk,hd⟩
  ·have z:∃ o,s.heap.get? p=some o/\o.ExactDict:=by
    rcases hk with ⟨kvs,hk⟩ | ⟨kvs,hk⟩
    ·obtain ⟨_,_,_,_,o,_,_,e,ex,_⟩:=I.hok p _ hk
     exact ⟨o,e,ex⟩
    ·obtain ⟨_,_,_,_,o,_,_,e,ex,_⟩:=I.hok p _ hk
     exact ⟨o,e,ex⟩
   obtain ⟨o,e,ex⟩:=z
   refine ⟨⟨o,e,ex.1⟩,fun a e2=>?_⟩
   cases e2
   exact ⟨o,e,ex.2.1⟩
  ·obtain ⟨o,_,_,_,e,ex,_⟩:=I.hok p _ hk
   refine ⟨⟨o,e,ex.1⟩,fun a e2=>?_⟩
   cases e2
   exact ⟨o,e,ex.2.1⟩
 | _=>exact False.elim ty
noncomputable def Ju (K:PySem.W.Frag) (T:String) (r:V->List V->Hp->VK->Prop) (to:TE) (t:TA):TE:=fun σ H Q=>to σ H fun x H1=>Jz K T x H1/\t σ H1 fun xs H2=>r x xs H2 Q
variable {o e:Expr} {es:List Expr} {to:TE} {t:TA} {name:Str} {apos cpos:Pos} {T id:String} {r:V->List V->Hp->VK->Prop}
theorem DY (pa:PlainAttrs T) (slot:Slot T name id) (hty:typeOf (.builtin id)=pure (.type "method_descriptor")) (hm:tW X id r) (ho:PE X o to) (ha:PA X (e::es) t)
  (hbase:attributeBase o name X.env (eval o X.env)=eval o X.env:=by rfl)
  (hfew:((backTo cpos (starEach (e::es) X.env)).all (fun x=>!x.1)&&(backToKw cpos (keywordEach [] X.env)).all (fun x=>x.1.isSome)
   && decide ((e::es).length+([]:List Keyword).length+(if ([]:List Keyword).isEmpty then 0 else 1)<30))=true:=by rfl)
  (hline:(apos.endLine == cpos.line)=true:=by rfl) (hs:starEach (e::es) X.env=(false,eval e X.env)::starEach es X.env:=by rfl) (hplain:(backTo cpos (starEach es X.env)).any (·.1)=false:=by rfl) :
  PE X (.Call (.Attribute o name apos) (e::es) [] cpos) (Ju X.K T r to t):=by
 intro pins s σ H Q I h
 refine wpAny_Call_method_late hbase hfew hline rfl (zj (ho pins s σ H _ I h) fun v s1 ⟨x,H1,I1,r1,ty,q1⟩=>?_)
 obtain ⟨h1,h2⟩:=J_ I1 r1 ty
 refine ⟨T,id,pa,slot,hty,h1,h2,?_⟩
 have hA:=ha cpos pins s1 σ H1 _ I1 q1
 rw [hs] at hA ⊢
 refine Calls.callWith_builtin (by show (false||(backTo cpos (starEach es X.env)).any (·.1))=false; rw [hplain]<;>rfl) (Calls.evalArgs_plain ?_)
 exact zj hA fun us s2 ⟨vs,H2,I2,r2,q2⟩=>hm pins s2 σ H2 x vs v us Q I2 r1 r2 q2
end
end L2
namespace L2
open PySem PySem.Spec PyProof.Rows
noncomputable def U0 (X:Cx) (id:String) (r:V->List V->Hp->VK->Prop):Prop:=
 ∀ (pins:List (Addr×Obj)) (s:Shared) (σ:St) (H:Hp) (x:V) (xs:List V) (v:Value) (us:List Value) (Q:VK),Inv X pins σ H s->zi x v->zf xs us->r x xs H Q->
  wpAny (model X.prog X.w) X.A (call (.builtin id) (v::us)) (EP X pins σ Q) X.xe s
theorem zf.one:∀ {x:V} {us:List Value},zf [x] us->∃ u,us=[u]/\zi x u
 | _,_,.cons r .nil=>⟨_,rfl,r⟩
section
variable {X:Cx} {pins:List (Addr×Obj)} {σ:St} {H:Hp} {s:Shared} {l b:Addr} {xs ys zs:List V}
theorem Inv.lset {its its':List Value} {n:Nat} {f:Array Value->Array Value} {t':Nat} (I:Inv X pins σ H s) (hH:H l=some (.lst xs))
  (e:s.heap.get? l=some { cls:=.type "list",data:=.seq its.toArray n }) (hf:f its.toArray=its'.toArray) (hv:zf ys its') (hz:ys.length<=sizeLine) :
  Inv X pins σ (zX H l (.lst ys)) { s with heap:=s.heap.update l (Obj.mapSeq f),toks:=t' }:=by
 have q:=PySem.IsL.update e f
 rw [hf] at q
 refine I.write (x:=l) (e:=l) (by rw [hH]; exact trivial) (.inl rfl) (fun b' u hb hu=>(Heap.get?_update_other s.heap (Obj.mapSeq f) (Ne.symm hb)).trans hu) ⟨_,q⟩ ?_
 exact ⟨hz,its',_,hv,q⟩
theorem Inv.lnew {its:List Value} {t':Nat} (I:Inv X pins σ H s) (hv:zf ys its) (hz:ys.length<=sizeLine) :
  Inv X pins σ (zX H s.heap.objs.size (.lst ys)) { s with heap:=s.heap.push { cls:=.type "list",data:=.seq its.toArray },toks:=t' }:=
 I.laid (fun _ _ q=>Heap.get?_push_of_some _ q) (Nat.le_refl _) ⟨hz,its,0,hv,Heap.get?_push_size _ rfl⟩
theorem Inv.fresh (I:Inv X pins σ H s):H s.heap.objs.size=none:=I.hok.fresh (Nat.le_refl _)
theorem Inv.lstM (I:Inv X pins σ H s) (hH:H l=some (.lst xs)):xs.length<=sizeLine/\∃ (its:List Value) (n:Nat),zf xs its/\xs.length=its.length/\s.heap.get? l=some { cls:=.type "list",data:=.seq its.toArray n }:=by
 obtain ⟨z,its,n,r,e⟩:=I.hok l _ hH
 exact ⟨z,its,n,r,r.length,e⟩
end
section
variable {X:Cx}
noncomputable def C7:V->List V->Hp->VK->Prop:=fun x vs H Q=>∃ l xs y,x=.ref l/\vs=[y]/\H l=some (.lst xs)/\xs.length<sizeLine/\Q .non (zX H l (.lst (xs++[y])))
theorem Mh:U0 X "list.append" C7:=by
 intro pins s σ H x vs v us Q I rx rv h
 obtain ⟨l,xs,y,rfl,rfl,hH,hz,q⟩:=h
 cases rx
 obtain ⟨u,rfl,ru⟩:=rv.one
 obtain ⟨z,its,n,r,hl,e⟩:=I.lstM hH
 refine call_meets F.slot_list_append ⟨_,e,rfl⟩ F.entry_list_append (F.args_list_append_2 _ _) (PySem.list_append l its.toArray n u (by rw [List.size_toArray]; omega)) ⟨e,?_⟩
 refine ⟨.non,_,I.lset (its':=its++[u]) hH e (by simp) (r.append (.cons ru .nil)) ?_,rfl,q⟩
 rw [List.length_append,List.length_singleton]
 omega
end
section
variable {prog:Program} {w:World} {A:Around} {E:Value->Shared->Prop} {s:Shared}
end
section
variable {X:Cx}
end
end L2
namespace Att
open PySem PySem.W PySem.Calls PyProof.Rows
theorem Lk {P:Params} {h:Heap}:∀ (ns:List Int) (vs:List Value),WellAll P h vs (ns.map WData.int)->IntsAre vs ns:=by
 intro ns
 induction ns with
 | nil=>
  intro vs w
  rw [List.map_nil] at w
  cases w
  exact .nil
 | cons n ns ih=>
  intro vs w
  rw [List.map_cons] at w
  cases w with
  | cons a b=>
   cases a
   exact .cons _ _ (ih _ b)
theorem script_of {l:OpenLaw} {n:Nat} (hn:l.most=some n) {P:Params} {h:Heap} {args:List WData} {vals:List Value}
  (hpre:l.row.toRowW.claim.pre args=true) (hwl:WellAll P h vals args) :
  ∃ a vs ns,vals=[Value.ref a]/\args=[WData.list (ns.map WData.int)]/\h.get? a=some { cls:=.type "list",data:=.seq vs.toArray }/\IntsAre vs ns/\ns.length<=n:=by
 have hsh:WShape.hasAll [] args [.list .int]=true:=(pre_splitW hpre).1
 have hc:l.pre.holds [] { args:=args }=true:=(pre_splitW hpre).2
 obtain ⟨d,r,rfl,h1,h2⟩:=hasAllW_cons hsh
 obtain rfl:=hasAllW_nil h2
 obtain ⟨xs,rfl,h3⟩:=hasW_list h1
 obtain ⟨ns,rfl⟩:=items_int h3
 have hlen:ns.length<=n:=by
  unfold OpenLaw.pre at hc
  have h4:(WTm.not (.lt (.lit (.int (n:Int))) (.len (.arg 0)))).holds [] { args:=[.list (ns.map .int)] }=true:=by
   have h4:=(holds_andW hc).1
   rw [hn] at h4
   exact h4
  have h5:=condW_of h4 (w_not (w_lt w_lit (w_len_list (w_arg rfl))))
  rw [List.length_map] at h5
  refine Nat.le_of_not_lt fun q=>?_
  have q':(n:Int)<((ns.length:Nat):Int):=by omega
  first
   | (rw [decide_eq_true q'] at h5; exact absurd h5 (by decide))
   | (simp at h5; omega)
 cases hwl with
 | cons w1 w2=>
  cases w2
  cases w1 with
  | list ho hall=>exact ⟨_,_,ns,rfl,rfl,ho,Lk ns _ hall,hlen⟩
theorem post_true (l:OpenLaw) (args:List WData):l.row.toRowW.claim.post args (.bool true) args=true:=
 postW_of (r:=l.row.toRowW) (X:=(true == true))
  (show WShape.has [] (.bool true) .bool=true by first | rfl | decide | simp [WShape.has,WShape.arms,WShape.armsAll])
  (show (WTm.eq .res (.lit (.bool true))).value [] { args:=args,res:=some (.bool true),after:=args }=some (.bool (true == true)) from w_eq_bool (w_res rfl) w_lit) rfl
section
variable {prog:Program} {w:World} {A:Around} {E:Value->Shared->Prop} {s:Shared} {K:Frag}
end
end Att
namespace L2
open PySem PySem.Spec PyProof.Rows
theorem IF:∀ {vs:List Value} {ns:List Int},IntsAre vs ns->zf (ns.map V.int) vs
 | _,_,.nil=>.nil
 | _,_,.cons n t h=>.cons ⟨t,rfl⟩ (IF h)
noncomputable def U2 (H:Hp):Prop:=∀ b,H b=none\/∃ o xs,H b=some (.frz o (.lst xs))
theorem MS {P:Program} {w:World} {K:PySem.W.Frag} {mg mb:Str->Option Value} {CX:uE} {k:Nat} {fa a:Addr} {fd:FuncData} {x:Str} {sp:Sp} {s₁:Shared} {vs:List Value} {ns:List Int}
  (KX:K.In s₁.heap) (hns:s₁.heap.Ns mainGlobals mg) (hb:s₁.heap.Ns builtinsNs mb) (hbb:∀ x:Str,x ≠ "__name__" -> mb x=bootBuiltins x) (hlim:s₁.heap.NoLimit) (hg:s₁.gens=#[])
  (ha:s₁.heap.get? a=some { cls:=.type "list",data:=.seq vs.toArray }) (hi:IntsAre vs ns) (hl:ns.length<=sizeLine) (hr:xW k callerA)
  (F:∀ base:Heap,K.In base->base.Ns mainGlobals mg->vZ P w K mg base CX k fa fd [x] sp) (hbind:∀ (s:Shared) (u:Value),BindsTo s fd ⟨[u],[]⟩ [(x,u)])
  (hsp:∀ H:Hp,U2 H->yE K H a (ns.map V.int)->sp [.ref a] H (fun v _=>v=.bl true) fun _ _ _=>False)
  (hCX:∀ H e s',CX [] H s₁ (fun _ _ _=>False) e s'->False) :
  codeAny (model P w) callerA (.call (.ref fa) ⟨[.ref a],[]⟩) (fun r s'=>r=.ok (.ret (.bool true))/\OldK s₁.heap s'.heap/\s'.os=s₁.os/\AllBare s'.gens) s₁:=by
 have rv:=IF hi
 have lenV:=hi.length
 have core:∀ H:Hp,U2 H->yE K H a (ns.map V.int)->y_ P w H s₁.heap->(∀ b,H b≠none->b=a)->(H a≠none->K.lookup a=none)->
   codeAny (model P w) callerA (.call (.ref fa) ⟨[.ref a],[]⟩) (fun r s'=>r=.ok (.ret (.bool true))/\OldK s₁.heap s'.heap/\s'.os=s₁.os/\AllBare s'.gens) s₁:=by
  intro H hO hS hok hA hK
  have base_of:∀ {b:Addr} {o:Obj},s₁.heap.get? b=some o->H b=none->(t4 s₁.heap H).get? b=some o:=fun e n=>LX e n
  have noA:∀ {b:Addr} {o:Obj} {es:Array DictEntry} {ep:Nat},s₁.heap.get? b=some o->o.data=.dict es ep->H b=none:=fun {b o es ep} e d=>by
   cases q:H b with
   | none=>rfl
   | some u=>
    have e':b=a:=hA b (by rw [q]; simp)
    subst e'
    rw [ha] at e; cases e
    have d':Data.seq vs.toArray _=Data.dict es ep:=d
    cases d'
  have nsK:∀ {b:Addr} {m:Str->Option Value},s₁.heap.Ns b m->(t4 s₁.heap H).Ns b m:=fun {b m} ⟨o,es,ep,e,d,r⟩=>⟨o,es,ep,base_of e (noA e d),d,r⟩
  have hKb:K.In (t4 s₁.heap H):=fun b o e=>base_of (KX b o e) (by
   cases q:H b with
   | none=>rfl
   | some u=>
    have e':b=a:=hA b (by rw [q]; simp)
    subst e'
    rw [hK (by rw [q]; simp)] at e; cases e)
  have hM:Mod K mg (t4 s₁.heap H):=⟨hKb,nsK hns,⟨mb,nsK hb,hbb⟩,let ⟨mc,h1,h2⟩:=hlim; ⟨mc,nsK h1,h2⟩⟩
  have e0:Z7 P w K mg (t4 s₁.heap H) callerA [] s₁ H:=⟨rfl,hM,fun b o e=>B3 e,Nat.le_of_eq (LY _ _),trivial,fun b hb=>absurd (show b∈([]:List Addr) from hb) (by simp),hok,.of_eq hg⟩
  refine codeAny_mono ((F _ hKb (nsK hns)).run callerA [] s₁ H ⟨[.ref a],[]⟩ [.ref a] [.ref a] _ _ hr e0 (hbind s₁ (.ref a)) (.cons rfl .nil) (hsp H hO hS)) fun r s' h=>?_
  cases r with
  | error e=>exact (hCX H e s' h).elim
  | ok fl=>
   cases fl with
   | next=>exact False.elim h
   | brk=>exact False.elim h
   | cont=>exact False.elim h
   | ret u=>
    obtain ⟨v,H',os,bare,un,hok',r',q⟩:=h
    have q':v=.bl true:=q
    subst q'
    obtain rfl:u=Value.bool true:=r'
    refine ⟨rfl,OldK.of_keep fun b o e=>?_,os,bare⟩
    cases q:H b with
    | none=>exact un.keep b o e q (by intro z; exact absurd (show b∈([]:List Addr) from z) (by simp)) (by simp)
    | some u=>
     rcases hO b with z | ⟨ob,xs,z⟩
     ·rw [q] at z; cases z
     ·have z2:=un.frzs b ob _ z
      obtain ⟨e1,_⟩:=hok b _ z
      obtain ⟨e2,_⟩:=hok' b _ z2
      rw [e] at e1; cases e1
      exact e2
 cases hk:K.lookup a with
 | some o=>
  have e:=KX a o hk
  rw [ha] at e
  cases e
  refine core (fun _=>none) (fun _=>.inl rfl) (.inr ⟨_,vs.toArray,_,hk,rfl,rfl,rfl,by rw [List.size_toArray,lenV]; exact hl,by simpa using rv⟩) (fun b u z=>by have z':(none:Option HO)=some u:=z; cases z') (fun b z=>absurd rfl z) fun z=>absurd rfl z
 | none=>
  refine core (fun b=>if b=a then some (.frz { cls:=.type "list",data:=.seq vs.toArray } (.lst (ns.map V.int))) else none) (fun b=>?_) (.inl (.inr ⟨{ cls:=.type "list",data:=.seq vs.toArray },if_pos rfl⟩)) (fun b u z=>?_) (fun b z=>?_) fun _=>hk
  ·by_cases hb:b=a
   ·exact .inr ⟨_,_,if_pos hb⟩
   ·exact .inl (if_neg hb)
  ·by_cases hb:b=a
   ·have z':=(if_pos hb).symm.trans z
    cases z'
    subst hb
    exact ⟨ha,by rw [List.length_map]; exact hl,vs,_,rv,ha⟩
   ·have z':=(if_neg hb).symm.trans z
    cases z'
  ·by_cases hb:b=a
   ·exact hb
   ·exact absurd (if_neg hb) z
end L2
namespace L2
open PySem PySem.Spec PyProof.Rows
end L2
namespace L2
open PySem PySem.Spec PyProof.Rows
noncomputable def pW (s:Stmt):Arguments:=match s with
 | .FunctionDef _ a _ _ _ _ _ _ _ _=>a
 | _=>{ posonlyargs:=[],args:=[],vararg:=none,kwonlyargs:=[],kw_defaults:=[],kwarg:=none,defaults:=[] }
noncomputable def uN (s:Stmt):List Stmt:=match s with
 | .FunctionDef _ _ b _ _ _ _ _ _ _=>b
 | _=>[]
noncomputable def zw (s:Stmt):Scope:=match s with
 | .FunctionDef _ _ _ _ _ _ sc _ _ _=>sc
 | _=>{ kind:=.function,names:=[],isGenerator:=false,isCoroutine:=false }
noncomputable abbrev vY:uE:=fun _ _ _ _ _ _=>False
noncomputable abbrev E0:XK:=fun _ _ _=>False
theorem QT {X:Cx}:ZD vY X E0:=fun _ _ _ _ _ _ _ h=>h.elim
structure tS (K:PySem.W.Frag) (x qual:Str) (st:Stmt) (f:Addr) (fd:FuncData):Prop where
 ex:∃ (oc:Value) (od:Option Addr) (kV doc pm:Value) (an:Option Addr) (cdv ct:Value) (osl:Array (Option Value)),
  fd=PySem.W.fnOf x qual (pW st) (uN st) (zw st) .none kV doc pm an cdv ct/\K.lookup f=some ⟨oc,od,.func fd,osl⟩/\PySem.W.codeIn K cdv qual=true
 kp:PySem.W.keepIn K (.ref f)=true
section
variable {P:Program} {w:World} {K:PySem.W.Frag} {mg:Str->Option Value} {base:Heap}
theorem tS.ok {x qual:Str} {st:Stmt} {f:Addr} {fd:FuncData} {N ps:List Str} {k:Nat} {sp:Sp} (F:tS K x qual st f fd) (S:yL N ps (zw st)) (len:∀ vs H Q E,sp vs H Q E->vs.length=ps.length)
  (hbody:∀ (cdv:Value) (A:Around) (outer:List Env) (s:Shared) (H:Hp) (vs:List V) (Q:VK) (E:XK),xW k (A.deeper (envOfC qual (zw st) s.heap.objs.size f cdv))->sp vs H Q E->
   ∃ t,wW (uy vY P w K mg base N qual (zw st) f cdv A outer s H E).nox (uN st) t/\t { nx:=fun _ H'=>Q .non H',rt:=Q } (start N vs) H):vZ P w K mg base vY (k+1) f fd ps sp:=by
 obtain ⟨oc,od,kV,doc,pm,an,cdv,ct,osl,rfl,lk,hcd⟩:=F.ex
 refine Oy lk hcd S len fun A outer s H vs Q E hr hsp=>?_
 obtain ⟨t,h,q⟩:=hbody cdv A outer s H vs Q E hr hsp
 exact ⟨t,h.nox,q⟩
theorem tS.binds {x qual:Str} {st:Stmt} {f:Addr} {fd:FuncData} {ps:List Str} (F:tS K x qual st f fd)
  (h:∀ (kV doc pm:Value) (an:Option Addr) (cdv ct:Value) (us:List Value),us.length=ps.length->bindArgs (PySem.W.fnOf x qual (pW st) (uN st) (zw st) .none kV doc pm an cdv ct) ⟨us,[]⟩=pure (ps.zip us)):tM K fd ps []:=by
 obtain ⟨oc,od,kV,doc,pm,an,cdv,ct,osl,rfl,lk,hcd⟩:=F.ex
 exact .all (h kV doc pm an cdv ct)
theorem yb {x qual:Str} {st:Stmt} {f:Addr} {oc:Value} {od an:Option Addr} {osl:Array (Option Value)} {kV doc pm cdv ct:Value} (l:K.lookup f=some ⟨oc,od,.func (PySem.W.fnOf x qual (pW st) (uN st) (zw st) .none kV doc pm an cdv ct),osl⟩)
  (c:PySem.W.codeIn K cdv qual=true) (k:PySem.W.keepIn K (.ref f)=true):tS K x qual st f (PySem.W.fnOf x qual (pW st) (uN st) (zw st) .none kV doc pm an cdv ct):=⟨⟨oc,od,kV,doc,pm,an,cdv,ct,osl,rfl,l,c⟩,k⟩
end
theorem zb {A:Around} {k:Nat} (hr:xW k A):A.units+1<cLine:=Nat.lt_of_le_of_lt (Nat.add_le_add_left (by decide:1<=64) _) hr.units
theorem GG {n:Nat} (h:n<=1000):n<sizeLine:=Nat.lt_of_le_of_lt h (by decide)
section
variable {X:Cx}
end
theorem qt {A B:Prop} (h:B):if false=true then A else B:=by
 rw [if_neg Bool.false_ne_true]
 exact h
theorem qu {A B:Prop} (h:A):if true=true then A else B:=by
 rw [if_pos rfl]
 exact h
noncomputable def yD (H H':Hp):Prop:=∀ b o,H b=some o->H' b=some o
theorem yD.refl (H:Hp):yD H H:=fun _ _ h=>h
theorem yD.trans {H H1 H2:Hp} (a:yD H H1) (b:yD H1 H2):yD H H2:=fun c o h=>b c o (a c o h)
theorem yD.free {H H':Hp} (e:yD H H') {l:Addr} (h:H' l=Option.none):H l=Option.none:=by
 cases q:H l with
 | none=>rfl
 | some o=>
  rw [e l o q] at h
  cases h
end L2
set_option linter.all false
set_option maxRecDepth 100000
set_option maxHeartbeats 4000000
namespace L2
open PySem PySem.Spec PyProof.Rows
noncomputable def zH (K:PySem.W.Frag) (mg:Str->Option Value) (x:Str) (st:Stmt) (ps:List Str):Prop:=
 ∃ (f:Addr) (fd:FuncData),tS K x x st f fd/\mg x=some (.ref f)/\tM K fd ps []
noncomputable def zL (P:Program) (w:World) (K:PySem.W.Frag) (mg:Str->Option Value) (base:Heap) (x:Str) (ps:List Str) (k:Nat) (sp:Sp):Prop:=
 ∃ (f:Addr) (fd:FuncData),mg x=some (.ref f)/\PySem.W.keepIn K (.ref f)=true/\tM K fd ps []/\vZ P w K mg base vY k f fd ps sp
noncomputable def xi (mg:Str->Option Value) (x:Str) (v:V):Prop:=∃ u,mg x=some u/\zi v u
section
variable {P:Program} {w:World} {K:PySem.W.Frag} {mg:Str->Option Value} {base:Heap}
theorem zH.ok {x:Str} {st:Stmt} {N ps:List Str} {k:Nat} {sp:Sp} (d:zH K mg x st ps) (S:yL N ps (zw st)) (len:∀ vs H Q E,sp vs H Q E->vs.length=ps.length)
  (hbody:∀ (f:Addr) (cdv:Value) (A:Around) (outer:List Env) (s:Shared) (H:Hp) (vs:List V) (Q:VK) (E:XK),xW k (A.deeper (envOfC x (zw st) s.heap.objs.size f cdv))->sp vs H Q E->
   ∃ t,wW (uy vY P w K mg base N x (zw st) f cdv A outer s H E).nox (uN st) t/\t { nx:=fun _ H'=>Q .non H',rt:=Q } (start N vs) H):zL P w K mg base x ps (k+1) sp:=by
 obtain ⟨f,fd,F,hm,hb⟩:=d
 exact ⟨f,fd,hm,F.kp,hb,F.ok S len (hbody f)⟩
end
section
variable {X:Cx} {x:Str} {p pos:Pos} {e:Expr} {es:List Expr} {t:TA} {ps:List Str} {j k:Nat} {sp:Sp} {v:V} {T:String}
noncomputable def yi:Expr->Bool
 | .Starred ..=>false
 | _=>true
theorem vx {e:Expr} {es:List Expr} {env:Env} (h:yi e=true):starEach (e::es) env=(false,eval e env)::starEach es env:=by
 cases e<;>first | rfl | cases h
theorem kx {env:Env} {pos:Pos}:∀ {es:List Expr},es.all yi=true->(backTo pos (starEach es env)).any (·.1)=false
 | [],_=>rfl
 | e::es,h=>by
  rw [List.all_cons,Bool.and_eq_true] at h
  rw [vx h.1]
  have ih:=kx (env:=env) (pos:=pos) h.2
  unfold backTo at ih ⊢
  rw [List.map_cons,List.any_cons,ih]
  rfl
theorem YU {te:TE} (ha:PE X e te) (hr:PA X es t) (h:yi e=true:=by rfl):PA X (e::es) (VW te t):=DS ha hr (vx h)
noncomputable def ZL:Expr->Option Int
 | .Constant (.int i) _ _=>some i
 | _=>none
theorem Iu {e:Expr} {i:Int} (h:ZL e=some i):∃ k p,e=.Constant (.int i) k p:=by
 cases e<;>first | (cases h; done) | skip
 rename_i c k p
 cases c<;>first | (cases h; done) | skip
 cases h
 exact ⟨k,p,rfl⟩
noncomputable def intsOf:List Expr->Option (List Int)
 | []=>some []
 | e::r=>(ZL e).bind fun i=>(intsOf r).map (i::·)
theorem QP:∀ {es:List Expr} {is:List Int},intsOf es=some is->PA X es (fun _ H Q=>Q (is.map V.int) H)
 | [],is,h=>by
  cases (show some []=some is from h)
  exact YT
 | e::r,is,h=>by
  have q:((ZL e).bind fun i=>(intsOf r).map (i::·))=some is:=h
  cases e1:ZL e with
  | none=>rw [e1] at q; cases q
  | some i=>
   rw [e1] at q
   obtain ⟨k,p,rfl⟩:=Iu e1
   cases e2:intsOf r with
   | none=>rw [e2] at q; cases q
   | some js=>
    rw [e2] at q
    cases (show some (i::js)=some is from q)
    exact YU QU (QP e2)
theorem QW (h:zL X.prog X.w X.K X.mg X.base x ps k sp) (hr:xW j X.A) (hg:Gl X x) (ha:PA X (e::es) t) (hk:k<=j:=by decide) (hdb:(x == ("__debug__" : Str))=false:=by decide)
  (he:(e::es).all yi=true:=by rfl):PE X (.Call (.Name x p) (e::es) [] pos) (VU sp [] E0 t):=by
 obtain ⟨f,fd,hm,kp,b,F⟩:=h
 rw [List.all_cons,Bool.and_eq_true] at he
 exact Da F (hr.mono hk) hg hm kp b .nil QT ha hdb (vx he.1) (kx he.2)
theorem Wm (h:xi X.mg x v) (hg:Gl X x) (hd:(x == ("__debug__" : Str))=false:=by decide):PE X (.Name x pos) (tC v):=by
 obtain ⟨u,hm,r⟩:=h
 exact Dh hg hm r hd
theorem DZ (hg:Gl X x) (hm:X.mg x=none) (hv:bootBuiltins x=some (.type T)) (hn:x ≠ "__name__" := by decide) (hd:(x == ("__debug__" : Str))=false:=by decide):PE X (.Name x pos) (tC (.ty T)):=
 DX hg hm hv rfl hn hd
end
section
variable {X:Cx} {st:Stmt} {t:TS}
end
section
variable {X:Cx}
theorem gL:yM X (binaryOp .FloorDiv) (rI (fun _ j=>0<j/\j<2 ^ 64) fun i j=>.int (i / j)):=gK fun i j _ _ _ _ _ hc q=>by
 have h1:(0:Int)<j:=hc.1
 have h2:j<2 ^ 64:=hc.2
 have h3:j.natAbs.log2<64:=(Nat.log2_lt (by omega)).mpr (by omega)
 exact PyProof.Rows.floordiv_int (by omega) (by rw [Int.fdiv_eq_ediv_of_nonneg i (by omega)]; exact q) (.inl (PyProof.noPylong_of_log2 (by omega)))
end
theorem xF:bootBuiltins "len" = some (.builtin "len"):=by decide +kernel
theorem UQ:bootBuiltins "isinstance" = some (.builtin "isinstance"):=by decide +kernel
theorem uv:bootBuiltins "all" = some (.builtin "all"):=by decide +kernel
theorem XY:bootBuiltins "int" = some (.type "int"):=by decide +kernel
theorem UP:bootBuiltins "bool" = some (.type "bool"):=by decide +kernel
theorem uu:bootBuiltins "str" = some (.type "str"):=by decide +kernel
theorem tt:bootBuiltins "list" = some (.type "list"):=by decide +kernel
theorem wo:bootBuiltins "tuple" = some (.type "tuple"):=by decide +kernel
theorem ME {K:PySem.W.Frag}:PySem.W.kitOne K (.type "int") (.type "int")=some true:=by rfl
theorem MC {K:PySem.W.Frag}:PySem.W.kitOne K (.type "bool") (.type "int")=some true:=by kernel_rfl
theorem MD {K:PySem.W.Frag}:PySem.W.kitOne K (.type "int") (.type "bool")=some false:=by kernel_rfl
theorem MB {K:PySem.W.Frag}:PySem.W.kitOne K (.type "bool") (.type "bool")=some true:=by rfl
theorem MG {K:PySem.W.Frag}:PySem.W.kitOne K (.type "NoneType") (.type "int")=some false:=by kernel_rfl
theorem MF {K:PySem.W.Frag}:PySem.W.kitOne K (.type "NoneType") (.type "bool")=some false:=by kernel_rfl
theorem MI {K:PySem.W.Frag}:PySem.W.kitOne K (.type "tuple") (.type "tuple")=some true:=by rfl
theorem MH {K:PySem.W.Frag}:PySem.W.kitOne K (.type "str") (.type "str")=some true:=by rfl
theorem wE {H:Hp} {p:Addr} (h:H p=none) (o:HO):yD H (zX H p o):=fun b u q=>by rw [yf (wT q h)]; exact q
theorem zU {n:Nat} (h:n<=1000):n<=sizeLine:=Nat.le_of_lt (GG h)
end L2
namespace L2
open PySem PySem.Spec PyProof.Rows
section
variable {X:Cx} {tg:Expr}
end
end L2
namespace L2
open PySem PySem.Spec PyProof.Rows
noncomputable def tN (env:Env):List (Str×Addr)->Prop
 | []=>True
 | p::r=>env.cells.lookup p.1=some p.2/\tN env r
theorem tN.get {env:Env}:∀ {cl:List (Str×Addr)} {y:Str} {c:Addr},tN env cl->cl.lookup y=some c->env.cells.lookup y=some c
 | [],_,_,_,h=>by cases h
 | (n,a)::r,y,c,hc,h=>by
  rw [List.lookup_cons] at h
  cases e:y == n with
  | true=>
   rw [e] at h
   have e':y=n:=by simpa using e
   subst e'
   have h':a=c:=by simpa using h
   subst h'
   exact hc.1
  | false=>
   rw [e] at h
   exact tN.get hc.2 (by simpa using h)
noncomputable def pV (scope:Scope) (env:Env) (cl:List (Str×Addr)) (own:List Str):Bool:=
 scope.names.all fun p=>p.1 != ("." : Str)&&((p.2 == .local&&(own.contains p.1||p.1 == (".0" : Str)))||p.2 == .globalImplicit||p.2 == .globalExplicit ||
  (p.2 == .free&&(env.kindOf p.1 == some .cell||env.kindOf p.1 == some .free)&&(cl.lookup p.1).isSome))
noncomputable def gC (own:List Str) (y:Str):Str:=if own.contains y||y == (".0" : Str) then "." else y
noncomputable def yd (N own:List Str):List Str:=N.map (gC own)++own
theorem V2 {env:Env}:∀ {names:List (Str×NameKind)} {y:Str} {k:NameKind},
  (names.map fun (n,k)=>if (k == NameKind.free&&env.scope.kind == .function&&env.kindOf n == some .cell) then (n,NameKind.cell) else (n,k)).lookup y=some k->∃ k0,(y,k0)∈names/\(k=k0\/(k0=.free/\k=.cell))
 | [],_,_,h=>by simp at h
 | (n,k')::r,y,k,h=>by
  rw [List.map_cons] at h
  by_cases hc:(k' == NameKind.free&&env.scope.kind == .function&&env.kindOf n == some .cell)=true
  ·dsimp only at h
   rw [if_pos hc,List.lookup_cons] at h
   cases e:y == n with
   | true=>
    rw [e] at h
    have e':y=n:=by simpa using e
    subst e'
    have h':NameKind.cell=k:=by simpa using h
    have hf:k'=.free:=by
     rw [Bool.and_eq_true,Bool.and_eq_true] at hc
     simpa using hc.1.1
    exact ⟨k',List.mem_cons_self,.inr ⟨hf,h'.symm⟩⟩
   | false=>
    rw [e] at h
    obtain ⟨k0,m,z⟩:=V2 (env:=env) (by simpa using h)
    exact ⟨k0,List.mem_cons_of_mem _ m,z⟩
  ·dsimp only at h
   rw [if_neg hc,List.lookup_cons] at h
   cases e:y == n with
   | true=>
    rw [e] at h
    have e':y=n:=by simpa using e
    subst e'
    have h':k'=k:=by simpa using h
    exact ⟨k',List.mem_cons_self,.inl h'.symm⟩
   | false=>
    rw [e] at h
    obtain ⟨k0,m,z⟩:=V2 (env:=env) (by simpa using h)
    exact ⟨k0,List.mem_cons_of_mem _ m,z⟩
noncomputable def xX (X:Cx) (scope:Scope) (cl:List (Str×Addr)) (own:List Str) (C:Addr) (s2:Shared) (H2:Hp) (fp:List Addr) (pn:List (Addr×Obj)):Cx:=
 { X with N:=yd X.N own,s₀:=s2,H₀:=H2,env:=compEnvC scope cl C X.env,outer:=X.stack,stack:=X.stack,ex:=fp,fn:=fun _=>false,pn:=pn,xe:=fun _ _=>False }
section
variable {X:Cx} {pins:List (Addr×Obj)} {σ:St} {H2:Hp} {s2:Shared} {scope:Scope} {cl:List (Str×Addr)} {own:List Str} {C D:Addr} {fp:List Addr}
theorem UK (hb:pV scope X.env cl own=true) {y:Str} {k:NameKind} (h:(relabel scope X.env).names.lookup y=some k) :
  y ≠ "." /\ ((k=.local->own.contains y=true\/y = ".0")/\((k=.cell\/k=.free)->(∃ k0,(y,k0)∈scope.names/\k0=.cell)\/((X.env.kindOf y=some .cell\/X.env.kindOf y=some .free)/\∃ c,cl.lookup y=some c))):=by
 obtain ⟨k0,m,z⟩:=V2 h
 have q:=List.all_eq_true.mp hb _ m
 rw [Bool.and_eq_true] at q
 obtain ⟨q1,q2⟩:=q
 refine ⟨by simpa using q1,fun hk=>?_,fun hk=>?_⟩
 ·rcases z with z | ⟨_,z⟩
  ·subst z
   subst hk
   simpa using q2
  ·rw [z] at hk
   cases hk
 ·have hf:k0=.free\/k0=.cell:=by
   rcases z with z | ⟨z,_⟩
   ·subst z
    rcases hk with hk | hk
    ·exact .inr hk
    ·exact .inl hk
   ·exact .inl z
  rcases hf with hf | hf
  ·subst hf
   right
   have q3:((X.env.kindOf y == some .cell||X.env.kindOf y == some .free)&&(cl.lookup y).isSome)=true:=by simpa using q2
   rw [Bool.and_eq_true] at q3
   refine ⟨?_,Option.isSome_iff_exists.mp q3.2⟩
   have:=q3.1
   rw [Bool.or_eq_true] at this
   rcases this with t | t
   ·exact .inl (by simpa using t)
   ·exact .inr (by simpa using t)
  ·exact .inl ⟨k0,m,hf⟩
theorem XV (hb:pV scope X.env cl own=true) (hcell:∀ y∈scope.names,y.2≠.cell) {y:Str} {k:NameKind} (h:(relabel scope X.env).names.lookup y=some k) (hk:k=.cell\/k=.free) :
  (X.env.kindOf y=some .cell\/X.env.kindOf y=some .free)/\∃ c,cl.lookup y=some c:=by
 rcases (UK hb h).2.2 hk with ⟨k0,m,e⟩ | q
 ·exact absurd e (hcell _ m)
 ·exact q
theorem UL (I:Inv X pins σ H2 s2) (hk:scope.kind=.function) (hcell:∀ y∈scope.names,y.2≠.cell) (hcap:tN X.env cl) (hb:pV scope X.env cl own=true) (hC:s2.heap.objs.size<=C)
  (hfp:∀ b∈fp,va X pins H2 b) (hfo:∀ b∈fp,∃ o,s2.heap.get? b=some o):(xX X scope cl own C s2 H2 fp (X.pn++pins)).Ok where
 mod:=I.ok.mod
 kind:=hk
 glob:=I.ok.glob
 blt:=I.ok.blt
 above:=hC
 inj:=fun x y c h1 h2=>I.ok.inj x y c (hcap.get h1) (hcap.get h2)
 has:=fun x hx=>by
  rcases hx with hx | hx
  ·exact (XV hb hcell (show (relabel scope X.env).names.lookup x=_ from hx) (.inl rfl)).2
  ·exact (XV hb hcell (show (relabel scope X.env).names.lookup x=_ from hx) (.inr rfl)).2
 cab:=fun x c h=>by cases h
 hd:=I.ok.hd
 frames:=I.ok.frames
 stk:=.inl rfl
 exf:=fun b hx=>⟨by
  obtain ⟨o,e⟩:=hfo b hx
  exact Nat.ne_of_lt (Nat.lt_of_lt_of_le (Heap.lt_size e) hC),fun x c h=>(hfp b hx).2.2.2.2.1 x c (hcap.get h)⟩
 bs:=I.bs
 bsz:=Nat.le_trans I.ok.bsz I.sz
 noex:=fun b o e hx=>by
  rcases (hfp b hx).2.2.2.1 with z | z
  ·exact I.ok.noex b o e z
  ·exact absurd (Nat.lt_of_lt_of_le (Heap.lt_size e) (Nat.le_trans I.ok.bsz z)) (Nat.lt_irrefl _)
 exfs:=fun b hx hz=>by
  rcases List.mem_cons.mp (I.stkSub b hz) with z | z
  ·exact (hfp b hx).2.1 z
  ·exact (hfp b hx).2.2.1 z
 funs:=I.stack
 frf:=I.stkFree
theorem Zy {α:Type} {σ:List (Option α)} {n i:Nat} {v:α} (h:(σ++List.replicate n none)[i]?=some (some v)):σ[i]?=some (some v):=by
 by_cases hi:i<σ.length
 ·rw [List.getElem?_append_left hi] at h
  exact h
 ·rw [List.getElem?_append_right (by omega),List.getElem?_replicate] at h
  split at h<;>cases h
theorem I_ {h4:Heap} {m0:Str->Option Value} {dobj:Obj} {tk:Nat} (I:Inv X pins σ H2 s2) (hk:scope.kind=.function) (hcell:∀ y∈scope.names,y.2≠.cell) (hcap:tN X.env cl) (hb:pV scope X.env cl own=true)
  (hC:s2.heap.objs.size<=C) (hD:s2.heap.objs.size<=D) (hDC:D≠C) (hfp:∀ b∈fp,va X pins H2 b) (hfo:∀ b∈fp,∃ o,s2.heap.get? b=some o)
  (keep:∀ b o,s2.heap.get? b=some o->h4.get? b=some o) (ns:h4.Ns C m0) (hd:h4.get? D=some dobj) (hdd:∀ v,dobj.data≠.cell v) :
  Inv (xX X scope cl own C s2 H2 fp (X.pn++pins)) [(D,dobj)] (σ++List.replicate own.length none) H2 { s2 with heap:=h4,toks:=tk }:=by
 have nfs:∀ a,s2.heap.objs.size<=a->a ∉ vQ X.stack:=fun a ha hz=>by
  rcases List.mem_cons.mp (I.stkSub a hz) with z | z
  ·exact absurd (Nat.lt_of_lt_of_le I.lt ha) (by rw [z]; exact Nat.lt_irrefl _)
  ·exact I.nofs ha z
 refine ⟨UL I hk hcell hcap hb hC hfp hfo,rfl,I.bare,Un.kept keep,⟨m0,ns,fun i y v e1 e2 e3=>?_⟩,fun x c h=>?_,I.hok.fresh hC,fun x c h=>I.freeC x c (hcap.get h),fun p hp=>?_,I.hok.kept keep,?_⟩
 ·have e2':σ[i]?=some (some v):=Zy e2
  have hi:i<X.N.length:=by
   have:=(List.getElem?_eq_some_iff.mp e2').1
   rw [I.len] at this
   exact this
  have e1':(X.N.map (gC own)++own)[i]?=some y:=e1
  rw [List.getElem?_append_left (by simpa using hi),List.getElem?_map] at e1'
  cases en:X.N[i]? with
  | none=>
   rw [en] at e1'
   cases e1'
  | some n=>
   rw [en] at e1'
   have ey:gC own n=y:=Option.some.inj e1'
   have vis:∃ k,(relabel scope X.env).names.lookup y=some k/\(k=.local\/k=.cell\/k=.free):=by
    rcases e3 with z | z | z
    ·exact ⟨_,z,.inl rfl⟩
    ·exact ⟨_,z,.inr (.inl rfl)⟩
    ·exact ⟨_,z,.inr (.inr rfl)⟩
   obtain ⟨k,lk,kk⟩:=vis
   obtain ⟨nd,loc,_⟩:=UK hb lk
   unfold gC at ey
   by_cases ho:(own.contains n||n == (".0" : Str))=true
   ·rw [if_pos ho] at ey
    exact absurd ey.symm nd
   ·rw [if_neg ho] at ey
    subst ey
    have kk':k=.cell\/k=.free:=by
     rcases kk with z | z
     ·exfalso
      apply ho
      rcases loc z with t | t
      ·rw [t]; rfl
      ·subst t; simp
     ·exact z
    obtain ⟨ok,c,hc⟩:=XV hb hcell lk kk'
    obtain ⟨m,hn,hl⟩:=I.loc
    obtain ⟨u,r,l⟩:=hl i n v en e2' (.inr ok)
    refine ⟨u,r,.inr ⟨?_,c,hc,?_⟩⟩
    ·rcases kk' with z | z
     ·subst z; exact .inl lk
     ·subst z; exact .inr lk
    ·rcases l with ⟨z,_⟩ | ⟨_,c',hc',z⟩
     ·rcases ok with t | t<;>(rw [t] at z; cases z)
     ·rw [hcap.get hc] at hc'
      cases hc'
      obtain ⟨o,ho',hd'⟩:=z
      exact ⟨o,keep _ _ ho',hd'⟩
 ·obtain ⟨v,o,ho,hd'⟩:=I.cell x c (hcap.get h)
  exact ⟨v,o,keep _ _ ho,hd'⟩
 ·rcases List.mem_append.mp hp with z | z
  ·obtain ⟨e,n,ne,nf,d⟩:=I.pin p z
   refine ⟨keep _ _ e,n,Nat.ne_of_lt (Nat.lt_of_lt_of_le (Heap.lt_size e) hC),fun hz=>?_,d⟩
   rcases List.mem_cons.mp (I.stkSub p.1 hz) with t | t
   ·exact ne t
   ·exact nf t
  ·have e:p=(D,dobj):=by simpa using z
   subst e
   exact ⟨hd,I.hok.fresh hD,hDC,nfs D hD,hdd⟩
 ·show (σ++List.replicate own.length none).length=(X.N.map (gC own)++own).length
  rw [List.length_append,List.length_append,List.length_replicate,List.length_map,I.len]
end
end L2
namespace L2
open PySem PySem.Spec PyProof.Rows
noncomputable def qf (X:Cx) (ifs:List Expr) (tc:TT):Prop:=
 ∀ (pins:List (Addr×Obj)) (s:Shared) (σ:St) (H:Hp) (Q:Bool->Hp->Prop),Inv X pins σ H s->tc σ H Q->
  wpAny (model X.prog X.w) X.A (forIn ifs true fun c r=>if r=true then do let ok <- isTrue c X.env (eval c X.env); pure (ForInStep.yield ok) else pure (ForInStep.yield r)) (TP X pins σ Q) X.xe s
noncomputable def Gv:TT:=fun _ H Q=>Q true H
theorem Ft {X:Cx}:qf X [] Gv:=fun _ _ _ H _ I h=>wpAny_tests_nil ⟨H,I,h⟩
theorem Fu {X:Cx} {c:Expr} {t:TT} (h:PT X c t):qf X [c] t:=fun pins s σ H Q I q=>wpAny_tests_one (h pins s σ H Q I q)
section
variable {prog:Program} {w:World} {A:Around} {R:Result->Shared->Prop} {s:Shared}
theorem MW {elt tg iter:Expr} {ifs:List Expr} {scope:Scope} {pos:Pos} {it acc:Value} {env:Env} (J:Nat->Shared->Prop)
  (turn:∀ n s,J n s->wpAny (model prog w) A (pyNext it) (fun r s₁=>match r with
   | none=>R (.ok .next) s₁
   | some v=>wpAny (model prog w) A (letOwnedTupleGo tg it v) (fun _ z=>wpAny (model prog w) A (assign tg env v) (fun _ s₂=>
    wpAny (model prog w) A (forIn ifs true fun c r=>if r=true then do let ok <- isTrue c env (eval c env); pure (ForInStep.yield ok) else pure (ForInStep.yield r)) (fun ok s₃=>
     if ok=true then wpAny (model prog w) A (eval elt env) (fun x s₄=>wpAny (model prog w) A (call (.builtin "list.append") [acc,x]) (fun _ s₅=>∃ m,m<n/\J m s₅) (fun _ _=>False) s₄) (fun _ _=>False) s₃
     else ∃ m,m<n/\J m s₃) (fun _ _=>False) s₂) (fun _ _=>False) z) (fun _ _=>False) s₁) (fun _ _=>False) s)
  (n:Nat) (h:J n s):codeAny (model prog w) A (.compLoop (.ListComp elt [⟨tg,iter,ifs,0⟩] scope pos) 0 it acc env) R s:=by
 have no:∀ {P:Value->Shared->Prop},∀ e s',(fun _ _=>False:Value->Shared->Prop) e s'->P e s':=fun _ _ z=>z.elim
 refine codeAny_loop rfl J (fun n s hI=>?_) n h
 show wpAny _ A (Sem.onRaise (compTurn (.ListComp elt [⟨tg,iter,ifs,0⟩] scope pos) 0 it acc env) (fun x=>do noteFrame x env; theTreesLotGoes x)) _ _ s
 refine wpAny_noted ?_
 rw [compTurn_list]
 refine wpAny_bind (wpAny_standAt (wpAny_bind (wpAny_mono (turn n s hI) (fun r s₁ h₁=>?_) no)))
 cases r with
 | none=>exact wpAny_pure h₁
 | some v=>
  refine wpAny_bind (wpAny_mono h₁ (fun _ z hz=>?_) no)
  refine wpAny_bind (wpAny_mono hz (fun _ s₂ h₂=>?_) no)
  refine wpAny_bind (wpAny_mono h₂ (fun ok s₃ h₃=>?_) no)
  cases ok with
  | false=>exact wpAny_pure ⟨rfl,h₃⟩
  | true=>
   refine wpAny_bind (wpAny_bind (wpAny_mono h₃ (fun x s₄ h₄=>?_) no))
   exact wpAny_bind (wpAny_mono h₄ (fun _ s₅ h₅=>wpAny_pure (wpAny_pure ⟨rfl,h₅⟩)) no)
end
noncomputable abbrev w6 (its:List Value) (k:Nat):Obj:={ cls:=.type "list",data:=.seq its.toArray k }
theorem Ts {its:List Value} {k:Nat}:∀ v,(w6 its k).data≠.cell v:=fun _ z=>nomatch z
section
variable {X:Cx} {σ:St} {H:Hp} {s:Shared} {D:Addr}
theorem Lm {pl:List (Addr×Obj)} {its its':List Value} {k k' tk:Nat} {h':Heap} (I:Inv X ((D,w6 its k)::pl) σ H s) (hD:X.s₀.heap.objs.size<=D) (hpn:∀ p∈X.pn,p.1≠D)
  (hs:Heap.SameBut D s.heap h') (hd:h'.get? D=some (w6 its' k')):Inv X [(D,w6 its' k')] σ H { s with heap:=h',toks:=tk }:=by
 obtain ⟨e,n,ne,nf,d⟩:=I.pin (D,w6 its k) (List.mem_append_right _ List.mem_cons_self)
 have I0:Inv X [] σ H s:=I.pins_of fun p hp=>absurd hp (by simp)
 have I1:Inv X [] σ H { s with heap:=h',toks:=tk }:=I0.turned (it:=D) (fun b o hb q=>(hs.2 b hb).trans q) n ne (.inr hD) (fun x c hc z=>by
  subst z
  obtain ⟨v,o,ho,hv⟩:=I.cell x c hc
  rw [show s.heap.get? c=some (w6 its k) from e] at ho
  cases ho
  exact d v hv) (fun p hp=>hpn p (by simpa using hp))
 exact I1.pins_of fun p hp=>by
  have q:p=(D,w6 its' k'):=by simpa using hp
  subst q
  exact ⟨hd,n,ne,nf,Ts⟩
end
section
variable {X:Cx} {tg iter elt:Expr} {ifs:List Expr} {scope:Scope} {cl:List (Str×Addr)} {own:List Str} {pos:Pos} {te:TE} {tc:TT} {g:TG} {wi:TI}
theorem HL {fs ex:List Addr} {H H':Hp} {h h':Heap} {D:Addr} {o:HO} (u:Un fs ex H H' h h') (hD:h.objs.size<=D) (hn:H' D=none):Un fs ex H (zX H' D o) h h' where
 keep:=u.keep
 slot:=u.slot
 free:=fun b ob q n hx=>by rw [yf (fun z=>by subst z; exact absurd (Nat.lt_of_lt_of_le (Heap.lt_size q) hD) (Nat.lt_irrefl _))]; exact u.free b ob q n hx
 there:=u.there
 tups:=fun b xs q=>by rw [yf (wT (u.tups b xs q) hn)]; exact u.tups b xs q
 frzs:=fun b ob v q=>by rw [yf (wT (u.frzs b ob v q) hn)]; exact u.frzs b ob v q
 tbls:=fun b ps q=>by
  obtain ⟨more,z⟩:=u.tbls b ps q
  exact ⟨more,by rw [yf (wT z hn)]; exact z⟩
theorem TF {P:Program} {w:World} {H:Hp} {h:Heap} {D:Addr} {o:HO} (x:y_ P w H h) (hn:H D=none) (new:yo P w (zX H D o) h D o):y_ P w (zX H D o) h:=fun b u e=>by
 by_cases hb:b=D
 ·subst hb
  rw [yz] at e
  cases e
  exact new
 ·rw [yf hb] at e
  refine (x b u e).stay (fun c v _ q=>q) (fun c q=>?_) (fun c xs q=>?_)
  ·rw [yf (wT q hn)]; exact q
  ·rw [yf (wT q hn)]; exact q
structure qS (X:Cx) (scope:Scope) (cl:List (Str×Addr)) (own:List Str):Prop where
 kind:scope.kind=.function
 cell:∀ y∈scope.names,y.2≠.cell
 cap:tN X.env cl
 ok:pV scope X.env cl own=true
 clos:closureFor scope X.env=pure cl
 names:∀ y∈scope.names,y.2=.local->scope.names.lookup y.1=some .local
structure ZC (X:Cx) (pins:List (Addr×Obj)) (H:Hp) (s:Shared) (C:Addr):Prop where
 free:H C=none
 ne:C≠X.env.locals
 old:X.s₀.heap.objs.size<=C
 cell:∀ x c,X.env.cells.lookup x=some c->c≠C
 pin:∀ p∈X.pn++pins,p.1≠C
noncomputable def YG (σ:St) (n:Nat) (J:It) (g:TG) (tc:TT) (te:TE) (W:Nat->Nat->List V->Hp->Prop) (Fin:List V->Hp->Prop):Prop:=
 ∀ i m ys H,W i m ys H->(J.stop i H/\Fin ys H)\/(J.go i H/\ys.length<sizeLine/\∃ N:List V->Hp->Prop,(∀ ys' H',N ys' H'->∃ m',m'<m/\W (i+1) m' ys' H')/\
  ∀ x H',J.yld i H x H'->g x (σ++List.replicate n none) H' fun σ2 H3=>(∃ τ,σ2=σ++τ)/\tc σ2 H3 fun c H4=>if c=true then te σ2 H4 fun y H5=>N (ys++[y]) H5 else N ys H4)
theorem UM {pins:List (Addr×Obj)} {σ:St} {H2:Hp} {s2:Shared} {fp:List Addr} {it:Addr} {tn:Nat->Heap->Prop} {J:It} {W:Nat->Nat->List V->Hp->Prop} {Fin:List V->Hp->Prop} {m0:Nat}
  {RR:Value->Addr->Result->Shared->Prop} (hcalm:X.calm=true) (B:qS X scope cl own) (I:Inv X pins σ H2 s2) (T:tX X.prog X.w X.K tg J fp it tn) (t0:tn 0 s2.heap) (hfp:∀ b∈fp,va X pins H2 b)
  (hg:∀ C s H fp pn,PG (xX X scope cl own C s H fp pn) tg g) (hc:∀ C s H fp pn,qf (xX X scope cl own C s H fp pn) ifs tc) (he:∀ C s H fp pn,PE (xX X scope cl own C s H fp pn) elt te)
  (W0:W 0 m0 [] H2) (turn:YG σ own.length J g tc te W Fin)
  (hRR:∀ D C s' H' ys m',Inv X pins σ (zX H' D (.lst ys)) s'->H' D=none->Fin ys H'->s'.heap.Ns C m'->ZC X pins (zX H' D (.lst ys)) s' C->RR (.ref D) C (.ok .next) s') {E:Value->Shared->Prop} :
  wpAny (model X.prog X.w) X.A (newList []) (fun acc s3=>wpAny (model X.prog X.w) X.A (newFunctionEnv scope X.env.globals cl [] X.env.qual none .none (some X.env)) (fun cenv s4=>
   codeAny (model X.prog X.w) X.A (.compStart (.ListComp elt [⟨tg,iter,ifs,0⟩] scope pos) 0 (.ref it) acc { cenv with scope:=relabel scope X.env }) (RR acc cenv.locals) s4) E s3) E s2:=by
 refine wpAny_newObj_type (wpAny_newFunctionEnv B.cell (by intro y hy; simp at hy) (fun h4 hns hsb=>?_) B.kind)
 dsimp only at hns hsb ⊢
 generalize hP:s2.heap.push (w6 [] 0)=P2 at hns hsb ⊢
 have hC:P2.objs.size=s2.heap.objs.size+1:=by rw [<- hP,Heap.size_push]
 have hDC:s2.heap.objs.size≠P2.objs.size:=by rw [hC]; exact Nat.ne_of_lt (Nat.lt_succ_self _)
 have hCle:s2.heap.objs.size<=P2.objs.size:=by rw [hC]; exact Nat.le_succ _
 have keep:∀ b o,s2.heap.get? b=some o->h4.get? b=some o:=fun b o e=>
  hsb.extBut b o (Nat.ne_of_lt (Nat.lt_of_lt_of_le (Heap.lt_size e) hCle)) (Heap.get?_push_of_some _ (hP ▸ Heap.get?_push_of_some _ e))
 have hd4:h4.get? s2.heap.objs.size=some (w6 [] 0):=hsb.extBut _ _ hDC (Heap.get?_push_of_some _ (hP ▸ Heap.get?_push_size _ rfl))
 have hfo:∀ b∈fp,∃ o,s2.heap.get? b=some o:=fun b hb=>let ⟨o,e,_⟩:=T.obj 0 _ t0 b hb; ⟨o,e⟩
 have lt:∀ b∈fp,b<s2.heap.objs.size:=fun b hb=>let ⟨o,e⟩:=hfo b hb; Heap.lt_size e
 generalize hDD:s2.heap.objs.size=D at hDC hd4 ⊢
 generalize hCC:P2.objs.size=C at hDC hns hsb hCle ⊢
 have hDle:s2.heap.objs.size<=D:=Nat.le_of_eq hDD
 let X':=xX X scope cl own C s2 H2 fp (X.pn++pins)
 have hpn:∀ p∈X'.pn,p.1≠D:=fun p hp z=>by
  obtain ⟨e,_⟩:=I.pin p hp
  rw [z] at e
  exact absurd (Nat.lt_of_lt_of_le (Heap.lt_size e) hDle) (Nat.lt_irrefl _)
 have okb:=UL I B.kind B.cell B.cap B.ok hCle hfp hfo
 have fpok:∀ {k:Nat} {its:List Value} {H':Hp},(∀ b∈fp,H' b=none)->∀ b∈fp,va X' [(D,w6 its k)] H' b:=fun {k its H'} hn b hb=>
  ⟨hn b hb,(okb.exf b hb).1,okb.exfs b hb,.inl hb,(okb.exf b hb).2,fun p hp=>by
   rcases List.mem_append.mp hp with z | z
   ·exact (hfp b hb).2.2.2.2.2 p z
   ·have q:p=(D,w6 its k):=by simpa using z
    subst q
    exact fun z=>absurd (lt b hb) (by rw [<- z]; exact Nat.not_lt.mpr hDle)⟩
 have loop:∀ s4:Shared,s4={ s2 with heap:=h4,toks:=s2.toks+([]:List (Str×Value)).length }->
   codeAny (model X.prog X.w) X.A (.compLoop (.ListComp elt [⟨tg,iter,ifs,0⟩] scope pos) 0 (.ref it) (.ref D) (compEnvC scope cl C X.env)) (RR (.ref D) C) s4:=by
  rintro s4 rfl
  refine MW (fun n s'=>∃ (i:Nat) (ys:List V) (its:List Value) (k:Nat) (H':Hp),Inv X' [(D,w6 its k)] (σ++List.replicate own.length none) H' s'/\zf ys its/\tn i s'.heap/\(∀ b∈fp,H' b=none)/\W i n ys H'/\ys.length<=sizeLine) ?_ m0
   ⟨0,[],[],0,H2,I_ I B.kind B.cell B.cap B.ok hCle hDle hDC hfp hfo keep hns hd4 Ts,.nil,T.keep _ _ _ t0 fun b _ o e=>keep b o e,fun b hb=>(hfp b hb).1,W0,Nat.zero_le _⟩
  rintro n s5 ⟨i,ys,its,k,H5,I5,v5,st5,fr5,w5,z5⟩
  rcases turn i n ys H5 w5 with ⟨stop,fin⟩ | ⟨go,room,N,hN,step⟩
  ·refine wpAny_mono (T.done X' rfl rfl rfl hcalm i _ s5 _ H5 (fun _ _=>False) I5 (fpok fr5) st5 stop) (fun r s6 ⟨hr,I6⟩=>?_) fun _ _ z=>z
   subst hr
   obtain ⟨e6,n6,ne6,nf6,d6⟩:=I6.pin (D,w6 its k) (List.mem_append_right _ List.mem_cons_self)
   obtain ⟨m6,ns6,_⟩:=I6.loc
   have u6:Un (vQ X.stack) fp H2 (zX H5 D (.lst ys)) s2.heap s6.heap:=HL I6.base hDle n6
   have new6:yo X.prog X.w (zX H5 D (.lst ys)) s6.heap D (.lst ys):=⟨z5,its,k,v5,e6⟩
   have I7:Inv X pins σ (zX H5 D (.lst ys)) s6:=I.call' I6.os u6 (TF I6.hok n6 new6) I6.bare (fun b hb=>⟨(hfp b hb).2.2.2.1,(hfp b hb).2.1,(hfp b hb).2.2.2.2.1,(hfp b hb).2.2.2.2.2⟩)
   refine hRR D C s6 H5 ys m6 I7 n6 fin ns6 ⟨?_,?_,?_,fun x c hcx z=>?_,fun p hp z=>?_⟩
   ·rw [yf (Ne.symm hDC)]; exact I6.free
   ·exact fun z=>absurd I.lt (by rw [<- z]; exact Nat.not_lt.mpr hCle)
   ·exact Nat.le_trans I.sz hCle
   ·subst z
    obtain ⟨v,o,ho,_⟩:=I.cell x c hcx
    exact absurd (Nat.lt_of_lt_of_le (Heap.lt_size ho) hCle) (Nat.lt_irrefl _)
   ·obtain ⟨e,_⟩:=I.pin p hp
    rw [z] at e
    exact absurd (Nat.lt_of_lt_of_le (Heap.lt_size e) hCle) (Nat.lt_irrefl _)
  ·refine wpAny_mono (T.item X' rfl rfl rfl hcalm i _ s5 _ H5 (fun _ _=>False) I5 (fpok fr5) st5 go) (fun r s6 ⟨u,hr,h6⟩=>?_) fun _ _ z=>z
   subst hr
   refine wpAny_mono h6 (fun _ s7 ⟨x,H7,I7,r7,y7,st7,fr7⟩=>?_) fun _ _ z=>z
   have I7':=I7.pinned (fpok fr7) (T.obj _ _ st7)
   refine wpAny_mono (hg C s2 H2 fp _ _ s7 _ H7 x u _ I7' r7 (step x H7 y7)) (fun _ s8 ⟨σ8,H8,I8,⟨τ,hτ⟩,q8⟩=>?_) fun _ _ z=>z
   subst hτ
   have back:∀ {n':Nat} {ys':List V} {its':List Value} {k':Nat} {H9:Hp} {s9:Shared} {pl:List (Addr×Obj)},Inv X' ((D,w6 its' k')::pl) (σ++τ) H9 s9->zf ys' its'->tn (i+1) s9.heap->(∀ b∈fp,H9 b=none)->W (i+1) n' ys' H9->ys'.length<=sizeLine->
     ∃ (i:Nat) (ys:List V) (its:List Value) (k:Nat) (H':Hp),Inv X' [(D,w6 its k)] (σ++List.replicate own.length none) H' s9/\zf ys its/\tn i s9.heap/\(∀ b∈fp,H' b=none)/\W i n' ys H'/\ys.length<=sizeLine:=fun {n' ys' its' k' H9 s9 pl} I9 v9 st9 fr9 w9 z9=>by
    have I9':Inv X' [(D,w6 its' k')] (σ++τ) H9 s9:=I9.pins_of fun p hp=>I9.pin p (List.mem_append_right _ (by
     have q:p=(D,w6 its' k'):=by simpa using hp
     subst q
     exact List.mem_cons_self))
    refine ⟨i+1,ys',its',k',H9,I9'.weak ?_ (fun j v e=>?_),v9,st9,fr9,w9,z9⟩
    ·rw [I9'.len,<- I5.len]
    ·have e':=Zy e
     rw [List.getElem?_append_left (List.getElem?_eq_some_iff.mp e').1]
     exact e'
   have keepIt:∀ {σ9:St} {H9:Hp} {s9:Shared},Inv X' ([(D,w6 its k)]++gM fp s7.heap) σ9 H9 s9->tn (i+1) s9.heap/\∀ b∈fp,H9 b=none:=fun {σ9 H9 s9} I9=>
    ⟨T.keep _ _ _ st7 fun b hb o e=>(I9.pin (b,o) (List.mem_append_right _ (List.mem_append_right _ (YI hb e)))).1,fun b hb=>by
     obtain ⟨o,e,_⟩:=T.obj _ _ st7 b hb
     exact (I9.pin (b,o) (List.mem_append_right _ (List.mem_append_right _ (YI hb e)))).2.1⟩
   refine wpAny_mono (hc C s2 H2 fp _ _ s8 _ H8 _ I8 q8) (fun c s9 ⟨H9,I9,q9⟩=>?_) fun _ _ z=>z
   cases c with
   | false=>
    rw [if_neg Bool.false_ne_true] at q9 ⊢
    obtain ⟨m',hm,w9⟩:=hN _ _ q9
    exact ⟨m',hm,back I9 v5 (keepIt I9).1 (keepIt I9).2 w9 z5⟩
   | true=>
    rw [if_pos rfl] at q9 ⊢
    refine wpAny_mono (he C s2 H2 fp _ _ s9 _ H9 _ I9 q9) (fun yv sa ⟨y,Ha,Ia,ra,qa⟩=>?_) fun _ _ z=>z
    obtain ⟨m',hm,wa⟩:=hN _ _ qa
    obtain ⟨ea,na,_⟩:=Ia.pin (D,w6 its k) (List.mem_append_right _ (List.mem_append_left _ List.mem_cons_self))
    have szi:its.toArray.size<=sizeLine:=by
     have:=v5.length
     simp only [List.size_toArray]
     omega
    refine wpAny_list_append_plain (hsz:=szi) ⟨k,ea⟩ fun hb hlb hsb'=>?_
    obtain ⟨kb,eb⟩:=hlb
    have eb':hb.get? D=some (w6 (its++[yv]) kb):=by rw [eb]; simp
    have Ib:Inv X' [(D,w6 (its++[yv]) kb)] (σ++τ) Ha { sa with heap:=hb,toks:=sa.toks }:=Lm (tk:=sa.toks) Ia hDle hpn hsb' eb'
    have stb:tn (i+1) hb:=T.keep _ _ _ (keepIt Ia).1 fun b hbf o e=>(hsb'.2 b (fun z=>absurd (lt b hbf) (by rw [z]; exact Nat.not_lt.mpr hDle))).trans e
    exact ⟨m',hm,back Ib (zf.append v5 (.cons ra .nil)) stb (keepIt Ia).2 wa (by rw [List.length_append]; exact room)⟩
 exact codeAny_compStart_list (loop _ rfl) (T.self X.A 0 _ _ _ (T.keep _ _ _ t0 fun b _ o e=>keep b o e) (loop _ rfl))
noncomputable def Gb (n:Nat) (wi:TI) (g:TG) (tc:TT) (te:TE):TE:=fun σ H Q=>wi σ H fun J H1=>∃ W:Nat->Nat->List V->Hp->Prop,(∃ m,W 0 m [] H1)/\
 YG σ n J g tc te W fun ys H'=>∀ p,H' p=none->Q (.ref p) (zX H' p (.lst ys))
theorem ZC.inv {pins:List (Addr×Obj)} {σ:St} {H:Hp} {s:Shared} {C:Addr} {h':Heap} (o:ZC X pins H s C) (I:Inv X pins σ H s) (hs:Heap.SameBut C s.heap h'):Inv X pins σ H { s with heap:=h' }:=
 I.turned (it:=C) (t':=s.toks) (fun b u hb q=>(hs.2 b hb).trans q) o.free o.ne (.inr o.old) o.cell o.pin
theorem Dj (hcalm:X.calm=true) (B:qS X scope cl own) (hi:PI X tg iter wi) (hg:∀ C s H fp pn,PG (xX X scope cl own C s H fp pn) tg g) (hc:∀ C s H fp pn,qf (xX X scope cl own C s H fp pn) ifs tc)
  (he:∀ C s H fp pn,PE (xX X scope cl own C s H fp pn) elt te) (hs:∀ x,foldedSetIterable iter X.env x=pure x:=by intro _; rfl) :
  PE X (.ListComp elt [⟨tg,iter,ifs,0⟩] scope pos) (Gb own.length wi g tc te):=by
 intro pins s σ H Q I h
 rw [eval_ListComp]
 refine wpAny_comprehension_free (use:=none) rfl hs B.clos B.kind B.names (zj (hi pins s σ H _ I h) fun v s1 h1=>zj h1 fun itv s2 h2=>?_)
 obtain ⟨it,fp,tn,J,H2,e,I2,T,st2,f2,W,⟨m0,w0⟩,turn⟩:=h2
 subst e
 refine UM (RR:=fun acc C=>compPost (model X.prog X.w) X.A X.xe none (EP X pins σ Q) acc C) hcalm B I2 T st2 f2 hg hc he w0 turn ?_
 intro D C s' H' ys m' I' n' fin ns' off
 exact ⟨m',ns',fun h' hs'=>⟨.ref D,zX H' D (.lst ys),off.inv I' hs',rfl,fin D n'⟩⟩
noncomputable def Go (i n:Nat) (wi:TI) (g:TG) (tc:TT) (te:TE):TS:=fun D σ H=>wi σ H fun J H1=>∃ W:Nat->Nat->List V->Hp->Prop,(∃ m,W 0 m [] H1)/\
 YG σ n J g tc te W fun ys H'=>∀ p,H' p=none->D.nx (σ.set i (some (.ref p))) (zX H' p (.lst ys))
theorem Ql {i:Nat} {x:Str} {px spos:Pos} (hcalm:X.calm=true) (hN:X.N.Nodup) (hix:X.N[i]?=some x) (hx:X.env.scope.names.lookup x=some .local) (B:qS X scope cl own)
  (hsw:swapsWith (.ListComp elt [⟨tg,iter,ifs,0⟩] scope pos) (some (.Name x px)) spos.line X.env=pure true) (hi:PI X tg iter wi)
  (hg:∀ C s H fp pn,PG (xX X scope cl own C s H fp pn) tg g) (hc:∀ C s H fp pn,qf (xX X scope cl own C s H fp pn) ifs tc) (he:∀ C s H fp pn,PE (xX X scope cl own C s H fp pn) elt te)
  (hs:∀ x,foldedSetIterable iter X.env x=pure x:=by intro _; rfl) :
  PS X (.Assign [.Name x px] (.ListComp elt [⟨tg,iter,ifs,0⟩] scope pos) spos) (Go i own.length wi g tc te):=by
 intro pins s σ H D I h
 rw [exec_Assign_Name_used _ _ _ _ hsw]
 refine wpAny_bind (wpAny_standAt (wpAny_bind ?_))
 show wpAny _ X.A (do let _ <- comprehension (.ListComp elt [⟨tg,iter,ifs,0⟩] scope pos) scope X.env _ (newList []) false (eval iter X.env) (some (assign (.Name x px) X.env))) _ _ s
 refine wpAny_bind (zj (wpAny_comprehension_free (use:=some (assign (.Name x px) X.env)) (Q:=fun _ s'=>SP X pins D .next s') rfl hs B.clos B.kind B.names
  (zj (hi pins s σ H _ I h) fun v s1 h1=>zj h1 fun itv s2 h2=>?_)) fun _ s' hq=>wpAny_pure (wpAny_pure hq))
 obtain ⟨it,fp,tn,J,H2,e,I2,T,st2,f2,W,⟨m0,w0⟩,turn⟩:=h2
 subst e
 refine UM (RR:=fun acc C=>compPost (model X.prog X.w) X.A X.xe (some (assign (.Name x px) X.env)) (fun _ s'=>SP X pins D .next s') acc C) hcalm B I2 T st2 f2 hg hc he w0 turn ?_
 intro L C s' H' ys m' I' n' fin ns' off
 show wpAny _ X.A (assign (.Name x px) X.env (.ref L)) _ _ s'
 refine wpAny_assign_Name (Jn I' hN hix (.inl hx) (v:=.ref L) rfl (fun s3 I3 q3=>?_) (.inr hx))
 obtain ⟨a,hsa,ha⟩:=q3
 have hCa:C≠a:=by
  rcases ha with z | z
  ·rw [z]; exact off.ne
  ·exact fun y=>off.cell x a z y.symm
 refine ⟨m',ns'.sameBut hsa hCa,fun h' hs'=>?_⟩
 exact ⟨_,_,ZC.inv (H:=zX H' L (.lst ys)) ⟨off.free,off.ne,off.old,off.cell,off.pin⟩ I3 hs',fin L n'⟩
end
end L2
namespace L2
open PySem PySem.Spec PyProof.Rows
structure QE (X:Cx) (e:Expr) (t:TE):Prop where
 h:PE X e t
structure QA (X:Cx) (es:List Expr) (t:TA):Prop where
 h:PA X es t
structure QS (X:Cx) (st:Stmt) (t:TS):Prop where
 h:PS X st t
structure QG (X:Cx) (e:Expr) (t:TG):Prop where
 h:PG X e t
structure ZG (X:Cx) (es:List Expr) (t:uK):Prop where
 h:jd X es t
structure QI (X:Cx) (tg e:Expr) (t:TI):Prop where
 h:PI X tg e t
section
variable {X:Cx} {x y:Str} {p pos pos' apos cpos p2:Pos} {e a b c o tg iter elt:Expr} {es yN:List Expr} {te ta tb tc to:TE} {t:TA} {tA tB':TT} {r r':R2} {v:V} {T id:String} {ps:List Str} {j k i:Nat} {sp:Sp}
theorem qv (i:Nat) {x:Str} {pos:Pos} (hN:X.N[i]?=some x:=by rfl) (hv:qh X.env.scope x:=by first | exact Or.inl rfl | exact Or.inr (Or.inl rfl) | exact Or.inr (Or.inr rfl)) (hd:(x == ("__debug__" : Str))=false:=by decide)
  (hcd:(x == ("__classdict__" : Str))=false:=by decide):QE X (.Name x pos) (k_ i):=⟨YV hN hv hd hcd⟩
theorem Wx (hg:Gl X x) (hm:X.mg x=none) (hv:bootBuiltins x=some (.type T)) (hn:x ≠ "__name__" := by decide) (hd:(x == ("__debug__" : Str))=false:=by decide):QE X (.Name x pos) (tC (.ty T)):=⟨DZ hg hm hv hn hd⟩
noncomputable def Qb:Expr->Bool
 | .Name ..=>true
 | .Call ..=>true
 | .Subscript ..=>true
 | .Attribute ..=>true
 | .Constant ..=>true
 | .List ..=>true
 | .Tuple ..=>true
 | .BinOp ..=>true
 | _=>false
theorem FQ {e:Expr} {env:Env} (h:Qb e=true):∀ whole,isTrue e env whole=(do let v <- whole; standAt e.pos; holding [v] (truthy v)):=by
 cases e<;>first | (intro _; rfl) | cases h
theorem gN:QA X [] VX:=⟨YT⟩
theorem qI (ha:QE X e te) (hr:QA X es t) (h:yi e=true:=by rfl):QA X (e::es) (VW te t):=⟨YU ha.h hr.h h⟩
theorem C3 {x1} (h:QA X es t):QE X (.Tuple es x1 pos) (Jw t):=⟨QY h.h⟩
noncomputable def Wo:Expr->Bool
 | .Name ..=>true
 | .Constant ..=>true
 | .BinOp ..=>true
 | .Call ..=>true
 | .UnaryOp ..=>true
 | .Subscript ..=>true
 | .Attribute ..=>true
 | _=>false
theorem Wp {b:Expr} (h:Wo b=true):ZE b:=by
 cases b<;>first | (intro _ _; rfl) | cases h
theorem gP {r:List V->Hp->VK->Prop} (hc:xV X (.builtin id) r) (hg:Gl X x) (hm:X.mg x=none) (hv:bootBuiltins x=some (.builtin id)) (ha:QA X (e::es) t) (hn:x ≠ "__name__" := by decide) (hdb:(x == ("__debug__" : Str))=false:=by decide)
  (he:(e::es).all yi=true:=by rfl):QE X (.Call (.Name x p) (e::es) [] pos) (Yr r t):=by
 rw [List.all_cons,Bool.and_eq_true] at he
 exact ⟨Dc hc hg hm hv ha.h hn hdb (vx he.1) (kx he.2)⟩
theorem q_ {r:List V->Hp->VK->Prop} (hc:xV X (.type T) r) (hg:Gl X x) (hm:X.mg x=none) (hv:bootBuiltins x=some (.type T)) (ha:QA X (e::es) t) (hn:x ≠ "__name__" := by decide) (hdb:(x == ("__debug__" : Str))=false:=by decide)
  (he:(e::es).all yi=true:=by rfl):QE X (.Call (.Name x p) (e::es) [] pos) (Yr r t):=by
 rw [List.all_cons,Bool.and_eq_true] at he
 exact ⟨Dd hc hg hm hv ha.h hn hdb (vx he.1) (kx he.2)⟩
variable {st:Stmt} {sts body:List Stmt} {ts us tbs:TS} {g:TG} {wi:TI}
noncomputable def gH:Expr->Bool
 | .ListComp ..=>false
 | .SetComp ..=>false
 | .DictComp ..=>false
 | _=>true
theorem Q9 {e:Expr} {tgt:Option Expr} {n:Nat} {env:Env} (h:gH e=true):swapsWith e tgt n env=pure false:=by
 cases e<;>first | rfl | cases h
theorem Qv (he:QE X e te) (hs:gH e=true:=by rfl):QS X (.Expr e pos) (Jv te):=⟨Fd he.h (Q9 hs)⟩
theorem Qw {i:Nat} {x:Str} {pos':Pos} (hN:X.N.Nodup) (hi:X.N[i]?=some x) (hx:uJ X.env.scope x) (he:QE X e te) (hs:gH e=true:=by rfl) (hf:X.fn x=true\/X.env.scope.names.lookup x=some .local:=by first | exact .inl rfl | exact .inr rfl | assumption) :
  QS X (.Assign [.Name x pos'] e pos) (Jt te (vR i)):=⟨Fg hN hi hx he.h (Q9 hs) hf⟩
theorem yK {i:Nat} {x:Str} (hN:X.N.Nodup) (hi:X.N[i]?=some x) (hx:uJ X.env.scope x) (hf:X.fn x=true\/X.env.scope.names.lookup x=some .local:=by first | exact .inl rfl | exact .inr rfl | assumption):QG X (.Name x pos) (vR i):=⟨Dt hN hi hx hf⟩
theorem tD:ZG X [] jw:=⟨Dw⟩
theorem wR {t:TG} {u:uK} (h1:QG X e t) (h2:ZG X es u) (hs:(assignEach (e::es) X.env).map (·.2)=assign e X.env::(assignEach es X.env).map (·.2):=by rfl):ZG X (e::es) (qA t u):=⟨Dv h1.h h2.h hs⟩
theorem t9 {k:Nat} {t:uK} {n:Nat} (hc:X.calm=true) (h:ZG X es t) (hn:(assignEach es X.env).length=n:=by rfl) (hst:(assignEach es X.env).findIdx? (·.1)=none:=by rfl):QG X (.Tuple es k pos) (jx X.K n t):=⟨Du hc h.h hn hst⟩
variable {ifs:List Expr} {scope:Scope} {cl:List (Str×Addr)} {own:List Str} {tcc:TT}
variable {name:Str} {rm:V->List V->Hp->VK->Prop}
theorem Jl {env:Env} {pos:Pos}:∀ {es:List Expr},es.all yi=true->(backTo pos (starEach es env)).all (fun x=>!x.1)=true
 | [],_=>rfl
 | e::es,h=>by
  rw [List.all_cons,Bool.and_eq_true] at h
  rw [vx h.1]
  have ih:=Jl (env:=env) (pos:=pos) h.2
  unfold backTo at ih ⊢
  rw [List.map_cons,List.all_cons,ih]
  rfl
theorem gO (pa:PlainAttrs T) (slot:Slot T name id) (hty:typeOf (.builtin id)=pure (.type "method_descriptor")) (hm:tW X id rm) (ho:QE X o to) (ha:QA X (e::es) t)
  (hbase:attributeBase o name X.env (eval o X.env)=eval o X.env:=by rfl) (hline:(apos.endLine == cpos.line)=true:=by rfl) (he:(e::es).all yi=true:=by rfl) (hl:(e::es).length<30:=by decide) :
  QE X (.Call (.Attribute o name apos) (e::es) [] cpos) (Ju X.K T rm to t):=⟨by
 have ha':=Jl (env:=X.env) (pos:=cpos) he
 rw [List.all_cons,Bool.and_eq_true] at he
 refine DY pa slot hty hm ho.h ha.h hbase ?_ hline (vx he.1) (kx he.2)
 rw [ha']
 show (true&&true&&decide ((e::es).length+0+0<30))=true
 rw [decide_eq_true (show (e::es).length+0+0<30 from hl)]
 rfl⟩
end
section
variable {P:Program} {w:World} {K:PySem.W.Frag} {mg:Str->Option Value} {base:Heap}
end
end L2
namespace L2
open PySem PySem.Spec PyProof.Rows
noncomputable def U4 (K:PySem.W.Frag) (H:Hp) (a c:Addr) (xs ys:List V):Prop:=(yR K H a xs/\yR K H c ys)\/(yE K H a xs/\yE K H c ys)
section
variable {X:Cx} {pins:List (Addr×Obj)} {σ:St} {H:Hp} {s:Shared}
theorem CP {A:Around} {a c:Addr} {xs ys:List V} {e:Nat->Bool} (I:Inv X pins σ H s) (hu:A.units<cLine) (hq:U4 X.K H a c xs ys)
  (he:∀ (j:Nat) x' y' u v,xs[j]?=some x'->ys[j]?=some y'->zi x' u->zi y' v->SeqAt.EqAt A.in1 s u v (e j)) :
  SeqAt.RcAt A s (.ref a) (.ref c) ((List.range (min xs.length ys.length)).all e&&xs.length == ys.length)/\SeqAt.RcNeAt A s (.ref a) (.ref c) (!((List.range (min xs.length ys.length)).all e&&xs.length == ys.length)):=by
 have get:∀ {zs:List V} {us:List Value} {j:Nat} (hj:j<us.toArray.size),zf zs us->∃ z,zs[j]?=some z/\zi z us.toArray[j]:=fun {zs us j} hj r=>by
  have hl:=r.length
  have hj':j<zs.length:=by
   rw [List.size_toArray] at hj
   omega
  obtain ⟨u,hu',ru⟩:=r.get (List.getElem?_eq_getElem hj')
  refine ⟨_,List.getElem?_eq_getElem hj',?_⟩
  have:us.toArray[j]=u:=by
   have h2:us[j]?=some us[j]:=List.getElem?_eq_getElem (by omega)
   rw [h2] at hu'
   simpa using hu'
  rw [this]
  exact ru
 rcases hq with ⟨ha,hc⟩ | ⟨ha,hc⟩
 ·obtain ⟨us,ra,pa,_⟩:=I.tuple ha
  obtain ⟨vs,rc,pc,_⟩:=I.tuple hc
  have h1:=ra.length
  have h2:=rc.length
  have key:∀ j (k1:j<us.toArray.size) (k2:j<vs.toArray.size),SeqAt.EqAt A.in1 s us.toArray[j] vs.toArray[j] (e j):=fun j k1 k2=>by
   obtain ⟨z1,e1,r1⟩:=get k1 ra
   obtain ⟨z2,e2,r2⟩:=get k2 rc
   exact he j z1 z2 _ _ e1 e2 r1 r2
  have p:=SeqAt.RcAt.tuples (e:=e) pa pc hu key
  have q:=SeqAt.RcNeAt.tuples (e:=e) pa pc hu key
  rw [List.size_toArray,List.size_toArray,<- h1,<- h2] at p q
  exact ⟨p,q⟩
 ·obtain ⟨us,ra,pa,_⟩:=I.list ha
  obtain ⟨vs,rc,pc,_⟩:=I.list hc
  have h1:=ra.length
  have h2:=rc.length
  have key:∀ j (k1:j<us.toArray.size) (k2:j<vs.toArray.size),SeqAt.EqAt A.in1 s us.toArray[j] vs.toArray[j] (e j):=fun j k1 k2=>by
   obtain ⟨z1,e1,r1⟩:=get k1 ra
   obtain ⟨z2,e2,r2⟩:=get k2 rc
   exact he j z1 z2 _ _ e1 e2 r1 r2
  by_cases hl:xs.length=ys.length
  ·have hs:us.toArray.size=vs.toArray.size:=by rw [List.size_toArray,List.size_toArray]; omega
   have p:=SeqAt.RcAt.lists (e:=e) pa.isList pc.isList hs hu key
   have q:=SeqAt.RcNeAt.lists (e:=e) pa.isList pc.isList hs hu key
   have e1:min xs.length ys.length=us.toArray.size:=by rw [List.size_toArray]; omega
   have e2:(xs.length == ys.length)=true:=by simp [hl]
   rw [e1,e2,Bool.and_true]
   exact ⟨p,q⟩
  ·have hs:(us.toArray.size != vs.toArray.size)=true:=by
    rw [List.size_toArray,List.size_toArray]
    simp
    omega
   have e2:(xs.length == ys.length)=false:=by simp [hl]
   rw [e2,Bool.and_false]
   exact ⟨SeqAt.RcAt.lists_lengths pa.isList pc.isList hs hu,SeqAt.RcNeAt.lists_lengths pa.isList pc.isList hs hu⟩
theorem Y3 (A:Around):A.in1.units=A.units+1:=rfl
end
theorem On {x:V} (h:u5 x=true):vg x x=true:=by
 cases x<;>first | rfl | (simp [vg]; done) | cases h
end L2
namespace L2
open PySem PySem.Spec PyProof.Rows
open PySem.W (hideAll)
section
variable {P:Program} {w:World} {l:List Env} {H H':Hp} {h B h' h'':Heap}
end
section
variable {X:Cx} {pins:List (Addr×Obj)} {σ:St} {H H':Hp} {s:Shared} {B h':Heap}
variable {x:Str} {C:Addr} {np cpos pos:Pos} {e:Expr} {es:List Expr} {t:TA} {E:XK}
end
section
variable {P:Program} {w:World} {K:PySem.W.Frag} {mg:Str->Option Value} {base:Heap} {N:List Str} {qual:Str} {scope:Scope} {f:Addr} {cd:Value} {A:Around} {outer:List Env} {s₀:Shared} {H₀:Hp} {E:XK}
end
section
variable {X:Cx} {x:Str} {np cpos pos p:Pos} {e:Expr} {es:List Expr} {t:TA} {E:XK} {C:Addr} {ps:List Str} {j k:Nat} {sp:Sp}
end
end L2
namespace L2
open PySem PySem.Spec PyProof.Rows
section
variable {X:Cx} {pins:List (Addr×Obj)} {σ:St} {H H':Hp} {s:Shared} {a C:Addr}
noncomputable def IV (a C:Addr) (h:Heap):Prop:=∃ o vs,h.get? a=some o/\o.cls=.ref C/\o.data=.fields vs
theorem HM {fs ex:List Addr} {H H':Hp} {h h':Heap} {D:Addr} {o:HO} (u:Un fs ex H H' h h') (hD:h.get? D=none) (hn:H' D=none):Un fs ex H (zX H' D o) h h' where
 keep:=u.keep
 slot:=u.slot
 free:=fun b ob q n hx=>by rw [yf (fun z=>by subst z; rw [hD] at q; cases q)]; exact u.free b ob q n hx
 there:=u.there
 tups:=fun b xs q=>by rw [yf (wT (u.tups b xs q) hn)]; exact u.tups b xs q
 frzs:=fun b ob v q=>by rw [yf (wT (u.frzs b ob v q) hn)]; exact u.frzs b ob v q
 tbls:=fun b ps q=>by
  obtain ⟨more,z⟩:=u.tbls b ps q
  exact ⟨more,by rw [yf (wT z hn)]; exact z⟩
end
section
variable {X:Cx} {x n:Str} {p pos np hpos tpos:Pos} {e e1 e2:Expr} {es:List Expr} {ta:TA} {te:TE} {tx:TX} {ps:List Str} {j k i:Nat} {sp:Sp} {E:XK} {D:Addr}
variable {suite:List Stmt} {ts:TS} {b₀:Stmt}
end
end L2
namespace L2
open PySem PySem.Spec PyProof.Rows
section
variable {X:Cx} {x:Str} {p pos:Pos} {e:Expr} {es:List Expr} {t:TA} {ps:List Str} {j k:Nat} {sp:Sp}
end
end L2
namespace L2
open PySem PySem.Spec PyProof.Rows
noncomputable abbrev TJ:=St->Hp->Str->VK->Prop
structure QJ (X:Cx) (es:List Expr) (t:TJ):Prop where
 h:∀ (pins:List (Addr×Obj)) (s:Shared) (σ:St) (H:Hp) (acc:Str) (Q:VK),Inv X pins σ H s->t σ H acc Q->wpAny (model X.prog X.w) X.A (joinParts acc (evalEach es X.env)) (EP X pins σ Q) X.xe s
section
variable {X:Cx} {e e1 e2:Expr} {es:List Expr} {te:TE} {t:TJ} {pos:Pos}
noncomputable def GZ (te:TE) (t:TJ):TJ:=fun σ H acc Q=>te σ H fun v H1=>∃ y,v=.str y/\(acc++y).length<=sizeLine/\t σ H1 (acc++y) Q
theorem C6:QJ X [] (fun _ H acc Q=>acc.length<=sizeLine/\Q (.str acc) H):=⟨fun pins s σ H acc Q I q=>wpAny_mkStr ⟨.str acc,H,I.tok _,⟨_,rfl⟩,q.2⟩ q.1⟩
theorem C5 (he:QE X e te) (ht:QJ X es t):QJ X (e::es) (GZ te t):=by
 refine ⟨fun pins s σ H acc Q I q=>?_⟩
 show wpAny _ _ (joinParts acc (eval e X.env::evalEach es X.env)) _ _ s
 refine joinParts_cons (zj (he.h pins s σ H _ I q) fun u s1 ⟨v,H1,I1,r,y,hv,hl,q1⟩=>?_)
 subst hv
 obtain ⟨tk,rfl⟩:=(show ∃ tk,u=Value.str y tk from r)
 exact ⟨hl,ht.h pins s1 σ H1 _ Q I1 q1⟩
theorem C2 (h:QJ X (e1::e2::es) t):QE X (.JoinedStr (e1::e2::es) pos) (fun σ H Q=>t σ H Str.empty Q):=⟨fun pins s σ H Q I q=>h.h pins s σ H _ Q I q⟩
noncomputable def GV (te:TE):TE:=fun σ H Q=>te σ H fun v H1=>(∃ a:Int,v=.int a/\a.natAbs.log2<1920/\Q (.str (Str.ofString (toString a))) H1)\/∃ y:Str,v=.str y/\y.length<=sizeLine/\Q (.str y) H1
theorem C1 (he:QE X e te):QE X (.FormattedValue e (-1) none pos) (GV te):=by
 refine ⟨fun pins s σ H Q I q=>?_⟩
 refine FormattedValue_plain (zj (he.h pins s σ H _ I q) fun u s1 ⟨v,H1,I1,r,z⟩=>?_)
 rcases z with ⟨a,rfl,hl,q1⟩ | ⟨y,rfl,hl,q1⟩
 ·obtain ⟨tk,rfl⟩:=(show ∃ tk,u=Value.int a tk from r)
  exact formatField_int_small hl ⟨.str (Str.ofString (toString a)),H1,I1.tok _,⟨_,rfl⟩,q1⟩
 ·obtain ⟨tk,rfl⟩:=(show ∃ tk,u=Value.str y tk from r)
  exact formatField_str (fun t' tk'=>⟨.str y,H1,I1.tok _,⟨_,rfl⟩,q1⟩) hl
theorem Li {a:Int} (h:a.natAbs.log2<1920):(Str.ofString (toString a)).length<=1921:=by
 have e:=int_text_length_le (k:=1920) (by decide) h
 rw [PySem.ofString_length]; exact e
theorem Gy {a:Str} {m:Nat} (h:a.length<=m) (hm:m<=16777216:=by decide):a.length<=sizeLine:=Nat.le_trans h (by rw [sizeLine_eq]; exact hm)
end
end L2
namespace L2
open PySem PySem.Spec PyProof.Rows
open PySem.W (Looks findIn mroIn looks_findIn looks_mroIn clsIn)
section
variable {prog:Program} {w:World} {A:Around} {E:Value->Shared->Prop} {h:Heap} {g:Array GenState} {d:Drawn} {t:Nat} {os:OsState} {a C:Addr} {o:Obj} {K:PySem.W.Frag}
end
end L2
namespace L2
open PySem PySem.Spec PyProof.Rows
section
variable {X:Cx}
theorem HP {bs:List Bool} {its:List Value} (r:zf (bs.map V.bl) its) {i:Nat} {v:Value} (h:its.toArray[i]?=some v):v=.bool (bs.getD i false):=by
 have hi:i<its.length:=by
  rw [List.getElem?_toArray] at h
  exact (List.getElem?_eq_some_iff.mp h).1
 have hl:bs.length=its.length:=by have:=r.length; rw [List.length_map] at this; exact this
 have hx:(bs.map V.bl)[i]?=some (.bl (bs.getD i false)):=by
  rw [List.getElem?_map,List.getD_eq_getElem?_getD,List.getElem?_eq_getElem (by omega)]
  rfl
 obtain ⟨u,hu,ru⟩:=r.get hx
 rw [List.getElem?_toArray,hu] at h
 cases h
 exact ru
theorem CN {bs:List Bool}:(List.range bs.length).all (fun i=>bs.getD i false)=bs.all id:=by
 rw [Bool.eq_iff_iff,List.all_eq_true,List.all_eq_true]
 constructor
 ·intro h b hb
  obtain ⟨i,hi,rfl⟩:=List.mem_iff_getElem.mp hb
  have:=h i (List.mem_range.mpr hi)
  rwa [List.getD_eq_getElem?_getD,List.getElem?_eq_getElem hi] at this
 ·intro h i hi
  have hi':=List.mem_range.mp hi
  rw [List.getD_eq_getElem?_getD,List.getElem?_eq_getElem hi']
  exact h _ (List.getElem_mem hi')
noncomputable def Qy (K:PySem.W.Frag):List V->Hp->VK->Prop:=fun xs H Q=>∃ (p:Addr) (bs:List Bool),xs=[.ref p]/\yE K H p (bs.map V.bl)/\Q (.bl (bs.all id)) H
theorem uw (hc:X.calm=true):xV X (.builtin "all") (Qy X.K):=by
 intro pins s σ H xs us Q I r h
 obtain ⟨p,bs,rfl,hq,q⟩:=h
 obtain ⟨u,rfl,rx⟩:=wN r
 cases rx
 have hd:=I.ok.hd hc
 refine call_all_walk ?_
 obtain ⟨its,rv,pl,hz⟩:=I.list hq
 have hl:bs.length=its.toArray.size:=by have:=rv.length; rw [List.length_map] at this; rw [List.size_toArray]; exact this
 have hlt:p<s.heap.objs.size:=by obtain ⟨o,n,e,_⟩:=pl; exact Heap.lt_size e
 refine wpAny_pyIter_list pl.isList ?_
 refine ⟨_,_,_,_,_,_,fun i=>bs.getD i false,rfl,Walks.list (by exact hd) s.heap.objs.size p (Nat.ne_of_lt hlt) its.toArray,⟨⟨_,Heap.get?_push_size _ rfl,rfl,rfl⟩,pl.isList.push _⟩,?_,?_⟩
 ·intro i v Q' E' s' hv h'
  rw [HP rv hv]
  exact wpAny_pure h'
 ·intro h' tk k
  rw [<- hl,CN]
  exact ⟨.bl (bs.all id),H,I.kept (t':=tk) fun b o eb=>k b o (fun z=>by
   have:b=s.heap.objs.size:=by simpa using z
   rw [this] at eb
   exact absurd (Heap.lt_size eb) (Nat.lt_irrefl _)) (Heap.get?_push_of_some _ eb),rfl,q⟩
end
end L2
namespace L2
open PySem PySem.Spec PyProof.Rows
open Builtin.SmallTypes (nextOf)
structure qg (P:Program) (w:World) (it l:Addr) (st:Nat->Heap->Prop) (n:Nat) (val:Nat->Value):Prop where
 keep:∀ i h h',st i h->(∀ b o,(b=it\/b=l)->h.get? b=some o->h'.get? b=some o)->st i h'
 item:∀ {A:Around} {Q:Value->Shared->Prop} {E:Value->Shared->Prop} {s:Shared} (i:Nat),st i s.heap->i<n->(∀ h',st (i+1) h'->Heap.SameBut it s.heap h'->Q (val i) { s with heap:=h' })->wpAny (model P w) A (nextOf (.ref it)) Q E s
 done:∀ {A:Around} {Q:Value->Shared->Prop} {E:Value->Shared->Prop} {s:Shared} (i:Nat),A.handled=none->st i s.heap->n<=i->
  (∀ h' e,Heap.ExtBut it s.heap h'->(∃ o,h'.get? e=some o/\o.cls=.type "StopIteration")->E (.ref e) { s with heap:=h' })->wpAny (model P w) A (nextOf (.ref it)) Q E s
section
variable {prog:Program} {w:World} {A:Around} {E:Value->Shared->Prop} {s:Shared}
theorem Mw {it t:Addr} {i:Nat} {items} {x:Value} {Q:Value->Shared->Prop} (hit:s.heap.IsTupleIter it t i) (ht:s.heap.IsTuple t items) (hx:items[i]?=some x)
  (hQ:∀ h',h'.IsTupleIter it t (i+1)->Heap.SameBut it s.heap h'->Q x { s with heap:=h' }):wpAny (model prog w) A (nextOf (.ref it)) Q E s:=by
 obtain ⟨o,ho,hc,hd⟩:=id hit
 obtain ⟨ol,hol,_,nl,hdl⟩:=ht
 unfold nextOf
 refine wpAny_bind (wpAny_callSpecial?_slot (name:=Str.ofString "__next__") hit.typeIs F.slot_tuple_iterator_next
  (wpAny_call_entry F.slot_tuple_iterator_next hit.typeIs F.entry_tuple_iterator_next ?_ (F.args_tuple_iterator_next_1 _)))
 refine wpAny_bind (m:=field (.ref it) 0) (wpAny_field ho hd (x:=.ref t) rfl ?_)
 show wpAny _ _ (if (Value.ref t == Value.none)=true then _ else _) _ _ s
 rw [if_neg (show ¬ ((Value.ref t == Value.none)=true) from Bool.false_ne_true)]
 refine wpAny_bind (m:=field (.ref it) 1) (wpAny_field ho hd (x:=.int i 0) rfl ?_)
 refine wpAny_bind (m:=seqItems? (.ref t)) (wpAny_seqItems hol hdl ?_)
 simp only [Int.toNat_natCast,hx]
 refine wpAny_bind (wpAny_setField ho hd (by simp) (wpAny_pure ⟨x,rfl,wpAny_pure (hQ _ ?_ (Heap.SameBut.update ..))⟩))
 exact ⟨_,Heap.get?_update_self _ ho (Obj.isFreed_of_fields (Obj.data_mapFields hd _)),(Obj.cls_mapFields ..).trans hc,by
  rw [Obj.data_mapFields hd]; simp [rawInt]⟩
theorem Mv {it t:Addr} {i:Nat} {items} {Q:Value->Shared->Prop} (hh:A.handled=none) (hit:s.heap.IsTupleIter it t i) (ht:s.heap.IsTuple t items) (hx:items[i]?=none)
  (hE:∀ h' e,Heap.ExtBut it s.heap h'->(∃ o,h'.get? e=some o/\o.cls=.type "StopIteration")->E (.ref e) { s with heap:=h' }):wpAny (model prog w) A (nextOf (.ref it)) Q E s:=by
 obtain ⟨o,ho,hc,hd⟩:=id hit
 obtain ⟨ol,hol,_,nl,hdl⟩:=ht
 unfold nextOf
 refine wpAny_bind (wpAny_callSpecial?_slot (name:=Str.ofString "__next__") hit.typeIs F.slot_tuple_iterator_next
  (wpAny_call_entry F.slot_tuple_iterator_next hit.typeIs F.entry_tuple_iterator_next ?_ (F.args_tuple_iterator_next_1 _)))
 refine wpAny_bind (m:=field (.ref it) 0) (wpAny_field ho hd (x:=.ref t) rfl ?_)
 show wpAny _ _ (if (Value.ref t == Value.none)=true then _ else _) _ _ s
 rw [if_neg (show ¬ ((Value.ref t == Value.none)=true) from Bool.false_ne_true)]
 refine wpAny_bind (m:=field (.ref it) 1) (wpAny_field ho hd (x:=.int i 0) rfl ?_)
 refine wpAny_bind (m:=seqItems? (.ref t)) (wpAny_seqItems hol hdl ?_)
 simp only [Int.toNat_natCast,hx]
 refine wpAny_bind (wpAny_rule (wpAny_bind (wpAny_setField ho hd (by simp) ?_)))
 refine wpAny_bind (m:=newExc (.type "StopIteration") []) ?_
 simp only [newExc,newTuple]
 refine wpAny_bind (wpAny_newObj_type ?_ (by size_fits))
 refine wpAny_bind (m:=firstArgMember _ _) (wpAny_of_eq (a:=Value.none) (by first | rfl | (simp only [firstArgMember]; rfl)) ?_)
 refine wpAny_newObj_type ?_ (by size_fits)
 simp only [raiseNew]
 refine wpAny_bind (wpAny_handled ?_)
 first | rw [show A.in1.handled=none from hh] | rw [hh]
 refine wpAny_bind (wpAny_pure (wpAny_throw ?_))
 exact hE _ _ (((Heap.SameBut.update ..).extBut.push _).push _) ⟨_,Heap.get?_push_size _ rfl,rfl⟩
theorem GI {it l:Addr} (hne:l≠it) (items:Array Value):qg prog w it l (fun i h=>h.IsListIter it l i/\h.IsList l items) items.size (fun i=>items.getD i .none) where
 keep:=fun i h h' st k=>⟨st.1.at fun o e=>k it o (.inl rfl) e,st.2.at fun o e=>k l o (.inr rfl) e⟩
 item:=fun i st hi hQ=>wpAny_nextOf_list_item st.1 st.2 (x:=items.getD i .none) (by simp [Array.getD,hi]) fun h' st' sb=>hQ h' ⟨st',st.2.extBut sb.extBut hne⟩ sb
 done:=fun i hh st hi hE=>wpAny_nextOf_list_end hh st.1 st.2 (Array.getElem?_eq_none hi) hE
theorem GJ {it l:Addr} (hne:l≠it) (items:Array Value):qg prog w it l (fun i h=>h.IsTupleIter it l i/\h.IsTuple l items) items.size (fun i=>items.getD i .none) where
 keep:=fun i h h' st k=>⟨st.1.at fun o e=>k it o (.inl rfl) e,st.2.at fun o e=>k l o (.inr rfl) e⟩
 item:=fun i st hi hQ=>Mw st.1 st.2 (x:=items.getD i .none) (by simp [Array.getD,hi]) fun h' st' sb=>hQ h' ⟨st',st.2.extBut sb.extBut hne⟩ sb
 done:=fun i hh st hi hE=>Mv hh st.1 st.2 (Array.getElem?_eq_none hi) hE
variable {z TI TO i1 i2 l1 l2:Addr} {st1 st2:Nat->Heap->Prop} {n1 n2:Nat} {v1 v2:Nat->Value} {a b:Value} {k:Nat}
theorem HZ {Q:Value->Shared->Prop} (D:ZipApart z TI TO i1 i2 l1 l2) (S1:qg prog w i1 l1 st1 n1 v1) (S2:qg prog w i2 l2 st2 n2 v2)
  (hz:IsZip s.heap z TI TO .none) (hTI:IsPair s.heap TI (.ref i1) (.ref i2)) (hTO:IsPair s.heap TO a b) (h1:st1 k s.heap) (h2:st2 k s.heap) (k1:k<n1) (k2:k<n2)
  (hi1:i1<s.heap.objs.size) (hi2:i2<s.heap.objs.size) (hl1:l1<s.heap.objs.size) (hl2:l2<s.heap.objs.size)
  (hQ:∀ h',IsZip h' z TI TO (rawInt s.heap.objs.size)->IsPair h' TO (v1 k) (v2 k)->st1 (k+1) h'->st2 (k+1) h'->IsPair h' s.heap.objs.size (v1 k) (v2 k)->
   (∀ c o,c≠z->c≠TO->c≠i1->c≠i2->s.heap.get? c=some o->h'.get? c=some o)->Q (.ref s.heap.objs.size) { s with heap:=h' }) :
  wpAny (model prog w) A (Builtin.«zip.__next__» ⟨[.ref z],[]⟩) (fun fin s'=>∃ v,fin=.done (.ret v)/\Q v s') E s:=by
 refine wpAny_bind (m:=field (.ref z) 2) (wpAny_field hz rfl (x:=.bool false) rfl ?_)
 refine wpAny_bind (m:=field (.ref z) 3) (wpAny_field hz rfl (x:=.ref TI) rfl ?_)
 refine wpAny_bind (wpAny_seqItems hTI rfl ?_)
 refine wpAny_bind (m:=Builtin.SmallTypes.ownedTupleIsFree (.ref z)) ?_
 unfold Builtin.SmallTypes.ownedTupleIsFree
 refine wpAny_bind (wpAny_field hz rfl (x:=.none) rfl (wpAny_pure ?_))
 simp only [if_true]
 refine wpAny_bind (wpAny_rule (wpAny_bind (wpAny_field hz rfl (x:=.ref TO) rfl ?_)))
 refine wpAny_bind (wpAny_setField_rec hz (by simp) fun ha hza sa=>?_)
 replace hza:IsZip ha z TI TO .ellipsis:=hza
 refine wpAny_bind ?_
 simp only [List.zipIdx_cons,List.zipIdx_nil,List.forIn_cons,List.forIn_nil]
 have h1a:st1 k ha:=S1.keep k _ _ h1 fun c o hc e=>sa.extBut c o (by rcases hc with rfl | rfl; exact D.i1z; exact D.l1z) e
 refine wpAny_bind (wpAny_bind (wpAny_onRaise (wpAny_bind (m:=nextOf (.ref i1)) (S1.item k h1a k1 fun hb h1b sb=>wpAny_pure ?_))))
 have hTOb:IsPair hb TO a b:=sb.extBut _ _ D.TOi1 (sa.extBut _ _ D.TOz hTO)
 refine wpAny_bind (wpAny_seqItems hTOb rfl (wpAny_bind (wpAny_updateSeq_pair hTOb fun hc hTOc sc=>?_)))
 replace hTOc:IsPair hc TO (v1 k) b:=hTOc
 refine wpAny_bind (wpAny_letGo (wpAny_pure ?_))
 have h2c:st2 k hc:=S2.keep k _ _ h2 fun c o hcc e=>by
  rcases hcc with rfl | rfl
  ·exact sc.extBut _ _ D.TOi2.symm (sb.extBut _ _ D.i12.symm (sa.extBut _ _ D.i2z e))
  ·exact sc.extBut _ _ D.l2TO (sb.extBut _ _ D.l2i1 (sa.extBut _ _ D.l2z e))
 refine wpAny_bind (wpAny_bind (wpAny_onRaise (wpAny_bind (m:=nextOf (.ref i2)) (S2.item k h2c k2 fun hd h2d sd=>wpAny_pure ?_))))
 have hTOd:IsPair hd TO (v1 k) b:=sd.extBut _ _ D.TOi2 hTOc
 refine wpAny_bind (wpAny_seqItems hTOd rfl (wpAny_bind (wpAny_updateSeq_pair hTOd fun he hTOe se=>?_)))
 replace hTOe:IsPair he TO (v1 k) (v2 k):=hTOe
 refine wpAny_bind (wpAny_letGo (wpAny_pure (wpAny_pure ?_)))
 refine wpAny_bind (wpAny_seqItems hTOe rfl (wpAny_bind (wpAny_newTuple ?_)))
 have hsz:he.objs.size=s.heap.objs.size:=by rw [se.1,sd.1,sc.1,sb.1,sa.1]
 have hze:IsZip he z TI TO .ellipsis:=se.extBut _ _ D.TOz.symm (sd.extBut _ _ D.i2z.symm (sc.extBut _ _ D.TOz.symm (sb.extBut _ _ D.i1z.symm hza)))
 have hke:∀ c o,c≠z->c≠TO->c≠i1->c≠i2->s.heap.get? c=some o->he.get? c=some o:=fun c o c1 c2 c3 c4 e=>
  se.extBut _ _ c2 (sd.extBut _ _ c4 (sc.extBut _ _ c2 (sb.extBut _ _ c3 (sa.extBut _ _ c1 e))))
 have h1e:st1 (k+1) he:=S1.keep _ _ _ h1b fun c o hcc e=>by
  rcases hcc with rfl | rfl
  ·exact se.extBut _ _ D.TOi1.symm (sd.extBut _ _ D.i12 (sc.extBut _ _ D.TOi1.symm e))
  ·exact se.extBut _ _ D.l1TO (sd.extBut _ _ D.l1i2 (sc.extBut _ _ D.l1TO e))
 have h2e:st2 (k+1) he:=S2.keep _ _ _ h2d fun c o hcc e=>by
  rcases hcc with rfl | rfl
  ·exact se.extBut _ _ D.TOi2.symm e
  ·exact se.extBut _ _ D.l2TO e
 have hzlt:z<he.objs.size:=Heap.lt_size hze
 refine wpAny_bind (m:=Builtin.SmallTypes.ownedTupleHandOut (.ref z) (.ref he.objs.size)) ?_
 unfold Builtin.SmallTypes.ownedTupleHandOut
 have hzf:IsZip (he.push { cls:=.type "tuple",data:=.seq #[v1 k,v2 k] }) z TI TO .ellipsis:=Heap.get?_push_of_some _ hze
 refine wpAny_bind (wpAny_setField_rec hzf (by simp) fun hg hzg sg=>?_)
 replace hzg:IsZip hg z TI TO (rawInt he.objs.size):=hzg
 refine wpAny_setField_rec hzg (by simp) fun hh hzh sh=>?_
 replace hzh:IsZip hh z TI TO (rawInt he.objs.size):=hzh
 have up:∀ c o,c≠z->he.get? c=some o->hh.get? c=some o:=fun c o c1 e=>sh.extBut _ _ c1 (sg.extBut _ _ c1 (Heap.get?_push_of_some _ e))
 have hT:IsPair hh he.objs.size (v1 k) (v2 k):=sh.extBut _ _ (Nat.ne_of_gt hzlt) (sg.extBut _ _ (Nat.ne_of_gt hzlt) (Heap.get?_push_size _ rfl))
 rw [hsz] at hzh hT
 refine wpAny_pure ⟨_,rfl,?_⟩
 show Q (.ref he.objs.size) _
 rw [hsz]
 refine hQ hh hzh (up _ _ D.TOz hTOe) (S1.keep _ _ _ h1e fun c o hcc e=>up c o ?_ e) (S2.keep _ _ _ h2e fun c o hcc e=>up c o ?_ e) hT fun c o c1 c2 c3 c4 e=>up c o c1 (hke c o c1 c2 c3 c4 e)
 ·rcases hcc with rfl | rfl
  ·exact D.i1z
  ·exact D.l1z
 ·rcases hcc with rfl | rfl
  ·exact D.i2z
  ·exact D.l2z
theorem HY {Q:Fin->Shared->Prop} (hh:A.handled=none) (D:ZipApart z TI TO i1 i2 l1 l2) (S1:qg prog w i1 l1 st1 n1 v1) (S2:qg prog w i2 l2 st2 n2 v2)
  (hz:IsZip s.heap z TI TO .none) (hTI:IsPair s.heap TI (.ref i1) (.ref i2)) (hTO:IsPair s.heap TO a b) (h1:st1 k s.heap) (h2:st2 k s.heap) (hend:n1<=k\/n2<=k)
  (hE:∀ h' e,(∀ c o,c≠z->c≠TO->c≠i1->c≠i2->s.heap.get? c=some o->h'.get? c=some o)->(∃ o,h'.get? e=some o/\o.cls=.type "StopIteration")->E (.ref e) { s with heap:=h' }) :
  wpAny (model prog w) A (Builtin.«zip.__next__» ⟨[.ref z],[]⟩) Q E s:=by
 refine wpAny_bind (m:=field (.ref z) 2) (wpAny_field hz rfl (x:=.bool false) rfl ?_)
 refine wpAny_bind (m:=field (.ref z) 3) (wpAny_field hz rfl (x:=.ref TI) rfl ?_)
 refine wpAny_bind (wpAny_seqItems hTI rfl ?_)
 refine wpAny_bind (m:=Builtin.SmallTypes.ownedTupleIsFree (.ref z)) ?_
 unfold Builtin.SmallTypes.ownedTupleIsFree
 refine wpAny_bind (wpAny_field hz rfl (x:=.none) rfl (wpAny_pure ?_))
 simp only [if_true]
 refine wpAny_bind (wpAny_rule (wpAny_bind (wpAny_field hz rfl (x:=.ref TO) rfl ?_)))
 refine wpAny_bind (wpAny_setField_rec hz (by simp) fun ha hza sa=>?_)
 replace hza:IsZip ha z TI TO .ellipsis:=hza
 refine wpAny_bind ?_
 simp only [List.zipIdx_cons,List.zipIdx_nil,List.forIn_cons,List.forIn_nil]
 have h1a:st1 k ha:=S1.keep k _ _ h1 fun c o hc e=>sa.extBut c o (by rcases hc with rfl | rfl; exact D.i1z; exact D.l1z) e
 by_cases k1:k<n1
 ·have k2:n2<=k:=by omega
  refine wpAny_bind (wpAny_bind (wpAny_onRaise (wpAny_bind (m:=nextOf (.ref i1)) (S1.item k h1a k1 fun hb h1b sb=>wpAny_pure ?_))))
  have hTOb:IsPair hb TO a b:=sb.extBut _ _ D.TOi1 (sa.extBut _ _ D.TOz hTO)
  refine wpAny_bind (wpAny_seqItems hTOb rfl (wpAny_bind (wpAny_updateSeq_pair hTOb fun hc hTOc sc=>?_)))
  refine wpAny_bind (wpAny_letGo (wpAny_pure ?_))
  have h2c:st2 k hc:=S2.keep k _ _ h2 fun c o hcc e=>by
   rcases hcc with rfl | rfl
   ·exact sc.extBut _ _ D.TOi2.symm (sb.extBut _ _ D.i12.symm (sa.extBut _ _ D.i2z e))
   ·exact sc.extBut _ _ D.l2TO (sb.extBut _ _ D.l2i1 (sa.extBut _ _ D.l2z e))
  refine wpAny_bind (wpAny_bind (wpAny_onRaise (wpAny_bind (m:=nextOf (.ref i2)) (S2.done k hh h2c k2 fun hd e sd he=>?_))))
  obtain ⟨oe,hoe,hce⟩:=he
  have hzd:IsZip hd z TI TO .ellipsis:=sd _ _ D.i2z.symm (sc.extBut _ _ D.TOz.symm (sb.extBut _ _ D.i1z.symm hza))
  have hez:e≠z:=fun x=>by subst x; rw [hzd] at hoe; cases hoe; simp at hce
  exact wpAny_setField_rec hzd (by simp) fun hf _ sf=>hE hf e (fun c o c1 c2 c3 c4 x=>sf.extBut _ _ c1 (sd _ _ c4 (sc.extBut _ _ c2 (sb.extBut _ _ c3 (sa.extBut _ _ c1 x))))) ⟨oe,sf.extBut _ _ hez hoe,hce⟩
 ·refine wpAny_bind (wpAny_bind (wpAny_onRaise (wpAny_bind (m:=nextOf (.ref i1)) (S1.done k hh h1a (by omega) fun hb e sb he=>?_))))
  obtain ⟨oe,hoe,hce⟩:=he
  have hzb:IsZip hb z TI TO .ellipsis:=sb _ _ D.i1z.symm hza
  have hez:e≠z:=fun x=>by subst x; rw [hzb] at hoe; cases hoe; simp at hce
  exact wpAny_setField_rec hzb (by simp) fun hf _ sf=>hE hf e (fun c o c1 _ c3 _ x=>sf.extBut _ _ c1 (sb _ _ c3 (sa.extBut _ _ c1 x))) ⟨oe,sf.extBut _ _ hez hoe,hce⟩
end
end L2
namespace L2
open PySem PySem.Spec PyProof.Rows
noncomputable def wX (K:PySem.W.Frag) (tp:Bool) (H:Hp) (a:Addr) (xs:List V):Prop:=match tp with
 | true=>yR K H a xs
 | false=>yE K H a xs
noncomputable def gD (tp:Bool):String:=match tp with
 | true => "tuple_iterator"
 | false => "list_iterator"
noncomputable def wm (tp:Bool) (h:Heap) (a:Addr) (its:Array Value):Prop:=match tp with
 | true=>h.IsTuple a its
 | false=>h.IsList a its
noncomputable def tU (tp:Bool) (h:Heap) (it l:Addr) (i:Nat):Prop:=∃ o,h.get? it=some o/\o.cls=.type (gD tp)/\o.data=.fields #[.ref l,.int i 0]
theorem tU.at {tp:Bool} {h h':Heap} {it l:Addr} {i:Nat} (x:tU tp h it l i) (e:∀ o,h.get? it=some o->h'.get? it=some o):tU tp h' it l i:=let ⟨o,ho,r⟩:=x; ⟨o,e _ ho,r⟩
theorem wm.push {tp:Bool} {h:Heap} {a:Addr} {its:Array Value} (x:wm tp h a its) (o:Obj):wm tp (h.push o) a its:=by
 cases tp
 ·exact Heap.IsList.push x o
 ·exact Heap.IsTuple.push x o
theorem wm.lt {tp:Bool} {h:Heap} {a:Addr} {its:Array Value} (x:wm tp h a its):a<h.objs.size:=by
 cases tp
 ·obtain ⟨o,e,_⟩:=x; exact Heap.lt_size e
 ·obtain ⟨o,e,_⟩:=x; exact Heap.lt_size e
section
variable {prog:Program} {w:World} {A:Around} {E:Value->Shared->Prop} {s:Shared}
theorem Yq {tp:Bool} {it l:Addr} (hne:l≠it) (items:Array Value):qg prog w it l (fun i h=>tU tp h it l i/\wm tp h l items) items.size (fun i=>items.getD i .none):=by
 cases tp
 ·exact GI hne items
 ·exact GJ hne items
theorem Qu {tp:Bool} {l:Addr} {items:Array Value} {Q:Value->Shared->Prop} (h:wm tp s.heap l items)
  (hQ:Q (.ref s.heap.objs.size) { s with heap:=s.heap.push { cls:=.type (gD tp),data:=.fields #[.ref l,.int 0 0] } }):wpAny (model prog w) A (pyIter (.ref l)) Q E s:=by
 cases tp
 ·exact wpAny_pyIter_list (show s.heap.IsList l items from h) hQ
 ·exact wpAny_pyIter_tuple (show s.heap.IsTuple l items from h) hQ
noncomputable abbrev X4 (t1:Bool) (h:Heap) (l1:Addr):Heap:=h.push { cls:=.type (gD t1),data:=.fields #[.ref l1,.int 0 0] }
noncomputable abbrev X5 (t1 t2:Bool) (h:Heap) (l1 l2:Addr):Heap:=(X4 t1 h l1).push { cls:=.type (gD t2),data:=.fields #[.ref l2,.int 0 0] }
noncomputable abbrev X6 (t1 t2:Bool) (h:Heap) (l1 l2:Addr):Heap:=(X5 t1 t2 h l1 l2).push { cls:=.type "tuple",data:=.seq #[.ref h.objs.size,.ref (X4 t1 h l1).objs.size] }
noncomputable abbrev X7 (t1 t2:Bool) (h:Heap) (l1 l2:Addr):Heap:=(X6 t1 t2 h l1 l2).push { cls:=.type "tuple",data:=.seq #[.none,.none] }
noncomputable abbrev jY (t1 t2:Bool) (h:Heap) (l1 l2:Addr):Heap:=(X7 t1 t2 h l1 l2).push { cls:=.type "zip",data:=.fields #[.none,.bool false,.bool false,.ref (X5 t1 t2 h l1 l2).objs.size,.ref (X6 t1 t2 h l1 l2).objs.size] }
theorem Hd (t1 t2:Bool) (l1 l2:Addr) (xs ys:Array Value) :
  Meets (Builtin.«zip.__new__» ⟨[.type "zip",.ref l1,.ref l2],[]⟩) (fun _ R s=>wm t1 s.heap l1 xs/\wm t2 s.heap l2 ys/\R (.ok (.ret (.ref (X7 t1 t2 s.heap l1 l2).objs.size))) { s with heap:=jY t1 t2 s.heap l1 l2 }):=
 .of_wp fun prog w A R s h=>by
  obtain ⟨hp,g,d,tk,os⟩:=s; obtain ⟨hl1,hl2,h⟩:=h
  have hsub:=sub_zip
  have hL1:wm t1 (Shared.heap ⟨hp,g,d,tk,os⟩) l1 xs:=hl1
  have hL2:wm t2 (Shared.heap ⟨hp.push { cls:=.type (gD t1),data:=.fields #[.ref l1,.int 0 0] },g,d,tk,os⟩) l2 ys:=wm.push hl2 _
  wp_walk using Qu hL1,Qu hL2
  exact ⟨_,rfl,h⟩
theorem OK {t1 t2:Bool} {l1 l2:Addr} {xs ys:Array Value} {Q:Value->Shared->Prop} (hl1:wm t1 s.heap l1 xs) (hl2:wm t2 s.heap l2 ys)
  (h:∀ h',IsZip h' (s.heap.objs.size+4) (s.heap.objs.size+2) (s.heap.objs.size+3) .none->IsPair h' (s.heap.objs.size+2) (.ref s.heap.objs.size) (.ref (s.heap.objs.size+1))->
   IsPair h' (s.heap.objs.size+3) .none .none->tU t1 h' s.heap.objs.size l1 0->tU t2 h' (s.heap.objs.size+1) l2 0->
   (∀ c o,s.heap.get? c=some o->h'.get? c=some o)->Q (.ref (s.heap.objs.size+4)) { s with heap:=h' }) :
  wpAny (model prog w) A (call (.type "zip") [.ref l1,.ref l2]) Q E s:=by
 refine callType_new F.called_zip (by decide) (F.typeCall_zip_2 _ _) (F.newCall_zip_2 _ _) (fun obj=>F.args_object_init_3 obj _ _) F.entry_zip_new (Hd t1 t2 l1 l2 xs ys) ⟨hl1,hl2,?_⟩
 have z1:(X4 t1 s.heap l1).objs.size=s.heap.objs.size+1:=Heap.size_push ..
 have z2:(X5 t1 t2 s.heap l1 l2).objs.size=s.heap.objs.size+2:=by rw [Heap.size_push,z1]
 have z3:(X6 t1 t2 s.heap l1 l2).objs.size=s.heap.objs.size+3:=by rw [Heap.size_push,z2]
 have z4:(X7 t1 t2 s.heap l1 l2).objs.size=s.heap.objs.size+4:=by rw [Heap.size_push,z3]
 have g5:(jY t1 t2 s.heap l1 l2).get? (X7 t1 t2 s.heap l1 l2).objs.size=some _:=Heap.get?_push_size _ rfl
 have g4:(jY t1 t2 s.heap l1 l2).get? (X6 t1 t2 s.heap l1 l2).objs.size=some _:=Heap.get?_push_of_some _ (Heap.get?_push_size _ rfl)
 have g3:(jY t1 t2 s.heap l1 l2).get? (X5 t1 t2 s.heap l1 l2).objs.size=some _:=Heap.get?_push_of_some _ (Heap.get?_push_of_some _ (Heap.get?_push_size _ rfl))
 have g2:(jY t1 t2 s.heap l1 l2).get? (X4 t1 s.heap l1).objs.size=some _:=Heap.get?_push_of_some _ (Heap.get?_push_of_some _ (Heap.get?_push_of_some _ (Heap.get?_push_size _ rfl)))
 have g1:(jY t1 t2 s.heap l1 l2).get? s.heap.objs.size=some _:=Heap.get?_push_of_some _ (Heap.get?_push_of_some _ (Heap.get?_push_of_some _ (Heap.get?_push_of_some _ (Heap.get?_push_size _ rfl))))
 show _/\_
 rw [z2,z3,z4] at g5
 rw [z1,z2] at g3
 rw [z3] at g4
 rw [z1] at g2
 rw [z4]
 exact ⟨⟨_,g5,rfl⟩,h _ g5 g3 g4 ⟨_,g1,rfl,rfl⟩ ⟨_,g2,rfl,rfl⟩ fun c o x=>
  Heap.get?_push_of_some _ (Heap.get?_push_of_some _ (Heap.get?_push_of_some _ (Heap.get?_push_of_some _ (Heap.get?_push_of_some _ x))))⟩
end
section
variable {X:Cx} {pins:List (Addr×Obj)} {σ:St} {H:Hp} {s:Shared}
theorem Inv.seqX {tp:Bool} {a:Addr} {xs:List V} (I:Inv X pins σ H s) (h:wX X.K tp H a xs):∃ its:List Value,zf xs its/\wm tp s.heap a its.toArray:=by
 cases tp
 ·obtain ⟨its,r,p,_⟩:=I.list h
  exact ⟨its,r,p.isList⟩
 ·obtain ⟨its,r,p,_⟩:=I.tuple h
  exact ⟨its,r,p⟩
theorem Inv.seqX_inj {tp:Bool} {a:Addr} {xs ys:List V} (I:Inv X pins σ H s) (h:wX X.K tp H a xs) (h':wX X.K tp H a ys):xs=ys:=by
 cases tp
 ·exact I.list_inj h h'
 ·exact I.tuple_inj h h'
theorem IA {fs ch:List Addr} {h h':Heap} (k:∀ b o,b ∉ ch->h.get? b=some o->h'.get? b=some o):Un fs ch H H h h':=
 ⟨fun b o e _ _ hx=>k b o hx e,fun b o e _ _ hx=>⟨o.slots,k b o hx e⟩,fun _ _ _ n _=>n,fun b o e hx=>⟨o,k b o hx e⟩,fun _ _ z=>z,fun _ _ _ z=>z,fun b ps e=>⟨#[],by rw [e]; simp⟩⟩
theorem TD {P:Program} {w:World} {ch:List Addr} {h h':Heap} (x:y_ P w H h) (hn:∀ b∈ch,H b=none) (k:∀ b o,b ∉ ch->h.get? b=some o->h'.get? b=some o):y_ P w H h':=fun b u e=>by
 have nit:∀ c v,H c=some v->c ∉ ch:=fun c v e z=>by rw [hn c z] at e; cases e
 refine (x b u e).stay (fun c v hc q=>k c v ?_ q) (fun _ q=>q) fun _ _ q=>q
 rcases hc with z | z
 ·rw [z]; exact nit b u e
 ·exact nit c _ z
theorem Inv.but {ch:List Addr} {h':Heap} {tk:Nat} (I:Inv X pins σ H s) (hf:∀ b∈ch,va X pins H b) (k:∀ b o,b ∉ ch->s.heap.get? b=some o->h'.get? b=some o):Inv X pins σ H { s with heap:=h',toks:=tk }:=
 I.call' (s':={ s with heap:=h',toks:=tk }) rfl (IA k) (TD I.hok (fun b hb=>(hf b hb).1) k) I.bare fun b hb=>⟨(hf b hb).2.2.2.1,(hf b hb).2.1,(hf b hb).2.2.2.2.1,(hf b hb).2.2.2.2.2⟩
theorem Inv.butNew {ch:List Addr} {h':Heap} {tk:Nat} {T:Addr} {o:HO} (I:Inv X pins σ H s) (hf:∀ b∈ch,va X pins H b) (k:∀ b o,b ∉ ch->s.heap.get? b=some o->h'.get? b=some o) (hT:s.heap.get? T=none) (hn:H T=none)
  (new:yo X.prog X.w (zX H T o) h' T o):Inv X pins σ (zX H T o) { s with heap:=h',toks:=tk }:=
 I.call' (s':={ s with heap:=h',toks:=tk }) rfl (HM (IA k) hT hn) (TF (TD I.hok (fun b hb=>(hf b hb).1) k) hn new) I.bare fun b hb=>⟨(hf b hb).2.2.2.1,(hf b hb).2.1,(hf b hb).2.2.2.2.1,(hf b hb).2.2.2.2.2⟩
end
noncomputable def XE (K:PySem.W.Frag) (t1 t2:Bool) (a b:Addr):It:=
  ⟨fun i H=>∃ xs ys x y,wX K t1 H a xs/\wX K t2 H b ys/\xs[i]?=some x/\ys[i]?=some y,
   fun i H v H'=>∃ p,H p=none/\v=.ref p/\∀ xs ys,wX K t1 H a xs->wX K t2 H b ys->∃ x y,xs[i]?=some x/\ys[i]?=some y/\H'=zX H p (.tup [x,y]),
   fun i H=>∃ xs ys,wX K t1 H a xs/\wX K t2 H b ys/\(xs.length<=i\/ys.length<=i)⟩
theorem HF {P:Program} {w:World} {K:PySem.W.Frag} {elts:List Expr} {kk:Nat} {pos:Pos} (t1 t2:Bool) (a b z TI TO i1 i2:Addr) (D:ZipApart z TI TO i1 i2 a b) :
  tX P w K (.Tuple elts kk pos) (XE K t1 t2 a b) [z,TI,TO,i1,i2] z (fun i h=>IsZip h z TI TO .none/\IsPair h TI (.ref i1) (.ref i2)/\(∃ u v,IsPair h TO u v)/\tU t1 h i1 a i/\tU t2 h i2 b i) where
 mem:=by simp
 obj:=fun i h st c hc=>by
  obtain ⟨s1,s2,⟨u,v,s3⟩,⟨o4,s4,_,d4⟩,⟨o5,s5,_,d5⟩⟩:=st
  simp only [List.mem_cons,List.not_mem_nil,or_false] at hc
  rcases hc with rfl | rfl | rfl | rfl | rfl
  ·exact ⟨_,s1,fun v q=>nomatch q⟩
  ·exact ⟨_,s2,fun v q=>nomatch q⟩
  ·exact ⟨_,s3,fun v q=>nomatch q⟩
  ·exact ⟨_,s4,fun v q=>by rw [d4] at q; cases q⟩
  ·exact ⟨_,s5,fun v q=>by rw [d5] at q; cases q⟩
 keep:=fun i h h' st k=>by
  obtain ⟨s1,s2,⟨u,v,s3⟩,s4,s5⟩:=st
  exact ⟨k z (by simp) _ s1,k TI (by simp) _ s2,⟨u,v,k TO (by simp) _ s3⟩,s4.at fun o e=>k i1 (by simp) o e,s5.at fun o e=>k i2 (by simp) o e⟩
 item:=by
  intro X hP hw hK hc i pins s σ H E I hf st hg
  subst hP hw hK
  obtain ⟨s1,s2,⟨u,v,s3⟩,s4,s5⟩:=st
  obtain ⟨xs,ys,x,y,hx,hy,ex,ey⟩:=hg
  obtain ⟨us,ru,pu⟩:=I.seqX hx
  obtain ⟨ws,rw',pw⟩:=I.seqX hy
  obtain ⟨xu,hxu,rxu⟩:=ru.get ex
  obtain ⟨yw,hyw,ryw⟩:=rw'.get ey
  have k1:i<us.toArray.size:=by rw [List.size_toArray]; exact (List.getElem?_eq_some_iff.mp hxu).1
  have k2:i<ws.toArray.size:=by rw [List.size_toArray]; exact (List.getElem?_eq_some_iff.mp hyw).1
  have e1:us.toArray.getD i .none=xu:=by
   have:=List.getElem?_eq_some_iff.mp hxu
   obtain ⟨l,e⟩:=this
   simp [Array.getD,l,e]
  have e2:ws.toArray.getD i .none=yw:=by
   have:=List.getElem?_eq_some_iff.mp hyw
   obtain ⟨l,e⟩:=this
   simp [Array.getD,l,e]
  have hT:s.TypeIs (.ref z) "zip" := ⟨_,s1,rfl⟩
  have q4:i1<s.heap.objs.size:=by obtain ⟨o,e,_⟩:=s4; exact Heap.lt_size e
  have q5:i2<s.heap.objs.size:=by obtain ⟨o,e,_⟩:=s5; exact Heap.lt_size e
  unfold pyNext
  refine wpAny_bind (wpAny_attempt (wpAny_callSpecial?_slot (name:=Str.ofString "__next__") hT F.slot_zip_next (wpAny_call_entry F.slot_zip_next hT F.entry_zip_next
   (HZ D (Yq D.l1i1 us.toArray) (Yq D.l2i2 ws.toArray) s1 s2 s3 ⟨s4,pu⟩ ⟨s5,pw⟩ k1 k2 q4 q5 pu.lt pw.lt fun h' a1 a2 a3 a4 a5 a6=>wpAny_pure ?_) (F.args_zip_next_1 _))))
  rw [e1,e2] at a2 a5
  refine ⟨_,rfl,wpAny_letOwnedTupleGo_zip (s:={ s with heap:=h' }) a1 fun h'' b1 sb=>?_⟩
  have hTs:s.heap.get? s.heap.objs.size=none:=by
   cases q:s.heap.get? s.heap.objs.size with
   | none=>rfl
   | some o=>exact absurd (Heap.lt_size q) (Nat.lt_irrefl _)
  have hTf:H s.heap.objs.size=none:=I.hok.fresh (Nat.le_refl _)
  have hTz:s.heap.objs.size≠z:=Nat.ne_of_gt (Heap.lt_size s1)
  have tup:h''.get? s.heap.objs.size=some { cls:=.type "tuple",data:=.seq #[xu,yw] }:=sb.extBut _ _ hTz a5
  have kk:∀ c o,c ∉ [z,TI,TO,i1,i2]->s.heap.get? c=some o->h''.get? c=some o:=fun c o hc e=>by
   simp only [List.mem_cons,List.not_mem_nil,or_false,not_or] at hc
   exact sb.extBut _ _ hc.1 (a6 c o hc.1 hc.2.2.1 hc.2.2.2.1 hc.2.2.2.2 e)
  have new:yo X.prog X.w (zX H s.heap.objs.size (.tup [x,y])) h'' s.heap.objs.size (.tup [x,y]):=⟨(by show 2<=sizeLine; decide),[xu,yw],.cons rxu (.cons ryw .nil),⟨_,tup,rfl,_,rfl⟩⟩
  refine ⟨.ref s.heap.objs.size,zX H s.heap.objs.size (.tup [x,y]),I.butNew (tk:=s.toks) hf kk hTs hTf new,rfl,⟨s.heap.objs.size,hTf,rfl,fun xs' ys' hx' hy'=>?_⟩,⟨b1,?_,⟨_,_,sb.extBut _ _ D.TOz a2⟩,a3.1.at fun o e=>sb.extBut _ _ D.i1z e,a4.1.at fun o e=>sb.extBut _ _ D.i2z e⟩,fun c hc=>?_⟩
  ·rw [I.seqX_inj hx' hx,I.seqX_inj hy' hy]
   exact ⟨x,y,ex,ey,rfl⟩
  ·exact sb.extBut _ _ D.TIz (a6 _ _ D.TIz D.TITO D.TIi1 D.TIi2 s2)
  ·rw [yf]
   ·exact (hf c hc).1
   ·intro q
    have hlt:c<s.heap.objs.size:=by
     simp only [List.mem_cons,List.not_mem_nil,or_false] at hc
     rcases hc with rfl | rfl | rfl | rfl | rfl
     ·exact Heap.lt_size s1
     ·exact Heap.lt_size s2
     ·exact Heap.lt_size s3
     ·exact q4
     ·exact q5
    rw [q] at hlt
    exact absurd hlt (Nat.lt_irrefl _)
 done:=by
  intro X hP hw hK hc i pins s σ H E I hf st hg
  subst hP hw hK
  obtain ⟨s1,s2,⟨u,v,s3⟩,s4,s5⟩:=st
  obtain ⟨xs,ys,hx,hy,hend⟩:=hg
  obtain ⟨us,ru,pu⟩:=I.seqX hx
  obtain ⟨ws,rw',pw⟩:=I.seqX hy
  have hend':us.toArray.size<=i\/ws.toArray.size<=i:=by
   have l1:=ru.length
   have l2:=rw'.length
   rw [List.size_toArray,List.size_toArray]
   omega
  have hT:s.TypeIs (.ref z) "zip" := ⟨_,s1,rfl⟩
  unfold pyNext
  refine wpAny_bind (wpAny_attempt (wpAny_callSpecial?_slot (name:=Str.ofString "__next__") hT F.slot_zip_next (wpAny_call_entry F.slot_zip_next hT F.entry_zip_next
   (HY (by exact I.ok.hd hc) D (Yq D.l1i1 us.toArray) (Yq D.l2i2 ws.toArray) s1 s2 s3 ⟨s4,pu⟩ ⟨s5,pw⟩ hend' fun h' e kk he=>?_) (F.args_zip_next_1 _))))
  obtain ⟨o,ho,hcl⟩:=he
  refine wpAny_bind (wpAny_isInstance (T := "StopIteration") (b:=true) ⟨o,ho,hcl⟩ isSubtype_stop ?_)
  refine wpAny_pure ⟨rfl,I.but (tk:=s.toks) hf fun c ob hcc eb=>?_⟩
  simp only [List.mem_cons,List.not_mem_nil,or_false,not_or] at hcc
  exact kk c ob hcc.1 hcc.2.2.1 hcc.2.2.2.1 hcc.2.2.2.2 eb
 self:=fun _ _ _ _ _ st h=>wpAny_pyIter_zip st.1 h
theorem yV {a b:Nat} (h:a≠b):@Ne Addr a b:=h
theorem Hb {n l1 l2:Nat} (h1:l1<n) (h2:l2<n):ZipApart (n+4) (n+2) (n+3) n (n+1) l1 l2:=
 ⟨yV (by omega),yV (by omega),yV (by omega),yV (by omega),yV (by omega),yV (by omega),yV (by omega),yV (by omega),yV (by omega),yV (by omega),yV (by omega),yV (by omega),yV (by omega),yV (by omega),yV (by omega),yV (by omega),yV (by omega),yV (by omega)⟩
theorem O1:bootBuiltins "zip" = some (.type "zip"):=by decide +kernel
section
variable {X:Cx}
noncomputable def TH (K:PySem.W.Frag) (ta:TA):TI:=fun σ H R=>ta σ H fun vs H1=>∃ a b xs ys t1 t2,vs=[.ref a,.ref b]/\wX K t1 H1 a xs/\wX K t2 H1 b ys/\R (XE K t1 t2 a b) H1
theorem FC {a b:Expr} {ta:TA} {p pos:Pos} {elts:List Expr} {kk:Nat} {tp:Pos} (hg:Gl X "zip") (hm:X.mg "zip" = none) (ha:PA X [a,b] ta) (hs:starEach [a,b] X.env=[(false,eval a X.env),(false,eval b X.env)]:=by rfl)
  (hs2:starEach [b] X.env=[(false,eval b X.env)]:=by rfl):PI X (.Tuple elts kk tp) (.Call (.Name "zip" p) [a,b] [] pos) (TH X.K ta):=by
 intro pins s σ H R I h
 refine Call_ (j6 I hg hm O1 (PyProof.Rows.callWith_type1 (zj (ha pos pins s σ H _ I h) fun us s1 ⟨vs,H1,I1,r1,q1⟩=>?_) (by rw [hs,hs2]) (by rw [hs2]; rfl)))
 obtain ⟨l1,l2,xs,ys,t1,t2,rfl,hx,hy,q⟩:=q1
 obtain ⟨u,v,rfl,ru,rv⟩:=jV r1
 cases (show u=Value.ref l1 from ru)
 cases (show v=Value.ref l2 from rv)
 obtain ⟨us,_,pu⟩:=I1.seqX hx
 obtain ⟨ws,_,pw⟩:=I1.seqX hy
 have w1:=pu.lt
 have w2:=pw.lt
 refine OK pu pw fun h' a1 a2 a3 a4 a5 kp=>?_
 have I2:Inv X pins σ H1 { s1 with heap:=h' }:=I1.kept (t':=s1.toks) kp
 refine wpAny_pyIter_zip (s:={ s1 with heap:=h' }) a1 ?_
 generalize hn:s1.heap.objs.size=n at a1 a2 a3 a4 a5 w1 w2
 have D:ZipApart (n+4) (n+2) (n+3) n (n+1) l1 l2:=by
  exact Hb w1 w2
 refine ⟨n+4,[n+4,n+2,n+3,n,n+1],_,_,H1,rfl,I2,HF t1 t2 l1 l2 (n+4) (n+2) (n+3) n (n+1) D,⟨a1,a2,⟨_,_,a3⟩,a4,a5⟩,fun c hc=>?_,q⟩
 have hle:s1.heap.objs.size<=c:=by
  rw [hn]
  simp only [List.mem_cons,List.not_mem_nil,or_false] at hc
  rcases hc with rfl | rfl | rfl | rfl | rfl
  ·exact Nat.le_add_right _ _
  ·exact Nat.le_add_right _ _
  ·exact Nat.le_add_right _ _
  ·exact Nat.le_refl _
  ·exact Nat.le_add_right _ _
 exact I1.fpOk hle (I1.hok.fresh hle)
theorem C4 {a b:Expr} {ta:TA} {p pos:Pos} {elts:List Expr} {kk:Nat} {tp:Pos} (hg:Gl X "zip") (hm:X.mg "zip" = none) (ha:QA X [a,b] ta) (hs:yi a=true:=by rfl) (hs2:yi b=true:=by rfl) :
  QI X (.Tuple elts kk tp) (.Call (.Name "zip" p) [a,b] [] pos) (TH X.K ta):=⟨FC hg hm ha.h (by rw [vx hs,vx hs2]; rfl) (vx hs2)⟩
end
end L2
namespace L2
open PySem PySem.Spec PyProof.Rows
noncomputable def UI (scope:Scope) (env:Env) (cl:List (Str×Addr)) (own:List Str):Bool:=
 scope.kind == .function&&scope.names.all (fun y=>y.2 != .cell)&&pV scope env cl own&&scope.names.all (fun y=>y.2 != .local||scope.names.lookup y.1 == some .local)
theorem xI {X:Cx} {scope:Scope} {cl:List (Str×Addr)} {own:List Str} (clos:closureFor scope X.env=pure cl) (cap:tN X.env cl:=by first | exact True.intro | exact ⟨rfl,True.intro⟩ | exact ⟨rfl,rfl,True.intro⟩ | exact ⟨rfl,rfl,rfl,True.intro⟩ | exact ⟨rfl,rfl,rfl,rfl,True.intro⟩)
  (ok:UI scope X.env cl own=true:=by rfl):qS X scope cl own:=by
 unfold UI at ok
 simp only [Bool.and_eq_true] at ok
 obtain ⟨⟨⟨h1,h2⟩,h3⟩,h4⟩:=ok
 refine ⟨beq_iff_eq.mp h1,fun y hy e=>?_,cap,h3,clos,fun y hy e=>?_⟩
 ·have:=List.all_eq_true.mp h2 y hy
  rw [e] at this
  cases this
 ·have:=List.all_eq_true.mp h4 y hy
  rw [e] at this
  simpa using this
section
variable {X:Cx} (K:PySem.W.Frag) (hK:X.K=K)
include hK
end
noncomputable def IU (K:PySem.W.Frag) (a:Addr) (xs:List V):Prop:=∀ H,yR K H a xs
theorem xS {K:PySem.W.Frag} {a:Addr} {xs:List V} {d:Option Addr} {its:Array Value} {n:Nat} {sl:Array (Option Value)} (h:K.lookup a=some ⟨.type "tuple",d,.seq its n,sl⟩) (hz:its.size<=sizeLine) (r:zf xs its.toList):IU K a xs:=
 fun _=>.inr ⟨_,its,n,h,rfl,rfl,hz,r⟩
end L2
namespace L2
open PySem PySem.Spec PyProof.Rows
open Builtin Builtin.Str
section
variable {X:Cx}
theorem IG:∀ {ts:List Str} {its:List Value},zf (ts.map V.str) its->∃ l:List (Str×Tok),its=strValues l/\l.map (·.1)=ts
 | [],_,.nil=>⟨[],rfl,rfl⟩
 | t::ts,_,.cons r rr=>by
  obtain ⟨k,e⟩:=(show ∃ k,_=Value.str t k from r)
  obtain ⟨l,e1,e2⟩:=IG rr
  subst e e1
  exact ⟨(t,k)::l,rfl,by rw [List.map_cons,e2]⟩
noncomputable def CF (K:PySem.W.Frag):V->List V->Hp->VK->Prop:=fun x vs H Q=>∃ (sep:Str) (p:Addr) (ts:List Str),x=.str sep/\vs=[.ref p]/\yE K H p (ts.map V.str)/\(ts.map (·.length)).sum+ts.length*sep.length<=sizeLine/\Q (.str (glued sep ts)) H
theorem glued_len (sep:Str):∀ ts:List Str,(glued sep ts).length<=(ts.map (·.length)).sum+ts.length*sep.length
 | []=>by show (Str.length _)<=_; simp [glued,Str.length,Str.empty]
 | t::ts=>by
  have h:∀ (us:List Str) (a:Array Nat),(us.foldl (fun acc p=>acc++sep.cps++p.cps) a).size=a.size+(us.map (·.length)).sum+us.length*sep.length:=fun us=>by
   induction us with
   | nil=>intro a; simp
   | cons u us ih=>
    intro a
    rw [List.foldl_cons,ih]
    simp only [Array.size_append,List.map_cons,List.sum_cons,List.length_cons,Nat.succ_mul,Str.length]
    omega
  show (ts.foldl (fun acc p=>acc++sep.cps++p.cps) t.cps).size<=_
  rw [h]
  simp only [List.map_cons,List.sum_cons,List.length_cons,Nat.succ_mul,Str.length]
  omega
theorem Mk:tW X "str.join" (CF X.K):=by
 intro pins s σ H x vs v us Q I rx rv h
 obtain ⟨sep,p,ts,rfl,rfl,hq,hz,q⟩:=h
 obtain ⟨t,rfl⟩:=(show ∃ t,v=Value.str sep t from rx)
 obtain ⟨u,rfl,ru⟩:=wN rv
 cases (show u=Value.ref p from ru)
 obtain ⟨its,r,pl,_⟩:=I.list hq
 obtain ⟨l,rfl,el⟩:=IG r
 have hT:s.TypeIs (.ref p) "list" := pl.isList.typeIs
 obtain ⟨o,ho,hc,n,hd⟩:=pl.isList
 have hno:tooLong ((l.map (·.1)).toArray.foldl (·+·.length+sep.length) 0)=false:=by
  rw [el,StrLaws.joinTotal]
  unfold tooLong
  exact decide_eq_false (by omega)
 have fit:(glued sep ts).length<=sizeLine:=Nat.le_trans (glued_len sep ts) hz
 refine wpAny_call (codeAny_call_builtin F.slot_str_join.plain F.entry_str_join (F.slot_str_join.check _ _ _ _ _ _ _ _ (typeIs_str _ _ _) (F.args_str_join_2 _ _) ?_))
 obtain ⟨other,e⟩:=join_tree sep t p
 rw [e]
 refine wpAny_bind (wpAny_typeOf hT ?_)
 rw [if_pos (by decide)]
 refine wpAny_bind (wpAny_seqItems ho hd ?_)
 show wpAny _ _ (joinTail sep (strValues l)) _ _ _
 rcases l with _ | ⟨a,_ | ⟨b,c⟩⟩
 ·subst el
  exact gives_joinTail sep [] hno X.prog X.w _ (fun r s'=>match r with | .ok (.ret v)=>EP X pins σ Q v s' | .ok _=>False | .error e=>X.xe e s') s ⟨fit,.str _,H,I.tok _,⟨_,rfl⟩,q⟩
 ·subst el
  exact gives_joinTail sep [a] hno X.prog X.w _ (fun r s'=>match r with | .ok (.ret v)=>EP X pins σ Q v s' | .ok _=>False | .error e=>X.xe e s') s ⟨.str _,H,I,⟨_,rfl⟩,q⟩
 ·subst el
  exact gives_joinTail sep (a::b::c) hno X.prog X.w _ (fun r s'=>match r with | .ok (.ret v)=>EP X pins σ Q v s' | .ok _=>False | .error e=>X.xe e s') s ⟨fit,.str _,H,I.tok _,⟨_,rfl⟩,q⟩
end
noncomputable def ZA (z:Str):It:=⟨fun i _=>i<z.length,fun i H x H'=>H'=H/\∃ c,z.cps[i]?=some c/\x=.str ⟨#[c]⟩,fun i _=>z.length<=i⟩
section
variable {X:Cx} {tg:Expr}
noncomputable def Ld (te:TE):TI:=fun σ H R=>te σ H fun x H1=>∃ z,x=.str z/\R (ZA z) H1
theorem HD {P:Program} {w:World} {K:PySem.W.Frag} {it:Addr} {z:Str} {t:Tok} {ty:String} (hty:ty = "str_ascii_iterator" \/ ty = "str_iterator"):tX P w K tg (ZA z) [it] it (fun i h=>h.IsStrIter it ty z t i/\i<=z.length) where
 mem:=by simp
 obj:=fun i h st b hb=>by
  have e:b=it:=by simpa using hb
  subst e
  obtain ⟨⟨o,e,c,d⟩,_⟩:=st
  exact ⟨o,e,fun v z=>by rw [d] at z; cases z⟩
 keep:=fun i h h' st k=>⟨let ⟨o,ho,r⟩:=st.1; ⟨o,k it (by simp) o ho,r⟩,st.2⟩
 item:=by
  intro X hP hw hK hc i pins s σ H E I hf st hg
  subst hP hw hK
  obtain ⟨f0,f1,f2,f3,f4,f5⟩:=hf it (by simp)
  have hg':i<z.cps.size:=hg
  have hx:z.cps[i]?=some z.cps[i]:=by simp [hg']
  have go:∀ h' tk (u:Value),(∃ t',u=Value.str ⟨#[z.cps[i]]⟩ t')->h'.IsStrIter it ty z t (i+1)->Heap.SameBut it s.heap h'->∃ v,some u=some v/\
    wpAny (model X.prog X.w) X.A (letOwnedTupleGo tg (.ref it) v) (fun _ s2=>∃ x H',Inv X pins σ H' s2/\zi x v/\(ZA z).yld i H x H'/\(s2.heap.IsStrIter it ty z t (i+1)/\i+1<=z.length)/\∀ b∈[it],H' b=none) E { s with heap:=h',toks:=tk }:=fun h' tk u hu st' sb=>by
   obtain ⟨t',rfl⟩:=hu
   have I1:Inv X pins σ H { s with heap:=h',toks:=tk }:=I.turned (fun b o hb e=>(sb.2 b hb).trans e) f0 f1 f3 f4 f5
   obtain ⟨o,e,c,d⟩:=id st'
   exact ⟨_,rfl,Y0 (s:={ s with heap:=h',toks:=tk }) e c d (by rcases hty with rfl | rfl<;>decide) ⟨.str ⟨#[z.cps[i]]⟩,H,I1,⟨t',rfl⟩,⟨rfl,_,hx,rfl⟩,⟨st',hg⟩,fun b hb=>(hf b hb).1⟩⟩
  rcases hty with rfl | rfl
  ·exact wpAny_pyNext_ascii_item st.1 hx fun h' st' sb=>go h' _ _ ⟨_,rfl⟩ st' sb
  ·exact wpAny_pyNext_wide_item st.1 hx fun h' st' sb=>go h' _ _ ⟨_,rfl⟩ st' sb
 done:=by
  intro X hP hw hK hc i pins s σ H E I hf st hg
  subst hP hw hK
  obtain ⟨f0,f1,f2,f3,f4,f5⟩:=hf it (by simp)
  have hx:z.cps[i]?=none:=Array.getElem?_eq_none hg
  rcases hty with rfl | rfl
  ·exact wpAny_pyNext_ascii_end (I.ok.hd hc) st.1 hx fun h' eb=>⟨rfl,I.turned (t':=s.toks) (fun b o hb e=>eb b o hb e) f0 f1 f3 f4 f5⟩
  ·exact wpAny_pyNext_wide_end (I.ok.hd hc) st.1 hx fun h' eb=>⟨rfl,I.turned (t':=s.toks) (fun b o hb e=>eb b o hb e) f0 f1 f3 f4 f5⟩
 self:=fun _ _ _ _ _ st h=>by
  rcases hty with rfl | rfl
  ·exact wpAny_pyIter_striter_ascii st.1 h
  ·exact wpAny_pyIter_striter_wide st.1 h
theorem D_ {e:Expr} {te:TE} (he:PE X e te):PI X tg e (Ld te):=by
 intro pins s σ H R I h
 refine zj (he pins s σ H _ I h) fun v s1 ⟨x,H1,I1,r1,q1⟩=>?_
 obtain ⟨z,rfl,q⟩:=q1
 obtain ⟨t,rfl⟩:=(show ∃ t,v=Value.str z t from r1)
 have fin:∀ (ty:String),(ty = "str_ascii_iterator" \/ ty = "str_iterator")->∀ o:Obj,(s1.heap.push o).IsStrIter s1.heap.objs.size ty z t 0->XH X pins σ tg R (.ref s1.heap.objs.size) { s1 with heap:=s1.heap.push o }:=fun ty hty o st=>
  ⟨s1.heap.objs.size,[s1.heap.objs.size],_,_,H1,rfl,I1.kept (t':=s1.toks) fun b o e=>Heap.get?_push_of_some _ e,HD hty,⟨st,Nat.zero_le _⟩,fun b hb=>by
   have e:b=s1.heap.objs.size:=by simpa using hb
   subst e
   exact I1.fpOk (Nat.le_refl _) (I1.hok.fresh (Nat.le_refl _)),q⟩
 cases ha:z.cps.all (·<128)
 ·exact wpAny_pyIter_wide ha (fin _ (.inr rfl) _ ⟨_,Heap.get?_push_size _ rfl,rfl,rfl⟩)
 ·exact wpAny_pyIter_ascii ha (fin _ (.inl rfl) _ ⟨_,Heap.get?_push_size _ rfl,rfl,rfl⟩)
end
end L2
namespace L2
open PySem PySem.Spec PyProof.Rows
open Builtin Builtin.Str
noncomputable def cutS (z:Str) (lo hi:Option Int):Str:=⟨((z.cps.toList.drop (HT.sIx z.length 0 lo)).take (HT.sIx z.length z.length hi - HT.sIx z.length 0 lo)).toArray⟩
theorem ON (n:Nat) (lo:Option Int):(match lo with | none=>(0:Int) | some i=>max 0 (min (if i<0 then i+(n:Int) else i) (n:Int)))=((HT.sIx n 0 lo:Nat):Int)\/∃ i,lo=some i/\i<0/\(n:Int)<i+n:=by
 cases lo with
 | none=>left; rfl
 | some i=>
  left
  show max 0 (min (if i<0 then i+(n:Int) else i) (n:Int))=(((if i<0 then (i+(n:Int)).toNat else min i.toNat n):Nat):Int)
  by_cases h:i<0
  ·simp only [h,if_true]; omega
  ·simp only [h,if_false]; omega
theorem OM (n:Nat) (hi:Option Int):(match hi with | none=>(n:Int) | some i=>max 0 (min (if i<0 then i+(n:Int) else i) (n:Int)))=((HT.sIx n n hi:Nat):Int):=by
 cases hi with
 | none=>rfl
 | some i=>
  show max 0 (min (if i<0 then i+(n:Int) else i) (n:Int))=(((if i<0 then (i+(n:Int)).toNat else min i.toNat n):Nat):Int)
  by_cases h:i<0
  ·simp only [h,if_true]; omega
  ·simp only [h,if_false]; omega
theorem OP (n:Nat) (lo:Option Int):(match lo with | none=>(0:Int) | some i=>max 0 (min (if i<0 then i+(n:Int) else i) (n:Int)))=((HT.sIx n 0 lo:Nat):Int):=by
 rcases ON n lo with h | ⟨i,_,h1,h2⟩
 ·exact h
 ·omega
theorem Qa (z:Str) (lo hi:Option Int):(strSliceIndices lo hi 1 z.length)=(List.range (HT.sIx z.length z.length hi - HT.sIx z.length 0 lo)).map (HT.sIx z.length 0 lo+·):=by
 have h1:=OP z.length lo
 have h2:=OM z.length hi
 rw [<- sliceRange_one,<- h1,<- h2]
 unfold strSliceIndices
 simp only [show (1:Int) > 0 by decide,if_true]
 cases lo<;>cases hi<;>rfl
theorem OU (z:Str) (lo hi:Option Int):(⟨((strSliceIndices lo hi 1 z.length).filterMap (z.cps[·]?)).toArray⟩:Str)=cutS z lo hi:=by
 rw [Qa,pick_run]
 rfl
theorem sIx_le (n d:Nat) (hd:d<=n) (v:Option Int):HT.sIx n d v<=n:=by
 cases v with
 | none=>exact hd
 | some i=>
  show (if i<0 then (i+(n:Int)).toNat else min i.toNat n)<=n
  by_cases h:i<0
  ·simp only [h,if_true]; omega
  ·simp only [h,if_false]; omega
theorem OW (z:Str) (lo hi:Option Int) (h:(strSliceIndices lo hi 1 z.length).length=z.length):cutS z lo hi=z:=by
 rw [Qa,List.length_map,List.length_range] at h
 have a:=sIx_le z.length 0 (Nat.zero_le _) lo
 have b:=sIx_le z.length z.length (Nat.le_refl _) hi
 unfold cutS
 rw [h]
 have hz:HT.sIx z.length 0 lo=0\/z.length=0:=by omega
 have hl:z.cps.toList.length=z.length:=by simp [Str.length]
 rcases hz with q | q
 ·rw [q,List.drop_zero,<- hl,List.take_length]
 ·have e:z.cps.toList=[]:=List.eq_nil_of_length_eq_zero (by omega)
  rw [e]
  simp
  cases z with
  | mk c=>simp [Str.length] at q; simp [q]
theorem Ub (z:Str) (lo hi:Option Int):(cutS z lo hi).length<=z.length:=by
 show (List.toArray _).size<=z.cps.size
 rw [List.size_toArray,List.length_take,List.length_drop,Array.length_toList]
 omega
section
variable {X:Cx}
theorem QR {v:Value} {lo:Option Int} (h:IsPart v lo):∃ l:Option (Int×Tok),v=partValue l/\l.map (·.1)=lo:=by
 cases h with
 | none=>exact ⟨none,rfl,rfl⟩
 | int i t=>exact ⟨some (i,t),rfl,rfl⟩
noncomputable def J5:V->Option Int->Option Int->Hp->VK->Prop:=fun x lo hi H Q=>∃ z:Str,x=.str z/\z.length<=sizeLine/\Q (.str (cutS z lo hi)) H
theorem GA:uo X J5:=by
 intro pins s σ H x v vl vu lo hi sl Q I rx hs pl pu h
 obtain ⟨z,rfl,hz,q⟩:=h
 obtain ⟨t,rfl⟩:=(show ∃ t,v=Value.str z t from rx)
 obtain ⟨l,rfl,rfl⟩:=QR pl
 obtain ⟨u,rfl,rfl⟩:=QR pu
 refine ⟨"str",_,F.slot_str_getitem.lookup,typeIs_str _ _ _,?_⟩
 refine wpAny_getItem_str_slice (l:=l) (u:=u) (st:=none) hs rfl ?_
 unfold sliceMade
 have hp:slicePicked z l u none=strSliceIndices (l.map (·.1)) (u.map (·.1)) 1 z.length:=rfl
 rw [hp]
 split
 ·rename_i hc
  have e:(strSliceIndices (l.map (·.1)) (u.map (·.1)) 1 z.length).length=z.length:=by
   rw [Bool.and_eq_true] at hc
   exact beq_iff_eq.mp hc.2
  rw [OW z _ _ e] at q
  exact ⟨.str z,H,I,⟨_,rfl⟩,q⟩
 ·rw [OU]
  exact ⟨Nat.le_trans (Ub z _ _) hz,.str _,H,I.tok _,⟨_,rfl⟩,q⟩
end
end L2
namespace L2
open PySem PySem.Spec PyProof.Rows
open Builtin Builtin.Str
section
variable {X:Cx} {e o:Expr} {te to:TE} {pos apos cpos:Pos} {name:Str} {T id:String} {rm:V->List V->Hp->VK->Prop}
end
end L2
namespace L2
open PySem PySem.Spec PyProof.Rows
section
variable {κ:Type} [DecidableEq κ]
noncomputable def wM (kvs:List (κ×V)) (k:κ):Option V:=(kvs.find? fun kv=>decide (kv.1=k)).map (·.2)
noncomputable def wD (kvs:List (κ×V)) (k:κ) (v:V):List (κ×V):=
 if (kvs.any fun kv=>decide (kv.1=k))=true then kvs.map (fun kv=>if kv.1=k then (kv.1,v) else kv) else kvs++[(k,v)]
theorem qR {p:κ×V} {r:List (κ×V)} {k:κ} (e:p.1=k):wM (p::r) k=some p.2:=by simp [wM,List.find?_cons,e]
theorem qQ {p:κ×V} {r:List (κ×V)} {k:κ} (e:¬ p.1=k):wM (p::r) k=wM r k:=by simp [wM,List.find?_cons,e]
theorem Vc (k:κ):∀ kvs:List (κ×V),(kvs.any fun kv=>decide (kv.1=k))=(wM kvs k).isSome
 | []=>rfl
 | p::r=>by
  rw [List.any_cons]
  by_cases e:p.1=k
  ·simp only [qR e,decide_eq_true e,Bool.true_or,Option.isSome_some]
  ·rw [qQ e,decide_eq_false e,Bool.false_or]; exact Vc k r
theorem IE (k j:κ) (y:V):∀ kvs:List (κ×V),wM kvs k=none->wM (kvs++[(k,y)]) j=if j=k then some y else wM kvs j
 | [],_=>by
  by_cases e:k=j
  ·rw [if_pos e.symm]; exact qR (p:=(k,y)) e
  ·rw [if_neg (fun z=>e z.symm)]; exact qQ (p:=(k,y)) e
 | p::r,hn=>by
  rw [List.cons_append]
  have hk:¬ p.1=k:=fun z=>by rw [qR z] at hn; cases hn
  rw [qQ hk] at hn
  have ih:=IE k j y r hn
  by_cases e:p.1=j
  ·rw [qR e,qR e,if_neg (fun z=>hk (e.trans z))]
  ·rw [qQ e,qQ e,ih]
theorem WR (kvs:List (κ×V)) (k:κ) (v:V):(wD kvs k v).length<=kvs.length+1:=by
 unfold wD
 split
 ·rw [List.length_map]; omega
 ·rw [List.length_append,List.length_cons,List.length_nil]; omega
theorem Fv {kvs:List (κ×V)} {k:κ} (v:V) (h:wM kvs k=none):wD kvs k v=kvs++[(k,v)]:=by
 unfold wD
 rw [Vc,h]
 exact if_neg (by decide)
theorem v_.isSome_eq {o:Option V} {u:Option Value} (r:v_ o u):o.isSome=u.isSome:=by
 cases o with
 | none=>cases u with
  | none=>rfl
  | some _=>exact (show False from r).elim
 | some _=>cases u with
  | none=>exact (show False from r).elim
  | some _=>rfl
theorem KV.val {kvs:List (κ×V)} {vs:List (κ×Value)} (r:KV kvs vs) (k:κ):v_ (wM kvs k) (valueAt vs k):=by
 unfold KV at r
 induction r with
 | nil=>exact True.intro
 | @cons p q ps qs h t ih=>
  obtain ⟨h1,h2⟩:=h
  by_cases e:p.1=k
  ·have e':q.1=k:=h1.symm.trans e
   have b:valueAt (q::qs) k=some q.2:=by simp [valueAt,List.find?_cons,e']
   rw [qR e,b]; exact h2
  ·have e':¬ q.1=k:=fun z=>e (h1.trans z)
   have b:valueAt (q::qs) k=valueAt qs k:=by simp [valueAt,List.find?_cons,e']
   rw [qQ e,b]; exact ih
theorem KV.any {kvs:List (κ×V)} {vs:List (κ×Value)} (r:KV kvs vs) (k:κ):(kvs.any fun kv=>decide (kv.1=k))=vs.any fun kv=>decide (kv.1=k):=by
 unfold KV at r
 induction r with
 | nil=>rfl
 | cons h t ih=>rw [List.any_cons,List.any_cons,ih,h.1]
theorem KV.repl {kvs:List (κ×V)} {vs:List (κ×Value)} (r:KV kvs vs) (k:κ) {y:V} {u:Value} (ry:zi y u) :
  KV (kvs.map fun kv=>if kv.1=k then (kv.1,y) else kv) (vs.map fun kv=>if kv.1=k then (kv.1,u) else kv):=by
 unfold KV at r ⊢
 induction r with
 | nil=>exact .nil
 | @cons p q ps qs h t ih=>
  rw [List.map_cons,List.map_cons]
  refine .cons ?_ ih
  obtain ⟨h1,h2⟩:=h
  by_cases e:p.1=k
  ·rw [if_pos e,if_pos (h1.symm.trans e)]; exact ⟨h1,ry⟩
  ·rw [if_neg e,if_neg (fun z=>e (h1.trans z))]; exact ⟨h1,h2⟩
theorem KV.put {kvs:List (κ×V)} {vs:List (κ×Value)} (r:KV kvs vs) (k:κ) {y:V} {u:Value} (ry:zi y u):KV (wD kvs k y) (stored vs k u):=by
 unfold wD stored
 rw [r.any k]
 by_cases e:(vs.any fun kv=>decide (kv.1=k))=true
 ·rw [if_pos e,if_pos e]; exact r.repl k ry
 ·rw [if_neg e,if_neg e]; exact Paired.snoc r ⟨rfl,ry⟩
theorem KV.length {kvs:List (κ×V)} {vs:List (κ×Value)} (r:KV kvs vs):kvs.length=vs.length:=Paired.length r
end
theorem uT {P:Program} {w:World} {k:Key} {u:Value} (r:zi (kV k) u):(yh P w).is k u=true:=by
 cases k with
 | inl i=>obtain ⟨t,e⟩:=(show ∃ t,u=Value.int i t from r); subst e; exact Mf P w i t
 | inr x=>obtain ⟨t,e⟩:=(show ∃ t,u=Value.str x t from r); subst e; exact WV P w x t
theorem Td {P:Program} {w:World}:∀ {ks:List Key} {us:List Value},zf (ks.map kV) us->ItemsAre (yh P w) ks us
 | [],_,r=>by rw [List.map_nil] at r; cases r; exact .nil
 | k::ks,_,r=>by
  rw [List.map_cons] at r
  cases r with
  | cons h t=>exact .cons (uT h) (Td t)
noncomputable abbrev KT (H:Hp):List (List Key×V)->List (List Key×Addr×Value)->Prop:=Paired fun p q=>p.1=q.1/\H q.2.1=some (.tup (p.1.map kV))/\zi p.2 q.2.2
theorem KT.val {H:Hp} {kvs:List (List Key×V)} {xs:List (List Key×Addr×Value)} (r:KT H kvs xs) (k:List Key):v_ (wM kvs k) ((atKey xs k).map (·.2)):=by
 induction r with
 | nil=>exact True.intro
 | @cons p q ps qs h t ih=>
  obtain ⟨h1,_,h2⟩:=h
  by_cases e:p.1=k
  ·have e':q.1=k:=h1.symm.trans e
   have b:atKey (q::qs) k=some q.2:=by simp [atKey,List.find?_cons,e']
   rw [qR e,b]; exact h2
  ·have e':¬ q.1=k:=fun z=>e (h1.trans z)
   have b:atKey (q::qs) k=atKey qs k:=by simp [atKey,List.find?_cons,e']
   rw [qQ e,b]; exact ih
theorem KT.repl {H:Hp} {kvs:List (List Key×V)} {xs:List (List Key×Addr×Value)} (r:KT H kvs xs) (k:List Key) {y:V} {u:Value} (ry:zi y u) :
  KT H (kvs.map fun kv=>if kv.1=k then (kv.1,y) else kv) (xs.map (putAt k u)):=by
 induction r with
 | nil=>exact .nil
 | @cons p q ps qs h t ih=>
  rw [List.map_cons,List.map_cons]
  refine .cons ?_ ih
  obtain ⟨h1,h2,h3⟩:=h
  unfold putAt
  by_cases e:p.1=k
  ·rw [if_pos e,if_pos (h1.symm.trans e)]; exact ⟨h1,h2,ry⟩
  ·rw [if_neg e,if_neg (fun z=>e (h1.trans z))]; exact ⟨h1,h2,h3⟩
theorem KT.put {H:Hp} {kvs:List (List Key×V)} {xs:List (List Key×Addr×Value)} (r:KT H kvs xs) (k:List Key) {b:Addr} {y:V} {u:Value} (hb:H b=some (.tup (k.map kV))) (ry:zi y u) :
  KT H (wD kvs k y) (storedH xs k b u):=by
 have e:(kvs.any fun kv=>decide (kv.1=k))=(atKey xs k).isSome:=by
  rw [Vc,(r.val k).isSome_eq,Option.isSome_map]
 unfold wD storedH
 rw [e]
 by_cases q:(atKey xs k).isSome=true
 ·rw [if_pos q,if_pos q]; exact r.repl k ry
 ·rw [if_neg q,if_neg q]; exact Paired.snoc r ⟨rfl,hb,ry⟩
theorem KT.keeps {H H':Hp} {kvs:List (List Key×V)} {xs:List (List Key×Addr×Value)} (r:KT H kvs xs) (ht:∀ b ys,H b=some (.tup ys)->H' b=some (.tup ys)):KT H' kvs xs:=
 Paired.mapP r fun _ _ z=>⟨z.1,ht _ _ z.2.1,z.2.2⟩
section
variable {P:Program} {w:World} {H:Hp} {h:Heap} {a:Addr}
theorem J9 {u:HO} (ok:y_ P w H h) (e:Rd H a u):yo P w H h a u:=e.ok ok
theorem jp {kvs:List (Key×V)} (ok:y_ P w H h) (e:Rd H a (.dK kvs)):kvs.length<=sizeLine/\(a == sysModules)=false/\∃ vs,KV kvs vs/\h.DictOf (yh P w) a vs:=
 show yo P w H h a (.dK kvs) from J9 ok e
theorem Ui {kvs:List (Key×V)} (ok:y_ P w H h) (e:H a=some (.dK kvs)):kvs.length<=sizeLine/\(a == sysModules)=false/\∃ vs,KV kvs vs/\h.DictOf (yh P w) a vs:=jp ok (.inl e)
theorem YA {ks:List Key} (ok:y_ P w H h) (e:H a=some (.tup (ks.map kV))):(tupleKind (yh P w)).is h ks a:=by
 obtain ⟨_,its,r,o,h1,h2,n,h3⟩:=(show yo P w H h a (.tup (ks.map kV)) from ok a _ e)
 exact ⟨o,its.toArray,n,h1,h2,h3,by simpa using Td r⟩
theorem Zn {kvs:List (List Key×V)} (ok:y_ P w H h) (e:Rd H a (.dT kvs)):kvs.length<=sizeLine/\(a == sysModules)=false/\
  ∃ xs,KT H kvs xs/\h.DictOfH (tupleKind (yh P w)) a xs:=by
 obtain ⟨z,y,xs,r,o,es,ep,h1,h2,h3,h4,h5⟩:=(show yo P w H h a (.dT kvs) from J9 ok e)
 refine ⟨z,y,xs,r,o,es,ep,h1,h2,h3,h4,fun x hx=>?_,h5⟩
 have all:∀ {l:List (List Key×V)} {m:List (List Key×Addr×Value)},KT H l m->∀ x∈m,(tupleKind (yh P w)).is h x.1 x.2.1:=by
  intro l m q
  induction q with
  | nil=>intro x hx; exact nomatch hx
  | @cons p q ps qs hq t ih=>
   intro x hx
   rcases List.mem_cons.mp hx with e | hx
   ·subst e
    exact YA ok (by rw [<- hq.1]; exact hq.2.1)
   ·exact ih x hx
 exact all r x hx
theorem Og {kvs:List (List Key×V)} (ok:y_ P w H h) (e:H a=some (.dT kvs)):kvs.length<=sizeLine/\(a == sysModules)=false/\
  ∃ xs,KT H kvs xs/\h.DictOfH (tupleKind (yh P w)) a xs:=Zn ok (.inl e)
end
noncomputable def XA (H:Hp) (a:Addr) (y:V) (r:Option V):Prop:=
 (∃ kvs k,Rd H a (.dK kvs)/\y=kV k/\r=wM kvs k)\/∃ kvs k b,Rd H a (.dT kvs)/\y=.ref b/\H b=some (.tup (k.map kV))/\r=wM kvs k
noncomputable def Vz (H:Hp) (a:Addr) (y v:V) (H':Hp):Prop:=
 (∃ kvs k,H a=some (.dK kvs)/\y=kV k/\kvs.length<sizeLine/\H'=zX H a (.dK (wD kvs k v))) \/
 ∃ kvs k b,H a=some (.dT kvs)/\y=.ref b/\H b=some (.tup (k.map kV))/\kvs.length<sizeLine/\H'=zX H a (.dT (wD kvs k v))
section
variable {X:Cx} {pins:List (Addr×Obj)} {σ:St} {H:Hp} {s:Shared} {a:Addr} {y v:V} {u r:Value} {o:Option V} {A:Around} {E:Value->Shared->Prop}
theorem Inv.big (I:Inv X pins σ H s):sysModules<s.heap.objs.size:=by
 have h:mainGlobals<s.heap.objs.size:=(I.mod.glob.keeps I.bk).lt
 exact Nat.lt_trans (by decide) h
theorem OX {Q:Value->Shared->Prop} (hu:A.units+1<cLine) (I:Inv X pins σ H s) (g:XA H a y o) (ry:zi y u) (h:∀ s',Inv X pins σ H s'->Q (.bool o.isSome) s') :
  wpAny (model X.prog X.w) A (compareOp .In u (.ref a)) Q E s:=by
 rcases g with ⟨kvs,k,e,ey,l⟩ | ⟨kvs,k,b,e,ey,eb,l⟩
 ·subst ey
  obtain ⟨z,hd,vs,rel,dd⟩:=jp I.hok e
  refine wpAny_in_of (uT ry) hd dd.mapOf ?_
  rw [<- (rel.val k).isSome_eq,<- l]
  exact h _ (I.tok _)
 ·subst ey
  cases (show u=Value.ref b from ry)
  obtain ⟨z,hd,xs,rel,dd⟩:=Zn I.hok e
  refine wpAny_in_heap (tupleKind_room_in1 hu) (YA I.hok eb) hd dd ?_
  have q:=(rel.val k).isSome_eq
  rw [Option.isSome_map] at q
  rw [<- q,<- l]
  exact h _ (I.tok _)
theorem OY {Q:Value->Shared->Prop} (hu:A.units+1<cLine) (I:Inv X pins σ H s) (g:XA H a y o) (ry:zi y u) (h:∀ s',Inv X pins σ H s'->Q (.bool (!o.isSome)) s') :
  wpAny (model X.prog X.w) A (compareOp .NotIn u (.ref a)) Q E s:=by
 rcases g with ⟨kvs,k,e,ey,l⟩ | ⟨kvs,k,b,e,ey,eb,l⟩
 ·subst ey
  obtain ⟨z,hd,vs,rel,dd⟩:=jp I.hok e
  refine wpAny_notIn_of (uT ry) hd dd.mapOf ?_
  rw [<- (rel.val k).isSome_eq,<- l]
  exact h _ (I.tok _)
 ·subst ey
  cases (show u=Value.ref b from ry)
  obtain ⟨z,hd,xs,rel,dd⟩:=Zn I.hok e
  refine wpAny_notIn_heap (tupleKind_room_in1 hu) (YA I.hok eb) hd dd ?_
  have q:=(rel.val k).isSome_eq
  rw [Option.isSome_map] at q
  rw [<- q,<- l]
  exact h _ (I.tok _)
theorem Xc {h':Heap} {t':Nat} {ob:HO} (I:Inv X pins σ H s) (mu:ja (H a)) (hs:Heap.SameBut a s.heap h') (he:∃ q,h'.get? a=some q) (new:yo X.prog X.w (zX H a ob) h' a ob) :
  Inv X pins σ (zX H a ob) { s with heap:=h',toks:=t' }:=
 I.write (x:=a) (e:=a) mu (.inl rfl) (fun b q hb z=>(hs.2 b hb).trans z) he new
theorem Xg {P:Program} {w:World} {H':Hp} {h':Heap} {kvs:List (Key×V)} {vs:List (Key×Value)} (z:kvs.length<=sizeLine) (hd:(a == sysModules)=false) (rel:KV kvs vs) (dd:h'.DictOf (yh P w) a vs) :
  yo P w H' h' a (.dK kvs):=⟨z,hd,vs,rel,dd⟩
theorem OZ {H':Hp} {Q:Unit->Shared->Prop} (hu:A.units+1<cLine) (I:Inv X pins σ H s) (g:Vz H a y v H') (ry:zi y u) (rv:zi v r) (h:∀ s',Inv X pins σ H' s'->Q () s') :
  wpAny (model X.prog X.w) A (setItem (.ref a) u r) Q E s:=by
 rcases g with ⟨kvs,k,e,ey,l,eH⟩ | ⟨kvs,k,b,e,ey,eb,l,eH⟩
 ·subst ey eH
  obtain ⟨z,hd,vs,rel,dd⟩:=Ui I.hok e
  have hz:vs.length<=sizeLine:=by rw [<- rel.length]; exact z
  have hl:(wD kvs k v).length<=sizeLine:=by have:=WR kvs k v; omega
  refine wpAny_setItem_pairs (hsz:=hz) (uT ry) dd fun h' dd' hs=>h _ ?_
  have he:∃ q,h'.get? a=some q:=let ⟨q,_,_,hq,_⟩:=dd'; ⟨q,hq⟩
  exact Xc I (by rw [e]; exact True.intro) hs he (Xg hl hd (rel.put k rv) dd')
 ·subst ey eH
  cases (show u=Value.ref b from ry)
  obtain ⟨z,hd,xs,rel,dd⟩:=Og I.hok e
  have hz:xs.length<=sizeLine:=by rw [<- Paired.length rel]; exact z
  have hl:(wD kvs k v).length<=sizeLine:=by have:=WR kvs k v; omega
  refine wpAny_setItem_heap (hsz:=hz) (tupleKind_room_in1 hu) (YA I.hok eb) dd fun h' dd' hs=>h _ ?_
  obtain ⟨q,es,ep,hq,h2,h3,h4,_,h5⟩:=dd'
  refine Xc I (by rw [e]; exact True.intro) hs ⟨q,hq⟩ ⟨hl,hd,_,(rel.put k eb rv).keeps fun c ys ec=>?_,q,es,ep,hq,h2,h3,h4,h5⟩
  rw [yf (Mu ec e (fun z=>nomatch z))]
  exact ec
end
section
variable {X:Cx} {pins:List (Addr×Obj)} {σ:St} {H:Hp} {s:Shared} {a:Addr} {kvs:List (Key×V)} {k:Key} {u:Value} {A:Around} {E:Value->Shared->Prop}
end
theorem Oe {X:Cx} {pins:List (Addr×Obj)} {σ:St} {H:Hp} {s:Shared} {a:Addr} {y:V} {o:Option V} (I:Inv X pins σ H s) (g:XA H a y o):s.TypeIs (.ref a) "dict" := by
 rcases g with ⟨kvs,k,e,_,_⟩ | ⟨kvs,k,b,e,_,_,_⟩
 ·obtain ⟨_,_,vs,_,dd⟩:=jp I.hok e
  exact dd.typeIs
 ·obtain ⟨_,_,xs,_,dd⟩:=Zn I.hok e
  exact dd.typeIs
noncomputable def EG (td ty tv:TE):TS:=fun D σ H=>tv σ H fun v H1=>td σ H1 fun x H2=>ty σ H2 fun y H3=>∃ a H4,x=.ref a/\Vz H3 a y v H4/\D.nx σ H4
section
variable {X:Cx} {o i e value:Expr} {pos pos' tpos:Pos} {td ty tv:TE}
theorem Fc (hu:X.A.units+1<cLine) (ho:PE X o td) (hi:PE X i ty) (hv:PE X value tv) (hs:swapsWith value (some (.Subscript o i pos')) pos.line X.env=pure false) :
  PS X (.Assign [.Subscript o i pos'] value pos) (EG td ty tv):=by
 intro pins s σ H D I h
 refine wpAny_Assign_Subscript (zj (hv pins s σ H _ I h) fun r s1 ⟨v,H1,I1,rv,q1⟩=>zj (ho pins s1 σ H1 _ I1 q1) fun u s2 ⟨x,H2,I2,rx,q2⟩=>zj (hi pins s2 σ H2 _ I2 q2) fun iv s3 ⟨y,H3,I3,ry,a,H4,ex,g,q3⟩=>?_) hs
 subst ex
 obtain rfl:u=Value.ref a:=rx
 exact OZ hu I3 g ry rv fun s4 I4=>⟨σ,H4,I4,q3⟩
end
theorem Uh {P:Program} {w:World} {H:Hp} (h:Heap) (hb:sysModules<h.objs.size):yo P w H (h.push { cls:=.type "dict",data:=.dict #[] }) h.objs.size (.dK []):=
 ⟨Nat.zero_le _,beq_eq_false_iff_ne.mpr (Ne.symm (Nat.ne_of_lt hb)),[],.nil,Heap.DictOf.new h⟩
noncomputable def GT:TE:=fun _ H Q=>∀ p,H p=none->Q (.ref p) (zX H p (.dK []))
section
variable {X:Cx} {pos:Pos}
theorem Dg:PE X (.Dict [] [] pos) GT:=fun pins s σ H Q I h=>
 wpAny_Dict_empty ⟨.ref s.heap.objs.size,_,I.laid (a:=s.heap.objs.size) (o:=.dK []) (t':=s.toks) (fun _ _ q=>Heap.get?_push_of_some _ q) (Nat.le_refl _) (Uh s.heap I.big),rfl,h _ (I.hok.fresh (Nat.le_refl _))⟩
end
noncomputable def Ys:List (TE×TE)->St->Hp->(List (V×V)->Hp->Prop)->Prop
 | [],_,H,Q=>Q [] H
 | (tk,tv)::r,σ,H,Q=>tk σ H fun x H1=>tv σ H1 fun y H2=>Ys r σ H2 fun ps H3=>Q ((x,y)::ps) H3
noncomputable abbrev VV:List (V×V)->List (Value×Value)->Prop:=Paired fun p q=>zi p.1 q.1/\zi p.2 q.2
noncomputable def je (X:Cx) (pos:Pos) (keys:List (Option Expr)) (values:List Expr) (trs:List (TE×TE)):Prop:=
 ∀ (pins:List (Addr×Obj)) (s:Shared) (σ:St) (H:Hp) (Q:List (V×V)->Hp->Prop),Inv X pins σ H s->Ys trs σ H Q->
  wpAny (model X.prog X.w) X.A (evalPairs (pairTrees keys values X.env pos)) (fun vs s'=>∃ ps H',Inv X pins σ H' s'/\VV ps vs/\Q ps H') X.xe s
theorem FZ {X:Cx} {pos:Pos}:je X pos [] [] []:=fun pins s σ H Q I h=>pairTrees_nil_walk ⟨[],H,I,.nil,h⟩
theorem FY {X:Cx} {pos:Pos} {k v:Expr} {ks:List (Option Expr)} {vs:List Expr} {tk tv:TE} {trs:List (TE×TE)} (hk:PE X k tk) (hv:PE X v tv) (hr:je X pos ks vs trs) :
  je X pos (some k::ks) (v::vs) ((tk,tv)::trs):=fun pins s σ H Q I h=>
 pairTrees_cons_walk (zj (hk pins s σ H _ I h) fun u s1 ⟨x,H1,I1,rx,q1⟩=>zj (hv pins s1 σ H1 _ I1 q1) fun w2 s2 ⟨y,H2,I2,ry,q2⟩=>
  zj (hr pins s2 σ H2 _ I2 q2) fun ws s3 ⟨ps,H3,I3,rel,q3⟩=>⟨(x,y)::ps,H3,I3,.cons ⟨rx,ry⟩ rel,q3⟩)
noncomputable def vV (kvs more:List (Key×V)):List (Key×V):=more.foldl (fun acc kv=>wD acc kv.1 kv.2) kvs
theorem KV.merge:∀ {more:List (Key×V)} {rs:List (Key×Value)} {kvs:List (Key×V)} {vs:List (Key×Value)},KV more rs->KV kvs vs->KV (vV kvs more) (merged vs rs):=by
 intro more rs kvs vs r
 unfold KV at r
 induction r generalizing kvs vs with
 | nil=>intro q; exact q
 | @cons p q ps qs h t ih=>
  intro r0
  have e:KV (wD kvs p.1 p.2) (stored vs q.1 q.2):=by
   have:=r0.put p.1 h.2
   rw [<- h.1]; exact this
  exact ih e
theorem WQ:∀ (more kvs:List (Key×V)),(vV kvs more).length<=kvs.length+more.length
 | [],kvs=>by show kvs.length<=kvs.length+0; omega
 | p::r,kvs=>by
  have h1:=WQ r (wD kvs p.1 p.2)
  have h2:=WR kvs p.1 p.2
  show (vV (wD kvs p.1 p.2) r).length<=_
  rw [List.length_cons]; omega
theorem UT {P:Program} {w:World}:∀ {kvs:List (Key×V)} {ws:List (Value×Value)},VV (kvs.map fun kv=>(kV kv.1,kv.2)) ws->∃ rs,Carries (yh P w) ws rs/\KV kvs rs
 | [],_,r=>by rw [List.map_nil] at r; cases r; exact ⟨[],True.intro,.nil⟩
 | p::kvs,_,r=>by
  rw [List.map_cons] at r
  cases r with
  | @cons a b as bs h t=>
   obtain ⟨rs,c,q⟩:=UT (P:=P) (w:=w) t
   obtain ⟨b1,b2⟩:=b
   exact ⟨(p.1,b2)::rs,⟨uT h.1,rfl,c⟩,.cons ⟨rfl,h.2⟩ q⟩
noncomputable def GU (trs:List (TE×TE)):TE:=fun σ H Q=>∀ p,H p=none->Ys trs σ (zX H p (.dK [])) fun ps H2=>H2 p=some (.dK [])/\∃ kvs:List (Key×V),ps=kvs.map (fun kv=>(kV kv.1,kv.2))/\kvs.length<=15/\Q (.ref p) (zX H2 p (.dK (vV [] kvs)))
theorem Df {X:Cx} {pos:Pos} {keys:List (Option Expr)} {values:List Expr} {trs:List (TE×TE)} (h:je X pos keys values trs) (hall:keys.all (·.isSome)=true) (hl:keys.length=values.length) (h0:keys≠[])
  (h15:keys.length<=15):PE X (.Dict keys values pos) (GU trs):=by
 intro pins s σ H Q I q
 have hn:=I.hok.fresh (Nat.le_refl s.heap.objs.size)
 have I1:=I.laid (a:=s.heap.objs.size) (o:=.dK []) (h':=s.heap.push { cls:=.type "dict",data:=.dict #[] }) (t':=s.toks) (fun _ _ q=>Heap.get?_push_of_some _ q) (Nat.le_refl _) (Uh s.heap I.big)
 refine wpAny_Dict_walk (knd:=yh X.prog X.w) hall hl h0 h15 (zj (h pins _ σ _ _ I1 (q _ hn)) fun ws s2 ⟨ps,H2,I2,rel,e,kvs,ep,lk,q2⟩=>?_)
 subst ep
 obtain ⟨rs,c,rk⟩:=UT (P:=X.prog) (w:=X.w) rel
 obtain ⟨z,hd,vs0,r0,dd⟩:=Ui I2.hok e
 cases r0
 refine ⟨rs,c,dd,fun h' dd' hs=>⟨.ref s.heap.objs.size,_,?_,rfl,q2⟩⟩
 have hz:(vV [] kvs).length<=sizeLine:=by
  have h1:=WQ kvs []
  rw [List.length_nil] at h1
  rw [sizeLine_eq]; omega
 have he:∃ q,h'.get? s.heap.objs.size=some q:=let ⟨q,_,_,hq,_⟩:=dd'; ⟨q,hq⟩
 exact Xc I2 (by rw [e]; exact True.intro) hs he (Xg hz hd (rk.merge .nil) dd')
section
variable {X:Cx} {pins:List (Addr×Obj)} {σ:St} {H:Hp} {s:Shared} {a:Addr} {y d:V} {u r:Value} {o:Option V} {A:Around} {E:Value->Shared->Prop}
end
section
variable {X:Cx} {o e f:Expr} {apos cpos:Pos} {td ty tx:TE}
end
section
variable {X:Cx} {pins:List (Addr×Obj)} {σ:St} {H:Hp} {s:Shared} {a:Addr} {kvs:List (Key×V)} {A:Around} {E:Value->Shared->Prop}
end
section
variable {X:Cx} {pins:List (Addr×Obj)} {σ:St} {H:Hp} {s:Shared} {a:Addr} {y:V} {u:Value} {A:Around} {E:Value->Shared->Prop}
end
end L2
namespace L3
open PySem
inductive D where
 | non | bl (b:Bool) | int (i:Int) | str (x:Str) | tup (xs:List D) | lst (xs:List D) | dic (ks:List (Sum Int Str)) (vs:List D) | exc (x:Str) | obj (x:Str) (fs:List Str) (vs:List D)
theorem D.ind {P:D->Prop} (non:P .non) (bl:∀ b,P (.bl b)) (int:∀ i,P (.int i)) (str:∀ x,P (.str x)) (tup:∀ xs,(∀ d∈xs,P d)->P (.tup xs)) (lst:∀ xs,(∀ d∈xs,P d)->P (.lst xs))
  (dic:∀ ks xs,(∀ d∈xs,P d)->P (.dic ks xs)) (exc:∀ x,P (.exc x)) (obj:∀ x fs xs,(∀ d∈xs,P d)->P (.obj x fs xs)) (d:D):P d:=
 D.rec (motive_1:=P) (motive_2:=fun ds=>∀ d∈ds,P d) non bl int str (fun xs h=>tup xs h) (fun xs h=>lst xs h) (fun ks xs h=>dic ks xs h) exc (fun x fs xs h=>obj x fs xs h) (fun _ h=>absurd h (by simp))
  (fun d ds hd hds e he=>by
   rcases List.mem_cons.mp he with z | z
   ·exact z ▸ hd
   ·exact hds e z) d
mutual
noncomputable def zg:D->D->Bool
 | .non,.non=>true
 | .bl a,.bl b=>a == b
 | .bl a,.int b=>(if a then 1 else 0) == b
 | .int a,.bl b=>a == (if b then 1 else 0)
 | .int a,.int b=>a == b
 | .str a,.str b=>a == b
 | .tup xs,.tup ys=>dEqs xs ys
 | .lst xs,.lst ys=>dEqs xs ys
 | _,_=>false
noncomputable def dEqs:List D->List D->Bool
 | [],[]=>true
 | x::xs,y::ys=>zg x y&&dEqs xs ys
 | _,_=>false
end
noncomputable abbrev Sl:=Bool×D
noncomputable abbrev zp:=List (Option Sl)
noncomputable abbrev FE:=zp->Option D
noncomputable abbrev FT:=zp->Option Bool
noncomputable abbrev FA:=zp->Option (List D)
noncomputable abbrev FG:=D->zp->Option zp
inductive Fl where
 | nx (σ:zp) | rt (o:Bool) (d:D) | bk (σ:zp) | ct (σ:zp)
noncomputable abbrev FS:=zp->Option Fl
noncomputable abbrev yO:Nat:=16777216
noncomputable def z6 (i:Nat):FE:=fun σ=>match σ[i]? with
 | some (some (false,d))=>some d
 | _=>none
noncomputable def uz (i:Nat):FE:=fun σ=>match σ[i]? with
 | some (some (_,d))=>some d
 | _=>none
noncomputable def eC (d:D):FE:=fun _=>some d
noncomputable def e1 (F:D->Option D) (a:FE):FE:=fun σ=>(a σ).bind F
noncomputable def e2 (F:D->D->Option D) (a b:FE):FE:=fun σ=>(a σ).bind fun x=>(b σ).bind fun y=>F x y
noncomputable def eL (F:List D->Option D) (a:FA):FE:=fun σ=>(a σ).bind F
noncomputable def zC:FA:=fun _=>some []
noncomputable def z8 (a:FE) (r:FA):FA:=fun σ=>(a σ).bind fun x=>(r σ).bind fun xs=>some (x::xs)
noncomputable def pP:D->Option Bool
 | .bl b=>some b
 | _=>none
noncomputable def tE (a:FE):FT:=fun σ=>(a σ).bind pP
noncomputable def ug (a b:FT):FT:=fun σ=>(a σ).bind fun k=>match k with
 | true=>b σ
 | false=>some false
noncomputable def v4 (a b:FT):FT:=fun σ=>(a σ).bind fun k=>match k with
 | true=>some true
 | false=>b σ
noncomputable def v3 (a:FT):FT:=fun σ=>(a σ).bind fun k=>some (!k)
noncomputable def tw (a b:FE):FE:=fun σ=>(a σ).bind fun x=>(pP x).bind fun k=>match k with
 | true=>b σ
 | false=>some (.bl false)
noncomputable def Oj (a b:FE):FE:=fun σ=>(a σ).bind fun x=>(pP x).bind fun k=>match k with
 | true=>some (.bl true)
 | false=>b σ
noncomputable def Xi (a:FE):FE:=fun σ=>(a σ).bind fun x=>(pP x).bind fun k=>some (.bl (!k))
noncomputable def tz (c:FT) (a b:FE):FE:=fun σ=>(c σ).bind fun k=>match k with
 | true=>a σ
 | false=>b σ
noncomputable def vP (a:FA):FE:=fun σ=>(a σ).bind fun xs=>some (.tup xs)
noncomputable def yn (a:FA):FE:=fun σ=>(a σ).bind fun xs=>some (.lst xs)
noncomputable def zy:D->D->Option D
 | .int i,.int j=>some (.int (i+j))
 | .int i,.bl b=>some (.int (i+(if b then 1 else 0)))
 | .str x,.str y=>if x.length+y.length<=yO then some (.str (x++y)) else none
 | .lst x,.lst y=>if x.length+y.length<=yO then some (.lst (x++y)) else none
 | .tup x,.tup y=>if x.isEmpty=false/\x.length+y.length<=yO then some (.tup (x++y)) else none
 | _,_=>none
noncomputable def fI (C:Int->Int->Bool) (g:Int->Int->Int):D->D->Option D
 | .int i,.int j=>match C i j with
  | true=>some (.int (g i j))
  | false=>none
 | _,_=>none
noncomputable def jv:D->D->Option D
 | .int i,.int j=>some (.int (i - j))
 | _,_=>none
noncomputable def t6 (i:Int):Bool:=decide (-(2 ^ 64)<i)&&decide (i<2 ^ 64)
noncomputable def pZ:D->D->Option D:=fI (fun i _=>t6 i) (·*·)
noncomputable def Zv:D->D->Option D:=fI (fun _ j=>t6 j) (·*·)
noncomputable def wt:D->D->Option D:=fI (fun _ j=>decide (0<j)) (· % ·)
noncomputable def ql:D->D->Option D:=fI (fun _ j=>decide (0<j)&&decide (j<2 ^ 64)) (· / ·)
noncomputable def jE (i j:Int):Bool:=decide (0<=j)&&(decide (j<=1000000)&&decide (i.natAbs<2 ^ 64))
noncomputable def Os:D->D->Option D:=fI jE fun i j=>i ^ j.toNat
noncomputable def Xv:D->D->Option D:=fI jE fun i j=>i*2 ^ j.toNat
noncomputable def Ot:D->D->Option D:=fI (fun _ j=>decide (0<=j)) fun i j=>i / 2 ^ j.toNat
noncomputable def Xn (g:Int->Int->Int):D->D->Option D
 | .int i,.int j=>some (.int (g i j))
 | _,_=>none
noncomputable def t_:D->Option D
 | .int i=>some (.int (-i))
 | _=>none
noncomputable def u4 (g:Int->Int->Bool):D->D->Option D
 | .int i,.int j=>some (.bl (g i j))
 | _,_=>none
noncomputable def qC:D->Bool
 | .non=>true
 | _=>false
noncomputable def pY:D->D->Option D
 | x,.non=>some (.bl (qC x))
 | _,_=>none
noncomputable def qo:D->D->Option D
 | x,.non=>some (.bl (!qC x))
 | _,_=>none
noncomputable def xB:D->Bool
 | .non=>true
 | .bl _=>true
 | .int _=>true
 | .str _=>true
 | _=>false
noncomputable def wp (f:D->D->Bool):List D->List D->Bool
 | x::xs,y::ys=>f x y&&wp f xs ys
 | _,_=>true
noncomputable def xj:Nat->D->D->Bool
 | 0,_,_=>false
 | n+1,x,y=>match x,y with
  | .tup xs,.tup ys=>wp (xj n) xs ys
  | .lst xs,.lst ys=>wp (xj n) xs ys
  | x,y=>xB x&&xB y
noncomputable def vi:D->D->Option Bool
 | .int _,.bl _=>none
 | .bl _,.int _=>none
 | x,y=>match xj 6 x y with
  | true=>some (zg x y)
  | false=>none
noncomputable def zQ (x y:D):Option D:=(vi x y).bind fun k=>some (.bl k)
noncomputable def xc (x y:D):Option D:=(vi x y).bind fun k=>some (.bl (!k))
noncomputable def vT:D->Option (Sum Int Str)
 | .int i=>some (.inl i)
 | .str x=>some (.inr x)
 | _=>none
noncomputable def getK {α:Type}:List (Sum Int Str)->List α->Sum Int Str->Option α
 | k'::ks,v::vs,k=>if k'=k then some v else getK ks vs k
 | _,_,_=>none
noncomputable def z_ (ks:List (Sum Int Str)) (k:Sum Int Str):Bool:=ks.any fun j=>decide (j=k)
noncomputable def xZ (ks:List (Sum Int Str)) (k:Sum Int Str):List (Sum Int Str):=if z_ ks k=true then ks else ks++[k]
noncomputable def xf {α:Type} (ks:List (Sum Int Str)) (vs:List α) (k:Sum Int Str) (v:α):List α:=if z_ ks k=true then List.zipWith (fun k' x=>if k'=k then v else x) ks vs else vs++[v]
noncomputable def pX (x:D):D->Option Bool
 | .lst ys=>match xB x&&ys.all xB with
  | true=>some (ys.any fun y=>zg y x)
  | false=>none
 | .tup ys=>match xB x&&ys.all xB with
  | true=>some (ys.any fun y=>zg y x)
  | false=>none
 | .str j=>match x with
  | .str i=>some (!(Builtin.Str.occurrences j i 0 j.length 1).isEmpty)
  | _=>none
 | .dic ks _=>(vT x).bind fun k=>some (z_ ks k)
 | _=>none
noncomputable def xK (x y:D):Option D:=(pX x y).bind fun k=>some (.bl k)
noncomputable def qm (x y:D):Option D:=(pX x y).bind fun k=>some (.bl (!k))
noncomputable def wI {α:Type} (xs:List α) (i:Int):Option α:=if 0<=i then xs[i.toNat]? else if -(xs.length:Int)<=i then xs[(i+xs.length).toNat]? else none
noncomputable def zM:D->D->Option D
 | .lst xs,.int i=>wI xs i
 | .tup xs,.int i=>wI xs i
 | .str z,.int i=>(wI z.cps.toList i).bind fun c=>some (.str ⟨#[c]⟩)
 | .dic ks vs,k=>(vT k).bind fun k=>getK ks vs k
 | _,_=>none
noncomputable def ye:List D->Option D
 | [.lst xs]=>some (.int xs.length)
 | [.tup xs]=>some (.int xs.length)
 | [.str z]=>some (.int z.length)
 | _=>none
noncomputable def Op:List D->Option D
 | [.int i]=>some (.int i)
 | [.bl k]=>some (.int (if k then 1 else 0))
 | _=>none
inductive vc where
 | int | bool | str | list | tuple
noncomputable def vc.nm:vc->String
 | .int => "int"
 | .bool => "bool"
 | .str => "str"
 | .list => "list"
 | .tuple => "tuple"
noncomputable def vk:vc->D->Option Bool
 | _,.dic _ _=>none
 | _,.exc _=>none
 | _,.obj _ _ _=>none
 | .int,.int _=>some true
 | .int,.bl _=>some true
 | .int,_=>some false
 | .bool,.bl _=>some true
 | .bool,_=>some false
 | .str,.str _=>some true
 | .str,_=>some false
 | .list,.lst _=>some true
 | .list,_=>some false
 | .tuple,.tup _=>some true
 | .tuple,_=>some false
noncomputable def vC (T:vc) (a:FE):FE:=fun τ=>(a τ).bind fun d=>(vk T d).bind fun b=>some (.bl b)
noncomputable def xl (a:FE):FA:=fun σ=>(a σ).bind fun d=>match d with
 | .lst xs=>some xs
 | .tup xs=>some xs
 | .str z=>some (z.cps.toList.map fun c=>.str ⟨#[c]⟩)
 | _=>none
noncomputable def wP (lo hi:FE):FA:=fun σ=>(lo σ).bind fun x=>(hi σ).bind fun y=>match x,y with
 | .int i,.int j=>if i.natAbs<=yO/\j.natAbs<=yO/\(j - i).toNat<=yO then some ((List.range (j - i).toNat).map fun k:Nat=>.int (i+k)) else none
 | _,_=>none
noncomputable def za (i:Nat):FG:=fun d σ=>some (σ.set i (some (false,d)))
noncomputable def xG (i j:Nat):FG:=fun d σ=>match d with
 | .tup [x,y]=>some ((σ.set i (some (false,x))).set j (some (false,y)))
 | _=>none
noncomputable def zn:FS:=fun σ=>some (.nx σ)
noncomputable def zG (a b:FS):FS:=fun σ=>(a σ).bind fun f=>match f with
 | .nx σ'=>b σ'
 | f=>some f
noncomputable def ze (i:Nat) (e:FE):FS:=fun σ=>(e σ).bind fun d=>some (.nx (σ.set i (some (false,d))))
noncomputable def uc (i:Nat) (e:FE):FS:=fun σ=>(e σ).bind fun d=>some (.nx (σ.set i (some (true,d))))
noncomputable def zk (e:FE):FS:=fun σ=>(e σ).bind fun d=>some (.rt false d)
noncomputable def vo (e:FE):FS:=fun σ=>(e σ).bind fun d=>some (.rt true d)
noncomputable def qK (i:Nat):FS:=fun σ=>match σ[i]? with
 | some (some (true,d))=>some (.rt true d)
 | _=>none
noncomputable def zl (c:FT) (a b:FS):FS:=fun σ=>(c σ).bind fun k=>match k with
 | true=>a σ
 | false=>b σ
noncomputable def qE (g:FG) (b:FS):List D->zp->Option Fl
 | [],σ=>some (.nx σ)
 | d::r,σ=>(g d σ).bind fun σ1=>(b σ1).bind fun f=>match f with
  | .nx σ2=>qE g b r σ2
  | .ct σ2=>qE g b r σ2
  | .bk σ2=>some (.nx σ2)
  | .rt o d=>some (.rt o d)
noncomputable def tH (it:FA) (g:FG) (b:FS):FS:=fun σ=>(it σ).bind fun ds=>qE g b ds σ
noncomputable def v6 (c:FT) (b:FS):Nat->zp->Option Fl
 | 0,_=>none
 | n+1,σ=>(c σ).bind fun k=>match k with
  | false=>some (.nx σ)
  | true=>(b σ).bind fun f=>match f with
   | .nx σ2=>v6 c b n σ2
   | .ct σ2=>v6 c b n σ2
   | .bk σ2=>some (.nx σ2)
   | .rt o d=>some (.rt o d)
noncomputable def Z8:Nat:=100000000
noncomputable def Yk (c:FT) (b:FS):FS:=fun σ=>v6 c b Z8 σ
noncomputable def gR (i:Nat):FS:=fun σ=>match σ[i]? with
 | some (some (_,d))=>some (.nx (σ.set i (some (false,d))))
 | _=>none
noncomputable def EH (i:Nat) (F:D->Option D):FS:=fun σ=>match σ[i]? with
 | some (some (true,d))=>(F d).bind fun d'=>some (.nx (σ.set i (some (true,d'))))
 | _=>none
noncomputable def ub (i:Nat) (F:D->D->Option D) (e:FE):FS:=fun σ=>match σ[i]? with
 | some (some (true,d))=>(e σ).bind fun x=>(F d x).bind fun d'=>some (.nx (σ.set i (some (true,d'))))
 | _=>none
noncomputable def u3:D->D->Option D
 | .lst xs,y=>if xs.length<yO then some (.lst (xs++[y])) else none
 | _,_=>none
noncomputable def p5 (i:Nat) (k v:FE):FS:=fun σ=>(v σ).bind fun y=>match σ[i]? with
 | some (some (true,.dic ks ds))=>(k σ).bind fun x=>(vT x).bind fun x=>if ks.length<yO then some (.nx (σ.set i (some (true,.dic (xZ ks x) (xf ks ds x y))))) else none
 | _=>none
noncomputable def vD (ks:List (Sum Int Str)) (ds:List D) (x:D):Option D:=(vT x).bind fun k=>getK ks ds k
noncomputable def uO (ks:List (Sum Int Str)) (x:D):Option D:=(vT x).bind fun k=>some (.bl (!z_ ks k))
noncomputable def Uk (ks:List Str) (vs:FA):FE:=fun σ=>(vs σ).bind fun ds=>if ks.length=ds.length then some (.dic (ks.map .inr) ds) else none
noncomputable def yr (g:FG) (c:FT) (e:FE) (σ:zp):List D->Option (List D)
 | []=>some []
 | d::r=>(g d σ).bind fun σ1=>(c σ1).bind fun k=>match k with
  | true=>(e σ1).bind fun x=>(yr g c e σ r).bind fun xs=>some (x::xs)
  | false=>yr g c e σ r
noncomputable def yF:FT:=fun _=>some true
noncomputable def yT (n:Nat) (it:FA) (g:FG) (c:FT) (e:FE):FE:=fun σ=>(it σ).bind fun ds=>(yr g c e (σ++List.replicate n none) ds).bind fun xs=>some (.lst xs)
noncomputable def zZ (n:Nat) (b:FS) (ds:List D):Option (Bool×D):=(b (ds.map (fun d=>some (false,d))++List.replicate (n - ds.length) none)).bind fun f=>match f with
 | .rt o d=>some (o,d)
 | .nx _=>some (false,.non)
 | _=>none
noncomputable def zS (F:List D->Option (Bool×D)) (a:FA):FE:=fun σ=>(a σ).bind fun ds=>(F ds).bind fun r=>some r.2
noncomputable def Zo (F:List D->Option (Bool×D)) (a:FA):FE:=fun σ=>(a σ).bind fun ds=>(F ds).bind fun r=>match r with
 | (true,d)=>some d
 | _=>none
end L3
namespace L3
open PySem PySem.Spec PyProof.Rows L2
noncomputable abbrev St:=L2.St
noncomputable def IZ (_:PySem.W.Frag) (H:Hp) (a:Addr) (kvs:List (Key×V)):Prop:=Rd H a (.dK kvs)
mutual
noncomputable def zV (K:PySem.W.Frag) (H:Hp):D->V->Prop
 | .non,v=>v=.non
 | .bl b,v=>v=.bl b
 | .int i,v=>v=.int i
 | .str x,v=>v=.str x/\x.length<=sizeLine
 | .tup ds,v=>∃ a vs,v=.ref a/\yR K H a vs/\Reps K H ds vs/\ds.length<=sizeLine
 | .lst ds,v=>∃ a vs,v=.ref a/\yE K H a vs/\Reps K H ds vs/\ds.length<=sizeLine
 | .dic ks ds,v=>∃ a vs,v=.ref a/\IZ K H a (ks.zip vs)/\ks.length=vs.length/\Reps K H ds vs/\ds.length<=sizeLine
 | .exc x,v=>∃ a C,v=.ref a/\PySem.W.nsIn K mainGlobals x=some (some (.ref C))/\H a=some (.ext (IV a C))
 | .obj x fs ds,v=>∃ a C dx vs,v=.ref a/\PySem.W.nsIn K mainGlobals x=some (some (.ref C))/\H a=some (.ins C dx (fs.zip vs))/\fs.length=vs.length/\Reps K H ds vs
noncomputable def Reps (K:PySem.W.Frag) (H:Hp):List D->List V->Prop
 | [],vs=>vs=[]
 | d::ds,vs=>∃ v r,vs=v::r/\zV K H d v/\Reps K H ds r
end
section
variable {K:PySem.W.Frag} {G H H':Hp}
theorem Rd.mono {a:Addr} {u:HO} (s:yD H H') (h:Rd H a u):Rd H' a u:=by
 rcases h with h | ⟨o,h⟩
 ·exact .inl (s _ _ h)
 ·exact .inr ⟨o,s _ _ h⟩
theorem wc {a:Addr} {xs:List V} (s:yD H H') (h:yR K H a xs):yR K H' a xs:=by
 rcases h with h | h
 ·exact .inl (Rd.mono s h)
 ·exact .inr h
theorem wL {a:Addr} {xs:List V} (s:yD H H') (h:yE K H a xs):yE K H' a xs:=by
 rcases h with h | h
 ·exact .inl (Rd.mono s h)
 ·exact .inr h
theorem Reps.imp:∀ {ds:List D} {vs:List V},(∀ d∈ds,∀ v,zV K H d v->zV K H' d v)->Reps K H ds vs->Reps K H' ds vs
 | [],_,_,h=>h
 | d::ds,vs,f,h=>by
  obtain ⟨v,r,rfl,hv,hr⟩:=h
  exact ⟨v,r,rfl,f d List.mem_cons_self v hv,Reps.imp (fun d' m=>f d' (List.mem_cons_of_mem _ m)) hr⟩
theorem zV.mono (s:yD H H'):∀ {d:D} {v:V},zV K H d v->zV K H' d v:=fun {d}=>by
 refine D.ind (P:=fun d=>∀ v,zV K H d v->zV K H' d v) (fun v h=>h) (fun b v h=>h) (fun i v h=>h) (fun x v h=>h) ?_ ?_ ?_ ?_ ?_ d _
 ·rintro xs ih v ⟨a,vs,e,q,r,l⟩
  exact ⟨a,vs,e,wc s q,Reps.imp ih r,l⟩
 ·rintro xs ih v ⟨a,vs,e,q,r,l⟩
  exact ⟨a,vs,e,wL s q,Reps.imp ih r,l⟩
 ·rintro ks xs ih v ⟨a,vs,e,q,z,r,l⟩
  exact ⟨a,vs,e,Rd.mono s q,z,Reps.imp ih r,l⟩
 ·rintro x v ⟨a,C,e,n,h⟩
  exact ⟨a,C,e,n,s _ _ h⟩
 ·rintro x fs xs ih v ⟨a,C,dx,vs,e,n,h,l,r⟩
  exact ⟨a,C,dx,vs,e,n,s _ _ h,l,Reps.imp ih r⟩
theorem Reps.mono (s:yD H H') {ds:List D} {vs:List V} (h:Reps K H ds vs):Reps K H' ds vs:=Reps.imp (fun _ _ _=>zV.mono s) h
theorem Reps.length:∀ {ds:List D} {vs:List V},Reps K H ds vs->vs.length=ds.length
 | [],_,h=>by cases (show _=[] from h); rfl
 | d::ds,_,h=>by
  obtain ⟨v,r,rfl,_,hr⟩:=h
  rw [List.length_cons,List.length_cons,Reps.length hr]
theorem Reps.get:∀ {ds:List D} {vs:List V} {i:Nat} {d:D},Reps K H ds vs->ds[i]?=some d->∃ v,vs[i]?=some v/\zV K H d v
 | [],_,_,_,_,e=>by cases e
 | d::ds,_,0,_,h,e=>by
  obtain ⟨v,r,rfl,hv,hr⟩:=h
  cases e
  exact ⟨v,rfl,hv⟩
 | d::ds,_,i+1,d',h,e=>by
  obtain ⟨v,r,rfl,hv,hr⟩:=h
  exact Reps.get (i:=i) hr (by simpa using e)
theorem Reps.at {ds:List D} {vs:List V} {i:Nat} {v:V} (h:Reps K H ds vs) (e:vs[i]?=some v):∃ d,ds[i]?=some d/\zV K H d v:=by
 have l:=h.length
 have hi:i<ds.length:=by rw [<- l]; exact (List.getElem?_eq_some_iff.mp e).1
 obtain ⟨v',e',r⟩:=h.get (List.getElem?_eq_getElem hi)
 rw [e] at e'
 cases e'
 exact ⟨_,List.getElem?_eq_getElem hi,r⟩
theorem Reps.append:∀ {ds es:List D} {vs us:List V},Reps K H ds vs->Reps K H es us->Reps K H (ds++es) (vs++us)
 | [],_,_,_,h,g=>by cases (show _=[] from h); exact g
 | d::ds,_,_,_,h,g=>by
  obtain ⟨v,r,rfl,hv,hr⟩:=h
  exact ⟨v,_,rfl,hv,Reps.append hr g⟩
theorem Reps.one {d:D} {v:V} (h:zV K H d v):Reps K H [d] [v]:=⟨v,[],rfl,h,rfl⟩
theorem Reps.take:∀ {ds:List D} {vs:List V} (n:Nat),Reps K H ds vs->Reps K H (ds.take n) (vs.take n)
 | _,_,0,_=>by rw [List.take_zero,List.take_zero]; rfl
 | [],_,n+1,h=>by cases (show _=[] from h); rfl
 | d::ds,_,n+1,h=>by
  obtain ⟨v,r,rfl,hv,hr⟩:=h
  exact ⟨v,_,rfl,hv,Reps.take n hr⟩
theorem Reps.drop:∀ {ds:List D} {vs:List V} (n:Nat),Reps K H ds vs->Reps K H (ds.drop n) (vs.drop n)
 | _,_,0,h=>h
 | [],_,n+1,h=>by cases (show _=[] from h); rfl
 | d::ds,_,n+1,h=>by
  obtain ⟨v,r,rfl,hv,hr⟩:=h
  exact Reps.drop n hr
theorem Reps.ints:∀ {ns:List Int},Reps K H (ns.map D.int) (ns.map V.int)
 | []=>rfl
 | n::ns=>⟨_,_,rfl,rfl,Reps.ints⟩
end
structure zK (G H G' H':Hp):Prop where
 g:yD G G'
 h:yD H H'
 gh:yD G' H'
 new:∀ p,G' p≠none->G p≠none\/H p=none
section
variable {G H G' H' G0 H0 G1 H1 G2 H2:Hp} {p:Addr} {o:HO}
theorem zK.refl (s:yD G H):zK G H G H:=⟨yD.refl _,yD.refl _,s,fun _ h=>.inl h⟩
theorem zK.trans (a:zK G H G1 H1) (b:zK G1 H1 G2 H2):zK G H G2 H2:=⟨a.g.trans b.g,a.h.trans b.h,b.gh,fun p h=>by
 rcases b.new p h with z | z
 ·exact a.new p z
 ·exact .inr (a.h.free z)⟩
theorem zK.rebase (a:zK G0 H0 G1 H1) (b:zK G1 H0 G2 H2):zK G0 H0 G2 H2:=⟨a.g.trans b.g,b.h,b.gh,fun p h=>by
 rcases b.new p h with z | z
 ·exact a.new p z
 ·exact .inr z⟩
theorem zK.far (a:zK G0 H0 G1 H1):zK G1 H0 G1 H1:=⟨yD.refl _,a.h,a.gh,fun _ h=>.inl h⟩
theorem IC {H:Hp} {p q:Addr} {o:HO} (h:zX H p o q≠none):q=p\/H q≠none:=by
 by_cases e:q=p
 ·exact .inl e
 ·rw [yf e] at h
  exact .inr h
theorem EI (s:yD G H):yD (zX G p o) (zX H p o):=fun b u e=>by
 by_cases hb:b=p
 ·subst hb
  rw [yz] at e ⊢
  exact e
 ·rw [yf hb] at e ⊢
  exact s _ _ e
theorem zK.lay (s:yD G H) (h:H p=none):zK G H (zX G p o) (zX H p o):=⟨wE (s.free h) o,wE h o,EI s,fun q z=>by
 rcases IC z with e | e
 ·exact .inr (e ▸ h)
 ·exact .inl e⟩
theorem zK.layO (s:yD G H) (h:H p=none):zK G H G (zX H p o):=⟨yD.refl _,wE h o,s.trans (wE h o),fun _ z=>.inl z⟩
theorem zK.frz (a:zK G H G1 H1) (h:H p=none) (g:G1 p=none) (e:H1 p=some o):zK G H (zX G1 p o) H1:=⟨a.g.trans (wE g o),a.h,fun b u q=>by
 by_cases hb:b=p
 ·subst hb
  rw [yz] at q
  cases q
  exact e
 ·rw [yf hb] at q
  exact a.gh _ _ q,fun q z=>by
 rcases IC z with w | w
 ·exact .inr (w ▸ h)
 ·exact a.new q w⟩
end
noncomputable def wl (K:PySem.W.Frag) (G H:Hp) (d:D) (p:Addr):Prop:=match d with
 | .lst ds=>∃ vs,H p=some (.lst vs)/\Reps K G ds vs/\ds.length<=sizeLine
 | .dic ks ds=>∃ vs,H p=some (.dK (ks.zip vs))/\ks.length=vs.length/\Reps K G ds vs/\ds.length<=sizeLine
 | _=>False
section
variable {K:PySem.W.Frag} {G H G' H':Hp} {d:D} {p:Addr}
theorem wl.some (h:wl K G H d p):H p≠none:=by
 cases d with
 | lst ds=>obtain ⟨vs,e,_⟩:=h; rw [e]; exact fun z=>nomatch z
 | dic ks ds=>obtain ⟨vs,e,_⟩:=h; rw [e]; exact fun z=>nomatch z
 | _=>exact h.elim
theorem wl.mono (g:yD G G') (h:yD H H') (o:wl K G H d p):wl K G' H' d p:=by
 cases d with
 | lst ds=>obtain ⟨vs,e,r,l⟩:=o; exact ⟨vs,h _ _ e,r.mono g,l⟩
 | dic ks ds=>obtain ⟨vs,e,z,r,l⟩:=o; exact ⟨vs,h _ _ e,z,r.mono g,l⟩
 | _=>exact o.elim
theorem wl.rep (s:yD G H) (o:wl K G H d p):zV K H d (.ref p):=by
 cases d with
 | lst ds=>obtain ⟨vs,e,r,l⟩:=o; exact ⟨p,vs,rfl,yE.of e,r.mono s,l⟩
 | dic ks ds=>obtain ⟨vs,e,z,r,l⟩:=o; exact ⟨p,vs,rfl,.inl e,z,r.mono s,l⟩
 | _=>exact o.elim
theorem wl.frz (o:wl K G H d p) (g:G p=none):∃ u,H p=Option.some u/\zV K (zX G p u) d (.ref p):=by
 cases d with
 | lst ds=>obtain ⟨vs,e,r,l⟩:=o; exact ⟨_,e,p,vs,rfl,yE.of yz,r.mono (wE g _),l⟩
 | dic ks ds=>obtain ⟨vs,e,z,r,l⟩:=o; exact ⟨_,e,p,vs,rfl,.inl yz,z,r.mono (wE g _),l⟩
 | _=>exact o.elim
end
structure zo (K:PySem.W.Frag) (n:Nat) (G0 H0 G H:Hp) (τ:zp) (σ:St):Prop where
 ext:zK G0 H0 G H
 l1:σ.length=n
 l2:τ.length=n
 fr:∀ (i:Nat) (d:D),τ[i]?=some (some (false,d))->∃ v,σ[i]?=some (some v)/\zV K G d v
 ow:∀ (i:Nat) (d:D),τ[i]?=some (some (true,d))->∃ p,σ[i]?=some (some (V.ref p))/\G p=none/\H0 p=none/\wl K G H d p
 ap:∀ (i j:Nat) (d e:D) (p:Addr),i≠j->τ[i]?=some (some (true,d))->τ[j]?=some (some (true,e))->σ[i]?=some (some (V.ref p))->σ[j]?=some (some (V.ref p))->False
section
variable {K:PySem.W.Frag} {n:Nat} {G0 H0 G H G' H':Hp} {τ:zp} {σ:St}
theorem zo.go (E:zo K n G0 H0 G H τ σ) (x:zK G H G' H'):zo K n G0 H0 G' H' τ σ:=⟨E.ext.trans x,E.l1,E.l2,fun i d h=>by
 obtain ⟨v,e,r⟩:=E.fr i d h
 exact ⟨v,e,r.mono x.g⟩,fun i d h=>by
 obtain ⟨p,e,g,z,o⟩:=E.ow i d h
 refine ⟨p,e,?_,z,o.mono x.g x.h⟩
 cases q:G' p with
 | none=>rfl
 | some u=>
  rcases x.new p (by rw [q]; exact fun z=>nomatch z) with w | w
  ·exact absurd g w
  ·exact absurd w o.some,E.ap⟩
theorem zo.far (E:zo K n G0 H0 G H τ σ):zo K n G H0 G H τ σ:=⟨E.ext.far,E.l1,E.l2,E.fr,E.ow,E.ap⟩
theorem zo.near {Ga Ha:Hp} (a:zK G0 H0 Ga Ha) (E:zo K n Ga H0 G H τ σ):zo K n G0 H0 G H τ σ:=⟨a.rebase E.ext,E.l1,E.l2,E.fr,E.ow,E.ap⟩
theorem zo.lt {i:Nat} {s:Option Sl} (E:zo K n G0 H0 G H τ σ) (h:τ[i]?=some s):i<n:=by
 rw [<- E.l2]
 exact (List.getElem?_eq_some_iff.mp h).1
theorem wb {α:Type} {xs:List α} {i j:Nat} {x y:α} (h:(xs.set i x)[j]?=some y):(j=i/\y=x)\/(j≠i/\xs[j]?=some y):=by
 rw [List.getElem?_set] at h
 by_cases e:i=j
 ·subst e
  rw [if_pos rfl] at h
  split at h
  ·cases h; exact .inl ⟨rfl,rfl⟩
  ·cases h
 ·rw [if_neg e] at h
  exact .inr ⟨fun z=>e z.symm,h⟩
theorem jy {α:Type} {xs:List α} {i:Nat} {x:α} (h:i<xs.length):(xs.set i x)[i]?=some x:=by rw [List.getElem?_set,if_pos rfl,if_pos h]
theorem u7 {α:Type} {xs:List α} {i j:Nat} {x:α} (h:j≠i):(xs.set i x)[j]?=xs[j]?:=by rw [List.getElem?_set,if_neg (fun z=>h z.symm)]
theorem zo.set {i:Nat} {d:D} {v:V} (E:zo K n G0 H0 G H τ σ) (hi:i<n) (r:zV K G d v):zo K n G0 H0 G H (τ.set i (some (false,d))) (σ.set i (some v)):=⟨E.ext,by rw [List.length_set]; exact E.l1,by rw [List.length_set]; exact E.l2,fun j e h=>by
 rcases wb h with ⟨rfl,z⟩ | ⟨ne,z⟩
 ·cases z
  exact ⟨v,jy (by rw [E.l1]; exact hi),r⟩
 ·rw [u7 ne]
  exact E.fr j e z,fun j e h=>by
 rcases wb h with ⟨rfl,z⟩ | ⟨ne,z⟩
 ·cases z
 ·rw [u7 ne]
  exact E.ow j e z,fun j k e f p hne h1 h2=>by
 rcases wb h1 with ⟨rfl,z⟩ | ⟨ne,z⟩
 ·cases z
 ·rcases wb h2 with ⟨rfl,z'⟩ | ⟨ne',z'⟩
  ·cases z'
  ·rw [u7 ne,u7 ne']
   exact E.ap j k e f p hne z z'⟩
theorem zo.setO {i:Nat} {d:D} {p:Addr} (E:zo K n G0 H0 G H τ σ) (hi:i<n) (hg:G p=none) (h0:H0 p=none) (o:wl K G H d p) (hn:∀ (j:Nat) (e:D),j≠i->τ[j]?=some (some (true,e))->σ[j]?=some (some (V.ref p))->False) :
  zo K n G0 H0 G H (τ.set i (some (true,d))) (σ.set i (some (.ref p))):=⟨E.ext,by rw [List.length_set]; exact E.l1,by rw [List.length_set]; exact E.l2,fun j e h=>by
 rcases wb h with ⟨rfl,z⟩ | ⟨ne,z⟩
 ·cases z
 ·rw [u7 ne]
  exact E.fr j e z,fun j e h=>by
 rcases wb h with ⟨rfl,z⟩ | ⟨ne,z⟩
 ·cases z
  exact ⟨p,jy (by rw [E.l1]; exact hi),hg,h0,o⟩
 ·rw [u7 ne]
  exact E.ow j e z,fun j k e f q hne h1 h2 h3 h4=>by
 rcases wb h1 with ⟨rfl,z⟩ | ⟨ne,z⟩
 ·rcases wb h2 with ⟨rfl,z'⟩ | ⟨ne',z'⟩
  ·exact hne rfl
  ·rw [jy (by rw [E.l1]; exact hi)] at h3
   rw [u7 ne'] at h4
   cases h3
   exact hn k f ne' z' h4
 ·rcases wb h2 with ⟨rfl,z'⟩ | ⟨ne',z'⟩
  ·rw [jy (by rw [E.l1]; exact hi)] at h4
   rw [u7 ne] at h3
   cases h4
   exact hn j e ne z h3
  ·rw [u7 ne] at h3
   rw [u7 ne'] at h4
   exact E.ap j k e f q hne z z' h3 h4⟩
theorem zo.newO {i:Nat} {p:Addr} (E:zo K n G0 H0 G H τ σ) (hp:H p=none):∀ (j:Nat) (e:D),j≠i->τ[j]?=some (some (true,e))->σ[j]?=some (some (V.ref p))->False:=fun j e _ h1 h2=>by
 obtain ⟨q,e1,_,_,o⟩:=E.ow j e h1
 rw [h2] at e1
 cases e1
 exact o.some hp
theorem zo.freeze {i:Nat} {b:Bool} {d:D} (E:zo K n G0 H0 G H τ σ) (hi:τ[i]?=some (some (b,d))):∃ G',zo K n G0 H0 G' H (τ.set i (some (false,d))) σ/\yD G G':=by
 have hin:=E.lt hi
 cases b with
 | false=>
  refine ⟨G,?_,yD.refl _⟩
  have e:τ.set i (some (false,d))=τ:=by
   apply List.ext_getElem?
   intro j
   by_cases hj:j=i
   ·subst hj; rw [jy (by rw [E.l2]; exact hin),hi]
   ·rw [u7 hj]
  rw [e]
  exact E
 | true=>
  obtain ⟨p,e,g,z,o⟩:=E.ow i d hi
  obtain ⟨u,hu,r⟩:=o.frz g
  have x:zK G0 H0 (zX G p u) H:=E.ext.frz z g hu
  refine ⟨zX G p u,⟨x,E.l1,by rw [List.length_set]; exact E.l2,fun j d' h=>?_,fun j d' h=>?_,fun j k e1 f q hne h1 h2=>?_⟩,wE g _⟩
  ·rcases wb h with ⟨rfl,w⟩ | ⟨ne,w⟩
   ·cases w
    exact ⟨_,e,r⟩
   ·obtain ⟨v,e',r'⟩:=E.fr j d' w
    exact ⟨v,e',r'.mono (wE g _)⟩
  ·rcases wb h with ⟨rfl,w⟩ | ⟨ne,w⟩
   ·cases w
   ·obtain ⟨q,e',g',z',o'⟩:=E.ow j d' w
    refine ⟨q,e',?_,z',o'.mono (wE g _) (yD.refl _)⟩
    rw [yf (fun c=>?_)]
    ·exact g'
    ·subst c
     exact E.ap i j d d' q (fun c=>ne c.symm) hi w e e'
  ·rcases wb h1 with ⟨rfl,w⟩ | ⟨ne,w⟩
   ·cases w
   ·rcases wb h2 with ⟨rfl,w'⟩ | ⟨ne',w'⟩
    ·cases w'
    ·exact E.ap j k e1 f q hne w w'
end
section
variable (X:Cx)
structure SE (e:Expr) (f:FE):Prop where
 h:∃ t,PE X e t/\∀ {G0 H0 G H:Hp} {τ:zp} {σ:St} {d:D} {Q:VK},zo X.K X.N.length G0 H0 G H τ σ->f τ=some d->(∀ v G' H',zK G H G' H'->zV X.K G' d v->Q v H')->t σ H Q
structure SB (e:Expr) (f:FE):Prop where
 h:∃ t,PE X e t/\∀ {G0 H0 G H:Hp} {τ:zp} {σ:St} {d:D} {Q:VK},zo X.K X.N.length G0 H0 G H τ σ->f τ=some d->(∀ v G' H',zK G H G' H'->zV X.K H' d v->Q v H')->t σ H Q
structure SF (e:Expr) (f:FE):Prop where
 h:∃ t,PE X e t/\∀ {G0 H0 G H:Hp} {τ:zp} {σ:St} {d:D} {Q:VK},zo X.K X.N.length G0 H0 G H τ σ->f τ=some d->(∀ p G' H',zK G H G' H'->H p=none->G' p=none->wl X.K G' H' d p->Q (.ref p) H')->t σ H Q
structure ST (e:Expr) (f:FT):Prop where
 h:∃ t,PT X e t/\∀ {G0 H0 G H:Hp} {τ:zp} {σ:St} {d:Bool} {Q:Bool->Hp->Prop},zo X.K X.N.length G0 H0 G H τ σ->f τ=some d->(∀ G' H',zK G H G' H'->Q d H')->t σ H Q
structure SW (e:Expr) (f:FT):Prop where
 h:∃ t,PW X e t/\∀ {G0 H0 G H:Hp} {τ:zp} {σ:St} {d:Bool} {Q:Bool->Hp->Prop},zo X.K X.N.length G0 H0 G H τ σ->f τ=some d->(∀ G' H',zK G H G' H'->Q d H')->t σ H Q
structure SA (es:List Expr) (f:FA):Prop where
 h:∃ t,PA X es t/\∀ {G0 H0 G H:Hp} {τ:zp} {σ:St} {ds:List D} {Q:List V->Hp->Prop},zo X.K X.N.length G0 H0 G H τ σ->f τ=some ds->(∀ vs G' H',zK G H G' H'->Reps X.K G' ds vs->Q vs H')->t σ H Q
structure jf (es:List Expr) (f:FA):Prop where
 h:∃ t,PA X es t/\∀ {G0 H0 G H:Hp} {τ:zp} {σ:St} {ds:List D} {Q:List V->Hp->Prop},zo X.K X.N.length G0 H0 G H τ σ->f τ=some ds->(∀ vs G' H',zK G H G' H'->Reps X.K H' ds vs->Q vs H')->t σ H Q
end
noncomputable def we (K:PySem.W.Frag) (n:Nat) (G0 H0:Hp) (E:uF):Fl->Prop
 | .nx τ=>∀ σ G H,zo K n G0 H0 G H τ σ->E.nx σ H
 | .bk τ=>∀ σ G H,zo K n G0 H0 G H τ σ->E.bk σ H
 | .ct τ=>∀ σ G H,zo K n G0 H0 G H τ σ->E.ct σ H
 | .rt false d=>∀ v G H,zK G0 H0 G H->zV K G d v->E.rt v H
 | .rt true d=>∀ p G H,zK G0 H0 G H->H0 p=none->G p=none->wl K G H d p->E.rt (.ref p) H
section
variable (X:Cx)
structure SS (st:Stmt) (f:FS):Prop where
 h:∃ t,PS X st t/\∀ {G0 H0 G H:Hp} {τ:zp} {σ:St} {fl:Fl} {E:uF},zo X.K X.N.length G0 H0 G H τ σ->f τ=some fl->we X.K X.N.length G0 H0 E fl->t E σ H
structure vO (st:List Stmt) (f:FS):Prop where
 h:∃ t,wW X st t/\∀ {G0 H0 G H:Hp} {τ:zp} {σ:St} {fl:Fl} {E:uF},zo X.K X.N.length G0 H0 G H τ σ->f τ=some fl->we X.K X.N.length G0 H0 E fl->t E σ H
end
structure tY (K:PySem.W.Frag) (J:It) (G:Hp) (ds:List D):Prop where
 go:∀ i G2 H,yD G G2->yD G2 H->i<ds.length->J.go i H
 yld:∀ i G2 H x H',yD G G2->yD G2 H->i<ds.length->J.yld i H x H'->∃ G3 d,zK G2 H G3 H'/\ds[i]?=some d/\zV K G3 d x
 stop:∀ i G2 H,yD G G2->yD G2 H->ds.length<=i->J.stop i H
structure SI (X:Cx) (tg iter:Expr) (f:FA):Prop where
 h:∃ wi,PI X tg iter wi/\∀ {G0 H0 G H:Hp} {τ:zp} {σ:St} {ds:List D} {R:It->Hp->Prop},zo X.K X.N.length G0 H0 G H τ σ->f τ=some ds->(∀ J G' H',zK G H G' H'->ds.length<=sizeLine->tY X.K J G' ds->R J H')->wi σ H R
noncomputable def zN (K:PySem.W.Frag) (F:List D->Option (Bool×D)):Sp:=fun vs H Q _=>∃ G ds o d,yD G H/\Reps K G ds vs/\F ds=some (o,d)/\
 match o with
 | false=>∀ v G' H',zK G H G' H'->zV K G' d v->Q v H'
 | true=>∀ p G' H',zK G H G' H'->H p=none->G' p=none->wl K G' H' d p->Q (.ref p) H'
end L3
namespace L3
open PySem PySem.Spec PyProof.Rows L2
theorem zF {α β:Type} {o:Option α} {f:α->Option β} {b:β} (h:o.bind f=some b):∃ a,o=some a/\f a=some b:=by
 cases o with
 | none=>cases h
 | some a=>exact ⟨a,rfl,h⟩
theorem Ul {i:Nat} {τ:zp} {d:D} (h:z6 i τ=some d):τ[i]?=some (some (false,d)):=by
 unfold z6 at h
 split at h
 ·rename_i e
  cases h
  exact e
 ·cases h
theorem Oi {i:Nat} {τ:zp} {d:D} (h:uz i τ=some d):∃ b,τ[i]?=some (some (b,d)):=by
 unfold uz at h
 split at h
 ·rename_i b d' e
  cases h
  exact ⟨_,e⟩
 ·cases h
section
variable {X:Cx} {x:Str} {p pos apos cpos p2:Pos} {e a b c o:Expr} {es yN:List Expr} {f fa fb fc:FE} {ft fu:FT} {fs:FA} {F:D->D->Option D} {r:R2}
theorem SE.sb (h:SE X e f):SB X e f:=⟨let ⟨t,p,k⟩:=h.h; ⟨t,p,fun E hf q=>k E hf fun v G' H' x r=>q v G' H' x (r.mono x.gh)⟩⟩
theorem SF.se (h:SF X e f):SE X e f:=⟨let ⟨t,p,k⟩:=h.h; ⟨t,p,fun E hf q=>k E hf fun p G' H' x hp gp o=>by
 obtain ⟨u,hu,r⟩:=o.frz gp
 exact q _ _ _ (x.frz hp gp hu) r⟩⟩
theorem zB (h:SE X e f):SB X e f:=h.sb
theorem yG (h:SF X e f):SE X e f:=h.se
theorem z7 (i:Nat) {x:Str} {pos:Pos} (hN:X.N[i]?=some x:=by rfl) (hv:qh X.env.scope x:=by first | exact Or.inl rfl | exact Or.inr (Or.inl rfl) | exact Or.inr (Or.inr rfl)) (hd:(x == ("__debug__" : Str))=false:=by decide)
  (hcd:(x == ("__classdict__" : Str))=false:=by decide):SE X (.Name x pos) (z6 i):=⟨⟨_,YV hN hv hd hcd,fun E hf q=>by
 obtain ⟨v,e,r⟩:=E.fr _ _ (Ul hf)
 exact ⟨v,e,q v _ _ (zK.refl E.ext.gh) r⟩⟩⟩
theorem Yl (i:Nat) {x:Str} {pos:Pos} (hN:X.N[i]?=some x:=by rfl) (hv:qh X.env.scope x:=by first | exact Or.inl rfl | exact Or.inr (Or.inl rfl) | exact Or.inr (Or.inr rfl)) (hd:(x == ("__debug__" : Str))=false:=by decide)
  (hcd:(x == ("__classdict__" : Str))=false:=by decide):SB X (.Name x pos) (uz i):=⟨⟨_,YV hN hv hd hcd,fun E hf q=>by
 obtain ⟨b,hb⟩:=Oi hf
 cases b with
 | false=>
  obtain ⟨v,e,r⟩:=E.fr _ _ hb
  exact ⟨v,e,q v _ _ (zK.refl E.ext.gh) (r.mono E.ext.gh)⟩
 | true=>
  obtain ⟨p,e,_,_,o⟩:=E.ow _ _ hb
  exact ⟨_,e,q _ _ _ (zK.refl E.ext.gh) (o.rep E.ext.gh)⟩⟩⟩
theorem kZ {v:V} {d:D} (h:PE X e (tC v)) (r:∀ H,zV X.K H d v):SE X e (eC d):=⟨⟨_,h,fun E hf q=>by
 cases hf
 exact q v _ _ (zK.refl E.ext.gh) (r _)⟩⟩
theorem zJ {i k pos}:SE X (.Constant (.int i) k pos) (eC (.int i)):=kZ QU fun _=>rfl
theorem wS {i k pos}:SE X (.Constant (.bool i) k pos) (eC (.bl i)):=kZ DW fun _=>rfl
theorem wy {k pos}:SE X (.Constant .none k pos) (eC .non):=kZ Dl fun _=>rfl
theorem zR {x k pos} (h:x.length<=1000:=by decide):SE X (.Constant (.str x) k pos) (eC (.str x)):=kZ QX fun _=>⟨rfl,zU h⟩
theorem tJ {v:V} {d:D} (h:xi X.mg x v) (r:∀ H,zV X.K H d v) (hg:Gl X x) (hd:(x == ("__debug__" : Str))=false:=by decide):SE X (.Name x pos) (eC d):=kZ (Wm h hg hd) r
noncomputable def wg (K:PySem.W.Frag) (r:R2) (F:D->D->Option D):Prop:=∀ G H x y u v d (Q:VK),yD G H->zV K G x u->zV K G y v->F x y=some d->(∀ w G' H',zK G H G' H'->zV K G' d w->Q w H')->r u v H Q
noncomputable def vz (K:PySem.W.Frag) (r:R2) (F:D->D->Option D):Prop:=∀ H x y u v d (Q:VK),zV K H x u->zV K H y v->F x y=some d->∃ k,d=.bl k/\(Q (.bl k) H->r u v H Q)
theorem zr {op:Operator} (ho:yM X (binaryOp op) r) (hF:wg X.K r F) (ha:SE X a fa) (hb:SE X b fb):SE X (.BinOp a op b pos) (e2 F fa fb):=by
 obtain ⟨ta,pa,ka⟩:=ha.h
 obtain ⟨tb,pb,kb⟩:=hb.h
 refine ⟨⟨_,Do ho pa pb,fun E hf q=>?_⟩⟩
 obtain ⟨x,hx,hf⟩:=zF hf
 obtain ⟨y,hy,hf⟩:=zF hf
 refine ka E hx fun v G1 H1 x1 r1=>?_
 refine kb (E.go x1) hy fun u G2 H2 x2 r2=>?_
 exact hF G2 H2 x y v u _ _ x2.gh (r1.mono x2.g) r2 hf fun w G' H' x3 r3=>q w G' H' (x1.trans (x2.trans x3)) r3
theorem yC (hr:vN X r) (hF:wg X.K r F) (ha:SE X a fa) (hb:SE X b fb) (hs:Wo b=true:=by rfl):SE X (.Subscript a b pos) (e2 F fa fb):=by
 obtain ⟨ta,pa,ka⟩:=ha.h
 obtain ⟨tb,pb,kb⟩:=hb.h
 refine ⟨⟨_,QV hr pa pb (Wp hs),fun E hf q=>?_⟩⟩
 obtain ⟨x,hx,hf⟩:=zF hf
 obtain ⟨y,hy,hf⟩:=zF hf
 refine ka E hx fun v G1 H1 x1 r1=>?_
 refine kb (E.go x1) hy fun u G2 H2 x2 r2=>?_
 exact hF G2 H2 x y v u _ _ x2.gh (r1.mono x2.g) r2 hf fun w G' H' x3 r3=>q w G' H' (x1.trans (x2.trans x3)) r3
theorem xt {op:CmpOp} (ho:yM X (compareOp op) r) (hF:vz X.K r F) (ha:SB X a fa) (hb:SB X b fb) (hm:behindInMarks op b=false):SE X (.Compare a [op] [b] pos) (e2 F fa fb):=by
 obtain ⟨ta,pa,ka⟩:=ha.h
 obtain ⟨tb,pb,kb⟩:=hb.h
 refine ⟨⟨_,De ho pa pb hm,fun E hf q=>?_⟩⟩
 obtain ⟨x,hx,hf⟩:=zF hf
 obtain ⟨y,hy,hf⟩:=zF hf
 refine ka E hx fun v G1 H1 x1 r1=>?_
 refine kb (E.go x1) hy fun u G2 H2 x2 r2=>?_
 obtain ⟨k,rfl,z⟩:=hF H2 x y v u _ _ (r1.mono x2.h) r2 hf
 exact z (q _ _ _ (x1.trans x2) rfl)
theorem zu {op:CmpOp} (ho:yM X (compareOp op) r) (hF:vz X.K r F) (ha:SB X a fa) (hb:SB X b fb) (hm:behindInMarks op b=false):ST X (.Compare a [op] [b] pos) (tE (e2 F fa fb)):=by
 obtain ⟨ta,pa,ka⟩:=ha.h
 obtain ⟨tb,pb,kb⟩:=hb.h
 refine ⟨⟨_,Qm ho pa pb hm,fun E hf q=>?_⟩⟩
 obtain ⟨z,hz,hf⟩:=zF hf
 obtain ⟨x,hx,hz⟩:=zF hz
 obtain ⟨y,hy,hz⟩:=zF hz
 refine ka E hx fun v G1 H1 x1 r1=>?_
 refine kb (E.go x1) hy fun u G2 H2 x2 r2=>?_
 obtain ⟨k,rfl,z⟩:=hF H2 x y v u _ _ (r1.mono x2.h) r2 hz
 cases hf
 exact z ⟨_,rfl,q _ _ (x1.trans x2)⟩
theorem yx (h:SE X e f) (he:Qb e=true:=by rfl):ST X e (tE f):=by
 obtain ⟨t,p,k⟩:=h.h
 refine ⟨⟨_,Fr p (FQ he),fun E hf q=>?_⟩⟩
 obtain ⟨z,hz,hf⟩:=zF hf
 refine k E hz fun v G' H' x r=>?_
 cases z<;>first | cases hf | skip
 cases r
 exact ⟨_,rfl,q _ _ x⟩
theorem jS (h:ST X a ft):SW X (.BoolOp .And [a] pos) ft:=⟨let ⟨t,p,k⟩:=h.h; ⟨t,Fy p,k⟩⟩
theorem vI (h:ST X a ft):SW X (.BoolOp .Or [a] pos) ft:=⟨let ⟨t,p,k⟩:=h.h; ⟨t,F_ p,k⟩⟩
theorem jR (ha:ST X a ft) (hb:SW X (.BoolOp .And (b::yN) pos) fu):SW X (.BoolOp .And (a::b::yN) pos) (ug ft fu):=by
 obtain ⟨ta,pa,ka⟩:=ha.h
 obtain ⟨tb,pb,kb⟩:=hb.h
 refine ⟨⟨_,Fx pa pb,fun E hf q=>?_⟩⟩
 obtain ⟨k,hk,hf⟩:=zF hf
 refine ka E hk fun G1 H1 x1=>?_
 cases k with
 | true=>exact qu (kb (E.go x1) hf fun G' H' x2=>q _ _ (x1.trans x2))
 | false=>cases hf; exact qt (q _ _ x1)
theorem w_ (ha:ST X a ft) (hb:SW X (.BoolOp .Or (b::yN) pos) fu):SW X (.BoolOp .Or (a::b::yN) pos) (v4 ft fu):=by
 obtain ⟨ta,pa,ka⟩:=ha.h
 obtain ⟨tb,pb,kb⟩:=hb.h
 refine ⟨⟨_,Fz pa pb,fun E hf q=>?_⟩⟩
 obtain ⟨k,hk,hf⟩:=zF hf
 refine ka E hk fun G1 H1 x1=>?_
 cases k with
 | false=>exact qt (kb (E.go x1) hf fun G' H' x2=>q _ _ (x1.trans x2))
 | true=>cases hf; exact qu (q _ _ x1)
theorem wH (h:SW X e ft):ST X e ft:=⟨let ⟨t,p,k⟩:=h.h; ⟨t,p.pt,k⟩⟩
theorem wz (h:ST X a ft):ST X (.UnaryOp .Not a pos) (v3 ft):=by
 obtain ⟨ta,pa,ka⟩:=h.h
 refine ⟨⟨_,Fo pa,fun E hf q=>?_⟩⟩
 obtain ⟨k,hk,hf⟩:=zF hf
 cases hf
 exact ka E hk fun G1 H1 x1=>q _ _ x1
theorem vt {op} (h:SE X a f):SE X (.BoolOp op [a] pos) f:=⟨let ⟨t,p,k⟩:=h.h; ⟨t,Dn p,k⟩⟩
theorem JA {K:PySem.W.Frag} {G:Hp} {z:D} {v:V} {k:Bool} (r:zV K G z v) (h:pP z=some k):v=.bl k:=by
 cases z<;>first | cases h | skip
 exact r
theorem vq (ha:SE X a fa) (hb:SE X (.BoolOp .And (b::yN) pos) fb):SE X (.BoolOp .And (a::b::yN) pos) (tw fa fb):=by
 obtain ⟨ta,pa,ka⟩:=ha.h
 obtain ⟨tb,pb,kb⟩:=hb.h
 refine ⟨⟨_,DV pa pb,fun E hf q=>?_⟩⟩
 obtain ⟨z,hz,hf⟩:=zF hf
 obtain ⟨k,hk,hf⟩:=zF hf
 refine ka E hz fun v G1 H1 x1 r1=>⟨k,JA r1 hk,?_⟩
 cases k with
 | true=>exact qu (kb (E.go x1) hf fun v G' H' x2 r2=>q v _ _ (x1.trans x2) r2)
 | false=>cases hf; exact qt (q _ _ _ x1 rfl)
theorem Eh (ha:SE X a fa):SE X (.UnaryOp .Not a pos) (Xi fa):=by
 obtain ⟨ta,pa,ka⟩:=ha.h
 refine ⟨⟨_,Dm pa,fun E hf q=>?_⟩⟩
 obtain ⟨z,hz,hf⟩:=zF hf
 obtain ⟨k,hk,hf⟩:=zF hf
 cases hf
 exact ka E hz fun v G1 H1 x1 r1=>⟨k,JA r1 hk,q _ _ _ x1 rfl⟩
theorem jJ (hc:ST X c ft) (ha:SE X a fa) (hb:SE X b fb):SE X (.IfExp c a b pos) (tz ft fa fb):=by
 obtain ⟨tc,pc,kc⟩:=hc.h
 obtain ⟨ta,pa,ka⟩:=ha.h
 obtain ⟨tb,pb,kb⟩:=hb.h
 refine ⟨⟨_,Di pc pa pb,fun E hf q=>?_⟩⟩
 obtain ⟨k,hk,hf⟩:=zF hf
 refine kc E hk fun G1 H1 x1=>?_
 cases k with
 | true=>exact qu (ka (E.go x1) hf fun v G' H' x2 r2=>q v _ _ (x1.trans x2) r2)
 | false=>exact qt (kb (E.go x1) hf fun v G' H' x2 r2=>q v _ _ (x1.trans x2) r2)
theorem zE:SA X [] zC:=⟨⟨_,YT,fun E hf q=>by cases hf; exact q _ _ _ (zK.refl E.ext.gh) rfl⟩⟩
theorem zA (ha:SE X e f) (hr:SA X es fs) (h:yi e=true:=by rfl):SA X (e::es) (z8 f fs):=by
 obtain ⟨ta,pa,ka⟩:=ha.h
 obtain ⟨tb,pb,kb⟩:=hr.h
 refine ⟨⟨_,YU pa pb h,fun E hf q=>?_⟩⟩
 obtain ⟨x,hx,hf⟩:=zF hf
 obtain ⟨xs,hxs,hf⟩:=zF hf
 cases hf
 refine ka E hx fun v G1 H1 x1 r1=>kb (E.go x1) hxs fun vs G2 H2 x2 r2=>?_
 exact q _ _ _ (x1.trans x2) ⟨v,vs,rfl,r1.mono x2.g,r2⟩
theorem yX:jf X [] zC:=⟨⟨_,YT,fun E hf q=>by cases hf; exact q _ _ _ (zK.refl E.ext.gh) rfl⟩⟩
theorem yW (ha:SB X e f) (hr:jf X es fs) (h:yi e=true:=by rfl):jf X (e::es) (z8 f fs):=by
 obtain ⟨ta,pa,ka⟩:=ha.h
 obtain ⟨tb,pb,kb⟩:=hr.h
 refine ⟨⟨_,YU pa pb h,fun E hf q=>?_⟩⟩
 obtain ⟨x,hx,hf⟩:=zF hf
 obtain ⟨xs,hxs,hf⟩:=zF hf
 cases hf
 refine ka E hx fun v G1 H1 x1 r1=>kb (E.go x1) hxs fun vs G2 H2 x2 r2=>?_
 exact q _ _ _ (x1.trans x2) ⟨v,vs,rfl,r1.mono x2.h,r2⟩
theorem V7 {is:List Int} (h:intsOf es=some is):SA X es (fun _=>some (is.map D.int)):=⟨⟨_,QP h,fun E hf q=>by cases hf; exact q _ _ _ (zK.refl E.ext.gh) Reps.ints⟩⟩
theorem qM {x1} (h:SA X es fs) (hl:∀ τ ds,fs τ=some ds->ds.length<=1000):SE X (.Tuple es x1 pos) (vP fs):=by
 obtain ⟨t,pt,k⟩:=h.h
 refine ⟨⟨_,QY pt,fun E hf q=>?_⟩⟩
 obtain ⟨xs,hx,hf⟩:=zF hf
 cases hf
 have l:xs.length<=sizeLine:=zU (hl _ _ hx)
 refine k E hx fun vs G1 H1 x1 r1=>⟨by rw [r1.length]; exact l,fun p hp=>?_⟩
 exact q _ _ _ (x1.trans (zK.lay x1.gh hp)) ⟨p,vs,rfl,yR.of yz,r1.mono (wE (x1.gh.free hp) _),l⟩
theorem xP (h:SA X es fs) (hl:∀ τ ds,fs τ=some ds->ds.length<=1000):SF X (.List es pos) (yn fs):=by
 obtain ⟨t,pt,k⟩:=h.h
 refine ⟨⟨_,Dk pt,fun E hf q=>?_⟩⟩
 obtain ⟨xs,hx,hf⟩:=zF hf
 cases hf
 have l:xs.length<=sizeLine:=zU (hl _ _ hx)
 refine k E hx fun vs G1 H1 x1 r1=>⟨by rw [r1.length]; exact l,fun p hp=>?_⟩
 exact q _ _ _ (x1.trans (zK.layO x1.gh hp)) (x1.h.free hp) (x1.gh.free hp) ⟨vs,yz,r1,l⟩
theorem yq:∀ (τ:zp) ds,zC τ=some ds->ds.length<=0:=fun _ _ h=>by cases h; exact Nat.le_refl _
theorem zT {n:Nat} (h:∀ τ ds,fs τ=some ds->ds.length<=n):∀ τ ds,z8 f fs τ=some ds->ds.length<=n+1:=fun τ ds e=>by
 obtain ⟨x,_,e⟩:=zF e
 obtain ⟨xs,hx,e⟩:=zF e
 cases e
 exact Nat.succ_le_succ (h _ _ hx)
theorem XM {is:List Int} {n:Nat} (h:is.length<=n):∀ (τ:zp) ds,(some (is.map D.int))=some ds->ds.length<=n:=fun _ _ e=>by
 cases e
 rw [List.length_map]
 exact h
theorem yg {m n:Nat} (h:∀ τ ds,fs τ=some ds->ds.length<=m) (hmn:m<=n):∀ τ ds,fs τ=some ds->ds.length<=n:=fun τ ds e=>Nat.le_trans (h τ ds e) hmn
variable {ps:List Str} {j k:Nat} {FF:List D->Option (Bool×D)} {FL:List D->Option D} {id T:String}
theorem JX (h:zL X.prog X.w X.K X.mg X.base x ps k (zN X.K FF)) (hr:xW j X.A) (hg:Gl X x) (ha:SA X (e::es) fs) (hk:k<=j:=by decide) (hdb:(x == ("__debug__" : Str))=false:=by decide)
  (he:(e::es).all yi=true:=by rfl):SF X (.Call (.Name x p) (e::es) [] pos) (Zo FF fs):=by
 obtain ⟨t,pt,kt⟩:=ha.h
 refine ⟨⟨_,QW h hr hg pt hk hdb he,fun E hf q=>?_⟩⟩
 obtain ⟨ds,hd,hf⟩:=zF hf
 obtain ⟨⟨o,d⟩,hr,hf⟩:=zF hf
 cases o with
 | false=>cases hf
 | true=>
  cases hf
  refine kt E hd fun vs G1 H1 x1 r1=>⟨G1,ds,true,_,x1.gh,by rw [List.append_nil]; exact r1,hr,fun p G' H' x2 hp gp o=>?_⟩
  exact q p G' H' (x1.trans x2) (x1.h.free hp) gp o
theorem zW (h:zL X.prog X.w X.K X.mg X.base x ps k (zN X.K FF)) (hr:xW j X.A) (hg:Gl X x) (ha:SA X (e::es) fs) (hk:k<=j:=by decide) (hdb:(x == ("__debug__" : Str))=false:=by decide)
  (he:(e::es).all yi=true:=by rfl):SE X (.Call (.Name x p) (e::es) [] pos) (zS FF fs):=by
 obtain ⟨t,pt,kt⟩:=ha.h
 refine ⟨⟨_,QW h hr hg pt hk hdb he,fun E hf q=>?_⟩⟩
 obtain ⟨ds,hd,hf⟩:=zF hf
 obtain ⟨⟨o,d⟩,hr,hf⟩:=zF hf
 cases hf
 refine kt E hd fun vs G1 H1 x1 r1=>⟨G1,ds,o,d,x1.gh,by rw [List.append_nil]; exact r1,hr,?_⟩
 cases o with
 | false=>exact fun v G' H' x2 r=>q v G' H' (x1.trans x2) r
 | true=>
  intro p G' H' x2 hp gp o
  obtain ⟨u,hu,r⟩:=o.frz gp
  exact q _ _ _ (x1.trans (x2.frz hp gp hu)) r
noncomputable def jc (K:PySem.W.Frag) (r:List V->Hp->VK->Prop) (F:List D->Option D):Prop:=∀ G H ds vs d (Q:VK),yD G H->Reps K H ds vs->F ds=some d->(∀ w G' H',zK G H G' H'->zV K G' d w->Q w H')->r vs H Q
noncomputable def U1 (K:PySem.W.Frag) (r:List V->Hp->VK->Prop) (F:List D->Option D):Prop:=∀ G H ds vs d (Q:VK),yD G H->Reps K G ds vs->F ds=some d->(∀ w G' H',zK G H G' H'->zV K G' d w->Q w H')->r vs H Q
theorem yc {rc:List V->Hp->VK->Prop} (hc:xV X (.builtin id) rc) (hF:jc X.K rc FL) (hg:Gl X x) (hm:X.mg x=none) (hv:bootBuiltins x=some (.builtin id)) (ha:jf X (e::es) fs) (hn:x ≠ "__name__" := by decide) (hdb:(x == ("__debug__" : Str))=false:=by decide)
  (he:(e::es).all yi=true:=by rfl):SE X (.Call (.Name x p) (e::es) [] pos) (eL FL fs):=by
 obtain ⟨t,pt,kt⟩:=ha.h
 refine ⟨⟨_,(gP hc hg hm hv ⟨pt⟩ hn hdb he).h,fun E hf q=>?_⟩⟩
 obtain ⟨ds,hd,hf⟩:=zF hf
 exact kt E hd fun vs G1 H1 x1 r1=>hF G1 H1 ds vs _ _ x1.gh r1 hf fun w G' H' x2 r2=>q w G' H' (x1.trans x2) r2
theorem Eb {rc:List V->Hp->VK->Prop} (hc:xV X (.type T) rc) (hF:jc X.K rc FL) (hg:Gl X x) (hm:X.mg x=none) (hv:bootBuiltins x=some (.type T)) (ha:jf X (e::es) fs) (hn:x ≠ "__name__" := by decide) (hdb:(x == ("__debug__" : Str))=false:=by decide)
  (he:(e::es).all yi=true:=by rfl):SE X (.Call (.Name x p) (e::es) [] pos) (eL FL fs):=by
 obtain ⟨t,pt,kt⟩:=ha.h
 refine ⟨⟨_,(q_ hc hg hm hv ⟨pt⟩ hn hdb he).h,fun E hf q=>?_⟩⟩
 obtain ⟨ds,hd,hf⟩:=zF hf
 exact kt E hd fun vs G1 H1 x1 r1=>hF G1 H1 ds vs _ _ x1.gh r1 hf fun w G' H' x2 r2=>q w G' H' (x1.trans x2) r2
theorem JS {rc:List V->Hp->VK->Prop} (hc:xV X (.type T) rc) (hF:U1 X.K rc FL) (hg:Gl X x) (hm:X.mg x=none) (hv:bootBuiltins x=some (.type T)) (ha:SA X (e::es) fs) (hn:x ≠ "__name__" := by decide) (hdb:(x == ("__debug__" : Str))=false:=by decide)
  (he:(e::es).all yi=true:=by rfl):SE X (.Call (.Name x p) (e::es) [] pos) (eL FL fs):=by
 obtain ⟨t,pt,kt⟩:=ha.h
 refine ⟨⟨_,(q_ hc hg hm hv ⟨pt⟩ hn hdb he).h,fun E hf q=>?_⟩⟩
 obtain ⟨ds,hd,hf⟩:=zF hf
 exact kt E hd fun vs G1 H1 x1 r1=>hF G1 H1 ds vs _ _ x1.gh r1 hf fun w G' H' x2 r2=>q w G' H' (x1.trans x2) r2
theorem jL {op:UnaryOp} {ru:V->Hp->VK->Prop} {F1:D->Option D} (ho:ZI X (unaryOp op) ru) (hF:∀ (G H:Hp) x u d (Q:VK),zV X.K G x u->F1 x=some d->∃ w,(∀ G,zV X.K G d w)/\(Q w H->ru u H Q)) (ha:SE X a fa):SE X (.UnaryOp op a pos) (e1 F1 fa):=by
 obtain ⟨t,pt,kt⟩:=ha.h
 refine ⟨⟨_,Dr ho pt,fun E hf q=>?_⟩⟩
 obtain ⟨x,hx,hf⟩:=zF hf
 refine kt E hx fun v G1 H1 x1 r1=>?_
 obtain ⟨w,rw_,z⟩:=hF G1 H1 x v _ _ r1 hf
 exact z (q w _ _ x1 (rw_ _))
end
end L3
namespace L3
open PySem PySem.Spec PyProof.Rows L2
section
variable {X:Cx} {x:Str} {p pos pos' apos cpos:Pos} {e a b c tg iter elt:Expr} {es ifs:List Expr} {f fa fb:FE} {ft:FT} {fs:FA} {st:Stmt} {sts body:List Stmt} {g g':FS}
theorem zx:vO X [] zn:=⟨⟨_,Fk,fun {_ _ G H τ σ fl E} K hf q=>by
 cases hf
 exact q σ G H K⟩⟩
theorem we.with {K:PySem.W.Frag} {n:Nat} {G0 H0:Hp} {E E':uF} {fl:Fl} (h:we K n G0 H0 E fl) (hn:∀ τ,fl=.nx τ->we K n G0 H0 E' (.nx τ)) (hb:∀ τ,fl=.bk τ->we K n G0 H0 E' (.bk τ)) (hc:∀ τ,fl=.ct τ->we K n G0 H0 E' (.ct τ)) (hr:E'.rt=E.rt):we K n G0 H0 E' fl:=by
 cases fl with
 | nx τ=>exact hn τ rfl
 | bk τ=>exact hb τ rfl
 | ct τ=>exact hc τ rfl
 | rt o d=>
  cases o with
  | false=>intro v G H x r; rw [hr]; exact h v G H x r
  | true=>intro v G H x r1 r2 r3; rw [hr]; exact h v G H x r1 r2 r3
theorem zI (h1:SS X st g) (h2:vO X sts g'):vO X (st::sts) (zG g g'):=by
 obtain ⟨t,p,k⟩:=h1.h
 obtain ⟨t',p',k'⟩:=h2.h
 refine ⟨⟨_,Fi p p',fun {G0 H0 G H τ σ fl E} K hf q=>?_⟩⟩
 obtain ⟨f1,h1,hf⟩:=zF hf
 refine k K h1 ?_
 cases f1 with
 | nx τ'=>exact fun σ' G' H' K'=>k' K' hf q
 | bk τ'=>cases hf; exact q
 | ct τ'=>cases hf; exact q
 | rt o d=>cases hf; exact we.with q (fun _ z=>nomatch z) (fun _ z=>nomatch z) (fun _ z=>nomatch z) rfl
theorem zP (h1:SS X st g):vO X [st] g:=⟨let ⟨t,p,k⟩:=h1.h; ⟨t,Fm p,k⟩⟩
theorem Jj (i:Nat) (h:vO X sts g):vO X sts (zG (gR i) g):=by
 obtain ⟨t,p,k⟩:=h.h
 refine ⟨⟨t,p,fun {G0 H0 G H τ σ fl E} K hf q=>?_⟩⟩
 obtain ⟨f1,h1,hf⟩:=zF hf
 unfold gR at h1
 split at h1
 ·rename_i bb d hd
  cases h1
  obtain ⟨G',K',_⟩:=K.freeze hd
  exact k K' hf q
 ·cases h1
theorem yH {i:Nat} {x:Str} {pos':Pos} (hN:X.N.Nodup) (hi:X.N[i]?=some x) (hx:uJ X.env.scope x) (he:SE X e f) (hs:gH e=true:=by rfl) (hf:X.fn x=true\/X.env.scope.names.lookup x=some .local:=by first | exact .inl rfl | exact .inr rfl | assumption) :
  SS X (.Assign [.Name x pos'] e pos) (ze i f):=by
 obtain ⟨t,p,k⟩:=he.h
 refine ⟨⟨_,(Qw hN hi hx ⟨p⟩ hs hf).h,fun {G0 H0 G H τ σ fl E} K hf q=>?_⟩⟩
 obtain ⟨d,hd,hf⟩:=zF hf
 cases hf
 exact k K hd fun v G' H' x r=>q _ _ _ ((K.go x).set (List.getElem?_eq_some_iff.mp hi).1 r)
theorem jQ {i:Nat} {x:Str} {pos':Pos} (hN:X.N.Nodup) (hi:X.N[i]?=some x) (hx:uJ X.env.scope x) (he:SF X e f) (hs:gH e=true:=by rfl) (hf:X.fn x=true\/X.env.scope.names.lookup x=some .local:=by first | exact .inl rfl | exact .inr rfl | assumption) :
  SS X (.Assign [.Name x pos'] e pos) (uc i f):=by
 obtain ⟨t,p,k⟩:=he.h
 refine ⟨⟨_,(Qw hN hi hx ⟨p⟩ hs hf).h,fun {G0 H0 G H τ σ fl E} K hf q=>?_⟩⟩
 obtain ⟨d,hd,hf⟩:=zF hf
 cases hf
 refine k K hd fun p G' H' x hp gp o=>q _ _ _ ((K.go x).setO (List.getElem?_eq_some_iff.mp hi).1 gp (K.ext.h.free hp) o ?_)
 exact K.newO hp
theorem zh (he:SE X e f):SS X (.Return (some e) pos) (zk f):=by
 obtain ⟨t,p,k⟩:=he.h
 refine ⟨⟨_,Ww p,fun {G0 H0 G H τ σ fl E} K hf q=>?_⟩⟩
 obtain ⟨d,hd,hf⟩:=zF hf
 cases hf
 exact k K hd fun v G' H' x r=>q v _ _ (K.ext.trans x) r
theorem uf (he:SF X e f):SS X (.Return (some e) pos) (vo f):=by
 obtain ⟨t,p,k⟩:=he.h
 refine ⟨⟨_,Ww p,fun {G0 H0 G H τ σ fl E} K hf q=>?_⟩⟩
 obtain ⟨d,hd,hf⟩:=zF hf
 cases hf
 exact k K hd fun p G' H' x hp gp o=>q p _ _ (K.ext.trans x) (K.ext.h.free hp) gp o
theorem ku (i:Nat) {x:Str} {pos':Pos} (hN:X.N[i]?=some x:=by rfl) (hv:qh X.env.scope x:=by first | exact Or.inl rfl | exact Or.inr (Or.inl rfl) | exact Or.inr (Or.inr rfl)) (hd:(x == ("__debug__" : Str))=false:=by decide)
  (hcd:(x == ("__classdict__" : Str))=false:=by decide):SS X (.Return (some (.Name x pos')) pos) (qK i):=by
 refine ⟨⟨_,Ww (YV hN hv hd hcd),fun {G0 H0 G H τ σ fl E} K hf q=>?_⟩⟩
 unfold qK at hf
 split at hf
 ·rename_i d he
  cases hf
  obtain ⟨p,e,g,z,o⟩:=K.ow _ _ he
  exact ⟨_,e,q p _ _ K.ext z g o⟩
 ·cases hf
theorem zt {sa sb:List Stmt} (hc:ST X c ft) (ha:vO X sa g) (hb:vO X sb g'):SS X (.If c sa sb pos) (zl ft g g'):=by
 obtain ⟨tc,pc,kc⟩:=hc.h
 obtain ⟨ta,pa,ka⟩:=ha.h
 obtain ⟨tb,pb,kb⟩:=hb.h
 refine ⟨⟨_,Ff pc pa pb,fun {G0 H0 G H τ σ fl E} K hf q=>?_⟩⟩
 obtain ⟨k,hk,hf⟩:=zF hf
 refine kc K hk fun G1 H1 x1=>?_
 cases k with
 | true=>exact qu (ka (K.go x1) hf q)
 | false=>exact qt (kb (K.go x1) hf q)
theorem VQ:vO X sts (fun _=>none):=⟨⟨_,Fj,fun _ hf=>by cases hf⟩⟩
theorem GN {ft:FT} (hp:PassesOwn (model X.prog X.w) X.A X.env X.xe) (hc:ST X c ft) (hb:vO X body g):SS X (.While c body [] pos) (Yk ft g):=by
 obtain ⟨tc,pc,kc⟩:=hc.h
 obtain ⟨tb,pb,kb⟩:=hb.h
 refine ⟨⟨_,Fh hp pc pb,fun {G0 H0 G H τ σ fl E} K hf q=>?_⟩⟩
 refine ⟨fun m σ H=>∃ τ G,zo X.K X.N.length G0 H0 G H τ σ/\v6 ft g m τ=some fl,⟨Z8,τ,G,K,hf⟩,?_⟩
 rintro m σ H ⟨τ,G,K,hf⟩
 cases m with
 | zero=>cases hf
 | succ n=>
  obtain ⟨k,hk,hf⟩:=zF (show (ft τ).bind _=_ from hf)
  refine kc K hk fun G1 H1 x1=>?_
  cases k with
  | false=>
   cases hf
   exact qt (q _ _ _ (K.go x1))
  | true=>
   obtain ⟨f1,h1,hf⟩:=zF (show (g τ).bind _=_ from hf)
   refine qu ⟨fun σ' H'=>∃ τ G,zo X.K X.N.length G0 H0 G H' τ σ'/\v6 ft g n τ=some fl,fun σ' H' z=>⟨n,Nat.lt_succ_self n,z⟩,kb (K.go x1) h1 ?_⟩
   cases f1 with
   | nx τ2=>exact fun σ2 G2 H2 K2=>⟨τ2,G2,K2,hf⟩
   | ct τ2=>exact fun σ2 G2 H2 K2=>⟨τ2,G2,K2,hf⟩
   | bk τ2=>cases hf; exact q
   | rt o d=>cases hf; exact we.with q (fun _ z=>nomatch z) (fun _ z=>nomatch z) (fun _ z=>nomatch z) rfl
theorem we.near {K:PySem.W.Frag} {n:Nat} {G0 H0 Ga Ha:Hp} {E:uF} {fl:Fl} (x:zK G0 H0 Ga Ha) (h:we K n G0 H0 E fl):we K n Ga H0 E fl:=by
 cases fl with
 | nx τ=>exact fun σ G H z=>h σ G H (zo.near x z)
 | bk τ=>exact fun σ G H z=>h σ G H (zo.near x z)
 | ct τ=>exact fun σ G H z=>h σ G H (zo.near x z)
 | rt o d=>
  cases o with
  | false=>exact fun v G H y r=>h v G H (x.rebase y) r
  | true=>exact fun p G H y r1 r2 r3=>h p G H (x.rebase y) r1 r2 r3
structure SG (X:Cx) (tg:Expr) (fg:FG):Prop where
 h:∃ t,PG X tg t/\∀ {G0 H0 G H:Hp} {τ τ':zp} {σ:St} {d:D} {v:V} {Q:St->Hp->Prop},zo X.K X.N.length G0 H0 G H τ σ->zV X.K G d v->fg d τ=some τ'->(∀ σ',zo X.K X.N.length G0 H0 G H τ' σ'->Q σ' H)->t v σ H Q
theorem VJ {i:Nat} {x:Str} (h:QG X (.Name x pos) (vR i)) (hi:X.N[i]?=some x):SG X (.Name x pos) (za i):=⟨⟨_,h.h,fun K r hf q=>by
 cases hf
 exact q _ (K.set (List.getElem?_eq_some_iff.mp hi).1 r)⟩⟩
theorem Yo {i j:Nat} {x y:Str} {p1 p2:Pos} {kk:Nat} (h:QG X (.Tuple [.Name x p1,.Name y p2] kk pos) (jx X.K 2 (qA (vR i) (qA (vR j) jw)))) (hi:X.N[i]?=some x) (hj:X.N[j]?=some y):SG X (.Tuple [.Name x p1,.Name y p2] kk pos) (xG i j):=⟨⟨_,h.h,fun {G0 H0 G H τ τ' σ d v Q} K r hf q=>by
 unfold xG at hf
 split at hf
 ·rename_i d1 d2
  cases hf
  obtain ⟨a,vs,rfl,sq,⟨v1,r1,rfl,h1,⟨v2,r2,rfl,h2,h3⟩⟩,_⟩:=r
  cases (show r2=[] from h3)
  refine ⟨a,_,rfl,wc K.ext.gh sq,rfl,v1,_,rfl,v2,_,rfl,rfl,?_⟩
  exact q _ ((K.set (List.getElem?_eq_some_iff.mp hi).1 h1).set (List.getElem?_eq_some_iff.mp hj).1 h2)
 ·cases hf⟩⟩
theorem p9 {fg:FG} (hp:PassesOwn (model X.prog X.w) X.A X.env X.xe) (hc:X.calm=true) (hi:SI X tg iter fs) (hg:SG X tg fg) (hb:vO X body g) (hs:∀ x,foldedSetIterable iter X.env x=pure x:=by intro _; rfl):SS X (.For tg iter body [] pos) (tH fs fg g):=by
 obtain ⟨ti,pi,ki⟩:=hi.h
 obtain ⟨tg',pg,kg⟩:=hg.h
 obtain ⟨tb,pb,kb⟩:=hb.h
 refine ⟨⟨_,Fe hp hc pi pg pb hs,fun {G0 H0 G H τ σ fl E} K hf q=>?_⟩⟩
 obtain ⟨ds,hd,hf⟩:=zF hf
 refine ki K hd fun J Ga Ha xa _ wk=>?_
 have Ka:=K.go xa
 have q':=we.near Ka.ext q
 refine ⟨fun i m σ H=>m=ds.length - i/\i<=ds.length/\∃ τ G,zo X.K X.N.length Ga H0 G H τ σ/\qE fg g (ds.drop i) τ=some fl,⟨ds.length,rfl,Nat.zero_le _,τ,Ga,Ka.far,hf⟩,?_⟩
 rintro i m σ H ⟨rfl,hle,τ,G,K,hf⟩
 by_cases hlt:i<ds.length
 ·refine .inr ⟨wk.go i G H K.ext.g K.ext.gh hlt,fun σ' H'=>∃ τ G,zo X.K X.N.length Ga H0 G H' τ σ'/\qE fg g (ds.drop (i+1)) τ=some fl,fun σ' H' z=>⟨ds.length - (i+1),by omega,rfl,hlt,z⟩,fun x H' y=>?_⟩
  obtain ⟨G3,d,x3,ed,rd⟩:=wk.yld i G H x H' K.ext.g K.ext.gh hlt y
  rw [List.drop_eq_getElem_cons hlt] at hf
  rw [List.getElem?_eq_getElem hlt] at ed
  cases ed
  obtain ⟨τ1,h1,hf⟩:=zF (show (fg _ τ).bind _=_ from hf)
  obtain ⟨f1,h2,hf⟩:=zF hf
  refine kg (K.go x3) rd h1 fun σ1 K1=>kb K1 h2 ?_
  cases f1 with
  | nx τ2=>exact fun σ2 G2 H2 K2=>⟨τ2,G2,K2,hf⟩
  | ct τ2=>exact fun σ2 G2 H2 K2=>⟨τ2,G2,K2,hf⟩
  | bk τ2=>cases hf; exact q'
  | rt o d=>cases hf; exact we.with q' (fun _ z=>nomatch z) (fun _ z=>nomatch z) (fun _ z=>nomatch z) rfl
 ·have e:ds.drop i=[]:=List.drop_eq_nil_of_le (by omega)
  rw [e] at hf
  cases hf
  exact .inl ⟨wk.stop i G H K.ext.g K.ext.gh (by omega),q' _ _ _ K⟩
theorem Ll {K:PySem.W.Frag} {G:Hp} {lo:Int} {n:Nat}:tY K (Z9 lo n) G ((List.range n).map fun k:Nat=>D.int (lo+k)) where
 go:=fun i G2 H _ _ hi=>by
  show i<n
  simpa using hi
 yld:=fun i G2 H x H' _ g2 hi y=>by
  obtain ⟨rfl,rfl⟩:=y
  exact ⟨G2,.int (lo+i),zK.refl g2,by simp at hi; simp [hi],rfl⟩
 stop:=fun i G2 H _ _ hi=>by
  show n<=i
  simpa using hi
theorem ue (hg:Gl X "range") (hm:X.mg "range" = none) (ha:SE X a fa) (hs:yi a=true:=by rfl):SI X tg (.Call (.Name "range" p) [a] [] pos) (wP (eC (.int 0)) fa):=by
 obtain ⟨t,pt,k⟩:=(zA ha zE hs).h
 refine ⟨⟨_,Dz hg hm pt (vx hs),fun {G0 H0 G H τ σ ds R} K hf q=>?_⟩⟩
 obtain ⟨x,hx,hf⟩:=zF hf
 cases hx
 obtain ⟨y,hy,hf⟩:=zF hf
 refine k K (ds:=[y]) (by unfold z8; rw [hy]; rfl) fun vs G1 H1 x1 r1=>?_
 cases y<;>first | cases hf | skip
 rename_i j
 obtain ⟨v,r,rfl,hv,hr⟩:=r1
 cases (show r=[] from hr)
 cases (show v=.int j from hv)
 change (if (0:Int).natAbs<=yO/\j.natAbs<=yO/\(j - 0).toNat<=yO then _ else _)=_ at hf
 by_cases c:(0:Int).natAbs<=yO/\j.natAbs<=yO/\(j - 0).toNat<=yO
 ·rw [if_pos c] at hf
  cases hf
  have c2:j.natAbs<=16777216:=c.2.1
  have c3:(j - 0).toNat<=16777216:=c.2.2
  refine ⟨j,rfl,by omega,by omega,q _ _ _ x1 ?_ ?_⟩
  ·rw [List.length_map,List.length_range,sizeLine_eq]; omega
  ·have e:(j - 0).toNat=j.toNat:=by omega
   rw [e]
   exact Ll
 ·rw [if_neg c] at hf
  cases hf
theorem Mb {K:PySem.W.Frag} {G:Hp} {a:Addr} {vs:List V} {ds:List D} (sq:yE K G a vs) (r:Reps K G ds vs):tY K (XC K a) G ds where
 go:=fun i G2 H g1 g2 hi=>by
  obtain ⟨v,e,_⟩:=r.get (List.getElem?_eq_getElem hi)
  exact ⟨vs,v,wL (g1.trans g2) sq,e⟩
 yld:=fun i G2 H x H' g1 g2 hi y=>by
  obtain ⟨rfl,y⟩:=y
  have e:=y vs (wL (g1.trans g2) sq)
  obtain ⟨d,ed,rd⟩:=r.at e
  exact ⟨G2,d,zK.refl g2,ed,rd.mono g1⟩
 stop:=fun i G2 H g1 g2 hi=>⟨vs,wL (g1.trans g2) sq,by rw [r.length]; exact hi⟩
theorem G_ {K:PySem.W.Frag} {G:Hp} {a:Addr} {vs:List V} {ds:List D} (sq:yR K G a vs) (r:Reps K G ds vs):tY K (XD K a) G ds where
 go:=fun i G2 H g1 g2 hi=>by
  obtain ⟨v,e,_⟩:=r.get (List.getElem?_eq_getElem hi)
  exact ⟨vs,v,wc (g1.trans g2) sq,e⟩
 yld:=fun i G2 H x H' g1 g2 hi y=>by
  obtain ⟨rfl,y⟩:=y
  have e:=y vs (wc (g1.trans g2) sq)
  obtain ⟨d,ed,rd⟩:=r.at e
  exact ⟨G2,d,zK.refl g2,ed,rd.mono g1⟩
 stop:=fun i G2 H g1 g2 hi=>⟨vs,wc (g1.trans g2) sq,by rw [r.length]; exact hi⟩
theorem GP {K:PySem.W.Frag} {G:Hp} {z:Str}:tY K (ZA z) G (z.cps.toList.map fun c=>D.str ⟨#[c]⟩) where
 go:=fun i G2 H _ _ hi=>by
  rw [List.length_map,Array.length_toList] at hi
  exact hi
 yld:=fun i G2 H x H' _ g2 hi y=>by
  obtain ⟨rfl,c,ec,rfl⟩:=y
  refine ⟨G2,.str ⟨#[c]⟩,zK.refl g2,?_,rfl,zU (n:=1) (by decide)⟩
  rw [List.getElem?_map,Array.getElem?_toList,ec]
  rfl
 stop:=fun i G2 H _ _ hi=>by
  rw [List.length_map,Array.length_toList] at hi
  exact hi
theorem PI.or {w1 w2:TI} (h1:PI X tg e w1) (h2:PI X tg e w2):PI X tg e (fun σ H R=>w1 σ H R\/w2 σ H R):=fun pins s σ H R I q=>by
 rcases q with q | q
 ·exact h1 pins s σ H R I q
 ·exact h2 pins s σ H R I q
theorem xw (h:SE X e f):SI X tg e (xl f):=by
 obtain ⟨t,p,k⟩:=h.h
 refine ⟨⟨_,PI.or (Dy p) (PI.or (FB p) (D_ p)),fun {G0 H0 G H τ σ ds R} K hf q=>?_⟩⟩
 obtain ⟨d,hd,hf⟩:=zF hf
 cases d<;>first | cases hf | skip
 ·rename_i z
  refine .inr (.inr (k K hd fun v G' H' x r=>?_))
  obtain ⟨rfl,l⟩:=r
  exact ⟨z,rfl,q _ _ _ x (by rw [List.length_map,Array.length_toList]; exact l) GP⟩
 ·refine .inr (.inl (k K hd fun v G' H' x r=>?_))
  obtain ⟨a,vs,rfl,sq,rs,l⟩:=r
  exact ⟨a,rfl,⟨vs,wc x.gh sq⟩,q _ _ _ x l (G_ sq rs)⟩
 ·refine .inl (k K hd fun v G' H' x r=>?_)
  obtain ⟨a,vs,rfl,sq,rs,l⟩:=r
  exact ⟨a,rfl,⟨vs,wL x.gh sq⟩,q _ _ _ x l (Mb sq rs)⟩
end
noncomputable def VY (K:PySem.W.Frag) (n:Nat) (f:FE):TE:=fun σ H Q=>∃ G0 H0 G τ d,zo K n G0 H0 G H τ σ/\f τ=some d/\∀ v G' H',zK G H G' H'->zV K G' d v->Q v H'
noncomputable def Yt (K:PySem.W.Frag) (n:Nat) (f:FT):TT:=fun σ H Q=>∃ G0 H0 G τ d,zo K n G0 H0 G H τ σ/\f τ=some d/\∀ G' H',zK G H G' H'->Q d H'
structure pO (X:Cx) (es:List Expr) (f:FT):Prop where
 h:qf X es (Yt X.K X.N.length f)
section
variable {X:Cx} {e c:Expr} {f:FE} {ft:FT}
theorem SE.pe (h:SE X e f):PE X e (VY X.K X.N.length f):=fun pins s σ H Q I q=>by
 obtain ⟨t,p,k⟩:=h.h
 obtain ⟨G0,H0,G,τ,d,K,hf,z⟩:=q
 exact p pins s σ H Q I (k K hf z)
theorem ST.pt (h:ST X e ft):PT X e (Yt X.K X.N.length ft):=fun pins s σ H Q I q=>by
 obtain ⟨t,p,k⟩:=h.h
 obtain ⟨G0,H0,G,τ,d,K,hf,z⟩:=q
 exact p pins s σ H Q I (k K hf z)
theorem xy:pO X [] yF:=⟨fun pins s σ H Q I q=>by
 obtain ⟨G0,H0,G,τ,d,K,hf,z⟩:=q
 cases hf
 exact Ft pins s σ H Q I (z _ _ (zK.refl K.ext.gh))⟩
theorem tL (h:ST X c ft):pO X [c] ft:=⟨Fu h.pt⟩
end
theorem zo.more {K:PySem.W.Frag} {n:Nat} {G0 H0 G H:Hp} {τ:zp} {σ:St} (k:Nat) (E:zo K n G0 H0 G H τ σ):zo K (n+k) G0 H0 G H (τ++List.replicate k none) (σ++List.replicate k none):=by
 have at_:∀ {i:Nat} {s:Sl},(τ++List.replicate k none)[i]?=some (some s)->τ[i]?=some (some s)/\(σ++List.replicate k none)[i]?=σ[i]?:=fun {i s} h=>by
  have h':=Zy h
  have hi:i<n:=E.lt h'
  exact ⟨h',List.getElem?_append_left (by rw [E.l1]; exact hi)⟩
 refine ⟨E.ext,by rw [List.length_append,List.length_replicate,E.l1],by rw [List.length_append,List.length_replicate,E.l2],fun i d h=>?_,fun i d h=>?_,fun i j d e p hne h1 h2 h3 h4=>?_⟩
 ·obtain ⟨h',e⟩:=at_ h
  rw [e]
  exact E.fr i d h'
 ·obtain ⟨h',e⟩:=at_ h
  rw [e]
  exact E.ow i d h'
 ·obtain ⟨h1',e1⟩:=at_ h1
  obtain ⟨h2',e2⟩:=at_ h2
  rw [e1] at h3
  rw [e2] at h4
  exact E.ap i j d e p hne h1' h2' h3 h4
theorem WO {K:PySem.W.Frag} {n k:Nat} {G0 H0 Ga Ha:Hp} {τ:zp} {σ:St} {J:It} {ds out:List D} {g:TG} {fg:FG} {ft:FT} {f:FE} {Fin:List V->Hp->Prop} (wk:tY K J Ga ds) (hl:ds.length<=sizeLine) (Ka:zo K n G0 H0 Ga Ha τ σ)
  (hf:yr fg ft f (τ++List.replicate k none) ds=some out)
  (kg:∀ G H d v τ' (Q:St->Hp->Prop),zo K (n+k) G0 H0 G H (τ++List.replicate k none) (σ++List.replicate k none)->zV K G d v->fg d (τ++List.replicate k none)=some τ'->(∀ ρ,zo K (n+k) G0 H0 G H τ' (σ++ρ)->Q (σ++ρ) H)->g v (σ++List.replicate k none) H Q)
  (fin:∀ ys G H,zK Ga Ha G H->Reps K G out ys->out.length<=sizeLine->Fin ys H) :
  ∃ W:Nat->Nat->List V->Hp->Prop,(∃ m,W 0 m [] Ha)/\YG σ k J g (Yt K (n+k) ft) (VY K (n+k) f) W Fin:=by
 refine ⟨fun i m ys H=>m=ds.length - i/\i<=ds.length/\ys.length<=i/\∃ G done yN,zK Ga Ha G H/\Reps K G done ys/\yr fg ft f (τ++List.replicate k none) (ds.drop i)=some yN/\done++yN=out,⟨ds.length,rfl,Nat.zero_le _,Nat.le_refl _,Ga,[],out,zK.refl Ka.ext.gh,rfl,hf,rfl⟩,?_⟩
 rintro i m ys H ⟨rfl,hle,hys,G,done,yN,x,rd,hf,eo⟩
 by_cases hlt:i<ds.length
 ·refine .inr ⟨wk.go i G H x.g x.gh hlt,by omega,fun ys H=>ys.length<=i+1/\∃ G done yN,zK Ga Ha G H/\Reps K G done ys/\yr fg ft f (τ++List.replicate k none) (ds.drop (i+1))=some yN/\done++yN=out,fun ys' H' z=>⟨ds.length - (i+1),by omega,rfl,hlt,z.1,z.2⟩,fun v H' y=>?_⟩
  obtain ⟨G3,d,x3,ed,rv⟩:=wk.yld i G H v H' x.g x.gh hlt y
  rw [List.drop_eq_getElem_cons hlt] at hf
  rw [List.getElem?_eq_getElem hlt] at ed
  cases ed
  obtain ⟨τ1,h1,hf⟩:=zF (show (fg _ _).bind _=_ from hf)
  obtain ⟨kk,h2,hf⟩:=zF hf
  have K3:=((Ka.go x).go x3).more k
  refine kg G3 H' _ v τ1 _ K3 rv h1 fun ρ K4=>⟨⟨ρ,rfl⟩,_,_,_,_,kk,K4,h2,fun G5 H5 x5=>?_⟩
  cases kk with
  | false=>exact qt ⟨by omega,G5,done,yN,x.trans (x3.trans x5),rd.mono (x3.g.trans x5.g),hf,eo⟩
  | true=>
   obtain ⟨z,hz,hf⟩:=zF (show (f _).bind _=_ from hf)
   obtain ⟨more,hm,hf⟩:=zF hf
   cases hf
   refine qu ⟨_,_,_,_,z,K4.go x5,hz,fun u G6 H6 x6 r6=>⟨by rw [List.length_append]; exact Nat.succ_le_succ hys,G6,done++[z],more,x.trans (x3.trans (x5.trans x6)),(rd.mono (x3.g.trans (x5.g.trans x6.g))).append (Reps.one r6),hm,?_⟩⟩
   rw [List.append_assoc]
   exact eo
 ·have e:ds.drop i=[]:=List.drop_eq_nil_of_le (by omega)
  rw [e] at hf
  cases hf
  rw [List.append_nil] at eo
  subst eo
  refine .inl ⟨wk.stop i G H x.g x.gh (by omega),fin ys G H x rd ?_⟩
  rw [<- rd.length]
  omega
section
variable {X:Cx} {tg iter elt:Expr} {ifs:List Expr} {scope:Scope} {cl:List (Str×Addr)} {own:List Str} {pos:Pos} {fs:FA} {fg:FG} {ft:FT} {f:FE} {g:TG}
theorem VH {α:Type} (xs:List α) (y:α) (ys:List α) {n:Nat} (h:n=xs.length) (z:α):(xs++y::ys).set n z=xs++z::ys:=by
 subst h
 rw [List.set_append_right _ _ (Nat.le_refl _),Nat.sub_self]
 rfl
structure BG (X:Cx) (scope:Scope) (cl:List (Str×Addr)) (own:List Str) (tg:Expr) (g:TG) (fg:FG):Prop where
 q:∀ C s H fp pn,QG (xX X scope cl own C s H fp pn) tg g
 k:∀ {G0 H0:Hp} {τ:zp} {σ:St},τ.length=X.N.length->σ.length=X.N.length->∀ G H d v τ' (Q:St->Hp->Prop),zo X.K (X.N.length+own.length) G0 H0 G H (τ++List.replicate own.length none) (σ++List.replicate own.length none)->zV X.K G d v->fg d (τ++List.replicate own.length none)=some τ'->
  (∀ ρ,zo X.K (X.N.length+own.length) G0 H0 G H τ' (σ++ρ)->Q (σ++ρ) H)->g v (σ++List.replicate own.length none) H Q
theorem xb {x:Str} {i:Nat} (q:∀ C s H fp pn,QG (xX X scope cl [x] C s H fp pn) tg (vR i)) (hi:i=X.N.length):BG X scope cl [x] tg (vR i) (za i):=⟨q,fun {G0 H0 τ σ} l1 l2 G H d v τ' Q E r hf k=>by
 cases hf
 have E':=E.set (i:=i) (v:=v) (by rw [hi]; exact Nat.lt_succ_self _) r
 have es:(σ++List.replicate 1 none).set i (some v)=σ++[some v]:=VH σ none [] (hi.trans l2.symm) (some v)
 show Q ((σ++List.replicate 1 none).set i (some v)) H
 rw [es]
 refine k [some v] ?_
 rw [<- es]
 exact E'⟩
theorem jo {x y:Str} {i j:Nat} (q:∀ C s H fp pn,QG (xX X scope cl [x,y] C s H fp pn) tg (jx X.K 2 (qA (vR i) (qA (vR j) jw)))) (hi:i=X.N.length) (hj:j=X.N.length+1):BG X scope cl [x,y] tg (jx X.K 2 (qA (vR i) (qA (vR j) jw))) (xG i j):=⟨q,fun {G0 H0 τ σ} l1 l2 G H d v τ' Q E r hf k=>by
 unfold xG at hf
 split at hf
 ·rename_i d1 d2
  cases hf
  obtain ⟨a,vs,rfl,sq,⟨v1,r1,rfl,h1,⟨v2,r2,rfl,h2,h3⟩⟩,_⟩:=r
  cases (show r2=[] from h3)
  have E':=(E.set (i:=i) (v:=v1) (by rw [hi]; exact Nat.lt_add_of_pos_right (Nat.succ_pos _)) h1).set (i:=j) (v:=v2) (by rw [hj]; exact Nat.lt_succ_self _) h2
  have es:((σ++List.replicate 2 none).set i (some v1)).set j (some v2)=σ++[some v1,some v2]:=by
   have e1:(σ++List.replicate 2 none).set i (some v1)=σ++[some v1,none]:=VH σ none [none] (hi.trans l2.symm) (some v1)
   rw [e1]
   have e2:σ++[some v1,none]=(σ++[some v1])++[none]:=by simp
   rw [e2,VH (σ++[some v1]) none [] (by rw [List.length_append,hj,l2]; rfl) (some v2)]
   simp
  refine ⟨a,_,rfl,wc E.ext.gh sq,rfl,v1,_,rfl,v2,_,rfl,rfl,?_⟩
  show Q (((σ++List.replicate 2 none).set i (some v1)).set j (some v2)) H
  rw [es]
  refine k [some v1,some v2] ?_
  rw [<- es]
  exact E'
 ·cases hf⟩
theorem UJ (X:Cx) (own:List Str):(yd X.N own).length=X.N.length+own.length:=by
 unfold yd
 rw [List.length_append,List.length_map]
theorem XW {C:Addr} {s:Shared} {H:Hp} {fp:List Addr} {pn:List (Addr×Obj)} (h:SE (xX X scope cl own C s H fp pn) elt f):PE (xX X scope cl own C s H fp pn) elt (VY X.K (X.N.length+own.length) f):=by
 have q:=h.pe
 rw [show (xX X scope cl own C s H fp pn).N.length=X.N.length+own.length from UJ X own] at q
 exact q
theorem XX {C:Addr} {s:Shared} {H:Hp} {fp:List Addr} {pn:List (Addr×Obj)} (h:pO (xX X scope cl own C s H fp pn) ifs ft):qf (xX X scope cl own C s H fp pn) ifs (Yt X.K (X.N.length+own.length) ft):=by
 have q:=h.h
 rw [show (xX X scope cl own C s H fp pn).N.length=X.N.length+own.length from UJ X own] at q
 exact q
theorem xq (hcalm:X.calm=true) (B:qS X scope cl own) (hi:SI X tg iter fs) (hg:BG X scope cl own tg g fg) (hc:∀ C s H fp pn,pO (xX X scope cl own C s H fp pn) ifs ft)
  (he:∀ C s H fp pn,SE (xX X scope cl own C s H fp pn) elt f) (hs:∀ x,foldedSetIterable iter X.env x=pure x:=by intro _; rfl) :
  SF X (.ListComp elt [⟨tg,iter,ifs,0⟩] scope pos) (yT own.length fs fg ft f):=by
 obtain ⟨ti,pi,ki⟩:=hi.h
 refine ⟨⟨_,Dj hcalm B pi (fun C s H fp pn=>(hg.q C s H fp pn).h) (fun C s H fp pn=>XX (hc C s H fp pn)) (fun C s H fp pn=>XW (he C s H fp pn)) hs,fun {G0 H0 G H τ σ d Q} K hf q=>?_⟩⟩
 obtain ⟨ds,hd,hf⟩:=zF hf
 obtain ⟨out,ho,hf⟩:=zF hf
 cases hf
 refine ki K hd fun J Ga Ha xa l wk=>WO wk l (K.go xa) ho (hg.k K.l2 K.l1) fun ys G1 H1 x1 r1 l1 p hp=>?_
 exact q p _ _ (xa.trans (x1.trans (zK.layO x1.gh hp))) (xa.h.free (x1.h.free hp)) (x1.gh.free hp) ⟨ys,yz,r1,l1⟩
theorem GM {i:Nat} {x:Str} {px spos:Pos} (hcalm:X.calm=true) (hN:X.N.Nodup) (hix:X.N[i]?=some x) (hx:X.env.scope.names.lookup x=some .local) (B:qS X scope cl own)
  (hsw:swapsWith (.ListComp elt [⟨tg,iter,ifs,0⟩] scope pos) (some (.Name x px)) spos.line X.env=pure true) (hi:SI X tg iter fs) (hg:BG X scope cl own tg g fg) (hc:∀ C s H fp pn,pO (xX X scope cl own C s H fp pn) ifs ft)
  (he:∀ C s H fp pn,SE (xX X scope cl own C s H fp pn) elt f) (hs:∀ x,foldedSetIterable iter X.env x=pure x:=by intro _; rfl) :
  SS X (.Assign [.Name x px] (.ListComp elt [⟨tg,iter,ifs,0⟩] scope pos) spos) (uc i (yT own.length fs fg ft f)):=by
 obtain ⟨ti,pi,ki⟩:=hi.h
 refine ⟨⟨_,Ql hcalm hN hix hx B hsw pi (fun C s H fp pn=>(hg.q C s H fp pn).h) (fun C s H fp pn=>XX (hc C s H fp pn)) (fun C s H fp pn=>XW (he C s H fp pn)) hs,fun {G0 H0 G H τ σ fl E} K hf q=>?_⟩⟩
 obtain ⟨d,hf1,hf⟩:=zF hf
 cases hf
 obtain ⟨ds,hd,hf1⟩:=zF hf1
 obtain ⟨out,ho,hf1⟩:=zF hf1
 cases hf1
 refine ki K hd fun J Ga Ha xa l wk=>WO wk l (K.go xa) ho (hg.k K.l2 K.l1) fun ys G1 H1 x1 r1 l1 p hp=>?_
 have K1:=(K.go xa).go x1
 have K2:=K1.go (zK.layO (o:=.lst ys) x1.gh hp)
 exact q _ _ _ (K2.setO (List.getElem?_eq_some_iff.mp hix).1 (x1.gh.free hp) (K1.ext.h.free hp) ⟨ys,yz,r1,l1⟩ (K1.newO hp))
theorem jO {i:Nat} {x:Str} {px spos:Pos} (hcalm:X.calm=true) (hN:X.N.Nodup) (hix:X.N[i]?=some x) (hx:X.env.scope.names.lookup x=some .local) (B:qS X scope cl own)
  (hsw:swapsWith (.ListComp elt [⟨tg,iter,ifs,0⟩] scope pos) (some (.Name x px)) spos.line X.env=pure true) (hi:SI X tg iter fs) (hg:BG X scope cl own tg g fg) (hc:∀ C s H fp pn,pO (xX X scope cl own C s H fp pn) ifs ft)
  (he:∀ C s H fp pn,SE (xX X scope cl own C s H fp pn) elt f) (hs:∀ x,foldedSetIterable iter X.env x=pure x:=by intro _; rfl) :
  SS X (.Assign [.Name x px] (.ListComp elt [⟨tg,iter,ifs,0⟩] scope pos) spos) (ze i (yT own.length fs fg ft f)):=by
 obtain ⟨ti,pi,ki⟩:=hi.h
 refine ⟨⟨_,Ql hcalm hN hix hx B hsw pi (fun C s H fp pn=>(hg.q C s H fp pn).h) (fun C s H fp pn=>XX (hc C s H fp pn)) (fun C s H fp pn=>XW (he C s H fp pn)) hs,fun {G0 H0 G H τ σ fl E} K hf q=>?_⟩⟩
 obtain ⟨d,hf1,hf⟩:=zF hf
 cases hf
 obtain ⟨ds,hd,hf1⟩:=zF hf1
 obtain ⟨out,ho,hf1⟩:=zF hf1
 cases hf1
 refine ki K hd fun J Ga Ha xa l wk=>WO wk l (K.go xa) ho (hg.k K.l2 K.l1) fun ys G1 H1 x1 r1 l1 p hp=>?_
 have K2:=((K.go xa).go x1).go (zK.lay (o:=.lst ys) x1.gh hp)
 exact q _ _ _ (K2.set (List.getElem?_eq_some_iff.mp hix).1 ⟨p,ys,rfl,yE.of yz,r1.mono (wE (x1.gh.free hp) _),l1⟩)
end
section
variable {K:PySem.W.Frag} {n:Nat} {G0 H0 G H:Hp} {τ:zp} {σ:St}
theorem zo.mut {i:Nat} {d d':D} {p:Addr} {o:HO} (E:zo K n G0 H0 G H τ σ) (hi:τ[i]?=some (some (true,d))) (hp:σ[i]?=some (some (.ref p))) (new:wl K G (zX H p o) d' p):zo K n G0 H0 G (zX H p o) (τ.set i (some (true,d'))) σ:=by
 obtain ⟨p',e,g,z,_⟩:=E.ow i d hi
 rw [hp] at e
 cases e
 have keep:∀ {H1:Hp},H1 p=none->yD H1 H->yD H1 (zX H p o):=fun {H1} h s b u q=>by
  rw [yf (wT q h)]
  exact s _ _ q
 refine ⟨⟨E.ext.g,keep z E.ext.h,keep g E.ext.gh,E.ext.new⟩,E.l1,by rw [List.length_set]; exact E.l2,fun j e h=>?_,fun j e h=>?_,fun j k e f q hne h1 h2 h3 h4=>?_⟩
 ·rcases wb h with ⟨rfl,w⟩ | ⟨ne,w⟩
  ·cases w
  ·exact E.fr j e w
 ·rcases wb h with ⟨rfl,w⟩ | ⟨ne,w⟩
  ·cases w
   exact ⟨p,hp,g,z,new⟩
  ·obtain ⟨q,eq,gq,zq,oq⟩:=E.ow j e w
   refine ⟨q,eq,gq,zq,?_⟩
   have hne:q≠p:=fun c=>by
    subst c
    exact E.ap i j d e q (fun c=>ne c.symm) hi w hp eq
   cases e with
   | lst ds=>obtain ⟨vs,ev,r⟩:=oq; exact ⟨vs,by rw [yf hne]; exact ev,r⟩
   | dic ks ds=>obtain ⟨vs,ev,r⟩:=oq; exact ⟨vs,by rw [yf hne]; exact ev,r⟩
   | _=>exact oq.elim
 ·have t:∀ {j:Nat} {e:D},(τ.set i (some (true,d')))[j]?=some (some (true,e))->∃ e,τ[j]?=some (some (true,e)):=fun {j e} h=>by
   rcases wb h with ⟨rfl,_⟩ | ⟨_,w⟩
   ·exact ⟨_,hi⟩
   ·exact ⟨_,w⟩
  obtain ⟨e1,w1⟩:=t h1
  obtain ⟨e2,w2⟩:=t h2
  exact E.ap j k e1 e2 q hne w1 w2 h3 h4
end
section
variable {X:Cx} {x:Str} {xp pos apos cpos:Pos} {e:Expr} {f:FE}
theorem kq {i:Nat} (ho:QE X (.Name x xp) (k_ i)) (he:SE X e f) (hbase:attributeBase (.Name x xp) "append" X.env (eval (.Name x xp) X.env)=eval (.Name x xp) X.env:=by rfl) (hline:(apos.endLine == cpos.line)=true:=by rfl) (hs:yi e=true:=by rfl) :
  SS X (.Expr (.Call (.Attribute (.Name x xp) "append" apos) [e] [] cpos) pos) (ub i u3 f):=by
 obtain ⟨t,p,k⟩:=(zA he zE hs).h
 refine ⟨⟨_,(Qv (gO PySem.F.plainAttrs_list PySem.F.slot_list_append PySem.F.type_list_append Mh ho ⟨p⟩ hbase hline (by rw [List.all_cons,hs]; rfl) (by show 1<30; decide)) rfl).h,fun {G0 H0 G H τ σ fl E} K hf q=>?_⟩⟩
 unfold ub at hf
 split at hf
 ·rename_i d hd
  obtain ⟨y,hy,hf⟩:=zF hf
  obtain ⟨d',hd',hf⟩:=zF hf
  cases hf
  obtain ⟨a,ea,g,z,o⟩:=K.ow _ _ hd
  cases d with
  | lst ds=>
   obtain ⟨vs,ev,rs,l⟩:=o
   refine ⟨_,ea,.inl ⟨rfl,vs,yE.of ev⟩,k K (ds:=[y]) (by unfold z8; rw [hy]; rfl) fun us G1 H1 x1 r1=>?_⟩
   obtain ⟨u,r,rfl,hu,hr⟩:=r1
   cases (show r=[] from hr)
   change (if ds.length<yO then some (D.lst (ds++[y])) else none)=some d' at hd'
   by_cases c:ds.length<yO
   ·rw [if_pos c] at hd'
    cases hd'
    refine ⟨a,vs,u,rfl,rfl,x1.h _ _ ev,by rw [rs.length,sizeLine_eq]; exact c,?_⟩
    refine q _ _ _ ((K.go x1).mut hd ea ⟨vs++[u],yz,(rs.mono x1.g).append (Reps.one hu),?_⟩)
    rw [List.length_append,sizeLine_eq]
    exact c
   ·rw [if_neg c] at hd'
    cases hd'
  | _=>cases hd'
 ·cases hf
end
section
variable {P:Program} {w:World} {K:PySem.W.Frag} {mg:Str->Option Value} {base:Heap}
theorem WU {α β:Type} {ds:List α} {k i:Nat} {h:α->Option β} {y:β} (e:(ds.map h++List.replicate k none)[i]?=some (some y)):∃ d,ds[i]?=some d/\h d=some y:=by
 have e':=Zy e
 rw [List.getElem?_map] at e'
 cases q:ds[i]? with
 | none=>rw [q] at e'; cases e'
 | some d=>
  rw [q] at e'
  exact ⟨d,rfl,Option.some.inj e'⟩
theorem Uu {N:List Str} {G H:Hp} {ds:List D} {vs:List V} (s:yD G H) (r:Reps K G ds vs) (hl:ds.length<=N.length):zo K N.length G H G H (ds.map (fun d=>some (false,d))++List.replicate (N.length - ds.length) none) (L2.start N vs):=by
 have l:=r.length
 refine ⟨zK.refl s,?_,?_,fun i d h=>?_,fun i d h=>?_,fun i j d e p _ h1=>?_⟩
 ·unfold L2.start
  rw [List.length_append,List.length_map,List.length_replicate]
  omega
 ·rw [List.length_append,List.length_map,List.length_replicate]
  omega
 ·obtain ⟨d',e,z⟩:=WU h
  cases z
  obtain ⟨v,ev,rv⟩:=r.get e
  refine ⟨v,?_,rv⟩
  unfold L2.start
  rw [List.getElem?_append_left (by rw [List.length_map]; exact (List.getElem?_eq_some_iff.mp ev).1),List.getElem?_map,ev]
  rfl
 ·obtain ⟨d',e,z⟩:=WU h
  cases z
 ·obtain ⟨d',e,z⟩:=WU h1
  cases z
theorem zH.okS {x:Str} {st:Stmt} {N ps:List Str} {k:Nat} {F:List D->Option (Bool×D)} {b:FS} (d:zH K mg x st ps) (S:yL N ps (zw st)) (hN:ps.length<=N.length) (hF:∀ ds r,F ds=some r->ds.length=ps.length/\zZ N.length b ds=some r)
  (hb:∀ (f:Addr) (cdv:Value) (A:Around) (outer:List Env) (s:Shared) (H:Hp) (E:XK),xW k (A.deeper (envOfC x (zw st) s.heap.objs.size f cdv))->vO (uy vY P w K mg base N x (zw st) f cdv A outer s H E).nox (uN st) b):zL P w K mg base x ps (k+1) (zN K F):=by
 refine d.ok S (fun vs H Q E h=>?_) fun f cdv A outer s H vs Q E hr h=>?_
 ·obtain ⟨G,ds,o,dd,_,r,e,_⟩:=h
  rw [r.length,(hF _ _ e).1]
 ·obtain ⟨G,ds,o,dd,s',r,e,q⟩:=h
  obtain ⟨l,hrun⟩:=hF _ _ e
  obtain ⟨t,p,kt⟩:=(hb f cdv A outer s H E hr).h
  obtain ⟨fl,hfl,hrun⟩:=zF hrun
  refine ⟨t,p,kt (Uu (N:=N) s' r (by omega)) hfl ?_⟩
  cases fl with
  | nx τ=>
   cases hrun
   exact fun σ G' H' z=>q .non G' H' z.ext rfl
  | rt o' d'=>
   cases hrun
   cases o with
   | false=>exact q
   | true=>exact q
  | _=>cases hrun
end
end L3
namespace L3
open PySem PySem.Spec PyProof.Rows L2
section
variable {P:Program} {w:World} {K:PySem.W.Frag} {mg:Str->Option Value} {base:Heap}
end
end L3
namespace L3
open PySem PySem.Spec PyProof.Rows L2
section
variable {X:Cx} {K:PySem.W.Frag}
theorem jC {C:Int->Int->Prop} {Cb:Int->Int->Bool} {g:Int->Int->Int} (h:∀ i j,Cb i j=true->C i j):wg K (rI C fun i j=>.int (g i j)) (fI Cb g):=fun G H x y u v d Q s rx ry hf q=>by
 cases x<;>first | (cases hf; done) | skip
 cases y<;>first | (cases hf; done) | skip
 rename_i i j
 change (match Cb i j with | true=>some (D.int (g i j)) | false=>none)=some d at hf
 cases c:Cb i j with
 | false=>rw [c] at hf; cases hf
 | true=>
  rw [c] at hf
  cases hf
  exact ⟨i,j,rx,ry,h i j c,q _ _ _ (zK.refl s) rfl⟩
theorem We:wg K (ua fun i j=>.int (i - j)) jv:=fun G H x y u v d Q s rx ry hf q=>by
 cases x<;>first | (cases hf; done) | skip
 cases y<;>first | (cases hf; done) | skip
 cases hf
 exact ⟨_,_,rx,ry,q _ _ _ (zK.refl s) rfl⟩
theorem Tv {i:Int} (h:t6 i=true) : -(2 ^ 64)<i/\i<2 ^ 64:=by
 unfold t6 at h
 rw [Bool.and_eq_true] at h
 exact ⟨of_decide_eq_true h.1,of_decide_eq_true h.2⟩
theorem YN:wg K (rI jZ fun i j=>.int (i*j)) pZ:=jC fun _ _ h=>.inl (Tv h)
theorem QK:wg K (rI jZ fun i j=>.int (i*j)) Zv:=jC fun _ _ h=>.inr (Tv h)
theorem uW:wg K (rI (fun _ j=>0<j) fun i j=>.int (i % j)) wt:=jC fun _ _ h=>of_decide_eq_true h
theorem gI:wg K (rI (fun _ j=>0<j/\j<2 ^ 64) fun i j=>.int (i / j)) ql:=jC fun _ _ h=>by
 rw [Bool.and_eq_true] at h
 exact ⟨of_decide_eq_true h.1,of_decide_eq_true h.2⟩
theorem FW {i j:Int} (h:jE i j=true):X8 i j:=by
 unfold jE at h
 rw [Bool.and_eq_true,Bool.and_eq_true] at h
 exact ⟨of_decide_eq_true h.1,of_decide_eq_true h.2.1,of_decide_eq_true h.2.2⟩
theorem Bp:wg K (rI X8 fun i j=>.int (i*2 ^ j.toNat)) Xv:=jC fun _ _ h=>FW h
theorem qG {g:Int->Int->Bool}:vz K (ua fun i j=>.bl (g i j)) (u4 g):=fun H x y u v d Q rx ry hf=>by
 cases x<;>first | (cases hf; done) | skip
 cases y<;>first | (cases hf; done) | skip
 cases hf
 exact ⟨_,rfl,fun q=>⟨_,_,rx,ry,q⟩⟩
theorem TZ {H:Hp} {x:D} {u:V} (r:zV K H x u):qC x=decide (u=.non):=by
 cases x with
 | non=>cases r; rfl
 | bl b=>cases r; rfl
 | int b=>cases r; rfl
 | str b=>obtain ⟨rfl,_⟩:=r; rfl
 | tup b=>obtain ⟨a,vs,rfl,_⟩:=r; rfl
 | lst b=>obtain ⟨a,vs,rfl,_⟩:=r; rfl
 | dic b c=>obtain ⟨a,vs,rfl,_⟩:=r; rfl
 | exc b=>obtain ⟨a,C,rfl,_⟩:=r; rfl
 | obj b c e=>obtain ⟨a,C,dx,vs,rfl,_⟩:=r; rfl
theorem QH:vz K (fun x y H Q=>y=.non/\Q (.bl (decide (x=.non))) H) pY:=fun H x y u v d Q rx ry hf=>by
 cases y<;>first | (cases hf; done) | skip
 have e:=TZ rx
 refine ⟨qC x,(Option.some.inj hf).symm,fun q=>⟨ry,?_⟩⟩
 rw [<- e]
 exact q
theorem YO:vz K (fun x y H Q=>y=.non/\Q (.bl (!decide (x=.non))) H) qo:=fun H x y u v d Q rx ry hf=>by
 cases y<;>first | (cases hf; done) | skip
 have e:=TZ rx
 refine ⟨!qC x,(Option.some.inj hf).symm,fun q=>⟨ry,?_⟩⟩
 rw [<- e]
 exact q
theorem jT:∀ (G H:Hp) x u d (Q:VK),zV K G x u->t_ x=some d->∃ w,(∀ G,zV K G d w)/\(Q w H->rU (fun i=>.int (-i)) u H Q):=fun G H x u d Q r hf=>by
 cases x<;>first | (cases hf; done) | skip
 cases hf
 exact ⟨_,fun _=>rfl,fun q=>⟨_,r,q⟩⟩
noncomputable def Qz (K:PySem.W.Frag):R2:=fun x y H Q=>∃ l b xs zs,x=.ref l/\y=.ref b/\yE K H l xs/\yE K H b zs/\xs.length+zs.length<=sizeLine/\∀ p,H p=none->Q (.ref p) (zX H p (.lst (xs++zs)))
theorem By:yM X (binaryOp .Add) (Qz X.K):=by
 intro pins s σ H x y v u Q I rx ry h
 obtain ⟨l,b,xs,zs,rfl,rfl,hl,hb,hz,q⟩:=h
 cases rx
 cases ry
 obtain ⟨its,r1,p1,_⟩:=I.list hl
 obtain ⟨its2,r2,p2,_⟩:=I.list hb
 obtain ⟨⟨c1,d1,t1,sl1⟩,n1,ho1,hc1,hd1,ht1⟩:=p1
 obtain ⟨⟨c2,d2,t2,sl2⟩,n2,ho2,hc2,hd2,ht2⟩:=p2
 simp only at hc1 ht1 hc2 ht2
 subst hc1 ht1 hc2 ht2
 refine concat_meets ⟨_,ho1,rfl⟩ ⟨_,ho2,rfl⟩ noFill_list_add seq_list_add PySem.F.slot_list_add PySem.F.entry_list_add (PySem.F.args_list_add_2 _ _)
  (list_addW l b its.toArray its2.toArray n1 n2 d1 d2 sl1 sl2 (by rw [List.size_toArray,List.size_toArray,<- r1.length,<- r2.length]; exact hz)) ⟨ho1,ho2,?_⟩
 rw [show its.toArray++its2.toArray=(its++its2).toArray by simp]
 exact ⟨.ref _,_,I.lnew (t':=s.toks) (r1.append r2) (by rw [List.length_append]; exact hz),rfl,q _ I.fresh⟩
noncomputable def Qx (K:PySem.W.Frag):R2:=fun x y H Q=>ua (fun i j=>.int (i+j)) x y H Q\/(∃ i k,x=.int i/\y=.bl k/\Q (.int (i+b2i k)) H)\/(∃ i j,x=.str i/\y=.str j/\i.length+j.length<=sizeLine/\Q (.str (i++j)) H)\/Qz K x y H Q\/Q_ K x y H Q
theorem xD:yM X (binaryOp .Add) (Qx X.K):=Bv.or (Bw.or (Bx.or (By.or Bz)))
theorem xC:wg K (Qx K) zy:=fun G H x y u v d Q s rx ry hf q=>by
 cases x<;>cases y<;>first | (cases hf; done) | skip
 ·rename_i i b
  cases rx
  cases ry
  cases hf
  refine .inr (.inl ⟨i,b,rfl,rfl,?_⟩)
  have e:i+b2i b=i+(if b then 1 else 0):=by cases b<;>rfl
  rw [e]
  exact q _ _ _ (zK.refl s) rfl
 ·cases hf
  exact .inl ⟨_,_,rx,ry,q _ _ _ (zK.refl s) rfl⟩
 ·rename_i i j
  obtain ⟨rfl,l1⟩:=rx
  obtain ⟨rfl,l2⟩:=ry
  change (if i.length+j.length<=yO then _ else _)=_ at hf
  by_cases c:i.length+j.length<=yO
  ·rw [if_pos c] at hf
   cases hf
   have c':i.length+j.length<=sizeLine:=by rw [sizeLine_eq]; exact c
   exact .inr (.inr (.inl ⟨i,j,rfl,rfl,c',q _ _ _ (zK.refl s) ⟨rfl,by rw [strLen_append]; exact c'⟩⟩))
  ·rw [if_neg c] at hf
   cases hf
 ·rename_i xs ys
  obtain ⟨a,vs,rfl,sa,ra,_⟩:=rx
  obtain ⟨b,us,rfl,sb,rb,_⟩:=ry
  change (if xs.isEmpty=false/\xs.length+ys.length<=yO then _ else _)=_ at hf
  by_cases c0:xs.isEmpty=false/\xs.length+ys.length<=yO
  ·rw [if_pos c0] at hf
   have c:=c0.2
   cases hf
   have c':(xs++ys).length<=sizeLine:=by rw [sizeLine_eq,List.length_append]; exact c
   have hx:vs≠[]:=fun e=>by
    have l:=ra.length
    rw [e] at l
    cases xs with
    | nil=>cases c0.1
    | cons=>cases l
   ·refine .inr (.inr (.inr (.inr ⟨a,b,vs,us,rfl,rfl,wc s sa,wc s sb,hx,by rw [ra.length,rb.length,sizeLine_eq]; exact c,fun e=>?_,fun e p hp=>?_⟩)))
    ·subst e
     have e2:ys=[]:=by
      cases ys with
      | nil=>rfl
      | cons=>obtain ⟨_,_,z,_⟩:=rb; cases z
     subst e2
     exact q _ _ _ (zK.refl s) ⟨a,vs,rfl,sa,by rw [List.append_nil]; exact ra,c'⟩
    ·exact q _ _ _ (zK.lay s hp) ⟨p,vs++us,rfl,yR.of yz,(ra.append rb).mono (wE (s.free hp) _),c'⟩
  ·rw [if_neg c0] at hf
   cases hf
 ·rename_i xs ys
  obtain ⟨a,vs,rfl,sa,ra,_⟩:=rx
  obtain ⟨b,us,rfl,sb,rb,_⟩:=ry
  change (if xs.length+ys.length<=yO then _ else _)=_ at hf
  by_cases c:xs.length+ys.length<=yO
  ·rw [if_pos c] at hf
   cases hf
   have c':(xs++ys).length<=sizeLine:=by rw [sizeLine_eq,List.length_append]; exact c
   refine .inr (.inr (.inr (.inl ⟨a,b,vs,us,rfl,rfl,wL s sa,wL s sb,by rw [ra.length,rb.length,sizeLine_eq]; exact c,fun p hp=>?_⟩)))
   exact q _ _ _ (zK.lay s hp) ⟨p,vs++us,rfl,yE.of yz,(ra.append rb).mono (wE (s.free hp) _),c'⟩
  ·rw [if_neg c] at hf
   cases hf
theorem Iv {α:Type} {xs:List α} {i:Int} {x:α} (h:vd xs i=some x):∃ j:Nat,xs[j]?=some x/\∀ {β:Type} (ys:List β),ys.length=xs.length->vd ys i=ys[j]?:=by
 unfold vd at h
 cases e:p_ xs.length i with
 | none=>rw [e] at h; cases h
 | some j=>
  rw [e] at h
  exact ⟨j,h,fun ys l=>by unfold vd; rw [l,e]; rfl⟩
theorem U9 {α:Type} (xs:List α) (i:Int):vd xs i=wI xs i:=by
 unfold vd wI p_
 by_cases h:0<=i
 ·rw [if_pos h,if_pos h]
  by_cases h2:i<xs.length
  ·rw [if_pos h2]; rfl
  ·rw [if_neg h2]
   exact (List.getElem?_eq_none (by omega)).symm
 ·rw [if_neg h,if_neg h]
  split<;>rfl
theorem V5 {H:Hp} {ds:List D} {vs:List V} {i:Int} {d:D} (r:Reps K H ds vs) (h:wI ds i=some d):∃ v,vd vs i=some v/\zV K H d v:=by
 rw [<- U9] at h
 obtain ⟨j,e,k⟩:=Iv h
 obtain ⟨v,ev,rv⟩:=r.get e
 exact ⟨v,by rw [k vs r.length]; exact ev,rv⟩
noncomputable def Oq:D->D->Option D
 | .lst xs,.int i=>wI xs i
 | .tup xs,.int i=>wI xs i
 | .str z,.int i=>(wI z.cps.toList i).bind fun c=>some (.str ⟨#[c]⟩)
 | _,_=>none
theorem Wb:wg K (W_ K) Oq:=fun G H x y u v d Q s rx ry hf q=>by
 cases x<;>first | (cases hf; done) | skip
 all_goals (cases y<;>first | (cases hf; done) | skip)
 ·rename_i z i
  obtain ⟨rfl,l⟩:=rx
  cases ry
  obtain ⟨c,hc,hf⟩:=zF hf
  cases hf
  rw [<- U9] at hc
  exact .inr (.inr ⟨z,i,c,rfl,rfl,l,hc,q _ _ _ (zK.refl s) ⟨rfl,zU (n:=1) (by decide)⟩⟩)
 ·rename_i xs i
  obtain ⟨a,vs,rfl,sa,ra,_⟩:=rx
  cases ry
  obtain ⟨w,hw,rw_⟩:=V5 ra hf
  exact .inr (.inl ⟨a,vs,i,w,rfl,rfl,wc s sa,hw,q _ _ _ (zK.refl s) rw_⟩)
 ·rename_i xs i
  obtain ⟨a,vs,rfl,sa,ra,_⟩:=rx
  cases ry
  obtain ⟨w,hw,rw_⟩:=V5 ra hf
  exact .inl ⟨a,vs,i,w,rfl,rfl,wL s sa,hw,q _ _ _ (zK.refl s) rw_⟩
theorem xJ:xV X (.builtin "len") (fun xs H Q=>(∃ p ys,xs=[.ref p]/\(yE X.K H p ys\/yR X.K H p ys)/\Q (.int ys.length) H)\/∃ z,xs=[.str z]/\z.length<=sizeLine/\Q (.int z.length) H):=O9.or OA
theorem xL:jc K (fun xs H Q=>(∃ p ys,xs=[.ref p]/\(yE K H p ys\/yR K H p ys)/\Q (.int ys.length) H)\/∃ z,xs=[.str z]/\z.length<=sizeLine/\Q (.int z.length) H) ye:=fun G H ds vs d Q s r hf q=>by
 match ds,hf with
 | [.lst xs],hf=>
  cases hf
  obtain ⟨v,r',rfl,⟨a,us,rfl,sq,ru,_⟩,h2⟩:=r
  cases (show r'=[] from h2)
  exact .inl ⟨a,us,rfl,.inl sq,by rw [ru.length]; exact q _ _ _ (zK.refl s) rfl⟩
 | [.tup xs],hf=>
  cases hf
  obtain ⟨v,r',rfl,⟨a,us,rfl,sq,ru,_⟩,h2⟩:=r
  cases (show r'=[] from h2)
  exact .inl ⟨a,us,rfl,.inr sq,by rw [ru.length]; exact q _ _ _ (zK.refl s) rfl⟩
 | [.str z],hf=>
  cases hf
  obtain ⟨v,r',rfl,⟨rfl,l⟩,h2⟩:=r
  cases (show r'=[] from h2)
  exact .inr ⟨z,rfl,l,q _ _ _ (zK.refl s) rfl⟩
end
end L3
namespace L3
open PySem PySem.Spec PyProof.Rows L2
theorem Ud:∀ xs ys:List D,(((List.range (min xs.length ys.length)).all fun j=>zg (xs.getD j .non) (ys.getD j .non))&&xs.length == ys.length)=dEqs xs ys
 | [],[]=>rfl
 | [],_::_=>rfl
 | _::_,[]=>rfl
 | x::xs,y::ys=>by
  have ih:=Ud xs ys
  show _=(zg x y&&dEqs xs ys)
  rw [<- ih,List.length_cons,List.length_cons,Nat.succ_min_succ,List.range_succ_eq_map,List.all_cons,List.all_map,Bool.and_assoc]
  congr 1
  congr 1
  rw [Bool.eq_iff_iff]
  simp
theorem UY {f:D->D->Bool}:∀ {xs ys:List D},wp f xs ys=true->∀ (j:Nat) x y,xs[j]?=some x->ys[j]?=some y->f x y=true
 | [],_,_,j,x,y,e,_=>by cases e
 | x::xs,[],_,j,_,y,_,e=>by cases e
 | x::xs,y::ys,h,0,_,_,e1,e2=>by
  cases e1
  cases e2
  have h':(f x y&&wp f xs ys)=true:=h
  rw [Bool.and_eq_true] at h'
  exact h'.1
 | x::xs,y::ys,h,j+1,a,b,e1,e2=>by
  have h':(f x y&&wp f xs ys)=true:=h
  rw [Bool.and_eq_true] at h'
  exact UY h'.2 j a b (by simpa using e1) (by simpa using e2)
section
variable {X:Cx} {pins:List (Addr×Obj)} {σ:St} {H:Hp} {s:Shared} {K:PySem.W.Frag}
theorem Xl {n:Nat} (ih:∀ d1 d2 v,xj n d1 d2=true->zV K H d1 v->zV K H d2 v->zg d1 d2=true):∀ {xs ys:List D} {vs:List V},wp (xj n) xs ys=true->Reps K H xs vs->Reps K H ys vs->dEqs xs ys=true
 | [],[],_,_,_,_=>rfl
 | [],_::_,_,_,r1,r2=>by
  cases (show _=[] from r1)
  obtain ⟨_,_,e,_⟩:=r2
  cases e
 | _::_,[],_,_,r1,r2=>by
  cases (show _=[] from r2)
  obtain ⟨_,_,e,_⟩:=r1
  cases e
 | x::xs,y::ys,_,h,r1,r2=>by
  obtain ⟨v,r,rfl,a,b⟩:=r1
  obtain ⟨v',r',e,a',b'⟩:=r2
  cases e
  have h':(xj n x y&&wp (xj n) xs ys)=true:=h
  rw [Bool.and_eq_true] at h'
  show (zg x y&&dEqs xs ys)=true
  rw [ih x y v h'.1 a a',Xl ih h'.2 b b']
  rfl
theorem Xa {n:Nat} {x y:D} (h:xj (n+1) x y=true):(∃ xs ys,x=.tup xs/\y=.tup ys/\wp (xj n) xs ys=true)\/(∃ xs ys,x=.lst xs/\y=.lst ys/\wp (xj n) xs ys=true)\/(xB x=true/\xB y=true):=by
 unfold xj at h
 split at h
 ·exact .inl ⟨_,_,rfl,rfl,h⟩
 ·exact .inr (.inl ⟨_,_,rfl,rfl,h⟩)
 ·rw [Bool.and_eq_true] at h
  exact .inr (.inr h)
theorem jG {d:D} {v:V} (h:xB d=true) (r:zV K H d v):u5 v=true:=by
 cases d<;>first | exact absurd h Bool.false_ne_true | skip
 ·cases (show v=_ from r); rfl
 ·cases (show v=_ from r); rfl
 ·cases (show v=_ from r); rfl
 ·cases (show v=_/\_ from r).1; rfl
theorem V3 {d1 d2:D} {x y:V} (h1:xB d1=true) (h2:xB d2=true) (r1:zV K H d1 x) (r2:zV K H d2 y):vg x y=zg d1 d2:=by
 cases d1<;>first | exact absurd h1 Bool.false_ne_true | skip
 all_goals (cases d2<;>first | exact absurd h2 Bool.false_ne_true | skip)
 all_goals first
  | (cases (show x=_ from r1); cases (show y=_ from r2); rfl)
  | (cases (show x=_ from r1); cases (show y=_/\_ from r2).1; rfl)
  | (cases (show x=_/\_ from r1).1; cases (show y=_ from r2); rfl)
  | (cases (show x=_/\_ from r1).1; cases (show y=_/\_ from r2).1; rfl)
theorem Zr (I:Inv X pins σ H s):∀ (n:Nat) (d1 d2:D) (v:V),xj n d1 d2=true->zV X.K H d1 v->zV X.K H d2 v->zg d1 d2=true
 | 0,_,_,_,h,_,_=>by cases h
 | n+1,d1,d2,v,h,r1,r2=>by
  rcases Xa h with ⟨xs,ys,rfl,rfl,h⟩ | ⟨xs,ys,rfl,rfl,h⟩ | ⟨f1,f2⟩
  ·obtain ⟨a,vs,rfl,s1,q1,_⟩:=r1
   obtain ⟨a',us,e,s2,q2,_⟩:=r2
   cases e
   cases I.tuple_inj s1 s2
   exact Xl (fun d1 d2 v=>Zr I n d1 d2 v) h q1 q2
  ·obtain ⟨a,vs,rfl,s1,q1,_⟩:=r1
   obtain ⟨a',us,e,s2,q2,_⟩:=r2
   cases e
   cases I.list_inj s1 s2
   exact Xl (fun d1 d2 v=>Zr I n d1 d2 v) h q1 q2
  ·rw [<- V3 f1 f2 r1 r2]
   exact On (jG f1 r1)
theorem T0 {α:Type} {xs:List α} {j:Nat} {x d:α} (h:xs[j]?=some x):xs.getD j d=x:=by rw [List.getD_eq_getElem?_getD,h]; rfl
theorem Ye {A:Around} {n:Nat} {a c:Addr} {xs ys:List D} {vs us:List V} (I:Inv X pins σ H s) (hu:A.units<cLine) (hq:U4 X.K H a c vs us) (q1:Reps X.K H xs vs) (q2:Reps X.K H ys us) (h:wp (xj n) xs ys=true)
  (ih:∀ (d1 d2:D) (x y:V) (u v:Value),xj n d1 d2=true->zV X.K H d1 x->zV X.K H d2 y->zi x u->zi y v->SeqAt.EqAt A.in1 s u v (zg d1 d2)):SeqAt.RcAt A s (.ref a) (.ref c) (dEqs xs ys)/\SeqAt.RcNeAt A s (.ref a) (.ref c) (!dEqs xs ys):=by
 have z:=CP (A:=A) (e:=fun j=>zg (xs.getD j .non) (ys.getD j .non)) I hu hq fun j x' y' u' v' e1 e2 w1 w2=>by
  obtain ⟨d1,g1,t1⟩:=q1.at e1
  obtain ⟨d2,g2,t2⟩:=q2.at e2
  show SeqAt.EqAt A.in1 s u' v' (zg (xs.getD j .non) (ys.getD j .non))
  rw [T0 g1,T0 g2]
  exact ih d1 d2 x' y' u' v' (UY h j d1 d2 g1 g2) t1 t2 w1 w2
 rw [q1.length,q2.length,Ud] at z
 exact z
theorem Zq (I:Inv X pins σ H s):∀ (n:Nat) (A:Around) (d1 d2:D) (x y:V) (u v:Value),A.units+n<cLine->xj n d1 d2=true->zV X.K H d1 x->zV X.K H d2 y->zi x u->zi y v->SeqAt.EqAt A s u v (zg d1 d2)
 | 0,_,_,_,_,_,_,_,_,h,_,_,_,_=>by cases h
 | n+1,A,d1,d2,x,y,u,v,hu,h,r1,r2,rx,ry=>by
  have h0:=h
  have ra:=r1
  have rb:=r2
  rcases Xa h with ⟨xs,ys,rfl,rfl,h⟩ | ⟨xs,ys,rfl,rfl,h⟩ | ⟨f1,f2⟩
  ·obtain ⟨a,vs,rfl,s1,q1,l1⟩:=r1
   obtain ⟨c,us,rfl,s2,q2,l2⟩:=r2
   cases (show u=Value.ref a from rx)
   cases (show v=Value.ref c from ry)
   by_cases hac:a=c
   ·subst hac
    rw [Zr I (n+1) _ _ _ h0 ra rb]
    exact SeqAt.EqAt.same _
   ·exact SeqAt.EqAt.of_refs hac (Ye I (by omega) (.inl ⟨s1,s2⟩) q1 q2 h fun d1 d2 x y u v hh t1 t2 w1 w2=>Zq I n A.in1 d1 d2 x y u v (by rw [Y3]; omega) hh t1 t2 w1 w2).1
  ·obtain ⟨a,vs,rfl,s1,q1,l1⟩:=r1
   obtain ⟨c,us,rfl,s2,q2,l2⟩:=r2
   cases (show u=Value.ref a from rx)
   cases (show v=Value.ref c from ry)
   by_cases hac:a=c
   ·subst hac
    rw [Zr I (n+1) _ _ _ h0 ra rb]
    exact SeqAt.EqAt.same _
   ·exact SeqAt.EqAt.of_refs hac (Ye I (by omega) (.inr ⟨s1,s2⟩) q1 q2 h fun d1 d2 x y u v hh t1 t2 w1 w2=>Zq I n A.in1 d1 d2 x y u v (by rw [Y3]; omega) hh t1 t2 w1 w2).1
  ·rw [<- V3 f1 f2 r1 r2]
   exact Uv rx ry (jG f1 r1) (jG f2 r2)
end
noncomputable def Ya (K:PySem.W.Frag) (neg:Bool):R2:=fun x y H Q=>∃ d1 d2 k,zV K H d1 x/\zV K H d2 y/\vi d1 d2=some k/\Q (.bl (if neg then !k else k)) H
theorem yI {A:Around} {k:Nat} (hr:xW k A):A.units+7<cLine:=Nat.lt_of_le_of_lt (Nat.add_le_add_left (by decide:7<=64) _) hr.units
section
variable {X:Cx} {K:PySem.W.Frag}
theorem Xo {d1 d2:D} {k:Bool} (h:vi d1 d2=some k):xj 6 d1 d2=true/\k=zg d1 d2:=by
 unfold vi at h
 split at h
 ·cases h
 ·cases h
 ·split at h
  ·rename_i e
   cases h
   exact ⟨e,rfl⟩
  ·cases h
theorem JR {H:Hp} {d1 d2:D} {x y:V} {k:Bool} (h:vi d1 d2=some k) (h1:xB d1=true) (h2:xB d2=true) (r1:zV K H d1 x) (r2:zV K H d2 y):VE x y=true/\decide (x=y)=k:=by
 obtain ⟨_,e⟩:=Xo h
 subst e
 cases d1<;>first | exact absurd h1 Bool.false_ne_true | skip
 all_goals (cases d2<;>first | exact absurd h2 Bool.false_ne_true | (cases h; done) | skip)
 all_goals first
  | (cases (show x=_ from r1); cases (show y=_ from r2); exact ⟨rfl,by first | rfl | exact Xe | exact Xd⟩)
  | (cases (show x=_ from r1); cases (show y=_/\_ from r2).1; exact ⟨rfl,rfl⟩)
  | (cases (show x=_/\_ from r1).1; cases (show y=_ from r2); exact ⟨rfl,rfl⟩)
  | (cases (show x=_/\_ from r1).1; cases (show y=_/\_ from r2).1; exact ⟨rfl,Xf⟩)
theorem Ux {pins:List (Addr×Obj)} {σ:St} {H:Hp} {s:Shared} {A:Around} {d1 d2:D} {x y:V} {u v:Value} (I:Inv X pins σ H s) (hu:A.units+7<cLine) (h:xj 6 d1 d2=true) (hf:¬ (xB d1&&xB d2)=true) (r1:zV X.K H d1 x) (r2:zV X.K H d2 y) (rx:zi x u) (ry:zi y v) :
  SeqAt.RcAt A s u v (zg d1 d2)/\SeqAt.RcNeAt A s u v (!zg d1 d2):=by
 rcases Xa h with ⟨xs,ys,rfl,rfl,h⟩ | ⟨xs,ys,rfl,rfl,h⟩ | ⟨f1,f2⟩
 ·obtain ⟨a,vs,rfl,s1,q1,l1⟩:=r1
  obtain ⟨c,us,rfl,s2,q2,l2⟩:=r2
  cases (show u=Value.ref a from rx)
  cases (show v=Value.ref c from ry)
  exact Ye I (by omega) (.inl ⟨s1,s2⟩) q1 q2 h fun d1 d2 x y u v hh t1 t2 w1 w2=>Zq I 5 A.in1 d1 d2 x y u v (by rw [Y3]; omega) hh t1 t2 w1 w2
 ·obtain ⟨a,vs,rfl,s1,q1,l1⟩:=r1
  obtain ⟨c,us,rfl,s2,q2,l2⟩:=r2
  cases (show u=Value.ref a from rx)
  cases (show v=Value.ref c from ry)
  exact Ye I (by omega) (.inr ⟨s1,s2⟩) q1 q2 h fun d1 d2 x y u v hh t1 t2 w1 w2=>Zq I 5 A.in1 d1 d2 x y u v (by rw [Y3]; omega) hh t1 t2 w1 w2
 ·exact absurd (by rw [f1,f2]; rfl) hf
theorem yk (hu:X.A.units+7<cLine):yM X (compareOp .Eq) (Ya X.K false):=by
 intro pins s σ H x y v u Q I rx ry h
 obtain ⟨d1,d2,k,r1,r2,hk,q⟩:=h
 by_cases hf:(xB d1&&xB d2)=true
 ·have hf':=hf
  rw [Bool.and_eq_true] at hf'
  obtain ⟨a,b⟩:=JR hk hf'.1 hf'.2 r1 r2
  exact B_ pins s σ H x y v u Q I rx ry ⟨a,by rw [b]; exact q⟩
 ·obtain ⟨hc,rfl⟩:=Xo hk
  exact (Ux I hu hc hf r1 r2 rx ry).1 _ _ _ _ ⟨.bl _,H,I,rfl,q⟩
theorem uZ (hu:X.A.units+7<cLine):yM X (compareOp .NotEq) (Ya X.K true):=by
 intro pins s σ H x y v u Q I rx ry h
 obtain ⟨d1,d2,k,r1,r2,hk,q⟩:=h
 by_cases hf:(xB d1&&xB d2)=true
 ·have hf':=hf
  rw [Bool.and_eq_true] at hf'
  obtain ⟨a,b⟩:=JR hk hf'.1 hf'.2 r1 r2
  exact DH pins s σ H x y v u Q I rx ry ⟨a,by rw [b]; exact q⟩
 ·obtain ⟨hc,rfl⟩:=Xo hk
  exact (Ux I hu hc hf r1 r2 rx ry).2 _ _ _ _ ⟨.bl _,H,I,rfl,q⟩
theorem yj:vz K (Ya K false) zQ:=fun H x y u v d Q rx ry hf=>by
 obtain ⟨k,hk,hf⟩:=zF hf
 cases hf
 exact ⟨_,rfl,fun q=>⟨x,y,k,rx,ry,hk,q⟩⟩
theorem uX:vz K (Ya K true) xc:=fun H x y u v d Q rx ry hf=>by
 obtain ⟨k,hk,hf⟩:=zF hf
 cases hf
 exact ⟨_,rfl,fun q=>⟨x,y,k,rx,ry,hk,q⟩⟩
end
theorem MJ {K:PySem.W.Frag}:PySem.W.kitOne K (.type "NoneType") (.type "str")=some false/\PySem.W.kitOne K (.type "NoneType") (.type "list")=some false/\PySem.W.kitOne K (.type "NoneType") (.type "tuple")=some false/\
  PySem.W.kitOne K (.type "bool") (.type "str")=some false/\PySem.W.kitOne K (.type "bool") (.type "list")=some false/\PySem.W.kitOne K (.type "bool") (.type "tuple")=some false/\
  PySem.W.kitOne K (.type "int") (.type "str")=some false/\PySem.W.kitOne K (.type "int") (.type "list")=some false/\PySem.W.kitOne K (.type "int") (.type "tuple")=some false:=by refine ⟨?_,?_,?_,?_,?_,?_,?_,?_,?_⟩<;>kernel_rfl
theorem MK {K:PySem.W.Frag}:PySem.W.kitOne K (.type "str") (.type "int")=some false/\PySem.W.kitOne K (.type "str") (.type "bool")=some false/\PySem.W.kitOne K (.type "str") (.type "list")=some false/\PySem.W.kitOne K (.type "str") (.type "tuple")=some false/\
  PySem.W.kitOne K (.type "list") (.type "int")=some false/\PySem.W.kitOne K (.type "list") (.type "bool")=some false/\PySem.W.kitOne K (.type "list") (.type "str")=some false/\PySem.W.kitOne K (.type "list") (.type "tuple")=some false/\PySem.W.kitOne K (.type "list") (.type "list")=some true:=by refine ⟨?_,?_,?_,?_,?_,?_,?_,?_,?_⟩<;>first | kernel_rfl | rfl
theorem ML {K:PySem.W.Frag}:PySem.W.kitOne K (.type "tuple") (.type "int")=some false/\PySem.W.kitOne K (.type "tuple") (.type "bool")=some false/\PySem.W.kitOne K (.type "tuple") (.type "list")=some false/\PySem.W.kitOne K (.type "tuple") (.type "str")=some false:=by refine ⟨?_,?_,?_,?_⟩<;>kernel_rfl
noncomputable def HJ:D->String
 | .non => "NoneType"
 | .bl _ => "bool"
 | .int _ => "int"
 | .str _ => "str"
 | .tup _ => "tuple"
 | .lst _ => "list"
 | .dic _ _ => "dict"
 | .exc _ => "x"
 | .obj _ _ _ => "x"
theorem wQ {K:PySem.W.Frag} {T:vc} {d:D} {b:Bool} (h:vk T d=some b):PySem.W.kitOne K (.type (HJ d)) (.type T.nm)=some b:=by
 obtain ⟨x1,x2,x3,x4,x5,x6,x7,x8,x9⟩:=MJ (K:=K)
 obtain ⟨y1,y2,y3,y4,y5,y6,y7,y8,y9⟩:=MK (K:=K)
 obtain ⟨z1,z2,z3,z4⟩:=ML (K:=K)
 cases T<;>cases d<;>cases h
 all_goals first | exact ME | exact MC | exact MD | exact MB | exact MG | exact MF | exact MI | exact MH | assumption
noncomputable def CB (K:PySem.W.Frag) (T:vc):List V->Hp->VK->Prop:=fun xs H Q=>∃ x d b,xs=[x,.ty T.nm]/\zV K H d x/\vk T d=some b/\Q (.bl b) H
theorem O6 {X:Cx} (T:vc):xV X (.builtin "isinstance") (CB X.K T):=by
 intro pins s σ H xs us Q I r h
 obtain ⟨x,d,b,rfl,rd,e,q⟩:=h
 obtain ⟨u,c,rfl,rx,rc⟩:=jV r
 cases (show c=Value.type T.nm from rc)
 have fin:∀ tk,EP X pins σ Q (.bool b) { s with toks:=tk }:=fun tk=>⟨.bl b,H,I.tok tk,rfl,q⟩
 cases d with
 | non=>cases (show x=_ from rd); exact Y5 I rx .non (wQ (d:=.non) e) fin
 | bl y=>cases (show x=_ from rd); exact Y5 I rx (.bl _) (wQ (d:=.bl y) e) fin
 | int y=>cases (show x=_ from rd); exact Y5 I rx (.int _) (wQ (d:=.int y) e) fin
 | str y=>cases (show x=_/\_ from rd).1; exact Y5 I rx (.str _) (wQ (d:=.str y) e) fin
 | tup ds=>
  obtain ⟨a,vs,rfl,sq,_⟩:=rd
  cases (show u=Value.ref a from rx)
  obtain ⟨its,_,⟨o,h1,h2,_⟩,_⟩:=I.tuple sq
  exact PySem.W.kia_one PySem.W.kitx_tuple I.kIn ⟨o,h1,h2⟩ (wQ (d:=.tup ds) e) (fun z=>nomatch z) fin
 | lst ds=>
  obtain ⟨a,vs,rfl,sq,_⟩:=rd
  cases (show u=Value.ref a from rx)
  obtain ⟨its,_,⟨o,n,h1,h2,_⟩,_⟩:=I.list sq
  exact PySem.W.kia_one PySem.W.kitx_list I.kIn ⟨o,h1,h2⟩ (wQ (d:=.lst ds) e) (fun z=>nomatch z) fin
 | dic ks ds=>cases T<;>cases e
 | exc _=>cases T<;>cases e
 | obj _ _ _=>cases T<;>cases e
theorem wG {X:Cx} {a:Expr} {f:FE} {x:Str} {p p1 pos:Pos} (T:vc) (hg:Gl X "isinstance") (hgT:Gl X x) (hm:X.mg "isinstance" = none) (hmT:X.mg x=none) (hv:bootBuiltins x=some (.type T.nm)) (ha:SB X a f) (hs:yi a=true:=by rfl)
  (hn:x ≠ "__name__" := by decide) (hd:(x == ("__debug__" : Str))=false:=by decide):SE X (.Call (.Name "isinstance" p) [a,.Name x p1] [] pos) (vC T f):=by
 obtain ⟨t,pt,k⟩:=ha.h
 refine ⟨⟨_,(gP (O6 T) hg hm UQ (qI ⟨pt⟩ (qI (Wx hgT hmT hv hn hd) gN rfl) hs) (by decide) (by decide) (by rw [List.all_cons,hs]; rfl)).h,fun {G0 H0 G H τ σ d Q} E hf q=>?_⟩⟩
 obtain ⟨z,hz,hf⟩:=zF hf
 obtain ⟨b,hb,hf⟩:=zF hf
 cases hf
 exact k E hz fun v G' H' x r=>⟨v,z,b,rfl,r,hb,q _ _ _ x rfl⟩
end L3
namespace L3
open PySem
theorem Vd {c:FT} {b:FS}:∀ {n:Nat} {σ:zp} {fl:Fl} (k:Nat),v6 c b n σ=some fl->v6 c b (n+k) σ=some fl
 | 0,_,_,_,h=>by cases h
 | n+1,σ,fl,k,h=>by
  rw [Nat.succ_add]
  unfold v6 at h ⊢
  cases hc:c σ with
  | none=>rw [hc] at h; cases h
  | some kk=>
   rw [hc] at h
   cases kk with
   | false=>exact h
   | true=>
    change (b σ).bind _=_ at h
    show (b σ).bind _=_
    cases hb:b σ with
    | none=>rw [hb] at h; cases h
    | some f=>
     rw [hb] at h
     cases f with
     | nx τ=>exact Vd k h
     | ct τ=>exact Vd k h
     | bk τ=>exact h
     | rt o d=>exact h
theorem JI {c:FT} {b:FS} {σ:zp} {fl:Fl} (n:Nat) (h:v6 c b n σ=some fl) (hn:n<=Z8:=by decide):Yk c b σ=some fl:=by
 have e:=Vd (Z8 - n) h
 rw [Nat.add_sub_of_le hn] at e
 exact e
theorem HR {c:FT} {b:FS} {σ σ':zp} {n:Nat} (hc:c σ=some true) (hb:b σ=some (.nx σ')):v6 c b (n+1) σ=v6 c b n σ':=by
 show (c σ).bind _=_
 rw [hc]
 show (b σ).bind _=_
 rw [hb]
 rfl
theorem HQ {c:FT} {b:FS} {σ:zp} {n:Nat} (hc:c σ=some false):v6 c b (n+1) σ=some (.nx σ):=by
 show (c σ).bind _=_
 rw [hc]
 rfl
theorem qF {g:FG} {b:FS} (P:Nat->zp->Prop):∀ {ds:List D} {σ:zp} (n:Nat),P n σ->(∀ i d σ,ds[i]?=some d->P (n+i) σ->∃ σ1 σ2,g d σ=some σ1/\(b σ1=some (.nx σ2)\/b σ1=some (.ct σ2))/\P (n+i+1) σ2)->
  ∃ σ',qE g b ds σ=some (.nx σ')/\P (n+ds.length) σ'
 | [],σ,n,h,_=>⟨σ,rfl,h⟩
 | d::ds,σ,n,h,step=>by
  obtain ⟨σ1,σ2,e1,e2,p2⟩:=step 0 d σ rfl h
  obtain ⟨σ',e3,p3⟩:=qF P (ds:=ds) (σ:=σ2) (n+1) p2 fun i d' τ hd hp=>by
   obtain ⟨a,b',c1,c2,c3⟩:=step (i+1) d' τ (by simpa using hd) (by rw [show n+(i+1)=n+1+i by omega]; exact hp)
   exact ⟨a,b',c1,c2,by rw [show n+1+i+1=n+(i+1)+1 by omega]; exact c3⟩
  refine ⟨σ',?_,by rw [List.length_cons,show n+(ds.length+1)=n+1+ds.length by omega]; exact p3⟩
  show (g d σ).bind _=_
  rw [e1]
  show (b σ1).bind _=_
  rcases e2 with e2 | e2
  ·rw [e2]; exact e3
  ·rw [e2]; exact e3
theorem xT {a b:FS} {σ σ':zp} (h:a σ=some (.nx σ')):zG a b σ=b σ':=by
 show (a σ).bind _=_
 rw [h]
 rfl
theorem Lf {c:FT} {a b:FS} {σ:zp} (h:c σ=some true):zl c a b σ=a σ:=by
 show (c σ).bind _=_
 rw [h]
 rfl
noncomputable abbrev xQ (j:Nat):List D:=(List.range j).map fun k:Nat=>D.int k
theorem qJ {f:FE} {τ:zp} {n:Int} (h:f τ=some (.int n)) (h1:n.natAbs<=1000000):wP (eC (.int 0)) f τ=some (xQ n.toNat):=by
 unfold wP
 rw [h]
 show (if (0:Int).natAbs<=yO/\n.natAbs<=yO/\(n - 0).toNat<=yO then _ else _)=_
 rw [if_pos ⟨by decide,by show _<=16777216; omega,by show _<=16777216; omega⟩,Int.sub_zero]
 simp only [Int.zero_add]
end L3
namespace L3
noncomputable def shx:=
 And.intro zZ.eq_1 <| And.intro zG.eq_1 <| And.intro ze.eq_1 <| And.intro uc.eq_1 <| And.intro zk.eq_1 <| And.intro vo.eq_1 <| And.intro qK.eq_1 <| And.intro zl.eq_1 <| And.intro zn.eq_1 <| And.intro gR.eq_1 <|
 And.intro EH.eq_1 <| And.intro ub.eq_1 <| And.intro tH.eq_1 <| And.intro qE.eq_1 <| And.intro qE.eq_2 <| And.intro e1.eq_1 <| And.intro e2.eq_1 <| And.intro eL.eq_1 <| And.intro eC.eq_1 <| And.intro z6.eq_1 <| And.intro uz.eq_1 <|
 And.intro z8.eq_1 <| And.intro zC.eq_1 <| And.intro tE.eq_1 <| And.intro pP.eq_def <| And.intro ug.eq_1 <| And.intro v4.eq_1 <| And.intro v3.eq_1 <| And.intro tw.eq_1 <| And.intro Oj.eq_1 <| And.intro Xi.eq_1 <| And.intro tz.eq_1 <|
 And.intro vP.eq_1 <| And.intro yn.eq_1 <| And.intro vC.eq_1 <| And.intro vk.eq_def <| And.intro fI.eq_def <| And.intro jv.eq_def <| And.intro u4.eq_def <| And.intro pZ.eq_1 <| And.intro Zv.eq_1 <| And.intro wt.eq_1 <| And.intro ql.eq_1 <|
 And.intro Os.eq_1 <| And.intro Xv.eq_1 <| And.intro Ot.eq_1 <| And.intro Xn.eq_def <| And.intro t_.eq_def <| And.intro ye.eq_def <| And.intro Op.eq_def <| And.intro pY.eq_def <| And.intro qo.eq_def <| And.intro qC.eq_def <|
 And.intro za.eq_1 <| And.intro xG.eq_1 <| And.intro xl.eq_1 <| And.intro zS.eq_1 <| And.intro Zo.eq_1 <| And.intro yT.eq_1 <|
 And.intro @Option.bind_some.{0,0} <| And.intro @Option.bind_none.{0,0} <| And.intro @List.getElem?_cons_zero.{0} <| And.intro @List.getElem?_cons_succ.{0} <| And.intro @List.set_cons_zero.{0} <| And.intro @List.set_cons_succ.{0} <| And.intro @List.map_cons.{0,0} <| And.intro @List.map_nil.{0,0} <|
 And.intro @List.cons_append.{0} <| And.intro @List.nil_append.{0} <| And.intro @List.length_cons.{0} <| And.intro @List.length_nil.{0} <| And.intro @List.replicate_zero.{0} <| And.intro @List.replicate_succ.{0} <| And.intro Bool.not_true <| And.intro Bool.not_false <|
 And.intro @decide_true <| And.intro @decide_false <| And.intro Bool.and_self <| And.intro Bool.and_true Bool.true_and
end L3
namespace L3
open PySem PySem.Spec PyProof.Rows L2
section
variable {α:Type}
theorem IN:∀ {ks:List Key} {vs:List α} (k:Key),ks.length=vs.length->((ks.zip vs).any fun kv=>decide (kv.1=k))=z_ ks k
 | [],[],_,_=>rfl
 | k'::ks,v::vs,k,h=>by
  have ih:=IN (ks:=ks) (vs:=vs) k (by simpa using h)
  show (decide (k'=k)||((ks.zip vs).any fun kv=>decide (kv.1=k)))=(decide (k'=k)||z_ ks k)
  rw [ih]
theorem Z6:∀ {ks:List Key} {vs:List V} (k:Key),ks.length=vs.length->wM (ks.zip vs) k=getK ks vs k
 | [],[],_,_=>rfl
 | k'::ks,v::vs,k,h=>by
  have ih:=Z6 (ks:=ks) (vs:=vs) k (by simpa using h)
  by_cases e:k'=k
  ·rw [List.zip_cons_cons,qR (p:=(k',v)) e]
   show _=(if k'=k then some v else _)
   rw [if_pos e]
  ·rw [List.zip_cons_cons,qQ (p:=(k',v)) e,ih]
   show _=(if k'=k then some v else _)
   rw [if_neg e]
theorem IR:∀ {ks:List Key} {vs:List V} (k:Key) (v:V),ks.length=vs.length->((ks.zip vs).map fun kv=>if kv.1=k then (kv.1,v) else kv)=ks.zip (List.zipWith (fun k' x=>if k'=k then v else x) ks vs)
 | [],[],_,_,_=>rfl
 | k'::ks,u::vs,k,v,h=>by
  have ih:=IR (ks:=ks) (vs:=vs) k v (by simpa using h)
  rw [List.zip_cons_cons,List.map_cons,ih,List.zipWith_cons_cons,List.zip_cons_cons]
  by_cases e:k'=k
  ·rw [if_pos e,if_pos e]
  ·rw [if_neg e,if_neg e]
theorem IS {ks:List Key} {vs:List V} {k:Key} {v:V} (h:ks.length=vs.length):wD (ks.zip vs) k v=(xZ ks k).zip (xf ks vs k v):=by
 unfold wD xZ xf
 rw [IN k h]
 by_cases c:z_ ks k=true
 ·rw [if_pos c,if_pos c,if_pos c,IR k v h]
 ·rw [if_neg c,if_neg c,if_neg c,List.zip_append h]
  rfl
theorem qH {ks:List Key} {vs:List α} {k:Key} {v:α} (h:ks.length=vs.length):(xZ ks k).length=(xf ks vs k v).length:=by
 unfold xZ xf
 split
 ·rw [List.length_zipWith,h,Nat.min_self]
 ·rw [List.length_append,List.length_append,h]
  rfl
theorem Qr {ks:List Key} {vs:List α} {k:Key} {v:α} (h:ks.length=vs.length):(xf ks vs k v).length<=vs.length+1:=by
 unfold xf
 split
 ·rw [List.length_zipWith,h,Nat.min_self]
  exact Nat.le_succ _
 ·rw [List.length_append]
  exact Nat.le_refl _
end
section
variable {K:PySem.W.Frag} {G H:Hp}
theorem Reps.getK:∀ {ks:List Key} {ds:List D} {vs:List V} {k:Key} {d:D},Reps K H ds vs->getK ks ds k=some d->∃ v,getK ks vs k=some v/\zV K H d v
 | [],_,_,_,_,_,e=>by cases e
 | _::_,[],_,_,_,_,e=>by cases e
 | k'::ks,d'::ds,_,k,d,r,e=>by
  obtain ⟨v,r',rfl,hv,hr⟩:=r
  change (if k'=k then some d' else L3.getK ks ds k)=some d at e
  by_cases c:k'=k
  ·rw [if_pos c] at e
   cases e
   exact ⟨v,by show (if k'=k then some v else _)=_; rw [if_pos c],hv⟩
  ·rw [if_neg c] at e
   obtain ⟨u,hu,ru⟩:=Reps.getK hr e
   exact ⟨u,by show (if k'=k then some v else _)=_; rw [if_neg c]; exact hu,ru⟩
theorem Zx {α:Type}:∀ {ks:List Key} {vs:List α} (k:Key),ks.length=vs.length->(getK ks vs k).isSome=z_ ks k
 | [],[],_,_=>rfl
 | k'::ks,v::vs,k,h=>by
  have ih:=Zx (ks:=ks) (vs:=vs) k (by simpa using h)
  show (if k'=k then some v else getK ks vs k).isSome=(decide (k'=k)||_)
  by_cases c:k'=k
  ·rw [if_pos c,decide_eq_true c]; rfl
  ·rw [if_neg c,decide_eq_false c,ih]; rfl
theorem Reps.zipW {k:Key} {d:D} {v:V} (hv:zV K H d v):∀ {ks:List Key} {ds:List D} {vs:List V},Reps K H ds vs->Reps K H (List.zipWith (fun k' x=>if k'=k then d else x) ks ds) (List.zipWith (fun k' x=>if k'=k then v else x) ks vs)
 | [],_,_,_=>rfl
 | _::_,[],_,r=>by cases (show _=[] from r); rfl
 | k'::ks,d'::ds,_,r=>by
  obtain ⟨u,r',rfl,hu,hr⟩:=r
  refine ⟨_,_,rfl,?_,Reps.zipW hv hr⟩
  show zV K H (if k'=k then d else d') (if k'=k then v else u)
  by_cases c:k'=k
  ·rw [if_pos c,if_pos c]; exact hv
  ·rw [if_neg c,if_neg c]; exact hu
theorem Reps.put {ks:List Key} {ds:List D} {vs:List V} {k:Key} {d:D} {v:V} (r:Reps K H ds vs) (hv:zV K H d v):Reps K H (xf ks ds k d) (xf ks vs k v):=by
 unfold xf
 split
 ·exact Reps.zipW hv r
 ·exact r.append (Reps.one hv)
theorem j3 {x:D} {k:Key} {u:V} (h:vT x=some k) (r:zV K H x u):u=kV k:=by
 cases x<;>first | (cases h; done) | skip
 ·cases h; exact r
 ·cases h; exact (show u=_/\_ from r).1
end
section
variable {X:Cx} {K:PySem.W.Frag}
noncomputable def J1:R2:=fun x y H Q=>∃ a kvs k v,x=.ref a/\y=kV k/\Rd H a (.dK kvs)/\wM kvs k=some v/\Q v H
theorem Lw:vN X J1:=by
 intro value slice pins s σ H x y v u Q I rx ry h hs
 obtain ⟨a,kvs,k,z,rfl,rfl,e,l,q⟩:=h
 cases rx
 obtain ⟨_,_,vs,rel,dd⟩:=jp I.hok e
 obtain ⟨w',hw,rw'⟩:=v_.some_of (v:=z) (o:=valueAt vs k) (by rw [<- l]; exact rel.val k)
 exact subscriptTail_builtinR (x:=w') (Oe I (.inl ⟨kvs,k,e,rfl,rfl⟩)) PySem.F.slot_dict_getitem.lookup
  (wpAny_getItem_of (Q:=fun r s'=>r=w'/\EP X pins σ Q r s') (uT ry) dd.mapOf hw ⟨rfl,z,H,I.tok _,rw',q⟩) hs
noncomputable def J0 (K:PySem.W.Frag):R2:=fun x y H Q=>W_ K x y H Q\/J1 x y H Q
theorem yA (_:X.A.units+1<cLine):vN X (J0 X.K):=Ly.or Lw
theorem yB:wg K (J0 K) zM:=fun G H x y u v d Q s rx ry hf q=>by
 cases x with
 | dic ks ds=>
  obtain ⟨a,vs,rfl,sq,l,rs,_⟩:=rx
  obtain ⟨k,hk,hf⟩:=zF hf
  obtain ⟨z,hz,rz⟩:=rs.getK hf
  exact .inr ⟨a,_,k,z,rfl,j3 hk ry,Rd.mono s sq,by rw [Z6 k l]; exact hz,q _ _ _ (zK.refl s) rz⟩
 | non=>cases hf
 | bl b=>cases hf
 | int b=>cases hf
 | str z=>exact .inl (Wb G H (.str z) y u v d Q s rx ry (by cases y<;>exact hf) q)
 | tup z=>exact .inl (Wb G H (.tup z) y u v d Q s rx ry (by cases y<;>exact hf) q)
 | lst z=>exact .inl (Wb G H (.lst z) y u v d Q s rx ry (by cases y<;>exact hf) q)
 | exc z=>cases hf
 | obj z _ _=>cases hf
noncomputable def Wz (neg:Bool):R2:=fun x y H Q=>∃ a kvs k,y=.ref a/\x=kV k/\Rd H a (.dK kvs)/\Q (.bl (if neg then !(wM kvs k).isSome else (wM kvs k).isSome)) H
theorem DA (hu:X.A.units+1<cLine):yM X (compareOp .In) (Wz false):=by
 intro pins s σ H x y v u Q I rx ry h
 obtain ⟨a,kvs,k,rfl,rfl,e,q⟩:=h
 cases ry
 exact OX hu I (.inl ⟨kvs,k,e,rfl,rfl⟩) rx fun s' I'=>⟨.bl _,H,I',rfl,q⟩
theorem DJ (hu:X.A.units+1<cLine):yM X (compareOp .NotIn) (Wz true):=by
 intro pins s σ H x y v u Q I rx ry h
 obtain ⟨a,kvs,k,rfl,rfl,e,q⟩:=h
 cases ry
 exact OY hu I (.inl ⟨kvs,k,e,rfl,rfl⟩) rx fun s' I'=>⟨.bl _,H,I',rfl,q⟩
noncomputable def tF (K:PySem.W.Frag) (neg:Bool):R2:=fun x y H Q=>Wy K neg x y H Q\/(∃ i j,x=.str i/\y=.str j/\Q (.bl (if neg then !(!(Builtin.Str.occurrences j i 0 j.length 1).isEmpty) else !(Builtin.Str.occurrences j i 0 j.length 1).isEmpty)) H)\/Wz neg x y H Q
theorem wv (hu:X.A.units+1<cLine):yM X (compareOp .In) (tF X.K false):=DD.or (DE.or (DA hu))
theorem Wi (hu:X.A.units+1<cLine):yM X (compareOp .NotIn) (tF X.K true):=DK.or (DL.or (DJ hu))
theorem V4 {H:Hp} {x:D} {u:V} (hx:xB x=true) (rx:zV K H x u):∀ {ys:List D} {vs:List V},Reps K H ys vs->ys.all xB=true->vs.all u5=true/\Y4 u vs=ys.any fun y=>zg y x
 | [],_,r,_=>by cases (show _=[] from r); exact ⟨rfl,rfl⟩
 | y::ys,_,r,h=>by
  obtain ⟨v,r',rfl,hv,hr⟩:=r
  rw [List.all_cons,Bool.and_eq_true] at h
  obtain ⟨a,b⟩:=V4 hx rx hr h.2
  refine ⟨by rw [List.all_cons,jG h.1 hv,a]; rfl,?_⟩
  show (vg v u||Y4 u r')=(zg y x||_)
  rw [V3 h.1 hx hv rx,b]
theorem TK {neg:Bool} {H:Hp} {x y:D} {u v:V} {k:Bool} {Q:VK} (rx:zV K H x u) (ry:zV K H y v) (hf:pX x y=some k) (q:Q (.bl (if neg then !k else k)) H):tF K neg u v H Q:=by
 cases y with
 | lst ys=>
  obtain ⟨a,vs,rfl,sq,rs,_⟩:=ry
  change (match xB x&&ys.all xB with | true=>some (ys.any fun y=>zg y x) | false=>none)=some k at hf
  cases c:(xB x&&ys.all xB) with
  | false=>rw [c] at hf; cases hf
  | true=>
   rw [c] at hf
   cases hf
   rw [Bool.and_eq_true] at c
   obtain ⟨c1,c2⟩:=V4 c.1 rx rs c.2
   exact .inl ⟨a,vs,rfl,.inl sq,jG c.1 rx,c1,by rw [c2]; exact q⟩
 | tup ys=>
  obtain ⟨a,vs,rfl,sq,rs,_⟩:=ry
  change (match xB x&&ys.all xB with | true=>some (ys.any fun y=>zg y x) | false=>none)=some k at hf
  cases c:(xB x&&ys.all xB) with
  | false=>rw [c] at hf; cases hf
  | true=>
   rw [c] at hf
   cases hf
   rw [Bool.and_eq_true] at c
   obtain ⟨c1,c2⟩:=V4 c.1 rx rs c.2
   exact .inl ⟨a,vs,rfl,.inr sq,jG c.1 rx,c1,by rw [c2]; exact q⟩
 | str j=>
  cases x<;>first | (cases hf; done) | skip
  rename_i i
  cases hf
  exact .inr (.inl ⟨i,j,(show u=_/\_ from rx).1,(show v=_/\_ from ry).1,q⟩)
 | dic ks ds=>
  obtain ⟨kk,hk,hf⟩:=zF hf
  cases hf
  obtain ⟨a,vs,rfl,sq,l,rs,_⟩:=ry
  refine .inr (.inr ⟨a,_,kk,rfl,j3 hk rx,sq,?_⟩)
  rw [Z6 kk l,Zx kk l]
  exact q
 | _=>cases hf
theorem wu:vz K (tF K false) xK:=fun H x y u v d Q rx ry hf=>by
 obtain ⟨k,hk,hf⟩:=zF hf
 cases hf
 exact ⟨_,rfl,fun q=>TK rx ry hk q⟩
theorem Wc:vz K (tF K true) qm:=fun H x y u v d Q rx ry hf=>by
 obtain ⟨k,hk,hf⟩:=zF hf
 cases hf
 exact ⟨_,rfl,fun q=>TK rx ry hk q⟩
theorem VI {pos:Pos}:SF X (.Dict [] [] pos) (eC (.dic [] [])):=⟨⟨_,Dg,fun {G0 H0 G H τ σ d Q} E hf q p hp=>by
 cases hf
 exact q p G _ (zK.layO E.ext.gh hp) hp (E.ext.gh.free hp) ⟨[],yz,rfl,rfl,Nat.zero_le _⟩⟩⟩
theorem VP {i:Nat} {x:Str} {xp pos pos':Pos} {k v:Expr} {fk fv:FE} (hu:X.A.units+1<cLine) (ho:QE X (.Name x xp) (k_ i)) (hk:SE X k fk) (hv:SE X v fv) (hs:swapsWith v (some (.Subscript (.Name x xp) k pos')) pos.line X.env=pure false:=by rfl) :
  SS X (.Assign [.Subscript (.Name x xp) k pos'] v pos) (p5 i fk fv):=by
 obtain ⟨tk,pk,kk⟩:=hk.h
 obtain ⟨tv,pv,kv⟩:=hv.h
 refine ⟨⟨_,Fc hu ho.h pk pv hs,fun {G0 H0 G H τ σ fl E} K hf q=>?_⟩⟩
 obtain ⟨y,hy,hf⟩:=zF hf
 refine kv K hy fun w G1 H1 x1 r1=>?_
 split at hf
 ·rename_i ks ds hd
  obtain ⟨xk,hx,hf⟩:=zF hf
  obtain ⟨key,hkey,hf⟩:=zF hf
  by_cases c:ks.length<yO
  ·rw [if_pos c] at hf
   cases hf
   have K1:=K.go x1
   obtain ⟨a,ea,g,z,vs,ev,l,rs,hl⟩:=K1.ow _ _ hd
   refine ⟨_,ea,kk K1 hx fun u G2 H2 x2 r2=>⟨a,_,rfl,.inl ⟨_,key,x2.h _ _ ev,j3 hkey r2,?_,rfl⟩,?_⟩⟩
   ·rw [List.length_zip,l,Nat.min_self,sizeLine_eq,<- l]; exact c
   ·refine q _ _ _ ((K1.go x2).mut hd ea ⟨xf ks vs key w,?_,qH l,(rs.mono x2.g).put (r1.mono x2.g),?_⟩)
    ·rw [yz,IS l]
    ·have h1:=Qr (ks:=ks) (vs:=ds) (k:=key) (v:=y) (by rw [l,rs.length])
     have h2:ds.length<16777216:=by rw [<- rs.length,<- l]; exact c
     rw [sizeLine_eq]
     omega
  ·rw [if_neg c] at hf
   cases hf
 ·cases hf
noncomputable def vM (K:PySem.W.Frag) (w:World) (a:Addr) (ks:List Key) (ds:List D):Prop:=
 ∃ us:List V,ks.length=us.length/\(a == sysModules)=false/\(∀ H,Reps K H ds us)/\∀ (P:Program) (h:Heap),K.In h->∃ vs,KV (ks.zip us) vs/\h.DictOf (yh P w) a vs
inductive uh (w:World):List DictEntry->List Str->List Value->Prop
 | nil:uh w [] [] []
 | cons {x:Str} {t:Tok} {v:Value} {es:List DictEntry} {xs:List Str} {vs:List Value} (r:uh w es xs vs):uh w (⟨PyData.keyHash w.params x,.str x t,v⟩::es) (x::xs) (v::vs)
theorem uh.pairs {w:World} {P:Program}:∀ {es:List DictEntry} {xs:List Str} {vs:List Value},uh w es xs vs->Pairs (yh P w) es ((xs.map Sum.inr).zip vs)/\(∀ e∈es,∃ k,(yh P w).is k e.key=true/\e.hash=(yh P w).hash k)
 | _,_,_,.nil=>⟨.nil,fun e h=>absurd h (by simp)⟩
 | _,_,_,.cons (x:=x) (t:=t) r=>by
  obtain ⟨a,b⟩:=uh.pairs (P:=P) r
  refine ⟨.cons (WV P w x t) rfl a,fun e h=>?_⟩
  rcases List.mem_cons.mp h with rfl | h
  ·exact ⟨.inr x,WV P w x t,rfl⟩
  ·exact b e h
theorem uh.len {w:World}:∀ {es:List DictEntry} {xs:List Str} {vs:List Value},uh w es xs vs->xs.length=vs.length
 | _,_,_,.nil=>rfl
 | _,_,_,.cons r=>by rw [List.length_cons,List.length_cons,r.len]
theorem Tk:∀ {ks:List Key} {us:List V} {vs:List Value},zf us vs->ks.length=us.length->KV (ks.zip us) (ks.zip vs)
 | [],_,_,.nil,_=>.nil
 | k::ks,_,_,.cons r t,h=>.cons ⟨rfl,r⟩ (Tk t (by simpa using h))
theorem IP:∀ {ks:List Key} {vs:List Value},ks.length=vs.length->(ks.zip vs).map (·.1)=ks
 | [],[],_=>rfl
 | k::ks,v::vs,h=>by rw [List.zip_cons_cons,List.map_cons,IP (by simpa using h)]
theorem Xz {w:World} {a:Addr} {es:List DictEntry} {n:Nat} {xs:List Str} {vs:List Value} {us:List V} {ds:List D} (l:K.lookup a=some { cls:=.type "dict",data:=.dict es.toArray n }) (e:uh w es xs vs) (nd:xs.Nodup) (hs:(a == sysModules)=false) (r:zf us vs) (rd:∀ H,Reps K H ds us) :
  vM K w a (xs.map .inr) ds:=by
 have hl:(xs.map Sum.inr:List Key).length=us.length:=by rw [List.length_map,e.len,r.length]
 refine ⟨us,hl,hs,rd,fun P h KI=>⟨_,Tk r hl,?_⟩⟩
 obtain ⟨p,q⟩:=e.pairs (P:=P)
 refine ⟨_,_,_,KI _ _ l,⟨rfl,rfl,rfl⟩,rfl,fun e he=>q e (by simpa using he),p,?_⟩
 rw [IP (by rw [List.length_map]; exact e.len)]
 exact List.Pairwise.map _ (fun a b h z=>h (Sum.inr.inj z)) nd
theorem L1 {A:Addr} {ks:List Key} {ds:List D} (g:vM X.K X.w A ks ds):vN X (fun x y H Q=>x=.ref A/\∃ k,y=kV k/\∃ d,getK ks ds k=some d/\∀ v,(∀ H,∃ H',yD H H'/\True)->(∀ H,zV X.K H d v)->Q v H):=by
 intro value slice pins s σ H x y v u Q I rx ry h hs
 obtain ⟨rfl,k,rfl,d,hd,q⟩:=h
 cases rx
 obtain ⟨us,hl,hsys,rd,mk⟩:=g
 obtain ⟨vs,rel,dd⟩:=mk X.prog s.heap I.kIn
 obtain ⟨z,hz,_⟩:=(rd H).getK hd
 have rz:∀ H,zV X.K H d z:=fun H'=>by
  obtain ⟨z',hz',r'⟩:=(rd H').getK hd
  rw [hz] at hz'
  cases hz'
  exact r'
 obtain ⟨w',hw,rw'⟩:=v_.some_of (v:=z) (o:=valueAt vs k) (by rw [<- hz,<- Z6 k hl]; exact rel.val k)
 exact subscriptTail_builtinR (x:=w') dd.typeIs PySem.F.slot_dict_getitem.lookup
  (wpAny_getItem_of (Q:=fun r s'=>r=w'/\EP X pins σ Q r s') (uT ry) dd.mapOf hw ⟨rfl,z,H,I.tok _,rw',q z (fun H=>⟨H,yD.refl H,trivial⟩) rz⟩) hs
theorem kf {A:Addr} {ks:List Key} {ds:List D} {x:Str} {p pos:Pos} {b:Expr} {fb:FE} (h:xi X.mg x (.ref A)) (g:vM X.K X.w A ks ds) (hg:Gl X x) (hb:SE X b fb) (hs:Wo b=true:=by rfl) (hd:(x == ("__debug__" : Str))=false:=by decide) :
  SE X (.Subscript (.Name x p) b pos) (e1 (vD ks ds) fb):=by
 obtain ⟨tb,pb,kb⟩:=hb.h
 refine ⟨⟨_,QV (L1 g) (Wm h hg hd) pb (Wp hs),fun {G0 H0 G H τ σ d Q} E hf q=>?_⟩⟩
 obtain ⟨y,hy,hf⟩:=zF hf
 obtain ⟨k,hk,hf⟩:=zF hf
 exact kb E hy fun u G2 H2 x2 r2=>⟨rfl,k,j3 hk r2,d,hf,fun v _ rv=>q v _ _ x2 (rv _)⟩
theorem L4 {A:Addr} {ks:List Key} {ds:List D} (g:vM X.K X.w A ks ds):yM X (compareOp .NotIn) (fun x y H Q=>y=.ref A/\∃ k,x=kV k/\Q (.bl (!z_ ks k)) H):=by
 intro pins s σ H x y v u Q I rx ry h
 obtain ⟨rfl,k,rfl,q⟩:=h
 cases ry
 obtain ⟨us,hl,hsys,rd,mk⟩:=g
 obtain ⟨vs,rel,dd⟩:=mk X.prog s.heap I.kIn
 refine wpAny_notIn_of (uT rx) hsys dd.mapOf ?_
 rw [<- (rel.val k).isSome_eq,Z6 k hl,Zx k hl]
 exact ⟨.bl _,H,I.tok _,rfl,q⟩
end
end L3
namespace L3
open PySem PySem.Spec PyProof.Rows L2
noncomputable def vv:D->Option (List D)
 | .lst xs=>some xs
 | .tup xs=>some xs
 | _=>none
noncomputable def vS (a b:FE):FA:=fun σ=>(a σ).bind fun x=>(b σ).bind fun y=>(vv x).bind fun xs=>(vv y).bind fun ys=>some (List.zipWith (fun x y=>D.tup [x,y]) xs ys)
section
variable {K:PySem.W.Frag} {G H:Hp}
theorem JU {x:D} {xs:List D} {u:V} (h:vv x=some xs) (r:zV K G x u):∃ t a vs,u=.ref a/\wX K t G a vs/\Reps K G xs vs/\xs.length<=sizeLine:=by
 cases x<;>first | (cases h; done) | skip
 ·cases h
  obtain ⟨a,vs,rfl,sq,rs,l⟩:=r
  exact ⟨true,a,vs,rfl,sq,rs,l⟩
 ·cases h
  obtain ⟨a,vs,rfl,sq,rs,l⟩:=r
  exact ⟨false,a,vs,rfl,sq,rs,l⟩
theorem qO {H':Hp} {t:Bool} {a:Addr} {vs:List V} (s:yD H H') (h:wX K t H a vs):wX K t H' a vs:=by
 cases t
 ·exact wL s h
 ·exact wc s h
theorem Hc {t1 t2:Bool} {a b:Addr} {vs us:List V} {xs ys:List D} (s1:wX K t1 G a vs) (s2:wX K t2 G b us) (r1:Reps K G xs vs) (r2:Reps K G ys us):tY K (XE K t1 t2 a b) G (List.zipWith (fun x y=>D.tup [x,y]) xs ys) where
 go:=fun i G2 H g1 g2 hi=>by
  rw [List.length_zipWith] at hi
  obtain ⟨v,e1,_⟩:=r1.get (List.getElem?_eq_getElem (show i<xs.length by omega))
  obtain ⟨u,e2,_⟩:=r2.get (List.getElem?_eq_getElem (show i<ys.length by omega))
  exact ⟨vs,us,v,u,qO (g1.trans g2) s1,qO (g1.trans g2) s2,e1,e2⟩
 yld:=fun i G2 H x H' g1 g2 hi y=>by
  obtain ⟨p,hp,rfl,k⟩:=y
  obtain ⟨v,u,e1,e2,rfl⟩:=k vs us (qO (g1.trans g2) s1) (qO (g1.trans g2) s2)
  obtain ⟨d1,f1,q1⟩:=r1.at e1
  obtain ⟨d2,f2,q2⟩:=r2.at e2
  refine ⟨zX G2 p (.tup [v,u]),.tup [d1,d2],zK.lay g2 hp,by rw [List.getElem?_zipWith,f1,f2],?_⟩
  have sm:yD G (zX G2 p (.tup [v,u])):=g1.trans (wE (g2.free hp) _)
  exact ⟨p,[v,u],rfl,yR.of yz,⟨v,_,rfl,q1.mono sm,⟨u,_,rfl,q2.mono sm,rfl⟩⟩,zU (n:=2) (by decide)⟩
 stop:=fun i G2 H g1 g2 hi=>by
  rw [List.length_zipWith] at hi
  refine ⟨vs,us,qO (g1.trans g2) s1,qO (g1.trans g2) s2,?_⟩
  rw [r1.length,r2.length]
  omega
end
section
variable {X:Cx} {a b e o:Expr} {fa fb f:FE} {p pos apos cpos:Pos}
theorem VM {elts:List Expr} {kk:Nat} {tp:Pos} (hg:Gl X "zip") (hm:X.mg "zip" = none) (ha:SE X a fa) (hb:SE X b fb) (hs:yi a=true:=by rfl) (hs2:yi b=true:=by rfl):SI X (.Tuple elts kk tp) (.Call (.Name "zip" p) [a,b] [] pos) (vS fa fb):=by
 obtain ⟨t,pt,k⟩:=(zA ha (zA hb zE hs2) hs).h
 refine ⟨⟨_,(C4 hg hm ⟨pt⟩ hs hs2).h,fun {G0 H0 G H τ σ ds R} K hf q=>?_⟩⟩
 obtain ⟨x,hx,hf⟩:=zF hf
 obtain ⟨y,hy,hf⟩:=zF hf
 obtain ⟨xs,hxs,hf⟩:=zF hf
 obtain ⟨ys,hys,hf⟩:=zF hf
 cases hf
 refine k K (ds:=[x,y]) (by unfold z8; rw [hx,hy]; rfl) fun vs G1 H1 x1 r1=>?_
 obtain ⟨v,r,rfl,hv,⟨v2,r2,rfl,hv2,hr⟩⟩:=r1
 cases (show r2=[] from hr)
 obtain ⟨t1,a1,vs1,rfl,s1,q1,l1⟩:=JU hxs hv
 obtain ⟨t2,a2,vs2,rfl,s2,q2,l2⟩:=JU hys hv2
 refine ⟨a1,a2,vs1,vs2,t1,t2,rfl,qO x1.gh s1,qO x1.gh s2,q _ _ _ x1 ?_ (Hc s1 s2 q1 q2)⟩
 rw [List.length_zipWith]
 omega
noncomputable abbrev FO:=zp->Option (Option Int)
noncomputable def xn:FO:=fun _=>some none
noncomputable def yt (f:FE):FO:=fun σ=>(f σ).bind fun d=>match d with
 | .int i=>some (some i)
 | _=>none
noncomputable def xo {α:Type} (xs:List α) (lo hi:Option Int):List α:=(xs.drop (HT.sIx xs.length 0 lo)).take (HT.sIx xs.length xs.length hi - HT.sIx xs.length 0 lo)
noncomputable def vE (d:D) (lo hi:Option Int):Option D:=match d with
 | .lst xs=>some (.lst (xo xs lo hi))
 | .tup xs=>if HT.sIx xs.length 0 lo=0/\HT.sIx xs.length xs.length hi=xs.length then none else some (.tup (xo xs lo hi))
 | .str z=>some (.str (cutS z lo hi))
 | _=>none
noncomputable def xM (a:FE) (lo hi:FO):FE:=fun σ=>(a σ).bind fun d=>(lo σ).bind fun l=>(hi σ).bind fun h=>vE d l h
structure SO (X:Cx) (e:Option Expr) (f:FO):Prop where
 h:∃ t,PO X e t/\∀ {G0 H0 G H:Hp} {τ:zp} {σ:St} {d:Option Int} {Q:Option Int->Hp->Prop},zo X.K X.N.length G0 H0 G H τ σ->f τ=some d->(∀ G' H',zK G H G' H'->Q d H')->t σ H Q
theorem qN:SO X none xn:=⟨⟨_,FU,fun E hf q=>by cases hf; exact q _ _ (zK.refl E.ext.gh)⟩⟩
theorem vw (h:SE X e f):SO X (some e) (yt f):=by
 obtain ⟨t,pt,k⟩:=h.h
 refine ⟨⟨_,FV pt,fun {G0 H0 G H τ σ d Q} E hf q=>?_⟩⟩
 obtain ⟨x,hx,hf⟩:=zF hf
 cases x<;>first | (cases hf; done) | skip
 cases hf
 exact k E hx fun v G' H' x r=>⟨_,r,q _ _ x⟩
theorem Reps.cut {K:PySem.W.Frag} {G:Hp} {ds:List D} {vs:List V} (r:Reps K G ds vs) (lo hi:Option Int):Reps K G (xo ds lo hi) (tu vs lo hi):=by
 unfold xo tu
 rw [r.length]
 exact (r.drop _).take _
theorem UZ {α:Type} (xs:List α) (lo hi:Option Int):(xo xs lo hi).length<=xs.length:=by
 unfold xo
 rw [List.length_take,List.length_drop]
 omega
noncomputable def CK (K:PySem.W.Frag):V->Option Int->Option Int->Hp->VK->Prop:=fun x lo hi H Q=>J4 K x lo hi H Q\/J6 K x lo hi H Q\/J5 x lo hi H Q
theorem G8:uo X (CK X.K):=G9.or (GB.or GA)
theorem ud {lo hi:Option Expr} {fl fh:FO} {p2:Pos} (ha:SE X a fa) (hl:SO X lo fl) (hh:SO X hi fh):SE X (.Subscript a (.Slice lo hi none p2) pos) (xM fa fl fh):=by
 obtain ⟨ta,pa,ka⟩:=ha.h
 obtain ⟨tl,pl,kl⟩:=hl.h
 obtain ⟨th,ph,kh⟩:=hh.h
 refine ⟨⟨_,Dq G8 pa pl ph,fun {G0 H0 G H τ σ d Q} E hf q=>?_⟩⟩
 obtain ⟨x,hx,hf⟩:=zF hf
 obtain ⟨l,hl,hf⟩:=zF hf
 obtain ⟨h,hh,hf⟩:=zF hf
 refine ka E hx fun v G1 H1 x1 r1=>kl (E.go x1) hl fun G2 H2 x2=>kh ((E.go x1).go x2) hh fun G3 H3 x3=>?_
 have xx:=x1.trans (x2.trans x3)
 have r3:=r1.mono (x2.g.trans x3.g)
 cases x with
 | lst xs=>
  cases hf
  obtain ⟨a,vs,rfl,sq,rs,ll⟩:=r3
  refine .inl ⟨a,vs,rfl,wL x3.gh sq,fun p hp=>q _ _ _ (xx.trans (zK.lay x3.gh hp)) ⟨p,_,rfl,yE.of yz,(rs.cut l h).mono (wE (x3.gh.free hp) _),Nat.le_trans (UZ ..) ll⟩⟩
 | tup xs=>
  change (if HT.sIx xs.length 0 l=0/\HT.sIx xs.length xs.length h=xs.length then none else some (D.tup (xo xs l h)))=some d at hf
  by_cases c:HT.sIx xs.length 0 l=0/\HT.sIx xs.length xs.length h=xs.length
  ·rw [if_pos c] at hf
   cases hf
  ·rw [if_neg c] at hf
   cases hf
   obtain ⟨a,vs,rfl,sq,rs,ll⟩:=r3
   refine .inr (.inl ⟨a,vs,rfl,wc x3.gh sq,by rw [rs.length]; exact c,fun p hp=>?_⟩)
   exact q _ _ _ (xx.trans (zK.lay x3.gh hp)) ⟨p,_,rfl,yR.of yz,(rs.cut l h).mono (wE (x3.gh.free hp) _),Nat.le_trans (UZ ..) ll⟩
 | str z=>
  cases hf
  obtain ⟨rfl,ll⟩:=r3
  exact .inr (.inr ⟨z,rfl,ll,q _ _ _ xx ⟨rfl,Nat.le_trans (Ub ..) ll⟩⟩)
 | _=>cases hf
noncomputable def Zu:List D->Option D
 | [.lst xs]=>some (.lst xs)
 | [.tup xs]=>some (.lst xs)
 | _=>none
noncomputable def uQ:List D->Option D
 | [.lst xs]=>some (.tup xs)
 | [.tup xs]=>some (.tup xs)
 | _=>none
theorem vG {K:PySem.W.Frag} {G:Hp} {d:D} {vs:List V} (r:Reps K G [d] vs):∃ v,vs=[v]/\zV K G d v:=by
 obtain ⟨v,r',rfl,hv,hr⟩:=r
 cases (show r'=[] from hr)
 exact ⟨v,rfl,hv⟩
theorem Eo {fs:FA} (hg:Gl X "list") (hm:X.mg "list" = none) (ha:SA X [e] fs) (hs:yi e=true:=by rfl):SF X (.Call (.Name "list" p) [e] [] pos) (eL Zu fs):=by
 obtain ⟨t,pt,k⟩:=ha.h
 refine ⟨⟨_,(q_ OB hg hm tt ⟨pt⟩ (by decide) (by decide) (by rw [List.all_cons,hs]; rfl)).h,fun {G0 H0 G H τ σ d Q} E hf q=>?_⟩⟩
 obtain ⟨ds,hd,hf⟩:=zF hf
 refine k E hd fun vs G1 H1 x1 r1=>?_
 match ds,hf with
 | [.lst xs],hf=>
  cases hf
  obtain ⟨v,rfl,a,us,rfl,sq,rs,l⟩:=vG r1
  exact ⟨a,us,rfl,.inl (wL x1.gh sq),fun p hp=>q p _ _ (x1.trans (zK.layO x1.gh hp)) (x1.h.free hp) (x1.gh.free hp) ⟨us,yz,rs,l⟩⟩
 | [.tup xs],hf=>
  cases hf
  obtain ⟨v,rfl,a,us,rfl,sq,rs,l⟩:=vG r1
  exact ⟨a,us,rfl,.inr (wc x1.gh sq),fun p hp=>q p _ _ (x1.trans (zK.layO x1.gh hp)) (x1.h.free hp) (x1.gh.free hp) ⟨us,yz,rs,l⟩⟩
theorem QL {K:PySem.W.Frag}:U1 K (fun xs H Q=>∃ p ys,xs=[.ref p]/\((yE K H p ys/\∀ l,H l=none->Q (.ref l) (zX H l (.tup ys)))\/(yR K H p ys/\Q (.ref p) H))) uQ:=fun G H ds vs d Q s r hf q=>by
 match ds,hf with
 | [.lst xs],hf=>
  cases hf
  obtain ⟨v,rfl,a,us,rfl,sq,rs,l⟩:=vG r
  exact ⟨a,us,rfl,.inl ⟨wL s sq,fun p hp=>q _ _ _ (zK.lay s hp) ⟨p,us,rfl,yR.of yz,rs.mono (wE (s.free hp) _),l⟩⟩⟩
 | [.tup xs],hf=>
  cases hf
  obtain ⟨v,rfl,a,us,rfl,sq,rs,l⟩:=vG r
  exact ⟨a,us,rfl,.inr ⟨wc s sq,q _ _ _ (zK.refl s) ⟨a,us,rfl,sq,rs,l⟩⟩⟩
theorem GK {i:Nat} {x:Str} {op:Operator} {ti:jh} {F:D->D->Option D} {pos':Pos} (ho:XI X op ti) (hF:wg X.K ti F) (hN:X.N.Nodup) (hi:X.N[i]?=some x) (hx:uJ X.env.scope x) (he:SE X e f) (hf:X.fn x=true\/X.env.scope.names.lookup x=some .local:=by first | exact .inl rfl | exact .inr rfl | assumption) :
  SS X (.AugAssign (.Name x pos') op e pos) (ze i (e2 F (z6 i) f)):=by
 obtain ⟨t,pt,k⟩:=he.h
 refine ⟨⟨_,Fb hN hi hx pt ho hf,fun {G0 H0 G H τ σ fl E} K hf q=>?_⟩⟩
 obtain ⟨d,hd,hf⟩:=zF hf
 cases hf
 obtain ⟨x,hx,hd⟩:=zF hd
 obtain ⟨y,hy,hd⟩:=zF hd
 obtain ⟨v,ev,rv⟩:=K.fr _ _ (Ul hx)
 refine ⟨v,ev,k K hy fun u G1 H1 x1 r1=>hF G1 H1 x y v u d _ x1.gh (rv.mono x1.g) r1 hd fun w G2 H2 x2 r2=>?_⟩
 exact q _ _ _ (((K.go x1).go x2).set (List.getElem?_eq_some_iff.mp hi).1 r2)
theorem BA {K:PySem.W.Frag}:wg K (TW fun i j=>i+j) (Xn fun i j=>i+j):=fun G H x y u v d Q s rx ry hf q=>by
 cases x<;>first | (cases hf; done) | skip
 cases y<;>first | (cases hf; done) | skip
 cases hf
 exact ⟨_,_,rx,ry,q _ _ _ (zK.refl s) rfl⟩
theorem Jk {A:Addr} {ks:List Key} {ds:List D} {x:Str} {p:Pos} (h:xi X.mg x (.ref A)) (g:vM X.K X.w A ks ds) (hg:Gl X x) (ha:SE X a fa) (hm:behindInMarks .NotIn (.Name x p)=false:=by with_unfolding_all rfl) (hd:(x == ("__debug__" : Str))=false:=by decide) :
  ST X (.Compare a [.NotIn] [.Name x p] pos) (tE (e1 (uO ks) fa)):=by
 obtain ⟨tb,pb,kb⟩:=ha.h
 refine ⟨⟨_,Qm (L4 g) pb (Wm h hg hd) hm,fun {G0 H0 G H τ σ d Q} E hf q=>?_⟩⟩
 obtain ⟨z,hz,hf⟩:=zF hf
 obtain ⟨y,hy,hz⟩:=zF hz
 obtain ⟨k,hk,hz⟩:=zF hz
 cases hz
 cases hf
 exact kb E hy fun u G2 H2 x2 r2=>⟨rfl,k,j3 hk r2,_,rfl,q _ _ x2⟩
variable {x:Str} {ps:List Str} {j k:Nat} {FF:List D->Option (Bool×D)}
theorem Ea (h:zL X.prog X.w X.K X.mg X.base x ps k (zN X.K FF)) (hr:xW j X.A) (hg:Gl X x) (hk:k<=j:=by decide) (hdb:(x == ("__debug__" : Str))=false:=by decide):SE X (.Call (.Name x p) [] [] pos) (zS FF zC):=by
 obtain ⟨f,fd,hm,kp,b,F⟩:=h
 refine ⟨⟨_,Db F (hr.mono hk) hg hm kp b .nil QT hdb,fun {G0 H0 G H τ σ d Q} E hf q=>?_⟩⟩
 obtain ⟨ds,hd,hf⟩:=zF hf
 cases hd
 obtain ⟨⟨o,d⟩,hr,hf⟩:=zF hf
 cases hf
 refine ⟨G,[],o,d,E.ext.gh,rfl,hr,?_⟩
 cases o with
 | false=>exact fun v G' H' x2 r=>q v G' H' x2 r
 | true=>
  intro p G' H' x2 hp gp o
  obtain ⟨u,hu,r⟩:=o.frz gp
  exact q _ _ _ (x2.frz hp gp hu) r
end
noncomputable def FR (n N:Nat) (b:FS) (ds:List D):Option (Bool×D):=if ds.length=n then zZ N b ds else none
theorem yZ {n N:Nat} {b:FS}:∀ ds r,FR n N b ds=some r->ds.length=n/\zZ N b ds=some r:=fun ds r h=>by
 unfold FR at h
 split at h
 ·rename_i c
  exact ⟨c,h⟩
 ·cases h
end L3
namespace L3
open PySem PySem.Spec PyProof.Rows L2
section
variable {X:Cx} {e o k v:Expr} {f fo fk fv:FE} {x:Str} {xp p pos apos cpos:Pos}
noncomputable def U5 (K:PySem.W.Frag) (A:Addr):Prop:=∃ o,K.lookup A=some o/\o.cls=.type "tuple" /\ o.dict=none
structure SD (X:Cx) (pos:Pos) (keys:List (Option Expr)) (values:List Expr) (ks:List Str) (fs:FA):Prop where
 h:∃ trs,je X pos keys values trs/\∀ {G0 H0 G H:Hp} {τ:zp} {σ:St} {ds:List D} {Q:List (V×V)->Hp->Prop},zo X.K X.N.length G0 H0 G H τ σ->fs τ=some ds->(∀ vs G' H',zK G H G' H'->Reps X.K G' ds vs->vs.length=ks.length->Q ((ks.map V.str).zip vs) H')->Ys trs σ H Q
theorem EZ:SD X pos [] [] [] zC:=⟨⟨_,FZ,fun E hf q=>by
 cases hf
 exact q [] _ _ (zK.refl E.ext.gh) rfl rfl⟩⟩
theorem kY {x:Str} {j:Nat} {ks:List (Option Expr)} {vs:List Expr} {xs:List Str} {fs:FA} (hv:SE X v fv) (hr:SD X pos ks vs xs fs):SD X pos (some (.Constant (.str x) j xp)::ks) (v::vs) (x::xs) (z8 fv fs):=by
 obtain ⟨tv,pv,kv⟩:=hv.h
 obtain ⟨tr,pr,kr⟩:=hr.h
 refine ⟨⟨_,FY QX pv pr,fun {G0 H0 G H τ σ ds Q} E hf q=>?_⟩⟩
 obtain ⟨d,hd,hf⟩:=zF hf
 obtain ⟨es,hes,hf⟩:=zF hf
 cases hf
 refine kv E hd fun u G1 H1 x1 r1=>kr (E.go x1) hes fun us G2 H2 x2 r2 l=>?_
 exact q (u::us) _ _ (x1.trans x2) ⟨u,us,rfl,r1.mono x2.g,r2⟩ (by rw [List.length_cons,List.length_cons,l])
theorem Tz:∀ (kvs acc:List (Key×V)),(kvs.map (·.1)).Nodup->(∀ kv∈kvs,wM acc kv.1=none)->vV acc kvs=acc++kvs
 | [],acc,_,_=>by rw [List.append_nil]; rfl
 | kv::r,acc,nd,hn=>by
  rw [List.map_cons,List.nodup_cons] at nd
  have h0:=hn kv List.mem_cons_self
  show vV (wD acc kv.1 kv.2) r=_
  rw [Fv kv.2 h0,Tz r _ nd.2 (fun kv' m=>?_)]
  ·rw [List.append_assoc]; rfl
  ·rw [IE kv.1 kv'.1 kv.2 acc h0,if_neg (fun e=>nd.1 (by rw [<- e]; exact List.mem_map_of_mem m))]
   exact hn kv' (List.mem_cons_of_mem _ m)
theorem IT:∀ {ks:List Str} {vs:List V},(ks.map V.str).zip vs=(((ks.map Sum.inr:List Key).zip vs).map fun kv=>(kV kv.1,kv.2))
 | [],_=>rfl
 | _::_,[]=>rfl
 | k::ks,v::vs=>by
  rw [List.map_cons,List.map_cons,List.zip_cons_cons,List.zip_cons_cons,List.map_cons,IT]
  rfl
theorem IQ:∀ {ks:List Key} {vs:List V},ks.length=vs.length->(ks.zip vs).map (·.1)=ks
 | [],[],_=>rfl
 | k::ks,v::vs,h=>by rw [List.zip_cons_cons,List.map_cons,IQ (by simpa using h)]
theorem En {keys:List (Option Expr)} {values:List Expr} {ks:List Str} {fs:FA} (h:SD X pos keys values ks fs) (nd:ks.Nodup) (h15:ks.length<=15) (hall:keys.all (·.isSome)=true:=by rfl) (hl:keys.length=values.length:=by rfl) (h0:keys≠[]:=by exact fun z=>nomatch z) (h15':keys.length<=15:=by decide) :
  SF X (.Dict keys values pos) (Uk ks fs):=by
 obtain ⟨trs,pr,kr⟩:=h.h
 refine ⟨⟨_,Df pr hall hl h0 h15',fun {G0 H0 G H τ σ d Q} E hf q p hp=>?_⟩⟩
 obtain ⟨ds,hds,hf⟩:=zF hf
 have x0:zK G H G (zX H p (.dK [])):=zK.layO E.ext.gh hp
 refine kr (E.go x0) hds fun vs G2 H2 x2 r2 l=>?_
 have e2:H2 p=some (.dK []):=x2.h _ _ yz
 have g2:G2 p=none:=by
  cases c:G2 p with
  | none=>rfl
  | some u=>
   rcases x2.new p (by rw [c]; exact fun z=>nomatch z) with z | z
   ·exact absurd (E.ext.gh.free hp) z
   ·rw [yz] at z; cases z
 have hk:(ks.map Sum.inr:List Key).length=vs.length:=by rw [List.length_map,l]
 by_cases c:ks.length=ds.length
 ·rw [if_pos c] at hf
  cases hf
  refine ⟨e2,(ks.map Sum.inr:List Key).zip vs,IT,by rw [List.length_zip,hk,Nat.min_self,l]; exact h15,?_⟩
  rw [Tz _ [] (by rw [IQ hk]; exact List.Pairwise.map _ (fun a b h z=>h (Sum.inr.inj z)) nd) (fun _ _=>rfl),List.nil_append]
  have xx:zK G H G2 (zX H2 p (.dK ((ks.map Sum.inr:List Key).zip vs))):=by
   have y:=x0.trans x2
   refine ⟨y.g,fun b u z=>?_,fun b u z=>?_,y.new⟩
   ·rw [yf (wT z hp)]; exact y.h _ _ z
   ·rw [yf (wT z g2)]; exact x2.gh _ _ z
  exact q p _ _ xx hp g2 ⟨vs,yz,hk,r2,by rw [<- c]; exact zU (by omega)⟩
 ·rw [if_neg c] at hf
  cases hf
noncomputable def wA (i:Int):Nat:=Builtin.Int.intBits i
noncomputable def Xs:D->D->Option D:=fI (fun i j=>decide (wA i+wA j<=134217728)) (·*·)
theorem DG:yM X (binaryOp .Mult) (rI (fun i j=>wA i+wA j<=134217728) fun i j=>.int (i*j)):=gK fun i j _ _ _ _ _ hc q=>mul_int q (by
 unfold IntMulOk
 intro h
 rw [Bool.and_eq_true] at h
 have h2:decide (((Builtin.Int.intBits i+Builtin.Int.intBits j:Nat):Int) > (134217728:Nat))=true:=h.2
 have h3:=of_decide_eq_true h2
 have h4:Builtin.Int.intBits i+Builtin.Int.intBits j<=134217728:=hc
 omega)
theorem Be {K:PySem.W.Frag}:wg K (rI (fun i j=>wA i+wA j<=134217728) fun i j=>.int (i*j)) Xs:=jC fun _ _ h=>of_decide_eq_true h
end
end L3
namespace L3
open PySem PySem.Spec PyProof.Rows L2 PySem.W
theorem II:∀ {ns:List Int} {m:Int},m∈ns->wA m<=WData.weightAll (ns.map WData.int)
 | [],_,h=>by cases h
 | n::ns,m,h=>by
  have e:WData.weightAll ((n::ns).map WData.int)=wA n+1+WData.weightAll (ns.map WData.int):=by
   show WData.weightAll (WData.int n::ns.map WData.int)=_
   rw [WData.weightAll]
   rfl
  rw [e]
  rcases List.mem_cons.mp h with rfl | h
  ·omega
  ·have:=II h
   omega
theorem MU {ns:List Int} (h:WData.layableAll [.list (ns.map WData.int)]=true):∀ m∈ns,wA m<=1048576:=fun m hm=>by
 have h1:WData.layable (.list (ns.map WData.int))=true:=List.all_eq_true.mp h _ (List.mem_singleton.mpr rfl)
 unfold WData.layable at h1
 rw [Bool.and_eq_true] at h1
 have h2:WData.weight (.list (ns.map WData.int))<=2 ^ 20:=of_decide_eq_true h1.2
 have h3:=II hm
 have h4:WData.weight (.list (ns.map WData.int))=WData.weightAll (ns.map WData.int):=by rw [WData.weight]
 omega
section
variable {P:Program} {w:World} {K:PySem.W.Frag} {mg:Str->Option Value} {base:Heap}
noncomputable def kn (K:PySem.W.Frag):Sp:=fun vs H Q _=>∃ (a:Addr) (ns:List Int),vs=[.ref a]/\yE K H a (ns.map V.int)/\ns.length<=63/\(∀ m∈ns,wA m<=1048576)/\∀ H',Q (.bl true) H'
theorem MT {x:Str} {st:Stmt} {N:List Str} {k:Nat} {b:FS} {f:Addr} {fd:FuncData} (d:tS K "law" "law" st f fd) (S:yL N [x] (zw st)) (hN:1<=N.length) (hrun:∀ ns:List Int,ns.length<=63->(∀ m∈ns,wA m<=1048576)->∃ o,zZ N.length b [.lst (ns.map D.int)]=some (o,.bl true))
  (hb:∀ (cdv:Value) (A:Around) (outer:List Env) (s:Shared) (H:Hp) (E:XK),xW k (A.deeper (envOfC "law" (zw st) s.heap.objs.size f cdv))->vO (uy vY P w K mg base N "law" (zw st) f cdv A outer s H E).nox (uN st) b):vZ P w K mg base vY (k+1) f fd [x] (kn K):=by
 refine d.ok S (fun vs H Q E h=>?_) fun cdv A outer s H vs Q E hr h=>?_
 ·obtain ⟨a,ns,rfl,_⟩:=h
  rfl
 ·obtain ⟨a,ns,rfl,sq,l,hbits,q⟩:=h
  obtain ⟨o,hrun⟩:=hrun ns l hbits
  obtain ⟨t,p,kt⟩:=(hb cdv A outer s H E hr).h
  obtain ⟨fl,hfl,hrun⟩:=zF hrun
  have r:Reps K H [.lst (ns.map D.int)] [.ref a]:=⟨_,_,rfl,⟨a,_,rfl,sq,Reps.ints,by rw [List.length_map]; exact zU (by omega)⟩,rfl⟩
  refine ⟨t,p,kt (Uu (N:=N) (yD.refl H) r hN) hfl ?_⟩
  cases fl with
  | nx τ=>cases hrun
  | rt o' d'=>
   cases hrun
   cases o with
   | false=>
    intro v G H' _ r
    cases (show v=.bl true from r)
    exact q H'
   | true=>exact fun p G H' _ _ _ z=>z.elim
  | _=>cases hrun
end
theorem walkB {l:PySem.W.OpenLaw} {n k:Nat} {q:Program} {loose:List Str} {XP:(Str->Option Value)->Heap->Prop} {YP:World->Heap->Prop} {d:DefRec} {K:Params->PySem.W.Frag} {sp:PySem.W.Frag->Sp} {x:Str}
  (hn:l.most=some n) (hn2:n<=sizeLine) (hdf:d.params.defaults=[]) (hr:xW k callerA) (hY:∀ (w:World) (h:Heap),YP w h->(K w.params).In h)
  (F:∀ (w:World) (mg:Str->Option Value) (fa:Addr) (h:Heap),(K w.params).In h->h.Ns mainGlobals mg->mg d.name=some (.ref fa)->
   ∃ fd:FuncData,(∀ (s:Shared) (u:Value),BindsTo s fd ⟨[u],[]⟩ [(x,u)])/\∀ base:Heap,(K w.params).In base->base.Ns mainGlobals mg->vZ l.prog w (K w.params) mg base vY k fa fd [x] (sp (K w.params)))
  (hsp:∀ (K:PySem.W.Frag) (H:Hp) (a:Addr) (ns:List Int),ns.length<=n->(∀ m∈ns,wA m<=1048576)->yE K H a (ns.map V.int)->sp K [.ref a] H (fun v _=>v=.bl true) fun _ _ _=>False) :
  PySem.W.WalkO q loose XP YP l.row.toRowW d [] (fun f vs=>PySem.call f vs):=by
 intro w s0 s1 mg mb Gr Y fa o pm cd doc dV kV ho hd hcd hD hmg hg args vals as hpre hlay hrd hwl hlo
 have e1:dV=.none:=Dflts.none hD hdf
 have e2:kV=.none:=Dflts.noKw hD
 subst e1 e2
 obtain ⟨a,vs,ns,rfl,rfl,hobj,hints,hlen⟩:=Att.script_of hn hpre hwl
 have KX:=hY w _ Y
 obtain ⟨fd,hb,hF⟩:=F w mg fa _ KX Gr.T.g hmg
 have main:=MS KX Gr.T.g Gr.T.b Gr.T.builtins Gr.T.nolimit hg hobj hints (Nat.le_trans hlen hn2) hr hF hb (fun H _ hS=>hsp _ H a ns hlen (MU hlay) hS) (fun _ _ _ z=>z)
 refine enter_call (codeAny_mono main fun r s' hq=>?_)
 obtain ⟨rfl,h2,h3,h4⟩:=hq
 refine ⟨.inl ⟨.bool true,.bool true,[],rfl,fun _=>rfl,.bool true,Att.post_true l _,fun _=>?_⟩,h2,h3,h4⟩
 exact ⟨List.Pairwise.nil,fun _ hm=>nomatch hm⟩
end L3
namespace L3
open PySem PySem.Spec PyProof.Rows L2
theorem L5 {prog:Program} {w:World} {A:Around} {E:Value->Shared->Prop} {s:Shared} {a:Addr} {o:Obj} {xs:Array Value} {k:Nat} {name:Str} {Q:Option Value->Shared->Prop}
  (hx:s.heap.get? a=some o) (hc:o.cls=.type "list") (hdat:o.data=.seq xs k) (hd:o.dict=none) (hmiss:typeLookup (.type "list") name=pure none)
  (hname:(["__module__", "__name__", "__qualname__", "__doc__", "__annotations__"]:List Str).contains name=false) (hA:A.handled=none)
  (h:∀ h' tk,(∀ b ob,s.heap.get? b=some ob->h'.get? b=some ob)->Q none { s with heap:=h',toks:=tk }) (hsz:name.length+100<=sizeLine) :
  wpAny (model prog w) A (getAttr? (.ref a) name) Q E s:=by
 obtain ⟨c,dct,dat,sl⟩:=o
 simp only at hc hdat hd
 subst hc hdat hd
 obtain ⟨hp,g,d,tk,os⟩:=s
 have hT:∀ tk',(⟨hp,g,d,tk',os⟩:Shared).TypeIs (.ref a) "list" := fun _=>⟨_,hx,rfl⟩
 have f1:=sub_AttributeError
 have f3:=F.slot_list_getattribute.lookup
 have f4:=F.slot_list_getattribute.bind (.ref a)
 have f5:=am_list_getattr_none
 unfold getAttr? getAttrBy? getAttrBy
 repeat (any_goals (first | assumption | exact hT _ | ((with_reducible show wpAny _ _ (call (Value.builtin "list.__getattribute__") _ _) _ _ _); refine call_meets F.slot_list_getattribute (hT _) am_entry_list_getattribute (F.args_list_getattribute_2 _ _) (meets_getattribute_miss_list a xs k sl name _ hmiss hname hsz) ⟨hx,hA,fun h' tk' e hx'=>?_⟩) | wp_step))
 obtain ⟨t',u',he⟩:=hx'.there
 show wpAny _ _ (getattributeRaised _ _ _ _ _ _ _) _ _ _
 unfold getattributeRaised
 repeat (any_goals (first | assumption | wp_step))
 exact h _ _ hx'.keeps
theorem YY:plainId "dict.update.loop" = true:=by decide +kernel
theorem Ut:entryFor table "dict.update.loop" = some Builtin.«dict.update.loop»:=entryFor_of_fast (by kernel_rfl)
theorem _root_.PySem.Heap.DictOf.keepB {prog:Program} {w:World} {h h':Heap} {a:Addr} {kvs:List (Key×Value)} (hm:h.DictOf (yh prog w) a kvs) (k:∀ o,h.get? a=some o->h'.get? a=some o):h'.DictOf (yh prog w) a kvs:=
 let ⟨o',es,ep,ho,r⟩:=hm; ⟨o',es,ep,k _ ho,r⟩
theorem GO (kvs:List (Key×Value)) (k:Key) (v:Value):(stored kvs k v).length<=kvs.length+1:=by
 unfold stored
 split
 ·rw [List.length_map]; omega
 ·rw [List.length_append]; exact Nat.le_refl _
noncomputable def XJ (h:Heap) (v:Value) (k:Key) (x:Value):Prop:=∃ b key,v=.ref b/\wJ k key=true/\IsTup h b #[key,x]
theorem IB {prog:Program} {w:World} {A:Around} {R:Result->Shared->Prop} {d it l:Addr} {its:List Value} (hA:A.handled=none) (hdl:d≠l) (hdi:d≠it) (hli:l≠it) :
  ∀ (kvs:List (Key×Value)) (i:Nat) (acc:List (Key×Value)) (s:Shared),s.heap.IsListIter it l i->s.heap.IsList l its.toArray->i+kvs.length=its.length->(∀ j kv,kvs[j]?=some kv->∃ v,its[i+j]?=some v/\XJ s.heap v kv.1 kv.2)->
   s.heap.DictOf (yh prog w) d acc->acc.length+kvs.length<=sizeLine->(∀ h' tk,h'.DictOf (yh prog w) d (kvs.foldl (fun a kv=>stored a kv.1 kv.2) acc)->(∀ b o,b≠d->b≠it->s.heap.get? b=some o->h'.get? b=some o)->R (.ok (.ret .none)) { s with heap:=h',toks:=tk })->
   wpAny (model prog w) A.in1 (Builtin.«dict.update.loop» ⟨[.ref d,.ref it,rawInt i,.none],[]⟩) (fun fin s'=>match fin with | .done f=>R (.ok f) s' | .again c'=>c'.quiet=true/\codeAny (model prog w) A c' R s') (fun e s'=>R (.error e) s') s
 | [],i,acc,s,st,hl,hn,hp,hd,hz,h=>by
  unfold Builtin.«dict.update.loop»
  refine wpAny_bind (wpAny_pyNext_list_end (by exact hA) st hl (by simp at hn ⊢; omega) fun h' eb=>?_)
  show wpAny _ _ (Builtin.Dict.addKeywords d [] >>= _) _ _ _
  refine wpAny_bind (wpAny_pure (wpAny_pure ?_))
  exact h h' s.toks (hd.keepB fun o e=>eb d o hdi e) (fun b o _ hb e=>eb b o hb e)
 | kv::kvs,i,acc,s,st,hl,hn,hp,hd,hz,h=>by
  obtain ⟨v,hv,b,key,rfl,hk,ht⟩:=hp 0 kv rfl
  unfold Builtin.«dict.update.loop»
  refine wpAny_bind (wpAny_pyNext_list_item st hl (x:=.ref b) (by simpa using hv) fun h1 st1 sb=>?_)
  have keep1:∀ c o,c≠it->s.heap.get? c=some o->h1.get? c=some o:=fun c o hc e=>(sb.2 c hc).trans e
  have notIt:∀ {c:Addr} {xs:Array Value},IsTup s.heap c xs->c≠it:=fun {c xs} t e=>by
   subst e
   obtain ⟨o,e1,c1,_⟩:=t
   obtain ⟨o',e2,c2,_⟩:=st
   rw [e1] at e2
   cases e2
   rw [c1] at c2
   exact absurd (Value.type.inj c2) (by decide)
  have notD:∀ {c:Addr} {xs:Array Value},IsTup s.heap c xs->c≠d:=fun {c xs} t e=>by
   subst e
   obtain ⟨o,e1,c1,_⟩:=t
   obtain ⟨o',es,ep,e2,c2,_⟩:=hd
   rw [e1] at e2
   cases e2
   have c3:=c2.1
   rw [c1] at c3
   exact absurd (Value.type.inj c3) (by decide)
  obtain ⟨o,ho,hc,n,hdat⟩:=ht
  have ho1:=keep1 b o (notIt ⟨o,ho,hc,n,hdat⟩) ho
  have hd1:h1.DictOf (yh prog w) d acc:=hd.keepB fun o e=>keep1 d o hdi e
  refine wpAny_bind (wpAny_holding (wpAny_bind (wpAny_tryCatch ?_)))
  unfold Builtin.Dict.pairItems
  refine wpAny_bind (wpAny_typeOf (T := "tuple") ⟨o,ho1,hc⟩ ?_)
  rw [if_pos (by rfl)]
  refine wpAny_bind (wpAny_seqItems ho1 hdat (wpAny_pure ?_))
  refine wpAny_holding (wpAny_dictSet_pairs (knd:=yh prog w) (k:=kv.1) hk hd1 (fun h2 hd2 sb2=>?_) (by omega))
  refine wpAny_pure ⟨plainId_quiet YY _,codeAny_builtin Ut ?_⟩
  rw [Around.under_plainId YY _]
  have keep2:∀ c o,c≠d->c≠it->s.heap.get? c=some o->h2.get? c=some o:=fun c o h1' h2' e=>(sb2.2 c h1').trans (keep1 c o h2' e)
  have key2:∀ {c:Addr} {xs:Array Value},IsTup s.heap c xs->IsTup h2 c xs:=fun {c xs} t=>by
   have a1:=notD t
   have a2:=notIt t
   obtain ⟨o,e1,r⟩:=t
   exact ⟨o,keep2 c o a1 a2 e1,r⟩
  refine IB (its:=its) hA hdl hdi hli kvs (i+1) (stored acc kv.1 kv.2) _ ?_ ?_ (by rw [List.length_cons] at hn; omega) (fun j kv' e=>?_) hd2 ?_ fun h' tk hd' kp=>?_
  ·exact st1.at fun o e=>(sb2.2 it (fun z=>hdi z.symm)).trans e
  ·obtain ⟨o,e,r⟩:=hl
   exact ⟨o,keep2 l o (fun z=>hdl z.symm) hli e,r⟩
  ·obtain ⟨v',hv',b',key',rfl,hk',ht'⟩:=hp (j+1) kv' (by simpa using e)
   exact ⟨_,by rw [show i+1+j=i+(j+1) by omega]; exact hv',b',key',rfl,hk',key2 ht'⟩
  ·have:=GO acc kv.1 kv.2
   rw [List.length_cons] at hz
   omega
  ·exact h h' tk hd' fun c o h1' h2' e=>kp c o h1' h2' (keep2 c o h1' h2' e)
theorem O4 {prog:Program} {w:World} {A:Around} {E:Value->Shared->Prop} {s:Shared} {l:Addr} {o:Obj} {its:List Value} {n:Nat} {kvs:List (Key×Value)} {Q:Value->Shared->Prop} (hA:A.handled=none) (ho:s.heap.get? l=some o) (hc:o.cls=.type "list") (hdd:o.dict=none) (hdat:o.data=.seq its.toArray n)
  (hn:kvs.length=its.length) (hp:∀ (j:Nat) (kv:Key×Value),kvs[j]?=some kv->∃ v,its[j]?=some v/\XJ s.heap v kv.1 kv.2) (hz:kvs.length<=sizeLine)
  (h:∀ h' tk,h'.DictOf (yh prog w) s.heap.objs.size (kvs.foldl (fun a kv=>stored a kv.1 kv.2) [])->(∀ b o,s.heap.get? b=some o->h'.get? b=some o)->Q (.ref s.heap.objs.size) { s with heap:=h',toks:=tk }) :
  wpAny (model prog w) A (call (.type "dict") [.ref l]) Q E s:=by
 refine callType_codes (Q₁:=fun obj s₁=>obj=.ref s.heap.objs.size/\s₁={ s with heap:=s.heap.push { cls:=.type "dict",data:=.dict #[] } }) F.kt_called_dict (F.kt_typeCall_dict_1 _) F.entry_dict_init (kt_code_dict_new _ ⟨rfl,rfl⟩) ?_
 rintro obj s₁ ⟨rfl,rfl⟩
 have hnew:(s.heap.push { cls:=.type "dict",data:=.dict #[] }).DictOf (yh prog w) s.heap.objs.size []:=Heap.DictOf.new s.heap
 refine ⟨hnew.typeIs,F.args_dict_init_2 _ _,?_⟩
 unfold Builtin.«dict.__init__»
 refine wpAny_bind ?_
 unfold Builtin.Dict.selfAndRest
 refine wpAny_bind (wpAny_notOrdered_dict hnew.typeIs ?_)
 show wpAny _ _ (pure (s.heap.objs.size,[Value.ref l])) _ _ _
 refine wpAny_pure ?_
 show wpAny _ _ (Builtin.Dict.updateFrom "dict.__init__" s.heap.objs.size (.ref l) [] .none) _ _ _
 unfold Builtin.Dict.updateFrom
 have hlt:=Heap.lt_size ho
 have ho1:(s.heap.push { cls:=.type "dict",data:=.dict #[] }).get? l=some o:=Heap.get?_push_of_some _ ho
 refine wpAny_bind (wpAny_typeOf (T := "list") ⟨o,ho1,hc⟩ ?_)
 rw [if_pos (by rfl)]
 refine wpAny_bind (L5 (o:=o) ho1 hc hdat hdd (am_miss_of_fast (by kernel_rfl)) (by decide) (by exact hA) (fun h1 tk1 kp1=>?_) (by decide))
 rw [if_pos (by rfl)]
 have hd1:h1.DictOf (yh prog w) s.heap.objs.size []:=hnew.keepB fun o e=>kp1 _ _ e
 have ho2:h1.get? l=some o:=kp1 _ _ ho1
 have hl1:h1.IsList l its.toArray:=⟨o,ho2,hc,n,hdat⟩
 have hd1lt:s.heap.objs.size<h1.objs.size:=by
  obtain ⟨o',_,_,e,_⟩:=hd1
  exact Heap.lt_size e
 show wpAny _ _ (pure () >>= _) _ _ _
 refine wpAny_bind (wpAny_pure (wpAny_bind ?_))
 refine wpAny_pyIter_list (s:={ s with heap:=h1,toks:=tk1 }) hl1 ?_
 refine wpAny_pure ⟨plainId_quiet YY _,codeAny_builtin Ut ?_⟩
 rw [Around.under_plainId YY _]
 have k0:∀ b ob,s.heap.get? b=some ob->(h1.push { cls:=.type "list_iterator",data:=.fields #[.ref l,.int 0 0] }).get? b=some ob:=fun b ob e=>Heap.get?_push_of_some _ (kp1 b ob (Heap.get?_push_of_some _ e))
 refine IB (l:=l) (its:=its) (A:=A.in1) (by exact hA) (yV (Nat.ne_of_gt hlt)) (yV (Nat.ne_of_lt hd1lt)) (yV (Nat.ne_of_lt (Nat.lt_trans hlt hd1lt))) kvs 0 [] _ ⟨_,Heap.get?_push_size _ rfl,rfl,rfl⟩ ⟨o,k0 l o ho,hc,n,hdat⟩ (by rw [Nat.zero_add]; exact hn) (fun j kv e=>?_) (hd1.push _) (by simpa using hz) fun h' tk hd' kp=>?_
 ·obtain ⟨v,hv,b,key,rfl,hk,o',e1,r⟩:=hp j kv e
  exact ⟨_,by rw [Nat.zero_add]; exact hv,b,key,rfl,hk,o',k0 b o' e1,r⟩
 ·refine ⟨rfl,h h' tk hd' fun b ob e=>?_⟩
  have hb:=Heap.lt_size e
  exact kp b ob (yV (Nat.ne_of_lt hb)) (yV (Nat.ne_of_lt (Nat.lt_trans hb hd1lt))) (k0 b ob e)
section
variable {X:Cx}
theorem QQ {pins:List (Addr×Obj)} {σ:St} {H:Hp} {s:Shared} (I:Inv X pins σ H s):∀ {kvs:List (Key×V)} {vs:List V} {its:List Value},zf vs its->kvs.length=vs.length->(∀ (j:Nat) (kv:Key×V),kvs[j]?=some kv->∃ b,vs[j]?=some (V.ref b)/\yR X.K H b [kV kv.1,kv.2])->
  ∃ ws:List (Key×Value),KV kvs ws/\∀ (j:Nat) (kw:Key×Value),ws[j]?=some kw->∃ v,its[j]?=some v/\XJ s.heap v kw.1 kw.2
 | [],_,_,_,_,_=>⟨[],.nil,fun j kw e=>by cases e⟩
 | kv::kvs,[],_,_,h,_=>by cases h
 | kv::kvs,_::vs,_::its,.cons r t,h,hp=>by
  obtain ⟨ws,rk,hw⟩:=QQ I t (by simpa using h) fun j kv' e=>by
   obtain ⟨b,e1,q⟩:=hp (j+1) kv' (by simpa using e)
   exact ⟨b,by simpa using e1,q⟩
  obtain ⟨b,e1,sq⟩:=hp 0 kv rfl
  cases e1
  obtain ⟨is,ri,pt,_⟩:=I.tuple sq
  obtain ⟨key,x,rfl,rkey,rx⟩:=jV ri
  refine ⟨(kv.1,x)::ws,.cons ⟨rfl,rx⟩ rk,fun j kw e=>?_⟩
  cases j with
  | zero=>
   cases e
   exact ⟨_,rfl,b,key,r,uT (P:=X.prog) (w:=X.w) rkey,pt⟩
  | succ j=>
   obtain ⟨v,e2,q⟩:=hw j kw (by simpa using e)
   exact ⟨v,by simpa using e2,q⟩
noncomputable def C8 (K:PySem.W.Frag):List V->Hp->VK->Prop:=fun xs H Q=>∃ a vs kvs,xs=[.ref a]/\yE K H a vs/\kvs.length=vs.length/\(∀ (j:Nat) (kv:Key×V),kvs[j]?=some kv->∃ b,vs[j]?=some (.ref b)/\yR K H b [kV kv.1,kv.2])/\∀ p,H p=none->Q (.ref p) (zX H p (.dK (vV [] kvs)))
theorem O3 (hcalm:X.calm=true):xV X (.type "dict") (C8 X.K):=by
 intro pins s σ H xs us Q I r h
 obtain ⟨a,vs,kvs,rfl,sq,hl,hp,q⟩:=h
 obtain ⟨u,rfl,ru⟩:=wN r
 cases (show u=Value.ref a from ru)
 obtain ⟨its,rv,⟨o,n,ho,hc,hdd,hdat⟩,hz⟩:=I.list sq
 obtain ⟨ws,rk,hw⟩:=QQ I rv hl hp
 have hlw:ws.length=its.length:=by rw [<- rk.length,hl,rv.length]
 refine O4 (I.ok.hd hcalm) ho hc hdd hdat hlw hw (by rw [hlw,<- rv.length]; exact hz) fun h' tk dd kp=>?_
 have hle:(vV [] kvs).length<=sizeLine:=by
  have h1:=WQ kvs []
  rw [List.length_nil] at h1
  omega
 have hm:(s.heap.objs.size == sysModules)=false:=by
  have:=I.big
  rw [beq_eq_false_iff_ne]
  exact yV (Nat.ne_of_gt this)
 exact ⟨.ref s.heap.objs.size,_,I.laid (a:=s.heap.objs.size) (o:=.dK (vV [] kvs)) (t':=tk) kp (Nat.le_refl _) (Xg hle hm (rk.merge .nil) dd),rfl,q _ I.fresh⟩
end
noncomputable def t5:List D->Option (List (Sum Int Str)×List D)
 | []=>some ([],[])
 | .tup [k,v]::r=>(vT k).bind fun k=>(t5 r).bind fun p=>some (k::p.1,v::p.2)
 | _=>none
noncomputable def yu {α:Type}:List (Sum Int Str)->List α->List (Sum Int Str)->List α->List (Sum Int Str)×List α
 | ks,ds,k::r,v::q=>yu (xZ ks k) (xf ks ds k v) r q
 | ks,ds,_,_=>(ks,ds)
noncomputable def Zs:List D->Option D
 | [.lst xs]=>(t5 xs).bind fun p=>some (.dic (yu [] [] p.1 p.2).1 (yu [] [] p.1 p.2).2)
 | _=>none
theorem Qp:∀ {ks:List Key} {us:List V} {as:List Key} {vs:List V},ks.length=us.length->as.length=vs.length->vV (as.zip vs) (ks.zip us)=(yu as vs ks us).1.zip (yu as vs ks us).2/\(yu as vs ks us).1.length=(yu as vs ks us).2.length
 | [],[],as,vs,_,h=>⟨rfl,h⟩
 | k::ks,u::us,as,vs,h1,h2=>by
  have ih:=Qp (ks:=ks) (us:=us) (as:=xZ as k) (vs:=xf as vs k u) (by simpa using h1) (qH h2)
  refine ⟨?_,ih.2⟩
  show vV (wD (as.zip vs) k u) (ks.zip us)=_
  rw [IS h2]
  exact ih.1
theorem Qo {K:PySem.W.Frag} {G:Hp}:∀ {ks:List Key} {es:List D} {us:List V} {as:List Key} {ds:List D} {vs:List V},Reps K G es us->Reps K G ds vs->ks.length=us.length->as.length=vs.length->Reps K G (yu as ds ks es).2 (yu as vs ks us).2/\(yu as ds ks es).1=(yu as vs ks us).1
 | [],es,us,as,ds,vs,r1,r2,h1,h2=>by
  have e1:yu as ds [] es=(as,ds):=by unfold yu; rfl
  have e2:yu as vs [] us=(as,vs):=by unfold yu; rfl
  rw [e1,e2]
  exact ⟨r2,rfl⟩
 | k::ks,es,[],as,ds,vs,r1,r2,h1,h2=>by cases h1
 | k::ks,[],u::us,as,ds,vs,r1,r2,h1,h2=>by cases (show _=[] from r1)
 | k::ks,e::es,_::_,as,ds,vs,r1,r2,h1,h2=>by
  obtain ⟨v,r,ev,hv,hr⟩:=r1
  cases ev
  exact Qo (ks:=ks) (es:=es) (as:=xZ as k) hr (r2.put hv) (by simpa using h1) (qH h2)
theorem Qn {α:Type}:∀ {ks:List Key} {es:List α} {as:List Key} {ds:List α},as.length=ds.length->(yu as ds ks es).2.length<=ds.length+es.length
 | [],es,as,ds,_=>by
  have e:yu as ds [] es=(as,ds):=by unfold yu; rfl
  rw [e]
  exact Nat.le_add_right _ _
 | _::_,[],as,ds,_=>by
  have e:∀ k ks,yu as ds (k::ks) ([]:List α)=(as,ds):=fun _ _=>by unfold yu; rfl
  rw [e]
  exact Nat.le_add_right _ _
 | k::ks,e::es,as,ds,h=>by
  have ih:=Qn (ks:=ks) (es:=es) (as:=xZ as k) (ds:=xf as ds k e) (qH h)
  have:=Qr (ks:=as) (vs:=ds) (k:=k) (v:=e) h
  show (yu (xZ as k) (xf as ds k e) ks es).2.length<=_
  rw [List.length_cons]
  omega
theorem Th {K:PySem.W.Frag} {G:Hp}:∀ {xs:List D} {vs:List V} {ks:List Key} {ds:List D},t5 xs=some (ks,ds)->Reps K G xs vs->∃ us,Reps K G ds us/\ks.length=us.length/\ks.length=vs.length/\∀ (j:Nat) (kv:Key×V),(ks.zip us)[j]?=some kv->∃ b,vs[j]?=some (V.ref b)/\yR K G b [kV kv.1,kv.2]
 | [],_,_,_,h,r=>by
  cases h
  cases (show _=[] from r)
  exact ⟨[],rfl,rfl,rfl,fun j kv e=>by cases e⟩
 | x::xs,_,ks,ds,h,r=>by
  obtain ⟨v,r',rfl,hv,hr⟩:=r
  unfold t5 at h
  split at h
  ·rename_i e; cases e
  ·rename_i k y r2 e
   cases e
   obtain ⟨key,hk,h⟩:=zF h
   obtain ⟨⟨ks2,ds2⟩,h2,h⟩:=zF h
   cases h
   obtain ⟨us,q1,q2,q3,q4⟩:=Th h2 hr
   obtain ⟨b,ws,rfl,sq,⟨u1,_,rfl,hu1,⟨u2,_,rfl,hu2,e3⟩⟩,_⟩:=hv
   cases (show _=[] from e3)
   refine ⟨u2::us,⟨u2,us,rfl,hu2,q1⟩,by rw [List.length_cons,List.length_cons,q2],by rw [List.length_cons,List.length_cons,q3],fun j kv e=>?_⟩
   cases j with
   | zero=>
    cases e
    refine ⟨b,rfl,?_⟩
    rw [<- j3 hk hu1]
    exact sq
   | succ j=>
    obtain ⟨b',e1,e2⟩:=q4 j kv (by simpa using e)
    exact ⟨b',by simpa using e1,e2⟩
  ·cases h
theorem Em {X:Cx} {e:Expr} {fs:FA} {p pos:Pos} (hcalm:X.calm=true) (hg:Gl X "dict") (hm:X.mg "dict" = none) (hv:bootBuiltins "dict" = some (.type "dict")) (ha:SA X [e] fs) (hs:yi e=true:=by rfl):SF X (.Call (.Name "dict" p) [e] [] pos) (eL Zs fs):=by
 obtain ⟨t,pt,k⟩:=ha.h
 refine ⟨⟨_,(q_ (O3 hcalm) hg hm hv ⟨pt⟩ (by decide) (by decide) (by rw [List.all_cons,hs]; rfl)).h,fun {G0 H0 G H τ σ d Q} E hf q=>?_⟩⟩
 obtain ⟨ds,hd,hf⟩:=zF hf
 refine k E hd fun vs G1 H1 x1 r1=>?_
 unfold Zs at hf
 split at hf
 ·rename_i xs
  obtain ⟨⟨ks,es⟩,hk,hf⟩:=zF hf
  cases hf
  obtain ⟨v,rfl,a,ws,rfl,sq,rs,l⟩:=vG r1
  obtain ⟨us,q1,q2,q3,q4⟩:=Th hk rs
  obtain ⟨z1,z2⟩:=Qp (ks:=ks) (us:=us) (as:=[]) (vs:=[]) q2 rfl
  obtain ⟨z3,z4⟩:=Qo (ks:=ks) (as:=[]) (ds:=[]) (vs:=[]) q1 rfl q2 rfl
  refine ⟨a,ws,ks.zip us,rfl,wL x1.gh sq,by rw [List.length_zip,q2,Nat.min_self,<- q2,q3],fun j kv e=>?_,fun p hp=>?_⟩
  ·obtain ⟨b,e1,e2⟩:=q4 j kv e
   exact ⟨b,e1,wc x1.gh e2⟩
  ·refine q p _ _ (x1.trans (zK.layO x1.gh hp)) (x1.h.free hp) (x1.gh.free hp) ⟨(yu [] [] ks us).2,?_,?_,z3,?_⟩
   ·show zX H1 p (.dK (vV [] (ks.zip us))) p=some (.dK ((yu [] [] ks es).1.zip (yu [] [] ks us).2))
    rw [yz,z4]
    exact congrArg (fun x=>some (HO.dK x)) z1
   ·show (yu [] [] ks es).1.length=_
    rw [z4]
    exact z2
   ·have:=Qn (ks:=ks) (es:=es) (as:=[]) (ds:=[]) rfl
    have e1:es.length=ws.length:=by rw [<- q1.length,<- q2,q3]
    rw [rs.length] at e1
    show (yu [] [] ks es).2.length<=sizeLine
    simp only [List.length_nil,Nat.zero_add] at this
    omega
 ·cases hf
end L3
namespace L3
open PySem PySem.Spec PyProof PyProof.Rows L2 Builtin Builtin.Str
section
variable {X:Cx} {e o a b c:Expr} {f fo fa fb fc:FE} {x:Str} {xp p pos apos cpos:Pos}
noncomputable def qP:List D->Option (List Str)
 | []=>some []
 | .str z::r=>(qP r).bind fun ts=>some (z::ts)
 | _=>none
noncomputable def uP:D->D->Option D
 | .str sep,.lst xs=>(qP xs).bind fun ts=>if (ts.map (·.length)).sum+ts.length*sep.length<=yO then some (.str (glued sep ts)) else none
 | _,_=>none
theorem Jq {K:PySem.W.Frag} {G:Hp}:∀ {xs:List D} {vs:List V} {ts:List Str},qP xs=some ts->Reps K G xs vs->vs=ts.map V.str
 | [],_,_,h,r=>by
  cases h
  exact r
 | x::xs,_,ts,h,r=>by
  obtain ⟨v,r',rfl,hv,hr⟩:=r
  unfold qP at h
  split at h
  ·rename_i e; cases e
  ·rename_i z r2 e
   cases e
   obtain ⟨ts2,h2,h⟩:=zF h
   cases h
   rw [List.map_cons,(show v=_/\_ from hv).1,Jq h2 hr]
  ·cases h
theorem VF (ho:SE X o fo) (he:SB X e f) (hbase:attributeBase o "join" X.env (eval o X.env)=eval o X.env:=by rfl) (hline:(apos.endLine == cpos.line)=true:=by rfl) (hs:yi e=true:=by rfl) :
  SE X (.Call (.Attribute o "join" apos) [e] [] cpos) (e2 uP fo f):=by
 obtain ⟨to,po,ko⟩:=ho.h
 obtain ⟨te,pe,ke⟩:=(yW he yX hs).h
 refine ⟨⟨_,(gO PySem.F.plainAttrs_str PySem.F.slot_str_join PySem.F.type_str_join Mk ⟨po⟩ ⟨pe⟩ hbase hline (by rw [List.all_cons,hs]; rfl) (by show 1<30; decide)).h,fun {G0 H0 G H τ σ d Q} E hf q=>?_⟩⟩
 obtain ⟨x,hx,hf⟩:=zF hf
 obtain ⟨y,hy,hf⟩:=zF hf
 refine ko E hx fun v G1 H1 x1 r1=>?_
 cases x with
 | str sep=>
  obtain ⟨rfl,l1⟩:=r1
  refine ⟨rfl,ke (E.go x1) (ds:=[y]) (by unfold z8; rw [hy]; rfl) fun ws G2 H2 x2 r2=>?_⟩
  obtain ⟨w,rfl,rw_⟩:=vG r2
  cases y with
  | lst xs=>
   obtain ⟨ts,hts,hf⟩:=zF hf
   obtain ⟨aa,vs,rfl,sq,rs,_⟩:=rw_
   have ev:=Jq hts rs
   subst ev
   by_cases cc:(ts.map (·.length)).sum+ts.length*sep.length<=yO
   ·rw [if_pos cc] at hf
    cases hf
    have c':(ts.map (·.length)).sum+ts.length*sep.length<=sizeLine:=by rw [sizeLine_eq]; exact cc
    exact ⟨sep,aa,ts,rfl,rfl,sq,c',q _ _ _ (x1.trans x2) ⟨rfl,Nat.le_trans (glued_len sep ts) c'⟩⟩
   ·rw [if_neg cc] at hf
    cases hf
  | _=>cases hf
 | _=>cases hf
noncomputable def vn (i:Int):Bool:=decide (i.natAbs.log2<1920)
noncomputable def ju:List D->Option D
 | [.int i]=>match vn i with
  | true=>some (.str (toString i))
  | false=>none
 | [.str z]=>some (.str z)
 | _=>none
theorem OI:xV X (.type "str") (fun xs H Q=>(∃ i,xs=[.int i]/\i.natAbs.log2<1920/\Q (.str (toString i)) H)\/∃ z,xs=[.str z]/\Q (.str z) H):=OJ.or (by
 intro pins s σ H xs us Q I r h
 obtain ⟨z,rfl,q⟩:=h
 obtain ⟨u,rfl,t,rfl⟩:=wN r
 exact PySem.P.str_of_str ⟨.str z,H,I,⟨_,rfl⟩,q⟩)
theorem Jo {i:Int} (h:i.natAbs.log2<1920):(Str.ofString (toString i)).length<=sizeLine:=Gy (Li h)
theorem Br {K:PySem.W.Frag}:jc K (fun xs H Q=>(∃ i,xs=[.int i]/\i.natAbs.log2<1920/\Q (.str (toString i)) H)\/∃ z,xs=[.str z]/\Q (.str z) H) ju:=fun G H ds vs d Q s r hf q=>by
 unfold ju at hf
 split at hf
 ·rename_i i
  obtain ⟨v,rfl,hv⟩:=vG r
  cases c:vn i with
  | false=>rw [c] at hf; cases hf
  | true=>
   rw [c] at hf
   cases hf
   cases (show v=_ from hv)
   have h:=of_decide_eq_true c
   exact .inl ⟨i,rfl,h,q _ _ _ (zK.refl s) ⟨rfl,Jo h⟩⟩
 ·rename_i z
  cases hf
  obtain ⟨v,rfl,hv⟩:=vG r
  obtain ⟨rfl,l⟩:=hv
  exact .inr ⟨z,rfl,q _ _ _ (zK.refl s) ⟨rfl,l⟩⟩
 ·cases hf
noncomputable def Zt:D->Option D
 | .int i=>match vn i with
  | true=>some (.str (Str.ofString (toString i)))
  | false=>none
 | .str z=>some (.str z)
 | _=>none
theorem Ed (he:SE X e f):SE X (.FormattedValue e (-1) none pos) (e1 Zt f):=by
 obtain ⟨t,pt,k⟩:=he.h
 refine ⟨⟨_,(C1 ⟨pt⟩).h,fun {G0 H0 G H τ σ d Q} E hf q=>?_⟩⟩
 obtain ⟨x,hx,hf⟩:=zF hf
 refine k E hx fun v G1 H1 x1 r1=>?_
 cases x with
 | int i=>
  change (match vn i with | true=>some (D.str (Str.ofString (toString i))) | false=>none)=some d at hf
  cases c:vn i with
  | false=>rw [c] at hf; cases hf
  | true=>
   rw [c] at hf
   cases hf
   cases (show v=_ from r1)
   have h:=of_decide_eq_true c
   exact .inl ⟨i,rfl,h,q _ _ _ x1 ⟨rfl,Jo h⟩⟩
 | str z=>
  cases hf
  obtain ⟨rfl,l⟩:=r1
  exact .inr ⟨z,rfl,l,q _ _ _ x1 ⟨rfl,l⟩⟩
 | _=>cases hf
noncomputable abbrev FJ:=zp->Str->Option D
noncomputable def Y7:FJ:=fun _ acc=>some (.str acc)
noncomputable def j0 (f:FE) (r:FJ):FJ:=fun σ acc=>(f σ).bind fun d=>match d with
 | .str y=>if (acc++y).length<=yO then r σ (acc++y) else none
 | _=>none
noncomputable def Zp (f:FJ):FE:=fun σ=>f σ Str.empty
structure SJ (X:Cx) (es:List Expr) (f:FJ):Prop where
 h:∃ t,QJ X es t/\∀ {G0 H0 G H:Hp} {τ:zp} {σ:St} {acc:Str} {d:D} {Q:VK},zo X.K X.N.length G0 H0 G H τ σ->acc.length<=sizeLine->f τ acc=some d->(∀ v G' H',zK G H G' H'->zV X.K G' d v->Q v H')->t σ H acc Q
theorem G7:SJ X [] Y7:=⟨⟨_,C6,fun E l hf q=>by
 cases hf
 exact ⟨l,q _ _ _ (zK.refl E.ext.gh) ⟨rfl,l⟩⟩⟩⟩
theorem Jd {es:List Expr} {fj:FJ} (he:SE X e f) (hr:SJ X es fj):SJ X (e::es) (j0 f fj):=by
 obtain ⟨te,pe,ke⟩:=he.h
 obtain ⟨tr,pr,kr⟩:=hr.h
 refine ⟨⟨_,C5 ⟨pe⟩ pr,fun {G0 H0 G H τ σ acc d Q} E l hf q=>?_⟩⟩
 obtain ⟨x,hx,hf⟩:=zF hf
 refine ke E hx fun v G1 H1 x1 r1=>?_
 cases x with
 | str y=>
  obtain ⟨rfl,_⟩:=r1
  change (if (acc++y).length<=yO then fj τ (acc++y) else none)=some d at hf
  by_cases cc:(acc++y).length<=yO
  ·rw [if_pos cc] at hf
   have c':(acc++y).length<=sizeLine:=by rw [sizeLine_eq]; exact cc
   exact ⟨y,rfl,c',kr (E.go x1) c' hf fun v G' H' x2 r2=>q v _ _ (x1.trans x2) r2⟩
  ·rw [if_neg cc] at hf
   cases hf
 | _=>cases hf
theorem Ee {e1' e2':Expr} {es:List Expr} {fj:FJ} (h:SJ X (e1'::e2'::es) fj):SE X (.JoinedStr (e1'::e2'::es) pos) (Zp fj):=by
 obtain ⟨t,pt,k⟩:=h.h
 exact ⟨⟨_,(C2 pt).h,fun E hf q=>k E (Nat.zero_le _) hf q⟩⟩
theorem O0:bootBuiltins "dict" = some (.type "dict"):=by decide +kernel
end
end L3
namespace L2
open PySem PySem.Spec PyProof.Rows
noncomputable def XB (K:PySem.W.Frag) (a:Addr):It:=
  ⟨fun i H=>∃ xs x,yE K H a xs/\xs[i]?=some x,
   fun i H v H'=>∃ p,H p=none/\v=.ref p/\∀ xs,yE K H a xs->∃ x,xs[i]?=some x/\H'=zX H p (.tup [.int (i:Int),x]),
   fun i H=>∃ xs,yE K H a xs/\xs.length<=i⟩
theorem HA {P:Program} {w:World} {K:PySem.W.Frag} {elts:List Expr} {kk:Nat} {pos:Pos} (a e it:Addr) (hei:e≠it) :
  tX P w K (.Tuple elts kk pos) (XB K a) [e,it] e (fun i h=>(∃ old,IsEnum h e it (i:Int) old)/\h.IsListIter it a i) where
 mem:=by simp
 obj:=fun i h st c hc=>by
  obtain ⟨⟨old,s1⟩,⟨o2,s2,_,d2⟩⟩:=st
  simp only [List.mem_cons,List.not_mem_nil,or_false] at hc
  rcases hc with rfl | rfl
  ·exact ⟨_,s1,fun v q=>nomatch q⟩
  ·exact ⟨_,s2,fun v q=>by rw [d2] at q; cases q⟩
 keep:=fun i h h' st k=>by
  obtain ⟨⟨old,s1⟩,s2⟩:=st
  exact ⟨⟨old,k e (by simp) _ s1⟩,s2.at fun o x=>k it (by simp) o x⟩
 item:=by
  intro X hP hw hK hc i pins s σ H E I hf st hg
  subst hP hw hK
  obtain ⟨⟨old,s1⟩,s2⟩:=st
  obtain ⟨xs,x,hx,ex⟩:=hg
  obtain ⟨us,ru,pu,_⟩:=I.list hx
  have pl:=pu.isList
  obtain ⟨xu,hxu,rxu⟩:=ru.get ex
  have hx':us.toArray[i]?=some xu:=by rw [List.getElem?_toArray]; exact hxu
  have lt1:e<s.heap.objs.size:=Heap.lt_size s1
  have lt2:it<s.heap.objs.size:=by obtain ⟨o,z,_⟩:=s2; exact Heap.lt_size z
  refine wpAny_pyNext_enum_item s1 s2 pl hx' hei fun h1 heo hit1 ht1 hz1 hk1=>?_
  refine ⟨_,rfl,wpAny_letOwnedTupleGo_enum (s:={ s with heap:=h1,toks:=s.toks+1 }) heo fun h2 he2 hs2=>?_⟩
  replace hs2:Heap.SameBut e h1 h2:=hs2
  have hTs:s.heap.get? s.heap.objs.size=none:=by
   cases q:s.heap.get? s.heap.objs.size with
   | none=>rfl
   | some o=>exact absurd (Heap.lt_size q) (Nat.lt_irrefl _)
  have hTf:H s.heap.objs.size=none:=I.hok.fresh (Nat.le_refl _)
  have tup:h2.get? s.heap.objs.size=some { cls:=.type "tuple",data:=.seq #[.int i s.toks,xu] }:=hs2.extBut _ _ (Nat.ne_of_gt lt1) ht1
  have kk:∀ c o,c ∉ [e,it]->s.heap.get? c=some o->h2.get? c=some o:=fun c o hc z=>by
   simp only [List.mem_cons,List.not_mem_nil,or_false,not_or] at hc
   exact hs2.extBut _ _ hc.1 (hk1 c o hc.1 hc.2 z)
  have new:yo X.prog X.w (zX H s.heap.objs.size (.tup [.int (i:Int),x])) h2 s.heap.objs.size (.tup [.int (i:Int),x]):=⟨(by show 2<=sizeLine; decide),[.int i s.toks,xu],.cons ⟨_,rfl⟩ (.cons rxu .nil),⟨_,tup,rfl,_,rfl⟩⟩
  refine ⟨.ref s.heap.objs.size,zX H s.heap.objs.size (.tup [.int (i:Int),x]),I.butNew (tk:=s.toks+1) hf kk hTs hTf new,rfl,⟨s.heap.objs.size,hTf,rfl,fun xs' hx'=>?_⟩,⟨⟨xu,?_⟩,hit1.at fun o z=>hs2.extBut _ _ hei.symm z⟩,fun c hc=>?_⟩
  ·rw [I.list_inj hx' hx]
   exact ⟨x,ex,rfl⟩
  ·rw [show ((i+1:Nat):Int)=(i:Int)+1 from rfl]
   exact he2
  ·rw [yf]
   ·exact (hf c hc).1
   ·intro q
    have hlt:c<s.heap.objs.size:=by
     simp only [List.mem_cons,List.not_mem_nil,or_false] at hc
     rcases hc with rfl | rfl
     ·exact lt1
     ·exact lt2
    rw [q] at hlt
    exact absurd hlt (Nat.lt_irrefl _)
 done:=by
  intro X hP hw hK hc i pins s σ H E I hf st hg
  subst hP hw hK
  obtain ⟨⟨old,s1⟩,s2⟩:=st
  obtain ⟨xs,hx,hend⟩:=hg
  obtain ⟨us,ru,pu,_⟩:=I.list hx
  have pl:=pu.isList
  have hx':us.toArray[i]?=none:=by
   rw [List.getElem?_toArray]
   exact List.getElem?_eq_none (by have:=ru.length; omega)
  refine wpAny_pyNext_enum_end (by exact I.ok.hd hc) s1 s2 pl hx' fun h1 he1=>?_
  refine ⟨rfl,I.but (tk:=s.toks) hf fun c ob hcc eb=>?_⟩
  simp only [List.mem_cons,List.not_mem_nil,or_false,not_or] at hcc
  exact he1 c ob hcc.2 eb
 self:=fun _ _ _ _ _ st h=>by
  obtain ⟨⟨old,s1⟩,_⟩:=st
  exact wpAny_pyIter_enum s1 h
section
variable {X:Cx}
noncomputable def La (K:PySem.W.Frag) (ta:TA):TI:=fun σ H R=>ta σ H fun vs H1=>∃ a xs,vs=[.ref a]/\yE K H1 a xs/\R (XB K a) H1
theorem Dx {a:Expr} {ta:TA} {p pos:Pos} {elts:List Expr} {kk:Nat} {tp:Pos} (hg:Gl X "enumerate") (hm:X.mg "enumerate" = none) (ha:PA X [a] ta) (hs:starEach [a] X.env=[(false,eval a X.env)]:=by rfl) :
  PI X (.Tuple elts kk tp) (.Call (.Name "enumerate" p) [a] [] pos) (La X.K ta):=by
 intro pins s σ H R I h
 refine Call_ (j6 I hg hm boot_enumerate (PyProof.Rows.callWith_type1 (zj (ha pos pins s σ H _ I h) fun us s1 ⟨vs,H1,I1,r1,q1⟩=>?_) (by rw [hs]; rfl) rfl))
 obtain ⟨l1,xs,rfl,hx,q⟩:=q1
 obtain ⟨u,rfl,ru⟩:=wN r1
 cases (show u=Value.ref l1 from ru)
 obtain ⟨us,_,pu,_⟩:=I1.list hx
 refine call_enumerate_list pu.isList fun h' a1 a2 hz kp=>?_
 have I2:Inv X pins σ H1 { s1 with heap:=h' }:=I1.kept (t':=s1.toks) kp
 refine wpAny_pyIter_enum (s:={ s1 with heap:=h' }) a1 ?_
 generalize hn:s1.heap.objs.size=n at a1 a2 hz
 refine ⟨n+1,[n+1,n],_,_,H1,rfl,I2,HA l1 (n+1) n (yV (by omega)),⟨⟨_,a1⟩,a2⟩,fun c hc=>?_,q⟩
 have hle:s1.heap.objs.size<=c:=by
  rw [hn]
  simp only [List.mem_cons,List.not_mem_nil,or_false] at hc
  rcases hc with rfl | rfl
  ·exact Nat.le_add_right _ _
  ·exact Nat.le_refl _
 exact I1.fpOk hle (I1.hok.fresh hle)
end
end L2
namespace L3
open PySem PySem.Spec PyProof.Rows L2
noncomputable def numbered (xs:List D):List D:=List.zipWith (fun (i:Nat) x=>D.tup [.int (i:Int),x]) (List.range xs.length) xs
noncomputable def qB (a:FE):FA:=fun σ=>(a σ).bind fun d=>match d with
 | .lst xs=>some (numbered xs)
 | _=>none
theorem jB (xs:List D):(numbered xs).length=xs.length:=by simp [numbered]
theorem YL (xs:List D) (i:Nat):(numbered xs)[i]?=(xs[i]?).map fun x=>D.tup [.int (i:Int),x]:=by
 unfold numbered
 rw [List.getElem?_zipWith]
 by_cases h:i<xs.length
 ·rw [List.getElem?_range h,List.getElem?_eq_getElem h]; rfl
 ·rw [List.getElem?_eq_none (by simpa using h),List.getElem?_eq_none (by omega)]; rfl
section
variable {K:PySem.W.Frag} {G H:Hp}
theorem Om {a:Addr} {vs:List V} {xs:List D} (s1:yE K G a vs) (r1:Reps K G xs vs):tY K (XB K a) G (numbered xs) where
 go:=fun i G2 H g1 g2 hi=>by
  rw [jB] at hi
  obtain ⟨v,e1,_⟩:=r1.get (List.getElem?_eq_getElem hi)
  exact ⟨vs,v,wL (g1.trans g2) s1,e1⟩
 yld:=fun i G2 H x H' g1 g2 hi y=>by
  obtain ⟨p,hp,rfl,k⟩:=y
  obtain ⟨v,e1,rfl⟩:=k vs (wL (g1.trans g2) s1)
  obtain ⟨d1,f1,q1⟩:=r1.at e1
  refine ⟨zX G2 p (.tup [.int (i:Int),v]),.tup [.int (i:Int),d1],zK.lay g2 hp,by rw [YL,f1]; rfl,?_⟩
  have sm:yD G (zX G2 p (.tup [.int (i:Int),v])):=g1.trans (wE (g2.free hp) _)
  exact ⟨p,[.int (i:Int),v],rfl,yR.of yz,⟨_,_,rfl,rfl,⟨v,_,rfl,q1.mono sm,rfl⟩⟩,zU (n:=2) (by decide)⟩
 stop:=fun i G2 H g1 g2 hi=>by
  rw [jB] at hi
  exact ⟨vs,wL (g1.trans g2) s1,by rw [r1.length]; exact hi⟩
end
theorem VL {X:Cx} {a:Expr} {fa:FE} {p pos:Pos} {elts:List Expr} {kk:Nat} {tp:Pos} (hg:Gl X "enumerate") (hm:X.mg "enumerate" = none) (ha:SE X a fa) (hs:yi a=true:=by rfl):SI X (.Tuple elts kk tp) (.Call (.Name "enumerate" p) [a] [] pos) (qB fa):=by
 obtain ⟨t,pt,k⟩:=(zA ha zE hs).h
 refine ⟨⟨_,Dx hg hm pt (vx hs),fun {G0 H0 G H τ σ ds R} K hf q=>?_⟩⟩
 obtain ⟨x,hx,hf⟩:=zF hf
 cases x<;>first | (cases hf; done) | skip
 cases hf
 rename_i xs
 refine k K (ds:=[.lst xs]) (by unfold z8; rw [hx]; rfl) fun vs G1 H1 x1 r1=>?_
 obtain ⟨v,r,rfl,hv,hr⟩:=r1
 cases (show r=[] from hr)
 obtain ⟨aa,vs1,rfl,s1,q1,l1⟩:=hv
 exact ⟨aa,vs1,rfl,wL x1.gh s1,q _ _ _ x1 (by rw [jB]; exact l1) (Om s1 q1)⟩
end L3
namespace L2
open PySem PySem.Spec PyProof PyProof.Rows
noncomputable def qr (a:Int):List Int->List Int
 | []=>[a]
 | b::r=>if a<=b then a::b::r else b::qr a r
noncomputable def isort:List Int->List Int
 | []=>[]
 | a::r=>qr a (isort r)
theorem W7 (a:Int):∀ l:List Int,(qr a l).Perm (a::l)
 | []=>List.Perm.refl _
 | b::r=>by
  unfold qr
  split
  ·exact List.Perm.refl _
  ·exact ((W7 a r).cons b).trans (List.Perm.swap a b r)
theorem isort_perm:∀ l:List Int,(isort l).Perm l
 | []=>List.Perm.refl _
 | a::r=>(W7 a _).trans ((isort_perm r).cons a)
theorem TM (a:Int):∀ {l:List Int},l.Pairwise (·<=·)->(qr a l).Pairwise (·<=·)
 | [],_=>by simp [qr]
 | b::r,h=>by
  obtain ⟨h1,h2⟩:=List.pairwise_cons.mp h
  unfold qr
  split
  ·rename_i hab
   exact List.pairwise_cons.mpr ⟨fun x hx=>by
    rcases List.mem_cons.mp hx with rfl | hx
    ·exact hab
    ·exact Int.le_trans hab (h1 x hx),h⟩
  ·rename_i hab
   refine List.pairwise_cons.mpr ⟨fun x hx=>?_,TM a h2⟩
   rcases List.mem_cons.mp ((W7 a r).mem_iff.mp hx) with rfl | hx
   ·omega
   ·exact h1 x hx
theorem isort_sorted:∀ l:List Int,(isort l).Pairwise (·<=·)
 | []=>List.Pairwise.nil
 | a::r=>TM a (isort_sorted r)
theorem Jf:∀ {a b:List Int},a.Perm b->a.Pairwise (·<=·)->b.Pairwise (·<=·)->a=b
 | [],b,p,_,_=>(List.nil_perm.mp p).symm
 | x::a,[],p,_,_=>by cases p.length_eq
 | x::a,y::b,p,ha,hb=>by
  obtain ⟨h1,h2⟩:=List.pairwise_cons.mp ha
  obtain ⟨g1,g2⟩:=List.pairwise_cons.mp hb
  have e:x=y:=by
   have hx:x∈y::b:=p.mem_iff.mp (List.mem_cons_self ..)
   have hy:y∈x::a:=p.mem_iff.mpr (List.mem_cons_self ..)
   rcases List.mem_cons.mp hx with rfl | hx
   ·rfl
   ·rcases List.mem_cons.mp hy with e | hy
    ·exact e.symm
    ·exact Int.le_antisymm (h1 y hy) (g1 x hx)
  subst e
  rw [Jf (List.perm_cons x |>.mp p) h2 g2]
theorem TQ:∀ {ns:List Int} {its:List Value},IntsAre its ns->zf (ns.map V.int) its
 | [],_,.nil=>.nil
 | _::_,_,.cons _ _ r=>.cons ⟨_,rfl⟩ (TQ r)
section
variable {X:Cx}
end
end L2
namespace L3
open PySem PySem.Spec PyProof.Rows L2
theorem O2:bootBuiltins "sorted" = some (.builtin "sorted"):=by decide +kernel
noncomputable def intsOf:List D->Option (List Int)
 | []=>some []
 | .int i::r=>(intsOf r).bind fun ns=>some (i::ns)
 | _=>none
theorem TV:∀ ns:List Int,intsOf (ns.map D.int)=some ns
 | []=>rfl
 | n::ns=>by
  show (intsOf (ns.map D.int)).bind _=_
  rw [TV ns]
  rfl
theorem TU:∀ {ds:List D} {ns:List Int},intsOf ds=some ns->ds=ns.map D.int
 | [],_,h=>by cases h; rfl
 | d::ds,ns,h=>by
  unfold intsOf at h
  split at h
  ·rename_i e; cases e
  ·rename_i i r e
   cases e
   obtain ⟨ns',h1,h⟩:=zF h
   cases h
   rw [TU h1]
   rfl
  ·cases h
theorem JB {K:PySem.W.Frag} {G:Hp}:∀ {ns:List Int} {vs:List V},Reps K G (ns.map D.int) vs->vs=ns.map V.int
 | [],_,r=>r
 | n::ns,_,r=>by
  obtain ⟨v,r',rfl,hv,hr⟩:=r
  rw [JB hr,show v=V.int n from hv]
  rfl
theorem TN {K:PySem.W.Frag} {G:Hp}:∀ ns:List Int,Reps K G (ns.map D.int) (ns.map V.int)
 | []=>rfl
 | n::ns=>⟨.int n,_,rfl,rfl,TN ns⟩
end L3
namespace L2
open PySem PySem.Spec PyProof.Rows
section
variable {X:Cx}
noncomputable def CA:V->List V->Hp->VK->Prop:=fun x vs H Q=>∃ l xs i y,x=.ref l/\vs=[.int i,y]/\H l=some (.lst xs)/\xs.length<sizeLine/\0<=i/\i<2 ^ 62/\Q .non (zX H l (.lst (xs.take i.toNat++[y]++xs.drop i.toNat)))
theorem Mj:U0 X "list.insert" CA:=by
 intro pins s σ H x vs v us Q I rx rv h
 obtain ⟨l,xs,i,y,rfl,rfl,hH,hz,i0,i1,q⟩:=h
 cases rx
 obtain ⟨u,w,rfl,ru,rw'⟩:=jV rv
 obtain ⟨t,rfl⟩:=(show ∃ t,u=Value.int i t from ru)
 obtain ⟨z,its,n,r,hl,e⟩:=I.lstM hH
 have fit:¬ (!Builtin.List.listFitsIndex i)=true:=by
  unfold Builtin.List.listFitsIndex
  rw [decide_eq_true (show -(2 ^ 63:Int)<=i by omega),decide_eq_true (show i<2 ^ 63 by omega)]
  decide
 refine call_meets F.slot_list_insert ⟨_,e,rfl⟩ F.entry_list_insert (F.args_list_insert_3 _ _ _) (AutoSeq1.list_insert_list_int_val_1 l its.toArray n i t w fit (by rw [List.size_toArray]; omega)) ⟨e,?_⟩
 refine ⟨.non,_,I.lset (its':=its.take i.toNat++[w]++its.drop i.toNat) hH e ?_ (((r.take _).append (.cons rw' .nil)).append (r.drop _)) ?_,rfl,q⟩
 ·show (its.toArray.extract 0 (if i<0 then (i+((its.toArray.size:Nat):Int)).toNat else min i.toNat its.toArray.size)).push w++its.toArray.extract (if i<0 then (i+((its.toArray.size:Nat):Int)).toNat else min i.toNat its.toArray.size)=_
  rw [if_neg (by omega),List.size_toArray]
  apply Array.ext'
  simp only [Array.toList_append,Array.toList_push,Array.toList_extract,List.extract_eq_take_drop,List.drop_zero,Nat.sub_zero]
  have e1:its.take (min i.toNat its.length)=its.take i.toNat:=by
   rcases Nat.le_total i.toNat its.length with h | h
   ·rw [Nat.min_eq_left h]
   ·rw [Nat.min_eq_right h,List.take_of_length_le (Nat.le_refl _),List.take_of_length_le h]
  have e2:(its.drop (min i.toNat its.length)).take (its.length - min i.toNat its.length)=its.drop i.toNat:=by
   rw [List.take_of_length_le (by rw [List.length_drop]; omega)]
   rcases Nat.le_total i.toNat its.length with h | h
   ·rw [Nat.min_eq_left h]
   ·rw [Nat.min_eq_right h,List.drop_of_length_le (Nat.le_refl _),List.drop_of_length_le h]
  first
   | rw [e1,e2]
   | (simp only [List.size_toArray]; rw [e1,e2])
 ·rw [List.length_append,List.length_append,List.length_singleton,List.length_take,List.length_drop]
  omega
end
end L2
namespace L3
open PySem PySem.Spec PyProof.Rows L2
noncomputable def qq (ds:List D) (j:Int) (y:D):List D:=ds.take j.toNat++[y]++ds.drop j.toNat
noncomputable def Yj (i:Nat) (k v:FE):FS:=fun σ=>match σ[i]? with
 | some (some (true,.lst ds))=>(k σ).bind fun x=>(v σ).bind fun y=>match x with
  | .int j=>if 0<=j/\j<2 ^ 62/\ds.length<yO then some (.nx (σ.set i (some (true,.lst (qq ds j y))))) else none
  | _=>none
 | _=>none
section
variable {X:Cx} {e o a b c:Expr} {f fo fa fb fc:FE} {x:Str} {xp p pos apos cpos:Pos}
theorem GL {i:Nat} {k v:Expr} {fk fv:FE} (ho:QE X (.Name x xp) (k_ i)) (hk:SE X k fk) (hv:SE X v fv) (hbase:attributeBase (.Name x xp) "insert" X.env (eval (.Name x xp) X.env)=eval (.Name x xp) X.env:=by rfl) (hline:(apos.endLine == cpos.line)=true:=by rfl) (hs:yi k=true:=by rfl) (hs2:yi v=true:=by rfl) :
  SS X (.Expr (.Call (.Attribute (.Name x xp) "insert" apos) [k,v] [] cpos) pos) (Yj i fk fv):=by
 obtain ⟨t,p,kk⟩:=(zA hk (zA hv zE hs2) hs).h
 refine ⟨⟨_,(Qv (gO PySem.F.plainAttrs_list PySem.F.slot_list_insert PySem.F.type_list_insert Mj ho ⟨p⟩ hbase hline (by rw [List.all_cons,hs,List.all_cons,hs2]; rfl) (by show 2<30; decide)) rfl).h,fun {G0 H0 G H τ σ fl E} K hf q=>?_⟩⟩
 unfold Yj at hf
 split at hf
 ·rename_i ds hd
  obtain ⟨xk,hx,hf⟩:=zF hf
  obtain ⟨y,hy,hf⟩:=zF hf
  cases xk with
  | int j=>
   change (if 0<=j/\j<2 ^ 62/\ds.length<yO then some (Fl.nx (τ.set i (some (true,.lst (qq ds j y))))) else none)=some fl at hf
   by_cases c:0<=j/\j<2 ^ 62/\ds.length<yO
   ·rw [if_pos c] at hf
    cases hf
    obtain ⟨aa,ea,g,z,vs,ev,rs,l⟩:=K.ow _ _ hd
    refine ⟨_,ea,.inl ⟨rfl,vs,yE.of ev⟩,kk K (ds:=[.int j,y]) (by unfold z8; rw [hx,hy]; rfl) fun us G1 H1 x1 r1=>?_⟩
    obtain ⟨u,r,rfl,hu,⟨u2,r2,rfl,hu2,hr⟩⟩:=r1
    cases (show r2=[] from hr)
    cases (show u=_ from hu)
    refine ⟨aa,vs,j,u2,rfl,rfl,x1.h _ _ ev,by rw [rs.length,sizeLine_eq]; exact c.2.2,c.1,c.2.1,?_⟩
    refine q _ _ _ ((K.go x1).mut hd ea ⟨_,yz,(((rs.mono x1.g).take _).append (Reps.one hu2)).append ((rs.mono x1.g).drop _),?_⟩)
    unfold qq
    rw [List.length_append,List.length_append,List.length_singleton,List.length_take,List.length_drop,sizeLine_eq]
    have h2:ds.length<16777216:=c.2.2
    have h3:min j.toNat ds.length+1+(ds.length - j.toNat)<=ds.length+1:=by omega
    exact Nat.le_trans h3 h2
   ·rw [if_neg c] at hf
    cases hf
  | _=>cases hf
 ·cases hf
end
end L3
namespace L3
open PySem PySem.Spec PyProof.Rows L2
section
variable {X:Cx} {a b:Expr} {fa fb:FE} {x:Str} {xp pos:Pos}
end
end L3
namespace L3
open PySem PySem.Spec PyProof.Rows L2
section
variable {X:Cx} {e:Expr} {es:List Expr} {fs:FA} {x:Str} {ps:List Str} {k j:Nat} {FF:List D->Option (Bool×D)} {p pos:Pos}
end
end L3
namespace L3
open PySem PySem.Spec PyProof.Rows L2
section
variable {X:Cx} {e:Expr} {es:List Expr} {fs:FA} {x y:Str} {ps:List Str} {k j:Nat} {FF:List D->Option (Bool×D)} {p pos pos' cpos:Pos}
end
end L3
namespace L3
open PySem PySem.Spec PyProof.Rows L2
section
variable {X:Cx} {x:Str} {xp pos apos cpos:Pos}
end
end L3
namespace L3
open PySem PySem.Spec PyProof.Rows L2
section
variable {K:PySem.W.Frag} {n:Nat} {G0 H0 G H G' H':Hp} {τ:zp} {σ:St}
end
section
variable {X:Cx} {e:Expr} {f:FE} {ft:FT}
end
section
variable {X:Cx} {a b:Expr} {f fa fb:FE} {x:Str} {xp pos apos cpos:Pos} {e:Expr}
end
end L3
namespace L3
open PySem PySem.Spec PyProof.Rows L2
section
variable {X:Cx} {js:List Nat} {e c:Expr} {f:FE} {ft:FT} {g g':FS} {sts sa:List Stmt} {pos xp apos cpos:Pos} {x:Str}
end
section
variable {X:Cx} {js:List Nat} {e0 e1:Expr} {f0 f1:FE} {fm fr:FS} {mid yN:List Stmt} {p1 p2 p3 xp cp sp apos cpos pos:Pos} {x:Str} {kd:Nat}
end
end L3
namespace L2
open PySem PySem.Spec PyProof PyProof.Rows
section
variable {X:Cx}
theorem DI:yM X (compareOp .IsNot) (fun x y H Q=>∃ a b,x=.bl a/\y=.bl b/\Q (.bl (!(a == b))) H):=by
 intro pins s σ H x y v u Q I rx ry h
 obtain ⟨a,b,rfl,rfl,q⟩:=h
 cases rx
 cases ry
 refine PySem.wpAny_isNot_plain (by cases a<;>cases b<;>rfl) ⟨.bl (!(a == b)),H,I,?_,q⟩
 cases a<;>cases b<;>rfl
noncomputable def W9:V->Bool
 | .str _=>true
 | _=>false
noncomputable def gQ (K:PySem.W.Frag):R2:=fun x y H Q=>∃ p xs r ys,x=.ref r/\(yE K H r ys\/yR K H r ys)/\y=.ref p/\yR K H p xs/\xs.all W9=true/\Q (.bl false) H
theorem Jp {A:Around} {s:Shared} {r:Addr} (hr:(∃ its,s.heap.IsList r its)\/∃ its,s.heap.IsTuple r its) (hu:A.units<cLine):∀ {xs:List V} {us:List Value},zf xs us->xs.all W9=true->∀ u∈us,SeqAt.EqAt A s u (.ref r) false
 | _,_,.nil,_=>fun u hu=>by cases hu
 | y::xs,u::us,.cons h t,f=>fun u' hu'=>by
  rw [List.all_cons,Bool.and_eq_true] at f
  rcases List.mem_cons.mp hu' with rfl | hu'
  ·cases y with
   | str z=>
    obtain ⟨tk,rfl⟩:=h
    rcases hr with ⟨its,hl⟩ | ⟨its,hl⟩
    ·exact SeqAt.EqAt.str_list z tk hl hu
    ·exact SeqAt.EqAt.str_tuple z tk hl hu
   | _=>exact absurd f.1 Bool.false_ne_true
  ·exact Jp hr hu t f.2 u' hu'
theorem DC (hu:X.A.units+1<cLine):yM X (compareOp .In) (gQ X.K):=by
 intro pins s σ H x y v u Q I rx ry h
 obtain ⟨p,xs,r,ys,rfl,hq,rfl,hp,fs,q⟩:=h
 cases rx
 cases ry
 obtain ⟨its,rr,pl,hz⟩:=I.tuple hp
 have hr:(∃ its,s.heap.IsList r its)\/∃ its,s.heap.IsTuple r its:=by
  rcases hq with hq | hq
  ·obtain ⟨its2,_,pl2,_⟩:=I.list hq
   exact .inl ⟨_,pl2.isList⟩
  ·obtain ⟨its2,_,pl2,_⟩:=I.tuple hq
   exact .inr ⟨_,pl2⟩
 refine SeqAt.in_tupleAt (fun _=>false) pl (fun w hw=>Jp hr hu rr fs w (by simpa using hw)) ⟨.bl _,H,I,rfl,?_⟩
 rw [show (its.toArray.any fun _=>false)=false by simp]
 exact q
end
end L2
namespace L3
open PySem PySem.Spec PyProof.Rows L2
noncomputable def ky (ys:List D):Bool:=ys.all fun y=>match y with
 | .str _=>true
 | _=>false
noncomputable def W6:D->Option D
 | .tup ys=>if ky ys=true then some (.bl false) else none
 | _=>none
noncomputable def Xp (x y:D):Option D:=match x with
 | .lst _=>W6 y
 | .tup _=>W6 y
 | x=>xK x y
section
variable {X:Cx} {K:PySem.W.Frag}
noncomputable def Zw:D->D->Option D
 | .bl a,.bl b=>some (.bl (!(a == b)))
 | _,_=>none
theorem Bh:vz K (fun x y H Q=>∃ a b,x=.bl a/\y=.bl b/\Q (.bl (!(a == b))) H) Zw:=fun H x y u v d Q rx ry hf=>by
 unfold Zw at hf
 split at hf
 ·rename_i a b
  cases hf
  exact ⟨_,rfl,fun q=>⟨a,b,rx,ry,q⟩⟩
 ·cases hf
theorem JE {H:Hp}:∀ {ys:List D} {vs:List V},Reps K H ys vs->ky ys=true->vs.all W9=true
 | [],_,r,_=>by cases (show _=[] from r); rfl
 | y::ys,_,r,h=>by
  obtain ⟨v,r',rfl,hv,hr⟩:=r
  unfold ky at h
  rw [List.all_cons,Bool.and_eq_true] at h
  rw [List.all_cons,JE hr h.2,Bool.and_true]
  cases y with
  | str z=>rw [(show v=.str z/\_ from hv).1]; rfl
  | _=>exact absurd h.1 Bool.false_ne_true
theorem DB (hu:X.A.units+1<cLine):yM X (compareOp .In) (fun x y H Q=>tF X.K false x y H Q\/gQ X.K x y H Q):=(wv hu).or (DC hu)
theorem B9:vz K (fun x y H Q=>tF K false x y H Q\/gQ K x y H Q) Xp:=fun H x y u v d Q rx ry hf=>by
 have ref:∀ (r:Addr) (ys:List V),u=.ref r->(yE K H r ys\/yR K H r ys)->W6 y=some d->∃ k,d=.bl k/\(Q (.bl k) H->(tF K false u v H Q\/gQ K u v H Q)):=fun r ys hu hq hf=>by
  cases y with
  | tup zs=>
   have hf:(if ky zs=true then some (D.bl false) else none)=some d:=hf
   by_cases c:ky zs=true
   ·rw [if_pos c] at hf
    cases hf
    obtain ⟨b,vs,rfl,sb,rb,_⟩:=ry
    exact ⟨false,rfl,fun q=>.inr ⟨b,vs,r,ys,hu,hq,rfl,sb,JE rb c,q⟩⟩
   ·rw [if_neg c] at hf
    cases hf
  | _=>cases hf
 have old:xK x y=some d->∃ k,d=.bl k/\(Q (.bl k) H->(tF K false u v H Q\/gQ K u v H Q)):=fun hf=>by
  obtain ⟨k,e,z⟩:=wu H x y u v d Q rx ry hf
  exact ⟨k,e,fun q=>.inl (z q)⟩
 cases x with
 | lst xs=>
  obtain ⟨a,vs,ea,sa,_,_⟩:=rx
  exact ref a vs ea (.inl sa) hf
 | tup xs=>
  obtain ⟨a,vs,ea,sa,_,_⟩:=rx
  exact ref a vs ea (.inr sa) hf
 | _=>exact old hf
end
noncomputable def u0:List D->Option (List Bool)
 | []=>some []
 | .bl b::r=>(u0 r).bind fun bs=>some (b::bs)
 | _=>none
theorem UO:∀ bs:List Bool,u0 (bs.map D.bl)=some bs
 | []=>rfl
 | b::bs=>by
  show (u0 (bs.map D.bl)).bind _=_
  rw [UO bs]
  rfl
theorem UN:∀ {ds:List D} {bs:List Bool},u0 ds=some bs->ds=bs.map D.bl
 | [],_,h=>by cases h; rfl
 | d::ds,bs,h=>by
  unfold u0 at h
  split at h
  ·rename_i e; cases e
  ·rename_i b r e
   cases e
   obtain ⟨bs',h1,h⟩:=zF h
   cases h
   rw [UN h1]
   rfl
  ·cases h
theorem JD {K:PySem.W.Frag} {G:Hp}:∀ {bs:List Bool} {vs:List V},Reps K G (bs.map D.bl) vs->vs=bs.map V.bl
 | [],_,r=>r
 | b::bs,_,r=>by
  obtain ⟨v,r',rfl,hv,hr⟩:=r
  rw [JD hr,show v=V.bl b from hv]
  rfl
noncomputable def vh:List D->Option D
 | [.lst xs]=>(u0 xs).bind fun bs=>some (.bl (bs.all id))
 | _=>none
theorem t8 {K:PySem.W.Frag}:jc K (Qy K) vh:=fun G H ds vs d Q s r hf q=>by
 match ds,hf with
 | [.lst xs],hf=>
  obtain ⟨bs,hb,hf⟩:=zF (show (u0 xs).bind _=some d from hf)
  cases hf
  obtain ⟨v,rfl,a,us,rfl,sq,rs,l⟩:=vG r
  rw [UN hb] at rs
  rw [JD rs] at sq
  exact ⟨a,bs,rfl,sq,q _ _ _ (zK.refl s) rfl⟩
end L3
namespace L2
open PySem PySem.Spec PyProof PyProof.Rows
noncomputable def memK (ks:List Key) (k:Key):Bool:=ks.any fun k'=>decide (k'=k)
noncomputable def addK (acc:List Key) (k:Key):List Key:=if memK acc k=true then acc else acc++[k]
theorem U7 (acc:List Key) (k:Key):(addK acc k).length<=acc.length+1:=by
 unfold addK
 split
 ·omega
 ·rw [List.length_append]; exact Nat.le_refl _
theorem WE {k:Key} {v:Value} (h:wJ k v=true):v.scannable=true:=by
 rcases vm h with ⟨i,t,_,rfl⟩ | ⟨x,t,_,rfl⟩<;>rfl
section
variable {prog:Program} {w:World}
noncomputable def vA (prog:Program) (w:World) (a:Addr) (ks:List Key) (h:Heap):Prop:=h.SetOf (yh prog w) a (memK ks) ks.length
theorem vA.keep {a:Addr} {ks:List Key} {h h':Heap} (z:vA prog w a ks h) (k:∀ o,h.get? a=some o->h'.get? a=some o):vA prog w a ks h':=by
 obtain ⟨o,es,ep,t,ho,r⟩:=z
 exact ⟨o,es,ep,t,k o ho,r⟩
theorem vA.grow {a:Addr} {ks:List Key} {k:Key} {h:Heap} (z:h.SetOf (yh prog w) a (fun k'=>memK ks k'||decide (k'=k)) (if memK ks k then ks.length else ks.length+1)):vA prog w a (addK ks k) h:=by
 unfold vA addK
 cases c:memK ks k with
 | true=>
  rw [if_pos rfl]
  rw [c,if_pos rfl] at z
  have e:(fun k'=>memK ks k'||decide (k'=k))=memK ks:=funext fun k'=>by
   by_cases q:k'=k
   ·subst q; rw [c]; rfl
   ·rw [decide_eq_false q,Bool.or_false]
  rw [e] at z
  exact z
 | false=>
  rw [if_neg Bool.false_ne_true]
  rw [c,if_neg Bool.false_ne_true] at z
  have e:(fun k'=>memK ks k'||decide (k'=k))=memK (ks++[k]):=funext fun k'=>by
   unfold memK
   rw [List.any_append,List.any_cons,List.any_nil,Bool.or_false]
   congr 1
   exact decide_eq_decide.mpr ⟨Eq.symm,Eq.symm⟩
  rw [e] at z
  rw [List.length_append]
  exact z
theorem JV {A:Around} {R:Result->Shared->Prop} {d it l:Addr} {its:List Value} (hA:A.handled=none) (hdl:d≠l) (hdi:d≠it) (hli:l≠it) :
  ∀ (ks:List Key) (i:Nat) (acc:List Key) (s:Shared),s.heap.IsListIter it l i->s.heap.IsList l its.toArray->i+ks.length=its.length->(∀ (j:Nat) (k:Key),ks[j]?=some k->∃ v,its[i+j]?=some v/\wJ k v=true)->
   vA prog w d acc s.heap->acc.length+ks.length+1<scanBound->(∀ h' tk,vA prog w d (ks.foldl addK acc) h'->(∀ b o,b≠d->b≠it->s.heap.get? b=some o->h'.get? b=some o)->R (.ok (.ret .none)) { s with heap:=h',toks:=tk })->
   codeAny (model prog w) A (.builtin "set.update.loop" ⟨[.ref d,.ref it],[]⟩) R s
 | [],i,acc,s,st,hl,hn,hp,hd,hz,h=>by
  refine codeAny_builtin F.entry_set_update_loop ?_
  rw [Around.under_plainId F.plain_set_update_loop _]
  unfold Builtin.«set.update.loop»
  refine wpAny_bind (wpAny_pyNext_list_end (by exact hA) st hl (by simp at hn ⊢; omega) fun h' eb=>?_)
  exact wpAny_pure (h h' s.toks (hd.keep fun o e=>eb d o hdi e) fun b o _ hb e=>eb b o hb e)
 | k::ks,i,acc,s,st,hl,hn,hp,hd,hz,h=>by
  obtain ⟨v,hv,hk⟩:=hp 0 k rfl
  refine codeAny_builtin F.entry_set_update_loop ?_
  rw [Around.under_plainId F.plain_set_update_loop _]
  unfold Builtin.«set.update.loop»
  refine wpAny_bind (wpAny_pyNext_list_item st hl (x:=v) (by simpa using hv) fun h1 st1 sb=>?_)
  have keep1:∀ c o,c≠it->s.heap.get? c=some o->h1.get? c=some o:=fun c o hc e=>(sb.2 c hc).trans e
  have hd1:vA prog w d acc h1:=hd.keep fun o e=>keep1 d o hdi e
  rw [List.length_cons] at hz hn
  refine wpAny_bind (wpAny_holding ?_)
  unfold setAdd
  refine wpAny_holding (wpAny_bind ((yh prog w).pyHash (k:=k) hk ?_))
  refine wpAny_setAddHashed_of (knd:=yh prog w) (k:=k) hk (WE hk) hd1 (by omega) fun h2 sb2 hd2=>?_
  have keep2:∀ c o,c≠d->c≠it->s.heap.get? c=some o->h2.get? c=some o:=fun c o a1 a2 e=>(sb2.2 c a1).trans (keep1 c o a2 e)
  refine wpAny_pure ⟨plainId_quiet F.plain_set_update_loop _,?_⟩
  have hl2:=U7 acc k
  refine JV (its:=its) hA hdl hdi hli ks (i+1) (addK acc k) _ ?_ ?_ (by omega) (fun j k' e=>?_) (vA.grow hd2) (by omega) fun h' tk hd' kp=>?_
  ·exact st1.at fun o e=>(sb2.2 it (fun z=>hdi z.symm)).trans e
  ·obtain ⟨o,e,r⟩:=hl
   exact ⟨o,keep2 l o (fun z=>hdl z.symm) hli e,r⟩
  ·obtain ⟨v',hv',hk'⟩:=hp (j+1) k' (by simpa using e)
   exact ⟨v',by rw [show i+1+j=i+(j+1) by omega]; exact hv',hk'⟩
  ·exact h h' tk hd' fun c o a1 a2 e=>kp c o a1 a2 (keep2 c o a1 a2 e)
set_option maxHeartbeats 8000000 in
theorem OF {A:Around} {E:Value->Shared->Prop} {s:Shared} {l:Addr} {o:Obj} {its:List Value} {n:Nat} {ks:List Key} {Q:Value->Shared->Prop} (hA:A.handled=none) (ho:s.heap.get? l=some o) (hc:o.cls=.type "list") (hdat:o.data=.seq its.toArray n)
  (hn:ks.length=its.length) (hp:∀ (j:Nat) (k:Key),ks[j]?=some k->∃ v,its[j]?=some v/\wJ k v=true) (hz:ks.length+1<scanBound)
  (h:∀ h' tk,vA prog w s.heap.objs.size (ks.foldl addK []) h'->(∀ b o,s.heap.get? b=some o->h'.get? b=some o)->Q (.ref s.heap.objs.size) { s with heap:=h',toks:=tk }) :
  wpAny (model prog w) A (call (.type "set") [.ref l]) Q E s:=by
 obtain ⟨_,_,em⟩:=F.called_set.mro
 have e1:=F.called_set.made; have e2:=F.called_set.sub; have e3:=F.called_set.notType; have e4:=F.called_set.canCreate; have e5:=F.typeCall_set_1 (.ref l)
 refine wpAny_call (codeAny_of_tree (show wpAny _ _ (callAny (.type "set") _) _ _ _ from wpAny_pure ⟨Code.quiet_builtin _ (by decide +kernel),codeAny_builtin F.entry_type_call ?_⟩))
 rw [Around.under_plain (weight_type_call_type "set" [.ref l] []) rfl]
 repeat (any_goals (first | wp_step | assumption))
 refine codeAny_mono (code_set_new_1 (.ref l) (E:=E) (Q₁:=fun v s1=>∃ b:Bool,v=.ref s.heap.objs.size/\s1={ s with heap:=s.heap.push { cls:=.type "set",dict:=none,data:=.set #[] 0 (.fresh 0 0 b) } }) fun b=>⟨b,rfl,rfl⟩) fun r s1 hr=>?_
 cases r with
 | error e=>exact hr
 | ok fl=>
  cases fl with
  | ret v=>
   obtain ⟨b,rfl,rfl⟩:=hr
   obtain ⟨h0,hh0⟩:∃ h0,h0=s.heap.push { cls:=.type "set",dict:=none,data:=.set #[] 0 (.fresh 0 0 b) }:=⟨_,rfl⟩
   have g0:h0.get? s.heap.objs.size=some { cls:=.type "set",dict:=none,data:=.set #[] 0 (.fresh 0 0 b) }:=by rw [hh0]; exact Heap.get?_push_size _ rfl
   have k0:∀ c oc,s.heap.get? c=some oc->h0.get? c=some oc:=fun c oc e=>by rw [hh0]; exact Heap.get?_push_of_some _ e
   have z0:h0.objs.size=s.heap.objs.size+1:=by rw [hh0]; exact Heap.size_push ..
   have set0:vA prog w s.heap.objs.size [] h0:=⟨_,#[],0,_,g0,⟨rfl,rfl,rfl⟩,rfl,fun e he=>by simp at he,fun k=>by simp [memK],by decide,by rfl,rfl⟩
   rw [<- hh0]
   have hT:Shared.TypeIs { s with heap:=h0 } (.ref s.heap.objs.size) "set" := ⟨_,g0,rfl⟩
   have i1:=F.called_set.init.lookup; have i2:=F.called_set.init.bind (.ref s.heap.objs.size)
   repeat (any_goals (first | wp_step | assumption))
   refine codeAny_mono (codeAny_call_builtin (R:=wants (fun r s2=>r=.none/\∃ h' tk,s2={ s with heap:=h',toks:=tk }/\vA prog w s.heap.objs.size (ks.foldl addK []) h'/\∀ b o,s.heap.get? b=some o->h'.get? b=some o) E) F.called_set.init.plain F.entry_set_init (check_set_init_1 hT ?_)) fun r2 s2 hr2=>?_
   ·have ho0:=k0 l o ho
    obtain ⟨oc,od,odt,os⟩:=o
    simp only at hc hdat
    subst hc hdat
    have hl0:h0.IsList l its.toArray:=⟨_,ho0,rfl,n,rfl⟩
    have s1:=F.sub_list_set; have s2:=F.sub_list_frozenset
    have ne:(Value.type "list" == Value.type "dict")=false:=by decide
    have hlt:=Heap.lt_size ho
    unfold Builtin.«set.__init__» noKeywords Builtin.Frozenset.updateFrom
    generalize eP:pyIter=P
    wp_walk
    subst eP
    refine wpAny_pyIter_list hl0 (wpAny_bind (wpAny_runValue ?_))
    have ki:∀ c oc,s.heap.get? c=some oc->(h0.push { cls:=.type "list_iterator",data:=.fields #[.ref l,.int 0 0] }).get? c=some oc:=fun c oc e=>Heap.get?_push_of_some _ (k0 c oc e)
    refine JV (l:=l) (its:=its) (by simp [hA]) (yV (Nat.ne_of_gt hlt)) (yV (by rw [z0]; exact Nat.ne_of_lt (Nat.lt_succ_self _))) (yV (by rw [z0]; exact Nat.ne_of_lt (Nat.lt_succ_of_lt hlt))) ks 0 [] _ ⟨_,Heap.get?_push_size _ rfl,rfl,rfl⟩ ⟨_,ki l _ ho,rfl,n,rfl⟩ (by rw [Nat.zero_add]; exact hn) (fun j k e=>by rw [Nat.zero_add]; exact hp j k e) (set0.keep fun oc e=>Heap.get?_push_of_some _ e) (by simpa using hz) fun h' tk hs kp=>?_
    refine wpAny_pure (show wpAny _ _ (ret Value.none) _ _ _ from wpAny_pure ⟨rfl,h',tk,rfl,hs,fun c oc e=>?_⟩)
    have hb:=Heap.lt_size e
    exact kp c oc (yV (Nat.ne_of_lt hb)) (yV (by rw [z0]; exact Nat.ne_of_lt (Nat.lt_succ_of_lt hb))) (ki c oc e)
   ·cases r2 with
    | error e=>exact hr2
    | ok f2=>
     cases f2 with
     | ret r=>
      obtain ⟨rfl,h',tk,rfl,hs,kp⟩:=hr2
      repeat (any_goals (first | wp_step | assumption))
      exact h _ _ hs kp
     | _=>exact hr2.elim
  | _=>exact hr.elim
end
end L2
namespace L2
open PySem PySem.Spec PyProof PyProof.Rows
noncomputable abbrev ZH (prog:Program) (w:World) (a:Addr) (ks:List Key):HO:=.ext (vA prog w a ks)
section
variable {X:Cx}
theorem WG (P:Program) (w:World):∀ {ks:List Key} {its:List Value},zf (ks.map kV) its->∀ (j:Nat) (k:Key),ks[j]?=some k->∃ v,its[j]?=some v/\wJ k v=true
 | [],_,.nil,j,k,h=>by cases h
 | k::ks,_,.cons r t,j,k',h=>by
  cases j with
  | zero=>
   cases h
   exact ⟨_,rfl,uT (P:=P) (w:=w) r⟩
  | succ j=>
   obtain ⟨v,e,q⟩:=WG P w t j k' (by simpa using h)
   exact ⟨v,by simpa using e,q⟩
noncomputable def CI (X:Cx):List V->Hp->VK->Prop:=fun xs H Q=>∃ (a:Addr) (ks:List Key),xs=[.ref a]/\yE X.K H a (ks.map kV)/\ks.length<1000/\∀ p,H p=none->Q (.ref p) (zX H p (ZH X.prog X.w p (ks.foldl addK [])))
theorem OC (hcalm:X.calm=true):xV X (.type "set") (CI X):=by
 intro pins s σ H xs us Q I r h
 obtain ⟨a,ks,rfl,sq,hl,q⟩:=h
 obtain ⟨u,rfl,ru⟩:=wN r
 cases (show u=Value.ref a from ru)
 obtain ⟨its,rv,⟨o,n,ho,hc,hdd,hdat⟩,hz⟩:=I.list sq
 have hn:ks.length=its.length:=by rw [<- rv.length,List.length_map]
 refine OF (I.ok.hd hcalm) ho hc hdat hn (WG X.prog X.w rv) (by unfold scanBound; omega) fun h' tk hs kp=>?_
 refine ⟨.ref s.heap.objs.size,_,I.laid (a:=s.heap.objs.size) (o:=ZH X.prog X.w s.heap.objs.size (ks.foldl addK [])) (t':=tk) kp (Nat.le_refl _) ⟨hs,?_,fun h1 h2 z k=>z.keep k⟩,rfl,q _ I.fresh⟩
 obtain ⟨o',_,_,_,e,_⟩:=hs
 exact ⟨o',e⟩
noncomputable def CG (X:Cx):List V->Hp->VK->Prop:=fun xs H Q=>∃ (a:Addr) (ks:List Key),xs=[.ref a]/\H a=some (ZH X.prog X.w a ks)/\Q (.int ks.length) H
theorem O8:xV X (.builtin "len") (CG X):=by
 intro pins s σ H xs us Q I r h
 obtain ⟨a,ks,rfl,ea,q⟩:=h
 obtain ⟨u,rfl,ru⟩:=wN r
 cases (show u=Value.ref a from ru)
 obtain ⟨⟨o,es,ep,t,ho,hx,hd,_,_,hb,hf,hl⟩,_⟩:=(show yo X.prog X.w H s.heap a (ZH X.prog X.w a ks) from I.hok a _ ea)
 refine call_len_set ho hx hd hf (by unfold scanBound at hb; omega) ?_
 rw [hl]
 exact ⟨.int ks.length,H,I.tok _,⟨_,rfl⟩,q⟩
end
end L2
namespace L2
open PySem PySem.Spec PyProof PyProof.Rows
end L2
namespace L3
open PySem PySem.Spec PyProof.Rows L2
theorem UR:bootBuiltins "set" = some (.type "set"):=by decide +kernel
noncomputable def j4:List D->Option (List (Sum Int Str))
 | []=>some []
 | d::r=>(vT d).bind fun k=>(j4 r).bind fun ks=>some (k::ks)
noncomputable def Xr:List D->Option D
 | [.lst xs]=>(j4 xs).bind fun ks=>if ks.length<1000 then some (.int (ks.foldl addK []).length) else none
 | _=>none
theorem Tg {K:PySem.W.Frag} {G:Hp}:∀ {ds:List D} {ks:List Key} {vs:List V},j4 ds=some ks->Reps K G ds vs->vs=ks.map kV
 | [],_,_,h,r=>by
  cases h
  exact r
 | d::ds,ks,_,h,⟨v,r,rfl,hv,hr⟩=>by
  obtain ⟨k,hk,h⟩:=zF h
  obtain ⟨ks',h1,h⟩:=zF h
  cases h
  rw [Tg h1 hr,List.map_cons]
  cases d with
  | int i=>cases hk; rw [show v=V.int i from hv]; rfl
  | str z=>cases hk; rw [show v=V.str z from hv.1]; rfl
  | _=>cases hk
section
variable {X:Cx} {K:PySem.W.Frag}
theorem Eg {e:Expr} {p p2 pos pos2:Pos} {fs:FA} (hcalm:X.calm=true) (hg:Gl X "len") (hm:X.mg "len" = none) (hg2:Gl X "set") (hm2:X.mg "set" = none) (ha:SA X [e] fs) (hs:yi e=true:=by rfl) :
  SE X (.Call (.Name "len" p) [.Call (.Name "set" p2) [e] [] pos2] [] pos) (eL Xr fs):=by
 obtain ⟨t,pt,k⟩:=ha.h
 have q1:=q_ (p:=p2) (pos:=pos2) (OC hcalm) hg2 hm2 UR ⟨pt⟩ (by decide) (by decide) (by rw [List.all_cons,hs]; rfl)
 refine ⟨⟨_,(gP (p:=p) (pos:=pos) O8 hg hm xF (qI q1 gN) (by decide) (by decide)).h,fun {G0 H0 G H τ σ d Q} E hf q=>?_⟩⟩
 obtain ⟨ds,hd,hf⟩:=zF hf
 refine k E hd fun vs G1 H1 x1 r1=>?_
 match ds,hf with
 | [.lst xs],hf=>
  obtain ⟨ks,hk,hf⟩:=zF hf
  have hlt:ks.length<1000:=by
   by_cases c:ks.length<1000
   ·exact c
   ·rw [if_neg c] at hf; cases hf
  rw [if_pos hlt] at hf
  cases hf
  obtain ⟨v,rfl,a,us,rfl,sq,rs,l⟩:=vG r1
  rw [Tg hk rs] at sq
  refine ⟨a,ks,rfl,wL x1.gh sq,hlt,fun p hp=>?_⟩
  exact ⟨p,_,rfl,yz,q _ _ _ (x1.trans (zK.layO x1.gh hp)) rfl⟩
end
end L3
namespace L2
open PySem PySem.Spec PyProof PyProof.Rows
structure xR (t:SetTable):Prop where
 du:t.dummies=#[]
 up:t.place.toList.Pairwise (·<·)
theorem XS {xs:Array Nat} (up:xs.toList.Pairwise (·<·)) (j:Nat):∀ (f lo hi:Nat),lo<=hi->hi<=xs.size->hi - lo<=f->(∀ (i:Nat) (h:i<xs.size),i<lo->xs[i]<j)->(∀ (i:Nat) (h:i<xs.size),hi<=i->j<=xs[i])->
  SetTable.below.go xs j f lo hi<=xs.size/\(∀ (i:Nat) (h:i<xs.size),i<SetTable.below.go xs j f lo hi->xs[i]<j)/\(∀ (i:Nat) (h:i<xs.size),SetTable.below.go xs j f lo hi<=i->j<=xs[i])
 | 0,lo,hi,h1,h2,h3,a,b=>by
  unfold SetTable.below.go
  exact ⟨by omega,a,fun i h c=>b i h (by omega)⟩
 | f+1,lo,hi,h1,h2,h3,a,b=>by
  have mono:∀ (i k:Nat) (hi:i<xs.size) (hk:k<xs.size),i<k->xs[i]<xs[k]:=fun i k hi hk c=>by
   have:=List.pairwise_iff_getElem.mp up i k (by simpa using hi) (by simpa using hk) c
   simpa using this
  unfold SetTable.below.go
  by_cases c:lo<hi
  ·rw [if_pos c]
   have hm:(lo+hi) / 2<xs.size:=by omega
   have e:xs.getD ((lo+hi) / 2) j=xs[(lo+hi) / 2]:=by simp [Array.getD,hm]
   show (if xs.getD ((lo+hi) / 2) j<j then _ else _)<=_/\_
   dsimp only
   rw [e]
   by_cases q:xs[(lo+hi) / 2]<j
   ·rw [if_pos q]
    refine XS up j f ((lo+hi) / 2+1) hi (by omega) h2 (by omega) (fun i h z=>?_) b
    by_cases y:i=(lo+hi) / 2
    ·subst y; exact q
    ·exact Nat.lt_trans (mono i _ h hm (by omega)) q
   ·rw [if_neg q]
    refine XS up j f lo ((lo+hi) / 2) (by omega) (by omega) (by omega) a (fun i h z=>?_)
    by_cases y:i=(lo+hi) / 2
    ·subst y; omega
    ·have:=mono _ i hm h (by omega)
     omega
  ·rw [if_neg c]
   exact ⟨by omega,a,fun i h z=>b i h (by omega)⟩
theorem XT {xs:Array Nat} (up:xs.toList.Pairwise (·<·)) (j:Nat):SetTable.below xs j<=xs.size/\(∀ (i:Nat) (h:i<xs.size),i<SetTable.below xs j->xs[i]<j)/\(∀ (i:Nat) (h:i<xs.size),SetTable.below xs j<=i->j<=xs[i]):=
 XS up j xs.size 0 xs.size (Nat.zero_le _) (Nat.le_refl _) (by omega) (fun i _ h=>by omega) fun i h c=>by omega
theorem Fw {xs:Array Nat} {j:Nat} (up:xs.toList.Pairwise (·<·)) (no:xs[SetTable.below xs j]?≠some j):(SetTable.insertAt xs (SetTable.below xs j) j).toList.Pairwise (·<·):=by
 obtain ⟨b0,b1,b2⟩:=XT up j
 generalize SetTable.below xs j=p at *
 rw [SetTable.toList_insertAt]
 refine List.pairwise_append.mpr ⟨up.sublist (List.take_sublist ..),List.pairwise_cons.mpr ⟨fun a ha=>?_,up.sublist (List.drop_sublist ..)⟩,fun a ha b hb=>?_⟩
 ·obtain ⟨i,hi,rfl⟩:=List.getElem_of_mem ha
  rw [List.length_drop,Array.length_toList] at hi
  rw [List.getElem_drop,Array.getElem_toList]
  have h1:=b2 (p+i) (by omega) (by omega)
  have h2:xs[p+i]'(by omega)≠j:=fun z=>by
   cases i with
   | zero=>exact no (by rw [Array.getElem?_eq_getElem (by omega)]; exact congrArg some z)
   | succ i=>
    have h3:=b2 p (by omega) (Nat.le_refl _)
    have h4:=List.pairwise_iff_getElem.mp up p (p+(i+1)) (by simp; omega) (by simp; omega) (by omega)
    simp only [Array.getElem_toList] at h4
    omega
  omega
 ·have lt:a<j:=by
   obtain ⟨i,hi,rfl⟩:=List.getElem_of_mem ha
   rw [List.length_take,Array.length_toList] at hi
   rw [List.getElem_take,Array.getElem_toList]
   exact b1 i (by omega) (by omega)
  rcases List.mem_cons.mp hb with rfl | hb
  ·exact lt
  ·obtain ⟨i,hi,rfl⟩:=List.getElem_of_mem hb
   rw [List.length_drop,Array.length_toList] at hi
   rw [List.getElem_drop,Array.getElem_toList]
   have:=b2 (p+i) (by omega) (by omega)
   omega
theorem Q7 {t:SetTable} (h:xR t) (j:Nat):SetTable.has t.dummies j=false:=by
 rw [h.du]
 rfl
theorem GF {t:SetTable} (h:xR t) (j:Nat):(t.slot j=.empty/\t.place[SetTable.below t.place j]?≠some j)\/∃ i,t.slot j=.live i:=by
 unfold SetTable.slot
 dsimp only
 by_cases c:t.place[SetTable.below t.place j]?=some j
 ·rw [if_pos (by rw [c]; exact beq_self_eq_true _)]
  exact .inr ⟨_,rfl⟩
 ·rw [if_neg (by rw [beq_iff_eq]; exact c),Q7 h,if_neg Bool.false_ne_true]
  exact .inl ⟨rfl,c⟩
theorem Qj {t:SetTable} (h:xR t) {f:Nat->Int} {hh:Int}:∀ (n:Nat) (p:SetTable.Probe) {j:Nat} {d:Option Nat},p.dummy=none->SetTable.probe.go t f hh n p=some (.empty j d)->d=none/\t.place[SetTable.below t.place j]?≠some j
 | 0,p,j,d,hp,e=>by
  unfold SetTable.probe.go at e
  cases e
 | n+1,p,j,d,hp,e=>by
  have adv:(t.advance p).dummy=none:=by
   unfold SetTable.advance
   split
   ·exact hp
   ·exact hp
  unfold SetTable.probe.go at e
  rcases GF h p.j with ⟨s,no⟩ | ⟨i,s⟩
  ·rw [s] at e
   dsimp only at e
   cases e
   exact ⟨hp,no⟩
  ·rw [s] at e
   dsimp only at e
   split at e
   ·cases e
   ·exact Qj h n (t.advance p) adv e
theorem xR.stand (t:SetTable) (n:Nat):xR (t.standIn n):=⟨rfl,by
 show (Array.range n).toList.Pairwise (·<·)
 rw [Array.toList_range]
 exact List.pairwise_lt_range⟩
theorem xR.lay {t:SetTable} (h:xR t) (es:Array (Int×Value)) (hh:Int) (x:Value):xR (layNew t es hh x).2.1:=by
 unfold layNew
 split
 ·rename_i slot wd hs
  dsimp only
  have put:xR (t.put slot).1:=by
   unfold SetTable.freeSlot at hs
   split at hs
   ·rename_i j d e
    obtain ⟨rfl,no⟩:=Qj h _ _ (show (t.probeStart hh).dummy=none from rfl) e
    cases hs
    unfold SetTable.put
    refine ⟨?_,?_⟩
    ·show (if SetTable.has t.dummies _=true then _ else _)=_
     rw [Q7 h,if_neg Bool.false_ne_true]
     exact h.du
    ·exact Fw h.up no
   ·cases hs
  unfold SetTable.orStandIn
  split
  ·exact put
  ·exact xR.stand _ _
 ·exact xR.stand _ _
theorem xR.plain {t:SetTable} (h:xR t) (b:Bool):xR { t with plain:=b }:=⟨h.du,h.up⟩
theorem MQ {mask finger moves:Nat} {led plain:Bool} {hs:Array Int} {t':SetTable} {order:Array Nat} (e:SetTable.laid mask finger moves led plain hs=some (t',order)):xR t'/\t'.led=led:=by
 unfold SetTable.laid at e
 cases c:SetTable.layClean mask hs with
 | none=>rw [c] at e; cases e
 | some owner=>
  rw [c] at e
  cases e
  refine ⟨⟨rfl,?_⟩,rfl⟩
  show ((List.filterMap _ _).map _).Pairwise _
  refine List.Pairwise.map _ (R:=fun a b:Nat×Nat=>a.1<b.1) (fun a b z=>z) ?_
  refine List.Pairwise.filterMap _ (R:=fun a b:Nat=>a<b) (fun a b z x hx y hy=>?_) List.pairwise_lt_range
  obtain ⟨_,_,rfl⟩:=Option.map_eq_some_iff.mp hx
  obtain ⟨_,_,rfl⟩:=Option.map_eq_some_iff.mp hy
  exact z
theorem xR.relay {t:SetTable} (es:Array (Int×Value)) (n:Nat) (h:xR t):xR (relayAll t es n).2.1/\(relayAll t es n).2.1.led=t.led:=by
 unfold relayAll
 split
 ·rename_i t' order e
  dsimp only
  split
  ·exact MQ e
  ·exact ⟨xR.stand _ _,rfl⟩
 ·exact ⟨xR.stand _ _,rfl⟩
theorem MV (t:SetTable) (es:Array (Int×Value)) (hh:Int) (x:Value):(layNew t es hh x).2.1.led=t.led:=by
 unfold layNew
 split
 ·dsimp only
  unfold SetTable.orStandIn
  split<;>rfl
 ·rfl
end L2
namespace L2
open PySem PySem.Spec PyProof PyProof.Rows
section
variable {prog:Program} {w:World} {K:Type} [DecidableEq K] {knd:KeyKind prog w K} {A:Around} {E:Value->Shared->Prop}
theorem Qq {h:Heap} {a:Addr} {o:Obj} {es es2:Array (Int×Value)} {ep:Nat} {t t2:SetTable} (ho:h.get? a=some o) (hd:o.data=.set es ep t) :
  (h.update a (Obj.putSet es2 t2)).get? a=some { o with data:=.set es2 (ep+1) t2 }:=by
 have e:=Heap.get?_update_self (Obj.putSet es2 t2) ho (by rw [putSet_of es2 t2 hd]; rfl)
 rw [putSet_of es2 t2 hd] at e
 exact e
theorem Jx {s:Shared} {g:Bool->Sem Unit} (hg:∀ (b:Bool) (s1:Shared) (Q1:Unit->Shared->Prop),Q1 () s1->wpAny (model prog w) A (g b) Q1 E s1) {a:Addr} {o:Obj} {es:Array (Int×Value)} {ep:Nat} {t:SetTable} (ho:s.heap.get? a=some o) (hd:o.data=.set es ep t)
  {es1:Array (Int×Value)} {t2:SetTable} (hb:es1.size<scanBound) (hf:t2.fits es1.size=true) (tb:xR t2) {wd:Bool} {R:Option Bool->Shared->Prop}
  (h:∀ (h':Heap) (es':Array (Int×Value)) (ep':Nat) (t':SetTable),Heap.SameBut a s.heap h'->h'.get? a=some { o with data:=.set es' ep' t' }->es'.toList.Perm es1.toList->t'.fits es'.size=true->xR t'->t'.led=t2.led->R (some true) { s with heap:=h' }) :
  wpAny (model prog w) A (storeSet a es1 t2 >>= fun _=>if (!wd&&t2.tooFull)=true then g (relayAll t2 es1 (SetTable.grown es1.size)).2.2 >>= fun _=>storeSet a (relayAll t2 es1 (SetTable.grown es1.size)).1 (relayAll t2 es1 (SetTable.grown es1.size)).2.1 >>= fun _=>pure (some true) else pure (some true)) R E s:=by
 refine wpAny_bind (wpAny_storeSet_of (es':=es1) (t':=t2) ho hd ?_ (fits_of_scanBound hb))
 have h1:=Qq (es2:=es1) (t2:=t2) ho hd
 have k1:=Heap.SameBut.update s.heap a (Obj.putSet es1 t2)
 split
 ·have pm:=relayAll_perm t2 es1 (SetTable.grown es1.size)
  have hf3:=relayAll_fits t2 es1 (SetTable.grown es1.size)
  obtain ⟨tb3,ld3⟩:=tb.relay es1 (SetTable.grown es1.size)
  generalize relayAll t2 es1 (SetTable.grown es1.size)=L at *
  obtain ⟨es2,t3,gv⟩:=L
  dsimp only at *
  have hz:es2.size=es1.size:=by rw [<- Array.length_toList,pm.length_eq,Array.length_toList]
  refine wpAny_bind (hg gv _ _ (wpAny_bind (wpAny_storeSet_of (es':=es2) (t':=t3) h1 rfl (wpAny_pure ?_) (fits_of_scanBound (by omega)))))
  exact h _ es2 _ t3 (k1.trans (Heap.SameBut.update _ a _)) (Qq (o:={ o with data:=.set es1 (ep+1) t2 }) h1 rfl) pm hf3 tb3 ld3
 ·exact wpAny_pure (h _ es1 _ t2 k1 h1 (List.Perm.refl _) hf tb rfl)
theorem Ik {s:Shared} {a:Addr} {o:Obj} {es:Array (Int×Value)} {ep:Nat} {t:SetTable} {k:K} {x:Value} {Q:Bool->Shared->Prop} (hkey:knd.is k x=true) (hsc:x.scannable=true) (ho:s.heap.get? a=some o) (hd:o.data=.set es ep t) (hel:ElemsOf knd es.toList) (hb:es.size+1<scanBound) (hf:t.fits es.size=true) (tb:xR t)
  (h0:(∃ e∈es.toList,knd.is k e.2=true)->Q false s)
  (h1:(∀ e∈es.toList,knd.is k e.2=false)->∀ (h':Heap) (es':Array (Int×Value)) (ep':Nat) (t':SetTable),Heap.SameBut a s.heap h'->h'.get? a=some { o with data:=.set es' ep' t' }->es'.toList.Perm (es.toList++[(knd.hash k,x)])->t'.fits es'.size=true->xR t'->t'.led=t.led->Q true { s with heap:=h' }) :
  wpAny (model prog w) A (setAddHashed a x (knd.hash k)) Q E s:=by
 unfold setAddHashed setAddHashedIn
 refine wpAny_holding (wpAny_bind (wpAny_setState_of (es:=es) (t:=t) ho hd hf ?_))
 dsimp only
 rw [byScan_of hsc (Nat.lt_of_succ_lt hb) hel,if_pos rfl]
 unfold setAddByScan
 refine wpAny_bind (wpAny_bind (wpAny_rule (wpAny_bind (wpAny_setScan_of hkey ho hd hf hel ?_))))
 cases hr:List.findIdx? (fun e=>knd.is k e.2) es.toList with
 | some j=>
  dsimp only
  obtain ⟨hj,hp,_⟩:=List.findIdx?_eq_some_iff_getElem.mp hr
  exact wpAny_pure (wpAny_pure (h0 ⟨es.toList[j],List.getElem_mem hj,hp⟩))
 | none=>
  dsimp only
  have no:∀ e∈es.toList,knd.is k e.2=false:=fun e he=>List.findIdx?_eq_none_iff.mp hr e he
  have gw:∀ (b:Bool) {s1:Shared} {Q1:Unit->Shared->Prop},Q1 () s1->wpAny (model prog w) A (match b with | true=>rule "set.scan.the-table-gave-way" | false=>pure ()) Q1 E s1:=fun b _ _ q=>by
   cases b
   ·exact wpAny_pure q
   ·exact wpAny_rule q
  have pm:=layNew_perm t es (knd.hash k) x
  have hf1:=layNew_fits t es (knd.hash k) x
  have tb1:=tb.lay es (knd.hash k) x
  have ld1:=MV t es (knd.hash k) x
  generalize layNew t es (knd.hash k) x=L at *
  obtain ⟨es1,t1,wd,gv⟩:=L
  dsimp only at *
  rw [Array.toList_push] at pm
  have hb1:es1.size<scanBound:=by
   rw [<- Array.length_toList,pm.length_eq,List.length_append,Array.length_toList]
   exact hb
  refine wpAny_bind (gw gv ?_)
  split
  ·refine wpAny_bind ?_
   rw [hashByValue_scannable 8 hsc]
   refine wpAny_pure ?_
   have tb2:xR (if plainKind x=true then t1 else { t1 with plain:=false })/\(if plainKind x=true then t1 else { t1 with plain:=false }).led=t1.led/\(if plainKind x=true then t1 else { t1 with plain:=false }).fits es1.size=true:=by
    split
    ·exact ⟨tb1,rfl,hf1⟩
    ·exact ⟨tb1.plain false,rfl,SetTable.fits_plain_off hf1⟩
   refine Jx (fun b s1 Q1 q=>gw b q) ho hd hb1 tb2.2.2 tb2.1 fun h' es' ep' t' kp g p f b l=>?_
   dsimp only
   exact wpAny_pure (h1 no h' es' ep' t' kp g (p.trans pm) f b ((l.trans tb2.2.1).trans ld1))
  ·refine wpAny_bind (wpAny_pure ?_)
   simp only [↓reduceIte]
   refine Jx (fun b s1 Q1 q=>gw b q) ho hd hb1 hf1 tb1 fun h' es' ep' t' kp g p f b l=>?_
   dsimp only
   exact wpAny_pure (h1 no h' es' ep' t' kp g (p.trans pm) f b (l.trans ld1))
end
end L2
namespace L2
open PySem PySem.Spec PyProof PyProof.Rows
noncomputable def qD:Value->Key
 | .int i _=>.inl i
 | .str x _=>.inr x
 | _=>.inl 0
theorem WF {k:Key} {v:Value} (h:wJ k v=true):qD v=k:=by
 rcases vm h with ⟨i,t,rfl,rfl⟩ | ⟨x,t,rfl,rfl⟩<;>rfl
section
variable {prog:Program} {w:World}
noncomputable def vB (prog:Program) (w:World) (a:Addr) (ks:List Key) (h:Heap):Prop:=∃ o es ep t,h.get? a=some o/\o.ExactSet/\o.data=.set es ep t/\ElemsOf (yh prog w) es.toList/\es.size<scanBound/\t.fits es.size=true/\xR t/\t.led=(!w.params.followText "set-order")/\(es.toList.map fun e=>qD e.2).Perm ks
theorem vB.keep {a:Addr} {ks:List Key} {h h':Heap} (z:vB prog w a ks h) (k:∀ o,h.get? a=some o->h'.get? a=some o):vB prog w a ks h':=by
 obtain ⟨o,es,ep,t,ho,r⟩:=z
 exact ⟨o,es,ep,t,k o ho,r⟩
theorem Ur {es:List (Int×Value)} (hel:ElemsOf (yh prog w) es) {e:Int×Value} (he:e∈es):wJ (qD e.2) e.2=true:=by
 obtain ⟨⟨k,hk,_⟩,_⟩:=hel e he
 have hk:wJ k e.2=true:=hk
 rw [WF hk]
 exact hk
theorem Ty {ks:List Key} {k:Key}:memK ks k=true↔k∈ks:=by
 unfold memK
 rw [List.any_eq_true]
 exact ⟨fun ⟨x,hx,e⟩=>of_decide_eq_true e ▸ hx,fun h=>⟨k,h,decide_eq_true rfl⟩⟩
theorem vB.add {A:Around} {E:Value->Shared->Prop} {s:Shared} {a:Addr} {ks:List Key} {k:Key} {x:Value} {Q:Bool->Shared->Prop} (z:vB prog w a ks s.heap) (hk:wJ k x=true) (hb:ks.length+1<scanBound)
  (h:∀ (h':Heap) (b:Bool),(∀ c o,c≠a->s.heap.get? c=some o->h'.get? c=some o)->vB prog w a (addK ks k) h'->Q b { s with heap:=h' }):wpAny (model prog w) A (setAddHashed a x ((yh prog w).hash k)) Q E s:=by
 obtain ⟨o,es,ep,t,ho,hx,hd,hel,hb0,hf,tb,ld,pm⟩:=z
 have hz:es.size=ks.length:=by rw [<- pm.length_eq,List.length_map,Array.length_toList]
 refine Ik (knd:=yh prog w) (k:=k) hk (WE hk) ho hd hel (by omega) hf tb (fun ⟨e,he,q⟩=>?_) fun no h' es' ep' t' kp g p f tb' l=>?_
 ·have q:wJ k e.2=true:=q
  have m:memK ks k=true:=Ty.mpr (pm.mem_iff.mp (List.mem_map.mpr ⟨e,he,WF q⟩))
  have ea:addK ks k=ks:=by unfold addK; rw [m,if_pos rfl]
  have:=h s.heap false (fun _ _ _ e=>e) (by rw [ea]; exact ⟨o,es,ep,t,ho,hx,hd,hel,hb0,hf,tb,ld,pm⟩)
  exact this
 ·have m:memK ks k=false:=by
   cases c:memK ks k with
   | false=>rfl
   | true=>
    exfalso
    obtain ⟨e,he,q⟩:=List.mem_map.mp (pm.mem_iff.mpr (Ty.mp c))
    have i:=Ur hel he
    rw [q] at i
    have n:wJ k e.2=false:=no e he
    rw [n] at i
    cases i
  have ea:addK ks k=ks++[k]:=by unfold addK; rw [m,if_neg Bool.false_ne_true]
  have ez:es'.size=es.size+1:=by rw [<- Array.length_toList,p.length_eq,List.length_append,Array.length_toList]; rfl
  refine h h' true (fun c oc hc e=>(kp.2 c hc).trans e) ?_
  rw [ea]
  refine ⟨_,es',ep',t',g,hx,rfl,(hel.push (knd:=yh prog w) (k:=k) hk (WE hk)).perm p,by omega,f,tb',l.trans ld,?_⟩
  refine (p.map fun e=>qD e.2).trans ?_
  rw [List.map_append]
  refine pm.append (List.Perm.of_eq ?_)
  show [qD x]=[k]
  rw [WF hk]
theorem El {A:Around} {E:Value->Shared->Prop} {s:Shared} (a:Value) {Q₁:Value->Shared->Prop} (h:Q₁ (.ref s.heap.objs.size) { s with heap:=s.heap.push { cls:=.type "set",dict:=none,data:=.set #[] 0 (.fresh 0 0 (!w.params.followText "set-order")) } }) :
  codeAny (model prog w) A (.call (.builtin "set.__new__") ⟨[.type "set",a],[]⟩) (wants Q₁ E) s:=by
 refine codeAny_of_tree (show wpAny _ A.in1 (checkBuiltinCall "set.__new__" ⟨[.type "set",a],[]⟩ >>= fun _=>again (.builtin "set.__new__" ⟨[.type "set",a],[]⟩)) _ _ s from ?_)
 refine wpAny_bind (wpAny_of_eq (F.newCall_set_1 a) (wpAny_pure ⟨plainId_quiet F.plain_set_new _,codeAny_builtin (F.entry_set_new) ?_⟩))
 rw [Around.under_plainId (F.plain_set_new) _]
 unfold Builtin.«set.__new__» Builtin.Frozenset.newClass
 have e:=sub_set_self
 obtain ⟨hp,g,d,tk,os⟩:=s
 dsimp only
 wp_walk
 refine wpAny_askSetting (wpAny_pure ?_)
 dsimp only
 simp only [newObj]
 exact wpAny_bind (wpAny_alloc (wpAny_pure (wpAny_pure h)))
theorem JW {A:Around} {R:Result->Shared->Prop} {d it l:Addr} {its:List Value} (hA:A.handled=none) (hdl:d≠l) (hdi:d≠it) (hli:l≠it) :
  ∀ (ks:List Key) (i:Nat) (acc:List Key) (s:Shared),s.heap.IsListIter it l i->s.heap.IsList l its.toArray->i+ks.length=its.length->(∀ (j:Nat) (k:Key),ks[j]?=some k->∃ v,its[i+j]?=some v/\wJ k v=true)->
   vB prog w d acc s.heap->acc.length+ks.length+1<scanBound->(∀ h' tk,vB prog w d (ks.foldl addK acc) h'->(∀ b o,b≠d->b≠it->s.heap.get? b=some o->h'.get? b=some o)->R (.ok (.ret .none)) { s with heap:=h',toks:=tk })->
   codeAny (model prog w) A (.builtin "set.update.loop" ⟨[.ref d,.ref it],[]⟩) R s
 | [],i,acc,s,st,hl,hn,hp,hd,hz,h=>by
  refine codeAny_builtin F.entry_set_update_loop ?_
  rw [Around.under_plainId F.plain_set_update_loop _]
  unfold Builtin.«set.update.loop»
  refine wpAny_bind (wpAny_pyNext_list_end (by exact hA) st hl (by simp at hn ⊢; omega) fun h' eb=>?_)
  exact wpAny_pure (h h' s.toks (hd.keep fun o e=>eb d o hdi e) fun b o _ hb e=>eb b o hb e)
 | k::ks,i,acc,s,st,hl,hn,hp,hd,hz,h=>by
  obtain ⟨v,hv,hk⟩:=hp 0 k rfl
  refine codeAny_builtin F.entry_set_update_loop ?_
  rw [Around.under_plainId F.plain_set_update_loop _]
  unfold Builtin.«set.update.loop»
  refine wpAny_bind (wpAny_pyNext_list_item st hl (x:=v) (by simpa using hv) fun h1 st1 sb=>?_)
  have keep1:∀ c o,c≠it->s.heap.get? c=some o->h1.get? c=some o:=fun c o hc e=>(sb.2 c hc).trans e
  have hd1:vB prog w d acc h1:=hd.keep fun o e=>keep1 d o hdi e
  rw [List.length_cons] at hz hn
  refine wpAny_bind (wpAny_holding ?_)
  unfold setAdd
  refine wpAny_holding (wpAny_bind ((yh prog w).pyHash (k:=k) hk ?_))
  refine hd1.add (s:={ s with heap:=h1,toks:=_ }) hk (by omega) fun h2 bb kp2 hd2=>?_
  have keep2:∀ c o,c≠d->c≠it->s.heap.get? c=some o->h2.get? c=some o:=fun c o a1 a2 e=>(kp2 c o a1 (keep1 c o a2 e))
  refine wpAny_pure ⟨plainId_quiet (F.plain_set_update_loop) _,?_⟩
  have hl2:=U7 acc k
  refine JW (its:=its) hA hdl hdi hli ks (i+1) (addK acc k) _ ?_ ?_ (by omega) (fun j k' e=>?_) hd2 (by omega) fun h' tk hd' kp=>?_
  ·exact st1.at fun o e=>kp2 it o (fun z=>hdi z.symm) e
  ·obtain ⟨o,e,r⟩:=hl
   exact ⟨o,keep2 l o (fun z=>hdl z.symm) hli e,r⟩
  ·obtain ⟨v',hv',hk'⟩:=hp (j+1) k' (by simpa using e)
   exact ⟨v',by rw [show i+1+j=i+(j+1) by omega]; exact hv',hk'⟩
  ·exact h h' tk hd' fun c o a1 a2 e=>kp c o a1 a2 (keep2 c o a1 a2 e)
set_option maxHeartbeats 8000000 in
theorem OG {A:Around} {E:Value->Shared->Prop} {s:Shared} {l:Addr} {o:Obj} {its:List Value} {n:Nat} {ks:List Key} {Q:Value->Shared->Prop} (hA:A.handled=none) (ho:s.heap.get? l=some o) (hc:o.cls=.type "list") (hdat:o.data=.seq its.toArray n)
  (hn:ks.length=its.length) (hp:∀ (j:Nat) (k:Key),ks[j]?=some k->∃ v,its[j]?=some v/\wJ k v=true) (hz:ks.length+1<scanBound)
  (h:∀ h' tk,vB prog w s.heap.objs.size (ks.foldl addK []) h'->(∀ b o,s.heap.get? b=some o->h'.get? b=some o)->Q (.ref s.heap.objs.size) { s with heap:=h',toks:=tk }) :
  wpAny (model prog w) A (call (.type "set") [.ref l]) Q E s:=by
 obtain ⟨_,_,em⟩:=F.called_set.mro
 have e1:=F.called_set.made; have e2:=F.called_set.sub; have e3:=F.called_set.notType; have e4:=F.called_set.canCreate; have e5:=F.typeCall_set_1 (.ref l)
 refine wpAny_call (codeAny_of_tree (show wpAny _ _ (callAny (.type "set") _) _ _ _ from wpAny_pure ⟨Code.quiet_builtin _ (by decide +kernel),codeAny_builtin F.entry_type_call ?_⟩))
 rw [Around.under_plain (weight_type_call_type "set" [.ref l] []) rfl]
 repeat (any_goals (first | wp_step | assumption))
 refine codeAny_mono (El (.ref l) (E:=E) (Q₁:=fun v s1=>v=.ref s.heap.objs.size/\s1={ s with heap:=s.heap.push { cls:=.type "set",dict:=none,data:=.set #[] 0 (.fresh 0 0 (!w.params.followText "set-order")) } }) ⟨rfl,rfl⟩) fun r s1 hr=>?_
 cases r with
 | error e=>exact hr
 | ok fl=>
  cases fl with
  | ret v=>
   obtain ⟨rfl,rfl⟩:=hr
   generalize hb0:(!w.params.followText "set-order")=b
   obtain ⟨h0,hh0⟩:∃ h0,h0=s.heap.push { cls:=.type "set",dict:=none,data:=.set #[] 0 (.fresh 0 0 b) }:=⟨_,rfl⟩
   have g0:h0.get? s.heap.objs.size=some { cls:=.type "set",dict:=none,data:=.set #[] 0 (.fresh 0 0 b) }:=by rw [hh0]; exact Heap.get?_push_size _ rfl
   have k0:∀ c oc,s.heap.get? c=some oc->h0.get? c=some oc:=fun c oc e=>by rw [hh0]; exact Heap.get?_push_of_some _ e
   have z0:h0.objs.size=s.heap.objs.size+1:=by rw [hh0]; exact Heap.size_push ..
   have set0:vB prog w s.heap.objs.size [] h0:=⟨_,#[],0,_,g0,⟨rfl,rfl,rfl⟩,rfl,fun e he=>by simp at he,by decide,by rfl,⟨rfl,List.Pairwise.nil⟩,hb0.symm,List.Perm.refl _⟩
   rw [<- hh0]
   have hT:Shared.TypeIs { s with heap:=h0 } (.ref s.heap.objs.size) "set" := ⟨_,g0,rfl⟩
   have i1:=F.called_set.init.lookup; have i2:=F.called_set.init.bind (.ref s.heap.objs.size)
   repeat (any_goals (first | wp_step | assumption))
   refine codeAny_mono (codeAny_call_builtin (R:=wants (fun r s2=>r=.none/\∃ h' tk,s2={ s with heap:=h',toks:=tk }/\vB prog w s.heap.objs.size (ks.foldl addK []) h'/\∀ b o,s.heap.get? b=some o->h'.get? b=some o) E) F.called_set.init.plain F.entry_set_init (check_set_init_1 hT ?_)) fun r2 s2 hr2=>?_
   ·have ho0:=k0 l o ho
    obtain ⟨oc,od,odt,os⟩:=o
    simp only at hc hdat
    subst hc hdat
    have hl0:h0.IsList l its.toArray:=⟨_,ho0,rfl,n,rfl⟩
    have s1:=F.sub_list_set; have s2:=F.sub_list_frozenset
    have ne:(Value.type "list" == Value.type "dict")=false:=by decide
    have hlt:=Heap.lt_size ho
    unfold Builtin.«set.__init__» noKeywords Builtin.Frozenset.updateFrom
    generalize eP:pyIter=P
    wp_walk
    subst eP
    refine wpAny_pyIter_list hl0 (wpAny_bind (wpAny_runValue ?_))
    have ki:∀ c oc,s.heap.get? c=some oc->(h0.push { cls:=.type "list_iterator",data:=.fields #[.ref l,.int 0 0] }).get? c=some oc:=fun c oc e=>Heap.get?_push_of_some _ (k0 c oc e)
    refine JW (l:=l) (its:=its) (by simp [hA]) (yV (Nat.ne_of_gt hlt)) (yV (by rw [z0]; exact Nat.ne_of_lt (Nat.lt_succ_self _))) (yV (by rw [z0]; exact Nat.ne_of_lt (Nat.lt_succ_of_lt hlt))) ks 0 [] _ ⟨_,Heap.get?_push_size _ rfl,rfl,rfl⟩ ⟨_,ki l _ ho,rfl,n,rfl⟩ (by rw [Nat.zero_add]; exact hn) (fun j k e=>by rw [Nat.zero_add]; exact hp j k e) (set0.keep fun oc e=>Heap.get?_push_of_some _ e) (by simpa using hz) fun h' tk hs kp=>?_
    refine wpAny_pure (show wpAny _ _ (ret Value.none) _ _ _ from wpAny_pure ⟨rfl,h',tk,rfl,hs,fun c oc e=>?_⟩)
    have hb:=Heap.lt_size e
    exact kp c oc (yV (Nat.ne_of_lt hb)) (yV (by rw [z0]; exact Nat.ne_of_lt (Nat.lt_succ_of_lt hb))) (ki c oc e)
   ·cases r2 with
    | error e=>exact hr2
    | ok f2=>
     cases f2 with
     | ret r=>
      obtain ⟨rfl,h',tk,rfl,hs,kp⟩:=hr2
      repeat (any_goals (first | wp_step | assumption))
      exact h _ _ hs kp
     | _=>exact hr2.elim
  | _=>exact hr.elim
end
end L2
namespace L2
open PySem PySem.Spec PyProof PyProof.Rows
theorem km:Slot "set_iterator" "__next__" "set_iterator.__next__":=
 .of (owner := "set_iterator") (n := "__next__") (by rw [typeLookup_type,builtinLookup_eq_fast]; kernel_rfl) (by decide +kernel) (by decide +kernel) (by decide +kernel) (by first | exact .inl (by decide +kernel) | exact .inr (by decide +kernel)) (by rw [isSubtype_type]; kernel_rfl)
theorem Jc:Slot "set_iterator" "__iter__" "set_iterator.__iter__":=
 .of (owner := "set_iterator") (n := "__iter__") (by rw [typeLookup_type,builtinLookup_eq_fast]; kernel_rfl) (by decide +kernel) (by decide +kernel) (by decide +kernel) (by first | exact .inl (by decide +kernel) | exact .inr (by decide +kernel)) (by rw [isSubtype_type]; kernel_rfl)
theorem G4:entryFor table "set_iterator.__next__" = some Builtin.«set_iterator.__next__»:=entryFor_of_tree (by kernel_rfl)
theorem E_:entryFor table "set_iterator.__iter__" = some Builtin.«dict_keyiterator.__iter__»:=entryFor_alias (id' := "dict_keyiterator.__iter__") (by kernel_rfl) (by first | rfl | decide +kernel) (by decide +kernel) (by kernel_rfl)
theorem Ek:entryFor table "set.__iter__" = some Builtin.«frozenset.__iter__»:=entryFor_alias (id' := "frozenset.__iter__") (by kernel_rfl) rfl (by decide +kernel) (by kernel_rfl)
theorem Jb:Manifest.owners.lookup (String.ofList "set_iterator".toList)=some Manifest.sig_set_iterator:=by kernel_rfl
theorem Ez (a:Value):argsOk "set_iterator.__next__" ⟨[a],[]⟩:=by
 unfold argsOk; rw [signature?_of (id := "set_iterator.__next__") (n:=['_','_','t','x','e','n','_','_']) (o:=['r','o','t','a','r','e','t','i','_','t','e','s']) (by kernel_rfl) Jb]; kernel_rfl
theorem Ey (a:Value):argsOk "set_iterator.__iter__" ⟨[a],[]⟩:=by
 unfold argsOk; rw [signature?_of (id := "set_iterator.__iter__") (n:=['_','_','r','e','t','i','_','_']) (o:=['r','o','t','a','r','e','t','i','_','t','e','s']) (by kernel_rfl) Jb]; kernel_rfl
section
variable {M:Model} {A:Around} {E:Value->Shared->Prop}
theorem OL {s:Shared} {src:Source} {n:Nat} {Q:Nat->Shared->Prop} (hn:n≠0) (h:∀ i d,i<n->Q i { s with drawn:=d }):wpAny M A (choose src n) Q E s:=
 fun _ _ _=>⟨hn,h _ _ (Nat.mod_lt _ (Nat.pos_of_ne_zero hn))⟩
theorem Xm {α:Type}:∀ {xs:List α} {i:Nat} {x:α},xs[i]?=some x->(x::xs.eraseIdx i).Perm xs
 | [],_,_,h=>by cases h
 | y::ys,0,x,h=>by
  cases h
  exact List.Perm.refl _
 | y::ys,i+1,x,h=>(List.Perm.swap y x _).trans ((Xm (by simpa using h)).cons y)
theorem Uj {α:Type}:∀ (n:Nat) (xs:List α) (s:Shared) {Q:List α->Shared->Prop},xs.length<=n->(∀ ys d,ys.Perm xs->Q ys { s with drawn:=d })->wpAny M A (drawOrder n xs) Q E s
 | 0,xs,s,Q,hn,h=>by
  cases xs with
  | nil=>
   unfold drawOrder
   exact wpAny_pure (h [] s.drawn (List.Perm.refl _))
  | cons _ _=>simp at hn
 | n+1,[],s,Q,hn,h=>by
  unfold drawOrder
  exact wpAny_pure (h [] s.drawn (List.Perm.refl _))
 | n+1,x::xs,s,Q,hn,h=>by
  unfold drawOrder
  refine wpAny_bind (OL (by simp) fun i d hi=>?_)
  have e:(x::xs)[i]?=some ((x::xs)[i]):=List.getElem?_eq_getElem hi
  rw [e]
  have hl:((x::xs).eraseIdx i).length<=n:=by
   rw [List.length_eraseIdx,if_pos hi]
   rw [List.length_cons] at hn ⊢
   omega
  refine wpAny_bind (Uj n _ { s with drawn:=d } hl fun ys d' p=>wpAny_pure ?_)
  exact h _ d' ((List.Perm.cons _ p).trans (Xm e))
end
theorem QZ {α:Type} (next:Nat->Nat):∀ (n k:Nat) (left:List α) (out:Array α),left.length<=n->(pickOrder.go next n k left out).toList.Perm (out.toList++left)
 | 0,k,left,out,h=>by
  cases left with
  | nil=>
   unfold pickOrder.go
   exact List.Perm.of_eq (List.append_nil _).symm
  | cons _ _=>simp at h
 | n+1,k,left,out,h=>by
  unfold pickOrder.go
  cases left with
  | nil=>exact List.Perm.of_eq (List.append_nil _).symm
  | cons x xs=>
   have hi:next k % (x::xs).length<(x::xs).length:=Nat.mod_lt _ (by simp)
   have e:(x::xs)[next k % (x::xs).length]?=some ((x::xs)[next k % (x::xs).length]):=List.getElem?_eq_getElem hi
   rw [e]
   dsimp only
   have hl:((x::xs).eraseIdx (next k % (x::xs).length)).length<=n:=by
    rw [List.length_eraseIdx,if_pos hi]
    rw [List.length_cons] at h ⊢
    omega
   refine (QZ next n (k+1) _ _ hl).trans ?_
   rw [Array.toList_push,List.append_assoc]
   exact (List.Perm.refl _).append (Xm e)
theorem FI {α:Type} (next:Nat->Nat) (xs:Array α):(pickOrder next xs).toList.Perm xs.toList:=by
 show (pickOrder.go next xs.size 0 xs.toList #[]).toList.Perm _
 have:=QZ next xs.size 0 xs.toList #[] (by simp)
 simpa using this
theorem Ix {xs:Array Nat} (up:xs.toList.Pairwise (·<·)):SetTable.below xs 0=0:=by
 obtain ⟨a,b,_⟩:=XT up 0
 by_cases c:SetTable.below xs 0=0
 ·exact c
 ·have:=b 0 (by omega) (by omega)
  omega
theorem Iw {xs:Array Nat} (up:xs.toList.Pairwise (·<·)) {i:Nat} (h:i<xs.size):SetTable.below xs (xs[i]+1)=i+1:=by
 obtain ⟨a,b,c⟩:=XT up (xs[i]+1)
 generalize SetTable.below xs (xs[i]+1)=p at *
 rcases Nat.lt_trichotomy p (i+1) with q | q | q
 ·have:=c i h (by omega)
  omega
 ·exact q
 ·have h1:=b (i+1) (by omega) q
  have h2:=List.pairwise_iff_getElem.mp up i (i+1) (by simpa using h) (by simp; omega) (by omega)
  simp only [Array.getElem_toList] at h2
  omega
end L2
namespace L2
open PySem PySem.Spec PyProof PyProof.Rows
section
variable {prog:Program} {w:World} {A:Around} {E:Value->Shared->Prop}
noncomputable def pM (h:Heap) (I:Addr) (fs:Array Value):Prop:=h.get? I=some { cls:=.type "set_iterator",data:=.fields fs }
structure Wk (w:World) (a:Addr) (es:Array (Int×Value)) (ep:Nat) (t:SetTable) (ord:List Value) (I tp:Addr) (i:Nat) (h:Heap):Prop where
 st:∃ o,h.get? a=some o/\o.data=.set es ep t
 md:(w.params.followText "set-order" = true/\ord=(pickOrder (w.params.setOrder a ep) es).toList.map (·.2)/\∃ sl:Nat,pM h I #[rawInt sl,rawInt i,.ref a,rawInt es.size,rawInt ep]) \/
  (w.params.followText "set-order" = false/\(!t.plain&&decide (es.size > 1))=false/\t.led=true/\xR t/\ord=es.toList.map (·.2)/\∃ sl:Nat,pM h I #[rawInt sl,rawInt i,.ref a,rawInt es.size,rawInt ep]/\SetTable.below t.place sl=i) \/
  ∃ places:List Nat,ord=places.map (fun p=>(es.getD p (0,.none)).2)/\(∀ p∈places,p<es.size)/\pM h I #[.ref tp,rawInt i,.ref a,rawInt es.size,rawInt ep]/\h.get? tp=some { cls:=.type "tuple",data:=.seq (places.map fun p:Nat=>rawInt p).toArray }
theorem Lu {s:Shared} {a:Addr} {o:Obj} {es:Array (Int×Value)} {ep:Nat} {t:SetTable} {Q:Value->Shared->Prop} (ho:s.heap.get? a=some o) (hx:o.ExactSet) (hd:o.data=.set es ep t) (hf:t.fits es.size=true) (hb:es.size<scanBound) (tb:xR t) (ld:t.led=(!w.params.followText "set-order"))
  (h:∀ h' d ord I tp,ord.Perm (es.toList.map (·.2))->s.heap.objs.size<=I->(tp=a\/s.heap.objs.size<=tp)->I≠tp->Wk w a es ep t ord I tp 0 h'->(∀ b ob,s.heap.get? b=some ob->h'.get? b=some ob)->Q (.ref I) { s with heap:=h',drawn:=d }):wpAny (model prog w) A (pyIter (.ref a)) Q E s:=by
 have hT:s.TypeIs (.ref a) "set" := ⟨o,ho,hx.1⟩
 refine wpAny_pyIter_slot hT F.slot_set_iter (wpAny_call_entry (F.slot_set_iter) hT Ek ?_ (F.args_set_iter_1 _))
 unfold Builtin.«frozenset.__iter__» Builtin.Frozenset.slot0 slotArgs
 simp only [List.isEmpty_nil,Bool.not_true,Bool.false_eq_true,↓reduceIte,bind_assoc,List.length_nil,bne_self_eq_false]
 unfold Builtin.Frozenset.addrOf Builtin.Frozenset.sizeOf
 refine wpAny_bind (wpAny_pure ?_)
 try dsimp only
 refine wpAny_bind (wpAny_pure ?_)
 refine wpAny_bind (wpAny_bind (wpAny_setEntries_of (es:=es) ho hd hf (wpAny_pure ?_)))
 unfold setDrawn setsByText
 refine wpAny_bind (wpAny_bind (wpAny_setState_of (es:=es) (t:=t) ho hd hf ?_))
 dsimp only
 refine wpAny_bind (wpAny_bind (wpAny_askSetting (wpAny_pure (wpAny_pure ?_))))
 show wpAny _ _ (if (!w.params.followText "set-order" && (!t.plain&&decide (es.size > 1)))=true then _ else _) _ _ _
 have hn:es.size<=sizeLine:=fits_of_scanBound hb
 by_cases c:(!w.params.followText "set-order" && (!t.plain&&decide (es.size > 1)))=true
 ·rw [if_pos c]
  refine wpAny_bind (Uj es.size _ s (by simp) fun ys d p=>?_)
  have ly:ys.length=es.size:=by rw [p.length_eq,List.length_range]
  refine wpAny_bind (wpAny_newTuple ?_ (by rw [List.length_map,ly]; exact hn))
  have ho1:(s.heap.push { cls:=.type "tuple",data:=.seq (ys.map fun i:Nat=>rawInt i).toArray }).get? a=some o:=Heap.get?_push_of_some _ ho
  refine wpAny_bind (wpAny_setEpoch_of (es:=es) (t:=t) ho1 hd hf ?_)
  unfold newFields
  refine wpAny_bind (wpAny_newObj_type (wpAny_pure ⟨_,rfl, "set_iterator",_,⟨_,Heap.get?_push_size _ rfl,rfl⟩,km.lookup,?_⟩))
  refine h _ d (ys.map fun p=>(es.getD p (0,.none)).2) _ s.heap.objs.size ?_ ?_ (.inr (Nat.le_refl _)) ?_ ⟨⟨o,Heap.get?_push_of_some _ ho1,hd⟩,.inr (.inr ⟨ys,rfl,fun q hq=>?_,Heap.get?_push_size _ rfl,Heap.get?_push_of_some _ (Heap.get?_push_size _ rfl)⟩)⟩ fun b ob e=>Heap.get?_push_of_some _ (Heap.get?_push_of_some _ e)
  ·refine (p.map _).trans (List.Perm.of_eq ?_)
   refine List.ext_getElem (by simp) fun j h1 h2=>?_
   have hj:j<es.size:=by simpa using h1
   simp [Array.getD,hj]
  ·rw [Heap.size_push]
   exact Nat.le_succ _
  ·rw [Heap.size_push]
   exact yV (Nat.ne_of_gt (Nat.lt_succ_self _))
  ·simpa using p.mem_iff.mp hq
 ·rw [if_neg c]
  refine wpAny_bind (wpAny_pure (wpAny_bind (wpAny_setEpoch_of (es:=es) (t:=t) ho hd hf ?_)))
  unfold newFields
  refine wpAny_bind (wpAny_newObj_type (wpAny_pure ⟨_,rfl, "set_iterator",_,⟨_,Heap.get?_push_size _ rfl,rfl⟩,km.lookup,?_⟩))
  cases f:w.params.followText "set-order" with
  | true=>
   exact h _ s.drawn _ _ a ((FI (w.params.setOrder a ep) es).map (·.2)) (Nat.le_refl _) (.inl rfl) (yV (Nat.ne_of_gt (Heap.lt_size ho))) ⟨⟨o,Heap.get?_push_of_some _ ho,hd⟩,.inl ⟨f,rfl,0,Heap.get?_push_size _ rfl⟩⟩ fun b ob e=>Heap.get?_push_of_some _ e
  | false=>
   rw [f] at c ld
   have c:(!t.plain&&decide (es.size > 1))=false:=by
    rw [Bool.not_eq_true] at c
    exact c
   exact h _ s.drawn _ _ a (List.Perm.refl _) (Nat.le_refl _) (.inl rfl) (yV (Nat.ne_of_gt (Heap.lt_size ho))) ⟨⟨o,Heap.get?_push_of_some _ ho,hd⟩,.inr (.inl ⟨f,c,ld,tb,rfl,0,Heap.get?_push_size _ rfl,Ix tb.up⟩)⟩ fun b ob e=>Heap.get?_push_of_some _ e
theorem Mz {s:Shared} {a:Addr} {o:Obj} {es:Array (Int×Value)} {ep:Nat} {t:SetTable} {sl g:Nat} {Q:Option (Value×Nat)->Shared->Prop} (ho:s.heap.get? a=some o) (hd:o.data=.set es ep t) (hf:t.fits es.size=true) (f:w.params.followText "set-order" = true)
  (h:Q (((pickOrder (w.params.setOrder a ep) es)[g]?).map fun e=>(e.2,sl)) s):wpAny (model prog w) A (setNext a sl g ep) Q E s:=by
 unfold setNext setsByText
 refine wpAny_bind (wpAny_setState_of (es:=es) (t:=t) ho hd hf ?_)
 dsimp only
 refine wpAny_bind (wpAny_bind (wpAny_askSetting (wpAny_pure ?_)))
 show wpAny _ _ (if w.params.followText "set-order" = true then _ else _) _ _ _
 rw [if_pos f,if_neg (by simp)]
 unfold setWalk setsByText
 refine wpAny_bind (wpAny_bind (wpAny_setState_of (es:=es) (t:=t) ho hd hf ?_))
 dsimp only
 refine wpAny_bind (wpAny_bind (wpAny_askSetting (wpAny_pure ?_)))
 show wpAny _ _ (if w.params.followText "set-order" = true then _ else _) _ _ _
 rw [if_pos f]
 exact wpAny_bind (wpAny_askSetting (wpAny_pure (wpAny_pure h)))
theorem Mx {s:Shared} {a:Addr} {o:Obj} {es:Array (Int×Value)} {ep:Nat} {t:SetTable} {sl g e:Nat} {Q:Option (Value×Nat)->Shared->Prop} (ho:s.heap.get? a=some o) (hd:o.data=.set es ep t) (hf:t.fits es.size=true) (f:w.params.followText "set-order" = false) (c:(!t.plain&&decide (es.size > 1))=false) (ld:t.led=true)
  (h:Q (match es[SetTable.below t.place sl]?,t.place[SetTable.below t.place sl]? with | some (_,x),some j=>some (x,j+1) | _,_=>none) s):wpAny (model prog w) A (setNext a sl g e) Q E s:=by
 unfold setNext setsByText
 refine wpAny_bind (wpAny_setState_of (es:=es) (t:=t) ho hd hf ?_)
 dsimp only
 refine wpAny_bind (wpAny_bind (wpAny_askSetting (wpAny_pure ?_)))
 show wpAny _ _ (if w.params.followText "set-order" = true then _ else _) _ _ _
 rw [if_neg (by rw [f]; exact Bool.false_ne_true)]
 refine wpAny_bind (wpAny_pure ?_)
 show wpAny _ _ (if (!t.plain&&decide (es.size > 1))=true then _ else _) _ _ _
 rw [if_neg (by rw [c]; exact Bool.false_ne_true)]
 refine wpAny_bind (show wpAny _ _ (if (!t.led&&!es.isEmpty)=true then _ else _) _ _ _ from ?_)
 rw [if_neg (by rw [ld]; exact Bool.false_ne_true)]
 exact wpAny_pure (wpAny_pure h)
theorem VR {s:Shared} {P:Fin->Shared->Prop} {Q:Option Value->Shared->Prop} (hh:A.handled=none) (h:∀ h',(∀ b ob,s.heap.get? b=some ob->h'.get? b=some ob)->Q none { s with heap:=h' }) :
  wpAny (model prog w) A.in1 (newExc (.type "StopIteration") [] >>= fun e=>(raiseNew e:Sem Fin)) P (fun e s'=>wpAny (model prog w) A (isInstance e (.type "StopIteration") >>= fun b=>if b=true then pure none else throw e) Q E s') s:=by
 refine wpAny_bind ?_
 simp only [newExc,newTuple]
 refine wpAny_bind (wpAny_newObj_type (wpAny_bind (m:=firstArgMember _ _) (wpAny_of_eq (a:=Value.none) (by first | rfl | (simp only [firstArgMember]; rfl)) (wpAny_newObj_type ?_ (by size_fits)))) (by size_fits))
 simp only [raiseNew]
 refine wpAny_bind (wpAny_handled ?_)
 rw [show A.in1.handled=none from hh]
 refine wpAny_bind (wpAny_pure ?_)
 refine wpAny_throw (wpAny_bind ?_)
 refine wpAny_isInstance (T := "StopIteration") (b:=true) ⟨_,Heap.get?_push_size _ rfl,rfl⟩ isSubtype_stop ?_
 exact wpAny_pure (h _ fun b ob e=>Heap.get?_push_of_some _ (Heap.get?_push_of_some _ e))
theorem tK {s:Shared} {I:Addr} {fs:Array Value} {k:Nat} {v:Value} {Q:Unit->Shared->Prop} (hit:pM s.heap I fs) (hk:k<fs.size) (h:∀ h',pM h' I (fs.setIfInBounds k v)->Heap.SameBut I s.heap h'->Q () { s with heap:=h' }):wpAny (model prog w) A (setField (.ref I) k v) Q E s:=
 wpAny_setField hit rfl hk (h _ (Heap.get?_update_self _ hit rfl) (Heap.SameBut.update ..))
theorem Q5 {s:Shared} {a:Addr} {es:Array (Int×Value)} {ep:Nat} {t:SetTable} {ord:List Value} {I tp:Addr} {i:Nat} {Q:Option Value->Shared->Prop} (hh:A.handled=none) (hIa:I≠a) (hIt:I≠tp) (hf:t.fits es.size=true) (lo:ord.length=es.size) (W:Wk w a es ep t ord I tp i s.heap) (hi:i<=ord.length)
  (h1:∀ v h',ord[i]?=some v->Wk w a es ep t ord I tp (i+1) h'->Heap.SameBut I s.heap h'->Q (some v) { s with heap:=h' })
  (h0:i=ord.length->∀ h',(∀ b ob,b≠I->s.heap.get? b=some ob->h'.get? b=some ob)->Q none { s with heap:=h' }):wpAny (model prog w) A (pyNext (.ref I)) Q E s:=by
 obtain ⟨⟨o,ho,hd⟩,md⟩:=W
 obtain ⟨first,hit⟩:∃ first,pM s.heap I #[first,rawInt i,.ref a,rawInt es.size,rawInt ep]:=by
  rcases md with ⟨_,_,sl,z⟩ | ⟨_,_,_,_,_,sl,z,_⟩ | ⟨_,_,_,z,_⟩
  ·exact ⟨_,z⟩
  ·exact ⟨_,z⟩
  ·exact ⟨_,z⟩
 have hT:s.TypeIs (.ref I) "set_iterator" := ⟨_,hit,rfl⟩
 unfold pyNext
 refine wpAny_bind (wpAny_attempt (wpAny_callSpecial?_slot (name:=Str.ofString "__next__") hT km (wpAny_call_entry km hT G4 ?_ (Ez _))))
 unfold Builtin.«set_iterator.__next__» slotArgs
 simp only [List.isEmpty_nil,Bool.not_true,Bool.false_eq_true,↓reduceIte,bind_assoc,List.length_nil,bne_self_eq_false]
 refine wpAny_bind (wpAny_pure ?_)
 try dsimp only
 refine wpAny_bind (wpAny_fieldsOf hit rfl ?_)
 show wpAny _ _ (setEntries a >>= _) _ _ s
 refine wpAny_bind (wpAny_setEntries_of (es:=es) ho hd hf ?_)
 rw [if_neg (by simp)]
 refine wpAny_bind (wpAny_pure ?_)
 rcases md with ⟨f,eo,sl,z⟩ | ⟨f,c,ld,tb,eo,sl,z,hb⟩ | ⟨places,eo,hp,z,ht⟩
 ·cases (Option.some.inj (hit.symm.trans z))
  show wpAny _ _ (setNext a (sl:Int).toNat (i:Int).toNat (ep:Int).toNat >>= _) _ _ s
  rw [Int.toNat_natCast,Int.toNat_natCast,Int.toNat_natCast]
  have eg:((pickOrder (w.params.setOrder a ep) es)[i]?).map (fun e=>(e.2,sl))=(ord[i]?).map fun v=>(v,sl):=by
   rw [eo,List.getElem?_map,Array.getElem?_toList,Option.map_map]
   rfl
  refine wpAny_bind (Mz ho hd hf f ?_)
  rw [eg]
  cases hv:ord[i]? with
  | some v=>
   show wpAny _ _ (setField (.ref I) 0 (rawInt sl) >>= _) _ _ _
   refine wpAny_bind (tK hit (by simp) fun h2 i2 k2=>?_)
   refine wpAny_bind (tK (s:={ s with heap:=h2 }) i2 (by simp) fun h3 i3 k3=>?_)
   refine wpAny_pure ⟨v,rfl,wpAny_pure (h1 v h3 hv ⟨⟨o,?_,hd⟩,.inl ⟨f,eo,sl,?_⟩⟩ (k2.trans k3))⟩
   ·exact (k3.2 a hIa.symm).trans ((k2.2 a hIa.symm).trans ho)
   ·exact i3
  | none=>
   show wpAny _ _ (setField (.ref I) 2 .none >>= _) _ _ _
   refine wpAny_bind (tK hit (by simp) fun h2 i2 k2=>?_)
   have e:i=ord.length:=by
    have:=List.getElem?_eq_none_iff.mp hv
    omega
   exact VR hh fun h3 k3=>h0 e h3 fun b ob hbI eb=>k3 b ob ((k2.2 b hbI).trans eb)
 ·cases (Option.some.inj (hit.symm.trans z))
  show wpAny _ _ (setNext a (sl:Int).toNat (i:Int).toNat (ep:Int).toNat >>= _) _ _ s
  rw [Int.toNat_natCast,Int.toNat_natCast,Int.toNat_natCast]
  refine wpAny_bind (Mx ho hd hf f c ld ?_)
  rw [hb]
  have hps:t.place.size=es.size:=by
   simp only [SetTable.fits,Bool.and_eq_true,beq_iff_eq] at hf
   exact hf.1
  by_cases hlt:i<es.size
  ·have e1:es[i]?=some (es[i].1,es[i].2):=Array.getElem?_eq_getElem hlt
   have e2:t.place[i]?=some (t.place[i]'(by omega)):=Array.getElem?_eq_getElem (by omega)
   rw [e1,e2]
   have hv:ord[i]?=some es[i].2:=by
    rw [eo,List.getElem?_map,Array.getElem?_toList,e1]
    rfl
   show wpAny _ _ (setField (.ref I) 0 (rawInt ((t.place[i]'(by omega)+1:Nat):Int)) >>= _) _ _ _
   refine wpAny_bind (tK hit (by simp) fun h2 i2 k2=>?_)
   refine wpAny_bind (tK (s:={ s with heap:=h2 }) i2 (by simp) fun h3 i3 k3=>?_)
   refine wpAny_pure ⟨es[i].2,rfl,wpAny_pure (h1 _ h3 hv ⟨⟨o,?_,hd⟩,.inr (.inl ⟨f,c,ld,tb,eo,t.place[i]'(by omega)+1,?_,Iw tb.up (by omega)⟩)⟩ (k2.trans k3))⟩
   ·exact (k3.2 a hIa.symm).trans ((k2.2 a hIa.symm).trans ho)
   ·exact i3
  ·have e1:es[i]?=none:=Array.getElem?_eq_none (by omega)
   rw [e1]
   show wpAny _ _ (setField (.ref I) 2 .none >>= _) _ _ _
   refine wpAny_bind (tK hit (by simp) fun h2 i2 k2=>?_)
   exact VR hh fun h3 k3=>h0 (by omega) h3 fun b ob hbI eb=>k3 b ob ((k2.2 b hbI).trans eb)
 ·cases (Option.some.inj (hit.symm.trans z))
  show wpAny _ _ (seqItems? (.ref tp) >>= _) _ _ s
  refine wpAny_bind (wpAny_seqItems ht rfl ?_)
  have lp:places.length=es.size:=by rw [<- lo,eo,List.length_map]
  show wpAny _ _ (match (places.map fun p:Nat=>rawInt p).toArray[(i:Int).toNat]? with | some (.int place _)=>_ | some _=>_ | none=>_) _ _ _
  rw [Int.toNat_natCast]
  by_cases hlt:i<places.length
  ·have e1:(places.map fun p:Nat=>rawInt p).toArray[i]?=some (rawInt (places[i]:Nat)):=by simp [hlt]
   have hpi:=hp places[i] (List.getElem_mem hlt)
   have e2:es[places[i]]?=some (es[places[i]].1,es[places[i]].2):=Array.getElem?_eq_getElem hpi
   have hv:ord[i]?=some es[places[i]].2:=by
    rw [eo,List.getElem?_map,List.getElem?_eq_getElem hlt]
    simp [Array.getD,hpi]
   rw [e1]
   show wpAny _ _ (setNextDrawn a ((places[i]:Nat):Int).toNat (ep:Int).toNat >>= _) _ _ _
   rw [Int.toNat_natCast,Int.toNat_natCast]
   unfold setNextDrawn
   refine wpAny_bind (wpAny_bind (wpAny_setState_of (es:=es) (t:=t) ho hd hf ?_))
   dsimp only
   rw [if_neg (by simp),e2]
   refine wpAny_pure ?_
   refine wpAny_bind (tK hit (by simp) fun h2 i2 k2=>?_)
   refine wpAny_pure ⟨_,rfl,wpAny_pure (h1 _ h2 hv ⟨⟨o,(k2.2 a hIa.symm).trans ho,hd⟩,.inr (.inr ⟨places,eo,hp,i2,(k2.2 tp hIt.symm).trans ht⟩)⟩ k2)⟩
  ·have e1:(places.map fun p:Nat=>rawInt p).toArray[i]?=none:=by simp; omega
   rw [e1]
   show wpAny _ _ (setField (.ref I) 0 (rawInt 0) >>= _) _ _ _
   refine wpAny_bind (tK hit (by simp) fun h2 i2 k2=>?_)
   refine wpAny_bind (tK (s:={ s with heap:=h2 }) i2 (by simp) fun h3 i3 k3=>?_)
   exact VR hh fun h4 k4=>h0 (by omega) h4 fun b ob hbI eb=>k4 b ob ((k3.2 b hbI).trans ((k2.2 b hbI).trans eb))
end
end L2
namespace L2
open PySem PySem.Spec PyProof PyProof.Rows
section
variable {prog:Program} {w:World} {A:Around} {E:Value->Shared->Prop}
theorem HS {a:Addr} {es:Array (Int×Value)} {ep:Nat} {t:SetTable} {ord:List Value} {I tp:Addr} (hh:A.handled=none) (hIa:I≠a) (hIt:I≠tp) (hf:t.fits es.size=true) (lo:ord.length=es.size) :
  Walks prog w A I [I,a,tp] [I] ord.length (fun i v=>ord[i]?=some v) (fun i h=>i<=ord.length/\Wk w a es ep t ord I tp i h) where
 sub:=fun b hb=>by
  rw [List.mem_singleton.mp hb]
  exact List.mem_cons_self ..
 frame:=fun i h h' ⟨hi,W⟩ k=>by
  obtain ⟨⟨o,ho,hd⟩,md⟩:=W
  have kI:=k I (List.mem_cons_self ..)
  have ka:=k a (List.mem_cons_of_mem _ (List.mem_cons_self ..))
  have kt:=k tp (List.mem_cons_of_mem _ (List.mem_cons_of_mem _ (List.mem_cons_self ..)))
  refine ⟨hi,⟨o,ka o ho,hd⟩,?_⟩
  rcases md with ⟨f,eo,sl,z⟩ | ⟨f,c,ld,tb,eo,sl,z,hb⟩ | ⟨places,eo,hp,z,ht⟩
  ·exact .inl ⟨f,eo,sl,kI _ z⟩
  ·exact .inr (.inl ⟨f,c,ld,tb,eo,sl,kI _ z,hb⟩)
  ·exact .inr (.inr ⟨places,eo,hp,kI _ z,kt _ ht⟩)
 item:=fun i s Q E hi ⟨hle,W⟩ hQ=>Q5 hh hIa hIt hf lo W hle (fun v h' hv W' k=>by
  have:=hQ v h' s.toks hv ⟨hi,W'⟩ fun b o hb e=>(k.2 b fun z=>hb (by rw [z]; exact List.mem_cons_self ..)).trans e
  exact this) fun z=>absurd z (Nat.ne_of_lt hi)
 done:=fun s Q E ⟨hle,W⟩ hQ=>Q5 hh hIa hIt hf lo W hle (fun v h' hv=>by
  rw [List.getElem?_eq_none (Nat.le_refl _)] at hv
  cases hv) fun _ h' k=>hQ h' s.toks fun b o hb e=>k b o (fun z=>hb (by rw [z]; exact List.mem_cons_self ..)) e
 self:=fun i s Q E ⟨hle,W⟩ hQ=>by
  obtain ⟨_,md⟩:=W
  have hT:s.TypeIs (.ref I) "set_iterator" := by
   rcases md with ⟨_,_,sl,z⟩ | ⟨_,_,_,_,_,sl,z,_⟩ | ⟨_,_,_,z,_⟩<;>exact ⟨_,z,rfl⟩
  refine wpAny_pyIter_slot hT Jc (wpAny_call_entry Jc hT E_ (show wpAny _ _ (ret (.ref I)) _ _ s from ?_) (Ey _))
  exact wpAny_pure ⟨_,rfl, "set_iterator",_,hT,km.lookup,hQ⟩
theorem LZ {s:Shared} {a:Addr} {Q:Bool->Shared->Prop} (hT:s.TypeIs (.ref a) "set") (h:Q false s):wpAny (model prog w) A (Builtin.List.listLengthHint (.ref a)) Q E s:=by
 unfold Builtin.List.listLengthHint
 refine wpAny_bind (wpAny_specialOf hT (F.slot_set_len.lookup) ?_)
 generalize hi:("set.__len__" : String)=x
 wp_delta
 rw [show splitId x=some ("set", "__len__") from by subst hi; decide +kernel]
 subst hi
 refine wpAny_bind (wpAny_isInstance (T := "set") (b:=true) hT (by rw [isSubtype_type]; kernel_rfl) ?_)
 refine wpAny_ite_split (fun z=>absurd z (by decide)) fun _=>wpAny_ite_split (fun _=>?_) fun z=>absurd (by decide +kernel) z
 exact wpAny_bind (wpAny_typeOf hT (wpAny_pure h))
theorem OQ {s:Shared} {a:Addr} {o:Obj} {es:Array (Int×Value)} {ep:Nat} {t:SetTable} {Q:List Value->Shared->Prop} (hh:A.handled=none) (ho:s.heap.get? a=some o) (hx:o.ExactSet) (hd:o.data=.set es ep t) (hf:t.fits es.size=true) (hb:es.size<scanBound) (tb:xR t) (ld:t.led=(!w.params.followText "set-order"))
  (h:∀ h' d tk ord,ord.Perm (es.toList.map (·.2))->s.heap.objs.size<h'.objs.size->(∀ b ob,s.heap.get? b=some ob->h'.get? b=some ob)->Q ord { s with heap:=h',drawn:=d,toks:=tk }):wpAny (model prog w) A (collect (.ref a)) Q E s:=by
 unfold collect
 refine wpAny_bind (wpAny_runValue (codeAny_builtin (entry_proto_collect') ?_))
 show wpAny _ _ (newList [] >>= fun l=>again (.builtin "list.__iadd__" ⟨[l,.ref a],[]⟩)) _ _ s
 refine wpAny_bind (wpAny_newList (wpAny_pure ⟨Code.quiet_builtin _ (by decide +kernel),codeAny_builtin (entry_list_iadd') ?_⟩))
 show wpAny _ _ (Builtin.List.listExtendWith (.ref s.heap.objs.size) (.ref a) (.ref s.heap.objs.size)) _ _ { s with heap:=s.heap.push (seqObj "list" #[] 0) }
 unfold Builtin.List.listExtendWith
 have ho0:(s.heap.push (seqObj "list" #[] 0)).get? a=some o:=Heap.get?_push_of_some _ ho
 have hlt:=Heap.lt_size ho
 have neS:s.heap.objs.size≠a:=yV (Nat.ne_of_gt hlt)
 refine wpAny_bind (wpAny_typeOf (T := "set") ⟨o,ho0,hx.1⟩ ?_)
 have q1:Builtin.List.listSameRef (.ref s.heap.objs.size) (.ref a)=false:=by simp [Builtin.List.listSameRef,neS]
 have q2:(Value.type "set" == Value.type "list")=false:=by decide
 have q3:(Value.type "set" == Value.type "tuple")=false:=by decide
 rw [if_neg (by rw [q1,q2,q3]; exact Bool.false_ne_true)]
 refine wpAny_bind (Lu ho0 hx hd hf hb tb ld fun h1 d ord I tp pm hI htp hIt W0 kp=>?_)
 refine wpAny_bind (wpAny_holding (LZ ⟨o,kp a o ho0,hx.1⟩ ?_))
 refine wpAny_ite_split (fun _=>?_) fun z=>absurd (by decide +kernel) z
 refine wpAny_bind (wpAny_rule (wpAny_bind ?_))
 have z0:(s.heap.push (seqObj "list" #[] 0)).objs.size=s.heap.objs.size+1:=Heap.size_push ..
 rw [z0] at hI htp
 have lo:ord.length=es.size:=by rw [pm.length_eq,List.length_map,Array.length_toList]
 have hIa:I≠a:=yV (Nat.ne_of_gt (Nat.lt_of_lt_of_le (Nat.lt_succ_of_lt hlt) hI))
 have hSf:s.heap.objs.size ∉ [I,a,tp]:=fun m=>by
  simp only [List.mem_cons,List.not_mem_nil,or_false] at m
  rcases m with m | m | m
  ·exact absurd hI (by rw [<- m]; exact Nat.not_succ_le_self _)
  ·exact neS m
  ·rcases htp with e | e
   ·exact neS (m.trans e)
   ·exact absurd e (by rw [<- m]; exact Nat.not_succ_le_self _)
 show wpAny _ _ (updateSeq s.heap.objs.size (·.push .none) >>= fun _=>updateSeq s.heap.objs.size (·.pop)) _ _ _
 have S1:h1.get? s.heap.objs.size=some (seqObj "list" #[] 0):=kp _ _ (Heap.get?_push_size _ rfl)
 refine wpAny_bind (wpAny_updateSeq S1 rfl ?_)
 have S2:=Heap.get?_update_self (Obj.mapSeq (·.push Value.none)) S1 rfl
 refine wpAny_updateSeq (hz:=by seq_fits) S2 rfl (wpAny_pure ⟨plainId_quiet (F.plain_extend_loop) _,?_⟩)
 have S3:=Heap.get?_update_self (Obj.mapSeq (·.pop)) S2 rfl
 have W:=HS (prog:=prog) (w:=w) (A:=A.in1) (ep:=ep) (t:=t) (es:=es) (by exact hh) hIa hIt hf lo
 have keep:∀ b ob,b≠s.heap.objs.size->h1.get? b=some ob->((h1.update s.heap.objs.size (Obj.mapSeq (·.push Value.none))).update s.heap.objs.size (Obj.mapSeq (·.pop))).get? b=some ob:=fun b ob hbS e=>
  (Heap.get?_update_other _ _ (Ne.symm hbS)).trans ((Heap.get?_update_other _ _ (Ne.symm hbS)).trans e)
 refine codeAny_extend_loopS W.toS (by rw [lo]; exact fits_of_scanBound hb) s.heap.objs.size hSf (.ref s.heap.objs.size) ord.length 0 _ #[] _ rfl (Nat.zero_le _) (W.frame 0 h1 _ ⟨Nat.zero_le _,W0⟩ fun b hb' ob e=>keep b ob (fun z=>hSf (z ▸ hb')) e) S3 (ItemsOf.nil _) fun s' acc' c' hm hS' hacc=>?_
 rw [Moved.eq_with hm]
 refine wpAny_bind (wpAny_load hS' ?_)
 have ea:acc'.toList=ord:=by
  refine List.ext_getElem? fun j=>?_
  by_cases c:j<ord.length
  ·have hj:j<acc'.size:=by rw [hacc.1]; exact c
   rw [Array.getElem?_toList,Array.getElem?_eq_getElem hj]
   exact (hacc.2 j _ (Array.getElem?_eq_getElem hj)).symm
  ·rw [List.getElem?_eq_none (by rw [Array.length_toList,hacc.1]; omega),List.getElem?_eq_none (by omega)]
 show wpAny _ _ (pure acc'.toList) _ _ _
 rw [ea]
 refine wpAny_pure (h s'.heap d s'.toks ord pm (Heap.lt_size hS') fun b ob e=>?_)
 have hbl:=Heap.lt_size e
 refine hm.heap b ob (fun m=>?_) (keep b ob (yV (Nat.ne_of_lt hbl)) (kp b ob (Heap.get?_push_of_some _ e)))
 rcases List.mem_cons.mp m with m | m
 ·exact absurd hbl (by rw [m]; exact Nat.lt_irrefl _)
 ·rw [List.mem_singleton.mp m] at hbl
  exact absurd (Nat.lt_of_lt_of_le hbl (Nat.le_of_succ_le hI)) (Nat.lt_irrefl _)
end
end L2
namespace L2
open PySem PySem.Spec PyProof PyProof.Rows
noncomputable def W8:Value->Int
 | .int i _=>i
 | _=>0
theorem TR:∀ {vs:List Value},(∀ v∈vs,∃ i t,v=.int i t)->IntsAre vs (vs.map W8)
 | [],_=>.nil
 | v::vs,h=>by
  obtain ⟨i,t,rfl⟩:=h v (List.mem_cons_self ..)
  exact .cons _ _ (TR fun x hx=>h x (List.mem_cons_of_mem _ hx))
section
variable {prog:Program} {w:World} {A:Around} {E:Value->Shared->Prop}
theorem GH {s:Shared} {a:Addr} {ns:List Int} {Q:Value->Shared->Prop} (hh:A.handled=none) (z:vB prog w a (ns.map Sum.inl) s.heap) (h64:ns.length<64)
  (h:∀ h' d tk p out c ns',s.heap.objs.size<=p->h'.get? p=some (seqObj "list" out c)->IntsAre out.toList ns'->ns'.Perm ns->ns'.Pairwise (·<=·)->(∀ b ob,s.heap.get? b=some ob->h'.get? b=some ob)->Q (.ref p) { s with heap:=h',drawn:=d,toks:=tk }) :
  wpAny (model prog w) A (call (.builtin "sorted") [.ref a]) Q E s:=by
 obtain ⟨o,es,ep,t,ho,hx,hd,hel,hb,hf,tb,ld,pk⟩:=z
 refine Calls.call_function_entry kind_sorted plain_sorted entry_sorted (args_sorted1 _) ?_
 unfold Builtin.«sorted»
 refine wpAny_bind (m:=checkCount "sorted" 1 1 _) (wpAny_pure (wpAny_bind (OQ (by exact hh) ho hx hd hf hb tb ld fun h1 d tk ord pm hle kp=>wpAny_bind (wpAny_newList ?_ (by rw [pm.length_eq,List.length_map,Array.length_toList]; exact fits_of_scanBound hb)))))
 have pk2:(ord.map qD).Perm (ns.map Sum.inl):=by
  have:=pm.map qD
  rw [List.map_map] at this
  exact this.trans pk
 have hv:∀ v∈ord,∃ i tk,v=Value.int i tk:=fun v hv=>by
  obtain ⟨e,he,rfl⟩:=List.mem_map.mp (pm.mem_iff.mp hv)
  obtain ⟨i,_,ei⟩:=List.mem_map.mp (pk2.mem_iff.mp (List.mem_map_of_mem hv))
  have:=Ur hel he
  rw [<- ei] at this
  rcases vm this with ⟨j,tk,_,e⟩ | ⟨x,tk,e,_⟩
  ·exact ⟨j,tk,e⟩
  ·cases e
 have hI:=TR hv
 have pj:(ord.map W8).Perm ns:=by
  have g:=pk2.map fun k:Key=>match k with | .inl i=>i | .inr _=>(0:Int)
  rw [List.map_map,List.map_map] at g
  have e1:ns.map ((fun k:Key=>match k with | .inl i=>i | .inr _=>(0:Int)) ∘ Sum.inl)=ns:=by
   rw [show ((fun k:Key=>match k with | .inl i=>i | .inr _=>(0:Int)) ∘ Sum.inl)=id from rfl,List.map_id]
  have e2:ord.map ((fun k:Key=>match k with | .inl i=>i | .inr _=>(0:Int)) ∘ qD)=ord.map W8:=List.map_congr_left fun v hvv=>by
   obtain ⟨i,tk,rfl⟩:=hv v hvv
   rfl
  rw [e1,e2] at g
  exact g
 have l64:ord.length<64:=by
  have:=pj.length_eq
  rw [List.length_map] at this
  omega
 have g1:(h1.push (seqObj "list" ord.toArray 0)).get? h1.objs.size=some (seqObj "list" ord.toArray 0):=Heap.get?_push_size _ rfl
 refine wpAny_bind (wpAny_holding (wpAny_call_entry slot_list_sort ⟨_,g1,rfl⟩ entry_list_sort (list_sort_tree g1 hI l64 fun out ns' a1 a2 a3=>⟨_,rfl,?_⟩) (args_list_sort _)))
 obtain ⟨c,hc⟩:=sortedHeap_at (vs:=ord) (out:=out) g1
 refine wpAny_pure ⟨_,rfl,h _ d tk h1.objs.size out c ns' (Nat.le_of_lt hle) hc a1 (a2.trans pj) a3 fun b ob e=>?_⟩
 have hbl:=Heap.lt_size (kp b ob e)
 rw [sortedHeap_old (yV (Nat.ne_of_lt hbl)) (by rw [size_push']; exact Nat.lt_succ_of_lt hbl)]
 exact Heap.get?_push_of_some _ (kp b ob e)
end
section
variable {X:Cx}
noncomputable abbrev jg (prog:Program) (w:World) (a:Addr) (ks:List Key):HO:=.ext (vB prog w a ks)
noncomputable def CJ (X:Cx):List V->Hp->VK->Prop:=fun xs H Q=>∃ (a:Addr) (ks:List Key),xs=[.ref a]/\yE X.K H a (ks.map kV)/\ks.length<1000/\∀ p,H p=none->Q (.ref p) (zX H p (jg X.prog X.w p (ks.foldl addK [])))
theorem OE (hcalm:X.calm=true):xV X (.type "set") (CJ X):=by
 intro pins s σ H xs us Q I r h
 obtain ⟨a,ks,rfl,sq,hl,q⟩:=h
 obtain ⟨u,rfl,ru⟩:=wN r
 cases (show u=Value.ref a from ru)
 obtain ⟨its,rv,⟨o,n,ho,hc,hdd,hdat⟩,hz⟩:=I.list sq
 have hn:ks.length=its.length:=by rw [<- rv.length,List.length_map]
 refine OG (I.ok.hd hcalm) ho hc hdat hn (WG X.prog X.w rv) (by unfold scanBound; omega) fun h' tk hs kp=>?_
 refine ⟨.ref s.heap.objs.size,_,I.laid (a:=s.heap.objs.size) (o:=jg X.prog X.w s.heap.objs.size (ks.foldl addK [])) (t':=tk) kp (Nat.le_refl _) ⟨hs,?_,fun h1 h2 z k=>z.keep k⟩,rfl,q _ I.fresh⟩
 obtain ⟨o',_,_,_,e,_⟩:=hs
 exact ⟨o',e⟩
theorem _root_.L2.Inv.draw {pins:List (Addr×Obj)} {σ:St} {H:Hp} {s:Shared} (I:Inv X pins σ H s) (d:Drawn):Inv X pins σ H { s with drawn:=d }:=⟨I.ok,I.os,I.bare,I.base,I.loc,I.cell,I.free,I.freeC,I.pin,I.hok,I.len⟩
noncomputable def CL (X:Cx):List V->Hp->VK->Prop:=fun xs H Q=>∃ (a:Addr) (ns:List Int),xs=[.ref a]/\H a=some (jg X.prog X.w a (ns.map Sum.inl))/\ns.length<64/\∀ l,H l=none->Q (.ref l) (zX H l (.lst ((isort ns).map V.int)))
theorem OH (hcalm:X.calm=true):xV X (.builtin "sorted") (CL X):=by
 intro pins s σ H xs us Q I r h
 obtain ⟨a,ns,rfl,ea,h64,q⟩:=h
 obtain ⟨u,rfl,ru⟩:=wN r
 cases (show u=Value.ref a from ru)
 obtain ⟨z,_⟩:=(show yo X.prog X.w H s.heap a (jg X.prog X.w a (ns.map Sum.inl)) from I.hok a _ ea)
 refine GH (I.ok.hd hcalm) z h64 fun h' d tk p out c ns' hp hc a1 a2 a3 kp=>?_
 have e:ns'=isort ns:=Jf (a2.trans (isort_perm ns).symm) a3 (isort_sorted ns)
 subst e
 have hl2:(isort ns).length=ns.length:=(isort_perm ns).length_eq
 refine ⟨.ref p,_,(I.draw d).laid (t':=tk) (h':=h') kp hp (show yo X.prog X.w _ _ _ (.lst ((isort ns).map V.int)) from ⟨?_,out.toList,c,TQ a1,?_⟩),rfl,q _ (I.hok.fresh hp)⟩
 ·rw [List.length_map,hl2]
  show _<=sizeLine
  rw [sizeLine_eq]
  omega
 ·rw [Array.toArray_toList]
  exact hc
end
end L2
namespace L3
open PySem PySem.Spec PyProof.Rows L2
noncomputable def uq (acc:List Int) (n:Int):List Int:=if (acc.any fun m=>decide (m=n))=true then acc else acc++[n]
noncomputable def vX (ns:List Int):List Int:=ns.foldl uq []
theorem Ij (acc:List Int) (n:Int):addK (acc.map Sum.inl) (.inl n)=(uq acc n).map Sum.inl:=by
 have e:memK (acc.map Sum.inl) (.inl n)=acc.any fun m=>decide (m=n):=by
  unfold memK
  rw [List.any_map]
  congr 1
  funext m
  exact decide_eq_decide.mpr ⟨Sum.inl.inj,congrArg _⟩
 unfold addK uq
 rw [e]
 split
 ·rfl
 ·rw [List.map_append]
  rfl
theorem QM:∀ (ns acc:List Int),(ns.map Sum.inl).foldl addK (acc.map Sum.inl)=(ns.foldl uq acc).map Sum.inl
 | [],_=>rfl
 | n::ns,acc=>by
  rw [List.map_cons,List.foldl_cons,List.foldl_cons,Ij]
  exact QM ns (uq acc n)
noncomputable def pd:List D->Option D
 | [.lst xs]=>(intsOf xs).bind fun ns=>if ns.length<1000/\(vX ns).length<64 then some (.lst ((isort (vX ns)).map D.int)) else none
 | _=>none
theorem JY {X:Cx} {e:Expr} {fs:FA} {p p2 pos pos2:Pos} (hcalm:X.calm=true) (hg:Gl X "sorted") (hm:X.mg "sorted" = none) (hg2:Gl X "set") (hm2:X.mg "set" = none) (ha:SA X [e] fs) (hs:yi e=true:=by rfl) :
  SF X (.Call (.Name "sorted" p) [.Call (.Name "set" p2) [e] [] pos2] [] pos) (eL pd fs):=by
 obtain ⟨t,pt,k⟩:=ha.h
 have q1:=q_ (p:=p2) (pos:=pos2) (OE hcalm) hg2 hm2 UR ⟨pt⟩ (by decide) (by decide) (by rw [List.all_cons,hs]; rfl)
 refine ⟨⟨_,(gP (p:=p) (pos:=pos) (OH hcalm) hg hm O2 (qI q1 gN) (by decide) (by decide)).h,fun {G0 H0 G H τ σ d Q} E hf q=>?_⟩⟩
 obtain ⟨ds,hd,hf⟩:=zF hf
 refine k E hd fun vs G1 H1 x1 r1=>?_
 match ds,hf with
 | [.lst xs],hf=>
  obtain ⟨ns,hn,hf⟩:=zF (show (intsOf xs).bind _=some d from hf)
  split at hf
  ·rename_i h64
   cases hf
   obtain ⟨v,rfl,a,us,rfl,sq,rs,l⟩:=vG r1
   rw [TU hn] at rs l
   rw [JB rs] at sq
   have sq:yE X.K G1 a ((ns.map Sum.inl).map kV):=by
    rw [List.map_map]
    exact sq
   have ek:(ns.map Sum.inl).foldl addK []=(vX ns).map Sum.inl:=QM ns []
   refine ⟨a,ns.map Sum.inl,rfl,wL x1.gh sq,by rw [List.length_map]; exact h64.1,fun p1 hp1=>?_⟩
   have x2:=x1.trans (zK.layO (o:=jg X.prog X.w p1 ((ns.map Sum.inl).foldl addK [])) x1.gh hp1)
   refine ⟨p1,vX ns,rfl,by rw [ek]; exact yz,h64.2,fun p hp=>?_⟩
   refine q p _ _ (x2.trans (zK.layO x2.gh hp)) (x2.h.free hp) (x2.gh.free hp) ⟨_,yz,TN _,?_⟩
   rw [List.length_map,(isort_perm _).length_eq]
   show _<=16777216
   omega
  ·cases hf
end L3
namespace L2
open PySem PySem.Spec PyProof PyProof.Rows
section
variable {X:Cx} {tg:Expr}
end
end L2
namespace L3
open PySem PySem.Spec PyProof.Rows L2
end L3
namespace L2
open PySem PySem.Spec PyProof PyProof.Rows
section
variable {X:Cx}
end
end L2
namespace L3
open PySem PySem.Spec PyProof.Rows L2
section
variable {X:Cx} {x y:Str} {xp yp pos apos cpos:Pos} {e:Expr} {f:FE}
end
end L3
namespace L3
open PySem PySem.Spec PyProof.Rows L2
section
variable {K:PySem.W.Frag} {n:Nat} {G0 H0 G H G' H':Hp} {τ:zp} {σ:St} {i:Nat} {nds:List (List D)} {p:Addr} {qs:List Addr}
end
section
variable {X:Cx} {i:Nat} {x:Str} {p pos pos' apos cpos xp sp:Pos} {e k v c tg iter:Expr} {f fk fv:FE} {ft:FT} {fs:FA} {st:Stmt} {sts body sa sb:List Stmt} {g g':NFS} {fg:FG}
end
section
variable {X:Cx} {i:Nat} {x:Str} {pos pos' p spos:Pos} {e tg iter:Expr} {st:Stmt} {fi:zp->Option Nat} {fs:FA} {yN:List Stmt} {g:NFS} {scope:Scope} {cl:List (Str×Addr)} {own:List Str} {tG:TG} {fg:FG}
end
end L3
namespace L3
open PySem PySem.Spec PyProof.Rows L2
section
variable {P:Program} {w:World} {K:PySem.W.Frag} {mg:Str->Option Value} {base:Heap}
end
section
variable {X:Cx} {e:Expr} {es:List Expr} {f:FE} {fs:FA} {x:Str} {p pos:Pos} {ps:List Str} {j k:Nat} {FF:List D->Option (Bool×D)}
end
end L3
namespace L2
open PySem PySem.Spec PyProof PyProof.Rows
section
variable {prog:Program} {w:World} {A:Around} {E:Value->Shared->Prop}
end
section
variable {X:Cx}
end
end L2
namespace L3
open PySem PySem.Spec PyProof.Rows L2
end L3
namespace L2
open PySem PySem.Spec PyProof PyProof.Rows
section
variable {X:Cx} {x:Str} {e:Expr} {es:List Expr} {t:TA} {p pos:Pos} {i j:Nat}
end
end L2
namespace L3
open PySem PySem.Spec PyProof.Rows L2
section
variable {X:Cx} {x y o gn:Str} {e:Expr} {es:List Expr} {fs:FA} {p p2 pos pos' xp gp op apos cpos:Pos} {i io iy j:Nat} {body yN:List Stmt} {t:TS} {g:FS}
end
section
variable {X:Cx} {x y o gn:Str} {e:Expr} {es:List Expr} {fs:FA} {p p2 pos pos' xp xp2 gp op apos cpos:Pos} {i io iy j:Nat} {yN:List Stmt} {g:FS} {a:Addr} {names:List Str} {Fs:List (List D->Option (Bool×D))} {gs:List FS}
end
end L3
namespace L3
open PySem PySem.Spec PyProof.Rows L2
section
variable {α:Type} {P:List α->Prop}
theorem ID (h:P []):∀ us:List α,us.length=0->P us
 | [],_=>h
theorem Yy {n:Nat} (h:∀ a (r:List α),r.length=n->P (a::r)):∀ us:List α,us.length=n+1->P us
 | a::r,e=>h a r (Nat.succ.inj e)
theorem xh (h:∀ a,P [a]):∀ us:List α,us.length=1->P us:=Yy fun a=>ID (P:=fun r=>P (a::r)) (h a)
theorem uD (h:∀ a b,P [a,b]):∀ us:List α,us.length=2->P us:=Yy fun a=>xh (P:=fun r=>P (a::r)) (h a)
theorem Vb (h:∀ a b c,P [a,b,c]):∀ us:List α,us.length=3->P us:=Yy fun a=>uD (P:=fun r=>P (a::r)) (h a)
theorem HN (h:∀ a b c d,P [a,b,c,d]):∀ us:List α,us.length=4->P us:=Yy fun a=>Vb (P:=fun r=>P (a::r)) (h a)
end
noncomputable abbrev ya (x:Str) (st:Stmt) (oc:Value) (od:Option Addr) (sl:Array (Option Value)) (kV dc pm:Value) (an:Option Addr) (cd ct:Value):Option Obj:=some ⟨oc,od,.func (PySem.W.fnOf x x (pW st) (uN st) (zw st) .none kV dc pm an cd ct),sl⟩
end L3
namespace L3
open PySem PySem.Spec PyProof.Rows L2
section
variable {P:Program} {w:World} {K:PySem.W.Frag} {mg:Str->Option Value} {base:Heap}
end
section
variable {X:Cx} {tg iter elt:Expr} {scope:Scope} {cl:List (Str×Addr)} {own:List Str} {pos p1:Pos} {fs:FA} {fg:FG} {f:FE} {tG:TG} {st:Stmt} {sts:List Stmt} {g:FS} {b:FSN}
end
end L3
namespace L3
open PySem PySem.Spec PyProof PyProof.Rows L2
section
variable {X:Cx} {i m:Nat} {x:Str} {es:List Expr} {p pos pos' spos:Pos}
end
section
variable {X:Cx} {K:PySem.W.Frag}
end
end L3
namespace L3
open PySem PySem.Spec PyProof PyProof.Rows L2
noncomputable def qj (T U:vc) (f:FE):FE:=fun σ=>(f σ).bind fun d=>(vk T d).bind fun a=>(vk U d).bind fun b=>some (.bl (a||b))
noncomputable def CD (K:PySem.W.Frag) (T U:vc):List V->Hp->VK->Prop:=fun xs H Q=>∃ x d a b tp,xs=[x,.ref tp]/\zV K H d x/\yR K H tp [.ty T.nm,.ty U.nm]/\vk T d=some a/\vk U d=some b/\Q (.bl (a||b)) H
theorem j5 {K:PySem.W.Frag} {t c1 c2:Value} {a b:Bool} (h1:PySem.W.kitOne K t c1=some a) (h2:PySem.W.kitOne K t c2=some b):PySem.W.kitAny K t [c1,c2]=some (a||b):=by
 unfold PySem.W.kitAny
 rw [h1]
 cases a with
 | true=>rfl
 | false=>
  show PySem.W.kitAny K t [c2]=_
  unfold PySem.W.kitAny
  rw [h2]
  cases b<;>rfl
theorem O7 {X:Cx} (T U:vc):xV X (.builtin "isinstance") (CD X.K T U):=by
 intro pins s σ H xs us Q I r h
 obtain ⟨x,d,a,b,tp,rfl,rd,sq,ea,eb,q⟩:=h
 obtain ⟨u,c,rfl,rx,rc⟩:=jV r
 cases (show c=Value.ref tp from rc)
 obtain ⟨its,rv,pt,_⟩:=I.tuple sq
 obtain ⟨u1,u2,rfl,r1,r2⟩:=jV rv
 cases (show u1=Value.type T.nm from r1)
 cases (show u2=Value.type U.nm from r2)
 obtain ⟨⟨c,dd,dt,sl⟩,h1,h2,n,h3⟩:=pt
 cases (show c=.type "tuple" from h2)
 cases (show dt=_ from h3)
 have fin:∀ tk,EP X pins σ Q (.bool (a||b)) { s with toks:=tk }:=fun tk=>⟨.bl (a||b),H,I.tok tk,rfl,q⟩
 cases d with
 | non=>
  cases (show x=_ from rd)
  cases (show u=Value.none from rx)
  exact PySem.W.kia_tup PySem.W.kitx_none I.kIn trivial h1 (j5 (wQ (d:=.non) ea) (wQ (d:=.non) eb)) (fun z=>nomatch z) fin
 | bl y=>
  cases (show x=_ from rd)
  cases (show u=Value.bool y from rx)
  exact PySem.W.kia_tup PySem.W.kitx_bool I.kIn trivial h1 (j5 (wQ (d:=.bl y) ea) (wQ (d:=.bl y) eb)) (fun z=>nomatch z) fin
 | int y=>
  cases (show x=_ from rd)
  obtain ⟨t,rfl⟩:=(show ∃ t,u=Value.int y t from rx)
  exact PySem.W.kia_tup PySem.W.kitx_int I.kIn trivial h1 (j5 (wQ (d:=.int y) ea) (wQ (d:=.int y) eb)) (fun z=>nomatch z) fin
 | str y=>
  cases (show x=_/\_ from rd).1
  obtain ⟨t,rfl⟩:=(show ∃ t,u=Value.str y t from rx)
  exact PySem.W.kia_tup PySem.W.kitx_str I.kIn trivial h1 (j5 (wQ (d:=.str y) ea) (wQ (d:=.str y) eb)) (fun z=>nomatch z) fin
 | tup ds=>
  obtain ⟨aa,vs,rfl,sq',_⟩:=rd
  cases (show u=Value.ref aa from rx)
  obtain ⟨its,_,⟨o,g1,g2,_⟩,_⟩:=I.tuple sq'
  exact PySem.W.kia_tup PySem.W.kitx_tuple I.kIn ⟨o,g1,g2⟩ h1 (j5 (wQ (d:=.tup ds) ea) (wQ (d:=.tup ds) eb)) (fun z=>nomatch z) fin
 | lst ds=>
  obtain ⟨aa,vs,rfl,sq',_⟩:=rd
  cases (show u=Value.ref aa from rx)
  obtain ⟨its,_,⟨o,n,g1,g2,_⟩,_⟩:=I.list sq'
  exact PySem.W.kia_tup PySem.W.kitx_list I.kIn ⟨o,g1,g2⟩ h1 (j5 (wQ (d:=.lst ds) ea) (wQ (d:=.lst ds) eb)) (fun z=>nomatch z) fin
 | dic ks ds=>cases T<;>cases ea
 | exc _=>cases T<;>cases ea
 | obj _ _ _=>cases T<;>cases ea
theorem jK {X:Cx} {a:Expr} {f:FE} {x y:Str} {p p1 p2 p3 pos:Pos} {kk:Nat} (T U:vc) (hg:Gl X "isinstance") (hgT:Gl X x) (hgU:Gl X y) (hm:X.mg "isinstance" = none) (hmT:X.mg x=none) (hmU:X.mg y=none) (hv:bootBuiltins x=some (.type T.nm)) (hw:bootBuiltins y=some (.type U.nm)) (ha:SB X a f) (hs:yi a=true:=by rfl)
  (hn:x ≠ "__name__" := by decide) (hd:(x == ("__debug__" : Str))=false:=by decide) (hn':y ≠ "__name__" := by decide) (hd':(y == ("__debug__" : Str))=false:=by decide):SE X (.Call (.Name "isinstance" p) [a,.Tuple [.Name x p1,.Name y p2] kk p3] [] pos) (qj T U f):=by
 obtain ⟨t,pt,k⟩:=ha.h
 refine ⟨⟨_,(gP (O7 T U) hg hm UQ (qI ⟨pt⟩ (qI (C3 (qI (Wx hgT hmT hv hn hd) (qI (Wx hgU hmU hw hn' hd') gN rfl) rfl)) gN rfl) hs) (by decide) (by decide) (by rw [List.all_cons,hs]; rfl)).h,fun {G0 H0 G H τ σ d Q} E hf q=>?_⟩⟩
 obtain ⟨z,hz,hf⟩:=zF hf
 obtain ⟨b1,hb1,hf⟩:=zF hf
 obtain ⟨b2,hb2,hf⟩:=zF hf
 cases hf
 refine k E hz fun v G' H' x r=>⟨zU (n:=2) (by decide),fun tp htp=>?_⟩
 exact ⟨v,z,b1,b2,tp,rfl,r.mono (wE htp _),yR.of yz,hb1,hb2,q _ _ _ (x.trans (zK.layO x.gh htp)) rfl⟩
end L3
namespace L2
open PySem PySem.Spec PyProof PyProof.Rows
end L2
namespace L3
open PySem PySem.Spec PyProof PyProof.Rows L2
end L3
namespace L2
open PySem PySem.Spec PyProof PyProof.Rows
section
variable {X:Cx} {A:Addr} {ks:List Key} {us:List V} {x:Str} {p apos cpos:Pos}
end
end L2
namespace L3
open PySem PySem.Spec PyProof PyProof.Rows L2
end L3
namespace L2
open PySem PySem.Spec PyProof PyProof.Rows
section
variable {X:Cx} {x n:Str} {p pos np hpos tpos:Pos} {e e1 e2:Expr} {es:List Expr} {ta:TA} {te:TE} {tx:TX} {ps:List Str} {j k i:Nat} {sp:Sp} {E:XK} {D:Addr} {suite:List Stmt} {ts:TS} {b₀:Stmt}
end
end L2
namespace L3
open PySem PySem.Spec PyProof PyProof.Rows L2
section
variable {X:Cx} {E:XK} {x:Str} {C:Addr} {st:Stmt} {sts yN:List Stmt} {g:FS} {f:FSX} {ft:FT} {fa:FA} {c e:Expr} {es:List Expr} {np cpos pos ipos:Pos}
end
section
variable {P:Program} {w:World} {K:PySem.W.Frag} {mg:Str->Option Value} {base:Heap}
end
section
variable {X:Cx} {iy i j k kb:Nat} {y n x z f g pn:Str} {C D:Addr} {ps:List Str} {F:FX} {B:Str->Option Bool} {fa:FA} {fc:FE} {c e:Expr} {es:List Expr} {yp fp cp ap np gp mp gc bp rp hpos tpos:Pos}
end
end L3
namespace L2
open PySem PySem.Spec PyProof PyProof.Rows
section
variable {prog:Program} {w:World} {A:Around} {E:Value->Shared->Prop} {s:Shared}
end
end L2
namespace L3
open PySem PySem.Spec PyProof PyProof.Rows L2
end L3
namespace L2
open PySem PySem.Spec PyProof PyProof.Rows
section
variable {X:Cx} {pins:List (Addr×Obj)} {σ:St} {H:Hp} {s:Shared} {a:Addr} {o:Obj} {kvs:List (Key×V)}
end
end L2
namespace L2
open PySem PySem.Spec PyProof PyProof.Rows
end L2
namespace L3
open PySem PySem.Spec PyProof PyProof.Rows L2
section
variable {K:PySem.W.Frag} {a:Addr} {o:Obj} {kvs:List (Key×V)} {G G' H H' G0 H0:Hp}
end
end L3
namespace L2
open PySem PySem.Spec PyProof PyProof.Rows
end L2
namespace L3
open PySem PySem.Spec PyProof PyProof.Rows L2
section
variable {X:Cx} {i:Nat} {tg iter elt:Expr} {ifs:List Expr} {scope:Scope} {cl:List (Str×Addr)} {own:List Str} {pos:Pos} {fs:FA} {fg:FG} {ft:FT} {f:FE} {g:TG}
end
end L3
namespace L2
open PySem PySem.Spec PyProof PyProof.Rows
end L2
namespace L3
open PySem PySem.Spec PyProof PyProof.Rows L2
end L3
namespace L2
open PySem PySem.Spec PyProof PyProof.Rows
section
variable {prog:Program} {w:World} {K:Type} [DecidableEq K] {knd:KeyKind prog w K} {A:Around} {E:Value->Shared->Prop} {s:Shared}
end
end L2
namespace L3
open PySem PySem.Spec PyProof PyProof.Rows L2
end L3
namespace L2
open PySem PySem.Spec PyProof PyProof.Rows
section
variable {prog:Program} {w:World} {A:Around} {R:Result->Shared->Prop} {I:Addr} {fp wr:List Addr} {n:Nat} {P:Nat->Value->Prop} {St:Nat->Heap->Prop} {kw:List (Str×Value)}
end
section
variable {prog:Program} {w:World} {A:Around} {E:Value->Shared->Prop} {s:Shared}
end
section
variable {X:Cx}
end
end L2
namespace L3
open PySem PySem.Spec PyProof PyProof.Rows L2
end L3
namespace L3
open PySem PySem.Spec PyProof PyProof.Rows L2
section
variable {X:Cx} {j k kk i:Nat} {f x n z g:Str} {C D':Addr} {ps:List Str} {F:FX} {FF:List D->Option (Bool×D)} {fa:FA} {fc:FE} {fx:FEX} {gs:FS} {c e b:Expr} {es:List Expr} {b₀:Stmt} {suite sts:List Stmt} {fp cp np p p1 pos rp hpos tpos:Pos}
end
section
variable {P:Program} {w:World} {K:PySem.W.Frag} {mg:Str->Option Value} {base:Heap}
end
end L3
namespace L2
open PySem PySem.Spec PyProof PyProof.Rows
section
variable {X:Cx}
end
end L2
namespace L3
open PySem PySem.Spec PyProof PyProof.Rows L2
end L3
namespace L2
open PySem PySem.Spec PyProof PyProof.Rows
open Builtin Builtin.Str
section
variable {X:Cx}
theorem Mn:tW X "str.startswith" (fun x vs H Q=>∃ z y:Str,x=.str z/\vs=[.str y]/\Q (.bl (Txt.startswith z y)) H):=by
 intro pins s σ H x vs v us Q I rx rv h
 obtain ⟨z,y,rfl,rfl,q⟩:=h
 obtain ⟨t,rfl⟩:=(show ∃ t,v=Value.str z t from rx)
 obtain ⟨u,rfl,t',rfl⟩:=wN rv
 exact call_gives F.slot_str_startswith (typeIs_str _ _ _) F.entry_str_startswith (F.args_str_startswith_2 _ _) (gives_str_startswith z y t t') ⟨.bl _,H,I,rfl,q⟩
theorem Mi:tW X "str.endswith" (fun x vs H Q=>∃ z y:Str,x=.str z/\vs=[.str y]/\Q (.bl (Txt.endswith z y)) H):=by
 intro pins s σ H x vs v us Q I rx rv h
 obtain ⟨z,y,rfl,rfl,q⟩:=h
 obtain ⟨t,rfl⟩:=(show ∃ t,v=Value.str z t from rx)
 obtain ⟨u,rfl,t',rfl⟩:=wN rv
 exact call_gives F.slot_str_endswith (typeIs_str _ _ _) F.entry_str_endswith (F.args_str_endswith_2 _ _) (gives_str_endswith z y t t') ⟨.bl _,H,I,rfl,q⟩
theorem Ml:tW X "str.partition" (fun x vs H Q=>∃ z y:Str,x=.str z/\vs=[.str y]/\(y.length == 0)=false/\z.length<=sizeLine/\∀ p,H p=none->Q (.ref p) (zX H p (.tup [.str (Txt.partition z y).1,.str (Txt.partition z y).2.1,.str (Txt.partition z y).2.2]))):=by
 intro pins s σ H x vs v us Q I rx rv h
 obtain ⟨z,y,rfl,rfl,hy,hz,q⟩:=h
 obtain ⟨t,rfl⟩:=(show ∃ t,v=Value.str z t from rx)
 obtain ⟨u,rfl,t',rfl⟩:=wN rv
 refine call_meets F.slot_str_partition (typeIs_str _ _ _) F.entry_str_partition (F.args_str_partition_2 _ _) (meets_str_partition z y t t' hy hz) ?_
 have lay:∀ (ta tb tc:Tok) (k:Nat),EP X pins σ Q (.ref s.heap.objs.size) { s with toks:=k,heap:=s.heap.push { cls:=.type "tuple",data:=.seq [.str (Txt.partition z y).1 ta,.str (Txt.partition z y).2.1 tb,.str (Txt.partition z y).2.2 tc].toArray } }:=fun ta tb tc k=>by
  have hv:zf [V.str (Txt.partition z y).1,.str (Txt.partition z y).2.1,.str (Txt.partition z y).2.2] [.str (Txt.partition z y).1 ta,.str (Txt.partition z y).2.1 tb,.str (Txt.partition z y).2.2 tc]:=.cons ⟨_,rfl⟩ (.cons ⟨_,rfl⟩ (.cons ⟨_,rfl⟩ .nil))
  exact ⟨.ref s.heap.objs.size,_,I.laid (o:=.tup _) (t':=k) (fun b u e=>Heap.get?_push_of_some _ e) (Nat.le_refl _) ⟨(by show 3<=sizeLine; decide),_,hv,⟨_,Heap.get?_push_size _ rfl,rfl,_,rfl⟩⟩,rfl,q _ I.fresh⟩
 unfold Txt.partition at lay
 revert lay
 cases occurrences z y 0 z.length 1 with
 | nil=>intro lay; exact lay _ _ _ _
 | cons i r=>intro lay; exact lay _ _ _ _
theorem Jr:∀ l:List (Str×Tok),zf ((l.map (·.1)).map V.str) (strValues l)
 | []=>.nil
 | p::r=>.cons ⟨p.2,rfl⟩ (Jr r)
theorem Ji (x y:Str) (h:x.length+2<=sizeLine):(Txt.split x y).length<=sizeLine:=by
 have one:[x].length<=sizeLine:=by show 1<=sizeLine; decide
 unfold Txt.split
 split
 ·exact one
 ·split
  ·exact one
  ·have e1:=StrLaws.occ_length_le x y 0 x.length (x.length+1)
   rw [length_partsBetween]
   omega
theorem Mm:tW X "str.split" (fun x vs H Q=>∃ z y:Str,x=.str z/\vs=[.str y]/\(y.length == 0)=false/\z.length+2<=sizeLine/\∀ p,H p=none->Q (.ref p) (zX H p (.lst ((Txt.split z y).map V.str)))):=by
 intro pins s σ H xv vs v us Q I rx rv h
 obtain ⟨x,y,rfl,rfl,hy,hz,q⟩:=h
 obtain ⟨t,rfl⟩:=(show ∃ t,v=Value.str x t from rx)
 obtain ⟨u',rfl,u,rfl⟩:=wN rv
 have lay:∀ (l:List (Str×Tok)) (k:Nat),l.map (·.1)=Txt.split x y->EP X pins σ Q (.ref s.heap.objs.size) { s with toks:=k,heap:=s.heap.push { cls:=.type "list",data:=.seq (strValues l).toArray } }:=fun l k e=>by
  refine ⟨.ref s.heap.objs.size,_,I.laid (o:=.lst ((Txt.split x y).map V.str)) (t':=k) (fun b u e=>Heap.get?_push_of_some _ e) (Nat.le_refl _) ⟨?_,strValues l,0,?_,Heap.get?_push_size _ rfl⟩,rfl,q _ I.fresh⟩
  ·rw [List.length_map]
   exact Ji x y hz
  ·rw [<- e]
   exact Jr l
 have hn:(partsBetween x (occurrences x y 0 x.length (x.length+1)) y.length).length<=sizeLine:=by
  have e1:=StrLaws.occ_length_le x y 0 x.length (x.length+1)
  rw [length_partsBetween]; omega
 cases h1:(decide (x.length<y.length)||decide (strKind x<strKind y))
 ·cases hf:(occurrences x y 0 x.length (x.length+1)).isEmpty
  ·refine call_meets F.slot_str_split (typeIs_str _ _ _) F.entry_str_split (F.args_str_split_2 _ _) (meets_str_split_sep x y t u h1 hy hf (by omega) hn) ?_
   show wants (EP X pins σ Q) X.xe _ { s with toks:=_,heap:=s.heap.push { cls:=.type "list",data:=.seq (strsFrom s.toks (partsBetween x (occurrences x y 0 x.length (x.length+1)) y.length)).toArray } }
   rw [strsFrom_eq]
   exact lay (PySem.numbered s.toks _) _ ((numbered_texts _ _).trans ((if_neg (ne_true_of_eq_false h1)).trans (if_neg (ne_true_of_eq_false hf))).symm)
  ·exact call_meets F.slot_str_split (typeIs_str _ _ _) F.entry_str_split (F.args_str_split_2 _ _) (meets_str_split_not_found x y t u h1 hy hf)
    (lay [(x,t)] s.toks ((if_neg (ne_true_of_eq_false h1)).trans (if_pos hf)).symm)
 ·exact call_meets F.slot_str_split (typeIs_str _ _ _) F.entry_str_split (F.args_str_split_2 _ _) (meets_str_split_cannot_occur x y t u h1)
   (lay [(x,t)] s.toks (if_pos h1).symm)
noncomputable def U3 (X:Cx) (e:Expr) (t:TE):Prop:=∀ (pins:List (Addr×Obj)) (s:Shared) (σ:St) (H:Hp) (Q:VK),Inv X pins σ H s->t σ H Q->wpAny (model X.prog X.w) X.A (eval e X.env) (fun v s'=>EP X pins σ Q v s'/\0<s'.toks) X.xe s
variable {a o:Expr} {ta to:TE} {i:Int} {ck ck1 ck2:Nat} {cp pos apos cpos p1 p2:Pos} {y z:Str}
theorem Ds (ha:PE X a ta) (hs:ZE (.Constant (.int i) ck cp)):U3 X (.Subscript a (.Constant (.int i) ck cp) pos) (kz (Yb X.K) ta (tC (.int i))):=by
 intro pins s σ H Q I h
 refine Subscript_ (zj (ha pins s σ H _ I h) fun v s1 ⟨x,H1,I1,r1,q1⟩=>wpAny_Constant_int ?_)
 obtain ⟨p,xs,j',zz,rfl,e,hq,he,q⟩:=(show Yb X.K x (.int i) H1 Q from q1)
 cases e
 cases r1
 have I2:Inv X pins σ H1 { s1 with toks:=s1.toks+1 }:=I1.tok _
 obtain ⟨its,r,pl,hz⟩:=I2.tuple hq
 obtain ⟨j,h1,h2,h3,h4,h5⟩:=ZM he
 obtain ⟨w,ew,rw'⟩:=r.get h2
 have hl:=r.length
 have hn:=j8
 have fin:EP X pins σ Q w { s1 with toks:=s1.toks+1 }/\0<s1.toks+1:=⟨⟨zz,H1,I2,rw',q⟩,Nat.succ_pos _⟩
 exact subscriptTail_builtinR (x:=w) pl.typeIs slot_tuple_getitem.lookup
  (getItem_tuple (j:=j) (Q:=fun r s'=>r=w/\(EP X pins σ Q r s'/\0<s'.toks)) pl (by omega) (by omega) (by rw [List.size_toArray,<- hl]; exact h1) (by simpa using ew) ⟨rfl,fin⟩) (hs _ _)
noncomputable def Gk (y z:Str) (to:TE):TE:=fun σ H Q=>to σ H fun x H1=>∃ w:Str,x=.str w/\w.length+(w.length+1)*z.length<=16777216/\Q (.str (Txt.replace w y z)) H1
theorem Dp (ho:U3 X o to) (hyz:(y == z)=false) (hbase:attributeBase o "replace" X.env (eval o X.env)=eval o X.env:=by rfl) (hline:(apos.endLine == cpos.line)=true:=by rfl) :
  PE X (.Call (.Attribute o "replace" apos) [.Constant (.str y) ck1 p1,.Constant (.str z) ck2 p2] [] cpos) (Gk y z to):=by
 intro pins s σ H Q I h
 refine wpAny_Call_method_late hbase rfl hline rfl (zj (ho pins s σ H _ I h) fun v s1 ⟨⟨x,H1,I1,r1,w,hx,hb,q1⟩,tk⟩=>?_)
 subst hx
 obtain ⟨h1,h2⟩:=J_ (T := "str") I1 r1 rfl
 refine ⟨"str", "str.replace",PySem.F.plainAttrs_str,PySem.F.slot_str_replace,PySem.F.type_str_replace,h1,h2,?_⟩
 obtain ⟨t,rfl⟩:=(show ∃ t,v=Value.str w t from r1)
 refine Calls.callWith_builtin rfl (Calls.evalArgs_plain ?_)
 refine Calls.spliced_cons (Calls.Constant_str (k:=ck1) (pos:=p1) ?_)
 refine Calls.spliced_cons (Calls.Constant_str (k:=ck2) (pos:=p2) ?_)
 refine Calls.spliced_nil ?_
 exact SC.replace (by show s1.toks≠0; omega) (by show s1.toks+1≠0; omega) (by show s1.toks≠s1.toks+1; omega) hyz hb fun t' k=>⟨.str _,H1,I1.tok _,⟨_,rfl⟩,q1⟩
end
end L2
namespace L3
open PySem PySem.Spec PyProof PyProof.Rows L2
noncomputable def jt:D->D->Option D
 | .str z,.str y=>some (.bl (Txt.startswith z y))
 | _,_=>none
noncomputable def jr:D->D->Option D
 | .str z,.str y=>some (.bl (Txt.endswith z y))
 | _,_=>none
noncomputable def Xt:D->D->Option D
 | .str z,.str y=>if (y.length == 0)=false/\(Txt.partition z y).1.length<=16777216/\(Txt.partition z y).2.1.length<=16777216/\(Txt.partition z y).2.2.length<=16777216 then some (.tup [.str (Txt.partition z y).1,.str (Txt.partition z y).2.1,.str (Txt.partition z y).2.2]) else none
 | _,_=>none
noncomputable def qp:D->D->Option D
 | .str z,.str y=>if (y.length == 0)=false/\z.length+2<=16777216 then some (.lst ((Txt.split z y).map D.str)) else none
 | _,_=>none
noncomputable def Xw (i:Int):D->Option D
 | .tup xs=>wI xs i
 | _=>none
noncomputable def Xu (y z:Str):D->Option D
 | .str w=>if w.length+(w.length+1)*z.length<=16777216/\(Txt.replace w y z).length<=16777216 then some (.str (Txt.replace w y z)) else none
 | _=>none
section
variable {X:Cx} {o e a:Expr} {fo f fa:FE} {apos cpos p1 p2 cp pos:Pos} {nm:Str} {id:String} {rm:V->List V->Hp->VK->Prop} {F:D->D->Option D} {ck ck1 ck2:Nat} {i:Int} {y z:Str}
theorem VG (slot:Slot "str" nm id) (hty:typeOf (.builtin id)=pure (.type "method_descriptor")) (hm:tW X id rm)
  (hF:∀ {x y d:D},F x y=some d->∃ w,x=.str w) (hR:∀ {w:Str} {y d:D} {v:V} {G H:Hp} {Q:VK},yD G H->w.length<=sizeLine->F (.str w) y=some d->zV X.K G y v->(∀ u G' H',zK G H G' H'->zV X.K G' d u->Q u H')->rm (.str w) [v] H Q)
  (ho:SE X o fo) (he:SE X e f) (hbase:attributeBase o nm X.env (eval o X.env)=eval o X.env:=by rfl) (hline:(apos.endLine == cpos.line)=true:=by rfl) (hs:yi e=true:=by rfl) :
  SE X (.Call (.Attribute o nm apos) [e] [] cpos) (e2 F fo f):=by
 obtain ⟨to,po,ko⟩:=ho.h
 obtain ⟨te,pe,ke⟩:=(zA he zE hs).h
 refine ⟨⟨_,(gO PySem.F.plainAttrs_str slot hty hm ⟨po⟩ ⟨pe⟩ hbase hline (by rw [List.all_cons,hs]; rfl) (by show 1<30; decide)).h,fun {G0 H0 G H τ σ d Q} E hf q=>?_⟩⟩
 obtain ⟨x,hx,hf⟩:=zF hf
 obtain ⟨y,hy,hf⟩:=zF hf
 obtain ⟨w,rfl⟩:=hF hf
 refine ko E hx fun v G1 H1 x1 r1=>?_
 obtain ⟨rfl,l1⟩:=r1
 refine ⟨rfl,ke (E.go x1) (ds:=[y]) (by unfold z8; rw [hy]; rfl) fun ws G2 H2 x2 r2=>?_⟩
 obtain ⟨u,rfl,ru⟩:=vG r2
 exact hR x2.gh l1 hf ru fun u G' H' x3 r3=>q u G' H' ((x1.trans x2).trans x3) r3
theorem JT (ho:SE X o fo) (he:SE X e f) (hbase:attributeBase o "startswith" X.env (eval o X.env)=eval o X.env:=by rfl) (hline:(apos.endLine == cpos.line)=true:=by rfl) (hs:yi e=true:=by rfl) :
  SE X (.Call (.Attribute o "startswith" apos) [e] [] cpos) (e2 jt fo f):=
 VG PySem.F.slot_str_startswith PySem.F.type_str_startswith Mn (fun {x y d} h=>by
  cases x with
  | str w=>exact ⟨w,rfl⟩
  | _=>cases h) (fun {w y d v G H Q} g l h r q=>by
  cases y with
  | str y=>
   cases h
   obtain ⟨rfl,_⟩:=r
   exact ⟨w,y,rfl,rfl,q _ G H (zK.refl g) rfl⟩
  | _=>cases h) ho he hbase hline hs
theorem Ec (ho:SE X o fo) (he:SE X e f) (hbase:attributeBase o "endswith" X.env (eval o X.env)=eval o X.env:=by rfl) (hline:(apos.endLine == cpos.line)=true:=by rfl) (hs:yi e=true:=by rfl) :
  SE X (.Call (.Attribute o "endswith" apos) [e] [] cpos) (e2 jr fo f):=
 VG PySem.F.slot_str_endswith PySem.F.type_str_endswith Mi (fun {x y d} h=>by
  cases x with
  | str w=>exact ⟨w,rfl⟩
  | _=>cases h) (fun {w y d v G H Q} g l h r q=>by
  cases y with
  | str y=>
   cases h
   obtain ⟨rfl,_⟩:=r
   exact ⟨w,y,rfl,rfl,q _ G H (zK.refl g) rfl⟩
  | _=>cases h) ho he hbase hline hs
theorem Ei (ho:SE X o fo) (he:SE X e f) (hbase:attributeBase o "partition" X.env (eval o X.env)=eval o X.env:=by rfl) (hline:(apos.endLine == cpos.line)=true:=by rfl) (hs:yi e=true:=by rfl) :
  SE X (.Call (.Attribute o "partition" apos) [e] [] cpos) (e2 Xt fo f):=
 VG PySem.F.slot_str_partition PySem.F.type_str_partition Ml (fun {x y d} h=>by
  cases x with
  | str w=>exact ⟨w,rfl⟩
  | _=>cases h) (fun {w y d v G H Q} g l h r q=>by
  cases y with
  | str y=>
   change (if (y.length == 0)=false/\(Txt.partition w y).1.length<=16777216/\(Txt.partition w y).2.1.length<=16777216/\(Txt.partition w y).2.2.length<=16777216 then some (D.tup [.str (Txt.partition w y).1,.str (Txt.partition w y).2.1,.str (Txt.partition w y).2.2]) else none)=some d at h
   by_cases c:(y.length == 0)=false/\(Txt.partition w y).1.length<=16777216/\(Txt.partition w y).2.1.length<=16777216/\(Txt.partition w y).2.2.length<=16777216
   ·rw [if_pos c] at h
    cases h
    obtain ⟨rfl,_⟩:=r
    obtain ⟨c0,c1,c2,c3⟩:=c
    rw [<- sizeLine_eq] at c1 c2 c3
    exact ⟨w,y,rfl,rfl,c0,l,fun p hp=>q _ _ _ (zK.lay g hp) ⟨p,_,rfl,yR.of yz,⟨_,_,rfl,⟨rfl,c1⟩,_,_,rfl,⟨rfl,c2⟩,_,_,rfl,⟨rfl,c3⟩,rfl⟩,(by show 3<=sizeLine; decide)⟩⟩
   ·rw [if_neg c] at h
    cases h
  | _=>cases h) ho he hbase hline hs
theorem JC {K:PySem.W.Frag} {G:Hp}:∀ {l:List Str},(∀ a∈l,a.length<=sizeLine)->Reps K G (l.map D.str) (l.map V.str)
 | [],_=>rfl
 | a::l,h=>⟨_,_,rfl,⟨rfl,h a (List.mem_cons_self ..)⟩,JC fun b hb=>h b (List.mem_cons_of_mem _ hb)⟩
theorem JZ (ho:SE X o fo) (he:SE X e f) (hbase:attributeBase o "split" X.env (eval o X.env)=eval o X.env:=by rfl) (hline:(apos.endLine == cpos.line)=true:=by rfl) (hs:yi e=true:=by rfl) :
  SF X (.Call (.Attribute o "split" apos) [e] [] cpos) (e2 qp fo f):=by
 obtain ⟨to,po,ko⟩:=ho.h
 obtain ⟨te,pe,ke⟩:=(zA he zE hs).h
 refine ⟨⟨_,(gO PySem.F.plainAttrs_str PySem.F.slot_str_split PySem.F.type_str_split Mm ⟨po⟩ ⟨pe⟩ hbase hline (by rw [List.all_cons,hs]; rfl) (by show 1<30; decide)).h,fun {G0 H0 G H τ σ d Q} E hf q=>?_⟩⟩
 obtain ⟨x,hx,hf⟩:=zF hf
 obtain ⟨y,hy,hf⟩:=zF hf
 refine ko E hx fun v G1 H1 x1 r1=>?_
 cases x with
 | str w=>
  obtain ⟨rfl,l1⟩:=r1
  refine ⟨rfl,ke (E.go x1) (ds:=[y]) (by unfold z8; rw [hy]; rfl) fun ws G2 H2 x2 r2=>?_⟩
  obtain ⟨u,rfl,ru⟩:=vG r2
  cases y with
  | str y=>
   change (if (y.length == 0)=false/\w.length+2<=16777216 then some (D.lst ((Txt.split w y).map D.str)) else none)=some d at hf
   by_cases c:(y.length == 0)=false/\w.length+2<=16777216
   ·rw [if_pos c] at hf
    cases hf
    obtain ⟨rfl,_⟩:=ru
    have c2:w.length+2<=sizeLine:=by rw [sizeLine_eq]; exact c.2
    have x12:=x1.trans x2
    refine ⟨w,y,rfl,rfl,c.1,c2,fun p hp=>q p _ _ (x12.trans (zK.layO x12.gh hp)) (x12.h.free hp) (x12.gh.free hp) ⟨_,yz,JC fun a ha=>Nat.le_trans (part_short ha) l1,?_⟩⟩
    rw [List.length_map]
    exact Ji w y c2
   ·rw [if_neg c] at hf
    cases hf
  | _=>cases hf
 | _=>cases hf
theorem Ej {y z:Str} (ha:SE X a fa) (hs:ZE (.Constant (.int i) ck cp)) (hyz:(y == z)=false) (hbase:attributeBase (.Subscript a (.Constant (.int i) ck cp) pos) "replace" X.env (eval (.Subscript a (.Constant (.int i) ck cp) pos) X.env)=eval (.Subscript a (.Constant (.int i) ck cp) pos) X.env:=by rfl) (hline:(apos.endLine == cpos.line)=true:=by rfl) :
  SE X (.Call (.Attribute (.Subscript a (.Constant (.int i) ck cp) pos) "replace" apos) [.Constant (.str y) ck1 p1,.Constant (.str z) ck2 p2] [] cpos) (e1 (Xu y z) (e1 (Xw i) fa)):=by
 obtain ⟨ta,pa,ka⟩:=ha.h
 refine ⟨⟨_,Dp (Ds pa hs) hyz hbase hline,fun {G0 H0 G H τ σ d Q} E hf q=>?_⟩⟩
 obtain ⟨w,hw,hf⟩:=zF hf
 obtain ⟨x,hx,hw⟩:=zF hw
 refine ka E hx fun v G1 H1 x1 r1=>?_
 cases x with
 | tup xs=>
  have hw:wI xs i=some w:=hw
  obtain ⟨p,vs,rfl,sq,rs,l⟩:=r1
  obtain ⟨u,hu,ru⟩:=V5 rs hw
  refine ⟨p,vs,i,u,rfl,rfl,wc x1.gh sq,hu,?_⟩
  cases w with
  | str w=>
   change (if w.length+(w.length+1)*z.length<=16777216/\(Txt.replace w y z).length<=16777216 then some (D.str (Txt.replace w y z)) else none)=some d at hf
   by_cases c:w.length+(w.length+1)*z.length<=16777216/\(Txt.replace w y z).length<=16777216
   ·rw [if_pos c] at hf
    cases hf
    obtain ⟨rfl,_⟩:=ru
    exact ⟨w,rfl,c.1,q _ _ _ x1 ⟨rfl,by rw [sizeLine_eq]; exact c.2⟩⟩
   ·rw [if_neg c] at hf
    cases hf
  | _=>cases hf
 | _=>cases hw
end
end L3
namespace L2
open PySem PySem.Spec PyProof PyProof.Rows
theorem O5 {X:Cx}:xV X (.type "int") (fun xs H Q=>∃ (z:Str) (n:Int),xs=[.str z]/\z.length<=640/\PySem.intText? z=some n/\Q (.int n) H):=by
 intro pins s σ H xs us Q I r h
 obtain ⟨z,n,rfl,hl,hn,q⟩:=h
 obtain ⟨u,rfl,t,rfl⟩:=wN r
 exact PySem.W.KIN.call_text hn hl ⟨.int n,H,I.tok _,⟨_,rfl⟩,q⟩
end L2
namespace L3
open PySem PySem.Spec PyProof PyProof.Rows L2
noncomputable def Xq:List D->Option D
 | [.str z]=>if z.length<=640 then (PySem.intText? z).bind fun n=>some (.int n) else none
 | _=>none
theorem Ef {X:Cx} {e:Expr} {fs:FA} {p pos:Pos} (hg:Gl X "int") (hm:X.mg "int" = none) (ha:SA X [e] fs) (hs:yi e=true:=by rfl):SE X (.Call (.Name "int" p) [e] [] pos) (eL Xq fs):=by
 obtain ⟨t,pt,k⟩:=ha.h
 refine ⟨⟨_,(q_ (p:=p) (pos:=pos) O5 hg hm XY ⟨pt⟩ (by decide) (by decide) (by rw [List.all_cons,hs]; rfl)).h,fun {G0 H0 G H τ σ d Q} E hf q=>?_⟩⟩
 obtain ⟨ds,hd,hf⟩:=zF hf
 refine k E hd fun vs G1 H1 x1 r1=>?_
 match ds,hf with
 | [.str z],hf=>
  change (if z.length<=640 then (PySem.intText? z).bind fun n=>some (D.int n) else none)=some d at hf
  by_cases c:z.length<=640
  ·rw [if_pos c] at hf
   obtain ⟨n,hn,hf⟩:=zF hf
   cases hf
   obtain ⟨v,rfl,rv⟩:=vG r1
   obtain ⟨rfl,_⟩:=rv
   exact ⟨z,n,rfl,c,hn,q _ _ _ x1 rfl⟩
  ·rw [if_neg c] at hf
   cases hf
end L3
namespace L2
open PySem PySem.Spec PyProof PyProof.Rows
section
variable {X:Cx} {x n:Str} {p pos np hpos tpos:Pos} {e e1 e2:Expr} {es:List Expr} {ta:TA} {te:TE} {tx:TX} {ps:List Str} {j k i:Nat} {sp:Sp} {E:XK} {D:Addr} {suite:List Stmt} {ts:TS} {b₀:Stmt}
end
end L2
namespace L3
open PySem PySem.Spec PyProof PyProof.Rows L2
section
variable {X:Cx} {j i iy:Nat} {x n z y:Str} {C D':Addr} {fx:FEX} {gs:FS} {e:Expr} {b₀:Stmt} {suite:List Stmt} {np pos yp hpos tpos:Pos}
end
end L3
local macro_rules
 | `(tactic| simp! [$ls,*])=>`(tactic| simp only [L3.shx,Nat.reduceAdd,Nat.reduceSub,Int.reduceLT,Int.reduceLE,Int.reducePow,Int.reduceToNat,Int.reduceAdd,Int.reduceSub,Int.reduceMul,Int.reduceNeg,$ls,*])
namespace L3
open PySem
noncomputable def L7:List D:=[(.str "carry"),(.str "nought"),(.str "sign")]
noncomputable def Y1:D:=.tup L7
noncomputable def L6:List D:=[(.str "jump"),(.str "when"),(.str "unless")]
noncomputable def gA:D:=.tup L6
noncomputable def xU:List (Sum Int Str):=List.map .inr ["label", "set", "high", "copy", "add", "addc", "sub", "subc", "and", "or", "xor", "test", "left", "right", "load", "store", "loadw", "storew", "jump", "when", "unless", "stop"]
noncomputable def vj:List D:=[(.tup [(.str "name")]),(.tup [(.str "d"),(.str "n")]),(.tup [(.str "d"),(.str "n")]),(.tup [(.str "d"),(.str "s")]),(.tup [(.str "d"),(.str "s")]),(.tup [(.str "d"),(.str "s")]),(.tup [(.str "d"),(.str "s")]),(.tup [(.str "d"),(.str "s")]),(.tup [(.str "d"),(.str "s")]),(.tup [(.str "d"),(.str "s")]),(.tup [(.str "d"),(.str "s")]),(.tup [(.str "d"),(.str "s")]),(.tup [(.str "d"),(.str "n")]),(.tup [(.str "d"),(.str "n")]),(.tup [(.str "d"),(.str "s"),(.str "n")]),(.tup [(.str "d"),(.str "s"),(.str "n")]),(.tup [(.str "d"),(.str "s"),(.str "n")]),(.tup [(.str "d"),(.str "s"),(.str "n")]),(.tup [(.str "name")]),(.tup [(.str "mark"),(.str "name")]),(.tup [(.str "mark"),(.str "name")]),(.tup [])]
noncomputable def Zz:List (Sum Int Str):=List.map .inr ["set", "high", "left", "right", "load", "store", "loadw", "storew"]
noncomputable def Y2:List D:=[(.int 16),(.int 16),(.int 5),(.int 5),(.int 8),(.int 8),(.int 8),(.int 8)]
noncomputable def jz:List (Sum Int Str):=List.map .inr ["kind", "d", "s", "mark", "distance"]
noncomputable def gB:List D:=[(.tup [(.int 27),(.int 5)]),(.tup [(.int 24),(.int 3)]),(.tup [(.int 21),(.int 3)]),(.tup [(.int 24),(.int 2)]),(.tup [(.int 0),(.int 5)])]
end L3
namespace L3
open PySem
noncomputable def UB:FS:=
 (zG (zl (tE (e2 (u4 fun i j=>decide (i<j)) (z6 1) (eL ye (z8 (z6 0) zC))))
   (zk (e2 zM (z6 0) (z6 1)))
   zn)
  (zk (eC (.int 0))))
theorem Lj (ns:List Int) (k:Nat):(ns.map D.int)[k]?=(ns[k]?).map D.int:=List.getElem?_map
noncomputable def Zk (ns:List Int) (k:Int):Int:=ns.getD k.toNat 0
noncomputable def uj:List D->Option (Bool×D)
 | [.lst xs,.int k]=>if 0<=k then ((xs[k.toNat]?).getD (.int 0) |> fun d=>some (false,d)) else none
 | _=>none
theorem UW (ns:List Int) {k:Int} (h:0<=k):uj [.lst (ns.map D.int),.int k]=some (false,.int (Zk ns k)):=by
 show (if 0<=k then _ else _)=_
 rw [if_pos h,Lj]
 unfold Zk
 rw [List.getD_eq_getElem?_getD]
 cases ns[k.toNat]?<;>rfl
theorem Cs:∀ ds r,uj ds=some r->ds.length=2/\zZ 2 UB ds=some r:=fun ds r h=>by
 unfold uj at h
 split at h
 ·rename_i xs k
  refine ⟨rfl,?_⟩
  by_cases h0:0<=k
  ·rw [if_pos h0] at h
   cases h
   unfold UB
   by_cases c:k<(xs.length:Int)
   ·have e:zM (.lst xs) (.int k)=some ((xs[k.toNat]?).getD (.int 0)):=by
     show wI xs k=_
     unfold wI
     rw [if_pos h0,List.getElem?_eq_getElem (by omega)]
     rfl
    simp! [decide_eq_true c,e]
   ·have e:xs[k.toNat]?=none:=List.getElem?_eq_none (by omega)
    simp! [decide_eq_false c,e,Option.getD]
  ·rw [if_neg h0] at h
   cases h
 ·cases h
end L3
namespace L3
open PySem
noncomputable def lt (k:Int):Str:=⟨#[97+k.toNat]⟩
theorem Ig {k:Int} (h0:0<=k) (h1:k<26):wI ("abcdefghijklmnopqrstuvwxyz" : Str).cps.toList k=some (97+k.toNat):=by
 have h:∀ j:Fin 26,wI ("abcdefghijklmnopqrstuvwxyz" : Str).cps.toList (j.val:Int)=some (97+j.val):=by decide +kernel
 have:=h ⟨k.toNat,by omega⟩
 rw [show ((⟨k.toNat,by omega⟩:Fin 26).val:Int)=k by show (k.toNat:Int)=k; omega] at this
 exact this
theorem U6 {k:Int} (h0:0<=k) (h1:k<26):zM (.str "abcdefghijklmnopqrstuvwxyz") (.int k)=some (.str (lt k)):=by
 show (wI _ k).bind _=_
 rw [Ig h0 h1]
 rfl
theorem add_str {a b:Str} (h:a.length+b.length<=100000):zy (.str a) (.str b)=some (.str (a++b)):=by
 show (if a.length+b.length<=yO then _ else _)=_
 rw [if_pos (by show _<=16777216; omega)]
theorem u9 (a b:Str):(a++b).length=a.length+b.length:=Array.size_append
theorem j9 (k:Int):(lt k).length=1:=rfl
theorem Ih:((("abcdefghijklmnopqrstuvwxyz" : Str).length:Nat):Int)=26:=by decide +kernel
end L3
namespace L3
open PySem
theorem uV {g:FG} {c:FT} {e:FE} {σ:zp} (p:D->Bool) (v:D->D):∀ {ds:List D},(∀ d∈ds,∃ σ1,g d σ=some σ1/\c σ1=some (p d)/\(p d=true->e σ1=some (v d)))->yr g c e σ ds=some ((ds.filter p).map v)
 | [],_=>rfl
 | d::ds,h=>by
  obtain ⟨σ1,e1,e2,e3⟩:=h d (List.mem_cons_self ..)
  have ih:=uV p v (ds:=ds) fun x hx=>h x (List.mem_cons_of_mem _ hx)
  show (g d σ).bind _=_
  rw [e1]
  show (c σ1).bind _=_
  rw [e2]
  cases hp:p d with
  | false=>
   rw [List.filter_cons_of_neg (by rw [hp]; decide)]
   exact ih
  | true=>
   rw [List.filter_cons_of_pos hp]
   show (e σ1).bind _=_
   rw [e3 hp]
   show (yr g c e σ ds).bind _=_
   rw [ih]
   rfl
theorem vU {g:FG} {e:FE} {σ:zp} (v:D->D) {ds:List D} (h:∀ d∈ds,∃ σ1,g d σ=some σ1/\e σ1=some (v d)):yr g yF e σ ds=some (ds.map v):=by
 have:=uV (g:=g) (c:=yF) (e:=e) (σ:=σ) (fun _=>true) v (ds:=ds) fun d hd=>by
  obtain ⟨σ1,a,b⟩:=h d hd
  exact ⟨σ1,a,rfl,fun _=>b⟩
 rw [this,List.filter_eq_self.mpr (fun _ _=>rfl)]
inductive wO (R:D->D->Prop):List D->List D->Prop
 | nil:wO R [] []
 | cons {x y:D} {xs ys:List D}:R x y->wO R xs ys->wO R (x::xs) (y::ys)
theorem WN {g:FG} {e:FE} {σ:zp} (R:D->D->Prop):∀ {ds:List D},(∀ d∈ds,∃ σ1 x,g d σ=some σ1/\e σ1=some x/\R d x)->∃ xs,yr g yF e σ ds=some xs/\wO R ds xs
 | [],_=>⟨[],rfl,.nil⟩
 | d::ds,h=>by
  obtain ⟨σ1,x,e1,e2,r⟩:=h d (List.mem_cons_self ..)
  obtain ⟨xs,ih,rs⟩:=WN R (ds:=ds) fun x hx=>h x (List.mem_cons_of_mem _ hx)
  refine ⟨x::xs,?_,.cons r rs⟩
  show (g d σ).bind _=_
  rw [e1]
  show (e σ1).bind _=_
  rw [e2]
  show (yr g yF e σ ds).bind _=_
  rw [ih]
  rfl
theorem VZ {n i:Nat} {d:D} (h:(xQ n)[i]?=some d):i<n/\d=.int (i:Int):=by
 have hi:i<n:=by
  have:=(List.getElem?_eq_some_iff.mp h).1
  simpa using this
 refine ⟨hi,?_⟩
 simp [hi] at h
 exact h.symm
theorem pA {n:Nat} {d:D} (h:d∈xQ n):∃ i:Nat,i<n/\d=.int (i:Int):=by
 obtain ⟨i,hi,e⟩:=List.getElem_of_mem h
 exact ⟨i,(VZ (List.getElem?_eq_some_iff.mpr ⟨hi,e⟩))⟩
theorem Va (n:Nat):(xQ n).length=n:=by simp
theorem pQ {α:Type} {xs:List α} {i:Int} {a:α} (h0:0<=i) (h:xs[i.toNat]?=some a):wI xs i=some a:=by
 unfold wI
 rw [if_pos h0,h]
noncomputable def uB:Nat->D->Bool
 | 0,_=>false
 | n+1,.tup xs=>xs.all (uB n)
 | n+1,.lst xs=>xs.all (uB n)
 | _+1,d=>xB d
theorem XZ {f:D->D->Bool}:∀ {xs:List D},(∀ x∈xs,f x x=true)->wp f xs xs=true
 | [],_=>rfl
 | x::xs,h=>by
  show (f x x&&wp f xs xs)=true
  rw [h x (List.mem_cons_self ..),XZ fun y hy=>h y (List.mem_cons_of_mem _ hy)]
  rfl
theorem Xb:∀ {xs:List D},(∀ x∈xs,zg x x=true)->dEqs xs xs=true
 | [],_=>by unfold dEqs; rfl
 | x::xs,h=>by
  unfold dEqs
  rw [h x (List.mem_cons_self ..),Xb fun y hy=>h y (List.mem_cons_of_mem _ hy)]
  rfl
theorem gJ:∀ (n:Nat) (d:D),uB n d=true->xj n d d=true/\zg d d=true
 | 0,_,h=>by cases h
 | n+1,d,h=>by
  cases d with
  | tup xs=>
   have h':∀ x∈xs,uB n x=true:=List.all_eq_true.mp h
   exact ⟨XZ fun x hx=>(gJ n x (h' x hx)).1,by unfold zg; exact Xb fun x hx=>(gJ n x (h' x hx)).2⟩
  | lst xs=>
   have h':∀ x∈xs,uB n x=true:=List.all_eq_true.mp h
   exact ⟨XZ fun x hx=>(gJ n x (h' x hx)).1,by unfold zg; exact Xb fun x hx=>(gJ n x (h' x hx)).2⟩
  | dic ks vs=>cases h
  | exc _=>cases h
  | obj _ _ _=>cases h
  | non=>exact ⟨rfl,by unfold zg; rfl⟩
  | bl b=>exact ⟨rfl,by unfold zg; exact beq_self_eq_true b⟩
  | int i=>exact ⟨rfl,by unfold zg; exact beq_self_eq_true i⟩
  | str z=>exact ⟨rfl,by unfold zg; exact beq_self_eq_true z⟩
theorem Uw {d:D} (h:uB 6 d=true):vi d d=some true:=by
 obtain ⟨h1,h2⟩:=gJ 6 d h
 have e:vi d d=match xj 6 d d with
  | true=>some (zg d d)
  | false=>none:=by cases d<;>rfl
 rw [e,h1,h2]
theorem Oo {d:D} (h:uB 6 d=true):zQ d d=some (.bl true):=by
 unfold zQ
 rw [Uw h]
 rfl
theorem Q4 {d:D} (h:uB 6 d=true):xc d d=some (.bl false):=by
 unfold xc
 rw [Uw h]
 rfl
theorem uR {i j:Int} (h:i=j):zQ (.int i) (.int j)=some (.bl true):=by
 subst h
 show some (D.bl (i == i))=_
 rw [beq_self_eq_true]
theorem uS {i j:Int} (h:i≠j):zQ (.int i) (.int j)=some (.bl false):=by
 show some (D.bl (i == j))=_
 rw [beq_eq_false_iff_ne.mpr h]
theorem add_int {i j:Int}:zy (.int i) (.int j)=some (.int (i+j)):=rfl
theorem VT:∀ ts:List Str,qP (ts.map D.str)=some ts
 | []=>rfl
 | t::ts=>by
  show (qP (ts.map D.str)).bind _=_
  rw [VT ts]
  rfl
theorem M1 {sep:Str} {ts:List Str} (h:(ts.map (·.length)).sum+ts.length*sep.length<=1000000):uP (.str sep) (.lst (ts.map D.str))=some (.str (Builtin.Str.glued sep ts)):=by
 show (qP (ts.map D.str)).bind _=_
 rw [VT]
 show (if _<=yO then _ else _)=_
 rw [if_pos (by show _<=16777216; omega)]
theorem T5 {α:Type} {k:Sum Int Str} {v:α}:∀ {ks:List (Sum Int Str)} {vs:List α},ks.length=vs.length->∀ k',getK (xZ ks k) (xf ks vs k v) k'=if k=k' then some v else getK ks vs k':=by
 have one:∀ {ks:List (Sum Int Str)} {vs:List α},ks.length=vs.length->∀ k',z_ ks k=true->getK ks (List.zipWith (fun k' x=>if k'=k then v else x) ks vs) k'=if k=k' then some v else getK ks vs k':=by
  intro ks
  induction ks with
  | nil=>intro vs _ k' h; cases h
  | cons a ks ih=>
   intro vs hl k' h
   cases vs with
   | nil=>cases hl
   | cons b vs=>
    rw [List.zipWith_cons_cons]
    unfold getK
    by_cases e1:a=k
    ·subst e1
     by_cases e2:a=k'
     ·rw [if_pos e2,if_pos e2,if_pos rfl]
     ·rw [if_neg e2,if_neg e2,if_neg e2]
      by_cases e3:z_ ks a=true
      ·have:=ih (vs:=vs) (by simpa using hl) k' e3
       rw [this,if_neg e2]
      ·have:∀ {ks:List (Sum Int Str)} {vs:List α},ks.length=vs.length->z_ ks a=false->getK ks (List.zipWith (fun k' x=>if k'=a then v else x) ks vs) k'=getK ks vs k':=by
        intro ks
        induction ks with
        | nil=>intro vs _ _; rfl
        | cons a' ks ih'=>
         intro vs hl h
         cases vs with
         | nil=>cases hl
         | cons b vs=>
          have h2:decide (a'=a)=false/\z_ ks a=false:=by
           have:(decide (a'=a)||z_ ks a)=false:=h
           exact Bool.or_eq_false_iff.mp this
          rw [List.zipWith_cons_cons]
          unfold getK
          rw [if_neg (of_decide_eq_false h2.1),ih' (by simpa using hl) h2.2]
       exact this (by simpa using hl) (by simpa using e3)
    ·have h2:z_ ks k=true:=by
      have:(decide (a=k)||z_ ks k)=true:=h
      rw [decide_eq_false e1] at this
      exact this
     have:=ih (vs:=vs) (by simpa using hl) k' h2
     rw [this,if_neg e1]
     by_cases e2:a=k'
     ·rw [if_pos e2]
      rw [if_neg (fun e=>e1 (e2.trans e.symm)),if_pos e2]
     ·rw [if_neg e2]
      by_cases e3:k=k'
      ·rw [if_pos e3,if_pos e3]
      ·rw [if_neg e3,if_neg e3,if_neg e2]
 intro ks vs hl k'
 unfold xZ xf
 by_cases h:z_ ks k=true
 ·rw [if_pos h,if_pos h]
  exact one hl k' h
 ·rw [if_neg h,if_neg h]
  clear one
  induction ks generalizing vs with
  | nil=>
   cases vs with
   | nil=>rfl
   | cons _ _=>cases hl
  | cons a ks ih=>
   cases vs with
   | nil=>cases hl
   | cons b vs=>
    have h2:¬ a=k/\¬ z_ ks k=true:=by
     have:¬ (decide (a=k)||z_ ks k)=true:=h
     constructor
     ·intro e; exact this (by rw [decide_eq_true e]; rfl)
     ·intro e; exact this (by rw [e,Bool.or_true])
    rw [List.cons_append,List.cons_append]
    show (if a=k' then some b else getK (ks++[k]) (vs++[v]) k')=if k=k' then some v else if a=k' then some b else getK ks vs k'
    rw [ih (by simpa using hl) h2.2]
    by_cases e:a=k'
    ·rw [if_pos e,if_pos e]
     rw [if_neg (fun e'=>h2.1 (e.trans e'.symm))]
    ·rw [if_neg e,if_neg e]
theorem W5 {k:Sum Int Str} {ks:List (Sum Int Str)} (k':Sum Int Str):z_ (xZ ks k) k'=(z_ ks k'||decide (k=k')):=by
 unfold xZ
 by_cases h:z_ ks k=true
 ·rw [if_pos h]
  by_cases e:k=k'
  ·subst e; rw [h]; rfl
  ·rw [decide_eq_false e,Bool.or_false]
 ·rw [if_neg h]
  unfold z_
  rw [List.any_append]
  simp
theorem T9 {α:Type}:∀ {ks:List (Sum Int Str)} {us:List α} {as:List (Sum Int Str)} {vs:List α},ks.length=us.length->∀ k,z_ (yu as vs ks us).1 k=(z_ as k||z_ ks k)
 | [],us,as,vs,_,k=>by
  show z_ as k=(z_ as k||false)
  rw [Bool.or_false]
 | a::ks,[],_,_,h,_=>by cases h
 | a::ks,u::us,as,vs,h,k=>by
  show z_ (yu (xZ as a) (xf as vs a u) ks us).1 k=_
  rw [T9 (by simpa using h),W5]
  show _=(z_ as k||(decide (a=k)||z_ ks k))
  rw [Bool.or_assoc]
theorem ur {L M:List D} (h:L.length+M.length<=1000):zy (.lst L) (.lst M)=some (.lst (L++M)):=by
 show (if L.length+M.length<=yO then _ else _)=_
 rw [if_pos (by show _<=16777216; omega)]
theorem Q3 {x y:D} {b:Bool} (h:zQ x y=some (.bl b)):xc x y=some (.bl (!b)):=by
 unfold zQ at h
 unfold xc
 cases e:vi x y with
 | none=>rw [e] at h; cases h
 | some k=>
  rw [e] at h
  cases h
  rfl
end L3
namespace L3
open PySem
theorem He {i:Int} {m:Nat} (h:wA i<=m):i.natAbs<2 ^ m:=by
 by_cases c:i=0
 ·subst c
  exact Nat.pow_pos (by decide)
 ·have e:wA i=i.natAbs.log2+1:=by
   show (if (i == 0)=true then 0 else i.natAbs.log2+1)=_
   rw [if_neg (by simpa using c)]
  exact (Nat.log2_lt (by omega)).mp (by omega)
theorem Iy {i:Int} {m:Nat} (h:i.natAbs<2 ^ m):wA i<=m:=by
 by_cases c:i=0
 ·subst c
  exact Nat.zero_le _
 ·have e:wA i=i.natAbs.log2+1:=by
   show (if (i == 0)=true then 0 else i.natAbs.log2+1)=_
   rw [if_neg (by simpa using c)]
  rw [e]
  exact (Nat.log2_lt (by omega)).mpr h
end L3
namespace L3
open PySem
theorem FD {a b c d i:Int} (h0:0<=i) (h1:i<4):∃ n,(n=a\/n=b\/n=c\/n=d)/\zM (.lst [.int a,.int b,.int c,.int d]) (.int i)=some (.int n):=by
 rcases (show i=0\/i=1\/i=2\/i=3 by omega) with rfl | rfl | rfl | rfl
 ·exact ⟨a,by simp,rfl⟩
 ·exact ⟨b,by simp,rfl⟩
 ·exact ⟨c,by simp,rfl⟩
 ·exact ⟨d,by simp,rfl⟩
theorem Hf {a b c i:Int} (h0:0<=i) (h1:i<3):∃ n,(n=a\/n=b\/n=c)/\zM (.lst [.int a,.int b,.int c]) (.int i)=some (.int n):=by
 rcases (show i=0\/i=1\/i=2 by omega) with rfl | rfl | rfl
 ·exact ⟨a,by simp,rfl⟩
 ·exact ⟨b,by simp,rfl⟩
 ·exact ⟨c,by simp,rfl⟩
inductive ul:D->Prop
 | stop:ul (.tup [.str "stop"])
 | imm {w:Str} {d n:Int} (hw:w = "set" \/ w = "high") (d0:0<=d) (d1:d<8) (n0:0<=n) (n1:n<65536):ul (.tup [.str w,.int d,.int n])
 | two {w:Str} {d s:Int} (hw:w = "copy" \/ w = "add" \/ w = "addc" \/ w = "sub" \/ w = "subc" \/ w = "and" \/ w = "or" \/ w = "xor" \/ w = "test") (d0:0<=d) (d1:d<8) (s0:0<=s) (s1:s<8):ul (.tup [.str w,.int d,.int s])
 | mov {w:Str} {d n:Int} (hw:w = "left" \/ w = "right") (d0:0<=d) (d1:d<8) (n0:0<=n) (n1:n<32):ul (.tup [.str w,.int d,.int n])
 | mem {w:Str} {d s n:Int} (hw:w = "load" \/ w = "store" \/ w = "loadw" \/ w = "storew") (d0:0<=d) (d1:d<8) (s0:0<=s) (s1:s<8) (n0:0<=n) (n1:n<256):ul (.tup [.str w,.int d,.int s,.int n])
inductive XF (m:Int):D->Prop
 | jump {p:Int} (p0:0<=p) (p1:p<=m):XF m (.tup [.str "jump",.int p])
 | cond {w k:Str} {p:Int} (hw:w = "when" \/ w = "unless") (hk:k = "carry" \/ k = "nought" \/ k = "sign") (p0:0<=p) (p1:p<=m):XF m (.tup [.str w,.str k,.int p])
noncomputable def IX (m:Int) (d:D):Prop:=ul d\/XF m d
theorem u8 {a:D} {r:List D}:zM (.tup (a::r)) (.int 0)=some a:=rfl
noncomputable def yY:D->Bool
 | .tup (.str w::_)=>w == "jump" || w == "when" || w == "unless"
 | _=>false
noncomputable def MR:D->D
 | .tup xs=>(wI xs (-1)).getD .non
 | _=>.non
noncomputable def M2:D:=.tup [.str "jump",.str "when",.str "unless"]
theorem qy {d:D} (h:ul d):∃ w,zM d (.int 0)=some (.str w)/\xK (.str w) M2=some (.bl false)/\zQ (.str w) (.str "label")=some (.bl false)/\yY d=false/\uB 5 d=true:=by
 cases h with
 | stop=>exact ⟨_,rfl,rfl,rfl,rfl,rfl⟩
 | imm hw=>rcases hw with rfl | rfl<;>exact ⟨_,rfl,rfl,rfl,rfl,rfl⟩
 | two hw=>rcases hw with rfl | rfl | rfl | rfl | rfl | rfl | rfl | rfl | rfl<;>exact ⟨_,rfl,rfl,rfl,rfl,rfl⟩
 | mov hw=>rcases hw with rfl | rfl<;>exact ⟨_,rfl,rfl,rfl,rfl,rfl⟩
 | mem hw=>rcases hw with rfl | rfl | rfl | rfl<;>exact ⟨_,rfl,rfl,rfl,rfl,rfl⟩
noncomputable def zd:D->Bool
 | .tup (.str w::_)=>w == "label"
 | _=>false
noncomputable def yJ (t:Str):D:=.tup [.str "label",.str t]
theorem Yf {m:Int} {d:D} (h:IX m d):∃ w,zM d (.int 0)=some (.str w)/\zQ (.str w) (.str "label")=some (.bl false)/\zd d=false/\uB 5 d=true:=by
 rcases h with h | h
 ·cases h with
  | stop=>exact ⟨_,rfl,rfl,rfl,rfl⟩
  | imm hw=>rcases hw with rfl | rfl<;>exact ⟨_,rfl,rfl,rfl,rfl⟩
  | two hw=>rcases hw with rfl | rfl | rfl | rfl | rfl | rfl | rfl | rfl | rfl<;>exact ⟨_,rfl,rfl,rfl,rfl⟩
  | mov hw=>rcases hw with rfl | rfl<;>exact ⟨_,rfl,rfl,rfl,rfl⟩
  | mem hw=>rcases hw with rfl | rfl | rfl | rfl<;>exact ⟨_,rfl,rfl,rfl,rfl⟩
 ·cases h with
  | jump=>exact ⟨_,rfl,rfl,rfl,rfl⟩
  | cond hw hk=>rcases hw with rfl | rfl<;>rcases hk with rfl | rfl | rfl<;>exact ⟨_,rfl,rfl,rfl,rfl⟩
noncomputable def YJ (t:Str):D->Bool
 | .tup [_,.str u]=>u == t
 | _=>false
noncomputable def uC (t:Str) (s:Nat×Option Nat) (d:D):Nat×Option Nat:=match zd d with
 | true=>(s.1,match YJ t d with
  | true=>some s.1
  | false=>s.2)
 | false=>(s.1+1,s.2)
noncomputable def xO (t:Str) (L:List D):Nat×Option Nat:=L.foldl (uC t) (0,none)
theorem Qi (t:Str) (L:List D) (d:D):xO t (L++[d])=uC t (xO t L) d:=by
 unfold xO
 rw [List.foldl_append]
 rfl
theorem Wr (t:Str):∀ (L:List D) (s:Nat×Option Nat),(L.foldl (uC t) s).1=s.1+(L.filter fun d=>!zd d).length
 | [],_=>rfl
 | d::L,s=>by
  rw [List.foldl_cons,Wr t L]
  unfold uC
  cases h:zd d with
  | true=>rw [List.filter_cons_of_neg (by rw [h]; decide)]
  | false=>
   rw [List.filter_cons_of_pos (by rw [h]; rfl),List.length_cons]
   show s.1+1+_=_
   omega
theorem Wq (t u:Str) (L:List D):(xO t (L++[yJ u])).2=if u=t then some (L.filter fun d=>!zd d).length else (xO t L).2:=by
 rw [Qi]
 have h:=Wr t L (0,none)
 show (match (u == t) with | true=>some (xO t L).1 | false=>(xO t L).2)=_
 by_cases e:u=t
 ·rw [if_pos e,beq_iff_eq.mpr e]
  show some (xO t L).1=_
  rw [show (xO t L).1=_ from h,Nat.zero_add]
 ·rw [if_neg e,beq_eq_false_iff_ne.mpr e]
theorem Ws {t:Str} {L:List D} {d:D} (h:zd d=false):(xO t (L++[d])).2=(xO t L).2:=by
 rw [Qi]
 unfold uC
 rw [h]
theorem ZK {L:List D} {r:D} (h:L.length<=1000):u3 (.lst L) r=some (.lst (L++[r])):=by
 show (if L.length<yO then _ else _)=_
 rw [if_pos (by show _<16777216; omega)]
inductive yQ:D->Prop
 | label (t:Str):yQ (yJ t)
 | plain {d:D}:ul d->yQ d
 | jump (t:Str):yQ (.tup [.str "jump",.str t])
 | cond {w k:Str} (t:Str) (hw:w = "when" \/ w = "unless") (hk:k = "carry" \/ k = "nought" \/ k = "sign"):yQ (.tup [.str w,.str k,.str t])
theorem Ta {d:D} (h:yQ d):∃ w,zM d (.int 0)=some (.str w)/\zQ (.str w) (.str "label")=some (.bl (zd d))/\uB 5 d=true:=by
 cases h with
 | label=>exact ⟨_,rfl,rfl,rfl⟩
 | plain h=>
  obtain ⟨w,a,b,c,e⟩:=Yf (m:=0) (.inl h)
  exact ⟨w,a,by rw [c]; exact b,e⟩
 | jump=>exact ⟨_,rfl,rfl,rfl⟩
 | cond t hw hk=>rcases hw with rfl | rfl<;>rcases hk with rfl | rfl | rfl<;>exact ⟨_,rfl,rfl,rfl⟩
theorem TY {x:D} (h:zd x=true):yY x=false:=by
 unfold zd at h
 split at h
 ·rename_i w r
  have e:w = "label" := by simpa using h
  subst e
  rfl
 ·cases h
theorem jq {R:D->D->Prop}:∀ {xs ys:List D},wO R xs ys->xs.length=ys.length
 | _,_,.nil=>rfl
 | _,_,.cons _ r=>by rw [List.length_cons,List.length_cons,jq r]
theorem Uo {R:D->D->Prop}:∀ {xs ys:List D},wO R xs ys->∀ y∈ys,∃ x∈xs,R x y
 | _,_,.nil,_,h=>by cases h
 | x::xs,y::ys,.cons r rs,z,hz=>by
  rcases List.mem_cons.mp hz with rfl | hz
  ·exact ⟨x,List.mem_cons_self ..,r⟩
  ·obtain ⟨w,hw,h⟩:=Uo rs z hz
   exact ⟨w,List.mem_cons_of_mem _ hw,h⟩
theorem Xj {R:D->D->Prop}:∀ {xs ys:List D},wO R xs ys->∀ {i:Nat} {x:D},xs[i]?=some x->∃ y,ys[i]?=some y/\R x y
 | _,_,.nil,_,_,h=>by cases h
 | _,_,.cons r _,0,_,h=>by cases h; exact ⟨_,rfl,r⟩
 | _,_,.cons _ rs,i+1,_,h=>Xj rs (by simpa using h)
theorem Up {R:D->D->Prop}:∀ {xs ys:List D},xs.length=ys.length->(∀ (i:Nat) x y,xs[i]?=some x->ys[i]?=some y->R x y)->wO R xs ys
 | [],[],_,_=>.nil
 | [],_::_,h,_=>by cases h
 | _::_,[],h,_=>by cases h
 | x::xs,y::ys,h,r=>.cons (r 0 x y rfl rfl) (Up (by simpa using h) fun i a b ha hb=>r (i+1) a b (by simpa using ha) (by simpa using hb))
inductive um (N:List Str):D->Prop
 | plain {d:D}:ul d->um N d
 | jump {t:Str} (ht:t∈N):um N (.tup [.str "jump",.str t])
 | cond {w k t:Str} (hw:w = "when" \/ w = "unless") (hk:k = "carry" \/ k = "nought" \/ k = "sign") (ht:t∈N):um N (.tup [.str w,.str k,.str t])
noncomputable def qd (N:List Str) (d:D):Prop:=um N d\/∃ t∈N,d=yJ t
theorem JF {N:List Str} {d:D} (h:um N d):yQ d/\zd d=false:=by
 cases h with
 | plain h=>
  obtain ⟨_,_,_,l,_⟩:=Yf (m:=0) (.inl h)
  exact ⟨.plain h,l⟩
 | jump ht=>exact ⟨.jump _,rfl⟩
 | cond hw hk ht=>exact ⟨.cond _ hw hk,by rcases hw with rfl | rfl<;>rfl⟩
theorem WB {N:List Str} {d:D} (h:qd N d):yQ d:=by
 rcases h with h | ⟨t,_,rfl⟩
 ·exact (JF h).1
 ·exact .label t
end L3
namespace L3
open PySem
noncomputable def ZT:FS:=
 (zG (ze 3 (yn (fun _=>some (List.map D.int [99991,99989,99971,99961,99929,99923,99907,99901,99881,99877,99871]))))
  (zG (ze 4 (e2 wt (e2 Zv (e2 zy (z6 0) (e2 pZ (eC (.int 7)) (z6 1))) (eC (.int 48271))) (e2 zM (z6 3) (e2 wt (z6 1) (eC (.int 11))))))
  (zk (e2 wt (e2 wt (e2 zy (e2 zy (e2 Zv (e2 Xs (z6 4) (z6 4)) (eC (.int 7))) (z6 4)) (z6 1)) (eC (.int 1000003))) (z6 2)))))
noncomputable def xE:List D->Option (Bool×D):=FR 3 5 ZT
theorem Cu:∀ ds r,xE ds=some r->ds.length=3/\zZ 5 ZT ds=some r:=yZ
theorem LF (x0 x1 x2:D):xE [x0,x1,x2]=zZ 5 ZT [x0,x1,x2]:=rfl
noncomputable def ZS:FS:=
 (zk (e2 zM (eC (.str "abcdefghijklmnopqrstuvwxyz")) (e2 wt (z6 0) (eC (.int 26)))))
noncomputable def uk:List D->Option (Bool×D):=FR 1 1 ZS
theorem Ct:∀ ds r,uk ds=some r->ds.length=1/\zZ 1 ZS ds=some r:=yZ
theorem LE (x0:D):uk [x0]=zZ 1 ZS [x0]:=rfl
noncomputable def Vm:FE:=(zS uk (z8 (zS xE (z8 (z6 0) (z8 (e2 zy (eC (.int 4)) (z6 11)) (z8 (eC (.int 26)) zC)))) zC))
noncomputable def J7:FA:=(wP (eC (.int 0)) (z6 1))
noncomputable def Z3:FE:=(e2 zy (zS uk (z8 (z6 11) zC)) (eC (.str "qzqz")))
noncomputable def jW:FE:=(e2 zy (zS uk (z8 (z6 11) zC)) (eC (.str "zqzq")))
noncomputable def Vn:FE:=(z6 11)
noncomputable def X3:FT:=(tE (e2 qm (z6 11) (uz 6)))
noncomputable def WI:FS:=(zG (ze 8 (zS uk (z8 (e2 zy (zS xE (z8 (z6 0) (z8 (eC (.int 5)) (z8 (eC (.int 26)) zC)))) (e2 pZ (eC (.int 5)) (z6 7))) zC)))
    (zG (ze 9 (e2 zy (e2 zy (xM (z6 4) xn (yt (z6 3))) (z6 8)) (xM (z6 4) (yt (e2 zy (z6 3) (eC (.int 1)))) (yt (z6 2)))))
    (zG (zl (ug (tE (e2 zQ (zS xE (z8 (z6 0) (z8 (eC (.int 6)) (z8 (eC (.int 4)) zC)))) (eC (.int 0)))) (tE (e2 (u4 fun i j=>decide (i<j)) (z6 7) (eC (.int 8)))))
     (ze 9 (e2 zM (yn (z8 (xM (z6 4) xn (yt (e2 zy (z6 7) (eC (.int 1))))) (z8 (e2 zM (z6 5) (z6 7)) zC))) (zS xE (z8 (z6 0) (z8 (eC (.int 7)) (z8 (eC (.int 2)) zC))))))
     zn)
    (zG (zl (tE (e2 xK (z6 9) (uz 6)))
     (zG (ze 10 (e2 zy (yT 1 (wP (eC (.int 0)) (eC (.int 26))) (za 11) yF Z3) (yT 1 (wP (eC (.int 0)) (eC (.int 26))) (za 11) yF jW)))
      (ze 9 (e2 zM (yT 1 (xl (z6 10)) (za 11) X3 Vn) (eC (.int 0)))))
     zn)
    (ub 6 u3 (z6 9))))))
noncomputable def ZU:FS:=
 (zG (ze 2 (e2 zy (eC (.int 1)) (zS xE (z8 (z6 0) (z8 (eC (.int 2)) (z8 (eC (.int 8)) zC))))))
  (zG (ze 3 (zS xE (z8 (z6 0) (z8 (eC (.int 3)) (z8 (z6 2) zC)))))
  (zG (ze 4 (e2 uP (eC (.str "")) (yT 1 (wP (eC (.int 0)) (eC (.int 8))) (za 11) yF Vm)))
  (zG (ze 5 (yn (z8 (eC (.str "add")) (z8 (eC (.str "stop")) (z8 (eC (.str "carry")) (z8 (eC (.str "label")) (z8 (eC (.str "jump")) (z8 (eC (.str "set")) (z8 (eC (.str "sign")) (z8 (eC (.str "when")) zC))))))))))
  (zG (uc 6 (yn zC))
  (zG (tH J7 (za 7)
   WI)
  (qK 6)))))))
noncomputable def pG:List D->Option (Bool×D):=FR 2 11 ZU
theorem Cv:∀ ds r,pG ds=some r->ds.length=2/\zZ 11 ZU ds=some r:=yZ
theorem LG (x0 x1:D):pG [x0,x1]=zZ 11 ZU [x0,x1]:=rfl
noncomputable def UC:FS:=
 (zG (zl (tE (e2 xK (z6 0) (yn (z8 (eC (.str "set")) (z8 (eC (.str "high")) zC)))))
   (vo (yn (z8 (eC (.int 8)) (z8 (eC (.int 65536)) zC))))
   zn)
  (zG (zl (tE (e2 xK (z6 0) (yn (z8 (eC (.str "left")) (z8 (eC (.str "right")) zC)))))
   (vo (yn (z8 (eC (.int 8)) (z8 (eC (.int 32)) zC))))
   zn)
  (zG (zl (tE (e2 xK (z6 0) (yn (z8 (eC (.str "load")) (z8 (eC (.str "store")) (z8 (eC (.str "loadw")) (z8 (eC (.str "storew")) zC)))))))
   (vo (yn (fun _=>some (List.map D.int [8,8,256]))))
   zn)
  (zG (zl (tE (e2 xK (z6 0) (yn (z8 (eC (.str "copy")) (z8 (eC (.str "add")) (z8 (eC (.str "addc")) (z8 (eC (.str "sub")) (z8 (eC (.str "subc")) (z8 (eC (.str "and")) (z8 (eC (.str "or")) (z8 (eC (.str "xor")) (z8 (eC (.str "test")) zC))))))))))))
   (vo (yn (z8 (eC (.int 8)) (z8 (eC (.int 8)) zC))))
   zn)
  (zk (e2 zM (Uk ["label", "jump", "when", "unless", "stop"] (z8 (yn (z8 (eC (.str "name")) zC)) (z8 (yn (z8 (eC (.str "name")) zC)) (z8 (yn (z8 (eC (.str "mark")) (z8 (eC (.str "name")) zC))) (z8 (yn (z8 (eC (.str "mark")) (z8 (eC (.str "name")) zC))) (z8 (yn zC) zC)))))) (z6 0)))))))
noncomputable def v7:List D->Option (Bool×D):=FR 1 1 UC
theorem C_:∀ ds r,v7 ds=some r->ds.length=1/\zZ 1 UC ds=some r:=yZ
noncomputable def UD:FS:=
 (zG (ze 0 (yn (z8 (eC (.str "set")) (z8 (eC (.str "high")) (z8 (eC (.str "copy")) (z8 (eC (.str "add")) (z8 (eC (.str "addc")) (z8 (eC (.str "sub")) (z8 (eC (.str "subc")) (z8 (eC (.str "and")) (z8 (eC (.str "or")) (z8 (eC (.str "xor")) (z8 (eC (.str "test")) (z8 (eC (.str "left")) (z8 (eC (.str "right")) (z8 (eC (.str "load")) zC))))))))))))))))
  (zk (e2 zy (z6 0) (yn (z8 (eC (.str "store")) (z8 (eC (.str "loadw")) (z8 (eC (.str "storew")) (z8 (eC (.str "jump")) (z8 (eC (.str "when")) (z8 (eC (.str "unless")) (z8 (eC (.str "stop")) zC)))))))))))
noncomputable def pJ:List D->Option (Bool×D):=FR 0 1 UD
theorem E2:∀ ds r,pJ ds=some r->ds.length=0/\zZ 1 UD ds=some r:=yZ
noncomputable def pU:FS:=
 (zG (zl (tE (e2 zQ (z6 0) (eC (.str "name"))))
   (zk (e2 zM (z6 3) (zS xE (z8 (z6 1) (z8 (z6 2) (z8 (eL ye (z8 (z6 3) zC)) zC))))))
   zn)
  (zG (zl (tE (e2 zQ (z6 0) (eC (.str "mark"))))
   (zk (e2 zM (yn (z8 (eC (.str "carry")) (z8 (eC (.str "nought")) (z8 (eC (.str "sign")) zC)))) (zS xE (z8 (z6 1) (z8 (z6 2) (z8 (eC (.int 3)) zC))))))
   zn)
  (zk (e2 zM (yn (z8 (eC (.int 0)) (z8 (e2 jv (z6 0) (eC (.int 1))) (z8 (zS xE (z8 (z6 1) (z8 (z6 2) (z8 (z6 0) zC)))) (z8 (zS xE (z8 (z6 1) (z8 (e2 zy (z6 2) (eC (.int 1))) (z8 (z6 0) zC)))) zC))))) (zS xE (z8 (z6 1) (z8 (e2 zy (z6 2) (eC (.int 2))) (z8 (eC (.int 4)) zC))))))))
noncomputable def pH:List D->Option (Bool×D):=FR 4 4 pU
theorem Cw:∀ ds r,pH ds=some r->ds.length=4/\zZ 4 pU ds=some r:=yZ
theorem W4 (x0 x1 x2 x3:D):pH [x0,x1,x2,x3]=zZ 4 pU [x0,x1,x2,x3]:=rfl
noncomputable def Yd:FA:=(wP (eC (.int 0)) (eL ye (z8 (z6 3) zC)))
noncomputable def Z4:FE:=(zS pH (z8 (e2 zM (z6 3) (z6 4)) (z8 (z6 0) (z8 (e2 zy (e2 pZ (eC (.int 2)) (z6 4)) (eC (.int 1))) (z8 (z6 1) zC)))))
noncomputable def ZW:FS:=
 (zG (ze 2 (e2 zM (zS pJ zC) (zS xE (z8 (z6 0) (z8 (eC (.int 0)) (z8 (eC (.int 21)) zC))))))
  (zG (zl (tE (e2 zQ (zS xE (z8 (z6 0) (z8 (eC (.int 8)) (z8 (eC (.int 4)) zC)))) (eC (.int 1))))
   (ze 2 (e2 zM (yn (z8 (eC (.str "jump")) (z8 (eC (.str "when")) (z8 (eC (.str "unless")) zC)))) (zS xE (z8 (z6 0) (z8 (eC (.int 9)) (z8 (eC (.int 3)) zC))))))
   zn)
  (zG (zl (ug (tE (e2 xK (z6 2) (yn (z8 (eC (.str "jump")) (z8 (eC (.str "when")) (z8 (eC (.str "unless")) zC)))))) (tE (e2 zQ (eL ye (z8 (z6 1) zC)) (eC (.int 0)))))
   (ze 2 (eC (.str "stop")))
   zn)
  (zG (ze 3 (zS v7 (z8 (z6 2) zC)))
  (zk (e2 zy (vP (z8 (z6 2) zC)) (eL uQ (z8 (yT 1 Yd (za 4) yF Z4) zC))))))))
noncomputable def pI:List D->Option (Bool×D):=FR 2 4 ZW
theorem Cz:∀ ds r,pI ds=some r->ds.length=2/\zZ 4 ZW ds=some r:=yZ
theorem LI (x0 x1:D):pI [x0,x1]=zZ 4 ZW [x0,x1]:=rfl
noncomputable def xm (c k m:Int):Int:=match xE [.int c,.int k,.int m] with
 | some (_,.int v)=>v
 | _=>0
theorem Iz {i:Int} (h0:0<=i) (h1:i<100000):wA i<=20:=by
 have e:(2:Nat) ^ 20=1048576:=by decide
 exact Iy (by omega)
theorem wY (c k m:Int) (hm:0<m):xE [.int c,.int k,.int m]=some (false,.int (xm c k m))/\0<=xm c k m/\xm c k m<m:=by
 have:∃ v:Int,0<=v/\v<m/\xE [.int c,.int k,.int m]=some (false,.int v):=by
  obtain ⟨p,p0,p1,ep⟩:∃ p:Int,0<p/\p<100000/\zM (.lst (List.map D.int [99991,99989,99971,99961,99929,99923,99907,99901,99881,99877,99871])) (.int (k % 11))=some (.int p):=by
   rcases (show k % 11=0\/k % 11=1\/k % 11=2\/k % 11=3\/k % 11=4\/k % 11=5\/k % 11=6\/k % 11=7\/k % 11=8\/k % 11=9\/k % 11=10 by omega) with h | h | h | h | h | h | h | h | h | h | h<;>rw [h]<;>exact ⟨_,by decide,by decide,rfl⟩
  have q0:=Int.emod_nonneg ((c+7*k)*48271) (show p≠0 by omega)
  have q1:=Int.emod_lt_of_pos ((c+7*k)*48271) p0
  have l1:t6 7=true/\t6 48271=true:=⟨by decide,by decide⟩
  have b:=Iz (i:=(c+7*k)*48271 % p) q0 (by omega)
  have e1:decide (0<p)=true:=decide_eq_true p0
  have e2:decide (0<m)=true:=decide_eq_true hm
  have e3:decide (wA ((c+7*k)*48271 % p)+wA ((c+7*k)*48271 % p)<=134217728)=true:=decide_eq_true (by omega)
  refine ⟨((c+7*k)*48271 % p*((c+7*k)*48271 % p)*7+(c+7*k)*48271 % p+k) % 1000003 % m,?_,?_,?_⟩
  rotate_left 2
  ·rw [LF]
   unfold ZT
   generalize List.map D.int [99991,99989,99971,99961,99929,99923,99907,99901,99881,99877,99871]=PS at ep
   simp! [l1,add_int,ep,e1,Xs,e3,e2]
  ·exact Int.emod_nonneg _ (by omega)
  ·exact Int.emod_lt_of_pos _ hm
 obtain ⟨v,v0,v1,e⟩:=this
 have:xm c k m=v:=by unfold xm; rw [e]
 rw [this]
 exact ⟨e,v0,v1⟩
theorem YH (k:Int):uk [.int k]=some (false,.str (lt (k % 26))):=by
 have a:=U6 (k:=k % 26) (by omega) (by omega)
 rw [LE]
 unfold ZS
 simp! [a]
noncomputable def vF (z:Str):Bool:=z.cps.toList.all fun c=>decide (97<=c)&&decide (c<=122)
noncomputable def vW (z:Str):Bool:=decide (1<=z.length)&&(decide (z.length<=8)&&vF z)
theorem OT (a b:Str):(a++b).cps.toList=a.cps.toList++b.cps.toList:=Array.toList_append
theorem Tt {a b:Str} (ha:vF a=true) (hb:vF b=true):vF (a++b)=true:=by
 unfold vF
 rw [OT,List.all_append,Bool.and_eq_true]
 exact ⟨ha,hb⟩
theorem Tu {k:Int} (h0:0<=k) (h1:k<26):vF (lt k)=true:=by
 show ((decide (97<=97+k.toNat)&&decide (97+k.toNat<=122))&&true)=true
 rw [decide_eq_true (by omega),decide_eq_true (by omega)]
 rfl
theorem WS {z:Str} (h:vF z=true) (lo hi:Option Int):vF (L2.cutS z lo hi)=true:=
 List.all_eq_true.mpr fun c hc=>List.all_eq_true.mp h c (List.mem_of_mem_drop (List.mem_of_mem_take (by
  have e:(L2.cutS z lo hi).cps.toList=(z.cps.toList.drop (HT.sIx z.length 0 lo)).take (HT.sIx z.length z.length hi - HT.sIx z.length 0 lo):=rfl
  rw [e] at hc
  exact hc)))
theorem OV (z:Str) {a b:Nat} (hab:a<=b) (hb:b<=z.length):(L2.cutS z (some (a:Int)) (some (b:Int))).length=b - a:=by
 show (((z.cps.toList.drop (HT.sIx z.length 0 (some (a:Int)))).take (HT.sIx z.length z.length (some (b:Int)) - HT.sIx z.length 0 (some (a:Int)))).toArray).size=_
 rw [HT.sIx_nat,HT.sIx_nat,List.size_toArray,List.length_take,List.length_drop]
 have:z.cps.toList.length=z.length:=Array.length_toList
 omega
theorem Uc (z:Str) {b:Nat} (hb:b<=z.length):(L2.cutS z none (some (b:Int))).length=b:=by
 show (((z.cps.toList.drop 0).take (HT.sIx z.length z.length (some (b:Int)) - 0)).toArray).size=_
 rw [HT.sIx_nat,List.size_toArray,List.length_take,List.length_drop]
 have:z.cps.toList.length=z.length:=Array.length_toList
 omega
theorem X_:∀ (ts:List Str),(Builtin.Str.glued "" ts).cps.toList=(ts.map fun t=>t.cps.toList).flatten
 | []=>rfl
 | t::ts=>by
  have h:∀ (us:List Str) (a:Array Nat),(us.foldl (fun acc p=>acc++("" : Str).cps++p.cps) a).toList=a.toList++(us.map fun t=>t.cps.toList).flatten:=fun us=>by
   induction us with
   | nil=>intro a; simp
   | cons u us ih=>
    intro a
    rw [List.foldl_cons,ih]
    have e:("" : Str).cps=#[]:=rfl
    rw [e]
    simp
  show (ts.foldl (fun acc p=>acc++("" : Str).cps++p.cps) t.cps).toList=_
  rw [h]
  rfl
theorem TL (x:Str) (ts:List Str):pX (.str x) (.lst (ts.map D.str))=some (decide (x∈ts)):=by
 have ha:(ts.map D.str).all xB=true:=List.all_eq_true.mpr fun y hy=>by
  obtain ⟨p,_,rfl⟩:=List.mem_map.mp hy
  rfl
 show (match xB (.str x)&&(ts.map D.str).all xB with | true=>some ((ts.map D.str).any fun y=>zg y (.str x)) | false=>none)=_
 rw [ha]
 show some _=_
 congr 1
 have e:∀ y:Str,zg (.str y) (.str x)=(y == x):=fun y=>by unfold zg; rfl
 by_cases h:x∈ts
 ·rw [decide_eq_true h]
  exact List.any_eq_true.mpr ⟨.str x,List.mem_map.mpr ⟨x,h,rfl⟩,by rw [e]; exact beq_self_eq_true _⟩
 ·rw [decide_eq_false h]
  cases z:(ts.map D.str).any fun y=>zg y (.str x) with
  | false=>rfl
  | true=>
   obtain ⟨d,hd,q⟩:=List.any_eq_true.mp z
   obtain ⟨y,hy,rfl⟩:=List.mem_map.mp hd
   rw [e,beq_iff_eq] at q
   exact absurd (q ▸ hy) h
theorem Js:∀ {l ps:List Str},l.Nodup->(∀ x∈l,x∈ps)->l.length<=ps.length
 | [],_,_,_=>Nat.zero_le _
 | x::l,ps,nd,h=>by
  obtain ⟨n1,n2⟩:=List.nodup_cons.mp nd
  have hx:=h x (List.mem_cons_self ..)
  have ih:=Js (l:=l) (ps:=ps.erase x) n2 fun y hy=>(List.mem_erase_of_ne (fun (e:y=x)=>n1 (e ▸ hy))).mpr (h y (List.mem_cons_of_mem _ hy))
  rw [List.length_erase_of_mem hx] at ih
  have:0<ps.length:=List.length_pos_of_mem hx
  rw [List.length_cons]
  omega
noncomputable def wx:List Str:=((List.range 26).map fun j:Nat=>lt ((j:Int) % 26) ++ "qzqz")++(List.range 26).map fun j:Nat=>lt ((j:Int) % 26) ++ "zqzq"
theorem DO:wx.Nodup:=by decide +kernel
theorem DP:∀ t∈wx,vW t=true:=by decide +kernel
theorem DN:wx.length=52:=by decide +kernel
structure qe (N:List Str):Prop where
 nd:N.Nodup
 ok:∀ t∈N,vW t=true
theorem YK {t:Str} (h:vW t=true):1<=t.length/\t.length<=8/\vF t=true:=by
 unfold vW at h
 rw [Bool.and_eq_true,Bool.and_eq_true] at h
 exact ⟨of_decide_eq_true h.1,of_decide_eq_true h.2.1,h.2.2⟩
theorem Q0 {t:Str} (h0:1<=t.length) (h1:t.length<=8) (h:vF t=true):vW t=true:=by
 unfold vW
 rw [decide_eq_true h0,decide_eq_true h1,h]
 rfl
noncomputable abbrev wC:D:=.lst [.str "add",.str "stop",.str "carry",.str "label",.str "jump",.str "set",.str "sign",.str "when"]
theorem DQ {i:Nat} (h:i<8):∃ t:Str,vW t=true/\zM wC (.int (i:Int))=some (.str t):=by
 rcases (show i=0\/i=1\/i=2\/i=3\/i=4\/i=5\/i=6\/i=7 by omega) with rfl | rfl | rfl | rfl | rfl | rfl | rfl | rfl
 ·exact ⟨"add",by decide +kernel,rfl⟩
 ·exact ⟨"stop",by decide +kernel,rfl⟩
 ·exact ⟨"carry",by decide +kernel,rfl⟩
 ·exact ⟨"label",by decide +kernel,rfl⟩
 ·exact ⟨"jump",by decide +kernel,rfl⟩
 ·exact ⟨"set",by decide +kernel,rfl⟩
 ·exact ⟨"sign",by decide +kernel,rfl⟩
 ·exact ⟨"when",by decide +kernel,rfl⟩
theorem Mq {c m:D} {sz sp W own:D} {N:List Str} (hN:N.length<52) {kk lx x10:Option Sl} {x0:Str} (h0:vW x0=true):∃ (x:Str) (y10:Option Sl),vW x=true/\x ∉ N/\
  zl (tE (e2 xK (z6 9) (uz 6)))
     (zG (ze 10 (e2 zy (yT 1 (wP (eC (.int 0)) (eC (.int 26))) (za 11) yF Z3) (yT 1 (wP (eC (.int 0)) (eC (.int 26))) (za 11) yF jW)))
      (ze 9 (e2 zM (yT 1 (xl (z6 10)) (za 11) X3 Vn) (eC (.int 0)))))
     zn [some (false,c),some (false,m),some (false,sz),some (false,sp),some (false,W),some (false,own),some (true,.lst (N.map D.str)),kk,lx,some (false,.str x0),x10]=some (.nx [some (false,c),some (false,m),some (false,sz),some (false,sp),some (false,W),some (false,own),some (true,.lst (N.map D.str)),kk,lx,some (false,.str x),y10]):=by
 have hin:∀ x:Str,xK (.str x) (.lst (N.map D.str))=some (.bl (decide (x∈N))):=fun x=>by
  show (pX _ _).bind _=_
  rw [TL]
  rfl
 have hni:∀ x:Str,qm (.str x) (.lst (N.map D.str))=some (.bl (!decide (x∈N))):=fun x=>by
  show (pX _ _).bind _=_
  rw [TL]
  rfl
 by_cases hm:x0∈N
 ·have h1:=hin x0
  rw [decide_eq_true hm] at h1
  have r26:∀ σ,wP (eC (.int 0)) (eC (.int 26)) σ=some (xQ 26):=fun σ=>qJ (n:=26) rfl (by decide)
  obtain ⟨σ0,hσ⟩:∃ σ0:zp,σ0=[some (false,c),some (false,m),some (false,sz),some (false,sp),some (false,W),some (false,own),some (true,.lst (N.map D.str)),kk,lx,some (false,.str x0),x10]:=⟨_,rfl⟩
  have l2:=vU (g:=za 11) (e:=Z3) (σ:=σ0++List.replicate 1 none) (fun d=>match d with | .int j=>D.str (lt (j % 26) ++ "qzqz") | d=>d) (ds:=xQ 26) fun d hd=>by
   obtain ⟨i,hi,rfl⟩:=pA hd
   have hl:=YH (i:Int)
   have ha:=add_str (a:=lt ((i:Int) % 26)) (b := "qzqz") (by rw [j9]; decide)
   rw [hσ]
   refine ⟨_,rfl,?_⟩
   unfold Z3
   simp! [hl,ha]
  have l3:=vU (g:=za 11) (e:=jW) (σ:=σ0++List.replicate 1 none) (fun d=>match d with | .int j=>D.str (lt (j % 26) ++ "zqzq") | d=>d) (ds:=xQ 26) fun d hd=>by
   obtain ⟨i,hi,rfl⟩:=pA hd
   have hl:=YH (i:Int)
   have ha:=add_str (a:=lt ((i:Int) % 26)) (b := "zqzq") (by rw [j9]; decide)
   rw [hσ]
   refine ⟨_,rfl,?_⟩
   unfold jW
   simp! [hl,ha]
  have w2:(xQ 26).map (fun d=>match d with | .int j=>D.str (lt (j % 26) ++ "qzqz") | d=>d)=((List.range 26).map fun j:Nat=>lt ((j:Int) % 26) ++ "qzqz").map D.str:=by
   rw [List.map_map,List.map_map]
   rfl
  have w3:(xQ 26).map (fun d=>match d with | .int j=>D.str (lt (j % 26) ++ "zqzq") | d=>d)=((List.range 26).map fun j:Nat=>lt ((j:Int) % 26) ++ "zqzq").map D.str:=by
   rw [List.map_map,List.map_map]
   rfl
  rw [w2] at l2
  rw [w3] at l3
  have ad:zy (.lst (((List.range 26).map fun j:Nat=>lt ((j:Int) % 26) ++ "qzqz").map D.str)) (.lst (((List.range 26).map fun j:Nat=>lt ((j:Int) % 26) ++ "zqzq").map D.str))=some (.lst (wx.map D.str)):=by
   rw [ur (by simp only [List.length_map,List.length_range]; decide)]
   unfold wx
   rw [List.map_append]
  have l4:=uV (g:=za 11) (c:=X3) (e:=Vn) (σ:=[some (false,c),some (false,m),some (false,sz),some (false,sp),some (false,W),some (false,own),some (true,.lst (N.map D.str)),kk,lx,some (false,.str x0),some (false,.lst (wx.map D.str)),none]) (fun d=>match d with | .str x=>!decide (x∈N) | _=>false) id (ds:=wx.map D.str) fun d hd=>by
   obtain ⟨x,_,rfl⟩:=List.mem_map.mp hd
   have h2:=hni x
   refine ⟨_,rfl,?_,fun _=>rfl⟩
   unfold X3
   simp! [h2]
  have e4:List.map id ((wx.map D.str).filter fun d=>match d with | .str x=>!decide (x∈N) | _=>false)=(wx.filter fun x=>!decide (x∈N)).map D.str:=by
   rw [List.map_id,List.filter_map]
   rfl
  rw [e4] at l4
  obtain ⟨x,r,ex⟩:∃ x r,wx.filter (fun x=>!decide (x∈N))=x::r:=by
   cases z:wx.filter fun x=>!decide (x∈N) with
   | cons x r=>exact ⟨x,r,rfl⟩
   | nil=>
    exfalso
    have:=Js DO (ps:=N) fun y hy=>by
     have:=List.filter_eq_nil_iff.mp z y hy
     simpa using this
    rw [DN] at this
    omega
  have mx:x∈wx.filter fun x=>!decide (x∈N):=by rw [ex]; exact List.mem_cons_self ..
  obtain ⟨mx1,mx2⟩:=List.mem_filter.mp mx
  refine ⟨x,some (false,.lst (wx.map D.str)),DP x mx1,by simpa using mx2,?_⟩
  rw [ex] at l4
  have i0:zM (.lst ((x::r).map D.str)) (.int 0)=some (.str x):=rfl
  rw [Lf (by simp! [h1])]
  have s1:yT 1 (wP (eC (.int 0)) (eC (.int 26))) (za 11) yF Z3 σ0=some (.lst (((List.range 26).map fun j:Nat=>lt ((j:Int) % 26) ++ "qzqz").map D.str)):=by
   unfold yT
   rw [r26]
   show (yr _ _ _ _ _).bind _=_
   rw [l2]
   rfl
  have s2:yT 1 (wP (eC (.int 0)) (eC (.int 26))) (za 11) yF jW σ0=some (.lst (((List.range 26).map fun j:Nat=>lt ((j:Int) % 26) ++ "zqzq").map D.str)):=by
   unfold yT
   rw [r26]
   show (yr _ _ _ _ _).bind _=_
   rw [l3]
   rfl
  rw [xT (σ':=[some (false,c),some (false,m),some (false,sz),some (false,sp),some (false,W),some (false,own),some (true,.lst (N.map D.str)),kk,lx,some (false,.str x0),some (false,.lst (wx.map D.str))]) (by
   rw [<- hσ]
   show ((e2 zy _ _ σ0).bind _)=_
   unfold e2
   rw [s1]
   show (((yT 1 (wP (eC (.int 0)) (eC (.int 26))) (za 11) yF jW σ0).bind _).bind _)=_
   rw [s2,Option.bind_some,ad,Option.bind_some,hσ]
   rfl)]
  generalize wx.map D.str=OO at *
  generalize List.map D.str (x::r)=XR at *
  simp! [l4,i0]
 ·refine ⟨x0,x10,h0,hm,?_⟩
  have h1:=hin x0
  rw [decide_eq_false hm] at h1
  simp! [h1]
theorem Mp (cell:Int) {many:Int} (m0:0<=many) (m1:many<=40):∃ N:List Str,N.length=many.toNat/\qe N/\pG [.int cell,.int many]=some (true,.lst (N.map D.str)):=by
 obtain ⟨a1,a2,a3⟩:=wY cell 2 8 (by decide)
 obtain ⟨sz,hsz⟩:∃ z:Int,z=1+xm cell 2 8:=⟨_,rfl⟩
 obtain ⟨b1,b2,b3⟩:=wY cell 3 sz (by omega)
 generalize xm cell 3 sz=sp at b1 b2 b3
 obtain ⟨ts,hts⟩:∃ ts:List Str,ts=(List.range 8).map fun j:Nat=>lt (xm cell (4+(j:Int)) 26 % 26):=⟨_,rfl⟩
 obtain ⟨W,hW⟩:∃ W:Str,W=Builtin.Str.glued "" ts:=⟨_,rfl⟩
 have tl:∀ t∈ts,t.length=1/\vF t=true:=fun t ht=>by
  rw [hts] at ht
  obtain ⟨j,_,rfl⟩:=List.mem_map.mp ht
  exact ⟨j9 _,Tu (by omega) (by omega)⟩
 have lenW:W.length=8:=by
  have e:W.cps.toList.length=8:=by
   rw [hW,X_,hts]
   rfl
  rw [<- e]
  exact Array.length_toList.symm
 have lowW:vF W=true:=by
  unfold vF
  rw [hW,X_]
  refine List.all_eq_true.mpr fun c hc=>?_
  obtain ⟨l,hl,hc⟩:=List.mem_flatten.mp hc
  obtain ⟨t,ht,rfl⟩:=List.mem_map.mp hl
  exact List.all_eq_true.mp (tl t ht).2 c hc
 have r8:∀ σ,wP (eC (.int 0)) (eC (.int 8)) σ=some (xQ 8):=fun σ=>qJ (n:=8) rfl (by decide)
 have l1:=vU (g:=za 11) (e:=Vm) (σ:=[some (false,.int cell),some (false,.int many),some (false,.int sz),some (false,.int sp),none,none,none,none,none,none,none,none]) (fun d=>match d with | .int j=>D.str (lt (xm cell (4+j) 26 % 26)) | d=>d) (ds:=xQ 8) fun d hd=>by
  obtain ⟨i,hi,rfl⟩:=pA hd
  have hm:=(wY cell (4+(i:Int)) 26 (by decide)).1
  have hl:=YH (xm cell (4+(i:Int)) 26)
  refine ⟨_,rfl,?_⟩
  unfold Vm
  simp! [add_int,hm,hl]
 have w1:(xQ 8).map (fun d=>match d with | .int j=>D.str (lt (xm cell (4+j) 26 % 26)) | d=>d)=ts.map D.str:=by
  rw [hts,List.map_map,List.map_map]
  rfl
 rw [w1] at l1
 have jn:=M1 (sep := "") (ts:=ts) (by rw [hts]; exact Nat.le_trans (Nat.le_of_eq (show _=8 from rfl)) (by decide))
 rw [<- hW] at jn
 have rr:J7 [some (false,.int cell),some (false,.int many),some (false,.int sz),some (false,.int sp),some (false,.str W),some (false,wC),some (true,.lst []),none,none,none,none]=some (xQ many.toNat):=qJ (n:=many) rfl (by omega)
 have c5:=wY cell 5 26 (by decide)
 have c6:=wY cell 6 4 (by decide)
 have c7:=wY cell 7 2 (by decide)
 generalize xm cell 5 26=m5 at c5
 generalize xm cell 6 4=m6 at c6
 generalize xm cell 7 2=m7 at c7
 have l5:t6 5=true:=by decide
 obtain ⟨spn,hsp⟩:∃ n:Nat,(n:Int)=sp:=⟨sp.toNat,by omega⟩
 obtain ⟨szn,hszn⟩:∃ n:Nat,(n:Int)=sz:=⟨sz.toNat,by omega⟩
 have h2:∀ x y:Str,(x++y).length=x.length+y.length:=u9
 obtain ⟨σ',e3,N,x7,x8,x9,x10,hl,hN,rfl⟩:=qF (g:=za 7) (b:=WI) (fun i σ=>∃ N x7 x8 x9 x10,N.length=i/\qe N/\σ=[some (false,.int cell),some (false,.int many),some (false,.int sz),some (false,.int sp),some (false,.str W),some (false,wC),some (true,.lst (N.map D.str)),x7,x8,x9,x10]) (ds:=xQ many.toNat)
  (σ:=[some (false,.int cell),some (false,.int many),some (false,.int sz),some (false,.int sp),some (false,.str W),some (false,wC),some (true,.lst []),none,none,none,none]) 0 ⟨[],none,none,none,none,rfl,⟨List.nodup_nil,fun _ h=>by cases h⟩,rfl⟩ (by
  rintro i v σ hv ⟨N,x7,x8,x9,x10,hl,hN,rfl⟩
  obtain ⟨hi,rfl⟩:=VZ hv
  rw [Nat.zero_add] at *
  have lf:=YH (m5+5*(i:Int))
  have lz:=j9 ((m5+5*(i:Int)) % 26)
  have ll:=Tu (k:=(m5+5*(i:Int)) % 26) (by omega) (by omega)
  generalize lt ((m5+5*(i:Int)) % 26)=L at lf lz ll
  have k1:=Uc W (b:=spn) (by omega)
  have k2:=OV W (a:=spn+1) (b:=szn) (by omega) (by omega)
  have k3:=WS lowW none (some (spn:Int))
  have k4:=WS lowW (some ((spn+1:Nat):Int)) (some (szn:Int))
  rw [hsp] at k1 k3
  rw [show ((spn+1:Nat):Int)=sp+1 by omega,hszn] at k2 k4
  have s1:xM (z6 4) xn (yt (z6 3)) [some (false,.int cell),some (false,.int many),some (false,.int sz),some (false,.int sp),some (false,.str W),some (false,wC),some (true,.lst (N.map D.str)),some (false,.int (i:Int)),some (false,.str L),x9,x10]=some (.str (L2.cutS W none (some sp))):=rfl
  have s2:xM (z6 4) (yt (e2 zy (z6 3) (eC (.int 1)))) (yt (z6 2)) [some (false,.int cell),some (false,.int many),some (false,.int sz),some (false,.int sp),some (false,.str W),some (false,wC),some (true,.lst (N.map D.str)),some (false,.int (i:Int)),some (false,.str L),x9,x10]=some (.str (L2.cutS W (some (sp+1)) (some sz))):=rfl
  generalize L2.cutS W none (some sp)=A at *
  generalize L2.cutS W (some (sp+1)) (some sz)=B at *
  have ad1:=add_str (a:=A) (b:=L) (by omega)
  have ad2:=add_str (a:=A++L) (b:=B) (by rw [h2]; omega)
  have okb:vW (A++L++B)=true:=Q0 (by rw [h2,h2]; omega) (by rw [h2,h2]; omega) (Tt (Tt k3 ll) k4)
  unfold WI
  have base:∃ x0:Str,vW x0=true/\zl (ug (tE (e2 zQ (zS xE (z8 (z6 0) (z8 (eC (.int 6)) (z8 (eC (.int 4)) zC)))) (eC (.int 0)))) (tE (e2 (u4 fun i j=>decide (i<j)) (z6 7) (eC (.int 8)))))
     (ze 9 (e2 zM (yn (z8 (xM (z6 4) xn (yt (e2 zy (z6 7) (eC (.int 1))))) (z8 (e2 zM (z6 5) (z6 7)) zC))) (zS xE (z8 (z6 0) (z8 (eC (.int 7)) (z8 (eC (.int 2)) zC))))))
     zn [some (false,.int cell),some (false,.int many),some (false,.int sz),some (false,.int sp),some (false,.str W),some (false,wC),some (true,.lst (N.map D.str)),some (false,.int (i:Int)),some (false,.str L),some (false,.str (A++L++B)),x10]=some (.nx [some (false,.int cell),some (false,.int many),some (false,.int sz),some (false,.int sp),some (false,.str W),some (false,wC),some (true,.lst (N.map D.str)),some (false,.int (i:Int)),some (false,.str L),some (false,.str x0),x10]):=by
   have c61:=c6.1
   have c71:=c7.1
   by_cases h6:m6=0
   ·have q6:=uR h6
    by_cases h8:i<8
    ·have q8:decide ((i:Int)<8)=true:=decide_eq_true (by omega)
     obtain ⟨t,ht,et⟩:=DQ h8
     have s3:xM (z6 4) xn (yt (e2 zy (z6 7) (eC (.int 1)))) [some (false,.int cell),some (false,.int many),some (false,.int sz),some (false,.int sp),some (false,.str W),some (false,wC),some (true,.lst (N.map D.str)),some (false,.int (i:Int)),some (false,.str L),some (false,.str (A++L++B)),x10]=some (.str (L2.cutS W none (some ((i+1:Nat):Int)))):=rfl
     have kc:=Uc W (b:=i+1) (by omega)
     have kl:=WS lowW none (some ((i+1:Nat):Int))
     generalize L2.cutS W none (some ((i+1:Nat):Int))=C at *
     generalize wC=OD at *
     rcases (show m7=0\/m7=1 by omega) with h7 | h7
     ·have i7:zM (.lst [.str C,.str t]) (.int m7)=some (.str C):=by rw [h7]; rfl
      refine ⟨C,Q0 (by omega) (by omega) kl,?_⟩
      simp! [c61,q6,q8,s3,et,c71,i7]
     ·have i7:zM (.lst [.str C,.str t]) (.int m7)=some (.str t):=by rw [h7]; rfl
      refine ⟨t,ht,?_⟩
      simp! [c61,q6,q8,s3,et,c71,i7]
    ·have q8:decide ((i:Int)<8)=false:=decide_eq_false (by omega)
     refine ⟨_,okb,?_⟩
     generalize wC=OD at *
     simp! [c61,q6,q8]
   ·have q6:=uS h6
    refine ⟨_,okb,?_⟩
    generalize wC=OD at *
    simp! [c61,q6]
  obtain ⟨x0,ok0,eb⟩:=base
  obtain ⟨x,y10,okx,nx,ex⟩:=Mq (c:=.int cell) (m:=.int many) (sz:=.int sz) (sp:=.int sp) (W:=.str W) (own:=wC) (N:=N) (by omega) (kk:=some (false,.int (i:Int))) (lx:=some (false,.str L)) (x10:=x10) ok0
  have hap:=ZK (L:=N.map D.str) (r:=.str x) (by rw [List.length_map]; omega)
  have c51:=c5.1
  refine ⟨_,[some (false,.int cell),some (false,.int many),some (false,.int sz),some (false,.int sp),some (false,.str W),some (false,wC),some (true,.lst ((N++[x]).map D.str)),some (false,.int (i:Int)),some (false,.str L),some (false,.str x),y10],rfl,.inl ?_,N++[x],_,_,_,_,by rw [List.length_append,hl]; rfl,⟨?_,?_⟩,rfl⟩
  ·show zG _ _ [some (false,.int cell),some (false,.int many),some (false,.int sz),some (false,.int sp),some (false,.str W),some (false,wC),some (true,.lst (N.map D.str)),some (false,.int (i:Int)),x8,x9,x10]=_
   rw [xT (σ':=[some (false,.int cell),some (false,.int many),some (false,.int sz),some (false,.int sp),some (false,.str W),some (false,wC),some (true,.lst (N.map D.str)),some (false,.int (i:Int)),some (false,.str L),x9,x10]) (by
    generalize wC=OD at *
    simp! [c51,add_int,l5,lf])]
   rw [xT (σ':=[some (false,.int cell),some (false,.int many),some (false,.int sz),some (false,.int sp),some (false,.str W),some (false,wC),some (true,.lst (N.map D.str)),some (false,.int (i:Int)),some (false,.str L),some (false,.str (A++L++B)),x10]) (by
    generalize wC=OD at *
    simp! [s1,s2,ad1,ad2])]
   rw [xT eb,xT ex,List.map_append]
   generalize wC=OD at *
   simp! [hap]
  ·exact List.nodup_append.mpr ⟨hN.nd,List.nodup_cons.mpr ⟨by simp,List.nodup_nil⟩,fun a ha b hb e=>by
    cases List.mem_singleton.mp hb
    exact nx (e ▸ ha)⟩
  ·intro t ht
   rcases List.mem_append.mp ht with ht | ht
   ·exact hN.ok t ht
   ·cases List.mem_singleton.mp ht
    exact okx)
 rw [Va,Nat.zero_add] at hl
 refine ⟨N,hl,hN,?_⟩
 rw [LG]
 unfold ZU
 have a11:=a1
 simp! [a1,add_int,<- hsz,b1,r8,l1,jn,rr,e3]
noncomputable def pf (N:List Str) (kind d:D):Prop:=(kind=.str "name" /\ ∃ t∈N,d=.str t)\/(kind=.str "mark" /\ ∃ k:Str,(k = "carry" \/ k = "nought" \/ k = "sign")/\d=.str k)\/∃ m n:Int,kind=.int m/\d=.int n/\0<=n/\n<m
noncomputable def WH (N:List Str) (kind:D):Prop:=(kind=.str "name" /\ N≠[])\/kind=.str "mark" \/ ∃ m:Int,kind=.int m/\0<m
theorem DT {N:List Str} {kind:D} (h:WH N kind) (c k:Int):∃ d,pH [kind,.int c,.int k,.lst (N.map D.str)]=some (false,d)/\pf N kind d:=by
 rcases h with ⟨rfl,hN⟩ | rfl | ⟨m,rfl,hm⟩
 ·have hp:0<N.length:=List.length_pos_iff.mpr hN
  obtain ⟨a,b,b'⟩:=wY c k (N.length:Int) (by omega)
  generalize xm c k (N.length:Int)=v at *
  have hv:v.toNat<N.length:=by omega
  have e:zM (.lst (N.map D.str)) (.int v)=some (.str N[v.toNat]):=pQ b (by rw [List.getElem?_map,List.getElem?_eq_getElem hv]; rfl)
  have e1:zQ (.str "name") (.str "name")=some (.bl true):=by rfl
  refine ⟨_,?_,.inl ⟨rfl,N[v.toNat],List.getElem_mem hv,rfl⟩⟩
  rw [W4]
  unfold pU
  simp! [e1,List.length_map,a,e]
 ·obtain ⟨a,b,b'⟩:=wY c k 3 (by decide)
  generalize xm c k 3=v at *
  obtain ⟨w,hw,ew⟩:∃ w:Str,(w = "carry" \/ w = "nought" \/ w = "sign")/\zM (.lst [.str "carry",.str "nought",.str "sign"]) (.int v)=some (.str w):=by
   rcases (show v=0\/v=1\/v=2 by omega) with rfl | rfl | rfl
   ·exact ⟨"carry",by simp,rfl⟩
   ·exact ⟨"nought",by simp,rfl⟩
   ·exact ⟨"sign",by simp,rfl⟩
  have e1:zQ (.str "mark") (.str "name")=some (.bl false):=by rfl
  have e2:zQ (.str "mark") (.str "mark")=some (.bl true):=by rfl
  refine ⟨_,?_,.inr (.inl ⟨rfl,w,hw,rfl⟩)⟩
  rw [W4]
  unfold pU
  simp! [e1,e2,a,ew]
 ·obtain ⟨a,a0,a1⟩:=wY c k m hm
  obtain ⟨b,b0,b1⟩:=wY c (k+1) m hm
  obtain ⟨q,q0,q1⟩:=wY c (k+2) 4 (by decide)
  obtain ⟨n,hn,en⟩:=FD (a:=0) (b:=m - 1) (c:=xm c k m) (d:=xm c (k+1) m) (i:=xm c (k+2) 4) q0 q1
  have e1:zQ (.int m) (.str "name")=some (.bl false):=by rfl
  have e2:zQ (.int m) (.str "mark")=some (.bl false):=by rfl
  refine ⟨.int n,?_,.inr (.inr ⟨m,n,rfl,rfl,by omega,by omega⟩)⟩
  rw [W4]
  unfold pU
  simp! [e1,e2,a,add_int,b,q,en]
theorem Er {w:Str} (hw:w = "set" \/ w = "high"):v7 [.str w]=some (true,.lst [.int 8,.int 65536]):=by rcases hw with rfl | rfl<;>rfl
theorem Et {w:Str} (hw:w = "left" \/ w = "right"):v7 [.str w]=some (true,.lst [.int 8,.int 32]):=by rcases hw with rfl | rfl<;>rfl
theorem Es {w:Str} (hw:w = "load" \/ w = "store" \/ w = "loadw" \/ w = "storew"):v7 [.str w]=some (true,.lst [.int 8,.int 8,.int 256]):=by rcases hw with rfl | rfl | rfl | rfl<;>rfl
theorem Ew {w:Str} (hw:w = "copy" \/ w = "add" \/ w = "addc" \/ w = "sub" \/ w = "subc" \/ w = "and" \/ w = "or" \/ w = "xor" \/ w = "test"):v7 [.str w]=some (true,.lst [.int 8,.int 8]):=by
 rcases hw with rfl | rfl | rfl | rfl | rfl | rfl | rfl | rfl | rfl<;>rfl
theorem Eu {w:Str} (hw:w = "jump" \/ w = "label"):v7 [.str w]=some (false,.lst [.str "name"]):=by rcases hw with rfl | rfl<;>rfl
theorem Ep {w:Str} (hw:w = "when" \/ w = "unless"):v7 [.str w]=some (false,.lst [.str "mark",.str "name"]):=by rcases hw with rfl | rfl<;>rfl
theorem Ev:v7 [.str "stop"]=some (false,.lst []):=by rfl
noncomputable def uL (w:Str):Prop:=(w = "set" \/ w = "high")\/(w = "left" \/ w = "right")\/(w = "load" \/ w = "store" \/ w = "loadw" \/ w = "storew")\/(w = "copy" \/ w = "add" \/ w = "addc" \/ w = "sub" \/ w = "subc" \/ w = "and" \/ w = "or" \/ w = "xor" \/ w = "test")\/w = "jump" \/ (w = "when" \/ w = "unless")\/w = "stop"
noncomputable abbrev Yz:D:=.lst [.str "set",.str "high",.str "copy",.str "add",.str "addc",.str "sub",.str "subc",.str "and",.str "or",.str "xor",.str "test",.str "left",.str "right",.str "load",.str "store",.str "loadw",.str "storew",.str "jump",.str "when",.str "unless",.str "stop"]
theorem HU:pJ []=some (false,Yz):=by rfl
theorem HV {v:Int} (h0:0<=v) (h1:v<21):∃ w:Str,uL w/\zM Yz (.int v)=some (.str w):=by
 rcases (show v=0\/v=1\/v=2\/v=3\/v=4\/v=5\/v=6\/v=7\/v=8\/v=9\/v=10\/v=11\/v=12\/v=13\/v=14\/v=15\/v=16\/v=17\/v=18\/v=19\/v=20 by omega) with rfl | rfl | rfl | rfl | rfl | rfl | rfl | rfl | rfl | rfl | rfl | rfl | rfl | rfl | rfl | rfl | rfl | rfl | rfl | rfl | rfl<;>exact ⟨_,by unfold uL; simp,rfl⟩
theorem p4 {N:List Str} {w:Str} {ks:List D} {o:Bool} (hs:v7 [.str w]=some (o,.lst ks)) (hk:∀ k∈ks,WH N k) (hl:ks.length<=5) (c:Int):∃ ds:List D,wO (pf N) ks ds/\zG (ze 3 (zS v7 (z8 (z6 2) zC)))
  (zk (e2 zy (vP (z8 (z6 2) zC)) (eL uQ (z8 (yT 1 Yd (za 4) yF Z4) zC)))) [some (false,.int c),some (false,.lst (N.map D.str)),some (false,.str w),none]=some (.rt false (.tup (.str w::ds))):=by
 have rr:Yd [some (false,.int c),some (false,.lst (N.map D.str)),some (false,.str w),some (false,.lst ks)]=some (xQ ks.length):=qJ (n:=(ks.length:Int)) rfl (by omega)
 obtain ⟨ds,e1,ea⟩:=WN (g:=za 4) (e:=Z4) (σ:=[some (false,.int c),some (false,.lst (N.map D.str)),some (false,.str w),some (false,.lst ks),none]) (fun d x=>∃ i:Nat,d=.int (i:Int)/\∃ k,ks[i]?=some k/\pf N k x) (ds:=xQ ks.length) fun d hd=>by
  obtain ⟨i,hi,rfl⟩:=pA hd
  obtain ⟨x,ex,fx⟩:=DT (hk _ (List.getElem_mem hi)) c (2*(i:Int)+1)
  have ei:zM (.lst ks) (.int (i:Int))=some ks[i]:=pQ (by omega) (by rw [Int.toNat_natCast]; exact List.getElem?_eq_getElem hi)
  have l2:t6 2=true:=by decide
  refine ⟨_,x,rfl,?_,i,rfl,_,List.getElem?_eq_getElem hi,fx⟩
  unfold Z4
  simp! [ei,l2,add_int,ex]
 have ld:ds.length=ks.length:=by rw [<- jq ea,Va]
 refine ⟨ds,?_,?_⟩
 ·refine Up ld.symm fun i k d hk hd=>?_
  have hi:i<ks.length:=(List.getElem?_eq_some_iff.mp hk).1
  obtain ⟨y,ey,j,ej,k',ek,fk⟩:=Xj ea (i:=i) (x:=.int (i:Int)) (by simp [hi])
  rw [ey] at hd
  cases hd
  have e0:j=i:=by injection ej with z; omega
  subst e0
  rw [hk] at ek
  cases ek
  exact fk
 ·have ad:zy (.tup [.str w]) (.tup ds)=some (.tup (.str w::ds)):=by
   show (if _/\_ then _ else _)=_
   rw [if_pos ⟨rfl,by show 1+ds.length<=16777216; omega⟩]
   rfl
  have ft:uQ [.lst ds]=some (.tup ds):=rfl
  simp! [hs,rr,e1,ft,ad]
theorem qk {R:D->D->Prop} {ds:List D} (h:wO R [] ds):ds=[]:=by cases h; rfl
theorem vf {R:D->D->Prop} {k:D} {ks ds:List D} (h:wO R (k::ks) ds):∃ d r,ds=d::r/\R k d/\wO R ks r:=by
 cases h with
 | cons r rs=>exact ⟨_,_,rfl,r,rs⟩
theorem u_ {N:List Str} {m:Int} {d:D} (h:pf N (.int m) d):∃ n:Int,d=.int n/\0<=n/\n<m:=by
 rcases h with ⟨h,_⟩ | ⟨h,_⟩ | ⟨m',n,h,e,a,b⟩
 ·cases h
 ·cases h
 ·injection h with h
  subst h
  exact ⟨n,e,a,b⟩
theorem Uz {N:List Str} {d:D} (h:pf N (.str "name") d):∃ t∈N,d=.str t:=by
 rcases h with ⟨_,h⟩ | ⟨h,_⟩ | ⟨_,_,h,_⟩
 ·exact h
 ·exact absurd (D.str.inj h) (by decide)
 ·cases h
theorem Ov {N:List Str} {d:D} (h:pf N (.str "mark") d):∃ k:Str,(k = "carry" \/ k = "nought" \/ k = "sign")/\d=.str k:=by
 rcases h with ⟨h,_⟩ | ⟨_,h⟩ | ⟨_,_,h,_⟩
 ·exact absurd (D.str.inj h) (by decide)
 ·exact h
 ·cases h
theorem CY {N:List Str} {w:Str} (hw:uL w) (hn:N=[]->w ≠ "jump" /\ w ≠ "when" /\ w ≠ "unless") (c:Int):∃ r,um N r/\zG (ze 3 (zS v7 (z8 (z6 2) zC)))
  (zk (e2 zy (vP (z8 (z6 2) zC)) (eL uQ (z8 (yT 1 Yd (za 4) yF Z4) zC)))) [some (false,.int c),some (false,.lst (N.map D.str)),some (false,.str w),none]=some (.rt false r):=by
 have ki:∀ m:Int,0<m->WH N (.int m):=fun m h=>.inr (.inr ⟨m,rfl,h⟩)
 rcases hw with hw | hw | hw | hw | hw | hw | hw
 ·obtain ⟨ds,ea,e⟩:=p4 (N:=N) (Er hw) (fun k hk=>by
   rcases List.mem_cons.mp hk with rfl | hk
   ·exact ki 8 (by decide)
   ·cases List.mem_singleton.mp hk; exact ki 65536 (by decide)) (by decide) c
  obtain ⟨d1,r1,rfl,f1,ea⟩:=vf ea
  obtain ⟨d2,r2,rfl,f2,ea⟩:=vf ea
  cases qk ea
  obtain ⟨x,rfl,x0,x1⟩:=u_ f1
  obtain ⟨y,rfl,y0,y1⟩:=u_ f2
  exact ⟨_,.plain (.imm hw x0 x1 y0 y1),e⟩
 ·obtain ⟨ds,ea,e⟩:=p4 (N:=N) (Et hw) (fun k hk=>by
   rcases List.mem_cons.mp hk with rfl | hk
   ·exact ki 8 (by decide)
   ·cases List.mem_singleton.mp hk; exact ki 32 (by decide)) (by decide) c
  obtain ⟨d1,r1,rfl,f1,ea⟩:=vf ea
  obtain ⟨d2,r2,rfl,f2,ea⟩:=vf ea
  cases qk ea
  obtain ⟨x,rfl,x0,x1⟩:=u_ f1
  obtain ⟨y,rfl,y0,y1⟩:=u_ f2
  exact ⟨_,.plain (.mov hw x0 x1 y0 y1),e⟩
 ·obtain ⟨ds,ea,e⟩:=p4 (N:=N) (Es hw) (fun k hk=>by
   rcases List.mem_cons.mp hk with rfl | hk
   ·exact ki 8 (by decide)
   ·rcases List.mem_cons.mp hk with rfl | hk
    ·exact ki 8 (by decide)
    ·cases List.mem_singleton.mp hk; exact ki 256 (by decide)) (by decide) c
  obtain ⟨d1,r1,rfl,f1,ea⟩:=vf ea
  obtain ⟨d2,r2,rfl,f2,ea⟩:=vf ea
  obtain ⟨d3,r3,rfl,f3,ea⟩:=vf ea
  cases qk ea
  obtain ⟨x,rfl,x0,x1⟩:=u_ f1
  obtain ⟨y,rfl,y0,y1⟩:=u_ f2
  obtain ⟨z,rfl,z0,z1⟩:=u_ f3
  exact ⟨_,.plain (.mem hw x0 x1 y0 y1 z0 z1),e⟩
 ·obtain ⟨ds,ea,e⟩:=p4 (N:=N) (Ew hw) (fun k hk=>by
   rcases List.mem_cons.mp hk with rfl | hk
   ·exact ki 8 (by decide)
   ·cases List.mem_singleton.mp hk; exact ki 8 (by decide)) (by decide) c
  obtain ⟨d1,r1,rfl,f1,ea⟩:=vf ea
  obtain ⟨d2,r2,rfl,f2,ea⟩:=vf ea
  cases qk ea
  obtain ⟨x,rfl,x0,x1⟩:=u_ f1
  obtain ⟨y,rfl,y0,y1⟩:=u_ f2
  exact ⟨_,.plain (.two hw x0 x1 y0 y1),e⟩
 ·have nn:N≠[]:=fun z=>(hn z).1 hw
  obtain ⟨ds,ea,e⟩:=p4 (N:=N) (Eu (.inl hw)) (fun k hk=>by
   cases List.mem_singleton.mp hk; exact .inl ⟨rfl,nn⟩) (by decide) c
  obtain ⟨d1,r1,rfl,f1,ea⟩:=vf ea
  cases qk ea
  obtain ⟨t,ht,rfl⟩:=Uz f1
  subst hw
  exact ⟨_,.jump ht,e⟩
 ·have nn:N≠[]:=fun z=>by
   rcases hw with hw | hw
   ·exact (hn z).2.1 hw
   ·exact (hn z).2.2 hw
  obtain ⟨ds,ea,e⟩:=p4 (N:=N) (Ep hw) (fun k hk=>by
   rcases List.mem_cons.mp hk with rfl | hk
   ·exact .inr (.inl rfl)
   ·cases List.mem_singleton.mp hk; exact .inl ⟨rfl,nn⟩) (by decide) c
  obtain ⟨d1,r1,rfl,f1,ea⟩:=vf ea
  obtain ⟨d2,r2,rfl,f2,ea⟩:=vf ea
  cases qk ea
  obtain ⟨k,hk,rfl⟩:=Ov f1
  obtain ⟨t,ht,rfl⟩:=Uz f2
  exact ⟨_,.cond hw hk ht,e⟩
 ·subst hw
  obtain ⟨ds,ea,e⟩:=p4 (N:=N) Ev (fun k hk=>by cases hk) (by decide) c
  cases qk ea
  exact ⟨_,.plain .stop,e⟩
theorem CU (N:List Str) (c:Int):∃ r,um N r/\pI [.int c,.lst (N.map D.str)]=some (false,r):=by
 obtain ⟨a,a0,a1⟩:=wY c 0 21 (by decide)
 obtain ⟨w0,hw0,e0⟩:=HV a0 a1
 obtain ⟨b,b0,b1⟩:=wY c 8 4 (by decide)
 obtain ⟨q,q0,q1⟩:=wY c 9 3 (by decide)
 generalize xm c 0 21=v0 at *
 generalize xm c 8 4=v8 at *
 generalize xm c 9 3=v9 at *
 obtain ⟨w9,hw9,e9⟩:∃ w:Str,uL w/\zM (.lst [.str "jump",.str "when",.str "unless"]) (.int v9)=some (.str w):=by
  rcases (show v9=0\/v9=1\/v9=2 by omega) with rfl | rfl | rfl<;>exact ⟨_,by unfold uL; simp,rfl⟩
 have wF:=HU
 have step:∃ w:Str,uL w/\∀ (yN:FS),zG (ze 2 (e2 zM (zS pJ zC) (zS xE (z8 (z6 0) (z8 (eC (.int 0)) (z8 (eC (.int 21)) zC))))))
  (zG (zl (tE (e2 zQ (zS xE (z8 (z6 0) (z8 (eC (.int 8)) (z8 (eC (.int 4)) zC)))) (eC (.int 1))))
   (ze 2 (e2 zM (yn (z8 (eC (.str "jump")) (z8 (eC (.str "when")) (z8 (eC (.str "unless")) zC)))) (zS xE (z8 (z6 0) (z8 (eC (.int 9)) (z8 (eC (.int 3)) zC))))))
   zn) yN) [some (false,.int c),some (false,.lst (N.map D.str)),none,none]=yN [some (false,.int c),some (false,.lst (N.map D.str)),some (false,.str w),none]:=by
  by_cases h8:v8=1
  ·refine ⟨w9,hw9,fun yN=>?_⟩
   have k8:=uR h8
   rw [xT (σ':=[some (false,.int c),some (false,.lst (N.map D.str)),some (false,.str w0),none]) (by
    generalize Yz=WD at *
    simp! [wF,a,e0])]
   rw [xT (σ':=[some (false,.int c),some (false,.lst (N.map D.str)),some (false,.str w9),none]) (by simp! [b,k8,q,e9])]
  ·refine ⟨w0,hw0,fun yN=>?_⟩
   have k8:=uS h8
   rw [xT (σ':=[some (false,.int c),some (false,.lst (N.map D.str)),some (false,.str w0),none]) (by
    generalize Yz=WD at *
    simp! [wF,a,e0])]
   rw [xT (σ':=[some (false,.int c),some (false,.lst (N.map D.str)),some (false,.str w0),none]) (by simp! [b,k8])]
 obtain ⟨w,hw,es⟩:=step
 obtain ⟨kj,ej⟩:∃ k:Bool,xK (.str w) (.lst [.str "jump",.str "when",.str "unless"])=some (.bl k)/\(k=false->w ≠ "jump" /\ w ≠ "when" /\ w ≠ "unless"):=by
  rcases hw with hw | hw | hw | hw | hw | hw | hw
  ·rcases hw with rfl | rfl<;>exact ⟨false,rfl,fun _=>by decide⟩
  ·rcases hw with rfl | rfl<;>exact ⟨false,rfl,fun _=>by decide⟩
  ·rcases hw with rfl | rfl | rfl | rfl<;>exact ⟨false,rfl,fun _=>by decide⟩
  ·rcases hw with rfl | rfl | rfl | rfl | rfl | rfl | rfl | rfl | rfl<;>exact ⟨false,rfl,fun _=>by decide⟩
  ·subst hw; exact ⟨true,rfl,fun z=>by cases z⟩
  ·rcases hw with rfl | rfl<;>exact ⟨true,rfl,fun z=>by cases z⟩
  ·subst hw; exact ⟨false,rfl,fun _=>by decide⟩
 have fin:∃ w':Str,uL w'/\(N=[]->w' ≠ "jump" /\ w' ≠ "when" /\ w' ≠ "unless")/\zl (ug (tE (e2 xK (z6 2) (yn (z8 (eC (.str "jump")) (z8 (eC (.str "when")) (z8 (eC (.str "unless")) zC)))))) (tE (e2 zQ (eL ye (z8 (z6 1) zC)) (eC (.int 0)))))
   (ze 2 (eC (.str "stop")))
   zn [some (false,.int c),some (false,.lst (N.map D.str)),some (false,.str w),none]=some (.nx [some (false,.int c),some (false,.lst (N.map D.str)),some (false,.str w'),none]):=by
  obtain ⟨ej,hj⟩:=ej
  cases kj with
  | false=>
   refine ⟨w,hw,fun _=>hj rfl,?_⟩
   simp! [ej]
  | true=>
   by_cases hN:N=[]
   ·subst hN
    refine ⟨"stop",by unfold uL; simp,fun _=>by decide,?_⟩
    have k0:zQ (.int (0:Nat)) (.int 0)=some (.bl true):=by rfl
    simp! [ej]
    rfl
   ·have hp:0<N.length:=List.length_pos_iff.mpr hN
    have k0:zQ (.int (N.length:Int)) (.int 0)=some (.bl false):=uS (by omega)
    refine ⟨w,hw,fun z=>absurd z hN,?_⟩
    simp! [ej,List.length_map,k0]
 obtain ⟨w',hw',hn,ef⟩:=fin
 obtain ⟨r,hr,er⟩:=CY (N:=N) hw' hn c
 refine ⟨r,hr,?_⟩
 rw [LI]
 unfold ZW
 show ((zG _ _ [some (false,.int c),some (false,.lst (N.map D.str)),none,none]).bind _)=_
 rw [es,xT ef,er]
 rfl
end L3
namespace L3
open PySem
noncomputable def V1:FA:=(wP (eC (.int 0)) (e2 zy (eC (.int 40)) (e2 wt (e2 ql (z6 2) (eC (.int 12))) (eC (.int 160)))))
noncomputable def X0:FE:=(e2 zy (e2 ql (z6 2) (eC (.int 12))) (e2 pZ (eC (.int 17)) (z6 8)))
noncomputable def Vo:FE:=(zS pI (z8 (z6 8) (z8 (z6 6) zC)))
noncomputable def J8:FA:=(wP (eC (.int 0)) (eL ye (z8 (z6 6) zC)))
noncomputable def WJ:FS:=(Yj 7 (zS xE (z8 (e2 zy (z6 2) (e2 ql (z6 4) (eC (.int 5)))) (z8 (z6 4) (z8 (e2 zy (eL ye (z8 (uz 7) zC)) (eC (.int 1))) zC)))) (vP (z8 (eC (.str "label")) (z8 (e2 zM (z6 6) (z6 4)) zC))))
noncomputable def ZV:FS:=
 (zG (ze 2 (zS uj (z8 (z6 0) (z8 (z6 1) zC))))
  (zG (ze 3 (xM (z6 0) (yt (e2 zy (z6 1) (eC (.int 1)))) (yt (e2 zy (z6 1) (eC (.int 31))))))
  (zG (zl (tE (e2 zQ (e2 wt (z6 2) (eC (.int 12))) (eC (.int 5))))
   (ze 3 (yT 1 V1 (za 8) yF X0))
   zn)
  (zG (ze 5 (e2 zM (yn (fun _=>some (List.map D.int [0,1,2,3,4,6,8,20]))) (zS xE (z8 (z6 2) (z8 (eC (.int 1)) (z8 (eC (.int 8)) zC))))))
  (zG (zl (tE (e2 zQ (e2 wt (z6 2) (eC (.int 24))) (eC (.int 5))))
   (ze 5 (eC (.int 40)))
   zn)
  (zG (ze 6 (zS pG (z8 (e2 ql (z6 2) (eC (.int 3))) (z8 (z6 5) zC))))
  (zG (uc 7 (yT 1 (xl (z6 3)) (za 8) yF Vo))
  (zG (tH J8 (za 4)
   WJ)
  (qK 7)))))))))
noncomputable def qW:List D->Option (Bool×D):=FR 2 8 ZV
theorem Cy:∀ ds r,qW ds=some r->ds.length=2/\zZ 8 ZV ds=some r:=yZ
theorem LH (x0 x1:D):qW [x0,x1]=zZ 8 ZV [x0,x1]:=rfl
theorem Ou (p:D->Bool) (xs:List D) (n:Nat) (y:D) (h:p y=true):((xs.take n++[y]++xs.drop n).filter p).Perm (xs.filter p++[y]):=by
 have e:xs.filter p=(xs.take n).filter p++(xs.drop n).filter p:=by rw [<- List.filter_append,List.take_append_drop]
 rw [List.filter_append,List.filter_append,List.filter_cons_of_pos h,e,List.filter_nil,List.append_assoc,List.append_assoc]
 exact List.Perm.append_left _ List.perm_append_comm
structure ZF (N:List Str) (items:List D):Prop where
 nm:qe N
 it:∀ d∈items,qd N d
 lb:(items.filter zd).Perm (N.map yJ)
 ln:items.length<=300
 nl:N.length<=40
theorem Qk (ns:List Int) (hl:ns.length<=63) {first:Int} (f0:0<=first):∃ N items,ZF N items/\qW [.lst (ns.map D.int),.int first]=some (true,.lst items):=by
 have hc:=UW ns (k:=first) f0
 generalize Zk ns first=far at hc
 have b1:=wY far 1 8 (by decide)
 obtain ⟨mn,mn0,mn1,emn⟩:∃ m:Int,0<=m/\m<=40/\zM (.lst (List.map D.int [0,1,2,3,4,6,8,20])) (.int (xm far 1 8))=some (.int m):=by
  obtain ⟨_,h0,h1⟩:=b1
  generalize xm far 1 8=v at *
  rcases (show v=0\/v=1\/v=2\/v=3\/v=4\/v=5\/v=6\/v=7 by omega) with rfl | rfl | rfl | rfl | rfl | rfl | rfl | rfl<;>exact ⟨_,by decide,by decide,rfl⟩
 have b1:=b1.1
 obtain ⟨s,hs⟩:∃ s:D,s=.lst (ns.map D.int):=⟨_,rfl⟩
 have cells:∃ cs:List Int,cs.length<=200/\∀ yN:FS,zG (ze 3 (xM (z6 0) (yt (e2 zy (z6 1) (eC (.int 1)))) (yt (e2 zy (z6 1) (eC (.int 31))))))
  (zG (zl (tE (e2 zQ (e2 wt (z6 2) (eC (.int 12))) (eC (.int 5))))
   (ze 3 (yT 1 V1 (za 8) yF X0))
   zn) yN) [some (false,s),some (false,.int first),some (false,.int far),none,none,none,none,none]=yN [some (false,s),some (false,.int first),some (false,.int far),some (false,.lst (cs.map D.int)),none,none,none,none]:=by
  have sl:xM (z6 0) (yt (e2 zy (z6 1) (eC (.int 1)))) (yt (e2 zy (z6 1) (eC (.int 31)))) [some (false,s),some (false,.int first),some (false,.int far),none,none,none,none,none]=some (.lst ((xo ns (some (first+1)) (some (first+31))).map D.int)):=by
   rw [hs]
   show some (D.lst (xo (ns.map D.int) (some (first+1)) (some (first+31))))=_
   unfold xo
   rw [List.length_map,List.map_take,List.map_drop]
  have cl:(xo ns (some (first+1)) (some (first+31))).length<=63:=by
   unfold xo
   rw [List.length_take,List.length_drop]
   omega
  by_cases h5:far % 12=5
  ·have k5:=uR h5
   have rr:V1 [some (false,s),some (false,.int first),some (false,.int far),some (false,.lst ((xo ns (some (first+1)) (some (first+31))).map D.int)),none,none,none,none]=some (xQ (40+far / 12 % 160).toNat):=qJ (n:=40+far / 12 % 160) rfl (by omega)
   have l17:t6 17=true:=by decide
   have l1:=vU (g:=za 8) (e:=X0) (σ:=[some (false,s),some (false,.int first),some (false,.int far),some (false,.lst ((xo ns (some (first+1)) (some (first+31))).map D.int)),none,none,none,none,none]) (fun d=>match d with | .int j=>D.int (far / 12+17*j) | d=>d) (ds:=xQ (40+far / 12 % 160).toNat) fun d hd=>by
    obtain ⟨i,hi,rfl⟩:=pA hd
    refine ⟨_,rfl,?_⟩
    unfold X0
    simp! [l17,add_int]
   have w1:(xQ (40+far / 12 % 160).toNat).map (fun d=>match d with | .int j=>D.int (far / 12+17*j) | d=>d)=((List.range (40+far / 12 % 160).toNat).map fun j:Nat=>far / 12+17*(j:Int)).map D.int:=by
    rw [List.map_map,List.map_map]
    rfl
   rw [w1] at l1
   refine ⟨(List.range (40+far / 12 % 160).toNat).map fun j:Nat=>far / 12+17*(j:Int),?_,fun yN=>?_⟩
   rotate_left
   ·rw [xT (σ':=[some (false,s),some (false,.int first),some (false,.int far),some (false,.lst ((xo ns (some (first+1)) (some (first+31))).map D.int)),none,none,none,none]) (by
     generalize (xo ns (some (first+1)) (some (first+31))).map D.int=CC at *
     simp! [sl])]
    rw [xT (σ':=[some (false,s),some (false,.int first),some (false,.int far),some (false,.lst (((List.range (40+far / 12 % 160).toNat).map fun j:Nat=>far / 12+17*(j:Int)).map D.int)),none,none,none,none]) (by
     generalize (xo ns (some (first+1)) (some (first+31))).map D.int=CC at *
     generalize List.map D.int (List.map (fun j:Nat=>far / 12+17*(j:Int)) (List.range (40+far / 12 % 160).toNat))=LL at *
     simp! [k5,rr,l1])]
   ·rw [List.length_map,List.length_range]
    omega
  ·have k5:=uS h5
   refine ⟨xo ns (some (first+1)) (some (first+31)),by omega,fun yN=>?_⟩
   ·rw [xT (σ':=[some (false,s),some (false,.int first),some (false,.int far),some (false,.lst ((xo ns (some (first+1)) (some (first+31))).map D.int)),none,none,none,none]) (by
     generalize (xo ns (some (first+1)) (some (first+31))).map D.int=CC at *
     simp! [sl])]
    rw [xT (σ':=[some (false,s),some (false,.int first),some (false,.int far),some (false,.lst ((xo ns (some (first+1)) (some (first+31))).map D.int)),none,none,none,none]) (by
     generalize (xo ns (some (first+1)) (some (first+31))).map D.int=CC at *
     simp! [k5])]
 obtain ⟨cs,lcs,ecs⟩:=cells
 have many:∃ m:Int,0<=m/\m<=40/\∀ (CC:D) (yN:FS),zG (ze 5 (e2 zM (yn (fun _=>some (List.map D.int [0,1,2,3,4,6,8,20]))) (zS xE (z8 (z6 2) (z8 (eC (.int 1)) (z8 (eC (.int 8)) zC))))))
  (zG (zl (tE (e2 zQ (e2 wt (z6 2) (eC (.int 24))) (eC (.int 5))))
   (ze 5 (eC (.int 40)))
   zn) yN) [some (false,s),some (false,.int first),some (false,.int far),some (false,CC),none,none,none,none]=yN [some (false,s),some (false,.int first),some (false,.int far),some (false,CC),none,some (false,.int m),none,none]:=by
  by_cases h5:far % 24=5
  ·have k5:=uR h5
   refine ⟨40,by decide,by decide,fun CC yN=>?_⟩
   rw [xT (σ':=[some (false,s),some (false,.int first),some (false,.int far),some (false,CC),none,some (false,.int mn),none,none]) (by
    generalize List.map D.int [0,1,2,3,4,6,8,20]=PS at *
    simp! [b1,emn])]
   rw [xT (σ':=[some (false,s),some (false,.int first),some (false,.int far),some (false,CC),none,some (false,.int 40),none,none]) (by simp! [k5])]
  ·have k5:=uS h5
   refine ⟨mn,mn0,mn1,fun CC yN=>?_⟩
   rw [xT (σ':=[some (false,s),some (false,.int first),some (false,.int far),some (false,CC),none,some (false,.int mn),none,none]) (by
    generalize List.map D.int [0,1,2,3,4,6,8,20]=PS at *
    simp! [b1,emn])]
   rw [xT (σ':=[some (false,s),some (false,.int first),some (false,.int far),some (false,CC),none,some (false,.int mn),none,none]) (by simp! [k5])]
 obtain ⟨m,m0,m1,em⟩:=many
 obtain ⟨N,nl,hN,en⟩:=Mp (far / 3) m0 m1
 obtain ⟨I0,e1,ea⟩:=WN (g:=za 8) (e:=Vo) (σ:=[some (false,s),some (false,.int first),some (false,.int far),some (false,.lst (cs.map D.int)),none,some (false,.int m),some (false,.lst (N.map D.str)),none,none]) (fun _ y=>um N y) (ds:=cs.map D.int) fun d hd=>by
  obtain ⟨c,_,rfl⟩:=List.mem_map.mp hd
  obtain ⟨r,hr,er⟩:=CU N c
  exact ⟨_,r,rfl,by unfold Vo; simp! [er],hr⟩
 have li:I0.length=cs.length:=by rw [<- jq ea,List.length_map]
 have p0:∀ b∈I0,um N b:=fun b hb=>by
  obtain ⟨_,_,h⟩:=Uo ea b hb
  exact h
 have rr:J8 [some (false,s),some (false,.int first),some (false,.int far),some (false,.lst (cs.map D.int)),none,some (false,.int m),some (false,.lst (N.map D.str)),some (true,.lst I0)]=some (xQ N.length):=by
  have:=qJ (f:=eL ye (z8 (z6 6) zC)) (τ:=[some (false,s),some (false,.int first),some (false,.int far),some (false,.lst (cs.map D.int)),none,some (false,.int m),some (false,.lst (N.map D.str)),some (true,.lst I0)]) (n:=((N.map D.str).length:Int)) rfl (by rw [List.length_map]; omega)
  rw [List.length_map,Int.toNat_natCast] at this
  exact this
 obtain ⟨σ',e3,J,x4,jl,jI,jP,rfl⟩:=qF (g:=za 4) (b:=WJ) (fun i σ=>∃ J x4,J.length=cs.length+i/\(∀ d∈J,qd N d)/\(J.filter zd).Perm ((N.take i).map yJ)/\σ=[some (false,s),some (false,.int first),some (false,.int far),some (false,.lst (cs.map D.int)),x4,some (false,.int m),some (false,.lst (N.map D.str)),some (true,.lst J)]) (ds:=xQ N.length)
  (σ:=[some (false,s),some (false,.int first),some (false,.int far),some (false,.lst (cs.map D.int)),none,some (false,.int m),some (false,.lst (N.map D.str)),some (true,.lst I0)]) 0 ⟨I0,none,li,(fun d hd=>.inl (p0 d hd)),by
   rw [List.filter_eq_nil_iff.mpr fun b hb=>by rw [(JF (p0 b hb)).2]; decide]
   exact List.Perm.refl _,rfl⟩ (by
  rintro i v σ hv ⟨J,x4,jl,jI,jP,rfl⟩
  obtain ⟨hi,rfl⟩:=VZ hv
  rw [Nat.zero_add] at *
  obtain ⟨a,a0,a1⟩:=wY (far+(i:Int) / 5) (i:Int) ((J.length:Int)+1) (by omega)
  generalize xm (far+(i:Int) / 5) (i:Int) ((J.length:Int)+1)=v at *
  have ix:zM (.lst (N.map D.str)) (.int (i:Int))=some (.str N[i]):=pQ (by omega) (by rw [Int.toNat_natCast,List.getElem?_map,List.getElem?_eq_getElem hi]; rfl)
  have cc:0<=v/\v<4611686018427387904/\J.length<yO:=⟨a0,by omega,by show _<16777216; omega⟩
  refine ⟨_,[some (false,s),some (false,.int first),some (false,.int far),some (false,.lst (cs.map D.int)),some (false,.int (i:Int)),some (false,.int m),some (false,.lst (N.map D.str)),some (true,.lst (qq J v (yJ N[i])))],rfl,.inl ?_,_,_,?_,?_,?_,rfl⟩
  ·unfold WJ yJ
   generalize N.map D.str=NN at *
   simp! [Yj,add_int,a,ix]
   exact if_pos cc
  ·unfold qq
   rw [List.length_append,List.length_append,List.length_take,List.length_drop,List.length_singleton]
   omega
  ·intro b hb
   unfold qq at hb
   rcases List.mem_append.mp hb with hb | hb
   ·rcases List.mem_append.mp hb with hb | hb
    ·exact jI b (List.mem_of_mem_take hb)
    ·cases List.mem_singleton.mp hb
     exact .inr ⟨_,List.getElem_mem hi,rfl⟩
   ·exact jI b (List.mem_of_mem_drop hb)
  ·unfold qq
   refine (Ou zd J v.toNat _ rfl).trans ?_
   rw [List.take_succ_eq_append_getElem hi,List.map_append]
   exact jP.append_right _)
 rw [Va,Nat.zero_add] at jl jP
 rw [List.take_length] at jP
 refine ⟨N,J,⟨hN,jI,jP,by omega,by omega⟩,?_⟩
 rw [<- hs] at hc ⊢
 rw [LH]
 unfold ZV
 show ((zG _ _ [some (false,s),some (false,.int first),none,none,none,none,none,none]).bind _)=_
 rw [xT (σ':=[some (false,s),some (false,.int first),some (false,.int far),none,none,none,none,none]) (by simp! [hc]),ecs,em]
 rw [xT (σ':=[some (false,s),some (false,.int first),some (false,.int far),some (false,.lst (cs.map D.int)),none,some (false,.int m),some (false,.lst (N.map D.str)),none]) (by
  generalize cs.map D.int=CC at *
  generalize N.map D.str=NN at *
  simp! [en])]
 rw [xT (σ':=[some (false,s),some (false,.int first),some (false,.int far),some (false,.lst (cs.map D.int)),none,some (false,.int m),some (false,.lst (N.map D.str)),some (true,.lst I0)]) (by
  generalize cs.map D.int=CC at *
  generalize N.map D.str=NN at *
  simp! [e1])]
 generalize cs.map D.int=CC at *
 generalize N.map D.str=NN at *
 simp! [rr,e3]
end L3
namespace L3
open PySem
noncomputable def tf:FS:=
 (zk (e2 zQ (e2 zM (z6 0) (eC (.int 0))) (eC (.str "label"))))
noncomputable def w8:List D->Option (Bool×D):=FR 1 1 tf
theorem Ci:∀ ds r,w8 ds=some r->ds.length=1/\zZ 1 tf ds=some r:=yZ
theorem g6 (x0:D):w8 [x0]=zZ 1 tf [x0]:=rfl
noncomputable def IL:FE:=(z6 1)
noncomputable def Vx:FT:=(v3 (tE (zS w8 (z8 (z6 1) zC))))
noncomputable def Zf:FS:=
 (vo (yT 1 (xl (z6 0)) (za 1) Vx IL))
noncomputable def wV:List D->Option (Bool×D):=FR 1 1 Zf
theorem EB:∀ ds r,wV ds=some r->ds.length=1/\zZ 1 Zf ds=some r:=yZ
theorem LS (x0:D):wV [x0]=zZ 1 Zf [x0]:=rfl
theorem pq {d:D} (h:yQ d):w8 [d]=some (false,.bl (zd d)):=by
 obtain ⟨w,a,b,_⟩:=Ta h
 rw [g6]
 unfold tf
 simp! [a,b]
theorem Yi {items:List D} (h:∀ d∈items,yQ d):wV [.lst items]=some (true,.lst (items.filter fun d=>!zd d)):=by
 have e:=uV (g:=za 1) (c:=Vx) (e:=IL) (σ:=[some (false,.lst items),none]) (fun d=>!zd d) id (ds:=items) fun d hd=>by
  have hf:=pq (h d hd)
  refine ⟨_,rfl,?_,fun _=>rfl⟩
  unfold Vx
  simp! [hf]
 rw [List.map_id] at e
 rw [LS]
 unfold Zf
 simp! [e]
end L3
namespace L3
open PySem
noncomputable def jj:FS:=
 (zk (e2 xK (e2 zM (z6 0) (eC (.int 0))) (eC gA)))
noncomputable def vJ:List D->Option (Bool×D):=FR 1 1 jj
theorem Ch:∀ ds r,vJ ds=some r->ds.length=1/\zZ 1 jj ds=some r:=yZ
theorem T6 (x0:D):vJ [x0]=zZ 1 jj [x0]:=rfl
noncomputable def YB:FS:=(zl (tE (zS w8 (z8 (z6 3) zC)))
     (p5 1 (e2 zM (z6 3) (eC (.int 1))) (z6 2))
     (ze 2 (e2 (Xn fun i j=>i+j) (z6 2) (eC (.int 1)))))
noncomputable def ZP:FS:=
 (zG (uc 1 (eC (.dic [] [])))
  (zG (ze 2 (eC (.int 0)))
  (zG (tH (xl (z6 0)) (za 3)
   YB)
  (qK 1))))
noncomputable def vy:List D->Option (Bool×D):=FR 1 4 ZP
theorem Co:∀ ds r,vy ds=some r->ds.length=1/\zZ 4 ZP ds=some r:=yZ
theorem LB (x0:D):vy [x0]=zZ 4 ZP [x0]:=rfl
theorem WA {d:D} (h:yQ d):vJ [d]=some (false,.bl (yY d)):=by
 have:∃ w,zM d (.int 0)=some (.str w)/\xK (.str w) gA=some (.bl (yY d)):=by
  cases h with
  | label=>exact ⟨_,rfl,rfl⟩
  | plain h=>
   obtain ⟨w,a,b,_,c,_⟩:=qy h
   exact ⟨w,a,by rw [c]; exact b⟩
  | jump=>exact ⟨_,rfl,rfl⟩
  | cond t hw hk=>rcases hw with rfl | rfl<;>exact ⟨_,rfl,rfl⟩
 obtain ⟨w,a,b⟩:=this
 rw [T6]
 unfold jj
 simp! [a,b]
theorem py {d:D} (h:yQ d) (hl:zd d=true):∃ t,d=yJ t:=by
 cases h with
 | label t=>exact ⟨t,rfl⟩
 | plain h=>
  obtain ⟨_,_,_,z,_⟩:=Yf (m:=0) (.inl h)
  rw [z] at hl
  cases hl
 | jump=>cases hl
 | cond t hw hk=>rcases hw with rfl | rfl<;>cases hl
theorem WM {items:List D} (h:∀ d∈items,yQ d) (hl:items.length<=1000):∃ ks vs,vy [.lst items]=some (true,.dic ks vs)/\ks.length=vs.length/\∀ t,getK ks vs (.inr t)=((xO t items).2).map fun n:Nat=>D.int n:=by
 obtain ⟨σ',e,ks,vs,x3,a1,a2,a3,rfl⟩:=qF (g:=za 3) (b:=YB) (fun i σ=>∃ ks vs x3,ks.length=vs.length/\ks.length<=i/\(∀ t,getK ks vs (.inr t)=((xO t (items.take i)).2).map fun n:Nat=>D.int n)/\σ=[some (false,.lst items),some (true,.dic ks vs),some (false,.int (((items.take i).filter fun d=>!zd d).length:Nat)),x3]) (ds:=items)
  (σ:=[some (false,.lst items),some (true,.dic [] []),some (false,.int 0),none]) 0 ⟨[],[],none,rfl,Nat.le_refl _,fun t=>rfl,rfl⟩ (by
  rintro i v σ hv ⟨ks,vs,x3,a1,a2,a3,rfl⟩
  rw [Nat.zero_add] at *
  have hi:i<items.length:=(List.getElem?_eq_some_iff.mp hv).1
  have ev:items[i]=v:=(List.getElem?_eq_some_iff.mp hv).2
  have ht:items.take (i+1)=items.take i++[v]:=by rw [List.take_succ_eq_append_getElem hi,ev]
  have hI:=h v (List.mem_of_getElem? hv)
  have hf:=pq hI
  generalize hn:((items.take i).filter fun d=>!zd d).length=n
  cases hL:zd v with
  | true=>
   obtain ⟨u,rfl⟩:=py hI hL
   rw [hL] at hf
   have i1:zM (yJ u) (.int 1)=some (.str u):=rfl
   have kd:vT (.str u)=some (.inr u):=rfl
   have hlim:ks.length<yO:=by show _<16777216; omega
   have hn2:((items.take (i+1)).filter fun d=>!zd d).length=n:=by
    rw [ht,List.filter_append,List.length_append,hn]
    rfl
   have hlk:(xZ ks (.inr u)).length<=i+1:=by
    unfold xZ
    split
    ·omega
    ·rw [List.length_append]; show _+1<=_; omega
   refine ⟨_,[some (false,.lst items),some (true,.dic (xZ ks (.inr u)) (xf ks vs (.inr u) (.int (n:Nat)))),some (false,.int (n:Nat)),some (false,yJ u)],rfl,.inl ?_,xZ ks (.inr u),xf ks vs (.inr u) (.int (n:Nat)),_,qH a1,hlk,fun t=>?_,by rw [hn2]⟩
   ·unfold YB
    simp! [hf,p5,i1,kd,if_pos hlim]
   ·rw [T5 a1,ht,Wq,hn,a3]
    by_cases e:u=t
    ·rw [if_pos (by rw [e]),if_pos e]
     rfl
    ·rw [if_neg (fun z=>e (Sum.inr.inj z)),if_neg e]
  | false=>
   rw [hL] at hf
   have hn2:((items.take (i+1)).filter fun d=>!zd d).length=n+1:=by
    rw [ht,List.filter_append,List.length_append,hn,List.filter_cons_of_pos (by rw [hL]; rfl)]
    rfl
   refine ⟨_,[some (false,.lst items),some (true,.dic ks vs),some (false,.int ((n:Nat)+1:Int)),some (false,v)],rfl,.inl ?_,ks,vs,_,a1,by omega,fun t=>?_,by rw [hn2]; rfl⟩
   ·unfold YB
    simp! [hf]
   ·rw [ht,Ws hL,a3])
 rw [Nat.zero_add,List.take_length] at a3
 refine ⟨ks,vs,?_,a1,a3⟩
 rw [LB]
 unfold ZP
 simp! [e]
theorem MP {items:List D} (h:∀ d∈items,yQ d) (hl:items.length<=1000):∃ ks vs,vy [.lst items]=some (true,.dic ks vs)/\∀ t,getK ks vs (.inr t)=((xO t items).2).map fun n:Nat=>D.int n:=by
 obtain ⟨ks,vs,a,_,b⟩:=WM h hl
 exact ⟨ks,vs,a,b⟩
end L3
namespace L3
open PySem
noncomputable def xN (qs:List Nat):List D:=qs.map fun i:Nat=>D.int i
theorem MA:∀ qs:List Nat,t5 (qs.map fun i:Nat=>D.tup [.int i,.bl true])=some (qs.map fun i:Nat=>Sum.inl (i:Int),qs.map fun _=>D.bl true)
 | []=>rfl
 | a::qs=>by
  show (vT (.int (a:Int))).bind _=_
  show (t5 (qs.map fun i:Nat=>D.tup [.int i,.bl true])).bind _=_
  rw [MA qs]
  rfl
theorem TC (n:Nat):∀ qs:List Nat,z_ (qs.map fun i:Nat=>Sum.inl (i:Int)) (.inl (n:Int))=decide (n∈qs)
 | []=>rfl
 | a::qs=>by
  show (decide ((Sum.inl (a:Int):Sum Int Str)=.inl (n:Int))||z_ (qs.map fun i:Nat=>Sum.inl (i:Int)) (.inl (n:Int)))=_
  rw [TC n qs]
  by_cases h:a=n
  ·subst h
   rw [decide_eq_true (p:=(Sum.inl (a:Int):Sum Int Str)=.inl (a:Int)) rfl,decide_eq_true (List.mem_cons_self ..)]
   rfl
  ·rw [decide_eq_false (p:=(Sum.inl (a:Int):Sum Int Str)=.inl (n:Int)) (fun e=>h (by have:=Sum.inl.inj e; omega)),Bool.false_or]
   refine decide_eq_decide.mpr ⟨fun z=>List.mem_cons_of_mem _ z,fun z=>?_⟩
   rcases List.mem_cons.mp z with z | z
   ·exact absurd z.symm h
   ·exact z
end L3
namespace L3
open PySem
noncomputable def Vr:FE:=(tz (tE (zS vJ (z8 (z6 2) zC))) (e2 zM (z6 1) (e2 zM (z6 2) (e1 t_ (eC (.int 1))))) (eC .non))
noncomputable def Zh:FS:=
 (zG (ze 1 (zS vy (z8 (z6 0) zC)))
  (vo (yT 1 (xl (zS wV (z8 (z6 0) zC))) (za 2) yF Vr)))
noncomputable def qb:List D->Option (Bool×D):=FR 1 2 Zh
theorem ED:∀ ds r,qb ds=some r->ds.length=1/\zZ 2 Zh ds=some r:=yZ
theorem LU (x0:D):qb [x0]=zZ 2 Zh [x0]:=rfl
structure PQ (items:List D):Prop where
 it:∀ d∈items,yQ d
 tg:∀ d∈items,yY d=true->∃ (t:Str) (p:Nat),zM d (.int (-1))=some (.str t)/\(xO t items).2=some p
 ln:items.length<=900
noncomputable def wd:D->Str
 | .tup (.str w::_)=>w
 | _ => ""
noncomputable def jA (r:D):Str:=match MR r with
 | .str t=>t
 | _ => ""
noncomputable def yy (items:List D) (r:D):Option Nat:=match yY r with
 | true=>(xO (jA r) items).2
 | false=>none
noncomputable def yl:Option Nat->D
 | none=>.non
 | some p=>.int (p:Int)
noncomputable def zD (items:List D):List D:=items.filter fun d=>!zd d
theorem Tq {g:FG} {e:FE} {σ:zp} (v:Nat->D):∀ {ds:List D} (k:Nat),(∀ i d,ds[i]?=some d->∃ σ1,g d σ=some σ1/\e σ1=some (v (k+i)))->yr g yF e σ ds=some ((List.range' k ds.length).map v)
 | [],_,_=>rfl
 | d::ds,k,h=>by
  obtain ⟨σ1,e1,e2⟩:=h 0 d rfl
  have ih:=Tq v (ds:=ds) (k+1) fun i d' hd=>by
   rw [show k+1+i=k+(i+1) by omega]
   exact h (i+1) d' (by simpa using hd)
  show (g d σ).bind _=_
  rw [e1]
  show (e σ1).bind _=_
  rw [e2]
  show (yr g yF e σ ds).bind _=_
  rw [ih]
  rfl
theorem pz {r:D} {t:Str} (h:yQ r) (hj:yY r=true) (e:zM r (.int (-1))=some (.str t)):jA r=t:=by
 cases h with
 | label u=>cases hj
 | plain h=>
  obtain ⟨_,_,_,_,z,_⟩:=qy h
  rw [z] at hj
  cases hj
 | jump u=>cases e; rfl
 | cond u hw hk=>cases e; rfl
theorem Yv {items:List D} (P:PQ items) {r:D} (hr:r∈items):(yy items r).isSome=yY r/\∀ t,yY r=true->zM r (.int (-1))=some (.str t)->jA r=t:=by
 have hi:=P.it r hr
 refine ⟨?_,fun t hj e=>pz hi hj e⟩
 unfold yy
 cases hj:yY r with
 | false=>rfl
 | true=>
  obtain ⟨t,p,e1,e2⟩:=P.tg r hr hj
  rw [pz hi hj e1,e2]
  rfl
theorem Gw {items:List D} (P:PQ items):qb [.lst items]=some (true,.lst ((zD items).map fun r=>yl (yy items r))):=by
 obtain ⟨ks,vs,e1,hk⟩:=MP P.it (by have:=P.ln; omega)
 have e2:wV [.lst items]=some (true,.lst (zD items)):=Yi P.it
 have e3:=vU (g:=za 2) (e:=Vr) (σ:=[some (false,.lst items),some (false,.dic ks vs),none]) (fun r=>yl (yy items r)) (ds:=zD items) fun r hr=>by
  have hm:r∈items:=(List.mem_filter.mp hr).1
  have hj:=WA (P.it r hm)
  refine ⟨_,rfl,?_⟩
  unfold Vr yy
  cases z:yY r with
  | true=>
   rw [z] at hj
   obtain ⟨t,p,b1,b2⟩:=P.tg r hm z
   have eg:zM (.dic ks vs) (.str t)=some (.int (p:Int)):=by
    show getK ks vs (.inr t)=_
    rw [hk,b2]
    rfl
   rw [pz (P.it r hm) z b1,b2]
   unfold yl
   simp! [hj,b1,eg]
  | false=>
   rw [z] at hj
   unfold yl
   simp! [hj]
 rw [LU]
 unfold Zh
 simp! [e1,e2,e3]
theorem Qh (t:Str):∀ (L:List D) (s:Nat×Option Nat),(∀ p,s.2=some p->p<=s.1)->∀ p,(L.foldl (uC t) s).2=some p->p<=(L.foldl (uC t) s).1
 | [],s,h=>h
 | d::L,s,h=>by
  rw [List.foldl_cons]
  refine Qh t L _ fun p hp=>?_
  unfold uC at hp ⊢
  cases hl:zd d with
  | true=>
   rw [hl] at hp
   dsimp only at hp ⊢
   cases hn:YJ t d with
   | true=>
    rw [hn] at hp
    cases hp
    exact Nat.le_refl _
   | false=>
    rw [hn] at hp
    exact h p hp
  | false=>
   rw [hl] at hp
   exact Nat.le_succ_of_le (h p hp)
theorem Ms (T:List Nat):(xN T).length=T.length:=by unfold xN; rw [List.length_map]
noncomputable def xg (items:List D) (i:Nat):D:=(zD items).getD i .non
theorem Yg {items:List D} {i:Nat} (h:i<(zD items).length):(zD items)[i]?=some (xg items i):=by
 unfold xg
 rw [List.getD_eq_getElem?_getD,List.getElem?_eq_getElem h]
 rfl
theorem CW {items:List D} (P:PQ items) {i:Nat} (h:i<(zD items).length):yQ (xg items i)/\zd (xg items i)=false:=by
 have:=List.mem_filter.mp (List.mem_of_getElem? (Yg h))
 exact ⟨P.it _ this.1,by simpa using this.2⟩
noncomputable def pN (n:Nat) (p:Nat->Bool):List Nat:=(List.range n).filter p
theorem YS {n:Nat} {p:Nat->Bool} {i:Nat}:i∈pN n p↔i<n/\p i=true:=by
 unfold pN
 rw [List.mem_filter,List.mem_range]
theorem Wf:∀ (ns acc:List Int),acc.Nodup->(ns.foldl uq acc).Nodup/\∀ x,x∈ns.foldl uq acc↔x∈acc\/x∈ns
 | [],acc,h=>⟨h,fun x=>⟨.inl,fun z=>z.elim id fun z=>by cases z⟩⟩
 | n::ns,acc,h=>by
  rw [List.foldl_cons]
  by_cases c:(acc.any fun m=>decide (m=n))=true
  ·have e:uq acc n=acc:=if_pos c
   rw [e]
   obtain ⟨a,b⟩:=Wf ns acc h
   refine ⟨a,fun x=>(b x).trans ⟨fun z=>z.imp id (List.mem_cons_of_mem _),fun z=>z.elim .inl fun z=>?_⟩⟩
   rcases List.mem_cons.mp z with rfl | z
   ·obtain ⟨m,hm,e⟩:=List.any_eq_true.mp c
    exact .inl (of_decide_eq_true e ▸ hm)
   ·exact .inr z
  ·have e:uq acc n=acc++[n]:=if_neg c
   rw [e]
   have hn:n ∉ acc:=fun z=>c (List.any_eq_true.mpr ⟨n,z,decide_eq_true rfl⟩)
   obtain ⟨a,b⟩:=Wf ns (acc++[n]) (List.nodup_append.mpr ⟨h,List.nodup_cons.mpr ⟨List.not_mem_nil,List.nodup_nil⟩,fun x hx y hy z=>hn (by cases List.mem_singleton.mp hy; exact z ▸ hx)⟩)
   refine ⟨a,fun x=>(b x).trans ?_⟩
   rw [List.mem_append,List.mem_singleton,List.mem_cons]
   exact ⟨fun z=>z.elim (fun z=>z.elim .inl fun z=>.inr (.inl z)) fun z=>.inr (.inr z),fun z=>z.elim (fun z=>.inl (.inl z)) fun z=>z.elim (fun z=>.inl (.inr z)) .inr⟩
theorem Tw:∀ {a b:List Int},a.Pairwise (·<·)->b.Pairwise (·<·)->(∀ x,x∈a↔x∈b)->a=b
 | [],[],_,_,_=>rfl
 | [],y::b,_,_,h=>by have:=(h y).mpr List.mem_cons_self; cases this
 | x::a,[],_,_,h=>by have:=(h x).mp List.mem_cons_self; cases this
 | x::a,y::b,ha,hb,h=>by
  rw [List.pairwise_cons] at ha hb
  have e:x=y:=by
   rcases List.mem_cons.mp ((h x).mp List.mem_cons_self) with z | z
   ·exact z
   ·rcases List.mem_cons.mp ((h y).mpr List.mem_cons_self) with w | w
    ·exact w.symm
    ·have:=hb.1 x z
     have:=ha.1 y w
     omega
  subst e
  rw [Tw ha.2 hb.2 fun z=>⟨fun hz=>by
   rcases List.mem_cons.mp ((h z).mp (List.mem_cons_of_mem _ hz)) with w | w
   ·have:=ha.1 z hz; omega
   ·exact w,fun hz=>by
   rcases List.mem_cons.mp ((h z).mpr (List.mem_cons_of_mem _ hz)) with w | w
   ·have:=hb.1 z hz; omega
   ·exact w⟩]
theorem DR (n:Nat) (p:Nat->Bool):((pN n p).map fun i:Nat=>(i:Int)).Pairwise (·<·):=by
 rw [List.pairwise_map]
 unfold pN
 exact List.Pairwise.filter _ (List.pairwise_lt_range.imp fun h=>by omega)
theorem Jg {n:Nat} {l:List Nat} (hl:l.length<1000) {p:Nat->Bool} (hn:(pN n p).length<64) (h:∀ i,i∈l↔i<n/\p i=true):pd [.lst (xN l)]=some (.lst (xN (pN n p))):=by
 have e0:intsOf (xN l)=some (l.map fun i:Nat=>(i:Int)):=by
  have:=TV (l.map fun i:Nat=>(i:Int))
  rw [List.map_map] at this
  exact this
 obtain ⟨nd,mem⟩:=Wf (l.map fun i:Nat=>(i:Int)) [] List.nodup_nil
 have pm:=L2.isort_perm (vX (l.map fun i:Nat=>(i:Int)))
 have s0:(L2.isort (vX (l.map fun i:Nat=>(i:Int)))).Pairwise (·<·):=by
  have n1:(L2.isort (vX (l.map fun i:Nat=>(i:Int)))).Nodup:=pm.nodup_iff.mpr nd
  exact (L2.isort_sorted (vX (l.map fun i:Nat=>(i:Int)))).imp₂ (fun a b h1 h2=>by have:a≠b:=h2; omega) n1
 have eq:L2.isort (vX (l.map fun i:Nat=>(i:Int)))=(pN n p).map fun i:Nat=>(i:Int):=Tw s0 (DR n p) fun x=>by
  rw [pm.mem_iff,show x∈vX (l.map fun i:Nat=>(i:Int))↔x∈([]:List Int)\/x∈l.map (fun i:Nat=>(i:Int)) from mem x]
  constructor
  ·rintro (z | z)
   ·cases z
   ·obtain ⟨i,hi,rfl⟩:=List.mem_map.mp z
    exact List.mem_map.mpr ⟨i,YS.mpr ((h i).mp hi),rfl⟩
  ·intro z
   obtain ⟨i,hi,rfl⟩:=List.mem_map.mp z
   exact .inr (List.mem_map.mpr ⟨i,(h i).mpr (YS.mp hi),rfl⟩)
 have len:(vX (l.map fun i:Nat=>(i:Int))).length<64:=by
  rw [<- pm.length_eq,eq,List.length_map]
  exact hn
 show (intsOf (xN l)).bind _=_
 rw [e0]
 show (if (l.map fun i:Nat=>(i:Int)).length<1000/\(vX (l.map fun i:Nat=>(i:Int))).length<64 then some (D.lst ((L2.isort (vX (l.map fun i:Nat=>(i:Int)))).map D.int)) else none)=_
 rw [if_pos ⟨by rw [List.length_map]; exact hl,len⟩,eq,List.map_map]
 rfl
end L3
namespace L3
open PySem
noncomputable def T_:D->Option Str
 | .tup [_,.str t]=>some t
 | _=>none
noncomputable def CS (g:Str->Str):D->D
 | .tup [a,.str t]=>.tup [a,.str (g t)]
 | .tup [a,b,.str t]=>.tup [a,b,.str (g t)]
 | d=>d
theorem Tf {d:D} (h:yQ d) (hj:yY d=true):∃ (hd:List D) (t:Str),d=.tup (hd++[.str t])/\hd≠[]/\hd.length<=2/\(∀ g,CS g d=.tup (hd++[.str (g t)]))/\(∀ u,yQ (.tup (hd++[.str u]))/\yY (.tup (hd++[.str u]))=true/\zd (.tup (hd++[.str u]))=false)/\(∀ u,T_ (.tup (hd++[.str u]))=(T_ d).map fun _=>u):=by
 cases h with
 | label u=>cases hj
 | plain h=>
  obtain ⟨_,_,_,_,c,_⟩:=qy h
  rw [c] at hj
  cases hj
 | jump t=>exact ⟨[.str "jump"],t,rfl,by simp,by simp,fun _=>rfl,fun u=>⟨.jump u,rfl,rfl⟩,fun _=>rfl⟩
 | cond t hw hk=>
  rename_i w k
  exact ⟨[.str w,.str k],t,rfl,by simp,by simp,fun _=>rfl,fun u=>⟨.cond u hw hk,by rcases hw with rfl | rfl<;>rfl,by rcases hw with rfl | rfl<;>rfl⟩,fun _=>rfl⟩
theorem Y9 {hd:List D} {t u:Str} (h1:hd≠[]) (h2:hd.length<=2):vE (.tup (hd++[.str t])) none (some (-1))=some (.tup hd)/\zM (.tup (hd++[.str t])) (.int (-1))=some (.str t)/\zy (.tup hd) (.tup [.str u])=some (.tup (hd++[.str u])):=by
 match hd,h1,h2 with
 | [a],_,_=>exact ⟨rfl,rfl,rfl⟩
 | [a,b],_,_=>exact ⟨rfl,rfl,rfl⟩
 | [],h,_=>exact absurd rfl h
 | _::_::_::_,_,h=>simp at h
end L3
namespace L3
open PySem
noncomputable def qw:FS:=(zG (ze 1 (e2 zy (e2 zM (eC (.str "abcdefghijklmnopqrstuvwxyz")) (e2 wt (e2 jv (z6 2) (eC (.int 1))) (eL ye (z8 (eC (.str "abcdefghijklmnopqrstuvwxyz")) zC)))) (z6 1)))
    (ze 2 (e2 ql (e2 jv (z6 2) (eC (.int 1))) (eL ye (z8 (eC (.str "abcdefghijklmnopqrstuvwxyz")) zC)))))
noncomputable def qi:FT:=(tE (e2 (u4 fun i j=>decide (j<i)) (z6 2) (eC (.int 0))))
noncomputable def ZZ:FS:=
 (zG (ze 1 (eC (.str "")))
  (zG (ze 2 (e2 zy (z6 0) (eC (.int 1))))
  (zG (Yk qi
   qw)
  (zk (z6 1)))))
noncomputable def qX:List D->Option (Bool×D):=FR 1 3 ZZ
theorem E4:∀ ds r,qX ds=some r->ds.length=1/\zZ 3 ZZ ds=some r:=yZ
theorem LM (x0:D):qX [x0]=zZ 3 ZZ [x0]:=rfl
noncomputable def nm (n:Nat):Str:=if n<26 then lt (n:Int) ++ "" else lt (((n:Int) - 26) / 26)++(lt (((n:Int) - 26) % 26) ++ "")
theorem B2 {n left:Int} {acc:Str} (hl:acc.length<=100):qw [some (false,.int n),some (false,.str acc),some (false,.int left)]=some (.nx [some (false,.int n),some (false,.str (lt ((left - 1) % 26)++acc)),some (false,.int ((left - 1) / 26))]):=by
 have hi:=U6 (k:=(left - 1) % 26) (by omega) (by omega)
 have ha:=add_str (a:=lt ((left - 1) % 26)) (b:=acc) (by rw [j9]; omega)
 unfold qw
 simp! [Ih,hi,ha]
theorem QD {n left:Int} {acc:Str}:qi [some (false,.int n),some (false,.str acc),some (false,.int left)]=some (decide (0<left)):=by
 unfold qi
 simp! []
theorem WZ {n left:Int} {acc:Str} {k:Nat} (h:0<left) (hl:acc.length<=100):v6 qi qw (k+1) [some (false,D.int n),some (false,.str acc),some (false,.int left)] =
  v6 qi qw k [some (false,.int n),some (false,.str (lt ((left - 1) % 26)++acc)),some (false,.int ((left - 1) / 26))]:=HR (QD.trans (by rw [decide_eq_true h])) (B2 hl)
theorem QC {n left:Int} {acc:Str} {k:Nat} (h:¬ 0<left):v6 qi qw (k+1) [some (false,D.int n),some (false,.str acc),some (false,.int left)]=some (.nx [some (false,D.int n),some (false,.str acc),some (false,.int left)]):=
 HQ (QD.trans (by rw [decide_eq_false h]))
theorem B1 {n:Nat} (h:n<702):qX [.int (n:Int)]=some (false,.str (nm n)):=by
 have fin:∀ {s:Str} {left:Int},Yk qi qw [some (false,.int (n:Int)),some (false,.str ""),some (false,.int ((n:Int)+1))]=some (.nx [some (false,.int (n:Int)),some (false,.str s),some (false,.int left)])->qX [.int (n:Int)]=some (false,.str s):=fun {s left} h=>by
  rw [LM]
  unfold ZZ
  simp! [add_int,h]
 unfold nm
 split
 ·refine fin (left:=((n:Int)+1 - 1) / 26) (JI 2 ((WZ (by omega) (by decide)).trans ?_))
  rw [QC (by omega),show ((n:Int)+1 - 1) % 26=n by omega]
 ·refine fin (left:=(((n:Int)+1 - 1) / 26 - 1) / 26) (JI 3 ((WZ (by omega) (by decide)).trans ((WZ (by omega) (by rw [u9,j9]; decide)).trans ?_)))
  rw [QC (by omega),show ((n:Int)+1 - 1) % 26=((n:Int) - 26) % 26 by omega,show (((n:Int)+1 - 1) / 26 - 1) % 26=((n:Int) - 26) / 26 by omega]
end L3
namespace L3
open PySem
theorem Ti (v:Nat->D):∀ qs:List Nat,t5 (qs.map fun i:Nat=>D.tup [.int i,v i])=some (qs.map fun i:Nat=>Sum.inl (i:Int),qs.map v)
 | []=>rfl
 | a::qs=>by
  show (vT (.int (a:Int))).bind _=_
  show (t5 (qs.map fun i:Nat=>D.tup [.int i,v i])).bind _=_
  rw [Ti v qs]
  rfl
theorem T4 (v:Nat->D) (n:Nat):∀ (qs:List Nat) (as:List (Sum Int Str)) (ds:List D),as.length=ds.length->getK (yu as ds (qs.map fun i:Nat=>Sum.inl (i:Int)) (qs.map v)).1 (yu as ds (qs.map fun i:Nat=>Sum.inl (i:Int)) (qs.map v)).2 (.inl (n:Int))=if n∈qs then some (v n) else getK as ds (.inl (n:Int))
 | [],as,ds,_=>by rw [if_neg List.not_mem_nil]; unfold yu; rfl
 | a::qs,as,ds,h=>by
  show getK (yu (xZ as (.inl (a:Int))) (xf as ds (.inl (a:Int)) (v a)) (qs.map fun i:Nat=>Sum.inl (i:Int)) (qs.map v)).1 (yu (xZ as (.inl (a:Int))) (xf as ds (.inl (a:Int)) (v a)) (qs.map fun i:Nat=>Sum.inl (i:Int)) (qs.map v)).2 (.inl (n:Int))=_
  rw [T4 v n qs _ _ (qH h),T5 h]
  by_cases c:n∈qs
  ·rw [if_pos c,if_pos (List.mem_cons_of_mem _ c)]
  ·rw [if_neg c]
   by_cases e:a=n
   ·subst e
    rw [if_pos rfl,if_pos (List.mem_cons_self ..)]
   ·rw [if_neg (fun z=>e (by have:=Sum.inl.inj z; omega)),if_neg (fun z=>(List.mem_cons.mp z).elim (fun z=>e z.symm) c)]
theorem Od (v:Nat->D) (qs:List Nat):∃ K V,Zs [.lst (qs.map fun i:Nat=>D.tup [.int i,v i])]=some (.dic K V)/\(∀ n:Nat,z_ K (.inl (n:Int))=decide (n∈qs))/\∀ n∈qs,getK K V (.inl (n:Int))=some (v n):=by
 refine ⟨(yu [] [] (qs.map fun i:Nat=>Sum.inl (i:Int)) (qs.map v)).1,(yu [] [] (qs.map fun i:Nat=>Sum.inl (i:Int)) (qs.map v)).2,?_,fun n=>?_,fun n hn=>?_⟩
 ·show (t5 _).bind _=_
  rw [Ti]
  rfl
 ·rw [T9 (by simp),TC]
  rfl
 ·rw [T4 v n qs [] [] rfl,if_pos hn]
end L3
namespace L3
open PySem
noncomputable def IJ:FE:=(z6 2)
noncomputable def Vw:FT:=(tE (e2 qo (z6 2) (eC .non)))
noncomputable def X1:FE:=(vP (z8 (z6 3) (z8 (zS qX (z8 (z6 2) zC)) zC)))
noncomputable def Za:FS:=
 (zG (ze 1 (eL pd (z8 (yT 1 (xl (z6 0)) (za 2) Vw IJ) zC)))
  (vo (eL Zs (z8 (yT 2 (qB (z6 1)) (xG 2 3) yF X1) zC))))
noncomputable def pK:List D->Option (Bool×D):=FR 1 2 Za
theorem E5:∀ ds r,pK ds=some r->ds.length=1/\zZ 2 Za ds=some r:=yZ
theorem LN (x0:D):pK [x0]=zZ 2 Za [x0]:=rfl
noncomputable def YC:FS:=(zG (zl (tE (e2 xK (z6 4) (z6 2)))
     (ub 3 u3 (vP (z8 (eC (.str "label")) (z8 (e2 zM (z6 2) (z6 4)) zC))))
     zn)
    (ub 3 u3 (tz (tE (e2 pY (e2 zM (z6 1) (z6 4)) (eC .non))) (z6 5) (e2 zy (z6 5) (vP (z8 (e2 zM (z6 2) (e2 zM (z6 1) (z6 4))) zC))))))
noncomputable def ZQ:FS:=
 (zG (ze 2 (zS pK (z8 (z6 1) zC)))
  (zG (uc 3 (yn zC))
  (zG (tH (qB (z6 0)) (xG 4 5)
   YC)
  (zG (zl (tE (e2 xK (eL ye (z8 (z6 0) zC)) (z6 2)))
   (ub 3 u3 (vP (z8 (eC (.str "label")) (z8 (e2 zM (z6 2) (eL ye (z8 (z6 0) zC))) zC))))
   zn)
  (qK 3)))))
noncomputable def pF:List D->Option (Bool×D):=FR 2 6 ZQ
theorem Cp:∀ ds r,pF ds=some r->ds.length=2/\zZ 6 ZQ ds=some r:=yZ
theorem LC (x0 x1:D):pF [x0,x1]=zZ 6 ZQ [x0,x1]:=rfl
noncomputable def Vq:FE:=(tz (tE (zS vJ (z8 (z6 2) zC))) (xM (z6 2) xn (yt (e1 t_ (eC (.int 1))))) (z6 2))
noncomputable def Zd:FS:=
 (zG (ze 1 (yT 1 (xl (zS wV (z8 (z6 0) zC))) (za 2) yF Vq))
  (vo (Zo pF (z8 (z6 1) (z8 (zS qb (z8 (z6 0) zC)) zC)))))
noncomputable def pL:List D->Option (Bool×D):=FR 1 2 Zd
theorem E8:∀ ds r,pL ds=some r->ds.length=1/\zZ 2 Zd ds=some r:=yZ
theorem LQ (x0:D):pL [x0]=zZ 2 Zd [x0]:=rfl
noncomputable def xz (tgs:List (Option Nat)):List Nat:=tgs.filterMap id
noncomputable def zY (n:Nat) (tgs:List (Option Nat)):List Nat:=pN (n+1) fun i=>decide (i∈xz tgs)
theorem YW {n:Nat} {tgs:List (Option Nat)} (h:∀ p,some p∈tgs->p<=n) {p:Nat}:p∈zY n tgs↔some p∈tgs:=by
 unfold zY xz
 rw [YS,decide_eq_true_iff,List.mem_filterMap]
 constructor
 ·rintro ⟨_,a,ha,e⟩
  have e:a=some p:=e
  exact e ▸ ha
 ·exact fun z=>⟨Nat.lt_succ_of_le (h p z),some p,z,rfl⟩
noncomputable def yU (n:Nat) (tgs:List (Option Nat)) (p:Nat):Str:=nm ((zY n tgs).idxOf p)
theorem Wn (n:Nat) (tgs:List (Option Nat)):(zY n tgs).Nodup:=by
 unfold zY pN
 exact List.Nodup.sublist List.filter_sublist List.nodup_range
theorem Wl:∀ tgs:List (Option Nat),(tgs.map yl).filter (fun d=>!qC d)=xN (xz tgs)
 | []=>rfl
 | none::tgs=>by
  rw [List.map_cons,List.filter_cons_of_neg (by decide),Wl tgs]
  rfl
 | some p::tgs=>by
  rw [List.map_cons,List.filter_cons_of_pos (by rfl),Wl tgs]
  rfl
theorem Mr {n:Nat} {tgs:List (Option Nat)} (hn:(zY n tgs).length<=60) (hl:tgs.length<=900) (h:∀ p,some p∈tgs->p<=n) :
  ∃ K V,pK [.lst (tgs.map yl)]=some (true,.dic K V)/\(∀ p:Nat,z_ K (.inl (p:Int))=decide (p∈zY n tgs))/\∀ p∈zY n tgs,getK K V (.inl (p:Int))=some (.str (yU n tgs p)):=by
 have e1:=uV (g:=za 2) (c:=Vw) (e:=IJ) (σ:=[some (false,.lst (tgs.map yl)),none,none]) (fun d=>!qC d) id (ds:=tgs.map yl) fun d hd=>by
  refine ⟨_,rfl,?_,fun _=>rfl⟩
  unfold Vw
  simp! []
 rw [List.map_id,Wl] at e1
 have e2:=Jg (n:=n+1) (l:=xz tgs) (by
  have:(xz tgs).length<=tgs.length:=List.length_filterMap_le _ _
  omega) (p:=fun i=>decide (i∈xz tgs)) (show (zY n tgs).length<64 by omega) fun i=>by
  rw [decide_eq_true_iff]
  refine ⟨fun z=>⟨?_,z⟩,fun z=>z.2⟩
  obtain ⟨a,ha,e⟩:=List.mem_filterMap.mp z
  have e:a=some i:=e
  exact Nat.lt_succ_of_le (h i (e ▸ ha))
 have e2:pd [.lst (xN (xz tgs))]=some (.lst (xN (zY n tgs))):=e2
 obtain ⟨K,V,e4,hK,hV⟩:=Od (fun p=>.str (yU n tgs p)) (zY n tgs)
 have e3:yr (xG 2 3) yF X1 [some (false,.lst (tgs.map yl)),some (false,.lst (xN (zY n tgs))),none,none] (numbered (xN (zY n tgs)))=some ((zY n tgs).map fun p:Nat=>D.tup [.int p,.str (yU n tgs p)]):=by
  have:=Tq (g:=xG 2 3) (e:=X1) (σ:=[some (false,.lst (tgs.map yl)),some (false,.lst (xN (zY n tgs))),none,none]) (fun i=>match (zY n tgs)[i]? with | some p=>D.tup [.int p,.str (yU n tgs p)] | none=>.non) (ds:=numbered (xN (zY n tgs))) 0 fun i d hd=>by
   rw [YL] at hd
   unfold xN at hd
   rw [List.getElem?_map] at hd
   cases hp:(zY n tgs)[i]? with
   | none=>rw [hp] at hd; cases hd
   | some p=>
    rw [hp] at hd
    cases hd
    have hi:=(List.getElem?_eq_some_iff.mp hp).1
    have ix:(zY n tgs).idxOf p=i:=by
     have e:(zY n tgs)[i]=p:=(List.getElem?_eq_some_iff.mp hp).2
     rw [<- e]
     exact (Wn n tgs).idxOf_getElem i hi
    have nf:=B1 (n:=i) (by omega)
    refine ⟨_,rfl,?_⟩
    rw [Nat.zero_add,hp]
    show _=some (D.tup [.int p,.str (nm ((zY n tgs).idxOf p))])
    rw [ix]
    unfold X1
    generalize xN (zY n tgs)=PP at *
    generalize tgs.map yl=TT at *
    simp! [nf]
  rw [this,<- List.range_eq_range',jB,Ms]
  refine congrArg some (List.ext_getElem? fun i=>?_)
  rw [List.getElem?_map,List.getElem?_map]
  by_cases hi:i<(zY n tgs).length
  ·rw [List.getElem?_range hi,List.getElem?_eq_getElem hi]
   show some (match (zY n tgs)[i]? with | some p=>D.tup [.int p,.str (yU n tgs p)] | none=>.non)=_
   rw [List.getElem?_eq_getElem hi]
   rfl
  ·rw [List.getElem?_eq_none (by rw [List.length_range]; omega),List.getElem?_eq_none (by omega)]
   rfl
 refine ⟨K,V,?_,hK,hV⟩
 rw [LN]
 unfold Za
 generalize (zY n tgs).map (fun p:Nat=>D.tup [.int p,.str (yU n tgs p)])=PR at *
 generalize xN (zY n tgs)=PP at *
 generalize xN (xz tgs)=NN at *
 generalize tgs.map yl=TT at *
 simp! [e1,e2,qB,e3,e4]
noncomputable def Iq:D->Str->D
 | .tup xs,s=>.tup (xs++[.str s])
 | d,_=>d
noncomputable def xY (n:Nat) (tgs:List (Option Nat)) (p:Nat):List D:=if p∈zY n tgs then [yJ (yU n tgs p)] else []
noncomputable def vH (n:Nat) (tgs:List (Option Nat)) (r:D):Option Nat->D
 | none=>r
 | some p=>Iq r (yU n tgs p)
noncomputable def xH (rows:List D) (tgs:List (Option Nat)):Nat->List D
 | 0=>[]
 | i+1=>xH rows tgs i++(xY rows.length tgs i++[vH rows.length tgs (rows.getD i .non) (tgs.getD i none)])
noncomputable def uU (rows:List D) (tgs:List (Option Nat)):List D:=xH rows tgs rows.length++xY rows.length tgs rows.length
theorem WK (n:Nat) (tgs:List (Option Nat)) (p:Nat):(xY n tgs p).length<=1:=by
 unfold xY
 split
 ·exact Nat.le_refl _
 ·exact Nat.zero_le _
theorem YF (rows:List D) (tgs:List (Option Nat)):∀ i,(xH rows tgs i).length<=2*i
 | 0=>Nat.le_refl _
 | i+1=>by
  unfold xH
  rw [List.length_append,List.length_append,List.length_singleton]
  have:=YF rows tgs i
  have:=WK rows.length tgs i
  omega
theorem MO {rows:List D} {tgs:List (Option Nat)} (hn:rows.length<=400) (hq:(zY rows.length tgs).length<=60) (hl:tgs.length=rows.length) (h:∀ p,some p∈tgs->p<=rows.length) (hr:∀ i p:Nat,tgs[i]?=some (some p)->∃ hd:List D,rows[i]?=some (D.tup hd)/\hd≠[]/\hd.length<=2) :
  pF [.lst rows,.lst (tgs.map yl)]=some (true,.lst (uU rows tgs)):=by
 obtain ⟨K,V,e1,hK,hV⟩:=Mr hq (by omega) h
 have inK:∀ p:Nat,xK (.int (p:Int)) (.dic K V)=some (.bl (decide (p∈zY rows.length tgs))):=fun p=>by
  show (some (z_ K (.inl (p:Int)))).bind _=_
  rw [hK]
  rfl
 have ixK:∀ p∈zY rows.length tgs,zM (.dic K V) (.int (p:Int))=some (.str (yU rows.length tgs p)):=fun p hp=>hV p hp
 have lab:∀ (p:Nat) (L:List D) (f:FE) (σ:zp),σ[3]?=some (some (true,.lst L))->σ[2]?=some (some (false,.dic K V))->f σ=some (.int (p:Int))->L.length<=900->(∀ L',f (σ.set 3 L')=f σ)->zl (tE (e2 xK f (z6 2))) (ub 3 u3 (vP (z8 (eC (.str "label")) (z8 (e2 zM (z6 2) f) zC)))) zn σ=some (.nx (σ.set 3 (some (true,.lst (L++xY rows.length tgs p))))):=fun p L f σ h3 h2 hf hL _=>by
  have i1:=inK p
  unfold xY
  by_cases c:p∈zY rows.length tgs
  ·rw [if_pos c]
   rw [decide_eq_true c] at i1
   have i2:=ixK p c
   have ap:=ZK (L:=L) (r:=yJ (yU rows.length tgs p)) (by omega)
   unfold yJ at *
   simp! [hf,h2,i1,i2,h3,ap]
  ·rw [if_neg c,List.append_nil]
   rw [decide_eq_false c] at i1
   have e:σ.set 3 (some (true,.lst L))=σ:=by
    refine List.ext_getElem? fun j=>?_
    rw [List.getElem?_set]
    by_cases z:3=j
    ·subst z
     rw [if_pos rfl,if_pos (List.getElem?_eq_some_iff.mp h3).1,h3]
    ·rw [if_neg z]
   rw [e]
   simp! [hf,h2,i1]
 obtain ⟨σ',e2,x4,x5,rfl⟩:=qF (g:=xG 4 5) (b:=YC) (fun i σ=>∃ (x4 x5:Option Sl),σ=[some (false,.lst rows),some (false,.lst (tgs.map yl)),some (false,.dic K V),some (true,.lst (xH rows tgs i)),x4,x5]) (ds:=numbered rows)
  (σ:=[some (false,.lst rows),some (false,.lst (tgs.map yl)),some (false,.dic K V),some (true,.lst []),none,none]) 0 ⟨none,none,rfl⟩ (by
  rintro i d σ hd ⟨x4,x5,rfl⟩
  rw [Nat.zero_add] at *
  rw [YL] at hd
  cases hx:rows[i]? with
  | none=>rw [hx] at hd; cases hd
  | some r=>
   rw [hx] at hd
   cases hd
   have hi:=(List.getElem?_eq_some_iff.mp hx).1
   have ll:=YF rows tgs i
   have la:=WK rows.length tgs i
   have er:rows.getD i .non=r:=by rw [List.getD_eq_getElem?_getD,hx]; rfl
   have ht:tgs[i]?=some tgs[i]:=List.getElem?_eq_getElem (by omega)
   have et:tgs.getD i none=tgs[i]:=by rw [List.getD_eq_getElem?_getD,ht]; rfl
   have it:zM (.lst (tgs.map yl)) (.int (i:Int))=some (yl tgs[i]):=pQ (by omega) (by rw [Int.toNat_natCast,List.getElem?_map,ht]; rfl)
   have s1:=lab i (xH rows tgs i) (z6 4) [some (false,.lst rows),some (false,.lst (tgs.map yl)),some (false,.dic K V),some (true,.lst (xH rows tgs i)),some (false,.int (i:Int)),some (false,r)] rfl rfl rfl (by omega) (fun _=>rfl)
   have ap0:=ZK (L:=xH rows tgs i++xY rows.length tgs i) (r:=vH rows.length tgs r tgs[i]) (by rw [List.length_append]; omega)
   refine ⟨_,[some (false,.lst rows),some (false,.lst (tgs.map yl)),some (false,.dic K V),some (true,.lst (xH rows tgs (i+1))),some (false,.int (i:Int)),some (false,r)],rfl,.inl ?_,_,_,rfl⟩
   show YC [some (false,.lst rows),some (false,.lst (tgs.map yl)),some (false,.dic K V),some (true,.lst (xH rows tgs i)),some (false,.int (i:Int)),some (false,r)]=some (Fl.nx [some (false,.lst rows),some (false,.lst (tgs.map yl)),some (false,.dic K V),some (true,.lst (xH rows tgs i++(xY rows.length tgs i++[vH rows.length tgs (rows.getD i .non) (tgs.getD i none)]))),some (false,.int (i:Int)),some (false,r)])
   rw [er,et,<- List.append_assoc]
   unfold YC
   rw [xT s1]
   show ub 3 u3 _ [some (false,.lst rows),some (false,.lst (tgs.map yl)),some (false,.dic K V),some (true,.lst (xH rows tgs i++xY rows.length tgs i)),some (false,.int (i:Int)),some (false,r)]=_
   cases hg:tgs[i] with
   | none=>
    rw [hg] at it ap0
    have it:zM (.lst (tgs.map yl)) (.int (i:Int))=some .non:=it
    have ap:u3 (.lst (xH rows tgs i++xY rows.length tgs i)) r=some (.lst (xH rows tgs i++xY rows.length tgs i++[r])):=ap0
    clear ap0
    show _=some (Fl.nx [some (false,.lst rows),some (false,.lst (tgs.map yl)),some (false,.dic K V),some (true,.lst (xH rows tgs i++xY rows.length tgs i++[r])),some (false,.int (i:Int)),some (false,r)])
    generalize tgs.map yl=TT at *
    generalize xH rows tgs i++xY rows.length tgs i=LL at *
    simp! [it,ap]
   | some p=>
    rw [hg] at it ap0 ht
    obtain ⟨hd,hx',n1,n2⟩:=hr i p ht
    rw [hx] at hx'
    cases hx'
    have hp:p∈zY rows.length tgs:=(YW h).mpr (List.mem_of_getElem? ht)
    have i2:=ixK p hp
    have z:pY (.int (p:Int)) .non=some (.bl false):=rfl
    have it:zM (.lst (tgs.map yl)) (.int (i:Int))=some (.int (p:Int)):=it
    have ad:=(Y9 (t := "") (u:=yU rows.length tgs p) n1 n2).2.2
    have ap:u3 (.lst (xH rows tgs i++xY rows.length tgs i)) (.tup (hd++[.str (yU rows.length tgs p)]))=some (.lst (xH rows tgs i++xY rows.length tgs i++[.tup (hd++[.str (yU rows.length tgs p)])])):=ap0
    clear ap0
    show _=some (Fl.nx [some (false,.lst rows),some (false,.lst (tgs.map yl)),some (false,.dic K V),some (true,.lst (xH rows tgs i++xY rows.length tgs i++[.tup (hd++[.str (yU rows.length tgs p)])])),some (false,.int (i:Int)),some (false,.tup hd)])
    generalize yU rows.length tgs p=u at *
    generalize tgs.map yl=TT at *
    generalize xH rows tgs i++xY rows.length tgs i=LL at *
    generalize D.tup (hd++[.str u])=dd at *
    generalize D.tup hd=dh at *
    simp! [it,z,i2,ad,ap])
 rw [jB,Nat.zero_add] at e2
 have ll:=YF rows tgs rows.length
 have s3:=lab rows.length (xH rows tgs rows.length) (eL ye (z8 (z6 0) zC)) [some (false,.lst rows),some (false,.lst (tgs.map yl)),some (false,.dic K V),some (true,.lst (xH rows tgs rows.length)),x4,x5] rfl rfl rfl (by omega) (fun _=>rfl)
 rw [LC]
 unfold ZQ
 show ((zG _ _ [some (false,.lst rows),some (false,.lst (tgs.map yl)),none,none,none,none]).bind _)=_
 rw [xT (σ':=[some (false,.lst rows),some (false,.lst (tgs.map yl)),some (false,.dic K V),none,none,none]) (by
  generalize tgs.map yl=TT at *
  simp! [e1])]
 rw [xT (σ':=[some (false,.lst rows),some (false,.lst (tgs.map yl)),some (false,.dic K V),some (true,.lst []),none,none]) (by simp! [])]
 rw [xT (σ':=[some (false,.lst rows),some (false,.lst (tgs.map yl)),some (false,.dic K V),some (true,.lst (xH rows tgs rows.length)),x4,x5]) (by
  generalize tgs.map yl=TT at *
  simp! [qB,e2])]
 rw [xT s3]
 rfl
noncomputable def yP (r:D):D:=match yY r with
 | true=>match r with
  | .tup xs=>.tup xs.dropLast
  | d=>d
 | false=>r
noncomputable def zO (items:List D):List (Option Nat):=(zD items).map (yy items)
noncomputable def ym (items:List D):List D:=uU ((zD items).map yP) (zO items)
theorem XQ {d:D} (h:yQ d) (hj:yY d=true):∃ hd:List D,yP d=.tup hd/\hd≠[]/\hd.length<=2/\vE d none (some (-1))=some (.tup hd)/\∀ u,yQ (.tup (hd++[.str u])):=by
 obtain ⟨hd,t,ed,n1,n2,_,it,_⟩:=Tf h hj
 obtain ⟨p1,_,_⟩:=Y9 (t:=t) (u:=t) n1 n2
 refine ⟨hd,?_,n1,n2,by rw [ed]; exact p1,fun u=>(it u).1⟩
 unfold yP
 rw [hj]
 subst ed
 show D.tup (hd++[D.str t]).dropLast=_
 rw [List.dropLast_concat]
theorem Yu {items:List D} {r:D} {p:Nat} (h:yy items r=some p):p<=(zD items).length:=by
 unfold yy at h
 split at h
 ·have:=Qh (jA r) items (0,none) (fun _ z=>nomatch z) p h
  rw [Wr] at this
  show p<=(items.filter fun d=>!zd d).length
  omega
 ·cases h
theorem Qc {items:List D} (P:PQ items) (hr:(zD items).length<=400) (hq:(zY (zD items).length (zO items)).length<=60):pL [.lst items]=some (true,.lst (ym items))/\∀ d∈ym items,yQ d:=by
 have q1:wV [.lst items]=some (true,.lst (zD items)):=Yi P.it
 have q2:=Gw P
 have e1:=vU (g:=za 2) (e:=Vq) (σ:=[some (false,.lst items),none,none]) yP (ds:=zD items) fun d hd=>by
  have hI:=P.it d (List.mem_filter.mp hd).1
  have hj:=WA hI
  refine ⟨_,rfl,?_⟩
  unfold Vq
  cases z:yY d with
  | false=>
   rw [z] at hj
   have e:yP d=d:=by unfold yP; rw [z]
   rw [e]
   simp! [hj]
  | true=>
   rw [z] at hj
   obtain ⟨hd',eb,_,_,p1,_⟩:=XQ hI z
   rw [eb]
   simp! [hj,xM,yt,xn,p1]
 have lr:((zD items).map yP).length=(zD items).length:=List.length_map _
 have at_:∀ i p,(zO items)[i]?=some (some p)->∃ r,(zD items)[i]?=some r/\yy items r=some p/\yQ r/\yY r=true:=fun i p h=>by
  unfold zO at h
  rw [List.getElem?_map] at h
  cases e:(zD items)[i]? with
  | none=>rw [e] at h; cases h
  | some r=>
   rw [e] at h
   have h:some (yy items r)=some (some p):=h
   injection h with h
   refine ⟨r,e,h,P.it r (List.mem_filter.mp (List.mem_of_getElem? e)).1,?_⟩
   cases z:yY r with
   | true=>rfl
   | false=>
    unfold yy at h
    rw [z] at h
    cases h
 have hle:∀ p,some p∈zO items->p<=((zD items).map yP).length:=fun p hp=>by
  rw [lr]
  obtain ⟨r,_,e⟩:=List.mem_map.mp hp
  exact Yu e
 have e3:=MO (rows:=(zD items).map yP) (tgs:=zO items) (by omega) (by rw [lr]; exact hq) (by unfold zO; rw [List.length_map,lr]) hle (fun i p h=>by
  obtain ⟨r,e,_,hI,hj⟩:=at_ i p h
  obtain ⟨hd,eb,n1,n2,_⟩:=XQ hI hj
  exact ⟨hd,by rw [List.getElem?_map,e,<- eb]; rfl,n1,n2⟩)
 have q3:qb [.lst items]=some (true,.lst ((zO items).map yl)):=by
  rw [q2]
  unfold zO
  rw [List.map_map]
  rfl
 clear q2
 refine ⟨?_,?_⟩
 ·rw [LQ]
  unfold Zd ym
  generalize uU ((zD items).map yP) (zO items)=LL at *
  generalize (zO items).map yl=TT at *
  generalize (zD items).map yP=BB at *
  generalize zD items=RR at *
  simp! [q1,e1,q3,e3]
 ·have la:∀ n p,∀ d∈xY n (zO items) p,yQ d:=fun n p d hd=>by
   unfold xY at hd
   split at hd
   ·cases List.mem_singleton.mp hd
    exact .label _
   ·cases hd
  have go:∀ i,i<=(zD items).length->∀ d∈xH ((zD items).map yP) (zO items) i,yQ d:=fun i=>by
   induction i with
   | zero=>exact fun _ d hd=>by cases hd
   | succ i ih=>
    intro hi d hd
    unfold xH at hd
    rcases List.mem_append.mp hd with hd | hd
    ·exact ih (by omega) d hd
    ·rcases List.mem_append.mp hd with hd | hd
     ·exact la _ _ d hd
     ·cases List.mem_singleton.mp hd
      have hr:(zD items)[i]?=some (zD items)[i]:=List.getElem?_eq_getElem (by omega)
      have hm:=(List.mem_filter.mp (List.mem_of_getElem? hr)).1
      have e1:((zD items).map yP).getD i .non=yP (zD items)[i]:=by rw [List.getD_eq_getElem?_getD,List.getElem?_map,hr]; rfl
      have e2:(zO items).getD i none=yy items (zD items)[i]:=by unfold zO; rw [List.getD_eq_getElem?_getD,List.getElem?_map,hr]; rfl
      rw [e1,e2]
      generalize (zD items)[i]=r at hm
      have hI:=P.it r hm
      cases z:yY r with
      | false=>
       have e3:yy items r=none:=by unfold yy; rw [z]
       have e4:yP r=r:=by unfold yP; rw [z]
       rw [e3,e4]
       exact hI
      | true=>
       have:=(Yv P hm).1
       rw [z] at this
       obtain ⟨p,hp⟩:=Option.isSome_iff_exists.mp this
       obtain ⟨hd',eb,_,_,_,it⟩:=XQ hI z
       rw [hp,eb]
       exact it _
  intro d hd
  unfold ym uU at hd
  rcases List.mem_append.mp hd with hd | hd
  ·exact go _ (by rw [lr]; exact Nat.le_refl _) d hd
  ·exact la _ _ d hd
end L3
namespace L3
open PySem
theorem Zl (a b:Str):(a++b).cps.toList=a.cps.toList++b.cps.toList:=Array.toList_append
theorem M_ {a b:Nat} (ha:a<702) (hb:b<702) (h:nm a=nm b):a=b:=by
 have h1:=congrArg (fun z:Str=>z.cps.toList) h
 have lc:∀ x:Int,(lt x).cps.toList=[97+x.toNat]:=fun _=>rfl
 have le:(("" : Str)).cps.toList=[]:=rfl
 unfold nm at h1
 by_cases ca:a<26
 ·by_cases cb:b<26
  ·simp only [if_pos ca,if_pos cb,Zl,lc,le,List.append_nil,List.cons.injEq] at h1
   omega
  ·simp only [if_pos ca,if_neg cb,Zl,lc,le,List.append_nil,List.cons_append,List.nil_append,List.cons.injEq] at h1
   exact absurd h1.2 (fun z=>nomatch z)
 ·by_cases cb:b<26
  ·simp only [if_neg ca,if_pos cb,Zl,lc,le,List.append_nil,List.cons_append,List.nil_append,List.cons.injEq] at h1
   exact absurd h1.2 (fun z=>nomatch z)
  ·simp only [if_neg ca,if_neg cb,Zl,lc,le,List.append_nil,List.cons_append,List.nil_append,List.cons.injEq] at h1
   omega
section
variable {n:Nat} {tgs:List (Option Nat)}
theorem Q6 (hn:(zY n tgs).length<=60) {p q:Nat} (hp:p∈zY n tgs) (hq:q∈zY n tgs) (h:yU n tgs p=yU n tgs q):p=q:=by
 have a:=List.idxOf_lt_length_of_mem hp
 have b:=List.idxOf_lt_length_of_mem hq
 have e:=M_ (by omega) (by omega) h
 have ga:(zY n tgs)[(zY n tgs).idxOf p]=p:=List.getElem_idxOf a
 have gb:(zY n tgs)[(zY n tgs).idxOf q]=q:=List.getElem_idxOf b
 rw [<- ga,<- gb]
 exact congrArg (fun i=>(zY n tgs).getD i 0) e |> fun z=>by
  rw [List.getD_eq_getElem?_getD,List.getD_eq_getElem?_getD,List.getElem?_eq_getElem a,List.getElem?_eq_getElem b] at z
  exact z
end
structure tV (rows:List D) (tgs:List (Option Nat)):Prop where
 n60:(zY rows.length tgs).length<=60
 ln:tgs.length=rows.length
 le:∀ p,some p∈tgs->p<=rows.length
 nl:∀ i,i<rows.length->zd (vH rows.length tgs (rows.getD i .non) (tgs.getD i none))=false
section
variable {rows:List D} {tgs:List (Option Nat)}
theorem WL {n p:Nat}:∀ d∈xY n tgs p,zd d=true:=fun d hd=>by
 unfold xY at hd
 split at hd
 ·cases List.mem_singleton.mp hd
  rfl
 ·cases hd
theorem Tm {n p:Nat}:zD (xY n tgs p)=[]:=List.filter_eq_nil_iff.mpr fun d hd=>by
 rw [WL d hd]
 decide
theorem V6 (a b:List D):zD (a++b)=zD a++zD b:=List.filter_append ..
theorem Yh (Y:tV rows tgs):∀ i,i<=rows.length->zD (xH rows tgs i)=(List.range i).map fun j=>vH rows.length tgs (rows.getD j .non) (tgs.getD j none)
 | 0,_=>rfl
 | i+1,h=>by
  unfold xH
  rw [V6,V6,Yh Y i (by omega),Tm,List.nil_append,List.range_succ,List.map_append]
  congr 1
  show List.filter _ [_]=_
  rw [List.filter_cons_of_pos (by rw [Y.nl i (by omega)]; rfl)]
  rfl
theorem CZ (Y:tV rows tgs):zD (uU rows tgs)=(List.range rows.length).map fun j=>vH rows.length tgs (rows.getD j .non) (tgs.getD j none):=by
 unfold uU
 rw [V6,Yh Y _ (Nat.le_refl _),Tm,List.append_nil]
theorem Tp (Y:tV rows tgs):∀ i,i<=rows.length->(xH rows tgs i).filter zd=((List.range i).filter fun p=>decide (p∈zY rows.length tgs)).map fun p=>yJ (yU rows.length tgs p)
 | 0,_=>rfl
 | i+1,h=>by
  unfold xH
  rw [List.filter_append,List.filter_append,Tp Y i (by omega),List.range_succ,List.filter_append,List.map_append]
  congr 1
  rw [List.filter_cons_of_neg (by rw [Y.nl i (by omega)]; decide),List.filter_nil,List.append_nil,List.filter_eq_self.mpr WL]
  unfold xY
  by_cases c:i∈zY rows.length tgs
  ·rw [if_pos c,List.filter_cons_of_pos (by rw [decide_eq_true c])]
   rfl
  ·rw [if_neg c,List.filter_cons_of_neg (by rw [decide_eq_false c]; decide)]
   rfl
theorem To (Y:tV rows tgs):(uU rows tgs).filter zd=((List.range (rows.length+1)).filter fun p=>decide (p∈zY rows.length tgs)).map fun p=>yJ (yU rows.length tgs p):=by
 unfold uU
 rw [List.filter_append,Tp Y _ (Nat.le_refl _),List.range_succ,List.filter_append,List.map_append]
 congr 1
 rw [List.filter_eq_self.mpr WL]
 unfold xY
 by_cases c:rows.length∈zY rows.length tgs
 ·rw [if_pos c,List.filter_cons_of_pos (by rw [decide_eq_true c])]
  rfl
 ·rw [if_neg c,List.filter_cons_of_neg (by rw [decide_eq_false c]; decide)]
  rfl
theorem Qf (Y:tV rows tgs) {q:Nat} (hq:q∈zY rows.length tgs) (L:List D) (i:Nat) (hi:(zD L).length=i) (h:(xO (yU rows.length tgs q) L).2=if q<i then some q else none):(xO (yU rows.length tgs q) (L++xY rows.length tgs i)).2=if q<i+1 then some q else none:=by
 unfold xY
 by_cases c:i∈zY rows.length tgs
 ·rw [if_pos c,Wq]
  by_cases e:i=q
  ·subst e
   rw [if_pos rfl,if_pos (by omega)]
   exact congrArg some hi
  ·rw [if_neg (fun z=>e (Q6 Y.n60 c hq z)),h]
   by_cases z:q<i
   ·rw [if_pos z,if_pos (by omega)]
   ·rw [if_neg z,if_neg (by omega)]
 ·rw [if_neg c,List.append_nil,h]
  have e:i≠q:=fun z=>c (z ▸ hq)
  by_cases z:q<i
  ·rw [if_pos z,if_pos (by omega)]
  ·rw [if_neg z,if_neg (by omega)]
theorem Qg (Y:tV rows tgs) {q:Nat} (hq:q∈zY rows.length tgs):∀ i,i<=rows.length->(xO (yU rows.length tgs q) (xH rows tgs i)).2=if q<i then some q else none
 | 0,_=>rfl
 | i+1,h=>by
  unfold xH
  rw [<- List.append_assoc,Ws (Y.nl i (by omega))]
  exact Qf Y hq _ i (by rw [Yh Y i (by omega),List.length_map,List.length_range]) (Qg Y hq i (by omega))
theorem Qe (Y:tV rows tgs) {q:Nat} (hq:q∈zY rows.length tgs):(xO (yU rows.length tgs q) (uU rows tgs)).2=some q:=by
 unfold uU
 rw [Qf Y hq _ rows.length (by rw [Yh Y _ (Nat.le_refl _),List.length_map,List.length_range]) (Qg Y hq _ (Nat.le_refl _))]
 have:=(YW Y.le).mp hq
 have:=Y.le q this
 rw [if_pos (by omega)]
end
theorem Qd {items:List D} (P:PQ items) (hq:(zY (zD items).length (zO items)).length<=60):tV ((zD items).map yP) (zO items)/\∀ i,i<(zD items).length->(yY (xg items i)=false/\yy items (xg items i)=none/\vH (zD items).length (zO items) (((zD items).map yP).getD i .non) ((zO items).getD i none)=xg items i)\/(yY (xg items i)=true/\∃ (hd:List D) (p:Nat),yy items (xg items i)=some p/\yP (xg items i)=.tup hd/\hd≠[]/\hd.length<=2/\p∈zY (zD items).length (zO items)/\vH (zD items).length (zO items) (((zD items).map yP).getD i .non) ((zO items).getD i none)=.tup (hd++[.str (yU (zD items).length (zO items) p)])/\∀ u,yQ (.tup (hd++[.str u]))/\yY (.tup (hd++[.str u]))=true/\zd (.tup (hd++[.str u]))=false):=by
 have lr:((zD items).map yP).length=(zD items).length:=List.length_map _
 have hle:∀ p,some p∈zO items->p<=(zD items).length:=fun p hp=>by
  obtain ⟨r,_,e⟩:=List.mem_map.mp hp
  exact Yu e
 have main:∀ i,i<(zD items).length->(yY (xg items i)=false/\yy items (xg items i)=none/\vH (zD items).length (zO items) (((zD items).map yP).getD i .non) ((zO items).getD i none)=xg items i)\/(yY (xg items i)=true/\∃ (hd:List D) (p:Nat),yy items (xg items i)=some p/\yP (xg items i)=.tup hd/\hd≠[]/\hd.length<=2/\p∈zY (zD items).length (zO items)/\vH (zD items).length (zO items) (((zD items).map yP).getD i .non) ((zO items).getD i none)=.tup (hd++[.str (yU (zD items).length (zO items) p)])/\∀ u,yQ (.tup (hd++[.str u]))/\yY (.tup (hd++[.str u]))=true/\zd (.tup (hd++[.str u]))=false):=fun i hi=>by
  have hr:=Yg hi
  have hm:xg items i∈items:=(List.mem_filter.mp (List.mem_of_getElem? hr)).1
  have e1:((zD items).map yP).getD i .non=yP (xg items i):=by rw [List.getD_eq_getElem?_getD,List.getElem?_map,hr]; rfl
  have e2:(zO items).getD i none=yy items (xg items i):=by unfold zO; rw [List.getD_eq_getElem?_getD,List.getElem?_map,hr]; rfl
  rw [e1,e2]
  have hI:=P.it _ hm
  cases z:yY (xg items i) with
  | false=>
   have e3:yy items (xg items i)=none:=by unfold yy; rw [z]
   have e4:yP (xg items i)=xg items i:=by unfold yP; rw [z]
   rw [e3,e4]
   exact .inl ⟨rfl,rfl,rfl⟩
  | true=>
   have:=(Yv P hm).1
   rw [z] at this
   obtain ⟨p,hp⟩:=Option.isSome_iff_exists.mp this
   obtain ⟨hd,t,ed,n1,n2,_,it,_⟩:=Tf hI z
   have eb:yP (xg items i)=.tup hd:=by
    unfold yP
    rw [z,ed]
    show D.tup (hd++[D.str t]).dropLast=_
    rw [List.dropLast_concat]
   have hpm:some p∈zO items:=List.mem_map.mpr ⟨_,List.mem_of_getElem? hr,hp⟩
   refine .inr ⟨rfl,hd,p,hp,eb,n1,n2,(YW hle).mpr hpm,?_,it⟩
   rw [hp,eb]
   rfl
 refine ⟨⟨by rw [lr]; exact hq,by unfold zO; rw [List.length_map,lr],fun p hp=>by rw [lr]; exact hle p hp,fun i hi=>?_⟩,main⟩
 rw [lr] at hi ⊢
 rcases main i hi with ⟨_,_,e⟩ | ⟨_,hd,p,_,_,_,_,_,e,it⟩
 ·rw [e]
  exact (CW P hi).2
 ·rw [e]
  exact (it _).2.2
structure IY (X Y:List D):Prop where
 bare:(zD X).map yP=(zD Y).map yP
 tgs:zO X=zO Y
theorem FN {items:List D} (P:PQ items) (hr:(zD items).length<=400) (hq:(zY (zD items).length (zO items)).length<=60):PQ (ym items)/\IY items (ym items):=by
 obtain ⟨Y,main⟩:=Qd P hq
 have lr:((zD items).map yP).length=(zD items).length:=List.length_map _
 have ra:=CZ Y
 have la:=To Y
 rw [lr] at ra la
 have ra:zD (ym items)=(List.range (zD items).length).map fun j=>vH (zD items).length (zO items) (((zD items).map yP).getD j .non) ((zO items).getD j none):=ra
 have hI:=(Qc P hr hq).2
 have inr:∀ d∈ym items,zd d=false->∃ i,i<(zD items).length/\d=vH (zD items).length (zO items) (((zD items).map yP).getD i .non) ((zO items).getD i none):=fun d hd hl=>by
  have:d∈zD (ym items):=List.mem_filter.mpr ⟨hd,by rw [hl]; rfl⟩
  rw [ra] at this
  obtain ⟨i,hi,e⟩:=List.mem_map.mp this
  exact ⟨i,List.mem_range.mp hi,e.symm⟩
 have pa:∀ {q:Nat},q∈zY (zD items).length (zO items)->(xO (yU (zD items).length (zO items) q) (ym items)).2=some q:=fun {q} hq=>by
  have:=Qe Y (q:=q) (by rw [lr]; exact hq)
  rw [lr] at this
  exact this
 have one:∀ i,i<(zD items).length->yP (vH (zD items).length (zO items) (((zD items).map yP).getD i .non) ((zO items).getD i none))=yP (xg items i)/\yy (ym items) (vH (zD items).length (zO items) (((zD items).map yP).getD i .non) ((zO items).getD i none))=yy items (xg items i):=fun i hi=>by
  rcases main i hi with ⟨z,e0,e⟩ | ⟨z,hd,p,e0,eb,n1,n2,hp,e,it⟩
  ·rw [e,e0]
   exact ⟨rfl,by unfold yy; rw [z]⟩
  ·rw [e,e0,eb]
   obtain ⟨i1,i2,i3⟩:=it (yU (zD items).length (zO items) p)
   refine ⟨?_,?_⟩
   ·unfold yP
    rw [i2]
    show D.tup (hd++[D.str _]).dropLast=_
    rw [List.dropLast_concat]
   ·unfold yy
    rw [i2]
    show (xO (jA _) (ym items)).2=_
    rw [pz i1 i2 (Y9 (t:=yU (zD items).length (zO items) p) (u := "") n1 n2).2.1]
    exact pa hp
 refine ⟨⟨hI,fun d hd hj=>?_,?_⟩,⟨?_,?_⟩⟩
 ·have hl:zd d=false:=by
   cases z:zd d with
   | false=>rfl
   | true=>rw [TY z] at hj; cases hj
  obtain ⟨i,hi,rfl⟩:=inr d hd hl
  rcases main i hi with ⟨z,e0,e⟩ | ⟨z,hd',p,e0,eb,n1,n2,hp,e,it⟩
  ·rw [e,z] at hj
   cases hj
  ·rw [e]
   exact ⟨_,p,(Y9 (t:=yU (zD items).length (zO items) p) (u := "") n1 n2).2.1,pa hp⟩
 ·have a:=YF ((zD items).map yP) (zO items) ((zD items).map yP).length
  have b:=WK ((zD items).map yP).length (zO items) ((zD items).map yP).length
  show (xH _ _ _++xY _ _ _).length<=900
  rw [List.length_append]
  omega
 ·rw [ra,List.map_map]
  refine List.ext_getElem? fun i=>?_
  rw [List.getElem?_map,List.getElem?_map]
  by_cases hi:i<(zD items).length
  ·rw [Yg hi,List.getElem?_range hi]
   exact congrArg some (one i hi).1.symm
  ·rw [List.getElem?_eq_none (by omega),List.getElem?_eq_none (by rw [List.length_range]; omega)]
   rfl
 ·show (zD items).map (yy items)=(zD (ym items)).map (yy (ym items))
  rw [ra,List.map_map]
  refine List.ext_getElem? fun i=>?_
  rw [List.getElem?_map,List.getElem?_map]
  by_cases hi:i<(zD items).length
  ·rw [Yg hi,List.getElem?_range hi]
   exact congrArg some (one i hi).2.symm
  ·rw [List.getElem?_eq_none (by omega),List.getElem?_eq_none (by rw [List.length_range]; omega)]
   rfl
end L3
namespace L3
open PySem
noncomputable def j7:D->Bool
 | .int _=>true
 | .str _=>true
 | _=>false
theorem MX {x y:D} (hx:j7 x=true) (hy:j7 y=true):xj 4 x y=true/\(zg x y=true↔x=y):=by
 cases x<;>first | (cases hx; done) | skip
 all_goals (cases y<;>first | (cases hy; done) | skip)
 ·rename_i a b
  refine ⟨rfl,?_⟩
  rw [show zg (.int a) (.int b)=(a == b) by unfold zg; rfl,beq_iff_eq]
  exact ⟨fun h=>by rw [h],fun h=>by injection h⟩
 ·exact ⟨rfl,⟨(fun h=>by unfold zg at h; cases h),(fun h=>by cases h)⟩⟩
 ·exact ⟨rfl,⟨(fun h=>by unfold zg at h; cases h),(fun h=>by cases h)⟩⟩
 ·rename_i a b
  refine ⟨rfl,?_⟩
  rw [show zg (.str a) (.str b)=(a == b) by unfold zg; rfl,beq_iff_eq]
  exact ⟨fun h=>by rw [h],fun h=>by injection h⟩
theorem Xk {p:D->Bool} {f:D->D->Bool} (h:∀ x y,p x=true->p y=true->f x y=true/\(zg x y=true↔x=y)):∀ {xs ys:List D},(∀ x∈xs,p x=true)->(∀ y∈ys,p y=true)->wp f xs ys=true/\(dEqs xs ys=true↔xs=ys)
 | [],[],_,_=>⟨rfl,by unfold dEqs; exact ⟨fun _=>rfl,fun _=>rfl⟩⟩
 | [],_::_,_,_=>⟨rfl,by unfold dEqs; exact ⟨(fun h=>by cases h),(fun h=>by cases h)⟩⟩
 | _::_,[],_,_=>⟨rfl,by unfold dEqs; exact ⟨(fun h=>by cases h),(fun h=>by cases h)⟩⟩
 | x::xs,y::ys,hx,hy=>by
  obtain ⟨a1,a2⟩:=h x y (hx x (List.mem_cons_self ..)) (hy y (List.mem_cons_self ..))
  obtain ⟨b1,b2⟩:=Xk h (xs:=xs) (ys:=ys) (fun z hz=>hx z (List.mem_cons_of_mem _ hz)) (fun z hz=>hy z (List.mem_cons_of_mem _ hz))
  refine ⟨?_,?_⟩
  ·show (f x y&&wp f xs ys)=true
   rw [a1,b1]
   rfl
  ·rw [show dEqs (x::xs) (y::ys)=(zg x y&&dEqs xs ys) by rw [dEqs],Bool.and_eq_true,a2,b2]
   exact ⟨fun ⟨e1,e2⟩=>by rw [e1,e2],fun e=>by injection e with e1 e2; exact ⟨e1,e2⟩⟩
noncomputable def jH:D->Bool
 | .tup xs=>xs.all j7
 | _=>false
theorem CV {x y:D} (hx:jH x=true) (hy:jH y=true):xj 5 x y=true/\(zg x y=true↔x=y):=by
 cases x<;>first | (cases hx; done) | skip
 cases y<;>first | (cases hy; done) | skip
 rename_i xs ys
 obtain ⟨a,b⟩:=Xk (p:=j7) (f:=xj 4) (fun x y=>MX) (List.all_eq_true.mp hx) (List.all_eq_true.mp hy)
 refine ⟨a,?_⟩
 rw [show zg (.tup xs) (.tup ys)=dEqs xs ys by rw [zg],b]
 exact ⟨fun h=>by rw [h],fun h=>by injection h⟩
theorem Ca {xs ys:List D} (hx:∀ x∈xs,jH x=true) (hy:∀ y∈ys,jH y=true) [Decidable (xs=ys)]:vi (.lst xs) (.lst ys)=some (decide (xs=ys)):=by
 obtain ⟨a,b⟩:=Xk (p:=jH) (f:=xj 5) (fun x y=>CV) hx hy
 show (match xj 6 (.lst xs) (.lst ys) with | true=>some (zg (.lst xs) (.lst ys)) | false=>none)=_
 rw [show xj 6 (.lst xs) (.lst ys)=true from a]
 show some (zg (.lst xs) (.lst ys))=_
 rw [show zg (.lst xs) (.lst ys)=dEqs xs ys by rw [zg]]
 by_cases c:xs=ys
 ·rw [decide_eq_true c,b.mpr c]
 ·rw [decide_eq_false c]
  cases z:dEqs xs ys with
  | false=>rfl
  | true=>exact absurd (b.mp z) c
theorem WC {d:D} (h:yQ d):jH d=true:=by
 cases h with
 | label u=>rfl
 | plain h=>cases h<;>rfl
 | jump u=>rfl
 | cond u hw hk=>rfl
theorem Ls {xs ys:List D} (hx:∀ x∈xs,yQ x) (hy:∀ y∈ys,yQ y) [Decidable (xs=ys)]:zQ (.lst xs) (.lst ys)=some (.bl (decide (xs=ys))):=by
 unfold zQ
 rw [Ca (fun x h=>WC (hx x h)) (fun y h=>WC (hy y h))]
 rfl
end L3
namespace L3
open PySem
noncomputable def ZX:FS:=
 (zk (tw (vC .int (z6 0)) (Xi (vC .bool (z6 0)))))
noncomputable def tP:List D->Option (Bool×D):=FR 1 1 ZX
theorem E1:∀ ds r,tP ds=some r->ds.length=1/\zZ 1 ZX ds=some r:=yZ
theorem LJ (x0:D):tP [x0]=zZ 1 ZX [x0]:=rfl
noncomputable def V0 (F_law_alike:List D->Option (Bool×D)):FA:=(wP (eC (.int 0)) (eL ye (z8 (z6 1) zC)))
noncomputable def Z2 (F_law_alike:List D->Option (Bool×D)):FE:=(zS F_law_alike (z8 (e2 zM (z6 0) (z6 2)) (z8 (e2 zM (z6 1) (z6 2)) zC)))
noncomputable def ut (F_law_alike:List D->Option (Bool×D)):FS:=
 (zG (zl (tE (qj .tuple .list (z6 1)))
   (zG (zl (v4 (v3 (tE (qj .tuple .list (z6 0)))) (tE (e2 xc (vC .tuple (z6 0)) (vC .tuple (z6 1)))))
     (zk (eC (.bl false)))
     zn)
    (zk (tw (e2 zQ (eL ye (z8 (z6 0) zC)) (eL ye (z8 (z6 1) zC))) (eL vh (z8 (yT 1 (V0 F_law_alike) (za 2) yF (Z2 F_law_alike)) zC)))))
   zn)
  (zG (zl (tE (vC .str (z6 1)))
   (zk (tw (vC .str (z6 0)) (e2 zQ (z6 0) (z6 1))))
   zn)
  (zk (tw (zS tP (z8 (z6 0) zC)) (e2 zQ (z6 0) (z6 1))))))
noncomputable def xr:Nat->List D->Option (Bool×D)
 | 0=>fun _=>none
 | k+1=>FR 2 2 (ut (xr k))
noncomputable def F_law_alike:List D->Option (Bool×D):=xr 3
theorem Z_ (k:Nat) (x0 x1:D):xr (k+1) [x0,x1]=zZ 2 (ut (xr k)) [x0,x1]:=rfl
theorem Wt {t:Str}:∀ {L:List D} (s:Nat×Option Nat),yJ t∈L\/s.2.isSome=true->((L.foldl (uC t) s).2).isSome=true
 | [],s,h=>h.elim (fun z=>by cases z) id
 | d::L,s,h=>by
  rw [List.foldl_cons]
  refine Wt _ ?_
  rcases h with h | h
  ·rcases List.mem_cons.mp h with rfl | h
   ·refine .inr ?_
    have:YJ t (yJ t)=true:=beq_self_eq_true t
    unfold uC
    rw [show zd (yJ t)=true from rfl]
    dsimp only
    rw [this]
    rfl
   ·exact .inl h
  ·refine .inr ?_
   unfold uC
   cases zd d with
   | true=>
    dsimp only
    cases YJ t d with
    | true=>rfl
    | false=>exact h
   | false=>exact h
theorem Io {x:D} (h:j7 x=true) (n:Nat):xr (n+1) [x,x]=some (false,.bl true):=by
 cases x<;>first | (cases h; done) | skip
 ·rename_i i
  have q:=uR (i:=i) rfl
  have w:tP [.int i]=some (false,.bl true):=by
   rw [LJ]
   unfold ZX
   simp! []
  rw [Z_]
  unfold ut
  simp! [qj,vk,Bool.or_false,w,q]
 ·rename_i t
  have q:zQ (.str t) (.str t)=some (.bl true):=by
   show some (D.bl (t == t))=_
   rw [beq_self_eq_true]
  rw [Z_]
  unfold ut
  simp! [qj,vk,Bool.or_false,q]
theorem U8 {xs:List D} (n:Nat) (hl:xs.length<=10000) (ih:∀ x∈xs,xr n [x,x]=some (false,.bl true)):xr (n+1) [.tup xs,.tup xs]=some (false,.bl true)/\xr (n+1) [.lst xs,.lst xs]=some (false,.bl true):=by
 have q:=uR (i:=(xs.length:Int)) rfl
 have ay:vh [.lst ((xQ xs.length).map fun _=>D.bl true)]=some (.bl true):=by
  show (u0 _).bind _=_
  have:∀ l:List D,u0 (l.map fun _=>D.bl true)=some (l.map fun _=>true):=fun l=>by
   induction l with
   | nil=>rfl
   | cons a l ih=>
    show (u0 (l.map fun _=>D.bl true)).bind _=_
    rw [ih]
    rfl
  rw [this]
  show some (D.bl _)=_
  congr 2
  refine List.all_eq_true.mpr fun b hb=>?_
  obtain ⟨_,_,rfl⟩:=List.mem_map.mp hb
  rfl
 have nb:∀ b:Bool,xc (.bl b) (.bl b)=some (.bl false):=fun b=>by cases b<;>rfl
 refine ⟨?_,?_⟩
 ·have r1:V0 (xr n) [some (false,.tup xs),some (false,.tup xs)]=some (xQ xs.length):=qJ (n:=(xs.length:Int)) rfl (by omega)
  have e1:=vU (g:=za 2) (e:=Z2 (xr n)) (σ:=[some (false,.tup xs),some (false,.tup xs),none]) (fun _=>D.bl true) (ds:=xQ xs.length) fun d hd=>by
   obtain ⟨i,hi,rfl⟩:=pA hd
   have ix:zM (.tup xs) (.int (i:Int))=some xs[i]:=pQ (by omega) (by rw [Int.toNat_natCast]; exact List.getElem?_eq_getElem hi)
   have a:=ih _ (List.getElem_mem hi)
   generalize xs[i]=x at *
   refine ⟨_,rfl,?_⟩
   unfold Z2
   simp! [ix,a]
  rw [Z_]
  unfold ut
  generalize (xQ xs.length).map (fun _=>D.bl true)=AA at *
  generalize xQ xs.length=UU at *
  simp! [qj,vk,Bool.or_false,Bool.true_or,nb,q,r1,e1,ay]
 ·have r1:V0 (xr n) [some (false,.lst xs),some (false,.lst xs)]=some (xQ xs.length):=qJ (n:=(xs.length:Int)) rfl (by omega)
  have e1:=vU (g:=za 2) (e:=Z2 (xr n)) (σ:=[some (false,.lst xs),some (false,.lst xs),none]) (fun _=>D.bl true) (ds:=xQ xs.length) fun d hd=>by
   obtain ⟨i,hi,rfl⟩:=pA hd
   have ix:zM (.lst xs) (.int (i:Int))=some xs[i]:=pQ (by omega) (by rw [Int.toNat_natCast]; exact List.getElem?_eq_getElem hi)
   have a:=ih _ (List.getElem_mem hi)
   generalize xs[i]=x at *
   refine ⟨_,rfl,?_⟩
   unfold Z2
   simp! [ix,a]
  rw [Z_]
  unfold ut
  generalize (xQ xs.length).map (fun _=>D.bl true)=AA at *
  generalize xQ xs.length=UU at *
  simp! [qj,vk,Bool.or_true,Bool.false_or,nb,q,r1,e1,ay]
theorem Im {L:List D} (hl:L.length<=1000) (h:∀ d∈L,yQ d):F_law_alike [.lst L,.lst L]=some (false,.bl true):=(U8 2 (by omega) fun x hx=>by
 have hr:=WC (h x hx)
 have hn:∃ xs,x=.tup xs/\xs.length<=10000/\∀ y∈xs,j7 y=true:=by
  cases x<;>first | (cases hr; done) | skip
  rename_i xs
  refine ⟨xs,rfl,?_,List.all_eq_true.mp hr⟩
  have:=h _ hx
  cases this with
  | plain h=>cases h<;>simp
  | jump u=>show 2<=10000; decide
  | cond u hw hk=>show 3<=10000; decide
  | label u=>show 2<=10000; decide
 obtain ⟨xs,rfl,l,hx⟩:=hn
 exact (U8 1 l fun y hy=>Io (hx y hy) 0).1).2
theorem Fa {N:List Str} {items:List D} (P:ZF N items):PQ items/\(zY (zD items).length (zO items)).length<=60:=by
 have hI:∀ d∈items,yQ d:=fun d hd=>WB (P.it d hd)
 have lab:∀ t∈N,yJ t∈items:=fun t ht=>by
  have:yJ t∈N.map yJ:=List.mem_map.mpr ⟨t,ht,rfl⟩
  exact (List.mem_filter.mp (P.lb.mem_iff.mpr this)).1
 have tg:∀ d∈items,yY d=true->∃ t∈N,zM d (.int (-1))=some (.str t):=fun d hd hj=>by
  rcases P.it d hd with h | ⟨t,ht,rfl⟩
  ·cases h with
   | plain h=>
    obtain ⟨_,_,_,_,c,_⟩:=qy h
    rw [c] at hj
    cases hj
   | jump ht=>exact ⟨_,ht,rfl⟩
   | cond hw hk ht=>exact ⟨_,ht,rfl⟩
  ·cases hj
 have Q:PQ items:=⟨hI,fun d hd hj=>by
  obtain ⟨t,ht,e⟩:=tg d hd hj
  obtain ⟨p,hp⟩:=Option.isSome_iff_exists.mp (Wt (L:=items) (0,none) (.inl (lab t ht)))
  exact ⟨t,p,e,hp⟩,by have:=P.ln; omega⟩
 refine ⟨Q,?_⟩
 have le:∀ p,some p∈zO items->p<=(zD items).length:=fun p hp=>by
  obtain ⟨r,_,e⟩:=List.mem_map.mp hp
  exact Yu e
 have sub:∀ p∈zY (zD items).length (zO items),p∈N.map fun t=>((xO t items).2).getD 0:=fun p hp=>by
  obtain ⟨r,hr,e⟩:=List.mem_map.mp ((YW le).mp hp)
  have hm:=(List.mem_filter.mp hr).1
  have hj:yY r=true:=by rw [<- (Yv Q hm).1,e]; rfl
  obtain ⟨t,ht,e1⟩:=tg r hm hj
  refine List.mem_map.mpr ⟨t,ht,?_⟩
  unfold yy at e
  rw [hj] at e
  have e:(xO (jA r) items).2=some p:=e
  rw [pz (hI r hm) hj e1] at e
  rw [e]
  rfl
 have:=List.Nodup.length_le_of_subset (Wn (zD items).length (zO items)) sub
 rw [List.length_map] at this
 have:=P.nl
 omega
theorem M0 {d:D} (h:yQ d):∃ w,zM d (.int 0)=some (.str w)/\xK (.str w) (.lst [.str "jump",.str "when",.str "unless"])=some (.bl (yY d)):=by
 cases h with
 | label t=>exact ⟨_,rfl,rfl⟩
 | plain h=>cases h with
  | stop=>exact ⟨_,rfl,rfl⟩
  | imm hw=>rcases hw with rfl | rfl<;>exact ⟨_,rfl,rfl⟩
  | two hw=>rcases hw with rfl | rfl | rfl | rfl | rfl | rfl | rfl | rfl | rfl<;>exact ⟨_,rfl,rfl⟩
  | mov hw=>rcases hw with rfl | rfl<;>exact ⟨_,rfl,rfl⟩
  | mem hw=>rcases hw with rfl | rfl | rfl | rfl<;>exact ⟨_,rfl,rfl⟩
 | jump t=>exact ⟨_,rfl,rfl⟩
 | cond t hw hk=>rcases hw with rfl | rfl<;>exact ⟨_,rfl,rfl⟩
end L3
namespace L3
open PySem
noncomputable def jm:FS:=
 (zG (zl (v4 (tE (vC .bool (z6 0))) (v3 (tE (vC .int (z6 0)))))
   (zk (eC (.bl false)))
   zn)
  (zk (tw (e2 (u4 fun i j=>decide (i<=j)) (eC (.int 0)) (z6 0)) (e2 (u4 fun i j=>decide (i<j)) (z6 0) (e2 Xv (eC (.int 1)) (z6 1))))))
noncomputable def pD:List D->Option (Bool×D):=FR 2 2 jm
theorem Ck:∀ ds r,pD ds=some r->ds.length=2/\zZ 2 jm ds=some r:=yZ
theorem T8 (x0 x1:D):pD [x0,x1]=zZ 2 jm [x0,x1]:=rfl
noncomputable def Ve:FE:=(e2 xK (z6 1) (eC (.str "abcdefghijklmnopqrstuvwxyz")))
noncomputable def jk:FS:=
 (zG (zl (v3 (tE (vC .str (z6 0))))
   (zk (eC (.bl false)))
   zn)
  (zG (zl (v4 (tE (e2 (u4 fun i j=>decide (i<j)) (eL ye (z8 (z6 0) zC)) (eC (.int 1)))) (tE (e2 (u4 fun i j=>decide (j<i)) (eL ye (z8 (z6 0) zC)) (eC (.int 8)))))
   (zk (eC (.bl false)))
   zn)
  (zk (eL vh (z8 (yT 1 (xl (z6 0)) (za 1) yF Ve) zC)))))
noncomputable def pC:List D->Option (Bool×D):=FR 1 1 jk
theorem Cj:∀ ds r,pC ds=some r->ds.length=1/\zZ 1 jk ds=some r:=yZ
theorem T7 (x0:D):pC [x0]=zZ 1 jk [x0]:=rfl
noncomputable def tZ:FS:=
 (zG (zl (tE (e2 zQ (z6 1) (eC (.str "name"))))
   (zk (zS pC (z8 (z6 2) zC)))
   zn)
  (zG (zl (tE (e2 zQ (z6 1) (eC (.str "mark"))))
   (zk (e2 Xp (z6 2) (eC Y1)))
   zn)
  (zG (ze 3 (tz (tE (e2 zQ (z6 1) (eC (.str "n")))) (e1 (vD Zz Y2) (z6 0)) (e2 zM (e1 (vD jz gB) (z6 1)) (eC (.int 1)))))
  (zk (zS pD (z8 (z6 2) (z8 (z6 3) zC)))))))
noncomputable def qV:List D->Option (Bool×D):=FR 3 4 tZ
theorem Cf:∀ ds r,qV ds=some r->ds.length=3/\zZ 4 tZ ds=some r:=yZ
theorem j_ (x0 x1 x2:D):qV [x0,x1,x2]=zZ 4 tZ [x0,x1,x2]:=rfl
noncomputable def Z0:FE:=(zS qV (z8 (z6 1) (z8 (z6 3) (z8 (z6 4) zC))))
noncomputable def pT:FS:=
 (zG (zl (v4 (v3 (tE (vC .tuple (z6 0)))) (tE (e2 zQ (eL ye (z8 (z6 0) zC)) (eC (.int 0)))))
   (zk (eC (.bl false)))
   zn)
  (zG (ze 1 (e2 zM (z6 0) (eC (.int 0))))
  (zG (zl (v4 (v3 (tE (vC .str (z6 1)))) (tE (e1 (uO xU) (z6 1))))
   (zk (eC (.bl false)))
   zn)
  (zG (ze 2 (e1 (vD xU vj) (z6 1)))
  (zG (zl (tE (e2 xc (eL ye (z8 (z6 0) zC)) (e2 zy (eL ye (z8 (z6 2) zC)) (eC (.int 1)))))
   (zk (eC (.bl false)))
   zn)
  (zk (eL vh (z8 (yT 2 (vS (z6 2) (xM (z6 0) (yt (eC (.int 1))) xn)) (xG 3 4) yF Z0) zC))))))))
noncomputable def wU:List D->Option (Bool×D):=FR 1 3 pT
theorem Cg:∀ ds r,wU ds=some r->ds.length=1/\zZ 3 pT ds=some r:=yZ
theorem W3 (x0:D):wU [x0]=zZ 3 pT [x0]:=rfl
inductive Kd where
 | name | mark | num (m:Int)
noncomputable def uA (z:Str):Bool:=!(Builtin.Str.occurrences "abcdefghijklmnopqrstuvwxyz" z 0 ("abcdefghijklmnopqrstuvwxyz" : Str).length 1).isEmpty
theorem Lg (z:Str):xK (.str z) (.str "abcdefghijklmnopqrstuvwxyz")=some (.bl (uA z)):=rfl
noncomputable def WX (t:Str):Bool:=!decide ((t.length:Int)<1)&&(!decide (8<(t.length:Int))&&(t.cps.toList.map fun c=>uA ⟨#[c]⟩).all id)
noncomputable def Mg (t:Str):Bool:=("carry" : Str) == t||(("nought" : Str) == t||(("sign" : Str) == t||false))
noncomputable def wB:Kd->D->Bool
 | .name,.str t=>WX t
 | .mark,.str t=>Mg t
 | .num m,.int i=>decide (0<=i)&&decide (i<m)
 | _,_=>false
noncomputable def wZ:D->Bool
 | .dic _ _=>false
 | .exc _=>false
 | .obj _ _ _=>false
 | _=>true
theorem Ma {σ:zp} {n:Nat} {e:FE} (he:∀ z:Str,∃ σ1,za n (.str z) σ=some σ1/\e σ1=some (.bl (uA z))) (t:Str):yr (za n) yF e σ (t.cps.toList.map fun c=>.str ⟨#[c]⟩)=some ((t.cps.toList.map fun c=>uA ⟨#[c]⟩).map D.bl):=by
 have:=vU (g:=za n) (e:=e) (σ:=σ) (fun d=>match d with | .str z=>.bl (uA z) | d=>d) (ds:=t.cps.toList.map fun c=>.str ⟨#[c]⟩) fun d hd=>by
  obtain ⟨c,_,rfl⟩:=List.mem_map.mp hd
  exact he _
 rw [this,List.map_map,List.map_map]
 rfl
theorem ZJ (bs:List Bool):vh [.lst (bs.map D.bl)]=some (.bl (bs.all id)):=by
 show (u0 _).bind _=_
 rw [UO]
 rfl
theorem Mo {d:D} (h:wZ d=true):pC [d]=some (false,.bl (wB .name d)):=by
 cases d with
 | str t=>
  have lc:=Ma (n:=1) (e:=Ve) (σ:=[some (false,.str t),none]) (fun z=>⟨_,rfl,by have:=Lg z; unfold Ve; simp! [this]⟩) t
  have al:=ZJ (t.cps.toList.map fun c=>uA ⟨#[c]⟩)
  show _=some (false,D.bl (!decide ((t.length:Int)<1)&&(!decide (8<(t.length:Int))&&(t.cps.toList.map fun c=>uA ⟨#[c]⟩).all id)))
  rw [T7]
  unfold jk
  generalize (t.cps.toList.map fun c=>uA ⟨#[c]⟩)=BB at *
  cases h1:decide ((t.length:Int)<1) with
  | true=>simp! [h1,Bool.not_true,Bool.false_and]
  | false=>
   cases h2:decide (8<(t.length:Int)) with
   | true=>simp! [h1,h2,Bool.not_true,Bool.not_false,Bool.false_and,Bool.and_false]
   | false=>simp! [h1,h2,lc,al,Bool.not_false,Bool.true_and]
 | dic ks ds=>cases h
 | exc _=>cases h
 | obj _ _ _=>cases h
 | _=>rw [T7]; unfold jk; simp! []; rfl
theorem Me {d:D} (h:wZ d=true):Xp d Y1=some (.bl (wB .mark d)):=by
 cases d with
 | str t=>
  have e:∀ u:Str,zg (.str u) (.str t)=(u == t):=fun u=>by unfold zg; rfl
  show some (D.bl (zg (.str "carry") (.str t)||(zg (.str "nought") (.str t)||(zg (.str "sign") (.str t)||false))))=_
  rw [e,e,e]
  rfl
 | dic ks ds=>cases h
 | exc _=>cases h
 | obj _ _ _=>cases h
 | lst xs=>rfl
 | tup xs=>rfl
 | int i=>
  have e:∀ u:Str,zg (.str u) (.int i)=false:=fun u=>by unfold zg; rfl
  show some (D.bl (zg (.str "carry") (.int i)||(zg (.str "nought") (.int i)||(zg (.str "sign") (.int i)||false))))=_
  rw [e,e,e]
  rfl
 | bl b=>
  have e:∀ u:Str,zg (.str u) (.bl b)=false:=fun u=>by unfold zg; rfl
  show some (D.bl (zg (.str "carry") (.bl b)||(zg (.str "nought") (.bl b)||(zg (.str "sign") (.bl b)||false))))=_
  rw [e,e,e]
  rfl
 | non=>
  have e:∀ u:Str,zg (.str u) .non=false:=fun u=>by unfold zg; rfl
  show some (D.bl (zg (.str "carry") .non||(zg (.str "nought") .non||(zg (.str "sign") .non||false))))=_
  rw [e,e,e]
  rfl
theorem QF {d:D} (h:wZ d=true) {W m:Int} (hp:jE 1 W=true) (hm:1*2 ^ W.toNat=m):pD [d,.int W]=some (false,.bl (wB (.num m) d)):=by
 cases d with
 | int i=>
  show _=some (false,D.bl (decide (0<=i)&&decide (i<m)))
  rw [T8]
  unfold jm
  cases h1:decide (0<=i)<;>simp! [h1,hp,hm,Bool.true_and,Bool.false_and]
 | dic ks ds=>cases h
 | exc _=>cases h
 | obj _ _ _=>cases h
 | _=>rw [T8]; unfold jm; simp! []; rfl
structure FK (w f:Str) (k:Kd) (s:D):Prop where
 ft:∀ d,wZ d=true->qV [.str w,.str f,d]=some (false,.bl (wB k d))
 sh:(k=.name/\s=.str "name")\/(k=.mark/\s=.str "mark")\/∃ m:Int,k=.num m/\s=.int m
theorem Xx (w:Str):FK w "name" .name (.str "name"):=⟨fun d h=>by
 have e:zQ (.str "name") (.str "name")=some (.bl true):=by rfl
 have n:=Mo h
 rw [j_]
 unfold tZ
 simp! [e,n],.inl ⟨rfl,rfl⟩⟩
theorem Ow (w:Str):FK w "mark" .mark (.str "mark"):=⟨fun d h=>by
 have e:zQ (.str "mark") (.str "name")=some (.bl false):=by rfl
 have e2:zQ (.str "mark") (.str "mark")=some (.bl true):=by rfl
 have n:=Me h
 rw [j_]
 unfold tZ
 simp! [e,e2,n],.inr (.inl ⟨rfl,rfl⟩)⟩
theorem pp (w:Str) {f:Str} (hf:f = "d" \/ f = "s"):FK w f (.num 8) (.int 8):=⟨fun d h=>by
 have n:=QF h (W:=3) (m:=8) (by decide) (by decide)
 rcases hf with rfl | rfl
 ·have e:zQ (.str "d") (.str "name")=some (.bl false):=by rfl
  have e2:zQ (.str "d") (.str "mark")=some (.bl false):=by rfl
  have e3:zQ (.str "d") (.str "n")=some (.bl false):=by rfl
  have g:vD jz gB (.str "d")=some (.tup [.int 24,.int 3]):=by rfl
  have i1:zM (.tup [.int 24,.int 3]) (.int 1)=some (.int 3):=rfl
  rw [j_]
  unfold tZ
  simp! [e,e2,e3,g,i1,n]
 ·have e:zQ (.str "s") (.str "name")=some (.bl false):=by rfl
  have e2:zQ (.str "s") (.str "mark")=some (.bl false):=by rfl
  have e3:zQ (.str "s") (.str "n")=some (.bl false):=by rfl
  have g:vD jz gB (.str "s")=some (.tup [.int 21,.int 3]):=by rfl
  have i1:zM (.tup [.int 21,.int 3]) (.int 1)=some (.int 3):=rfl
  rw [j_]
  unfold tZ
  simp! [e,e2,e3,g,i1,n],.inr (.inr ⟨8,rfl,rfl⟩)⟩
theorem Xy {w:Str} {W m:Int} (hw:vD Zz Y2 (.str w)=some (.int W)) (hp:jE 1 W=true) (hm:1*2 ^ W.toNat=m):FK w "n" (.num m) (.int m):=⟨fun d h=>by
 have n:=QF h hp hm
 have e:zQ (.str "n") (.str "name")=some (.bl false):=by rfl
 have e2:zQ (.str "n") (.str "mark")=some (.bl false):=by rfl
 have e3:zQ (.str "n") (.str "n")=some (.bl true):=by rfl
 rw [j_]
 unfold tZ
 simp! [e,e2,e3,hw,n],.inr (.inr ⟨m,rfl,rfl⟩)⟩
end L3
namespace L3
open PySem
structure V_ (w:Str) (fs:List Str):Prop where
 ni:uO xU (.str w)=some (.bl false)
 gd:vD xU vj (.str w)=some (.tup (fs.map D.str))
noncomputable def uM:List Kd->List D->Bool
 | k::ks,d::ds=>wB k d&&uM ks ds
 | [],[]=>true
 | _,_=>false
inductive qT (w:Str):List Str->List Kd->List D->Prop
 | nil:qT w [] [] []
 | cons {f:Str} {k:Kd} {s:D} {fs:List Str} {ks:List Kd} {ss:List D}:FK w f k s->qT w fs ks ss->qT w (f::fs) (k::ks) (s::ss)
theorem U_ {w:Str}:∀ {fs:List Str} {ks:List Kd} {ss:List D},qT w fs ks ss->fs.length=ks.length/\ss.length=ks.length
 | _,_,_,.nil=>⟨rfl,rfl⟩
 | _,_,_,.cons _ r=>by
  obtain ⟨a,b⟩:=U_ r
  exact ⟨by rw [List.length_cons,List.length_cons,a],by rw [List.length_cons,List.length_cons,b]⟩
theorem IO {w:Str} {σ:zp} (he:∀ f d:D,∃ σ1,xG 3 4 (.tup [f,d]) σ=some σ1/\Z0 σ1=(qV [.str w,f,d]).bind fun r=>some r.2):∀ {fs:List Str} {ks:List Kd} {ss ds:List D},qT w fs ks ss->(∀ d∈ds,wZ d=true)->ds.length=ks.length->
  ∃ bs:List Bool,bs.all id=uM ks ds/\yr (xG 3 4) yF Z0 σ (List.zipWith (fun x y=>D.tup [x,y]) (fs.map D.str) ds)=some (bs.map D.bl)
 | _,_,_,ds,.nil,_,hl=>by
  cases ds with
  | nil=>exact ⟨[],rfl,rfl⟩
  | cons _ _=>cases hl
 | f::fs,k::ks,s::ss,ds,.cons F r,hn,hl=>by
  cases ds with
  | nil=>cases hl
  | cons d ds=>
   obtain ⟨bs,hb,e⟩:=IO he r (ds:=ds) (fun x hx=>hn x (List.mem_cons_of_mem _ hx)) (by simpa using hl)
   obtain ⟨σ1,e1,e2⟩:=he (.str f) d
   refine ⟨wB k d::bs,by rw [List.all_cons,hb]; rfl,?_⟩
   rw [List.map_cons,List.zipWith_cons_cons]
   show (xG 3 4 (.tup [.str f,d]) σ).bind _=_
   rw [e1]
   show (Z0 σ1).bind _=_
   rw [e2,F.ft d (hn d (List.mem_cons_self ..))]
   show (yr _ _ _ _ _).bind _=_
   rw [e]
   rfl
theorem MN {w:Str} {fs:List Str} {ks:List Kd} {ss ds:List D} (W:V_ w fs) (F:qT w fs ks ss) (hn:∀ d∈ds,wZ d=true) (hk:ks.length<=5) (hd:ds.length<=400) :
  wU [.tup (.str w::ds)]=some (false,.bl (uM ks ds)):=by
 obtain ⟨l1,l2⟩:=U_ F
 obtain ⟨ni,gd⟩:=W
 have e0:zQ (.int ((ds.length+1:Nat):Int)) (.int 0)=some (.bl false):=uS (by omega)
 have lf:(fs.map D.str).length=ks.length:=by rw [List.length_map,l1]
 have mis:ds.length≠ks.length->uM ks ds=false:=fun h=>by
  have g:∀ {ks:List Kd} {ds:List D},ds.length≠ks.length->uM ks ds=false:=fun {ks}=>by
   induction ks with
   | nil=>
    intro ds h
    cases ds with
    | nil=>exact absurd rfl h
    | cons _ _=>rfl
   | cons k ks ih=>
    intro ds h
    cases ds with
    | nil=>rfl
    | cons d ds=>
     show (wB k d&&uM ks ds)=false
     rw [ih (by simpa using h),Bool.and_false]
  exact g h
 by_cases hl:ds.length=ks.length
 ·have sl:vE (.tup (.str w::ds)) (some 1) none=some (.tup ds):=by
   show (if HT.sIx (ds.length+1) 0 (some 1)=0/\HT.sIx (ds.length+1) (ds.length+1) none=ds.length+1 then none else some (D.tup (xo (.str w::ds) (some 1) none)))=_
   rw [if_neg (fun z=>by
    have:=z.1
    rw [show (1:Int)=((1:Nat):Int) from rfl,HT.sIx_nat] at this
    omega)]
   unfold xo
   rw [show (1:Int)=((1:Nat):Int) from rfl,HT.sIx_nat]
   show some (D.tup ((List.drop (min 1 (ds.length+1)) (.str w::ds)).take (ds.length+1 - min 1 (ds.length+1))))=_
   rw [show min 1 (ds.length+1)=1 by omega,show ds.length+1 - 1=ds.length by omega]
   show some (D.tup (ds.take ds.length))=_
   rw [List.take_length]
  have q1:xc (.int ((ds.length+1:Nat):Int)) (.int ((ks.length:Int)+1))=some (.bl false):=by
   have:=uR (i:=((ds.length+1:Nat):Int)) (j:=(ks.length:Int)+1) (by omega)
   exact Q3 this
  obtain ⟨bs,hbs,ez⟩:=IO (w:=w) (σ:=[some (false,.tup (.str w::ds)),some (false,.str w),some (false,.tup (fs.map D.str)),none,none]) (fun f d=>⟨_,rfl,by unfold Z0; simp! []⟩) F hn hl
  have al:=ZJ bs
  rw [hbs] at al
  rw [W3]
  unfold pT
  generalize bs.map D.bl=BB at *
  generalize hF:fs.map D.str=FF at *
  simp! [e0,u8,ni,gd,lf,add_int,q1,vS,xM,yt,xn,sl,vv,ez,al]
 ·have q1:xc (.int ((ds.length+1:Nat):Int)) (.int ((ks.length:Int)+1))=some (.bl true):=by
   have:=uS (i:=((ds.length+1:Nat):Int)) (j:=(ks.length:Int)+1) (by omega)
   exact Q3 this
  rw [mis hl,W3]
  unfold pT
  generalize hF:fs.map D.str=FF at *
  simp! [e0,u8,ni,gd,lf,add_int,q1]
theorem Hg {w:Str} (hw:¬ (uL w\/w = "label")) (ds:List D):wU [.tup (.str w::ds)]=some (false,.bl false):=by
 have e0:zQ (.int ((ds.length+1:Nat):Int)) (.int 0)=some (.bl false):=uS (by omega)
 have hk:z_ xU (.inr w)=false:=by
  cases h:z_ xU (.inr w) with
  | false=>rfl
  | true=>
   exfalso
   obtain ⟨j,hj,e⟩:=List.any_eq_true.mp h
   obtain ⟨u,hu,rfl⟩:=List.mem_map.mp hj
   have e:=Sum.inr.inj (of_decide_eq_true e)
   subst e
   simp only [List.mem_cons,List.not_mem_nil,or_false] at hu
   rcases hu with rfl | rfl | rfl | rfl | rfl | rfl | rfl | rfl | rfl | rfl | rfl | rfl | rfl | rfl | rfl | rfl | rfl | rfl | rfl | rfl | rfl | rfl<;>exact hw (by unfold uL; simp)
 have ni:uO xU (.str w)=some (.bl true):=by
  show some (D.bl (!z_ xU (.inr w)))=_
  rw [hk]
  rfl
 rw [W3]
 unfold pT
 simp! [e0,u8,ni]
end L3
namespace L3
open PySem
theorem Md {c:Nat} (h0:97<=c) (h1:c<=122):uA ⟨#[c]⟩=true:=by
 have h:∀ j:Fin 26,uA ⟨#[97+j.val]⟩=true:=by decide +kernel
 have:=h ⟨c - 97,by omega⟩
 rw [show 97+(⟨c - 97,by omega⟩:Fin 26).val=c by show 97+(c - 97)=c; omega] at this
 exact this
theorem WY {t:Str} (h:vW t=true):WX t=true:=by
 obtain ⟨l1,l2,l3⟩:=YK h
 unfold WX
 rw [decide_eq_false (by omega),decide_eq_false (by omega)]
 show (t.cps.toList.map fun c=>uA ⟨#[c]⟩).all id=true
 refine List.all_eq_true.mpr fun b hb=>?_
 obtain ⟨c,hc,rfl⟩:=List.mem_map.mp hb
 have:=List.all_eq_true.mp l3 c hc
 rw [Bool.and_eq_true] at this
 exact Md (of_decide_eq_true this.1) (of_decide_eq_true this.2)
theorem t7 {m n:Int} (h0:0<=n) (h1:n<m):wB (.num m) (.int n)=true:=by
 show (decide (0<=n)&&decide (n<m))=true
 rw [decide_eq_true h0,decide_eq_true h1]
 rfl
theorem Tx {N:List Str} (hN:qe N) {d:D} (h:qd N d):wU [d]=some (false,.bl true):=by
 have go:∀ {w:Str} {fs:List Str} {ks:List Kd} {ss ds:List D},V_ w fs->qT w fs ks ss->ks.length<=5->(∀ d∈ds,wZ d=true)->ds.length<=400->uM ks ds=true->wU [.tup (.str w::ds)]=some (false,.bl true):=fun W F a b c e=>by
  have:=MN W F b a c
  rw [e] at this
  exact this
 have a1:∀ {k:Kd} {x:D},wB k x=true->uM [k] [x]=true:=fun {k x} h=>by
  show (wB k x&&true)=true
  rw [h]; rfl
 have a2:∀ {k l:Kd} {x y:D},wB k x=true->wB l y=true->uM [k,l] [x,y]=true:=fun {k l x y} h1 h2=>by
  show (wB k x&&(wB l y&&true))=true
  rw [h1,h2]; rfl
 have a3:∀ {k l m:Kd} {x y z:D},wB k x=true->wB l y=true->wB m z=true->uM [k,l,m] [x,y,z]=true:=fun {k l m x y z} h1 h2 h3=>by
  show (wB k x&&(wB l y&&(wB m z&&true)))=true
  rw [h1,h2,h3]; rfl
 have n1:∀ {x:D},wZ x=true->∀ d∈[x],wZ d=true:=fun h d hd=>by rw [List.mem_singleton.mp hd]; exact h
 have n2:∀ {x y:D},wZ x=true->wZ y=true->∀ d∈[x,y],wZ d=true:=fun h1 h2 d hd=>by
  rcases List.mem_cons.mp hd with rfl | hd
  ·exact h1
  ·exact n1 h2 d hd
 have n3:∀ {x y z:D},wZ x=true->wZ y=true->wZ z=true->∀ d∈[x,y,z],wZ d=true:=fun h1 h2 h3 d hd=>by
  rcases List.mem_cons.mp hd with rfl | hd
  ·exact h1
  ·exact n2 h2 h3 d hd
 rcases h with h | ⟨t,ht,rfl⟩
 ·cases h with
  | plain h=>
   cases h with
   | stop=>exact go (ks:=[]) (ss:=[]) ⟨rfl,rfl⟩ .nil (by simp) (fun _ h=>by cases h) (by simp) rfl
   | imm hw d0 d1 z0 z1=>
    rename_i w x n
    exact go (fs:=["d", "n"]) (ks:=[.num 8,.num 65536]) (ss:=[.int 8,.int 65536]) (by rcases hw with rfl | rfl<;>exact ⟨rfl,rfl⟩) (.cons (pp w (.inl rfl)) (.cons (Xy (W:=16) (by rcases hw with rfl | rfl<;>rfl) (by decide) (by decide)) .nil)) (by simp) (n2 rfl rfl) (by simp) (a2 (t7 d0 d1) (t7 z0 z1))
   | mov hw d0 d1 z0 z1=>
    rename_i w x n
    exact go (fs:=["d", "n"]) (ks:=[.num 8,.num 32]) (ss:=[.int 8,.int 32]) (by rcases hw with rfl | rfl<;>exact ⟨rfl,rfl⟩) (.cons (pp w (.inl rfl)) (.cons (Xy (W:=5) (by rcases hw with rfl | rfl<;>rfl) (by decide) (by decide)) .nil)) (by simp) (n2 rfl rfl) (by simp) (a2 (t7 d0 d1) (t7 z0 z1))
   | two hw d0 d1 z0 z1=>
    rename_i w x n
    exact go (fs:=["d", "s"]) (ks:=[.num 8,.num 8]) (ss:=[.int 8,.int 8]) (by rcases hw with rfl | rfl | rfl | rfl | rfl | rfl | rfl | rfl | rfl<;>exact ⟨rfl,rfl⟩) (.cons (pp w (.inl rfl)) (.cons (pp w (.inr rfl)) .nil)) (by simp) (n2 rfl rfl) (by simp) (a2 (t7 d0 d1) (t7 z0 z1))
   | mem hw d0 d1 z0 z1 y0 y1=>
    rename_i w x n m
    exact go (fs:=["d", "s", "n"]) (ks:=[.num 8,.num 8,.num 256]) (ss:=[.int 8,.int 8,.int 256]) (by rcases hw with rfl | rfl | rfl | rfl<;>exact ⟨rfl,rfl⟩) (.cons (pp w (.inl rfl)) (.cons (pp w (.inr rfl)) (.cons (Xy (W:=8) (by rcases hw with rfl | rfl | rfl | rfl<;>rfl) (by decide) (by decide)) .nil))) (by simp) (n3 rfl rfl rfl) (by simp) (a3 (t7 d0 d1) (t7 z0 z1) (t7 y0 y1))
  | jump ht=>exact go (fs:=["name"]) (ks:=[.name]) (ss:=[.str "name"]) ⟨rfl,rfl⟩ (.cons (Xx _) .nil) (by simp) (n1 rfl) (by simp) (a1 (WY (hN.ok _ ht)))
  | cond hw hk ht=>
   rename_i w k0 t
   exact go (fs:=["mark", "name"]) (ks:=[.mark,.name]) (ss:=[.str "mark",.str "name"]) (by rcases hw with rfl | rfl<;>exact ⟨rfl,rfl⟩) (.cons (Ow w) (.cons (Xx w) .nil)) (by simp) (n2 rfl rfl) (by simp) (a2 (by rcases hk with rfl | rfl | rfl<;>rfl) (WY (hN.ok _ ht)))
 ·exact go (fs:=["name"]) (ks:=[.name]) (ss:=[.str "name"]) ⟨rfl,rfl⟩ (.cons (Xx _) .nil) (by simp) (n1 rfl) (by simp) (a1 (WY (hN.ok _ ht)))
end L3
namespace L3
open PySem
noncomputable def wK (c:Nat):List Nat->List (List Nat)
 | []=>[[]]
 | a::l=>if a=c then []::wK c l else match wK c l with
  | p::r=>(a::p)::r
  | []=>[[a]]
theorem jM (c a:Nat) (l:List Nat):wK c (a::l)=if a=c then []::wK c l else match wK c l with
  | p::r=>(a::p)::r
  | []=>[[a]]:=rfl
noncomputable def jn (c:Nat):List (List Nat)->List Nat
 | []=>[]
 | [p]=>p
 | p::q::r=>p++c::jn c (q::r)
theorem VN (c:Nat):∀ l,∃ p r,wK c l=p::r
 | []=>⟨_,_,rfl⟩
 | a::l=>by
  obtain ⟨p,r,e⟩:=VN c l
  rw [jM,e]
  split
  ·exact ⟨_,_,rfl⟩
  ·exact ⟨_,_,rfl⟩
theorem jN {c:Nat}:∀ {p:List Nat},c ∉ p->wK c p=[p]
 | [],_=>rfl
 | a::p,h=>by
  have ne:¬ a=c:=fun e=>h (by rw [e]; exact List.mem_cons_self)
  rw [jM,if_neg ne,jN (fun z=>h (List.mem_cons_of_mem _ z))]
theorem Yp (c:Nat):∀ (p l:List Nat),wK c (p++c::l)=wK c p++wK c l
 | [],l=>by
  rw [List.nil_append,jM,if_pos rfl]
  rfl
 | a::p,l=>by
  rw [List.cons_append,jM,jM,Yp c p l]
  obtain ⟨q,r,e⟩:=VN c p
  rw [e]
  split
  ·rfl
  ·rfl
theorem Jh {c:Nat}:∀ {ps:List (List Nat)},ps≠[]->(∀ p∈ps,c ∉ p)->wK c (jn c ps)=ps
 | [],h,_=>absurd rfl h
 | [p],_,h=>jN (h p List.mem_cons_self)
 | p::q::r,_,h=>by
  show wK c (p++c::jn c (q::r))=_
  rw [Yp,jN (h p List.mem_cons_self),Jh (ps:=q::r) (by simp) fun z hz=>h z (List.mem_cons_of_mem _ hz)]
  rfl
theorem Te (c d:Nat):∀ l,jn d (wK c l)=l.map fun a=>if a=c then d else a
 | []=>rfl
 | a::l=>by
  have ih:=Te c d l
  obtain ⟨p,r,e⟩:=VN c l
  rw [jM]
  rw [e] at ih ⊢
  by_cases h:a=c
  ·rw [if_pos h,List.map_cons,if_pos h,<- ih]
   rfl
  ·rw [if_neg h,List.map_cons,if_neg h,<- ih]
   cases r<;>rfl
theorem ux (a b:Str):(a++b).cps.toList=a.cps.toList++b.cps.toList:=Array.toList_append
theorem Y8 (c:Nat):∀ ts:List Str,(Str.join ⟨#[c]⟩ ts).cps.toList=jn c (ts.map fun t=>t.cps.toList)
 | []=>rfl
 | [x]=>rfl
 | x::y::r=>by
  show (x++⟨#[c]⟩++Str.join ⟨#[c]⟩ (y::r)).cps.toList=_
  rw [ux,ux,Y8 c (y::r),List.append_assoc]
  rfl
theorem VO (x:Str) (c:Nat):(Txt.split x ⟨#[c]⟩).map (fun t=>t.cps.toList)=wK c x.cps.toList:=by
 have h1:=congrArg (fun z:Str=>z.cps.toList) (StrLaws.join_split x ⟨#[c]⟩)
 have h1:jn c ((Txt.split x ⟨#[c]⟩).map fun t=>t.cps.toList)=x.cps.toList:=(Y8 c _).symm.trans h1
 rw [<- h1,Jh]
 ·intro z
  have:=congrArg List.length z
  rw [List.length_map] at this
  have p:=PyProof.Rows.split_pos x ⟨#[c]⟩
  rw [this] at p
  exact absurd p (by decide)
 ·intro p hp
  obtain ⟨t,ht,rfl⟩:=List.mem_map.mp hp
  exact StrLaws.split_free x c t ht
theorem CT (x:Str) (c d:Nat):(Txt.replace x ⟨#[c]⟩ ⟨#[d]⟩).cps.toList=x.cps.toList.map fun a=>if a=c then d else a:=by
 rw [StrLaws.replace_one,Y8,VO,Te]
theorem Jy {c:Nat}:∀ {l:List Nat},c ∉ l->l.takeWhile (· != c)=l
 | [],_=>rfl
 | a::l,h=>by
  rw [List.takeWhile_cons_of_pos (by simp; exact fun e=>h (e ▸ List.mem_cons_self)),Jy (fun z=>h (List.mem_cons_of_mem _ z))]
theorem DU (x:Str) (c:Nat):(Txt.partition x ⟨#[c]⟩).1.cps.toList=x.cps.toList.takeWhile (· != c):=by
 have sum:=congrArg (fun z:Str=>z.cps.toList) (StrLaws.partition_sum x ⟨#[c]⟩)
 have sum:((Txt.partition x ⟨#[c]⟩).1++(Txt.partition x ⟨#[c]⟩).2.1++(Txt.partition x ⟨#[c]⟩).2.2).cps.toList=x.cps.toList:=sum
 cases h:(Builtin.Str.occurrences x ⟨#[c]⟩ 0 x.length 1).isEmpty with
 | true=>
  have e:=PyProof.Rows.empty_one x c
  rw [h] at e
  have nf:c ∉ x.cps.toList:=fun z=>by
   rw [decide_eq_true z] at e
   cases e
  rw [Jy nf]
  unfold Txt.partition
  rw [List.isEmpty_iff.mp h]
 | false=>
  have q:=PyProof.Rows.from_first_some (x:=x) (y:=⟨#[c]⟩) (z:=⟨#[c]⟩) (c:=c) rfl rfl h
  have q:=congrArg (fun z:Str=>z.cps.toList) (eq_of_beq q)
  have q:((⟨#[c]⟩:Str)++(Txt.partition x ⟨#[c]⟩).2.2).cps.toList=x.cps.toList.dropWhile (· != c):=by
   rw [show ((⟨#[c]⟩:Str)++(Txt.partition x ⟨#[c]⟩).2.2).cps.toList=(⟨(x.cps.toList.dropWhile (· != c)).toArray⟩:Str).cps.toList from q]
  have y2:(Txt.partition x ⟨#[c]⟩).2.1=⟨#[c]⟩:=by
   unfold Txt.partition
   cases ho:Builtin.Str.occurrences x ⟨#[c]⟩ 0 x.length 1 with
   | nil=>rw [ho] at h; cases h
   | cons i r=>rfl
  rw [y2,ux,ux,List.append_assoc] at sum
  rw [ux] at q
  rw [q] at sum
  have t:=List.takeWhile_append_dropWhile (p:=(· != c)) (l:=x.cps.toList)
  exact List.append_cancel_right (sum.trans t.symm)
noncomputable def tb (a:Nat):Nat:=if a=9 then 32 else a
noncomputable def W (l:List Nat):List (List Nat):=(wK 32 ((l.takeWhile (· != 59)).map tb)).filter fun p=>!p.isEmpty
noncomputable def Bl (b:Nat):Prop:=b=32\/b=9
structure Wd (w:List Nat):Prop where
 ne:w≠[]
 ok:∀ a∈w,a≠32/\a≠9/\a≠59/\a≠10
theorem Id:W []=[]:=rfl
theorem IH {w:List Nat} (h:Wd w):w.map tb=w/\32 ∉ w/\(∀ a∈w,(a != 59)=true):=by
 refine ⟨?_,fun z=>(h.ok 32 z).1 rfl,fun a ha=>by simpa using (h.ok a ha).2.2.1⟩
 have:w.map tb=w.map id:=List.map_congr_left fun a ha=>if_neg (h.ok a ha).2.1
 rw [this,List.map_id]
theorem Ie {w:List Nat} (h:Wd w) {b:Nat} (hb:Bl b) (l:List Nat):W (w++b::l)=w::W l:=by
 obtain ⟨e1,e2,e3⟩:=IH h
 unfold W
 rw [List.takeWhile_append_of_pos e3,List.takeWhile_cons_of_pos (by rcases hb with rfl | rfl<;>decide),List.map_append,e1,List.map_cons,show tb b=32 by rcases hb with rfl | rfl<;>rfl,Yp,jN e2,List.singleton_append,List.filter_cons_of_pos (by
  cases w with
  | nil=>exact absurd rfl h.ne
  | cons _ _=>rfl)]
theorem Ic {w:List Nat} (h:Wd w) {l:List Nat} (hl:l=[]\/∃ r,l=59::r):W (w++l)=[w]:=by
 obtain ⟨e1,e2,e3⟩:=IH h
 have:(w++l).takeWhile (· != 59)=w:=by
  rw [List.takeWhile_append_of_pos e3]
  rcases hl with rfl | ⟨r,rfl⟩
  ·exact List.append_nil _
  ·rw [List.takeWhile_cons_of_neg (by decide),List.append_nil]
 unfold W
 rw [this,e1,jN e2,List.filter_cons_of_pos (by
  cases w with
  | nil=>exact absurd rfl h.ne
  | cons _ _=>rfl)]
 rfl
end L3
namespace L3
open PySem
noncomputable def ve (m:Nat):List Nat:=(Nat.toDigits 10 m).map Char.toNat
theorem Ob:∀ d:Nat,d<10->(Nat.digitChar d).toNat=48+d:=by decide
theorem Zm {m:Nat} (h:m<10):ve m=[48+m]:=by
 unfold ve
 rw [Nat.toDigits_of_lt_base h,List.map_cons,List.map_nil,Ob m h]
theorem Uf {m:Nat} (h:10<=m):ve m=ve (m / 10)++[48+m % 10]:=by
 have hm:m % 10<10:=Nat.mod_lt m (by decide)
 have t:Nat.toDigits 10 (m / 10)++Nat.toDigits 10 (m % 10)=Nat.toDigits 10 (10*(m / 10)+m % 10):=Nat.toDigits_append_toDigits (by decide) (by omega) hm
 rw [Nat.div_add_mod] at t
 have e:ve (m % 10)=[48+m % 10]:=Zm hm
 unfold ve at e ⊢
 rw [<- t,List.map_append,e]
theorem Oc:∀ m:Nat,ve m≠[]/\(∀ c∈ve m,48<=c/\c<=57)/\(m≠0->(ve m).head?≠some 48):=fun m=>by
 induction m using Nat.strongRecOn with
 | _ m ih=>
  by_cases h:m<10
  ·rw [Zm h]
   refine ⟨by simp,fun c hc=>?_,fun h0 z=>?_⟩
   ·rw [List.mem_singleton.mp hc]
    omega
   ·have:48+m=48:=Option.some.inj z
    omega
  ·obtain ⟨a,b,c⟩:=ih (m / 10) (by omega)
   rw [Uf (by omega)]
   refine ⟨by simp,fun x hx=>?_,fun _=>?_⟩
   ·rcases List.mem_append.mp hx with hx | hx
    ·exact b x hx
    ·rw [List.mem_singleton.mp hx]
     omega
   ·cases e:ve (m / 10) with
    | nil=>exact absurd e a
    | cons y r=>
     have:=c (by omega)
     rw [e] at this
     exact this
theorem Ug:∀ (k m:Nat),m<10 ^ (k+1)->(ve m).length<=k+1
 | 0,m,h=>by rw [Zm (by simpa using h)]; exact Nat.le_refl _
 | k+1,m,h=>by
  by_cases c:m<10
  ·rw [Zm c]
   show 1<=_
   omega
  ·rw [Uf (by omega),List.length_append]
   have:=Ug k (m / 10) (by rw [Nat.div_lt_iff_lt_mul (by decide)]; rw [Nat.pow_succ] at h; exact h)
   simp only [List.length_cons,List.length_nil]
   omega
noncomputable def yS (n:Int):Str:=Str.ofString (toString n)
theorem Oa {n:Int} (h:0<=n):(yS n).cps.toList=ve n.toNat:=by
 have:=PySem.W.KIN.signs_num n.toNat
 rw [show ((n.toNat:Nat):Int)=n by omega] at this
 exact this
theorem Jm (z:Str) (c:Nat):Txt.startswith z ⟨#[c]⟩=decide (z.cps.toList.head?=some c):=by
 have s:=StrLaws.subAt_one z c 0
 rw [List.head?_eq_getElem?]
 refine Bool.eq_iff_iff.mpr ?_
 rw [decide_eq_true_iff,<- s]
 show (decide (0+(⟨#[c]⟩:Str).length<=z.length)&&Builtin.Str.subAt z ⟨#[c]⟩ 0)=true↔_
 rw [Bool.and_eq_true,decide_eq_true_iff]
theorem Us (z:Str) (c:Nat) (h:1<=z.length):Txt.endswith z ⟨#[c]⟩=decide (z.cps.toList[z.length - 1]?=some c):=by
 have s:=StrLaws.subAt_one z c (z.length - 1)
 refine Bool.eq_iff_iff.mpr ?_
 rw [decide_eq_true_iff,<- s]
 show (decide (0+(⟨#[c]⟩:Str).length<=z.length)&&Builtin.Str.subAt z ⟨#[c]⟩ (z.length - 1))=true↔_
 rw [Bool.and_eq_true,decide_eq_true_iff]
 have e:(⟨#[c]⟩:Str).length=1:=rfl
 rw [e]
 exact ⟨fun q=>⟨by omega,q.2⟩,fun q=>⟨by omega,q.2⟩⟩
end L3
namespace L3
open PySem
noncomputable def Vp:FE:=(e2 xK (z6 1) (eC (.str "0123456789")))
noncomputable def Zb:FS:=
 (zG (zl (v4 (tE (e2 zQ (z6 0) (eC (.str "")))) (tE (e2 (u4 fun i j=>decide (j<i)) (eL ye (z8 (z6 0) zC)) (eC (.int 5)))))
   (zk (eC .non))
   zn)
  (zG (zl (v3 (tE (eL vh (z8 (yT 1 (xl (z6 0)) (za 1) yF Vp) zC))))
   (zk (eC .non))
   zn)
  (zG (zl (ug (tE (e2 jt (z6 0) (eC (.str "0")))) (tE (e2 xc (z6 0) (eC (.str "0")))))
   (zk (eC .non))
   zn)
  (zk (eL Xq (z8 (z6 0) zC))))))
noncomputable def qY:List D->Option (Bool×D):=FR 1 1 Zb
theorem E6:∀ ds r,qY ds=some r->ds.length=1/\zZ 1 Zb ds=some r:=yZ
theorem LO (x0:D):qY [x0]=zZ 1 Zb [x0]:=rfl
noncomputable def pS:FS:=
 (zG (zl (tE (e2 zQ (z6 0) (eC (.str "n"))))
   (zk (zS qY (z8 (z6 1) zC)))
   zn)
  (zG (zl (v4 (tE (e2 zQ (z6 0) (eC (.str "d")))) (tE (e2 zQ (z6 0) (eC (.str "s")))))
   (zk (tz (tE (e2 jt (z6 1) (eC (.str "r")))) (zS qY (z8 (xM (z6 1) (yt (eC (.int 1))) xn) zC)) (eC .non)))
   zn)
  (zk (z6 1))))
noncomputable def qU:List D->Option (Bool×D):=FR 2 2 pS
theorem Ce:∀ ds r,qU ds=some r->ds.length=2/\zZ 2 pS ds=some r:=yZ
theorem W2 (x0 x1:D):qU [x0,x1]=zZ 2 pS [x0,x1]:=rfl
noncomputable def Z5:FE:=(zS qU (z8 (z6 3) (z8 (z6 4) zC)))
noncomputable def tq:FS:=
 (zG (ze 1 (e2 zM (z6 0) (eC (.int 0))))
  (zG (zl (v4 (tE (e2 zQ (z6 1) (eC (.str "label")))) (tE (e1 (uO xU) (z6 1))))
   (zk (eC .non))
   zn)
  (zG (ze 2 (e1 (vD xU vj) (z6 1)))
  (zG (zl (tE (e2 xc (eL ye (z8 (z6 0) zC)) (e2 zy (eL ye (z8 (z6 2) zC)) (eC (.int 1)))))
   (zk (eC .non))
   zn)
  (zk (eL uQ (z8 (e2 zy (yn (z8 (z6 1) zC)) (yT 2 (vS (z6 2) (xM (z6 0) (yt (eC (.int 1))) xn)) (xG 3 4) yF Z5)) zC)))))))
noncomputable def uH:List D->Option (Bool×D):=FR 1 3 tq
theorem EA:∀ ds r,uH ds=some r->ds.length=1/\zZ 3 tq ds=some r:=yZ
theorem g9 (x0:D):uH [x0]=zZ 3 tq [x0]:=rfl
noncomputable def tm:FS:=
 (zG (ze 1 (zS uH (z8 (z6 0) zC)))
  (zG (zl (ug (tE (e2 zQ (eL ye (z8 (z6 0) zC)) (eC (.int 1)))) (tE (e2 jr (e2 zM (z6 0) (eC (.int 0))) (eC (.str ":")))))
   (ze 1 (vP (z8 (eC (.str "label")) (z8 (xM (e2 zM (z6 0) (eC (.int 0))) xn (yt (e1 t_ (eC (.int 1))))) zC))))
   zn)
  (zk (tz (tE (zS wU (z8 (z6 1) zC))) (z6 1) (eC .non)))))
noncomputable def vK:List D->Option (Bool×D):=FR 1 2 tm
theorem Cn:∀ ds r,vK ds=some r->ds.length=1/\zZ 2 tm ds=some r:=yZ
theorem g8 (x0:D):vK [x0]=zZ 2 tm [x0]:=rfl
theorem Of {c:Nat} (h:48<=c/\c<=57):xK (.str ⟨#[c]⟩) (.str "0123456789")=some (.bl true):=by
 show some (D.bl (!(Builtin.Str.occurrences ("0123456789" : Str) ⟨#[c]⟩ 0 ("0123456789" : Str).length 1).isEmpty))=_
 have e:("0123456789" : Str).cps.toList=[48,49,50,51,52,53,54,55,56,57]:=by rfl
 rw [StrLaws.found_one,e,decide_eq_true (show c∈[48,49,50,51,52,53,54,55,56,57] by simp only [List.mem_cons,List.not_mem_nil,or_false]; omega)]
theorem qx (z:Str):z.cps.toList.length=z.length:=Array.length_toList
theorem Mt {z:Str} (h:z.cps.toList≠[]):zQ (.str z) (.str "")=some (.bl false):=by
 obtain ⟨⟨l⟩⟩:=z
 cases l with
 | nil=>exact absurd rfl h
 | cons a r=>rfl
theorem HX {z:Str} (h:z.cps.toList=[48]):z = "0" := by
 obtain ⟨⟨l⟩⟩:=z
 cases (show l=[48] from h)
 rfl
theorem Wa {n:Int} (h0:0<=n) (h1:n<65536):qY [.str (yS n)]=some (false,.int n)/\(yS n).length<=5/\Wd (yS n).cps.toList:=by
 have ec:=Oa h0
 obtain ⟨d1,d2,d3⟩:=Oc n.toNat
 have dl:=Ug 4 n.toNat (by show _<100000; omega)
 rw [<- ec] at d1 d2 d3 dl
 rw [qx] at dl
 have ne:=Mt d1
 have le:decide ((5:Int)<((yS n).length:Int))=false:=decide_eq_false (by omega)
 have lc:yr (za 1) yF Vp [some (false,.str (yS n)),none] ((yS n).cps.toList.map fun c=>D.str ⟨#[c]⟩)=some (((yS n).cps.toList.map fun c=>D.str ⟨#[c]⟩).map fun _=>D.bl true):=vU (fun _=>.bl true) fun d hd=>by
  obtain ⟨c,hc,rfl⟩:=List.mem_map.mp hd
  have:=Of (d2 c hc)
  refine ⟨_,rfl,?_⟩
  unfold Vp
  simp! [this]
 have al:vh [.lst (((yS n).cps.toList.map fun c=>D.str ⟨#[c]⟩).map fun _=>D.bl true)]=some (.bl true):=by
  have:=ZJ (((yS n).cps.toList.map fun c=>D.str ⟨#[c]⟩).map fun _=>true)
  rw [List.map_map] at this
  have e:(((yS n).cps.toList.map fun c=>D.str ⟨#[c]⟩).map fun _=>true).all id=true:=List.all_eq_true.mpr fun x hx=>by
   obtain ⟨_,_,rfl⟩:=List.mem_map.mp hx
   rfl
  rw [e] at this
  exact this
 have it:Xq [.str (yS n)]=some (.int n):=by
  show (if (yS n).length<=640 then (PySem.intText? (yS n)).bind _ else none)=_
  rw [if_pos (by omega),show PySem.intText? (yS n)=some n from PySem.W.KIN.num_reads h0 (by omega)]
  rfl
 refine ⟨?_,dl,⟨d1,fun a ha=>by have:=d2 a ha; omega⟩⟩
 have ln:ye [.str (yS n)]=some (.int (yS n).length):=rfl
 have st:jt (.str (yS n)) (.str "0")=some (.bl (decide ((yS n).cps.toList.head?=some 48))):=by
  show some (D.bl (Txt.startswith (yS n) ⟨#[48]⟩))=_
  rw [Jm]
 rw [LO]
 unfold Zb
 by_cases hz:n=0
 ·have e0:yS n = "0" := HX (by rw [ec,hz]; rfl)
  have nz:xc (.str (yS n)) (.str "0")=some (.bl false):=by rw [e0]; rfl
  have hd:(yS n).cps.toList.head?=some 48:=by rw [ec,hz]; rfl
  rw [decide_eq_true hd] at st
  generalize yS n=Z at *
  generalize ((Z.cps.toList.map fun c=>D.str ⟨#[c]⟩).map fun _=>D.bl true)=ZB at *
  simp! [ne,ln,le,lc,al,st,nz,it]
 ·rw [decide_eq_false (d3 (by omega))] at st
  generalize yS n=Z at *
  generalize ((Z.cps.toList.map fun c=>D.str ⟨#[c]⟩).map fun _=>D.bl true)=ZB at *
  simp! [ne,ln,le,lc,al,st,it]
structure Pt (f:Str) (k d:D) (z:Str):Prop where
 ft:qU [.str f,.str z]=some (false,d)
 lt:∃ (sd:Str) (b:Bool),ju [d]=some (.str sd)/\zy (.str "r") (.str sd)=some (.str ("r" ++ sd))/\zQ k (.int 8)=some (.bl b)/\zM (.lst [.str sd,.str ("r" ++ sd)]) (.int (if b=true then 1 else 0))=some (.str z)
 ln:z.length<=20
 wd:Wd z.cps.toList
theorem YM {n:Int} (h0:0<=n) (h1:n<100000):vn n=true:=decide_eq_true (by
 by_cases e:n.natAbs=0
 ·rw [e]; decide
 ·have p:(2:Nat) ^ 17=131072:=by decide
  have:n.natAbs.log2<17:=(Nat.log2_lt e).mpr (by omega)
  omega)
theorem str_int {n:Int} (h:vn n=true):ju [.int n]=some (.str (yS n)):=by
 show (match vn n with | true=>_ | false=>_)=_
 rw [h]
 rfl
theorem XL {x:Str} (h:x.length<=2000):zy (.str "r") (.str x)=some (.str ("r" ++ x)):=add_str (by show 1+_<=_; omega)
theorem Yc (x:Str):(("r" : Str)++x).cps.toList=114::x.cps.toList:=by rw [ux]; rfl
theorem CM (x:Str):L2.cutS (("r" : Str)++x) (some 1) none=x:=by
 have e:(L2.cutS (("r" : Str)++x) (some 1) none).cps.toList=x.cps.toList:=by
  show (((("r" : Str)++x).cps.toList.drop (HT.sIx (("r" : Str)++x).length 0 (some 1))).take (HT.sIx (("r" : Str)++x).length (("r" : Str)++x).length none - HT.sIx (("r" : Str)++x).length 0 (some 1)))=_
  have e1:HT.sIx (("r" : Str)++x).length 0 (some 1)=1:=by
   have:=HT.sIx_nat (("r" : Str)++x).length 0 1
   rw [show (((1:Nat):Int))=1 from rfl] at this
   rw [this,u9]
   show min 1 (1+x.length)=1
   omega
  rw [e1,Yc]
  show (x.cps.toList.take _)=_
  refine List.take_of_length_le ?_
  rw [qx]
  show _<=(("r" : Str)++x).length - 1
  rw [u9]
  show _<=1+x.length - 1
  omega
 obtain ⟨⟨l⟩⟩:=x
 generalize L2.cutS _ _ _=C at e
 obtain ⟨⟨m⟩⟩:=C
 cases (show m=l from e)
 rfl
theorem Fn {m n:Int} (hm:m≠8) (n0:0<=n) (n1:n<65536):Pt "n" (.int m) (.int n) (yS n):=by
 obtain ⟨a,b,c⟩:=Wa n0 n1
 have e:zQ (.str "n") (.str "n")=some (.bl true):=by rfl
 refine ⟨?_,⟨yS n,false,str_int (YM n0 (by omega)),XL (by omega),uS hm,rfl⟩,by omega,c⟩
 rw [W2]
 unfold pS
 simp! [e,a]
theorem Fp {f:Str} {n:Int} (hf:f = "d" \/ f = "s") (n0:0<=n) (n1:n<8):Pt f (.int 8) (.int n) ("r" ++ yS n):=by
 obtain ⟨a,b,c⟩:=Wa n0 (by omega)
 have st:jt (.str ("r" ++ yS n)) (.str "r")=some (.bl true):=by
  show some (D.bl (Txt.startswith (("r" : Str)++yS n) ⟨#[114]⟩))=_
  rw [Jm,Yc]
  rfl
 have sl:vE (.str ("r" ++ yS n)) (some 1) none=some (.str (yS n)):=by
  show some (D.str (L2.cutS (("r" : Str)++yS n) (some 1) none))=_
  rw [CM]
 refine ⟨?_,⟨yS n,true,str_int (YM n0 (by omega)),XL (by omega),by rfl,rfl⟩,by rw [u9]; show 1+_<=_; omega,⟨by rw [Yc]; simp,fun x hx=>?_⟩⟩
 ·have g1:zQ (.str f) (.str "n")=some (.bl false):=by rcases hf with rfl | rfl<;>rfl
  rw [W2]
  unfold pS
  generalize ("r" : Str)++yS n=Z at *
  rcases hf with rfl | rfl
  ·have e2:zQ (.str "d") (.str "d")=some (.bl true):=by rfl
   simp! [g1,e2,xM,yt,xn,st,sl,a]
  ·have e2:zQ (.str "s") (.str "d")=some (.bl false):=by rfl
   have e3:zQ (.str "s") (.str "s")=some (.bl true):=by rfl
   simp! [g1,e2,e3,xM,yt,xn,st,sl,a]
 ·rw [Yc] at hx
  rcases List.mem_cons.mp hx with rfl | hx
  ·decide
  ·exact c.ok x hx
theorem Fq {f t u:Str} (hf:f = "name" \/ f = "mark") (ht:t.length<=20) (hw:Wd t.cps.toList):Pt f (.str u) (.str t) t:=by
 refine ⟨?_,⟨t,false,rfl,XL (by omega),by rfl,rfl⟩,ht,hw⟩
 have e1:zQ (.str f) (.str "n")=some (.bl false):=by rcases hf with rfl | rfl<;>rfl
 have e2:zQ (.str f) (.str "d")=some (.bl false):=by rcases hf with rfl | rfl<;>rfl
 have e3:zQ (.str f) (.str "s")=some (.bl false):=by rcases hf with rfl | rfl<;>rfl
 rw [W2]
 unfold pS
 simp! [e1,e2,e3]
theorem gE {sep:Str} {ts:List Str} (h:(ts.map (·.length)).sum+ts.length*sep.length<=16777216):uP (.str sep) (.lst (ts.map D.str))=some (.str (Builtin.Str.glued sep ts)):=by
 show (qP _).bind _=_
 rw [VT]
 show (if _<=yO then _ else _)=_
 rw [if_pos h]
end L3
namespace L3
open PySem
theorem WT {t:Str} (h1:1<=t.length) (h:vF t=true):Wd t.cps.toList:=⟨fun z=>by
 have:=qx t
 rw [z] at this
 simp only [List.length_nil] at this
 omega,fun a ha=>by
 have q:=List.all_eq_true.mp h a ha
 rw [Bool.and_eq_true] at q
 have:=of_decide_eq_true q.1
 omega⟩
theorem OR {z:Str} (h:58∈z.cps.toList):uO xU (.str z)=some (.bl true):=by
 have no:z_ xU (.inr z)=false:=by
  cases c:z_ xU (.inr z) with
  | false=>rfl
  | true=>
   obtain ⟨j,hj,e⟩:=List.any_eq_true.mp c
   have e:=of_decide_eq_true e
   have all:(xU.all fun j=>match j with | .inr s=>decide (58 ∉ s.cps.toList) | .inl _=>false)=true:=by decide +kernel
   have:=List.all_eq_true.mp all j hj
   rw [e] at this
   exact absurd h (of_decide_eq_true this)
 show some (D.bl (!z_ xU (.inr z)))=_
 rw [no]
 rfl
theorem OS {z:Str} (h:58∈z.cps.toList):zQ (.str z) (.str "label")=some (.bl false):=by
 have ne:z ≠ "label" := fun e=>by
  rw [e] at h
  revert h
  decide
 show (vi (.str z) (.str "label")).bind _=_
 have:vi (.str z) (.str "label")=some (z == "label"):=rfl
 rw [this,beq_eq_false_iff_ne.mpr ne]
 rfl
theorem Ir {t:Str}:L2.cutS (t ++ ":") none (some (-1))=t:=by
 have ln:(t ++ ":").length=t.length+1:=u9 t ":"
 have e:(L2.cutS (t ++ ":") none (some (-1))).cps.toList=t.cps.toList:=by
  show (((t ++ ":").cps.toList.drop (HT.sIx (t ++ ":").length 0 none)).take (HT.sIx (t ++ ":").length (t ++ ":").length (some (-1)) - HT.sIx (t ++ ":").length 0 none))=_
  have e1:HT.sIx (t ++ ":").length 0 none=0:=rfl
  have e2:HT.sIx (t ++ ":").length (t ++ ":").length (some (-1))=t.length:=by
   rw [ln]
   unfold HT.sIx
   simp
   omega
  rw [e1,e2,ux]
  show (t.cps.toList++[58]).take (t.length - 0)=_
  rw [Nat.sub_zero,<- qx t,List.take_left']
  rfl
 obtain ⟨⟨l⟩⟩:=t
 generalize L2.cutS _ _ _=C at e
 obtain ⟨⟨m⟩⟩:=C
 cases (show m=l from e)
 rfl
end L3
namespace L3
open PySem
noncomputable def pR:FS:=
 (zG (zl (tE (e2 zQ (z6 0) (eC (.str "n"))))
   (zk (eL ju (z8 (z6 1) zC)))
   zn)
  (zG (zl (v4 (tE (e2 zQ (z6 0) (eC (.str "d")))) (tE (e2 zQ (z6 0) (eC (.str "s")))))
   (zk (Zp (j0 (eC (.str "r")) (j0 (e1 Zt (z6 1)) Y7))))
   zn)
  (zk (z6 1))))
noncomputable def ui:List D->Option (Bool×D):=FR 2 2 pR
theorem Cd:∀ ds r,ui ds=some r->ds.length=2/\zZ 2 pR ds=some r:=yZ
theorem W1 (x0 x1:D):ui [x0,x1]=zZ 2 pR [x0,x1]:=rfl
noncomputable def Z1:FE:=(zS ui (z8 (z6 2) (z8 (z6 3) zC)))
noncomputable def tj:FS:=
 (zG (zl (tE (zS w8 (z8 (z6 0) zC)))
   (zk (e2 zy (e2 zM (z6 0) (eC (.int 1))) (eC (.str ":"))))
   zn)
  (zG (ze 1 (e1 (vD xU vj) (e2 zM (z6 0) (eC (.int 0)))))
  (zk (e2 uP (eC (.str " ")) (e2 zy (yn (z8 (e2 zM (z6 0) (eC (.int 0))) zC)) (yT 2 (vS (z6 1) (xM (z6 0) (yt (eC (.int 1))) xn)) (xG 2 3) yF Z1))))))
noncomputable def uG:List D->Option (Bool×D):=FR 1 2 tj
theorem Cm:∀ ds r,uG ds=some r->ds.length=1/\zZ 2 tj ds=some r:=yZ
theorem g7 (x0:D):uG [x0]=zZ 2 tj [x0]:=rfl
theorem Ox {n:Int} (h:vn n=true):Zt (.int n)=some (.str (yS n)):=by
 show (match vn n with | true=>_ | false=>_)=_
 rw [h]
 rfl
theorem Ol (x:Str):Str.empty++x=x:=by
 cases x with
 | mk c=>
  show (⟨#[]++c⟩:Str)=⟨c⟩
  rw [Array.empty_append]
theorem Oz {n:Int} (h:vn n=true):ui [.str "n",.int n]=some (false,.str (yS n)):=by
 have e:zQ (.str "n") (.str "n")=some (.bl true):=by rfl
 have s:=str_int h
 rw [W1]
 unfold pR
 simp! [e,s]
theorem O_ {f:Str} {n:Int} (hf:f = "d" \/ f = "s") (h:vn n=true) (l:(yS n).length<=2000):ui [.str f,.int n]=some (false,.str ("r" ++ yS n)):=by
 have g1:zQ (.str f) (.str "n")=some (.bl false):=by rcases hf with rfl | rfl<;>rfl
 have s:=Ox h
 have j:Zp (j0 (eC (.str "r")) (j0 (e1 Zt (z6 1)) Y7)) [some (false,.str f),some (false,.int n)]=some (.str ("r" ++ yS n)):=by
  have c1:("r" : Str).length<=yO:=by decide
  have c2:(("r" : Str)++yS n).length<=yO:=by rw [u9]; show 1+_<=16777216; omega
  simp! [Zp,j0,Y7,s,Ol,if_pos c1,if_pos c2]
 rw [W1]
 unfold pR
 rcases hf with rfl | rfl
 ·have e2:zQ (.str "d") (.str "d")=some (.bl true):=by rfl
  simp! [g1,e2,j]
 ·have e2:zQ (.str "s") (.str "d")=some (.bl false):=by rfl
  have e3:zQ (.str "s") (.str "s")=some (.bl true):=by rfl
  simp! [g1,e2,e3,j]
theorem L0 {f t:Str} (hf:f = "name" \/ f = "mark"):ui [.str f,.str t]=some (false,.str t):=by
 have e1:zQ (.str f) (.str "n")=some (.bl false):=by rcases hf with rfl | rfl<;>rfl
 have e2:zQ (.str f) (.str "d")=some (.bl false):=by rcases hf with rfl | rfl<;>rfl
 have e3:zQ (.str f) (.str "s")=some (.bl false):=by rcases hf with rfl | rfl<;>rfl
 rw [W1]
 unfold pR
 simp! [e1,e2,e3]
structure Pq (f:Str) (d:D) (z:Str):Prop where
 tx:ui [.str f,d]=some (false,.str z)
 ft:qU [.str f,.str z]=some (false,d)
 ln:z.length<=20
 wd:Wd z.cps.toList
theorem Wu {n:Int} (n0:0<=n) (n1:n<65536):Pq "n" (.int n) (yS n):=by
 have p:=Fn (m:=9) (by decide) n0 n1
 exact ⟨Oz (YM n0 (by omega)),p.ft,p.ln,p.wd⟩
theorem jF {f:Str} {n:Int} (hf:f = "d" \/ f = "s") (n0:0<=n) (n1:n<8):Pq f (.int n) ("r" ++ yS n):=by
 have p:=Fp hf n0 n1
 have:=(Wa n0 (by omega)).2.1
 exact ⟨O_ hf (YM n0 (by omega)) (by omega),p.ft,p.ln,p.wd⟩
theorem Wv {f t:Str} (hf:f = "name" \/ f = "mark") (ht:t.length<=20) (hw:Wd t.cps.toList):Pq f (.str t) t:=by
 have p:=Fq (u := "name") hf ht hw
 exact ⟨L0 hf,p.ft,p.ln,p.wd⟩
theorem HG {w:Str} (hl:zQ (.str w) (.str "label")=some (.bl false)) (hw:w.length<=20) (hin:uO xU (.str w)=some (.bl false)) (hF:vD xU vj (.str w)=some (.tup [])) (hi:wU [.tup [.str w]]=some (false,.bl true)) (he:jr (.str w) (.str ":")=some (.bl false)) :
  uG [.tup [.str w]]=some (false,.str (Builtin.Str.glued " " [w]))/\vK [.lst [.str w]]=some (false,.tup [.str w]):=by
 have jn:uP (.str " ") (.lst [.str w])=some (.str (Builtin.Str.glued " " [w])):=gE (ts:=[w]) (by show w.length+0+1*1<=_; omega)
 have sl:vE (.lst [.str w]) (some 1) none=some (.lst []):=by rfl
 have st:vE (.tup [.str w]) (some 1) none=some (.tup []):=by rfl
 have ad:=ur (L:=[.str w]) (M:=[]) (by show 1+0<=_; omega)
 rw [show [D.str w]++[]=[.str w] from rfl] at ad
 have at_:=ur (L:=[.str w]) (M:=[]) (by show 1+0<=_; omega)
 rw [show [D.str w]++[]=[.str w] from rfl] at at_
 have x0:zM (.lst [.str w]) (.int 0)=some (.str w):=rfl
 have ln:ye [.lst [.str w]]=some (.int 1):=rfl
 have lf:ye [.tup []]=some (.int 0):=rfl
 have tp:uQ [.lst [.str w]]=some (.tup [.str w]):=rfl
 have nn:xc (.int ((1:Nat):Int)) (.int (((0:Nat):Int)+1))=some (.bl false):=rfl
 have n1:zQ (.int ((1:Nat):Int)) (.int 1)=some (.bl true):=rfl
 have rt:uH [.lst [.str w]]=some (false,.tup [.str w]):=by
  rw [g9]
  unfold tq
  simp! [x0,hl,hin,hF,ln,lf,nn,add_int,vS,xM,yt,xn,sl,vv,List.zipWith_cons_cons,List.zipWith_nil_left,Z5,yr,yF,xG,ad,tp]
 have il:w8 [.tup [.str w]]=some (false,.bl false):=by rw [g6]; unfold tf; simp! [u8,hl]
 constructor
 ·rw [g7]
  unfold tj
  simp! [il,u8,hF,vS,xM,yt,xn,st,vv,List.zipWith_cons_cons,List.zipWith_nil_left,Z1,yr,yF,xG,at_,jn]
 ·rw [g8]
  unfold tm
  generalize D.tup [.str w]=TT at *
  simp! [rt,ln,n1,x0,he,hi]
theorem HH {w f1 z1:Str} {d1:D} (hl:zQ (.str w) (.str "label")=some (.bl false)) (hw:w.length<=20) (hin:uO xU (.str w)=some (.bl false)) (hF:vD xU vj (.str w)=some (.tup [.str f1])) (P1:Pq f1 d1 z1) (hi:wU [.tup [.str w,d1]]=some (false,.bl true)) :
  uG [.tup [.str w,d1]]=some (false,.str (Builtin.Str.glued " " [w,z1]))/\vK [.lst [.str w,.str z1]]=some (false,.tup [.str w,d1]):=by
 obtain ⟨t1,g1,l1,_⟩:=P1
 have jn:uP (.str " ") (.lst [.str w,.str z1])=some (.str (Builtin.Str.glued " " [w,z1])):=gE (ts:=[w,z1]) (by show w.length+(z1.length+0)+2*1<=_; omega)
 have sl:vE (.lst [.str w,.str z1]) (some 1) none=some (.lst [.str z1]):=by rfl
 have st:vE (.tup [.str w,d1]) (some 1) none=some (.tup [d1]):=by rfl
 have ad:=ur (L:=[.str w]) (M:=[d1]) (by show 1+1<=_; omega)
 rw [show [D.str w]++[d1]=[.str w,d1] from rfl] at ad
 have at_:=ur (L:=[.str w]) (M:=[.str z1]) (by show 1+1<=_; omega)
 rw [show [D.str w]++[.str z1]=[.str w,.str z1] from rfl] at at_
 have x0:zM (.lst [.str w,.str z1]) (.int 0)=some (.str w):=rfl
 have ln:ye [.lst [.str w,.str z1]]=some (.int 2):=rfl
 have lf:ye [.tup [.str f1]]=some (.int 1):=rfl
 have tp:uQ [.lst [.str w,d1]]=some (.tup [.str w,d1]):=rfl
 have nn:xc (.int ((2:Nat):Int)) (.int (((1:Nat):Int)+1))=some (.bl false):=rfl
 have n1:zQ (.int ((2:Nat):Int)) (.int 1)=some (.bl false):=rfl
 have rt:uH [.lst [.str w,.str z1]]=some (false,.tup [.str w,d1]):=by
  rw [g9]
  unfold tq
  simp! [x0,hl,hin,hF,ln,lf,nn,add_int,vS,xM,yt,xn,sl,vv,List.zipWith_cons_cons,List.zipWith_nil_left,Z5,yr,yF,xG,g1,ad,tp]
 have il:w8 [.tup [.str w,d1]]=some (false,.bl false):=by rw [g6]; unfold tf; simp! [u8,hl]
 constructor
 ·rw [g7]
  unfold tj
  simp! [il,u8,hF,vS,xM,yt,xn,st,vv,List.zipWith_cons_cons,List.zipWith_nil_left,Z1,yr,yF,xG,t1,at_,jn]
 ·rw [g8]
  unfold tm
  generalize D.tup [.str w,d1]=TT at *
  simp! [rt,ln,n1,x0,hi]
theorem Yx {w f1 f2 z1 z2:Str} {d1 d2:D} (hl:zQ (.str w) (.str "label")=some (.bl false)) (hw:w.length<=20) (hin:uO xU (.str w)=some (.bl false)) (hF:vD xU vj (.str w)=some (.tup [.str f1,.str f2])) (P1:Pq f1 d1 z1) (P2:Pq f2 d2 z2) (hi:wU [.tup [.str w,d1,d2]]=some (false,.bl true)) :
  uG [.tup [.str w,d1,d2]]=some (false,.str (Builtin.Str.glued " " [w,z1,z2]))/\vK [.lst [.str w,.str z1,.str z2]]=some (false,.tup [.str w,d1,d2]):=by
 obtain ⟨t1,g1,l1,_⟩:=P1
 obtain ⟨t2,g2,l2,_⟩:=P2
 have jn:uP (.str " ") (.lst [.str w,.str z1,.str z2])=some (.str (Builtin.Str.glued " " [w,z1,z2])):=gE (ts:=[w,z1,z2]) (by show w.length+(z1.length+(z2.length+0))+3*1<=_; omega)
 have sl:vE (.lst [.str w,.str z1,.str z2]) (some 1) none=some (.lst [.str z1,.str z2]):=by rfl
 have st:vE (.tup [.str w,d1,d2]) (some 1) none=some (.tup [d1,d2]):=by rfl
 have ad:=ur (L:=[.str w]) (M:=[d1,d2]) (by show 1+2<=_; omega)
 rw [show [D.str w]++[d1,d2]=[.str w,d1,d2] from rfl] at ad
 have at_:=ur (L:=[.str w]) (M:=[.str z1,.str z2]) (by show 1+2<=_; omega)
 rw [show [D.str w]++[.str z1,.str z2]=[.str w,.str z1,.str z2] from rfl] at at_
 have x0:zM (.lst [.str w,.str z1,.str z2]) (.int 0)=some (.str w):=rfl
 have ln:ye [.lst [.str w,.str z1,.str z2]]=some (.int 3):=rfl
 have lf:ye [.tup [.str f1,.str f2]]=some (.int 2):=rfl
 have tp:uQ [.lst [.str w,d1,d2]]=some (.tup [.str w,d1,d2]):=rfl
 have nn:xc (.int ((3:Nat):Int)) (.int (((2:Nat):Int)+1))=some (.bl false):=rfl
 have n1:zQ (.int ((3:Nat):Int)) (.int 1)=some (.bl false):=rfl
 have rt:uH [.lst [.str w,.str z1,.str z2]]=some (false,.tup [.str w,d1,d2]):=by
  rw [g9]
  unfold tq
  simp! [x0,hl,hin,hF,ln,lf,nn,add_int,vS,xM,yt,xn,sl,vv,List.zipWith_cons_cons,List.zipWith_nil_left,Z5,yr,yF,xG,g1,g2,ad,tp]
 have il:w8 [.tup [.str w,d1,d2]]=some (false,.bl false):=by rw [g6]; unfold tf; simp! [u8,hl]
 constructor
 ·rw [g7]
  unfold tj
  simp! [il,u8,hF,vS,xM,yt,xn,st,vv,List.zipWith_cons_cons,List.zipWith_nil_left,Z1,yr,yF,xG,t1,t2,at_,jn]
 ·rw [g8]
  unfold tm
  generalize D.tup [.str w,d1,d2]=TT at *
  simp! [rt,ln,n1,x0,hi]
theorem HI {w f1 f2 f3 z1 z2 z3:Str} {d1 d2 d3:D} (hl:zQ (.str w) (.str "label")=some (.bl false)) (hw:w.length<=20) (hin:uO xU (.str w)=some (.bl false)) (hF:vD xU vj (.str w)=some (.tup [.str f1,.str f2,.str f3])) (P1:Pq f1 d1 z1) (P2:Pq f2 d2 z2) (P3:Pq f3 d3 z3) (hi:wU [.tup [.str w,d1,d2,d3]]=some (false,.bl true)) :
  uG [.tup [.str w,d1,d2,d3]]=some (false,.str (Builtin.Str.glued " " [w,z1,z2,z3]))/\vK [.lst [.str w,.str z1,.str z2,.str z3]]=some (false,.tup [.str w,d1,d2,d3]):=by
 obtain ⟨t1,g1,l1,_⟩:=P1
 obtain ⟨t2,g2,l2,_⟩:=P2
 obtain ⟨t3,g3,l3,_⟩:=P3
 have jn:uP (.str " ") (.lst [.str w,.str z1,.str z2,.str z3])=some (.str (Builtin.Str.glued " " [w,z1,z2,z3])):=gE (ts:=[w,z1,z2,z3]) (by show w.length+(z1.length+(z2.length+(z3.length+0)))+4*1<=_; omega)
 have sl:vE (.lst [.str w,.str z1,.str z2,.str z3]) (some 1) none=some (.lst [.str z1,.str z2,.str z3]):=by rfl
 have st:vE (.tup [.str w,d1,d2,d3]) (some 1) none=some (.tup [d1,d2,d3]):=by rfl
 have ad:=ur (L:=[.str w]) (M:=[d1,d2,d3]) (by show 1+3<=_; omega)
 rw [show [D.str w]++[d1,d2,d3]=[.str w,d1,d2,d3] from rfl] at ad
 have at_:=ur (L:=[.str w]) (M:=[.str z1,.str z2,.str z3]) (by show 1+3<=_; omega)
 rw [show [D.str w]++[.str z1,.str z2,.str z3]=[.str w,.str z1,.str z2,.str z3] from rfl] at at_
 have x0:zM (.lst [.str w,.str z1,.str z2,.str z3]) (.int 0)=some (.str w):=rfl
 have ln:ye [.lst [.str w,.str z1,.str z2,.str z3]]=some (.int 4):=rfl
 have lf:ye [.tup [.str f1,.str f2,.str f3]]=some (.int 3):=rfl
 have tp:uQ [.lst [.str w,d1,d2,d3]]=some (.tup [.str w,d1,d2,d3]):=rfl
 have nn:xc (.int ((4:Nat):Int)) (.int (((3:Nat):Int)+1))=some (.bl false):=rfl
 have n1:zQ (.int ((4:Nat):Int)) (.int 1)=some (.bl false):=rfl
 have rt:uH [.lst [.str w,.str z1,.str z2,.str z3]]=some (false,.tup [.str w,d1,d2,d3]):=by
  rw [g9]
  unfold tq
  simp! [x0,hl,hin,hF,ln,lf,nn,add_int,vS,xM,yt,xn,sl,vv,List.zipWith_cons_cons,List.zipWith_nil_left,Z5,yr,yF,xG,g1,g2,g3,ad,tp]
 have il:w8 [.tup [.str w,d1,d2,d3]]=some (false,.bl false):=by rw [g6]; unfold tf; simp! [u8,hl]
 constructor
 ·rw [g7]
  unfold tj
  simp! [il,u8,hF,vS,xM,yt,xn,st,vv,List.zipWith_cons_cons,List.zipWith_nil_left,Z1,yr,yF,xG,t1,t2,t3,at_,jn]
 ·rw [g8]
  unfold tm
  generalize D.tup [.str w,d1,d2,d3]=TT at *
  simp! [rt,ln,n1,x0,hi]
theorem Lr {N:List Str} (hN:qe N) {d:D} (h:qd N d):∃ ws:List Str,ws≠[]/\ws.length<=4/\(∀ w∈ws,Wd w.cps.toList/\w.length<=20)/\uG [d]=some (false,.str (Builtin.Str.glued " " ws))/\vK [.lst (ws.map D.str)]=some (false,d):=by
 have hi:=Tx hN h
 have one:∀ {w:Str} {zs:List Str},w.length<=20->Wd w.cps.toList->(∀ z∈zs,Wd z.cps.toList/\z.length<=20)->∀ x∈w::zs,Wd x.cps.toList/\x.length<=20:=fun a b c x hx=>by
  rcases List.mem_cons.mp hx with rfl | hx
  ·exact ⟨b,a⟩
  ·exact c x hx
 have nil_:∀ z∈([]:List Str),Wd z.cps.toList/\z.length<=20:=fun _ h=>by cases h
 rcases h with h | ⟨t,ht,rfl⟩
 ·cases h with
  | plain h=>
   cases h with
   | stop=>
    have he:jr (.str "stop") (.str ":")=some (.bl false):=by
     show some (D.bl (Txt.endswith ("stop" : Str) ⟨#[58]⟩))=_
     rw [Us _ _ (by decide)]
     rfl
    obtain ⟨a,b⟩:=HG (w := "stop") (by rfl) (by decide) (by rfl) (by rfl) hi he
    exact ⟨["stop"],by simp,by simp,one (by decide) ⟨by decide,by decide⟩ nil_,a,b⟩
   | imm hw d0 d1 z0 z1=>
    rename_i w x n
    have p1:=jF (f := "d") (.inl rfl) d0 d1
    have p2:=Wu z0 z1
    obtain ⟨a,b⟩:=Yx (w:=w) (f1 := "d") (f2 := "n") (by rcases hw with rfl | rfl<;>rfl) (by rcases hw with rfl | rfl<;>decide) (by rcases hw with rfl | rfl<;>rfl) (by rcases hw with rfl | rfl<;>rfl) p1 p2 hi
    exact ⟨_,by simp,by simp,one (by rcases hw with rfl | rfl<;>decide) (by rcases hw with rfl | rfl<;>exact ⟨by decide,by decide⟩) (one p1.ln p1.wd (one p2.ln p2.wd nil_)),a,b⟩
   | mov hw d0 d1 z0 z1=>
    rename_i w x n
    have p1:=jF (f := "d") (.inl rfl) d0 d1
    have p2:=Wu z0 (by omega)
    obtain ⟨a,b⟩:=Yx (w:=w) (f1 := "d") (f2 := "n") (by rcases hw with rfl | rfl<;>rfl) (by rcases hw with rfl | rfl<;>decide) (by rcases hw with rfl | rfl<;>rfl) (by rcases hw with rfl | rfl<;>rfl) p1 p2 hi
    exact ⟨_,by simp,by simp,one (by rcases hw with rfl | rfl<;>decide) (by rcases hw with rfl | rfl<;>exact ⟨by decide,by decide⟩) (one p1.ln p1.wd (one p2.ln p2.wd nil_)),a,b⟩
   | two hw d0 d1 z0 z1=>
    rename_i w x n
    have p1:=jF (f := "d") (.inl rfl) d0 d1
    have p2:=jF (f := "s") (.inr rfl) z0 z1
    obtain ⟨a,b⟩:=Yx (w:=w) (f1 := "d") (f2 := "s") (by rcases hw with rfl | rfl | rfl | rfl | rfl | rfl | rfl | rfl | rfl<;>rfl) (by rcases hw with rfl | rfl | rfl | rfl | rfl | rfl | rfl | rfl | rfl<;>decide) (by rcases hw with rfl | rfl | rfl | rfl | rfl | rfl | rfl | rfl | rfl<;>rfl) (by rcases hw with rfl | rfl | rfl | rfl | rfl | rfl | rfl | rfl | rfl<;>rfl) p1 p2 hi
    exact ⟨_,by simp,by simp,one (by rcases hw with rfl | rfl | rfl | rfl | rfl | rfl | rfl | rfl | rfl<;>decide) (by rcases hw with rfl | rfl | rfl | rfl | rfl | rfl | rfl | rfl | rfl<;>exact ⟨by decide,by decide⟩) (one p1.ln p1.wd (one p2.ln p2.wd nil_)),a,b⟩
   | mem hw d0 d1 z0 z1 y0 y1=>
    rename_i w x n m
    have p1:=jF (f := "d") (.inl rfl) d0 d1
    have p2:=jF (f := "s") (.inr rfl) z0 z1
    have p3:=Wu y0 (by omega)
    obtain ⟨a,b⟩:=HI (w:=w) (f1 := "d") (f2 := "s") (f3 := "n") (by rcases hw with rfl | rfl | rfl | rfl<;>rfl) (by rcases hw with rfl | rfl | rfl | rfl<;>decide) (by rcases hw with rfl | rfl | rfl | rfl<;>rfl) (by rcases hw with rfl | rfl | rfl | rfl<;>rfl) p1 p2 p3 hi
    exact ⟨_,by simp,by simp,one (by rcases hw with rfl | rfl | rfl | rfl<;>decide) (by rcases hw with rfl | rfl | rfl | rfl<;>exact ⟨by decide,by decide⟩) (one p1.ln p1.wd (one p2.ln p2.wd (one p3.ln p3.wd nil_))),a,b⟩
  | jump ht=>
   rename_i t
   obtain ⟨l1,l2,l3⟩:=YK (hN.ok t ht)
   have p1:=Wv (f := "name") (.inl rfl) (by omega) (WT l1 l3)
   obtain ⟨a,b⟩:=HH (w := "jump") (f1 := "name") (by rfl) (by decide) (by rfl) (by rfl) p1 hi
   exact ⟨_,by simp,by simp,one (by decide) ⟨by decide,by decide⟩ (one p1.ln p1.wd nil_),a,b⟩
  | cond hw hk ht=>
   rename_i w k0 t
   obtain ⟨l1,l2,l3⟩:=YK (hN.ok t ht)
   have p1:=Wv (f := "mark") (t:=k0) (.inr rfl) (by rcases hk with rfl | rfl | rfl<;>decide) (by rcases hk with rfl | rfl | rfl<;>exact ⟨by decide,by decide⟩)
   have p2:=Wv (f := "name") (.inl rfl) (by omega) (WT l1 l3)
   obtain ⟨a,b⟩:=Yx (w:=w) (f1 := "mark") (f2 := "name") (by rcases hw with rfl | rfl<;>rfl) (by rcases hw with rfl | rfl<;>decide) (by rcases hw with rfl | rfl<;>rfl) (by rcases hw with rfl | rfl<;>rfl) p1 p2 hi
   exact ⟨_,by simp,by simp,one (by rcases hw with rfl | rfl<;>decide) (by rcases hw with rfl | rfl<;>exact ⟨by decide,by decide⟩) (one p1.ln p1.wd (one p2.ln p2.wd nil_)),a,b⟩
 ·obtain ⟨l1,l2,l3⟩:=YK (hN.ok t ht)
  have wd:=WT l1 l3
  have zc:(t ++ ":").cps.toList=t.cps.toList++[58]:=ux t ":"
  have hz:58∈(t ++ ":").cps.toList:=by rw [zc]; exact List.mem_append_right _ List.mem_cons_self
  have ln:(t ++ ":").length=t.length+1:=u9 t ":"
  have c1:=OR hz
  have c2:=OS hz
  have c3:jr (.str (t ++ ":")) (.str ":")=some (.bl true):=by
   show some (D.bl (Txt.endswith (t ++ ":") ⟨#[58]⟩))=_
   rw [Us _ _ (by omega),zc,ln,Nat.add_sub_cancel,<- qx t,List.getElem?_append_right (Nat.le_refl _),Nat.sub_self]
   rfl
  have c4:vE (.str (t ++ ":")) none (some (-1))=some (.str t):=by
   show some (D.str (L2.cutS (t ++ ":") none (some (-1))))=_
   rw [Ir]
  have ad:zy (.str t) (.str ":")=some (.str (t ++ ":")):=add_str (by show t.length+1<=_; omega)
  have i1:zM (yJ t) (.int 1)=some (.str t):=rfl
  have lb:zQ (.str "label") (.str "label")=some (.bl true):=by rfl
  refine ⟨[t ++ ":"],by simp,by simp,one (by omega) ⟨by rw [zc]; simp,fun a ha=>?_⟩ nil_,?_,?_⟩
  ·rw [zc] at ha
   rcases List.mem_append.mp ha with ha | ha
   ·exact wd.ok a ha
   ·rw [List.mem_singleton.mp ha]
    decide
  ·have gl:Builtin.Str.glued " " [t ++ ":"]=t ++ ":" := by rw [StrLaws.glued_eq_join]; rfl
   rw [gl,g7]
   unfold tj
   have il:w8 [yJ t]=some (false,.bl true):=pq (.label t)
   simp! [il,i1,ad]
  ·have x0:zM (.lst [.str (t ++ ":")]) (.int 0)=some (.str (t ++ ":")):=rfl
   have rt:uH [.lst [.str (t ++ ":")]]=some (false,.non):=by
    rw [g9]
    unfold tq
    generalize t ++ ":" = Z at *
    simp! [x0,c2,c1]
   have n1:zQ (.int ((1:Nat):Int)) (.int 1)=some (.bl true):=rfl
   show vK [.lst [.str (t ++ ":")]]=_
   rw [g8]
   unfold tm
   generalize t ++ ":" = Z at *
   unfold yJ at hi ⊢
   simp! [rt,n1,x0,c3,xM,xn,yt,c4,hi]
end L3
namespace L3
open PySem
noncomputable def IM:FE:=(z6 2)
noncomputable def Vy:FT:=(tE (e2 xc (z6 2) (eC (.str ""))))
noncomputable def Zj:FS:=
 (zG (ze 1 (e1 (Xu "\t" " ") (e1 (Xw 0) (e2 Xt (z6 0) (eC (.str ";"))))))
  (vo (yT 1 (xl (e2 qp (z6 1) (eC (.str " ")))) (za 2) Vy IM)))
noncomputable def qc:List D->Option (Bool×D):=FR 1 2 Zj
theorem EF:∀ ds r,qc ds=some r->ds.length=1/\zZ 2 Zj ds=some r:=yZ
theorem LW (x0:D):qc [x0]=zZ 2 Zj [x0]:=rfl
noncomputable def YE:FS:=(zG (ze 4 (zS qc (z8 (z6 3) zC)))
    (zl (tE (e2 xc (z6 4) (yn zC)))
     (ub 1 u3 (vP (z8 (z6 2) (z8 (zS vK (z8 (z6 4) zC)) zC))))
     zn))
noncomputable def Zi:FS:=
 (zG (uc 1 (yn zC))
  (zG (tH (qB (e2 qp (z6 0) (eC (.str "\n")))) (xG 2 3)
   YE)
  (qK 1)))
noncomputable def tR:List D->Option (Bool×D):=FR 1 5 Zi
theorem EE:∀ ds r,tR ds=some r->ds.length=1/\zZ 5 Zi ds=some r:=yZ
theorem LV (x0:D):tR [x0]=zZ 5 Zi [x0]:=rfl
noncomputable def YD:FS:=(zl (ug (tE (e2 qo (z6 3) (eC .non))) (tE (zS w8 (z8 (z6 3) zC))))
     (p5 1 (e2 zM (z6 3) (eC (.int 1))) (eC (.bl true)))
     zn)
noncomputable def gF:FS:=(zG (zl (tE (e2 pY (z6 3) (eC .non)))
     (zk (z6 2))
     zn)
    (zG (zl (ug (tE (zS vJ (z8 (z6 3) zC))) (tE (e2 qm (e2 zM (z6 3) (e1 t_ (eC (.int 1)))) (z6 1))))
     (zk (z6 2))
     zn)
    (zl (tE (zS w8 (z8 (z6 3) zC)))
     (zG (zl (tE (e2 xK (e2 zM (z6 3) (eC (.int 1))) (uz 4)))
       (zk (z6 2))
       zn)
      (p5 4 (e2 zM (z6 3) (eC (.int 1))) (eC (.bl true))))
     zn)))
noncomputable def ZY:FS:=
 (zG (uc 1 (eC (.dic [] [])))
  (zG (tH (xl (z6 0)) (xG 2 3)
   YD)
  (zG (gR 1) (zG (uc 4 (eC (.dic [] [])))
  (zG (tH (xl (z6 0)) (xG 2 3)
   gF)
  (zG (gR 4) (zk (eC .non))))))))
noncomputable def tQ:List D->Option (Bool×D):=FR 1 5 ZY
theorem E3:∀ ds r,tQ ds=some r->ds.length=1/\zZ 5 ZY ds=some r:=yZ
theorem LK (x0:D):tQ [x0]=zZ 5 ZY [x0]:=rfl
noncomputable def ZN:FS:=
 (zk (zS tQ (z8 (zS tR (z8 (z6 0) zC)) zC)))
noncomputable def pB:List D->Option (Bool×D):=FR 1 1 ZN
theorem Cc:∀ ds r,pB ds=some r->ds.length=1/\zZ 1 ZN ds=some r:=yZ
theorem L9 (x0:D):pB [x0]=zZ 1 ZN [x0]:=rfl
noncomputable def IK:FE:=(z6 4)
noncomputable def Ze:FS:=
 (zG (ze 1 (zS tR (z8 (z6 0) zC)))
  (zG (ze 2 (zS tQ (z8 (z6 1) zC)))
  (zG (zl (tE (e2 qo (z6 2) (eC .non)))
   (fun _=>none)
   zn)
  (vo (yT 2 (xl (z6 1)) (xG 3 4) yF IK)))))
noncomputable def qZ:List D->Option (Bool×D):=FR 1 3 Ze
theorem E9:∀ ds r,qZ ds=some r->ds.length=1/\zZ 3 Ze ds=some r:=yZ
theorem LR (x0:D):qZ [x0]=zZ 3 Ze [x0]:=rfl
noncomputable def sD (l:List Nat):D:=.str ⟨l.toArray⟩
theorem JH (z:Str):sD z.cps.toList=.str z:=by
 obtain ⟨⟨l⟩⟩:=z
 rfl
theorem HW {row:Str} (h:row.length<=100000):qc [.str row]=some (true,.lst ((W row.cps.toList).map sD)):=by
 have sum:=congrArg Str.length (StrLaws.partition_sum row ⟨#[59]⟩)
 rw [u9,u9] at sum
 have fp:Xt (.str row) (.str ";")=some (.tup [.str (Txt.partition row ⟨#[59]⟩).1,.str (Txt.partition row ⟨#[59]⟩).2.1,.str (Txt.partition row ⟨#[59]⟩).2.2]):=if_pos ⟨rfl,by show (Txt.partition row ⟨#[59]⟩).1.length<=_; omega,by show (Txt.partition row ⟨#[59]⟩).2.1.length<=_; omega,by show (Txt.partition row ⟨#[59]⟩).2.2.length<=_; omega⟩
 have pc:=DU row 59
 generalize (Txt.partition row ⟨#[59]⟩).1=P1 at *
 generalize (Txt.partition row ⟨#[59]⟩).2.1=P2 at *
 generalize (Txt.partition row ⟨#[59]⟩).2.2=P3 at *
 have t0:Xw 0 (.tup [.str P1,.str P2,.str P3])=some (.str P1):=rfl
 have rc:=CT P1 9 32
 have rl:(Txt.replace P1 ⟨#[9]⟩ ⟨#[32]⟩).length=P1.length:=by rw [<- qx,rc,List.length_map,qx]
 have fr:Xu "\t" " " (.str P1)=some (.str (Txt.replace P1 ⟨#[9]⟩ ⟨#[32]⟩)):=if_pos ⟨by show P1.length+(P1.length+1)*1<=_; omega,by show (Txt.replace P1 ⟨#[9]⟩ ⟨#[32]⟩).length<=_; omega⟩
 generalize Txt.replace P1 ⟨#[9]⟩ ⟨#[32]⟩=R at *
 have fs:qp (.str R) (.str " ")=some (.lst ((Txt.split R ⟨#[32]⟩).map D.str)):=if_pos ⟨rfl,by omega⟩
 have lc:=uV (g:=za 2) (c:=Vy) (e:=IM) (σ:=[some (false,.str row),some (false,.str R),none]) (fun d=>match d with | .str z=>!z.cps.toList.isEmpty | _=>false) id (ds:=(Txt.split R ⟨#[32]⟩).map D.str) fun d hd=>by
  obtain ⟨z,_,rfl⟩:=List.mem_map.mp hd
  have n:xc (.str z) (.str "")=some (.bl (!z.cps.toList.isEmpty)):=by
   obtain ⟨⟨l⟩⟩:=z
   cases l<;>rfl
  refine ⟨_,rfl,?_,fun _=>rfl⟩
  unfold Vy
  simp! [n]
 have ws:W row.cps.toList=((Txt.split R ⟨#[32]⟩).map fun t=>t.cps.toList).filter fun p=>!p.isEmpty:=by
  unfold W
  rw [VO,rc,pc]
  rfl
 have fin:(((Txt.split R ⟨#[32]⟩).map D.str).filter fun d=>match d with | .str z=>!z.cps.toList.isEmpty | _=>false).map id=(W row.cps.toList).map sD:=by
  rw [ws,List.map_id,List.filter_map,List.filter_map,List.map_map]
  refine List.map_congr_left fun z _=>(JH z).symm
 rw [fin] at lc
 rw [LW]
 unfold Zj
 generalize (W row.cps.toList).map sD=WW at *
 generalize (Txt.split R ⟨#[32]⟩).map D.str=SS at *
 simp! [fp,t0,fr,fs,lc]
inductive wn:List (List Nat)->List D->Prop
 | nil:wn [] []
 | skip {l:List Nat} {ps:List (List Nat)} {items:List D}:W l=[]->wn ps items->wn (l::ps) items
 | one {l:List Nat} {ps:List (List Nat)} {d:D} {items:List D}:W l≠[]->vK [.lst ((W l).map sD)]=some (false,d)->wn ps items->wn (l::ps) (d::items)
theorem wn.app:∀ {a b:List (List Nat)} {x y:List D},wn a x->wn b y->wn (a++b) (x++y)
 | _,_,_,_,.nil,h=>h
 | _,_,_,_,.skip e r,h=>.skip e (r.app h)
 | _,_,_,_,.one e f r,h=>.one e f (r.app h)
noncomputable def jb (d r:D):Prop:=∃ k:Nat,r=.tup [.int (k:Int),d]
theorem Uq {R:D->D->Prop} {x y:D} (h:R x y):∀ {xs ys:List D},wO R xs ys->wO R (xs++[x]) (ys++[y])
 | _,_,.nil=>.cons h .nil
 | _,_,.cons a r=>.cons a (Uq h r)
theorem Gz {T:Str} (hT:T.length<=100000) {items:List D} (hn:items.length<=900) (hq:wn (wK 10 T.cps.toList) items):∃ R:List D,tR [.str T]=some (true,.lst R)/\wO jb items R:=by
 have fs:qp (.str T) (.str "\n")=some (.lst ((Txt.split T ⟨#[10]⟩).map D.str)):=if_pos ⟨rfl,by omega⟩
 have sc:=VO T 10
 have sl:(Txt.split T ⟨#[10]⟩).length<=T.length+2:=PyProof.Rows.split_le T ⟨#[10]⟩
 have sp:∀ z∈Txt.split T ⟨#[10]⟩,z.length<=T.length:=fun z hz=>PyProof.Rows.part_short hz
 generalize Txt.split T ⟨#[10]⟩=zs at *
 rw [<- sc] at hq
 have en:qB (e2 qp (z6 0) (eC (.str "\n"))) [some (false,.str T),some (true,.lst []),none,none,none]=some (numbered (zs.map D.str)):=by
  unfold qB
  have:e2 qp (z6 0) (eC (.str "\n")) [some (false,.str T),some (true,.lst []),none,none,none]=some (.lst (zs.map D.str)):=by simp! [fs]
  rw [this]
  rfl
 obtain ⟨σ',e,R,i1,i2,x2,x3,x4,a1,a2,a3,a4,rfl⟩:=qF (g:=xG 2 3) (b:=YE) (fun i σ=>∃ R i1 i2 x2 x3 x4,items=i1++i2/\wO jb i1 R/\wn ((zs.map fun t:Str=>t.cps.toList).drop i) i2/\R.length<=i/\σ=[some (false,.str T),some (true,.lst R),x2,x3,x4]) (ds:=numbered (zs.map D.str))
  (σ:=[some (false,.str T),some (true,.lst []),none,none,none]) 0 ⟨[],[],items,none,none,none,rfl,.nil,hq,Nat.le_refl _,rfl⟩ (by
  rintro i v σ hv ⟨R,i1,i2,x2,x3,x4,a1,a2,a3,a4,rfl⟩
  rw [Nat.zero_add] at *
  rw [YL,List.getElem?_map] at hv
  obtain ⟨z,hz,rfl⟩:∃ z,zs[i]?=some z/\v=.tup [.int (i:Int),.str z]:=by
   cases q:zs[i]? with
   | none=>rw [q] at hv; cases hv
   | some z=>rw [q] at hv; cases hv; exact ⟨z,rfl,rfl⟩
  have hi:=(List.getElem?_eq_some_iff.mp hz).1
  have hm:=List.mem_of_getElem? hz
  have dr:(zs.map fun t:Str=>t.cps.toList).drop i=z.cps.toList::(zs.map fun t:Str=>t.cps.toList).drop (i+1):=by
   rw [List.drop_eq_getElem_cons (by rw [List.length_map]; exact hi),List.getElem_map]
   rw [(List.getElem?_eq_some_iff.mp hz).2]
  rw [dr] at a3
  have wf:=HW (row:=z) (Nat.le_trans (sp z hm) hT)
  cases a3 with
  | skip e r=>
   rw [e] at wf
   have ne:xc (.lst ([].map sD)) (.lst [])=some (.bl false):=rfl
   refine ⟨_,[some (false,.str T),some (true,.lst R),some (false,.int (i:Int)),some (false,.str z),some (false,.lst [])],rfl,.inl ?_,R,i1,i2,_,_,_,a1,a2,r,by omega,rfl⟩
   have ne:xc (.lst []) (.lst [])=some (.bl false):=rfl
   have wf:qc [.str z]=some (true,.lst []):=wf
   unfold YE
   simp! [wf,ne]
  | one e f r=>
   rename_i d i2'
   have ne:xc (.lst ((W z.cps.toList).map sD)) (.lst [])=some (.bl true):=by
    cases q:W z.cps.toList with
    | nil=>exact absurd q e
    | cons a b=>rfl
   have ap:=ZK (L:=R) (r:=.tup [.int (i:Int),d]) (by
    have:=jq a2
    have:=congrArg List.length a1
    rw [List.length_append] at this
    omega)
   refine ⟨_,[some (false,.str T),some (true,.lst (R++[.tup [.int (i:Int),d]])),some (false,.int (i:Int)),some (false,.str z),some (false,.lst ((W z.cps.toList).map sD))],rfl,.inl ?_,_,i1++[d],i2',_,_,_,by rw [a1,List.append_assoc]; rfl,Uq ⟨i,rfl⟩ a2,r,by rw [List.length_append]; simp only [List.length_cons,List.length_nil]; omega,rfl⟩
   unfold YE
   generalize (W z.cps.toList).map sD=WW at *
   simp! [wf,ne,f,ap])
 have dn:(zs.map fun t:Str=>t.cps.toList).drop (0+(numbered (zs.map D.str)).length)=[]:=List.drop_eq_nil_of_le (by rw [jB,List.length_map,List.length_map]; omega)
 rw [dn] at a3
 cases a3
 rw [List.append_nil] at a1
 subst a1
 refine ⟨R,?_,a2⟩
 rw [LV]
 unfold Zi
 generalize numbered (zs.map D.str)=NN at *
 simp! [en,e]
theorem Lp {d:D} (h:yQ d):vJ [d]=some (false,.bl (yY d)):=by
 have:∃ w,zM d (.int 0)=some (.str w)/\xK (.str w) gA=some (.bl (yY d)):=by
  cases h with
  | label=>exact ⟨_,rfl,rfl⟩
  | plain h=>
   obtain ⟨w,a,b,_,c,_⟩:=qy h
   exact ⟨w,a,by rw [c]; exact b⟩
  | jump=>exact ⟨_,rfl,rfl⟩
  | cond t hw hk=>rcases hw with rfl | rfl<;>exact ⟨_,rfl,rfl⟩
 obtain ⟨w,a,b⟩:=this
 rw [T6]
 unfold jj
 simp! [a,b]
theorem Tc {d:D} (h:yQ d) (hl:zd d=true):∃ t,d=yJ t:=by
 cases h with
 | label t=>exact ⟨t,rfl⟩
 | plain h=>
  obtain ⟨_,_,_,z,_⟩:=Yf (m:=0) (.inl h)
  rw [z] at hl
  cases hl
 | jump=>cases hl
 | cond t hw hk=>rcases hw with rfl | rfl<;>cases hl
theorem Y6 {d:D} (h:yQ d):∃ xs,d=.tup xs:=by
 cases h with
 | label t=>exact ⟨_,rfl⟩
 | plain h=>cases h<;>exact ⟨_,rfl⟩
 | jump=>exact ⟨_,rfl⟩
 | cond=>exact ⟨_,rfl⟩
structure PW (N:List Str) (items:List D):Prop where
 nm:qe N
 it:∀ d∈items,qd N d
 lb:(items.filter zd).Perm (N.map yJ)
 ln:items.length<=900
theorem ZF.pw {N:List Str} {items:List D} (P:ZF N items):PW N items:=⟨P.nm,P.it,P.lb,Nat.le_trans P.ln (by decide)⟩
theorem MY {N:List Str} {items:List D} (P:PW N items) {R:List D} (E:wO jb items R):tQ [.lst R]=some (false,.non):=by
 have hI:∀ d∈items,yQ d:=fun d hd=>WB (P.it d hd)
 have ln:=P.ln
 have el:=jq E
 have at_:∀ {i:Nat} {r:D},R[i]?=some r->∃ d,items[i]?=some d/\d∈items/\jb d r:=fun {i r} h=>by
  have hi:i<items.length:=by rw [el]; exact (List.getElem?_eq_some_iff.mp h).1
  obtain ⟨y,hy,n⟩:=Xj E (List.getElem?_eq_getElem hi)
  rw [h] at hy
  cases hy
  exact ⟨_,List.getElem?_eq_getElem hi,List.getElem_mem hi,n⟩
 have tk:∀ {i:Nat} {d:D},items[i]?=some d->items.take (i+1)=items.take i++[d]:=fun {i d} h=>by
  obtain ⟨hi,e⟩:=List.getElem?_eq_some_iff.mp h
  rw [List.take_succ_eq_append_getElem hi,e]
 have nn:∀ {d:D},yQ d->qo d .non=some (.bl true)/\pY d .non=some (.bl false):=fun {d} h=>by
  obtain ⟨xs,rfl⟩:=Y6 h
  exact ⟨rfl,rfl⟩
 have nd:(items.filter zd).Nodup:=P.lb.nodup_iff.mpr (List.pairwise_map.mpr (List.Pairwise.imp (fun {a b} h z=>h (by cases z; rfl)) P.nm.nd))
 obtain ⟨σ',e1,ks,vs,x2,x3,a1,a2,a3,rfl⟩:=qF (g:=xG 2 3) (b:=YD) (fun i σ=>∃ ks vs x2 x3,ks.length=vs.length/\ks.length<=i/\(∀ t,yJ t∈items.take i->z_ ks (.inr t)=true)/\σ=[some (false,.lst R),some (true,.dic ks vs),x2,x3,none]) (ds:=R)
  (σ:=[some (false,.lst R),some (true,.dic [] []),none,none,none]) 0 ⟨[],[],none,none,rfl,Nat.le_refl _,(fun t h=>by cases h),rfl⟩ (by
  rintro i v σ hv ⟨ks,vs,x2,x3,a1,a2,a3,rfl⟩
  rw [Nat.zero_add] at *
  obtain ⟨d,hd,hm,k,rfl⟩:=at_ hv
  have hIv:=hI d hm
  have hf:=pq hIv
  have n1:=(nn hIv).1
  have hi:i<items.length:=(List.getElem?_eq_some_iff.mp hd).1
  cases hL:zd d with
  | true=>
   obtain ⟨u,rfl⟩:=Tc hIv hL
   rw [hL] at hf
   have i1:zM (yJ u) (.int 1)=some (.str u):=rfl
   have kd:vT (.str u)=some (.inr u):=rfl
   have hlim:ks.length<yO:=by show _<16777216; omega
   refine ⟨_,[some (false,.lst R),some (true,.dic (xZ ks (.inr u)) (xf ks vs (.inr u) (.bl true))),some (false,.int (k:Int)),some (false,yJ u),none],rfl,.inl ?_,xZ ks (.inr u),xf ks vs (.inr u) (.bl true),_,_,qH a1,?_,fun t ht=>?_,rfl⟩
   ·unfold YD
    unfold yJ at *
    simp! [hf,p5,i1,kd,if_pos hlim]
   ·unfold xZ
    split
    ·omega
    ·rw [List.length_append]; show _+1<=_; omega
   ·rw [W5]
    rw [tk hd] at ht
    rcases List.mem_append.mp ht with ht | ht
    ·rw [a3 t ht]
     rfl
    ·cases List.mem_singleton.mp ht
     rw [decide_eq_true rfl,Bool.or_true]
  | false=>
   rw [hL] at hf
   refine ⟨_,[some (false,.lst R),some (true,.dic ks vs),some (false,.int (k:Int)),some (false,d),none],rfl,.inl ?_,ks,vs,_,_,a1,by omega,fun t ht=>?_,rfl⟩
   ·obtain ⟨xs,rfl⟩:=Y6 hIv
    unfold YD
    simp! [hf]
   ·rw [tk hd] at ht
    rcases List.mem_append.mp ht with ht | ht
    ·exact a3 t ht
    ·rw [<- List.mem_singleton.mp ht] at hL
     cases hL)
 rw [Nat.zero_add,<- el,List.take_length] at a3
 have known:∀ t∈N,z_ ks (.inr t)=true:=fun t ht=>a3 t (by
  have:yJ t∈N.map yJ:=List.mem_map.mpr ⟨t,ht,rfl⟩
  exact (List.mem_filter.mp (P.lb.mem_iff.mpr this)).1)
 have jn:∀ d∈items,yY d=true->∃ t∈N,zM d (.int (-1))=some (.str t):=fun d hd hj=>by
  rcases P.it d hd with h | ⟨t,_,rfl⟩
  ·cases h with
   | plain h=>
    obtain ⟨_,_,_,_,z,_⟩:=qy h
    rw [z] at hj
    cases hj
   | jump ht=>exact ⟨_,ht,rfl⟩
   | cond hw hk ht=>exact ⟨_,ht,rfl⟩
  ·cases hj
 obtain ⟨σ',e2,k2,v2,y2,y3,b1,b2,b3,rfl⟩:=qF (g:=xG 2 3) (b:=gF) (fun i σ=>∃ k2 v2 x2 x3,k2.length=v2.length/\k2.length<=i/\(∀ t,z_ k2 (.inr t)=true->yJ t∈items.take i)/\σ=[some (false,.lst R),some (false,.dic ks vs),x2,x3,some (true,.dic k2 v2)]) (ds:=R)
  (σ:=[some (false,.lst R),some (false,.dic ks vs),x2,x3,some (true,.dic [] [])]) 0 ⟨[],[],x2,x3,rfl,Nat.le_refl _,(fun t h=>by cases h),rfl⟩ (by
  rintro i v σ hv ⟨k2,v2,x2,x3,b1,b2,b3,rfl⟩
  rw [Nat.zero_add] at *
  obtain ⟨d,hd,hm,k,rfl⟩:=at_ hv
  have hIv:=hI d hm
  have hf:=pq hIv
  have hj:=Lp hIv
  have n1:=(nn hIv).2
  have hi:i<items.length:=(List.getElem?_eq_some_iff.mp hd).1
  have sub:∀ t,yJ t∈items.take i->yJ t∈items.take (i+1):=fun t ht=>by rw [tk hd]; exact List.mem_append_left _ ht
  cases hL:zd d with
  | true=>
   obtain ⟨u,rfl⟩:=Tc hIv hL
   rw [hL] at hf
   rw [TY hL] at hj
   have i1:zM (yJ u) (.int 1)=some (.str u):=rfl
   have kd:vT (.str u)=some (.inr u):=rfl
   have hlim:k2.length<yO:=by show _<16777216; omega
   have no:z_ k2 (.inr u)=false:=by
    cases c:z_ k2 (.inr u) with
    | false=>rfl
    | true=>
     exfalso
     have h1:=b3 u c
     have e:items=items.take i++(yJ u::items.drop (i+1)):=by
      have:=List.take_append_drop i items
      rw [List.drop_eq_getElem_cons hi,(List.getElem?_eq_some_iff.mp hd).2] at this
      exact this.symm
     rw [e,List.filter_append,List.filter_cons_of_pos hL] at nd
     have:=(List.nodup_append.mp nd).2.2 _ (List.mem_filter.mpr ⟨h1,hL⟩) _ List.mem_cons_self
     exact this rfl
   have fi:xK (.str u) (.dic k2 v2)=some (.bl false):=by
    show some (D.bl (z_ k2 (.inr u)))=_
    rw [no]
   refine ⟨_,[some (false,.lst R),some (false,.dic ks vs),some (false,.int (k:Int)),some (false,yJ u),some (true,.dic (xZ k2 (.inr u)) (xf k2 v2 (.inr u) (.bl true)))],rfl,.inl ?_,xZ k2 (.inr u),xf k2 v2 (.inr u) (.bl true),_,_,qH b1,?_,fun t ht=>?_,rfl⟩
   ·unfold gF
    unfold yJ at *
    simp! [hj,hf,i1,fi,p5,kd,if_pos hlim]
   ·unfold xZ
    split
    ·omega
    ·rw [List.length_append]; show _+1<=_; omega
   ·rw [W5,Bool.or_eq_true,decide_eq_true_iff] at ht
    rcases ht with ht | ht
    ·exact sub t (b3 t ht)
    ·cases ht
     rw [tk hd]
     exact List.mem_append_right _ List.mem_cons_self
  | false=>
   rw [hL] at hf
   refine ⟨_,[some (false,.lst R),some (false,.dic ks vs),some (false,.int (k:Int)),some (false,d),some (true,.dic k2 v2)],rfl,.inl ?_,k2,v2,_,_,b1,by omega,fun t ht=>sub t (b3 t ht),rfl⟩
   cases hJ:yY d with
   | false=>
    rw [hJ] at hj
    obtain ⟨xs,rfl⟩:=Y6 hIv
    unfold gF
    simp! [hj,hf]
   | true=>
    rw [hJ] at hj
    obtain ⟨t,ht,lx⟩:=jn d hm hJ
    have fi:qm (.str t) (.dic ks vs)=some (.bl false):=by
     show some (D.bl (!z_ ks (.inr t)))=_
     rw [known t ht]
     rfl
    obtain ⟨xs,rfl⟩:=Y6 hIv
    unfold gF
    simp! [hj,lx,fi,hf])
 rw [LK]
 unfold ZY
 simp! [e1,e2]
theorem Um {R:D->D->Prop} {g:FG} {e:FE} {σ:zp} (h:∀ r y,R r y->∃ σ1,g y σ=some σ1/\e σ1=some r):∀ {rs ys:List D},wO R rs ys->yr g yF e σ ys=some rs
 | _,_,.nil=>rfl
 | r::rs,y::ys,.cons x xs=>by
  obtain ⟨σ1,e1,e2⟩:=h r y x
  show (g y σ).bind _=_
  rw [e1]
  show (e σ1).bind _=_
  rw [e2]
  show (yr g yF e σ ys).bind _=_
  rw [Um h xs]
  rfl
theorem CQ {N:List Str} {items:List D} (P:PW N items) {T:Str} (hT:T.length<=100000) (hq:wn (wK 10 T.cps.toList) items):pB [.str T]=some (false,.non)/\qZ [.str T]=some (true,.lst items):=by
 have ln:=P.ln
 obtain ⟨R,e1,E⟩:=Gz hT (by omega) hq
 have e2:=MY P E
 have lc:yr (xG 3 4) yF IK [some (false,.str T),some (false,.lst R),some (false,.non),none,none] R=some items:=Um (R:=jb) (fun d r h=>by
  obtain ⟨k,rfl⟩:=h
  exact ⟨_,rfl,rfl⟩) E
 refine ⟨?_,?_⟩
 ·rw [L9]
  unfold ZN
  simp! [e1,e2]
 ·rw [LR]
  unfold Ze
  simp! [e1,e2,lc]
end L3
namespace L3
open PySem
noncomputable def Vf:FE:=(zS wU (z8 (z6 3) zC))
noncomputable def Vg:FE:=(e2 zM (z6 3) (eC (.int 1)))
noncomputable def Vs:FT:=(tE (zS w8 (z8 (z6 3) zC)))
noncomputable def Vh:FE:=(e2 xK (e2 zM (z6 3) (e1 t_ (eC (.int 1)))) (z6 2))
noncomputable def Vt:FT:=(tE (zS vJ (z8 (z6 3) zC)))
noncomputable def ZO:FS:=
 (zG (zl (v4 (v3 (tE (vC .list (z6 0)))) (v3 (tE (eL vh (z8 (yT 1 (xl (z6 0)) (za 3) yF Vf) zC)))))
   (zk (eC (.bl false)))
   zn)
  (zG (ze 1 (yT 1 (xl (z6 0)) (za 3) Vs Vg))
  (zG (zl (tE (e2 xc (eL Xr (z8 (z6 1) zC)) (eL ye (z8 (z6 1) zC))))
   (zk (eC (.bl false)))
   zn)
  (zG (ze 2 (zS vy (z8 (z6 0) zC)))
  (zk (eL vh (z8 (yT 1 (xl (z6 0)) (za 3) Vt Vh) zC)))))))
noncomputable def pE:List D->Option (Bool×D):=FR 1 3 ZO
theorem Cl:∀ ds r,pE ds=some r->ds.length=1/\zZ 3 ZO ds=some r:=yZ
theorem LA (x0:D):pE [x0]=zZ 3 ZO [x0]:=rfl
noncomputable def x_:D->Str
 | .tup [_,.str t]=>t
 | _ => ""
theorem Tb {d:D} (h:yQ d) (hl:zd d=true):zM d (.int 1)=some (.str (x_ d)):=by
 obtain ⟨t,rfl⟩:=py h hl
 rfl
noncomputable def Xh (N:List Str):Nat:=((N.map Sum.inr).foldl L2.addK []).length
theorem Tj:∀ N:List Str,j4 (N.map D.str)=some (N.map Sum.inr)
 | []=>rfl
 | t::N=>by
  show (j4 (N.map D.str)).bind _=_
  rw [Tj N]
  rfl
theorem MZ {N:List Str} (h:N.length<1000):Xr [.lst (N.map D.str)]=some (.int (Xh N:Int)):=by
 show (j4 (N.map D.str)).bind _=_
 rw [Tj]
 show (if (N.map Sum.inr).length<1000 then _ else _)=_
 rw [if_pos (by rw [List.length_map]; exact h)]
 rfl
theorem Q8:∀ (ks acc:List L2.Key),(acc++ks).Nodup->ks.foldl L2.addK acc=acc++ks
 | [],acc,_=>(List.append_nil _).symm
 | k::ks,acc,h=>by
  have nk:L2.memK acc k=false:=by
   cases c:L2.memK acc k with
   | false=>rfl
   | true=>
    exfalso
    obtain ⟨j,hj,e⟩:=List.any_eq_true.mp c
    have e:=of_decide_eq_true e
    subst e
    exact (List.nodup_append.mp h).2.2 j hj j (List.mem_cons_self ..) rfl
  have e:L2.addK acc k=acc++[k]:=by
   unfold L2.addK
   rw [nk,if_neg Bool.false_ne_true]
  rw [List.foldl_cons,e,Q8 ks (acc++[k]) (by rw [List.append_assoc]; exact h),List.append_assoc]
  rfl
theorem Oh {N:List Str} (h:N.Nodup):Xh N=N.length:=by
 unfold Xh
 rw [Q8 (N.map Sum.inr) [] (by
  rw [List.nil_append]
  exact List.Pairwise.map _ (fun a b ne z=>ne (Sum.inr.inj z)) h),List.nil_append,List.length_map]
theorem TB {k:Sum Int Str}:∀ {ks:List (Sum Int Str)} {vs:List D},ks.length=vs.length->z_ ks k=(getK ks vs k).isSome
 | [],vs,_=>by
  unfold getK
  rfl
 | j::ks,[],h=>by cases h
 | j::ks,v::vs,h=>by
  show (decide (j=k)||z_ ks k)=_
  unfold getK
  by_cases c:j=k
  ·rw [if_pos c,decide_eq_true c]
   rfl
  ·rw [if_neg c,decide_eq_false c,Bool.false_or]
   exact TB (by simpa using h)
structure PI (items:List D):Prop where
 it:∀ d∈items,yQ d
 nd:(items.filter zd).Nodup
 tg:∀ d∈items,yY d=true->∃ (t:Str) (p:Nat),zM d (.int (-1))=some (.str t)/\(xO t items).2=some p
 ln:items.length<=900
theorem XN {α:Type} (l:List α):vh [.lst (l.map fun _=>D.bl true)]=some (.bl true):=by
 have:=ZJ (l.map fun _=>true)
 rw [List.map_map] at this
 have e:(l.map fun _=>true).all id=true:=List.all_eq_true.mpr fun x hx=>by
  obtain ⟨_,_,rfl⟩:=List.mem_map.mp hx
  rfl
 rw [e] at this
 exact this
theorem Lq {L:List D} (P:PI L) (hi:∀ d∈L,wU [d]=some (false,.bl true)):pE [.lst L]=some (false,.bl true):=by
 have ln:=P.ln
 have b1:=vU (g:=za 3) (e:=Vf) (σ:=[some (false,.lst L),none,none,none]) (fun _=>D.bl true) (ds:=L) fun d hd=>by
  have e:=hi d hd
  refine ⟨_,rfl,?_⟩
  unfold Vf
  simp! [e]
 have al:=XN L
 have n1:=uV (g:=za 3) (c:=Vs) (e:=Vg) (σ:=[some (false,.lst L),none,none,none]) zd (fun d=>.str (x_ d)) (ds:=L) fun d hd=>by
  have e:=pq (P.it d hd)
  refine ⟨_,rfl,?_,fun hl=>?_⟩
  ·unfold Vs
   simp! [e]
  ·have f:=Tb (P.it d hd) hl
   unfold Vg
   simp! [f]
 have en:(L.filter zd).map (fun d=>D.str (x_ d))=((L.filter zd).map x_).map D.str:=by rw [List.map_map]; rfl
 rw [en] at n1
 have ll:((L.filter zd).map x_).length<=900:=by
  rw [List.length_map]
  have:=List.length_filter_le zd L
  omega
 have nd:((L.filter zd).map x_).Nodup:=by
  refine List.pairwise_map.mpr (List.Pairwise.imp_of_mem (fun {a b} ha hb hab=>?_) P.nd)
  obtain ⟨ma,la⟩:=List.mem_filter.mp ha
  obtain ⟨mb,lb⟩:=List.mem_filter.mp hb
  obtain ⟨t,rfl⟩:=py (P.it a ma) la
  obtain ⟨u,rfl⟩:=py (P.it b mb) lb
  intro z
  have z:t=u:=z
  exact hab (by rw [z])
 have ls:=MZ (N:=(L.filter zd).map x_) (by omega)
 rw [Oh nd] at ls
 have lm:(((L.filter zd).map x_).map D.str).length=((L.filter zd).map x_).length:=List.length_map _
 generalize (L.filter zd).map x_=N at *
 have q:xc (.int (N.length:Int)) (.int (N.length:Int))=some (.bl false):=Q4 rfl
 obtain ⟨ks,vs,el,lk,hk⟩:=WM P.it (by omega)
 have j1:=uV (g:=za 3) (c:=Vt) (e:=Vh) (σ:=[some (false,.lst L),some (false,.lst (N.map D.str)),some (false,.dic ks vs),none]) yY (fun _=>D.bl true) (ds:=L) fun d hd=>by
  have e:=WA (P.it d hd)
  refine ⟨_,rfl,?_,fun hj=>?_⟩
  ·unfold Vt
   generalize N.map D.str=NN at *
   simp! [e]
  ·obtain ⟨t,p,e1,e2⟩:=P.tg d hd hj
   have e3:xK (.str t) (.dic ks vs)=some (.bl true):=by
    show (some (z_ ks (.inr t))).bind _=_
    rw [TB lk,hk,e2]
    rfl
   unfold Vh
   generalize N.map D.str=NN at *
   simp! [e1,e3]
 have aj:=XN (L.filter yY)
 rw [LA]
 unfold ZO
 generalize L.map (fun _=>D.bl true)=A1 at *
 generalize (L.filter yY).map (fun _=>D.bl true)=A2 at *
 generalize N.map D.str=NN at *
 simp! [b1,al,Bool.not_true,n1,ls,lm,q,el,j1,aj]
end L3
namespace L3
open PySem
noncomputable def jX:FE:=(e2 zy (zS uG (z8 (z6 1) zC)) (eC (.str "\n")))
noncomputable def Zg:FS:=
 (zk (e2 uP (eC (.str "")) (yT 1 (xl (z6 0)) (za 1) yF jX)))
noncomputable def uI:List D->Option (Bool×D):=FR 1 1 Zg
theorem EC:∀ ds r,uI ds=some r->ds.length=1/\zZ 1 Zg ds=some r:=yZ
theorem LT (x0:D):uI [x0]=zZ 1 Zg [x0]:=rfl
noncomputable def Zc:FS:=
 (zG (ze 2 (zS vy (z8 (z6 0) zC)))
  (zG (zl (tE (e2 qm (z6 1) (z6 2)))
   (fun _=>none)
   zn)
  (zk (e2 zM (z6 2) (z6 1)))))
noncomputable def vL:List D->Option (Bool×D):=FR 2 3 Zc
theorem E7:∀ ds r,vL ds=some r->ds.length=2/\zZ 3 Zc ds=some r:=yZ
theorem LP (x0 x1:D):vL [x0,x1]=zZ 3 Zc [x0,x1]:=rfl
noncomputable def Vk:FE:=(e2 zM (z6 4) (eC (.int 1)))
noncomputable def Vv:FT:=(tE (e2 zQ (e2 zM (z6 4) (eC (.int 0))) (eC (.str "label"))))
noncomputable def Vl:FE:=(e2 zQ (zS vL (z8 (z6 2) (z8 (z6 4) zC))) (zS vL (z8 (z6 0) (z8 (z6 4) zC))))
noncomputable def ZR:FS:=
 (zG (ze 1 (zS uI (z8 (z6 0) zC)))
  (zG (zl (tE (e2 qo (zS pB (z8 (z6 1) zC)) (eC .non)))
   (zk (eC (.bl false)))
   zn)
  (zG (ze 2 (zS qZ (z8 (z6 1) zC)))
  (zG (zl (v4 (v3 (tE (zS F_law_alike (z8 (z6 2) (z8 (z6 0) zC))))) (tE (e2 Zw (zS pE (z8 (z6 2) zC)) (eC (.bl true)))))
   (zk (eC (.bl false)))
   zn)
  (zG (ze 3 (yT 1 (xl (z6 0)) (za 4) Vv Vk))
  (zk (eL vh (z8 (yT 1 (xl (z6 3)) (za 4) yF Vl) zC))))))))
noncomputable def tO:List D->Option (Bool×D):=FR 1 4 ZR
theorem Cr:∀ ds r,tO ds=some r->ds.length=1/\zZ 4 ZR ds=some r:=yZ
theorem LD (x0:D):tO [x0]=zZ 4 ZR [x0]:=rfl
noncomputable def Y_:FE:=(zS vL (z8 (z6 1) (z8 (e2 zM (z6 6) (e1 t_ (eC (.int 1)))) zC)))
noncomputable def X2:FT:=(tE (e2 xK (e2 zM (z6 6) (eC (.int 0))) (yn (z8 (eC (.str "jump")) (z8 (eC (.str "when")) (z8 (eC (.str "unless")) zC))))))
noncomputable def Vi:FE:=(e2 zM (z6 6) (eC (.int 1)))
noncomputable def Vu:FT:=(tE (e2 zQ (e2 zM (z6 6) (eC (.int 0))) (eC (.str "label"))))
noncomputable def Vj:FE:=(zS vL (z8 (z6 3) (z8 (z6 6) zC)))
noncomputable def UA:FS:=
 (zG (ze 1 (zS qW (z8 (z6 0) (z8 (eC (.int 0)) zC))))
  (zG (ze 2 (zS qW (z8 (z6 0) (z8 (eC (.int 32)) zC))))
  (zG (zl (tE (e2 zQ (e2 wt (zS uj (z8 (z6 0) (z8 (eC (.int 1)) zC))) (eC (.int 4))) (eC (.int 1))))
   (ze 2 (eL Zu (z8 (z6 1) zC)))
   zn)
  (zG (ze 3 (Zo pL (z8 (z6 1) zC)))
  (zG (zl (v4 (v3 (tE (zS tO (z8 (z6 1) zC)))) (v4 (v3 (tE (zS tO (z8 (z6 2) zC)))) (v3 (tE (zS tO (z8 (z6 3) zC))))))
   (zk (eC (.bl false)))
   zn)
  (zG (zl (tE (e2 xc (e2 zQ (zS uI (z8 (z6 1) zC)) (zS uI (z8 (z6 2) zC))) (e2 zQ (z6 1) (z6 2))))
   (zk (eC (.bl false)))
   zn)
  (zG (ze 4 (yT 1 (xl (zS wV (z8 (z6 1) zC))) (za 6) X2 Y_))
  (zG (ze 5 (yT 1 (xl (z6 3)) (za 6) Vu Vi))
  (zk (tw (e2 zQ (yT 1 (xl (z6 5)) (za 6) yF Vj) (eL pd (z8 (z6 4) zC))) (e2 zQ (eL ye (z8 (zS wV (z8 (z6 3) zC)) zC)) (eL ye (z8 (zS wV (z8 (z6 1) zC)) zC)))))))))))))
theorem L8 (ts:List Str):(Builtin.Str.glued "" ts).cps.toList=(ts.map fun t:Str=>t.cps.toList).flatten:=X_ ts
theorem Gx {ws:List Str} {d:D} (a:ws≠[]) (c:∀ w∈ws,Wd w.cps.toList/\w.length<=20) (f:vK [.lst (ws.map D.str)]=some (false,d)):10 ∉ jn 32 (ws.map fun t:Str=>t.cps.toList)/\wn [jn 32 (ws.map fun t:Str=>t.cps.toList)] [d]:=by
 have wj:∀ {vs:List (List Nat)},vs≠[]->(∀ w∈vs,Wd w)->W (jn 32 vs)=vs/\10 ∉ jn 32 vs:=fun {vs}=>by
  induction vs with
  | nil=>intro z; exact absurd rfl z
  | cons w vs ih=>
   intro _ hw
   have ww:=hw w List.mem_cons_self
   have w10:10 ∉ w:=fun z=>(ww.ok 10 z).2.2.2 rfl
   cases vs with
   | nil=>
    refine ⟨?_,w10⟩
    have:=Ic ww (l:=[]) (.inl rfl)
    rw [List.append_nil] at this
    exact this
   | cons x xs=>
    obtain ⟨i1,i2⟩:=ih (by simp) fun y hy=>hw y (List.mem_cons_of_mem _ hy)
    refine ⟨?_,?_⟩
    ·show W (w++32::jn 32 (x::xs))=_
     rw [Ie ww (.inl rfl),i1]
    ·show 10 ∉ w++32::jn 32 (x::xs)
     intro z
     rcases List.mem_append.mp z with z | z
     ·exact w10 z
     ·rcases List.mem_cons.mp z with z | z
      ·exact absurd z (by decide)
      ·exact i2 z
 obtain ⟨j1,j2⟩:=wj (vs:=ws.map fun t:Str=>t.cps.toList) (fun z=>a (List.map_eq_nil_iff.mp z)) fun w hw=>by
  obtain ⟨q,hq,rfl⟩:=List.mem_map.mp hw
  exact (c q hq).1
 refine ⟨j2,.one (by rw [j1]; exact fun z=>a (List.map_eq_nil_iff.mp z)) ?_ .nil⟩
 rw [j1,List.map_map]
 have:ws.map (sD ∘ fun t:Str=>t.cps.toList)=ws.map D.str:=List.map_congr_left fun z _=>JH z
 rw [this]
 exact f
theorem Ja {N:List Str} (hN:qe N) {σ:zp} (hs:σ.length=2):∀ {items:List D},(∀ d∈items,qd N d)->∃ ts:List Str,yr (za 1) yF jX σ items=some (ts.map D.str)/\ts.length=items.length/\(∀ t∈ts,t.length<=100)/\wn (wK 10 (ts.map fun t:Str=>t.cps.toList).flatten) items
 | [],_=>⟨[],rfl,rfl,(fun _ h=>by cases h),.skip Id .nil⟩
 | d::items,h=>by
  obtain ⟨ts,e,l,b,t⟩:=Ja hN hs fun x hx=>h x (List.mem_cons_of_mem _ hx)
  obtain ⟨ws,w1,w2,w3,w4,w5⟩:=Lr hN (h d List.mem_cons_self)
  have gc:(Builtin.Str.glued (" " : Str) ws).cps.toList=jn 32 (ws.map fun t:Str=>t.cps.toList):=by rw [StrLaws.glued_eq_join]; exact Y8 32 ws
  obtain ⟨j2,tl⟩:=Gx w1 w3 w5
  have gl:=L2.glued_len (" " : Str) ws
  have sm:(ws.map (·.length)).sum<=20*ws.length:=by
   have:∀ l:List Str,(∀ w∈l,w.length<=20)->(l.map (·.length)).sum<=20*l.length:=fun l=>by
    induction l with
    | nil=>intro _; exact Nat.le_refl _
    | cons a l ih=>
     intro q
     have:=ih fun w hw=>q w (List.mem_cons_of_mem _ hw)
     have:=q a List.mem_cons_self
     simp only [List.map_cons,List.sum_cons,List.length_cons]
     omega
   exact this ws fun w hw=>(w3 w hw).2
  have l1:(" " : Str).length=1:=rfl
  rw [l1] at gl
  have nl:("\n" : Str).length=1:=rfl
  have ad:zy (.str (Builtin.Str.glued " " ws)) (.str "\n")=some (.str (Builtin.Str.glued " " ws ++ "\n")):=add_str (by rw [nl]; omega)
  refine ⟨(Builtin.Str.glued " " ws ++ "\n")::ts,?_,by rw [List.length_cons,List.length_cons,l],fun x hx=>?_,?_⟩
  ·have hg:za 1 d σ=some (σ.set 1 (some (false,d))):=rfl
   have he:jX (σ.set 1 (some (false,d)))=some (.str (Builtin.Str.glued " " ws ++ "\n")):=by
    have g5:(σ.set 1 (some (false,d)))[1]?=some (some (false,d)):=by rw [List.getElem?_set,if_pos rfl,if_pos (by omega)]
    unfold jX
    simp! [g5,w4,ad]
   show (za 1 d σ).bind _=_
   rw [hg]
   show (jX (σ.set 1 (some (false,d)))).bind _=_
   rw [he]
   show (yr (za 1) yF jX σ items).bind _=_
   rw [e]
   rfl
  ·rcases List.mem_cons.mp hx with rfl | hx
   ·rw [u9,nl]
    omega
   ·exact b x hx
  ·have e1:((Builtin.Str.glued (" " : Str) ws ++ "\n").cps.toList)=jn 32 (ws.map fun t:Str=>t.cps.toList)++[10]:=by rw [ux,gc]; rfl
   rw [List.map_cons,List.flatten_cons,e1,List.append_assoc,List.singleton_append,Yp,jN j2]
   exact tl.app t
theorem Ex {N:List Str} {items:List D} (P:PW N items):∃ T:Str,uI [.lst items]=some (false,.str T)/\T.length<=100000/\wn (wK 10 T.cps.toList) items:=by
 have ln:=P.ln
 obtain ⟨ts,e,l,b,t⟩:=Ja (σ:=[some (false,.lst items),none]) P.nm rfl P.it
 have sm:(ts.map (·.length)).sum<=100*ts.length:=by
  have:∀ l:List Str,(∀ w∈l,w.length<=100)->(l.map (·.length)).sum<=100*l.length:=fun l=>by
   induction l with
   | nil=>intro _; exact Nat.le_refl _
   | cons a l ih=>
    intro q
    have:=ih fun w hw=>q w (List.mem_cons_of_mem _ hw)
    have:=q a List.mem_cons_self
    simp only [List.map_cons,List.sum_cons,List.length_cons]
    omega
  exact this ts b
 have gn:=L2.glued_len ("" : Str) ts
 have n0:("" : Str).length=0:=rfl
 rw [n0] at gn
 have jn2:=gE (sep := "") (ts:=ts) (by rw [n0]; omega)
 refine ⟨Builtin.Str.glued "" ts,?_,by omega,by rw [L8]; exact t⟩
 rw [LT]
 unfold Zg
 generalize Builtin.Str.glued ("" : Str) ts=J at *
 generalize ts.map D.str=TS at *
 simp! [e,jn2]
theorem qz {N:List Str} {items:List D} (P:PW N items):∀ d∈items,yQ d:=fun d hd=>WB (P.it d hd)
theorem Qs {N:List Str} {items:List D} (P:PW N items) {t:Str}:yJ t∈items↔t∈N:=by
 constructor
 ·intro h
  have:=P.lb.mem_iff.mp (List.mem_filter.mpr ⟨h,rfl⟩)
  obtain ⟨u,hu,e⟩:=List.mem_map.mp this
  cases e
  exact hu
 ·intro h
  exact (List.mem_filter.mp (P.lb.mem_iff.mpr (List.mem_map.mpr ⟨t,h,rfl⟩))).1
theorem Qt {N:List Str} {items:List D} (P:PW N items) {t:Str} (ht:t∈N):∃ n:Nat,(xO t items).2=some n:=
 Option.isSome_iff_exists.mp (Wt (0,none) (.inl ((Qs P).mpr ht)))
theorem YX {N:List Str} {items:List D} (P:PW N items) {t:Str} {n:Nat} (h:(xO t items).2=some n):vL [.lst items,.str t]=some (false,.int (n:Int)):=by
 have ln:=P.ln
 obtain ⟨ks,vs,e1,hk,hg⟩:=WM (qz P) (by omega)
 have g:=hg t
 rw [h] at g
 have hh:=Zx (vs:=vs) (.inr t) hk
 rw [g] at hh
 have n1:qm (.str t) (.dic ks vs)=some (.bl false):=by
  show (some (z_ ks (.inr t))).bind _=_
  rw [<- hh]
  rfl
 have n2:zM (.dic ks vs) (.str t)=some (.int (n:Int)):=g
 rw [LP]
 unfold Zc
 generalize D.dic ks vs=KV at *
 simp! [e1,n1,n2]
theorem C0 {N:List Str} {items:List D} (P:PW N items):∀ d∈items,yY d=true->∃ t∈N,zM d (.int (-1))=some (.str t):=fun d hd hj=>by
 rcases P.it d hd with h | ⟨t,_,rfl⟩
 ·cases h with
  | plain h=>
   obtain ⟨_,_,_,_,z,_⟩:=qy h
   rw [z] at hj
   cases hj
  | jump ht=>exact ⟨_,ht,rfl⟩
  | cond hw hk ht=>exact ⟨_,ht,rfl⟩
 ·cases hj
theorem Tl {items:List D} (hI:∀ d∈items,yQ d) {g:FG} {c:FT} {e:FE} {σ:zp} (hc:∀ d∈items,∃ σ1,g d σ=some σ1/\c σ1=some (zd d)/\(zd d=true->e σ1=some (.str (x_ d)))):yr g c e σ items=some ((items.filter zd).map fun d=>.str (x_ d)):=uV zd (fun d=>.str (x_ d)) hc
theorem Tn {d:D} (h:yQ d):(∃ w,zM d (.int 0)=some (.str w)/\zQ (.str w) (.str "label")=some (.bl (zd d)))/\(zd d=true->zM d (.int 1)=some (.str (x_ d))):=by
 obtain ⟨w,a,b,_⟩:=Ta h
 exact ⟨⟨w,a,b⟩,fun hl=>Tb h hl⟩
theorem XO {N:List Str} {items:List D} (P:PW N items):∃ T:Str,uI [.lst items]=some (false,.str T)/\qZ [.str T]=some (true,.lst items)/\tO [.lst items]=some (false,.bl true):=by
 have ln:=P.ln
 have hI:=qz P
 obtain ⟨T,e1,hT,tT⟩:=Ex P
 obtain ⟨f1,f2⟩:=CQ P hT tT
 refine ⟨T,e1,f2,?_⟩
 have nd:(items.filter zd).Nodup:=P.lb.nodup_iff.mpr (List.pairwise_map.mpr (List.Pairwise.imp (fun {a b} h z=>h (by cases z; rfl)) P.nm.nd))
 have ip:=Lq ⟨hI,nd,fun d hd hj=>by
  obtain ⟨t,ht,e⟩:=C0 P d hd hj
  obtain ⟨n,hn⟩:=Qt P ht
  exact ⟨t,n,e,hn⟩,ln⟩ fun d hd=>Tx P.nm (P.it d hd)
 have ea:=Im (by omega) hI
 have nb:Zw (.bl true) (.bl true)=some (.bl false):=rfl
 have l1:=Tl hI (g:=za 4) (c:=Vv) (e:=Vk) (σ:=[some (false,.lst items),some (false,.str T),some (false,.lst items),none,none]) fun d hd=>by
  obtain ⟨⟨w,a,b⟩,c⟩:=Tn (hI d hd)
  refine ⟨_,rfl,?_,fun hl=>?_⟩
  ·unfold Vv
   simp! [a,b]
  ·have c:=c hl
   unfold Vk
   simp! [c]
 have l2:=vU (g:=za 4) (e:=Vl) (σ:=[some (false,.lst items),some (false,.str T),some (false,.lst items),some (false,.lst ((items.filter zd).map fun d=>.str (x_ d))),none]) (fun _=>.bl true) (ds:=(items.filter zd).map fun d=>.str (x_ d)) fun d hd=>by
  obtain ⟨x,hx,rfl⟩:=List.mem_map.mp hd
  obtain ⟨hx,hl⟩:=List.mem_filter.mp hx
  obtain ⟨t,rfl⟩:=py (hI x hx) hl
  obtain ⟨n,hn⟩:=Qt P ((Qs P).mp hx)
  have pl:=YX P hn
  have q:=uR (i:=(n:Int)) rfl
  show ∃ σ1,za 4 (.str t) _=some σ1/\_
  refine ⟨_,rfl,?_⟩
  generalize (items.filter zd).map (fun d=>D.str (x_ d))=LL
  unfold Vl
  simp! [pl,q]
 have al:=XN ((items.filter zd).map fun d=>D.str (x_ d))
 rw [LD]
 unfold ZR
 generalize ((items.filter zd).map fun d=>D.str (x_ d)).map (fun _=>D.bl true)=BB at *
 generalize (items.filter zd).map (fun d=>D.str (x_ d))=LL at *
 simp! [e1,f1,f2,ea,ip,nb,l1,l2,al]
theorem YZ {t:Str} {p:Nat}:∀ (n:Nat) {L:List D},L.length=n->(∀ d∈L,yQ d)->(xO t L).2=some p->yJ t∈L
 | 0,L,hl,_,h=>by
  cases List.length_eq_zero_iff.mp hl
  cases h
 | n+1,L,hl,hI,h=>by
  rcases List.eq_nil_or_concat L with rfl | ⟨M,d,rfl⟩
  ·cases hl
  ·rw [List.concat_eq_append] at *
   have hm:M.length=n:=by
    rw [List.length_append] at hl
    simpa using hl
   have hM:∀ x∈M,yQ x:=fun x hx=>hI x (List.mem_append_left _ hx)
   cases hL:zd d with
   | true=>
    obtain ⟨u,rfl⟩:=py (hI d (List.mem_append_right _ List.mem_cons_self)) hL
    rw [Wq] at h
    by_cases e:u=t
    ·subst e
     exact List.mem_append_right _ List.mem_cons_self
    ·rw [if_neg e] at h
     exact List.mem_append_left _ (YZ n hm hM h)
   | false=>
    rw [Ws hL] at h
    exact List.mem_append_left _ (YZ n hm hM h)
theorem B0:∀ k:Fin 60,vW (nm k.val)=true:=by decide +kernel
theorem FP {items:List D} (P:PQ items) (hr:(zD items).length<=400) (hq:(zY (zD items).length (zO items)).length<=60) :
  ∃ N',PW N' (ym items)/\(ym items).filter zd=(zY (zD items).length (zO items)).map (fun p=>yJ (yU (zD items).length (zO items) p))/\(∀ p∈zY (zD items).length (zO items),(xO (yU (zD items).length (zO items) p) (ym items)).2=some p)/\(zD (ym items)).length=(zD items).length:=by
 obtain ⟨Y,_⟩:=Qd P hq
 obtain ⟨P',S⟩:=FN P hr hq
 have lr:((zD items).map yP).length=(zD items).length:=List.length_map _
 have la:=To Y
 have pa:∀ q∈zY (zD items).length (zO items),(xO (yU (zD items).length (zO items) q) (ym items)).2=some q:=fun q hq=>by
  have:=Qe Y (q:=q) (by rw [lr]; exact hq)
  rw [lr] at this
  exact this
 rw [lr] at la
 have ef:(List.range ((zD items).length+1)).filter (fun p=>decide (p∈zY (zD items).length (zO items)))=zY (zD items).length (zO items):=by
  show _=(List.range ((zD items).length+1)).filter (fun i=>decide (i∈xz (zO items)))
  refine List.filter_congr fun p hp=>?_
  have:p∈zY (zD items).length (zO items)↔p∈xz (zO items):=by
   unfold zY
   rw [YS,decide_eq_true_iff]
   exact ⟨fun z=>z.2,fun z=>⟨List.mem_range.mp hp,z⟩⟩
  by_cases c:p∈xz (zO items)
  ·rw [decide_eq_true c,decide_eq_true (this.mpr c)]
  ·rw [decide_eq_false c,decide_eq_false (fun z=>c (this.mp z))]
 rw [ef] at la
 have la:(ym items).filter zd=(zY (zD items).length (zO items)).map (fun p=>yJ (yU (zD items).length (zO items) p)):=la
 have mm:(zY (zD items).length (zO items)).map (fun p=>yJ (yU (zD items).length (zO items) p))=((zY (zD items).length (zO items)).map (yU (zD items).length (zO items))).map yJ:=by rw [List.map_map]; rfl
 have inN:∀ t,yJ t∈ym items->t∈(zY (zD items).length (zO items)).map (yU (zD items).length (zO items)):=fun t h=>by
  have:=List.mem_filter.mpr ⟨h,(rfl:zd (yJ t)=true)⟩
  rw [la,mm] at this
  obtain ⟨u,hu,e⟩:=List.mem_map.mp this
  cases e
  exact hu
 refine ⟨(zY (zD items).length (zO items)).map (yU (zD items).length (zO items)),⟨⟨?_,fun t ht=>?_⟩,fun d hd=>?_,?_,P'.ln⟩,la,pa,?_⟩
 ·exact List.pairwise_map.mpr (List.Pairwise.imp_of_mem (fun {a b} ha hb hab z=>hab (Q6 hq ha hb z)) (Wn _ _))
 ·obtain ⟨p,hp,rfl⟩:=List.mem_map.mp ht
  have:=List.idxOf_lt_length_of_mem hp
  exact B0 ⟨(zY (zD items).length (zO items)).idxOf p,by omega⟩
 ·have hI:=P'.it d hd
  cases hI with
  | label t=>exact .inr ⟨t,inN t hd,rfl⟩
  | plain h=>exact .inl (.plain h)
  | jump t=>
   obtain ⟨u,p,e1,e2⟩:=P'.tg _ hd rfl
   cases e1
   exact .inl (.jump (inN _ (YZ _ rfl P'.it e2)))
  | cond t hw hk=>
   obtain ⟨u,p,e1,e2⟩:=P'.tg _ hd (by rcases hw with rfl | rfl<;>rfl)
   cases e1
   exact .inl (.cond hw hk (inN _ (YZ _ rfl P'.it e2)))
 ·rw [la,mm]
 ·have:=congrArg List.length S.bare
  rw [List.length_map,List.length_map] at this
  exact this.symm
theorem Tr {items:List D} (P:PQ items):∀ {L:List D},(∀ d∈L,d∈items)->(L.filter yY).map (fun d=>match yy items d with | some p=>D.int (p:Int) | none=>.non)=xN (xz (L.map (yy items)))
 | [],_=>rfl
 | d::L,h=>by
  have ih:=Tr P (L:=L) fun x hx=>h x (List.mem_cons_of_mem _ hx)
  have s:=(Yv P (h d List.mem_cons_self)).1
  cases hj:yY d with
  | true=>
   rw [hj] at s
   obtain ⟨p,hp⟩:=Option.isSome_iff_exists.mp s
   rw [List.filter_cons_of_pos hj,List.map_cons,ih,List.map_cons,hp]
   rfl
  | false=>
   have e:yy items d=none:=by unfold yy; rw [hj]
   rw [List.filter_cons_of_neg (by rw [hj]; exact Bool.false_ne_true),ih,List.map_cons,e]
   rfl
theorem Cq:∀ ns:List Int,ns.length<=63->(∀ m∈ns,wA m<=1048576)->∃ o,zZ 6 UA [.lst (ns.map D.int)]=some (o,.bl true):=fun ns hl hb=>by
 refine ⟨false,?_⟩
 obtain ⟨N1,items,Q1,ep1⟩:=Qk ns hl (first:=0) (by decide)
 obtain ⟨N2,oth,Q2,ep2⟩:=Qk ns hl (first:=32) (by decide)
 have ec:=UW ns (k:=1) (by decide)
 generalize Zk ns 1=c at ec
 generalize D.lst (ns.map D.int)=S at *
 have ln:=Q1.ln
 have P1:=Q1.pw
 have hI:=qz P1
 have q:∃ N other,PW N other/\zl (tE (e2 zQ (e2 wt (zS uj (z8 (z6 0) (z8 (eC (.int 1)) zC))) (eC (.int 4))) (eC (.int 1)))) (ze 2 (eL Zu (z8 (z6 1) zC))) zn [some (false,S),some (false,.lst items),some (false,.lst oth),none,none,none]=some (.nx [some (false,S),some (false,.lst items),some (false,.lst other),none,none,none]):=by
  by_cases h:c % 4=1
  ·have f:zQ (.int (c % 4)) (.int 1)=some (.bl true):=uR h
   have l1:Zu [.lst items]=some (.lst items):=rfl
   refine ⟨N1,items,P1,?_⟩
   simp! [ec,f,l1]
  ·have f:zQ (.int (c % 4)) (.int 1)=some (.bl false):=uS h
   refine ⟨N2,oth,Q2.pw,?_⟩
   simp! [ec,f]
 obtain ⟨N,other,P2,eo⟩:=q
 obtain ⟨PQ1,hq⟩:=Fa Q1
 have rl:(zD items).length<=400:=by
  have:(zD items).length<=items.length:=List.length_filter_le _ _
  omega
 have epl:=(Qc PQ1 rl hq).1
 obtain ⟨N3,P3,la,pa,rr⟩:=FP PQ1 rl hq
 obtain ⟨T1,s1,r1,b1⟩:=XO P1
 obtain ⟨T2,s2,r2,b2⟩:=XO P2
 obtain ⟨T3,s3,r3,b3⟩:=XO P3
 haveI:Decidable (items=other):=Classical.propDecidable _
 have q1:zQ (.str T1) (.str T2)=some (.bl (T1 == T2)):=rfl
 have q2:=Ls hI (qz P2)
 have q3:(T1 == T2)=decide (items=other):=by
  by_cases h:items=other
  ·rw [decide_eq_true h]
   rw [h,s2] at s1
   cases s1
   exact beq_self_eq_true _
  ·rw [decide_eq_false h]
   refine beq_eq_false_iff_ne.mpr fun z=>h ?_
   rw [z,r2] at r1
   cases r1
   rfl
 rw [q3] at q1
 have q4:=Q4 (d:=.bl (decide (items=other))) rfl
 have er:=Yi hI
 have er:wV [.lst items]=some (true,.lst (zD items)):=er
 have l1:=uV (g:=za 6) (c:=X2) (e:=Y_) (σ:=[some (false,S),some (false,.lst items),some (false,.lst other),some (false,.lst (ym items)),none,none,none]) yY (fun d=>match yy items d with | some p=>D.int (p:Int) | none=>.non) (ds:=zD items) fun d hd=>by
  have hm:=(List.mem_filter.mp hd).1
  obtain ⟨w,a,b⟩:=M0 (hI d hm)
  refine ⟨_,rfl,?_,fun hj=>?_⟩
  ·unfold X2
   simp! [a,b]
  ·obtain ⟨t,p,e1,e2⟩:=PQ1.tg d hm hj
   have tg:yy items d=some p:=by
    unfold yy
    rw [hj,pz (hI d hm) hj e1]
    exact e2
   have pl:=YX P1 e2
   rw [tg]
   unfold Y_
   simp! [e1,pl]
 rw [Tr PQ1 (L:=zD items) fun d hd=>(List.mem_filter.mp hd).1] at l1
 have l1:yr (za 6) X2 Y_ [some (false,S),some (false,.lst items),some (false,.lst other),some (false,.lst (ym items)),none,none,none] (zD items)=some (xN (xz (zO items))):=l1
 have tl:(zO items).length=(zD items).length:=List.length_map _
 have es:pd [.lst (xN (xz (zO items)))]=some (.lst (xN (zY (zD items).length (zO items)))):=Jg (n:=(zD items).length+1) (by
  have:(xz (zO items)).length<=(zO items).length:=List.length_filterMap_le _ _
  omega) (p:=fun i=>decide (i∈xz (zO items))) (show (zY (zD items).length (zO items)).length<64 by omega) fun i=>by
  rw [decide_eq_true_iff]
  refine ⟨fun z=>⟨?_,z⟩,fun z=>z.2⟩
  obtain ⟨a,ha,e⟩:=List.mem_filterMap.mp z
  have e:a=some i:=e
  obtain ⟨r,_,e2⟩:=List.mem_map.mp ha
  exact Nat.lt_succ_of_le (Yu (e2.trans e))
 have l2:=Tl (qz P3) (g:=za 6) (c:=Vu) (e:=Vi) (σ:=[some (false,S),some (false,.lst items),some (false,.lst other),some (false,.lst (ym items)),some (false,.lst (xN (xz (zO items)))),none,none]) fun d hd=>by
  obtain ⟨⟨w,a,b⟩,c⟩:=Tn (qz P3 d hd)
  refine ⟨_,rfl,?_,fun hl=>?_⟩
  ·generalize xN (xz (zO items))=NN
   generalize ym items=LL
   unfold Vu
   simp! [a,b]
  ·have c:=c hl
   generalize xN (xz (zO items))=NN
   generalize ym items=LL
   unfold Vi
   simp! [c]
 have el:((ym items).filter zd).map (fun d=>D.str (x_ d))=(zY (zD items).length (zO items)).map fun p=>D.str (yU (zD items).length (zO items) p):=by
  rw [la,List.map_map]
  rfl
 rw [el] at l2
 have l3:=vU (g:=za 6) (e:=Vj) (σ:=[some (false,S),some (false,.lst items),some (false,.lst other),some (false,.lst (ym items)),some (false,.lst (xN (xz (zO items)))),some (false,.lst ((zY (zD items).length (zO items)).map fun p=>D.str (yU (zD items).length (zO items) p))),none]) (fun d=>match vL [.lst (ym items),d] with | some (_,v)=>v | none=>.non) (ds:=(zY (zD items).length (zO items)).map fun p=>D.str (yU (zD items).length (zO items) p)) fun d hd=>by
  obtain ⟨p,hp,rfl⟩:=List.mem_map.mp hd
  have pl:=YX P3 (pa p hp)
  refine ⟨_,rfl,?_⟩
  rw [pl]
  generalize xN (xz (zO items))=NN
  generalize (zY (zD items).length (zO items)).map (fun p=>D.str (yU (zD items).length (zO items) p))=MM
  generalize ym items=LL at *
  unfold Vj
  simp! [pl]
 have e3:((zY (zD items).length (zO items)).map fun p=>D.str (yU (zD items).length (zO items) p)).map (fun d=>match vL [.lst (ym items),d] with | some (_,v)=>v | none=>.non)=xN (zY (zD items).length (zO items)):=by
  rw [List.map_map]
  refine List.map_congr_left fun p hp=>?_
  show (match vL [.lst (ym items),.str (yU (zD items).length (zO items) p)] with | some (_,v)=>v | none=>.non)=_
  rw [YX P3 (pa p hp)]
 rw [e3] at l3
 have q5:=Oo (d:=.lst (xN (zY (zD items).length (zO items)))) (List.all_eq_true.mpr fun d hd=>by
  obtain ⟨v,_,rfl⟩:=List.mem_map.mp hd
  rfl)
 have er3:wV [.lst (ym items)]=some (true,.lst (zD (ym items))):=Yi (qz P3)
 have q6:=uR (i:=((zD (ym items)).length:Int)) (j:=((zD items).length:Int)) (by rw [rr])
 unfold UA
 show ((zG _ _:FS) [some (false,S),none,none,none,none,none]).bind _=_
 rw [xT (σ':=[some (false,S),some (false,.lst items),none,none,none,none]) (by simp! [ep1]),xT (σ':=[some (false,S),some (false,.lst items),some (false,.lst oth),none,none,none]) (by simp! [ep2]),xT eo]
 generalize xN (zY (zD items).length (zO items))=PP at *
 generalize xN (xz (zO items))=TT at *
 generalize (zY (zD items).length (zO items)).map (fun p=>D.str (yU (zD items).length (zO items) p))=MM at *
 generalize zD (ym items)=R3 at *
 generalize zD items=R1 at *
 generalize ym items=LL at *
 simp! [epl,b1,b2,b3,s1,s2,q1,q2,q4,er,l1,l2,l3,es,q5,er3,q6]
end L3
namespace My
open PySem L2 L3
set_option maxHeartbeats 4000000
noncomputable def top (i:Nat):Stmt:=PySem.Challenge.pw_markrun_k17_whole_read_back.main.body.getD i (.Pass ⟨0,0,0,0⟩)
section
variable {P:Program} {w:World} {K:PySem.W.Frag} {mg:Str->Option Value} {base:Heap} {A_MARKS:Addr} {A_JUMPS:Addr} {A_FIELDS:Addr} {A_NUMBER_WIDTHS:Addr} {A_PLACES:Addr}
noncomputable abbrev gf:Stmt:=top 5
theorem EQ:yL ["thing", "width"] ["thing", "width"] (zw gf):=⟨rfl,rfl,rfl,by decide +kernel,rfl,by decide +kernel,by decide +kernel⟩
theorem BH (d:zH K mg "is_number" gf ["thing", "width"]) (z_isinstance:mg "isinstance" = none) (z_int:mg "int" = none) (z_bool:mg "bool" = none):zL P w K mg base "is_number" ["thing", "width"] 1 (zN K pD):=
 zH.okS d EQ (by decide) Ck fun f cdv A outer s H E hr=>(zI (zt (wH (w_ (yx (wG .bool rfl rfl z_isinstance z_bool UP (zB (z7 0)))) (vI (wz (yx (wG .int rfl rfl z_isinstance z_int XY (zB (z7 0))))))))
   (zP (zh wS))
   zx)
  (zP (zh (vq (xt DF qG (zB zJ) (zB (z7 0)) (zm _)) (vt (xt YQ qG (zB (z7 0)) (zB (zr DM Bp zJ (z7 1))) (zm _)))))))
noncomputable abbrev ge:Stmt:=top 16
theorem EO:yL ["thing"] ["thing"] (zw ge):=⟨rfl,rfl,rfl,by decide +kernel,rfl,by decide +kernel,by decide +kernel⟩
theorem BF (d:zH K mg "is_name" ge ["thing"]) (z_isinstance:mg "isinstance" = none) (z_str:mg "str" = none) (z_len:mg "len" = none) (z_all:mg "all" = none) (g_NAME_LONGEST:xi mg "NAME_LONGEST" (.int 8)) (q_NAME_LONGEST:∀ H,zV K H (.int 8) (.int 8)) (g_LETTERS:xi mg "LETTERS" (.str "abcdefghijklmnopqrstuvwxyz")) (q_LETTERS:∀ H,zV K H (.str "abcdefghijklmnopqrstuvwxyz") (.str "abcdefghijklmnopqrstuvwxyz")):zL P w K mg base "is_name" ["thing"] 1 (zN K pC):=
 zH.okS d EO (by decide) Cj fun f cdv A outer s H E hr=>(zI (zt (wz (yx (wG .str rfl rfl z_isinstance z_str uu (zB (z7 0)))))
   (zP (zh wS))
   zx)
  (zI (zt (wH (w_ (zu YQ qG (zB (yc xJ xL rfl z_len xF (yW (zB (z7 0)) yX))) (zB zJ) (zm _)) (vI (zu Wh qG (zB (yc xJ xL rfl z_len xF (yW (zB (z7 0)) yX))) (zB (tJ g_NAME_LONGEST q_NAME_LONGEST rfl)) (zm _)))))
   (zP (zh wS))
   zx)
  (zP (zh (yc (uw rfl) t8 rfl z_all uv (yW (zB (yG (xq rfl (xI (own:=["sign"]) rfl) (xw (z7 0)) (xb (fun C s H fp pn=>(yK (i:=1) (show (yd ["thing"] ["sign"]).Nodup by decide +kernel) rfl (Or.inl rfl))) rfl) (fun C s H fp pn=>xy) (fun C s H fp pn=>(xt (wv (zb hr)) wu (zB (z7 1)) (zB (tJ g_LETTERS q_LETTERS rfl)) (by with_unfolding_all rfl)))))) yX))))))
noncomputable abbrev gW:Stmt:=top 15
theorem JJ:yL ["kind", "field", "thing", "width"] ["kind", "field", "thing"] (zw gW):=⟨rfl,rfl,rfl,by decide +kernel,rfl,by decide +kernel,by decide +kernel⟩
theorem B8 (d:zH K mg "fits" gW ["kind", "field", "thing"]) (g_MARKS:xi mg "MARKS" (.ref A_MARKS)) (q_MARKS:∀ H,zV K H Y1 (.ref A_MARKS)) (g_NUMBER_WIDTHS:xi mg "NUMBER_WIDTHS" (.ref A_NUMBER_WIDTHS)) (q_NUMBER_WIDTHS:vM K w A_NUMBER_WIDTHS Zz Y2) (g_PLACES:xi mg "PLACES" (.ref A_PLACES)) (q_PLACES:vM K w A_PLACES jz gB) (h_is_name:zL P w K mg base "is_name" ["thing"] 1 (zN K pC)) (h_is_number:zL P w K mg base "is_number" ["thing", "width"] 1 (zN K pD)):zL P w K mg base "fits" ["kind", "field", "thing"] 2 (zN K qV):=
 zH.okS d JJ (by decide) Cf fun f cdv A outer s H E hr=>(zI (zt (zu (yk (yI hr)) yj (zB (z7 1)) (zB zR) (zm _))
   (zP (zh (zW h_is_name hr rfl (zA (z7 2) zE))))
   zx)
  (zI (zt (zu (yk (yI hr)) yj (zB (z7 1)) (zB zR) (zm _))
   (zP (zh (xt (DB (zb hr)) B9 (zB (z7 2)) (zB (tJ g_MARKS q_MARKS rfl)) (by with_unfolding_all rfl))))
   zx)
  (zI (yH (i:=3) JJ.nd rfl (Or.inl rfl) (jJ (zu (yk (yI hr)) yj (zB (z7 1)) (zB zR) (zm _)) (kf g_NUMBER_WIDTHS q_NUMBER_WIDTHS rfl (z7 0)) (yC (yA (zb hr)) yB (kf g_PLACES q_PLACES rfl (z7 1)) zJ)))
  (zP (zh (zW h_is_number hr rfl (zA (z7 2) (zA (z7 3) zE))))))))
noncomputable abbrev gX:Stmt:=top 14
theorem V8:yL ["thing", "kind", "fields"] ["thing"] (zw gX):=⟨rfl,rfl,rfl,by decide +kernel,rfl,by decide +kernel,by decide +kernel⟩
theorem BC (d:zH K mg "is_item" gX ["thing"]) (z_len:mg "len" = none) (z_isinstance:mg "isinstance" = none) (z_tuple:mg "tuple" = none) (z_str:mg "str" = none) (z_all:mg "all" = none) (z_zip:mg "zip" = none) (g_FIELDS:xi mg "FIELDS" (.ref A_FIELDS)) (q_FIELDS:vM K w A_FIELDS xU vj) (h_fits:zL P w K mg base "fits" ["kind", "field", "thing"] 2 (zN K qV)):zL P w K mg base "is_item" ["thing"] 3 (zN K wU):=
 zH.okS d V8 (by decide) Cg fun f cdv A outer s H E hr=>(zI (zt (wH (w_ (wz (yx (wG .tuple rfl rfl z_isinstance z_tuple wo (zB (z7 0))))) (vI (zu (yk (yI hr)) yj (zB (yc xJ xL rfl z_len xF (yW (zB (z7 0)) yX))) (zB zJ) (zm _)))))
   (zP (zh wS))
   zx)
  (zI (yH (i:=1) V8.nd rfl (Or.inr rfl) (yC (yA (zb hr)) yB (z7 0) zJ))
  (zI (zt (wH (w_ (wz (yx (wG .str rfl rfl z_isinstance z_str uu (zB (z7 1))))) (vI (Jk g_FIELDS q_FIELDS rfl (z7 1)))))
   (zP (zh wS))
   zx)
  (zI (yH (i:=2) V8.nd rfl (Or.inl rfl) (kf g_FIELDS q_FIELDS rfl (z7 1)))
  (zI (zt (zu (uZ (yI hr)) uX (zB (yc xJ xL rfl z_len xF (yW (zB (z7 0)) yX))) (zB (zr xD xC (yc xJ xL rfl z_len xF (yW (zB (z7 2)) yX)) zJ)) (zm _))
   (zP (zh wS))
   zx)
  (zP (zh (yc (uw rfl) t8 rfl z_all uv (yW (zB (yG (xq rfl (xI (own:=["field", "held"]) rfl) (VM rfl z_zip (z7 2) (ud (z7 0) (vw zJ) qN)) (jo (fun C s H fp pn=>(t9 (n:=2) rfl (wR (yK (i:=3) (show (yd ["thing", "kind", "fields"] ["field", "held"]).Nodup by decide +kernel) rfl (Or.inl rfl)) (wR (yK (i:=4) (show (yd ["thing", "kind", "fields"] ["field", "held"]).Nodup by decide +kernel) rfl (Or.inl rfl)) tD)))) rfl rfl) (fun C s H fp pn=>xy) (fun C s H fp pn=>(zW h_fits hr rfl (zA (z7 1) (zA (z7 3) (zA (z7 4) zE)))))))) yX)))))))))
noncomputable abbrev gZ:Stmt:=top 18
theorem EN:yL ["item"] ["item"] (zw gZ):=⟨rfl,rfl,rfl,by decide +kernel,rfl,by decide +kernel,by decide +kernel⟩
theorem BE (d:zH K mg "is_label" gZ ["item"]):zL P w K mg base "is_label" ["item"] 1 (zN K w8):=
 zH.okS d EN (by decide) Ci fun f cdv A outer s H E hr=>(zP (zh (xt (yk (yI hr)) yj (zB (yC (yA (zb hr)) yB (z7 0) zJ)) (zB zR) (zm _))))
noncomputable abbrev gY:Stmt:=top 19
theorem EM:yL ["item"] ["item"] (zw gY):=⟨rfl,rfl,rfl,by decide +kernel,rfl,by decide +kernel,by decide +kernel⟩
theorem BD (d:zH K mg "is_jump" gY ["item"]) (g_JUMPS:xi mg "JUMPS" (.ref A_JUMPS)) (q_JUMPS:∀ H,zV K H gA (.ref A_JUMPS)):zL P w K mg base "is_jump" ["item"] 1 (zN K vJ):=
 zH.okS d EM (by decide) Ch fun f cdv A outer s H E hr=>(zP (zh (xt (wv (zb hr)) wu (zB (yC (yA (zb hr)) yB (z7 0) zJ)) (zB (tJ g_JUMPS q_JUMPS rfl)) (by with_unfolding_all rfl))))
noncomputable abbrev kN:Stmt:=top 20
theorem EX:yL ["items"] ["items"] (zw kN):=⟨rfl,rfl,rfl,by decide +kernel,rfl,by decide +kernel,by decide +kernel⟩
theorem Bo (d:zH K mg "rows_of" kN ["items"]) (h_is_label:zL P w K mg base "is_label" ["item"] 1 (zN K w8)):zL P w K mg base "rows_of" ["items"] 2 (zN K wV):=
 zH.okS d EX (by decide) EB fun f cdv A outer s H E hr=>(zP (uf (xq rfl (xI (own:=["item"]) rfl) (xw (z7 0)) (xb (fun C s H fp pn=>(yK (i:=1) (show (yd ["items"] ["item"]).Nodup by decide +kernel) rfl (Or.inl rfl))) rfl) (fun C s H fp pn=>(tL (wz (yx (zW h_is_label hr rfl (zA (z7 1) zE)))))) (fun C s H fp pn=>(z7 1)))))
noncomputable abbrev gk:Stmt:=top 22
theorem kS:yL ["items", "places", "place", "item"] ["items"] (zw gk):=⟨rfl,rfl,rfl,by decide +kernel,rfl,by decide +kernel,by decide +kernel⟩
theorem BL (d:zH K mg "label_places" gk ["items"]) (h_is_label:zL P w K mg base "is_label" ["item"] 1 (zN K w8)):zL P w K mg base "label_places" ["items"] 2 (zN K vy):=
 zH.okS d kS (by decide) Co fun f cdv A outer s H E hr=>(zI (jQ (i:=1) kS.nd rfl (Or.inl rfl) VI)
  (zI (yH (i:=2) kS.nd rfl (Or.inl rfl) zJ)
  (zI (p9 PassesOwn.never rfl (xw (z7 0)) (VJ (yK (i:=3) kS.nd rfl (Or.inl rfl)) rfl)
   (zP (zt (yx (zW h_is_label hr rfl (zA (z7 3) zE)))
     (zP (VP (zb hr) (qv 1) (yC (yA (zb hr)) yB (z7 3) zJ) (z7 2)))
     (zP (GK (i:=2) Lo BA kS.nd rfl (Or.inl rfl) zJ)))))
  (zP (ku 1)))))
noncomputable abbrev gg:Stmt:=top 17
theorem V9:yL ["thing", "names", "places"] ["thing"] (zw gg):=⟨rfl,rfl,rfl,by decide +kernel,rfl,by decide +kernel,by decide +kernel⟩
theorem BI (d:zH K mg "is_program" gg ["thing"]) (z_all:mg "all" = none) (z_isinstance:mg "isinstance" = none) (z_list:mg "list" = none) (z_len:mg "len" = none) (z_set:mg "set" = none) (h_is_item:zL P w K mg base "is_item" ["thing"] 3 (zN K wU)) (h_is_label:zL P w K mg base "is_label" ["item"] 1 (zN K w8)) (h_label_places:zL P w K mg base "label_places" ["items"] 2 (zN K vy)) (h_is_jump:zL P w K mg base "is_jump" ["item"] 1 (zN K vJ)):zL P w K mg base "is_program" ["thing"] 4 (zN K pE):=
 zH.okS d V9 (by decide) Cl fun f cdv A outer s H E hr=>(zI (zt (wH (w_ (wz (yx (wG .list rfl rfl z_isinstance z_list tt (zB (z7 0))))) (vI (wz (yx (yc (uw rfl) t8 rfl z_all uv (yW (zB (yG (xq rfl (xI (own:=["held"]) rfl) (xw (z7 0)) (xb (fun C s H fp pn=>(yK (i:=3) (show (yd ["thing", "names", "places"] ["held"]).Nodup by decide +kernel) rfl (Or.inl rfl))) rfl) (fun C s H fp pn=>xy) (fun C s H fp pn=>(zW h_is_item hr rfl (zA (z7 3) zE)))))) yX)))))))
   (zP (zh wS))
   zx)
  (zI (jO (i:=1) rfl V9.nd rfl rfl (xI (own:=["item"]) rfl) rfl (xw (z7 0)) (xb (fun C s H fp pn=>(yK (i:=3) (show (yd ["thing", "names", "places"] ["item"]).Nodup by decide +kernel) rfl (Or.inl rfl))) rfl) (fun C s H fp pn=>(tL (yx (zW h_is_label hr rfl (zA (z7 3) zE))))) (fun C s H fp pn=>(yC (yA (zb hr)) yB (z7 3) zJ)))
  (zI (zt (zu (uZ (yI hr)) uX (zB (Eg rfl rfl z_len rfl z_set (zA (z7 1) zE))) (zB (yc xJ xL rfl z_len xF (yW (zB (z7 1)) yX))) (zm _))
   (zP (zh wS))
   zx)
  (zI (yH (i:=2) V9.nd rfl (Or.inr rfl) (zW h_label_places hr rfl (zA (z7 0) zE)))
  (zP (zh (yc (uw rfl) t8 rfl z_all uv (yW (zB (yG (xq rfl (xI (own:=["item"]) rfl) (xw (z7 0)) (xb (fun C s H fp pn=>(yK (i:=3) (show (yd ["thing", "names", "places"] ["item"]).Nodup by decide +kernel) rfl (Or.inl rfl))) rfl) (fun C s H fp pn=>(tL (yx (zW h_is_jump hr rfl (zA (z7 3) zE))))) (fun C s H fp pn=>(xt (wv (zb hr)) wu (zB (yC (yA (zb hr)) yB (z7 3) (jL jU jT zJ))) (zB (z7 2)) (by with_unfolding_all rfl)))))) yX))))))))
noncomputable abbrev kJ:Stmt:=top 21
theorem JN:yL ["items", "name", "places"] ["items", "name"] (zw kJ):=⟨rfl,rfl,rfl,by decide +kernel,rfl,by decide +kernel,by decide +kernel⟩
theorem Bj (d:zH K mg "place_of" kJ ["items", "name"]) (h_label_places:zL P w K mg base "label_places" ["items"] 2 (zN K vy)):zL P w K mg base "place_of" ["items", "name"] 3 (zN K vL):=
 zH.okS d JN (by decide) E7 fun f cdv A outer s H E hr=>(zI (yH (i:=2) JN.nd rfl (Or.inl rfl) (zW h_label_places hr rfl (zA (z7 0) zE)))
  (zI (zt (zu (Wi (zb hr)) Wc (zB (z7 1)) (zB (z7 2)) (by with_unfolding_all rfl))
   VQ
   zx)
  (zP (zh (yC (yA (zb hr)) yB (z7 2) (z7 1))))))
noncomputable abbrev kP:Stmt:=top 23
theorem JP:yL ["items", "places"] ["items"] (zw kP):=⟨rfl,rfl,rfl,by decide +kernel,rfl,by decide +kernel,by decide +kernel⟩
theorem Bs (d:zH K mg "targets_of" kP ["items"]) (h_label_places:zL P w K mg base "label_places" ["items"] 2 (zN K vy)) (h_rows_of:zL P w K mg base "rows_of" ["items"] 2 (zN K wV)) (h_is_jump:zL P w K mg base "is_jump" ["item"] 1 (zN K vJ)):zL P w K mg base "targets_of" ["items"] 3 (zN K qb):=
 zH.okS d JP (by decide) ED fun f cdv A outer s H E hr=>(zI (yH (i:=1) JP.nd rfl (Or.inr rfl) (zW h_label_places hr rfl (zA (z7 0) zE)))
  (zP (uf (xq rfl (xI (own:=["row"]) rfl) (xw (zW h_rows_of hr rfl (zA (z7 0) zE))) (xb (fun C s H fp pn=>(yK (i:=2) (show (yd ["items", "places"] ["row"]).Nodup by decide +kernel) rfl (Or.inl rfl))) rfl) (fun C s H fp pn=>xy) (fun C s H fp pn=>(jJ (yx (zW h_is_jump hr rfl (zA (z7 2) zE))) (yC (yA (zb hr)) yB (z7 1) (yC (yA (zb hr)) yB (z7 2) (jL jU jT zJ))) wy))))))
noncomputable abbrev kF:Stmt:=top 40
theorem kW:yL ["number", "name", "left"] ["number"] (zw kF):=⟨rfl,rfl,rfl,by decide +kernel,rfl,by decide +kernel,by decide +kernel⟩
theorem Bf (d:zH K mg "name_of" kF ["number"]) (z_len:mg "len" = none) (g_LETTERS:xi mg "LETTERS" (.str "abcdefghijklmnopqrstuvwxyz")) (q_LETTERS:∀ H,zV K H (.str "abcdefghijklmnopqrstuvwxyz") (.str "abcdefghijklmnopqrstuvwxyz")):zL P w K mg base "name_of" ["number"] 1 (zN K qX):=
 zH.okS d kW (by decide) E4 fun f cdv A outer s H E hr=>(zI (yH (i:=1) kW.nd rfl (Or.inl rfl) zR)
  (zI (yH (i:=2) kW.nd rfl (Or.inl rfl) (zr xD xC (z7 0) zJ))
  (zI (GN PassesOwn.never (zu Wh qG (zB (z7 2)) (zB zJ) (zm _))
   (zI (yH (i:=1) kW.nd rfl (Or.inl rfl) (zr xD xC (yC (yA (zb hr)) yB (tJ g_LETTERS q_LETTERS rfl) (zr uY uW (zr Wj We (z7 2) zJ) (yc xJ xL rfl z_len xF (yW (zB (tJ g_LETTERS q_LETTERS rfl)) yX)))) (z7 1)))
    (zP (yH (i:=2) kW.nd rfl (Or.inl rfl) (zr gL gI (zr Wj We (z7 2) zJ) (yc xJ xL rfl z_len xF (yW (zB (tJ g_LETTERS q_LETTERS rfl)) yX)))))))
  (zP (zh (z7 1))))))
noncomputable abbrev kG:Stmt:=top 43
theorem JM:yL ["targets", "places"] ["targets"] (zw kG):=⟨rfl,rfl,rfl,by decide +kernel,rfl,by decide +kernel,by decide +kernel⟩
theorem Bg (d:zH K mg "names_of_places" kG ["targets"]) (z_sorted:mg "sorted" = none) (z_set:mg "set" = none) (z_dict:mg "dict" = none) (z_enumerate:mg "enumerate" = none) (h_name_of:zL P w K mg base "name_of" ["number"] 1 (zN K qX)):zL P w K mg base "names_of_places" ["targets"] 2 (zN K pK):=
 zH.okS d JM (by decide) E5 fun f cdv A outer s H E hr=>(zI (yH (i:=1) JM.nd rfl (Or.inl rfl) (yG (JY rfl rfl z_sorted rfl z_set (zA (yG (xq rfl (xI (own:=["target"]) rfl) (xw (z7 0)) (xb (fun C s H fp pn=>(yK (i:=2) (show (yd ["targets", "places"] ["target"]).Nodup by decide +kernel) rfl (Or.inl rfl))) rfl) (fun C s H fp pn=>(tL (zu YR YO (zB (z7 2)) (zB wy) (zm _)))) (fun C s H fp pn=>(z7 2)))) zE))))
  (zP (uf (Em rfl rfl z_dict O0 (zA (yG (xq rfl (xI (own:=["number", "place"]) rfl) (VL rfl z_enumerate (z7 1)) (jo (fun C s H fp pn=>(t9 (n:=2) rfl (wR (yK (i:=2) (show (yd ["targets", "places"] ["number", "place"]).Nodup by decide +kernel) rfl (Or.inl rfl)) (wR (yK (i:=3) (show (yd ["targets", "places"] ["number", "place"]).Nodup by decide +kernel) rfl (Or.inl rfl)) tD)))) rfl rfl) (fun C s H fp pn=>xy) (fun C s H fp pn=>(qM (zA (z7 3) (zA (zW h_name_of hr rfl (zA (z7 2) zE)) zE)) (yg (zT (zT yq)) (by decide)))))) zE)))))
noncomputable abbrev gm:Stmt:=top 42
theorem kT:yL ["rows", "targets", "names", "items", "number", "row"] ["rows", "targets"] (zw gm):=⟨rfl,rfl,rfl,by decide +kernel,rfl,by decide +kernel,by decide +kernel⟩
theorem BM (d:zH K mg "labelled" gm ["rows", "targets"]) (z_enumerate:mg "enumerate" = none) (z_len:mg "len" = none) (h_names_of_places:zL P w K mg base "names_of_places" ["targets"] 2 (zN K pK)):zL P w K mg base "labelled" ["rows", "targets"] 3 (zN K pF):=
 zH.okS d kT (by decide) Cp fun f cdv A outer s H E hr=>(zI (yH (i:=2) kT.nd rfl (Or.inl rfl) (zW h_names_of_places hr rfl (zA (z7 1) zE)))
  (zI (jQ (i:=3) kT.nd rfl (Or.inl rfl) (xP zE (yg yq (by decide))))
  (zI (p9 PassesOwn.never rfl (VL rfl z_enumerate (z7 0)) (Yo (t9 (n:=2) rfl (wR (yK (i:=4) kT.nd rfl (Or.inl rfl)) (wR (yK (i:=5) kT.nd rfl (Or.inl rfl)) tD))) rfl rfl)
   (zI (zt (zu (wv (zb hr)) wu (zB (z7 4)) (zB (z7 2)) (by with_unfolding_all rfl))
     (zP (kq (qv 3) (qM (zA zR (zA (yC (yA (zb hr)) yB (z7 2) (z7 4)) zE)) (yg (zT (zT yq)) (by decide)))))
     zx)
    (zP (kq (qv 3) (jJ (zu QO QH (zB (yC (yA (zb hr)) yB (z7 1) (z7 4))) (zB wy) (zm _)) (z7 5) (zr xD xC (z7 5) (qM (zA (yC (yA (zb hr)) yB (z7 2) (yC (yA (zb hr)) yB (z7 1) (z7 4))) zE) (yg (zT yq) (by decide)))))))))
  (zI (zt (zu (wv (zb hr)) wu (zB (yc xJ xL rfl z_len xF (yW (zB (z7 0)) yX))) (zB (z7 2)) (by with_unfolding_all rfl))
   (zP (kq (qv 3) (qM (zA zR (zA (yC (yA (zb hr)) yB (z7 2) (yc xJ xL rfl z_len xF (yW (zB (z7 0)) yX))) zE)) (yg (zT (zT yq)) (by decide)))))
   zx)
  (zP (ku 3))))))
noncomputable abbrev kK:Stmt:=top 41
theorem JO:yL ["items", "rows"] ["items"] (zw kK):=⟨rfl,rfl,rfl,by decide +kernel,rfl,by decide +kernel,by decide +kernel⟩
theorem Bk (d:zH K mg "plain" kK ["items"]) (h_rows_of:zL P w K mg base "rows_of" ["items"] 2 (zN K wV)) (h_is_jump:zL P w K mg base "is_jump" ["item"] 1 (zN K vJ)) (h_labelled:zL P w K mg base "labelled" ["rows", "targets"] 3 (zN K pF)) (h_targets_of:zL P w K mg base "targets_of" ["items"] 3 (zN K qb)):zL P w K mg base "plain" ["items"] 4 (zN K pL):=
 zH.okS d JO (by decide) E8 fun f cdv A outer s H E hr=>(zI (jO (i:=1) rfl JO.nd rfl rfl (xI (own:=["row"]) rfl) rfl (xw (zW h_rows_of hr rfl (zA (z7 0) zE))) (xb (fun C s H fp pn=>(yK (i:=2) (show (yd ["items", "rows"] ["row"]).Nodup by decide +kernel) rfl (Or.inl rfl))) rfl) (fun C s H fp pn=>xy) (fun C s H fp pn=>(jJ (yx (zW h_is_jump hr rfl (zA (z7 2) zE))) (ud (z7 2) qN (vw (jL jU jT zJ))) (z7 2))))
  (zP (uf (JX h_labelled hr rfl (zA (z7 1) (zA (zW h_targets_of hr rfl (zA (z7 0) zE)) zE))))))
noncomputable abbrev gT:Stmt:=top 29
theorem EK:yL ["field", "held"] ["field", "held"] (zw gT):=⟨rfl,rfl,rfl,by decide +kernel,rfl,by decide +kernel,by decide +kernel⟩
theorem B6 (d:zH K mg "field_text" gT ["field", "held"]) (z_str:mg "str" = none):zL P w K mg base "field_text" ["field", "held"] 1 (zN K ui):=
 zH.okS d EK (by decide) Cd fun f cdv A outer s H E hr=>(zI (zt (zu (yk (yI hr)) yj (zB (z7 0)) (zB zR) (zm _))
   (zP (zh (Eb OI Br rfl z_str uu (yW (zB (z7 1)) yX))))
   zx)
  (zI (zt (wH (w_ (zu (yk (yI hr)) yj (zB (z7 0)) (zB zR) (zm _)) (vI (zu (yk (yI hr)) yj (zB (z7 0)) (zB zR) (zm _)))))
   (zP (zh (Ee (Jd zR (Jd (Ed (z7 1)) G7)))))
   zx)
  (zP (zh (z7 1)))))
noncomputable abbrev gi:Stmt:=top 28
theorem JK:yL ["item", "fields"] ["item"] (zw gi):=⟨rfl,rfl,rfl,by decide +kernel,rfl,by decide +kernel,by decide +kernel⟩
theorem BJ (d:zH K mg "item_text" gi ["item"]) (z_zip:mg "zip" = none) (g_FIELDS:xi mg "FIELDS" (.ref A_FIELDS)) (q_FIELDS:vM K w A_FIELDS xU vj) (h_is_label:zL P w K mg base "is_label" ["item"] 1 (zN K w8)) (h_field_text:zL P w K mg base "field_text" ["field", "held"] 1 (zN K ui)):zL P w K mg base "item_text" ["item"] 2 (zN K uG):=
 zH.okS d JK (by decide) Cm fun f cdv A outer s H E hr=>(zI (zt (yx (zW h_is_label hr rfl (zA (z7 0) zE)))
   (zP (zh (zr xD xC (yC (yA (zb hr)) yB (z7 0) zJ) zR)))
   zx)
  (zI (yH (i:=1) JK.nd rfl (Or.inl rfl) (kf g_FIELDS q_FIELDS rfl (yC (yA (zb hr)) yB (z7 0) zJ)))
  (zP (zh (VF zR (zB (zr xD xC (yG (xP (zA (yC (yA (zb hr)) yB (z7 0) zJ) zE) (yg (zT yq) (by decide)))) (yG (xq rfl (xI (own:=["field", "held"]) rfl) (VM rfl z_zip (z7 1) (ud (z7 0) (vw zJ) qN)) (jo (fun C s H fp pn=>(t9 (n:=2) rfl (wR (yK (i:=2) (show (yd ["item", "fields"] ["field", "held"]).Nodup by decide +kernel) rfl (Or.inl rfl)) (wR (yK (i:=3) (show (yd ["item", "fields"] ["field", "held"]).Nodup by decide +kernel) rfl (Or.inl rfl)) tD)))) rfl rfl) (fun C s H fp pn=>xy) (fun C s H fp pn=>(zW h_field_text hr rfl (zA (z7 2) (zA (z7 3) zE)))))))))))))
noncomputable abbrev kO:Stmt:=top 27
theorem EY:yL ["items"] ["items"] (zw kO):=⟨rfl,rfl,rfl,by decide +kernel,rfl,by decide +kernel,by decide +kernel⟩
theorem Bq (d:zH K mg "shown" kO ["items"]) (h_item_text:zL P w K mg base "item_text" ["item"] 2 (zN K uG)):zL P w K mg base "shown" ["items"] 3 (zN K uI):=
 zH.okS d EY (by decide) EC fun f cdv A outer s H E hr=>(zP (zh (VF zR (zB (yG (xq rfl (xI (own:=["item"]) rfl) (xw (z7 0)) (xb (fun C s H fp pn=>(yK (i:=1) (show (yd ["items"] ["item"]).Nodup by decide +kernel) rfl (Or.inl rfl))) rfl) (fun C s H fp pn=>xy) (fun C s H fp pn=>(zr xD xC (zW h_item_text hr rfl (zA (z7 1) zE)) zR))))))))
noncomputable abbrev kR:Stmt:=top 33
theorem JQ:yL ["row", "looked_at"] ["row"] (zw kR):=⟨rfl,rfl,rfl,by decide +kernel,rfl,by decide +kernel,by decide +kernel⟩
theorem Bu (d:zH K mg "words_in" kR ["row"]):zL P w K mg base "words_in" ["row"] 1 (zN K qc):=
 zH.okS d JQ (by decide) EF fun f cdv A outer s H E hr=>(zI (yH (i:=1) JQ.nd rfl (Or.inl rfl) (Ej (Ei (z7 0) zR) (Wp rfl) (by decide)))
  (zP (uf (xq rfl (xI (own:=["word"]) rfl) (xw (yG (JZ (z7 1) zR))) (xb (fun C s H fp pn=>(yK (i:=2) (show (yd ["row", "looked_at"] ["word"]).Nodup by decide +kernel) rfl (Or.inl rfl))) rfl) (fun C s H fp pn=>(tL (zu (uZ (yI hr)) uX (zB (z7 2)) (zB zR) (zm _)))) (fun C s H fp pn=>(z7 2))))))
noncomputable abbrev kH:Stmt:=top 37
theorem EW:yL ["word"] ["word"] (zw kH):=⟨rfl,rfl,rfl,by decide +kernel,rfl,by decide +kernel,by decide +kernel⟩
theorem Bi (d:zH K mg "number_told" kH ["word"]) (z_len:mg "len" = none) (z_all:mg "all" = none) (z_int:mg "int" = none) (g_FIGURES_MOST:xi mg "FIGURES_MOST" (.int 5)) (q_FIGURES_MOST:∀ H,zV K H (.int 5) (.int 5)) (g_FIGURES:xi mg "FIGURES" (.str "0123456789")) (q_FIGURES:∀ H,zV K H (.str "0123456789") (.str "0123456789")):zL P w K mg base "number_told" ["word"] 1 (zN K qY):=
 zH.okS d EW (by decide) E6 fun f cdv A outer s H E hr=>(zI (zt (wH (w_ (zu (yk (yI hr)) yj (zB (z7 0)) (zB zR) (zm _)) (vI (zu Wh qG (zB (yc xJ xL rfl z_len xF (yW (zB (z7 0)) yX))) (zB (tJ g_FIGURES_MOST q_FIGURES_MOST rfl)) (zm _)))))
   (zP (zh wy))
   zx)
  (zI (zt (wz (yx (yc (uw rfl) t8 rfl z_all uv (yW (zB (yG (xq rfl (xI (own:=["sign"]) rfl) (xw (z7 0)) (xb (fun C s H fp pn=>(yK (i:=1) (show (yd ["word"] ["sign"]).Nodup by decide +kernel) rfl (Or.inl rfl))) rfl) (fun C s H fp pn=>xy) (fun C s H fp pn=>(xt (wv (zb hr)) wu (zB (z7 1)) (zB (tJ g_FIGURES q_FIGURES rfl)) (by with_unfolding_all rfl)))))) yX))))
   (zP (zh wy))
   zx)
  (zI (zt (wH (jR (yx (JT (z7 0) zR)) (jS (zu (uZ (yI hr)) uX (zB (z7 0)) (zB zR) (zm _)))))
   (zP (zh wy))
   zx)
  (zP (zh (Ef rfl z_int (zA (z7 0) zE)))))))
noncomputable abbrev gU:Stmt:=top 36
theorem EL:yL ["field", "word"] ["field", "word"] (zw gU):=⟨rfl,rfl,rfl,by decide +kernel,rfl,by decide +kernel,by decide +kernel⟩
theorem B7 (d:zH K mg "field_told" gU ["field", "word"]) (h_number_told:zL P w K mg base "number_told" ["word"] 1 (zN K qY)):zL P w K mg base "field_told" ["field", "word"] 2 (zN K qU):=
 zH.okS d EL (by decide) Ce fun f cdv A outer s H E hr=>(zI (zt (zu (yk (yI hr)) yj (zB (z7 0)) (zB zR) (zm _))
   (zP (zh (zW h_number_told hr rfl (zA (z7 1) zE))))
   zx)
  (zI (zt (wH (w_ (zu (yk (yI hr)) yj (zB (z7 0)) (zB zR) (zm _)) (vI (zu (yk (yI hr)) yj (zB (z7 0)) (zB zR) (zm _)))))
   (zP (zh (jJ (yx (JT (z7 1) zR)) (zW h_number_told hr rfl (zA (ud (z7 1) (vw zJ) qN) zE)) wy)))
   zx)
  (zP (zh (z7 1)))))
noncomputable abbrev kM:Stmt:=top 35
theorem VD:yL ["words", "kind", "fields"] ["words"] (zw kM):=⟨rfl,rfl,rfl,by decide +kernel,rfl,by decide +kernel,by decide +kernel⟩
theorem Bn (d:zH K mg "row_told" kM ["words"]) (z_len:mg "len" = none) (z_tuple:mg "tuple" = none) (z_zip:mg "zip" = none) (g_FIELDS:xi mg "FIELDS" (.ref A_FIELDS)) (q_FIELDS:vM K w A_FIELDS xU vj) (h_field_told:zL P w K mg base "field_told" ["field", "word"] 2 (zN K qU)):zL P w K mg base "row_told" ["words"] 3 (zN K uH):=
 zH.okS d VD (by decide) EA fun f cdv A outer s H E hr=>(zI (yH (i:=1) VD.nd rfl (Or.inl rfl) (yC (yA (zb hr)) yB (z7 0) zJ))
  (zI (zt (wH (w_ (zu (yk (yI hr)) yj (zB (z7 1)) (zB zR) (zm _)) (vI (Jk g_FIELDS q_FIELDS rfl (z7 1)))))
   (zP (zh wy))
   zx)
  (zI (yH (i:=2) VD.nd rfl (Or.inl rfl) (kf g_FIELDS q_FIELDS rfl (z7 1)))
  (zI (zt (zu (uZ (yI hr)) uX (zB (yc xJ xL rfl z_len xF (yW (zB (z7 0)) yX))) (zB (zr xD xC (yc xJ xL rfl z_len xF (yW (zB (z7 2)) yX)) zJ)) (zm _))
   (zP (zh wy))
   zx)
  (zP (zh (JS US QL rfl z_tuple wo (zA (zr xD xC (yG (xP (zA (z7 1) zE) (yg (zT yq) (by decide)))) (yG (xq rfl (xI (own:=["field", "word"]) rfl) (VM rfl z_zip (z7 2) (ud (z7 0) (vw zJ) qN)) (jo (fun C s H fp pn=>(t9 (n:=2) rfl (wR (yK (i:=3) (show (yd ["words", "kind", "fields"] ["field", "word"]).Nodup by decide +kernel) rfl (Or.inl rfl)) (wR (yK (i:=4) (show (yd ["words", "kind", "fields"] ["field", "word"]).Nodup by decide +kernel) rfl (Or.inl rfl)) tD)))) rfl rfl) (fun C s H fp pn=>xy) (fun C s H fp pn=>(zW h_field_told hr rfl (zA (z7 3) (zA (z7 4) zE))))))) zE))))))))
noncomputable abbrev gj:Stmt:=top 34
theorem VA:yL ["words", "item"] ["words"] (zw gj):=⟨rfl,rfl,rfl,by decide +kernel,rfl,by decide +kernel,by decide +kernel⟩
theorem BK (d:zH K mg "item_told" gj ["words"]) (z_len:mg "len" = none) (h_row_told:zL P w K mg base "row_told" ["words"] 3 (zN K uH)) (h_is_item:zL P w K mg base "is_item" ["thing"] 3 (zN K wU)):zL P w K mg base "item_told" ["words"] 4 (zN K vK):=
 zH.okS d VA (by decide) Cn fun f cdv A outer s H E hr=>(zI (yH (i:=1) VA.nd rfl (Or.inl rfl) (zW h_row_told hr rfl (zA (z7 0) zE)))
  (zI (zt (wH (jR (zu (yk (yI hr)) yj (zB (yc xJ xL rfl z_len xF (yW (zB (z7 0)) yX))) (zB zJ) (zm _)) (jS (yx (Ec (yC (yA (zb hr)) yB (z7 0) zJ) zR)))))
   (zP (yH (i:=1) VA.nd rfl (Or.inl rfl) (qM (zA zR (zA (ud (yC (yA (zb hr)) yB (z7 0) zJ) qN (vw (jL jU jT zJ))) zE)) (yg (zT (zT yq)) (by decide)))))
   zx)
  (zP (zh (jJ (yx (zW h_is_item hr rfl (zA (z7 1) zE))) (z7 1) wy)))))
noncomputable abbrev kQ:Stmt:=top 32
theorem kX:yL ["text", "told", "number", "row", "words"] ["text"] (zw kQ):=⟨rfl,rfl,rfl,by decide +kernel,rfl,by decide +kernel,by decide +kernel⟩
theorem Bt (d:zH K mg "told_rows" kQ ["text"]) (z_enumerate:mg "enumerate" = none) (h_words_in:zL P w K mg base "words_in" ["row"] 1 (zN K qc)) (h_item_told:zL P w K mg base "item_told" ["words"] 4 (zN K vK)):zL P w K mg base "told_rows" ["text"] 5 (zN K tR):=
 zH.okS d kX (by decide) EE fun f cdv A outer s H E hr=>(zI (jQ (i:=1) kX.nd rfl (Or.inl rfl) (xP zE (yg yq (by decide))))
  (zI (p9 PassesOwn.never rfl (VL rfl z_enumerate (yG (JZ (z7 0) zR))) (Yo (t9 (n:=2) rfl (wR (yK (i:=2) kX.nd rfl (Or.inl rfl)) (wR (yK (i:=3) kX.nd rfl (Or.inl rfl)) tD))) rfl rfl)
   (zI (yH (i:=4) kX.nd rfl (Or.inl rfl) (zW h_words_in hr rfl (zA (z7 3) zE)))
    (zP (zt (zu (uZ (yI hr)) uX (zB (z7 4)) (zB (yG (xP zE (yg yq (by decide))))) (zm _))
     (zP (kq (qv 1) (qM (zA (z7 2) (zA (zW h_item_told hr rfl (zA (z7 4) zE)) zE)) (yg (zT (zT yq)) (by decide)))))
     zx))))
  (zP (ku 1))))
noncomputable abbrev kE:Stmt:=top 38
theorem p8:yL ["told", "names", "number", "item", "ahead"] ["told"] (zw kE):=⟨rfl,rfl,rfl,by decide +kernel,rfl,by decide +kernel,by decide +kernel⟩
theorem Bd (d:zH K mg "least_fault" kE ["told"]) (h_is_label:zL P w K mg base "is_label" ["item"] 1 (zN K w8)) (h_is_jump:zL P w K mg base "is_jump" ["item"] 1 (zN K vJ)):zL P w K mg base "least_fault" ["told"] 2 (zN K tQ):=
 zH.okS d p8 (by decide) E3 fun f cdv A outer s H E hr=>(zI (jQ (i:=1) p8.nd rfl (Or.inl rfl) VI)
  (zI (p9 PassesOwn.never rfl (xw (z7 0)) (Yo (t9 (n:=2) rfl (wR (yK (i:=2) p8.nd rfl (Or.inl rfl)) (wR (yK (i:=3) p8.nd rfl (Or.inl rfl)) tD))) rfl rfl)
   (zP (zt (wH (jR (zu YR YO (zB (z7 3)) (zB wy) (zm _)) (jS (yx (zW h_is_label hr rfl (zA (z7 3) zE))))))
     (zP (VP (zb hr) (qv 1) (yC (yA (zb hr)) yB (z7 3) zJ) wS))
     zx)))
  (Jj 1 (zI (jQ (i:=4) p8.nd rfl (Or.inl rfl) VI)
  (zI (p9 PassesOwn.never rfl (xw (z7 0)) (Yo (t9 (n:=2) rfl (wR (yK (i:=2) p8.nd rfl (Or.inl rfl)) (wR (yK (i:=3) p8.nd rfl (Or.inl rfl)) tD))) rfl rfl)
   (zI (zt (zu QO QH (zB (z7 3)) (zB wy) (zm _))
     (zP (zh (z7 2)))
     zx)
    (zI (zt (wH (jR (yx (zW h_is_jump hr rfl (zA (z7 3) zE))) (jS (zu (Wi (zb hr)) Wc (zB (yC (yA (zb hr)) yB (z7 3) (jL jU jT zJ))) (zB (z7 1)) (by with_unfolding_all rfl)))))
     (zP (zh (z7 2)))
     zx)
    (zP (zt (yx (zW h_is_label hr rfl (zA (z7 3) zE)))
     (zI (zt (zu (wv (zb hr)) wu (zB (yC (yA (zb hr)) yB (z7 3) zJ)) (Yl 4) (by with_unfolding_all rfl))
       (zP (zh (z7 2)))
       zx)
      (zP (VP (zb hr) (qv 4) (yC (yA (zb hr)) yB (z7 3) zJ) wS)))
     zx)))))
  (Jj 4 (zP (zh wy))))))))
noncomputable abbrev gS:Stmt:=top 31
theorem EJ:yL ["text"] ["text"] (zw gS):=⟨rfl,rfl,rfl,by decide +kernel,rfl,by decide +kernel,by decide +kernel⟩
theorem B5 (d:zH K mg "fault" gS ["text"]) (h_least_fault:zL P w K mg base "least_fault" ["told"] 2 (zN K tQ)) (h_told_rows:zL P w K mg base "told_rows" ["text"] 5 (zN K tR)):zL P w K mg base "fault" ["text"] 6 (zN K pB):=
 zH.okS d EJ (by decide) Cc fun f cdv A outer s H E hr=>(zP (zh (zW h_least_fault hr rfl (zA (zW h_told_rows hr rfl (zA (z7 0) zE)) zE))))
noncomputable abbrev kL:Stmt:=top 30
theorem VC:yL ["text", "told", "wrong"] ["text"] (zw kL):=⟨rfl,rfl,rfl,by decide +kernel,rfl,by decide +kernel,by decide +kernel⟩
theorem Bm (d:zH K mg "read" kL ["text"]) (h_told_rows:zL P w K mg base "told_rows" ["text"] 5 (zN K tR)) (h_least_fault:zL P w K mg base "least_fault" ["told"] 2 (zN K tQ)):zL P w K mg base "read" ["text"] 6 (zN K qZ):=
 zH.okS d VC (by decide) E9 fun f cdv A outer s H E hr=>(zI (yH (i:=1) VC.nd rfl (Or.inl rfl) (zW h_told_rows hr rfl (zA (z7 0) zE)))
  (zI (yH (i:=2) VC.nd rfl (Or.inl rfl) (zW h_least_fault hr rfl (zA (z7 1) zE)))
  (zI (zt (zu YR YO (zB (z7 2)) (zB wy) (zm _))
   VQ
   zx)
  (zP (uf (xq rfl (xI (own:=["number", "item"]) rfl) (xw (z7 1)) (jo (fun C s H fp pn=>(t9 (n:=2) rfl (wR (yK (i:=3) (show (yd ["text", "told", "wrong"] ["number", "item"]).Nodup by decide +kernel) rfl (Or.inl rfl)) (wR (yK (i:=4) (show (yd ["text", "told", "wrong"] ["number", "item"]).Nodup by decide +kernel) rfl (Or.inl rfl)) tD)))) rfl rfl) (fun C s H fp pn=>xy) (fun C s H fp pn=>(z7 4))))))))
noncomputable abbrev gt:Stmt:=top 45
theorem ER:yL ["_law_script", "_law_k"] ["_law_script", "_law_k"] (zw gt):=⟨rfl,rfl,rfl,by decide +kernel,rfl,by decide +kernel,by decide +kernel⟩
theorem BT (d:zH K mg "_law_cell_at" gt ["_law_script", "_law_k"]) (z_len:mg "len" = none):zL P w K mg base "_law_cell_at" ["_law_script", "_law_k"] 1 (zN K uj):=
 zH.okS d ER (by decide) Cs fun f cdv A outer s H E hr=>(zI (zt (zu YQ qG (zB (z7 1)) (zB (yc xJ xL rfl z_len xF (yW (zB (z7 0)) yX))) (zm _))
   (zP (zh (yC (yA (zb hr)) yB (z7 0) (z7 1))))
   zx)
  (zP (zh zJ)))
noncomputable abbrev kC:Stmt:=top 46
theorem EV:yL ["_law_found"] ["_law_found"] (zw kC):=⟨rfl,rfl,rfl,by decide +kernel,rfl,by decide +kernel,by decide +kernel⟩
theorem Bb (d:zH K mg "_law_whole" kC ["_law_found"]) (z_isinstance:mg "isinstance" = none) (z_bool:mg "bool" = none) (z_int:mg "int" = none):zL P w K mg base "_law_whole" ["_law_found"] 1 (zN K tP):=
 zH.okS d EV (by decide) E1 fun f cdv A outer s H E hr=>(zP (zh (vq (wG .int rfl rfl z_isinstance z_int XY (zB (z7 0))) (vt (Eh (wG .bool rfl rfl z_isinstance z_bool UP (zB (z7 0))))))))
noncomputable abbrev gx:Stmt:=top 47
theorem VB:yL ["_law_cell", "_law_k", "_law_many", "_law_some", "_law_made"] ["_law_cell", "_law_k", "_law_many"] (zw gx):=⟨rfl,rfl,rfl,by decide +kernel,rfl,by decide +kernel,by decide +kernel⟩
theorem BV (d:zH K mg "_law_mixed" gx ["_law_cell", "_law_k", "_law_many"]):zL P w K mg base "_law_mixed" ["_law_cell", "_law_k", "_law_many"] 1 (zN K xE):=
 zH.okS d VB (by decide) Cu fun f cdv A outer s H E hr=>(zI (yH (i:=3) VB.nd rfl (Or.inl rfl) (yG (xP (V7 (is:=[99991,99989,99971,99961,99929,99923,99907,99901,99881,99877,99871]) rfl) (yg (XM (n:=11) (by decide)) (by decide)))))
  (zI (yH (i:=4) VB.nd rfl (Or.inl rfl) (zr uY uW (zr jD QK (zr xD xC (z7 0) (zr jD YN zJ (z7 1))) zJ) (yC (yA (zb hr)) yB (z7 3) (zr uY uW (z7 1) zJ))))
  (zP (zh (zr uY uW (zr uY uW (zr xD xC (zr xD xC (zr jD QK (zr DG Be (z7 4) (z7 4)) zJ) (z7 4)) (z7 1)) zJ) (z7 2))))))
noncomputable abbrev gu:Stmt:=top 48
theorem ES:yL ["_law_k"] ["_law_k"] (zw gu):=⟨rfl,rfl,rfl,by decide +kernel,rfl,by decide +kernel,by decide +kernel⟩
theorem BU (d:zH K mg "_law_letter" gu ["_law_k"]):zL P w K mg base "_law_letter" ["_law_k"] 1 (zN K uk):=
 zH.okS d ES (by decide) Ct fun f cdv A outer s H E hr=>(zP (zh (yC (yA (zb hr)) yB zR (zr uY uW (z7 0) zJ))))
noncomputable abbrev gy:Stmt:=top 49
theorem vp:yL ["_law_cell", "_law_many", "_law_size", "_law_spot", "_law_word", "_law_own", "_law_names_here", "_law_k", "_law_letter_here", "_law_name", "_law_others"] ["_law_cell", "_law_many"] (zw gy):=⟨rfl,rfl,rfl,by decide +kernel,rfl,by decide +kernel,by decide +kernel⟩
theorem BW (d:zH K mg "_law_names" gy ["_law_cell", "_law_many"]) (z_range:mg "range" = none) (h_law_mixed:zL P w K mg base "_law_mixed" ["_law_cell", "_law_k", "_law_many"] 1 (zN K xE)) (h_law_letter:zL P w K mg base "_law_letter" ["_law_k"] 1 (zN K uk)):zL P w K mg base "_law_names" ["_law_cell", "_law_many"] 2 (zN K pG):=
 zH.okS d vp (by decide) Cv fun f cdv A outer s H E hr=>(zI (yH (i:=2) vp.nd rfl (Or.inl rfl) (zr xD xC zJ (zW h_law_mixed hr rfl (zA (z7 0) (zA zJ (zA zJ zE))))))
  (zI (yH (i:=3) vp.nd rfl (Or.inl rfl) (zW h_law_mixed hr rfl (zA (z7 0) (zA zJ (zA (z7 2) zE)))))
  (zI (yH (i:=4) vp.nd rfl (Or.inl rfl) (VF zR (zB (yG (xq rfl (xI (own:=["_law_j"]) rfl) (ue rfl z_range zJ) (xb (fun C s H fp pn=>(yK (i:=11) (show (yd ["_law_cell", "_law_many", "_law_size", "_law_spot", "_law_word", "_law_own", "_law_names_here", "_law_k", "_law_letter_here", "_law_name", "_law_others"] ["_law_j"]).Nodup by decide +kernel) rfl (Or.inl rfl))) rfl) (fun C s H fp pn=>xy) (fun C s H fp pn=>(zW h_law_letter hr rfl (zA (zW h_law_mixed hr rfl (zA (z7 0) (zA (zr xD xC zJ (z7 11)) (zA zJ zE)))) zE))))))))
  (zI (yH (i:=5) vp.nd rfl (Or.inl rfl) (yG (xP (zA zR (zA zR (zA zR (zA zR (zA zR (zA zR (zA zR (zA zR zE)))))))) (yg (zT (zT (zT (zT (zT (zT (zT (zT yq)))))))) (by decide)))))
  (zI (jQ (i:=6) vp.nd rfl (Or.inr rfl) (xP zE (yg yq (by decide))))
  (zI (p9 PassesOwn.never rfl (ue rfl z_range (z7 1)) (VJ (yK (i:=7) vp.nd rfl (Or.inl rfl)) rfl)
   (zI (yH (i:=8) vp.nd rfl (Or.inl rfl) (zW h_law_letter hr rfl (zA (zr xD xC (zW h_law_mixed hr rfl (zA (z7 0) (zA zJ (zA zJ zE)))) (zr jD YN zJ (z7 7))) zE)))
    (zI (yH (i:=9) vp.nd rfl (Or.inl rfl) (zr xD xC (zr xD xC (ud (z7 4) qN (vw (z7 3))) (z7 8)) (ud (z7 4) (vw (zr xD xC (z7 3) zJ)) (vw (z7 2)))))
    (zI (zt (wH (jR (zu (yk (yI hr)) yj (zB (zW h_law_mixed hr rfl (zA (z7 0) (zA zJ (zA zJ zE))))) (zB zJ) (zm _)) (jS (zu YQ qG (zB (z7 7)) (zB zJ) (zm _)))))
     (zP (yH (i:=9) vp.nd rfl (Or.inl rfl) (yC (yA (zb hr)) yB (yG (xP (zA (ud (z7 4) qN (vw (zr xD xC (z7 7) zJ))) (zA (yC (yA (zb hr)) yB (z7 5) (z7 7)) zE)) (yg (zT (zT yq)) (by decide)))) (zW h_law_mixed hr rfl (zA (z7 0) (zA zJ (zA zJ zE)))))))
     zx)
    (zI (zt (zu (wv (zb hr)) wu (zB (z7 9)) (Yl 6) (by with_unfolding_all rfl))
     (zI (yH (i:=10) vp.nd rfl (Or.inl rfl) (zr xD xC (yG (xq rfl (xI (own:=["_law_j"]) rfl) (ue rfl z_range zJ) (xb (fun C s H fp pn=>(yK (i:=11) (show (yd ["_law_cell", "_law_many", "_law_size", "_law_spot", "_law_word", "_law_own", "_law_names_here", "_law_k", "_law_letter_here", "_law_name", "_law_others"] ["_law_j"]).Nodup by decide +kernel) rfl (Or.inl rfl))) rfl) (fun C s H fp pn=>xy) (fun C s H fp pn=>(zr xD xC (zW h_law_letter hr rfl (zA (z7 11) zE)) zR)))) (yG (xq rfl (xI (own:=["_law_j"]) rfl) (ue rfl z_range zJ) (xb (fun C s H fp pn=>(yK (i:=11) (show (yd ["_law_cell", "_law_many", "_law_size", "_law_spot", "_law_word", "_law_own", "_law_names_here", "_law_k", "_law_letter_here", "_law_name", "_law_others"] ["_law_j"]).Nodup by decide +kernel) rfl (Or.inl rfl))) rfl) (fun C s H fp pn=>xy) (fun C s H fp pn=>(zr xD xC (zW h_law_letter hr rfl (zA (z7 11) zE)) zR))))))
      (zP (yH (i:=9) vp.nd rfl (Or.inl rfl) (yC (yA (zb hr)) yB (yG (xq rfl (xI (own:=["_law_one"]) rfl) (xw (z7 10)) (xb (fun C s H fp pn=>(yK (i:=11) (show (yd ["_law_cell", "_law_many", "_law_size", "_law_spot", "_law_word", "_law_own", "_law_names_here", "_law_k", "_law_letter_here", "_law_name", "_law_others"] ["_law_one"]).Nodup by decide +kernel) rfl (Or.inl rfl))) rfl) (fun C s H fp pn=>(tL (zu (Wi (zb hr)) Wc (zB (z7 11)) (Yl 6) (by with_unfolding_all rfl)))) (fun C s H fp pn=>(z7 11)))) zJ))))
     zx)
    (zP (kq (qv 6) (z7 9))))))))
  (zP (ku 6))))))))
noncomputable abbrev kB:Stmt:=top 50
theorem EU:yL ["_law_word"] ["_law_word"] (zw kB):=⟨rfl,rfl,rfl,by decide +kernel,rfl,by decide +kernel,by decide +kernel⟩
theorem Ba (d:zH K mg "_law_shape" kB ["_law_word"]):zL P w K mg base "_law_shape" ["_law_word"] 1 (zN K v7):=
 zH.okS d EU (by decide) C_ fun f cdv A outer s H E hr=>(zI (zt (zu (wv (zb hr)) wu (zB (z7 0)) (zB (yG (xP (zA zR (zA zR zE)) (yg (zT (zT yq)) (by decide))))) (by with_unfolding_all rfl))
   (zP (uf (xP (zA zJ (zA zJ zE)) (yg (zT (zT yq)) (by decide)))))
   zx)
  (zI (zt (zu (wv (zb hr)) wu (zB (z7 0)) (zB (yG (xP (zA zR (zA zR zE)) (yg (zT (zT yq)) (by decide))))) (by with_unfolding_all rfl))
   (zP (uf (xP (zA zJ (zA zJ zE)) (yg (zT (zT yq)) (by decide)))))
   zx)
  (zI (zt (zu (wv (zb hr)) wu (zB (z7 0)) (zB (yG (xP (zA zR (zA zR (zA zR (zA zR zE)))) (yg (zT (zT (zT (zT yq)))) (by decide))))) (by with_unfolding_all rfl))
   (zP (uf (xP (V7 (is:=[8,8,256]) rfl) (yg (XM (n:=3) (by decide)) (by decide)))))
   zx)
  (zI (zt (zu (wv (zb hr)) wu (zB (z7 0)) (zB (yG (xP (zA zR (zA zR (zA zR (zA zR (zA zR (zA zR (zA zR (zA zR (zA zR zE))))))))) (yg (zT (zT (zT (zT (zT (zT (zT (zT (zT yq))))))))) (by decide))))) (by with_unfolding_all rfl))
   (zP (uf (xP (zA zJ (zA zJ zE)) (yg (zT (zT yq)) (by decide)))))
   zx)
  (zP (zh (yC (yA (zb hr)) yB (yG (En (kY (yG (xP (zA zR zE) (yg (zT yq) (by decide)))) (kY (yG (xP (zA zR zE) (yg (zT yq) (by decide)))) (kY (yG (xP (zA zR (zA zR zE)) (yg (zT (zT yq)) (by decide)))) (kY (yG (xP (zA zR (zA zR zE)) (yg (zT (zT yq)) (by decide)))) (kY (yG (xP zE (yg yq (by decide)))) EZ))))) (by decide +kernel) (by decide))) (z7 0))))))))
noncomputable abbrev kD:Stmt:=top 51
theorem JL:yL ["_law_some"] [] (zw kD):=⟨rfl,rfl,rfl,by decide +kernel,rfl,by decide +kernel,by decide +kernel⟩
theorem Bc (d:zH K mg "_law_words" kD []):zL P w K mg base "_law_words" [] 1 (zN K pJ):=
 zH.okS d JL (by decide) E2 fun f cdv A outer s H E hr=>(zI (yH (i:=0) JL.nd rfl (Or.inl rfl) (yG (xP (zA zR (zA zR (zA zR (zA zR (zA zR (zA zR (zA zR (zA zR (zA zR (zA zR (zA zR (zA zR (zA zR (zA zR zE)))))))))))))) (yg (zT (zT (zT (zT (zT (zT (zT (zT (zT (zT (zT (zT (zT (zT yq)))))))))))))) (by decide)))))
  (zP (zh (zr xD xC (z7 0) (yG (xP (zA zR (zA zR (zA zR (zA zR (zA zR (zA zR (zA zR zE))))))) (yg (zT (zT (zT (zT (zT (zT (zT yq))))))) (by decide))))))))
noncomputable abbrev gz:Stmt:=top 52
theorem ET:yL ["_law_kind", "_law_cell", "_law_k", "_law_names_here"] ["_law_kind", "_law_cell", "_law_k", "_law_names_here"] (zw gz):=⟨rfl,rfl,rfl,by decide +kernel,rfl,by decide +kernel,by decide +kernel⟩
theorem BX (d:zH K mg "_law_part_by" gz ["_law_kind", "_law_cell", "_law_k", "_law_names_here"]) (z_len:mg "len" = none) (h_law_mixed:zL P w K mg base "_law_mixed" ["_law_cell", "_law_k", "_law_many"] 1 (zN K xE)):zL P w K mg base "_law_part_by" ["_law_kind", "_law_cell", "_law_k", "_law_names_here"] 2 (zN K pH):=
 zH.okS d ET (by decide) Cw fun f cdv A outer s H E hr=>(zI (zt (zu (yk (yI hr)) yj (zB (z7 0)) (zB zR) (zm _))
   (zP (zh (yC (yA (zb hr)) yB (z7 3) (zW h_law_mixed hr rfl (zA (z7 1) (zA (z7 2) (zA (yc xJ xL rfl z_len xF (yW (zB (z7 3)) yX)) zE)))))))
   zx)
  (zI (zt (zu (yk (yI hr)) yj (zB (z7 0)) (zB zR) (zm _))
   (zP (zh (yC (yA (zb hr)) yB (yG (xP (zA zR (zA zR (zA zR zE))) (yg (zT (zT (zT yq))) (by decide)))) (zW h_law_mixed hr rfl (zA (z7 1) (zA (z7 2) (zA zJ zE)))))))
   zx)
  (zP (zh (yC (yA (zb hr)) yB (yG (xP (zA zJ (zA (zr Wj We (z7 0) zJ) (zA (zW h_law_mixed hr rfl (zA (z7 1) (zA (z7 2) (zA (z7 0) zE)))) (zA (zW h_law_mixed hr rfl (zA (z7 1) (zA (zr xD xC (z7 2) zJ) (zA (z7 0) zE)))) zE)))) (yg (zT (zT (zT (zT yq)))) (by decide)))) (zW h_law_mixed hr rfl (zA (z7 1) (zA (zr xD xC (z7 2) zJ) (zA zJ zE)))))))))
noncomputable abbrev kA:Stmt:=top 53
theorem kU:yL ["_law_cell", "_law_names_here", "_law_word", "_law_shape_here"] ["_law_cell", "_law_names_here"] (zw kA):=⟨rfl,rfl,rfl,by decide +kernel,rfl,by decide +kernel,by decide +kernel⟩
theorem BZ (d:zH K mg "_law_row_by" kA ["_law_cell", "_law_names_here"]) (z_len:mg "len" = none) (z_tuple:mg "tuple" = none) (z_range:mg "range" = none) (h_law_mixed:zL P w K mg base "_law_mixed" ["_law_cell", "_law_k", "_law_many"] 1 (zN K xE)) (h_law_words:zL P w K mg base "_law_words" [] 1 (zN K pJ)) (h_law_shape:zL P w K mg base "_law_shape" ["_law_word"] 1 (zN K v7)) (h_law_part_by:zL P w K mg base "_law_part_by" ["_law_kind", "_law_cell", "_law_k", "_law_names_here"] 2 (zN K pH)):zL P w K mg base "_law_row_by" ["_law_cell", "_law_names_here"] 3 (zN K pI):=
 zH.okS d kU (by decide) Cz fun f cdv A outer s H E hr=>(zI (yH (i:=2) kU.nd rfl (Or.inl rfl) (yC (yA (zb hr)) yB (Ea h_law_words hr rfl) (zW h_law_mixed hr rfl (zA (z7 0) (zA zJ (zA zJ zE))))))
  (zI (zt (zu (yk (yI hr)) yj (zB (zW h_law_mixed hr rfl (zA (z7 0) (zA zJ (zA zJ zE))))) (zB zJ) (zm _))
   (zP (yH (i:=2) kU.nd rfl (Or.inl rfl) (yC (yA (zb hr)) yB (yG (xP (zA zR (zA zR (zA zR zE))) (yg (zT (zT (zT yq))) (by decide)))) (zW h_law_mixed hr rfl (zA (z7 0) (zA zJ (zA zJ zE)))))))
   zx)
  (zI (zt (wH (jR (zu (wv (zb hr)) wu (zB (z7 2)) (zB (yG (xP (zA zR (zA zR (zA zR zE))) (yg (zT (zT (zT yq))) (by decide))))) (by with_unfolding_all rfl)) (jS (zu (yk (yI hr)) yj (zB (yc xJ xL rfl z_len xF (yW (zB (z7 1)) yX))) (zB zJ) (zm _)))))
   (zP (yH (i:=2) kU.nd rfl (Or.inl rfl) zR))
   zx)
  (zI (yH (i:=3) kU.nd rfl (Or.inr rfl) (zW h_law_shape hr rfl (zA (z7 2) zE)))
  (zP (zh (zr xD xC (qM (zA (z7 2) zE) (yg (zT yq) (by decide))) (JS US QL rfl z_tuple wo (zA (yG (xq rfl (xI (own:=["_law_k"]) rfl) (ue rfl z_range (yc xJ xL rfl z_len xF (yW (zB (z7 3)) yX))) (xb (fun C s H fp pn=>(yK (i:=4) (show (yd ["_law_cell", "_law_names_here", "_law_word", "_law_shape_here"] ["_law_k"]).Nodup by decide +kernel) rfl (Or.inl rfl))) rfl) (fun C s H fp pn=>xy) (fun C s H fp pn=>(zW h_law_part_by hr rfl (zA (yC (yA (zb hr)) yB (z7 3) (z7 4)) (zA (z7 0) (zA (zr xD xC (zr jD YN zJ (z7 4)) zJ) (zA (z7 1) zE)))))))) zE)))))))))
noncomputable abbrev g_:Stmt:=top 54
theorem tI:yL ["_law_script", "_law_first", "_law_far", "_law_cells", "_law_k", "_law_many", "_law_names_here", "_law_items"] ["_law_script", "_law_first"] (zw g_):=⟨rfl,rfl,rfl,by decide +kernel,rfl,by decide +kernel,by decide +kernel⟩
theorem BY (d:zH K mg "_law_program" g_ ["_law_script", "_law_first"]) (z_range:mg "range" = none) (z_len:mg "len" = none) (h_law_cell_at:zL P w K mg base "_law_cell_at" ["_law_script", "_law_k"] 1 (zN K uj)) (h_law_mixed:zL P w K mg base "_law_mixed" ["_law_cell", "_law_k", "_law_many"] 1 (zN K xE)) (h_law_names:zL P w K mg base "_law_names" ["_law_cell", "_law_many"] 2 (zN K pG)) (h_law_row_by:zL P w K mg base "_law_row_by" ["_law_cell", "_law_names_here"] 3 (zN K pI)):zL P w K mg base "_law_program" ["_law_script", "_law_first"] 4 (zN K qW):=
 zH.okS d tI (by decide) Cy fun f cdv A outer s H E hr=>(zI (yH (i:=2) tI.nd rfl (Or.inr rfl) (zW h_law_cell_at hr rfl (zA (z7 0) (zA (z7 1) zE))))
  (zI (yH (i:=3) tI.nd rfl (Or.inl rfl) (ud (z7 0) (vw (zr xD xC (z7 1) zJ)) (vw (zr xD xC (z7 1) zJ))))
  (zI (zt (zu (yk (yI hr)) yj (zB (zr uY uW (z7 2) zJ)) (zB zJ) (zm _))
   (zP (jO (i:=3) rfl tI.nd rfl rfl (xI (own:=["_law_k"]) rfl) rfl (ue rfl z_range (zr xD xC zJ (zr uY uW (zr gL gI (z7 2) zJ) zJ))) (xb (fun C s H fp pn=>(yK (i:=8) (show (yd ["_law_script", "_law_first", "_law_far", "_law_cells", "_law_k", "_law_many", "_law_names_here", "_law_items"] ["_law_k"]).Nodup by decide +kernel) rfl (Or.inl rfl))) rfl) (fun C s H fp pn=>xy) (fun C s H fp pn=>(zr xD xC (zr gL gI (z7 2) zJ) (zr jD YN zJ (z7 8))))))
   zx)
  (zI (yH (i:=5) tI.nd rfl (Or.inl rfl) (yC (yA (zb hr)) yB (yG (xP (V7 (is:=[0,1,2,3,4,6,8,20]) rfl) (yg (XM (n:=8) (by decide)) (by decide)))) (zW h_law_mixed hr rfl (zA (z7 2) (zA zJ (zA zJ zE))))))
  (zI (zt (zu (yk (yI hr)) yj (zB (zr uY uW (z7 2) zJ)) (zB zJ) (zm _))
   (zP (yH (i:=5) tI.nd rfl (Or.inl rfl) zJ))
   zx)
  (zI (yH (i:=6) tI.nd rfl (Or.inr rfl) (zW h_law_names hr rfl (zA (zr gL gI (z7 2) zJ) (zA (z7 5) zE))))
  (zI (GM (i:=7) rfl tI.nd rfl rfl (xI (own:=["_law_cell"]) rfl) rfl (xw (z7 3)) (xb (fun C s H fp pn=>(yK (i:=8) (show (yd ["_law_script", "_law_first", "_law_far", "_law_cells", "_law_k", "_law_many", "_law_names_here", "_law_items"] ["_law_cell"]).Nodup by decide +kernel) rfl (Or.inl rfl))) rfl) (fun C s H fp pn=>xy) (fun C s H fp pn=>(zW h_law_row_by hr rfl (zA (z7 8) (zA (z7 6) zE)))))
  (zI (p9 PassesOwn.never rfl (ue rfl z_range (yc xJ xL rfl z_len xF (yW (zB (z7 6)) yX))) (VJ (yK (i:=4) tI.nd rfl (Or.inl rfl)) rfl)
   (zP (GL (qv 7) (zW h_law_mixed hr rfl (zA (zr xD xC (z7 2) (zr gL gI (z7 4) zJ)) (zA (z7 4) (zA (zr xD xC (yc xJ xL rfl z_len xF (yW (Yl 7) yX)) zJ) zE)))) (qM (zA zR (zA (yC (yA (zb hr)) yB (z7 6) (z7 4)) zE)) (yg (zT (zT yq)) (by decide))))))
  (zP (ku 7))))))))))
noncomputable abbrev qL:Stmt:=top 55
theorem Ym:yL ["_law_found", "_law_due"] ["_law_found", "_law_due"] (zw qL):=⟨rfl,rfl,rfl,by decide +kernel,rfl,by decide +kernel,by decide +kernel⟩
theorem BO (d:zH K mg "_law_alike" qL ["_law_found", "_law_due"]):zL P w K mg base "_law_alike" ["_law_found", "_law_due"] 2 (zN K (xr 0)):=
 zH.okS d Ym (by decide) (b:=fun _=>none) (fun _ _ h=>nomatch h) fun f cdv A outer s H E hr=>VQ
theorem BP (d:zH K mg "_law_alike" qL ["_law_found", "_law_due"]) (z_isinstance:mg "isinstance" = none) (z_tuple:mg "tuple" = none) (z_list:mg "list" = none) (z_all:mg "all" = none) (z_range:mg "range" = none) (z_len:mg "len" = none) (z_str:mg "str" = none) (h_law_whole:zL P w K mg base "_law_whole" ["_law_found"] 1 (zN K tP)) (h_law_alike:zL P w K mg base "_law_alike" ["_law_found", "_law_due"] 2 (zN K (xr 0))):zL P w K mg base "_law_alike" ["_law_found", "_law_due"] 3 (zN K (xr 1)):=
 zH.okS d Ym (by decide) (b:=ut (xr 0)) yZ fun f cdv A outer s H E hr=>(zI (zt (yx (jK .tuple .list rfl rfl rfl z_isinstance z_tuple z_list wo tt (zB (z7 1))))
   (zI (zt (wH (w_ (wz (yx (jK .tuple .list rfl rfl rfl z_isinstance z_tuple z_list wo tt (zB (z7 0))))) (vI (zu (uZ (yI hr)) uX (zB (wG .tuple rfl rfl z_isinstance z_tuple wo (zB (z7 0)))) (zB (wG .tuple rfl rfl z_isinstance z_tuple wo (zB (z7 1)))) (zm _)))))
     (zP (zh wS))
     zx)
    (zP (zh (vq (xt (yk (yI hr)) yj (zB (yc xJ xL rfl z_len xF (yW (zB (z7 0)) yX))) (zB (yc xJ xL rfl z_len xF (yW (zB (z7 1)) yX))) (zm _)) (vt (yc (uw rfl) t8 rfl z_all uv (yW (zB (yG (xq rfl (xI (own:=["_law_k"]) rfl) (ue rfl z_range (yc xJ xL rfl z_len xF (yW (zB (z7 1)) yX))) (xb (fun C s H fp pn=>(yK (i:=2) (show (yd ["_law_found", "_law_due"] ["_law_k"]).Nodup by decide +kernel) rfl (Or.inl rfl))) rfl) (fun C s H fp pn=>xy) (fun C s H fp pn=>(zW h_law_alike hr rfl (zA (yC (yA (zb hr)) yB (z7 0) (z7 2)) (zA (yC (yA (zb hr)) yB (z7 1) (z7 2)) zE))))))) yX)))))))
   zx)
  (zI (zt (yx (wG .str rfl rfl z_isinstance z_str uu (zB (z7 1))))
   (zP (zh (vq (wG .str rfl rfl z_isinstance z_str uu (zB (z7 0))) (vt (xt (yk (yI hr)) yj (zB (z7 0)) (zB (z7 1)) (zm _))))))
   zx)
  (zP (zh (vq (zW h_law_whole hr rfl (zA (z7 0) zE)) (vt (xt (yk (yI hr)) yj (zB (z7 0)) (zB (z7 1)) (zm _))))))))
theorem BQ (d:zH K mg "_law_alike" qL ["_law_found", "_law_due"]) (z_isinstance:mg "isinstance" = none) (z_tuple:mg "tuple" = none) (z_list:mg "list" = none) (z_all:mg "all" = none) (z_range:mg "range" = none) (z_len:mg "len" = none) (z_str:mg "str" = none) (h_law_whole:zL P w K mg base "_law_whole" ["_law_found"] 1 (zN K tP)) (h_law_alike:zL P w K mg base "_law_alike" ["_law_found", "_law_due"] 3 (zN K (xr 1))):zL P w K mg base "_law_alike" ["_law_found", "_law_due"] 4 (zN K (xr 2)):=
 zH.okS d Ym (by decide) (b:=ut (xr 1)) yZ fun f cdv A outer s H E hr=>(zI (zt (yx (jK .tuple .list rfl rfl rfl z_isinstance z_tuple z_list wo tt (zB (z7 1))))
   (zI (zt (wH (w_ (wz (yx (jK .tuple .list rfl rfl rfl z_isinstance z_tuple z_list wo tt (zB (z7 0))))) (vI (zu (uZ (yI hr)) uX (zB (wG .tuple rfl rfl z_isinstance z_tuple wo (zB (z7 0)))) (zB (wG .tuple rfl rfl z_isinstance z_tuple wo (zB (z7 1)))) (zm _)))))
     (zP (zh wS))
     zx)
    (zP (zh (vq (xt (yk (yI hr)) yj (zB (yc xJ xL rfl z_len xF (yW (zB (z7 0)) yX))) (zB (yc xJ xL rfl z_len xF (yW (zB (z7 1)) yX))) (zm _)) (vt (yc (uw rfl) t8 rfl z_all uv (yW (zB (yG (xq rfl (xI (own:=["_law_k"]) rfl) (ue rfl z_range (yc xJ xL rfl z_len xF (yW (zB (z7 1)) yX))) (xb (fun C s H fp pn=>(yK (i:=2) (show (yd ["_law_found", "_law_due"] ["_law_k"]).Nodup by decide +kernel) rfl (Or.inl rfl))) rfl) (fun C s H fp pn=>xy) (fun C s H fp pn=>(zW h_law_alike hr rfl (zA (yC (yA (zb hr)) yB (z7 0) (z7 2)) (zA (yC (yA (zb hr)) yB (z7 1) (z7 2)) zE))))))) yX)))))))
   zx)
  (zI (zt (yx (wG .str rfl rfl z_isinstance z_str uu (zB (z7 1))))
   (zP (zh (vq (wG .str rfl rfl z_isinstance z_str uu (zB (z7 0))) (vt (xt (yk (yI hr)) yj (zB (z7 0)) (zB (z7 1)) (zm _))))))
   zx)
  (zP (zh (vq (zW h_law_whole hr rfl (zA (z7 0) zE)) (vt (xt (yk (yI hr)) yj (zB (z7 0)) (zB (z7 1)) (zm _))))))))
theorem BR (d:zH K mg "_law_alike" qL ["_law_found", "_law_due"]) (z_isinstance:mg "isinstance" = none) (z_tuple:mg "tuple" = none) (z_list:mg "list" = none) (z_all:mg "all" = none) (z_range:mg "range" = none) (z_len:mg "len" = none) (z_str:mg "str" = none) (h_law_whole:zL P w K mg base "_law_whole" ["_law_found"] 1 (zN K tP)) (h_law_alike:zL P w K mg base "_law_alike" ["_law_found", "_law_due"] 4 (zN K (xr 2))):zL P w K mg base "_law_alike" ["_law_found", "_law_due"] 5 (zN K (xr 3)):=
 zH.okS d Ym (by decide) (b:=ut (xr 2)) yZ fun f cdv A outer s H E hr=>(zI (zt (yx (jK .tuple .list rfl rfl rfl z_isinstance z_tuple z_list wo tt (zB (z7 1))))
   (zI (zt (wH (w_ (wz (yx (jK .tuple .list rfl rfl rfl z_isinstance z_tuple z_list wo tt (zB (z7 0))))) (vI (zu (uZ (yI hr)) uX (zB (wG .tuple rfl rfl z_isinstance z_tuple wo (zB (z7 0)))) (zB (wG .tuple rfl rfl z_isinstance z_tuple wo (zB (z7 1)))) (zm _)))))
     (zP (zh wS))
     zx)
    (zP (zh (vq (xt (yk (yI hr)) yj (zB (yc xJ xL rfl z_len xF (yW (zB (z7 0)) yX))) (zB (yc xJ xL rfl z_len xF (yW (zB (z7 1)) yX))) (zm _)) (vt (yc (uw rfl) t8 rfl z_all uv (yW (zB (yG (xq rfl (xI (own:=["_law_k"]) rfl) (ue rfl z_range (yc xJ xL rfl z_len xF (yW (zB (z7 1)) yX))) (xb (fun C s H fp pn=>(yK (i:=2) (show (yd ["_law_found", "_law_due"] ["_law_k"]).Nodup by decide +kernel) rfl (Or.inl rfl))) rfl) (fun C s H fp pn=>xy) (fun C s H fp pn=>(zW h_law_alike hr rfl (zA (yC (yA (zb hr)) yB (z7 0) (z7 2)) (zA (yC (yA (zb hr)) yB (z7 1) (z7 2)) zE))))))) yX)))))))
   zx)
  (zI (zt (yx (wG .str rfl rfl z_isinstance z_str uu (zB (z7 1))))
   (zP (zh (vq (wG .str rfl rfl z_isinstance z_str uu (zB (z7 0))) (vt (xt (yk (yI hr)) yj (zB (z7 0)) (zB (z7 1)) (zm _))))))
   zx)
  (zP (zh (vq (zW h_law_whole hr rfl (zA (z7 0) zE)) (vt (xt (yk (yI hr)) yj (zB (z7 0)) (zB (z7 1)) (zm _))))))))
noncomputable abbrev gr:Stmt:=top 56
theorem Yn:yL ["_law_items", "_law_text", "_law_found", "_law_names_here"] ["_law_items"] (zw gr):=⟨rfl,rfl,rfl,by decide +kernel,rfl,by decide +kernel,by decide +kernel⟩
theorem BS (d:zH K mg "_law_back" gr ["_law_items"]) (z_all:mg "all" = none) (h_shown:zL P w K mg base "shown" ["items"] 3 (zN K uI)) (h_fault:zL P w K mg base "fault" ["text"] 6 (zN K pB)) (h_read:zL P w K mg base "read" ["text"] 6 (zN K qZ)) (h_is_program:zL P w K mg base "is_program" ["thing"] 4 (zN K pE)) (h_law_alike:zL P w K mg base "_law_alike" ["_law_found", "_law_due"] 5 (zN K F_law_alike)) (h_place_of:zL P w K mg base "place_of" ["items", "name"] 3 (zN K vL)):zL P w K mg base "_law_back" ["_law_items"] 7 (zN K tO):=
 zH.okS d Yn (by decide) Cr fun f cdv A outer s H E hr=>(zI (yH (i:=1) Yn.nd rfl (Or.inl rfl) (zW h_shown hr rfl (zA (z7 0) zE)))
  (zI (zt (zu YR YO (zB (zW h_fault hr rfl (zA (z7 1) zE))) (zB wy) (zm _))
   (zP (zh wS))
   zx)
  (zI (yH (i:=2) Yn.nd rfl (Or.inr rfl) (zW h_read hr rfl (zA (z7 1) zE)))
  (zI (zt (wH (w_ (wz (yx (zW h_law_alike hr rfl (zA (z7 2) (zA (z7 0) zE))))) (vI (zu DI Bh (zB (zW h_is_program hr rfl (zA (z7 2) zE))) (zB wS) (zm _)))))
   (zP (zh wS))
   zx)
  (zI (jO (i:=3) rfl Yn.nd rfl rfl (xI (own:=["_law_item"]) rfl) rfl (xw (z7 0)) (xb (fun C s H fp pn=>(yK (i:=4) (show (yd ["_law_items", "_law_text", "_law_found", "_law_names_here"] ["_law_item"]).Nodup by decide +kernel) rfl (Or.inl rfl))) rfl) (fun C s H fp pn=>(tL (zu (yk (yI hr)) yj (zB (yC (yA (zb hr)) yB (z7 4) zJ)) (zB zR) (zm _)))) (fun C s H fp pn=>(yC (yA (zb hr)) yB (z7 4) zJ)))
  (zP (zh (yc (uw rfl) t8 rfl z_all uv (yW (zB (yG (xq rfl (xI (own:=["_law_name"]) rfl) (xw (z7 3)) (xb (fun C s H fp pn=>(yK (i:=4) (show (yd ["_law_items", "_law_text", "_law_found", "_law_names_here"] ["_law_name"]).Nodup by decide +kernel) rfl (Or.inl rfl))) rfl) (fun C s H fp pn=>xy) (fun C s H fp pn=>(xt (yk (yI hr)) yj (zB (zW h_place_of hr rfl (zA (z7 2) (zA (z7 4) zE)))) (zB (zW h_place_of hr rfl (zA (z7 0) (zA (z7 4) zE)))) (zm _)))))) yX)))))))))
noncomputable abbrev p6:Stmt:=top 57
theorem p7:yL ["_law_script", "_law_items", "_law_other", "_law_small", "_law_led", "_law_labels"] ["_law_script"] (zw p6):=⟨rfl,rfl,rfl,by decide +kernel,rfl,by decide +kernel,by decide +kernel⟩
theorem BN {f:Addr} {fd:FuncData} (d:tS K "law" "law" p6 f fd) (z_list:mg "list" = none) (z_len:mg "len" = none) (z_sorted:mg "sorted" = none) (z_set:mg "set" = none) (h_law_program:zL P w K mg base "_law_program" ["_law_script", "_law_first"] 4 (zN K qW)) (h_law_cell_at:zL P w K mg base "_law_cell_at" ["_law_script", "_law_k"] 1 (zN K uj)) (h_plain:zL P w K mg base "plain" ["items"] 4 (zN K pL)) (h_law_back:zL P w K mg base "_law_back" ["_law_items"] 7 (zN K tO)) (h_shown:zL P w K mg base "shown" ["items"] 3 (zN K uI)) (h_rows_of:zL P w K mg base "rows_of" ["items"] 2 (zN K wV)) (h_place_of:zL P w K mg base "place_of" ["items", "name"] 3 (zN K vL)):vZ P w K mg base vY 8 f fd ["_law_script"] (kn K):=
 MT d p7 (by decide) Cq fun cdv A outer s H E hr=>(zI (yH (i:=1) p7.nd rfl (Or.inr rfl) (zW h_law_program hr rfl (zA (z7 0) (zA zJ zE))))
  (zI (yH (i:=2) p7.nd rfl (Or.inl rfl) (zW h_law_program hr rfl (zA (z7 0) (zA zJ zE))))
  (zI (zt (zu (yk (yI hr)) yj (zB (zr uY uW (zW h_law_cell_at hr rfl (zA (z7 0) (zA zJ zE))) zJ)) (zB zJ) (zm _))
   (zP (yH (i:=2) p7.nd rfl (Or.inl rfl) (yG (Eo rfl z_list (zA (z7 1) zE)))))
   zx)
  (zI (yH (i:=3) p7.nd rfl (Or.inr rfl) (yG (JX h_plain hr rfl (zA (z7 1) zE))))
  (zI (zt (wH (w_ (wz (yx (zW h_law_back hr rfl (zA (z7 1) zE)))) (w_ (wz (yx (zW h_law_back hr rfl (zA (z7 2) zE)))) (vI (wz (yx (zW h_law_back hr rfl (zA (z7 3) zE))))))))
   (zP (zh wS))
   zx)
  (zI (zt (zu (uZ (yI hr)) uX (zB (xt (yk (yI hr)) yj (zB (zW h_shown hr rfl (zA (z7 1) zE))) (zB (zW h_shown hr rfl (zA (z7 2) zE))) (zm _))) (zB (xt (yk (yI hr)) yj (zB (z7 1)) (zB (z7 2)) (zm _))) (zm _))
   (zP (zh wS))
   zx)
  (zI (jO (i:=4) rfl p7.nd rfl rfl (xI (own:=["_law_row"]) rfl) rfl (xw (zW h_rows_of hr rfl (zA (z7 1) zE))) (xb (fun C s H fp pn=>(yK (i:=6) (show (yd ["_law_script", "_law_items", "_law_other", "_law_small", "_law_led", "_law_labels"] ["_law_row"]).Nodup by decide +kernel) rfl (Or.inl rfl))) rfl) (fun C s H fp pn=>(tL (zu (wv (zb hr)) wu (zB (yC (yA (zb hr)) yB (z7 6) zJ)) (zB (yG (xP (zA zR (zA zR (zA zR zE))) (yg (zT (zT (zT yq))) (by decide))))) (by with_unfolding_all rfl)))) (fun C s H fp pn=>(zW h_place_of hr rfl (zA (z7 1) (zA (yC (yA (zb hr)) yB (z7 6) (jL jU jT zJ)) zE)))))
  (zI (jO (i:=5) rfl p7.nd rfl rfl (xI (own:=["_law_item"]) rfl) rfl (xw (z7 3)) (xb (fun C s H fp pn=>(yK (i:=6) (show (yd ["_law_script", "_law_items", "_law_other", "_law_small", "_law_led", "_law_labels"] ["_law_item"]).Nodup by decide +kernel) rfl (Or.inl rfl))) rfl) (fun C s H fp pn=>(tL (zu (yk (yI hr)) yj (zB (yC (yA (zb hr)) yB (z7 6) zJ)) (zB zR) (zm _)))) (fun C s H fp pn=>(yC (yA (zb hr)) yB (z7 6) zJ)))
  (zP (zh (vq (xt (yk (yI hr)) yj (zB (yG (xq rfl (xI (own:=["_law_name"]) rfl) (xw (z7 5)) (xb (fun C s H fp pn=>(yK (i:=6) (show (yd ["_law_script", "_law_items", "_law_other", "_law_small", "_law_led", "_law_labels"] ["_law_name"]).Nodup by decide +kernel) rfl (Or.inl rfl))) rfl) (fun C s H fp pn=>xy) (fun C s H fp pn=>(zW h_place_of hr rfl (zA (z7 3) (zA (z7 6) zE))))))) (zB (yG (JY rfl rfl z_sorted rfl z_set (zA (z7 4) zE)))) (zm _)) (vt (xt (yk (yI hr)) yj (zB (yc xJ xL rfl z_len xF (yW (zB (zW h_rows_of hr rfl (zA (z7 3) zE))) yX))) (zB (yc xJ xL rfl z_len xF (yW (zB (zW h_rows_of hr rfl (zA (z7 1) zE))) yX))) (zm _))))))))))))))
end
theorem all_mk {l:PySem.W.OpenLaw} {w:World} {K:PySem.W.Frag} {h:Heap} {mg:Str->Option Value} {fa:Addr} (X:K.In h) (G:h.Ns mainGlobals mg) (hfa:mg "law" = some (.ref fa))
  {f0:Addr} {od0 an0:Option Addr} {sl0:Array (Option Value)} {oc0 kV0 dc0 pm0 cd0 ct0:Value}
  {f1:Addr} {od1 an1:Option Addr} {sl1:Array (Option Value)} {oc1 kV1 dc1 pm1 cd1 ct1:Value}
  {f2:Addr} {od2 an2:Option Addr} {sl2:Array (Option Value)} {oc2 kV2 dc2 pm2 cd2 ct2:Value}
  {f3:Addr} {od3 an3:Option Addr} {sl3:Array (Option Value)} {oc3 kV3 dc3 pm3 cd3 ct3:Value}
  {f4:Addr} {od4 an4:Option Addr} {sl4:Array (Option Value)} {oc4 kV4 dc4 pm4 cd4 ct4:Value}
  {f5:Addr} {od5 an5:Option Addr} {sl5:Array (Option Value)} {oc5 kV5 dc5 pm5 cd5 ct5:Value}
  {f6:Addr} {od6 an6:Option Addr} {sl6:Array (Option Value)} {oc6 kV6 dc6 pm6 cd6 ct6:Value}
  {f7:Addr} {od7 an7:Option Addr} {sl7:Array (Option Value)} {oc7 kV7 dc7 pm7 cd7 ct7:Value}
  {f8:Addr} {od8 an8:Option Addr} {sl8:Array (Option Value)} {oc8 kV8 dc8 pm8 cd8 ct8:Value}
  {f9:Addr} {od9 an9:Option Addr} {sl9:Array (Option Value)} {oc9 kV9 dc9 pm9 cd9 ct9:Value}
  {f10:Addr} {od10 an10:Option Addr} {sl10:Array (Option Value)} {oc10 kV10 dc10 pm10 cd10 ct10:Value}
  {f11:Addr} {od11 an11:Option Addr} {sl11:Array (Option Value)} {oc11 kV11 dc11 pm11 cd11 ct11:Value}
  {f12:Addr} {od12 an12:Option Addr} {sl12:Array (Option Value)} {oc12 kV12 dc12 pm12 cd12 ct12:Value}
  {f13:Addr} {od13 an13:Option Addr} {sl13:Array (Option Value)} {oc13 kV13 dc13 pm13 cd13 ct13:Value}
  {f14:Addr} {od14 an14:Option Addr} {sl14:Array (Option Value)} {oc14 kV14 dc14 pm14 cd14 ct14:Value}
  {f15:Addr} {od15 an15:Option Addr} {sl15:Array (Option Value)} {oc15 kV15 dc15 pm15 cd15 ct15:Value}
  {f16:Addr} {od16 an16:Option Addr} {sl16:Array (Option Value)} {oc16 kV16 dc16 pm16 cd16 ct16:Value}
  {f17:Addr} {od17 an17:Option Addr} {sl17:Array (Option Value)} {oc17 kV17 dc17 pm17 cd17 ct17:Value}
  {f18:Addr} {od18 an18:Option Addr} {sl18:Array (Option Value)} {oc18 kV18 dc18 pm18 cd18 ct18:Value}
  {f19:Addr} {od19 an19:Option Addr} {sl19:Array (Option Value)} {oc19 kV19 dc19 pm19 cd19 ct19:Value}
  {f20:Addr} {od20 an20:Option Addr} {sl20:Array (Option Value)} {oc20 kV20 dc20 pm20 cd20 ct20:Value}
  {f21:Addr} {od21 an21:Option Addr} {sl21:Array (Option Value)} {oc21 kV21 dc21 pm21 cd21 ct21:Value}
  {f22:Addr} {od22 an22:Option Addr} {sl22:Array (Option Value)} {oc22 kV22 dc22 pm22 cd22 ct22:Value}
  {f23:Addr} {od23 an23:Option Addr} {sl23:Array (Option Value)} {oc23 kV23 dc23 pm23 cd23 ct23:Value}
  {f24:Addr} {od24 an24:Option Addr} {sl24:Array (Option Value)} {oc24 kV24 dc24 pm24 cd24 ct24:Value}
  {f25:Addr} {od25 an25:Option Addr} {sl25:Array (Option Value)} {oc25 kV25 dc25 pm25 cd25 ct25:Value}
  {f26:Addr} {od26 an26:Option Addr} {sl26:Array (Option Value)} {oc26 kV26 dc26 pm26 cd26 ct26:Value}
  {f27:Addr} {od27 an27:Option Addr} {sl27:Array (Option Value)} {oc27 kV27 dc27 pm27 cd27 ct27:Value}
  {f28:Addr} {od28 an28:Option Addr} {sl28:Array (Option Value)} {oc28 kV28 dc28 pm28 cd28 ct28:Value}
  {f29:Addr} {od29 an29:Option Addr} {sl29:Array (Option Value)} {oc29 kV29 dc29 pm29 cd29 ct29:Value}
  {f30:Addr} {od30 an30:Option Addr} {sl30:Array (Option Value)} {oc30 kV30 dc30 pm30 cd30 ct30:Value}
  {f31:Addr} {od31 an31:Option Addr} {sl31:Array (Option Value)} {oc31 kV31 dc31 pm31 cd31 ct31:Value}
  {f32:Addr} {od32 an32:Option Addr} {sl32:Array (Option Value)} {oc32 kV32 dc32 pm32 cd32 ct32:Value}
  {f33:Addr} {od33 an33:Option Addr} {sl33:Array (Option Value)} {oc33 kV33 dc33 pm33 cd33 ct33:Value}
  {f34:Addr} {od34 an34:Option Addr} {sl34:Array (Option Value)} {oc34 kV34 dc34 pm34 cd34 ct34:Value}
  {f35:Addr} {od35 an35:Option Addr} {sl35:Array (Option Value)} {oc35 kV35 dc35 pm35 cd35 ct35:Value}
  {f36:Addr} {od36 an36:Option Addr} {sl36:Array (Option Value)} {oc36 kV36 dc36 pm36 cd36 ct36:Value}
  {f37:Addr} {od37 an37:Option Addr} {sl37:Array (Option Value)} {oc37 kV37 dc37 pm37 cd37 ct37:Value}
  {f38:Addr} {od38 an38:Option Addr} {sl38:Array (Option Value)} {oc38 kV38 dc38 pm38 cd38 ct38:Value}
  {f39:Addr} {od39 an39:Option Addr} {sl39:Array (Option Value)} {oc39 kV39 dc39 pm39 cd39 ct39:Value}
  (a0:PySem.W.nsIn K mainGlobals "is_number" = some (some (.ref f0)))
  (l0:K.lookup f0=ya "is_number" gf oc0 od0 sl0 kV0 dc0 pm0 an0 cd0 ct0)
  (c0:PySem.W.codeIn K cd0 "is_number" = true) (k0:PySem.W.keepIn K (.ref f0)=true)
  (a1:PySem.W.nsIn K mainGlobals "is_name" = some (some (.ref f1)))
  (l1:K.lookup f1=ya "is_name" ge oc1 od1 sl1 kV1 dc1 pm1 an1 cd1 ct1)
  (c1:PySem.W.codeIn K cd1 "is_name" = true) (k1:PySem.W.keepIn K (.ref f1)=true)
  (a2:PySem.W.nsIn K mainGlobals "fits" = some (some (.ref f2)))
  (l2:K.lookup f2=ya "fits" gW oc2 od2 sl2 kV2 dc2 pm2 an2 cd2 ct2)
  (c2:PySem.W.codeIn K cd2 "fits" = true) (k2:PySem.W.keepIn K (.ref f2)=true)
  (a3:PySem.W.nsIn K mainGlobals "is_item" = some (some (.ref f3)))
  (l3:K.lookup f3=ya "is_item" gX oc3 od3 sl3 kV3 dc3 pm3 an3 cd3 ct3)
  (c3:PySem.W.codeIn K cd3 "is_item" = true) (k3:PySem.W.keepIn K (.ref f3)=true)
  (a4:PySem.W.nsIn K mainGlobals "is_label" = some (some (.ref f4)))
  (l4:K.lookup f4=ya "is_label" gZ oc4 od4 sl4 kV4 dc4 pm4 an4 cd4 ct4)
  (c4:PySem.W.codeIn K cd4 "is_label" = true) (k4:PySem.W.keepIn K (.ref f4)=true)
  (a5:PySem.W.nsIn K mainGlobals "is_jump" = some (some (.ref f5)))
  (l5:K.lookup f5=ya "is_jump" gY oc5 od5 sl5 kV5 dc5 pm5 an5 cd5 ct5)
  (c5:PySem.W.codeIn K cd5 "is_jump" = true) (k5:PySem.W.keepIn K (.ref f5)=true)
  (a6:PySem.W.nsIn K mainGlobals "rows_of" = some (some (.ref f6)))
  (l6:K.lookup f6=ya "rows_of" kN oc6 od6 sl6 kV6 dc6 pm6 an6 cd6 ct6)
  (c6:PySem.W.codeIn K cd6 "rows_of" = true) (k6:PySem.W.keepIn K (.ref f6)=true)
  (a7:PySem.W.nsIn K mainGlobals "label_places" = some (some (.ref f7)))
  (l7:K.lookup f7=ya "label_places" gk oc7 od7 sl7 kV7 dc7 pm7 an7 cd7 ct7)
  (c7:PySem.W.codeIn K cd7 "label_places" = true) (k7:PySem.W.keepIn K (.ref f7)=true)
  (a8:PySem.W.nsIn K mainGlobals "is_program" = some (some (.ref f8)))
  (l8:K.lookup f8=ya "is_program" gg oc8 od8 sl8 kV8 dc8 pm8 an8 cd8 ct8)
  (c8:PySem.W.codeIn K cd8 "is_program" = true) (k8:PySem.W.keepIn K (.ref f8)=true)
  (a9:PySem.W.nsIn K mainGlobals "place_of" = some (some (.ref f9)))
  (l9:K.lookup f9=ya "place_of" kJ oc9 od9 sl9 kV9 dc9 pm9 an9 cd9 ct9)
  (c9:PySem.W.codeIn K cd9 "place_of" = true) (k9:PySem.W.keepIn K (.ref f9)=true)
  (a10:PySem.W.nsIn K mainGlobals "targets_of" = some (some (.ref f10)))
  (l10:K.lookup f10=ya "targets_of" kP oc10 od10 sl10 kV10 dc10 pm10 an10 cd10 ct10)
  (c10:PySem.W.codeIn K cd10 "targets_of" = true) (k10:PySem.W.keepIn K (.ref f10)=true)
  (a11:PySem.W.nsIn K mainGlobals "name_of" = some (some (.ref f11)))
  (l11:K.lookup f11=ya "name_of" kF oc11 od11 sl11 kV11 dc11 pm11 an11 cd11 ct11)
  (c11:PySem.W.codeIn K cd11 "name_of" = true) (k11:PySem.W.keepIn K (.ref f11)=true)
  (a12:PySem.W.nsIn K mainGlobals "names_of_places" = some (some (.ref f12)))
  (l12:K.lookup f12=ya "names_of_places" kG oc12 od12 sl12 kV12 dc12 pm12 an12 cd12 ct12)
  (c12:PySem.W.codeIn K cd12 "names_of_places" = true) (k12:PySem.W.keepIn K (.ref f12)=true)
  (a13:PySem.W.nsIn K mainGlobals "labelled" = some (some (.ref f13)))
  (l13:K.lookup f13=ya "labelled" gm oc13 od13 sl13 kV13 dc13 pm13 an13 cd13 ct13)
  (c13:PySem.W.codeIn K cd13 "labelled" = true) (k13:PySem.W.keepIn K (.ref f13)=true)
  (a14:PySem.W.nsIn K mainGlobals "plain" = some (some (.ref f14)))
  (l14:K.lookup f14=ya "plain" kK oc14 od14 sl14 kV14 dc14 pm14 an14 cd14 ct14)
  (c14:PySem.W.codeIn K cd14 "plain" = true) (k14:PySem.W.keepIn K (.ref f14)=true)
  (a15:PySem.W.nsIn K mainGlobals "field_text" = some (some (.ref f15)))
  (l15:K.lookup f15=ya "field_text" gT oc15 od15 sl15 kV15 dc15 pm15 an15 cd15 ct15)
  (c15:PySem.W.codeIn K cd15 "field_text" = true) (k15:PySem.W.keepIn K (.ref f15)=true)
  (a16:PySem.W.nsIn K mainGlobals "item_text" = some (some (.ref f16)))
  (l16:K.lookup f16=ya "item_text" gi oc16 od16 sl16 kV16 dc16 pm16 an16 cd16 ct16)
  (c16:PySem.W.codeIn K cd16 "item_text" = true) (k16:PySem.W.keepIn K (.ref f16)=true)
  (a17:PySem.W.nsIn K mainGlobals "shown" = some (some (.ref f17)))
  (l17:K.lookup f17=ya "shown" kO oc17 od17 sl17 kV17 dc17 pm17 an17 cd17 ct17)
  (c17:PySem.W.codeIn K cd17 "shown" = true) (k17:PySem.W.keepIn K (.ref f17)=true)
  (a18:PySem.W.nsIn K mainGlobals "words_in" = some (some (.ref f18)))
  (l18:K.lookup f18=ya "words_in" kR oc18 od18 sl18 kV18 dc18 pm18 an18 cd18 ct18)
  (c18:PySem.W.codeIn K cd18 "words_in" = true) (k18:PySem.W.keepIn K (.ref f18)=true)
  (a19:PySem.W.nsIn K mainGlobals "number_told" = some (some (.ref f19)))
  (l19:K.lookup f19=ya "number_told" kH oc19 od19 sl19 kV19 dc19 pm19 an19 cd19 ct19)
  (c19:PySem.W.codeIn K cd19 "number_told" = true) (k19:PySem.W.keepIn K (.ref f19)=true)
  (a20:PySem.W.nsIn K mainGlobals "field_told" = some (some (.ref f20)))
  (l20:K.lookup f20=ya "field_told" gU oc20 od20 sl20 kV20 dc20 pm20 an20 cd20 ct20)
  (c20:PySem.W.codeIn K cd20 "field_told" = true) (k20:PySem.W.keepIn K (.ref f20)=true)
  (a21:PySem.W.nsIn K mainGlobals "row_told" = some (some (.ref f21)))
  (l21:K.lookup f21=ya "row_told" kM oc21 od21 sl21 kV21 dc21 pm21 an21 cd21 ct21)
  (c21:PySem.W.codeIn K cd21 "row_told" = true) (k21:PySem.W.keepIn K (.ref f21)=true)
  (a22:PySem.W.nsIn K mainGlobals "item_told" = some (some (.ref f22)))
  (l22:K.lookup f22=ya "item_told" gj oc22 od22 sl22 kV22 dc22 pm22 an22 cd22 ct22)
  (c22:PySem.W.codeIn K cd22 "item_told" = true) (k22:PySem.W.keepIn K (.ref f22)=true)
  (a23:PySem.W.nsIn K mainGlobals "told_rows" = some (some (.ref f23)))
  (l23:K.lookup f23=ya "told_rows" kQ oc23 od23 sl23 kV23 dc23 pm23 an23 cd23 ct23)
  (c23:PySem.W.codeIn K cd23 "told_rows" = true) (k23:PySem.W.keepIn K (.ref f23)=true)
  (a24:PySem.W.nsIn K mainGlobals "least_fault" = some (some (.ref f24)))
  (l24:K.lookup f24=ya "least_fault" kE oc24 od24 sl24 kV24 dc24 pm24 an24 cd24 ct24)
  (c24:PySem.W.codeIn K cd24 "least_fault" = true) (k24:PySem.W.keepIn K (.ref f24)=true)
  (a25:PySem.W.nsIn K mainGlobals "fault" = some (some (.ref f25)))
  (l25:K.lookup f25=ya "fault" gS oc25 od25 sl25 kV25 dc25 pm25 an25 cd25 ct25)
  (c25:PySem.W.codeIn K cd25 "fault" = true) (k25:PySem.W.keepIn K (.ref f25)=true)
  (a26:PySem.W.nsIn K mainGlobals "read" = some (some (.ref f26)))
  (l26:K.lookup f26=ya "read" kL oc26 od26 sl26 kV26 dc26 pm26 an26 cd26 ct26)
  (c26:PySem.W.codeIn K cd26 "read" = true) (k26:PySem.W.keepIn K (.ref f26)=true)
  (a27:PySem.W.nsIn K mainGlobals "_law_cell_at" = some (some (.ref f27)))
  (l27:K.lookup f27=ya "_law_cell_at" gt oc27 od27 sl27 kV27 dc27 pm27 an27 cd27 ct27)
  (c27:PySem.W.codeIn K cd27 "_law_cell_at" = true) (k27:PySem.W.keepIn K (.ref f27)=true)
  (a28:PySem.W.nsIn K mainGlobals "_law_whole" = some (some (.ref f28)))
  (l28:K.lookup f28=ya "_law_whole" kC oc28 od28 sl28 kV28 dc28 pm28 an28 cd28 ct28)
  (c28:PySem.W.codeIn K cd28 "_law_whole" = true) (k28:PySem.W.keepIn K (.ref f28)=true)
  (a29:PySem.W.nsIn K mainGlobals "_law_mixed" = some (some (.ref f29)))
  (l29:K.lookup f29=ya "_law_mixed" gx oc29 od29 sl29 kV29 dc29 pm29 an29 cd29 ct29)
  (c29:PySem.W.codeIn K cd29 "_law_mixed" = true) (k29:PySem.W.keepIn K (.ref f29)=true)
  (a30:PySem.W.nsIn K mainGlobals "_law_letter" = some (some (.ref f30)))
  (l30:K.lookup f30=ya "_law_letter" gu oc30 od30 sl30 kV30 dc30 pm30 an30 cd30 ct30)
  (c30:PySem.W.codeIn K cd30 "_law_letter" = true) (k30:PySem.W.keepIn K (.ref f30)=true)
  (a31:PySem.W.nsIn K mainGlobals "_law_names" = some (some (.ref f31)))
  (l31:K.lookup f31=ya "_law_names" gy oc31 od31 sl31 kV31 dc31 pm31 an31 cd31 ct31)
  (c31:PySem.W.codeIn K cd31 "_law_names" = true) (k31:PySem.W.keepIn K (.ref f31)=true)
  (a32:PySem.W.nsIn K mainGlobals "_law_shape" = some (some (.ref f32)))
  (l32:K.lookup f32=ya "_law_shape" kB oc32 od32 sl32 kV32 dc32 pm32 an32 cd32 ct32)
  (c32:PySem.W.codeIn K cd32 "_law_shape" = true) (k32:PySem.W.keepIn K (.ref f32)=true)
  (a33:PySem.W.nsIn K mainGlobals "_law_words" = some (some (.ref f33)))
  (l33:K.lookup f33=ya "_law_words" kD oc33 od33 sl33 kV33 dc33 pm33 an33 cd33 ct33)
  (c33:PySem.W.codeIn K cd33 "_law_words" = true) (k33:PySem.W.keepIn K (.ref f33)=true)
  (a34:PySem.W.nsIn K mainGlobals "_law_part_by" = some (some (.ref f34)))
  (l34:K.lookup f34=ya "_law_part_by" gz oc34 od34 sl34 kV34 dc34 pm34 an34 cd34 ct34)
  (c34:PySem.W.codeIn K cd34 "_law_part_by" = true) (k34:PySem.W.keepIn K (.ref f34)=true)
  (a35:PySem.W.nsIn K mainGlobals "_law_row_by" = some (some (.ref f35)))
  (l35:K.lookup f35=ya "_law_row_by" kA oc35 od35 sl35 kV35 dc35 pm35 an35 cd35 ct35)
  (c35:PySem.W.codeIn K cd35 "_law_row_by" = true) (k35:PySem.W.keepIn K (.ref f35)=true)
  (a36:PySem.W.nsIn K mainGlobals "_law_program" = some (some (.ref f36)))
  (l36:K.lookup f36=ya "_law_program" g_ oc36 od36 sl36 kV36 dc36 pm36 an36 cd36 ct36)
  (c36:PySem.W.codeIn K cd36 "_law_program" = true) (k36:PySem.W.keepIn K (.ref f36)=true)
  (a37:PySem.W.nsIn K mainGlobals "_law_alike" = some (some (.ref f37)))
  (l37:K.lookup f37=ya "_law_alike" qL oc37 od37 sl37 kV37 dc37 pm37 an37 cd37 ct37)
  (c37:PySem.W.codeIn K cd37 "_law_alike" = true) (k37:PySem.W.keepIn K (.ref f37)=true)
  (a38:PySem.W.nsIn K mainGlobals "_law_back" = some (some (.ref f38)))
  (l38:K.lookup f38=ya "_law_back" gr oc38 od38 sl38 kV38 dc38 pm38 an38 cd38 ct38)
  (c38:PySem.W.codeIn K cd38 "_law_back" = true) (k38:PySem.W.keepIn K (.ref f38)=true)
  (a39:PySem.W.nsIn K mainGlobals "law" = some (some (.ref f39)))
  (l39:K.lookup f39=ya "law" p6 oc39 od39 sl39 kV39 dc39 pm39 an39 cd39 ct39)
  (c39:PySem.W.codeIn K cd39 "law" = true) (k39:PySem.W.keepIn K (.ref f39)=true)
  (nz_isinstance:PySem.W.nsIn K mainGlobals "isinstance" = some none)
  (nz_int:PySem.W.nsIn K mainGlobals "int" = some none)
  (nz_bool:PySem.W.nsIn K mainGlobals "bool" = some none)
  (nz_str:PySem.W.nsIn K mainGlobals "str" = some none)
  (nz_len:PySem.W.nsIn K mainGlobals "len" = some none)
  (nz_all:PySem.W.nsIn K mainGlobals "all" = some none)
  (nz_tuple:PySem.W.nsIn K mainGlobals "tuple" = some none)
  (nz_zip:PySem.W.nsIn K mainGlobals "zip" = some none)
  (nz_list:PySem.W.nsIn K mainGlobals "list" = some none)
  (nz_set:PySem.W.nsIn K mainGlobals "set" = some none)
  (nz_sorted:PySem.W.nsIn K mainGlobals "sorted" = some none)
  (nz_dict:PySem.W.nsIn K mainGlobals "dict" = some none)
  (nz_enumerate:PySem.W.nsIn K mainGlobals "enumerate" = some none)
  (nz_range:PySem.W.nsIn K mainGlobals "range" = some none)
  {tg_NAME_LONGEST:Tok} (ng_NAME_LONGEST:PySem.W.nsIn K mainGlobals "NAME_LONGEST" = some (some (.int 8 tg_NAME_LONGEST)))
  {tg_LETTERS:Tok} (ng_LETTERS:PySem.W.nsIn K mainGlobals "LETTERS" = some (some (.str "abcdefghijklmnopqrstuvwxyz" tg_LETTERS)))
  {A_MARKS:Addr} {n_MARKS:Nat} {sl_MARKS:Array (Option Value)} {u0_MARKS u1_MARKS u2_MARKS:Tok} (ng_MARKS:PySem.W.nsIn K mainGlobals "MARKS" = some (some (.ref A_MARKS)))
  (nq_MARKS:K.lookup A_MARKS=some ⟨.type "tuple",none,.seq #[.str "carry" u0_MARKS,.str "nought" u1_MARKS,.str "sign" u2_MARKS] n_MARKS,sl_MARKS⟩)
  {A_NUMBER_WIDTHS:Addr} {n_NUMBER_WIDTHS:Nat} (ng_NUMBER_WIDTHS:PySem.W.nsIn K mainGlobals "NUMBER_WIDTHS" = some (some (.ref A_NUMBER_WIDTHS)))
  {tk0_NUMBER_WIDTHS:Tok}
  {tv0_NUMBER_WIDTHS:Tok}
  {tk1_NUMBER_WIDTHS:Tok}
  {tv1_NUMBER_WIDTHS:Tok}
  {tk2_NUMBER_WIDTHS:Tok}
  {tv2_NUMBER_WIDTHS:Tok}
  {tk3_NUMBER_WIDTHS:Tok}
  {tv3_NUMBER_WIDTHS:Tok}
  {tk4_NUMBER_WIDTHS:Tok}
  {tv4_NUMBER_WIDTHS:Tok}
  {tk5_NUMBER_WIDTHS:Tok}
  {tv5_NUMBER_WIDTHS:Tok}
  {tk6_NUMBER_WIDTHS:Tok}
  {tv6_NUMBER_WIDTHS:Tok}
  {tk7_NUMBER_WIDTHS:Tok}
  {tv7_NUMBER_WIDTHS:Tok}
  (nq_NUMBER_WIDTHS:K.lookup A_NUMBER_WIDTHS=some { cls:=.type "dict",data:=.dict #[⟨PyData.keyHash w.params "set",.str "set" tk0_NUMBER_WIDTHS,.int 16 tv0_NUMBER_WIDTHS⟩,⟨PyData.keyHash w.params "high",.str "high" tk1_NUMBER_WIDTHS,.int 16 tv1_NUMBER_WIDTHS⟩,⟨PyData.keyHash w.params "left",.str "left" tk2_NUMBER_WIDTHS,.int 5 tv2_NUMBER_WIDTHS⟩,⟨PyData.keyHash w.params "right",.str "right" tk3_NUMBER_WIDTHS,.int 5 tv3_NUMBER_WIDTHS⟩,⟨PyData.keyHash w.params "load",.str "load" tk4_NUMBER_WIDTHS,.int 8 tv4_NUMBER_WIDTHS⟩,⟨PyData.keyHash w.params "store",.str "store" tk5_NUMBER_WIDTHS,.int 8 tv5_NUMBER_WIDTHS⟩,⟨PyData.keyHash w.params "loadw",.str "loadw" tk6_NUMBER_WIDTHS,.int 8 tv6_NUMBER_WIDTHS⟩,⟨PyData.keyHash w.params "storew",.str "storew" tk7_NUMBER_WIDTHS,.int 8 tv7_NUMBER_WIDTHS⟩] n_NUMBER_WIDTHS }) (ns_NUMBER_WIDTHS:(A_NUMBER_WIDTHS == sysModules)=false)
  {A_PLACES:Addr} {n_PLACES:Nat} (ng_PLACES:PySem.W.nsIn K mainGlobals "PLACES" = some (some (.ref A_PLACES)))
  {tk0_PLACES:Tok}
  {A0_PLACES:Addr} {d0_PLACES:Option Addr} {n0_PLACES:Nat} {sl0_PLACES:Array (Option Value)}
  {w0_0_PLACES w0_1_PLACES:Tok}
  {tk1_PLACES:Tok}
  {A1_PLACES:Addr} {d1_PLACES:Option Addr} {n1_PLACES:Nat} {sl1_PLACES:Array (Option Value)}
  {w1_0_PLACES w1_1_PLACES:Tok}
  {tk2_PLACES:Tok}
  {A2_PLACES:Addr} {d2_PLACES:Option Addr} {n2_PLACES:Nat} {sl2_PLACES:Array (Option Value)}
  {w2_0_PLACES w2_1_PLACES:Tok}
  {tk3_PLACES:Tok}
  {A3_PLACES:Addr} {d3_PLACES:Option Addr} {n3_PLACES:Nat} {sl3_PLACES:Array (Option Value)}
  {w3_0_PLACES w3_1_PLACES:Tok}
  {tk4_PLACES:Tok}
  {A4_PLACES:Addr} {d4_PLACES:Option Addr} {n4_PLACES:Nat} {sl4_PLACES:Array (Option Value)}
  {w4_0_PLACES w4_1_PLACES:Tok}
  (nq_PLACES:K.lookup A_PLACES=some { cls:=.type "dict",data:=.dict #[⟨PyData.keyHash w.params "kind",.str "kind" tk0_PLACES,.ref A0_PLACES⟩,⟨PyData.keyHash w.params "d",.str "d" tk1_PLACES,.ref A1_PLACES⟩,⟨PyData.keyHash w.params "s",.str "s" tk2_PLACES,.ref A2_PLACES⟩,⟨PyData.keyHash w.params "mark",.str "mark" tk3_PLACES,.ref A3_PLACES⟩,⟨PyData.keyHash w.params "distance",.str "distance" tk4_PLACES,.ref A4_PLACES⟩] n_PLACES }) (ns_PLACES:(A_PLACES == sysModules)=false)
  (nt0_PLACES:K.lookup A0_PLACES=some ⟨.type "tuple",d0_PLACES,.seq #[.int 27 w0_0_PLACES,.int 5 w0_1_PLACES] n0_PLACES,sl0_PLACES⟩)
  (nt1_PLACES:K.lookup A1_PLACES=some ⟨.type "tuple",d1_PLACES,.seq #[.int 24 w1_0_PLACES,.int 3 w1_1_PLACES] n1_PLACES,sl1_PLACES⟩)
  (nt2_PLACES:K.lookup A2_PLACES=some ⟨.type "tuple",d2_PLACES,.seq #[.int 21 w2_0_PLACES,.int 3 w2_1_PLACES] n2_PLACES,sl2_PLACES⟩)
  (nt3_PLACES:K.lookup A3_PLACES=some ⟨.type "tuple",d3_PLACES,.seq #[.int 24 w3_0_PLACES,.int 2 w3_1_PLACES] n3_PLACES,sl3_PLACES⟩)
  (nt4_PLACES:K.lookup A4_PLACES=some ⟨.type "tuple",d4_PLACES,.seq #[.int 0 w4_0_PLACES,.int 5 w4_1_PLACES] n4_PLACES,sl4_PLACES⟩)
  {A_FIELDS:Addr} {n_FIELDS:Nat} (ng_FIELDS:PySem.W.nsIn K mainGlobals "FIELDS" = some (some (.ref A_FIELDS)))
  {tk0_FIELDS:Tok}
  {A0_FIELDS:Addr} {d0_FIELDS:Option Addr} {n0_FIELDS:Nat} {sl0_FIELDS:Array (Option Value)}
  {w0_0_FIELDS:Tok}
  {tk1_FIELDS:Tok}
  {A1_FIELDS:Addr} {d1_FIELDS:Option Addr} {n1_FIELDS:Nat} {sl1_FIELDS:Array (Option Value)}
  {w1_0_FIELDS w1_1_FIELDS:Tok}
  {tk2_FIELDS:Tok}
  {A2_FIELDS:Addr} {d2_FIELDS:Option Addr} {n2_FIELDS:Nat} {sl2_FIELDS:Array (Option Value)}
  {w2_0_FIELDS w2_1_FIELDS:Tok}
  {tk3_FIELDS:Tok}
  {A3_FIELDS:Addr} {d3_FIELDS:Option Addr} {n3_FIELDS:Nat} {sl3_FIELDS:Array (Option Value)}
  {w3_0_FIELDS w3_1_FIELDS:Tok}
  {tk4_FIELDS:Tok}
  {A4_FIELDS:Addr} {d4_FIELDS:Option Addr} {n4_FIELDS:Nat} {sl4_FIELDS:Array (Option Value)}
  {w4_0_FIELDS w4_1_FIELDS:Tok}
  {tk5_FIELDS:Tok}
  {A5_FIELDS:Addr} {d5_FIELDS:Option Addr} {n5_FIELDS:Nat} {sl5_FIELDS:Array (Option Value)}
  {w5_0_FIELDS w5_1_FIELDS:Tok}
  {tk6_FIELDS:Tok}
  {A6_FIELDS:Addr} {d6_FIELDS:Option Addr} {n6_FIELDS:Nat} {sl6_FIELDS:Array (Option Value)}
  {w6_0_FIELDS w6_1_FIELDS:Tok}
  {tk7_FIELDS:Tok}
  {A7_FIELDS:Addr} {d7_FIELDS:Option Addr} {n7_FIELDS:Nat} {sl7_FIELDS:Array (Option Value)}
  {w7_0_FIELDS w7_1_FIELDS:Tok}
  {tk8_FIELDS:Tok}
  {A8_FIELDS:Addr} {d8_FIELDS:Option Addr} {n8_FIELDS:Nat} {sl8_FIELDS:Array (Option Value)}
  {w8_0_FIELDS w8_1_FIELDS:Tok}
  {tk9_FIELDS:Tok}
  {A9_FIELDS:Addr} {d9_FIELDS:Option Addr} {n9_FIELDS:Nat} {sl9_FIELDS:Array (Option Value)}
  {w9_0_FIELDS w9_1_FIELDS:Tok}
  {tk10_FIELDS:Tok}
  {A10_FIELDS:Addr} {d10_FIELDS:Option Addr} {n10_FIELDS:Nat} {sl10_FIELDS:Array (Option Value)}
  {w10_0_FIELDS w10_1_FIELDS:Tok}
  {tk11_FIELDS:Tok}
  {A11_FIELDS:Addr} {d11_FIELDS:Option Addr} {n11_FIELDS:Nat} {sl11_FIELDS:Array (Option Value)}
  {w11_0_FIELDS w11_1_FIELDS:Tok}
  {tk12_FIELDS:Tok}
  {A12_FIELDS:Addr} {d12_FIELDS:Option Addr} {n12_FIELDS:Nat} {sl12_FIELDS:Array (Option Value)}
  {w12_0_FIELDS w12_1_FIELDS:Tok}
  {tk13_FIELDS:Tok}
  {A13_FIELDS:Addr} {d13_FIELDS:Option Addr} {n13_FIELDS:Nat} {sl13_FIELDS:Array (Option Value)}
  {w13_0_FIELDS w13_1_FIELDS:Tok}
  {tk14_FIELDS:Tok}
  {A14_FIELDS:Addr} {d14_FIELDS:Option Addr} {n14_FIELDS:Nat} {sl14_FIELDS:Array (Option Value)}
  {w14_0_FIELDS w14_1_FIELDS w14_2_FIELDS:Tok}
  {tk15_FIELDS:Tok}
  {A15_FIELDS:Addr} {d15_FIELDS:Option Addr} {n15_FIELDS:Nat} {sl15_FIELDS:Array (Option Value)}
  {w15_0_FIELDS w15_1_FIELDS w15_2_FIELDS:Tok}
  {tk16_FIELDS:Tok}
  {A16_FIELDS:Addr} {d16_FIELDS:Option Addr} {n16_FIELDS:Nat} {sl16_FIELDS:Array (Option Value)}
  {w16_0_FIELDS w16_1_FIELDS w16_2_FIELDS:Tok}
  {tk17_FIELDS:Tok}
  {A17_FIELDS:Addr} {d17_FIELDS:Option Addr} {n17_FIELDS:Nat} {sl17_FIELDS:Array (Option Value)}
  {w17_0_FIELDS w17_1_FIELDS w17_2_FIELDS:Tok}
  {tk18_FIELDS:Tok}
  {A18_FIELDS:Addr} {d18_FIELDS:Option Addr} {n18_FIELDS:Nat} {sl18_FIELDS:Array (Option Value)}
  {w18_0_FIELDS:Tok}
  {tk19_FIELDS:Tok}
  {A19_FIELDS:Addr} {d19_FIELDS:Option Addr} {n19_FIELDS:Nat} {sl19_FIELDS:Array (Option Value)}
  {w19_0_FIELDS w19_1_FIELDS:Tok}
  {tk20_FIELDS:Tok}
  {A20_FIELDS:Addr} {d20_FIELDS:Option Addr} {n20_FIELDS:Nat} {sl20_FIELDS:Array (Option Value)}
  {w20_0_FIELDS w20_1_FIELDS:Tok}
  {tk21_FIELDS:Tok}
  {A21_FIELDS:Addr} {d21_FIELDS:Option Addr} {n21_FIELDS:Nat} {sl21_FIELDS:Array (Option Value)}
  (nq_FIELDS:K.lookup A_FIELDS=some { cls:=.type "dict",data:=.dict #[⟨PyData.keyHash w.params "label",.str "label" tk0_FIELDS,.ref A0_FIELDS⟩,⟨PyData.keyHash w.params "set",.str "set" tk1_FIELDS,.ref A1_FIELDS⟩,⟨PyData.keyHash w.params "high",.str "high" tk2_FIELDS,.ref A2_FIELDS⟩,⟨PyData.keyHash w.params "copy",.str "copy" tk3_FIELDS,.ref A3_FIELDS⟩,⟨PyData.keyHash w.params "add",.str "add" tk4_FIELDS,.ref A4_FIELDS⟩,⟨PyData.keyHash w.params "addc",.str "addc" tk5_FIELDS,.ref A5_FIELDS⟩,⟨PyData.keyHash w.params "sub",.str "sub" tk6_FIELDS,.ref A6_FIELDS⟩,⟨PyData.keyHash w.params "subc",.str "subc" tk7_FIELDS,.ref A7_FIELDS⟩,⟨PyData.keyHash w.params "and",.str "and" tk8_FIELDS,.ref A8_FIELDS⟩,⟨PyData.keyHash w.params "or",.str "or" tk9_FIELDS,.ref A9_FIELDS⟩,⟨PyData.keyHash w.params "xor",.str "xor" tk10_FIELDS,.ref A10_FIELDS⟩,⟨PyData.keyHash w.params "test",.str "test" tk11_FIELDS,.ref A11_FIELDS⟩,⟨PyData.keyHash w.params "left",.str "left" tk12_FIELDS,.ref A12_FIELDS⟩,⟨PyData.keyHash w.params "right",.str "right" tk13_FIELDS,.ref A13_FIELDS⟩,⟨PyData.keyHash w.params "load",.str "load" tk14_FIELDS,.ref A14_FIELDS⟩,⟨PyData.keyHash w.params "store",.str "store" tk15_FIELDS,.ref A15_FIELDS⟩,⟨PyData.keyHash w.params "loadw",.str "loadw" tk16_FIELDS,.ref A16_FIELDS⟩,⟨PyData.keyHash w.params "storew",.str "storew" tk17_FIELDS,.ref A17_FIELDS⟩,⟨PyData.keyHash w.params "jump",.str "jump" tk18_FIELDS,.ref A18_FIELDS⟩,⟨PyData.keyHash w.params "when",.str "when" tk19_FIELDS,.ref A19_FIELDS⟩,⟨PyData.keyHash w.params "unless",.str "unless" tk20_FIELDS,.ref A20_FIELDS⟩,⟨PyData.keyHash w.params "stop",.str "stop" tk21_FIELDS,.ref A21_FIELDS⟩] n_FIELDS }) (ns_FIELDS:(A_FIELDS == sysModules)=false)
  (nt0_FIELDS:K.lookup A0_FIELDS=some ⟨.type "tuple",d0_FIELDS,.seq #[.str "name" w0_0_FIELDS] n0_FIELDS,sl0_FIELDS⟩)
  (nt1_FIELDS:K.lookup A1_FIELDS=some ⟨.type "tuple",d1_FIELDS,.seq #[.str "d" w1_0_FIELDS,.str "n" w1_1_FIELDS] n1_FIELDS,sl1_FIELDS⟩)
  (nt2_FIELDS:K.lookup A2_FIELDS=some ⟨.type "tuple",d2_FIELDS,.seq #[.str "d" w2_0_FIELDS,.str "n" w2_1_FIELDS] n2_FIELDS,sl2_FIELDS⟩)
  (nt3_FIELDS:K.lookup A3_FIELDS=some ⟨.type "tuple",d3_FIELDS,.seq #[.str "d" w3_0_FIELDS,.str "s" w3_1_FIELDS] n3_FIELDS,sl3_FIELDS⟩)
  (nt4_FIELDS:K.lookup A4_FIELDS=some ⟨.type "tuple",d4_FIELDS,.seq #[.str "d" w4_0_FIELDS,.str "s" w4_1_FIELDS] n4_FIELDS,sl4_FIELDS⟩)
  (nt5_FIELDS:K.lookup A5_FIELDS=some ⟨.type "tuple",d5_FIELDS,.seq #[.str "d" w5_0_FIELDS,.str "s" w5_1_FIELDS] n5_FIELDS,sl5_FIELDS⟩)
  (nt6_FIELDS:K.lookup A6_FIELDS=some ⟨.type "tuple",d6_FIELDS,.seq #[.str "d" w6_0_FIELDS,.str "s" w6_1_FIELDS] n6_FIELDS,sl6_FIELDS⟩)
  (nt7_FIELDS:K.lookup A7_FIELDS=some ⟨.type "tuple",d7_FIELDS,.seq #[.str "d" w7_0_FIELDS,.str "s" w7_1_FIELDS] n7_FIELDS,sl7_FIELDS⟩)
  (nt8_FIELDS:K.lookup A8_FIELDS=some ⟨.type "tuple",d8_FIELDS,.seq #[.str "d" w8_0_FIELDS,.str "s" w8_1_FIELDS] n8_FIELDS,sl8_FIELDS⟩)
  (nt9_FIELDS:K.lookup A9_FIELDS=some ⟨.type "tuple",d9_FIELDS,.seq #[.str "d" w9_0_FIELDS,.str "s" w9_1_FIELDS] n9_FIELDS,sl9_FIELDS⟩)
  (nt10_FIELDS:K.lookup A10_FIELDS=some ⟨.type "tuple",d10_FIELDS,.seq #[.str "d" w10_0_FIELDS,.str "s" w10_1_FIELDS] n10_FIELDS,sl10_FIELDS⟩)
  (nt11_FIELDS:K.lookup A11_FIELDS=some ⟨.type "tuple",d11_FIELDS,.seq #[.str "d" w11_0_FIELDS,.str "s" w11_1_FIELDS] n11_FIELDS,sl11_FIELDS⟩)
  (nt12_FIELDS:K.lookup A12_FIELDS=some ⟨.type "tuple",d12_FIELDS,.seq #[.str "d" w12_0_FIELDS,.str "n" w12_1_FIELDS] n12_FIELDS,sl12_FIELDS⟩)
  (nt13_FIELDS:K.lookup A13_FIELDS=some ⟨.type "tuple",d13_FIELDS,.seq #[.str "d" w13_0_FIELDS,.str "n" w13_1_FIELDS] n13_FIELDS,sl13_FIELDS⟩)
  (nt14_FIELDS:K.lookup A14_FIELDS=some ⟨.type "tuple",d14_FIELDS,.seq #[.str "d" w14_0_FIELDS,.str "s" w14_1_FIELDS,.str "n" w14_2_FIELDS] n14_FIELDS,sl14_FIELDS⟩)
  (nt15_FIELDS:K.lookup A15_FIELDS=some ⟨.type "tuple",d15_FIELDS,.seq #[.str "d" w15_0_FIELDS,.str "s" w15_1_FIELDS,.str "n" w15_2_FIELDS] n15_FIELDS,sl15_FIELDS⟩)
  (nt16_FIELDS:K.lookup A16_FIELDS=some ⟨.type "tuple",d16_FIELDS,.seq #[.str "d" w16_0_FIELDS,.str "s" w16_1_FIELDS,.str "n" w16_2_FIELDS] n16_FIELDS,sl16_FIELDS⟩)
  (nt17_FIELDS:K.lookup A17_FIELDS=some ⟨.type "tuple",d17_FIELDS,.seq #[.str "d" w17_0_FIELDS,.str "s" w17_1_FIELDS,.str "n" w17_2_FIELDS] n17_FIELDS,sl17_FIELDS⟩)
  (nt18_FIELDS:K.lookup A18_FIELDS=some ⟨.type "tuple",d18_FIELDS,.seq #[.str "name" w18_0_FIELDS] n18_FIELDS,sl18_FIELDS⟩)
  (nt19_FIELDS:K.lookup A19_FIELDS=some ⟨.type "tuple",d19_FIELDS,.seq #[.str "mark" w19_0_FIELDS,.str "name" w19_1_FIELDS] n19_FIELDS,sl19_FIELDS⟩)
  (nt20_FIELDS:K.lookup A20_FIELDS=some ⟨.type "tuple",d20_FIELDS,.seq #[.str "mark" w20_0_FIELDS,.str "name" w20_1_FIELDS] n20_FIELDS,sl20_FIELDS⟩)
  (nt21_FIELDS:K.lookup A21_FIELDS=some ⟨.type "tuple",d21_FIELDS,.seq #[] n21_FIELDS,sl21_FIELDS⟩)
  {A_JUMPS:Addr} {n_JUMPS:Nat} {sl_JUMPS:Array (Option Value)} {u0_JUMPS u1_JUMPS u2_JUMPS:Tok} (ng_JUMPS:PySem.W.nsIn K mainGlobals "JUMPS" = some (some (.ref A_JUMPS)))
  (nq_JUMPS:K.lookup A_JUMPS=some ⟨.type "tuple",none,.seq #[.str "jump" u0_JUMPS,.str "when" u1_JUMPS,.str "unless" u2_JUMPS] n_JUMPS,sl_JUMPS⟩)
  {tg_FIGURES_MOST:Tok} (ng_FIGURES_MOST:PySem.W.nsIn K mainGlobals "FIGURES_MOST" = some (some (.int 5 tg_FIGURES_MOST)))
  {tg_FIGURES:Tok} (ng_FIGURES:PySem.W.nsIn K mainGlobals "FIGURES" = some (some (.str "0123456789" tg_FIGURES)))
  : ∃ fd:FuncData,(∀ (s:Shared) (v:Value),BindsTo s fd ⟨[v],[]⟩ [("_law_script",v)])/\∀ base:Heap,K.In base->base.Ns mainGlobals mg->vZ l.prog w K mg base vY 8 fa fd ["_law_script"] (kn K):=by
 have e:=hfa.symm.trans (PySem.W.mg_of X G a39)
 cases e
 have z_isinstance:mg "isinstance" = none:=PySem.W.mg_none_of X G nz_isinstance
 have z_int:mg "int" = none:=PySem.W.mg_none_of X G nz_int
 have z_bool:mg "bool" = none:=PySem.W.mg_none_of X G nz_bool
 have z_str:mg "str" = none:=PySem.W.mg_none_of X G nz_str
 have z_len:mg "len" = none:=PySem.W.mg_none_of X G nz_len
 have z_all:mg "all" = none:=PySem.W.mg_none_of X G nz_all
 have z_tuple:mg "tuple" = none:=PySem.W.mg_none_of X G nz_tuple
 have z_zip:mg "zip" = none:=PySem.W.mg_none_of X G nz_zip
 have z_list:mg "list" = none:=PySem.W.mg_none_of X G nz_list
 have z_set:mg "set" = none:=PySem.W.mg_none_of X G nz_set
 have z_sorted:mg "sorted" = none:=PySem.W.mg_none_of X G nz_sorted
 have z_dict:mg "dict" = none:=PySem.W.mg_none_of X G nz_dict
 have z_enumerate:mg "enumerate" = none:=PySem.W.mg_none_of X G nz_enumerate
 have z_range:mg "range" = none:=PySem.W.mg_none_of X G nz_range
 have g_NAME_LONGEST:xi mg "NAME_LONGEST" (.int 8):=⟨_,PySem.W.mg_of X G ng_NAME_LONGEST,⟨_,rfl⟩⟩
 have q_NAME_LONGEST:∀ H,zV K H (.int 8) (.int 8):=fun _=>rfl
 have g_LETTERS:xi mg "LETTERS" (.str "abcdefghijklmnopqrstuvwxyz"):=⟨_,PySem.W.mg_of X G ng_LETTERS,⟨_,rfl⟩⟩
 have q_LETTERS:∀ H,zV K H (.str "abcdefghijklmnopqrstuvwxyz") (.str "abcdefghijklmnopqrstuvwxyz"):=fun _=>⟨rfl,zU (by decide)⟩
 have k_MARKS:U5 K A_MARKS:=⟨_,nq_MARKS,rfl,rfl⟩
 have g_MARKS:xi mg "MARKS" (.ref A_MARKS):=⟨_,PySem.W.mg_of X G ng_MARKS,rfl⟩
 have q_MARKS:∀ H,zV K H Y1 (.ref A_MARKS):=fun H=>⟨A_MARKS,_,rfl,xS (xs:=[.str "carry",.str "nought",.str "sign"]) nq_MARKS (by show (3:Nat)<=sizeLine; decide) (.cons ⟨_,rfl⟩ (.cons ⟨_,rfl⟩ (.cons ⟨_,rfl⟩ .nil))) H,⟨_,_,rfl,⟨rfl,zU (by decide)⟩,⟨_,_,rfl,⟨rfl,zU (by decide)⟩,⟨_,_,rfl,⟨rfl,zU (by decide)⟩,rfl⟩⟩⟩,zU (by decide)⟩
 have g_NUMBER_WIDTHS:xi mg "NUMBER_WIDTHS" (.ref A_NUMBER_WIDTHS):=⟨_,PySem.W.mg_of X G ng_NUMBER_WIDTHS,rfl⟩
 have q_NUMBER_WIDTHS:vM K w A_NUMBER_WIDTHS Zz Y2:=Xz (us:=[.int 16,.int 16,.int 5,.int 5,.int 8,.int 8,.int 8,.int 8]) nq_NUMBER_WIDTHS (.cons (.cons (.cons (.cons (.cons (.cons (.cons (.cons .nil)))))))) (by decide +kernel) ns_NUMBER_WIDTHS (.cons ⟨_,rfl⟩ (.cons ⟨_,rfl⟩ (.cons ⟨_,rfl⟩ (.cons ⟨_,rfl⟩ (.cons ⟨_,rfl⟩ (.cons ⟨_,rfl⟩ (.cons ⟨_,rfl⟩ (.cons ⟨_,rfl⟩ .nil)))))))) fun H=>⟨_,_,rfl,rfl,⟨_,_,rfl,rfl,⟨_,_,rfl,rfl,⟨_,_,rfl,rfl,⟨_,_,rfl,rfl,⟨_,_,rfl,rfl,⟨_,_,rfl,rfl,⟨_,_,rfl,rfl,rfl⟩⟩⟩⟩⟩⟩⟩⟩
 have g_PLACES:xi mg "PLACES" (.ref A_PLACES):=⟨_,PySem.W.mg_of X G ng_PLACES,rfl⟩
 have q_PLACES:vM K w A_PLACES jz gB:=Xz (us:=[.ref A0_PLACES,.ref A1_PLACES,.ref A2_PLACES,.ref A3_PLACES,.ref A4_PLACES]) nq_PLACES (.cons (.cons (.cons (.cons (.cons .nil))))) (by decide +kernel) ns_PLACES (.cons rfl (.cons rfl (.cons rfl (.cons rfl (.cons rfl .nil))))) fun H=>⟨_,_,rfl,⟨A0_PLACES,_,rfl,xS (xs:=[.int 27,.int 5]) nt0_PLACES (by show (2:Nat)<=sizeLine; decide) (.cons ⟨_,rfl⟩ (.cons ⟨_,rfl⟩ .nil)) H,⟨_,_,rfl,rfl,⟨_,_,rfl,rfl,rfl⟩⟩,zU (by decide)⟩,⟨_,_,rfl,⟨A1_PLACES,_,rfl,xS (xs:=[.int 24,.int 3]) nt1_PLACES (by show (2:Nat)<=sizeLine; decide) (.cons ⟨_,rfl⟩ (.cons ⟨_,rfl⟩ .nil)) H,⟨_,_,rfl,rfl,⟨_,_,rfl,rfl,rfl⟩⟩,zU (by decide)⟩,⟨_,_,rfl,⟨A2_PLACES,_,rfl,xS (xs:=[.int 21,.int 3]) nt2_PLACES (by show (2:Nat)<=sizeLine; decide) (.cons ⟨_,rfl⟩ (.cons ⟨_,rfl⟩ .nil)) H,⟨_,_,rfl,rfl,⟨_,_,rfl,rfl,rfl⟩⟩,zU (by decide)⟩,⟨_,_,rfl,⟨A3_PLACES,_,rfl,xS (xs:=[.int 24,.int 2]) nt3_PLACES (by show (2:Nat)<=sizeLine; decide) (.cons ⟨_,rfl⟩ (.cons ⟨_,rfl⟩ .nil)) H,⟨_,_,rfl,rfl,⟨_,_,rfl,rfl,rfl⟩⟩,zU (by decide)⟩,⟨_,_,rfl,⟨A4_PLACES,_,rfl,xS (xs:=[.int 0,.int 5]) nt4_PLACES (by show (2:Nat)<=sizeLine; decide) (.cons ⟨_,rfl⟩ (.cons ⟨_,rfl⟩ .nil)) H,⟨_,_,rfl,rfl,⟨_,_,rfl,rfl,rfl⟩⟩,zU (by decide)⟩,rfl⟩⟩⟩⟩⟩
 have g_FIELDS:xi mg "FIELDS" (.ref A_FIELDS):=⟨_,PySem.W.mg_of X G ng_FIELDS,rfl⟩
 have q_FIELDS:vM K w A_FIELDS xU vj:=Xz (us:=[.ref A0_FIELDS,.ref A1_FIELDS,.ref A2_FIELDS,.ref A3_FIELDS,.ref A4_FIELDS,.ref A5_FIELDS,.ref A6_FIELDS,.ref A7_FIELDS,.ref A8_FIELDS,.ref A9_FIELDS,.ref A10_FIELDS,.ref A11_FIELDS,.ref A12_FIELDS,.ref A13_FIELDS,.ref A14_FIELDS,.ref A15_FIELDS,.ref A16_FIELDS,.ref A17_FIELDS,.ref A18_FIELDS,.ref A19_FIELDS,.ref A20_FIELDS,.ref A21_FIELDS]) nq_FIELDS (.cons (.cons (.cons (.cons (.cons (.cons (.cons (.cons (.cons (.cons (.cons (.cons (.cons (.cons (.cons (.cons (.cons (.cons (.cons (.cons (.cons (.cons .nil)))))))))))))))))))))) (by decide +kernel) ns_FIELDS (.cons rfl (.cons rfl (.cons rfl (.cons rfl (.cons rfl (.cons rfl (.cons rfl (.cons rfl (.cons rfl (.cons rfl (.cons rfl (.cons rfl (.cons rfl (.cons rfl (.cons rfl (.cons rfl (.cons rfl (.cons rfl (.cons rfl (.cons rfl (.cons rfl (.cons rfl .nil)))))))))))))))))))))) fun H=>⟨_,_,rfl,⟨A0_FIELDS,_,rfl,xS (xs:=[.str "name"]) nt0_FIELDS (by show (1:Nat)<=sizeLine; decide) (.cons ⟨_,rfl⟩ .nil) H,⟨_,_,rfl,⟨rfl,zU (by decide)⟩,rfl⟩,zU (by decide)⟩,⟨_,_,rfl,⟨A1_FIELDS,_,rfl,xS (xs:=[.str "d",.str "n"]) nt1_FIELDS (by show (2:Nat)<=sizeLine; decide) (.cons ⟨_,rfl⟩ (.cons ⟨_,rfl⟩ .nil)) H,⟨_,_,rfl,⟨rfl,zU (by decide)⟩,⟨_,_,rfl,⟨rfl,zU (by decide)⟩,rfl⟩⟩,zU (by decide)⟩,⟨_,_,rfl,⟨A2_FIELDS,_,rfl,xS (xs:=[.str "d",.str "n"]) nt2_FIELDS (by show (2:Nat)<=sizeLine; decide) (.cons ⟨_,rfl⟩ (.cons ⟨_,rfl⟩ .nil)) H,⟨_,_,rfl,⟨rfl,zU (by decide)⟩,⟨_,_,rfl,⟨rfl,zU (by decide)⟩,rfl⟩⟩,zU (by decide)⟩,⟨_,_,rfl,⟨A3_FIELDS,_,rfl,xS (xs:=[.str "d",.str "s"]) nt3_FIELDS (by show (2:Nat)<=sizeLine; decide) (.cons ⟨_,rfl⟩ (.cons ⟨_,rfl⟩ .nil)) H,⟨_,_,rfl,⟨rfl,zU (by decide)⟩,⟨_,_,rfl,⟨rfl,zU (by decide)⟩,rfl⟩⟩,zU (by decide)⟩,⟨_,_,rfl,⟨A4_FIELDS,_,rfl,xS (xs:=[.str "d",.str "s"]) nt4_FIELDS (by show (2:Nat)<=sizeLine; decide) (.cons ⟨_,rfl⟩ (.cons ⟨_,rfl⟩ .nil)) H,⟨_,_,rfl,⟨rfl,zU (by decide)⟩,⟨_,_,rfl,⟨rfl,zU (by decide)⟩,rfl⟩⟩,zU (by decide)⟩,⟨_,_,rfl,⟨A5_FIELDS,_,rfl,xS (xs:=[.str "d",.str "s"]) nt5_FIELDS (by show (2:Nat)<=sizeLine; decide) (.cons ⟨_,rfl⟩ (.cons ⟨_,rfl⟩ .nil)) H,⟨_,_,rfl,⟨rfl,zU (by decide)⟩,⟨_,_,rfl,⟨rfl,zU (by decide)⟩,rfl⟩⟩,zU (by decide)⟩,⟨_,_,rfl,⟨A6_FIELDS,_,rfl,xS (xs:=[.str "d",.str "s"]) nt6_FIELDS (by show (2:Nat)<=sizeLine; decide) (.cons ⟨_,rfl⟩ (.cons ⟨_,rfl⟩ .nil)) H,⟨_,_,rfl,⟨rfl,zU (by decide)⟩,⟨_,_,rfl,⟨rfl,zU (by decide)⟩,rfl⟩⟩,zU (by decide)⟩,⟨_,_,rfl,⟨A7_FIELDS,_,rfl,xS (xs:=[.str "d",.str "s"]) nt7_FIELDS (by show (2:Nat)<=sizeLine; decide) (.cons ⟨_,rfl⟩ (.cons ⟨_,rfl⟩ .nil)) H,⟨_,_,rfl,⟨rfl,zU (by decide)⟩,⟨_,_,rfl,⟨rfl,zU (by decide)⟩,rfl⟩⟩,zU (by decide)⟩,⟨_,_,rfl,⟨A8_FIELDS,_,rfl,xS (xs:=[.str "d",.str "s"]) nt8_FIELDS (by show (2:Nat)<=sizeLine; decide) (.cons ⟨_,rfl⟩ (.cons ⟨_,rfl⟩ .nil)) H,⟨_,_,rfl,⟨rfl,zU (by decide)⟩,⟨_,_,rfl,⟨rfl,zU (by decide)⟩,rfl⟩⟩,zU (by decide)⟩,⟨_,_,rfl,⟨A9_FIELDS,_,rfl,xS (xs:=[.str "d",.str "s"]) nt9_FIELDS (by show (2:Nat)<=sizeLine; decide) (.cons ⟨_,rfl⟩ (.cons ⟨_,rfl⟩ .nil)) H,⟨_,_,rfl,⟨rfl,zU (by decide)⟩,⟨_,_,rfl,⟨rfl,zU (by decide)⟩,rfl⟩⟩,zU (by decide)⟩,⟨_,_,rfl,⟨A10_FIELDS,_,rfl,xS (xs:=[.str "d",.str "s"]) nt10_FIELDS (by show (2:Nat)<=sizeLine; decide) (.cons ⟨_,rfl⟩ (.cons ⟨_,rfl⟩ .nil)) H,⟨_,_,rfl,⟨rfl,zU (by decide)⟩,⟨_,_,rfl,⟨rfl,zU (by decide)⟩,rfl⟩⟩,zU (by decide)⟩,⟨_,_,rfl,⟨A11_FIELDS,_,rfl,xS (xs:=[.str "d",.str "s"]) nt11_FIELDS (by show (2:Nat)<=sizeLine; decide) (.cons ⟨_,rfl⟩ (.cons ⟨_,rfl⟩ .nil)) H,⟨_,_,rfl,⟨rfl,zU (by decide)⟩,⟨_,_,rfl,⟨rfl,zU (by decide)⟩,rfl⟩⟩,zU (by decide)⟩,⟨_,_,rfl,⟨A12_FIELDS,_,rfl,xS (xs:=[.str "d",.str "n"]) nt12_FIELDS (by show (2:Nat)<=sizeLine; decide) (.cons ⟨_,rfl⟩ (.cons ⟨_,rfl⟩ .nil)) H,⟨_,_,rfl,⟨rfl,zU (by decide)⟩,⟨_,_,rfl,⟨rfl,zU (by decide)⟩,rfl⟩⟩,zU (by decide)⟩,⟨_,_,rfl,⟨A13_FIELDS,_,rfl,xS (xs:=[.str "d",.str "n"]) nt13_FIELDS (by show (2:Nat)<=sizeLine; decide) (.cons ⟨_,rfl⟩ (.cons ⟨_,rfl⟩ .nil)) H,⟨_,_,rfl,⟨rfl,zU (by decide)⟩,⟨_,_,rfl,⟨rfl,zU (by decide)⟩,rfl⟩⟩,zU (by decide)⟩,⟨_,_,rfl,⟨A14_FIELDS,_,rfl,xS (xs:=[.str "d",.str "s",.str "n"]) nt14_FIELDS (by show (3:Nat)<=sizeLine; decide) (.cons ⟨_,rfl⟩ (.cons ⟨_,rfl⟩ (.cons ⟨_,rfl⟩ .nil))) H,⟨_,_,rfl,⟨rfl,zU (by decide)⟩,⟨_,_,rfl,⟨rfl,zU (by decide)⟩,⟨_,_,rfl,⟨rfl,zU (by decide)⟩,rfl⟩⟩⟩,zU (by decide)⟩,⟨_,_,rfl,⟨A15_FIELDS,_,rfl,xS (xs:=[.str "d",.str "s",.str "n"]) nt15_FIELDS (by show (3:Nat)<=sizeLine; decide) (.cons ⟨_,rfl⟩ (.cons ⟨_,rfl⟩ (.cons ⟨_,rfl⟩ .nil))) H,⟨_,_,rfl,⟨rfl,zU (by decide)⟩,⟨_,_,rfl,⟨rfl,zU (by decide)⟩,⟨_,_,rfl,⟨rfl,zU (by decide)⟩,rfl⟩⟩⟩,zU (by decide)⟩,⟨_,_,rfl,⟨A16_FIELDS,_,rfl,xS (xs:=[.str "d",.str "s",.str "n"]) nt16_FIELDS (by show (3:Nat)<=sizeLine; decide) (.cons ⟨_,rfl⟩ (.cons ⟨_,rfl⟩ (.cons ⟨_,rfl⟩ .nil))) H,⟨_,_,rfl,⟨rfl,zU (by decide)⟩,⟨_,_,rfl,⟨rfl,zU (by decide)⟩,⟨_,_,rfl,⟨rfl,zU (by decide)⟩,rfl⟩⟩⟩,zU (by decide)⟩,⟨_,_,rfl,⟨A17_FIELDS,_,rfl,xS (xs:=[.str "d",.str "s",.str "n"]) nt17_FIELDS (by show (3:Nat)<=sizeLine; decide) (.cons ⟨_,rfl⟩ (.cons ⟨_,rfl⟩ (.cons ⟨_,rfl⟩ .nil))) H,⟨_,_,rfl,⟨rfl,zU (by decide)⟩,⟨_,_,rfl,⟨rfl,zU (by decide)⟩,⟨_,_,rfl,⟨rfl,zU (by decide)⟩,rfl⟩⟩⟩,zU (by decide)⟩,⟨_,_,rfl,⟨A18_FIELDS,_,rfl,xS (xs:=[.str "name"]) nt18_FIELDS (by show (1:Nat)<=sizeLine; decide) (.cons ⟨_,rfl⟩ .nil) H,⟨_,_,rfl,⟨rfl,zU (by decide)⟩,rfl⟩,zU (by decide)⟩,⟨_,_,rfl,⟨A19_FIELDS,_,rfl,xS (xs:=[.str "mark",.str "name"]) nt19_FIELDS (by show (2:Nat)<=sizeLine; decide) (.cons ⟨_,rfl⟩ (.cons ⟨_,rfl⟩ .nil)) H,⟨_,_,rfl,⟨rfl,zU (by decide)⟩,⟨_,_,rfl,⟨rfl,zU (by decide)⟩,rfl⟩⟩,zU (by decide)⟩,⟨_,_,rfl,⟨A20_FIELDS,_,rfl,xS (xs:=[.str "mark",.str "name"]) nt20_FIELDS (by show (2:Nat)<=sizeLine; decide) (.cons ⟨_,rfl⟩ (.cons ⟨_,rfl⟩ .nil)) H,⟨_,_,rfl,⟨rfl,zU (by decide)⟩,⟨_,_,rfl,⟨rfl,zU (by decide)⟩,rfl⟩⟩,zU (by decide)⟩,⟨_,_,rfl,⟨A21_FIELDS,_,rfl,xS (xs:=[]) nt21_FIELDS (by show (0:Nat)<=sizeLine; decide) .nil H,rfl,zU (by decide)⟩,rfl⟩⟩⟩⟩⟩⟩⟩⟩⟩⟩⟩⟩⟩⟩⟩⟩⟩⟩⟩⟩⟩⟩
 have k_JUMPS:U5 K A_JUMPS:=⟨_,nq_JUMPS,rfl,rfl⟩
 have g_JUMPS:xi mg "JUMPS" (.ref A_JUMPS):=⟨_,PySem.W.mg_of X G ng_JUMPS,rfl⟩
 have q_JUMPS:∀ H,zV K H gA (.ref A_JUMPS):=fun H=>⟨A_JUMPS,_,rfl,xS (xs:=[.str "jump",.str "when",.str "unless"]) nq_JUMPS (by show (3:Nat)<=sizeLine; decide) (.cons ⟨_,rfl⟩ (.cons ⟨_,rfl⟩ (.cons ⟨_,rfl⟩ .nil))) H,⟨_,_,rfl,⟨rfl,zU (by decide)⟩,⟨_,_,rfl,⟨rfl,zU (by decide)⟩,⟨_,_,rfl,⟨rfl,zU (by decide)⟩,rfl⟩⟩⟩,zU (by decide)⟩
 have g_FIGURES_MOST:xi mg "FIGURES_MOST" (.int 5):=⟨_,PySem.W.mg_of X G ng_FIGURES_MOST,⟨_,rfl⟩⟩
 have q_FIGURES_MOST:∀ H,zV K H (.int 5) (.int 5):=fun _=>rfl
 have g_FIGURES:xi mg "FIGURES" (.str "0123456789"):=⟨_,PySem.W.mg_of X G ng_FIGURES,⟨_,rfl⟩⟩
 have q_FIGURES:∀ H,zV K H (.str "0123456789") (.str "0123456789"):=fun _=>⟨rfl,zU (by decide)⟩
 have F0:=yb (st:=gf) l0 c0 k0
 have D0:zH K mg "is_number" gf ["thing", "width"]:=⟨_,_,F0,PySem.W.mg_of X G a0,F0.binds fun _ _ _ _ _ _=>uD fun _ _=>rfl⟩
 have F1:=yb (st:=ge) l1 c1 k1
 have D1:zH K mg "is_name" ge ["thing"]:=⟨_,_,F1,PySem.W.mg_of X G a1,F1.binds fun _ _ _ _ _ _=>xh fun _=>rfl⟩
 have F2:=yb (st:=gW) l2 c2 k2
 have D2:zH K mg "fits" gW ["kind", "field", "thing"]:=⟨_,_,F2,PySem.W.mg_of X G a2,F2.binds fun _ _ _ _ _ _=>Vb fun _ _ _=>rfl⟩
 have F3:=yb (st:=gX) l3 c3 k3
 have D3:zH K mg "is_item" gX ["thing"]:=⟨_,_,F3,PySem.W.mg_of X G a3,F3.binds fun _ _ _ _ _ _=>xh fun _=>rfl⟩
 have F4:=yb (st:=gZ) l4 c4 k4
 have D4:zH K mg "is_label" gZ ["item"]:=⟨_,_,F4,PySem.W.mg_of X G a4,F4.binds fun _ _ _ _ _ _=>xh fun _=>rfl⟩
 have F5:=yb (st:=gY) l5 c5 k5
 have D5:zH K mg "is_jump" gY ["item"]:=⟨_,_,F5,PySem.W.mg_of X G a5,F5.binds fun _ _ _ _ _ _=>xh fun _=>rfl⟩
 have F6:=yb (st:=kN) l6 c6 k6
 have D6:zH K mg "rows_of" kN ["items"]:=⟨_,_,F6,PySem.W.mg_of X G a6,F6.binds fun _ _ _ _ _ _=>xh fun _=>rfl⟩
 have F7:=yb (st:=gk) l7 c7 k7
 have D7:zH K mg "label_places" gk ["items"]:=⟨_,_,F7,PySem.W.mg_of X G a7,F7.binds fun _ _ _ _ _ _=>xh fun _=>rfl⟩
 have F8:=yb (st:=gg) l8 c8 k8
 have D8:zH K mg "is_program" gg ["thing"]:=⟨_,_,F8,PySem.W.mg_of X G a8,F8.binds fun _ _ _ _ _ _=>xh fun _=>rfl⟩
 have F9:=yb (st:=kJ) l9 c9 k9
 have D9:zH K mg "place_of" kJ ["items", "name"]:=⟨_,_,F9,PySem.W.mg_of X G a9,F9.binds fun _ _ _ _ _ _=>uD fun _ _=>rfl⟩
 have F10:=yb (st:=kP) l10 c10 k10
 have D10:zH K mg "targets_of" kP ["items"]:=⟨_,_,F10,PySem.W.mg_of X G a10,F10.binds fun _ _ _ _ _ _=>xh fun _=>rfl⟩
 have F11:=yb (st:=kF) l11 c11 k11
 have D11:zH K mg "name_of" kF ["number"]:=⟨_,_,F11,PySem.W.mg_of X G a11,F11.binds fun _ _ _ _ _ _=>xh fun _=>rfl⟩
 have F12:=yb (st:=kG) l12 c12 k12
 have D12:zH K mg "names_of_places" kG ["targets"]:=⟨_,_,F12,PySem.W.mg_of X G a12,F12.binds fun _ _ _ _ _ _=>xh fun _=>rfl⟩
 have F13:=yb (st:=gm) l13 c13 k13
 have D13:zH K mg "labelled" gm ["rows", "targets"]:=⟨_,_,F13,PySem.W.mg_of X G a13,F13.binds fun _ _ _ _ _ _=>uD fun _ _=>rfl⟩
 have F14:=yb (st:=kK) l14 c14 k14
 have D14:zH K mg "plain" kK ["items"]:=⟨_,_,F14,PySem.W.mg_of X G a14,F14.binds fun _ _ _ _ _ _=>xh fun _=>rfl⟩
 have F15:=yb (st:=gT) l15 c15 k15
 have D15:zH K mg "field_text" gT ["field", "held"]:=⟨_,_,F15,PySem.W.mg_of X G a15,F15.binds fun _ _ _ _ _ _=>uD fun _ _=>rfl⟩
 have F16:=yb (st:=gi) l16 c16 k16
 have D16:zH K mg "item_text" gi ["item"]:=⟨_,_,F16,PySem.W.mg_of X G a16,F16.binds fun _ _ _ _ _ _=>xh fun _=>rfl⟩
 have F17:=yb (st:=kO) l17 c17 k17
 have D17:zH K mg "shown" kO ["items"]:=⟨_,_,F17,PySem.W.mg_of X G a17,F17.binds fun _ _ _ _ _ _=>xh fun _=>rfl⟩
 have F18:=yb (st:=kR) l18 c18 k18
 have D18:zH K mg "words_in" kR ["row"]:=⟨_,_,F18,PySem.W.mg_of X G a18,F18.binds fun _ _ _ _ _ _=>xh fun _=>rfl⟩
 have F19:=yb (st:=kH) l19 c19 k19
 have D19:zH K mg "number_told" kH ["word"]:=⟨_,_,F19,PySem.W.mg_of X G a19,F19.binds fun _ _ _ _ _ _=>xh fun _=>rfl⟩
 have F20:=yb (st:=gU) l20 c20 k20
 have D20:zH K mg "field_told" gU ["field", "word"]:=⟨_,_,F20,PySem.W.mg_of X G a20,F20.binds fun _ _ _ _ _ _=>uD fun _ _=>rfl⟩
 have F21:=yb (st:=kM) l21 c21 k21
 have D21:zH K mg "row_told" kM ["words"]:=⟨_,_,F21,PySem.W.mg_of X G a21,F21.binds fun _ _ _ _ _ _=>xh fun _=>rfl⟩
 have F22:=yb (st:=gj) l22 c22 k22
 have D22:zH K mg "item_told" gj ["words"]:=⟨_,_,F22,PySem.W.mg_of X G a22,F22.binds fun _ _ _ _ _ _=>xh fun _=>rfl⟩
 have F23:=yb (st:=kQ) l23 c23 k23
 have D23:zH K mg "told_rows" kQ ["text"]:=⟨_,_,F23,PySem.W.mg_of X G a23,F23.binds fun _ _ _ _ _ _=>xh fun _=>rfl⟩
 have F24:=yb (st:=kE) l24 c24 k24
 have D24:zH K mg "least_fault" kE ["told"]:=⟨_,_,F24,PySem.W.mg_of X G a24,F24.binds fun _ _ _ _ _ _=>xh fun _=>rfl⟩
 have F25:=yb (st:=gS) l25 c25 k25
 have D25:zH K mg "fault" gS ["text"]:=⟨_,_,F25,PySem.W.mg_of X G a25,F25.binds fun _ _ _ _ _ _=>xh fun _=>rfl⟩
 have F26:=yb (st:=kL) l26 c26 k26
 have D26:zH K mg "read" kL ["text"]:=⟨_,_,F26,PySem.W.mg_of X G a26,F26.binds fun _ _ _ _ _ _=>xh fun _=>rfl⟩
 have F27:=yb (st:=gt) l27 c27 k27
 have D27:zH K mg "_law_cell_at" gt ["_law_script", "_law_k"]:=⟨_,_,F27,PySem.W.mg_of X G a27,F27.binds fun _ _ _ _ _ _=>uD fun _ _=>rfl⟩
 have F28:=yb (st:=kC) l28 c28 k28
 have D28:zH K mg "_law_whole" kC ["_law_found"]:=⟨_,_,F28,PySem.W.mg_of X G a28,F28.binds fun _ _ _ _ _ _=>xh fun _=>rfl⟩
 have F29:=yb (st:=gx) l29 c29 k29
 have D29:zH K mg "_law_mixed" gx ["_law_cell", "_law_k", "_law_many"]:=⟨_,_,F29,PySem.W.mg_of X G a29,F29.binds fun _ _ _ _ _ _=>Vb fun _ _ _=>rfl⟩
 have F30:=yb (st:=gu) l30 c30 k30
 have D30:zH K mg "_law_letter" gu ["_law_k"]:=⟨_,_,F30,PySem.W.mg_of X G a30,F30.binds fun _ _ _ _ _ _=>xh fun _=>rfl⟩
 have F31:=yb (st:=gy) l31 c31 k31
 have D31:zH K mg "_law_names" gy ["_law_cell", "_law_many"]:=⟨_,_,F31,PySem.W.mg_of X G a31,F31.binds fun _ _ _ _ _ _=>uD fun _ _=>rfl⟩
 have F32:=yb (st:=kB) l32 c32 k32
 have D32:zH K mg "_law_shape" kB ["_law_word"]:=⟨_,_,F32,PySem.W.mg_of X G a32,F32.binds fun _ _ _ _ _ _=>xh fun _=>rfl⟩
 have F33:=yb (st:=kD) l33 c33 k33
 have D33:zH K mg "_law_words" kD []:=⟨_,_,F33,PySem.W.mg_of X G a33,F33.binds fun _ _ _ _ _ _=>ID rfl⟩
 have F34:=yb (st:=gz) l34 c34 k34
 have D34:zH K mg "_law_part_by" gz ["_law_kind", "_law_cell", "_law_k", "_law_names_here"]:=⟨_,_,F34,PySem.W.mg_of X G a34,F34.binds fun _ _ _ _ _ _=>HN fun _ _ _ _=>rfl⟩
 have F35:=yb (st:=kA) l35 c35 k35
 have D35:zH K mg "_law_row_by" kA ["_law_cell", "_law_names_here"]:=⟨_,_,F35,PySem.W.mg_of X G a35,F35.binds fun _ _ _ _ _ _=>uD fun _ _=>rfl⟩
 have F36:=yb (st:=g_) l36 c36 k36
 have D36:zH K mg "_law_program" g_ ["_law_script", "_law_first"]:=⟨_,_,F36,PySem.W.mg_of X G a36,F36.binds fun _ _ _ _ _ _=>uD fun _ _=>rfl⟩
 have F37:=yb (st:=qL) l37 c37 k37
 have D37:zH K mg "_law_alike" qL ["_law_found", "_law_due"]:=⟨_,_,F37,PySem.W.mg_of X G a37,F37.binds fun _ _ _ _ _ _=>uD fun _ _=>rfl⟩
 have F38:=yb (st:=gr) l38 c38 k38
 have D38:zH K mg "_law_back" gr ["_law_items"]:=⟨_,_,F38,PySem.W.mg_of X G a38,F38.binds fun _ _ _ _ _ _=>xh fun _=>rfl⟩
 have F39:=yb (st:=p6) l39 c39 k39
 refine ⟨PySem.W.fnOf "law" "law" (pW p6) (uN p6) (zw p6) .none kV39 dc39 pm39 an39 cd39 ct39,fun s v=>.of_eq rfl,fun base _ _=>?_⟩
 have h_is_number:=BH (P:=l.prog) (w:=w) (base:=base) D0 z_isinstance z_int z_bool
 have h_is_name:=BF (P:=l.prog) (w:=w) (base:=base) D1 z_isinstance z_str z_len z_all g_NAME_LONGEST q_NAME_LONGEST g_LETTERS q_LETTERS
 have h_fits:=B8 (P:=l.prog) (w:=w) (base:=base) D2 g_MARKS q_MARKS g_NUMBER_WIDTHS q_NUMBER_WIDTHS g_PLACES q_PLACES h_is_name h_is_number
 have h_is_item:=BC (P:=l.prog) (w:=w) (base:=base) D3 z_len z_isinstance z_tuple z_str z_all z_zip g_FIELDS q_FIELDS h_fits
 have h_is_label:=BE (P:=l.prog) (w:=w) (base:=base) D4 
 have h_is_jump:=BD (P:=l.prog) (w:=w) (base:=base) D5 g_JUMPS q_JUMPS
 have h_rows_of:=Bo (P:=l.prog) (w:=w) (base:=base) D6 h_is_label
 have h_label_places:=BL (P:=l.prog) (w:=w) (base:=base) D7 h_is_label
 have h_is_program:=BI (P:=l.prog) (w:=w) (base:=base) D8 z_all z_isinstance z_list z_len z_set h_is_item h_is_label h_label_places h_is_jump
 have h_place_of:=Bj (P:=l.prog) (w:=w) (base:=base) D9 h_label_places
 have h_targets_of:=Bs (P:=l.prog) (w:=w) (base:=base) D10 h_label_places h_rows_of h_is_jump
 have h_name_of:=Bf (P:=l.prog) (w:=w) (base:=base) D11 z_len g_LETTERS q_LETTERS
 have h_names_of_places:=Bg (P:=l.prog) (w:=w) (base:=base) D12 z_sorted z_set z_dict z_enumerate h_name_of
 have h_labelled:=BM (P:=l.prog) (w:=w) (base:=base) D13 z_enumerate z_len h_names_of_places
 have h_plain:=Bk (P:=l.prog) (w:=w) (base:=base) D14 h_rows_of h_is_jump h_labelled h_targets_of
 have h_field_text:=B6 (P:=l.prog) (w:=w) (base:=base) D15 z_str
 have h_item_text:=BJ (P:=l.prog) (w:=w) (base:=base) D16 z_zip g_FIELDS q_FIELDS h_is_label h_field_text
 have h_shown:=Bq (P:=l.prog) (w:=w) (base:=base) D17 h_item_text
 have h_words_in:=Bu (P:=l.prog) (w:=w) (base:=base) D18 
 have h_number_told:=Bi (P:=l.prog) (w:=w) (base:=base) D19 z_len z_all z_int g_FIGURES_MOST q_FIGURES_MOST g_FIGURES q_FIGURES
 have h_field_told:=B7 (P:=l.prog) (w:=w) (base:=base) D20 h_number_told
 have h_row_told:=Bn (P:=l.prog) (w:=w) (base:=base) D21 z_len z_tuple z_zip g_FIELDS q_FIELDS h_field_told
 have h_item_told:=BK (P:=l.prog) (w:=w) (base:=base) D22 z_len h_row_told h_is_item
 have h_told_rows:=Bt (P:=l.prog) (w:=w) (base:=base) D23 z_enumerate h_words_in h_item_told
 have h_least_fault:=Bd (P:=l.prog) (w:=w) (base:=base) D24 h_is_label h_is_jump
 have h_fault:=B5 (P:=l.prog) (w:=w) (base:=base) D25 h_least_fault h_told_rows
 have h_read:=Bm (P:=l.prog) (w:=w) (base:=base) D26 h_told_rows h_least_fault
 have h_law_cell_at:=BT (P:=l.prog) (w:=w) (base:=base) D27 z_len
 have h_law_whole:=Bb (P:=l.prog) (w:=w) (base:=base) D28 z_isinstance z_bool z_int
 have h_law_mixed:=BV (P:=l.prog) (w:=w) (base:=base) D29 
 have h_law_letter:=BU (P:=l.prog) (w:=w) (base:=base) D30 
 have h_law_names:=BW (P:=l.prog) (w:=w) (base:=base) D31 z_range h_law_mixed h_law_letter
 have h_law_shape:=Ba (P:=l.prog) (w:=w) (base:=base) D32 
 have h_law_words:=Bc (P:=l.prog) (w:=w) (base:=base) D33 
 have h_law_part_by:=BX (P:=l.prog) (w:=w) (base:=base) D34 z_len h_law_mixed
 have h_law_row_by:=BZ (P:=l.prog) (w:=w) (base:=base) D35 z_len z_tuple z_range h_law_mixed h_law_words h_law_shape h_law_part_by
 have h_law_program:=BY (P:=l.prog) (w:=w) (base:=base) D36 z_range z_len h_law_cell_at h_law_mixed h_law_names h_law_row_by
 have r0_law_alike:=BO (P:=l.prog) (w:=w) (base:=base) D37
 have r1_law_alike:=BP (P:=l.prog) (w:=w) (base:=base) D37 z_isinstance z_tuple z_list z_all z_range z_len z_str h_law_whole r0_law_alike
 have r2_law_alike:=BQ (P:=l.prog) (w:=w) (base:=base) D37 z_isinstance z_tuple z_list z_all z_range z_len z_str h_law_whole r1_law_alike
 have h_law_alike:=BR (P:=l.prog) (w:=w) (base:=base) D37 z_isinstance z_tuple z_list z_all z_range z_len z_str h_law_whole r2_law_alike
 have h_law_back:=BS (P:=l.prog) (w:=w) (base:=base) D38 z_all h_shown h_fault h_read h_is_program h_law_alike h_place_of
 exact BN F39 z_list z_len z_sorted z_set h_law_program h_law_cell_at h_plain h_law_back h_shown h_rows_of h_place_of
theorem walk {l:PySem.W.OpenLaw} {q:Program} {loose:List Str} {XP:(Str->Option Value)->Heap->Prop} {YP:World->Heap->Prop} {d:DefRec} {K:Params->PySem.W.Frag} (hn:l.most=some 63) (hdf:d.params.defaults=[])
  (hY:∀ (w:World) (h:Heap),YP w h->(K w.params).In h)
  (F:∀ (w:World) (mg:Str->Option Value) (fa:Addr) (h:Heap),(K w.params).In h->h.Ns mainGlobals mg->mg d.name=some (.ref fa)->
   ∃ fd:FuncData,(∀ (s:Shared) (u:Value),BindsTo s fd ⟨[u],[]⟩ [("_law_script",u)])/\∀ base:Heap,(K w.params).In base->base.Ns mainGlobals mg->vZ l.prog w (K w.params) mg base vY 8 fa fd ["_law_script"] (kn (K w.params))) :
  PySem.W.WalkO q loose XP YP l.row.toRowW d [] (fun f vs=>PySem.call f vs):=
 L3.walkB (n:=63) (k:=8) (x := "_law_script") (sp:=kn) hn (by decide) hdf ⟨rfl,by decide,by decide,rfl⟩ hY F fun _ _ a ns hl hb hS=>⟨a,ns,rfl,hS,hl,hb,fun _=>rfl⟩
end My
namespace PySem.W.Fast
noncomputable def tw15634691331304917542:=0
noncomputable def tw12980032245344059568:=0
noncomputable def tw13732353601544456875:=0
noncomputable def tw12014012674813549903:=0
noncomputable def tw12334481652423611394:=0
noncomputable def tw4788931160440738801:=0
noncomputable def tw11113808171051829381:=0
noncomputable def tw8061770398998117867:=0
noncomputable def tw17764892821549803902:=0
noncomputable def tw3008648423927296589:=0
noncomputable def tw10598042133666538484:=0
noncomputable def tw2081311229099146408:=0
noncomputable def tw18182492415766160998:=0
noncomputable def tw4363783117934506394:=0
noncomputable def tw6707615630452928818:=0
noncomputable def tw12115471136221908391:=0
noncomputable def tw15906652831928190097:=0
noncomputable def tw18178723066984338500:=0
noncomputable def tw15160866827251161553:=0
noncomputable def tw17094836857993924858:=0
noncomputable def tw16871899852923262525:=0
noncomputable def tw581343459203226846:=0
noncomputable def tw5557252812059448307:=0
noncomputable def tw3627625358378324121:=0
noncomputable def tw10205262449859646775:=0
noncomputable def tw3445772390848295312:=0
noncomputable def tw15549181407922186251:=0
noncomputable def tw17772533086857710042:=0
noncomputable def tw14405838367862964999:=0
noncomputable def tw17628096218521657625:=0
noncomputable def tw12773616395168474563:=0
noncomputable def tw16429839261867180190:=0
noncomputable def tw11280217163565222427:=0
noncomputable def tw11205225985973658689:=0
noncomputable def tw12280949802894436946:=0
noncomputable def tw4284214196475589496:=0
noncomputable def tw3769497241095214305:=0
noncomputable def tw5255616832500589794:=0
noncomputable def tw15547479578452752401:=0
noncomputable def tw7634525337416666151:=0
noncomputable def tw1585929796421603079:=0
noncomputable def tw8752361339838109867:=0
noncomputable def tw10362244521908744283:=0
noncomputable def tw12062401847527765290:=0
noncomputable def tw5552155040359124309:=0
noncomputable def tw12653253536656186601:=0
noncomputable def tw7866374493745395855:=0
noncomputable def tw7797392792945221861:=0
noncomputable def tw9027247767793071020:=0
noncomputable def tw11833099164906631923:=0
noncomputable def tw12382412835241653562:=0
noncomputable def tw4449123802319708484:=0
noncomputable def tw15471097915297329563:=0
noncomputable def tw3181698111965956813:=0
noncomputable def tw4941501071620999218:=0
noncomputable def tw4643034886719925449:=0
noncomputable def tw18179940306301282876:=0
noncomputable def tw13190975251062236441:=0
noncomputable def tw3014497554078114363:=0
noncomputable def tw14046952400962976378:=0
noncomputable def tw5374700797779331187:=0
noncomputable def tw15679744041063612409:=0
noncomputable def tw11372937668901578792:=0
noncomputable def tw12992985639385731945:=0
noncomputable def tw16343465916209398440:=0
noncomputable def tw4168291367639112147:=0
noncomputable def tw15761419083718997402:=0
noncomputable def tw8631726335694602194:=0
noncomputable def tw16574190991775018224:=0
noncomputable def tw1365955862210603916:=0
noncomputable def tw445819711272076882:=0
noncomputable def tw5805209429401018535:=0
noncomputable def tw17236811221629179335:=0
noncomputable def tw8171706006817590505:=0
noncomputable def tw8776754572843065997:=0
noncomputable def tw11709941477353778363:=0
noncomputable def tw718727589970475056:=0
noncomputable def tw7626404915646954695:=0
noncomputable def tw2171100737210502077:=0
noncomputable def tw5868689939385112721:=0
noncomputable def tw6928616228809728712:=0
noncomputable def tw5652417406121294874:=0
noncomputable def tw8922712140487290957:=0
noncomputable def tw15359622373093542599:=0
noncomputable def tw5337516123790440950:=0
noncomputable def tw6039639648874710606:=0
noncomputable def tw10052386719923118984:=0
noncomputable def tw12643003690450319522:=0
noncomputable def tw3300171320398548885:=0
noncomputable def tw10455833731719358410:=0
noncomputable def tw11218385995451520690:=0
noncomputable def tw12501326986255313921:=0
noncomputable def tw15198244906842676635:=0
noncomputable def tw2047890145342863191:=0
noncomputable def tw9479852855453585306:=0
end PySem.W.Fast
open PySem PySem.W PyProof.Rows
set_option maxRecDepth 100000 in
set_option maxHeartbeats 0 in
theorem PySem.Challenge.cw_markrun_k17_whole_read_back_holds : PySem.Challenge.rw_markrun_k17_whole_read_back.Holds := by
 w_on; o_law; k_head; (case hw=>w_witness2)
 k_fill
 refine My.walk (l:=PySem.Challenge.rw_markrun_k17_whole_read_back) rfl rfl (fun w h Y=>PySem.W.kIn_of Y) ?F
 case F=>
  intro w mg fa h KX G hmg
  refine' My.all_mk KX G hmg ?a0 ?l0 ?c0 ?k0 ?a1 ?l1 ?c1 ?k1 ?a2 ?l2 ?c2 ?k2 ?a3 ?l3 ?c3 ?k3 ?a4 ?l4 ?c4 ?k4 ?a5 ?l5 ?c5 ?k5 ?a6 ?l6 ?c6 ?k6 ?a7 ?l7 ?c7 ?k7 ?a8 ?l8 ?c8 ?k8 ?a9 ?l9 ?c9 ?k9 ?a10 ?l10 ?c10 ?k10 ?a11 ?l11 ?c11 ?k11 ?a12 ?l12 ?c12 ?k12 ?a13 ?l13 ?c13 ?k13 ?a14 ?l14 ?c14 ?k14 ?a15 ?l15 ?c15 ?k15 ?a16 ?l16 ?c16 ?k16 ?a17 ?l17 ?c17 ?k17 ?a18 ?l18 ?c18 ?k18 ?a19 ?l19 ?c19 ?k19 ?a20 ?l20 ?c20 ?k20 ?a21 ?l21 ?c21 ?k21 ?a22 ?l22 ?c22 ?k22 ?a23 ?l23 ?c23 ?k23 ?a24 ?l24 ?c24 ?k24 ?a25 ?l25 ?c25 ?k25 ?a26 ?l26 ?c26 ?k26 ?a27 ?l27 ?c27 ?k27 ?a28 ?l28 ?c28 ?k28 ?a29 ?l29 ?c29 ?k29 ?a30 ?l30 ?c30 ?k30 ?a31 ?l31 ?c31 ?k31 ?a32 ?l32 ?c32 ?k32 ?a33 ?l33 ?c33 ?k33 ?a34 ?l34 ?c34 ?k34 ?a35 ?l35 ?c35 ?k35 ?a36 ?l36 ?c36 ?k36 ?a37 ?l37 ?c37 ?k37 ?a38 ?l38 ?c38 ?k38 ?a39 ?l39 ?c39 ?k39 ?nz_isinstance ?nz_int ?nz_bool ?nz_str ?nz_len ?nz_all ?nz_tuple ?nz_zip ?nz_list ?nz_set ?nz_sorted ?nz_dict ?nz_enumerate ?nz_range ?ng_NAME_LONGEST ?ng_LETTERS ?ng_MARKS ?nq_MARKS ?ng_NUMBER_WIDTHS ?nq_NUMBER_WIDTHS ?ns_NUMBER_WIDTHS ?ng_PLACES ?nt0_PLACES ?nt1_PLACES ?nt2_PLACES ?nt3_PLACES ?nt4_PLACES ?nq_PLACES ?ns_PLACES ?ng_FIELDS ?nt0_FIELDS ?nt1_FIELDS ?nt2_FIELDS ?nt3_FIELDS ?nt4_FIELDS ?nt5_FIELDS ?nt6_FIELDS ?nt7_FIELDS ?nt8_FIELDS ?nt9_FIELDS ?nt10_FIELDS ?nt11_FIELDS ?nt12_FIELDS ?nt13_FIELDS ?nt14_FIELDS ?nt15_FIELDS ?nt16_FIELDS ?nt17_FIELDS ?nt18_FIELDS ?nt19_FIELDS ?nt20_FIELDS ?nt21_FIELDS ?nq_FIELDS ?ns_FIELDS ?ng_JUMPS ?nq_JUMPS ?ng_FIGURES_MOST ?ng_FIGURES
  all_goals try (first | k_is | k_exc | kit_is | kts_exm)
  all_goals decide
