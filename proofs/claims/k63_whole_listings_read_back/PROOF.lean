import PyProof.Rows.All
import Wide.All
import OpenK.AllK
import Wide.FinOn
import Lean
import PyProof.EqAt
import PyProof.EqKinds
import PyProof.TupleCall
import PySem.Challenge.RW_markrun_k63_whole_listings_read_back
set_option compiler.extract_closed false
set_option Elab.async false
set_option linter.all false
set_option maxRecDepth 100000
noncomputable def BR:=@Array.append_assoc
noncomputable def BS:=@Array.append_empty
noncomputable def BT:=@Array.getElem?_eq_none
noncomputable def KP:=@Array.getElem?_toList
noncomputable def uq:=@Array.length_toList
noncomputable def Qs:=@Array.size_append
noncomputable def Wm:=@Array.toList_append
noncomputable def xS:=@Bool.and_eq_true
noncomputable def Wn:=@Bool.and_false
noncomputable def Qt:=@Bool.and_self
noncomputable def Qu:=@Bool.and_true
noncomputable def Wo:=@Bool.eq_iff_iff
noncomputable def u4:=@Bool.false_and
noncomputable def tm:=@Bool.false_eq_true
noncomputable def xf:=@Bool.false_ne_true
noncomputable def BU:=@Bool.false_or
noncomputable def BV:=@Bool.not_false
noncomputable def BW:=@Bool.not_true
noncomputable def pZ:=@Bool.true_and
noncomputable def KQ:=@PySem.Calls.Name_function_global
noncomputable def Qv:=@PySem.Calls.callWith_builtin
noncomputable def BX:=@PySem.F.args_str_split_2
noncomputable def KR:=@PySem.F.args_tuple_iterator_next_1
noncomputable def BY:=@PySem.F.entry_str_split
noncomputable def KS:=@PySem.F.entry_tuple_iterator_next
noncomputable def Qw:=@PySem.F.slot_str_join
noncomputable def BZ:=@PySem.F.slot_str_split
noncomputable def Qx:=@PySem.F.slot_tuple_iterator_next
noncomputable def Qy:=@PySem.F.slot_zip_next
noncomputable def yx:=@PySem.Heap.get?_push_of_some
noncomputable def wG:=@PySem.Heap.get?_push_size
noncomputable def ZV:=@PySem.Heap.get?_update_other
noncomputable def Wp:=@PySem.Heap.get?_update_self
noncomputable def yh:=@PySem.Heap.lt_size
noncomputable def Yr:=@PySem.Heap.size_push
noncomputable def qh:=@Int.add_zero
noncomputable def KU:=@Int.ediv_ediv_of_nonneg
noncomputable def tq:=@Int.ediv_one
noncomputable def Ba:=@Int.emod_lt_of_pos
noncomputable def Bb:=@Int.emod_nonneg
noncomputable def jS:=@Int.eq_ofNat_of_zero_le
noncomputable def KW:=@Int.fdiv_eq_ediv_of_nonneg
noncomputable def ZW:=@Int.le_of_lt
noncomputable def Qz:=@Int.le_refl
noncomputable def Bc:=@Int.le_trans
noncomputable def KY:=@Int.mul_ediv_add_emod
noncomputable def KZ:=@Int.mul_emod_right
noncomputable def Bd:=@Int.mul_one
noncomputable def Wq:=@Int.natCast_nonneg
noncomputable def Be:=@Int.ne_of_gt
noncomputable def Bf:=@Int.ofNat_zero
noncomputable def Ws:=@Int.pow_pos
noncomputable def Bg:=@Int.sub_zero
noncomputable def wH:=@Int.toNat_natCast
noncomputable def Bh:=@List.Perm.refl
noncomputable def wp:=@List.all_cons
noncomputable def u5:=@List.all_eq_true
noncomputable def Ys:=@List.any_cons
noncomputable def Q_:=@List.any_eq_true
noncomputable def tu:=@List.append_assoc
noncomputable def uP:=@List.append_nil
noncomputable def Bi:=@List.cons.injEq
noncomputable def pj:=@List.cons_append
noncomputable def Bj:=@List.drop_eq_getElem_cons
noncomputable def Bk:=@List.drop_eq_nil_of_le
noncomputable def J0:=@List.drop_zero
noncomputable def Bl:=@List.ext_getElem?
noncomputable def Bm:=@List.filterMap_cons
noncomputable def J1:=@List.filter_append
noncomputable def Yt:=@List.filter_cons_of_neg
noncomputable def gb:=@List.filter_cons_of_pos
noncomputable def Kb:=@List.filter_filter
noncomputable def J2:=@List.filter_map
noncomputable def Kc:=@List.filter_sublist
noncomputable def Yu:=@List.find?_cons
noncomputable def ZX:=@List.foldl_cons
noncomputable def Bn:=@List.forIn_cons
noncomputable def vF:=@List.getD_eq_getElem?_getD
noncomputable def ZY:=@List.getElem?_append_left
noncomputable def Bo:=@List.getElem?_append_right
noncomputable def Kd:=@List.getElem?_cons_succ
noncomputable def Ke:=@List.getElem?_cons_zero
noncomputable def yf:=@List.getElem?_eq_getElem
noncomputable def pp:=@List.getElem?_eq_none
noncomputable def xT:=@List.getElem?_eq_some_iff
noncomputable def wM:=@List.getElem?_map
noncomputable def J3:=@List.getElem?_range
noncomputable def Kf:=@List.getElem?_replicate
noncomputable def Bp:=@List.getElem?_set
noncomputable def Kg:=@List.getElem?_set_ne
noncomputable def Kh:=@List.getElem?_set_self
noncomputable def J4:=@List.getElem?_toArray
noncomputable def J5:=@List.getElem?_zipWith
noncomputable def uQ:=@List.getElem_mem
noncomputable def Ki:=@List.getElem_of_mem
noncomputable def xC:=@List.length_append
noncomputable def xg:=@List.length_cons
noncomputable def Yv:=@List.length_drop
noncomputable def Kj:=@List.length_filter_le
noncomputable def yK:=@List.length_map
noncomputable def gc:=@List.length_nil
noncomputable def Kk:=@List.length_pos_iff
noncomputable def pq:=@List.length_range
noncomputable def jT:=@List.length_replicate
noncomputable def ge:=@List.length_set
noncomputable def J6:=@List.length_singleton
noncomputable def qi:=@List.length_take
noncomputable def jU:=@List.length_zip
noncomputable def gg:=@List.length_zipWith
noncomputable def Bq:=@List.lookup_cons
noncomputable def vO:=@List.map_append
noncomputable def Kl:=@List.map_congr_left
noncomputable def xY:=@List.map_cons
noncomputable def J7:=@List.map_id
noncomputable def jV:=@List.map_map
noncomputable def qj:=@List.map_nil
noncomputable def wb:=@List.mem_append
noncomputable def Br:=@List.mem_append_left
noncomputable def ur:=@List.mem_append_right
noncomputable def xN:=@List.mem_cons
noncomputable def wN:=@List.mem_cons_of_mem
noncomputable def xh:=@List.mem_cons_self
noncomputable def qk:=@List.mem_filter
noncomputable def Km:=@List.mem_filterMap
noncomputable def v4:=@List.mem_map
noncomputable def tH:=@List.mem_of_getElem?
noncomputable def tz:=@List.mem_range
noncomputable def wO:=@List.mem_singleton
noncomputable def gi:=@List.nil_append
noncomputable def J8:=@List.nodup_cons
noncomputable def t_:=@List.not_mem_nil
noncomputable def Bs:=@List.of_mem_zip
noncomputable def Wt:=@List.pairwise_cons
noncomputable def Yw:=@List.range_succ
noncomputable def Ko:=@List.replicate_succ
noncomputable def Bt:=@List.replicate_zero
noncomputable def Kp:=@List.set_append_right
noncomputable def Kq:=@List.set_cons_succ
noncomputable def Kr:=@List.set_cons_zero
noncomputable def yo:=@List.size_toArray
noncomputable def Yx:=@List.sum_cons
noncomputable def Za:=@List.take_length
noncomputable def J9:=@List.take_of_length_le
noncomputable def JA:=@List.take_succ
noncomputable def Ks:=@List.take_succ_eq_append_getElem
noncomputable def ql:=@List.zipWith_cons_cons
noncomputable def py:=@List.zipWith_nil_left
noncomputable def Wu:=@List.zip_cons_cons
noncomputable def Kt:=@Nat.add_le_add_left
noncomputable def Ku:=@Nat.eq_of_testBit_eq
noncomputable def Wv:=@Nat.le_add_right
noncomputable def Zb:=@Nat.le_of_lt
noncomputable def y0:=@Nat.le_refl
noncomputable def JB:=@Nat.le_succ
noncomputable def xO:=@Nat.le_trans
noncomputable def v6:=@Nat.lt_irrefl
noncomputable def Bu:=@Nat.lt_of_le_of_lt
noncomputable def wW:=@Nat.lt_of_lt_of_le
noncomputable def Ww:=@Nat.lt_succ_self
noncomputable def qm:=@Nat.min_self
noncomputable def Yy:=@Nat.ne_of_gt
noncomputable def u7:=@Nat.ne_of_lt
noncomputable def Bv:=@Nat.not_lt
noncomputable def Bw:=@Nat.sub_add_cancel
noncomputable def JC:=@Nat.sub_zero
noncomputable def Kv:=@Nat.testBit_div_two_pow
noncomputable def Kw:=@Nat.testBit_mod_two_pow
noncomputable def Bx:=@Nat.testBit_mul_two_pow
noncomputable def wq:=@Nat.zero_add
noncomputable def qo:=@Nat.zero_le
noncomputable def qp:=@Ne.symm
noncomputable def Kx:=@Option.isSome_iff_exists
noncomputable def By:=@Option.isSome_map
noncomputable def vk:=@Option.some.inj
noncomputable def vP:=@PySem.PassesOwn.never
noncomputable def Ky:=@PyProof.Rows.bitAnd_pp
noncomputable def Wx:=@PyProof.Rows.callWith_type1
noncomputable def Yz:=@PyProof.Rows.slot_tuple_getitem
noncomputable def Bz:=@PySem.SeqAt.EqAt.same
noncomputable def JD:=@Sum.inl.inj
noncomputable def B_:=@Sum.inr.inj
noncomputable def JE:=@beq_eq_false_iff_ne
noncomputable def JF:=@beq_iff_eq
noncomputable def Y_:=@beq_self_eq_true
noncomputable def Zc:=@PySem.call_meets
noncomputable def D0:=@PySem.codeAny_call_builtin
noncomputable def D1:=@cond_false
noncomputable def Wy:=@cond_true
noncomputable def yV:=@decide_eq_false
noncomputable def yb:=@decide_eq_true
noncomputable def Wz:=@decide_false
noncomputable def W_:=@decide_true
noncomputable def X0:=@PySem.gives_joinTail
noncomputable def vZ:=@if_false
noncomputable def zV:=@if_neg
noncomputable def zP:=@if_pos
noncomputable def wc:=@if_true
noncomputable def D2:=@ne_true_of_eq_false
noncomputable def JG:=@of_decide_eq_false
noncomputable def wI:=@of_decide_eq_true
noncomputable def JH:=@PySem.plainId_quiet
noncomputable def xy:=@PySem.sizeLine_eq
noncomputable def JI:=@PyProof.Rows.subscriptTail_builtinR
noncomputable def D3:=@PySem.tupleKind_room_in1
noncomputable def jW:=@PySem.typeIs_str
noncomputable def V2:=@PySem.wpAny_Call_Name_kw
noncomputable def D4:=@PySem.wpAny_Call_method0_late
noncomputable def zR:=@PySem.wpAny_bind
noncomputable def JJ:=@PySem.wpAny_call
noncomputable def X1:=@PySem.wpAny_callSpecial?_slot
noncomputable def X2:=@PySem.wpAny_call_entry
noncomputable def Kz:=@PySem.wpAny_comprehension_free
noncomputable def D5:=@PySem.wpAny_execs_cons
noncomputable def JK:=@PySem.wpAny_execs_nil
noncomputable def uR:=@PySem.wpAny_field
noncomputable def Zd:=@PySem.wpAny_holding
noncomputable def Ze:=@PySem.wpAny_letGo
noncomputable def va:=@PySem.wpAny_mono
noncomputable def gj:=@PySem.wpAny_newObj_type
noncomputable def V3:=@PySem.wpAny_onRaise
noncomputable def Zf:=@PySem.wpAny_passesOwn
noncomputable def yW:=@PySem.wpAny_pure
noncomputable def D6:=@PySem.wpAny_pyIter_list
noncomputable def V4:=@PySem.wpAny_rule
noncomputable def qA:=@PySem.wpAny_seqItems
noncomputable def X3:=@PySem.wpAny_setField_rec
noncomputable def JL:=@PySem.wpAny_standAt
noncomputable def V5:=@PySem.wpAny_truthy_bool
noncomputable def V6:=@PySem.wpAny_tryCatch
noncomputable def V7:=@PySem.wpAny_typeOf
noncomputable def D7:=@PySem.wpAny_updateSeq
noncomputable def D8:=@PySem.wpAny_updateSeq_pair
namespace L2
open PySem PySem.Spec PyProof.Rows
noncomputable abbrev zb:=Sum Int Str
noncomputable def Z0:zb->Value->Bool
 |.inl k,v=>Value.isInt k v
 |.inr x,v=>Value.isStrOf x v
noncomputable def Su(w:World):zb->Int
 |.inl k=>hashInt k
 |.inr x=>hashStr w x
theorem pO:∀{k:zb}{v:Value},Z0 k v=true->(∃i t,k=Sum.inl i/\v=Value.int i t)\/(∃x t,k=Sum.inr x/\v=Value.str x t)
 |.inl i,v,h=>by
  obtain⟨t,e⟩:=Value.isInt_shape (k:=i) (v:=v) h;exact .inl ⟨i,t,rfl,e⟩
 |.inr x,v,h=>by
  obtain⟨t,e⟩:=Value.isStrOf_shape (x:=x) (v:=v) h;exact .inr ⟨x,t,rfl,e⟩
theorem Sv(i:Int)(t:Tok):Z0 (.inl i) (.int i t)=true:=by simp[Z0,Value.isInt]
theorem Sw(x:Str)(t:Tok):Z0 (.inr x) (.str x t)=true:=by simp[Z0,Value.isStrOf]
theorem Sx(a b:Int):decide ((Sum.inl a:zb)=Sum.inl b)=(a==b):=by
 by_cases e:a=b
 ·subst e; simp
 ·have h:¬ (Sum.inl a:zb)=Sum.inl b:=λq=>e (JD q)
  rw[yV h];exact(JE.mpr e).symm
theorem S_(a b:Str):decide ((Sum.inr a:zb)=Sum.inr b)=decide (a=b):=by
 by_cases e:a=b
 ·subst e; simp
 ·have h:¬ (Sum.inr a:zb)=Sum.inr b:=λq=>e (B_ q)
  rw[yV h,yV e]
theorem Sy(a:Int)(b:Str):decide ((Sum.inl a:zb)=Sum.inr b)=false:=yV (λq=>nomatch q)
theorem Sz(a:Str)(b:Int):decide ((Sum.inr a:zb)=Sum.inl b)=false:=yV (λq=>nomatch q)
noncomputable def xr(prog:Program)(w:World):PySem.KeyKind prog w zb where
 is:=Z0
 hash:=Su w
 inj:=λv a b ha hb=>by
  rcases pO ha with⟨i,t,rfl,rfl⟩|⟨x,t,rfl,rfl⟩
  ·rcases pO hb with⟨j,u,rfl,e⟩|⟨y,u,rfl,e⟩
   ·injection e with e1 _; rw[e1]
   ·exact nomatch e
  ·rcases pO hb with⟨j,u,rfl,e⟩|⟨y,u,rfl,e⟩
   ·exact nomatch e
   ·injection e with e1 _; rw[e1]
 byValue:=λk v h=>by
  rcases pO h with⟨i,t,rfl,rfl⟩|⟨x,t,rfl,rfl⟩<;>rfl
 pyHash:=λhv h=>by
  rcases pO hv with⟨i,t,rfl,rfl⟩|⟨x,t,rfl,rfl⟩
  ·exact wpAny_pyHash_int h
  ·exact wpAny_pyHash_str h
 eqBool:=λhu hv h=>by
  rcases pO hu with⟨i,t,rfl,rfl⟩|⟨x,t,rfl,rfl⟩
  ·rcases pO hv with⟨j,u,rfl,rfl⟩|⟨y,u,rfl,rfl⟩
   ·rw[Sx]at h; exact wpAny_eqBool_int h
   ·rw[Sy]at h; exact SeqAt.EqAt.int_str i t y u _ _ _ _ h
  ·rcases pO hv with⟨j,u,rfl,rfl⟩|⟨y,u,rfl,rfl⟩
   ·rw[Sz]at h; exact SeqAt.EqAt.str_int x t j u _ _ _ _ h
   ·rw[S_]at h; exact wpAny_eqBool_str h
 «strs»:=λk x t v h=>by
  rcases pO h with⟨i,u,rfl,e⟩|⟨y,u,rfl,e⟩
  ·exact nomatch e
  ·injection e with e1 _
   subst e1;cases v<;>rfl
theorem Ab(prog:Program)(w:World)(i:Int)(t:Tok):(xr prog w).is (.inl i) (.int i t)=true:=Sv i t
theorem LH(prog:Program)(w:World)(x:Str)(t:Tok):(xr prog w).is (.inr x) (.str x t)=true:=Sw x t
inductive V where
 |zD|bl (b:Bool)|int (i:Int)|str (x:Str)|byt (b:Array UInt8)|Zi (b:UInt64)|ref (a:Addr)|ty (n:String)
 deriving DecidableEq
noncomputable def yB:V->Value->Prop
 |.zD,u=>u=Value.none
 |.bl b,u=>u=Value.bool b
 |.int i,u=>∃t,u=Value.int i t
 |.str x,u=>∃t,u=Value.str x t
 |.byt b,u=>∃t,u=Value.bytes b t
 |.Zi b,u=>∃t,u=Value.float b t
 |.ref a,u=>u=Value.ref a
 |.ty n,u=>u=Value.type n
noncomputable abbrev zz:List V->List Value->Prop:=Paired yB
theorem zz.length{xs:List V}{us:List Value}(r:zz xs us):xs.length=us.length:=Paired.length r
theorem zz.get:∀{xs:List V}{us:List Value}{i:Nat}{x:V},zz xs us->xs[i]?=some x->∃u,us[i]?=some u/\yB x u
 |_,_,_,_,.nil,e=>by simp at e
 |_,_,0,_,.cons r _,e=>by simp at e; subst e; exact⟨_,rfl,r⟩
 |_,_,i+1,x,.cons _ t,e=>by
  obtain⟨u,h1,h2⟩:=zz.get (i:=i) (x:=x) t (by simpa using e);exact⟨u,by simpa using h1,h2⟩
theorem zz.set{x:V}{u:Value}(r:yB x u):∀{xs:List V}{us:List Value}(i:Nat),zz xs us->zz (xs.set i x) (us.set i u)
 |_,_,_,.nil=>.nil
 |_,_,0,.cons _ t=>.cons r t
 |_,_,i+1,.cons q t=>.cons q (zz.set r i t)
theorem zz.append:∀{xs ys:List V}{us ws:List Value},zz xs us->zz ys ws->zz (xs++ys) (us++ws)
 |_,_,_,_,.nil,s=>s
 |_,_,_,_,.cons r t,s=>.cons r (zz.append t s)
theorem zz.take:∀{xs:List V}{us:List Value}(n:Nat),zz xs us->zz (xs.take n) (us.take n)
 |_,_,0,_=>.nil
 |_,_,_+1,.nil=>.nil
 |_,_,n+1,.cons r t=>.cons r (zz.take n t)
theorem zz.drop:∀{xs:List V}{us:List Value}(n:Nat),zz xs us->zz (xs.drop n) (us.drop n)
 |_,_,0,r=>r
 |_,_,_+1,.nil=>.nil
 |_,_,n+1,.cons _ t=>zz.drop n t
noncomputable def qH:Option V->Option Value->Prop
 |some v,some u=>yB v u
 |none,none=>True
 |_,_=>False
noncomputable def KV{κ:Type}:List (κ×V)->List (κ×Value)->Prop:=Paired λ(p:κ×V) (q:κ×Value)=>p.1=q.1/\yB p.2 q.2
noncomputable def kV:zb->V
 |.inl i=>.int i
 |.inr x=>.str x
inductive HO where
  |lst (xs:List V)
  |tup (xs:List V)
  |dK (kvs:List (zb×V))|dT (kvs:List (List zb×V))
  |set (S:Int->Bool) (n:Nat)
  |ins (C dx:Addr) (fs:List (Str×V))
  |own (x:Addr)
  |xd (fs:List (Str×V))
  |met (f x:Addr)
  |rng (lo hi:Int)
  |yI (o:Obj) (u:HO)
  |tbl (ps:Array Value)
  |ext (φ:Heap->Prop)
noncomputable abbrev Hp:=Addr->Option HO
noncomputable def zc(H:Hp)(a:Addr)(o:HO):Hp:=λb=>if b=a then some o else H b
theorem yr{H:Hp}{a:Addr}{o:HO}:zc H a o a=some o:=by unfold zc; rw[zP rfl]
theorem yE{H:Hp}{a b:Addr}{o:HO}(h:b≠a):zc H a o b=H b:=by unfold zc; rw[zV h]
theorem aZ{H:Hp}{a b:Addr}{o u:HO}(h:H a=some o)(h':H b=some u)(d:o≠u):a≠b:=by
 intro e; subst e; rw[h]at h'; exact d (vk h')
theorem uI{H:Hp}{a b:Addr}{o:HO}(h:H a=some o)(h':H b=none):a≠b:=by
 intro e; subst e; rw[h]at h'; cases h'
section
variable(P:Program)(w:World)
noncomputable def xD(H:Hp)(h:Heap)(a:Addr):HO->Prop
 |.lst xs=>xs.length<=sizeLine/\∃(its:List Value) (n:Nat),zz xs its/\h.get? a=some { cls:=.type "list",data:=.seq its.toArray n }
 |.tup xs=>xs.length<=sizeLine/\∃its:List Value,zz xs its/\IsTup h a its.toArray
 |.dK kvs=>kvs.length<=sizeLine/\(a==sysModules)=false/\∃vs,KV kvs vs/\h.DictOf (xr P w) a vs
 |.dT kvs=>kvs.length<=sizeLine/\(a==sysModules)=false/\∃xs:List (List zb×Addr×Value),
   Paired (λ(p:List zb×V) (q:List zb×Addr×Value)=>p.1=q.1/\H q.2.1=some (.tup (p.1.map kV))/\yB p.2 q.2.2) kvs xs/\
   ∃o es ep,h.get? a=some o/\o.ExactDict/\o.data=.dict es ep/\es.toList=xs.map (entryOfKey (tupleKind (xr P w)))/\(xs.map (·.1)).Nodup
 |.set S n=>h.SetOf (intKind P w) a S n
 |.ins C dx fs=>H dx=some (.own a)/\fs.length<=1000/\dx≠a/\h.get? a=some (W.instObj C dx)/\
   ∃mA,h.Ns1 dx mA/\(∀f,qH (fs.lookup f) (mA f))/\PySem.Within mA (fs.map (·.1))
 |.own _=>∃o,h.get? a=some o
 |.xd fs=>∃mA,h.Ns1 a mA/\∀f,qH (fs.lookup f) (mA f)
 |.rng lo hi=>∃t u v,h.get? a=some { cls:=.type "range",data:=.fields #[.int lo t,.int hi u,.int 1 v] }
 |.yI o u=>h.get? a=some o/\xD H h a u
 |.tbl ps=>h.get? a=some { cls:=.none,data:=.fields ps }
 |.met f x=>h.get? a=some (W.methodObj (.ref f) (.ref x))
 |.ext φ=>φ h/\(∃o,h.get? a=some o)/\∀h1 h2:Heap,φ h1->(∀o,h1.get? a=some o->h2.get? a=some o)->φ h2
noncomputable def xQ(H:Hp)(h:Heap):Prop:=∀a o,H a=some o->xD P w H h a o
end
section
variable{P:Program}{w:World}{H H':Hp}{h h':Heap}{a:Addr}{o:HO}
theorem xD.lt(x:xD P w H h a o):a<h.objs.size:=by
 cases o with
 |lst xs=>obtain⟨_,_,_,_,e⟩:=x; exact yh e
 |tup xs=>obtain⟨_,_,_,p⟩:=x; exact p.lt
 |dK kvs=>obtain⟨_,_,_,_,o,_,_,e,_⟩:=x; exact yh e
 |dT kvs=>obtain⟨_,_,_,_,o,_,_,e,_⟩:=x; exact yh e
 |set S n=>obtain⟨o,_,_,_,e,_⟩:=x; exact yh e
 |ins C dx fs=>obtain⟨_,_,_,e,_⟩:=x; exact yh e
 |own y=>obtain⟨_,e⟩:=x; exact yh e
 |xd fs=>obtain⟨_,⟨_,_,_,e,_⟩,_⟩:=x; exact yh e
 |rng lo hi=>obtain⟨_,_,_,e⟩:=x; exact yh e
 |yI ob u=>obtain⟨e,_⟩:=x; exact yh e
 |tbl ps=>exact yh (show h.get? a=some _ from x)
 |met f y=>exact yh (show h.get? a=some _ from x)
 |ext φ=>obtain⟨_,⟨_,e⟩,_⟩:=x; exact yh e
theorem Paired.JQ{α β:Type}{F G:α->β->Prop}:∀{l₁:List α}{l₂:List β},Paired F l₁ l₂->(∀a b,F a b->G a b)->Paired G l₁ l₂
 |_,_,.nil,_=>.nil
 |_,_,.cons r t,f=>.cons (f _ _ r) (Paired.JQ t f)
theorem xD.jX(x:xD P w H h a o)(k:∀b u,(b=a\/H b=some (.own a))->h.get? b=some u->h'.get? b=some u)
  (ho:∀b,H b=some (.own a)->H' b=some (.own a))(ht:∀b xs,H b=some (.tup xs)->H' b=some (.tup xs)):xD P w H' h' a o:=by
 induction o with
 |lst xs=>obtain⟨z,its,n,r,e⟩:=x; exact⟨z,its,n,r,k _ _ (.inl rfl) e⟩
 |tup xs=>obtain⟨z,its,r,ob,e,c⟩:=x; exact⟨z,its,r,ob,k _ _ (.inl rfl) e,c⟩
 |dK kvs=>obtain⟨z,y,vs,r,ob,es,ep,e,c⟩:=x; exact⟨z,y,vs,r,ob,es,ep,k _ _ (.inl rfl) e,c⟩
 |dT kvs=>
  obtain⟨z,y,xs,r,ob,es,ep,e,c⟩:=x;exact⟨z,y,xs,Paired.JQ r λp q z=>⟨z.1,ht _ _ z.2.1,z.2.2⟩,ob,es,ep,k _ _ (.inl rfl) e,c⟩
 |set S n=>obtain⟨ob,es,ep,t,e,c⟩:=x; exact⟨ob,es,ep,t,k _ _ (.inl rfl) e,c⟩
 |ins C dx fs=>
  obtain⟨d,z,ne,e,mA,⟨od,es,ep,e2,c⟩,r⟩:=x;exact⟨ho _ d,z,ne,k _ _ (.inl rfl) e,mA,⟨od,es,ep,k _ _ (.inr d) e2,c⟩,r⟩
 |own y=>obtain⟨ob,e⟩:=x; exact⟨ob,k _ _ (.inl rfl) e⟩
 |xd fs=>obtain⟨mA,⟨od,es,ep,e,c⟩,r⟩:=x; exact⟨mA,⟨od,es,ep,k _ _ (.inl rfl) e,c⟩,r⟩
 |rng lo hi=>obtain⟨t,u,v,e⟩:=x; exact⟨t,u,v,k _ _ (.inl rfl) e⟩
 |yI ob u ih=>obtain⟨e,q⟩:=x; exact⟨k _ _ (.inl rfl) e,ih q⟩
 |tbl ps=>
  have e:h.get? a=some { cls:=.none,data:=.fields ps }:=x;show h'.get? a=some { cls:=.none,data:=.fields ps };exact k a _ (.inl rfl) e
 |met f y=>
  have e:h.get? a=some (W.methodObj (.ref f) (.ref y)):=x;show h'.get? a=some (W.methodObj (.ref f) (.ref y));exact k a _ (.inl rfl) e
 |ext φ=>obtain⟨p,⟨o,e⟩,st⟩:=x; exact⟨st _ _ p λo q=>k _ _ (.inl rfl) q,⟨o,k _ _ (.inl rfl) e⟩,st⟩
theorem xQ.lt(x:xQ P w H h)(e:H a=some o):a<h.objs.size:=(x a o e).lt
theorem xQ.fresh(x:xQ P w H h)(e:h.objs.size<=a):H a=none:=by
 cases q:H a with
 |none=>rfl
 |some u=>exact absurd (wW (x.lt q) e) (v6 _)
theorem xQ.kept(x:xQ P w H h)(k:∀b u,h.get? b=some u->h'.get? b=some u):xQ P w H h':=λa o e=>
 (x a o e).jX (λb u _ q=>k b u q) (λ_ q=>q) λ_ _ q=>q
theorem xQ.laid(x:xQ P w H h)(k:∀b u,h.get? b=some u->h'.get? b=some u)(hp:h.objs.size<=a)(new:xD P w (zc H a o) h' a o):xQ P w (zc H a o) h':=λb u e=>by
 have hn:=x.fresh hp;by_cases hb:b=a
 ·subst hb; rw[yr]at e; cases e; exact new
 ·rw[yE hb]at e;exact(x b u e).jX (λc v _ q=>k c v q) (λc q=>by rw[yE (uI q hn)]; exact q) λc xs q=>by rw[yE (uI q hn)]; exact q
end
noncomputable def Rd(H:Hp)(a:Addr)(u:HO):Prop:=H a=some u\/∃o,H a=some (.yI o u)
theorem Rd.ok{P:Program}{w:World}{H:Hp}{h:Heap}{a:Addr}{u:HO}(r:Rd H a u)(x:xQ P w H h):xD P w H h a u:=by
 rcases r with r|⟨o,r⟩
 ·exact x a u r
 ·obtain⟨_,q⟩:=x a _ r;exact q
noncomputable def XW:Option HO->Prop
 |some (.lst _)=>True
 |some (.dK _)=>True
 |some (.dT _)=>True
 |some (.set _ _)=>True
 |some (.ins _ _ _)=>True
 |some (.ext _)=>True
 |_=>False
section
variable{P:Program}{w:World}{H:Hp}{h h':Heap}{x e:Addr}{o':HO}
theorem xQ.write(ok:xQ P w H h)(mu:XW (H x))(he:e=x\/H e=some (.own x))(k:∀b u,b≠e->h.get? b=some u->h'.get? b=some u)(heo:∃u,h'.get? e=some u)
  (new:xD P w (zc H x o') h' x o'):xQ P w (zc H x o') h':=λb u q=>by
 have nown:∀c y,H c=some (.own y)->c≠x:=λc y r z=>by subst z; rw[r]at mu; exact mu
 have ntup:∀c xs,H c=some (.tup xs)->c≠x:=λc xs r z=>by subst z; rw[r]at mu; exact mu
 by_cases hb:b=x
 ·subst hb; rw[yr]at q; cases q; exact new
 ·rw[yE hb]at q;by_cases hbe:b=e
  ·have q':H b=some (.own x):=by
    rcases he with z|z
    ·exact absurd (hbe.trans z) hb
    ·rw[hbe]; exact z
   rw[q]at q'; cases q';obtain⟨v,hv⟩:=heo;exact⟨v,by rw[hbe]; exact hv⟩
  ·refine(ok b u q).jX (λc v hc r=>k c v ?_ r) (λc r=>by rw[yE (nown c b r)]; exact r) λc xs r=>by rw[yE (ntup c xs r)]; exact r
   rcases hc with rfl|hc
   ·exact hbe
   ·rintro rfl;rcases he with z|z
    ·exact nown c b hc z
    ·rw[hc]at z; cases z; exact hb rfl
end
structure Un(fs ex:List Addr)(H H':Hp)(h h':Heap):Prop where
 keep:∀b o,h.get? b=some o->H b=none->b ∉ fs->b ∉ ex->h'.get? b=some o
 slot:∀b o,h.get? b=some o->H b=none->b∈fs->b ∉ ex->∃sl,h'.get? b=some { o with slots:=sl }
 free:∀b o,h.get? b=some o->H b=none->b ∉ ex->H' b=none
 there:∀b o,h.get? b=some o->b ∉ ex->∃o',h'.get? b=some o'
 vm:∀b xs,H b=some (.tup xs)->H' b=some (.tup xs)
 vc:∀b o u,H b=some (.yI o u)->H' b=some (.yI o u)
 uS:∀b ps,H b=some (.tbl ps)->∃more,H' b=some (.tbl (ps++more))
section
variable{fs fs' ex ex':List Addr}{H H1 H2:Hp}{h h1 h2 h':Heap}{a x e:Addr}{o:HO}
theorem Un.any(u:Un fs ex H H1 h h1){b:Addr}{ob:Obj}(q:h.get? b=some ob)(n:H b=none)(hx:b ∉ ex):∃sl,h1.get? b=some { ob with slots:=sl }:=by
 by_cases hb:b∈fs
 ·exact u.slot b ob q n hb hx
 ·exact⟨ob.slots,u.keep b ob q n hb hx⟩
theorem Un.kept(k:∀b u,h.get? b=some u->h'.get? b=some u):Un fs ex H H h h':=
 ⟨λb ob q _ _ _=>k b ob q,λb ob q _ _ _=>⟨ob.slots,k b ob q⟩,λ_ _ _ n _=>n,λb ob q _=>⟨ob,k b ob q⟩,λ_ _ q=>q,λ_ _ _ q=>q,λ_ ps q=>⟨#[],by rw[q]; simp⟩⟩
theorem Un.refl:Un fs ex H H h h:=Un.kept λ_ _ q=>q
theorem Un.laid(k:∀b u,h.get? b=some u->h'.get? b=some u)(hp:h.objs.size<=a)(hn:H a=none):Un fs ex H (zc H a o) h h' where
 keep:=λb u q _ _ _=>k b u q
 slot:=λb u q _ _ _=>⟨u.slots,k b u q⟩
 free:=λb u q n _=>by rw[yE (u7 (wW (yh q) hp))]; exact n
 there:=λb u q _=>⟨u,k b u q⟩
 vm:=λb xs q=>by rw[yE (uI q hn)]; exact q
 vc:=λb u xs q=>by rw[yE (uI q hn)]; exact q
 uS:=λb ps q=>⟨#[],by rw[yE (uI q hn),q]; simp⟩
theorem Un.write(mu:XW (H x))(he:e=x\/H e=some (.own x))(k:∀b u,b≠e->h.get? b=some u->h'.get? b=some u)(heo:∃u,h'.get? e=some u):Un fs ex H (zc H x o) h h':=by
 have hx:∀b,H b=none->b≠x:=λb n z=>by subst z; rw[n]at mu; exact mu
 have hb:∀b,H b=none->b≠e:=λb n z=>by
  subst z;rcases he with r|r
  ·exact hx b n r
  ·rw[n]at r; cases r
 have hm:∀b u,H b=some u->¬ XW (some u)->b≠x:=λb u q nm z=>by subst z; rw[q]at mu; exact nm mu
 refine⟨λb u q n _ _=>k b u (hb b n) q,λb u q n _ _=>⟨u.slots,k b u (hb b n) q⟩,λb u q n _=>by rw[yE (hx b n)]; exact n,λb u q _=>?_,
  λb xs q=>by rw[yE (hm b _ q λz=>z)]; exact q,λb u xs q=>by rw[yE (hm b _ q λz=>z)]; exact q,λb ps q=>⟨#[],by rw[yE (hm b _ q λz=>z),q]; simp⟩⟩
 by_cases hbe:b=e
 ·subst hbe; exact heo
 ·exact⟨u,k b u hbe q⟩
end
noncomputable def QQ(h:Heap)(H:Hp):List Addr:=(List.range h.objs.size).filter λa=>(H a).isSome
noncomputable def jG(h:Heap)(H:Hp):Heap:=W.hideAll h (QQ h H)
theorem S3(h:Heap)(H:Hp):(jG h H).objs.size=h.objs.size:=W.hideAll_size _ _
theorem S0{h:Heap}{H:Hp}{b:Addr}{o:Obj}(e:h.get? b=some o)(n:H b=none):(jG h H).get? b=some o:=
 W.hideAll_get _ e λhm=>by
  have q:(H b).isSome=true:=(qk.mp hm).2;rw[n]at q; simp at q
theorem ak{h:Heap}{H:Hp}{b:Addr}{o:Obj}(e:(jG h H).get? b=some o):h.get? b=some o/\H b=none:=by
 have e':h.get? b=some o:=W.of_hideAll (QQ h H) e;refine⟨e',?_⟩;cases q:H b with
 |none=>rfl
 |some x=>
  have hm:b∈QQ h H:=qk.mpr ⟨tz.mpr (yh e'),by simp[q]⟩;have z:(jG h H).get? b=none:=W.hideAll_none (QQ h H) hm;rw[z]at e; cases e
noncomputable def NR(g h:Heap)(L:Addr):List (Addr×Obj):=(List.range h.objs.size).filterMap λa=>if a=L\/(g.get? a).isSome=true then none else(h.get? a).map λo=>(a,o)
noncomputable def yy(g h:Heap)(L d:Addr):List (Addr×Obj):=(NR g h L).filter λp=>decide (p.1≠d)
structure Mod(K:W.Frag)(mg:Str->Option Value)(base:Heap):Prop where
 JO:K.In base
 glob:base.Ns mainGlobals mg
 blt:∃mb,base.Ns builtinsNs mb/\∀x:Str,x ≠ "__name__" -> mb x=bootBuiltins x
 nolimit:base.NoLimit
structure Cx where
 prog:Program
 w:World
 K:W.Frag
 mg:Str->Option Value
 base:Heap
 A:Around
 N:List Str
 s₀:Shared
 H₀:Hp
 env:Env
 outer:List Env
 stack:List Env
 ex:List Addr
 fn:Str->Bool
 calm:Bool
 pn:List (Addr×Obj)
 xe:Value->Shared->Prop
noncomputable def vv(l:List Env):List Addr:=l.filterMap (·.frame)
noncomputable abbrev Cx.fs(X:Cx):List Addr:=vv X.outer
noncomputable def tQ(sc:Scope)(x:Str):Prop:=sc.names.lookup x=some .local\/sc.names.lookup x=some .cell\/sc.names.lookup x=some .free
noncomputable def p9(sc:Scope)(x:Str):Prop:=sc.names.lookup x=some .local\/sc.names.lookup x=some .cell
noncomputable def NC(env:Env)(h:Heap)(m:Str->Option Value)(x:Str)(u:Value):Prop:=
 (env.kindOf x=some .local/\m x=some u)\/((env.kindOf x=some .cell\/env.kindOf x=some .free)/\∃c,env.cells.lookup x=some c/\h.IsCell c (some u))
structure Cx.Ok(X:Cx):Prop where
 mod:Mod X.K X.mg X.base
 kind:X.env.scope.kind=.function
 glob:X.env.globals=mainGlobals
 blt:X.env.builtins=builtinsNs
 above:X.s₀.heap.objs.size<=X.env.locals
 inj:∀x y c,X.env.cells.lookup x=some c->X.env.cells.lookup y=some c->x=y
 has:∀x,(X.env.kindOf x=some .cell\/X.env.kindOf x=some .free)->∃c,X.env.cells.lookup x=some c
 Zg:∀x c,X.fn x=true->X.env.cells.lookup x=some c->X.s₀.heap.objs.size<=c
 hd:X.calm=true->X.A.handled=none
 frames:X.A.frames=some X.stack
 X9:X.stack=X.outer\/(X.stack=X.env::X.outer/\X.env.frame=some X.env.locals)
 X4:∀b∈X.ex,b≠X.env.locals/\∀x c,X.env.cells.lookup x=some c->c≠b
 bs:∀b o,X.base.get? b=some o->X.s₀.heap.get? b=some o/\X.H₀ b=none
 pz:X.base.objs.size<=X.s₀.heap.objs.size
 Zk:∀b o,X.base.get? b=some o->b ∉ X.ex
 Zh:∀b∈X.ex,b ∉ X.fs
 tI:X.s₀.heap.FunFrames X.base X.outer
 gn:∀b∈X.fs,X.H₀ b=none
structure Inv(X:Cx)(z8:List (Addr×Obj))(σ:List (Option V))(H:Hp)(s:Shared):Prop where
 ok:X.Ok
 os:s.os=X.s₀.os
 bare:AllBare s.gens
 base:Un X.fs X.ex X.H₀ H X.s₀.heap s.heap
 loc:∃m,s.heap.Ns X.env.locals m/\∀(i:Nat)(x:Str)(v:V),X.N[i]?=some x->σ[i]?=some (some v)->tQ X.env.scope x->∃u,yB v u/\NC X.env s.heap m x u
 cell:∀x c,X.env.cells.lookup x=some c->∃v,s.heap.IsCell c v
 free:H X.env.locals=none
 ut:∀x c,X.env.cells.lookup x=some c->H c=none
 pin:∀p∈X.pn++z8,s.heap.get? p.1=some p.2/\H p.1=none/\p.1≠X.env.locals/\p.1 ∉ X.fs/\∀v,p.2.data≠.cell v
 zj:xQ X.prog X.w H s.heap
 len:σ.length=X.N.length
section
variable{X:Cx}{z8:List (Addr×Obj)}{σ:List (Option V)}{H H':Hp}{s:Shared}{h':Heap}
theorem Cx.Ok.N3(ok:X.Ok){b:Addr}{o:Obj}(e:X.base.get? b=some o):b ∉ X.fs:=λhb=>by
 have:=(ok.tI.mem hb).1;rw[e]at this; cases this
theorem Inv.bs(I:Inv X z8 σ H s):∀b o,X.base.get? b=some o->s.heap.get? b=some o/\H b=none:=λb o e=>
 ⟨I.base.keep b o (I.ok.bs b o e).1 (I.ok.bs b o e).2 (I.ok.N3 e) (I.ok.Zk b o e),I.base.free b o (I.ok.bs b o e).1 (I.ok.bs b o e).2 (I.ok.Zk b o e)⟩
theorem Inv.bk(I:Inv X z8 σ H s):∀b o,X.base.get? b=some o->s.heap.get? b=some o:=λb o e=>(I.bs b o e).1
theorem Inv.mod(I:Inv X z8 σ H s):Mod X.K X.mg X.base:=I.ok.mod
theorem Inv.w8(I:Inv X z8 σ H s):X.K.In s.heap:=I.ok.mod.JO.keeps I.bk
theorem Inv.lt(I:Inv X z8 σ H s):X.env.locals<s.heap.objs.size:=let ⟨_,hn,_⟩:=I.loc; hn.lt
theorem Inv.sz(I:Inv X z8 σ H s):X.s₀.heap.objs.size<=s.heap.objs.size:=xO I.ok.above (Zb I.lt)
theorem Inv.DC(I:Inv X z8 σ H s){a:Addr}(h:s.heap.objs.size<=a):a ∉ X.fs:=λhb=>by
 obtain⟨_,o,ho,_⟩:=I.ok.tI.mem hb;exact absurd (wW (yh ho) (xO I.sz h)) (v6 _)
theorem Inv.gm(I:Inv X z8 σ H s):∀x c,X.env.cells.lookup x=some c->c≠X.env.locals:=λx c e z=>by
 obtain⟨v,o,ho,hd⟩:=I.cell x c e;obtain⟨m,⟨o',es,ep,ho',hd',_⟩,_⟩:=I.loc;rw[z,ho']at ho; cases ho; rw[hd']at hd; cases hd
theorem Inv.tI(I:Inv X z8 σ H s):s.heap.FunFrames X.base X.outer:=by
 have all:∀(l:List Env),(∀b∈vv l,b∈X.fs)->X.s₀.heap.FunFrames X.base l->s.heap.FunFrames X.base l:=by
  intro l
  induction l with
  |nil=>intro _ _; trivial
  |cons env r ih=>
   intro hs hl;obtain⟨hk,⟨L,o,hf,hn,ho,hd⟩,hr⟩:=hl;have hL:L∈X.fs:=hs L (by unfold vv; rw[Bm,hf]; exact xh);obtain⟨sl,e⟩:=I.base.slot L o ho (I.ok.gn L hL) hL λz=>I.ok.Zh L z hL
   exact⟨hk,⟨L,_,hf,hn,e,hd⟩,ih (λb hb=>hs b (by unfold vv; rw[Bm,hf]; exact wN _ hb)) hr⟩
 exact all X.outer (λ_ hb=>hb) I.ok.tI
theorem Inv.stack(I:Inv X z8 σ H s):s.heap.FunFrames X.base X.stack:=by
 rcases I.ok.X9 with e|⟨e,hf⟩
 ·rw[e]; exact I.tI
 ·rw[e];obtain⟨m,hn,_⟩:=I.loc;refine .cons (by rw[I.ok.kind]; decide) hf hn ?_ I.tI;exact Heap.get?_none_of_le (xO I.ok.pz I.ok.above)
theorem Inv.XA(I:Inv X z8 σ H s):∀b∈vv X.stack,b∈X.env.locals::X.fs:=λb hb=>by
 rcases I.ok.X9 with e|⟨e,hf⟩
 ·rw[e]at hb; exact wN _ hb
 ·rw[e]at hb;unfold vv at hb;rw[Bm,hf]at hb;exact hb
theorem Inv.DG(I:Inv X z8 σ H s):∀b∈vv X.stack,H b=none:=λb hb=>by
 rcases xN.mp (I.XA b hb)with e|hb
 ·rw[e]; exact I.free
 ·obtain⟨_,o,ho,_⟩:=I.ok.tI.mem hb;exact I.base.free b o ho (I.ok.gn b hb) λz=>I.ok.Zh b z hb
theorem Inv.step{g':Array GenState}{t':Nat}{d':Drawn}{ch:List Addr}(I:Inv X z8 σ H s)
  (hch:∀b∈ch,(b∈X.ex\/X.s₀.heap.objs.size<=b)/\b≠X.env.locals/\(∀x c,X.env.cells.lookup x=some c->c≠b)/\∀p∈X.pn++z8,p.1≠b)
  (keep:∀b o,b≠X.env.locals->b ∉ X.fs->b ∉ ch->s.heap.get? b=some o->H b=none->h'.get? b=some o)
  (slot:∀b o,b≠X.env.locals->b∈X.fs->b ∉ ch->s.heap.get? b=some o->H b=none->∃sl,h'.get? b=some { o with slots:=sl })(free:∀b o,b ∉ ch->s.heap.get? b=some o->H b=none->H' b=none)
  (there:∀b o,b ∉ ch->s.heap.get? b=some o->∃o',h'.get? b=some o')
  (vm:∀b xs,H b=some (.tup xs)->H' b=some (.tup xs))(vc:∀b o u,H b=some (.yI o u)->H' b=some (.yI o u))(uS:∀b ps,H b=some (.tbl ps)->∃more,H' b=some (.tbl (ps++more)))
  (ns:∀m,s.heap.Ns X.env.locals m->h'.Ns X.env.locals m)(zj:xQ X.prog X.w H' h')(hg:AllBare g') :
  Inv X z8 σ H' { s with heap:=h',gens:=g',drawn:=d',toks:=t' }:=by
 have neL:∀b o,X.s₀.heap.get? b=some o->b≠X.env.locals:=λb o e=>u7 (wW (yh e) I.ok.above)
 have neC:∀b o,X.s₀.heap.get? b=some o->b ∉ X.ex->b ∉ ch:=λb o e hx hb=>by
  rcases(hch b hb).1 with z|z
  ·exact hx z
  ·exact absurd (wW (yh e) z) (v6 _)
 have cellK:∀x c,X.env.cells.lookup x=some c->∀v,s.heap.IsCell c v->h'.IsCell c v:=λx c e v ⟨o,ho,hd⟩=>by
  have nch:c ∉ ch:=λz=>(hch c z).2.2.1 x c e rfl
  by_cases hc:c∈X.fs
  ·obtain⟨sl,q⟩:=slot c o (I.gm x c e) hc nch ho (I.ut x c e);exact⟨_,q,hd⟩
  ·exact⟨o,keep c o (I.gm x c e) hc nch ho (I.ut x c e),hd⟩
 refine⟨I.ok,I.os,hg,⟨λb o e n hb hx=>?_,λb o e n hb hx=>?_,λb o e n hx=>?_,λb o e hx=>?_,λb xs e=>vm b xs (I.base.vm b xs e),λb o xs e=>vc b o xs (I.base.vc b o xs e),λb ps e=>?_⟩,?_,λx c e=>?_,?_,λx c e=>?_,λp hp=>?_,zj,I.len⟩
 ·exact keep b o (neL b o e) hb (neC b o e hx) (I.base.keep b o e n hb hx) (I.base.free b o e n hx)
 ·obtain⟨sl,e1⟩:=I.base.slot b o e n hb hx;obtain⟨sl',e2⟩:=slot b _ (neL b o e) hb (neC b o e hx) e1 (I.base.free b o e n hx);exact⟨sl',e2⟩
 ·obtain⟨o',e1⟩:=I.base.there b o e hx;exact free b o' (neC b o e hx) e1 (I.base.free b o e n hx)
 ·obtain⟨o',e1⟩:=I.base.there b o e hx;exact there b o' (neC b o e hx) e1
 ·obtain⟨m1,e1⟩:=I.base.uS b ps e;obtain⟨m2,e2⟩:=uS b _ e1;exact⟨m1++m2,by rw[e2,BR]⟩
 ·obtain⟨m,hn,hl⟩:=I.loc;refine⟨m,ns m hn,λi x v e1 e2 e3=>?_⟩;obtain⟨u,r,l⟩:=hl i x v e1 e2 e3;refine⟨u,r,?_⟩;rcases l with l|⟨k,c,e,z⟩
  ·exact .inl l
  ·exact .inr ⟨k,c,e,cellK x c e _ z⟩
 ·obtain⟨v,z⟩:=I.cell x c e;exact⟨v,cellK x c e v z⟩
 ·obtain⟨m,⟨o,_,_,ho,_⟩,_⟩:=I.loc;exact free _ o (λz=>(hch _ z).2.1 rfl) ho I.free
 ·obtain⟨v,o,ho,hd⟩:=I.cell x c e;exact free c o (λz=>(hch c z).2.2.1 x c e rfl) ho (I.ut x c e)
 ·obtain⟨e,n,ne,nf,d⟩:=I.pin p hp;have nch:p.1 ∉ ch:=λz=>(hch p.1 z).2.2.2 p hp rfl
  exact⟨keep p.1 p.2 ne nf nch e n,free p.1 p.2 nch e n,ne,nf,d⟩
theorem Inv.un{t':Nat}(I:Inv X z8 σ H s)(u:Un X.fs [] H H' s.heap h')(zj:xQ X.prog X.w H' h'):Inv X z8 σ H' { s with heap:=h',toks:=t' }:=by
 obtain⟨m,⟨o,es,ep,ho,r⟩,_⟩:=id I.loc;obtain⟨sl,hL⟩:=u.any ho I.free (by simp)
 exact I.step (g':=s.gens) (d':=s.drawn) (ch:=[]) (λ_ z=>nomatch z) (λb o _ hb _ e n=>u.keep b o e n hb (by simp)) (λb o _ hb _ e n=>u.slot b o e n hb (by simp)) (λb o _ e n=>u.free b o e n (by simp)) (λb o _ e=>u.there b o e (by simp)) u.vm u.vc u.uS (λm' hm=>by
  obtain⟨o',es',ep',ho',r'⟩:=hm;rw[ho]at ho'; cases ho';exact⟨_,es',ep',hL,r'⟩) zj I.bare
theorem Inv.call{g':Array GenState}{t':Nat}{d':Drawn}{ch:List Addr}(I:Inv X z8 σ H s)(u:Un (vv X.stack) ch H H' s.heap h')(zj:xQ X.prog X.w H' h')(hg:AllBare g')
  (hch:∀b∈ch,(b∈X.ex\/X.s₀.heap.objs.size<=b)/\b≠X.env.locals/\(∀x c,X.env.cells.lookup x=some c->c≠b)/\∀p∈X.pn++z8,p.1≠b) :
  Inv X z8 σ H' { s with heap:=h',gens:=g',drawn:=d',toks:=t' }:=by
 obtain⟨m,⟨o,es,ep,ho,r⟩,_⟩:=id I.loc;obtain⟨sl,hL⟩:=u.any ho I.free λz=>(hch _ z).2.1 rfl
 exact I.step (ch:=ch) hch (λb o hL hb hc e n=>u.keep b o e n (λz=>(xN.mp (I.XA b z)).elim hL hb) hc) (λb o _ _ hc e n=>u.any e n hc) (λb o hc e n=>u.free b o e n hc) (λb o hc e=>u.there b o e hc) u.vm u.vc u.uS (λm' hm=>by
  obtain⟨o',es',ep',ho',r'⟩:=hm;rw[ho]at ho'; cases ho';exact⟨_,es',ep',hL,r'⟩) zj hg
theorem Inv.turned{t':Nat}{it:Addr}(I:Inv X z8 σ H s)(k:∀b o,b≠it->s.heap.get? b=some o->h'.get? b=some o)(hn:H it=none)(hL:it≠X.env.locals)
  (h1:it∈X.ex\/X.s₀.heap.objs.size<=it)(h2:∀x c,X.env.cells.lookup x=some c->c≠it)(h3:∀p∈X.pn++z8,p.1≠it):Inv X z8 σ H { s with heap:=h',toks:=t' }:=by
 have nit:∀b u,H b=some u->b≠it:=λb u e z=>by rw[z,hn]at e; cases e
 refine I.step (g':=s.gens) (d':=s.drawn) (ch:=[it]) (λb hb=>?_) (λb o _ _ hc e _=>k b o (λz=>hc (by simp[z])) e) (λb o _ _ hc e _=>⟨o.slots,k b o (λz=>hc (by simp[z])) e⟩) (λ_ _ _ _ n=>n)
  (λb o hc e=>⟨o,k b o (λz=>hc (by simp[z])) e⟩) (λ_ _ e=>e) (λ_ _ _ e=>e) (λb ps e=>⟨#[],by rw[e]; simp⟩) (λm hm=>?_) (λb u e=>?_) I.bare
 ·have e:b=it:=by simpa using hb
  subst e;exact⟨h1,hL,h2,h3⟩
 ·obtain⟨o,es,ep,ho,r⟩:=hm;exact⟨o,es,ep,k _ o (qp hL) ho,r⟩
 ·refine(I.zj b u e).jX (λc v hc q=>k c v ?_ q) (λ_ q=>q) λ_ _ q=>q
  rcases hc with z|z
  ·rw[z]; exact nit b u e
  ·exact nit c _ z
theorem Inv.tok(I:Inv X z8 σ H s)(t:Nat):Inv X z8 σ H { s with toks:=t }:=I.un (h':=s.heap) (t':=t) Un.refl I.zj
theorem Inv.kept{t':Nat}(I:Inv X z8 σ H s)(k:∀b u,s.heap.get? b=some u->h'.get? b=some u):Inv X z8 σ H { s with heap:=h',toks:=t' }:=I.un (Un.kept k) (I.zj.kept k)
theorem Inv.laid{a:Addr}{o:HO}{t':Nat}(I:Inv X z8 σ H s)(k:∀b u,s.heap.get? b=some u->h'.get? b=some u)(hp:s.heap.objs.size<=a)(new:xD X.prog X.w (zc H a o) h' a o) :
  Inv X z8 σ (zc H a o) { s with heap:=h',toks:=t' }:=I.un (Un.laid k hp (I.zj.fresh hp)) (I.zj.laid k hp new)
theorem Inv.write{x e:Addr}{o:HO}{t':Nat}(I:Inv X z8 σ H s)(mu:XW (H x))(he:e=x\/H e=some (.own x))(k:∀b u,b≠e->s.heap.get? b=some u->h'.get? b=some u)(heo:∃u,h'.get? e=some u)
  (new:xD X.prog X.w (zc H x o) h' x o):Inv X z8 σ (zc H x o) { s with heap:=h',toks:=t' }:=I.un (Un.write mu he k heo) (I.zj.write mu he k heo new)
theorem Inv.weak{σ':List (Option V)}(I:Inv X z8 σ H s)(hl:σ'.length=σ.length)(w:∀(i:Nat) v,σ'[i]?=some (some v)->σ[i]?=some (some v)):Inv X z8 σ' H s:=
 ⟨I.ok,I.os,I.bare,I.base,let ⟨m,hn,hl'⟩:=I.loc; ⟨m,hn,λi x v e1 e2 e3=>hl' i x v e1 (w i v e2) e3⟩,I.cell,I.free,I.ut,I.pin,I.zj,hl.trans I.len⟩
theorem Inv.X8{pins':List (Addr×Obj)}(I:Inv X z8 σ H s)(h:∀p∈pins',s.heap.get? p.1=some p.2/\H p.1=none/\p.1≠X.env.locals/\p.1 ∉ X.fs/\∀v,p.2.data≠.cell v):Inv X pins' σ H s:=
 ⟨I.ok,I.os,I.bare,I.base,I.loc,I.cell,I.free,I.ut,λp hp=>(wb.mp hp).elim (λz=>I.pin p (Br _ z)) (h p),I.zj,I.len⟩
theorem Cl{N:List Str}(hN:N.Nodup){i j:Nat}{x:Str}(a:N[i]?=some x)(b:N[j]?=some x):i=j:=by
 obtain⟨h1,e1⟩:=xT.mp a;obtain⟨h2,e2⟩:=xT.mp b;exact(List.getElem_inj hN).mp (e1.trans e2.symm)
theorem He{M:Model}{A:Around}{E:Value->Shared->Prop}{i:Nat}{x:Str}{v:V}{u:Value}{Q:Unit->Shared->Prop}(I:Inv X z8 σ H s)(hN:X.N.Nodup)(hi:X.N[i]?=some x)(hx:p9 X.env.scope x)(r:yB v u)
  (h:∀s',Inv X z8 (σ.set i (some v)) H s'->(∃a,Heap.SameBut a s.heap s'.heap/\(a=X.env.locals\/X.env.cells.lookup x=some a))->Q () s')(hf:X.fn x=true\/X.env.scope.names.lookup x=some .local:=by first|exact .inl rfl|exact .inr rfl|assumption):wpAny M A (storeName X.env x u) Q E s:=by
 obtain⟨m,hn,hl⟩:=id I.loc;have hcls:(X.env.scope.kind == .class||(X.env.scope.kind == .module&&X.env.locals != X.env.globals))=false:=by rw[I.ok.kind]; rfl
 have hiσ:i<σ.length:=by rw[I.len]; exact(xT.mp hi).1
 have gm:=I.gm
 have tracked:∀{a:Addr}{h':Heap},(∃o,s.heap.get? a=some o/\H a=none)->Heap.SameBut a s.heap h'->xQ X.prog X.w H h':=λ{a h'} ha hs b ob e=>by
  obtain⟨_,_,hfree⟩:=ha;refine(I.zj b ob e).jX (λc w' hc q=>(hs.2 c ?_).trans q) (λ_ q=>q) λ_ _ q=>q
  rintro rfl;rcases hc with rfl|hc
  ·rw[hfree]at e; cases e
  ·rw[hfree]at hc; cases hc
 rcases hx with hk|hk
 ·refine wpAny_storeName_local hk hn (λh' hn' hs=>?_) hcls;obtain⟨oL,_,_,hoL,_⟩:=id hn;refine h _ ⟨I.ok,I.os,I.bare,⟨λb o e n hb hx=>?_,λb o e n hb hx=>?_,I.base.free,λb o e hx=>?_,I.base.vm,I.base.vc,I.base.uS⟩,⟨_,hn',λj y v' e1 e2 e3=>?_⟩,λy c e=>?_,I.free,I.ut,λp hp=>?_,tracked ⟨oL,hoL,I.free⟩ hs,by simpa using I.len⟩ ⟨_,hs,.inl rfl⟩
  ·exact(hs.2 b (u7 (wW (yh e) I.ok.above))).trans (I.base.keep b o e n hb hx)
  ·obtain⟨sl,e1⟩:=I.base.slot b o e n hb hx;exact⟨sl,(hs.2 b (u7 (wW (yh e) I.ok.above))).trans e1⟩
  ·obtain⟨o',e1⟩:=I.base.there b o e hx;exact⟨o',(hs.2 b (u7 (wW (yh e) I.ok.above))).trans e1⟩
  ·by_cases hj:j=i
   ·subst hj;rw[hi]at e1; cases e1;rw[Kh hiσ]at e2;cases e2;exact⟨u,r,.inl ⟨hk,by simp⟩⟩
   ·rw[Kg (qp hj)]at e2;obtain⟨u',r',q⟩:=hl j y v' e1 e2 e3;refine⟨u',r',?_⟩;rcases q with⟨k,e⟩|⟨k,c,e,z⟩
    ·refine .inl ⟨k,?_⟩;have:y≠x:=λe=>hj (Cl hN e1 (e▸hi))
     simp[this,e]
    ·exact .inr ⟨k,c,e,z.sameBut hs (gm y c e)⟩
  ·obtain⟨w',z⟩:=I.cell y c e;exact⟨w',z.sameBut hs (gm y c e)⟩
  ·obtain⟨e,n,ne,nf,d⟩:=I.pin p hp;exact⟨(hs.2 p.1 ne).trans e,n,ne,nf,d⟩
 ·have hfn:X.fn x=true:=by
   rcases hf with z|z
   ·exact z
   ·rw[z]at hk; cases hk
  obtain⟨c,hc⟩:=I.ok.has x (.inl hk);obtain⟨w',z⟩:=I.cell x c hc;refine wpAny_storeName_cell I.ok.kind hk hc z (λh' hc' hs=>?_);obtain⟨oc,hoc,hocd⟩:=id z;refine h { s with heap:=h' } ⟨I.ok,I.os,I.bare,⟨λb o e n hb hx=>?_,λb o e n hb hx=>?_,I.base.free,λb o e hx=>?_,I.base.vm,I.base.vc,I.base.uS⟩,⟨m,hn.sameBut hs (qp (gm x c hc)),λj y v' e1 e2 e3=>?_⟩,λy c' e=>?_,I.free,I.ut,λp hp=>?_,tracked ⟨oc,hoc,I.ut x c hc⟩ hs,by simpa using I.len⟩ ⟨c,hs,.inr hc⟩
  ·exact(hs.2 b (u7 (wW (yh e) (I.ok.Zg x c hfn hc)))).trans (I.base.keep b o e n hb hx)
  ·obtain⟨sl,e1⟩:=I.base.slot b o e n hb hx;exact⟨sl,(hs.2 b (u7 (wW (yh e) (I.ok.Zg x c hfn hc)))).trans e1⟩
  ·obtain⟨o',e1⟩:=I.base.there b o e hx;exact⟨o',(hs.2 b (u7 (wW (yh e) (I.ok.Zg x c hfn hc)))).trans e1⟩
  ·by_cases hj:j=i
   ·subst hj;rw[hi]at e1; cases e1;rw[Kh hiσ]at e2;cases e2;exact⟨u,r,.inr ⟨.inl hk,c,hc,hc'⟩⟩
   ·rw[Kg (qp hj)]at e2;obtain⟨u',r',q⟩:=hl j y v' e1 e2 e3;refine⟨u',r',?_⟩;rcases q with q|⟨k,c',e,z'⟩
    ·exact .inl q
    ·refine .inr ⟨k,c',e,z'.sameBut hs ?_⟩;rintro rfl;exact hj (Cl hN e1 (I.ok.inj _ _ _ e hc▸hi))
  ·by_cases hcc:c'=c
   ·subst hcc; exact⟨_,hc'⟩
   ·obtain⟨w2,z2⟩:=I.cell y c' e;exact⟨w2,z2.sameBut hs hcc⟩
  ·obtain⟨e,n,ne,nf,d⟩:=I.pin p hp;refine⟨(hs.2 p.1 ?_).trans e,n,ne,nf,d⟩;intro q;rw[q,hoc]at e;have q':oc=p.2:=vk e;exact d w' (by rw[<-q']; exact hocd)
theorem B8{M:Model}{A:Around}{E:Value->Shared->Prop}{i:Nat}{x:Str}{v:V}{u:Value}{Q:Unit->Shared->Prop}(I:Inv X z8 σ H s)(hN:X.N.Nodup)(hi:X.N[i]?=some x)(hx:p9 X.env.scope x)(r:yB v u)
  (h:∀s',Inv X z8 (σ.set i (some v)) H s'->Q () s')(hf:X.fn x=true\/X.env.scope.names.lookup x=some .local:=by first|exact .inl rfl|exact .inr rfl|assumption):wpAny M A (storeName X.env x u) Q E s:=
 He I hN hi hx r (λs' I' _=>h s' I') hf
theorem Inv.JM{s':Shared}{ch:List Addr}(I:Inv X z8 σ H s)(ho:s'.os=s.os)(u:Un (vv X.stack) ch H H' s.heap s'.heap)(zj:xQ X.prog X.w H' s'.heap)(hg:AllBare s'.gens)
  (hch:∀b∈ch,(b∈X.ex\/X.s₀.heap.objs.size<=b)/\b≠X.env.locals/\(∀x c,X.env.cells.lookup x=some c->c≠b)/\∀p∈X.pn++z8,p.1≠b):Inv X z8 σ H' s':=by
 obtain⟨h',g',d',t',o'⟩:=s';have e:o'=s.os:=ho;subst e;exact I.call (g':=g') (t':=t') (d':=d') u zj hg hch
end
noncomputable abbrev XK:=Value->Option Addr->Hp->Prop
noncomputable abbrev St:=List (Option V)
noncomputable abbrev VK:=V->Hp->Prop
noncomputable abbrev TE:=St->Hp->VK->Prop
noncomputable abbrev TT:=St->Hp->(Bool->Hp->Prop)->Prop
noncomputable abbrev TA:=St->Hp->(List V->Hp->Prop)->Prop
structure uT where
 nx:St->Hp->Prop
 rt:VK
 bk:St->Hp->Prop:=λ_ _=>False
 ct:St->Hp->Prop:=λ_ _=>False
noncomputable abbrev TS:=uT->St->Hp->Prop
noncomputable def EP(X:Cx)(z8:List (Addr×Obj))(σ:St)(Q:VK)(u:Value)(s':Shared):Prop:=∃v H',Inv X z8 σ H' s'/\yB v u/\Q v H'
noncomputable def TP(X:Cx)(z8:List (Addr×Obj))(σ:St)(Q:Bool->Hp->Prop)(b:Bool)(s':Shared):Prop:=∃H',Inv X z8 σ H' s'/\Q b H'
noncomputable def AP(X:Cx)(z8:List (Addr×Obj))(σ:St)(Q:List V->Hp->Prop)(us:List Value)(s':Shared):Prop:=∃vs H',Inv X z8 σ H' s'/\zz vs us/\Q vs H'
noncomputable def SP(X:Cx)(z8:List (Addr×Obj))(D:uT)(f:Flow)(s':Shared):Prop:=
 match f with
 |.next=>∃σ' H',Inv X z8 σ' H' s'/\D.nx σ' H'
 |.brk=>∃σ' H',Inv X z8 σ' H' s'/\D.bk σ' H'
 |.cont=>∃σ' H',Inv X z8 σ' H' s'/\D.ct σ' H'
 |.ret u=>∃v σ' H',Inv X z8 σ' H' s'/\yB v u/\D.rt v H'
noncomputable def PE(X:Cx)(e:Expr)(t:TE):Prop:=
 ∀(z8:List (Addr×Obj)) (s:Shared) (σ:St) (H:Hp) (Q:VK),Inv X z8 σ H s->t σ H Q->wpAny (model X.prog X.w) X.A (eval e X.env) (EP X z8 σ Q) X.xe s
noncomputable def PT(X:Cx)(e:Expr)(t:TT):Prop:=
 ∀(z8:List (Addr×Obj)) (s:Shared) (σ:St) (H:Hp) (Q:Bool->Hp->Prop),Inv X z8 σ H s->t σ H Q->wpAny (model X.prog X.w) X.A (isTrue e X.env (eval e X.env)) (TP X z8 σ Q) X.xe s
noncomputable def PW(X:Cx)(e:Expr)(t:TT):Prop:=
 ∀(whole:Sem Value)(z8:List (Addr×Obj)) (s:Shared) (σ:St) (H:Hp) (Q:Bool->Hp->Prop),Inv X z8 σ H s->t σ H Q->wpAny (model X.prog X.w) X.A (isTrue e X.env whole) (TP X z8 σ Q) X.xe s
theorem PW.pt{X:Cx}{e:Expr}{t:TT}(h:PW X e t):PT X e t:=h _
noncomputable def PA(X:Cx)(es:List Expr)(t:TA):Prop:=
 ∀(pos:Pos)(z8:List (Addr×Obj)) (s:Shared) (σ:St) (H:Hp) (Q:List V->Hp->Prop),Inv X z8 σ H s->t σ H Q->wpAny (model X.prog X.w) X.A (spliced (backTo pos (starEach es X.env))) (AP X z8 σ Q) X.xe s
noncomputable def PS(X:Cx)(st:Stmt)(t:TS):Prop:=
 ∀(z8:List (Addr×Obj)) (s:Shared) (σ:St) (H:Hp) (D:uT),Inv X z8 σ H s->t D σ H->wpAny (model X.prog X.w) X.A (exec st X.env) (SP X z8 D) X.xe s
noncomputable def vo(X:Cx)(st:List Stmt)(t:TS):Prop:=
 ∀(z8:List (Addr×Obj)) (s:Shared) (σ:St) (H:Hp) (D:uT),Inv X z8 σ H s->t D σ H->wpAny (model X.prog X.w) X.A (execs st X.env) (SP X z8 D) X.xe s
theorem zw{α:Type}{t:Sem α}{Q Q':α->Shared->Prop}{M:Model}{A:Around}{E:Value->Shared->Prop}{s:Shared}(h:wpAny M A t Q E s)(hQ:∀a s,Q a s->Q' a s):wpAny M A t Q' E s:=va h hQ λ_ _ x=>x
section
variable{X:Cx}
noncomputable def jO(i:Nat):TE:=λσ H Q=>∃v,σ[i]?=some (some v)/\Q v H
noncomputable def tC(v:V):TE:=λ_ H Q=>Q v H
theorem Z6{i:Nat}{x:Str}{pos:Pos}(hN:X.N[i]?=some x)(hv:tQ X.env.scope x)(hd:(x==("__debug__" : Str))=false:=by decide)(hcd:(x==("__classdict__" : Str))=false:=by decide):PE X (.Name x pos) (jO i):=by
 intro z8 s σ H Q I h;obtain⟨v,e,h⟩:=h;obtain⟨m,hn,hl⟩:=I.loc;obtain⟨u,r,l⟩:=hl i x v hN e hv;have fin:EP X z8 σ Q u s:=⟨v,H,I,r,h⟩;rcases l with⟨hk,hm⟩|⟨hk,c,hc,hcell⟩
 ·exact wpAny_Name (wpAny_loadName_local I.ok.kind hk hn hm fin) hd
 ·rcases hk with hk|hk
  ·exact wpAny_Name (wpAny_loadName_cell I.ok.kind hk hc hcell fin) hd
  ·exact wpAny_Name (wpAny_loadName_free I.ok.kind hk hc hcell fin hcd) hd
theorem Em{i j pos}:PE X (.Constant (.int i) j pos) (tC (.int i)):=λ_ _ _ H _ I h=>wpAny_Constant_int ⟨.int i,H,I.tok _,⟨_,rfl⟩,h⟩
theorem cT{b j pos}:PE X (.Constant (.bool b) j pos) (tC (.bl b)):=λ_ _ _ H _ I h=>Constant_bool ⟨.bl b,H,I,rfl,h⟩
theorem cm{j pos}:PE X (.Constant .none j pos) (tC .zD):=λ_ _ _ H _ I h=>Constant_none ⟨.zD,H,I,rfl,h⟩
theorem cq{x j pos}:PE X (.Constant (.str x) j pos) (tC (.str x)):=λ_ _ _ H _ I h=>Calls.Constant_str ⟨.str x,H,I.tok _,⟨_,rfl⟩,h⟩
noncomputable def Gl(X:Cx)(x:Str):Prop:=X.env.kindOf x=some .globalImplicit
theorem LC{E:Value->Shared->Prop}{z8:List (Addr×Obj)}{s:Shared}{σ:St}{H:Hp}{x:Str}{u:Value}{pos:Pos}{Q:Value->Shared->Prop}(I:Inv X z8 σ H s)(hg:Gl X x)(hm:X.mg x=some u)(h:Q u s)
  (hd:(x==("__debug__" : Str))=false:=by decide):wpAny (model X.prog X.w) X.A (eval (.Name x pos) X.env) Q E s:=
 KQ I.ok.kind hg (Calls.loadGlobal_global (by rw[I.ok.glob]; exact I.mod.glob.keeps I.bk) hm h) hd
theorem gE{E:Value->Shared->Prop}{z8:List (Addr×Obj)}{s:Shared}{σ:St}{H:Hp}{x:Str}{u:Value}{pos:Pos}{Q:Value->Shared->Prop}(I:Inv X z8 σ H s)(hg:Gl X x)(hm:X.mg x=none)(hv:bootBuiltins x=some u)(h:Q u s)
  (hn:x ≠ "__name__" := by decide)(hd:(x==("__debug__" : Str))=false:=by decide):wpAny (model X.prog X.w) X.A (eval (.Name x pos) X.env) Q E s:=by
 obtain⟨mb,h1,h2⟩:=I.mod.blt;exact KQ I.ok.kind hg (Calls.loadGlobal_builtin (by rw[I.ok.glob]; exact I.mod.glob.keeps I.bk) hm (by rw[I.ok.blt]; exact h1.keeps I.bk) ((h2 x hn).trans hv) h) hd
theorem cf{x:Str}{v:V}{u:Value}{pos:Pos}(hg:Gl X x)(hm:X.mg x=some u)(r:yB v u)(hd:(x==("__debug__" : Str))=false:=by decide):PE X (.Name x pos) (tC v):=
 λ_ _ _ H _ I h=>LC I hg hm ⟨v,H,I,r,h⟩ hd
theorem cU{x:Str}{v:V}{u:Value}{pos:Pos}(hg:Gl X x)(hm:X.mg x=none)(hv:bootBuiltins x=some u)(r:yB v u)(hn:x ≠ "__name__" := by decide)(hd:(x==("__debug__" : Str))=false:=by decide):PE X (.Name x pos) (tC v):=
 λ_ _ _ H _ I h=>gE I hg hm hv ⟨v,H,I,r,h⟩ hn hd
variable{a b:Expr}{ta tb:TE}{pos:Pos}
noncomputable def tB(t:TE):TT:=λσ H Q=>t σ H λx H1=>∃c,x=.bl c/\Q c H1
theorem dy{e:Expr}{t:TE}(h:PE X e t)(he:∀whole,isTrue e X.env whole=(do let v <-whole; standAt e.pos; holding [v] (truthy v)):=by intro _; rfl):PT X e (tB t):=by
 intro z8 s σ H Q I hw;refine isTrue_plain (zw (h z8 s σ H _ I hw) λv s1 ⟨x,H1,I1,r1,q1⟩=>?_) (he _);obtain⟨d,rfl,q⟩:=q1;cases r1;exact V5 ⟨H1,I1,q⟩
variable{tA tB':TT}{yy:List Expr}
noncomputable def lK(t u:TT):TT:=λσ H Q=>t σ H λc H1=>if c=true then u σ H1 Q else Q false H1
noncomputable def la(t u:TT):TT:=λσ H Q=>t σ H λc H1=>if c=true then Q true H1 else u σ H1 Q
noncomputable def lZ(t:TT):TT:=λσ H Q=>t σ H λc H1=>Q (!c) H1
theorem eA(ha:PT X a tA):PW X (.BoolOp .And [a] pos) tA:=by
 intro wh z8 s σ H Q I h;refine isTrue_and (zw (ha z8 s σ H Q I h) λc s1 e=>?_);cases c with
 |true=>exact isTrue_and_nil e
 |false=>exact e
theorem eE(ha:PT X a tA):PW X (.BoolOp .Or [a] pos) tA:=by
 intro wh z8 s σ H Q I h;refine isTrue_or (zw (ha z8 s σ H Q I h) λc s1 e=>?_);cases c with
 |false=>exact isTrue_or_nil e
 |true=>exact e
theorem e9(ha:PT X a tA)(hb:PW X (.BoolOp .And (b::yy) pos) tB'):PW X (.BoolOp .And (a::b::yy) pos) (lK tA tB'):=by
 intro wh z8 s σ H Q I h;refine isTrue_and (zw (ha z8 s σ H _ I h) λc s1 ⟨H1,I1,q1⟩=>?_);cases c with
 |true=>exact hb wh z8 s1 σ H1 Q I1 q1
 |false=>exact⟨H1,I1,q1⟩
theorem eD(ha:PT X a tA)(hb:PW X (.BoolOp .Or (b::yy) pos) tB'):PW X (.BoolOp .Or (a::b::yy) pos) (la tA tB'):=by
 intro wh z8 s σ H Q I h;refine isTrue_or (zw (ha z8 s σ H _ I h) λc s1 ⟨H1,I1,q1⟩=>?_);cases c with
 |true=>exact⟨H1,I1,q1⟩
 |false=>exact hb wh z8 s1 σ H1 Q I1 q1
theorem dw(ha:PT X a tA):PT X (.UnaryOp .Not a pos) (lZ tA):=by
 intro z8 s σ H Q I h;exact isTrue_not (ha z8 s σ H (λc H1=>Q (!c) H1) I h)
noncomputable def lQ(t:TT)(ta tb:TE):TE:=λσ H Q=>t σ H λc H1=>if c=true then ta σ H1 Q else tb σ H1 Q
theorem cg{c:Expr}(hc:PT X c tA)(ha:PE X a ta)(hb:PE X b tb):PE X (.IfExp c a b pos) (lQ tA ta tb):=by
 intro z8 s σ H Q I h;refine wpAny_IfExp (zw (hc z8 s σ H _ I h) λd s1 ⟨H1,I1,q1⟩=>?_);cases d with
 |true=>exact ha z8 s1 σ H1 Q I1 q1
 |false=>exact hb z8 s1 σ H1 Q I1 q1
end
noncomputable def yj(K:W.Frag)(H:Hp)(a:Addr)(xs:List V):Prop:=
 Rd H a (.lst xs) \/
  ∃(o:Obj) (its:Array Value) (n:Nat),K.lookup a=some o/\o.cls=.type "list" /\ o.dict=none/\o.data=.seq its n/\its.size<=sizeLine/\zz xs its.toList
noncomputable def xH(K:W.Frag)(H:Hp)(a:Addr)(xs:List V):Prop:=
 Rd H a (.tup xs) \/
  ∃(o:Obj) (its:Array Value) (n:Nat),K.lookup a=some o/\o.cls=.type "tuple" /\ o.data=.seq its n/\its.size<=sizeLine/\zz xs its.toList
noncomputable def NI:Value->Option V
 |.none=>some .zD
 |.bool b=>some (.bl b)
 |.int i _=>some (.int i)
 |.str x _=>some (.str x)
 |.bytes b _=>some (.byt b)
 |.float b _=>some (.Zi b)
 |.ref a=>some (.ref a)
 |.type n=>some (.ty n)
 |_=>none
theorem yB.abs{x:V}{u:Value}(r:yB x u):NI u=some x:=by
 cases x with
 |zD=>cases r; rfl
 |bl _=>cases r; rfl
 |int _=>obtain⟨t,rfl⟩:=r; rfl
 |str _=>obtain⟨t,rfl⟩:=r; rfl
 |byt _=>obtain⟨t,rfl⟩:=r; rfl
 |Zi _=>obtain⟨t,rfl⟩:=r; rfl
 |ref _=>cases r; rfl
 |ty _=>cases r; rfl
theorem yB.inj{x y:V}{u:Value}(r:yB x u)(q:yB y u):x=y:=vk (r.abs.symm.trans q.abs)
theorem zz.inj:∀{xs ys:List V}{us:List Value},zz xs us->zz ys us->xs=ys
 |_,_,_,.nil,.nil=>rfl
 |_,_,_,.cons r t,.cons r' t'=>by rw[r.inj r',zz.inj t t']
section
variable{X:Cx}{z8:List (Addr×Obj)}{σ:St}{H:Hp}{s:Shared}{a:Addr}{xs ys:List V}
theorem yj.of{K:W.Frag}(h:H a=some (.lst xs)):yj K H a xs:=.inl (.inl h)
theorem xH.of{K:W.Frag}(h:H a=some (.tup xs)):xH K H a xs:=.inl (.inl h)
theorem Inv.list(I:Inv X z8 σ H s)(h:yj X.K H a xs):∃its:List Value,zz xs its/\PlainL s.heap a its.toArray/\xs.length<=sizeLine:=by
 rcases h with h|⟨o,its,n,hk,hc,hd,hs,hz,r⟩
 ·obtain⟨z,its,n,r,e⟩:=h.ok I.zj;exact⟨its,r,⟨_,n,e,rfl,rfl,rfl⟩,z⟩
 ·refine⟨its.toList,r,⟨o,n,I.w8 a o hk,hc,hd,by simpa using hs⟩,?_⟩;have e:=r.length;simp only[uq]at e;omega
theorem Inv.tuple(I:Inv X z8 σ H s)(h:xH X.K H a xs):∃its:List Value,zz xs its/\IsTup s.heap a its.toArray/\xs.length<=sizeLine:=by
 rcases h with h|⟨o,its,n,hk,hc,hs,hz,r⟩
 ·obtain⟨z,its,r,p⟩:=h.ok I.zj;exact⟨its,r,p,z⟩
 ·refine⟨its.toList,r,⟨o,I.w8 a o hk,hc,n,by simpa using hs⟩,?_⟩;have e:=r.length;simp only[uq]at e;omega
theorem Inv.VA(I:Inv X z8 σ H s)(h:yj X.K H a xs)(h':yj X.K H a ys):xs=ys:=by
 obtain⟨its,r,⟨o,n,e,_,_,d⟩,_⟩:=I.list h;obtain⟨its',r',⟨o',n',e',_,_,d'⟩,_⟩:=I.list h';rw[e]at e'; cases e';rw[d]at d';injection d' with d1 _
 have:its=its':=by simpa using congrArg Array.toList d1
 subst this;exact r.inj r'
theorem Inv.JT(I:Inv X z8 σ H s)(h:xH X.K H a xs)(h':xH X.K H a ys):xs=ys:=by
 obtain⟨its,r,⟨o,e,_,n,d⟩,_⟩:=I.tuple h;obtain⟨its',r',⟨o',e',_,n',d'⟩,_⟩:=I.tuple h';rw[e]at e'; cases e';rw[d]at d';injection d' with d1 _
 have:its=its':=by simpa using congrArg Array.toList d1
 subst this;exact r.inj r'
end
noncomputable abbrev Cx.qC(X:Cx)(E:Value->Shared->Prop):Cx:={ X with xe:=E }
noncomputable abbrev Cx.tJ(X:Cx):Cx:=X.qC λ_ _=>False
theorem Cx.Ok.qC{X:Cx}(ok:X.Ok)(E:Value->Shared->Prop):(X.qC E).Ok:=
 ⟨ok.mod,ok.kind,ok.glob,ok.blt,ok.above,ok.inj,ok.has,ok.Zg,ok.hd,ok.frames,ok.X9,ok.X4,ok.bs,ok.pz,ok.Zk,ok.Zh,ok.tI,ok.gn⟩
theorem Cx.Ok.j3{X:Cx}{E:Value->Shared->Prop}(ok:(X.qC E).Ok):X.Ok:=
 ⟨ok.mod,ok.kind,ok.glob,ok.blt,ok.above,ok.inj,ok.has,ok.Zg,ok.hd,ok.frames,ok.X9,ok.X4,ok.bs,ok.pz,ok.Zk,ok.Zh,ok.tI,ok.gn⟩
section
variable{X:Cx}{z8:List (Addr×Obj)}{σ:St}{H:Hp}{s:Shared}{E:Value->Shared->Prop}
theorem Inv.qC(I:Inv X z8 σ H s)(E:Value->Shared->Prop):Inv (X.qC E) z8 σ H s:=⟨I.ok.qC E,I.os,I.bare,I.base,I.loc,I.cell,I.free,I.ut,I.pin,I.zj,I.len⟩
theorem Inv.j3(I:Inv (X.qC E) z8 σ H s):Inv X z8 σ H s:=⟨I.ok.j3,I.os,I.bare,I.base,I.loc,I.cell,I.free,I.ut,I.pin,I.zj,I.len⟩
theorem SP.j3{D:uT}{f:Flow}{s':Shared}(h:SP (X.qC E) z8 D f s'):SP X z8 D f s':=by
 cases f with
 |next=>obtain⟨σ',H',I,q⟩:=h; exact⟨σ',H',I.j3,q⟩
 |brk=>obtain⟨σ',H',I,q⟩:=h; exact⟨σ',H',I.j3,q⟩
 |cont=>obtain⟨σ',H',I,q⟩:=h; exact⟨σ',H',I.j3,q⟩
 |ret u=>obtain⟨v,σ',H',I,r,q⟩:=h; exact⟨v,σ',H',I.j3,r,q⟩
theorem vo.tJ{st:List Stmt}{t:TS}(h:vo X.tJ st t):vo X st t:=λz8 s σ H D I hw=>
 va (h z8 s σ H D (I.qC _) hw) (λ_ _ q=>q.j3) λ_ _ z=>False.elim z
end
section
variable{X:Cx}{st:Stmt}{yy:List Stmt}{t u:TS}{e:Expr}{te:TE}{pos:Pos}
noncomputable def lX:TS:=λD σ H=>D.nx σ H
noncomputable def lg(t u:TS):TS:=λD σ H=>t { D with nx:=u D } σ H
theorem dq:vo X [] lX:=λ_ _ σ H _ I h=>JK ⟨σ,H,I,h⟩
theorem dj(h1:PS X st t)(h2:vo X yy u):vo X (st::yy) (lg t u):=by
 intro z8 s σ H D I h;refine D5 (zw (h1 z8 s σ H { D with nx:=u D } I h) λf s1 q=>?_);cases f with
 |next=>
  obtain⟨σ',H',I',q⟩:=q;exact h2 z8 s1 σ' H' D I' q
 |ret v=>exact q
 |brk=>exact q
 |cont=>exact q
theorem dr(h1:PS X st t):vo X [st] t:=by
 intro z8 s σ H D I h;refine D5 (zw (h1 z8 s σ H D I h) λf s1 q=>?_);cases f with
 |next=>exact JK q
 |ret v=>exact q
 |brk=>exact q
 |cont=>exact q
theorem Inv.quiet{z8:List (Addr×Obj)}{σ:St}{H:Hp}{s:Shared}(I:Inv X z8 σ H s):interactive X.env=false:=by simp[interactive,I.ok.kind]
noncomputable def Hj(te:TE):TS:=λD σ H=>te σ H λ_ H1=>D.nx σ H1
theorem da(he:PE X e te)(hs:swapsWith e none pos.line X.env=pure false:=by rfl):PS X (.Expr e pos) (Hj te):=by
 intro z8 s σ H D I h;exact wpAny_Expr_any (zw (he z8 s σ H _ I h) λv s1 ⟨x,H1,I1,r1,q1⟩=>⟨σ,H1,I1,q1⟩) I.quiet hs
noncomputable def Hk(te:TE):TS:=λD σ H=>te σ H D.rt
theorem Lk(he:PE X e te):PS X (.Return (some e) pos) (Hk te):=by
 intro z8 s σ H D I h;exact wpAny_Return_some (zw (he z8 s σ H _ I h) λv s1 ⟨x,H1,I1,r1,q1⟩=>⟨x,σ,H1,I1,r1,q1⟩)
noncomputable def lR(c:TT)(t u:TS):TS:=λD σ H=>c σ H λb H1=>if b=true then t D σ H1 else u D σ H1
theorem db{c:Expr}{a b:List Stmt}{tc:TT}(hc:PT X c tc)(ha:vo X a t)(hb:vo X b u):PS X (.If c a b pos) (lR tc t u):=by
 intro z8 s σ H D I h;refine wpAny_If (zw (hc z8 s σ H _ I h) λd s1 ⟨H1,I1,q1⟩=>?_);cases d with
 |true=>exact ha z8 s1 σ H1 D I1 q1
 |false=>exact hb z8 s1 σ H1 D I1 q1
noncomputable def lW:TS:=λ_ _ _=>False
theorem dm{sts:List Stmt}:vo X sts lW:=λ_ _ _ _ _ _ h=>h.elim
end
noncomputable abbrev TG:=V->St->Hp->(St->Hp->Prop)->Prop
noncomputable abbrev pC:=List V->St->Hp->(St->Hp->Prop)->Prop
noncomputable def PG(X:Cx)(target:Expr)(t:TG):Prop:=
 ∀(z8:List (Addr×Obj)) (s:Shared) (σ:St) (H:Hp) (v:V) (u:Value) (Q:St->Hp->Prop),Inv X z8 σ H s->yB v u->t v σ H Q->
  wpAny (model X.prog X.w) X.A (assign target X.env u) (λ_ s'=>∃σ' H',Inv X z8 σ' H' s'/\Q σ' H') X.xe s
noncomputable def XZ(X:Cx)(ts:List Expr)(t:pC):Prop:=
 ∀(z8:List (Addr×Obj)) (s:Shared) (σ:St) (H:Hp) (vs:List V) (us:List Value) (Q:St->Hp->Prop),Inv X z8 σ H s->zz vs us->t vs σ H Q->
  wpAny (model X.prog X.w) X.A (assignInOrder ((assignEach ts X.env).map (·.2)) us) (λ_ s'=>∃σ' H',Inv X z8 σ' H' s'/\Q σ' H') X.xe s
noncomputable abbrev Vn:=V->V->V->Hp->(Hp->Prop)->Prop
noncomputable def Iq(X:Cx)(t:Vn):Prop:=
 ∀(z8:List (Addr×Obj)) (s:Shared) (σ:St) (H:Hp) (o i v:V) (ov iv u:Value) (Q:Hp->Prop),Inv X z8 σ H s->yB o ov->yB i iv->yB v u->t o i v H Q->
  wpAny (model X.prog X.w) X.A (setItem ov iv u) (λ_ s'=>∃H',Inv X z8 σ H' s'/\Q H') X.xe s
noncomputable abbrev Xa:=V->V->Hp->VK->Prop
noncomputable def Ip(X:Cx)(op:Operator)(t:Xa):Prop:=
 ∀(z8:List (Addr×Obj)) (s:Shared) (σ:St) (H:Hp) (x y:V) (v u:Value) (Q:VK),Inv X z8 σ H s->yB x v->yB y u->t x y H Q->
  wpAny (model X.prog X.w) X.A (inplaceOp op v u) (EP X z8 σ Q) X.xe s
section
variable{X:Cx}{pos:Pos}
noncomputable def vw(i:Nat):TG:=λv σ H Q=>Q (σ.set i (some v)) H
theorem cv{i:Nat}{x:Str}(hN:X.N.Nodup)(hi:X.N[i]?=some x)(hx:p9 X.env.scope x)(hf:X.fn x=true\/X.env.scope.names.lookup x=some .local:=by first|exact .inl rfl|exact .inr rfl|assumption):PG X (.Name x pos) (vw i):=by
 intro z8 s σ H v u Q I r h;exact wpAny_assign_Name (B8 I hN hi hx r (λs' I'=>⟨_,H,I',h⟩) hf)
noncomputable def Y7:pC:=λvs σ H Q=>vs=[]/\Q σ H
noncomputable def qQ(t:TG)(u:pC):pC:=λvs σ H Q=>∃v r,vs=v::r/\t v σ H λσ' H'=>u r σ' H' Q
theorem cz:XZ X [] Y7:=by
 intro z8 s σ H vs us Q I r h;obtain⟨e,h⟩:=h;subst e;cases r;exact assignInOrder_nil ⟨σ,H,I,h⟩
theorem cy{e:Expr}{es:List Expr}{t:TG}{u:pC}(h1:PG X e t)(h2:XZ X es u)
  (hs:(assignEach (e::es) X.env).map (·.2)=assign e X.env::(assignEach es X.env).map (·.2):=by rfl):XZ X (e::es) (qQ t u):=by
 intro z8 s σ H vs us Q I r h;obtain⟨v,vr,e1,h⟩:=h;subst e1;cases r with
 |cons r rr=>
  rw[hs];refine assignInOrder_cons (zw (h1 z8 s σ H _ _ _ I r h) λ_ s1 ⟨σ1,H1,I1,q1⟩=>?_);exact h2 z8 s1 σ1 H1 _ _ Q I1 rr q1
noncomputable def Y9(K:W.Frag)(n:Nat)(t:pC):TG:=λv σ H Q=>∃a xs,v=.ref a/\xH K H a xs/\xs.length=n/\t xs σ H Q
theorem cx{es:List Expr}{k:Nat}{t:pC}{n:Nat}(hc:X.calm=true)(h:XZ X es t)
  (hn:(assignEach es X.env).length=n:=by rfl)(hst:(assignEach es X.env).findIdx? (·.1)=none:=by rfl):PG X (.Tuple es k pos) (Y9 X.K n t):=by
 intro z8 s σ H v u Q I r hw;obtain⟨a,xs,e1,hq,hl,hw⟩:=hw;subst e1;cases r;obtain⟨its,rv,ht,hz⟩:=I.tuple hq;refine assign_Tuple_tuple (I.ok.hd hc) ht (by simp[hn,<-hl,rv.length]) hst λh' hx=>?_
 have I1:Inv X z8 σ H { s with heap:=h' }:=I.kept (t':=s.toks) λb o e=>hx b o (u7 (yh e)) e
 exact h z8 _ σ H xs _ Q I1 (by simpa using rv) hw
noncomputable def FW(to ti:TE)(t:Vn):TG:=λv σ H Q=>to σ H λo H1=>ti σ H1 λi H2=>t o i v H2 λH3=>Q σ H3
theorem cw{o i:Expr}{to ti:TE}{t:Vn}(ho:PE X o to)(hi:PE X i ti)(hs:Iq X t)
  (ha:∀v,assign (.Subscript o i pos) X.env v=(do
   let ov <-holding [v] (eval o X.env)
   let iv <-holding [v,ov] (eval i X.env)
   standAt pos
   holding [v,ov,iv] (setItem ov iv v)
   release [v,ov,iv] []):=by intro _; rfl):PG X (.Subscript o i pos) (FW to ti t):=by
 intro z8 s σ H v u Q I r h;rw[ha];refine zR (Zd (zw (ho z8 s σ H _ I h) λov s1 ⟨x,H1,I1,r1,q1⟩=>?_));refine zR (Zd (zw (hi z8 s1 σ H1 _ I1 q1) λiv s2 ⟨y,H2,I2,r2,q2⟩=>?_));refine zR (JL (zR (Zd (zw (hs z8 s2 σ H2 x y v ov iv u _ I2 r1 r2 r q2) λ_ s3 ⟨H3,I3,q3⟩=>?_))));exact wpAny_release ⟨σ,H3,I3,q3⟩
noncomputable def BD(te:TE)(g:TG):TS:=λD σ H=>te σ H λx H1=>g x σ H1 D.nx
theorem Ex{tg e:Expr}{te:TE}{g:TG}(he:PE X e te)(hg:PG X tg g)(hs:swapsWithSole [tg] e pos.line X.env=pure false:=by rfl)(hw:swappedStores [tg] e X.env=pure none:=by rfl)
  (h1:(assignEach [tg] X.env).map (·.2)=[assign tg X.env]:=by rfl):PS X (.Assign [tg] e pos) (BD te g):=by
 intro z8 s σ H D I h;refine wpAny_Assign_stores (zw (he z8 s σ H _ I h) λv s1 ⟨x,H1,I1,r1,q1⟩=>?_) hs hw;rw[h1];exact zw (hg z8 s1 σ H1 x v _ I1 r1 q1) λ_ s2 q=>q
theorem dg{i:Nat}{x:Str}{e:Expr}{te:TE}{pos':Pos}(hN:X.N.Nodup)(hi:X.N[i]?=some x)(hx:p9 X.env.scope x)(he:PE X e te)(hs:swapsWith e (some (.Name x pos')) pos.line X.env=pure false:=by rfl)(hf:X.fn x=true\/X.env.scope.names.lookup x=some .local:=by first|exact .inl rfl|exact .inr rfl|assumption) :
  PS X (.Assign [.Name x pos'] e pos) (BD te (vw i)):=by
 intro z8 s σ H D I h;refine wpAny_Assign_Name (zw (he z8 s σ H _ I h) λv s1 ⟨y,H1,I1,r1,q1⟩=>?_) hs;exact B8 I1 hN hi hx r1 (λs2 I2=>⟨_,H1,I2,q1⟩) hf
noncomputable def lL(i:Nat)(te:TE)(ti:Xa):TS:=λD σ H=>∃x,σ[i]?=some (some x)/\te σ H λy H1=>ti x y H1 λz H2=>D.nx (σ.set i (some z)) H2
theorem dY{i:Nat}{x:Str}{e:Expr}{te:TE}{op:Operator}{ti:Xa}{pos':Pos}(hN:X.N.Nodup)(hi:X.N[i]?=some x)(hx:p9 X.env.scope x)(he:PE X e te)(ho:Ip X op ti)(hf:X.fn x=true\/X.env.scope.names.lookup x=some .local:=by first|exact .inl rfl|exact .inr rfl|assumption) :
  PS X (.AugAssign (.Name x pos') op e pos) (lL i te ti):=by
 intro z8 s σ H D I h;obtain⟨v,e1,h⟩:=h;obtain⟨m,hn,hl⟩:=I.loc;have vis:tQ X.env.scope x:=by rcases hx with k|k; exact .inl k; exact .inr (.inl k)
 obtain⟨u,r,l⟩:=hl i x v hi e1 vis;refine wpAny_AugAssign_Name ?_
 have go:wpAny (model X.prog X.w) X.A (eval e X.env) (λw s₂=>wpAny (model X.prog X.w) X.A (inplaceOp op u w) (λr s₃=>wpAny (model X.prog X.w) X.A (storeName X.env x r) (λ_=>SP X z8 D .next) X.xe s₃) X.xe s₂) X.xe s:=by
  refine zw (he z8 s σ H _ I h) λw s1 ⟨y,H1,I1,r1,q1⟩=>?_
  refine zw (ho z8 s1 σ H1 v y u w _ I1 r r1 q1) λz s2 ⟨zv,H2,I2,r2,q2⟩=>?_
  exact B8 I2 hN hi hx r2 (λs3 I3=>⟨_,H2,I3,q2⟩) hf
 rcases l with⟨hk,hm⟩|⟨hk,c,hc,hcell⟩
 ·exact wpAny_loadName_local I.ok.kind hk hn hm go
 ·rcases hk with hk|hk
  ·exact wpAny_loadName_cell I.ok.kind hk hc hcell go
  ·rcases hx with k|k
   ·have:X.env.scope.names.lookup x=some .free:=hk;rw[k]at this; cases this
   ·have:X.env.scope.names.lookup x=some .free:=hk;rw[k]at this; cases this
noncomputable def Fx(f:Int->Int->Int):Xa:=λx y H Q=>∃i j,x=.int i/\y=.int j/\Q (.int (f i j)) H
theorem Fy:Ip X .Add (Fx λi j=>i+j):=by
 intro z8 s σ H x y v u Q I r1 r2 h;obtain⟨i,j,e1,e2,q⟩:=h;subst e1; subst e2;obtain⟨t,rfl⟩:=r1;obtain⟨t',rfl⟩:=r2;exact iadd_int ⟨.int _,H,I.tok _,⟨_,rfl⟩,q⟩
end
section
variable{X:Cx}{pos:Pos}
noncomputable def lr(c:TT)(tb:TS):TS:=λD σ H=>∃W:Nat->St->Hp->Prop,(∃m,W m σ H)/\∀m σ H,W m σ H->
 c σ H λb H1=>if b=true then ∃N:St->Hp->Prop,(∀σ' H',N σ' H'->∃m',m'<m/\W m' σ' H')/\tb { D with nx:=N,ct:=N,bk:=D.nx } σ H1 else D.nx σ H1
theorem di{c:Expr}{body:List Stmt}{tc:TT}{tb:TS}(hp:PassesOwn (model X.prog X.w) X.A X.env X.xe)(hc:PT X c tc)(hb:vo X body tb):PS X (.While c body [] pos) (lr tc tb):=by
 intro z8 s σ H D I h;obtain⟨W,⟨m0,w0⟩,turn⟩:=h;refine wpAny_While (codeAny_whileLoop (λn s'=>∃σ' H',Inv X z8 σ' H' s'/\W n σ' H') ?_ m0 ⟨σ,H,I,w0⟩);rintro n s1 ⟨σ1,H1,I1,w1⟩;refine Zf hp (zw (hc z8 s1 σ1 H1 _ I1 (turn n σ1 H1 w1)) λb s2 ⟨H2,I2,q2⟩=>?_);cases b with
 |true=>
  obtain⟨N,hN,q2⟩:=q2;rw[zP rfl];refine Zf hp (zw (hb z8 s2 σ1 H2 _ I2 q2) λf s3 q3=>?_);cases f with
  |next=>
   obtain⟨σ3,H3,I3,n3⟩:=q3;obtain⟨m',hm,w3⟩:=hN σ3 H3 n3;exact⟨m',hm,σ3,H3,I3,w3⟩
  |cont=>
   obtain⟨σ3,H3,I3,n3⟩:=q3;obtain⟨m',hm,w3⟩:=hN σ3 H3 n3;exact⟨m',hm,σ3,H3,I3,w3⟩
  |brk=>exact q3
  |ret v=>exact q3
 |false=>
  rw[zV xf];exact JK ⟨σ1,H2,I2,q2⟩
end
structure It where
 go:Nat->Hp->Prop
 vQ:Nat->Hp->V->Hp->Prop
 stop:Nat->Hp->Prop
noncomputable def tN(X:Cx)(z8:List (Addr×Obj))(H:Hp)(b:Addr):Prop:=
 H b=none/\b≠X.env.locals/\b ∉ X.fs/\(b∈X.ex\/X.s₀.heap.objs.size<=b)/\(∀x c,X.env.cells.lookup x=some c->c≠b)/\∀p∈X.pn++z8,p.1≠b
theorem Inv.p_{X:Cx}{z8:List (Addr×Obj)}{σ:St}{H H':Hp}{s:Shared}{b:Addr}(I:Inv X z8 σ H s)(hb:s.heap.objs.size<=b)(hn:H' b=none):tN X z8 H' b:=by
 refine⟨hn,Yy (wW I.lt hb),I.DC hb,.inr (xO I.sz hb),λx c e z=>?_,λp hp z=>?_⟩
 ·obtain⟨v,q⟩:=I.cell x c e;exact absurd (wW q.lt (by rw[z]; exact hb)) (v6 _)
 ·exact absurd (wW (yh (I.pin p hp).1) (by rw[z]; exact hb)) (v6 _)
structure qI(P:Program)(w:World)(K:W.Frag)(tg:Expr)(J:It)(fp:List Addr)(it:Addr)(tn:Nat->Heap->Prop):Prop where
 mem:it∈fp
 obj:∀i h,tn i h->∀b∈fp,∃o,h.get? b=some o/\∀v,o.data≠.cell v
 keep:∀i h h',tn i h->(∀b∈fp,∀o,h.get? b=some o->h'.get? b=some o)->tn i h'
 item:∀(X:Cx),X.prog=P->X.w=w->X.K=K->X.calm=true->∀(i:Nat)(z8:List (Addr×Obj)) (s:Shared) (σ:St) (H:Hp) (E:Value->Shared->Prop),Inv X z8 σ H s->(∀b∈fp,tN X z8 H b)->tn i s.heap->J.go i H->
  wpAny (model P w) X.A (pyNext (.ref it)) (λr s1=>∃u,r=some u/\
   wpAny (model P w) X.A (letOwnedTupleGo tg (.ref it) u) (λ_ s2=>∃x H',Inv X z8 σ H' s2/\yB x u/\J.vQ i H x H'/\tn (i+1) s2.heap/\∀b∈fp,H' b=none) E s1) E s
 done:∀(X:Cx),X.prog=P->X.w=w->X.K=K->X.calm=true->∀(i:Nat)(z8:List (Addr×Obj)) (s:Shared) (σ:St) (H:Hp) (E:Value->Shared->Prop),Inv X z8 σ H s->(∀b∈fp,tN X z8 H b)->tn i s.heap->J.stop i H->
  wpAny (model P w) X.A (pyNext (.ref it)) (λr s1=>r=none/\Inv X z8 σ H s1) E s
 self:∀(A:Around)(i:Nat)(s:Shared)(Q:Value->Shared->Prop)(E:Value->Shared->Prop),tn i s.heap->Q (.ref it) s->wpAny (model P w) A (pyIter (.ref it)) Q E s
noncomputable abbrev TI:=St->Hp->(It->Hp->Prop)->Prop
noncomputable def Io(X:Cx)(z8:List (Addr×Obj))(σ:St)(tg:Expr)(R:It->Hp->Prop)(itv:Value)(s2:Shared):Prop:=
 ∃(it:Addr) (fp:List Addr) (tn:Nat->Heap->Prop) (J:It) (H':Hp),itv=.ref it/\Inv X z8 σ H' s2/\qI X.prog X.w X.K tg J fp it tn/\tn 0 s2.heap/\(∀b∈fp,tN X z8 H' b)/\R J H'
noncomputable def PI(X:Cx)(tg iter:Expr)(wi:TI):Prop:=
 ∀(z8:List (Addr×Obj)) (s:Shared) (σ:St) (H:Hp) (R:It->Hp->Prop),Inv X z8 σ H s->wi σ H R->
  wpAny (model X.prog X.w) X.A (eval iter X.env) (λv s1=>wpAny (model X.prog X.w) X.A (pyIter v) (Io X z8 σ tg R) X.xe s1) X.xe s
theorem YC{M:Model}{A:Around}{E:Value→Shared→Prop}{s:Shared}{tg:Expr}{it:Addr}{u:Value}{o:Obj}{n:String}{vs:Array Value}{Q:Unit→Shared→Prop}(ho:s.heap.get? it=some o)(hc:o.cls=.type n)(hd:o.data=.fields vs)
    (hn:["enumerate", "zip", "dict_itemiterator", "dict_reverseitemiterator", "odict_iterator", "itertools.zip_longest", "itertools.pairwise"].contains n=false)(hQ:Q () s):wpAny M A (letOwnedTupleGo tg (.ref it) u) Q E s:=by
  unfold letOwnedTupleGo
  cases tg<;>first
    |exact yW hQ
    | (cases u<;>first
        |exact yW hQ
        | (refine zR (wpAny_load ho ?_)
           rw[hc,hd];show wpAny M A (if(["enumerate", "zip", "dict_itemiterator", "dict_reverseitemiterator", "odict_iterator", "itertools.zip_longest", "itertools.pairwise"].contains n&&vs[0]?==some (rawInt _))=true then _ else _) Q E s;rw[zV (by intro h; rw[hn,u4]at h; cases h)];exact yW hQ))
noncomputable def Ii(K:W.Frag)(a:Addr):It:=
 ⟨λi H=>∃xs x,yj K H a xs/\xs[i]?=some x,λi H x H'=>H'=H/\∀xs,yj K H a xs->xs[i]?=some x,λi H=>∃xs,yj K H a xs/\xs.length<=i⟩
noncomputable def Ij(K:W.Frag)(a:Addr):It:=
 ⟨λi H=>∃xs x,xH K H a xs/\xs[i]?=some x,λi H x H'=>H'=H/\∀xs,xH K H a xs->xs[i]?=some x,λi H=>∃xs,xH K H a xs/\xs.length<=i⟩
noncomputable def XV(lo:Int)(n:Nat):It:=⟨λi _=>i<n,λi H x H'=>H'=H/\x=.int (lo+i),λi _=>n<=i⟩
theorem nX{P:Program}{w:World}{K:W.Frag}{tg:Expr}(a it:Addr):qI P w K tg (Ii K a) [it] it (λi h=>h.IsListIter it a i) where
 mem:=by simp
 obj:=λi h st b hb=>by
  have e:b=it:=by simpa using hb
  subst e;obtain⟨o,e,c,d⟩:=st;exact⟨o,e,λv z=>by rw[d]at z; cases z⟩
 keep:=λi h h' st k=>st.at λo e=>k it (by simp) o e
 item:=by
  intro X hP hw hK hc i z8 s σ H E I hf st hg;subst hP hw hK;obtain⟨xs,x,hq,hx⟩:=hg;obtain⟨its,rv,p,hz⟩:=I.list hq;obtain⟨u,hu,ru⟩:=rv.get hx;obtain⟨f0,f1,f2,f3,f4,f5⟩:=hf it (by simp);refine wpAny_pyNext_list_item st p.isList (x:=u) (by simpa using hu) λh' st' sb=>?_
  have I1:Inv X z8 σ H { s with heap:=h' }:=I.turned (t':=s.toks) (λb o hb e=>(sb.2 b hb).trans e) f0 f1 f3 f4 f5;obtain⟨o,e,c,d⟩:=id st';exact⟨u,rfl,YC (s:={ s with heap:=h' }) e c d (by decide) ⟨x,H,I1,ru,⟨rfl,λys hy=>by rw[I.VA hy hq]; exact hx⟩,st',λb hb=>(hf b hb).1⟩⟩
 done:=by
  intro X hP hw hK hc i z8 s σ H E I hf st hg;subst hP hw hK;obtain⟨xs,hq,hx⟩:=hg;obtain⟨its,rv,p,hz⟩:=I.list hq;obtain⟨f0,f1,f2,f3,f4,f5⟩:=hf it (by simp);have hl:=rv.length;exact wpAny_pyNext_list_end (I.ok.hd hc) st p.isList (by simp; omega) λh' eb=>⟨rfl,I.turned (t':=s.toks) (λb o hb e=>eb b o hb e) f0 f1 f3 f4 f5⟩
 self:=λ_ _ _ _ _ st h=>wpAny_pyIter_listiter st h
theorem nc{P:Program}{w:World}{K:W.Frag}{tg:Expr}(a it:Addr):qI P w K tg (Ij K a) [it] it (λi h=>h.IsTupleIter it a i) where
 mem:=by simp
 obj:=λi h st b hb=>by
  have e:b=it:=by simpa using hb
  subst e;obtain⟨o,e,c,d⟩:=st;exact⟨o,e,λv z=>by rw[d]at z; cases z⟩
 keep:=λi h h' st k=>st.at λo e=>k it (by simp) o e
 item:=by
  intro X hP hw hK hc i z8 s σ H E I hf st hg;subst hP hw hK;obtain⟨xs,x,hq,hx⟩:=hg;obtain⟨its,rv,p,hz⟩:=I.tuple hq;obtain⟨u,hu,ru⟩:=rv.get hx;obtain⟨f0,f1,f2,f3,f4,f5⟩:=hf it (by simp);refine wpAny_pyNext_tuple_item st (show s.heap.IsTuple a its.toArray from p) (x:=u) (by simpa using hu) λh' st' sb=>?_
  have I1:Inv X z8 σ H { s with heap:=h' }:=I.turned (t':=s.toks) (λb o hb e=>(sb.2 b hb).trans e) f0 f1 f3 f4 f5;obtain⟨o,e,c,d⟩:=id st';exact⟨u,rfl,YC (s:={ s with heap:=h' }) e c d (by decide) ⟨x,H,I1,ru,⟨rfl,λys hy=>by rw[I.JT hy hq]; exact hx⟩,st',λb hb=>(hf b hb).1⟩⟩
 done:=by
  intro X hP hw hK hc i z8 s σ H E I hf st hg;subst hP hw hK;obtain⟨xs,hq,hx⟩:=hg;obtain⟨its,rv,p,hz⟩:=I.tuple hq;obtain⟨f0,f1,f2,f3,f4,f5⟩:=hf it (by simp);have hl:=rv.length;exact wpAny_pyNext_tuple_end (I.ok.hd hc) st (show s.heap.IsTuple a its.toArray from p) (by simp; omega) λh' eb=>⟨rfl,I.turned (t':=s.toks) (λb o hb e=>eb b o hb e) f0 f1 f3 f4 f5⟩
 self:=λ_ _ _ _ _ st h=>wpAny_pyIter_tupleiter st h
theorem nY{P:Program}{w:World}{K:PySem.W.Frag}{tg:Expr}(it:Addr)(lo:Int)(n:Nat):qI P w K tg (XV lo n) [it] it (λi h=>IsRangeIter h it (lo+(i:Nat)*1) ((n:Int)-(i:Nat)) 1) where
 mem:=by simp
 obj:=λi h st b hb=>by
  have e:b=it:=by simpa using hb
  subst e
  exact⟨_,st,λv z=>by
   have z':Data.fields _=Data.cell v:=z;cases z'⟩
 keep:=λi h h' st k=>k it (by simp) _ st
 item:=by
  intro X hP hw hK hc i z8 s σ H E I hf st hg;subst hP hw hK;obtain⟨f0,f1,f2,f3,f4,f5⟩:=hf it (by simp);have W:=Walks.range (prog:=X.prog) (w:=X.w) (I.ok.hd hc) it lo 1 n;refine W.item i s _ _ hg st λv h' tk hv st' kk=>?_
  obtain⟨t,rfl⟩:=hv;have I1:Inv X z8 σ H { s with heap:=h',toks:=tk }:=I.turned (λb o hb e=>kk b o (by simpa using hb) e) f0 f1 f3 f4 f5;refine⟨_,rfl,YC (s:={ s with heap:=h',toks:=tk }) (n := "range_iterator") st' rfl rfl (by decide) ⟨.int (lo+i),H,I1,⟨t,?_⟩,⟨rfl,rfl⟩,st',λb hb=>(hf b hb).1⟩⟩;rw[Bd]
 done:=by
  intro X hP hw hK hc i z8 s σ H E I hf st hg;subst hP hw hK;obtain⟨f0,f1,f2,f3,f4,f5⟩:=hf it (by simp);exact wpAny_pyNext_range_end (I.ok.hd hc) st (by have:n<=i:=hg; omega) λh' eb=>⟨rfl,I.turned (t':=s.toks) (λb o hb e=>eb b o hb e) f0 f1 f3 f4 f5⟩
 self:=λ_ _ _ _ _ st h=>wpAny_pyIter_rangeiter st h
section
variable{X:Cx}{tg:Expr}
noncomputable def S9(K:W.Frag)(tl:TE):TI:=λσ H R=>tl σ H λx H1=>∃a,x=.ref a/\(∃xs,yj K H1 a xs)/\R (Ii K a) H1
noncomputable def SL(K:W.Frag)(tl:TE):TI:=λσ H R=>tl σ H λx H1=>∃a,x=.ref a/\(∃xs,xH K H1 a xs)/\R (Ij K a) H1
theorem dA{l:Expr}{tl:TE}(hl:PE X l tl):PI X tg l (S9 X.K tl):=by
 intro z8 s σ H R I h;refine zw (hl z8 s σ H _ I h) λv s1 ⟨x,H1,I1,r1,q1⟩=>?_
 obtain⟨a,e,⟨xs,hq⟩,q⟩:=q1;subst e;cases r1;obtain⟨its,rv,p,hz⟩:=I1.list hq;refine D6 p.isList ?_;refine⟨s1.heap.objs.size,[s1.heap.objs.size],_,_,H1,rfl,I1.kept (t':=s1.toks) λb o e=>yx _ e,nX a _,⟨_,wG _ rfl,rfl,rfl⟩,λb hb=>?_,q⟩;have e:b=s1.heap.objs.size:=by simpa using hb
 subst e;exact I1.p_ (y0 _) (I1.zj.fresh (y0 _))
theorem dE{l:Expr}{tl:TE}(hl:PE X l tl):PI X tg l (SL X.K tl):=by
 intro z8 s σ H R I h;refine zw (hl z8 s σ H _ I h) λv s1 ⟨x,H1,I1,r1,q1⟩=>?_
 obtain⟨a,e,⟨xs,hq⟩,q⟩:=q1;subst e;cases r1;obtain⟨its,rv,p,hz⟩:=I1.tuple hq;refine wpAny_pyIter_tuple (show s1.heap.IsTuple a its.toArray from p) ?_;refine⟨s1.heap.objs.size,[s1.heap.objs.size],_,_,H1,rfl,I1.kept (t':=s1.toks) λb o e=>yx _ e,nc a _,⟨_,wG _ rfl,rfl,rfl⟩,λb hb=>?_,q⟩;have e:b=s1.heap.objs.size:=by simpa using hb
 subst e;exact I1.p_ (y0 _) (I1.zj.fresh (y0 _))
theorem GV{z8:List (Addr×Obj)}{σ:St}{H:Hp}{s:Shared}{R:It->Hp->Prop}{E:Value->Shared->Prop}{lo hi:Int}{t u v:Tok}{tk:Nat}(I:Inv X z8 σ H s)(h1 : -(2 ^ 62)<=lo)(h2:lo<2 ^ 62)(h3 : -(2 ^ 62)<=hi)(h4:hi<2 ^ 62)
  (q:R (XV lo (hi-lo).toNat) H):wpAny (model X.prog X.w) X.A (pyIter (.ref s.heap.objs.size)) (Io X z8 σ tg R) E { s with heap:=s.heap.push { cls:=.type "range",data:=.fields #[.int lo t,.int hi u,.int 1 v] },toks:=tk }:=by
 refine wpAny_pyIter_range (IsRange.new ..) (small_one h1 h2 h3 h4) ?_;have I1:Inv X z8 σ H { s with heap:=s.heap.push { cls:=.type "range",data:=.fields #[.int lo t,.int hi u,.int 1 v] },toks:=tk }:=I.kept λb o e=>yx _ e
 refine⟨(s.heap.push { cls:=.type "range",data:=.fields #[.int lo t,.int hi u,.int 1 v] }).objs.size,[(s.heap.push { cls:=.type "range",data:=.fields #[.int lo t,.int hi u,.int 1 v] }).objs.size],_,_,H,rfl,
  I1.kept (t':=tk) λb o e=>yx _ e,nY _ lo (hi-lo).toNat,?_,λb hb=>?_,q⟩
 ·have e1:lo+((0:Nat):Int)*1=lo:=by simp
  have e2:(((hi-lo).toNat:Nat):Int)-((0:Nat):Int)=Builtin.Range.rangeSize lo hi 1:=by rw[rangeSize_one]; split<;>omega
  show IsRangeIter _ _ (lo+((0:Nat):Int)*1) ((((hi-lo).toNat:Nat):Int)-((0:Nat):Int)) 1;rw[e1,e2];exact wG _ rfl
 ·have e:b=(s.heap.push { cls:=.type "range",data:=.fields #[.int lo t,.int hi u,.int 1 v] }).objs.size:=by simpa using hb
  subst e;exact I1.p_ (y0 _) (I1.zj.fresh (y0 _))
noncomputable def SD(ta:TA):TI:=λσ H R=>ta σ H λvs H1=>∃j:Int,vs=[.int j] /\ -(2 ^ 62)<=j/\j<2 ^ 62/\R (XV 0 j.toNat) H1
noncomputable def SH(ta:TA):TI:=λσ H R=>ta σ H λvs H1=>∃i j:Int,vs=[.int i,.int j]/\(-(2 ^ 62)<=i/\i<2 ^ 62 /\ -(2 ^ 62)<=j/\j<2 ^ 62)/\R (XV i (j-i).toNat) H1
theorem dB{a:Expr}{ta:TA}{p pos:Pos}(hg:Gl X "range")(hm:X.mg "range" = none)(ha:PA X [a] ta)(hs:starEach [a] X.env=[(false,eval a X.env)]:=by rfl):PI X tg (.Call (.Name "range" p) [a] [] pos) (SD ta):=by
 intro z8 s σ H R I h;refine Call_ (gE I hg hm boot_range (Wx (zw (ha pos z8 s σ H _ I h) λus s1 ⟨vs,H1,I1,r1,q1⟩=>?_) hs rfl));obtain⟨j,e,q1,q2,q⟩:=q1;subst e;cases r1 with
 |cons r rr=>
  cases rr;obtain⟨t,rfl⟩:=r;exact call_range_1 (GV I1 (by omega) (by omega) q1 q2 (by simpa using q))
theorem dC{a b:Expr}{ta:TA}{p pos:Pos}(hg:Gl X "range")(hm:X.mg "range" = none)(ha:PA X [a,b] ta)(hs:starEach [a,b] X.env=[(false,eval a X.env),(false,eval b X.env)]:=by rfl)(hs2:starEach [b] X.env=[(false,eval b X.env)]:=by rfl) :
  PI X tg (.Call (.Name "range" p) [a,b] [] pos) (SH ta):=by
 intro z8 s σ H R I h;refine Call_ (gE I hg hm boot_range (Wx (zw (ha pos z8 s σ H _ I h) λus s1 ⟨vs,H1,I1,r1,q1⟩=>?_) (by rw[hs,hs2]) (by rw[hs2]; rfl)));obtain⟨i,j,e,⟨q1,q2,q3,q4⟩,q⟩:=q1;subst e;cases r1 with
 |cons r rr=>
  cases rr with
  |cons r' rr=>
   cases rr;obtain⟨t,rfl⟩:=r;obtain⟨t',rfl⟩:=r';exact call_range_2 (GV I1 q1 q2 q3 q4 q)
noncomputable def lP(wi:TI)(g:TG)(tb:TS):TS:=λD σ H=>wi σ H λJ H1=>∃W:Nat->Nat->St->Hp->Prop,(∃m,W 0 m σ H1)/\∀i m σ H,W i m σ H->
 (J.stop i H/\D.nx σ H)\/(J.go i H/\∃N:St->Hp->Prop,(∀σ' H',N σ' H'->∃m',m'<m/\W (i+1) m' σ' H')/\∀x H',J.vQ i H x H'->g x σ H' λσ2 H2=>tb { D with nx:=N,ct:=N,bk:=D.nx } σ2 H2)
noncomputable def WO(fp:List Addr)(h:Heap):List (Addr×Obj):=fp.filterMap λb=>(h.get? b).map λo=>(b,o)
theorem Tg{fp:List Addr}{h:Heap}{b:Addr}{o:Obj}(hb:b∈fp)(e:h.get? b=some o):(b,o)∈WO fp h:=Km.mpr ⟨b,hb,by rw[e]; rfl⟩
theorem am{fp:List Addr}{h:Heap}{p:Addr×Obj}(hp:p∈WO fp h):p.1∈fp/\h.get? p.1=some p.2:=by
 obtain⟨b,hb,e⟩:=Km.mp hp;cases q:h.get? b with
 |none=>rw[q]at e; cases e
 |some o=>
  rw[q]at e;have e':(b,o)=p:=vk e;subst e';exact⟨hb,q⟩
theorem Inv.pinned{z8:List (Addr×Obj)}{σ:St}{H:Hp}{s:Shared}{fp:List Addr}(I:Inv X z8 σ H s)(hf:∀b∈fp,tN X z8 H b)(ho:∀b∈fp,∃o,s.heap.get? b=some o/\∀v,o.data≠.cell v):Inv X (z8++WO fp s.heap) σ H s:=
 I.X8 λp hp=>(wb.mp hp).elim (λz=>I.pin p (ur _ z)) λz=>by
  obtain⟨hb,e⟩:=am z;obtain⟨f0,f1,f2,_⟩:=hf p.1 hb;obtain⟨o,e',d⟩:=ho p.1 hb;rw[e]at e'; cases e';exact⟨e,f0,f1,f2,d⟩
theorem Inv.JU{z8 pl:List (Addr×Obj)}{σ:St}{H:Hp}{s:Shared}(I:Inv X (z8++pl) σ H s):Inv X z8 σ H s:=I.X8 λp hp=>I.pin p (ur _ (Br _ hp))
theorem Ey{iter:Expr}{body:List Stmt}{wi:TI}{g:TG}{tb:TS}{pos:Pos}(hp:PassesOwn (model X.prog X.w) X.A X.env X.xe)(hc:X.calm=true)(hi:PI X tg iter wi)(hg:PG X tg g)(hb:vo X body tb)
  (hs:∀x,foldedSetIterable iter X.env x=pure x:=by intro _; rfl):PS X (.For tg iter body [] pos) (lP wi g tb):=by
 intro z8 s σ H D I h;refine wpAny_For (zw (hi z8 s σ H _ I h) λv s1 h1=>zw h1 λitv s2 h2=>?_) hs;obtain⟨it,fp,tn,J,H2,e,I2,T,st2,f2,W,⟨m0,w0⟩,turn⟩:=h2;subst e;have stat:∀{H':Hp},(∀b∈fp,H' b=none)->∀b∈fp,tN X z8 H' b:=λhn b hb=>⟨hn b hb,(f2 b hb).2⟩
 refine codeAny_forLoop_any (λn s'=>∃i σ' H',Inv X z8 σ' H' s'/\tn i s'.heap/\(∀b∈fp,H' b=none)/\W i n σ' H') ?_ m0 ⟨0,σ,H2,I2,st2,λb hb=>(f2 b hb).1,w0⟩;rintro n s3 ⟨i,σ3,H3,I3,st3,fr3,w3⟩;rcases turn i n σ3 H3 w3 with⟨stop,qn⟩|⟨go,N,hN,step⟩
 ·refine Zf hp (zw (T.done X rfl rfl rfl hc i z8 s3 σ3 H3 X.xe I3 (stat fr3) st3 stop) λr s4 ⟨hr,I4⟩=>?_);subst hr;exact JK ⟨σ3,H3,I4,qn⟩
 ·refine Zf hp (zw (T.item X rfl rfl rfl hc i z8 s3 σ3 H3 X.xe I3 (stat fr3) st3 go) λr s4 ⟨u,hr,h4⟩=>?_);subst hr;refine Zf hp (zw h4 λ_ s5 ⟨x,H5,I5,r5,y5,st5,fr5⟩=>?_);have I5':=I5.pinned (stat fr5) (T.obj _ _ st5);refine Zf hp (zw (hg _ s5 σ3 H5 x u _ I5' r5 (step x H5 y5)) λ_ s6 ⟨σ6,H6,I6,q6⟩=>?_);refine Zf hp (zw (hb _ s6 σ6 H6 _ I6 q6) λf s7 q7=>?_)
  have again:∀{σ7:St}{H7:Hp},Inv X (z8++WO fp s5.heap) σ7 H7 s7->N σ7 H7->∃m,m<n/\∃i σ' H',Inv X z8 σ' H' s7/\tn i s7.heap/\(∀b∈fp,H' b=none)/\W i m σ' H':=λ{σ7 H7} I7 n7=>by
   obtain⟨m',hm,w7⟩:=hN σ7 H7 n7;refine⟨m',hm,i+1,σ7,H7,I7.JU,T.keep _ _ _ st5 λb hb o e=>(I7.pin (b,o) (ur _ (ur _ (Tg hb e)))).1,λb hb=>?_,w7⟩;obtain⟨o,e,d⟩:=T.obj _ _ st5 b hb;exact(I7.pin (b,o) (ur _ (ur _ (Tg hb e)))).2.1
  cases f with
  |next=>obtain⟨σ7,H7,I7,n7⟩:=q7; exact again I7 n7
  |cont=>obtain⟨σ7,H7,I7,n7⟩:=q7; exact again I7 n7
  |brk=>obtain⟨σ7,H7,I7,q7⟩:=q7; exact⟨σ7,H7,I7.JU,q7⟩
  |ret v=>obtain⟨x7,σ7,H7,I7,r7,q7⟩:=q7; exact⟨x7,σ7,H7,I7.JU,r7,q7⟩
end
noncomputable abbrev R2:=V->V->Hp->VK->Prop
noncomputable def yi(X:Cx)(f:Value->Value->Sem Value)(r:R2):Prop:=
 ∀(z8:List (Addr×Obj)) (s:Shared) (σ:St) (H:Hp) (x y:V) (v u:Value) (Q:VK),Inv X z8 σ H s->yB x v->yB y u->r x y H Q->
  wpAny (model X.prog X.w) X.A (f v u) (EP X z8 σ Q) X.xe s
noncomputable def Xb(X:Cx)(f:Value->Sem Value)(r:V->Hp->VK->Prop):Prop:=
 ∀(z8:List (Addr×Obj)) (s:Shared) (σ:St) (H:Hp) (x:V) (v:Value) (Q:VK),Inv X z8 σ H s->yB x v->r x H Q->
  wpAny (model X.prog X.w) X.A (f v) (EP X z8 σ Q) X.xe s
noncomputable def wX(X:Cx)(f:Value)(r:List V->Hp->VK->Prop):Prop:=
 ∀(z8:List (Addr×Obj)) (s:Shared) (σ:St) (H:Hp) (xs:List V) (us:List Value) (Q:VK),Inv X z8 σ H s->zz xs us->r xs H Q->
  wpAny (model X.prog X.w) X.A (call f us) (EP X z8 σ Q) X.xe s
noncomputable def QO(r:R2)(ta tb:TE):TE:=λσ H Q=>ta σ H λx H1=>tb σ H1 λy H2=>r x y H2 Q
noncomputable def lm(r:V->Hp->VK->Prop)(ta:TE):TE:=λσ H Q=>ta σ H λx H1=>r x H1 Q
noncomputable def rI(C:Int->Int->Prop)(g:Int->Int->V):R2:=λx y H Q=>∃i j,x=.int i/\y=.int j/\C i j/\Q (g i j) H
noncomputable def ui(g:Int->Int->V):R2:=λx y H Q=>∃i j,x=.int i/\y=.int j/\Q (g i j) H
noncomputable def rU(g:Int->V):V->Hp->VK->Prop:=λx H Q=>∃i,x=.int i/\Q (g i) H
section
variable{X:Cx}{a b c:Expr}{ta tb tc:TE}{pos:Pos}
theorem OP(ha:PE X a ta)(hb:PE X b tb){z8:List (Addr×Obj)}{s:Shared}{σ:St}{H:Hp}{R:V->V->Hp->Prop}(I:Inv X z8 σ H s)
  (h:ta σ H λx H1=>tb σ H1 λy H2=>R x y H2){Q:Value->Shared->Prop}{f:Value->Value->Sem Value}
  (hf:∀v u s2 x y H2,Inv X z8 σ H2 s2->yB x v->yB y u->R x y H2->wpAny (model X.prog X.w) X.A (f v u) Q X.xe s2) :
  wpAny (model X.prog X.w) X.A (eval a X.env) (λv s₁=>wpAny (model X.prog X.w) X.A (eval b X.env) (λu s₂=>wpAny (model X.prog X.w) X.A (f v u) Q X.xe s₂) X.xe s₁) X.xe s:=by
 refine zw (ha z8 s σ H _ I h) λv s1 ⟨x,H1,I1,r1,q1⟩=>?_
 refine zw (hb z8 s1 σ H1 _ I1 q1) λu s2 ⟨y,H2,I2,r2,q2⟩=>?_
 exact hf v u s2 x y H2 I2 r1 r2 q2
theorem Eo{op:Operator}{r:R2}(ho:yi X (binaryOp op) r)(ha:PE X a ta)(hb:PE X b tb):PE X (.BinOp a op b pos) (QO r ta tb):=by
 intro z8 s σ H Q I h;exact wpAny_BinOp (OP ha hb I h λv u s2 x y H2 I2 rx ry q=>ho z8 s2 σ H2 x y v u Q I2 rx ry q)
theorem cs{op:UnaryOp}{r:V->Hp->VK->Prop}(ho:Xb X (unaryOp op) r)(ha:PE X a ta):PE X (.UnaryOp op a pos) (lm r ta):=by
 intro z8 s σ H Q I h;exact UnaryOp_ (zw (ha z8 s σ H _ I h) λv s1 ⟨x,H1,I1,r1,q1⟩=>ho z8 s1 σ H1 x v Q I1 r1 q1)
theorem YS{f:Value->Value->Sem Value}{C:Int->Int->Prop}{g:Int->Int->Int}
  (rule:∀(i j:Int)(t u:Tok)(s:Shared)(Q:Value->Shared->Prop)(E:Value->Shared->Prop),C i j->Q (.int (g i j) s.toks) { s with toks:=s.toks+1 }->wpAny (model X.prog X.w) X.A (f (.int i t) (.int j u)) Q E s) :
  yi X f (rI C λi j=>.int (g i j)):=by
 intro z8 s σ H x y v u Q I rx ry h;obtain⟨i,j,rfl,rfl,hc,q⟩:=h;obtain⟨t,rfl⟩:=rx;obtain⟨t',rfl⟩:=ry;exact rule i j t t' s _ _ hc ⟨.int (g i j),H,I.tok _,⟨_,rfl⟩,q⟩
theorem Tn{f:Value->Value->Sem Value}{g:Int->Int->Int}
  (rule:∀(i j:Int)(t u:Tok)(s:Shared)(Q:Value->Shared->Prop)(E:Value->Shared->Prop),Q (.int (g i j) s.toks) { s with toks:=s.toks+1 }->wpAny (model X.prog X.w) X.A (f (.int i t) (.int j u)) Q E s) :
  yi X f (ui λi j=>.int (g i j)):=by
 intro z8 s σ H x y v u Q I rx ry h;obtain⟨i,j,rfl,rfl,q⟩:=h;obtain⟨t,rfl⟩:=rx;obtain⟨t',rfl⟩:=ry;exact rule i j t t' s _ _ ⟨.int (g i j),H,I.tok _,⟨_,rfl⟩,q⟩
theorem Tm{f:Value->Value->Sem Value}{g:Int->Int->Bool}
  (rule:∀(i j:Int)(t u:Tok)(s:Shared)(Q:Value->Shared->Prop)(E:Value->Shared->Prop),Q (.bool (g i j)) s->wpAny (model X.prog X.w) X.A (f (.int i t) (.int j u)) Q E s) :
  yi X f (ui λi j=>.bl (g i j)):=by
 intro z8 s σ H x y v u Q I rx ry h;obtain⟨i,j,rfl,rfl,q⟩:=h;obtain⟨t,rfl⟩:=rx;obtain⟨t',rfl⟩:=ry;exact rule i j t t' s _ _ ⟨.bl (g i j),H,I,rfl,q⟩
noncomputable def XC(i j:Int):Prop:=0<=j/\j<=1000000/\i.natAbs<2 ^ 64
noncomputable def XB(i j:Int):Prop:=(-(2 ^ 64)<i/\i<2 ^ 64)\/(-(2 ^ 64)<j/\j<2 ^ 64)
theorem XB.ok{i j:Int}(h:XB i j):IntMulOk i j:=by
 rcases h with⟨h1,h2⟩|⟨h1,h2⟩
 ·exact .of_left (intBits_le_64 h1 h2)
 ·exact .of_right (intBits_le_64 h1 h2)
theorem oQ(k:Nat):(0:Int)<=2 ^ k:=by
 rw[two_pow_cast];exact Wq _
theorem cB:yi X (binaryOp .Add) (ui λi j=>.int (i+j)):=Tn λ_ _ _ _ _ _ _ q=>add_int q
theorem v_:yi X (binaryOp .Sub) (ui λi j=>.int (i-j)):=Tn λ_ _ _ _ _ _ _ q=>sub_int q
theorem pT:yi X (binaryOp .Mult) (rI XB λi j=>.int (i*j)):=YS λ_ _ _ _ _ _ _ hc q=>mul_int q hc.ok
theorem yl:yi X (binaryOp .Mod) (rI (λ_ j=>0<j) λi j=>.int (i%j)):=YS λi j _ _ _ _ _ hc q=>by
 have h1:(0:Int)<j:=hc;exact mod_int' (by omega) (by rw[Int.fmod_eq_emod_of_nonneg i (by omega)]; exact q)
theorem tY:yi X (binaryOp .Pow) (rI XC λi j=>.int (i ^ j.toNat)):=YS λ_ _ _ _ _ _ _ hc q=>pow_int_small hc.1 hc.2.1 hc.2.2 q
theorem WK:yi X (binaryOp .LShift) (rI XC λi j=>.int (i*2 ^ j.toNat)):=YS λ_ _ _ _ _ _ _ hc q=>lshift_int_small hc.1 hc.2.1 hc.2.2 q
theorem cP:yi X (binaryOp .RShift) (rI (λ_ j=>0<=j) λi j=>.int (i/2 ^ j.toNat)):=YS λi j _ _ _ _ _ hc q=>
 rshift_int hc (by rw[KW i (oQ _)]; exact q)
theorem Ec:yi X (binaryOp .BitAnd) (ui λi j=>.int (Builtin.bitAnd i j)):=Tn λ_ _ _ _ _ _ _ q=>and_int q
theorem cO:yi X (binaryOp .BitOr) (ui λi j=>.int (Builtin.bitOr i j)):=Tn λ_ _ _ _ _ _ _ q=>or_int q
theorem Hx{f:Value->Sem Value}{g:Int->Int}
  (rule:∀(i:Int)(t:Tok)(s:Shared)(Q:Value->Shared->Prop)(E:Value->Shared->Prop),Q (.int (g i) s.toks) { s with toks:=s.toks+1 }->wpAny (model X.prog X.w) X.A (f (.int i t)) Q E s) :
  Xb X f (rU λi=>.int (g i)):=by
 intro z8 s σ H x v Q I rx h;obtain⟨i,rfl,q⟩:=h;obtain⟨t,rfl⟩:=rx;exact rule i t s _ _ ⟨.int (g i),H,I.tok _,⟨_,rfl⟩,q⟩
theorem um:Xb X (unaryOp .USub) (rU λi=>.int (-i)):=Hx λ_ _ _ _ _ q=>neg_int q
theorem ou:Xb X (unaryOp .Invert) (rU λi=>.int (Builtin.bitNot i)):=Hx λ_ _ _ _ _ q=>invert_int q
theorem cC:yi X (binaryOp .Add) (λx y H Q=>∃i k,x=.int i/\y=.bl k/\Q (.int (i+b2i k)) H):=by
 intro z8 s σ H x y v u Q I rx ry h;obtain⟨i,k,rfl,rfl,q⟩:=h;obtain⟨t,rfl⟩:=rx;cases ry;exact add_int_bool ⟨.int (i+b2i k),H,I.tok _,⟨_,rfl⟩,q⟩
end
noncomputable def B1:V->V->Bool
 |.zD,.zD=>true|.zD,.int _=>true|.int _,.zD=>true|.zD,.bl _=>true|.bl _,.zD=>true|.zD,.str _=>true|.str _,.zD=>true
 |.int _,.int _=>true|.bl _,.bl _=>true|.str _,.str _=>true|.byt _,.byt _=>true
 |.int _,.str _=>true|.str _,.int _=>true|.bl _,.str _=>true|.str _,.bl _=>true
 |_,_=>false
noncomputable def eS:R2:=λx y H Q=>B1 x y=true/\Q (.bl (decide (x=y))) H
noncomputable def eZ:R2:=λx y H Q=>B1 x y=true/\Q (.bl (!decide (x=y))) H
theorem OX{i j:Int}:decide (V.int i=V.int j)=(i==j):=by
 rw[Wo];simp
theorem OW{i j:Bool}:decide (V.bl i=V.bl j)=(i==j):=by
 rw[Wo];simp
theorem OY{i j:Str}:decide (V.str i=V.str j)=(i==j):=by
 rw[Wo];simp
theorem Dx{i j:Array UInt8}:decide (V.byt i=V.byt j)=(i.toList==j.toList):=by
 rw[Wo];cases i;cases j;simp
section
variable{X:Cx}{a b c:Expr}{ta tb tc:TE}{pos:Pos}
theorem xV{z8:List (Addr×Obj)}{σ:St}{H:Hp}{s:Shared}{Q:VK}{k k':Bool}(I:Inv X z8 σ H s)(q:Q (.bl k) H)(e:k=k'):EP X z8 σ Q (.bool k') s:=by
 subst e;exact⟨.bl k,H,I,rfl,q⟩
theorem cF:yi X (compareOp .Eq) eS:=by
 intro z8 s σ H x y v u Q I rx ry h;obtain⟨hs,q⟩:=h;cases x with
 |zD=>
  cases rx;cases y with
  |zD=>cases ry; exact PySem.EqNone.eq_none_none (xV I q (by simp))
  |bl j=>cases ry; exact PySem.EqNone.eq_none_bool (xV I q (by simp))
  |int j=>obtain⟨t',rfl⟩:=ry; exact PySem.EqNone.eq_none_int (xV I q (by simp))
  |str j=>obtain⟨t',rfl⟩:=ry; exact PySem.EqNone.eq_none_str (xV I q (by simp))
  |_=>exact absurd (show false=true from hs) xf
 |bl i=>
  cases rx;cases y with
  |zD=>cases ry; exact PySem.EqNone.eq_bool_none (xV I q (by simp))
  |bl j=>cases ry; exact eq_bool (xV I q OW)
  |str j=>obtain⟨t',rfl⟩:=ry; exact PySem.EqMixed.eq_bool_str (xV I q (by simp))
  |_=>exact absurd (show false=true from hs) xf
 |int i=>
  obtain⟨t,rfl⟩:=rx;cases y with
  |zD=>cases ry; exact PySem.EqNone.eq_int_none (xV I q (by simp))
  |int j=>obtain⟨t',rfl⟩:=ry; exact eq_int (xV I q OX)
  |str j=>obtain⟨t',rfl⟩:=ry; exact PySem.EqMixed.eq_int_str (xV I q (by simp))
  |_=>exact absurd (show false=true from hs) xf
 |str i=>
  obtain⟨t,rfl⟩:=rx;cases y with
  |zD=>cases ry; exact PySem.EqNone.eq_str_none (xV I q (by simp))
  |bl j=>cases ry; exact PySem.EqMixed.eq_str_bool (xV I q (by simp))
  |int j=>obtain⟨t',rfl⟩:=ry; exact PySem.EqMixed.eq_str_int (xV I q (by simp))
  |str j=>obtain⟨t',rfl⟩:=ry; exact eq_str (xV I q OY)
  |_=>exact absurd (show false=true from hs) xf
 |byt i=>
  obtain⟨t,rfl⟩:=rx;cases y with
  |byt j=>obtain⟨t',rfl⟩:=ry; exact W.eq_bytes (xV I q Dx)
  |_=>exact absurd (show false=true from hs) xf
 |_=>cases y<;>exact absurd (show false=true from hs) xf
theorem cK:yi X (compareOp .NotEq) eZ:=by
 intro z8 s σ H x y v u Q I rx ry h;obtain⟨hs,q⟩:=h;cases x with
 |zD=>
  cases rx;cases y with
  |zD=>cases ry; exact PySem.EqNone.ne_none_none (xV I q (by simp))
  |bl j=>cases ry; exact PySem.EqNone.ne_none_bool (xV I q (by simp))
  |int j=>obtain⟨t',rfl⟩:=ry; exact PySem.EqNone.ne_none_int (xV I q (by simp))
  |str j=>obtain⟨t',rfl⟩:=ry; exact PySem.EqNone.ne_none_str (xV I q (by simp))
  |_=>exact absurd (show false=true from hs) xf
 |bl i=>
  cases rx;cases y with
  |zD=>cases ry; exact PySem.EqNone.ne_bool_none (xV I q (by simp))
  |bl j=>cases ry; exact ne_bool (xV I q (congrArg not OW))
  |str j=>obtain⟨t',rfl⟩:=ry; exact PySem.EqMixed.ne_bool_str (xV I q (by simp))
  |_=>exact absurd (show false=true from hs) xf
 |int i=>
  obtain⟨t,rfl⟩:=rx;cases y with
  |zD=>cases ry; exact PySem.EqNone.ne_int_none (xV I q (by simp))
  |int j=>obtain⟨t',rfl⟩:=ry; exact ne_int (xV I q (congrArg not OX))
  |str j=>obtain⟨t',rfl⟩:=ry; exact PySem.EqMixed.ne_int_str (xV I q (by simp))
  |_=>exact absurd (show false=true from hs) xf
 |str i=>
  obtain⟨t,rfl⟩:=rx;cases y with
  |zD=>cases ry; exact PySem.EqNone.ne_str_none (xV I q (by simp))
  |bl j=>cases ry; exact PySem.EqMixed.ne_str_bool (xV I q (by simp))
  |int j=>obtain⟨t',rfl⟩:=ry; exact PySem.EqMixed.ne_str_int (xV I q (by simp))
  |str j=>obtain⟨t',rfl⟩:=ry; exact ne_str (xV I q (congrArg not OY))
  |_=>exact absurd (show false=true from hs) xf
 |byt i=>
  obtain⟨t,rfl⟩:=rx;cases y with
  |byt j=>obtain⟨t',rfl⟩:=ry; exact W.ne_bytes (xV I q (congrArg not Dx))
  |_=>exact absurd (show false=true from hs) xf
 |_=>cases y<;>exact absurd (show false=true from hs) xf
theorem vf:yi X (compareOp .Lt) (ui λi j=>.bl (decide (i<j))):=Tm λ_ _ _ _ _ _ _ q=>lt_int q
theorem To:yi X (compareOp .LtE) (ui λi j=>.bl (decide (i<=j))):=Tm λ_ _ _ _ _ _ _ q=>le_int q
theorem jJ:yi X (compareOp .Gt) (ui λi j=>.bl (decide (j<i))):=Tm λ_ _ _ _ _ _ _ q=>gt_int q
theorem Ee:yi X (compareOp .GtE) (ui λi j=>.bl (decide (j<=i))):=Tm λ_ _ _ _ _ _ _ q=>ge_int q
theorem cI:yi X (compareOp .In) (λx y H Q=>∃i j,x=.str i/\y=.str j/\Q (.bl (!(Builtin.Str.occurrences j i 0 j.length 1).isEmpty)) H):=by
 intro z8 s σ H x y v u Q I rx ry h;obtain⟨i,j,rfl,rfl,q⟩:=h;obtain⟨t,rfl⟩:=rx;obtain⟨t',rfl⟩:=ry;exact in_str (xV I q rfl)
theorem Ld:yi X (compareOp .Is) (λx y H Q=>y=.zD/\Q (.bl (decide (x=.zD))) H):=by
 intro z8 s σ H x y v u Q I rx ry h;obtain⟨rfl,q⟩:=h;cases ry;refine is_none_gen (xV I q ?_)
 cases x<;>first
  |(cases rx; rfl)
  |(obtain⟨t,rfl⟩:=rx; rfl)
theorem Tp:yi X (compareOp .IsNot) (λx y H Q=>y=.zD/\Q (.bl (!decide (x=.zD))) H):=by
 intro z8 s σ H x y v u Q I rx ry h;obtain⟨rfl,q⟩:=h;cases ry;refine isnot_none_gen (xV I q ?_)
 cases x<;>first
  |(cases rx; rfl)
  |(obtain⟨t,rfl⟩:=rx; rfl)
theorem yi.or{f:Value->Value->Sem Value}{r r':R2}(h:yi X f r)(h':yi X f r'):yi X f (λx y H Q=>r x y H Q\/r' x y H Q):=by
 intro z8 s σ H x y v u Q I rx ry q;rcases q with q|q
 ·exact h z8 s σ H x y v u Q I rx ry q
 ·exact h' z8 s σ H x y v u Q I rx ry q
theorem z_(b:Expr){op:CmpOp}(h:op≠.In:=by decide)(h2:op≠.NotIn:=by decide):behindInMarks op b=false:=by
 have e1:(op==CmpOp.In)=false:=by cases op<;>first|rfl|exact absurd rfl h
 have e2:(op==CmpOp.NotIn)=false:=by cases op<;>first|rfl|exact absurd rfl h2
 cases b<;>simp[behindInMarks,e1,e2]
theorem cb{op:CmpOp}{r:R2}(ho:yi X (compareOp op) r)(ha:PE X a ta)(hb:PE X b tb)(hm:behindInMarks op b=false):PE X (.Compare a [op] [b] pos) (QO r ta tb):=by
 intro z8 s σ H Q I h;exact wpAny_Compare1 (OP ha hb I h λv u s2 x y H2 I2 rx ry q=>ho z8 s2 σ H2 x y v u Q I2 rx ry q) hm
noncomputable def Hl(t:TE):TT:=λσ H Q=>t σ H λx H'=>∃k,x=.bl k/\Q k H'
theorem du{op:CmpOp}{r:R2}(ho:yi X (compareOp op) r)(ha:PE X a ta)(hb:PE X b tb)(hm:behindInMarks op b=false):PT X (.Compare a [op] [b] pos) (Hl (QO r ta tb)):=by
 intro z8 s σ H Q I h
 refine wpAny_isTrue_Compare1 (zw (ha z8 s σ H _ I h) λv s1 ⟨x,H1,I1,r1,q1⟩=>zw (hb z8 s1 σ H1 _ I1 q1) λu s2 ⟨y,H2,I2,r2,q2⟩=>
  zw (ho z8 s2 σ H2 x y v u _ I2 r1 r2 q2) λc s3 ⟨z,H3,I3,r3,k,e,q3⟩=>?_) hm
 subst e;cases r3;exact V5 ⟨H3,I3,q3⟩
noncomputable def lM(r r':R2)(ta tb tc:TE):TE:=λσ H Q=>ta σ H λx H1=>tb σ H1 λy H2=>r x y H2 λz H3=>∃k,z=.bl k/\
 (if k=true then tc σ H3 λw' H4=>r' y w' H4 Q else Q (.bl false) H3)
theorem dt{op op':CmpOp}{r r':R2}(ho:yi X (compareOp op) r)(ho':yi X (compareOp op') r')(ha:PE X a ta)(hb:PE X b tb)(hc:PE X c tc)
  (hm:lastMarks [op,op'] [b,c]=false:=by with_unfolding_all rfl):PT X (.Compare a [op,op'] [b,c] pos) (Hl (lM r r' ta tb tc)):=by
 intro z8 s σ H Q I h
 refine isTrue_chain (zw (ha z8 s σ H _ I h) λv s1 ⟨x,H1,I1,r1,q1⟩=>test_link (zw (hb z8 s1 σ H1 _ I1 q1) λu s2 ⟨y,H2,I2,r2,q2⟩=>
  zw (ho z8 s2 σ H2 x y v u _ I2 r1 r2 q2) λd s3 ⟨z,H3,I3,r3,k,e,q3⟩=>?_)) hm
 subst e;cases r3;refine V5 ?_;cases k with
 |false=>
  obtain⟨k',e',q'⟩:=q3;cases e';exact ite_ff ⟨H3,I3,q'⟩
 |true=>
  refine ite_tt (test_last (zw (hc z8 s3 σ H3 _ I3 q3) λw' s4 ⟨z',H4,I4,r4,q4⟩=>zw (ho' z8 s4 σ H4 y z' u w' _ I4 r2 r4 q4) λd' s5 ⟨z2,H5,I5,r5,k2,e2,q5⟩=>?_));subst e2;cases r5;exact V5 ⟨H5,I5,q5⟩
theorem Z2:(sizeLine:Nat)<2 ^ 63:=by rw[xy]; decide
theorem cD:yi X (binaryOp .Add) (λx y H Q=>∃i j,x=.str i/\y=.str j/\i.length+j.length<=sizeLine/\Q (.str (i++j)) H):=by
 intro z8 s σ H x y v u Q I rx ry h;obtain⟨i,j,rfl,rfl,hz,q⟩:=h;obtain⟨t,rfl⟩:=rx;obtain⟨t',rfl⟩:=ry;exact add_str (λt' tk=>⟨.str (i++j),H,I.tok _,⟨_,rfl⟩,q⟩) hz
theorem vN{x:V}{us:List Value}(r:zz [x] us):∃u,us=[u]/\yB x u:=by
 cases r with
 |cons r1 r2=>cases r2; exact⟨_,rfl,r1⟩
theorem QZ{x y:V}{us:List Value}(r:zz [x,y] us):∃u w',us=[u,w']/\yB x u/\yB y w':=by
 cases r with
 |cons r1 r2=>
  cases r2 with
  |cons r3 r4=>cases r4; exact⟨_,_,rfl,r1,r3⟩
theorem Ny(hc:X.calm=true):wX X (.builtin "max") (λxs H Q=>∃i j,xs=[.int i,.int j]/\Q (.int (if j>i then j else i)) H):=by
 intro z8 s σ H xs us Q I r h;obtain⟨i,j,rfl,q⟩:=h;obtain⟨u,w',rfl,⟨t,rfl⟩,⟨t',rfl⟩⟩:=QZ r;refine max_two_ints (I.ok.hd hc) λh' tk k=>⟨_,H,I.kept k,?_,q⟩
 by_cases hj:j>i
 ·rw[zP hj,zP hj]; exact⟨_,rfl⟩
 ·rw[zV hj,zV hj]; exact⟨_,rfl⟩
theorem N_(hc:X.calm=true):wX X (.builtin "min") (λxs H Q=>∃i j,xs=[.int i,.int j]/\Q (.int (if j<i then j else i)) H):=by
 intro z8 s σ H xs us Q I r h;obtain⟨i,j,rfl,q⟩:=h;obtain⟨u,w',rfl,⟨t,rfl⟩,⟨t',rfl⟩⟩:=QZ r;refine min_two_ints (I.ok.hd hc) λh' tk k=>⟨_,H,I.kept k,?_,q⟩
 by_cases hj:j<i
 ·rw[zP hj,zP hj]; exact⟨_,rfl⟩
 ·rw[zV hj,zV hj]; exact⟨_,rfl⟩
theorem Y3:wX X (.type "int") (λxs H Q=>(∃i,xs=[.int i]/\Q (.int i) H)\/∃k,xs=[.bl k]/\Q (.int (if k then 1 else 0)) H):=by
 intro z8 s σ H xs us Q I r h;rcases h with⟨i,rfl,q⟩|⟨k,rfl,q⟩
 ·obtain⟨u,rfl,t,rfl⟩:=vN r;exact call_int_int ⟨.int i,H,I,⟨_,rfl⟩,q⟩
 ·obtain⟨u,rfl,r1⟩:=vN r;cases r1;exact call_int_bool ⟨.int (if k then 1 else 0),H,I.tok _,⟨_,rfl⟩,q⟩
theorem P4:wX X (.type "str") (λxs H Q=>∃i,xs=[.int i]/\i.natAbs.log2<1920/\Q (.str (toString i)) H):=by
 intro z8 s σ H xs us Q I r h;obtain⟨i,rfl,hz,q⟩:=h;obtain⟨u,rfl,t,rfl⟩:=vN r;exact PySem.P.str_of_int hz ⟨.str _,H,I.tok _,⟨_,rfl⟩,q⟩
end
structure Im(h:Heap)(x dx C:Addr)(mA:Str->Option Value):Prop where
 obj:h.get? x=some (W.instObj C dx)
 ns:h.Ns1 dx mA
 ne:dx≠x
theorem AV{h:Heap}{dx:Addr}{mA:Str->Option Value}(n:h.Ns1 dx mA):∃od,h.get? dx=some od/\∀name,W.lookIn name od=some (mA name):=by
 obtain⟨o,es,ep,ho,hd,hk,_,hm⟩:=n;refine⟨o,ho,λname=>?_⟩;have e:=hm name;unfold nsFind findBy at e;rw[<-Array.find?_toList]at e;unfold W.lookIn;rw[hd];dsimp only
 split
 ·rename_i y q;rw[q]at e;exact congrArg some e
 ·rename_i q;rw[q]at e
  have a:es.toList.any (·.refKey)=false:=by
   rw[List.any_eq_false];intro y hy;obtain⟨z,t,hkey⟩:=hk y (Array.mem_toList_iff.mp hy);simp[DictEntry.refKey,hkey]
  have a':¬ es.toList.any (·.refKey)=true:=by rw[a]; exact xf
  rw[zV a'];exact congrArg some e
theorem Im.look{h:Heap}{x dx C:Addr}{mA:Str->Option Value}(I:Im h x dx C mA):∃od,W.InstAt h x (W.instObj C dx) C (some od)/\∀name,W.lookIn name od=some (mA name):=
 let ⟨od,ho,hl⟩:=AV I.ns
 ⟨od,⟨I.obj,rfl,rfl,ho⟩,hl⟩
theorem qH.some_of{v:V}{o:Option Value}(r:qH (some v) o):∃u,o=some u/\yB v u:=by
 cases o with
 |none=>exact(show False from r).elim
 |some u=>exact⟨u,rfl,r⟩
section
variable{P:Program}{w:World}{H H':Hp}{h h':Heap}{a C dx:Addr}{fs fs':List (Str×V)}
theorem SU(zj:xQ P w H h)(e:H a=some (.ins C dx fs)):∃mA,Im h a dx C mA/\(∀f,qH (fs.lookup f) (mA f))/\PySem.Within mA (fs.map (·.1))/\fs.length<=1000/\H dx=some (.own a):=by
 obtain⟨d,z,ne,ob,mA,n,r,q⟩:=(show xD P w H h a (.ins C dx fs)from zj a _ e);exact⟨mA,⟨ob,n,ne⟩,r,q,z,d⟩
end
structure JV(K:W.Frag)(C:Addr):Prop where
 pg:W.plainGet K C Str.empty=true
 hd:W.hasDictIn K C=true
 po:W.plainOver K C=true
 sa:W.findIn K (.ref C) "__setattr__" = some (some (.builtin "object.__setattr__"))
theorem JV.get{K:W.Frag}{C:Addr}(c:JV K C)(f:Str):W.plainGet K C f=true:=c.pg
section
variable{X:Cx}{z8:List (Addr×Obj)}{σ:St}{H:Hp}{s:Shared}{A:Around}{E:Value->Shared->Prop}{Q:Value->Shared->Prop}{c:Value}{b:Bool}
inductive tP(K:PySem.W.Frag)(H:Hp):V->Value->Prop where
 |zD:tP K H .zD (.type "NoneType")
 |bl (x:Bool):tP K H (.bl x) (.type "bool")
 |int (i:Int):tP K H (.int i) (.type "int")
 |str (x:Str):tP K H (.str x) (.type "str")
 |Zi (x:UInt64):tP K H (.Zi x) (.type "float")
 |lst {a:Addr} {xs:List V} (e:H a=some (.lst xs)):tP K H (.ref a) (.type "list")
 |yI {a:Addr} {o:Obj} {xs:List V} (e:H a=some (.yI o (.lst xs))):tP K H (.ref a) (.type "list")
 |tup {a:Addr} {xs:List V} (e:H a=some (.tup xs)):tP K H (.ref a) (.type "tuple")
 |dK {a:Addr} {kvs:List (zb×V)} (e:H a=some (.dK kvs)):tP K H (.ref a) (.type "dict")
 |dT {a:Addr} {kvs:List (List zb×V)} (e:H a=some (.dT kvs)):tP K H (.ref a) (.type "dict")
 |ins {a C dx:Addr} {fs:List (Str×V)} (e:H a=some (.ins C dx fs)) (cl:JV K C) (ha:PySem.W.findIn K (.ref C) "__class__" = some (some (.builtin "object.__class__")))
   (hn:PySem.W.specialIn K (.builtin "object.__class__") "__get__" = some (some (.builtin "getset_descriptor.__get__"))) (htk:PySem.W.takesIn K (.builtin "object.__class__")=some true)
   (hm:PySem.W.mroIn K C (.type "object")=some true):tP K H (.ref a) (.ref C)
theorem T8{x:V}{u t:Value}(I:Inv X z8 σ H s)(rx:yB x u)(ty:tP X.K H x t)(e:W.kitOne X.K t c=some b)(h:∀tk,Q (.bool b) { s with toks:=tk }) :
  wpAny (model X.prog X.w) A (call (.builtin "isinstance") [u,c]) Q E s:=by
 cases ty with
 |zD=>cases(show u=Value.none from rx); exact W.kia_one W.kitx_none I.w8 True.intro e (λz=>nomatch z) h
 |bl y=>cases(show u=Value.bool y from rx); exact W.kia_one W.kitx_bool I.w8 True.intro e (λz=>nomatch z) h
 |int i=>obtain⟨t,q⟩:=(show ∃t,u=Value.int i t from rx); cases q; exact W.kia_one W.kitx_int I.w8 True.intro e (λz=>nomatch z) h
 |str y=>obtain⟨t,q⟩:=(show ∃t,u=Value.str y t from rx); cases q; exact W.kia_one W.kitx_str I.w8 True.intro e (λz=>nomatch z) h
 |Zi y=>obtain⟨t,q⟩:=(show ∃t,u=Value.float y t from rx); cases q; exact W.kia_one W.kitx_float I.w8 True.intro e (λz=>nomatch z) h
 |@lst a xs ea=>
  cases(show u=Value.ref a from rx);obtain⟨_,_,n,_,h1⟩:=(show xD X.prog X.w H s.heap a (.lst xs)from I.zj a _ ea);exact W.kia_one W.kitx_list I.w8 ⟨_,h1,rfl⟩ e (λz=>nomatch z) h
 |@yI a ob xs ea=>
  cases(show u=Value.ref a from rx);obtain⟨_,_,_,n,_,h1⟩:=(show xD X.prog X.w H s.heap a (.yI ob (.lst xs))from I.zj a _ ea);exact W.kia_one W.kitx_list I.w8 ⟨_,h1,rfl⟩ e (λz=>nomatch z) h
 |@tup a xs ea=>
  cases(show u=Value.ref a from rx);obtain⟨_,_,_,p⟩:=(show xD X.prog X.w H s.heap a (.tup xs)from I.zj a _ ea);obtain⟨o,h1,h2,_⟩:=p;exact W.kia_one W.kitx_tuple I.w8 ⟨o,h1,h2⟩ e (λz=>nomatch z) h
 |@dK a kvs ea=>
  cases(show u=Value.ref a from rx);obtain⟨_,_,vs,_,p⟩:=(show xD X.prog X.w H s.heap a (.dK kvs)from I.zj a _ ea);obtain⟨o,es,ep,h1,h2,_⟩:=p;exact W.kia_one W.kitx_dict I.w8 ⟨o,h1,h2.1⟩ e (λz=>nomatch z) h
 |@dT a kvs ea=>
  cases(show u=Value.ref a from rx);obtain⟨_,_,xs,_,o,es,ep,h1,h2,_⟩:=(show xD X.prog X.w H s.heap a (.dT kvs)from I.zj a _ ea);exact W.kia_one W.kitx_dict I.w8 ⟨o,h1,h2.1⟩ e (λz=>nomatch z) h
 |@ins a C dx fs ea cl ha hn htk hm=>
  cases(show u=Value.ref a from rx);obtain⟨mA,O,_⟩:=SU I.zj ea;obtain⟨od,J,_⟩:=O.look;exact W.kia_one (W.kitx_own (cl.get _) cl.hd ha hn htk hm) I.w8 J e (λz=>nomatch z) h
end
structure xl(k:Nat)(A:Around):Prop where
 hd:A.handled=none
 dp:A.depth+3*k+5<recursionLimit
 un:A.units+16*k+200<cLine
 gd:A.guards=some []
theorem xl.mono{j k:Nat}{A:Around}(r:xl k A)(h:j<=k):xl j A:=⟨r.hd,by have:=r.dp; omega,by have:=r.un; omega,r.gd⟩
theorem xl.deeper{k:Nat}{A:Around}(r:xl (k+1) A)(env:Env):xl k (A.deeper env):=
 ⟨r.hd,by have:=r.dp; show A.depth+1+3*k+5<_; omega,by have:=r.un; show A.units+3+16*k+200<_; omega,by first|exact r.gd|simp[Around.under,Code.guards,pushGuards,r.gd]⟩
theorem xl.depth{k:Nat}{A:Around}(r:xl k A):A.depth<recursionLimit:=by have:=r.dp; omega
theorem xl.units{k:Nat}{A:Around}(r:xl k A):A.units+64<cLine:=by have:=r.un; omega
noncomputable def Ym:TA:=λ_ H Q=>Q [] H
noncomputable def Yl(ta:TE)(tr:TA):TA:=λσ H Q=>ta σ H λx H1=>tr σ H1 λxs H2=>Q (x::xs) H2
section
variable{X:Cx}{e:Expr}{es:List Expr}{te:TE}{t:TA}{pos:Pos}
theorem YT:PA X [] Ym:=λ_ _ _ _ H Q I h=>Calls.spliced_nil ⟨[],H,I,.nil,h⟩
theorem Eg(ha:PE X e te)(hr:PA X es t)(hs:starEach (e::es) X.env=(false,eval e X.env)::starEach es X.env:=by rfl):PA X (e::es) (Yl te t):=by
 intro pos z8 s σ H Q I h;rw[hs];show wpAny _ _ (spliced ((false,eval e X.env)::backTo pos (starEach es X.env))) _ _ s;refine Calls.spliced_cons (zw (ha z8 s σ H _ I h) λu s1 ⟨x,H1,I1,r1,q1⟩=>?_);exact zw (hr pos z8 s1 σ H1 _ I1 q1) λus s2 ⟨xs,H2,I2,r2,q2⟩=>⟨x::xs,H2,I2,.cons r1 r2,q2⟩
noncomputable def lj(t:TA):TE:=λσ H Q=>t σ H λxs H1=>xs.length<=sizeLine/\∀p,H1 p=none->Q (.ref p) (zc H1 p (.tup xs))
noncomputable def lU(t:TA):TE:=λσ H Q=>t σ H λxs H1=>xs.length<=sizeLine/\∀p,H1 p=none->Q (.ref p) (zc H1 p (.lst xs))
theorem cr{x1}(h:PA X es t):PE X (.Tuple es x1 pos) (lj t):=by
 intro z8 s σ H Q I hq;refine wpAny_Tuple_spliced (zw (h pos z8 s σ H _ I hq) λus s1 ⟨xs,H1,I1,r,z,q⟩=>⟨by rw[<-r.length]; exact z,?_⟩);have hf:H1 s1.heap.objs.size=none:=I1.zj.fresh (y0 _);refine⟨.ref s1.heap.objs.size,zc H1 s1.heap.objs.size (.tup xs),I1.laid (t':=s1.toks) (λb u e=>yx _ e) (y0 _) ?_,rfl,q _ hf⟩;exact⟨z,us,r,⟨_,wG _ rfl,rfl,_,rfl⟩⟩
theorem ci(h:PA X es t):PE X (.List es pos) (lU t):=by
 intro z8 s σ H Q I hq;refine wpAny_List_spliced (zw (h pos z8 s σ H _ I hq) λus s1 ⟨xs,H1,I1,r,z,q⟩=>⟨by rw[<-r.length]; exact z,?_⟩);have hf:H1 s1.heap.objs.size=none:=I1.zj.fresh (y0 _);refine⟨.ref s1.heap.objs.size,zc H1 s1.heap.objs.size (.lst xs),I1.laid (t':=s1.toks) (λb u e=>yx _ e) (y0 _) ?_,rfl,q _ hf⟩;exact⟨z,us,0,r,wG _ rfl⟩
end
noncomputable abbrev Sp:=List V->Hp->VK->XK->Prop
noncomputable abbrev qy:=List Env->Hp->Shared->XK->Value->Shared->Prop
structure Vf(P:Program)(w:World)(K:W.Frag)(mg:Str->Option Value)(base:Heap)(A:Around)(outer:List Env)(s:Shared)(H:Hp):Prop where
 frames:A.frames=some outer
 mod:Mod K mg base
 bs:∀b o,base.get? b=some o->s.heap.get? b=some o/\H b=none
 pz:base.objs.size<=s.heap.objs.size
 tI:s.heap.FunFrames base outer
 gn:∀b∈vv outer,H b=none
 zj:xQ P w H s.heap
 bare:AllBare s.gens
noncomputable def CE(outer:List Env)(P:Program)(w:World)(H:Hp)(s:Shared)(Q:VK)(u:Value)(s':Shared):Prop:=
 ∃v H',s'.os=s.os/\AllBare s'.gens/\Un (vv outer) [] H H' s.heap s'.heap/\xQ P w H' s'.heap/\yB v u/\Q v H'
noncomputable def CR(CX:qy)(outer:List Env)(P:Program)(w:World)(H:Hp)(s:Shared)(Q:VK)(E:XK)(r:Result)(s':Shared):Prop:=
 match r with
 |.ok (.ret u)=>CE outer P w H s Q u s'
 |.ok _=>False
 |.error e=>CX outer H s E e s'
structure tM(P:Program)(w:World)(K:W.Frag)(mg:Str->Option Value)(base:Heap)(CX:qy)(k:Nat)(f:Addr)(fd:FuncData)(ps:List Str)(sp:Sp):Prop where
 len:∀vs H Q E,sp vs H Q E->vs.length=ps.length
 run:∀(A:Around)(outer:List Env)(s:Shared)(H:Hp)(args:Args)(us:List Value)(vs:List V)(Q:VK)(E:XK),xl k A->Vf P w K mg base A outer s H->BindsTo s fd args (ps.zip us)->zz vs us->sp vs H Q E->
  codeAny (model P w) A (.call (.ref f) args) (CR CX outer P w H s Q E) s
section
variable{X:Cx}{z8:List (Addr×Obj)}{σ:St}{H:Hp}{s s':Shared}
theorem Inv.K_(I:Inv X z8 σ H s):Vf X.prog X.w X.K X.mg X.base X.A X.stack s H:=
 ⟨I.ok.frames,I.ok.mod,I.bs,xO I.ok.pz I.sz,I.stack,I.DG,I.zj,I.bare⟩
theorem Inv.after{Q:VK}{u:Value}(I:Inv X z8 σ H s)(h:CE X.stack X.prog X.w H s Q u s'):EP X z8 σ Q u s':=by
 obtain⟨v,H',os,bare,un,zj,r,q⟩:=h;obtain⟨hh,g,d,t,os'⟩:=s';obtain rfl:os'=s.os:=os;exact⟨v,H',I.call (h':=hh) (g':=g) (d':=d) (t':=t) (ch:=[]) un zj bare (λb z=>absurd z (by simp)),r,q⟩
end
noncomputable def BE(sp:Sp)(dvs:List V)(E:XK)(t:TA):TE:=λσ H Q=>t σ H λvs H1=>sp (vs++dvs) H1 Q E
noncomputable def jb(K:W.Frag)(fd:FuncData)(ps:List Str)(ds:List Value):Prop:=
 ∀(s:Shared)(us:List Value),K.In s.heap->(us++ds).length=ps.length->BindsTo s fd ⟨us,[]⟩ (ps.zip (us++ds))
theorem jb.all{K:W.Frag}{fd:FuncData}{ps:List Str}(h:∀us:List Value,us.length=ps.length->bindArgs fd ⟨us,[]⟩=pure (ps.zip us)):jb K fd ps []:=λs us _ hl=>by
 rw[uP]at hl ⊢;exact .of_eq (h us hl)
noncomputable def Vj(CX:qy)(X:Cx)(E:XK):Prop:=∀(z8:List (Addr×Obj)) (σ:St) (H:Hp) (s:Shared) (e:Value) (s':Shared),Inv X z8 σ H s->CX X.stack H s E e s'->X.xe e s'
section
variable{X:Cx}{CX:qy}{k:Nat}{f C:Addr}{fd:FuncData}{ps:List Str}{sp:Sp}{dvs:List V}{ds:List Value}{E:XK}{x m:Str}{p pos apos:Pos}{e o:Expr}{es:List Expr}{ta:TE}{t:TA}
theorem Gg{z8:List (Addr×Obj)}{σ:St}{H:Hp}{s:Shared}{Q:VK}{us:List Value}{vs:List V}(F:tM X.prog X.w X.K X.mg X.base CX k f fd ps sp)(hr:xl k X.A)(hb:jb X.K fd ps ds)(hd:zz dvs ds)(hx:Vj CX X E)
  (I:Inv X z8 σ H s)(r:zz vs us)(h:sp (vs++dvs) H Q E):wpAny (model X.prog X.w) X.A (call (.ref f) us) (EP X z8 σ Q) X.xe s:=by
 have r2:zz (vs++dvs) (us++ds):=r.append hd;have hl:(us++ds).length=ps.length:=by rw[<-r2.length]; exact F.len _ _ _ _ h
 refine JJ (codeAny_mono (F.run X.A X.stack s H ⟨us,[]⟩ (us++ds) (vs++dvs) Q E hr I.K_ (hb s us I.w8 hl) r2 h) λr s' hq=>?_);cases r with
 |error e=>exact hx z8 σ H s e s' I hq
 |ok fl=>
  cases fl with
  |ret u=>exact I.after hq
  |next=>exact False.elim hq
  |brk=>exact False.elim hq
  |cont=>exact False.elim hq
theorem cX(F:tM X.prog X.w X.K X.mg X.base CX k f fd ps sp)(hr:xl k X.A)(hg:Gl X x)(hm:X.mg x=some (.ref f))(hk:W.keepIn X.K (.ref f)=true)(hb:jb X.K fd ps ds)(hd:zz dvs ds)(hx:Vj CX X E)
  (ha:PA X (e::es) t)(hdb:(x==("__debug__" : Str))=false:=by decide)(he:starEach (e::es) X.env=(false,eval e X.env)::starEach es X.env:=by rfl)(hpl:(backTo pos (starEach es X.env)).any (·.1)=false:=by rfl) :
  PE X (.Call (.Name x p) (e::es) [] pos) (BE sp dvs E t):=by
 intro z8 s σ H Q I h;refine V2 (LC I hg hm ?_ hdb);refine W.callWith_K (h₀:=X.base) I.ok.mod.JO hk (zw (ha pos z8 s σ H _ I h) λus s1 ⟨vs,H1,I1,r,q⟩=>⟨I1.w8,?_⟩) he hpl;exact Gg F hr hb hd hx I1 r q
theorem cY(F:tM X.prog X.w X.K X.mg X.base CX k f fd ps sp)(hr:xl k X.A)(hg:Gl X x)(hm:X.mg x=some (.ref f))(hk:W.keepIn X.K (.ref f)=true)(hb:jb X.K fd ps ds)(hd:zz dvs ds)(hx:Vj CX X E)
  (hdb:(x==("__debug__" : Str))=false:=by decide):PE X (.Call (.Name x p) [] [] pos) (BE sp dvs E Ym):=by
 intro z8 s σ H Q I h;refine V2 (LC I hg hm ?_ hdb);exact W.callWith_K0 I.w8 hk (Gg (us:=[]) F hr hb hd hx I .nil h)
end
noncomputable def PK(X:Cx)(kws:List Keyword)(t:TA):Prop:=
 ∀(pos:Pos)(z8:List (Addr×Obj)) (s:Shared) (σ:St) (H:Hp) (Q:List V->Hp->Prop),Inv X z8 σ H s->t σ H Q->wpAny (model X.prog X.w) X.A (evalAll ((backToKw pos (keywordEach kws X.env)).map (·.2))) (AP X z8 σ Q) X.xe s
section
variable{X:Cx}{CX:qy}{k:Nat}{f C:Addr}{fd:FuncData}{ps ks:List Str}{sp:Sp}{E:XK}{x m:Str}{p pos apos kpos:Pos}{e o:Expr}{es:List Expr}{kws:List Keyword}{te ta:TE}{t tk:TA}{nm:Option Str}
theorem dL:PK X [] Ym:=λ_ _ _ _ H Q I h=>wpAny_evalAll_nil ⟨[],H,I,.nil,h⟩
theorem dI(ha:PE X e te)(hr:PK X kws t):PK X (⟨nm,e,kpos⟩::kws) (Yl te t):=by
 intro pos z8 s σ H Q I h;show wpAny _ _ (evalAll ((do let v <-eval e X.env; standAt pos; pure v)::(backToKw pos (keywordEach kws X.env)).map (·.2))) _ _ s;refine wpAny_evalAll_cons (zR (zw (ha z8 s σ H _ I h) λu s1 ⟨x,H1,I1,r1,q1⟩=>zR (JL (yW ?_))));exact zw (hr pos z8 s1 σ H1 _ I1 q1) λus s2 ⟨xs,H2,I2,r2,q2⟩=>⟨x::xs,H2,I2,.cons r1 r2,q2⟩
variable{g:List Value->List Value->List Value}{gV:List V->List V->List V}
end
structure yP(N P:List Str)(sc:Scope):Prop where
 kind:sc.kind=.function
 co:sc.isCoroutine=false
 gen:sc.isGenerator=false
 nd:N.Nodup
 pre:N.take P.length=P
 par:∀x∈P,sc.names.lookup x=some .local\/sc.names.lookup x=some .cell
 N4:∀y∈sc.names,y.2≠.free
theorem Di{kindOf:Str->Option NameKind}{x:Str}:∀{binds:List (Str×Value)} {m:Str->Option Value},(∀v,(x,v) ∉ binds)->bindL kindOf binds m x=m x
 | [],_,_=>rfl
 |(n,v)::r,m,h=>by
  unfold bindL;rw[Di λw hw=>h w (wN _ hw)]
  split
  ·have:x≠n:=by rintro rfl; exact h v xh
   simp[this]
  ·rfl
theorem Dg{kindOf:Str->Option NameKind}{x:Str}:∀{binds:List (Str×Value)} {m:Str->Option Value},(∀v,(x,v) ∉ binds)->bindC kindOf binds m x=m x
 | [],_,_=>rfl
 |(n,v)::r,m,h=>by
  unfold bindC;rw[Dg λw hw=>h w (wN _ hw)]
  split
  ·rfl
  ·have:x≠n:=by rintro rfl; exact h v xh
   simp[this]
theorem Dh{kindOf:Str->Option NameKind}{x:Str}{v:Value}:∀{P:List Str}{vs:List Value}{i:Nat}{m:Str->Option Value},P.Nodup->P[i]?=some x->vs[i]?=some v->kindOf x=some .local->
  bindL kindOf (P.zip vs) m x=some v
 | [],_,_,_,_,h,_,_=>by simp at h
 |_::_,[],_,_,_,_,h,_=>by simp at h
 |p::P,w::vs,0,m,nd,h1,h2,hk=>by
  simp at h1 h2; subst h1; subst h2;show bindL kindOf ((p,w)::P.zip vs) m p=_;unfold bindL;rw[Di λv hv=>(J8.mp nd).1 (Bs hv).1,zP hk];simp
 |p::P,w::vs,i+1,m,nd,h1,h2,hk=>by
  show bindL kindOf ((p,w)::P.zip vs) m x=_;unfold bindL;exact Dh (i:=i) (J8.mp nd).2 (by simpa using h1) (by simpa using h2) hk
theorem Df{kindOf:Str->Option NameKind}{x:Str}{v:Value}:∀{P:List Str}{vs:List Value}{i:Nat}{m:Str->Option Value},P.Nodup->P[i]?=some x->vs[i]?=some v->kindOf x≠some .local->
  bindC kindOf (P.zip vs) m x=some v
 | [],_,_,_,_,h,_,_=>by simp at h
 |_::_,[],_,_,_,_,h,_=>by simp at h
 |p::P,w::vs,0,m,nd,h1,h2,hk=>by
  simp at h1 h2; subst h1; subst h2;show bindC kindOf ((p,w)::P.zip vs) m p=_;unfold bindC;rw[Dg λv hv=>(J8.mp nd).1 (Bs hv).1,zV hk];simp
 |p::P,w::vs,i+1,m,nd,h1,h2,hk=>by
  show bindC kindOf ((p,w)::P.zip vs) m x=_;unfold bindC;exact Df (i:=i) (J8.mp nd).2 (by simpa using h1) (by simpa using h2) hk
noncomputable def start(N:List Str)(vs:List V):St:=vs.map some++List.replicate (N.length-vs.length) none
noncomputable def pF(CX:qy)(P:Program)(w:World)(K:W.Frag)(mg:Str->Option Value)(base:Heap)(N:List Str)(qual:Str)(scope:Scope)(f:Addr)(cd:Value)(A:Around)(outer:List Env)(s:Shared)(H:Hp)(E:XK):Cx where
 prog:=P
 w:=w
 K:=K
 mg:=mg
 base:=base
 A:=A.deeper (envOfC qual scope s.heap.objs.size f cd)
 N:=N
 s₀:=s
 H₀:=H
 env:=envOfC qual scope s.heap.objs.size f cd
 outer:=outer
 stack:=envOfC qual scope s.heap.objs.size f cd::outer
 ex:=[]
 calm:=true
 fn:=λ_=>true
 pn:=[]
 xe:=λe s'=>wpAny (model P w) (A.deeper (envOfC qual scope s.heap.objs.size f cd)) (leaving (envOfC qual scope s.heap.objs.size f cd) e) (λ_ s''=>CX outer H s E e s'') (λe' s''=>CX outer H s E e' s'') s'
theorem Dr{sc:Scope}{n:Nat}{x:Str}(h:sc.names.lookup x=some .cell):∃c,(cellsFrom n sc.names []).lookup x=some c:=by
 have q:=W.cellsFrom_some sc.names n [] (.inl h);exact Kx.mp q
theorem SZ{CX:qy}{P:Program}{w:World}{K:W.Frag}{mg:Str->Option Value}{base:Heap}{N ps:List Str}{qual:Str}{scope:Scope}{f:Addr}{cd:Value}{A:Around}{outer:List Env}{s s1:Shared}{H:Hp}{E:XK}{us:List Value}{vs:List V}
  (S:yP N ps scope)(hd:A.handled=none)(e0:Vf P w K mg base A outer s H)(hl:vs.length=ps.length)(r:zz vs us)
  (x:InCallC s s.heap.objs.size (bindL (envOfC qual scope s.heap.objs.size f cd).kindOf (ps.zip us) λ_=>none) (cellsFrom (s.heap.objs.size+1) scope.names []) (bindC (envOfC qual scope s.heap.objs.size f cd).kindOf (ps.zip us) λ_=>none) s1) :
  Inv (pF CX P w K mg base N qual scope f cd A outer s H E) [] (start N vs) H s1:=by
 have hpl:ps.length<=N.length:=by have:=congrArg List.length S.pre; rw[qi]at this; omega
 obtain⟨h1,tk,rfl,hk⟩:=x.done;have noA:∀b:Addr,b ∉ (pF CX P w K mg base N qual scope f cd A outer s H E).ex:=λb z=>absurd (show b∈([]:List Addr)from z) (by simp)
 refine⟨⟨e0.mod,S.kind,rfl,rfl,y0 _,λy z c h1 h2=>?_,λy hy=>?_,λy c _ h=>?_,λ_=>hd,Around.frames_deeper e0.frames,.inr ⟨rfl,rfl⟩,λb z=>absurd z (noA b),e0.bs,e0.pz,λb _ _=>noA b,λb z=>absurd z (noA b),e0.tI,e0.gn⟩,
  rfl,e0.bare,Un.kept hk,⟨_,x.toInCall.ns,λi y v h1 h2 h3=>?_⟩,λy c h=>⟨_,x.cell y c h⟩,e0.zj.fresh (y0 _),λy c h=>?_,λp hp=>absurd (show p∈([]:List (Addr×Obj))from hp) (by simp),e0.zj.kept hk,?_⟩
 ·exact name_of_addr x.apart (PySem.mem_of_lookup h1) (PySem.mem_of_lookup h2)
 ·have hy:scope.names.lookup y=some .cell\/scope.names.lookup y=some .free:=hy;rcases hy with hy|hy
  ·exact Dr hy
  ·exact absurd rfl (S.N4 _ (PySem.mem_of_lookup hy))
 ·exact Zb (x.above y c (PySem.mem_of_lookup h))
 ·have hi:i<vs.length:=by
   unfold start at h2;by_cases hi:i<vs.length
   ·exact hi
   ·rw[Bo (by simpa using hi)]at h2;rw[Kf]at h2
    split at h2<;>cases h2
  have ha:vs[i]?=some v:=by
   unfold start at h2;rw[ZY (by simpa using hi),wM]at h2;cases e:vs[i]? with
   |none=>rw[e]at h2; cases h2
   |some a=>rw[e]at h2; cases h2; rfl
  obtain⟨u,hu,rv⟩:=r.get ha
  have hp:ps[i]?=some y:=by
   rw[<-S.pre,List.getElem?_take_of_lt (by omega)]; exact h1
  have ndP:ps.Nodup:=by rw[<-S.pre]; exact S.nd.sublist (List.take_sublist _ _)
  refine⟨u,rv,?_⟩;rcases S.par y (tH hp)with k|k
  ·exact .inl ⟨k,Dh ndP hp hu k⟩
  ·obtain⟨c,e⟩:=Dr (n:=s.heap.objs.size+1) k;refine .inr ⟨.inl k,c,e,?_⟩;have q:=x.cell y c e;rw[Df ndP hp hu (by show scope.names.lookup y≠_; rw[k]; decide)]at q;exact q
 ·exact e0.zj.fresh (Zb (x.above y c (PySem.mem_of_lookup h)))
 ·unfold start;show _=N.length;rw[xC,yK,jT];omega
theorem RN{CX:qy}{P:Program}{w:World}{K:W.Frag}{mg:Str->Option Value}{base:Heap}{k:Nat}{f:Addr}{name qual:Str}{params:Arguments}{body:List Stmt}{scope:Scope}{dV kV doc pm cdv ct oc:Value}{an od:Option Addr}
  {osl:Array (Option Value)}{N ps:List Str}{sp:Sp}(lk:K.lookup f=some ⟨oc,od,.func (W.fnOf name qual params body scope dV kV doc pm an cdv ct),osl⟩)(hcd:W.codeIn K cdv qual=true)(S:yP N ps scope)
  (len:∀vs H Q E,sp vs H Q E->vs.length=ps.length)
  (hbody:∀(A:Around)(outer:List Env)(s:Shared)(H:Hp)(vs:List V)(Q:VK)(E:XK),xl k (A.deeper (envOfC qual scope s.heap.objs.size f cdv))->sp vs H Q E->
   ∃t,vo (pF CX P w K mg base N qual scope f cdv A outer s H E) body t/\t { nx:=λ_ H'=>Q .zD H',rt:=Q } (start N vs) H) :
  tM P w K mg base CX (k+1) f (W.fnOf name qual params body scope dV kV doc pm an cdv ct) ps sp:=by
 refine⟨len,λA outer s H args us vs Q E hr e0 hb r hsp=>?_⟩;have hl:=len _ _ _ _ hsp;have KX:K.In s.heap:=e0.mod.JO.keeps λb o e=>(e0.bs b o e).1
 have lim:s.heap.NoLimit:=e0.mod.nolimit.keeps λb o e=>(e0.bs b o e).1
 have hkind:∀y∈ps.zip us,scope.names.lookup y.1=some .local\/(scope.names.lookup y.1=some .cell/\((cellsFrom (s.heap.objs.size+1) scope.names []).lookup y.1).isSome=true):=λ⟨n,v⟩ hy=>by
  rcases S.par n (Bs hy).1 with q|q
  ·exact .inl q
  ·exact .inr ⟨q,W.cellsFrom_some _ _ _ (.inl q)⟩
 refine codeAny_call_function hr.depth (KX _ _ lk) rfl S.co S.gen rfl (W.codeRec_of KX hcd) (hb _ _ _ _ ?_);refine wpAny_newFunctionEnv_cells S.kind hkind λenv he s1 x=>?_
 subst he;refine⟨lim.keeps x.toInCall.keep,codeAny_func ?_⟩;obtain⟨t,ht,hq⟩:=hbody A outer s H vs Q E (hr.deeper _) hsp;have I:Inv (pF CX P w K mg base N qual scope f cdv A outer s H E) [] (start N vs) H s1:=SZ S hr.hd e0 hl r x;refine va (ht [] s1 (start N vs) H _ I hq) (λfl s' hs=>?_) λe s' hs=>hs
 have fin:∀{σ':St}{H':Hp}{v:V}{u:Value},Inv (pF CX P w K mg base N qual scope f cdv A outer s H E) [] σ' H' s'->yB v u->Q v H'->CE outer P w H s Q u s':=
  λ{σ' H' v u} J rv q=>⟨v,H',J.os,J.bare,J.base,J.zj,rv,q⟩
 cases fl with
 |ret u=>
  obtain⟨v,σ',H',J,rv,q⟩:=hs;exact fin J rv q
 |next=>
  obtain⟨σ',H',J,q⟩:=hs;exact fin (v:=V.zD) (u:=Value.none) J rfl q
 |brk=>
  obtain⟨_,_,_,q⟩:=hs;exact False.elim q
 |cont=>
  obtain⟨_,_,_,q⟩:=hs;exact False.elim q
section
variable{X:Cx}{x:Str}{p pos:Pos}{e:Expr}{es:List Expr}{t:TA}{id T:String}{r:List V->Hp->VK->Prop}
noncomputable def QN(r:List V->Hp->VK->Prop)(t:TA):TE:=λσ H Q=>t σ H λvs H1=>r vs H1 Q
theorem cZ(hc:wX X (.builtin id) r)(hg:Gl X x)(hm:X.mg x=none)(hv:bootBuiltins x=some (.builtin id))(ha:PA X (e::es) t)(hn:x ≠ "__name__" := by decide)(hdb:(x==("__debug__" : Str))=false:=by decide)
  (he:starEach (e::es) X.env=(false,eval e X.env)::starEach es X.env:=by rfl)(hpl:(backTo pos (starEach es X.env)).any (·.1)=false:=by rfl):PE X (.Call (.Name x p) (e::es) [] pos) (QN r t):=by
 intro z8 s σ H Q I h;refine V2 (gE I hg hm hv ?_ hn hdb);exact PyProof.Rows.callWith_builtin1 (zw (ha pos z8 s σ H _ I h) λus s1 ⟨vs,H1,I1,r1,q1⟩=>hc z8 s1 σ H1 vs us Q I1 r1 q1) he hpl
theorem ca(hc:wX X (.type T) r)(hg:Gl X x)(hm:X.mg x=none)(hv:bootBuiltins x=some (.type T))(ha:PA X (e::es) t)(hn:x ≠ "__name__" := by decide)(hdb:(x==("__debug__" : Str))=false:=by decide)
  (he:starEach (e::es) X.env=(false,eval e X.env)::starEach es X.env:=by rfl)(hpl:(backTo pos (starEach es X.env)).any (·.1)=false:=by rfl):PE X (.Call (.Name x p) (e::es) [] pos) (QN r t):=by
 intro z8 s σ H Q I h;refine V2 (gE I hg hm hv ?_ hn hdb);exact Wx (zw (ha pos z8 s σ H _ I h) λus s1 ⟨vs,H1,I1,r1,q1⟩=>hc z8 s1 σ H1 vs us Q I1 r1 q1) he hpl
end
end L2
namespace HT
open PySem PyProof.Rows
section
variable{prog:Program}{w:World}{A:Around}{E:Value->Shared->Prop}{s:Shared}
theorem cat_tup{t b:Addr}{vs ws:List Value}{Q:Value->Shared->Prop}(ht:IsTup s.heap t vs.toArray)(hb:IsTup s.heap b ws.toArray)(hv:vs≠[])
  (h1:ws=[]->Q (.ref t) s)(h2:ws≠[]->Q (.ref s.heap.objs.size) { s with heap:=s.heap.push { cls:=.type "tuple",data:=.seq (vs++ws).toArray } })
  (hsz:vs.length+ws.length<=sizeLine):wpAny (model prog w) A (binaryOp .Add (.ref t) (.ref b)) Q E s:=by
 obtain⟨⟨cls,dd,data,sl⟩,ho,hc,n,hd⟩:=id ht;obtain⟨⟨cls2,dd2,data2,sl2⟩,ho2,hc2,n2,hd2⟩:=id hb;simp only at hc hd hc2 hd2;subst hc hd hc2 hd2;have e:vs.toArray++ws.toArray=(vs++ws).toArray:=by simp
 by_cases hw:ws=[]
 ·exact concat_meets ⟨_,ho,rfl⟩ ⟨_,ho2,rfl⟩ noFill_tuple_add seq_tuple_add PySem.F.slot_tuple_add PySem.F.entry_tuple_add (PySem.F.args_tuple_add_2 _ _)
   (tuple_addW1 t b vs.toArray ws.toArray n n2 dd dd2 sl sl2 (by simpa using hv) (by simp[hw])) ⟨ho,ho2,h1 hw⟩
 ·refine concat_meets ⟨_,ho,rfl⟩ ⟨_,ho2,rfl⟩ noFill_tuple_add seq_tuple_add PySem.F.slot_tuple_add PySem.F.entry_tuple_add (PySem.F.args_tuple_add_2 _ _)
   (tuple_addW2 t b vs.toArray ws.toArray n n2 dd dd2 sl sl2 (by simpa using hv) (by simpa using hw) (by rw[yo,yo]; exact hsz)) ⟨ho,ho2,?_⟩
  rw[e];exact h2 hw
noncomputable def sIx(n d:Nat):Option Int->Nat
 |none=>d
 |some v=>if v<0 then(v+(n:Int)).toNat else min v.toNat n
theorem sIx_nat(n d k:Nat):sIx n d (some (k:Int))=min k n:=by
 show(if(k:Int)<0 then((k:Int)+(n:Int)).toNat else min (k:Int).toNat n)=min k n;rw[zV (by omega),wH]
theorem sIx_le(n d:Nat)(hd:d<=n)(o:Option Int):sIx n d o<=n:=by
 cases o with
 |none=>exact hd
 |some v=>
  show(if v<0 then(v+(n:Int)).toNat else min v.toNat n)<=n;by_cases hv:v<0
  ·rw[zP hv]; omega
  ·rw[zV hv]; exact Nat.min_le_right _ _
theorem Ds(v:Int)(n d:Nat):(if v<0 then max (v+(n:Int)) 0 else min v (n:Int))=((sIx n d (some v):Nat):Int):=by
 show(if v<0 then max (v+(n:Int)) 0 else min v (n:Int))=(((if v<0 then(v+(n:Int)).toNat else min v.toNat n):Nat):Int);by_cases hv:v<0
 ·simp only[zP hv]; omega
 ·simp only[zV hv]; omega
theorem NM(lo hi:Option Int)(n:Nat):Builtin.Slice.sliceAdjust lo hi 1 (n:Int)=(((sIx n 0 lo:Nat):Int),((sIx n n hi:Nat):Int)):=by
 have h1:¬ ((1:Int)<0):=by omega
 unfold Builtin.Slice.sliceAdjust;simp only[h1,vZ];refine Prod.ext ?_ ?_
 ·cases lo with
  |none=>rfl
  |some v=>exact Ds v n 0
 ·cases hi with
  |none=>rfl
  |some v=>exact Ds v n n
theorem dN(i j:Nat):Builtin.Slice.slicePlaces (i:Int) (j:Int) 1=j-i:=by
 unfold Builtin.Slice.slicePlaces;have h1:(1:Int)>0:=by omega
 simp only[h1,wc,tq]
 split<;>omega
theorem HK{v:Value}{o:Option Int}{Q:Option Int->Shared->Prop}(p:IsPart v o)(h:Q o s):wpAny (model prog w) A (Builtin.Slice.slicePartIndex v) Q E s:=by
 cases p with
 |none=>exact slicePart_none h
 |int i t=>exact slicePart_int h
theorem HJ{sl:Addr}{vl vu:Value}{lo hi:Option Int}{n:Nat}{Q:Int×Int×Nat->Shared->Prop}(hs:s.heap.IsSliceOf sl vl vu .none)(pl:IsPart vl lo)(pu:IsPart vu hi)
  (h:Q (((sIx n 0 lo:Nat):Int),1,sIx n n hi-sIx n 0 lo) s):wpAny (model prog w) A (Builtin.Slice.sliceApplied (.ref sl) (pure (n:Int))) Q E s:=by
 obtain⟨os,hos,hcs,hds⟩:=id hs;unfold Builtin.Slice.sliceApplied Builtin.Slice.sliceFields;refine zR (zR (uR hos hds (x:=vl) rfl (zR (uR hos hds (x:=vu) rfl (zR (uR hos hds (x:=.none) rfl (yW ?_)))))));refine zR (slicePart_none ?_);show wpAny _ _ (if((1:Int)==0)=true then _ else _) _ _ s;rw[zV (by decide)];refine zR (HK pl (zR (HK pu (zR (yW ?_)))));show wpAny _ _ (match Builtin.Slice.sliceAdjust lo hi 1 (n:Int)with|(lo,hi)=>pure (lo,(1:Int),Builtin.Slice.slicePlaces lo hi 1)) _ _ s;rw[NM lo hi n];show wpAny _ _ (pure (((sIx n 0 lo:Nat):Int),(1:Int),Builtin.Slice.slicePlaces ((sIx n 0 lo:Nat):Int) ((sIx n n hi:Nat):Int) 1)) _ _ s;rw[dN];exact yW h
theorem dH(xs:Array Value)(i k:Nat):((List.range k).filterMap λ(m:Nat)=>xs[((i:Int)+(m:Int)*1).toNat]?).toArray=((xs.toList.drop i).take k).toArray:=by
 have e:(λ(m:Nat)=>xs[((i:Int)+(m:Int)*1).toNat]?)=λm=>xs[i+m]?:=by
  funext m
  have:((i:Int)+(m:Int)*1).toNat=i+m:=by omega
  rw[this]
 rw[e];have:=pick_run xs i k;rw[List.filterMap_map]at this;have e2:((λx=>xs[x]?)∘λx=>i+x)=λm=>xs[i+m]?:=rfl
 rw[e2]at this;rw[this]
theorem getItem_tuple_cut{t sl:Addr}{items:Array Value}{vl vu:Value}{lo hi:Option Int}{Q:Value->Shared->Prop}(ht:IsTup s.heap t items)(hs:s.heap.IsSliceOf sl vl vu .none)(pl:IsPart vl lo)(pu:IsPart vu hi)
  (hw:¬ (sIx items.size 0 lo=0/\sIx items.size items.size hi=items.size))
  (h:Q (.ref s.heap.objs.size) { s with heap:=s.heap.push { cls:=.type "tuple",data:=.seq ((items.toList.drop (sIx items.size 0 lo)).take (sIx items.size items.size hi-sIx items.size 0 lo)).toArray } })
  (hsz:items.size<=sizeLine):wpAny (model prog w) A (getItem (.ref t) (.ref sl)) Q E s:=by
 have htake:sizeOk (.seq ((items.toList.drop (sIx items.size 0 lo)).take (sIx items.size items.size hi-sIx items.size 0 lo)).toArray):=by
  show((items.toList.drop (sIx items.size 0 lo)).take (sIx items.size items.size hi-sIx items.size 0 lo)).toArray.size<=sizeLine;rw[yo,qi,Yv,uq];omega
 have hj:sIx items.size items.size hi<=items.size:=sIx_le _ _ (y0 _) hi;obtain⟨os,hos,hcs,hds⟩:=id hs;have hTs:s.TypeIs (.ref sl) "slice" := ⟨os,hos,hcs⟩;unfold getItem
 try with_reducible refine Zd ?_
 first|refine zR (yW ?_)|skip
 refine zR (wpAny_sequenceKey ht.typeIs (by decide) ?_)
 refine zR (X1 (name:=Str.ofString "__getitem__") ht.typeIs Yz
  (X2 Yz ht.typeIs entry_tuple_getitem ?_ (args_tuple_getitem _ _)))
 show wpAny _ _ (Builtin.Tuple.tupleItemsOf (.ref t) >>= _) _ _ s;refine zR (tupleItemsOf_ ht ?_);refine zR (V7 hTs ?_);rw[zP (by decide)];refine zR (HJ hs pl pu ?_)
 have hno:¬ ((((sIx items.size 0 lo:Nat):Int)==0&&(1:Int)==1&&(sIx items.size items.size hi-sIx items.size 0 lo)==items.size)=true):=by
  intro q;rw[xS,xS]at q;have q1:((sIx items.size 0 lo:Nat):Int)=0:=eq_of_beq q.1.1;have q2:sIx items.size items.size hi-sIx items.size 0 lo=items.size:=eq_of_beq q.2;exact hw ⟨by omega,by omega⟩
 show wpAny _ _ (if(((sIx items.size 0 lo:Nat):Int)==0&&(1:Int)==1&&(sIx items.size items.size hi-sIx items.size 0 lo)==items.size)=true then _ else _) _ _ s;rw[zV hno,dH]
 first
  |exact zR (m:=Builtin.Tuple.tupleExact _) (gj (yW ⟨_,rfl,yW h⟩) htake)
  |exact zR (m:=Builtin.Tuple.tupleExact _) (gj (zR (yW (yW ⟨_,rfl,yW h⟩))) htake)
  |exact zR (zR (m:=Builtin.Tuple.tupleExact _) (gj (yW (yW ⟨_,rfl,yW h⟩)) htake))
  |exact zR (zR (m:=Builtin.Tuple.tupleExact _) (gj (yW ⟨_,rfl,yW h⟩) htake))
end
end HT
namespace L2
open PySem PySem.Spec PyProof.Rows
noncomputable abbrev TO:=St->Hp->(Option Int->Hp->Prop)->Prop
noncomputable def PO(X:Cx)(e:Option Expr)(t:TO):Prop:=
 ∀(z8:List (Addr×Obj)) (s:Shared) (σ:St) (H:Hp) (Q:Option Int->Hp->Prop),Inv X z8 σ H s->t σ H Q->
  wpAny (model X.prog X.w) X.A (evalPart e X.env) (λu s'=>∃o H',Inv X z8 σ H' s'/\IsPart u o/\Q o H') X.xe s
noncomputable def lY:TO:=λ_ H Q=>Q none H
noncomputable def lb(t:TE):TO:=λσ H Q=>t σ H λx H1=>∃i,x=.int i/\Q (some i) H1
section
variable{X:Cx}{e:Expr}{te:TE}{lo hi:Option Expr}{tl th:TO}{pos p2:Pos}
theorem dU:PO X none lY:=by
 intro z8 s σ H Q I h;rw[evalPart_none];exact yW ⟨none,H,I,.none,h⟩
theorem dW(h:PE X e te):PO X (some e) (lb te):=by
 intro z8 s σ H Q I hw;rw[evalPart_some];refine zw (h z8 s σ H _ I hw) λu s1 ⟨x,H1,I1,r1,q1⟩=>?_
 obtain⟨i,rfl,q⟩:=q1;obtain⟨t,rfl⟩:=r1;exact⟨some i,H1,I1,.int i t,q⟩
noncomputable def pB(X:Cx)(r:V->Option Int->Option Int->Hp->VK->Prop):Prop:=
 ∀(z8:List (Addr×Obj)) (s:Shared) (σ:St) (H:Hp) (x:V) (v vl vu:Value) (lo hi:Option Int) (sl:Addr) (Q:VK),Inv X z8 σ H s->yB x v->s.heap.IsSliceOf sl vl vu .none->IsPart vl lo->IsPart vu hi->r x lo hi H Q->
  ∃T id,typeLookup (.type T) "__getitem__" = pure (some (.builtin id))/\s.TypeIs v T/\wpAny (model X.prog X.w) X.A (getItem v (.ref sl)) (EP X z8 σ Q) X.xe s
theorem pB.or{r r':V->Option Int->Option Int->Hp->VK->Prop}(h:pB X r)(h':pB X r'):pB X (λx lo hi H Q=>r x lo hi H Q\/r' x lo hi H Q):=by
 intro z8 s σ H x v vl vu lo hi sl Q I rx hs pl pu q;rcases q with q|q
 ·exact h z8 s σ H x v vl vu lo hi sl Q I rx hs pl pu q
 ·exact h' z8 s σ H x v vl vu lo hi sl Q I rx hs pl pu q
noncomputable def li(r:V->Option Int->Option Int->Hp->VK->Prop)(te:TE)(tl th:TO):TE:=λσ H Q=>te σ H λx H1=>tl σ H1 λl H2=>th σ H2 λu H3=>r x l u H3 Q
theorem Ep{r:V->Option Int->Option Int->Hp->VK->Prop}(hr:pB X r)(he:PE X e te)(hl:PO X lo tl)(hu:PO X hi th):PE X (.Subscript e (.Slice lo hi none p2) pos) (li r te tl th):=by
 intro z8 s σ H Q I h;refine Subscript_ (zw (he z8 s σ H _ I h) λv s1 ⟨x,H1,I1,r1,q1⟩=>?_);refine wpAny_Slice (zw (hl z8 s1 σ H1 _ I1 q1) λvl s2 ⟨l,H2,I2,pl,q2⟩=>zw (hu z8 s2 σ H2 _ I2 q2) λvu s3 ⟨u,H3,I3,pu,q3⟩=>?_);rw[evalPart_none];refine yW ?_;have I4:Inv X z8 σ H3 { s3 with heap:=s3.heap.push { cls:=.type "slice",data:=.fields #[vl,vu,.none] } }:=I3.kept (t':=s3.toks) λb ob q=>yx _ q
 obtain⟨T,id,hT,ht,hg⟩:=hr z8 { s3 with heap:=s3.heap.push { cls:=.type "slice",data:=.fields #[vl,vu,.none] } } σ H3 x v vl vu l u s3.heap.objs.size Q I4 r1 (Heap.IsSliceOf.new ..) pl pu q3;show wpAny (model X.prog X.w) X.A (subscriptTail e (.Slice lo hi none p2) v (.ref s3.heap.objs.size)) (EP X z8 σ Q) X.xe { s3 with heap:=s3.heap.push { cls:=.type "slice",data:=.fields #[vl,vu,.none] } };exact tail_any (ops:=[.ref s3.heap.objs.size,v]) ht hT hg (by with_unfolding_all rfl)
noncomputable def jz(xs:List V)(lo hi:Option Int):List V:=(xs.drop (HT.sIx xs.length 0 lo)).take (HT.sIx xs.length xs.length hi-HT.sIx xs.length 0 lo)
theorem Du(xs:List V)(lo hi:Option Int):(jz xs lo hi).length<=xs.length:=by
 unfold jz;rw[qi,Yv];omega
noncomputable def GO(K:W.Frag):V->Option Int->Option Int->Hp->VK->Prop:=λx lo hi H Q=>∃a xs,x=.ref a/\xH K H a xs/\
 ¬ (HT.sIx xs.length 0 lo=0/\HT.sIx xs.length xs.length hi=xs.length)/\∀p,H p=none->Q (.ref p) (zc H p (.tup (jz xs lo hi)))
theorem i_:pB X (GO X.K):=by
 intro z8 s σ H x v vl vu lo hi sl Q I rx hs pl pu h;obtain⟨a,xs,rfl,hx,hw,q⟩:=h;cases rx;obtain⟨its,r,ht,hz⟩:=I.tuple hx;have hlen:its.toArray.size=xs.length:=by rw[yo]; exact r.length.symm
 refine⟨"tuple",_,Yz.lookup,ht.typeIs,?_⟩;refine HT.getItem_tuple_cut ht hs pl pu (by rw[hlen]; exact hw) ?_ (by rw[hlen]; exact hz);rw[hlen];refine⟨.ref s.heap.objs.size,_,I.laid (t':=s.toks) (o:=.tup (jz xs lo hi)) (λb ob q=>yx _ q) (y0 _) ?_,rfl,q _ (I.zj.fresh (y0 _))⟩;exact⟨xO (Du xs lo hi) hz,_,(r.drop (HT.sIx xs.length 0 lo)).take (HT.sIx xs.length xs.length hi-HT.sIx xs.length 0 lo),IsTup.new _ _⟩
noncomputable def GF(K:W.Frag):R2:=λx y H Q=>∃a b xs ys,x=.ref a/\y=.ref b/\xH K H a xs/\xH K H b ys/\xs≠[]/\xs.length+ys.length<=sizeLine/\
 (ys=[]->Q (.ref a) H)/\(ys≠[]->∀p,H p=none->Q (.ref p) (zc H p (.tup (xs++ys))))
theorem zz.JR{xs:List V}{us:List Value}(r:zz xs us):us=[]↔xs=[]:=by
 cases r with
 |nil=>simp
 |cons _ _=>simp
theorem cE:yi X (binaryOp .Add) (GF X.K):=by
 intro z8 s σ H x y v u Q I rx ry h;obtain⟨a,b,xs,ys,rfl,rfl,ha,hb,hx,hz,q1,q2⟩:=h;cases rx;cases ry;obtain⟨its,r1,p1,_⟩:=I.tuple ha;obtain⟨its2,r2,p2,_⟩:=I.tuple hb;refine HT.cat_tup p1 p2 (λz=>hx (r1.JR.mp z)) (λz=>⟨.ref a,H,I,rfl,q1 (r2.JR.mp z)⟩) (λz=>?_) (by rw[<-r1.length,<-r2.length]; exact hz);refine⟨.ref s.heap.objs.size,_,I.laid (t':=s.toks) (o:=.tup (xs++ys)) (λb ob q=>yx _ q) (y0 _) ?_,rfl,q2 (λw=>z (r2.JR.mpr w)) _ (I.zj.fresh (y0 _))⟩;exact⟨by rw[xC]; exact hz,_,r1.append r2,IsTup.new _ _⟩
end
noncomputable def ixN(n:Nat)(i:Int):Option Nat:=if 0<=i then(if i<n then some i.toNat else none)else if -(n:Int)<=i then some (i+n).toNat else none
noncomputable def tS{α:Type}(xs:List α)(i:Int):Option α:=(ixN xs.length i).bind λj=>xs[j]?
theorem C1{n:Nat}{i:Int}{j:Nat}(h:ixN n i=some j):seqIndex? i n=some j/\j<n /\ -(n:Int)<=i/\i<n:=by
 unfold ixN at h;by_cases h0:0<=i
 ·rw[zP h0]at h;by_cases h1:i<n
  ·rw[zP h1]at h;have e:i.toNat=j:=vk h;exact⟨by rw[seqIndex_of h0 h1,e],by omega,by omega,h1⟩
  ·rw[zV h1]at h; cases h
 ·rw[zV h0]at h;by_cases h1 : -(n:Int)<=i
  ·rw[zP h1]at h;have e:(i+n).toNat=j:=vk h;exact⟨by rw[seqIndex_neg (by omega) h1,e],by omega,h1,by omega⟩
  ·rw[zV h1]at h; cases h
theorem Iw{α:Type}{xs:List α}{i:Int}{v:α}(h:tS xs i=some v):∃j,seqIndex? i xs.length=some j/\xs[j]?=some v/\j<xs.length /\ -(xs.length:Int)<=i/\i<xs.length:=by
 unfold tS at h;cases e:ixN xs.length i with
 |none=>rw[e]at h; cases h
 |some j=>
  rw[e]at h;obtain⟨h1,h2,h3,h4⟩:=C1 e;exact⟨j,h1,h,h2,h3,h4⟩
noncomputable def DN(b:Expr):Prop:=∀o i,subscripted b false o i=operate [o,i] (getItem o i)
noncomputable def u_(X:Cx)(r:R2):Prop:=
 ∀(value slice:Expr)(z8:List (Addr×Obj)) (s:Shared) (σ:St) (H:Hp) (x y:V) (v u:Value) (Q:VK),Inv X z8 σ H s->yB x v->yB y u->r x y H Q->
  subscripted slice false v u=operate [v,u] (getItem v u)->wpAny (model X.prog X.w) X.A (subscriptTail value slice v u) (EP X z8 σ Q) X.xe s
noncomputable def pA(X:Cx)(id:String)(r:V->List V->Hp->VK->Prop):Prop:=
 ∀(z8:List (Addr×Obj)) (s:Shared) (σ:St) (H:Hp) (x:V) (xs:List V) (v:Value) (us:List Value) (Q:VK),Inv X z8 σ H s->yB x v->zz xs us->r x xs H Q->
  wpAny (model X.prog X.w) X.A (call (.builtin id) (v::us)) (EP X z8 σ Q) X.xe s
section
variable{X:Cx}{a b:Expr}{ta tb:TE}{pos:Pos}
theorem u_.or{r r':R2}(h:u_ X r)(h':u_ X r'):u_ X (λx y H Q=>r x y H Q\/r' x y H Q):=by
 intro value slice z8 s σ H x y v u Q I rx ry q hs;rcases q with q|q
 ·exact h value slice z8 s σ H x y v u Q I rx ry q hs
 ·exact h' value slice z8 s σ H x y v u Q I rx ry q hs
theorem Lf{r:R2}(hr:u_ X r)(ha:PE X a ta)(hb:PE X b tb)(hs:DN b):PE X (.Subscript a b pos) (QO r ta tb):=by
 intro z8 s σ H Q I h;exact Subscript_ (OP ha hb I h λv u s2 x y H2 I2 rx ry q=>hr a b z8 s2 σ H2 x y v u Q I2 rx ry q (hs _ _))
noncomputable def GI(K:W.Frag):R2:=λx y H Q=>∃p xs i v,x=.ref p/\y=.int i/\yj K H p xs/\tS xs i=some v/\Q v H
noncomputable def GK(K:W.Frag):R2:=λx y H Q=>∃p xs i v,x=.ref p/\y=.int i/\xH K H p xs/\tS xs i=some v/\Q v H
noncomputable def GJ:R2:=λx y H Q=>∃z i c,x=.str z/\y=.int i/\z.length<=sizeLine/\tS z.cps.toList i=some c/\Q (.str ⟨#[c]⟩) H
theorem Sg:u_ X (GI X.K):=by
 intro value slice z8 s σ H x y v u Q I rx ry h hs;obtain⟨p,xs,i,z,rfl,rfl,hq,he,q⟩:=h;cases rx;obtain⟨t,rfl⟩:=ry;obtain⟨its,r,pl,hz⟩:=I.list hq;obtain⟨j,h1,h2,h3,h4,h5⟩:=Iw he;obtain⟨w,ew,rw'⟩:=r.get h2;have hl:=r.length;have hn:=Z2;have fin:EP X z8 σ Q w s:=⟨z,H,I,rw',q⟩;by_cases h0:0<=i
 ·have hj:i.toNat=j:=by
   rw[seqIndex_of h0 h5]at h1;exact vk h1
  exact item_listR pl.isList h0 (by omega) (by rw[hj]; simpa using ew) fin hs
 ·have hj:(i+(its.toArray.size:Int)).toNat=j:=by
   rw[seqIndex_neg (by omega) h4]at h1;rw[yo,<-hl];exact vk h1
  exact JI (x:=w) pl.isList.typeIs slot_list_getitem.lookup
   (wpAny_getItem_list_neg (Q:=λr s'=>r=w/\EP X z8 σ Q r s') pl.isList (by omega) (by rw[yo]<;>omega) (by omega) (by rw[hj]; simpa using ew) ⟨rfl,fin⟩) hs
theorem Sj:u_ X (GK X.K):=by
 intro value slice z8 s σ H x y v u Q I rx ry h hs;obtain⟨p,xs,i,z,rfl,rfl,hq,he,q⟩:=h;cases rx;obtain⟨t,rfl⟩:=ry;obtain⟨its,r,pl,hz⟩:=I.tuple hq;obtain⟨j,h1,h2,h3,h4,h5⟩:=Iw he;obtain⟨w,ew,rw'⟩:=r.get h2;have hl:=r.length;have hn:=Z2;have fin:EP X z8 σ Q w s:=⟨z,H,I,rw',q⟩
 exact JI (x:=w) pl.typeIs slot_tuple_getitem.lookup
  (getItem_tuple (j:=j) (Q:=λr s'=>r=w/\EP X z8 σ Q r s') pl (by omega) (by omega) (by rw[yo,<-hl]; exact h1) (by simpa using ew) ⟨rfl,fin⟩) hs
theorem Si:u_ X GJ:=by
 intro value slice z8 s σ H x y v u Q I rx ry h hs;obtain⟨z,i,c,rfl,rfl,hz,he,q⟩:=h;obtain⟨t,rfl⟩:=rx;obtain⟨t',rfl⟩:=ry;obtain⟨j,h1,h2,h3,h4,h5⟩:=Iw he;have hl:z.cps.toList.length=z.length:=by simp[Str.length]
 rw[hl]at h1 h4 h5;have hn:=Z2
 exact tail_any (jW s z t) slot_str_getitem.lookup (getItem_str (c:=c) (by
  have e1:decide (i < -(2 ^ 63:Int))=false:=yV (by omega);have e2:decide (i≥2 ^ 63)=false:=yV (by omega);rw[e1,e2,Bool.or_false]) (by rw[h1]; simpa using h2) ⟨.str ⟨#[c]⟩,H,I.tok _,⟨_,rfl⟩,q⟩) hs
noncomputable def Lr(K:W.Frag):R2:=λx y H Q=>GI K x y H Q\/GK K x y H Q\/GJ x y H Q
theorem Sh:u_ X (Lr X.K):=Sg.or (Sj.or Si)
theorem AZ(its:List Value)(n j:Nat)(u:Value):Obj.mapSeq (·.setIfInBounds j u) { cls:=.type "list",data:=.seq its.toArray n }={ cls:=.type "list",data:=.seq (its.set j u).toArray n }:=by
 simp[Obj.mapSeq]
theorem Inv.lst{z8:List (Addr×Obj)}{σ:St}{H:Hp}{s:Shared}{p:Addr}{xs:List V}(I:Inv X z8 σ H s)(h:H p=some (.lst xs)) :
  ∃(its:List Value) (n:Nat),zz xs its/\s.heap.get? p=some { cls:=.type "list",data:=.seq its.toArray n }/\xs.length<=sizeLine:=by
 obtain⟨z,its,n,r,e⟩:=I.zj p _ h;exact⟨its,n,r,e,z⟩
theorem Inv.N2{z8:List (Addr×Obj)}{σ:St}{H:Hp}{s:Shared}{p:Addr}{xs ys:List V}{its its':List Value}{n n':Nat}{f:Obj->Obj}(I:Inv X z8 σ H s)(h:H p=some (.lst xs))
  (ho:s.heap.get? p=some { cls:=.type "list",data:=.seq its.toArray n })(hf:f { cls:=.type "list",data:=.seq its.toArray n }={ cls:=.type "list",data:=.seq its'.toArray n' })(r:zz ys its')(hz:ys.length<=sizeLine)(t:Nat) :
  Inv X z8 σ (zc H p (.lst ys)) { s with heap:=s.heap.update p f,toks:=t }:=by
 have e:(s.heap.update p f).get? p=some { cls:=.type "list",data:=.seq its'.toArray n' }:=by
  rw[Wp f ho (by rw[hf]<;>rfl),hf]
 refine I.write (x:=p) (e:=p) (by rw[h]; trivial) (.inl rfl) (λb u hb q=>(ZV _ _ (qp hb)).trans q) ⟨_,e⟩ ?_;exact⟨hz,its',n',r,e⟩
noncomputable def ef:V->V->V->Hp->(Hp->Prop)->Prop:=λo i v H Q=>∃p xs k j,o=.ref p/\i=.int k/\H p=some (.lst xs)/\ixN xs.length k=some j/\Q (zc H p (.lst (xs.set j v)))
theorem i7:Iq X ef:=by
 intro z8 s σ H o i v ov iv u Q I ro ri rv h;obtain⟨p,xs,k,j,rfl,rfl,hp,hj,q⟩:=h;cases ro;obtain⟨t,rfl⟩:=ri;obtain⟨its,n,r,ho,hz⟩:=I.lst hp;obtain⟨h1,h2,h3,h4⟩:=C1 hj;have hl:=r.length;have hn:=Z2
 have I':Inv X z8 σ (zc H p (.lst (xs.set j v))) { s with heap:=s.heap.update p (Obj.mapSeq (·.setIfInBounds j u)) }:=
  I.N2 hp ho (AZ its n j u) (r.set rv j) (by rw[ge]; exact hz) s.toks
 by_cases h0:0<=k
 ·have hk:k.toNat=j:=by
   rw[seqIndex_of h0 h4]at h1;exact vk h1
  exact W.ki_setAt ho h0 (by omega) (by rw[yo,<-hl]; exact h4) (by rw[hk]; exact⟨_,I',q⟩)
 ·have hk:(k+(its.toArray.size:Int)).toNat=j:=by
   rw[seqIndex_neg (by omega) h3]at h1;rw[yo,<-hl];exact vk h1
  exact W.ki_setBack ho (by omega) (by rw[yo,<-hl]; exact h3) (by omega) (by rw[hk]; exact⟨_,I',q⟩)
theorem l7(lo hi:Option Int)(n:Nat):(sliceBounds lo hi none n).1=((HT.sIx n 0 lo:Nat):Int)/\(sliceBounds lo hi none n).2.1=((HT.sIx n n hi:Nat):Int)/\(sliceBounds lo hi none n).2.2=1:=by
 refine⟨?_,?_,rfl⟩
 ·cases lo with
  |none=>simp[sliceBounds,HT.sIx]
  |some i=>
   simp only[sliceBounds,HT.sIx,Option.getD_none,show(1:Int)>0 by decide,wc];by_cases h:i<0
   ·simp only[h,wc]<;>omega
   ·simp only[h,vZ]<;>omega
 ·cases hi with
  |none=>simp[sliceBounds,HT.sIx]
  |some i=>
   simp only[sliceBounds,HT.sIx,Option.getD_none,show(1:Int)>0 by decide,wc];by_cases h:i<0
   ·simp only[h,wc]<;>omega
   ·simp only[h,vZ]<;>omega
theorem l6(its:List Value)(lo hi:Option Int):slicePick its.toArray lo hi none=((its.drop (HT.sIx its.length 0 lo)).take (HT.sIx its.length its.length hi-HT.sIx its.length 0 lo)).toArray:=by
 obtain⟨h1,h2,h3⟩:=l7 lo hi its.toArray.size;unfold slicePick;rw[h1,h2,h3];simp only[sliceRange_one,pick_run,yo]<;>rfl
noncomputable def GM(K:W.Frag):V->Option Int->Option Int->Hp->VK->Prop:=λx lo hi H Q=>∃a xs,x=.ref a/\yj K H a xs/\∀p,H p=none->Q (.ref p) (zc H p (.lst (jz xs lo hi)))
theorem iy:pB X (GM X.K):=by
 intro z8 s σ H x v vl vu lo hi sl Q I rx hs pl pu h;obtain⟨a,xs,rfl,hx,q⟩:=h;cases rx;obtain⟨its,r,ht,hz⟩:=I.list hx;have hlen:=r.length;refine⟨"list",_,slot_list_getitem.lookup,ht.isList.typeIs,?_⟩;refine wpAny_getItem_list_slice ht.isList hs pl pu .none (by simp) ?_ (by rw[yo]<;>omega);rw[l6,<-hlen];refine⟨.ref s.heap.objs.size,_,I.laid (t':=s.toks) (o:=.lst (jz xs lo hi)) (λb ob q=>yx _ q) (y0 _) ?_,rfl,q _ (I.zj.fresh (y0 _))⟩;exact⟨xO (Du xs lo hi) hz,_,0,(r.drop (HT.sIx xs.length 0 lo)).take (HT.sIx xs.length xs.length hi-HT.sIx xs.length 0 lo),wG _ rfl⟩
noncomputable def uE:V->Bool
 |.zD=>true
 |.bl _=>true
 |.int _=>true
 |.str _=>true
 |_=>false
noncomputable def vU:V->V->Bool
 |.zD,.zD=>true
 |.bl a,.bl b=>a==b
 |.bl a,.int b=>(if a then 1 else 0)==b
 |.int a,.bl b=>a==(if b then 1 else 0)
 |.int a,.int b=>a==b
 |.str a,.str b=>a==b
 |_,_=>false
theorem FB{A:Around}{s:Shared}{y x:V}{u v:Value}(ry:yB y u)(rx:yB x v)(fy:uE y=true)(fx:uE x=true):SeqAt.EqAt A s u v (vU y x):=by
 cases y with
 |zD=>
  cases ry;cases x with
  |zD=>cases rx; exact Bz _
  |bl b=>cases rx; exact SeqAt.EqAt.none_bool b
  |int b=>obtain⟨t,rfl⟩:=rx; exact SeqAt.EqAt.none_int b t
  |str b=>obtain⟨t,rfl⟩:=rx; exact SeqAt.EqAt.none_str b t
  |_=>exact absurd (show false=true from fx) xf
 |bl a=>
  cases ry;cases x with
  |zD=>cases rx; exact SeqAt.EqAt.bool_none a
  |bl b=>cases rx; exact SeqAt.EqAt.bool_bool a b
  |int b=>obtain⟨t,rfl⟩:=rx; exact SeqAt.EqAt.bool_int a b t
  |str b=>obtain⟨t,rfl⟩:=rx; exact SeqAt.EqAt.bool_str a b t
  |_=>exact absurd (show false=true from fx) xf
 |int a=>
  obtain⟨t',rfl⟩:=ry;cases x with
  |zD=>cases rx; exact SeqAt.EqAt.int_none a t'
  |bl b=>cases rx; exact SeqAt.EqAt.int_bool a t' b
  |int b=>obtain⟨t,rfl⟩:=rx; exact SeqAt.EqAt.int_int a t' b t
  |str b=>obtain⟨t,rfl⟩:=rx; exact SeqAt.EqAt.int_str a t' b t
  |_=>exact absurd (show false=true from fx) xf
 |str a=>
  obtain⟨t',rfl⟩:=ry;cases x with
  |zD=>cases rx; exact SeqAt.EqAt.str_none a t'
  |bl b=>cases rx; exact SeqAt.EqAt.str_bool a t' b
  |int b=>obtain⟨t,rfl⟩:=rx; exact SeqAt.EqAt.str_int a t' b t
  |str b=>obtain⟨t,rfl⟩:=rx; exact SeqAt.EqAt.str_str a t' b t
  |_=>exact absurd (show false=true from fx) xf
 |_=>exact absurd (show false=true from fy) xf
noncomputable def vL(x:V)(u:Value):Bool:=match u with
 |.none=>vU .zD x
 |.bool b=>vU (.bl b) x
 |.int i _=>vU (.int i) x
 |.str z _=>vU (.str z) x
 |_=>false
theorem UD{x y:V}{u:Value}(r:yB y u)(f:uE y=true):vL x u=vU y x:=by
 cases y with
 |zD=>cases r; rfl
 |bl b=>cases r; rfl
 |int i=>obtain⟨t,rfl⟩:=r; rfl
 |str z=>obtain⟨t,rfl⟩:=r; rfl
 |_=>exact absurd (show false=true from f) xf
theorem Xd{x:V}:∀{xs:List V}{us:List Value},zz xs us->xs.all uE=true->us.any (vL x)=xs.any λy=>vU y x
 |_,_,.nil,_=>rfl
 |y::xs,u::us,.cons r t,f=>by
  rw[wp,xS]at f;rw[Ys,Ys,UD r f.1,Xd t f.2]
theorem Z3{A:Around}{s:Shared}{x:V}{v:Value}(rx:yB x v)(fx:uE x=true):∀{xs:List V}{us:List Value},zz xs us->xs.all uE=true->∀u∈us,SeqAt.EqAt A s u v (vL x u)
 |_,_,.nil,_=>λu hu=>by cases hu
 |y::xs,u::us,.cons r t,f=>λu' hu=>by
  rw[wp,xS]at f;rcases xN.mp hu with rfl|hu
  ·rw[UD r f.1]; exact FB r rx f.1 fx
  ·exact Z3 rx fx t f.2 u' hu
noncomputable def T7(x:V)(xs:List V):Bool:=xs.any λy=>vU y x
noncomputable def Lp(K:W.Frag)(neg:Bool):R2:=λx y H Q=>∃p xs,y=.ref p/\(yj K H p xs\/xH K H p xs)/\uE x=true/\xs.all uE=true/\Q (.bl (if neg then !T7 x xs else T7 x xs)) H
theorem cH:yi X (compareOp .In) (Lp X.K false):=by
 intro z8 s σ H x y v u Q I rx ry h;obtain⟨p,xs,rfl,hq,fx,fs,q⟩:=h;cases ry;rcases hq with hq|hq
 ·obtain⟨its,r,pl,hz⟩:=I.list hq;refine SeqAt.in_listAt (vL x) pl.isList (λw hw=>Z3 rx fx r fs w (by simpa using hw)) ⟨.bl _,H,I,rfl,?_⟩;rw[show its.toArray.any (vL x)=its.any (vL x) by simp,Xd r fs];exact q
 ·obtain⟨its,r,pl,hz⟩:=I.tuple hq;refine SeqAt.in_tupleAt (vL x) pl (λw hw=>Z3 rx fx r fs w (by simpa using hw)) ⟨.bl _,H,I,rfl,?_⟩;rw[show its.toArray.any (vL x)=its.any (vL x) by simp,Xd r fs];exact q
theorem cM:yi X (compareOp .NotIn) (Lp X.K true):=by
 intro z8 s σ H x y v u Q I rx ry h;obtain⟨p,xs,rfl,hq,fx,fs,q⟩:=h;cases ry;rcases hq with hq|hq
 ·obtain⟨its,r,pl,hz⟩:=I.list hq;refine SeqAt.notIn_listAt (vL x) pl.isList (λw hw=>Z3 rx fx r fs w (by simpa using hw)) ⟨.bl _,H,I,rfl,?_⟩;rw[show its.toArray.any (vL x)=its.any (vL x) by simp,Xd r fs];exact q
 ·obtain⟨its,r,pl,hz⟩:=I.tuple hq;refine SeqAt.notIn_tupleAt (vL x) pl (λw hw=>Z3 rx fx r fs w (by simpa using hw)) ⟨.bl _,H,I,rfl,?_⟩;rw[show its.toArray.any (vL x)=its.any (vL x) by simp,Xd r fs];exact q
theorem cN:yi X (compareOp .NotIn) (λx y H Q=>∃i j,x=.str i/\y=.str j/\Q (.bl (!(!(Builtin.Str.occurrences j i 0 j.length 1).isEmpty))) H):=by
 intro z8 s σ H x y v u Q I rx ry h;obtain⟨i,j,rfl,rfl,q⟩:=h;obtain⟨t,rfl⟩:=rx;obtain⟨t',rfl⟩:=ry;exact notIn_str ⟨.bl _,H,I,rfl,q⟩
theorem Nv:wX X (.builtin "len") (λxs H Q=>∃p ys,xs=[.ref p]/\(yj X.K H p ys\/xH X.K H p ys)/\Q (.int ys.length) H):=by
 intro z8 s σ H xs us Q I r h;obtain⟨p,ys,rfl,hq,q⟩:=h;obtain⟨u,rfl,rx⟩:=vN r;cases rx;have hn:=Z2;rcases hq with hq|hq
 ·obtain⟨its,r',pl,hz⟩:=I.list hq;have hlen:=r'.length;exact Calls.call_len_list pl.isList (by simp only[yo]<;>omega) ⟨.int ys.length,H,I.tok _,⟨s.toks+1,by rw[yo,hlen]⟩,q⟩
 ·obtain⟨its,r',pl,hz⟩:=I.tuple hq;have hlen:=r'.length;exact len_tuple pl (by simp only[yo]<;>omega) ⟨.int ys.length,H,I.tok _,⟨s.toks+1,by rw[yo,hlen]⟩,q⟩
theorem Nw:wX X (.builtin "len") (λxs H Q=>∃z,xs=[.str z]/\z.length<=sizeLine/\Q (.int z.length) H):=by
 intro z8 s σ H xs us Q I r h;obtain⟨z,rfl,hz,q⟩:=h;obtain⟨u,rfl,t,rfl⟩:=vN r;have hn:=Z2;exact len_str (by omega) ⟨.int z.length,H,I.tok _,⟨_,rfl⟩,q⟩
theorem wX.or{f:Value}{r r':List V->Hp->VK->Prop}(h:wX X f r)(h':wX X f r'):wX X f (λxs H Q=>r xs H Q\/r' xs H Q):=by
 intro z8 s σ H xs us Q I rs q;rcases q with q|q
 ·exact h z8 s σ H xs us Q I rs q
 ·exact h' z8 s σ H xs us Q I rs q
theorem P5:wX X (.type "tuple") (λxs H Q=>∃p ys,xs=[.ref p]/\((yj X.K H p ys/\∀l,H l=none->Q (.ref l) (zc H l (.tup ys)))\/(xH X.K H p ys/\Q (.ref p) H))):=by
 intro z8 s σ H xs us Q I r h;obtain⟨p,ys,rfl,h⟩:=h;obtain⟨u,rfl,rx⟩:=vN r;cases rx;rcases h with⟨hq,q⟩|⟨hq,q⟩
 ·obtain⟨its,r',pl,hz⟩:=I.list hq;have hlen:=r'.length;refine call_tuple_list pl.isList (λh' kp=>?_) (by simp only[yo]<;>omega);have I1:Inv X z8 σ H { s with heap:=h' }:=I.kept (t':=s.toks) kp
  have I2:Inv X z8 σ (zc H h'.objs.size (.tup ys)) { s with heap:=h'.push { cls:=.type "tuple",data:=.seq its.toArray } }:=
   I1.laid (t':=s.toks) (λb o e=>yx _ e) (y0 _) (show xD X.prog X.w _ _ _ (.tup ys)from⟨hz,its,r',IsTup.new _ _⟩)
  exact⟨.ref h'.objs.size,_,I2,rfl,q _ (I1.zj.fresh (y0 _))⟩
 ·obtain⟨its,r',pl,hz⟩:=I.tuple hq;exact call_tuple_same pl ⟨.ref p,H,I,rfl,q⟩
noncomputable def Hw(K:W.Frag)(T:String)(x:V)(H:Hp):Prop:=match x with
 |.str _=>T = "str"
 |.int _=>T = "int"
 |.ref p=>(T = "list" /\ ∃xs,yj K H p xs)\/(T = "tuple" /\ ∃o,K.lookup p=some o/\o.cls=.type "tuple" /\ o.dict=none) \/
   (T = "dict" /\ ((∃kvs,H p=some (.dK kvs))\/∃kvs,H p=some (.dT kvs)))\/(T = "set" /\ ∃S n,H p=some (.set S n))
 |_=>False
theorem oV{z8:List (Addr×Obj)}{σ:St}{H:Hp}{s:Shared}{T:String}{x:V}{v:Value}(I:Inv X z8 σ H s)(r:yB x v)(ty:Hw X.K T x H) :
  s.TypeIs v T/\∀a,v=.ref a->∃ob,s.heap.get? a=some ob/\ob.dict=none:=by
 cases x with
 |str z=>
  obtain⟨t,rfl⟩:=r;cases(show T = "str" from ty);exact⟨jW s z t,λ_ e=>nomatch e⟩
 |int i=>
  obtain⟨t,rfl⟩:=r;cases(show T = "int" from ty);exact⟨typeIs_int s i t,λ_ e=>nomatch e⟩
 |ref p=>
  cases r;rcases ty with⟨rfl,xs,hq⟩|⟨rfl,o,hk,hc,hd⟩|⟨rfl,hk⟩|⟨rfl,S,n,hk⟩
  ·obtain⟨its,_,pl,_⟩:=I.list hq;refine⟨pl.isList.typeIs,λa e=>?_⟩;cases e;obtain⟨o,n,e,c,hd,_⟩:=pl;exact⟨o,e,hd⟩
  ·refine⟨⟨o,I.w8 p o hk,hc⟩,λa e=>?_⟩;cases e;exact⟨o,I.w8 _ o hk,hd⟩
  ·have z:∃o,s.heap.get? p=some o/\o.ExactDict:=by
    rcases hk with⟨kvs,hk⟩|⟨kvs,hk⟩
    ·obtain⟨_,_,_,_,o,_,_,e,ex,_⟩:=I.zj p _ hk;exact⟨o,e,ex⟩
    ·obtain⟨_,_,_,_,o,_,_,e,ex,_⟩:=I.zj p _ hk;exact⟨o,e,ex⟩
   obtain⟨o,e,ex⟩:=z;refine⟨⟨o,e,ex.1⟩,λa e2=>?_⟩;cases e2;exact⟨o,e,ex.2.1⟩
  ·obtain⟨o,_,_,_,e,ex,_⟩:=I.zj p _ hk;refine⟨⟨o,e,ex.1⟩,λa e2=>?_⟩;cases e2;exact⟨o,e,ex.2.1⟩
 |_=>exact False.elim ty
noncomputable def Hi(K:W.Frag)(T:String)(r:V->List V->Hp->VK->Prop)(to:TE)(t:TA):TE:=λσ H Q=>to σ H λx H1=>Hw K T x H1/\t σ H1 λxs H2=>r x xs H2 Q
variable{o e:Expr}{es:List Expr}{to:TE}{t:TA}{name:Str}{apos cpos:Pos}{T id:String}{r:V->List V->Hp->VK->Prop}
theorem cV(pa:PlainAttrs T)(slot:Slot T name id)(hty:typeOf (.builtin id)=pure (.type "method_descriptor"))(hm:pA X id r)(ho:PE X o to)(ha:PA X (e::es) t)
  (hbase:attributeBase o name X.env (eval o X.env)=eval o X.env:=by rfl)
  (hfew:((backTo cpos (starEach (e::es) X.env)).all (λx=>!x.1)&&(backToKw cpos (keywordEach [] X.env)).all (λx=>x.1.isSome)
   && decide ((e::es).length+([]:List Keyword).length+(if([]:List Keyword).isEmpty then 0 else 1)<30))=true:=by rfl)
  (hline:(apos.endLine==cpos.line)=true:=by rfl)(hs:starEach (e::es) X.env=(false,eval e X.env)::starEach es X.env:=by rfl)(hplain:(backTo cpos (starEach es X.env)).any (·.1)=false:=by rfl) :
  PE X (.Call (.Attribute o name apos) (e::es) [] cpos) (Hi X.K T r to t):=by
 intro z8 s σ H Q I h;refine wpAny_Call_method_late hbase hfew hline rfl (zw (ho z8 s σ H _ I h) λv s1 ⟨x,H1,I1,r1,ty,q1⟩=>?_);obtain⟨h1,h2⟩:=oV I1 r1 ty;refine⟨T,id,pa,slot,hty,h1,h2,?_⟩;have hA:=ha cpos z8 s1 σ H1 _ I1 q1;rw[hs]at hA ⊢;refine Qv (by show(false||(backTo cpos (starEach es X.env)).any (·.1))=false; rw[hplain]<;>rfl) (Calls.evalArgs_plain ?_);exact zw hA λus s2 ⟨vs,H2,I2,r2,q2⟩=>hm z8 s2 σ H2 x vs v us Q I2 r1 r2 q2
end
noncomputable def DK(X:Cx)(id:String)(r:V->List V->Hp->VK->Prop):Prop:=
 ∀(z8:List (Addr×Obj)) (s:Shared) (σ:St) (H:Hp) (x:V) (xs:List V) (v:Value) (us:List Value) (Q:VK),Inv X z8 σ H s->yB x v->zz xs us->r x xs H Q->
  wpAny (model X.prog X.w) X.A (call (.builtin id) (v::us)) (EP X z8 σ Q) X.xe s
theorem zz.one:∀{x:V}{us:List Value},zz [x] us->∃u,us=[u]/\yB x u
 |_,_,.cons r .nil=>⟨_,rfl,r⟩
section
variable{X:Cx}{z8:List (Addr×Obj)}{σ:St}{H:Hp}{s:Shared}{l b:Addr}{xs ys zs:List V}
theorem Inv.DA{its its':List Value}{n:Nat}{f:Array Value->Array Value}{t':Nat}(I:Inv X z8 σ H s)(hH:H l=some (.lst xs))
  (e:s.heap.get? l=some { cls:=.type "list",data:=.seq its.toArray n })(hf:f its.toArray=its'.toArray)(hv:zz ys its')(hz:ys.length<=sizeLine) :
  Inv X z8 σ (zc H l (.lst ys)) { s with heap:=s.heap.update l (Obj.mapSeq f),toks:=t' }:=by
 have q:=PySem.IsL.update e f;rw[hf]at q;refine I.write (x:=l) (e:=l) (by rw[hH]; exact trivial) (.inl rfl) (λb' u hb hu=>(ZV s.heap (Obj.mapSeq f) (qp hb)).trans hu) ⟨_,q⟩ ?_;exact⟨hz,its',_,hv,q⟩
theorem Inv.N1{its:List Value}{t':Nat}(I:Inv X z8 σ H s)(hv:zz ys its)(hz:ys.length<=sizeLine) :
  Inv X z8 σ (zc H s.heap.objs.size (.lst ys)) { s with heap:=s.heap.push { cls:=.type "list",data:=.seq its.toArray },toks:=t' }:=
 I.laid (λ_ _ q=>yx _ q) (y0 _) ⟨hz,its,0,hv,wG _ rfl⟩
theorem Inv.fresh(I:Inv X z8 σ H s):H s.heap.objs.size=none:=I.zj.fresh (y0 _)
theorem Inv.JP(I:Inv X z8 σ H s)(hH:H l=some (.lst xs)):xs.length<=sizeLine/\∃(its:List Value) (n:Nat),zz xs its/\xs.length=its.length/\s.heap.get? l=some { cls:=.type "list",data:=.seq its.toArray n }:=by
 obtain⟨z,its,n,r,e⟩:=I.zj l _ hH;exact⟨z,its,n,r,r.length,e⟩
theorem ah{n:Nat}(h:n<=sizeLine):Builtin.List.listTooLong n=false:=by
 unfold Builtin.List.listTooLong;exact yV (by omega)
end
section
variable{X:Cx}
noncomputable def eR:V->List V->Hp->VK->Prop:=λx vs H Q=>∃l xs y,x=.ref l/\vs=[y]/\H l=some (.lst xs)/\xs.length<sizeLine/\Q .zD (zc H l (.lst (xs++[y])))
theorem Ac:DK X "list.append" eR:=by
 intro z8 s σ H x vs v us Q I rx rv h;obtain⟨l,xs,y,rfl,rfl,hH,hz,q⟩:=h;cases rx;obtain⟨u,rfl,ru⟩:=rv.one;obtain⟨z,its,n,r,hl,e⟩:=I.JP hH;refine Zc F.slot_list_append ⟨_,e,rfl⟩ F.entry_list_append (F.args_list_append_2 _ _) (PySem.list_append l its.toArray n u (by rw[yo]; omega)) ⟨e,?_⟩;refine⟨.zD,_,I.DA (its':=its++[u]) hH e (by simp) (r.append (.cons ru .nil)) ?_,rfl,q⟩;rw[xC,J6];omega
noncomputable def eU:V->List V->Hp->VK->Prop:=λx vs H Q=>∃l b xs zs,x=.ref l/\vs=[.ref b]/\H l=some (.lst xs)/\H b=some (.lst zs)/\xs.length+zs.length<=sizeLine/\Q .zD (zc H l (.lst (xs++zs)))
theorem Ad:DK X "list.extend" eU:=by
 intro z8 s σ H x vs v us Q I rx rv h;obtain⟨l,b,xs,zs,rfl,rfl,hH,hB,hz,q⟩:=h;cases rx;obtain⟨u,rfl,ru⟩:=rv.one;cases ru;obtain⟨z,its,n,r,hl,e⟩:=I.JP hH;obtain⟨z2,its2,n2,r2,hl2,e2⟩:=I.JP hB;have hsz:its.toArray.size+its2.toArray.size<=sizeLine:=by rw[yo,yo]; omega
 have hlong:¬ (!its.toArray.isEmpty&&Builtin.List.listTooLong (its.toArray.size+its2.toArray.size))=true:=by
  rw[ah hsz,Wn];exact xf
 refine Zc F.slot_list_extend ⟨_,e,rfl⟩ F.entry_list_extend (F.args_list_extend_2 _ _)
  (AutoSeq1.list_extend_list_list_0 l its.toArray n b its2.toArray n2 hlong (by rw[yo]; omega) (by omega)) ⟨e,e2,?_⟩
 refine⟨.zD,_,I.DA (its':=its++its2) hH e (by simp) (r.append r2) ?_,rfl,q⟩;rw[xC];omega
end
end L2
namespace Att
open PySem PySem.W PySem.Calls PyProof.Rows
theorem SX{P:Params}{h:Heap}:∀(ns:List Int)(vs:List Value),WellAll P h vs (ns.map WData.int)->IntsAre vs ns:=by
 intro ns
 induction ns with
 |nil=>
  intro vs w;rw[qj]at w;cases w;exact .nil
 |cons n ns ih=>
  intro vs w;rw[xY]at w;cases w with
  |cons a b=>
   cases a;exact .cons _ _ (ih _ b)
theorem script_of{l:OpenLaw}{n:Nat}(hn:l.most=some n){P:Params}{h:Heap}{args:List WData}{vals:List Value}
  (hpre:l.row.toRowW.claim.pre args=true)(hwl:WellAll P h vals args) :
  ∃a vs ns,vals=[Value.ref a]/\args=[WData.list (ns.map WData.int)]/\h.get? a=some { cls:=.type "list",data:=.seq vs.toArray }/\IntsAre vs ns/\ns.length<=n:=by
 have hsh:WShape.hasAll [] args [.list .int]=true:=(pre_splitW hpre).1;have hc:l.pre.holds [] { args:=args }=true:=(pre_splitW hpre).2;obtain⟨d,r,rfl,h1,h2⟩:=hasAllW_cons hsh;obtain rfl:=hasAllW_nil h2;obtain⟨xs,rfl,h3⟩:=hasW_list h1;obtain⟨ns,rfl⟩:=items_int h3
 have hlen:ns.length<=n:=by
  unfold OpenLaw.pre at hc
  have h4:(WTm.not (.lt (.lit (.int (n:Int))) (.len (.arg 0)))).holds [] { args:=[.list (ns.map .int)] }=true:=by
   have h4:=(holds_andW hc).1;rw[hn]at h4;exact h4
  have h5:=condW_of h4 (w_not (w_lt w_lit (w_len_list (w_arg rfl))));rw[yK]at h5;refine Nat.le_of_not_lt λq=>?_
  have q':(n:Int)<((ns.length:Nat):Int):=by omega
  first
   |(rw[yb q']at h5; exact absurd h5 (by decide))
   |(simp at h5; omega)
 cases hwl with
 |cons w1 w2=>
  cases w2;cases w1 with
  |list ho hall=>exact⟨_,_,ns,rfl,rfl,ho,SX ns _ hall,hlen⟩
theorem post_true(l:OpenLaw)(args:List WData):l.row.toRowW.claim.post args (.bool true) args=true:=
 postW_of (r:=l.row.toRowW) (X:=(true==true))
  (show WShape.has [] (.bool true) .bool=true by first|rfl|decide|simp[WShape.has,WShape.arms,WShape.armsAll])
  (show(WTm.eq .res (.lit (.bool true))).value [] { args:=args,res:=some (.bool true),after:=args }=some (.bool (true==true))from w_eq_bool (w_res rfl) w_lit) rfl
end Att
namespace L2
open PySem PySem.Spec PyProof.Rows
theorem KC:∀{vs:List Value}{ns:List Int},IntsAre vs ns->zz (ns.map V.int) vs
 |_,_,.nil=>.nil
 |_,_,.cons n t h=>.cons ⟨t,rfl⟩ (KC h)
noncomputable def DM(H:Hp):Prop:=∀b,H b=none\/∃o xs,H b=some (.yI o (.lst xs))
theorem AG{P:Program}{w:World}{K:W.Frag}{mg mb:Str->Option Value}{CX:qy}{k:Nat}{fa a:Addr}{fd:FuncData}{x:Str}{sp:Sp}{s₁:Shared}{vs:List Value}{ns:List Int}
  (KX:K.In s₁.heap)(hns:s₁.heap.Ns mainGlobals mg)(hb:s₁.heap.Ns builtinsNs mb)(hbb:∀x:Str,x ≠ "__name__" -> mb x=bootBuiltins x)(hlim:s₁.heap.NoLimit)(hg:s₁.gens=#[])
  (ha:s₁.heap.get? a=some { cls:=.type "list",data:=.seq vs.toArray })(hi:IntsAre vs ns)(hl:ns.length<=sizeLine)(hr:xl k callerA)
  (F:∀base:Heap,K.In base->base.Ns mainGlobals mg->tM P w K mg base CX k fa fd [x] sp)(hbind:∀(s:Shared)(u:Value),BindsTo s fd ⟨[u],[]⟩ [(x,u)])
  (hsp:∀H:Hp,DM H->yj K H a (ns.map V.int)->sp [.ref a] H (λv _=>v=.bl true) λ_ _ _=>False)
  (hCX:∀H e s',CX [] H s₁ (λ_ _ _=>False) e s'->False) :
  codeAny (model P w) callerA (.call (.ref fa) ⟨[.ref a],[]⟩) (λr s'=>r=.ok (.ret (.bool true))/\OldK s₁.heap s'.heap/\s'.os=s₁.os/\AllBare s'.gens) s₁:=by
 have rv:=KC hi;have lenV:=hi.length
 have core:∀H:Hp,DM H->yj K H a (ns.map V.int)->xQ P w H s₁.heap->(∀b,H b≠none->b=a)->(H a≠none->K.lookup a=none)->
   codeAny (model P w) callerA (.call (.ref fa) ⟨[.ref a],[]⟩) (λr s'=>r=.ok (.ret (.bool true))/\OldK s₁.heap s'.heap/\s'.os=s₁.os/\AllBare s'.gens) s₁:=by
  intro H hO hS zj hA hK;have base_of:∀{b:Addr}{o:Obj},s₁.heap.get? b=some o->H b=none->(jG s₁.heap H).get? b=some o:=λe n=>S0 e n
  have noA:∀{b:Addr}{o:Obj}{es:Array DictEntry}{ep:Nat},s₁.heap.get? b=some o->o.data=.dict es ep->H b=none:=λ{b o es ep} e d=>by
   cases q:H b with
   |none=>rfl
   |some u=>
    have e':b=a:=hA b (by rw[q]; simp);subst e';rw[ha]at e; cases e;have d':Data.seq vs.toArray _=Data.dict es ep:=d;cases d'
  have nsK:∀{b:Addr}{m:Str->Option Value},s₁.heap.Ns b m->(jG s₁.heap H).Ns b m:=λ{b m} ⟨o,es,ep,e,d,r⟩=>⟨o,es,ep,base_of e (noA e d),d,r⟩
  have hKb:K.In (jG s₁.heap H):=λb o e=>base_of (KX b o e) (by
   cases q:H b with
   |none=>rfl
   |some u=>
    have e':b=a:=hA b (by rw[q]; simp);subst e';rw[hK (by rw[q]; simp)]at e; cases e)
  have hM:Mod K mg (jG s₁.heap H):=⟨hKb,nsK hns,⟨mb,nsK hb,hbb⟩,let ⟨mc,h1,h2⟩:=hlim; ⟨mc,nsK h1,h2⟩⟩;have e0:Vf P w K mg (jG s₁.heap H) callerA [] s₁ H:=⟨rfl,hM,λb o e=>ak e,Nat.le_of_eq (S3 _ _),trivial,λb hb=>absurd (show b∈([]:List Addr)from hb) (by simp),zj,.of_eq hg⟩;refine codeAny_mono ((F _ hKb (nsK hns)).run callerA [] s₁ H ⟨[.ref a],[]⟩ [.ref a] [.ref a] _ _ hr e0 (hbind s₁ (.ref a)) (.cons rfl .nil) (hsp H hO hS)) λr s' h=>?_
  cases r with
  |error e=>exact(hCX H e s' h).elim
  |ok fl=>
   cases fl with
   |next=>exact False.elim h
   |brk=>exact False.elim h
   |cont=>exact False.elim h
   |ret u=>
    obtain⟨v,H',os,bare,un,hok',r',q⟩:=h;have q':v=.bl true:=q;subst q';obtain rfl:u=Value.bool true:=r';refine⟨rfl,OldK.of_keep λb o e=>?_,os,bare⟩;cases q:H b with
    |none=>exact un.keep b o e q (by intro z; exact absurd (show b∈([]:List Addr)from z) (by simp)) (by simp)
    |some u=>
     rcases hO b with z|⟨ob,xs,z⟩
     ·rw[q]at z; cases z
     ·have z2:=un.vc b ob _ z;obtain⟨e1,_⟩:=zj b _ z;obtain⟨e2,_⟩:=hok' b _ z2;rw[e]at e1; cases e1;exact e2
 cases hk:K.lookup a with
 |some o=>
  have e:=KX a o hk;rw[ha]at e;cases e;refine core (λ_=>none) (λ_=>.inl rfl) (.inr ⟨_,vs.toArray,_,hk,rfl,rfl,rfl,by rw[yo,lenV]; exact hl,by simpa using rv⟩) (λb u z=>by have z':(none:Option HO)=some u:=z; cases z') (λb z=>absurd rfl z) λz=>absurd rfl z
 |none=>
  refine core (λb=>if b=a then some (.yI { cls:=.type "list",data:=.seq vs.toArray } (.lst (ns.map V.int)))else none) (λb=>?_) (.inl (.inr ⟨{ cls:=.type "list",data:=.seq vs.toArray },zP rfl⟩)) (λb u z=>?_) (λb z=>?_) λ_=>hk
  ·by_cases hb:b=a
   ·exact .inr ⟨_,_,zP hb⟩
   ·exact .inl (zV hb)
  ·by_cases hb:b=a
   ·have z':=(zP hb).symm.trans z;cases z';subst hb;exact⟨ha,by rw[yK]; exact hl,vs,_,rv,ha⟩
   ·have z':=(zV hb).symm.trans z;cases z'
  ·by_cases hb:b=a
   ·exact hb
   ·exact absurd (zV hb) z
noncomputable def j_(s:Stmt):Arguments:=match s with
 |.FunctionDef _ a _ _ _ _ _ _ _ _=>a
 |_=>{ posonlyargs:=[],args:=[],vararg:=none,kwonlyargs:=[],kw_defaults:=[],kwarg:=none,defaults:=[] }
noncomputable def t7(s:Stmt):List Stmt:=match s with
 |.FunctionDef _ _ b _ _ _ _ _ _ _=>b
 |_=>[]
noncomputable def zx(s:Stmt):Scope:=match s with
 |.FunctionDef _ _ _ _ _ _ sc _ _ _=>sc
 |_=>{ kind:=.function,names:=[],isGenerator:=false,isCoroutine:=false }
noncomputable abbrev uu:qy:=λ_ _ _ _ _ _=>False
noncomputable abbrev E0:XK:=λ_ _ _=>False
theorem El{X:Cx}:Vj uu X E0:=λ_ _ _ _ _ _ _ h=>h.elim
structure jq(K:W.Frag)(x qual:Str)(st:Stmt)(f:Addr)(fd:FuncData):Prop where
 ex:∃(oc:Value) (od:Option Addr) (kV doc pm:Value) (an:Option Addr) (cdv ct:Value) (osl:Array (Option Value)),
  fd=W.fnOf x qual (j_ st) (t7 st) (zx st) .none kV doc pm an cdv ct/\K.lookup f=some ⟨oc,od,.func fd,osl⟩/\W.codeIn K cdv qual=true
 kp:W.keepIn K (.ref f)=true
section
variable{P:Program}{w:World}{K:W.Frag}{mg:Str->Option Value}{base:Heap}
theorem jq.ok{x qual:Str}{st:Stmt}{f:Addr}{fd:FuncData}{N ps:List Str}{k:Nat}{sp:Sp}(F:jq K x qual st f fd)(S:yP N ps (zx st))(len:∀vs H Q E,sp vs H Q E->vs.length=ps.length)
  (hbody:∀(cdv:Value)(A:Around)(outer:List Env)(s:Shared)(H:Hp)(vs:List V)(Q:VK)(E:XK),xl k (A.deeper (envOfC qual (zx st) s.heap.objs.size f cdv))->sp vs H Q E->
   ∃t,vo (pF uu P w K mg base N qual (zx st) f cdv A outer s H E).tJ (t7 st) t/\t { nx:=λ_ H'=>Q .zD H',rt:=Q } (start N vs) H):tM P w K mg base uu (k+1) f fd ps sp:=by
 obtain⟨oc,od,kV,doc,pm,an,cdv,ct,osl,rfl,lk,hcd⟩:=F.ex;refine RN lk hcd S len λA outer s H vs Q E hr hsp=>?_
 obtain⟨t,h,q⟩:=hbody cdv A outer s H vs Q E hr hsp;exact⟨t,h.tJ,q⟩
theorem jq.binds{x qual:Str}{st:Stmt}{f:Addr}{fd:FuncData}{ps:List Str}(F:jq K x qual st f fd)
  (h:∀(kV doc pm:Value)(an:Option Addr)(cdv ct:Value)(us:List Value),us.length=ps.length->bindArgs (W.fnOf x qual (j_ st) (t7 st) (zx st) .none kV doc pm an cdv ct) ⟨us,[]⟩=pure (ps.zip us)):jb K fd ps []:=by
 obtain⟨oc,od,kV,doc,pm,an,cdv,ct,osl,rfl,lk,hcd⟩:=F.ex;exact .all (h kV doc pm an cdv ct)
theorem FP{x qual:Str}{st:Stmt}{f:Addr}{oc:Value}{od an:Option Addr}{osl:Array (Option Value)}{kV doc pm cdv ct:Value}(l:K.lookup f=some ⟨oc,od,.func (W.fnOf x qual (j_ st) (t7 st) (zx st) .none kV doc pm an cdv ct),osl⟩)
  (c:W.codeIn K cdv qual=true)(k:W.keepIn K (.ref f)=true):jq K x qual st f (W.fnOf x qual (j_ st) (t7 st) (zx st) .none kV doc pm an cdv ct):=⟨⟨oc,od,kV,doc,pm,an,cdv,ct,osl,rfl,l,c⟩,k⟩
end
theorem zZ{A:Around}{k:Nat}(hr:xl k A):A.units+1<cLine:=Bu (Kt (by decide:1<=64) _) hr.units
theorem l8{n:Nat}(h:n<=1000):n<sizeLine:=Bu h (by decide)
section
variable{X:Cx}
theorem pv(i:Nat){x:Str}{pos:Pos}(hN:X.N[i]?=some x:=by rfl)(hv:tQ X.env.scope x:=by first|exact Or.inl rfl|exact Or.inr (Or.inl rfl)|exact Or.inr (Or.inr rfl))(hd:(x==("__debug__" : Str))=false:=by decide)
  (hcd:(x==("__classdict__" : Str))=false:=by decide):PE X (.Name x pos) (jO i):=Z6 hN hv hd hcd
end
theorem ky{A B:Prop}(h:B):if false=true then A else B:=by
 rw[zV xf];exact h
theorem kz{A B:Prop}(h:A):if true=true then A else B:=by
 rw[zP rfl];exact h
noncomputable def yc(H H':Hp):Prop:=∀b o,H b=some o->H' b=some o
theorem yc.refl(H:Hp):yc H H:=λ_ _ h=>h
theorem yc.trans{H H1 H2:Hp}(a:yc H H1)(b:yc H1 H2):yc H H2:=λc o h=>b c o (a c o h)
theorem yc.free{H H':Hp}(e:yc H H'){l:Addr}(h:H' l=Option.none):H l=Option.none:=by
 cases q:H l with
 |none=>rfl
 |some o=>
  rw[e l o q]at h;cases h
end L2
set_option linter.all false
set_option maxRecDepth 100000
set_option maxHeartbeats 4000000
namespace L2
open PySem PySem.Spec PyProof.Rows
noncomputable def Def(K:W.Frag)(mg:Str->Option Value)(x:Str)(st:Stmt)(ps:List Str):Prop:=
 ∃(f:Addr) (fd:FuncData),jq K x x st f fd/\mg x=some (.ref f)/\jb K fd ps []
noncomputable def yQ(P:Program)(w:World)(K:W.Frag)(mg:Str->Option Value)(base:Heap)(x:Str)(ps:List Str)(k:Nat)(sp:Sp):Prop:=
 ∃(f:Addr) (fd:FuncData),mg x=some (.ref f)/\W.keepIn K (.ref f)=true/\jb K fd ps []/\tM P w K mg base uu k f fd ps sp
noncomputable def xU(mg:Str->Option Value)(x:Str)(v:V):Prop:=∃u,mg x=some u/\yB v u
section
variable{P:Program}{w:World}{K:W.Frag}{mg:Str->Option Value}{base:Heap}
theorem Def.ok{x:Str}{st:Stmt}{N ps:List Str}{k:Nat}{sp:Sp}(d:Def K mg x st ps)(S:yP N ps (zx st))(len:∀vs H Q E,sp vs H Q E->vs.length=ps.length)
  (hbody:∀(f:Addr)(cdv:Value)(A:Around)(outer:List Env)(s:Shared)(H:Hp)(vs:List V)(Q:VK)(E:XK),xl k (A.deeper (envOfC x (zx st) s.heap.objs.size f cdv))->sp vs H Q E->
   ∃t,vo (pF uu P w K mg base N x (zx st) f cdv A outer s H E).tJ (t7 st) t/\t { nx:=λ_ H'=>Q .zD H',rt:=Q } (start N vs) H):yQ P w K mg base x ps (k+1) sp:=by
 obtain⟨f,fd,F,hm,hb⟩:=d;exact⟨f,fd,hm,F.kp,hb,F.ok S len (hbody f)⟩
end
section
variable{X:Cx}{x:Str}{p pos:Pos}{e:Expr}{es:List Expr}{t:TA}{ps:List Str}{j k:Nat}{sp:Sp}{v:V}{T:String}
noncomputable def xJ:Expr->Bool
 |.Starred ..=>false
 |_=>true
theorem u2{e:Expr}{es:List Expr}{env:Env}(h:xJ e=true):starEach (e::es) env=(false,eval e env)::starEach es env:=by
 cases e<;>first|rfl|cases h
theorem Wg{env:Env}{pos:Pos}:∀{es:List Expr},es.all xJ=true->(backTo pos (starEach es env)).any (·.1)=false
 | [],_=>rfl
 |e::es,h=>by
  rw[wp,xS]at h;rw[u2 h.1];have ih:=Wg (env:=env) (pos:=pos) h.2;unfold backTo at ih ⊢;rw[xY,Ys,ih];rfl
theorem WM{te:TE}(ha:PE X e te)(hr:PA X es t)(h:xJ e=true:=by rfl):PA X (e::es) (Yl te t):=Eg ha hr (u2 h)
noncomputable def Vx:Expr->Option Int
 |.Constant (.int i) _ _=>some i
 |_=>none
theorem NW{e:Expr}{i:Int}(h:Vx e=some i):∃k p,e=.Constant (.int i) k p:=by
 cases e<;>first|(cases h; done)|skip
 rename_i c k p;cases c<;>first|(cases h; done)|skip
 cases h;exact⟨k,p,rfl⟩
noncomputable def intsOf:List Expr->Option (List Int)
 | []=>some []
 |e::r=>(Vx e).bind λi=>(intsOf r).map (i::·)
theorem Eh:∀{es:List Expr}{is:List Int},intsOf es=some is->PA X es (λ_ H Q=>Q (is.map V.int) H)
 | [],is,h=>by
  cases(show some []=some is from h);exact YT
 |e::r,is,h=>by
  have q:((Vx e).bind λi=>(intsOf r).map (i::·))=some is:=h;cases e1:Vx e with
  |none=>rw[e1]at q; cases q
  |some i=>
   rw[e1]at q;obtain⟨k,p,rfl⟩:=NW e1;cases e2:intsOf r with
   |none=>rw[e2]at q; cases q
   |some js=>
    rw[e2]at q;cases(show some (i::js)=some is from q);exact WM Em (Eh e2)
theorem Lg(h:yQ X.prog X.w X.K X.mg X.base x ps k sp)(hr:xl j X.A)(hg:Gl X x)(ha:PA X (e::es) t)(hk:k<=j:=by decide)(hdb:(x==("__debug__" : Str))=false:=by decide)
  (he:(e::es).all xJ=true:=by rfl):PE X (.Call (.Name x p) (e::es) [] pos) (BE sp [] E0 t):=by
 obtain⟨f,fd,hm,kp,b,F⟩:=h;rw[wp,xS]at he;exact cX F (hr.mono hk) hg hm kp b .nil El ha hdb (u2 he.1) (Wg he.2)
theorem WN(h:xU X.mg x v)(hg:Gl X x)(hd:(x==("__debug__" : Str))=false:=by decide):PE X (.Name x pos) (tC v):=by
 obtain⟨u,hm,r⟩:=h;exact cf hg hm r hd
theorem cW(hg:Gl X x)(hm:X.mg x=none)(hv:bootBuiltins x=some (.type T))(hn:x ≠ "__name__" := by decide)(hd:(x==("__debug__" : Str))=false:=by decide):PE X (.Name x pos) (tC (.ty T)):=
 cU hg hm hv rfl hn hd
end
section
variable{X:Cx}
theorem w6:yi X (binaryOp .FloorDiv) (rI (λ_ j=>0<j/\j<2 ^ 64) λi j=>.int (i/j)):=YS λi j _ _ _ _ _ hc q=>by
 have h1:(0:Int)<j:=hc.1;have h2:j<2 ^ 64:=hc.2;have h3:j.natAbs.log2<64:=(Nat.log2_lt (by omega)).mpr (by omega);exact PyProof.Rows.floordiv_int (by omega) (by rw[KW i (by omega)]; exact q) (.inl (PyProof.noPylong_of_log2 (by omega)))
end
theorem wd:bootBuiltins "len" = some (.builtin "len"):=by decide +kernel
theorem Np:bootBuiltins "isinstance" = some (.builtin "isinstance"):=by decide +kernel
theorem Nq:bootBuiltins "min" = some (.builtin "min"):=by decide +kernel
theorem Dp:bootBuiltins "max" = some (.builtin "max"):=by decide +kernel
theorem kB:bootBuiltins "int" = some (.type "int"):=by decide +kernel
theorem Nm:bootBuiltins "bool" = some (.type "bool"):=by decide +kernel
theorem jx:bootBuiltins "str" = some (.type "str"):=by decide +kernel
theorem Do:bootBuiltins "list" = some (.type "list"):=by decide +kernel
theorem Nn:bootBuiltins "tuple" = some (.type "tuple"):=by decide +kernel
theorem A4{K:W.Frag}:W.kitOne K (.type "int") (.type "int")=some true:=by rfl
theorem A2{K:W.Frag}:W.kitOne K (.type "bool") (.type "int")=some true:=by kernel_rfl
theorem A3{K:W.Frag}:W.kitOne K (.type "int") (.type "bool")=some false:=by kernel_rfl
theorem A1{K:W.Frag}:W.kitOne K (.type "bool") (.type "bool")=some true:=by rfl
theorem A6{K:W.Frag}:W.kitOne K (.type "NoneType") (.type "int")=some false:=by kernel_rfl
theorem A5{K:W.Frag}:W.kitOne K (.type "NoneType") (.type "bool")=some false:=by kernel_rfl
theorem A8{K:W.Frag}:W.kitOne K (.type "tuple") (.type "tuple")=some true:=by rfl
theorem A7{K:W.Frag}:W.kitOne K (.type "str") (.type "str")=some true:=by rfl
theorem wn{H:Hp}{p:Addr}(h:H p=none)(o:HO):yc H (zc H p o):=λb u q=>by rw[yE (uI q h)]; exact q
theorem small{n:Nat}(h:n<=1000):n<=sizeLine:=Zb (l8 h)
noncomputable def jd(env:Env):List (Str×Addr)->Prop
 | []=>True
 |p::r=>env.cells.lookup p.1=some p.2/\jd env r
theorem jd.get{env:Env}:∀{cl:List (Str×Addr)} {y:Str} {c:Addr},jd env cl->cl.lookup y=some c->env.cells.lookup y=some c
 | [],_,_,_,h=>by cases h
 |(n,a)::r,y,c,hc,h=>by
  rw[Bq]at h;cases e:y==n with
  |true=>
   rw[e]at h;have e':y=n:=by simpa using e
   subst e';have h':a=c:=by simpa using h
   subst h';exact hc.1
  |false=>
   rw[e]at h;exact jd.get hc.2 (by simpa using h)
noncomputable def Y2(scope:Scope)(env:Env)(cl:List (Str×Addr))(own:List Str):Bool:=
 scope.names.all λp=>p.1 != ("." : Str)&&((p.2 == .local&&(own.contains p.1||p.1==(".0" : Str)))||p.2 == .globalImplicit||p.2 == .globalExplicit ||
  (p.2 == .free&&(env.kindOf p.1==some .cell||env.kindOf p.1==some .free)&&(cl.lookup p.1).isSome))
noncomputable def W5(own:List Str)(y:Str):Str:=if own.contains y||y==(".0" : Str)then "." else y
noncomputable def vT(N own:List Str):List Str:=N.map (W5 own)++own
theorem Lx{env:Env}:∀{names:List (Str×NameKind)} {y:Str} {k:NameKind},
  (names.map λ(n,k)=>if(k==NameKind.free&&env.scope.kind == .function&&env.kindOf n==some .cell)then(n,NameKind.cell)else(n,k)).lookup y=some k->∃k0,(y,k0)∈names/\(k=k0\/(k0=.free/\k=.cell))
 | [],_,_,h=>by simp at h
 |(n,k')::r,y,k,h=>by
  rw[xY]at h;by_cases hc:(k'==NameKind.free&&env.scope.kind == .function&&env.kindOf n==some .cell)=true
  ·dsimp only at h;rw[zP hc,Bq]at h;cases e:y==n with
   |true=>
    rw[e]at h;have e':y=n:=by simpa using e
    subst e';have h':NameKind.cell=k:=by simpa using h
    have hf:k'=.free:=by
     rw[xS,xS]at hc;simpa using hc.1.1
    exact⟨k',xh,.inr ⟨hf,h'.symm⟩⟩
   |false=>
    rw[e]at h;obtain⟨k0,m,z⟩:=Lx (env:=env) (by simpa using h);exact⟨k0,wN _ m,z⟩
  ·dsimp only at h;rw[zV hc,Bq]at h;cases e:y==n with
   |true=>
    rw[e]at h;have e':y=n:=by simpa using e
    subst e';have h':k'=k:=by simpa using h
    exact⟨k',xh,.inl h'.symm⟩
   |false=>
    rw[e]at h;obtain⟨k0,m,z⟩:=Lx (env:=env) (by simpa using h);exact⟨k0,wN _ m,z⟩
noncomputable def xo(X:Cx)(scope:Scope)(cl:List (Str×Addr))(own:List Str)(C:Addr)(s2:Shared)(H2:Hp)(fp:List Addr)(pn:List (Addr×Obj)):Cx:=
 { X with N:=vT X.N own,s₀:=s2,H₀:=H2,env:=compEnvC scope cl C X.env,outer:=X.stack,stack:=X.stack,ex:=fp,fn:=λ_=>false,pn:=pn,xe:=λ_ _=>False }
section
variable{X:Cx}{z8:List (Addr×Obj)}{σ:St}{H2:Hp}{s2:Shared}{scope:Scope}{cl:List (Str×Addr)}{own:List Str}{C D:Addr}{fp:List Addr}
theorem Dl(hb:Y2 scope X.env cl own=true){y:Str}{k:NameKind}(h:(relabel scope X.env).names.lookup y=some k) :
  y ≠ "." /\ ((k=.local->own.contains y=true\/y = ".0")/\((k=.cell\/k=.free)->(∃k0,(y,k0)∈scope.names/\k0=.cell)\/((X.env.kindOf y=some .cell\/X.env.kindOf y=some .free)/\∃c,cl.lookup y=some c))):=by
 obtain⟨k0,m,z⟩:=Lx h;have q:=u5.mp hb _ m;rw[xS]at q;obtain⟨q1,q2⟩:=q;refine⟨by simpa using q1,λhk=>?_,λhk=>?_⟩
 ·rcases z with z|⟨_,z⟩
  ·subst z;subst hk;simpa using q2
  ·rw[z]at hk;cases hk
 ·have hf:k0=.free\/k0=.cell:=by
   rcases z with z|⟨z,_⟩
   ·subst z;rcases hk with hk|hk
    ·exact .inr hk
    ·exact .inl hk
   ·exact .inl z
  rcases hf with hf|hf
  ·subst hf
   right
   have q3:((X.env.kindOf y==some .cell||X.env.kindOf y==some .free)&&(cl.lookup y).isSome)=true:=by simpa using q2
   rw[xS]at q3;refine⟨?_,Kx.mp q3.2⟩;have:=q3.1;rw[Bool.or_eq_true]at this;rcases this with t|t
   ·exact .inl (by simpa using t)
   ·exact .inr (by simpa using t)
  ·exact .inl ⟨k0,m,hf⟩
theorem OQ(hb:Y2 scope X.env cl own=true)(hcell:∀y∈scope.names,y.2≠.cell){y:Str}{k:NameKind}(h:(relabel scope X.env).names.lookup y=some k)(hk:k=.cell\/k=.free) :
  (X.env.kindOf y=some .cell\/X.env.kindOf y=some .free)/\∃c,cl.lookup y=some c:=by
 rcases(Dl hb h).2.2 hk with⟨k0,m,e⟩|q
 ·exact absurd e (hcell _ m)
 ·exact q
theorem Dm(I:Inv X z8 σ H2 s2)(hk:scope.kind=.function)(hcell:∀y∈scope.names,y.2≠.cell)(hcap:jd X.env cl)(hb:Y2 scope X.env cl own=true)(hC:s2.heap.objs.size<=C)
  (hfp:∀b∈fp,tN X z8 H2 b)(hfo:∀b∈fp,∃o,s2.heap.get? b=some o):(xo X scope cl own C s2 H2 fp (X.pn++z8)).Ok where
 mod:=I.ok.mod
 kind:=hk
 glob:=I.ok.glob
 blt:=I.ok.blt
 above:=hC
 inj:=λx y c h1 h2=>I.ok.inj x y c (hcap.get h1) (hcap.get h2)
 has:=λx hx=>by
  rcases hx with hx|hx
  ·exact(OQ hb hcell (show(relabel scope X.env).names.lookup x=_ from hx) (.inl rfl)).2
  ·exact(OQ hb hcell (show(relabel scope X.env).names.lookup x=_ from hx) (.inr rfl)).2
 Zg:=λx c h=>by cases h
 hd:=I.ok.hd
 frames:=I.ok.frames
 X9:=.inl rfl
 X4:=λb hx=>⟨by
  obtain⟨o,e⟩:=hfo b hx;exact u7 (wW (yh e) hC),λx c h=>(hfp b hx).2.2.2.2.1 x c (hcap.get h)⟩
 bs:=I.bs
 pz:=xO I.ok.pz I.sz
 Zk:=λb o e hx=>by
  rcases(hfp b hx).2.2.2.1 with z|z
  ·exact I.ok.Zk b o e z
  ·exact absurd (wW (yh e) (xO I.ok.pz z)) (v6 _)
 Zh:=λb hx hz=>by
  rcases xN.mp (I.XA b hz)with z|z
  ·exact(hfp b hx).2.1 z
  ·exact(hfp b hx).2.2.1 z
 tI:=I.stack
 gn:=I.DG
theorem UP{α:Type}{σ:List (Option α)}{n i:Nat}{v:α}(h:(σ++List.replicate n none)[i]?=some (some v)):σ[i]?=some (some v):=by
 by_cases hi:i<σ.length
 ·rw[ZY hi]at h;exact h
 ·rw[Bo (by omega),Kf]at h
  split at h<;>cases h
theorem Nl{h4:Heap}{m0:Str->Option Value}{dobj:Obj}{tk:Nat}(I:Inv X z8 σ H2 s2)(hk:scope.kind=.function)(hcell:∀y∈scope.names,y.2≠.cell)(hcap:jd X.env cl)(hb:Y2 scope X.env cl own=true)
  (hC:s2.heap.objs.size<=C)(hD:s2.heap.objs.size<=D)(hDC:D≠C)(hfp:∀b∈fp,tN X z8 H2 b)(hfo:∀b∈fp,∃o,s2.heap.get? b=some o)
  (keep:∀b o,s2.heap.get? b=some o->h4.get? b=some o)(ns:h4.Ns C m0)(hd:h4.get? D=some dobj)(hdd:∀v,dobj.data≠.cell v) :
  Inv (xo X scope cl own C s2 H2 fp (X.pn++z8)) [(D,dobj)] (σ++List.replicate own.length none) H2 { s2 with heap:=h4,toks:=tk }:=by
 have nfs:∀a,s2.heap.objs.size<=a->a ∉ vv X.stack:=λa ha hz=>by
  rcases xN.mp (I.XA a hz)with z|z
  ·exact absurd (wW I.lt ha) (by rw[z]; exact v6 _)
  ·exact I.DC ha z
 refine⟨Dm I hk hcell hcap hb hC hfp hfo,rfl,I.bare,Un.kept keep,⟨m0,ns,λi y v e1 e2 e3=>?_⟩,λx c h=>?_,I.zj.fresh hC,λx c h=>I.ut x c (hcap.get h),λp hp=>?_,I.zj.kept keep,?_⟩
 ·have e2':σ[i]?=some (some v):=UP e2
  have hi:i<X.N.length:=by
   have:=(xT.mp e2').1;rw[I.len]at this;exact this
  have e1':(X.N.map (W5 own)++own)[i]?=some y:=e1;rw[ZY (by simpa using hi),wM]at e1';cases en:X.N[i]? with
  |none=>
   rw[en]at e1';cases e1'
  |some n=>
   rw[en]at e1';have ey:W5 own n=y:=vk e1'
   have vis:∃k,(relabel scope X.env).names.lookup y=some k/\(k=.local\/k=.cell\/k=.free):=by
    rcases e3 with z|z|z
    ·exact⟨_,z,.inl rfl⟩
    ·exact⟨_,z,.inr (.inl rfl)⟩
    ·exact⟨_,z,.inr (.inr rfl)⟩
   obtain⟨k,lk,kk⟩:=vis;obtain⟨nd,loc,_⟩:=Dl hb lk;unfold W5 at ey;by_cases ho:(own.contains n||n==(".0" : Str))=true
   ·rw[zP ho]at ey;exact absurd ey.symm nd
   ·rw[zV ho]at ey;subst ey
    have kk':k=.cell\/k=.free:=by
     rcases kk with z|z
     ·exfalso
      apply ho;rcases loc z with t|t
      ·rw[t]; rfl
      ·subst t; simp
     ·exact z
    obtain⟨ok,c,hc⟩:=OQ hb hcell lk kk';obtain⟨m,hn,hl⟩:=I.loc;obtain⟨u,r,l⟩:=hl i n v en e2' (.inr ok);refine⟨u,r,.inr ⟨?_,c,hc,?_⟩⟩
    ·rcases kk' with z|z
     ·subst z; exact .inl lk
     ·subst z; exact .inr lk
    ·rcases l with⟨z,_⟩|⟨_,c',hc',z⟩
     ·rcases ok with t|t<;>(rw[t]at z; cases z)
     ·rw[hcap.get hc]at hc';cases hc';obtain⟨o,ho',hd'⟩:=z;exact⟨o,keep _ _ ho',hd'⟩
 ·obtain⟨v,o,ho,hd'⟩:=I.cell x c (hcap.get h);exact⟨v,o,keep _ _ ho,hd'⟩
 ·rcases wb.mp hp with z|z
  ·obtain⟨e,n,ne,nf,d⟩:=I.pin p z;refine⟨keep _ _ e,n,u7 (wW (yh e) hC),λhz=>?_,d⟩;rcases xN.mp (I.XA p.1 hz)with t|t
   ·exact ne t
   ·exact nf t
  ·have e:p=(D,dobj):=by simpa using z
   subst e;exact⟨hd,I.zj.fresh hD,hDC,nfs D hD,hdd⟩
 ·show(σ++List.replicate own.length none).length=(X.N.map (W5 own)++own).length;rw[xC,xC,jT,yK,I.len]
end
noncomputable def gy(X:Cx)(ifs:List Expr)(tc:TT):Prop:=
 ∀(z8:List (Addr×Obj)) (s:Shared) (σ:St) (H:Hp) (Q:Bool->Hp->Prop),Inv X z8 σ H s->tc σ H Q->
  wpAny (model X.prog X.w) X.A (forIn ifs true λc r=>if r=true then do let ok <-isTrue c X.env (eval c X.env); pure (ForInStep.yield ok)else pure (ForInStep.yield r)) (TP X z8 σ Q) X.xe s
noncomputable def lu:TT:=λ_ H Q=>Q true H
theorem d_{X:Cx}:gy X [] lu:=λ_ _ _ H _ I h=>wpAny_tests_nil ⟨H,I,h⟩
theorem e5{X:Cx}{c:Expr}{t:TT}(h:PT X c t):gy X [c] t:=λz8 s σ H Q I q=>wpAny_tests_one (h z8 s σ H Q I q)
section
variable{prog:Program}{w:World}{A:Around}{R:Result->Shared->Prop}{s:Shared}
theorem AO{elt tg iter:Expr}{ifs:List Expr}{scope:Scope}{pos:Pos}{it acc:Value}{env:Env}(J:Nat->Shared->Prop)
  (turn:∀n s,J n s->wpAny (model prog w) A (pyNext it) (λr s₁=>match r with
   |none=>R (.ok .next) s₁
   |some v=>wpAny (model prog w) A (letOwnedTupleGo tg it v) (λ_ z=>wpAny (model prog w) A (assign tg env v) (λ_ s₂=>
    wpAny (model prog w) A (forIn ifs true λc r=>if r=true then do let ok <-isTrue c env (eval c env); pure (ForInStep.yield ok)else pure (ForInStep.yield r)) (λok s₃=>
     if ok=true then wpAny (model prog w) A (eval elt env) (λx s₄=>wpAny (model prog w) A (call (.builtin "list.append") [acc,x]) (λ_ s₅=>∃m,m<n/\J m s₅) (λ_ _=>False) s₄) (λ_ _=>False) s₃
     else ∃m,m<n/\J m s₃) (λ_ _=>False) s₂) (λ_ _=>False) z) (λ_ _=>False) s₁) (λ_ _=>False) s)
  (n:Nat)(h:J n s):codeAny (model prog w) A (.compLoop (.ListComp elt [⟨tg,iter,ifs,0⟩] scope pos) 0 it acc env) R s:=by
 have no:∀{P:Value->Shared->Prop},∀e s',(λ_ _=>False:Value->Shared->Prop) e s'->P e s':=λ_ _ z=>z.elim
 refine codeAny_loop rfl J (λn s hI=>?_) n h;show wpAny _ A (Sem.onRaise (compTurn (.ListComp elt [⟨tg,iter,ifs,0⟩] scope pos) 0 it acc env) (λx=>do noteFrame x env; theTreesLotGoes x)) _ _ s;refine wpAny_noted ?_;rw[compTurn_list];refine zR (JL (zR (va (turn n s hI) (λr s₁ h₁=>?_) no)));cases r with
 |none=>exact yW h₁
 |some v=>
  refine zR (va h₁ (λ_ z hz=>?_) no);refine zR (va hz (λ_ s₂ h₂=>?_) no);refine zR (va h₂ (λok s₃ h₃=>?_) no);cases ok with
  |false=>exact yW ⟨rfl,h₃⟩
  |true=>
   refine zR (zR (va h₃ (λx s₄ h₄=>?_) no));exact zR (va h₄ (λ_ s₅ h₅=>yW (yW ⟨rfl,h₅⟩)) no)
end
noncomputable abbrev wz(its:List Value)(k:Nat):Obj:={ cls:=.type "list",data:=.seq its.toArray k }
theorem CM{its:List Value}{k:Nat}:∀v,(wz its k).data≠.cell v:=λ_ z=>nomatch z
section
variable{X:Cx}{σ:St}{H:Hp}{s:Shared}{D:Addr}
theorem SY{pl:List (Addr×Obj)}{its its':List Value}{k k' tk:Nat}{h':Heap}(I:Inv X ((D,wz its k)::pl) σ H s)(hD:X.s₀.heap.objs.size<=D)(hpn:∀p∈X.pn,p.1≠D)
  (hs:Heap.SameBut D s.heap h')(hd:h'.get? D=some (wz its' k')):Inv X [(D,wz its' k')] σ H { s with heap:=h',toks:=tk }:=by
 obtain⟨e,n,ne,nf,d⟩:=I.pin (D,wz its k) (ur _ xh);have I0:Inv X [] σ H s:=I.X8 λp hp=>absurd hp (by simp)
 have I1:Inv X [] σ H { s with heap:=h',toks:=tk }:=I0.turned (it:=D) (λb o hb q=>(hs.2 b hb).trans q) n ne (.inr hD) (λx c hc z=>by
  subst z;obtain⟨v,o,ho,hv⟩:=I.cell x c hc;rw[show s.heap.get? c=some (wz its k)from e]at ho;cases ho;exact d v hv) (λp hp=>hpn p (by simpa using hp))
 exact I1.X8 λp hp=>by
  have q:p=(D,wz its' k'):=by simpa using hp
  subst q;exact⟨hd,n,ne,nf,CM⟩
end
section
variable{X:Cx}{tg iter elt:Expr}{ifs:List Expr}{scope:Scope}{cl:List (Str×Addr)}{own:List Str}{pos:Pos}{te:TE}{tc:TT}{g:TG}{wi:TI}
theorem ox{fs ex:List Addr}{H H':Hp}{h h':Heap}{D:Addr}{o:HO}(u:Un fs ex H H' h h')(hD:h.objs.size<=D)(hn:H' D=none):Un fs ex H (zc H' D o) h h' where
 keep:=u.keep
 slot:=u.slot
 free:=λb ob q n hx=>by rw[yE (λz=>by subst z; exact absurd (wW (yh q) hD) (v6 _))]; exact u.free b ob q n hx
 there:=u.there
 vm:=λb xs q=>by rw[yE (uI (u.vm b xs q) hn)]; exact u.vm b xs q
 vc:=λb ob v q=>by rw[yE (uI (u.vc b ob v q) hn)]; exact u.vc b ob v q
 uS:=λb ps q=>by
  obtain⟨more,z⟩:=u.uS b ps q;exact⟨more,by rw[yE (uI z hn)]; exact z⟩
theorem Fk{P:Program}{w:World}{H:Hp}{h:Heap}{D:Addr}{o:HO}(x:xQ P w H h)(hn:H D=none)(new:xD P w (zc H D o) h D o):xQ P w (zc H D o) h:=λb u e=>by
 by_cases hb:b=D
 ·subst hb;rw[yr]at e;cases e;exact new
 ·rw[yE hb]at e;refine(x b u e).jX (λc v _ q=>q) (λc q=>?_) (λc xs q=>?_)
  ·rw[yE (uI q hn)]; exact q
  ·rw[yE (uI q hn)]; exact q
structure jc(X:Cx)(scope:Scope)(cl:List (Str×Addr))(own:List Str):Prop where
 kind:scope.kind=.function
 cell:∀y∈scope.names,y.2≠.cell
 V8:jd X.env cl
 ok:Y2 scope X.env cl own=true
 V9:closureFor scope X.env=pure cl
 names:∀y∈scope.names,y.2=.local->scope.names.lookup y.1=some .local
structure Vi(X:Cx)(z8:List (Addr×Obj))(H:Hp)(s:Shared)(C:Addr):Prop where
 free:H C=none
 ne:C≠X.env.locals
 old:X.s₀.heap.objs.size<=C
 cell:∀x c,X.env.cells.lookup x=some c->c≠C
 pin:∀p∈X.pn++z8,p.1≠C
noncomputable def TZ(σ:St)(n:Nat)(J:It)(g:TG)(tc:TT)(te:TE)(W:Nat->Nat->List V->Hp->Prop)(Fin:List V->Hp->Prop):Prop:=
 ∀i m ys H,W i m ys H->(J.stop i H/\Fin ys H)\/(J.go i H/\ys.length<sizeLine/\∃N:List V->Hp->Prop,(∀ys' H',N ys' H'->∃m',m'<m/\W (i+1) m' ys' H')/\
  ∀x H',J.vQ i H x H'->g x (σ++List.replicate n none) H' λσ2 H3=>(∃τ,σ2=σ++τ)/\tc σ2 H3 λc H4=>if c=true then te σ2 H4 λy H5=>N (ys++[y]) H5 else N ys H4)
theorem Dn{z8:List (Addr×Obj)}{σ:St}{H2:Hp}{s2:Shared}{fp:List Addr}{it:Addr}{tn:Nat->Heap->Prop}{J:It}{W:Nat->Nat->List V->Hp->Prop}{Fin:List V->Hp->Prop}{m0:Nat}
  {RR:Value->Addr->Result->Shared->Prop}(hcalm:X.calm=true)(B:jc X scope cl own)(I:Inv X z8 σ H2 s2)(T:qI X.prog X.w X.K tg J fp it tn)(t0:tn 0 s2.heap)(hfp:∀b∈fp,tN X z8 H2 b)
  (hg:∀C s H fp pn,PG (xo X scope cl own C s H fp pn) tg g)(hc:∀C s H fp pn,gy (xo X scope cl own C s H fp pn) ifs tc)(he:∀C s H fp pn,PE (xo X scope cl own C s H fp pn) elt te)
  (W0:W 0 m0 [] H2)(turn:TZ σ own.length J g tc te W Fin)
  (hRR:∀D C s' H' ys m',Inv X z8 σ (zc H' D (.lst ys)) s'->H' D=none->Fin ys H'->s'.heap.Ns C m'->Vi X z8 (zc H' D (.lst ys)) s' C->RR (.ref D) C (.ok .next) s'){E:Value->Shared->Prop} :
  wpAny (model X.prog X.w) X.A (newList []) (λacc s3=>wpAny (model X.prog X.w) X.A (newFunctionEnv scope X.env.globals cl [] X.env.qual none .none (some X.env)) (λcenv s4=>
   codeAny (model X.prog X.w) X.A (.compStart (.ListComp elt [⟨tg,iter,ifs,0⟩] scope pos) 0 (.ref it) acc { cenv with scope:=relabel scope X.env }) (RR acc cenv.locals) s4) E s3) E s2:=by
 refine gj (wpAny_newFunctionEnv B.cell (by intro y hy; simp at hy) (λh4 hns hsb=>?_) B.kind);dsimp only at hns hsb ⊢;generalize hP:s2.heap.push (wz [] 0)=P2 at hns hsb ⊢;have hC:P2.objs.size=s2.heap.objs.size+1:=by rw[<-hP,Yr]
 have hDC:s2.heap.objs.size≠P2.objs.size:=by rw[hC]; exact u7 (Ww _)
 have hCle:s2.heap.objs.size<=P2.objs.size:=by rw[hC]; exact JB _
 have keep:∀b o,s2.heap.get? b=some o->h4.get? b=some o:=λb o e=>
  hsb.extBut b o (u7 (wW (yh e) hCle)) (yx _ (hP▸yx _ e))
 have hd4:h4.get? s2.heap.objs.size=some (wz [] 0):=hsb.extBut _ _ hDC (yx _ (hP▸wG _ rfl));have hfo:∀b∈fp,∃o,s2.heap.get? b=some o:=λb hb=>let ⟨o,e,_⟩:=T.obj 0 _ t0 b hb; ⟨o,e⟩
 have lt:∀b∈fp,b<s2.heap.objs.size:=λb hb=>let ⟨o,e⟩:=hfo b hb; yh e
 generalize hDD:s2.heap.objs.size=D at hDC hd4 ⊢;generalize hCC:P2.objs.size=C at hDC hns hsb hCle ⊢;have hDle:s2.heap.objs.size<=D:=Nat.le_of_eq hDD
 let X':=xo X scope cl own C s2 H2 fp (X.pn++z8)
 have hpn:∀p∈X'.pn,p.1≠D:=λp hp z=>by
  obtain⟨e,_⟩:=I.pin p hp;rw[z]at e;exact absurd (wW (yh e) hDle) (v6 _)
 have okb:=Dm I B.kind B.cell B.V8 B.ok hCle hfp hfo
 have fpok:∀{k:Nat}{its:List Value}{H':Hp},(∀b∈fp,H' b=none)->∀b∈fp,tN X' [(D,wz its k)] H' b:=λ{k its H'} hn b hb=>
  ⟨hn b hb,(okb.X4 b hb).1,okb.Zh b hb,.inl hb,(okb.X4 b hb).2,λp hp=>by
   rcases wb.mp hp with z|z
   ·exact(hfp b hb).2.2.2.2.2 p z
   ·have q:p=(D,wz its k):=by simpa using z
    subst q;exact λz=>absurd (lt b hb) (by rw[<-z]; exact Bv.mpr hDle)⟩
 have loop:∀s4:Shared,s4={ s2 with heap:=h4,toks:=s2.toks+([]:List (Str×Value)).length }->
   codeAny (model X.prog X.w) X.A (.compLoop (.ListComp elt [⟨tg,iter,ifs,0⟩] scope pos) 0 (.ref it) (.ref D) (compEnvC scope cl C X.env)) (RR (.ref D) C) s4:=by
  rintro s4 rfl
  refine AO (λn s'=>∃(i:Nat) (ys:List V) (its:List Value) (k:Nat) (H':Hp),Inv X' [(D,wz its k)] (σ++List.replicate own.length none) H' s'/\zz ys its/\tn i s'.heap/\(∀b∈fp,H' b=none)/\W i n ys H'/\ys.length<=sizeLine) ?_ m0
   ⟨0,[],[],0,H2,Nl I B.kind B.cell B.V8 B.ok hCle hDle hDC hfp hfo keep hns hd4 CM,.nil,T.keep _ _ _ t0 λb _ o e=>keep b o e,λb hb=>(hfp b hb).1,W0,qo _⟩
  rintro n s5 ⟨i,ys,its,k,H5,I5,v5,st5,fr5,w5,z5⟩;rcases turn i n ys H5 w5 with⟨stop,fin⟩|⟨go,room,N,hN,step⟩
  ·refine va (T.done X' rfl rfl rfl hcalm i _ s5 _ H5 (λ_ _=>False) I5 (fpok fr5) st5 stop) (λr s6 ⟨hr,I6⟩=>?_) λ_ _ z=>z
   subst hr;obtain⟨e6,n6,ne6,nf6,d6⟩:=I6.pin (D,wz its k) (ur _ xh);obtain⟨m6,ns6,_⟩:=I6.loc;have u6:Un (vv X.stack) fp H2 (zc H5 D (.lst ys)) s2.heap s6.heap:=ox I6.base hDle n6;have new6:xD X.prog X.w (zc H5 D (.lst ys)) s6.heap D (.lst ys):=⟨z5,its,k,v5,e6⟩;have I7:Inv X z8 σ (zc H5 D (.lst ys)) s6:=I.JM I6.os u6 (Fk I6.zj n6 new6) I6.bare (λb hb=>⟨(hfp b hb).2.2.2.1,(hfp b hb).2.1,(hfp b hb).2.2.2.2.1,(hfp b hb).2.2.2.2.2⟩);refine hRR D C s6 H5 ys m6 I7 n6 fin ns6 ⟨?_,?_,?_,λx c hcx z=>?_,λp hp z=>?_⟩
   ·rw[yE (qp hDC)]; exact I6.free
   ·exact λz=>absurd I.lt (by rw[<-z]; exact Bv.mpr hCle)
   ·exact xO I.sz hCle
   ·subst z;obtain⟨v,o,ho,_⟩:=I.cell x c hcx;exact absurd (wW (yh ho) hCle) (v6 _)
   ·obtain⟨e,_⟩:=I.pin p hp;rw[z]at e;exact absurd (wW (yh e) hCle) (v6 _)
  ·refine va (T.item X' rfl rfl rfl hcalm i _ s5 _ H5 (λ_ _=>False) I5 (fpok fr5) st5 go) (λr s6 ⟨u,hr,h6⟩=>?_) λ_ _ z=>z
   subst hr;refine va h6 (λ_ s7 ⟨x,H7,I7,r7,y7,st7,fr7⟩=>?_) λ_ _ z=>z
   have I7':=I7.pinned (fpok fr7) (T.obj _ _ st7);refine va (hg C s2 H2 fp _ _ s7 _ H7 x u _ I7' r7 (step x H7 y7)) (λ_ s8 ⟨σ8,H8,I8,⟨τ,hτ⟩,q8⟩=>?_) λ_ _ z=>z
   subst hτ
   have back:∀{n':Nat}{ys':List V}{its':List Value}{k':Nat}{H9:Hp}{s9:Shared}{pl:List (Addr×Obj)},Inv X' ((D,wz its' k')::pl) (σ++τ) H9 s9->zz ys' its'->tn (i+1) s9.heap->(∀b∈fp,H9 b=none)->W (i+1) n' ys' H9->ys'.length<=sizeLine->
     ∃(i:Nat) (ys:List V) (its:List Value) (k:Nat) (H':Hp),Inv X' [(D,wz its k)] (σ++List.replicate own.length none) H' s9/\zz ys its/\tn i s9.heap/\(∀b∈fp,H' b=none)/\W i n' ys H'/\ys.length<=sizeLine:=λ{n' ys' its' k' H9 s9 pl} I9 v9 st9 fr9 w9 z9=>by
    have I9':Inv X' [(D,wz its' k')] (σ++τ) H9 s9:=I9.X8 λp hp=>I9.pin p (ur _ (by
     have q:p=(D,wz its' k'):=by simpa using hp
     subst q;exact xh))
    refine⟨i+1,ys',its',k',H9,I9'.weak ?_ (λj v e=>?_),v9,st9,fr9,w9,z9⟩
    ·rw[I9'.len,<-I5.len]
    ·have e':=UP e;rw[ZY (xT.mp e').1];exact e'
   have keepIt:∀{σ9:St}{H9:Hp}{s9:Shared},Inv X' ([(D,wz its k)]++WO fp s7.heap) σ9 H9 s9->tn (i+1) s9.heap/\∀b∈fp,H9 b=none:=λ{σ9 H9 s9} I9=>
    ⟨T.keep _ _ _ st7 λb hb o e=>(I9.pin (b,o) (ur _ (ur _ (Tg hb e)))).1,λb hb=>by
     obtain⟨o,e,_⟩:=T.obj _ _ st7 b hb;exact(I9.pin (b,o) (ur _ (ur _ (Tg hb e)))).2.1⟩
   refine va (hc C s2 H2 fp _ _ s8 _ H8 _ I8 q8) (λc s9 ⟨H9,I9,q9⟩=>?_) λ_ _ z=>z
   cases c with
   |false=>
    rw[zV xf]at q9 ⊢;obtain⟨m',hm,w9⟩:=hN _ _ q9;exact⟨m',hm,back I9 v5 (keepIt I9).1 (keepIt I9).2 w9 z5⟩
   |true=>
    rw[zP rfl]at q9 ⊢;refine va (he C s2 H2 fp _ _ s9 _ H9 _ I9 q9) (λyv sa ⟨y,Ha,Ia,ra,qa⟩=>?_) λ_ _ z=>z
    obtain⟨m',hm,wa⟩:=hN _ _ qa;obtain⟨ea,na,_⟩:=Ia.pin (D,wz its k) (ur _ (Br _ xh))
    have szi:its.toArray.size<=sizeLine:=by
     have:=v5.length;simp only[yo];omega
    refine wpAny_list_append_plain (hsz:=szi) ⟨k,ea⟩ λhb hlb hsb'=>?_
    obtain⟨kb,eb⟩:=hlb;have eb':hb.get? D=some (wz (its++[yv]) kb):=by rw[eb]; simp
    have Ib:Inv X' [(D,wz (its++[yv]) kb)] (σ++τ) Ha { sa with heap:=hb,toks:=sa.toks }:=SY (tk:=sa.toks) Ia hDle hpn hsb' eb';have stb:tn (i+1) hb:=T.keep _ _ _ (keepIt Ia).1 λb hbf o e=>(hsb'.2 b (λz=>absurd (lt b hbf) (by rw[z]; exact Bv.mpr hDle))).trans e
    exact⟨m',hm,back Ib (zz.append v5 (.cons ra .nil)) stb (keepIt Ia).2 wa (by rw[xC]; exact room)⟩
 exact codeAny_compStart_list (loop _ rfl) (T.self X.A 0 _ _ _ (T.keep _ _ _ t0 λb _ o e=>keep b o e) (loop _ rfl))
noncomputable def lT(n:Nat)(wi:TI)(g:TG)(tc:TT)(te:TE):TE:=λσ H Q=>wi σ H λJ H1=>∃W:Nat->Nat->List V->Hp->Prop,(∃m,W 0 m [] H1)/\
 TZ σ n J g tc te W λys H'=>∀p,H' p=none->Q (.ref p) (zc H' p (.lst ys))
theorem Vi.inv{z8:List (Addr×Obj)}{σ:St}{H:Hp}{s:Shared}{C:Addr}{h':Heap}(o:Vi X z8 H s C)(I:Inv X z8 σ H s)(hs:Heap.SameBut C s.heap h'):Inv X z8 σ H { s with heap:=h' }:=
 I.turned (it:=C) (t':=s.toks) (λb u hb q=>(hs.2 b hb).trans q) o.free o.ne (.inr o.old) o.cell o.pin
theorem En(hcalm:X.calm=true)(B:jc X scope cl own)(hi:PI X tg iter wi)(hg:∀C s H fp pn,PG (xo X scope cl own C s H fp pn) tg g)(hc:∀C s H fp pn,gy (xo X scope cl own C s H fp pn) ifs tc)
  (he:∀C s H fp pn,PE (xo X scope cl own C s H fp pn) elt te)(hs:∀x,foldedSetIterable iter X.env x=pure x:=by intro _; rfl) :
  PE X (.ListComp elt [⟨tg,iter,ifs,0⟩] scope pos) (lT own.length wi g tc te):=by
 intro z8 s σ H Q I h;rw[eval_ListComp];refine Kz (use:=none) rfl hs B.V9 B.kind B.names (zw (hi z8 s σ H _ I h) λv s1 h1=>zw h1 λitv s2 h2=>?_);obtain⟨it,fp,tn,J,H2,e,I2,T,st2,f2,W,⟨m0,w0⟩,turn⟩:=h2;subst e;refine Dn (RR:=λacc C=>compPost (model X.prog X.w) X.A X.xe none (EP X z8 σ Q) acc C) hcalm B I2 T st2 f2 hg hc he w0 turn ?_;intro D C s' H' ys m' I' n' fin ns' off;exact⟨m',ns',λh' hs'=>⟨.ref D,zc H' D (.lst ys),off.inv I' hs',rfl,fin D n'⟩⟩
noncomputable def lh(i n:Nat)(wi:TI)(g:TG)(tc:TT)(te:TE):TS:=λD σ H=>wi σ H λJ H1=>∃W:Nat->Nat->List V->Hp->Prop,(∃m,W 0 m [] H1)/\
 TZ σ n J g tc te W λys H'=>∀p,H' p=none->D.nx (σ.set i (some (.ref p))) (zc H' p (.lst ys))
theorem Ez{i:Nat}{x:Str}{px spos:Pos}(hcalm:X.calm=true)(hN:X.N.Nodup)(hix:X.N[i]?=some x)(hx:X.env.scope.names.lookup x=some .local)(B:jc X scope cl own)
  (hsw:swapsWith (.ListComp elt [⟨tg,iter,ifs,0⟩] scope pos) (some (.Name x px)) spos.line X.env=pure true)(hi:PI X tg iter wi)
  (hg:∀C s H fp pn,PG (xo X scope cl own C s H fp pn) tg g)(hc:∀C s H fp pn,gy (xo X scope cl own C s H fp pn) ifs tc)(he:∀C s H fp pn,PE (xo X scope cl own C s H fp pn) elt te)
  (hs:∀x,foldedSetIterable iter X.env x=pure x:=by intro _; rfl) :
  PS X (.Assign [.Name x px] (.ListComp elt [⟨tg,iter,ifs,0⟩] scope pos) spos) (lh i own.length wi g tc te):=by
 intro z8 s σ H D I h;rw[exec_Assign_Name_used _ _ _ _ hsw];refine zR (JL (zR ?_));show wpAny _ X.A (do let _ <-comprehension (.ListComp elt [⟨tg,iter,ifs,0⟩] scope pos) scope X.env _ (newList []) false (eval iter X.env) (some (assign (.Name x px) X.env))) _ _ s
 refine zR (zw (Kz (use:=some (assign (.Name x px) X.env)) (Q:=λ_ s'=>SP X z8 D .next s') rfl hs B.V9 B.kind B.names
  (zw (hi z8 s σ H _ I h) λv s1 h1=>zw h1 λitv s2 h2=>?_)) λ_ s' hq=>yW (yW hq))
 obtain⟨it,fp,tn,J,H2,e,I2,T,st2,f2,W,⟨m0,w0⟩,turn⟩:=h2;subst e;refine Dn (RR:=λacc C=>compPost (model X.prog X.w) X.A X.xe (some (assign (.Name x px) X.env)) (λ_ s'=>SP X z8 D .next s') acc C) hcalm B I2 T st2 f2 hg hc he w0 turn ?_;intro L C s' H' ys m' I' n' fin ns' off;show wpAny _ X.A (assign (.Name x px) X.env (.ref L)) _ _ s';refine wpAny_assign_Name (He I' hN hix (.inl hx) (v:=.ref L) rfl (λs3 I3 q3=>?_) (.inr hx));obtain⟨a,hsa,ha⟩:=q3
 have hCa:C≠a:=by
  rcases ha with z|z
  ·rw[z]; exact off.ne
  ·exact λy=>off.cell x a z y.symm
 refine⟨m',ns'.sameBut hsa hCa,λh' hs'=>?_⟩;exact⟨_,_,Vi.inv (H:=zc H' L (.lst ys)) ⟨off.free,off.ne,off.old,off.cell,off.pin⟩ I3 hs',fin L n'⟩
end
structure QE(X:Cx)(e:Expr)(t:TE):Prop where
 h:PE X e t
structure QA(X:Cx)(es:List Expr)(t:TA):Prop where
 h:PA X es t
structure QS(X:Cx)(st:Stmt)(t:TS):Prop where
 h:PS X st t
structure QG(X:Cx)(e:Expr)(t:TG):Prop where
 h:PG X e t
structure Vk(X:Cx)(es:List Expr)(t:pC):Prop where
 h:XZ X es t
structure QI(X:Cx)(tg e:Expr)(t:TI):Prop where
 h:PI X tg e t
section
variable{X:Cx}{x y:Str}{p pos pos' apos cpos p2:Pos}{e a b c o tg iter elt:Expr}{es yy:List Expr}{te ta tb tc to:TE}{t:TA}{tA tB':TT}{r r':R2}{v:V}{T id:String}{ps:List Str}{j k i:Nat}{sp:Sp}
theorem qv(i:Nat){x:Str}{pos:Pos}(hN:X.N[i]?=some x:=by rfl)(hv:tQ X.env.scope x:=by first|exact Or.inl rfl|exact Or.inr (Or.inl rfl)|exact Or.inr (Or.inr rfl))(hd:(x==("__debug__" : Str))=false:=by decide)
  (hcd:(x==("__classdict__" : Str))=false:=by decide):QE X (.Name x pos) (jO i):=⟨Z6 hN hv hd hcd⟩
theorem eK(h:xU X.mg x v)(hg:Gl X x)(hd:(x==("__debug__" : Str))=false:=by decide):QE X (.Name x pos) (tC v):=⟨WN h hg hd⟩
theorem eG(hg:Gl X x)(hm:X.mg x=none)(hv:bootBuiltins x=some (.type T))(hn:x ≠ "__name__" := by decide)(hd:(x==("__debug__" : Str))=false:=by decide):QE X (.Name x pos) (tC (.ty T)):=⟨cW hg hm hv hn hd⟩
noncomputable def Es:Expr->Bool
 |.Name ..=>true
 |.Call ..=>true
 |.Subscript ..=>true
 |.Attribute ..=>true
 |.Constant ..=>true
 |.List ..=>true
 |.Tuple ..=>true
 |.BinOp ..=>true
 |_=>false
theorem dQ{e:Expr}{env:Env}(h:Es e=true):∀whole,isTrue e env whole=(do let v <-whole; standAt e.pos; holding [v] (truthy v)):=by
 cases e<;>first|(intro _; rfl)|cases h
theorem G8:QA X [] Ym:=⟨YT⟩
theorem Lm(ha:QE X e te)(hr:QA X es t)(h:xJ e=true:=by rfl):QA X (e::es) (Yl te t):=⟨WM ha.h hr.h h⟩
noncomputable def YU:Expr->Bool
 |.Name ..=>true
 |.Constant ..=>true
 |.BinOp ..=>true
 |.Call ..=>true
 |.UnaryOp ..=>true
 |.Subscript ..=>true
 |.Attribute ..=>true
 |_=>false
theorem Li{b:Expr}(h:YU b=true):DN b:=by
 cases b<;>first|(intro _ _; rfl)|cases h
theorem Ln{r:List V->Hp->VK->Prop}(hc:wX X (.builtin id) r)(hg:Gl X x)(hm:X.mg x=none)(hv:bootBuiltins x=some (.builtin id))(ha:QA X (e::es) t)(hn:x ≠ "__name__" := by decide)(hdb:(x==("__debug__" : Str))=false:=by decide)
  (he:(e::es).all xJ=true:=by rfl):QE X (.Call (.Name x p) (e::es) [] pos) (QN r t):=by
 rw[wp,xS]at he;exact⟨cZ hc hg hm hv ha.h hn hdb (u2 he.1) (Wg he.2)⟩
theorem Lo{r:List V->Hp->VK->Prop}(hc:wX X (.type T) r)(hg:Gl X x)(hm:X.mg x=none)(hv:bootBuiltins x=some (.type T))(ha:QA X (e::es) t)(hn:x ≠ "__name__" := by decide)(hdb:(x==("__debug__" : Str))=false:=by decide)
  (he:(e::es).all xJ=true:=by rfl):QE X (.Call (.Name x p) (e::es) [] pos) (QN r t):=by
 rw[wp,xS]at he;exact⟨ca hc hg hm hv ha.h hn hdb (u2 he.1) (Wg he.2)⟩
variable{st:Stmt}{sts body:List Stmt}{ts us tbs:TS}{g:TG}{wi:TI}
noncomputable def WG:Expr->Bool
 |.ListComp ..=>false
 |.SetComp ..=>false
 |.DictComp ..=>false
 |_=>true
theorem Ck{e:Expr}{tgt:Option Expr}{n:Nat}{env:Env}(h:WG e=true):swapsWith e tgt n env=pure false:=by
 cases e<;>first|rfl|cases h
theorem GB(he:QE X e te)(hs:WG e=true:=by rfl):QS X (.Expr e pos) (Hj te):=⟨da he.h (Ck hs)⟩
theorem GC{i:Nat}{x:Str}{pos':Pos}(hN:X.N.Nodup)(hi:X.N[i]?=some x)(hx:p9 X.env.scope x)(he:QE X e te)(hs:WG e=true:=by rfl)(hf:X.fn x=true\/X.env.scope.names.lookup x=some .local:=by first|exact .inl rfl|exact .inr rfl|assumption) :
  QS X (.Assign [.Name x pos'] e pos) (BD te (vw i)):=⟨dg hN hi hx he.h (Ck hs) hf⟩
theorem xM{i:Nat}{x:Str}(hN:X.N.Nodup)(hi:X.N[i]?=some x)(hx:p9 X.env.scope x)(hf:X.fn x=true\/X.env.scope.names.lookup x=some .local:=by first|exact .inl rfl|exact .inr rfl|assumption):QG X (.Name x pos) (vw i):=⟨cv hN hi hx hf⟩
theorem eM{o i:Expr}{to ti:TE}{t:Vn}(ho:QE X o to)(hi:QE X i ti)(hs:Iq X t)(hp:YU i=true:=by rfl):QG X (.Subscript o i pos) (FW to ti t):=by
 refine⟨cw ho.h hi.h hs ?_⟩;cases i<;>first|(intro _; rfl)|cases hp
theorem YZ:Vk X [] Y7:=⟨cz⟩
theorem tD{t:TG}{u:pC}(h1:QG X e t)(h2:Vk X es u)(hs:(assignEach (e::es) X.env).map (·.2)=assign e X.env::(assignEach es X.env).map (·.2):=by rfl):Vk X (e::es) (qQ t u):=⟨cy h1.h h2.h hs⟩
theorem YY{k:Nat}{t:pC}{n:Nat}(hc:X.calm=true)(h:Vk X es t)(hn:(assignEach es X.env).length=n:=by rfl)(hst:(assignEach es X.env).findIdx? (·.1)=none:=by rfl):QG X (.Tuple es k pos) (Y9 X.K n t):=⟨cx hc h.h hn hst⟩
variable{ifs:List Expr}{scope:Scope}{cl:List (Str×Addr)}{own:List Str}{tcc:TT}
variable{name:Str}{rm:V->List V->Hp->VK->Prop}
theorem Hd{env:Env}{pos:Pos}:∀{es:List Expr},es.all xJ=true->(backTo pos (starEach es env)).all (λx=>!x.1)=true
 | [],_=>rfl
 |e::es,h=>by
  rw[wp,xS]at h;rw[u2 h.1];have ih:=Hd (env:=env) (pos:=pos) h.2;unfold backTo at ih ⊢;rw[xY,wp,ih];rfl
theorem gL(pa:PlainAttrs T)(slot:Slot T name id)(hty:typeOf (.builtin id)=pure (.type "method_descriptor"))(hm:pA X id rm)(ho:QE X o to)(ha:QA X (e::es) t)
  (hbase:attributeBase o name X.env (eval o X.env)=eval o X.env:=by rfl)(hline:(apos.endLine==cpos.line)=true:=by rfl)(he:(e::es).all xJ=true:=by rfl)(hl:(e::es).length<30:=by decide) :
  QE X (.Call (.Attribute o name apos) (e::es) [] cpos) (Hi X.K T rm to t):=⟨by
 have ha':=Hd (env:=X.env) (pos:=cpos) he;rw[wp,xS]at he;refine cV pa slot hty hm ho.h ha.h hbase ?_ hline (u2 he.1) (Wg he.2);rw[ha'];show(true&&true&&decide ((e::es).length+0+0<30))=true;rw[yb (show(e::es).length+0+0<30 from hl)];rfl⟩
end
noncomputable def DQ(K:W.Frag)(H:Hp)(a c:Addr)(xs ys:List V):Prop:=(xH K H a xs/\xH K H c ys)\/(yj K H a xs/\yj K H c ys)
section
variable{X:Cx}{z8:List (Addr×Obj)}{σ:St}{H:Hp}{s:Shared}
theorem fA{A:Around}{a c:Addr}{xs ys:List V}{e:Nat->Bool}(I:Inv X z8 σ H s)(hu:A.units<cLine)(hq:DQ X.K H a c xs ys)
  (he:∀(j:Nat) x' y' u v,xs[j]?=some x'->ys[j]?=some y'->yB x' u->yB y' v->SeqAt.EqAt A.in1 s u v (e j)) :
  SeqAt.RcAt A s (.ref a) (.ref c) ((List.range (min xs.length ys.length)).all e&&xs.length==ys.length)/\SeqAt.RcNeAt A s (.ref a) (.ref c) (!((List.range (min xs.length ys.length)).all e&&xs.length==ys.length)):=by
 have get:∀{zs:List V}{us:List Value}{j:Nat}(hj:j<us.toArray.size),zz zs us->∃z,zs[j]?=some z/\yB z us.toArray[j]:=λ{zs us j} hj r=>by
  have hl:=r.length
  have hj':j<zs.length:=by
   rw[yo]at hj;omega
  obtain⟨u,hu',ru⟩:=r.get (yf hj');refine⟨_,yf hj',?_⟩
  have:us.toArray[j]=u:=by
   have h2:us[j]?=some us[j]:=yf (by omega);rw[h2]at hu';simpa using hu'
  rw[this];exact ru
 rcases hq with⟨ha,hc⟩|⟨ha,hc⟩
 ·obtain⟨us,ra,pa,_⟩:=I.tuple ha;obtain⟨vs,rc,pc,_⟩:=I.tuple hc;have h1:=ra.length;have h2:=rc.length
  have key:∀j (k1:j<us.toArray.size) (k2:j<vs.toArray.size),SeqAt.EqAt A.in1 s us.toArray[j] vs.toArray[j] (e j):=λj k1 k2=>by
   obtain⟨z1,e1,r1⟩:=get k1 ra;obtain⟨z2,e2,r2⟩:=get k2 rc;exact he j z1 z2 _ _ e1 e2 r1 r2
  have p:=SeqAt.RcAt.tuples (e:=e) pa pc hu key;have q:=SeqAt.RcNeAt.tuples (e:=e) pa pc hu key;rw[yo,yo,<-h1,<-h2]at p q;exact⟨p,q⟩
 ·obtain⟨us,ra,pa,_⟩:=I.list ha;obtain⟨vs,rc,pc,_⟩:=I.list hc;have h1:=ra.length;have h2:=rc.length
  have key:∀j (k1:j<us.toArray.size) (k2:j<vs.toArray.size),SeqAt.EqAt A.in1 s us.toArray[j] vs.toArray[j] (e j):=λj k1 k2=>by
   obtain⟨z1,e1,r1⟩:=get k1 ra;obtain⟨z2,e2,r2⟩:=get k2 rc;exact he j z1 z2 _ _ e1 e2 r1 r2
  by_cases hl:xs.length=ys.length
  ·have hs:us.toArray.size=vs.toArray.size:=by rw[yo,yo]; omega
   have p:=SeqAt.RcAt.lists (e:=e) pa.isList pc.isList hs hu key;have q:=SeqAt.RcNeAt.lists (e:=e) pa.isList pc.isList hs hu key;have e1:min xs.length ys.length=us.toArray.size:=by rw[yo]; omega
   have e2:(xs.length==ys.length)=true:=by simp[hl]
   rw[e1,e2,Qu];exact⟨p,q⟩
  ·have hs:(us.toArray.size != vs.toArray.size)=true:=by
    rw[yo,yo];simp;omega
   have e2:(xs.length==ys.length)=false:=by simp[hl]
   rw[e2,Wn];exact⟨SeqAt.RcAt.lists_lengths pa.isList pc.isList hs hu,SeqAt.RcNeAt.lists_lengths pa.isList pc.isList hs hu⟩
theorem T6(A:Around):A.in1.units=A.units+1:=rfl
end
theorem RE{x:V}(h:uE x=true):vU x x=true:=by
 cases x<;>first|rfl|(simp[vU]; done)|cases h
open PySem.W (hideAll)
structure N8(P:Program)(w:World)(l:List Env)(H:Hp)(h B:Heap)(H':Hp)(h':Heap):Prop where
 un:Un (vv l) [] H H' h h'
 ok:xQ P w H' h'
 kb:∀b o,h.get? b=some o->H b=none->b ∉ vv l->B.get? b=some o
 all:∀b o,h.get? b=some o->b ∉ vv l->∃o',B.get? b=some o'
 tr:∀b o,H' b=some o->∃ob,B.get? b=some ob
noncomputable def N9(P:Program)(w:World)(l:List Env)(H:Hp)(s:Shared)(E:XK)(e:Value)(s':Shared):Prop:=
 ∃(a C:Addr) (a0:Value) (B:Heap) (H':Hp),e=.ref a/\s'.os=s.os/\AllBare s'.gens/\Heap.FlyingW B l a (.ref C) a0 s'.heap/\N8 P w l H s.heap B H' s'.heap/\E (.ref C) none H'
end L2
namespace L2
open PySem PySem.Spec PyProof.Rows
section
variable{X:Cx}{z8:List (Addr×Obj)}{σ:St}{H H':Hp}{s:Shared}{a C:Addr}
noncomputable def NA(a C:Addr)(h:Heap):Prop:=∃o vs,h.get? a=some o/\o.cls=.ref C/\o.data=.fields vs
theorem oy{fs ex:List Addr}{H H':Hp}{h h':Heap}{D:Addr}{o:HO}(u:Un fs ex H H' h h')(hD:h.get? D=none)(hn:H' D=none):Un fs ex H (zc H' D o) h h' where
 keep:=u.keep
 slot:=u.slot
 free:=λb ob q n hx=>by rw[yE (λz=>by subst z; rw[hD]at q; cases q)]; exact u.free b ob q n hx
 there:=u.there
 vm:=λb xs q=>by rw[yE (uI (u.vm b xs q) hn)]; exact u.vm b xs q
 vc:=λb ob v q=>by rw[yE (uI (u.vc b ob v q) hn)]; exact u.vc b ob v q
 uS:=λb ps q=>by
  obtain⟨more,z⟩:=u.uS b ps q;exact⟨more,by rw[yE (uI z hn)]; exact z⟩
noncomputable def XP(X:Cx)(z8:List (Addr×Obj))(σ:St)(E:XK)(ev:Value)(s':Shared):Prop:=∃H s1,Inv X z8 σ H s1/\N9 X.prog X.w X.stack H s1 E ev s'
end
noncomputable abbrev TX:=St->Hp->VK->XK->Prop
structure QX(X:Cx)(e:Expr)(t:TX):Prop where
 h:∀(z8:List (Addr×Obj)) (s:Shared) (σ:St) (H:Hp) (Q:VK) (E:XK),Inv X z8 σ H s->t σ H Q E->wpAny (model X.prog X.w) X.A (eval e X.env) (EP X z8 σ Q) (XP X z8 σ E) s
section
variable{X:Cx}{x n:Str}{p pos np hpos tpos:Pos}{e e1 e2:Expr}{es:List Expr}{ta:TA}{te:TE}{tx:TX}{ps:List Str}{j k i:Nat}{sp:Sp}{E:XK}{D:Addr}
theorem EP.N6{z8:List (Addr×Obj)}{σ:St}{Q:VK}{u:Value}{s':Shared}(h:EP X.tJ z8 σ Q u s'):EP X z8 σ Q u s':=by
 obtain⟨v,H',I,r,q⟩:=h;exact⟨v,H',I.j3,r,q⟩
theorem eQ(h:QE X.tJ e te):QX X e (λσ H Q _=>te σ H Q):=⟨λz8 s σ H Q E I q=>va (h.h z8 s σ H Q (I.qC _) q) (λ_ _ z=>EP.N6 z) λ_ _ z=>z.elim⟩
variable{suite:List Stmt}{ts:TS}{b₀:Stmt}
end
noncomputable abbrev TJ:=St->Hp->Str->VK->Prop
structure QJ(X:Cx)(es:List Expr)(t:TJ):Prop where
 h:∀(z8:List (Addr×Obj)) (s:Shared) (σ:St) (H:Hp) (acc:Str) (Q:VK),Inv X z8 σ H s->t σ H acc Q->wpAny (model X.prog X.w) X.A (joinParts acc (evalEach es X.env)) (EP X z8 σ Q) X.xe s
section
variable{X:Cx}{e e1 e2:Expr}{es:List Expr}{te:TE}{t:TJ}{pos:Pos}
noncomputable def lS(te:TE)(t:TJ):TJ:=λσ H acc Q=>te σ H λv H1=>∃y,v=.str y/\(acc++y).length<=sizeLine/\t σ H1 (acc++y) Q
theorem eP:QJ X [] (λ_ H acc Q=>acc.length<=sizeLine/\Q (.str acc) H):=⟨λz8 s σ H acc Q I q=>wpAny_mkStr ⟨.str acc,H,I.tok _,⟨_,rfl⟩,q.2⟩ q.1⟩
theorem eO(he:QE X e te)(ht:QJ X es t):QJ X (e::es) (lS te t):=by
 refine⟨λz8 s σ H acc Q I q=>?_⟩;show wpAny _ _ (joinParts acc (eval e X.env::evalEach es X.env)) _ _ s;refine joinParts_cons (zw (he.h z8 s σ H _ I q) λu s1 ⟨v,H1,I1,r,y,hv,hl,q1⟩=>?_);subst hv;obtain⟨tk,rfl⟩:=(show ∃tk,u=Value.str y tk from r);exact⟨hl,ht.h z8 s1 σ H1 _ Q I1 q1⟩
theorem eJ(h:QJ X (e1::e2::es) t):QE X (.JoinedStr (e1::e2::es) pos) (λσ H Q=>t σ H Str.empty Q):=⟨λz8 s σ H Q I q=>h.h z8 s σ H _ Q I q⟩
noncomputable def lO(te:TE):TE:=λσ H Q=>te σ H λv H1=>(∃a:Int,v=.int a/\a.natAbs.log2<1920/\Q (.str (Str.ofString (toString a))) H1)\/∃y:Str,v=.str y/\y.length<=sizeLine/\Q (.str y) H1
theorem eI(he:QE X e te):QE X (.FormattedValue e (-1) none pos) (lO te):=by
 refine⟨λz8 s σ H Q I q=>?_⟩;refine FormattedValue_plain (zw (he.h z8 s σ H _ I q) λu s1 ⟨v,H1,I1,r,z⟩=>?_);rcases z with⟨a,rfl,hl,q1⟩|⟨y,rfl,hl,q1⟩
 ·obtain⟨tk,rfl⟩:=(show ∃tk,u=Value.int a tk from r);exact formatField_int_small hl ⟨.str (Str.ofString (toString a)),H1,I1.tok _,⟨_,rfl⟩,q1⟩
 ·obtain⟨tk,rfl⟩:=(show ∃tk,u=Value.str y tk from r);exact formatField_str (λt' tk'=>⟨.str y,H1,I1.tok _,⟨_,rfl⟩,q1⟩) hl
theorem int_le{a:Int}(h:a.natAbs.log2<1920):(Str.ofString (toString a)).length<=1921:=by
 have e:=int_text_length_le (k:=1920) (by decide) h;rw[PySem.ofString_length]; exact e
theorem nO{a:Str}{m:Nat}(h:a.length<=m)(hm:m<=16777216:=by decide):a.length<=sizeLine:=xO h (by rw[xy]; exact hm)
end
open PySem.W (Looks findIn mroIn looks_findIn looks_mroIn clsIn)
end L2
namespace L2
open PySem PySem.Spec PyProof.Rows
section
variable{X:Cx}
theorem KB{ns:List Int}{its:List Value}(r:zz (ns.map V.int) its){i:Nat}{v:Value}(h:its.toArray[i]?=some v):∃t,v=.int (ns.getD i 0) t:=by
 have hi:i<its.length:=by
  rw[J4]at h;exact(xT.mp h).1
 have hl:ns.length=its.length:=by have:=r.length; rw[yK]at this; exact this
 have hx:(ns.map V.int)[i]?=some (.int (ns.getD i 0)):=by
  rw[wM,vF,yf (by omega)];rfl
 obtain⟨u,hu,ru⟩:=r.get hx;rw[J4,hu]at h;cases h;exact ru
end
open Builtin.SmallTypes (nextOf)
structure g_(P:Program)(w:World)(it l:Addr)(st:Nat->Heap->Prop)(n:Nat)(val:Nat->Value):Prop where
 keep:∀i h h',st i h->(∀b o,(b=it\/b=l)->h.get? b=some o->h'.get? b=some o)->st i h'
 item:∀{A:Around}{Q:Value->Shared->Prop}{E:Value->Shared->Prop}{s:Shared}(i:Nat),st i s.heap->i<n->(∀h',st (i+1) h'->Heap.SameBut it s.heap h'->Q (val i) { s with heap:=h' })->wpAny (model P w) A (nextOf (.ref it)) Q E s
 done:∀{A:Around}{Q:Value->Shared->Prop}{E:Value->Shared->Prop}{s:Shared}(i:Nat),A.handled=none->st i s.heap->n<=i->
  (∀h' e,Heap.ExtBut it s.heap h'->(∃o,h'.get? e=some o/\o.cls=.type "StopIteration")->E (.ref e) { s with heap:=h' })->wpAny (model P w) A (nextOf (.ref it)) Q E s
section
variable{prog:Program}{w:World}{A:Around}{E:Value->Shared->Prop}{s:Shared}
theorem ag{it t:Addr}{i:Nat}{items}{x:Value}{Q:Value->Shared->Prop}(hit:s.heap.IsTupleIter it t i)(ht:s.heap.IsTuple t items)(hx:items[i]?=some x)
  (hQ:∀h',h'.IsTupleIter it t (i+1)->Heap.SameBut it s.heap h'->Q x { s with heap:=h' }):wpAny (model prog w) A (nextOf (.ref it)) Q E s:=by
 obtain⟨o,ho,hc,hd⟩:=id hit;obtain⟨ol,hol,_,nl,hdl⟩:=ht;unfold nextOf
 refine zR (X1 (name:=Str.ofString "__next__") hit.typeIs Qx
  (X2 Qx hit.typeIs KS ?_ (KR _)))
 refine zR (m:=field (.ref it) 0) (uR ho hd (x:=.ref t) rfl ?_);show wpAny _ _ (if(Value.ref t==Value.none)=true then _ else _) _ _ s;rw[zV (show ¬ ((Value.ref t==Value.none)=true)from xf)];refine zR (m:=field (.ref it) 1) (uR ho hd (x:=.int i 0) rfl ?_);refine zR (m:=seqItems? (.ref t)) (qA hol hdl ?_);simp only[wH,hx];refine zR (wpAny_setField ho hd (by simp) (yW ⟨x,rfl,yW (hQ _ ?_ (Heap.SameBut.update ..))⟩))
 exact⟨_,Wp _ ho (Obj.isFreed_of_fields (Obj.data_mapFields hd _)),(Obj.cls_mapFields ..).trans hc,by
  rw[Obj.data_mapFields hd]; simp[rawInt]⟩
theorem af{it t:Addr}{i:Nat}{items}{Q:Value->Shared->Prop}(hh:A.handled=none)(hit:s.heap.IsTupleIter it t i)(ht:s.heap.IsTuple t items)(hx:items[i]?=none)
  (hE:∀h' e,Heap.ExtBut it s.heap h'->(∃o,h'.get? e=some o/\o.cls=.type "StopIteration")->E (.ref e) { s with heap:=h' }):wpAny (model prog w) A (nextOf (.ref it)) Q E s:=by
 obtain⟨o,ho,hc,hd⟩:=id hit;obtain⟨ol,hol,_,nl,hdl⟩:=ht;unfold nextOf
 refine zR (X1 (name:=Str.ofString "__next__") hit.typeIs Qx
  (X2 Qx hit.typeIs KS ?_ (KR _)))
 refine zR (m:=field (.ref it) 0) (uR ho hd (x:=.ref t) rfl ?_);show wpAny _ _ (if(Value.ref t==Value.none)=true then _ else _) _ _ s;rw[zV (show ¬ ((Value.ref t==Value.none)=true)from xf)];refine zR (m:=field (.ref it) 1) (uR ho hd (x:=.int i 0) rfl ?_);refine zR (m:=seqItems? (.ref t)) (qA hol hdl ?_);simp only[wH,hx];refine zR (V4 (zR (wpAny_setField ho hd (by simp) ?_)));refine zR (m:=newExc (.type "StopIteration") []) ?_;simp only[newExc,newTuple];refine zR (gj ?_ (by size_fits));refine zR (m:=firstArgMember _ _) (wpAny_of_eq (a:=Value.none) (by first|rfl|(simp only[firstArgMember]; rfl)) ?_);refine gj ?_ (by size_fits);simp only[raiseNew];refine zR (wpAny_handled ?_)
 first|rw[show A.in1.handled=none from hh]|rw[hh]
 refine zR (yW (wpAny_throw ?_));exact hE _ _ (((Heap.SameBut.update ..).extBut.push _).push _) ⟨_,wG _ rfl,rfl⟩
theorem lB{it l:Addr}(hne:l≠it)(items:Array Value):g_ prog w it l (λi h=>h.IsListIter it l i/\h.IsList l items) items.size (λi=>items.getD i .none) where
 keep:=λi h h' st k=>⟨st.1.at λo e=>k it o (.inl rfl) e,st.2.at λo e=>k l o (.inr rfl) e⟩
 item:=λi st hi hQ=>wpAny_nextOf_list_item st.1 st.2 (x:=items.getD i .none) (by simp[Array.getD,hi]) λh' st' sb=>hQ h' ⟨st',st.2.extBut sb.extBut hne⟩ sb
 done:=λi hh st hi hE=>wpAny_nextOf_list_end hh st.1 st.2 (BT hi) hE
theorem lC{it l:Addr}(hne:l≠it)(items:Array Value):g_ prog w it l (λi h=>h.IsTupleIter it l i/\h.IsTuple l items) items.size (λi=>items.getD i .none) where
 keep:=λi h h' st k=>⟨st.1.at λo e=>k it o (.inl rfl) e,st.2.at λo e=>k l o (.inr rfl) e⟩
 item:=λi st hi hQ=>ag st.1 st.2 (x:=items.getD i .none) (by simp[Array.getD,hi]) λh' st' sb=>hQ h' ⟨st',st.2.extBut sb.extBut hne⟩ sb
 done:=λi hh st hi hE=>af hh st.1 st.2 (BT hi) hE
variable{z TI TO i1 i2 l1 l2:Addr}{st1 st2:Nat->Heap->Prop}{n1 n2:Nat}{v1 v2:Nat->Value}{a b:Value}{k:Nat}
theorem sw{Q:Value->Shared->Prop}(D:ZipApart z TI TO i1 i2 l1 l2)(S1:g_ prog w i1 l1 st1 n1 v1)(S2:g_ prog w i2 l2 st2 n2 v2)
  (hz:IsZip s.heap z TI TO .none)(hTI:IsPair s.heap TI (.ref i1) (.ref i2))(hTO:IsPair s.heap TO a b)(h1:st1 k s.heap)(h2:st2 k s.heap)(k1:k<n1)(k2:k<n2)
  (hi1:i1<s.heap.objs.size)(hi2:i2<s.heap.objs.size)(hl1:l1<s.heap.objs.size)(hl2:l2<s.heap.objs.size)
  (hQ:∀h',IsZip h' z TI TO (rawInt s.heap.objs.size)->IsPair h' TO (v1 k) (v2 k)->st1 (k+1) h'->st2 (k+1) h'->IsPair h' s.heap.objs.size (v1 k) (v2 k)->
   (∀c o,c≠z->c≠TO->c≠i1->c≠i2->s.heap.get? c=some o->h'.get? c=some o)->Q (.ref s.heap.objs.size) { s with heap:=h' }) :
  wpAny (model prog w) A (Builtin.«zip.__next__» ⟨[.ref z],[]⟩) (λfin s'=>∃v,fin=.done (.ret v)/\Q v s') E s:=by
 refine zR (m:=field (.ref z) 2) (uR hz rfl (x:=.bool false) rfl ?_);refine zR (m:=field (.ref z) 3) (uR hz rfl (x:=.ref TI) rfl ?_);refine zR (qA hTI rfl ?_);refine zR (m:=Builtin.SmallTypes.ownedTupleIsFree (.ref z)) ?_;unfold Builtin.SmallTypes.ownedTupleIsFree;refine zR (uR hz rfl (x:=.none) rfl (yW ?_));simp only[wc];refine zR (V4 (zR (uR hz rfl (x:=.ref TO) rfl ?_)));refine zR (X3 hz (by simp) λha hza sa=>?_)
 replace hza:IsZip ha z TI TO .ellipsis:=hza
 refine zR ?_;simp only[List.zipIdx_cons,List.zipIdx_nil,Bn,List.forIn_nil];have h1a:st1 k ha:=S1.keep k _ _ h1 λc o hc e=>sa.extBut c o (by rcases hc with rfl|rfl; exact D.i1z; exact D.l1z) e
 refine zR (zR (V3 (zR (m:=nextOf (.ref i1)) (S1.item k h1a k1 λhb h1b sb=>yW ?_))));have hTOb:IsPair hb TO a b:=sb.extBut _ _ D.TOi1 (sa.extBut _ _ D.TOz hTO);refine zR (qA hTOb rfl (zR (D8 hTOb λhc hTOc sc=>?_)))
 replace hTOc:IsPair hc TO (v1 k) b:=hTOc
 refine zR (Ze (yW ?_))
 have h2c:st2 k hc:=S2.keep k _ _ h2 λc o hcc e=>by
  rcases hcc with rfl|rfl
  ·exact sc.extBut _ _ D.TOi2.symm (sb.extBut _ _ D.i12.symm (sa.extBut _ _ D.i2z e))
  ·exact sc.extBut _ _ D.l2TO (sb.extBut _ _ D.l2i1 (sa.extBut _ _ D.l2z e))
 refine zR (zR (V3 (zR (m:=nextOf (.ref i2)) (S2.item k h2c k2 λhd h2d sd=>yW ?_))));have hTOd:IsPair hd TO (v1 k) b:=sd.extBut _ _ D.TOi2 hTOc;refine zR (qA hTOd rfl (zR (D8 hTOd λhe hTOe se=>?_)))
 replace hTOe:IsPair he TO (v1 k) (v2 k):=hTOe
 refine zR (Ze (yW (yW ?_)));refine zR (qA hTOe rfl (zR (wpAny_newTuple ?_)));have hsz:he.objs.size=s.heap.objs.size:=by rw[se.1,sd.1,sc.1,sb.1,sa.1]
 have hze:IsZip he z TI TO .ellipsis:=se.extBut _ _ D.TOz.symm (sd.extBut _ _ D.i2z.symm (sc.extBut _ _ D.TOz.symm (sb.extBut _ _ D.i1z.symm hza)))
 have hke:∀c o,c≠z->c≠TO->c≠i1->c≠i2->s.heap.get? c=some o->he.get? c=some o:=λc o c1 c2 c3 c4 e=>
  se.extBut _ _ c2 (sd.extBut _ _ c4 (sc.extBut _ _ c2 (sb.extBut _ _ c3 (sa.extBut _ _ c1 e))))
 have h1e:st1 (k+1) he:=S1.keep _ _ _ h1b λc o hcc e=>by
  rcases hcc with rfl|rfl
  ·exact se.extBut _ _ D.TOi1.symm (sd.extBut _ _ D.i12 (sc.extBut _ _ D.TOi1.symm e))
  ·exact se.extBut _ _ D.l1TO (sd.extBut _ _ D.l1i2 (sc.extBut _ _ D.l1TO e))
 have h2e:st2 (k+1) he:=S2.keep _ _ _ h2d λc o hcc e=>by
  rcases hcc with rfl|rfl
  ·exact se.extBut _ _ D.TOi2.symm e
  ·exact se.extBut _ _ D.l2TO e
 have hzlt:z<he.objs.size:=yh hze;refine zR (m:=Builtin.SmallTypes.ownedTupleHandOut (.ref z) (.ref he.objs.size)) ?_;unfold Builtin.SmallTypes.ownedTupleHandOut;have hzf:IsZip (he.push { cls:=.type "tuple",data:=.seq #[v1 k,v2 k] }) z TI TO .ellipsis:=yx _ hze;refine zR (X3 hzf (by simp) λhg hzg sg=>?_)
 replace hzg:IsZip hg z TI TO (rawInt he.objs.size):=hzg
 refine X3 hzg (by simp) λhh hzh sh=>?_
 replace hzh:IsZip hh z TI TO (rawInt he.objs.size):=hzh
 have up:∀c o,c≠z->he.get? c=some o->hh.get? c=some o:=λc o c1 e=>sh.extBut _ _ c1 (sg.extBut _ _ c1 (yx _ e))
 have hT:IsPair hh he.objs.size (v1 k) (v2 k):=sh.extBut _ _ (Yy hzlt) (sg.extBut _ _ (Yy hzlt) (wG _ rfl));rw[hsz]at hzh hT;refine yW ⟨_,rfl,?_⟩;show Q (.ref he.objs.size) _;rw[hsz];refine hQ hh hzh (up _ _ D.TOz hTOe) (S1.keep _ _ _ h1e λc o hcc e=>up c o ?_ e) (S2.keep _ _ _ h2e λc o hcc e=>up c o ?_ e) hT λc o c1 c2 c3 c4 e=>up c o c1 (hke c o c1 c2 c3 c4 e)
 ·rcases hcc with rfl|rfl
  ·exact D.i1z
  ·exact D.l1z
 ·rcases hcc with rfl|rfl
  ·exact D.i2z
  ·exact D.l2z
theorem sv{Q:Fin->Shared->Prop}(hh:A.handled=none)(D:ZipApart z TI TO i1 i2 l1 l2)(S1:g_ prog w i1 l1 st1 n1 v1)(S2:g_ prog w i2 l2 st2 n2 v2)
  (hz:IsZip s.heap z TI TO .none)(hTI:IsPair s.heap TI (.ref i1) (.ref i2))(hTO:IsPair s.heap TO a b)(h1:st1 k s.heap)(h2:st2 k s.heap)(hend:n1<=k\/n2<=k)
  (hE:∀h' e,(∀c o,c≠z->c≠TO->c≠i1->c≠i2->s.heap.get? c=some o->h'.get? c=some o)->(∃o,h'.get? e=some o/\o.cls=.type "StopIteration")->E (.ref e) { s with heap:=h' }) :
  wpAny (model prog w) A (Builtin.«zip.__next__» ⟨[.ref z],[]⟩) Q E s:=by
 refine zR (m:=field (.ref z) 2) (uR hz rfl (x:=.bool false) rfl ?_);refine zR (m:=field (.ref z) 3) (uR hz rfl (x:=.ref TI) rfl ?_);refine zR (qA hTI rfl ?_);refine zR (m:=Builtin.SmallTypes.ownedTupleIsFree (.ref z)) ?_;unfold Builtin.SmallTypes.ownedTupleIsFree;refine zR (uR hz rfl (x:=.none) rfl (yW ?_));simp only[wc];refine zR (V4 (zR (uR hz rfl (x:=.ref TO) rfl ?_)));refine zR (X3 hz (by simp) λha hza sa=>?_)
 replace hza:IsZip ha z TI TO .ellipsis:=hza
 refine zR ?_;simp only[List.zipIdx_cons,List.zipIdx_nil,Bn,List.forIn_nil];have h1a:st1 k ha:=S1.keep k _ _ h1 λc o hc e=>sa.extBut c o (by rcases hc with rfl|rfl; exact D.i1z; exact D.l1z) e
 by_cases k1:k<n1
 ·have k2:n2<=k:=by omega
  refine zR (zR (V3 (zR (m:=nextOf (.ref i1)) (S1.item k h1a k1 λhb h1b sb=>yW ?_))));have hTOb:IsPair hb TO a b:=sb.extBut _ _ D.TOi1 (sa.extBut _ _ D.TOz hTO);refine zR (qA hTOb rfl (zR (D8 hTOb λhc hTOc sc=>?_)));refine zR (Ze (yW ?_))
  have h2c:st2 k hc:=S2.keep k _ _ h2 λc o hcc e=>by
   rcases hcc with rfl|rfl
   ·exact sc.extBut _ _ D.TOi2.symm (sb.extBut _ _ D.i12.symm (sa.extBut _ _ D.i2z e))
   ·exact sc.extBut _ _ D.l2TO (sb.extBut _ _ D.l2i1 (sa.extBut _ _ D.l2z e))
  refine zR (zR (V3 (zR (m:=nextOf (.ref i2)) (S2.done k hh h2c k2 λhd e sd he=>?_))));obtain⟨oe,hoe,hce⟩:=he;have hzd:IsZip hd z TI TO .ellipsis:=sd _ _ D.i2z.symm (sc.extBut _ _ D.TOz.symm (sb.extBut _ _ D.i1z.symm hza));have hez:e≠z:=λx=>by subst x; rw[hzd]at hoe; cases hoe; simp at hce
  exact X3 hzd (by simp) λhf _ sf=>hE hf e (λc o c1 c2 c3 c4 x=>sf.extBut _ _ c1 (sd _ _ c4 (sc.extBut _ _ c2 (sb.extBut _ _ c3 (sa.extBut _ _ c1 x))))) ⟨oe,sf.extBut _ _ hez hoe,hce⟩
 ·refine zR (zR (V3 (zR (m:=nextOf (.ref i1)) (S1.done k hh h1a (by omega) λhb e sb he=>?_))));obtain⟨oe,hoe,hce⟩:=he;have hzb:IsZip hb z TI TO .ellipsis:=sb _ _ D.i1z.symm hza;have hez:e≠z:=λx=>by subst x; rw[hzb]at hoe; cases hoe; simp at hce
  exact X3 hzb (by simp) λhf _ sf=>hE hf e (λc o c1 _ c3 _ x=>sf.extBut _ _ c1 (sb _ _ c3 (sa.extBut _ _ c1 x))) ⟨oe,sf.extBut _ _ hez hoe,hce⟩
end
end L2
namespace L2
open PySem PySem.Spec PyProof.Rows
noncomputable def vp(K:W.Frag)(tp:Bool)(H:Hp)(a:Addr)(xs:List V):Prop:=match tp with
 |true=>xH K H a xs
 |false=>yj K H a xs
noncomputable def W6(tp:Bool):String:=match tp with
 |true => "tuple_iterator"
 |false => "list_iterator"
noncomputable def uB(tp:Bool)(h:Heap)(a:Addr)(its:Array Value):Prop:=match tp with
 |true=>h.IsTuple a its
 |false=>h.IsList a its
noncomputable def jt(tp:Bool)(h:Heap)(it l:Addr)(i:Nat):Prop:=∃o,h.get? it=some o/\o.cls=.type (W6 tp)/\o.data=.fields #[.ref l,.int i 0]
theorem jt.at{tp:Bool}{h h':Heap}{it l:Addr}{i:Nat}(x:jt tp h it l i)(e:∀o,h.get? it=some o->h'.get? it=some o):jt tp h' it l i:=let ⟨o,ho,r⟩:=x; ⟨o,e _ ho,r⟩
theorem uB.push{tp:Bool}{h:Heap}{a:Addr}{its:Array Value}(x:uB tp h a its)(o:Obj):uB tp (h.push o) a its:=by
 cases tp
 ·exact Heap.IsList.push x o
 ·exact Heap.IsTuple.push x o
theorem uB.lt{tp:Bool}{h:Heap}{a:Addr}{its:Array Value}(x:uB tp h a its):a<h.objs.size:=by
 cases tp
 ·obtain⟨o,e,_⟩:=x; exact yh e
 ·obtain⟨o,e,_⟩:=x; exact yh e
section
variable{prog:Program}{w:World}{A:Around}{E:Value->Shared->Prop}{s:Shared}
theorem QF{tp:Bool}{it l:Addr}(hne:l≠it)(items:Array Value):g_ prog w it l (λi h=>jt tp h it l i/\uB tp h l items) items.size (λi=>items.getD i .none):=by
 cases tp
 ·exact lB hne items
 ·exact lC hne items
theorem G4{tp:Bool}{l:Addr}{items:Array Value}{Q:Value->Shared->Prop}(h:uB tp s.heap l items)
  (hQ:Q (.ref s.heap.objs.size) { s with heap:=s.heap.push { cls:=.type (W6 tp),data:=.fields #[.ref l,.int 0 0] } }):wpAny (model prog w) A (pyIter (.ref l)) Q E s:=by
 cases tp
 ·exact D6 (show s.heap.IsList l items from h) hQ
 ·exact wpAny_pyIter_tuple (show s.heap.IsTuple l items from h) hQ
noncomputable abbrev Qk(t1:Bool)(h:Heap)(l1:Addr):Heap:=h.push { cls:=.type (W6 t1),data:=.fields #[.ref l1,.int 0 0] }
noncomputable abbrev Ql(t1 t2:Bool)(h:Heap)(l1 l2:Addr):Heap:=(Qk t1 h l1).push { cls:=.type (W6 t2),data:=.fields #[.ref l2,.int 0 0] }
noncomputable abbrev Qm(t1 t2:Bool)(h:Heap)(l1 l2:Addr):Heap:=(Ql t1 t2 h l1 l2).push { cls:=.type "tuple",data:=.seq #[.ref h.objs.size,.ref (Qk t1 h l1).objs.size] }
noncomputable abbrev Qn(t1 t2:Bool)(h:Heap)(l1 l2:Addr):Heap:=(Qm t1 t2 h l1 l2).push { cls:=.type "tuple",data:=.seq #[.none,.none] }
noncomputable abbrev Yp(t1 t2:Bool)(h:Heap)(l1 l2:Addr):Heap:=(Qn t1 t2 h l1 l2).push { cls:=.type "zip",data:=.fields #[.none,.bool false,.bool false,.ref (Ql t1 t2 h l1 l2).objs.size,.ref (Qm t1 t2 h l1 l2).objs.size] }
theorem z00(t1 t2:Bool)(l1 l2:Addr)(xs ys:Array Value) :
  Meets (Builtin.«zip.__new__» ⟨[.type "zip",.ref l1,.ref l2],[]⟩) (λ_ R s=>uB t1 s.heap l1 xs/\uB t2 s.heap l2 ys/\R (.ok (.ret (.ref (Qn t1 t2 s.heap l1 l2).objs.size))) { s with heap:=Yp t1 t2 s.heap l1 l2 }):=
 .of_wp λprog w A R s h=>by
  obtain⟨hp,g,d,tk,os⟩:=s; obtain⟨hl1,hl2,h⟩:=h;have hsub:=sub_zip;have hL1:uB t1 (Shared.heap ⟨hp,g,d,tk,os⟩) l1 xs:=hl1;have hL2:uB t2 (Shared.heap ⟨hp.push { cls:=.type (W6 t1),data:=.fields #[.ref l1,.int 0 0] },g,d,tk,os⟩) l2 ys:=uB.push hl2 _
  wp_walk using G4 hL1,G4 hL2
  exact⟨_,rfl,h⟩
theorem P6{t1 t2:Bool}{l1 l2:Addr}{xs ys:Array Value}{Q:Value->Shared->Prop}(hl1:uB t1 s.heap l1 xs)(hl2:uB t2 s.heap l2 ys)
  (h:∀h',IsZip h' (s.heap.objs.size+4) (s.heap.objs.size+2) (s.heap.objs.size+3) .none->IsPair h' (s.heap.objs.size+2) (.ref s.heap.objs.size) (.ref (s.heap.objs.size+1))->
   IsPair h' (s.heap.objs.size+3) .none .none->jt t1 h' s.heap.objs.size l1 0->jt t2 h' (s.heap.objs.size+1) l2 0->
   (∀c o,s.heap.get? c=some o->h'.get? c=some o)->Q (.ref (s.heap.objs.size+4)) { s with heap:=h' }) :
  wpAny (model prog w) A (call (.type "zip") [.ref l1,.ref l2]) Q E s:=by
 refine callType_new F.called_zip (by decide) (F.typeCall_zip_2 _ _) (F.newCall_zip_2 _ _) (λobj=>F.args_object_init_3 obj _ _) F.entry_zip_new (z00 t1 t2 l1 l2 xs ys) ⟨hl1,hl2,?_⟩;have z1:(Qk t1 s.heap l1).objs.size=s.heap.objs.size+1:=Yr ..;have z2:(Ql t1 t2 s.heap l1 l2).objs.size=s.heap.objs.size+2:=by rw[Yr,z1]
 have z3:(Qm t1 t2 s.heap l1 l2).objs.size=s.heap.objs.size+3:=by rw[Yr,z2]
 have z4:(Qn t1 t2 s.heap l1 l2).objs.size=s.heap.objs.size+4:=by rw[Yr,z3]
 have g5:(Yp t1 t2 s.heap l1 l2).get? (Qn t1 t2 s.heap l1 l2).objs.size=some _:=wG _ rfl;have g4:(Yp t1 t2 s.heap l1 l2).get? (Qm t1 t2 s.heap l1 l2).objs.size=some _:=yx _ (wG _ rfl);have g3:(Yp t1 t2 s.heap l1 l2).get? (Ql t1 t2 s.heap l1 l2).objs.size=some _:=yx _ (yx _ (wG _ rfl));have g2:(Yp t1 t2 s.heap l1 l2).get? (Qk t1 s.heap l1).objs.size=some _:=yx _ (yx _ (yx _ (wG _ rfl)));have g1:(Yp t1 t2 s.heap l1 l2).get? s.heap.objs.size=some _:=yx _ (yx _ (yx _ (yx _ (wG _ rfl))));show _/\_;rw[z2,z3,z4]at g5;rw[z1,z2]at g3;rw[z3]at g4;rw[z1]at g2;rw[z4]
 exact⟨⟨_,g5,rfl⟩,h _ g5 g3 g4 ⟨_,g1,rfl,rfl⟩ ⟨_,g2,rfl,rfl⟩ λc o x=>
  yx _ (yx _ (yx _ (yx _ (yx _ x))))⟩
end
section
variable{X:Cx}{z8:List (Addr×Obj)}{σ:St}{H:Hp}{s:Shared}
theorem Inv.Zl{tp:Bool}{a:Addr}{xs:List V}(I:Inv X z8 σ H s)(h:vp X.K tp H a xs):∃its:List Value,zz xs its/\uB tp s.heap a its.toArray:=by
 cases tp
 ·obtain⟨its,r,p,_⟩:=I.list h;exact⟨its,r,p.isList⟩
 ·obtain⟨its,r,p,_⟩:=I.tuple h;exact⟨its,r,p⟩
theorem Inv.DE{tp:Bool}{a:Addr}{xs ys:List V}(I:Inv X z8 σ H s)(h:vp X.K tp H a xs)(h':vp X.K tp H a ys):xs=ys:=by
 cases tp
 ·exact I.VA h h'
 ·exact I.JT h h'
theorem Hy{fs ch:List Addr}{h h':Heap}(k:∀b o,b ∉ ch->h.get? b=some o->h'.get? b=some o):Un fs ch H H h h':=
 ⟨λb o e _ _ hx=>k b o hx e,λb o e _ _ hx=>⟨o.slots,k b o hx e⟩,λ_ _ _ n _=>n,λb o e hx=>⟨o,k b o hx e⟩,λ_ _ z=>z,λ_ _ _ z=>z,λb ps e=>⟨#[],by rw[e]; simp⟩⟩
theorem Fj{P:Program}{w:World}{ch:List Addr}{h h':Heap}(x:xQ P w H h)(hn:∀b∈ch,H b=none)(k:∀b o,b ∉ ch->h.get? b=some o->h'.get? b=some o):xQ P w H h':=λb u e=>by
 have nit:∀c v,H c=some v->c ∉ ch:=λc v e z=>by rw[hn c z]at e; cases e
 refine(x b u e).jX (λc v hc q=>k c v ?_ q) (λ_ q=>q) λ_ _ q=>q
 rcases hc with z|z
 ·rw[z]; exact nit b u e
 ·exact nit c _ z
theorem Inv.but{ch:List Addr}{h':Heap}{tk:Nat}(I:Inv X z8 σ H s)(hf:∀b∈ch,tN X z8 H b)(k:∀b o,b ∉ ch->s.heap.get? b=some o->h'.get? b=some o):Inv X z8 σ H { s with heap:=h',toks:=tk }:=
 I.JM (s':={ s with heap:=h',toks:=tk }) rfl (Hy k) (Fj I.zj (λb hb=>(hf b hb).1) k) I.bare λb hb=>⟨(hf b hb).2.2.2.1,(hf b hb).2.1,(hf b hb).2.2.2.2.1,(hf b hb).2.2.2.2.2⟩
theorem Inv.JN{ch:List Addr}{h':Heap}{tk:Nat}{T:Addr}{o:HO}(I:Inv X z8 σ H s)(hf:∀b∈ch,tN X z8 H b)(k:∀b o,b ∉ ch->s.heap.get? b=some o->h'.get? b=some o)(hT:s.heap.get? T=none)(hn:H T=none)
  (new:xD X.prog X.w (zc H T o) h' T o):Inv X z8 σ (zc H T o) { s with heap:=h',toks:=tk }:=
 I.JM (s':={ s with heap:=h',toks:=tk }) rfl (oy (Hy k) hT hn) (Fk (Fj I.zj (λb hb=>(hf b hb).1) k) hn new) I.bare λb hb=>⟨(hf b hb).2.2.2.1,(hf b hb).2.1,(hf b hb).2.2.2.2.1,(hf b hb).2.2.2.2.2⟩
end
noncomputable def Il(K:W.Frag)(t1 t2:Bool)(a b:Addr):It:=
  ⟨λi H=>∃xs ys x y,vp K t1 H a xs/\vp K t2 H b ys/\xs[i]?=some x/\ys[i]?=some y,
   λi H v H'=>∃p,H p=none/\v=.ref p/\∀xs ys,vp K t1 H a xs->vp K t2 H b ys->∃x y,xs[i]?=some x/\ys[i]?=some y/\H'=zc H p (.tup [x,y]),
   λi H=>∃xs ys,vp K t1 H a xs/\vp K t2 H b ys/\(xs.length<=i\/ys.length<=i)⟩
theorem ng{P:Program}{w:World}{K:W.Frag}{elts:List Expr}{kk:Nat}{pos:Pos}(t1 t2:Bool)(a b z TI TO i1 i2:Addr)(D:ZipApart z TI TO i1 i2 a b) :
  qI P w K (.Tuple elts kk pos) (Il K t1 t2 a b) [z,TI,TO,i1,i2] z (λi h=>IsZip h z TI TO .none/\IsPair h TI (.ref i1) (.ref i2)/\(∃u v,IsPair h TO u v)/\jt t1 h i1 a i/\jt t2 h i2 b i) where
 mem:=by simp
 obj:=λi h st c hc=>by
  obtain⟨s1,s2,⟨u,v,s3⟩,⟨o4,s4,_,d4⟩,⟨o5,s5,_,d5⟩⟩:=st;simp only[xN,t_,or_false]at hc;rcases hc with rfl|rfl|rfl|rfl|rfl
  ·exact⟨_,s1,λv q=>nomatch q⟩
  ·exact⟨_,s2,λv q=>nomatch q⟩
  ·exact⟨_,s3,λv q=>nomatch q⟩
  ·exact⟨_,s4,λv q=>by rw[d4]at q; cases q⟩
  ·exact⟨_,s5,λv q=>by rw[d5]at q; cases q⟩
 keep:=λi h h' st k=>by
  obtain⟨s1,s2,⟨u,v,s3⟩,s4,s5⟩:=st;exact⟨k z (by simp) _ s1,k TI (by simp) _ s2,⟨u,v,k TO (by simp) _ s3⟩,s4.at λo e=>k i1 (by simp) o e,s5.at λo e=>k i2 (by simp) o e⟩
 item:=by
  intro X hP hw hK hc i z8 s σ H E I hf st hg;subst hP hw hK;obtain⟨s1,s2,⟨u,v,s3⟩,s4,s5⟩:=st;obtain⟨xs,ys,x,y,hx,hy,ex,ey⟩:=hg;obtain⟨us,ru,pu⟩:=I.Zl hx;obtain⟨ws,rw',pw⟩:=I.Zl hy;obtain⟨xu,hxu,rxu⟩:=ru.get ex;obtain⟨yw,hyw,ryw⟩:=rw'.get ey;have k1:i<us.toArray.size:=by rw[yo]; exact(xT.mp hxu).1
  have k2:i<ws.toArray.size:=by rw[yo]; exact(xT.mp hyw).1
  have e1:us.toArray.getD i .none=xu:=by
   have:=xT.mp hxu;obtain⟨l,e⟩:=this;simp[Array.getD,l,e]
  have e2:ws.toArray.getD i .none=yw:=by
   have:=xT.mp hyw;obtain⟨l,e⟩:=this;simp[Array.getD,l,e]
  have hT:s.TypeIs (.ref z) "zip" := ⟨_,s1,rfl⟩;have q4:i1<s.heap.objs.size:=by obtain⟨o,e,_⟩:=s4; exact yh e
  have q5:i2<s.heap.objs.size:=by obtain⟨o,e,_⟩:=s5; exact yh e
  unfold pyNext
  refine zR (wpAny_attempt (X1 (name:=Str.ofString "__next__") hT Qy (X2 Qy hT F.entry_zip_next
   (sw D (QF D.l1i1 us.toArray) (QF D.l2i2 ws.toArray) s1 s2 s3 ⟨s4,pu⟩ ⟨s5,pw⟩ k1 k2 q4 q5 pu.lt pw.lt λh' a1 a2 a3 a4 a5 a6=>yW ?_) (F.args_zip_next_1 _))))
  rw[e1,e2]at a2 a5;refine⟨_,rfl,wpAny_letOwnedTupleGo_zip (s:={ s with heap:=h' }) a1 λh'' b1 sb=>?_⟩
  have hTs:s.heap.get? s.heap.objs.size=none:=by
   cases q:s.heap.get? s.heap.objs.size with
   |none=>rfl
   |some o=>exact absurd (yh q) (v6 _)
  have hTf:H s.heap.objs.size=none:=I.zj.fresh (y0 _);have hTz:s.heap.objs.size≠z:=Yy (yh s1);have tup:h''.get? s.heap.objs.size=some { cls:=.type "tuple",data:=.seq #[xu,yw] }:=sb.extBut _ _ hTz a5
  have kk:∀c o,c ∉ [z,TI,TO,i1,i2]->s.heap.get? c=some o->h''.get? c=some o:=λc o hc e=>by
   simp only[xN,t_,or_false,not_or]at hc;exact sb.extBut _ _ hc.1 (a6 c o hc.1 hc.2.2.1 hc.2.2.2.1 hc.2.2.2.2 e)
  have new:xD X.prog X.w (zc H s.heap.objs.size (.tup [x,y])) h'' s.heap.objs.size (.tup [x,y]):=⟨(by show 2<=sizeLine; decide),[xu,yw],.cons rxu (.cons ryw .nil),⟨_,tup,rfl,_,rfl⟩⟩;refine⟨.ref s.heap.objs.size,zc H s.heap.objs.size (.tup [x,y]),I.JN (tk:=s.toks) hf kk hTs hTf new,rfl,⟨s.heap.objs.size,hTf,rfl,λxs' ys' hx' hy'=>?_⟩,⟨b1,?_,⟨_,_,sb.extBut _ _ D.TOz a2⟩,a3.1.at λo e=>sb.extBut _ _ D.i1z e,a4.1.at λo e=>sb.extBut _ _ D.i2z e⟩,λc hc=>?_⟩
  ·rw[I.DE hx' hx,I.DE hy' hy];exact⟨x,y,ex,ey,rfl⟩
  ·exact sb.extBut _ _ D.TIz (a6 _ _ D.TIz D.TITO D.TIi1 D.TIi2 s2)
  ·rw[yE]
   ·exact(hf c hc).1
   ·intro q
    have hlt:c<s.heap.objs.size:=by
     simp only[xN,t_,or_false]at hc;rcases hc with rfl|rfl|rfl|rfl|rfl
     ·exact yh s1
     ·exact yh s2
     ·exact yh s3
     ·exact q4
     ·exact q5
    rw[q]at hlt;exact absurd hlt (v6 _)
 done:=by
  intro X hP hw hK hc i z8 s σ H E I hf st hg;subst hP hw hK;obtain⟨s1,s2,⟨u,v,s3⟩,s4,s5⟩:=st;obtain⟨xs,ys,hx,hy,hend⟩:=hg;obtain⟨us,ru,pu⟩:=I.Zl hx;obtain⟨ws,rw',pw⟩:=I.Zl hy
  have hend':us.toArray.size<=i\/ws.toArray.size<=i:=by
   have l1:=ru.length;have l2:=rw'.length;rw[yo,yo];omega
  have hT:s.TypeIs (.ref z) "zip" := ⟨_,s1,rfl⟩;unfold pyNext
  refine zR (wpAny_attempt (X1 (name:=Str.ofString "__next__") hT Qy (X2 Qy hT F.entry_zip_next
   (sv (by exact I.ok.hd hc) D (QF D.l1i1 us.toArray) (QF D.l2i2 ws.toArray) s1 s2 s3 ⟨s4,pu⟩ ⟨s5,pw⟩ hend' λh' e kk he=>?_) (F.args_zip_next_1 _))))
  obtain⟨o,ho,hcl⟩:=he;refine zR (wpAny_isInstance (T := "StopIteration") (b:=true) ⟨o,ho,hcl⟩ isSubtype_stop ?_);refine yW ⟨rfl,I.but (tk:=s.toks) hf λc ob hcc eb=>?_⟩;simp only[xN,t_,or_false,not_or]at hcc;exact kk c ob hcc.1 hcc.2.2.1 hcc.2.2.2.1 hcc.2.2.2.2 eb
 self:=λ_ _ _ _ _ st h=>wpAny_pyIter_zip st.1 h
theorem vM{a b:Nat}(h:a≠b):@Ne Addr a b:=h
theorem sx{n l1 l2:Nat}(h1:l1<n)(h2:l2<n):ZipApart (n+4) (n+2) (n+3) n (n+1) l1 l2:=
 ⟨vM (by omega),vM (by omega),vM (by omega),vM (by omega),vM (by omega),vM (by omega),vM (by omega),vM (by omega),vM (by omega),vM (by omega),vM (by omega),vM (by omega),vM (by omega),vM (by omega),vM (by omega),vM (by omega),vM (by omega),vM (by omega)⟩
theorem No:bootBuiltins "zip" = some (.type "zip"):=by decide +kernel
section
variable{X:Cx}
noncomputable def Fm(K:W.Frag)(ta:TA):TI:=λσ H R=>ta σ H λvs H1=>∃a b xs ys t1 t2,vs=[.ref a,.ref b]/\vp K t1 H1 a xs/\vp K t2 H1 b ys/\R (Il K t1 t2 a b) H1
theorem dF{a b:Expr}{ta:TA}{p pos:Pos}{elts:List Expr}{kk:Nat}{tp:Pos}(hg:Gl X "zip")(hm:X.mg "zip" = none)(ha:PA X [a,b] ta)(hs:starEach [a,b] X.env=[(false,eval a X.env),(false,eval b X.env)]:=by rfl)
  (hs2:starEach [b] X.env=[(false,eval b X.env)]:=by rfl):PI X (.Tuple elts kk tp) (.Call (.Name "zip" p) [a,b] [] pos) (Fm X.K ta):=by
 intro z8 s σ H R I h;refine Call_ (gE I hg hm No (Wx (zw (ha pos z8 s σ H _ I h) λus s1 ⟨vs,H1,I1,r1,q1⟩=>?_) (by rw[hs,hs2]) (by rw[hs2]; rfl)));obtain⟨l1,l2,xs,ys,t1,t2,rfl,hx,hy,q⟩:=q1;obtain⟨u,v,rfl,ru,rv⟩:=QZ r1;cases(show u=Value.ref l1 from ru);cases(show v=Value.ref l2 from rv);obtain⟨us,_,pu⟩:=I1.Zl hx;obtain⟨ws,_,pw⟩:=I1.Zl hy;have w1:=pu.lt;have w2:=pw.lt;refine P6 pu pw λh' a1 a2 a3 a4 a5 kp=>?_
 have I2:Inv X z8 σ H1 { s1 with heap:=h' }:=I1.kept (t':=s1.toks) kp;refine wpAny_pyIter_zip (s:={ s1 with heap:=h' }) a1 ?_;generalize hn:s1.heap.objs.size=n at a1 a2 a3 a4 a5 w1 w2
 have D:ZipApart (n+4) (n+2) (n+3) n (n+1) l1 l2:=by
  exact sx w1 w2
 refine⟨n+4,[n+4,n+2,n+3,n,n+1],_,_,H1,rfl,I2,ng t1 t2 l1 l2 (n+4) (n+2) (n+3) n (n+1) D,⟨a1,a2,⟨_,_,a3⟩,a4,a5⟩,λc hc=>?_,q⟩
 have hle:s1.heap.objs.size<=c:=by
  rw[hn];simp only[xN,t_,or_false]at hc;rcases hc with rfl|rfl|rfl|rfl|rfl
  ·exact Wv _ _
  ·exact Wv _ _
  ·exact Wv _ _
  ·exact y0 _
  ·exact Wv _ _
 exact I1.p_ hle (I1.zj.fresh hle)
theorem eN{a b:Expr}{ta:TA}{p pos:Pos}{elts:List Expr}{kk:Nat}{tp:Pos}(hg:Gl X "zip")(hm:X.mg "zip" = none)(ha:QA X [a,b] ta)(hs:xJ a=true:=by rfl)(hs2:xJ b=true:=by rfl) :
  QI X (.Tuple elts kk tp) (.Call (.Name "zip" p) [a,b] [] pos) (Fm X.K ta):=⟨dF hg hm ha.h (by rw[u2 hs,u2 hs2]; rfl) (u2 hs2)⟩
end
noncomputable def Dj(scope:Scope)(env:Env)(cl:List (Str×Addr))(own:List Str):Bool:=
 scope.kind == .function&&scope.names.all (λy=>y.2 != .cell)&&Y2 scope env cl own&&scope.names.all (λy=>y.2 != .local||scope.names.lookup y.1==some .local)
theorem uV{X:Cx}{scope:Scope}{cl:List (Str×Addr)}{own:List Str}(V9:closureFor scope X.env=pure cl)(V8:jd X.env cl:=by first|exact True.intro|exact⟨rfl,True.intro⟩|exact⟨rfl,rfl,True.intro⟩|exact⟨rfl,rfl,rfl,True.intro⟩|exact⟨rfl,rfl,rfl,rfl,True.intro⟩)
  (ok:Dj scope X.env cl own=true:=by rfl):jc X scope cl own:=by
 unfold Dj at ok;simp only[xS]at ok;obtain⟨⟨⟨h1,h2⟩,h3⟩,h4⟩:=ok;refine⟨JF.mp h1,λy hy e=>?_,V8,h3,V9,λy hy e=>?_⟩
 ·have:=u5.mp h2 y hy;rw[e]at this;cases this
 ·have:=u5.mp h4 y hy;rw[e]at this;simpa using this
section
variable{X:Cx}(K:W.Frag)(hK:X.K=K)
include hK
end
noncomputable def N7(K:W.Frag)(a:Addr)(xs:List V):Prop:=∀H,xH K H a xs
theorem xn{K:W.Frag}{a:Addr}{xs:List V}{d:Option Addr}{its:Array Value}{n:Nat}{sl:Array (Option Value)}(h:K.lookup a=some ⟨.type "tuple",d,.seq its n,sl⟩)(hz:its.size<=sizeLine)(r:zz xs its.toList):N7 K a xs:=
 λ_=>.inr ⟨_,its,n,h,rfl,rfl,hz,r⟩
open Builtin Builtin.Str
section
variable{X:Cx}
theorem Ae:pA X "str.index" (λx vs H Q=>∃(z y:Str) (i:Nat) (yy:List Nat),x=.str z/\vs=[.str y]/\occurrences z y 0 z.length 1=i::yy/\Q (.int (i:Int)) H):=by
 intro z8 s σ H x vs v us Q I rx rv h;obtain⟨z,y,i,yy,rfl,rfl,ho,q⟩:=h;obtain⟨t,rfl⟩:=(show ∃t,v=Value.str z t from rx);obtain⟨u,rfl,t',rfl⟩:=vN rv;exact call_gives F.slot_str_index (jW _ _ _) F.entry_str_index (F.args_str_index_2 _ _) (gives_str_index z y t t' i yy ho) ⟨.int i,H,I.tok _,⟨_,rfl⟩,q⟩
theorem BK:∀{ts:List Str}{its:List Value},zz (ts.map V.str) its->∃l:List (Str×Tok),its=strValues l/\l.map (·.1)=ts
 | [],_,.nil=>⟨[],rfl,rfl⟩
 |t::ts,_,.cons r rr=>by
  obtain⟨k,e⟩:=(show ∃k,_=Value.str t k from r);obtain⟨l,e1,e2⟩:=BK rr;subst e e1;exact⟨(t,k)::l,rfl,by rw[xY,e2]⟩
noncomputable def eW(K:W.Frag):V->List V->Hp->VK->Prop:=λx vs H Q=>∃(sep:Str) (p:Addr) (ts:List Str),x=.str sep/\vs=[.ref p]/\yj K H p (ts.map V.str)/\(ts.map (·.length)).sum+ts.length*sep.length<=sizeLine/\Q (.str (glued sep ts)) H
theorem glued_len(sep:Str):∀ts:List Str,(glued sep ts).length<=(ts.map (·.length)).sum+ts.length*sep.length
 | []=>by show(Str.length _)<=_; simp[glued,Str.length,Str.empty]
 |t::ts=>by
  have h:∀(us:List Str)(a:Array Nat),(us.foldl (λacc p=>acc++sep.cps++p.cps) a).size=a.size+(us.map (·.length)).sum+us.length*sep.length:=λus=>by
   induction us with
   |nil=>intro a; simp
   |cons u us ih=>
    intro a;rw[ZX,ih];simp only[Qs,xY,Yx,xg,Nat.succ_mul,Str.length];omega
  show(ts.foldl (λacc p=>acc++sep.cps++p.cps) t.cps).size<=_;rw[h];simp only[xY,Yx,xg,Nat.succ_mul,Str.length];omega
theorem Ah:pA X "str.join" (eW X.K):=by
 intro z8 s σ H x vs v us Q I rx rv h;obtain⟨sep,p,ts,rfl,rfl,hq,hz,q⟩:=h;obtain⟨t,rfl⟩:=(show ∃t,v=Value.str sep t from rx);obtain⟨u,rfl,ru⟩:=vN rv;cases(show u=Value.ref p from ru);obtain⟨its,r,pl,_⟩:=I.list hq;obtain⟨l,rfl,el⟩:=BK r;have hT:s.TypeIs (.ref p) "list" := pl.isList.typeIs;obtain⟨o,ho,hc,n,hd⟩:=pl.isList
 have hno:tooLong ((l.map (·.1)).toArray.foldl (·+·.length+sep.length) 0)=false:=by
  rw[el,StrLaws.joinTotal];unfold tooLong;exact yV (by omega)
 have fit:(glued sep ts).length<=sizeLine:=xO (glued_len sep ts) hz;refine JJ (D0 Qw.plain F.entry_str_join (Qw.check _ _ _ _ _ _ _ _ (jW _ _ _) (F.args_str_join_2 _ _) ?_));obtain⟨other,e⟩:=join_tree sep t p;rw[e];refine zR (V7 hT ?_);rw[zP (by decide)];refine zR (qA ho hd ?_);show wpAny _ _ (joinTail sep (strValues l)) _ _ _;rcases l with _|⟨a,_|⟨b,c⟩⟩
 ·subst el;exact X0 sep [] hno X.prog X.w _ (λr s'=>match r with|.ok (.ret v)=>EP X z8 σ Q v s'|.ok _=>False|.error e=>X.xe e s') s ⟨fit,.str _,H,I.tok _,⟨_,rfl⟩,q⟩
 ·subst el;exact X0 sep [a] hno X.prog X.w _ (λr s'=>match r with|.ok (.ret v)=>EP X z8 σ Q v s'|.ok _=>False|.error e=>X.xe e s') s ⟨.str _,H,I,⟨_,rfl⟩,q⟩
 ·subst el;exact X0 sep (a::b::c) hno X.prog X.w _ (λr s'=>match r with|.ok (.ret v)=>EP X z8 σ Q v s'|.ok _=>False|.error e=>X.xe e s') s ⟨fit,.str _,H,I.tok _,⟨_,rfl⟩,q⟩
end
noncomputable def Vh(z:Str):It:=⟨λi _=>i<z.length,λi H x H'=>H'=H/\∃c,z.cps[i]?=some c/\x=.str ⟨#[c]⟩,λi _=>z.length<=i⟩
section
variable{X:Cx}{tg:Expr}
noncomputable def SK(te:TE):TI:=λσ H R=>te σ H λx H1=>∃z,x=.str z/\R (Vh z) H1
theorem nZ{P:Program}{w:World}{K:W.Frag}{it:Addr}{z:Str}{t:Tok}{ty:String}(hty:ty = "str_ascii_iterator" \/ ty = "str_iterator"):qI P w K tg (Vh z) [it] it (λi h=>h.IsStrIter it ty z t i/\i<=z.length) where
 mem:=by simp
 obj:=λi h st b hb=>by
  have e:b=it:=by simpa using hb
  subst e;obtain⟨⟨o,e,c,d⟩,_⟩:=st;exact⟨o,e,λv z=>by rw[d]at z; cases z⟩
 keep:=λi h h' st k=>⟨let ⟨o,ho,r⟩:=st.1; ⟨o,k it (by simp) o ho,r⟩,st.2⟩
 item:=by
  intro X hP hw hK hc i z8 s σ H E I hf st hg;subst hP hw hK;obtain⟨f0,f1,f2,f3,f4,f5⟩:=hf it (by simp);have hg':i<z.cps.size:=hg;have hx:z.cps[i]?=some z.cps[i]:=by simp[hg']
  have go:∀h' tk (u:Value),(∃t',u=Value.str ⟨#[z.cps[i]]⟩ t')->h'.IsStrIter it ty z t (i+1)->Heap.SameBut it s.heap h'->∃v,some u=some v/\
    wpAny (model X.prog X.w) X.A (letOwnedTupleGo tg (.ref it) v) (λ_ s2=>∃x H',Inv X z8 σ H' s2/\yB x v/\(Vh z).vQ i H x H'/\(s2.heap.IsStrIter it ty z t (i+1)/\i+1<=z.length)/\∀b∈[it],H' b=none) E { s with heap:=h',toks:=tk }:=λh' tk u hu st' sb=>by
   obtain⟨t',rfl⟩:=hu;have I1:Inv X z8 σ H { s with heap:=h',toks:=tk }:=I.turned (λb o hb e=>(sb.2 b hb).trans e) f0 f1 f3 f4 f5;obtain⟨o,e,c,d⟩:=id st';exact⟨_,rfl,YC (s:={ s with heap:=h',toks:=tk }) e c d (by rcases hty with rfl|rfl<;>decide) ⟨.str ⟨#[z.cps[i]]⟩,H,I1,⟨t',rfl⟩,⟨rfl,_,hx,rfl⟩,⟨st',hg⟩,λb hb=>(hf b hb).1⟩⟩
  rcases hty with rfl|rfl
  ·exact wpAny_pyNext_ascii_item st.1 hx λh' st' sb=>go h' _ _ ⟨_,rfl⟩ st' sb
  ·exact wpAny_pyNext_wide_item st.1 hx λh' st' sb=>go h' _ _ ⟨_,rfl⟩ st' sb
 done:=by
  intro X hP hw hK hc i z8 s σ H E I hf st hg;subst hP hw hK;obtain⟨f0,f1,f2,f3,f4,f5⟩:=hf it (by simp);have hx:z.cps[i]?=none:=BT hg;rcases hty with rfl|rfl
  ·exact wpAny_pyNext_ascii_end (I.ok.hd hc) st.1 hx λh' eb=>⟨rfl,I.turned (t':=s.toks) (λb o hb e=>eb b o hb e) f0 f1 f3 f4 f5⟩
  ·exact wpAny_pyNext_wide_end (I.ok.hd hc) st.1 hx λh' eb=>⟨rfl,I.turned (t':=s.toks) (λb o hb e=>eb b o hb e) f0 f1 f3 f4 f5⟩
 self:=λ_ _ _ _ _ st h=>by
  rcases hty with rfl|rfl
  ·exact wpAny_pyIter_striter_ascii st.1 h
  ·exact wpAny_pyIter_striter_wide st.1 h
theorem dD{e:Expr}{te:TE}(he:PE X e te):PI X tg e (SK te):=by
 intro z8 s σ H R I h;refine zw (he z8 s σ H _ I h) λv s1 ⟨x,H1,I1,r1,q1⟩=>?_
 obtain⟨z,rfl,q⟩:=q1;obtain⟨t,rfl⟩:=(show ∃t,v=Value.str z t from r1)
 have fin:∀(ty:String),(ty = "str_ascii_iterator" \/ ty = "str_iterator")->∀o:Obj,(s1.heap.push o).IsStrIter s1.heap.objs.size ty z t 0->Io X z8 σ tg R (.ref s1.heap.objs.size) { s1 with heap:=s1.heap.push o }:=λty hty o st=>
  ⟨s1.heap.objs.size,[s1.heap.objs.size],_,_,H1,rfl,I1.kept (t':=s1.toks) λb o e=>yx _ e,nZ hty,⟨st,qo _⟩,λb hb=>by
   have e:b=s1.heap.objs.size:=by simpa using hb
   subst e;exact I1.p_ (y0 _) (I1.zj.fresh (y0 _)),q⟩
 cases ha:z.cps.all (·<128)
 ·exact wpAny_pyIter_wide ha (fin _ (.inr rfl) _ ⟨_,wG _ rfl,rfl,rfl⟩)
 ·exact wpAny_pyIter_ascii ha (fin _ (.inl rfl) _ ⟨_,wG _ rfl,rfl,rfl⟩)
end
noncomputable def cutS(z:Str)(lo hi:Option Int):Str:=⟨((z.cps.toList.drop (HT.sIx z.length 0 lo)).take (HT.sIx z.length z.length hi-HT.sIx z.length 0 lo)).toArray⟩
theorem PB(n:Nat)(lo:Option Int):(match lo with|none=>(0:Int)|some i=>max 0 (min (if i<0 then i+(n:Int)else i) (n:Int)))=((HT.sIx n 0 lo:Nat):Int)\/∃i,lo=some i/\i<0/\(n:Int)<i+n:=by
 cases lo with
 |none=>left; rfl
 |some i=>
  left
  show max 0 (min (if i<0 then i+(n:Int)else i) (n:Int))=(((if i<0 then(i+(n:Int)).toNat else min i.toNat n):Nat):Int);by_cases h:i<0
  ·simp only[h,wc]; omega
  ·simp only[h,vZ]; omega
theorem P9(n:Nat)(hi:Option Int):(match hi with|none=>(n:Int)|some i=>max 0 (min (if i<0 then i+(n:Int)else i) (n:Int)))=((HT.sIx n n hi:Nat):Int):=by
 cases hi with
 |none=>rfl
 |some i=>
  show max 0 (min (if i<0 then i+(n:Int)else i) (n:Int))=(((if i<0 then(i+(n:Int)).toNat else min i.toNat n):Nat):Int);by_cases h:i<0
  ·simp only[h,wc]; omega
  ·simp only[h,vZ]; omega
theorem PC(n:Nat)(lo:Option Int):(match lo with|none=>(0:Int)|some i=>max 0 (min (if i<0 then i+(n:Int)else i) (n:Int)))=((HT.sIx n 0 lo:Nat):Int):=by
 rcases PB n lo with h|⟨i,_,h1,h2⟩
 ·exact h
 ·omega
theorem Er(z:Str)(lo hi:Option Int):(strSliceIndices lo hi 1 z.length)=(List.range (HT.sIx z.length z.length hi-HT.sIx z.length 0 lo)).map (HT.sIx z.length 0 lo+·):=by
 have h1:=PC z.length lo;have h2:=P9 z.length hi;rw[<-sliceRange_one,<-h1,<-h2];unfold strSliceIndices;simp only[show(1:Int)>0 by decide,wc];cases lo<;>cases hi<;>rfl
theorem PL(z:Str)(lo hi:Option Int):(⟨((strSliceIndices lo hi 1 z.length).filterMap (z.cps[·]?)).toArray⟩:Str)=cutS z lo hi:=by
 rw[Er,pick_run];rfl
theorem sIx_le(n d:Nat)(hd:d<=n)(v:Option Int):HT.sIx n d v<=n:=by
 cases v with
 |none=>exact hd
 |some i=>
  show(if i<0 then(i+(n:Int)).toNat else min i.toNat n)<=n;by_cases h:i<0
  ·simp only[h,wc]; omega
  ·simp only[h,vZ]; omega
theorem PN(z:Str)(lo hi:Option Int)(h:(strSliceIndices lo hi 1 z.length).length=z.length):cutS z lo hi=z:=by
 rw[Er,yK,pq]at h;have a:=sIx_le z.length 0 (qo _) lo;have b:=sIx_le z.length z.length (y0 _) hi;unfold cutS;rw[h];have hz:HT.sIx z.length 0 lo=0\/z.length=0:=by omega
 have hl:z.cps.toList.length=z.length:=by simp[Str.length]
 rcases hz with q|q
 ·rw[q,J0,<-hl,Za]
 ·have e:z.cps.toList=[]:=List.eq_nil_of_length_eq_zero (by omega);rw[e];simp;cases z with
  |mk c=>simp[Str.length]at q; simp[q]
theorem cut_len(z:Str)(lo hi:Option Int):(cutS z lo hi).length<=z.length:=by
 show(List.toArray _).size<=z.cps.size;rw[yo,qi,Yv,uq];omega
section
variable{X:Cx}
theorem Ek{v:Value}{lo:Option Int}(h:IsPart v lo):∃l:Option (Int×Tok),v=partValue l/\l.map (·.1)=lo:=by
 cases h with
 |none=>exact⟨none,rfl,rfl⟩
 |int i t=>exact⟨some (i,t),rfl,rfl⟩
noncomputable def GN:V->Option Int->Option Int->Hp->VK->Prop:=λx lo hi H Q=>∃z:Str,x=.str z/\z.length<=sizeLine/\Q (.str (cutS z lo hi)) H
theorem iz:pB X GN:=by
 intro z8 s σ H x v vl vu lo hi sl Q I rx hs pl pu h;obtain⟨z,rfl,hz,q⟩:=h;obtain⟨t,rfl⟩:=(show ∃t,v=Value.str z t from rx);obtain⟨l,rfl,rfl⟩:=Ek pl;obtain⟨u,rfl,rfl⟩:=Ek pu;refine⟨"str",_,F.slot_str_getitem.lookup,jW _ _ _,?_⟩;refine wpAny_getItem_str_slice (l:=l) (u:=u) (st:=none) hs rfl ?_;unfold sliceMade;have hp:slicePicked z l u none=strSliceIndices (l.map (·.1)) (u.map (·.1)) 1 z.length:=rfl;rw[hp]
 split
 ·rename_i hc
  have e:(strSliceIndices (l.map (·.1)) (u.map (·.1)) 1 z.length).length=z.length:=by
   rw[xS]at hc;exact JF.mp hc.2
  rw[PN z _ _ e]at q;exact⟨.str z,H,I,⟨_,rfl⟩,q⟩
 ·rw[PL];exact⟨xO (cut_len z _ _) hz,.str _,H,I.tok _,⟨_,rfl⟩,q⟩
end
end L2
namespace L2
open PySem PySem.Spec PyProof.Rows
section
variable{κ:Type}[DecidableEq κ]
noncomputable def uo(kvs:List (κ×V))(k:κ):Option V:=(kvs.find? λkv=>decide (kv.1=k)).map (·.2)
noncomputable def tZ(kvs:List (κ×V))(k:κ)(v:V):List (κ×V):=
 if(kvs.any λkv=>decide (kv.1=k))=true then kvs.map (λkv=>if kv.1=k then(kv.1,v)else kv)else kvs++[(k,v)]
theorem QY{p:κ×V}{r:List (κ×V)}{k:κ}(e:p.1=k):uo (p::r) k=some p.2:=by simp[uo,Yu,e]
theorem QW{p:κ×V}{r:List (κ×V)}{k:κ}(e:¬ p.1=k):uo (p::r) k=uo r k:=by simp[uo,Yu,e]
theorem KA(k:κ):∀kvs:List (κ×V),(kvs.any λkv=>decide (kv.1=k))=(uo kvs k).isSome
 | []=>rfl
 |p::r=>by
  rw[Ys];by_cases e:p.1=k
  ·simp only[QY e,yb e,Bool.true_or,Option.isSome_some]
  ·rw[QW e,yV e,BU]; exact KA k r
theorem CB(kvs:List (κ×V))(k:κ)(v:V):(tZ kvs k v).length<=kvs.length+1:=by
 unfold tZ
 split
 ·rw[yK]; omega
 ·rw[xC,xg,gc]; omega
theorem qH.X6{o:Option V}{u:Option Value}(r:qH o u):o.isSome=u.isSome:=by
 cases o with
 |none=>cases u with
  |none=>rfl
  |some _=>exact(show False from r).elim
 |some _=>cases u with
  |none=>exact(show False from r).elim
  |some _=>rfl
theorem KV.val{kvs:List (κ×V)}{vs:List (κ×Value)}(r:KV kvs vs)(k:κ):qH (uo kvs k) (valueAt vs k):=by
 unfold KV at r
 induction r with
 |nil=>exact True.intro
 |@cons p q ps qs h t ih=>
  obtain⟨h1,h2⟩:=h;by_cases e:p.1=k
  ·have e':q.1=k:=h1.symm.trans e;have b:valueAt (q::qs) k=some q.2:=by simp[valueAt,Yu,e']
   rw[QY e,b]; exact h2
  ·have e':¬ q.1=k:=λz=>e (h1.trans z)
   have b:valueAt (q::qs) k=valueAt qs k:=by simp[valueAt,Yu,e']
   rw[QW e,b]; exact ih
theorem KV.any{kvs:List (κ×V)}{vs:List (κ×Value)}(r:KV kvs vs)(k:κ):(kvs.any λkv=>decide (kv.1=k))=vs.any λkv=>decide (kv.1=k):=by
 unfold KV at r
 induction r with
 |nil=>rfl
 |cons h t ih=>rw[Ys,Ys,ih,h.1]
theorem KV.JS{kvs:List (κ×V)}{vs:List (κ×Value)}(r:KV kvs vs)(k:κ){y:V}{u:Value}(ry:yB y u) :
  KV (kvs.map λkv=>if kv.1=k then(kv.1,y)else kv) (vs.map λkv=>if kv.1=k then(kv.1,u)else kv):=by
 unfold KV at r ⊢
 induction r with
 |nil=>exact .nil
 |@cons p q ps qs h t ih=>
  rw[xY,xY];refine .cons ?_ ih;obtain⟨h1,h2⟩:=h;by_cases e:p.1=k
  ·rw[zP e,zP (h1.symm.trans e)]; exact⟨h1,ry⟩
  ·rw[zV e,zV (λz=>e (h1.trans z))]; exact⟨h1,h2⟩
theorem KV.put{kvs:List (κ×V)}{vs:List (κ×Value)}(r:KV kvs vs)(k:κ){y:V}{u:Value}(ry:yB y u):KV (tZ kvs k y) (stored vs k u):=by
 unfold tZ stored;rw[r.any k];by_cases e:(vs.any λkv=>decide (kv.1=k))=true
 ·rw[zP e,zP e]; exact r.JS k ry
 ·rw[zV e,zV e]; exact Paired.snoc r ⟨rfl,ry⟩
theorem KV.length{kvs:List (κ×V)}{vs:List (κ×Value)}(r:KV kvs vs):kvs.length=vs.length:=Paired.length r
end
theorem YK{P:Program}{w:World}{k:zb}{u:Value}(r:yB (kV k) u):(xr P w).is k u=true:=by
 cases k with
 |inl i=>obtain⟨t,e⟩:=(show ∃t,u=Value.int i t from r); subst e; exact Ab P w i t
 |inr x=>obtain⟨t,e⟩:=(show ∃t,u=Value.str x t from r); subst e; exact LH P w x t
theorem C0{P:Program}{w:World}:∀{ks:List zb}{us:List Value},zz (ks.map kV) us->ItemsAre (xr P w) ks us
 | [],_,r=>by rw[qj]at r; cases r; exact .nil
 |k::ks,_,r=>by
  rw[xY]at r;cases r with
  |cons h t=>exact .cons (YK h) (C0 t)
noncomputable abbrev KT(H:Hp):List (List zb×V)->List (List zb×Addr×Value)->Prop:=Paired λp q=>p.1=q.1/\H q.2.1=some (.tup (p.1.map kV))/\yB p.2 q.2.2
theorem KT.val{H:Hp}{kvs:List (List zb×V)}{xs:List (List zb×Addr×Value)}(r:KT H kvs xs)(k:List zb):qH (uo kvs k) ((atKey xs k).map (·.2)):=by
 induction r with
 |nil=>exact True.intro
 |@cons p q ps qs h t ih=>
  obtain⟨h1,_,h2⟩:=h;by_cases e:p.1=k
  ·have e':q.1=k:=h1.symm.trans e;have b:atKey (q::qs) k=some q.2:=by simp[atKey,Yu,e']
   rw[QY e,b]; exact h2
  ·have e':¬ q.1=k:=λz=>e (h1.trans z)
   have b:atKey (q::qs) k=atKey qs k:=by simp[atKey,Yu,e']
   rw[QW e,b]; exact ih
theorem KT.JS{H:Hp}{kvs:List (List zb×V)}{xs:List (List zb×Addr×Value)}(r:KT H kvs xs)(k:List zb){y:V}{u:Value}(ry:yB y u) :
  KT H (kvs.map λkv=>if kv.1=k then(kv.1,y)else kv) (xs.map (putAt k u)):=by
 induction r with
 |nil=>exact .nil
 |@cons p q ps qs h t ih=>
  rw[xY,xY];refine .cons ?_ ih;obtain⟨h1,h2,h3⟩:=h;unfold putAt;by_cases e:p.1=k
  ·rw[zP e,zP (h1.symm.trans e)]; exact⟨h1,h2,ry⟩
  ·rw[zV e,zV (λz=>e (h1.trans z))]; exact⟨h1,h2,h3⟩
theorem KT.put{H:Hp}{kvs:List (List zb×V)}{xs:List (List zb×Addr×Value)}(r:KT H kvs xs)(k:List zb){b:Addr}{y:V}{u:Value}(hb:H b=some (.tup (k.map kV)))(ry:yB y u) :
  KT H (tZ kvs k y) (storedH xs k b u):=by
 have e:(kvs.any λkv=>decide (kv.1=k))=(atKey xs k).isSome:=by
  rw[KA,(r.val k).X6,By]
 unfold tZ storedH;rw[e];by_cases q:(atKey xs k).isSome=true
 ·rw[zP q,zP q]; exact r.JS k ry
 ·rw[zV q,zV q]; exact Paired.snoc r ⟨rfl,hb,ry⟩
theorem KT.keeps{H H':Hp}{kvs:List (List zb×V)}{xs:List (List zb×Addr×Value)}(r:KT H kvs xs)(ht:∀b ys,H b=some (.tup ys)->H' b=some (.tup ys)):KT H' kvs xs:=
 Paired.JQ r λ_ _ z=>⟨z.1,ht _ _ z.2.1,z.2.2⟩
section
variable{P:Program}{w:World}{H:Hp}{h:Heap}{a:Addr}
theorem GX{u:HO}(ok:xQ P w H h)(e:Rd H a u):xD P w H h a u:=e.ok ok
theorem Xi{kvs:List (zb×V)}(ok:xQ P w H h)(e:Rd H a (.dK kvs)):kvs.length<=sizeLine/\(a==sysModules)=false/\∃vs,KV kvs vs/\h.DictOf (xr P w) a vs:=
 show xD P w H h a (.dK kvs)from GX ok e
theorem RA{kvs:List (zb×V)}(ok:xQ P w H h)(e:H a=some (.dK kvs)):kvs.length<=sizeLine/\(a==sysModules)=false/\∃vs,KV kvs vs/\h.DictOf (xr P w) a vs:=Xi ok (.inl e)
theorem TH{ks:List zb}(ok:xQ P w H h)(e:H a=some (.tup (ks.map kV))):(tupleKind (xr P w)).is h ks a:=by
 obtain⟨_,its,r,o,h1,h2,n,h3⟩:=(show xD P w H h a (.tup (ks.map kV))from ok a _ e);exact⟨o,its.toArray,n,h1,h2,h3,by simpa using C0 r⟩
theorem U9{kvs:List (List zb×V)}(ok:xQ P w H h)(e:Rd H a (.dT kvs)):kvs.length<=sizeLine/\(a==sysModules)=false/\
  ∃xs,KT H kvs xs/\h.DictOfH (tupleKind (xr P w)) a xs:=by
 obtain⟨z,y,xs,r,o,es,ep,h1,h2,h3,h4,h5⟩:=(show xD P w H h a (.dT kvs)from GX ok e);refine⟨z,y,xs,r,o,es,ep,h1,h2,h3,h4,λx hx=>?_,h5⟩
 have all:∀{l:List (List zb×V)} {m:List (List zb×Addr×Value)},KT H l m->∀x∈m,(tupleKind (xr P w)).is h x.1 x.2.1:=by
  intro l m q
  induction q with
  |nil=>intro x hx; exact nomatch hx
  |@cons p q ps qs hq t ih=>
   intro x hx;rcases xN.mp hx with e|hx
   ·subst e;exact TH ok (by rw[<-hq.1]; exact hq.2.1)
   ·exact ih x hx
 exact all r x hx
theorem RB{kvs:List (List zb×V)}(ok:xQ P w H h)(e:H a=some (.dT kvs)):kvs.length<=sizeLine/\(a==sysModules)=false/\
  ∃xs,KT H kvs xs/\h.DictOfH (tupleKind (xr P w)) a xs:=U9 ok (.inl e)
end
noncomputable def JW(H:Hp)(a:Addr)(y:V)(r:Option V):Prop:=
 (∃kvs k,Rd H a (.dK kvs)/\y=kV k/\r=uo kvs k)\/∃kvs k b,Rd H a (.dT kvs)/\y=.ref b/\H b=some (.tup (k.map kV))/\r=uo kvs k
noncomputable def DI(H:Hp)(a:Addr)(y v:V)(H':Hp):Prop:=
 (∃kvs k,H a=some (.dK kvs)/\y=kV k/\kvs.length<sizeLine/\H'=zc H a (.dK (tZ kvs k v))) \/
 ∃kvs k b,H a=some (.dT kvs)/\y=.ref b/\H b=some (.tup (k.map kV))/\kvs.length<sizeLine/\H'=zc H a (.dT (tZ kvs k v))
section
variable{X:Cx}{z8:List (Addr×Obj)}{σ:St}{H:Hp}{s:Shared}{a:Addr}{y v:V}{u r:Value}{o:Option V}{A:Around}{E:Value->Shared->Prop}
theorem Inv.big(I:Inv X z8 σ H s):sysModules<s.heap.objs.size:=by
 have h:mainGlobals<s.heap.objs.size:=(I.mod.glob.keeps I.bk).lt;exact Nat.lt_trans (by decide) h
theorem Pv{Q:Value->Shared->Prop}(hu:A.units+1<cLine)(I:Inv X z8 σ H s)(g:JW H a y o)(ry:yB y u)(h:∀s',Inv X z8 σ H s'->Q (.bool o.isSome) s') :
  wpAny (model X.prog X.w) A (compareOp .In u (.ref a)) Q E s:=by
 rcases g with⟨kvs,k,e,ey,l⟩|⟨kvs,k,b,e,ey,eb,l⟩
 ·subst ey;obtain⟨z,hd,vs,rel,dd⟩:=Xi I.zj e;refine wpAny_in_of (YK ry) hd dd.mapOf ?_;rw[<-(rel.val k).X6,<-l];exact h _ (I.tok _)
 ·subst ey;cases(show u=Value.ref b from ry);obtain⟨z,hd,xs,rel,dd⟩:=U9 I.zj e;refine wpAny_in_heap (D3 hu) (TH I.zj eb) hd dd ?_;have q:=(rel.val k).X6;rw[By]at q;rw[<-q,<-l];exact h _ (I.tok _)
theorem Pw{Q:Value->Shared->Prop}(hu:A.units+1<cLine)(I:Inv X z8 σ H s)(g:JW H a y o)(ry:yB y u)(h:∀s',Inv X z8 σ H s'->Q (.bool (!o.isSome)) s') :
  wpAny (model X.prog X.w) A (compareOp .NotIn u (.ref a)) Q E s:=by
 rcases g with⟨kvs,k,e,ey,l⟩|⟨kvs,k,b,e,ey,eb,l⟩
 ·subst ey;obtain⟨z,hd,vs,rel,dd⟩:=Xi I.zj e;refine wpAny_notIn_of (YK ry) hd dd.mapOf ?_;rw[<-(rel.val k).X6,<-l];exact h _ (I.tok _)
 ·subst ey;cases(show u=Value.ref b from ry);obtain⟨z,hd,xs,rel,dd⟩:=U9 I.zj e;refine wpAny_notIn_heap (D3 hu) (TH I.zj eb) hd dd ?_;have q:=(rel.val k).X6;rw[By]at q;rw[<-q,<-l];exact h _ (I.tok _)
theorem Dw{h':Heap}{t':Nat}{ob:HO}(I:Inv X z8 σ H s)(mu:XW (H a))(hs:Heap.SameBut a s.heap h')(he:∃q,h'.get? a=some q)(new:xD X.prog X.w (zc H a ob) h' a ob) :
  Inv X z8 σ (zc H a ob) { s with heap:=h',toks:=t' }:=
 I.write (x:=a) (e:=a) mu (.inl rfl) (λb q hb z=>(hs.2 b hb).trans z) he new
theorem R9{P:Program}{w:World}{H':Hp}{h':Heap}{kvs:List (zb×V)}{vs:List (zb×Value)}(z:kvs.length<=sizeLine)(hd:(a==sysModules)=false)(rel:KV kvs vs)(dd:h'.DictOf (xr P w) a vs) :
  xD P w H' h' a (.dK kvs):=⟨z,hd,vs,rel,dd⟩
theorem Px{H':Hp}{Q:Unit->Shared->Prop}(hu:A.units+1<cLine)(I:Inv X z8 σ H s)(g:DI H a y v H')(ry:yB y u)(rv:yB v r)(h:∀s',Inv X z8 σ H' s'->Q () s') :
  wpAny (model X.prog X.w) A (setItem (.ref a) u r) Q E s:=by
 rcases g with⟨kvs,k,e,ey,l,eH⟩|⟨kvs,k,b,e,ey,eb,l,eH⟩
 ·subst ey eH;obtain⟨z,hd,vs,rel,dd⟩:=RA I.zj e;have hz:vs.length<=sizeLine:=by rw[<-rel.length]; exact z
  have hl:(tZ kvs k v).length<=sizeLine:=by have:=CB kvs k v; omega
  refine wpAny_setItem_pairs (hsz:=hz) (YK ry) dd λh' dd' hs=>h _ ?_
  have he:∃q,h'.get? a=some q:=let ⟨q,_,_,hq,_⟩:=dd'; ⟨q,hq⟩;exact Dw I (by rw[e]; exact True.intro) hs he (R9 hl hd (rel.put k rv) dd')
 ·subst ey eH;cases(show u=Value.ref b from ry);obtain⟨z,hd,xs,rel,dd⟩:=RB I.zj e;have hz:xs.length<=sizeLine:=by rw[<-Paired.length rel]; exact z
  have hl:(tZ kvs k v).length<=sizeLine:=by have:=CB kvs k v; omega
  refine wpAny_setItem_heap (hsz:=hz) (D3 hu) (TH I.zj eb) dd λh' dd' hs=>h _ ?_
  obtain⟨q,es,ep,hq,h2,h3,h4,_,h5⟩:=dd';refine Dw I (by rw[e]; exact True.intro) hs ⟨q,hq⟩ ⟨hl,hd,_,(rel.put k eb rv).keeps λc ys ec=>?_,q,es,ep,hq,h2,h3,h4,h5⟩;rw[yE (aZ ec e (λz=>nomatch z))];exact ec
end
theorem R7{X:Cx}{z8:List (Addr×Obj)}{σ:St}{H:Hp}{s:Shared}{a:Addr}{y:V}{o:Option V}(I:Inv X z8 σ H s)(g:JW H a y o):s.TypeIs (.ref a) "dict" := by
 rcases g with⟨kvs,k,e,_,_⟩|⟨kvs,k,b,e,_,_,_⟩
 ·obtain⟨_,_,vs,_,dd⟩:=Xi I.zj e;exact dd.typeIs
 ·obtain⟨_,_,xs,_,dd⟩:=U9 I.zj e;exact dd.typeIs
noncomputable def fN(td ty tv:TE):TS:=λD σ H=>tv σ H λv H1=>td σ H1 λx H2=>ty σ H2 λy H3=>∃a H4,x=.ref a/\DI H3 a y v H4/\D.nx σ H4
section
variable{X:Cx}{o i e value:Expr}{pos pos' tpos:Pos}{td ty tv:TE}
theorem dZ(hu:X.A.units+1<cLine)(ho:PE X o td)(hi:PE X i ty)(hv:PE X value tv)(hs:swapsWith value (some (.Subscript o i pos')) pos.line X.env=pure false) :
  PS X (.Assign [.Subscript o i pos'] value pos) (fN td ty tv):=by
 intro z8 s σ H D I h;refine wpAny_Assign_Subscript (zw (hv z8 s σ H _ I h) λr s1 ⟨v,H1,I1,rv,q1⟩=>zw (ho z8 s1 σ H1 _ I1 q1) λu s2 ⟨x,H2,I2,rx,q2⟩=>zw (hi z8 s2 σ H2 _ I2 q2) λiv s3 ⟨y,H3,I3,ry,a,H4,ex,g,q3⟩=>?_) hs;subst ex;obtain rfl:u=Value.ref a:=rx;exact Px hu I3 g ry rv λs4 I4=>⟨σ,H4,I4,q3⟩
end
theorem R8{P:Program}{w:World}{H:Hp}(h:Heap)(hb:sysModules<h.objs.size):xD P w H (h.push { cls:=.type "dict",data:=.dict #[] }) h.objs.size (.dK []):=
 ⟨qo _,JE.mpr (qp (u7 hb)),[],.nil,Heap.DictOf.new h⟩
noncomputable def lN:TE:=λ_ H Q=>∀p,H p=none->Q (.ref p) (zc H p (.dK []))
section
variable{X:Cx}{pos:Pos}
theorem ce:PE X (.Dict [] [] pos) lN:=λz8 s σ H Q I h=>
 wpAny_Dict_empty ⟨.ref s.heap.objs.size,_,I.laid (a:=s.heap.objs.size) (o:=.dK []) (t':=s.toks) (λ_ _ q=>yx _ q) (y0 _) (R8 s.heap I.big),rfl,h _ (I.zj.fresh (y0 _))⟩
end
noncomputable abbrev VV:List (V×V)->List (Value×Value)->Prop:=Paired λp q=>yB p.1 q.1/\yB p.2 q.2
end L2
namespace L3
open PySem
inductive D where
 |zD|bl (b:Bool)|int (i:Int)|str (x:Str)|tup (xs:List D)|lst (xs:List D)|dic (ks:List (Sum Int Str)) (vs:List D)|exc (x:Str)|obj (x:Str) (fs:List Str) (vs:List D)
theorem D.ind{P:D->Prop}(zD:P .zD)(bl:∀b,P (.bl b))(int:∀i,P (.int i))(str:∀x,P (.str x))(tup:∀xs,(∀d∈xs,P d)->P (.tup xs))(lst:∀xs,(∀d∈xs,P d)->P (.lst xs))
  (dic:∀ks xs,(∀d∈xs,P d)->P (.dic ks xs))(exc:∀x,P (.exc x))(obj:∀x fs xs,(∀d∈xs,P d)->P (.obj x fs xs))(d:D):P d:=
 D.rec (motive_1:=P) (motive_2:=λds=>∀d∈ds,P d) zD bl int str (λxs h=>tup xs h) (λxs h=>lst xs h) (λks xs h=>dic ks xs h) exc (λx fs xs h=>obj x fs xs h) (λ_ h=>absurd h (by simp))
  (λd ds hd hds e he=>by
   rcases xN.mp he with z|z
   ·exact z▸hd
   ·exact hds e z) d
mutual
noncomputable def yt:D->D->Bool
 |.zD,.zD=>true
 |.bl a,.bl b=>a==b
 |.bl a,.int b=>(if a then 1 else 0)==b
 |.int a,.bl b=>a==(if b then 1 else 0)
 |.int a,.int b=>a==b
 |.str a,.str b=>a==b
 |.tup xs,.tup ys=>dEqs xs ys
 |.lst xs,.lst ys=>dEqs xs ys
 |_,_=>false
noncomputable def dEqs:List D->List D->Bool
 | [],[]=>true
 |x::xs,y::ys=>yt x y&&dEqs xs ys
 |_,_=>false
end
noncomputable abbrev Sl:=Bool×D
noncomputable abbrev yT:=List (Option Sl)
noncomputable abbrev FE:=yT->Option D
noncomputable abbrev FT:=yT->Option Bool
noncomputable abbrev FA:=yT->Option (List D)
noncomputable abbrev FG:=D->yT->Option yT
inductive Fl where
 |nx (σ:yT)|rt (o:Bool) (d:D)|bk (σ:yT)|ct (σ:yT)
noncomputable abbrev FS:=yT->Option Fl
noncomputable abbrev yR:Nat:=16777216
noncomputable def z7(i:Nat):FE:=λσ=>match σ[i]? with
 |some (some (false,d))=>some d
 |_=>none
noncomputable def vt(i:Nat):FE:=λσ=>match σ[i]? with
 |some (some (_,d))=>some d
 |_=>none
noncomputable def eC(d:D):FE:=λ_=>some d
noncomputable def e1(F:D->Option D)(a:FE):FE:=λσ=>(a σ).bind F
noncomputable def e2(F:D->D->Option D)(a b:FE):FE:=λσ=>(a σ).bind λx=>(b σ).bind λy=>F x y
noncomputable def eL(F:List D->Option D)(a:FA):FE:=λσ=>(a σ).bind F
noncomputable def zF:FA:=λ_=>some []
noncomputable def zB(a:FE)(r:FA):FA:=λσ=>(a σ).bind λx=>(r σ).bind λxs=>some (x::xs)
noncomputable def k5:D->Option Bool
 |.bl b=>some b
 |_=>none
noncomputable def tE(a:FE):FT:=λσ=>(a σ).bind k5
noncomputable def ZO(a b:FT):FT:=λσ=>(a σ).bind λk=>match k with
 |true=>b σ
 |false=>some false
noncomputable def tG(a b:FT):FT:=λσ=>(a σ).bind λk=>match k with
 |true=>some true
 |false=>b σ
noncomputable def ZP(a:FT):FT:=λσ=>(a σ).bind λk=>some (!k)
noncomputable def F0(a b:FE):FE:=λσ=>(a σ).bind λx=>(k5 x).bind λk=>match k with
 |true=>b σ
 |false=>some (.bl false)
noncomputable def F3(a b:FE):FE:=λσ=>(a σ).bind λx=>(k5 x).bind λk=>match k with
 |true=>some (.bl true)
 |false=>b σ
noncomputable def F2(a:FE):FE:=λσ=>(a σ).bind λx=>(k5 x).bind λk=>some (.bl (!k))
noncomputable def qM(c:FT)(a b:FE):FE:=λσ=>(c σ).bind λk=>match k with
 |true=>a σ
 |false=>b σ
noncomputable def yq(a:FA):FE:=λσ=>(a σ).bind λxs=>some (.tup xs)
noncomputable def ym(a:FA):FE:=λσ=>(a σ).bind λxs=>some (.lst xs)
noncomputable def zm:D->D->Option D
 |.int i,.int j=>some (.int (i+j))
 |.int i,.bl b=>some (.int (i+(if b then 1 else 0)))
 |.str x,.str y=>if x.length+y.length<=yR then some (.str (x++y))else none
 |.lst x,.lst y=>if x.length+y.length<=yR then some (.lst (x++y))else none
 |.tup x,.tup y=>if x.isEmpty=false/\x.length+y.length<=yR then some (.tup (x++y))else none
 |_,_=>none
noncomputable def fI(C:Int->Int->Bool)(g:Int->Int->Int):D->D->Option D
 |.int i,.int j=>match C i j with
  |true=>some (.int (g i j))
  |false=>none
 |_,_=>none
noncomputable def wY:D->D->Option D
 |.int i,.int j=>some (.int (i-j))
 |_,_=>none
noncomputable def vC(i:Int):Bool:=decide (-(2 ^ 64)<i)&&decide (i<2 ^ 64)
noncomputable def Xk:D->D->Option D:=fI (λi _=>vC i) (·*·)
noncomputable def qP:D->D->Option D:=fI (λ_ j=>vC j) (·*·)
noncomputable def yL:D->D->Option D:=fI (λ_ j=>decide (0<j)) (· % ·)
noncomputable def xR:D->D->Option D:=fI (λ_ j=>decide (0<j)&&decide (j<2 ^ 64)) (· / ·)
noncomputable def wJ(i j:Int):Bool:=decide (0<=j)&&(decide (j<=1000000)&&decide (i.natAbs<2 ^ 64))
noncomputable def uD:D->D->Option D:=fI wJ λi j=>i ^ j.toNat
noncomputable def g8:D->D->Option D:=fI wJ λi j=>i*2 ^ j.toNat
noncomputable def UJ:D->D->Option D:=fI (λ_ j=>decide (0<=j)) λi j=>i/2 ^ j.toNat
noncomputable def qN(g:Int->Int->Int):D->D->Option D
 |.int i,.int j=>some (.int (g i j))
 |_,_=>none
noncomputable def wf:D->Option D
 |.int i=>some (.int (-i))
 |_=>none
noncomputable def Of:D->Option D
 |.int i=>some (.int (Builtin.bitNot i))
 |_=>none
noncomputable def xE(g:Int->Int->Bool):D->D->Option D
 |.int i,.int j=>some (.bl (g i j))
 |_,_=>none
noncomputable def ku:D->Bool
 |.zD=>true
 |_=>false
noncomputable def Y5:D->D->Option D
 |x,.zD=>some (.bl (ku x))
 |_,_=>none
noncomputable def kF:D->D->Option D
 |x,.zD=>some (.bl (!ku x))
 |_,_=>none
noncomputable def yY:D->Bool
 |.zD=>true
 |.bl _=>true
 |.int _=>true
 |.str _=>true
 |_=>false
noncomputable def t5(f:D->D->Bool):List D->List D->Bool
 |x::xs,y::ys=>f x y&&t5 f xs ys
 |_,_=>true
noncomputable def vJ:Nat->D->D->Bool
 |0,_,_=>false
 |n+1,x,y=>match x,y with
  |.tup xs,.tup ys=>t5 (vJ n) xs ys
  |.lst xs,.lst ys=>t5 (vJ n) xs ys
  |x,y=>yY x&&yY y
noncomputable def jC:D->D->Option Bool
 |.int _,.bl _=>none
 |.bl _,.int _=>none
 |x,y=>match vJ 6 x y with
  |true=>some (yt x y)
  |false=>none
noncomputable def zo(x y:D):Option D:=(jC x y).bind λk=>some (.bl k)
noncomputable def xA(x y:D):Option D:=(jC x y).bind λk=>some (.bl (!k))
noncomputable def YL:D->Option (Sum Int Str)
 |.int i=>some (.inl i)
 |.str x=>some (.inr x)
 |_=>none
noncomputable def getK{α:Type}:List (Sum Int Str)->List α->Sum Int Str->Option α
 |k'::ks,v::vs,k=>if k'=k then some v else getK ks vs k
 |_,_,_=>none
noncomputable def wB(ks:List (Sum Int Str))(k:Sum Int Str):Bool:=ks.any λj=>decide (j=k)
noncomputable def uh(ks:List (Sum Int Str))(k:Sum Int Str):List (Sum Int Str):=if wB ks k=true then ks else ks++[k]
noncomputable def vW{α:Type}(ks:List (Sum Int Str))(vs:List α)(k:Sum Int Str)(v:α):List α:=if wB ks k=true then List.zipWith (λk' x=>if k'=k then v else x) ks vs else vs++[v]
noncomputable def jD(x:D):D->Option Bool
 |.lst ys=>match yY x&&ys.all yY with
  |true=>some (ys.any λy=>yt y x)
  |false=>none
 |.tup ys=>match yY x&&ys.all yY with
  |true=>some (ys.any λy=>yt y x)
  |false=>none
 |.str j=>match x with
  |.str i=>some (!(Builtin.Str.occurrences j i 0 j.length 1).isEmpty)
  |_=>none
 |.dic ks _=>(YL x).bind λk=>some (wB ks k)
 |_=>none
noncomputable def yu(x y:D):Option D:=(jD x y).bind λk=>some (.bl k)
noncomputable def kE(x y:D):Option D:=(jD x y).bind λk=>some (.bl (!k))
noncomputable def vH{α:Type}(xs:List α)(i:Int):Option α:=if 0<=i then xs[i.toNat]? else if -(xs.length:Int)<=i then xs[(i+xs.length).toNat]? else none
noncomputable def zI:D->D->Option D
 |.lst xs,.int i=>vH xs i
 |.tup xs,.int i=>vH xs i
 |.str z,.int i=>(vH z.cps.toList i).bind λc=>some (.str ⟨#[c]⟩)
 |.dic ks vs,k=>(YL k).bind λk=>getK ks vs k
 |_,_=>none
noncomputable def xq:List D->Option D
 | [.lst xs]=>some (.int xs.length)
 | [.tup xs]=>some (.int xs.length)
 | [.str z]=>some (.int z.length)
 |_=>none
noncomputable def UG:List D->Option D
 | [.int i,.int j]=>some (.int (if j>i then j else i))
 |_=>none
noncomputable def UH:List D->Option D
 | [.int i,.int j]=>some (.int (if j<i then j else i))
 |_=>none
noncomputable def qO:List D->Option D
 | [.int i]=>some (.int i)
 | [.bl k]=>some (.int (if k then 1 else 0))
 |_=>none
inductive ju where
 |int|bool|str|list|tuple
noncomputable def ju.nm:ju->String
 |.int => "int"
 |.bool => "bool"
 |.str => "str"
 |.list => "list"
 |.tuple => "tuple"
noncomputable def kx:ju->D->Option Bool
 |_,.dic _ _=>none
 |_,.exc _=>none
 |_,.obj _ _ _=>none
 |.int,.int _=>some true
 |.int,.bl _=>some true
 |.int,_=>some false
 |.bool,.bl _=>some true
 |.bool,_=>some false
 |.str,.str _=>some true
 |.str,_=>some false
 |.list,.lst _=>some true
 |.list,_=>some false
 |.tuple,.tup _=>some true
 |.tuple,_=>some false
noncomputable def g7(T:ju)(a:FE):FE:=λτ=>(a τ).bind λd=>(kx T d).bind λb=>some (.bl b)
noncomputable def vy(a:FE):FA:=λσ=>(a σ).bind λd=>match d with
 |.lst xs=>some xs
 |.tup xs=>some xs
 |.str z=>some (z.cps.toList.map λc=>.str ⟨#[c]⟩)
 |_=>none
noncomputable def uZ(lo hi:FE):FA:=λσ=>(lo σ).bind λx=>(hi σ).bind λy=>match x,y with
 |.int i,.int j=>if i.natAbs<=yR/\j.natAbs<=yR/\(j-i).toNat<=yR then some ((List.range (j-i).toNat).map λk:Nat=>.int (i+k))else none
 |_,_=>none
noncomputable def yD(i:Nat):FG:=λd σ=>some (σ.set i (some (false,d)))
noncomputable def vV(i j:Nat):FG:=λd σ=>match d with
 |.tup [x,y]=>some ((σ.set i (some (false,x))).set j (some (false,y)))
 |_=>none
noncomputable def yJ:FS:=λσ=>some (.nx σ)
noncomputable def zK(a b:FS):FS:=λσ=>(a σ).bind λf=>match f with
 |.nx σ'=>b σ'
 |f=>some f
noncomputable def zY(i:Nat)(e:FE):FS:=λσ=>(e σ).bind λd=>some (.nx (σ.set i (some (false,d))))
noncomputable def vX(i:Nat)(e:FE):FS:=λσ=>(e σ).bind λd=>some (.nx (σ.set i (some (true,d))))
noncomputable def zr(e:FE):FS:=λσ=>(e σ).bind λd=>some (.rt false d)
noncomputable def gO(e:FE):FS:=λσ=>(e σ).bind λd=>some (.rt true d)
noncomputable def qZ(i:Nat):FS:=λσ=>match σ[i]? with
 |some (some (true,d))=>some (.rt true d)
 |_=>none
noncomputable def zt(c:FT)(a b:FS):FS:=λσ=>(c σ).bind λk=>match k with
 |true=>a σ
 |false=>b σ
noncomputable def ub(g:FG)(b:FS):List D->yT->Option Fl
 | [],σ=>some (.nx σ)
 |d::r,σ=>(g d σ).bind λσ1=>(b σ1).bind λf=>match f with
  |.nx σ2=>ub g b r σ2
  |.ct σ2=>ub g b r σ2
  |.bk σ2=>some (.nx σ2)
  |.rt o d=>some (.rt o d)
noncomputable def wm(it:FA)(g:FG)(b:FS):FS:=λσ=>(it σ).bind λds=>ub g b ds σ
noncomputable def uO(c:FT)(b:FS):Nat->yT->Option Fl
 |0,_=>none
 |n+1,σ=>(c σ).bind λk=>match k with
  |false=>some (.nx σ)
  |true=>(b σ).bind λf=>match f with
   |.nx σ2=>uO c b n σ2
   |.ct σ2=>uO c b n σ2
   |.bk σ2=>some (.nx σ2)
   |.rt o d=>some (.rt o d)
noncomputable def Vg:Nat:=100000000
noncomputable def WT(c:FT)(b:FS):FS:=λσ=>uO c b Vg σ
noncomputable def qY(i:Nat):FS:=λσ=>match σ[i]? with
 |some (some (_,d))=>some (.nx (σ.set i (some (false,d))))
 |_=>none
noncomputable def Gh(i:Nat)(F:D->Option D):FS:=λσ=>match σ[i]? with
 |some (some (true,d))=>(F d).bind λd'=>some (.nx (σ.set i (some (true,d'))))
 |_=>none
noncomputable def wK(i:Nat)(F:D->D->Option D)(e:FE):FS:=λσ=>match σ[i]? with
 |some (some (true,d))=>(e σ).bind λx=>(F d x).bind λd'=>some (.nx (σ.set i (some (true,d'))))
 |_=>none
noncomputable def xj:D->D->Option D
 |.lst xs,y=>if xs.length<yR then some (.lst (xs++[y]))else none
 |_,_=>none
noncomputable def ZE(i:Nat)(k v:FE):FS:=λσ=>(v σ).bind λy=>match σ[i]? with
 |some (some (true,.dic ks ds))=>(k σ).bind λx=>(YL x).bind λx=>if ks.length<yR then some (.nx (σ.set i (some (true,.dic (uh ks x) (vW ks ds x y)))))else none
 |_=>none
noncomputable def xZ(ks:List (Sum Int Str))(ds:List D)(x:D):Option D:=(YL x).bind λk=>getK ks ds k
noncomputable def tU(F F':D->D->Option D)(a b c:FE):FE:=λτ=>(a τ).bind λx=>(b τ).bind λy=>(F x y).bind λk=>(k5 k).bind λk=>match k with
 |true=>(c τ).bind λz=>F' y z
 |false=>some (.bl false)
noncomputable def xI(g:FG)(c:FT)(e:FE)(σ:yT):List D->Option (List D)
 | []=>some []
 |d::r=>(g d σ).bind λσ1=>(c σ1).bind λk=>match k with
  |true=>(e σ1).bind λx=>(xI g c e σ r).bind λxs=>some (x::xs)
  |false=>xI g c e σ r
noncomputable def xP:FT:=λ_=>some true
noncomputable def wx(n:Nat)(it:FA)(g:FG)(c:FT)(e:FE):FE:=λσ=>(it σ).bind λds=>(xI g c e (σ++List.replicate n none) ds).bind λxs=>some (.lst xs)
noncomputable def ya(n:Nat)(b:FS)(ds:List D):Option (Bool×D):=(b (ds.map (λd=>some (false,d))++List.replicate (n-ds.length) none)).bind λf=>match f with
 |.rt o d=>some (o,d)
 |.nx _=>some (false,.zD)
 |_=>none
noncomputable def za(F:List D->Option (Bool×D))(a:FA):FE:=λσ=>(a σ).bind λds=>(F ds).bind λr=>some r.2
noncomputable def g6(F:List D->Option (Bool×D))(a:FA):FE:=λσ=>(a σ).bind λds=>(F ds).bind λr=>match r with
 |(true,d)=>some d
 |_=>none
noncomputable def Oa(F:List D->Option (Bool×D))(a:FA):FE:=λσ=>(za F a σ).bind λd=>if yY d=true then some d else none
open PySem.Spec PyProof.Rows L2
noncomputable abbrev St:=L2.St
noncomputable def ND(_:W.Frag)(H:Hp)(a:Addr)(kvs:List (zb×V)):Prop:=Rd H a (.dK kvs)
mutual
noncomputable def zf(K:W.Frag)(H:Hp):D->V->Prop
 |.zD,v=>v=.zD
 |.bl b,v=>v=.bl b
 |.int i,v=>v=.int i
 |.str x,v=>v=.str x/\x.length<=sizeLine
 |.tup ds,v=>∃a vs,v=.ref a/\xH K H a vs/\Reps K H ds vs/\ds.length<=sizeLine
 |.lst ds,v=>∃a vs,v=.ref a/\yj K H a vs/\Reps K H ds vs/\ds.length<=sizeLine
 |.dic ks ds,v=>∃a vs,v=.ref a/\ND K H a (ks.zip vs)/\ks.length=vs.length/\Reps K H ds vs/\ds.length<=sizeLine
 |.exc x,v=>∃a C,v=.ref a/\W.nsIn K mainGlobals x=some (some (.ref C))/\H a=some (.ext (NA a C))
 |.obj x fs ds,v=>∃a C dx vs,v=.ref a/\W.nsIn K mainGlobals x=some (some (.ref C))/\H a=some (.ins C dx (fs.zip vs))/\fs.length=vs.length/\Reps K H ds vs
noncomputable def Reps(K:W.Frag)(H:Hp):List D->List V->Prop
 | [],vs=>vs=[]
 |d::ds,vs=>∃v r,vs=v::r/\zf K H d v/\Reps K H ds r
end
section
variable{K:W.Frag}{G H H':Hp}
theorem Rd.mono{a:Addr}{u:HO}(s:yc H H')(h:Rd H a u):Rd H' a u:=by
 rcases h with h|⟨o,h⟩
 ·exact .inl (s _ _ h)
 ·exact .inr ⟨o,s _ _ h⟩
theorem vh{a:Addr}{xs:List V}(s:yc H H')(h:xH K H a xs):xH K H' a xs:=by
 rcases h with h|h
 ·exact .inl (Rd.mono s h)
 ·exact .inr h
theorem wZ{a:Addr}{xs:List V}(s:yc H H')(h:yj K H a xs):yj K H' a xs:=by
 rcases h with h|h
 ·exact .inl (Rd.mono s h)
 ·exact .inr h
theorem Reps.imp:∀{ds:List D}{vs:List V},(∀d∈ds,∀v,zf K H d v->zf K H' d v)->Reps K H ds vs->Reps K H' ds vs
 | [],_,_,h=>h
 |d::ds,vs,f,h=>by
  obtain⟨v,r,rfl,hv,hr⟩:=h;exact⟨v,r,rfl,f d xh v hv,Reps.imp (λd' m=>f d' (wN _ m)) hr⟩
theorem zf.mono(s:yc H H'):∀{d:D}{v:V},zf K H d v->zf K H' d v:=λ{d}=>by
 refine D.ind (P:=λd=>∀v,zf K H d v->zf K H' d v) (λv h=>h) (λb v h=>h) (λi v h=>h) (λx v h=>h) ?_ ?_ ?_ ?_ ?_ d _
 ·rintro xs ih v ⟨a,vs,e,q,r,l⟩;exact⟨a,vs,e,vh s q,Reps.imp ih r,l⟩
 ·rintro xs ih v ⟨a,vs,e,q,r,l⟩;exact⟨a,vs,e,wZ s q,Reps.imp ih r,l⟩
 ·rintro ks xs ih v ⟨a,vs,e,q,z,r,l⟩;exact⟨a,vs,e,Rd.mono s q,z,Reps.imp ih r,l⟩
 ·rintro x v ⟨a,C,e,n,h⟩;exact⟨a,C,e,n,s _ _ h⟩
 ·rintro x fs xs ih v ⟨a,C,dx,vs,e,n,h,l,r⟩;exact⟨a,C,dx,vs,e,n,s _ _ h,l,Reps.imp ih r⟩
theorem Reps.mono(s:yc H H'){ds:List D}{vs:List V}(h:Reps K H ds vs):Reps K H' ds vs:=Reps.imp (λ_ _ _=>zf.mono s) h
theorem Reps.length:∀{ds:List D}{vs:List V},Reps K H ds vs->vs.length=ds.length
 | [],_,h=>by cases(show _=[]from h); rfl
 |d::ds,_,h=>by
  obtain⟨v,r,rfl,_,hr⟩:=h;rw[xg,xg,Reps.length hr]
theorem Reps.get:∀{ds:List D}{vs:List V}{i:Nat}{d:D},Reps K H ds vs->ds[i]?=some d->∃v,vs[i]?=some v/\zf K H d v
 | [],_,_,_,_,e=>by cases e
 |d::ds,_,0,_,h,e=>by
  obtain⟨v,r,rfl,hv,hr⟩:=h;cases e;exact⟨v,rfl,hv⟩
 |d::ds,_,i+1,d',h,e=>by
  obtain⟨v,r,rfl,hv,hr⟩:=h;exact Reps.get (i:=i) hr (by simpa using e)
theorem Reps.at{ds:List D}{vs:List V}{i:Nat}{v:V}(h:Reps K H ds vs)(e:vs[i]?=some v):∃d,ds[i]?=some d/\zf K H d v:=by
 have l:=h.length;have hi:i<ds.length:=by rw[<-l]; exact(xT.mp e).1
 obtain⟨v',e',r⟩:=h.get (yf hi);rw[e]at e';cases e';exact⟨_,yf hi,r⟩
theorem Reps.append:∀{ds es:List D}{vs us:List V},Reps K H ds vs->Reps K H es us->Reps K H (ds++es) (vs++us)
 | [],_,_,_,h,g=>by cases(show _=[]from h); exact g
 |d::ds,_,_,_,h,g=>by
  obtain⟨v,r,rfl,hv,hr⟩:=h;exact⟨v,_,rfl,hv,Reps.append hr g⟩
theorem Reps.one{d:D}{v:V}(h:zf K H d v):Reps K H [d] [v]:=⟨v,[],rfl,h,rfl⟩
theorem Reps.take:∀{ds:List D}{vs:List V}(n:Nat),Reps K H ds vs->Reps K H (ds.take n) (vs.take n)
 |_,_,0,_=>by rw[List.take_zero,List.take_zero]; rfl
 | [],_,n+1,h=>by cases(show _=[]from h); rfl
 |d::ds,_,n+1,h=>by
  obtain⟨v,r,rfl,hv,hr⟩:=h;exact⟨v,_,rfl,hv,Reps.take n hr⟩
theorem Reps.drop:∀{ds:List D}{vs:List V}(n:Nat),Reps K H ds vs->Reps K H (ds.drop n) (vs.drop n)
 |_,_,0,h=>h
 | [],_,n+1,h=>by cases(show _=[]from h); rfl
 |d::ds,_,n+1,h=>by
  obtain⟨v,r,rfl,hv,hr⟩:=h;exact Reps.drop n hr
theorem Reps.ints:∀{ns:List Int},Reps K H (ns.map D.int) (ns.map V.int)
 | []=>rfl
 |n::ns=>⟨_,_,rfl,rfl,Reps.ints⟩
end
structure zW(G H G' H':Hp):Prop where
 g:yc G G'
 h:yc H H'
 gh:yc G' H'
 new:∀p,G' p≠none->G p≠none\/H p=none
section
variable{G H G' H' G0 H0 G1 H1 G2 H2:Hp}{p:Addr}{o:HO}
theorem zW.refl(s:yc G H):zW G H G H:=⟨yc.refl _,yc.refl _,s,λ_ h=>.inl h⟩
theorem zW.trans(a:zW G H G1 H1)(b:zW G1 H1 G2 H2):zW G H G2 H2:=⟨a.g.trans b.g,a.h.trans b.h,b.gh,λp h=>by
 rcases b.new p h with z|z
 ·exact a.new p z
 ·exact .inr (a.h.free z)⟩
theorem zW.rebase(a:zW G0 H0 G1 H1)(b:zW G1 H0 G2 H2):zW G0 H0 G2 H2:=⟨a.g.trans b.g,b.h,b.gh,λp h=>by
 rcases b.new p h with z|z
 ·exact a.new p z
 ·exact .inr z⟩
theorem zW.z6(a:zW G0 H0 G1 H1):zW G1 H0 G1 H1:=⟨yc.refl _,a.h,a.gh,λ_ h=>.inl h⟩
theorem K5{H:Hp}{p q:Addr}{o:HO}(h:zc H p o q≠none):q=p\/H q≠none:=by
 by_cases e:q=p
 ·exact .inl e
 ·rw[yE e]at h;exact .inr h
theorem Q2(s:yc G H):yc (zc G p o) (zc H p o):=λb u e=>by
 by_cases hb:b=p
 ·subst hb;rw[yr]at e ⊢;exact e
 ·rw[yE hb]at e ⊢;exact s _ _ e
theorem zW.lay(s:yc G H)(h:H p=none):zW G H (zc G p o) (zc H p o):=⟨wn (s.free h) o,wn h o,Q2 s,λq z=>by
 rcases K5 z with e|e
 ·exact .inr (e▸h)
 ·exact .inl e⟩
theorem zW.qB(s:yc G H)(h:H p=none):zW G H G (zc H p o):=⟨yc.refl _,wn h o,s.trans (wn h o),λ_ z=>.inl z⟩
theorem zW.yI(a:zW G H G1 H1)(h:H p=none)(g:G1 p=none)(e:H1 p=some o):zW G H (zc G1 p o) H1:=⟨a.g.trans (wn g o),a.h,λb u q=>by
 by_cases hb:b=p
 ·subst hb;rw[yr]at q;cases q;exact e
 ·rw[yE hb]at q;exact a.gh _ _ q,λq z=>by
 rcases K5 z with w|w
 ·exact .inr (w▸h)
 ·exact a.new q w⟩
end
noncomputable def vA(K:W.Frag)(G H:Hp)(d:D)(p:Addr):Prop:=match d with
 |.lst ds=>∃vs,H p=some (.lst vs)/\Reps K G ds vs/\ds.length<=sizeLine
 |.dic ks ds=>∃vs,H p=some (.dK (ks.zip vs))/\ks.length=vs.length/\Reps K G ds vs/\ds.length<=sizeLine
 |_=>False
section
variable{K:W.Frag}{G H G' H':Hp}{d:D}{p:Addr}
theorem vA.some(h:vA K G H d p):H p≠none:=by
 cases d with
 |lst ds=>obtain⟨vs,e,_⟩:=h; rw[e]; exact λz=>nomatch z
 |dic ks ds=>obtain⟨vs,e,_⟩:=h; rw[e]; exact λz=>nomatch z
 |_=>exact h.elim
theorem vA.mono(g:yc G G')(h:yc H H')(o:vA K G H d p):vA K G' H' d p:=by
 cases d with
 |lst ds=>obtain⟨vs,e,r,l⟩:=o; exact⟨vs,h _ _ e,r.mono g,l⟩
 |dic ks ds=>obtain⟨vs,e,z,r,l⟩:=o; exact⟨vs,h _ _ e,z,r.mono g,l⟩
 |_=>exact o.elim
theorem vA.rep(s:yc G H)(o:vA K G H d p):zf K H d (.ref p):=by
 cases d with
 |lst ds=>obtain⟨vs,e,r,l⟩:=o; exact⟨p,vs,rfl,yj.of e,r.mono s,l⟩
 |dic ks ds=>obtain⟨vs,e,z,r,l⟩:=o; exact⟨p,vs,rfl,.inl e,z,r.mono s,l⟩
 |_=>exact o.elim
theorem vA.yI(o:vA K G H d p)(g:G p=none):∃u,H p=Option.some u/\zf K (zc G p u) d (.ref p):=by
 cases d with
 |lst ds=>obtain⟨vs,e,r,l⟩:=o; exact⟨_,e,p,vs,rfl,yj.of yr,r.mono (wn g _),l⟩
 |dic ks ds=>obtain⟨vs,e,z,r,l⟩:=o; exact⟨_,e,p,vs,rfl,.inl yr,z,r.mono (wn g _),l⟩
 |_=>exact o.elim
end
structure yA(K:W.Frag)(n:Nat)(G0 H0 G H:Hp)(τ:yT)(σ:St):Prop where
 ext:zW G0 H0 G H
 l1:σ.length=n
 l2:τ.length=n
 fr:∀(i:Nat)(d:D),τ[i]?=some (some (false,d))->∃v,σ[i]?=some (some v)/\zf K G d v
 ow:∀(i:Nat)(d:D),τ[i]?=some (some (true,d))->∃p,σ[i]?=some (some (V.ref p))/\G p=none/\H0 p=none/\vA K G H d p
 ap:∀(i j:Nat)(d e:D)(p:Addr),i≠j->τ[i]?=some (some (true,d))->τ[j]?=some (some (true,e))->σ[i]?=some (some (V.ref p))->σ[j]?=some (some (V.ref p))->False
section
variable{K:W.Frag}{n:Nat}{G0 H0 G H G' H':Hp}{τ:yT}{σ:St}
theorem yA.go(E:yA K n G0 H0 G H τ σ)(x:zW G H G' H'):yA K n G0 H0 G' H' τ σ:=⟨E.ext.trans x,E.l1,E.l2,λi d h=>by
 obtain⟨v,e,r⟩:=E.fr i d h;exact⟨v,e,r.mono x.g⟩,λi d h=>by
 obtain⟨p,e,g,z,o⟩:=E.ow i d h;refine⟨p,e,?_,z,o.mono x.g x.h⟩;cases q:G' p with
 |none=>rfl
 |some u=>
  rcases x.new p (by rw[q]; exact λz=>nomatch z)with w|w
  ·exact absurd g w
  ·exact absurd w o.some,E.ap⟩
theorem yA.z6(E:yA K n G0 H0 G H τ σ):yA K n G H0 G H τ σ:=⟨E.ext.z6,E.l1,E.l2,E.fr,E.ow,E.ap⟩
theorem yA.near{Ga Ha:Hp}(a:zW G0 H0 Ga Ha)(E:yA K n Ga H0 G H τ σ):yA K n G0 H0 G H τ σ:=⟨a.rebase E.ext,E.l1,E.l2,E.fr,E.ow,E.ap⟩
theorem yA.lt{i:Nat}{s:Option Sl}(E:yA K n G0 H0 G H τ σ)(h:τ[i]?=some s):i<n:=by
 rw[<-E.l2];exact(xT.mp h).1
theorem u1{α:Type}{xs:List α}{i j:Nat}{x y:α}(h:(xs.set i x)[j]?=some y):(j=i/\y=x)\/(j≠i/\xs[j]?=some y):=by
 rw[Bp]at h;by_cases e:i=j
 ·subst e;rw[zP rfl]at h
  split at h
  ·cases h; exact .inl ⟨rfl,rfl⟩
  ·cases h
 ·rw[zV e]at h;exact .inr ⟨λz=>e z.symm,h⟩
theorem Xp{α:Type}{xs:List α}{i:Nat}{x:α}(h:i<xs.length):(xs.set i x)[i]?=some x:=by rw[Bp,zP rfl,zP h]
theorem qR{α:Type}{xs:List α}{i j:Nat}{x:α}(h:j≠i):(xs.set i x)[j]?=xs[j]?:=by rw[Bp,zV (λz=>h z.symm)]
theorem yA.set{i:Nat}{d:D}{v:V}(E:yA K n G0 H0 G H τ σ)(hi:i<n)(r:zf K G d v):yA K n G0 H0 G H (τ.set i (some (false,d))) (σ.set i (some v)):=⟨E.ext,by rw[ge]; exact E.l1,by rw[ge]; exact E.l2,λj e h=>by
 rcases u1 h with⟨rfl,z⟩|⟨ne,z⟩
 ·cases z;exact⟨v,Xp (by rw[E.l1]; exact hi),r⟩
 ·rw[qR ne];exact E.fr j e z,λj e h=>by
 rcases u1 h with⟨rfl,z⟩|⟨ne,z⟩
 ·cases z
 ·rw[qR ne];exact E.ow j e z,λj k e f p hne h1 h2=>by
 rcases u1 h1 with⟨rfl,z⟩|⟨ne,z⟩
 ·cases z
 ·rcases u1 h2 with⟨rfl,z'⟩|⟨ne',z'⟩
  ·cases z'
  ·rw[qR ne,qR ne'];exact E.ap j k e f p hne z z'⟩
theorem yA.DF{i:Nat}{d:D}{p:Addr}(E:yA K n G0 H0 G H τ σ)(hi:i<n)(hg:G p=none)(h0:H0 p=none)(o:vA K G H d p)(hn:∀(j:Nat)(e:D),j≠i->τ[j]?=some (some (true,e))->σ[j]?=some (some (V.ref p))->False) :
  yA K n G0 H0 G H (τ.set i (some (true,d))) (σ.set i (some (.ref p))):=⟨E.ext,by rw[ge]; exact E.l1,by rw[ge]; exact E.l2,λj e h=>by
 rcases u1 h with⟨rfl,z⟩|⟨ne,z⟩
 ·cases z
 ·rw[qR ne];exact E.fr j e z,λj e h=>by
 rcases u1 h with⟨rfl,z⟩|⟨ne,z⟩
 ·cases z;exact⟨p,Xp (by rw[E.l1]; exact hi),hg,h0,o⟩
 ·rw[qR ne];exact E.ow j e z,λj k e f q hne h1 h2 h3 h4=>by
 rcases u1 h1 with⟨rfl,z⟩|⟨ne,z⟩
 ·rcases u1 h2 with⟨rfl,z'⟩|⟨ne',z'⟩
  ·exact hne rfl
  ·rw[Xp (by rw[E.l1]; exact hi)]at h3;rw[qR ne']at h4;cases h3;exact hn k f ne' z' h4
 ·rcases u1 h2 with⟨rfl,z'⟩|⟨ne',z'⟩
  ·rw[Xp (by rw[E.l1]; exact hi)]at h4;rw[qR ne]at h3;cases h4;exact hn j e ne z h3
  ·rw[qR ne]at h3;rw[qR ne']at h4;exact E.ap j k e f q hne z z' h3 h4⟩
theorem yA.DB{i:Nat}{p:Addr}(E:yA K n G0 H0 G H τ σ)(hp:H p=none):∀(j:Nat)(e:D),j≠i->τ[j]?=some (some (true,e))->σ[j]?=some (some (V.ref p))->False:=λj e _ h1 h2=>by
 obtain⟨q,e1,_,_,o⟩:=E.ow j e h1;rw[h2]at e1;cases e1;exact o.some hp
theorem yA.freeze{i:Nat}{b:Bool}{d:D}(E:yA K n G0 H0 G H τ σ)(hi:τ[i]?=some (some (b,d))):∃G',yA K n G0 H0 G' H (τ.set i (some (false,d))) σ/\yc G G':=by
 have hin:=E.lt hi;cases b with
 |false=>
  refine⟨G,?_,yc.refl _⟩
  have e:τ.set i (some (false,d))=τ:=by
   apply Bl;intro j;by_cases hj:j=i
   ·subst hj; rw[Xp (by rw[E.l2]; exact hin),hi]
   ·rw[qR hj]
  rw[e];exact E
 |true=>
  obtain⟨p,e,g,z,o⟩:=E.ow i d hi;obtain⟨u,hu,r⟩:=o.yI g;have x:zW G0 H0 (zc G p u) H:=E.ext.yI z g hu;refine⟨zc G p u,⟨x,E.l1,by rw[ge]; exact E.l2,λj d' h=>?_,λj d' h=>?_,λj k e1 f q hne h1 h2=>?_⟩,wn g _⟩
  ·rcases u1 h with⟨rfl,w⟩|⟨ne,w⟩
   ·cases w;exact⟨_,e,r⟩
   ·obtain⟨v,e',r'⟩:=E.fr j d' w;exact⟨v,e',r'.mono (wn g _)⟩
  ·rcases u1 h with⟨rfl,w⟩|⟨ne,w⟩
   ·cases w
   ·obtain⟨q,e',g',z',o'⟩:=E.ow j d' w;refine⟨q,e',?_,z',o'.mono (wn g _) (yc.refl _)⟩;rw[yE (λc=>?_)]
    ·exact g'
    ·subst c;exact E.ap i j d d' q (λc=>ne c.symm) hi w e e'
  ·rcases u1 h1 with⟨rfl,w⟩|⟨ne,w⟩
   ·cases w
   ·rcases u1 h2 with⟨rfl,w'⟩|⟨ne',w'⟩
    ·cases w'
    ·exact E.ap j k e1 f q hne w w'
end
section
variable(X:Cx)
structure SE(e:Expr)(f:FE):Prop where
 h:∃t,PE X e t/\∀{G0 H0 G H:Hp}{τ:yT}{σ:St}{d:D}{Q:VK},yA X.K X.N.length G0 H0 G H τ σ->f τ=some d->(∀v G' H',zW G H G' H'->zf X.K G' d v->Q v H')->t σ H Q
structure SB(e:Expr)(f:FE):Prop where
 h:∃t,PE X e t/\∀{G0 H0 G H:Hp}{τ:yT}{σ:St}{d:D}{Q:VK},yA X.K X.N.length G0 H0 G H τ σ->f τ=some d->(∀v G' H',zW G H G' H'->zf X.K H' d v->Q v H')->t σ H Q
structure SF(e:Expr)(f:FE):Prop where
 h:∃t,PE X e t/\∀{G0 H0 G H:Hp}{τ:yT}{σ:St}{d:D}{Q:VK},yA X.K X.N.length G0 H0 G H τ σ->f τ=some d->(∀p G' H',zW G H G' H'->H p=none->G' p=none->vA X.K G' H' d p->Q (.ref p) H')->t σ H Q
structure ST(e:Expr)(f:FT):Prop where
 h:∃t,PT X e t/\∀{G0 H0 G H:Hp}{τ:yT}{σ:St}{d:Bool}{Q:Bool->Hp->Prop},yA X.K X.N.length G0 H0 G H τ σ->f τ=some d->(∀G' H',zW G H G' H'->Q d H')->t σ H Q
structure SW(e:Expr)(f:FT):Prop where
 h:∃t,PW X e t/\∀{G0 H0 G H:Hp}{τ:yT}{σ:St}{d:Bool}{Q:Bool->Hp->Prop},yA X.K X.N.length G0 H0 G H τ σ->f τ=some d->(∀G' H',zW G H G' H'->Q d H')->t σ H Q
structure SA(es:List Expr)(f:FA):Prop where
 h:∃t,PA X es t/\∀{G0 H0 G H:Hp}{τ:yT}{σ:St}{ds:List D}{Q:List V->Hp->Prop},yA X.K X.N.length G0 H0 G H τ σ->f τ=some ds->(∀vs G' H',zW G H G' H'->Reps X.K G' ds vs->Q vs H')->t σ H Q
structure Zv(es:List Expr)(f:FA):Prop where
 h:∃t,PA X es t/\∀{G0 H0 G H:Hp}{τ:yT}{σ:St}{ds:List D}{Q:List V->Hp->Prop},yA X.K X.N.length G0 H0 G H τ σ->f τ=some ds->(∀vs G' H',zW G H G' H'->Reps X.K H' ds vs->Q vs H')->t σ H Q
end
noncomputable def vR(K:W.Frag)(n:Nat)(G0 H0:Hp)(E:uT):Fl->Prop
 |.nx τ=>∀σ G H,yA K n G0 H0 G H τ σ->E.nx σ H
 |.bk τ=>∀σ G H,yA K n G0 H0 G H τ σ->E.bk σ H
 |.ct τ=>∀σ G H,yA K n G0 H0 G H τ σ->E.ct σ H
 |.rt false d=>∀v G H,zW G0 H0 G H->zf K G d v->E.rt v H
 |.rt true d=>∀p G H,zW G0 H0 G H->H0 p=none->G p=none->vA K G H d p->E.rt (.ref p) H
section
variable(X:Cx)
structure SS(st:Stmt)(f:FS):Prop where
 h:∃t,PS X st t/\∀{G0 H0 G H:Hp}{τ:yT}{σ:St}{fl:Fl}{E:uT},yA X.K X.N.length G0 H0 G H τ σ->f τ=some fl->vR X.K X.N.length G0 H0 E fl->t E σ H
structure uA(st:List Stmt)(f:FS):Prop where
 h:∃t,vo X st t/\∀{G0 H0 G H:Hp}{τ:yT}{σ:St}{fl:Fl}{E:uT},yA X.K X.N.length G0 H0 G H τ σ->f τ=some fl->vR X.K X.N.length G0 H0 E fl->t E σ H
end
structure tR(K:W.Frag)(J:It)(G:Hp)(ds:List D):Prop where
 go:∀i G2 H,yc G G2->yc G2 H->i<ds.length->J.go i H
 vQ:∀i G2 H x H',yc G G2->yc G2 H->i<ds.length->J.vQ i H x H'->∃G3 d,zW G2 H G3 H'/\ds[i]?=some d/\zf K G3 d x
 stop:∀i G2 H,yc G G2->yc G2 H->ds.length<=i->J.stop i H
structure SI(X:Cx)(tg iter:Expr)(f:FA):Prop where
 h:∃wi,PI X tg iter wi/\∀{G0 H0 G H:Hp}{τ:yT}{σ:St}{ds:List D}{R:It->Hp->Prop},yA X.K X.N.length G0 H0 G H τ σ->f τ=some ds->(∀J G' H',zW G H G' H'->ds.length<=sizeLine->tR X.K J G' ds->R J H')->wi σ H R
noncomputable def yU(K:W.Frag)(F:List D->Option (Bool×D)):Sp:=λvs H Q _=>∃G ds o d,yc G H/\Reps K G ds vs/\F ds=some (o,d)/\
 match o with
 |false=>∀v G' H',zW G H G' H'->zf K G' d v->Q v H'
 |true=>∀p G' H',zW G H G' H'->H p=none->G' p=none->vA K G' H' d p->Q (.ref p) H'
theorem zQ{α β:Type}{o:Option α}{f:α->Option β}{b:β}(h:o.bind f=some b):∃a,o=some a/\f a=some b:=by
 cases o with
 |none=>cases h
 |some a=>exact⟨a,rfl,h⟩
theorem F4{i:Nat}{τ:yT}{d:D}(h:z7 i τ=some d):τ[i]?=some (some (false,d)):=by
 unfold z7 at h
 split at h
 ·rename_i e;cases h;exact e
 ·cases h
theorem OZ{i:Nat}{τ:yT}{d:D}(h:vt i τ=some d):∃b,τ[i]?=some (some (b,d)):=by
 unfold vt at h
 split at h
 ·rename_i b d' e;cases h;exact⟨_,e⟩
 ·cases h
section
variable{X:Cx}{x:Str}{p pos apos cpos p2:Pos}{e a b c o:Expr}{es yy:List Expr}{f fa fb fc:FE}{ft fu:FT}{fs:FA}{F:D->D->Option D}{r:R2}
theorem SE.sb(h:SE X e f):SB X e f:=⟨let ⟨t,p,k⟩:=h.h; ⟨t,p,λE hf q=>k E hf λv G' H' x r=>q v G' H' x (r.mono x.gh)⟩⟩
theorem SF.se(h:SF X e f):SE X e f:=⟨let ⟨t,p,k⟩:=h.h; ⟨t,p,λE hf q=>k E hf λp G' H' x hp gp o=>by
 obtain⟨u,hu,r⟩:=o.yI gp;exact q _ _ _ (x.yI hp gp hu) r⟩⟩
theorem zH(h:SE X e f):SB X e f:=h.sb
theorem y_(h:SF X e f):SE X e f:=h.se
theorem zA(i:Nat){x:Str}{pos:Pos}(hN:X.N[i]?=some x:=by rfl)(hv:tQ X.env.scope x:=by first|exact Or.inl rfl|exact Or.inr (Or.inl rfl)|exact Or.inr (Or.inr rfl))(hd:(x==("__debug__" : Str))=false:=by decide)
  (hcd:(x==("__classdict__" : Str))=false:=by decide):SE X (.Name x pos) (z7 i):=⟨⟨_,Z6 hN hv hd hcd,λE hf q=>by
 obtain⟨v,e,r⟩:=E.fr _ _ (F4 hf);exact⟨v,e,q v _ _ (zW.refl E.ext.gh) r⟩⟩⟩
theorem Mw(i:Nat){x:Str}{pos:Pos}(hN:X.N[i]?=some x:=by rfl)(hv:tQ X.env.scope x:=by first|exact Or.inl rfl|exact Or.inr (Or.inl rfl)|exact Or.inr (Or.inr rfl))(hd:(x==("__debug__" : Str))=false:=by decide)
  (hcd:(x==("__classdict__" : Str))=false:=by decide):SB X (.Name x pos) (vt i):=⟨⟨_,Z6 hN hv hd hcd,λE hf q=>by
 obtain⟨b,hb⟩:=OZ hf;cases b with
 |false=>
  obtain⟨v,e,r⟩:=E.fr _ _ hb;exact⟨v,e,q v _ _ (zW.refl E.ext.gh) (r.mono E.ext.gh)⟩
 |true=>
  obtain⟨p,e,_,_,o⟩:=E.ow _ _ hb;exact⟨_,e,q _ _ _ (zW.refl E.ext.gh) (o.rep E.ext.gh)⟩⟩⟩
theorem Wc{v:V}{d:D}(h:PE X e (tC v))(r:∀H,zf X.K H d v):SE X e (eC d):=⟨⟨_,h,λE hf q=>by
 cases hf;exact q v _ _ (zW.refl E.ext.gh) (r _)⟩⟩
theorem zE{i k pos}:SE X (.Constant (.int i) k pos) (eC (.int i)):=Wc Em λ_=>rfl
theorem Q9{i k pos}:SE X (.Constant (.bool i) k pos) (eC (.bl i)):=Wc cT λ_=>rfl
theorem wV{k pos}:SE X (.Constant .none k pos) (eC .zD):=Wc cm λ_=>rfl
theorem zU{x k pos}(h:x.length<=1000:=by decide):SE X (.Constant (.str x) k pos) (eC (.str x)):=Wc cq λ_=>⟨rfl,small h⟩
theorem pU{v:V}{d:D}(h:xU X.mg x v)(r:∀H,zf X.K H d v)(hg:Gl X x)(hd:(x==("__debug__" : Str))=false:=by decide):SE X (.Name x pos) (eC d):=Wc (WN h hg hd) r
noncomputable def vS(K:W.Frag)(r:R2)(F:D->D->Option D):Prop:=∀G H x y u v d (Q:VK),yc G H->zf K G x u->zf K G y v->F x y=some d->(∀w G' H',zW G H G' H'->zf K G' d w->Q w H')->r u v H Q
noncomputable def qG(K:W.Frag)(r:R2)(F:D->D->Option D):Prop:=∀H x y u v d (Q:VK),zf K H x u->zf K H y v->F x y=some d->∃k,d=.bl k/\(Q (.bl k) H->r u v H Q)
theorem zJ{op:Operator}(ho:yi X (binaryOp op) r)(hF:vS X.K r F)(ha:SE X a fa)(hb:SE X b fb):SE X (.BinOp a op b pos) (e2 F fa fb):=by
 obtain⟨ta,pa,ka⟩:=ha.h;obtain⟨tb,pb,kb⟩:=hb.h;refine⟨⟨_,Eo ho pa pb,λE hf q=>?_⟩⟩;obtain⟨x,hx,hf⟩:=zQ hf;obtain⟨y,hy,hf⟩:=zQ hf;refine ka E hx λv G1 H1 x1 r1=>?_
 refine kb (E.go x1) hy λu G2 H2 x2 r2=>?_
 exact hF G2 H2 x y v u _ _ x2.gh (r1.mono x2.g) r2 hf λw G' H' x3 r3=>q w G' H' (x1.trans (x2.trans x3)) r3
theorem zi(hr:u_ X r)(hF:vS X.K r F)(ha:SE X a fa)(hb:SE X b fb)(hs:YU b=true:=by rfl):SE X (.Subscript a b pos) (e2 F fa fb):=by
 obtain⟨ta,pa,ka⟩:=ha.h;obtain⟨tb,pb,kb⟩:=hb.h;refine⟨⟨_,Lf hr pa pb (Li hs),λE hf q=>?_⟩⟩;obtain⟨x,hx,hf⟩:=zQ hf;obtain⟨y,hy,hf⟩:=zQ hf;refine ka E hx λv G1 H1 x1 r1=>?_
 refine kb (E.go x1) hy λu G2 H2 x2 r2=>?_
 exact hF G2 H2 x y v u _ _ x2.gh (r1.mono x2.g) r2 hf λw G' H' x3 r3=>q w G' H' (x1.trans (x2.trans x3)) r3
theorem jN{op:CmpOp}(ho:yi X (compareOp op) r)(hF:qG X.K r F)(ha:SB X a fa)(hb:SB X b fb)(hm:behindInMarks op b=false):SE X (.Compare a [op] [b] pos) (e2 F fa fb):=by
 obtain⟨ta,pa,ka⟩:=ha.h;obtain⟨tb,pb,kb⟩:=hb.h;refine⟨⟨_,cb ho pa pb hm,λE hf q=>?_⟩⟩;obtain⟨x,hx,hf⟩:=zQ hf;obtain⟨y,hy,hf⟩:=zQ hf;refine ka E hx λv G1 H1 x1 r1=>?_
 refine kb (E.go x1) hy λu G2 H2 x2 r2=>?_
 obtain⟨k,rfl,z⟩:=hF H2 x y v u _ _ (r1.mono x2.h) r2 hf;exact z (q _ _ _ (x1.trans x2) rfl)
theorem zu{op:CmpOp}(ho:yi X (compareOp op) r)(hF:qG X.K r F)(ha:SB X a fa)(hb:SB X b fb)(hm:behindInMarks op b=false):ST X (.Compare a [op] [b] pos) (tE (e2 F fa fb)):=by
 obtain⟨ta,pa,ka⟩:=ha.h;obtain⟨tb,pb,kb⟩:=hb.h;refine⟨⟨_,du ho pa pb hm,λE hf q=>?_⟩⟩;obtain⟨z,hz,hf⟩:=zQ hf;obtain⟨x,hx,hz⟩:=zQ hz;obtain⟨y,hy,hz⟩:=zQ hz;refine ka E hx λv G1 H1 x1 r1=>?_
 refine kb (E.go x1) hy λu G2 H2 x2 r2=>?_
 obtain⟨k,rfl,z⟩:=hF H2 x y v u _ _ (r1.mono x2.h) r2 hz;cases hf;exact z ⟨_,rfl,q _ _ (x1.trans x2)⟩
theorem pW(h:SE X e f)(he:Es e=true:=by rfl):ST X e (tE f):=by
 obtain⟨t,p,k⟩:=h.h;refine⟨⟨_,dy p (dQ he),λE hf q=>?_⟩⟩;obtain⟨z,hz,hf⟩:=zQ hf;refine k E hz λv G' H' x r=>?_
 cases z<;>first|cases hf|skip
 cases r;exact⟨_,rfl,q _ _ x⟩
theorem BC(h:ST X a ft):SW X (.BoolOp .And [a] pos) ft:=⟨let ⟨t,p,k⟩:=h.h; ⟨t,eA p,k⟩⟩
theorem gY(h:ST X a ft):SW X (.BoolOp .Or [a] pos) ft:=⟨let ⟨t,p,k⟩:=h.h; ⟨t,eE p,k⟩⟩
theorem QM(ha:ST X a ft)(hb:SW X (.BoolOp .And (b::yy) pos) fu):SW X (.BoolOp .And (a::b::yy) pos) (ZO ft fu):=by
 obtain⟨ta,pa,ka⟩:=ha.h;obtain⟨tb,pb,kb⟩:=hb.h;refine⟨⟨_,e9 pa pb,λE hf q=>?_⟩⟩;obtain⟨k,hk,hf⟩:=zQ hf;refine ka E hk λG1 H1 x1=>?_
 cases k with
 |true=>exact kz (kb (E.go x1) hf λG' H' x2=>q _ _ (x1.trans x2))
 |false=>cases hf; exact ky (q _ _ x1)
theorem gX(ha:ST X a ft)(hb:SW X (.BoolOp .Or (b::yy) pos) fu):SW X (.BoolOp .Or (a::b::yy) pos) (tG ft fu):=by
 obtain⟨ta,pa,ka⟩:=ha.h;obtain⟨tb,pb,kb⟩:=hb.h;refine⟨⟨_,eD pa pb,λE hf q=>?_⟩⟩;obtain⟨k,hk,hf⟩:=zQ hf;refine ka E hk λG1 H1 x1=>?_
 cases k with
 |false=>exact ky (kb (E.go x1) hf λG' H' x2=>q _ _ (x1.trans x2))
 |true=>cases hf; exact kz (q _ _ x1)
theorem qg(h:SW X e ft):ST X e ft:=⟨let ⟨t,p,k⟩:=h.h; ⟨t,p.pt,k⟩⟩
theorem QK(h:ST X a ft):ST X (.UnaryOp .Not a pos) (ZP ft):=by
 obtain⟨ta,pa,ka⟩:=h.h;refine⟨⟨_,dw pa,λE hf q=>?_⟩⟩;obtain⟨k,hk,hf⟩:=zQ hf;cases hf;exact ka E hk λG1 H1 x1=>q _ _ x1
theorem gQ(hc:ST X c ft)(ha:SE X a fa)(hb:SE X b fb):SE X (.IfExp c a b pos) (qM ft fa fb):=by
 obtain⟨tc,pc,kc⟩:=hc.h;obtain⟨ta,pa,ka⟩:=ha.h;obtain⟨tb,pb,kb⟩:=hb.h;refine⟨⟨_,cg pc pa pb,λE hf q=>?_⟩⟩;obtain⟨k,hk,hf⟩:=zQ hf;refine kc E hk λG1 H1 x1=>?_
 cases k with
 |true=>exact kz (ka (E.go x1) hf λv G' H' x2 r2=>q v _ _ (x1.trans x2) r2)
 |false=>exact ky (kb (E.go x1) hf λv G' H' x2 r2=>q v _ _ (x1.trans x2) r2)
theorem zO:SA X [] zF:=⟨⟨_,YT,λE hf q=>by cases hf; exact q _ _ _ (zW.refl E.ext.gh) rfl⟩⟩
theorem zC(ha:SE X e f)(hr:SA X es fs)(h:xJ e=true:=by rfl):SA X (e::es) (zB f fs):=by
 obtain⟨ta,pa,ka⟩:=ha.h;obtain⟨tb,pb,kb⟩:=hr.h;refine⟨⟨_,WM pa pb h,λE hf q=>?_⟩⟩;obtain⟨x,hx,hf⟩:=zQ hf;obtain⟨xs,hxs,hf⟩:=zQ hf;cases hf;refine ka E hx λv G1 H1 x1 r1=>kb (E.go x1) hxs λvs G2 H2 x2 r2=>?_
 exact q _ _ _ (x1.trans x2) ⟨v,vs,rfl,r1.mono x2.g,r2⟩
theorem xB:Zv X [] zF:=⟨⟨_,YT,λE hf q=>by cases hf; exact q _ _ _ (zW.refl E.ext.gh) rfl⟩⟩
theorem yz(ha:SB X e f)(hr:Zv X es fs)(h:xJ e=true:=by rfl):Zv X (e::es) (zB f fs):=by
 obtain⟨ta,pa,ka⟩:=ha.h;obtain⟨tb,pb,kb⟩:=hr.h;refine⟨⟨_,WM pa pb h,λE hf q=>?_⟩⟩;obtain⟨x,hx,hf⟩:=zQ hf;obtain⟨xs,hxs,hf⟩:=zQ hf;cases hf;refine ka E hx λv G1 H1 x1 r1=>kb (E.go x1) hxs λvs G2 H2 x2 r2=>?_
 exact q _ _ _ (x1.trans x2) ⟨v,vs,rfl,r1.mono x2.h,r2⟩
theorem fQ{is:List Int}(h:intsOf es=some is):SA X es (λ_=>some (is.map D.int)):=⟨⟨_,Eh h,λE hf q=>by cases hf; exact q _ _ _ (zW.refl E.ext.gh) Reps.ints⟩⟩
theorem xc{x1}(h:SA X es fs)(hl:∀τ ds,fs τ=some ds->ds.length<=1000):SE X (.Tuple es x1 pos) (yq fs):=by
 obtain⟨t,pt,k⟩:=h.h;refine⟨⟨_,cr pt,λE hf q=>?_⟩⟩;obtain⟨xs,hx,hf⟩:=zQ hf;cases hf;have l:xs.length<=sizeLine:=small (hl _ _ hx);refine k E hx λvs G1 H1 x1 r1=>⟨by rw[r1.length]; exact l,λp hp=>?_⟩
 exact q _ _ _ (x1.trans (zW.lay x1.gh hp)) ⟨p,vs,rfl,xH.of yr,r1.mono (wn (x1.gh.free hp) _),l⟩
theorem xG(h:SA X es fs)(hl:∀τ ds,fs τ=some ds->ds.length<=1000):SF X (.List es pos) (ym fs):=by
 obtain⟨t,pt,k⟩:=h.h;refine⟨⟨_,ci pt,λE hf q=>?_⟩⟩;obtain⟨xs,hx,hf⟩:=zQ hf;cases hf;have l:xs.length<=sizeLine:=small (hl _ _ hx);refine k E hx λvs G1 H1 x1 r1=>⟨by rw[r1.length]; exact l,λp hp=>?_⟩
 exact q _ _ _ (x1.trans (zW.qB x1.gh hp)) (x1.h.free hp) (x1.gh.free hp) ⟨vs,yr,r1,l⟩
theorem yF:∀(τ:yT) ds,zF τ=some ds->ds.length<=0:=λ_ _ h=>by cases h; exact y0 _
theorem zL{n:Nat}(h:∀τ ds,fs τ=some ds->ds.length<=n):∀τ ds,zB f fs τ=some ds->ds.length<=n+1:=λτ ds e=>by
 obtain⟨x,_,e⟩:=zQ e;obtain⟨xs,hx,e⟩:=zQ e;cases e;exact Nat.succ_le_succ (h _ _ hx)
theorem NO{is:List Int}{n:Nat}(h:is.length<=n):∀(τ:yT) ds,(some (is.map D.int))=some ds->ds.length<=n:=λ_ _ e=>by
 cases e;rw[yK];exact h
theorem yC{m n:Nat}(h:∀τ ds,fs τ=some ds->ds.length<=m)(hmn:m<=n):∀τ ds,fs τ=some ds->ds.length<=n:=λτ ds e=>xO (h τ ds e) hmn
variable{ps:List Str}{j k:Nat}{FF:List D->Option (Bool×D)}{FL:List D->Option D}{id T:String}
theorem QB(h:yQ X.prog X.w X.K X.mg X.base x ps k (yU X.K FF))(hr:xl j X.A)(hg:Gl X x)(ha:SA X (e::es) fs)(hk:k<=j:=by decide)(hdb:(x==("__debug__" : Str))=false:=by decide)
  (he:(e::es).all xJ=true:=by rfl):SF X (.Call (.Name x p) (e::es) [] pos) (g6 FF fs):=by
 obtain⟨t,pt,kt⟩:=ha.h;refine⟨⟨_,Lg h hr hg pt hk hdb he,λE hf q=>?_⟩⟩;obtain⟨ds,hd,hf⟩:=zQ hf;obtain⟨⟨o,d⟩,hr,hf⟩:=zQ hf;cases o with
 |false=>cases hf
 |true=>
  cases hf;refine kt E hd λvs G1 H1 x1 r1=>⟨G1,ds,true,_,x1.gh,by rw[uP]; exact r1,hr,λp G' H' x2 hp gp o=>?_⟩
  exact q p G' H' (x1.trans x2) (x1.h.free hp) gp o
theorem zp(h:yQ X.prog X.w X.K X.mg X.base x ps k (yU X.K FF))(hr:xl j X.A)(hg:Gl X x)(ha:SA X (e::es) fs)(hk:k<=j:=by decide)(hdb:(x==("__debug__" : Str))=false:=by decide)
  (he:(e::es).all xJ=true:=by rfl):SE X (.Call (.Name x p) (e::es) [] pos) (za FF fs):=by
 obtain⟨t,pt,kt⟩:=ha.h;refine⟨⟨_,Lg h hr hg pt hk hdb he,λE hf q=>?_⟩⟩;obtain⟨ds,hd,hf⟩:=zQ hf;obtain⟨⟨o,d⟩,hr,hf⟩:=zQ hf;cases hf;refine kt E hd λvs G1 H1 x1 r1=>⟨G1,ds,o,d,x1.gh,by rw[uP]; exact r1,hr,?_⟩
 cases o with
 |false=>exact λv G' H' x2 r=>q v G' H' (x1.trans x2) r
 |true=>
  intro p G' H' x2 hp gp o;obtain⟨u,hu,r⟩:=o.yI gp;exact q _ _ _ (x1.trans (x2.yI hp gp hu)) r
theorem hJ(h:yQ X.prog X.w X.K X.mg X.base x ps k (yU X.K FF))(hr:xl j X.A)(hg:Gl X x)(ha:Zv X (e::es) fs)(hk:k<=j:=by decide)(hdb:(x==("__debug__" : Str))=false:=by decide)
  (he:(e::es).all xJ=true:=by rfl):SE X (.Call (.Name x p) (e::es) [] pos) (Oa FF fs):=by
 obtain⟨t,pt,kt⟩:=ha.h;refine⟨⟨_,Lg h hr hg pt hk hdb he,λE hf q=>?_⟩⟩;obtain⟨d0,h0,hf⟩:=zQ hf;obtain⟨ds,hd,h0⟩:=zQ h0;obtain⟨⟨o,d⟩,hr,h0⟩:=zQ h0;cases h0;by_cases fl:yY d=true
 ·rw[zP fl]at hf;cases hf;refine kt E hd λvs G1 H1 x1 r1=>⟨H1,ds,o,d,yc.refl _,by rw[uP]; exact r1,hr,?_⟩
  have flat:∀{G G':Hp}{v:V},zf X.K G d v->zf X.K G' d v:=λ{G G' v} r=>by
   cases d<;>first|exact r|exact absurd fl xf
  cases o with
  |false=>exact λv G' H' x2 r=>q v G1 H' (x1.trans ⟨yc.refl _,x2.h,x1.gh.trans x2.h,λ_ z=>.inl z⟩) (flat r)
  |true=>
   intro p G' H' x2 hp gp o;cases d<;>first|exact o.elim|exact absurd fl xf
 ·rw[zV fl]at hf;cases hf
noncomputable def gx(K:W.Frag)(r:List V->Hp->VK->Prop)(F:List D->Option D):Prop:=∀G H ds vs d (Q:VK),yc G H->Reps K H ds vs->F ds=some d->(∀w G' H',zW G H G' H'->zf K G' d w->Q w H')->r vs H Q
noncomputable def DL(K:W.Frag)(r:List V->Hp->VK->Prop)(F:List D->Option D):Prop:=∀G H ds vs d (Q:VK),yc G H->Reps K G ds vs->F ds=some d->(∀w G' H',zW G H G' H'->zf K G' d w->Q w H')->r vs H Q
theorem wU{rc:List V->Hp->VK->Prop}(hc:wX X (.builtin id) rc)(hF:gx X.K rc FL)(hg:Gl X x)(hm:X.mg x=none)(hv:bootBuiltins x=some (.builtin id))(ha:Zv X (e::es) fs)(hn:x ≠ "__name__" := by decide)(hdb:(x==("__debug__" : Str))=false:=by decide)
  (he:(e::es).all xJ=true:=by rfl):SE X (.Call (.Name x p) (e::es) [] pos) (eL FL fs):=by
 obtain⟨t,pt,kt⟩:=ha.h;refine⟨⟨_,(Ln hc hg hm hv ⟨pt⟩ hn hdb he).h,λE hf q=>?_⟩⟩;obtain⟨ds,hd,hf⟩:=zQ hf;exact kt E hd λvs G1 H1 x1 r1=>hF G1 H1 ds vs _ _ x1.gh r1 hf λw G' H' x2 r2=>q w G' H' (x1.trans x2) r2
theorem uj{rc:List V->Hp->VK->Prop}(hc:wX X (.type T) rc)(hF:gx X.K rc FL)(hg:Gl X x)(hm:X.mg x=none)(hv:bootBuiltins x=some (.type T))(ha:Zv X (e::es) fs)(hn:x ≠ "__name__" := by decide)(hdb:(x==("__debug__" : Str))=false:=by decide)
  (he:(e::es).all xJ=true:=by rfl):SE X (.Call (.Name x p) (e::es) [] pos) (eL FL fs):=by
 obtain⟨t,pt,kt⟩:=ha.h;refine⟨⟨_,(Lo hc hg hm hv ⟨pt⟩ hn hdb he).h,λE hf q=>?_⟩⟩;obtain⟨ds,hd,hf⟩:=zQ hf;exact kt E hd λvs G1 H1 x1 r1=>hF G1 H1 ds vs _ _ x1.gh r1 hf λw G' H' x2 r2=>q w G' H' (x1.trans x2) r2
theorem hU{rc:List V->Hp->VK->Prop}(hc:wX X (.type T) rc)(hF:DL X.K rc FL)(hg:Gl X x)(hm:X.mg x=none)(hv:bootBuiltins x=some (.type T))(ha:SA X (e::es) fs)(hn:x ≠ "__name__" := by decide)(hdb:(x==("__debug__" : Str))=false:=by decide)
  (he:(e::es).all xJ=true:=by rfl):SE X (.Call (.Name x p) (e::es) [] pos) (eL FL fs):=by
 obtain⟨t,pt,kt⟩:=ha.h;refine⟨⟨_,(Lo hc hg hm hv ⟨pt⟩ hn hdb he).h,λE hf q=>?_⟩⟩;obtain⟨ds,hd,hf⟩:=zQ hf;exact kt E hd λvs G1 H1 x1 r1=>hF G1 H1 ds vs _ _ x1.gh r1 hf λw G' H' x2 r2=>q w G' H' (x1.trans x2) r2
theorem uL{op:UnaryOp}{ru:V->Hp->VK->Prop}{F1:D->Option D}(ho:Xb X (unaryOp op) ru)(hF:∀(G H:Hp) x u d (Q:VK),zf X.K G x u->F1 x=some d->∃w,(∀G,zf X.K G d w)/\(Q w H->ru u H Q))(ha:SE X a fa):SE X (.UnaryOp op a pos) (e1 F1 fa):=by
 obtain⟨t,pt,kt⟩:=ha.h;refine⟨⟨_,cs ho pt,λE hf q=>?_⟩⟩;obtain⟨x,hx,hf⟩:=zQ hf;refine kt E hx λv G1 H1 x1 r1=>?_
 obtain⟨w,rw_,z⟩:=hF G1 H1 x v _ _ r1 hf;exact z (q w _ _ x1 (rw_ _))
end
section
variable{X:Cx}{x:Str}{p pos pos' apos cpos:Pos}{e a b c tg iter elt:Expr}{es ifs:List Expr}{f fa fb:FE}{ft:FT}{fs:FA}{st:Stmt}{sts body:List Stmt}{g g':FS}
theorem yX:uA X [] yJ:=⟨⟨_,dq,λ{_ _ G H τ σ fl E} K hf q=>by
 cases hf;exact q σ G H K⟩⟩
theorem vR.with{K:W.Frag}{n:Nat}{G0 H0:Hp}{E E':uT}{fl:Fl}(h:vR K n G0 H0 E fl)(hn:∀τ,fl=.nx τ->vR K n G0 H0 E' (.nx τ))(hb:∀τ,fl=.bk τ->vR K n G0 H0 E' (.bk τ))(hc:∀τ,fl=.ct τ->vR K n G0 H0 E' (.ct τ))(hr:E'.rt=E.rt):vR K n G0 H0 E' fl:=by
 cases fl with
 |nx τ=>exact hn τ rfl
 |bk τ=>exact hb τ rfl
 |ct τ=>exact hc τ rfl
 |rt o d=>
  cases o with
  |false=>intro v G H x r; rw[hr]; exact h v G H x r
  |true=>intro v G H x r1 r2 r3; rw[hr]; exact h v G H x r1 r2 r3
theorem zN(h1:SS X st g)(h2:uA X sts g'):uA X (st::sts) (zK g g'):=by
 obtain⟨t,p,k⟩:=h1.h;obtain⟨t',p',k'⟩:=h2.h;refine⟨⟨_,dj p p',λ{G0 H0 G H τ σ fl E} K hf q=>?_⟩⟩;obtain⟨f1,h1,hf⟩:=zQ hf;refine k K h1 ?_;cases f1 with
 |nx τ'=>exact λσ' G' H' K'=>k' K' hf q
 |bk τ'=>cases hf; exact q
 |ct τ'=>cases hf; exact q
 |rt o d=>cases hf; exact vR.with q (λ_ z=>nomatch z) (λ_ z=>nomatch z) (λ_ z=>nomatch z) rfl
theorem zS(h1:SS X st g):uA X [st] g:=⟨let ⟨t,p,k⟩:=h1.h; ⟨t,dr p,k⟩⟩
theorem Yk(i:Nat)(h:uA X sts g):uA X sts (zK (qY i) g):=by
 obtain⟨t,p,k⟩:=h.h;refine⟨⟨t,p,λ{G0 H0 G H τ σ fl E} K hf q=>?_⟩⟩;obtain⟨f1,h1,hf⟩:=zQ hf;unfold qY at h1
 split at h1
 ·rename_i bb d hd;cases h1;obtain⟨G',K',_⟩:=K.freeze hd;exact k K' hf q
 ·cases h1
theorem ze{i:Nat}{x:Str}{pos':Pos}(hN:X.N.Nodup)(hi:X.N[i]?=some x)(hx:p9 X.env.scope x)(he:SE X e f)(hs:WG e=true:=by rfl)(hf:X.fn x=true\/X.env.scope.names.lookup x=some .local:=by first|exact .inl rfl|exact .inr rfl|assumption) :
  SS X (.Assign [.Name x pos'] e pos) (zY i f):=by
 obtain⟨t,p,k⟩:=he.h;refine⟨⟨_,(GC hN hi hx ⟨p⟩ hs hf).h,λ{G0 H0 G H τ σ fl E} K hf q=>?_⟩⟩;obtain⟨d,hd,hf⟩:=zQ hf;cases hf;exact k K hd λv G' H' x r=>q _ _ _ ((K.go x).set (xT.mp hi).1 r)
theorem tF{i:Nat}{x:Str}{pos':Pos}(hN:X.N.Nodup)(hi:X.N[i]?=some x)(hx:p9 X.env.scope x)(he:SF X e f)(hs:WG e=true:=by rfl)(hf:X.fn x=true\/X.env.scope.names.lookup x=some .local:=by first|exact .inl rfl|exact .inr rfl|assumption) :
  SS X (.Assign [.Name x pos'] e pos) (vX i f):=by
 obtain⟨t,p,k⟩:=he.h;refine⟨⟨_,(GC hN hi hx ⟨p⟩ hs hf).h,λ{G0 H0 G H τ σ fl E} K hf q=>?_⟩⟩;obtain⟨d,hd,hf⟩:=zQ hf;cases hf;refine k K hd λp G' H' x hp gp o=>q _ _ _ ((K.go x).DF (xT.mp hi).1 gp (K.ext.h.free hp) o ?_)
 exact K.DB hp
theorem zy(he:SE X e f):SS X (.Return (some e) pos) (zr f):=by
 obtain⟨t,p,k⟩:=he.h;refine⟨⟨_,Lk p,λ{G0 H0 G H τ σ fl E} K hf q=>?_⟩⟩;obtain⟨d,hd,hf⟩:=zQ hf;cases hf;exact k K hd λv G' H' x r=>q v _ _ (K.ext.trans x) r
theorem Wf(he:SF X e f):SS X (.Return (some e) pos) (gO f):=by
 obtain⟨t,p,k⟩:=he.h;refine⟨⟨_,Lk p,λ{G0 H0 G H τ σ fl E} K hf q=>?_⟩⟩;obtain⟨d,hd,hf⟩:=zQ hf;cases hf;exact k K hd λp G' H' x hp gp o=>q p _ _ (K.ext.trans x) (K.ext.h.free hp) gp o
theorem ZL(i:Nat){x:Str}{pos':Pos}(hN:X.N[i]?=some x:=by rfl)(hv:tQ X.env.scope x:=by first|exact Or.inl rfl|exact Or.inr (Or.inl rfl)|exact Or.inr (Or.inr rfl))(hd:(x==("__debug__" : Str))=false:=by decide)
  (hcd:(x==("__classdict__" : Str))=false:=by decide):SS X (.Return (some (.Name x pos')) pos) (qZ i):=by
 refine⟨⟨_,Lk (Z6 hN hv hd hcd),λ{G0 H0 G H τ σ fl E} K hf q=>?_⟩⟩;unfold qZ at hf
 split at hf
 ·rename_i d he;cases hf;obtain⟨p,e,g,z,o⟩:=K.ow _ _ he;exact⟨_,e,q p _ _ K.ext z g o⟩
 ·cases hf
theorem yN{sa sb:List Stmt}(hc:ST X c ft)(ha:uA X sa g)(hb:uA X sb g'):SS X (.If c sa sb pos) (zt ft g g'):=by
 obtain⟨tc,pc,kc⟩:=hc.h;obtain⟨ta,pa,ka⟩:=ha.h;obtain⟨tb,pb,kb⟩:=hb.h;refine⟨⟨_,db pc pa pb,λ{G0 H0 G H τ σ fl E} K hf q=>?_⟩⟩;obtain⟨k,hk,hf⟩:=zQ hf;refine kc K hk λG1 H1 x1=>?_
 cases k with
 |true=>exact kz (ka (K.go x1) hf q)
 |false=>exact ky (kb (K.go x1) hf q)
theorem QH:uA X sts (λ_=>none):=⟨⟨_,dm,λ_ hf=>by cases hf⟩⟩
theorem B7{ft:FT}(hp:PassesOwn (model X.prog X.w) X.A X.env X.xe)(hc:ST X c ft)(hb:uA X body g):SS X (.While c body [] pos) (WT ft g):=by
 obtain⟨tc,pc,kc⟩:=hc.h;obtain⟨tb,pb,kb⟩:=hb.h;refine⟨⟨_,di hp pc pb,λ{G0 H0 G H τ σ fl E} K hf q=>?_⟩⟩;refine⟨λm σ H=>∃τ G,yA X.K X.N.length G0 H0 G H τ σ/\uO ft g m τ=some fl,⟨Vg,τ,G,K,hf⟩,?_⟩;rintro m σ H ⟨τ,G,K,hf⟩;cases m with
 |zero=>cases hf
 |succ n=>
  obtain⟨k,hk,hf⟩:=zQ (show(ft τ).bind _=_ from hf);refine kc K hk λG1 H1 x1=>?_
  cases k with
  |false=>
   cases hf;exact ky (q _ _ _ (K.go x1))
  |true=>
   obtain⟨f1,h1,hf⟩:=zQ (show(g τ).bind _=_ from hf);refine kz ⟨λσ' H'=>∃τ G,yA X.K X.N.length G0 H0 G H' τ σ'/\uO ft g n τ=some fl,λσ' H' z=>⟨n,Ww n,z⟩,kb (K.go x1) h1 ?_⟩;cases f1 with
   |nx τ2=>exact λσ2 G2 H2 K2=>⟨τ2,G2,K2,hf⟩
   |ct τ2=>exact λσ2 G2 H2 K2=>⟨τ2,G2,K2,hf⟩
   |bk τ2=>cases hf; exact q
   |rt o d=>cases hf; exact vR.with q (λ_ z=>nomatch z) (λ_ z=>nomatch z) (λ_ z=>nomatch z) rfl
theorem vR.near{K:W.Frag}{n:Nat}{G0 H0 Ga Ha:Hp}{E:uT}{fl:Fl}(x:zW G0 H0 Ga Ha)(h:vR K n G0 H0 E fl):vR K n Ga H0 E fl:=by
 cases fl with
 |nx τ=>exact λσ G H z=>h σ G H (yA.near x z)
 |bk τ=>exact λσ G H z=>h σ G H (yA.near x z)
 |ct τ=>exact λσ G H z=>h σ G H (yA.near x z)
 |rt o d=>
  cases o with
  |false=>exact λv G H y r=>h v G H (x.rebase y) r
  |true=>exact λp G H y r1 r2 r3=>h p G H (x.rebase y) r1 r2 r3
structure SG(X:Cx)(tg:Expr)(fg:FG):Prop where
 h:∃t,PG X tg t/\∀{G0 H0 G H:Hp}{τ τ':yT}{σ:St}{d:D}{v:V}{Q:St->Hp->Prop},yA X.K X.N.length G0 H0 G H τ σ->zf X.K G d v->fg d τ=some τ'->(∀σ',yA X.K X.N.length G0 H0 G H τ' σ'->Q σ' H)->t v σ H Q
theorem tf{i:Nat}{x:Str}(h:QG X (.Name x pos) (vw i))(hi:X.N[i]?=some x):SG X (.Name x pos) (yD i):=⟨⟨_,h.h,λK r hf q=>by
 cases hf;exact q _ (K.set (xT.mp hi).1 r)⟩⟩
theorem QC{i j:Nat}{x y:Str}{p1 p2:Pos}{kk:Nat}(h:QG X (.Tuple [.Name x p1,.Name y p2] kk pos) (Y9 X.K 2 (qQ (vw i) (qQ (vw j) Y7))))(hi:X.N[i]?=some x)(hj:X.N[j]?=some y):SG X (.Tuple [.Name x p1,.Name y p2] kk pos) (vV i j):=⟨⟨_,h.h,λ{G0 H0 G H τ τ' σ d v Q} K r hf q=>by
 unfold vV at hf
 split at hf
 ·rename_i d1 d2;cases hf;obtain⟨a,vs,rfl,sq,⟨v1,r1,rfl,h1,⟨v2,r2,rfl,h2,h3⟩⟩,_⟩:=r;cases(show r2=[]from h3);refine⟨a,_,rfl,vh K.ext.gh sq,rfl,v1,_,rfl,v2,_,rfl,rfl,?_⟩;exact q _ ((K.set (xT.mp hi).1 h1).set (xT.mp hj).1 h2)
 ·cases hf⟩⟩
theorem uN{fg:FG}(hp:PassesOwn (model X.prog X.w) X.A X.env X.xe)(hc:X.calm=true)(hi:SI X tg iter fs)(hg:SG X tg fg)(hb:uA X body g)(hs:∀x,foldedSetIterable iter X.env x=pure x:=by intro _; rfl):SS X (.For tg iter body [] pos) (wm fs fg g):=by
 obtain⟨ti,pi,ki⟩:=hi.h;obtain⟨tg',pg,kg⟩:=hg.h;obtain⟨tb,pb,kb⟩:=hb.h;refine⟨⟨_,Ey hp hc pi pg pb hs,λ{G0 H0 G H τ σ fl E} K hf q=>?_⟩⟩;obtain⟨ds,hd,hf⟩:=zQ hf;refine ki K hd λJ Ga Ha xa _ wk=>?_
 have Ka:=K.go xa;have q':=vR.near Ka.ext q;refine⟨λi m σ H=>m=ds.length-i/\i<=ds.length/\∃τ G,yA X.K X.N.length Ga H0 G H τ σ/\ub fg g (ds.drop i) τ=some fl,⟨ds.length,rfl,qo _,τ,Ga,Ka.z6,hf⟩,?_⟩;rintro i m σ H ⟨rfl,hle,τ,G,K,hf⟩;by_cases hlt:i<ds.length
 ·refine .inr ⟨wk.go i G H K.ext.g K.ext.gh hlt,λσ' H'=>∃τ G,yA X.K X.N.length Ga H0 G H' τ σ'/\ub fg g (ds.drop (i+1)) τ=some fl,λσ' H' z=>⟨ds.length-(i+1),by omega,rfl,hlt,z⟩,λx H' y=>?_⟩;obtain⟨G3,d,x3,ed,rd⟩:=wk.vQ i G H x H' K.ext.g K.ext.gh hlt y;rw[Bj hlt]at hf;rw[yf hlt]at ed;cases ed;obtain⟨τ1,h1,hf⟩:=zQ (show(fg _ τ).bind _=_ from hf);obtain⟨f1,h2,hf⟩:=zQ hf;refine kg (K.go x3) rd h1 λσ1 K1=>kb K1 h2 ?_
  cases f1 with
  |nx τ2=>exact λσ2 G2 H2 K2=>⟨τ2,G2,K2,hf⟩
  |ct τ2=>exact λσ2 G2 H2 K2=>⟨τ2,G2,K2,hf⟩
  |bk τ2=>cases hf; exact q'
  |rt o d=>cases hf; exact vR.with q' (λ_ z=>nomatch z) (λ_ z=>nomatch z) (λ_ z=>nomatch z) rfl
 ·have e:ds.drop i=[]:=Bk (by omega);rw[e]at hf;cases hf;exact .inl ⟨wk.stop i G H K.ext.g K.ext.gh (by omega),q' _ _ _ K⟩
theorem Fw{K:W.Frag}{G:Hp}{lo:Int}{n:Nat}:tR K (XV lo n) G ((List.range n).map λk:Nat=>D.int (lo+k)) where
 go:=λi G2 H _ _ hi=>by
  show i<n;simpa using hi
 vQ:=λi G2 H x H' _ g2 hi y=>by
  obtain⟨rfl,rfl⟩:=y;exact⟨G2,.int (lo+i),zW.refl g2,by simp at hi; simp[hi],rfl⟩
 stop:=λi G2 H _ _ hi=>by
  show n<=i;simpa using hi
theorem gS(hg:Gl X "range")(hm:X.mg "range" = none)(ha:SE X a fa)(hs:xJ a=true:=by rfl):SI X tg (.Call (.Name "range" p) [a] [] pos) (uZ (eC (.int 0)) fa):=by
 obtain⟨t,pt,k⟩:=(zC ha zO hs).h;refine⟨⟨_,dB hg hm pt (u2 hs),λ{G0 H0 G H τ σ ds R} K hf q=>?_⟩⟩;obtain⟨x,hx,hf⟩:=zQ hf;cases hx;obtain⟨y,hy,hf⟩:=zQ hf;refine k K (ds:=[y]) (by unfold zB; rw[hy]; rfl) λvs G1 H1 x1 r1=>?_
 cases y<;>first|cases hf|skip
 rename_i j;obtain⟨v,r,rfl,hv,hr⟩:=r1;cases(show r=[]from hr);cases(show v=.int j from hv)
 change (if(0:Int).natAbs<=yR/\j.natAbs<=yR/\(j-0).toNat<=yR then _ else _)=_ at hf
 by_cases c:(0:Int).natAbs<=yR/\j.natAbs<=yR/\(j-0).toNat<=yR
 ·rw[zP c]at hf;cases hf;have c2:j.natAbs<=16777216:=c.2.1;have c3:(j-0).toNat<=16777216:=c.2.2;refine⟨j,rfl,by omega,by omega,q _ _ _ x1 ?_ ?_⟩
  ·rw[yK,pq,xy]; omega
  ·have e:(j-0).toNat=j.toNat:=by omega
   rw[e];exact Fw
 ·rw[zV c]at hf;cases hf
theorem iI(hg:Gl X "range")(hm:X.mg "range" = none)(ha:SE X a fa)(hb:SE X b fb)(hs:xJ a=true:=by rfl)(hs2:xJ b=true:=by rfl):SI X tg (.Call (.Name "range" p) [a,b] [] pos) (uZ fa fb):=by
 obtain⟨t,pt,k⟩:=(zC ha (zC hb zO hs2) hs).h;refine⟨⟨_,dC hg hm pt (by rw[u2 hs,u2 hs2]; rfl) (u2 hs2),λ{G0 H0 G H τ σ ds R} K hf q=>?_⟩⟩;obtain⟨x,hx,hf⟩:=zQ hf;obtain⟨y,hy,hf⟩:=zQ hf;refine k K (ds:=[x,y]) (by unfold zB; rw[hx,hy]; rfl) λvs G1 H1 x1 r1=>?_
 cases x with
 |int i=>
  cases y with
  |int j=>
   obtain⟨v,r,rfl,hv,⟨v2,r2,rfl,hv2,hr⟩⟩:=r1;cases(show r2=[]from hr);cases(show v=.int i from hv);cases(show v2=.int j from hv2)
   change (if i.natAbs<=yR/\j.natAbs<=yR/\(j-i).toNat<=yR then _ else _)=_ at hf
   by_cases c:i.natAbs<=yR/\j.natAbs<=yR/\(j-i).toNat<=yR
   ·rw[zP c]at hf;have c1:i.natAbs<=16777216:=c.1;have c2:j.natAbs<=16777216:=c.2.1;have c3:(j-i).toNat<=16777216:=c.2.2;cases hf;refine⟨i,j,rfl,⟨by omega,by omega,by omega,by omega⟩,q _ _ _ x1 ?_ Fw⟩;rw[yK,pq,xy]; exact c3
   ·rw[zV c]at hf;cases hf
  |_=>cases hf
 |_=>cases hf
theorem AS{K:W.Frag}{G:Hp}{a:Addr}{vs:List V}{ds:List D}(sq:yj K G a vs)(r:Reps K G ds vs):tR K (Ii K a) G ds where
 go:=λi G2 H g1 g2 hi=>by
  obtain⟨v,e,_⟩:=r.get (yf hi);exact⟨vs,v,wZ (g1.trans g2) sq,e⟩
 vQ:=λi G2 H x H' g1 g2 hi y=>by
  obtain⟨rfl,y⟩:=y;have e:=y vs (wZ (g1.trans g2) sq);obtain⟨d,ed,rd⟩:=r.at e;exact⟨G2,d,zW.refl g2,ed,rd.mono g1⟩
 stop:=λi G2 H g1 g2 hi=>⟨vs,wZ (g1.trans g2) sq,by rw[r.length]; exact hi⟩
theorem nR{K:W.Frag}{G:Hp}{a:Addr}{vs:List V}{ds:List D}(sq:xH K G a vs)(r:Reps K G ds vs):tR K (Ij K a) G ds where
 go:=λi G2 H g1 g2 hi=>by
  obtain⟨v,e,_⟩:=r.get (yf hi);exact⟨vs,v,vh (g1.trans g2) sq,e⟩
 vQ:=λi G2 H x H' g1 g2 hi y=>by
  obtain⟨rfl,y⟩:=y;have e:=y vs (vh (g1.trans g2) sq);obtain⟨d,ed,rd⟩:=r.at e;exact⟨G2,d,zW.refl g2,ed,rd.mono g1⟩
 stop:=λi G2 H g1 g2 hi=>⟨vs,vh (g1.trans g2) sq,by rw[r.length]; exact hi⟩
theorem lJ{K:W.Frag}{G:Hp}{z:Str}:tR K (Vh z) G (z.cps.toList.map λc=>D.str ⟨#[c]⟩) where
 go:=λi G2 H _ _ hi=>by
  rw[yK,uq]at hi;exact hi
 vQ:=λi G2 H x H' _ g2 hi y=>by
  obtain⟨rfl,c,ec,rfl⟩:=y;refine⟨G2,.str ⟨#[c]⟩,zW.refl g2,?_,rfl,small (n:=1) (by decide)⟩;rw[wM,KP,ec];rfl
 stop:=λi G2 H _ _ hi=>by
  rw[yK,uq]at hi;exact hi
theorem PI.or{w1 w2:TI}(h1:PI X tg e w1)(h2:PI X tg e w2):PI X tg e (λσ H R=>w1 σ H R\/w2 σ H R):=λz8 s σ H R I q=>by
 rcases q with q|q
 ·exact h1 z8 s σ H R I q
 ·exact h2 z8 s σ H R I q
theorem tj(h:SE X e f):SI X tg e (vy f):=by
 obtain⟨t,p,k⟩:=h.h;refine⟨⟨_,PI.or (dA p) (PI.or (dE p) (dD p)),λ{G0 H0 G H τ σ ds R} K hf q=>?_⟩⟩;obtain⟨d,hd,hf⟩:=zQ hf;cases d<;>first|cases hf|skip
 ·rename_i z;refine .inr (.inr (k K hd λv G' H' x r=>?_));obtain⟨rfl,l⟩:=r;exact⟨z,rfl,q _ _ _ x (by rw[yK,uq]; exact l) lJ⟩
 ·refine .inr (.inl (k K hd λv G' H' x r=>?_));obtain⟨a,vs,rfl,sq,rs,l⟩:=r;exact⟨a,rfl,⟨vs,vh x.gh sq⟩,q _ _ _ x l (nR sq rs)⟩
 ·refine .inl (k K hd λv G' H' x r=>?_);obtain⟨a,vs,rfl,sq,rs,l⟩:=r;exact⟨a,rfl,⟨vs,wZ x.gh sq⟩,q _ _ _ x l (AS sq rs)⟩
end
noncomputable def BF(K:W.Frag)(n:Nat)(f:FE):TE:=λσ H Q=>∃G0 H0 G τ d,yA K n G0 H0 G H τ σ/\f τ=some d/\∀v G' H',zW G H G' H'->zf K G' d v->Q v H'
noncomputable def QP(K:W.Frag)(n:Nat)(f:FT):TT:=λσ H Q=>∃G0 H0 G τ d,yA K n G0 H0 G H τ σ/\f τ=some d/\∀G' H',zW G H G' H'->Q d H'
structure gz(X:Cx)(es:List Expr)(f:FT):Prop where
 h:gy X es (QP X.K X.N.length f)
section
variable{X:Cx}{e c:Expr}{f:FE}{ft:FT}
theorem SE.pe(h:SE X e f):PE X e (BF X.K X.N.length f):=λz8 s σ H Q I q=>by
 obtain⟨t,p,k⟩:=h.h;obtain⟨G0,H0,G,τ,d,K,hf,z⟩:=q;exact p z8 s σ H Q I (k K hf z)
theorem ST.pt(h:ST X e ft):PT X e (QP X.K X.N.length ft):=λz8 s σ H Q I q=>by
 obtain⟨t,p,k⟩:=h.h;obtain⟨G0,H0,G,τ,d,K,hf,z⟩:=q;exact p z8 s σ H Q I (k K hf z)
theorem ZM:gz X [] xP:=⟨λz8 s σ H Q I q=>by
 obtain⟨G0,H0,G,τ,d,K,hf,z⟩:=q;cases hf;exact d_ z8 s σ H Q I (z _ _ (zW.refl K.ext.gh))⟩
theorem ZN(h:ST X c ft):gz X [c] ft:=⟨e5 h.pt⟩
end
theorem yA.more{K:W.Frag}{n:Nat}{G0 H0 G H:Hp}{τ:yT}{σ:St}(k:Nat)(E:yA K n G0 H0 G H τ σ):yA K (n+k) G0 H0 G H (τ++List.replicate k none) (σ++List.replicate k none):=by
 have at_:∀{i:Nat}{s:Sl},(τ++List.replicate k none)[i]?=some (some s)->τ[i]?=some (some s)/\(σ++List.replicate k none)[i]?=σ[i]?:=λ{i s} h=>by
  have h':=UP h;have hi:i<n:=E.lt h';exact⟨h',ZY (by rw[E.l1]; exact hi)⟩
 refine⟨E.ext,by rw[xC,jT,E.l1],by rw[xC,jT,E.l2],λi d h=>?_,λi d h=>?_,λi j d e p hne h1 h2 h3 h4=>?_⟩
 ·obtain⟨h',e⟩:=at_ h;rw[e];exact E.fr i d h'
 ·obtain⟨h',e⟩:=at_ h;rw[e];exact E.ow i d h'
 ·obtain⟨h1',e1⟩:=at_ h1;obtain⟨h2',e2⟩:=at_ h2;rw[e1]at h3;rw[e2]at h4;exact E.ap i j d e p hne h1' h2' h3 h4
theorem Tc{K:PySem.W.Frag}{n k:Nat}{G0 H0 Ga Ha:Hp}{τ:yT}{σ:St}{J:It}{ds out:List D}{g:TG}{fg:FG}{ft:FT}{f:FE}{Fin:List V->Hp->Prop}(wk:tR K J Ga ds)(hl:ds.length<=sizeLine)(Ka:yA K n G0 H0 Ga Ha τ σ)
  (hf:xI fg ft f (τ++List.replicate k none) ds=some out)
  (kg:∀G H d v τ' (Q:St->Hp->Prop),yA K (n+k) G0 H0 G H (τ++List.replicate k none) (σ++List.replicate k none)->zf K G d v->fg d (τ++List.replicate k none)=some τ'->(∀ρ,yA K (n+k) G0 H0 G H τ' (σ++ρ)->Q (σ++ρ) H)->g v (σ++List.replicate k none) H Q)
  (fin:∀ys G H,zW Ga Ha G H->Reps K G out ys->out.length<=sizeLine->Fin ys H) :
  ∃W:Nat->Nat->List V->Hp->Prop,(∃m,W 0 m [] Ha)/\TZ σ k J g (QP K (n+k) ft) (BF K (n+k) f) W Fin:=by
 refine⟨λi m ys H=>m=ds.length-i/\i<=ds.length/\ys.length<=i/\∃G done yy,zW Ga Ha G H/\Reps K G done ys/\xI fg ft f (τ++List.replicate k none) (ds.drop i)=some yy/\done++yy=out,⟨ds.length,rfl,qo _,y0 _,Ga,[],out,zW.refl Ka.ext.gh,rfl,hf,rfl⟩,?_⟩;rintro i m ys H ⟨rfl,hle,hys,G,done,yy,x,rd,hf,eo⟩;by_cases hlt:i<ds.length
 ·refine .inr ⟨wk.go i G H x.g x.gh hlt,by omega,λys H=>ys.length<=i+1/\∃G done yy,zW Ga Ha G H/\Reps K G done ys/\xI fg ft f (τ++List.replicate k none) (ds.drop (i+1))=some yy/\done++yy=out,λys' H' z=>⟨ds.length-(i+1),by omega,rfl,hlt,z.1,z.2⟩,λv H' y=>?_⟩;obtain⟨G3,d,x3,ed,rv⟩:=wk.vQ i G H v H' x.g x.gh hlt y;rw[Bj hlt]at hf;rw[yf hlt]at ed;cases ed;obtain⟨τ1,h1,hf⟩:=zQ (show(fg _ _).bind _=_ from hf);obtain⟨kk,h2,hf⟩:=zQ hf;have K3:=((Ka.go x).go x3).more k;refine kg G3 H' _ v τ1 _ K3 rv h1 λρ K4=>⟨⟨ρ,rfl⟩,_,_,_,_,kk,K4,h2,λG5 H5 x5=>?_⟩
  cases kk with
  |false=>exact ky ⟨by omega,G5,done,yy,x.trans (x3.trans x5),rd.mono (x3.g.trans x5.g),hf,eo⟩
  |true=>
   obtain⟨z,hz,hf⟩:=zQ (show(f _).bind _=_ from hf);obtain⟨more,hm,hf⟩:=zQ hf;cases hf;refine kz ⟨_,_,_,_,z,K4.go x5,hz,λu G6 H6 x6 r6=>⟨by rw[xC]; exact Nat.succ_le_succ hys,G6,done++[z],more,x.trans (x3.trans (x5.trans x6)),(rd.mono (x3.g.trans (x5.g.trans x6.g))).append (Reps.one r6),hm,?_⟩⟩;rw[tu];exact eo
 ·have e:ds.drop i=[]:=Bk (by omega);rw[e]at hf;cases hf;rw[uP]at eo;subst eo;refine .inl ⟨wk.stop i G H x.g x.gh (by omega),fin ys G H x rd ?_⟩;rw[<-rd.length];omega
section
variable{X:Cx}{tg iter elt:Expr}{ifs:List Expr}{scope:Scope}{cl:List (Str×Addr)}{own:List Str}{pos:Pos}{fs:FA}{fg:FG}{ft:FT}{f:FE}{g:TG}
theorem B5{α:Type}(xs:List α)(y:α)(ys:List α){n:Nat}(h:n=xs.length)(z:α):(xs++y::ys).set n z=xs++z::ys:=by
 subst h;rw[Kp _ _ (y0 _),Nat.sub_self];rfl
structure BG(X:Cx)(scope:Scope)(cl:List (Str×Addr))(own:List Str)(tg:Expr)(g:TG)(fg:FG):Prop where
 q:∀C s H fp pn,QG (xo X scope cl own C s H fp pn) tg g
 k:∀{G0 H0:Hp}{τ:yT}{σ:St},τ.length=X.N.length->σ.length=X.N.length->∀G H d v τ' (Q:St->Hp->Prop),yA X.K (X.N.length+own.length) G0 H0 G H (τ++List.replicate own.length none) (σ++List.replicate own.length none)->zf X.K G d v->fg d (τ++List.replicate own.length none)=some τ'->
  (∀ρ,yA X.K (X.N.length+own.length) G0 H0 G H τ' (σ++ρ)->Q (σ++ρ) H)->g v (σ++List.replicate own.length none) H Q
theorem t3{x:Str}{i:Nat}(q:∀C s H fp pn,QG (xo X scope cl [x] C s H fp pn) tg (vw i))(hi:i=X.N.length):BG X scope cl [x] tg (vw i) (yD i):=⟨q,λ{G0 H0 τ σ} l1 l2 G H d v τ' Q E r hf k=>by
 cases hf;have E':=E.set (i:=i) (v:=v) (by rw[hi]; exact Ww _) r;have es:(σ++List.replicate 1 none).set i (some v)=σ++[some v]:=B5 σ none [] (hi.trans l2.symm) (some v);show Q ((σ++List.replicate 1 none).set i (some v)) H;rw[es];refine k [some v] ?_;rw[<-es];exact E'⟩
theorem Ni{x y:Str}{i j:Nat}(q:∀C s H fp pn,QG (xo X scope cl [x,y] C s H fp pn) tg (Y9 X.K 2 (qQ (vw i) (qQ (vw j) Y7))))(hi:i=X.N.length)(hj:j=X.N.length+1):BG X scope cl [x,y] tg (Y9 X.K 2 (qQ (vw i) (qQ (vw j) Y7))) (vV i j):=⟨q,λ{G0 H0 τ σ} l1 l2 G H d v τ' Q E r hf k=>by
 unfold vV at hf
 split at hf
 ·rename_i d1 d2;cases hf;obtain⟨a,vs,rfl,sq,⟨v1,r1,rfl,h1,⟨v2,r2,rfl,h2,h3⟩⟩,_⟩:=r;cases(show r2=[]from h3);have E':=(E.set (i:=i) (v:=v1) (by rw[hi]; exact Nat.lt_add_of_pos_right (Nat.succ_pos _)) h1).set (i:=j) (v:=v2) (by rw[hj]; exact Ww _) h2
  have es:((σ++List.replicate 2 none).set i (some v1)).set j (some v2)=σ++[some v1,some v2]:=by
   have e1:(σ++List.replicate 2 none).set i (some v1)=σ++[some v1,none]:=B5 σ none [none] (hi.trans l2.symm) (some v1);rw[e1];have e2:σ++[some v1,none]=(σ++[some v1])++[none]:=by simp
   rw[e2,B5 (σ++[some v1]) none [] (by rw[xC,hj,l2]; rfl) (some v2)];simp
  refine⟨a,_,rfl,vh E.ext.gh sq,rfl,v1,_,rfl,v2,_,rfl,rfl,?_⟩;show Q (((σ++List.replicate 2 none).set i (some v1)).set j (some v2)) H;rw[es];refine k [some v1,some v2] ?_;rw[<-es];exact E'
 ·cases hf⟩
theorem Dk(X:Cx)(own:List Str):(vT X.N own).length=X.N.length+own.length:=by
 unfold vT;rw[xC,yK]
theorem U1{C:Addr}{s:Shared}{H:Hp}{fp:List Addr}{pn:List (Addr×Obj)}(h:SE (xo X scope cl own C s H fp pn) elt f):PE (xo X scope cl own C s H fp pn) elt (BF X.K (X.N.length+own.length) f):=by
 have q:=h.pe;rw[show(xo X scope cl own C s H fp pn).N.length=X.N.length+own.length from Dk X own]at q;exact q
theorem U2{C:Addr}{s:Shared}{H:Hp}{fp:List Addr}{pn:List (Addr×Obj)}(h:gz (xo X scope cl own C s H fp pn) ifs ft):gy (xo X scope cl own C s H fp pn) ifs (QP X.K (X.N.length+own.length) ft):=by
 have q:=h.h;rw[show(xo X scope cl own C s H fp pn).N.length=X.N.length+own.length from Dk X own]at q;exact q
theorem pV(hcalm:X.calm=true)(B:jc X scope cl own)(hi:SI X tg iter fs)(hg:BG X scope cl own tg g fg)(hc:∀C s H fp pn,gz (xo X scope cl own C s H fp pn) ifs ft)
  (he:∀C s H fp pn,SE (xo X scope cl own C s H fp pn) elt f)(hs:∀x,foldedSetIterable iter X.env x=pure x:=by intro _; rfl) :
  SF X (.ListComp elt [⟨tg,iter,ifs,0⟩] scope pos) (wx own.length fs fg ft f):=by
 obtain⟨ti,pi,ki⟩:=hi.h;refine⟨⟨_,En hcalm B pi (λC s H fp pn=>(hg.q C s H fp pn).h) (λC s H fp pn=>U2 (hc C s H fp pn)) (λC s H fp pn=>U1 (he C s H fp pn)) hs,λ{G0 H0 G H τ σ d Q} K hf q=>?_⟩⟩;obtain⟨ds,hd,hf⟩:=zQ hf;obtain⟨out,ho,hf⟩:=zQ hf;cases hf;refine ki K hd λJ Ga Ha xa l wk=>Tc wk l (K.go xa) ho (hg.k K.l2 K.l1) λys G1 H1 x1 r1 l1 p hp=>?_
 exact q p _ _ (xa.trans (x1.trans (zW.qB x1.gh hp))) (xa.h.free (x1.h.free hp)) (x1.gh.free hp) ⟨ys,yr,r1,l1⟩
theorem lF{i:Nat}{x:Str}{px spos:Pos}(hcalm:X.calm=true)(hN:X.N.Nodup)(hix:X.N[i]?=some x)(hx:X.env.scope.names.lookup x=some .local)(B:jc X scope cl own)
  (hsw:swapsWith (.ListComp elt [⟨tg,iter,ifs,0⟩] scope pos) (some (.Name x px)) spos.line X.env=pure true)(hi:SI X tg iter fs)(hg:BG X scope cl own tg g fg)(hc:∀C s H fp pn,gz (xo X scope cl own C s H fp pn) ifs ft)
  (he:∀C s H fp pn,SE (xo X scope cl own C s H fp pn) elt f)(hs:∀x,foldedSetIterable iter X.env x=pure x:=by intro _; rfl) :
  SS X (.Assign [.Name x px] (.ListComp elt [⟨tg,iter,ifs,0⟩] scope pos) spos) (vX i (wx own.length fs fg ft f)):=by
 obtain⟨ti,pi,ki⟩:=hi.h;refine⟨⟨_,Ez hcalm hN hix hx B hsw pi (λC s H fp pn=>(hg.q C s H fp pn).h) (λC s H fp pn=>U2 (hc C s H fp pn)) (λC s H fp pn=>U1 (he C s H fp pn)) hs,λ{G0 H0 G H τ σ fl E} K hf q=>?_⟩⟩;obtain⟨d,hf1,hf⟩:=zQ hf;cases hf;obtain⟨ds,hd,hf1⟩:=zQ hf1;obtain⟨out,ho,hf1⟩:=zQ hf1;cases hf1;refine ki K hd λJ Ga Ha xa l wk=>Tc wk l (K.go xa) ho (hg.k K.l2 K.l1) λys G1 H1 x1 r1 l1 p hp=>?_
 have K1:=(K.go xa).go x1;have K2:=K1.go (zW.qB (o:=.lst ys) x1.gh hp);exact q _ _ _ (K2.DF (xT.mp hix).1 (x1.gh.free hp) (K1.ext.h.free hp) ⟨ys,yr,r1,l1⟩ (K1.DB hp))
theorem HZ{i:Nat}{x:Str}{px spos:Pos}(hcalm:X.calm=true)(hN:X.N.Nodup)(hix:X.N[i]?=some x)(hx:X.env.scope.names.lookup x=some .local)(B:jc X scope cl own)
  (hsw:swapsWith (.ListComp elt [⟨tg,iter,ifs,0⟩] scope pos) (some (.Name x px)) spos.line X.env=pure true)(hi:SI X tg iter fs)(hg:BG X scope cl own tg g fg)(hc:∀C s H fp pn,gz (xo X scope cl own C s H fp pn) ifs ft)
  (he:∀C s H fp pn,SE (xo X scope cl own C s H fp pn) elt f)(hs:∀x,foldedSetIterable iter X.env x=pure x:=by intro _; rfl) :
  SS X (.Assign [.Name x px] (.ListComp elt [⟨tg,iter,ifs,0⟩] scope pos) spos) (zY i (wx own.length fs fg ft f)):=by
 obtain⟨ti,pi,ki⟩:=hi.h;refine⟨⟨_,Ez hcalm hN hix hx B hsw pi (λC s H fp pn=>(hg.q C s H fp pn).h) (λC s H fp pn=>U2 (hc C s H fp pn)) (λC s H fp pn=>U1 (he C s H fp pn)) hs,λ{G0 H0 G H τ σ fl E} K hf q=>?_⟩⟩;obtain⟨d,hf1,hf⟩:=zQ hf;cases hf;obtain⟨ds,hd,hf1⟩:=zQ hf1;obtain⟨out,ho,hf1⟩:=zQ hf1;cases hf1;refine ki K hd λJ Ga Ha xa l wk=>Tc wk l (K.go xa) ho (hg.k K.l2 K.l1) λys G1 H1 x1 r1 l1 p hp=>?_
 have K2:=((K.go xa).go x1).go (zW.lay (o:=.lst ys) x1.gh hp);exact q _ _ _ (K2.set (xT.mp hix).1 ⟨p,ys,rfl,yj.of yr,r1.mono (wn (x1.gh.free hp) _),l1⟩)
end
section
variable{K:W.Frag}{n:Nat}{G0 H0 G H:Hp}{τ:yT}{σ:St}
theorem yA.VB{i:Nat}{d d':D}{p:Addr}{o:HO}(E:yA K n G0 H0 G H τ σ)(hi:τ[i]?=some (some (true,d)))(hp:σ[i]?=some (some (.ref p)))(new:vA K G (zc H p o) d' p):yA K n G0 H0 G (zc H p o) (τ.set i (some (true,d'))) σ:=by
 obtain⟨p',e,g,z,_⟩:=E.ow i d hi;rw[hp]at e;cases e
 have keep:∀{H1:Hp},H1 p=none->yc H1 H->yc H1 (zc H p o):=λ{H1} h s b u q=>by
  rw[yE (uI q h)];exact s _ _ q
 refine⟨⟨E.ext.g,keep z E.ext.h,keep g E.ext.gh,E.ext.new⟩,E.l1,by rw[ge]; exact E.l2,λj e h=>?_,λj e h=>?_,λj k e f q hne h1 h2 h3 h4=>?_⟩
 ·rcases u1 h with⟨rfl,w⟩|⟨ne,w⟩
  ·cases w
  ·exact E.fr j e w
 ·rcases u1 h with⟨rfl,w⟩|⟨ne,w⟩
  ·cases w;exact⟨p,hp,g,z,new⟩
  ·obtain⟨q,eq,gq,zq,oq⟩:=E.ow j e w;refine⟨q,eq,gq,zq,?_⟩
   have hne:q≠p:=λc=>by
    subst c;exact E.ap i j d e q (λc=>ne c.symm) hi w hp eq
   cases e with
   |lst ds=>obtain⟨vs,ev,r⟩:=oq; exact⟨vs,by rw[yE hne]; exact ev,r⟩
   |dic ks ds=>obtain⟨vs,ev,r⟩:=oq; exact⟨vs,by rw[yE hne]; exact ev,r⟩
   |_=>exact oq.elim
 ·have t:∀{j:Nat}{e:D},(τ.set i (some (true,d')))[j]?=some (some (true,e))->∃e,τ[j]?=some (some (true,e)):=λ{j e} h=>by
   rcases u1 h with⟨rfl,_⟩|⟨_,w⟩
   ·exact⟨_,hi⟩
   ·exact⟨_,w⟩
  obtain⟨e1,w1⟩:=t h1;obtain⟨e2,w2⟩:=t h2;exact E.ap j k e1 e2 q hne w1 w2 h3 h4
end
section
variable{X:Cx}{x:Str}{xp pos apos cpos:Pos}{e:Expr}{f:FE}
theorem uM{i:Nat}(ho:QE X (.Name x xp) (jO i))(he:SE X e f)(hbase:attributeBase (.Name x xp) "append" X.env (eval (.Name x xp) X.env)=eval (.Name x xp) X.env:=by rfl)(hline:(apos.endLine==cpos.line)=true:=by rfl)(hs:xJ e=true:=by rfl) :
  SS X (.Expr (.Call (.Attribute (.Name x xp) "append" apos) [e] [] cpos) pos) (wK i xj f):=by
 obtain⟨t,p,k⟩:=(zC he zO hs).h;refine⟨⟨_,(GB (gL PySem.F.plainAttrs_list PySem.F.slot_list_append PySem.F.type_list_append Ac ho ⟨p⟩ hbase hline (by rw[wp,hs]; rfl) (by show 1<30; decide)) rfl).h,λ{G0 H0 G H τ σ fl E} K hf q=>?_⟩⟩;unfold wK at hf
 split at hf
 ·rename_i d hd;obtain⟨y,hy,hf⟩:=zQ hf;obtain⟨d',hd',hf⟩:=zQ hf;cases hf;obtain⟨a,ea,g,z,o⟩:=K.ow _ _ hd;cases d with
  |lst ds=>
   obtain⟨vs,ev,rs,l⟩:=o;refine⟨_,ea,.inl ⟨rfl,vs,yj.of ev⟩,k K (ds:=[y]) (by unfold zB; rw[hy]; rfl) λus G1 H1 x1 r1=>?_⟩;obtain⟨u,r,rfl,hu,hr⟩:=r1;cases(show r=[]from hr)
   change (if ds.length<yR then some (D.lst (ds++[y]))else none)=some d' at hd'
   by_cases c:ds.length<yR
   ·rw[zP c]at hd';cases hd';refine⟨a,vs,u,rfl,rfl,x1.h _ _ ev,by rw[rs.length,xy]; exact c,?_⟩;refine q _ _ _ ((K.go x1).VB hd ea ⟨vs++[u],yr,(rs.mono x1.g).append (Reps.one hu),?_⟩);rw[xC,xy];exact c
   ·rw[zV c]at hd';cases hd'
  |_=>cases hd'
 ·cases hf
end
section
variable{P:Program}{w:World}{K:W.Frag}{mg:Str->Option Value}{base:Heap}
theorem LF{α β:Type}{ds:List α}{k i:Nat}{h:α->Option β}{y:β}(e:(ds.map h++List.replicate k none)[i]?=some (some y)):∃d,ds[i]?=some d/\h d=some y:=by
 have e':=UP e;rw[wM]at e';cases q:ds[i]? with
 |none=>rw[q]at e'; cases e'
 |some d=>
  rw[q]at e';exact⟨d,rfl,vk e'⟩
theorem F9{N:List Str}{G H:Hp}{ds:List D}{vs:List V}(s:yc G H)(r:Reps K G ds vs)(hl:ds.length<=N.length):yA K N.length G H G H (ds.map (λd=>some (false,d))++List.replicate (N.length-ds.length) none) (L2.start N vs):=by
 have l:=r.length;refine⟨zW.refl s,?_,?_,λi d h=>?_,λi d h=>?_,λi j d e p _ h1=>?_⟩
 ·unfold L2.start;rw[xC,yK,jT];omega
 ·rw[xC,yK,jT];omega
 ·obtain⟨d',e,z⟩:=LF h;cases z;obtain⟨v,ev,rv⟩:=r.get e;refine⟨v,?_,rv⟩;unfold L2.start;rw[ZY (by rw[yK]; exact(xT.mp ev).1),wM,ev];rfl
 ·obtain⟨d',e,z⟩:=LF h;cases z
 ·obtain⟨d',e,z⟩:=LF h1;cases z
theorem Def.N5{x:Str}{st:Stmt}{N ps:List Str}{k:Nat}{F:List D->Option (Bool×D)}{b:FS}(d:Def K mg x st ps)(S:yP N ps (zx st))(hN:ps.length<=N.length)(hF:∀ds r,F ds=some r->ds.length=ps.length/\ya N.length b ds=some r)
  (hb:∀(f:Addr)(cdv:Value)(A:Around)(outer:List Env)(s:Shared)(H:Hp)(E:XK),xl k (A.deeper (envOfC x (zx st) s.heap.objs.size f cdv))->uA (pF uu P w K mg base N x (zx st) f cdv A outer s H E).tJ (t7 st) b):yQ P w K mg base x ps (k+1) (yU K F):=by
 refine d.ok S (λvs H Q E h=>?_) λf cdv A outer s H vs Q E hr h=>?_
 ·obtain⟨G,ds,o,dd,_,r,e,_⟩:=h;rw[r.length,(hF _ _ e).1]
 ·obtain⟨G,ds,o,dd,s',r,e,q⟩:=h;obtain⟨l,hrun⟩:=hF _ _ e;obtain⟨t,p,kt⟩:=(hb f cdv A outer s H E hr).h;obtain⟨fl,hfl,hrun⟩:=zQ hrun;refine⟨t,p,kt (F9 (N:=N) s' r (by omega)) hfl ?_⟩;cases fl with
  |nx τ=>
   cases hrun;exact λσ G' H' z=>q .zD G' H' z.ext rfl
  |rt o' d'=>
   cases hrun;cases o with
   |false=>exact q
   |true=>exact q
  |_=>cases hrun
end
section
variable{X:Cx}{K:W.Frag}
theorem Z5{C:Int->Int->Prop}{Cb:Int->Int->Bool}{g:Int->Int->Int}(h:∀i j,Cb i j=true->C i j):vS K (rI C λi j=>.int (g i j)) (fI Cb g):=λG H x y u v d Q s rx ry hf q=>by
 cases x<;>first|(cases hf; done)|skip
 cases y<;>first|(cases hf; done)|skip
 rename_i i j
 change (match Cb i j with|true=>some (D.int (g i j))|false=>none)=some d at hf
 cases c:Cb i j with
 |false=>rw[c]at hf; cases hf
 |true=>
  rw[c]at hf;cases hf;exact⟨i,j,rx,ry,h i j c,q _ _ _ (zW.refl s) rfl⟩
theorem LZ{g:Int->Int->Int}:vS K (ui λi j=>.int (g i j)) (qN g):=λG H x y u v d Q s rx ry hf q=>by
 cases x<;>first|(cases hf; done)|skip
 cases y<;>first|(cases hf; done)|skip
 cases hf;exact⟨_,_,rx,ry,q _ _ _ (zW.refl s) rfl⟩
theorem vz:vS K (ui λi j=>.int (i-j)) wY:=λG H x y u v d Q s rx ry hf q=>by
 cases x<;>first|(cases hf; done)|skip
 cases y<;>first|(cases hf; done)|skip
 cases hf;exact⟨_,_,rx,ry,q _ _ _ (zW.refl s) rfl⟩
theorem CN{i:Int}(h:vC i=true) : -(2 ^ 64)<i/\i<2 ^ 64:=by
 unfold vC at h;rw[xS]at h;exact⟨wI h.1,wI h.2⟩
theorem Ea:vS K (rI XB λi j=>.int (i*j)) Xk:=Z5 λ_ _ h=>.inl (CN h)
theorem gG:vS K (rI XB λi j=>.int (i*j)) qP:=Z5 λ_ _ h=>.inr (CN h)
theorem yk:vS K (rI (λ_ j=>0<j) λi j=>.int (i%j)) yL:=Z5 λ_ _ h=>wI h
theorem w4:vS K (rI (λ_ j=>0<j/\j<2 ^ 64) λi j=>.int (i/j)) xR:=Z5 λ_ _ h=>by
 rw[xS]at h;exact⟨wI h.1,wI h.2⟩
theorem Ew{i j:Int}(h:wJ i j=true):XC i j:=by
 unfold wJ at h;rw[xS,xS]at h;exact⟨wI h.1,wI h.2.1,wI h.2.2⟩
theorem tX:vS K (rI XC λi j=>.int (i ^ j.toNat)) uD:=Z5 λ_ _ h=>Ew h
theorem WJ:vS K (rI XC λi j=>.int (i*2 ^ j.toNat)) g8:=Z5 λ_ _ h=>Ew h
theorem bu:vS K (rI (λ_ j=>0<=j) λi j=>.int (i/2 ^ j.toNat)) UJ:=Z5 λ_ _ h=>wI h
theorem xb{g:Int->Int->Bool}:qG K (ui λi j=>.bl (g i j)) (xE g):=λH x y u v d Q rx ry hf=>by
 cases x<;>first|(cases hf; done)|skip
 cases y<;>first|(cases hf; done)|skip
 cases hf;exact⟨_,rfl,λq=>⟨_,_,rx,ry,q⟩⟩
theorem Fz{H:Hp}{x:D}{u:V}(r:zf K H x u):ku x=decide (u=.zD):=by
 cases x with
 |zD=>cases r; rfl
 |bl b=>cases r; rfl
 |int b=>cases r; rfl
 |str b=>obtain⟨rfl,_⟩:=r; rfl
 |tup b=>obtain⟨a,vs,rfl,_⟩:=r; rfl
 |lst b=>obtain⟨a,vs,rfl,_⟩:=r; rfl
 |dic b c=>obtain⟨a,vs,rfl,_⟩:=r; rfl
 |exc b=>obtain⟨a,C,rfl,_⟩:=r; rfl
 |obj b c e=>obtain⟨a,C,dx,vs,rfl,_⟩:=r; rfl
theorem La:qG K (λx y H Q=>y=.zD/\Q (.bl (decide (x=.zD))) H) Y5:=λH x y u v d Q rx ry hf=>by
 cases y<;>first|(cases hf; done)|skip
 have e:=Fz rx;refine⟨ku x,(vk hf).symm,λq=>⟨ry,?_⟩⟩;rw[<-e];exact q
theorem Tl:qG K (λx y H Q=>y=.zD/\Q (.bl (!decide (x=.zD))) H) kF:=λH x y u v d Q rx ry hf=>by
 cases y<;>first|(cases hf; done)|skip
 have e:=Fz rx;refine⟨!ku x,(vk hf).symm,λq=>⟨ry,?_⟩⟩;rw[<-e];exact q
theorem ul:∀(G H:Hp) x u d (Q:VK),zf K G x u->wf x=some d->∃w,(∀G,zf K G d w)/\(Q w H->rU (λi=>.int (-i)) u H Q):=λG H x u d Q r hf=>by
 cases x<;>first|(cases hf; done)|skip
 cases hf;exact⟨_,λ_=>rfl,λq=>⟨_,r,q⟩⟩
theorem ot:∀(G H:Hp) x u d (Q:VK),zf K G x u->Of x=some d->∃w,(∀G,zf K G d w)/\(Q w H->rU (λi=>.int (Builtin.bitNot i)) u H Q):=λG H x u d Q r hf=>by
 cases x<;>first|(cases hf; done)|skip
 cases hf;exact⟨_,λ_=>rfl,λq=>⟨_,r,q⟩⟩
noncomputable def GE(K:W.Frag):R2:=λx y H Q=>∃l b xs zs,x=.ref l/\y=.ref b/\yj K H l xs/\yj K H b zs/\xs.length+zs.length<=sizeLine/\∀p,H p=none->Q (.ref p) (zc H p (.lst (xs++zs)))
theorem Ed:yi X (binaryOp .Add) (GE X.K):=by
 intro z8 s σ H x y v u Q I rx ry h;obtain⟨l,b,xs,zs,rfl,rfl,hl,hb,hz,q⟩:=h;cases rx;cases ry;obtain⟨its,r1,p1,_⟩:=I.list hl;obtain⟨its2,r2,p2,_⟩:=I.list hb;obtain⟨⟨c1,d1,t1,sl1⟩,n1,ho1,hc1,hd1,ht1⟩:=p1;obtain⟨⟨c2,d2,t2,sl2⟩,n2,ho2,hc2,hd2,ht2⟩:=p2;simp only at hc1 ht1 hc2 ht2;subst hc1 ht1 hc2 ht2
 refine concat_meets ⟨_,ho1,rfl⟩ ⟨_,ho2,rfl⟩ noFill_list_add seq_list_add PySem.F.slot_list_add PySem.F.entry_list_add (PySem.F.args_list_add_2 _ _)
  (list_addW l b its.toArray its2.toArray n1 n2 d1 d2 sl1 sl2 (by rw[yo,yo,<-r1.length,<-r2.length]; exact hz)) ⟨ho1,ho2,?_⟩
 rw[show its.toArray++its2.toArray=(its++its2).toArray by simp];exact⟨.ref _,_,I.N1 (t':=s.toks) (r1.append r2) (by rw[xC]; exact hz),rfl,q _ I.fresh⟩
noncomputable def GD(K:W.Frag):R2:=λx y H Q=>ui (λi j=>.int (i+j)) x y H Q\/(∃i k,x=.int i/\y=.bl k/\Q (.int (i+b2i k)) H)\/(∃i j,x=.str i/\y=.str j/\i.length+j.length<=sizeLine/\Q (.str (i++j)) H)\/GE K x y H Q\/GF K x y H Q
theorem yH:yi X (binaryOp .Add) (GD X.K):=cB.or (cC.or (cD.or (Ed.or cE)))
theorem yG:vS K (GD K) zm:=λG H x y u v d Q s rx ry hf q=>by
 cases x<;>cases y<;>first|(cases hf; done)|skip
 ·rename_i i b;cases rx;cases ry;cases hf;refine .inr (.inl ⟨i,b,rfl,rfl,?_⟩);have e:i+b2i b=i+(if b then 1 else 0):=by cases b<;>rfl
  rw[e];exact q _ _ _ (zW.refl s) rfl
 ·cases hf;exact .inl ⟨_,_,rx,ry,q _ _ _ (zW.refl s) rfl⟩
 ·rename_i i j;obtain⟨rfl,l1⟩:=rx;obtain⟨rfl,l2⟩:=ry
  change (if i.length+j.length<=yR then _ else _)=_ at hf
  by_cases c:i.length+j.length<=yR
  ·rw[zP c]at hf;cases hf;have c':i.length+j.length<=sizeLine:=by rw[xy]; exact c
   exact .inr (.inr (.inl ⟨i,j,rfl,rfl,c',q _ _ _ (zW.refl s) ⟨rfl,by rw[strLen_append]; exact c'⟩⟩))
  ·rw[zV c]at hf;cases hf
 ·rename_i xs ys;obtain⟨a,vs,rfl,sa,ra,_⟩:=rx;obtain⟨b,us,rfl,sb,rb,_⟩:=ry
  change (if xs.isEmpty=false/\xs.length+ys.length<=yR then _ else _)=_ at hf
  by_cases c0:xs.isEmpty=false/\xs.length+ys.length<=yR
  ·rw[zP c0]at hf;have c:=c0.2;cases hf;have c':(xs++ys).length<=sizeLine:=by rw[xy,xC]; exact c
   have hx:vs≠[]:=λe=>by
    have l:=ra.length;rw[e]at l;cases xs with
    |nil=>cases c0.1
    |cons=>cases l
   ·refine .inr (.inr (.inr (.inr ⟨a,b,vs,us,rfl,rfl,vh s sa,vh s sb,hx,by rw[ra.length,rb.length,xy]; exact c,λe=>?_,λe p hp=>?_⟩)))
    ·subst e
     have e2:ys=[]:=by
      cases ys with
      |nil=>rfl
      |cons=>obtain⟨_,_,z,_⟩:=rb; cases z
     subst e2;exact q _ _ _ (zW.refl s) ⟨a,vs,rfl,sa,by rw[uP]; exact ra,c'⟩
    ·exact q _ _ _ (zW.lay s hp) ⟨p,vs++us,rfl,xH.of yr,(ra.append rb).mono (wn (s.free hp) _),c'⟩
  ·rw[zV c0]at hf;cases hf
 ·rename_i xs ys;obtain⟨a,vs,rfl,sa,ra,_⟩:=rx;obtain⟨b,us,rfl,sb,rb,_⟩:=ry
  change (if xs.length+ys.length<=yR then _ else _)=_ at hf
  by_cases c:xs.length+ys.length<=yR
  ·rw[zP c]at hf;cases hf;have c':(xs++ys).length<=sizeLine:=by rw[xy,xC]; exact c
   refine .inr (.inr (.inr (.inl ⟨a,b,vs,us,rfl,rfl,wZ s sa,wZ s sb,by rw[ra.length,rb.length,xy]; exact c,λp hp=>?_⟩)));exact q _ _ _ (zW.lay s hp) ⟨p,vs++us,rfl,yj.of yr,(ra.append rb).mono (wn (s.free hp) _),c'⟩
  ·rw[zV c]at hf;cases hf
theorem NX{α:Type}{xs:List α}{i:Int}{x:α}(h:tS xs i=some x):∃j:Nat,xs[j]?=some x/\∀{β:Type}(ys:List β),ys.length=xs.length->tS ys i=ys[j]?:=by
 unfold tS at h;cases e:ixN xs.length i with
 |none=>rw[e]at h; cases h
 |some j=>
  rw[e]at h;exact⟨j,h,λys l=>by unfold tS; rw[l,e]; rfl⟩
theorem DY{α:Type}(xs:List α)(i:Int):tS xs i=vH xs i:=by
 unfold tS vH ixN;by_cases h:0<=i
 ·rw[zP h,zP h];by_cases h2:i<xs.length
  ·rw[zP h2]; rfl
  ·rw[zV h2];exact(pp (by omega)).symm
 ·rw[zV h,zV h]
  split<;>rfl
theorem Ly{H:Hp}{ds:List D}{vs:List V}{i:Int}{d:D}(r:Reps K H ds vs)(h:vH ds i=some d):∃v,tS vs i=some v/\zf K H d v:=by
 rw[<-DY]at h;obtain⟨j,e,k⟩:=NX h;obtain⟨v,ev,rv⟩:=r.get e;exact⟨v,by rw[k vs r.length]; exact ev,rv⟩
noncomputable def RH:D->D->Option D
 |.lst xs,.int i=>vH xs i
 |.tup xs,.int i=>vH xs i
 |.str z,.int i=>(vH z.cps.toList i).bind λc=>some (.str ⟨#[c]⟩)
 |_,_=>none
theorem Lb:vS K (Lr K) RH:=λG H x y u v d Q s rx ry hf q=>by
 cases x<;>first|(cases hf; done)|skip
 all_goals (cases y<;>first|(cases hf; done)|skip)
 ·rename_i z i;obtain⟨rfl,l⟩:=rx;cases ry;obtain⟨c,hc,hf⟩:=zQ hf;cases hf;rw[<-DY]at hc;exact .inr (.inr ⟨z,i,c,rfl,rfl,l,hc,q _ _ _ (zW.refl s) ⟨rfl,small (n:=1) (by decide)⟩⟩)
 ·rename_i xs i;obtain⟨a,vs,rfl,sa,ra,_⟩:=rx;cases ry;obtain⟨w,hw,rw_⟩:=Ly ra hf;exact .inr (.inl ⟨a,vs,i,w,rfl,rfl,vh s sa,hw,q _ _ _ (zW.refl s) rw_⟩)
 ·rename_i xs i;obtain⟨a,vs,rfl,sa,ra,_⟩:=rx;cases ry;obtain⟨w,hw,rw_⟩:=Ly ra hf;exact .inl ⟨a,vs,i,w,rfl,rfl,wZ s sa,hw,q _ _ _ (zW.refl s) rw_⟩
theorem we:wX X (.builtin "len") (λxs H Q=>(∃p ys,xs=[.ref p]/\(yj X.K H p ys\/xH X.K H p ys)/\Q (.int ys.length) H)\/∃z,xs=[.str z]/\z.length<=sizeLine/\Q (.int z.length) H):=Nv.or Nw
theorem wg:gx K (λxs H Q=>(∃p ys,xs=[.ref p]/\(yj K H p ys\/xH K H p ys)/\Q (.int ys.length) H)\/∃z,xs=[.str z]/\z.length<=sizeLine/\Q (.int z.length) H) xq:=λG H ds vs d Q s r hf q=>by
 match ds,hf with
 | [.lst xs],hf=>
  cases hf;obtain⟨v,r',rfl,⟨a,us,rfl,sq,ru,_⟩,h2⟩:=r;cases(show r'=[]from h2);exact .inl ⟨a,us,rfl,.inl sq,by rw[ru.length]; exact q _ _ _ (zW.refl s) rfl⟩
 | [.tup xs],hf=>
  cases hf;obtain⟨v,r',rfl,⟨a,us,rfl,sq,ru,_⟩,h2⟩:=r;cases(show r'=[]from h2);exact .inl ⟨a,us,rfl,.inr sq,by rw[ru.length]; exact q _ _ _ (zW.refl s) rfl⟩
 | [.str z],hf=>
  cases hf;obtain⟨v,r',rfl,⟨rfl,l⟩,h2⟩:=r;cases(show r'=[]from h2);exact .inr ⟨z,rfl,l,q _ _ _ (zW.refl s) rfl⟩
theorem bg:gx K (λxs H Q=>∃i j,xs=[.int i,.int j]/\Q (.int (if j>i then j else i)) H) UG:=λG H ds vs d Q s r hf q=>by
 match ds,hf with
 | [.int i,.int j],hf=>
  cases hf;obtain⟨v,r',rfl,rfl,⟨v2,r2,rfl,rfl,h2⟩⟩:=r;cases(show r2=[]from h2);exact⟨i,j,rfl,q _ _ _ (zW.refl s) rfl⟩
theorem bi:gx K (λxs H Q=>∃i j,xs=[.int i,.int j]/\Q (.int (if j<i then j else i)) H) UH:=λG H ds vs d Q s r hf q=>by
 match ds,hf with
 | [.int i,.int j],hf=>
  cases hf;obtain⟨v,r',rfl,rfl,⟨v2,r2,rfl,rfl,h2⟩⟩:=r;cases(show r2=[]from h2);exact⟨i,j,rfl,q _ _ _ (zW.refl s) rfl⟩
theorem YR:gx K (λxs H Q=>(∃i,xs=[.int i]/\Q (.int i) H)\/∃k,xs=[.bl k]/\Q (.int (if k then 1 else 0)) H) qO:=λG H ds vs d Q s r hf q=>by
 match ds,hf with
 | [.int i],hf=>
  cases hf;obtain⟨v,r',rfl,rfl,h2⟩:=r;cases(show r'=[]from h2);exact .inl ⟨i,rfl,q _ _ _ (zW.refl s) rfl⟩
 | [.bl k],hf=>
  cases hf;obtain⟨v,r',rfl,rfl,h2⟩:=r;cases(show r'=[]from h2);exact .inr ⟨k,rfl,q _ _ _ (zW.refl s) rfl⟩
end
theorem Dv:∀xs ys:List D,(((List.range (min xs.length ys.length)).all λj=>yt (xs.getD j .zD) (ys.getD j .zD))&&xs.length==ys.length)=dEqs xs ys
 | [],[]=>rfl
 | [],_::_=>rfl
 |_::_,[]=>rfl
 |x::xs,y::ys=>by
  have ih:=Dv xs ys;show _=(yt x y&&dEqs xs ys);rw[<-ih,xg,xg,Nat.succ_min_succ,List.range_succ_eq_map,wp,List.all_map,Bool.and_assoc]
  congr 1
  congr 1
  rw[Wo];simp
theorem Dt{f:D->D->Bool}:∀{xs ys:List D},t5 f xs ys=true->∀(j:Nat) x y,xs[j]?=some x->ys[j]?=some y->f x y=true
 | [],_,_,j,x,y,e,_=>by cases e
 |x::xs,[],_,j,_,y,_,e=>by cases e
 |x::xs,y::ys,h,0,_,_,e1,e2=>by
  cases e1;cases e2;have h':(f x y&&t5 f xs ys)=true:=h;rw[xS]at h';exact h'.1
 |x::xs,y::ys,h,j+1,a,b,e1,e2=>by
  have h':(f x y&&t5 f xs ys)=true:=h;rw[xS]at h';exact Dt h'.2 j a b (by simpa using e1) (by simpa using e2)
section
variable{X:Cx}{z8:List (Addr×Obj)}{σ:St}{H:Hp}{s:Shared}{K:W.Frag}
theorem Oc{n:Nat}(ih:∀d1 d2 v,vJ n d1 d2=true->zf K H d1 v->zf K H d2 v->yt d1 d2=true):∀{xs ys:List D}{vs:List V},t5 (vJ n) xs ys=true->Reps K H xs vs->Reps K H ys vs->dEqs xs ys=true
 | [],[],_,_,_,_=>rfl
 | [],_::_,_,_,r1,r2=>by
  cases(show _=[]from r1);obtain⟨_,_,e,_⟩:=r2;cases e
 |_::_,[],_,_,r1,r2=>by
  cases(show _=[]from r2);obtain⟨_,_,e,_⟩:=r1;cases e
 |x::xs,y::ys,_,h,r1,r2=>by
  obtain⟨v,r,rfl,a,b⟩:=r1;obtain⟨v',r',e,a',b'⟩:=r2;cases e;have h':(vJ n x y&&t5 (vJ n) xs ys)=true:=h;rw[xS]at h';show(yt x y&&dEqs xs ys)=true;rw[ih x y v h'.1 a a',Oc ih h'.2 b b'];rfl
theorem OT{n:Nat}{x y:D}(h:vJ (n+1) x y=true):(∃xs ys,x=.tup xs/\y=.tup ys/\t5 (vJ n) xs ys=true)\/(∃xs ys,x=.lst xs/\y=.lst ys/\t5 (vJ n) xs ys=true)\/(yY x=true/\yY y=true):=by
 unfold vJ at h
 split at h
 ·exact .inl ⟨_,_,rfl,rfl,h⟩
 ·exact .inr (.inl ⟨_,_,rfl,rfl,h⟩)
 ·rw[xS]at h;exact .inr (.inr h)
theorem gN{d:D}{v:V}(h:yY d=true)(r:zf K H d v):uE v=true:=by
 cases d<;>first|exact absurd h xf|skip
 ·cases(show v=_ from r); rfl
 ·cases(show v=_ from r); rfl
 ·cases(show v=_ from r); rfl
 ·cases(show v=_/\_ from r).1; rfl
theorem ZC{d1 d2:D}{x y:V}(h1:yY d1=true)(h2:yY d2=true)(r1:zf K H d1 x)(r2:zf K H d2 y):vU x y=yt d1 d2:=by
 cases d1<;>first|exact absurd h1 xf|skip
 all_goals (cases d2<;>first|exact absurd h2 xf|skip)
 all_goals first
  |(cases(show x=_ from r1); cases(show y=_ from r2); rfl)
  |(cases(show x=_ from r1); cases(show y=_/\_ from r2).1; rfl)
  |(cases(show x=_/\_ from r1).1; cases(show y=_ from r2); rfl)
  |(cases(show x=_/\_ from r1).1; cases(show y=_/\_ from r2).1; rfl)
theorem UE(I:Inv X z8 σ H s):∀(n:Nat)(d1 d2:D)(v:V),vJ n d1 d2=true->zf X.K H d1 v->zf X.K H d2 v->yt d1 d2=true
 |0,_,_,_,h,_,_=>by cases h
 |n+1,d1,d2,v,h,r1,r2=>by
  rcases OT h with⟨xs,ys,rfl,rfl,h⟩|⟨xs,ys,rfl,rfl,h⟩|⟨f1,f2⟩
  ·obtain⟨a,vs,rfl,s1,q1,_⟩:=r1;obtain⟨a',us,e,s2,q2,_⟩:=r2;cases e;cases I.JT s1 s2;exact Oc (λd1 d2 v=>UE I n d1 d2 v) h q1 q2
  ·obtain⟨a,vs,rfl,s1,q1,_⟩:=r1;obtain⟨a',us,e,s2,q2,_⟩:=r2;cases e;cases I.VA s1 s2;exact Oc (λd1 d2 v=>UE I n d1 d2 v) h q1 q2
  ·rw[<-ZC f1 f2 r1 r2];exact RE (gN f1 r1)
theorem FY{α:Type}{xs:List α}{j:Nat}{x d:α}(h:xs[j]?=some x):xs.getD j d=x:=by rw[vF,h]; rfl
theorem T_{A:Around}{n:Nat}{a c:Addr}{xs ys:List D}{vs us:List V}(I:Inv X z8 σ H s)(hu:A.units<cLine)(hq:DQ X.K H a c vs us)(q1:Reps X.K H xs vs)(q2:Reps X.K H ys us)(h:t5 (vJ n) xs ys=true)
  (ih:∀(d1 d2:D)(x y:V)(u v:Value),vJ n d1 d2=true->zf X.K H d1 x->zf X.K H d2 y->yB x u->yB y v->SeqAt.EqAt A.in1 s u v (yt d1 d2)):SeqAt.RcAt A s (.ref a) (.ref c) (dEqs xs ys)/\SeqAt.RcNeAt A s (.ref a) (.ref c) (!dEqs xs ys):=by
 have z:=fA (A:=A) (e:=λj=>yt (xs.getD j .zD) (ys.getD j .zD)) I hu hq λj x' y' u' v' e1 e2 w1 w2=>by
  obtain⟨d1,g1,t1⟩:=q1.at e1;obtain⟨d2,g2,t2⟩:=q2.at e2;show SeqAt.EqAt A.in1 s u' v' (yt (xs.getD j .zD) (ys.getD j .zD));rw[FY g1,FY g2];exact ih d1 d2 x' y' u' v' (Dt h j d1 d2 g1 g2) t1 t2 w1 w2
 rw[q1.length,q2.length,Dv]at z;exact z
theorem UC(I:Inv X z8 σ H s):∀(n:Nat)(A:Around)(d1 d2:D)(x y:V)(u v:Value),A.units+n<cLine->vJ n d1 d2=true->zf X.K H d1 x->zf X.K H d2 y->yB x u->yB y v->SeqAt.EqAt A s u v (yt d1 d2)
 |0,_,_,_,_,_,_,_,_,h,_,_,_,_=>by cases h
 |n+1,A,d1,d2,x,y,u,v,hu,h,r1,r2,rx,ry=>by
  have h0:=h;have ra:=r1;have rb:=r2;rcases OT h with⟨xs,ys,rfl,rfl,h⟩|⟨xs,ys,rfl,rfl,h⟩|⟨f1,f2⟩
  ·obtain⟨a,vs,rfl,s1,q1,l1⟩:=r1;obtain⟨c,us,rfl,s2,q2,l2⟩:=r2;cases(show u=Value.ref a from rx);cases(show v=Value.ref c from ry);by_cases hac:a=c
   ·subst hac;rw[UE I (n+1) _ _ _ h0 ra rb];exact Bz _
   ·exact SeqAt.EqAt.of_refs hac (T_ I (by omega) (.inl ⟨s1,s2⟩) q1 q2 h λd1 d2 x y u v hh t1 t2 w1 w2=>UC I n A.in1 d1 d2 x y u v (by rw[T6]; omega) hh t1 t2 w1 w2).1
  ·obtain⟨a,vs,rfl,s1,q1,l1⟩:=r1;obtain⟨c,us,rfl,s2,q2,l2⟩:=r2;cases(show u=Value.ref a from rx);cases(show v=Value.ref c from ry);by_cases hac:a=c
   ·subst hac;rw[UE I (n+1) _ _ _ h0 ra rb];exact Bz _
   ·exact SeqAt.EqAt.of_refs hac (T_ I (by omega) (.inr ⟨s1,s2⟩) q1 q2 h λd1 d2 x y u v hh t1 t2 w1 w2=>UC I n A.in1 d1 d2 x y u v (by rw[T6]; omega) hh t1 t2 w1 w2).1
  ·rw[<-ZC f1 f2 r1 r2];exact FB rx ry (gN f1 r1) (gN f2 r2)
end
noncomputable def Ty(K:W.Frag)(neg:Bool):R2:=λx y H Q=>∃d1 d2 k,zf K H d1 x/\zf K H d2 y/\jC d1 d2=some k/\Q (.bl (if neg then !k else k)) H
theorem xF{A:Around}{k:Nat}(hr:xl k A):A.units+7<cLine:=Bu (Kt (by decide:7<=64) _) hr.units
section
variable{X:Cx}{K:W.Frag}
theorem Od{d1 d2:D}{k:Bool}(h:jC d1 d2=some k):vJ 6 d1 d2=true/\k=yt d1 d2:=by
 unfold jC at h
 split at h
 ·cases h
 ·cases h
 ·split at h
  ·rename_i e;cases h;exact⟨e,rfl⟩
  ·cases h
theorem Gu{H:Hp}{d1 d2:D}{x y:V}{k:Bool}(h:jC d1 d2=some k)(h1:yY d1=true)(h2:yY d2=true)(r1:zf K H d1 x)(r2:zf K H d2 y):B1 x y=true/\decide (x=y)=k:=by
 obtain⟨_,e⟩:=Od h;subst e;cases d1<;>first|exact absurd h1 xf|skip
 all_goals (cases d2<;>first|exact absurd h2 xf|(cases h; done)|skip)
 all_goals first
  |(cases(show x=_ from r1); cases(show y=_ from r2); exact⟨rfl,by first|rfl|exact OX|exact OW⟩)
  |(cases(show x=_ from r1); cases(show y=_/\_ from r2).1; exact⟨rfl,rfl⟩)
  |(cases(show x=_/\_ from r1).1; cases(show y=_ from r2); exact⟨rfl,rfl⟩)
  |(cases(show x=_/\_ from r1).1; cases(show y=_/\_ from r2).1; exact⟨rfl,OY⟩)
theorem FD{z8:List (Addr×Obj)}{σ:St}{H:Hp}{s:Shared}{A:Around}{d1 d2:D}{x y:V}{u v:Value}(I:Inv X z8 σ H s)(hu:A.units+7<cLine)(h:vJ 6 d1 d2=true)(hf:¬ (yY d1&&yY d2)=true)(r1:zf X.K H d1 x)(r2:zf X.K H d2 y)(rx:yB x u)(ry:yB y v) :
  SeqAt.RcAt A s u v (yt d1 d2)/\SeqAt.RcNeAt A s u v (!yt d1 d2):=by
 rcases OT h with⟨xs,ys,rfl,rfl,h⟩|⟨xs,ys,rfl,rfl,h⟩|⟨f1,f2⟩
 ·obtain⟨a,vs,rfl,s1,q1,l1⟩:=r1;obtain⟨c,us,rfl,s2,q2,l2⟩:=r2;cases(show u=Value.ref a from rx);cases(show v=Value.ref c from ry);exact T_ I (by omega) (.inl ⟨s1,s2⟩) q1 q2 h λd1 d2 x y u v hh t1 t2 w1 w2=>UC I 5 A.in1 d1 d2 x y u v (by rw[T6]; omega) hh t1 t2 w1 w2
 ·obtain⟨a,vs,rfl,s1,q1,l1⟩:=r1;obtain⟨c,us,rfl,s2,q2,l2⟩:=r2;cases(show u=Value.ref a from rx);cases(show v=Value.ref c from ry);exact T_ I (by omega) (.inr ⟨s1,s2⟩) q1 q2 h λd1 d2 x y u v hh t1 t2 w1 w2=>UC I 5 A.in1 d1 d2 x y u v (by rw[T6]; omega) hh t1 t2 w1 w2
 ·exact absurd (by rw[f1,f2]; rfl) hf
theorem wE(hu:X.A.units+7<cLine):yi X (compareOp .Eq) (Ty X.K false):=by
 intro z8 s σ H x y v u Q I rx ry h;obtain⟨d1,d2,k,r1,r2,hk,q⟩:=h;by_cases hf:(yY d1&&yY d2)=true
 ·have hf':=hf;rw[xS]at hf';obtain⟨a,b⟩:=Gu hk hf'.1 hf'.2 r1 r2;exact cF z8 s σ H x y v u Q I rx ry ⟨a,by rw[b]; exact q⟩
 ·obtain⟨hc,rfl⟩:=Od hk;exact(FD I hu hc hf r1 r2 rx ry).1 _ _ _ _ ⟨.bl _,H,I,rfl,q⟩
theorem ug(hu:X.A.units+7<cLine):yi X (compareOp .NotEq) (Ty X.K true):=by
 intro z8 s σ H x y v u Q I rx ry h;obtain⟨d1,d2,k,r1,r2,hk,q⟩:=h;by_cases hf:(yY d1&&yY d2)=true
 ·have hf':=hf;rw[xS]at hf';obtain⟨a,b⟩:=Gu hk hf'.1 hf'.2 r1 r2;exact cK z8 s σ H x y v u Q I rx ry ⟨a,by rw[b]; exact q⟩
 ·obtain⟨hc,rfl⟩:=Od hk;exact(FD I hu hc hf r1 r2 rx ry).2 _ _ _ _ ⟨.bl _,H,I,rfl,q⟩
theorem wD:qG K (Ty K false) zo:=λH x y u v d Q rx ry hf=>by
 obtain⟨k,hk,hf⟩:=zQ hf;cases hf;exact⟨_,rfl,λq=>⟨x,y,k,rx,ry,hk,q⟩⟩
theorem ue:qG K (Ty K true) xA:=λH x y u v d Q rx ry hf=>by
 obtain⟨k,hk,hf⟩:=zQ hf;cases hf;exact⟨_,rfl,λq=>⟨x,y,k,rx,ry,hk,q⟩⟩
end
theorem A9{K:W.Frag}:W.kitOne K (.type "NoneType") (.type "str")=some false/\W.kitOne K (.type "NoneType") (.type "list")=some false/\W.kitOne K (.type "NoneType") (.type "tuple")=some false/\
  W.kitOne K (.type "bool") (.type "str")=some false/\W.kitOne K (.type "bool") (.type "list")=some false/\W.kitOne K (.type "bool") (.type "tuple")=some false/\
  W.kitOne K (.type "int") (.type "str")=some false/\W.kitOne K (.type "int") (.type "list")=some false/\W.kitOne K (.type "int") (.type "tuple")=some false:=by refine⟨?_,?_,?_,?_,?_,?_,?_,?_,?_⟩<;>kernel_rfl
theorem AB{K:W.Frag}:W.kitOne K (.type "str") (.type "int")=some false/\W.kitOne K (.type "str") (.type "bool")=some false/\W.kitOne K (.type "str") (.type "list")=some false/\W.kitOne K (.type "str") (.type "tuple")=some false/\
  W.kitOne K (.type "list") (.type "int")=some false/\W.kitOne K (.type "list") (.type "bool")=some false/\W.kitOne K (.type "list") (.type "str")=some false/\W.kitOne K (.type "list") (.type "tuple")=some false/\W.kitOne K (.type "list") (.type "list")=some true:=by refine⟨?_,?_,?_,?_,?_,?_,?_,?_,?_⟩<;>first|kernel_rfl|rfl
theorem AC{K:W.Frag}:W.kitOne K (.type "tuple") (.type "int")=some false/\W.kitOne K (.type "tuple") (.type "bool")=some false/\W.kitOne K (.type "tuple") (.type "list")=some false/\W.kitOne K (.type "tuple") (.type "str")=some false:=by refine⟨?_,?_,?_,?_⟩<;>kernel_rfl
noncomputable def oU:D->String
 |.zD => "NoneType"
 |.bl _ => "bool"
 |.int _ => "int"
 |.str _ => "str"
 |.tup _ => "tuple"
 |.lst _ => "list"
 |.dic _ _ => "dict"
 |.exc _ => "x"
 |.obj _ _ _ => "x"
theorem YN{K:W.Frag}{T:ju}{d:D}{b:Bool}(h:kx T d=some b):W.kitOne K (.type (oU d)) (.type T.nm)=some b:=by
 obtain⟨x1,x2,x3,x4,x5,x6,x7,x8,x9⟩:=A9 (K:=K);obtain⟨y1,y2,y3,y4,y5,y6,y7,y8,y9⟩:=AB (K:=K);obtain⟨z1,z2,z3,z4⟩:=AC (K:=K);cases T<;>cases d<;>cases h
 all_goals first|exact A4|exact A2|exact A3|exact A1|exact A6|exact A5|exact A8|exact A7|assumption
noncomputable def eV(K:W.Frag)(T:ju):List V->Hp->VK->Prop:=λxs H Q=>∃x d b,xs=[x,.ty T.nm]/\zf K H d x/\kx T d=some b/\Q (.bl b) H
theorem Nu{X:Cx}(T:ju):wX X (.builtin "isinstance") (eV X.K T):=by
 intro z8 s σ H xs us Q I r h;obtain⟨x,d,b,rfl,rd,e,q⟩:=h;obtain⟨u,c,rfl,rx,rc⟩:=QZ r;cases(show c=Value.type T.nm from rc);have fin:∀tk,EP X z8 σ Q (.bool b) { s with toks:=tk }:=λtk=>⟨.bl b,H,I.tok tk,rfl,q⟩
 cases d with
 |zD=>cases(show x=_ from rd); exact T8 I rx .zD (YN (d:=.zD) e) fin
 |bl y=>cases(show x=_ from rd); exact T8 I rx (.bl _) (YN (d:=.bl y) e) fin
 |int y=>cases(show x=_ from rd); exact T8 I rx (.int _) (YN (d:=.int y) e) fin
 |str y=>cases(show x=_/\_ from rd).1; exact T8 I rx (.str _) (YN (d:=.str y) e) fin
 |tup ds=>
  obtain⟨a,vs,rfl,sq,_⟩:=rd;cases(show u=Value.ref a from rx);obtain⟨its,_,⟨o,h1,h2,_⟩,_⟩:=I.tuple sq;exact W.kia_one W.kitx_tuple I.w8 ⟨o,h1,h2⟩ (YN (d:=.tup ds) e) (λz=>nomatch z) fin
 |lst ds=>
  obtain⟨a,vs,rfl,sq,_⟩:=rd;cases(show u=Value.ref a from rx);obtain⟨its,_,⟨o,n,h1,h2,_⟩,_⟩:=I.list sq;exact W.kia_one W.kitx_list I.w8 ⟨o,h1,h2⟩ (YN (d:=.lst ds) e) (λz=>nomatch z) fin
 |dic ks ds=>cases T<;>cases e
 |exc _=>cases T<;>cases e
 |obj _ _ _=>cases T<;>cases e
theorem B3{X:Cx}{a:Expr}{f:FE}{x:Str}{p p1 pos:Pos}(T:ju)(hg:Gl X "isinstance")(hgT:Gl X x)(hm:X.mg "isinstance" = none)(hmT:X.mg x=none)(hv:bootBuiltins x=some (.type T.nm))(ha:SB X a f)(hs:xJ a=true:=by rfl)
  (hn:x ≠ "__name__" := by decide)(hd:(x==("__debug__" : Str))=false:=by decide):SE X (.Call (.Name "isinstance" p) [a,.Name x p1] [] pos) (g7 T f):=by
 obtain⟨t,pt,k⟩:=ha.h;refine⟨⟨_,(Ln (Nu T) hg hm Np (Lm ⟨pt⟩ (Lm (eG hgT hmT hv hn hd) G8 rfl) hs) (by decide) (by decide) (by rw[wp,hs]; rfl)).h,λ{G0 H0 G H τ σ d Q} E hf q=>?_⟩⟩;obtain⟨z,hz,hf⟩:=zQ hf;obtain⟨b,hb,hf⟩:=zQ hf;cases hf;exact k E hz λv G' H' x r=>⟨v,z,b,rfl,r,hb,q _ _ _ x rfl⟩
end L3
namespace L3
open PySem
theorem BN{c:FT}{b:FS}:∀{n:Nat}{σ:yT}{fl:Fl}(k:Nat),uO c b n σ=some fl->uO c b (n+k) σ=some fl
 |0,_,_,_,h=>by cases h
 |n+1,σ,fl,k,h=>by
  rw[Nat.succ_add];unfold uO at h ⊢;cases hc:c σ with
  |none=>rw[hc]at h; cases h
  |some kk=>
   rw[hc]at h;cases kk with
   |false=>exact h
   |true=>
    change (b σ).bind _=_ at h
    show(b σ).bind _=_;cases hb:b σ with
    |none=>rw[hb]at h; cases h
    |some f=>
     rw[hb]at h;cases f with
     |nx τ=>exact BN k h
     |ct τ=>exact BN k h
     |bk τ=>exact h
     |rt o d=>exact h
theorem M1{c:FT}{b:FS}{σ:yT}{fl:Fl}(n:Nat)(h:uO c b n σ=some fl)(hn:n<=Vg:=by decide):WT c b σ=some fl:=by
 have e:=BN (Vg-n) h;rw[Nat.add_sub_of_le hn]at e;exact e
theorem BM{c:FT}{b:FS}{σ σ':yT}{n:Nat}(hc:c σ=some true)(hb:b σ=some (.nx σ')):uO c b (n+1) σ=uO c b n σ':=by
 show(c σ).bind _=_;rw[hc];show(b σ).bind _=_;rw[hb];rfl
theorem BL{c:FT}{b:FS}{σ:yT}{n:Nat}(hc:c σ=some false):uO c b (n+1) σ=some (.nx σ):=by
 show(c σ).bind _=_;rw[hc];rfl
theorem tW{g:FG}{b:FS}(P:Nat->yT->Prop):∀{ds:List D}{σ:yT}(n:Nat),P n σ->(∀i d σ,ds[i]?=some d->P (n+i) σ->∃σ1 σ2,g d σ=some σ1/\(b σ1=some (.nx σ2)\/b σ1=some (.ct σ2))/\P (n+i+1) σ2)->
  ∃σ',ub g b ds σ=some (.nx σ')/\P (n+ds.length) σ'
 | [],σ,n,h,_=>⟨σ,rfl,h⟩
 |d::ds,σ,n,h,step=>by
  obtain⟨σ1,σ2,e1,e2,p2⟩:=step 0 d σ rfl h
  obtain⟨σ',e3,p3⟩:=tW P (ds:=ds) (σ:=σ2) (n+1) p2 λi d' τ hd hp=>by
   obtain⟨a,b',c1,c2,c3⟩:=step (i+1) d' τ (by simpa using hd) (by rw[show n+(i+1)=n+1+i by omega]; exact hp);exact⟨a,b',c1,c2,by rw[show n+1+i+1=n+(i+1)+1 by omega]; exact c3⟩
  refine⟨σ',?_,by rw[xg,show n+(ds.length+1)=n+1+ds.length by omega]; exact p3⟩;show(g d σ).bind _=_;rw[e1];show(b σ1).bind _=_;rcases e2 with e2|e2
  ·rw[e2]; exact e3
  ·rw[e2]; exact e3
theorem gR{a b:FS}{σ σ':yT}(h:a σ=some (.nx σ')):zK a b σ=b σ':=by
 show(a σ).bind _=_;rw[h];rfl
theorem SM{c:FT}{a b:FS}{σ:yT}(h:c σ=some true):zt c a b σ=a σ:=by
 show(c σ).bind _=_;rw[h];rfl
noncomputable abbrev wo(j:Nat):List D:=(List.range j).map λk:Nat=>D.int k
theorem ZB{f:FE}{τ:yT}{n:Int}(h:f τ=some (.int n))(h1:n.natAbs<=1000000):uZ (eC (.int 0)) f τ=some (wo n.toNat):=by
 unfold uZ;rw[h];show(if(0:Int).natAbs<=yR/\n.natAbs<=yR/\(n-0).toNat<=yR then _ else _)=_;rw[zP ⟨by decide,by show _<=16777216; omega,by show _<=16777216; omega⟩,Bg];simp only[Int.zero_add]
end L3
namespace L3
noncomputable def shx:=
 And.intro ya.eq_1<|And.intro zK.eq_1<|And.intro zY.eq_1<|And.intro vX.eq_1<|And.intro zr.eq_1<|And.intro gO.eq_1<|And.intro qZ.eq_1<|And.intro zt.eq_1<|And.intro yJ.eq_1<|And.intro qY.eq_1 <|
 And.intro Gh.eq_1<|And.intro wK.eq_1<|And.intro wm.eq_1<|And.intro ub.eq_1<|And.intro ub.eq_2<|And.intro e1.eq_1<|And.intro e2.eq_1<|And.intro eL.eq_1<|And.intro eC.eq_1<|And.intro z7.eq_1<|And.intro vt.eq_1 <|
 And.intro zB.eq_1<|And.intro zF.eq_1<|And.intro tE.eq_1<|And.intro k5.eq_def<|And.intro ZO.eq_1<|And.intro tG.eq_1<|And.intro ZP.eq_1<|And.intro F0.eq_1<|And.intro F3.eq_1<|And.intro F2.eq_1<|And.intro qM.eq_1 <|
 And.intro yq.eq_1<|And.intro ym.eq_1<|And.intro g7.eq_1<|And.intro kx.eq_def<|And.intro fI.eq_def<|And.intro wY.eq_def<|And.intro xE.eq_def<|And.intro Xk.eq_1<|And.intro qP.eq_1<|And.intro yL.eq_1<|And.intro xR.eq_1 <|
 And.intro uD.eq_1<|And.intro g8.eq_1<|And.intro UJ.eq_1<|And.intro qN.eq_def<|And.intro wf.eq_def<|And.intro xq.eq_def<|And.intro qO.eq_def<|And.intro Y5.eq_def<|And.intro kF.eq_def<|And.intro ku.eq_def <|
 And.intro yD.eq_1<|And.intro vV.eq_1<|And.intro vy.eq_1<|And.intro za.eq_1<|And.intro g6.eq_1<|And.intro wx.eq_1 <|
 And.intro @Option.bind_some.{0,0} <| And.intro @Option.bind_none.{0,0} <| And.intro @Ke.{0} <| And.intro @Kd.{0} <| And.intro @Kr.{0} <| And.intro @Kq.{0} <| And.intro @xY.{0,0} <| And.intro @qj.{0,0} <|
 And.intro @pj.{0} <| And.intro @gi.{0} <| And.intro @xg.{0} <| And.intro @gc.{0} <| And.intro @Bt.{0} <| And.intro @Ko.{0} <| And.intro BW<|And.intro BV <|
 And.intro @W_<|And.intro @Wz<|And.intro Qt<|And.intro Qu pZ
open PySem PySem.Spec PyProof.Rows L2
section
variable{α:Type}
theorem KM:∀{ks:List zb}{vs:List α}(k:zb),ks.length=vs.length->((ks.zip vs).any λkv=>decide (kv.1=k))=wB ks k
 | [],[],_,_=>rfl
 |k'::ks,v::vs,k,h=>by
  have ih:=KM (ks:=ks) (vs:=vs) k (by simpa using h);show(decide (k'=k)||((ks.zip vs).any λkv=>decide (kv.1=k)))=(decide (k'=k)||wB ks k);rw[ih]
theorem Wl:∀{ks:List zb}{vs:List V}(k:zb),ks.length=vs.length->uo (ks.zip vs) k=getK ks vs k
 | [],[],_,_=>rfl
 |k'::ks,v::vs,k,h=>by
  have ih:=Wl (ks:=ks) (vs:=vs) k (by simpa using h);by_cases e:k'=k
  ·rw[Wu,QY (p:=(k',v)) e];show _=(if k'=k then some v else _);rw[zP e]
  ·rw[Wu,QW (p:=(k',v)) e,ih];show _=(if k'=k then some v else _);rw[zV e]
theorem KO:∀{ks:List zb}{vs:List V}(k:zb)(v:V),ks.length=vs.length->((ks.zip vs).map λkv=>if kv.1=k then(kv.1,v)else kv)=ks.zip (List.zipWith (λk' x=>if k'=k then v else x) ks vs)
 | [],[],_,_,_=>rfl
 |k'::ks,u::vs,k,v,h=>by
  have ih:=KO (ks:=ks) (vs:=vs) k v (by simpa using h);rw[Wu,xY,ih,ql,Wu];by_cases e:k'=k
  ·rw[zP e,zP e]
  ·rw[zV e,zV e]
theorem sy{ks:List zb}{vs:List V}{k:zb}{v:V}(h:ks.length=vs.length):tZ (ks.zip vs) k v=(uh ks k).zip (vW ks vs k v):=by
 unfold tZ uh vW;rw[KM k h];by_cases c:wB ks k=true
 ·rw[zP c,zP c,zP c,KO k v h]
 ·rw[zV c,zV c,zV c,List.zip_append h];rfl
theorem E_{ks:List zb}{vs:List α}{k:zb}{v:α}(h:ks.length=vs.length):(uh ks k).length=(vW ks vs k v).length:=by
 unfold uh vW
 split
 ·rw[gg,h,qm]
 ·rw[xC,xC,h];rfl
theorem e7{ks:List zb}{vs:List α}{k:zb}{v:α}(h:ks.length=vs.length):(vW ks vs k v).length<=vs.length+1:=by
 unfold vW
 split
 ·rw[gg,h,qm];exact JB _
 ·rw[xC];exact y0 _
end
section
variable{K:W.Frag}{G H:Hp}
theorem Reps.getK:∀{ks:List zb}{ds:List D}{vs:List V}{k:zb}{d:D},Reps K H ds vs->getK ks ds k=some d->∃v,getK ks vs k=some v/\zf K H d v
 | [],_,_,_,_,_,e=>by cases e
 |_::_,[],_,_,_,_,e=>by cases e
 |k'::ks,d'::ds,_,k,d,r,e=>by
  obtain⟨v,r',rfl,hv,hr⟩:=r
  change (if k'=k then some d' else L3.getK ks ds k)=some d at e
  by_cases c:k'=k
  ·rw[zP c]at e;cases e;exact⟨v,by show(if k'=k then some v else _)=_; rw[zP c],hv⟩
  ·rw[zV c]at e;obtain⟨u,hu,ru⟩:=Reps.getK hr e;exact⟨u,by show(if k'=k then some v else _)=_; rw[zV c]; exact hu,ru⟩
theorem FZ{α:Type}:∀{ks:List zb}{vs:List α}(k:zb),ks.length=vs.length->(getK ks vs k).isSome=wB ks k
 | [],[],_,_=>rfl
 |k'::ks,v::vs,k,h=>by
  have ih:=FZ (ks:=ks) (vs:=vs) k (by simpa using h);show(if k'=k then some v else getK ks vs k).isSome=(decide (k'=k)||_);by_cases c:k'=k
  ·rw[zP c,yb c]; rfl
  ·rw[zV c,yV c,ih]; rfl
theorem Reps.DH{k:zb}{d:D}{v:V}(hv:zf K H d v):∀{ks:List zb}{ds:List D}{vs:List V},Reps K H ds vs->Reps K H (List.zipWith (λk' x=>if k'=k then d else x) ks ds) (List.zipWith (λk' x=>if k'=k then v else x) ks vs)
 | [],_,_,_=>rfl
 |_::_,[],_,r=>by cases(show _=[]from r); rfl
 |k'::ks,d'::ds,_,r=>by
  obtain⟨u,r',rfl,hu,hr⟩:=r;refine⟨_,_,rfl,?_,Reps.DH hv hr⟩;show zf K H (if k'=k then d else d') (if k'=k then v else u);by_cases c:k'=k
  ·rw[zP c,zP c]; exact hv
  ·rw[zV c,zV c]; exact hu
theorem Reps.put{ks:List zb}{ds:List D}{vs:List V}{k:zb}{d:D}{v:V}(r:Reps K H ds vs)(hv:zf K H d v):Reps K H (vW ks ds k d) (vW ks vs k v):=by
 unfold vW
 split
 ·exact Reps.DH hv r
 ·exact r.append (Reps.one hv)
theorem W8{x:D}{k:zb}{u:V}(h:YL x=some k)(r:zf K H x u):u=kV k:=by
 cases x<;>first|(cases h; done)|skip
 ·cases h; exact r
 ·cases h; exact(show u=_/\_ from r).1
end
section
variable{X:Cx}{K:W.Frag}
noncomputable def GH:R2:=λx y H Q=>∃a kvs k v,x=.ref a/\y=kV k/\Rd H a (.dK kvs)/\uo kvs k=some v/\Q v H
theorem Sf:u_ X GH:=by
 intro value slice z8 s σ H x y v u Q I rx ry h hs;obtain⟨a,kvs,k,z,rfl,rfl,e,l,q⟩:=h;cases rx;obtain⟨_,_,vs,rel,dd⟩:=Xi I.zj e;obtain⟨w',hw,rw'⟩:=qH.some_of (v:=z) (o:=valueAt vs k) (by rw[<-l]; exact rel.val k)
 exact JI (x:=w') (R7 I (.inl ⟨kvs,k,e,rfl,rfl⟩)) PySem.F.slot_dict_getitem.lookup
  (wpAny_getItem_of (Q:=λr s'=>r=w'/\EP X z8 σ Q r s') (YK ry) dd.mapOf hw ⟨rfl,z,H,I.tok _,rw',q⟩) hs
noncomputable def GG(K:W.Frag):R2:=λx y H Q=>Lr K x y H Q\/GH x y H Q
theorem zg(_:X.A.units+1<cLine):u_ X (GG X.K):=Sh.or Sf
theorem zh:vS K (GG K) zI:=λG H x y u v d Q s rx ry hf q=>by
 cases x with
 |dic ks ds=>
  obtain⟨a,vs,rfl,sq,l,rs,_⟩:=rx;obtain⟨k,hk,hf⟩:=zQ hf;obtain⟨z,hz,rz⟩:=rs.getK hf;exact .inr ⟨a,_,k,z,rfl,W8 hk ry,Rd.mono s sq,by rw[Wl k l]; exact hz,q _ _ _ (zW.refl s) rz⟩
 |zD=>cases hf
 |bl b=>cases hf
 |int b=>cases hf
 |str z=>exact .inl (Lb G H (.str z) y u v d Q s rx ry (by cases y<;>exact hf) q)
 |tup z=>exact .inl (Lb G H (.tup z) y u v d Q s rx ry (by cases y<;>exact hf) q)
 |lst z=>exact .inl (Lb G H (.lst z) y u v d Q s rx ry (by cases y<;>exact hf) q)
 |exc z=>cases hf
 |obj z _ _=>cases hf
theorem B4{i:Nat}{x:Str}{p pos:Pos}{b:Expr}{fb:FE}(hu:X.A.units+1<cLine)(ho:QE X (.Name x p) (jO i))(hb:SE X b fb)(hs:YU b=true:=by rfl):SE X (.Subscript (.Name x p) b pos) (e2 zI (vt i) fb):=by
 obtain⟨tb,pb,kb⟩:=hb.h;refine⟨⟨_,Lf (zg hu) ho.h pb (Li hs),λ{G0 H0 G H τ σ d Q} E hf q=>?_⟩⟩;obtain⟨x,hx,hf⟩:=zQ hf;obtain⟨y,hy,hf⟩:=zQ hf;obtain⟨o,ho⟩:=OZ hx;cases o with
 |false=>
  obtain⟨v,ev,rv⟩:=E.fr _ _ ho;exact⟨v,ev,kb E hy λu G2 H2 x2 r2=>zh G2 H2 x y v u _ _ x2.gh (rv.mono x2.g) r2 hf λw G' H' x3 r3=>q w G' H' (x2.trans x3) r3⟩
 |true=>
  obtain⟨p,ev,_,_,o⟩:=E.ow _ _ ho;refine⟨_,ev,kb E hy λu G2 H2 x2 r2=>?_⟩;cases x with
  |lst ds=>
   obtain⟨vs,e1,rs,_⟩:=o;cases y<;>first|(cases hf; done)|skip
   rename_i i;obtain⟨w,hw,rw_⟩:=Ly rs hf;cases r2;exact .inl (.inl ⟨p,vs,i,w,rfl,rfl,yj.of (x2.h _ _ e1),hw,q _ _ _ x2 (rw_.mono x2.g)⟩)
  |dic ks ds=>
   obtain⟨vs,e1,l,rs,_⟩:=o;obtain⟨k,hk,hf⟩:=zQ hf;obtain⟨z,hz,rz⟩:=rs.getK hf;exact .inr ⟨p,_,k,z,rfl,W8 hk r2,.inl (x2.h _ _ e1),by rw[Wl k l]; exact hz,q _ _ _ x2 (rz.mono x2.g)⟩
  |_=>exact o.elim
noncomputable def Lq(neg:Bool):R2:=λx y H Q=>∃a kvs k,y=.ref a/\x=kV k/\Rd H a (.dK kvs)/\Q (.bl (if neg then !(uo kvs k).isSome else(uo kvs k).isSome)) H
theorem cG(hu:X.A.units+1<cLine):yi X (compareOp .In) (Lq false):=by
 intro z8 s σ H x y v u Q I rx ry h;obtain⟨a,kvs,k,rfl,rfl,e,q⟩:=h;cases ry;exact Pv hu I (.inl ⟨kvs,k,e,rfl,rfl⟩) rx λs' I'=>⟨.bl _,H,I',rfl,q⟩
theorem cL(hu:X.A.units+1<cLine):yi X (compareOp .NotIn) (Lq true):=by
 intro z8 s σ H x y v u Q I rx ry h;obtain⟨a,kvs,k,rfl,rfl,e,q⟩:=h;cases ry;exact Pw hu I (.inl ⟨kvs,k,e,rfl,rfl⟩) rx λs' I'=>⟨.bl _,H,I',rfl,q⟩
noncomputable def WR(K:W.Frag)(neg:Bool):R2:=λx y H Q=>Lp K neg x y H Q\/(∃i j,x=.str i/\y=.str j/\Q (.bl (if neg then !(!(Builtin.Str.occurrences j i 0 j.length 1).isEmpty)else !(Builtin.Str.occurrences j i 0 j.length 1).isEmpty)) H)\/Lq neg x y H Q
theorem uf(hu:X.A.units+1<cLine):yi X (compareOp .In) (WR X.K false):=cH.or (cI.or (cG hu))
theorem Le(hu:X.A.units+1<cLine):yi X (compareOp .NotIn) (WR X.K true):=cM.or (cN.or (cL hu))
theorem WS{H:Hp}{x:D}{u:V}(hx:yY x=true)(rx:zf K H x u):∀{ys:List D}{vs:List V},Reps K H ys vs->ys.all yY=true->vs.all uE=true/\T7 u vs=ys.any λy=>yt y x
 | [],_,r,_=>by cases(show _=[]from r); exact⟨rfl,rfl⟩
 |y::ys,_,r,h=>by
  obtain⟨v,r',rfl,hv,hr⟩:=r;rw[wp,xS]at h;obtain⟨a,b⟩:=WS hx rx hr h.2;refine⟨by rw[wp,gN h.1 hv,a]; rfl,?_⟩;show(vU v u||T7 u r')=(yt y x||_);rw[ZC h.1 hx hv rx,b]
theorem Fn{neg:Bool}{H:Hp}{x y:D}{u v:V}{k:Bool}{Q:VK}(rx:zf K H x u)(ry:zf K H y v)(hf:jD x y=some k)(q:Q (.bl (if neg then !k else k)) H):WR K neg u v H Q:=by
 cases y with
 |lst ys=>
  obtain⟨a,vs,rfl,sq,rs,_⟩:=ry
  change (match yY x&&ys.all yY with|true=>some (ys.any λy=>yt y x)|false=>none)=some k at hf
  cases c:(yY x&&ys.all yY)with
  |false=>rw[c]at hf; cases hf
  |true=>
   rw[c]at hf;cases hf;rw[xS]at c;obtain⟨c1,c2⟩:=WS c.1 rx rs c.2;exact .inl ⟨a,vs,rfl,.inl sq,gN c.1 rx,c1,by rw[c2]; exact q⟩
 |tup ys=>
  obtain⟨a,vs,rfl,sq,rs,_⟩:=ry
  change (match yY x&&ys.all yY with|true=>some (ys.any λy=>yt y x)|false=>none)=some k at hf
  cases c:(yY x&&ys.all yY)with
  |false=>rw[c]at hf; cases hf
  |true=>
   rw[c]at hf;cases hf;rw[xS]at c;obtain⟨c1,c2⟩:=WS c.1 rx rs c.2;exact .inl ⟨a,vs,rfl,.inr sq,gN c.1 rx,c1,by rw[c2]; exact q⟩
 |str j=>
  cases x<;>first|(cases hf; done)|skip
  rename_i i;cases hf;exact .inr (.inl ⟨i,j,(show u=_/\_ from rx).1,(show v=_/\_ from ry).1,q⟩)
 |dic ks ds=>
  obtain⟨kk,hk,hf⟩:=zQ hf;cases hf;obtain⟨a,vs,rfl,sq,l,rs,_⟩:=ry;refine .inr (.inr ⟨a,_,kk,rfl,W8 hk rx,sq,?_⟩);rw[Wl kk l,FZ kk l];exact q
 |_=>cases hf
theorem ud:qG K (WR K false) yu:=λH x y u v d Q rx ry hf=>by
 obtain⟨k,hk,hf⟩:=zQ hf;cases hf;exact⟨_,rfl,λq=>Fn rx ry hk q⟩
theorem Lc:qG K (WR K true) kE:=λH x y u v d Q rx ry hf=>by
 obtain⟨k,hk,hf⟩:=zQ hf;cases hf;exact⟨_,rfl,λq=>Fn rx ry hk q⟩
theorem G_{pos:Pos}:SF X (.Dict [] [] pos) (eC (.dic [] [])):=⟨⟨_,ce,λ{G0 H0 G H τ σ d Q} E hf q p hp=>by
 cases hf;exact q p G _ (zW.qB E.ext.gh hp) hp (E.ext.gh.free hp) ⟨[],yr,rfl,rfl,qo _⟩⟩⟩
theorem HW{i:Nat}{x:Str}{xp pos pos':Pos}{k v:Expr}{fk fv:FE}(hu:X.A.units+1<cLine)(ho:QE X (.Name x xp) (jO i))(hk:SE X k fk)(hv:SE X v fv)(hs:swapsWith v (some (.Subscript (.Name x xp) k pos')) pos.line X.env=pure false:=by rfl) :
  SS X (.Assign [.Subscript (.Name x xp) k pos'] v pos) (ZE i fk fv):=by
 obtain⟨tk,pk,kk⟩:=hk.h;obtain⟨tv,pv,kv⟩:=hv.h;refine⟨⟨_,dZ hu ho.h pk pv hs,λ{G0 H0 G H τ σ fl E} K hf q=>?_⟩⟩;obtain⟨y,hy,hf⟩:=zQ hf;refine kv K hy λw G1 H1 x1 r1=>?_
 split at hf
 ·rename_i ks ds hd;obtain⟨xk,hx,hf⟩:=zQ hf;obtain⟨key,hkey,hf⟩:=zQ hf;by_cases c:ks.length<yR
  ·rw[zP c]at hf;cases hf;have K1:=K.go x1;obtain⟨a,ea,g,z,vs,ev,l,rs,hl⟩:=K1.ow _ _ hd;refine⟨_,ea,kk K1 hx λu G2 H2 x2 r2=>⟨a,_,rfl,.inl ⟨_,key,x2.h _ _ ev,W8 hkey r2,?_,rfl⟩,?_⟩⟩
   ·rw[jU,l,qm,xy,<-l]; exact c
   ·refine q _ _ _ ((K1.go x2).VB hd ea ⟨vW ks vs key w,?_,E_ l,(rs.mono x2.g).put (r1.mono x2.g),?_⟩)
    ·rw[yr,sy l]
    ·have h1:=e7 (ks:=ks) (vs:=ds) (k:=key) (v:=y) (by rw[l,rs.length]);have h2:ds.length<16777216:=by rw[<-rs.length,<-l]; exact c
     rw[xy];omega
  ·rw[zV c]at hf;cases hf
 ·cases hf
noncomputable def u9(K:W.Frag)(w:World)(a:Addr)(ks:List zb)(ds:List D):Prop:=
 ∃us:List V,ks.length=us.length/\(a==sysModules)=false/\(∀H,Reps K H ds us)/\∀(P:Program)(h:Heap),K.In h->∃vs,KV (ks.zip us) vs/\h.DictOf (xr P w) a vs
inductive qz(w:World):List DictEntry->List Str->List Value->Prop
 |nil:qz w [] [] []
 |cons {x:Str} {t:Tok} {v:Value} {es:List DictEntry} {xs:List Str} {vs:List Value} (r:qz w es xs vs):qz w (⟨PyData.keyHash w.params x,.str x t,v⟩::es) (x::xs) (v::vs)
theorem qz.pairs{w:World}{P:Program}:∀{es:List DictEntry}{xs:List Str}{vs:List Value},qz w es xs vs->Pairs (xr P w) es ((xs.map Sum.inr).zip vs)/\(∀e∈es,∃k,(xr P w).is k e.key=true/\e.hash=(xr P w).hash k)
 |_,_,_,.nil=>⟨.nil,λe h=>absurd h (by simp)⟩
 |_,_,_,.cons (x:=x) (t:=t) r=>by
  obtain⟨a,b⟩:=qz.pairs (P:=P) r;refine⟨.cons (LH P w x t) rfl a,λe h=>?_⟩;rcases xN.mp h with rfl|h
  ·exact⟨.inr x,LH P w x t,rfl⟩
  ·exact b e h
theorem qz.len{w:World}:∀{es:List DictEntry}{xs:List Str}{vs:List Value},qz w es xs vs->xs.length=vs.length
 |_,_,_,.nil=>rfl
 |_,_,_,.cons r=>by rw[xg,xg,r.len]
theorem L1:∀{ks:List zb}{us:List V}{vs:List Value},zz us vs->ks.length=us.length->KV (ks.zip us) (ks.zip vs)
 | [],_,_,.nil,_=>.nil
 |k::ks,_,_,.cons r t,h=>.cons ⟨rfl,r⟩ (L1 t (by simpa using h))
theorem BQ:∀{ks:List zb}{vs:List Value},ks.length=vs.length->(ks.zip vs).map (·.1)=ks
 | [],[],_=>rfl
 |k::ks,v::vs,h=>by rw[Wu,xY,BQ (by simpa using h)]
theorem YA{w:World}{a:Addr}{es:List DictEntry}{n:Nat}{xs:List Str}{vs:List Value}{us:List V}{ds:List D}(l:K.lookup a=some { cls:=.type "dict",data:=.dict es.toArray n })(e:qz w es xs vs)(nd:xs.Nodup)(hs:(a==sysModules)=false)(r:zz us vs)(rd:∀H,Reps K H ds us) :
  u9 K w a (xs.map .inr) ds:=by
 have hl:(xs.map Sum.inr:List zb).length=us.length:=by rw[yK,e.len,r.length]
 refine⟨us,hl,hs,rd,λP h KI=>⟨_,L1 r hl,?_⟩⟩;obtain⟨p,q⟩:=e.pairs (P:=P);refine⟨_,_,_,KI _ _ l,⟨rfl,rfl,rfl⟩,rfl,λe he=>q e (by simpa using he),p,?_⟩;rw[BQ (by rw[yK]; exact e.len)];exact List.Pairwise.map _ (λa b h z=>h (B_ z)) nd
theorem RS{A:Addr}{ks:List zb}{ds:List D}(g:u9 X.K X.w A ks ds):u_ X (λx y H Q=>x=.ref A/\∃k,y=kV k/\∃d,getK ks ds k=some d/\∀v,(∀H,∃H',yc H H'/\True)->(∀H,zf X.K H d v)->Q v H):=by
 intro value slice z8 s σ H x y v u Q I rx ry h hs;obtain⟨rfl,k,rfl,d,hd,q⟩:=h;cases rx;obtain⟨us,hl,hsys,rd,mk⟩:=g;obtain⟨vs,rel,dd⟩:=mk X.prog s.heap I.w8;obtain⟨z,hz,_⟩:=(rd H).getK hd
 have rz:∀H,zf X.K H d z:=λH'=>by
  obtain⟨z',hz',r'⟩:=(rd H').getK hd;rw[hz]at hz';cases hz';exact r'
 obtain⟨w',hw,rw'⟩:=qH.some_of (v:=z) (o:=valueAt vs k) (by rw[<-hz,<-Wl k hl]; exact rel.val k)
 exact JI (x:=w') dd.typeIs PySem.F.slot_dict_getitem.lookup
  (wpAny_getItem_of (Q:=λr s'=>r=w'/\EP X z8 σ Q r s') (YK ry) dd.mapOf hw ⟨rfl,z,H,I.tok _,rw',q z (λH=>⟨H,yc.refl H,trivial⟩) rz⟩) hs
theorem qe{A:Addr}{ks:List zb}{ds:List D}{x:Str}{p pos:Pos}{b:Expr}{fb:FE}(h:xU X.mg x (.ref A))(g:u9 X.K X.w A ks ds)(hg:Gl X x)(hb:SE X b fb)(hs:YU b=true:=by rfl)(hd:(x==("__debug__" : Str))=false:=by decide) :
  SE X (.Subscript (.Name x p) b pos) (e1 (xZ ks ds) fb):=by
 obtain⟨tb,pb,kb⟩:=hb.h;refine⟨⟨_,Lf (RS g) (WN h hg hd) pb (Li hs),λ{G0 H0 G H τ σ d Q} E hf q=>?_⟩⟩;obtain⟨y,hy,hf⟩:=zQ hf;obtain⟨k,hk,hf⟩:=zQ hf;exact kb E hy λu G2 H2 x2 r2=>⟨rfl,k,W8 hk r2,d,hf,λv _ rv=>q v _ _ x2 (rv _)⟩
end
noncomputable def uk:D->Option (List D)
 |.lst xs=>some xs
 |.tup xs=>some xs
 |_=>none
noncomputable def t8(a b:FE):FA:=λσ=>(a σ).bind λx=>(b σ).bind λy=>(uk x).bind λxs=>(uk y).bind λys=>some (List.zipWith (λx y=>D.tup [x,y]) xs ys)
section
variable{K:W.Frag}{G H:Hp}
theorem Gz{x:D}{xs:List D}{u:V}(h:uk x=some xs)(r:zf K G x u):∃t a vs,u=.ref a/\vp K t G a vs/\Reps K G xs vs/\xs.length<=sizeLine:=by
 cases x<;>first|(cases h; done)|skip
 ·cases h;obtain⟨a,vs,rfl,sq,rs,l⟩:=r;exact⟨true,a,vs,rfl,sq,rs,l⟩
 ·cases h;obtain⟨a,vs,rfl,sq,rs,l⟩:=r;exact⟨false,a,vs,rfl,sq,rs,l⟩
theorem gW{H':Hp}{t:Bool}{a:Addr}{vs:List V}(s:yc H H')(h:vp K t H a vs):vp K t H' a vs:=by
 cases t
 ·exact wZ s h
 ·exact vh s h
theorem s_{t1 t2:Bool}{a b:Addr}{vs us:List V}{xs ys:List D}(s1:vp K t1 G a vs)(s2:vp K t2 G b us)(r1:Reps K G xs vs)(r2:Reps K G ys us):tR K (Il K t1 t2 a b) G (List.zipWith (λx y=>D.tup [x,y]) xs ys) where
 go:=λi G2 H g1 g2 hi=>by
  rw[gg]at hi;obtain⟨v,e1,_⟩:=r1.get (yf (show i<xs.length by omega));obtain⟨u,e2,_⟩:=r2.get (yf (show i<ys.length by omega));exact⟨vs,us,v,u,gW (g1.trans g2) s1,gW (g1.trans g2) s2,e1,e2⟩
 vQ:=λi G2 H x H' g1 g2 hi y=>by
  obtain⟨p,hp,rfl,k⟩:=y;obtain⟨v,u,e1,e2,rfl⟩:=k vs us (gW (g1.trans g2) s1) (gW (g1.trans g2) s2);obtain⟨d1,f1,q1⟩:=r1.at e1;obtain⟨d2,f2,q2⟩:=r2.at e2;refine⟨zc G2 p (.tup [v,u]),.tup [d1,d2],zW.lay g2 hp,by rw[J5,f1,f2],?_⟩;have sm:yc G (zc G2 p (.tup [v,u])):=g1.trans (wn (g2.free hp) _);exact⟨p,[v,u],rfl,xH.of yr,⟨v,_,rfl,q1.mono sm,⟨u,_,rfl,q2.mono sm,rfl⟩⟩,small (n:=2) (by decide)⟩
 stop:=λi G2 H g1 g2 hi=>by
  rw[gg]at hi;refine⟨vs,us,gW (g1.trans g2) s1,gW (g1.trans g2) s2,?_⟩;rw[r1.length,r2.length];omega
end
section
variable{X:Cx}{a b e o:Expr}{fa fb f:FE}{p pos apos cpos:Pos}
theorem HE{elts:List Expr}{kk:Nat}{tp:Pos}(hg:Gl X "zip")(hm:X.mg "zip" = none)(ha:SE X a fa)(hb:SE X b fb)(hs:xJ a=true:=by rfl)(hs2:xJ b=true:=by rfl):SI X (.Tuple elts kk tp) (.Call (.Name "zip" p) [a,b] [] pos) (t8 fa fb):=by
 obtain⟨t,pt,k⟩:=(zC ha (zC hb zO hs2) hs).h;refine⟨⟨_,(eN hg hm ⟨pt⟩ hs hs2).h,λ{G0 H0 G H τ σ ds R} K hf q=>?_⟩⟩;obtain⟨x,hx,hf⟩:=zQ hf;obtain⟨y,hy,hf⟩:=zQ hf;obtain⟨xs,hxs,hf⟩:=zQ hf;obtain⟨ys,hys,hf⟩:=zQ hf;cases hf;refine k K (ds:=[x,y]) (by unfold zB; rw[hx,hy]; rfl) λvs G1 H1 x1 r1=>?_
 obtain⟨v,r,rfl,hv,⟨v2,r2,rfl,hv2,hr⟩⟩:=r1;cases(show r2=[]from hr);obtain⟨t1,a1,vs1,rfl,s1,q1,l1⟩:=Gz hxs hv;obtain⟨t2,a2,vs2,rfl,s2,q2,l2⟩:=Gz hys hv2;refine⟨a1,a2,vs1,vs2,t1,t2,rfl,gW x1.gh s1,gW x1.gh s2,q _ _ _ x1 ?_ (s_ s1 s2 q1 q2)⟩;rw[gg];omega
noncomputable abbrev FO:=yT->Option (Option Int)
noncomputable def xz:FO:=λ_=>some none
noncomputable def x_(f:FE):FO:=λσ=>(f σ).bind λd=>match d with
 |.int i=>some (some i)
 |_=>none
noncomputable def pE{α:Type}(xs:List α)(lo hi:Option Int):List α:=(xs.drop (HT.sIx xs.length 0 lo)).take (HT.sIx xs.length xs.length hi-HT.sIx xs.length 0 lo)
noncomputable def pH(d:D)(lo hi:Option Int):Option D:=match d with
 |.lst xs=>some (.lst (pE xs lo hi))
 |.tup xs=>if HT.sIx xs.length 0 lo=0/\HT.sIx xs.length xs.length hi=xs.length then none else some (.tup (pE xs lo hi))
 |.str z=>some (.str (cutS z lo hi))
 |_=>none
noncomputable def vK(a:FE)(lo hi:FO):FE:=λσ=>(a σ).bind λd=>(lo σ).bind λl=>(hi σ).bind λh=>pH d l h
structure SO(X:Cx)(e:Option Expr)(f:FO):Prop where
 h:∃t,PO X e t/\∀{G0 H0 G H:Hp}{τ:yT}{σ:St}{d:Option Int}{Q:Option Int->Hp->Prop},yA X.K X.N.length G0 H0 G H τ σ->f τ=some d->(∀G' H',zW G H G' H'->Q d H')->t σ H Q
theorem gT:SO X none xz:=⟨⟨_,dU,λE hf q=>by cases hf; exact q _ _ (zW.refl E.ext.gh)⟩⟩
theorem gU(h:SE X e f):SO X (some e) (x_ f):=by
 obtain⟨t,pt,k⟩:=h.h;refine⟨⟨_,dW pt,λ{G0 H0 G H τ σ d Q} E hf q=>?_⟩⟩;obtain⟨x,hx,hf⟩:=zQ hf;cases x<;>first|(cases hf; done)|skip
 cases hf;exact k E hx λv G' H' x r=>⟨_,r,q _ _ x⟩
theorem Reps.cut{K:W.Frag}{G:Hp}{ds:List D}{vs:List V}(r:Reps K G ds vs)(lo hi:Option Int):Reps K G (pE ds lo hi) (jz vs lo hi):=by
 unfold pE jz;rw[r.length];exact(r.drop _).take _
theorem U7{α:Type}(xs:List α)(lo hi:Option Int):(pE xs lo hi).length<=xs.length:=by
 unfold pE;rw[qi,Yv];omega
noncomputable def e_(K:W.Frag):V->Option Int->Option Int->Hp->VK->Prop:=λx lo hi H Q=>GM K x lo hi H Q\/GO K x lo hi H Q\/GN x lo hi H Q
theorem HI:pB X (e_ X.K):=iy.or (i_.or iz)
theorem Yi{lo hi:Option Expr}{fl fh:FO}{p2:Pos}(ha:SE X a fa)(hl:SO X lo fl)(hh:SO X hi fh):SE X (.Subscript a (.Slice lo hi none p2) pos) (vK fa fl fh):=by
 obtain⟨ta,pa,ka⟩:=ha.h;obtain⟨tl,pl,kl⟩:=hl.h;obtain⟨th,ph,kh⟩:=hh.h;refine⟨⟨_,Ep HI pa pl ph,λ{G0 H0 G H τ σ d Q} E hf q=>?_⟩⟩;obtain⟨x,hx,hf⟩:=zQ hf;obtain⟨l,hl,hf⟩:=zQ hf;obtain⟨h,hh,hf⟩:=zQ hf;refine ka E hx λv G1 H1 x1 r1=>kl (E.go x1) hl λG2 H2 x2=>kh ((E.go x1).go x2) hh λG3 H3 x3=>?_
 have xx:=x1.trans (x2.trans x3);have r3:=r1.mono (x2.g.trans x3.g);cases x with
 |lst xs=>
  cases hf;obtain⟨a,vs,rfl,sq,rs,ll⟩:=r3;refine .inl ⟨a,vs,rfl,wZ x3.gh sq,λp hp=>q _ _ _ (xx.trans (zW.lay x3.gh hp)) ⟨p,_,rfl,yj.of yr,(rs.cut l h).mono (wn (x3.gh.free hp) _),xO (U7 ..) ll⟩⟩
 |tup xs=>
  change (if HT.sIx xs.length 0 l=0/\HT.sIx xs.length xs.length h=xs.length then none else some (D.tup (pE xs l h)))=some d at hf
  by_cases c:HT.sIx xs.length 0 l=0/\HT.sIx xs.length xs.length h=xs.length
  ·rw[zP c]at hf;cases hf
  ·rw[zV c]at hf;cases hf;obtain⟨a,vs,rfl,sq,rs,ll⟩:=r3;refine .inr (.inl ⟨a,vs,rfl,vh x3.gh sq,by rw[rs.length]; exact c,λp hp=>?_⟩);exact q _ _ _ (xx.trans (zW.lay x3.gh hp)) ⟨p,_,rfl,xH.of yr,(rs.cut l h).mono (wn (x3.gh.free hp) _),xO (U7 ..) ll⟩
 |str z=>
  cases hf;obtain⟨rfl,ll⟩:=r3;exact .inr (.inr ⟨z,rfl,ll,q _ _ _ xx ⟨rfl,xO (cut_len ..) ll⟩⟩)
 |_=>cases hf
noncomputable def UK:List D->Option D
 | [.lst xs]=>some (.tup xs)
 | [.tup xs]=>some (.tup xs)
 |_=>none
theorem qW{K:W.Frag}{G:Hp}{d:D}{vs:List V}(r:Reps K G [d] vs):∃v,vs=[v]/\zf K G d v:=by
 obtain⟨v,r',rfl,hv,hr⟩:=r;cases(show r'=[]from hr);exact⟨v,rfl,hv⟩
theorem b_{K:W.Frag}:DL K (λxs H Q=>∃p ys,xs=[.ref p]/\((yj K H p ys/\∀l,H l=none->Q (.ref l) (zc H l (.tup ys)))\/(xH K H p ys/\Q (.ref p) H))) UK:=λG H ds vs d Q s r hf q=>by
 match ds,hf with
 | [.lst xs],hf=>
  cases hf;obtain⟨v,rfl,a,us,rfl,sq,rs,l⟩:=qW r;exact⟨a,us,rfl,.inl ⟨wZ s sq,λp hp=>q _ _ _ (zW.lay s hp) ⟨p,us,rfl,xH.of yr,rs.mono (wn (s.free hp) _),l⟩⟩⟩
 | [.tup xs],hf=>
  cases hf;obtain⟨v,rfl,a,us,rfl,sq,rs,l⟩:=qW r;exact⟨a,us,rfl,.inr ⟨vh s sq,q _ _ _ (zW.refl s) ⟨a,us,rfl,sq,rs,l⟩⟩⟩
noncomputable def YI(x:D):List D->Nat->Option Nat
 | [],_=>none
 |y::ys,n=>match yt y x with
  |true=>some n
  |false=>YI x ys (n+1)
noncomputable def vB:D->D->Option D
 |.lst ys,x=>match yY x&&ys.all yY with
  |true=>(YI x ys 0).bind λn=>some (.int n)
  |false=>none
 |_,_=>none
theorem Oy{x:D}:∀{ys:List D}{n m:Nat},YI x ys n=some m->∃j y,m=n+j/\ys[j]?=some y/\yt y x=true/\∀i z,i<j->ys[i]?=some z->yt z x=false
 | [],_,_,h=>by cases h
 |y::ys,n,m,h=>by
  change (match yt y x with|true=>some n|false=>YI x ys (n+1))=some m at h
  cases c:yt y x with
  |true=>
   rw[c]at h;cases h;exact⟨0,y,rfl,rfl,c,λi z hi=>absurd hi (Nat.not_lt_zero _)⟩
  |false=>
   rw[c]at h;obtain⟨j,y',e1,e2,e3,e4⟩:=Oy h;refine⟨j+1,y',by omega,by simpa using e2,e3,λi z hi ez=>?_⟩;cases i with
   |zero=>cases ez; exact c
   |succ i=>exact e4 i z (by omega) (by simpa using ez)
theorem Af:pA X "list.index" (λx vs H Q=>∃(a:Addr) (us:List V) (y:V) (j:Nat) (u:V),x=.ref a/\vs=[y]/\yj X.K H a us/\uE y=true/\us.all uE=true/\us[j]?=some u/\vU u y=true/\(∀i z,i<j->us[i]?=some z->vU z y=false)/\Q (.int (j:Int)) H):=by
 intro z8 s σ H x xs v us' Q I rx rs h;obtain⟨a,us,y,j,u,rfl,rfl,sq,fy,fu,eu,hit,no,q⟩:=h;cases rx;obtain⟨w,rfl,ry⟩:=vN rs;obtain⟨its,r,⟨⟨c1,d1,t1,sl1⟩,n1,ho,hc,hd,ht⟩,hz⟩:=I.list sq;simp only at hc ht;subst hc ht;have hl:=r.length;have hj:j<us.length:=(xT.mp eu).1
 have key:∀(i:Nat)(z:V)(hi:i<its.toArray.size),us[i]?=some z->vL y its.toArray[i]=vU z y:=λi z hi ez=>by
  obtain⟨t,et,rt⟩:=r.get ez
  have e:its.toArray[i]=t:=by
   have h2:its[i]?=some its[i]:=yf (by rw[yo]at hi; exact hi);rw[h2]at et;simpa using et
  rw[e];exact UD rt (u5.mp fu z (tH ez))
 have hjs:j<its.toArray.size:=by rw[yo,<-hl]; exact hj
 have hsz:=Z2;refine Zc PySem.F.slot_list_index ⟨_,ho,rfl⟩ PySem.F.entry_list_index (PySem.F.args_list_index_2 _ _) (SeqAt.list_indexAt a its.toArray n1 d1 sl1 w (vL y) j hjs (by omega) (by rw[key j u hjs eu]; exact hit) λm hm hlt=>?_) ⟨ho,λt ht=>?_,⟨.int j,H,I.tok _,⟨_,rfl⟩,q⟩⟩
 ·have hm':m<us.length:=by rw[yo,<-hl]at hm; exact hm
  rw[key m us[m] hm (yf hm')];exact no m _ hlt (yf hm')
 ·exact Z3 ry fy r fu t (by simpa using ht)
theorem B2{fo:FE}(ho:SE X o fo)(he:SE X e f)(hbase:attributeBase o "index" X.env (eval o X.env)=eval o X.env:=by rfl)(hline:(apos.endLine==cpos.line)=true:=by rfl)(hs:xJ e=true:=by rfl) :
  SE X (.Call (.Attribute o "index" apos) [e] [] cpos) (e2 vB fo f):=by
 obtain⟨to,po,ko⟩:=ho.h;obtain⟨te,pe,ke⟩:=(zC he zO hs).h;refine⟨⟨_,(gL PySem.F.plainAttrs_list PySem.F.slot_list_index PySem.F.type_list_index Af ⟨po⟩ ⟨pe⟩ hbase hline (by rw[wp,hs]; rfl) (by show 1<30; decide)).h,λ{G0 H0 G H τ σ d Q} E hf q=>?_⟩⟩;obtain⟨x,hx,hf⟩:=zQ hf;obtain⟨y,hy,hf⟩:=zQ hf;refine ko E hx λv G1 H1 x1 r1=>?_
 cases x with
 |lst ys=>
  obtain⟨a,us,rfl,sq,rs,_⟩:=r1;refine⟨.inl ⟨rfl,us,wZ x1.gh sq⟩,ke (E.go x1) (ds:=[y]) (by unfold zB; rw[hy]; rfl) λws G2 H2 x2 r2=>?_⟩;obtain⟨w,rfl,rw_⟩:=qW r2
  change (match yY y&&ys.all yY with|true=>(YI y ys 0).bind λn=>some (D.int n)|false=>none)=some d at hf
  cases c:(yY y&&ys.all yY)with
  |false=>rw[c]at hf; cases hf
  |true=>
   rw[c]at hf;obtain⟨n,hn,hf⟩:=zQ hf;cases hf;rw[xS]at c;obtain⟨j,z,e1,e2,e3,e4⟩:=Oy hn;rw[wq]at e1;subst e1;have rs2:=rs.mono x2.g;obtain⟨u,eu,ru⟩:=rs2.get e2;have fl:∀{i:Nat}{z:D},ys[i]?=some z->yY z=true:=λ{i z} ez=>u5.mp c.2 z (tH ez)
   refine⟨a,us,w,n,u,rfl,rfl,wZ (x1.gh.trans x2.h) sq,gN c.1 rw_,(WS c.1 rw_ rs2 c.2).1,eu,by rw[ZC (fl e2) c.1 ru rw_]; exact e3,λi z hi ez=>?_,q _ _ _ (x1.trans x2) rfl⟩;obtain⟨dz,ed,rd⟩:=rs2.at ez;rw[ZC (fl ed) c.1 rd rw_];exact e4 i dz hi ed
 |_=>cases hf
theorem HV{i:Nat}{x:Str}{op:Operator}{ti:Xa}{F:D->D->Option D}{pos':Pos}(ho:Ip X op ti)(hF:vS X.K ti F)(hN:X.N.Nodup)(hi:X.N[i]?=some x)(hx:p9 X.env.scope x)(he:SE X e f)(hf:X.fn x=true\/X.env.scope.names.lookup x=some .local:=by first|exact .inl rfl|exact .inr rfl|assumption) :
  SS X (.AugAssign (.Name x pos') op e pos) (zY i (e2 F (z7 i) f)):=by
 obtain⟨t,pt,k⟩:=he.h;refine⟨⟨_,dY hN hi hx pt ho hf,λ{G0 H0 G H τ σ fl E} K hf q=>?_⟩⟩;obtain⟨d,hd,hf⟩:=zQ hf;cases hf;obtain⟨x,hx,hd⟩:=zQ hd;obtain⟨y,hy,hd⟩:=zQ hd;obtain⟨v,ev,rv⟩:=K.fr _ _ (F4 hx);refine⟨v,ev,k K hy λu G1 H1 x1 r1=>hF G1 H1 x y v u d _ x1.gh (rv.mono x1.g) r1 hd λw G2 H2 x2 r2=>?_⟩;exact q _ _ _ (((K.go x1).go x2).set (xT.mp hi).1 r2)
theorem EZ{K:W.Frag}:vS K (Fx λi j=>i+j) (qN λi j=>i+j):=λG H x y u v d Q s rx ry hf q=>by
 cases x<;>first|(cases hf; done)|skip
 cases y<;>first|(cases hf; done)|skip
 cases hf;exact⟨_,_,rx,ry,q _ _ _ (zW.refl s) rfl⟩
variable{x:Str}{ps:List Str}{j k:Nat}{FF:List D->Option (Bool×D)}
theorem Gv(h:yQ X.prog X.w X.K X.mg X.base x ps k (yU X.K FF))(hr:xl j X.A)(hg:Gl X x)(hk:k<=j:=by decide)(hdb:(x==("__debug__" : Str))=false:=by decide):SE X (.Call (.Name x p) [] [] pos) (za FF zF):=by
 obtain⟨f,fd,hm,kp,b,F⟩:=h;refine⟨⟨_,cY F (hr.mono hk) hg hm kp b .nil El hdb,λ{G0 H0 G H τ σ d Q} E hf q=>?_⟩⟩;obtain⟨ds,hd,hf⟩:=zQ hf;cases hd;obtain⟨⟨o,d⟩,hr,hf⟩:=zQ hf;cases hf;refine⟨G,[],o,d,E.ext.gh,rfl,hr,?_⟩;cases o with
 |false=>exact λv G' H' x2 r=>q v G' H' x2 r
 |true=>
  intro p G' H' x2 hp gp o;obtain⟨u,hu,r⟩:=o.yI gp;exact q _ _ _ (x2.yI hp gp hu) r
end
noncomputable def FR(n N:Nat)(b:FS)(ds:List D):Option (Bool×D):=if ds.length=n then ya N b ds else none
theorem yg{n N:Nat}{b:FS}:∀ds r,FR n N b ds=some r->ds.length=n/\ya N b ds=some r:=λds r h=>by
 unfold FR at h
 split at h
 ·rename_i c;exact⟨c,h⟩
 ·cases h
theorem Hu{M:Model}{A:Around}{E:Value->Shared->Prop}{items:Array Value}{x:Value}{e:Value->Bool}{j:Nat}(hM:∃prog w,M=model prog w)(hj:j<items.size)(hit:e items[j]=true)(no:∀m (hm:m<items.size),m<j->e items[m]=false){s:Shared}
  (he:∀y∈items,SeqAt.EqAt A s y x (e y)){Q:Option PySem.Fin×Unit->Shared->Prop}(h:Q (some (.done (.ret (.int j s.toks))),()) { s with toks:=s.toks+1 }):∀m i:Nat,i+m=items.size->i<=j->
  wpAny M A (forIn (List.range' i m) ((none,()):Option PySem.Fin×Unit) λ(i:Nat) (_:Option PySem.Fin×Unit)=>match items[i]? with
   |some y=>do
    let __do_lift <-eqBool y x
    if __do_lift=true then do
      let __do_lift <-retInt (i:Int)
      pure (ForInStep.done (some __do_lift,()))
     else pure (ForInStep.yield (none,()))
   |_=>pure (ForInStep.yield (none,()))) Q E s
 |0,i,h1,h2=>by omega
 |m+1,i,h1,h2=>by
  obtain⟨prog,w,rfl⟩:=hM;have hi:i<items.size:=by omega
  rw[List.range'_succ,Bn];refine zR ?_;rw[Array.getElem?_eq_getElem hi];refine zR (he _ (Array.getElem_mem hi) prog w E _ ?_);by_cases c:i=j
  ·subst c;rw[hit,zP rfl]
   wp_walk
   exact h
  ·rw[no i hi (by omega),zV (by decide)];refine yW ?_;exact Hu ⟨prog,w,rfl⟩ hj hit no he h m (i+1) (by omega) (by omega)
theorem nS(t:Addr)(items:Array Value)(x:Value)(e:Value->Bool)(j:Nat)(hj:j<items.size)(hit:e items[j]=true)(no:∀m (hm:m<items.size),m<j->e items[m]=false) :
  Meets (Builtin.«tuple.index» ⟨[.ref t,x],[]⟩) (λA R s=>IsTup s.heap t items/\(∀y∈items,SeqAt.EqAt A.in1 s y x (e y))/\R (.ok (.ret (.int j s.toks))) { s with toks:=s.toks+1 }):=by
 intro prog w A R s h;obtain⟨hp,g,d,tk,os⟩:=s;obtain⟨⟨o,ho,hc,n,hd⟩,he,h⟩:=h;unfold Builtin.«tuple.index»
 wp_walk
 skip
 rw[hd];refine yW (yW ?_);show wpAny _ _ (pure 0 >>= _) _ _ _;refine zR (yW (zR (yW (zR ?_))));rw[Std.Legacy.Range.forIn_eq_forIn_range'];have hs:Std.Legacy.Range.size [0:min items.size items.size]=items.size:=by simp[Std.Legacy.Range.size]
 rw[hs];refine Hu ⟨prog,w,rfl⟩ hj hit no he ?_ items.size 0 (by omega) (by omega);exact yW h
section
variable{X:Cx}{e o k v:Expr}{f fo fk fv:FE}{x:Str}{xp p pos apos cpos:Pos}
theorem Ag:pA X "tuple.index" (λx vs H Q=>∃(a:Addr) (us:List V) (y:V) (j:Nat) (u:V),x=.ref a/\vs=[y]/\xH X.K H a us/\uE y=true/\us.all uE=true/\us[j]?=some u/\vU u y=true/\(∀i z,i<j->us[i]?=some z->vU z y=false)/\Q (.int (j:Int)) H):=by
 intro z8 s σ H x xs v us' Q I rx rs h;obtain⟨a,us,y,j,u,rfl,rfl,sq,fy,fu,eu,hit,no,q⟩:=h;cases rx;obtain⟨w,rfl,ry⟩:=vN rs;obtain⟨its,r,pt,hz⟩:=I.tuple sq;have hl:=r.length;have hj:j<us.length:=(xT.mp eu).1
 have key:∀(i:Nat)(z:V)(hi:i<its.toArray.size),us[i]?=some z->vL y its.toArray[i]=vU z y:=λi z hi ez=>by
  obtain⟨t,et,rt⟩:=r.get ez
  have e:its.toArray[i]=t:=by
   have h2:its[i]?=some its[i]:=yf (by rw[yo]at hi; exact hi);rw[h2]at et;simpa using et
  rw[e];exact UD rt (u5.mp fu z (tH ez))
 have hjs:j<its.toArray.size:=by rw[yo,<-hl]; exact hj
 refine Zc PySem.F.slot_tuple_index pt.typeIs PySem.F.entry_tuple_index (PySem.F.args_tuple_index_2 _ _) (nS a its.toArray w (vL y) j hjs (by rw[key j u hjs eu]; exact hit) λm hm hlt=>?_) ⟨pt,λt ht=>?_,⟨.int j,H,I.tok _,⟨_,rfl⟩,q⟩⟩
 ·have hm':m<us.length:=by rw[yo,<-hl]at hm; exact hm
  rw[key m us[m] hm (yf hm')];exact no m _ hlt (yf hm')
 ·exact Z3 ry fy r fu t (by simpa using ht)
noncomputable def Vo(K:W.Frag)(A:Addr):Prop:=∃o,K.lookup A=some o/\o.cls=.type "tuple" /\ o.dict=none
noncomputable def Xm(ds:List D)(y:D):Option D:=vB (.lst ds) y
theorem hX{A:Addr}{ds:List D}(h:xU X.mg x (.ref A))(r:∀H,zf X.K H (.tup ds) (.ref A))(kt:Vo X.K A)(hg:Gl X x)(he:SE X e f)(hd:(x==("__debug__" : Str))=false:=by decide)
  (hbase:attributeBase (.Name x xp) "index" X.env (eval (.Name x xp) X.env)=eval (.Name x xp) X.env:=by rfl)(hline:(apos.endLine==cpos.line)=true:=by rfl)(hs:xJ e=true:=by rfl) :
  SE X (.Call (.Attribute (.Name x xp) "index" apos) [e] [] cpos) (e1 (Xm ds) f):=by
 obtain⟨te,pe,ke⟩:=(zC he zO hs).h;refine⟨⟨_,(gL PySem.F.plainAttrs_tuple PySem.F.slot_tuple_index PySem.F.type_tuple_index Ag (eK h hg hd) ⟨pe⟩ hbase hline (by rw[wp,hs]; rfl) (by show 1<30; decide)).h,λ{G0 H0 G H τ σ d Q} E hf q=>?_⟩⟩;obtain⟨y,hy,hf⟩:=zQ hf;refine⟨.inr (.inl ⟨rfl,kt⟩),ke E (ds:=[y]) (by unfold zB; rw[hy]; rfl) λws G2 H2 x2 r2=>?_⟩;obtain⟨w,rfl,rw_⟩:=qW r2;obtain⟨a,us,ea,sq,rs,_⟩:=r G2;cases ea
 change (match yY y&&ds.all yY with|true=>(YI y ds 0).bind λn=>some (D.int n)|false=>none)=some d at hf
 cases c:(yY y&&ds.all yY)with
 |false=>rw[c]at hf; cases hf
 |true=>
  rw[c]at hf;obtain⟨n,hn,hf⟩:=zQ hf;cases hf;rw[xS]at c;obtain⟨j,z,e1,e2,e3,e4⟩:=Oy hn;rw[wq]at e1;subst e1;obtain⟨u,eu,ru⟩:=rs.get e2;have fl:∀{i:Nat}{z:D},ds[i]?=some z->yY z=true:=λ{i z} ez=>u5.mp c.2 z (tH ez)
  refine⟨A,us,w,n,u,rfl,rfl,vh x2.gh sq,gN c.1 rw_,(WS c.1 rw_ rs c.2).1,eu,by rw[ZC (fl e2) c.1 ru rw_]; exact e3,λi z hi ez=>?_,q _ _ _ x2 rfl⟩;obtain⟨dz,ed,rd⟩:=rs.at ez;rw[ZC (fl ed) c.1 rd rw_];exact e4 i dz hi ed
noncomputable def kA(i:Int):Nat:=Builtin.Int.intBits i
end
open PySem.W
theorem KH:∀{ns:List Int}{m:Int},m∈ns->kA m<=WData.weightAll (ns.map WData.int)
 | [],_,h=>by cases h
 |n::ns,m,h=>by
  have e:WData.weightAll ((n::ns).map WData.int)=kA n+1+WData.weightAll (ns.map WData.int):=by
   show WData.weightAll (WData.int n::ns.map WData.int)=_;rw[WData.weightAll];rfl
  rw[e];rcases xN.mp h with rfl|h
  ·omega
  ·have:=KH h;omega
theorem AN{ns:List Int}(h:WData.layableAll [.list (ns.map WData.int)]=true):∀m∈ns,kA m<=1048576:=λm hm=>by
 have h1:WData.layable (.list (ns.map WData.int))=true:=u5.mp h _ (wO.mpr rfl);unfold WData.layable at h1;rw[xS]at h1;have h2:WData.weight (.list (ns.map WData.int))<=2 ^ 20:=wI h1.2;have h3:=KH hm;have h4:WData.weight (.list (ns.map WData.int))=WData.weightAll (ns.map WData.int):=by rw[WData.weight]
 omega
section
variable{P:Program}{w:World}{K:W.Frag}{mg:Str->Option Value}{base:Heap}
noncomputable def We(K:W.Frag):Sp:=λvs H Q _=>∃(a:Addr) (ns:List Int),vs=[.ref a]/\yj K H a (ns.map V.int)/\ns.length<=63/\(∀m∈ns,kA m<=1048576)/\∀H',Q (.bl true) H'
theorem AK{x:Str}{st:Stmt}{N:List Str}{k:Nat}{b:FS}{f:Addr}{fd:FuncData}(d:jq K "law" "law" st f fd)(S:yP N [x] (zx st))(hN:1<=N.length)(hrun:∀ns:List Int,ns.length<=63->(∀m∈ns,kA m<=1048576)->∃o,ya N.length b [.lst (ns.map D.int)]=some (o,.bl true))
  (hb:∀(cdv:Value)(A:Around)(outer:List Env)(s:Shared)(H:Hp)(E:XK),xl k (A.deeper (envOfC "law" (zx st) s.heap.objs.size f cdv))->uA (pF uu P w K mg base N "law" (zx st) f cdv A outer s H E).tJ (t7 st) b):tM P w K mg base uu (k+1) f fd [x] (We K):=by
 refine d.ok S (λvs H Q E h=>?_) λcdv A outer s H vs Q E hr h=>?_
 ·obtain⟨a,ns,rfl,_⟩:=h;rfl
 ·obtain⟨a,ns,rfl,sq,l,hbits,q⟩:=h;obtain⟨o,hrun⟩:=hrun ns l hbits;obtain⟨t,p,kt⟩:=(hb cdv A outer s H E hr).h;obtain⟨fl,hfl,hrun⟩:=zQ hrun;have r:Reps K H [.lst (ns.map D.int)] [.ref a]:=⟨_,_,rfl,⟨a,_,rfl,sq,Reps.ints,by rw[yK]; exact small (by omega)⟩,rfl⟩;refine⟨t,p,kt (F9 (N:=N) (yc.refl H) r hN) hfl ?_⟩;cases fl with
  |nx τ=>cases hrun
  |rt o' d'=>
   cases hrun;cases o with
   |false=>
    intro v G H' _ r;cases(show v=.bl true from r);exact q H'
   |true=>exact λp G H' _ _ _ z=>z.elim
  |_=>cases hrun
end
theorem walkB{l:W.OpenLaw}{n k:Nat}{q:Program}{loose:List Str}{XP:(Str->Option Value)->Heap->Prop}{YP:World->Heap->Prop}{d:DefRec}{K:Params->W.Frag}{sp:W.Frag->Sp}{x:Str}
  (hn:l.most=some n)(hn2:n<=sizeLine)(hdf:d.params.defaults=[])(hr:xl k callerA)(hY:∀(w:World)(h:Heap),YP w h->(K w.params).In h)
  (F:∀(w:World)(mg:Str->Option Value)(fa:Addr)(h:Heap),(K w.params).In h->h.Ns mainGlobals mg->mg d.name=some (.ref fa)->
   ∃fd:FuncData,(∀(s:Shared)(u:Value),BindsTo s fd ⟨[u],[]⟩ [(x,u)])/\∀base:Heap,(K w.params).In base->base.Ns mainGlobals mg->tM l.prog w (K w.params) mg base uu k fa fd [x] (sp (K w.params)))
  (hsp:∀(K:W.Frag)(H:Hp)(a:Addr)(ns:List Int),ns.length<=n->(∀m∈ns,kA m<=1048576)->yj K H a (ns.map V.int)->sp K [.ref a] H (λv _=>v=.bl true) λ_ _ _=>False) :
  W.WalkO q loose XP YP l.row.toRowW d [] (λf vs=>PySem.call f vs):=by
 intro w s0 s1 mg mb Gr Y fa o pm cd doc dV kV ho hd hcd hD hmg hg args vals as hpre hlay hrd hwl hlo;have e1:dV=.none:=Dflts.none hD hdf;have e2:kV=.none:=Dflts.noKw hD;subst e1 e2;obtain⟨a,vs,ns,rfl,rfl,hobj,hints,hlen⟩:=Att.script_of hn hpre hwl;have KX:=hY w _ Y;obtain⟨fd,hb,hF⟩:=F w mg fa _ KX Gr.T.g hmg;have main:=AG KX Gr.T.g Gr.T.b Gr.T.builtins Gr.T.nolimit hg hobj hints (xO hlen hn2) hr hF hb (λH _ hS=>hsp _ H a ns hlen (AN hlay) hS) (λ_ _ _ z=>z);refine enter_call (codeAny_mono main λr s' hq=>?_);obtain⟨rfl,h2,h3,h4⟩:=hq;refine⟨.inl ⟨.bool true,.bool true,[],rfl,λ_=>rfl,.bool true,Att.post_true l _,λ_=>?_⟩,h2,h3,h4⟩;exact⟨List.Pairwise.nil,λ_ hm=>nomatch hm⟩
end L3
namespace L3
open PySem PySem.Spec PyProof.Rows L2
open PyProof Builtin Builtin.Str
section
variable{X:Cx}{e o a b c:Expr}{f fo fa fb fc:FE}{x:Str}{xp p pos apos cpos:Pos}
noncomputable def pX:List D->Option (List Str)
 | []=>some []
 |.str z::r=>(pX r).bind λts=>some (z::ts)
 |_=>none
noncomputable def uX:D->D->Option D
 |.str sep,.lst xs=>(pX xs).bind λts=>if(ts.map (·.length)).sum+ts.length*sep.length<=yR then some (.str (glued sep ts))else none
 |_,_=>none
theorem B9{K:W.Frag}{G:Hp}:∀{xs:List D}{vs:List V}{ts:List Str},pX xs=some ts->Reps K G xs vs->vs=ts.map V.str
 | [],_,_,h,r=>by
  cases h;exact r
 |x::xs,_,ts,h,r=>by
  obtain⟨v,r',rfl,hv,hr⟩:=r;unfold pX at h
  split at h
  ·rename_i e; cases e
  ·rename_i z r2 e;cases e;obtain⟨ts2,h2,h⟩:=zQ h;cases h;rw[xY,(show v=_/\_ from hv).1,B9 h2 hr]
  ·cases h
theorem Wd(ho:SE X o fo)(he:SB X e f)(hbase:attributeBase o "join" X.env (eval o X.env)=eval o X.env:=by rfl)(hline:(apos.endLine==cpos.line)=true:=by rfl)(hs:xJ e=true:=by rfl) :
  SE X (.Call (.Attribute o "join" apos) [e] [] cpos) (e2 uX fo f):=by
 obtain⟨to,po,ko⟩:=ho.h;obtain⟨te,pe,ke⟩:=(yz he xB hs).h;refine⟨⟨_,(gL PySem.F.plainAttrs_str PySem.F.slot_str_join PySem.F.type_str_join Ah ⟨po⟩ ⟨pe⟩ hbase hline (by rw[wp,hs]; rfl) (by show 1<30; decide)).h,λ{G0 H0 G H τ σ d Q} E hf q=>?_⟩⟩;obtain⟨x,hx,hf⟩:=zQ hf;obtain⟨y,hy,hf⟩:=zQ hf;refine ko E hx λv G1 H1 x1 r1=>?_
 cases x with
 |str sep=>
  obtain⟨rfl,l1⟩:=r1;refine⟨rfl,ke (E.go x1) (ds:=[y]) (by unfold zB; rw[hy]; rfl) λws G2 H2 x2 r2=>?_⟩;obtain⟨w,rfl,rw_⟩:=qW r2;cases y with
  |lst xs=>
   obtain⟨ts,hts,hf⟩:=zQ hf;obtain⟨aa,vs,rfl,sq,rs,_⟩:=rw_;have ev:=B9 hts rs;subst ev;by_cases cc:(ts.map (·.length)).sum+ts.length*sep.length<=yR
   ·rw[zP cc]at hf;cases hf;have c':(ts.map (·.length)).sum+ts.length*sep.length<=sizeLine:=by rw[xy]; exact cc
    exact⟨sep,aa,ts,rfl,rfl,sq,c',q _ _ _ (x1.trans x2) ⟨rfl,xO (glued_len sep ts) c'⟩⟩
   ·rw[zV cc]at hf;cases hf
  |_=>cases hf
 |_=>cases hf
noncomputable def uK(i:Int):Bool:=decide (i.natAbs.log2<1920)
noncomputable def tV:List D->Option D
 | [.int i]=>match uK i with
  |true=>some (.str (toString i))
  |false=>none
 | [.str z]=>some (.str z)
 |_=>none
theorem jy:wX X (.type "str") (λxs H Q=>(∃i,xs=[.int i]/\i.natAbs.log2<1920/\Q (.str (toString i)) H)\/∃z,xs=[.str z]/\Q (.str z) H):=P4.or (by
 intro z8 s σ H xs us Q I r h;obtain⟨z,rfl,q⟩:=h;obtain⟨u,rfl,t,rfl⟩:=vN r;exact PySem.P.str_of_str ⟨.str z,H,I,⟨_,rfl⟩,q⟩)
theorem Hf{i:Int}(h:i.natAbs.log2<1920):(Str.ofString (toString i)).length<=sizeLine:=nO (int_le h)
theorem gH{K:W.Frag}:gx K (λxs H Q=>(∃i,xs=[.int i]/\i.natAbs.log2<1920/\Q (.str (toString i)) H)\/∃z,xs=[.str z]/\Q (.str z) H) tV:=λG H ds vs d Q s r hf q=>by
 unfold tV at hf
 split at hf
 ·rename_i i;obtain⟨v,rfl,hv⟩:=qW r;cases c:uK i with
  |false=>rw[c]at hf; cases hf
  |true=>
   rw[c]at hf;cases hf;cases(show v=_ from hv);have h:=wI c;exact .inl ⟨i,rfl,h,q _ _ _ (zW.refl s) ⟨rfl,Hf h⟩⟩
 ·rename_i z;cases hf;obtain⟨v,rfl,hv⟩:=qW r;obtain⟨rfl,l⟩:=hv;exact .inr ⟨z,rfl,q _ _ _ (zW.refl s) ⟨rfl,l⟩⟩
 ·cases hf
noncomputable def UF:D->Option D
 |.int i=>match uK i with
  |true=>some (.str (Str.ofString (toString i)))
  |false=>none
 |.str z=>some (.str z)
 |_=>none
theorem hV(he:SE X e f):SE X (.FormattedValue e (-1) none pos) (e1 UF f):=by
 obtain⟨t,pt,k⟩:=he.h;refine⟨⟨_,(eI ⟨pt⟩).h,λ{G0 H0 G H τ σ d Q} E hf q=>?_⟩⟩;obtain⟨x,hx,hf⟩:=zQ hf;refine k E hx λv G1 H1 x1 r1=>?_
 cases x with
 |int i=>
  change (match uK i with|true=>some (D.str (Str.ofString (toString i)))|false=>none)=some d at hf
  cases c:uK i with
  |false=>rw[c]at hf; cases hf
  |true=>
   rw[c]at hf;cases hf;cases(show v=_ from r1);have h:=wI c;exact .inl ⟨i,rfl,h,q _ _ _ x1 ⟨rfl,Hf h⟩⟩
 |str z=>
  cases hf;obtain⟨rfl,l⟩:=r1;exact .inr ⟨z,rfl,l,q _ _ _ x1 ⟨rfl,l⟩⟩
 |_=>cases hf
noncomputable abbrev FJ:=yT->Str->Option D
noncomputable def TB:FJ:=λ_ acc=>some (.str acc)
noncomputable def YJ(f:FE)(r:FJ):FJ:=λσ acc=>(f σ).bind λd=>match d with
 |.str y=>if(acc++y).length<=yR then r σ (acc++y)else none
 |_=>none
noncomputable def UA(f:FJ):FE:=λσ=>f σ Str.empty
structure SJ(X:Cx)(es:List Expr)(f:FJ):Prop where
 h:∃t,QJ X es t/\∀{G0 H0 G H:Hp}{τ:yT}{σ:St}{acc:Str}{d:D}{Q:VK},yA X.K X.N.length G0 H0 G H τ σ->acc.length<=sizeLine->f τ acc=some d->(∀v G' H',zW G H G' H'->zf X.K G' d v->Q v H')->t σ H acc Q
theorem iJ:SJ X [] TB:=⟨⟨_,eP,λE l hf q=>by
 cases hf;exact⟨l,q _ _ _ (zW.refl E.ext.gh) ⟨rfl,l⟩⟩⟩⟩
theorem HG{es:List Expr}{fj:FJ}(he:SE X e f)(hr:SJ X es fj):SJ X (e::es) (YJ f fj):=by
 obtain⟨te,pe,ke⟩:=he.h;obtain⟨tr,pr,kr⟩:=hr.h;refine⟨⟨_,eO ⟨pe⟩ pr,λ{G0 H0 G H τ σ acc d Q} E l hf q=>?_⟩⟩;obtain⟨x,hx,hf⟩:=zQ hf;refine ke E hx λv G1 H1 x1 r1=>?_
 cases x with
 |str y=>
  obtain⟨rfl,_⟩:=r1
  change (if(acc++y).length<=yR then fj τ (acc++y)else none)=some d at hf
  by_cases cc:(acc++y).length<=yR
  ·rw[zP cc]at hf;have c':(acc++y).length<=sizeLine:=by rw[xy]; exact cc
   exact⟨y,rfl,c',kr (E.go x1) c' hf λv G' H' x2 r2=>q v _ _ (x1.trans x2) r2⟩
  ·rw[zV cc]at hf;cases hf
 |_=>cases hf
theorem hW{e1' e2':Expr}{es:List Expr}{fj:FJ}(h:SJ X (e1'::e2'::es) fj):SE X (.JoinedStr (e1'::e2'::es) pos) (UA fj):=by
 obtain⟨t,pt,k⟩:=h.h;exact⟨⟨_,(eJ pt).h,λE hf q=>k E (qo _) hf q⟩⟩
noncomputable def L_(f:FE)(fg:FG):FS:=λτ=>(f τ).bind λd=>(fg d τ).bind λτ'=>some (.nx τ')
theorem lD{tg:Expr}{fg:FG}(he:SE X e f)(hg:SG X tg fg)(hs:swapsWithSole [tg] e pos.line X.env=pure false:=by rfl)(hw:swappedStores [tg] e X.env=pure none:=by rfl)(h1:(assignEach [tg] X.env).map (·.2)=[assign tg X.env]:=by rfl) :
  SS X (.Assign [tg] e pos) (L_ f fg):=by
 obtain⟨te,pe,ke⟩:=he.h;obtain⟨tt,pt,kt⟩:=hg.h;refine⟨⟨_,Ex pe pt hs hw h1,λ{G0 H0 G H τ σ fl E} K hf q=>?_⟩⟩;obtain⟨d,hd,hf⟩:=zQ hf;obtain⟨τ',ht,hf⟩:=zQ hf;cases hf;exact ke K hd λv G' H' x1 r1=>kt (K.go x1) r1 ht λσ' K'=>q _ _ _ K'
noncomputable def Q1(i:Nat)(k v:FE):FS:=λσ=>(v σ).bind λy=>match σ[i]? with
 |some (some (true,.lst ds))=>(k σ).bind λx=>match x with
  |.int j=>(ixN ds.length j).bind λn=>some (.nx (σ.set i (some (true,.lst (ds.set n y)))))
  |_=>none
 |_=>none
theorem Reps.set{K:W.Frag}{G:Hp}{d:D}{v:V}(hv:zf K G d v):∀{ds:List D}{vs:List V}(n:Nat),Reps K G ds vs->Reps K G (ds.set n d) (vs.set n v)
 | [],_,_,r=>by cases(show _=[]from r); rfl
 |d'::ds,_,0,r=>by
  obtain⟨u,r',rfl,hu,hr⟩:=r;exact⟨v,r',rfl,hv,hr⟩
 |d'::ds,_,n+1,r=>by
  obtain⟨u,r',rfl,hu,hr⟩:=r;exact⟨u,_,rfl,hu,Reps.set hv n hr⟩
theorem lH{i:Nat}{k v:Expr}{fk fv:FE}{pos':Pos}(ho:QE X (.Name x xp) (jO i))(hk:SE X k fk)(hv:SE X v fv)(hp:YU k=true:=by rfl)(hs:swapsWithSole [.Subscript (.Name x xp) k pos'] v pos.line X.env=pure false:=by rfl)
  (hw:swappedStores [.Subscript (.Name x xp) k pos'] v X.env=pure none:=by rfl)(h1:(assignEach [.Subscript (.Name x xp) k pos'] X.env).map (·.2)=[assign (.Subscript (.Name x xp) k pos') X.env]:=by rfl):SS X (.Assign [.Subscript (.Name x xp) k pos'] v pos) (Q1 i fk fv):=by
 obtain⟨tk,pk,kk⟩:=hk.h;obtain⟨tv,pv,kv⟩:=hv.h;refine⟨⟨_,Ex pv (eM ho ⟨pk⟩ i7 hp).h hs hw h1,λ{G0 H0 G H τ σ fl E} K hf q=>?_⟩⟩;obtain⟨y,hy,hf⟩:=zQ hf;refine kv K hy λw G1 H1 x1 r1=>?_
 split at hf
 ·rename_i ds hd;obtain⟨xk,hx,hf⟩:=zQ hf;cases xk with
  |int j=>
   obtain⟨n,hn,hf⟩:=zQ hf;cases hf;have K1:=K.go x1;obtain⟨aa,ea,g,z,vs,ev,rs,l⟩:=K1.ow _ _ hd;refine⟨_,ea,kk K1 hx λu G2 H2 x2 r2=>?_⟩;cases(show u=_ from r2);refine⟨aa,vs,j,n,rfl,rfl,x2.h _ _ ev,by rw[rs.length]; exact hn,?_⟩;exact q _ _ _ ((K1.go x2).VB hd ea ⟨_,yr,Reps.set (r1.mono x2.g) n (rs.mono x2.g),by rw[ge]; exact l⟩)
  |_=>cases hf
 ·cases hf
theorem Hb{op op':CmpOp}{r r':R2}{F F':D->D->Option D}(ho:yi X (compareOp op) r)(hF:qG X.K r F)(ho':yi X (compareOp op') r')(hF':qG X.K r' F')(ha:SB X a fa)(hb:SB X b fb)(hc:SB X c fc)(hm:lastMarks [op,op'] [b,c]=false:=by with_unfolding_all rfl) :
  ST X (.Compare a [op,op'] [b,c] pos) (tE (tU F F' fa fb fc)):=by
 obtain⟨ta,pa,ka⟩:=ha.h;obtain⟨tb,pb,kb⟩:=hb.h;obtain⟨tc,pc,kc⟩:=hc.h;refine⟨⟨_,dt ho ho' pa pb pc hm,λ{G0 H0 G H τ σ d Q} E hf q=>?_⟩⟩;obtain⟨w0,hw0,hf0⟩:=zQ hf;obtain⟨x,hx,hw0⟩:=zQ hw0;obtain⟨y,hy,hw0⟩:=zQ hw0;obtain⟨k,hk,hw0⟩:=zQ hw0;refine ka E hx λv G1 H1 x1 r1=>?_
 refine kb (E.go x1) hy λu G2 H2 x2 r2=>?_
 obtain⟨k,rfl,z⟩:=hF H2 x y v u _ _ (r1.mono x2.h) r2 hk;refine z ⟨k,rfl,?_⟩;cases k with
 |false=>
  cases hw0;cases hf0;exact ky ⟨_,rfl,q _ _ (x1.trans x2)⟩
 |true=>
  obtain⟨w,hw,hw0⟩:=zQ (show(fc _).bind _=_ from hw0);refine kz (kc ((E.go x1).go x2) hw λu3 G3 H3 x3 r3=>?_);obtain⟨k,rfl,z⟩:=hF' H3 y w u u3 _ _ (r2.mono x3.h) r3 hw0;cases hf0;exact z ⟨_,rfl,q _ _ (x1.trans (x2.trans x3))⟩
end
end L3
namespace L2
open PySem PySem.Spec PyProof.Rows
noncomputable def Ie(K:W.Frag)(a:Addr):It:=
  ⟨λi H=>∃xs x,yj K H a xs/\xs[i]?=some x,
   λi H v H'=>∃p,H p=none/\v=.ref p/\∀xs,yj K H a xs->∃x,xs[i]?=some x/\H'=zc H p (.tup [.int (i:Int),x]),
   λi H=>∃xs,yj K H a xs/\xs.length<=i⟩
theorem nV{P:Program}{w:World}{K:W.Frag}{elts:List Expr}{kk:Nat}{pos:Pos}(a e it:Addr)(hei:e≠it) :
  qI P w K (.Tuple elts kk pos) (Ie K a) [e,it] e (λi h=>(∃old,IsEnum h e it (i:Int) old)/\h.IsListIter it a i) where
 mem:=by simp
 obj:=λi h st c hc=>by
  obtain⟨⟨old,s1⟩,⟨o2,s2,_,d2⟩⟩:=st;simp only[xN,t_,or_false]at hc;rcases hc with rfl|rfl
  ·exact⟨_,s1,λv q=>nomatch q⟩
  ·exact⟨_,s2,λv q=>by rw[d2]at q; cases q⟩
 keep:=λi h h' st k=>by
  obtain⟨⟨old,s1⟩,s2⟩:=st;exact⟨⟨old,k e (by simp) _ s1⟩,s2.at λo x=>k it (by simp) o x⟩
 item:=by
  intro X hP hw hK hc i z8 s σ H E I hf st hg;subst hP hw hK;obtain⟨⟨old,s1⟩,s2⟩:=st;obtain⟨xs,x,hx,ex⟩:=hg;obtain⟨us,ru,pu,_⟩:=I.list hx;have pl:=pu.isList;obtain⟨xu,hxu,rxu⟩:=ru.get ex;have hx':us.toArray[i]?=some xu:=by rw[J4]; exact hxu
  have lt1:e<s.heap.objs.size:=yh s1;have lt2:it<s.heap.objs.size:=by obtain⟨o,z,_⟩:=s2; exact yh z
  refine wpAny_pyNext_enum_item s1 s2 pl hx' hei λh1 heo hit1 ht1 hz1 hk1=>?_
  refine⟨_,rfl,wpAny_letOwnedTupleGo_enum (s:={ s with heap:=h1,toks:=s.toks+1 }) heo λh2 he2 hs2=>?_⟩
  replace hs2:Heap.SameBut e h1 h2:=hs2
  have hTs:s.heap.get? s.heap.objs.size=none:=by
   cases q:s.heap.get? s.heap.objs.size with
   |none=>rfl
   |some o=>exact absurd (yh q) (v6 _)
  have hTf:H s.heap.objs.size=none:=I.zj.fresh (y0 _);have tup:h2.get? s.heap.objs.size=some { cls:=.type "tuple",data:=.seq #[.int i s.toks,xu] }:=hs2.extBut _ _ (Yy lt1) ht1
  have kk:∀c o,c ∉ [e,it]->s.heap.get? c=some o->h2.get? c=some o:=λc o hc z=>by
   simp only[xN,t_,or_false,not_or]at hc;exact hs2.extBut _ _ hc.1 (hk1 c o hc.1 hc.2 z)
  have new:xD X.prog X.w (zc H s.heap.objs.size (.tup [.int (i:Int),x])) h2 s.heap.objs.size (.tup [.int (i:Int),x]):=⟨(by show 2<=sizeLine; decide),[.int i s.toks,xu],.cons ⟨_,rfl⟩ (.cons rxu .nil),⟨_,tup,rfl,_,rfl⟩⟩;refine⟨.ref s.heap.objs.size,zc H s.heap.objs.size (.tup [.int (i:Int),x]),I.JN (tk:=s.toks+1) hf kk hTs hTf new,rfl,⟨s.heap.objs.size,hTf,rfl,λxs' hx'=>?_⟩,⟨⟨xu,?_⟩,hit1.at λo z=>hs2.extBut _ _ hei.symm z⟩,λc hc=>?_⟩
  ·rw[I.VA hx' hx];exact⟨x,ex,rfl⟩
  ·rw[show((i+1:Nat):Int)=(i:Int)+1 from rfl];exact he2
  ·rw[yE]
   ·exact(hf c hc).1
   ·intro q
    have hlt:c<s.heap.objs.size:=by
     simp only[xN,t_,or_false]at hc;rcases hc with rfl|rfl
     ·exact lt1
     ·exact lt2
    rw[q]at hlt;exact absurd hlt (v6 _)
 done:=by
  intro X hP hw hK hc i z8 s σ H E I hf st hg;subst hP hw hK;obtain⟨⟨old,s1⟩,s2⟩:=st;obtain⟨xs,hx,hend⟩:=hg;obtain⟨us,ru,pu,_⟩:=I.list hx;have pl:=pu.isList
  have hx':us.toArray[i]?=none:=by
   rw[J4];exact pp (by have:=ru.length; omega)
  refine wpAny_pyNext_enum_end (by exact I.ok.hd hc) s1 s2 pl hx' λh1 he1=>?_
  refine⟨rfl,I.but (tk:=s.toks) hf λc ob hcc eb=>?_⟩;simp only[xN,t_,or_false,not_or]at hcc;exact he1 c ob hcc.2 eb
 self:=λ_ _ _ _ _ st h=>by
  obtain⟨⟨old,s1⟩,_⟩:=st;exact wpAny_pyIter_enum s1 h
section
variable{X:Cx}
noncomputable def S7(K:W.Frag)(ta:TA):TI:=λσ H R=>ta σ H λvs H1=>∃a xs,vs=[.ref a]/\yj K H1 a xs/\R (Ie K a) H1
theorem d8{a:Expr}{ta:TA}{p pos:Pos}{elts:List Expr}{kk:Nat}{tp:Pos}(hg:Gl X "enumerate")(hm:X.mg "enumerate" = none)(ha:PA X [a] ta)(hs:starEach [a] X.env=[(false,eval a X.env)]:=by rfl) :
  PI X (.Tuple elts kk tp) (.Call (.Name "enumerate" p) [a] [] pos) (S7 X.K ta):=by
 intro z8 s σ H R I h;refine Call_ (gE I hg hm boot_enumerate (Wx (zw (ha pos z8 s σ H _ I h) λus s1 ⟨vs,H1,I1,r1,q1⟩=>?_) (by rw[hs]; rfl) rfl));obtain⟨l1,xs,rfl,hx,q⟩:=q1;obtain⟨u,rfl,ru⟩:=vN r1;cases(show u=Value.ref l1 from ru);obtain⟨us,_,pu,_⟩:=I1.list hx;refine call_enumerate_list pu.isList λh' a1 a2 hz kp=>?_
 have I2:Inv X z8 σ H1 { s1 with heap:=h' }:=I1.kept (t':=s1.toks) kp;refine wpAny_pyIter_enum (s:={ s1 with heap:=h' }) a1 ?_;generalize hn:s1.heap.objs.size=n at a1 a2 hz;refine⟨n+1,[n+1,n],_,_,H1,rfl,I2,nV l1 (n+1) n (vM (by omega)),⟨⟨_,a1⟩,a2⟩,λc hc=>?_,q⟩
 have hle:s1.heap.objs.size<=c:=by
  rw[hn];simp only[xN,t_,or_false]at hc;rcases hc with rfl|rfl
  ·exact Wv _ _
  ·exact y0 _
 exact I1.p_ hle (I1.zj.fresh hle)
end
end L2
namespace L3
open PySem PySem.Spec PyProof.Rows L2
noncomputable def numbered(xs:List D):List D:=List.zipWith (λ(i:Nat) x=>D.tup [.int (i:Int),x]) (List.range xs.length) xs
noncomputable def YH(a:FE):FA:=λσ=>(a σ).bind λd=>match d with
 |.lst xs=>some (numbered xs)
 |_=>none
theorem WH(xs:List D):(numbered xs).length=xs.length:=by simp[numbered]
theorem LX(xs:List D)(i:Nat):(numbered xs)[i]?=(xs[i]?).map λx=>D.tup [.int (i:Int),x]:=by
 unfold numbered;rw[J5];by_cases h:i<xs.length
 ·rw[J3 h,yf h]; rfl
 ·rw[pp (by simpa using h),pp (by omega)]; rfl
section
variable{K:W.Frag}{G H:Hp}
theorem RD{a:Addr}{vs:List V}{xs:List D}(s1:yj K G a vs)(r1:Reps K G xs vs):tR K (Ie K a) G (numbered xs) where
 go:=λi G2 H g1 g2 hi=>by
  rw[WH]at hi;obtain⟨v,e1,_⟩:=r1.get (yf hi);exact⟨vs,v,wZ (g1.trans g2) s1,e1⟩
 vQ:=λi G2 H x H' g1 g2 hi y=>by
  obtain⟨p,hp,rfl,k⟩:=y;obtain⟨v,e1,rfl⟩:=k vs (wZ (g1.trans g2) s1);obtain⟨d1,f1,q1⟩:=r1.at e1;refine⟨zc G2 p (.tup [.int (i:Int),v]),.tup [.int (i:Int),d1],zW.lay g2 hp,by rw[LX,f1]; rfl,?_⟩;have sm:yc G (zc G2 p (.tup [.int (i:Int),v])):=g1.trans (wn (g2.free hp) _);exact⟨p,[.int (i:Int),v],rfl,xH.of yr,⟨_,_,rfl,rfl,⟨v,_,rfl,q1.mono sm,rfl⟩⟩,small (n:=2) (by decide)⟩
 stop:=λi G2 H g1 g2 hi=>by
  rw[WH]at hi;exact⟨vs,wZ (g1.trans g2) s1,by rw[r1.length]; exact hi⟩
end
theorem HC{X:Cx}{a:Expr}{fa:FE}{p pos:Pos}{elts:List Expr}{kk:Nat}{tp:Pos}(hg:Gl X "enumerate")(hm:X.mg "enumerate" = none)(ha:SE X a fa)(hs:xJ a=true:=by rfl):SI X (.Tuple elts kk tp) (.Call (.Name "enumerate" p) [a] [] pos) (YH fa):=by
 obtain⟨t,pt,k⟩:=(zC ha zO hs).h;refine⟨⟨_,d8 hg hm pt (u2 hs),λ{G0 H0 G H τ σ ds R} K hf q=>?_⟩⟩;obtain⟨x,hx,hf⟩:=zQ hf;cases x<;>first|(cases hf; done)|skip
 cases hf;rename_i xs;refine k K (ds:=[.lst xs]) (by unfold zB; rw[hx]; rfl) λvs G1 H1 x1 r1=>?_
 obtain⟨v,r,rfl,hv,hr⟩:=r1;cases(show r=[]from hr);obtain⟨aa,vs1,rfl,s1,q1,l1⟩:=hv;exact⟨aa,vs1,rfl,wZ x1.gh s1,q _ _ _ x1 (by rw[WH]; exact l1) (RD s1 q1)⟩
end L3
namespace L2
open PySem PySem.Spec PyProof PyProof.Rows
noncomputable def km(a:Int):List Int->List Int
 | []=>[a]
 |b::r=>if a<=b then a::b::r else b::km a r
noncomputable def isort:List Int->List Int
 | []=>[]
 |a::r=>km a (isort r)
theorem Ox(a:Int):∀l:List Int,(km a l).Perm (a::l)
 | []=>Bh _
 |b::r=>by
  unfold km
  split
  ·exact Bh _
  ·exact((Ox a r).cons b).trans (List.Perm.swap a b r)
theorem isort_perm:∀l:List Int,(isort l).Perm l
 | []=>Bh _
 |a::r=>(Ox a _).trans ((isort_perm r).cons a)
theorem Fo(a:Int):∀{l:List Int},l.Pairwise (·<=·)->(km a l).Pairwise (·<=·)
 | [],_=>by simp[km]
 |b::r,h=>by
  obtain⟨h1,h2⟩:=Wt.mp h;unfold km
  split
  ·rename_i hab
   exact Wt.mpr ⟨λx hx=>by
    rcases xN.mp hx with rfl|hx
    ·exact hab
    ·exact Bc hab (h1 x hx),h⟩
  ·rename_i hab;refine Wt.mpr ⟨λx hx=>?_,Fo a h2⟩;rcases xN.mp ((Ox a r).mem_iff.mp hx)with rfl|hx
   ·omega
   ·exact h1 x hx
theorem F_:∀l:List Int,(isort l).Pairwise (·<=·)
 | []=>List.Pairwise.nil
 |a::r=>Fo a (F_ r)
theorem HP:∀{a b:List Int},a.Perm b->a.Pairwise (·<=·)->b.Pairwise (·<=·)->a=b
 | [],b,p,_,_=>(List.nil_perm.mp p).symm
 |x::a,[],p,_,_=>by cases p.length_eq
 |x::a,y::b,p,ha,hb=>by
  obtain⟨h1,h2⟩:=Wt.mp ha;obtain⟨g1,g2⟩:=Wt.mp hb
  have e:x=y:=by
   have hx:x∈y::b:=p.mem_iff.mp (xh ..);have hy:y∈x::a:=p.mem_iff.mpr (xh ..);rcases xN.mp hx with rfl|hx
   ·rfl
   ·rcases xN.mp hy with e|hy
    ·exact e.symm
    ·exact Int.le_antisymm (h1 y hy) (g1 x hx)
  subst e;rw[HP (List.perm_cons x |>.mp p) h2 g2]
theorem KD:∀{ns:List Int}{its:List Value},zz (ns.map V.int) its->IntsAre its ns
 | [],_,.nil=>.nil
 |n::ns,_,.cons r rr=>by
  obtain⟨t,rfl⟩:=r;exact .cons _ _ (KD rr)
theorem Fq:∀{ns:List Int}{its:List Value},IntsAre its ns->zz (ns.map V.int) its
 | [],_,.nil=>.nil
 |_::_,_,.cons _ _ r=>.cons ⟨_,rfl⟩ (Fq r)
section
variable{X:Cx}
theorem P0:wX X (.builtin "sorted") (λxs H Q=>∃p ns,xs=[.ref p]/\yj X.K H p (ns.map V.int)/\ns.length<64/\∀l,H l=none->Q (.ref l) (zc H l (.lst ((isort ns).map V.int)))):=by
 intro z8 s σ H xs us Q I r h;obtain⟨p,ns,rfl,hq,h64,q⟩:=h;obtain⟨u,rfl,rx⟩:=vN r;cases rx;obtain⟨its,r',pl,hz⟩:=I.list hq;have hlen:=r'.length;rw[yK]at hlen;refine sorted_ints pl.isList (KD r') (by omega) λout ns' a1 a2 a3=>?_
 have e:ns'=isort ns:=HP (a2.trans (isort_perm ns).symm) a3 (F_ ns);subst e;obtain⟨c,hc⟩:=sortedAll_at s.heap its out;have hl2:(isort ns).length=ns.length:=(isort_perm ns).length_eq;refine⟨.ref (s.heap.objs.size+1),_,I.laid (t':=s.toks) (h':=sortedAll s.heap its out) (λ_ _=>sortedAll_old) (JB _) (show xD X.prog X.w _ _ _ (.lst ((isort ns).map V.int))from⟨?_,out.toList,c,Fq a1,?_⟩),rfl,q _ (I.zj.fresh (JB _))⟩
 ·rw[yK,hl2];show _<=sizeLine;rw[yK]at hz;exact hz
 ·rw[Array.toArray_toList];exact hc
end
end L2
namespace L3
open PySem PySem.Spec PyProof.Rows L2
theorem Nr:bootBuiltins "sorted" = some (.builtin "sorted"):=by decide +kernel
noncomputable def intsOf:List D->Option (List Int)
 | []=>some []
 |.int i::r=>(intsOf r).bind λns=>some (i::ns)
 |_=>none
theorem Fv:∀ns:List Int,intsOf (ns.map D.int)=some ns
 | []=>rfl
 |n::ns=>by
  show(intsOf (ns.map D.int)).bind _=_;rw[Fv ns];rfl
theorem Fu:∀{ds:List D}{ns:List Int},intsOf ds=some ns->ds=ns.map D.int
 | [],_,h=>by cases h; rfl
 |d::ds,ns,h=>by
  unfold intsOf at h
  split at h
  ·rename_i e; cases e
  ·rename_i i r e;cases e;obtain⟨ns',h1,h⟩:=zQ h;cases h;rw[Fu h1];rfl
  ·cases h
theorem GZ{K:W.Frag}{G:Hp}:∀{ns:List Int}{vs:List V},Reps K G (ns.map D.int) vs->vs=ns.map V.int
 | [],_,r=>r
 |n::ns,_,r=>by
  obtain⟨v,r',rfl,hv,hr⟩:=r;rw[GZ hr,show v=V.int n from hv];rfl
theorem Fp{K:W.Frag}{G:Hp}:∀ns:List Int,Reps K G (ns.map D.int) (ns.map V.int)
 | []=>rfl
 |n::ns=>⟨.int n,_,rfl,rfl,Fp ns⟩
noncomputable def Oj:List D->Option D
 | [.lst xs]=>(intsOf xs).bind λns=>if ns.length<64 then some (.lst ((isort ns).map D.int))else none
 |_=>none
theorem iB{X:Cx}{e:Expr}{fs:FA}{p pos:Pos}(hg:Gl X "sorted")(hm:X.mg "sorted" = none)(ha:SA X [e] fs)(hs:xJ e=true:=by rfl):SF X (.Call (.Name "sorted" p) [e] [] pos) (eL Oj fs):=by
 obtain⟨t,pt,k⟩:=ha.h;refine⟨⟨_,(Ln P0 hg hm Nr ⟨pt⟩ (by decide) (by decide) (by rw[wp,hs]; rfl)).h,λ{G0 H0 G H τ σ d Q} E hf q=>?_⟩⟩;obtain⟨ds,hd,hf⟩:=zQ hf;refine k E hd λvs G1 H1 x1 r1=>?_
 match ds,hf with
 | [.lst xs],hf=>
  obtain⟨ns,hn,hf⟩:=zQ (show(intsOf xs).bind _=some d from hf)
  split at hf
  ·rename_i h64;cases hf;obtain⟨v,rfl,a,us,rfl,sq,rs,l⟩:=qW r1;rw[Fu hn]at rs l;rw[GZ rs]at sq;refine⟨a,ns,rfl,wZ x1.gh sq,h64,λp hp=>q p _ _ (x1.trans (zW.qB x1.gh hp)) (x1.h.free hp) (x1.gh.free hp) ⟨_,yr,Fp _,?_⟩⟩;rw[yK,(isort_perm ns).length_eq];rw[yK]at l;exact l
  ·cases hf
end L3
namespace L2
open PySem PySem.Spec PyProof.Rows
end L2
namespace L3
open PySem PySem.Spec PyProof.Rows L2
noncomputable def Xj:D->D->Option D
 |.lst x,.lst y=>if x.length+y.length<=yR then some (.lst (x++y))else none
 |_,_=>none
theorem RG{x y d:D}(h:Xj x y=some d):∃xs ys,x=.lst xs/\y=.lst ys/\xs.length+ys.length<=yR/\d=.lst (xs++ys):=by
 unfold Xj at h
 split at h
 ·rename_i xs ys;by_cases c:xs.length+ys.length<=yR
  ·rw[zP c]at h;cases h;exact⟨_,_,rfl,rfl,c,rfl⟩
  ·rw[zV c]at h;cases h
 ·cases h
section
variable{X:Cx}{a b:Expr}{fa fb:FE}{x:Str}{xp pos:Pos}
theorem i8{i:Nat}(ho:QE X (.Name x xp) (jO i))(hb:SE X b fb):SF X (.BinOp (.Name x xp) .Add b pos) (e2 Xj (vt i) fb):=by
 obtain⟨tb,pb,kb⟩:=hb.h;refine⟨⟨_,Eo Ed ho.h pb,λ{G0 H0 G H τ σ d Q} E hf q=>?_⟩⟩;obtain⟨x,hx,hf⟩:=zQ hf;obtain⟨y,hy,hf⟩:=zQ hf;obtain⟨xs,ys,rfl,rfl,c,rfl⟩:=RG hf
 ·have c':(xs++ys).length<=sizeLine:=by rw[xy,xC]; exact c
  obtain⟨o,ho⟩:=OZ hx;cases o with
  |false=>
   obtain⟨v,ev,rv⟩:=E.fr _ _ ho;refine⟨v,ev,kb E hy λu G2 H2 x2 r2=>?_⟩;obtain⟨aa,vs,rfl,sa,ra,_⟩:=rv;obtain⟨bb,us,rfl,sb,rb,_⟩:=r2;refine⟨aa,bb,vs,us,rfl,rfl,wZ (x2.g.trans x2.gh) sa,wZ x2.gh sb,by rw[ra.length,rb.length,xy]; exact c,λp hp=>?_⟩;exact q p _ _ (x2.trans (zW.qB x2.gh hp)) (x2.h.free hp) (x2.gh.free hp) ⟨_,yr,(ra.mono x2.g).append rb,c'⟩
  |true=>
   obtain⟨p,ev,_,_,vs,e1,ra,_⟩:=E.ow _ _ ho;refine⟨_,ev,kb E hy λu G2 H2 x2 r2=>?_⟩;obtain⟨bb,us,rfl,sb,rb,_⟩:=r2;refine⟨p,bb,vs,us,rfl,rfl,yj.of (x2.h _ _ e1),wZ x2.gh sb,by rw[ra.length,rb.length,xy]; exact c,λp hp=>?_⟩;exact q p _ _ (x2.trans (zW.qB x2.gh hp)) (x2.h.free hp) (x2.gh.free hp) ⟨_,yr,(ra.mono x2.g).append rb,c'⟩
end
noncomputable def Q0(i:Nat)(e:FE):FS:=λσ=>match σ[i]? with
 |some (some (true,.lst xs))=>(e σ).bind λy=>match y with
  |.lst ys=>if xs.length+ys.length<=yR then some (.nx (σ.set i (some (true,.lst (xs++ys)))))else none
  |_=>none
 |_=>none
section
variable{X:Cx}{a b:Expr}{f fa fb:FE}{x:Str}{xp pos apos cpos:Pos}{e:Expr}
theorem fP(he:SF X e f)(hs:xJ e=true:=by rfl):∃t,PA X [e] t/\∀{G0 H0 G H:Hp}{τ:yT}{σ:St}{d:D}{Q:List V->Hp->Prop},yA X.K X.N.length G0 H0 G H τ σ->f τ=some d->(∀p G' H',zW G H G' H'->H p=none->G' p=none->vA X.K G' H' d p->Q [.ref p] H')->t σ H Q:=by
 obtain⟨t,p,k⟩:=he.h;refine⟨_,WM p YT hs,λE hf q=>k E hf λp G1 H1 x1 hp gp o=>?_⟩;exact q p G1 H1 x1 hp gp o
theorem HY{i:Nat}(ho:QE X (.Name x xp) (jO i))(he:SF X e f)(hbase:attributeBase (.Name x xp) "extend" X.env (eval (.Name x xp) X.env)=eval (.Name x xp) X.env:=by rfl)(hline:(apos.endLine==cpos.line)=true:=by rfl)(hs:xJ e=true:=by rfl) :
  SS X (.Expr (.Call (.Attribute (.Name x xp) "extend" apos) [e] [] cpos) pos) (Q0 i f):=by
 obtain⟨t,p,k⟩:=fP he hs;refine⟨⟨_,(GB (gL PySem.F.plainAttrs_list PySem.F.slot_list_extend PySem.F.type_list_extend Ad ho ⟨p⟩ hbase hline (by rw[wp,hs]; rfl) (by show 1<30; decide)) rfl).h,λ{G0 H0 G H τ σ fl E} K hf q=>?_⟩⟩;unfold Q0 at hf
 split at hf
 ·rename_i xs hd;obtain⟨y,hy,hf⟩:=zQ hf;cases y with
  |lst ys=>
   change (if xs.length+ys.length<=yR then some (Fl.nx (τ.set i (some (true,.lst (xs++ys)))))else none)=some fl at hf
   by_cases c:xs.length+ys.length<=yR
   ·rw[zP c]at hf;cases hf;obtain⟨aa,ea,g,z,vs,ev,rs,l⟩:=K.ow _ _ hd;refine⟨_,ea,.inl ⟨rfl,vs,yj.of ev⟩,k K hy λp G1 H1 x1 hp gp o=>?_⟩;obtain⟨us,eu,ru,_⟩:=o;refine⟨aa,p,vs,us,rfl,rfl,x1.h _ _ ev,eu,by rw[rs.length,ru.length,xy]; exact c,?_⟩;refine q _ _ _ ((K.go x1).VB hd ea ⟨_,yr,(rs.mono x1.g).append ru,?_⟩);rw[xy,xC]; exact c
   ·rw[zV c]at hf;cases hf
  |_=>cases hf
 ·cases hf
end
end L3
namespace L2
open PySem PySem.Spec PyProof PyProof.Rows
end L2
namespace L3
open PySem PySem.Spec PyProof.Rows L2
end L3
namespace L2
open PySem PySem.Spec PyProof PyProof.Rows
end L2
namespace L3
open PySem PySem.Spec PyProof.Rows L2
end L3
namespace L2
open PySem PySem.Spec PyProof PyProof.Rows
section
variable{prog:Program}{w:World}{K:Type}[DecidableEq K]{knd:KeyKind prog w K}{A:Around}{E:Value->Shared->Prop}
theorem put_at{h:Heap}{a:Addr}{o:Obj}{es es2:Array (Int×Value)}{ep:Nat}{t t2:SetTable}(ho:h.get? a=some o)(hd:o.data=.set es ep t) :
  (h.update a (Obj.putSet es2 t2)).get? a=some { o with data:=.set es2 (ep+1) t2 }:=by
 have e:=Wp (Obj.putSet es2 t2) ho (by rw[putSet_of es2 t2 hd]; rfl);rw[putSet_of es2 t2 hd]at e;exact e
end
end L2
namespace L3
open PySem PySem.Spec PyProof.Rows L2
end L3
namespace L2
open PySem PySem.Spec PyProof PyProof.Rows
end L2
namespace L3
open PySem PySem.Spec PyProof.Rows L2
end L3
namespace L2
open PySem PySem.Spec PyProof PyProof.Rows
end L2
namespace L3
open PySem PySem.Spec PyProof.Rows L2
end L3
namespace L2
open PySem PySem.Spec PyProof PyProof.Rows
section
variable{X:Cx}
theorem C6:∀{kvs:List (zb×V)} {vs:List (zb×Value)},KV kvs vs->vs.map (·.1)=kvs.map (·.1)
 |_,_,.nil=>rfl
 |_,_,.cons r t=>by rw[xY,xY,C6 t,r.1]
end
end L2
namespace L3
open PySem PySem.Spec PyProof.Rows L2
end L3
namespace L2
open PySem PySem.Spec PyProof PyProof.Rows
end L2
namespace L3
open PySem PySem.Spec PyProof.Rows L2
section
variable{α:Type}{P:List α->Prop}
theorem K6(h:P []):∀us:List α,us.length=0->P us
 | [],_=>h
theorem QV{n:Nat}(h:∀a (r:List α),r.length=n->P (a::r)):∀us:List α,us.length=n+1->P us
 |a::r,e=>h a r (Nat.succ.inj e)
theorem K7(h:∀a,P [a]):∀us:List α,us.length=1->P us:=QV λa=>K6 (P:=λr=>P (a::r)) (h a)
theorem K8(h:∀a b,P [a,b]):∀us:List α,us.length=2->P us:=QV λa=>K7 (P:=λr=>P (a::r)) (h a)
theorem K9(h:∀a b c,P [a,b,c]):∀us:List α,us.length=3->P us:=QV λa=>K8 (P:=λr=>P (a::r)) (h a)
theorem o_(h:∀a b c d,P [a,b,c,d]):∀us:List α,us.length=4->P us:=QV λa=>K9 (P:=λr=>P (a::r)) (h a)
end
noncomputable abbrev FK(x:Str)(st:Stmt)(oc:Value)(od:Option Addr)(sl:Array (Option Value))(kV dc pm:Value)(an:Option Addr)(cd ct:Value):Option Obj:=some ⟨oc,od,.func (W.fnOf x x (j_ st) (t7 st) (zx st) .none kV dc pm an cd ct),sl⟩
open PyProof
end L3
namespace L2
open PySem PySem.Spec PyProof PyProof.Rows
noncomputable def tO(K:W.Frag)(w:World)(a:Addr)(ks:List zb)(us:List V):Prop:=
 (a==sysModules)=false/\ks.length=us.length/\∃ep,∀(P:Program)(h:Heap),K.In h->∃vs,KV (ks.zip us) vs/\h.DictAt (xr P w) a vs ep
theorem C3{k:zb}{v:Value}(h:Z0 k v=true):yB (kV k) v:=by
 rcases pO h with⟨i,t,rfl,rfl⟩|⟨x,t,rfl,rfl⟩
 ·exact⟨t,rfl⟩
 ·exact⟨t,rfl⟩
noncomputable def Ig(ks:List zb):It:=⟨λi _=>i<ks.length,λi H v H'=>H'=H/\∃k,ks[i]?=some k/\v=kV k,λi _=>ks.length<=i⟩
theorem qT:∀{kvs:List (zb×V)} {vs:List (zb×Value)},KV kvs vs->vs.length=kvs.length
 |_,_,.nil=>rfl
 |_,_,.cons _ t=>by rw[xg,xg,qT t]
theorem nW{P:Program}{w:World}{K:W.Frag}{tg:Expr}{ks:List zb}{us:List V}{ep:Nat}(a it:Addr)(hl:ks.length=us.length)(g:∀(P:Program)(h:Heap),K.In h->∃vs,KV (ks.zip us) vs/\h.DictAt (xr P w) a vs ep) :
  qI P w K tg (Ig ks) [it] it (λi h=>h.IsKeyIter it a i ks.length ep) where
 mem:=by simp
 obj:=λi h st b hb=>by
  have e:b=it:=by simpa using hb
  subst e;obtain⟨o,e,c,d⟩:=st;exact⟨o,e,λv z=>by rw[d]at z; cases z⟩
 keep:=λi h h' st k=>st.at λo e=>k it (by simp) o e
 item:=by
  intro X hP hw hK hc i z8 s σ H E I hf st hg;subst hP hw hK;obtain⟨vs,rel,dd⟩:=g X.prog s.heap I.w8;have ln:vs.length=ks.length:=by rw[qT rel,jU,hl,qm]
  have hi:i<vs.length:=by rw[ln]; exact hg
  have hx:vs[i]?=some (vs[i].1,vs[i].2):=yf hi
  have hk:ks[i]?=some vs[i].1:=by
   have e:=congrArg (λl:List zb=>l[i]?) (C6 rel);simp only[wM,hx,Option.map_some,List.map_fst_zip (show ks.length<=us.length by omega)]at e;exact e.symm
  obtain⟨f0,f1,f2,f3,f4,f5⟩:=hf it (by simp);rw[<-ln]at st;refine wpAny_pyNext_dict_item st dd hx λkey h' hkey st' sb=>?_
  rw[ln]at st';have I1:Inv X z8 σ H { s with heap:=h' }:=I.turned (t':=s.toks) (λb o hb e=>(sb.2 b hb).trans e) f0 f1 f3 f4 f5;obtain⟨o,e,c,d⟩:=id st';exact⟨key,rfl,YC (s:={ s with heap:=h' }) e c d (by decide) ⟨kV vs[i].1,H,I1,C3 hkey,⟨rfl,_,hk,rfl⟩,st',λb hb=>(hf b hb).1⟩⟩
 done:=by
  intro X hP hw hK hc i z8 s σ H E I hf st hg;subst hP hw hK;obtain⟨vs,rel,dd⟩:=g X.prog s.heap I.w8;have ln:vs.length=ks.length:=by rw[qT rel,jU,hl,qm]
  have hx:vs[i]?=none:=pp (by rw[ln]; exact hg);obtain⟨f0,f1,f2,f3,f4,f5⟩:=hf it (by simp);rw[<-ln]at st;exact wpAny_pyNext_dict_end (I.ok.hd hc) st dd hx λh' eb=>⟨rfl,I.turned (t':=s.toks) (λb o hb e=>eb b o hb e) f0 f1 f3 f4 f5⟩
 self:=λ_ _ _ _ _ st h=>wpAny_pyIter_keyiter st h
noncomputable def S8(ks:List zb):TI:=λ_ H R=>R (Ig ks) H
theorem d9{X:Cx}{tg:Expr}{x:Str}{p:Pos}{A:Addr}{ks:List zb}{us:List V}(h:xU X.mg x (.ref A))(g:tO X.K X.w A ks us)(hg:Gl X x)(hd:(x==("__debug__" : Str))=false:=by decide):PI X tg (.Name x p) (S8 ks):=by
 intro z8 s σ H R I hR;obtain⟨hsys,hl,ep,mk⟩:=g;refine zw (WN (pos:=p) h hg hd z8 s σ H (λv H1=>v=.ref A/\H1=H) I ⟨rfl,rfl⟩) λv s1 ⟨y,H1,I1,r1,e1,e2⟩=>?_
 subst e1 e2;cases(show v=Value.ref A from r1);obtain⟨vs,rel,dd⟩:=mk X.prog s1.heap I1.w8;have ln:vs.length=ks.length:=by rw[qT rel,jU,hl,qm]
 refine wpAny_pyIter_dict hsys dd ?_;rw[ln];refine⟨s1.heap.objs.size,[s1.heap.objs.size],_,_,H1,rfl,I1.kept (t':=s1.toks) λb o e=>yx _ e,nW A _ hl mk,⟨_,wG _ rfl,rfl,rfl⟩,λb hb=>?_,hR⟩;have e:b=s1.heap.objs.size:=by simpa using hb
 subst e;exact I1.p_ (y0 _) (I1.zj.fresh (y0 _))
end L2
namespace L3
open PySem PySem.Spec PyProof PyProof.Rows L2
noncomputable def YM:zb->D
 |.inl i=>.int i
 |.inr x=>.str x
noncomputable def jI:zb->Bool
 |.inl _=>true
 |.inr x=>decide (x.length<=yR)
noncomputable def iG(ks:List zb):FA:=λ_=>some (ks.map YM)
theorem C4{K:W.Frag}{G:Hp}{k:zb}(h:jI k=true):zf K G (YM k) (kV k):=by
 cases k with
 |inl i=>rfl
 |inr x=>exact⟨rfl,by rw[xy]; exact wI h⟩
theorem RV{K:W.Frag}{G:Hp}{ks:List zb}(h:ks.all jI=true):tR K (Ig ks) G (ks.map YM) where
 go:=λi G2 H _ _ hi=>by rw[yK]at hi; exact hi
 vQ:=λi G2 H x H' g1 g2 hi y=>by
  obtain⟨rfl,k,hk,rfl⟩:=y;exact⟨G2,YM k,zW.refl g2,by rw[wM,hk]; rfl,C4 (u5.mp h k (tH hk))⟩
 stop:=λi G2 H _ _ hi=>by rw[yK]at hi; exact hi
theorem B6{X:Cx}{tg:Expr}{x:Str}{p:Pos}{A:Addr}{ks:List zb}{us:List V}(h:xU X.mg x (.ref A))(g:tO X.K X.w A ks us)(hg:Gl X x)(hk:ks.all jI=true)(hn:ks.length<=1000)(hd:(x==("__debug__" : Str))=false:=by decide):SI X tg (.Name x p) (iG ks):=
 ⟨⟨_,d9 h g hg hd,λ{G0 H0 G H τ σ ds R} K hf q=>by
  cases hf;exact q _ _ _ (zW.refl K.ext.gh) (by rw[yK,xy]; exact xO hn (by decide)) (RV hk)⟩⟩
theorem On{K:W.Frag}{w:World}{a:Addr}{es:List DictEntry}{n:Nat}{xs:List Str}{vs:List Value}{us:List V}(l:K.lookup a=some { cls:=.type "dict",data:=.dict es.toArray n })(e:qz w es xs vs)(nd:xs.Nodup)(hs:(a==sysModules)=false)(r:zz us vs) :
  tO K w a (xs.map .inr) us:=by
 have hl:(xs.map Sum.inr:List zb).length=us.length:=by rw[yK,e.len,r.length]
 refine⟨hs,hl,n,λP h KI=>⟨_,L1 r hl,?_⟩⟩;obtain⟨p,q⟩:=e.pairs (P:=P);refine⟨_,_,KI _ _ l,⟨rfl,rfl,rfl⟩,rfl,λe he=>q e (by simpa using he),p,?_⟩;rw[BQ (by rw[yK]; exact e.len)];exact List.Pairwise.map _ (λa b h z=>h (B_ z)) nd
end L3
namespace L2
open PySem PySem.Spec PyProof PyProof.Rows
noncomputable def DT(r d:Addr)(h:Heap):Prop:=h.IsValuesView r d
noncomputable abbrev Xc(r d:Addr):HO:=.ext (DT r d)
section
variable{X:Cx}{A:Addr}{ks:List zb}{us:List V}{x:Str}{p apos cpos:Pos}
noncomputable def Hm(A:Addr):TE:=λ_ H Q=>∀r,H r=none->Q (.ref r) (zc H r (Xc r A))
theorem cu(h:xU X.mg x (.ref A))(g:tO X.K X.w A ks us)(hg:Gl X x)(hd:(x==("__debug__" : Str))=false:=by decide)
  (hbase:attributeBase (.Name x p) "values" X.env (eval (.Name x p) X.env)=eval (.Name x p) X.env:=by rfl)(hline:(apos.endLine==cpos.line)=true:=by rfl) :
  PE X (.Call (.Attribute (.Name x p) "values" apos) [] [] cpos) (Hm A):=by
 intro z8 s σ H Q I hQ;obtain⟨hsys,hl,ep,mk⟩:=g;refine D4 hbase hline (zw (WN (pos:=p) h hg hd z8 s σ H (λv H1=>v=.ref A/\H1=H) I ⟨rfl,rfl⟩) λv s1 ⟨y,H1,I1,r1,e1,e2⟩=>?_);subst e1 e2;cases(show v=Value.ref A from r1);obtain⟨vs,rel,dd⟩:=mk X.prog s1.heap I1.w8;have dO:s1.heap.DictOf (xr X.prog X.w) A vs:=dd.dictOf
 have t2:∀b,Value.ref A=.ref b->∃ob,s1.heap.get? b=some ob/\ob.dict=none:=λb q=>by
  cases q;obtain⟨ob,_,_,h1,h2,_⟩:=dO;exact⟨ob,h1,h2.2.1⟩
 refine⟨"dict",_,PySem.F.plainAttrs_dict,PySem.F.slot_dict_values,PySem.F.type_dict_values,dO.typeIs,t2,Qv rfl (PySem.evalArgs_none ?_)⟩;refine call_meetsIn PySem.F.slot_dict_values dO.typeIs PySem.F.entry_dict_values (PySem.F.args_dict_values_1 _) (meets_dict_values (xr X.prog X.w) A hsys) ⟨⟨vs,dO⟩,?_⟩;have hv:DT s1.heap.objs.size A (s1.heap.push { cls:=.type "dict_values",data:=.fields #[.ref A] }):=⟨_,wG _ rfl,rfl,rfl⟩;refine⟨.ref s1.heap.objs.size,_,I1.laid (a:=s1.heap.objs.size) (o:=Xc s1.heap.objs.size A) (t':=s1.toks) (λ_ _ q=>yx _ q) (y0 _) ⟨hv,?_,λh1 h2 z k=>?_⟩,rfl,hQ _ I1.fresh⟩
 ·obtain⟨o,e,_⟩:=hv;exact⟨o,e⟩
 ·obtain⟨o,e,z⟩:=z;exact⟨o,k _ e,z⟩
noncomputable def eY(A:Addr)(us:List V):List V->Hp->VK->Prop:=λxs H Q=>∃r,xs=[.ref r]/\H r=some (Xc r A)/\∀p,H p=none->Q (.ref p) (zc H p (.lst us))
theorem C7:∀{kvs:List (zb×V)} {vs:List (zb×Value)},KV kvs vs->zz (kvs.map (·.2)) (vs.map (·.2))
 |_,_,.nil=>.nil
 |_,_,.cons r t=>.cons r.2 (C7 t)
theorem Nx(hcalm:X.calm=true)(g:tO X.K X.w A ks us)(hn:us.length<=1000):wX X (.type "list") (eY A us):=by
 intro z8 s σ H xs ws Q I r h;obtain⟨a,rfl,ea,q⟩:=h;obtain⟨u,rfl,ru⟩:=vN r;cases(show u=Value.ref a from ru);obtain⟨hsys,hl,ep,mk⟩:=g;obtain⟨vs,rel,dd⟩:=mk X.prog s.heap I.w8;have ln:vs.length=us.length:=by rw[qT rel,jU,hl,qm]
 obtain⟨hv,_⟩:=(show xD X.prog X.w H s.heap a (Xc a A)from I.zj a _ ea);refine W.kdl_call (W.kdl_values (knd:=xr X.prog X.w) (d:=A) (r:=a) (kvs:=vs) (ep:=ep)) (I.ok.hd hcalm) ⟨hv,dd⟩ (by rw[ln,xy]; exact xO hn (by decide)) λh' tk acc' c' kp hS hacc=>?_
 obtain⟨hsz,hat⟩:=hacc
 have e:acc'.toList=vs.map (·.2):=by
  refine Bl λj=>?_
  cases hj:acc'.toList[j]? with
  |none=>
   have:=List.getElem?_eq_none_iff.mp hj;rw[uq,hsz]at this;rw[wM,pp this];rfl
  |some v=>
   obtain⟨k,e⟩:=hat j v (by rw[<-KP]; exact hj);rw[wM,e];rfl
 have rv:zz us acc'.toList:=by
  rw[e];have:=C7 rel;rw[List.map_snd_zip (show us.length<=ks.length by omega)]at this;exact this
 refine⟨.ref s.heap.objs.size,_,I.laid (a:=s.heap.objs.size) (o:=.lst us) (t':=tk) kp (y0 _) ⟨?_,acc'.toList,c',rv,?_⟩,rfl,q _ I.fresh⟩
 ·rw[xy];exact xO hn (by decide)
 ·rw[hS]
end
end L2
namespace L3
open PySem PySem.Spec PyProof PyProof.Rows L2
theorem HA{X:Cx}{A:Addr}{ks:List zb}{us:List V}{ds:List D}{x:Str}{p p2 apos cpos pos:Pos}(hcalm:X.calm=true)(hgl:Gl X "list")(hml:X.mg "list" = none)(h:xU X.mg x (.ref A))(g:tO X.K X.w A ks us)(hg:Gl X x)(rd:∀H,Reps X.K H ds us)(hn:ds.length<=1000)(hd:(x==("__debug__" : Str))=false:=by decide)
  (hbase:attributeBase (.Name x p2) "values" X.env (eval (.Name x p2) X.env)=eval (.Name x p2) X.env:=by rfl)(hline:(apos.endLine==cpos.line)=true:=by rfl) :
  SF X (.Call (.Name "list" p) [.Call (.Attribute (.Name x p2) "values" apos) [] [] cpos] [] pos) (eC (.lst ds)):=by
 have hu:us.length<=1000:=by rw[(rd (λ_=>none)).length]; exact hn
 have q1:QE X (.Call (.Attribute (.Name x p2) "values" apos) [] [] cpos) (Hm A):=⟨cu h g hg hd hbase hline⟩;refine⟨⟨_,(Lo (p:=p) (pos:=pos) (Nx hcalm g hu) hgl hml Do (Lm q1 G8) (by decide) (by decide)).h,λ{G0 H0 G H τ σ d Q} E hf q=>?_⟩⟩;cases hf;intro r hr;refine⟨r,rfl,yr,λl hl=>?_⟩;have x1:=zW.qB (o:=Xc r A) E.ext.gh hr;have x2:=x1.trans (zW.qB (o:=.lst us) x1.gh hl);exact q l _ _ x2 (x1.h.free hl) (x1.gh.free hl) ⟨us,yr,rd _,by rw[xy]; exact xO hn (by decide)⟩
end L3
namespace L2
open PySem PySem.Spec PyProof PyProof.Rows
end L2
namespace L3
open PySem PySem.Spec PyProof PyProof.Rows L2
end L3
namespace L2
open PySem PySem.Spec PyProof PyProof.Rows
section
variable{prog:Program}{w:World}{A:Around}{E:Value->Shared->Prop}{s:Shared}
open HT in
theorem RT{t sl:Addr}{items:Array Value}{vl vu:Value}{lo hi:Option Int}{Q:Value->Shared->Prop}(ht:IsTup s.heap t items)(hs:s.heap.IsSliceOf sl vl vu .none)(pl:IsPart vl lo)(pu:IsPart vu hi)
  (hw:sIx items.size 0 lo=0/\sIx items.size items.size hi=items.size)(h:Q (.ref t) s):wpAny (model prog w) A (getItem (.ref t) (.ref sl)) Q E s:=by
 obtain⟨os,hos,hcs,hds⟩:=id hs;have hTs:s.TypeIs (.ref sl) "slice" := ⟨os,hos,hcs⟩;unfold getItem
 try with_reducible refine Zd ?_
 first|refine zR (yW ?_)|skip
 refine zR (wpAny_sequenceKey ht.typeIs (by decide) ?_)
 refine zR (X1 (name:=Str.ofString "__getitem__") ht.typeIs Yz
  (X2 Yz ht.typeIs entry_tuple_getitem ?_ (args_tuple_getitem _ _)))
 show wpAny _ _ (Builtin.Tuple.tupleItemsOf (.ref t) >>= _) _ _ s;refine zR (tupleItemsOf_ ht ?_);refine zR (V7 hTs ?_);rw[zP (by decide)];refine zR (HJ hs pl pu ?_)
 have hyes:(((sIx items.size 0 lo:Nat):Int)==0&&(1:Int)==1&&(sIx items.size items.size hi-sIx items.size 0 lo)==items.size)=true:=by
  rw[hw.1,hw.2,JC];simp
 show wpAny _ _ (if(((sIx items.size 0 lo:Nat):Int)==0&&(1:Int)==1&&(sIx items.size items.size hi-sIx items.size 0 lo)==items.size)=true then _ else _) _ _ s;rw[zP hyes];have hT:s.TypeIs (.ref t) "tuple" := ht.typeIs;unfold Builtin.Tuple.tupleIsExact;exact zR (zR (V7 hT (yW (zR (V4 (yW ⟨_,rfl,yW h⟩))))))
end
noncomputable def f9(K:W.Frag):V->Option Int->Option Int->Hp->VK->Prop:=λx lo hi H Q=>∃a xs,x=.ref a/\xH K H a xs/\
 (HT.sIx xs.length 0 lo=0/\HT.sIx xs.length xs.length hi=xs.length)/\Q (.ref a) H
theorem l5{X:Cx}:pB X (f9 X.K):=by
 intro z8 s σ H x v vl vu lo hi sl Q I rx hs pl pu h;obtain⟨a,xs,rfl,hx,hw,q⟩:=h;cases rx;obtain⟨its,r,ht,hz⟩:=I.tuple hx;have hlen:its.toArray.size=xs.length:=by rw[yo]; exact r.length.symm
 refine⟨"tuple",_,Yz.lookup,ht.typeIs,?_⟩;exact RT ht hs pl pu (by rw[hlen]; exact hw) ⟨.ref a,H,I,rfl,q⟩
end L2
namespace L3
open PySem PySem.Spec PyProof PyProof.Rows L2
noncomputable def kG(d:D)(lo hi:Option Int):Option D:=match d with
 |.tup xs=>some (.tup (pE xs lo hi))
 |d=>pH d lo hi
noncomputable def pG(a:FE)(lo hi:FO):FE:=λσ=>(a σ).bind λd=>(lo σ).bind λl=>(hi σ).bind λh=>kG d l h
theorem PH{α:Type}{xs:List α}{lo hi:Option Int}(c:HT.sIx xs.length 0 lo=0/\HT.sIx xs.length xs.length hi=xs.length):pE xs lo hi=xs:=by
 unfold pE;rw[c.1,c.2,JC,J0,Za]
theorem Gw{X:Cx}{a:Expr}{fa:FE}{pos:Pos}{lo hi:Option Expr}{fl fh:FO}{p2:Pos}(ha:SE X a fa)(hl:SO X lo fl)(hh:SO X hi fh):SE X (.Subscript a (.Slice lo hi none p2) pos) (pG fa fl fh):=by
 obtain⟨ta,pa,ka⟩:=ha.h;obtain⟨tl,pl,kl⟩:=hl.h;obtain⟨th,ph,kh⟩:=hh.h;refine⟨⟨_,Ep (HI.or l5) pa pl ph,λ{G0 H0 G H τ σ d Q} E hf q=>?_⟩⟩;obtain⟨x,hx,hf⟩:=zQ hf;obtain⟨l,hl,hf⟩:=zQ hf;obtain⟨h,hh,hf⟩:=zQ hf;refine ka E hx λv G1 H1 x1 r1=>kl (E.go x1) hl λG2 H2 x2=>kh ((E.go x1).go x2) hh λG3 H3 x3=>?_
 have xx:=x1.trans (x2.trans x3);have r3:=r1.mono (x2.g.trans x3.g);cases x with
 |lst xs=>
  cases hf;obtain⟨a,vs,rfl,sq,rs,ll⟩:=r3;refine .inl (.inl ⟨a,vs,rfl,wZ x3.gh sq,λp hp=>q _ _ _ (xx.trans (zW.lay x3.gh hp)) ⟨p,_,rfl,yj.of yr,(rs.cut l h).mono (wn (x3.gh.free hp) _),xO (U7 ..) ll⟩⟩)
 |tup xs=>
  cases hf;obtain⟨a,vs,rfl,sq,rs,ll⟩:=r3;by_cases c:HT.sIx xs.length 0 l=0/\HT.sIx xs.length xs.length h=xs.length
  ·refine .inr ⟨a,vs,rfl,vh x3.gh sq,by rw[rs.length]; exact c,?_⟩;rw[PH c]at q;exact q _ _ _ xx ⟨a,vs,rfl,sq,rs,ll⟩
  ·refine .inl (.inr (.inl ⟨a,vs,rfl,vh x3.gh sq,by rw[rs.length]; exact c,λp hp=>?_⟩));exact q _ _ _ (xx.trans (zW.lay x3.gh hp)) ⟨p,_,rfl,xH.of yr,(rs.cut l h).mono (wn (x3.gh.free hp) _),xO (U7 ..) ll⟩
 |str z=>
  cases hf;obtain⟨rfl,ll⟩:=r3;exact .inl (.inr (.inr ⟨z,rfl,ll,q _ _ _ xx ⟨rfl,xO (cut_len ..) ll⟩⟩))
 |_=>cases hf
end L3
namespace L2
open PySem PySem.Spec PyProof PyProof.Rows
section
variable{X:Cx}{z8:List (Addr×Obj)}{σ:St}{H:Hp}{s:Shared}{a:Addr}{o:Obj}{kvs:List (zb×V)}
theorem Inv.swap{u u':HO}(I:Inv X z8 σ H s)(e:H a=some u)(no:∀x,u≠.own x)(nt:∀xs,u≠.tup xs)(nb:∀ps,X.H₀ a≠some (.tbl ps))(nf:∀ob v,X.H₀ a≠some (.yI ob v))(nq:∀xs,X.H₀ a≠some (.tup xs))(new:xD X.prog X.w (zc H a u') s.heap a u'):Inv X z8 σ (zc H a u') s:=by
 have ne:∀b,H b=none->b≠a:=λb hb z=>by subst z; rw[e]at hb; cases hb
 refine⟨I.ok,I.os,I.bare,⟨I.base.keep,I.base.slot,λb ob q n hx=>?_,I.base.there,λb xs q=>?_,λb ob v q=>?_,λb ps q=>?_⟩,I.loc,I.cell,?_,λx c q=>?_,λp hp=>?_,λb v q=>?_,I.len⟩
 ·have:=I.base.free b ob q n hx;rw[yE (ne b this)]; exact this
 ·have hb:b≠a:=λz=>by subst z; exact nq xs q
  rw[yE hb]; exact I.base.vm b xs q
 ·have hb:b≠a:=λz=>by subst z; exact nf ob v q
  rw[yE hb]; exact I.base.vc b ob v q
 ·have hb:b≠a:=λz=>by subst z; exact nb ps q
  rw[yE hb]; exact I.base.uS b ps q
 ·rw[yE (ne _ I.free)]; exact I.free
 ·rw[yE (ne _ (I.ut x c q))]; exact I.ut x c q
 ·obtain⟨h1,h2,h3⟩:=I.pin p hp;exact⟨h1,by rw[yE (ne _ h2)]; exact h2,h3⟩
 ·by_cases hb:b=a
  ·subst hb; rw[yr]at q; cases q; exact new
  ·rw[yE hb]at q;refine(I.zj b v q).jX (λc w _ z=>z) (λc z=>?_) λc xs z=>?_
   ·have hc:c≠a:=λy=>by subst y; rw[e]at z; cases z; exact no _ rfl
    rw[yE hc]; exact z
   ·have hc:c≠a:=λy=>by subst y; rw[e]at z; cases z; exact nt _ rfl
    rw[yE hc]; exact z
theorem Inv.Zj(I:Inv X z8 σ H s)(e:H a=some (.dK kvs)):(∀ps,X.H₀ a≠some (.tbl ps))/\(∀ob v,X.H₀ a≠some (.yI ob v))/\∀xs,X.H₀ a≠some (.tup xs):=by
 refine⟨λps z=>?_,λob v z=>?_,λxs z=>?_⟩
 ·obtain⟨_,q⟩:=I.base.uS a ps z; rw[e]at q; cases q
 ·have q:=I.base.vc a ob v z; rw[e]at q; cases q
 ·have q:=I.base.vm a xs z; rw[e]at q; cases q
theorem Inv.up(I:Inv X z8 σ H s)(e:H a=some (.dK kvs)):∃o,Inv X z8 σ (zc H a (.yI o (.dK kvs))) s:=by
 obtain⟨n1,n2,n3⟩:=I.Zj e;obtain⟨z,y,vs,r,ob,es,ep,g,c⟩:=(show xD X.prog X.w H s.heap a (.dK kvs)from I.zj a _ e);exact⟨ob,I.swap e (λ_ z=>nomatch z) (λ_ z=>nomatch z) n1 n2 n3 ⟨g,z,y,vs,r,ob,es,ep,g,c⟩⟩
theorem Inv.dn(I:Inv X z8 σ H s)(e:H a=some (.yI o (.dK kvs)))(n:(∀ps,X.H₀ a≠some (.tbl ps))/\(∀ob v,X.H₀ a≠some (.yI ob v))/\∀xs,X.H₀ a≠some (.tup xs)):Inv X z8 σ (zc H a (.dK kvs)) s:=by
 obtain⟨n1,n2,n3⟩:=n;obtain⟨_,z,y,vs,r,ob,es,ep,g,c⟩:=(show xD X.prog X.w H s.heap a (.yI o (.dK kvs))from I.zj a _ e);exact I.swap e (λ_ z=>nomatch z) (λ_ z=>nomatch z) n1 n2 n3 ⟨z,y,vs,r,ob,es,ep,g,c⟩
end
noncomputable def uT.dn(D:uT)(a:Addr)(o:Obj)(kvs:List (zb×V)):uT:=
 ⟨λσ H=>H a=some (.yI o (.dK kvs))/\D.nx σ (zc H a (.dK kvs)),λv H=>H a=some (.yI o (.dK kvs))/\D.rt v (zc H a (.dK kvs)),λσ H=>H a=some (.yI o (.dK kvs))/\D.bk σ (zc H a (.dK kvs)),λσ H=>H a=some (.yI o (.dK kvs))/\D.ct σ (zc H a (.dK kvs))⟩
noncomputable def fO(i:Nat)(t:TS):TS:=λD σ H=>∃a,σ[i]?=some (some (.ref a))/\((∃o kvs,H a=some (.yI o (.dK kvs))/\t D σ H)\/∃kvs,H a=some (.dK kvs)/\∀o,t (D.dn a o kvs) σ (zc H a (.yI o (.dK kvs))))
theorem df{X:Cx}{st:Stmt}{t:TS}{i:Nat}(h:PS X st t):PS X st (fO i t):=by
 intro z8 s σ H D I ht;obtain⟨a,ha,⟨_,_,_,ht⟩|⟨kvs,e,ht⟩⟩:=ht
 ·exact h z8 s σ H D I ht
 ·obtain⟨o,I1⟩:=I.up e;refine zw (h z8 s σ _ _ I1 (ht o)) λf s' hf=>?_
  cases f with
  |next=>obtain⟨σ',H',I',e',q⟩:=hf; exact⟨σ',_,I'.dn e' (I.Zj e),q⟩
  |brk=>obtain⟨σ',H',I',e',q⟩:=hf; exact⟨σ',_,I'.dn e' (I.Zj e),q⟩
  |cont=>obtain⟨σ',H',I',e',q⟩:=hf; exact⟨σ',_,I'.dn e' (I.Zj e),q⟩
  |ret u=>obtain⟨v,σ',H',I',r,e',q⟩:=hf; exact⟨v,σ',_,I'.dn e' (I.Zj e),r,q⟩
noncomputable def lf(i:Nat)(t:TE):TE:=λσ H Q=>∃a,σ[i]?=some (some (.ref a))/\((∃o kvs,H a=some (.yI o (.dK kvs))/\t σ H Q)\/∃kvs,H a=some (.dK kvs)/\∀o,t σ (zc H a (.yI o (.dK kvs))) λv H'=>H' a=some (.yI o (.dK kvs))/\Q v (zc H' a (.dK kvs)))
theorem cn{X:Cx}{e:Expr}{t:TE}{i:Nat}(h:PE X e t):PE X e (lf i t):=by
 intro z8 s σ H Q I ht;obtain⟨a,ha,⟨_,_,_,ht⟩|⟨kvs,e,ht⟩⟩:=ht
 ·exact h z8 s σ H Q I ht
 ·obtain⟨o,I1⟩:=I.up e;exact zw (h z8 s σ _ _ I1 (ht o)) λu s' ⟨v,H',I',r,e',q⟩=>⟨v,_,I'.dn e' (I.Zj e),r,q⟩
theorem Y6{P:Program}{w:World}{H:Hp}{h:Heap}{a:Addr}{o:Obj}{kvs:List (zb×V)}{es:Array DictEntry}{ep:Nat}(ok:xQ P w H h)(e:H a=some (.yI o (.dK kvs)))(d:o.data=.dict es ep):(a==sysModules)=false/\∃vs,KV kvs vs/\h.DictAt (xr P w) a vs ep:=by
 obtain⟨g,z,y,vs,r,ob,es',ep',g',c⟩:=(show xD P w H h a (.yI o (.dK kvs))from ok a _ e);rw[g]at g';cases g';refine⟨y,vs,r,o,es',g,c.1,?_,c.2.2⟩;have e1:=c.2.1;rw[d]at e1;cases e1;exact d
theorem O_:∀{kvs:List (zb×V)} {vs:List (zb×Value)} {i:Nat} {k:zb} {x:Value},KV kvs vs->vs[i]?=some (k,x)->∃u,kvs[i]?=some (k,u)/\yB u x
 |_,_,_,_,_,.nil,e=>by cases e
 |_,_,0,_,_,.cons r t,e=>by
  cases e;obtain⟨r1,r2⟩:=r;exact⟨_,congrArg some (Prod.ext r1 rfl),r2⟩
 |_,_,i+1,_,_,.cons _ t,e=>O_ (i:=i) t (by simpa using e)
end L2
namespace L3
open PySem PySem.Spec PyProof PyProof.Rows L2
structure Tw(a:Addr)(kvs:List (zb×V))(G G':Hp):Prop where
 ne:∀b,b≠a->G' b=G b
 l:Rd G a (.dK kvs)
 r:Rd G' a (.dK kvs)
section
variable{K:W.Frag}{a:Addr}{o:Obj}{kvs:List (zb×V)}{G G' H H' G0 H0:Hp}
theorem Rd.tw{b:Addr}{u:HO}(t:Tw a kvs G G')(hu:∀ob v,u≠.yI ob v)(h:Rd G b u):Rd G' b u:=by
 by_cases hb:b=a
 ·subst hb
  have e:u=.dK kvs:=by
   rcases h with h|⟨ob,h⟩<;>rcases t.l with l|⟨oc,l⟩<;>rw[l]at h
   ·cases h; rfl
   ·cases h; exact absurd rfl (hu oc _)
   ·cases h
   ·cases h; rfl
  rw[e];exact t.r
 ·rcases h with h|⟨ob,h⟩
  ·exact .inl (by rw[t.ne b hb]; exact h)
  ·exact .inr ⟨ob,by rw[t.ne b hb]; exact h⟩
theorem Tw.at{b:Addr}{u:HO}(t:Tw a kvs G G')(h:G b=some u)(h1:u≠.dK kvs)(h2:∀o,u≠.yI o (.dK kvs)):G' b=some u:=by
 by_cases hb:b=a
 ·subst hb;rcases t.l with l|⟨oc,l⟩<;>rw[l]at h
  ·cases h; exact absurd rfl h1
  ·cases h; exact absurd rfl (h2 oc)
 ·rw[t.ne b hb]; exact h
theorem zf.tw(t:Tw a kvs G G'):∀{d:D}{v:V},zf K G d v->zf K G' d v:=λ{d}=>by
 refine D.ind (P:=λd=>∀v,zf K G d v->zf K G' d v) (λv h=>h) (λb v h=>h) (λi v h=>h) (λx v h=>h) ?_ ?_ ?_ ?_ ?_ d _
 ·rintro xs ih v ⟨b,vs,e,q,r,l⟩;refine⟨b,vs,e,?_,Reps.imp ih r,l⟩;rcases q with q|q
  ·exact .inl (Rd.tw t (λ_ _ z=>nomatch z) q)
  ·exact .inr q
 ·rintro xs ih v ⟨b,vs,e,q,r,l⟩;refine⟨b,vs,e,?_,Reps.imp ih r,l⟩;rcases q with q|q
  ·exact .inl (Rd.tw t (λ_ _ z=>nomatch z) q)
  ·exact .inr q
 ·rintro ks xs ih v ⟨b,vs,e,q,z,r,l⟩;exact⟨b,vs,e,Rd.tw t (λ_ _ z=>nomatch z) q,z,Reps.imp ih r,l⟩
 ·rintro x v ⟨b,C,e,n,h⟩;exact⟨b,C,e,n,t.at h (λz=>nomatch z) (λ_ z=>nomatch z)⟩
 ·rintro x fs xs ih v ⟨b,C,dx,vs,e,n,h,l,r⟩;exact⟨b,C,dx,vs,e,n,t.at h (λz=>nomatch z) (λ_ z=>nomatch z),l,Reps.imp ih r⟩
theorem Reps.tw(t:Tw a kvs G G'){ds:List D}{vs:List V}(h:Reps K G ds vs):Reps K G' ds vs:=Reps.imp (λ_ _ _=>zf.tw t) h
theorem vA.tw{d:D}{p:Addr}(t:Tw a kvs G G')(hp:H' p=H p)(ow:vA K G H d p):vA K G' H' d p:=by
 cases d with
 |lst ds=>obtain⟨vs,e,r,l⟩:=ow; exact⟨vs,by rw[hp]; exact e,r.tw t,l⟩
 |dic ks ds=>obtain⟨vs,e,z,r,l⟩:=ow; exact⟨vs,by rw[hp]; exact e,z,r.tw t,l⟩
 |_=>exact ow.elim
theorem BI(e:G a=some (.dK kvs)):Tw a kvs G (zc G a (.yI o (.dK kvs))):=⟨λb hb=>yE hb,.inl e,.inr ⟨o,yr⟩⟩
theorem QR(e:G a=some (.yI o (.dK kvs))):Tw a kvs G (zc G a (.dK kvs)):=⟨λb hb=>yE hb,.inr ⟨o,e⟩,.inl yr⟩
noncomputable def ga(a:Addr)(f:HO)(H0:Hp):Hp:=λb=>if b=a then(H0 a).bind λ_=>some f else H0 b
theorem Hz{f:HO}{b:Addr}(h:b≠a):ga a f H0 b=H0 b:=zV h
theorem QU{f:HO}{b:Addr}:ga a f H0 b=none↔H0 b=none:=by
 unfold ga;by_cases h:b=a
 ·subst h;rw[zP rfl];cases H0 b with
  |none=>exact⟨λ_=>rfl,λ_=>rfl⟩
  |some u=>exact⟨λz=>(nomatch z),λz=>(nomatch z)⟩
 ·rw[zV h]
theorem oz{f u:HO}(h:ga a f H0 a=some u):u=f:=by
 unfold ga at h;rw[zP rfl]at h;cases e:H0 a with
 |none=>rw[e]at h; cases h
 |some w=>rw[e]at h; cases h; rfl
theorem yA.up{n:Nat}{τ:yT}{σ:St}(E:yA K n G0 H0 G H τ σ)(e:G a=some (.dK kvs)):yA K n (zc G a (.yI o (.dK kvs))) (ga a (.yI o (.dK kvs)) H0) (zc G a (.yI o (.dK kvs))) (zc H a (.yI o (.dK kvs))) τ σ:=by
 have t:=BI (o:=o) e;refine⟨⟨yc.refl _,λb u h=>?_,Q2 E.ext.gh,λ_ h=>.inl h⟩,E.l1,E.l2,λi d h=>?_,λi d h=>?_,E.ap⟩
 ·by_cases hb:b=a
  ·subst hb;rw[yr,oz h]
  ·rw[Hz hb]at h;rw[yE hb];exact E.ext.h _ _ h
 ·obtain⟨v,e',r⟩:=E.fr i d h;exact⟨v,e',r.tw t⟩
 ·obtain⟨p,e',g,z,ow⟩:=E.ow i d h;have hp:p≠a:=λz=>by subst z; rw[e]at g; cases g
  exact⟨p,e',by rw[yE hp]; exact g,QU.mpr z,ow.tw t (yE hp)⟩
theorem zW.gk(x0:zW G0 H0 G H)(e:G a=some (.dK kvs))(x:zW (zc G a (.yI o (.dK kvs))) (ga a (.yI o (.dK kvs)) H0) G' H'):G' a=some (.yI o (.dK kvs))/\H' a=some (.yI o (.dK kvs))/\zW G0 H0 (zc G' a (.dK kvs)) (zc H' a (.dK kvs)):=by
 have g':G' a=some (.yI o (.dK kvs)):=x.g _ _ yr;refine⟨g',x.gh _ _ g',x0.rebase ⟨λb u h=>?_,λb u h=>?_,Q2 x.gh,λp h=>?_⟩⟩
 ·by_cases hb:b=a
  ·subst hb;rw[e]at h;cases h;exact yr
  ·rw[yE hb];exact x.g _ _ (by rw[yE hb]; exact h)
 ·by_cases hb:b=a
  ·subst hb;have:=x0.h _ _ h;rw[x0.gh _ _ e]at this;cases this;exact yr
  ·rw[yE hb];exact x.h _ _ (by rw[Hz hb]; exact h)
 ·by_cases hb:p=a
  ·subst hb;exact .inl (by rw[e]; exact λz=>nomatch z)
  ·rw[yE hb]at h;rcases x.new p h with z|z
   ·rw[yE hb]at z;exact .inl z
   ·exact .inr (QU.mp z)
theorem yA.gk{n:Nat}{τ τ':yT}{σ σ':St}(E:yA K n G0 H0 G H τ σ)(e:G a=some (.dK kvs))(E':yA K n (zc G a (.yI o (.dK kvs))) (ga a (.yI o (.dK kvs)) H0) G' H' τ' σ'):H' a=some (.yI o (.dK kvs))/\yA K n G0 H0 (zc G' a (.dK kvs)) (zc H' a (.dK kvs)) τ' σ':=by
 obtain⟨g',h',x⟩:=E.ext.gk e E'.ext;have t:=QR g';refine⟨h',x,E'.l1,E'.l2,λi d h=>?_,λi d h=>?_,E'.ap⟩
 ·obtain⟨v,e',r⟩:=E'.fr i d h;exact⟨v,e',r.tw t⟩
 ·obtain⟨p,e',g,z,ow⟩:=E'.ow i d h;have hp:p≠a:=λz=>by subst z; rw[g']at g; cases g
  exact⟨p,e',by rw[yE hp]; exact g,QU.mp z,ow.tw t (yE hp)⟩
end
noncomputable def Kn(K:W.Frag)(i:Nat)(τ:yT)(σ:St)(G:Hp):Prop:=∃a o ks ds vs,τ[i]?=some (some (false,.dic ks ds))/\σ[i]?=some (some (.ref a))/\G a=some (.yI o (.dK (ks.zip vs)))/\ks.length=vs.length/\Reps K G ds vs/\ds.length<=sizeLine
structure DP(X:Cx)(i:Nat)(st:Stmt)(f:FS):Prop where
 h:∃t,PS X st t/\∀{G0 H0 G H:Hp}{τ:yT}{σ:St}{fl:Fl}{E:uT},yA X.K X.N.length G0 H0 G H τ σ->Kn X.K i τ σ G->f τ=some fl->vR X.K X.N.length G0 H0 E fl->t E σ H
structure DO(X:Cx)(i:Nat)(e:Expr)(f:FE):Prop where
 h:∃t,PE X e t/\∀{G0 H0 G H:Hp}{τ:yT}{σ:St}{d:D}{Q:VK},yA X.K X.N.length G0 H0 G H τ σ->Kn X.K i τ σ G->f τ=some d->(∀p G' H',zW G H G' H'->H p=none->G' p=none->vA X.K G' H' d p->Q (.ref p) H')->t σ H Q
structure Vl(X:Cx)(i:Nat)(tg iter:Expr)(f:FA):Prop where
 h:∃wi,PI X tg iter wi/\∀{G0 H0 G H:Hp}{τ:yT}{σ:St}{ds:List D}{R:It->Hp->Prop},yA X.K X.N.length G0 H0 G H τ σ->Kn X.K i τ σ G->f τ=some ds->(∀J G' H',zW G H G' H'->ds.length<=sizeLine->tR X.K J G' ds->R J H')->wi σ H R
noncomputable def je{α:Type}(i:Nat)(f:yT->Option α):Prop:=∀τ x,f τ=some x->∃ks ds,τ[i]?=some (some (false,.dic ks ds))
theorem lG{X:Cx}{i:Nat}{st:Stmt}{f:FS}(h:DP X i st f)(hk:je i f):SS X st f:=by
 obtain⟨t,pt,k⟩:=h.h;refine⟨⟨_,df (i:=i) pt,λ{G0 H0 G H τ σ fl E} K hf q=>?_⟩⟩;obtain⟨ks,ds,ht⟩:=hk _ _ hf;obtain⟨v,hv,a,vs,rfl,rd,hl,rs,ll⟩:=K.fr i _ ht;refine⟨a,hv,?_⟩;rcases rd with e|⟨o,e⟩
 ·refine .inr ⟨_,K.ext.gh _ _ e,λo=>?_⟩;have K1:=K.up (o:=o) e;refine k K1 ⟨a,o,ks,ds,vs,ht,hv,yr,hl,rs.tw (BI e),ll⟩ hf ?_;cases fl with
  |nx τ'=>exact λσ' G' H' z=>let ⟨h1,h2⟩:=K.gk e z; ⟨h1,q σ' _ _ h2⟩
  |bk τ'=>exact λσ' G' H' z=>let ⟨h1,h2⟩:=K.gk e z; ⟨h1,q σ' _ _ h2⟩
  |ct τ'=>exact λσ' G' H' z=>let ⟨h1,h2⟩:=K.gk e z; ⟨h1,q σ' _ _ h2⟩
  |rt ow d=>
   cases ow with
   |false=>
    intro v G' H' x r;obtain⟨g',h',x'⟩:=K.ext.gk e x;exact⟨h',q v _ _ x' (r.tw (QR g'))⟩
   |true=>
    intro p G' H' x hp gp ow;obtain⟨g',h',x'⟩:=K.ext.gk e x;have ne:p≠a:=λz=>by subst z; rw[g']at gp; cases gp
    exact⟨h',q p _ _ x' (QU.mp hp) (by rw[yE ne]; exact gp) (ow.tw (QR g') (yE ne))⟩
 ·exact .inl ⟨o,_,K.ext.gh _ _ e,k K ⟨a,o,ks,ds,vs,ht,hv,e,hl,rs,ll⟩ hf q⟩
theorem iA{X:Cx}{i:Nat}{e:Expr}{f:FE}(h:DO X i e f)(hk:je i f):SF X e f:=by
 obtain⟨t,pt,k⟩:=h.h;refine⟨⟨_,cn (i:=i) pt,λ{G0 H0 G H τ σ d Q} K hf q=>?_⟩⟩;obtain⟨ks,ds,ht⟩:=hk _ _ hf;obtain⟨v,hv,a,vs,rfl,rd,hl,rs,ll⟩:=K.fr i _ ht;refine⟨a,hv,?_⟩;rcases rd with e|⟨o,e⟩
 ·refine .inr ⟨_,K.ext.gh _ _ e,λo=>?_⟩;have K1:=K.up (o:=o) e;refine k K1 ⟨a,o,ks,ds,vs,ht,hv,yr,hl,rs.tw (BI e),ll⟩ hf λp G' H' x hp gp ow=>?_
  have hH:H a=some _:=K.ext.gh _ _ e;have g':G' a=some (.yI o (.dK (ks.zip vs))):=x.g _ _ yr
  have hpH:H p=none:=by
   by_cases z:p=a
   ·subst z; rw[g']at gp; cases gp
   ·rw[yE z]at hp; exact hp
  have ne:p≠a:=λz=>by subst z; rw[g']at gp; cases gp
  refine⟨x.gh _ _ g',q p (zc G' a (.dK (ks.zip vs))) (zc H' a (.dK (ks.zip vs))) ⟨λb u hb=>?_,λb u hb=>?_,Q2 x.gh,λb hb=>?_⟩ hpH (by rw[yE ne]; exact gp) (ow.tw (QR g') (yE ne))⟩
  ·by_cases z:b=a
   ·subst z; rw[e]at hb; cases hb; exact yr
   ·rw[yE z]; exact x.g _ _ (by rw[yE z]; exact hb)
  ·by_cases z:b=a
   ·subst z; rw[hH]at hb; cases hb; exact yr
   ·rw[yE z]; exact x.h _ _ (by rw[yE z]; exact hb)
  ·by_cases z:b=a
   ·subst z; exact .inl (by rw[e]; exact λz=>nomatch z)
   ·rw[yE z]at hb;rcases x.new b hb with w|w
    ·rw[yE z]at w; exact .inl w
    ·rw[yE z]at w; exact .inr w
 ·exact .inl ⟨o,_,K.ext.gh _ _ e,k K ⟨a,o,ks,ds,vs,ht,hv,e,hl,rs,ll⟩ hf q⟩
theorem lE{X:Cx}{i:Nat}{tg iter:Expr}{body:List Stmt}{fs:FA}{g:FS}{pos:Pos}{fg:FG}(hp:PassesOwn (model X.prog X.w) X.A X.env X.xe)(hc:X.calm=true)(hi:Vl X i tg iter fs)(hg:SG X tg fg)(hb:uA X body g)(hs:∀x,foldedSetIterable iter X.env x=pure x:=by intro _; rfl):DP X i (.For tg iter body [] pos) (wm fs fg g):=by
 obtain⟨ti,pi,ki⟩:=hi.h;obtain⟨tg',pg,kg⟩:=hg.h;obtain⟨tb,pb,kb⟩:=hb.h;refine⟨⟨_,Ey hp hc pi pg pb hs,λ{G0 H0 G H τ σ fl E} K kn hf q=>?_⟩⟩;obtain⟨ds,hd,hf⟩:=zQ hf;refine ki K kn hd λJ Ga Ha xa _ wk=>?_
 have Ka:=K.go xa;have q':=vR.near Ka.ext q;refine⟨λi m σ H=>m=ds.length-i/\i<=ds.length/\∃τ G,yA X.K X.N.length Ga H0 G H τ σ/\ub fg g (ds.drop i) τ=some fl,⟨ds.length,rfl,qo _,τ,Ga,Ka.z6,hf⟩,?_⟩;rintro i m σ H ⟨rfl,hle,τ,G,K,hf⟩;by_cases hlt:i<ds.length
 ·refine .inr ⟨wk.go i G H K.ext.g K.ext.gh hlt,λσ' H'=>∃τ G,yA X.K X.N.length Ga H0 G H' τ σ'/\ub fg g (ds.drop (i+1)) τ=some fl,λσ' H' z=>⟨ds.length-(i+1),by omega,rfl,hlt,z⟩,λx H' y=>?_⟩;obtain⟨G3,d,x3,ed,rd⟩:=wk.vQ i G H x H' K.ext.g K.ext.gh hlt y;rw[Bj hlt]at hf;rw[yf hlt]at ed;cases ed;obtain⟨τ1,h1,hf⟩:=zQ (show(fg _ τ).bind _=_ from hf);obtain⟨f1,h2,hf⟩:=zQ hf;refine kg (K.go x3) rd h1 λσ1 K1=>kb K1 h2 ?_
  cases f1 with
  |nx τ2=>exact λσ2 G2 H2 K2=>⟨τ2,G2,K2,hf⟩
  |ct τ2=>exact λσ2 G2 H2 K2=>⟨τ2,G2,K2,hf⟩
  |bk τ2=>cases hf; exact q'
  |rt o d=>cases hf; exact vR.with q' (λ_ z=>nomatch z) (λ_ z=>nomatch z) (λ_ z=>nomatch z) rfl
 ·have e:ds.drop i=[]:=Bk (by omega);rw[e]at hf;cases hf;exact .inl ⟨wk.stop i G H K.ext.g K.ext.gh (by omega),q' _ _ _ K⟩
theorem R3{i:Nat}{fs:FA}{fg:FG}{g:FS}(h:je i fs):je i (wm fs fg g):=λτ x hf=>by
 obtain⟨ds,hd,_⟩:=zQ hf;exact h τ ds hd
end L3
namespace L2
open PySem PySem.Spec PyProof PyProof.Rows
noncomputable def Ik(a:Addr)(o:Obj)(kvs:List (zb×V)):It:=⟨λi H=>H a=some (.yI o (.dK kvs))/\i<kvs.length,λi H v H'=>H'=H/\∃k,kvs[i]?=some (k,v),λi H=>H a=some (.yI o (.dK kvs))/\kvs.length<=i⟩
theorem nU{P:Program}{w:World}{K:W.Frag}{tg:Expr}{kvs:List (zb×V)}{o:Obj}{es:Array DictEntry}{ep:Nat}(a it:Addr)(d:o.data=.dict es ep) :
  qI P w K tg (Ik a o kvs) [it] it (λi h=>h.IsValIter it a i kvs.length ep) where
 mem:=by simp
 obj:=λi h st b hb=>by
  have e:b=it:=by simpa using hb
  subst e;obtain⟨o,e,c,d⟩:=st;exact⟨o,e,λv z=>by rw[d]at z; cases z⟩
 keep:=λi h h' st k=>st.at λo e=>k it (by simp) o e
 item:=by
  intro X hP hw hK hc i z8 s σ H E I hf st hg;subst hP hw hK;obtain⟨_,vs,rel,dd⟩:=Y6 I.zj hg.1 d;have ln:vs.length=kvs.length:=qT rel;have hi:i<vs.length:=by rw[ln]; exact hg.2
  have hx:vs[i]?=some (vs[i].1,vs[i].2):=yf hi;obtain⟨u,hk,ru⟩:=O_ rel hx;obtain⟨f0,f1,f2,f3,f4,f5⟩:=hf it (by simp);rw[<-ln]at st;refine wpAny_pyNext_values_item st dd hx λh' st' sb=>?_
  rw[ln]at st';have I1:Inv X z8 σ H { s with heap:=h' }:=I.turned (t':=s.toks) (λb o hb e=>(sb.2 b hb).trans e) f0 f1 f3 f4 f5;obtain⟨o,e,c,d⟩:=id st';exact⟨vs[i].2,rfl,YC (s:={ s with heap:=h' }) e c d (by decide) ⟨u,H,I1,ru,⟨rfl,_,hk⟩,st',λb hb=>(hf b hb).1⟩⟩
 done:=by
  intro X hP hw hK hc i z8 s σ H E I hf st hg;subst hP hw hK;obtain⟨_,vs,rel,dd⟩:=Y6 I.zj hg.1 d;have ln:vs.length=kvs.length:=qT rel;have hx:vs[i]?=none:=pp (by rw[ln]; exact hg.2);obtain⟨f0,f1,f2,f3,f4,f5⟩:=hf it (by simp);rw[<-ln]at st;exact wpAny_pyNext_values_end (I.ok.hd hc) st dd hx λh' eb=>⟨rfl,I.turned (t':=s.toks) (λb o hb e=>eb b o hb e) f0 f1 f3 f4 f5⟩
 self:=λ_ _ _ _ _ st h=>wpAny_pyIter_valiter st h
noncomputable def S6(i:Nat):TI:=λσ H R=>∃a o kvs,σ[i]?=some (some (.ref a))/\H a=some (.yI o (.dK kvs))/\R (Ik a o kvs) H
theorem d7{X:Cx}{tg:Expr}{x:Str}{p apos cpos:Pos}{i:Nat}(hN:X.N[i]?=some x)(hv:tQ X.env.scope x)(hd:(x==("__debug__" : Str))=false:=by decide)(hcd:(x==("__classdict__" : Str))=false:=by decide)
  (hbase:attributeBase (.Name x p) "values" X.env (eval (.Name x p) X.env)=eval (.Name x p) X.env:=by rfl)(hline:(apos.endLine==cpos.line)=true:=by rfl) :
  PI X tg (.Call (.Attribute (.Name x p) "values" apos) [] [] cpos) (S6 i):=by
 intro z8 s σ H R I hR;obtain⟨a,o,kvs,ha,e,hR⟩:=hR;refine D4 hbase hline (zw (Z6 (pos:=p) hN hv hd hcd z8 s σ H (λv H1=>v=.ref a/\H1=H) I ⟨_,ha,rfl,rfl⟩) λv s1 ⟨y,H1,I1,r1,e1,e2⟩=>?_);subst e1 e2;cases(show v=Value.ref a from r1);obtain⟨g,_,_,_,_,o',es,ep,g',_,hdat,_⟩:=(show xD X.prog X.w H1 s1.heap a (.yI o (.dK kvs))from I1.zj a _ e);rw[g]at g';cases g';obtain⟨lo,vs,rel,dd⟩:=Y6 I1.zj e hdat;have ln:vs.length=kvs.length:=qT rel;have dO:s1.heap.DictOf (xr X.prog X.w) a vs:=dd.dictOf
 have t2:∀b,Value.ref a=.ref b->∃ob,s1.heap.get? b=some ob/\ob.dict=none:=λb q=>by
  cases q;obtain⟨ob,_,_,h1,h2,_⟩:=dO;exact⟨ob,h1,h2.2.1⟩
 refine⟨"dict",_,PySem.F.plainAttrs_dict,PySem.F.slot_dict_values,PySem.F.type_dict_values,dO.typeIs,t2,Qv rfl (PySem.evalArgs_none ?_)⟩;refine call_meetsIn PySem.F.slot_dict_values dO.typeIs PySem.F.entry_dict_values (PySem.F.args_dict_values_1 _) (meets_dict_values (xr X.prog X.w) a lo) ⟨⟨vs,dO⟩,?_⟩;have I2:Inv X z8 σ H1 { s1 with heap:=s1.heap.push { cls:=.type "dict_values",data:=.fields #[.ref a] } }:=I1.kept (t':=s1.toks) λb o e=>yx _ e
 refine wpAny_pyIter_values (knd:=xr X.prog X.w) (s:={ s1 with heap:=s1.heap.push { cls:=.type "dict_values",data:=.fields #[.ref a] } }) ⟨_,wG _ rfl,rfl,rfl⟩ (dd.push _) ?_;rw[ln];refine⟨_,[_],_,_,H1,rfl,I2.kept (t':=s1.toks) λb o e=>yx _ e,nU a _ hdat,⟨_,wG _ rfl,rfl,rfl⟩,λb hb=>?_,hR⟩;have e:=wO.mp hb;subst e;exact I2.p_ (y0 _) (I2.zj.fresh (y0 _))
end L2
namespace L3
open PySem PySem.Spec PyProof PyProof.Rows L2
noncomputable def YG(i:Nat):FA:=λτ=>match τ[i]? with
 |some (some (false,.dic _ ds))=>some ds
 |_=>none
theorem R6(i:Nat):je i (YG i):=λτ x hf=>by
 unfold YG at hf
 split at hf
 ·rename_i ks ds e;exact⟨ks,ds,e⟩
 ·cases hf
theorem KN{ks:List zb}{vs:List V}{i:Nat}{k:zb}{v:V}(h:(ks.zip vs)[i]?=some (k,v)):ks[i]?=some k/\vs[i]?=some v:=by
 rw[List.getElem?_zip_eq_some]at h;exact h
theorem RC{K:W.Frag}{G:Hp}{a:Addr}{o:Obj}{ks:List zb}{ds:List D}{vs:List V}(hl:ks.length=vs.length)(e:G a=some (.yI o (.dK (ks.zip vs))))(rs:Reps K G ds vs):tR K (Ik a o (ks.zip vs)) G ds where
 go:=λi G2 H g1 g2 hi=>⟨g2 _ _ (g1 _ _ e),by rw[jU,hl,qm,rs.length]; exact hi⟩
 vQ:=λi G2 H x H' g1 g2 hi y=>by
  obtain⟨rfl,k,hk⟩:=y;obtain⟨d,ed,rd⟩:=rs.at (KN hk).2;exact⟨G2,d,zW.refl g2,ed,rd.mono g1⟩
 stop:=λi G2 H g1 g2 hi=>⟨g2 _ _ (g1 _ _ e),by rw[jU,hl,qm,rs.length]; exact hi⟩
theorem iH{X:Cx}{tg:Expr}{x:Str}{p apos cpos:Pos}{i:Nat}(hN:X.N[i]?=some x)(hv:tQ X.env.scope x)(hd:(x==("__debug__" : Str))=false:=by decide)(hcd:(x==("__classdict__" : Str))=false:=by decide)
  (hbase:attributeBase (.Name x p) "values" X.env (eval (.Name x p) X.env)=eval (.Name x p) X.env:=by rfl)(hline:(apos.endLine==cpos.line)=true:=by rfl):Vl X i tg (.Call (.Attribute (.Name x p) "values" apos) [] [] cpos) (YG i):=by
 refine⟨⟨_,d7 hN hv hd hcd hbase hline,λ{G0 H0 G H τ σ ds R} K kn hf q=>?_⟩⟩;obtain⟨a,o,ks,ds',vs,ht,hs,e,hl,rs,ll⟩:=kn;unfold YG at hf;rw[ht]at hf;cases hf;exact⟨a,o,_,hs,K.ext.gh _ _ e,q _ _ _ (zW.refl K.ext.gh) ll (RC hl e rs)⟩
theorem R5{i n:Nat}{fs:FA}{fg:FG}{ft:FT}{f:FE}(h:je i fs):je i (wx n fs fg ft f):=λτ x hf=>by
 obtain⟨ds,hd,_⟩:=zQ hf;exact h τ ds hd
section
variable{X:Cx}{i:Nat}{tg iter elt:Expr}{ifs:List Expr}{scope:Scope}{cl:List (Str×Addr)}{own:List Str}{pos:Pos}{fs:FA}{fg:FG}{ft:FT}{f:FE}{g:TG}
theorem i9(hcalm:X.calm=true)(B:jc X scope cl own)(hi:Vl X i tg iter fs)(hg:BG X scope cl own tg g fg)(hc:∀C s H fp pn,gz (xo X scope cl own C s H fp pn) ifs ft)
  (he:∀C s H fp pn,SE (xo X scope cl own C s H fp pn) elt f)(hs:∀x,foldedSetIterable iter X.env x=pure x:=by intro _; rfl) :
  DO X i (.ListComp elt [⟨tg,iter,ifs,0⟩] scope pos) (wx own.length fs fg ft f):=by
 obtain⟨ti,pi,ki⟩:=hi.h;refine⟨⟨_,En hcalm B pi (λC s H fp pn=>(hg.q C s H fp pn).h) (λC s H fp pn=>U2 (hc C s H fp pn)) (λC s H fp pn=>U1 (he C s H fp pn)) hs,λ{G0 H0 G H τ σ d Q} K kn hf q=>?_⟩⟩;obtain⟨ds,hd,hf⟩:=zQ hf;obtain⟨out,ho,hf⟩:=zQ hf;cases hf;refine ki K kn hd λJ Ga Ha xa l wk=>Tc wk l (K.go xa) ho (hg.k K.l2 K.l1) λys G1 H1 x1 r1 l1 p hp=>?_
 exact q p _ _ (xa.trans (x1.trans (zW.qB x1.gh hp))) (xa.h.free (x1.h.free hp)) (x1.gh.free hp) ⟨ys,yr,r1,l1⟩
end
end L3
namespace L2
open PySem PySem.Spec PyProof PyProof.Rows
noncomputable def Ih(a:Addr)(o:Obj)(kvs:List (zb×V)):It:=⟨λi H=>H a=some (.yI o (.dK kvs))/\i<kvs.length,λi H v H'=>∃p k u,H p=none/\v=.ref p/\kvs[i]?=some (k,u)/\H'=zc H p (.tup [kV k,u]),λi H=>H a=some (.yI o (.dK kvs))/\kvs.length<=i⟩
theorem nT{P:Program}{w:World}{K:W.Frag}{elts:List Expr}{kk:Nat}{pos:Pos}{kvs:List (zb×V)}{o:Obj}{es:Array DictEntry}{ep:Nat}(a it:Addr)(d:o.data=.dict es ep) :
  qI P w K (.Tuple elts kk pos) (Ih a o kvs) [it] it (λi h=>∃ok ov,IsItemIter h it a i kvs.length ep ok ov) where
 mem:=by simp
 obj:=λi h st b hb=>by
  have e:b=it:=by simpa using hb
  subst e;obtain⟨ok,ov,s1⟩:=st;exact⟨_,s1,λv q=>nomatch q⟩
 keep:=λi h h' st k=>by
  obtain⟨ok,ov,s1⟩:=st;exact⟨ok,ov,k it (by simp) _ s1⟩
 item:=by
  intro X hP hw hK hc i z8 s σ H E I hf st hg;subst hP hw hK;obtain⟨ok,ov,s1⟩:=st;obtain⟨_,vs,rel,dd⟩:=Y6 I.zj hg.1 d;have ln:vs.length=kvs.length:=qT rel;have hi:i<vs.length:=by rw[ln]; exact hg.2
  have hx:vs[i]?=some (vs[i].1,vs[i].2):=yf hi;obtain⟨u,hk,ru⟩:=O_ rel hx;have lt1:it<s.heap.objs.size:=yh s1;rw[<-ln]at s1;refine wpAny_pyNext_items_item s1 dd hx λkey h1 hkey ho ht hz hk1=>?_
  refine⟨_,rfl,wpAny_letOwnedTupleGo_items (s:={ s with heap:=h1 }) ho λh2 he2 hs2=>?_⟩
  replace hs2:Heap.SameBut it h1 h2:=hs2
  have hTs:s.heap.get? s.heap.objs.size=none:=by
   cases q:s.heap.get? s.heap.objs.size with
   |none=>rfl
   |some o=>exact absurd (yh q) (v6 _)
  have hTf:H s.heap.objs.size=none:=I.zj.fresh (y0 _);have tup:h2.get? s.heap.objs.size=some { cls:=.type "tuple",data:=.seq #[key,vs[i].2] }:=hs2.extBut _ _ (Yy lt1) ht
  have kk:∀c o,c ∉ [it]->s.heap.get? c=some o->h2.get? c=some o:=λc o hc z=>by
   have hc':c≠it:=λq=>hc (by rw[q]; exact wO.mpr rfl)
   exact hs2.extBut _ _ hc' (hk1 c o hc' z)
  have new:xD X.prog X.w (zc H s.heap.objs.size (.tup [kV vs[i].1,u])) h2 s.heap.objs.size (.tup [kV vs[i].1,u]):=⟨(by show 2<=sizeLine; decide),[key,vs[i].2],.cons (C3 hkey) (.cons ru .nil),⟨_,tup,rfl,_,rfl⟩⟩;rw[ln]at he2;refine⟨.ref s.heap.objs.size,zc H s.heap.objs.size (.tup [kV vs[i].1,u]),I.JN (tk:=s.toks) hf kk hTs hTf new,rfl,⟨s.heap.objs.size,_,u,hTf,rfl,hk,rfl⟩,⟨key,_,he2⟩,λc hc=>?_⟩;rw[yE]
  ·exact(hf c hc).1
  ·intro q;have e:c=it:=by simpa using hc
   rw[e]at q;rw[q]at lt1;exact absurd lt1 (v6 _)
 done:=by
  intro X hP hw hK hc i z8 s σ H E I hf st hg;subst hP hw hK;obtain⟨ok,ov,s1⟩:=st;obtain⟨_,vs,rel,dd⟩:=Y6 I.zj hg.1 d;have ln:vs.length=kvs.length:=qT rel;have hx:vs[i]?=none:=pp (by rw[ln]; exact hg.2);rw[<-ln]at s1;exact wpAny_pyNext_items_end (I.ok.hd hc) s1 dd hx λh1 he1=>⟨rfl,I.but (tk:=s.toks) hf λc ob hcc eb=>he1 c ob (λq=>hcc (by rw[q]; exact wO.mpr rfl)) eb⟩
 self:=λ_ _ _ _ _ st h=>by
  obtain⟨ok,ov,s1⟩:=st;exact W.kcp_self s1 h
noncomputable def S5(i:Nat):TI:=λσ H R=>∃a o kvs,σ[i]?=some (some (.ref a))/\H a=some (.yI o (.dK kvs))/\R (Ih a o kvs) H
theorem c_{X:Cx}{elts:List Expr}{kk:Nat}{tpos:Pos}{x:Str}{p apos cpos:Pos}{i:Nat}(hN:X.N[i]?=some x)(hv:tQ X.env.scope x)(hd:(x==("__debug__" : Str))=false:=by decide)(hcd:(x==("__classdict__" : Str))=false:=by decide)
  (hbase:attributeBase (.Name x p) "items" X.env (eval (.Name x p) X.env)=eval (.Name x p) X.env:=by rfl)(hline:(apos.endLine==cpos.line)=true:=by rfl) :
  PI X (.Tuple elts kk tpos) (.Call (.Attribute (.Name x p) "items" apos) [] [] cpos) (S5 i):=by
 intro z8 s σ H R I hR;obtain⟨a,o,kvs,ha,e,hR⟩:=hR;refine D4 hbase hline (zw (Z6 (pos:=p) hN hv hd hcd z8 s σ H (λv H1=>v=.ref a/\H1=H) I ⟨_,ha,rfl,rfl⟩) λv s1 ⟨y,H1,I1,r1,e1,e2⟩=>?_);subst e1 e2;cases(show v=Value.ref a from r1);obtain⟨g,_,_,_,_,o',es,ep,g',_,hdat,_⟩:=(show xD X.prog X.w H1 s1.heap a (.yI o (.dK kvs))from I1.zj a _ e);rw[g]at g';cases g';obtain⟨lo,vs,rel,dd⟩:=Y6 I1.zj e hdat;have ln:vs.length=kvs.length:=qT rel;have dO:s1.heap.DictOf (xr X.prog X.w) a vs:=dd.dictOf
 have t2:∀b,Value.ref a=.ref b->∃ob,s1.heap.get? b=some ob/\ob.dict=none:=λb q=>by
  cases q;obtain⟨ob,_,_,h1,h2,_⟩:=dO;exact⟨ob,h1,h2.2.1⟩
 refine⟨"dict",_,PySem.F.plainAttrs_dict,PySem.F.slot_dict_items,PySem.F.type_dict_items,dO.typeIs,t2,Qv rfl (PySem.evalArgs_none ?_)⟩;refine call_meetsIn PySem.F.slot_dict_items dO.typeIs PySem.F.entry_dict_items (PySem.F.args_dict_items_1 _) (meets_dict_items (xr X.prog X.w) a lo) ⟨⟨vs,dO⟩,?_⟩;have I2:Inv X z8 σ H1 { s1 with heap:=s1.heap.push { cls:=.type "dict_items",data:=.fields #[.ref a] } }:=I1.kept (t':=s1.toks) λb o e=>yx _ e
 refine wpAny_pyIter_items (knd:=xr X.prog X.w) (s:={ s1 with heap:=s1.heap.push { cls:=.type "dict_items",data:=.fields #[.ref a] } }) ⟨_,wG _ rfl,rfl,rfl⟩ (dd.push _) ?_;rw[ln];refine⟨_,[_],_,_,H1,rfl,I2.kept (t':=s1.toks) λb o e=>yx _ e,nT a _ hdat,⟨_,_,wG _ rfl⟩,λb hb=>?_,hR⟩;have e:=wO.mp hb;subst e;exact I2.p_ (y0 _) (I2.zj.fresh (y0 _))
end L2
namespace L3
open PySem PySem.Spec PyProof PyProof.Rows L2
noncomputable def jK(ks:List zb)(ds:List D):List D:=List.zipWith (λk d=>D.tup [YM k,d]) ks ds
noncomputable def YF(i:Nat):FA:=λτ=>match τ[i]? with
 |some (some (false,.dic ks ds))=>if ks.all jI=true then some (jK ks ds)else none
 |_=>none
theorem R4(i:Nat):je i (YF i):=λτ x hf=>by
 unfold YF at hf
 split at hf
 ·rename_i ks ds e;exact⟨ks,ds,e⟩
 ·cases hf
theorem R1{K:W.Frag}{G:Hp}{a:Addr}{o:Obj}{ks:List zb}{ds:List D}{vs:List V}(hl:ks.length=vs.length)(e:G a=some (.yI o (.dK (ks.zip vs))))(rs:Reps K G ds vs)(h:ks.all jI=true):tR K (Ih a o (ks.zip vs)) G (jK ks ds) where
 go:=λi G2 H g1 g2 hi=>⟨g2 _ _ (g1 _ _ e),by
  unfold jK at hi;rw[gg,<-rs.length]at hi;rw[jU];exact hi⟩
 vQ:=λi G2 H x H' g1 g2 hi y=>by
  obtain⟨p,k,u,hp,rfl,hk,rfl⟩:=y;obtain⟨hk1,hu⟩:=KN hk;obtain⟨d,ed,rd⟩:=rs.at hu;refine⟨zc G2 p (.tup [kV k,u]),.tup [YM k,d],zW.lay g2 hp,?_,?_⟩
  ·unfold jK;rw[J5,hk1,ed]
  ·have sm:yc G (zc G2 p (.tup [kV k,u])):=g1.trans (wn (g2.free hp) _);exact⟨p,[kV k,u],rfl,xH.of yr,⟨_,_,rfl,C4 (u5.mp h k (tH hk1)),⟨u,_,rfl,rd.mono sm,rfl⟩⟩,L2.small (n:=2) (by decide)⟩
 stop:=λi G2 H g1 g2 hi=>⟨g2 _ _ (g1 _ _ e),by
  unfold jK at hi;rw[gg,<-rs.length]at hi;rw[jU];exact hi⟩
theorem iF{X:Cx}{elts:List Expr}{kk:Nat}{tpos:Pos}{x:Str}{p apos cpos:Pos}{i:Nat}(hN:X.N[i]?=some x)(hv:tQ X.env.scope x)(hd:(x==("__debug__" : Str))=false:=by decide)(hcd:(x==("__classdict__" : Str))=false:=by decide)
  (hbase:attributeBase (.Name x p) "items" X.env (eval (.Name x p) X.env)=eval (.Name x p) X.env:=by rfl)(hline:(apos.endLine==cpos.line)=true:=by rfl):Vl X i (.Tuple elts kk tpos) (.Call (.Attribute (.Name x p) "items" apos) [] [] cpos) (YF i):=by
 refine⟨⟨_,c_ hN hv hd hcd hbase hline,λ{G0 H0 G H τ σ ds R} K kn hf q=>?_⟩⟩;obtain⟨a,o,ks,ds',vs,ht,hs,e,hl,rs,ll⟩:=kn;unfold YF at hf;rw[ht]at hf
 change (if ks.all jI=true then some (jK ks ds')else none)=some ds at hf
 by_cases c:ks.all jI=true
 ·rw[zP c]at hf;cases hf;refine⟨a,o,_,hs,K.ext.gh _ _ e,q _ _ _ (zW.refl K.ext.gh) ?_ (R1 hl e rs c)⟩;unfold jK;rw[gg];exact xO (Nat.min_le_right _ _) ll
 ·rw[zV c]at hf;cases hf
end L3
namespace L2
open PySem PySem.Spec PyProof PyProof.Rows
end L2
namespace L3
open PySem PySem.Spec PyProof PyProof.Rows L2
end L3
namespace L2
open PySem PySem.Spec PyProof PyProof.Rows
theorem Am(a d:Value):argsOk "max" ⟨[a],[("default",d)]⟩:=by unfold argsOk; kernel_rfl
section
variable{prog:Program}{w:World}{A:Around}{R:Result->Shared->Prop}{I:Addr}{fp wr:List Addr}{n:Nat}{P:Nat->Value->Prop}{St:Nat->Heap->Prop}{kw:List (Str×Value)}
theorem Th:(toString "max" ++ toString ".loop" : String) = "max.loop" := by decide
theorem LJ(W:Walks prog w A.in1 I fp wr n P St)(bt:Nat->Nat->Bool)(hcmp:CmpOf prog w A.in1 .Gt P bt)(S:Addr)(hSf:S ∉ fp):∀(k j:Nat)(s:Shared)(vb:Value)(c:Nat),n-(j+1)=k->j+1<=n->St (j+1) s.heap->P (argBest bt j) vb->
  s.heap.get? S=some { cls:=.type "list",dict:=none,data:=.seq #[vb,vb] c,slots:=#[] }->(∀v h' tk,P (argBest bt (n-1)) v->(∀b o,b ∉ wr->b≠S->s.heap.get? b=some o->h'.get? b=some o)->R (.ok (.ret v)) { s with heap:=h',toks:=tk })->
  codeAny (model prog w) A (.builtin "max.loop" ⟨[.ref I,.none,.ref S],kw⟩) R s
 |k,j,s,vb,c,hk,hj,hst,hPb,hS,hR=>by
  have hSw:S ∉ wr:=λh=>hSf (W.sub _ h)
  refine codeAny_builtin PySem.F.entry_max_loop ?_;rw[Around.under_plainId PySem.F.plain_max_loop _]
  change wpAny _ A.in1 (seqItems? (.ref S) >>= _) _ _ s
  refine zR (qA hS rfl ?_)
  change wpAny _ A.in1 (tryCatch (pyNext (.ref I)) _ >>= _) _ _ s
  match k,hk with
  |0,hk=>
   have hin:j+1=n:=by omega
   refine zR (V6 (W.done s _ _ (hin▸hst) λh' tk hk'=>?_));have hS':=hk' S _ hSw hS
   change wpAny _ A.in1 (updateSeq S (λ_=>#[]) >>= _) _ _ _
   refine zR (D7 hS' rfl (zR (Ze (yW ?_))));exact hR vb _ tk (by rw[<-hin]; exact hPb) λb o hbw hbS e=>(ZV _ _ (qp hbS)).trans (hk' b o hbw e)
  |k+1,hk=>
   have hlt:j+1<n:=by omega
   refine zR (V6 (W.item (j+1) s _ _ hlt hst λv h' tk hP hst' hk'=>?_));have hS':=hk' S _ hSw hS
   change wpAny _ A.in1 (tryCatch (holding [v,v] (richCompare .Gt v vb >>= _)) _ >>= _) _ _ _
   refine zR (V6 (Zd (zR (hcmp (j+1) (argBest bt j) v vb _ _ _ hP hPb (zR (Zd (V5 (zR (Ze (yW ?_))))))))));cases hb:bt (j+1) (argBest bt j)with
   |true=>
    simp only[wc];refine zR (D7 hS' rfl (zR (Ze ?_)));rw[Th];refine yW ⟨JH PySem.F.plain_max_loop _,LJ W bt hcmp S hSf k (j+1) _ v _ (by omega) hlt (W.frame _ _ _ hst' λb hbf o e=>?_) (by simp only[argBest,hb,wc]; exact hP) (Wp _ hS' rfl) λv' h'' tk'' hP' hk''=>?_⟩
    ·exact(ZV _ _ (λh:S=b=>hSf (by rw[h]; exact hbf))).trans e
    ·exact hR v' h'' tk'' hP' λb o hbw hbS e=>hk'' b o hbw hbS ((ZV _ _ (qp hbS)).trans (hk' b o hbw e))
   |false=>
    simp only[tm,vZ];refine zR (Ze ?_);rw[Th];refine yW ⟨JH PySem.F.plain_max_loop _,LJ W bt hcmp S hSf k (j+1) _ vb c (by omega) hlt hst' (by simp only[argBest,hb,tm,vZ]; exact hPb) hS' λv' h'' tk'' hP' hk''=>?_⟩;exact hR v' h'' tk'' hP' λb o hbw hbS e=>hk'' b o hbw hbS (hk' b o hbw e)
theorem An{dv:Value}(W:Walks prog w A.in1 I fp wr n P St)(bt:Nat->Nat->Bool)(hcmp:CmpOf prog w A.in1 .Gt P bt)(S:Addr)(hSf:S ∉ fp){s:Shared}{c:Nat}(hst:St 0 s.heap)
  (hS:s.heap.get? S=some { cls:=.type "list",dict:=none,data:=.seq #[] c,slots:=#[] })
  (hR:∀v h' tk,(n=0->v=dv)->(0<n->P (argBest bt (n-1)) v)->(∀b o,b ∉ wr->b≠S->s.heap.get? b=some o->h'.get? b=some o)->R (.ok (.ret v)) { s with heap:=h',toks:=tk }) :
  codeAny (model prog w) A (.builtin "max.loop" ⟨[.ref I,.none,.ref S],[("default",dv)]⟩) R s:=by
 have hSw:S ∉ wr:=λh=>hSf (W.sub _ h)
 refine codeAny_builtin PySem.F.entry_max_loop ?_;rw[Around.under_plainId PySem.F.plain_max_loop _]
 change wpAny _ A.in1 (seqItems? (.ref S) >>= _) _ _ s
 refine zR (qA hS rfl ?_)
 change wpAny _ A.in1 (tryCatch (pyNext (.ref I)) _ >>= _) _ _ s
 by_cases hn:n=0
 ·subst hn;refine zR (V6 (W.done s _ _ hst λh' tk hk'=>?_))
  change wpAny _ A.in1 (rule _ >>= _) _ _ _
  refine zR (V4 (yW ?_));exact hR dv _ tk (λ_=>rfl) (λz=>absurd z (v6 _)) λb o hbw hbS e=>hk' b o hbw e
 ·have hn':0<n:=by omega
  refine zR (V6 (W.item 0 s _ _ hn' hst λv h' tk hP hst' hk'=>?_));have hS':=hk' S _ hSw hS
  change wpAny _ A.in1 (updateSeq S (λ_=>#[v,v]) >>= _) _ _ _
  refine zR (D7 hS' rfl ?_);rw[Th];refine yW ⟨JH PySem.F.plain_max_loop _,LJ W bt hcmp S hSf _ 0 _ v _ rfl hn' (W.frame _ _ _ hst' λb hbf o e=>?_) hP (Wp _ hS' rfl) λv' h'' tk'' hP' hk''=>?_⟩
  ·exact(ZV _ _ (λh:S=b=>hSf (by rw[h]; exact hbf))).trans e
  ·exact hR v' h'' tk'' (λz=>absurd z hn) (λ_=>hP') λb o hbw hbS e=>hk'' b o hbw hbS ((ZV _ _ (qp hbS)).trans (hk' b o hbw e))
end
section
variable{prog:Program}{w:World}{A:Around}{E:Value->Shared->Prop}{s:Shared}
theorem nQ{id:String}{b:Builtin}{args:List Value}{kw:List (Str×Value)}{Q:Value->Shared->Prop}(hk:builtinKind id=none)(hp:plainId id=true)(hb:entryFor table id=some b)(ha:argsOk id ⟨args,kw⟩)
  (hc:wpAny (model prog w) A.in1 (b ⟨args,kw⟩) (λfin s'=>match fin with
   |.done f=>(match(Except.ok f:Result)with|.ok (.ret v)=>Q v s'|.ok _=>False|.error e=>E e s')
   |.again c'=>c'.quiet=true/\codeAny (model prog w) A c' (λr s'=>match r with|.ok (.ret v)=>Q v s'|.ok _=>False|.error e=>E e s') s') E s):wpAny (model prog w) A (call (.builtin id) args kw) Q E s:=by
 refine JJ (D0 hp hb ?_);simp only[checkBuiltinCall,hk];cases hsig:Manifest.signature? id with
 |none=>exact yW hc
 |some sig=>
  have ha':Bind.checkArgs id sig ⟨args,kw⟩=pure ():=by simpa only [argsOk,hsig]using ha
  simp only[ha'];exact yW hc
theorem Nz{x dv:Value}{Q:Value->Shared->Prop}
  (h:wpAny (model prog w) A.in1 (pyIter x) (λit s₂=>∃I fp wr n P St bt,it=.ref I/\Walks prog w A.in1 I fp wr n P St/\St 0 s₂.heap/\(∀b∈fp,b<s₂.heap.objs.size)/\CmpOf prog w A.in1 .Gt P bt/\
   ∀v h' tk,(n=0->v=dv)->(0<n->P (argBest bt (n-1)) v)->(∀b o,b ∉ wr->s₂.heap.get? b=some o->h'.get? b=some o)->Q v { s₂ with heap:=h',toks:=tk }) E s) :
  wpAny (model prog w) A (call (.builtin "max") [x] [("default",dv)]) Q E s:=by
 refine nQ PySem.F.kind_max PySem.F.plain_max PySem.F.entry_max (Am _ _) ?_
 change wpAny _ A.in1 (Builtin.Builtins.bindParams "max" ["key", "default"] 0 ⟨[],[("default",dv)]⟩ >>= _) _ _ s
 refine zR (wpAny_of_eq (show Builtin.Builtins.bindParams "max" ["key", "default"] 0 ⟨[],[("default",dv)]⟩=pure [none,some dv]from rfl) ?_);refine zR (yW (zR (va h (λit s₂ h₂=>?_) λ_ _ e=>e)));obtain⟨I,fp,wr,n,P,St,bt,rfl,W,hst,hfp,hcmp,hQ⟩:=h₂;refine zR (gj ?_);have hSf:s₂.heap.objs.size ∉ fp:=λhm=>v6 _ (hfp _ hm)
 rw[Th];refine yW ⟨JH PySem.F.plain_max_loop _,An W bt hcmp s₂.heap.objs.size hSf (W.frame _ _ _ hst λb _ o e=>yx _ e) (wG _ rfl) λv h' tk h0 hP hk=>?_⟩;exact hQ v h' tk h0 hP λb o hbw e=>hk b o hbw (u7 (yh e)) (yx _ e)
end
section
variable{X:Cx}
noncomputable def maxI:List Int->Int
 | []=>0
 |x::xs=>xs.foldl (λa b=>if a<b then b else a) x
theorem CP:∀(xs:List Int)(x:Int),(xs.foldl (λa b=>if a<b then b else a) x=x\/xs.foldl (λa b=>if a<b then b else a) x∈xs)/\x<=xs.foldl (λa b=>if a<b then b else a) x/\∀y∈xs,y<=xs.foldl (λa b=>if a<b then b else a) x
 | [],x=>⟨.inl rfl,Qz _,λy h=>absurd h (by simp)⟩
 |z::xs,x=>by
  obtain⟨a,b,c⟩:=CP xs (if x<z then z else x);have h1:x<=if x<z then z else x:=by split<;>omega
  have h2:z<=if x<z then z else x:=by split<;>omega
  refine⟨?_,Bc h1 b,λy hy=>?_⟩
  ·rcases a with a|a
   ·by_cases q:x<z
    ·rw[zP q]at a
     right
     show List.foldl _ (if x<z then z else x) xs∈z::xs;rw[zP q,a];exact xh
    ·left
     rw[zV q]at a;show List.foldl _ (if x<z then z else x) xs=x;rw[zV q,a]
   ·exact .inr (wN _ a)
  ·rcases xN.mp hy with rfl|hy
   ·exact Bc h2 b
   ·exact c y hy
theorem Aa{xs:List Int}(h:xs≠[]):maxI xs∈xs/\∀y∈xs,y<=maxI xs:=by
 cases xs with
 |nil=>exact absurd rfl h
 |cons x xs=>
  obtain⟨a,b,c⟩:=CP xs x;refine⟨?_,λy hy=>?_⟩
  ·rcases a with a|a
   ·show List.foldl _ x xs∈_;rw[a];exact xh
   ·exact wN _ a
  ·rcases xN.mp hy with rfl|hy
   ·exact b
   ·exact c y hy
theorem maxI_uniq{xs:List Int}{m:Int}(h:m∈xs)(h2:∀y∈xs,y<=m):m=maxI xs:=by
 obtain⟨a,b⟩:=Aa (xs:=xs) (λz=>by rw[z]at h; exact absurd h (by simp));have:=b m h;have:=h2 _ a;omega
noncomputable def lV(K:W.Frag)(ta td:TE):TE:=λσ H Q=>ta σ H λx H1=>td σ H1 λz H2=>∃(p:Addr) (ns:List Int),x=.ref p/\yj K H2 p (ns.map V.int)/\Q (if ns=[]then z else .int (maxI ns)) H2
noncomputable def G7(K:W.Frag)(x:V)(Q:VK):List V->Hp->Prop:=λzs H2=>match zs with
 | [z]=>∃(p:Addr) (ns:List Int),x=.ref p/\yj K H2 p (ns.map V.int)/\Q (if ns=[]then z else .int (maxI ns)) H2
 |_=>False
noncomputable def eF(K:W.Frag)(td:TE)(σ:St)(Q:VK):List V->Hp->Prop:=λvs H1=>match vs with
 | [x]=>td σ H1 λz H2=>G7 K x Q [z] H2
 |_=>False
theorem cj{a e:Expr}{ta td:TE}{p kp pos:Pos}(hcalm:X.calm=true)(hg:Gl X "max")(hm:X.mg "max" = none)(ha:PE X a ta)(hd:PE X e td)(hs:starEach [a] X.env=[(false,eval a X.env)]:=by rfl) :
  PE X (.Call (.Name "max" p) [a] [⟨some "default",e,kp⟩] pos) (lV X.K ta td):=by
 intro z8 s σ H Q I h;have pa:PA X [a] (Yl ta Ym):=Eg ha YT hs;have pk:PK X [⟨some "default",e,kp⟩] (Yl td Ym):=dI hd dL;refine V2 (gE I hg hm Dp ?_);refine PyProof.Rows.callWith_kw (zw (pa pos z8 s σ H (eF X.K td σ Q) I h) λus s1 ⟨vs,H1,I1,r1,q1⟩=>?_) (by rw[hs]; rfl) (by rw[hs]; rfl)
 match vs,r1,q1 with
 | [x],r1,q1=>
  obtain⟨u,rfl,ru⟩:=vN r1;refine zw (pk pos z8 s1 σ H1 (G7 X.K x Q) I1 q1) λws s2 ⟨zs,H2,I2,rz,q2⟩=>?_
  match zs,rz,q2 with
  | [z],rz,q2=>
   obtain⟨dv,rfl,rd⟩:=vN rz;obtain⟨l,ns,rfl,hq,q⟩:=q2;cases(show u=Value.ref l from ru);have hdn:=I2.ok.hd hcalm;obtain⟨its,rv,pl,hz⟩:=I2.list hq;have hl:ns.length=its.toArray.size:=by have:=rv.length; rw[yK]at this; rw[yo]; exact this
   have hlt:l<s2.heap.objs.size:=by obtain⟨o,n,e,_⟩:=pl; exact yh e
   refine Nz ?_;refine D6 pl.isList ?_;refine⟨_,_,_,_,_,_,_,rfl,Walks.list (by exact hdn) s2.heap.objs.size l (u7 hlt) its.toArray,⟨⟨_,wG _ rfl,rfl,rfl⟩,pl.isList.push _⟩,?_,CmpOf.ints_gt (λi=>ns.getD i 0) (λi v hv=>KB rv hv),?_⟩
   ·intro b hb;show b<(s2.heap.push _).objs.size;rw[Yr];simp only[xN,t_,or_false]at hb;rcases hb with rfl|rfl
    ·exact Ww _
    ·exact Nat.lt_succ_of_lt hlt
   ·intro v h' tk h0 hP k
    have kp:∀b o,s2.heap.get? b=some o->h'.get? b=some o:=λb o eb=>k b o (λz=>by
     have:b=s2.heap.objs.size:=by simpa using z
     rw[this]at eb;exact absurd (yh eb) (v6 _)) (yx _ eb)
    by_cases e0:ns=[]
    ·rw[zP e0]at q;have:v=dv:=h0 (by rw[<-hl,e0]; rfl);subst this;exact⟨z,H2,I2.kept (t':=tk) kp,rd,q⟩
    ·rw[zV e0]at q;have hpos:0<ns.length:=Kk.mpr e0;have hP':=hP (by rw[<-hl]; exact hpos);obtain⟨t,rfl⟩:=KB rv hP';obtain⟨b1,b2⟩:=argBest_gt (λi=>ns.getD i 0) (its.toArray.size-1);generalize argBest (λi j=>decide (ns.getD i 0>ns.getD j 0)) (its.toArray.size-1)=m at *;have hm':m<ns.length:=by omega
     have em:ns.getD m 0=maxI ns:=by
      refine maxI_uniq ?_ λy hy=>?_
      ·rw[vF,yf hm'];exact uQ hm'
      ·obtain⟨j,hj,rfl⟩:=List.mem_iff_getElem.mp hy;have:=b2 j (by omega)
       rwa [vF,yf hj]at this
     exact⟨.int (maxI ns),H2,I2.kept (t':=tk) kp,⟨t,by rw[<-em]⟩,q⟩
end
end L2
namespace L3
open PySem PySem.Spec PyProof PyProof.Rows L2
noncomputable def kq:List D->Option (List Int)
 | []=>some []
 |.int i::r=>(kq r).bind λis=>some (i::is)
 |_::_=>none
theorem Fs{K:W.Frag}{G:Hp}:∀{xs:List D}{ns:List Int}{vs:List V},kq xs=some ns->Reps K G xs vs->vs=ns.map V.int
 | [],ns,vs,h,r=>by
  cases h;exact(show vs=[]from r)
 |.int i::xs,ns,vs,h,r=>by
  obtain⟨is,h1,h⟩:=zQ (show(kq xs).bind _=_ from h);cases h;obtain⟨v,r',rfl,hv,hr⟩:=r;cases(show v=.int i from hv);rw[Fs h1 hr];rfl
 |.zD::_,_,_,h,_=>by cases h
 |.bl _::_,_,_,h,_=>by cases h
 |.str _::_,_,_,h,_=>by cases h
 |.tup _::_,_,_,h,_=>by cases h
 |.lst _::_,_,_,h,_=>by cases h
 |.dic _ _::_,_,_,h,_=>by cases h
 |.exc _::_,_,_,h,_=>by cases h
 |.obj _ _ _::_,_,_,h,_=>by cases h
theorem Fr:∀ns:List Int,kq (ns.map D.int)=some ns
 | []=>rfl
 |n::ns=>by
  show(kq (ns.map D.int)).bind _=_;rw[Fr ns];rfl
noncomputable def Oh:D->D->Option D
 |.lst xs,z=>(kq xs).bind λns=>some (if ns=[]then z else .int (maxI ns))
 |_,_=>none
theorem i4{X:Cx}{a e:Expr}{fa fe:FE}{p kp pos:Pos}(hcalm:X.calm=true)(hg:Gl X "max")(hm:X.mg "max" = none)(ha:SE X a fa)(hd:SE X e fe)(hs:xJ a=true:=by rfl):SE X (.Call (.Name "max" p) [a] [⟨some "default",e,kp⟩] pos) (e2 Oh fa fe):=by
 obtain⟨ta,pa,ka⟩:=ha.h;obtain⟨td,pd,kd⟩:=hd.h;refine⟨⟨_,cj hcalm hg hm pa pd (u2 hs),λ{G0 H0 G H τ σ d Q} E hf q=>?_⟩⟩;obtain⟨x,hx,hf⟩:=zQ hf;obtain⟨z,hz,hf⟩:=zQ hf;refine ka E hx λv G1 H1 x1 r1=>?_
 refine kd (E.go x1) hz λu G2 H2 x2 r2=>?_
 cases x with
 |lst xs=>
  obtain⟨ns,hn,hf⟩:=zQ hf;cases hf;obtain⟨l,vs,rfl,sq,rs,_⟩:=r1;have e:=Fs hn rs;subst e;refine⟨l,ns,rfl,wZ (x1.gh.trans x2.h) sq,?_⟩;by_cases c:ns=[]
  ·rw[zP c];rw[zP c]at q;exact q u G2 H2 (x1.trans x2) r2
  ·rw[zV c];rw[zV c]at q;exact q _ G2 H2 (x1.trans x2) rfl
 |_=>cases hf
end L3
namespace L2
open PySem PySem.Spec PyProof PyProof.Rows
end L2
namespace L3
open PySem PySem.Spec PyProof PyProof.Rows L2
end L3
namespace L2
open PySem PySem.Spec PyProof PyProof.Rows
open Builtin Builtin.Str
section
variable{X:Cx}
theorem Aj:pA X "str.rjust" (λx vs H Q=>∃(z:Str) (i:Int),x=.str z/\vs=[.int i]/\PadOk i=true/\Q (.str (Txt.rjust z i)) H):=by
 intro z8 s σ H x vs v us Q I rx rv h;obtain⟨z,i,rfl,rfl,hz,q⟩:=h;obtain⟨t,rfl⟩:=(show ∃t,v=Value.str z t from rx);obtain⟨u,rfl,t',rfl⟩:=vN rv;exact SC.rjust hz λt' k=>⟨.str _,H,I.tok _,⟨_,rfl⟩,q⟩
theorem Hg:∀l:List (Str×Tok),zz ((l.map (·.1)).map V.str) (strValues l)
 | []=>.nil
 |p::r=>.cons ⟨p.2,rfl⟩ (Hg r)
theorem HU(x y:Str)(h:x.length+2<=sizeLine):(Txt.split x y).length<=sizeLine:=by
 have one:[x].length<=sizeLine:=by show 1<=sizeLine; decide
 unfold Txt.split
 split
 ·exact one
 ·split
  ·exact one
  ·have e1:=StrLaws.occ_length_le x y 0 x.length (x.length+1);rw[length_partsBetween];omega
theorem Ak:pA X "str.split" (λx vs H Q=>∃z y:Str,x=.str z/\vs=[.str y]/\(y.length==0)=false/\z.length+2<=sizeLine/\∀p,H p=none->Q (.ref p) (zc H p (.lst ((Txt.split z y).map V.str)))):=by
 intro z8 s σ H xv vs v us Q I rx rv h;obtain⟨x,y,rfl,rfl,hy,hz,q⟩:=h;obtain⟨t,rfl⟩:=(show ∃t,v=Value.str x t from rx);obtain⟨u',rfl,u,rfl⟩:=vN rv
 have lay:∀(l:List (Str×Tok)) (k:Nat),l.map (·.1)=Txt.split x y->EP X z8 σ Q (.ref s.heap.objs.size) { s with toks:=k,heap:=s.heap.push { cls:=.type "list",data:=.seq (strValues l).toArray } }:=λl k e=>by
  refine⟨.ref s.heap.objs.size,_,I.laid (o:=.lst ((Txt.split x y).map V.str)) (t':=k) (λb u e=>yx _ e) (y0 _) ⟨?_,strValues l,0,?_,wG _ rfl⟩,rfl,q _ I.fresh⟩
  ·rw[yK];exact HU x y hz
  ·rw[<-e];exact Hg l
 have hn:(partsBetween x (occurrences x y 0 x.length (x.length+1)) y.length).length<=sizeLine:=by
  have e1:=StrLaws.occ_length_le x y 0 x.length (x.length+1);rw[length_partsBetween]; omega
 cases h1:(decide (x.length<y.length)||decide (strKind x<strKind y))
 ·cases hf:(occurrences x y 0 x.length (x.length+1)).isEmpty
  ·refine Zc BZ (jW _ _ _) BY (BX _ _) (meets_str_split_sep x y t u h1 hy hf (by omega) hn) ?_;show wants (EP X z8 σ Q) X.xe _ { s with toks:=_,heap:=s.heap.push { cls:=.type "list",data:=.seq (strsFrom s.toks (partsBetween x (occurrences x y 0 x.length (x.length+1)) y.length)).toArray } };rw[strsFrom_eq];exact lay (PySem.numbered s.toks _) _ ((numbered_texts _ _).trans ((zV (D2 h1)).trans (zV (D2 hf))).symm)
  ·exact Zc BZ (jW _ _ _) BY (BX _ _) (meets_str_split_not_found x y t u h1 hy hf)
    (lay [(x,t)] s.toks ((zV (D2 h1)).trans (zP hf)).symm)
 ·exact Zc BZ (jW _ _ _) BY (BX _ _) (meets_str_split_cannot_occur x y t u h1)
   (lay [(x,t)] s.toks (zP h1).symm)
variable{a o:Expr}{ta to:TE}{i:Int}{ck ck1 ck2:Nat}{cp pos apos cpos p1 p2:Pos}{y z:Str}
end
end L2
namespace L3
open PySem PySem.Spec PyProof PyProof.Rows L2
noncomputable def Oi:D->D->Option D
 |.str z,.int i=>if PadOk i=true/\(Txt.rjust z i).length<=16777216 then some (.str (Txt.rjust z i))else none
 |_,_=>none
noncomputable def Xl:D->D->Option D
 |.str z,.str y=>if(y.length==0)=false/\z.length+2<=16777216 then some (.lst ((Txt.split z y).map D.str))else none
 |_,_=>none
section
variable{X:Cx}{o e a:Expr}{fo f fa:FE}{apos cpos p1 p2 cp pos:Pos}{nm:Str}{id:String}{rm:V->List V->Hp->VK->Prop}{F:D->D->Option D}{ck ck1 ck2:Nat}{i:Int}{y z:Str}
theorem Gx(slot:Slot "str" nm id)(hty:typeOf (.builtin id)=pure (.type "method_descriptor"))(hm:pA X id rm)
  (hF:∀{x y d:D},F x y=some d->∃w,x=.str w)(hR:∀{w:Str}{y d:D}{v:V}{G H:Hp}{Q:VK},yc G H->w.length<=sizeLine->F (.str w) y=some d->zf X.K G y v->(∀u G' H',zW G H G' H'->zf X.K G' d u->Q u H')->rm (.str w) [v] H Q)
  (ho:SE X o fo)(he:SE X e f)(hbase:attributeBase o nm X.env (eval o X.env)=eval o X.env:=by rfl)(hline:(apos.endLine==cpos.line)=true:=by rfl)(hs:xJ e=true:=by rfl) :
  SE X (.Call (.Attribute o nm apos) [e] [] cpos) (e2 F fo f):=by
 obtain⟨to,po,ko⟩:=ho.h;obtain⟨te,pe,ke⟩:=(zC he zO hs).h;refine⟨⟨_,(gL PySem.F.plainAttrs_str slot hty hm ⟨po⟩ ⟨pe⟩ hbase hline (by rw[wp,hs]; rfl) (by show 1<30; decide)).h,λ{G0 H0 G H τ σ d Q} E hf q=>?_⟩⟩;obtain⟨x,hx,hf⟩:=zQ hf;obtain⟨y,hy,hf⟩:=zQ hf;obtain⟨w,rfl⟩:=hF hf;refine ko E hx λv G1 H1 x1 r1=>?_
 obtain⟨rfl,l1⟩:=r1;refine⟨rfl,ke (E.go x1) (ds:=[y]) (by unfold zB; rw[hy]; rfl) λws G2 H2 x2 r2=>?_⟩;obtain⟨u,rfl,ru⟩:=qW r2;exact hR x2.gh l1 hf ru λu G' H' x3 r3=>q u G' H' ((x1.trans x2).trans x3) r3
theorem i5(ho:SE X o fo)(he:SE X e f)(hbase:attributeBase o "rjust" X.env (eval o X.env)=eval o X.env:=by rfl)(hline:(apos.endLine==cpos.line)=true:=by rfl)(hs:xJ e=true:=by rfl) :
  SE X (.Call (.Attribute o "rjust" apos) [e] [] cpos) (e2 Oi fo f):=
 Gx PySem.F.slot_str_rjust PySem.F.type_str_rjust Aj (λ{x y d} h=>by
  cases x with
  |str w=>exact⟨w,rfl⟩
  |_=>cases h) (λ{w y d v G H Q} g l h r q=>by
  cases y with
  |int i=>
   change (if PadOk i=true/\(Txt.rjust w i).length<=16777216 then some (D.str (Txt.rjust w i))else none)=some d at h
   by_cases c:PadOk i=true/\(Txt.rjust w i).length<=16777216
   ·rw[zP c]at h;cases h;cases(show v=V.int i from r);exact⟨w,i,rfl,rfl,c.1,q _ G H (zW.refl g) ⟨rfl,by rw[xy]; exact c.2⟩⟩
   ·rw[zV c]at h;cases h
  |_=>cases h) ho he hbase hline hs
theorem Gb{K:W.Frag}{G:Hp}:∀{l:List Str},(∀a∈l,a.length<=sizeLine)->Reps K G (l.map D.str) (l.map V.str)
 | [],_=>rfl
 |a::l,h=>⟨_,_,rfl,⟨rfl,h a (xh ..)⟩,Gb λb hb=>h b (wN _ hb)⟩
theorem HB(ho:SE X o fo)(he:SE X e f)(hbase:attributeBase o "split" X.env (eval o X.env)=eval o X.env:=by rfl)(hline:(apos.endLine==cpos.line)=true:=by rfl)(hs:xJ e=true:=by rfl) :
  SF X (.Call (.Attribute o "split" apos) [e] [] cpos) (e2 Xl fo f):=by
 obtain⟨to,po,ko⟩:=ho.h;obtain⟨te,pe,ke⟩:=(zC he zO hs).h;refine⟨⟨_,(gL PySem.F.plainAttrs_str PySem.F.slot_str_split PySem.F.type_str_split Ak ⟨po⟩ ⟨pe⟩ hbase hline (by rw[wp,hs]; rfl) (by show 1<30; decide)).h,λ{G0 H0 G H τ σ d Q} E hf q=>?_⟩⟩;obtain⟨x,hx,hf⟩:=zQ hf;obtain⟨y,hy,hf⟩:=zQ hf;refine ko E hx λv G1 H1 x1 r1=>?_
 cases x with
 |str w=>
  obtain⟨rfl,l1⟩:=r1;refine⟨rfl,ke (E.go x1) (ds:=[y]) (by unfold zB; rw[hy]; rfl) λws G2 H2 x2 r2=>?_⟩;obtain⟨u,rfl,ru⟩:=qW r2;cases y with
  |str y=>
   change (if(y.length==0)=false/\w.length+2<=16777216 then some (D.lst ((Txt.split w y).map D.str))else none)=some d at hf
   by_cases c:(y.length==0)=false/\w.length+2<=16777216
   ·rw[zP c]at hf;cases hf;obtain⟨rfl,_⟩:=ru;have c2:w.length+2<=sizeLine:=by rw[xy]; exact c.2
    have x12:=x1.trans x2;refine⟨w,y,rfl,rfl,c.1,c2,λp hp=>q p _ _ (x12.trans (zW.qB x12.gh hp)) (x12.h.free hp) (x12.gh.free hp) ⟨_,yr,Gb λa ha=>xO (part_short ha) l1,?_⟩⟩;rw[yK];exact HU w y c2
   ·rw[zV c]at hf;cases hf
  |_=>cases hf
 |_=>cases hf
end
end L3
namespace L2
open PySem PySem.Spec PyProof PyProof.Rows
end L2
namespace L3
open PySem PySem.Spec PyProof PyProof.Rows L2
end L3
namespace L2
open PySem PySem.Spec PyProof PyProof.Rows
end L2
namespace L3
open PySem PySem.Spec PyProof PyProof.Rows L2
end L3
namespace L3
open PySem PySem.Spec PyProof.Rows L2
inductive M where
 |fz (d:D)|own (d:D)|obj (x:Str) (fs:List Str) (ms:List M)|tab (ks:List (Sum Int Str)) (ms:List M)
noncomputable abbrev Ft:=Addr->Prop
open Classical in
noncomputable def cut(H:Hp)(L:Ft):Hp:=λq=>if L q then none else H q
end L3
namespace L2
open PySem PySem.Spec PyProof PyProof.Rows
end L2
namespace L3
open PySem PySem.Spec PyProof.Rows L2
open PyProof
end L3
namespace L3
open PySem PySem.Spec PyProof.Rows L2
open PyProof
noncomputable def UI:D->D->Option D
 |.str x,.int j=>match decide (x.length<=16)&&(decide (0<=j)&&decide (j<=1000))with
  |true=>some (.str (Txt.mul x j))
  |false=>none
 |_,_=>none
noncomputable def GL:V->V->Hp->VK->Prop:=λx y H Q=>∃i j,x=.str i/\y=.int j/\i.length<=16/\0<=j/\j<=1000/\Q (.str (Txt.mul i j)) H
theorem Ef{X:Cx}:yi X (binaryOp .Mult) GL:=by
 intro z8 s σ H x y v u Q I rx ry h;obtain⟨i,j,rfl,rfl,h1,h2,h3,q⟩:=h;obtain⟨t,rfl⟩:=rx;obtain⟨t',rfl⟩:=ry;exact SB.mul (mulOk_of 16 1000 h1 (by omega) (by omega) (by decide) (by decide)) λt' k=>⟨.str (Txt.mul i j),H,I.tok _,⟨_,rfl⟩,q⟩
theorem Eb{K:W.Frag}:vS K GL UI:=λG H x y u v d Q s rx ry hf q=>by
 cases x<;>first|(cases hf; done)|skip
 cases y<;>first|(cases hf; done)|skip
 rename_i i j
 change (match decide (i.length<=16)&&(decide (0<=j)&&decide (j<=1000))with|true=>some (D.str (Txt.mul i j))|false=>none)=some d at hf
 cases c:(decide (i.length<=16)&&(decide (0<=j)&&decide (j<=1000)))with
 |false=>rw[c]at hf; cases hf
 |true=>
  rw[c]at hf;cases hf;rw[xS,xS]at c;have h1:=wI c.1;have h2:=wI c.2.1;have h3:=wI c.2.2;have l:(Txt.mul i j).length<=16*1000:=len_mul_leN h1 (by omega);exact⟨i,j,rx.1,ry,h1,h2,h3,q _ _ _ (zW.refl s) ⟨rfl,by rw[xy]; omega⟩⟩
end L3
namespace L2
open PySem PySem.Spec PyProof PyProof.Rows
end L2
namespace L3
open PySem PySem.Spec PyProof PyProof.Rows L2
end L3
namespace L3
open PySem PySem.Spec PyProof.Rows L2
noncomputable def zX(K:W.Frag)(x:Str)(st:Stmt):Prop:=
 ∃(f:Addr) (od an:Option Addr) (sl:Array (Option Value)) (oc kV dc pm cd ct:Value),W.nsIn K mainGlobals x=some (some (.ref f))/\K.lookup f=FK x st oc od sl kV dc pm an cd ct/\W.codeIn K cd x=true/\W.keepIn K (.ref f)=true
section
variable{K:W.Frag}{mg:Str->Option Value}{h:Heap}{x p0 p1 p2 p3 p4 p5:Str}{st:Stmt}{ps:List Str}
theorem zX.d(a:zX K x st)(X:K.In h)(G:h.Ns mainGlobals mg)(b:∀(kV doc pm:Value)(an:Option Addr)(cdv ct:Value)(us:List Value),us.length=ps.length->bindArgs (W.fnOf x x (j_ st) (t7 st) (zx st) .none kV doc pm an cdv ct) ⟨us,[]⟩=pure (ps.zip us)):Def K mg x st ps:=by
 obtain⟨f,od,an,sl,oc,kV,dc,pm,cd,ct,a,l,c,k⟩:=a;have F:=FP (st:=st) l c k;exact⟨_,_,F,W.mg_of X G a,F.binds b⟩
noncomputable abbrev BA(x:Str)(st:Stmt)(us:List Value)(ps:List Str):Prop:=∀(kV doc pm:Value)(an:Option Addr)(cdv ct:Value),bindArgs (W.fnOf x x (j_ st) (t7 st) (zx st) .none kV doc pm an cdv ct) ⟨us,[]⟩=pure (ps.zip us)
theorem zX.d0(a:zX K x st)(X:K.In h)(G:h.Ns mainGlobals mg)(b:BA x st [] []:=by intros; exact λ_ _ _ _ _ _=>rfl):Def K mg x st []:=a.d X G λ_ _ _ _ _ _=>K6 (b _ _ _ _ _ _)
theorem zX.d1(a:zX K x st)(X:K.In h)(G:h.Ns mainGlobals mg)(b:∀u,BA x st [u] [p0]:=by intros; exact λ_ _ _ _ _ _=>rfl):Def K mg x st [p0]:=a.d X G λ_ _ _ _ _ _=>K7 λu=>b u _ _ _ _ _ _
theorem zX.d2(a:zX K x st)(X:K.In h)(G:h.Ns mainGlobals mg)(b:∀u v,BA x st [u,v] [p0,p1]:=by intros; exact λ_ _ _ _ _ _=>rfl):Def K mg x st [p0,p1]:=a.d X G λ_ _ _ _ _ _=>K8 λu v=>b u v _ _ _ _ _ _
theorem zX.d3(a:zX K x st)(X:K.In h)(G:h.Ns mainGlobals mg)(b:∀u v y,BA x st [u,v,y] [p0,p1,p2]:=by intros; exact λ_ _ _ _ _ _=>rfl):Def K mg x st [p0,p1,p2]:=a.d X G λ_ _ _ _ _ _=>K9 λu v y=>b u v y _ _ _ _ _ _
theorem zX.d4(a:zX K x st)(X:K.In h)(G:h.Ns mainGlobals mg)(b:∀u v y z,BA x st [u,v,y,z] [p0,p1,p2,p3]:=by intros; exact λ_ _ _ _ _ _=>rfl):Def K mg x st [p0,p1,p2,p3]:=a.d X G λ_ _ _ _ _ _=>o_ λu v y z=>b u v y z _ _ _ _ _ _
theorem _root_.L2.Def.oS(d:Def K mg x st ps)(P:Program)(w:World)(base:Heap)(k:Nat)(F:List D->Option (Bool×D)){N:List Str}{b:FS}(S:yP N ps (zx st))(hF:∀ds r,F ds=some r->ds.length=ps.length/\ya N.length b ds=some r)
  (hb:∀{f:Addr}{cdv:Value}{A:Around}{outer:List Env}{s:Shared}{H:Hp}{E:XK},xl k (A.deeper (envOfC x (zx st) s.heap.objs.size f cdv))->uA (pF uu P w K mg base N x (zx st) f cdv A outer s H E).tJ (t7 st) b)
  (hN:ps.length<=N.length:=by decide):yQ P w K mg base x ps (k+1) (yU K F):=Def.N5 d S hN hF λ_ _ _ _ _ _ _ hr=>hb hr
end
end L3
namespace L2
open PySem PySem.Spec PyProof PyProof.Rows
open Builtin Builtin.Str
end L2
namespace L3
open PySem PySem.Spec PyProof PyProof.Rows L2
noncomputable def Oe:D->D->Option D
 |.str z,.str y=>match Builtin.Str.occurrences z y 0 z.length 1 with
  |i::_=>some (.int (i:Int))
  | []=>none
 |_,_=>none
noncomputable def Y8(i j k:Nat):FG:=λd σ=>match d with
 |.tup [x,y,z]=>some (((σ.set i (some (false,x))).set j (some (false,y))).set k (some (false,z)))
 |_=>none
section
variable{X:Cx}{E:XK}{i j k:Nat}{y f:Str}{ps:List Str}{F:FX}{fa:FA}{g:FSX}{e:Expr}{es:List Expr}{yy:List Stmt}{yp fp cp pos:Pos}
theorem iD{l:Nat}{x z:Str}{p1 p2 p3:Pos}{kk:Nat}(h:QG X (.Tuple [.Name x p1,.Name y p2,.Name z p3] kk pos) (Y9 X.K 3 (qQ (vw i) (qQ (vw j) (qQ (vw l) Y7)))))(hi:X.N[i]?=some x)(hj:X.N[j]?=some y)(hl:X.N[l]?=some z):SG X (.Tuple [.Name x p1,.Name y p2,.Name z p3] kk pos) (Y8 i j l):=⟨⟨_,h.h,λ{G0 H0 G H τ τ' σ d v Q} K r hf q=>by
 unfold Y8 at hf
 split at hf
 ·rename_i d1 d2 d3;cases hf;obtain⟨a,vs,rfl,sq,⟨v1,r1,rfl,h1,⟨v2,r2,rfl,h2,⟨v3,r3,rfl,h3,h4⟩⟩⟩,_⟩:=r;cases(show r3=[]from h4);refine⟨a,_,rfl,vh K.ext.gh sq,rfl,v1,_,rfl,v2,_,rfl,v3,_,rfl,rfl,?_⟩;exact q _ (((K.set (xT.mp hi).1 h1).set (xT.mp hj).1 h2).set (xT.mp hl).1 h3)
 ·cases hf⟩⟩
end
end L3
namespace L2
open PySem PySem.Spec PyProof PyProof.Rows
end L2
namespace L3
open PySem PySem.Spec PyProof PyProof.Rows L2
end L3
namespace L2
open PySem PySem.Spec PyProof.Rows
open Builtin Builtin.Str
section
variable{X:Cx}
noncomputable def eX(K:W.Frag):V->List V->Hp->VK->Prop:=λx vs H Q=>∃(sep:Str) (p:Addr) (ts:List Str),x=.str sep/\vs=[.ref p]/\xH K H p (ts.map V.str)/\(ts.map (·.length)).sum+ts.length*sep.length<=sizeLine/\Q (.str (glued sep ts)) H
theorem Ai:pA X "str.join" (eX X.K):=by
 intro z8 s σ H x vs v us Q I rx rv h;obtain⟨sep,p,ts,rfl,rfl,hq,hz,q⟩:=h;obtain⟨t,rfl⟩:=(show ∃t,v=Value.str sep t from rx);obtain⟨u,rfl,ru⟩:=vN rv;cases(show u=Value.ref p from ru);obtain⟨its,r,pl,_⟩:=I.tuple hq;obtain⟨l,rfl,el⟩:=BK r;have hT:s.TypeIs (.ref p) "tuple" := pl.typeIs;obtain⟨o,ho,hc,n,hd⟩:=pl
 have hno:tooLong ((l.map (·.1)).toArray.foldl (·+·.length+sep.length) 0)=false:=by
  rw[el,StrLaws.joinTotal];unfold tooLong;exact yV (by omega)
 have fit:(glued sep ts).length<=sizeLine:=xO (glued_len sep ts) hz;refine JJ (D0 Qw.plain F.entry_str_join (Qw.check _ _ _ _ _ _ _ _ (jW _ _ _) (F.args_str_join_2 _ _) ?_));obtain⟨other,e⟩:=join_tree sep t p;rw[e];refine zR (V7 hT ?_);rw[zP (by decide)];refine zR (qA ho hd ?_);show wpAny _ _ (joinTail sep (strValues l)) _ _ _;rcases l with _|⟨a,_|⟨b,c⟩⟩
 ·subst el;exact X0 sep [] hno X.prog X.w _ (λr s'=>match r with|.ok (.ret v)=>EP X z8 σ Q v s'|.ok _=>False|.error e=>X.xe e s') s ⟨fit,.str _,H,I.tok _,⟨_,rfl⟩,q⟩
 ·subst el;exact X0 sep [a] hno X.prog X.w _ (λr s'=>match r with|.ok (.ret v)=>EP X z8 σ Q v s'|.ok _=>False|.error e=>X.xe e s') s ⟨.str _,H,I,⟨_,rfl⟩,q⟩
 ·subst el;exact X0 sep (a::b::c) hno X.prog X.w _ (λr s'=>match r with|.ok (.ret v)=>EP X z8 σ Q v s'|.ok _=>False|.error e=>X.xe e s') s ⟨fit,.str _,H,I.tok _,⟨_,rfl⟩,q⟩
end
end L2
namespace L3
open PySem PySem.Spec PyProof PyProof.Rows L2 Builtin Builtin.Str
section
variable{X:Cx}{e o a b c:Expr}{f fo fa fb fc:FE}{x:Str}{xp p pos apos cpos:Pos}
noncomputable def Og:D->D->Option D
 |.str sep,.tup xs=>(pX xs).bind λts=>if(ts.map (·.length)).sum+ts.length*sep.length<=yR then some (.str (glued sep ts))else none
 |_,_=>none
theorem h_(ho:SE X o fo)(he:SB X e f)(hbase:attributeBase o "join" X.env (eval o X.env)=eval o X.env:=by rfl)(hline:(apos.endLine==cpos.line)=true:=by rfl)(hs:xJ e=true:=by rfl) :
  SE X (.Call (.Attribute o "join" apos) [e] [] cpos) (e2 Og fo f):=by
 obtain⟨to,po,ko⟩:=ho.h;obtain⟨te,pe,ke⟩:=(yz he xB hs).h;refine⟨⟨_,(gL PySem.F.plainAttrs_str PySem.F.slot_str_join PySem.F.type_str_join Ai ⟨po⟩ ⟨pe⟩ hbase hline (by rw[wp,hs]; rfl) (by show 1<30; decide)).h,λ{G0 H0 G H τ σ d Q} E hf q=>?_⟩⟩;obtain⟨x,hx,hf⟩:=zQ hf;obtain⟨y,hy,hf⟩:=zQ hf;refine ko E hx λv G1 H1 x1 r1=>?_
 cases x with
 |str sep=>
  obtain⟨rfl,l1⟩:=r1;refine⟨rfl,ke (E.go x1) (ds:=[y]) (by unfold zB; rw[hy]; rfl) λws G2 H2 x2 r2=>?_⟩;obtain⟨w,rfl,rw_⟩:=qW r2;cases y with
  |tup xs=>
   obtain⟨ts,hts,hf⟩:=zQ hf;obtain⟨aa,vs,rfl,sq,rs,_⟩:=rw_;have ev:=B9 hts rs;subst ev;by_cases cc:(ts.map (·.length)).sum+ts.length*sep.length<=yR
   ·rw[zP cc]at hf;cases hf;have c':(ts.map (·.length)).sum+ts.length*sep.length<=sizeLine:=by rw[xy]; exact cc
    exact⟨sep,aa,ts,rfl,rfl,sq,c',q _ _ _ (x1.trans x2) ⟨rfl,xO (glued_len sep ts) c'⟩⟩
   ·rw[zV cc]at hf;cases hf
  |_=>cases hf
 |_=>cases hf
end
end L3
namespace L2
open PySem PySem.Spec PyProof PyProof.Rows
theorem dh{X:Cx}{e:Expr}{t:TE}{pos tpos:Pos}{h₀:ExceptHandler}{hs:List ExceptHandler}(hnx:X.tJ=X)(hb:PE X e t):PS X (.Try [.Return (some e) pos] (h₀::hs) [] [] tpos) (Hk t):=by
 intro z8 s σ H F I h;refine wpAny_Try_except (D5 ?_);have qx:=eQ (X:=X) (te:=t) ⟨by rw[hnx]; exact hb⟩;refine wpAny_Return_some (va (qx.h z8 s σ H _ (λ_ _ _=>False) I h) (λu s1 ⟨v,H1,I1,r1,q1⟩=>⟨v,σ,H1,I1,r1,q1⟩) λev s1 z=>?_);obtain⟨H0,s0,I0,a,C,a0,B,H',rfl,ho,hg',fl,xd,hq⟩:=z;exact hq.elim
end L2
namespace L3
open PySem PySem.Spec PyProof PyProof.Rows L2
section
variable{X:Cx}{e o:Expr}{f fo:FE}{pos tpos apos cpos:Pos}{h₀:ExceptHandler}{hs:List ExceptHandler}
theorem lI(hnx:X.tJ=X)(he:SE X e f):SS X (.Try [.Return (some e) pos] (h₀::hs) [] [] tpos) (zr f):=by
 obtain⟨t,p,k⟩:=he.h;refine⟨⟨_,dh hnx p,λ{G0 H0 G H τ σ fl E} K hf q=>?_⟩⟩;obtain⟨d,hd,hf⟩:=zQ hf;cases hf;exact k K hd λv G' H' x r=>q v _ _ (K.ext.trans x) r
theorem i6(ho:SE X o fo)(he:SE X e f)(hbase:attributeBase o "index" X.env (eval o X.env)=eval o X.env:=by rfl)(hline:(apos.endLine==cpos.line)=true:=by rfl)(hs:xJ e=true:=by rfl) :
  SE X (.Call (.Attribute o "index" apos) [e] [] cpos) (e2 Oe fo f):=
 Gx PySem.F.slot_str_index PySem.F.type_str_index Ae (λ{x y d} h=>by
  cases x with
  |str w=>exact⟨w,rfl⟩
  |_=>cases h) (λ{w y d v G H Q} g l h r q=>by
  cases y with
  |str y=>
   have h:(match Builtin.Str.occurrences w y 0 w.length 1 with
    |i::_=>some (D.int (i:Int))
    | []=>none)=some d:=h
   split at h
   ·rename_i i yy hoc;cases h;obtain⟨rfl,_⟩:=r;exact⟨w,y,i,yy,rfl,rfl,hoc,q _ G H (zW.refl g) rfl⟩
   ·cases h
  |_=>cases h) ho he hbase hline hs
end
end L3
namespace L3
open PySem
local macro_rules
 | `(tactic| simp![$ls,*])=>`(tactic| simp only[ya.eq_1,zK.eq_1,zY.eq_1,vX.eq_1,zr.eq_1,gO.eq_1,qZ.eq_1,zt.eq_1,yJ.eq_1,qY.eq_1,Gh.eq_1,wK.eq_1,wm.eq_1,ub.eq_1,ub.eq_2,e1.eq_1,e2.eq_1,eL.eq_1,eC.eq_1,z7.eq_1,vt.eq_1,zB.eq_1,zF.eq_1,tE.eq_1,k5.eq_def,ZO.eq_1,tG.eq_1,ZP.eq_1,F0.eq_1,F3.eq_1,F2.eq_1,qM.eq_1,yq.eq_1,ym.eq_1,g7.eq_1,kx.eq_def,fI.eq_def,wY.eq_def,xE.eq_def,Xk.eq_1,qP.eq_1,yL.eq_1,xR.eq_1,uD.eq_1,g8.eq_1,UJ.eq_1,qN.eq_def,wf.eq_def,xq.eq_def,qO.eq_def,Y5.eq_def,kF.eq_def,ku.eq_def,yD.eq_1,vV.eq_1,vy.eq_1,za.eq_1,g6.eq_1,wx.eq_1,Option.bind_some,Option.bind_none,Ke,Kd,Kr,Kq,xY,qj,pj,gi,xg,gc,Bt,Ko,BW,BV,W_,Wz,Qt,Qu,pZ,Nat.reduceAdd,Nat.reduceSub,Int.reduceLT,Int.reduceLE,Int.reducePow,Int.reduceToNat,Int.reduceAdd,Int.reduceSub,Int.reduceMul,Int.reduceNeg,$ls,*])
noncomputable def Xq:List D:=[(.str "carry"),(.str "nought"),(.str "sign")]
noncomputable def kL:D:=.tup Xq
noncomputable def pJ:List (Sum Int Str):=List.map .inr ["label", "set", "high", "copy", "add", "addc", "sub", "subc", "and", "or", "xor", "test", "left", "right", "load", "store", "loadw", "storew", "jump", "when", "unless", "stop"]
noncomputable def pK:List D:=[(.tup [(.str "name")]),(.tup [(.str "d"),(.str "n")]),(.tup [(.str "d"),(.str "n")]),(.tup [(.str "d"),(.str "s")]),(.tup [(.str "d"),(.str "s")]),(.tup [(.str "d"),(.str "s")]),(.tup [(.str "d"),(.str "s")]),(.tup [(.str "d"),(.str "s")]),(.tup [(.str "d"),(.str "s")]),(.tup [(.str "d"),(.str "s")]),(.tup [(.str "d"),(.str "s")]),(.tup [(.str "d"),(.str "s")]),(.tup [(.str "d"),(.str "n")]),(.tup [(.str "d"),(.str "n")]),(.tup [(.str "d"),(.str "s"),(.str "n")]),(.tup [(.str "d"),(.str "s"),(.str "n")]),(.tup [(.str "d"),(.str "s"),(.str "n")]),(.tup [(.str "d"),(.str "s"),(.str "n")]),(.tup [(.str "name")]),(.tup [(.str "mark"),(.str "name")]),(.tup [(.str "mark"),(.str "name")]),(.tup [])]
noncomputable def Oo:List (Sum Int Str):=List.map .inr ["set", "high", "left", "right", "load", "store", "loadw", "storew"]
noncomputable def Ou:List D:=[(.int 16),(.int 16),(.int 5),(.int 5),(.int 8),(.int 8),(.int 8),(.int 8)]
noncomputable def uF:List (Sum Int Str):=List.map .inr ["kind", "d", "s", "mark", "distance"]
noncomputable def uG:List D:=[(.tup [(.int 27),(.int 5)]),(.tup [(.int 24),(.int 3)]),(.tup [(.int 21),(.int 3)]),(.tup [(.int 24),(.int 2)]),(.tup [(.int 0),(.int 5)])]
noncomputable def pI:List (Sum Int Str):=List.map .inr ["stop", "set", "high", "copy", "add", "addc", "sub", "subc", "and", "or", "xor", "test", "left", "right", "load", "store", "loadw", "storew"]
noncomputable def jF:List D:=[(.int 0),(.int 1),(.int 2),(.int 3),(.int 4),(.int 5),(.int 6),(.int 7),(.int 8),(.int 9),(.int 10),(.int 11),(.int 12),(.int 13),(.int 14),(.int 15),(.int 16),(.int 17)]
noncomputable def Xv:List L2.V:=[.int 0,.int 1,.int 2,.int 3,.int 4,.int 5,.int 6,.int 7,.int 8,.int 9,.int 10,.int 11,.int 12,.int 13,.int 14,.int 15,.int 16,.int 17]
noncomputable def kK:List (Sum Int Str):=List.map .inr ["jump", "when", "unless"]
noncomputable def kN:List D:=[(.int 18),(.int 19),(.int 20)]
noncomputable def Xx:List L2.V:=[.int 18,.int 19,.int 20]
noncomputable def kJ:List (Sum Int Str):=List.map .inr ["jump", "when", "unless"]
noncomputable def kM:List D:=[(.int 21),(.int 22),(.int 23)]
noncomputable def Xw:List L2.V:=[.int 21,.int 22,.int 23]
noncomputable def Op:List D:=[(.int 28),(.int 24),(.int 20),(.int 16),(.int 12),(.int 8),(.int 4),(.int 0)]
noncomputable def YE:D:=.tup Op
noncomputable def Dd:FS:=
 (zK (zt (tE (e2 (xE λi j=>decide (i<j)) (z7 1) (eL xq (zB (z7 0) zF))))
   (zr (e2 zI (z7 0) (z7 1)))
   yJ)
  (zr (eC (.int 0))))
theorem SV(ns:List Int)(k:Nat):(ns.map D.int)[k]?=(ns[k]?).map D.int:=wM
noncomputable def uW(ns:List Int)(k:Int):Int:=ns.getD k.toNat 0
noncomputable def ux:List D->Option (Bool×D)
 | [.lst xs,.int k]=>if 0<=k then((xs[k.toNat]?).getD (.int 0) |> λd=>some (false,d))else none
 |_=>none
theorem Y4(ns:List Int){k:Int}(h:0<=k):ux [.lst (ns.map D.int),.int k]=some (false,.int (uW ns k)):=by
 show(if 0<=k then _ else _)=_;rw[zP h,SV];unfold uW;rw[vF];cases ns[k.toNat]?<;>rfl
theorem fL:∀ds r,ux ds=some r->ds.length=2/\ya 2 Dd ds=some r:=λds r h=>by
 unfold ux at h
 split at h
 ·rename_i xs k;refine⟨rfl,?_⟩;by_cases h0:0<=k
  ·rw[zP h0]at h;cases h;unfold Dd;by_cases c:k<(xs.length:Int)
   ·have e:zI (.lst xs) (.int k)=some ((xs[k.toNat]?).getD (.int 0)):=by
     show vH xs k=_;unfold vH;rw[zP h0,yf (by omega)];rfl
    simp![yb c,e]
   ·have e:xs[k.toNat]?=none:=pp (by omega);simp![yV c,e,Option.getD]
  ·rw[zV h0]at h;cases h
 ·cases h
noncomputable def lt(k:Int):Str:=⟨#[97+k.toNat]⟩
theorem NH{k:Int}(h0:0<=k)(h1:k<26):vH ("abcdefghijklmnopqrstuvwxyz" : Str).cps.toList k=some (97+k.toNat):=by
 have h:∀j:Fin 26,vH ("abcdefghijklmnopqrstuvwxyz" : Str).cps.toList (j.val:Int)=some (97+j.val):=by decide +kernel
 have:=h ⟨k.toNat,by omega⟩;rw[show((⟨k.toNat,by omega⟩:Fin 26).val:Int)=k by show(k.toNat:Int)=k; omega]at this;exact this
theorem Ir{k:Int}(h0:0<=k)(h1:k<26):zI (.str "abcdefghijklmnopqrstuvwxyz") (.int k)=some (.str (lt k)):=by
 show(vH _ k).bind _=_;rw[NH h0 h1];rfl
theorem add_str{a b:Str}(h:a.length+b.length<=100000):zm (.str a) (.str b)=some (.str (a++b)):=by
 show(if a.length+b.length<=yR then _ else _)=_;rw[zP (by show _<=16777216; omega)]
theorem ye(a b:Str):(a++b).length=a.length+b.length:=Qs
theorem Tf(k:Int):(lt k).length=1:=rfl
theorem WC{g:FG}{c:FT}{e:FE}{σ:yT}(p:D->Bool)(v:D->D):∀{ds:List D},(∀d∈ds,∃σ1,g d σ=some σ1/\c σ1=some (p d)/\(p d=true->e σ1=some (v d)))->xI g c e σ ds=some ((ds.filter p).map v)
 | [],_=>rfl
 |d::ds,h=>by
  obtain⟨σ1,e1,e2,e3⟩:=h d (xh ..);have ih:=WC p v (ds:=ds) λx hx=>h x (wN _ hx)
  show(g d σ).bind _=_;rw[e1];show(c σ1).bind _=_;rw[e2];cases hp:p d with
  |false=>
   rw[Yt (by rw[hp]; decide)];exact ih
  |true=>
   rw[gb hp];show(e σ1).bind _=_;rw[e3 hp];show(xI g c e σ ds).bind _=_;rw[ih];rfl
theorem Ta{g:FG}{e:FE}{σ:yT}(v:D->D){ds:List D}(h:∀d∈ds,∃σ1,g d σ=some σ1/\e σ1=some (v d)):xI g xP e σ ds=some (ds.map v):=by
 have:=WC (g:=g) (c:=xP) (e:=e) (σ:=σ) (λ_=>true) v (ds:=ds) λd hd=>by
  obtain⟨σ1,a,b⟩:=h d hd;exact⟨σ1,a,rfl,λ_=>b⟩
 rw[this,List.filter_eq_self.mpr (λ_ _=>rfl)]
inductive uv(R:D->D->Prop):List D->List D->Prop
 |nil:uv R [] []
 |cons {x y:D} {xs ys:List D}:R x y->uv R xs ys->uv R (x::xs) (y::ys)
theorem CA{g:FG}{e:FE}{σ:yT}(R:D->D->Prop):∀{ds:List D},(∀d∈ds,∃σ1 x,g d σ=some σ1/\e σ1=some x/\R d x)->∃xs,xI g xP e σ ds=some xs/\uv R ds xs
 | [],_=>⟨[],rfl,.nil⟩
 |d::ds,h=>by
  obtain⟨σ1,x,e1,e2,r⟩:=h d (xh ..);obtain⟨xs,ih,rs⟩:=CA R (ds:=ds) λx hx=>h x (wN _ hx)
  refine⟨x::xs,?_,.cons r rs⟩;show(g d σ).bind _=_;rw[e1];show(e σ1).bind _=_;rw[e2];show(xI g xP e σ ds).bind _=_;rw[ih];rfl
theorem ZQ{n i:Nat}{d:D}(h:(wo n)[i]?=some d):i<n/\d=.int (i:Int):=by
 have hi:i<n:=by
  have:=(xT.mp h).1;simpa using this
 refine⟨hi,?_⟩;simp[hi]at h;exact h.symm
theorem H_{n:Nat}{d:D}(h:d∈wo n):∃i:Nat,i<n/\d=.int (i:Int):=by
 obtain⟨i,hi,e⟩:=Ki h;exact⟨i,(ZQ (xT.mpr ⟨hi,e⟩))⟩
theorem Yn(n:Nat):(wo n).length=n:=by simp
theorem DZ{α:Type}(xs:List α)(a:α):vH (xs++[a]) (-1)=some a:=by
 unfold vH;rw[zV (by decide),zP (by rw[xC,J6]; omega)];rw[show((-1:Int)+((xs++[a]).length:Nat)).toNat=xs.length by rw[xC,J6]; omega];simp
theorem qK{α:Type}{xs:List α}{i:Int}{a:α}(h0:0<=i)(h:xs[i.toNat]?=some a):vH xs i=some a:=by
 unfold vH;rw[zP h0,h]
noncomputable def uJ:Nat->D->Bool
 |0,_=>false
 |n+1,.tup xs=>xs.all (uJ n)
 |n+1,.lst xs=>xs.all (uJ n)
 |_+1,d=>yY d
theorem OS{f:D->D->Bool}:∀{xs:List D},(∀x∈xs,f x x=true)->t5 f xs xs=true
 | [],_=>rfl
 |x::xs,h=>by
  show(f x x&&t5 f xs xs)=true;rw[h x (xh ..),OS λy hy=>h y (wN _ hy)];rfl
theorem OV:∀{xs:List D},(∀x∈xs,yt x x=true)->dEqs xs xs=true
 | [],_=>by unfold dEqs; rfl
 |x::xs,h=>by
  unfold dEqs;rw[h x (xh ..),OV λy hy=>h y (wN _ hy)];rfl
theorem WI:∀(n:Nat)(d:D),uJ n d=true->vJ n d d=true/\yt d d=true
 |0,_,h=>by cases h
 |n+1,d,h=>by
  cases d with
  |tup xs=>
   have h':∀x∈xs,uJ n x=true:=u5.mp h;exact⟨OS λx hx=>(WI n x (h' x hx)).1,by unfold yt; exact OV λx hx=>(WI n x (h' x hx)).2⟩
  |lst xs=>
   have h':∀x∈xs,uJ n x=true:=u5.mp h;exact⟨OS λx hx=>(WI n x (h' x hx)).1,by unfold yt; exact OV λx hx=>(WI n x (h' x hx)).2⟩
  |dic ks vs=>cases h
  |exc _=>cases h
  |obj _ _ _=>cases h
  |zD=>exact⟨rfl,by unfold yt; rfl⟩
  |bl b=>exact⟨rfl,by unfold yt; exact Y_ b⟩
  |int i=>exact⟨rfl,by unfold yt; exact Y_ i⟩
  |str z=>exact⟨rfl,by unfold yt; exact Y_ z⟩
theorem FC{d:D}(h:uJ 6 d=true):jC d d=some true:=by
 obtain⟨h1,h2⟩:=WI 6 d h
 have e:jC d d=match vJ 6 d d with
  |true=>some (yt d d)
  |false=>none:=by cases d<;>rfl
 rw[e,h1,h2]
theorem RF{d:D}(h:uJ 6 d=true):zo d d=some (.bl true):=by
 unfold zo;rw[FC h];rfl
theorem LK{d:D}(h:uJ 6 d=true):xA d d=some (.bl false):=by
 unfold xA;rw[FC h];rfl
theorem pN{i j:Int}(h:i=j):zo (.int i) (.int j)=some (.bl true):=by
 subst h;show some (D.bl (i==i))=_;rw[Y_]
theorem t9{i j:Int}(h:i≠j):zo (.int i) (.int j)=some (.bl false):=by
 show some (D.bl (i==j))=_;rw[JE.mpr h]
theorem add_int{i j:Int}:zm (.int i) (.int j)=some (.int (i+j)):=rfl
theorem QL:∀ts:List Str,pX (ts.map D.str)=some ts
 | []=>rfl
 |t::ts=>by
  show(pX (ts.map D.str)).bind _=_;rw[QL ts];rfl
theorem Sm{sep:Str}{ts:List Str}(h:(ts.map (·.length)).sum+ts.length*sep.length<=1000000):uX (.str sep) (.lst (ts.map D.str))=some (.str (Builtin.Str.glued sep ts)):=by
 show(pX (ts.map D.str)).bind _=_;rw[QL];show(if _<=yR then _ else _)=_;rw[zP (by show _<=16777216; omega)]
theorem cut_len(z:Str)(lo hi:Option Int):(L2.cutS z lo hi).length<=z.length:=by
 show((z.cps.toList.drop _).take _).toArray.size<=z.cps.size;simp only[yo,qi,Yv,uq];omega
theorem RU{α:Type}{k:Sum Int Str}{v:α}:∀{ks:List (Sum Int Str)} {vs:List α},ks.length=vs.length->∀k',getK (uh ks k) (vW ks vs k v) k'=if k=k' then some v else getK ks vs k':=by
 have one:∀{ks:List (Sum Int Str)} {vs:List α},ks.length=vs.length->∀k',wB ks k=true->getK ks (List.zipWith (λk' x=>if k'=k then v else x) ks vs) k'=if k=k' then some v else getK ks vs k':=by
  intro ks
  induction ks with
  |nil=>intro vs _ k' h; cases h
  |cons a ks ih=>
   intro vs hl k' h;cases vs with
   |nil=>cases hl
   |cons b vs=>
    rw[ql];unfold getK;by_cases e1:a=k
    ·subst e1;by_cases e2:a=k'
     ·rw[zP e2,zP e2,zP rfl]
     ·rw[zV e2,zV e2,zV e2];by_cases e3:wB ks a=true
      ·have:=ih (vs:=vs) (by simpa using hl) k' e3;rw[this,zV e2]
      ·have:∀{ks:List (Sum Int Str)} {vs:List α},ks.length=vs.length->wB ks a=false->getK ks (List.zipWith (λk' x=>if k'=a then v else x) ks vs) k'=getK ks vs k':=by
        intro ks
        induction ks with
        |nil=>intro vs _ _; rfl
        |cons a' ks ih'=>
         intro vs hl h;cases vs with
         |nil=>cases hl
         |cons b vs=>
          have h2:decide (a'=a)=false/\wB ks a=false:=by
           have:(decide (a'=a)||wB ks a)=false:=h;exact Bool.or_eq_false_iff.mp this
          rw[ql];unfold getK;rw[zV (JG h2.1),ih' (by simpa using hl) h2.2]
       exact this (by simpa using hl) (by simpa using e3)
    ·have h2:wB ks k=true:=by
      have:(decide (a=k)||wB ks k)=true:=h;rw[yV e1]at this;exact this
     have:=ih (vs:=vs) (by simpa using hl) k' h2;rw[this,zV e1];by_cases e2:a=k'
     ·rw[zP e2];rw[zV (λe=>e1 (e2.trans e.symm)),zP e2]
     ·rw[zV e2];by_cases e3:k=k'
      ·rw[zP e3,zP e3]
      ·rw[zV e3,zV e3,zV e2]
 intro ks vs hl k';unfold uh vW;by_cases h:wB ks k=true
 ·rw[zP h,zP h];exact one hl k' h
 ·rw[zV h,zV h];clear one
  induction ks generalizing vs with
  |nil=>
   cases vs with
   |nil=>rfl
   |cons _ _=>cases hl
  |cons a ks ih=>
   cases vs with
   |nil=>cases hl
   |cons b vs=>
    have h2:¬ a=k/\¬ wB ks k=true:=by
     have:¬ (decide (a=k)||wB ks k)=true:=h
     constructor
     ·intro e; exact this (by rw[yb e]; rfl)
     ·intro e; exact this (by rw[e,Bool.or_true])
    rw[pj,pj];show(if a=k' then some b else getK (ks++[k]) (vs++[v]) k')=if k=k' then some v else if a=k' then some b else getK ks vs k'
    rw[ih (by simpa using hl) h2.2];by_cases e:a=k'
    ·rw[zP e,zP e];rw[zV (λe'=>h2.1 (e.trans e'.symm))]
    ·rw[zV e,zV e]
theorem k4{L M:List D}(h:L.length+M.length<=1000):zm (.lst L) (.lst M)=some (.lst (L++M)):=by
 show(if L.length+M.length<=yR then _ else _)=_;rw[zP (by show _<=16777216; omega)]
theorem CU(xs:List D):xA (.lst xs) (.lst [])=some (.bl (!xs.isEmpty)):=by
 cases xs with
 |nil=>exact LK (d:=.lst []) rfl
 |cons x r=>
  have e:yt (.lst (x::r)) (.lst [])=false:=by unfold yt; unfold dEqs; rfl
  show(some (yt (.lst (x::r)) (.lst []))).bind _=_;rw[e];rfl
theorem OO:∀(n:Nat){l:List Nat},l.Nodup->(∀x∈l,x<n)->l.length<=n
 |0,l,_,h=>by
  cases l with
  |nil=>exact y0 _
  |cons x r=>exact absurd (h x (xh ..)) (Nat.not_lt_zero _)
 |n+1,l,hd,h=>by
  by_cases hm:n∈l
  ·have h1:=OO n (hd.erase n) λx hx=>by
    have:=(hd.mem_erase_iff).mp hx;have:=h x this.2;omega
   rw[List.length_erase_of_mem hm]at h1;omega
  ·have h1:=OO n hd λx hx=>by
    have h2:=h x hx;have h3:x≠n:=λe=>hm (e▸hx)
    omega
   omega
theorem qU{x y:D}{b:Bool}(h:zo x y=some (.bl b)):xA x y=some (.bl (!b)):=by
 unfold zo at h;unfold xA;cases e:jC x y with
 |none=>rw[e]at h; cases h
 |some k=>
  rw[e]at h;cases h;rfl
theorem NU{n y l w:Nat}(hn:n<2 ^ w)(hy:y/2 ^ l%2 ^ w=0):(y &&& (n*2 ^ l))=0:=by
 apply Ku;intro i;rw[Nat.testBit_and,Nat.zero_testBit];rw[Bx];by_cases hl:l<=i
 ·by_cases hi:i-l<w
  ·have e:y.testBit i=(y/2 ^ l%2 ^ w).testBit (i-l):=by
    rw[Kw,Kv,yb hi,pZ,Bw hl]
   rw[e,hy,Nat.zero_testBit,u4]
  ·have:n.testBit (i-l)=false:=Nat.testBit_lt_two_pow (wW hn (Nat.pow_le_pow_right (by decide) (by omega)));rw[this]; simp
 ·simp[hl]
theorem NT(x l w:Nat):(x &&& ((2 ^ w-1)*2 ^ l))=x/2 ^ l%2 ^ w*2 ^ l:=by
 apply Ku;intro i;rw[Nat.testBit_and,Bx,Bx,Nat.testBit_two_pow_sub_one,Kw,Kv];by_cases hl:l<=i
 ·simp[hl,Bw hl];rw[Bool.and_comm]
 ·simp[hl]
theorem P7(l w:Nat):(((1:Int)*2 ^ w-1)*2 ^ l)=(((2 ^ w-1)*2 ^ l:Nat):Int):=by
 have h:1<=2 ^ w:=Nat.one_le_two_pow;rw[Int.natCast_mul,Int.natCast_sub h];simp
theorem Nk{x:Int}(hx:0<=x)(l w:Nat):Builtin.bitAnd x (((1:Int)*2 ^ w-1)*2 ^ l)=x/2^l%2^w*2^l:=by
 obtain⟨n,rfl⟩:=jS hx;rw[P7,Ky (Wq _) (Wq _),wH,wH,NT];simp
theorem Nj{y n:Int}{l w:Nat}(hy:0<=y)(hn:0<=n)(hn2:n<2 ^ w)(hz:y/2 ^ l%2 ^ w=0):Builtin.bitAnd y (n*2 ^ l)=0:=by
 obtain⟨a,rfl⟩:=jS hy;obtain⟨b,rfl⟩:=jS hn;have e:(b:Int)*2 ^ l=((b*2 ^ l:Nat):Int):=by simp
 have h1:b<2 ^ w:=by
  have:((2 ^ w:Nat):Int)=(2:Int) ^ w:=by simp
  omega
 have h2:a/2 ^ l%2 ^ w=0:=by
  have:((a/2 ^ l%2 ^ w:Nat):Int)=(a:Int)/2 ^ l%2 ^ w:=by simp
  omega
 rw[e,Ky (Wq _) (Wq _),wH,wH,NU h1 h2];rfl
theorem PM{x p r:Int}(hx:0<=x)(hp:0<p)(hr:0<r):0<=x-x/p%r*p/\(x-x/p%r*p)/p%r=0/\(x-x/p%r*p)/p/r=x/p/r/\(x-x/p%r*p)%p=x%p:=by
 have h0:0<=x/p:=Int.ediv_nonneg hx (ZW hp);have e1:x-x/p%r*p=x+p*(-(x/p%r)):=by rw[Int.mul_neg,Int.mul_comm p]; omega
 have e2:(x-x/p%r*p)/p=x/p-x/p%r:=by rw[e1,Int.add_mul_ediv_left _ _ (Be hp)]; omega
 have e3:x/p-x/p%r=r*(x/p/r):=by have:=KY (x/p) r; omega
 refine⟨?_,?_,?_,?_⟩
 ·have h1:x/p%r<=x/p:=by
   have:=KY (x/p) r;have h2:0<=x/p/r:=Int.ediv_nonneg h0 (ZW hr);have h3:0<=r*(x/p/r):=Int.mul_nonneg (ZW hr) h2;omega
  have h4:x/p%r*p<=x/p*p:=Int.mul_le_mul_of_nonneg_right h1 (ZW hp);have h5:=Int.ediv_mul_le x (Be hp);omega
 ·rw[e2,e3]; exact KZ _ _
 ·rw[e2,e3]; exact Int.mul_ediv_cancel_left _ (Be hr)
 ·rw[e1]; exact Int.add_mul_emod_self_left ..
theorem Ej(x:Int)(w:Nat):Builtin.bitAnd x ((1:Int)*2 ^ w-1)=x%2 ^ w:=by
 rw[Int.one_mul,W.kbt_mask]
theorem sW{x n:Int}{l w:Nat}(hx:0<=x)(hn:0<=n)(hn2:n<2 ^ w):Builtin.bitOr (Builtin.bitAnd x (Builtin.bitNot (((1:Int)*2 ^ w-1)*2 ^ l))) (n*2 ^ l)=x+(n-x/2 ^ l%2 ^ w)*2 ^ l:=by
 have hp:(0:Int)<2 ^ l:=Ws (by decide);have hr:(0:Int)<2 ^ w:=Ws (by decide);obtain⟨c0,c1,_,_⟩:=PM hx hp hr;rw[PyProof.Rows.bitAnd_not,Nk hx,PyProof.Rows.bitOr_and,Nj c0 hn hn2 c1,Int.sub_mul];omega
theorem Lh{a b c d i:Int}(h0:0<=i)(h1:i<4):∃n,(n=a\/n=b\/n=c\/n=d)/\zI (.lst [.int a,.int b,.int c,.int d]) (.int i)=some (.int n):=by
 rcases(show i=0\/i=1\/i=2\/i=3 by omega)with rfl|rfl|rfl|rfl
 ·exact⟨a,by simp,rfl⟩
 ·exact⟨b,by simp,rfl⟩
 ·exact⟨c,by simp,rfl⟩
 ·exact⟨d,by simp,rfl⟩
theorem dG{a b c i:Int}(h0:0<=i)(h1:i<3):∃n,(n=a\/n=b\/n=c)/\zI (.lst [.int a,.int b,.int c]) (.int i)=some (.int n):=by
 rcases(show i=0\/i=1\/i=2 by omega)with rfl|rfl|rfl
 ·exact⟨a,by simp,rfl⟩
 ·exact⟨b,by simp,rfl⟩
 ·exact⟨c,by simp,rfl⟩
inductive uU:D->Prop
 |stop:uU (.tup [.str "stop"])
 |X5 {w:Str} {d n:Int} (hw:w = "set" \/ w = "high") (d0:0<=d) (d1:d<8) (n0:0<=n) (n1:n<65536):uU (.tup [.str w,.int d,.int n])
 |two {w:Str} {d s:Int} (hw:w = "copy" \/ w = "add" \/ w = "addc" \/ w = "sub" \/ w = "subc" \/ w = "and" \/ w = "or" \/ w = "xor" \/ w = "test") (d0:0<=d) (d1:d<8) (s0:0<=s) (s1:s<8):uU (.tup [.str w,.int d,.int s])
 |X7 {w:Str} {d n:Int} (hw:w = "left" \/ w = "right") (d0:0<=d) (d1:d<8) (n0:0<=n) (n1:n<32):uU (.tup [.str w,.int d,.int n])
 |mem {w:Str} {d s n:Int} (hw:w = "load" \/ w = "store" \/ w = "loadw" \/ w = "storew") (d0:0<=d) (d1:d<8) (s0:0<=s) (s1:s<8) (n0:0<=n) (n1:n<256):uU (.tup [.str w,.int d,.int s,.int n])
inductive j9(m:Int):D->Prop
 |j2 {p:Int} (p0:0<=p) (p1:p<=m):j9 m (.tup [.str "jump",.int p])
 |cond {w k:Str} {p:Int} (hw:w = "when" \/ w = "unless") (hk:k = "carry" \/ k = "nought" \/ k = "sign") (p0:0<=p) (p1:p<=m):j9 m (.tup [.str w,.str k,.int p])
noncomputable def vG(m:Int)(d:D):Prop:=uU d\/j9 m d
theorem xW{a:D}{r:List D}:zI (.tup (a::r)) (.int 0)=some a:=rfl
noncomputable def xK:D->Bool
 |.tup (.str w::_)=>w == "jump" || w == "when" || w == "unless"
 |_=>false
noncomputable def pQ:D->D
 |.tup xs=>(vH xs (-1)).getD .zD
 |_=>.zD
noncomputable def TC:D:=.tup [.str "jump",.str "when",.str "unless"]
theorem jL{d:D}(h:uU d):∃w,zI d (.int 0)=some (.str w)/\yu (.str w) TC=some (.bl false)/\zo (.str w) (.str "label")=some (.bl false)/\xK d=false/\uJ 5 d=true:=by
 cases h with
 |stop=>exact⟨_,rfl,rfl,rfl,rfl,rfl⟩
 |X5 hw=>rcases hw with rfl|rfl<;>exact⟨_,rfl,rfl,rfl,rfl,rfl⟩
 |two hw=>rcases hw with rfl|rfl|rfl|rfl|rfl|rfl|rfl|rfl|rfl<;>exact⟨_,rfl,rfl,rfl,rfl,rfl⟩
 |X7 hw=>rcases hw with rfl|rfl<;>exact⟨_,rfl,rfl,rfl,rfl,rfl⟩
 |mem hw=>rcases hw with rfl|rfl|rfl|rfl<;>exact⟨_,rfl,rfl,rfl,rfl,rfl⟩
theorem qS{m:Int}{d:D}(h:j9 m d):∃(w:Str) (p:Int),zI d (.int 0)=some (.str w)/\yu (.str w) TC=some (.bl true)/\zo (.str w) (.str "label")=some (.bl false)/\xK d=true/\uJ 5 d=true/\zI d (.int (-1))=some (.int p)/\pQ d=.int p/\0<=p/\p<=m:=by
 cases h with
 |j2 p0 p1=>exact⟨_,_,rfl,rfl,rfl,rfl,rfl,rfl,rfl,p0,p1⟩
 |cond hw hk p0 p1=>rcases hw with rfl|rfl<;>rcases hk with rfl|rfl|rfl<;>exact⟨_,_,rfl,rfl,rfl,rfl,rfl,rfl,rfl,p0,p1⟩
noncomputable def wS(rows:List D):List Nat:=(List.range rows.length).filter λi=>xK (rows.getD i .zD)
theorem W7{rows:List D}{i:Nat}(h:i∈wS rows):i<rows.length/\xK (rows.getD i .zD)=true:=by
 obtain⟨a,b⟩:=qk.mp h;exact⟨tz.mp a,b⟩
noncomputable def wR:D->Bool
 |.tup (.str w::_)=>w == "label"
 |_=>false
noncomputable def ua(t:Str):D:=.tup [.str "label",.str t]
theorem Gf{m:Int}{d:D}(h:vG m d):∃w,zI d (.int 0)=some (.str w)/\zo (.str w) (.str "label")=some (.bl false)/\wR d=false/\uJ 5 d=true:=by
 rcases h with h|h
 ·cases h with
  |stop=>exact⟨_,rfl,rfl,rfl,rfl⟩
  |X5 hw=>rcases hw with rfl|rfl<;>exact⟨_,rfl,rfl,rfl,rfl⟩
  |two hw=>rcases hw with rfl|rfl|rfl|rfl|rfl|rfl|rfl|rfl|rfl<;>exact⟨_,rfl,rfl,rfl,rfl⟩
  |X7 hw=>rcases hw with rfl|rfl<;>exact⟨_,rfl,rfl,rfl,rfl⟩
  |mem hw=>rcases hw with rfl|rfl|rfl|rfl<;>exact⟨_,rfl,rfl,rfl,rfl⟩
 ·cases h with
  |j2=>exact⟨_,rfl,rfl,rfl,rfl⟩
  |cond hw hk=>rcases hw with rfl|rfl<;>rcases hk with rfl|rfl|rfl<;>exact⟨_,rfl,rfl,rfl,rfl⟩
noncomputable def aX(t:Str):D->Bool
 |.tup [_,.str u]=>u==t
 |_=>false
noncomputable def gI(t:Str)(s:Nat×Option Nat)(d:D):Nat×Option Nat:=match wR d with
 |true=>(s.1,match aX t d with
  |true=>some s.1
  |false=>s.2)
 |false=>(s.1+1,s.2)
noncomputable def vD(t:Str)(L:List D):Nat×Option Nat:=L.foldl (gI t) (0,none)
theorem Ev(t:Str)(L:List D)(d:D):vD t (L++[d])=gI t (vD t L) d:=by
 unfold vD;rw[List.foldl_append];rfl
theorem Eu(t:Str):∀(L:List D)(s:Nat×Option Nat),(L.foldl (gI t) s).1=s.1+(L.filter λd=>!wR d).length
 | [],_=>rfl
 |d::L,s=>by
  rw[ZX,Eu t L];unfold gI;cases h:wR d with
  |true=>rw[Yt (by rw[h]; decide)]
  |false=>
   rw[gb (by rw[h]; rfl),xg];show s.1+1+_=_;omega
theorem Lj(t u:Str)(L:List D):(vD t (L++[ua u])).2=if u=t then some (L.filter λd=>!wR d).length else(vD t L).2:=by
 rw[Ev];have h:=Eu t L (0,none);show(match(u==t)with|true=>some (vD t L).1|false=>(vD t L).2)=_;by_cases e:u=t
 ·rw[zP e,JF.mpr e];show some (vD t L).1=_;rw[show(vD t L).1=_ from h,wq]
 ·rw[zV e,JE.mpr e]
theorem dS{t:Str}{L:List D}{d:D}(h:wR d=false):(vD t (L++[d])).2=(vD t L).2:=by
 rw[Ev];unfold gI;rw[h]
theorem vq{L:List D}{r:D}(h:L.length<=1000):xj (.lst L) r=some (.lst (L++[r])):=by
 show(if L.length<yR then _ else _)=_;rw[zP (by show _<16777216; omega)]
inductive gw:D->Prop
 |label (t:Str):gw (ua t)
 |plain {d:D}:uU d->gw d
 |j2 (t:Str):gw (.tup [.str "jump",.str t])
 |cond {w k:Str} (t:Str) (hw:w = "when" \/ w = "unless") (hk:k = "carry" \/ k = "nought" \/ k = "sign"):gw (.tup [.str w,.str k,.str t])
noncomputable def NB(x y:D):Prop:=(xK x=false->y=x)/\(xK x=true->∃(h:List D) (a:D) (t:Str),x=.tup (h++[a])/\y=.tup (h++[.str t]))
theorem Sb{x:D}(h:wR x=true):xK x=false:=by
 unfold wR at h
 split at h
 ·rename_i w r;have e:w = "label" := by simpa using h
  subst e;rfl
 ·cases h
noncomputable def gv(L:List D)(x y:D):Prop:=gw y/\wR y=wR x/\NB x y/\xK y=xK x/\(xK x=true->∃(t:Str) (p:Nat),zI y (.int (-1))=some (.str t)/\(vD t L).2=some p/\pQ x=.int (p:Int))
theorem F6{R:D->D->Prop}:∀{xs ys:List D},uv R xs ys->xs.length=ys.length
 |_,_,.nil=>rfl
 |_,_,.cons _ r=>by rw[xg,xg,F6 r]
theorem F7{R:D->D->Prop}:∀{xs ys:List D},uv R xs ys->∀y∈ys,∃x∈xs,R x y
 |_,_,.nil,_,h=>by cases h
 |x::xs,y::ys,.cons r rs,z,hz=>by
  rcases xN.mp hz with rfl|hz
  ·exact⟨x,xh ..,r⟩
  ·obtain⟨w,hw,h⟩:=F7 rs z hz;exact⟨w,wN _ hw,h⟩
theorem F5{R R':D->D->Prop}(h:∀x y,R x y->R' x y):∀{xs ys:List D},uv R xs ys->uv R' xs ys
 |_,_,.nil=>.nil
 |_,_,.cons r rs=>.cons (h _ _ r) (F5 h rs)
theorem FH{L0:List D}:∀{xs ys:List D},uv (gv L0) xs ys->uv (gv L0) (xs.filter λd=>!wR d) (ys.filter λd=>!wR d)
 |_,_,.nil=>.nil
 |x::xs,y::ys,.cons r rs=>by
  have a:=FH rs;cases h:wR x with
  |true=>
   rw[Yt (p:=λd=>!wR d) (a:=y) (by rw[r.2.1,h]; decide),Yt (p:=λd=>!wR d) (a:=x) (by rw[h]; decide)];exact a
  |false=>
   rw[gb (p:=λd=>!wR d) (a:=y) (by rw[r.2.1,h]; rfl),gb (p:=λd=>!wR d) (a:=x) (by rw[h]; rfl)];exact .cons r a
theorem FI{L0:List D}(t:Str):∀{xs ys:List D}(s:Nat×Option Nat),uv (gv L0) xs ys->ys.foldl (gI t) s=xs.foldl (gI t) s
 |_,_,_,.nil=>rfl
 |x::xs,y::ys,s,.cons r rs=>by
  rw[ZX,ZX,FI t _ rs]
  congr 1
  unfold gI;rw[r.2.1];cases h:wR x with
  |true=>rw[r.2.2.1.1 (Sb h)]
  |false=>rfl
noncomputable def O6:FS:=
 (zr (e2 yL (e2 uD (e2 yL (e2 zm (e2 qP (z7 0) (eC (.int 48271))) (e2 qP (e2 zm (z7 1) (eC (.int 1))) (eC (.int 1299721)))) (eC (.int 2147483647))) (eC (.int 5))) (eC (.int 2147483647))))
noncomputable def v7:List D->Option (Bool×D):=FR 2 2 O6
theorem Rh(x0 x1:D):v7 [x0,x1]=ya 2 O6 [x0,x1]:=rfl
noncomputable def k9:FS:=
 (zK (zY 1 (e2 yL (z7 0) (eC (.int 18))))
  (zK (zY 2 (e2 yL (e2 xR (z7 0) (eC (.int 18))) (eC (.int 8))))
  (zK (zY 3 (e2 yL (e2 xR (z7 0) (eC (.int 144))) (eC (.int 8))))
  (zK (zY 4 (e2 xR (z7 0) (eC (.int 1152))))
  (zK (zt (tE (e2 zo (z7 1) (eC (.int 0))))
   (zr (yq (zB (eC (.str "stop")) zF)))
   yJ)
  (zK (zt (tE (e2 (xE λi j=>decide (i<j)) (z7 1) (eC (.int 3))))
   (zr (yq (zB (e2 zI (ym (zB (eC (.str "set")) (zB (eC (.str "high")) zF))) (e2 wY (z7 1) (eC (.int 1)))) (zB (z7 2) (zB (e2 zI (ym (zB (e2 yL (z7 4) (eC (.int 65536))) (zB (eC (.int 0)) (zB (eC (.int 65535)) (zB (e2 yL (z7 4) (eC (.int 9))) zF))))) (e2 yL (e2 xR (z7 4) (eC (.int 65536))) (eC (.int 4)))) zF)))))
   yJ)
  (zK (zt (tE (e2 (xE λi j=>decide (i<j)) (z7 1) (eC (.int 12))))
   (zr (yq (zB (e2 zI (ym (zB (eC (.str "copy")) (zB (eC (.str "add")) (zB (eC (.str "addc")) (zB (eC (.str "sub")) (zB (eC (.str "subc")) (zB (eC (.str "and")) (zB (eC (.str "or")) (zB (eC (.str "xor")) (zB (eC (.str "test")) zF)))))))))) (e2 wY (z7 1) (eC (.int 3)))) (zB (z7 2) (zB (z7 3) zF)))))
   yJ)
  (zK (zt (tE (e2 (xE λi j=>decide (i<j)) (z7 1) (eC (.int 14))))
   (zr (yq (zB (e2 zI (ym (zB (eC (.str "left")) (zB (eC (.str "right")) zF))) (e2 wY (z7 1) (eC (.int 12)))) (zB (z7 2) (zB (e2 zI (ym (zB (e2 yL (z7 4) (eC (.int 32))) (zB (eC (.int 0)) (zB (eC (.int 31)) (zB (eC (.int 1)) zF))))) (e2 yL (e2 xR (z7 4) (eC (.int 32))) (eC (.int 4)))) zF)))))
   yJ)
  (zr (yq (zB (e2 zI (ym (zB (eC (.str "load")) (zB (eC (.str "store")) (zB (eC (.str "loadw")) (zB (eC (.str "storew")) zF))))) (e2 wY (z7 1) (eC (.int 14)))) (zB (z7 2) (zB (z7 3) (zB (e2 zI (ym (zB (e2 yL (z7 4) (eC (.int 256))) (zB (eC (.int 0)) (zB (eC (.int 255)) zF)))) (e2 yL (e2 xR (z7 4) (eC (.int 256))) (eC (.int 3)))) zF))))))))))))))
noncomputable def Zr:List D->Option (Bool×D):=FR 1 5 k9
theorem Xu(x0:D):Zr [x0]=ya 5 k9 [x0]:=rfl
noncomputable def wC(c k:Int):Int:=((c*48271+(k+1)*1299721)%2147483647) ^ 5%2147483647
theorem Z8{i j:Int}(h0:0<=j)(h1:j<64)(h2:0<=i)(h3:i<2 ^ 64):wJ i j=true:=by
 unfold wJ;rw[yb h0,yb (show j<=1000000 by omega),yb (show i.natAbs<2 ^ 64 by omega)];rfl
theorem pS(c k:Int):v7 [.int c,.int k]=some (false,.int (wC c k)):=by
 have h0:=Bb (c*48271+(k+1)*1299721) (show(2147483647:Int)≠0 by decide);have h1:=Ba (c*48271+(k+1)*1299721) (show(0:Int)<2147483647 by decide);have hp:=Z8 (i:=(c*48271+(k+1)*1299721)%2147483647) (j:=5) (by decide) (by decide) h0 (by omega);have l1:vC 48271=true/\vC 1299721=true:=⟨by decide,by decide⟩;rw[Rh];unfold O6;simp![add_int,l1,hp];rfl
theorem fE(c:Int):∃r,Zr [.int c]=some (false,r)/\uU r:=by
 have d0:0<=c/18%8:=by omega
 have d1:c/18%8<8:=by omega
 have s0:0<=c/144%8:=by omega
 have s1:c/144%8<8:=by omega
 by_cases h0:c%18=0
 ·refine⟨_,?_,.stop⟩;rw[Xu];unfold k9;simp![h0,pN]
 ·by_cases h3:c%18<3
  ·obtain⟨n,hn,e⟩:=Lh (a:=c/1152%65536) (b:=0) (c:=65535) (d:=c/1152%9) (i:=c/1152/65536%4) (by omega) (by omega)
   obtain⟨w,hw,ew⟩:∃w:Str,(w = "set" \/ w = "high")/\zI (.lst [.str "set",.str "high"]) (.int (c%18-1))=some (.str w):=by
    rcases(show c%18=1\/c%18=2 by omega)with h|h<;>rw[h]
    ·exact⟨"set",.inl rfl,rfl⟩
    ·exact⟨"high",.inr rfl,rfl⟩
   refine⟨_,?_,.X5 hw d0 d1 (show 0<=n by omega) (by omega)⟩;rw[Xu];unfold k9;simp![t9 h0,yb h3,ew,e]
  ·by_cases h12:c%18<12
   ·obtain⟨w,hw,ew⟩:∃w:Str,(w = "copy" \/ w = "add" \/ w = "addc" \/ w = "sub" \/ w = "subc" \/ w = "and" \/ w = "or" \/ w = "xor" \/ w = "test")/\zI (.lst [.str "copy",.str "add",.str "addc",.str "sub",.str "subc",.str "and",.str "or",.str "xor",.str "test"]) (.int (c%18-3))=some (.str w):=by
     rcases(show c%18=3\/c%18=4\/c%18=5\/c%18=6\/c%18=7\/c%18=8\/c%18=9\/c%18=10\/c%18=11 by omega)with h|h|h|h|h|h|h|h|h<;>rw[h]
     ·exact⟨"copy",by simp,rfl⟩
     ·exact⟨"add",by simp,rfl⟩
     ·exact⟨"addc",by simp,rfl⟩
     ·exact⟨"sub",by simp,rfl⟩
     ·exact⟨"subc",by simp,rfl⟩
     ·exact⟨"and",by simp,rfl⟩
     ·exact⟨"or",by simp,rfl⟩
     ·exact⟨"xor",by simp,rfl⟩
     ·exact⟨"test",by simp,rfl⟩
    refine⟨_,?_,.two hw d0 d1 s0 s1⟩;rw[Xu];unfold k9;simp![t9 h0,yV h3,yb h12,ew]
   ·by_cases h14:c%18<14
    ·obtain⟨n,hn,e⟩:=Lh (a:=c/1152%32) (b:=0) (c:=31) (d:=1) (i:=c/1152/32%4) (by omega) (by omega)
     obtain⟨w,hw,ew⟩:∃w:Str,(w = "left" \/ w = "right")/\zI (.lst [.str "left",.str "right"]) (.int (c%18-12))=some (.str w):=by
      rcases(show c%18=12\/c%18=13 by omega)with h|h<;>rw[h]
      ·exact⟨"left",.inl rfl,rfl⟩
      ·exact⟨"right",.inr rfl,rfl⟩
     refine⟨_,?_,.X7 hw d0 d1 (show 0<=n by omega) (by omega)⟩;rw[Xu];unfold k9;simp![t9 h0,yV h3,yV h12,yb h14,ew,e]
    ·obtain⟨n,hn,e⟩:=dG (a:=c/1152%256) (b:=0) (c:=255) (i:=c/1152/256%3) (by omega) (by omega)
     obtain⟨w,hw,ew⟩:∃w:Str,(w = "load" \/ w = "store" \/ w = "loadw" \/ w = "storew")/\zI (.lst [.str "load",.str "store",.str "loadw",.str "storew"]) (.int (c%18-14))=some (.str w):=by
      rcases(show c%18=14\/c%18=15\/c%18=16\/c%18=17 by omega)with h|h|h|h<;>rw[h]
      ·exact⟨"load",by simp,rfl⟩
      ·exact⟨"store",by simp,rfl⟩
      ·exact⟨"loadw",by simp,rfl⟩
      ·exact⟨"storew",by simp,rfl⟩
     refine⟨_,?_,.mem hw d0 d1 s0 s1 (show 0<=n by omega) (by omega)⟩;rw[Xu];unfold k9;simp![t9 h0,yV h3,yV h12,yV h14,ew,e]
noncomputable def Lu:FA:=(uZ (eC (.int 0)) (e2 yL (e2 xR (z7 1) (eC (.int 3))) (eC (.int 7))))
noncomputable def Qg:FE:=(e2 zI (z7 2) (e2 yL (za v7 (zB (z7 1) (zB (z7 6) zF))) (eC (.int 26))))
noncomputable def GR:FA:=(uZ (eC (.int 0)) (e2 xR (z7 0) (eC (.int 26))))
noncomputable def L5:FS:=(zY 4 (e2 zm (z7 4) (eC (.str "q"))))
noncomputable def Xf:FS:=
 (zK (zY 2 (eC (.str "abcdefghijklmnopqrstuvwxyz")))
  (zK (zY 3 (e2 uX (eC (.str "")) (wx 1 Lu (yD 6) xP Qg)))
  (zK (zt (tE (e2 zo (e2 yL (z7 1) (eC (.int 3))) (eC (.int 0))))
   (zK (zY 4 (e2 zI (z7 2) (e2 yL (z7 0) (eC (.int 26)))))
    (zK (wm GR (yD 5)
     L5)
    (zr (z7 4))))
   yJ)
  (zK (zt (tE (e2 zo (e2 yL (z7 1) (eC (.int 3))) (eC (.int 1))))
   (zr (e2 zm (e2 zm (e2 zI (z7 2) (e2 yL (z7 0) (eC (.int 26)))) (e2 zI (z7 2) (e2 xR (z7 0) (eC (.int 26))))) (vK (z7 3) xz (x_ (eC (.int 6))))))
   yJ)
  (zr (e2 zm (e2 zm (vK (z7 3) xz (x_ (eC (.int 6)))) (e2 zI (z7 2) (e2 xR (z7 0) (eC (.int 26))))) (e2 zI (z7 2) (e2 yL (z7 0) (eC (.int 26))))))))))
noncomputable def j6:List D->Option (Bool×D):=FR 2 6 Xf
theorem Os(x0 x1:D):j6 [x0,x1]=ya 6 Xf [x0,x1]:=rfl
noncomputable def GQ:FA:=(uZ (eC (.int 0)) (eL xq (zB (z7 0) zF)))
noncomputable def KJ:FE:=(z7 1)
noncomputable def Qi:FT:=(tE (e2 yu (e2 zI (e2 zI (z7 0) (z7 1)) (eC (.int 0))) (yq (zB (eC (.str "jump")) (zB (eC (.str "when")) (zB (eC (.str "unless")) zF))))))
noncomputable def O3:FS:=
 (gO (wx 1 GQ (yD 1) Qi KJ))
noncomputable def gs:List D->Option (Bool×D):=FR 1 1 O3
theorem Re(x0:D):gs [x0]=ya 1 O3 [x0]:=rfl
noncomputable def Qf:FE:=(e2 zI (e2 zI (z7 0) (z7 10)) (e1 wf (eC (.int 1))))
noncomputable def GP:FA:=(uZ (eC (.int 0)) (e2 zm (eL xq (zB (z7 0) zF)) (eC (.int 1))))
noncomputable def TN:FS:=(zK (zY 8 (e2 yL (za v7 (zB (z7 1) (zB (z7 7) zF))) (eC (.int 12))))
    (zK (zt (tG (tE (e2 yu (z7 7) (z7 3))) (tE (e2 zo (z7 8) (eC (.int 0)))))
     (zK (ZE 4 (z7 7) (za j6 (zB (z7 6) (zB (z7 2) zF))))
      (zK (wK 5 xj (yq (zB (eC (.str "label")) (zB (e2 zI (vt 4) (z7 7)) zF))))
      (zY 6 (e2 (qN λi j=>i+j) (z7 6) (eC (.int 1))))))
     yJ)
    (zK (zt (tE (e2 zo (z7 8) (eC (.int 1))))
     (zK (wK 5 xj (yq (zB (eC (.str "label")) (zB (za j6 (zB (z7 6) (zB (z7 2) zF))) zF))))
      (zY 6 (e2 (qN λi j=>i+j) (z7 6) (eC (.int 1)))))
     yJ)
    (zt (tE (e2 (xE λi j=>decide (i<j)) (z7 7) (eL xq (zB (z7 0) zF))))
     (wK 5 xj (e2 zI (z7 0) (z7 7)))
     yJ))))
noncomputable def ZR:FE:=(qM (tE (e2 yu (e2 zI (z7 10) (eC (.int 0))) (z7 9))) (e2 zm (vK (z7 10) xz (x_ (e1 wf (eC (.int 1))))) (yq (zB (e2 zI (z7 4) (e2 zI (z7 10) (e1 wf (eC (.int 1))))) zF))) (z7 10))
noncomputable def O2:FS:=
 (zK (zY 2 (e2 yL (e2 xR (z7 1) (eC (.int 4))) (eC (.int 999))))
  (zK (zY 3 (wx 1 (vy (za gs (zB (z7 0) zF))) (yD 10) xP Qf))
  (zK (vX 4 (eC (.dic [] [])))
  (zK (vX 5 (ym zF))
  (zK (zY 6 (eC (.int 0)))
  (zK (wm GP (yD 7)
   TN)
  (zK (qY 5) (zK (qY 4) (zK (zY 9 (yq (zB (eC (.str "jump")) (zB (eC (.str "when")) (zB (eC (.str "unless")) zF)))))
  (gO (wx 1 (vy (z7 5)) (yD 10) xP ZR)))))))))))
noncomputable def XH:List D->Option (Bool×D):=FR 2 10 O2
theorem Rc(x0 x1:D):XH [x0,x1]=ya 10 O2 [x0,x1]:=rfl
theorem AQ:∀(sh:Int)(n:Nat),(wo n).map (λd=>match d with|.int j=>D.str (lt (wC sh j%26))|d=>d)=((List.range n).map λj:Nat=>lt (wC sh j%26)).map D.str:=λsh n=>by
 rw[jV,jV];rfl
theorem Hh(f:Nat->Int):∀l:List Nat,((l.map λj=>lt (f j)).map (·.length)).sum=l.length
 | []=>rfl
 |a::l=>by
  rw[xY,xY,Yx,Hh f l,Tf,xg];omega
noncomputable def Wh(sh:Int):Str:=Builtin.Str.glued "" ((List.range (sh/3%7).toNat).map λj:Nat=>lt (wC sh j%26))
noncomputable def gM(x:Str):Nat->Str
 |0=>x
 |n+1=>gM x n ++ "q"
noncomputable def uc(sh k:Int):Str:=if sh%3=0 then gM (lt (k%26)) (k/26).toNat else if sh%3=1 then lt (k%26)++lt (k/26)++L2.cutS (Wh sh) none (some 6)else L2.cutS (Wh sh) none (some 6)++lt (k/26)++lt (k%26)
theorem ly{k sh:Int}{x3 x4 x5:Option Sl}:∃ds xs:List D,(Wh sh).length<=7/\Lu [some (false,.int k),some (false,.int sh),some (false,.str "abcdefghijklmnopqrstuvwxyz"),x3,x4,x5]=some ds/\xI (yD 6) xP Qg [some (false,.int k),some (false,.int sh),some (false,.str "abcdefghijklmnopqrstuvwxyz"),x3,x4,x5,none] ds=some xs/\uX (.str "") (.lst xs)=some (.str (Wh sh)):=by
 have hr:Lu [some (false,.int k),some (false,.int sh),some (false,.str "abcdefghijklmnopqrstuvwxyz"),x3,x4,x5]=some (wo (sh/3%7).toNat):=
  ZB (n:=sh/3%7) rfl (by omega)
 have hl:=Ta (g:=yD 6) (e:=Qg) (σ:=[some (false,.int k),some (false,.int sh),some (false,.str "abcdefghijklmnopqrstuvwxyz"),x3,x4,x5]++List.replicate 1 none) (λd=>match d with|.int j=>D.str (lt (wC sh j%26))|d=>d) (ds:=wo (sh/3%7).toNat) λd hd=>by
  obtain⟨i,hi,rfl⟩:=H_ hd;have hm:=pS sh (i:Int);have hx:=Ir (k:=wC sh i%26) (by omega) (by omega);refine⟨_,rfl,?_⟩;unfold Qg;simp![hm,hx]
 rw[AQ]at hl;have hs:=Hh (λj:Nat=>wC sh j%26) (List.range (sh/3%7).toNat);rw[pq]at hs;have hg:=L2.glued_len "" ((List.range (sh/3%7).toNat).map λj:Nat=>lt (wC sh j%26));have e0:("" : Str).length=0:=rfl;rw[hs,e0,Nat.mul_zero,Nat.add_zero]at hg;have hj:=Sm (sep := "") (ts:=(List.range (sh/3%7).toNat).map λj:Nat=>lt (wC sh j%26)) (by rw[hs,e0]; omega);exact⟨_,_,xO hg (by omega),hr,hl,hj⟩
theorem GA(x:Str):∀n,(gM x n).length=x.length+n
 |0=>rfl
 |n+1=>by
  show(gM x n ++ "q").length=_;rw[ye,GA x n];rfl
theorem CS{k sh:Int}(k0:0<=k)(k1:k<676)(s0:0<=sh):j6 [.int k,.int sh]=some (false,.str (uc sh k)):=by
 obtain⟨ds,xs,ht,er,ex,ej⟩:=ly (k:=k) (sh:=sh) (x3:=none) (x4:=none) (x5:=none);unfold uc;generalize Wh sh=t at ht ej ⊢;have a1:=Ir (k:=k%26) (by omega) (by omega);have a2:=Ir (k:=k/26) (by omega) (by omega);have c6:=cut_len t none (some 6);have l1:=Tf (k%26);have l2:=Tf (k/26);have h2:∀x y:Str,(x++y).length=x.length+y.length:=ye;have sl:vK (z7 3) xz (x_ (eC (.int 6))) [some (false,.int k),some (false,.int sh),some (false,.str "abcdefghijklmnopqrstuvwxyz"),some (false,.str t),none,none]=some (.str (L2.cutS t none (some 6))):=rfl;rcases(show sh%3=0\/sh%3=1\/sh%3=2 by omega)with h|h|h
 ·have hr:GR [some (false,.int k),some (false,.int sh),some (false,.str "abcdefghijklmnopqrstuvwxyz"),some (false,.str t),some (false,.str (lt (k%26))),none]=some (wo (k/26).toNat):=ZB (n:=k/26) rfl (by omega)
  obtain⟨σ',e2,x,rfl⟩:=tW (g:=yD 5) (b:=L5) (λi σ=>∃x,σ=[some (false,.int k),some (false,.int sh),some (false,.str "abcdefghijklmnopqrstuvwxyz"),some (false,.str t),some (false,.str (gM (lt (k%26)) i)),x]) (ds:=wo (k/26).toNat)
   (σ:=[some (false,.int k),some (false,.int sh),some (false,.str "abcdefghijklmnopqrstuvwxyz"),some (false,.str t),some (false,.str (lt (k%26))),none]) 0 ⟨_,rfl⟩ (by
   rintro i v σ hv ⟨x,rfl⟩;obtain⟨hi,rfl⟩:=ZQ hv;rw[wq];have lq:("q" : Str).length=1:=rfl;have ha:=add_str (a:=gM (lt (k%26)) i) (b := "q") (by rw[lq,GA,Tf]; omega);exact⟨_,_,rfl,.inl (by unfold L5; simp![ha]; rfl),_,rfl⟩)
  rw[Yn,wq]at e2;rw[zP h,Os];unfold Xf;simp![er,ex,ej,h,pN,a1,hr,e2]
 ·rw[zV (by omega),zP h];have h1:=add_str (a:=lt (k%26)) (b:=lt (k/26)) (by omega);have h3:=add_str (a:=lt (k%26)++lt (k/26)) (b:=L2.cutS t none (some 6)) (by rw[h2]; omega);have z:zo (.int 1) (.int 0)=some (.bl false):=rfl;rw[Os];unfold Xf;simp![er,ex,ej,h,z,pN,a1,a2,h1,sl,h3]
 ·rw[zV (by omega),zV (by omega)];have h1:=add_str (a:=L2.cutS t none (some 6)) (b:=lt (k/26)) (by omega);have h3:=add_str (a:=L2.cutS t none (some 6)++lt (k/26)) (b:=lt (k%26)) (by rw[h2]; omega);have z:zo (.int 2) (.int 0)=some (.bl false):=rfl;have z1:zo (.int 2) (.int 1)=some (.bl false):=rfl;rw[Os];unfold Xf;simp![er,ex,ej,h,z,z1,a1,a2,h1,sl,h3]
theorem OU(a b:Str):(a++b).cps.toList=a.cps.toList++b.cps.toList:=Wm
theorem G9(x:Str):∀n,(gM x n).cps.toList=x.cps.toList++List.replicate n 113
 |0=>by rw[Bt,uP]; rfl
 |n+1=>by
  show(gM x n ++ "q").cps.toList=_;rw[OU,G9 x n,tu,List.replicate_succ'];rfl
theorem CT{sh k k':Int}(a0:0<=k)(b0:0<=k')(h:uc sh k=uc sh k'):k=k':=by
 unfold uc at h;have lc:∀x:Int,(lt x).cps.toList=[97+x.toNat]:=λ_=>rfl
 have h1:=congrArg (λz:Str=>z.cps.toList) h;by_cases c:sh%3=0
 ·simp only[zP c,G9,lc,pj,gi,Bi]at h1;have h2:=congrArg List.length h1.2;rw[jT,jT]at h2;omega
 ·by_cases c1:sh%3=1
  ·simp only[zV c,zP c1,OU,lc,pj,gi,Bi]at h1;omega
  ·simp only[zV c,zV c1,OU,lc,tu,List.append_cancel_left_eq,pj,gi,Bi]at h1;omega
theorem Oz{m:Int}{rows:List D}(hr:∀r∈rows,vG m r)(hl:rows.length<=1000):gs [.lst rows]=some (true,.lst ((wS rows).map λi:Nat=>D.int i)):=by
 have h1:GQ [some (false,.lst rows)]=some (wo rows.length):=ZB (n:=(rows.length:Int)) rfl (by omega)
 have h2:=WC (g:=yD 1) (c:=Qi) (e:=KJ) (σ:=[some (false,.lst rows),none]) (λd=>match d with|.int i=>xK (rows.getD i.toNat .zD)|_=>false) id (ds:=wo rows.length) λd hd=>by
  obtain⟨i,hi,rfl⟩:=H_ hd;have ex:zI (.lst rows) (.int (i:Int))=some rows[i]:=qK (by omega) (by rw[wH]; exact yf hi);have eg:rows.getD ((i:Int)).toNat .zD=rows[i]:=by rw[wH,vF,yf hi]; rfl
  have ej:∃w,zI rows[i] (.int 0)=some (.str w)/\yu (.str w) (.tup [.str "jump",.str "when",.str "unless"])=some (.bl (xK rows[i])):=by
   rcases hr _ (uQ hi)with h|h
   ·obtain⟨w,a,b,_,c,_⟩:=jL h;exact⟨w,a,by rw[c]; exact b⟩
   ·obtain⟨w,p,a,b,_,c,_⟩:=qS h;exact⟨w,a,by rw[c]; exact b⟩
  obtain⟨w,ew,ein⟩:=ej;refine⟨_,rfl,?_,λ_=>?_⟩
  ·show Qi [some (false,.lst rows),some (false,.int (i:Int))]=some (xK (rows.getD ((i:Int)).toNat .zD));rw[eg];unfold Qi;simp![ex,ew,ein]
  ·rfl
 have h3:List.map id ((wo rows.length).filter λd=>match d with|.int i=>xK (rows.getD i.toNat .zD)|_=>false)=(wS rows).map λi:Nat=>D.int i:=by
  rw[J7,J2];rfl
 rw[h3]at h2;rw[Re];unfold O3;simp![h1,h2]
noncomputable def xt(rows:List D):List D:=(wS rows).map λi=>pQ (rows.getD i .zD)
noncomputable def kj(rows:List D)(q:Int):Bool:=(xt rows).any λy=>yt y (.int q)
theorem dP{m:Int}{rows:List D}(hr:∀r∈rows,vG m r){y:D}(h:y∈xt rows):∃p:Int,y=.int p/\0<=p/\p<=m:=by
 obtain⟨i,hi,rfl⟩:=v4.mp h;obtain⟨hl,hj⟩:=W7 hi;have eg:rows.getD i .zD=rows[i]:=by rw[vF,yf hl]; rfl
 rw[eg]at hj ⊢;rcases hr _ (uQ hl)with h|h
 ·obtain⟨_,_,_,_,c,_⟩:=jL h;rw[c]at hj;cases hj
 ·obtain⟨w,p,_,_,_,_,_,_,e,p0,p1⟩:=qS h;exact⟨p,e,p0,p1⟩
theorem SQ{m:Int}{rows:List D}(hr:∀r∈rows,vG m r)(q:Int):yu (.int q) (.lst (xt rows))=some (.bl (kj rows q)):=by
 have ha:(xt rows).all yY=true:=u5.mpr λy hy=>by
  obtain⟨p,rfl,_⟩:=dP hr hy;rfl
 show(jD (.int q) (.lst (xt rows))).bind _=_
 have:jD (.int q) (.lst (xt rows))=some (kj rows q):=by
  show(match yY (.int q)&&(xt rows).all yY with|true=>_|false=>_)=_;rw[ha];rfl
 rw[this];rfl
theorem SN{rows:List D}{i:Nat}{p:Int}(hl:i<rows.length)(hj:xK rows[i]=true)(he:pQ rows[i]=.int p):kj rows p=true:=by
 refine Q_.mpr ⟨.int p,v4.mpr ⟨i,qk.mpr ⟨tz.mpr hl,?_⟩,?_⟩,?_⟩
 ·rw[vF,yf hl]; exact hj
 ·rw[vF,yf hl]; exact he
 ·unfold yt; exact Y_ p
structure Inv(rows:List D)(sh:Int)(i:Nat)(ks:List (Sum Int Str))(vs L:List D)(c:Int):Prop where
 hk:ks.length=vs.length
 k1:ks.length<=i
 l1:L.length<=3*i
 c0:0<=c
 c1:c<=2*i
 nm:∀q:Int,0<=q->q<i->kj rows q=true->∃k:Int,0<=k/\k<c/\getK ks vs (.inl q)=some (.str (uc sh k))/\(vD (uc sh k) L).2=some q.toNat
 fl:L.filter (λd=>!wR d)=rows.take i
 el:∀d∈L,(∃t,d=ua t)\/d∈rows
theorem Se{m:Int}{rows:List D}(hr:∀r∈rows,vG m r)(hl:rows.length<=100){cell sh:Int}(s0:0<=sh){i:Nat}(hi:i<=rows.length){ks:List (Sum Int Str)}{vs L:List D}{c:Int}(I:Inv rows sh i ks vs L c){x8 x9:Option Sl} :
  ∃ks' vs' L' c' y8,Inv rows sh (i+1) ks' vs' L' c'/\TN [some (false,.lst rows),some (false,.int cell),some (false,.int sh),some (false,.lst (xt rows)),some (true,.dic ks vs),some (true,.lst L),some (false,.int c),some (false,.int (i:Int)),x8,x9] =
   some (.nx [some (false,.lst rows),some (false,.int cell),some (false,.int sh),some (false,.lst (xt rows)),some (true,.dic ks' vs'),some (true,.lst L'),some (false,.int c'),some (false,.int (i:Int)),y8,x9]):=by
 obtain⟨hk,k1,l1,c0,c1,nm,fl,el⟩:=I;have hm:=pS cell (i:Int);generalize wC cell (i:Int)=mx at hm;have hin:=SQ hr (i:Int)
 have A:∃(ks':List (Sum Int Str)) (vs' L':List D) (c':Int),(ks'.length=vs'.length/\ks'.length<=i+1/\L'.length<=3*i+1/\0<=c'/\c'<=2*i+1)/\(∀q:Int,0<=q->q<(i+1:Nat)->kj rows q=true->∃k:Int,0<=k/\k<c'/\getK ks' vs' (.inl q)=some (.str (uc sh k))/\(vD (uc sh k) L').2=some q.toNat)/\L'.filter (λd=>!wR d)=rows.take i/\(∀d∈L',(∃t,d=ua t)\/d∈rows)/\
   zt (tG (tE (e2 yu (z7 7) (z7 3))) (tE (e2 zo (z7 8) (eC (.int 0)))))
     (zK (ZE 4 (z7 7) (za j6 (zB (z7 6) (zB (z7 2) zF))))
      (zK (wK 5 xj (yq (zB (eC (.str "label")) (zB (e2 zI (vt 4) (z7 7)) zF))))
      (zY 6 (e2 (qN λi j=>i+j) (z7 6) (eC (.int 1))))))
     yJ [some (false,.lst rows),some (false,.int cell),some (false,.int sh),some (false,.lst (xt rows)),some (true,.dic ks vs),some (true,.lst L),some (false,.int c),some (false,.int (i:Int)),some (false,.int (mx%12)),x9] =
   some (.nx [some (false,.lst rows),some (false,.int cell),some (false,.int sh),some (false,.lst (xt rows)),some (true,.dic ks' vs'),some (true,.lst L'),some (false,.int c'),some (false,.int (i:Int)),some (false,.int (mx%12)),x9]):=by
  obtain⟨k0,e0⟩:∃k,zo (.int (mx%12)) (.int 0)=some (.bl k):=⟨_,rfl⟩;by_cases h:kj rows (i:Int)=false/\k0=false
  ·refine⟨ks,vs,L,c,⟨hk,by omega,by omega,c0,by omega⟩,?_,fl,el,?_⟩
   ·intro q q0 q1 hq;by_cases e:q=(i:Int)
    ·subst e; rw[h.1]at hq; cases hq
    ·exact nm q q0 (by omega) hq
   ·rw[h.1]at hin;rw[h.2]at e0;simp![hin,e0]
  ·have et:=CS (k:=c) (sh:=sh) c0 (by omega) s0;obtain⟨t,ht⟩:∃t,t=uc sh c:=⟨_,rfl⟩;rw[<-ht]at et
   have hc:tG (tE (e2 yu (z7 7) (z7 3))) (tE (e2 zo (z7 8) (eC (.int 0)))) [some (false,.lst rows),some (false,.int cell),some (false,.int sh),some (false,.lst (xt rows)),some (true,.dic ks vs),some (true,.lst L),some (false,.int c),some (false,.int (i:Int)),some (false,.int (mx%12)),x9]=some true:=by
    cases hb:kj rows (i:Int)with
    |true=>rw[hb]at hin; simp![hin]
    |false=>
     have:k0=true:=by cases k0 with|true=>rfl|false=>exact absurd ⟨hb,rfl⟩ h
     rw[hb]at hin;rw[this]at e0;simp![hin,e0]
   have gp:=RU (k:=.inl (i:Int)) (v:=D.str t) hk
   have g0:zI (.dic (uh ks (.inl (i:Int))) (vW ks vs (.inl (i:Int)) (.str t))) (.int (i:Int))=some (.str t):=by
    show getK _ _ _=_;rw[gp,zP rfl]
   have hlk:(uh ks (.inl (i:Int))).length<=i+1:=by
    unfold uh
    split
    ·omega
    ·rw[xC]; show _+1<=_; omega
   have hap:=vq (L:=L) (r:=ua t) (by omega);refine⟨uh ks (.inl (i:Int)),vW ks vs (.inl (i:Int)) (.str t),L++[ua t],c+1,⟨E_ hk,hlk,by rw[xC]; show _+1<=_; omega,by omega,by omega⟩,?_,?_,?_,?_⟩
   ·intro q q0 q1 hq;rw[gp];by_cases e:(i:Int)=q
    ·subst e;refine⟨c,c0,by omega,by rw[zP rfl,ht],?_⟩;rw[Lj,zP ht,fl,qi,wH,Nat.min_eq_left hi]
    ·rw[zV (λh=>e (JD h))];obtain⟨k,k0,k1,k2,k3⟩:=nm q q0 (by omega) hq;refine⟨k,k0,by omega,k2,?_⟩;rw[Lj,zV,k3];intro z;have:=CT c0 k0 (ht.symm.trans z);omega
   ·rw[J1,fl];show rows.take i++[]=_;rw[uP]
   ·intro d hd;rcases wb.mp hd with hd|hd
    ·exact el d hd
    ·cases wO.mp hd; exact .inl ⟨t,rfl⟩
   ·rw[SM hc];have kd:YL (.int (i:Int))=some (.inl (i:Int)):=rfl;have hlim:ks.length<yR:=by show _<16777216; omega
    have sp:ZE 4 (z7 7) (za j6 (zB (z7 6) (zB (z7 2) zF))) [some (false,.lst rows),some (false,.int cell),some (false,.int sh),some (false,.lst (xt rows)),some (true,.dic ks vs),some (true,.lst L),some (false,.int c),some (false,.int (i:Int)),some (false,.int (mx%12)),x9] =
      some (.nx [some (false,.lst rows),some (false,.int cell),some (false,.int sh),some (false,.lst (xt rows)),some (true,.dic (uh ks (.inl (i:Int))) (vW ks vs (.inl (i:Int)) (.str t))),some (true,.lst L),some (false,.int c),some (false,.int (i:Int)),some (false,.int (mx%12)),x9]):=by
     simp![ZE,et,kd,zP hlim]
    rw[gR sp];unfold ua at hap ⊢;simp![g0,hap]
 obtain⟨ks',vs',L',c',⟨a1,a2,a3,a4,a5⟩,anm,afl,ael,ae⟩:=A
 have B:∃(L2:List D) (c2:Int),(L2.length<=3*i+2/\0<=c2/\c2<=2*i+2/\c'<=c2/\∀k:Int,0<=k->k<c'->(vD (uc sh k) L2).2=(vD (uc sh k) L').2)/\L2.filter (λd=>!wR d)=rows.take i/\(∀d∈L2,(∃t,d=ua t)\/d∈rows)/\
   zt (tE (e2 zo (z7 8) (eC (.int 1))))
     (zK (wK 5 xj (yq (zB (eC (.str "label")) (zB (za j6 (zB (z7 6) (zB (z7 2) zF))) zF))))
      (zY 6 (e2 (qN λi j=>i+j) (z7 6) (eC (.int 1)))))
     yJ [some (false,.lst rows),some (false,.int cell),some (false,.int sh),some (false,.lst (xt rows)),some (true,.dic ks' vs'),some (true,.lst L'),some (false,.int c'),some (false,.int (i:Int)),some (false,.int (mx%12)),x9] =
   some (.nx [some (false,.lst rows),some (false,.int cell),some (false,.int sh),some (false,.lst (xt rows)),some (true,.dic ks' vs'),some (true,.lst L2),some (false,.int c2),some (false,.int (i:Int)),some (false,.int (mx%12)),x9]):=by
  obtain⟨k0,e0⟩:∃k,zo (.int (mx%12)) (.int 1)=some (.bl k):=⟨_,rfl⟩;cases k0 with
  |false=>exact⟨L',c',⟨by omega,a4,by omega,by omega,λ_ _ _=>rfl⟩,afl,ael,by simp![e0]⟩
  |true=>
   have et:=CS (k:=c') (sh:=sh) a4 (by omega) s0;obtain⟨t,ht⟩:∃t,t=uc sh c':=⟨_,rfl⟩;rw[<-ht]at et;have hap:=vq (L:=L') (r:=ua t) (by omega);refine⟨L'++[ua t],c'+1,⟨by rw[xC]; show _+1<=_; omega,by omega,by omega,by omega,λk k0 k1=>?_⟩,?_,?_,?_⟩
   ·rw[Lj,zV];intro z;have:=CT a4 k0 (ht.symm.trans z);omega
   ·rw[J1,afl];show rows.take i++[]=_;rw[uP]
   ·intro d hd;rcases wb.mp hd with hd|hd
    ·exact ael d hd
    ·cases wO.mp hd; exact .inl ⟨t,rfl⟩
   ·unfold ua at hap ⊢;simp![e0,et,hap]
 obtain⟨L2,c2,⟨b1,b2,b3,b4,b5⟩,bfl,bel,be⟩:=B
 have C:∃L3:List D,L3.length<=3*(i+1)/\(∀t,(vD t L3).2=(vD t L2).2)/\L3.filter (λd=>!wR d)=rows.take (i+1)/\(∀d∈L3,(∃t,d=ua t)\/d∈rows)/\
   zt (tE (e2 (xE λi j=>decide (i<j)) (z7 7) (eL xq (zB (z7 0) zF))))
     (wK 5 xj (e2 zI (z7 0) (z7 7)))
     yJ [some (false,.lst rows),some (false,.int cell),some (false,.int sh),some (false,.lst (xt rows)),some (true,.dic ks' vs'),some (true,.lst L2),some (false,.int c2),some (false,.int (i:Int)),some (false,.int (mx%12)),x9] =
   some (.nx [some (false,.lst rows),some (false,.int cell),some (false,.int sh),some (false,.lst (xt rows)),some (true,.dic ks' vs'),some (true,.lst L3),some (false,.int c2),some (false,.int (i:Int)),some (false,.int (mx%12)),x9]):=by
  by_cases h:i<rows.length
  ·have hap:=vq (L:=L2) (r:=rows[i]) (by omega);have ex:zI (.lst rows) (.int (i:Int))=some rows[i]:=qK (by omega) (by rw[wH]; exact yf h);have hd:decide ((i:Int)<(rows.length:Int))=true:=yb (by omega);refine⟨L2++[rows[i]],by rw[xC]; show _+1<=_; omega,?_,?_,?_,?_⟩
   ·intro t;obtain⟨_,_,_,z,_⟩:=Gf (hr _ (uQ h));exact dS z
   ·obtain⟨_,_,_,z,_⟩:=Gf (hr _ (uQ h));rw[J1,bfl,gb (by rw[z]; rfl),List.filter_nil,Ks h]
   ·intro d hd;rcases wb.mp hd with hd|hd
    ·exact bel d hd
    ·cases wO.mp hd; exact .inr (uQ h)
   ·simp![hd,ex,hap]
  ·have hd:decide ((i:Int)<(rows.length:Int))=false:=yV (by omega);refine⟨L2,by omega,λ_=>rfl,?_,bel,by simp![hd]⟩;rw[bfl,J9 (by omega),J9 (by omega)]
 obtain⟨L3,d1,dpl,dfl,del,de⟩:=C;refine⟨ks',vs',L3,c2,some (false,.int (mx%12)),⟨a1,a2,by omega,b2,by omega,λq q0 q1 hq=>?_,dfl,del⟩,?_⟩
 ·obtain⟨k,k0,k1,k2,k3⟩:=anm q q0 q1 hq;exact⟨k,k0,by omega,k2,by rw[dpl,b5 k k0 k1,k3]⟩
 unfold TN;have s1:zY 8 (e2 yL (za v7 (zB (z7 1) (zB (z7 7) zF))) (eC (.int 12))) [some (false,.lst rows),some (false,.int cell),some (false,.int sh),some (false,.lst (xt rows)),some (true,.dic ks vs),some (true,.lst L),some (false,.int c),some (false,.int (i:Int)),x8,x9]=some (.nx [some (false,.lst rows),some (false,.int cell),some (false,.int sh),some (false,.lst (xt rows)),some (true,.dic ks vs),some (true,.lst L),some (false,.int c),some (false,.int (i:Int)),some (false,.int (mx%12)),x9]):=by simp![hm]
 refine Eq.trans (gR s1) ?_;rw[gR ae,gR be];exact de
theorem Sc{rows:List D}(hr:∀r∈rows,vG (rows.length:Int) r)(hl:rows.length<=100){cell:Int}:∃items:List D,XH [.lst rows,.int cell]=some (true,.lst items)/\(∀d∈items,gw d)/\uv (gv items) rows (items.filter λd=>!wR d)/\items.length<=1000:=by
 have hj:=Oz hr (by omega)
 have q9:xI (yD 10) xP Qf [some (false,.lst rows),some (false,.int cell),some (false,.int (cell/4%999)),none,none,none,none,none,none,none,none] ((wS rows).map λi:Nat=>D.int i)=some (xt rows):=by
  have:=Ta (g:=yD 10) (e:=Qf) (σ:=[some (false,.lst rows),some (false,.int cell),some (false,.int (cell/4%999)),none,none,none,none,none,none,none,none]) (λd=>match d with|.int i=>pQ (rows.getD i.toNat .zD)|d=>d) (ds:=(wS rows).map λi:Nat=>D.int i) λd hd=>by
   obtain⟨i,hi,rfl⟩:=v4.mp hd;obtain⟨h1,h2⟩:=W7 hi;have eg:rows.getD i .zD=rows[i]:=by rw[vF,yf h1]; rfl
   have ex:zI (.lst rows) (.int (i:Int))=some rows[i]:=qK (by omega) (by rw[wH]; exact yf h1);rw[eg]at h2;refine⟨_,rfl,?_⟩;show _=some (pQ (rows.getD ((i:Int)).toNat .zD));rw[wH,eg];rcases hr _ (uQ h1)with h|h
   ·obtain⟨_,_,_,_,c,_⟩:=jL h;rw[c]at h2;cases h2
   ·obtain⟨w,p,_,_,_,_,_,q1,q2,_⟩:=qS h;rw[q2];unfold Qf;simp![ex,q1]
  rw[this,jV];rfl
 have e2:GP [some (false,.lst rows),some (false,.int cell),some (false,.int (cell/4%999)),some (false,.lst (xt rows)),some (true,.dic [] []),some (true,.lst []),some (false,.int 0),none,none,none]=some (wo (rows.length+1)):=by
  have:=ZB (f:=e2 zm (eL xq (zB (z7 0) zF)) (eC (.int 1))) (τ:=[some (false,.lst rows),some (false,.int cell),some (false,.int (cell/4%999)),some (false,.lst (xt rows)),some (true,.dic [] []),some (true,.lst []),some (false,.int 0),none,none,none]) (n:=(rows.length:Int)+1) rfl (by omega);rw[show((rows.length:Int)+1).toNat=rows.length+1 by omega]at this;exact this
 obtain⟨σ',e3,ks,vs,L,c,x7,x8,I,rfl⟩:=tW (g:=yD 7) (b:=TN) (λi σ=>∃ks vs L c x7 x8,Inv rows (cell/4%999) i ks vs L c/\σ=[some (false,.lst rows),some (false,.int cell),some (false,.int (cell/4%999)),some (false,.lst (xt rows)),some (true,.dic ks vs),some (true,.lst L),some (false,.int c),x7,x8,none]) (ds:=wo (rows.length+1))
  (σ:=[some (false,.lst rows),some (false,.int cell),some (false,.int (cell/4%999)),some (false,.lst (xt rows)),some (true,.dic [] []),some (true,.lst []),some (false,.int 0),none,none,none]) 0
  ⟨[],[],[],0,none,none,⟨rfl,y0 _,y0 _,by decide,by decide,(λq q0 q1=>by omega),rfl,(λ_ h=>by cases h)⟩,rfl⟩ (by
  rintro i v σ hv ⟨ks,vs,L,c,x7,x8,I,rfl⟩;obtain⟨hi,rfl⟩:=ZQ hv;rw[wq]at I ⊢;obtain⟨ks',vs',L',c',y8,I',e⟩:=Se (cell:=cell) (sh:=cell/4%999) hr hl (by omega) (by omega) I (x8:=x8) (x9:=none);exact⟨_,_,rfl,.inl e,ks',vs',L',c',_,y8,I',rfl⟩)
 rw[Yn,wq]at I;obtain⟨hk,k1,l1,c0,c1,nm,fl,el⟩:=I
 obtain⟨items,e4,ea⟩:=CA (g:=yD 10) (e:=ZR) (σ:=[some (false,.lst rows),some (false,.int cell),some (false,.int (cell/4%999)),some (false,.lst (xt rows)),some (false,.dic ks vs),some (false,.lst L),some (false,.int c),x7,x8,some (false,.tup [.str "jump",.str "when",.str "unless"]),none]) (gv L) (ds:=L) λd hd=>by
  have pr:∀d,uU d->∃σ1 x,yD 10 d [some (false,.lst rows),some (false,.int cell),some (false,.int (cell/4%999)),some (false,.lst (xt rows)),some (false,.dic ks vs),some (false,.lst L),some (false,.int c),x7,x8,some (false,.tup [.str "jump",.str "when",.str "unless"]),none]=some σ1/\ZR σ1=some x/\gv L d x:=λd h=>by
   obtain⟨w,a,b,_,jf,_⟩:=jL h;unfold TC at b;refine⟨_,d,rfl,?_,.plain h,rfl,⟨λ_=>rfl,λz=>by rw[jf]at z; cases z⟩,rfl,λz=>by rw[jf]at z; cases z⟩;unfold ZR;simp![a,b]
  rcases el d hd with⟨t,rfl⟩|hd
  ·have a:zI (ua t) (.int 0)=some (.str "label"):=rfl;have b:yu (.str "label") (.tup [.str "jump",.str "when",.str "unless"])=some (.bl false):=rfl;refine⟨_,ua t,rfl,?_,.label t,rfl,⟨λ_=>rfl,λz=>by cases z⟩,rfl,λz=>by cases z⟩;unfold ZR;simp![a,b]
  ·obtain⟨i,hi,rfl⟩:=Ki hd;rcases hr _ (uQ hi)with h|h
   ·exact pr _ h
   ·obtain⟨w,p,a,b,_,j,_,q1,q2,p0,p1⟩:=qS h;obtain⟨kn,kn0,kn1,et,ep⟩:=nm p p0 (by omega) (SN hi j q2);generalize uc (cell/4%999) kn=t at et ep;have eg:zI (.dic ks vs) (.int p)=some (.str t):=et;have hp:pQ rows[i]=.int ((p.toNat:Nat):Int):=by rw[q2,show((p.toNat:Nat):Int)=p by omega]
    unfold TC at b;generalize rows[i]=r at h a j q1 q2 hp;cases h with
    |j2 p0 p1=>
     rename_i p';cases a;have sl:vK (z7 10) xz (x_ (e1 wf (eC (.int 1)))) [some (false,.lst rows),some (false,.int cell),some (false,.int (cell/4%999)),some (false,.lst (xt rows)),some (false,.dic ks vs),some (false,.lst L),some (false,.int c),x7,x8,some (false,.tup [.str "jump",.str "when",.str "unless"]),some (false,.tup [.str "jump",.int p'])]=some (.tup [.str "jump"]):=rfl;have ad:zm (.tup [.str "jump"]) (.tup [.str t])=some (.tup [.str "jump",.str t]):=rfl;refine⟨_,_,rfl,?_,.j2 t,rfl,⟨(λz=>by cases z),λ_=>⟨[.str "jump"],_,t,rfl,rfl⟩⟩,rfl,λ_=>⟨t,p.toNat,rfl,ep,hp⟩⟩;unfold ZR;simp![xW,b,sl,q1,eg,ad]
    |cond hw hk p0 p1=>
     rename_i w' k' p';cases a;have sl:vK (z7 10) xz (x_ (e1 wf (eC (.int 1)))) [some (false,.lst rows),some (false,.int cell),some (false,.int (cell/4%999)),some (false,.lst (xt rows)),some (false,.dic ks vs),some (false,.lst L),some (false,.int c),x7,x8,some (false,.tup [.str "jump",.str "when",.str "unless"]),some (false,.tup [.str w,.str k',.int p'])]=some (.tup [.str w,.str k']):=rfl;have ad:zm (.tup [.str w,.str k']) (.tup [.str t])=some (.tup [.str w,.str k',.str t]):=rfl;refine⟨_,.tup [.str w,.str k',.str t],rfl,?_,.cond t hw hk,?_,⟨λz=>?_,λ_=>⟨[.str w,.str k'],_,t,rfl,rfl⟩⟩,?_,λ_=>⟨t,p.toNat,rfl,ep,hp⟩⟩
     ·unfold ZR;simp![xW,b,sl,q1,eg,ad]
     ·rcases hw with rfl|rfl<;>rfl
     ·rcases hw with rfl|rfl<;>cases z
     ·rcases hw with rfl|rfl<;>rfl
 have f1:=FH ea;have f3:=F6 ea;have f4:∀t,vD t items=vD t L:=λt=>FI t _ ea
 rw[fl,J9 (by omega)]at f1;refine⟨items,?_,λd hd=>?_,F5 (λx y h=>⟨h.1,h.2.1,h.2.2.1,h.2.2.2.1,λz=>?_⟩) f1,by omega⟩
 rotate_left
 ·obtain⟨x,_,h⟩:=F7 ea d hd;exact h.1
 ·obtain⟨t,p,a,b,c⟩:=h.2.2.2.2 z;exact⟨t,p,a,by rw[f4]; exact b,c⟩
 rw[Rc];unfold O2;simp![hj,q9,e2,e3,e4]
noncomputable def jv:FS:=
 (zK (zY 3 (e2 yL (z7 2) (eC (.int 8))))
  (zK (zY 4 (e2 zm (z7 0) (e2 zI (ym (zB (eC (.int 14)) (zB (eC (.int 15)) (zB (eC (.int 16)) (zB (eC (.int 13)) (zB (e1 wf (eC (.int 15))) (zB (e1 wf (eC (.int 16))) (zB (e1 wf (eC (.int 17))) (zB (e1 wf (eC (.int 14))) zF))))))))) (e2 yL (e2 xR (z7 2) (eC (.int 8))) (eC (.int 8))))))
  (zK (zt (ZO (tE (e2 (xE λi j=>decide (i<j)) (z7 3) (eC (.int 4)))) (tE (tU (xE λi j=>decide (i<=j)) (xE λi j=>decide (i<=j)) (eC (.int 0)) (z7 4) (z7 1))))
   (zr (z7 4))
   yJ)
  (zK (zt (tE (e2 (xE λi j=>decide (i<j)) (z7 3) (eC (.int 6))))
   (zr (e2 yL (e2 xR (z7 2) (eC (.int 64))) (e2 zm (z7 1) (eC (.int 1)))))
   yJ)
  (zr (eL UG (zB (eC (.int 0)) (zB (eL UH (zB (z7 1) (zB (e2 wY (e2 zm (z7 0) (e2 yL (e2 xR (z7 2) (eC (.int 64))) (eC (.int 7)))) (eC (.int 3))) zF))) zF))))))))
noncomputable def Zq:List D->Option (Bool×D):=FR 3 5 jv
theorem YB(x0 x1 x2:D):Zq [x0,x1,x2]=ya 5 jv [x0,x1,x2]:=rfl
noncomputable def GS:FA:=(uZ (eC (.int 0)) (z7 1))
noncomputable def WA:FS:=(zK (zY 5 (za ux (zB (z7 0) (zB (e2 zm (eC (.int 3)) (z7 4)) zF))))
    (zK (zt (tE (e2 (xE λi j=>decide (i<j)) (eL xq (zB (z7 0) zF)) (e2 zm (eC (.int 4)) (z7 4))))
     (zY 5 (za v7 (zB (za ux (zB (z7 0) (zB (eC (.int 2)) zF))) (zB (z7 4) zF))))
     yJ)
    (zt (tE (e2 (xE λi j=>decide (i<j)) (e2 yL (za v7 (zB (z7 5) (zB (eC (.int 1)) zF))) (eC (.int 8))) (z7 2)))
     (zK (zY 6 (za Zq (zB (z7 4) (zB (z7 1) (zB (za v7 (zB (z7 5) (zB (eC (.int 2)) zF))) zF)))))
      (zK (zY 7 (e2 zI (ym (zB (eC (.str "jump")) (zB (eC (.str "when")) (zB (eC (.str "unless")) zF)))) (e2 yL (za v7 (zB (z7 5) (zB (eC (.int 3)) zF))) (eC (.int 3)))))
      (zt (tE (e2 zo (z7 7) (eC (.str "jump"))))
       (wK 3 xj (yq (zB (z7 7) (zB (z7 6) zF))))
       (wK 3 xj (yq (zB (z7 7) (zB (e2 zI (ym (zB (eC (.str "carry")) (zB (eC (.str "nought")) (zB (eC (.str "sign")) zF)))) (e2 yL (za v7 (zB (z7 5) (zB (eC (.int 4)) zF))) (eC (.int 3)))) (zB (z7 6) zF))))))))
     (wK 3 xj (za Zr (zB (za v7 (zB (z7 5) (zB (eC (.int 5)) zF))) zF))))))
noncomputable def OA:FS:=
 (zK (vX 3 (ym zF))
  (zK (wm GS (yD 4)
   WA)
  (qZ 3)))
noncomputable def XN:List D->Option (Bool×D):=FR 3 8 OA
theorem Rl(x0 x1 x2:D):XN [x0,x1,x2]=ya 8 OA [x0,x1,x2]:=rfl
noncomputable def Zz:FS:=
 (zK (zY 1 (e2 yL (z7 0) (eC (.int 24))))
  (zK (zt (tE (e2 zo (e2 yL (e2 xR (z7 0) (eC (.int 24))) (eC (.int 4))) (eC (.int 1))))
   (zY 1 (e2 zm (eC (.int 16)) (e2 yL (e2 xR (z7 0) (eC (.int 96))) (eC (.int 24)))))
   yJ)
  (zK (zt (tE (e2 zo (e2 yL (e2 xR (z7 0) (eC (.int 24))) (eC (.int 8))) (eC (.int 3))))
   (zY 1 (e2 zm (eC (.int 30)) (e2 yL (e2 xR (z7 0) (eC (.int 192))) (eC (.int 31)))))
   yJ)
  (zr (z7 1)))))
noncomputable def XJ:List D->Option (Bool×D):=FR 1 2 Zz
theorem UV(x0:D):XJ [x0]=ya 2 Zz [x0]:=rfl
noncomputable def O0:FS:=
 (zK (zY 1 (za XJ (zB (za ux (zB (z7 0) (zB (eC (.int 0)) zF))) zF)))
  (zK (zY 2 (e2 zI (ym (λ_=>some (List.map D.int [4,2,6,8]))) (e2 yL (za ux (zB (z7 0) (zB (eC (.int 1)) zF))) (eC (.int 4)))))
  (zK (zY 3 (za XN (zB (z7 0) (zB (z7 1) (zB (z7 2) zF)))))
  (zr (yq (zB (z7 3) (zB (za XH (zB (z7 3) (zB (e2 xR (za ux (zB (z7 0) (zB (eC (.int 1)) zF))) (eC (.int 4))) zF))) zF)))))))
noncomputable def XG:List D->Option (Bool×D):=FR 1 4 O0
theorem Ra(x0:D):XG [x0]=ya 4 O0 [x0]:=rfl
theorem dM{n m c:Int}(n0:0<=n)(m0:0<=m):∃p:Int,0<=p/\p<=m/\Zq [.int n,.int m,.int c]=some (false,.int p):=by
 obtain⟨z,e⟩:∃z:Int,zI (.lst [.int 14,.int 15,.int 16,.int 13,.int (-15),.int (-16),.int (-17),.int (-14)]) (.int (c/8%8))=some (.int z):=by
  rcases(show c/8%8=0\/c/8%8=1\/c/8%8=2\/c/8%8=3\/c/8%8=4\/c/8%8=5\/c/8%8=6\/c/8%8=7 by omega)with h|h|h|h|h|h|h|h<;>rw[h]<;>exact⟨_,rfl⟩
 have hm:decide (0<m+1)=true:=yb (by omega);have q0:=Bb (c/64) (show m+1≠0 by omega);have q1:=Ba (c/64) (show 0<m+1 by omega)
 have hch:tU (xE λi j=>decide (i<=j)) (xE λi j=>decide (i<=j)) (eC (.int 0)) (z7 4) (z7 1) [some (false,.int n),some (false,.int m),some (false,.int c),some (false,.int (c%8)),some (false,.int (n+z))]=some (.bl (decide (0<=n+z)&&decide (n+z<=m))):=by
  by_cases g0:0<=n+z
  ·simp![tU,yb g0,pZ]
  ·simp![tU,yV g0,u4]
 have hg:(decide (0<=n+z)&&decide (n+z<=m))=true->0<=n+z/\n+z<=m:=λh=>by
  rw[xS]at h;exact⟨wI h.1,wI h.2⟩
 generalize (decide (0<=n+z)&&decide (n+z<=m))=bc at hch hg;cases h4:decide (c%8<4)<;>cases bc
 ·by_cases h6:c%8<6
  ·refine⟨_,q0,by omega,?_⟩;rw[YB];unfold jv;simp![e,add_int,h4,hch,yb h6,hm]
  ·refine⟨if(if n+c/64%7-3<m then n+c/64%7-3 else m)>0 then(if n+c/64%7-3<m then n+c/64%7-3 else m)else 0,?_,?_,?_⟩
   ·split<;>omega
   ·split
    ·split<;>omega
    ·omega
   ·rw[YB];unfold jv;simp![e,add_int,h4,hch,yV h6,UH,UG]
 ·by_cases h6:c%8<6
  ·refine⟨_,q0,by omega,?_⟩;rw[YB];unfold jv;simp![e,add_int,h4,hch,yb h6,hm]
  ·refine⟨if(if n+c/64%7-3<m then n+c/64%7-3 else m)>0 then(if n+c/64%7-3<m then n+c/64%7-3 else m)else 0,?_,?_,?_⟩
   ·split<;>omega
   ·split
    ·split<;>omega
    ·omega
   ·rw[YB];unfold jv;simp![e,add_int,h4,hch,yV h6,UH,UG]
 ·have h6:c%8<6:=by have:=wI h4; omega
  refine⟨_,q0,by omega,?_⟩;rw[YB];unfold jv;simp![e,add_int,h4,hch,yb h6,hm]
 ·obtain⟨g0,g1⟩:=hg rfl;refine⟨n+z,g0,g1,?_⟩;rw[YB];unfold jv;simp![e,add_int,h4,hch]
theorem fJ{s:D}{ns:List Int}{m dn i:Int}{L:List D}{x5 x6 x7:Option Sl}(hs:s=.lst (ns.map D.int))(i0:0<=i)(m0:0<=m)(hl:L.length<=1000) :
  ∃r,vG m r/\∃y5 y6 y7,WA [some (false,s),some (false,.int m),some (false,.int dn),some (true,.lst L),some (false,.int i),x5,x6,x7]=some (.nx [some (false,s),some (false,.int m),some (false,.int dn),some (true,.lst (L++[r])),some (false,.int i),y5,y6,y7]):=by
 have hap:∀r,xj (.lst L) r=some (.lst (L++[r])):=λr=>by
  show(if L.length<yR then _ else _)=_;rw[zP (by show _<16777216; omega)]
 have hc:=Y4 ns (k:=3+i) (by omega);have hc2:=Y4 ns (k:=2) (by decide);have hln:xq [s]=some (.int (ns.length:Int)):=by rw[hs]; show some (D.int ((ns.map D.int).length:Nat))=_; rw[yK]
 rw[<-hs]at hc hc2
 have go:∀ c:Int,∃ r,vG m r∧∃ y5 y6 y7,zt (tE (e2 (xE fun i j=>decide (i<j)) (e2 yL (za v7 (zB (z7 5) (zB (eC (.int 1)) zF))) (eC (.int 8))) (z7 2)))
     (zK (zY 6 (za Zq (zB (z7 4) (zB (z7 1) (zB (za v7 (zB (z7 5) (zB (eC (.int 2)) zF))) zF)))))
      (zK (zY 7 (e2 zI (ym (zB (eC (.str "jump")) (zB (eC (.str "when")) (zB (eC (.str "unless")) zF)))) (e2 yL (za v7 (zB (z7 5) (zB (eC (.int 3)) zF))) (eC (.int 3)))))
      (zt (tE (e2 zo (z7 7) (eC (.str "jump"))))
       (wK 3 xj (yq (zB (z7 7) (zB (z7 6) zF))))
       (wK 3 xj (yq (zB (z7 7) (zB (e2 zI (ym (zB (eC (.str "carry")) (zB (eC (.str "nought")) (zB (eC (.str "sign")) zF)))) (e2 yL (za v7 (zB (z7 5) (zB (eC (.int 4)) zF))) (eC (.int 3)))) (zB (z7 6) zF))))))))
     (wK 3 xj (za Zr (zB (za v7 (zB (z7 5) (zB (eC (.int 5)) zF))) zF))) [some (false,s),some (false,.int m),some (false,.int dn),some (true,.lst L),some (false,.int i),some (false,.int c),x6,x7]=some (.nx [some (false,s),some (false,.int m),some (false,.int dn),some (true,.lst (L++[r])),some (false,.int i),y5,y6,y7]):=λc=>by
  have m1:=pS c 1;have m2:=pS c 2;have m3:=pS c 3;have m4:=pS c 4;have m5:=pS c 5;cases hd:decide (wC c 1%8<dn)with
  |false=>
   obtain⟨r,er,pr⟩:=fE (wC c 5);refine⟨r,.inl pr,some (false,.int c),x6,x7,?_⟩;simp![m1,hd,m5,er,hap]
  |true=>
   obtain⟨p,p0,p1,ep⟩:=dM (c:=wC c 2) i0 m0
   obtain⟨w,hw,ew⟩:∃w:Str,(w = "jump" \/ w = "when" \/ w = "unless")/\zI (.lst [.str "jump",.str "when",.str "unless"]) (.int (wC c 3%3))=some (.str w):=by
    rcases(show wC c 3%3=0\/wC c 3%3=1\/wC c 3%3=2 by omega)with h|h|h<;>rw[h]
    ·exact⟨"jump",by simp,rfl⟩
    ·exact⟨"when",by simp,rfl⟩
    ·exact⟨"unless",by simp,rfl⟩
   obtain⟨k,hk,ek⟩:∃w:Str,(w = "carry" \/ w = "nought" \/ w = "sign")/\zI (.lst [.str "carry",.str "nought",.str "sign"]) (.int (wC c 4%3))=some (.str w):=by
    rcases(show wC c 4%3=0\/wC c 4%3=1\/wC c 4%3=2 by omega)with h|h|h<;>rw[h]
    ·exact⟨"carry",by simp,rfl⟩
    ·exact⟨"nought",by simp,rfl⟩
    ·exact⟨"sign",by simp,rfl⟩
   rcases hw with rfl|hw
   ·have q:zo (.str "jump") (.str "jump")=some (.bl true):=by rfl
    refine⟨_,.inr (.j2 p0 p1),some (false,.int c),some (false,.int p),some (false,.str "jump"),?_⟩;simp![m1,m2,m3,hd,ep,ew,q,hap]
   ·have q:zo (.str w) (.str "jump")=some (.bl false):=by rcases hw with rfl|rfl<;>rfl
    refine⟨_,.inr (.cond hw hk p0 p1),some (false,.int c),some (false,.int p),some (false,.str w),?_⟩;simp![m1,m2,m3,m4,hd,ep,ew,ek,q,hap]
 cases hd:decide ((ns.length:Int)<4+i)with
 |false=>
  obtain⟨r,hr,y5,y6,y7,e⟩:=go (uW ns (3+i));refine⟨r,hr,y5,y6,y7,?_⟩;unfold WA;rw[gR (σ':=[some (false,s),some (false,.int m),some (false,.int dn),some (true,.lst L),some (false,.int i),some (false,.int (uW ns (3+i))),x6,x7]) (by simp![add_int,hc])];rw[gR (σ':=[some (false,s),some (false,.int m),some (false,.int dn),some (true,.lst L),some (false,.int i),some (false,.int (uW ns (3+i))),x6,x7]) (by rw[hs]; simp![add_int,yK,hd])];exact e
 |true=>
  obtain⟨r,hr,y5,y6,y7,e⟩:=go (wC (uW ns 2) i);refine⟨r,hr,y5,y6,y7,?_⟩;have mm:=pS (uW ns 2) i;unfold WA;rw[gR (σ':=[some (false,s),some (false,.int m),some (false,.int dn),some (true,.lst L),some (false,.int i),some (false,.int (uW ns (3+i))),x6,x7]) (by simp![add_int,hc])];rw[gR (σ':=[some (false,s),some (false,.int m),some (false,.int dn),some (true,.lst L),some (false,.int i),some (false,.int (wC (uW ns 2) i)),x6,x7]) (by rw[hs]at hc2 ⊢; simp![add_int,yK,hd,hc2,mm])];exact e
theorem fH{ns:List Int}{m dn:Int}(m0:0<=m)(m1:m<=100):∃rows:List D,rows.length=m.toNat/\(∀r∈rows,vG m r)/\XN [.lst (ns.map D.int),.int m,.int dn]=some (true,.lst rows):=by
 obtain⟨s,hs⟩:∃s:D,s=.lst (ns.map D.int):=⟨_,rfl⟩;rw[<-hs];have hr:GS [some (false,s),some (false,.int m),some (false,.int dn),some (true,.lst []),none,none,none,none]=some (wo m.toNat):=ZB (n:=m) rfl (by omega)
 obtain⟨σ',e,L,x4,x5,x6,x7,hl,hL,rfl⟩:=tW (g:=yD 4) (b:=WA) (λi σ=>∃L x4 x5 x6 x7,L.length=i/\(∀r∈L,vG m r)/\σ=[some (false,s),some (false,.int m),some (false,.int dn),some (true,.lst L),x4,x5,x6,x7]) (ds:=wo m.toNat)
  (σ:=[some (false,s),some (false,.int m),some (false,.int dn),some (true,.lst []),none,none,none,none]) 0 ⟨[],none,none,none,none,rfl,(λ_ h=>by cases h),rfl⟩ (by
  rintro i v σ hv ⟨L,x4,x5,x6,x7,hl,hL,rfl⟩;obtain⟨hi,rfl⟩:=ZQ hv;obtain⟨r,hr,y5,y6,y7,e⟩:=fJ (s:=s) (ns:=ns) (m:=m) (dn:=dn) (i:=(i:Int)) (L:=L) (x5:=x5) (x6:=x6) (x7:=x7) hs (by omega) m0 (by omega);refine⟨_,_,rfl,.inl e,L++[r],_,y5,y6,y7,by rw[xC,hl]; rfl,?_,rfl⟩;intro x hx;rcases wb.mp hx with hx|hx
  ·exact hL x hx
  ·cases wO.mp hx;exact hr)
 rw[Yn,wq]at hl;refine⟨L,hl,hL,?_⟩;rw[Rl];unfold OA;simp![hr,e]
theorem AY(c:Int):∃m:Int,0<=m/\m<=60/\XJ [.int c]=some (false,.int m):=by
 have b1:∀x:Int,(∃k,zo (.int (c/24%4)) (.int 1)=some (.bl k)):=λ_=>⟨_,rfl⟩
 obtain⟨k1,e1⟩:∃k,zo (.int (c/24%4)) (.int 1)=some (.bl k):=⟨_,rfl⟩;obtain⟨k2,e2⟩:∃k,zo (.int (c/24%8)) (.int 3)=some (.bl k):=⟨_,rfl⟩;cases k1<;>cases k2
 ·refine⟨c%24,by omega,by omega,?_⟩;rw[UV];unfold Zz;simp![e1,e2,add_int]
 ·refine⟨30+c/192%31,by omega,by omega,?_⟩;rw[UV];unfold Zz;simp![e1,e2,add_int]
 ·refine⟨16+c/96%24,by omega,by omega,?_⟩;rw[UV];unfold Zz;simp![e1,e2,add_int]
 ·refine⟨30+c/192%31,by omega,by omega,?_⟩;rw[UV];unfold Zz;simp![e1,e2,add_int]
theorem Nt(ns:List Int):∃rows items:List D,rows.length<=60/\(∀r∈rows,vG (rows.length:Int) r)/\(∀d∈items,gw d)/\uv (gv items) rows (items.filter λd=>!wR d)/\items.length<=1000/\XG [.lst (ns.map D.int)]=some (false,.tup [.lst rows,.lst items]):=by
 have hc0:=Y4 ns (k:=0) (by decide);have hc1:=Y4 ns (k:=1) (by decide);obtain⟨m,m0,m1,em⟩:=AY (uW ns 0);obtain⟨dn,_,ed⟩:=Lh (a:=4) (b:=2) (c:=6) (d:=8) (i:=uW ns 1%4) (by omega) (by omega);obtain⟨rows,hl,hr,er⟩:=fH (ns:=ns) (m:=m) (dn:=dn) m0 (by omega);have hr':∀r∈rows,vG (rows.length:Int) r:=by rw[hl,show((m.toNat:Nat):Int)=m by omega]; exact hr
 obtain⟨items,ei,h1,h2,h3⟩:=Sc (cell:=uW ns 1/4) hr' (by omega);refine⟨rows,items,by omega,hr',h1,h2,h3,?_⟩;generalize D.lst (ns.map D.int)=s at hc0 hc1 er ⊢;rw[Ra];unfold O0;simp![hc0,em,hc1,ed,er,ei]
noncomputable def k7:FS:=
 (zr (e2 zo (e2 zI (z7 0) (eC (.int 0))) (eC (.str "label"))))
noncomputable def j5:List D->Option (Bool×D):=FR 1 1 k7
theorem Xs(x0:D):j5 [x0]=ya 1 k7 [x0]:=rfl
noncomputable def zM(f:Nat->Bool):Nat->Int
 |0=>0
 |n+1=>zM f n+(if f n then 2 else 1)
noncomputable def xm(f:Nat->Bool)(n:Nat):List D:=(List.range n).map λi=>D.int (zM f i)
theorem DU(f:Nat->Bool)(n:Nat):xm f (n+1)=xm f n++[.int (zM f n)]:=by
 unfold xm;rw[Yw,vO];rfl
theorem NK(f:Nat->Bool)(n:Nat):(xm f n).length=n:=by simp[xm]
noncomputable def yM(z6:List Nat):List D:=z6.map λi:Nat=>D.int i
noncomputable def zG(z6:List Nat)(n:Nat):Bool:=(yM z6).any λy=>yt y (.int (n:Int))
noncomputable def tgt(r:D):D:=match xK r with
 |true=>pQ r
 |false=>.zD
theorem m9{m:Int}{r:D}(h:vG m r):(xK r=false/\tgt r=.zD)\/(xK r=true/\∃p:Nat,(p:Int)<=m/\tgt r=.int (p:Int)/\pQ r=.int (p:Int)/\zI r (.int (-1))=some (.int (p:Int))):=by
 rcases h with h|h
 ·obtain⟨_,_,_,_,c,_⟩:=jL h;refine .inl ⟨c,?_⟩;unfold tgt;rw[c]
 ·obtain⟨w,p,_,_,_,c,_,q1,q2,p0,p1⟩:=qS h;have hp:((p.toNat:Nat):Int)=p:=by omega
  refine .inr ⟨c,p.toNat,by omega,?_,by rw[hp,q2],by rw[hp,q1]⟩;unfold tgt;rw[c,hp];exact q2
noncomputable def dv(f:Nat->Bool)(d:D):D:=match d with
 |.tup [.int i,.int p]=>.int (zM f p.toNat-zM f i.toNat)
 |_=>.zD
theorem Vr{f:Nat->Bool}{n p:Nat}(h:p<n):zI (.lst (xm f n)) (.int (p:Int))=some (.int (zM f p)):=by
 refine qK (by omega) ?_;rw[wH];unfold xm;rw[wM,J3 h];rfl
noncomputable def CV:D->Bool
 |.zD=>true
 |.int x=>decide (-16<=x)&&decide (x<=15)
 |_=>false
noncomputable def pD(rows:List D)(z6:List Nat)(i:Nat):Bool:=!CV (dv (zG z6) (.tup [.int (i:Int),tgt (rows.getD i .zD)]))
noncomputable def gF(rows:List D)(z6:List Nat):List Nat:=((List.range rows.length).filter λi=>!zG z6 i).filter (pD rows z6)
noncomputable def qf(l:List Nat):List Nat:=(L2.isort (l.map λi:Nat=>(i:Int))).map Int.toNat
theorem l9(l:List Nat):yM (qf l)=(L2.isort (l.map λi:Nat=>(i:Int))).map D.int:=by
 unfold yM qf;rw[jV];refine Kl λx hx=>?_
 obtain⟨i,_,rfl⟩:=v4.mp ((L2.isort_perm _).mem_iff.mp hx);rfl
theorem QD(l:List Nat):(qf l).Perm l:=by
 have h:=(L2.isort_perm (l.map λi:Nat=>(i:Int))).map Int.toNat;rw[jV]at h
 have e:l.map (Int.toNat∘λi:Nat=>(i:Int))=l:=by
  rw[show(Int.toNat∘λi:Nat=>(i:Int))=id from funext λi=>wH i,J7]
 rw[e]at h;exact h
inductive jA(g:List Nat->List Nat):List Nat->List Nat->Nat->Prop
 |stop {z6:List Nat}:g z6=[]->jA g z6 z6 0
 |go {z6 R:List Nat} {k:Nat}:g z6≠[]->(z6++g z6).length<64->jA g (qf (z6++g z6)) R k->jA g z6 R (k+1)
noncomputable def j8(n:Nat)(l:List Nat):Prop:=l.Nodup/\∀x∈l,x<n
theorem Gc{g:List Nat->List Nat}{n:Nat}(hn:n<64)(hg:∀z6,j8 n z6->j8 n (z6++g z6)):∀(m:Nat)(z6:List Nat),j8 n z6->n-z6.length<=m->∃R k,jA g z6 R k/\k<=m/\j8 n R
 |m,z6,gf,hm=>by
  by_cases e:g z6=[]
  ·exact⟨z6,0,.stop e,qo _,gf⟩
  ·have g2:=hg z6 gf;have l2:=OO n g2.1 g2.2;have l3:0<(g z6).length:=Kk.mpr e;rw[xC]at l2;have g3:j8 n (qf (z6++g z6)):=⟨(QD _).nodup_iff.mpr g2.1,λx hx=>g2.2 x ((QD _).mem_iff.mp hx)⟩;have l4:(qf (z6++g z6)).length=z6.length+(g z6).length:=by rw[(QD _).length_eq,xC]
   match m,hm with
   |0,hm=>omega
   |m+1,hm=>
    obtain⟨R,k,h,hk,gr⟩:=Gc hn hg m (qf (z6++g z6)) g3 (by omega);exact⟨R,k+1,.go e (by rw[xC]; omega) h,by omega,gr⟩
theorem lA{l:List Nat}(h:l.length<64):Oj [.lst (yM l)]=some (.lst (yM (qf l))):=by
 have e:yM l=(l.map λi:Nat=>(i:Int)).map D.int:=by
  unfold yM;rw[jV];rfl
 rw[l9,e];show(intsOf _).bind _=_;rw[Fv];show(if(l.map λi:Nat=>(i:Int)).length<64 then _ else _)=_;rw[zP (by rw[yK]; exact h)]
theorem NJ{a b:List Nat}(h:(a++b).length<64):zm (.lst (yM a)) (.lst (yM b))=some (.lst (yM (a++b))):=by
 show(if(yM a).length+(yM b).length<=yR then _ else _)=_;rw[xC]at h;unfold yM;rw[zP (by rw[yK,yK]; show _<=16777216; omega),vO]
theorem RK(l:List Nat):(!(yM l).isEmpty)=decide (l≠[]):=by
 cases l<;>rfl
theorem Rz{rows:List D}{z6:List Nat}(h:j8 rows.length z6):j8 rows.length (z6++gF rows z6):=by
 have mem:∀x∈gF rows z6,x<rows.length/\zG z6 x=false:=λx hx=>by
  have h1:=qk.mp (qk.mp hx).1;exact⟨tz.mp h1.1,by simpa using h1.2⟩
 refine⟨List.nodup_append.mpr ⟨h.1,(List.nodup_range.filter _).filter _,λa ha b hb e=>?_⟩,λx hx=>?_⟩
 ·subst e;have h2:=(mem a hb).2;have:zG z6 a=true:=Q_.mpr ⟨.int (a:Int),v4.mpr ⟨a,ha,rfl⟩,by unfold yt; exact Y_ _⟩;rw[this]at h2;cases h2
 ·rcases wb.mp hx with hx|hx
  ·exact h.2 x hx
  ·exact(mem x hx).1
theorem Ow(z6:List Nat)(n:Nat):jD (.int (n:Int)) (.lst (yM z6))=some (zG z6 n):=by
 have ha:(yM z6).all yY=true:=u5.mpr λy hy=>by
  obtain⟨p,_,rfl⟩:=v4.mp hy;rfl
 show(match yY (.int (n:Int))&&(yM z6).all yY with|true=>_|false=>_)=_;rw[ha];rfl
noncomputable def tT(rows:List D)(z6:List Nat)(i:Nat):Bool:=!zG z6 i&&pD rows z6 i
theorem Db{rows:List D}{z6:List Nat}{i:Nat}(h:xK (rows.getD i .zD)=false):pD rows z6 i=false:=by
 unfold pD tgt;rw[h];rfl
theorem RQ(rows:List D)(z6:List Nat):gF rows z6=(wS rows).filter (tT rows z6):=by
 unfold gF wS;rw[Kb,Kb];refine List.filter_congr λi _=>?_
 unfold tT;cases h:xK (rows.getD i .zD)with
 |true=>rw[Qu,Bool.and_comm]
 |false=>rw[Db h,Wn,u4]
noncomputable def GT:FA:=(uZ (eC (.int 0)) (eL xq (zB (z7 0) zF)))
noncomputable def L9:FS:=(zK (wK 2 xj (e2 zm (e2 zI (vt 2) (e1 wf (eC (.int 1)))) (eC (.int 1))))
    (zt (tE (e2 yu (z7 3) (z7 1)))
     (Q1 2 (e1 wf (eC (.int 1))) (e2 zm (e2 zI (vt 2) (e1 wf (eC (.int 1)))) (eC (.int 1))))
     yJ))
noncomputable def OB:FS:=
 (zK (vX 2 (ym (zB (eC (.int 0)) zF)))
  (zK (wm GT (yD 3)
   L9)
  (qZ 2)))
noncomputable def Zs:List D->Option (Bool×D):=FR 2 4 OB
theorem Rm(x0 x1:D):Zs [x0,x1]=ya 4 OB [x0,x1]:=rfl
noncomputable def L6:FS:=(zK (zY 5 (e2 wY (e2 zI (z7 2) (e2 zI (e2 zI (z7 0) (z7 4)) (e1 wf (eC (.int 1))))) (e2 zI (z7 2) (z7 4))))
    (zt (ZO (tE (e2 kE (z7 4) (z7 1))) (tG (tE (e2 (xE λi j=>decide (i<j)) (z7 5) (e1 wf (eC (.int 16))))) (tE (e2 (xE λi j=>decide (j<i)) (z7 5) (eC (.int 15))))))
     (wK 3 xj (z7 4))
     yJ))
noncomputable def O7:FS:=
 (zK (zY 2 (za Zs (zB (z7 0) (zB (z7 1) zF))))
  (zK (vX 3 (ym zF))
  (zK (wm (vy (za gs (zB (z7 0) zF))) (yD 4)
   L6)
  (qZ 3))))
noncomputable def jk:List D->Option (Bool×D):=FR 2 6 O7
theorem Ri(x0 x1:D):jk [x0,x1]=ya 6 O7 [x0,x1]:=rfl
theorem Hc{rows:List D}{z6:List Nat}(hl:rows.length<=900):Zs [.lst rows,.lst (yM z6)]=some (true,.lst (xm (zG z6) (rows.length+1))):=by
 have e3:GT [some (false,.lst rows),some (false,.lst (yM z6)),some (true,.lst [.int 0]),none]=some (wo rows.length):=ZB (n:=(rows.length:Int)) rfl (by omega)
 obtain⟨σ',e4,x3,rfl⟩:=tW (g:=yD 3) (b:=L9) (λi σ=>∃x3,σ=[some (false,.lst rows),some (false,.lst (yM z6)),some (true,.lst (xm (zG z6) (i+1))),x3]) (ds:=wo rows.length)
  (σ:=[some (false,.lst rows),some (false,.lst (yM z6)),some (true,.lst [.int 0]),none]) 0 ⟨none,rfl⟩ (by
  rintro i v σ hv ⟨x3,rfl⟩;obtain⟨hi,rfl⟩:=ZQ hv;rw[wq]at *;have hap:=vq (L:=xm (zG z6) (i+1)) (r:=.int (zM (zG z6) i+1)) (by rw[NK]; omega)
  have hin:yu (.int (i:Int)) (.lst (yM z6))=some (.bl (zG z6 i)):=by
   show(jD _ _).bind _=_;rw[Ow];rfl
  have i1:zI (.lst (xm (zG z6) (i+1))) (.int (-1))=some (.int (zM (zG z6) i)):=by rw[DU]; exact DZ _ _
  have i2:zI (.lst (xm (zG z6) (i+1)++[.int (zM (zG z6) i+1)])) (.int (-1))=some (.int (zM (zG z6) i+1)):=DZ _ _;refine⟨_,[some (false,.lst rows),some (false,.lst (yM z6)),some (true,.lst (xm (zG z6) (i+1+1))),some (false,.int (i:Int))],rfl,.inl ?_,_,rfl⟩;rw[DU _ (i+1)];show _=some (Fl.nx [_,_,some (true,.lst (_++[.int (zM (zG z6) i+(if zG z6 i then 2 else 1))])),_]);unfold L9;cases hf:zG z6 i
  ·rw[hf]at hin;simp![i1,add_int,hap,hin];rfl
  ·rw[hf]at hin
   have hs:Q1 2 (e1 wf (eC (.int 1))) (e2 zm (e2 zI (vt 2) (e1 wf (eC (.int 1)))) (eC (.int 1))) [some (false,.lst rows),some (false,.lst (yM z6)),some (true,.lst (xm (zG z6) (i+1)++[.int (zM (zG z6) i+1)])),some (false,.int (i:Int))] =
     some (.nx [some (false,.lst rows),some (false,.lst (yM z6)),some (true,.lst (xm (zG z6) (i+1)++[.int (zM (zG z6) i+2)])),some (false,.int (i:Int))]):=by
    have hn:L2.ixN (xm (zG z6) (i+1)++[D.int (zM (zG z6) i+1)]).length (-1)=some (xm (zG z6) (i+1)).length:=by
     rw[xC,J6];unfold L2.ixN;rw[zV (by decide),zP (by omega)]
     congr 1
     omega
    have ht:(xm (zG z6) (i+1)++[D.int (zM (zG z6) i+1)]).set (xm (zG z6) (i+1)).length (.int (zM (zG z6) i+2))=xm (zG z6) (i+1)++[.int (zM (zG z6) i+2)]:=by
     rw[Kp _ _ (y0 _),Nat.sub_self];rfl
    have h2:zM (zG z6) i+1+1=zM (zG z6) i+2:=by omega
    simp![Q1,i2,add_int,hn,h2,ht]
   simp![i1,add_int,hap,hin,hs];rfl)
 rw[Yn,wq]at e4;rw[Rm];unfold OB;simp![e3,e4]
theorem ac{rows:List D}(hr:∀r∈rows,vG (rows.length:Int) r)(hn:rows.length<=900){z6:List Nat}:jk [.lst rows,.lst (yM z6)]=some (true,.lst (yM (gF rows z6))):=by
 have e1:=Hc (rows:=rows) (z6:=z6) hn;have e2:=Oz hr (by omega)
 have jl:(wS rows).length<=900:=by
  have:=Kj (λi=>xK (rows.getD i .zD)) (List.range rows.length);rw[pq]at this;exact xO this hn
 obtain⟨σ',e3,x4,x5,rfl⟩:=tW (g:=yD 4) (b:=L6) (λi σ=>∃x4 x5,σ=[some (false,.lst rows),some (false,.lst (yM z6)),some (false,.lst (xm (zG z6) (rows.length+1))),some (true,.lst (yM (((wS rows).take i).filter (tT rows z6)))),x4,x5]) (ds:=(wS rows).map λi:Nat=>D.int i)
  (σ:=[some (false,.lst rows),some (false,.lst (yM z6)),some (false,.lst (xm (zG z6) (rows.length+1))),some (true,.lst []),none,none]) 0 ⟨none,none,rfl⟩ (by
  rintro i v σ hv ⟨x4,x5,rfl⟩;rw[wq]at *;rw[wM]at hv;cases hj:(wS rows)[i]? with
  |none=>rw[hj]at hv; cases hv
  |some j=>
  rw[hj]at hv;cases hv;have hi:=(xT.mp hj).1;have ej:=(xT.mp hj).2;have ht:(wS rows).take (i+1)=(wS rows).take i++[j]:=by rw[Ks hi,ej]
  obtain⟨jl1,jj⟩:=W7 (tH hj);have eg:rows.getD j .zD=rows[j]:=by rw[vF,yf jl1]; rfl
  rw[eg]at jj;have ex:zI (.lst rows) (.int (j:Int))=some rows[j]:=qK (by omega) (by rw[wH]; exact yf jl1);rcases m9 (hr _ (uQ jl1))with⟨z,_⟩|⟨_,p,p1,tp,_,lp⟩
  ·rw[z]at jj; cases jj
  have ap:=Vr (f:=zG z6) (n:=rows.length+1) (p:=p) (by omega);have aj:=Vr (f:=zG z6) (n:=rows.length+1) (p:=j) (by omega)
  have hni:kE (.int (j:Int)) (.lst (yM z6))=some (.bl (!zG z6 j)):=by
   show(jD _ _).bind _=_;rw[Ow];rfl
  have ea:pD rows z6 j=(decide (zM (zG z6) p-zM (zG z6) j < -16)||decide (15<zM (zG z6) p-zM (zG z6) j)):=by
   unfold pD;rw[eg,tp];show(!(decide (-16<=zM (zG z6) ((p:Int)).toNat-zM (zG z6) ((j:Int)).toNat)&&decide (zM (zG z6) ((p:Int)).toNat-zM (zG z6) ((j:Int)).toNat<=15)))=_;rw[wH,wH,Bool.not_and,<-decide_not,<-decide_not]
   congr 1
   ·exact decide_eq_decide.mpr (by omega)
   ·exact decide_eq_decide.mpr (by omega)
  have hap:=vq (L:=yM (((wS rows).take i).filter (tT rows z6))) (r:=.int (j:Int)) (by
   unfold yM;rw[yK];have h1:=Kj (tT rows z6) ((wS rows).take i);rw[qi]at h1;omega)
  have eL:yM (((wS rows).take (i+1)).filter (tT rows z6))=match tT rows z6 j with
   |true=>yM (((wS rows).take i).filter (tT rows z6))++[.int (j:Int)]
   |false=>yM (((wS rows).take i).filter (tT rows z6)):=by
   rw[ht,J1];cases hA:tT rows z6 j with
   |true=>
    rw[gb hA];unfold yM;rw[vO];rfl
   |false=>
    rw[Yt (by rw[hA]; decide),List.filter_nil,uP]
  refine⟨_,[some (false,.lst rows),some (false,.lst (yM z6)),some (false,.lst (xm (zG z6) (rows.length+1))),some (true,.lst (yM (((wS rows).take (i+1)).filter (tT rows z6)))),some (false,.int (j:Int)),some (false,.int (zM (zG z6) p-zM (zG z6) j))],rfl,.inl ?_,_,_,rfl⟩;rw[eL];unfold tT at *;rw[ea];generalize yM (List.filter (λi=>!zG z6 i&&pD rows z6 i) ((wS rows).take i))=LL at *;unfold L6;cases hf:zG z6 j with
  |true=>
   rw[hf]at hni;simp![ex,lp,ap,aj,hni,u4]
  |false=>
   rw[hf]at hni;cases c1:decide (zM (zG z6) p-zM (zG z6) j < -16)with
   |true=>simp![ex,lp,ap,aj,hni,c1,hap,pZ,Bool.true_or]
   |false=>
    cases c2:decide (15<zM (zG z6) p-zM (zG z6) j)with
    |true=>simp![ex,lp,ap,aj,hni,c1,c2,hap,pZ,BU]
    |false=>simp![ex,lp,ap,aj,hni,c1,c2,pZ,BU])
 rw[yK,wq,Za,<-RQ]at e3;rw[Ri];unfold O7;simp![e1,e2,e3]
noncomputable def De:FS:=
 (zK (zY 4 (e2 g8 (e2 wY (e2 g8 (eC (.int 1)) (z7 2)) (eC (.int 1))) (z7 1)))
  (zr (e2 (qN Builtin.bitOr) (e2 (qN Builtin.bitAnd) (z7 0) (e1 Of (z7 4))) (e2 g8 (z7 3) (z7 1)))))
theorem dX{d:Nat}(h:d<64):1<=(2:Int) ^ d/\(2:Int) ^ d<2 ^ 64:=by
 have h1:(2:Nat) ^ d<2 ^ 64:=Nat.pow_lt_pow_right (by decide) h;have h2:0<(2:Nat) ^ d:=Nat.pow_pos (by decide);have e:((2 ^ d:Nat):Int)=(2:Int) ^ d:=by simp
 have e2:((2 ^ 64:Nat):Int)=(2:Int) ^ 64:=by decide
 omega
noncomputable def Zu:List D->Option (Bool×D)
 | [.int x,.int l,.int d,.int n]=>if(0<=x/\0<=l/\l<64/\0<=d/\d<64)/\0<=n/\n<2 ^ d.toNat then some (false,.int (x+(n-x/2 ^ l.toNat%2 ^ d.toNat)*2 ^ l.toNat))else none
 |_=>none
theorem fM:∀ds r,Zu ds=some r->ds.length=4/\ya 5 De ds=some r:=λds r h=>by
 unfold Zu at h
 split at h
 ·rename_i x l d n;refine⟨rfl,?_⟩
  split at h
  ·rename_i c;obtain⟨⟨x0,l0,l1,d0,d1⟩,n0,n1⟩:=c;obtain⟨p0,p1⟩:=dX (d:=d.toNat) (by omega);cases h;have e1:=Z8 (i:=1) (j:=d) d0 d1 (by decide) (by decide);have e2:=Z8 (i:=1*2 ^ d.toNat-1) (j:=l) l0 l1 (by omega) (by omega);have e3:=Z8 (i:=n) (j:=l) l0 l1 n0 (by omega);unfold De;simp![e1,e2,e3,Of,sW x0 n0 n1]
  ·cases h
 ·cases h
theorem sY{x l d n:Int}(h:(0<=x/\0<=l/\l<64/\0<=d/\d<64)/\0<=n/\n<2 ^ d.toNat):Zu [.int x,.int l,.int d,.int n]=some (false,.int (x+(n-x/2 ^ l.toNat%2 ^ d.toNat)*2 ^ l.toNat)):=zP h
noncomputable def Nf:FS:=
 (zK (zt (tE (e2 zo (z7 1) (eC (.str "n"))))
   (zr (yq (zB (eC (.int 0)) (zB (e1 (xZ Oo Ou) (z7 0)) zF))))
   yJ)
  (zr (e1 (xZ uF uG) (z7 1))))
noncomputable def xi:List D->Option (Bool×D):=FR 2 2 Nf
noncomputable def OL:FS:=
 (zr (za Zu (zB (z7 0) (zB (e2 zI (z7 1) (eC (.int 0))) (zB (e2 zI (z7 1) (eC (.int 1))) (zB (z7 2) zF))))))
noncomputable def tL:List D->Option (Bool×D):=FR 3 3 OL
theorem Rw(x0 x1 x2:D):tL [x0,x1,x2]=ya 3 OL [x0,x1,x2]:=rfl
theorem Qd{x l d n:Int}(h:(0<=x/\0<=l/\l<64/\0<=d/\d<64)/\0<=n/\n<2 ^ d.toNat):tL [.int x,.tup [.int l,.int d],.int n]=some (false,.int (x+(n-x/2 ^ l.toNat%2 ^ d.toNat)*2 ^ l.toNat)):=by
 have i0:zI (.tup [.int l,.int d]) (.int 0)=some (.int l):=rfl;have i1:zI (.tup [.int l,.int d]) (.int 1)=some (.int d):=rfl;rw[Rw];unfold OL;simp![i0,i1,sY h]
noncomputable def sZ:FE:=(z7 1)
noncomputable def sn:FT:=(tE (e2 xA (z7 1) (eC (.str "name"))))
noncomputable def NZ:FS:=
 (gO (wx 1 (vy (e1 (xZ pJ pK) (z7 0))) (yD 1) sn sZ))
noncomputable def wP:List D->Option (Bool×D):=FR 1 1 NZ
noncomputable def W9:FS:=(zK (zY 5 (qM (tE (e2 zo (z7 3) (eC (.str "mark")))) (e1 (Xm Xq) (z7 4)) (z7 4)))
    (zY 2 (za tL (zB (z7 2) (zB (za xi (zB (e2 zI (z7 0) (eC (.int 0))) (zB (z7 3) zF))) (zB (z7 5) zF))))))
noncomputable def k6:FS:=
 (zK (zY 2 (za tL (zB (eC (.int 0)) (zB (e1 (xZ uF uG) (eC (.str "kind"))) (zB (z7 1) zF)))))
  (zK (wm (t8 (g6 wP (zB (e2 zI (z7 0) (eC (.int 0))) zF)) (pG (z7 0) (x_ (eC (.int 1))) xz)) (vV 3 4)
   W9)
  (zr (z7 2))))
noncomputable def uw:List D->Option (Bool×D):=FR 2 6 k6
theorem Xr(x0 x1:D):uw [x0,x1]=ya 6 k6 [x0,x1]:=rfl
theorem WP{c:Int}(h0:0<=c)(h1:c<32):tL [.int 0,.tup [.int 27,.int 5],.int c]=some (false,.int (c*134217728)):=by
 rw[Qd (x:=0) (l:=27) (d:=5) (n:=c) ⟨by decide,h0,h1⟩];simp
theorem put_at{x l d n m:Int}(hl:0<=l/\l<64)(hd:0<=d/\d<64)(x0:0<=x)(n0:0<=n)(n1:n<2 ^ d.toNat)(hz:x/2 ^ l.toNat%2 ^ d.toNat=0)(hm:m=2 ^ l.toNat):tL [.int x,.tup [.int l,.int d],.int n]=some (false,.int (x+n*m)):=by
 rw[Qd ⟨⟨x0,hl.1,hl.2,hd.1,hd.2⟩,n0,n1⟩,hz,hm,Bg]
theorem Xn{c:Int}(c0:0<=c)(c1:c<32){w:Str}(hf:wP [.str w]=some (true,.lst [])):uw [.tup [.str w],.int c]=some (false,.int (c*134217728)):=by
 have hk:xZ uF uG (.str "kind")=some (.tup [.int 27,.int 5]):=by rfl
 have q1:=WP c0 c1;have sl:kG (.tup [.str w]) (some 1) none=some (.tup []):=by rfl
 rw[Xr];unfold k6;simp![hk,q1,xW,hf,t8,pG,x_,xz,sl,uk,py]
theorem FQ{w:Str}{c W d n:Int}(hf:wP [.str w]=some (true,.lst [.str "d",.str "n"]))(hd:xi [.str w,.str "d"]=some (false,.tup [.int 24,.int 3]))(hn:xi [.str w,.str "n"]=some (false,.tup [.int 0,.int W]))
  (c0:0<=c)(c1:c<32)(w0:0<=W)(w1:W<=16)(d0:0<=d)(d1:d<8)(n0:0<=n)(n1:n<2 ^ W.toNat)(hp:(2:Int) ^ W.toNat ∣ 16777216) :
  uw [.tup [.str w,.int d,.int n],.int c]=some (false,.int (c*134217728+d*16777216+n)):=by
 have hk:xZ uF uG (.str "kind")=some (.tup [.int 27,.int 5]):=by rfl
 have q1:=WP c0 c1;have q2:=put_at (x:=c*134217728) (l:=24) (d:=3) (n:=d) (m:=16777216) (by decide) (by decide) (by omega) d0 d1 (by show c*134217728/16777216%8=0; omega) (by decide)
 have q3:=put_at (x:=c*134217728+d*16777216) (l:=0) (d:=W) (n:=n) (m:=1) (by decide) ⟨w0,by omega⟩ (by omega) n0 n1 (by
  show(c*134217728+d*16777216)/1%2 ^ W.toNat=0;rw[tq];obtain⟨k,hk⟩:=hp;rw[show c*134217728+d*16777216=2 ^ W.toNat*(k*(8*c+d)) by rw[<-Int.mul_assoc,<-hk]; omega];exact KZ _ _) (by decide)
 have m1:zo (.str "d") (.str "mark")=some (.bl false):=by rfl
 have m2:zo (.str "n") (.str "mark")=some (.bl false):=by rfl
 have sl:kG (.tup [.str w,.int d,.int n]) (some 1) none=some (.tup [.int d,.int n]):=by rfl
 rw[Xr];unfold k6;simp![hk,q1,xW,hf,t8,pG,x_,xz,sl,uk,ql,py,W9,m1,m2,hd,q2,hn,q3,Bd]
theorem FU{w:Str}{c d s:Int}(hf:wP [.str w]=some (true,.lst [.str "d",.str "s"]))(hd:xi [.str w,.str "d"]=some (false,.tup [.int 24,.int 3]))(hs:xi [.str w,.str "s"]=some (false,.tup [.int 21,.int 3]))
  (c0:0<=c)(c1:c<32)(d0:0<=d)(d1:d<8)(s0:0<=s)(s1:s<8) :
  uw [.tup [.str w,.int d,.int s],.int c]=some (false,.int (c*134217728+d*16777216+s*2097152)):=by
 have hk:xZ uF uG (.str "kind")=some (.tup [.int 27,.int 5]):=by rfl
 have q1:=WP c0 c1;have q2:=put_at (x:=c*134217728) (l:=24) (d:=3) (n:=d) (m:=16777216) (by decide) (by decide) (by omega) d0 d1 (by show c*134217728/16777216%8=0; omega) (by decide);have q3:=put_at (x:=c*134217728+d*16777216) (l:=21) (d:=3) (n:=s) (m:=2097152) (by decide) (by decide) (by omega) s0 s1 (by show(c*134217728+d*16777216)/2097152%8=0; omega) (by decide);have m1:zo (.str "d") (.str "mark")=some (.bl false):=by rfl
 have m2:zo (.str "s") (.str "mark")=some (.bl false):=by rfl
 have sl:kG (.tup [.str w,.int d,.int s]) (some 1) none=some (.tup [.int d,.int s]):=by rfl
 rw[Xr];unfold k6;simp![hk,q1,xW,hf,t8,pG,x_,xz,sl,uk,ql,py,W9,m1,m2,hd,q2,hs,q3]
theorem FV{w:Str}{c d s n:Int}(hf:wP [.str w]=some (true,.lst [.str "d",.str "s",.str "n"]))(hd:xi [.str w,.str "d"]=some (false,.tup [.int 24,.int 3]))(hs:xi [.str w,.str "s"]=some (false,.tup [.int 21,.int 3]))
  (hn:xi [.str w,.str "n"]=some (false,.tup [.int 0,.int 8]))(c0:0<=c)(c1:c<32)(d0:0<=d)(d1:d<8)(s0:0<=s)(s1:s<8)(n0:0<=n)(n1:n<256) :
  uw [.tup [.str w,.int d,.int s,.int n],.int c]=some (false,.int (c*134217728+d*16777216+s*2097152+n)):=by
 have hk:xZ uF uG (.str "kind")=some (.tup [.int 27,.int 5]):=by rfl
 have q1:=WP c0 c1;have q2:=put_at (x:=c*134217728) (l:=24) (d:=3) (n:=d) (m:=16777216) (by decide) (by decide) (by omega) d0 d1 (by show c*134217728/16777216%8=0; omega) (by decide);have q3:=put_at (x:=c*134217728+d*16777216) (l:=21) (d:=3) (n:=s) (m:=2097152) (by decide) (by decide) (by omega) s0 s1 (by show(c*134217728+d*16777216)/2097152%8=0; omega) (by decide);have q4:=put_at (x:=c*134217728+d*16777216+s*2097152) (l:=0) (d:=8) (n:=n) (m:=1) (by decide) (by decide) (by omega) n0 n1 (by show(c*134217728+d*16777216+s*2097152)/1%256=0; omega) (by decide);have m1:zo (.str "d") (.str "mark")=some (.bl false):=by rfl
 have m2:zo (.str "s") (.str "mark")=some (.bl false):=by rfl
 have m3:zo (.str "n") (.str "mark")=some (.bl false):=by rfl
 have sl:kG (.tup [.str w,.int d,.int s,.int n]) (some 1) none=some (.tup [.int d,.int s,.int n]):=by rfl
 rw[Xr];unfold k6;simp![hk,q1,xW,hf,t8,pG,x_,xz,sl,uk,ql,py,W9,m1,m2,m3,hd,q2,hs,q3,hn,q4,Bd]
theorem Om{c m:Int}{w k:Str}(hf:wP [.str w]=some (true,.lst [.str "mark"]))(hp:xi [.str w,.str "mark"]=some (false,.tup [.int 24,.int 2]))(hm:Xm Xq (.str k)=some (.int m))(m0:0<=m)(m1:m<3)(c0:0<=c)(c1:c<32):uw [.tup [.str w,.str k],.int c]=some (false,.int (c*134217728+m*16777216)):=by
 have hk:xZ uF uG (.str "kind")=some (.tup [.int 27,.int 5]):=by rfl
 have q1:=WP c0 c1;have q2:=put_at (x:=c*134217728) (l:=24) (d:=2) (n:=m) (m:=16777216) (by decide) (by decide) (by omega) m0 (by show m<4; omega) (by show c*134217728/16777216%4=0; omega) (by decide);have e1:zo (.str "mark") (.str "mark")=some (.bl true):=by rfl
 have sl:kG (.tup [.str w,.str k]) (some 1) none=some (.tup [.str k]):=by rfl
 rw[Xr];unfold k6;simp![hk,q1,xW,hf,t8,pG,x_,xz,sl,uk,ql,py,W9,e1,hm,hp,q2]
noncomputable def Nd:FS:=
 (zK (zY 0 (ym (zB (eC (.str "stop")) (zB (eC (.str "set")) (zB (eC (.str "high")) (zB (eC (.str "copy")) (zB (eC (.str "add")) (zB (eC (.str "addc")) (zB (eC (.str "sub")) (zB (eC (.str "subc")) (zB (eC (.str "and")) (zB (eC (.str "or")) (zB (eC (.str "xor")) (zB (eC (.str "test")) zF))))))))))))))
  (zr (e2 zm (z7 0) (ym (zB (eC (.str "left")) (zB (eC (.str "right")) (zB (eC (.str "load")) (zB (eC (.str "store")) (zB (eC (.str "loadw")) (zB (eC (.str "storew")) zF))))))))))
noncomputable def XL:List D->Option (Bool×D):=FR 0 1 Nd
noncomputable def Y1:FS:=
 (zK (zY 1 (e2 qP (e2 vB (za XL zF) (e2 zI (z7 0) (eC (.int 0)))) (e2 uD (eC (.int 2)) (eC (.int 27)))))
  (zK (zt (tE (e2 zo (e2 zI (z7 0) (eC (.int 0))) (eC (.str "stop"))))
   (zr (z7 1))
   yJ)
  (zK (zY 1 (e2 zm (z7 1) (e2 qP (e2 zI (z7 0) (eC (.int 1))) (e2 uD (eC (.int 2)) (eC (.int 24))))))
  (zK (zt (tE (e2 yu (e2 zI (z7 0) (eC (.int 0))) (yq (zB (eC (.str "set")) (zB (eC (.str "high")) (zB (eC (.str "left")) (zB (eC (.str "right")) zF)))))))
   (zr (e2 zm (z7 1) (e2 zI (z7 0) (eC (.int 2)))))
   yJ)
  (zK (zY 1 (e2 zm (z7 1) (e2 qP (e2 zI (z7 0) (eC (.int 2))) (e2 uD (eC (.int 2)) (eC (.int 21))))))
  (zK (zt (tE (e2 zo (eL xq (zB (z7 0) zF)) (eC (.int 4))))
   (zY 1 (e2 zm (z7 1) (e2 zI (z7 0) (eC (.int 3)))))
   yJ)
  (zr (z7 1))))))))
noncomputable def uz:List D->Option (Bool×D):=FR 1 2 Y1
theorem UY(x0:D):uz [x0]=ya 2 Y1 [x0]:=rfl
noncomputable abbrev vg:D:=.lst [.str "stop",.str "set",.str "high",.str "copy",.str "add",.str "addc",.str "sub",.str "subc",.str "and",.str "or",.str "xor",.str "test",.str "left",.str "right",.str "load",.str "store",.str "loadw",.str "storew"]
theorem WL:XL []=some (false,vg):=by rfl
theorem WQ:wJ 2 27=true/\wJ 2 24=true/\wJ 2 21=true/\vC 134217728=true/\vC 16777216=true/\vC 2097152=true:=⟨by decide,by decide,by decide,by decide,by decide,by decide⟩
theorem CO:uz [.tup [.str "stop"]]=some (false,.int 0):=by
 have hi:vB vg (.str "stop")=some (.int 0):=by rfl
 have hs:zo (.str "stop") (.str "stop")=some (.bl true):=by rfl
 have hO:=WL;rw[UY];unfold Y1;generalize vg=O at hi hO;simp![hO,xW,hi,WQ,hs]
theorem WE{w:Str}{c d n:Int}(hi:vB vg (.str w)=some (.int c))(hs:zo (.str w) (.str "stop")=some (.bl false))(hin:yu (.str w) (.tup [.str "set",.str "high",.str "left",.str "right"])=some (.bl true)) :
  uz [.tup [.str w,.int d,.int n]]=some (false,.int (c*134217728+d*16777216+n)):=by
 have i1:∀{a b c:D},zI (.tup [a,b,c]) (.int 1)=some b:=rfl;have i2:∀{a b c:D},zI (.tup [a,b,c]) (.int 2)=some c:=rfl;have hO:=WL;rw[UY];unfold Y1;generalize vg=O at hi hO;simp![hO,xW,i1,i2,hi,WQ,hs,hin,add_int]
theorem pR{w:Str}{c d n:Int}(hi:vB vg (.str w)=some (.int c))(hs:zo (.str w) (.str "stop")=some (.bl false))(hin:yu (.str w) (.tup [.str "set",.str "high",.str "left",.str "right"])=some (.bl false)) :
  uz [.tup [.str w,.int d,.int n]]=some (false,.int (c*134217728+d*16777216+n*2097152)):=by
 have i1:∀{a b c:D},zI (.tup [a,b,c]) (.int 1)=some b:=rfl;have i2:∀{a b c:D},zI (.tup [a,b,c]) (.int 2)=some c:=rfl;have hl:zo (.int ((0+1+1+1:Nat):Int)) (.int 4)=some (.bl false):=by rfl
 have hO:=WL;rw[UY];unfold Y1;generalize vg=O at hi hO;simp![hO,xW,i1,i2,hi,WQ,hs,hin,add_int,hl]
theorem WF{w:Str}{c d s n:Int}(hi:vB vg (.str w)=some (.int c))(hs:zo (.str w) (.str "stop")=some (.bl false))(hin:yu (.str w) (.tup [.str "set",.str "high",.str "left",.str "right"])=some (.bl false)) :
  uz [.tup [.str w,.int d,.int s,.int n]]=some (false,.int (c*134217728+d*16777216+s*2097152+n)):=by
 have i1:∀{a b c e:D},zI (.tup [a,b,c,e]) (.int 1)=some b:=rfl;have i2:∀{a b c e:D},zI (.tup [a,b,c,e]) (.int 2)=some c:=rfl;have i3:∀{a b c e:D},zI (.tup [a,b,c,e]) (.int 3)=some e:=rfl;have hl:zo (.int ((0+1+1+1+1:Nat):Int)) (.int 4)=some (.bl true):=by rfl
 have hO:=WL;rw[UY];unfold Y1;generalize vg=O at hi hO;simp![hO,xW,i1,i2,i3,hi,WQ,hs,hin,add_int,hl]
noncomputable def V_:FS:=
 (zr (e2 (qN Builtin.bitAnd) (e2 UJ (z7 0) (z7 1)) (e2 wY (e2 g8 (eC (.int 1)) (z7 2)) (eC (.int 1)))))
noncomputable def gu:List D->Option (Bool×D):=FR 3 3 V_
theorem Fe(x0 x1 x2:D):gu [x0,x1,x2]=ya 3 V_ [x0,x1,x2]:=rfl
noncomputable def OF:FS:=
 (zr (za gu (zB (z7 0) (zB (e2 zI (z7 1) (eC (.int 0))) (zB (e2 zI (z7 1) (eC (.int 1))) zF)))))
noncomputable def q_:List D->Option (Bool×D):=FR 2 2 OF
theorem Rq(x0 x1:D):q_ [x0,x1]=ya 2 OF [x0,x1]:=rfl
noncomputable def Iy:FS:=
 (zr (za q_ (zB (z7 0) (zB (e1 (xZ uF uG) (eC (.str "kind"))) zF))))
noncomputable def vn:List D->Option (Bool×D):=FR 1 1 Iy
theorem RX(x0:D):vn [x0]=ya 1 Iy [x0]:=rfl
noncomputable def si:FE:=(z7 2)
noncomputable def sr:FT:=(tE (e2 zo (e1 (xZ pI jF) (z7 2)) (z7 0)))
noncomputable def sj:FE:=(z7 2)
noncomputable def ss:FT:=(tE (e2 zo (e1 (xZ kK kN) (z7 2)) (z7 0)))
noncomputable def sk:FE:=(z7 2)
noncomputable def su:FT:=(tE (e2 zo (e1 (xZ kJ kM) (z7 2)) (z7 0)))
noncomputable def Nc:FS:=
 (zK (vX 1 (wx 1 (iG pI) (yD 2) sr si))
  (zK (Q0 1 (wx 1 (iG kK) (yD 2) ss sj))
  (zK (Q0 1 (wx 1 (iG kJ) (yD 2) su sk))
  (zK (qY 1) (zr (qM (tE (e2 zo (z7 1) (ym zF))) (eC .zD) (e2 zI (z7 1) (eC (.int 0)))))))))
noncomputable def ji:List D->Option (Bool×D):=FR 1 2 Nc
noncomputable def Nb:FS:=
 (zr (e2 yu (z7 0) (eC (.lst kN))))
noncomputable def qD:List D->Option (Bool×D):=FR 1 1 Nb
noncomputable def Na:FS:=
 (zr (e2 yu (z7 0) (eC (.lst kM))))
noncomputable def tK:List D->Option (Bool×D):=FR 1 1 Na
noncomputable def Vz:FS:=
 (zK (zY 3 (za q_ (zB (z7 0) (zB (za xi (zB (z7 1) (zB (z7 2) zF))) zF))))
  (zK (zt (tE (e2 xA (z7 2) (eC (.str "mark"))))
   (zr (z7 3))
   yJ)
  (zr (qM (tE (e2 (xE λi j=>decide (i<j)) (z7 3) (eL xq (zB (eC kL) zF)))) (e2 zI (eC kL) (z7 3)) (eC .zD)))))
noncomputable def wu:List D->Option (Bool×D):=FR 3 4 Vz
theorem Fd(x0 x1 x2:D):wu [x0,x1,x2]=ya 4 Vz [x0,x1,x2]:=rfl
noncomputable def vj:FE:=(za wu (zB (z7 0) (zB (z7 2) (zB (z7 5) zF))))
noncomputable def Xg:FS:=
 (zK (zY 1 (za vn (zB (z7 0) zF)))
  (zK (zY 2 (za ji (zB (z7 1) zF)))
  (zK (zt (tE (e2 Y5 (z7 2) (eC .zD)))
   (zr (eC .zD))
   yJ)
  (zK (zY 3 (eL UK (zB (e2 zm (ym (zB (z7 2) zF)) (wx 1 (vy (g6 wP (zB (z7 2) zF))) (yD 5) xP vj)) zF)))
  (zK (zt (tE (e2 yu (eC .zD) (z7 3)))
   (zr (eC .zD))
   yJ)
  (zK (zY 4 (qM (tE (za qD (zB (z7 1) zF))) (za tL (zB (z7 0) (zB (e1 (xZ uF uG) (eC (.str "distance"))) (zB (eC (.int 0)) zF)))) (z7 0)))
  (zr (qM (tE (e2 zo (za uw (zB (z7 3) (zB (z7 1) zF))) (z7 4))) (z7 3) (eC .zD)))))))))
noncomputable def v8:List D->Option (Bool×D):=FR 1 5 Xg
theorem Ot(x0:D):v8 [x0]=ya 5 Xg [x0]:=rfl
noncomputable def OI:FS:=
 (zK (zY 2 (e2 g8 (eC (.int 1)) (z7 1)))
  (zr (qM (tE (e2 (xE λi j=>decide (i<j)) (e2 Xk (eC (.int 2)) (z7 0)) (z7 2))) (z7 0) (e2 wY (z7 0) (z7 2)))))
noncomputable def jp:List D->Option (Bool×D):=FR 2 3 OI
theorem Rt(x0 x1:D):jp [x0,x1]=ya 3 OI [x0,x1]:=rfl
noncomputable def Vy:FS:=
 (zK (zt (tE (e2 (xE λi j=>decide (j<=i)) (e2 zm (z7 1) (eC (.int 1))) (eL xq (zB (z7 0) zF))))
   (zr (eC .zD))
   yJ)
  (zr (yq (zB (z7 2) (zB (e2 zm (z7 1) (eC (.int 2))) (zB (e2 zm (z7 1) (za jp (zB (e2 zI (z7 0) (e2 zm (z7 1) (eC (.int 1)))) (zB (eC (.int 32)) zF)))) zF))))))
noncomputable def Zm:List D->Option (Bool×D):=FR 3 3 Vy
theorem Fc(x0 x1 x2:D):Zm [x0,x1,x2]=ya 3 Vy [x0,x1,x2]:=rfl
noncomputable def jw:FS:=
 (zK (zt (tG (tE (e2 (xE λi j=>decide (i<j)) (z7 1) (eC (.int 0)))) (tE (e2 (xE λi j=>decide (j<=i)) (z7 1) (eL xq (zB (z7 0) zF)))))
   (zr (eC .zD))
   yJ)
  (zK (zY 2 (za v8 (zB (e2 zI (z7 0) (z7 1)) zF)))
  (zK (zt (tE (e2 Y5 (z7 2) (eC .zD)))
   (zr (eC .zD))
   yJ)
  (zK (zY 3 (za vn (zB (e2 zI (z7 0) (z7 1)) zF)))
  (zK (zt (tE (za tK (zB (z7 3) zF)))
   (zr (za Zm (zB (z7 0) (zB (z7 1) (zB (z7 2) zF)))))
   yJ)
  (zK (zt (tE (za qD (zB (z7 3) zF)))
   (zK (zY 4 (e1 (xZ uF uG) (eC (.str "distance"))))
    (zr (yq (zB (z7 2) (zB (e2 zm (z7 1) (eC (.int 1))) (zB (e2 zm (z7 1) (za jp (zB (za q_ (zB (e2 zI (z7 0) (z7 1)) (zB (z7 4) zF))) (zB (e2 zI (z7 4) (eC (.int 1))) zF)))) zF))))))
   yJ)
  (zr (yq (zB (z7 2) (zB (e2 zm (z7 1) (eC (.int 1))) (zB (eC .zD) zF)))))))))))
noncomputable def u8:List D->Option (Bool×D):=FR 2 5 jw
theorem YD(x0 x1:D):u8 [x0,x1]=ya 5 jw [x0,x1]:=rfl
noncomputable def Zy:FS:=
 (zK (zY 3 (e2 qP (e2 zm (e2 zm (eC (.int 18)) (e2 vB (ym (zB (eC (.str "jump")) (zB (eC (.str "when")) (zB (eC (.str "unless")) zF)))) (e2 zI (z7 0) (eC (.int 0))))) (e2 Xk (eC (.int 3)) (eL qO (zB (z7 2) zF)))) (e2 uD (eC (.int 2)) (eC (.int 27)))))
  (zK (zt (tE (e2 xA (e2 zI (z7 0) (eC (.int 0))) (eC (.str "jump"))))
   (zY 3 (e2 zm (z7 3) (e2 qP (e2 vB (ym (zB (eC (.str "carry")) (zB (eC (.str "nought")) (zB (eC (.str "sign")) zF)))) (e2 zI (z7 0) (eC (.int 1)))) (e2 uD (eC (.int 2)) (eC (.int 24))))))
   yJ)
  (zK (zt (tE (z7 2))
   (gO (ym (zB (z7 3) (zB (e2 yL (z7 1) (e2 uD (eC (.int 2)) (eC (.int 32)))) zF))))
   yJ)
  (gO (ym (zB (e2 zm (z7 3) (e2 yL (z7 1) (eC (.int 32)))) zF))))))
noncomputable def qF:List D->Option (Bool×D):=FR 3 4 Zy
theorem UT(x0 x1 x2:D):qF [x0,x1,x2]=ya 4 Zy [x0,x1,x2]:=rfl
noncomputable def Zx:FS:=
 (zK (zY 3 (e2 zI (z7 0) (z7 1)))
  (zK (zY 4 (e2 zI (ym (zB (eC (.str "jump")) (zB (eC (.str "when")) (zB (eC (.str "unless")) zF)))) (e2 yL (e2 wY (z7 2) (eC (.int 18))) (eC (.int 3)))))
  (zK (zY 5 (e2 yL (e2 xR (z7 3) (e2 uD (eC (.int 2)) (eC (.int 24)))) (eC (.int 4))))
  (zK (zY 6 (e2 (xE λi j=>decide (j<i)) (z7 2) (eC (.int 20))))
  (zK (zt (tG (tE (e2 zo (z7 5) (eC (.int 3)))) (tE (e2 (xE λi j=>decide (j<i)) (e2 zm (e2 zm (z7 1) (eC (.int 1))) (eL qO (zB (z7 6) zF))) (eL xq (zB (z7 0) zF)))))
   (zr (eC .zD))
   yJ)
  (zK (zY 7 (yq (zB (eC (.str "jump")) zF)))
  (zK (zt (tE (e2 xA (z7 4) (eC (.str "jump"))))
   (zY 7 (yq (zB (z7 4) (zB (e2 zI (ym (zB (eC (.str "carry")) (zB (eC (.str "nought")) (zB (eC (.str "sign")) zF)))) (z7 5)) zF))))
   yJ)
  (zK (zY 8 (e2 yL (z7 3) (eC (.int 32))))
  (zK (zt (tE (e2 (xE λi j=>decide (j<i)) (z7 8) (eC (.int 15))))
   (zY 8 (e2 wY (z7 8) (eC (.int 32))))
   yJ)
  (zK (zt (tE (z7 6))
   (zK (zY 8 (e2 zI (z7 0) (e2 zm (z7 1) (eC (.int 1)))))
    (zt (tE (e2 (xE λi j=>decide (j<i)) (z7 8) (eC (.int 2147483647))))
     (zY 8 (e2 wY (z7 8) (e2 uD (eC (.int 2)) (eC (.int 32)))))
     yJ))
   yJ)
  (zK (zt (tE (e2 xA (e2 zI (za qF (zB (z7 7) (zB (z7 8) (zB (z7 6) zF)))) (eC (.int 0))) (z7 3)))
   (zr (eC .zD))
   yJ)
  (zr (yq (zB (z7 7) (zB (e2 zm (e2 zm (z7 1) (eC (.int 1))) (eL qO (zB (z7 6) zF))) (zB (e2 zm (z7 1) (z7 8)) zF))))))))))))))))
noncomputable def qE:List D->Option (Bool×D):=FR 3 9 Zx
theorem US(x0 x1 x2:D):qE [x0,x1,x2]=ya 9 Zx [x0,x1,x2]:=rfl
noncomputable def Z_:FS:=
 (zK (zt (ZP (tE (tU (xE λi j=>decide (i<=j)) (xE λi j=>decide (i<j)) (eC (.int 0)) (z7 1) (eL xq (zB (z7 0) zF)))))
   (zr (eC .zD))
   yJ)
  (zK (zY 2 (e2 zI (z7 0) (z7 1)))
  (zK (zY 3 (e2 xR (z7 2) (e2 uD (eC (.int 2)) (eC (.int 27)))))
  (zK (zt (tE (e2 (xE λi j=>decide (j<i)) (z7 3) (eC (.int 23))))
   (zr (eC .zD))
   yJ)
  (zK (zt (tE (e2 (xE λi j=>decide (j<i)) (z7 3) (eC (.int 17))))
   (zr (za qE (zB (z7 0) (zB (z7 1) (zB (z7 3) zF)))))
   yJ)
  (zK (zY 4 (e2 zI (za XL zF) (z7 3)))
  (zK (zY 5 (yq (zB (z7 4) (zB (e2 yL (e2 xR (z7 2) (e2 uD (eC (.int 2)) (eC (.int 24)))) (eC (.int 8))) (zB (e2 yL (e2 xR (z7 2) (e2 uD (eC (.int 2)) (eC (.int 21)))) (eC (.int 8))) zF)))))
  (zK (zt (tE (e2 zo (z7 4) (eC (.str "stop"))))
   (zY 5 (yq (zB (eC (.str "stop")) zF)))
   (zt (tE (e2 yu (z7 4) (yq (zB (eC (.str "set")) (zB (eC (.str "high")) (zB (eC (.str "left")) (zB (eC (.str "right")) zF)))))))
     (zY 5 (e2 zm (pG (z7 5) xz (x_ (eC (.int 2)))) (yq (zB (e2 yL (z7 2) (e2 zI (ym (zB (eC (.int 65536)) (zB (eC (.int 32)) zF))) (eL qO (zB (e2 yu (z7 4) (yq (zB (eC (.str "left")) (zB (eC (.str "right")) zF)))) zF)))) zF))))
     (zt (tE (e2 (xE λi j=>decide (j<i)) (z7 3) (eC (.int 13))))
       (zY 5 (e2 zm (z7 5) (yq (zB (e2 yL (z7 2) (eC (.int 256))) zF))))
       yJ)))
  (zK (zt (tE (e2 xA (za uz (zB (z7 5) zF)) (z7 2)))
   (zr (eC .zD))
   yJ)
  (zr (yq (zB (z7 5) (zB (e2 zm (z7 1) (eC (.int 1))) (zB (eC .zD) zF))))))))))))))
noncomputable def uy:List D->Option (Bool×D):=FR 2 6 Z_
theorem UW(x0 x1:D):uy [x0,x1]=ya 6 Z_ [x0,x1]:=rfl
theorem Tk{x l W:Int}(l0:0<=l)(w0:0<=W)(w1:W<64):q_ [.int x,.tup [.int l,.int W]]=some (false,.int (x/2 ^ l.toNat%2 ^ W.toNat)):=by
 have i0:zI (.tup [.int l,.int W]) (.int 0)=some (.int l):=rfl;have i1:zI (.tup [.int l,.int W]) (.int 1)=some (.int W):=rfl;have e1:=Z8 (i:=1) (j:=W) w0 w1 (by decide) (by decide)
 have p:gu [.int x,.int l,.int W]=some (false,.int (x/2 ^ l.toNat%2 ^ W.toNat)):=by
  rw[Fe];unfold V_;simp![e1,yb l0,Ej]
 rw[Rq];unfold OF;simp![i0,i1,p]
theorem t6{x:Int}(h0:0<=x)(h1:x<4294967296):vn [.int x]=some (false,.int (x/134217728)):=by
 have hk:xZ uF uG (.str "kind")=some (.tup [.int 27,.int 5]):=by rfl
 have n:q_ [.int x,.tup [.int 27,.int 5]]=some (false,.int (x/134217728%32)):=Tk (by decide) (by decide) (by decide);rw[show x/134217728%32=x/134217728 by omega]at n;rw[RX];unfold Iy;simp![hk,n]
noncomputable def uH:List D:=[.str "stop",.str "set",.str "high",.str "copy",.str "add",.str "addc",.str "sub",.str "subc",.str "and",.str "or",.str "xor",.str "test",.str "left",.str "right",.str "load",.str "store",.str "loadw",.str "storew",.str "jump",.str "when",.str "unless",.str "jump",.str "when",.str "unless"]
theorem A0:(List.range 32).map (λc:Nat=>ji [.int (c:Int)])=(List.range 32).map λc=>some (false,uH.getD c .zD):=by kernel_rfl
theorem ab:(List.range 32).map (λc:Nat=>qD [.int (c:Int)])=(List.range 32).map λc=>some (false,.bl (decide (18<=c)&&decide (c<=20))):=by kernel_rfl
theorem RI:(List.range 32).map (λc:Nat=>tK [.int (c:Int)])=(List.range 32).map λc=>some (false,.bl (decide (21<=c)&&decide (c<=23))):=by kernel_rfl
theorem LY{f g:Nat->Option (Bool×D)}(h:(List.range 32).map f=(List.range 32).map g){n:Nat}(hn:n<32):f n=g n:=by
 have e:=congrArg (λl=>l[n]?) h;simp only[wM,J3 hn,Option.map_some]at e;exact vk e
theorem pP{n:Nat}(h:n<32):ji [.int (n:Int)]=some (false,uH.getD n .zD):=LY A0 h
theorem qV{n:Nat}(h:n<32):qD [.int (n:Int)]=some (false,.bl (decide (18<=n)&&decide (n<=20))):=LY ab h
theorem jE{n:Nat}(h:n<32):tK [.int (n:Int)]=some (false,.bl (decide (21<=n)&&decide (n<=23))):=LY RI h
theorem uY{x l W:Int}{k f:Str}(hp:xi [.str k,.str f]=some (false,.tup [.int l,.int W]))(hm:xA (.str f) (.str "mark")=some (.bl true))(l0:0<=l)(w0:0<=W)(w1:W<64):wu [.int x,.str k,.str f]=some (false,.int (x/2 ^ l.toNat%2 ^ W.toNat)):=by
 have n:=Tk (x:=x) l0 w0 w1;rw[Fd];unfold Vz;simp![hp,n,hm]
noncomputable def LG:List D:=[.str "carry",.str "nought",.str "sign",.zD]
theorem Fh{x:Int}{k:Str}(hp:xi [.str k,.str "mark"]=some (false,.tup [.int 24,.int 2])):wu [.int x,.str k,.str "mark"]=some (false,LG.getD (x/16777216%4).toNat .zD):=by
 have n:q_ [.int x,.tup [.int 24,.int 2]]=some (false,.int (x/16777216%4)):=Tk (by decide) (by decide) (by decide);have hm:xA (.str "mark") (.str "mark")=some (.bl false):=by rfl
 rw[Fd];unfold Vz;rcases(show x/16777216%4=0\/x/16777216%4=1\/x/16777216%4=2\/x/16777216%4=3 by omega)with e|e|e|e<;>rw[e]at n ⊢
 ·have i:zI kL (.int 0)=some (.str "carry"):=rfl;simp only[shx,hp,n,hm,i];rfl
 ·have i:zI kL (.int 1)=some (.str "nought"):=rfl;simp only[shx,hp,n,hm,i];rfl
 ·have i:zI kL (.int 2)=some (.str "sign"):=rfl;simp only[shx,hp,n,hm,i];rfl
 ·simp only[shx,hp,n,hm];rfl
theorem qX{x c Z known:Int}{b:Bool}{k:Str}{fs R:List D}(hc:vn [.int x]=some (false,.int c))(hk:ji [.int c]=some (false,.str k))(hf:wP [.str k]=some (true,.lst fs))
  (hl:xI (yD 5) xP vj [some (false,.int x),some (false,.int c),some (false,.str k),none,none,none] fs=some R)(hn:yu .zD (.tup (.str k::R))=some (.bl false))(hR:R.length<=3)(hnear:qD [.int c]=some (false,.bl b))
  (hw:b=true->tL [.int x,.tup [.int 0,.int 5],.int 0]=some (false,.int known))(hb:b=false->known=x)(hz:uw [.tup (.str k::R),.int c]=some (false,.int Z)) :
  v8 [.int x]=some (false,if Z=known then .tup (.str k::R)else .zD):=by
 have ha:zm (.lst [.str k]) (.lst R)=some (.lst (.str k::R)):=by
  rw[k4 (by simp only[xg,gc]; omega)];rfl
 have ht:UK [.lst (.str k::R)]=some (.tup (.str k::R)):=rfl;have hd:xZ uF uG (.str "distance")=some (.tup [.int 0,.int 5]):=by rfl
 have hq:zo (.int Z) (.int known)=some (.bl (decide (Z=known))):=by
  by_cases e:Z=known
  ·rw[pN e,yb e]
  ·rw[t9 e,yV e]
 rw[Ot];unfold Xg;cases b with
 |true=>
  have hw:=hw rfl;by_cases e:Z=known
  ·rw[zP e];rw[yb e]at hq;simp![hc,hk,hf,hl,ha,ht,hn,hnear,hd,hw,hz,hq]
  ·rw[zV e];rw[yV e]at hq;simp![hc,hk,hf,hl,ha,ht,hn,hnear,hd,hw,hz,hq]
 |false=>
  cases hb rfl;by_cases e:Z=x
  ·rw[zP e];rw[yb e]at hq;simp![hc,hk,hf,hl,ha,ht,hn,hnear,hd,hz,hq]
  ·rw[zV e];rw[yV e]at hq;simp![hc,hk,hf,hl,ha,ht,hn,hnear,hd,hz,hq]
theorem fF{x c:Int}{k:Str}{fs R:List D}{b:Bool}(hc:vn [.int x]=some (false,.int c))(hk:ji [.int c]=some (false,.str k))(hf:wP [.str k]=some (true,.lst fs))
  (hl:xI (yD 5) xP vj [some (false,.int x),some (false,.int c),some (false,.str k),none,none,none] fs=some R)(hn:yu .zD (.tup (.str k::R))=some (.bl true))(hR:R.length<=3) :
  v8 [.int x]=some (false,.zD):=by
 have ha:zm (.lst [.str k]) (.lst R)=some (.lst (.str k::R)):=by
  rw[k4 (by simp only[xg,gc]; omega)];rfl
 have ht:UK [.lst (.str k::R)]=some (.tup (.str k::R)):=rfl;rw[Ot];unfold Xg;simp![hc,hk,hf,hl,ha,ht,hn]
theorem fG{x c:Int}(hc:vn [.int x]=some (false,.int c))(hk:ji [.int c]=some (false,.zD)):v8 [.int x]=some (false,.zD):=by
 rw[Ot];unfold Xg;simp![hc,hk]
theorem HF{n W:Int}(w0:0<=W)(w1:W<64):jp [.int n,.int W]=some (false,.int (if 2*n<2 ^ W.toNat then n else n-2 ^ W.toNat)):=by
 have e1:=Z8 (i:=1) (j:=W) w0 w1 (by decide) (by decide);have l2:vC 2=true:=by decide
 rw[Rt];unfold OI;by_cases c:2*n<2 ^ W.toNat
 ·rw[zP c];have c':decide (2*n<1*2 ^ W.toNat)=true:=yb (by omega);simp![e1,l2,c']
 ·rw[zV c];have c':decide (2*n<1*2 ^ W.toNat)=false:=yV (by omega);simp![e1,l2,c',yV c,Int.one_mul]
theorem Hs{ws:List D}{a:Int}(h:a<0\/(ws.length:Int)<=a):u8 [.lst ws,.int a]=some (false,.zD):=by
 rw[YD];unfold jw;by_cases c:a<0
 ·simp![yb c]
 ·have d:(ws.length:Int)<=a:=by omega
  simp![yV c,yb d]
theorem AL{ws:List D}{a:Int}(h:a<0\/(ws.length:Int)<=a):uy [.lst ws,.int a]=some (false,.zD):=by
 rw[UW];unfold Z_;by_cases c:a<0
 ·have c':decide (0<=a)=false:=yV (by omega);simp![tU,c']
 ·have c':decide (0<=a)=true:=yb (by omega);have d:decide (a<(ws.length:Int))=false:=yV (by omega);simp![tU,c',d]
structure At(ws:List D)(a x:Int):Prop where
 a0:0<=a
 a1:a<(ws.length:Int)
 ix:zI (.lst ws) (.int a)=some (.int x)
 x0:0<=x
 x1:x<4294967296
section
variable{ws:List D}{a x:Int}(A:At ws a x)
include A
theorem At.cond{α:Type}:decide (a<0)=false/\decide ((ws.length:Int)<=a)=false/\decide (0<=a)=true/\decide (a<(ws.length:Int))=true:=by
 obtain⟨a0,a1,_,_,_⟩:=A;exact⟨yV (by omega),yV (by omega),yb a0,yb a1⟩
theorem jP(hr:v8 [.int x]=some (false,.zD)):u8 [.lst ws,.int a]=some (false,.zD):=by
 obtain⟨c1,c2,_,_⟩:=A.cond (α:=Nat);have ix:=A.ix;rw[YD];unfold jw;simp![c1,c2,ix,hr]
theorem Ht{c:Int}{R:List D}(hc:vn [.int x]=some (false,.int c))(hf:tK [.int c]=some (false,.bl false))(hn:qD [.int c]=some (false,.bl false))(hr:v8 [.int x]=some (false,.tup R)) :
  u8 [.lst ws,.int a]=some (false,.tup [.tup R,.int (a+1),.zD]):=by
 obtain⟨c1,c2,_,_⟩:=A.cond (α:=Nat);have ix:=A.ix;rw[YD];unfold jw;simp![c1,c2,ix,hr,hc,hf,hn,add_int]
theorem Hr{c:Int}{R:List D}(hc:vn [.int x]=some (false,.int c))(hf:tK [.int c]=some (false,.bl false))(hn:qD [.int c]=some (false,.bl true))(hr:v8 [.int x]=some (false,.tup R)) :
  u8 [.lst ws,.int a]=some (false,.tup [.tup R,.int (a+1),.int (a+(if 2*(x%32)<32 then x%32 else x%32-32))]):=by
 obtain⟨c1,c2,_,_⟩:=A.cond (α:=Nat);have ix:=A.ix;have hk:xZ uF uG (.str "distance")=some (.tup [.int 0,.int 5]):=by rfl
 have n:q_ [.int x,.tup [.int 0,.int 5]]=some (false,.int (x/1%32)):=Tk (by decide) (by decide) (by decide);rw[tq]at n;have s:jp [.int (x%32),.int 5]=some (false,.int (if 2*(x%32)<32 then x%32 else x%32-32)):=HF (by decide) (by decide);have i1:zI (.tup [.int 0,.int 5]) (.int 1)=some (.int 5):=rfl;rw[YD];unfold jw;generalize (if 2*(x%32)<32 then x%32 else x%32-32)=S at s ⊢;simp![c1,c2,ix,hr,hc,hf,hn,hk,n,i1,s,add_int]
theorem Hq{c:Int}{R:List D}(hc:vn [.int x]=some (false,.int c))(hf:tK [.int c]=some (false,.bl true))(hr:v8 [.int x]=some (false,.tup R)){y:Int}(hy:zI (.lst ws) (.int (a+1))=some (.int y))(hl:a+1<(ws.length:Int)) :
  u8 [.lst ws,.int a]=some (false,.tup [.tup R,.int (a+2),.int (a+(if 2*y<4294967296 then y else y-4294967296))]):=by
 obtain⟨c1,c2,_,_⟩:=A.cond (α:=Nat);have ix:=A.ix;have s:jp [.int y,.int 32]=some (false,.int (if 2*y<4294967296 then y else y-4294967296)):=HF (by decide) (by decide);have d:decide ((ws.length:Int)<=a+1)=false:=yV (by omega)
 have e:Zm [.lst ws,.int a,.tup R]=some (false,.tup [.tup R,.int (a+2),.int (a+(if 2*y<4294967296 then y else y-4294967296))]):=by
  rw[Fc];unfold Vy;generalize (if 2*y<4294967296 then y else y-4294967296)=S at s ⊢;simp![add_int,d,hy,s]
 rw[YD];unfold jw;simp![c1,c2,ix,hr,hc,hf,e]
theorem Ho{c:Int}{R:List D}(hc:vn [.int x]=some (false,.int c))(hf:tK [.int c]=some (false,.bl true))(hr:v8 [.int x]=some (false,.tup R))(hl:(ws.length:Int)<=a+1) :
  u8 [.lst ws,.int a]=some (false,.zD):=by
 obtain⟨c1,c2,_,_⟩:=A.cond (α:=Nat);have ix:=A.ix
 have e:Zm [.lst ws,.int a,.tup R]=some (false,.zD):=by
  rw[Fc];unfold Vy;simp![add_int,yb hl]
 rw[YD];unfold jw;simp![c1,c2,ix,hr,hc,hf,e]
theorem AH(h:24<=x/134217728):uy [.lst ws,.int a]=some (false,.zD):=by
 obtain⟨_,_,c3,c4⟩:=A.cond (α:=Nat);have ix:=A.ix;have p27:wJ 2 27=true:=by decide
 have d:decide (23<x/134217728)=true:=yb (by omega);rw[UW];unfold Z_;simp![tU,c3,c4,ix,p27,d]
theorem jH{r:D}(h0:18<=x/134217728)(h1:x/134217728<=23)(hj:qE [.lst ws,.int a,.int (x/134217728)]=some (false,r)):uy [.lst ws,.int a]=some (false,r):=by
 obtain⟨_,_,c3,c4⟩:=A.cond (α:=Nat);have ix:=A.ix;have p27:wJ 2 27=true:=by decide
 have d:decide (23<x/134217728)=false:=yV (by omega);have d2:decide (17<x/134217728)=true:=yb (by omega);rw[UW];unfold Z_;simp![tU,c3,c4,ix,p27,d,d2,hj]
theorem TY{c Z:Int}{k:Str}{R:List D}(hc:x/134217728=c)(c1:c<=17)(hk:zI vg (.int c)=some (.str k))
  (hb:(zt (tE (e2 zo (z7 4) (eC (.str "stop"))))
   (zY 5 (yq (zB (eC (.str "stop")) zF)))
   (zt (tE (e2 yu (z7 4) (yq (zB (eC (.str "set")) (zB (eC (.str "high")) (zB (eC (.str "left")) (zB (eC (.str "right")) zF)))))))
     (zY 5 (e2 zm (pG (z7 5) xz (x_ (eC (.int 2)))) (yq (zB (e2 yL (z7 2) (e2 zI (ym (zB (eC (.int 65536)) (zB (eC (.int 32)) zF))) (eL qO (zB (e2 yu (z7 4) (yq (zB (eC (.str "left")) (zB (eC (.str "right")) zF)))) zF)))) zF))))
     (zt (tE (e2 (xE λi j=>decide (j<i)) (z7 3) (eC (.int 13))))
       (zY 5 (e2 zm (z7 5) (yq (zB (e2 yL (z7 2) (eC (.int 256))) zF))))
       yJ)))
    [some (false,.lst ws),some (false,.int a),some (false,.int x),some (false,.int c),some (false,.str k),some (false,.tup [.str k,.int (x/16777216%8),.int (x/2097152%8)])] =
    some (.nx [some (false,.lst ws),some (false,.int a),some (false,.int x),some (false,.int c),some (false,.str k),some (false,.tup R)]))
  (hw:uz [.tup R]=some (false,.int Z)):uy [.lst ws,.int a]=some (false,if Z=x then .tup [.tup R,.int (a+1),.zD]else .zD):=by
 obtain⟨_,_,c3,c4⟩:=A.cond (α:=Nat);have ix:=A.ix;obtain⟨p27,p24,p21,_⟩:=WQ;have d:decide (23<c)=false:=yV (by omega);have d2:decide (17<c)=false:=yV (by omega);have hO:=WL;rw[UW];unfold Z_;generalize vg=O at hk hO;have e16:(2:Int) ^ (24:Int).toNat=16777216:=by decide
 have e21:(2:Int) ^ (21:Int).toNat=2097152:=by decide
 have e27:(2:Int) ^ (27:Int).toNat=134217728:=by decide
 by_cases e:Z=x
 ·rw[zP e];have hq:=qU (pN e);generalize (zt (tE (e2 zo (z7 4) (eC (.str "stop")))) _ _)=B at hb ⊢;simp![tU,c3,c4,ix,p27,p24,p21,hc,d,d2,hO,hk,hb,hw,hq,add_int]
 ·rw[zV e];have hq:=qU (t9 e);generalize (zt (tE (e2 zo (z7 4) (eC (.str "stop")))) _ _)=B at hb ⊢;simp![tU,c3,c4,ix,p27,p24,p21,hc,d,d2,hO,hk,hb,hw,hq]
end
noncomputable def qw(ws:List D)(a:Int):Prop:=∃r,u8 [.lst ws,.int a]=some (false,r)/\uy [.lst ws,.int a]=some (false,r)/\(r=.zD\/∃R n t,r=.tup [.tup R,.int n,t]/\R.all yY=true/\yY t=true/\(t=.zD\/∃i:Int,t=.int i))
section
variable{ws:List D}{a x:Int}(A:At ws a x)
include A
theorem Vw{c Z:Int}{k:Str}{R:List D}(hR:(D.str k::R).all yY=true)(hc:vn [.int x]=some (false,.int c))(hf:tK [.int c]=some (false,.bl false))(hn:qD [.int c]=some (false,.bl false))
  (hr:v8 [.int x]=some (false,if Z=x then .tup (.str k::R)else .zD))(hl:uy [.lst ws,.int a]=some (false,if Z=x then .tup [.tup (.str k::R),.int (a+1),.zD]else .zD)):qw ws a:=by
 by_cases e:Z=x
 ·rw[zP e]at hr hl;exact⟨_,Ht A hc hf hn hr,hl,.inr ⟨_,_,_,rfl,hR,rfl,.inl rfl⟩⟩
 ·rw[zV e]at hr hl;exact⟨_,jP A hr,hl,.inl rfl⟩
theorem Vv{n:Nat}{k:Str}{W P:Int}{b:Bool}(hn:x/134217728=(n:Int))(n17:n<=17)(hk:uH.getD n .zD=.str k)(ho:zI vg (.int (n:Int))=some (.str k))(hf:wP [.str k]=some (true,.lst [.str "d",.str "n"]))(hd:xi [.str k,.str "d"]=some (false,.tup [.int 24,.int 3]))
  (hp:xi [.str k,.str "n"]=some (false,.tup [.int 0,.int W]))(w0:0<=W)(w1:W<=16)(hP:(2:Int) ^ W.toNat=P)(hdv:(2:Int) ^ W.toNat ∣ 16777216)(hi:vB vg (.str k)=some (.int (n:Int)))(hs:zo (.str k) (.str "stop")=some (.bl false))
  (hin:yu (.str k) (.tup [.str "set",.str "high",.str "left",.str "right"])=some (.bl true))(hin2:yu (.str k) (.tup [.str "left",.str "right"])=some (.bl b))(hix:zI (.lst [.int 65536,.int 32]) (.int (if b then 1 else 0))=some (.int P)):qw ws a:=by
 have x0:=A.x0;have x1:=A.x1;have p0:0<P:=by rw[<-hP]; exact Ws (by decide)
 have hc:=t6 x0 x1;rw[hn]at hc;have hkk:=pP (n:=n) (by omega);rw[hk]at hkk;have hnear:=qV (n:=n) (by omega);rw[yV (show ¬ 18<=n by omega),u4]at hnear;have hfar:=jE (n:=n) (by omega);rw[yV (show ¬ 21<=n by omega),u4]at hfar;have h1:wu [.int x,.str k,.str "d"]=some (false,.int (x/16777216%8)):=uY hd (by rfl) (by decide) (by decide) (by decide);have h2:wu [.int x,.str k,.str "n"]=some (false,.int (x/1%P)):=by rw[<-hP]; exact uY hp (by rfl) (by decide) w0 (by omega)
 rw[tq]at h2;have hfw:=FQ (c:=(n:Int)) (d:=x/16777216%8) (n:=x%P) hf hd hp (by omega) (by omega) w0 w1 (by omega) (by omega) (Bb _ (by omega)) (by rw[hP]; exact Ba _ p0) hdv;have hr:=qX (R:=[.int (x/16777216%8),.int (x%P)]) hc hkk hf (by simp only[xI,yD.eq_1,xP,vj,shx,h1,h2]) (by rfl) (by simp) hnear (λh=>by cases h) (λ_=>rfl) hfw;refine Vw A rfl hc hfar hnear hr (TY A hn (by omega) ho ?_ (WE hi hs hin));have sl:kG (.tup [.str k,.int (x/16777216%8),.int (x/2097152%8)]) none (some 2)=some (.tup [.str k,.int (x/16777216%8)]):=by rfl
 have ad:zm (.tup [.str k,.int (x/16777216%8)]) (.tup [.int (x%P)])=some (.tup [.str k,.int (x/16777216%8),.int (x%P)]):=by rfl
 simp![hs,hin,hin2,hix,pG,xz,x_,sl,yb p0,ad]
theorem jB{n:Nat}{k:Str}(hn:x/134217728=(n:Int))(n13:n<=13)(hk:uH.getD n .zD=.str k)(ho:zI vg (.int (n:Int))=some (.str k))(hf:wP [.str k]=some (true,.lst [.str "d",.str "s"]))(hd:xi [.str k,.str "d"]=some (false,.tup [.int 24,.int 3]))
  (hp:xi [.str k,.str "s"]=some (false,.tup [.int 21,.int 3]))(hi:vB vg (.str k)=some (.int (n:Int)))(hs:zo (.str k) (.str "stop")=some (.bl false))
  (hin:yu (.str k) (.tup [.str "set",.str "high",.str "left",.str "right"])=some (.bl false)):qw ws a:=by
 have x0:=A.x0;have x1:=A.x1;have hc:=t6 x0 x1;rw[hn]at hc;have hkk:=pP (n:=n) (by omega);rw[hk]at hkk;have hnear:=qV (n:=n) (by omega);rw[yV (show ¬ 18<=n by omega),u4]at hnear;have hfar:=jE (n:=n) (by omega);rw[yV (show ¬ 21<=n by omega),u4]at hfar;have h1:wu [.int x,.str k,.str "d"]=some (false,.int (x/16777216%8)):=uY hd (by rfl) (by decide) (by decide) (by decide);have h2:wu [.int x,.str k,.str "s"]=some (false,.int (x/2097152%8)):=uY hp (by rfl) (by decide) (by decide) (by decide);have hfw:=FU (c:=(n:Int)) (d:=x/16777216%8) (s:=x/2097152%8) hf hd hp (by omega) (by omega) (by omega) (by omega) (by omega) (by omega);have hr:=qX (R:=[.int (x/16777216%8),.int (x/2097152%8)]) hc hkk hf (by simp only[xI,yD.eq_1,xP,vj,shx,h1,h2]) (by rfl) (by simp) hnear (λh=>by cases h) (λ_=>rfl) hfw;refine Vw A rfl hc hfar hnear hr (TY A hn (by omega) ho ?_ (pR hi hs hin));have d13:decide (13<(n:Int))=false:=yV (by omega);simp![hs,hin,d13]
theorem Vu{n:Nat}{k:Str}(hn:x/134217728=(n:Int))(n14:14<=n)(n17:n<=17)(hk:uH.getD n .zD=.str k)(ho:zI vg (.int (n:Int))=some (.str k))(hf:wP [.str k]=some (true,.lst [.str "d",.str "s",.str "n"]))(hd:xi [.str k,.str "d"]=some (false,.tup [.int 24,.int 3]))
  (hp:xi [.str k,.str "s"]=some (false,.tup [.int 21,.int 3]))(hp2:xi [.str k,.str "n"]=some (false,.tup [.int 0,.int 8]))(hi:vB vg (.str k)=some (.int (n:Int)))(hs:zo (.str k) (.str "stop")=some (.bl false))
  (hin:yu (.str k) (.tup [.str "set",.str "high",.str "left",.str "right"])=some (.bl false)):qw ws a:=by
 have x0:=A.x0;have x1:=A.x1;have hc:=t6 x0 x1;rw[hn]at hc;have hkk:=pP (n:=n) (by omega);rw[hk]at hkk;have hnear:=qV (n:=n) (by omega);rw[yV (show ¬ 18<=n by omega),u4]at hnear;have hfar:=jE (n:=n) (by omega);rw[yV (show ¬ 21<=n by omega),u4]at hfar;have h1:wu [.int x,.str k,.str "d"]=some (false,.int (x/16777216%8)):=uY hd (by rfl) (by decide) (by decide) (by decide);have h2:wu [.int x,.str k,.str "s"]=some (false,.int (x/2097152%8)):=uY hp (by rfl) (by decide) (by decide) (by decide);have h3:wu [.int x,.str k,.str "n"]=some (false,.int (x/1%256)):=uY hp2 (by rfl) (by decide) (by decide) (by decide);rw[tq]at h3;have hfw:=FV (c:=(n:Int)) (d:=x/16777216%8) (s:=x/2097152%8) (n:=x%256) hf hd hp hp2 (by omega) (by omega) (by omega) (by omega) (by omega) (by omega) (by omega) (by omega);have hr:=qX (R:=[.int (x/16777216%8),.int (x/2097152%8),.int (x%256)]) hc hkk hf (by simp only[xI,yD.eq_1,xP,vj,shx,h1,h2,h3]) (by rfl) (by simp) hnear (λh=>by cases h) (λ_=>rfl) hfw;refine Vw A rfl hc hfar hnear hr (TY A hn (by omega) ho ?_ (WF hi hs hin));have d13:decide (13<(n:Int))=true:=yb (by omega);have ad:zm (.tup [.str k,.int (x/16777216%8),.int (x/2097152%8)]) (.tup [.int (x%256)])=some (.tup [.str k,.int (x/16777216%8),.int (x/2097152%8),.int (x%256)]):=by rfl
 have p0:decide ((0:Int)<256)=true:=rfl;simp![hs,hin,d13,p0,ad]
theorem NQ(hn:x/134217728=0):qw ws a:=by
 have x0:=A.x0;have x1:=A.x1;have hc:=t6 x0 x1;rw[hn]at hc;have hkk:=pP (n:=0) (by decide);have hnear:=qV (n:=0) (by decide);have hfar:=jE (n:=0) (by decide);have hf:wP [.str "stop"]=some (true,.lst []):=by rfl
 have hfw:=Xn (c:=0) (by decide) (by decide) hf;have hr:=qX (R:=[]) (Z:=0) (known:=x) hc hkk hf rfl (by rfl) (by simp) hnear (λh=>by cases h) (λ_=>rfl) hfw;refine Vw A rfl hc hfar hnear hr (TY A hn (by decide) (by rfl) ?_ CO);have hs:zo (.str "stop") (.str "stop")=some (.bl true):=by rfl
 simp![hs]
end
theorem CK(d:Int)(b:Bool):qF [.tup [.str "jump"],.int d,.bl b]=some (true,.lst (match b with
  |true=>[.int (21*134217728),.int (d%4294967296)]
  |false=>[.int (18*134217728+d%32)])):=by
 have pw:wJ 2 27=true/\wJ 2 24=true/\wJ 2 32=true/\vC 134217728=true/\vC 16777216=true/\vC 3=true:=⟨by decide,by decide,by decide,by decide,by decide,by decide⟩;have i0:vB (.lst [.str "jump",.str "when",.str "unless"]) (.str "jump")=some (.int 0):=by rfl
 have ne:xA (.str "jump") (.str "jump")=some (.bl false):=by rfl
 rw[UT];unfold Zy;cases b
 ·simp![xW,i0,pw,add_int,ne,tm,vZ]
 ·simp![xW,i0,pw,add_int,ne,wc]
theorem CJ{w k:Str}{c m:Int}(hi:vB (.lst [.str "jump",.str "when",.str "unless"]) (.str w)=some (.int c))(hk:vB (.lst [.str "carry",.str "nought",.str "sign"]) (.str k)=some (.int m))(ne:xA (.str w) (.str "jump")=some (.bl true))(d:Int)(b:Bool) :
  qF [.tup [.str w,.str k],.int d,.bl b]=some (true,.lst (match b with
  |true=>[.int ((21+c)*134217728+m*16777216),.int (d%4294967296)]
  |false=>[.int ((18+c)*134217728+m*16777216+d%32)])):=by
 have pw:wJ 2 27=true/\wJ 2 24=true/\wJ 2 32=true/\vC 134217728=true/\vC 16777216=true/\vC 3=true:=⟨by decide,by decide,by decide,by decide,by decide,by decide⟩;have i1:zI (.tup [.str w,.str k]) (.int 1)=some (.str k):=rfl;rw[UT];unfold Zy;cases b
 ·simp![xW,i1,hi,hk,pw,add_int,ne,tm,vZ,qh]
 ·have e3:(18+c+3:Int)=21+c:=by omega
  simp![xW,i1,hi,hk,pw,add_int,ne,wc,e3]
section
variable{ws:List D}{a x:Int}(A:At ws a x)
include A
theorem LD{c:Int}{k:Str}(hk:zI (.lst [.str "jump",.str "when",.str "unless"]) (.int ((c-18)%3))=some (.str k))(m3:x/16777216%4=3):qE [.lst ws,.int a,.int c]=some (false,.zD):=by
 have ix:=A.ix;have p24:wJ 2 24=true:=by decide
 have e3:zo (.int 3) (.int 3)=some (.bl true):=by rfl
 rw[US];unfold Zx;simp![ix,hk,p24,m3,e3]
theorem CG{c:Int}{k:Str}(hk:zI (.lst [.str "jump",.str "when",.str "unless"]) (.int ((c-18)%3))=some (.str k))(hb:decide (20<c)=true)(hl:(ws.length:Int)<=a+1)(m3:x/16777216%4≠3):qE [.lst ws,.int a,.int c]=some (false,.zD):=by
 have ix:=A.ix;have p24:wJ 2 24=true:=by decide
 have e3:=t9 m3;have d:decide ((ws.length:Int)<a+1+1)=true:=yb (by omega);rw[US];unfold Zx;simp![ix,hk,p24,e3,hb,add_int,wc,d]
theorem CI{c B:Int}{k:Str}{R:List D}(hk:zI (.lst [.str "jump",.str "when",.str "unless"]) (.int ((c-18)%3))=some (.str k))(hb:decide (20<c)=false)(m3:x/16777216%4≠3)
  (hrow:(zt (tE (e2 xA (z7 4) (eC (.str "jump")))) (zY 7 (yq (zB (z7 4) (zB (e2 zI (ym (zB (eC (.str "carry")) (zB (eC (.str "nought")) (zB (eC (.str "sign")) zF)))) (z7 5)) zF)))) yJ) [some (false,.lst ws),some (false,.int a),some (false,.int c),some (false,.int x),some (false,.str k),some (false,.int (x/16777216%4)),some (false,.bl false),some (false,.tup [.str "jump"]),none] =
   some (.nx [some (false,.lst ws),some (false,.int a),some (false,.int c),some (false,.int x),some (false,.str k),some (false,.int (x/16777216%4)),some (false,.bl false),some (false,.tup R),none]))
  (hj:∀d:Int,qF [.tup R,.int d,.bl false]=some (true,.lst [.int (B+d%32)])) :
  qE [.lst ws,.int a,.int c]=some (false,if B+x%32=x then .tup [.tup R,.int (a+1),.int (a+(if 2*(x%32)<32 then x%32 else x%32-32))]else .zD):=by
 have ix:=A.ix;have a1:=A.a1;have p24:wJ 2 24=true:=by decide
 have e3:=t9 m3;have d:decide ((ws.length:Int)<a+1+0)=false:=yV (by omega);have d':decide ((ws.length:Int)<a+1)=false:=yV (by omega);have i0:∀v:D,zI (.lst [v]) (.int 0)=some v:=λ_=>rfl
 rw[US];unfold Zx;generalize (zt (tE (e2 xA (z7 4) (eC (.str "jump")))) _ _)=RJ at hrow ⊢;by_cases h:15<x%32
 ·have hd:decide (15<x%32)=true:=yb h;have hs:¬ 2*(x%32)<32:=by omega
  have hw:=hj (x%32-32);rw[show(x%32-32)%32=x%32 by omega]at hw;rw[zV hs];by_cases e:B+x%32=x
  ·rw[zP e];have hq:=qU (pN e);simp![ix,hk,p24,e3,hb,add_int,tm,vZ,d,d',qh,hrow,hd,hw,i0,hq]
  ·rw[zV e];have hq:=qU (t9 e);simp![ix,hk,p24,e3,hb,add_int,tm,vZ,d,d',qh,hrow,hd,hw,i0,hq]
 ·have hd:decide (15<x%32)=false:=yV h;have hs:2*(x%32)<32:=by omega
  have hw:=hj (x%32);rw[show(x%32)%32=x%32 by omega]at hw;rw[zP hs];by_cases e:B+x%32=x
  ·rw[zP e];have hq:=qU (pN e);simp![ix,hk,p24,e3,hb,add_int,tm,vZ,d,d',qh,hrow,hd,hw,i0,hq]
  ·rw[zV e];have hq:=qU (t9 e);simp![ix,hk,p24,e3,hb,add_int,tm,vZ,d,d',qh,hrow,hd,hw,i0,hq]
end
section
variable{ws:List D}{a x:Int}(A:At ws a x)
include A
theorem CH{c B y:Int}{k:Str}{R:List D}(hk:zI (.lst [.str "jump",.str "when",.str "unless"]) (.int ((c-18)%3))=some (.str k))(hb:decide (20<c)=true)(m3:x/16777216%4≠3)(hy:zI (.lst ws) (.int (a+1))=some (.int y))(hl:a+1<(ws.length:Int))
  (hrow:(zt (tE (e2 xA (z7 4) (eC (.str "jump")))) (zY 7 (yq (zB (z7 4) (zB (e2 zI (ym (zB (eC (.str "carry")) (zB (eC (.str "nought")) (zB (eC (.str "sign")) zF)))) (z7 5)) zF)))) yJ) [some (false,.lst ws),some (false,.int a),some (false,.int c),some (false,.int x),some (false,.str k),some (false,.int (x/16777216%4)),some (false,.bl true),some (false,.tup [.str "jump"]),none] =
   some (.nx [some (false,.lst ws),some (false,.int a),some (false,.int c),some (false,.int x),some (false,.str k),some (false,.int (x/16777216%4)),some (false,.bl true),some (false,.tup R),none]))
  (hj:∀d:Int,qF [.tup R,.int d,.bl true]=some (true,.lst [.int B,.int (d%4294967296)])) :
  qE [.lst ws,.int a,.int c]=some (false,if B=x then .tup [.tup R,.int (a+2),.int (a+(if 2*y<4294967296 then y else y-4294967296))]else .zD):=by
 have ix:=A.ix;have p24:wJ 2 24=true:=by decide
 have p32:wJ 2 32=true:=by decide
 have e3:=t9 m3;have d:decide ((ws.length:Int)<a+1+1)=false:=yV (by omega);have e11:a+1+1=a+2:=by omega
 have d2:decide ((ws.length:Int)<a+2)=false:=yV (by omega);have i0:∀v u:D,zI (.lst [v,u]) (.int 0)=some v:=λ_ _=>rfl
 rw[US];unfold Zx;generalize (zt (tE (e2 xA (z7 4) (eC (.str "jump")))) _ _)=RJ at hrow ⊢;obtain⟨h1,e1⟩:∃h1,decide (15<x%32)=h1:=⟨_,rfl⟩;obtain⟨h2,e2⟩:∃h2,decide (2147483647<y)=h2:=⟨_,rfl⟩;obtain⟨h3,e3'⟩:∃h3,decide (B=x)=h3:=⟨_,rfl⟩
 have hq:xA (.int B) (.int x)=some (.bl (!h3)):=by
  cases h3
  ·exact qU (t9 (JG e3'))
  ·exact qU (pN (wI e3'))
 have hS:(if 2*y<4294967296 then y else y-4294967296)=(bif h2 then y-4294967296 else y):=by
  cases h2
  ·have:=JG e2;rw[zP (by omega)];rfl
  ·have:=wI e2;rw[zV (by omega)];rfl
 have hB:∀u v:D,(if B=x then u else v)=(bif h3 then u else v):=λu v=>by
  cases h3
  ·rw[zV (JG e3')];rfl
  ·rw[zP (wI e3')];rfl
 rw[hS,hB];have hw:=hj;cases h1<;>cases h2<;>cases h3<;>simp![ix,hk,p24,p32,e3,hb,add_int,wc,d,d2,hrow,e1,hy,e2,hw,i0,hq,e11,Wy,D1]
theorem DX{c B:Int}{k:Str}{R:List D}(hR:(D.str k::R).all yY=true)(h0:18<=x/134217728)(h1:x/134217728<=20)(hc:vn [.int x]=some (false,.int c))(hf:tK [.int c]=some (false,.bl false))(hn:qD [.int c]=some (false,.bl true))
  (hr:v8 [.int x]=some (false,if B=x+(0-x%32)*1 then .tup (.str k::R)else .zD))(hl:qE [.lst ws,.int a,.int (x/134217728)]=some (false,if B+x%32=x then .tup [.tup (.str k::R),.int (a+1),.int (a+(if 2*(x%32)<32 then x%32 else x%32-32))]else .zD)):qw ws a:=by
 by_cases e:B+x%32=x
 ·rw[zP (show B=x+(0-x%32)*1 by omega)]at hr;rw[zP e]at hl;exact⟨_,Hr A hc hf hn hr,jH A h0 (by omega) hl,.inr ⟨_,_,_,rfl,hR,rfl,.inr ⟨_,rfl⟩⟩⟩
 ·rw[zV (show ¬ B=x+(0-x%32)*1 by omega)]at hr;rw[zV e]at hl;exact⟨_,jP A hr,jH A h0 (by omega) hl,.inl rfl⟩
theorem DV{c B y:Int}{k:Str}{R:List D}(hR:(D.str k::R).all yY=true)(h0:21<=x/134217728)(h1:x/134217728<=23)(hc:vn [.int x]=some (false,.int c))(hf:tK [.int c]=some (false,.bl true))(hy:zI (.lst ws) (.int (a+1))=some (.int y))(hl':a+1<(ws.length:Int))
  (hr:v8 [.int x]=some (false,if B=x then .tup (.str k::R)else .zD))(hl:qE [.lst ws,.int a,.int (x/134217728)]=some (false,if B=x then .tup [.tup (.str k::R),.int (a+2),.int (a+(if 2*y<4294967296 then y else y-4294967296))]else .zD)):qw ws a:=by
 by_cases e:B=x
 ·rw[zP e]at hr hl;exact⟨_,Hq A hc hf hr hy hl',jH A (by omega) h1 hl,.inr ⟨_,_,_,rfl,hR,rfl,.inr ⟨_,rfl⟩⟩⟩
 ·rw[zV e]at hr hl;exact⟨_,jP A hr,jH A (by omega) h1 hl,.inl rfl⟩
theorem C5:tL [.int x,.tup [.int 0,.int 5],.int 0]=some (false,.int (x+(0-x%32)*1)):=by
 have h:=Qd (x:=x) (l:=0) (d:=5) (n:=0) ⟨⟨A.x0,by decide,by decide,by decide,by decide⟩,by decide,by decide⟩;rw[h]
 have e:x/2 ^ (0:Int).toNat%2 ^ (5:Int).toNat=x%32:=by
  show x/1%32=x%32;rw[tq]
 rw[e];rfl
theorem DW{n:Nat}(hn:x/134217728=(n:Int))(h:n=18\/n=21)(hws:∀i:Nat,∀d,ws[i]?=some d->∃y:Int,d=.int y):qw ws a:=by
 have x0:=A.x0;have x1:=A.x1;have a0:=A.a0;have hc:=t6 x0 x1;rw[hn]at hc;have hkk:=pP (n:=n) (by omega);have hf:wP [.str "jump"]=some (true,.lst []):=by rfl
 have hfw:=Xn (c:=(n:Int)) (by omega) (by omega) hf;have hne:xA (.str "jump") (.str "jump")=some (.bl false):=by rfl
 have hnear:=qV (n:=n) (by omega);have hfar:=jE (n:=n) (by omega);rcases h with rfl|rfl
 ·have hr:=qX (R:=[]) (known:=x+(0-x%32)*1) hc hkk hf rfl (by rfl) (by decide) hnear (λ_=>C5 A) (λh=>by cases h) hfw;by_cases m3:x/16777216%4=3
  ·have hz:¬ ((18:Nat):Int)*134217728=x+(0-x%32)*1:=by omega
   rw[zV hz]at hr;exact⟨_,jP A hr,jH A (by omega) (by omega) (LD A (k := "jump") (by rw[hn]; rfl) m3),.inl rfl⟩
  ·refine DX A rfl (by omega) (by omega) hc hfar hnear hr ?_;rw[hn];refine CI A (k := "jump") (by rfl) (by rfl) m3 ?_ λd=>CK d false
   simp![hne]
 ·have hr:=qX (R:=[]) (known:=x) hc hkk hf rfl (by rfl) (by decide) hnear (λh=>by cases h) (λ_=>rfl) hfw;by_cases m3:x/16777216%4=3
  ·have hz:¬ ((21:Nat):Int)*134217728=x:=by omega
   rw[zV hz]at hr;exact⟨_,jP A hr,jH A (by omega) (by omega) (LD A (k := "jump") (by rw[hn]; rfl) m3),.inl rfl⟩
  ·by_cases hl:a+1<(ws.length:Int)
   ·obtain⟨y,hy⟩:=hws (a.toNat+1) _ (yf (by omega));have hy':zI (.lst ws) (.int (a+1))=some (.int y):=qK (by omega) (by rw[show(a+1).toNat=a.toNat+1 by omega,yf (by omega),hy]);refine DV A rfl (by omega) (by omega) hc hfar hy' hl hr ?_;rw[hn];refine CH A (k := "jump") (by rfl) (by rfl) m3 hy' hl ?_ λd=>CK d true
    simp![hne]
   ·refine⟨.zD,?_,jH A (by omega) (by omega) (CG A (k := "jump") (by rw[hn]; rfl) (by rw[hn]; rfl) (by omega) m3),.inl rfl⟩;by_cases e:((21:Nat):Int)*134217728=x
    ·rw[zP e]at hr;exact Ho A hc hfar hr (by omega)
    ·rw[zV e]at hr;exact jP A hr
theorem Vt{n:Nat}{q:Int}{k:Str}(hn:x/134217728=(n:Int))(h:(n:Int)=18+q\/(n:Int)=21+q)(q0:1<=q)(q1:q<=2)(hk:uH.getD n .zD=.str k)(hix:zI (.lst [.str "jump",.str "when",.str "unless"]) (.int (((n:Int)-18)%3))=some (.str k))
  (hi:vB (.lst [.str "jump",.str "when",.str "unless"]) (.str k)=some (.int q))(hne:xA (.str k) (.str "jump")=some (.bl true))(hf:wP [.str k]=some (true,.lst [.str "mark"]))(hp:xi [.str k,.str "mark"]=some (false,.tup [.int 24,.int 2]))
  (hws:∀i:Nat,∀d,ws[i]?=some d->∃y:Int,d=.int y):qw ws a:=by
 have x0:=A.x0;have x1:=A.x1;have a0:=A.a0;have hc:=t6 x0 x1;rw[hn]at hc;have hkk:=pP (n:=n) (by omega);rw[hk]at hkk;have hm:=Fh (x:=x) hp;have hnear:=qV (n:=n) (by omega);have hfar:=jE (n:=n) (by omega);by_cases m3:x/16777216%4=3
 ·rw[m3]at hm;have hr:=fF (R:=[.zD]) (b:=true) hc hkk hf (by simp only[xI,yD.eq_1,xP,vj,shx,hm]; rfl) (by rfl) (by simp);exact⟨_,jP A hr,jH A (by omega) (by omega) (LD A (by rw[hn]; exact hix) m3),.inl rfl⟩
 ·obtain⟨mk,hmk,hme,hmi,hmt⟩:∃mk:Str,LG.getD (x/16777216%4).toNat .zD=.str mk/\zI (.lst [.str "carry",.str "nought",.str "sign"]) (.int (x/16777216%4))=some (.str mk)/\vB (.lst [.str "carry",.str "nought",.str "sign"]) (.str mk)=some (.int (x/16777216%4))/\Xm Xq (.str mk)=some (.int (x/16777216%4)):=by
   rcases(show x/16777216%4=0\/x/16777216%4=1\/x/16777216%4=2 by omega)with e|e|e<;>rw[e]
   ·exact⟨"carry",rfl,rfl,by rfl,by rfl⟩
   ·exact⟨"nought",rfl,rfl,by rfl,by rfl⟩
   ·exact⟨"sign",rfl,rfl,by rfl,by rfl⟩
  rw[hmk]at hm;have hfw:=Om (c:=(n:Int)) (m:=x/16777216%4) (k:=mk) hf hp hmt (by omega) (by omega) (by omega) (by omega);have hl1:xI (yD 5) xP vj [some (false,.int x),some (false,.int (n:Int)),some (false,.str k),none,none,none] [.str "mark"]=some [.str mk]:=by simp only[xI,yD.eq_1,xP,vj,shx,hm]
  rcases h with h|h
  ·rw[yb (show 18<=n by omega),yb (show n<=20 by omega),Qt]at hnear;rw[yV (show ¬ 21<=n by omega),u4]at hfar;have hr:=qX (R:=[.str mk]) (known:=x+(0-x%32)*1) hc hkk hf hl1 (by rfl) (by simp) hnear (λ_=>C5 A) (λh=>by cases h) hfw;refine DX A rfl (by omega) (by omega) hc hfar hnear hr ?_;rw[hn];refine CI A hix (yV (by omega)) m3 ?_ λd=>by rw[h]; exact CJ hi hmi hne d false
   simp![hne,hme]
  ·rw[yV (show ¬ n<=20 by omega),Wn]at hnear;rw[yb (show 21<=n by omega),yb (show n<=23 by omega),Qt]at hfar;have hr:=qX (R:=[.str mk]) (known:=x) hc hkk hf hl1 (by rfl) (by simp) hnear (λh=>by cases h) (λ_=>rfl) hfw;by_cases hl:a+1<(ws.length:Int)
   ·obtain⟨y,hy⟩:=hws (a.toNat+1) _ (yf (by omega));have hy':zI (.lst ws) (.int (a+1))=some (.int y):=qK (by omega) (by rw[show(a+1).toNat=a.toNat+1 by omega,yf (by omega),hy]);refine DV A rfl (by omega) (by omega) hc hfar hy' hl hr ?_;rw[hn];refine CH A hix (yb (by omega)) m3 hy' hl ?_ λd=>by rw[h]; exact CJ hi hmi hne d true
    simp![hne,hme]
   ·refine⟨.zD,?_,jH A (by omega) (by omega) (CG A (by rw[hn]; exact hix) (by rw[hn]; exact yb (by omega)) (by omega) m3),.inl rfl⟩;by_cases e:(n:Int)*134217728+x/16777216%4*16777216=x
    ·rw[zP e]at hr;exact Ho A hc hfar hr (by omega)
    ·rw[zV e]at hr;exact jP A hr
end
theorem NP{ns:List Int}(h:∀m∈ns,0<=m/\m<4294967296)(a:Int):qw (ns.map D.int) a:=by
 by_cases hr:0<=a/\a<((ns.map D.int).length:Int)
 case neg=>exact⟨_,Hs (by omega),AL (by omega),.inl rfl⟩
 obtain⟨a0,a1⟩:=hr;have a1':a.toNat<ns.length:=by rw[yK]at a1; omega
 have hm:=h _ (uQ a1');obtain⟨x,hx⟩:∃x,x=ns[a.toNat]:=⟨_,rfl⟩;rw[<-hx]at hm;have A:At (ns.map D.int) a x:=⟨a0,a1,qK a0 (by rw[wM,yf a1',hx]; rfl),hm.1,hm.2⟩
 have hws:∀i:Nat,∀d,(ns.map D.int)[i]?=some d->∃y:Int,d=.int y:=λi d hd=>by
  rw[wM]at hd;cases e:ns[i]? with
  |none=>rw[e]at hd; cases hd
  |some y=>rw[e]at hd; cases hd; exact⟨y,rfl⟩
 obtain⟨n,hn⟩:=jS (show 0<=x/134217728 by omega);have hn:x/134217728=(n:Int):=hn;by_cases hh:24<=n
 ·have hc:=t6 hm.1 hm.2;rw[hn]at hc;have hkk:=pP (n:=n) (by omega);rw[show uH.getD n .zD=.zD from by rw[vF,pp (by show 24<=n; exact hh)]; rfl]at hkk;exact⟨_,jP A (fG hc hkk),AH A (by omega),.inl rfl⟩
 ·rcases(show n=0\/n=1\/n=2\/n=3\/n=4\/n=5\/n=6\/n=7\/n=8\/n=9\/n=10\/n=11\/n=12\/n=13\/n=14\/n=15\/n=16\/n=17\/n=18\/n=19\/n=20\/n=21\/n=22\/n=23 by omega)with
   rfl|rfl|rfl|rfl|rfl|rfl|rfl|rfl|rfl|rfl|rfl|rfl|rfl|rfl|rfl|rfl|rfl|rfl|rfl|rfl|rfl|rfl|rfl|rfl
  ·exact NQ A hn
  ·exact Vv A (W:=16) (P:=65536) hn (by decide) rfl (by rfl) (by rfl) (by rfl) (by rfl) (by decide) (by decide) (by decide) (by decide) (by rfl) (by rfl) (by rfl) (by rfl) (by rfl)
  ·exact Vv A (W:=16) (P:=65536) hn (by decide) rfl (by rfl) (by rfl) (by rfl) (by rfl) (by decide) (by decide) (by decide) (by decide) (by rfl) (by rfl) (by rfl) (by rfl) (by rfl)
  ·exact jB A hn (by decide) rfl (by rfl) (by rfl) (by rfl) (by rfl) (by rfl) (by rfl) (by rfl)
  ·exact jB A hn (by decide) rfl (by rfl) (by rfl) (by rfl) (by rfl) (by rfl) (by rfl) (by rfl)
  ·exact jB A hn (by decide) rfl (by rfl) (by rfl) (by rfl) (by rfl) (by rfl) (by rfl) (by rfl)
  ·exact jB A hn (by decide) rfl (by rfl) (by rfl) (by rfl) (by rfl) (by rfl) (by rfl) (by rfl)
  ·exact jB A hn (by decide) rfl (by rfl) (by rfl) (by rfl) (by rfl) (by rfl) (by rfl) (by rfl)
  ·exact jB A hn (by decide) rfl (by rfl) (by rfl) (by rfl) (by rfl) (by rfl) (by rfl) (by rfl)
  ·exact jB A hn (by decide) rfl (by rfl) (by rfl) (by rfl) (by rfl) (by rfl) (by rfl) (by rfl)
  ·exact jB A hn (by decide) rfl (by rfl) (by rfl) (by rfl) (by rfl) (by rfl) (by rfl) (by rfl)
  ·exact jB A hn (by decide) rfl (by rfl) (by rfl) (by rfl) (by rfl) (by rfl) (by rfl) (by rfl)
  ·exact Vv A (W:=5) (P:=32) hn (by decide) rfl (by rfl) (by rfl) (by rfl) (by rfl) (by decide) (by decide) (by decide) (by decide) (by rfl) (by rfl) (by rfl) (by rfl) (by rfl)
  ·exact Vv A (W:=5) (P:=32) hn (by decide) rfl (by rfl) (by rfl) (by rfl) (by rfl) (by decide) (by decide) (by decide) (by decide) (by rfl) (by rfl) (by rfl) (by rfl) (by rfl)
  ·exact Vu A hn (by decide) (by decide) rfl (by rfl) (by rfl) (by rfl) (by rfl) (by rfl) (by rfl) (by rfl) (by rfl)
  ·exact Vu A hn (by decide) (by decide) rfl (by rfl) (by rfl) (by rfl) (by rfl) (by rfl) (by rfl) (by rfl) (by rfl)
  ·exact Vu A hn (by decide) (by decide) rfl (by rfl) (by rfl) (by rfl) (by rfl) (by rfl) (by rfl) (by rfl) (by rfl)
  ·exact Vu A hn (by decide) (by decide) rfl (by rfl) (by rfl) (by rfl) (by rfl) (by rfl) (by rfl) (by rfl) (by rfl)
  ·exact DW A hn (.inl rfl) hws
  ·exact Vt A (q:=1) hn (.inl rfl) (by decide) (by decide) rfl (by rfl) (by rfl) (by rfl) (by rfl) (by rfl) hws
  ·exact Vt A (q:=2) hn (.inl rfl) (by decide) (by decide) rfl (by rfl) (by rfl) (by rfl) (by rfl) (by rfl) hws
  ·exact DW A hn (.inr rfl) hws
  ·exact Vt A (q:=1) hn (.inr rfl) (by decide) (by decide) rfl (by rfl) (by rfl) (by rfl) (by rfl) (by rfl) hws
  ·exact Vt A (q:=2) hn (.inr rfl) (by decide) (by decide) rfl (by rfl) (by rfl) (by rfl) (by rfl) (by rfl) hws
noncomputable def qL(m:Nat):List Nat:=(Nat.toDigits 10 m).map Char.toNat
theorem P_:∀d:Nat,d<10->(Nat.digitChar d).toNat=48+d:=by decide
theorem Dz{m:Nat}(h:m<10):qL m=[48+m]:=by
 unfold qL;rw[Nat.toDigits_of_lt_base h,xY,qj,P_ m h]
theorem R0{m:Nat}(h:10<=m):qL m=qL (m/10)++[48+m%10]:=by
 have hm:m%10<10:=Nat.mod_lt m (by decide);have t:Nat.toDigits 10 (m/10)++Nat.toDigits 10 (m%10)=Nat.toDigits 10 (10*(m/10)+m%10):=Nat.toDigits_append_toDigits (by decide) (by omega) hm;rw[Nat.div_add_mod]at t;have e:qL (m%10)=[48+m%10]:=Dz hm;unfold qL at e ⊢;rw[<-t,vO,e]
theorem D_:∀m:Nat,qL m≠[]/\(∀c∈qL m,48<=c/\c<=57)/\(m≠0->(qL m).head?≠some 48):=λm=>by
 induction m using Nat.strongRecOn with
 |_ m ih=>
  by_cases h:m<10
  ·rw[Dz h];refine⟨by simp,λc hc=>?_,λh0 z=>?_⟩
   ·rw[wO.mp hc];omega
   ·have:48+m=48:=vk z;omega
  ·obtain⟨a,b,c⟩:=ih (m/10) (by omega);rw[R0 (by omega)];refine⟨by simp,λx hx=>?_,λ_=>?_⟩
   ·rcases wb.mp hx with hx|hx
    ·exact b x hx
    ·rw[wO.mp hx];omega
   ·cases e:qL (m/10)with
    |nil=>exact absurd e a
    |cons y r=>
     have:=c (by omega);rw[e]at this;exact this
noncomputable def zd(n:Int):Str:=Str.ofString (toString n)
theorem Dy{n:Int}(h:0<=n):(zd n).cps.toList=qL n.toNat:=by
 have:=W.KIN.signs_num n.toNat;rw[show((n.toNat:Nat):Int)=n by omega]at this;exact this
noncomputable def xw(c:Nat):List Nat->List (List Nat)
 | []=>[[]]
 |a::l=>if a=c then[]::xw c l else match xw c l with
  |p::r=>(a::p)::r
  | []=>[[a]]
theorem ZJ(c a:Nat)(l:List Nat):xw c (a::l)=if a=c then[]::xw c l else match xw c l with
  |p::r=>(a::p)::r
  | []=>[[a]]:=rfl
noncomputable def jn(c:Nat):List (List Nat)->List Nat
 | []=>[]
 | [p]=>p
 |p::q::r=>p++c::jn c (q::r)
theorem HR(c:Nat):∀l,∃p r,xw c l=p::r
 | []=>⟨_,_,rfl⟩
 |a::l=>by
  obtain⟨p,r,e⟩:=HR c l;rw[ZJ,e]
  split
  ·exact⟨_,_,rfl⟩
  ·exact⟨_,_,rfl⟩
theorem ZK{c:Nat}:∀{p:List Nat},c ∉ p->xw c p=[p]
 | [],_=>rfl
 |a::p,h=>by
  have ne:¬ a=c:=λe=>h (by rw[e]; exact xh)
  rw[ZJ,zV ne,ZK (λz=>h (wN _ z))]
theorem Yj(c:Nat):∀(p l:List Nat),xw c (p++c::l)=xw c p++xw c l
 | [],l=>by
  rw[gi,ZJ,zP rfl];rfl
 |a::p,l=>by
  rw[pj,ZJ,ZJ,Yj c p l];obtain⟨q,r,e⟩:=HR c p;rw[e]
  split
  ·rfl
  ·rfl
theorem HQ{c:Nat}:∀{ps:List (List Nat)},ps≠[]->(∀p∈ps,c ∉ p)->xw c (jn c ps)=ps
 | [],h,_=>absurd rfl h
 | [p],_,h=>ZK (h p xh)
 |p::q::r,_,h=>by
  show xw c (p++c::jn c (q::r))=_;rw[Yj,ZK (h p xh),HQ (ps:=q::r) (by simp) λz hz=>h z (wN _ hz)];rfl
theorem t4(a b:Str):(a++b).cps.toList=a.cps.toList++b.cps.toList:=Wm
theorem C2(c:Nat):∀ts:List Str,(Str.join ⟨#[c]⟩ ts).cps.toList=jn c (ts.map λt=>t.cps.toList)
 | []=>rfl
 | [x]=>rfl
 |x::y::r=>by
  show(x++⟨#[c]⟩++Str.join ⟨#[c]⟩ (y::r)).cps.toList=_;rw[t4,t4,C2 c (y::r),tu];rfl
theorem HS(x:Str)(c:Nat):(Txt.split x ⟨#[c]⟩).map (λt=>t.cps.toList)=xw c x.cps.toList:=by
 have h1:=congrArg (λz:Str=>z.cps.toList) (StrLaws.join_split x ⟨#[c]⟩);have h1:jn c ((Txt.split x ⟨#[c]⟩).map λt=>t.cps.toList)=x.cps.toList:=(C2 c _).symm.trans h1;rw[<-h1,HQ]
 ·intro z;have:=congrArg List.length z;rw[yK]at this;have p:=PyProof.Rows.split_pos x ⟨#[c]⟩;rw[this]at p;exact absurd p (by decide)
 ·intro p hp;obtain⟨t,ht,rfl⟩:=v4.mp hp;exact StrLaws.split_free x c t ht
noncomputable def tb(a:Nat):Nat:=if a=9 then 32 else a
noncomputable def W(l:List Nat):List (List Nat):=(xw 32 ((l.takeWhile (· != 59)).map tb)).filter λp=>!p.isEmpty
structure Zw(r:D)(v:Int):Prop where
 v0:0<=v
 v1:v<4294967296
 c:∃n:Nat,n<=17/\v/134217728=(n:Int)
 r:v8 [.int v]=some (false,r)
theorem Qc{k:Str}{n:Nat}{v:Int}{R fs:List D}(v0:0<=v)(v1:v<4294967296)(n17:n<=17)(hv:v/134217728=(n:Int))(hk:uH.getD n .zD=.str k)(hc:xZ pI jF (.str k)=some (.int (n:Int)))(hf:wP [.str k]=some (true,.lst fs))
  (hl:xI (yD 5) xP vj [some (false,.int v),some (false,.int (n:Int)),some (false,.str k),none,none,none] fs=some R)(hn:yu .zD (.tup (.str k::R))=some (.bl false))(hR:R.length<=3)(hz:uw [.tup (.str k::R),.int (n:Int)]=some (false,.int v)):Zw (.tup (.str k::R)) v:=by
 refine⟨v0,v1,⟨n,n17,hv⟩,?_⟩
 ·have hcc:=t6 v0 v1;rw[hv]at hcc;have hkk:=pP (n:=n) (by omega);rw[hk]at hkk;have hnear:=qV (n:=n) (by omega);rw[yV (show ¬ 18<=n by omega),u4]at hnear;have:=qX hcc hkk hf hl hn hR hnear (λh=>by cases h) (λ_=>rfl) hz;rw[this,zP rfl]
theorem Qb{n:Nat}{k:Str}{W P d m:Int}(n17:n<=17)(hk:uH.getD n .zD=.str k)(hc:xZ pI jF (.str k)=some (.int (n:Int)))(hf:wP [.str k]=some (true,.lst [.str "d",.str "n"]))(hd:xi [.str k,.str "d"]=some (false,.tup [.int 24,.int 3]))
  (hp:xi [.str k,.str "n"]=some (false,.tup [.int 0,.int W]))(w0:0<=W)(w1:W<=16)(hP:(2:Int) ^ W.toNat=P)(hdv:(2:Int) ^ W.toNat ∣ 16777216)(d0:0<=d)(d1:d<8)(m0:0<=m)(m1:m<P)(hP2:P<=65536)(hx:((n:Int)*134217728+d*16777216+m)%P=m):Zw (.tup [.str k,.int d,.int m]) ((n:Int)*134217728+d*16777216+m):=by
 have hfw:=FQ (c:=(n:Int)) (d:=d) (n:=m) hf hd hp (by omega) (by omega) w0 w1 d0 d1 m0 (by rw[hP]; exact m1) hdv;have h1:wu [.int ((n:Int)*134217728+d*16777216+m),.str k,.str "d"]=some (false,.int (((n:Int)*134217728+d*16777216+m)/16777216%8)):=uY hd (by rfl) (by decide) (by decide) (by decide);have h2:wu [.int ((n:Int)*134217728+d*16777216+m),.str k,.str "n"]=some (false,.int (((n:Int)*134217728+d*16777216+m)/1%P)):=by rw[<-hP]; exact uY hp (by rfl) (by decide) w0 (by omega)
 rw[tq,hx]at h2;rw[show((n:Int)*134217728+d*16777216+m)/16777216%8=d by omega]at h1;refine Qc (by omega) (by omega) n17 (by omega) hk hc hf ?_ rfl (by simp) hfw;generalize (n:Int)*134217728+d*16777216+m=x at *;simp only[xI,yD.eq_1,xP,vj,shx,h1,h2]
theorem jQ{n:Nat}{k:Str}{d s:Int}(n13:n<=13)(hk:uH.getD n .zD=.str k)(hc:xZ pI jF (.str k)=some (.int (n:Int)))(hf:wP [.str k]=some (true,.lst [.str "d",.str "s"]))(hd:xi [.str k,.str "d"]=some (false,.tup [.int 24,.int 3]))
  (hp:xi [.str k,.str "s"]=some (false,.tup [.int 21,.int 3]))(d0:0<=d)(d1:d<8)(s0:0<=s)(s1:s<8):Zw (.tup [.str k,.int d,.int s]) ((n:Int)*134217728+d*16777216+s*2097152):=by
 have hfw:=FU (c:=(n:Int)) (d:=d) (s:=s) hf hd hp (by omega) (by omega) d0 d1 s0 s1;have h1:wu [.int ((n:Int)*134217728+d*16777216+s*2097152),.str k,.str "d"]=some (false,.int (((n:Int)*134217728+d*16777216+s*2097152)/16777216%8)):=uY hd (by rfl) (by decide) (by decide) (by decide);have h2:wu [.int ((n:Int)*134217728+d*16777216+s*2097152),.str k,.str "s"]=some (false,.int (((n:Int)*134217728+d*16777216+s*2097152)/2097152%8)):=uY hp (by rfl) (by decide) (by decide) (by decide);rw[show((n:Int)*134217728+d*16777216+s*2097152)/16777216%8=d by omega]at h1;rw[show((n:Int)*134217728+d*16777216+s*2097152)/2097152%8=s by omega]at h2;refine Qc (by omega) (by omega) (by omega) (by omega) hk hc hf ?_ rfl (by simp) hfw;generalize (n:Int)*134217728+d*16777216+s*2097152=x at *;simp only[xI,yD.eq_1,xP,vj,shx,h1,h2]
theorem Qa{n:Nat}{k:Str}{d s m:Int}(n17:n<=17)(hk:uH.getD n .zD=.str k)(hc:xZ pI jF (.str k)=some (.int (n:Int)))(hf:wP [.str k]=some (true,.lst [.str "d",.str "s",.str "n"]))(hd:xi [.str k,.str "d"]=some (false,.tup [.int 24,.int 3]))
  (hp:xi [.str k,.str "s"]=some (false,.tup [.int 21,.int 3]))(hp2:xi [.str k,.str "n"]=some (false,.tup [.int 0,.int 8]))(d0:0<=d)(d1:d<8)(s0:0<=s)(s1:s<8)(m0:0<=m)(m1:m<256):Zw (.tup [.str k,.int d,.int s,.int m]) ((n:Int)*134217728+d*16777216+s*2097152+m):=by
 have hfw:=FV (c:=(n:Int)) (d:=d) (s:=s) (n:=m) hf hd hp hp2 (by omega) (by omega) d0 d1 s0 s1 m0 m1;have h1:wu [.int ((n:Int)*134217728+d*16777216+s*2097152+m),.str k,.str "d"]=some (false,.int (((n:Int)*134217728+d*16777216+s*2097152+m)/16777216%8)):=uY hd (by rfl) (by decide) (by decide) (by decide);have h2:wu [.int ((n:Int)*134217728+d*16777216+s*2097152+m),.str k,.str "s"]=some (false,.int (((n:Int)*134217728+d*16777216+s*2097152+m)/2097152%8)):=uY hp (by rfl) (by decide) (by decide) (by decide);have h3:wu [.int ((n:Int)*134217728+d*16777216+s*2097152+m),.str k,.str "n"]=some (false,.int (((n:Int)*134217728+d*16777216+s*2097152+m)/1%256)):=uY hp2 (by rfl) (by decide) (by decide) (by decide);rw[show((n:Int)*134217728+d*16777216+s*2097152+m)/16777216%8=d by omega]at h1;rw[show((n:Int)*134217728+d*16777216+s*2097152+m)/2097152%8=s by omega]at h2;rw[show((n:Int)*134217728+d*16777216+s*2097152+m)/1%256=m by omega]at h3;refine Qc (by omega) (by omega) n17 (by omega) hk hc hf ?_ rfl (by simp) hfw;generalize (n:Int)*134217728+d*16777216+s*2097152+m=x at *;simp only[xI,yD.eq_1,xP,vj,shx,h1,h2,h3]
noncomputable def Xh:D->D
 |.tup xs=>.tup xs.dropLast
 |d=>d
noncomputable def cJ:D->Int
 |.tup (.str w::_)=>if w = "when" then 1 else if w = "unless" then 2 else 0
 |_=>0
noncomputable def mJ:D->Int
 |.tup [_,.str k,_]=>if k = "nought" then 1 else if k = "sign" then 2 else 0
 |_=>0
structure Vp(r:D)(c m:Int):Prop where
 c0:0<=c
 c1:c<3
 m0:0<=m
 m1:m<3
 nr:∀d:Int,v8 [.int ((18+c)*134217728+m*16777216+d%32)]=some (false,Xh r)
 fr:v8 [.int ((21+c)*134217728+m*16777216)]=some (false,Xh r)
 hd:∃R,Xh r=.tup R/\R≠[]/\R.length<=2/\R.all yY=true
theorem Cp{x Z:Int}{n:Nat}{k:Str}{fs R:List D}(x0:0<=x)(x1:x<4294967296)(hx:x/134217728=(n:Int))(n0:18<=n)(n1:n<=20)(hk:uH.getD n .zD=.str k)(hf:wP [.str k]=some (true,.lst fs))(hl:xI (yD 5) xP vj [some (false,.int x),some (false,.int (n:Int)),some (false,.str k),none,none,none] fs=some R)
  (hn:yu .zD (.tup (.str k::R))=some (.bl false))(hR:R.length<=3)(hz:uw [.tup (.str k::R),.int (n:Int)]=some (false,.int Z))(hZ:Z=x+(0-x%32)*1):v8 [.int x]=some (false,.tup (.str k::R)):=by
 have hcc:=t6 x0 x1;rw[hx]at hcc;have hkk:=pP (n:=n) (by omega);rw[hk]at hkk;have hnear:=qV (n:=n) (by omega);rw[yb n0,yb n1,pZ]at hnear;have hw:tL [.int x,.tup [.int 0,.int 5],.int 0]=some (false,.int (x+(0-x/1%32)*1)):=Qd ⟨⟨x0,by decide,by decide,by decide,by decide⟩,by decide,by decide⟩;rw[tq]at hw;have:=qX hcc hkk hf hl hn hR hnear (λ_=>hw) (λh=>by cases h) hz;rw[this,zP hZ]
theorem FN{x:Int}{n:Nat}{k:Str}{fs R:List D}(x0:0<=x)(x1:x<4294967296)(hx:x/134217728=(n:Int))(n0:21<=n)(n1:n<=23)(hk:uH.getD n .zD=.str k)(hf:wP [.str k]=some (true,.lst fs))(hl:xI (yD 5) xP vj [some (false,.int x),some (false,.int (n:Int)),some (false,.str k),none,none,none] fs=some R)
  (hn:yu .zD (.tup (.str k::R))=some (.bl false))(hR:R.length<=3)(hz:uw [.tup (.str k::R),.int (n:Int)]=some (false,.int x)):v8 [.int x]=some (false,.tup (.str k::R)):=by
 have hcc:=t6 x0 x1;rw[hx]at hcc;have hkk:=pP (n:=n) (by omega);rw[hk]at hkk;have hnear:=qV (n:=n) (by omega);rw[yV (show ¬ n<=20 by omega),Wn]at hnear;have:=qX hcc hkk hf hl hn hR hnear (λh=>by cases h) (λ_=>rfl) hz;rw[this,zP rfl]
theorem Ss{p:Int}:Vp (.tup [.str "jump",.int p]) 0 0:=by
 refine⟨by decide,by decide,by decide,by decide,λd=>?_,?_,⟨_,rfl,by simp,by simp,rfl⟩⟩
 ·refine Cp (n:=18) (k := "jump") (fs:=[]) (R:=[]) (Z:=18*134217728) (by omega) (by omega) (by omega) (by decide) (by decide) rfl rfl rfl rfl (by simp) (Xn (c:=18) (by decide) (by decide) rfl) (by omega)
 ·exact FN (n:=21) (k := "jump") (fs:=[]) (R:=[]) (by omega) (by omega) (by omega) (by decide) (by decide) rfl rfl rfl rfl (by simp) (Xn (c:=21) (by decide) (by decide) rfl)
theorem PD{w k:Str}{p:Int}(hw:w = "when" \/ w = "unless")(hk:k = "carry" \/ k = "nought" \/ k = "sign"):Vp (.tup [.str w,.str k,.int p]) (cJ (.tup [.str w,.str k,.int p])) (mJ (.tup [.str w,.str k,.int p])):=by
 obtain⟨c,ec,c0,c1,hn,hfar,kn,kf⟩:∃c:Nat,cJ (.tup [.str w,.str k,.int p])=(c:Int)/\1<=c/\c<=2/\xZ kK kN (.str w)=some (.int (18+(c:Int)))/\xZ kJ kM (.str w)=some (.int (21+(c:Int)))/\uH.getD (18+c) .zD=.str w/\uH.getD (21+c) .zD=.str w:=by
  rcases hw with rfl|rfl
  ·exact⟨1,by rfl,by decide,by decide,by rfl,by rfl,rfl,rfl⟩
  ·exact⟨2,by rfl,by decide,by decide,by rfl,by rfl,rfl,rfl⟩
 obtain⟨m,em,m1,hm,mk⟩:∃m:Nat,mJ (.tup [.str w,.str k,.int p])=(m:Int)/\m<3/\Xm Xq (.str k)=some (.int (m:Int))/\LG.getD m .zD=.str k:=by
  rcases hk with rfl|rfl|rfl
  ·exact⟨0,by rfl,by decide,by rfl,rfl⟩
  ·exact⟨1,by rfl,by decide,by rfl,rfl⟩
  ·exact⟨2,by rfl,by decide,by rfl,rfl⟩
 rw[ec,em];have hf:wP [.str w]=some (true,.lst [.str "mark"]):=by rcases hw with rfl|rfl<;>rfl
 have hp:xi [.str w,.str "mark"]=some (false,.tup [.int 24,.int 2]):=by rcases hw with rfl|rfl<;>rfl
 have held:∀x:Int,x/16777216%4=(m:Int)->wu [.int x,.str w,.str "mark"]=some (false,.str k):=λx hx=>by
  have:=Fh (x:=x) hp;rw[hx,wH,mk]at this;exact this
 refine⟨by omega,by omega,by omega,by omega,λd=>?_,?_,⟨_,rfl,by simp,by simp,rfl⟩⟩
 ·have hh:=held ((18+(c:Int))*134217728+(m:Int)*16777216+d%32) (by omega);refine Cp (n:=18+c) (k:=w) (fs:=[.str "mark"]) (R:=[.str k]) (Z:=((18+c:Nat):Int)*134217728+(m:Int)*16777216) (by omega) (by omega) (by omega) (by omega) (by omega) kn hf ?_ rfl (by simp) (Om hf hp hm (by omega) (by omega) (by omega) (by omega)) (by omega);generalize (18+(c:Int))*134217728+(m:Int)*16777216+d%32=x at *;simp only[xI,yD.eq_1,xP,vj,shx,hh]
 ·have hh:=held ((21+(c:Int))*134217728+(m:Int)*16777216) (by omega);have hz:=Om (c:=((21+c:Nat):Int)) hf hp hm (by omega) (by omega) (by omega) (by omega);rw[show((21+c:Nat):Int)*134217728+(m:Int)*16777216=(21+(c:Int))*134217728+(m:Int)*16777216 by omega]at hz;refine FN (n:=21+c) (k:=w) (fs:=[.str "mark"]) (R:=[.str k]) (by omega) (by omega) (by omega) (by omega) (by omega) kf hf ?_ rfl (by simp) hz;generalize (21+(c:Int))*134217728+(m:Int)*16777216=x at *;simp only[xI,yD.eq_1,xP,vj,shx,hh]
theorem Sn{n:Int}{r:D}(h:j9 n r):Vp r (cJ r) (mJ r):=by
 cases h with
 |j2 p0 p1=>exact Ss
 |cond hw hk p0 p1=>exact PD hw hk
noncomputable def LA:FS:=(zK (ZE 1 (z7 2) (z7 3))
    (zK (zY 2 (e2 zI (z7 3) (eC (.int 1))))
    (zY 3 (za u8 (zB (z7 0) (zB (z7 2) zF))))))
noncomputable def U5:FT:=(tE (e2 kF (z7 3) (eC .zD)))
noncomputable def OK:FS:=
 (zK (vX 1 (eC (.dic [] [])))
  (zK (zY 2 (eC (.int 0)))
  (zK (zY 3 (za u8 (zB (z7 0) (zB (z7 2) zF))))
  (zK (WT U5
   LA)
  (qZ 1)))))
noncomputable def Zt:List D->Option (Bool×D):=FR 1 4 OK
theorem Rv(x0:D):Zt [x0]=ya 4 OK [x0]:=rfl
noncomputable def BO:FE:=(e2 zI (z7 1) (eC (.int 1)))
noncomputable def Ix:FS:=
 (zr (e2 Oh (wx 1 (YG 0) (yD 1) xP BO) (eC (.int 0))))
noncomputable def XD:List D->Option (Bool×D):=FR 1 1 Ix
theorem RW(x0:D):XD [x0]=ya 1 Ix [x0]:=rfl
noncomputable def LB:FS:=(zK (zY 5 (e2 zI (z7 4) (eC (.int 2))))
    (zt (ZO (tE (e2 kF (z7 5) (eC .zD))) (ZO (tE (e2 xA (z7 5) (z7 2))) (tE (e2 kE (z7 5) (z7 1)))))
     (zr (z7 3))
     yJ))
noncomputable def OM:FS:=
 (zK (zY 1 (za Zt (zB (z7 0) zF)))
  (zK (zY 2 (za XD (zB (z7 1) zF)))
  (zK (zt (tE (e2 xA (z7 2) (eL xq (zB (z7 0) zF))))
   (zr (z7 2))
   yJ)
  (zK (wm (YF 1) (vV 3 4)
   LB)
  (zr (eC .zD))))))
noncomputable def XT:List D->Option (Bool×D):=FR 1 6 OM
theorem Rx(x0:D):XT [x0]=ya 6 OM [x0]:=rfl
noncomputable def OJ:FS:=
 (zK (zY 1 (za XT (zB (z7 0) zF)))
  (zK (zt (tE (e2 kF (z7 1) (eC .zD)))
   (λ_=>none)
   yJ)
  (zr (za Zt (zB (z7 0) zF)))))
noncomputable def XS:List D->Option (Bool×D):=FR 1 2 OJ
theorem Ru(x0:D):XS [x0]=ya 2 OJ [x0]:=rfl
noncomputable def tA(A:Nat->Int):Option Nat->D
 |none=>.zD
 |some p=>.int (A p)
structure Tb(ws:List D)(n:Nat)(A:Nat->Int)(b:Nat->D)(tg:Nat->Option Nat):Prop where
 up:∀i,i<n->A i<A (i+1)
 z:A 0=0
 e:A n=(ws.length:Int)
 told:∀i,i<n->u8 [.lst ws,.int (A i)]=some (false,.tup [b i,.int (A (i+1)),tA A (tg i)])
 fin:u8 [.lst ws,.int (A n)]=some (false,.zD)
 le:∀i p,i<n->tg i=some p->p<=n
 D9:n<=400
noncomputable def vY(A:Nat->Int)(b:Nat->D)(tg:Nat->Option Nat)(i:Nat):D:=.tup [b i,.int (A (i+1)),tA A (tg i)]
noncomputable def yZ(A:Nat->Int)(n:Nat):List (Sum Int Str):=(List.range n).map λi=>.inl (A i)
noncomputable def yn(A:Nat->Int)(b:Nat->D)(tg:Nat->Option Nat)(n:Nat):List D:=(List.range n).map (vY A b tg)
theorem e8{ks:List (Sum Int Str)}{vs:List D}{k:Sum Int Str}{v:D}(h:wB ks k=false):uh ks k=ks++[k]/\vW ks vs k v=vs++[v]:=by
 unfold uh vW;rw[h];exact⟨rfl,rfl⟩
theorem AE(A:Nat->Int)(n:Nat):yZ A (n+1)=yZ A n++[.inl (A n)]:=by
 unfold yZ;rw[Yw,vO];rfl
theorem r8(A:Nat->Int)(b:Nat->D)(tg:Nat->Option Nat)(n:Nat):yn A b tg (n+1)=yn A b tg n++[vY A b tg n]:=by
 unfold yn;rw[Yw,vO];rfl
theorem AD(A:Nat->Int)(n:Nat):(yZ A n).length=n:=by
 unfold yZ;rw[yK,pq]
theorem TK{A:Nat->Int}{n:Nat}{x:Int}:wB (yZ A n) (.inl x)=true↔∃i,i<n/\A i=x:=by
 unfold wB yZ;rw[Q_]
 constructor
 ·rintro⟨k,hk,e⟩;obtain⟨i,hi,rfl⟩:=v4.mp hk;exact⟨i,tz.mp hi,JD (wI e)⟩
 ·rintro⟨i,hi,rfl⟩;exact⟨_,v4.mpr ⟨i,tz.mpr hi,rfl⟩,yb rfl⟩
section
variable{ws:List D}{n:Nat}{A:Nat->Int}{b:Nat->D}{tg:Nat->Option Nat}(T:Tb ws n A b tg)
include T
theorem Tb.lt{i j:Nat}(h:i<j)(hj:j<=n):A i<A j:=by
 induction j with
 |zero=>omega
 |succ j ih=>
  have u:=T.up j (by omega);by_cases e:i=j
  ·rw[e]; exact u
  ·have:=ih (by omega) (by omega);omega
theorem Tb.inj{i j:Nat}(hi:i<=n)(hj:j<=n)(e:A i=A j):i=j:=by
 rcases Nat.lt_trichotomy i j with h|h|h
 ·have:=T.lt h hj; omega
 ·exact h
 ·have:=T.lt h hi; omega
theorem Tb.new{i:Nat}(hi:i<=n):wB (yZ A i) (.inl (A i))=false:=by
 cases c:wB (yZ A i) (.inl (A i))with
 |false=>rfl
 |true=>
  obtain⟨j,hj,e⟩:=TK.mp c;have:=T.inj (by omega) hi e;omega
noncomputable def gZ(n:Nat)(A:Nat->Int)(b:Nat->D)(tg:Nat->Option Nat)(i:Nat):D:=if i<n then vY A b tg i else .zD
theorem Tb.tell{i:Nat}(hi:i<=n):u8 [.lst ws,.int (A i)]=some (false,gZ n A b tg i):=by
 unfold gZ;by_cases h:i<n
 ·rw[zP h];exact T.told i h
 ·have e:i=n:=by omega
  rw[zV h,e];exact T.fin
theorem KF:∀(k i:Nat),i+k=n->uO U5 LA (k+1) [some (false,.lst ws),some (true,.dic (yZ A i) (yn A b tg i)),some (false,.int (A i)),some (false,gZ n A b tg i)]=some (.nx [some (false,.lst ws),some (true,.dic (yZ A n) (yn A b tg n)),some (false,.int (A n)),some (false,.zD)])
 |0,i,h=>by
  have e:i=n:=by omega
  subst e;have ht:gZ i A b tg i=.zD:=zV (v6 _);rw[ht];refine BL ?_;unfold U5;simp![]
 |k+1,i,h=>by
  have hi:i<n:=by omega
  have ht:gZ n A b tg i=vY A b tg i:=zP hi;rw[ht,BM (σ':=[some (false,.lst ws),some (true,.dic (yZ A (i+1)) (yn A b tg (i+1))),some (false,.int (A (i+1))),some (false,gZ n A b tg (i+1))])]
  ·exact KF k (i+1) (by omega)
  ·unfold U5 vY;simp![]
  ·obtain⟨p1,p2⟩:=e8 (vs:=yn A b tg i) (v:=vY A b tg i) (T.new (Zb hi));have tl:=T.tell (i:=i+1) hi;have hl:(yZ A i).length<yR:=by rw[AD]; have:=T.D9; show i<16777216; omega
   have i1:zI (vY A b tg i) (.int 1)=some (.int (A (i+1))):=rfl
   have hp:ZE 1 (z7 2) (z7 3) [some (false,.lst ws),some (true,.dic (yZ A i) (yn A b tg i)),some (false,.int (A i)),some (false,vY A b tg i)]=some (.nx [some (false,.lst ws),some (true,.dic (yZ A (i+1)) (yn A b tg (i+1))),some (false,.int (A i)),some (false,vY A b tg i)]):=by
    rw[AE,r8,<-p1,<-p2];show(if(yZ A i).length<yR then _ else _)=_;rw[zP hl];rfl
   unfold LA;generalize yZ A (i+1)=K1 at *;generalize yn A b tg (i+1)=V1 at *;generalize yZ A i=K0 at *;generalize yn A b tg i=V0 at *;generalize vY A b tg i=TD at *;generalize gZ n A b tg (i+1)=TL at *;simp![hp,i1,tl]
theorem KG:Zt [.lst ws]=some (true,.dic (yZ A n) (yn A b tg n)):=by
 have e0:=T.tell (i:=0) (qo _);rw[T.z]at e0;have lp:=M1 (n+1) (KF T n 0 (wq n)) (by have:=T.D9; show n+1<=100000000; omega);rw[T.z]at lp;have k0:yZ A 0=[]:=rfl;have v0:yn A b tg 0=[]:=rfl;rw[k0,v0]at lp;rw[Rv];unfold OK;generalize gZ n A b tg 0=TL at *;generalize yZ A n=KK at *;generalize yn A b tg n=VV at *;simp![e0,lp]
theorem Nh:XD [.dic (yZ A n) (yn A b tg n)]=some (false,.int (A n)):=by
 have e1:xI (yD 1) xP BO [some (false,.dic (yZ A n) (yn A b tg n)),none] (yn A b tg n)=some (((List.range n).map λi=>A (i+1)).map D.int):=by
  have:=Ta (g:=yD 1) (e:=BO) (σ:=[some (false,.dic (yZ A n) (yn A b tg n)),none]) (λd=>match d with|.tup [_,x,_]=>x|_=>.zD) (ds:=yn A b tg n) λd hd=>by
   obtain⟨i,_,rfl⟩:=v4.mp hd;exact⟨_,rfl,rfl⟩
  rw[this];unfold yn;rw[jV,jV];rfl
 have e2:Oh (.lst (((List.range n).map λi=>A (i+1)).map D.int)) (.int 0)=some (.int (A n)):=by
  show(kq _).bind _=_;rw[Fr];show some (if(List.range n).map (λi=>A (i+1))=[]then _ else _)=_;by_cases c:n=0
  ·subst c;show some (D.int 0)=some (D.int (A 0));rw[T.z]
  ·rw[zV (by
    intro h;have:=congrArg List.length h;rw[yK,pq]at this;exact c this)]
   have:A n=L2.maxI ((List.range n).map λi=>A (i+1)):=by
    refine L2.maxI_uniq ?_ λy hy=>?_
    ·exact v4.mpr ⟨n-1,tz.mpr (by omega),by rw[Bw (by omega)]⟩
    ·obtain⟨i,hi,rfl⟩:=v4.mp hy;have hi:=tz.mp hi;by_cases e:i+1=n
     ·rw[e]; exact Qz _
     ·exact ZW (T.lt (by omega) (y0 _))
   rw[<-this]
 rw[RW];unfold Ix;generalize ((List.range n).map λi=>A (i+1)).map D.int=LL at *;have e0:YG 0 [some (false,.dic (yZ A n) (yn A b tg n))]=some (yn A b tg n):=rfl;generalize yZ A n=KK at *;generalize yn A b tg n=VV at *;simp![e0,e1,e2]
noncomputable def T9(A:Nat->Int)(b:Nat->D)(tg:Nat->Option Nat)(n:Nat):List D:=(List.range n).map λi=>D.tup [.int (A i),vY A b tg i]
omit T in
theorem Sd{x2 x3 x4 x5:Option Sl}:YF 1 [some (false,.lst ws),some (false,.dic (yZ A n) (yn A b tg n)),x2,x3,x4,x5]=some (T9 A b tg n):=by
 have h:(yZ A n).all jI=true:=u5.mpr λk hk=>by
  obtain⟨i,_,rfl⟩:=v4.mp hk;rfl
 show(if(yZ A n).all jI=true then some (jK (yZ A n) (yn A b tg n))else none)=_;rw[zP h];unfold jK yZ yn T9;refine congrArg some (Bl λi=>?_);rw[J5,wM,wM,wM];cases(List.range n)[i]? with
 |none=>rfl
 |some j=>rfl
theorem RL:XT [.lst ws]=some (false,.zD):=by
 have e1:=KG T;have e2:=Nh T;have ne:xA (.int (A n)) (.int (ws.length:Int))=some (.bl false):=by rw[T.e]; exact qU (pN rfl)
 obtain⟨σ',e3,x3,x4,x5,rfl⟩:=tW (g:=vV 3 4) (b:=LB) (λi σ=>∃x3 x4 x5,σ=[some (false,.lst ws),some (false,.dic (yZ A n) (yn A b tg n)),some (false,.int (A n)),x3,x4,x5]) (ds:=T9 A b tg n)
  (σ:=[some (false,.lst ws),some (false,.dic (yZ A n) (yn A b tg n)),some (false,.int (A n)),none,none,none]) 0 ⟨none,none,none,rfl⟩ (by
  rintro i v σ hv ⟨x3,x4,x5,rfl⟩;obtain⟨j,hj,rfl⟩:=v4.mp (tH hv);have hj:=tz.mp hj;refine⟨_,[some (false,.lst ws),some (false,.dic (yZ A n) (yn A b tg n)),some (false,.int (A n)),some (false,.int (A j)),some (false,vY A b tg j),some (false,tA A (tg j))],rfl,.inl ?_,_,_,_,rfl⟩;have i2:zI (vY A b tg j) (.int 2)=some (tA A (tg j)):=rfl;unfold LB;cases h:tg j with
  |none=>
   rw[h]at i2;have t0:tA A none=.zD:=rfl;rw[t0]at i2 ⊢;generalize vY A b tg j=TD at *;generalize yZ A n=KK at *;generalize yn A b tg n=VV at *;simp![i2]
  |some p=>
   rw[h]at i2;have t0:tA A (some p)=.int (A p):=rfl;rw[t0]at i2 ⊢;have hp:=T.le j p hj h;by_cases e:p=n
   ·have q:xA (.int (A p)) (.int (A n))=some (.bl false):=by rw[e]; exact qU (pN rfl)
    generalize vY A b tg j=TD at *;generalize yZ A n=KK at *;generalize yn A b tg n=VV at *;simp![i2,q]
   ·have q:xA (.int (A p)) (.int (A n))=some (.bl true):=qU (t9 (by have:=T.lt (i:=p) (j:=n) (by omega) (y0 _); omega))
    have hin:kE (.int (A p)) (.dic (yZ A n) (yn A b tg n))=some (.bl false):=by
     show(some (wB (yZ A n) (.inl (A p)))).bind _=_;rw[TK.mpr ⟨p,by omega,rfl⟩];rfl
    generalize vY A b tg j=TD at *;generalize yZ A n=KK at *;generalize yn A b tg n=VV at *;simp![i2,q,hin])
 have e4:=Sd (ws:=ws) (A:=A) (b:=b) (tg:=tg) (n:=n) (x2:=some (false,.int (A n))) (x3:=none) (x4:=none) (x5:=none);rw[Rx];unfold OM;generalize T9 A b tg n=IT at *;generalize yZ A n=KK at *;generalize yn A b tg n=VV at *;simp![e1,e2,ne,e4,e3]
theorem lv:XS [.lst ws]=some (false,.dic (yZ A n) (yn A b tg n)):=by
 have e1:=RL T;have e2:=KG T;rw[Ru];unfold OJ;generalize yZ A n=KK at *;generalize yn A b tg n=VV at *;simp![e1,e2]
omit T in
theorem Fa{n:Nat}{A:Nat->Int}(inj:∀i j,i<=n->j<=n->A i=A j->i=j){p:Nat}(hp:p<n)(f:Nat->D):∀(l:List Nat),p∈l->(∀i∈l,i<=n)->getK (l.map λi=>Sum.inl (A i)) (l.map f) (.inl (A p))=some (f p)
 | [],h,_=>by cases h
 |a::l,h,hl=>by
  show(if(Sum.inl (A a):Sum Int Str)=.inl (A p)then some (f a)else getK (l.map λi=>Sum.inl (A i)) (l.map f) (.inl (A p)))=_;by_cases e:A a=A p
  ·have:=inj a p (hl a xh) (Zb hp) e;subst this;rw[zP rfl]
  ·rw[zV (λz=>e (JD z))];rcases xN.mp h with rfl|h
   ·exact absurd rfl e
   ·exact Fa inj hp f l h λi hi=>hl i (wN _ hi)
end
noncomputable def L8:FS:=(zK (zY 1 (eL Oj (zB (e2 zm (z7 1) (z7 2)) zF)))
    (zY 2 (za jk (zB (z7 0) (zB (z7 1) zF)))))
noncomputable def U4:FT:=(tE (e2 xA (z7 2) (ym zF)))
noncomputable def O9:FS:=
 (zK (zY 2 (za jk (zB (z7 0) (zB (z7 1) zF))))
  (zK (WT U4
   L8)
  (zr (z7 1))))
noncomputable def XM:List D->Option (Bool×D):=FR 2 3 O9
theorem Rk(x0 x1:D):XM [x0,x1]=ya 3 O9 [x0,x1]:=rfl
noncomputable def Qe:FE:=(z7 3)
noncomputable def Qh:FT:=(tE (e2 (xE λi j=>decide (i<j)) (e2 yL (za v7 (zB (z7 1) (zB (z7 3) zF))) (eC (.int 4))) (z7 2)))
noncomputable def I_:FS:=
 (zr (za XM (zB (z7 0) (zB (wx 1 (vy (za gs (zB (z7 0) zF))) (yD 3) Qh Qe) zF))))
noncomputable def XF:List D->Option (Bool×D):=FR 3 3 I_
theorem RZ(x0 x1 x2:D):XF [x0,x1,x2]=ya 3 I_ [x0,x1,x2]:=rfl
noncomputable def GU:FA:=(uZ (eC (.int 0)) (eL xq (zB (z7 0) zF)))
noncomputable def TV:FS:=(zt (tE (e2 yu (e2 zI (e2 zI (z7 0) (z7 4)) (eC (.int 0))) (yq (zB (eC (.str "jump")) (zB (eC (.str "when")) (zB (eC (.str "unless")) zF))))))
     (zK (zY 5 (e2 wY (e2 zI (z7 2) (e2 zI (e2 zI (z7 0) (z7 4)) (e1 wf (eC (.int 1))))) (e2 zI (z7 2) (z7 4))))
      (vX 3 (e2 Xj (vt 3) (za qF (zB (e2 zI (z7 0) (z7 4)) (zB (z7 5) (zB (e2 yu (z7 4) (z7 1)) zF)))))))
     (wK 3 xj (za uz (zB (e2 zI (z7 0) (z7 4)) zF))))
noncomputable def OD:FS:=
 (zK (zY 2 (za Zs (zB (z7 0) (zB (z7 1) zF))))
  (zK (vX 3 (ym zF))
  (zK (wm GU (yD 4)
   TV)
  (qZ 3))))
noncomputable def XQ:List D->Option (Bool×D):=FR 2 6 OD
theorem Ro(x0 x1:D):XQ [x0,x1]=ya 6 OD [x0,x1]:=rfl
noncomputable def wj(r:D):Nat:=match pQ r with
 |.int p=>p.toNat
 |_=>0
noncomputable def jR(c m d:Int)(z6:Bool):List Int:=bif z6 then[(21+c)*134217728+m*16777216,d%4294967296]else[(18+c)*134217728+m*16777216+d%32]
noncomputable def Z7(r:D):Int:=match uz [r]with
 |some (_,.int v)=>v
 |_=>0
noncomputable def dJ(rows:List D)(z6:List Nat)(i:Nat):Int:=zM (zG z6) (wj (rows.getD i .zD))-zM (zG z6) i
noncomputable def wT(rows:List D)(z6:List Nat)(i:Nat):List Int:=bif xK (rows.getD i .zD)then jR (cJ (rows.getD i .zD)) (mJ (rows.getD i .zD)) (dJ rows z6 i) (zG z6 i)else[Z7 (rows.getD i .zD)]
noncomputable def zk(rows:List D)(z6:List Nat):Nat->List Int
 |0=>[]
 |n+1=>zk rows z6 n++wT rows z6 n
noncomputable def wQ(rows:List D)(i:Nat):D:=bif xK (rows.getD i .zD)then Xh (rows.getD i .zD)else rows.getD i .zD
noncomputable def wL(rows:List D)(i:Nat):Option Nat:=bif xK (rows.getD i .zD)then some (wj (rows.getD i .zD))else none
structure Wr(rows:List D)(z6:List Nat):Prop where
 hr:∀r∈rows,vG (rows.length:Int) r
 hn:rows.length<64
 hg:gF rows z6=[]
 hj:∀i,zG z6 i=true->xK (rows.getD i .zD)=true
structure W1(rows:List D)(z6:List Nat)(i:Nat):Prop where
 pl:xK (rows.getD i .zD)=false->Zw (rows.getD i .zD) (Z7 (rows.getD i .zD))/\uz [rows.getD i .zD]=some (false,.int (Z7 (rows.getD i .zD)))/\zG z6 i=false/\tgt (rows.getD i .zD)=.zD
 jm:xK (rows.getD i .zD)=true->Vp (rows.getD i .zD) (cJ (rows.getD i .zD)) (mJ (rows.getD i .zD))/\wj (rows.getD i .zD)<=rows.length/\tgt (rows.getD i .zD)=.int (wj (rows.getD i .zD):Nat)/\(zG z6 i=false -> -16<=dJ rows z6 i/\dJ rows z6 i<=15) /\ -200<=dJ rows z6 i/\dJ rows z6 i<=200
theorem Et{r:D}(h:uU r):∃v:Int,Zw r v/\uz [r]=some (false,.int v):=by
 cases h with
 |stop=>exact⟨0,Qc (n:=0) (fs:=[]) (by decide) (by decide) (by decide) (by decide) rfl rfl rfl rfl rfl (by simp) (Xn (c:=0) (by decide) (by decide) rfl),CO⟩
 |X5 hw d0 d1 n0 n1=>
  rcases hw with rfl|rfl
  ·exact⟨_,Qb (n:=1) (W:=16) (P:=65536) (by decide) rfl rfl rfl rfl rfl (by decide) (by decide) (by decide) (by decide) d0 d1 n0 n1 (by decide) (by omega),WE (c:=1) (by rfl) (by rfl) (by rfl)⟩
  ·exact⟨_,Qb (n:=2) (W:=16) (P:=65536) (by decide) rfl rfl rfl rfl rfl (by decide) (by decide) (by decide) (by decide) d0 d1 n0 n1 (by decide) (by omega),WE (c:=2) (by rfl) (by rfl) (by rfl)⟩
 |two hw d0 d1 s0 s1=>
  rcases hw with rfl|rfl|rfl|rfl|rfl|rfl|rfl|rfl|rfl
  ·exact⟨_,jQ (n:=3) (by decide) rfl rfl rfl rfl rfl d0 d1 s0 s1,pR (c:=3) (by rfl) (by rfl) (by rfl)⟩
  ·exact⟨_,jQ (n:=4) (by decide) rfl rfl rfl rfl rfl d0 d1 s0 s1,pR (c:=4) (by rfl) (by rfl) (by rfl)⟩
  ·exact⟨_,jQ (n:=5) (by decide) rfl rfl rfl rfl rfl d0 d1 s0 s1,pR (c:=5) (by rfl) (by rfl) (by rfl)⟩
  ·exact⟨_,jQ (n:=6) (by decide) rfl rfl rfl rfl rfl d0 d1 s0 s1,pR (c:=6) (by rfl) (by rfl) (by rfl)⟩
  ·exact⟨_,jQ (n:=7) (by decide) rfl rfl rfl rfl rfl d0 d1 s0 s1,pR (c:=7) (by rfl) (by rfl) (by rfl)⟩
  ·exact⟨_,jQ (n:=8) (by decide) rfl rfl rfl rfl rfl d0 d1 s0 s1,pR (c:=8) (by rfl) (by rfl) (by rfl)⟩
  ·exact⟨_,jQ (n:=9) (by decide) rfl rfl rfl rfl rfl d0 d1 s0 s1,pR (c:=9) (by rfl) (by rfl) (by rfl)⟩
  ·exact⟨_,jQ (n:=10) (by decide) rfl rfl rfl rfl rfl d0 d1 s0 s1,pR (c:=10) (by rfl) (by rfl) (by rfl)⟩
  ·exact⟨_,jQ (n:=11) (by decide) rfl rfl rfl rfl rfl d0 d1 s0 s1,pR (c:=11) (by rfl) (by rfl) (by rfl)⟩
 |X7 hw d0 d1 n0 n1=>
  rcases hw with rfl|rfl
  ·exact⟨_,Qb (n:=12) (W:=5) (P:=32) (by decide) rfl rfl rfl rfl rfl (by decide) (by decide) (by decide) (by decide) d0 d1 n0 n1 (by decide) (by omega),WE (c:=12) (by rfl) (by rfl) (by rfl)⟩
  ·exact⟨_,Qb (n:=13) (W:=5) (P:=32) (by decide) rfl rfl rfl rfl rfl (by decide) (by decide) (by decide) (by decide) d0 d1 n0 n1 (by decide) (by omega),WE (c:=13) (by rfl) (by rfl) (by rfl)⟩
 |mem hw d0 d1 s0 s1 n0 n1=>
  rcases hw with rfl|rfl|rfl|rfl
  ·exact⟨_,Qa (n:=14) (by decide) rfl rfl rfl rfl rfl rfl d0 d1 s0 s1 n0 n1,WF (c:=14) (by rfl) (by rfl) (by rfl)⟩
  ·exact⟨_,Qa (n:=15) (by decide) rfl rfl rfl rfl rfl rfl d0 d1 s0 s1 n0 n1,WF (c:=15) (by rfl) (by rfl) (by rfl)⟩
  ·exact⟨_,Qa (n:=16) (by decide) rfl rfl rfl rfl rfl rfl d0 d1 s0 s1 n0 n1,WF (c:=16) (by rfl) (by rfl) (by rfl)⟩
  ·exact⟨_,Qa (n:=17) (by decide) rfl rfl rfl rfl rfl rfl d0 d1 s0 s1 n0 n1,WF (c:=17) (by rfl) (by rfl) (by rfl)⟩
theorem qJ(f:Nat->Bool):∀n:Nat,0<=zM f n/\zM f n<=2*n
 |0=>⟨Qz _,Qz _⟩
 |n+1=>by
  obtain⟨a,b⟩:=qJ f n;show 0<=zM f n+(if f n then 2 else 1)/\zM f n+(if f n then 2 else 1)<=_
  split<;>omega
section
variable{rows:List D}{z6:List Nat}(W:Wr rows z6)
include W
theorem Wr.one{i:Nat}(hi:i<rows.length):W1 rows z6 i:=by
 have eg:rows.getD i .zD=rows[i]:=by rw[vF,yf hi]; rfl
 have hR:=W.hr _ (uQ hi);refine⟨λhj=>?_,λhj=>?_⟩
 ·rw[eg]at hj ⊢
  have pr:uU rows[i]:=by
   rcases hR with h|h
   ·exact h
   ·obtain⟨_,_,_,_,_,z,_⟩:=qS h;rw[z]at hj;cases hj
  obtain⟨v,w,wl⟩:=Et pr;have pv:Z7 rows[i]=v:=by unfold Z7; rw[wl]
  refine⟨?_,?_,?_,?_⟩
  ·rw[pv];exact w
  ·rw[pv];exact wl
  ·cases c:zG z6 i with
   |false=>rfl
   |true=>
    have:=W.hj i c;rw[eg,hj]at this;cases this
  ·unfold tgt;rw[hj]
 ·rw[eg]at hj ⊢
  have jr:j9 (rows.length:Int) rows[i]:=by
   rcases hR with h|h
   ·obtain⟨_,_,_,_,z,_⟩:=jL h;rw[z]at hj;cases hj
   ·exact h
  obtain⟨_,p,_,_,_,_,_,_,lp,p0,p1⟩:=qS jr;have hp:wj rows[i]=p.toNat:=by unfold wj; rw[lp]
  have pn:(wj rows[i]:Int)=p:=by rw[hp]; omega
  have tp:tgt rows[i]=.int (wj rows[i]:Nat):=by
   unfold tgt;rw[hj,pn];exact lp
  have a1:=qJ (zG z6) (wj rows[i]);have a2:=qJ (zG z6) i;have hn:=W.hn;have ed:dJ rows z6 i=zM (zG z6) (wj rows[i])-zM (zG z6) i:=by unfold dJ; rw[eg]
  refine⟨Sn jr,by omega,tp,λhF=>?_,by omega,by omega⟩
  have aw:pD rows z6 i=false:=by
   cases z:pD rows z6 i with
   |false=>rfl
   |true=>
    have:i∈gF rows z6:=qk.mpr ⟨qk.mpr ⟨tz.mpr hi,by rw[hF]; rfl⟩,z⟩;rw[W.hg]at this;cases this
  unfold pD at aw;rw[eg,tp]at aw;have nb:(decide (-16<=zM (zG z6) (wj rows[i])-zM (zG z6) i)&&decide (zM (zG z6) (wj rows[i])-zM (zG z6) i<=15))=true:=by simpa [CV,dv]using aw
  rw[xS]at nb;rw[ed];exact⟨wI nb.1,wI nb.2⟩
theorem Wr.N0{i:Nat}(hi:i<rows.length):((wT rows z6 i).length:Int)=if zG z6 i then 2 else 1:=by
 have h:=W.one hi;unfold wT;cases hj:xK (rows.getD i .zD)with
 |false=>
  rw[(h.pl hj).2.2.1];rfl
 |true=>
  unfold jR;cases zG z6 i<;>rfl
theorem Wr.len:∀{n:Nat},n<=rows.length->((zk rows z6 n).length:Int)=zM (zG z6) n
 |0,_=>rfl
 |n+1,h=>by
  have a:=Wr.len (n:=n) (by omega);have b:=W.N0 (i:=n) (by omega);show((zk rows z6 n++wT rows z6 n).length:Int)=zM (zG z6) n+(if zG z6 n then 2 else 1);rw[xC];omega
omit W in
theorem NS:∀{i n:Nat},i<=n->∃r,zk rows z6 n=zk rows z6 i++r
 |i,n,h=>by
  induction n with
  |zero=>exact⟨[],by rw[show i=0 by omega]; rfl⟩
  |succ n ih=>
   by_cases e:i=n+1
   ·exact⟨[],by rw[e,uP]⟩
   ·obtain⟨r,q⟩:=ih (by omega);exact⟨r++wT rows z6 n,by show zk rows z6 n++wT rows z6 n=_; rw[q,tu]⟩
theorem Wr.at{i k:Nat}{v:Int}(hi:i<rows.length)(hk:(wT rows z6 i)[k]?=some v):zI (.lst ((zk rows z6 rows.length).map D.int)) (.int (zM (zG z6) i+k))=some (.int v)/\zM (zG z6) i+k<((zk rows z6 rows.length).length:Int):=by
 obtain⟨r,e⟩:=NS (rows:=rows) (z6:=z6) (i:=i+1) (n:=rows.length) hi;have l:=W.len (n:=i) (by omega);have kl:k<(wT rows z6 i).length:=(xT.mp hk).1;have e2:zk rows z6 (i+1)=zk rows z6 i++wT rows z6 i:=rfl
 have g:(zk rows z6 rows.length)[(zk rows z6 i).length+k]?=some v:=by
  rw[e,e2,tu,Bo (by omega),Nat.add_sub_cancel_left,ZY kl];exact hk
 have lt:=(xT.mp g).1;refine⟨qK (by omega) ?_,by omega⟩;rw[show(zM (zG z6) i+(k:Int)).toNat=(zk rows z6 i).length+k by omega,wM,g];rfl
theorem Wr.tb:Tb ((zk rows z6 rows.length).map D.int) rows.length (zM (zG z6)) (wQ rows) (wL rows):=by
 refine⟨λi hi=>?_,rfl,?_,λi hi=>?_,?_,λi p hi h=>?_,by have:=W.hn; omega⟩
 ·show zM (zG z6) i<zM (zG z6) i+(if zG z6 i then 2 else 1)
  split<;>omega
 ·rw[yK];exact(W.len (y0 _)).symm
 ·have h:=W.one hi;have a0:=qJ (zG z6) i;have ll:(((zk rows z6 rows.length).map D.int).length:Int)=((zk rows z6 rows.length).length:Int):=by rw[yK]
  unfold wQ wL;show _=some (false,D.tup [_,.int (zM (zG z6) i+(if zG z6 i then 2 else 1)),_]);cases hj:xK (rows.getD i .zD)with
  |false=>
   obtain⟨w,_,nf,_⟩:=h.pl hj;have g:=W.at (k:=0) (v:=Z7 (rows.getD i .zD)) hi (by unfold wT; rw[hj]; rfl);rw[Bf,qh]at g;obtain⟨n,n17,hc⟩:=w.c;have hcc:=t6 w.v0 w.v1;rw[hc]at hcc;have hnear:=qV (n:=n) (by omega);rw[yV (show ¬ 18<=n by omega),u4]at hnear;have hfar:=jE (n:=n) (by omega);rw[yV (show ¬ 21<=n by omega),u4]at hfar
   obtain⟨R,hR⟩:∃R,rows.getD i .zD=.tup R:=by
    have:=W.hr _ (uQ hi);have eg:rows.getD i .zD=rows[i]:=by rw[vF,yf hi]; rfl
    rw[eg];generalize rows[i]=rr at this;rcases this with q|q<;>cases q<;>exact⟨_,rfl⟩
   have wr:=w.r;rw[hR]at wr g;have:=Ht ⟨a0.1,by rw[ll]; exact g.2,g.1,by rw[<-hR]; exact w.v0,by rw[<-hR]; exact w.v1⟩ (by rw[<-hR]; exact hcc) hfar hnear wr;rw[this,nf,hR];rfl
  |true=>
   obtain⟨w,p1,tp,nr,d0,d1⟩:=h.jm hj;obtain⟨R,hR,_,_,_⟩:=w.hd;have c0:=w.c0;have c1:=w.c1;have m0:=w.m0;have m1:=w.m1;have ea:zM (zG z6) i+dJ rows z6 i=zM (zG z6) (wj (rows.getD i .zD)):=by unfold dJ; omega
   cases hF:zG z6 i with
   |true=>
    have rv:wT rows z6 i=[(21+cJ (rows.getD i .zD))*134217728+mJ (rows.getD i .zD)*16777216,dJ rows z6 i%4294967296]:=by
     unfold wT;rw[hj,hF];rfl
    have g:=W.at (k:=0) hi (by rw[rv]; rfl);rw[Bf,qh]at g;have g1:=W.at (k:=1) hi (by rw[rv]; rfl);rw[show((1:Nat):Int)=1 from rfl]at g1;have fr:=w.fr;rw[hR]at fr;obtain⟨x,hx⟩:∃x,x=(21+cJ (rows.getD i .zD))*134217728+mJ (rows.getD i .zD)*16777216:=⟨_,rfl⟩;obtain⟨n,hn'⟩:∃n:Nat,(n:Int)=21+cJ (rows.getD i .zD):=⟨(21+cJ (rows.getD i .zD)).toNat,by omega⟩;rw[<-hx]at g fr;have hcc:=t6 (x:=x) (by omega) (by omega);rw[show x/134217728=(n:Int) by omega]at hcc;have hfar:=jE (n:=n) (by omega);rw[yb (show 21<=n by omega),yb (show n<=23 by omega),pZ]at hfar;have:=Hq (a:=zM (zG z6) i) ⟨a0.1,by rw[ll]; exact g.2,g.1,by omega,by omega⟩ hcc hfar fr g1.1 (by rw[ll]; exact g1.2);rw[this,show zM (zG z6) i+(if 2*(dJ rows z6 i%4294967296)<4294967296 then dJ rows z6 i%4294967296 else dJ rows z6 i%4294967296-4294967296)=zM (zG z6) (wj (rows.getD i .zD)) by rw[<-ea]; split<;>omega];simp only[Wy,hR];rfl
   |false=>
    have rv:wT rows z6 i=[(18+cJ (rows.getD i .zD))*134217728+mJ (rows.getD i .zD)*16777216+dJ rows z6 i%32]:=by
     unfold wT;rw[hj,hF];rfl
    obtain⟨n0,n1⟩:=nr hF;have g:=W.at (k:=0) hi (by rw[rv]; rfl);rw[Bf,qh]at g;have fr:=w.nr (dJ rows z6 i);rw[hR]at fr;obtain⟨x,hx⟩:∃x,x=(18+cJ (rows.getD i .zD))*134217728+mJ (rows.getD i .zD)*16777216+dJ rows z6 i%32:=⟨_,rfl⟩;obtain⟨n,hn'⟩:∃n:Nat,(n:Int)=18+cJ (rows.getD i .zD):=⟨(18+cJ (rows.getD i .zD)).toNat,by omega⟩;rw[<-hx]at g fr;have hcc:=t6 (x:=x) (by omega) (by omega);rw[show x/134217728=(n:Int) by omega]at hcc;have hfar:=jE (n:=n) (by omega);rw[yV (show ¬ 21<=n by omega),u4]at hfar;have hnear:=qV (n:=n) (by omega);rw[yb (show 18<=n by omega),yb (show n<=20 by omega),pZ]at hnear;have:=Hr (a:=zM (zG z6) i) ⟨a0.1,by rw[ll]; exact g.2,g.1,by omega,by omega⟩ hcc hfar hnear fr;rw[this,show zM (zG z6) i+(if 2*(x%32)<32 then x%32 else x%32-32)=zM (zG z6) (wj (rows.getD i .zD)) by rw[<-ea]; split<;>omega];simp only[Wy,hR];rfl
 ·refine Hs (.inr ?_);rw[yK];exact Int.le_of_eq (W.len (y0 _))
 ·have w:=W.one hi;unfold wL at h;cases hj:xK (rows.getD i .zD)with
  |false=>rw[hj]at h; cases h
  |true=>
   rw[hj]at h;cases h;exact(w.jm hj).2.1
end
theorem Sq{m:Int}{r:D}(h:j9 m r)(d:Int)(b:Bool):qF [r,.int d,.bl b]=some (true,.lst ((jR (cJ r) (mJ r) d b).map D.int)):=by
 have pw:wJ 2 27=true/\wJ 2 24=true/\wJ 2 32=true/\vC 134217728=true/\vC 16777216=true/\vC 3=true:=⟨by decide,by decide,by decide,by decide,by decide,by decide⟩
 have one:∀(w k:Str)(c m p:Int)(hi:vB (.lst [.str "jump",.str "when",.str "unless"]) (.str w)=some (.int c)) (hk:vB (.lst [.str "carry",.str "nought",.str "sign"]) (.str k)=some (.int m)) (ne:xA (.str w) (.str "jump")=some (.bl true)),qF [.tup [.str w,.str k,.int p],.int d,.bl b]=some (true,.lst ((jR c m d b).map D.int)):=λw k c m p hi hk ne=>by
  have i1:zI (.tup [.str w,.str k,.int p]) (.int 1)=some (.str k):=rfl;rw[UT];unfold Zy jR;cases b
  ·simp![xW,i1,hi,hk,pw,add_int,ne,tm,vZ,qh,D1,xY,qj]
  ·have e3:(18+c+3:Int)=21+c:=by omega
   simp![xW,i1,hi,hk,pw,add_int,ne,wc,e3,Wy,xY,qj]
 cases h with
 |j2 p0 p1=>
  rename_i p;have i0:vB (.lst [.str "jump",.str "when",.str "unless"]) (.str "jump")=some (.int 0):=by rfl
  have ne:xA (.str "jump") (.str "jump")=some (.bl false):=by rfl
  have c0:cJ (.tup [.str "jump",.int p])=0:=by rfl
  have m0:mJ (.tup [.str "jump",.int p])=0:=by rfl
  rw[c0,m0,UT];unfold Zy jR;cases b
  ·simp![xW,i0,pw,add_int,ne,tm,vZ,D1,xY,qj,qh,Int.zero_mul]
  ·simp![xW,i0,pw,add_int,ne,wc,Wy,xY,qj,qh,Int.zero_mul]
 |cond hw hk p0 p1=>rcases hw with rfl|rfl<;>rcases hk with rfl|rfl|rfl<;>exact one _ _ _ _ _ (by rfl) (by rfl) (by rfl)
theorem P8{L W:List D}(h1:L.length<=1000)(h2:W.length<=2):Xj (.lst L) (.lst W)=some (.lst (L++W)):=by
 show(if L.length+W.length<=yR then _ else _)=_;rw[zP (by show _<=16777216; omega)]
theorem AM{rows:List D}{z6:List Nat}(W:Wr rows z6):XQ [.lst rows,.lst (yM z6)]=some (true,.lst ((zk rows z6 rows.length).map D.int)):=by
 have hn:=W.hn;have e1:=Hc (rows:=rows) (z6:=z6) (by omega);have e2:GU [some (false,.lst rows),some (false,.lst (yM z6)),some (false,.lst (xm (zG z6) (rows.length+1))),some (true,.lst []),none,none]=some (wo rows.length):=ZB (n:=(rows.length:Int)) rfl (by omega)
 obtain⟨σ',e3,x4,x5,rfl⟩:=tW (g:=yD 4) (b:=TV) (λi σ=>∃x4 x5,σ=[some (false,.lst rows),some (false,.lst (yM z6)),some (false,.lst (xm (zG z6) (rows.length+1))),some (true,.lst ((zk rows z6 i).map D.int)),x4,x5]) (ds:=wo rows.length)
  (σ:=[some (false,.lst rows),some (false,.lst (yM z6)),some (false,.lst (xm (zG z6) (rows.length+1))),some (true,.lst []),none,none]) 0 ⟨none,none,rfl⟩ (by
  rintro i v σ hv ⟨x4,x5,rfl⟩;obtain⟨hi,rfl⟩:=ZQ hv;rw[wq]at *;have H:=W.one hi;have eg:rows.getD i .zD=rows[i]:=by rw[vF,yf hi]; rfl
  have al:((zk rows z6 i).map D.int).length<=900:=by
   have:=W.len (n:=i) (by omega);have:=qJ (zG z6) i;rw[yK];omega
  have ex:zI (.lst rows) (.int (i:Int))=some (rows.getD i .zD):=qK (by omega) (by rw[wH,eg]; exact yf hi);have hR:vG (rows.length:Int) (rows.getD i .zD):=by rw[eg]; exact W.hr _ (uQ hi)
  have ej:∃w,zI (rows.getD i .zD) (.int 0)=some (.str w)/\yu (.str w) (.tup [.str "jump",.str "when",.str "unless"])=some (.bl (xK (rows.getD i .zD))):=by
   rcases hR with h|h
   ·obtain⟨w,a,b,_,c,_⟩:=jL h;exact⟨w,a,by rw[c]; exact b⟩
   ·obtain⟨w,p,a,b,_,c,_⟩:=qS h;exact⟨w,a,by rw[c]; exact b⟩
  obtain⟨w,ew,ein⟩:=ej
  have hin:yu (.int (i:Int)) (.lst (yM z6))=some (.bl (zG z6 i)):=by
   show(jD _ _).bind _=_;rw[Ow];rfl
  have s1:(zk rows z6 (i+1)).map D.int=(zk rows z6 i).map D.int++(wT rows z6 i).map D.int:=by
   show(zk rows z6 i++wT rows z6 i).map D.int=_;rw[vO]
  cases hj:xK (rows.getD i .zD)with
  |false=>
   have pr:uU (rows.getD i .zD):=by
    rcases hR with h|h
    ·exact h
    ·obtain⟨_,_,_,_,_,z,_⟩:=qS h;rw[z]at hj;cases hj
   obtain⟨v,w1,w2⟩:=Et pr
   have rv:wT rows z6 i=[v]:=by
    unfold wT Z7;rw[hj,w2];rfl
   have hap:=vq (L:=(zk rows z6 i).map D.int) (r:=.int v) (by omega);rw[hj]at ein;refine⟨_,[some (false,.lst rows),some (false,.lst (yM z6)),some (false,.lst (xm (zG z6) (rows.length+1))),some (true,.lst ((zk rows z6 (i+1)).map D.int)),some (false,.int (i:Int)),x5],rfl,.inl ?_,_,_,rfl⟩;rw[s1,rv];unfold TV;generalize (zk rows z6 i).map D.int=LL at *;generalize rows.getD i .zD=RR at *;simp![ex,ew,ein,w2,hap]
  |true=>
   have jr:j9 (rows.length:Int) (rows.getD i .zD):=by
    rcases hR with h|h
    ·obtain⟨_,_,_,_,z,_⟩:=jL h;rw[z]at hj;cases hj
    ·exact h
   obtain⟨_,p1,tp,_,_,_⟩:=H.jm hj
   have lx:zI (rows.getD i .zD) (.int (-1))=some (.int (wj (rows.getD i .zD):Nat)):=by
    obtain⟨_,p,_,_,_,_,_,l1,l2,_⟩:=qS jr;unfold tgt at tp;rw[hj]at tp;rw[l1,<-tp,<-l2]
   have q4:=Sq jr (dJ rows z6 i) (zG z6 i)
   have rv:wT rows z6 i=jR (cJ (rows.getD i .zD)) (mJ (rows.getD i .zD)) (dJ rows z6 i) (zG z6 i):=by
    unfold wT;rw[hj];rfl
   rw[<-rv]at q4;have hc:=P8 (L:=(zk rows z6 i).map D.int) (W:=(wT rows z6 i).map D.int) (by omega) (by rw[rv,yK]; unfold jR; cases zG z6 i<;>simp);have ap:=Vr (f:=zG z6) (n:=rows.length+1) (p:=wj (rows.getD i .zD)) (by omega);have aj:=Vr (f:=zG z6) (n:=rows.length+1) (p:=i) (by omega);rw[hj]at ein;have sb:wY (.int (zM (zG z6) (wj (rows.getD i .zD)))) (.int (zM (zG z6) i))=some (.int (dJ rows z6 i)):=rfl;refine⟨_,[some (false,.lst rows),some (false,.lst (yM z6)),some (false,.lst (xm (zG z6) (rows.length+1))),some (true,.lst ((zk rows z6 (i+1)).map D.int)),some (false,.int (i:Int)),some (false,.int (dJ rows z6 i))],rfl,.inl ?_,_,_,rfl⟩;rw[s1];unfold TV;generalize (zk rows z6 i).map D.int=LL at *;generalize (wT rows z6 i).map D.int=WW at *;generalize dJ rows z6 i=DJ at *;generalize zM (zG z6) (wj (rows.getD i .zD))=AP at *;generalize zM (zG z6) i=AI at *;generalize wj (rows.getD i .zD)=PP at *;generalize rows.getD i .zD=RR at *;generalize xm (zG z6) (rows.length+1)=AA at *;have hs:wY (.int AP) (.int AI)=some (.int DJ):=sb;simp only[wY.eq_1]at hs;have hd:AP-AI=DJ:=by injection hs with z; injection z
   simp![ex,ew,ein,lx,ap,aj,hd,hin,q4,hc])
 rw[Yn,wq]at e3;rw[Ro];unfold OD;simp![e1,e2,e3]
theorem GY{rows:List D}(hf:∀z6,jk [.lst rows,.lst (yM z6)]=some (true,.lst (yM (gF rows z6)))):∀{z6 R:List Nat}{k:Nat},jA (gF rows) z6 R k->
  uO U4 L8 (k+1) [some (false,.lst rows),some (false,.lst (yM z6)),some (false,.lst (yM (gF rows z6)))]=some (.nx [some (false,.lst rows),some (false,.lst (yM R)),some (false,.lst (yM []))])
 |z6,_,_,.stop e=>by
  rw[BL]
  ·rw[e]
  ·have h:=CU (yM (gF rows z6));rw[e]at h ⊢;unfold U4;simp![h];rfl
 |z6,_,_,.go e h r=>by
  rw[BM (σ':=[some (false,.lst rows),some (false,.lst (yM (qf (z6++gF rows z6)))),some (false,.lst (yM (gF rows (qf (z6++gF rows z6)))))]) ?_ ?_]
  ·exact GY hf r
  ·have h:=CU (yM (gF rows z6));rw[RK,yb e]at h;unfold U4;simp![h]
  ·have h1:=NJ h;have h2:=lA h;have h3:=hf (qf (z6++gF rows z6));unfold L8;simp![h1,h2,h3]
theorem fB{rows:List D}(hr:∀r∈rows,vG (rows.length:Int) r)(hn:rows.length<64){far0:List Nat}(g0:j8 rows.length far0):∃R k,jA (gF rows) far0 R k/\XM [.lst rows,.lst (yM far0)]=some (false,.lst (yM R)):=by
 obtain⟨R,k,hR,hk,gr⟩:=Gc hn (λz6=>Rz (rows:=rows)) rows.length far0 g0 (Nat.sub_le _ _);have hf:∀z6,jk [.lst rows,.lst (yM z6)]=some (true,.lst (yM (gF rows z6))):=λz6=>ac hr (by omega)
 have e1:=GY hf hR;have e2:=M1 _ e1 (xO (show k+1<=65 by omega) (by decide));have e3:=hf far0;refine⟨R,k,hR,?_⟩;rw[Rk];unfold O9;simp![e3,e2]
theorem NV{rows:List D}(hr:∀r∈rows,vG (rows.length:Int) r)(hn:rows.length<64)(c m:Int):∃far0 R k,(∀i∈far0,xK (rows.getD i .zD)=true)/\jA (gF rows) far0 R k/\XF [.lst rows,.int c,.int m]=some (false,.lst (yM R)):=by
 obtain⟨far0,e0⟩:∃f:List Nat,f=(wS rows).filter λi:Nat=>decide (wC c (i:Int)%4<m):=⟨_,rfl⟩
 have g0:j8 rows.length far0:=by
  rw[e0];refine⟨(List.nodup_range.sublist Kc).sublist Kc,λx hx=>?_⟩;exact(W7 (qk.mp hx).1).1
 obtain⟨R,k,hR,e4⟩:=fB hr hn g0;have ej:=Oz hr (by omega)
 have el:xI (yD 3) Qh Qe [some (false,.lst rows),some (false,.int c),some (false,.int m),none] ((wS rows).map λi:Nat=>D.int i)=some (yM far0):=by
  have h2:=WC (g:=yD 3) (c:=Qh) (e:=Qe) (σ:=[some (false,.lst rows),some (false,.int c),some (false,.int m),none]) (λd=>match d with|.int i=>decide (wC c i%4<m)|_=>false) id (ds:=(wS rows).map λi:Nat=>D.int i) λd hd=>by
   obtain⟨i,_,rfl⟩:=v4.mp hd;have hm:=pS c (i:Int);refine⟨_,rfl,?_,λ_=>?_⟩
   ·unfold Qh;show tE _ [some (false,.lst rows),some (false,.int c),some (false,.int m),some (false,.int (i:Int))]=_;simp![hm]
   ·unfold Qe;rfl
  rw[h2,e0];unfold yM;rw[J7,J2];rfl
 refine⟨far0,R,k,λi hi=>?_,hR,?_⟩
 ·rw[e0]at hi;exact(W7 (qk.mp hi).1).2
 ·rw[RZ];unfold I_;simp![ej,uk,el,e4]
theorem Sa{z6:List Nat}{n:Nat}:zG z6 n=true↔n∈z6:=by
 unfold zG yM;rw[Q_]
 have e:∀a:Nat,yt (.int (a:Int)) (.int (n:Int))=true↔a=n:=λa=>by
  have:yt (.int (a:Int)) (.int (n:Int))=((a:Int)==(n:Int)):=by unfold yt; rfl
  rw[this,JF];omega
 constructor
 ·rintro⟨x,hx,h⟩;obtain⟨a,ha,rfl⟩:=v4.mp hx;exact(e a).mp h▸ha
 ·exact λh=>⟨_,v4.mpr ⟨n,h,rfl⟩,(e n).mpr rfl⟩
theorem Ge{g:List Nat->List Nat}:∀{z6 R:List Nat}{k:Nat},jA g z6 R k->g R=[]
 |_,_,_,.stop e=>e
 |_,_,_,.go _ _ r=>Ge r
theorem Gd{rows:List D}:∀{z6 R:List Nat}{k:Nat},jA (gF rows) z6 R k->(∀i∈z6,xK (rows.getD i .zD)=true)->∀i∈R,xK (rows.getD i .zD)=true
 |_,_,_,.stop _,h=>h
 |z6,_,_,.go _ _ r,h=>Gd r λi hi=>by
  have hi:i∈z6++gF rows z6:=(QD _).mem_iff.mp hi;rcases wb.mp hi with hi|hi
  ·exact h i hi
  ·cases c:xK (rows.getD i .zD)with
   |true=>rfl
   |false=>
    have:=(qk.mp hi).2;rw[Db c]at this;cases this
noncomputable def Xe:FS:=
 (zK (zt (tE (e2 zo (z7 0) (eC (.str "n"))))
   (zr (eL tV (zB (z7 1) zF)))
   yJ)
  (zK (zt (tG (tE (e2 zo (z7 0) (eC (.str "d")))) (tE (e2 zo (z7 0) (eC (.str "s")))))
   (zr (UA (YJ (eC (.str "r")) (YJ (e1 UF (z7 1)) TB))))
   yJ)
  (zr (z7 1))))
noncomputable def jg:List D->Option (Bool×D):=FR 2 2 Xe
theorem Oq(x0 x1:D):jg [x0,x1]=ya 2 Xe [x0,x1]:=rfl
noncomputable def Wk:FE:=(za jg (zB (z7 2) (zB (z7 3) zF)))
noncomputable def k8:FS:=
 (zK (zt (tE (za j5 (zB (z7 0) zF)))
   (zr (e2 zm (e2 zI (z7 0) (eC (.int 1))) (eC (.str ":"))))
   yJ)
  (zK (zY 1 (e1 (xZ pJ pK) (e2 zI (z7 0) (eC (.int 0)))))
  (zr (e2 uX (eC (.str " ")) (e2 zm (ym (zB (e2 zI (z7 0) (eC (.int 0))) zF)) (wx 2 (t8 (z7 1) (vK (z7 0) (x_ (eC (.int 1))) xz)) (vV 2 3) xP Wk))))))
noncomputable def jh:List D->Option (Bool×D):=FR 1 2 k8
theorem Xt(x0:D):jh [x0]=ya 2 k8 [x0]:=rfl
noncomputable def U0:FS:=
 (zK (zY 1 (e2 zI (z7 0) (eC (.int 2))))
  (zr (za jh (zB (qM (tE (e2 Y5 (z7 1) (eC .zD))) (e2 zI (z7 0) (eC (.int 0))) (e2 zm (e2 zI (z7 0) (eC (.int 0))) (yq (zB (eL tV (zB (z7 1) zF)) zF)))) zF))))
noncomputable def j7:List D->Option (Bool×D):=FR 1 2 U0
theorem Ff(x0:D):j7 [x0]=ya 2 U0 [x0]:=rfl
noncomputable def Tz:FA:=(uZ (eC (.int 1)) (eL xq (zB (z7 0) zF)))
noncomputable def TU:FS:=(wK 2 xj (e2 zm (e2 zI (ym (zB (eC (.str "")) (zB (eC (.str "r")) zF))) (eL qO (zB (e2 (xE λi j=>decide (i<=j)) (z7 4) (z7 3)) zF))) (eL tV (zB (e2 zI (z7 0) (z7 4)) zF))))
noncomputable def Y0:FS:=
 (zK (zt (tE (e2 kF (z7 1) (eC .zD)))
   (zr (e2 Og (eC (.str " ")) (e2 zm (z7 0) (yq (zB (eL tV (zB (z7 1) zF)) zF)))))
   yJ)
  (zK (vX 2 (ym (zB (e2 zI (z7 0) (eC (.int 0))) zF)))
  (zK (zY 3 (e2 wY (eL xq (zB (z7 0) zF)) (eC (.int 1))))
  (zK (zt (tE (e2 yu (e2 zI (z7 0) (eC (.int 0))) (yq (zB (eC (.str "set")) (zB (eC (.str "high")) (zB (eC (.str "left")) (zB (eC (.str "right")) (zB (eC (.str "load")) (zB (eC (.str "store")) (zB (eC (.str "loadw")) (zB (eC (.str "storew")) zF)))))))))))
   (zY 3 (e2 wY (z7 3) (eC (.int 1))))
   yJ)
  (zK (wm Tz (yD 4)
   TU)
  (zK (qY 2) (zr (e2 uX (eC (.str " ")) (z7 2)))))))))
noncomputable def gt:List D->Option (Bool×D):=FR 2 5 Y0
theorem UX(x0 x1:D):gt [x0,x1]=ya 5 Y0 [x0,x1]:=rfl
theorem Z4{n:Int}(h0:0<=n)(h1:n<100000):uK n=true:=yb (by
 by_cases e:n.natAbs=0
 ·rw[e]; decide
 ·have p:(2:Nat) ^ 17=131072:=by decide
  have:n.natAbs.log2<17:=(Nat.log2_lt e).mpr (by omega);omega)
theorem str_int{n:Int}(h:uK n=true):tV [.int n]=some (.str (zd n)):=by
 show(match uK n with|true=>_|false=>_)=_;rw[h];rfl
theorem RM{n:Int}(h:uK n=true):UF (.int n)=some (.str (zd n)):=by
 show(match uK n with|true=>_|false=>_)=_;rw[h];rfl
theorem U8{n:Int}(h:uK n=true):(zd n).length<=1921:=L2.int_le (wI h)
theorem Ob(x:Str):("" : Str)++x=x:=by
 cases x with
 |mk c=>
  show(⟨#[]++c⟩:Str)=⟨c⟩;rw[Array.empty_append]
theorem RO{n:Int}(h:uK n=true):jg [.str "n",.int n]=some (false,.str (zd n)):=by
 have e:zo (.str "n") (.str "n")=some (.bl true):=by rfl
 have s:=str_int h;rw[Oq];unfold Xe;simp![e,s]
theorem RP{f:Str}{n:Int}(hf:f = "d" \/ f = "s")(h:uK n=true):jg [.str f,.int n]=some (false,.str ("r" ++ zd n)):=by
 have l:=U8 h;have g1:zo (.str f) (.str "n")=some (.bl false):=by rcases hf with rfl|rfl<;>rfl
 have s:=RM h
 have j:UA (YJ (eC (.str "r")) (YJ (e1 UF (z7 1)) TB)) [some (false,.str f),some (false,.int n)]=some (.str ("r" ++ zd n)):=by
  have c1:("r" : Str).length<=yR:=by decide
  have c2:(("r" : Str)++zd n).length<=yR:=by rw[ye]; show 1+_<=16777216; omega
  have ee:∀x:Str,Str.empty++x=x:=Ob;simp![UA,YJ,TB,s,ee,zP c1,zP c2]
 rw[Oq];unfold Xe;rcases hf with rfl|rfl
 ·have e2:zo (.str "d") (.str "d")=some (.bl true):=by rfl
  simp![g1,e2,j]
 ·have e2:zo (.str "s") (.str "d")=some (.bl false):=by rfl
  have e3:zo (.str "s") (.str "s")=some (.bl true):=by rfl
  simp![g1,e2,e3,j]
theorem Ol{f t:Str}(hf:f = "name" \/ f = "mark"):jg [.str f,.str t]=some (false,.str t):=by
 have e1:zo (.str f) (.str "n")=some (.bl false):=by rcases hf with rfl|rfl<;>rfl
 have e2:zo (.str f) (.str "d")=some (.bl false):=by rcases hf with rfl|rfl<;>rfl
 have e3:zo (.str f) (.str "s")=some (.bl false):=by rcases hf with rfl|rfl<;>rfl
 rw[Oq];unfold Xe;simp![e1,e2,e3]
theorem k_{sep:Str}{ts:List Str}(h:(ts.map (·.length)).sum+ts.length*sep.length<=16777216):uX (.str sep) (.lst (ts.map D.str))=some (.str (Builtin.Str.glued sep ts)):=by
 show(pX _).bind _=_;rw[QL];show(if _<=yR then _ else _)=_;rw[zP h]
theorem Sk{sep:Str}{ts:List Str}(h:(ts.map (·.length)).sum+ts.length*sep.length<=16777216):Og (.str sep) (.tup (ts.map D.str))=some (.str (Builtin.Str.glued sep ts)):=by
 show(pX _).bind _=_;rw[QL];show(if _<=yR then _ else _)=_;rw[zP h]
noncomputable def rS(b:Bool):Str:=bif b then "r" else ""
noncomputable abbrev NL(z:Str):Prop:=10 ∉ z.cps.toList
theorem Ti{a b:Str}(ha:NL a)(hb:NL b):NL (a++b):=λh=>by
 rw[show(a++b).cps.toList=a.cps.toList++b.cps.toList from Wm]at h;rcases wb.mp h with q|q
 ·exact ha q
 ·exact hb q
theorem LM{n:Int}(h:0<=n):NL (zd n):=λq=>by
 rw[Dy h]at q;have:=(D_ n.toNat).2.1 10 q;omega
theorem Tj{w:Str}{zs:List Str}(hw:NL w)(hz:∀z∈zs,NL z):NL (Builtin.Str.glued " " (w::zs)):=by
 have h:∀(us:List Str)(a:Array Nat),10 ∉ a.toList->(∀u∈us,NL u)->10 ∉ (us.foldl (λacc p=>acc++(" " : Str).cps++p.cps) a).toList:=λus=>by
  induction us with
  |nil=>intro a ha _; exact ha
  |cons u us ih=>
   intro a ha hu;rw[ZX];refine ih _ (λq=>?_) λv hv=>hu v (wN _ hv)
   rw[Wm,Wm]at q;rcases wb.mp q with q|q
   ·rcases wb.mp q with q|q
    ·exact ha q
    ·exact absurd q (by decide)
   ·exact hu u xh q
 exact h zs w.cps hw hz
structure Pt(f:Str)(b:Bool)(d:D)(z:Str):Prop where
 ft:jg [.str f,d]=some (false,.str z)
 lt:∃sd:Str,tV [d]=some (.str sd)/\zm (.str (rS b)) (.str sd)=some (.str z)
 ln:z.length<=2000
 nl:NL z
theorem YV{f:Str}{n:Int}(hf:f = "d" \/ f = "s")(n0:0<=n)(n1:n<8):Pt f true (.int n) ("r" ++ zd n):=by
 have h:=Z4 n0 (by omega);have l:=U8 h;exact⟨RP hf h,⟨zd n,str_int h,add_str (by show 1+_<=_; omega)⟩,by rw[ye]; show 1+_<=_; omega,Ti (by decide +kernel) (LM n0)⟩
theorem Ll{n:Int}(n0:0<=n)(n1:n<65536):Pt "n" false (.int n) (zd n):=by
 have h:=Z4 n0 (by omega);have l:=U8 h
 exact⟨RO h,⟨zd n,str_int h,by
  have:=add_str (a := "") (b:=zd n) (by show 0+_<=_; omega);rw[Ob]at this;exact this⟩,by omega,LM n0⟩
structure Tx(r t:D)(z:Str):Prop where
 tp:∀nx,j7 [.tup [r,nx,t]]=some (false,.str z)
 lw:gt [r,t]=some (false,.str z)
 ln:z.length<=7000
 ne:1<=z.length
 nl:NL z
theorem UQ(sep w:Str)(zs:List Str):w.length<=(Builtin.Str.glued sep (w::zs)).length:=by
 have h:∀(us:List Str)(a:Array Nat),a.size<=(us.foldl (λacc p=>acc++sep.cps++p.cps) a).size:=λus=>by
  induction us with
  |nil=>intro a; exact y0 _
  |cons u us ih=>
   intro a;rw[ZX];refine xO ?_ (ih _);rw[Qs,Qs];omega
 exact h zs w.cps
theorem UR{w:Str}{zs:List Str}(hw:w.length<=100)(hz:∀z∈zs,z.length<=2000)(hn:zs.length<=3):(Builtin.Str.glued " " (w::zs)).length<=7000:=by
 have h:=L2.glued_len " " (w::zs);have e:(" " : Str).length=1:=rfl;rw[e]at h
 have s:∀{l:List Str},(∀z∈l,z.length<=2000)->(l.map (·.length)).sum<=2000*l.length:=λ{l}=>by
  induction l with
  |nil=>intro _; exact y0 _
  |cons z l ih=>
   intro h;have h1:=h z (xh ..);have h2:=ih λy hy=>h y (wN _ hy)
   rw[xY,Yx,xg];omega
 have:=s hz;rw[xY,Yx,xg]at h;omega
theorem BH{r nx:D}{z:Str}(h:jh [r]=some (false,.str z)):j7 [.tup [r,nx,.zD]]=some (false,.str z):=by
 have i2:zI (.tup [r,nx,.zD]) (.int 2)=some .zD:=rfl;have i0:zI (.tup [r,nx,.zD]) (.int 0)=some r:=rfl;rw[Ff];unfold U0;simp![i2,i0,h]
theorem nP{R:List D}{nx:D}{a:Int}{z:Str}(ha:uK a=true)(hR:R≠[])(hl:R.length<=3)(h:jh [.tup (R++[.str (zd a)])]=some (false,.str z)):j7 [.tup [.tup R,nx,.int a]]=some (false,.str z):=by
 have i2:zI (.tup [.tup R,nx,.int a]) (.int 2)=some (.int a):=rfl;have i0:zI (.tup [.tup R,nx,.int a]) (.int 0)=some (.tup R):=rfl;have s:=str_int ha
 have ad:zm (.tup R) (.tup [.str (zd a)])=some (.tup (R++[.str (zd a)])):=by
  show(if R.isEmpty=false/\R.length+1<=yR then _ else _)=_;rw[zP ⟨by cases R with|nil=>exact absurd rfl hR|cons _ _=>rfl,by show _<=16777216; omega⟩]
 rw[Ff];unfold U0;simp![i2,i0,s,ad,h]
noncomputable def YQ:D:=.tup [.str "set",.str "high",.str "left",.str "right",.str "load",.str "store",.str "loadw",.str "storew"]
theorem oR{w:Str}(hl:zo (.str w) (.str "label")=some (.bl false))(hw:w.length<=100)(hw1:1<=w.length)(hwn:NL w)(hF:xZ pJ pK (.str w)=some (.tup []))(hi:yu (.str w) YQ=some (.bl false)):Tx (.tup [.str w]) .zD (Builtin.Str.glued " " [w]):=by
 have sl:pH (.tup [.str w]) (some 1) none=some (.tup []):=by rfl
 have jn:uX (.str " ") (.lst [.str w])=some (.str (Builtin.Str.glued " " [w])):=k_ (ts:=[w]) (by show w.length+0+1*1<=_; omega);have il:j5 [.tup [.str w]]=some (false,.bl false):=by rw[Xs]; unfold k7; simp![xW,hl]
 have ad:=k4 (L:=[.str w]) (M:=[]) (by show 1+0<=_; omega);rw[show[D.str w]++[]=[.str w]from rfl]at ad;refine⟨λnx=>BH ?_,?_,UR hw (λ_ h=>by cases h) (by decide),xO hw1 (UQ ..),Tj hwn (λ_ h=>by cases h)⟩
 ·rw[Xt];unfold k8;simp![il,xW,hF,t8,vK,x_,xz,sl,uk,py,xI,ad,jn]
 ·have rr:∀x,Tz [some (false,.tup [.str w]),some (false,.zD),some (true,.lst [.str w]),x,none]=some []:=λ_=>rfl
  unfold YQ at hi;rw[UX];unfold Y0;simp![xW,hi,rr,jn]
theorem BJ{w f1 z1 f2 z2:Str}{d1 d2:D}{b:Bool}(hl:zo (.str w) (.str "label")=some (.bl false))(hw:w.length<=100)(hw1:1<=w.length)(hwn:NL w)(hF:xZ pJ pK (.str w)=some (.tup [.str f1,.str f2]))(hi:yu (.str w) YQ=some (.bl (!b)))(P1:Pt f1 true d1 z1)(P2:Pt f2 b d2 z2):Tx (.tup [.str w,d1,d2]) .zD (Builtin.Str.glued " " [w,z1,z2]):=by
 obtain⟨g1,⟨s1,a1,a2⟩,l1,n1⟩:=P1;obtain⟨g2,⟨s2,c1,c2⟩,l2,n2⟩:=P2;have sl:pH (.tup [.str w,d1,d2]) (some 1) none=some (.tup [d1,d2]):=by rfl
 have jn:uX (.str " ") (.lst [.str w,.str z1,.str z2])=some (.str (Builtin.Str.glued " " [w,z1,z2])):=k_ (ts:=[w,z1,z2]) (by show w.length+(z1.length+(z2.length+0))+3*1<=_; omega);have il:j5 [.tup [.str w,d1,d2]]=some (false,.bl false):=by rw[Xs]; unfold k7; simp![xW,hl]
 have ad:=k4 (L:=[.str w]) (M:=[.str z1,.str z2]) (by show 1+2<=_; omega);rw[show[D.str w]++[.str z1,.str z2]=[.str w,.str z1,.str z2]from rfl]at ad
 refine⟨λnx=>BH ?_,?_,UR hw (λz hz=>by
  rcases xN.mp hz with rfl|hz
  ·exact l1
  ·cases wO.mp hz; exact l2) (by simp),xO hw1 (UQ ..),Tj hwn λz hz=>by
  rcases xN.mp hz with rfl|hz
  ·exact n1
  ·cases wO.mp hz; exact n2⟩
 ·rw[Xt];unfold k8;simp![il,xW,hF,t8,vK,x_,xz,sl,uk,ql,py,Wk,xI,xP,vV,g1,g2,ad,jn]
 ·have rr:∀x,Tz [some (false,.tup [.str w,d1,d2]),some (false,.zD),some (true,.lst [.str w]),x,none]=some [.int 1,.int 2]:=λ_=>rfl
  have i1:zI (.tup [.str w,d1,d2]) (.int 1)=some d1:=rfl;have i2:zI (.tup [.str w,d1,d2]) (.int 2)=some d2:=rfl;have p1:xj (.lst [.str w]) (.str z1)=some (.lst [.str w,.str z1]):=vq (by simp);have p2:xj (.lst [.str w,.str z1]) (.str z2)=some (.lst [.str w,.str z1,.str z2]):=vq (by simp);have x1:zI (.lst [.str "",.str "r"]) (.int 1)=some (.str "r"):=rfl;have x0:zI (.lst [.str "",.str "r"]) (.int 0)=some (.str ""):=rfl;have k1:rS true = "r" := rfl;have c3:((3:Nat):Int)=3:=rfl;rw[k1]at a2;unfold YQ at hi;rw[UX];unfold Y0;cases b with
  |true=>
   rw[k1]at c2;simp![xW,hi,rr,TU,xg,gc,c3,BW,x1,i1,i2,a1,a2,c1,c2,p1,p2,jn,W_,Wz,wc]
  |false=>
   have k0:rS false = "" := rfl;rw[k0]at c2;simp![xW,hi,rr,TU,xg,gc,c3,BV,x1,x0,i1,i2,a1,a2,c1,c2,p1,p2,jn,W_,Wz,wc,tm,vZ]
theorem oT{w f1 z1 f2 z2 f3 z3:Str}{d1 d2 d3:D}(hl:zo (.str w) (.str "label")=some (.bl false))(hw:w.length<=100)(hw1:1<=w.length)(hwn:NL w)(hF:xZ pJ pK (.str w)=some (.tup [.str f1,.str f2,.str f3]))(hi:yu (.str w) YQ=some (.bl true))(P1:Pt f1 true d1 z1)(P2:Pt f2 true d2 z2)(P3:Pt f3 false d3 z3):Tx (.tup [.str w,d1,d2,d3]) .zD (Builtin.Str.glued " " [w,z1,z2,z3]):=by
 obtain⟨g1,⟨s1,a1,a2⟩,l1,n1⟩:=P1;obtain⟨g2,⟨s2,c1,c2⟩,l2,n2⟩:=P2;obtain⟨g3,⟨s3,q1,q2⟩,l3,n3⟩:=P3;have sl:pH (.tup [.str w,d1,d2,d3]) (some 1) none=some (.tup [d1,d2,d3]):=by rfl
 have jn:uX (.str " ") (.lst [.str w,.str z1,.str z2,.str z3])=some (.str (Builtin.Str.glued " " [w,z1,z2,z3])):=k_ (ts:=[w,z1,z2,z3]) (by show w.length+(z1.length+(z2.length+(z3.length+0)))+4*1<=_; omega);have il:j5 [.tup [.str w,d1,d2,d3]]=some (false,.bl false):=by rw[Xs]; unfold k7; simp![xW,hl]
 have ad:=k4 (L:=[.str w]) (M:=[.str z1,.str z2,.str z3]) (by show 1+3<=_; omega);rw[show[D.str w]++[.str z1,.str z2,.str z3]=[.str w,.str z1,.str z2,.str z3]from rfl]at ad
 refine⟨λnx=>BH ?_,?_,UR hw (λz hz=>by
  rcases xN.mp hz with rfl|hz
  ·exact l1
  ·rcases xN.mp hz with rfl|hz
   ·exact l2
   ·cases wO.mp hz; exact l3) (by simp),xO hw1 (UQ ..),Tj hwn λz hz=>by
  rcases xN.mp hz with rfl|hz
  ·exact n1
  ·rcases xN.mp hz with rfl|hz
   ·exact n2
   ·cases wO.mp hz; exact n3⟩
 ·rw[Xt];unfold k8;simp![il,xW,hF,t8,vK,x_,xz,sl,uk,ql,py,Wk,xI,xP,vV,g1,g2,g3,ad,jn]
 ·have rr:∀x,Tz [some (false,.tup [.str w,d1,d2,d3]),some (false,.zD),some (true,.lst [.str w]),x,none]=some [.int 1,.int 2,.int 3]:=λ_=>rfl
  have i1:zI (.tup [.str w,d1,d2,d3]) (.int 1)=some d1:=rfl;have i2:zI (.tup [.str w,d1,d2,d3]) (.int 2)=some d2:=rfl;have i3:zI (.tup [.str w,d1,d2,d3]) (.int 3)=some d3:=rfl;have p1:xj (.lst [.str w]) (.str z1)=some (.lst [.str w,.str z1]):=vq (by simp);have p2:xj (.lst [.str w,.str z1]) (.str z2)=some (.lst [.str w,.str z1,.str z2]):=vq (by simp);have p3:xj (.lst [.str w,.str z1,.str z2]) (.str z3)=some (.lst [.str w,.str z1,.str z2,.str z3]):=vq (by simp);have x1:zI (.lst [.str "",.str "r"]) (.int 1)=some (.str "r"):=rfl;have x0:zI (.lst [.str "",.str "r"]) (.int 0)=some (.str ""):=rfl;have k1:rS true = "r" := rfl;have k0:rS false = "" := rfl;have c4:((4:Nat):Int)=4:=rfl;rw[k1]at a2 c2;rw[k0]at q2;unfold YQ at hi;rw[UX];unfold Y0;simp![xW,hi,rr,TU,xg,gc,c4,x1,x0,i1,i2,i3,a1,a2,c1,c2,q1,q2,p1,p2,p3,jn,W_,Wz,wc,tm,vZ]
theorem Hv{w:Str}{R:List D}{zs fs:List Str}{a:Int}(ha:uK a=true)(hl:zo (.str w) (.str "label")=some (.bl false))(hw:w.length<=100)(hw1:1<=w.length)(hwn:NL w)(hR:R=zs.map D.str)(hz:zs.length<=1)(hzl:∀z∈zs,z.length<=100)(hzn:∀z∈zs,NL z)(ha0:0<=a)(hF:xZ pJ pK (.str w)=some (.tup (fs.map D.str)))
  (he:zs=[]/\fs=[("name" : Str)]\/∃k:Str,zs=[k]/\fs=[("mark" : Str), "name"]):Tx (.tup (.str w::R)) (.int a) (Builtin.Str.glued " " (w::(zs++[zd a]))):=by
 have al:=U8 ha;have s:=str_int ha;subst hR
 have lw:gt [.tup (.str w::zs.map D.str),.int a]=some (false,.str (Builtin.Str.glued " " (w::(zs++[zd a])))):=by
  have ad:zm (.tup (.str w::zs.map D.str)) (.tup [.str (zd a)])=some (.tup ((w::(zs++[zd a])).map D.str)):=by
   show(if(D.str w::zs.map D.str).isEmpty=false/\(D.str w::zs.map D.str).length+1<=yR then some (D.tup ((D.str w::zs.map D.str)++[.str (zd a)]))else none)=_;rw[zP ⟨rfl,by rw[xg,yK]; show _<=16777216; omega⟩,xY,vO];rfl
  have jn:=Sk (sep := " ") (ts:=w::(zs++[zd a])) (by
   rcases he with⟨rfl,_⟩|⟨k,rfl,_⟩
   ·show w.length+((zd a).length+0)+2*1<=_; omega
   ·have:=hzl k (wO.mpr rfl);show w.length+(k.length+((zd a).length+0))+3*1<=_; omega)
  rw[UX];unfold Y0;generalize (w::(zs++[zd a])).map D.str=LL at *;generalize zs.map D.str=ZZ at *;simp![s,ad,jn]
 refine⟨λnx=>?_,lw,UR hw (λz hz=>?_) (by rw[xC]; show _+1<=_; omega),xO hw1 (UQ ..),Tj hwn λz hz=>?_⟩
 ·refine nP ha (by simp) (by rw[xg,yK]; omega) ?_;rcases he with⟨rfl,rfl⟩|⟨k,rfl,rfl⟩
  ·show jh [.tup [.str w,.str (zd a)]]=_;have hF:xZ pJ pK (.str w)=some (.tup [.str "name"]):=hF;have sl:pH (.tup [.str w,.str (zd a)]) (some 1) none=some (.tup [.str (zd a)]):=by rfl
   have jn:uX (.str " ") (.lst [.str w,.str (zd a)])=some (.str (Builtin.Str.glued " " [w,zd a])):=k_ (ts:=[w,zd a]) (by show w.length+((zd a).length+0)+2*1<=_; omega);have il:j5 [.tup [.str w,.str (zd a)]]=some (false,.bl false):=by rw[Xs]; unfold k7; simp![xW,hl]
   have ad:=k4 (L:=[.str w]) (M:=[.str (zd a)]) (by show 1+1<=_; omega);rw[show[D.str w]++[.str (zd a)]=[.str w,.str (zd a)]from rfl]at ad;have g1:=Ol (f := "name") (t:=zd a) (.inl rfl);rw[Xt];unfold k8;generalize zd a=A at *;simp![il,xW,hF,t8,vK,x_,xz,sl,uk,ql,py,Wk,xI,xP,vV,g1,ad,jn,gi]
  ·have kl:=hzl k (wO.mpr rfl);show jh [.tup [.str w,.str k,.str (zd a)]]=_;have hF:xZ pJ pK (.str w)=some (.tup [.str "mark",.str "name"]):=hF;have sl:pH (.tup [.str w,.str k,.str (zd a)]) (some 1) none=some (.tup [.str k,.str (zd a)]):=by rfl
   have jn:uX (.str " ") (.lst [.str w,.str k,.str (zd a)])=some (.str (Builtin.Str.glued " " [w,k,zd a])):=k_ (ts:=[w,k,zd a]) (by show w.length+(k.length+((zd a).length+0))+3*1<=_; omega);have il:j5 [.tup [.str w,.str k,.str (zd a)]]=some (false,.bl false):=by rw[Xs]; unfold k7; simp![xW,hl]
   have ad:=k4 (L:=[.str w]) (M:=[.str k,.str (zd a)]) (by show 1+2<=_; omega);rw[show[D.str w]++[.str k,.str (zd a)]=[.str w,.str k,.str (zd a)]from rfl]at ad;have g1:=Ol (f := "name") (t:=zd a) (.inl rfl);have g2:=Ol (f := "mark") (t:=k) (.inr rfl);have e:([k]++[zd a]:List Str)=[k,zd a]:=rfl;rw[e,Xt];unfold k8;generalize zd a=A at *;simp![il,xW,hF,t8,vK,x_,xz,sl,uk,ql,py,Wk,xI,xP,vV,g1,g2,ad,jn]
 ·rcases wb.mp hz with h|h
  ·have:=hzl z h; omega
  ·cases wO.mp h; omega
 ·rcases wb.mp hz with h|h
  ·exact hzn z h
  ·cases wO.mp h; exact LM ha0
theorem dR{r:D}(h:uU r):∃z,Tx r .zD z:=by
 cases h with
 |stop=>exact⟨_,oR (w := "stop") (by rfl) (by decide) (by decide) (by decide +kernel) (by rfl) (by rfl)⟩
 |X5 hw d0 d1 n0 n1=>exact⟨_,BJ (b:=false) (by rcases hw with rfl|rfl<;>rfl) (by rcases hw with rfl|rfl<;>decide) (by rcases hw with rfl|rfl<;>decide) (by rcases hw with rfl|rfl<;>decide +kernel) (by rcases hw with rfl|rfl<;>rfl) (by rcases hw with rfl|rfl<;>rfl) (YV (.inl rfl) d0 d1) (Ll n0 n1)⟩
 |X7 hw d0 d1 n0 n1=>exact⟨_,BJ (b:=false) (by rcases hw with rfl|rfl<;>rfl) (by rcases hw with rfl|rfl<;>decide) (by rcases hw with rfl|rfl<;>decide) (by rcases hw with rfl|rfl<;>decide +kernel) (by rcases hw with rfl|rfl<;>rfl) (by rcases hw with rfl|rfl<;>rfl) (YV (.inl rfl) d0 d1) (Ll n0 (by omega))⟩
 |two hw d0 d1 s0 s1=>exact⟨_,BJ (b:=true) (by rcases hw with rfl|rfl|rfl|rfl|rfl|rfl|rfl|rfl|rfl<;>rfl) (by rcases hw with rfl|rfl|rfl|rfl|rfl|rfl|rfl|rfl|rfl<;>decide) (by rcases hw with rfl|rfl|rfl|rfl|rfl|rfl|rfl|rfl|rfl<;>decide) (by rcases hw with rfl|rfl|rfl|rfl|rfl|rfl|rfl|rfl|rfl<;>decide +kernel) (by rcases hw with rfl|rfl|rfl|rfl|rfl|rfl|rfl|rfl|rfl<;>rfl) (by rcases hw with rfl|rfl|rfl|rfl|rfl|rfl|rfl|rfl|rfl<;>rfl) (YV (.inl rfl) d0 d1) (YV (.inr rfl) s0 s1)⟩
 |mem hw d0 d1 s0 s1 n0 n1=>exact⟨_,oT (by rcases hw with rfl|rfl|rfl|rfl<;>rfl) (by rcases hw with rfl|rfl|rfl|rfl<;>decide) (by rcases hw with rfl|rfl|rfl|rfl<;>decide) (by rcases hw with rfl|rfl|rfl|rfl<;>decide +kernel) (by rcases hw with rfl|rfl|rfl|rfl<;>rfl) (by rcases hw with rfl|rfl|rfl|rfl<;>rfl) (YV (.inl rfl) d0 d1) (YV (.inr rfl) s0 s1) (Ll n0 (by omega))⟩
theorem Sr{m:Int}{r:D}(h:j9 m r){a:Int}(a0:0<=a)(a1:a<1000):∃z,Tx (Xh r) (.int a) z:=by
 have ha:=Z4 a0 (by omega);cases h with
 |j2 p0 p1=>exact⟨_,Hv (w := "jump") (zs:=[]) (fs:=["name"]) ha (by rfl) (by decide) (by decide) (by decide +kernel) rfl (by simp) (λ_ h=>by cases h) (λ_ h=>by cases h) a0 (by rfl) (.inl ⟨rfl,rfl⟩)⟩
 |cond hw hk p0 p1=>
  rename_i w k p;exact⟨_,Hv (w:=w) (zs:=[k]) (fs:=["mark", "name"]) ha (by rcases hw with rfl|rfl<;>rfl) (by rcases hw with rfl|rfl<;>decide) (by rcases hw with rfl|rfl<;>decide) (by rcases hw with rfl|rfl<;>decide +kernel) rfl (by simp) (λz h=>by cases wO.mp h; rcases hk with rfl|rfl|rfl<;>decide) (λz h=>by cases wO.mp h; rcases hk with rfl|rfl|rfl<;>decide +kernel) a0 (by rcases hw with rfl|rfl<;>rfl) (.inr ⟨k,rfl,rfl⟩)⟩
noncomputable def Yo:FE:=(e2 zI (eC (.str "0123456789abcdef")) (za gu (zB (z7 0) (zB (z7 1) (zB (eC (.int 4)) zF)))))
noncomputable def Iz:FS:=
 (zr (e2 uX (eC (.str "")) (wx 1 (vy (eC YE)) (yD 1) xP Yo)))
noncomputable def XE:List D->Option (Bool×D):=FR 1 1 Iz
theorem RY(x0:D):XE [x0]=ya 1 Iz [x0]:=rfl
noncomputable def L4:FS:=(zK (zY 1 (e2 zm (e2 zI (eC (.str "0123456789abcdef")) (e2 yL (z7 0) (eC (.int 16)))) (z7 1)))
    (zY 0 (e2 xR (z7 0) (eC (.int 16)))))
noncomputable def O1:FS:=
 (zK (zY 1 (eC (.str "")))
  (zK (wm (uZ (eC (.int 0)) (eC (.int 8))) (yD 2)
   L4)
  (zr (z7 1))))
noncomputable def Zn:List D->Option (Bool×D):=FR 1 3 O1
theorem Rb(x0:D):Zn [x0]=ya 3 O1 [x0]:=rfl
noncomputable def yd(d:Int):Str:=⟨#[("0123456789abcdef" : Str).cps.getD d.toNat 0]⟩
theorem hix:∀n:Nat,n<16->zI (.str "0123456789abcdef") (.int (n:Int))=some (.str (yd (n:Int)))
 |0,_=>rfl
 |1,_=>rfl
 |2,_=>rfl
 |3,_=>rfl
 |4,_=>rfl
 |5,_=>rfl
 |6,_=>rfl
 |7,_=>rfl
 |8,_=>rfl
 |9,_=>rfl
 |10,_=>rfl
 |11,_=>rfl
 |12,_=>rfl
 |13,_=>rfl
 |14,_=>rfl
 |15,_=>rfl
 |n+16,h=>absurd h (by omega)
theorem Fi{d:Int}(h0:0<=d)(h1:d<16):zI (.str "0123456789abcdef") (.int d)=some (.str (yd d)):=by
 obtain⟨n,rfl⟩:=jS h0;exact hix n (by omega)
noncomputable def hx(x:Int):Str:=Builtin.Str.glued "" [yd (x/268435456%16),yd (x/16777216%16),yd (x/1048576%16),yd (x/65536%16),yd (x/4096%16),yd (x/256%16),yd (x/16%16),yd (x%16)]
theorem cR{x l:Int}(l0:0<=l):gu [.int x,.int l,.int 4]=some (false,.int (x/2 ^ l.toNat%16)):=by
 have e1:=Z8 (i:=1) (j:=4) (by decide) (by decide) (by decide) (by decide);have e2:Builtin.bitAnd (x/2 ^ l.toNat) 15=x/2 ^ l.toNat%16:=Ej (x/2 ^ l.toNat) 4;rw[Fe];unfold V_;simp![e1,yb l0,e2]
theorem R_(x:Int):XE [.int x]=some (false,.str (hx x)):=by
 have one:∀l:Int,0<=l->Yo [some (false,.int x),some (false,.int l)]=some (.str (yd (x/2 ^ l.toNat%16))):=λl h=>by
  have p:=cR (x:=x) h;have q:=Fi (d:=x/2 ^ l.toNat%16) (by omega) (by omega);unfold Yo;generalize x/2 ^ l.toNat%16=d at *;simp![p,q]
 have lc:xI (yD 1) xP Yo [some (false,.int x),none] [.int 28,.int 24,.int 20,.int 16,.int 12,.int 8,.int 4,.int 0]=some ([28,24,20,16,12,8,4,0].map λl:Nat=>.str (yd (x/2 ^ l%16))):=
  Ta (g:=yD 1) (e:=Yo) (σ:=[some (false,.int x),none]) (λd=>match d with|.int l=>.str (yd (x/2 ^ l.toNat%16))|_=>.zD) (ds:=[.int 28,.int 24,.int 20,.int 16,.int 12,.int 8,.int 4,.int 0]) λd hd=>by
   obtain⟨l,l0,rfl⟩:∃l:Int,0<=l/\d=.int l:=by
    simp only[xN,t_,or_false]at hd;rcases hd with rfl|rfl|rfl|rfl|rfl|rfl|rfl|rfl<;>exact⟨_,by decide,rfl⟩
   exact⟨_,rfl,one l l0⟩
 have lc:xI (yD 1) xP Yo [some (false,.int x),none] [.int 28,.int 24,.int 20,.int 16,.int 12,.int 8,.int 4,.int 0]=some ([yd (x/268435456%16),yd (x/16777216%16),yd (x/1048576%16),yd (x/65536%16),yd (x/4096%16),yd (x/256%16),yd (x/16%16),yd (x%16)].map D.str):=by
  rw[lc,show yd (x%16)=yd (x/1%16) by rw[tq]];rfl
 have jn:=k_ (sep := "") (ts:=[yd (x/268435456%16),yd (x/16777216%16),yd (x/1048576%16),yd (x/65536%16),yd (x/4096%16),yd (x/256%16),yd (x/16%16),yd (x%16)]) (by show 1+(1+(1+(1+(1+(1+(1+(1+0)))))))+8*0<=_; decide);have it:YE=.tup [.int 28,.int 24,.int 20,.int 16,.int 12,.int 8,.int 4,.int 0]:=rfl;rw[RY];unfold Iz hx;generalize [yd (x/268435456%16),yd (x/16777216%16),yd (x/1048576%16),yd (x/65536%16),yd (x/4096%16),yd (x/256%16),yd (x/16%16),yd (x%16)]=L at *;generalize L.map D.str=M at *;simp![it,lc,jn]
noncomputable def vi(x:Int):Nat->Str
 |0 => ""
 |n+1=>yd (x/16 ^ n%16)++vi x n
theorem Wj(x:Int):∀n,(vi x n).length=n
 |0=>rfl
 |n+1=>by
  show(yd _++vi x n).length=_;rw[ye,Wj x n];show 1+n=n+1;omega
noncomputable def vI:List Str->Str
 | [] => ""
 |a::r=>a++vI r
theorem F8:("" : Str).cps=#[]:=by rfl
theorem PF(a b:Str):(a++b).cps=a.cps++b.cps:=rfl
theorem FM:∀(ts:List Str)(a:Array Nat),ts.foldl (λacc p=>acc++("" : Str).cps++p.cps) a=a++(vI ts).cps
 | [],a=>by
  show a=a++("" : Str).cps;rw[F8,BS]
 |t::ts,a=>by
  rw[ZX,FM ts];show _=a++(t++vI ts).cps;rw[PF,F8,BS,BR]
theorem Fb:∀ts:List Str,Builtin.Str.glued "" ts=vI ts
 | []=>by
  show(⟨Str.empty.cps⟩:Str) = "";rfl
 |t::ts=>by
  have h:=FM ts t.cps;show(⟨ts.foldl (λacc p=>acc++("" : Str).cps++p.cps) t.cps⟩:Str)=t++vI ts;rw[h];rfl
theorem Wi(x:Int):vi x 8=hx x:=by
 have p7:(16:Int) ^ 7=268435456:=by decide
 have p6:(16:Int) ^ 6=16777216:=by decide
 have p5:(16:Int) ^ 5=1048576:=by decide
 have p4:(16:Int) ^ 4=65536:=by decide
 have p3:(16:Int) ^ 3=4096:=by decide
 have p2:(16:Int) ^ 2=256:=by decide
 have p1:(16:Int) ^ 1=16:=by decide
 have p0:(16:Int) ^ 0=1:=by decide
 unfold hx;rw[Fb];simp only[vI,vi,p7,p6,p5,p4,p3,p2,p1,p0,tq]
theorem C8{x:Int}:Zn [.int x]=some (false,.str (hx x)):=by
 obtain⟨σ',e1,x2,rfl⟩:=tW (g:=yD 2) (b:=L4) (λi σ=>∃x2,σ=[some (false,.int (x/16 ^ i)),some (false,.str (vi x i)),x2]) (ds:=wo 8) (σ:=[some (false,.int x),some (false,.str ""),none]) 0 ⟨none,by rw[Int.pow_zero,tq]; rfl⟩ (by
  rintro i v σ hv ⟨x2,rfl⟩;obtain⟨hi,rfl⟩:=ZQ hv;rw[wq]at *;refine⟨_,[some (false,.int (x/16 ^ (i+1))),some (false,.str (vi x (i+1))),some (false,.int (i:Int))],rfl,.inl ?_,_,rfl⟩;have q:=Fi (d:=x/16 ^ i%16) (by omega) (by omega);have ad:=add_str (a:=yd (x/16 ^ i%16)) (b:=vi x i) (by rw[Wj]; show 1+i<=_; omega);have d1:x/16 ^ (i+1)=x/16 ^ i/16:=by rw[Int.pow_succ,KU (ZW (Ws (by decide)))]
  have t1:vi x (i+1)=yd (x/16 ^ i%16)++vi x i:=rfl;have fm:yL (.int (x/16 ^ i)) (.int 16)=some (.int (x/16 ^ i%16)):=rfl;have fd:xR (.int (x/16 ^ i)) (.int 16)=some (.int (x/16 ^ i/16)):=rfl;rw[d1,t1];unfold L4;generalize vi x i=T at *;generalize x/16 ^ i=Y at *;simp![fm,q,ad,fd])
 rw[Yn,wq,Wi]at e1;have r:uZ (eC (.int 0)) (eC (.int 8)) [some (false,.int x),some (false,.str ""),none]=some (wo 8):=rfl;rw[Rb];unfold O1;simp![r,e1]
noncomputable def TW:FS:=(zK (zY 5 (e2 zm (e2 zm (e2 Oi (eL tV (zB (z7 3) zF)) (eC (.int 5))) (eC (.str "  "))) (za XE (zB (z7 4) zF))))
    (zK (zt (tE (e2 yu (z7 3) (z7 1)))
     (zY 5 (e2 zm (e2 zm (z7 5) (eC (.str "  "))) (za j7 (zB (e2 zI (z7 1) (z7 3)) zF))))
     yJ)
    (wK 2 xj (e2 zm (z7 5) (eC (.str "\n"))))))
noncomputable def OE:FS:=
 (zK (zY 1 (za XS (zB (z7 0) zF)))
  (zK (vX 2 (ym zF))
  (zK (wm (YH (z7 0)) (vV 3 4)
   TW)
  (zK (qY 2) (zr (e2 uX (eC (.str "")) (z7 2)))))))
noncomputable def jo:List D->Option (Bool×D):=FR 1 6 OE
theorem Rp(x0:D):jo [x0]=ya 6 OE [x0]:=rfl
noncomputable def TQ:FS:=(zK (L_ (za uy (zB (z7 0) (zB (z7 2) zF))) (Y8 3 4 5))
    (zK (wK 1 xj (ym (zB (eL tV (zB (z7 2) zF)) (zB (za Zn (zB (e2 zI (z7 0) (z7 2)) zF)) (zB (za gt (zB (z7 3) (zB (z7 5) zF))) zF)))))
    (zK (zt (tE (e2 (xE λi j=>decide (j<i)) (z7 4) (e2 zm (z7 2) (eC (.int 1)))))
     (wK 1 xj (ym (zB (eL tV (zB (e2 zm (z7 2) (eC (.int 1))) zF)) (zB (za Zn (zB (e2 zI (z7 0) (e2 zm (z7 2) (eC (.int 1)))) zF)) (zB (eC (.str "")) zF)))))
     yJ)
    (zY 2 (z7 4)))))
noncomputable def U3:FT:=(tE (e2 (xE λi j=>decide (i<j)) (z7 2) (eL xq (zB (z7 0) zF))))
noncomputable def O4:FS:=
 (zK (vX 1 (ym zF))
  (zK (zY 2 (eC (.int 0)))
  (zK (WT U3
   TQ)
  (qZ 1))))
noncomputable def Zo:List D->Option (Bool×D):=FR 1 6 O4
theorem Rf(x0:D):Zo [x0]=ya 6 O4 [x0]:=rfl
theorem Iu(a b c:Str):a++b++c=a++(b++c):=by
 show(⟨_⟩:Str)=⟨_⟩;rw[Str.mk.injEq];exact BR ..
theorem Iv(a:Str):a ++ "" = a:=by
 cases a with
 |mk c=>
  show(⟨c++#[]⟩:Str)=⟨c⟩;rw[BS]
theorem OR:∀(L:List Str)(x:Str),vI (L++[x])=vI L++x
 | [],x=>by
  show x ++ "" = "" ++ x;rw[Iv,Ob]
 |a::L,x=>by
  show a++vI (L++[x])=a++vI L++x;rw[OR L x,Iu]
theorem Tq:∀a:Nat,a<128->Txt.rjust (zd (a:Int)) 5=Txt.mul " " (5-((zd (a:Int)).length:Int))++zd (a:Int)/\1<=(zd (a:Int)).length/\(zd (a:Int)).length<=3:=by decide +kernel
section
variable(rows:List D)(z6:List Nat)
noncomputable def zT(i:Nat):Str:=match gt [wQ rows i,tA (zM (zG z6)) (wL rows i)]with
 |some (_,.str z)=>z
 |_ => ""
noncomputable def ZD(i:Nat):List (Int×Str):=(zM (zG z6) i,zT rows z6 i)::(bif zG z6 i then[(zM (zG z6) i+1, "")]else[])
noncomputable def yS:Nat->List (Int×Str)
 |0=>[]
 |n+1=>yS n++ZD rows z6 n
end
section
variable{rows:List D}{z6:List Nat}(W:Wr rows z6)
include W
theorem fD{i:Nat}(hi:i<rows.length):∀m∈wT rows z6 i,0<=m/\m<4294967296:=by
 have h:=W.one hi;unfold wT;cases hj:xK (rows.getD i .zD)with
 |false=>
  intro m hm;obtain⟨w,_⟩:=h.pl hj;cases wO.mp hm;exact⟨w.v0,w.v1⟩
 |true=>
  obtain⟨w,_⟩:=h.jm hj;have c0:=w.c0;have c1:=w.c1;have m0:=w.m0;have m1:=w.m1;intro m hm;unfold jR at hm;cases hF:zG z6 i with
  |true=>
   rw[hF]at hm;rcases xN.mp hm with rfl|hm
   ·omega
   ·cases wO.mp hm;omega
  |false=>
   rw[hF]at hm;cases wO.mp hm;omega
theorem Lz:∀{n:Nat},n<=rows.length->∀m∈zk rows z6 n,0<=m/\m<4294967296
 |0,_,m,hm=>by cases hm
 |n+1,h,m,hm=>by
  rcases wb.mp hm with q|q
  ·exact Lz (by omega) m q
  ·exact fD W (by omega) m q
theorem QT{i:Nat}(hi:i<rows.length):Tx (wQ rows i) (tA (zM (zG z6)) (wL rows i)) (zT rows z6 i):=by
 have:∃z,Tx (wQ rows i) (tA (zM (zG z6)) (wL rows i)) z:=by
  have eg:rows.getD i .zD=rows[i]:=by rw[vF,yf hi]; rfl
  have hR:vG (rows.length:Int) (rows.getD i .zD):=by rw[eg]; exact W.hr _ (uQ hi)
  unfold wQ wL;cases hj:xK (rows.getD i .zD)with
  |false=>
   rcases hR with h|h
   ·exact dR h
   ·obtain⟨_,_,_,_,_,z,_⟩:=qS h;rw[z]at hj;cases hj
  |true=>
   obtain⟨_,p1,_⟩:=(W.one hi).jm hj;have a:=qJ (zG z6) (wj (rows.getD i .zD));have:=W.hn;rcases hR with h|h
   ·obtain⟨_,_,_,_,z,_⟩:=jL h;rw[z]at hj;cases hj
   ·exact Sr h (a:=zM (zG z6) (wj (rows.getD i .zD))) a.1 (by omega)
 obtain⟨z,h⟩:=this;have e:zT rows z6 i=z:=by unfold zT; rw[h.lw]
 rw[e];exact h
theorem AF{i:Nat}(hi:i<rows.length):uy [.lst ((zk rows z6 rows.length).map D.int),.int (zM (zG z6) i)]=some (false,.tup [wQ rows i,.int (zM (zG z6) (i+1)),tA (zM (zG z6)) (wL rows i)]):=by
 obtain⟨r,h1,h2,_⟩:=NP (Lz W (y0 _)) (zM (zG z6) i);have:=W.tb.told i hi;rw[h1]at this;rw[h2];exact this
omit W in
theorem Vq(i:Nat):zM (zG z6) (i+1)=zM (zG z6) i+(if zG z6 i then 2 else 1):=rfl
theorem Te:∀{n:Nat},n<=rows.length->(yS rows z6 n).map (·.1)=(List.range (zM (zG z6) n).toNat).map λk:Nat=>(k:Int)
 |0,_=>rfl
 |n+1,h=>by
  have ih:=Te (n:=n) (by omega);have a:=qJ (zG z6) n;show(yS rows z6 n++ZD rows z6 n).map (·.1)=_;rw[vO,ih,Vq];unfold ZD;cases zG z6 n with
  |true=>
   rw[zP rfl,show(zM (zG z6) n+2).toNat=(zM (zG z6) n).toNat+1+1 by omega,Yw,Yw,vO,vO,tu]
   congr 1
   show[zM (zG z6) n,zM (zG z6) n+1]=[(((zM (zG z6) n).toNat:Nat):Int),(((zM (zG z6) n).toNat+1:Nat):Int)];rw[show(((zM (zG z6) n).toNat:Nat):Int)=zM (zG z6) n by omega,show(((zM (zG z6) n).toNat+1:Nat):Int)=zM (zG z6) n+1 by omega]
  |false=>
   rw[zV (by decide),show(zM (zG z6) n+1).toNat=(zM (zG z6) n).toNat+1 by omega,Yw,vO]
   congr 1
   show[zM (zG z6) n]=[(((zM (zG z6) n).toNat:Nat):Int)];rw[show(((zM (zG z6) n).toNat:Nat):Int)=zM (zG z6) n by omega]
theorem WD{k:Nat}{p:Int×Str}(h:(yS rows z6 rows.length)[k]?=some p):p.1=(k:Int)/\k<(zk rows z6 rows.length).length/\k<128:=by
 have e:=Te W (y0 rows.length);have l:=W.len (y0 rows.length);have a:=qJ (zG z6) rows.length;have hn:=W.hn;have g:((yS rows z6 rows.length).map (·.1))[k]?=some p.1:=by rw[wM,h]; rfl
 rw[e,wM]at g
 have hk:k<(zM (zG z6) rows.length).toNat:=by
  cases z:(List.range (zM (zG z6) rows.length).toNat)[k]? with
  |none=>rw[z]at g; cases g
  |some y=>
   have:=(xT.mp z).1;rw[pq]at this;exact this
 rw[J3 hk]at g;exact⟨(vk g).symm,by omega,by omega⟩
theorem YO:(yS rows z6 rows.length).length=(zk rows z6 rows.length).length:=by
 have e:=congrArg List.length (Te W (y0 rows.length));have l:=W.len (y0 rows.length);rw[yK,yK,pq]at e;omega
omit W in
theorem Td:∀{n:Nat}{p:Int×Str},p∈yS rows z6 n->∃i,i<n/\(p=(zM (zG z6) i,zT rows z6 i)\/zG z6 i=true/\p=(zM (zG z6) i+1,("" : Str)))
 |0,p,h=>by cases h
 |n+1,p,h=>by
  rcases wb.mp h with q|q
  ·obtain⟨i,hi,e⟩:=Td q;exact⟨i,by omega,e⟩
  ·rcases xN.mp q with rfl|q
   ·exact⟨n,by omega,.inl rfl⟩
   ·cases hF:zG z6 n with
    |true=>
     rw[hF]at q;cases wO.mp q;exact⟨n,by omega,.inr ⟨hF,rfl⟩⟩
    |false=>
     rw[hF]at q;cases q
end
noncomputable def OC:FS:=
 (zK (zY 1 (e2 zI (za XG (zB (z7 0) zF)) (eC (.int 0))))
  (zK (zY 2 (za ux (zB (z7 0) (zB (eC (.int 2)) zF))))
  (zr (za XQ (zB (z7 1) (zB (za XF (zB (z7 1) (zB (z7 2) (zB (e2 yL (z7 2) (eC (.int 3))) zF)))) zF))))))
noncomputable def XO:List D->Option (Bool×D):=FR 1 3 OC
theorem Rn(x0:D):XO [x0]=ya 3 OC [x0]:=rfl
section
variable{rows:List D}{z6:List Nat}
noncomputable def wA(rows:List D)(z6:List Nat)(a:Int):Int:=(zk rows z6 rows.length).getD a.toNat 0
noncomputable def xL(rows:List D)(z6:List Nat)(p:Int×Str):D:=.lst [.str (zd p.1),.str (hx (wA rows z6 p.1)),.str p.2]
noncomputable def ve(rows:List D)(z6:List Nat)(p:Int×Str):Str:=Txt.mul " " (5-((zd p.1).length:Int))++zd p.1 ++ "  " ++ hx (wA rows z6 p.1)
noncomputable def xX(rows:List D)(z6:List Nat)(p:Int×Str):Str:=(if p.2 = "" then ve rows z6 p else ve rows z6 p ++ "  " ++ p.2) ++ "\n"
variable(W:Wr rows z6)
include W
theorem NY{k:Nat}(hk:k<(zk rows z6 rows.length).length):zI (.lst ((zk rows z6 rows.length).map D.int)) (.int (k:Int))=some (.int (wA rows z6 (k:Int))):=by
 refine qK (by omega) ?_;rw[wH,wM,yf hk];unfold wA;rw[wH,vF,yf hk];rfl
theorem Da{a:Int}(h0:0<=a)(h1:a<zM (zG z6) rows.length):zI (.lst ((zk rows z6 rows.length).map D.int)) (.int a)=some (.int (wA rows z6 a)):=by
 obtain⟨k,rfl⟩:=jS h0;have:=W.len (y0 rows.length);exact NY W (by omega)
theorem AR{i:Nat}(hi:i<rows.length)(x3 x4 x5:Option Sl):∃y3 y4 y5,TQ [some (false,.lst ((zk rows z6 rows.length).map D.int)),some (true,.lst ((yS rows z6 i).map (xL rows z6))),some (false,.int (zM (zG z6) i)),x3,x4,x5]=some (.nx [some (false,.lst ((zk rows z6 rows.length).map D.int)),some (true,.lst ((yS rows z6 (i+1)).map (xL rows z6))),some (false,.int (zM (zG z6) (i+1))),y3,y4,y5]):=by
 have e1:=AF W hi;have tx:=QT W hi;have a0:=qJ (zG z6) i;have hn:=W.hn;have lt:=W.tb.lt (i:=i) (j:=rows.length) hi (y0 _);have w0:=Da W a0.1 lt;have s0:=str_int (Z4 a0.1 (by omega));have h0:=C8 (x:=wA rows z6 (zM (zG z6) i))
 have ll:(yS rows z6 i).length<=200:=by
  have e:=congrArg List.length (Te W (n:=i) (by omega));rw[yK,yK,pq]at e;omega
 have p0:=vq (L:=(yS rows z6 i).map (xL rows z6)) (r:=xL rows z6 (zM (zG z6) i,zT rows z6 i)) (by rw[yK]; omega);refine⟨some (false,wQ rows i),some (false,.int (zM (zG z6) (i+1))),some (false,tA (zM (zG z6)) (wL rows i)),?_⟩;have lw:=tx.lw;have ap1:∀σ:yT,L_ (za uy (zB (z7 0) (zB (z7 2) zF))) (Y8 3 4 5) σ=((za uy (zB (z7 0) (zB (z7 2) zF))) σ).bind λd=>(Y8 3 4 5 d σ).bind λσ'=>some (.nx σ'):=λ_=>rfl
 have g3:∀(a b c:D)(σ:yT),Y8 3 4 5 (.tup [a,b,c]) σ=some (((σ.set 3 (some (false,a))).set 4 (some (false,b))).set 5 (some (false,c))):=λ_ _ _ _=>rfl
 unfold TQ;cases hF:zG z6 i with
 |false=>
  have ad:zM (zG z6) (i+1)=zM (zG z6) i+1:=by rw[Vq,hF]; rfl
  have al:(yS rows z6 (i+1)).map (xL rows z6)=(yS rows z6 i).map (xL rows z6)++[xL rows z6 (zM (zG z6) i,zT rows z6 i)]:=by
   show(yS rows z6 i++ZD rows z6 i).map (xL rows z6)=_;unfold ZD;rw[hF,vO];rfl
  have c:decide (zM (zG z6) i+1<zM (zG z6) i+1)=false:=yV (by omega);rw[al];rw[ad]at e1 ⊢;have ld:xL rows z6 (zM (zG z6) i,zT rows z6 i)=.lst [.str (zd (zM (zG z6) i)),.str (hx (wA rows z6 (zM (zG z6) i))),.str (zT rows z6 i)]:=rfl;rw[ld]at p0 ⊢;generalize (yS rows z6 i).map (xL rows z6)=LL at *;generalize (zk rows z6 rows.length).map D.int=WW at *;generalize tA (zM (zG z6)) (wL rows i)=TT at *;generalize wQ rows i=BB at *;generalize zT rows z6 i=ZZ at *;generalize wA rows z6 (zM (zG z6) i)=XX at *;generalize zM (zG z6) i=AA at *;simp![ap1,e1,g3,s0,w0,h0,lw,p0,add_int,c]
 |true=>
  have ad:zM (zG z6) (i+1)=zM (zG z6) i+2:=by rw[Vq,hF]; rfl
  have al:(yS rows z6 (i+1)).map (xL rows z6)=(yS rows z6 i).map (xL rows z6)++[xL rows z6 (zM (zG z6) i,zT rows z6 i)]++[xL rows z6 (zM (zG z6) i+1, "")]:=by
   show(yS rows z6 i++ZD rows z6 i).map (xL rows z6)=_;unfold ZD;rw[hF,vO,tu];rfl
  have lt1:zM (zG z6) i+1<zM (zG z6) rows.length:=by
   have:=W.tb.up i hi;by_cases e:i+1=rows.length
   ·rw[<-e]; omega
   ·have:=W.tb.lt (i:=i+1) (j:=rows.length) (by omega) (y0 _);omega
  have w1:=Da W (a:=zM (zG z6) i+1) (by omega) lt1;have s1:=str_int (Z4 (n:=zM (zG z6) i+1) (by omega) (by omega));have h1:=C8 (x:=wA rows z6 (zM (zG z6) i+1));have p1:=vq (L:=(yS rows z6 i).map (xL rows z6)++[xL rows z6 (zM (zG z6) i,zT rows z6 i)]) (r:=xL rows z6 (zM (zG z6) i+1, "")) (by rw[xC,yK]; show _+1<=_; omega);have c:decide (zM (zG z6) i+1<zM (zG z6) i+2)=true:=yb (by omega);rw[al];rw[ad]at e1 ⊢;have ld:xL rows z6 (zM (zG z6) i,zT rows z6 i)=.lst [.str (zd (zM (zG z6) i)),.str (hx (wA rows z6 (zM (zG z6) i))),.str (zT rows z6 i)]:=rfl;have ld1:xL rows z6 (zM (zG z6) i+1, "")=.lst [.str (zd (zM (zG z6) i+1)),.str (hx (wA rows z6 (zM (zG z6) i+1))),.str ""]:=rfl;rw[ld]at p0 p1 ⊢;rw[ld1]at p1 ⊢;generalize (yS rows z6 i).map (xL rows z6)=LL at *;generalize (zk rows z6 rows.length).map D.int=WW at *;generalize tA (zM (zG z6)) (wL rows i)=TT at *;generalize wQ rows i=BB at *;generalize zT rows z6 i=ZZ at *;generalize wA rows z6 (zM (zG z6) i)=XX at *;generalize wA rows z6 (zM (zG z6) i+1)=XY at *;generalize zM (zG z6) i=AA at *;simp![ap1,e1,g3,s0,w0,h0,lw,p0,add_int,c,s1,w1,h1,p1]
theorem CD:∀(k i:Nat)(x3 x4 x5:Option Sl),i+k=rows.length->∃y3 y4 y5,uO U3 TQ (k+1) [some (false,.lst ((zk rows z6 rows.length).map D.int)),some (true,.lst ((yS rows z6 i).map (xL rows z6))),some (false,.int (zM (zG z6) i)),x3,x4,x5]=some (.nx [some (false,.lst ((zk rows z6 rows.length).map D.int)),some (true,.lst ((yS rows z6 rows.length).map (xL rows z6))),some (false,.int (zM (zG z6) rows.length)),y3,y4,y5])
 |0,i,x3,x4,x5,h=>by
  have e:i=rows.length:=by omega
  subst e;refine⟨x3,x4,x5,BL ?_⟩;have l:=W.len (y0 rows.length);have c:decide (zM (zG z6) rows.length<(((zk rows z6 rows.length).map D.int).length:Int))=false:=yV (by rw[yK]; omega);unfold U3;generalize (yS rows z6 rows.length).map (xL rows z6)=LL at *;generalize (zk rows z6 rows.length).map D.int=WW at *;simp![c]
 |k+1,i,x3,x4,x5,h=>by
  have hi:i<rows.length:=by omega
  obtain⟨y3,y4,y5,st⟩:=AR W hi x3 x4 x5;obtain⟨z3,z4,z5,go⟩:=CD k (i+1) y3 y4 y5 (by omega);refine⟨z3,z4,z5,?_⟩;rw[BM ?_ st]
  ·exact go
  ·have l:=W.len (y0 rows.length);have lt:=W.tb.lt (i:=i) (j:=rows.length) hi (y0 _);have c:decide (zM (zG z6) i<(((zk rows z6 rows.length).map D.int).length:Int))=true:=yb (by rw[yK]; omega);unfold U3;generalize (yS rows z6 i).map (xL rows z6)=LL at *;generalize (zk rows z6 rows.length).map D.int=WW at *;simp![c]
theorem AJ:Zo [.lst ((zk rows z6 rows.length).map D.int)]=some (true,.lst ((yS rows z6 rows.length).map (xL rows z6))):=by
 obtain⟨y3,y4,y5,lp⟩:=CD W rows.length 0 none none none (wq _);have lp:=M1 (rows.length+1) lp (by have:=W.hn; show _<=100000000; omega);have z0:zM (zG z6) 0=0:=rfl;have l0:(yS rows z6 0).map (xL rows z6)=[]:=rfl;rw[z0,l0]at lp;rw[Rf];unfold O4;generalize (yS rows z6 rows.length).map (xL rows z6)=LL at *;generalize (zk rows z6 rows.length).map D.int=WW at *;simp![lp]
end
theorem uC{a b:Str}(h:a.length+b.length<=16777216):zm (.str a) (.str b)=some (.str (a++b)):=by
 show(if a.length+b.length<=yR then _ else _)=_;rw[zP h]
theorem Ov(x:Int):(hx x).length=8:=by rw[<-Wi,Wj]
theorem Ei:∀a:Nat,a<128->(Txt.rjust (zd (a:Int)) 5).length=5/\PadOk 5=true:=by decide +kernel
theorem cQ{k:Nat}(hk:k<128):Oi (.str (zd (k:Int))) (.int 5)=some (.str (Txt.mul " " (5-((zd (k:Int)).length:Int))++zd (k:Int))):=by
 obtain⟨l,p⟩:=Ei k hk;show(if PadOk 5=true/\(Txt.rjust (zd (k:Int)) 5).length<=16777216 then _ else _)=_;rw[zP ⟨p,by omega⟩,(Tq k hk).1]
theorem CQ{k:Nat}(hk:k<128):(Txt.mul " " (5-((zd (k:Int)).length:Int))).length+(zd (k:Int)).length=5:=by
 have e:=(Tq k hk).1;have l:=(Ei k hk).1;rw[e,ye]at l;exact l
theorem aY{z:Str}(h:1<=z.length):z ≠ "" := λe=>by
 rw[e]at h;exact absurd h (by decide)
section
variable{rows:List D}{z6:List Nat}(W:Wr rows z6)
include W
theorem Fg{k:Nat}(hk:k<128)(z:Str):(ve rows z6 ((k:Int),z)).length=15:=by
 have:=CQ hk;show(Txt.mul " " (5-((zd (k:Int)).length:Int))++zd (k:Int) ++ "  " ++ hx (wA rows z6 (k:Int))).length=15;rw[ye,ye,ye,Ov,this];rfl
theorem yO{k:Nat}{p:Int×Str}(h:(yS rows z6 rows.length)[k]?=some p):p.2.length<=7000:=by
 obtain⟨i,hi,e|⟨_,e⟩⟩:=Td (tH h)
 ·rw[e]; exact(QT W hi).ln
 ·rw[e]; show("" : Str).length<=7000; decide
theorem CL{k:Nat}{p:Int×Str}(h:(yS rows z6 rows.length)[k]?=some p):(xX rows z6 p).length<=7018:=by
 obtain⟨e,_,hk⟩:=WD W h;have z:=yO W h;obtain⟨a,y⟩:=p;have e:a=(k:Int):=e;subst e;have l:=Fg W hk y;unfold xX;rw[ye]
 split
 ·rw[l]; decide
 ·rw[ye,ye,l];show 15+2+y.length+1<=7018;have:y.length<=7000:=z;omega
theorem Dq:∀k,k<=(yS rows z6 rows.length).length->(vI (((yS rows z6 rows.length).take k).map (xX rows z6))).length<=7018*k
 |0,_=>by
  show(vI []).length<=_
  decide
 |k+1,h=>by
  have ih:=Dq k (by omega);have g:=yf (show k<(yS rows z6 rows.length).length by omega);have l:=CL W g;rw[JA,g,vO];show(vI (_++[xX rows z6 _])).length<=_;rw[OR,ye];omega
theorem SR{k:Nat}{p:Int×Str}(h:(yS rows z6 rows.length)[k]?=some p)(b:D):(p.2 = "" /\ yu (.int (k:Int)) (.dic (yZ (zM (zG z6)) rows.length) (yn (zM (zG z6)) (wQ rows) (wL rows) rows.length))=some (.bl false)) \/
  (p.2 ≠ "" /\ yu (.int (k:Int)) (.dic (yZ (zM (zG z6)) rows.length) (yn (zM (zG z6)) (wQ rows) (wL rows) rows.length))=some (.bl true)/\∃t,zI (.dic (yZ (zM (zG z6)) rows.length) (yn (zM (zG z6)) (wQ rows) (wL rows) rows.length)) (.int (k:Int))=some t/\j7 [t]=some (false,.str p.2)):=by
 obtain⟨e,_,_⟩:=WD W h;have T:=W.tb
 have hin:∀b,wB (yZ (zM (zG z6)) rows.length) (.inl (k:Int))=b->yu (.int (k:Int)) (.dic (yZ (zM (zG z6)) rows.length) (yn (zM (zG z6)) (wQ rows) (wL rows) rows.length))=some (.bl b):=λb q=>by
  show(some (wB (yZ (zM (zG z6)) rows.length) (.inl (k:Int)))).bind _=_;rw[q];rfl
 obtain⟨i,hi,e2|⟨hF,e2⟩⟩:=Td (tH h)
 ·have tx:=QT W hi;have ek:zM (zG z6) i=(k:Int):=by rw[<-e,e2]
  right
  rw[e2];refine⟨aY tx.ne,hin _ (TK.mpr ⟨i,hi,ek⟩),vY (zM (zG z6)) (wQ rows) (wL rows) i,?_,tx.tp _⟩;rw[<-ek];exact Fa (λi j hi hj h=>T.inj hi hj h) hi (vY (zM (zG z6)) (wQ rows) (wL rows)) (List.range rows.length) (tz.mpr hi) λi hi=>Zb (tz.mp hi)
 ·left
  have ek:zM (zG z6) i+1=(k:Int):=by rw[<-e,e2]
  refine⟨by rw[e2],hin _ ?_⟩;cases c:wB (yZ (zM (zG z6)) rows.length) (.inl (k:Int))with
  |false=>rfl
  |true=>
   obtain⟨j,hj,ej⟩:=TK.mp c;have s:=Vq (z6:=z6) i;rw[hF,zP rfl]at s;rcases Nat.lt_or_ge i j with q|q
   ·by_cases w:i+1=j
    ·rw[w]at s; omega
    ·have:=T.lt (i:=i+1) (j:=j) (by omega) (by omega);omega
   ·by_cases w:j=i
    ·rw[w]at ej; omega
    ·have:=T.lt (i:=j) (j:=i) (by omega) (by omega);omega
theorem AT:jo [.lst ((zk rows z6 rows.length).map D.int)]=some (false,.str (vI ((yS rows z6 rows.length).map (xX rows z6)))):=by
 have e1:=lv W.tb;have hn:=W.hn;have ll:=YO W
 have al:(yS rows z6 rows.length).length<=126:=by
  have:=W.len (y0 rows.length);have:=qJ (zG z6) rows.length;omega
 obtain⟨σ',e2,x3,x4,x5,rfl⟩:=tW (g:=vV 3 4) (b:=TW) (λi σ=>∃x3 x4 x5,σ=[some (false,.lst ((zk rows z6 rows.length).map D.int)),some (false,.dic (yZ (zM (zG z6)) rows.length) (yn (zM (zG z6)) (wQ rows) (wL rows) rows.length)),some (true,.lst ((((yS rows z6 rows.length).take i).map (xX rows z6)).map D.str)),x3,x4,x5]) (ds:=numbered ((zk rows z6 rows.length).map D.int))
  (σ:=[some (false,.lst ((zk rows z6 rows.length).map D.int)),some (false,.dic (yZ (zM (zG z6)) rows.length) (yn (zM (zG z6)) (wQ rows) (wL rows) rows.length)),some (true,.lst []),none,none,none]) 0 ⟨none,none,none,rfl⟩ (by
  rintro i v σ hv ⟨x3,x4,x5,rfl⟩;rw[wq]at *;rw[LX,wM]at hv
  have hi:i<(zk rows z6 rows.length).length:=by
   cases z:(zk rows z6 rows.length)[i]? with
   |none=>rw[z]at hv; cases hv
   |some y=>exact(xT.mp z).1
  have wv:(zk rows z6 rows.length)[i]?=some (wA rows z6 (i:Int)):=by
   unfold wA;rw[wH,vF,yf hi];rfl
  rw[wv]at hv;cases hv;obtain⟨p,g⟩:∃p,(yS rows z6 rows.length)[i]?=some p:=⟨_,yf (show i<(yS rows z6 rows.length).length by omega)⟩;obtain⟨pe,_,hk⟩:=WD W g
  have tk:(((yS rows z6 rows.length).take (i+1)).map (xX rows z6)).map D.str=(((yS rows z6 rows.length).take i).map (xX rows z6)).map D.str++[.str (xX rows z6 p)]:=by
   rw[JA,g,vO,vO];rfl
  have ap:=vq (L:=(((yS rows z6 rows.length).take i).map (xX rows z6)).map D.str) (r:=.str (xX rows z6 p)) (by rw[yK,yK,qi]; omega);have it:=SR W g .zD;have zl:=yO W g;obtain⟨a,z⟩:=p;have pe:a=(i:Int):=pe;subst pe;have s0:=str_int (Z4 (n:=(i:Int)) (by omega) (by omega));have rj:=cQ hk;have ml:=CQ hk;have h0:=R_ (wA rows z6 (i:Int));have hl:=Ov (wA rows z6 (i:Int));have hd:=Fg W hk z;have a1:=uC (a:=Txt.mul " " (5-((zd (i:Int)).length:Int))++zd (i:Int)) (b := "  ") (by rw[ye,ml]; decide);have a2:=uC (a:=Txt.mul " " (5-((zd (i:Int)).length:Int))++zd (i:Int) ++ "  ") (b:=hx (wA rows z6 (i:Int))) (by rw[ye,ye,ml,hl]; decide);have eh:Txt.mul " " (5-((zd (i:Int)).length:Int))++zd (i:Int) ++ "  " ++ hx (wA rows z6 (i:Int))=ve rows z6 ((i:Int),z):=rfl;rw[eh]at a2;rw[tk];rcases it with⟨z0,i1⟩|⟨z1,i1,t,i2,tt⟩
  ·have z0:z = "" := z0;have el:xX rows z6 ((i:Int),z)=ve rows z6 ((i:Int),z) ++ "\n" := by unfold xX; rw[zP z0]
   have a3:=uC (a:=ve rows z6 ((i:Int),z)) (b := "\n") (by rw[hd]; decide);rw[<-el]at a3;refine⟨_,[some (false,.lst ((zk rows z6 rows.length).map D.int)),some (false,.dic (yZ (zM (zG z6)) rows.length) (yn (zM (zG z6)) (wQ rows) (wL rows) rows.length)),some (true,.lst ((((yS rows z6 rows.length).take i).map (xX rows z6)).map D.str++[.str (xX rows z6 ((i:Int),z))])),some (false,.int (i:Int)),some (false,.int (wA rows z6 (i:Int))),some (false,.str (ve rows z6 ((i:Int),z)))],rfl,.inl ?_,_,_,_,rfl⟩;unfold TW;generalize (((yS rows z6 rows.length).take i).map (xX rows z6)).map D.str=LL at *;generalize xX rows z6 ((i:Int),z)=LN at *;generalize ve rows z6 ((i:Int),z)=HD at *;generalize hx (wA rows z6 (i:Int))=HX at *;generalize wA rows z6 (i:Int)=WX at *;generalize (zk rows z6 rows.length).map D.int=WW at *;generalize yZ (zM (zG z6)) rows.length=KK at *;generalize yn (zM (zG z6)) (wQ rows) (wL rows) rows.length=VV at *;generalize Txt.mul " " (5-((zd (i:Int)).length:Int))=MM at *;generalize zd (i:Int)=DD at *;simp![s0,rj,a1,h0,a2,i1,a3,ap]
  ·have el:xX rows z6 ((i:Int),z)=ve rows z6 ((i:Int),z) ++ "  " ++ z ++ "\n" := by unfold xX; rw[zV z1]
   have zl:z.length<=7000:=zl;have a3:=uC (a:=ve rows z6 ((i:Int),z)) (b := "  ") (by rw[hd]; decide);have a4:=uC (a:=ve rows z6 ((i:Int),z) ++ "  ") (b:=z) (by rw[ye,hd]; show 15+2+_<=_; omega);have a5:=uC (a:=ve rows z6 ((i:Int),z) ++ "  " ++ z) (b := "\n") (by rw[ye,ye,hd]; show 15+2+_+1<=_; omega);rw[<-el]at a5;refine⟨_,[some (false,.lst ((zk rows z6 rows.length).map D.int)),some (false,.dic (yZ (zM (zG z6)) rows.length) (yn (zM (zG z6)) (wQ rows) (wL rows) rows.length)),some (true,.lst ((((yS rows z6 rows.length).take i).map (xX rows z6)).map D.str++[.str (xX rows z6 ((i:Int),z))])),some (false,.int (i:Int)),some (false,.int (wA rows z6 (i:Int))),some (false,.str (ve rows z6 ((i:Int),z) ++ "  " ++ z))],rfl,.inl ?_,_,_,_,rfl⟩;have tt:j7 [t]=some (false,.str z):=tt;unfold TW;generalize (((yS rows z6 rows.length).take i).map (xX rows z6)).map D.str=LL at *;generalize xX rows z6 ((i:Int),z)=LN at *;generalize ve rows z6 ((i:Int),z)=HD at *;generalize hx (wA rows z6 (i:Int))=HX at *;generalize wA rows z6 (i:Int)=WX at *;generalize (zk rows z6 rows.length).map D.int=WW at *;generalize yZ (zM (zG z6)) rows.length=KK at *;generalize yn (zM (zG z6)) (wQ rows) (wL rows) rows.length=VV at *;generalize Txt.mul " " (5-((zd (i:Int)).length:Int))=MM at *;generalize zd (i:Int)=DD at *;simp![s0,rj,a1,h0,a2,i1,i2,tt,a3,a4,a5,ap])
 rw[WH,yK,wq,<-ll,Za]at e2
 have jn:=k_ (sep := "") (ts:=(yS rows z6 rows.length).map (xX rows z6)) (by
  have:∀L:List Str,(∀z∈L,z.length<=7018)->(L.map (·.length)).sum<=7018*L.length:=λL=>by
   induction L with
   |nil=>intro _; exact y0 _
   |cons z L ih=>
    intro h;have h1:=h z (xh ..);have h2:=ih λy hy=>h y (wN _ hy)
    rw[xY,Yx,xg];omega
  have:=this ((yS rows z6 rows.length).map (xX rows z6)) λz hz=>by
   obtain⟨p,hp,rfl⟩:=v4.mp hz;obtain⟨k,hk⟩:=List.getElem?_of_mem hp;exact CL W hk
  rw[yK]at this ⊢;have e0:("" : Str).length=0:=rfl;rw[e0];omega)
 rw[Fb]at jn;have en:YH (z7 0) [some (false,.lst ((zk rows z6 rows.length).map D.int)),some (false,.dic (yZ (zM (zG z6)) rows.length) (yn (zM (zG z6)) (wQ rows) (wL rows) rows.length)),some (true,.lst []),none,none,none]=some (numbered ((zk rows z6 rows.length).map D.int)):=rfl;rw[Rp];unfold OE;generalize vI ((yS rows z6 rows.length).map (xX rows z6))=CC at *;generalize ((yS rows z6 rows.length).map (xX rows z6)).map D.str=LL at *;generalize numbered ((zk rows z6 rows.length).map D.int)=NN at *;generalize (zk rows z6 rows.length).map D.int=WW at *;generalize yZ (zM (zG z6)) rows.length=KK at *;generalize yn (zM (zG z6)) (wQ rows) (wL rows) rows.length=VV at *;simp![e1,en,e2,jn]
end
noncomputable def WB:FS:=(zK (zt (tE (e2 kE (z7 2) (eC (.str "0123456789abcdef"))))
     (λ_=>none)
     yJ)
    (zY 1 (e2 zm (e2 qP (z7 1) (eC (.int 16))) (e2 Oe (eC (.str "0123456789abcdef")) (z7 2)))))
noncomputable def OG:FS:=
 (zK (zt (tE (e2 xA (eL xq (zB (z7 0) zF)) (eL xq (zB (eC YE) zF))))
   (λ_=>none)
   yJ)
  (zK (zY 1 (eC (.int 0)))
  (zK (wm (vy (z7 0)) (yD 2)
   WB)
  (zr (z7 1)))))
noncomputable def XR:List D->Option (Bool×D):=FR 1 3 OG
theorem Rr(x0:D):XR [x0]=ya 3 OG [x0]:=rfl
noncomputable def ON:FS:=
 (zK (zt (tG (tE (e2 (xE λi j=>decide (i<j)) (eL xq (zB (z7 0) zF)) (eC (.int 2)))) (tE (e2 xA (e2 zI (z7 0) (eC (.int 0))) (eL tV (zB (z7 1) zF)))))
   (λ_=>none)
   yJ)
  (zr (za XR (zB (e2 zI (z7 0) (eC (.int 1))) zF))))
noncomputable def XU:List D->Option (Bool×D):=FR 2 2 ON
theorem Ry(x0 x1:D):XU [x0,x1]=ya 2 ON [x0,x1]:=rfl
noncomputable def BP:FE:=(z7 4)
noncomputable def Qj:FT:=(tE (e2 xA (z7 4) (eC (.str ""))))
noncomputable def Z1:FS:=(zK (zY 3 (wx 1 (vy (e2 Xl (z7 2) (eC (.str " ")))) (yD 4) Qj BP))
    (zt (tE (e2 xA (z7 3) (ym zF)))
     (wK 1 xj (za XU (zB (z7 3) (zB (eL xq (zB (vt 1) zF)) zF))))
     yJ))
noncomputable def OH:FS:=
 (zK (vX 1 (ym zF))
  (zK (wm (vy (e2 Xl (z7 0) (eC (.str "\n")))) (yD 2)
   Z1)
  (qZ 1)))
noncomputable def p8:List D->Option (Bool×D):=FR 1 4 OH
theorem Rs(x0:D):p8 [x0]=ya 4 OH [x0]:=rfl
theorem iC:∀n:Nat,n<16->Builtin.Str.occurrences "0123456789abcdef" (yd (n:Int)) 0 ("0123456789abcdef" : Str).length 1=[n]:=by decide +kernel
theorem iE{d:Int}(h0:0<=d)(h1:d<16):kE (.str (yd d)) (.str "0123456789abcdef")=some (.bl false)/\Oe (.str "0123456789abcdef") (.str (yd d))=some (.int d):=by
 obtain⟨n,rfl⟩:=jS h0;have o:=iC n (by omega);refine⟨?_,?_⟩
 ·show(some (!(Builtin.Str.occurrences "0123456789abcdef" (yd (n:Int)) 0 ("0123456789abcdef" : Str).length 1).isEmpty)).bind _=_;rw[o];rfl
 ·show(match Builtin.Str.occurrences "0123456789abcdef" (yd (n:Int)) 0 ("0123456789abcdef" : Str).length 1 with
   |i::_=>some (D.int (i:Int))
   | []=>none)=_
  rw[o]
noncomputable def U6(z:Str):List D:=z.cps.toList.map λc=>.str ⟨#[c]⟩
theorem GW(T:D)(x:Int):∀(n:Nat)(y:Option Sl),∃y',ub (yD 2) WB (U6 (vi x n)) [some (false,T),some (false,.int (x/16 ^ n)),y]=some (.nx [some (false,T),some (false,.int x),y'])
 |0,y=>⟨y,by rw[Int.pow_zero,tq]; rfl⟩
 |n+1,y=>by
  obtain⟨y',ih⟩:=GW T x n (some (false,.str (yd (x/16 ^ n%16))));refine⟨y',?_⟩;obtain⟨q1,q2⟩:=iE (d:=x/16 ^ n%16) (by omega) (by omega)
  have ec:U6 (vi x (n+1))=.str (yd (x/16 ^ n%16))::U6 (vi x n):=by
   show((yd (x/16 ^ n%16)++vi x n).cps.toList.map λc=>D.str ⟨#[c]⟩)=_;rw[t4];rfl
  have d1:x/16 ^ (n+1)=x/16 ^ n/16:=by rw[Int.pow_succ,KU (ZW (Ws (by decide)))]
  have st:WB [some (false,T),some (false,.int (x/16 ^ (n+1))),some (false,.str (yd (x/16 ^ n%16)))]=some (.nx [some (false,T),some (false,.int (x/16 ^ n)),some (false,.str (yd (x/16 ^ n%16)))]):=by
   rw[d1];have e:x/16 ^ n=x/16 ^ n/16*16+x/16 ^ n%16:=by omega
   have l16:vC 16=true:=by decide
   have g:∀m:Int,m/16*16+m%16=m:=λm=>by omega
   unfold WB;generalize x/16 ^ n=Y at *;simp![q1,q2,l16,add_int,g]
  rw[ec];show(WB [some (false,T),some (false,.int (x/16 ^ (n+1))),some (false,.str (yd (x/16 ^ n%16)))]).bind _=_;rw[st];exact ih
theorem fC{x:Int}(h0:0<=x)(h1:x<4294967296):XR [.str (hx x)]=some (false,.int x):=by
 have hz:x/16 ^ 8=0:=by
  have p:(16:Int) ^ 8=4294967296:=by decide
  rw[p];omega
 obtain⟨y',e⟩:=GW (.str (hx x)) x 8 none;rw[hz,Wi]at e;have l:(hx x).length=8:=by rw[<-Wi,Wj]
 have n:xA (.int ((hx x).length:Int)) (.int ((8:Nat):Int))=some (.bl false):=by rw[l]; rfl
 have gl:YE=.tup Op:=rfl;have ll:Op.length=8:=rfl;rw[Rr];unfold OG;unfold U6 at e;simp![gl,ll,n,e]
noncomputable def V(l:List Nat):List (List Nat):=(xw 32 l).filter λp=>!p.isEmpty
theorem NE(l:List Nat):V (32::l)=V l:=by
 unfold V;rw[ZJ,zP rfl,Yt (by decide)]
theorem DR{g:List Nat}(h:∀b∈g,b=32)(l:List Nat):V (g++l)=V l:=by
 induction g with
 |nil=>rfl
 |cons b g ih=>
  rw[h b xh,pj,NE,ih λx hx=>h x (wN _ hx)]
theorem DS{w:List Nat}(hn:w≠[])(h:32 ∉ w)(l:List Nat):V (w++32::l)=w::V l:=by
 unfold V
 rw[Yj,ZK h,List.singleton_append,gb (by
  cases w with
  |nil=>exact absurd rfl hn
  |cons _ _=>rfl)]
theorem NG{w:List Nat}(hn:w≠[])(h:32 ∉ w):V w=[w]:=by
 unfold V
 rw[ZK h,gb (by
  cases w with
  |nil=>exact absurd rfl hn
  |cons _ _=>rfl)]
 rfl
noncomputable def sD(l:List Nat):D:=.str ⟨l.toArray⟩
theorem M0(z:Str):sD z.cps.toList=.str z:=by
 obtain⟨⟨l⟩⟩:=z;rfl
inductive LT:List (List Nat)->Nat->List Int->Prop
 |nil {n:Nat}:LT [] n []
 |skip {l:List Nat} {ps:List (List Nat)} {n:Nat} {ws:List Int}:V l=[]->LT ps n ws->LT (l::ps) n ws
 |one {l:List Nat} {r ps:List (List Nat)} {n:Nat} {w:Int} {ws:List Int}:V l=(zd (n:Int)).cps.toList::(hx w).cps.toList::r->0<=w->w<4294967296->LT ps (n+1) ws->LT (l::ps) n (w::ws)
theorem LT.cut:∀{a:List (List Nat)} {n:Nat} {ws:List Int},LT (a++[[]]) n ws->LT a n ws
 | [],_,_,h=>by
  cases h with
  |skip _ h=>exact h
  |one h _ _ _=>exact absurd h (by intro z; cases z)
 |_::_,_,_,h=>by
  cases h with
  |skip e h=>exact .skip e h.cut
  |one e a b h=>exact .one e a b h.cut
theorem cS{row:Str}(σ:yT)(s:D)(w x:Option Sl)(h:row.length<=1000000):xI (yD 4) Qj BP [some (false,s),w,some (false,.str row),x,none] ((Txt.split row ⟨#[32]⟩).map D.str)=some ((V row.cps.toList).map sD):=by
 have lc:=WC (g:=yD 4) (c:=Qj) (e:=BP) (σ:=[some (false,s),w,some (false,.str row),x,none]) (λd=>match d with|.str z=>!z.cps.toList.isEmpty|_=>false) id (ds:=(Txt.split row ⟨#[32]⟩).map D.str) λd hd=>by
  obtain⟨z,_,rfl⟩:=v4.mp hd
  have n:xA (.str z) (.str "")=some (.bl (!z.cps.toList.isEmpty)):=by
   obtain⟨⟨l⟩⟩:=z;cases l<;>rfl
  refine⟨_,rfl,?_,λ_=>rfl⟩;unfold Qj;simp![n]
 have fin:(((Txt.split row ⟨#[32]⟩).map D.str).filter λd=>match d with|.str z=>!z.cps.toList.isEmpty|_=>false).map id=(V row.cps.toList).map sD:=by
  have ws:V row.cps.toList=((Txt.split row ⟨#[32]⟩).map λt=>t.cps.toList).filter λp=>!p.isEmpty:=by
   unfold V;rw[HS]
  rw[ws,J7,J2,J2,jV];refine Kl λz _=>(M0 z).symm
 rw[fin]at lc;exact lc
theorem sX{r:List D}{n:Nat}{w:Int}(hn:n<=1000)(h0:0<=w)(h1:w<4294967296):XU [.lst (.str (zd (n:Int))::.str (hx w)::r),.int (n:Int)]=some (false,.int w):=by
 have e:=fC h0 h1;have s:=str_int (Z4 (n:=(n:Int)) (by omega) (by omega));have c:decide ((((D.str (zd (n:Int))::.str (hx w)::r).length:Nat):Int)<2)=false:=yV (by rw[xg,xg]; omega);have i0:zI (.lst (.str (zd (n:Int))::.str (hx w)::r)) (.int 0)=some (.str (zd (n:Int))):=rfl;have i1:zI (.lst (.str (zd (n:Int))::.str (hx w)::r)) (.int 1)=some (.str (hx w)):=rfl;have q:=LK (d:=.str (zd (n:Int))) rfl;rw[Ry];unfold ON;generalize D.str (zd (n:Int))=DD at *;generalize D.str (hx w)=HH at *;generalize DD::HH::r=LL at *;simp![c,i0,s,q,i1,e]
theorem Lv(T:D):∀{rs:List Str}{ws us:List Int}{x2 x3:Option Sl},LT (rs.map λt=>t.cps.toList) us.length ws->(∀r∈rs,r.length<=1000000)->us.length+ws.length<=1000->∃y2 y3,ub (yD 2) Z1 (rs.map D.str) [some (false,T),some (true,.lst (us.map D.int)),x2,x3]=some (.nx [some (false,T),some (true,.lst ((us++ws).map D.int)),y2,y3])
 | [],ws,us,x2,x3,h,_,_=>by
  cases h;exact⟨x2,x3,by rw[uP]; rfl⟩
 |r::rs,ws,us,x2,x3,h,hl,hn=>by
  have hr:=hl r xh;have fs:Xl (.str r) (.str " ")=some (.lst ((Txt.split r ⟨#[32]⟩).map D.str)):=zP ⟨rfl,by omega⟩;have pf:=cS [] T (some (true,.lst (us.map D.int))) x3 hr;rw[xY]at h;show ∃y2 y3,(Z1 [some (false,T),some (true,.lst (us.map D.int)),some (false,.str r),x3]).bind _=_;cases h with
  |skip e h=>
   obtain⟨y2,y3,ih⟩:=Lv T (x2:=some (false,.str r)) (x3:=some (false,.lst [])) h (λq hq=>hl q (wN _ hq)) hn;refine⟨y2,y3,?_⟩;rw[e,qj]at pf;have ne:xA (.lst []) (.lst [])=some (.bl false):=by rfl
   have st:Z1 [some (false,T),some (true,.lst (us.map D.int)),some (false,.str r),x3]=some (.nx [some (false,T),some (true,.lst (us.map D.int)),some (false,.str r),some (false,.lst [])]):=by
    unfold Z1;generalize us.map D.int=UU at *;generalize (Txt.split r ⟨#[32]⟩).map D.str=SS at *;simp![fs,pf,ne]
   rw[st];exact ih
  |one e w0 w1 h=>
   rename_i rr w ws';rw[xg]at hn
   have h':LT (rs.map λt=>t.cps.toList) (us++[w]).length ws':=by
    rw[xC];exact h
   obtain⟨y2,y3,ih⟩:=Lv T (us:=us++[w]) (x2:=some (false,.str r)) (x3:=some (false,.lst (.str (zd (us.length:Int))::.str (hx w)::rr.map sD))) h' (λq hq=>hl q (wN _ hq)) (by rw[xC]; show _+1+_<=_; omega);refine⟨y2,y3,?_⟩;rw[tu]at ih;rw[e,xY,xY,M0,M0]at pf;have wt:=sX (r:=rr.map sD) (n:=us.length) (by omega) w0 w1;have ne:xA (.lst (.str (zd (us.length:Int))::.str (hx w)::rr.map sD)) (.lst [])=some (.bl true):=by rfl
   have ap:=vq (L:=us.map D.int) (r:=.int w) (by rw[yK]; omega);have ln:(us.map D.int).length=us.length:=yK _
   have st:Z1 [some (false,T),some (true,.lst (us.map D.int)),some (false,.str r),x3]=some (.nx [some (false,T),some (true,.lst ((us++[w]).map D.int)),some (false,.str r),some (false,.lst (.str (zd (us.length:Int))::.str (hx w)::rr.map sD))]):=by
    rw[vO];show _=some (Fl.nx [some (false,T),some (true,.lst (us.map D.int++[.int w])),some (false,.str r),some (false,.lst (.str (zd (us.length:Int))::.str (hx w)::rr.map sD))]);unfold Z1;generalize (.str (zd (us.length:Int))::.str (hx w)::rr.map sD)=LL at *;generalize us.map D.int=UU at *;generalize (Txt.split r ⟨#[32]⟩).map D.str=SS at *;simp![fs,pf,ne,ln,wt,ap]
   rw[st];exact ih
theorem Lw{T:Str}{ws:List Int}(h:LT (xw 10 T.cps.toList) 0 ws)(hl:T.length<=1000000)(hn:ws.length<=1000):p8 [.str T]=some (true,.lst (ws.map D.int)):=by
 have fs:Xl (.str T) (.str "\n")=some (.lst ((Txt.split T ⟨#[10]⟩).map D.str)):=zP ⟨rfl,by omega⟩;rw[<-HS]at h
 obtain⟨y2,y3,e⟩:=Lv (.str T) (rs:=Txt.split T ⟨#[10]⟩) (us:=[]) (ws:=ws) (x2:=none) (x3:=none) h (λr hr=>by
  have:r.length<=T.length:=PyProof.Rows.part_short hr;omega) (by show 0+_<=_; omega)
 rw[gi,qj]at e;rw[Rs];unfold OH;generalize ws.map D.int=WW at *;generalize (Txt.split T ⟨#[10]⟩).map D.str=SS at *;simp![fs,e]
noncomputable def TR:FS:=(zK (zY 5 (za v7 (zB (z7 1) (zB (z7 3) zF))))
    (zK (zY 6 (e2 zI (ym (zB (e2 zI (z7 4) (eC (.int 2))) (zB (eC (.str "")) (zB (e2 zm (eC (.str "  ")) (e2 zI (z7 4) (eC (.int 2)))) (zB (eC (.str "no row, but = signs")) (zB (eC (.str "12 34")) zF)))))) (e2 yL (z7 5) (eC (.int 5)))))
    (zK (zY 7 (e2 zm (e2 UI (eC (.str " ")) (e2 yL (e2 xR (z7 5) (eC (.int 5))) (eC (.int 4)))) (e2 zI (z7 4) (eC (.int 0)))))
    (zK (zY 2 (e2 zm (e2 zm (e2 zm (e2 zm (e2 zm (e2 zm (z7 2) (z7 7)) (e2 UI (eC (.str " ")) (e2 zm (eC (.int 1)) (e2 yL (e2 xR (z7 5) (eC (.int 20))) (eC (.int 3)))))) (e2 zI (z7 4) (eC (.int 1)))) (eC (.str " "))) (z7 6)) (eC (.str "\n"))))
    (zY 2 (e2 zm (z7 2) (e2 zI (ym (zB (eC (.str "")) (zB (eC (.str "\n")) (zB (eC (.str "   \n")) (zB (eC (.str "")) (zB (eC (.str "")) zF)))))) (e2 yL (e2 xR (z7 5) (eC (.int 60))) (eC (.int 5))))))))))
noncomputable def O5:FS:=
 (zK (zY 2 (eC (.str "")))
  (zK (wm (YH (za Zo (zB (z7 0) zF))) (vV 3 4)
   TR)
  (zr (z7 2))))
noncomputable def XI:List D->Option (Bool×D):=FR 2 8 O5
theorem Rg(x0 x1:D):XI [x0,x1]=ya 8 O5 [x0,x1]:=rfl
theorem Pz:∀n:Nat,n<16->∀c∈(yd (n:Int)).cps.toList,c≠32/\c≠10:=by decide +kernel
theorem Hn(x:Int):∀(n c:Nat),c∈(vi x n).cps.toList->c≠32/\c≠10
 |0,c,h=>by
  have h:c∈([]:List Nat):=h;cases h
 |n+1,c,h=>by
  have h:c∈(yd (x/16 ^ n%16)).cps.toList++(vi x n).cps.toList:=by rw[<-t4]; exact h
  rcases wb.mp h with q|q
  ·have d0:0<=x/16 ^ n%16:=by omega
   have d1:x/16 ^ n%16<16:=by omega
   generalize x/16 ^ n%16=d at *;obtain⟨k,rfl⟩:=jS d0;exact Pz k (by omega) c q
  ·exact Hn x n c q
theorem S4(x:Int):(hx x).cps.toList≠[]/\∀c∈(hx x).cps.toList,c≠32/\c≠10:=by
 rw[<-Wi];refine⟨λz=>?_,Hn x 8⟩;have:=congrArg List.length z;rw[uq]at this;exact absurd ((Wj x 8).symm.trans this) (by decide)
theorem Py{n:Int}(h:0<=n):(zd n).cps.toList≠[]/\∀c∈(zd n).cps.toList,c≠32/\c≠10:=by
 rw[Dy h];obtain⟨a,b,_⟩:=D_ n.toNat;exact⟨a,λc hc=>by have:=b c hc; omega⟩
theorem NF{g d b h r:List Nat}(hg:∀x∈g,x=32)(dn:d≠[])(d3:32 ∉ d)(bn:b≠[])(hb:∀x∈b,x=32)(hn:h≠[])(h3:32 ∉ h)(hr:r=[]\/∃q,r=32::q):∃q,V (g++(d++(b++(h++r))))=d::h::q:=by
 cases b with
 |nil=>exact absurd rfl bn
 |cons y b=>
  cases hb y xh;rw[DR hg,pj,DS dn d3,DR λx hx=>hb x (wN _ hx)];rcases hr with rfl|⟨q,rfl⟩
  ·rw[uP,NG hn h3];exact⟨_,rfl⟩
  ·rw[DS hn h3];exact⟨_,rfl⟩
noncomputable def Vm(t:Str)(n:Nat)(w:Int):Prop:=∀yy us,LT (xw 10 yy) (n+1) us->LT (xw 10 (t.cps.toList++yy)) n (w::us)
theorem Gy{g b r e:Str}{n:Nat}{w:Int}(hg:∀c∈g.cps.toList,c=32)(bn:b.cps.toList≠[])(hb:∀c∈b.cps.toList,c=32)(rn:NL r)(hr:r.cps.toList=[]\/∃q,r.cps.toList=32::q)(he:e = "" \/ e = "\n" \/ e = "   \n")(w0:0<=w)(w1:w<4294967296):Vm (g++zd (n:Int)++b++hx w++r ++ "\n" ++ e) n w:=by
 intro yy us h;obtain⟨dn,dk⟩:=Py (n:=(n:Int)) (by omega);obtain⟨hn,hk⟩:=S4 w;obtain⟨q,hv⟩:=NF hg dn (λz=>(dk 32 z).1 rfl) bn hb hn (λz=>(hk 32 z).1 rfl) hr
 have n10:10 ∉ g.cps.toList++((zd (n:Int)).cps.toList++(b.cps.toList++((hx w).cps.toList++r.cps.toList))):=λz=>by
  rcases wb.mp z with z|z
  ·exact absurd (hg 10 z) (by decide)
  ·rcases wb.mp z with z|z
   ·exact(dk 10 z).2 rfl
   ·rcases wb.mp z with z|z
    ·exact absurd (hb 10 z) (by decide)
    ·rcases wb.mp z with z|z
     ·exact(hk 10 z).2 rfl
     ·exact rn z
 have eq:(g++zd (n:Int)++b++hx w++r ++ "\n" ++ e).cps.toList++yy=(g.cps.toList++((zd (n:Int)).cps.toList++(b.cps.toList++((hx w).cps.toList++r.cps.toList))))++10::(e.cps.toList++yy):=by
  rw[t4,t4,t4,t4,t4,t4];simp only[tu];rfl
 rw[eq,Yj,ZK n10];refine .one hv w0 w1 ?_;rcases he with rfl|rfl|rfl
 ·exact h
 ·show LT (xw 10 (10::yy)) _ _;rw[ZJ,zP rfl];exact .skip rfl h
 ·show LT (xw 10 ([32,32,32]++10::yy)) _ _;rw[Yj,ZK (by decide)];exact .skip rfl h
theorem Al:∀j:Nat,j<6->(Txt.mul " " (j:Int)).cps.toList=List.replicate j 32:=by decide +kernel
theorem LI{j:Int}(j0:0<=j)(j1:j<6):UI (.str " ") (.int j)=some (.str (Txt.mul " " j))/\(∀c∈(Txt.mul " " j).cps.toList,c=32)/\(Txt.mul " " j).length=j.toNat:=by
 obtain⟨n,rfl⟩:=jS j0;have e:=Al n (by omega);refine⟨?_,λc hc=>?_,?_⟩
 ·show(match decide ((" " : Str).length<=16)&&(decide ((0:Int)<=(n:Int))&&decide ((n:Int)<=1000))with|true=>_|false=>_)=_;rw[yb (show(" " : Str).length<=16 by decide),yb (show(0:Int)<=(n:Int) by omega),yb (show(n:Int)<=1000 by omega)];rfl
 ·rw[e]at hc;exact List.eq_of_mem_replicate hc
 ·have:=congrArg List.length e;rw[uq,jT]at this;rw[wH];exact this
section
variable{rows:List D}{z6:List Nat}(W:Wr rows z6)
include W
theorem Vs:(yS rows z6 rows.length).length<=126:=by
 have:=YO W;have:=W.len (y0 rows.length);have:=qJ (zG z6) rows.length;have:=W.hn;omega
theorem KL{k:Nat}{p:Int×Str}(h:(yS rows z6 rows.length)[k]?=some p):NL p.2:=by
 obtain⟨i,hi,e|⟨_,e⟩⟩:=Td (tH h)
 ·rw[e]; exact(QT W hi).nl
 ·rw[e]; show NL ""; decide +kernel
theorem KE{k:Nat}(h:k<(zk rows z6 rows.length).length):0<=wA rows z6 (k:Int)/\wA rows z6 (k:Int)<4294967296:=by
 have e:wA rows z6 (k:Int)=(zk rows z6 rows.length)[k]:=by
  unfold wA;rw[wH,vF,yf h];rfl
 rw[e];exact Lz W (y0 _) _ (uQ h)
theorem r0{k:Nat}(h:k<(zk rows z6 rows.length).length):(zk rows z6 rows.length).take (k+1)=(zk rows z6 rows.length).take k++[wA rows z6 (k:Int)]:=by
 have e:wA rows z6 (k:Int)=(zk rows z6 rows.length)[k]:=by
  unfold wA;rw[wH,vF,yf h];rfl
 rw[JA,yf h,e];rfl
noncomputable def So(rows:List D)(z6:List Nat)(T:Str)(i:Nat):Prop:=∀yy us,LT (xw 10 yy) i us->LT (xw 10 (T.cps.toList++yy)) 0 ((zk rows z6 rows.length).take i++us)
theorem HM{T t:Str}{i:Nat}(h:So rows z6 T i)(hi:i<(zk rows z6 rows.length).length)(s:Vm t i (wA rows z6 (i:Int))):So rows z6 (T++t) (i+1):=by
 intro yy us q;rw[t4,tu,r0 W hi,tu];exact h _ _ (s yy us q)
omit W in
theorem HN:So rows z6 "" 0:=λyy us q=>q
omit W in
theorem HL{T:Str}(h:So rows z6 T (zk rows z6 rows.length).length):LT (xw 10 T.cps.toList) 0 (zk rows z6 rows.length):=by
 have:=h [] [] (.skip rfl .nil);rw[uP,uP,Za]at this;exact this
theorem AU{i:Nat}{p:Int×Str}(g:(yS rows z6 rows.length)[i]?=some p):Vm (xX rows z6 p) i (wA rows z6 (i:Int)):=by
 obtain⟨pe,hv,hk⟩:=WD W g;have zn:=KL W g;obtain⟨w0,w1⟩:=KE W hv;obtain⟨a,z⟩:=p;have pe:a=(i:Int):=pe;subst pe;have po:=(Tq i hk).2;obtain⟨_,mb,_⟩:=LI (j:=5-((zd (i:Int)).length:Int)) (by omega) (by omega)
 have e:xX rows z6 ((i:Int),z)=Txt.mul " " (5-((zd (i:Int)).length:Int))++zd (i:Int) ++ "  " ++ hx (wA rows z6 (i:Int))++(if z = "" then("" : Str)else "  " ++ z) ++ "\n" ++ "" := by
  show(if z = "" then ve rows z6 ((i:Int),z)else ve rows z6 ((i:Int),z) ++ "  " ++ z) ++ "\n" = _;rw[Iv]
  split
  ·rw[Iv]; rfl
  ·rw[Iu (ve rows z6 ((i:Int),z)) "  " z]; rfl
 rw[e];refine Gy mb (by decide +kernel) (by decide +kernel) ?_ ?_ (.inl rfl) w0 w1
 ·split
  ·decide +kernel
  ·exact Ti (by decide +kernel) zn
 ·split
  ·exact .inl rfl
  ·exact .inr ⟨_,by rw[t4]; rfl⟩
theorem CF:∀i,i<=(yS rows z6 rows.length).length->So rows z6 (vI (((yS rows z6 rows.length).take i).map (xX rows z6))) i
 |0,_=>HN
 |i+1,h=>by
  have ih:=CF i (by omega);have g:=yf (show i<(yS rows z6 rows.length).length by omega);have ll:=YO W;rw[JA,g,vO];show So rows z6 (vI (_++[xX rows z6 _])) _;rw[OR];exact HM W ih (by omega) (AU W g)
theorem Ng:p8 [.str (vI ((yS rows z6 rows.length).map (xX rows z6)))]=some (true,.lst ((zk rows z6 rows.length).map D.int)):=by
 have ll:=YO W;have al:=Vs W;have s:=CF W _ (y0 _);have cl:=Dq W _ (y0 _);rw[Za]at s cl;rw[ll]at s;exact Lw (HL s) (by omega) (by omega)
theorem AX{i:Nat}{p:Int×Str}(g:(yS rows z6 rows.length)[i]?=some p)(CC:Str)(cl:CC.length<=7100*i)(c:Int)(ww x5 x6 x7:Option Sl):∃(t:Str) (y5 y6 y7:Option Sl),t.length<=7100/\Vm t i (wA rows z6 (i:Int))/\TR [ww,some (false,.int c),some (false,.str CC),some (false,.int (i:Int)),some (false,xL rows z6 p),x5,x6,x7]=some (.nx [ww,some (false,.int c),some (false,.str (CC++t)),some (false,.int (i:Int)),some (false,xL rows z6 p),y5,y6,y7]):=by
 obtain⟨pe,hv,hk⟩:=WD W g;have zn:=KL W g;have zl:=yO W g;have al:=Vs W;have il:=(xT.mp g).1;obtain⟨w0,w1⟩:=KE W hv;obtain⟨a,z⟩:=p;have pe:a=(i:Int):=pe;subst pe;have zn:NL z:=zn;have zl:z.length<=7000:=zl;have po:=(Tq i hk).2;have mx:=pS c (i:Int);generalize wC c (i:Int)=m at mx;have hl:=Ov (wA rows z6 (i:Int));have az:=uC (a := "  ") (b:=z) (by show 2+_<=_; omega);have azl:(("  " : Str)++z).length=2+z.length:=by rw[ye]; rfl
 obtain⟨bh,ib,bn,bl⟩:∃bh:Str,zI (.lst [.str z,.str "",.str ("  " ++ z),.str "no row, but = signs",.str "12 34"]) (.int (m%5))=some (.str bh)/\NL bh/\bh.length<=7002:=by
  rcases(show m%5=0\/m%5=1\/m%5=2\/m%5=3\/m%5=4 by omega)with h|h|h|h|h<;>rw[h]
  ·exact⟨z,rfl,zn,by omega⟩
  ·exact⟨"",rfl,by decide +kernel,by decide⟩
  ·exact⟨"  " ++ z,rfl,Ti (by decide +kernel) zn,by omega⟩
  ·exact⟨_,rfl,by decide +kernel,by decide⟩
  ·exact⟨_,rfl,by decide +kernel,by decide⟩
 obtain⟨ex,ie,he⟩:∃ex:Str,zI (.lst [.str "",.str "\n",.str "   \n",.str "",.str ""]) (.int (m/60%5))=some (.str ex)/\(ex = "" \/ ex = "\n" \/ ex = "   \n"):=by
  rcases(show m/60%5=0\/m/60%5=1\/m/60%5=2\/m/60%5=3\/m/60%5=4 by omega)with h|h|h|h|h<;>rw[h]
  ·exact⟨_,rfl,.inl rfl⟩
  ·exact⟨_,rfl,.inr (.inl rfl)⟩
  ·exact⟨_,rfl,.inr (.inr rfl)⟩
  ·exact⟨_,rfl,.inl rfl⟩
  ·exact⟨_,rfl,.inl rfl⟩
 have el:ex.length<=4:=by rcases he with rfl|rfl|rfl<;>decide
 obtain⟨m1,b1,l1⟩:=LI (j:=m/5%4) (by omega) (by omega);obtain⟨m2,b2,l2⟩:=LI (j:=1+m/20%3) (by omega) (by omega)
 have n2:(Txt.mul " " (1+m/20%3)).cps.toList≠[]:=λq=>by
  have:=congrArg List.length q;rw[uq]at this;have l2:(Txt.mul " " (1+m/20%3)).cps.size=(1+m/20%3).toNat:=l2;rw[l2]at this;exact absurd this (by show ¬ _=0; omega)
 have sg:=Gy (n:=i) (w:=wA rows z6 (i:Int)) (r := " " ++ bh) (e:=ex) b1 n2 b2 (Ti (by decide +kernel) bn) (.inr ⟨_,by rw[t4]; rfl⟩) he w0 w1;have f1:yL (.int m) (.int 5)=some (.int (m%5)):=rfl;have f2:xR (.int m) (.int 5)=some (.int (m/5)):=rfl;have f3:yL (.int (m/5)) (.int 4)=some (.int (m/5%4)):=rfl;have f4:xR (.int m) (.int 20)=some (.int (m/20)):=rfl;have f5:yL (.int (m/20)) (.int 3)=some (.int (m/20%3)):=rfl;have f6:xR (.int m) (.int 60)=some (.int (m/60)):=rfl;have f7:yL (.int (m/60)) (.int 5)=some (.int (m/60%5)):=rfl;have f8:zm (.int 1) (.int (m/20%3))=some (.int (1+m/20%3)):=rfl;have k0:zI (xL rows z6 ((i:Int),z)) (.int 0)=some (.str (zd (i:Int))):=rfl;have k1:zI (xL rows z6 ((i:Int),z)) (.int 1)=some (.str (hx (wA rows z6 (i:Int)))):=rfl;have k2:zI (xL rows z6 ((i:Int),z)) (.int 2)=some (.str z):=rfl;generalize Txt.mul " " (m/5%4)=G at *;generalize Txt.mul " " (1+m/20%3)=B at *;generalize hx (wA rows z6 (i:Int))=HX at *;generalize wA rows z6 (i:Int)=w at *;generalize xL rows z6 ((i:Int),z)=LN at *;generalize zd (i:Int)=DD at *;have a0:=uC (a:=G) (b:=DD) (by omega);have a1:=uC (a:=CC) (b:=G++DD) (by rw[ye]; omega);have a2:=uC (a:=CC++(G++DD)) (b:=B) (by rw[ye,ye]; omega);have a3:=uC (a:=CC++(G++DD)++B) (b:=HX) (by rw[ye,ye,ye]; omega);have a4:=uC (a:=CC++(G++DD)++B++HX) (b := " ") (by rw[ye,ye,ye,ye]; show _+1<=_; omega);have a5:=uC (a:=CC++(G++DD)++B++HX ++ " ") (b:=bh) (by rw[ye,ye,ye,ye,ye]; show _+1+_<=_; omega);have a6:=uC (a:=CC++(G++DD)++B++HX ++ " " ++ bh) (b := "\n") (by rw[ye,ye,ye,ye,ye,ye]; show _+1+_+1<=_; omega);have a7:=uC (a:=CC++(G++DD)++B++HX ++ " " ++ bh ++ "\n") (b:=ex) (by rw[ye,ye,ye,ye,ye,ye,ye]; show _+1+_+1+_<=_; omega);have eq:CC++(G++DD)++B++HX ++ " " ++ bh ++ "\n" ++ ex=CC++(G++DD++B++HX++(" " ++ bh) ++ "\n" ++ ex):=by simp only[Iu]
 refine⟨G++DD++B++HX++(" " ++ bh) ++ "\n" ++ ex,some (false,.int m),some (false,.str bh),some (false,.str (G++DD)),by rw[ye,ye,ye,ye,ye,ye,ye]; show _+(1+_)+1+_<=_; omega,sg,?_⟩;rw[<-eq];unfold TR;simp![mx,k2,az,f1,ib,f2,f3,m1,k0,a0,f4,f5,f8,m2,k1,a1,a2,a3,a4,a5,a6,f6,f7,ie,a7]
theorem AW(c:Int):∃T:Str,XI [.lst ((zk rows z6 rows.length).map D.int),.int c]=some (false,.str T)/\T.length<=900000/\LT (xw 10 T.cps.toList) 0 (zk rows z6 rows.length):=by
 have ll:=YO W;have al:=Vs W;have e1:=AJ W
 have en:YH (za Zo (zB (z7 0) zF)) [some (false,.lst ((zk rows z6 rows.length).map D.int)),some (false,.int c),some (false,.str ""),none,none,none,none,none]=some (numbered ((yS rows z6 rows.length).map (xL rows z6))):=by
  generalize (yS rows z6 rows.length).map (xL rows z6)=LL at *;generalize (zk rows z6 rows.length).map D.int=WW at *;simp![YH,e1]
 obtain⟨σ',e2,T,x3,x4,x5,x6,x7,tl,so,rfl⟩:=tW (g:=vV 3 4) (b:=TR) (λi σ=>∃(T:Str) (x3 x4 x5 x6 x7:Option Sl),T.length<=7100*i/\So rows z6 T i/\σ=[some (false,.lst ((zk rows z6 rows.length).map D.int)),some (false,.int c),some (false,.str T),x3,x4,x5,x6,x7]) (ds:=numbered ((yS rows z6 rows.length).map (xL rows z6))) (σ:=[some (false,.lst ((zk rows z6 rows.length).map D.int)),some (false,.int c),some (false,.str ""),none,none,none,none,none]) 0 ⟨"",none,none,none,none,none,by decide,HN,rfl⟩ (by
  rintro i v σ hv ⟨T,x3,x4,x5,x6,x7,tl,so,rfl⟩;rw[wq]at *;rw[LX,wM]at hv;cases g:(yS rows z6 rows.length)[i]? with
  |none=>rw[g]at hv; cases hv
  |some p=>
   rw[g]at hv;cases hv;have il:=(xT.mp g).1;obtain⟨t,y5,y6,y7,tl',sg,st⟩:=AX W g T tl c (some (false,.lst ((zk rows z6 rows.length).map D.int))) x5 x6 x7;exact⟨_,_,rfl,.inl st,T++t,_,_,y5,y6,y7,by rw[ye]; omega,HM W so (by omega) sg,rfl⟩)
 rw[WH,yK,wq]at tl so;rw[ll]at so;refine⟨T,?_,by omega,HL so⟩;rw[Rg];unfold O5;generalize numbered ((yS rows z6 rows.length).map (xL rows z6))=NN at *;generalize (zk rows z6 rows.length).map D.int=WW at *;simp![en,e2]
end
noncomputable def L7:FS:=(zt (tG (ZP (tE (g7 .int (z7 1)))) (tE (g7 .bool (z7 1))))
     (zr (eC (.bl false)))
     yJ)
noncomputable def O8:FS:=
 (zK (zt (ZP (tE (g7 .list (z7 0))))
   (zr (eC (.bl false)))
   yJ)
  (zK (wm (vy (z7 0)) (yD 1)
   L7)
  (zr (eC (.bl true)))))
noncomputable def Zp:List D->Option (Bool×D):=FR 1 2 O8
theorem Rj(x0:D):Zp [x0]=ya 2 O8 [x0]:=rfl
noncomputable def TM:FS:=(zK (vX 4 (g6 p8 (zB (z7 3) zF)))
    (zK (zt (tG (ZP (tE (Oa Zp (zB (vt 4) zF)))) (tE (e2 xA (vt 4) (z7 1))))
     (zr (eC (.bl false)))
     yJ)
    (wK 4 xj (eC (.int 0)))))
noncomputable def Dc:FS:=
 (zK (zY 1 (za XO (zB (z7 0) zF)))
  (zK (zY 2 (za XI (zB (z7 1) (zB (za ux (zB (z7 0) (zB (eC (.int 1)) zF))) zF))))
  (zK (zt (tE (e2 zo (e2 yL (e2 xR (za ux (zB (z7 0) (zB (eC (.int 2)) zF))) (eC (.int 3))) (eC (.int 2))) (eC (.int 1))))
   (zY 2 (vK (z7 2) xz (x_ (e2 wY (eL xq (zB (z7 2) zF)) (eL qO (zB (e2 zo (vK (z7 2) (x_ (e1 wf (eC (.int 1)))) xz) (eC (.str "\n"))) zF))))))
   yJ)
  (zK (wm (vy (ym (zB (za jo (zB (z7 1) zF)) (zB (z7 2) (zB (za jo (zB (z7 1) zF)) zF))))) (yD 3)
   TM)
  (zK (qY 4) (zr (e2 zo (g6 p8 (zB (z7 2) zF)) (z7 1))))))))
theorem ai(ws:List Int):Zp [.lst (ws.map D.int)]=some (false,.bl true):=by
 obtain⟨σ',e,x,rfl⟩:=tW (g:=yD 1) (b:=L7) (λ_ σ=>∃x,σ=[some (false,.lst (ws.map D.int)),x]) (ds:=ws.map D.int) (σ:=[some (false,.lst (ws.map D.int)),none]) 0 ⟨_,rfl⟩ (by
  rintro i v σ hv ⟨x,rfl⟩;obtain⟨w,_,rfl⟩:=v4.mp (tH hv);refine⟨_,[some (false,.lst (ws.map D.int)),some (false,.int w)],rfl,.inl ?_,_,rfl⟩;unfold L7;generalize ws.map D.int=WW at *;simp![g7,kx])
 rw[Rj];unfold O8;generalize ws.map D.int=WW at *;simp![e,g7,kx]
theorem PJ(T:Str){ws:List Int}(s ww:Option Sl)(h:LT (xw 10 T.cps.toList) 0 ws):∃T':Str,T'.length<=T.length/\LT (xw 10 T'.cps.toList) 0 ws/\vK (z7 2) xz (x_ (e2 wY (eL xq (zB (z7 2) zF)) (eL qO (zB (e2 zo (vK (z7 2) (x_ (e1 wf (eC (.int 1)))) xz) (eC (.str "\n"))) zF)))) [s,ww,some (false,.str T),none,none]=some (.str T'):=by
 have c1:pH (.str T) (some (-1)) none=some (.str (L2.cutS T (some (-1)) none)):=rfl;have q:zo (.str (L2.cutS T (some (-1)) none)) (.str "\n")=some (.bl (L2.cutS T (some (-1)) none == "\n")):=rfl;cases hb:(L2.cutS T (some (-1)) none == "\n")with
 |false=>
  rw[hb]at q
  have e:L2.cutS T none (some ((T.length:Int)-0))=T:=by
   unfold L2.cutS;rw[Bg,HT.sIx_nat];show(⟨((T.cps.toList.drop 0).take (min T.length T.length-0)).toArray⟩:Str)=T;rw[J0,qm,JC,show T.length=T.cps.toList.length from(uq).symm,Za]
  have c2:pH (.str T) none (some ((T.length:Int)-0))=some (.str T):=by
   show some (D.str (L2.cutS T none (some ((T.length:Int)-0))))=_;rw[e]
  refine⟨T,y0 _,h,?_⟩;simp![vK,xz,x_,c1,q,c2];exact c2
 |true=>
  rw[hb]at q;have hb:=eq_of_beq hb;have hb:((T.cps.toList.drop ((-1+(T.length:Int)).toNat)).take (T.length-(-1+(T.length:Int)).toNat))=[10]:=congrArg (λz:Str=>z.cps.toList) hb;have tl:T.cps.toList.length=T.length:=uq
  have n1:1<=T.length:=by
   rcases Nat.eq_zero_or_pos T.length with z|z
   ·rw[z]at hb tl;rw[List.length_eq_zero_iff.mp tl]at hb;exact absurd hb (by decide)
   ·exact z
  have nn:(-1+(T.length:Int)).toNat=T.length-1:=by omega
  rw[nn,show T.length-(T.length-1)=1 by omega]at hb;have dl:(T.cps.toList.drop (T.length-1)).length=1:=by rw[Yv]; omega
  rw[J9 (by omega)]at hb
  have e:L2.cutS T none (some ((T.length:Int)-1))=⟨(T.cps.toList.take (T.length-1)).toArray⟩:=by
   unfold L2.cutS;rw[show(T.length:Int)-1=((T.length-1:Nat):Int) by omega,HT.sIx_nat];show(⟨((T.cps.toList.drop 0).take (min (T.length-1) T.length-0)).toArray⟩:Str)=_;rw[J0,Nat.min_eq_left (by omega),JC]
  have c2:pH (.str T) none (some ((T.length:Int)-1))=some (.str ⟨(T.cps.toList.take (T.length-1)).toArray⟩):=by
   show some (D.str (L2.cutS T none (some ((T.length:Int)-1))))=_;rw[e]
  refine⟨⟨(T.cps.toList.take (T.length-1)).toArray⟩,?_,?_,?_⟩
  ·show(T.cps.toList.take (T.length-1)).toArray.size<=_;rw[yo,qi];omega
  ·show LT (xw 10 (T.cps.toList.take (T.length-1))) 0 ws
   have sp:xw 10 T.cps.toList=xw 10 (T.cps.toList.take (T.length-1))++[[]]:=by
    rw[<-List.take_append_drop (T.length-1) T.cps.toList,hb];rw[Yj];rw[List.take_append_of_le_length (by rw[qi]; omega),List.take_take,qm];rfl
   rw[sp]at h;exact h.cut
  ·simp![vK,xz,x_,c1,q,c2];exact c2
section
variable{rows:List D}{z6:List Nat}(W:Wr rows z6)
include W
theorem C9{T:Str}{WW:List D}(s lo x4:Option Sl)(hr:p8 [.str T]=some (true,.lst WW))(hn:Zp [.lst WW]=some (false,.bl true))(hq:xA (.lst WW) (.lst WW)=some (.bl false))(ha:xj (.lst WW) (.int 0)=some (.lst (WW++[.int 0]))):TM [s,some (false,.lst WW),lo,some (false,.str T),x4]=some (.nx [s,some (false,.lst WW),lo,some (false,.str T),some (true,.lst (WW++[.int 0]))]):=by
 unfold TM;have fl:yY (.bl true)=true:=rfl;simp![hr,Oa,hn,fl,wc,hq,ha]
end
theorem fK:∀ns:List Int,ns.length<=63->(∀m∈ns,kA m<=1048576)->∃o,ya 5 Dc [.lst (ns.map D.int)]=some (o,.bl true):=λns hl hb=>by
 refine⟨false,?_⟩;obtain⟨rows,items,h1,h2,_,_,_,eb⟩:=Nt ns;have ec:=Y4 ns (k:=2) (by omega);have ec1:=Y4 ns (k:=1) (by omega);generalize uW ns 1=c1 at ec1;generalize uW ns 2=c at ec;generalize D.lst (ns.map D.int)=s at eb ec ec1 ⊢;obtain⟨far0,R,k,j0,hR,ea⟩:=NV h2 (by omega) c (c%3);have W:Wr rows R:=⟨h2,by omega,Ge hR,λi hi=>Gd hR j0 i (Sa.mp hi)⟩;have el:=AM W;have i0:zI (.tup [.lst rows,.lst items]) (.int 0)=some (.lst rows):=rfl;have fm:yL (.int c) (.int 3)=some (.int (c%3)):=rfl
 have eB:∃o,XO [s]=some (o,.lst ((zk rows R rows.length).map D.int)):=by
  rw[Rn];unfold OC;generalize (zk rows R rows.length).map D.int=WW at *;refine⟨false,?_⟩;simp![eb,i0,ec,fm,ea,el]
 obtain⟨o,eB⟩:=eB;obtain⟨T,eT,tl,lt⟩:=AW W c1
 have vl:(zk rows R rows.length).length<=126:=by
  have:=Vs W;have:=YO W;omega
 have e4:=AT W;have bk:=Ng W;have nm:=ai (zk rows R rows.length)
 have uJ:uJ 6 (.lst ((zk rows R rows.length).map D.int))=true:=u5.mpr λd hd=>by
  obtain⟨v,_,rfl⟩:=v4.mp hd;rfl
 have q1:=LK uJ;have q2:=RF uJ;have ap:=vq (L:=(zk rows R rows.length).map D.int) (r:=.int 0) (by rw[yK]; omega);have fd:xR (.int c) (.int 3)=some (.int (c/3)):=rfl;have fm2:yL (.int (c/3)) (.int 2)=some (.int (c/3%2)):=rfl
 have fin:∀T':Str,p8 [.str T']=some (true,.lst ((zk rows R rows.length).map D.int))->∀(x2:Option Sl),x2=some (false,.str T')->
   zK (wm (vy (ym (zB (za jo (zB (z7 1) zF)) (zB (z7 2) (zB (za jo (zB (z7 1) zF)) zF))))) (yD 3) TM) (zK (qY 4) (zr (e2 zo (g6 p8 (zB (z7 2) zF)) (z7 1)))) [some (false,s),some (false,.lst ((zk rows R rows.length).map D.int)),x2,none,none]=some (.rt false (.bl true)):=λT' hT x2 hx=>by
  subst hx;have s1:=λx4=>C9 W (some (false,s)) (some (false,.str T')) x4 bk nm q1 ap
  have s2:=λx4=>C9 W (some (false,s)) (some (false,.str T')) x4 hT nm q1 ap
  generalize (zk rows R rows.length).map D.int=WW at *;generalize vI ((yS rows R rows.length).map (xX rows R))=CC at *;simp![e4,s1,s2,hT,q2]
 unfold Dc;by_cases hc:c/3%2=1
 ·have qc:zo (.int (c/3%2)) (.int 1)=some (.bl true):=by rw[hc]; rfl
  obtain⟨T',tl',lt',ct⟩:=PJ T (some (false,s)) (some (false,.lst ((zk rows R rows.length).map D.int))) lt;have f1:=fin T' (Lw lt' (by omega) (by omega)) _ rfl;generalize (zk rows R rows.length).map D.int=WW at *
  have sq:∀(a b:FS)(σ σ':yT),a σ=some (.nx σ')->zK a b σ=b σ':=λa b σ σ' h=>by
   show(a σ).bind _=_;rw[h];rfl
  show((zK _ _ [some (false,s),none,none,none,none]).bind _)=_;rw[sq _ _ _ [some (false,s),some (false,.lst WW),none,none,none] (by simp![eB]),sq _ _ _ [some (false,s),some (false,.lst WW),some (false,.str T),none,none] (by simp![ec1,eT]),sq _ _ _ [some (false,s),some (false,.lst WW),some (false,.str T'),none,none] (by simp![ec,fd,fm2,qc,ct]),f1];rfl
 ·have qc:zo (.int (c/3%2)) (.int 1)=some (.bl false):=by rw[show c/3%2=0 by omega]; rfl
  have f1:=fin T (Lw lt (by omega) (by omega)) _ rfl;generalize (zk rows R rows.length).map D.int=WW at *
  have sq:∀(a b:FS)(σ σ':yT),a σ=some (.nx σ')->zK a b σ=b σ':=λa b σ σ' h=>by
   show(a σ).bind _=_;rw[h];rfl
  show((zK _ _ [some (false,s),none,none,none,none]).bind _)=_;rw[sq _ _ _ [some (false,s),some (false,.lst WW),none,none,none] (by simp![eB]),sq _ _ _ [some (false,s),some (false,.lst WW),some (false,.str T),none,none] (by simp![ec1,eT]),sq _ _ _ [some (false,s),some (false,.lst WW),some (false,.str T),none,none] (by simp![ec,fd,fm2,qc]),f1];rfl
end L3
local macro_rules
 | `(tactic| ac_rfl)=>`(tactic| exact⟨rfl,rfl,rfl,by decide +kernel,rfl,by decide +kernel,by decide +kernel⟩)
namespace My
open PySem L2 L3
set_option maxHeartbeats 4000000
noncomputable def top(i:Nat):Stmt:=PySem.Challenge.pw_markrun_k63_whole_listings_read_back.main.body.getD i (.Pass ⟨0,0,0,0⟩)
section
variable{P:Program}{w:World}{K:W.Frag}{mg:Str->Option Value}{base:Heap}{qt:Addr}{jY:Addr}{jZ:Addr}{ja:Addr}{qq:Addr}{qu:Addr}{qr:Addr}{j4:Addr}
noncomputable abbrev HT:=Program->World->W.Frag->(Str->Option Value)->Heap->Prop
section
variable{h:Heap}(X:K.In h)(G:h.Ns mainGlobals mg)
noncomputable abbrev Mi:Stmt:=top 7
theorem h7:yP ["word", "low", "width"] ["word", "low", "width"] (zx Mi):=by ac_rfl
noncomputable def IL:HT:=λP w K mg base=>yQ P w K mg base "part" ["word", "low", "width"] 1 (yU K gu)
include X G in
theorem bm(a:zX K "part" Mi):IL P w K mg base:=(a.d3 X G).oS P w base 0 gu h7 yg λhr=>(zS (zy (zJ Ec LZ (zJ cP bu (zA 0) (zA 1)) (zJ v_ vz (zJ WK WJ zE (zA 2)) zE))))
noncomputable abbrev Mt:Stmt:=top 8
theorem Gs:yP ["word", "low", "width", "number", "there"] ["word", "low", "width", "number"] (zx Mt):=by ac_rfl
noncomputable def IY:HT:=λP w K mg base=>yQ P w K mg base "with_part" ["word", "low", "width", "number"] 1 (yU K Zu)
include X G in
theorem c8(a:zX K "with_part" Mt):IY P w K mg base:=(a.d4 X G).oS P w base 0 Zu Gs fM λhr=>(zN (ze (i:=4) Gs.nd rfl (Or.inl rfl) (zJ WK WJ (zJ v_ vz (zJ WK WJ zE (zA 2)) zE) (zA 1))) (zS (zy (zJ cO LZ (zJ Ec LZ (zA 0) (uL ou ot (zA 4))) (zJ WK WJ (zA 3) (zA 1))))))
noncomputable abbrev Mn:Stmt:=top 9
theorem Go:yP ["number", "width", "power"] ["number", "width"] (zx Mn):=by ac_rfl
noncomputable def IR:HT:=λP w K mg base=>yQ P w K mg base "signed" ["number", "width"] 1 (yU K jp)
include X G in
theorem bv(a:zX K "signed" Mn):IR P w K mg base:=(a.d2 X G).oS P w base 0 jp Go yg λhr=>(zN (ze (i:=2) Go.nd rfl (Or.inl rfl) (zJ WK WJ zE (zA 1))) (zS (zy (gQ (zu vf xb (zH (zJ pT Ea zE (zA 0))) (zH (zA 2)) (z_ _)) (zA 0) (zJ v_ vz (zA 0) (zA 2))))))
noncomputable abbrev M9:Stmt:=top 13
theorem fW:yP ["word"] ["word"] (zx M9):=by ac_rfl
variable(kI:xU mg "SIGN_LOWS" (.ref j4))(ZA:∀H,zf K H YE (.ref j4))(gC:xU mg "SIGNS" (.str "0123456789abcdef"))(gK:∀H,zf K H (.str "0123456789abcdef") (.str "0123456789abcdef"))(kW:IL P w K mg base)
noncomputable def Je:HT:=λP w K mg base=>yQ P w K mg base "hex_text" ["word"] 2 (yU K XE)
include X G kI ZA gC gK kW in
theorem a_(a:zX K "hex_text" M9):Je P w K mg base:=(a.d1 X G).oS P w base 1 XE fW yg λhr=>(zS (zy (Wd zU (zH (y_ (pV rfl (uV (own:=["low"]) rfl) (tj (pU kI ZA rfl)) (t3 (λC s H fp pn=>(xM (i:=1) (show(vT ["word"] ["low"]).Nodup by decide +kernel) rfl (Or.inl rfl))) rfl) (λC s H fp pn=>ZM) (λC s H fp pn=>(zi (zg (zZ hr)) zh (pU gC gK rfl) (zp kW hr rfl (zC (zA 0) (zC (zA 1) (zC zE zO))))))))))))
noncomputable abbrev MB:Stmt:=top 24
theorem fY:yP ["item"] ["item"] (zx MB):=by ac_rfl
noncomputable def Jg:HT:=λP w K mg base=>yQ P w K mg base "is_label" ["item"] 1 (yU K j5)
include X G in
theorem b7(a:zX K "is_label" MB):Jg P w K mg base:=(a.d1 X G).oS P w base 0 j5 fY yg λhr=>(zS (zy (jN (wE (xF hr)) wD (zH (zi (zg (zZ hr)) zh (zA 0) zE)) (zH zU) (z_ _))))
noncomputable abbrev M5:Stmt:=top 27
theorem fU:yP ["field", "held"] ["field", "held"] (zx M5):=by ac_rfl
variable(w_:mg "str" = none)
noncomputable def Ja:HT:=λP w K mg base=>yQ P w K mg base "field_text" ["field", "held"] 1 (yU K jg)
include X G w_ in
theorem au(a:zX K "field_text" M5):Ja P w K mg base:=(a.d2 X G).oS P w base 0 jg fU yg λhr=>(zN (yN (zu (wE (xF hr)) wD (zH (zA 0)) (zH zU) (z_ _)) (zS (zy (uj jy gH rfl w_ jx (yz (zH (zA 1)) xB)))) yX) (zN (yN (qg (gX (zu (wE (xF hr)) wD (zH (zA 0)) (zH zU) (z_ _)) (gY (zu (wE (xF hr)) wD (zH (zA 0)) (zH zU) (z_ _))))) (zS (zy (hW (HG zU (HG (hV (zA 1)) iJ))))) yX) (zS (zy (zA 1)))))
noncomputable abbrev MD:Stmt:=top 26
theorem Gj:yP ["item", "fields"] ["item"] (zx MD):=by ac_rfl
variable(ZU:mg "zip" = none)(kH:xU mg "FIELDS" (.ref jY))(Z9:u9 K w jY pJ pK)(Ug:Jg P w K mg base)(Ub:Ja P w K mg base)
noncomputable def Ji:HT:=λP w K mg base=>yQ P w K mg base "item_text" ["item"] 2 (yU K jh)
include X G ZU kH Z9 Ug Ub in
theorem b9(a:zX K "item_text" MD):Ji P w K mg base:=(a.d1 X G).oS P w base 1 jh Gj yg λhr=>(zN (yN (pW (zp Ug hr rfl (zC (zA 0) zO))) (zS (zy (zJ yH yG (zi (zg (zZ hr)) zh (zA 0) zE) zU))) yX) (zN (ze (i:=1) Gj.nd rfl (Or.inl rfl) (qe kH Z9 rfl (zi (zg (zZ hr)) zh (zA 0) zE))) (zS (zy (Wd zU (zH (zJ yH yG (y_ (xG (zC (zi (zg (zZ hr)) zh (zA 0) zE) zO) (yC (zL yF) (by decide)))) (y_ (pV rfl (uV (own:=["field", "held"]) rfl) (HE rfl ZU (zA 1) (Yi (zA 0) (gU zE) gT)) (Ni (λC s H fp pn=>(YY (n:=2) rfl (tD (xM (i:=2) (show(vT ["item", "fields"] ["field", "held"]).Nodup by decide +kernel) rfl (Or.inl rfl)) (tD (xM (i:=3) (show(vT ["item", "fields"] ["field", "held"]).Nodup by decide +kernel) rfl (Or.inl rfl)) YZ)))) rfl rfl) (λC s H fp pn=>ZM) (λC s H fp pn=>(zp Ub hr rfl (zC (zA 2) (zC (zA 3) zO)))))))))))))
noncomputable abbrev Mj:Stmt:=top 29
theorem h8:yP ["kind", "field"] ["kind", "field"] (zx Mj):=by ac_rfl
variable(UN:xU mg "NUMBER_WIDTHS" (.ref jZ))(Tu:u9 K w jZ Oo Ou)(UM:xU mg "NUMBER_LOW" (.int 0))(Tt:∀H,zf K H (.int 0) (.int 0))(vx:xU mg "PLACES" (.ref ja))(u0:u9 K w ja uF uG)
noncomputable def IM:HT:=λP w K mg base=>yQ P w K mg base "place_in_word" ["kind", "field"] 1 (yU K xi)
include X G UN Tu UM Tt vx u0 in
theorem bo(a:zX K "place_in_word" Mj):IM P w K mg base:=(a.d2 X G).oS P w base 0 xi h8 yg λhr=>(zN (yN (zu (wE (xF hr)) wD (zH (zA 1)) (zH zU) (z_ _)) (zS (zy (xc (zC (pU UM Tt rfl) (zC (qe UN Tu rfl (zA 0)) zO)) (yC (zL (zL yF)) (by decide))))) yX) (zS (zy (qe vx u0 rfl (zA 1)))))
noncomputable abbrev Mh:Stmt:=top 30
theorem f_:yP ["word", "place"] ["word", "place"] (zx Mh):=by ac_rfl
noncomputable def IK:HT:=λP w K mg base=>yQ P w K mg base "number_at" ["word", "place"] 2 (yU K q_)
include X G kW in
theorem bj(a:zX K "number_at" Mh):IK P w K mg base:=(a.d2 X G).oS P w base 1 q_ f_ yg λhr=>(zS (zy (zp kW hr rfl (zC (zA 0) (zC (zi (zg (zZ hr)) zh (zA 1) zE) (zC (zi (zg (zZ hr)) zh (zA 1) zE) zO))))))
noncomputable abbrev Ms:Stmt:=top 31
theorem h9:yP ["word", "place", "number"] ["word", "place", "number"] (zx Ms):=by ac_rfl
variable(T3:IY P w K mg base)
noncomputable def IX:HT:=λP w K mg base=>yQ P w K mg base "with_number" ["word", "place", "number"] 2 (yU K tL)
include X G T3 in
theorem c7(a:zX K "with_number" Ms):IX P w K mg base:=(a.d3 X G).oS P w base 1 tL h9 yg λhr=>(zS (zy (zp T3 hr rfl (zC (zA 0) (zC (zi (zg (zZ hr)) zh (zA 1) zE) (zC (zi (zg (zZ hr)) zh (zA 1) zE) (zC (zA 2) zO)))))))
noncomputable abbrev M6:Stmt:=top 32
theorem fV:yP ["kind"] ["kind"] (zx M6):=by ac_rfl
noncomputable def Jb:HT:=λP w K mg base=>yQ P w K mg base "fields_in_word" ["kind"] 1 (yU K wP)
include X G kH Z9 in
theorem av(a:zX K "fields_in_word" M6):Jb P w K mg base:=(a.d1 X G).oS P w base 0 wP fV yg λhr=>(zS (Wf (pV rfl (uV (own:=["field"]) rfl) (tj (qe kH Z9 rfl (zA 0))) (t3 (λC s H fp pn=>(xM (i:=1) (show(vT ["kind"] ["field"]).Nodup by decide +kernel) rfl (Or.inl rfl))) rfl) (λC s H fp pn=>(ZN (zu (ug (xF hr)) ue (zH (zA 1)) (zH zU) (z_ _)))) (λC s H fp pn=>(zA 1)))))
noncomputable abbrev M7:Stmt:=top 33
theorem Yc:yP ["row", "code", "word", "field", "held", "number"] ["row", "code"] (zx M7):=by ac_rfl
variable(gA:xU mg "MARKS" (.ref qt))(gJ:∀H,zf K H kL (.ref qt))(TF:Vo K qt)(gD:IX P w K mg base)(kP:Jb P w K mg base)(kX:IM P w K mg base)
noncomputable def Jc:HT:=λP w K mg base=>yQ P w K mg base "first_word" ["row", "code"] 3 (yU K uw)
include X G ZU vx u0 gA gJ TF gD kP kX in
theorem ax(a:zX K "first_word" M7):Jc P w K mg base:=(a.d2 X G).oS P w base 2 uw Yc yg λhr=>(zN (ze (i:=2) Yc.nd rfl (Or.inl rfl) (zp gD hr rfl (zC zE (zC (qe vx u0 rfl zU) (zC (zA 1) zO))))) (zN (uN vP rfl (HE rfl ZU (y_ (QB kP hr rfl (zC (zi (zg (zZ hr)) zh (zA 0) zE) zO))) (Gw (zA 0) (gU zE) gT)) (QC (YY (n:=2) rfl (tD (xM (i:=3) Yc.nd rfl (Or.inl rfl)) (tD (xM (i:=4) Yc.nd rfl (Or.inl rfl)) YZ))) rfl rfl) (zN (ze (i:=5) Yc.nd rfl (Or.inl rfl) (gQ (zu (wE (xF hr)) wD (zH (zA 3)) (zH zU) (z_ _)) (hX gA gJ TF rfl (zA 4)) (zA 4))) (zS (ze (i:=2) Yc.nd rfl (Or.inl rfl) (zp gD hr rfl (zC (zA 2) (zC (zp kX hr rfl (zC (zi (zg (zZ hr)) zh (zA 0) zE) (zC (zA 3) zO))) (zC (zA 5) zO)))))))) (zS (zy (zA 2)))))
noncomputable abbrev M3:Stmt:=top 34
theorem fS:yP ["word"] ["word"] (zx M3):=by ac_rfl
variable(pM:IK P w K mg base)
noncomputable def JY:HT:=λP w K mg base=>yQ P w K mg base "code_in" ["word"] 3 (yU K vn)
include X G vx u0 pM in
theorem aq(a:zX K "code_in" M3):JY P w K mg base:=(a.d1 X G).oS P w base 2 vn fS yg λhr=>(zS (zy (zp pM hr rfl (zC (zA 0) (zC (qe vx u0 rfl zU) zO)))))
noncomputable abbrev ME:Stmt:=top 35
theorem Gk:yP ["code", "found"] ["code"] (zx ME):=by ac_rfl
variable(Xo:xU mg "CODES" (.ref qq))(Ts:u9 K w qq pI jF)(gB:xU mg "NEAR_CODES" (.ref qu))(YX:u9 K w qu kK kN)(g9:xU mg "FAR_CODES" (.ref qr))(YW:u9 K w qr kJ kM)(UB:tO K w qq pI Xv)(Ls:∀H,Reps K H jF Xv)(kD:tO K w qu kK Xx)(Yb:∀H,Reps K H kN Xx)(kC:tO K w qr kJ Xw)(Ya:∀H,Reps K H kM Xw)
noncomputable def Jj:HT:=λP w K mg base=>yQ P w K mg base "kind_of_code" ["code"] 1 (yU K ji)
include X G Xo Ts gB YX g9 YW UB Ls kD Yb kC Ya in
theorem bA(a:zX K "kind_of_code" ME):Jj P w K mg base:=(a.d1 X G).oS P w base 0 ji Gk yg λhr=>(zN (lF (i:=1) rfl Gk.nd rfl rfl (uV (own:=["kind"]) rfl) rfl (B6 Xo UB rfl (by decide) (by decide)) (t3 (λC s H fp pn=>(xM (i:=2) (show(vT ["code", "found"] ["kind"]).Nodup by decide +kernel) rfl (Or.inl rfl))) rfl) (λC s H fp pn=>(ZN (zu (wE (xF hr)) wD (zH (qe Xo Ts rfl (zA 2))) (zH (zA 0)) (z_ _)))) (λC s H fp pn=>(zA 2))) (zN (HY (qv 1) (pV rfl (uV (own:=["kind"]) rfl) (B6 gB kD rfl (by decide) (by decide)) (t3 (λC s H fp pn=>(xM (i:=2) (show(vT ["code", "found"] ["kind"]).Nodup by decide +kernel) rfl (Or.inl rfl))) rfl) (λC s H fp pn=>(ZN (zu (wE (xF hr)) wD (zH (qe gB YX rfl (zA 2))) (zH (zA 0)) (z_ _)))) (λC s H fp pn=>(zA 2)))) (zN (HY (qv 1) (pV rfl (uV (own:=["kind"]) rfl) (B6 g9 kC rfl (by decide) (by decide)) (t3 (λC s H fp pn=>(xM (i:=2) (show(vT ["code", "found"] ["kind"]).Nodup by decide +kernel) rfl (Or.inl rfl))) rfl) (λC s H fp pn=>(ZN (zu (wE (xF hr)) wD (zH (qe g9 YW rfl (zA 2))) (zH (zA 0)) (z_ _)))) (λC s H fp pn=>(zA 2)))) (Yk 1 (zS (zy (gQ (zu (wE (xF hr)) wD (zH (zA 1)) (zH (y_ (xG zO (yC yF (by decide))))) (z_ _)) wV (zi (zg (zZ hr)) zh (zA 1) zE))))))))
noncomputable abbrev MC:Stmt:=top 36
theorem fZ:yP ["code"] ["code"] (zx MC):=by ac_rfl
variable(pY:mg "list" = none)
noncomputable def Jh:HT:=λP w K mg base=>yQ P w K mg base "is_near_code" ["code"] 1 (yU K qD)
include X G pY gB YX kD Yb in
theorem b8(a:zX K "is_near_code" MC):Jh P w K mg base:=(a.d1 X G).oS P w base 0 qD fZ yg λhr=>(zS (zy (jN (uf (zZ hr)) ud (zH (zA 0)) (zH (y_ (HA rfl rfl pY gB kD rfl Yb (by decide)))) (by with_unfolding_all rfl))))
noncomputable abbrev MA:Stmt:=top 37
theorem fX:yP ["code"] ["code"] (zx MA):=by ac_rfl
noncomputable def Jf:HT:=λP w K mg base=>yQ P w K mg base "is_far_code" ["code"] 1 (yU K tK)
include X G pY g9 YW kC Ya in
theorem b6(a:zX K "is_far_code" MA):Jf P w K mg base:=(a.d1 X G).oS P w base 0 tK fX yg λhr=>(zS (zy (jN (uf (zZ hr)) ud (zH (zA 0)) (zH (y_ (HA rfl rfl pY g9 kC rfl Ya (by decide)))) (by with_unfolding_all rfl))))
noncomputable abbrev M8:Stmt:=top 39
theorem Gi:yP ["word", "kind", "field", "number"] ["word", "kind", "field"] (zx M8):=by ac_rfl
variable(yO:mg "len" = none)
noncomputable def Jd:HT:=λP w K mg base=>yQ P w K mg base "held_in" ["word", "kind", "field"] 3 (yU K wu)
include X G yO gA gJ pM kX in
theorem ay(a:zX K "held_in" M8):Jd P w K mg base:=(a.d3 X G).oS P w base 2 wu Gi yg λhr=>(zN (ze (i:=3) Gi.nd rfl (Or.inl rfl) (zp pM hr rfl (zC (zA 0) (zC (zp kX hr rfl (zC (zA 1) (zC (zA 2) zO))) zO)))) (zN (yN (zu (ug (xF hr)) ue (zH (zA 2)) (zH zU) (z_ _)) (zS (zy (zA 3))) yX) (zS (zy (gQ (zu vf xb (zH (zA 3)) (zH (wU we wg rfl yO wd (yz (zH (pU gA gJ rfl)) xB))) (z_ _)) (zi (zg (zZ hr)) zh (pU gA gJ rfl) (zA 3)) wV)))))
noncomputable abbrev Mm:Stmt:=top 38
theorem Wb:yP ["word", "code", "kind", "row", "known"] ["word"] (zx Mm):=by ac_rfl
variable(Qr:mg "tuple" = none)(kO:JY P w K mg base)(Ui:Jj P w K mg base)(Ud:Jd P w K mg base)(kQ:Jh P w K mg base)(Uc:Jc P w K mg base)
noncomputable def IQ:HT:=λP w K mg base=>yQ P w K mg base "row_in" ["word"] 4 (yU K v8)
include X G Qr vx u0 kO Ui kP Ud kQ gD Uc in
theorem br(a:zX K "row_in" Mm):IQ P w K mg base:=(a.d1 X G).oS P w base 3 v8 Wb yg λhr=>(zN (ze (i:=1) Wb.nd rfl (Or.inl rfl) (zp kO hr rfl (zC (zA 0) zO))) (zN (ze (i:=2) Wb.nd rfl (Or.inr rfl) (zp Ui hr rfl (zC (zA 1) zO))) (zN (yN (zu Ld La (zH (zA 2)) (zH wV) (z_ _)) (zS (zy wV)) yX) (zN (ze (i:=3) Wb.nd rfl (Or.inl rfl) (hU P5 b_ rfl Qr Nn (zC (zJ yH yG (y_ (xG (zC (zA 2) zO) (yC (zL yF) (by decide)))) (y_ (pV rfl (uV (own:=["field"]) rfl) (tj (y_ (QB kP hr rfl (zC (zA 2) zO)))) (t3 (λC s H fp pn=>(xM (i:=5) (show(vT ["word", "code", "kind", "row", "known"] ["field"]).Nodup by decide +kernel) rfl (Or.inl rfl))) rfl) (λC s H fp pn=>ZM) (λC s H fp pn=>(zp Ud hr rfl (zC (zA 0) (zC (zA 2) (zC (zA 5) zO)))))))) zO))) (zN (yN (zu (uf (zZ hr)) ud (zH wV) (zH (zA 3)) (by with_unfolding_all rfl)) (zS (zy wV)) yX) (zN (ze (i:=4) Wb.nd rfl (Or.inl rfl) (gQ (pW (zp kQ hr rfl (zC (zA 1) zO))) (zp gD hr rfl (zC (zA 0) (zC (qe vx u0 rfl zU) (zC zE zO)))) (zA 0))) (zS (zy (gQ (zu (wE (xF hr)) wD (zH (zp Uc hr rfl (zC (zA 3) (zC (zA 1) zO)))) (zH (zA 4)) (z_ _)) (zA 3) wV)))))))))
noncomputable abbrev M4:Stmt:=top 42
theorem fT:yP ["words", "address", "row"] ["words", "address", "row"] (zx M4):=by ac_rfl
variable(UO:xU mg "WORD_BITS" (.int 32))(Tv:∀H,zf K H (.int 32) (.int 32))(kY:IR P w K mg base)
noncomputable def JZ:HT:=λP w K mg base=>yQ P w K mg base "far_at" ["words", "address", "row"] 2 (yU K Zm)
include X G yO UO Tv kY in
theorem ar(a:zX K "far_at" M4):JZ P w K mg base:=(a.d3 X G).oS P w base 1 Zm fT yg λhr=>(zN (yN (zu Ee xb (zH (zJ yH yG (zA 1) zE)) (zH (wU we wg rfl yO wd (yz (zH (zA 0)) xB))) (z_ _)) (zS (zy wV)) yX) (zS (zy (xc (zC (zA 2) (zC (zJ yH yG (zA 1) zE) (zC (zJ yH yG (zA 1) (zp kY hr rfl (zC (zi (zg (zZ hr)) zh (zA 0) (zJ yH yG (zA 1) zE)) (zC (pU UO Tv rfl) zO)))) zO))) (yC (zL (zL (zL yF))) (by decide))))))
noncomputable abbrev Mp:Stmt:=top 41
theorem Q8:yP ["words", "address", "row", "code", "place"] ["words", "address"] (zx Mp):=by ac_rfl
variable(T0:IQ P w K mg base)(Uf:Jf P w K mg base)(Ua:JZ P w K mg base)
noncomputable def IU:HT:=λP w K mg base=>yQ P w K mg base "told_at" ["words", "address"] 5 (yU K u8)
include X G yO vx u0 T0 kO Uf Ua kQ kY pM in
theorem bx(a:zX K "told_at" Mp):IU P w K mg base:=(a.d2 X G).oS P w base 4 u8 Q8 yg λhr=>(zN (yN (qg (gX (zu vf xb (zH (zA 1)) (zH zE) (z_ _)) (gY (zu Ee xb (zH (zA 1)) (zH (wU we wg rfl yO wd (yz (zH (zA 0)) xB))) (z_ _))))) (zS (zy wV)) yX) (zN (ze (i:=2) Q8.nd rfl (Or.inl rfl) (zp T0 hr rfl (zC (zi (zg (zZ hr)) zh (zA 0) (zA 1)) zO))) (zN (yN (zu Ld La (zH (zA 2)) (zH wV) (z_ _)) (zS (zy wV)) yX) (zN (ze (i:=3) Q8.nd rfl (Or.inl rfl) (zp kO hr rfl (zC (zi (zg (zZ hr)) zh (zA 0) (zA 1)) zO))) (zN (yN (pW (zp Uf hr rfl (zC (zA 3) zO))) (zS (zy (zp Ua hr rfl (zC (zA 0) (zC (zA 1) (zC (zA 2) zO)))))) yX) (zN (yN (pW (zp kQ hr rfl (zC (zA 3) zO))) (zN (ze (i:=4) Q8.nd rfl (Or.inl rfl) (qe vx u0 rfl zU)) (zS (zy (xc (zC (zA 2) (zC (zJ yH yG (zA 1) zE) (zC (zJ yH yG (zA 1) (zp kY hr rfl (zC (zp pM hr rfl (zC (zi (zg (zZ hr)) zh (zA 0) (zA 1)) (zC (zA 4) zO))) (zC (zi (zg (zZ hr)) zh (zA 4) zE) zO)))) zO))) (yC (zL (zL (zL yF))) (by decide)))))) yX) (zS (zy (xc (zC (zA 2) (zC (zJ yH yG (zA 1) zE) (zC wV zO))) (yC (zL (zL (zL yF))) (by decide)))))))))))
noncomputable abbrev Mr:Stmt:=top 45
theorem Yg:yP ["words", "table", "address", "told"] ["words"] (zx Mr):=by ac_rfl
variable(W4:IU P w K mg base)
noncomputable def IW:HT:=λP w K mg base=>yQ P w K mg base "walked" ["words"] 6 (yU K Zt)
include X G W4 in
theorem c5(a:zX K "walked" Mr):IW P w K mg base:=(a.d1 X G).oS P w base 5 Zt Yg yg λhr=>(zN (tF (i:=1) Yg.nd rfl (Or.inl rfl) G_) (zN (ze (i:=2) Yg.nd rfl (Or.inl rfl) zE) (zN (ze (i:=3) Yg.nd rfl (Or.inl rfl) (zp W4 hr rfl (zC (zA 0) (zC (zA 2) zO)))) (zN (B7 vP (zu Tp Tl (zH (zA 3)) (zH wV) (z_ _)) (zN (HW (zZ hr) (qv 1) (zA 2) (zA 3)) (zN (ze (i:=2) Yg.nd rfl (Or.inl rfl) (zi (zg (zZ hr)) zh (zA 3) zE)) (zS (ze (i:=3) Yg.nd rfl (Or.inl rfl) (zp W4 hr rfl (zC (zA 0) (zC (zA 2) zO)))))))) (zS (ZL 1))))))
noncomputable abbrev M2:Stmt:=top 46
theorem fR:yP ["table"] ["table"] (zx M2):=by ac_rfl
variable(ZT:mg "max" = none)
noncomputable def JX:HT:=λP w K mg base=>yQ P w K mg base "behind" ["table"] 1 (yU K XD)
include X G ZT in
theorem ao(a:zX K "behind" M2):JX P w K mg base:=(a.d1 X G).oS P w base 0 XD fR yg λhr=>(zS (zy (i4 rfl rfl ZT (y_ (iA (i9 rfl (uV (own:=["told"]) rfl) (iH (i:=0) rfl (by first|exact Or.inl rfl|exact Or.inr (Or.inl rfl)|exact Or.inr (Or.inr rfl))) (t3 (λC s H fp pn=>(xM (i:=1) (show(vT ["table"] ["told"]).Nodup by decide +kernel) rfl (Or.inl rfl))) rfl) (λC s H fp pn=>ZM) (λC s H fp pn=>(zi (zg (zZ hr)) zh (zA 1) zE))) (R5 (R6 0)))) zE)))
noncomputable abbrev Mu:Stmt:=top 43
theorem Yh:yP ["words", "table", "end", "address", "told", "target"] ["words"] (zx Mu):=by ac_rfl
variable(kZ:IW P w K mg base)(UZ:JX P w K mg base)
noncomputable def IZ:HT:=λP w K mg base=>yQ P w K mg base "word_fault" ["words"] 7 (yU K XT)
include X G yO kZ UZ in
theorem c9(a:zX K "word_fault" Mu):IZ P w K mg base:=(a.d1 X G).oS P w base 6 XT Yh yg λhr=>(zN (ze (i:=1) Yh.nd rfl (Or.inl rfl) (zp kZ hr rfl (zC (zA 0) zO))) (zN (ze (i:=2) Yh.nd rfl (Or.inl rfl) (zp UZ hr rfl (zC (zA 1) zO))) (zN (yN (zu (ug (xF hr)) ue (zH (zA 2)) (zH (wU we wg rfl yO wd (yz (zH (zA 0)) xB))) (z_ _)) (zS (zy (zA 2))) yX) (zN (lG (lE vP rfl (iF (i:=1) rfl (by first|exact Or.inl rfl|exact Or.inr (Or.inl rfl)|exact Or.inr (Or.inr rfl))) (QC (YY (n:=2) rfl (tD (xM (i:=3) Yh.nd rfl (Or.inl rfl)) (tD (xM (i:=4) Yh.nd rfl (Or.inl rfl)) YZ))) rfl rfl) (zN (ze (i:=5) Yh.nd rfl (Or.inl rfl) (zi (zg (zZ hr)) zh (zA 4) zE)) (zS (yN (qg (QM (zu Tp Tl (zH (zA 5)) (zH wV) (z_ _)) (QM (zu (ug (xF hr)) ue (zH (zA 5)) (zH (zA 2)) (z_ _)) (BC (zu (Le (zZ hr)) Lc (zH (zA 5)) (zH (zA 1)) (by with_unfolding_all rfl)))))) (zS (zy (zA 3))) yX)))) (R3 (R4 1))) (zS (zy wV))))))
noncomputable abbrev Mo:Stmt:=top 44
theorem Gp:yP ["words", "wrong"] ["words"] (zx Mo):=by ac_rfl
variable(T4:IZ P w K mg base)
noncomputable def IS:HT:=λP w K mg base=>yQ P w K mg base "table_of" ["words"] 8 (yU K XS)
include X G T4 kZ in
theorem bw(a:zX K "table_of" Mo):IS P w K mg base:=(a.d1 X G).oS P w base 7 XS Gp yg λhr=>(zN (ze (i:=1) Gp.nd rfl (Or.inl rfl) (zp T4 hr rfl (zC (zA 0) zO))) (zN (yN (zu Tp Tl (zH (zA 1)) (zH wV) (z_ _)) QH yX) (zS (zy (zp kZ hr rfl (zC (zA 0) zO))))))
noncomputable abbrev Mq:Stmt:=top 50
theorem Gq:yP ["told", "target"] ["told"] (zx Mq):=by ac_rfl
variable(Uh:Ji P w K mg base)
noncomputable def IV:HT:=λP w K mg base=>yQ P w K mg base "told_text" ["told"] 3 (yU K j7)
include X G w_ Uh in
theorem bz(a:zX K "told_text" Mq):IV P w K mg base:=(a.d1 X G).oS P w base 2 j7 Gq yg λhr=>(zN (ze (i:=1) Gq.nd rfl (Or.inl rfl) (zi (zg (zZ hr)) zh (zA 0) zE)) (zS (zy (zp Uh hr rfl (zC (gQ (zu Ld La (zH (zA 1)) (zH wV) (z_ _)) (zi (zg (zZ hr)) zh (zA 0) zE) (zJ yH yG (zi (zg (zZ hr)) zh (zA 0) zE) (xc (zC (uj jy gH rfl w_ jx (yz (zH (zA 1)) xB)) zO) (yC (zL yF) (by decide))))) zO)))))
noncomputable abbrev Mg:Stmt:=top 49
theorem ZI:yP ["words", "table", "rows", "address", "word", "row"] ["words"] (zx Mg):=by ac_rfl
variable(ZS:mg "enumerate" = none)(UL:xU mg "ADDRESS_SIGNS" (.int 5))(Tr:∀H,zf K H (.int 5) (.int 5))(T1:IS P w K mg base)(Ue:Je P w K mg base)(T2:IV P w K mg base)
noncomputable def IJ:HT:=λP w K mg base=>yQ P w K mg base "listing" ["words"] 9 (yU K jo)
include X G ZS w_ UL Tr T1 Ue T2 in
theorem bf(a:zX K "listing" Mg):IJ P w K mg base:=(a.d1 X G).oS P w base 8 jo ZI yg λhr=>(zN (ze (i:=1) ZI.nd rfl (Or.inl rfl) (zp T1 hr rfl (zC (zA 0) zO))) (zN (tF (i:=2) ZI.nd rfl (Or.inl rfl) (xG zO (yC yF (by decide)))) (zN (uN vP rfl (HC rfl ZS (zA 0)) (QC (YY (n:=2) rfl (tD (xM (i:=3) ZI.nd rfl (Or.inl rfl)) (tD (xM (i:=4) ZI.nd rfl (Or.inl rfl)) YZ))) rfl rfl) (zN (ze (i:=5) ZI.nd rfl (Or.inl rfl) (zJ yH yG (zJ yH yG (i5 (uj jy gH rfl w_ jx (yz (zH (zA 3)) xB)) (pU UL Tr rfl)) zU) (zp Ue hr rfl (zC (zA 4) zO)))) (zN (yN (zu (uf (zZ hr)) ud (zH (zA 3)) (zH (zA 1)) (by with_unfolding_all rfl)) (zS (ze (i:=5) ZI.nd rfl (Or.inl rfl) (zJ yH yG (zJ yH yG (zA 5) zU) (zp T2 hr rfl (zC (zi (zg (zZ hr)) zh (zA 1) (zA 3)) zO))))) yX) (zS (uM (qv 2) (zJ yH yG (zA 5) zU)))))) (Yk 2 (zS (zy (Wd zU (zH (zA 2)))))))))
noncomputable abbrev Mk:Stmt:=top 14
theorem Q6:yP ["text", "word", "sign"] ["text"] (zx Mk):=by ac_rfl
noncomputable def IN:HT:=λP w K mg base=>yQ P w K mg base "read_hex" ["text"] 1 (yU K XR)
include X G yO kI ZA gC gK in
theorem bp(a:zX K "read_hex" Mk):IN P w K mg base:=(a.d1 X G).oS P w base 0 XR Q6 yg λhr=>(zN (yN (zu (ug (xF hr)) ue (zH (wU we wg rfl yO wd (yz (zH (zA 0)) xB))) (zH (wU we wg rfl yO wd (yz (zH (pU kI ZA rfl)) xB))) (z_ _)) QH yX) (zN (ze (i:=1) Q6.nd rfl (Or.inl rfl) zE) (zN (uN vP rfl (tj (zA 0)) (tf (xM (i:=2) Q6.nd rfl (Or.inl rfl)) rfl) (zN (yN (zu (Le (zZ hr)) Lc (zH (zA 2)) (zH (pU gC gK rfl)) (by with_unfolding_all rfl)) QH yX) (zS (ze (i:=1) Q6.nd rfl (Or.inl rfl) (zJ yH yG (zJ pT gG (zA 1) zE) (i6 (pU gC gK rfl) (zA 2))))))) (zS (zy (zA 1))))))
noncomputable abbrev Mv:Stmt:=top 52
theorem hG:yP ["parts", "number"] ["parts", "number"] (zx Mv):=by ac_rfl
variable(U_:IN P w K mg base)
noncomputable def Ic:HT:=λP w K mg base=>yQ P w K mg base "word_told" ["parts", "number"] 2 (yU K XU)
include X G w_ yO U_ in
theorem cA(a:zX K "word_told" Mv):Ic P w K mg base:=(a.d2 X G).oS P w base 1 XU hG yg λhr=>(zN (yN (qg (gX (zu vf xb (zH (wU we wg rfl yO wd (yz (zH (zA 0)) xB))) (zH zE) (z_ _)) (gY (zu (ug (xF hr)) ue (zH (zi (zg (zZ hr)) zh (zA 0) zE)) (zH (uj jy gH rfl w_ jx (yz (zH (zA 1)) xB))) (z_ _))))) QH yX) (zS (lI rfl (zp U_ hr rfl (zC (zi (zg (zZ hr)) zh (zA 0) zE) zO)))))
noncomputable abbrev Ml:Stmt:=top 51
theorem Q7:yP ["text", "words", "row", "parts"] ["text"] (zx Ml):=by ac_rfl
variable(T5:Ic P w K mg base)
noncomputable def IP:HT:=λP w K mg base=>yQ P w K mg base "read_listing" ["text"] 3 (yU K p8)
include X G yO T5 in
theorem bq(a:zX K "read_listing" Ml):IP P w K mg base:=(a.d1 X G).oS P w base 2 p8 Q7 yg λhr=>(zN (tF (i:=1) Q7.nd rfl (Or.inl rfl) (xG zO (yC yF (by decide)))) (zN (uN vP rfl (tj (y_ (HB (zA 0) zU))) (tf (xM (i:=2) Q7.nd rfl (Or.inl rfl)) rfl) (zN (HZ (i:=3) rfl Q7.nd rfl rfl (uV (own:=["word"]) rfl) rfl (tj (y_ (HB (zA 2) zU))) (t3 (λC s H fp pn=>(xM (i:=4) (show(vT ["text", "words", "row", "parts"] ["word"]).Nodup by decide +kernel) rfl (Or.inl rfl))) rfl) (λC s H fp pn=>(ZN (zu (ug (xF hr)) ue (zH (zA 4)) (zH zU) (z_ _)))) (λC s H fp pn=>(zA 4))) (zS (yN (zu (ug (xF hr)) ue (zH (zA 3)) (zH (y_ (xG zO (yC yF (by decide))))) (z_ _)) (zS (uM (qv 1) (zp T5 hr rfl (zC (zA 3) (zC (wU we wg rfl yO wd (yz (Mw 1) xB)) zO))))) yX)))) (zS (ZL 1))))
noncomputable abbrev MH:Stmt:=top 54
theorem fi:yP ["_law_script", "_law_k"] ["_law_script", "_law_k"] (zx MH):=by ac_rfl
noncomputable def Jm:HT:=λP w K mg base=>yQ P w K mg base "_law_cell_at" ["_law_script", "_law_k"] 1 (yU K ux)
include X G yO in
theorem bE(a:zX K "_law_cell_at" MH):Jm P w K mg base:=(a.d2 X G).oS P w base 0 ux fi fL λhr=>(zN (yN (zu vf xb (zH (zA 1)) (zH (wU we wg rfl yO wd (yz (zH (zA 0)) xB))) (z_ _)) (zS (zy (zi (zg (zZ hr)) zh (zA 0) (zA 1)))) yX) (zS (zy zE)))
noncomputable abbrev MR:Stmt:=top 55
theorem fw:yP ["_law_cell", "_law_k"] ["_law_cell", "_law_k"] (zx MR):=by ac_rfl
noncomputable def Jv:HT:=λP w K mg base=>yQ P w K mg base "_law_mixed" ["_law_cell", "_law_k"] 1 (yU K v7)
include X G in
theorem bN(a:zX K "_law_mixed" MR):Jv P w K mg base:=(a.d2 X G).oS P w base 0 v7 fw yg λhr=>(zS (zy (zJ yl yk (zJ tY tX (zJ yl yk (zJ yH yG (zJ pT gG (zA 0) zE) (zJ pT gG (zJ yH yG (zA 1) zE) zE)) zE) zE) zE)))
noncomputable abbrev MS:Stmt:=top 56
theorem Ye:yP ["_law_k", "_law_shape", "_law_letters", "_law_tail", "_law_name", "_law_turn"] ["_law_k", "_law_shape"] (zx MS):=by ac_rfl
variable(wF:mg "range" = none)(wy:Jv P w K mg base)
noncomputable def Jw:HT:=λP w K mg base=>yQ P w K mg base "_law_name_by" ["_law_k", "_law_shape"] 2 (yU K j6)
include X G wF wy in
theorem bO(a:zX K "_law_name_by" MS):Jw P w K mg base:=(a.d2 X G).oS P w base 1 j6 Ye yg λhr=>(zN (ze (i:=2) Ye.nd rfl (Or.inr rfl) zU) (zN (ze (i:=3) Ye.nd rfl (Or.inl rfl) (Wd zU (zH (y_ (pV rfl (uV (own:=["_law_j"]) rfl) (gS rfl wF (zJ yl yk (zJ w6 w4 (zA 1) zE) zE)) (t3 (λC s H fp pn=>(xM (i:=6) (show(vT ["_law_k", "_law_shape", "_law_letters", "_law_tail", "_law_name", "_law_turn"] ["_law_j"]).Nodup by decide +kernel) rfl (Or.inl rfl))) rfl) (λC s H fp pn=>ZM) (λC s H fp pn=>(zi (zg (zZ hr)) zh (zA 2) (zJ yl yk (zp wy hr rfl (zC (zA 1) (zC (zA 6) zO))) zE)))))))) (zN (yN (zu (wE (xF hr)) wD (zH (zJ yl yk (zA 1) zE)) (zH zE) (z_ _)) (zN (ze (i:=4) Ye.nd rfl (Or.inl rfl) (zi (zg (zZ hr)) zh (zA 2) (zJ yl yk (zA 0) zE))) (zN (uN vP rfl (gS rfl wF (zJ w6 w4 (zA 0) zE)) (tf (xM (i:=5) Ye.nd rfl (Or.inl rfl)) rfl) (zS (ze (i:=4) Ye.nd rfl (Or.inl rfl) (zJ yH yG (zA 4) zU)))) (zS (zy (zA 4))))) yX) (zN (yN (zu (wE (xF hr)) wD (zH (zJ yl yk (zA 1) zE)) (zH zE) (z_ _)) (zS (zy (zJ yH yG (zJ yH yG (zi (zg (zZ hr)) zh (zA 2) (zJ yl yk (zA 0) zE)) (zi (zg (zZ hr)) zh (zA 2) (zJ w6 w4 (zA 0) zE))) (Yi (zA 3) gT (gU zE))))) yX) (zS (zy (zJ yH yG (zJ yH yG (Yi (zA 3) gT (gU zE)) (zi (zg (zZ hr)) zh (zA 2) (zJ w6 w4 (zA 0) zE))) (zi (zg (zZ hr)) zh (zA 2) (zJ yl yk (zA 0) zE)))))))))
noncomputable abbrev MZ:Stmt:=top 57
theorem WY:yP ["_law_cell", "_law_kind", "_law_first", "_law_other", "_law_rest"] ["_law_cell"] (zx MZ):=by ac_rfl
noncomputable def IC:HT:=λP w K mg base=>yQ P w K mg base "_law_row_by" ["_law_cell"] 1 (yU K Zr)
include X G in
theorem bV(a:zX K "_law_row_by" MZ):IC P w K mg base:=(a.d1 X G).oS P w base 0 Zr WY yg λhr=>(zN (ze (i:=1) WY.nd rfl (Or.inl rfl) (zJ yl yk (zA 0) zE)) (zN (ze (i:=2) WY.nd rfl (Or.inl rfl) (zJ yl yk (zJ w6 w4 (zA 0) zE) zE)) (zN (ze (i:=3) WY.nd rfl (Or.inl rfl) (zJ yl yk (zJ w6 w4 (zA 0) zE) zE)) (zN (ze (i:=4) WY.nd rfl (Or.inl rfl) (zJ w6 w4 (zA 0) zE)) (zN (yN (zu (wE (xF hr)) wD (zH (zA 1)) (zH zE) (z_ _)) (zS (zy (xc (zC zU zO) (yC (zL yF) (by decide))))) yX) (zN (yN (zu vf xb (zH (zA 1)) (zH zE) (z_ _)) (zS (zy (xc (zC (zi (zg (zZ hr)) zh (y_ (xG (zC zU (zC zU zO)) (yC (zL (zL yF)) (by decide)))) (zJ v_ vz (zA 1) zE)) (zC (zA 2) (zC (zi (zg (zZ hr)) zh (y_ (xG (zC (zJ yl yk (zA 4) zE) (zC zE (zC zE (zC (zJ yl yk (zA 4) zE) zO)))) (yC (zL (zL (zL (zL yF)))) (by decide)))) (zJ yl yk (zJ w6 w4 (zA 4) zE) zE)) zO))) (yC (zL (zL (zL yF))) (by decide))))) yX) (zN (yN (zu vf xb (zH (zA 1)) (zH zE) (z_ _)) (zS (zy (xc (zC (zi (zg (zZ hr)) zh (y_ (xG (zC zU (zC zU (zC zU (zC zU (zC zU (zC zU (zC zU (zC zU (zC zU zO))))))))) (yC (zL (zL (zL (zL (zL (zL (zL (zL (zL yF))))))))) (by decide)))) (zJ v_ vz (zA 1) zE)) (zC (zA 2) (zC (zA 3) zO))) (yC (zL (zL (zL yF))) (by decide))))) yX) (zN (yN (zu vf xb (zH (zA 1)) (zH zE) (z_ _)) (zS (zy (xc (zC (zi (zg (zZ hr)) zh (y_ (xG (zC zU (zC zU zO)) (yC (zL (zL yF)) (by decide)))) (zJ v_ vz (zA 1) zE)) (zC (zA 2) (zC (zi (zg (zZ hr)) zh (y_ (xG (zC (zJ yl yk (zA 4) zE) (zC zE (zC zE (zC zE zO)))) (yC (zL (zL (zL (zL yF)))) (by decide)))) (zJ yl yk (zJ w6 w4 (zA 4) zE) zE)) zO))) (yC (zL (zL (zL yF))) (by decide))))) yX) (zS (zy (xc (zC (zi (zg (zZ hr)) zh (y_ (xG (zC zU (zC zU (zC zU (zC zU zO)))) (yC (zL (zL (zL (zL yF)))) (by decide)))) (zJ v_ vz (zA 1) zE)) (zC (zA 2) (zC (zA 3) (zC (zi (zg (zZ hr)) zh (y_ (xG (zC (zJ yl yk (zA 4) zE) (zC zE (zC zE zO))) (yC (zL (zL (zL yF))) (by decide)))) (zJ yl yk (zJ w6 w4 (zA 4) zE) zE)) zO)))) (yC (zL (zL (zL (zL yF)))) (by decide)))))))))))))
noncomputable abbrev MW:Stmt:=top 58
theorem Mz:yP ["_law_number", "_law_many", "_law_cell", "_law_way", "_law_far"] ["_law_number", "_law_many", "_law_cell"] (zx MW):=by ac_rfl
variable(Qp:mg "min" = none)
noncomputable def J_:HT:=λP w K mg base=>yQ P w K mg base "_law_place_by" ["_law_number", "_law_many", "_law_cell"] 1 (yU K Zq)
include X G ZT Qp in
theorem bS(a:zX K "_law_place_by" MW):J_ P w K mg base:=(a.d3 X G).oS P w base 0 Zq Mz yg λhr=>(zN (ze (i:=3) Mz.nd rfl (Or.inl rfl) (zJ yl yk (zA 2) zE)) (zN (ze (i:=4) Mz.nd rfl (Or.inl rfl) (zJ yH yG (zA 0) (zi (zg (zZ hr)) zh (y_ (xG (zC zE (zC zE (zC zE (zC zE (zC (uL um ul zE) (zC (uL um ul zE) (zC (uL um ul zE) (zC (uL um ul zE) zO)))))))) (yC (zL (zL (zL (zL (zL (zL (zL (zL yF)))))))) (by decide)))) (zJ yl yk (zJ w6 w4 (zA 2) zE) zE)))) (zN (yN (qg (QM (zu vf xb (zH (zA 3)) (zH zE) (z_ _)) (BC (Hb To xb To xb (zH zE) (zH (zA 4)) (zH (zA 1)))))) (zS (zy (zA 4))) yX) (zN (yN (zu vf xb (zH (zA 3)) (zH zE) (z_ _)) (zS (zy (zJ yl yk (zJ w6 w4 (zA 2) zE) (zJ yH yG (zA 1) zE)))) yX) (zS (zy (wU (Ny rfl) bg rfl ZT Dp (yz (zH zE) (yz (zH (wU (N_ rfl) bi rfl Qp Nq (yz (zH (zA 1)) (yz (zH (zJ v_ vz (zJ yH yG (zA 0) (zJ yl yk (zJ w6 w4 (zA 2) zE) zE)) zE)) xB)))) xB)))))))))
noncomputable abbrev Mb:Stmt:=top 59
theorem ZH:yP ["_law_script", "_law_many", "_law_dense", "_law_found", "_law_number", "_law_cell", "_law_place", "_law_word_here"] ["_law_script", "_law_many", "_law_dense"] (zx Mb):=by ac_rfl
variable(vd:Jm P w K mg base)(Us:J_ P w K mg base)(Uv:IC P w K mg base)
noncomputable def IE:HT:=λP w K mg base=>yQ P w K mg base "_law_rows_by" ["_law_script", "_law_many", "_law_dense"] 3 (yU K XN)
include X G wF yO vd wy Us Uv in
theorem bX(a:zX K "_law_rows_by" Mb):IE P w K mg base:=(a.d3 X G).oS P w base 2 XN ZH yg λhr=>(zN (tF (i:=3) ZH.nd rfl (Or.inl rfl) (xG zO (yC yF (by decide)))) (zN (uN vP rfl (gS rfl wF (zA 1)) (tf (xM (i:=4) ZH.nd rfl (Or.inl rfl)) rfl) (zN (ze (i:=5) ZH.nd rfl (Or.inl rfl) (zp vd hr rfl (zC (zA 0) (zC (zJ yH yG zE (zA 4)) zO)))) (zN (yN (zu vf xb (zH (wU we wg rfl yO wd (yz (zH (zA 0)) xB))) (zH (zJ yH yG zE (zA 4))) (z_ _)) (zS (ze (i:=5) ZH.nd rfl (Or.inl rfl) (zp wy hr rfl (zC (zp vd hr rfl (zC (zA 0) (zC zE zO))) (zC (zA 4) zO))))) yX) (zS (yN (zu vf xb (zH (zJ yl yk (zp wy hr rfl (zC (zA 5) (zC zE zO))) zE)) (zH (zA 2)) (z_ _)) (zN (ze (i:=6) ZH.nd rfl (Or.inl rfl) (zp Us hr rfl (zC (zA 4) (zC (zA 1) (zC (zp wy hr rfl (zC (zA 5) (zC zE zO))) zO))))) (zN (ze (i:=7) ZH.nd rfl (Or.inl rfl) (zi (zg (zZ hr)) zh (y_ (xG (zC zU (zC zU (zC zU zO))) (yC (zL (zL (zL yF))) (by decide)))) (zJ yl yk (zp wy hr rfl (zC (zA 5) (zC zE zO))) zE))) (zS (yN (zu (wE (xF hr)) wD (zH (zA 7)) (zH zU) (z_ _)) (zS (uM (qv 3) (xc (zC (zA 7) (zC (zA 6) zO)) (yC (zL (zL yF)) (by decide))))) (zS (uM (qv 3) (xc (zC (zA 7) (zC (zi (zg (zZ hr)) zh (y_ (xG (zC zU (zC zU (zC zU zO))) (yC (zL (zL (zL yF))) (by decide)))) (zJ yl yk (zp wy hr rfl (zC (zA 5) (zC zE zO))) zE)) (zC (zA 6) zO))) (yC (zL (zL (zL yF))) (by decide))))))))) (zS (uM (qv 3) (zp Uv hr rfl (zC (zp wy hr rfl (zC (zA 5) (zC zE zO))) zO))))))))) (zS (ZL 3))))
noncomputable abbrev MN:Stmt:=top 60
theorem fq:yP ["_law_rows"] ["_law_rows"] (zx MN):=by ac_rfl
noncomputable def Jr:HT:=λP w K mg base=>yQ P w K mg base "_law_jumps_in" ["_law_rows"] 1 (yU K gs)
include X G wF yO in
theorem bJ(a:zX K "_law_jumps_in" MN):Jr P w K mg base:=(a.d1 X G).oS P w base 0 gs fq yg λhr=>(zS (Wf (pV rfl (uV (own:=["_law_number"]) rfl) (gS rfl wF (wU we wg rfl yO wd (yz (zH (zA 0)) xB))) (t3 (λC s H fp pn=>(xM (i:=1) (show(vT ["_law_rows"] ["_law_number"]).Nodup by decide +kernel) rfl (Or.inl rfl))) rfl) (λC s H fp pn=>(ZN (zu (uf (zZ hr)) ud (zH (zi (zg (zZ hr)) zh (zi (zg (zZ hr)) zh (zA 0) (zA 1)) zE)) (zH (xc (zC zU (zC zU (zC zU zO))) (yC (zL (zL (zL yF))) (by decide)))) (by with_unfolding_all rfl)))) (λC s H fp pn=>(zA 1)))))
noncomputable abbrev MQ:Stmt:=top 61
theorem Q4:yP ["_law_cell", "_law_many"] ["_law_cell"] (zx MQ):=by ac_rfl
noncomputable def Ju:HT:=λP w K mg base=>yQ P w K mg base "_law_many_by" ["_law_cell"] 1 (yU K XJ)
include X G in
theorem bM(a:zX K "_law_many_by" MQ):Ju P w K mg base:=(a.d1 X G).oS P w base 0 XJ Q4 yg λhr=>(zN (ze (i:=1) Q4.nd rfl (Or.inl rfl) (zJ yl yk (zA 0) zE)) (zN (yN (zu (wE (xF hr)) wD (zH (zJ yl yk (zJ w6 w4 (zA 0) zE) zE)) (zH zE) (z_ _)) (zS (ze (i:=1) Q4.nd rfl (Or.inl rfl) (zJ yH yG zE (zJ yl yk (zJ w6 w4 (zA 0) zE) zE)))) yX) (zN (yN (zu (wE (xF hr)) wD (zH (zJ yl yk (zJ w6 w4 (zA 0) zE) zE)) (zH zE) (z_ _)) (zS (ze (i:=1) Q4.nd rfl (Or.inl rfl) (zJ yH yG zE (zJ yl yk (zJ w6 w4 (zA 0) zE) zE)))) yX) (zS (zy (zA 1))))))
noncomputable abbrev MJ:Stmt:=top 62
theorem qb:yP ["_law_rows", "_law_cell", "_law_shape", "_law_places", "_law_names", "_law_items", "_law_count", "_law_place", "_law_more", "_law_jumps"] ["_law_rows", "_law_cell"] (zx MJ):=by ac_rfl
variable(pL:Jr P w K mg base)(Xz:Jw P w K mg base)
noncomputable def Jo:HT:=λP w K mg base=>yQ P w K mg base "_law_items_by" ["_law_rows", "_law_cell"] 4 (yU K XH)
include X G wF yO pL wy Xz in
theorem bG(a:zX K "_law_items_by" MJ):Jo P w K mg base:=(a.d2 X G).oS P w base 3 XH qb yg λhr=>(zN (ze (i:=2) qb.nd rfl (Or.inl rfl) (zJ yl yk (zJ w6 w4 (zA 1) zE) zE)) (zN (HZ (i:=3) rfl qb.nd rfl rfl (uV (own:=["_law_number"]) rfl) rfl (tj (zp pL hr rfl (zC (zA 0) zO))) (t3 (λC s H fp pn=>(xM (i:=10) (show(vT ["_law_rows", "_law_cell", "_law_shape", "_law_places", "_law_names", "_law_items", "_law_count", "_law_place", "_law_more", "_law_jumps"] ["_law_number"]).Nodup by decide +kernel) rfl (Or.inl rfl))) rfl) (λC s H fp pn=>ZM) (λC s H fp pn=>(zi (zg (zZ hr)) zh (zi (zg (zZ hr)) zh (zA 0) (zA 10)) (uL um ul zE)))) (zN (tF (i:=4) qb.nd rfl (Or.inr rfl) G_) (zN (tF (i:=5) qb.nd rfl (Or.inl rfl) (xG zO (yC yF (by decide)))) (zN (ze (i:=6) qb.nd rfl (Or.inl rfl) zE) (zN (uN vP rfl (gS rfl wF (zJ yH yG (wU we wg rfl yO wd (yz (zH (zA 0)) xB)) zE)) (tf (xM (i:=7) qb.nd rfl (Or.inl rfl)) rfl) (zN (ze (i:=8) qb.nd rfl (Or.inl rfl) (zJ yl yk (zp wy hr rfl (zC (zA 1) (zC (zA 7) zO))) zE)) (zN (yN (qg (gX (zu (uf (zZ hr)) ud (zH (zA 7)) (zH (zA 3)) (by with_unfolding_all rfl)) (gY (zu (wE (xF hr)) wD (zH (zA 8)) (zH zE) (z_ _))))) (zN (HW (zZ hr) (qv 4) (zA 7) (zp Xz hr rfl (zC (zA 6) (zC (zA 2) zO)))) (zN (uM (qv 5) (xc (zC zU (zC (B4 (zZ hr) (qv 4) (zA 7)) zO)) (yC (zL (zL yF)) (by decide)))) (zS (HV (i:=6) Fy EZ qb.nd rfl (Or.inl rfl) zE)))) yX) (zN (yN (zu (wE (xF hr)) wD (zH (zA 8)) (zH zE) (z_ _)) (zN (uM (qv 5) (xc (zC zU (zC (zp Xz hr rfl (zC (zA 6) (zC (zA 2) zO))) zO)) (yC (zL (zL yF)) (by decide)))) (zS (HV (i:=6) Fy EZ qb.nd rfl (Or.inl rfl) zE))) yX) (zS (yN (zu vf xb (zH (zA 7)) (zH (wU we wg rfl yO wd (yz (zH (zA 0)) xB))) (z_ _)) (zS (uM (qv 5) (zi (zg (zZ hr)) zh (zA 0) (zA 7)))) yX)))))) (Yk 5 (Yk 4 (zN (ze (i:=9) qb.nd rfl (Or.inr rfl) (xc (zC zU (zC zU (zC zU zO))) (yC (zL (zL (zL yF))) (by decide)))) (zS (Wf (pV rfl (uV (own:=["_law_item"]) rfl) (tj (zA 5)) (t3 (λC s H fp pn=>(xM (i:=10) (show(vT ["_law_rows", "_law_cell", "_law_shape", "_law_places", "_law_names", "_law_items", "_law_count", "_law_place", "_law_more", "_law_jumps"] ["_law_item"]).Nodup by decide +kernel) rfl (Or.inl rfl))) rfl) (λC s H fp pn=>ZM) (λC s H fp pn=>(gQ (zu (uf (zZ hr)) ud (zH (zi (zg (zZ hr)) zh (zA 10) zE)) (zH (zA 9)) (by with_unfolding_all rfl)) (zJ yH yG (Yi (zA 10) gT (gU (uL um ul zE))) (xc (zC (zi (zg (zZ hr)) zh (zA 4) (zi (zg (zZ hr)) zh (zA 10) (uL um ul zE))) zO) (yC (zL yF) (by decide)))) (zA 10)))))))))))))))
noncomputable abbrev MG:Stmt:=top 63
theorem Q3:yP ["_law_script", "_law_many", "_law_dense", "_law_rows"] ["_law_script"] (zx MG):=by ac_rfl
variable(Uq:Ju P w K mg base)(Ux:IE P w K mg base)(Ul:Jo P w K mg base)
noncomputable def Jl:HT:=λP w K mg base=>yQ P w K mg base "_law_built" ["_law_script"] 5 (yU K XG)
include X G Uq vd Ux Ul in
theorem bD(a:zX K "_law_built" MG):Jl P w K mg base:=(a.d1 X G).oS P w base 4 XG Q3 yg λhr=>(zN (ze (i:=1) Q3.nd rfl (Or.inl rfl) (zp Uq hr rfl (zC (zp vd hr rfl (zC (zA 0) (zC zE zO))) zO))) (zN (ze (i:=2) Q3.nd rfl (Or.inl rfl) (zi (zg (zZ hr)) zh (y_ (xG (fQ (is:=[4,2,6,8]) rfl) (yC (NO (n:=4) (by decide)) (by decide)))) (zJ yl yk (zp vd hr rfl (zC (zA 0) (zC zE zO))) zE))) (zN (ze (i:=3) Q3.nd rfl (Or.inl rfl) (zp Ux hr rfl (zC (zA 0) (zC (zA 1) (zC (zA 2) zO))))) (zS (zy (xc (zC (zA 3) (zC (zp Ul hr rfl (zC (zA 3) (zC (zJ w6 w4 (zp vd hr rfl (zC (zA 0) (zC zE zO))) zE) zO))) zO)) (yC (zL (zL yF)) (by decide))))))))
noncomputable abbrev Mc:Stmt:=top 64
theorem M_:yP ["_law_rows", "_law_far", "_law_found", "_law_number"] ["_law_rows", "_law_far"] (zx Mc):=by ac_rfl
noncomputable def IF:HT:=λP w K mg base=>yQ P w K mg base "_law_stands" ["_law_rows", "_law_far"] 1 (yU K Zs)
include X G wF yO in
theorem bY(a:zX K "_law_stands" Mc):IF P w K mg base:=(a.d2 X G).oS P w base 0 Zs M_ yg λhr=>(zN (tF (i:=2) M_.nd rfl (Or.inl rfl) (xG (zC zE zO) (yC (zL yF) (by decide)))) (zN (uN vP rfl (gS rfl wF (wU we wg rfl yO wd (yz (zH (zA 0)) xB))) (tf (xM (i:=3) M_.nd rfl (Or.inl rfl)) rfl) (zN (uM (qv 2) (zJ yH yG (B4 (zZ hr) (qv 2) (uL um ul zE)) zE)) (zS (yN (zu (uf (zZ hr)) ud (zH (zA 3)) (zH (zA 1)) (by with_unfolding_all rfl)) (zS (lH (qv 2) (uL um ul zE) (zJ yH yG (B4 (zZ hr) (qv 2) (uL um ul zE)) zE))) yX)))) (zS (ZL 2))))
noncomputable abbrev MT:Stmt:=top 65
theorem WV:yP ["_law_rows", "_law_far", "_law_stands_here", "_law_found", "_law_number", "_law_distance"] ["_law_rows", "_law_far"] (zx MT):=by ac_rfl
variable(kT:IF P w K mg base)
noncomputable def Jx:HT:=λP w K mg base=>yQ P w K mg base "_law_near_ones" ["_law_rows", "_law_far"] 2 (yU K jk)
include X G kT pL in
theorem bP(a:zX K "_law_near_ones" MT):Jx P w K mg base:=(a.d2 X G).oS P w base 1 jk WV yg λhr=>(zN (ze (i:=2) WV.nd rfl (Or.inl rfl) (zp kT hr rfl (zC (zA 0) (zC (zA 1) zO)))) (zN (tF (i:=3) WV.nd rfl (Or.inl rfl) (xG zO (yC yF (by decide)))) (zN (uN vP rfl (tj (zp pL hr rfl (zC (zA 0) zO))) (tf (xM (i:=4) WV.nd rfl (Or.inl rfl)) rfl) (zN (ze (i:=5) WV.nd rfl (Or.inl rfl) (zJ v_ vz (zi (zg (zZ hr)) zh (zA 2) (zi (zg (zZ hr)) zh (zi (zg (zZ hr)) zh (zA 0) (zA 4)) (uL um ul zE))) (zi (zg (zZ hr)) zh (zA 2) (zA 4)))) (zS (yN (qg (QM (zu (Le (zZ hr)) Lc (zH (zA 4)) (zH (zA 1)) (by with_unfolding_all rfl)) (BC (qg (gX (zu vf xb (zH (zA 5)) (zH (uL um ul zE)) (z_ _)) (gY (zu jJ xb (zH (zA 5)) (zH zE) (z_ _)))))))) (zS (uM (qv 3) (zA 4))) yX)))) (zS (ZL 3)))))
noncomputable abbrev MX:Stmt:=top 66
theorem Q5:yP ["_law_rows", "_law_far", "_law_more"] ["_law_rows", "_law_far"] (zx MX):=by ac_rfl
variable(Qq:mg "sorted" = none)(X_:Jx P w K mg base)
noncomputable def IA:HT:=λP w K mg base=>yQ P w K mg base "_law_reaching" ["_law_rows", "_law_far"] 3 (yU K XM)
include X G Qq X_ in
theorem bT(a:zX K "_law_reaching" MX):IA P w K mg base:=(a.d2 X G).oS P w base 2 XM Q5 yg λhr=>(zN (ze (i:=2) Q5.nd rfl (Or.inl rfl) (zp X_ hr rfl (zC (zA 0) (zC (zA 1) zO)))) (zN (B7 vP (zu (ug (xF hr)) ue (zH (zA 2)) (zH (y_ (xG zO (yC yF (by decide))))) (z_ _)) (zN (ze (i:=1) Q5.nd rfl (Or.inl rfl) (y_ (iB rfl Qq (zC (zJ yH yG (zA 1) (zA 2)) zO)))) (zS (ze (i:=2) Q5.nd rfl (Or.inl rfl) (zp X_ hr rfl (zC (zA 0) (zC (zA 1) zO))))))) (zS (zy (zA 1)))))
noncomputable abbrev MF:Stmt:=top 68
theorem ff:yP ["_law_rows", "_law_cell", "_law_most"] ["_law_rows", "_law_cell", "_law_most"] (zx MF):=by ac_rfl
variable(Ut:IA P w K mg base)
noncomputable def Jk:HT:=λP w K mg base=>yQ P w K mg base "_law_any_far" ["_law_rows", "_law_cell", "_law_most"] 4 (yU K XF)
include X G Ut pL wy in
theorem bC(a:zX K "_law_any_far" MF):Jk P w K mg base:=(a.d3 X G).oS P w base 3 XF ff yg λhr=>(zS (zy (zp Ut hr rfl (zC (zA 0) (zC (y_ (pV rfl (uV (own:=["_law_number"]) rfl) (tj (zp pL hr rfl (zC (zA 0) zO))) (t3 (λC s H fp pn=>(xM (i:=3) (show(vT ["_law_rows", "_law_cell", "_law_most"] ["_law_number"]).Nodup by decide +kernel) rfl (Or.inl rfl))) rfl) (λC s H fp pn=>(ZN (zu vf xb (zH (zJ yl yk (zp wy hr rfl (zC (zA 1) (zC (zA 3) zO))) zE)) (zH (zA 2)) (z_ _)))) (λC s H fp pn=>(zA 3)))) zO)))))
noncomputable abbrev MV:Stmt:=top 69
theorem Gn:yP ["_law_some"] [] (zx MV):=by ac_rfl
noncomputable def Jz:HT:=λP w K mg base=>yQ P w K mg base "_law_order" [] 1 (yU K XL)
include X G in
theorem bR(a:zX K "_law_order" MV):Jz P w K mg base:=(a.d0 X G).oS P w base 0 XL Gn yg λhr=>(zN (ze (i:=0) Gn.nd rfl (Or.inl rfl) (y_ (xG (zC zU (zC zU (zC zU (zC zU (zC zU (zC zU (zC zU (zC zU (zC zU (zC zU (zC zU (zC zU zO)))))))))))) (yC (zL (zL (zL (zL (zL (zL (zL (zL (zL (zL (zL (zL yF)))))))))))) (by decide))))) (zS (zy (zJ yH yG (zA 0) (y_ (xG (zC zU (zC zU (zC zU (zC zU (zC zU (zC zU zO)))))) (yC (zL (zL (zL (zL (zL (zL yF)))))) (by decide))))))))
noncomputable abbrev Md:Stmt:=top 70
theorem Wa:yP ["_law_row", "_law_word_here"] ["_law_row"] (zx Md):=by ac_rfl
variable(kS:Jz P w K mg base)
noncomputable def IG:HT:=λP w K mg base=>yQ P w K mg base "_law_word" ["_law_row"] 2 (yU K uz)
include X G yO kS in
theorem bZ(a:zX K "_law_word" Md):IG P w K mg base:=(a.d1 X G).oS P w base 1 uz Wa yg λhr=>(zN (ze (i:=1) Wa.nd rfl (Or.inl rfl) (zJ pT gG (B2 (Gv kS hr rfl) (zi (zg (zZ hr)) zh (zA 0) zE)) (zJ tY tX zE zE))) (zN (yN (zu (wE (xF hr)) wD (zH (zi (zg (zZ hr)) zh (zA 0) zE)) (zH zU) (z_ _)) (zS (zy (zA 1))) yX) (zN (ze (i:=1) Wa.nd rfl (Or.inl rfl) (zJ yH yG (zA 1) (zJ pT gG (zi (zg (zZ hr)) zh (zA 0) zE) (zJ tY tX zE zE)))) (zN (yN (zu (uf (zZ hr)) ud (zH (zi (zg (zZ hr)) zh (zA 0) zE)) (zH (xc (zC zU (zC zU (zC zU (zC zU zO)))) (yC (zL (zL (zL (zL yF)))) (by decide)))) (by with_unfolding_all rfl)) (zS (zy (zJ yH yG (zA 1) (zi (zg (zZ hr)) zh (zA 0) zE)))) yX) (zN (ze (i:=1) Wa.nd rfl (Or.inl rfl) (zJ yH yG (zA 1) (zJ pT gG (zi (zg (zZ hr)) zh (zA 0) zE) (zJ tY tX zE zE)))) (zN (yN (zu (wE (xF hr)) wD (zH (wU we wg rfl yO wd (yz (zH (zA 0)) xB))) (zH zE) (z_ _)) (zS (ze (i:=1) Wa.nd rfl (Or.inl rfl) (zJ yH yG (zA 1) (zi (zg (zZ hr)) zh (zA 0) zE)))) yX) (zS (zy (zA 1)))))))))
noncomputable abbrev ML:Stmt:=top 71
theorem Mx:yP ["_law_row", "_law_distance", "_law_is_far", "_law_word_here"] ["_law_row", "_law_distance", "_law_is_far"] (zx ML):=by ac_rfl
variable(vE:mg "int" = none)
noncomputable def Jq:HT:=λP w K mg base=>yQ P w K mg base "_law_jump_words" ["_law_row", "_law_distance", "_law_is_far"] 1 (yU K qF)
include X G vE in
theorem bI(a:zX K "_law_jump_words" ML):Jq P w K mg base:=(a.d3 X G).oS P w base 0 qF Mx yg λhr=>(zN (ze (i:=3) Mx.nd rfl (Or.inl rfl) (zJ pT gG (zJ yH yG (zJ yH yG zE (B2 (y_ (xG (zC zU (zC zU (zC zU zO))) (yC (zL (zL (zL yF))) (by decide)))) (zi (zg (zZ hr)) zh (zA 0) zE))) (zJ pT Ea zE (uj Y3 YR rfl vE kB (yz (zH (zA 2)) xB)))) (zJ tY tX zE zE))) (zN (yN (zu (ug (xF hr)) ue (zH (zi (zg (zZ hr)) zh (zA 0) zE)) (zH zU) (z_ _)) (zS (ze (i:=3) Mx.nd rfl (Or.inl rfl) (zJ yH yG (zA 3) (zJ pT gG (B2 (y_ (xG (zC zU (zC zU (zC zU zO))) (yC (zL (zL (zL yF))) (by decide)))) (zi (zg (zZ hr)) zh (zA 0) zE)) (zJ tY tX zE zE))))) yX) (zN (yN (pW (zA 2)) (zS (Wf (xG (zC (zA 3) (zC (zJ yl yk (zA 1) (zJ tY tX zE zE)) zO)) (yC (zL (zL yF)) (by decide))))) yX) (zS (Wf (xG (zC (zJ yH yG (zA 3) (zJ yl yk (zA 1) zE)) zO) (yC (zL yF) (by decide))))))))
noncomputable abbrev Mf:Stmt:=top 72
theorem Yf:yP ["_law_rows", "_law_far", "_law_stands_here", "_law_found", "_law_number", "_law_distance"] ["_law_rows", "_law_far"] (zx Mf):=by ac_rfl
variable(kR:Jq P w K mg base)(kU:IG P w K mg base)
noncomputable def II:HT:=λP w K mg base=>yQ P w K mg base "_law_written" ["_law_rows", "_law_far"] 3 (yU K XQ)
include X G wF yO kT kR kU in
theorem bd(a:zX K "_law_written" Mf):II P w K mg base:=(a.d2 X G).oS P w base 2 XQ Yf yg λhr=>(zN (ze (i:=2) Yf.nd rfl (Or.inl rfl) (zp kT hr rfl (zC (zA 0) (zC (zA 1) zO)))) (zN (tF (i:=3) Yf.nd rfl (Or.inl rfl) (xG zO (yC yF (by decide)))) (zN (uN vP rfl (gS rfl wF (wU we wg rfl yO wd (yz (zH (zA 0)) xB))) (tf (xM (i:=4) Yf.nd rfl (Or.inl rfl)) rfl) (zS (yN (zu (uf (zZ hr)) ud (zH (zi (zg (zZ hr)) zh (zi (zg (zZ hr)) zh (zA 0) (zA 4)) zE)) (zH (xc (zC zU (zC zU (zC zU zO))) (yC (zL (zL (zL yF))) (by decide)))) (by with_unfolding_all rfl)) (zN (ze (i:=5) Yf.nd rfl (Or.inl rfl) (zJ v_ vz (zi (zg (zZ hr)) zh (zA 2) (zi (zg (zZ hr)) zh (zi (zg (zZ hr)) zh (zA 0) (zA 4)) (uL um ul zE))) (zi (zg (zZ hr)) zh (zA 2) (zA 4)))) (zS (tF (i:=3) Yf.nd rfl (Or.inl rfl) (i8 (qv 3) (zp kR hr rfl (zC (zi (zg (zZ hr)) zh (zA 0) (zA 4)) (zC (zA 5) (zC (jN (uf (zZ hr)) ud (zH (zA 4)) (zH (zA 1)) (by with_unfolding_all rfl)) zO)))))))) (zS (uM (qv 3) (zp kU hr rfl (zC (zi (zg (zZ hr)) zh (zA 0) (zA 4)) zO))))))) (zS (ZL 3)))))
noncomputable abbrev MK:Stmt:=top 73
theorem qd:yP ["_law_words", "_law_address", "_law_kind", "_law_word_here", "_law_name", "_law_mark", "_law_is_far", "_law_row", "_law_distance"] ["_law_words", "_law_address", "_law_kind"] (zx MK):=by ac_rfl
noncomputable def Jp:HT:=λP w K mg base=>yQ P w K mg base "_law_jump_at" ["_law_words", "_law_address", "_law_kind"] 2 (yU K qE)
include X G vE yO kR in
theorem bH(a:zX K "_law_jump_at" MK):Jp P w K mg base:=(a.d3 X G).oS P w base 1 qE qd yg λhr=>(zN (ze (i:=3) qd.nd rfl (Or.inl rfl) (zi (zg (zZ hr)) zh (zA 0) (zA 1))) (zN (ze (i:=4) qd.nd rfl (Or.inl rfl) (zi (zg (zZ hr)) zh (y_ (xG (zC zU (zC zU (zC zU zO))) (yC (zL (zL (zL yF))) (by decide)))) (zJ yl yk (zJ v_ vz (zA 2) zE) zE))) (zN (ze (i:=5) qd.nd rfl (Or.inl rfl) (zJ yl yk (zJ w6 w4 (zA 3) (zJ tY tX zE zE)) zE)) (zN (ze (i:=6) qd.nd rfl (Or.inl rfl) (jN jJ xb (zH (zA 2)) (zH zE) (z_ _))) (zN (yN (qg (gX (zu (wE (xF hr)) wD (zH (zA 5)) (zH zE) (z_ _)) (gY (zu jJ xb (zH (zJ yH yG (zJ yH yG (zA 1) zE) (uj Y3 YR rfl vE kB (yz (zH (zA 6)) xB)))) (zH (wU we wg rfl yO wd (yz (zH (zA 0)) xB))) (z_ _))))) (zS (zy wV)) yX) (zN (ze (i:=7) qd.nd rfl (Or.inl rfl) (xc (zC zU zO) (yC (zL yF) (by decide)))) (zN (yN (zu (ug (xF hr)) ue (zH (zA 4)) (zH zU) (z_ _)) (zS (ze (i:=7) qd.nd rfl (Or.inl rfl) (xc (zC (zA 4) (zC (zi (zg (zZ hr)) zh (y_ (xG (zC zU (zC zU (zC zU zO))) (yC (zL (zL (zL yF))) (by decide)))) (zA 5)) zO)) (yC (zL (zL yF)) (by decide))))) yX) (zN (ze (i:=8) qd.nd rfl (Or.inl rfl) (zJ yl yk (zA 3) zE)) (zN (yN (zu jJ xb (zH (zA 8)) (zH zE) (z_ _)) (zS (ze (i:=8) qd.nd rfl (Or.inl rfl) (zJ v_ vz (zA 8) zE))) yX) (zN (yN (pW (zA 6)) (zN (ze (i:=8) qd.nd rfl (Or.inl rfl) (zi (zg (zZ hr)) zh (zA 0) (zJ yH yG (zA 1) zE))) (zS (yN (zu jJ xb (zH (zA 8)) (zH zE) (z_ _)) (zS (ze (i:=8) qd.nd rfl (Or.inl rfl) (zJ v_ vz (zA 8) (zJ tY tX zE zE)))) yX))) yX) (zN (yN (zu (ug (xF hr)) ue (zH (zi (zg (zZ hr)) zh (zp kR hr rfl (zC (zA 7) (zC (zA 8) (zC (zA 6) zO)))) zE)) (zH (zA 3)) (z_ _)) (zS (zy wV)) yX) (zS (zy (xc (zC (zA 7) (zC (zJ yH yG (zJ yH yG (zA 1) zE) (uj Y3 YR rfl vE kB (yz (zH (zA 6)) xB))) (zC (zJ yH yG (zA 1) (zA 8)) zO))) (yC (zL (zL (zL yF))) (by decide))))))))))))))))
noncomputable abbrev MY:Stmt:=top 74
theorem gP:yP ["_law_words", "_law_address", "_law_word_here", "_law_kind", "_law_name", "_law_row"] ["_law_words", "_law_address"] (zx MY):=by ac_rfl
variable(Um:Jp P w K mg base)
noncomputable def IB:HT:=λP w K mg base=>yQ P w K mg base "_law_row_at" ["_law_words", "_law_address"] 3 (yU K uy)
include X G yO vE Um kS kU in
theorem bU(a:zX K "_law_row_at" MY):IB P w K mg base:=(a.d2 X G).oS P w base 2 uy gP yg λhr=>(zN (yN (QK (Hb To xb vf xb (zH zE) (zH (zA 1)) (zH (wU we wg rfl yO wd (yz (zH (zA 0)) xB))))) (zS (zy wV)) yX) (zN (ze (i:=2) gP.nd rfl (Or.inl rfl) (zi (zg (zZ hr)) zh (zA 0) (zA 1))) (zN (ze (i:=3) gP.nd rfl (Or.inl rfl) (zJ w6 w4 (zA 2) (zJ tY tX zE zE))) (zN (yN (zu jJ xb (zH (zA 3)) (zH zE) (z_ _)) (zS (zy wV)) yX) (zN (yN (zu jJ xb (zH (zA 3)) (zH zE) (z_ _)) (zS (zy (zp Um hr rfl (zC (zA 0) (zC (zA 1) (zC (zA 3) zO)))))) yX) (zN (ze (i:=4) gP.nd rfl (Or.inl rfl) (zi (zg (zZ hr)) zh (Gv kS hr rfl) (zA 3))) (zN (ze (i:=5) gP.nd rfl (Or.inl rfl) (xc (zC (zA 4) (zC (zJ yl yk (zJ w6 w4 (zA 2) (zJ tY tX zE zE)) zE) (zC (zJ yl yk (zJ w6 w4 (zA 2) (zJ tY tX zE zE)) zE) zO))) (yC (zL (zL (zL yF))) (by decide)))) (zN (yN (zu (wE (xF hr)) wD (zH (zA 4)) (zH zU) (z_ _)) (zS (ze (i:=5) gP.nd rfl (Or.inl rfl) (xc (zC zU zO) (yC (zL yF) (by decide))))) (zS (yN (zu (uf (zZ hr)) ud (zH (zA 4)) (zH (xc (zC zU (zC zU (zC zU (zC zU zO)))) (yC (zL (zL (zL (zL yF)))) (by decide)))) (by with_unfolding_all rfl)) (zS (ze (i:=5) gP.nd rfl (Or.inl rfl) (zJ yH yG (Gw (zA 5) gT (gU zE)) (xc (zC (zJ yl yk (zA 2) (zi (zg (zZ hr)) zh (y_ (xG (zC zE (zC zE zO)) (yC (zL (zL yF)) (by decide)))) (uj Y3 YR rfl vE kB (yz (zH (jN (uf (zZ hr)) ud (zH (zA 4)) (zH (xc (zC zU (zC zU zO)) (yC (zL (zL yF)) (by decide)))) (by with_unfolding_all rfl))) xB)))) zO) (yC (zL yF) (by decide)))))) (zS (yN (zu jJ xb (zH (zA 3)) (zH zE) (z_ _)) (zS (ze (i:=5) gP.nd rfl (Or.inl rfl) (zJ yH yG (zA 5) (xc (zC (zJ yl yk (zA 2) zE) zO) (yC (zL yF) (by decide)))))) yX))))) (zN (yN (zu (ug (xF hr)) ue (zH (zp kU hr rfl (zC (zA 5) zO))) (zH (zA 2)) (z_ _)) (zS (zy wV)) yX) (zS (zy (xc (zC (zA 5) (zC (zJ yH yG (zA 1) zE) (zC wV zO))) (yC (zL (zL (zL yF))) (by decide))))))))))))))
noncomputable abbrev Me:Stmt:=top 75
theorem B0:yP ["_law_script", "_law_rows", "_law_cell"] ["_law_script"] (zx Me):=by ac_rfl
variable(Uk:Jl P w K mg base)(Uz:II P w K mg base)(Uj:Jk P w K mg base)
noncomputable def IH:HT:=λP w K mg base=>yQ P w K mg base "_law_words_built" ["_law_script"] 6 (yU K XO)
include X G Uk vd Uz Uj in
theorem ba(a:zX K "_law_words_built" Me):IH P w K mg base:=(a.d1 X G).oS P w base 5 XO B0 yg λhr=>(zN (ze (i:=1) B0.nd rfl (Or.inl rfl) (zi (zg (zZ hr)) zh (zp Uk hr rfl (zC (zA 0) zO)) zE)) (zN (ze (i:=2) B0.nd rfl (Or.inl rfl) (zp vd hr rfl (zC (zA 0) (zC zE zO)))) (zS (zy (zp Uz hr rfl (zC (zA 1) (zC (zp Uj hr rfl (zC (zA 1) (zC (zA 2) (zC (zJ yl yk (zA 2) zE) zO)))) zO)))))))
noncomputable abbrev MI:Stmt:=top 76
theorem WU:yP ["_law_word_here", "_law_text", "_law_k"] ["_law_word_here"] (zx MI):=by ac_rfl
noncomputable def Jn:HT:=λP w K mg base=>yQ P w K mg base "_law_hex" ["_law_word_here"] 1 (yU K Zn)
include X G wF in
theorem bF(a:zX K "_law_hex" MI):Jn P w K mg base:=(a.d1 X G).oS P w base 0 Zn WU yg λhr=>(zN (ze (i:=1) WU.nd rfl (Or.inl rfl) zU) (zN (uN vP rfl (gS rfl wF zE) (tf (xM (i:=2) WU.nd rfl (Or.inl rfl)) rfl) (zN (ze (i:=1) WU.nd rfl (Or.inl rfl) (zJ yH yG (zi (zg (zZ hr)) zh zU (zJ yl yk (zA 0) zE)) (zA 1))) (zS (ze (i:=0) WU.nd rfl (Or.inl rfl) (zJ w6 w4 (zA 0) zE))))) (zS (zy (zA 1)))))
noncomputable abbrev Ma:Stmt:=top 77
theorem WZ:yP ["_law_row", "_law_target", "_law_words", "_law_registers", "_law_k"] ["_law_row", "_law_target"] (zx Ma):=by ac_rfl
noncomputable def ID:HT:=λP w K mg base=>yQ P w K mg base "_law_row_text" ["_law_row", "_law_target"] 1 (yU K gt)
include X G w_ yO wF vE in
theorem bW(a:zX K "_law_row_text" Ma):ID P w K mg base:=(a.d2 X G).oS P w base 0 gt WZ yg λhr=>(zN (yN (zu Tp Tl (zH (zA 1)) (zH wV) (z_ _)) (zS (zy (h_ zU (zH (zJ yH yG (zA 0) (xc (zC (uj jy gH rfl w_ jx (yz (zH (zA 1)) xB)) zO) (yC (zL yF) (by decide)))))))) yX) (zN (tF (i:=2) WZ.nd rfl (Or.inl rfl) (xG (zC (zi (zg (zZ hr)) zh (zA 0) zE) zO) (yC (zL yF) (by decide)))) (zN (ze (i:=3) WZ.nd rfl (Or.inl rfl) (zJ v_ vz (wU we wg rfl yO wd (yz (zH (zA 0)) xB)) zE)) (zN (yN (zu (uf (zZ hr)) ud (zH (zi (zg (zZ hr)) zh (zA 0) zE)) (zH (xc (zC zU (zC zU (zC zU (zC zU (zC zU (zC zU (zC zU (zC zU zO)))))))) (yC (zL (zL (zL (zL (zL (zL (zL (zL yF)))))))) (by decide)))) (by with_unfolding_all rfl)) (zS (ze (i:=3) WZ.nd rfl (Or.inl rfl) (zJ v_ vz (zA 3) zE))) yX) (zN (uN vP rfl (iI rfl wF zE (wU we wg rfl yO wd (yz (zH (zA 0)) xB))) (tf (xM (i:=4) WZ.nd rfl (Or.inl rfl)) rfl) (zS (uM (qv 2) (zJ yH yG (zi (zg (zZ hr)) zh (y_ (xG (zC zU (zC zU zO)) (yC (zL (zL yF)) (by decide)))) (uj Y3 YR rfl vE kB (yz (zH (jN To xb (zH (zA 4)) (zH (zA 3)) (z_ _))) xB))) (uj jy gH rfl w_ jx (yz (zH (zi (zg (zZ hr)) zh (zA 0) (zA 4))) xB)))))) (Yk 2 (zS (zy (Wd zU (zH (zA 2)))))))))))
noncomputable abbrev MO:Stmt:=top 78
theorem ZG:yP ["_law_words", "_law_found", "_law_address", "_law_row", "_law_following", "_law_target"] ["_law_words"] (zx MO):=by ac_rfl
variable(Uu:IB P w K mg base)(Uw:ID P w K mg base)(Xy:Jn P w K mg base)
noncomputable def Js:HT:=λP w K mg base=>yQ P w K mg base "_law_lines" ["_law_words"] 4 (yU K Zo)
include X G yO w_ Uu Uw Xy in
theorem bK(a:zX K "_law_lines" MO):Js P w K mg base:=(a.d1 X G).oS P w base 3 Zo ZG yg λhr=>(zN (tF (i:=1) ZG.nd rfl (Or.inl rfl) (xG zO (yC yF (by decide)))) (zN (ze (i:=2) ZG.nd rfl (Or.inl rfl) zE) (zN (B7 vP (zu vf xb (zH (zA 2)) (zH (wU we wg rfl yO wd (yz (zH (zA 0)) xB))) (z_ _)) (zN (lD (zp Uu hr rfl (zC (zA 0) (zC (zA 2) zO))) (iD (YY (n:=3) rfl (tD (xM (i:=3) ZG.nd rfl (Or.inl rfl)) (tD (xM (i:=4) ZG.nd rfl (Or.inl rfl)) (tD (xM (i:=5) ZG.nd rfl (Or.inl rfl)) YZ)))) rfl rfl rfl)) (zN (uM (qv 1) (y_ (xG (zC (uj jy gH rfl w_ jx (yz (zH (zA 2)) xB)) (zC (zp Xy hr rfl (zC (zi (zg (zZ hr)) zh (zA 0) (zA 2)) zO)) (zC (zp Uw hr rfl (zC (zA 3) (zC (zA 5) zO))) zO))) (yC (zL (zL (zL yF))) (by decide))))) (zN (yN (zu jJ xb (zH (zA 4)) (zH (zJ yH yG (zA 2) zE)) (z_ _)) (zS (uM (qv 1) (y_ (xG (zC (uj jy gH rfl w_ jx (yz (zH (zJ yH yG (zA 2) zE)) xB)) (zC (zp Xy hr rfl (zC (zi (zg (zZ hr)) zh (zA 0) (zJ yH yG (zA 2) zE)) zO)) (zC zU zO))) (yC (zL (zL (zL yF))) (by decide)))))) yX) (zS (ze (i:=2) ZG.nd rfl (Or.inl rfl) (zA 4))))))) (zS (ZL 1)))))
noncomputable abbrev MU:Stmt:=top 79
theorem Gm:yP ["_law_found", "_law_one"] ["_law_found"] (zx MU):=by ac_rfl
variable(Yq:mg "isinstance" = none)(Qo:mg "bool" = none)
noncomputable def Jy:HT:=λP w K mg base=>yQ P w K mg base "_law_numbers" ["_law_found"] 1 (yU K Zp)
include X G Yq pY Qo vE in
theorem bQ(a:zX K "_law_numbers" MU):Jy P w K mg base:=(a.d1 X G).oS P w base 0 Zp Gm yg λhr=>(zN (yN (QK (pW (B3 .list rfl rfl Yq pY Do (zH (zA 0))))) (zS (zy Q9)) yX) (zN (uN vP rfl (tj (zA 0)) (tf (xM (i:=1) Gm.nd rfl (Or.inl rfl)) rfl) (zS (yN (qg (gX (QK (pW (B3 .int rfl rfl Yq vE kB (zH (zA 1))))) (gY (pW (B3 .bool rfl rfl Yq Qo Nm (zH (zA 1))))))) (zS (zy Q9)) yX))) (zS (zy Q9))))
noncomputable abbrev MP:Stmt:=top 80
theorem jM:yP ["_law_words", "_law_cell", "_law_text", "_law_k", "_law_line", "_law_way", "_law_behind", "_law_ahead"] ["_law_words", "_law_cell"] (zx MP):=by ac_rfl
variable(Uo:Js P w K mg base)
noncomputable def Jt:HT:=λP w K mg base=>yQ P w K mg base "_law_loose" ["_law_words", "_law_cell"] 5 (yU K XI)
include X G ZS Uo wy in
theorem bL(a:zX K "_law_loose" MP):Jt P w K mg base:=(a.d2 X G).oS P w base 4 XI jM yg λhr=>(zN (ze (i:=2) jM.nd rfl (Or.inl rfl) zU) (zN (uN vP rfl (HC rfl ZS (zp Uo hr rfl (zC (zA 0) zO))) (QC (YY (n:=2) rfl (tD (xM (i:=3) jM.nd rfl (Or.inl rfl)) (tD (xM (i:=4) jM.nd rfl (Or.inl rfl)) YZ))) rfl rfl) (zN (ze (i:=5) jM.nd rfl (Or.inl rfl) (zp wy hr rfl (zC (zA 1) (zC (zA 3) zO)))) (zN (ze (i:=6) jM.nd rfl (Or.inl rfl) (zi (zg (zZ hr)) zh (y_ (xG (zC (zi (zg (zZ hr)) zh (zA 4) zE) (zC zU (zC (zJ yH yG zU (zi (zg (zZ hr)) zh (zA 4) zE)) (zC zU (zC zU zO))))) (yC (zL (zL (zL (zL (zL yF))))) (by decide)))) (zJ yl yk (zA 5) zE))) (zN (ze (i:=7) jM.nd rfl (Or.inl rfl) (zJ yH yG (zJ Ef Eb zU (zJ yl yk (zJ w6 w4 (zA 5) zE) zE)) (zi (zg (zZ hr)) zh (zA 4) zE))) (zN (ze (i:=2) jM.nd rfl (Or.inl rfl) (zJ yH yG (zJ yH yG (zJ yH yG (zJ yH yG (zJ yH yG (zJ yH yG (zA 2) (zA 7)) (zJ Ef Eb zU (zJ yH yG zE (zJ yl yk (zJ w6 w4 (zA 5) zE) zE)))) (zi (zg (zZ hr)) zh (zA 4) zE)) zU) (zA 6)) zU)) (zS (ze (i:=2) jM.nd rfl (Or.inl rfl) (zJ yH yG (zA 2) (zi (zg (zZ hr)) zh (y_ (xG (zC zU (zC zU (zC zU (zC zU (zC zU zO))))) (yC (zL (zL (zL (zL (zL yF))))) (by decide)))) (zJ yl yk (zJ w6 w4 (zA 5) zE) zE)))))))))) (zS (zy (zA 2)))))
noncomputable abbrev ZF:Stmt:=top 81
theorem Yd:yP ["_law_script", "_law_words", "_law_loose_here", "_law_text", "_law_found"] ["_law_script"] (zx ZF):=by ac_rfl
variable(Uy:IH P w K mg base)(Up:Jt P w K mg base)(W2:IJ P w K mg base)(W3:IP P w K mg base)(Ur:Jy P w K mg base)
include yO vE Uy Up vd W2 W3 Ur in
theorem bB{f:Addr}{fd:FuncData}(d:jq K "law" "law" ZF f fd):tM P w K mg base uu 11 f fd ["_law_script"] (We K):=AK d Yd (by decide) fK λcdv A outer s H E hr=>(zN (ze (i:=1) Yd.nd rfl (Or.inl rfl) (zp Uy hr rfl (zC (zA 0) zO))) (zN (ze (i:=2) Yd.nd rfl (Or.inl rfl) (zp Up hr rfl (zC (zA 1) (zC (zp vd hr rfl (zC (zA 0) (zC zE zO))) zO)))) (zN (yN (zu (wE (xF hr)) wD (zH (zJ yl yk (zJ w6 w4 (zp vd hr rfl (zC (zA 0) (zC zE zO))) zE) zE)) (zH zE) (z_ _)) (zS (ze (i:=2) Yd.nd rfl (Or.inl rfl) (Yi (zA 2) gT (gU (zJ v_ vz (wU we wg rfl yO wd (yz (zH (zA 2)) xB)) (uj Y3 YR rfl vE kB (yz (zH (jN (wE (xF hr)) wD (zH (Yi (zA 2) (gU (uL um ul zE)) gT)) (zH zU) (z_ _))) xB))))))) yX) (zN (uN vP rfl (tj (y_ (xG (zC (zp W2 hr rfl (zC (zA 1) zO)) (zC (zA 2) (zC (zp W2 hr rfl (zC (zA 1) zO)) zO))) (yC (zL (zL (zL yF))) (by decide))))) (tf (xM (i:=3) Yd.nd rfl (Or.inl rfl)) rfl) (zN (tF (i:=4) Yd.nd rfl (Or.inl rfl) (QB W3 hr rfl (zC (zA 3) zO))) (zN (yN (qg (gX (QK (pW (hJ Ur hr rfl (yz (Mw 4) xB)))) (gY (zu (ug (xF hr)) ue (Mw 4) (zH (zA 1)) (z_ _))))) (zS (zy Q9)) yX) (zS (uM (qv 4) zE))))) (Yk 4 (zS (zy (jN (wE (xF hr)) wD (zH (y_ (QB W3 hr rfl (zC (zA 2) zO)))) (zH (zA 1)) (z_ _)))))))))
end
end
theorem all_mk{l:W.OpenLaw}{w:World}{K:W.Frag}{h:Heap}{mg:Str->Option Value}{fa:Addr}(X:K.In h)(G:h.Ns mainGlobals mg)(hfa:mg "law" = some (.ref fa))
  {f55:Addr}{od55 an55:Option Addr}{sl55:Array (Option Value)}{oc55 kV55 dc55 pm55 cd55 ct55:Value}
  (a0:zX K "part" Mi)
  (a1:zX K "with_part" Mt)
  (a2:zX K "signed" Mn)
  (a3:zX K "hex_text" M9)
  (a4:zX K "is_label" MB)
  (a5:zX K "field_text" M5)
  (a6:zX K "item_text" MD)
  (a7:zX K "place_in_word" Mj)
  (a8:zX K "number_at" Mh)
  (a9:zX K "with_number" Ms)
  (a10:zX K "fields_in_word" M6)
  (a11:zX K "first_word" M7)
  (a12:zX K "code_in" M3)
  (a13:zX K "kind_of_code" ME)
  (a14:zX K "is_near_code" MC)
  (a15:zX K "is_far_code" MA)
  (a16:zX K "held_in" M8)
  (a17:zX K "row_in" Mm)
  (a18:zX K "far_at" M4)
  (a19:zX K "told_at" Mp)
  (a20:zX K "walked" Mr)
  (a21:zX K "behind" M2)
  (a22:zX K "word_fault" Mu)
  (a23:zX K "table_of" Mo)
  (a24:zX K "told_text" Mq)
  (a25:zX K "listing" Mg)
  (a26:zX K "read_hex" Mk)
  (a27:zX K "word_told" Mv)
  (a28:zX K "read_listing" Ml)
  (a29:zX K "_law_cell_at" MH)
  (a30:zX K "_law_mixed" MR)
  (a31:zX K "_law_name_by" MS)
  (a32:zX K "_law_row_by" MZ)
  (a33:zX K "_law_place_by" MW)
  (a34:zX K "_law_rows_by" Mb)
  (a35:zX K "_law_jumps_in" MN)
  (a36:zX K "_law_many_by" MQ)
  (a37:zX K "_law_items_by" MJ)
  (a38:zX K "_law_built" MG)
  (a39:zX K "_law_stands" Mc)
  (a40:zX K "_law_near_ones" MT)
  (a41:zX K "_law_reaching" MX)
  (a42:zX K "_law_any_far" MF)
  (a43:zX K "_law_order" MV)
  (a44:zX K "_law_word" Md)
  (a45:zX K "_law_jump_words" ML)
  (a46:zX K "_law_written" Mf)
  (a47:zX K "_law_jump_at" MK)
  (a48:zX K "_law_row_at" MY)
  (a49:zX K "_law_words_built" Me)
  (a50:zX K "_law_hex" MI)
  (a51:zX K "_law_row_text" Ma)
  (a52:zX K "_law_lines" MO)
  (a53:zX K "_law_numbers" MU)
  (a54:zX K "_law_loose" MP)
  (a55:W.nsIn K mainGlobals "law" = some (some (.ref f55)))
  (l55:K.lookup f55=FK "law" ZF oc55 od55 sl55 kV55 dc55 pm55 an55 cd55 ct55)
  (c55:W.codeIn K cd55 "law" = true)(k55:W.keepIn K (.ref f55)=true)
  (EW:W.nsIn K mainGlobals "str" = some none)
  (EY:W.nsIn K mainGlobals "zip" = some none)
  (ER:W.nsIn K mainGlobals "list" = some none)
  (EQ:W.nsIn K mainGlobals "len" = some none)
  (EX:W.nsIn K mainGlobals "tuple" = some none)
  (ES:W.nsIn K mainGlobals "max" = some none)
  (EM:W.nsIn K mainGlobals "enumerate" = some none)
  (EU:W.nsIn K mainGlobals "range" = some none)
  (ET:W.nsIn K mainGlobals "min" = some none)
  (EV:W.nsIn K mainGlobals "sorted" = some none)
  (EN:W.nsIn K mainGlobals "int" = some none)
  (EO:W.nsIn K mainGlobals "isinstance" = some none)
  (EL:W.nsIn K mainGlobals "bool" = some none)
  {j4:Addr}{aW:Nat}{iw:Array (Option Value)}{oX oZ og oh oi oj om oo:Tok}(Ci:W.nsIn K mainGlobals "SIGN_LOWS" = some (some (.ref j4)))
  (LS:K.lookup j4=some ⟨.type "tuple",none,.seq #[.int 28 oX,.int 24 oZ,.int 20 og,.int 16 oh,.int 12 oi,.int 8 oj,.int 4 om,.int 0 oo] aW,iw⟩)
  {m7:Tok}(Ch:W.nsIn K mainGlobals "SIGNS" = some (some (.str "0123456789abcdef" m7)))
  {jY:Addr}{aR:Nat}(Ca:W.nsIn K mainGlobals "FIELDS" = some (some (.ref jY)))
  {mD:Tok}
  {VC:Addr}{PQ:Option Addr}{Ao:Nat}{iK:Array (Option Value)}
  {r9:Tok}
  {me:Tok}
  {VP:Addr}{Pf:Option Addr}{aA:Nat}{iW:Array (Option Value)}
  {rg rk:Tok}
  {mr:Tok}
  {VT:Addr}{Pj:Option Addr}{aE:Nat}{ia:Array (Option Value)}
  {r_ sB:Tok}
  {mz:Tok}
  {VW:Addr}{Pl:Option Addr}{aG:Nat}{ig:Array (Option Value)}
  {sE sG:Tok}
  {n8:Tok}
  {VY:Addr}{Pn:Option Addr}{aI:Nat}{ij:Array (Option Value)}
  {sI sK:Tok}
  {nC:Tok}
  {Va:Addr}{Pp:Option Addr}{aK:Nat}{im:Array (Option Value)}
  {sM sN:Tok}
  {nF:Tok}
  {Vb:Addr}{Pq:Option Addr}{aL:Nat}{io:Array (Option Value)}
  {sO sP:Tok}
  {nI:Tok}
  {Vc:Addr}{Pr:Option Addr}{aM:Nat}{ip:Array (Option Value)}
  {sQ sR:Tok}
  {nL:Tok}
  {Vd:Addr}{Ps:Option Addr}{aN:Nat}{iq:Array (Option Value)}
  {sS sT:Tok}
  {nN:Tok}
  {Ve:Addr}{Pu:Option Addr}{aO:Nat}{ir:Array (Option Value)}
  {sU sV:Tok}
  {mI:Tok}
  {VE:Addr}{PU:Option Addr}{Aq:Nat}{iM:Array (Option Value)}
  {rC rD:Tok}
  {mL:Tok}
  {VF:Addr}{PV:Option Addr}{Ar:Nat}{iN:Array (Option Value)}
  {rE rF:Tok}
  {mN:Tok}
  {VG:Addr}{PX:Option Addr}{As:Nat}{iO:Array (Option Value)}
  {rG rH:Tok}
  {mP:Tok}
  {VH:Addr}{PY:Option Addr}{Au:Nat}{iP:Array (Option Value)}
  {rJ rK:Tok}
  {mR:Tok}
  {VI:Addr}{PZ:Option Addr}{Av:Nat}{iQ:Array (Option Value)}
  {rL rM rN:Tok}
  {mT:Tok}
  {VJ:Addr}{Pa:Option Addr}{Aw:Nat}{iR:Array (Option Value)}
  {rO rP rQ:Tok}
  {mV:Tok}
  {VL:Addr}{Pb:Option Addr}{Ax:Nat}{iS:Array (Option Value)}
  {rR rT rV:Tok}
  {mX:Tok}
  {VM:Addr}{Pc:Option Addr}{Ay:Nat}{iT:Array (Option Value)}
  {rW rX rY:Tok}
  {mY:Tok}
  {VN:Addr}{Pd:Option Addr}{Az:Nat}{iU:Array (Option Value)}
  {rZ:Tok}
  {mZ:Tok}
  {VO:Addr}{Pe:Option Addr}{A_:Nat}{iV:Array (Option Value)}
  {re rf:Tok}
  {mj:Tok}
  {VR:Addr}{Ph:Option Addr}{aC:Nat}{iY:Array (Option Value)}
  {rp rq:Tok}
  {mn:Tok}
  {VS:Addr}{Pi:Option Addr}{aD:Nat}{iZ:Array (Option Value)}
  (Cm:K.lookup jY=some { cls:=.type "dict",data:=.dict #[⟨PyData.keyHash w.params "label",.str "label" mD,.ref VC⟩,⟨PyData.keyHash w.params "set",.str "set" me,.ref VP⟩,⟨PyData.keyHash w.params "high",.str "high" mr,.ref VT⟩,⟨PyData.keyHash w.params "copy",.str "copy" mz,.ref VW⟩,⟨PyData.keyHash w.params "add",.str "add" n8,.ref VY⟩,⟨PyData.keyHash w.params "addc",.str "addc" nC,.ref Va⟩,⟨PyData.keyHash w.params "sub",.str "sub" nF,.ref Vb⟩,⟨PyData.keyHash w.params "subc",.str "subc" nI,.ref Vc⟩,⟨PyData.keyHash w.params "and",.str "and" nL,.ref Vd⟩,⟨PyData.keyHash w.params "or",.str "or" nN,.ref Ve⟩,⟨PyData.keyHash w.params "xor",.str "xor" mI,.ref VE⟩,⟨PyData.keyHash w.params "test",.str "test" mL,.ref VF⟩,⟨PyData.keyHash w.params "left",.str "left" mN,.ref VG⟩,⟨PyData.keyHash w.params "right",.str "right" mP,.ref VH⟩,⟨PyData.keyHash w.params "load",.str "load" mR,.ref VI⟩,⟨PyData.keyHash w.params "store",.str "store" mT,.ref VJ⟩,⟨PyData.keyHash w.params "loadw",.str "loadw" mV,.ref VL⟩,⟨PyData.keyHash w.params "storew",.str "storew" mX,.ref VM⟩,⟨PyData.keyHash w.params "jump",.str "jump" mY,.ref VN⟩,⟨PyData.keyHash w.params "when",.str "when" mZ,.ref VO⟩,⟨PyData.keyHash w.params "unless",.str "unless" mj,.ref VR⟩,⟨PyData.keyHash w.params "stop",.str "stop" mn,.ref VS⟩] aR })(Cq:(jY==sysModules)=false)
  (Ct:K.lookup VC=some ⟨.type "tuple",PQ,.seq #[.str "name" r9] Ao,iK⟩)
  (E6:K.lookup VP=some ⟨.type "tuple",Pf,.seq #[.str "d" rg,.str "n" rk] aA,iW⟩)
  (EA:K.lookup VT=some ⟨.type "tuple",Pj,.seq #[.str "d" r_,.str "n" sB] aE,ia⟩)
  (EC:K.lookup VW=some ⟨.type "tuple",Pl,.seq #[.str "d" sE,.str "s" sG] aG,ig⟩)
  (EE:K.lookup VY=some ⟨.type "tuple",Pn,.seq #[.str "d" sI,.str "s" sK] aI,ij⟩)
  (EG:K.lookup Va=some ⟨.type "tuple",Pp,.seq #[.str "d" sM,.str "s" sN] aK,im⟩)
  (EH:K.lookup Vb=some ⟨.type "tuple",Pq,.seq #[.str "d" sO,.str "s" sP] aL,io⟩)
  (EI:K.lookup Vc=some ⟨.type "tuple",Pr,.seq #[.str "d" sQ,.str "s" sR] aM,ip⟩)
  (EJ:K.lookup Vd=some ⟨.type "tuple",Ps,.seq #[.str "d" sS,.str "s" sT] aN,iq⟩)
  (EK:K.lookup Ve=some ⟨.type "tuple",Pu,.seq #[.str "d" sU,.str "s" sV] aO,ir⟩)
  (Cv:K.lookup VE=some ⟨.type "tuple",PU,.seq #[.str "d" rC,.str "s" rD] Aq,iM⟩)
  (Cw:K.lookup VF=some ⟨.type "tuple",PV,.seq #[.str "d" rE,.str "s" rF] Ar,iN⟩)
  (Cy:K.lookup VG=some ⟨.type "tuple",PX,.seq #[.str "d" rG,.str "n" rH] As,iO⟩)
  (Cz:K.lookup VH=some ⟨.type "tuple",PY,.seq #[.str "d" rJ,.str "n" rK] Au,iP⟩)
  (C_:K.lookup VI=some ⟨.type "tuple",PZ,.seq #[.str "d" rL,.str "s" rM,.str "n" rN] Av,iQ⟩)
  (E1:K.lookup VJ=some ⟨.type "tuple",Pa,.seq #[.str "d" rO,.str "s" rP,.str "n" rQ] Aw,iR⟩)
  (E2:K.lookup VL=some ⟨.type "tuple",Pb,.seq #[.str "d" rR,.str "s" rT,.str "n" rV] Ax,iS⟩)
  (E3:K.lookup VM=some ⟨.type "tuple",Pc,.seq #[.str "d" rW,.str "s" rX,.str "n" rY] Ay,iT⟩)
  (E4:K.lookup VN=some ⟨.type "tuple",Pd,.seq #[.str "name" rZ] Az,iU⟩)
  (E5:K.lookup VO=some ⟨.type "tuple",Pe,.seq #[.str "mark" re,.str "name" rf] A_,iV⟩)
  (E8:K.lookup VR=some ⟨.type "tuple",Ph,.seq #[.str "mark" rp,.str "name" rq] aC,iY⟩)
  (E9:K.lookup VS=some ⟨.type "tuple",Pi,.seq #[] aD,iZ⟩)
  {jZ:Addr}{aU:Nat}(Cf:W.nsIn K mainGlobals "NUMBER_WIDTHS" = some (some (.ref jZ)))
  {mF:Tok}
  {nk:Tok}
  {mh:Tok}
  {o8:Tok}
  {mv:Tok}
  {oC:Tok}
  {m_:Tok}
  {oE:Tok}
  {n9:Tok}
  {oG:Tok}
  {nD:Tok}
  {oI:Tok}
  {nG:Tok}
  {oK:Tok}
  {nJ:Tok}
  {oN:Tok}
  (Cn:K.lookup jZ=some { cls:=.type "dict",data:=.dict #[⟨PyData.keyHash w.params "set",.str "set" mF,.int 16 nk⟩,⟨PyData.keyHash w.params "high",.str "high" mh,.int 16 o8⟩,⟨PyData.keyHash w.params "left",.str "left" mv,.int 5 oC⟩,⟨PyData.keyHash w.params "right",.str "right" m_,.int 5 oE⟩,⟨PyData.keyHash w.params "load",.str "load" n9,.int 8 oG⟩,⟨PyData.keyHash w.params "store",.str "store" nD,.int 8 oI⟩,⟨PyData.keyHash w.params "loadw",.str "loadw" nG,.int 8 oK⟩,⟨PyData.keyHash w.params "storew",.str "storew" nJ,.int 8 oN⟩] aU })(Cr:(jZ==sysModules)=false)
  {l_:Tok}(Ce:W.nsIn K mainGlobals "NUMBER_LOW" = some (some (.int 0 l_)))
  {ja:Addr}{aV:Nat}(Cg:W.nsIn K mainGlobals "PLACES" = some (some (.ref ja)))
  {mG:Tok}
  {VD:Addr}{PR:Option Addr}{Ap:Nat}{iL:Array (Option Value)}
  {rA rB:Tok}
  {mi:Tok}
  {VQ:Addr}{Pg:Option Addr}{aB:Nat}{iX:Array (Option Value)}
  {rh rl:Tok}
  {mw:Tok}
  {VU:Addr}{Pk:Option Addr}{aF:Nat}{ic:Array (Option Value)}
  {sA sC:Tok}
  {n4:Tok}
  {VX:Addr}{Pm:Option Addr}{aH:Nat}{ii:Array (Option Value)}
  {sF sH:Tok}
  {nA:Tok}
  {VZ:Addr}{Po:Option Addr}{aJ:Nat}{ik:Array (Option Value)}
  {sJ sL:Tok}
  (Co:K.lookup ja=some { cls:=.type "dict",data:=.dict #[⟨PyData.keyHash w.params "kind",.str "kind" mG,.ref VD⟩,⟨PyData.keyHash w.params "d",.str "d" mi,.ref VQ⟩,⟨PyData.keyHash w.params "s",.str "s" mw,.ref VU⟩,⟨PyData.keyHash w.params "mark",.str "mark" n4,.ref VX⟩,⟨PyData.keyHash w.params "distance",.str "distance" nA,.ref VZ⟩] aV })(Cs:(ja==sysModules)=false)
  (Cu:K.lookup VD=some ⟨.type "tuple",PR,.seq #[.int 27 rA,.int 5 rB] Ap,iL⟩)
  (E7:K.lookup VQ=some ⟨.type "tuple",Pg,.seq #[.int 24 rh,.int 3 rl] aB,iX⟩)
  (EB:K.lookup VU=some ⟨.type "tuple",Pk,.seq #[.int 21 sA,.int 3 sC] aF,ic⟩)
  (ED:K.lookup VX=some ⟨.type "tuple",Pm,.seq #[.int 24 sF,.int 2 sH] aH,ii⟩)
  (EF:K.lookup VZ=some ⟨.type "tuple",Po,.seq #[.int 0 sJ,.int 5 sL] aJ,ik⟩)
  {qt:Addr}{aS:Nat}{iu:Array (Option Value)}{oW oY oa:Tok}(Cc:W.nsIn K mainGlobals "MARKS" = some (some (.ref qt)))
  (LQ:K.lookup qt=some ⟨.type "tuple",none,.seq #[.str "carry" oW,.str "nought" oY,.str "sign" oa] aS,iu⟩)
  {qq:Addr}{aP:Nat}(CY:W.nsIn K mainGlobals "CODES" = some (some (.ref qq)))
  {mB:Tok}
  {nh:Tok}
  {ma:Tok}
  {o3:Tok}
  {mo:Tok}
  {o9:Tok}
  {my:Tok}
  {oD:Tok}
  {n5:Tok}
  {oF:Tok}
  {nB:Tok}
  {oH:Tok}
  {nE:Tok}
  {oJ:Tok}
  {nH:Tok}
  {oM:Tok}
  {nK:Tok}
  {oO:Tok}
  {nM:Tok}
  {oP:Tok}
  {mH:Tok}
  {nu:Tok}
  {mK:Tok}
  {nv:Tok}
  {mM:Tok}
  {nw:Tok}
  {mO:Tok}
  {ny:Tok}
  {mQ:Tok}
  {nz:Tok}
  {mS:Tok}
  {n_:Tok}
  {mU:Tok}
  {o0:Tok}
  {mW:Tok}
  {o1:Tok}
  (LO:K.lookup qq=some { cls:=.type "dict",data:=.dict #[⟨PyData.keyHash w.params "stop",.str "stop" mB,.int 0 nh⟩,⟨PyData.keyHash w.params "set",.str "set" ma,.int 1 o3⟩,⟨PyData.keyHash w.params "high",.str "high" mo,.int 2 o9⟩,⟨PyData.keyHash w.params "copy",.str "copy" my,.int 3 oD⟩,⟨PyData.keyHash w.params "add",.str "add" n5,.int 4 oF⟩,⟨PyData.keyHash w.params "addc",.str "addc" nB,.int 5 oH⟩,⟨PyData.keyHash w.params "sub",.str "sub" nE,.int 6 oJ⟩,⟨PyData.keyHash w.params "subc",.str "subc" nH,.int 7 oM⟩,⟨PyData.keyHash w.params "and",.str "and" nK,.int 8 oO⟩,⟨PyData.keyHash w.params "or",.str "or" nM,.int 9 oP⟩,⟨PyData.keyHash w.params "xor",.str "xor" mH,.int 10 nu⟩,⟨PyData.keyHash w.params "test",.str "test" mK,.int 11 nv⟩,⟨PyData.keyHash w.params "left",.str "left" mM,.int 12 nw⟩,⟨PyData.keyHash w.params "right",.str "right" mO,.int 13 ny⟩,⟨PyData.keyHash w.params "load",.str "load" mQ,.int 14 nz⟩,⟨PyData.keyHash w.params "store",.str "store" mS,.int 15 n_⟩,⟨PyData.keyHash w.params "loadw",.str "loadw" mU,.int 16 o0⟩,⟨PyData.keyHash w.params "storew",.str "storew" mW,.int 17 o1⟩] aP })(LU:(qq==sysModules)=false)
  {qu:Addr}{aT:Nat}(Cd:W.nsIn K mainGlobals "NEAR_CODES" = some (some (.ref qu)))
  {mE:Tok}
  {nj:Tok}
  {mf:Tok}
  {o7:Tok}
  {mt:Tok}
  {oB:Tok}
  (LR:K.lookup qu=some { cls:=.type "dict",data:=.dict #[⟨PyData.keyHash w.params "jump",.str "jump" mE,.int 18 nj⟩,⟨PyData.keyHash w.params "when",.str "when" mf,.int 19 o7⟩,⟨PyData.keyHash w.params "unless",.str "unless" mt,.int 20 oB⟩] aT })(LW:(qu==sysModules)=false)
  {qr:Addr}{aQ:Nat}(CZ:W.nsIn K mainGlobals "FAR_CODES" = some (some (.ref qr)))
  {mC:Tok}
  {ni:Tok}
  {md:Tok}
  {o6:Tok}
  {mq:Tok}
  {oA:Tok}
  (LP:K.lookup qr=some { cls:=.type "dict",data:=.dict #[⟨PyData.keyHash w.params "jump",.str "jump" mC,.int 21 ni⟩,⟨PyData.keyHash w.params "when",.str "when" md,.int 22 o6⟩,⟨PyData.keyHash w.params "unless",.str "unless" mq,.int 23 oA⟩] aQ })(LV:(qr==sysModules)=false)
  {m8:Tok}(Cj:W.nsIn K mainGlobals "WORD_BITS" = some (some (.int 32 m8)))
  {lz:Tok}(CW:W.nsIn K mainGlobals "ADDRESS_SIGNS" = some (some (.int 5 lz)))
  : ∃fd:FuncData,(∀(s:Shared)(v:Value),BindsTo s fd ⟨[v],[]⟩ [("_law_script",v)])/\∀base:Heap,K.In base->base.Ns mainGlobals mg->tM l.prog w K mg base uu 11 fa fd ["_law_script"] (We K):=by
 have e:=hfa.symm.trans (W.mg_of X G a55);cases e;have w_:mg "str" = none:=W.mg_none_of X G EW;have ZU:mg "zip" = none:=W.mg_none_of X G EY;have pY:mg "list" = none:=W.mg_none_of X G ER;have yO:mg "len" = none:=W.mg_none_of X G EQ;have Qr:mg "tuple" = none:=W.mg_none_of X G EX;have ZT:mg "max" = none:=W.mg_none_of X G ES;have ZS:mg "enumerate" = none:=W.mg_none_of X G EM;have wF:mg "range" = none:=W.mg_none_of X G EU;have Qp:mg "min" = none:=W.mg_none_of X G ET;have Qq:mg "sorted" = none:=W.mg_none_of X G EV;have vE:mg "int" = none:=W.mg_none_of X G EN;have Yq:mg "isinstance" = none:=W.mg_none_of X G EO;have Qo:mg "bool" = none:=W.mg_none_of X G EL;have z01:Vo K j4:=⟨_,LS,rfl,rfl⟩;have kI:xU mg "SIGN_LOWS" (.ref j4):=⟨_,W.mg_of X G Ci,rfl⟩;have ZA:∀H,zf K H YE (.ref j4):=λH=>⟨j4,_,rfl,xn (xs:=[.int 28,.int 24,.int 20,.int 16,.int 12,.int 8,.int 4,.int 0]) LS (by show(8:Nat)<=sizeLine; decide) (.cons ⟨_,rfl⟩ (.cons ⟨_,rfl⟩ (.cons ⟨_,rfl⟩ (.cons ⟨_,rfl⟩ (.cons ⟨_,rfl⟩ (.cons ⟨_,rfl⟩ (.cons ⟨_,rfl⟩ (.cons ⟨_,rfl⟩ .nil)))))))) H,⟨_,_,rfl,rfl,⟨_,_,rfl,rfl,⟨_,_,rfl,rfl,⟨_,_,rfl,rfl,⟨_,_,rfl,rfl,⟨_,_,rfl,rfl,⟨_,_,rfl,rfl,⟨_,_,rfl,rfl,rfl⟩⟩⟩⟩⟩⟩⟩⟩,small (by decide)⟩
 have gC:xU mg "SIGNS" (.str "0123456789abcdef"):=⟨_,W.mg_of X G Ch,⟨_,rfl⟩⟩;have gK:∀H,zf K H (.str "0123456789abcdef") (.str "0123456789abcdef"):=λ_=>⟨rfl,small (by decide)⟩
 have kH:xU mg "FIELDS" (.ref jY):=⟨_,W.mg_of X G Ca,rfl⟩;have Z9:u9 K w jY pJ pK:=YA (us:=[.ref VC,.ref VP,.ref VT,.ref VW,.ref VY,.ref Va,.ref Vb,.ref Vc,.ref Vd,.ref Ve,.ref VE,.ref VF,.ref VG,.ref VH,.ref VI,.ref VJ,.ref VL,.ref VM,.ref VN,.ref VO,.ref VR,.ref VS]) Cm (.cons (.cons (.cons (.cons (.cons (.cons (.cons (.cons (.cons (.cons (.cons (.cons (.cons (.cons (.cons (.cons (.cons (.cons (.cons (.cons (.cons (.cons .nil)))))))))))))))))))))) (by decide +kernel) Cq (.cons rfl (.cons rfl (.cons rfl (.cons rfl (.cons rfl (.cons rfl (.cons rfl (.cons rfl (.cons rfl (.cons rfl (.cons rfl (.cons rfl (.cons rfl (.cons rfl (.cons rfl (.cons rfl (.cons rfl (.cons rfl (.cons rfl (.cons rfl (.cons rfl (.cons rfl .nil)))))))))))))))))))))) λH=>⟨_,_,rfl,⟨VC,_,rfl,xn (xs:=[.str "name"]) Ct (by show(1:Nat)<=sizeLine; decide) (.cons ⟨_,rfl⟩ .nil) H,⟨_,_,rfl,⟨rfl,small (by decide)⟩,rfl⟩,small (by decide)⟩,⟨_,_,rfl,⟨VP,_,rfl,xn (xs:=[.str "d",.str "n"]) E6 (by show(2:Nat)<=sizeLine; decide) (.cons ⟨_,rfl⟩ (.cons ⟨_,rfl⟩ .nil)) H,⟨_,_,rfl,⟨rfl,small (by decide)⟩,⟨_,_,rfl,⟨rfl,small (by decide)⟩,rfl⟩⟩,small (by decide)⟩,⟨_,_,rfl,⟨VT,_,rfl,xn (xs:=[.str "d",.str "n"]) EA (by show(2:Nat)<=sizeLine; decide) (.cons ⟨_,rfl⟩ (.cons ⟨_,rfl⟩ .nil)) H,⟨_,_,rfl,⟨rfl,small (by decide)⟩,⟨_,_,rfl,⟨rfl,small (by decide)⟩,rfl⟩⟩,small (by decide)⟩,⟨_,_,rfl,⟨VW,_,rfl,xn (xs:=[.str "d",.str "s"]) EC (by show(2:Nat)<=sizeLine; decide) (.cons ⟨_,rfl⟩ (.cons ⟨_,rfl⟩ .nil)) H,⟨_,_,rfl,⟨rfl,small (by decide)⟩,⟨_,_,rfl,⟨rfl,small (by decide)⟩,rfl⟩⟩,small (by decide)⟩,⟨_,_,rfl,⟨VY,_,rfl,xn (xs:=[.str "d",.str "s"]) EE (by show(2:Nat)<=sizeLine; decide) (.cons ⟨_,rfl⟩ (.cons ⟨_,rfl⟩ .nil)) H,⟨_,_,rfl,⟨rfl,small (by decide)⟩,⟨_,_,rfl,⟨rfl,small (by decide)⟩,rfl⟩⟩,small (by decide)⟩,⟨_,_,rfl,⟨Va,_,rfl,xn (xs:=[.str "d",.str "s"]) EG (by show(2:Nat)<=sizeLine; decide) (.cons ⟨_,rfl⟩ (.cons ⟨_,rfl⟩ .nil)) H,⟨_,_,rfl,⟨rfl,small (by decide)⟩,⟨_,_,rfl,⟨rfl,small (by decide)⟩,rfl⟩⟩,small (by decide)⟩,⟨_,_,rfl,⟨Vb,_,rfl,xn (xs:=[.str "d",.str "s"]) EH (by show(2:Nat)<=sizeLine; decide) (.cons ⟨_,rfl⟩ (.cons ⟨_,rfl⟩ .nil)) H,⟨_,_,rfl,⟨rfl,small (by decide)⟩,⟨_,_,rfl,⟨rfl,small (by decide)⟩,rfl⟩⟩,small (by decide)⟩,⟨_,_,rfl,⟨Vc,_,rfl,xn (xs:=[.str "d",.str "s"]) EI (by show(2:Nat)<=sizeLine; decide) (.cons ⟨_,rfl⟩ (.cons ⟨_,rfl⟩ .nil)) H,⟨_,_,rfl,⟨rfl,small (by decide)⟩,⟨_,_,rfl,⟨rfl,small (by decide)⟩,rfl⟩⟩,small (by decide)⟩,⟨_,_,rfl,⟨Vd,_,rfl,xn (xs:=[.str "d",.str "s"]) EJ (by show(2:Nat)<=sizeLine; decide) (.cons ⟨_,rfl⟩ (.cons ⟨_,rfl⟩ .nil)) H,⟨_,_,rfl,⟨rfl,small (by decide)⟩,⟨_,_,rfl,⟨rfl,small (by decide)⟩,rfl⟩⟩,small (by decide)⟩,⟨_,_,rfl,⟨Ve,_,rfl,xn (xs:=[.str "d",.str "s"]) EK (by show(2:Nat)<=sizeLine; decide) (.cons ⟨_,rfl⟩ (.cons ⟨_,rfl⟩ .nil)) H,⟨_,_,rfl,⟨rfl,small (by decide)⟩,⟨_,_,rfl,⟨rfl,small (by decide)⟩,rfl⟩⟩,small (by decide)⟩,⟨_,_,rfl,⟨VE,_,rfl,xn (xs:=[.str "d",.str "s"]) Cv (by show(2:Nat)<=sizeLine; decide) (.cons ⟨_,rfl⟩ (.cons ⟨_,rfl⟩ .nil)) H,⟨_,_,rfl,⟨rfl,small (by decide)⟩,⟨_,_,rfl,⟨rfl,small (by decide)⟩,rfl⟩⟩,small (by decide)⟩,⟨_,_,rfl,⟨VF,_,rfl,xn (xs:=[.str "d",.str "s"]) Cw (by show(2:Nat)<=sizeLine; decide) (.cons ⟨_,rfl⟩ (.cons ⟨_,rfl⟩ .nil)) H,⟨_,_,rfl,⟨rfl,small (by decide)⟩,⟨_,_,rfl,⟨rfl,small (by decide)⟩,rfl⟩⟩,small (by decide)⟩,⟨_,_,rfl,⟨VG,_,rfl,xn (xs:=[.str "d",.str "n"]) Cy (by show(2:Nat)<=sizeLine; decide) (.cons ⟨_,rfl⟩ (.cons ⟨_,rfl⟩ .nil)) H,⟨_,_,rfl,⟨rfl,small (by decide)⟩,⟨_,_,rfl,⟨rfl,small (by decide)⟩,rfl⟩⟩,small (by decide)⟩,⟨_,_,rfl,⟨VH,_,rfl,xn (xs:=[.str "d",.str "n"]) Cz (by show(2:Nat)<=sizeLine; decide) (.cons ⟨_,rfl⟩ (.cons ⟨_,rfl⟩ .nil)) H,⟨_,_,rfl,⟨rfl,small (by decide)⟩,⟨_,_,rfl,⟨rfl,small (by decide)⟩,rfl⟩⟩,small (by decide)⟩,⟨_,_,rfl,⟨VI,_,rfl,xn (xs:=[.str "d",.str "s",.str "n"]) C_ (by show(3:Nat)<=sizeLine; decide) (.cons ⟨_,rfl⟩ (.cons ⟨_,rfl⟩ (.cons ⟨_,rfl⟩ .nil))) H,⟨_,_,rfl,⟨rfl,small (by decide)⟩,⟨_,_,rfl,⟨rfl,small (by decide)⟩,⟨_,_,rfl,⟨rfl,small (by decide)⟩,rfl⟩⟩⟩,small (by decide)⟩,⟨_,_,rfl,⟨VJ,_,rfl,xn (xs:=[.str "d",.str "s",.str "n"]) E1 (by show(3:Nat)<=sizeLine; decide) (.cons ⟨_,rfl⟩ (.cons ⟨_,rfl⟩ (.cons ⟨_,rfl⟩ .nil))) H,⟨_,_,rfl,⟨rfl,small (by decide)⟩,⟨_,_,rfl,⟨rfl,small (by decide)⟩,⟨_,_,rfl,⟨rfl,small (by decide)⟩,rfl⟩⟩⟩,small (by decide)⟩,⟨_,_,rfl,⟨VL,_,rfl,xn (xs:=[.str "d",.str "s",.str "n"]) E2 (by show(3:Nat)<=sizeLine; decide) (.cons ⟨_,rfl⟩ (.cons ⟨_,rfl⟩ (.cons ⟨_,rfl⟩ .nil))) H,⟨_,_,rfl,⟨rfl,small (by decide)⟩,⟨_,_,rfl,⟨rfl,small (by decide)⟩,⟨_,_,rfl,⟨rfl,small (by decide)⟩,rfl⟩⟩⟩,small (by decide)⟩,⟨_,_,rfl,⟨VM,_,rfl,xn (xs:=[.str "d",.str "s",.str "n"]) E3 (by show(3:Nat)<=sizeLine; decide) (.cons ⟨_,rfl⟩ (.cons ⟨_,rfl⟩ (.cons ⟨_,rfl⟩ .nil))) H,⟨_,_,rfl,⟨rfl,small (by decide)⟩,⟨_,_,rfl,⟨rfl,small (by decide)⟩,⟨_,_,rfl,⟨rfl,small (by decide)⟩,rfl⟩⟩⟩,small (by decide)⟩,⟨_,_,rfl,⟨VN,_,rfl,xn (xs:=[.str "name"]) E4 (by show(1:Nat)<=sizeLine; decide) (.cons ⟨_,rfl⟩ .nil) H,⟨_,_,rfl,⟨rfl,small (by decide)⟩,rfl⟩,small (by decide)⟩,⟨_,_,rfl,⟨VO,_,rfl,xn (xs:=[.str "mark",.str "name"]) E5 (by show(2:Nat)<=sizeLine; decide) (.cons ⟨_,rfl⟩ (.cons ⟨_,rfl⟩ .nil)) H,⟨_,_,rfl,⟨rfl,small (by decide)⟩,⟨_,_,rfl,⟨rfl,small (by decide)⟩,rfl⟩⟩,small (by decide)⟩,⟨_,_,rfl,⟨VR,_,rfl,xn (xs:=[.str "mark",.str "name"]) E8 (by show(2:Nat)<=sizeLine; decide) (.cons ⟨_,rfl⟩ (.cons ⟨_,rfl⟩ .nil)) H,⟨_,_,rfl,⟨rfl,small (by decide)⟩,⟨_,_,rfl,⟨rfl,small (by decide)⟩,rfl⟩⟩,small (by decide)⟩,⟨_,_,rfl,⟨VS,_,rfl,xn (xs:=[]) E9 (by show(0:Nat)<=sizeLine; decide) .nil H,rfl,small (by decide)⟩,rfl⟩⟩⟩⟩⟩⟩⟩⟩⟩⟩⟩⟩⟩⟩⟩⟩⟩⟩⟩⟩⟩⟩
 have UN:xU mg "NUMBER_WIDTHS" (.ref jZ):=⟨_,W.mg_of X G Cf,rfl⟩;have Tu:u9 K w jZ Oo Ou:=YA (us:=[.int 16,.int 16,.int 5,.int 5,.int 8,.int 8,.int 8,.int 8]) Cn (.cons (.cons (.cons (.cons (.cons (.cons (.cons (.cons .nil)))))))) (by decide +kernel) Cr (.cons ⟨_,rfl⟩ (.cons ⟨_,rfl⟩ (.cons ⟨_,rfl⟩ (.cons ⟨_,rfl⟩ (.cons ⟨_,rfl⟩ (.cons ⟨_,rfl⟩ (.cons ⟨_,rfl⟩ (.cons ⟨_,rfl⟩ .nil)))))))) λH=>⟨_,_,rfl,rfl,⟨_,_,rfl,rfl,⟨_,_,rfl,rfl,⟨_,_,rfl,rfl,⟨_,_,rfl,rfl,⟨_,_,rfl,rfl,⟨_,_,rfl,rfl,⟨_,_,rfl,rfl,rfl⟩⟩⟩⟩⟩⟩⟩⟩
 have UM:xU mg "NUMBER_LOW" (.int 0):=⟨_,W.mg_of X G Ce,⟨_,rfl⟩⟩;have Tt:∀H,zf K H (.int 0) (.int 0):=λ_=>rfl
 have vx:xU mg "PLACES" (.ref ja):=⟨_,W.mg_of X G Cg,rfl⟩;have u0:u9 K w ja uF uG:=YA (us:=[.ref VD,.ref VQ,.ref VU,.ref VX,.ref VZ]) Co (.cons (.cons (.cons (.cons (.cons .nil))))) (by decide +kernel) Cs (.cons rfl (.cons rfl (.cons rfl (.cons rfl (.cons rfl .nil))))) λH=>⟨_,_,rfl,⟨VD,_,rfl,xn (xs:=[.int 27,.int 5]) Cu (by show(2:Nat)<=sizeLine; decide) (.cons ⟨_,rfl⟩ (.cons ⟨_,rfl⟩ .nil)) H,⟨_,_,rfl,rfl,⟨_,_,rfl,rfl,rfl⟩⟩,small (by decide)⟩,⟨_,_,rfl,⟨VQ,_,rfl,xn (xs:=[.int 24,.int 3]) E7 (by show(2:Nat)<=sizeLine; decide) (.cons ⟨_,rfl⟩ (.cons ⟨_,rfl⟩ .nil)) H,⟨_,_,rfl,rfl,⟨_,_,rfl,rfl,rfl⟩⟩,small (by decide)⟩,⟨_,_,rfl,⟨VU,_,rfl,xn (xs:=[.int 21,.int 3]) EB (by show(2:Nat)<=sizeLine; decide) (.cons ⟨_,rfl⟩ (.cons ⟨_,rfl⟩ .nil)) H,⟨_,_,rfl,rfl,⟨_,_,rfl,rfl,rfl⟩⟩,small (by decide)⟩,⟨_,_,rfl,⟨VX,_,rfl,xn (xs:=[.int 24,.int 2]) ED (by show(2:Nat)<=sizeLine; decide) (.cons ⟨_,rfl⟩ (.cons ⟨_,rfl⟩ .nil)) H,⟨_,_,rfl,rfl,⟨_,_,rfl,rfl,rfl⟩⟩,small (by decide)⟩,⟨_,_,rfl,⟨VZ,_,rfl,xn (xs:=[.int 0,.int 5]) EF (by show(2:Nat)<=sizeLine; decide) (.cons ⟨_,rfl⟩ (.cons ⟨_,rfl⟩ .nil)) H,⟨_,_,rfl,rfl,⟨_,_,rfl,rfl,rfl⟩⟩,small (by decide)⟩,rfl⟩⟩⟩⟩⟩
 have TF:Vo K qt:=⟨_,LQ,rfl,rfl⟩;have gA:xU mg "MARKS" (.ref qt):=⟨_,W.mg_of X G Cc,rfl⟩;have gJ:∀H,zf K H kL (.ref qt):=λH=>⟨qt,_,rfl,xn (xs:=[.str "carry",.str "nought",.str "sign"]) LQ (by show(3:Nat)<=sizeLine; decide) (.cons ⟨_,rfl⟩ (.cons ⟨_,rfl⟩ (.cons ⟨_,rfl⟩ .nil))) H,⟨_,_,rfl,⟨rfl,small (by decide)⟩,⟨_,_,rfl,⟨rfl,small (by decide)⟩,⟨_,_,rfl,⟨rfl,small (by decide)⟩,rfl⟩⟩⟩,small (by decide)⟩
 have Xo:xU mg "CODES" (.ref qq):=⟨_,W.mg_of X G CY,rfl⟩;have UB:tO K w qq pI Xv:=On (us:=Xv) LO (.cons (.cons (.cons (.cons (.cons (.cons (.cons (.cons (.cons (.cons (.cons (.cons (.cons (.cons (.cons (.cons (.cons (.cons .nil)))))))))))))))))) (by decide +kernel) LU (.cons ⟨_,rfl⟩ (.cons ⟨_,rfl⟩ (.cons ⟨_,rfl⟩ (.cons ⟨_,rfl⟩ (.cons ⟨_,rfl⟩ (.cons ⟨_,rfl⟩ (.cons ⟨_,rfl⟩ (.cons ⟨_,rfl⟩ (.cons ⟨_,rfl⟩ (.cons ⟨_,rfl⟩ (.cons ⟨_,rfl⟩ (.cons ⟨_,rfl⟩ (.cons ⟨_,rfl⟩ (.cons ⟨_,rfl⟩ (.cons ⟨_,rfl⟩ (.cons ⟨_,rfl⟩ (.cons ⟨_,rfl⟩ (.cons ⟨_,rfl⟩ .nil))))))))))))))))));have Ls:∀H,Reps K H jF Xv:=λH=>⟨_,_,rfl,rfl,⟨_,_,rfl,rfl,⟨_,_,rfl,rfl,⟨_,_,rfl,rfl,⟨_,_,rfl,rfl,⟨_,_,rfl,rfl,⟨_,_,rfl,rfl,⟨_,_,rfl,rfl,⟨_,_,rfl,rfl,⟨_,_,rfl,rfl,⟨_,_,rfl,rfl,⟨_,_,rfl,rfl,⟨_,_,rfl,rfl,⟨_,_,rfl,rfl,⟨_,_,rfl,rfl,⟨_,_,rfl,rfl,⟨_,_,rfl,rfl,⟨_,_,rfl,rfl,rfl⟩⟩⟩⟩⟩⟩⟩⟩⟩⟩⟩⟩⟩⟩⟩⟩⟩⟩
 have Ts:u9 K w qq pI jF:=YA (us:=[.int 0,.int 1,.int 2,.int 3,.int 4,.int 5,.int 6,.int 7,.int 8,.int 9,.int 10,.int 11,.int 12,.int 13,.int 14,.int 15,.int 16,.int 17]) LO (.cons (.cons (.cons (.cons (.cons (.cons (.cons (.cons (.cons (.cons (.cons (.cons (.cons (.cons (.cons (.cons (.cons (.cons .nil)))))))))))))))))) (by decide +kernel) LU (.cons ⟨_,rfl⟩ (.cons ⟨_,rfl⟩ (.cons ⟨_,rfl⟩ (.cons ⟨_,rfl⟩ (.cons ⟨_,rfl⟩ (.cons ⟨_,rfl⟩ (.cons ⟨_,rfl⟩ (.cons ⟨_,rfl⟩ (.cons ⟨_,rfl⟩ (.cons ⟨_,rfl⟩ (.cons ⟨_,rfl⟩ (.cons ⟨_,rfl⟩ (.cons ⟨_,rfl⟩ (.cons ⟨_,rfl⟩ (.cons ⟨_,rfl⟩ (.cons ⟨_,rfl⟩ (.cons ⟨_,rfl⟩ (.cons ⟨_,rfl⟩ .nil)))))))))))))))))) λH=>⟨_,_,rfl,rfl,⟨_,_,rfl,rfl,⟨_,_,rfl,rfl,⟨_,_,rfl,rfl,⟨_,_,rfl,rfl,⟨_,_,rfl,rfl,⟨_,_,rfl,rfl,⟨_,_,rfl,rfl,⟨_,_,rfl,rfl,⟨_,_,rfl,rfl,⟨_,_,rfl,rfl,⟨_,_,rfl,rfl,⟨_,_,rfl,rfl,⟨_,_,rfl,rfl,⟨_,_,rfl,rfl,⟨_,_,rfl,rfl,⟨_,_,rfl,rfl,⟨_,_,rfl,rfl,rfl⟩⟩⟩⟩⟩⟩⟩⟩⟩⟩⟩⟩⟩⟩⟩⟩⟩⟩
 have gB:xU mg "NEAR_CODES" (.ref qu):=⟨_,W.mg_of X G Cd,rfl⟩;have kD:tO K w qu kK Xx:=On (us:=Xx) LR (.cons (.cons (.cons .nil))) (by decide +kernel) LW (.cons ⟨_,rfl⟩ (.cons ⟨_,rfl⟩ (.cons ⟨_,rfl⟩ .nil)));have Yb:∀H,Reps K H kN Xx:=λH=>⟨_,_,rfl,rfl,⟨_,_,rfl,rfl,⟨_,_,rfl,rfl,rfl⟩⟩⟩
 have YX:u9 K w qu kK kN:=YA (us:=[.int 18,.int 19,.int 20]) LR (.cons (.cons (.cons .nil))) (by decide +kernel) LW (.cons ⟨_,rfl⟩ (.cons ⟨_,rfl⟩ (.cons ⟨_,rfl⟩ .nil))) λH=>⟨_,_,rfl,rfl,⟨_,_,rfl,rfl,⟨_,_,rfl,rfl,rfl⟩⟩⟩
 have g9:xU mg "FAR_CODES" (.ref qr):=⟨_,W.mg_of X G CZ,rfl⟩;have kC:tO K w qr kJ Xw:=On (us:=Xw) LP (.cons (.cons (.cons .nil))) (by decide +kernel) LV (.cons ⟨_,rfl⟩ (.cons ⟨_,rfl⟩ (.cons ⟨_,rfl⟩ .nil)));have Ya:∀H,Reps K H kM Xw:=λH=>⟨_,_,rfl,rfl,⟨_,_,rfl,rfl,⟨_,_,rfl,rfl,rfl⟩⟩⟩
 have YW:u9 K w qr kJ kM:=YA (us:=[.int 21,.int 22,.int 23]) LP (.cons (.cons (.cons .nil))) (by decide +kernel) LV (.cons ⟨_,rfl⟩ (.cons ⟨_,rfl⟩ (.cons ⟨_,rfl⟩ .nil))) λH=>⟨_,_,rfl,rfl,⟨_,_,rfl,rfl,⟨_,_,rfl,rfl,rfl⟩⟩⟩
 have UO:xU mg "WORD_BITS" (.int 32):=⟨_,W.mg_of X G Cj,⟨_,rfl⟩⟩;have Tv:∀H,zf K H (.int 32) (.int 32):=λ_=>rfl
 have UL:xU mg "ADDRESS_SIGNS" (.int 5):=⟨_,W.mg_of X G CW,⟨_,rfl⟩⟩;have Tr:∀H,zf K H (.int 5) (.int 5):=λ_=>rfl
 have F55:=FP (st:=ZF) l55 c55 k55;refine⟨W.fnOf "law" "law" (j_ ZF) (t7 ZF) (zx ZF) .none kV55 dc55 pm55 an55 cd55 ct55,λs v=>.of_eq rfl,λbase _ _=>?_⟩;have kW:IL l.prog w K mg base:=bm X G  a0;have T3:IY l.prog w K mg base:=c8 X G  a1;have kY:IR l.prog w K mg base:=bv X G  a2;have Ue:Je l.prog w K mg base:=a_ X G kI ZA gC gK kW a3;have Ug:Jg l.prog w K mg base:=b7 X G  a4;have Ub:Ja l.prog w K mg base:=au X G w_ a5;have Uh:Ji l.prog w K mg base:=b9 X G ZU kH Z9 Ug Ub a6;have kX:IM l.prog w K mg base:=bo X G UN Tu UM Tt vx u0 a7;have pM:IK l.prog w K mg base:=bj X G kW a8;have gD:IX l.prog w K mg base:=c7 X G T3 a9;have kP:Jb l.prog w K mg base:=av X G kH Z9 a10;have Uc:Jc l.prog w K mg base:=ax X G ZU vx u0 gA gJ TF gD kP kX a11;have kO:JY l.prog w K mg base:=aq X G vx u0 pM a12;have Ui:Jj l.prog w K mg base:=bA X G Xo Ts gB YX g9 YW UB Ls kD Yb kC Ya a13;have kQ:Jh l.prog w K mg base:=b8 X G gB YX kD Yb pY a14;have Uf:Jf l.prog w K mg base:=b6 X G g9 YW kC Ya pY a15;have Ud:Jd l.prog w K mg base:=ay X G gA gJ kX pM yO a16;have T0:IQ l.prog w K mg base:=br X G vx u0 gD kP Qr kO Ui Ud kQ Uc a17;have Ua:JZ l.prog w K mg base:=ar X G yO UO Tv kY a18;have W4:IU l.prog w K mg base:=bx X G vx u0 pM yO kO kQ kY T0 Uf Ua a19;have kZ:IW l.prog w K mg base:=c5 X G W4 a20;have UZ:JX l.prog w K mg base:=ao X G ZT a21;have T4:IZ l.prog w K mg base:=c9 X G yO kZ UZ a22;have T1:IS l.prog w K mg base:=bw X G kZ T4 a23;have T2:IV l.prog w K mg base:=bz X G w_ Uh a24;have W2:IJ l.prog w K mg base:=bf X G w_ ZS UL Tr T1 Ue T2 a25;have U_:IN l.prog w K mg base:=bp X G kI ZA gC gK yO a26;have T5:Ic l.prog w K mg base:=cA X G w_ yO U_ a27;have W3:IP l.prog w K mg base:=bq X G yO T5 a28;have vd:Jm l.prog w K mg base:=bE X G yO a29;have wy:Jv l.prog w K mg base:=bN X G  a30;have Xz:Jw l.prog w K mg base:=bO X G wF wy a31;have Uv:IC l.prog w K mg base:=bV X G  a32;have Us:J_ l.prog w K mg base:=bS X G ZT Qp a33;have Ux:IE l.prog w K mg base:=bX X G yO wF wy vd Us Uv a34;have pL:Jr l.prog w K mg base:=bJ X G yO wF a35;have Uq:Ju l.prog w K mg base:=bM X G  a36;have Ul:Jo l.prog w K mg base:=bG X G yO wF wy pL Xz a37;have Uk:Jl l.prog w K mg base:=bD X G vd Uq Ux Ul a38;have kT:IF l.prog w K mg base:=bY X G yO wF a39;have X_:Jx l.prog w K mg base:=bP X G pL kT a40;have Ut:IA l.prog w K mg base:=bT X G Qq X_ a41;have Uj:Jk l.prog w K mg base:=bC X G wy pL Ut a42;have kS:Jz l.prog w K mg base:=bR X G  a43;have kU:IG l.prog w K mg base:=bZ X G yO kS a44;have kR:Jq l.prog w K mg base:=bI X G vE a45;have Uz:II l.prog w K mg base:=bd X G yO wF kT kR kU a46;have Um:Jp l.prog w K mg base:=bH X G yO vE kR a47;have Uu:IB l.prog w K mg base:=bU X G yO kS vE kU Um a48;have Uy:IH l.prog w K mg base:=ba X G vd Uk Uz Uj a49;have Xy:Jn l.prog w K mg base:=bF X G wF a50;have Uw:ID l.prog w K mg base:=bW X G w_ yO wF vE a51;have Uo:Js l.prog w K mg base:=bK X G w_ yO Uu Uw Xy a52;have Ur:Jy l.prog w K mg base:=bQ X G pY vE Yq Qo a53;have Up:Jt l.prog w K mg base:=bL X G ZS wy Uo a54;exact bB yO vd vE Uy Up W2 W3 Ur F55
theorem walk{l:W.OpenLaw}{q:Program}{loose:List Str}{XP:(Str->Option Value)->Heap->Prop}{YP:World->Heap->Prop}{d:DefRec}{K:Params->W.Frag}(hn:l.most=some 63)(hdf:d.params.defaults=[])
  (hY:∀(w:World)(h:Heap),YP w h->(K w.params).In h)
  (F:∀(w:World)(mg:Str->Option Value)(fa:Addr)(h:Heap),(K w.params).In h->h.Ns mainGlobals mg->mg d.name=some (.ref fa)->
   ∃fd:FuncData,(∀(s:Shared)(u:Value),BindsTo s fd ⟨[u],[]⟩ [("_law_script",u)])/\∀base:Heap,(K w.params).In base->base.Ns mainGlobals mg->tM l.prog w (K w.params) mg base uu 11 fa fd ["_law_script"] (We (K w.params))) :
  W.WalkO q loose XP YP l.row.toRowW d [] (λf vs=>PySem.call f vs):=
 L3.walkB (n:=63) (k:=11) (x := "_law_script") (sp:=We) hn (by decide) hdf ⟨rfl,by decide,by decide,rfl⟩ hY F λ_ _ a ns hl hb hS=>⟨a,ns,rfl,hS,hl,hb,λ_=>rfl⟩
end My
namespace PySem.W.Fast
def tw18293511944857610820:=0
def tw5080829726415836804:=0
def tw3199195115595613800:=0
def tw12044151041281337641:=0
def tw7417048253960795092:=0
def tw343800730421462677:=0
def tw4324071956267098485:=0
def tw5704967852068909839:=0
def tw874971785238557992:=0
def tw4148627717694543760:=0
def tw13638955494829989944:=0
def tw5450914771530591802:=0
def tw8736602070476292816:=0
def tw11202586389867338726:=0
def tw11533189805187507643:=0
def tw11315328236688561090:=0
def tw12536941181413612756:=0
def tw16149406322418380140:=0
def tw14593702602071296969:=0
def tw13953917458492494552:=0
def tw10788275206230539801:=0
def tw9428188805440473305:=0
def tw14061701409622295229:=0
def tw4337746216048914910:=0
def tw524757894750187727:=0
def tw7773334607642410033:=0
def tw912910382992980734:=0
def tw3728682645463013384:=0
def tw11306664994453347387:=0
def tw9385578277734012092:=0
def tw11639592533312480970:=0
def tw13896342773538245605:=0
def tw7165914150224770740:=0
def tw17171921025836383865:=0
def tw17563047008406645608:=0
def tw9381672967460305328:=0
def tw16873858915520864640:=0
def tw14823443402426059351:=0
def tw14020516163461597021:=0
def tw15677680361557229525:=0
def tw3728662727201576209:=0
def tw11414658382770734691:=0
def tw17779242987752540264:=0
def tw8490002623930801223:=0
def tw3414782425334973470:=0
def tw6542987424390863559:=0
def tw7318524534488942347:=0
def tw11766117453290998823:=0
def tw11045203799117365773:=0
def tw1641962006583522027:=0
def tw13415866296572454119:=0
def tw12040715969051216837:=0
def tw18157689467509972714:=0
def tw18394715369857557236:=0
def tw9174330499936721313:=0
def tw2853572090066851726:=0
def tw1439463210947873932:=0
def tw17701422857704399161:=0
def tw3076462577273320811:=0
def tw8935063441633839356:=0
def tw3152704430264379192:=0
def tw4655076190111417192:=0
def tw6784135905815564539:=0
def tw7870423911868284481:=0
def tw15186430597148182399:=0
def tw17809337181145107872:=0
def tw2328792722620385300:=0
def tw10007499751575384675:=0
def tw7005432500089946614:=0
def tw15025437233319176802:=0
def tw5038121775093950111:=0
def tw4537976533607520723:=0
def tw1132368361132801905:=0
def tw7162499410060533782:=0
def tw16256324718112146297:=0
def tw1159725136971278268:=0
def tw3076882192807925525:=0
def tw15779958344915861824:=0
def tw9840760441687997627:=0
def tw6419449470254891743:=0
def tw15740962119809978874:=0
def tw16751839625499346012:=0
def tw7146925991781352090:=0
def tw15457421052733293340:=0
def tw17522000028642927660:=0
def tw14474037820679550705:=0
def tw5677897622658177450:=0
def tw16206459801413311996:=0
def tw3835871592564671458:=0
def tw8122621890368893509:=0
def tw2511737453312306441:=0
def tw2703997340702368191:=0
def tw14495233635620530791:=0
def tw10492611329210498925:=0
def tw9842180024302754913:=0
def tw12698722100462145545:=0
def tw11493894669852850340:=0
def tw3420992697831102085:=0
def tw10578703055901189524:=0
def tw15804216447112234143:=0
def tw13110271353169674871:=0
def tw14189911124683002989:=0
def tw18325712726338036928:=0
def tw4688241360108046535:=0
def tw15563468756553421169:=0
def tw17865448102725768077:=0
def tw4843528410039954527:=0
def tw14279372285211548930:=0
def tw244253847403199760:=0
def tw6738504882970334976:=0
def tw9382160650906882273:=0
def tw7769505242841933300:=0
def tw17500420556598926303:=0
def tw13065833870331833766:=0
def tw17267873916831801779:=0
def tw4390425306048702359:=0
def tw17563019994831882275:=0
def tw8406668407412924774:=0
def tw17764259823793123424:=0
def tw5155151559095403053:=0
def tw13949672593008454967:=0
def tw5621621873786782138:=0
def tw10872423298473032977:=0
def tw426833710763172186:=0
def tw1884469192688284804:=0
def tw5169677053047578287:=0
def tw8134867016586638596:=0
def tw177307605276286656:=0
def tw13839704154226446470:=0
def tw11622054132035808546:=0
def tw12572601365414573690:=0
def tw354822718223242776:=0
def tw11470942196707507168:=0
def tw4006106520480044413:=0
def tw3195389793942273474:=0
def tw8180986965032546825:=0
def tw14581522510002392952:=0
def tw2437351240422531226:=0
end PySem.W.Fast
open PySem PySem.W PyProof.Rows
set_option maxRecDepth 100000 in
set_option maxHeartbeats 0 in
theorem PySem.Challenge.cw_markrun_k63_whole_listings_read_back_holds : PySem.Challenge.rw_markrun_k63_whole_listings_read_back.Holds := by
 w_on; o_law; k_head; (case hw=>w_witness2)
 k_fill
 refine My.walk (l:=PySem.Challenge.rw_markrun_k63_whole_listings_read_back) rfl rfl (λw h Y=>PySem.W.kIn_of Y) ?F
 case F=>
  intro w mg fa h KX G hmg;refine' My.all_mk KX G hmg ?a0 ?a1 ?a2 ?a3 ?a4 ?a5 ?a6 ?a7 ?a8 ?a9 ?a10 ?a11 ?a12 ?a13 ?a14 ?a15 ?a16 ?a17 ?a18 ?a19 ?a20 ?a21 ?a22 ?a23 ?a24 ?a25 ?a26 ?a27 ?a28 ?a29 ?a30 ?a31 ?a32 ?a33 ?a34 ?a35 ?a36 ?a37 ?a38 ?a39 ?a40 ?a41 ?a42 ?a43 ?a44 ?a45 ?a46 ?a47 ?a48 ?a49 ?a50 ?a51 ?a52 ?a53 ?a54 ?a55 ?l55 ?c55 ?k55 ?EW ?EY ?ER ?EQ ?EX ?ES ?EM ?EU ?ET ?EV ?EN ?EO ?EL ?Ci ?LS ?Ch ?Ca ?Ct ?E6 ?EA ?EC ?EE ?EG ?EH ?EI ?EJ ?EK ?Cv ?Cw ?Cy ?Cz ?C_ ?E1 ?E2 ?E3 ?E4 ?E5 ?E8 ?E9 ?Cm ?Cq ?Cf ?Cn ?Cr ?Ce ?Cg ?Cu ?E7 ?EB ?ED ?EF ?Co ?Cs ?Cc ?LQ ?CY ?LO ?LU ?Cd ?LR ?LW ?CZ ?LP ?LV ?Cj ?CW
  all_goals try exact⟨_,_,_,_,_,_,_,_,_,_,by k_is,by k_is,by k_is,by k_is⟩
  all_goals try (first|k_is|k_exc|kit_is|kts_exm)
  all_goals decide
